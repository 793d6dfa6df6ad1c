import PyProof.Rows.All
import Wide.All
import OpenK.AllK
import Wide.FinOn
import Lean
import PyProof.EqAt
import PyProof.EqKinds
import PyProof.TupleCall
import PyProof.Rows.TopTwo
import KE.KIsAll
import PyProof.ExcAttrAll.ValueError
import KE.KTryMore
import KE.KRevIter
import PyProof.SetRoads
import KE.KDictList
import PySem.Challenge.RW_firstpowers_k79_whole_tables_in_any_orde
set_option Elab.async false
set_option linter.all false
set_option maxRecDepth 100000
set_option maxHeartbeats 8000000
open _root_ renaming List->G0,Nat->G7,Int->P0,Option->P7,decide_eq_true->D2,if_neg->R3,if_pos->R5,decide_eq_false->R8,Array->M8,Bool->N2,of_decide_eq_true->C4,decide_eq_true_iff->J7,String->U4,StateT->W8,decide_eq_true_eq->X7,exists_eq_left'->cW,ForInStep->dH,if_true->i3,if_false->lC,of_decide_eq_false->oY,dif_pos->pX,beq_self_eq_true->qS
open List renaming length_map->G1,getElem?_eq_getElem->G2,mem_singleton->G9,length_append->P2,range->P4,mem_cons_self->P6,getElem?_eq_some_iff->P8,mem_of_getElem?->P9,getElem?_map->D1,mem_append_right->D3,append_assoc->D4,mem_append->D5,mem_cons_of_mem->D7,size_toArray->D8,map_append->R1,map_map->R4,mem_map->R9,mem_range->S0,getD_eq_getElem?_getD->S1,take_of_length_le->S3,length_range->S6,length_cons->S7,length_take->S8,replicate->S9,mem_cons->T3,all_eq_true->T6,take_append_drop->T9,map_congr_left->M6,map_cons->M7,length_reverse->N4,getElem_mem->N6,pairwise_append->B1,take_add_one->B6,mem_append_left->B7,getElem?_append_right->B8,length_drop->C6,mem_filter->C9,not_mem_nil->F4,mem_of_mem_drop->L0,mem_of_mem_take->L5,filter_cons_of_pos->L6,length_nil->O4,pairwise_singleton->O7,getElem?_append_left->O8,drop_eq_nil_of_le->A1,append_nil->A8,nil_append->A9,find?_cons->E1,mem_reverse->E2,filter_cons_of_neg->E3,take_sublist->E6,any_eq_true->E9,getElem?_range->I0,getElem?_set_ne->J3,nodup_cons->K0,extract_eq_drop_take->K3,mem_of_find?_eq_some->K5,replicate_succ->K6,length->K8,nodup_append->K9,length_filter_le->Q0,find?_eq_none->Q8,lookup_cons->Q9,take_length->U0,drop_sublist->U9,reverse_perm->V1,range_succ->V5,pairwise_iff_getElem->V8,getElem?_eq_none->V9,pairwise_cons->W1,map_id->W7,drop_append_of_le_length->X0,eq_nil_of_length_eq_zero->X1,take_append_of_le_length->X2,flatten_cons->X5,length_eq_zero_iff->X6,pairwise_map->Y0,getElem?_cons_zero->Y2,getElem_of_mem->Y5,all_map->Y8,cons_append->Z5,drop_drop->aD,zip_cons_cons->aE,forIn_cons->aK,getElem?_take_of_lt->aR,flatMap_append->aW,find?_some->bL,perm_append_comm->bM,getElem?_reverse->bO,flatMap_cons->bU,take_succ_cons->cL,filter_eq_self->cO,mem_filterMap->cZ,getElem?_drop->dB,getElem?_cons_succ->dM,getElem?_set_self->dN,map_nil->dR,getElem?_set->dS,reverse_cons->dW,foldl_append->dY,take_zero->dZ,ext_getElem?->eQ,nodup_nil->e7,eraseIdx_eq_take_drop_succ->fH,length_singleton->fI,pairwise_reverse->fJ,eq_nil_iff_forall_not_mem->fO,map_drop->fX,filterMap_cons->gK,mem_map_of_mem->gM,drop_zero->iD,filter_append->iJ,take_succ->iN,getElem?_eq_none_iff->iT,exists_mem_of_ne_nil->iU,range'->i6,map_take->j5,getElem?_replicate->lA,perm_middle->lF,range_succ_eq_map->lV,any_map->l8,getElem_of_append->mE,filter_eq_nil_iff->mI,of_mem_zip->mK,length_replicate->mP,getElem?_toArray->mR,eq_nil_or_concat->mS,concat_eq_append->mT,set_append_right->mU,drop_take->nM,take_take->nN,getLast?_concat->nO,range_eq_range'->n6,length_pos_iff->oI,filterMap_map->oT,Nodup->oW,length_range'->o8,any_eq_false->pF,getElem_take->pV,getElem_drop->pW,zip_nil_left->p7,find?_isSome->p9,filter_congr->qD,countP_cons->qO,append_cons->qP,length_set->rB,foldl_cons->rC,sum_append->rJ,length_zip->rN,filter_nil->rT,foldl->sJ,forIn_nil->sR,all_cons->tG,any_cons->tH,map_id'->xQ,map->IA
open PySem renaming Value->G3,Shared->G6,wpAny_pure->G8,Addr->P1,wpAny->D9,starEach->R6,model->S2,foldedSetIterable->T5,Program->T7,Expr->T8,wpAny_mono->M1,FuncData->M9,wpAny_call_entry->N5,compareOp->N8,wpAny_callSpecial?_slot->N9,Around->B2,wpAny_loadPart'->C0,World->C1,Heap->L8,wpAny_holding->O0,wpAny_newObj_type->O3,mainGlobals->O6,eval->A0,Stmt->A3,wpAny_truthy_bool->E5,binaryOp->J4,bootBuiltins->Q1,sysModules->Q6,backTo->Q7,PyData->U1,Scope->U2,tupleKeyHash->V2,swapsWith->V3,cellsFrom->V4,wpAny_standAt->W4,behindInMarks->W5,attributeBase->W6,DictEntry->X8,ofAClassStatement->Y1,wpAny_specialOf->Y3,Comprehension->Z4,wpAny_isInstance->Z7,IsPair->aC,holding->aF,wpAny_passesOwn->aI,letOwnedTupleGo->aJ,wpAny_field->aL,wpAny_attempt->aU,mem_of_lookup->aV,wpAny_rule->bF,Keyword->bG,codeAny_builtin->bJ,wpAny_callSpecialIfBoundUnlessNone?_slot->bP,wpAny_notOrdered_dict->bQ,wpAny_pyIter_list->bT,keywordEach->b7,wpAny_seqItems->cB,codeAny->cE,swapsWithSole->cP,swappedStores->cQ,standAt->cV,assign->cX,assignEach->cY,IsItemIter->dE,sliceBounds->dG,Fin->dI,atKey->dL,wpAny_sequenceKey->dP,wpAny_typeOf->dQ,wpAny_setField->dX,wpAny_isOneOf_itemiter->e9,getItem->fQ,comprehension->fV,hashByValue->gB,wpAny_execs_nil->gC,codeAny_of_tree->gE,wpAny_ret_mkInt->gG,pyNext->gS,wpAny_Call_Name_kw->gY,backToKw->g7,call_meets->g8,wpAny_pyIter_tuple->iC,isSubtype_stop->iG,IsTupleKey->iK,wpAny_pyHash_tuple->iM,wpAny_binaryOp_repeat_ref->iQ,CmpOp->i0,wpAny_pyIter_slot->i5,richCompare->i7,wpAny_dictEntries->i8,rawInt->i9,lastMarks->k9,noFill_tuple_add->lB,compTurn->lD,wpAny_askSetting->lE,builtinsNs->lI,truthy->lJ,codeAny_mono->lK,IsPart->lN,typeIs_int->lQ,reduceHash->lU,richCompare_meets_room->mF,exec_Assign_Name_used->mQ,isSubtype_tuple_tuple->mW,wpAny_isOneOf_keyiter->mX,wpAny_loadName_local->mY,pyIter->mZ,subscripted->m9,lookup_relabel_local->nB,intBits_le_iff->nH,setField->nI,wpAny_newTuple->nJ,wpAny_updateSeq_pair->nK,wpAny_pyIter_keyiter->nX,PassesOwn->oA,callerA->oB,eqIsQuiet->oC,wpAny_loadName_cell->oE,assignInOrder->oJ,seq_tuple_add->oK,evalPart_none->oN,wpAny_notedAt->oO,plainId_quiet->oR,wpAny_eqBool_tuple->oZ,wpAny_tupleItemsOf->o7,Operator->pB,concat_meets->pI,seqIndex_neg->pJ,wpAny_isNot_plain->pP,callSpecial?->pR,wpAny_pyIter_enum->pS,wpAny_cRoomFor_or->pZ,wpAny_execs_cons->qG,seqSlot_of->qL,Model->qX,seqIndex_of->qY,pushCells_keeps->rE,theTreesLotGoes->rF,setItem->rX,BindsTo->rY,wpAny_Name->sB,bindName->sC,wpAny_bindName->sD,Result->sF,wpAny_call->sG,bindL->sH,bindC->sI,fitsIndex_both->sL,newFunctionEnv->sM,compEnvC->sN,wpAny_is_plain->sP,wpAny_runValue->sS,intBits_le_64->sW,evalPart_some->tD,eval_ListComp->tF,wpAny_onRaise->tM,wpAny_newList->tP,IsItemIterOut->tS,storeName->tX,Within->u6,name_of_addr->u7,newDict->xP,interactive->xY,IsRangeIter->xZ,sizeLine_eq->x3,bindArgs->x4,wpAny_Slice->x5,compPost->y3,wpAny_of_eq->y4,raiseNew->y9,storedH_new->IK,wpAny_letGo->IL,entryOfKey->IR,wpAny_load->IU,typeLookup->IZ,typeIs_str->G0a,call->G0c,closureFor->G0d,seqRepeat?->G0e,preSum->G0f,TypeCalled->G0g,release->G0l,operate->G0r,newList->G0s,data2->G0L,sizeOk->G0M,Params->G0N
open PySem.W renaming Frag->G5,kia_one->J9,keepIn->aX,fnOf->cF,mg_of->f8,nsIn->gQ,methodObj->iW,cellsFrom_some->lM,instObj->mJ,kat_nil->mN,lookIn->m5,kitOne->m7,codeIn->m8,tabObj->nD,tabIn->oP,kitx_list->pG,kitx_dict->pH,plainGet->qH,OpenLaw->rH,findIn->sE,CodeHd->sO,kdl_hint_dict->xU,hideAll_size->xW,hideAll_none->xX,hideAll_get->IM,of_hideAll->IS,kitx_float->IV,kitx_tuple->IW,callWith_K->IX,codeRec_of->IY,ki_setBack->G0b,kdl_extend->G0k,hasDictIn->G0m,plainOver->G0n,specialIn->G0o,kitx_none->G0p,kitx_bool->G0q,krv_range->G0t,eq_bytes->G0v,ne_bytes->G0w,kitx_int->G0x,kitx_str->G0y,kitx_own->G0z,ki_setAt->G0A,kcp_self->G0B,kat_cons->G0C,kdl_call->G0D,hideAll->G0E,takesIn->G0F,krv_all->G0G,KatTups->G0H,kat_yes->G0I,kat_one->G0J,InstAt->G0K,tab_of->G0O,KatLex->G0R,kat_no->G0S,kat_lt->G0T,KdlSrc->G0U,mroIn->G0V,WalkO->G0W
open PySem.Heap renaming get?_push_of_some->P3,lt_size->R7,get?_push_size->S4,SameBut->Q2,get?_update_other->Y7,get?_update_self->aG,size_push->b8,get?_update_ne->oF,ExtBut->q0,IsTuple->v6
open Nat renaming le_refl->P5,le_trans->S5,le_of_lt->M5,ne_of_lt->N3,lt_of_lt_of_le->N7,zero_le->B0,lt_irrefl->A4,lt_of_le_of_ne->E7,le_add_left->E8,lt_of_le_of_lt->J5,le_of_eq->Q4,min_eq_left->Q5,ne_of_gt->U5,lt_of_succ_lt->V0,one_pos->W9,zero_add->Y9,beq->Z0,lt_succ_self->Z6,not_lt->aA,min_le_right->aY,le_add_right->a8,eq_of_beq_eq_true->bR,le_of_ble_eq_true->bS,pow_le_pow_right->b9,le_of_not_lt->cG,lt_trans->cH,succ_le_succ->cJ,add_le_add_left->cM,add_sub_cancel'->cN,add_assoc->cT,sub_lt->c9,pos_of_ne_zero->dA,add_sub_cancel_left->dJ,lt_of_succ_le->dU,succ_le_of_lt->eO,lt_succ_iff->gH,le_antisymm->gI,add_right_comm->iI,lt_succ_of_lt->i4,add_comm->lR,mul_succ->mB,dvd_of_mod_eq_zero->mC,add_zero->mD,lt_or_ge->mH,add_le_add_right->nP,le_zero->nZ,lt_one_iff->n8,mod_lt->oX,succ_mul->pK,mul_comm->pM,sub_zero->pQ,sub_pos_of_lt->pT,sub_self->pU,le_succ_of_le->pY,le_total->qB,beq_refl->qC,min_eq_right->qM,succ_lt_succ->qR,max_eq_left->rO,min_le_left->rQ,not_lt_zero->rV,ble->sA,mul_le_mul->sQ,succ_pos->v9,pow_succ->xN,mul_one->IC,le_succ->IE,sub_le->G0h,succ->G0Q
open Bool renaming false_ne_true->D0,and_eq_true->C7,eq_iff_iff->J8,true_and->K2,false_eq_true->Z9,eq_false_iff->bW,false_and->bY,and_true->f7,not_true->j7,or_eq_true->mL,decide_and->mO,or_eq_false_iff->nC,decide_or->n5,false_bne->n9,noConfusion->qN,and_false->sK,or_false->tE
open PyProof.Rows renaming Keyed->D6,arrOf->T4,pendingOf->B3,SortSt->C5,slot_tuple_getitem->A6,boot_all->A7,callWith_type1->Y6,failedOf->aO,entry_tuple_getitem->gL,assignInOrder_cons->gR,envOfC->gZ,slicePart_none->g4,args_tuple_getitem->g6,AllBare->iY,subscriptTail->j0,subscriptTail_builtinR->lO,IntsAre->lS,seqObj->nQ,tupleItemsOf_->oM,Subscript_->oU,isTrue_plain->o9,assignInOrder_nil->pE,callWith_builtin1->qI,boot_isinstance->rG,get?_update_seq->rP,slicePart_int->sZ,reverseSlice'->tN,listUpdate_at->tO,IsTup->tW,tail_any->x8,mergeAt'->IF,binarySort'->IG,keyKind'->IH,seqEpoch_at->II,recsOf->IN,lt_int->IP,isTrue_and->IT,setPending->G0i,tuples'->G0u
open Array renaming length_toList->N0,getElem?_toList->C3,toList_append->F7,forIn_toList->J6,getElem?_eq_none_iff->U7,getElem?_eq_some_iff->U8,toList_push->aM,toList_extract->aP,toList_reverse->gA,isEmpty_eq_false_iff->iB,toList_setIfInBounds->iH,size_setIfInBounds->j6,eraseIdxIfInBounds->j8,toList_eraseIdx->mV,toArray_toList->nU,toList->pA,isEmpty_iff->pO,isEmpty->tV
open Option.some renaming inj->B9,injEq->bX
open PySem.PyData renaming canLayAll0->C8,depthAll->F5,canLay0->L9,eqv->O5,depth->J1,eqvAll->U3,int->iF
open PySem.Value renaming ref->F6,bool->bE,int->j9,none->oS,str->qF,isInt->qW,float->xV,type->IQ
open PySem.PassesOwn renaming never->F8
open Option renaming map_eq_some_iff->F9,map_eq_none_iff->bH,map_some->bK,getD_some->cI,isSome_iff_exists->cR,isSome_map->fC,isNone_iff_eq_none->iR,getD_none->qJ
open Or renaming inl->H0,inr->W0
open PySem.F renaming slot_dict_keyiterator_next->L7,args_dict_keyiterator_next_1->W3,slot_dict_itemiterator_next->X3,entry_dict_keyiterator_next->X4,slot_tuple_iterator_next->aB,plainAttrs_list->aZ,args_tuple_add_2->cS,entry_tuple_add->dF,slot_tuple_add->dO,slot_tuple_hash->eU,args_dict_itemiterator_next_1->fE,entry_dict_itemiterator_next->fM,slot_int_rmul->gD,args_tuple_iterator_next_1->gF,entry_tuple_iterator_next->gP,slot_dict_items->lH,slot_dict_items_iter->mG,args_tuple_hash_1->oG,slot_dict_delitem->oH,entry_tuple_hash->o6,args_int_rmul_2->pL,plain_list_iadd->qA,entry_int_rmul->qK,slot_dict_iter->qU,fills_int_mul->rD,slot_zip_next->rL,slot_zip_iter->rM,slot_dict_len->rS,args_dict_items_1->sV,slot_list_append->tI,type_list_append->tJ,slot_list_insert->tK,type_list_insert->tL,slot_list_extend->tQ,type_list_extend->tR,entry_dict_items->tU,slot_list_index->tZ,type_list_index->t8,args_tuple_lt_2->u3,plainAttrs_dict->u4,type_dict_items->u5,called_zip->v7,entry_tuple_lt->w6,args_list_lt_2->xM,slot_tuple_lt->xS,entry_list_lt->xT,slot_list_lt->IJ
open PySem.Builtin.Slice renaming slicePlaces->O9,sliceAdjust->V6,sliceApplied->Z8,sliceFields->iP,slicePartIndex->rA
open PySem.Builtin.Tuple renaming tupleExact->A5,tupleItemsOf->U6,tupleHashOf->V7,tupleIsExact->hO,tupleTooMany->iA,tupleCompareSizes->qE
open Ne renaming symm->E4
open PySem.Str renaming ofString->J0,empty->tY
open PySem.NameKind renaming free->K1,cell->aT
open PySem.Builtin.SmallTypes renaming nextOf->K4,stopIteration->aN,ownedTupleIsFree->oQ
open Function renaming comp_apply->K7,comp_def->bV
open Int renaming toNat_natCast->X9,emod_nonneg->gJ,toNat_of_nonneg->gO,fdiv_eq_ediv_of_nonneg->gU,fmod_eq_emod_of_nonneg->gV,lt_of_le_of_lt->iE,emod_lt_of_pos->iO,mul_comm->l9,le_refl->nE,mul_nonneg->nG,lt_of_lt_of_le->oV,natCast_emod->qV,pow_pos->qZ,natCast_add->rK,toNat->u0,ediv_one->u8,le_of_lt->u9,ofNat_le->xO,ne_of_gt->xR,mul_pos->y6,pow_add->y8
open PySem.Heap.SameBut renaming update->Y4,refl->pN
open Decidable renaming byContradiction->aH
open True renaming intro->aQ
open PySem.Builtin.List renaming listTooLong->aS,listFitsIndex->g9,listExtendWith->r9
open PySem.pyHashByItsType renaming reduced->a9
open ForInStep renaming yield->bI
open PySem.Obj renaming mapSeq->bZ,mapFields->f6,data_mapDictKeys->nV
open PySem.Around renaming under_plainId->cA
open Sum renaming inr->cC,inl->iV
open Classical renaming byContradiction->cK,propDecidable->lG
open PySem.Builtin.Dict_items renaming ownedTupleIsFree->cU,pairFromOwner->fB,newIterator->qT,ownsTuple->rR,dictOf->sU
open PySem.SetTable renaming sizeAbove->dD
open PySem.SeqAt renaming shaped->fK
open PyProof.Rows.LCg renaming lst->fT
open List.Perm renaming trans->mM,append->qQ,cons_inv->G0j,cons->G0P,nil->G0X
namespace L2
open PySem PySem.Spec PyProof.Rows
abbrev Ŋ:=Sum P0 Str
def AV:Ŋ->G3->N2
 | .inl k,v=>qW k v
 | .inr x,v=>Value.isStrOf x v
def uC (w:C1):Ŋ->P0
 | .inl k=>hashInt k
 | .inr x=>hashStr w x
theorem jZ: ∀ {k:Ŋ} {v:G3},AV k v=true->(∃i t,k=iV i/\v=j9 i t)\/(∃x t,k=cC x/\v=qF x t)
 | .inl i,v,h=>by
  obtain⟨t,e⟩:=Value.isInt_shape (k:=i) (v:=v) h;exact .inl ⟨i,t,rfl,e⟩
 | .inr x,v,h=>by
  obtain⟨t,e⟩:=Value.isStrOf_shape (x:=x) (v:=v) h;exact .inr ⟨x,t,rfl,e⟩
theorem AW (a b:P0):decide ((iV a:Ŋ)=iV b)=(a==b):=by
 by_cases e:a=b
 ·subst e;simp
 ·have h: ¬ (iV a:Ŋ)=iV b:=λq=>e (Sum.inl.inj q)
  rw [R8 h];exact(beq_eq_false_iff_ne.mpr e).symm
theorem AX (a b:Str):decide ((cC a:Ŋ)=cC b)=decide (a=b):=by
 by_cases e:a=b
 ·subst e;simp
 ·have h: ¬ (cC a:Ŋ)=cC b:=λq=>e (Sum.inr.inj q)
  rw [R8 h,R8 e]
theorem AY (a:P0)(b:Str):decide ((iV a:Ŋ)=cC b)=false:=R8 (λq=>nomatch q)
theorem AZ (a:Str)(b:P0):decide ((cC a:Ŋ)=iV b)=false:=R8 (λq=>nomatch q)
def Rh (prog:T7)(w:C1):PySem.KeyKind prog w Ŋ where
 is:=AV
 hash:=uC w
 inj:=λv a b ha hb=>by
  rcases jZ ha with ⟨i,t,rfl,rfl⟩|⟨x,t,rfl,rfl⟩
  ·rcases jZ hb with ⟨j,u,rfl,e⟩|⟨y,u,rfl,e⟩
   ·injection e with e1 _;rw [e1]
   ·exact nomatch e
  ·rcases jZ hb with ⟨j,u,rfl,e⟩|⟨y,u,rfl,e⟩
   ·exact nomatch e
   ·injection e with e1 _;rw [e1]
 byValue:=λk v h=>by
  rcases jZ h with ⟨i,t,rfl,rfl⟩|⟨x,t,rfl,rfl⟩<;>rfl
 pyHash:=λhv h=>by
  rcases jZ hv with ⟨i,t,rfl,rfl⟩|⟨x,t,rfl,rfl⟩
  ·exact wpAny_pyHash_int h
  ·exact wpAny_pyHash_str h
 eqBool:=λhu hv h=>by
  rcases jZ hu with ⟨i,t,rfl,rfl⟩|⟨x,t,rfl,rfl⟩
  ·rcases jZ hv with ⟨j,u,rfl,rfl⟩|⟨y,u,rfl,rfl⟩
   ·rw [AW] at h;exact wpAny_eqBool_int h
   ·rw [AY] at h;exact SeqAt.EqAt.int_str i t y u _ _ _ _ h
  ·rcases jZ hv with ⟨j,u,rfl,rfl⟩|⟨y,u,rfl,rfl⟩
   ·rw [AZ] at h;exact SeqAt.EqAt.str_int x t j u _ _ _ _ h
   ·rw [AX] at h;exact wpAny_eqBool_str h
 «strs» :=λk x t v h=>by
  rcases jZ h with ⟨i,u,rfl,e⟩|⟨y,u,rfl,e⟩
  ·exact nomatch e
  ·injection e with e1 _
   subst e1;cases v<;>rfl
inductive V where
 |non|bl (b:N2)|int (i:P0)|str (x:Str)|byt (b:M8 UInt8)|flt (b:UInt64)|ref (a:P1)|ty (n:U4)
 deriving DecidableEq
def RelV:V->G3->Prop
 | .non,u=>u=oS
 | .bl b,u=>u=bE b
 | .int i,u=> ∃t,u=j9 i t
 | .str x,u=> ∃t,u=qF x t
 | .byt b,u=> ∃t,u=Value.bytes b t
 | .flt b,u=> ∃t,u=xV b t
 | .ref a,u=>u=F6 a
 | .ty n,u=>u=IQ n
abbrev È:G0 V->G0 G3->Prop:=Paired RelV
theorem È.length {xs:G0 V}{us:G0 G3}(r:È xs us):xs.length=us.length:=Paired.length r
theorem È.get: ∀ {xs:G0 V} {us:G0 G3} {i:G7} {x:V},È xs us->xs[i]? =some x-> ∃u,us[i]? =some u/\RelV x u
 |_,_,_,_,.nil,e=>by simp at e
 |_,_,0,_,.cons r _,e=>by simp at e;subst e;exact⟨_,rfl,r⟩
 |_,_,i+1,x,.cons _ t,e=>by
  obtain⟨u,h1,h2⟩:=È.get (i:=i) (x:=x) t (by simpa using e);exact⟨u,by simpa using h1,h2⟩
variable {u:G3}
theorem È.set {x:V}(r:RelV x u): ∀ {xs:G0 V} {us:G0 G3} (i:G7),È xs us->È (xs.set i x) (us.set i u)
 |_,_,_,.nil=> .nil
 |_,_,0,.cons _ t=> .cons r t
 |_,_,i+1,.cons q t=> .cons q (È.set r i t)
theorem È.append: ∀ {xs ys:G0 V} {us ws:G0 G3},È xs us->È ys ws->È (xs++ys) (us++ws)
 |_,_,_,_,.nil,s=>s
 |_,_,_,_,.cons r t,s=> .cons r (È.append t s)
theorem È.take: ∀ {xs:G0 V} {us:G0 G3} (n:G7),È xs us->È (xs.take n) (us.take n)
 |_,_,0,_=> .nil
 |_,_,_+1,.nil=> .nil
 |_,_,n+1,.cons r t=> .cons r (È.take n t)
theorem È.drop: ∀ {xs:G0 V} {us:G0 G3} (n:G7),È xs us->È (xs.drop n) (us.drop n)
 |_,_,0,r=>r
 |_,_,_+1,.nil=> .nil
 |_,_,n+1,.cons _ t=>È.drop n t
def Hl:P7 V->P7 G3->Prop
 |some v,some u=>RelV v u
 |none,none=>True
 |_,_=>False
def KV {κ:Type}:G0 (κ×V)->G0 (κ×G3)->Prop:=Paired λ(p:κ×V) (q:κ×G3)=>p.1=q.1/\RelV p.2 q.2
def kV:Ŋ->V
 | .inl i=> .int i
 | .inr x=> .str x
inductive HO where
 /-- a list -/
 |lst (xs:G0 V)
 /-- a tuple (never changes) -/
 |tup (xs:G0 V)
 /-- a dict X0f keys are ints and texts;one X0f keys are tuples of ints and texts (Ś empty one is both) -/
 |dK (Ā:G0 (Ŋ×V))|dT (Ā:G0 (G0 Ŋ×V))
 /-- a set of ints: its members,its size -/
 |set (S:P0->N2) (n:G7)
 /-- an instance of Ś class at C,its dict at dx,its attributes -/
 |ins (C dx:P1) (fs:G0 (Str×V))
 /-- Ś dict of Ś instance at x -/
 |own (x:P1)
 /-- Ś dict of an exception -/
 |xd (fs:G0 (Str×V))
 /-- a bound method,f of x -/
 |met (f x:P1)
 /-- a range object lo,lo+1,.. below hi -/
 |rng (lo hi:P0)
 /-- a X0g X1c is known to Ś object (Ś script;a dict while a loop walks it):read,never written while it is so -/
 |frz (o:Obj) (u:HO)
 /-- a code object's table -/
 |tbl (ps:M8 G3)
 /-- any other X0g,by X0t is true of its one object (a def of one's own: SetO a S n:=HO.ext λh=> ..) -/
 |ext (φ:L8->Prop)
abbrev Hp:=P1->P7 HO
def upd (H:Hp)(a:P1)(o:HO):Hp:=λb=>if b=a then some o else H b
variable {H:Hp}{a:P1}{o:HO}
theorem jw:upd H a o a=some o:=by unfold upd;rw [R5 rfl]
variable {b:P1}
theorem jt (h:b≠a):upd H a o b=H b:=by unfold upd;rw [R3 h]
theorem Da {u:HO}(h:H a=some o)(h':H b=some u)(d:o≠u):a≠b:=by
 intro e;subst e;rw [h] at h';exact d (B9 h')
theorem jp (h:H a=some o)(h':H b=none):a≠b:=by
 intro e;subst e;rw [h] at h';cases h'
def é (h:L8)(a:P1)(items:M8 G3):Prop:= ∃o,h.get? a=some o/\o.cls= .type "tuple" /\o.dict=none/\ ∃n,o.data= .seq items n
theorem é.tup {h:L8}{a:P1}{items:M8 G3}(x:é h a items):tW h a items:=let ⟨o,e,c,_,n,d⟩:=x;⟨o,e,c,n,d⟩
theorem é.new (h:L8)(items:M8 G3):é (h.push {cls:= .type "tuple",data:= .seq items}) h.objs.size items:=⟨_,S4 _ rfl,rfl,rfl,_,rfl⟩
section
variable (P:T7)(w:C1)
def Ö (H:Hp)(h:L8)(a:P1):HO->Prop
 | .lst xs=>xs.length<=sizeLine/\ ∃ (its:G0 G3) (n:G7),È xs its/\h.get? a=some {cls:= .type "list",data:= .seq its.toArray n}
 | .tup xs=>xs.length<=sizeLine/\ ∃its:G0 G3,È xs its/\é h a its.toArray
 | .dK Ā=>Ā.length<=sizeLine/\(a==Q6)=false/\ ∃vs,KV Ā vs/\h.DictOf (Rh P w) a vs
 | .dT Ā=>Ā.length<=sizeLine/\(a==Q6)=false/\ ∃xs:G0 (G0 Ŋ×P1×G3),
  Paired (λ(p:G0 Ŋ×V) (q:G0 Ŋ×P1×G3)=>p.1=q.1/\H q.2.1=some (.tup (p.1.map kV))/\RelV p.2 q.2.2) Ā xs/\
  ∃o es ep,h.get? a=some o/\o.ExactDict/\o.data= .dict es ep/\es.toList=xs.map (IR (tupleKind (Rh P w)))/\(xs.map (·.1)).Nodup
 | .set S n=>h.SetOf (intKind P w) a S n
 | .ins C dx fs=>H dx=some (.own a)/\fs.length<=1000/\dx≠a/\h.get? a=some (mJ C dx)/\
  ∃mA,h.Ns1 dx mA/\(∀f,Hl (fs.lookup f) (mA f))/\u6 mA (fs.map (·.1))
 | .own _=> ∃o,h.get? a=some o
 | .xd fs=> ∃mA,h.Ns1 a mA/\ ∀f,Hl (fs.lookup f) (mA f)
 | .rng lo hi=> ∃t u v,h.get? a=some {cls:= .type "range",data:= .fields #[.int lo t,.int hi u,.int 1 v]}
 | .frz o u=>h.get? a=some o/\Ö H h a u
 | .tbl ps=>h.get? a=some {cls:= .none,data:= .fields ps}
 | .met f x=>h.get? a=some (iW (.ref f) (.ref x))
 | .ext φ=>φ h/\(∃o,h.get? a=some o)/\ ∀h1 h2:L8,φ h1->(∀o,h1.get? a=some o->h2.get? a=some o)->φ h2
def Ě (H:Hp)(h:L8):Prop:= ∀a o,H a=some o->Ö P w H h a o
end
section
variable {P:T7}{w:C1}{H H':Hp}{h h':L8}{a:P1}{o:HO}
theorem Ö.lt (x:Ö P w H h a o):a<h.objs.size:=by
 cases o with
 |lst xs=>obtain⟨_,_,_,_,e⟩:=x;exact R7 e
 |tup xs=>obtain⟨_,_,_,p⟩:=x;exact p.tup.lt
 |dK Ā=>obtain⟨_,_,_,_,o,_,_,e,_⟩:=x;exact R7 e
 |dT Ā=>obtain⟨_,_,_,_,o,_,_,e,_⟩:=x;exact R7 e
 |set S n=>obtain⟨o,_,_,_,e,_⟩:=x;exact R7 e
 |ins C dx fs=>obtain⟨_,_,_,e,_⟩:=x;exact R7 e
 |own y=>obtain⟨_,e⟩:=x;exact R7 e
 |xd fs=>obtain⟨_,⟨_,_,_,e,_⟩,_⟩:=x;exact R7 e
 |rng lo hi=>obtain⟨_,_,_,e⟩:=x;exact R7 e
 |frz ob u=>obtain⟨e,_⟩:=x;exact R7 e
 |tbl ps=>exact R7 (show h.get? a=some _ from x)
 |met f y=>exact R7 (show h.get? a=some _ from x)
 |ext φ=>obtain⟨_,⟨_,e⟩,_⟩:=x;exact R7 e
theorem Paired.mapP {α β:Type}{F G:α->β->Prop}: ∀ {l₁:G0 α} {l₂:G0 β},Paired F l₁ l₂->(∀a b,F a b->G a b)->Paired G l₁ l₂
 |_,_,.nil,_=> .nil
 |_,_,.cons r t,f=> .cons (f _ _ r) (Paired.mapP t f)
theorem Ö.stay (x:Ö P w H h a o)(k: ∀b u,(b=a\/H b=some (.own a))->h.get? b=some u->h'.get? b=some u)
 (ho: ∀b,H b=some (.own a)->H' b=some (.own a))(ht: ∀b xs,H b=some (.tup xs)->H' b=some (.tup xs)):Ö P w H' h' a o:=by
 induction o with
 |lst xs=>obtain⟨z,its,n,r,e⟩:=x;exact⟨z,its,n,r,k _ _ (.inl rfl) e⟩
 |tup xs=>obtain⟨z,its,r,ob,e,c⟩:=x;exact⟨z,its,r,ob,k _ _ (.inl rfl) e,c⟩
 |dK Ā=>obtain⟨z,y,vs,r,ob,es,ep,e,c⟩:=x;exact⟨z,y,vs,r,ob,es,ep,k _ _ (.inl rfl) e,c⟩
 |dT Ā=>
  obtain⟨z,y,xs,r,ob,es,ep,e,c⟩:=x;exact⟨z,y,xs,Paired.mapP r λp q z=>⟨z.1,ht _ _ z.2.1,z.2.2⟩,ob,es,ep,k _ _ (.inl rfl) e,c⟩
 |set S n=>obtain⟨ob,es,ep,t,e,c⟩:=x;exact⟨ob,es,ep,t,k _ _ (.inl rfl) e,c⟩
 |ins C dx fs=>
  obtain⟨d,z,ne,e,mA,⟨od,es,ep,e2,c⟩,r⟩:=x;exact⟨ho _ d,z,ne,k _ _ (.inl rfl) e,mA,⟨od,es,ep,k _ _ (.inr d) e2,c⟩,r⟩
 |own y=>obtain⟨ob,e⟩:=x;exact⟨ob,k _ _ (.inl rfl) e⟩
 |xd fs=>obtain⟨mA,⟨od,es,ep,e,c⟩,r⟩:=x;exact⟨mA,⟨od,es,ep,k _ _ (.inl rfl) e,c⟩,r⟩
 |rng lo hi=>obtain⟨t,u,v,e⟩:=x;exact⟨t,u,v,k _ _ (.inl rfl) e⟩
 |frz ob u ih=>obtain⟨e,q⟩:=x;exact⟨k _ _ (.inl rfl) e,ih q⟩
 |tbl ps=>
  have e:h.get? a=some {cls:= .none,data:= .fields ps}:=x;show h'.get? a=some {cls:= .none,data:= .fields ps};exact k a _ (.inl rfl) e
 |met f y=>
  have e:h.get? a=some (iW (.ref f) (.ref y)):=x;show h'.get? a=some (iW (.ref f) (.ref y));exact k a _ (.inl rfl) e
 |ext φ=>obtain⟨p,⟨o,e⟩,st⟩:=x;exact⟨st _ _ p λo q=>k _ _ (.inl rfl) q,⟨o,k _ _ (.inl rfl) e⟩,st⟩
theorem Ě.lt (x:Ě P w H h)(e:H a=some o):a<h.objs.size:=(x a o e).lt
theorem Ě.fresh (x:Ě P w H h)(e:h.objs.size<=a):H a=none:=by
 cases q:H a with
 |none=>rfl
 |some u=>exact absurd (N7 (x.lt q) e) (A4 _)
theorem Ě.kept (x:Ě P w H h)(k: ∀b u,h.get? b=some u->h'.get? b=some u):Ě P w H h':=λa o e=>
 (x a o e).stay (λb u _ q=>k b u q) (λ_ q=>q) λ_ _ q=>q
theorem Ě.laid (x:Ě P w H h)(k: ∀b u,h.get? b=some u->h'.get? b=some u)(hp:h.objs.size<=a)(new:Ö P w (upd H a o) h' a o):Ě P w (upd H a o) h':=λb u e=>by
 have hn:=x.fresh hp
 by_cases hb:b=a
 ·subst hb;rw [jw] at e;cases e;exact new
 ·rw [jt hb] at e;exact(x b u e).stay (λc v _ q=>k c v q) (λc q=>by rw [jt (jp q hn)];exact q) λc xs q=>by rw [jt (jp q hn)];exact q
end
def Rd (H:Hp)(a:P1)(u:HO):Prop:=H a=some u\/ ∃o,H a=some (.frz o u)
variable {P:T7}{w:C1}{h:L8}
theorem Rd.ok {u:HO}(r:Rd H a u)(x:Ě P w H h):Ö P w H h a u:=by
 rcases r with r|⟨o,r⟩
 ·exact x a u r
 ·obtain⟨_,q⟩:=x a _ r;exact q
def Mut:P7 HO->Prop
 |some (.lst _)=>True
 |some (.dK _)=>True
 |some (.dT _)=>True
 |some (.set _ _)=>True
 |some (.ins _ _ _)=>True
 |some (.ext _)=>True
 |_=>False
section
variable {P:T7}{w:C1}{H:Hp}{h h':L8}{x e:P1}{o':HO}
theorem Ě.write (ok:Ě P w H h)(mu:Mut (H x))(he:e=x\/H e=some (.own x))(k: ∀b u,b≠e->h.get? b=some u->h'.get? b=some u)(heo: ∃u,h'.get? e=some u)
 (new:Ö P w (upd H x o') h' x o'):Ě P w (upd H x o') h':=λb u q=>by
 have X0Z: ∀c y,H c=some (.own y)->c≠x:=λc y r z=>by subst z;rw [r] at mu;exact mu
 have X1d: ∀c xs,H c=some (.tup xs)->c≠x:=λc xs r z=>by subst z;rw [r] at mu;exact mu
 by_cases hb:b=x
 ·subst hb;rw [jw] at q;cases q;exact new
 ·rw [jt hb] at q
  by_cases hbe:b=e
  ·have q':H b=some (.own x):=by
    rcases he with z|z
    ·exact absurd (hbe.trans z) hb
    ·rw [hbe];exact z
   rw [q] at q';cases q';obtain⟨v,hv⟩:=heo;exact⟨v,by rw [hbe];exact hv⟩
  ·refine(ok b u q).stay (λc v hc r=>k c v ?_ r) (λc r=>by rw [jt (X0Z c b r)];exact r) λc xs r=>by rw [jt (X1d c xs r)];exact r
   rcases hc with rfl|hc
   ·exact hbe
   ·rintro rfl;rcases he with z|z
    ·exact X0Z c b hc z
    ·rw [hc] at z;cases z;exact hb rfl
end
structure Un (fs ex:G0 P1)(H H':Hp)(h h':L8):Prop where
 keep: ∀b o,h.get? b=some o->H b=none->b ∉ fs->b ∉ ex->h'.get? b=some o
 slot: ∀b o,h.get? b=some o->H b=none->b∈fs->b ∉ ex-> ∃sl,h'.get? b=some {o with slots:=sl}
 free: ∀b o,h.get? b=some o->H b=none->b ∉ ex->H' b=none
 there: ∀b o,h.get? b=some o->b ∉ ex-> ∃o',h'.get? b=some o'
 tups: ∀b xs,H b=some (.tup xs)->H' b=some (.tup xs)
 frzs: ∀b o u,H b=some (.frz o u)->H' b=some (.frz o u)
 tbls: ∀b ps,H b=some (.tbl ps)-> ∃more,H' b=some (.tbl (ps++more))
section
variable {fs fs' ex ex':G0 P1}{H H1 H2:Hp}{h h1 h2 h':L8}{a x e:P1}{o:HO}
theorem Un.any (u:Un fs ex H H1 h h1){b:P1}{ob:Obj}(q:h.get? b=some ob)(n:H b=none)(hx:b ∉ ex): ∃sl,h1.get? b=some {ob with slots:=sl}:=by
 by_cases hb:b∈fs
 ·exact u.slot b ob q n hb hx
 ·exact⟨ob.slots,u.keep b ob q n hb hx⟩
theorem Un.kept (k: ∀b u,h.get? b=some u->h'.get? b=some u):Un fs ex H H h h':=
 ⟨λb ob q _ _ _=>k b ob q,λb ob q _ _ _=>⟨ob.slots,k b ob q⟩,λ_ _ _ n _=>n,λb ob q _=>⟨ob,k b ob q⟩,λ_ _ q=>q,λ_ _ _ q=>q,λ_ ps q=>⟨#[],by rw [q];simp⟩⟩
theorem Un.refl:Un fs ex H H h h:=Un.kept λ_ _ q=>q
theorem Un.laid (k: ∀b u,h.get? b=some u->h'.get? b=some u)(hp:h.objs.size<=a)(hn:H a=none):Un fs ex H (upd H a o) h h' where
 keep:=λb u q _ _ _=>k b u q
 slot:=λb u q _ _ _=>⟨u.slots,k b u q⟩
 free:=λb u q n _=>by rw [jt (N3 (N7 (R7 q) hp))];exact n
 there:=λb u q _=>⟨u,k b u q⟩
 tups:=λb xs q=>by rw [jt (jp q hn)];exact q
 frzs:=λb u xs q=>by rw [jt (jp q hn)];exact q
 tbls:=λb ps q=>⟨#[],by rw [jt (jp q hn),q];simp⟩
theorem Un.write (mu:Mut (H x))(he:e=x\/H e=some (.own x))(k: ∀b u,b≠e->h.get? b=some u->h'.get? b=some u)(heo: ∃u,h'.get? e=some u):Un fs ex H (upd H x o) h h':=by
 have hx: ∀b,H b=none->b≠x:=λb n z=>by subst z;rw [n] at mu;exact mu
 have hb: ∀b,H b=none->b≠e:=λb n z=>by
  subst z;rcases he with r|r
  ·exact hx b n r
  ·rw [n] at r;cases r
 have hm: ∀b u,H b=some u-> ¬Mut (some u)->b≠x:=λb u q nm z=>by subst z;rw [q] at mu;exact nm mu
 refine⟨λb u q n _ _=>k b u (hb b n) q,λb u q n _ _=>⟨u.slots,k b u (hb b n) q⟩,λb u q n _=>by rw [jt (hx b n)];exact n,λb u q _=> ?_,
  λb xs q=>by rw [jt (hm b _ q λz=>z)];exact q,λb u xs q=>by rw [jt (hm b _ q λz=>z)];exact q,λb ps q=>⟨#[],by rw [jt (hm b _ q λz=>z),q];simp⟩⟩
 by_cases hbe:b=e
 ·subst hbe;exact heo
 ·exact⟨u,k b u hbe q⟩
end
def trk (h:L8)(H:Hp):G0 P1:=(P4 h.objs.size).filter λa=>(H a).isSome
def Bq (h:L8)(H:Hp):L8:=G0E h (trk h H)
theorem Ri (h:L8)(H:Hp):(Bq h H).objs.size=h.objs.size:=xW _ _
theorem VZ {o:Obj}(e:h.get? b=some o)(n:H b=none):(Bq h H).get? b=some o:=
 IM _ e λhm=>by
  have q:(H b).isSome=true:=(C9.mp hm).2;rw [n] at q;simp at q
theorem Ln {o:Obj}(e:(Bq h H).get? b=some o):h.get? b=some o/\H b=none:=by
 have e':h.get? b=some o:=IS (trk h H) e;refine⟨e',?_⟩;cases q:H b with
 |none=>rfl
 |some x=>
  have hm:b∈trk h H:=C9.mpr ⟨S0.mpr (R7 e'),by simp [q]⟩;have z:(Bq h H).get? b=none:=xX (trk h H) hm;rw [z] at e;cases e
def Lo (g h:L8)(L:P1):G0 (P1×Obj):=(P4 h.objs.size).filterMap λa=>if a=L\/(g.get? a).isSome=true then none else (h.get? a).map λo=>(a,o)
def rest (g h:L8)(L d:P1):G0 (P1×Obj):=(Lo g h L).filter λp=>decide (p.1≠d)
structure Mod (K:G5)(mg:Str->P7 G3)(base:L8):Prop where
 kin:K.In base
 glob:base.Ns O6 mg
 blt: ∃mb,base.Ns lI mb/\ ∀x:Str,x≠ "__name__" ->mb x=Q1 x
 nolimit:base.NoLimit
structure Cx where
 prog:T7
 w:C1
 K:G5
 mg:Str->P7 G3
 base:L8
 A:B2
 N:G0 Str
 s₀:G6
 H₀:Hp
 env:Env
 outer:G0 Env
 stack:G0 Env
 ex:G0 P1
 fn:Str->N2
 calm:N2
 pn:G0 (P1×Obj)
 xe:G3->G6->Prop
def Η (l:G0 Env):G0 P1:=l.filterMap (·.frame)
abbrev Cx.fs (X:Cx):G0 P1:=Η X.outer
def Vis (sc:U2)(x:Str):Prop:=sc.names.lookup x=some .local\/sc.names.lookup x=some .cell\/sc.names.lookup x=some .free
def Loc (sc:U2)(x:Str):Prop:=sc.names.lookup x=some .local\/sc.names.lookup x=some .cell
def uD (env:Env)(h:L8)(m:Str->P7 G3)(x:Str)(u:G3):Prop:=
 (env.kindOf x=some .local/\m x=some u)\/((env.kindOf x=some .cell\/env.kindOf x=some .free)/\ ∃c,env.cells.lookup x=some c/\h.IsCell c (some u))
structure Cx.Ok (X:Cx):Prop where
 mod:Mod X.K X.mg X.base
 kind:X.env.scope.kind= .function
 glob:X.env.globals=O6
 blt:X.env.builtins=lI
 above:X.s₀.heap.objs.size<=X.env.locals
 inj: ∀x y c,X.env.cells.lookup x=some c->X.env.cells.lookup y=some c->x=y
 has: ∀x,(X.env.kindOf x=some .cell\/X.env.kindOf x=some .free)-> ∃c,X.env.cells.lookup x=some c
 cab: ∀x c,X.fn x=true->X.env.cells.lookup x=some c->X.s₀.heap.objs.size<=c
 hd:X.calm=true->X.A.handled=none
 frames:X.A.frames=some X.stack
 stk:X.stack=X.outer\/(X.stack=X.env::X.outer/\X.env.frame=some X.env.locals)
 exf: ∀b∈X.ex,b≠X.env.locals/\ ∀x c,X.env.cells.lookup x=some c->c≠b
 bs: ∀b o,X.base.get? b=some o->X.s₀.heap.get? b=some o/\X.H₀ b=none
 bsz:X.base.objs.size<=X.s₀.heap.objs.size
 noex: ∀b o,X.base.get? b=some o->b ∉ X.ex
 exfs: ∀b∈X.ex,b ∉ X.fs
 funs:X.s₀.heap.FunFrames X.base X.outer
 frf: ∀b∈X.fs,X.H₀ b=none
structure Inv (X:Cx)(À:G0 (P1×Obj))(σ:G0 (P7 V))(H:Hp)(s:G6):Prop where
 ok:X.Ok
 os:s.os=X.s₀.os
 bare:iY s.gens
 base:Un X.fs X.ex X.H₀ H X.s₀.heap s.heap
 loc: ∃m,s.heap.Ns X.env.locals m/\ ∀ (i:G7) (x:Str) (v:V),X.N[i]? =some x->σ[i]? =some (some v)->Vis X.env.scope x-> ∃u,RelV v u/\uD X.env s.heap m x u
 cell: ∀x c,X.env.cells.lookup x=some c-> ∃v,s.heap.IsCell c v
 free:H X.env.locals=none
 freeC: ∀x c,X.env.cells.lookup x=some c->H c=none
 pin: ∀p∈X.pn++À,s.heap.get? p.1=some p.2/\H p.1=none/\p.1≠X.env.locals/\p.1 ∉ X.fs/\ ∀v,p.2.data≠ .cell v
 hok:Ě X.prog X.w H s.heap
 len:σ.length=X.N.length
section
variable {X:Cx}{À:G0 (P1×Obj)}{σ:G0 (P7 V)}{H H':Hp}{s:G6}{h':L8}
theorem Cx.Ok.nofr (ok:X.Ok){b:P1}{o:Obj}(e:X.base.get? b=some o):b ∉ X.fs:=λhb=>by
 have:=(ok.funs.mem hb).1;rw [e] at this;cases this
theorem Inv.bs (I:Inv X À σ H s): ∀b o,X.base.get? b=some o->s.heap.get? b=some o/\H b=none:=λb o e=>
 ⟨I.base.keep b o (I.ok.bs b o e).1 (I.ok.bs b o e).2 (I.ok.nofr e) (I.ok.noex b o e),I.base.free b o (I.ok.bs b o e).1 (I.ok.bs b o e).2 (I.ok.noex b o e)⟩
theorem Inv.bk (I:Inv X À σ H s): ∀b o,X.base.get? b=some o->s.heap.get? b=some o:=λb o e=>(I.bs b o e).1
theorem Inv.mod (I:Inv X À σ H s):Mod X.K X.mg X.base:=I.ok.mod
theorem Inv.kIn (I:Inv X À σ H s):X.K.In s.heap:=I.ok.mod.kin.keeps I.bk
theorem Inv.lt (I:Inv X À σ H s):X.env.locals<s.heap.objs.size:=let ⟨_,hn,_⟩:=I.loc;hn.lt
theorem Inv.sz (I:Inv X À σ H s):X.s₀.heap.objs.size<=s.heap.objs.size:=S5 I.ok.above (M5 I.lt)
theorem Inv.nofs (I:Inv X À σ H s){a:P1}(h:s.heap.objs.size<=a):a ∉ X.fs:=λhb=>by
 obtain⟨_,o,ho,_⟩:=I.ok.funs.mem hb;exact absurd (N7 (R7 ho) (S5 I.sz h)) (A4 _)
theorem Inv.cne (I:Inv X À σ H s): ∀x c,X.env.cells.lookup x=some c->c≠X.env.locals:=λx c e z=>by
 obtain⟨v,o,ho,hd⟩:=I.cell x c e;obtain⟨m,⟨o',es,ep,ho',hd',_⟩,_⟩:=I.loc;rw [z,ho'] at ho;cases ho;rw [hd'] at hd;cases hd
theorem Inv.funs (I:Inv X À σ H s):s.heap.FunFrames X.base X.outer:=by
 have all: ∀ (l:G0 Env),(∀b∈Η l,b∈X.fs)->X.s₀.heap.FunFrames X.base l->s.heap.FunFrames X.base l:=by
  intro l
  induction l with
  |nil=>intro _ _;trivial
  |cons env r ih=>
   intro hs hl;obtain⟨hk,⟨L,o,hf,hn,ho,hd⟩,hr⟩:=hl;have hL:L∈X.fs:=hs L (by unfold Η;rw [gK,hf];exact P6);obtain⟨sl,e⟩:=I.base.slot L o ho (I.ok.frf L hL) hL λz=>I.ok.exfs L z hL
   exact⟨hk,⟨L,_,hf,hn,e,hd⟩,ih (λb hb=>hs b (by unfold Η;rw [gK,hf];exact D7 _ hb)) hr⟩
 exact all X.outer (λ_ hb=>hb) I.ok.funs
theorem Inv.stack (I:Inv X À σ H s):s.heap.FunFrames X.base X.stack:=by
 rcases I.ok.stk with e|⟨e,hf⟩
 ·rw [e];exact I.funs
 ·rw [e];obtain⟨m,hn,_⟩:=I.loc;refine .cons (by rw [I.ok.kind];decide) hf hn ?_ I.funs;exact Heap.get?_none_of_le (S5 I.ok.bsz I.ok.above)
theorem Inv.stkSub (I:Inv X À σ H s): ∀b∈Η X.stack,b∈X.env.locals::X.fs:=λb hb=>by
 rcases I.ok.stk with e|⟨e,hf⟩
 ·rw [e] at hb;exact D7 _ hb
 ·rw [e] at hb;unfold Η at hb;rw [gK,hf] at hb;exact hb
theorem Inv.stkFree (I:Inv X À σ H s): ∀b∈Η X.stack,H b=none:=λb hb=>by
 rcases T3.mp (I.stkSub b hb) with e|hb
 ·rw [e];exact I.free
 ·obtain⟨_,o,ho,_⟩:=I.ok.funs.mem hb;exact I.base.free b o ho (I.ok.frf b hb) λz=>I.ok.exfs b z hb
variable {t':G7}
theorem Inv.step {g':M8 GenState}{d':Drawn}{ch:G0 P1}(I:Inv X À σ H s)
 (hch: ∀b∈ch,(b∈X.ex\/X.s₀.heap.objs.size<=b)/\b≠X.env.locals/\(∀x c,X.env.cells.lookup x=some c->c≠b)/\ ∀p∈X.pn++À,p.1≠b)
 (keep: ∀b o,b≠X.env.locals->b ∉ X.fs->b ∉ ch->s.heap.get? b=some o->H b=none->h'.get? b=some o)
 (slot: ∀b o,b≠X.env.locals->b∈X.fs->b ∉ ch->s.heap.get? b=some o->H b=none-> ∃sl,h'.get? b=some {o with slots:=sl})(free: ∀b o,b ∉ ch->s.heap.get? b=some o->H b=none->H' b=none)
 (there: ∀b o,b ∉ ch->s.heap.get? b=some o-> ∃o',h'.get? b=some o')
 (tups: ∀b xs,H b=some (.tup xs)->H' b=some (.tup xs))(frzs: ∀b o u,H b=some (.frz o u)->H' b=some (.frz o u))(tbls: ∀b ps,H b=some (.tbl ps)-> ∃more,H' b=some (.tbl (ps++more)))
 (ns: ∀m,s.heap.Ns X.env.locals m->h'.Ns X.env.locals m)(hok:Ě X.prog X.w H' h')(hg:iY g'):
 Inv X À σ H' {s with heap:=h',gens:=g',drawn:=d',toks:=t'}:=by
 have neL: ∀b o,X.s₀.heap.get? b=some o->b≠X.env.locals:=λb o e=>N3 (N7 (R7 e) I.ok.above)
 have neC: ∀b o,X.s₀.heap.get? b=some o->b ∉ X.ex->b ∉ ch:=λb o e hx hb=>by
  rcases (hch b hb).1 with z|z
  ·exact hx z
  ·exact absurd (N7 (R7 e) z) (A4 _)
 have cellK: ∀x c,X.env.cells.lookup x=some c-> ∀v,s.heap.IsCell c v->h'.IsCell c v:=λx c e v ⟨o,ho,hd⟩=>by
  have nch:c ∉ ch:=λz=>(hch c z).2.2.1 x c e rfl
  by_cases hc:c∈X.fs
  ·obtain⟨sl,q⟩:=slot c o (I.cne x c e) hc nch ho (I.freeC x c e);exact⟨_,q,hd⟩
  ·exact⟨o,keep c o (I.cne x c e) hc nch ho (I.freeC x c e),hd⟩
 refine⟨I.ok,I.os,hg,⟨λb o e n hb hx=> ?_,λb o e n hb hx=> ?_,λb o e n hx=> ?_,λb o e hx=> ?_,λb xs e=>tups b xs (I.base.tups b xs e),λb o xs e=>frzs b o xs (I.base.frzs b o xs e),λb ps e=> ?_⟩,?_,λx c e=> ?_,?_,λx c e=> ?_,λp hp=> ?_,hok,I.len⟩
 ·exact keep b o (neL b o e) hb (neC b o e hx) (I.base.keep b o e n hb hx) (I.base.free b o e n hx)
 ·obtain⟨sl,e1⟩:=I.base.slot b o e n hb hx;obtain⟨sl',e2⟩:=slot b _ (neL b o e) hb (neC b o e hx) e1 (I.base.free b o e n hx);exact⟨sl',e2⟩
 ·obtain⟨o',e1⟩:=I.base.there b o e hx;exact free b o' (neC b o e hx) e1 (I.base.free b o e n hx)
 ·obtain⟨o',e1⟩:=I.base.there b o e hx;exact there b o' (neC b o e hx) e1
 ·obtain⟨m1,e1⟩:=I.base.tbls b ps e;obtain⟨m2,e2⟩:=tbls b _ e1;exact⟨m1++m2,by rw [e2,Array.append_assoc]⟩
 ·obtain⟨m,hn,hl⟩:=I.loc;refine⟨m,ns m hn,λi x v e1 e2 e3=> ?_⟩;obtain⟨u,r,l⟩:=hl i x v e1 e2 e3;refine⟨u,r,?_⟩;rcases l with l|⟨k,c,e,z⟩
  ·exact .inl l
  ·exact .inr ⟨k,c,e,cellK x c e _ z⟩
 ·obtain⟨v,z⟩:=I.cell x c e;exact⟨v,cellK x c e v z⟩
 ·obtain⟨m,⟨o,_,_,ho,_⟩,_⟩:=I.loc;exact free _ o (λz=>(hch _ z).2.1 rfl) ho I.free
 ·obtain⟨v,o,ho,hd⟩:=I.cell x c e;exact free c o (λz=>(hch c z).2.2.1 x c e rfl) ho (I.freeC x c e)
 ·obtain⟨e,n,ne,nf,d⟩:=I.pin p hp;have nch:p.1 ∉ ch:=λz=>(hch p.1 z).2.2.2 p hp rfl
  exact⟨keep p.1 p.2 ne nf nch e n,free p.1 p.2 nch e n,ne,nf,d⟩
theorem Inv.un (I:Inv X À σ H s)(u:Un X.fs [] H H' s.heap h')(hok:Ě X.prog X.w H' h'):Inv X À σ H' {s with heap:=h',toks:=t'}:=by
 obtain⟨m,⟨o,es,ep,ho,r⟩,_⟩:=id I.loc;obtain⟨sl,hL⟩:=u.any ho I.free (by simp);exact I.step (g':=s.gens) (d':=s.drawn) (ch:= []) (λ_ z=>nomatch z) (λb o _ hb _ e n=>u.keep b o e n hb (by simp)) (λb o _ hb _ e n=>u.slot b o e n hb (by simp)) (λb o _ e n=>u.free b o e n (by simp)) (λb o _ e=>u.there b o e (by simp)) u.tups u.frzs u.tbls (λm' hm=>by
  obtain⟨o',Ħ,û,ho',r'⟩:=hm;rw [ho] at ho';cases ho';exact⟨_,Ħ,û,hL,r'⟩) hok I.bare
theorem Inv.call {g':M8 GenState}{d':Drawn}{ch:G0 P1}(I:Inv X À σ H s)(u:Un (Η X.stack) ch H H' s.heap h')(hok:Ě X.prog X.w H' h')(hg:iY g')
 (hch: ∀b∈ch,(b∈X.ex\/X.s₀.heap.objs.size<=b)/\b≠X.env.locals/\(∀x c,X.env.cells.lookup x=some c->c≠b)/\ ∀p∈X.pn++À,p.1≠b):
 Inv X À σ H' {s with heap:=h',gens:=g',drawn:=d',toks:=t'}:=by
 obtain⟨m,⟨o,es,ep,ho,r⟩,_⟩:=id I.loc;obtain⟨sl,hL⟩:=u.any ho I.free λz=>(hch _ z).2.1 rfl
 exact I.step (ch:=ch) hch (λb o hL hb hc e n=>u.keep b o e n (λz=>(T3.mp (I.stkSub b z)).elim hL hb) hc) (λb o _ _ hc e n=>u.any e n hc) (λb o hc e n=>u.free b o e n hc) (λb o hc e=>u.there b o e hc) u.tups u.frzs u.tbls (λm' hm=>by
  obtain⟨o',Ħ,û,ho',r'⟩:=hm;rw [ho] at ho';cases ho';exact⟨_,Ħ,û,hL,r'⟩) hok hg
theorem Inv.turned {it:P1}(I:Inv X À σ H s)(k: ∀b o,b≠it->s.heap.get? b=some o->h'.get? b=some o)(hn:H it=none)(hL:it≠X.env.locals)
 (h1:it∈X.ex\/X.s₀.heap.objs.size<=it)(h2: ∀x c,X.env.cells.lookup x=some c->c≠it)(h3: ∀p∈X.pn++À,p.1≠it):Inv X À σ H {s with heap:=h',toks:=t'}:=by
 have nit: ∀b u,H b=some u->b≠it:=λb u e z=>by rw [z,hn] at e;cases e
 refine I.step (g':=s.gens) (d':=s.drawn) (ch:= [it]) (λb hb=> ?_) (λb o _ _ hc e _=>k b o (λz=>hc (by simp [z])) e) (λb o _ _ hc e _=>⟨o.slots,k b o (λz=>hc (by simp [z])) e⟩) (λ_ _ _ _ n=>n)
  (λb o hc e=>⟨o,k b o (λz=>hc (by simp [z])) e⟩) (λ_ _ e=>e) (λ_ _ _ e=>e) (λb ps e=>⟨#[],by rw [e];simp⟩) (λm hm=> ?_) (λb u e=> ?_) I.bare
 ·have e:b=it:=by simpa using hb
  subst e;exact⟨h1,hL,h2,h3⟩
 ·obtain⟨o,es,ep,ho,r⟩:=hm;exact⟨o,es,ep,k _ o (E4 hL) ho,r⟩
 ·refine(I.hok b u e).stay (λc v hc q=>k c v ?_ q) (λ_ q=>q) λ_ _ q=>q
  rcases hc with z|z
  ·rw [z];exact nit b u e
  ·exact nit c _ z
theorem Inv.tok (I:Inv X À σ H s)(t:G7):Inv X À σ H {s with toks:=t}:=I.un (h':=s.heap) (t':=t) Un.refl I.hok
theorem Inv.kept (I:Inv X À σ H s)(k: ∀b u,s.heap.get? b=some u->h'.get? b=some u):Inv X À σ H {s with heap:=h',toks:=t'}:=I.un (Un.kept k) (I.hok.kept k)
theorem Inv.laid {a:P1}{o:HO}(I:Inv X À σ H s)(k: ∀b u,s.heap.get? b=some u->h'.get? b=some u)(hp:s.heap.objs.size<=a)(new:Ö X.prog X.w (upd H a o) h' a o):
 Inv X À σ (upd H a o) {s with heap:=h',toks:=t'}:=I.un (Un.laid k hp (I.hok.fresh hp)) (I.hok.laid k hp new)
theorem Inv.write {x e:P1}{o:HO}(I:Inv X À σ H s)(mu:Mut (H x))(he:e=x\/H e=some (.own x))(k: ∀b u,b≠e->s.heap.get? b=some u->h'.get? b=some u)(heo: ∃u,h'.get? e=some u)
 (new:Ö X.prog X.w (upd H x o) h' x o):Inv X À σ (upd H x o) {s with heap:=h',toks:=t'}:=I.un (Un.write mu he k heo) (I.hok.write mu he k heo new)
theorem Inv.weak {Â:G0 (P7 V)}(I:Inv X À σ H s)(hl:Â.length=σ.length)(w: ∀ (i:G7) v,Â[i]? =some (some v)->σ[i]? =some (some v)):Inv X À Â H s:=
 ⟨I.ok,I.os,I.bare,I.base,let ⟨m,hn,hl'⟩:=I.loc;⟨m,hn,λi x v e1 e2 e3=>hl' i x v e1 (w i v e2) e3⟩,I.cell,I.free,I.freeC,I.pin,I.hok,hl.trans I.len⟩
theorem Inv.pins_of {X0h:G0 (P1×Obj)}(I:Inv X À σ H s)(h: ∀p∈X0h,s.heap.get? p.1=some p.2/\H p.1=none/\p.1≠X.env.locals/\p.1 ∉ X.fs/\ ∀v,p.2.data≠ .cell v):Inv X X0h σ H s:=
 ⟨I.ok,I.os,I.bare,I.base,I.loc,I.cell,I.free,I.freeC,λp hp=>(D5.mp hp).elim (λz=>I.pin p (B7 _ z)) (h p),I.hok,I.len⟩
theorem GY {N:G0 Str}(hN:N.Nodup){i j:G7}{x:Str}(a:N[i]? =some x)(b:N[j]? =some x):i=j:=by
 obtain⟨h1,e1⟩:=P8.mp a;obtain⟨h2,e2⟩:=P8.mp b;exact(List.getElem_inj hN).mp (e1.trans e2.symm)
theorem Rj {M:qX}{A:B2}{E:G3->G6->Prop}{i:G7}{x:Str}{v:V}{u:G3}{Q:Unit->G6->Prop}(I:Inv X À σ H s)(hN:X.N.Nodup)(hi:X.N[i]? =some x)(hx:Loc X.env.scope x)(r:RelV v u)
 (h: ∀s',Inv X À (σ.set i (some v)) H s'->(∃a,Q2 a s.heap s'.heap/\(a=X.env.locals\/X.env.cells.lookup x=some a))->Q () s')(hf:X.fn x=true\/X.env.scope.names.lookup x=some .local:=by first|exact .inl rfl|exact .inr rfl|assumption):D9 M A (tX X.env x u) Q E s:=by
 obtain⟨m,hn,hl⟩:=id I.loc;have X1e:(X.env.scope.kind== .class||(X.env.scope.kind== .module&&X.env.locals !=X.env.globals))=false:=by rw [I.ok.kind];rfl
 have X00:i<σ.length:=by rw [I.len];exact(P8.mp hi).1
 have cne:=I.cne;have tracked: ∀ {a:P1} {h':L8},(∃o,s.heap.get? a=some o/\H a=none)->Q2 a s.heap h'->Ě X.prog X.w H h':=λ{a h'} ha hs b ob e=>by
  obtain⟨_,_,X0i⟩:=ha;refine(I.hok b ob e).stay (λc w' hc q=>(hs.2 c ?_).trans q) (λ_ q=>q) λ_ _ q=>q
  rintro rfl;rcases hc with rfl|hc
  ·rw [X0i] at e;cases e
  ·rw [X0i] at hc;cases hc
 rcases hx with hk|hk
 ·refine wpAny_storeName_local hk hn (λh' hn' hs=> ?_) X1e;obtain⟨oL,_,_,hoL,_⟩:=id hn;refine h _ ⟨I.ok,I.os,I.bare,⟨λb o e n hb hx=> ?_,λb o e n hb hx=> ?_,I.base.free,λb o e hx=> ?_,I.base.tups,I.base.frzs,I.base.tbls⟩,⟨_,hn',λj y v' e1 e2 e3=> ?_⟩,λy c e=> ?_,I.free,I.freeC,λp hp=> ?_,tracked ⟨oL,hoL,I.free⟩ hs,by simpa using I.len⟩ ⟨_,hs,.inl rfl⟩
  ·exact(hs.2 b (N3 (N7 (R7 e) I.ok.above))).trans (I.base.keep b o e n hb hx)
  ·obtain⟨sl,e1⟩:=I.base.slot b o e n hb hx;exact⟨sl,(hs.2 b (N3 (N7 (R7 e) I.ok.above))).trans e1⟩
  ·obtain⟨o',e1⟩:=I.base.there b o e hx;exact⟨o',(hs.2 b (N3 (N7 (R7 e) I.ok.above))).trans e1⟩
  ·by_cases hj:j=i
   ·subst hj;rw [hi] at e1;cases e1;rw [dN X00] at e2;cases e2;exact⟨u,r,.inl ⟨hk,by simp⟩⟩
   ·rw [J3 (E4 hj)] at e2;obtain⟨u',r',q⟩:=hl j y v' e1 e2 e3;refine⟨u',r',?_⟩;rcases q with ⟨k,e⟩|⟨k,c,e,z⟩
    ·refine .inl ⟨k,?_⟩;have:y≠x:=λe=>hj (GY hN e1 (e ▸ hi))
     simp [this,e]
    ·exact .inr ⟨k,c,e,z.sameBut hs (cne y c e)⟩
  ·obtain⟨w',z⟩:=I.cell y c e;exact⟨w',z.sameBut hs (cne y c e)⟩
  ·obtain⟨e,n,ne,nf,d⟩:=I.pin p hp;exact⟨(hs.2 p.1 ne).trans e,n,ne,nf,d⟩
 ·have hfn:X.fn x=true:=by
   rcases hf with z|z
   ·exact z
   ·rw [z] at hk;cases hk
  obtain⟨c,hc⟩:=I.ok.has x (.inl hk);obtain⟨w',z⟩:=I.cell x c hc;refine wpAny_storeName_cell I.ok.kind hk hc z (λh' Ρ hs=> ?_);obtain⟨oc,hoc,X1f⟩:=id z;refine h {s with heap:=h'} ⟨I.ok,I.os,I.bare,⟨λb o e n hb hx=> ?_,λb o e n hb hx=> ?_,I.base.free,λb o e hx=> ?_,I.base.tups,I.base.frzs,I.base.tbls⟩,⟨m,hn.sameBut hs (E4 (cne x c hc)),λj y v' e1 e2 e3=> ?_⟩,λy c' e=> ?_,I.free,I.freeC,λp hp=> ?_,tracked ⟨oc,hoc,I.freeC x c hc⟩ hs,by simpa using I.len⟩ ⟨c,hs,.inr hc⟩
  ·exact(hs.2 b (N3 (N7 (R7 e) (I.ok.cab x c hfn hc)))).trans (I.base.keep b o e n hb hx)
  ·obtain⟨sl,e1⟩:=I.base.slot b o e n hb hx;exact⟨sl,(hs.2 b (N3 (N7 (R7 e) (I.ok.cab x c hfn hc)))).trans e1⟩
  ·obtain⟨o',e1⟩:=I.base.there b o e hx;exact⟨o',(hs.2 b (N3 (N7 (R7 e) (I.ok.cab x c hfn hc)))).trans e1⟩
  ·by_cases hj:j=i
   ·subst hj;rw [hi] at e1;cases e1;rw [dN X00] at e2;cases e2;exact⟨u,r,.inr ⟨.inl hk,c,hc,Ρ⟩⟩
   ·rw [J3 (E4 hj)] at e2;obtain⟨u',r',q⟩:=hl j y v' e1 e2 e3;refine⟨u',r',?_⟩;rcases q with q|⟨k,c',e,z'⟩
    ·exact .inl q
    ·refine .inr ⟨k,c',e,z'.sameBut hs ?_⟩;rintro rfl;exact hj (GY hN e1 (I.ok.inj _ _ _ e hc ▸ hi))
  ·by_cases hcc:c'=c
   ·subst hcc;exact⟨_,Ρ⟩
   ·obtain⟨w2,z2⟩:=I.cell y c' e;exact⟨w2,z2.sameBut hs hcc⟩
  ·obtain⟨e,n,ne,nf,d⟩:=I.pin p hp;refine⟨(hs.2 p.1 ?_).trans e,n,ne,nf,d⟩;intro q;rw [q,hoc] at e;have q':oc=p.2:=B9 e;exact d w' (by rw [<-q'];exact X1f)
theorem Zd {M:qX}{A:B2}{E:G3->G6->Prop}{i:G7}{x:Str}{v:V}{u:G3}{Q:Unit->G6->Prop}(I:Inv X À σ H s)(hN:X.N.Nodup)(hi:X.N[i]? =some x)(hx:Loc X.env.scope x)(r:RelV v u)
 (h: ∀s',Inv X À (σ.set i (some v)) H s'->Q () s')(hf:X.fn x=true\/X.env.scope.names.lookup x=some .local:=by first|exact .inl rfl|exact .inr rfl|assumption):D9 M A (tX X.env x u) Q E s:=
 Rj I hN hi hx r (λs' I' _=>h s' I') hf
theorem Inv.call' {s':G6}{ch:G0 P1}(I:Inv X À σ H s)(ho:s'.os=s.os)(u:Un (Η X.stack) ch H H' s.heap s'.heap)(hok:Ě X.prog X.w H' s'.heap)(hg:iY s'.gens)
 (hch: ∀b∈ch,(b∈X.ex\/X.s₀.heap.objs.size<=b)/\b≠X.env.locals/\(∀x c,X.env.cells.lookup x=some c->c≠b)/\ ∀p∈X.pn++À,p.1≠b):Inv X À σ H' s':=by
 obtain⟨h',g',d',t',o'⟩:=s';have e:o'=s.os:=ho;subst e;exact I.call (g':=g') (t':=t') (d':=d') u hok hg hch
end
abbrev XK:=G3->P7 P1->Hp->Prop
abbrev St:=G0 (P7 V)
abbrev VK:=V->Hp->Prop
abbrev TE:=St->Hp->VK->Prop
abbrev TT:=St->Hp->(N2->Hp->Prop)->Prop
abbrev TA:=St->Hp->(G0 V->Hp->Prop)->Prop
structure Ž where
 nx:St->Hp->Prop
 rt:VK
 bk:St->Hp->Prop:=λ_ _=>False
 ct:St->Hp->Prop:=λ_ _=>False
abbrev TS:=Ž->St->Hp->Prop
def EP (X:Cx)(À:G0 (P1×Obj))(σ:St)(Q:VK)(u:G3)(s':G6):Prop:= ∃v H',Inv X À σ H' s'/\RelV v u/\Q v H'
def TP (X:Cx)(À:G0 (P1×Obj))(σ:St)(Q:N2->Hp->Prop)(b:N2)(s':G6):Prop:= ∃H',Inv X À σ H' s'/\Q b H'
def AP (X:Cx)(À:G0 (P1×Obj))(σ:St)(Q:G0 V->Hp->Prop)(us:G0 G3)(s':G6):Prop:= ∃vs H',Inv X À σ H' s'/\È vs us/\Q vs H'
def SP (X:Cx)(À:G0 (P1×Obj))(D:Ž)(f:Flow)(s':G6):Prop:=
 match f with
 | .next=> ∃Â H',Inv X À Â H' s'/\D.nx Â H'
 | .brk=> ∃Â H',Inv X À Â H' s'/\D.bk Â H'
 | .cont=> ∃Â H',Inv X À Â H' s'/\D.ct Â H'
 | .ret u=> ∃v Â H',Inv X À Â H' s'/\RelV v u/\D.rt v H'
def PE (X:Cx)(e:T8)(t:TE):Prop:=
 ∀ (À:G0 (P1×Obj)) (s:G6) (σ:St) (H:Hp) (Q:VK),Inv X À σ H s->t σ H Q->D9 (S2 X.prog X.w) X.A (A0 e X.env) (EP X À σ Q) X.xe s
def PT (X:Cx)(e:T8)(t:TT):Prop:=
 ∀ (À:G0 (P1×Obj)) (s:G6) (σ:St) (H:Hp) (Q:N2->Hp->Prop),Inv X À σ H s->t σ H Q->D9 (S2 X.prog X.w) X.A (isTrue e X.env (A0 e X.env)) (TP X À σ Q) X.xe s
def PW (X:Cx)(e:T8)(t:TT):Prop:=
 ∀ (whole:Sem G3) (À:G0 (P1×Obj)) (s:G6) (σ:St) (H:Hp) (Q:N2->Hp->Prop),Inv X À σ H s->t σ H Q->D9 (S2 X.prog X.w) X.A (isTrue e X.env whole) (TP X À σ Q) X.xe s
variable {X:Cx}
theorem PW.pt {e:T8}{t:TT}(h:PW X e t):PT X e t:=h _
def PA (X:Cx)(es:G0 T8)(t:TA):Prop:=
 ∀ (pos:Pos) (À:G0 (P1×Obj)) (s:G6) (σ:St) (H:Hp) (Q:G0 V->Hp->Prop),Inv X À σ H s->t σ H Q->D9 (S2 X.prog X.w) X.A (spliced (Q7 pos (R6 es X.env))) (AP X À σ Q) X.xe s
def PS (X:Cx)(st:A3)(t:TS):Prop:=
 ∀ (À:G0 (P1×Obj)) (s:G6) (σ:St) (H:Hp) (D:Ž),Inv X À σ H s->t D σ H->D9 (S2 X.prog X.w) X.A (exec st X.env) (SP X À D) X.xe s
def ś (X:Cx)(st:G0 A3)(t:TS):Prop:=
 ∀ (À:G0 (P1×Obj)) (s:G6) (σ:St) (H:Hp) (D:Ž),Inv X À σ H s->t D σ H->D9 (S2 X.prog X.w) X.A (execs st X.env) (SP X À D) X.xe s
variable {A:B2}{s:G6}
theorem Ô {α:Type}{t:Sem α}{Q Q':α->G6->Prop}{M:qX}{E:G3->G6->Prop}(h:D9 M A t Q E s)(hQ: ∀a s,Q a s->Q' a s):D9 M A t Q' E s:=M1 h hQ λ_ _ x=>x
section
variable {X:Cx}
theorem bin {a b:T8}{ta tb:TE}(ha:PE X a ta)(hb:PE X b tb){À:G0 (P1×Obj)}{s:G6}{σ:St}{H:Hp}{R:V->V->Hp->Prop}(I:Inv X À σ H s)(h:ta σ H λx H1=>tb σ H1 λy H2=>R x y H2)
 {α:Type}{Q:α->G6->Prop}{f:G3->G3->Sem α}
 (hf: ∀v u s2 x y H2,Inv X À σ H2 s2->RelV x v->RelV y u->R x y H2->D9 (S2 X.prog X.w) X.A (f v u) Q X.xe s2):
 D9 (S2 X.prog X.w) X.A (A0 a X.env) (λv s₁=>D9 (S2 X.prog X.w) X.A (A0 b X.env) (λu s₂=>D9 (S2 X.prog X.w) X.A (f v u) Q X.xe s₂) X.xe s₁) X.xe s:=by
 refine Ô (ha À s σ H _ I h) λv s1 ⟨x,H1,I1,r1,q1⟩=> ?_
 refine Ô (hb À s1 σ H1 _ I1 q1) λu s2 ⟨y,H2,I2,r2,q2⟩=> ?_
 exact hf v u s2 x y H2 I2 r1 r2 q2
def KZ (i:G7):TE:=λσ H Q=> ∃v,σ[i]? =some (some v)/\Q v H
def tC (v:V):TE:=λ_ H Q=>Q v H
variable {x:Str}
theorem Ea {i:G7}{pos:Pos}(hN:X.N[i]? =some x)(hv:Vis X.env.scope x)(hd:(x==("__debug__" :Str))=false:=by decide)(hcd:(x==("__classdict__" :Str))=false:=by decide):PE X (.Name x pos) (KZ i):=by
 intro À s σ H Q I h;obtain⟨v,e,h⟩:=h;obtain⟨m,hn,hl⟩:=I.loc;obtain⟨u,r,l⟩:=hl i x v hN e hv;have fin:EP X À σ Q u s:=⟨v,H,I,r,h⟩;rcases l with ⟨hk,hm⟩|⟨hk,c,hc,ŋ⟩
 ·exact sB (mY I.ok.kind hk hn hm fin) hd
 ·rcases hk with hk|hk
  ·exact sB (oE I.ok.kind hk hc ŋ fin) hd
  ·exact sB (wpAny_loadName_free I.ok.kind hk hc ŋ fin hcd) hd
theorem X0j {i j pos}:PE X (.Constant (.int i) j pos) (tC (.int i)):=λ_ _ _ H _ I h=>wpAny_Constant_int ⟨.int i,H,I.tok _,⟨_,rfl⟩,h⟩
theorem X0y {b j pos}:PE X (.Constant (.bool b) j pos) (tC (.bl b)):=λ_ _ _ H _ I h=>Constant_bool ⟨.bl b,H,I,rfl,h⟩
theorem X0k {j pos}:PE X (.Constant .none j pos) (tC .non):=λ_ _ _ H _ I h=>Constant_none ⟨.non,H,I,rfl,h⟩
def Gl (X:Cx)(x:Str):Prop:=X.env.kindOf x=some .globalImplicit
variable {u:G3}
theorem Rk {E:G3->G6->Prop}{À:G0 (P1×Obj)}{s:G6}{σ:St}{H:Hp}{pos:Pos}{Q:G3->G6->Prop}(I:Inv X À σ H s)(hg:Gl X x)(hm:X.mg x=some u)(h:Q u s)
 (hd:(x==("__debug__" :Str))=false:=by decide):D9 (S2 X.prog X.w) X.A (A0 (.Name x pos) X.env) Q E s:=
 Calls.Name_function_global I.ok.kind hg (Calls.loadGlobal_global (by rw [I.ok.glob];exact I.mod.glob.keeps I.bk) hm h) hd
theorem Vr {E:G3->G6->Prop}{À:G0 (P1×Obj)}{s:G6}{σ:St}{H:Hp}{pos:Pos}{Q:G3->G6->Prop}(I:Inv X À σ H s)(hg:Gl X x)(hm:X.mg x=none)(hv:Q1 x=some u)(h:Q u s)
 (hn:x≠ "__name__" :=by decide)(hd:(x==("__debug__" :Str))=false:=by decide):D9 (S2 X.prog X.w) X.A (A0 (.Name x pos) X.env) Q E s:=by
 obtain⟨mb,h1,h2⟩:=I.mod.blt;exact Calls.Name_function_global I.ok.kind hg (Calls.loadGlobal_builtin (by rw [I.ok.glob];exact I.mod.glob.keeps I.bk) hm (by rw [I.ok.blt];exact h1.keeps I.bk) ((h2 x hn).trans hv) h) hd
theorem Lp {v:V}{pos:Pos}(hg:Gl X x)(hm:X.mg x=some u)(r:RelV v u)(hd:(x==("__debug__" :Str))=false:=by decide):PE X (.Name x pos) (tC v):=
 λ_ _ _ H _ I h=>Rk I hg hm ⟨v,H,I,r,h⟩ hd
theorem Lq {v:V}{pos:Pos}(hg:Gl X x)(hm:X.mg x=none)(hv:Q1 x=some u)(r:RelV v u)(hn:x≠ "__name__" :=by decide)(hd:(x==("__debug__" :Str))=false:=by decide):PE X (.Name x pos) (tC v):=
 λ_ _ _ H _ I h=>Vr I hg hm hv ⟨v,H,I,r,h⟩ hn hd
variable {a b:T8}{ta tb:TE}{pos:Pos}
def tB (t:TE):TT:=λσ H Q=>t σ H λx H1=> ∃c,x= .bl c/\Q c H1
theorem Eb {e:T8}{t:TE}(h:PE X e t)(he: ∀whole,isTrue e X.env whole=(do let v <-whole;cV e.pos;aF [v] (lJ v)):=by intro _;rfl):PT X e (tB t):=by
 intro À s σ H Q I hw;refine o9 (Ô (h À s σ H _ I hw) λv s1 ⟨x,H1,I1,r1,q1⟩=> ?_) (he _);obtain⟨d,rfl,q⟩:=q1;cases r1;exact E5 ⟨H1,I1,q⟩
variable {tA tB':TT}{rest:G0 T8}
def ka (t u:TT):TT:=λσ H Q=>t σ H λc H1=>if c=true then u σ H1 Q else Q false H1
def tOr (t u:TT):TT:=λσ H Q=>t σ H λc H1=>if c=true then Q true H1 else u σ H1 Q
def kb (t:TT):TT:=λσ H Q=>t σ H λc H1=>Q (!c) H1
theorem Lr (ha:PT X a tA):PW X (.BoolOp .And [a] pos) tA:=by
 intro wh À s σ H Q I h;refine IT (Ô (ha À s σ H Q I h) λc s1 e=> ?_);cases c with
 |true=>exact isTrue_and_nil e
 |false=>exact e
theorem Ec (ha:PT X a tA):PW X (.BoolOp .Or [a] pos) tA:=by
 intro wh À s σ H Q I h;refine isTrue_or (Ô (ha À s σ H Q I h) λc s1 e=> ?_);cases c with
 |false=>exact isTrue_or_nil e
 |true=>exact e
theorem Ed (ha:PT X a tA)(hb:PW X (.BoolOp .And (b::rest) pos) tB'):PW X (.BoolOp .And (a::b::rest) pos) (ka tA tB'):=by
 intro wh À s σ H Q I h;refine IT (Ô (ha À s σ H _ I h) λc s1 ⟨H1,I1,q1⟩=> ?_);cases c with
 |true=>exact hb wh À s1 σ H1 Q I1 q1
 |false=>exact⟨H1,I1,q1⟩
theorem Hm (ha:PT X a tA)(hb:PW X (.BoolOp .Or (b::rest) pos) tB'):PW X (.BoolOp .Or (a::b::rest) pos) (tOr tA tB'):=by
 intro wh À s σ H Q I h;refine isTrue_or (Ô (ha À s σ H _ I h) λc s1 ⟨H1,I1,q1⟩=> ?_);cases c with
 |true=>exact⟨H1,I1,q1⟩
 |false=>exact hb wh À s1 σ H1 Q I1 q1
theorem Ee (ha:PT X a tA):PT X (.UnaryOp .Not a pos) (kb tA):=by
 intro À s σ H Q I h;exact isTrue_not (ha À s σ H (λc H1=>Q (!c) H1) I h)
def Ef (ta tb:TE):TE:=λσ H Q=>ta σ H λx H1=> ∃c,x= .bl c/\if c=true then tb σ H1 Q else Q (.bl false) H1
def kc (ta tb:TE):TE:=λσ H Q=>ta σ H λx H1=> ∃c,x= .bl c/\if c=true then Q (.bl true) H1 else tb σ H1 Q
def Eg (ta:TE):TE:=λσ H Q=>ta σ H λx H1=> ∃c,x= .bl c/\Q (.bl (!c)) H1
theorem Eh {op}{t:TE}(h:PE X a t):PE X (.BoolOp op [a] pos) t:=λÀ s σ H Q I hw=>BoolOp_one (h À s σ H Q I hw)
theorem Ei (ha:PE X a ta)(hb:PE X (.BoolOp .And (b::rest) pos) tb):PE X (.BoolOp .And (a::b::rest) pos) (Ef ta tb):=by
 intro À s σ H Q I h;refine BoolOp_and (Ô (ha À s σ H _ I h) λv s1 ⟨x,H1,I1,r1,q1⟩=> ?_);obtain⟨c,rfl,q1⟩:=q1;cases r1;refine E5 ?_;cases c with
 |true=>exact hb À s1 σ H1 Q I1 q1
 |false=>exact⟨.bl false,H1,I1,rfl,q1⟩
theorem Hn (ha:PE X a ta)(hb:PE X (.BoolOp .Or (b::rest) pos) tb):PE X (.BoolOp .Or (a::b::rest) pos) (kc ta tb):=by
 intro À s σ H Q I h;refine BoolOp_or (Ô (ha À s σ H _ I h) λv s1 ⟨x,H1,I1,r1,q1⟩=> ?_);obtain⟨c,rfl,q1⟩:=q1;cases r1;refine E5 ?_;cases c with
 |false=>exact hb À s1 σ H1 Q I1 q1
 |true=>exact⟨.bl true,H1,I1,rfl,q1⟩
theorem Ej (ha:PE X a ta):PE X (.UnaryOp .Not a pos) (Eg ta):=by
 intro À s σ H Q I h;refine UnaryOp_ (Ô (ha À s σ H _ I h) λv s1 ⟨x,H1,I1,r1,q1⟩=> ?_);obtain⟨c,rfl,q1⟩:=q1;cases r1;exact not_of (E5 ⟨.bl (!c),H1,I1,rfl,q1⟩)
def tIf (t:TT)(ta tb:TE):TE:=λσ H Q=>t σ H λc H1=>if c=true then ta σ H1 Q else tb σ H1 Q
theorem Br {c:T8}(hc:PT X c tA)(ha:PE X a ta)(hb:PE X b tb):PE X (.IfExp c a b pos) (tIf tA ta tb):=by
 intro À s σ H Q I h;refine wpAny_IfExp (Ô (hc À s σ H _ I h) λd s1 ⟨H1,I1,q1⟩=> ?_);cases d with
 |true=>exact ha À s1 σ H1 Q I1 q1
 |false=>exact hb À s1 σ H1 Q I1 q1
end
def ò (K:G5)(H:Hp)(a:P1)(xs:G0 V):Prop:=
 Rd H a (.lst xs)\/
  ∃ (o:Obj) (its:M8 G3) (n:G7),K.lookup a=some o/\o.cls= .type "list" /\o.dict=none/\o.data= .seq its n/\its.size<=sizeLine/\È xs its.toList
def ç (K:G5)(H:Hp)(a:P1)(xs:G0 V):Prop:=
 Rd H a (.tup xs)\/
  ∃ (o:Obj) (its:M8 G3) (n:G7),K.lookup a=some o/\o.cls= .type "tuple" /\o.data= .seq its n/\its.size<=sizeLine/\È xs its.toList
def uE:G3->P7 V
 | .none=>some .non
 | .bool b=>some (.bl b)
 | .int i _=>some (.int i)
 | .str x _=>some (.str x)
 | .bytes b _=>some (.byt b)
 | .float b _=>some (.flt b)
 | .ref a=>some (.ref a)
 | .type n=>some (.ty n)
 |_=>none
theorem RelV.abs {x:V}(r:RelV x u):uE u=some x:=by
 cases x with
 |non=>cases r;rfl
 |bl _=>cases r;rfl
 |int _=>obtain⟨t,rfl⟩:=r;rfl
 |str _=>obtain⟨t,rfl⟩:=r;rfl
 |byt _=>obtain⟨t,rfl⟩:=r;rfl
 |flt _=>obtain⟨t,rfl⟩:=r;rfl
 |ref _=>cases r;rfl
 |ty _=>cases r;rfl
theorem RelV.inj {x y:V}(r:RelV x u)(q:RelV y u):x=y:=B9 (r.abs.symm.trans q.abs)
theorem È.inj: ∀ {xs ys:G0 V} {us:G0 G3},È xs us->È ys us->xs=ys
 |_,_,_,.nil,.nil=>rfl
 |_,_,_,.cons r t,.cons r' t'=>by rw [r.inj r',È.inj t t']
section
variable {X:Cx}{À:G0 (P1×Obj)}{σ:St}{H:Hp}{s:G6}{a:P1}{xs ys:G0 V}
theorem ò.of {K:G5}(h:H a=some (.lst xs)):ò K H a xs:= .inl (.inl h)
theorem ç.of {K:G5}(h:H a=some (.tup xs)):ç K H a xs:= .inl (.inl h)
theorem Inv.list (I:Inv X À σ H s)(h:ò X.K H a xs): ∃its:G0 G3,È xs its/\PlainL s.heap a its.toArray/\xs.length<=sizeLine:=by
 rcases h with h|⟨o,its,n,hk,hc,hd,hs,hz,r⟩
 ·obtain⟨z,its,n,r,e⟩:=h.ok I.hok;exact⟨its,r,⟨_,n,e,rfl,rfl,rfl⟩,z⟩
 ·refine⟨its.toList,r,⟨o,n,I.kIn a o hk,hc,hd,by simpa using hs⟩,?_⟩;have e:=r.length;simp only [N0] at e;omega
theorem Inv.tuple (I:Inv X À σ H s)(h:ç X.K H a xs): ∃its:G0 G3,È xs its/\tW s.heap a its.toArray/\xs.length<=sizeLine:=by
 rcases h with h|⟨o,its,n,hk,hc,hs,hz,r⟩
 ·obtain⟨z,its,r,p⟩:=h.ok I.hok;exact⟨its,r,p.tup,z⟩
 ·refine⟨its.toList,r,⟨o,I.kIn a o hk,hc,n,by simpa using hs⟩,?_⟩;have e:=r.length;simp only [N0] at e;omega
theorem Inv.list_inj (I:Inv X À σ H s)(h:ò X.K H a xs)(h':ò X.K H a ys):xs=ys:=by
 obtain⟨its,r,⟨o,n,e,_,_,d⟩,_⟩:=I.list h;obtain⟨its',r',⟨o',n',e',_,_,d'⟩,_⟩:=I.list h';rw [e] at e';cases e';rw [d] at d';injection d' with d1 _
 have:its=its':=by simpa using congrArg pA d1
 subst this;exact r.inj r'
theorem Inv.tuple_inj (I:Inv X À σ H s)(h:ç X.K H a xs)(h':ç X.K H a ys):xs=ys:=by
 obtain⟨its,r,⟨o,e,_,n,d⟩,_⟩:=I.tuple h;obtain⟨its',r',⟨o',e',_,n',d'⟩,_⟩:=I.tuple h';rw [e] at e';cases e';rw [d] at d';injection d' with d1 _
 have:its=its':=by simpa using congrArg pA d1
 subst this;exact r.inj r'
end
abbrev Cx.wish (X:Cx)(E:G3->G6->Prop):Cx:= {X with xe:=E}
abbrev Cx.nox (X:Cx):Cx:=X.wish λ_ _=>False
theorem Cx.Ok.wish (ok:X.Ok)(E:G3->G6->Prop):(X.wish E).Ok:=
 ⟨ok.mod,ok.kind,ok.glob,ok.blt,ok.above,ok.inj,ok.has,ok.cab,ok.hd,ok.frames,ok.stk,ok.exf,ok.bs,ok.bsz,ok.noex,ok.exfs,ok.funs,ok.frf⟩
theorem Cx.Ok.unwish {E:G3->G6->Prop}(ok:(X.wish E).Ok):X.Ok:=
 ⟨ok.mod,ok.kind,ok.glob,ok.blt,ok.above,ok.inj,ok.has,ok.cab,ok.hd,ok.frames,ok.stk,ok.exf,ok.bs,ok.bsz,ok.noex,ok.exfs,ok.funs,ok.frf⟩
section
variable {X:Cx}{À:G0 (P1×Obj)}{σ:St}{H:Hp}{s:G6}{E:G3->G6->Prop}
theorem Inv.wish (I:Inv X À σ H s)(E:G3->G6->Prop):Inv (X.wish E) À σ H s:=⟨I.ok.wish E,I.os,I.bare,I.base,I.loc,I.cell,I.free,I.freeC,I.pin,I.hok,I.len⟩
theorem Inv.unwish (I:Inv (X.wish E) À σ H s):Inv X À σ H s:=⟨I.ok.unwish,I.os,I.bare,I.base,I.loc,I.cell,I.free,I.freeC,I.pin,I.hok,I.len⟩
theorem SP.unwish {D:Ž}{f:Flow}{s':G6}(h:SP (X.wish E) À D f s'):SP X À D f s':=by
 cases f with
 |next=>obtain⟨Â,H',I,q⟩:=h;exact⟨Â,H',I.unwish,q⟩
 |brk=>obtain⟨Â,H',I,q⟩:=h;exact⟨Â,H',I.unwish,q⟩
 |cont=>obtain⟨Â,H',I,q⟩:=h;exact⟨Â,H',I.unwish,q⟩
 |ret u=>obtain⟨v,Â,H',I,r,q⟩:=h;exact⟨v,Â,H',I.unwish,r,q⟩
theorem ś.nox {st:G0 A3}{t:TS}(h:ś X.nox st t):ś X st t:=λÀ s σ H D I hw=>
 M1 (h À s σ H D (I.wish _) hw) (λ_ _ q=>q.unwish) λ_ _ z=>False.elim z
end
section
variable {X:Cx}{st:A3}{rest:G0 A3}{t u:TS}{e:T8}{te:TE}{pos:Pos}
def Ek:TS:=λD σ H=>D.nx σ H
def kf (t u:TS):TS:=λD σ H=>t {D with nx:=u D} σ H
theorem X0a:ś X [] Ek:=λ_ _ σ H _ I h=>gC ⟨σ,H,I,h⟩
theorem Bs (h1:PS X st t)(h2:ś X rest u):ś X (st::rest) (kf t u):=by
 intro À s σ H D I h;refine qG (Ô (h1 À s σ H {D with nx:=u D} I h) λf s1 q=> ?_);cases f with
 |next=>
  obtain⟨Â,H',I',q⟩:=q;exact h2 À s1 Â H' D I' q
 |ret v=>exact q
 |brk=>exact q
 |cont=>exact q
theorem Ls (h1:PS X st t):ś X [st] t:=by
 intro À s σ H D I h;refine qG (Ô (h1 À s σ H D I h) λf s1 q=> ?_);cases f with
 |next=>exact gC q
 |ret v=>exact q
 |brk=>exact q
 |cont=>exact q
theorem Inv.quiet {À:G0 (P1×Obj)}{σ:St}{H:Hp}{s:G6}(I:Inv X À σ H s):xY X.env=false:=by simp [xY,I.ok.kind]
def El (te:TE):TS:=λD σ H=>te σ H λ_ H1=>D.nx σ H1
theorem Lt (he:PE X e te)(hs:V3 e none pos.line X.env=pure false:=by rfl):PS X (.Expr e pos) (El te):=by
 intro À s σ H D I h;exact wpAny_Expr_any (Ô (he À s σ H _ I h) λv s1 ⟨x,H1,I1,r1,q1⟩=>⟨σ,H1,I1,q1⟩) I.quiet hs
def kg (te:TE):TS:=λD σ H=>te σ H D.rt
theorem Em (he:PE X e te):PS X (.Return (some e) pos) (kg te):=by
 intro À s σ H D I h;exact wpAny_Return_some (Ô (he À s σ H _ I h) λv s1 ⟨x,H1,I1,r1,q1⟩=>⟨x,σ,H1,I1,r1,q1⟩)
def kh (c:TT)(t u:TS):TS:=λD σ H=>c σ H λb H1=>if b=true then t D σ H1 else u D σ H1
theorem Ho {c:T8}{a b:G0 A3}{tc:TT}(hc:PT X c tc)(ha:ś X a t)(hb:ś X b u):PS X (.If c a b pos) (kh tc t u):=by
 intro À s σ H D I h;refine wpAny_If (Ô (hc À s σ H _ I h) λd s1 ⟨H1,I1,q1⟩=> ?_);cases d with
 |true=>exact ha À s1 σ H1 D I1 q1
 |false=>exact hb À s1 σ H1 D I1 q1
end
abbrev TG:=V->St->Hp->(St->Hp->Prop)->Prop
abbrev TGs:=G0 V->St->Hp->(St->Hp->Prop)->Prop
def PG (X:Cx)(target:T8)(t:TG):Prop:=
 ∀ (À:G0 (P1×Obj)) (s:G6) (σ:St) (H:Hp) (v:V) (u:G3) (Q:St->Hp->Prop),Inv X À σ H s->RelV v u->t v σ H Q->
  D9 (S2 X.prog X.w) X.A (cX target X.env u) (λ_ s'=> ∃Â H',Inv X À Â H' s'/\Q Â H') X.xe s
def PGs (X:Cx)(ts:G0 T8)(t:TGs):Prop:=
 ∀ (À:G0 (P1×Obj)) (s:G6) (σ:St) (H:Hp) (vs:G0 V) (us:G0 G3) (Q:St->Hp->Prop),Inv X À σ H s->È vs us->t vs σ H Q->
  D9 (S2 X.prog X.w) X.A (oJ ((cY ts X.env).map (·.2)) us) (λ_ s'=> ∃Â H',Inv X À Â H' s'/\Q Â H') X.xe s
abbrev Hq:=V->V->V->Hp->(Hp->Prop)->Prop
def ki (X:Cx)(t:Hq):Prop:=
 ∀ (À:G0 (P1×Obj)) (s:G6) (σ:St) (H:Hp) (o i v:V) (ov iv u:G3) (Q:Hp->Prop),Inv X À σ H s->RelV o ov->RelV i iv->RelV v u->t o i v H Q->
  D9 (S2 X.prog X.w) X.A (rX ov iv u) (λ_ s'=> ∃H',Inv X À σ H' s'/\Q H') X.xe s
abbrev TIp:=V->V->Hp->VK->Prop
def PIp (X:Cx)(op:pB)(t:TIp):Prop:=
 ∀ (À:G0 (P1×Obj)) (s:G6) (σ:St) (H:Hp) (x y:V) (v u:G3) (Q:VK),Inv X À σ H s->RelV x v->RelV y u->t x y H Q->
  D9 (S2 X.prog X.w) X.A (inplaceOp op v u) (EP X À σ Q) X.xe s
section
variable {X:Cx}{pos:Pos}
def yn (i:G7):TG:=λv σ H Q=>Q (σ.set i (some v)) H
variable {i:G7}{x:Str}
theorem vF (hN:X.N.Nodup)(hi:X.N[i]? =some x)(hx:Loc X.env.scope x)(hf:X.fn x=true\/X.env.scope.names.lookup x=some .local:=by first|exact .inl rfl|exact .inr rfl|assumption):PG X (.Name x pos) (yn i):=by
 intro À s σ H v u Q I r h;exact wpAny_assign_Name (Zd I hN hi hx r (λs' I'=>⟨_,H,I',h⟩) hf)
def TV:TGs:=λvs σ H Q=>vs= []/\Q σ H
def QQ (t:TG)(u:TGs):TGs:=λvs σ H Q=> ∃v r,vs=v::r/\t v σ H λÂ H'=>u r Â H' Q
theorem QR:PGs X [] TV:=by
 intro À s σ H vs us Q I r h;obtain⟨e,h⟩:=h;subst e;cases r;exact pE ⟨σ,H,I,h⟩
variable {e:T8}
theorem Jb {es:G0 T8}{t:TG}{u:TGs}(h1:PG X e t)(h2:PGs X es u)
 (hs:(cY (e::es) X.env).map (·.2)=cX e X.env::(cY es X.env).map (·.2):=by rfl):PGs X (e::es) (QQ t u):=by
 intro À s σ H vs us Q I r h;obtain⟨v,vr,e1,h⟩:=h;subst e1;cases r with
 |cons r rr=>
  rw [hs];refine gR (Ô (h1 À s σ H _ _ _ I r h) λ_ s1 ⟨σ1,H1,I1,q1⟩=> ?_);exact h2 À s1 σ1 H1 _ _ Q I1 rr q1
def TW (K:G5)(n:G7)(t:TGs):TG:=λv σ H Q=> ∃a xs,v= .ref a/\ç K H a xs/\xs.length=n/\t xs σ H Q
theorem Rl {es:G0 T8}{k:G7}{t:TGs}{n:G7}(hc:X.calm=true)(h:PGs X es t)
 (hn:(cY es X.env).length=n:=by rfl)(hst:(cY es X.env).findIdx? (·.1)=none:=by rfl):PG X (.Tuple es k pos) (TW X.K n t):=by
 intro À s σ H v u Q I r hw;obtain⟨a,xs,e1,hq,hl,hw⟩:=hw;subst e1;cases r;obtain⟨its,rv,ht,hz⟩:=I.tuple hq;refine assign_Tuple_tuple (I.ok.hd hc) ht (by simp [hn,<-hl,rv.length]) hst λh' hx=> ?_
 have I1:Inv X À σ H {s with heap:=h'}:=I.kept (t':=s.toks) λb o e=>hx b o (N3 (R7 e)) e
 exact h À _ σ H xs _ Q I1 (by simpa using rv) hw
def uF (to ti:TE)(t:Hq):TG:=λv σ H Q=>to σ H λo H1=>ti σ H1 λi H2=>t o i v H2 λH3=>Q σ H3
theorem En {o i:T8}{to ti:TE}{t:Hq}(ho:PE X o to)(hi:PE X i ti)(hs:ki X t)
 (ha: ∀v,cX (.Subscript o i pos) X.env v=(do
  let ov <-aF [v] (A0 o X.env)
  let iv <-aF [v,ov] (A0 i X.env)
  cV pos
  aF [v,ov,iv] (rX ov iv v)
  G0l [v,ov,iv] []):=by intro _;rfl):PG X (.Subscript o i pos) (uF to ti t):=by
 intro À s σ H v u Q I r h;rw [ha];refine wpAny_bind (O0 (Ô (ho À s σ H _ I h) λov s1 ⟨x,H1,I1,r1,q1⟩=> ?_));refine wpAny_bind (O0 (Ô (hi À s1 σ H1 _ I1 q1) λiv s2 ⟨y,H2,I2,r2,q2⟩=> ?_));refine wpAny_bind (W4 (wpAny_bind (O0 (Ô (hs À s2 σ H2 x y v ov iv u _ I2 r1 r2 r q2) λ_ s3 ⟨H3,I3,q3⟩=> ?_))));exact wpAny_release ⟨σ,H3,I3,q3⟩
def Bv (te:TE)(g:TG):TS:=λD σ H=>te σ H λx H1=>g x σ H1 D.nx
theorem Eo {tg:T8}{te:TE}{g:TG}(he:PE X e te)(hg:PG X tg g)(hs:cP [tg] e pos.line X.env=pure false:=by rfl)(hw:cQ [tg] e X.env=pure none:=by rfl)
 (h1:(cY [tg] X.env).map (·.2)= [cX tg X.env]:=by rfl):PS X (.Assign [tg] e pos) (Bv te g):=by
 intro À s σ H D I h;refine wpAny_Assign_stores (Ô (he À s σ H _ I h) λv s1 ⟨x,H1,I1,r1,q1⟩=> ?_) hs hw;rw [h1];exact Ô (hg À s1 σ H1 x v _ I1 r1 q1) λ_ s2 q=>q
theorem Ep {te:TE}{pos':Pos}(hN:X.N.Nodup)(hi:X.N[i]? =some x)(hx:Loc X.env.scope x)(he:PE X e te)(hs:V3 e (some (.Name x pos')) pos.line X.env=pure false:=by rfl)(hf:X.fn x=true\/X.env.scope.names.lookup x=some .local:=by first|exact .inl rfl|exact .inr rfl|assumption):
 PS X (.Assign [.Name x pos'] e pos) (Bv te (yn i)):=by
 intro À s σ H D I h;refine wpAny_Assign_Name (Ô (he À s σ H _ I h) λv s1 ⟨y,H1,I1,r1,q1⟩=> ?_) hs;exact Zd I1 hN hi hx r1 (λs2 I2=>⟨_,H1,I2,q1⟩) hf
def kj (i j:G7)(ta:TA):TS:=λD σ H=>ta σ H λvs H1=> ∃v w,vs= [v,w]/\D.nx ((σ.set i (some v)).set j (some w)) H1
theorem Eq {j:G7}{y:Str}{a b:T8}{ta:TA}{px py pt:Pos}{kt k2 Τ}(hc:X.calm=true)(hN:X.N.Nodup)(hi:X.N[i]? =some x)(hj:X.N[j]? =some y)(hij:i≠j)
 (hx:X.env.scope.names.lookup x=some .local)(hy:X.env.scope.names.lookup y=some .local)(ha:PA X [a,b] ta)
 (hw:cQ [.Tuple [.Name x px,.Name y py] kt pt] (.Tuple [a,b] k2 Τ) X.env=pure (some [x,y]))
 (hs:cP [.Tuple [.Name x px,.Name y py] kt pt] (.Tuple [a,b] k2 Τ) pos.line X.env=pure false:=by rfl):
 PS X (.Assign [.Tuple [.Name x px,.Name y py] kt pt] (.Tuple [a,b] k2 Τ) pos) (kj i j ta):=by
 intro À s σ H D I h;rw [exec_Assign_arm];refine wpAny_bind (W4 ?_);rw [hs];refine wpAny_bind (G8 ?_);rw [R3 (by decide)];refine wpAny_bind (Tuple_ (Ô (ha _ À s σ H _ I h) λus s1 ⟨vs,H1,I1,r1,q1⟩=> ?_));obtain⟨v,w,e1,q1⟩:=q1;subst e1;obtain⟨u1,u2,rfl,rv,rw'⟩: ∃u1 u2,us= [u1,u2]/\RelV v u1/\RelV w u2:=by
  cases r1 with
  |cons p q=>
   cases q with
   |cons p' q'=>
    cases q';exact⟨_,_,rfl,p,p'⟩
 refine O3 ?_ (by show 2<=sizeLine;decide);have I2:Inv X À σ H1 {s1 with heap:=s1.heap.push {cls:= .type "tuple",data:= .seq [u1,u2].toArray}}:=I1.kept (t':=s1.toks) λb o e=>P3 _ e
 rw [hw];refine wpAny_bind (G8 ?_);show D9 (S2 X.prog X.w) X.A (do rule "assign.swapped-stores";let items <-unpackItems (.ref s1.heap.objs.size) 2 none;oJ [λv=>sC X.env y v,λv=>sC X.env x v] items.reverse;pure Flow.next) _ _ _;refine wpAny_bind (bF (wpAny_bind (unpackItems_tuple (items:= #[u1,u2]) (I.ok.hd hc) (IsTup.new s1.heap _) λh' ă=> ?_)));have I3:=I2.kept (h':=h') (t':=s1.toks) λb o e=>ă b o (N3 (R7 e)) e
 show D9 _ _ (oJ [λv=>sC X.env y v,λv=>sC X.env x v] [u2,u1] >>= λ_=>pure Flow.next) _ _ _;refine wpAny_bind (gR (sD (Zd I3 hN hj (.inl hy) rw' (λs2 I4=> ?_) (.inr hy))));refine gR (sD (Zd I4 hN hi (.inl hx) rv (λs3 I5=>pE (G8 ?_)) (.inr hx)));rw [List.set_comm _ _ (E4 hij)] at I5;exact⟨_,H1,I5,q1⟩
def kl (i:G7)(te:TE)(ti:TIp):TS:=λD σ H=> ∃x,σ[i]? =some (some x)/\te σ H λy H1=>ti x y H1 λz H2=>D.nx (σ.set i (some z)) H2
theorem Er {te:TE}{op:pB}{ti:TIp}{pos':Pos}(hN:X.N.Nodup)(hi:X.N[i]? =some x)(hx:Loc X.env.scope x)(he:PE X e te)(ho:PIp X op ti)(hf:X.fn x=true\/X.env.scope.names.lookup x=some .local:=by first|exact .inl rfl|exact .inr rfl|assumption):
 PS X (.AugAssign (.Name x pos') op e pos) (kl i te ti):=by
 intro À s σ H D I h;obtain⟨v,e1,h⟩:=h;obtain⟨m,hn,hl⟩:=I.loc;have vis:Vis X.env.scope x:=by rcases hx with k|k;exact .inl k;exact .inr (.inl k)
 obtain⟨u,r,l⟩:=hl i x v hi e1 vis;refine wpAny_AugAssign_Name ?_;have go:D9 (S2 X.prog X.w) X.A (A0 e X.env) (λw s₂=>D9 (S2 X.prog X.w) X.A (inplaceOp op u w) (λr s₃=>D9 (S2 X.prog X.w) X.A (tX X.env x r) (λ_=>SP X À D .next) X.xe s₃) X.xe s₂) X.xe s:=by
  refine Ô (he À s σ H _ I h) λw s1 ⟨y,H1,I1,r1,q1⟩=> ?_
  refine Ô (ho À s1 σ H1 v y u w _ I1 r r1 q1) λz s2 ⟨zv,H2,I2,r2,q2⟩=> ?_
  exact Zd I2 hN hi hx r2 (λs3 I3=>⟨_,H2,I3,q2⟩) hf
 rcases l with ⟨hk,hm⟩|⟨hk,c,hc,ŋ⟩
 ·exact mY I.ok.kind hk hn hm go
 ·rcases hk with hk|hk
  ·exact oE I.ok.kind hk hc ŋ go
  ·rcases hx with k|k
   ·have:X.env.scope.names.lookup x=some .free:=hk;rw [k] at this;cases this
   ·have:X.env.scope.names.lookup x=some .free:=hk;rw [k] at this;cases this
def ipI (f:P0->P0->P0):TIp:=λx y H Q=> ∃i j,x= .int i/\y= .int j/\Q (.int (f i j)) H
theorem Es:PIp X .Add (ipI λi j=>i+j):=by
 intro À s σ H x y v u Q I r1 r2 h;obtain⟨i,j,e1,e2,q⟩:=h;subst e1;subst e2;obtain⟨t,rfl⟩:=r1;obtain⟨t',rfl⟩:=r2;exact iadd_int ⟨.int _,H,I.tok _,⟨_,rfl⟩,q⟩
def FD (c:TT)(tb:TS):TS:=λD σ H=> ∃W:G7->St->Hp->Prop,(∃m,W m σ H)/\ ∀m σ H,W m σ H->
 c σ H λb H1=>if b=true then ∃N:St->Hp->Prop,(∀Â H',N Â H'-> ∃m',m'<m/\W m' Â H')/\tb {D with nx:=N,ct:=N,bk:=D.nx} σ H1 else D.nx σ H1
theorem Bw {c:T8}{body:G0 A3}{tc:TT}{tb:TS}(hp:oA (S2 X.prog X.w) X.A X.env X.xe)(hc:PT X c tc)(hb:ś X body tb):PS X (.While c body [] pos) (FD tc tb):=by
 intro À s σ H D I h;obtain⟨W,⟨m0,w0⟩,turn⟩:=h;refine wpAny_While (codeAny_whileLoop (λn s'=> ∃Â H',Inv X À Â H' s'/\W n Â H') ?_ m0 ⟨σ,H,I,w0⟩);rintro n s1 ⟨σ1,H1,I1,w1⟩;refine aI hp (Ô (hc À s1 σ1 H1 _ I1 (turn n σ1 H1 w1)) λb s2 ⟨H2,I2,q2⟩=> ?_);cases b with
 |true=>
  obtain⟨N,hN,q2⟩:=q2;rw [R5 rfl];refine aI hp (Ô (hb À s2 σ1 H2 _ I2 q2) λf s3 q3=> ?_);cases f with
  |next=>
   obtain⟨ć,H3,I3,n3⟩:=q3;obtain⟨m',hm,w3⟩:=hN ć H3 n3;exact⟨m',hm,ć,H3,I3,w3⟩
  |cont=>
   obtain⟨ć,H3,I3,n3⟩:=q3;obtain⟨m',hm,w3⟩:=hN ć H3 n3;exact⟨m',hm,ć,H3,I3,w3⟩
  |brk=>exact q3
  |ret v=>exact q3
 |false=>
  rw [R3 D0];exact gC ⟨σ1,H2,I2,q2⟩
end
structure It where
 go:G7->Hp->Prop
 yld:G7->Hp->V->Hp->Prop
 stop:G7->Hp->Prop
def Rb (X:Cx)(À:G0 (P1×Obj))(H:Hp)(b:P1):Prop:=
 H b=none/\b≠X.env.locals/\b ∉ X.fs/\(b∈X.ex\/X.s₀.heap.objs.size<=b)/\(∀x c,X.env.cells.lookup x=some c->c≠b)/\ ∀p∈X.pn++À,p.1≠b
theorem Inv.fpOk {À:G0 (P1×Obj)}{σ:St}{H':Hp}(I:Inv X À σ H s)(hb:s.heap.objs.size<=b)(hn:H' b=none):Rb X À H' b:=by
 refine⟨hn,U5 (N7 I.lt hb),I.nofs hb,.inr (S5 I.sz hb),λx c e z=> ?_,λp hp z=> ?_⟩
 ·obtain⟨v,q⟩:=I.cell x c e;exact absurd (N7 q.lt (by rw [z];exact hb)) (A4 _)
 ·exact absurd (N7 (R7 (I.pin p hp).1) (by rw [z];exact hb)) (A4 _)
structure Ŝ (P:T7)(w:C1)(K:G5)(tg:T8)(J:It)(fp:G0 P1)(it:P1)(tn:G7->L8->Prop):Prop where
 mem:it∈fp
 obj: ∀i h,tn i h-> ∀b∈fp,∃o,h.get? b=some o/\ ∀v,o.data≠ .cell v
 keep: ∀i h h',tn i h->(∀b∈fp,∀o,h.get? b=some o->h'.get? b=some o)->tn i h'
 item: ∀ (X:Cx),X.prog=P->X.w=w->X.K=K->X.calm=true-> ∀ (i:G7) (À:G0 (P1×Obj)) (s:G6) (σ:St) (H:Hp) (E:G3->G6->Prop),Inv X À σ H s->(∀b∈fp,Rb X À H b)->tn i s.heap->J.go i H->
  D9 (S2 P w) X.A (gS (.ref it)) (λr s1=> ∃u,r=some u/\
   D9 (S2 P w) X.A (aJ tg (.ref it) u) (λ_ s2=> ∃x H',Inv X À σ H' s2/\RelV x u/\J.yld i H x H'/\tn (i+1) s2.heap/\ ∀b∈fp,H' b=none) E s1) E s
 done: ∀ (X:Cx),X.prog=P->X.w=w->X.K=K->X.calm=true-> ∀ (i:G7) (À:G0 (P1×Obj)) (s:G6) (σ:St) (H:Hp) (E:G3->G6->Prop),Inv X À σ H s->(∀b∈fp,Rb X À H b)->tn i s.heap->J.stop i H->
  D9 (S2 P w) X.A (gS (.ref it)) (λr s1=>r=none/\Inv X À σ H s1) E s
 self: ∀ (A:B2) (i:G7) (s:G6) (Q:G3->G6->Prop) (E:G3->G6->Prop),tn i s.heap->Q (.ref it) s->D9 (S2 P w) A (mZ (.ref it)) Q E s
abbrev TI:=St->Hp->(It->Hp->Prop)->Prop
def PIE (X:Cx)(À:G0 (P1×Obj))(σ:St)(tg:T8)(R:It->Hp->Prop)(itv:G3)(s2:G6):Prop:=
 ∃ (it:P1) (fp:G0 P1) (tn:G7->L8->Prop) (J:It) (H':Hp),itv= .ref it/\Inv X À σ H' s2/\Ŝ X.prog X.w X.K tg J fp it tn/\tn 0 s2.heap/\(∀b∈fp,Rb X À H' b)/\R J H'
def PI (X:Cx)(tg iter:T8)(wi:TI):Prop:=
 ∀ (À:G0 (P1×Obj)) (s:G6) (σ:St) (H:Hp) (R:It->Hp->Prop),Inv X À σ H s->wi σ H R->
  D9 (S2 X.prog X.w) X.A (A0 iter X.env) (λv s1=>D9 (S2 X.prog X.w) X.A (mZ v) (PIE X À σ tg R) X.xe s1) X.xe s
variable {tg:T8}
theorem Bx {M : qX} {E : G3 → G6 → Prop} {it : P1} {o : Obj} {n : U4} {vs : M8 G3} {Q : Unit → G6 → Prop} (ho : s.heap.get? it = some o) (hc : o.cls = .type n) (hd : o.data = .fields vs)
    (hn : ["enumerate", "zip", "dict_itemiterator", "dict_reverseitemiterator", "odict_iterator", "itertools.zip_longest", "itertools.pairwise"].contains n = false) (hQ : Q () s) : D9 M A (aJ tg (.ref it) u) Q E s := by
  unfold aJ
  cases tg <;> first
    | exact G8 hQ
    | (cases u <;> first
        | exact G8 hQ
        | (refine wpAny_bind (IU ho ?_)
           rw [hc, hd]
           show D9 M A (if (["enumerate", "zip", "dict_itemiterator", "dict_reverseitemiterator", "odict_iterator", "itertools.zip_longest", "itertools.pairwise"].contains n && vs[0]? == some (i9 _)) = true then _ else _) Q E s
           rw [R3 (by intro h; rw [hn, bY] at h; cases h)]
           exact G8 hQ))
def Itl (K:G5)(a:P1):It:=
 ⟨λi H=> ∃xs x,ò K H a xs/\xs[i]? =some x,λi H x H'=>H'=H/\ ∀xs,ò K H a xs->xs[i]? =some x,λi H=> ∃xs,ò K H a xs/\xs.length<=i⟩
def Itt (K:G5)(a:P1):It:=
 ⟨λi H=> ∃xs x,ç K H a xs/\xs[i]? =some x,λi H x H'=>H'=H/\ ∀xs,ç K H a xs->xs[i]? =some x,λi H=> ∃xs,ç K H a xs/\xs.length<=i⟩
def Itr (lo:P0)(n:G7):It:=⟨λi _=>i<n,λi H x H'=>H'=H/\x= .int (lo+i),λi _=>n<=i⟩
variable {K:G5}
theorem Xf (a it:P1):Ŝ P w K tg (Itl K a) [it] it (λi h=>h.IsListIter it a i) where
 mem:=by simp
 obj:=λi h st b hb=>by
  have e:b=it:=by simpa using hb
  subst e;obtain⟨o,e,c,d⟩:=st;exact⟨o,e,λv z=>by rw [d] at z;cases z⟩
 keep:=λi h h' st k=>st.at λo e=>k it (by simp) o e
 item:=by
  intro X hP hw hK hc i À s σ H E I hf st hg;subst hP hw hK;obtain⟨xs,x,hq,hx⟩:=hg;obtain⟨its,rv,p,hz⟩:=I.list hq;obtain⟨u,hu,ru⟩:=rv.get hx;obtain⟨f0,f1,f2,f3,f4,f5⟩:=hf it (by simp);refine wpAny_pyNext_list_item st p.isList (x:=u) (by simpa using hu) λh' Å sb=> ?_
  have I1:Inv X À σ H {s with heap:=h'}:=I.turned (t':=s.toks) (λb o hb e=>(sb.2 b hb).trans e) f0 f1 f3 f4 f5;obtain⟨o,e,c,d⟩:=id Å;exact⟨u,rfl,Bx (s:= {s with heap:=h'}) e c d (by decide) ⟨x,H,I1,ru,⟨rfl,λys hy=>by rw [I.list_inj hy hq];exact hx⟩,Å,λb hb=>(hf b hb).1⟩⟩
 done:=by
  intro X hP hw hK hc i À s σ H E I hf st hg;subst hP hw hK;obtain⟨xs,hq,hx⟩:=hg;obtain⟨its,rv,p,hz⟩:=I.list hq;obtain⟨f0,f1,f2,f3,f4,f5⟩:=hf it (by simp);have hl:=rv.length;exact wpAny_pyNext_list_end (I.ok.hd hc) st p.isList (by simp;omega) λh' eb=>⟨rfl,I.turned (t':=s.toks) (λb o hb e=>eb b o hb e) f0 f1 f3 f4 f5⟩
 self:=λ_ _ _ _ _ st h=>wpAny_pyIter_listiter st h
theorem Db (a it:P1):Ŝ P w K tg (Itt K a) [it] it (λi h=>h.IsTupleIter it a i) where
 mem:=by simp
 obj:=λi h st b hb=>by
  have e:b=it:=by simpa using hb
  subst e;obtain⟨o,e,c,d⟩:=st;exact⟨o,e,λv z=>by rw [d] at z;cases z⟩
 keep:=λi h h' st k=>st.at λo e=>k it (by simp) o e
 item:=by
  intro X hP hw hK hc i À s σ H E I hf st hg;subst hP hw hK;obtain⟨xs,x,hq,hx⟩:=hg;obtain⟨its,rv,p,hz⟩:=I.tuple hq;obtain⟨u,hu,ru⟩:=rv.get hx;obtain⟨f0,f1,f2,f3,f4,f5⟩:=hf it (by simp);refine wpAny_pyNext_tuple_item st (show s.heap.IsTuple a its.toArray from p) (x:=u) (by simpa using hu) λh' Å sb=> ?_
  have I1:Inv X À σ H {s with heap:=h'}:=I.turned (t':=s.toks) (λb o hb e=>(sb.2 b hb).trans e) f0 f1 f3 f4 f5;obtain⟨o,e,c,d⟩:=id Å;exact⟨u,rfl,Bx (s:= {s with heap:=h'}) e c d (by decide) ⟨x,H,I1,ru,⟨rfl,λys hy=>by rw [I.tuple_inj hy hq];exact hx⟩,Å,λb hb=>(hf b hb).1⟩⟩
 done:=by
  intro X hP hw hK hc i À s σ H E I hf st hg;subst hP hw hK;obtain⟨xs,hq,hx⟩:=hg;obtain⟨its,rv,p,hz⟩:=I.tuple hq;obtain⟨f0,f1,f2,f3,f4,f5⟩:=hf it (by simp);have hl:=rv.length;exact wpAny_pyNext_tuple_end (I.ok.hd hc) st (show s.heap.IsTuple a its.toArray from p) (by simp;omega) λh' eb=>⟨rfl,I.turned (t':=s.toks) (λb o hb e=>eb b o hb e) f0 f1 f3 f4 f5⟩
 self:=λ_ _ _ _ _ st h=>wpAny_pyIter_tupleiter st h
theorem Dc (it:P1)(lo:P0)(n:G7):Ŝ P w K tg (Itr lo n) [it] it (λi h=>xZ h it (lo+(i:G7)*1) ((n:P0)-(i:G7)) 1) where
 mem:=by simp
 obj:=λi h st b hb=>by
  have e:b=it:=by simpa using hb
  subst e;exact⟨_,st,λv z=>by
   have z':Data.fields _=Data.cell v:=z;cases z'⟩
 keep:=λi h h' st k=>k it (by simp) _ st
 item:=by
  intro X hP hw hK hc i À s σ H E I hf st hg;subst hP hw hK;obtain⟨f0,f1,f2,f3,f4,f5⟩:=hf it (by simp);have W:=Walks.range (prog:=X.prog) (w:=X.w) (I.ok.hd hc) it lo 1 n;refine W.item i s _ _ hg st λv h' tk hv Å kk=> ?_
  obtain⟨t,rfl⟩:=hv;have I1:Inv X À σ H {s with heap:=h',toks:=tk}:=I.turned (λb o hb e=>kk b o (by simpa using hb) e) f0 f1 f3 f4 f5;refine⟨_,rfl,Bx (s:= {s with heap:=h',toks:=tk}) (n:= "range_iterator") Å rfl rfl (by decide) ⟨.int (lo+i),H,I1,⟨t,?_⟩,⟨rfl,rfl⟩,Å,λb hb=>(hf b hb).1⟩⟩;rw [Int.mul_one]
 done:=by
  intro X hP hw hK hc i À s σ H E I hf st hg;subst hP hw hK;obtain⟨f0,f1,f2,f3,f4,f5⟩:=hf it (by simp);exact wpAny_pyNext_range_end (I.ok.hd hc) st (by have:n<=i:=hg;omega) λh' eb=>⟨rfl,I.turned (t':=s.toks) (λb o hb e=>eb b o hb e) f0 f1 f3 f4 f5⟩
 self:=λ_ _ _ _ _ st h=>wpAny_pyIter_rangeiter st h
section
variable {X:Cx}{tg:T8}
def Et (K:G5)(tl:TE):TI:=λσ H R=>tl σ H λx H1=> ∃a,x= .ref a/\(∃xs,ò K H1 a xs)/\R (Itl K a) H1
theorem Lu {l:T8}{tl:TE}(hl:PE X l tl):PI X tg l (Et X.K tl):=by
 intro À s σ H R I h;refine Ô (hl À s σ H _ I h) λv s1 ⟨x,H1,I1,r1,q1⟩=> ?_
 obtain⟨a,e,⟨xs,hq⟩,q⟩:=q1;subst e;cases r1;obtain⟨its,rv,p,hz⟩:=I1.list hq;refine bT p.isList ?_;refine⟨s1.heap.objs.size,[s1.heap.objs.size],_,_,H1,rfl,I1.kept (t':=s1.toks) λb o e=>P3 _ e,Xf a _,⟨_,S4 _ rfl,rfl,rfl⟩,λb hb=> ?_,q⟩;have e:b=s1.heap.objs.size:=by simpa using hb
 subst e;exact I1.fpOk (P5 _) (I1.hok.fresh (P5 _))
variable {À:G0 (P1×Obj)}
theorem By {σ:St}{H:Hp}{s:G6}{R:It->Hp->Prop}{E:G3->G6->Prop}{lo hi:P0}{t u v:Tok}{tk:G7}(I:Inv X À σ H s)(h1: -(2^62)<=lo)(h2:lo<2^62)(h3: -(2^62)<=hi)(h4:hi<2^62)
 (q:R (Itr lo (hi-lo).toNat) H):D9 (S2 X.prog X.w) X.A (mZ (.ref s.heap.objs.size)) (PIE X À σ tg R) E {s with heap:=s.heap.push {cls:= .type "range",data:= .fields #[.int lo t,.int hi u,.int 1 v]},toks:=tk}:=by
 refine wpAny_pyIter_range (IsRange.new ..) (small_one h1 h2 h3 h4) ?_;have I1:Inv X À σ H {s with heap:=s.heap.push {cls:= .type "range",data:= .fields #[.int lo t,.int hi u,.int 1 v]},toks:=tk}:=I.kept λb o e=>P3 _ e
 refine⟨(s.heap.push {cls:= .type "range",data:= .fields #[.int lo t,.int hi u,.int 1 v]}).objs.size,[(s.heap.push {cls:= .type "range",data:= .fields #[.int lo t,.int hi u,.int 1 v]}).objs.size],_,_,H,rfl,
  I1.kept (t':=tk) λb o e=>P3 _ e,Dc _ lo (hi-lo).toNat,?_,λb hb=> ?_,q⟩
 ·have e1:lo+((0:G7):P0)*1=lo:=by simp
  have e2:(((hi-lo).toNat:G7):P0)-((0:G7):P0)=Builtin.Range.rangeSize lo hi 1:=by rw [rangeSize_one];split<;>omega
  show xZ _ _ (lo+((0:G7):P0)*1) ((((hi-lo).toNat:G7):P0)-((0:G7):P0)) 1;rw [e1,e2];exact S4 _ rfl
 ·have e:b=(s.heap.push {cls:= .type "range",data:= .fields #[.int lo t,.int hi u,.int 1 v]}).objs.size:=by simpa using hb
  subst e;exact I1.fpOk (P5 _) (I1.hok.fresh (P5 _))
def Eu (ta:TA):TI:=λσ H R=>ta σ H λvs H1=> ∃j:P0,vs= [.int j]/\ -(2^62)<=j/\j<2^62/\R (Itr 0 j.toNat) H1
theorem Rm {a:T8}{ta:TA}{p pos:Pos}(hg:Gl X "range")(hm:X.mg "range" =none)(ha:PA X [a] ta)(hs:R6 [a] X.env= [(false,A0 a X.env)]:=by rfl):PI X tg (.Call (.Name "range" p) [a] [] pos) (Eu ta):=by
 intro À s σ H R I h;refine Call_ (Vr I hg hm boot_range (Y6 (Ô (ha pos À s σ H _ I h) λus s1 ⟨vs,H1,I1,r1,q1⟩=> ?_) hs rfl));obtain⟨j,e,q1,q2,q⟩:=q1;subst e;cases r1 with
 |cons r rr=>
  cases rr;obtain⟨t,rfl⟩:=r;exact call_range_1 (By I1 (by omega) (by omega) q1 q2 (by simpa using q))
def km (wi:TI)(g:TG)(tb:TS):TS:=λD σ H=>wi σ H λJ H1=> ∃W:G7->G7->St->Hp->Prop,(∃m,W 0 m σ H1)/\ ∀i m σ H,W i m σ H->
 (J.stop i H/\D.nx σ H)\/(J.go i H/\ ∃N:St->Hp->Prop,(∀Â H',N Â H'-> ∃m',m'<m/\W (i+1) m' Â H')/\ ∀x H',J.yld i H x H'->g x σ H' λÝ H2=>tb {D with nx:=N,ct:=N,bk:=D.nx} Ý H2)
def Jr (fp:G0 P1)(h:L8):G0 (P1×Obj):=fp.filterMap λb=>(h.get? b).map λo=>(b,o)
theorem wT {fp:G0 P1}{h:L8}{b:P1}{o:Obj}(hb:b∈fp)(e:h.get? b=some o):(b,o)∈Jr fp h:=cZ.mpr ⟨b,hb,by rw [e];rfl⟩
theorem WX {fp:G0 P1}{h:L8}{p:P1×Obj}(hp:p∈Jr fp h):p.1∈fp/\h.get? p.1=some p.2:=by
 obtain⟨b,hb,e⟩:=cZ.mp hp;cases q:h.get? b with
 |none=>rw [q] at e;cases e
 |some o=>
  rw [q] at e;have e':(b,o)=p:=B9 e;subst e';exact⟨hb,q⟩
theorem Inv.pinned {σ:St}{H:Hp}{s:G6}{fp:G0 P1}(I:Inv X À σ H s)(hf: ∀b∈fp,Rb X À H b)(ho: ∀b∈fp,∃o,s.heap.get? b=some o/\ ∀v,o.data≠ .cell v):Inv X (À++Jr fp s.heap) σ H s:=
 I.pins_of λp hp=>(D5.mp hp).elim (λz=>I.pin p (D3 _ z)) λz=>by
  obtain⟨hb,e⟩:=WX z;obtain⟨f0,f1,f2,_⟩:=hf p.1 hb;obtain⟨o,e',d⟩:=ho p.1 hb;rw [e] at e';cases e';exact⟨e,f0,f1,f2,d⟩
theorem Inv.unpinned {pl:G0 (P1×Obj)}{σ:St}{H:Hp}{s:G6}(I:Inv X (À++pl) σ H s):Inv X À σ H s:=I.pins_of λp hp=>I.pin p (D3 _ (B7 _ hp))
theorem Ev {iter:T8}{body:G0 A3}{wi:TI}{g:TG}{tb:TS}{pos:Pos}(hp:oA (S2 X.prog X.w) X.A X.env X.xe)(hc:X.calm=true)(hi:PI X tg iter wi)(hg:PG X tg g)(hb:ś X body tb)
 (hs: ∀x,T5 iter X.env x=pure x:=by intro _;rfl):PS X (.For tg iter body [] pos) (km wi g tb):=by
 intro À s σ H D I h;refine wpAny_For (Ô (hi À s σ H _ I h) λv s1 h1=>Ô h1 λitv s2 h2=> ?_) hs;obtain⟨it,fp,tn,J,H2,e,I2,T,Ł,f2,W,⟨m0,w0⟩,turn⟩:=h2;subst e
 -- X0t stays true of Ś ū objects through Ś loop
 have Ĳ: ∀ {H':Hp},(∀b∈fp,H' b=none)-> ∀b∈fp,Rb X À H' b:=λhn b hb=>⟨hn b hb,(f2 b hb).2⟩
 refine codeAny_forLoop_any (λn s'=> ∃i Â H',Inv X À Â H' s'/\tn i s'.heap/\(∀b∈fp,H' b=none)/\W i n Â H') ?_ m0 ⟨0,σ,H2,I2,Ł,λb hb=>(f2 b hb).1,w0⟩;rintro n s3 ⟨i,ć,H3,I3,st3,fr3,w3⟩;rcases turn i n ć H3 w3 with ⟨stop,qn⟩|⟨go,N,hN,step⟩
 ·refine aI hp (Ô (T.done X rfl rfl rfl hc i À s3 ć H3 X.xe I3 (Ĳ fr3) st3 stop) λr s4 ⟨hr,I4⟩=> ?_);subst hr;exact gC ⟨ć,H3,I4,qn⟩
 ·refine aI hp (Ô (T.item X rfl rfl rfl hc i À s3 ć H3 X.xe I3 (Ĳ fr3) st3 go) λr s4 ⟨u,hr,h4⟩=> ?_);subst hr;refine aI hp (Ô h4 λ_ s5 ⟨x,H5,I5,r5,y5,st5,fr5⟩=> ?_);have I5':=I5.pinned (Ĳ fr5) (T.obj _ _ st5);refine aI hp (Ô (hg _ s5 ć H5 x u _ I5' r5 (step x H5 y5)) λ_ s6 ⟨σ6,H6,I6,q6⟩=> ?_);refine aI hp (Ô (hb _ s6 σ6 H6 _ I6 q6) λf s7 q7=> ?_);have again: ∀ {Υ:St} {H7:Hp},Inv X (À++Jr fp s5.heap) Υ H7 s7->N Υ H7-> ∃m,m<n/\ ∃i Â H',Inv X À Â H' s7/\tn i s7.heap/\(∀b∈fp,H' b=none)/\W i m Â H':=λ{Υ H7} I7 n7=>by
   obtain⟨m',hm,w7⟩:=hN Υ H7 n7;refine⟨m',hm,i+1,Υ,H7,I7.unpinned,T.keep _ _ _ st5 λb hb o e=>(I7.pin (b,o) (D3 _ (D3 _ (wT hb e)))).1,λb hb=> ?_,w7⟩;obtain⟨o,e,d⟩:=T.obj _ _ st5 b hb;exact(I7.pin (b,o) (D3 _ (D3 _ (wT hb e)))).2.1
  cases f with
  |next=>obtain⟨Υ,H7,I7,n7⟩:=q7;exact again I7 n7
  |cont=>obtain⟨Υ,H7,I7,n7⟩:=q7;exact again I7 n7
  |brk=>obtain⟨Υ,H7,I7,q7⟩:=q7;exact⟨Υ,H7,I7.unpinned,q7⟩
  |ret v=>obtain⟨x7,Υ,H7,I7,r7,q7⟩:=q7;exact⟨x7,Υ,H7,I7.unpinned,r7,q7⟩
end
abbrev R2:=V->V->Hp->VK->Prop
def ü (X:Cx)(f:G3->G3->Sem G3)(r:R2):Prop:=
 ∀ (À:G0 (P1×Obj)) (s:G6) (σ:St) (H:Hp) (x y:V) (v u:G3) (Q:VK),Inv X À σ H s->RelV x v->RelV y u->r x y H Q->
  D9 (S2 X.prog X.w) X.A (f v u) (EP X À σ Q) X.xe s
def UnR (X:Cx)(f:G3->Sem G3)(r:V->Hp->VK->Prop):Prop:=
 ∀ (À:G0 (P1×Obj)) (s:G6) (σ:St) (H:Hp) (x:V) (v:G3) (Q:VK),Inv X À σ H s->RelV x v->r x H Q->
  D9 (S2 X.prog X.w) X.A (f v) (EP X À σ Q) X.xe s
def è (X:Cx)(f:G3)(r:G0 V->Hp->VK->Prop):Prop:=
 ∀ (À:G0 (P1×Obj)) (s:G6) (σ:St) (H:Hp) (xs:G0 V) (us:G0 G3) (Q:VK),Inv X À σ H s->È xs us->r xs H Q->
  D9 (S2 X.prog X.w) X.A (call f us) (EP X À σ Q) X.xe s
def tOp (r:R2)(ta tb:TE):TE:=λσ H Q=>ta σ H λx H1=>tb σ H1 λy H2=>r x y H2 Q
def tUn (r:V->Hp->VK->Prop)(ta:TE):TE:=λσ H Q=>ta σ H λx H1=>r x H1 Q
def rI (C:P0->P0->Prop)(g:P0->P0->V):R2:=λx y H Q=> ∃i j,x= .int i/\y= .int j/\C i j/\Q (g i j) H
def rI0 (g:P0->P0->V):R2:=λx y H Q=> ∃i j,x= .int i/\y= .int j/\Q (g i j) H
def rU (g:P0->V):V->Hp->VK->Prop:=λx H Q=> ∃i,x= .int i/\Q (g i) H
section
variable {X:Cx}{a b c:T8}{ta tb tc:TE}{pos:Pos}
theorem Hr (ha:PE X a ta)(hb:PE X b tb){À:G0 (P1×Obj)}{s:G6}{σ:St}{H:Hp}{R:V->V->Hp->Prop}(I:Inv X À σ H s)
 (h:ta σ H λx H1=>tb σ H1 λy H2=>R x y H2){Q:G3->G6->Prop}{f:G3->G3->Sem G3}
 (hf: ∀v u s2 x y H2,Inv X À σ H2 s2->RelV x v->RelV y u->R x y H2->D9 (S2 X.prog X.w) X.A (f v u) Q X.xe s2):
 D9 (S2 X.prog X.w) X.A (A0 a X.env) (λv s₁=>D9 (S2 X.prog X.w) X.A (A0 b X.env) (λu s₂=>D9 (S2 X.prog X.w) X.A (f v u) Q X.xe s₂) X.xe s₁) X.xe s:=by
 refine Ô (ha À s σ H _ I h) λv s1 ⟨x,H1,I1,r1,q1⟩=> ?_
 refine Ô (hb À s1 σ H1 _ I1 q1) λu s2 ⟨y,H2,I2,r2,q2⟩=> ?_
 exact hf v u s2 x y H2 I2 r1 r2 q2
theorem Hs {op:pB}{r:R2}(ho:ü X (J4 op) r)(ha:PE X a ta)(hb:PE X b tb):PE X (.BinOp a op b pos) (tOp r ta tb):=by
 intro À s σ H Q I h;exact wpAny_BinOp (Hr ha hb I h λv u s2 x y H2 I2 rx ry q=>ho À s2 σ H2 x y v u Q I2 rx ry q)
theorem Ht {op:UnaryOp}{r:V->Hp->VK->Prop}(ho:UnR X (unaryOp op) r)(ha:PE X a ta):PE X (.UnaryOp op a pos) (tUn r ta):=by
 intro À s σ H Q I h;exact UnaryOp_ (Ô (ha À s σ H _ I h) λv s1 ⟨x,H1,I1,r1,q1⟩=>ho À s1 σ H1 x v Q I1 r1 q1)
theorem opI {f:G3->G3->Sem G3}{C:P0->P0->Prop}{g:P0->P0->P0}
 (rule: ∀ (i j:P0) (t u:Tok) (s:G6) (Q:G3->G6->Prop) (E:G3->G6->Prop),C i j->Q (.int (g i j) s.toks) {s with toks:=s.toks+1}->D9 (S2 X.prog X.w) X.A (f (.int i t) (.int j u)) Q E s):
 ü X f (rI C λi j=> .int (g i j)):=by
 intro À s σ H x y v u Q I rx ry h;obtain⟨i,j,rfl,rfl,hc,q⟩:=h;obtain⟨t,rfl⟩:=rx;obtain⟨t',rfl⟩:=ry;exact rule i j t t' s _ _ hc ⟨.int (g i j),H,I.tok _,⟨_,rfl⟩,q⟩
theorem ko {f:G3->G3->Sem G3}{g:P0->P0->P0}
 (rule: ∀ (i j:P0) (t u:Tok) (s:G6) (Q:G3->G6->Prop) (E:G3->G6->Prop),Q (.int (g i j) s.toks) {s with toks:=s.toks+1}->D9 (S2 X.prog X.w) X.A (f (.int i t) (.int j u)) Q E s):
 ü X f (rI0 λi j=> .int (g i j)):=by
 intro À s σ H x y v u Q I rx ry h;obtain⟨i,j,rfl,rfl,q⟩:=h;obtain⟨t,rfl⟩:=rx;obtain⟨t',rfl⟩:=ry;exact rule i j t t' s _ _ ⟨.int (g i j),H,I.tok _,⟨_,rfl⟩,q⟩
theorem TX {f:G3->G3->Sem G3}{g:P0->P0->N2}
 (rule: ∀ (i j:P0) (t u:Tok) (s:G6) (Q:G3->G6->Prop) (E:G3->G6->Prop),Q (.bool (g i j)) s->D9 (S2 X.prog X.w) X.A (f (.int i t) (.int j u)) Q E s):
 ü X f (rI0 λi j=> .bl (g i j)):=by
 intro À s σ H x y v u Q I rx ry h;obtain⟨i,j,rfl,rfl,q⟩:=h;obtain⟨t,rfl⟩:=rx;obtain⟨t',rfl⟩:=ry;exact rule i j t t' s _ _ ⟨.bl (g i j),H,I,rfl,q⟩
def TY (i j:P0):Prop:=0<j/\j<1073741824
def kq (i j:P0):Prop:=0<=j/\j<=1000000/\i.natAbs<2^64
def Φ (i j:P0):Prop:=(-(2^64)<i/\i<2^64)\/(-(2^64)<j/\j<2^64)
theorem Φ.ok {i j:P0}(h:Φ i j):IntMulOk i j:=by
 rcases h with ⟨h1,h2⟩|⟨h1,h2⟩
 ·exact .of_left (sW h1 h2)
 ·exact .of_right (sW h1 h2)
theorem X0l:ü X (J4 .Add) (rI0 λi j=> .int (i+j)):=ko λ_ _ _ _ _ _ _ q=>add_int q
theorem Ew:ü X (J4 .Sub) (rI0 λi j=> .int (i-j)):=ko λ_ _ _ _ _ _ _ q=>sub_int q
theorem X0m:ü X (J4 .Mult) (rI Φ λi j=> .int (i*j)):=opI λ_ _ _ _ _ _ _ hc q=>mul_int q hc.ok
theorem Lv:ü X (J4 .FloorDiv) (rI TY λi j=> .int (i / j)):=opI λi j _ _ _ _ _ hc q=>by
 have h1:(0:P0)<j:=hc.1;have h2:j<1073741824:=hc.2;exact floordiv_int (by omega) (by rw [gU i (by omega)];exact q) (.inl (PyProof.noPylong_small (by omega)))
theorem Ex:ü X (J4 .Mod) (rI (λ_ j=>0<j) λi j=> .int (i%j)):=opI λi j _ _ _ _ _ hc q=>by
 have h1:(0:P0)<j:=hc;exact mod_int' (by omega) (by rw [gV i (by omega)];exact q)
theorem Ey:ü X (J4 .Pow) (rI kq λi j=> .int (i^j.toNat)):=opI λ_ _ _ _ _ _ _ hc q=>pow_int_small hc.1 hc.2.1 hc.2.2 q
theorem unI {f:G3->Sem G3}{g:P0->P0}
 (rule: ∀ (i:P0) (t:Tok) (s:G6) (Q:G3->G6->Prop) (E:G3->G6->Prop),Q (.int (g i) s.toks) {s with toks:=s.toks+1}->D9 (S2 X.prog X.w) X.A (f (.int i t)) Q E s):
 UnR X f (rU λi=> .int (g i)):=by
 intro À s σ H x v Q I rx h;obtain⟨i,rfl,q⟩:=h;obtain⟨t,rfl⟩:=rx;exact rule i t s _ _ ⟨.int (g i),H,I.tok _,⟨_,rfl⟩,q⟩
theorem Ez:UnR X (unaryOp .USub) (rU λi=> .int (-i)):=unI λ_ _ _ _ _ q=>neg_int q
end
def kr:V->V->N2
 | .non,.non=>true| .non,.int _=>true| .int _,.non=>true| .non,.bl _=>true| .bl _,.non=>true| .non,.str _=>true| .str _,.non=>true
 | .int _,.int _=>true| .bl _,.bl _=>true| .str _,.str _=>true| .byt _,.byt _=>true
 | .int _,.str _=>true| .str _,.int _=>true| .bl _,.str _=>true| .str _,.bl _=>true
 |_,_=>false
def rEq:R2:=λx y H Q=>kr x y=true/\Q (.bl (decide (x=y))) H
def rNe:R2:=λx y H Q=>kr x y=true/\Q (.bl (!decide (x=y))) H
theorem Rn {i j:P0}:decide (V.int i=V.int j)=(i==j):=by
 rw [J8];simp
theorem FE {i j:N2}:decide (V.bl i=V.bl j)=(i==j):=by
 rw [J8];simp
theorem Ro {i j:Str}:decide (V.str i=V.str j)=(i==j):=by
 rw [J8];simp
theorem Rp {i j:M8 UInt8}:decide (V.byt i=V.byt j)=(i.toList==j.toList):=by
 rw [J8];cases i;cases j;simp
section
variable {X:Cx}{a b c:T8}{ta tb tc:TE}{pos:Pos}
theorem jH {À:G0 (P1×Obj)}{σ:St}{H:Hp}{s:G6}{Q:VK}{k k':N2}(I:Inv X À σ H s)(q:Q (.bl k) H)(e:k=k'):EP X À σ Q (.bool k') s:=by
 subst e;exact⟨.bl k,H,I,rfl,q⟩
theorem X0z:ü X (N8 .Eq) rEq:=by
 intro À s σ H x y v u Q I rx ry h;obtain⟨hs,q⟩:=h;cases x with
 |non=>
  cases rx;cases y with
  |non=>cases ry;exact PySem.EqNone.eq_none_none (jH I q (by simp))
  |bl j=>cases ry;exact PySem.EqNone.eq_none_bool (jH I q (by simp))
  |int j=>obtain⟨t',rfl⟩:=ry;exact PySem.EqNone.eq_none_int (jH I q (by simp))
  |str j=>obtain⟨t',rfl⟩:=ry;exact PySem.EqNone.eq_none_str (jH I q (by simp))
  |_=>exact absurd (show false=true from hs) D0
 |bl i=>
  cases rx;cases y with
  |non=>cases ry;exact PySem.EqNone.eq_bool_none (jH I q (by simp))
  |bl j=>cases ry;exact eq_bool (jH I q FE)
  |str j=>obtain⟨t',rfl⟩:=ry;exact PySem.EqMixed.eq_bool_str (jH I q (by simp))
  |_=>exact absurd (show false=true from hs) D0
 |int i=>
  obtain⟨t,rfl⟩:=rx;cases y with
  |non=>cases ry;exact PySem.EqNone.eq_int_none (jH I q (by simp))
  |int j=>obtain⟨t',rfl⟩:=ry;exact eq_int (jH I q Rn)
  |str j=>obtain⟨t',rfl⟩:=ry;exact PySem.EqMixed.eq_int_str (jH I q (by simp))
  |_=>exact absurd (show false=true from hs) D0
 |str i=>
  obtain⟨t,rfl⟩:=rx;cases y with
  |non=>cases ry;exact PySem.EqNone.eq_str_none (jH I q (by simp))
  |bl j=>cases ry;exact PySem.EqMixed.eq_str_bool (jH I q (by simp))
  |int j=>obtain⟨t',rfl⟩:=ry;exact PySem.EqMixed.eq_str_int (jH I q (by simp))
  |str j=>obtain⟨t',rfl⟩:=ry;exact eq_str (jH I q Ro)
  |_=>exact absurd (show false=true from hs) D0
 |byt i=>
  obtain⟨t,rfl⟩:=rx;cases y with
  |byt j=>obtain⟨t',rfl⟩:=ry;exact G0v (jH I q Rp)
  |_=>exact absurd (show false=true from hs) D0
 |_=>cases y<;>exact absurd (show false=true from hs) D0
theorem X0A:ü X (N8 .NotEq) rNe:=by
 intro À s σ H x y v u Q I rx ry h;obtain⟨hs,q⟩:=h;cases x with
 |non=>
  cases rx;cases y with
  |non=>cases ry;exact PySem.EqNone.ne_none_none (jH I q (by simp))
  |bl j=>cases ry;exact PySem.EqNone.ne_none_bool (jH I q (by simp))
  |int j=>obtain⟨t',rfl⟩:=ry;exact PySem.EqNone.ne_none_int (jH I q (by simp))
  |str j=>obtain⟨t',rfl⟩:=ry;exact PySem.EqNone.ne_none_str (jH I q (by simp))
  |_=>exact absurd (show false=true from hs) D0
 |bl i=>
  cases rx;cases y with
  |non=>cases ry;exact PySem.EqNone.ne_bool_none (jH I q (by simp))
  |bl j=>cases ry;exact ne_bool (jH I q (congrArg not FE))
  |str j=>obtain⟨t',rfl⟩:=ry;exact PySem.EqMixed.ne_bool_str (jH I q (by simp))
  |_=>exact absurd (show false=true from hs) D0
 |int i=>
  obtain⟨t,rfl⟩:=rx;cases y with
  |non=>cases ry;exact PySem.EqNone.ne_int_none (jH I q (by simp))
  |int j=>obtain⟨t',rfl⟩:=ry;exact ne_int (jH I q (congrArg not Rn))
  |str j=>obtain⟨t',rfl⟩:=ry;exact PySem.EqMixed.ne_int_str (jH I q (by simp))
  |_=>exact absurd (show false=true from hs) D0
 |str i=>
  obtain⟨t,rfl⟩:=rx;cases y with
  |non=>cases ry;exact PySem.EqNone.ne_str_none (jH I q (by simp))
  |bl j=>cases ry;exact PySem.EqMixed.ne_str_bool (jH I q (by simp))
  |int j=>obtain⟨t',rfl⟩:=ry;exact PySem.EqMixed.ne_str_int (jH I q (by simp))
  |str j=>obtain⟨t',rfl⟩:=ry;exact ne_str (jH I q (congrArg not Ro))
  |_=>exact absurd (show false=true from hs) D0
 |byt i=>
  obtain⟨t,rfl⟩:=rx;cases y with
  |byt j=>obtain⟨t',rfl⟩:=ry;exact G0w (jH I q (congrArg not Rp))
  |_=>exact absurd (show false=true from hs) D0
 |_=>cases y<;>exact absurd (show false=true from hs) D0
theorem Hu:ü X (N8 .Lt) (rI0 λi j=> .bl (decide (i<j))):=TX λ_ _ _ _ _ _ _ q=>lt_int q
theorem Hv:ü X (N8 .LtE) (rI0 λi j=> .bl (decide (i<=j))):=TX λ_ _ _ _ _ _ _ q=>le_int q
theorem Hw:ü X (N8 .Gt) (rI0 λi j=> .bl (decide (j<i))):=TX λ_ _ _ _ _ _ _ q=>gt_int q
theorem Hx:ü X (N8 .GtE) (rI0 λi j=> .bl (decide (j<=i))):=TX λ_ _ _ _ _ _ _ q=>ge_int q
theorem EA:ü X (N8 .Is) (λx y H Q=>y= .non/\Q (.bl (decide (x= .non))) H):=by
 intro À s σ H x y v u Q I rx ry h;obtain⟨rfl,q⟩:=h;cases ry;refine is_none_gen (jH I q ?_);cases x<;>first
  |(cases rx;rfl)
  |(obtain⟨t,rfl⟩:=rx;rfl)
theorem Lw:ü X (N8 .IsNot) (λx y H Q=>y= .non/\Q (.bl (!decide (x= .non))) H):=by
 intro À s σ H x y v u Q I rx ry h;obtain⟨rfl,q⟩:=h;cases ry;refine isnot_none_gen (jH I q ?_);cases x<;>first
  |(cases rx;rfl)
  |(obtain⟨t,rfl⟩:=rx;rfl)
variable {r:R2}
theorem ü.or {f:G3->G3->Sem G3}{r':R2}(h:ü X f r)(h':ü X f r'):ü X f (λx y H Q=>r x y H Q\/r' x y H Q):=by
 intro À s σ H x y v u Q I rx ry q;rcases q with q|q
 ·exact h À s σ H x y v u Q I rx ry q
 ·exact h' À s σ H x y v u Q I rx ry q
theorem FF (b:T8){op:i0}(h:op≠ .In:=by decide)(h2:op≠ .NotIn:=by decide):W5 op b=false:=by
 have e1:(op==CmpOp.In)=false:=by cases op<;>first|rfl|exact absurd rfl h
 have e2:(op==CmpOp.NotIn)=false:=by cases op<;>first|rfl|exact absurd rfl h2
 cases b<;>simp [W5,e1,e2]
theorem Ly {op:i0}(ho:ü X (N8 op) r)(ha:PE X a ta)(hb:PE X b tb)(hm:W5 op b=false):PE X (.Compare a [op] [b] pos) (tOp r ta tb):=by
 intro À s σ H Q I h;exact wpAny_Compare1 (Hr ha hb I h λv u s2 x y H2 I2 rx ry q=>ho À s2 σ H2 x y v u Q I2 rx ry q) hm
def Lz (t:TE):TT:=λσ H Q=>t σ H λx H'=> ∃k,x= .bl k/\Q k H'
theorem LB {op:i0}(ho:ü X (N8 op) r)(ha:PE X a ta)(hb:PE X b tb)(hm:W5 op b=false):PT X (.Compare a [op] [b] pos) (Lz (tOp r ta tb)):=by
 intro À s σ H Q I h;refine wpAny_isTrue_Compare1 (Ô (ha À s σ H _ I h) λv s1 ⟨x,H1,I1,r1,q1⟩=>Ô (hb À s1 σ H1 _ I1 q1) λu s2 ⟨y,H2,I2,r2,q2⟩=>
  Ô (ho À s2 σ H2 x y v u _ I2 r1 r2 q2) λc s3 ⟨z,H3,I3,r3,k,e,q3⟩=> ?_) hm
 subst e;cases r3;exact E5 ⟨H3,I3,q3⟩
def Rq (r r':R2)(ta tb tc:TE):TE:=λσ H Q=>ta σ H λx H1=>tb σ H1 λy H2=>r x y H2 λz H3=> ∃k,z= .bl k/\
 (if k=true then tc σ H3 λw' H4=>r' y w' H4 Q else Q (.bl false) H3)
theorem Bz {op ĳ:i0}{r':R2}(ho:ü X (N8 op) r)(ho':ü X (N8 ĳ) r')(ha:PE X a ta)(hb:PE X b tb)(hc:PE X c tc)
 (hm:k9 [op,ĳ] [b,c]=false:=by with_unfolding_all rfl):PE X (.Compare a [op,ĳ] [b,c] pos) (Rq r r' ta tb tc):=by
 intro À s σ H Q I h;refine Compare_chain (Ô (ha À s σ H _ I h) λv s1 ⟨x,H1,I1,r1,q1⟩=>chain_link (Ô (hb À s1 σ H1 _ I1 q1) λu s2 ⟨y,H2,I2,r2,q2⟩=>
  Ô (ho À s2 σ H2 x y v u _ I2 r1 r2 q2) λd s3 ⟨z,H3,I3,r3,k,e,q3⟩=> ?_)) hm
 subst e;cases r3;refine E5 ?_;cases k with
 |false=>exact ite_ff ⟨.bl false,H3,I3,rfl,q3⟩
 |true=>exact ite_tt (chain_last (Ô (hc À s3 σ H3 _ I3 q3) λw' s4 ⟨z',H4,I4,r4,q4⟩=>ho' À s4 σ H4 y z' u w' Q I4 r2 r4 q4))
theorem BA {op ĳ:i0}{r':R2}(ho:ü X (N8 op) r)(ho':ü X (N8 ĳ) r')(ha:PE X a ta)(hb:PE X b tb)(hc:PE X c tc)
 (hm:k9 [op,ĳ] [b,c]=false:=by with_unfolding_all rfl):PT X (.Compare a [op,ĳ] [b,c] pos) (Lz (Rq r r' ta tb tc)):=by
 intro À s σ H Q I h;refine isTrue_chain (Ô (ha À s σ H _ I h) λv s1 ⟨x,H1,I1,r1,q1⟩=>test_link (Ô (hb À s1 σ H1 _ I1 q1) λu s2 ⟨y,H2,I2,r2,q2⟩=>
  Ô (ho À s2 σ H2 x y v u _ I2 r1 r2 q2) λd s3 ⟨z,H3,I3,r3,k,e,q3⟩=> ?_)) hm
 subst e;cases r3;refine E5 ?_;cases k with
 |false=>
  obtain⟨k',e',q'⟩:=q3;cases e';exact ite_ff ⟨H3,I3,q'⟩
 |true=>
  refine ite_tt (test_last (Ô (hc À s3 σ H3 _ I3 q3) λw' s4 ⟨z',H4,I4,r4,q4⟩=>Ô (ho' À s4 σ H4 y z' u w' _ I4 r2 r4 q4) λd' s5 ⟨z2,H5,I5,r5,k2,e2,q5⟩=> ?_));subst e2;cases r5;exact E5 ⟨H5,I5,q5⟩
theorem Xg:(sizeLine:G7)<2^63:=by rw [x3];decide
theorem Vc {x:V}{us:G0 G3}(r:È [x] us): ∃u,us= [u]/\RelV x u:=by
 cases r with
 |cons r1 r2=>cases r2;exact⟨_,rfl,r1⟩
theorem BB {x y:V}{us:G0 G3}(r:È [x,y] us): ∃u w',us= [u,w']/\RelV x u/\RelV y w':=by
 cases r with
 |cons r1 r2=>
  cases r2 with
  |cons r3 r4=>cases r4;exact⟨_,_,rfl,r1,r3⟩
theorem Rr (hc:X.calm=true):è X (.builtin "max") (λxs H Q=> ∃i j,xs= [.int i,.int j]/\Q (.int (if j>i then j else i)) H):=by
 intro À s σ H xs us Q I r h;obtain⟨i,j,rfl,q⟩:=h;obtain⟨u,w',rfl,⟨t,rfl⟩,⟨t',rfl⟩⟩:=BB r;refine max_two_ints (I.ok.hd hc) λh' tk k=>⟨_,H,I.kept k,?_,q⟩
 by_cases hj:j>i
 ·rw [R5 hj,R5 hj];exact⟨_,rfl⟩
 ·rw [R3 hj,R3 hj];exact⟨_,rfl⟩
theorem ž:è X (.type "int") (λxs H Q=>(∃i,xs= [.int i]/\Q (.int i) H)\/ ∃k,xs= [.bl k]/\Q (.int (if k then 1 else 0)) H):=by
 intro À s σ H xs us Q I r h;rcases h with ⟨i,rfl,q⟩|⟨k,rfl,q⟩
 ·obtain⟨u,rfl,t,rfl⟩:=Vc r;exact call_int_int ⟨.int i,H,I,⟨_,rfl⟩,q⟩
 ·obtain⟨u,rfl,r1⟩:=Vc r;cases r1;exact call_int_bool ⟨.int (if k then 1 else 0),H,I.tok _,⟨_,rfl⟩,q⟩
theorem ŝ:è X (.builtin "divmod") (λxs H Q=> ∃i j,xs= [.int i,.int j]/\TY i j/\ ∀p,H p=none->Q (.ref p) (upd H p (.tup [.int (i / j),.int (i%j)]))):=by
 intro À s σ H xs us Q I r h;obtain⟨i,j,rfl,⟨h1,h2⟩,q⟩:=h;obtain⟨u,w',rfl,⟨t,rfl⟩,⟨t',rfl⟩⟩:=BB r;refine divmod_int (by omega) ?_ (.inl (PyProof.noPylong_small (by omega)));rw [gU i (by omega),gV i (by omega)];have hn:H s.heap.objs.size=none:=I.hok.fresh (P5 _);refine⟨.ref s.heap.objs.size,_,?_,rfl,q _ hn⟩;refine I.laid (λb o e=>P3 _ e) (P5 _) ⟨by simp only [S7,O4];rw [x3];decide,[.int (i / j) s.toks,.int (i%j) (s.toks+1)],.cons ⟨_,rfl⟩ (.cons ⟨_,rfl⟩ .nil),?_⟩;exact⟨_,S4 s.heap rfl,rfl,rfl,0,rfl⟩
end
structure X0B (h:L8)(x dx C:P1)(mA:Str->P7 G3):Prop where
 obj:h.get? x=some (mJ C dx)
 ns:h.Ns1 dx mA
 ne:dx≠x
theorem Rs {dx:P1}{mA:Str->P7 G3}(n:h.Ns1 dx mA): ∃od,h.get? dx=some od/\ ∀name,m5 name od=some (mA name):=by
 obtain⟨o,es,ep,ho,hd,hk,_,hm⟩:=n;refine⟨o,ho,λname=> ?_⟩;have e:=hm name;unfold nsFind findBy at e;rw [<-Array.find?_toList] at e;unfold m5;rw [hd];dsimp only;split
 ·rename_i y q;rw [q] at e;exact congrArg some e
 ·rename_i q;rw [q] at e;have a:es.toList.any (·.refKey)=false:=by
   rw [pF];intro y hy;obtain⟨z,t,Α⟩:=hk y (Array.mem_toList_iff.mp hy);simp [DictEntry.refKey,Α]
  have a': ¬es.toList.any (·.refKey)=true:=by rw [a];exact D0
  rw [R3 a'];exact congrArg some e
theorem X0B.look {x dx C:P1}{mA:Str->P7 G3}(I:X0B h x dx C mA): ∃od,G0K h x (mJ C dx) C (some od)/\ ∀name,m5 name od=some (mA name):=
 let ⟨od,ho,hl⟩:=Rs I.ns
 ⟨od,⟨I.obj,rfl,rfl,ho⟩,hl⟩
section
variable {P:T7}{w:C1}{H H':Hp}{h h':L8}{a C dx:P1}{fs fs':G0 (Str×V)}
theorem LD (hok:Ě P w H h)(e:H a=some (.ins C dx fs)): ∃mA,X0B h a dx C mA/\(∀f,Hl (fs.lookup f) (mA f))/\u6 mA (fs.map (·.1))/\fs.length<=1000/\H dx=some (.own a):=by
 obtain⟨d,z,ne,ob,mA,n,r,q⟩:=(show Ö P w H h a (.ins C dx fs) from hok a _ e);exact⟨mA,⟨ob,n,ne⟩,r,q,z,d⟩
end
structure Cls (K:G5)(C:P1):Prop where
 pg:qH K C tY=true
 hd:G0m K C=true
 po:G0n K C=true
 sa:sE K (.ref C) "__setattr__" =some (some (.builtin "object.__setattr__"))
theorem Cls.get {C:P1}(c:Cls K C)(f:Str):qH K C f=true:=c.pg
section
variable {X:Cx}{À:G0 (P1×Obj)}{σ:St}{H:Hp}{s:G6}{A:B2}{E:G3->G6->Prop}{Q:G3->G6->Prop}{c:G3}{b:N2}
inductive Ė (K:G5)(H:Hp):V->G3->Prop where
 |non:Ė K H .non (.type "NoneType")
 |bl (x:N2):Ė K H (.bl x) (.type "bool")
 |int (i:P0):Ė K H (.int i) (.type "int")
 |str (x:Str):Ė K H (.str x) (.type "str")
 |flt (x:UInt64):Ė K H (.flt x) (.type "float")
 |lst {a:P1} {xs:G0 V} (e:H a=some (.lst xs)):Ė K H (.ref a) (.type "list")
 |frz {a:P1} {o:Obj} {xs:G0 V} (e:H a=some (.frz o (.lst xs))):Ė K H (.ref a) (.type "list")
 |tup {a:P1} {xs:G0 V} (e:H a=some (.tup xs)):Ė K H (.ref a) (.type "tuple")
 |dK {a:P1} {Ā:G0 (Ŋ×V)} (e:H a=some (.dK Ā)):Ė K H (.ref a) (.type "dict")
 |dT {a:P1} {Ā:G0 (G0 Ŋ×V)} (e:H a=some (.dT Ā)):Ė K H (.ref a) (.type "dict")
 |ins {a C dx:P1} {fs:G0 (Str×V)} (e:H a=some (.ins C dx fs)) (cl:Cls K C) (ha:sE K (.ref C) "__class__" =some (some (.builtin "object.__class__")))
  (hn:G0o K (.builtin "object.__class__") "__get__" =some (some (.builtin "getset_descriptor.__get__"))) (htk:G0F K (.builtin "object.__class__")=some true)
  (hm:G0V K C (.type "object")=some true):Ė K H (.ref a) (.ref C)
theorem Rt {x:V}{u t:G3}(I:Inv X À σ H s)(rx:RelV x u)(ty:Ė X.K H x t)(e:m7 X.K t c=some b)(h: ∀tk,Q (.bool b) {s with toks:=tk}):
 D9 (S2 X.prog X.w) A (call (.builtin "isinstance") [u,c]) Q E s:=by
 cases ty with
 |non=>cases (show u=oS from rx);exact J9 G0p I.kIn aQ e (λz=>nomatch z) h
 |bl y=>cases (show u=bE y from rx);exact J9 G0q I.kIn aQ e (λz=>nomatch z) h
 |int i=>obtain⟨t,q⟩:=(show ∃t,u=j9 i t from rx);cases q;exact J9 G0x I.kIn aQ e (λz=>nomatch z) h
 |str y=>obtain⟨t,q⟩:=(show ∃t,u=qF y t from rx);cases q;exact J9 G0y I.kIn aQ e (λz=>nomatch z) h
 |flt y=>obtain⟨t,q⟩:=(show ∃t,u=xV y t from rx);cases q;exact J9 IV I.kIn aQ e (λz=>nomatch z) h
 | @lst a xs ea=>
  cases (show u=F6 a from rx);obtain⟨_,_,n,_,h1⟩:=(show Ö X.prog X.w H s.heap a (.lst xs) from I.hok a _ ea);exact J9 pG I.kIn ⟨_,h1,rfl⟩ e (λz=>nomatch z) h
 | @frz a ob xs ea=>
  cases (show u=F6 a from rx);obtain⟨_,_,_,n,_,h1⟩:=(show Ö X.prog X.w H s.heap a (.frz ob (.lst xs)) from I.hok a _ ea);exact J9 pG I.kIn ⟨_,h1,rfl⟩ e (λz=>nomatch z) h
 | @tup a xs ea=>
  cases (show u=F6 a from rx);obtain⟨_,_,_,p⟩:=(show Ö X.prog X.w H s.heap a (.tup xs) from I.hok a _ ea);obtain⟨o,h1,h2,_⟩:=p;exact J9 IW I.kIn ⟨o,h1,h2⟩ e (λz=>nomatch z) h
 | @dK a Ā ea=>
  cases (show u=F6 a from rx);obtain⟨_,_,vs,_,p⟩:=(show Ö X.prog X.w H s.heap a (.dK Ā) from I.hok a _ ea);obtain⟨o,es,ep,h1,h2,_⟩:=p;exact J9 pH I.kIn ⟨o,h1,h2.1⟩ e (λz=>nomatch z) h
 | @dT a Ā ea=>
  cases (show u=F6 a from rx);obtain⟨_,_,xs,_,o,es,ep,h1,h2,_⟩:=(show Ö X.prog X.w H s.heap a (.dT Ā) from I.hok a _ ea);exact J9 pH I.kIn ⟨o,h1,h2.1⟩ e (λz=>nomatch z) h
 | @ins a C dx fs ea cl ha hn htk hm=>
  cases (show u=F6 a from rx);obtain⟨mA,O,_⟩:=LD I.hok ea;obtain⟨od,J,_⟩:=O.look;exact J9 (G0z (cl.get _) cl.hd ha hn htk hm) I.kIn J e (λz=>nomatch z) h
end
structure ß (k:G7)(A:B2):Prop where
 hd:A.handled=none
 dp:A.depth+3*k+5<recursionLimit
 un:A.units+16*k+200<cLine
 gd:A.guards=some []
variable {k:G7}
theorem ß.deeper (r:ß (k+1) A)(env:Env):ß k (A.deeper env):=
 ⟨r.hd,by have:=r.dp;show A.depth+1+3*k+5<_;omega,by have:=r.un;show A.units+3+16*k+200<_;omega,r.gd⟩
theorem ß.depth (r:ß k A):A.depth<recursionLimit:=by have:=r.dp;omega
theorem ß.units (r:ß k A):A.units+64<cLine:=by have:=r.un;omega
def ku:TA:=λ_ H Q=>Q [] H
def EB (ta:TE)(tr:TA):TA:=λσ H Q=>ta σ H λx H1=>tr σ H1 λxs H2=>Q (x::xs) H2
section
variable {X:Cx}{e:T8}{es:G0 T8}{te:TE}{t:TA}{pos:Pos}
theorem ě:PA X [] ku:=λ_ _ _ _ H Q I h=>Calls.spliced_nil ⟨[],H,I,.nil,h⟩
theorem vG (ha:PE X e te)(hr:PA X es t)(hs:R6 (e::es) X.env=(false,A0 e X.env)::R6 es X.env:=by rfl):PA X (e::es) (EB te t):=by
 intro pos À s σ H Q I h;rw [hs];show D9 _ _ (spliced ((false,A0 e X.env)::Q7 pos (R6 es X.env))) _ _ s;refine Calls.spliced_cons (Ô (ha À s σ H _ I h) λu s1 ⟨x,H1,I1,r1,q1⟩=> ?_);exact Ô (hr pos À s1 σ H1 _ I1 q1) λus s2 ⟨xs,H2,I2,r2,q2⟩=>⟨x::xs,H2,I2,.cons r1 r2,q2⟩
def kH (t:TA):TE:=λσ H Q=>t σ H λxs H1=>xs.length<=sizeLine/\ ∀p,H1 p=none->Q (.ref p) (upd H1 p (.tup xs))
def kI (t:TA):TE:=λσ H Q=>t σ H λxs H1=>xs.length<=sizeLine/\ ∀p,H1 p=none->Q (.ref p) (upd H1 p (.lst xs))
theorem EC {x1}(h:PA X es t):PE X (.Tuple es x1 pos) (kH t):=by
 intro À s σ H Q I hq;refine wpAny_Tuple_spliced (Ô (h pos À s σ H _ I hq) λus s1 ⟨xs,H1,I1,r,z,q⟩=>⟨by rw [<-r.length];exact z,?_⟩);have hf:H1 s1.heap.objs.size=none:=I1.hok.fresh (P5 _);refine⟨.ref s1.heap.objs.size,upd H1 s1.heap.objs.size (.tup xs),I1.laid (t':=s1.toks) (λb u e=>P3 _ e) (P5 _) ?_,rfl,q _ hf⟩;exact⟨z,us,r,é.new _ _⟩
theorem ED (h:PA X es t):PE X (.List es pos) (kI t):=by
 intro À s σ H Q I hq;refine wpAny_List_spliced (Ô (h pos À s σ H _ I hq) λus s1 ⟨xs,H1,I1,r,z,q⟩=>⟨by rw [<-r.length];exact z,?_⟩);have hf:H1 s1.heap.objs.size=none:=I1.hok.fresh (P5 _);refine⟨.ref s1.heap.objs.size,upd H1 s1.heap.objs.size (.lst xs),I1.laid (t':=s1.toks) (λb u e=>P3 _ e) (P5 _) ?_,rfl,q _ hf⟩;exact⟨z,us,0,r,S4 _ rfl⟩
end
abbrev Sp:=G0 V->Hp->VK->XK->Prop
abbrev CXT:=G0 Env->Hp->G6->XK->G3->G6->Prop
structure X0u (P:T7)(w:C1)(K:G5)(mg:Str->P7 G3)(base:L8)(A:B2)(outer:G0 Env)(s:G6)(H:Hp):Prop where
 frames:A.frames=some outer
 mod:Mod K mg base
 bs: ∀b o,base.get? b=some o->s.heap.get? b=some o/\H b=none
 bsz:base.objs.size<=s.heap.objs.size
 funs:s.heap.FunFrames base outer
 frf: ∀b∈Η outer,H b=none
 hok:Ě P w H s.heap
 bare:iY s.gens
def CE (outer:G0 Env)(P:T7)(w:C1)(H:Hp)(s:G6)(Q:VK)(u:G3)(s':G6):Prop:=
 ∃v H',s'.os=s.os/\iY s'.gens/\Un (Η outer) [] H H' s.heap s'.heap/\Ě P w H' s'.heap/\RelV v u/\Q v H'
def CR (CX:CXT)(outer:G0 Env)(P:T7)(w:C1)(H:Hp)(s:G6)(Q:VK)(E:XK)(r:sF)(s':G6):Prop:=
 match r with
 | .ok (.ret u)=>CE outer P w H s Q u s'
 | .ok _=>False
 | .error e=>CX outer H s E e s'
structure Ë (P:T7)(w:C1)(K:G5)(mg:Str->P7 G3)(base:L8)(CX:CXT)(k:G7)(f:P1)(fd:M9)(ps:G0 Str)(sp:Sp):Prop where
 len: ∀vs H Q E,sp vs H Q E->vs.length=ps.length
 run: ∀ (A:B2) (outer:G0 Env) (s:G6) (H:Hp) (args:Args) (us:G0 G3) (vs:G0 V) (Q:VK) (E:XK),ß k A->X0u P w K mg base A outer s H->rY s fd args (ps.zip us)->È vs us->sp vs H Q E->
  cE (S2 P w) A (.call (.ref f) args) (CR CX outer P w H s Q E) s
section
variable {X:Cx}{À:G0 (P1×Obj)}{σ:St}{H:Hp}{s s':G6}
theorem Inv.env0 (I:Inv X À σ H s):X0u X.prog X.w X.K X.mg X.base X.A X.stack s H:=
 ⟨I.ok.frames,I.ok.mod,I.bs,S5 I.ok.bsz I.sz,I.stack,I.stkFree,I.hok,I.bare⟩
theorem Inv.after {Q:VK}{u:G3}(I:Inv X À σ H s)(h:CE X.stack X.prog X.w H s Q u s'):EP X À σ Q u s':=by
 obtain⟨v,H',os,bare,un,hok,r,q⟩:=h;obtain⟨hh,g,d,t,os'⟩:=s';obtain rfl:os'=s.os:=os;exact⟨v,H',I.call (h':=hh) (g':=g) (d':=d) (t':=t) (ch:= []) un hok bare (λb z=>absurd z (by simp)),r,q⟩
end
def EE (sp:Sp)(dvs:G0 V)(E:XK)(t:TA):TE:=λσ H Q=>t σ H λvs H1=>sp (vs++dvs) H1 Q E
def Binds (K:G5)(fd:M9)(ps:G0 Str)(ds:G0 G3):Prop:=
 ∀ (s:G6) (us:G0 G3),K.In s.heap->(us++ds).length=ps.length->rY s fd ⟨us,[]⟩ (ps.zip (us++ds))
theorem Binds.all {fd:M9}{ps:G0 Str}(h: ∀us:G0 G3,us.length=ps.length->x4 fd ⟨us,[]⟩=pure (ps.zip us)):Binds K fd ps []:=λs us _ hl=>by
 rw [A8] at hl ⊢;exact .of_eq (h us hl)
def Ru (CX:CXT)(X:Cx)(E:XK):Prop:= ∀ (À:G0 (P1×Obj)) (σ:St) (H:Hp) (s:G6) (e:G3) (s':G6),Inv X À σ H s->CX X.stack H s E e s'->X.xe e s'
section
variable {X:Cx}{CX:CXT}{k:G7}{f C:P1}{fd:M9}{ps:G0 Str}{sp:Sp}{dvs:G0 V}{ds:G0 G3}{E:XK}{x m:Str}{p pos apos:Pos}{e o:T8}{es:G0 T8}{ta:TE}{t:TA}
theorem EF {À:G0 (P1×Obj)}{σ:St}{H:Hp}{s:G6}{Q:VK}{us:G0 G3}{vs:G0 V}(F:Ë X.prog X.w X.K X.mg X.base CX k f fd ps sp)(hr:ß k X.A)(hb:Binds X.K fd ps ds)(hd:È dvs ds)(hx:Ru CX X E)
 (I:Inv X À σ H s)(r:È vs us)(h:sp (vs++dvs) H Q E):D9 (S2 X.prog X.w) X.A (call (.ref f) us) (EP X À σ Q) X.xe s:=by
 have r2:È (vs++dvs) (us++ds):=r.append hd;have hl:(us++ds).length=ps.length:=by rw [<-r2.length];exact F.len _ _ _ _ h
 refine sG (lK (F.run X.A X.stack s H ⟨us,[]⟩ (us++ds) (vs++dvs) Q E hr I.env0 (hb s us I.kIn hl) r2 h) λr s' hq=> ?_);cases r with
 |error e=>exact hx À σ H s e s' I hq
 |ok fl=>
  cases fl with
  |ret u=>exact I.after hq
  |next=>exact False.elim hq
  |brk=>exact False.elim hq
  |cont=>exact False.elim hq
theorem LF (F:Ë X.prog X.w X.K X.mg X.base CX k f fd ps sp)(hr:ß k X.A)(hg:Gl X x)(hm:X.mg x=some (.ref f))(hk:aX X.K (.ref f)=true)(hb:Binds X.K fd ps ds)(hd:È dvs ds)(hx:Ru CX X E)
 (ha:PA X (e::es) t)(hdb:(x==("__debug__" :Str))=false:=by decide)(he:R6 (e::es) X.env=(false,A0 e X.env)::R6 es X.env:=by rfl)(hpl:(Q7 pos (R6 es X.env)).any (·.1)=false:=by rfl):
 PE X (.Call (.Name x p) (e::es) [] pos) (EE sp dvs E t):=by
 intro À s σ H Q I h;refine gY (Rk I hg hm ?_ hdb);refine IX (h₀:=X.base) I.ok.mod.kin hk (Ô (ha pos À s σ H _ I h) λus s1 ⟨vs,H1,I1,r,q⟩=>⟨I1.kIn,?_⟩) he hpl;exact EF F hr hb hd hx I1 r q
end
structure Ã (N P:G0 Str)(sc:U2):Prop where
 kind:sc.kind= .function
 co:sc.isCoroutine=false
 gen:sc.isGenerator=false
 nd:N.Nodup
 pre:N.take P.length=P
 par: ∀x∈P,sc.names.lookup x=some .local\/sc.names.lookup x=some .cell
 nofree: ∀y∈sc.names,y.2≠ .free
variable {kindOf:Str->P7 NameKind}{x:Str}
theorem Xh: ∀ {binds:G0 (Str×G3)} {m:Str->P7 G3},(∀v,(x,v) ∉ binds)->sH kindOf binds m x=m x
 | [],_,_=>rfl
 |(n,v)::r,m,h=>by
  unfold sH;rw [Xh λw hw=>h w (D7 _ hw)];split
  ·have:x≠n:=by rintro rfl;exact h v P6
   simp [this]
  ·rfl
theorem Xi: ∀ {binds:G0 (Str×G3)} {m:Str->P7 G3},(∀v,(x,v) ∉ binds)->sI kindOf binds m x=m x
 | [],_,_=>rfl
 |(n,v)::r,m,h=>by
  unfold sI;rw [Xi λw hw=>h w (D7 _ hw)];split
  ·rfl
  ·have:x≠n:=by rintro rfl;exact h v P6
   simp [this]
theorem Xj {v:G3}: ∀ {P:G0 Str} {vs:G0 G3} {i:G7} {m:Str->P7 G3},P.Nodup->P[i]? =some x->vs[i]? =some v->kindOf x=some .local->
 sH kindOf (P.zip vs) m x=some v
 | [],_,_,_,_,h,_,_=>by simp at h
 |_::_,[],_,_,_,_,h,_=>by simp at h
 |p::P,w::vs,0,m,nd,h1,h2,hk=>by
  simp at h1 h2;subst h1;subst h2;show sH kindOf ((p,w)::P.zip vs) m p=_;unfold sH;rw [Xh λv hv=>(K0.mp nd).1 (mK hv).1,R5 hk];simp
 |p::P,w::vs,i+1,m,nd,h1,h2,hk=>by
  show sH kindOf ((p,w)::P.zip vs) m x=_;unfold sH;exact Xj (i:=i) (K0.mp nd).2 (by simpa using h1) (by simpa using h2) hk
theorem Xk {v:G3}: ∀ {P:G0 Str} {vs:G0 G3} {i:G7} {m:Str->P7 G3},P.Nodup->P[i]? =some x->vs[i]? =some v->kindOf x≠some .local->
 sI kindOf (P.zip vs) m x=some v
 | [],_,_,_,_,h,_,_=>by simp at h
 |_::_,[],_,_,_,_,h,_=>by simp at h
 |p::P,w::vs,0,m,nd,h1,h2,hk=>by
  simp at h1 h2;subst h1;subst h2;show sI kindOf ((p,w)::P.zip vs) m p=_;unfold sI;rw [Xi λv hv=>(K0.mp nd).1 (mK hv).1,R3 hk];simp
 |p::P,w::vs,i+1,m,nd,h1,h2,hk=>by
  show sI kindOf ((p,w)::P.zip vs) m x=_;unfold sI;exact Xk (i:=i) (K0.mp nd).2 (by simpa using h1) (by simpa using h2) hk
def start (N:G0 Str)(vs:G0 V):St:=vs.map some++S9 (N.length-vs.length) none
def BC (CX:CXT)(P:T7)(w:C1)(K:G5)(mg:Str->P7 G3)(base:L8)(N:G0 Str)(qual:Str)(scope:U2)(f:P1)(cd:G3)(A:B2)(outer:G0 Env)(s:G6)(H:Hp)(E:XK):Cx where
 prog:=P
 w:=w
 K:=K
 mg:=mg
 base:=base
 A:=A.deeper (gZ qual scope s.heap.objs.size f cd)
 N:=N
 s₀:=s
 H₀:=H
 env:=gZ qual scope s.heap.objs.size f cd
 outer:=outer
 stack:=gZ qual scope s.heap.objs.size f cd::outer
 ex:= []
 calm:=true
 fn:=λ_=>true
 pn:= []
 xe:=λe s'=>D9 (S2 P w) (A.deeper (gZ qual scope s.heap.objs.size f cd)) (leaving (gZ qual scope s.heap.objs.size f cd) e) (λ_ s''=>CX outer H s E e s'') (λe' s''=>CX outer H s E e' s'') s'
theorem WM {sc:U2}{n:G7}(h:sc.names.lookup x=some .cell): ∃c,(V4 n sc.names []).lookup x=some c:=by
 have q:=lM sc.names n [] (.inl h);exact cR.mp q
theorem Rv {CX:CXT}{mg:Str->P7 G3}{base:L8}{N ps:G0 Str}{qual:Str}{scope:U2}{f:P1}{cd:G3}{outer:G0 Env}{s1:G6}{E:XK}{us:G0 G3}{vs:G0 V}
 (S:Ã N ps scope)(hd:A.handled=none)(e0:X0u P w K mg base A outer s H)(hl:vs.length=ps.length)(r:È vs us)
 (x:InCallC s s.heap.objs.size (sH (gZ qual scope s.heap.objs.size f cd).kindOf (ps.zip us) λ_=>none) (V4 (s.heap.objs.size+1) scope.names []) (sI (gZ qual scope s.heap.objs.size f cd).kindOf (ps.zip us) λ_=>none) s1):
 Inv (BC CX P w K mg base N qual scope f cd A outer s H E) [] (start N vs) H s1:=by
 have hpl:ps.length<=N.length:=by have:=congrArg K8 S.pre;rw [S8] at this;omega
 obtain⟨h1,tk,rfl,hk⟩:=x.done;have noA: ∀b:P1,b ∉ (BC CX P w K mg base N qual scope f cd A outer s H E).ex:=λb z=>absurd (show b∈([]:G0 P1) from z) (by simp)
 refine⟨⟨e0.mod,S.kind,rfl,rfl,P5 _,λy z c h1 h2=> ?_,λy hy=> ?_,λy c _ h=> ?_,λ_=>hd,Around.frames_deeper e0.frames,.inr ⟨rfl,rfl⟩,λb z=>absurd z (noA b),e0.bs,e0.bsz,λb _ _=>noA b,λb z=>absurd z (noA b),e0.funs,e0.frf⟩,
  rfl,e0.bare,Un.kept hk,⟨_,x.toInCall.ns,λi y v h1 h2 h3=> ?_⟩,λy c h=>⟨_,x.cell y c h⟩,e0.hok.fresh (P5 _),λy c h=> ?_,λp hp=>absurd (show p∈([]:G0 (P1×Obj)) from hp) (by simp),e0.hok.kept hk,?_⟩
 ·exact u7 x.apart (aV h1) (aV h2)
 ·have hy:scope.names.lookup y=some .cell\/scope.names.lookup y=some .free:=hy;rcases hy with hy|hy
  ·exact WM hy
  ·exact absurd rfl (S.nofree _ (aV hy))
 ·exact M5 (x.above y c (aV h))
 ·have hi:i<vs.length:=by
   unfold start at h2
   by_cases hi:i<vs.length
   ·exact hi
   ·rw [B8 (by simpa using hi)] at h2;rw [lA] at h2;split at h2<;>cases h2
  have ha:vs[i]? =some v:=by
   unfold start at h2;rw [O8 (by simpa using hi),D1] at h2;cases e:vs[i]? with
   |none=>rw [e] at h2;cases h2
   |some a=>rw [e] at h2;cases h2;rfl
  obtain⟨u,hu,rv⟩:=r.get ha;have hp:ps[i]? =some y:=by
   rw [<-S.pre,aR (by omega)];exact h1
  have ndP:ps.Nodup:=by rw [<-S.pre];exact S.nd.sublist (E6 _ _)
  refine⟨u,rv,?_⟩;rcases S.par y (P9 hp) with k|k
  ·exact .inl ⟨k,Xj ndP hp hu k⟩
  ·obtain⟨c,e⟩:=WM (n:=s.heap.objs.size+1) k;refine .inr ⟨.inl k,c,e,?_⟩;have q:=x.cell y c e;rw [Xk ndP hp hu (by show scope.names.lookup y≠_;rw [k];decide)] at q;exact q
 ·exact e0.hok.fresh (M5 (x.above y c (aV h)))
 ·unfold start;show _=N.length;rw [P2,G1,mP];omega
theorem Hy {CX:CXT}{mg:Str->P7 G3}{base:L8}{f:P1}{name qual:Str}{params:Arguments}{body:G0 A3}{scope:U2}{dV kV doc pm ù ct oc:G3}{an od:P7 P1}{ŵ:M8 (P7 G3)}{N ps:G0 Str}{sp:Sp}(lk:K.lookup f=some ⟨oc,od,.func (cF name qual params body scope dV kV doc pm an ù ct),ŵ⟩)(hcd:m8 K ù qual=true)(S:Ã N ps scope)
 (len: ∀vs H Q E,sp vs H Q E->vs.length=ps.length)
 (ė: ∀ (A:B2) (outer:G0 Env) (s:G6) (H:Hp) (vs:G0 V) (Q:VK) (E:XK),ß k (A.deeper (gZ qual scope s.heap.objs.size f ù))->sp vs H Q E->
  ∃t,ś (BC CX P w K mg base N qual scope f ù A outer s H E) body t/\t {nx:=λ_ H'=>Q .non H',rt:=Q} (start N vs) H):
 Ë P w K mg base CX (k+1) f (cF name qual params body scope dV kV doc pm an ù ct) ps sp:=by
 refine⟨len,λA outer s H args us vs Q E hr e0 hb r hsp=> ?_⟩;have hl:=len _ _ _ _ hsp;have KX:K.In s.heap:=e0.mod.kin.keeps λb o e=>(e0.bs b o e).1
 have lim:s.heap.NoLimit:=e0.mod.nolimit.keeps λb o e=>(e0.bs b o e).1
 have X0C: ∀y∈ps.zip us,scope.names.lookup y.1=some .local\/(scope.names.lookup y.1=some .cell/\((V4 (s.heap.objs.size+1) scope.names []).lookup y.1).isSome=true):=λ⟨n,v⟩ hy=>by
  rcases S.par n (mK hy).1 with q|q
  ·exact .inl q
  ·exact .inr ⟨q,lM _ _ _ (.inl q)⟩
 refine codeAny_call_function hr.depth (KX _ _ lk) rfl S.co S.gen rfl (IY KX hcd) (hb _ _ _ _ ?_);refine wpAny_newFunctionEnv_cells S.kind X0C λenv he s1 x=> ?_
 subst he;refine⟨lim.keeps x.toInCall.keep,codeAny_func ?_⟩;obtain⟨t,ht,hq⟩:=ė A outer s H vs Q E (hr.deeper _) hsp;have I:Inv (BC CX P w K mg base N qual scope f ù A outer s H E) [] (start N vs) H s1:=Rv S hr.hd e0 hl r x;refine M1 (ht [] s1 (start N vs) H _ I hq) (λfl s' hs=> ?_) λe s' hs=>hs
 have fin: ∀ {Â:St} {H':Hp} {v:V} {u:G3},Inv (BC CX P w K mg base N qual scope f ù A outer s H E) [] Â H' s'->RelV v u->Q v H'->CE outer P w H s Q u s':=
  λ{Â H' v u} J rv q=>⟨v,H',J.os,J.bare,J.base,J.hok,rv,q⟩
 cases fl with
 |ret u=>
  obtain⟨v,Â,H',J,rv,q⟩:=hs;exact fin J rv q
 |next=>
  obtain⟨Â,H',J,q⟩:=hs;exact fin (v:=V.non) (u:=oS) J rfl q
 |brk=>
  obtain⟨_,_,_,q⟩:=hs;exact False.elim q
 |cont=>
  obtain⟨_,_,_,q⟩:=hs;exact False.elim q
section
variable {X:Cx}{x:Str}{p pos:Pos}{e:T8}{es:G0 T8}{t:TA}{id T:U4}{r:G0 V->Hp->VK->Prop}
def tCB (r:G0 V->Hp->VK->Prop)(t:TA):TE:=λσ H Q=>t σ H λvs H1=>r vs H1 Q
theorem GZ (hc:è X (.builtin id) r)(hg:Gl X x)(hm:X.mg x=none)(hv:Q1 x=some (.builtin id))(ha:PA X (e::es) t)(hn:x≠ "__name__" :=by decide)(hdb:(x==("__debug__" :Str))=false:=by decide)
 (he:R6 (e::es) X.env=(false,A0 e X.env)::R6 es X.env:=by rfl)(hpl:(Q7 pos (R6 es X.env)).any (·.1)=false:=by rfl):PE X (.Call (.Name x p) (e::es) [] pos) (tCB r t):=by
 intro À s σ H Q I h;refine gY (Vr I hg hm hv ?_ hn hdb);exact qI (Ô (ha pos À s σ H _ I h) λus s1 ⟨vs,H1,I1,r1,q1⟩=>hc À s1 σ H1 vs us Q I1 r1 q1) he hpl
theorem Rw (hc:è X (.type T) r)(hg:Gl X x)(hm:X.mg x=none)(hv:Q1 x=some (.type T))(ha:PA X (e::es) t)(hn:x≠ "__name__" :=by decide)(hdb:(x==("__debug__" :Str))=false:=by decide)
 (he:R6 (e::es) X.env=(false,A0 e X.env)::R6 es X.env:=by rfl)(hpl:(Q7 pos (R6 es X.env)).any (·.1)=false:=by rfl):PE X (.Call (.Name x p) (e::es) [] pos) (tCB r t):=by
 intro À s σ H Q I h;refine gY (Vr I hg hm hv ?_ hn hdb);exact Y6 (Ô (ha pos À s σ H _ I h) λus s1 ⟨vs,H1,I1,r1,q1⟩=>hc À s1 σ H1 vs us Q I1 r1 q1) he hpl
end
end L2
namespace HT
open PySem PyProof.Rows
def wa:G0 P0->G0 P0->N2
 | [],[]=>false
 | [],_::_=>true
 |_::_,[]=>false
 |x::xs,y::ys=>if x=y then wa xs ys else decide (x<y)
section
variable {prog:T7}{w:C1}{A:B2}{E:G3->G6->Prop}{s:G6}
theorem LH {t b:P1}{vs ws:G0 G3}{Q:G3->G6->Prop}(ht:tW s.heap t vs.toArray)(hb:tW s.heap b ws.toArray)(hv:vs≠ [])
 (h1:ws= []->Q (.ref t) s)(h2:ws≠ []->Q (.ref s.heap.objs.size) {s with heap:=s.heap.push {cls:= .type "tuple",data:= .seq (vs++ws).toArray}})
 (hsz:vs.length+ws.length<=sizeLine):D9 (S2 prog w) A (J4 .Add (.ref t) (.ref b)) Q E s:=by
 obtain⟨⟨cls,dd,data,sl⟩,ho,hc,n,hd⟩:=id ht;obtain⟨⟨X0D,Ŷ,G0L,ŷ⟩,ho2,hc2,n2,hd2⟩:=id hb;simp only at hc hd hc2 hd2;subst hc hd hc2 hd2;have e:vs.toArray++ws.toArray=(vs++ws).toArray:=by simp
 by_cases hw:ws= []
 ·exact pI ⟨_,ho,rfl⟩ ⟨_,ho2,rfl⟩ lB oK dO dF (cS _ _)
   (tuple_addW1 t b vs.toArray ws.toArray n n2 dd Ŷ sl ŷ (by simpa using hv) (by simp [hw])) ⟨ho,ho2,h1 hw⟩
 ·refine pI ⟨_,ho,rfl⟩ ⟨_,ho2,rfl⟩ lB oK dO dF (cS _ _)
   (tuple_addW2 t b vs.toArray ws.toArray n n2 dd Ŷ sl ŷ (by simpa using hv) (by simpa using hw) (by rw [D8,D8];exact hsz)) ⟨ho,ho2,?_⟩
  rw [e];exact h2 hw
def sIx (n d:G7):P7 P0->G7
 |none=>d
 |some v=>if v<0 then (v+(n:P0)).toNat else min v.toNat n
theorem EG (n d:G7)(hd:d<=n)(o:P7 P0):sIx n d o<=n:=by
 cases o with
 |none=>exact hd
 |some v=>
  show (if v<0 then (v+(n:P0)).toNat else min v.toNat n)<=n
  by_cases hv:v<0
  ·rw [R5 hv];omega
  ·rw [R3 hv];exact aY _ _
theorem Rx (v:P0)(n d:G7):(if v<0 then max (v+(n:P0)) 0 else min v (n:P0))=((sIx n d (some v):G7):P0):=by
 show (if v<0 then max (v+(n:P0)) 0 else min v (n:P0))=(((if v<0 then (v+(n:P0)).toNat else min v.toNat n):G7):P0)
 by_cases hv:v<0
 ·simp only [R5 hv];omega
 ·simp only [R3 hv];omega
theorem De (lo hi:P7 P0)(n:G7):V6 lo hi 1 (n:P0)=(((sIx n 0 lo:G7):P0),((sIx n n hi:G7):P0)):=by
 have h1: ¬ ((1:P0)<0):=by omega
 unfold V6;simp only [h1,lC];refine Prod.ext ?_ ?_
 ·cases lo with
  |none=>rfl
  |some v=>exact Rx v n 0
 ·cases hi with
  |none=>rfl
  |some v=>exact Rx v n n
theorem Df (i j:G7):O9 (i:P0) (j:P0) 1=j-i:=by
 unfold O9;have h1:(1:P0)>0:=by omega
 simp only [h1,i3,u8];split<;>omega
theorem Vs {v:G3}{o:P7 P0}{Q:P7 P0->G6->Prop}(p:lN v o)(h:Q o s):D9 (S2 prog w) A (rA v) Q E s:=by
 cases p with
 |none=>exact g4 h
 |int i t=>exact sZ h
theorem vy {sl:P1}{vl vu:G3}{lo hi:P7 P0}{n:G7}{Q:P0×P0×G7->G6->Prop}(hs:s.heap.IsSliceOf sl vl vu .none)(pl:lN vl lo)(pu:lN vu hi)
 (h:Q (((sIx n 0 lo:G7):P0),1,sIx n n hi-sIx n 0 lo) s):D9 (S2 prog w) A (Z8 (.ref sl) (pure (n:P0))) Q E s:=by
 obtain⟨os,Θ,hcs,hds⟩:=id hs;unfold Z8 iP;refine wpAny_bind (wpAny_bind (aL Θ hds (x:=vl) rfl (wpAny_bind (aL Θ hds (x:=vu) rfl (wpAny_bind (aL Θ hds (x:= .none) rfl (G8 ?_)))))));refine wpAny_bind (g4 ?_);show D9 _ _ (if ((1:P0)==0)=true then _ else _) _ _ s;rw [R3 (by decide)];refine wpAny_bind (Vs pl (wpAny_bind (Vs pu (wpAny_bind (G8 ?_)))));show D9 _ _ (match V6 lo hi 1 (n:P0) with|(lo,hi)=>pure (lo,(1:P0),O9 lo hi 1)) _ _ s;rw [De lo hi n];show D9 _ _ (pure (((sIx n 0 lo:G7):P0),(1:P0),O9 ((sIx n 0 lo:G7):P0) ((sIx n n hi:G7):P0) 1)) _ _ s;rw [Df];exact G8 h
theorem BD (xs:M8 G3)(i k:G7):((P4 k).filterMap λ(m:G7)=>xs[((i:P0)+(m:P0)*1).toNat]?).toArray=((xs.toList.drop i).take k).toArray:=by
 have e:(λ(m:G7)=>xs[((i:P0)+(m:P0)*1).toNat]?)=λm=>xs[i+m]? :=by
  funext m
  have:((i:P0)+(m:P0)*1).toNat=i+m:=by omega
  rw [this]
 rw [e];have:=pick_run xs i k;rw [oT] at this;have e2:((λx=>xs[x]?)∘λx=>i+x)=λm=>xs[i+m]? :=rfl
 rw [e2] at this;rw [this]
theorem ZG {t sl:P1}{items:M8 G3}{vl vu:G3}{lo hi:P7 P0}{Q:G3->G6->Prop}(ht:tW s.heap t items)(hs:s.heap.IsSliceOf sl vl vu .none)(pl:lN vl lo)(pu:lN vu hi)
 (hw: ¬ (sIx items.size 0 lo=0/\sIx items.size items.size hi=items.size))
 (h:Q (.ref s.heap.objs.size) {s with heap:=s.heap.push {cls:= .type "tuple",data:= .seq ((items.toList.drop (sIx items.size 0 lo)).take (sIx items.size items.size hi-sIx items.size 0 lo)).toArray}})
 (hsz:items.size<=sizeLine):D9 (S2 prog w) A (fQ (.ref t) (.ref sl)) Q E s:=by
 have Ę:G0M (.seq ((items.toList.drop (sIx items.size 0 lo)).take (sIx items.size items.size hi-sIx items.size 0 lo)).toArray):=by
  show ((items.toList.drop (sIx items.size 0 lo)).take (sIx items.size items.size hi-sIx items.size 0 lo)).toArray.size<=sizeLine;rw [D8,S8,C6,N0];omega
 have hj:sIx items.size items.size hi<=items.size:=EG _ _ (P5 _) hi;obtain⟨os,Θ,hcs,hds⟩:=id hs;have hTs:s.TypeIs (.ref sl) "slice" :=⟨os,Θ,hcs⟩;unfold fQ
 try with_reducible refine O0 ?_
 first|refine wpAny_bind (G8 ?_)|skip
 refine wpAny_bind (dP ht.typeIs (by decide) ?_);refine wpAny_bind (N9 (name:=J0 "__getitem__") ht.typeIs A6
  (N5 A6 ht.typeIs gL ?_ (g6 _ _)))
 show D9 _ _ (U6 (.ref t) >>= _) _ _ s;refine wpAny_bind (oM ht ?_);refine wpAny_bind (dQ hTs ?_);rw [R5 (by decide)];refine wpAny_bind (vy hs pl pu ?_);have hno: ¬ ((((sIx items.size 0 lo:G7):P0)==0&&(1:P0)==1&&(sIx items.size items.size hi-sIx items.size 0 lo)==items.size)=true):=by
  intro q;rw [C7,C7] at q;have q1:((sIx items.size 0 lo:G7):P0)=0:=eq_of_beq q.1.1;have q2:sIx items.size items.size hi-sIx items.size 0 lo=items.size:=eq_of_beq q.2;exact hw ⟨by omega,by omega⟩
 show D9 _ _ (if (((sIx items.size 0 lo:G7):P0)==0&&(1:P0)==1&&(sIx items.size items.size hi-sIx items.size 0 lo)==items.size)=true then _ else _) _ _ s;rw [R3 hno,BD]
 first
  |exact wpAny_bind (m:=A5 _) (O3 (G8 ⟨_,rfl,G8 h⟩) Ę)
  |exact wpAny_bind (m:=A5 _) (O3 (wpAny_bind (G8 (G8 ⟨_,rfl,G8 h⟩))) Ę)
  |exact wpAny_bind (wpAny_bind (m:=A5 _) (O3 (G8 (G8 ⟨_,rfl,G8 h⟩)) Ę))
  |exact wpAny_bind (wpAny_bind (m:=A5 _) (O3 (G8 ⟨_,rfl,G8 h⟩) Ę))
end
end HT
namespace L2
open PySem PySem.Spec PyProof.Rows
abbrev TO:=St->Hp->(P7 P0->Hp->Prop)->Prop
def PO (X:Cx)(e:P7 T8)(t:TO):Prop:=
 ∀ (À:G0 (P1×Obj)) (s:G6) (σ:St) (H:Hp) (Q:P7 P0->Hp->Prop),Inv X À σ H s->t σ H Q->
  D9 (S2 X.prog X.w) X.A (evalPart e X.env) (λu s'=> ∃o H',Inv X À σ H' s'/\lN u o/\Q o H') X.xe s
def LJ:TO:=λ_ H Q=>Q none H
def Hz (t:TE):TO:=λσ H Q=>t σ H λx H1=> ∃i,x= .int i/\Q (some i) H1
section
variable {X:Cx}{e:T8}{te:TE}{lo hi:P7 T8}{tl th:TO}{pos p2:Pos}
theorem X0b:PO X none LJ:=by
 intro À s σ H Q I h;rw [oN];exact G8 ⟨none,H,I,.none,h⟩
theorem LK (h:PE X e te):PO X (some e) (Hz te):=by
 intro À s σ H Q I hw;rw [tD];refine Ô (h À s σ H _ I hw) λu s1 ⟨x,H1,I1,r1,q1⟩=> ?_
 obtain⟨i,rfl,q⟩:=q1;obtain⟨t,rfl⟩:=r1;exact⟨some i,H1,I1,.int i t,q⟩
def SlR (X:Cx)(r:V->P7 P0->P7 P0->Hp->VK->Prop):Prop:=
 ∀ (À:G0 (P1×Obj)) (s:G6) (σ:St) (H:Hp) (x:V) (v vl vu:G3) (lo hi:P7 P0) (sl:P1) (Q:VK),Inv X À σ H s->RelV x v->s.heap.IsSliceOf sl vl vu .none->lN vl lo->lN vu hi->r x lo hi H Q->
  ∃T id,IZ (.type T) "__getitem__" =pure (some (.builtin id))/\s.TypeIs v T/\D9 (S2 X.prog X.w) X.A (fQ v (.ref sl)) (EP X À σ Q) X.xe s
theorem SlR.or {r r':V->P7 P0->P7 P0->Hp->VK->Prop}(h:SlR X r)(h':SlR X r'):SlR X (λx lo hi H Q=>r x lo hi H Q\/r' x lo hi H Q):=by
 intro À s σ H x v vl vu lo hi sl Q I rx hs pl pu q;rcases q with q|q
 ·exact h À s σ H x v vl vu lo hi sl Q I rx hs pl pu q
 ·exact h' À s σ H x v vl vu lo hi sl Q I rx hs pl pu q
def tSl (r:V->P7 P0->P7 P0->Hp->VK->Prop)(te:TE)(tl th:TO):TE:=λσ H Q=>te σ H λx H1=>tl σ H1 λl H2=>th σ H2 λu H3=>r x l u H3 Q
theorem BE {r:V->P7 P0->P7 P0->Hp->VK->Prop}(hr:SlR X r)(he:PE X e te)(hl:PO X lo tl)(hu:PO X hi th):PE X (.Subscript e (.Slice lo hi none p2) pos) (tSl r te tl th):=by
 intro À s σ H Q I h;refine oU (Ô (he À s σ H _ I h) λv s1 ⟨x,H1,I1,r1,q1⟩=> ?_);refine x5 (Ô (hl À s1 σ H1 _ I1 q1) λvl s2 ⟨l,H2,I2,pl,q2⟩=>Ô (hu À s2 σ H2 _ I2 q2) λvu s3 ⟨u,H3,I3,pu,q3⟩=> ?_);rw [oN];refine G8 ?_;have I4:Inv X À σ H3 {s3 with heap:=s3.heap.push {cls:= .type "slice",data:= .fields #[vl,vu,.none]}}:=I3.kept (t':=s3.toks) λb ob q=>P3 _ q
 obtain⟨T,id,hT,ht,hg⟩:=hr À {s3 with heap:=s3.heap.push {cls:= .type "slice",data:= .fields #[vl,vu,.none]}} σ H3 x v vl vu l u s3.heap.objs.size Q I4 r1 (Heap.IsSliceOf.new ..) pl pu q3;show D9 (S2 X.prog X.w) X.A (j0 e (.Slice lo hi none p2) v (.ref s3.heap.objs.size)) (EP X À σ Q) X.xe {s3 with heap:=s3.heap.push {cls:= .type "slice",data:= .fields #[vl,vu,.none]}};exact x8 (ops:= [.ref s3.heap.objs.size,v]) ht hT hg (by with_unfolding_all rfl)
def Bi (xs:G0 V)(lo hi:P7 P0):G0 V:=(xs.drop (HT.sIx xs.length 0 lo)).take (HT.sIx xs.length xs.length hi-HT.sIx xs.length 0 lo)
theorem WY (xs:G0 V)(lo hi:P7 P0):(Bi xs lo hi).length<=xs.length:=by
 unfold Bi;rw [S8,C6];omega
def uG (K:G5):V->P7 P0->P7 P0->Hp->VK->Prop:=λx lo hi H Q=> ∃a xs,x= .ref a/\ç K H a xs/\
 ¬ (HT.sIx xs.length 0 lo=0/\HT.sIx xs.length xs.length hi=xs.length)/\ ∀p,H p=none->Q (.ref p) (upd H p (.tup (Bi xs lo hi)))
theorem X0n:SlR X (uG X.K):=by
 intro À s σ H x v vl vu lo hi sl Q I rx hs pl pu h;obtain⟨a,xs,rfl,hx,hw,q⟩:=h;cases rx;obtain⟨its,r,ht,hz⟩:=I.tuple hx;have hlen:its.toArray.size=xs.length:=by rw [D8];exact r.length.symm
 refine⟨"tuple",_,PyProof.Rows.slot_tuple_getitem.lookup,ht.typeIs,?_⟩;refine HT.ZG ht hs pl pu (by rw [hlen];exact hw) ?_ (by rw [hlen];exact hz);rw [hlen];refine⟨.ref s.heap.objs.size,_,I.laid (t':=s.toks) (o:= .tup (Bi xs lo hi)) (λb ob q=>P3 _ q) (P5 _) ?_,rfl,q _ (I.hok.fresh (P5 _))⟩;exact⟨S5 (WY xs lo hi) hz,_,(r.drop (HT.sIx xs.length 0 lo)).take (HT.sIx xs.length xs.length hi-HT.sIx xs.length 0 lo),é.new _ _⟩
def HA (K:G5):R2:=λx y H Q=> ∃a b xs ys,x= .ref a/\y= .ref b/\ç K H a xs/\ç K H b ys/\xs≠ []/\xs.length+ys.length<=sizeLine/\
 (ys= []->Q (.ref a) H)/\(ys≠ []-> ∀p,H p=none->Q (.ref p) (upd H p (.tup (xs++ys))))
theorem È.nil_iff {xs:G0 V}{us:G0 G3}(r:È xs us):us= []↔xs= []:=by
 cases r with
 |nil=>simp
 |cons _ _=>simp
theorem X0c:ü X (J4 .Add) (HA X.K):=by
 intro À s σ H x y v u Q I rx ry h;obtain⟨a,b,xs,ys,rfl,rfl,ha,hb,hx,hz,q1,q2⟩:=h;cases rx;cases ry;obtain⟨its,r1,p1,_⟩:=I.tuple ha;obtain⟨Ĝ,r2,p2,_⟩:=I.tuple hb;refine HT.LH p1 p2 (λz=>hx (r1.nil_iff.mp z)) (λz=>⟨.ref a,H,I,rfl,q1 (r2.nil_iff.mp z)⟩) (λz=> ?_) (by rw [<-r1.length,<-r2.length];exact hz);refine⟨.ref s.heap.objs.size,_,I.laid (t':=s.toks) (o:= .tup (xs++ys)) (λb ob q=>P3 _ q) (P5 _) ?_,rfl,q2 (λw=>z (r2.nil_iff.mpr w)) _ (I.hok.fresh (P5 _))⟩;exact⟨by rw [P2];exact hz,_,r1.append r2,é.new _ _⟩
end
def Ŭ (n:G7)(i:P0):P7 G7:=if 0<=i then (if i<n then some i.toNat else none) else if-(n:P0)<=i then some (i+n).toNat else none
def Ē {α:Type}(xs:G0 α)(i:P0):P7 α:=(Ŭ xs.length i).bind λj=>xs[j]?
theorem Ry {n:G7}{i:P0}{j:G7}(h:Ŭ n i=some j):seqIndex? i n=some j/\j<n/\ -(n:P0)<=i/\i<n:=by
 unfold Ŭ at h
 by_cases h0:0<=i
 ·rw [R5 h0] at h
  by_cases h1:i<n
  ·rw [R5 h1] at h;have e:i.toNat=j:=B9 h;exact⟨by rw [qY h0 h1,e],by omega,by omega,h1⟩
  ·rw [R3 h1] at h;cases h
 ·rw [R3 h0] at h
  by_cases h1: -(n:P0)<=i
  ·rw [R5 h1] at h;have e:(i+n).toNat=j:=B9 h;exact⟨by rw [pJ (by omega) h1,e],by omega,h1,by omega⟩
  ·rw [R3 h1] at h;cases h
theorem QU {α:Type}{xs:G0 α}{i:P0}{v:α}(h:Ē xs i=some v): ∃j,seqIndex? i xs.length=some j/\xs[j]? =some v/\j<xs.length/\ -(xs.length:P0)<=i/\i<xs.length:=by
 unfold Ē at h;cases e:Ŭ xs.length i with
 |none=>rw [e] at h;cases h
 |some j=>
  rw [e] at h;obtain⟨h1,h2,h3,h4⟩:=Ry e;exact⟨j,h1,h,h2,h3,h4⟩
theorem wY {α:Type}{xs:G0 α}{j:G7}{v:α}(h:xs[j]? =some v):Ē xs (j:P0)=some v:=by
 have hj:j<xs.length:=(P8.mp h).1;have e:Ŭ xs.length (j:P0)=some j:=by
  unfold Ŭ;rw [R5 (by omega),R5 (by omega)];simp
 unfold Ē;rw [e];exact h
def Ua (b:T8):Prop:= ∀o i,m9 b false o i=G0r [o,i] (fQ o i)
def IxR (X:Cx)(r:R2):Prop:=
 ∀ (value slice:T8) (À:G0 (P1×Obj)) (s:G6) (σ:St) (H:Hp) (x y:V) (v u:G3) (Q:VK),Inv X À σ H s->RelV x v->RelV y u->r x y H Q->
  m9 slice false v u=G0r [v,u] (fQ v u)->D9 (S2 X.prog X.w) X.A (j0 value slice v u) (EP X À σ Q) X.xe s
def MtR (X:Cx)(id:U4)(r:V->G0 V->Hp->VK->Prop):Prop:=
 ∀ (À:G0 (P1×Obj)) (s:G6) (σ:St) (H:Hp) (x:V) (xs:G0 V) (v:G3) (us:G0 G3) (Q:VK),Inv X À σ H s->RelV x v->È xs us->r x xs H Q->
  D9 (S2 X.prog X.w) X.A (call (.builtin id) (v::us)) (EP X À σ Q) X.xe s
section
variable {X:Cx}{a b:T8}{ta tb:TE}{pos:Pos}
theorem IxR.or {r r':R2}(h:IxR X r)(h':IxR X r'):IxR X (λx y H Q=>r x y H Q\/r' x y H Q):=by
 intro value slice À s σ H x y v u Q I rx ry q hs;rcases q with q|q
 ·exact h value slice À s σ H x y v u Q I rx ry q hs
 ·exact h' value slice À s σ H x y v u Q I rx ry q hs
theorem HB {r:R2}(hr:IxR X r)(ha:PE X a ta)(hb:PE X b tb)(hs:Ua b):PE X (.Subscript a b pos) (tOp r ta tb):=by
 intro À s σ H Q I h;exact oU (Hr ha hb I h λv u s2 x y H2 I2 rx ry q=>hr a b À s2 σ H2 x y v u Q I2 rx ry q (hs _ _))
def kJ (K:G5):R2:=λx y H Q=> ∃p xs i v,x= .ref p/\y= .int i/\ò K H p xs/\Ē xs i=some v/\Q v H
def kK (K:G5):R2:=λx y H Q=> ∃p xs i v,x= .ref p/\y= .int i/\ç K H p xs/\Ē xs i=some v/\Q v H
def kM:R2:=λx y H Q=> ∃z i c,x= .str z/\y= .int i/\z.length<=sizeLine/\Ē z.cps.toList i=some c/\Q (.str ⟨#[c]⟩) H
theorem X0d:IxR X (kJ X.K):=by
 intro value slice À s σ H x y v u Q I rx ry h hs;obtain⟨p,xs,i,z,rfl,rfl,hq,he,q⟩:=h;cases rx;obtain⟨t,rfl⟩:=ry;obtain⟨its,r,pl,hz⟩:=I.list hq;obtain⟨j,h1,h2,h3,h4,h5⟩:=QU he;obtain⟨w,ew,rw'⟩:=r.get h2;have hl:=r.length;have hn:=Xg;have fin:EP X À σ Q w s:=⟨z,H,I,rw',q⟩
 by_cases h0:0<=i
 ·have hj:i.toNat=j:=by
   rw [qY h0 h5] at h1;exact B9 h1
  exact item_listR pl.isList h0 (by omega) (by rw [hj];simpa using ew) fin hs
 ·have hj:(i+(its.toArray.size:P0)).toNat=j:=by
   rw [pJ (by omega) h4] at h1;rw [D8,<-hl];exact B9 h1
  exact lO (x:=w) pl.isList.typeIs slot_list_getitem.lookup
   (wpAny_getItem_list_neg (Q:=λr s'=>r=w/\EP X À σ Q r s') pl.isList (by omega) (by rw [D8]<;>omega) (by omega) (by rw [hj];simpa using ew) ⟨rfl,fin⟩) hs
theorem X0o:IxR X (kK X.K):=by
 intro value slice À s σ H x y v u Q I rx ry h hs;obtain⟨p,xs,i,z,rfl,rfl,hq,he,q⟩:=h;cases rx;obtain⟨t,rfl⟩:=ry;obtain⟨its,r,pl,hz⟩:=I.tuple hq;obtain⟨j,h1,h2,h3,h4,h5⟩:=QU he;obtain⟨w,ew,rw'⟩:=r.get h2;have hl:=r.length;have hn:=Xg;have fin:EP X À σ Q w s:=⟨z,H,I,rw',q⟩;exact lO (x:=w) pl.typeIs slot_tuple_getitem.lookup
  (getItem_tuple (j:=j) (Q:=λr s'=>r=w/\EP X À σ Q r s') pl (by omega) (by omega) (by rw [D8,<-hl];exact h1) (by simpa using ew) ⟨rfl,fin⟩) hs
theorem EH:IxR X kM:=by
 intro value slice À s σ H x y v u Q I rx ry h hs;obtain⟨z,i,c,rfl,rfl,hz,he,q⟩:=h;obtain⟨t,rfl⟩:=rx;obtain⟨t',rfl⟩:=ry;obtain⟨j,h1,h2,h3,h4,h5⟩:=QU he;have hl:z.cps.toList.length=z.length:=by simp [Str.length]
 rw [hl] at h1 h4 h5;have hn:=Xg;exact x8 (G0a s z t) slot_str_getitem.lookup (getItem_str (c:=c) (by
  have e1:decide (i< -(2^63:P0))=false:=R8 (by omega);have e2:decide (i>=2^63)=false:=R8 (by omega);rw [e1,e2,tE]) (by rw [h1];simpa using h2) ⟨.str ⟨#[c]⟩,H,I.tok _,⟨_,rfl⟩,q⟩) hs
def rIx (K:G5):R2:=λx y H Q=>kJ K x y H Q\/kK K x y H Q\/kM x y H Q
theorem EI:IxR X (rIx X.K):=X0d.or (X0o.or EH)
theorem Dg (its:G0 G3)(n j:G7)(u:G3):bZ (·.setIfInBounds j u) {cls:= .type "list",data:= .seq its.toArray n}= {cls:= .type "list",data:= .seq (its.set j u).toArray n}:=by
 simp [bZ]
theorem Inv.lst {À:G0 (P1×Obj)}{σ:St}{H:Hp}{s:G6}{p:P1}{xs:G0 V}(I:Inv X À σ H s)(h:H p=some (.lst xs)):
 ∃ (its:G0 G3) (n:G7),È xs its/\s.heap.get? p=some {cls:= .type "list",data:= .seq its.toArray n}/\xs.length<=sizeLine:=by
 obtain⟨z,its,n,r,e⟩:=I.hok p _ h;exact⟨its,n,r,e,z⟩
theorem Inv.lstUpd {À:G0 (P1×Obj)}{σ:St}{H:Hp}{s:G6}{p:P1}{xs ys:G0 V}{its its':G0 G3}{n n':G7}{f:Obj->Obj}(I:Inv X À σ H s)(h:H p=some (.lst xs))
 (ho:s.heap.get? p=some {cls:= .type "list",data:= .seq its.toArray n})(hf:f {cls:= .type "list",data:= .seq its.toArray n}= {cls:= .type "list",data:= .seq its'.toArray n'})(r:È ys its')(hz:ys.length<=sizeLine)(t:G7):
 Inv X À σ (upd H p (.lst ys)) {s with heap:=s.heap.update p f,toks:=t}:=by
 have e:(s.heap.update p f).get? p=some {cls:= .type "list",data:= .seq its'.toArray n'}:=by
  rw [aG f ho (by rw [hf]<;>rfl),hf]
 refine I.write (x:=p) (e:=p) (by rw [h];trivial) (.inl rfl) (λb u hb q=>(Y7 _ _ (E4 hb)).trans q) ⟨_,e⟩ ?_;exact⟨hz,its',n',r,e⟩
def HE:V->V->V->Hp->(Hp->Prop)->Prop:=λo i v H Q=> ∃p xs k j,o= .ref p/\i= .int k/\H p=some (.lst xs)/\Ŭ xs.length k=some j/\Q (upd H p (.lst (xs.set j v)))
theorem BF:ki X HE:=by
 intro À s σ H o i v ov iv u Q I ro ri rv h;obtain⟨p,xs,k,j,rfl,rfl,hp,hj,q⟩:=h;cases ro;obtain⟨t,rfl⟩:=ri;obtain⟨its,n,r,ho,hz⟩:=I.lst hp;obtain⟨h1,h2,h3,h4⟩:=Ry hj;have hl:=r.length;have hn:=Xg;have I':Inv X À σ (upd H p (.lst (xs.set j v))) {s with heap:=s.heap.update p (bZ (·.setIfInBounds j u))}:=
  I.lstUpd hp ho (Dg its n j u) (r.set rv j) (by rw [rB];exact hz) s.toks
 by_cases h0:0<=k
 ·have hk:k.toNat=j:=by
   rw [qY h0 h4] at h1;exact B9 h1
  exact G0A ho h0 (by omega) (by rw [D8,<-hl];exact h4) (by rw [hk];exact⟨_,I',q⟩)
 ·have hk:(k+(its.toArray.size:P0)).toNat=j:=by
   rw [pJ (by omega) h3] at h1;rw [D8,<-hl];exact B9 h1
  exact G0b ho (by omega) (by rw [D8,<-hl];exact h3) (by omega) (by rw [hk];exact⟨_,I',q⟩)
theorem Xl (lo hi:P7 P0)(n:G7):(dG lo hi none n).1=((HT.sIx n 0 lo:G7):P0)/\(dG lo hi none n).2.1=((HT.sIx n n hi:G7):P0)/\(dG lo hi none n).2.2=1:=by
 refine⟨?_,?_,rfl⟩
 ·cases lo with
  |none=>simp [dG,HT.sIx]
  |some i=>
   simp only [dG,HT.sIx,qJ,show (1:P0)>0 by decide,i3]
   by_cases h:i<0
   ·simp only [h,i3]<;>omega
   ·simp only [h,lC]<;>omega
 ·cases hi with
  |none=>simp [dG,HT.sIx]
  |some i=>
   simp only [dG,HT.sIx,qJ,show (1:P0)>0 by decide,i3]
   by_cases h:i<0
   ·simp only [h,i3]<;>omega
   ·simp only [h,lC]<;>omega
theorem Ub (its:G0 G3)(lo hi:P7 P0):slicePick its.toArray lo hi none=((its.drop (HT.sIx its.length 0 lo)).take (HT.sIx its.length its.length hi-HT.sIx its.length 0 lo)).toArray:=by
 obtain⟨h1,h2,h3⟩:=Xl lo hi its.toArray.size;unfold slicePick;rw [h1,h2,h3];simp only [sliceRange_one,pick_run,D8]<;>rfl
def uH (K:G5):V->P7 P0->P7 P0->Hp->VK->Prop:=λx lo hi H Q=> ∃a xs,x= .ref a/\ò K H a xs/\ ∀p,H p=none->Q (.ref p) (upd H p (.lst (Bi xs lo hi)))
theorem LL:SlR X (uH X.K):=by
 intro À s σ H x v vl vu lo hi sl Q I rx hs pl pu h;obtain⟨a,xs,rfl,hx,q⟩:=h;cases rx;obtain⟨its,r,ht,hz⟩:=I.list hx;have hlen:=r.length;refine⟨"list",_,slot_list_getitem.lookup,ht.isList.typeIs,?_⟩;refine wpAny_getItem_list_slice ht.isList hs pl pu .none (by simp) ?_ (by rw [D8]<;>omega);rw [Ub,<-hlen];refine⟨.ref s.heap.objs.size,_,I.laid (t':=s.toks) (o:= .lst (Bi xs lo hi)) (λb ob q=>P3 _ q) (P5 _) ?_,rfl,q _ (I.hok.fresh (P5 _))⟩;exact⟨S5 (WY xs lo hi) hz,_,0,(r.drop (HT.sIx xs.length 0 lo)).take (HT.sIx xs.length xs.length hi-HT.sIx xs.length 0 lo),S4 _ rfl⟩
theorem Ŏ:è X (.builtin "len") (λxs H Q=> ∃p ys,xs= [.ref p]/\(ò X.K H p ys\/ç X.K H p ys)/\Q (.int ys.length) H):=by
 intro À s σ H xs us Q I r h;obtain⟨p,ys,rfl,hq,q⟩:=h;obtain⟨u,rfl,rx⟩:=Vc r;cases rx;have hn:=Xg;rcases hq with hq|hq
 ·obtain⟨its,r',pl,hz⟩:=I.list hq;have hlen:=r'.length;exact Calls.call_len_list pl.isList (by simp only [D8]<;>omega) ⟨.int ys.length,H,I.tok _,⟨s.toks+1,by rw [D8,hlen]⟩,q⟩
 ·obtain⟨its,r',pl,hz⟩:=I.tuple hq;have hlen:=r'.length;exact len_tuple pl (by simp only [D8]<;>omega) ⟨.int ys.length,H,I.tok _,⟨s.toks+1,by rw [D8,hlen]⟩,q⟩
theorem ł:è X (.type "tuple") (λxs H Q=> ∃p ys,xs= [.ref p]/\((ò X.K H p ys/\ ∀l,H l=none->Q (.ref l) (upd H l (.tup ys)))\/(ç X.K H p ys/\Q (.ref p) H))):=by
 intro À s σ H xs us Q I r h;obtain⟨p,ys,rfl,h⟩:=h;obtain⟨u,rfl,rx⟩:=Vc r;cases rx;rcases h with ⟨hq,q⟩|⟨hq,q⟩
 ·obtain⟨its,r',pl,hz⟩:=I.list hq;have hlen:=r'.length;refine call_tuple_list pl.isList (λh' kp=> ?_) (by simp only [D8]<;>omega);have I1:Inv X À σ H {s with heap:=h'}:=I.kept (t':=s.toks) kp;have I2:Inv X À σ (upd H h'.objs.size (.tup ys)) {s with heap:=h'.push {cls:= .type "tuple",data:= .seq its.toArray}}:=
   I1.laid (t':=s.toks) (λb o e=>P3 _ e) (P5 _) (show Ö X.prog X.w _ _ _ (.tup ys) from ⟨hz,its,r',é.new _ _⟩)
  exact⟨.ref h'.objs.size,_,I2,rfl,q _ (I1.hok.fresh (P5 _))⟩
 ·obtain⟨its,r',pl,hz⟩:=I.tuple hq;exact call_tuple_same pl ⟨.ref p,H,I,rfl,q⟩
def tyV (K:G5)(T:U4)(x:V)(H:Hp):Prop:=match x with
 | .str _=>T= "str"
 | .int _=>T= "int"
 | .ref p=>(T= "list" /\ ∃xs,ò K H p xs)\/(T= "tuple" /\ ∃o,K.lookup p=some o/\o.cls= .type "tuple" /\o.dict=none)\/
  (T= "dict" /\((∃Ā,H p=some (.dK Ā))\/ ∃Ā,H p=some (.dT Ā)))\/(T= "set" /\ ∃S n,H p=some (.set S n))
 |_=>False
theorem EJ {À:G0 (P1×Obj)}{σ:St}{H:Hp}{s:G6}{T:U4}{x:V}{v:G3}(I:Inv X À σ H s)(r:RelV x v)(ty:tyV X.K T x H):
 s.TypeIs v T/\ ∀a,v= .ref a-> ∃ob,s.heap.get? a=some ob/\ob.dict=none:=by
 cases x with
 |str z=>
  obtain⟨t,rfl⟩:=r;cases (show T= "str" from ty);exact⟨G0a s z t,λ_ e=>nomatch e⟩
 |int i=>
  obtain⟨t,rfl⟩:=r;cases (show T= "int" from ty);exact⟨lQ s i t,λ_ e=>nomatch e⟩
 |ref p=>
  cases r;rcases ty with ⟨rfl,xs,hq⟩|⟨rfl,o,hk,hc,hd⟩|⟨rfl,hk⟩|⟨rfl,S,n,hk⟩
  ·obtain⟨its,_,pl,_⟩:=I.list hq;refine⟨pl.isList.typeIs,λa e=> ?_⟩;cases e;obtain⟨o,n,e,c,hd,_⟩:=pl;exact⟨o,e,hd⟩
  ·refine⟨⟨o,I.kIn p o hk,hc⟩,λa e=> ?_⟩;cases e;exact⟨o,I.kIn _ o hk,hd⟩
  ·have z: ∃o,s.heap.get? p=some o/\o.ExactDict:=by
    rcases hk with ⟨Ā,hk⟩|⟨Ā,hk⟩
    ·obtain⟨_,_,_,_,o,_,_,e,ex,_⟩:=I.hok p _ hk;exact⟨o,e,ex⟩
    ·obtain⟨_,_,_,_,o,_,_,e,ex,_⟩:=I.hok p _ hk;exact⟨o,e,ex⟩
   obtain⟨o,e,ex⟩:=z;refine⟨⟨o,e,ex.1⟩,λa e2=> ?_⟩;cases e2;exact⟨o,e,ex.2.1⟩
  ·obtain⟨o,_,_,_,e,ex,_⟩:=I.hok p _ hk;refine⟨⟨o,e,ex.1⟩,λa e2=> ?_⟩;cases e2;exact⟨o,e,ex.2.1⟩
 |_=>exact False.elim ty
def tBM (K:G5)(T:U4)(r:V->G0 V->Hp->VK->Prop)(to:TE)(t:TA):TE:=λσ H Q=>to σ H λx H1=>tyV K T x H1/\t σ H1 λxs H2=>r x xs H2 Q
variable {o e:T8}{es:G0 T8}{to:TE}{t:TA}{name:Str}{apos Ï:Pos}{T id:U4}{r:V->G0 V->Hp->VK->Prop}
theorem BG (pa:PlainAttrs T)(slot:Slot T name id)(hty:typeOf (.builtin id)=pure (.type "method_descriptor"))(hm:MtR X id r)(ho:PE X o to)(ha:PA X (e::es) t)
 (hbase:W6 o name X.env (A0 o X.env)=A0 o X.env:=by rfl)
 (hfew:((Q7 Ï (R6 (e::es) X.env)).all (λx=> !x.1)&&(g7 Ï (b7 [] X.env)).all (λx=>x.1.isSome)
  &&decide ((e::es).length+([]:G0 bG).length+(if ([]:G0 bG).isEmpty then 0 else 1)<30))=true:=by rfl)
 (hline:(apos.endLine==Ï.line)=true:=by rfl)(hs:R6 (e::es) X.env=(false,A0 e X.env)::R6 es X.env:=by rfl)(hplain:(Q7 Ï (R6 es X.env)).any (·.1)=false:=by rfl):
 PE X (.Call (.Attribute o name apos) (e::es) [] Ï) (tBM X.K T r to t):=by
 intro À s σ H Q I h;refine wpAny_Call_method_late hbase hfew hline rfl (Ô (ho À s σ H _ I h) λv s1 ⟨x,H1,I1,r1,ty,q1⟩=> ?_);obtain⟨h1,h2⟩:=EJ I1 r1 ty;refine⟨T,id,pa,slot,hty,h1,h2,?_⟩;have hA:=ha Ï À s1 σ H1 _ I1 q1;rw [hs] at hA ⊢;refine Calls.callWith_builtin (by show (false||(Q7 Ï (R6 es X.env)).any (·.1))=false;rw [hplain]<;>rfl) (Calls.evalArgs_plain ?_);exact Ô hA λus s2 ⟨vs,H2,I2,r2,q2⟩=>hm À s2 σ H2 x vs v us Q I2 r1 r2 q2
end
def MtM (X:Cx)(id:U4)(r:V->G0 V->Hp->VK->Prop):Prop:=
 ∀ (À:G0 (P1×Obj)) (s:G6) (σ:St) (H:Hp) (x:V) (xs:G0 V) (v:G3) (us:G0 G3) (Q:VK),Inv X À σ H s->RelV x v->È xs us->r x xs H Q->
  D9 (S2 X.prog X.w) X.A (call (.builtin id) (v::us)) (EP X À σ Q) X.xe s
theorem È.one: ∀ {x:V} {us:G0 G3},È [x] us-> ∃u,us= [u]/\RelV x u
 |_,_,.cons r .nil=>⟨_,rfl,r⟩
theorem È.rep {xs:G0 V}{us:G0 G3}(h:È xs us): ∀k:G7,È (S9 k xs).flatten (S9 k us).flatten
 |0=> .nil
 |k+1=>by
  rw [K6,K6,X5,X5];exact È.append h (È.rep h k)
theorem WZ (its:G0 G3): ∀ (k:G7) (acc:G0 G3),
 sJ (λx1 x2=>x1++x2) acc.toArray (S9 k its.toArray)=(acc++(S9 k its).flatten).toArray
 |0,acc=>by simp
 |k+1,acc=>by
  have e:acc.toArray++its.toArray=(acc++its).toArray:=by simp
  have e2:(acc++its)++(S9 k its).flatten=acc++(S9 (k+1) its).flatten:=by
   rw [K6,X5,D4]
  rw [<-e2,<-WZ its k (acc++its),<-e,K6,rC]
section
variable {X:Cx}{À:G0 (P1×Obj)}{σ:St}{H:Hp}{s:G6}{l b:P1}{xs ys zs:G0 V}
theorem Inv.lset {its its':G0 G3}{n:G7}{f:M8 G3->M8 G3}{t':G7}(I:Inv X À σ H s)(hH:H l=some (.lst xs))
 (e:s.heap.get? l=some {cls:= .type "list",data:= .seq its.toArray n})(hf:f its.toArray=its'.toArray)(hv:È ys its')(hz:ys.length<=sizeLine):
 Inv X À σ (upd H l (.lst ys)) {s with heap:=s.heap.update l (bZ f),toks:=t'}:=by
 have q:=PySem.IsL.update e f;rw [hf] at q;refine I.write (x:=l) (e:=l) (by rw [hH];exact trivial) (.inl rfl) (λb' u hb hu=>(Y7 s.heap (bZ f) (E4 hb)).trans hu) ⟨_,q⟩ ?_;exact⟨hz,its',_,hv,q⟩
theorem Inv.lnew {its:G0 G3}{t':G7}(I:Inv X À σ H s)(hv:È ys its)(hz:ys.length<=sizeLine):
 Inv X À σ (upd H s.heap.objs.size (.lst ys)) {s with heap:=s.heap.push {cls:= .type "list",data:= .seq its.toArray},toks:=t'}:=
 I.laid (λ_ _ q=>P3 _ q) (P5 _) ⟨hz,its,0,hv,S4 _ rfl⟩
theorem Inv.fresh (I:Inv X À σ H s):H s.heap.objs.size=none:=I.hok.fresh (P5 _)
theorem Inv.lstM (I:Inv X À σ H s)(hH:H l=some (.lst xs)):xs.length<=sizeLine/\ ∃ (its:G0 G3) (n:G7),È xs its/\xs.length=its.length/\s.heap.get? l=some {cls:= .type "list",data:= .seq its.toArray n}:=by
 obtain⟨z,its,n,r,e⟩:=I.hok l _ hH;exact⟨z,its,n,r,r.length,e⟩
theorem Pa {n:G7}(h:n<=sizeLine):aS n=false:=by
 unfold aS;exact R8 (by omega)
end
section
variable {X:Cx}
def LM:V->G0 V->Hp->VK->Prop:=λx vs H Q=> ∃l xs y,x= .ref l/\vs= [y]/\H l=some (.lst xs)/\xs.length<sizeLine/\Q .non (upd H l (.lst (xs++ [y])))
theorem Rz:MtM X "list.append" LM:=by
 intro À s σ H x vs v us Q I rx rv h;obtain⟨l,xs,y,rfl,rfl,hH,hz,q⟩:=h;cases rx;obtain⟨u,rfl,ru⟩:=rv.one;obtain⟨z,its,n,r,hl,e⟩:=I.lstM hH;refine g8 F.slot_list_append ⟨_,e,rfl⟩ F.entry_list_append (F.args_list_append_2 _ _) (PySem.list_append l its.toArray n u (by rw [D8];omega)) ⟨e,?_⟩;refine⟨.non,_,I.lset (its':=its++ [u]) hH e (by simp) (r.append (.cons ru .nil)) ?_,rfl,q⟩;rw [P2,fI];omega
def LP:V->G0 V->Hp->VK->Prop:=λx vs H Q=> ∃l b xs zs,x= .ref l/\vs= [.ref b]/\H l=some (.lst xs)/\H b=some (.lst zs)/\xs.length+zs.length<=sizeLine/\Q .non (upd H l (.lst (xs++zs)))
theorem RA:MtM X "list.extend" LP:=by
 intro À s σ H x vs v us Q I rx rv h;obtain⟨l,b,xs,zs,rfl,rfl,hH,hB,hz,q⟩:=h;cases rx;obtain⟨u,rfl,ru⟩:=rv.one;cases ru;obtain⟨z,its,n,r,hl,e⟩:=I.lstM hH;obtain⟨z2,Ĝ,n2,r2,hl2,e2⟩:=I.lstM hB;have hsz:its.toArray.size+Ĝ.toArray.size<=sizeLine:=by rw [D8,D8];omega
 have Χ: ¬ (!its.toArray.isEmpty&&aS (its.toArray.size+Ĝ.toArray.size))=true:=by
  rw [Pa hsz,sK];exact D0
 refine g8 F.slot_list_extend ⟨_,e,rfl⟩ F.entry_list_extend (F.args_list_extend_2 _ _)
  (AutoSeq1.list_extend_list_list_0 l its.toArray n b Ĝ.toArray n2 Χ (by rw [D8];omega) (by omega)) ⟨e,e2,?_⟩
 refine⟨.non,_,I.lset (its':=its++Ĝ) hH e (by simp) (r.append r2) ?_,rfl,q⟩;rw [P2];omega
def uI:R2:=λx y H Q=> ∃l b xs zs,x= .ref l/\y= .ref b/\H l=some (.lst xs)/\H b=some (.lst zs)/\xs.length+zs.length<=sizeLine/\ ∀p,H p=none->Q (.ref p) (upd H p (.lst (xs++zs)))
theorem EK:ü X (J4 .Add) uI:=by
 intro À s σ H x y v u Q I rx ry h;obtain⟨l,b,xs,zs,rfl,rfl,hH,hB,hz,q⟩:=h;cases rx;cases ry;obtain⟨z,its,n,r,hl,e⟩:=I.lstM hH;obtain⟨z2,Ĝ,n2,r2,hl2,e2⟩:=I.lstM hB;refine PySem.P.add_list e e2 ?_ (by rw [D8,D8];omega);have ea:its.toArray++Ĝ.toArray=(its++Ĝ).toArray:=by simp
 rw [ea];exact⟨.ref _,_,I.lnew (t':=s.toks) (r.append r2) (by rw [P2];omega),rfl,q _ I.fresh⟩
def uJ:R2:=λx y H Q=> ∃l k xs,x= .ref l/\y= .int k/\H l=some (.lst xs)/\ -(2^63)<=k/\k<2^63/\xs.length*k.toNat<=sizeLine/\
 ∀p,H p=none->Q (.ref p) (upd H p (.lst (S9 k.toNat xs).flatten))
theorem QV {α:Type}(xs:G0 α)(k:G7):(S9 k xs).flatten.length=k*xs.length:=by
 induction k with
 |zero=>simp
 |succ k ih=>rw [K6,X5,P2,ih,pK,lR]
theorem EL:ü X (J4 .Mult) uJ:=by
 intro À s σ H x y v u Q I rx ry h;obtain⟨l,k,xs,rfl,rfl,hH,h1,h2,hz,q⟩:=h;cases rx;obtain⟨t,rfl⟩:=ry;obtain⟨z,its,n,r,hl,e⟩:=I.lstM hH;have hlen:its.toArray.size*k.toNat<=sizeLine:=by rw [D8,<-hl];exact hz
 have X1g: ¬its.toArray.size*k.toNat>(2^63-1) / 8:=by
  have:(sizeLine:G7)<=(2^63-1) / 8:=by decide
  omega
 have X0v: ¬ (!g9 k)=true:=by
  rw [sL h1 h2];exact D0
 have Χ: ¬aS (its.toArray.size*k.toNat)=true:=by
  rw [Pa hlen];exact D0
 have Ψ:sJ (λx1 x2=>x1++x2) #[] (S9 (if its.toArray.isEmpty=true then 0 else k.toNat) its.toArray)=(S9 k.toNat its).flatten.toArray:=by
  have f0: ∀m:G7,sJ (λx1 x2=>x1++x2) #[] (S9 m its.toArray)=(S9 m its).flatten.toArray:=λm=>by
   have:=WZ its m [];rw [A9] at this;exact this
  rw [f0];cases its with
  |nil=>simp
  |cons a r'=>rw [R3 (by simp)]
 refine iQ (T:= "list") (U:= "int") (by decide) ⟨_,e,rfl⟩ (λs'=>lQ s' k t) noFill_list_mul rD gD repeat_list F.slot_int_index.lookup
  (g8 gD (lQ s k t) qK (pL _ _) (int___rmul___int_list k t l its.toArray n)
   ⟨e,rfl,⟨_,e,rfl⟩,g8 F.slot_list_mul ⟨_,e,rfl⟩ F.entry_list_mul (F.args_list_mul_2 _ _) (AutoListH.list___mul___list_int_3 l its.toArray n k t X0v X1g Χ) ⟨e,?_⟩⟩)
 rw [Ψ];exact⟨.ref _,_,I.lnew (t':=s.toks) (r.rep k.toNat) (by rw [QV,pM];exact hz),rfl,q _ I.fresh⟩
end
end L2
namespace Att
open PySem PySem.W PySem.Calls PyProof.Rows
theorem Ya {P:G0N}{h:L8}: ∀ (ns:G0 P0) (vs:G0 G3),WellAll P h vs (ns.map WData.int)->lS vs ns:=by
 intro ns
 induction ns with
 |nil=>
  intro vs w;rw [dR] at w;cases w;exact .nil
 |cons n ns ih=>
  intro vs w;rw [M7] at w;cases w with
  |cons a b=>
   cases a;exact .cons _ _ (ih _ b)
theorem RB {l:OpenLaw}{n:G7}(hn:l.most=some n){P:G0N}{h:L8}{args:G0 WData}{X0E:G0 G3}
 (X0w:l.row.toRowW.claim.pre args=true)(hwl:WellAll P h X0E args):
 ∃a vs ns,X0E= [F6 a]/\args= [WData.list (ns.map WData.int)]/\h.get? a=some {cls:= .type "list",data:= .seq vs.toArray}/\lS vs ns/\ns.length<=n:=by
 have hsh:WShape.hasAll [] args [.list .int]=true:=(pre_splitW X0w).1;have hc:l.pre.holds [] {args:=args}=true:=(pre_splitW X0w).2;obtain⟨d,r,rfl,h1,h2⟩:=hasAllW_cons hsh;obtain rfl:=hasAllW_nil h2;obtain⟨xs,rfl,h3⟩:=hasW_list h1;obtain⟨ns,rfl⟩:=items_int h3;have hlen:ns.length<=n:=by
  unfold OpenLaw.pre at hc;have h4:(WTm.not (.lt (.lit (.int (n:P0))) (.len (.arg 0)))).holds [] {args:= [.list (ns.map .int)]}=true:=by
   have h4:=(holds_andW hc).1;rw [hn] at h4;exact h4
  have h5:=condW_of h4 (w_not (w_lt w_lit (w_len_list (w_arg rfl))));rw [G1] at h5;refine cG λq=> ?_
  have q':(n:P0)<((ns.length:G7):P0):=by omega
  first
   |(rw [D2 q'] at h5;exact absurd h5 (by decide))
   |(simp at h5;omega)
 cases hwl with
 |cons w1 w2=>
  cases w2;cases w1 with
  |list ho X1h=>exact⟨_,_,ns,rfl,rfl,ho,Ya ns _ X1h,hlen⟩
theorem RC (l:OpenLaw)(args:G0 WData):l.row.toRowW.claim.post args (.bool true) args=true:=
 postW_of (r:=l.row.toRowW) (X:=(true==true))
  (show WShape.has [] (.bool true) .bool=true by first|rfl|decide|simp [WShape.has,WShape.arms,WShape.armsAll])
  (show (WTm.eq .res (.lit (.bool true))).value [] {args:=args,res:=some (.bool true),after:=args}=some (.bool (true==true)) from w_eq_bool (w_res rfl) w_lit) rfl
theorem attach_call {l:OpenLaw}{n:G7}{q:T7}{loose:G0 Str}{XP:(Str->P7 G3)->L8->Prop}{YP:C1->L8->Prop}{d:DefRec}
 (hn:l.most=some n)(hdf:d.params.defaults= [])
 (call: ∀ (w:C1) (s₀ s₁:G6) (mg mb:Str->P7 G3) (fa:P1) (o:Obj) (pm cd doc:G3) (a:P1) (vs:G0 G3) (ns:G0 P0),
  Ground q loose [] XP w s₀ mg mb s₁.heap->YP w s₁.heap->
  s₁.heap.get? fa=some o->o.data= .func (docDef d.name d.params d.body d.scope pm cd doc)->s₁.heap.CodeRec cd d.name->mg d.name=some (.ref fa)->
  s₁.heap.get? a=some {cls:= .type "list",data:= .seq vs.toArray}->lS vs ns->ns.length<=n->s₁.gens= #[]->
  cE (S2 l.prog w) oB (.call (.ref fa) ⟨[.ref a],[]⟩) (λr s'=>r= .ok (.ret (.bool true))/\OldK s₁.heap s'.heap/\s'.os=s₁.os/\iY s'.gens) s₁):
 WalkO q loose XP YP l.row.toRowW d [] (λf vs=>G0c f vs):=by
 intro w s₀ s₁ mg mb G Y fa o pm cd doc dV kV ho hd hcd hD hmg hg args X0E as X0w hlay hrd hwl hlo;obtain rfl:dV= .none:=Dflts.none hD hdf;obtain rfl:kV= .none:=Dflts.noKw hD;obtain⟨a,vs,ns,rfl,rfl,X0F,hints,hlen⟩:=RB hn X0w hwl;refine enter_call (lK (call w s₀ s₁ mg mb fa o pm cd doc a vs ns G Y ho (fd_plain hd) hcd hmg X0F hints hlen hg) λr s' hq=> ?_);obtain⟨rfl,h2,h3,h4⟩:=hq;exact⟨.inl ⟨.bool true,.bool true,[],rfl,λ_=>rfl,.bool true,RC l _,λ_=>⟨List.Pairwise.nil,λ_ hm=>(nomatch hm)⟩⟩,h2,h3,h4⟩
end Att
namespace L2
open PySem PySem.Spec PyProof.Rows
theorem Xm: ∀ {vs:G0 G3} {ns:G0 P0},lS vs ns->È (ns.map V.int) vs
 |_,_,.nil=> .nil
 |_,_,.cons n t h=> .cons ⟨t,rfl⟩ (Xm h)
def Only (H:Hp):Prop:= ∀b,H b=none\/ ∃o xs,H b=some (.frz o (.lst xs))
def vH (s:A3):Arguments:=match s with
 | .FunctionDef _ a _ _ _ _ _ _ _ _=>a
 |_=> {posonlyargs:= [],args:= [],vararg:=none,kwonlyargs:= [],kw_defaults:= [],kwarg:=none,defaults:= []}
def wz (s:A3):G0 A3:=match s with
 | .FunctionDef _ _ b _ _ _ _ _ _ _=>b
 |_=> []
def jd (s:A3):U2:=match s with
 | .FunctionDef _ _ _ _ _ _ sc _ _ _=>sc
 |_=> {kind:= .function,names:= [],isGenerator:=false,isCoroutine:=false}
abbrev á:CXT:=λ_ _ _ _ _ _=>False
abbrev E0:XK:=λ_ _ _=>False
variable {X:Cx}
theorem HF:Ru á X E0:=λ_ _ _ _ _ _ _ h=>h.elim
structure ã (K:G5)(x qual:Str)(st:A3)(f:P1)(fd:M9):Prop where
 ex: ∃ (oc:G3) (od:P7 P1) (kV doc pm:G3) (an:P7 P1) (ù ct:G3) (ŵ:M8 (P7 G3)),
  fd=cF x qual (vH st) (wz st) (jd st) .none kV doc pm an ù ct/\K.lookup f=some ⟨oc,od,.func fd,ŵ⟩/\m8 K ù qual=true
 kp:aX K (.ref f)=true
section
variable {P:T7}{w:C1}{K:G5}{mg:Str->P7 G3}{base:L8}
variable {qual:Str}
theorem ã.ok {x:Str}{st:A3}{f:P1}{fd:M9}{N ps:G0 Str}{k:G7}{sp:Sp}(F:ã K x qual st f fd)(S:Ã N ps (jd st))(len: ∀vs H Q E,sp vs H Q E->vs.length=ps.length)
 (ė: ∀ (ù:G3) (A:B2) (outer:G0 Env) (s:G6) (H:Hp) (vs:G0 V) (Q:VK) (E:XK),ß k (A.deeper (gZ qual (jd st) s.heap.objs.size f ù))->sp vs H Q E->
  ∃t,ś (BC á P w K mg base N qual (jd st) f ù A outer s H E).nox (wz st) t/\t {nx:=λ_ H'=>Q .non H',rt:=Q} (start N vs) H):Ë P w K mg base á (k+1) f fd ps sp:=by
 obtain⟨oc,od,kV,doc,pm,an,ù,ct,ŵ,rfl,lk,hcd⟩:=F.ex;refine Hy lk hcd S len λA outer s H vs Q E hr hsp=> ?_
 obtain⟨t,h,q⟩:=ė ù A outer s H vs Q E hr hsp;exact⟨t,h.nox,q⟩
theorem ã.binds {x:Str}{st:A3}{f:P1}{fd:M9}{ps:G0 Str}(F:ã K x qual st f fd)
 (h: ∀ (kV doc pm:G3) (an:P7 P1) (ù ct:G3) (us:G0 G3),us.length=ps.length->x4 (cF x qual (vH st) (wz st) (jd st) .none kV doc pm an ù ct) ⟨us,[]⟩=pure (ps.zip us)):Binds K fd ps []:=by
 obtain⟨oc,od,kV,doc,pm,an,ù,ct,ŵ,rfl,lk,hcd⟩:=F.ex;exact .all (h kV doc pm an ù ct)
theorem EM {x:Str}{st:A3}{f:P1}{oc:G3}{od an:P7 P1}{ŵ:M8 (P7 G3)}{kV doc pm ù ct:G3}(l:K.lookup f=some ⟨oc,od,.func (cF x qual (vH st) (wz st) (jd st) .none kV doc pm an ù ct),ŵ⟩)
 (c:m8 K ù qual=true)(k:aX K (.ref f)=true):ã K x qual st f (cF x qual (vH st) (wz st) (jd st) .none kV doc pm an ù ct):=⟨⟨oc,od,kV,doc,pm,an,ù,ct,ŵ,rfl,l,c⟩,k⟩
end
theorem zk {n:G7}(h:n<=1000):n<sizeLine:=J5 h (by decide)
theorem zF {A B:Prop}(h:B):if false=true then A else B:=by
 rw [R3 D0];exact h
theorem yr {A B:Prop}(h:A):if true=true then A else B:=by
 rw [R5 rfl];exact h
theorem Vt {c A B:Prop}[Decidable c](h1:c->A)(h2: ¬c->B):if c then A else B:=by
 by_cases h:c
 ·rw [R5 h];exact h1 h
 ·rw [R3 h];exact h2 h
section
variable {X:Cx}{À:G0 (P1×Obj)}{σ:St}{H:Hp}{s:G6}{a:P1}{y v:V}{u r:G3}{o:P7 V}{A:B2}{E:G3->G6->Prop}
theorem Inv.big (I:Inv X À σ H s):Q6<s.heap.objs.size:=by
 have h:O6<s.heap.objs.size:=(I.mod.glob.keeps I.bk).lt;exact cH (by decide) h
theorem RD {h':L8}{t':G7}{ob:HO}(I:Inv X À σ H s)(mu:Mut (H a))(hs:Q2 a s.heap h')(he: ∃q,h'.get? a=some q)(new:Ö X.prog X.w (upd H a ob) h' a ob):
 Inv X À σ (upd H a ob) {s with heap:=h',toks:=t'}:=
 I.write (x:=a) (e:=a) mu (.inl rfl) (λb q hb z=>(hs.2 b hb).trans z) he new
end
def HG (i:T8):Prop:= ∀ov iv,m9 i false ov iv=G0r [ov,iv] (fQ ov iv)
variable {prog:T7}{w:C1}{env:Env}{pos:Pos}
theorem LQ {A:B2}{E:G3->G6->Prop}{s:G6}{value slice:T8}{T id:U4}{Q:G3->G6->Prop}
 (hl:IZ (.type T) "__getitem__" =pure (some (.builtin id)))(hs:HG slice)
 (h:D9 (S2 prog w) A (A0 value env) (λo s₁=>D9 (S2 prog w) A (A0 slice env) (λi s₂=>s₂.TypeIs o T/\D9 (S2 prog w) A (fQ o i) Q E s₂) E s₁) E s):
 D9 (S2 prog w) A (A0 (.Subscript value slice pos) env) Q E s:=by
 refine oU (M1 h (λo s₁ h₁=>M1 h₁ (λi s₂ õ=> ?_) λ_ _ x=>x) λ_ _ x=>x);obtain⟨hT,õ⟩:=õ;unfold j0;refine wpAny_bind ?_;rw [getitemInPython_of_ne hT.not_modules];refine wpAny_bind (Y3 hT hl ?_);have fin:D9 (S2 prog w) A (m9 slice false o i) (λr s₃=>D9 (S2 prog w) A (letTemporaryGo value o r >>= λ_=>pure r) Q E s₃) E s₂:=by
  rw [hs o i];exact wpAny_operating (M1 õ (λr s₃ ĝ=>wpAny_bind (wpAny_letTemporaryGo (G8 ĝ))) λ_ _ x=>x)
 first
  |exact G8 (wpAny_bind fin)
  |exact wpAny_bind (G8 (wpAny_bind fin))
  |exact wpAny_bind fin
structure M2 (X:Cx)(o:T8)(m:Str)(apos:Pos)(e f:T8)(Ï:Pos):Prop where
 base:W6 o m X.env (A0 o X.env)=A0 o X.env
 few:((Q7 Ï (R6 [e,f] X.env)).all (λx=> !x.1)&&(g7 Ï (b7 [] X.env)).all (λx=>x.1.isSome)
  &&decide (([e,f]:G0 T8).length+([]:G0 bG).length+(if ([]:G0 bG).isEmpty then 0 else 1)<30))=true
 line:(apos.endLine==Ï.line)=true
 trees:Q7 Ï (R6 [e,f] X.env)= [(false,A0 e X.env),(false,A0 f X.env)]
def yB (names:G0 (Str×NameKind))(env:Env)(cs:G0 (Str×P1)):G0 (Str×P1):=
 names.foldl (λcs p=>if p.2= .free then (match env.cells.lookup p.1 with|some c=>(p.1,c)::cs|none=>cs) else cs) cs
theorem wv (p:Str×NameKind)(l:G0 (Str×NameKind))(env:Env)(cs:G0 (Str×P1)):
 yB (p::l) env cs=yB l env (if p.2= .free then (match env.cells.lookup p.1 with|some c=>(p.1,c)::cs|none=>cs) else cs):=rfl
theorem Yb {f:Str×NameKind->G0 (Str×P1)->Sem (dH (G0 (Str×P1)))}
 (h1: ∀p cs,p.2≠ .free->f p cs=pure (.yield cs))(h2: ∀p cs c,p.2= .free->env.cells.lookup p.1=some c->f p cs=pure (.yield ((p.1,c)::cs))):
 ∀ (l:G0 (Str×NameKind)) (cs:G0 (Str×P1)),(∀p∈l,p.2= .free-> ∃c,env.cells.lookup p.1=some c)->forIn l cs f=pure (yB l env cs)
 | [],cs,_=>rfl
 |p::l,cs,h=>by
  have ih:=Yb h1 h2 l
  by_cases hp:p.2= .free
  ·obtain⟨c,hc⟩:=h p P6 hp;rw [aK,h2 p cs c hp hc,pure_bind];show forIn l ((p.1,c)::cs) f=_;rw [ih _ λq hq=>h q (D7 _ hq),wv,R5 hp,hc]
  ·rw [aK,h1 p cs hp,pure_bind];show forIn l cs f=_;rw [ih _ λq hq=>h q (D7 _ hq),wv,R3 hp]
variable {scope:U2}
theorem Uc (h: ∀p∈scope.names,p.2= .free-> ∃c,env.cells.lookup p.1=some c):G0d scope env=pure (yB scope.names env []):=by
 simp only [G0d];rw [Yb (env:=env) (λp cs hp=> ?_) (λp cs c hp hc=> ?_) _ _ h]
 ·rfl
 ·obtain⟨n,k⟩:=p;have hb:(k==K1)=false:=by simpa using hp
  simp only [hb,Z9,lC]
 ·obtain⟨n,k⟩:=p;have hb:(k==K1)=true:=by simpa using hp
  have Ρ:env.cells.lookup n=some c:=hc;simp only [hb,i3,cellOf,Ρ,pure_bind]
theorem Yc: ∀ (l:G0 (Str×NameKind)) (cs:G0 (Str×P1)),(∀p∈cs,env.cells.lookup p.1=some p.2)-> ∀p∈yB l env cs,env.cells.lookup p.1=some p.2
 | [],cs,h,p,hp=>h p hp
 |q::l,cs,h,p,hp=>by
  rw [wv] at hp;refine Yc l _ (λr hr=> ?_) p hp
  by_cases hq:q.2= .free
  ·rw [R5 hq] at hr;cases e:env.cells.lookup q.1 with
   |none=>rw [e] at hr;exact h r hr
   |some c=>
    rw [e] at hr;rcases T3.mp hr with rfl|hr
    ·exact e
    ·exact h r hr
  ·rw [R3 hq] at hr;exact h r hr
theorem Yd: ∀ (l:G0 (Str×NameKind)) (cs:G0 (Str×P1)),∀p∈cs,p∈yB l env cs
 | [],cs,p,hp=>hp
 |q::l,cs,p,hp=>by
  rw [wv];refine Yd l _ p ?_
  by_cases hq:q.2= .free
  ·rw [R5 hq];cases e:env.cells.lookup q.1 with
   |none=>exact hp
   |some c=>exact D7 _ hp
  ·rw [R3 hq];exact hp
variable {x:Str}
theorem Ye {c:P1}(hc:env.cells.lookup x=some c): ∀ (l:G0 (Str×NameKind)) (cs:G0 (Str×P1)),(x,K1)∈l->(x,c)∈yB l env cs
 |q::l,cs,h=>by
  rw [wv];rcases T3.mp h with e|h
  ·subst e;rw [R5 rfl,hc];exact Yd l _ _ P6
  ·exact Ye hc l _ h
variable {α:Type}
theorem wU: ∀ {l:G0 (Str×α)} {x:Str} {c:α},l.lookup x=some c->(x,c)∈l
 | [],_,_,h=>by simp at h
 |(n,k)::r,x,c,h=>by
  rw [Q9] at h;cases hx:x==n with
  |true=>
   rw [hx] at h;have e:x=n:=eq_of_beq hx;cases h;subst e;exact P6
  |false=>rw [hx] at h;exact D7 _ (wU h)
theorem Vu: ∀ {l:G0 (Str×α)} {x:Str} {c:α},(x,c)∈l-> ∃c',l.lookup x=some c'
 |(n,k)::r,x,c,h=>by
  rw [Q9];cases hx:x==n with
  |true=>exact⟨_,rfl⟩
  |false=>
   rcases T3.mp h with e|h
   ·cases e;simp at hx
   ·exact Vu h
theorem Vv {l:G0 (Str×NameKind)}{c:P1}(h:(yB l env []).lookup x=some c):env.cells.lookup x=some c:=
 Yc l [] (λ_ z=>nomatch z) (x,c) (wU h)
theorem RE {l:G0 (Str×NameKind)}{c:P1}(hc:env.cells.lookup x=some c)(h:(x,K1)∈l):(yB l env []).lookup x=some c:=by
 obtain⟨c',e⟩:=Vu (Ye hc l [] h);have:=Vv e;rw [hc] at this;cases this;exact e
theorem yV {κ:Type}{f:Str×κ->Str×κ}{g:Str->κ->κ}(hf: ∀n k,f (n,k)=(n,g n k))(x:Str): ∀l:G0 (Str×κ),(l.map f).lookup x=(l.lookup x).map (g x)
 | []=>rfl
 |(n,k)::r=>by
  rw [M7,hf,Q9,Q9,yV hf x r];cases same:x==n with
  |false=>rfl
  |true=>rw [eq_of_beq same];rfl
theorem ze {names:G0 (Str×NameKind)}{k:NameKind}(found:
 (names.map λ(n,k)=>if (k==K1&&env.scope.kind== .function&&env.kindOf n==some .cell) then (n,aT) else (n,k)).lookup x=some k):
  names.lookup x=some k\/names.lookup x=some .free:=by
 rw [yV (g:=λn k=>if (k==K1&&env.scope.kind== .function&&env.kindOf n==some .cell) then .cell else k) (λn k=>by dsimp only;split<;>rfl)] at found;obtain⟨k0,was,now⟩:=F9.mp found;split at now
 ·rename_i c;simp only [C7,beq_iff_eq] at c;exact .inr (by rw [was,c.1.1])
 ·exact .inl (by rw [was,now])
theorem wL: ∀ (names:G0 (Str×NameKind)) (n:G7) (acc:G0 (Str×P1)) (p:Str×P1),p∈V4 n names acc->p∈acc\/(n<=p.2/\(p.1,aT)∈names)
 | [],_,_,_,h=> .inl h
 |(x,k)::r,n,acc,p,h=>by
  unfold V4 at h;split at h
  ·rename_i hk;rcases wL r (n+1) _ p h with z|⟨z1,z2⟩
   ·rcases T3.mp z with e|z
    ·subst e;have:k= .cell:=by simpa using hk
     subst this;exact .inr ⟨P5 _,P6⟩
    ·exact .inl z
   ·exact .inr ⟨by omega,D7 _ z2⟩
  ·rcases wL r n acc p h with z|⟨z1,z2⟩
   ·exact .inl z
   ·exact .inr ⟨z1,D7 _ z2⟩
theorem jU: ∀ (names:G0 (Str×NameKind)) (n:G7) (acc:G0 (Str×P1)),V4 n names acc=V4 n names []++acc
 | [],_,_=>rfl
 |(x,k)::r,n,acc=>by
  unfold V4;split
  ·rw [jU r (n+1) ((x,n)::acc),jU r (n+1) [(x,n)],D4];rfl
  ·exact jU r n acc
theorem ZH (l l':G0 (Str×α))(x:Str):(l++l').lookup x=(match l.lookup x with|some c=>some c|none=>l'.lookup x):=by
 induction l with
 |nil=>rfl
 |cons p l ih=>
  obtain⟨n,c⟩:=p;rw [Z5,Q9,Q9];cases x==n with
  |true=>rfl
  |false=>exact ih
theorem Jz {names:G0 (Str×NameKind)}(here:names.lookup x=some .cell):
 (names.map λ(n,k)=>if (k==K1&&env.scope.kind== .function&&env.kindOf n==some .cell) then (n,aT) else (n,k)).lookup x=some .cell:=by
 rw [yV (g:=λn k=>if (k==K1&&env.scope.kind== .function&&env.kindOf n==some .cell) then .cell else k) (λn k=>by dsimp only;split<;>rfl),here];simp
section
variable {M:qX}{A:B2}{E:G3->G6->Prop}{s:G6}
theorem Dh (h:L8)(names:G0 (Str×NameKind)):(∀n c,(n,c)∈V4 h.objs.size names []->(pushCells h names).IsCell c none/\h.objs.size<=c)/\(V4 h.objs.size names []).Pairwise λx y=>x.2≠y.2:=
 have laid:=cellsFrom_ok names h h.objs.size [] ⟨by simp,.nil⟩ (P5 _)
 ⟨laid.empty,laid.apart⟩
theorem Xn {scope:U2}{globals:P1}{closure:G0 (Str×P1)}{qual:Str}{func:P7 P1}{code:G3}{outer:Env}{builtins:P1}{Q:Env->G6->Prop}
 (hQ: ∀h',h'.Ns s.heap.objs.size (λ_=>none)->(∀b o,s.heap.get? b=some o->h'.get? b=some o)->(∀n c,(n,c)∈V4 (s.heap.objs.size+1) scope.names []->h'.IsCell c none/\s.heap.objs.size+1<=c)->
  ((V4 (s.heap.objs.size+1) scope.names []).Pairwise λx y=>x.2≠y.2)->
  Q (newEnv scope s.heap.objs.size globals (V4 (s.heap.objs.size+1) scope.names closure) qual func code (some outer) builtins) {s with heap:=h'}):
 D9 M A (sM scope globals closure [] qual func code (some outer) builtins) Q E s:=by
 have names:=Dh (s.heap.push {cls:= .type "dict",data:= .dict #[]}) scope.names;have first:(s.heap.push {cls:= .type "dict",data:= .dict #[]}).objs.size=s.heap.objs.size+1:=b8 ..
 rw [first] at names;unfold sM;refine wpAny_bind (wpAny_alloc (wpAny_bind (wpAny_layCells _ (λn k cs=>rfl) _ _ _ _ ?_)));simp only [Option.isSome_some,i3];rw [first];exact wpAny_bind (G8 (G8 (hQ _ ((Heap.Ns.new _ _).keeps (rE _ _)) (λb o here=>rE _ _ b o (P3 _ here)) names.1 names.2)))
end
def jO (X:Cx)(scope:U2)(C:P1):G0 (Str×P1):=V4 (C+1) scope.names (yB scope.names X.env [])
def yW (X:Cx)(scope:U2)(C:P1)(s₀:G6)(H₀:Hp)(ex:G0 P1):Cx:=
 {X with s₀:=s₀,H₀:=H₀,env:=sN scope (jO X scope C) C X.env,outer:=X.stack,ex:=ex,fn:=λx=>scope.names.lookup x==some .cell,pn:= [],xe:=λ_ _=>False}
def jh (X:Cx)(scope:U2)(X':Cx):Prop:= ∃C s₀ H₀ ex,X'=yW X scope C s₀ H₀ ex
structure Ì (X:Cx)(scope:U2)(js:G0 G7):Prop where
 kind:scope.kind= .function
 locs: ∀p∈scope.names,p.2= .local->scope.names.lookup p.1=some .local
 cels: ∀p∈scope.names,p.2= .cell->scope.names.lookup p.1=some .cell
 free: ∀p∈scope.names,p.2= .free->X.env.scope.names.lookup p.1=some .cell\/X.env.scope.names.lookup p.1=some .free
 js: ∀ (i:G7) (x:Str),X.N[i]? =some x->(scope.names.lookup x=some .local\/scope.names.lookup x=some .cell)->i∈js
variable {js:G0 G7}
theorem yL (S:Ì X scope js){C:P1}{x:Str}{c:P1}(h:(jO X scope C).lookup x=some c):
 (scope.names.lookup x≠some .cell/\X.env.cells.lookup x=some c)\/(scope.names.lookup x=some .cell/\(x,c)∈V4 (C+1) scope.names []):=by
 unfold jO at h;rw [jU,ZH] at h;cases e:(V4 (C+1) scope.names []).lookup x with
 |some d=>
  rw [e] at h;cases h;have m:=wU e;rcases wL _ _ _ _ m with z|⟨_,z⟩
  ·exact absurd z (by simp)
  ·exact .inr ⟨S.cels _ z rfl,m⟩
 |none=>
  rw [e] at h;refine .inl ⟨λz=> ?_,Vv h⟩;obtain⟨d,hd⟩:=WM (sc:=scope) (n:=C+1) z;rw [e] at hd;cases hd
theorem Wt (S:Ì X scope js){C:P1}{x:Str}{c:P1}(hc:X.env.cells.lookup x=some c)(h:(x,K1)∈scope.names)(hn:scope.names.lookup x≠some .cell):(jO X scope C).lookup x=some c:=by
 unfold jO;rw [jU,ZH];cases e:(V4 (C+1) scope.names []).lookup x with
 |some d=>
  rcases wL _ _ _ _ (wU e) with z|⟨_,z⟩
  ·exact absurd z (by simp)
  ·exact absurd (S.cels _ z rfl) hn
 |none=>exact RE hc h
def wc:G0 G7->St->St
 | [],σ=>σ
 |j::js,σ=>wc js (σ.set j none)
theorem Vw: ∀ (js:G0 G7) (σ:St),(wc js σ).length=σ.length
 | [],_=>rfl
 |j::js,σ=>by rw [wc,Vw js];simp
theorem Yf: ∀ (js:G0 G7) (σ:St) (i:G7) (v:V),(wc js σ)[i]? =some (some v)->σ[i]? =some (some v)
 | [],_,_,_,h=>h
 |j::js,σ,i,v,h=>by
  have h1:=Yf js _ i v h
  by_cases e:i=j
  ·subst e;rw [dS] at h1;simp at h1
  ·rwa [J3 (E4 e)] at h1
theorem zQ: ∀ (js:G0 G7) (σ:St) (i:G7) (v:V),i∈js-> ¬ (wc js σ)[i]? =some (some v)
 |j::js,σ,i,v,hm,h=>by
  rcases T3.mp hm with rfl|hm
  ·have h1:=Yf js _ i v h;rw [dS] at h1;simp at h1
  ·exact zQ js _ i v hm h
variable {H:Hp}{a:P1}{o:HO}
theorem Ě.track {P:T7}{h:L8}(x:Ě P w H h)(hn:H a=none)(new:Ö P w (upd H a o) h a o):Ě P w (upd H a o) h:=λb u e=>by
 by_cases hb:b=a
 ·subst hb;rw [jw] at e;cases e;exact new
 ·rw [jt hb] at e;exact(x b u e).stay (λc v _ q=>q) (λc q=>by rw [jt (jp q hn)];exact q) λc xs q=>by rw [jt (jp q hn)];exact q
def Agree (σ Â:St):Prop:=Â.length=σ.length/\ ∀ (i:G7) (v:V),σ[i]? =some (some v)->Â[i]? =some (some v)
variable {σ:St}
theorem Agree.set {j:G7}(v:V)(h: ∀u,¬σ[j]? =some (some u)):Agree σ (σ.set j (some v)):=⟨by simp,λi u q=>by
 by_cases e:j=i
 ·subst e;exact absurd q (h u)
 ·rw [J3 e];exact q⟩
theorem Agree.trans {a b c:St}(x:Agree a b)(y:Agree b c):Agree a c:=⟨y.1.trans x.1,λi v h=>y.2 i v (x.2 i v h)⟩
def ē (X:Cx)(ifs:G0 T8)(t:TT):Prop:=
 ∀ (À:G0 (P1×Obj)) (s:G6) (σ:St) (H:Hp) (Q:N2->Hp->Prop),Inv X À σ H s->t σ H Q->
  D9 (S2 X.prog X.w) X.A (forIn ifs true λc r=>if r=true then do let ok <-isTrue c X.env (A0 c X.env);pure (bI ok) else pure (bI r)) (TP X À σ Q) X.xe s
def kO:TT:=λ_ H Q=>Q true H
theorem LU:ē X [] kO:=λ_ _ _ H _ I h=>wpAny_tests_nil ⟨H,I,h⟩
theorem LV {c:T8}{t:TT}(hc:PT X c t):ē X [c] t:=λÀ s σ H Q I h=>wpAny_tests_one (hc À s σ H Q I h)
def Yg (iter target:T8)(ifs:G0 T8)(it:G3)(env:Env)(act:Sem Unit)(nxt:Code):Sem dI:=do
 cV iter.pos
 match <-gS it with
 |none=>pure (.done .next)
 |some v=>
  aJ target it v
  cX target env v
  let mut ok:=true
  for c in ifs do
   if ok then ok <-isTrue c env (A0 c env)
  if ok then act
  again nxt
abbrev TM:=St->Hp->G0 V->(G0 V->Hp->Prop)->Prop
def TZ (X:Cx)(D:P1)(act:Sem Unit)(t:TM):Prop:=
 ∀ (À:G0 (P1×Obj)) (s:G6) (σ:St) (H:Hp) (ys:G0 V) (us:G0 G3) (Q:G0 V->Hp->Prop),Inv X ([(D,fT us)]++À) σ H s->È ys us->ys.length<=sizeLine->D∈X.ex->(∀x c,X.env.cells.lookup x=some c->c≠D)->(∀p∈X.pn++À,p.1≠D)->t σ H ys Q->
  D9 (S2 X.prog X.w) X.A act (λ_ s'=> ∃ý Ÿ H',È ý Ÿ/\Inv X ([(D,fT Ÿ)]++À) σ H' s'/\Q ý H') (λ_ _=>False) s
def EN (te:TE):TM:=λσ H ys Q=>te σ H λy H1=>Q (ys++ [y]) H1
def Vx (elt:T8)(env:Env)(acc:G3):Sem Unit:=do let _ <-call (.builtin "list.append") [acc,<-A0 elt env]
variable {elt:T8}{te:TE}
theorem Ud {D:P1}(hx:X.xe=λ_ _=>False)(he:PE X elt te):TZ X D (Vx elt X.env (.ref D)) (EN te):=by
 intro À s σ H ys us Q I hv hz DX cD pD h;have q:=he _ s σ H _ I h;rw [hx] at q;unfold Vx;refine wpAny_bind (M1 q (λy s1 ⟨yv,H1,I1,r1,q1⟩=> ?_) λ_ _ z=>z);have zD:=I1.pin (D,fT us) (D3 _ (B7 _ P6));refine wpAny_bind (append_at (its:=us.toArray) (n:=us.length) zD.1 (λh11 X1i X1j=>G8 ?_) (by rw [D8,<-hv.length];exact hz));have X0G:Inv X À σ H1 s1:=I1.pins_of λp hp=>I1.pin p (D3 _ (D3 _ hp))
 have I11:Inv X À σ H1 {s1 with heap:=h11}:=X0G.turned (t':=s1.toks) (it:=D) (λb o hb e=>X1i.extBut b o hb e) zD.2.1 zD.2.2.1 (.inl DX) cD pD;have eD:h11.get? D=some (fT (us++ [y])):=by rw [X1j];exact congrArg some (LCg.lst_snoc us y)
 refine⟨ys++ [yv],us++ [y],H1,hv.append (.cons r1 .nil),I11.pins_of λp hp=> ?_,q1⟩;rcases D5.mp hp with z|z
 ·rcases G9.mp z with rfl
  exact⟨eD,zD.2.1,zD.2.2.1,zD.2.2.2.1,λv z=>by cases z⟩
 ·exact I11.pin p (D3 _ z)
def Ha (js : G0 G7) (wi : TI) (g : TG) (tt : TT) (tm : TM) : TE := fun σ H Q => wi σ H fun J H1 =>
  ∃ W : G7 → G7 → G0 V → Hp → Prop, (∃ m, W 0 m [] H1) ∧ ∀ i m ys H, W i m ys H → ys.length ≤ sizeLine ∧
    ((J.stop i H ∧ ∀ p, H p = none → Q (.ref p) (upd H p (.lst ys))) ∨
     (J.go i H ∧ ∀ x H', J.yld i H x H' → g x (wc js σ) H' fun Ý H2 => Agree (wc js σ) Ý ∧ tt Ý H2 fun b H3 =>
        if b = true then tm Ý H3 ys fun ý H4 => ∃ m', m' < m ∧ W (i + 1) m' ý H4 else ∃ m', m' < m ∧ W (i + 1) m' ys H3))
def tLC (js:G0 G7)(wi:TI)(g:TG)(tt:TT)(te:TE):TE:=Ha js wi g tt (EN te)
variable {e iter:T8}{ifs:G0 T8}
theorem Xo {A:B2}{R:sF->G6->Prop}{s:G6}{target:T8}{depth:G7}{it acc:G3}{act:Sem Unit}(I:G7->G6->Prop)
 (hq:(Code.compLoop e depth it acc env).quiet=true)(hd:(S2 prog w).den (.compLoop e depth it acc env)=(lD e depth it acc env).onRaise (λx=>do noteFrame x env;rF x))(hA:A.under (.compLoop e depth it acc env)=A)
 (heq:lD e depth it acc env=Yg iter target ifs it env act (.compLoop e depth it acc env))
 (turn: ∀n s,I n s->D9 (S2 prog w) A (gS it) (λr s₁=>match r with
  |none=>R (.ok .next) s₁
  |some v=>D9 (S2 prog w) A (aJ target it v) (λ_ s₁=>D9 (S2 prog w) A (cX target env v) (λ_ s₂=>
   D9 (S2 prog w) A (forIn ifs true λc r=>if r=true then do let ok <-PySem.isTrue c env (A0 c env);pure (bI ok) else pure (bI r)) (λok s₃=>
    if ok=true then D9 (S2 prog w) A act (λ_ X01=> ∃m,m<n/\I m X01) (λ_ _=>False) s₃
    else ∃m,m<n/\I m s₃) (λ_ _=>False) s₂) (λ_ _=>False) s₁) (λ_ _=>False) s₁) (λ_ _=>False) s)
 (n:G7)(h:I n s):
 cE (S2 prog w) A (.compLoop e depth it acc env) R s:=by
 refine codeAny_loop hq I (λn s hI=> ?_) n h;rw [hd,hA];refine wpAny_noted ?_;rw [heq];unfold Yg;refine wpAny_bind (W4 (wpAny_bind (M1 (turn n s hI) (λr s₁ h₁=> ?_) λ_ _ h'=>h'.elim)));cases r with
 |none=>exact G8 h₁
 |some v=>
  refine wpAny_bind (M1 h₁ (λ_ s₁ h₁=> ?_) λ_ _ h'=>h'.elim);refine wpAny_bind (M1 h₁ (λ_ s₂ õ=>wpAny_bind (M1 õ (λok s₃ ĝ=> ?_) λ_ _ h'=>h'.elim)) λ_ _ h'=>h'.elim);cases ok with
  |false=>exact G8 ⟨rfl,ĝ⟩
  |true=>exact wpAny_bind (M1 ĝ (λ_ X01 X1k=>G8 ⟨rfl,X1k⟩) λ_ _ h'=>h'.elim)
abbrev TMG (α:Type):=St->Hp->α->(α->Hp->Prop)->Prop
def EO {α:Type}(X:Cx)(Fit:α->Prop)(Acc:α->Obj->Prop)(D:P1)(act:Sem Unit)(t:TMG α):Prop:=
 ∀ (À:G0 (P1×Obj)) (s:G6) (σ:St) (H:Hp) (ys:α) (o:Obj) (Q:α->Hp->Prop),Inv X ([(D,o)]++À) σ H s->Fit ys->Acc ys o->D∈X.ex->(∀x c,X.env.cells.lookup x=some c->c≠D)->(∀p∈X.pn++À,p.1≠D)->t σ H ys Q->
  D9 (S2 X.prog X.w) X.A act (λ_ s'=> ∃ý o' H',Acc ý o'/\Inv X ([(D,o')]++À) σ H' s'/\Q ý H') (λ_ _=>False) s
def tCG {α : Type} (Fit : α → Prop) (Acc : α → Obj → Prop) (ho : α → Obj → P1 → HO) (a0 : α) (js : G0 G7) (wi : TI) (g : TG) (tt : TT) (tm : TMG α) : TE := fun σ H Q => wi σ H fun J H1 =>
  ∃ W : G7 → G7 → α → Hp → Prop, (∃ m, W 0 m a0 H1) ∧ ∀ i m ys H, W i m ys H → Fit ys ∧
    ((J.stop i H ∧ ∀ p o, H p = none → Acc ys o → Q (.ref p) (upd H p (ho ys o p))) ∨
     (J.go i H ∧ ∀ x H', J.yld i H x H' → g x (wc js σ) H' fun Ý H2 => Agree (wc js σ) Ý ∧ tt Ý H2 fun b H3 =>
        if b = true then tm Ý H3 ys fun ý H4 => ∃ m', m' < m ∧ W (i + 1) m' ý H4 else ∃ m', m' < m ∧ W (i + 1) m' ys H3))
structure δ (P:T7)(w:C1)(e:T8)(g:Z4)(rest:G0 Z4)(mk:Sem G3)(o0:Obj):Prop where
 cl:clausesOf e=g::rest
 quiet: ∀it acc env,(Code.compLoop e 0 it acc env).quiet=true
 den: ∀it acc env,(S2 P w).den (.compLoop e 0 it acc env)=(lD e 0 it acc env).onRaise (λx=>do noteFrame x env;rF x)
 under: ∀A it acc env,Around.under A (.compLoop e 0 it acc env)=A
 start: ∀ {A:B2} {R:sF->G6->Prop} {s:G6} {it acc env},cE (S2 P w) A (.compLoop e 0 it acc env) R s->D9 (S2 P w) A (mZ it) (λit' s'=>cE (S2 P w) A (.compLoop e 0 it' acc env) R s') (notedBy (S2 P w) A env λx s'=>R (.error x) s') s->cE (S2 P w) A (.compStart e 0 it acc env) R s
 live:o0.isFreed=false
 made: ∀ {A:B2} {Q:G3->G6->Prop} {E:G3->G6->Prop} {s:G6},Q (.ref s.heap.objs.size) {s with heap:=s.heap.push o0}->D9 (S2 P w) A mk Q E s
variable {tg:T8}{rest:G0 Z4}{wi:TI}{g:TG}{tt:TT}
theorem RF {α:Type}{Fit:α->Prop}{Acc:α->Obj->Prop}{ho:α->Obj->P1->HO}{a0:α}{mk:Sem G3}{o0:Obj}{X0H:Pos}{tm:TMG α}{use:P7 (G3->Sem Unit)}{Qv:G3->G6->Prop}(hc:X.calm=true)(S:Ì X scope js)(hi:PI X tg iter wi)
 (ck:δ X.prog X.w e ⟨tg,iter,ifs,0⟩ rest mk o0)(X02:Acc a0 o0)(X0p: ∀a o,Acc a o-> ∀v,o.data≠ .cell v)(okO: ∀ {a o H h p},(p==Q6)=false->Fit a->Acc a o->h.get? p=some o->Ö X.prog X.w H h p (ho a o p))
 (hg: ∀X',jh X scope X'->PG X' tg g)(ht: ∀X',jh X scope X'->ē X' ifs tt)
 (act:Env->G3->Sem Unit)(Ş: ∀it acc env,lD e 0 it acc env=Yg iter tg ifs it env (act env acc) (.compLoop e 0 it acc env))(he: ∀X',jh X scope X'-> ∀D,EO X' Fit Acc D (act X'.env (.ref D)) tm)
 (hs: ∀x,T5 iter X.env x=pure x){À:G0 (P1×Obj)}{s:G6}{σ:St}{H:Hp}{Q:VK}(I:Inv X À σ H s)(h:tCG Fit Acc ho a0 js wi g tt tm σ H Q)
 (fin: ∀ (D C:P1) (H':Hp) (s':G6) (m:Str->P7 G3),s'.heap.Ns C m->(∀h',Q2 C s'.heap h'->Inv X À σ H' {s' with heap:=h'})->H' C=none->C≠X.env.locals->C ∉ X.fs->X.s₀.heap.objs.size<=C->(∀x c,X.env.cells.lookup x=some c->c≠C)->(∀p∈X.pn++À,p.1≠C)->
  Q (.ref D) H'->y3 (S2 X.prog X.w) X.A X.xe use Qv (.ref D) C (.ok .next) s'):
 D9 (S2 X.prog X.w) X.A (fV e scope X.env X0H mk false (A0 iter X.env) use) Qv X.xe s:=by
 have X0I:=Uc (scope:=scope) (env:=X.env) (λp hp e=>I.ok.has p.1 (S.free p hp e));refine wpAny_comprehension_free (use:=use) ck.cl hs X0I S.kind S.locs (Ô (hi À s σ H _ I h) λv s1 h1=>Ô h1 λitv s2 h2=> ?_);obtain⟨it,fp,tn,J,H2,e,I2,T,Ł,f2,W,⟨m0,w0⟩,turn⟩:=h2;subst e;refine ck.made (Xn (λh₁ ŏ ŭ Ą Ő=> ?_));dsimp only at ŏ ŭ Ą Ő ⊢;generalize hD:s2.heap.objs.size=D;generalize hH3:s2.heap.push o0=h3 at ŏ ŭ Ą Ő ⊢;have sz3:h3.objs.size=D+1:=by rw [<-hH3,b8,hD]
 have up3: ∀b o,s2.heap.get? b=some o->h3.get? b=some o:=λb o e=>hH3 ▸ P3 _ e
 have I3:Inv X À σ H2 {s2 with heap:=h3}:=I2.kept (t':=s2.toks) up3;have hD3:h3.get? D=some o0:=by rw [<-hH3,<-hD];exact S4 _ ck.live
 have fD:Rb X À H2 D:=I2.fpOk (by rw [hD];exact P5 _) (I2.hok.fresh (by rw [hD];exact P5 _));have obf: ∀b∈fp,∃o,s2.heap.get? b=some o/\ ∀v,o.data≠ .cell v:=T.obj _ _ Ł;have ltf: ∀b∈fp,b<D:=λb hb=>by obtain⟨o,e,_⟩:=obf b hb;rw [<-hD];exact R7 e
 generalize hC:h3.objs.size=C at ŏ Ą Ő ⊢;have CD:C=D+1:=hC.symm.trans sz3;have upC: ∀b o,h3.get? b=some o->h₁.get? b=some o:=ŭ;generalize hX:yW X scope C {s2 with heap:=h3} H2 (fp++ [D])=X';have iX:jh X scope X':=⟨C,_,_,_,hX.symm⟩;have hf: ∀b∈fp++ [D],Rb X À H2 b:=λb hb=>(D5.mp hb).elim (f2 b) λz=>by rw [G9.mp z];exact fD
 have cl: ∀x c,(jO X scope C).lookup x=some c->X.env.cells.lookup x=some c\/C<c:=λx c e=>by
  rcases yL S e with ⟨_,z⟩|⟨_,z⟩
  ·exact .inl z
  ·exact .inr (dU (Ą x c z).2)
 have olt: ∀x c,X.env.cells.lookup x=some c->c<C:=λx c e=>by obtain⟨v,q⟩:=I3.cell x c e;rw [<-hC];exact q.lt
 have ltb: ∀b∈fp++ [D],b<C:=λb hb=>(D5.mp hb).elim (λz=>by have:=ltf b z;rw [CD];exact i4 this) λz=>by rw [G9.mp z,CD];exact Z6 _
 have okX:X'.Ok:=by
  subst hX;refine⟨I.ok.mod,S.kind,I.ok.glob,I.ok.blt,Q4 hC,λx y c e1 e2=> ?_,λx hx=> ?_,λx c z e=> ?_,I.ok.hd,I.ok.frames,.inl rfl,λb hb=>⟨N3 (ltb b hb),λx c e=>(cl x c e).elim (λz=>(hf b hb).2.2.2.2.1 x c z) λz=>U5 (cH (ltb b hb) z)⟩,
   I3.bs,S5 I.ok.bsz I3.sz,λb o e hb=> ?_,λb hb z=> ?_,I3.stack,I3.stkFree⟩
  ·rcases yL S e1 with ⟨_,z1⟩|⟨_,z1⟩<;>rcases yL S e2 with ⟨_,z2⟩|⟨_,z2⟩
   ·exact I.ok.inj x y c z1 z2
   ·exact absurd (cH (olt x c z1) (dU (Ą y c z2).2)) (A4 _)
   ·exact absurd (cH (olt y c z2) (dU (Ą x c z1).2)) (A4 _)
   ·exact u7 Ő z1 z2
  ·have own:scope.names.lookup x=some .cell-> ∃c,(jO X scope C).lookup x=some c:=λz=>by
    obtain⟨c,hc⟩:=WM (sc:=scope) (n:=C+1) z;exact⟨c,by unfold jO;rw [jU,ZH,hc]⟩
   have shr:scope.names.lookup x=some .free-> ∃c,(jO X scope C).lookup x=some c:=λz=>by
    have fm:=wU z;obtain⟨c,hc⟩:=I.ok.has x (S.free _ fm rfl);exact⟨c,Wt S hc fm (by rw [z];decide)⟩
   rcases hx with hx|hx
   ·rcases ze (env:=X.env) hx with z|z
    ·exact own z
    ·exact shr z
   ·rcases ze (env:=X.env) hx with z|z<;>exact shr z
  ·have z':scope.names.lookup x=some .cell:=by
    have z2:(scope.names.lookup x==some aT)=true:=z;simpa using z2
   rcases yL S e with ⟨n,_⟩|⟨_,m⟩
   ·exact absurd z' n
   ·show h3.objs.size<=c;rw [hC];exact M5 (dU (Ą x c m).2)
  ·rcases (hf b hb).2.2.2.1 with z|z
   ·exact I.ok.noex b o e z
   ·exact absurd (N7 (R7 e) (S5 I.ok.bsz z)) (A4 _)
  ·rcases T3.mp (I.stkSub b z) with q|q
   ·exact(hf b hb).2.1 q
   ·exact(hf b hb).2.2.1 q
 -- Ś block's first state
 have I4:Inv X' [(D,o0)] (wc js σ) H2 {s2 with heap:=h₁}:=by
  subst hX;have hDC:D≠C:=by rw [CD];exact N3 (Z6 _)
  refine⟨okX,rfl,I2.bare,Un.kept (λb u e=>upC b u e),⟨_,ŏ,λi x v e1 e2 e3=> ?_⟩,λx c e=> ?_,I3.hok.fresh (Q4 hC),λx c e=>(cl x c e).elim (λz=>I2.freeC x c z) (λz=>I3.hok.fresh (by rw [<-hC] at z;exact M5 z)),λp hp=> ?_,I3.hok.kept upC,(Vw js σ).trans I2.len⟩
  ·have fr:scope.names.lookup x=some .free:=by
    rcases e3 with e3|e3|e3
    ·rcases ze (env:=X.env) e3 with z|z
     ·exact absurd e2 (zQ js σ i v (S.js i x e1 (.inl z)))
     ·exact z
    ·rcases ze (env:=X.env) e3 with z|z
     ·exact absurd e2 (zQ js σ i v (S.js i x e1 (.inr z)))
     ·exact z
    ·rcases ze (env:=X.env) e3 with z|z<;>exact z
   have fm:=wU fr;obtain⟨m,hm,hl⟩:=I2.loc;have vis:=S.free _ fm rfl;obtain⟨u,r,lk⟩:=hl i x v e1 (Yf js σ i v e2) (.inr vis);have kd:(relabel scope X.env).names.lookup x=some .cell\/(relabel scope X.env).names.lookup x=some .free:=by
    rcases e3 with e3|e3|e3
    ·rcases ze (env:=X.env) e3 with z|z
     ·rw [fr] at z;cases z
     ·exfalso;have z2:=e3
      -- a local's kind stays
      exact absurd e2 (zQ js σ i v (S.js i x e1 (.inl (by
       have q: ∀ (l:G0 (Str×NameKind)),(l.map λ(n,k)=>if (k==K1&&X.env.scope.kind== .function&&X.env.kindOf n==some .cell) then (n,aT) else (n,k)).lookup x=some .local->l.lookup x=some .local:=by
        intro l
        induction l with
        |nil=>intro h;simp at h
        |cons p l ih=>
         obtain⟨n,k'⟩:=p;intro h;have h':List.lookup x ((if (k'==K1&&X.env.scope.kind== .function&&X.env.kindOf n==some .cell)=true then (n,aT) else (n,k'))::(l.map λ(n,k)=>if (k==K1&&X.env.scope.kind== .function&&X.env.kindOf n==some .cell) then (n,aT) else (n,k)))=some .local:=h;rw [Q9]
         by_cases hc:(k'==K1&&X.env.scope.kind== .function&&X.env.kindOf n==some .cell)=true
         ·rw [R5 hc,Q9] at h';cases hx:x==n with
          |true=>rw [hx] at h';cases h'
          |false=>rw [hx] at h';exact ih h'
         ·rw [R3 hc,Q9] at h';cases hx:x==n with
          |true=>rw [hx] at h';exact h'
          |false=>rw [hx] at h';exact ih h'
       exact q _ z2))))
    ·exact .inl e3
    ·exact .inr e3
   rcases lk with ⟨k,_⟩|⟨_,c,hc,ŋ⟩
   ·have k':X.env.scope.names.lookup x=some .local:=k;rcases vis with z|z<;>(rw [k'] at z;cases z)
   ·refine⟨u,r,.inr ⟨kd,c,Wt S hc fm (by rw [fr];decide),?_⟩⟩;obtain⟨o,ho,hd⟩:=ŋ;exact⟨o,upC _ _ (up3 _ _ ho),hd⟩
  ·rcases yL S e with ⟨_,z⟩|⟨_,z⟩
   ·obtain⟨v,o,ho,hd⟩:=I2.cell x c z;exact⟨v,o,upC _ _ (up3 _ _ ho),hd⟩
   ·exact⟨none,(Ą x c z).1⟩
  ·have hp':p∈ [(D,o0)]:=hp;rcases G9.mp hp' with rfl
   refine⟨upC _ _ hD3,fD.1,hDC,λz=> ?_,X0p _ _ X02⟩;rcases T3.mp (I.stkSub D z) with q|q
   ·exact fD.2.1 q
   ·exact fD.2.2.1 q
 have st4:tn 0 h₁:=T.keep _ _ _ Ł λb _ o e=>upC _ _ (up3 _ _ e)
 have eA:X'.A=X.A:=by rw [<-hX];rfl
 have eP:X'.prog=X.prog:=by rw [<-hX];rfl
 have eW:X'.w=X.w:=by rw [<-hX];rfl
 have eK:X'.K=X.K:=by rw [<-hX];rfl
 have eC:X'.calm=true:=by rw [<-hX];exact hc
 have eV:X'.env=sN scope (jO X scope C) C X.env:=by rw [<-hX];rfl
 have eE:X'.xe=λ_ _=>False:=by rw [<-hX];rfl
 -- X0t stays true of Ś ū objects
 have Ĳ: ∀ {us:Obj} {H':Hp},(∀b∈fp,H' b=none)-> ∀b∈fp,Rb X' [(D,us)] H' b:=λ{us H'} hn b hb=>by
  have q:=hf b (B7 _ hb);subst hX;refine⟨hn b hb,N3 (ltb b (B7 _ hb)),λz=> ?_,.inl (B7 _ hb),λx c e=>(cl x c e).elim (λz=>q.2.2.2.2.1 x c z) (λz=>U5 (cH (ltb b (B7 _ hb)) z)),λp hp=> ?_⟩
  ·rcases T3.mp (I.stkSub b z) with r|r
   ·exact q.2.1 r
   ·exact q.2.2.1 r
  ·have hp':p∈ [(D,us)]:=hp;rcases G9.mp hp' with rfl
   exact U5 (ltf b hb)
 have loop: ∀s₃:G6,s₃= {s2 with heap:=h₁}->
  cE (S2 X.prog X.w) X.A (.compLoop e 0 (.ref it) (.ref D) (sN scope (jO X scope C) C X.env))
   (y3 (S2 X.prog X.w) X.A X.xe use Qv (.ref D) C) s₃:=by
  rintro s₃ rfl;refine Xo (act:=act (sN scope (jO X scope C) C X.env) (.ref D)) (λn s'=> ∃i ys us H',Acc ys us/\Inv X' [(D,us)] (wc js σ) H' s'/\tn i s'.heap/\(∀b∈fp,H' b=none)/\W i n ys H') (ck.quiet _ _ _) (ck.den _ _ _) (ck.under _ _ _ _) (Ş _ _ _) ?_ m0
   ⟨0,a0,o0,H2,X02,I4,st4,λb hb=>(f2 b hb).1,w0⟩
  rintro n s5 ⟨i,ys,us,H5,hv5,I5,st5,fr5,w5⟩;obtain⟨fZ,tr⟩:=turn i n ys H5 w5;rcases tr with ⟨stop,qn⟩|⟨go,step⟩
  ·have q:=T.done X' eP eW eK eC i _ s5 _ H5 (λ_ _=>False) I5 (Ĳ fr5) st5 stop;rw [eA] at q;refine M1 q (λr s6 ⟨hr,I6⟩=> ?_) λ_ _ z=>z
   subst hr;obtain⟨m6,hm6,_⟩:=I6.loc;rw [eV] at hm6;have zD:=I6.pin (D,us) (D3 _ P6);have HD:H5 D=none:=zD.2.1;have oD:s6.heap.get? D=some (us):=zD.1;have hDC:D≠C:=by rw [CD];exact N3 (Z6 _)
   have HC:H5 C=none:=by have z:=I6.free;rw [eV] at z;exact z
   have B:=I6.base;have os6:s6.os=s2.os:=by have z:=I6.os;rw [<-hX] at z;exact z
   have Bu:Un (Η X.stack) (fp++ [D]) H2 H5 h3 s6.heap:=by rw [<-hX] at B;exact B
   have neC: ∀b o,h3.get? b=some o->b≠C:=λb o e=>by rw [<-hC];exact N3 (R7 e)
   refine fin D C (upd H5 D (ho ys us D)) s6 m6 hm6 (λh' hs'=> ?_) (by rw [jt (E4 hDC)];exact HC) ?_ ?_ ?_ (λx c e=>N3 (olt x c e)) ?_ (qn D us HD hv5)
   ·have hk5:Ě X.prog X.w H5 h':=λb u e=>by
     have z:=I6.hok b u e;rw [eP,eW] at z;refine z.stay (λc v hc q=>hs'.extBut c v ?_ q) (λ_ q=>q) λ_ _ q=>q
     rcases hc with rfl|hc
     ·exact jp e HC
     ·exact jp hc HC
    refine I3.call' (ch:=fp++ [D]) os6 ⟨λb o e n hb hx=> ?_,λb o e n hb hx=> ?_,λb o e n hx=> ?_,λb o e hx=> ?_,λb xs e=> ?_,λb o u e=> ?_,λb ps e=> ?_⟩ (hk5.track HD ?_) I6.bare λb hb=> ?_
    ·exact hs'.extBut b o (neC b o e) (Bu.keep b o e n hb hx)
    ·obtain⟨sl,q⟩:=Bu.slot b o e n hb hx;exact⟨sl,hs'.extBut b _ (neC b o e) q⟩
    ·rw [jt λz=>hx (by rw [z];exact D3 _ P6)];exact Bu.free b o e n hx
    ·obtain⟨o',q⟩:=Bu.there b o e hx;exact⟨o',hs'.extBut b _ (neC b o e) q⟩
    ·have z:=Bu.tups b xs e;rw [jt (jp z HD)];exact z
    ·have z:=Bu.frzs b o u e;rw [jt (jp z HD)];exact z
    ·obtain⟨more,z⟩:=Bu.tbls b ps e;exact⟨more,by rw [jt (jp z HD)];exact z⟩
    ·exact okO (beq_eq_false_iff_ne.mpr (by rw [<-hD];exact E4 (N3 (cH (show Q6<O6 by decide) (I2.mod.glob.keeps I2.bk).lt)))) fZ hv5 (hs'.extBut D _ hDC oD)
    ·have q:=hf b hb;exact⟨q.2.2.2.1,q.2.1,q.2.2.2.2.1,q.2.2.2.2.2⟩
   ·rw [<-hC];exact U5 I3.lt
   ·exact I3.nofs (Q4 hC)
   ·rw [<-hC];exact I3.sz
   ·intro p hp;have:=(I3.pin p hp).1;rw [<-hC];exact N3 (R7 this)
  ·have q:=T.item X' eP eW eK eC i _ s5 _ H5 (λ_ _=>False) I5 (Ĳ fr5) st5 go;rw [eA] at q;refine M1 q (λr s6 ⟨u,hr,h6⟩=> ?_) λ_ _ z=>z
   subst hr;refine M1 h6 (λ_ s7 ⟨x,H7,I7,r7,y7,st7,fr7⟩=> ?_) λ_ _ z=>z
   have I7':=I7.pinned (Ĳ fr7) (T.obj _ _ st7);have q7:=hg X' iX _ s7 _ H7 x u _ I7' r7 (step x H7 y7);rw [eP,eW,eA,eV,eE] at q7;refine M1 q7 (λ_ s8 ⟨σ8,H8,I8,ag8,q8⟩=> ?_) λ_ _ z=>z
   have q9:=ht X' iX _ s8 σ8 H8 _ I8 q8;rw [eP,eW,eA,eV,eE] at q9;refine M1 q9 (λok s9 ⟨H9,I9,q9⟩=> ?_) λ_ _ z=>z
   have ş: ∀ {Â:St} {H':Hp} {s':G6} {us:Obj},Inv X' ([(D,us)]++Jr fp s7.heap) Â H' s'->tn (i+1) s'.heap/\ ∀b∈fp,H' b=none:=λ{Â H' s' us} I'=>
    ⟨T.keep _ _ _ st7 λb hb o e=>(I'.pin (b,o) (D3 _ (D3 _ (wT hb e)))).1,λb hb=>by
     obtain⟨o,e,_⟩:=T.obj _ _ st7 b hb;exact(I'.pin (b,o) (D3 _ (D3 _ (wT hb e)))).2.1⟩
   cases ok with
   |false=>
    have q9: ∃m',m'<n/\W (i+1) m' ys H9:=q9;obtain⟨m',hm,w9⟩:=q9;obtain⟨t9,f9⟩:=ş I9;exact⟨m',hm,i+1,ys,us,H9,hv5,(I9.unpinned).weak ag8.1.symm ag8.2,t9,f9,w9⟩
   |true=>
    have q9:tm σ8 H9 ys λý H4=> ∃m',m'<n/\W (i+1) m' ý H4:=q9
    have DX:D∈X'.ex:=by rw [<-hX];exact D3 _ P6
    have pD: ∀p∈X'.pn++Jr fp s7.heap,p.1≠D:=λp hp=>by
     have hp':p∈Jr fp s7.heap:=by rw [<-hX] at hp;simpa [yW] using hp
     exact N3 (ltf _ (WX hp').1)
    have cD: ∀x c,X'.env.cells.lookup x=some c->c≠D:=λx c e=>by
     rw [eV] at e;exact(cl x c e).elim (λz=>fD.2.2.2.2.1 x c z) λz=>U5 (cH (by rw [CD];exact Z6 _) z)
    have q10:=he X' iX D _ s9 σ8 H9 ys us _ I9 fZ hv5 DX cD pD q9;rw [eP,eW,eA,eV] at q10;show D9 _ _ (act _ _) _ _ s9;refine M1 q10 (λ_ s10 ⟨ý,Ÿ,H10,X0J,I10,m',hm,w10⟩=> ?_) λ_ _ z=>z
    obtain⟨t10,f10⟩:=ş I10;exact⟨m',hm,i+1,ý,Ÿ,H10,X0J,(I10.unpinned).weak ag8.1.symm ag8.2,t10,f10,w10⟩
 exact ck.start (loop _ rfl) (T.self X.A 0 _ _ _ st4 (loop _ rfl))
def wiC (wi:TI):TI:=λσ H R=> ∃R0,wi σ H R0/\ ∀J H1,R0 J H1->R J H1
theorem PI.cl (hi:PI X tg iter wi):PI X tg iter (wiC wi):=λÀ s σ H R I ⟨R0,h,i⟩=>Ô (hi À s σ H R0 I h) λv s1 h1=>Ô h1 λitv s2 ⟨it,fp,tn,J,H',e,I',T,t0,f,r⟩=>⟨it,fp,tn,J,H',e,I',T,t0,f,i J H' r⟩
theorem RG {P:T7}:δ P w (.ListComp elt (⟨tg,iter,ifs,0⟩::rest) scope pos) ⟨tg,iter,ifs,0⟩ rest (G0s []) (fT []) where
 cl:=rfl
 quiet:=λ_ _ _=>rfl
 den:=λ_ _ _=>rfl
 under:=λ_ _ _ _=>rfl
 start:=λ{A R s it acc env} h0 h=>gE (oO (by
  unfold compStart;show D9 (S2 P w) A (ask >>= _) _ _ s;exact wpAny_bind (lE (wpAny_ite (Vt (λ_=>wpAny_bind (G8 (G8 ⟨rfl,h0⟩))) λ_=>wpAny_bind (bF (wpAny_bind (W4 (wpAny_bind (M1 h (λ_ _ q=>G8 ⟨rfl,q⟩) λ_ _ q=>q))))))))))
 live:=rfl
 made:=λq=>O3 q
theorem RH {X0H:Pos}{tm:TM}{use:P7 (G3->Sem Unit)}{Qv:G3->G6->Prop}(hc:X.calm=true)(S:Ì X scope js)(hi:PI X tg iter wi)
 (he0:e= .ListComp elt (⟨tg,iter,ifs,0⟩::rest) scope pos)
 (hg: ∀X',jh X scope X'->PG X' tg g)(ht: ∀X',jh X scope X'->ē X' ifs tt)
 (act:Env->G3->Sem Unit)(Ş: ∀it acc env,lD e 0 it acc env=Yg iter tg ifs it env (act env acc) (.compLoop e 0 it acc env))(he: ∀X',jh X scope X'-> ∀D,TZ X' D (act X'.env (.ref D)) tm)
 (hs: ∀x,T5 iter X.env x=pure x){À:G0 (P1×Obj)}{s:G6}{σ:St}{H:Hp}{Q:VK}(I:Inv X À σ H s)(h:Ha js wi g tt tm σ H Q)
 (fin: ∀ (D C:P1) (H':Hp) (s':G6) (m:Str->P7 G3),s'.heap.Ns C m->(∀h',Q2 C s'.heap h'->Inv X À σ H' {s' with heap:=h'})->H' C=none->C≠X.env.locals->C ∉ X.fs->X.s₀.heap.objs.size<=C->(∀x c,X.env.cells.lookup x=some c->c≠C)->(∀p∈X.pn++À,p.1≠C)->
  Q (.ref D) H'->y3 (S2 X.prog X.w) X.A X.xe use Qv (.ref D) C (.ok .next) s'):
 D9 (S2 X.prog X.w) X.A (fV e scope X.env X0H (G0s []) false (A0 iter X.env) use) Qv X.xe s:=by
 subst he0;refine RF (Fit:=λ(ys:G0 V)=>ys.length<=sizeLine) (Acc:=λys o=> ∃us,È ys us/\o=fT us) (ho:=λys _ _=> .lst ys) hc S hi.cl RG ⟨[],.nil,rfl⟩ (λa o ⟨us,_,e⟩ v z=>by subst e;cases z) (λ_ hz ⟨us,hv,e⟩ hg=>by subst e;exact⟨hz,us,_,hv,hg⟩) hg ht act Ş (λX' hX D À s σ H ys o Q I hz ⟨us,hv,e⟩ DX cD pD t=>by
  subst e;exact M1 (he X' hX D À s σ H ys us Q I hv hz DX cD pD t) (λ_ s' ⟨ý,Ÿ,H',Ů,I',q⟩=>⟨ý,_,H',⟨Ÿ,Ů,rfl⟩,I',q⟩) λ_ _ z=>z) hs I ⟨_,h,λJ H1 ⟨W,w0,t⟩=>⟨W,w0,λi m ys H w=>let ⟨l,z⟩:=t i m ys H w;⟨l,z.imp (λ⟨a,b⟩=>⟨a,λp _ hp _=>b p hp⟩) id⟩⟩⟩ fin
theorem EQ (hc:X.calm=true)(S:Ì X scope js)(hi:PI X tg iter wi)
 (hg: ∀X',jh X scope X'->PG X' tg g)(ht: ∀X',jh X scope X'->ē X' ifs tt)(he: ∀X',jh X scope X'->PE X' elt te)
 (hs: ∀x,T5 iter X.env x=pure x:=by intro _;rfl):PE X (.ListComp elt [⟨tg,iter,ifs,0⟩] scope pos) (tLC js wi g tt te):=by
 intro À s σ H Q I h;rw [tF];exact RH (use:=none) hc S hi rfl hg ht (Vx elt) (λ_ _ _=>rfl) (λX' hX D=>Ud (by obtain⟨_,_,_,_,rfl⟩:=hX;rfl) (he X' hX)) hs I h
  λD C H' s' m hn hk _ _ _ _ _ _ q=>⟨m,hn,λh' hs'=>⟨.ref D,H',hk h' hs',rfl,q⟩⟩
theorem LW {pos' ï:Pos}{g':TG}{tm:TM}(hc:X.calm=true)(S:Ì X scope js)(hi:PI X tg iter wi)
 (he0:e= .ListComp elt (⟨tg,iter,ifs,0⟩::rest) scope pos)(hg: ∀X',jh X scope X'->PG X' tg g)(ht: ∀X',jh X scope X'->ē X' ifs tt)
 (act:Env->G3->Sem Unit)(Ş: ∀it acc env,lD e 0 it acc env=Yg iter tg ifs it env (act env acc) (.compLoop e 0 it acc env))(he: ∀X',jh X scope X'-> ∀D,TZ X' D (act X'.env (.ref D)) tm)
 (hg':PG X (.Name x pos') g')(hsw:V3 e (some (.Name x pos')) ï.line X.env=pure true)
 (hs: ∀x,T5 iter X.env x=pure x):PS X (.Assign [.Name x pos'] e ï) (Bv (Ha js wi g tt tm) g'):=by
 intro À s σ H Dn I h;rw [mQ _ _ _ _ hsw];refine wpAny_bind (W4 (wpAny_bind ?_));subst he0;rw [arm_evalThenUse_ListComp];show D9 _ X.A (do let _ <-fV (.ListComp elt (⟨tg,iter,ifs,0⟩::rest) scope pos) scope X.env _ (G0s []) false (A0 iter X.env) (some (cX (.Name x pos') X.env))) _ _ s;refine wpAny_bind (M1 (RH (use:=some (cX (.Name x pos') X.env)) (Qv:=λ_ s'=>SP X À Dn .next s') hc S hi rfl hg ht act Ş he hs I h ?_) (λ_ s' hq=>G8 (G8 hq)) λ_ _ e=>e);intro D C H' s' m hn hk HC nL nf sz ε X0K q;show D9 _ X.A (cX (.Name x pos') X.env (.ref D)) _ _ s';obtain⟨o,es,ep,ho,hd,hr⟩:=id hn;have I1:Inv X À σ H' s':=hk s'.heap (pN ..);have I2:Inv X (À++ [(C,o)]) σ H' s':=I1.pins_of λp hp=>by
  rcases D5.mp hp with z|z
  ·exact I1.pin p (D3 _ z)
  ·rcases G9.mp z with rfl
   exact⟨ho,HC,nL,nf,λv z=>by rw [hd] at z;cases z⟩
 refine M1 (hg' _ s' σ H' (.ref D) (.ref D) _ I2 rfl q) (λ_ s3 ⟨ć,H3,I3,q3⟩=> ?_) λ_ _ z=>z
 have pC:=I3.pin (C,o) (D3 _ (D3 _ P6));refine⟨m,hn.at' λo' e'=> ?_,λh' hs'=> ?_⟩
 ·rw [ho] at e';cases e';exact pC.1
 ·exact⟨ć,H3,(I3.unpinned).turned (t':=s3.toks) (it:=C) (λb o hb e=>hs'.extBut b o hb e) pC.2.1 nL (.inr sz) ε X0K,q3⟩
theorem Pb {pos' ï:Pos}{g':TG}(hc:X.calm=true)(S:Ì X scope js)(hi:PI X tg iter wi)
 (hg: ∀X',jh X scope X'->PG X' tg g)(ht: ∀X',jh X scope X'->ē X' ifs tt)(he: ∀X',jh X scope X'->PE X' elt te)
 (hg':PG X (.Name x pos') g')(hsw:V3 (.ListComp elt [⟨tg,iter,ifs,0⟩] scope pos) (some (.Name x pos')) ï.line X.env=pure true)
 (hs: ∀x,T5 iter X.env x=pure x:=by intro _;rfl):PS X (.Assign [.Name x pos'] (.ListComp elt [⟨tg,iter,ifs,0⟩] scope pos) ï) (Bv (tLC js wi g tt te) g'):=
 LW hc S hi rfl hg ht (Vx elt) (λ_ _ _=>rfl) (λX' hX D=>Ud (by obtain⟨_,_,_,_,rfl⟩:=hX;rfl) (he X' hX)) hg' hsw hs
def RI (e iter:T8)(env:Env)(acc:G3):Sem Unit:=do
 let x <-A0 iter env
 cV iter.pos
 let x <-T5 iter env x
 let _ <-runOwn (.compStart e 1 (<-aF [x] (mZ x)) acc env) env
def mIn (wi : TI) (g : TG) (tt : TT) (tm : TM) : TM := fun σ H ys Q => wi σ H fun J H1 =>
  ∃ W : G7 → G7 → G0 V → Hp → Prop, (∃ m, W 0 m ys H1) ∧ ∀ i m ys H, W i m ys H → ys.length ≤ sizeLine ∧
    ((J.stop i H ∧ Q ys H) ∨
     (J.go i H ∧ ∀ x H', J.yld i H x H' → g x σ H' fun Ý H2 => Agree σ Ý ∧ tt Ý H2 fun b H3 =>
        if b = true then tm Ý H3 ys fun ý H4 => ∃ m', m' < m ∧ W (i + 1) m' ý H4 else ∃ m', m' < m ∧ W (i + 1) m' ys H3))
theorem Ze {A:B2}{R:sF->G6->Prop}{s:G6}{g0 g1:Z4}{it acc:G3}(ha:g1.is_async=0)
 (h0:cE (S2 prog w) A (.compLoop (.ListComp elt [g0,g1] scope pos) 1 it acc env) R s)
 (h:D9 (S2 prog w) A (mZ it) (λit' s'=>cE (S2 prog w) A (.compLoop (.ListComp elt [g0,g1] scope pos) 1 it' acc env) R s')
  (notedBy (S2 prog w) A env λx s'=>R (.error x) s') s):
 cE (S2 prog w) A (.compStart (.ListComp elt [g0,g1] scope pos) 1 it acc env) R s:=by
 obtain⟨tg,iter,ifs,as⟩:=g1;cases (show as=0 from ha);refine gE (oO ?_);obtain⟨hp,g,d,tk,os⟩:=s;unfold compStart
 wp_walk
 refine lE ?_;split
 ·exact G8 ⟨rfl,h0⟩
 ·exact wpAny_bind (bF (wpAny_bind (W4 (wpAny_bind (M1 h (λ_ _ on=>G8 ⟨rfl,on⟩) λ_ _ x=>x)))))
theorem LX {D:P1}{g0:Z4}(hc:X.calm=true)(hx:X.xe=λ_ _=>False)
 (hi:PI X tg iter wi)(hg:PG X tg g)(ht:ē X ifs tt)(he:PE X elt te)(hs: ∀x,T5 iter X.env x=pure x):
 TZ X D (RI (.ListComp elt [g0,⟨tg,iter,ifs,0⟩] scope pos) iter X.env (.ref D)) (mIn wi g tt (EN te)):=by
 intro À s σ H ys us Q I hv hz DX cD pD h;have q:=hi _ s σ H _ I h;rw [hx] at q;unfold RI;refine wpAny_bind (M1 q (λv s1 h1=>wpAny_bind (W4 (wpAny_bind (y4 (hs v) (wpAny_bind (O0 (M1 h1 (λitv s2 h2=> ?_) λ_ _ z=>z))))))) λ_ _ z=>z);obtain⟨it,fp,tn,J,H2,e,I2,T,Ł,f2,W,⟨m0,w0⟩,turn⟩:=h2;subst e;refine wpAny_bind (wpAny_runOwn ?_);have neD: ∀b∈fp,b≠D:=λb hb=>by
  have z:=(f2 b hb).2.2.2.2.2 (D,fT us) (D3 _ (B7 _ P6));exact E4 z
 have Ĳ: ∀ {Ÿ:G0 G3} {H':Hp},(∀b∈fp,H' b=none)-> ∀b∈fp,Rb X ([(D,fT Ÿ)]++À) H' b:=λ{Ÿ H'} hn b hb=>by
  have q:=f2 b hb;refine⟨hn b hb,q.2.1,q.2.2.1,q.2.2.2.1,q.2.2.2.2.1,λp hp=> ?_⟩;rcases D5.mp hp with z|z
  ·exact q.2.2.2.2.2 p (B7 _ z)
  ·rcases D5.mp z with z|z
   ·rcases G9.mp z with rfl
    exact E4 (neD b hb)
   ·exact q.2.2.2.2.2 p (D3 _ (D3 _ z))
 have loop:cE (S2 X.prog X.w) X.A (.compLoop (.ListComp elt [g0,⟨tg,iter,ifs,0⟩] scope pos) 1 (.ref it) (.ref D) X.env)
  (λr s'=>match r with| .ok f=>D9 (S2 X.prog X.w) X.A (pure ()) (λ_ s'=> ∃ý Ÿ H',È ý Ÿ/\Inv X ([(D,fT Ÿ)]++À) σ H' s'/\Q ý H') (λ_ _=>False) s'| .error e=>cameBackBy (S2 X.prog X.w) X.A X.env (λ_ _=>False) e s') s2:=by
  refine Xo (act:=Vx elt X.env (.ref D)) (λn s'=> ∃i ys us H',È ys us/\Inv X ([(D,fT us)]++À) σ H' s'/\tn i s'.heap/\(∀b∈fp,H' b=none)/\W i n ys H') rfl rfl rfl rfl ?_ m0
   ⟨0,ys,us,H2,hv,I2,Ł,λb hb=>(f2 b hb).1,w0⟩
  rintro n s5 ⟨i,ys,us,H5,hv5,I5,st5,fr5,w5⟩;obtain⟨hz,tr⟩:=turn i n ys H5 w5;rcases tr with ⟨stop,qn⟩|⟨go,step⟩
  ·refine M1 (T.done X rfl rfl rfl hc i _ s5 _ H5 (λ_ _=>False) I5 (Ĳ fr5) st5 stop) (λr s6 ⟨hr,I6⟩=> ?_) λ_ _ z=>z
   subst hr;exact G8 ⟨ys,us,H5,hv5,I6,qn⟩
  ·refine M1 (T.item X rfl rfl rfl hc i _ s5 _ H5 (λ_ _=>False) I5 (Ĳ fr5) st5 go) (λr s6 ⟨u,hr,h6⟩=> ?_) λ_ _ z=>z
   subst hr;refine M1 h6 (λ_ s7 ⟨x,H7,I7,r7,y7,st7,fr7⟩=> ?_) λ_ _ z=>z
   have I7':=I7.pinned (Ĳ fr7) (T.obj _ _ st7);have q7:=hg _ s7 _ H7 x u _ I7' r7 (step x H7 y7);rw [hx] at q7;refine M1 q7 (λ_ s8 ⟨σ8,H8,I8,ag8,q8⟩=> ?_) λ_ _ z=>z
   have q9:=ht _ s8 σ8 H8 _ I8 q8;rw [hx] at q9;refine M1 q9 (λok s9 ⟨H9,I9,q9⟩=> ?_) λ_ _ z=>z
   have ş: ∀ {Â:St} {H':Hp} {s':G6} {us:G0 G3},Inv X (([(D,fT us)]++À)++Jr fp s7.heap) Â H' s'->tn (i+1) s'.heap/\ ∀b∈fp,H' b=none:=λ{Â H' s' us} I'=>
    ⟨T.keep _ _ _ st7 λb hb o e=>(I'.pin (b,o) (D3 _ (D3 _ (wT hb e)))).1,λb hb=>by
     obtain⟨o,e,_⟩:=T.obj _ _ st7 b hb;exact(I'.pin (b,o) (D3 _ (D3 _ (wT hb e)))).2.1⟩
   cases ok with
   |false=>
    have q9: ∃m',m'<n/\W (i+1) m' ys H9:=q9;obtain⟨m',hm,w9⟩:=q9;obtain⟨t9,f9⟩:=ş I9;exact⟨m',hm,i+1,ys,us,H9,hv5,(I9.unpinned).weak ag8.1.symm ag8.2,t9,f9,w9⟩
   |true=>
    have q9:EN te σ8 H9 ys λý H4=> ∃m',m'<n/\W (i+1) m' ý H4:=q9
    have pD': ∀p∈X.pn++(À++Jr fp s7.heap),p.1≠D:=λp hp=>by
     rcases D5.mp hp with z|z
     ·exact pD p (B7 _ z)
     ·rcases D5.mp z with z|z
      ·exact pD p (D3 _ z)
      ·exact neD _ (WX z).1
    rw [D4] at I9;have q10:=Ud (D:=D) hx he (À++Jr fp s7.heap) s9 σ8 H9 ys us _ I9 hv5 hz DX cD pD' q9;show D9 _ _ (Vx _ _ _) _ _ s9;refine M1 q10 (λ_ s10 ⟨ý,Ÿ,H10,X0J,I10,m',hm,w10⟩=> ?_) λ_ _ z=>z
    rw [<-D4] at I10;obtain⟨t10,f10⟩:=ş I10;exact⟨m',hm,i+1,ý,Ÿ,H10,X0J,(I10.unpinned).weak ag8.1.symm ag8.2,t10,f10,w10⟩
 exact Ze rfl loop (T.self X.A 0 _ _ _ Ł loop)
theorem LY (elt iter tg å tg':T8)(ifs Ğ:G0 T8)(scope:U2)(pos:Pos)(it acc:G3)(env:Env):
 lD (.ListComp elt [⟨tg,iter,ifs,0⟩,⟨tg',å,Ğ,0⟩] scope pos) 0 it acc env=
  Yg iter tg ifs it env (RI (.ListComp elt [⟨tg,iter,ifs,0⟩,⟨tg',å,Ğ,0⟩] scope pos) å env acc) (.compLoop (.ListComp elt [⟨tg,iter,ifs,0⟩,⟨tg',å,Ğ,0⟩] scope pos) 0 it acc env):=by
 unfold Yg RI;simp only [bind_assoc,pure_bind];rfl
def HH (js:G0 G7)(wi:TI)(g:TG)(tt:TT)(wi':TI)(g':TG)(Ľ:TT)(te:TE):TE:=Ha js wi g tt (mIn wi' g' Ľ (EN te))
theorem ER {å tg':T8}{Ğ:G0 T8}{wi':TI}{g':TG}{Ľ:TT}(hc:X.calm=true)(S:Ì X scope js)(hi:PI X tg iter wi)
 (hg: ∀X',jh X scope X'->PG X' tg g)(ht: ∀X',jh X scope X'->ē X' ifs tt)(hi': ∀X',jh X scope X'->PI X' tg' å wi')
 (hg': ∀X',jh X scope X'->PG X' tg' g')(ht': ∀X',jh X scope X'->ē X' Ğ Ľ)(he: ∀X',jh X scope X'->PE X' elt te)
 (hs: ∀x,T5 iter X.env x=pure x:=by intro _;rfl)(hs': ∀env x,T5 å env x=pure x:=by intro _ _;rfl):
 PE X (.ListComp elt [⟨tg,iter,ifs,0⟩,⟨tg',å,Ğ,0⟩] scope pos) (HH js wi g tt wi' g' Ľ te):=by
 intro À s σ H Q I h;rw [tF];exact RH (use:=none) hc S hi rfl hg ht (λenv acc=>RI (.ListComp elt [⟨tg,iter,ifs,0⟩,⟨tg',å,Ğ,0⟩] scope pos) å env acc) (λ_ _ _=>LY ..)
  (λX' hX D=>LX (by obtain⟨_,_,_,_,rfl⟩:=hX;exact hc) (by obtain⟨_,_,_,_,rfl⟩:=hX;rfl) (hi' X' hX) (hg' X' hX) (ht' X' hX) (he X' hX) (hs' _)) hs I h
  λD C H' s' m hn hk _ _ _ _ _ _ q=>⟨m,hn,λh' hs'=>⟨.ref D,H',hk h' hs',rfl,q⟩⟩
inductive D where
 |non|bl (b:N2)|int (i:P0)|str (x:Str)|tup (ds:G0 D)|lst (a:P1)|dic (x:Str) (i:P0)|dct (a:P1)|scr (ns:G0 P0)|exc (C:P1)|fn (a:P1)|exf (C:P1) (fs:G0 (Str×P0))
def Ι (K:G5)(H:Hp)(a:P1)(ns:G0 P0):Prop:=
 (∃o,H a=some (.frz o (.lst (ns.map V.int))))\/
  ∃ (o:Obj) (its:M8 G3) (n:G7),K.lookup a=some o/\o.cls= .type "list" /\o.dict=none/\o.data= .seq its n/\its.size<=sizeLine/\È (ns.map V.int) its.toList
variable {K:G5}
theorem Ι.sq {ns:G0 P0}(h:Ι K H a ns):ò K H a (ns.map V.int):=h.elim (λz=> .inl (.inr z)) .inr
def Β (H:Hp)(dx:P7 P1)(fs:G0 (Str×P0)):Prop:=fs= []\/ ∃D oD,dx=some D/\H D=some (.frz oD (.xd (fs.map λp=>(p.1,V.int p.2))))
mutual
def Ê (K:G5)(H:Hp):D->V->Prop
 | .non,v=>v= .non
 | .bl b,v=>v= .bl b
 | .int i,v=>v= .int i
 | .str x,v=>v= .str x
 | .tup ds,v=> ∃a vs,v= .ref a/\H a=some (.tup vs)/\Á K H ds vs
 | .lst a,v=>v= .ref a/\ ∃vs,H a=some (.lst vs)
 | .dic x i,v=> ∃a,v= .ref a/\H a=some (.dK [(cC x,V.int i)])
 | .dct a,v=>v= .ref a
 | .scr ns,v=> ∃a,v= .ref a/\Ι K H a ns
 | .exc C,v=> ∃x o vs,v= .ref x/\H x=some (.frz o (.own 0))/\o.cls= .ref C/\o.data= .fields vs
 | .fn a,v=>v= .ref a/\aX K (.ref a)=true
 | .exf C fs,v=> ∃x o vs,v= .ref x/\H x=some (.frz o (.own 0))/\o.cls= .ref C/\o.data= .fields vs/\Β H o.dict fs
def Á (K:G5)(H:Hp):G0 D->G0 V->Prop
 | [],vs=>vs= []
 |d::ds,vs=> ∃v r,vs=v::r/\Ê K H d v/\Á K H ds r
end
structure Kept (H H':Hp):Prop where
 tup: ∀a xs,H a=some (.tup xs)->H' a=some (.tup xs)
 lst: ∀a xs,H a=some (.lst xs)-> ∃ys,H' a=some (.lst ys)
 dic: ∀a x i,H a=some (.dK [(cC x,V.int i)])->H' a=some (.dK [(cC x,V.int i)])
 frz: ∀a o u,H a=some (.frz o u)->H' a=some (.frz o u)
variable {H':Hp}
theorem Β.mono (k:Kept H H'){dx:P7 P1}{fs:G0 (Str×P0)}(f:Β H dx fs):Β H' dx fs:=f.imp id λ⟨D,oD,e,h⟩=>⟨D,oD,e,k.frz _ _ _ h⟩
theorem Kept.refl (H:Hp):Kept H H:=⟨λ_ _ h=>h,λ_ xs h=>⟨xs,h⟩,λ_ _ _ h=>h,λ_ _ _ h=>h⟩
theorem Kept.trans {A B C:Hp}(x:Kept A B)(y:Kept B C):Kept A C:=
 ⟨λa xs h=>y.tup a xs (x.tup a xs h),λa xs h=>let ⟨_,e⟩:=x.lst a xs h;y.lst a _ e,λa k i h=>y.dic a k i (x.dic a k i h),λa o u h=>y.frz a o u (x.frz a o u h)⟩
variable {p:P1}
theorem Kept.new (h:H p=none):Kept H (upd H p o):=
 ⟨λa xs e=>by rw [jt (jp e h)];exact e,λa xs e=>⟨xs,by rw [jt (jp e h)];exact e⟩,λa k i e=>by rw [jt (jp e h)];exact e,λa o u e=>by rw [jt (jp e h)];exact e⟩
theorem Kept.put {xs ys:G0 V}(h:H p=some (.lst xs)):Kept H (upd H p (.lst ys)):=
 ⟨λa zs e=>by rw [jt (Da e h (by intro z;cases z))];exact e,λa zs e=>by
  by_cases q:a=p
  ·subst q;exact⟨ys,jw⟩
  ·exact⟨zs,by rw [jt q];exact e⟩,
  λa k i e=>by rw [jt (Da e h (by intro z;cases z))];exact e,λa o u e=>by rw [jt (Da e h (by intro z;cases z))];exact e⟩
def ů (o:HO):Prop:=(∃Ā:G0 (P0×V),o= .dK (Ā.map λp=>((iV p.1:Ŋ),p.2)))\/ ∃φ,o= .ext φ
theorem ů.no (d:ů o):(∀xs,o≠ .tup xs)/\(∀xs,o≠ .lst xs)/\(∀x i,o≠ .dK [(cC x,V.int i)])/\(∀p u,o≠ .frz p u)/\ ∀ps,o≠ .tbl ps:=by
 rcases d with ⟨Ā,rfl⟩|⟨φ,rfl⟩
 ·refine⟨λ_ z=>(nomatch z),λ_ z=>(nomatch z),λx i z=> ?_,λ_ _ z=>(nomatch z),λ_ z=>(nomatch z)⟩;injection z with z
  cases Ā with
  |nil=>cases z
  |cons p r=>injection z with z _;injection z with z _;cases z
 ·exact⟨λ_ z=>(nomatch z),λ_ z=>(nomatch z),λ_ _ z=>(nomatch z),λ_ _ z=>(nomatch z),λ_ z=>(nomatch z)⟩
theorem Kept.putD {o':HO}(h:H p=some o)(d:ů o):Kept H (upd H p o'):=by
 obtain⟨d1,d2,d3,d4,_⟩:=d.no;have ne: ∀ {a:P1} {u:HO},H a=some u->o≠u->a≠p:=λe n z=>by subst z;rw [h] at e;injection e with e;exact n e
 exact⟨λa xs e=>by rw [jt (ne e (d1 xs))];exact e,λa xs e=>⟨xs,by rw [jt (ne e (d2 xs))];exact e⟩,λa x i e=>by rw [jt (ne e (d3 x i))];exact e,λa q u e=>by rw [jt (ne e (d4 q u))];exact e⟩
mutual
theorem Ê.mono (k:Kept H H'): ∀ {d:D} {v:V},Ê K H d v->Ê K H' d v
 | .non,_,h=>h
 | .bl _,_,h=>h
 | .int _,_,h=>h
 | .str _,_,h=>h
 | .tup ds,v,h=>by
  obtain⟨a,vs,e,h1,h2⟩:=(show ∃a vs,v= .ref a/\H a=some (.tup vs)/\Á K H ds vs from h);exact⟨a,vs,e,k.tup _ _ h1,Á.mono k h2⟩
 | .lst a,v,h=>by
  obtain⟨e,vs,h1⟩:=(show v= .ref a/\ ∃vs,H a=some (.lst vs) from h);exact⟨e,k.lst _ _ h1⟩
 | .dic x i,v,h=>by
  obtain⟨a,e,h1⟩:=(show ∃a,v= .ref a/\H a=some (.dK [(cC x,V.int i)]) from h);exact⟨a,e,k.dic _ _ _ h1⟩
 | .dct a,v,h=>h
 | .scr ns,v,h=>by
  obtain⟨a,e,h1⟩:=(show ∃a,v= .ref a/\Ι K H a ns from h);exact⟨a,e,h1.elim (λ⟨o,z⟩=> .inl ⟨o,k.frz _ _ _ z⟩) .inr⟩
 | .exc C,v,h=>by
  obtain⟨x,o,vs,e,h1,r⟩:=(show ∃x o vs,v= .ref x/\H x=some (.frz o (.own 0))/\o.cls= .ref C/\o.data= .fields vs from h);exact⟨x,o,vs,e,k.frz _ _ _ h1,r⟩
 | .fn a,v,h=>h
 | .exf C fs,v,h=>by
  obtain⟨x,o,vs,e,h1,c,d,f⟩:=(show ∃x o vs,v= .ref x/\H x=some (.frz o (.own 0))/\o.cls= .ref C/\o.data= .fields vs/\Β H o.dict fs from h);exact⟨x,o,vs,e,k.frz _ _ _ h1,c,d,f.mono k⟩
theorem Á.mono (k:Kept H H'): ∀ {ds:G0 D} {vs:G0 V},Á K H ds vs->Á K H' ds vs
 | [],_,h=>h
 |d::ds,vs,h=>by
  obtain⟨v,r,e,h1,h2⟩:=(show ∃v r,vs=v::r/\Ê K H d v/\Á K H ds r from h);exact⟨v,r,e,Ê.mono k h1,Á.mono k h2⟩
end
section
variable {K:G5}{H:Hp}
theorem Á.nil:Á K H [] []:=rfl
theorem Á.cons {d:D}{v:V}{ds:G0 D}{vs:G0 V}(h:Ê K H d v)(t:Á K H ds vs):Á K H (d::ds) (v::vs):=⟨v,vs,rfl,h,t⟩
theorem Á.length: ∀ {ds:G0 D} {vs:G0 V},Á K H ds vs->ds.length=vs.length
 | [],_,h=>by cases (show _= [] from h);rfl
 |d::ds,vs,h=>by
  obtain⟨v,r,e,_,h2⟩:=(show ∃v r,vs=v::r/\Ê K H d v/\Á K H ds r from h);subst e;simp [Á.length h2]
theorem Á.append: ∀ {ds es:G0 D} {vs us:G0 V},Á K H ds vs->Á K H es us->Á K H (ds++es) (vs++us)
 | [],_,_,_,h,g=>by cases (show _= [] from h);exact g
 |d::ds,es,vs,us,h,g=>by
  obtain⟨v,r,e,h1,h2⟩:=(show ∃v r,vs=v::r/\Ê K H d v/\Á K H ds r from h);subst e;exact .cons h1 (Á.append h2 g)
theorem Á.get: ∀ {ds:G0 D} {vs:G0 V} {i:G7} {d:D},Á K H ds vs->ds[i]? =some d-> ∃v,vs[i]? =some v/\Ê K H d v
 |d'::ds,vs,i,d,h,e=>by
  obtain⟨v,r,q,h1,h2⟩:=(show ∃v r,vs=v::r/\Ê K H d' v/\Á K H ds r from h);subst q;cases i with
  |zero=>simp at e;subst e;exact⟨v,rfl,h1⟩
  |succ i=>
   obtain⟨u,q1,q2⟩:=Á.get h2 (i:=i) (d:=d) (by simpa using e);exact⟨u,by simpa using q1,q2⟩
theorem Á.take (n:G7): ∀ {ds:G0 D} {vs:G0 V},Á K H ds vs->Á K H (ds.take n) (vs.take n):=by
 induction n with
 |zero=>intro ds vs _;exact(rfl:Á K H [] [])
 |succ n ih=>
  intro ds vs h;cases ds with
  |nil=>cases (show vs= [] from h);exact .nil
  |cons d ds=>
   obtain⟨v,r,e,h1,h2⟩:=(show ∃v r,vs=v::r/\Ê K H d v/\Á K H ds r from h);subst e;exact .cons h1 (ih h2)
theorem Á.drop (n:G7): ∀ {ds:G0 D} {vs:G0 V},Á K H ds vs->Á K H (ds.drop n) (vs.drop n):=by
 induction n with
 |zero=>intro ds vs h;exact h
 |succ n ih=>
  intro ds vs h;cases ds with
  |nil=>cases (show vs= [] from h);exact .nil
  |cons d ds=>
   obtain⟨v,r,e,h1,h2⟩:=(show ∃v r,vs=v::r/\Ê K H d v/\Á K H ds r from h);subst e;exact ih h2
theorem Á.set {d:D}{v:V}(q:Ê K H d v): ∀ {ds:G0 D} {vs:G0 V} (i:G7),Á K H ds vs->Á K H (ds.set i d) (vs.set i v)
 | [],_,_,h=>by cases (show _= [] from h);exact .nil
 |e::ds,vs,i,h=>by
  obtain⟨u,r,z,h1,h2⟩:=(show ∃u r,vs=u::r/\Ê K H e u/\Á K H ds r from h);subst z;cases i with
  |zero=>exact .cons q h2
  |succ i=>exact .cons h1 (Á.set q i h2)
theorem ZI: ∀ns:G0 P0,Á K H (ns.map D.int) (ns.map V.int)
 | []=> .nil
 |n::ns=> .cons rfl (ZI ns)
end
inductive DC where
 |ik (kv:G0 (P0×D))
 |tk (ep:G7) (kv:G0 (G0 (G0 P0)×D))
structure HD where
 ls:P1->P7 (G0 D)
 dc:P1->P7 DC
instance:CoeFun HD λ_=>P1->P7 (G0 D):=⟨HD.ls⟩
def wg (h:HD)(a:P1)(ds:G0 D):HD:=⟨λb=>if b=a then some ds else h b,h.dc⟩
def Ue (h:HD)(a:P1):HD:=⟨λb=>if b=a then none else h b,h.dc⟩
variable {h:HD}{ds:G0 D}
theorem jc:wg h a ds a=some ds:=R5 rfl
theorem yC {b:P1}(e:b≠a):wg h a ds b=h b:=R3 e
theorem zG (e:h a=none):Ue (wg h a ds) a=h:=by
 obtain⟨l,d⟩:=h;refine congrArg (HD.mk · d) ?_
 funext b
 show (if b=a then none else if b=a then some ds else l b)=l b
 by_cases q:b=a
 ·subst q;rw [R5 rfl];exact e.symm
 ·rw [R3 q,R3 q]
def LN:G0 Str:= ["law","_law_right","_law_words","_law_other_words","_law_many_right","_law_all","_law_told_row","_law_all_right","_law_desk_right","_law_signs_right","_law_lists_right","_law_text_right"]
def X0L (K:G5)(P:P1):Prop:= ∃x∈LN,∃c,oP K x=some (c,P)
def ħ (H:Hp)(ps:M8 G3):Prop:=TriplesOk ps.toList/\ ∀pos cv,codeAmong pos ps.toList=some cv-> ∃ (c:P1) (o:Obj) (vs:M8 G3) (q:Str) (t:Tok),cv= .ref c/\H c=some (.frz o (.own 0))/\o.data= .fields vs/\vs[1]? =some (.str q t)
def ď (K:G5)(H:Hp):Prop:= ∀P,X0L K P-> ∃ps,H P=some (.tbl ps)/\ħ H ps
theorem ħ.mono {ps:M8 G3}(k: ∀a o u,H a=some (.frz o u)->H' a=some (.frz o u))(c:ħ H ps):ħ H' ps:=
 ⟨c.1,λpos cv e=>let ⟨c',o,vs,q,t,e1,e2,r⟩:=c.2 pos cv e;⟨c',o,vs,q,t,e1,k _ _ _ e2,r⟩⟩
theorem ď.mono (x:ď K H)(k: ∀a o u,H a=some (.frz o u)->H' a=some (.frz o u))(kt: ∀a ps,H a=some (.tbl ps)->H' a=some (.tbl ps)):ď K H':=λP hP=>
 let ⟨ps,e,c⟩:=x P hP;⟨ps,kt _ _ e,c.mono k⟩
theorem ď.new (x:ď K H)(e:H p=none):ď K (upd H p o):=
 x.mono (λa o' u h=>by rw [jt (jp h e)];exact h) λa ps h=>by rw [jt (jp h e)];exact h
theorem ď.put {xs:G0 V}(x:ď K H)(e:H p=some (.lst xs)):ď K (upd H p o):=
 x.mono (λa o' u h=>by rw [jt (Da h e (by intro z;cases z))];exact h) λa ps h=>by rw [jt (Da h e (by intro z;cases z))];exact h
def Yh (T:G0 (G0 P0)):P0:=lU (V7 (T.map λr=>lU (V7 (r.map hashInt))))
def Jc (a:P1)(ep:G7)(xs:G0 (G0 (G0 P0)×P1×V)):HO:= .ext λh=>(a==Q6)=false/\xs.length<=sizeLine/\ ∃ys:G0 (G0 (G0 P0)×P1×G3),Paired (λp q=>p.1=q.1/\p.2.1=q.2.1/\RelV p.2.2 q.2.2) xs ys/\
 ∃o es,h.get? a=some o/\o.ExactDict/\o.data= .dict es ep/\es.toList=ys.map λx=>⟨Yh x.1,.ref x.2.1,x.2.2⟩
def ő (K:G5)(H:Hp)(a:P1):DC->Prop
 | .ik kv=> ∃Ā:G0 (P0×V),H a=some (.dK (Ā.map λp=>((iV p.1:Ŋ),p.2)))/\kv.map (·.1)=Ā.map (·.1)/\Á K H (kv.map (·.2)) (Ā.map (·.2))
 | .tk ep kv=> ∃xs:G0 (G0 (G0 P0)×P1×V),H a=some (Jc a ep xs)/\(kv.map (·.1)).Nodup/\kv.map (·.1)=xs.map (·.1)/\(∀x∈xs,Ê K H (.tup (x.1.map λr=> .tup (r.map D.int))) (.ref x.2.1))/\Á K H (kv.map (·.2)) (xs.map (·.2.2))
theorem ő.obj: ∀ {c:DC},ő K H a c-> ∃o,H a=some o/\ů o
 | .ik _,⟨Ā,e,_⟩=>⟨_,e,.inl ⟨Ā,rfl⟩⟩
 | .tk _ _,⟨xs,e,_⟩=>⟨_,e,.inr ⟨_,rfl⟩⟩
theorem ő.mono (k:Kept H H')(z: ∀o,H a=some o->H' a=some o): ∀ {c:DC},ő K H a c->ő K H' a c
 | .ik _,⟨Ā,e,q,r⟩=>⟨Ā,z _ e,q,r.mono k⟩
 | .tk _ _,⟨xs,e,n,q,t,r⟩=>⟨xs,z _ e,n,q,λx hx=>(t x hx).mono k,r.mono k⟩
structure É (K:G5)(h:HD)(H:Hp):Prop where
 ls: ∀a ds,h a=some ds-> ∃vs,H a=some (.lst vs)/\Á K H ds vs
 tb:ď K H
 dc: ∀a c,h.dc a=some c->ő K H a c
instance {K:G5}{h:HD}{H:Hp}:CoeFun (É K h H) λ_=> ∀a ds,h a=some ds-> ∃vs,H a=some (.lst vs)/\Á K H ds vs:=⟨É.ls⟩
structure Sub (h h':HD):Prop where
 ls: ∀a ds,h a=some ds->h' a=some ds
 dc: ∀a c,h.dc a=some c->h'.dc a=some c
instance {h h':HD}:CoeFun (Sub h h') λ_=> ∀a ds,h a=some ds->h' a=some ds:=⟨Sub.ls⟩
theorem Sub.refl (h:HD):Sub h h:=⟨λ_ _ e=>e,λ_ _ e=>e⟩
theorem Sub.trans {a b c:HD}(x:Sub a b)(y:Sub b c):Sub a c:=⟨λd ds e=>y d ds (x d ds e),λd ds e=>y.dc d ds (x.dc d ds e)⟩
theorem Sub.drop (h:HD)(a:P1):Sub (Ue h a) h:=⟨λb ds e=>by
 have e:(if b=a then none else h b)=some ds:=e;split at e
 ·cases e
 ·exact e,λ_ _ e=>e⟩
theorem Sub.new (e:h p=none):Sub h (wg h p ds):=⟨λa es q=>(by
 rw [yC];exact q;intro z;subst z;rw [e] at q;cases q),λ_ _ e=>e⟩
section
variable {K:G5}{h h':HD}{H:Hp}
theorem É.sub (r:É K h H)(s:Sub h' h):É K h' H:=⟨λa ds e=>r a ds (s a ds e),r.tb,λa c e=>r.dc a c (s.dc a c e)⟩
theorem É.free (r:É K h H){p:P1}(e:H p=none):h p=none:=by
 cases q:h p with
 |none=>rfl
 |some ds=>obtain⟨vs,z,_⟩:=r p ds q;rw [e] at z;cases z
theorem É.freeC (r:É K h H){p:P1}(e:H p=none):h.dc p=none:=by
 cases q:h.dc p with
 |none=>rfl
 |some c=>obtain⟨o,z,_⟩:=(r.dc p c q).obj;rw [e] at z;cases z
theorem É.dcN (r:É K h H){p:P1}{o:HO}(e:H p=none): ∀a c,h.dc a=some c->ő K (upd H p o) a c:=λa c q=>
 (r.dc a c q).mono (.new e) λu z=>by rw [jt (jp z e)];exact z
theorem É.new (r:É K h H){p:P1}{o:HO}(e:H p=none):É K h (upd H p o):=⟨λa ds q=>by
 obtain⟨vs,z,w⟩:=r a ds q;exact⟨vs,by rw [jt (jp z e)];exact z,w.mono (.new e)⟩,r.tb.new e,r.dcN e⟩
theorem É.newL (r:É K h H){p:P1}{ds:G0 D}{vs:G0 V}(e:H p=none)(q:Á K H ds vs):É K (wg h p ds) (upd H p (.lst vs)):=⟨λa es z=>by
 by_cases w:a=p
 ·subst w;rw [jc] at z;cases z;exact⟨vs,jw,q.mono (.new e)⟩
 ·rw [yC w] at z;obtain⟨us,z1,z2⟩:=r a es z;exact⟨us,by rw [jt w];exact z1,z2.mono (.new e)⟩,r.tb.new e,r.dcN e⟩
theorem É.put (r:É K h H){p:P1}{ds:G0 D}{vs us:G0 V}(e:H p=some (.lst us))(q:Á K H ds vs):É K (wg h p ds) (upd H p (.lst vs)):=⟨λa es z=>by
 by_cases w:a=p
 ·subst w;rw [jc] at z;cases z;exact⟨vs,jw,q.mono (.put e)⟩
 ·rw [yC w] at z;obtain⟨us,z1,z2⟩:=r a es z;exact⟨us,by rw [jt w];exact z1,z2.mono (.put e)⟩,r.tb.put e,λa c z=>(r.dc a c z).mono (.put e) λo w=>by
   obtain⟨u,w',d⟩:=(r.dc a c z).obj;rw [jt (Da w' e (d.no.2.1 _))];exact w⟩
end
def Bj (h:HD)(p:P1)(c:DC):HD:=⟨h.ls,λb=>if b=p then some c else h.dc b⟩
theorem zR {c:DC}:(Bj h p c).dc p=some c:=R5 rfl
theorem JB {c:DC}(e:a≠p):(Bj h p c).dc a=h.dc a:=R3 e
theorem Sub.newC {c:DC}(e:h.dc p=none):Sub h (Bj h p c):=⟨λ_ _ e=>e,λa d q=>by
 rw [JB];exact q;intro z;subst z;rw [e] at q;cases q⟩
section
variable {K:G5}{h:HD}{H:Hp}
theorem É.newC (r:É K h H){p:P1}{o:HO}{c:DC}(e:H p=none)(d:ő K (upd H p o) p c):É K (Bj h p c) (upd H p o):=⟨(r.new e).ls,r.tb.new e,λa k z=>by
 by_cases w:a=p
 ·subst w;rw [zR] at z;cases z;exact d
 ·rw [JB w] at z;exact r.dcN e a k z⟩
theorem É.putC (r:É K h H){p:P1}{o o':HO}{c:DC}(e:H p=some o)(ob:ů o)(d:ő K (upd H p o') p c):É K (Bj h p c) (upd H p o'):=by
 obtain⟨d1,d2,d3,d4,d5⟩:=ob.no;have ne: ∀ {a:P1} {u:HO},H a=some u->o≠u->a≠p:=λq n z=>by subst z;rw [e] at q;injection q with q;exact n q
 refine⟨λa ds z=> ?_,r.tb.mono (λa q u z=>by rw [jt (ne z (d4 q u))];exact z) (λa ps z=>by rw [jt (ne z (d5 ps))];exact z),λa k z=> ?_⟩
 ·obtain⟨vs,z1,z2⟩:=r a ds z;exact⟨vs,by rw [jt (ne z1 (d2 vs))];exact z1,z2.mono (.putD e ob)⟩
 ·by_cases w:a=p
  ·subst w;rw [zR] at z;cases z;exact d
  ·rw [JB w] at z;exact(r.dc a k z).mono (.putD e ob) λu q=>by rw [jt w];exact q
end
abbrev SD:=G0 (P7 D)
def Ò (K:G5)(H:Hp)(Æ:SD)(σ:St):Prop:=Æ.length=σ.length/\ ∀ (i:G7) (d:D),Æ[i]? =some (some d)-> ∃v,σ[i]? =some (some v)/\Ê K H d v
theorem Ò.mono {Æ:SD}(r:Ò K H Æ σ)(k:Kept H H'):Ò K H' Æ σ:=⟨r.1,λi d e=>let ⟨v,a,b⟩:=r.2 i d e;⟨v,a,b.mono k⟩⟩
theorem Ò.set {Æ:SD}{d:D}{v:V}(r:Ò K H Æ σ)(q:Ê K H d v)(i:G7):Ò K H (Æ.set i (some d)) (σ.set i (some v)):=⟨by simp [r.1],λj e h=>by
 by_cases z:i=j
 ·subst z;rw [dS] at h ⊢
  by_cases hl:i<Æ.length
  ·rw [R5 rfl,R5 hl] at h;rw [R5 rfl,R5 (by rw [<-r.1];exact hl)];cases h;exact⟨v,rfl,q⟩
  ·rw [R5 rfl,R3 hl] at h;cases h
 ·rw [J3 z] at h ⊢;exact r.2 j e h⟩
theorem Ò.clear1 {Æ:SD}(r:Ò K H Æ σ)(i:G7):Ò K H (Æ.set i none) (σ.set i none):=⟨by simp [r.1],λj e h=>by
 by_cases z:i=j
 ·subst z;rw [dS] at h;split at h
  ·split at h<;>cases h
  ·contradiction
 ·rw [J3 z] at h ⊢;exact r.2 j e h⟩
def jL:G0 G7->SD->SD
 | [],σ=>σ
 |j::js,σ=>jL js (σ.set j none)
theorem Ò.clear: ∀ (js:G0 G7) {Æ:SD} {σ:St},Ò K H Æ σ->Ò K H (jL js Æ) (wc js σ)
 | [],_,_,r=>r
 |j::js,_,_,r=>Ò.clear js (r.clear1 j)
abbrev KD:=D->HD->Prop
abbrev TED:=SD->HD->KD->Prop
abbrev TTD:=SD->HD->(N2->HD->Prop)->Prop
abbrev TAD:=SD->HD->(G0 D->HD->Prop)->Prop
abbrev RD2:=D->D->HD->KD->Prop
abbrev RDn:=G0 D->HD->KD->Prop
structure EndsD where
 nx:SD->HD->Prop
 rt:KD
 bk:SD->HD->Prop:=λ_ _=>False
 ct:SD->HD->Prop:=λ_ _=>False
abbrev TSD:=EndsD->SD->HD->Prop
abbrev TGD:=D->SD->HD->(SD->HD->Prop)->Prop
def LZ (K:G5)(H:Hp)(Qd:KD)(Q:VK):Prop:= ∀d v h' H',Kept H H'->É K h' H'->Ê K H' d v->Qd d h'->Q v H'
def LE (K:G5)(t:TED):TE:=λσ H Q=> ∃Æ h Qd,Ò K H Æ σ/\É K h H/\t Æ h Qd/\LZ K H Qd Q
def LT (K:G5)(t:TTD):TT:=λσ H Q=> ∃Æ h Qd,Ò K H Æ σ/\É K h H/\t Æ h Qd/\ ∀b h' H',Kept H H'->É K h' H'->Qd b h'->Q b H'
def LA (K:G5)(t:TAD):TA:=λσ H Q=> ∃Æ h Qd,Ò K H Æ σ/\É K h H/\t Æ h Qd/\ ∀ds vs h' H',Kept H H'->É K h' H'->Á K H' ds vs->Qd ds h'->Q vs H'
def LR (K:G5)(f:RD2):R2:=λx y H Q=> ∃dx dy h Qd,Ê K H dx x/\Ê K H dy y/\É K h H/\f dx dy h Qd/\LZ K H Qd Q
def LC (K:G5)(f:RDn):G0 V->Hp->VK->Prop:=λxs H Q=> ∃ds h Qd,Á K H ds xs/\É K h H/\f ds h Qd/\LZ K H Qd Q
def LG (K:G5)(g:TGD):TG:=λv σ H Q=> ∃d Æ h Qd,Ê K H d v/\Ò K H Æ σ/\É K h H/\g d Æ h Qd/\ ∀Û h' Â H',Kept H H'->Ò K H' Û Â->É K h' H'->Qd Û h'->Q Â H'
def LS (K:G5)(t:TSD):TS:=λŃ σ H=> ∃Æ h Dd,Ò K H Æ σ/\É K h H/\t Dd Æ h/\
 (∀Û h' Â H',Kept H H'->Ò K H' Û Â->É K h' H'->Dd.nx Û h'->Ń.nx Â H')/\LZ K H Dd.rt Ń.rt/\
 (∀Û h' Â H',Kept H H'->Ò K H' Û Â->É K h' H'->Dd.bk Û h'->Ń.bk Â H')/\(∀Û h' Â H',Kept H H'->Ò K H' Û Â->É K h' H'->Dd.ct Û h'->Ń.ct Â H')
theorem PE.imp {t t':TE}(h:PE X e t)(i: ∀σ H Q,t' σ H Q->t σ H Q):PE X e t':=λÀ s σ H Q I q=>h À s σ H Q I (i σ H Q q)
theorem PT.imp {t t':TT}(h:PT X e t)(i: ∀σ H Q,t' σ H Q->t σ H Q):PT X e t':=λÀ s σ H Q I q=>h À s σ H Q I (i σ H Q q)
theorem PW.imp {t t':TT}(h:PW X e t)(i: ∀σ H Q,t' σ H Q->t σ H Q):PW X e t':=λwh À s σ H Q I q=>h wh À s σ H Q I (i σ H Q q)
theorem PA.imp {e:G0 T8}{t t':TA}(h:PA X e t)(i: ∀σ H Q,t' σ H Q->t σ H Q):PA X e t':=λpos À s σ H Q I q=>h pos À s σ H Q I (i σ H Q q)
theorem PS.imp {e:A3}{t t':TS}(h:PS X e t)(i: ∀D σ H,t' D σ H->t D σ H):PS X e t':=λÀ s σ H D I q=>h À s σ H D I (i D σ H q)
theorem ś.imp {e:G0 A3}{t t':TS}(h:ś X e t)(i: ∀D σ H,t' D σ H->t D σ H):ś X e t':=λÀ s σ H D I q=>h À s σ H D I (i D σ H q)
theorem PG.imp {t t':TG}(h:PG X e t)(i: ∀v σ H Q,t' v σ H Q->t v σ H Q):PG X e t':=λÀ s σ H v u Q I r q=>h À s σ H v u Q I r (i v σ H Q q)
theorem ü.imp {f:G3->G3->Sem G3}{r r':R2}(h:ü X f r)(i: ∀x y H Q,r' x y H Q->r x y H Q):ü X f r':=λÀ s σ H x y v u Q I a b q=>h À s σ H x y v u Q I a b (i x y H Q q)
theorem è.imp {f:G3}{r r':G0 V->Hp->VK->Prop}(h:è X f r)(i: ∀xs H Q,r' xs H Q->r xs H Q):è X f r':=λÀ s σ H xs us Q I a q=>h À s σ H xs us Q I a (i xs H Q q)
def FG (i:G7):TED:=λσ h Q=> ∃d,σ[i]? =some (some d)/\Q d h
def dC (d:D):TED:=λ_ h Q=>Q d h
def Ŗ (f:RD2)(ta tb:TED):TED:=λσ h Q=>ta σ h λx h1=>tb σ h1 λy h2=>f x y h2 Q
def Vd:TAD:=λ_ h Q=>Q [] h
def wb (ta:TED)(tr:TAD):TAD:=λσ h Q=>ta σ h λx h1=>tr σ h1 λxs h2=>Q (x::xs) h2
def HI (t:TAD):TED:=λσ h Q=>t σ h λds h1=>ds.length<=sizeLine/\Q (.tup ds) h1
def Hb (t:TAD):TED:=λσ h Q=>t σ h λds h1=>ds.length<=sizeLine/\ ∀p,h1 p=none->Q (.lst p) (wg h1 p ds)
def Ĩ (r:RDn)(t:TAD):TED:=λσ h Q=>t σ h λds h1=>r ds h1 Q
def ZJ (t:TED):TTD:=λσ h Q=>t σ h λx h1=> ∃k,x= .bl k/\Q k h1
def Yi (r r':RD2)(ta tb tc:TED):TED:=λσ h Q=>ta σ h λx h1=>tb σ h1 λy h2=>r x y h2 λz h3=> ∃k,z= .bl k/\
 (if k=true then tc σ h3 λw h4=>r' y w h4 Q else Q (.bl false) h3)
def Oa (t u:TTD):TTD:=λσ h Q=>t σ h λc h1=>if c=true then u σ h1 Q else Q false h1
def ES (t u:TTD):TTD:=λσ h Q=>t σ h λc h1=>if c=true then Q true h1 else u σ h1 Q
def Di (t:TTD):TTD:=λσ h Q=>t σ h λc h1=>Q (!c) h1
def BH (ta tb:TED):TED:=λσ h Q=>ta σ h λx h1=> ∃c,x= .bl c/\if c=true then tb σ h1 Q else Q (.bl false) h1
def HJ (ta tb:TED):TED:=λσ h Q=>ta σ h λx h1=> ∃c,x= .bl c/\if c=true then Q (.bl true) h1 else tb σ h1 Q
def BI (ta:TED):TED:=λσ h Q=>ta σ h λx h1=> ∃c,x= .bl c/\Q (.bl (!c)) h1
def dIf (t:TTD)(ta tb:TED):TED:=λσ h Q=>t σ h λc h1=>if c=true then ta σ h1 Q else tb σ h1 Q
section
variable {K:G5}
theorem ET (i:G7): ∀σ H Q,LE K (FG i) σ H Q->KZ i σ H Q:=λσ H Q ⟨Æ,h,Qd,rs,rh,⟨d,e,q⟩,p⟩=>let ⟨v,e1,e2⟩:=rs.2 i d e;⟨v,e1,p d v h H (.refl H) rh e2 q⟩
theorem Hc {d:D}{v:V}(r: ∀H,Ê K H d v): ∀σ H Q,LE K (dC d) σ H Q->tC v σ H Q:=λσ H Q ⟨Æ,h,Qd,rs,rh,q,p⟩=>p d v h H (.refl H) rh (r H) q
variable {H:Hp}
theorem jK {H1:Hp}{Qd:KD}{Q:VK}(p:LZ K H Qd Q)(k:Kept H H1):LZ K H1 Qd Q:=λd v h' H' k'=>p d v h' H' (k.trans k')
variable {ta:TED}
theorem LE.bind {σ:St}{Æ:SD}{h:HD}{kd:KD}{k:VK}(rs:Ò K H Æ σ)(rh:É K h H)(t:ta Æ h kd)(f: ∀d v h' H',Kept H H'->Ò K H' Æ σ->É K h' H'->Ê K H' d v->kd d h'->k v H'):LE K ta σ H k:=
 ⟨Æ,h,kd,rs,rh,t,λd v h' H' kp r1 r2 q=>f d v h' H' kp (rs.mono kp) r1 r2 q⟩
theorem LT.bind {ta:TTD}{σ:St}{Æ:SD}{h:HD}{kd:N2->HD->Prop}{k:N2->Hp->Prop}(rs:Ò K H Æ σ)(rh:É K h H)(t:ta Æ h kd)(f: ∀b h' H',Kept H H'->Ò K H' Æ σ->É K h' H'->kd b h'->k b H'):LT K ta σ H k:=
 ⟨Æ,h,kd,rs,rh,t,λb h' H' kp r1 q=>f b h' H' kp (rs.mono kp) r1 q⟩
theorem LA.bind {ta:TAD}{σ:St}{Æ:SD}{h:HD}{kd:G0 D->HD->Prop}{k:G0 V->Hp->Prop}(rs:Ò K H Æ σ)(rh:É K h H)(t:ta Æ h kd)(f: ∀ds vs h' H',Kept H H'->Ò K H' Æ σ->É K h' H'->Á K H' ds vs->kd ds h'->k vs H'):LA K ta σ H k:=
 ⟨Æ,h,kd,rs,rh,t,λd v h' H' kp r1 r2 q=>f d v h' H' kp (rs.mono kp) r1 r2 q⟩
variable {tb:TED}
theorem Ob {f:RD2}: ∀σ H Q,LE K (Ŗ f ta tb) σ H Q->tOp (LR K f) (LE K ta) (LE K tb) σ H Q:=λσ H Q ⟨Æ,h,Qd,rs,rh,t,p⟩=>
 LE.bind rs rh t λd v h1 H1 k1 Ø Í r1 t1=>LE.bind Ø Í t1 λd2 v2 h2 H2 k2 ğ ó r2 t2=>⟨d,d2,h2,Qd,r1.mono k2,r2,ó,t2,jK p (k1.trans k2)⟩
theorem EU: ∀σ H Q,LA K Vd σ H Q->ku σ H Q:=λσ H Q ⟨Æ,h,Qd,rs,rh,t,p⟩=>p [] [] h H (.refl H) rh rfl t
theorem Oc {tr:TAD}: ∀σ H Q,LA K (wb ta tr) σ H Q->EB (LE K ta) (LA K tr) σ H Q:=λσ H Q ⟨Æ,h,Qd,rs,rh,t,p⟩=>
 LE.bind rs rh t λd v h1 H1 k1 Ø Í r1 t1=>LA.bind Ø Í t1 λds vs h2 H2 k2 ğ ó r2 t2=>p _ _ h2 H2 (k1.trans k2) ó (.cons (r1.mono k2) r2) t2
theorem EV {t:TAD}: ∀σ H Q,LE K (HI t) σ H Q->kH (LA K t) σ H Q:=λσ H Q ⟨Æ,h,Qd,rs,rh,t,p⟩=>
 LA.bind rs rh t λds vs h1 H1 k1 Ø Í r1 ⟨z,q⟩=>⟨by rw [<-r1.length];exact z,λa ha=>p (.tup ds) (.ref a) h1 _ (k1.trans (.new ha)) (Í.new ha) ⟨a,vs,rfl,jw,r1.mono (.new ha)⟩ q⟩
theorem EW {t:TAD}: ∀σ H Q,LE K (Hb t) σ H Q->kI (LA K t) σ H Q:=λσ H Q ⟨Æ,h,Qd,rs,rh,t,p⟩=>
 LA.bind rs rh t λds vs h1 H1 k1 Ø Í r1 ⟨z,q⟩=>⟨by rw [<-r1.length];exact z,λa ha=>p (.lst a) (.ref a) _ _ (k1.trans (.new ha)) (Í.newL ha r1) ⟨rfl,vs,jw⟩ (q a (Í.free ha))⟩
theorem EX {r:RDn}{t:TAD}: ∀σ H Q,LE K (Ĩ r t) σ H Q->tCB (LC K r) (LA K t) σ H Q:=λσ H Q ⟨Æ,h,Qd,rs,rh,t,p⟩=>
 LA.bind rs rh t λds vs h1 H1 k1 Ø Í r1 q=>⟨ds,h1,Qd,r1,Í,q,jK p k1⟩
theorem RJ {t:TED}: ∀σ H Q,LT K (ZJ t) σ H Q->Lz (LE K t) σ H Q:=λσ H Q ⟨Æ,h,Qd,rs,rh,t,p⟩=>
 LE.bind rs rh t λd v h1 H1 k1 Ø Í r1 ⟨k,e,q⟩=>by subst e;exact⟨k,r1,p k h1 H1 k1 Í q⟩
theorem BJ {t:TED}: ∀σ H Q,LT K (ZJ t) σ H Q->tB (LE K t) σ H Q:=λσ H Q ⟨Æ,h,Qd,rs,rh,t,p⟩=>
 LE.bind rs rh t λd v h1 H1 k1 Ø Í r1 ⟨k,e,q⟩=>by subst e;exact⟨k,r1,p k h1 H1 k1 Í q⟩
theorem Pc {r r':RD2}{tc:TED}: ∀σ H Q,LE K (Yi r r' ta tb tc) σ H Q->Rq (LR K r) (LR K r') (LE K ta) (LE K tb) (LE K tc) σ H Q:=λσ H Q ⟨Æ,h,Qd,rs,rh,t,p⟩=>
 LE.bind rs rh t λd v h1 H1 k1 Ø Í r1 t1=>LE.bind Ø Í t1 λd2 v2 h2 H2 k2 ğ ó r2 t2=>⟨d,d2,h2,_,r1.mono k2,r2,ó,t2,λd3 v3 h3 H3 k3 Ĉ r3 ⟨k,e,q⟩=>by
  subst e;refine⟨k,r3,?_⟩;cases k with
  |true=>
   rw [R5 rfl] at q ⊢;exact LE.bind (ğ.mono k3) Ĉ q λd4 v4 h4 H4 k4 Š ń r4 t4=>⟨d2,d4,h4,Qd,(r2.mono k3).mono k4,r4,ń,t4,jK p (k1.trans (k2.trans (k3.trans k4)))⟩
  |false=>
   rw [R3 D0] at q ⊢;exact p (.bl false) _ h3 H3 (k1.trans (k2.trans k3)) Ĉ rfl q⟩
variable {t:TTD}
theorem EY {u:TTD}: ∀σ H Q,LT K (Oa t u) σ H Q->ka (LT K t) (LT K u) σ H Q:=λσ H Q ⟨Æ,h,Qd,rs,rh,t,p⟩=>
 LT.bind rs rh t λb h1 H1 k1 Ø Í q=>by
  cases b with
  |true=>rw [R5 rfl] at q ⊢;exact⟨Æ,h1,Qd,Ø,Í,q,λb h' H' k=>p b h' H' (k1.trans k)⟩
  |false=>rw [R3 D0] at q ⊢;exact p _ _ _ k1 Í q
theorem HK {u:TTD}: ∀σ H Q,LT K (ES t u) σ H Q->tOr (LT K t) (LT K u) σ H Q:=λσ H Q ⟨Æ,h,Qd,rs,rh,t,p⟩=>
 LT.bind rs rh t λb h1 H1 k1 Ø Í q=>by
  cases b with
  |true=>rw [R5 rfl] at q ⊢;exact p _ _ _ k1 Í q
  |false=>rw [R3 D0] at q ⊢;exact⟨Æ,h1,Qd,Ø,Í,q,λb h' H' k=>p b h' H' (k1.trans k)⟩
theorem EZ: ∀σ H Q,LT K (Di t) σ H Q->kb (LT K t) σ H Q:=λσ H Q ⟨Æ,h,Qd,rs,rh,t,p⟩=>
 LT.bind rs rh t λb h1 H1 k1 Ø Í q=>p _ _ _ k1 Í q
theorem Sa: ∀σ H Q,LE K (BH ta tb) σ H Q->Ef (LE K ta) (LE K tb) σ H Q:=λσ H Q ⟨Æ,h,Qd,rs,rh,t,p⟩=>
 LE.bind rs rh t λd v h1 H1 k1 Ø Í r1 ⟨c,e,q⟩=>by
  subst e;refine⟨c,r1,?_⟩;cases c with
  |true=>rw [R5 rfl] at q ⊢;exact⟨Æ,h1,Qd,Ø,Í,q,jK p k1⟩
  |false=>rw [R3 D0] at q ⊢;exact p (.bl false) _ _ _ k1 Í rfl q
theorem HL: ∀σ H Q,LE K (HJ ta tb) σ H Q->kc (LE K ta) (LE K tb) σ H Q:=λσ H Q ⟨Æ,h,Qd,rs,rh,t,p⟩=>
 LE.bind rs rh t λd v h1 H1 k1 Ø Í r1 ⟨c,e,q⟩=>by
  subst e;refine⟨c,r1,?_⟩;cases c with
  |true=>rw [R5 rfl] at q ⊢;exact p (.bl true) _ _ _ k1 Í rfl q
  |false=>rw [R3 D0] at q ⊢;exact⟨Æ,h1,Qd,Ø,Í,q,jK p k1⟩
theorem Sb: ∀σ H Q,LE K (BI ta) σ H Q->Eg (LE K ta) σ H Q:=λσ H Q ⟨Æ,h,Qd,rs,rh,t,p⟩=>
 LE.bind rs rh t λd v h1 H1 k1 Ø Í r1 ⟨c,e,q⟩=>by subst e;exact⟨c,r1,p (.bl (!c)) _ _ _ k1 Í rfl q⟩
theorem HM: ∀σ H Q,LE K (dIf t ta tb) σ H Q->tIf (LT K t) (LE K ta) (LE K tb) σ H Q:=λσ H Q ⟨Æ,h,Qd,rs,rh,t,p⟩=>
 LT.bind rs rh t λb h1 H1 k1 Ø Í q=>by
  cases b with
  |true=>rw [R5 rfl] at q ⊢;exact⟨Æ,h1,Qd,Ø,Í,q,jK p k1⟩
  |false=>rw [R3 D0] at q ⊢;exact⟨Æ,h1,Qd,Ø,Í,q,jK p k1⟩
end
abbrev QE (X:Cx)(e:T8)(t:TED):Prop:=PE X e (LE X.K t)
abbrev QT (X:Cx)(e:T8)(t:TTD):Prop:=PT X e (LT X.K t)
abbrev QW (X:Cx)(e:T8)(t:TTD):Prop:=PW X e (LT X.K t)
abbrev QA (X:Cx)(es:G0 T8)(t:TAD):Prop:=PA X es (LA X.K t)
abbrev QS (X:Cx)(s:A3)(t:TSD):Prop:=PS X s (LS X.K t)
abbrev QSs (X:Cx)(s:G0 A3)(t:TSD):Prop:=ś X s (LS X.K t)
abbrev QG (X:Cx)(e:T8)(t:TGD):Prop:=PG X e (LG X.K t)
abbrev ô (X:Cx)(f:G3->G3->Sem G3)(r:RD2):Prop:=ü X f (LR X.K r)
abbrev JC (X:Cx)(f:G3)(r:RDn):Prop:=è X f (LC X.K r)
section
variable {X:Cx}{a b c e:T8}{es rest:G0 T8}{ta tb tc te:TED}{t u:TAD}{tt tu:TTD}{pos:Pos}{f r r':RD2}
theorem qv (i:G7){x:Str}(hN:X.N[i]? =some x:=by rfl)(hv:Vis X.env.scope x:=by first|exact H0 rfl|exact W0 (H0 rfl)|exact W0 (W0 rfl))(hd:(x==("__debug__" :Str))=false:=by decide)
 (hcd:(x==("__classdict__" :Str))=false:=by decide):QE X (.Name x pos) (FG i):=(Ea hN hv hd hcd).imp (ET i)
theorem kQ {i:P0}{j:G7}:QE X (.Constant (.int i) j pos) (dC (.int i)):=X0j.imp (Hc λ_=>rfl)
theorem qbl {i:N2}{j:G7}:QE X (.Constant (.bool i) j pos) (dC (.bl i)):=X0y.imp (Hc λ_=>rfl)
theorem uK {j:G7}:QE X (.Constant .none j pos) (dC .non):=X0k.imp (Hc λ_=>rfl)
theorem HN {x:Str}{i:P0}{tk:Tok}(hg:Gl X x)(hm:X.mg x=some (.int i tk))(hd:(x==("__debug__" :Str))=false:=by decide):QE X (.Name x pos) (dC (.int i)):=
 (Lp (v:= .int i) hg hm ⟨tk,rfl⟩ hd).imp (Hc λ_=>rfl)
theorem qop {op:pB}(ho:ô X (J4 op) f)(ha:QE X a ta)(hb:QE X b tb):QE X (.BinOp a op b pos) (Ŗ f ta tb):=(Hs ho ha hb).imp Ob
theorem uL {op:i0}(ho:ô X (N8 op) f)(ha:QE X a ta)(hb:QE X b tb)(hm:W5 op b=false):QE X (.Compare a [op] [b] pos) (Ŗ f ta tb):=(Ly ho ha hb hm).imp Ob
theorem HP {op:i0}(ho:ô X (N8 op) f)(ha:QE X a ta)(hb:QE X b tb)(hm:W5 op b=false):QT X (.Compare a [op] [b] pos) (ZJ (Ŗ f ta tb)):=
 (LB ho ha hb hm).imp λσ H Q h=>by
  obtain⟨Æ,h,Qd,rs,rh,t,p⟩:=RJ (t:=Ŗ f ta tb) σ H Q h;exact Ob σ H _ ⟨Æ,h,Qd,rs,rh,t,p⟩
theorem Sc {op ĳ:i0}(ho:ô X (N8 op) r)(ho':ô X (N8 ĳ) r')(ha:QE X a ta)(hb:QE X b tb)(hc:QE X c tc)(hm:k9 [op,ĳ] [b,c]=false:=by with_unfolding_all rfl):
 QE X (.Compare a [op,ĳ] [b,c] pos) (Yi r r' ta tb tc):=(Bz ho ho' ha hb hc hm).imp Pc
theorem Od {op ĳ:i0}(ho:ô X (N8 op) r)(ho':ô X (N8 ĳ) r')(ha:QE X a ta)(hb:QE X b tb)(hc:QE X c tc)(hm:k9 [op,ĳ] [b,c]=false:=by with_unfolding_all rfl):
 QT X (.Compare a [op,ĳ] [b,c] pos) (ZJ (Yi r r' ta tb tc)):=(BA ho ho' ha hb hc hm).imp λσ H Q h=>by
 obtain⟨Æ,h,Qd,rs,rh,t,p⟩:=RJ (t:=Yi r r' ta tb tc) σ H Q h;exact Pc σ H _ ⟨Æ,h,Qd,rs,rh,t,p⟩
theorem HQ (ha:QE X a ta)(he: ∀whole,isTrue a X.env whole=(do let v <-whole;cV a.pos;aF [v] (lJ v)):=by intro _;rfl):QT X a (ZJ ta):=(Eb ha he).imp BJ
theorem HR (ha:QT X a tt):QW X (.BoolOp .And [a] pos) tt:=Lr ha
theorem uM (ha:QT X a tt):QW X (.BoolOp .Or [a] pos) tt:=Ec ha
theorem HS (ha:QT X a tt)(hb:QW X (.BoolOp .And (b::rest) pos) tu):QW X (.BoolOp .And (a::b::rest) pos) (Oa tt tu):=(Ed ha hb).imp EY
theorem uN (ha:QT X a tt)(hb:QW X (.BoolOp .Or (b::rest) pos) tu):QW X (.BoolOp .Or (a::b::rest) pos) (ES tt tu):=(Hm ha hb).imp HK
theorem HU (ha:QT X a tt):QT X (.UnaryOp .Not a pos) (Di tt):=(Ee ha).imp EZ
theorem uO {op:BoolOp}(ha:QE X a ta):QE X (.BoolOp op [a] pos) ta:=Eh ha
theorem uP (ha:QE X a ta)(hb:QE X (.BoolOp .And (b::rest) pos) tb):QE X (.BoolOp .And (a::b::rest) pos) (BH ta tb):=(Ei ha hb).imp Sa
theorem qor (ha:QE X a ta)(hb:QE X (.BoolOp .Or (b::rest) pos) tb):QE X (.BoolOp .Or (a::b::rest) pos) (HJ ta tb):=(Hn ha hb).imp HL
theorem uQ (ha:QE X a ta):QE X (.UnaryOp .Not a pos) (BI ta):=(Ej ha).imp Sb
theorem qif {c:T8}(hc:QT X c tt)(ha:QE X a ta)(hb:QE X b tb):QE X (.IfExp c a b pos) (dIf tt ta tb):=(Br hc ha hb).imp HM
theorem Sd:QA X [] Vd:=ě.imp EU
theorem Oe (ha:QE X e te)(hr:QA X es t)(hs:R6 (e::es) X.env=(false,A0 e X.env)::R6 es X.env:=by rfl):QA X (e::es) (wb te t):=(vG ha hr hs).imp Oc
theorem uR {k:G7}(h:QA X es t):QE X (.Tuple es k pos) (HI t):=(EC h).imp EV
theorem uS (h:QA X es t):QE X (.List es pos) (Hb t):=(ED h).imp EW
end
def QX:TSD:=λD σ h=>D.nx σ h
def vz (t u:TSD):TSD:=λD σ h=>t {D with nx:=u D} σ h
def Of (te:TED):TSD:=λD σ h=>te σ h λ_ h1=>D.nx σ h1
def BK (te:TED):TSD:=λD σ h=>te σ h D.rt
def FH (c:TTD)(t u:TSD):TSD:=λD σ h=>c σ h λb h1=>if b=true then t D σ h1 else u D σ h1
def Bk (i:G7)(te:TED):TSD:=λD σ h=>te σ h λd h1=>D.nx (σ.set i (some d)) h1
def HV (te:TED)(g:TGD):TSD:=λD σ h=>te σ h λx h1=>g x σ h1 D.nx
def HW (i j:G7)(ta:TAD):TSD:=λD σ h=>ta σ h λds h1=> ∃v w,ds= [v,w]/\D.nx ((σ.set i (some v)).set j (some w)) h1
def gN (i:G7):TGD:=λd σ h Q=>Q (σ.set i (some d)) h
def gT2 (i j:G7):TGD:=λd σ h Q=> ∃x y,d= .tup [x,y]/\Q ((σ.set i (some x)).set j (some y)) h
section
variable {K:G5}
theorem LS.of {t:TSD}{Ń:Ž}{σ:St}{H:Hp}{Æ:SD}{h:HD}{Dd:EndsD}(rs:Ò K H Æ σ)(rh:É K h H)(q:t Dd Æ h)
 (nx: ∀Û h' Â H',Kept H H'->Ò K H' Û Â->É K h' H'->Dd.nx Û h'->Ń.nx Â H')(rt:LZ K H Dd.rt Ń.rt)
 (bk: ∀Û h' Â H',Kept H H'->Ò K H' Û Â->É K h' H'->Dd.bk Û h'->Ń.bk Â H')(ct: ∀Û h' Â H',Kept H H'->Ò K H' Û Â->É K h' H'->Dd.ct Û h'->Ń.ct Â H'):LS K t Ń σ H:=⟨Æ,h,Dd,rs,rh,q,nx,rt,bk,ct⟩
theorem Og: ∀D σ H,LS K QX D σ H->Ek D σ H:=λD σ H ⟨Æ,h,Dd,rs,rh,q,nx,_⟩=>nx Æ h σ H (.refl H) rs rh q
theorem Se {t u:TSD}: ∀D σ H,LS K (vz t u) D σ H->kf (LS K t) (LS K u) D σ H:=λD σ H ⟨Æ,h,Dd,rs,rh,q,nx,rt,bk,ct⟩=>
 LS.of rs rh q (λÛ h' Â H' k rs' Ĕ q'=>⟨Û,h',Dd,rs',Ĕ,q',λa b c d k'=>nx a b c d (k.trans k'),jK rt k,λa b c d k'=>bk a b c d (k.trans k'),λa b c d k'=>ct a b c d (k.trans k')⟩) rt bk ct
variable {te:TED}
theorem Oh: ∀D σ H,LS K (Of te) D σ H->El (LE K te) D σ H:=λD σ H ⟨Æ,h,Dd,rs,rh,q,nx,rt,bk,ct⟩=>
 LE.bind rs rh q λd v h1 H1 k1 Ø Í r1 q1=>nx _ _ _ _ k1 Ø Í q1
theorem Sf: ∀D σ H,LS K (BK te) D σ H->kg (LE K te) D σ H:=λD σ H ⟨Æ,h,Dd,rs,rh,q,nx,rt,bk,ct⟩=>⟨Æ,h,Dd.rt,rs,rh,q,rt⟩
theorem HX {c:TTD}{t u:TSD}: ∀D σ H,LS K (FH c t u) D σ H->kh (LT K c) (LS K t) (LS K u) D σ H:=λD σ H ⟨Æ,h,Dd,rs,rh,q,nx,rt,bk,ct⟩=>
 LT.bind rs rh q λb h1 H1 k Ø Í q1=>by
  cases b with
  |true=>rw [R5 rfl] at q1 ⊢;exact⟨Æ,h1,Dd,Ø,Í,q1,λa b c d k'=>nx a b c d (k.trans k'),jK rt k,λa b c d k'=>bk a b c d (k.trans k'),λa b c d k'=>ct a b c d (k.trans k')⟩
  |false=>rw [R3 D0] at q1 ⊢;exact⟨Æ,h1,Dd,Ø,Í,q1,λa b c d k'=>nx a b c d (k.trans k'),jK rt k,λa b c d k'=>bk a b c d (k.trans k'),λa b c d k'=>ct a b c d (k.trans k')⟩
theorem Pd {i:G7}: ∀D σ H,LS K (Bk i te) D σ H->Bv (LE K te) (yn i) D σ H:=λD σ H ⟨Æ,h,Dd,rs,rh,q,nx,rt,bk,ct⟩=>
 LE.bind rs rh q λd v h1 H1 k1 Ø Í r1 q1=>nx _ _ _ _ k1 (Ø.set r1 i) Í q1
theorem Sg {g:TGD}: ∀D σ H,LS K (HV te g) D σ H->Bv (LE K te) (LG K g) D σ H:=λD σ H ⟨Æ,h,Dd,rs,rh,q,nx,rt,bk,ct⟩=>
 LE.bind rs rh q λd v h1 H1 k1 Ø Í r1 q1=>⟨d,Æ,h1,_,r1,Ø,Í,q1,λa b c e k'=>nx a b c e (k1.trans k')⟩
theorem Sh {i j:G7}{ta:TAD}: ∀D σ H,LS K (HW i j ta) D σ H->kj i j (LA K ta) D σ H:=λD σ H ⟨Æ,h,Dd,rs,rh,q,nx,rt,bk,ct⟩=>
 LA.bind rs rh q λds vs h1 H1 k1 Ø Í r1 ⟨x,y,e,q1⟩=>by
  subst e;obtain⟨v,r,e,r2,r3⟩:=(show ∃v r,vs=v::r/\Ê K H1 x v/\Á K H1 [y] r from r1);obtain⟨w,r',e',r4,r5⟩:=(show ∃v r',r=v::r'/\Ê K H1 y v/\Á K H1 [] r' from r3);cases (show r'= [] from r5);subst e' e;exact⟨v,w,rfl,nx _ _ _ _ k1 ((Ø.set r2 i).set r4 j) Í q1⟩
theorem Oi (i:G7): ∀v σ H Q,LG K (gN i) v σ H Q->yn i v σ H Q:=λv σ H Q ⟨d,Æ,h,Qd,r,rs,rh,q,p⟩=>p _ _ _ _ (.refl H) (rs.set r i) rh q
theorem vI {H:Hp}{x y:D}{vs:G0 V}(r:Á K H [x,y] vs): ∃v w,vs= [v,w]/\Ê K H x v/\Ê K H y w:=by
 obtain⟨v,r1,e,r2,r3⟩:=(show ∃v r,vs=v::r/\Ê K H x v/\Á K H [y] r from r);obtain⟨w,z,e',r4,r5⟩:=(show ∃v z,r1=v::z/\Ê K H y v/\Á K H [] z from r3);cases (show z= [] from r5);subst e' e;exact⟨v,w,rfl,r2,r4⟩
theorem jQ {H:Hp}{x:D}{vs:G0 V}(r:Á K H [x] vs): ∃v,vs= [v]/\Ê K H x v:=by
 obtain⟨v,r1,e,r2,r3⟩:=(show ∃v r,vs=v::r/\Ê K H x v/\Á K H [] r from r);cases (show r1= [] from r3);exact⟨v,e,r2⟩
theorem Si (i j:G7): ∀v σ H Q,LG K (gT2 i j) v σ H Q->TW K 2 (QQ (yn i) (QQ (yn j) TV)) v σ H Q:=λv σ H Q ⟨d,Æ,h,Qd,r,rs,rh,⟨x,y,e,q⟩,p⟩=>by
 subst e;obtain⟨a,vs,e,hH,r1⟩:=(show ∃a vs,v= .ref a/\H a=some (.tup vs)/\Á K H [x,y] vs from r);obtain⟨v1,v2,e1,r2,r3⟩:=vI r1;subst e e1;exact⟨a,[v1,v2],rfl,ç.of hH,rfl,v1,[v2],rfl,v2,[],rfl,rfl,p _ _ _ _ (.refl H) ((rs.set r2 i).set r3 j) rh q⟩
end
section
variable {X:Cx}{st:A3}{sts:G0 A3}{t u:TSD}{e:T8}{te:TED}{pos:Pos}
theorem Sj:QSs X [] QX:=X0a.imp Og
theorem Oj (h1:QS X st t)(h2:QSs X sts u):QSs X (st::sts) (vz t u):=(Bs h1 h2).imp Se
theorem Sk (h1:QS X st t):QSs X [st] t:=Ls h1
theorem HY (he:QE X e te)(hs:V3 e none pos.line X.env=pure false:=by rfl):QS X (.Expr e pos) (Of te):=(Lt he hs).imp Oh
theorem uU (he:QE X e te):QS X (.Return (some e) pos) (BK te):=(Em he).imp Sf
theorem uV {c:T8}{a b:G0 A3}{tc:TTD}(hc:QT X c tc)(ha:QSs X a t)(hb:QSs X b u):QS X (.If c a b pos) (FH tc t u):=(Ho hc ha hb).imp HX
variable {i:G7}{x:Str}
theorem uW {pos':Pos}(hN:X.N.Nodup)(hi:X.N[i]? =some x)(hx:Loc X.env.scope x)(he:QE X e te)(hs:V3 e (some (.Name x pos')) pos.line X.env=pure false:=by rfl)
 (hf:X.fn x=true\/X.env.scope.names.lookup x=some .local:=by first|exact .inl rfl|exact .inr rfl|assumption):QS X (.Assign [.Name x pos'] e pos) (Bk i te):=(Ep hN hi hx he hs hf).imp Pd
theorem Ol (hN:X.N.Nodup)(hi:X.N[i]? =some x)(hx:Loc X.env.scope x)(hf:X.fn x=true\/X.env.scope.names.lookup x=some .local:=by first|exact .inl rfl|exact .inr rfl|assumption):QG X (.Name x pos) (gN i):=
 (vF hN hi hx hf).imp (Oi i)
theorem Sl {j:G7}{y:Str}{p1 p2:Pos}{k:G7}(hc:X.calm=true)(hN:X.N.Nodup)(hi:X.N[i]? =some x)(hj:X.N[j]? =some y)(hx:Loc X.env.scope x)(hy:Loc X.env.scope y)
 (hf:X.fn x=true\/X.env.scope.names.lookup x=some .local:=by first|exact .inl rfl|exact .inr rfl|assumption)(hf2:X.fn y=true\/X.env.scope.names.lookup y=some .local:=by first|exact .inl rfl|exact .inr rfl|assumption):
 QG X (.Tuple [.Name x p1,.Name y p2] k pos) (gT2 i j):=(Rl hc (Jb (vF hN hi hx hf) (Jb (vF hN hj hy hf2) QR))).imp (Si i j)
theorem xa {tg:T8}{g:TGD}(he:QE X e te)(hg:QG X tg g)(hs:cP [tg] e pos.line X.env=pure false:=by rfl)(hsw:cQ [tg] e X.env=pure none:=by rfl)
 (h1:(cY [tg] X.env).map (·.2)= [cX tg X.env]:=by rfl):QS X (.Assign [tg] e pos) (HV te g):=(Eo he hg hs hsw h1).imp Sg
theorem xb {j:G7}{y:Str}{a b:T8}{ta:TAD}{px py pt:Pos}{kt k2 Τ}(hc:X.calm=true)(hN:X.N.Nodup)(hi:X.N[i]? =some x)(hj:X.N[j]? =some y)(hij:i≠j)
 (hx:X.env.scope.names.lookup x=some .local)(hy:X.env.scope.names.lookup y=some .local)(ha:QA X [a,b] ta)
 (hw:cQ [.Tuple [.Name x px,.Name y py] kt pt] (.Tuple [a,b] k2 Τ) X.env=pure (some [x,y]))
 (hs:cP [.Tuple [.Name x px,.Name y py] kt pt] (.Tuple [a,b] k2 Τ) pos.line X.env=pure false:=by rfl):
 QS X (.Assign [.Tuple [.Name x px,.Name y py] kt pt] (.Tuple [a,b] k2 Τ) pos) (HW i j ta):=(Eq hc hN hi hj hij hx hy ha hw hs).imp Sh
end
abbrev ItD:=HD->P7 (G0 D)
def BL (K:G5)(H:Hp)(j:ItD)(J:It):Prop:= ∀H' h',Kept H H'->É K h' H'-> ∀ds,j h'=some ds-> ∀i:G7,
 (∀d,ds[i]? =some d->J.go i H'/\ ∀x Ġ,J.yld i H' x Ġ->Kept H' Ġ/\É K h' Ġ/\Ê K Ġ d x)/\(ds.length<=i->J.stop i H')
abbrev TID:=SD->HD->(ItD->HD->Prop)->Prop
def LI (K:G5)(t:TID):TI:=λσ H R=> ∃Æ h Rd,Ò K H Æ σ/\É K h H/\t Æ h Rd/\ ∀j J h' H',Kept H H'->É K h' H'->BL K H' j J->Rd j h'->R J H'
abbrev QI (X:Cx)(tg iter:T8)(t:TID):Prop:=PI X tg iter (LI X.K t)
theorem PI.imp {t t':TI}(h:PI X tg e t)(i: ∀σ H R,t' σ H R->t σ H R):PI X tg e t':=λÀ s σ H R I q=>h À s σ H R I (i σ H R q)
def iL (te:TED):TID:=λσ h R=>te σ h λx h1=> ∃a,x= .lst a/\R (λh=>h a) h1
def iR1 (ta:TAD):TID:=λσ h R=>ta σ h λds h1=> ∃n:P0,ds= [.int n]/\ -(2^62)<=n/\n<2^62/\R (λ_=>some ((P4 n.toNat).map λ(k:G7)=>D.int (k:P0))) h1
section
variable {K:G5}
theorem Xp (H:Hp)(a:P1):BL K H (λh=>h a) (Itl K a):=λH' h' k rh ds e i=>by
 obtain⟨vs,hv,r⟩:=rh a ds e;refine⟨λd hd=> ?_,λhl=>⟨vs,ò.of hv,by rw [<-r.length];exact hl⟩⟩;obtain⟨v,e1,e2⟩:=r.get hd;refine⟨⟨vs,v,ò.of hv,e1⟩,λx Ġ ⟨eH,hx⟩=> ?_⟩;subst eH;have:=hx vs (ò.of hv);rw [e1] at this;cases this;exact⟨.refl _,rh,e2⟩
theorem BM {H:Hp}{a:P1}{vs:G0 V}{ds:G0 D}(hv:H a=some (.tup vs))(r:Á K H ds vs):BL K H (λ_=>some ds) (Itt K a):=λH' h' k rh ds' e i=>by
 cases e;have Ů:=k.tup _ _ hv;have r':=r.mono k;refine⟨λd hd=> ?_,λhl=>⟨vs,ç.of Ů,by rw [<-r.length];exact hl⟩⟩;obtain⟨v,e1,e2⟩:=r'.get hd;refine⟨⟨vs,v,ç.of Ů,e1⟩,λx Ġ ⟨eH,hx⟩=> ?_⟩;subst eH;have:=hx vs (ç.of Ů);rw [e1] at this;cases this;exact⟨.refl _,rh,e2⟩
theorem Dj (H:Hp)(lo:P0)(n:G7)(ds:G0 D)(hd:ds=(P4 n).map λ(k:G7)=>D.int (lo+(k:P0))):BL K H (λ_=>some ds) (Itr lo n):=λH' h' k rh ds' e i=>by
 cases e;subst hd;refine⟨λd hd=> ?_,λhl=>(show n<=i by simpa using hl)⟩;rw [D1] at hd;have hi:i<n:=by
  by_cases z:i<n
  ·exact z
  ·rw [V9 (by simpa using z)] at hd;cases hd
 rw [I0 hi] at hd;cases hd;refine⟨hi,λx Ġ ⟨eH,hx⟩=> ?_⟩;subst eH hx;exact⟨.refl _,rh,rfl⟩
theorem Om {te:TED}: ∀σ H R,LI K (iL te) σ H R->Et K (LE K te) σ H R:=λσ H R ⟨Æ,h,Rd,rs,rh,q,p⟩=>
 LE.bind rs rh q λd v h1 H1 k1 Ø Í r1 ⟨a,e,q1⟩=>by
  subst e;obtain⟨e,vs,hv⟩:=(show v= .ref a/\ ∃vs,H1 a=some (.lst vs) from r1);exact⟨a,e,⟨vs,ò.of hv⟩,p _ _ _ _ k1 Í (Xp H1 a) q1⟩
theorem HZ {ta:TAD}: ∀σ H R,LI K (iR1 ta) σ H R->Eu (LA K ta) σ H R:=λσ H R ⟨Æ,h,Rd,rs,rh,q,p⟩=>
 LA.bind rs rh q λds vs h1 H1 k1 Ø Í r1 ⟨n,e,b1,b2,q1⟩=>by
  subst e;obtain⟨v,e,r2⟩:=jQ r1;cases (show v= .int n from r2);exact⟨n,e,b1,b2,p _ _ _ _ k1 Í (Dj H1 0 n.toNat _ (by simp)) q1⟩
end
def Sm (ti:TID)(g:TGD)(tb:TSD):TSD:=λD σ h=>ti σ h λj h1=> ∃ (n:G7) (W:G7->SD->HD->Prop),W 0 σ h1/\ ∀i Â h',W i Â h'-> ∃ds,j h'=some ds/\ds.length<=n/\(ds.length<=i->D.nx Â h')/\
 ∀d,ds[i]? =some d->g d Â h' λÝ h2=>tb {D with nx:=λć h3=> ∃h4,Sub h4 h3/\W (i+1) ć h4,ct:=λć h3=> ∃h4,Sub h4 h3/\W (i+1) ć h4,bk:=D.nx} Ý h2
variable {ti:TID}
theorem Sn {g:TGD}{tb:TSD}: ∀D σ H,LS K (Sm ti g tb) D σ H->km (LI K ti) (LG K g) (LS K tb) D σ H:=λD σ H ⟨Æ,h,Dd,rs,rh,q,nx,rt,bk,ct⟩=>by
 refine⟨Æ,h,_,rs,rh,q,λj J h1 H1 k1 Í jo ⟨n,W,w0,turn⟩=> ?_⟩;refine⟨λi m Â H'=>m=n-i/\Kept H1 H'/\ ∃Û h',Ò K H' Û Â/\É K h' H'/\W i Û h',⟨n-0,rfl,.refl _,Æ,h1,rs.mono k1,Í,w0⟩,?_⟩;rintro i m Â H' ⟨rfl,kp,Û,h',rs',Ĕ,w⟩;obtain⟨ds,ej,hn,stop,go⟩:=turn i Û h' w;have Ź:=jo H' h' kp Ĕ ds ej i
 by_cases hi:i<ds.length
 ·obtain⟨g1,y1⟩:=Ź.1 ds[i] (G2 hi);refine .inr ⟨g1,λÝ H2=>Kept H1 H2/\ ∃ê h2,Ò K H2 ê Ý/\É K h2 H2/\W (i+1) ê h2,λÝ H2 ⟨k2,a,b,c,d,e⟩=>⟨n-(i+1),by omega,rfl,k2,a,b,c,d,e⟩,λx Ġ y=> ?_⟩;obtain⟨k2,ó,r2⟩:=y1 x Ġ y;refine⟨ds[i],Û,h',_,r2,rs'.mono k2,ó,go ds[i] (G2 hi),λX1l h3 ć H3 k3 š Ĉ q3=> ?_⟩;have kk:Kept H H3:=k1.trans (kp.trans (k2.trans k3));have kk1:Kept H1 H3:=kp.trans (k2.trans k3);exact⟨X1l,h3,_,š,Ĉ,q3,λa b c d k4 Š ń ⟨h4,sb,w4⟩=>⟨kk1.trans k4,a,h4,Š,ń.sub sb,w4⟩,jK rt kk,λa b c d k4 Š ń q4=>nx a b c d (kk.trans k4) Š ń q4,λa b c d k4 Š ń ⟨h4,sb,w4⟩=>⟨kk1.trans k4,a,h4,Š,ń.sub sb,w4⟩⟩
 ·exact .inl ⟨Ź.2 (aA.mp hi),nx _ _ _ _ (k1.trans kp) rs' Ĕ (stop (aA.mp hi))⟩
def Jd:TTD:=λ_ h Q=>Q true h
def JD (bind:D->SD->SD->Prop)(js:G0 G7)(ti:TID)(tt:TTD)(te:TED):TED:=λσ h Q=>ti σ h λj h1=> ∃ (n:G7) (W:G7->G0 D->HD->Prop),W 0 [] h1/\ ∀i ys h',W i ys h'->ys.length<=sizeLine/\
 ∃ds,j h'=some ds/\ds.length<=n/\(ds.length<=i-> ∀p,h' p=none->Q (.lst p) (wg h' p ys))/\
  ∀d,ds[i]? =some d-> ∃Ý,bind d (jL js σ) Ý/\tt Ý h' λb h3=>if b=true then te Ý h3 λy h4=> ∃h5,Sub h5 h4/\W (i+1) (ys++ [y]) h5 else ∃h5,Sub h5 h3/\W (i+1) ys h5
def bN (i:G7):D->SD->SD->Prop:=λd σ Ý=>Ý=σ.set i (some d)
def b2 (i j:G7):D->SD->SD->Prop:=λd σ Ý=> ∃x y,d= .tup [x,y]/\Ý=(σ.set i (some x)).set j (some y)
theorem So: ∀σ H Q,LT K Jd σ H Q->kO σ H Q:=λσ H Q ⟨Æ,h,Qd,rs,rh,q,p⟩=>p true h H (.refl H) rh q
def RK (K:G5)(js:G0 G7)(bind:D->SD->SD->Prop)(g:TG):Prop:= ∀ (σ:St) (Æ ê:SD) (H:Hp) (d:D) (v:V) (Q:St->Hp->Prop),Ò K H (jL js Æ) (wc js σ)->Ê K H d v->bind d (jL js Æ) ê->
 (∀Ý,Agree (wc js σ) Ý->Ò K H ê Ý->Q Ý H)->g v (wc js σ) H Q
variable {i:G7}
theorem BN (hi:i∈js):RK K js (bN i) (yn i):=λσ Æ ê H d v Q rs r b q=>by
 cases (show ê=_ from b);exact q _ (.set v λu=>zQ js σ i u hi) (rs.set r i)
theorem Sr {j:G7}(hi:i∈js)(hj:j∈js)(hij:i≠j):RK K js (b2 i j) (TW K 2 (QQ (yn i) (QQ (yn j) TV))):=λσ Æ ê H d v Q rs r b q=>by
 obtain⟨x,y,e,e2⟩:=b;subst e e2;obtain⟨a,vs,e,hH,r1⟩:=(show ∃a vs,v= .ref a/\H a=some (.tup vs)/\Á K H [x,y] vs from r);obtain⟨v1,v2,e1,r2,r3⟩:=vI r1;subst e e1;refine⟨a,[v1,v2],rfl,ç.of hH,rfl,v1,[v2],rfl,v2,[],rfl,rfl,q _ (.trans (.set v1 λu=>zQ js σ i u hi) (.set v2 λu z=> ?_)) ((rs.set r2 i).set r3 j)⟩;rw [J3 hij] at z;exact zQ js σ j u hj z
theorem BO {bind:D->SD->SD->Prop}{tt:TTD}{te:TED}(hb:RK K js bind g): ∀σ H Q,LE K (JD bind js ti tt te) σ H Q->tLC js (LI K ti) g (LT K tt) (LE K te) σ H Q:=
 λσ H Q ⟨Æ,h,Qd,rs,rh,q,p⟩=>by
  refine⟨Æ,h,_,rs,rh,q,λj J h1 H1 k1 Í jo ⟨n,W,w0,turn⟩=> ?_⟩;refine⟨λi m ys H'=>m=n-i/\Kept H1 H'/\ ∃ds h',Á K H' ds ys/\É K h' H'/\W i ds h',⟨n-0,rfl,.refl _,[],h1,rfl,Í,w0⟩,?_⟩;rintro i m ys H' ⟨rfl,kp,yd,h',ry,Ĕ,w⟩;obtain⟨hz,ds,ej,hn,stop,go⟩:=turn i yd h' w;refine⟨by rw [<-ry.length];exact hz,?_⟩;have Ź:=jo H' h' kp Ĕ ds ej i;have kk:Kept H H':=k1.trans kp
  by_cases hi:i<ds.length
  ·obtain⟨g1,y1⟩:=Ź.1 ds[i] (G2 hi);refine .inr ⟨g1,λx Ġ y=> ?_⟩;obtain⟨k2,ó,r2⟩:=y1 x Ġ y;obtain⟨ê,bd,q2⟩:=go ds[i] (G2 hi);refine hb σ Æ ê Ġ ds[i] x _ (((rs.mono (kk.trans k2))).clear js) r2 bd λÝ ag ğ=>⟨ag,?_⟩
   refine LT.bind ğ ó q2 λb h3 H3 k3 š Ĉ q3=> ?_
   cases b with
   |true=>
    rw [R5 rfl] at q3 ⊢;refine LE.bind š Ĉ q3 λd4 v4 h4 H4 k4 Š ń r4 ⟨h5,sb,w5⟩=>⟨n-(i+1),by omega,rfl,kp.trans (k2.trans (k3.trans k4)),yd++ [d4],h5,(ry.mono (k2.trans (k3.trans k4))).append (.cons r4 .nil),ń.sub sb,w5⟩
   |false=>
    rw [R3 D0] at q3 ⊢;obtain⟨h5,sb,w5⟩:=q3;exact⟨n-(i+1),by omega,rfl,kp.trans (k2.trans k3),yd,h5,ry.mono (k2.trans k3),Ĉ.sub sb,w5⟩
  ·refine .inl ⟨Ź.2 (aA.mp hi),λa ha=>p (.lst a) (.ref a) _ _ (kk.trans (.new ha)) (Ĕ.newL ha ry) ⟨rfl,ys,jw⟩ (stop (aA.mp hi) a (Ĕ.free ha))⟩
theorem wq {C:P1}{s₀:G6}{H₀:Hp}{ex:G0 P1}{p:Pos}(hN:X.N.Nodup)(hx:X.N[i]? =some x)(hl:scope.names.lookup x=some .local\/scope.names.lookup x=some .cell):
 PG (yW X scope C s₀ H₀ ex) (.Name x p) (yn i):=by
 rcases hl with z|z
 ·exact vF hN hx (.inl (nB z)) (.inr (nB z))
 ·exact vF hN hx (.inr (Jz z)) (.inl (by show (scope.names.lookup x==some aT)=true;rw [z];rfl))
section
variable {X:Cx}{tg e iter elt:T8}{te:TED}{ti:TID}{g:TGD}{tb:TSD}{tt:TTD}{pos:Pos}{ta:TAD}{scope:U2}{js:G0 G7}{ifs:G0 T8}
theorem On (he:QE X e te):QI X tg e (iL te):=(Lu he).imp Om
theorem Ka {p:Pos}{a:T8}(hg:Gl X "range")(hm:X.mg "range" =none)(ha:QA X [a] ta)(hs:R6 [a] X.env= [(false,A0 a X.env)]:=by rfl):QI X tg (.Call (.Name "range" p) [a] [] pos) (iR1 ta):=(Rm hg hm ha hs).imp HZ
theorem xf {body:G0 A3}(hp:oA (S2 X.prog X.w) X.A X.env X.xe)(hc:X.calm=true)(hi:QI X tg iter ti)(hg:QG X tg g)(hb:QSs X body tb)(hs: ∀x,T5 iter X.env x=pure x:=by intro _;rfl):
 QS X (.For tg iter body [] pos) (Sm ti g tb):=(Ev hp hc hi hg hb hs).imp Sn
theorem Oo:ē X [] (LT X.K Jd):=λÀ s σ H Q I h=>LU À s σ H Q I (So σ H Q h)
theorem Op {c:T8}(hc:QT X c tt):ē X [c] (LT X.K tt):=LV hc
theorem qlc {i:G7}{x:Str}{p:Pos}(hc:X.calm=true)(S:Ì X scope js)(hi:QI X (.Name x p) iter ti)(hj:i∈js)(hN:X.N.Nodup)(hx:X.N[i]? =some x)(hl:scope.names.lookup x=some .local\/scope.names.lookup x=some .cell)
 (ht: ∀X',jh X scope X'->ē X' ifs (LT X'.K tt))(he: ∀X',jh X scope X'->QE X' elt te)(hs: ∀x,T5 iter X.env x=pure x:=by intro _;rfl):
 QE X (.ListComp elt [⟨.Name x p,iter,ifs,0⟩] scope pos) (JD (bN i) js ti tt te):=
 (EQ hc S hi (λX' hX=>by obtain⟨C,s₀,H₀,ex,rfl⟩:=hX;exact wq hN hx hl) (λX' hX=>by have:=ht X' hX;obtain⟨C,s₀,H₀,ex,rfl⟩:=hX;exact this)
  (λX' hX=>by have:=he X' hX;obtain⟨C,s₀,H₀,ex,rfl⟩:=hX;exact this) hs).imp (BO (BN hj))
theorem xg {i j:G7}{x y:Str}{p1 p2 p3:Pos}{k:G7}(hc:X.calm=true)(S:Ì X scope js)(hi:QI X (.Tuple [.Name x p1,.Name y p2] k p3) iter ti)(hj:i∈js)(hj2:j∈js)(hij:i≠j)(hN:X.N.Nodup)(hx:X.N[i]? =some x)(hy:X.N[j]? =some y)
 (hl:scope.names.lookup x=some .local\/scope.names.lookup x=some .cell)(hl2:scope.names.lookup y=some .local\/scope.names.lookup y=some .cell)
 (ht: ∀X',jh X scope X'->ē X' ifs (LT X'.K tt))(he: ∀X',jh X scope X'->QE X' elt te)(hs: ∀x,T5 iter X.env x=pure x:=by intro _;rfl):
 QE X (.ListComp elt [⟨.Tuple [.Name x p1,.Name y p2] k p3,iter,ifs,0⟩] scope pos) (JD (b2 i j) js ti tt te):=
 (EQ hc S hi (λX' hX=>by
  obtain⟨C,s₀,H₀,ex,rfl⟩:=hX;exact Rl hc (Jb (wq hN hx hl) (Jb (wq hN hy hl2) QR))) (λX' hX=>by have:=ht X' hX;obtain⟨C,s₀,H₀,ex,rfl⟩:=hX;exact this)
  (λX' hX=>by have:=he X' hX;obtain⟨C,s₀,H₀,ex,rfl⟩:=hX;exact this) hs).imp (BO (Sr hj hj2 hij))
end
def ä (K:G5)(ĩ:RDn):Sp:=λvs H Q _=>LC K ĩ vs H Q
theorem Oq {ĩ:RDn}{t:TAD}{E:XK}: ∀σ H Q,LE K (Ĩ ĩ t) σ H Q->EE (ä K ĩ) [] E (LA K t) σ H Q:=λσ H Q ⟨Æ,h,Qd,rs,rh,t,p⟩=>
 LA.bind rs rh t λds vs h1 H1 k1 Ø Í r1 q=>by rw [A8];exact⟨ds,h1,Qd,r1,Í,q,jK p k1⟩
section
variable {X:Cx}{k:G7}{f:P1}{fd:M9}{ps:G0 Str}{ĩ:RDn}{x:Str}{p pos:Pos}{e:T8}{es:G0 T8}{t:TAD}
theorem Kb (F:Ë X.prog X.w X.K X.mg X.base á k f fd ps (ä X.K ĩ))(hr:ß k X.A)(hg:Gl X x)(hm:X.mg x=some (.ref f))(hk:aX X.K (.ref f)=true)(hb:Binds X.K fd ps [])
 (ha:QA X (e::es) t)(hdb:(x==("__debug__" :Str))=false:=by decide)(he:R6 (e::es) X.env=(false,A0 e X.env)::R6 es X.env:=by rfl)(hpl:(Q7 pos (R6 es X.env)).any (·.1)=false:=by rfl):
 QE X (.Call (.Name x p) (e::es) [] pos) (Ĩ ĩ t):=(LF F hr hg hm hk hb .nil HF ha hdb he hpl).imp Oq
theorem Ss {id:U4}{r:RDn}(hc:JC X (.builtin id) r)(hg:Gl X x)(hm:X.mg x=none)(hv:Q1 x=some (.builtin id))(ha:QA X (e::es) t)(hn:x≠ "__name__" :=by decide)(hdb:(x==("__debug__" :Str))=false:=by decide)
 (he:R6 (e::es) X.env=(false,A0 e X.env)::R6 es X.env:=by rfl)(hpl:(Q7 pos (R6 es X.env)).any (·.1)=false:=by rfl):QE X (.Call (.Name x p) (e::es) [] pos) (Ĩ r t):=(GZ hc hg hm hv ha hn hdb he hpl).imp EX
theorem Os {T:U4}{r:RDn}(hc:JC X (.type T) r)(hg:Gl X x)(hm:X.mg x=none)(hv:Q1 x=some (.type T))(ha:QA X (e::es) t)(hn:x≠ "__name__" :=by decide)(hdb:(x==("__debug__" :Str))=false:=by decide)
 (he:R6 (e::es) X.env=(false,A0 e X.env)::R6 es X.env:=by rfl)(hpl:(Q7 pos (R6 es X.env)).any (·.1)=false:=by rfl):QE X (.Call (.Name x p) (e::es) [] pos) (Ĩ r t):=(Rw hc hg hm hv ha hn hdb he hpl).imp EX
end
def vA (N:G0 Str)(ds:G0 D):SD:=ds.map some++S9 (N.length-ds.length) none
theorem Dk {N:G0 Str}{vs:G0 V}(r:Á K H ds vs):Ò K H (vA N ds) (start N vs):=by
 have hl:=r.length;refine⟨by unfold vA start;simp [hl],λi d e=> ?_⟩;unfold vA at e;unfold start
 by_cases hi:i<ds.length
 ·rw [O8 (by simpa using hi),D1] at e;cases q:ds[i]? with
  |none=>rw [q] at e;cases e
  |some d'=>
   rw [q] at e;cases e;obtain⟨v,e1,e2⟩:=r.get q;exact⟨v,by rw [O8 (by simpa [<-hl] using hi),D1,e1];rfl,e2⟩
 ·rw [B8 (by simpa using hi),lA] at e;split at e<;>cases e
def Bl (Q:KD):EndsD:= {nx:=λ_ h=> ∃h',Sub h' h/\Q .non h',rt:=λd h=> ∃h',Sub h' h/\Q d h'}
section
variable {P:T7}{w:C1}{K:G5}{mg:Str->P7 G3}{base:L8}
theorem ã.okD {x qual:Str}{st:A3}{f:P1}{fd:M9}{N ps:G0 Str}{k:G7}{ĩ:RDn}(F:ã K x qual st f fd)(S:Ã N ps (jd st))(len: ∀ds h Q,ĩ ds h Q->ds.length=ps.length)
 (tb:TSD)(ė: ∀ (ù:G3) (A:B2) (outer:G0 Env) (s:G6) (H:Hp) (E:XK),ß k (A.deeper (gZ qual (jd st) s.heap.objs.size f ù))->QSs (BC á P w K mg base N qual (jd st) f ù A outer s H E).nox (wz st) tb)
 (read: ∀ds h Q,ĩ ds h Q->tb (Bl Q) (vA N ds) h):Ë P w K mg base á (k+1) f fd ps (ä K ĩ):=by
 refine F.ok S (λvs H Q E h=> ?_) (λù A outer s H vs Q E hr h=> ?_)
 ·obtain⟨ds,h,Qd,r,rh,q,p⟩:=h;rw [<-r.length];exact len _ _ _ q
 ·obtain⟨ds,h,Qd,r,rh,q,p⟩:=h;refine⟨_,ė ù A outer s H E hr,vA N ds,h,Bl Qd,Dk r,rh,read ds h Qd q,λÛ h' Â H' k rs' Ĕ ⟨h2,sb,q'⟩=>p .non .non h2 H' k (Ĕ.sub sb) rfl q',λd v h' H' k Ĕ r' ⟨h2,sb,q'⟩=>p d v h2 H' k (Ĕ.sub sb) r' q',λ_ _ _ _ _ _ _ z=>z.elim,λ_ _ _ _ _ _ _ z=>z.elim⟩
end
section
variable {X:Cx}{iter elt:T8}{te:TED}{ti:TID}{tt:TTD}{pos ï:Pos}{scope:U2}{js:G0 G7}{ifs:G0 T8}
theorem Su {i k:G7}{x y:Str}{p py:Pos}(hc:X.calm=true)(hN:X.N.Nodup)(hk:X.N[k]? =some y)(hy:Loc X.env.scope y)(S:Ì X scope js)(hi:QI X (.Name x p) iter ti)(hj:i∈js)(hx:X.N[i]? =some x)(hl:scope.names.lookup x=some .local\/scope.names.lookup x=some .cell)
 (ht: ∀X',jh X scope X'->ē X' ifs (LT X'.K tt))(he: ∀X',jh X scope X'->QE X' elt te)
 (hsw:V3 (.ListComp elt [⟨.Name x p,iter,ifs,0⟩] scope pos) (some (.Name y py)) ï.line X.env=pure true:=by rfl)
 (hf:X.fn y=true\/X.env.scope.names.lookup y=some .local:=by first|exact .inl rfl|exact .inr rfl|assumption)(hs: ∀x,T5 iter X.env x=pure x:=by intro _;rfl):
 QS X (.Assign [.Name y py] (.ListComp elt [⟨.Name x p,iter,ifs,0⟩] scope pos) ï) (Bk k (JD (bN i) js ti tt te)):=by
 have base:PS X (.Assign [.Name y py] (.ListComp elt [⟨.Name x p,iter,ifs,0⟩] scope pos) ï) (Bv (tLC js (LI X.K ti) (yn i) (LT X.K tt) (LE X.K te)) (yn k)):=
  Pb hc S hi (λX' hX=>by obtain⟨C,s₀,H₀,ex,rfl⟩:=hX;exact wq hN hx hl) (λX' hX=>by have:=ht X' hX;obtain⟨C,s₀,H₀,ex,rfl⟩:=hX;exact this)
   (λX' hX=>by have:=he X' hX;obtain⟨C,s₀,H₀,ex,rfl⟩:=hX;exact this) (vF hN hk hy hf) hsw hs
 exact base.imp λD σ H h=>by
  obtain⟨Æ,hd,Qd,rs,rh,t,p⟩:=Pd (K:=X.K) D σ H h;exact BO (BN hj) σ H _ ⟨Æ,hd,Qd,rs,rh,t,p⟩
theorem Ot {i j k:G7}{x1 x2 y:Str}{p1 p2 p3 py:Pos}{kk:G7}(hc:X.calm=true)(hN:X.N.Nodup)(hk:X.N[k]? =some y)(hy:Loc X.env.scope y)(S:Ì X scope js)(hi:QI X (.Tuple [.Name x1 p1,.Name x2 p2] kk p3) iter ti)(hj:i∈js)(hj2:j∈js)(hij:i≠j)(hx:X.N[i]? =some x1)(hx2:X.N[j]? =some x2)
 (hl:scope.names.lookup x1=some .local\/scope.names.lookup x1=some .cell)(hl2:scope.names.lookup x2=some .local\/scope.names.lookup x2=some .cell)
 (ht: ∀X',jh X scope X'->ē X' ifs (LT X'.K tt))(he: ∀X',jh X scope X'->QE X' elt te)
 (hsw:V3 (.ListComp elt [⟨.Tuple [.Name x1 p1,.Name x2 p2] kk p3,iter,ifs,0⟩] scope pos) (some (.Name y py)) ï.line X.env=pure true:=by rfl)
 (hf:X.fn y=true\/X.env.scope.names.lookup y=some .local:=by first|exact .inl rfl|exact .inr rfl|assumption)(hs: ∀x,T5 iter X.env x=pure x:=by intro _;rfl):
 QS X (.Assign [.Name y py] (.ListComp elt [⟨.Tuple [.Name x1 p1,.Name x2 p2] kk p3,iter,ifs,0⟩] scope pos) ï) (Bk k (JD (b2 i j) js ti tt te)):=by
 have base:PS X (.Assign [.Name y py] (.ListComp elt [⟨.Tuple [.Name x1 p1,.Name x2 p2] kk p3,iter,ifs,0⟩] scope pos) ï) (Bv (tLC js (LI X.K ti) (TW X.K 2 (QQ (yn i) (QQ (yn j) TV))) (LT X.K tt) (LE X.K te)) (yn k)):=
  Pb hc S hi (λX' hX=>by obtain⟨C,s₀,H₀,ex,rfl⟩:=hX;exact Rl hc (Jb (wq hN hx hl) (Jb (wq hN hx2 hl2) QR))) (λX' hX=>by have:=ht X' hX;obtain⟨C,s₀,H₀,ex,rfl⟩:=hX;exact this)
   (λX' hX=>by have:=he X' hX;obtain⟨C,s₀,H₀,ex,rfl⟩:=hX;exact this) (vF hN hk hy hf) hsw hs
 exact base.imp λD σ H h=>by
  obtain⟨Æ,hd,Qd,rs,rh,t,p⟩:=Pd (K:=X.K) D σ H h;exact BO (Sr hj hj2 hij) σ H _ ⟨Æ,hd,Qd,rs,rh,t,p⟩
end
def dIn (i':G7)(ti:TID)(tt:TTD)(te:TED)(V:G0 D->HD->Prop)(ys:G0 D):SD->HD->Prop:=λσ h=>ti σ h λj h1=> ∃ (n:G7) (W:G7->G0 D->HD->Prop),W 0 ys h1/\ ∀i ys h',W i ys h'->ys.length<=sizeLine/\
 ∃ds,j h'=some ds/\ds.length<=n/\(ds.length<=i->V ys h')/\
  ∀d,ds[i]? =some d->tt (σ.set i' (some d)) h' λb h3=>if b=true then te (σ.set i' (some d)) h3 λy h4=> ∃h5,Sub h5 h4/\W (i+1) (ys++ [y]) h5 else ∃h5,Sub h5 h3/\W (i+1) ys h5
def BP (bind:D->SD->SD->Prop)(js:G0 G7)(ti:TID)(tt:TTD)(i':G7)(Ĵ:TID)(Ľ:TTD)(te:TED):TED:=λσ h Q=>ti σ h λj h1=> ∃ (n:G7) (W:G7->G0 D->HD->Prop),W 0 [] h1/\ ∀i ys h',W i ys h'->ys.length<=sizeLine/\
 ∃ds,j h'=some ds/\ds.length<=n/\(ds.length<=i-> ∀p,h' p=none->Q (.lst p) (wg h' p ys))/\
  ∀d,ds[i]? =some d-> ∃Ý,bind d (jL js σ) Ý/\tt Ý h' λb h3=>if b=true then dIn i' Ĵ Ľ te (λý h6=> ∃h5,Sub h5 h6/\W (i+1) ý h5) ys Ý h3 else ∃h5,Sub h5 h3/\W (i+1) ys h5
def RL (K:G5)(js:G0 G7)(i':G7)(bind:D->SD->SD->Prop)(g:TG):Prop:= ∀ (σ:St) (Æ ê:SD) (H:Hp) (d:D) (v:V) (Q:St->Hp->Prop),Ò K H (jL js Æ) (wc js σ)->Ê K H d v->bind d (jL js Æ) ê->
 (∀Ý,Agree (wc js σ) Ý->(∀u,¬Ý[i']? =some (some u))->Ò K H ê Ý->Q Ý H)->g v (wc js σ) H Q
theorem Sv {i':G7}(hi:i∈js)(hi':i'∈js)(hne:i≠i'):RL K js i' (bN i) (yn i):=λσ Æ ê H d v Q rs r b q=>by
 cases (show ê=_ from b);refine q _ (.set v λu=>zQ js σ i u hi) (λu z=> ?_) (rs.set r i);rw [J3 hne] at z;exact zQ js σ i' u hi' z
theorem Sw {bind:D->SD->SD->Prop}{i':G7}{Ĵ:TID}{tt Ľ:TTD}{te:TED}(hb:RL K js i' bind g): ∀σ H Q,LE K (BP bind js ti tt i' Ĵ Ľ te) σ H Q->HH js (LI K ti) g (LT K tt) (LI K Ĵ) (yn i') (LT K Ľ) (LE K te) σ H Q:=
 λσ H Q ⟨Æ,h,Qd,rs,rh,q,p⟩=>by
  refine⟨Æ,h,_,rs,rh,q,λj J h1 H1 k1 Í jo ⟨n,W,w0,turn⟩=> ?_⟩;refine⟨λi m ys H'=>m=n-i/\Kept H1 H'/\ ∃ds h',Á K H' ds ys/\É K h' H'/\W i ds h',⟨n-0,rfl,.refl _,[],h1,rfl,Í,w0⟩,?_⟩;rintro i m ys H' ⟨rfl,kp,yd,h',ry,Ĕ,w⟩;obtain⟨hz,ds,ej,hn,stop,go⟩:=turn i yd h' w;refine⟨by rw [<-ry.length];exact hz,?_⟩;have Ź:=jo H' h' kp Ĕ ds ej i;have kk:Kept H H':=k1.trans kp
  by_cases hi:i<ds.length
  ·obtain⟨g1,y1⟩:=Ź.1 ds[i] (G2 hi);refine .inr ⟨g1,λx Ġ y=> ?_⟩;obtain⟨k2,ó,r2⟩:=y1 x Ġ y;obtain⟨ê,bd,q2⟩:=go ds[i] (G2 hi);refine hb σ Æ ê Ġ ds[i] x _ (((rs.mono (kk.trans k2))).clear js) r2 bd λÝ ag un ğ=>⟨ag,?_⟩
   refine LT.bind ğ ó q2 λb h3 H3 k3 š Ĉ q3=> ?_
   cases b with
   |true=>
    rw [R5 rfl] at q3 ⊢
    -- Ś second clause
    refine⟨ê,h3,_,š,Ĉ,q3,λj2 J2 h4 H4 k4 ń jo2 ⟨n2,W2,w20,X0M⟩=> ?_⟩;refine⟨λi2 m2 ys2 H5=>m2=n2-i2/\Kept H4 H5/\ ∃ds h5,Á K H5 ds ys2/\É K h5 H5/\W2 i2 ds h5,⟨n2-0,rfl,.refl _,yd,h4,ry.mono (k2.trans (k3.trans k4)),ń,w20⟩,?_⟩;rintro i2 m2 ys2 H5 ⟨rfl,kp5,yd5,h5,ry5,rh5,w5⟩;obtain⟨hz5,ds5,ej5,hn5,X0N,go5⟩:=X0M i2 yd5 h5 w5;refine⟨by rw [<-ry5.length];exact hz5,?_⟩;have jo5:=jo2 H5 h5 kp5 rh5 ds5 ej5 i2;have kk5:Kept H1 H5:=kp.trans (k2.trans (k3.trans (k4.trans kp5)))
    by_cases hi5:i2<ds5.length
    ·obtain⟨g5,y5⟩:=jo5.1 ds5[i2] (G2 hi5);refine .inr ⟨g5,λx6 H6 yy6=> ?_⟩;obtain⟨k6,rh6,r6⟩:=y5 x6 H6 yy6;refine⟨.set x6 un,?_⟩;have rs6:=(š.mono (k4.trans (kp5.trans k6))).set r6 i';refine LT.bind rs6 rh6 (go5 ds5[i2] (G2 hi5)) λb h7 H7 k7 rs7 rh7 q7=> ?_
     cases b with
     |true=>
      rw [R5 rfl] at q7 ⊢;exact LE.bind rs7 rh7 q7 λd8 v8 h8 H8 k8 rs8 rh8 r8 ⟨h9,sb,w9⟩=>⟨n2-(i2+1),by omega,rfl,kp5.trans (k6.trans (k7.trans k8)),yd5++ [d8],h9,(ry5.mono (k6.trans (k7.trans k8))).append (.cons r8 .nil),rh8.sub sb,w9⟩
     |false=>
      rw [R3 D0] at q7 ⊢;obtain⟨h9,sb,w9⟩:=q7;exact⟨n2-(i2+1),by omega,rfl,kp5.trans (k6.trans k7),yd5,h9,ry5.mono (k6.trans k7),rh7.sub sb,w9⟩
    ·obtain⟨h9,sb,w9⟩:=X0N (aA.mp hi5);exact .inl ⟨jo5.2 (aA.mp hi5),n-(i+1),by omega,rfl,kk5,yd5,h9,ry5,rh5.sub sb,w9⟩
   |false=>
    rw [R3 D0] at q3 ⊢;obtain⟨h5,sb,w5⟩:=q3;exact⟨n-(i+1),by omega,rfl,kp.trans (k2.trans k3),yd,h5,ry.mono (k2.trans k3),Ĉ.sub sb,w5⟩
  ·refine .inl ⟨Ź.2 (aA.mp hi),λa ha=>p (.lst a) (.ref a) _ _ (kk.trans (.new ha)) (Ĕ.newL ha ry) ⟨rfl,ys,jw⟩ (stop (aA.mp hi) a (Ĕ.free ha))⟩
section
variable {X:Cx}{iter å elt:T8}{te:TED}{ti Ĵ:TID}{tt Ľ:TTD}{pos:Pos}{scope:U2}{js:G0 G7}{ifs Ğ:G0 T8}
theorem xh {i i':G7}{x y:Str}{p py:Pos}(hc:X.calm=true)(S:Ì X scope js)(hi:QI X (.Name x p) iter ti)(hj:i∈js)(hj':i'∈js)(hne:i≠i')(hN:X.N.Nodup)(hx:X.N[i]? =some x)(hy:X.N[i']? =some y)
 (hl:scope.names.lookup x=some .local\/scope.names.lookup x=some .cell)(hl':scope.names.lookup y=some .local\/scope.names.lookup y=some .cell)
 (ht: ∀X',jh X scope X'->ē X' ifs (LT X'.K tt))(hi': ∀X',jh X scope X'->QI X' (.Name y py) å Ĵ)(ht': ∀X',jh X scope X'->ē X' Ğ (LT X'.K Ľ))(he: ∀X',jh X scope X'->QE X' elt te)
 (hs: ∀x,T5 iter X.env x=pure x:=by intro _;rfl)(hs': ∀env x,T5 å env x=pure x:=by intro _ _;rfl):
 QE X (.ListComp elt [⟨.Name x p,iter,ifs,0⟩,⟨.Name y py,å,Ğ,0⟩] scope pos) (BP (bN i) js ti tt i' Ĵ Ľ te):=
 (show PE X _ (HH js (LI X.K ti) (yn i) (LT X.K tt) (LI X.K Ĵ) (yn i') (LT X.K Ľ) (LE X.K te)) from ER hc S hi (λX' hX=>by obtain⟨C,s₀,H₀,ex,rfl⟩:=hX;exact wq hN hx hl) (λX' hX=>by have:=ht X' hX;obtain⟨C,s₀,H₀,ex,rfl⟩:=hX;exact this) (λX' hX=>by have:=hi' X' hX;obtain⟨C,s₀,H₀,ex,rfl⟩:=hX;exact this)
  (λX' hX=>by obtain⟨C,s₀,H₀,ex,rfl⟩:=hX;exact wq hN hy hl') (λX' hX=>by have:=ht' X' hX;obtain⟨C,s₀,H₀,ex,rfl⟩:=hX;exact this)
  (λX' hX=>by have:=he X' hX;obtain⟨C,s₀,H₀,ex,rfl⟩:=hX;exact this) hs hs').imp (Sw (Sv hj hj' hne))
end
def xi:RD2:=λx y h Q=>match x,y with
 | .int i,.int j=>Q (.int (i+j)) h
 | .tup a,.tup b=>a.length+b.length<=sizeLine/\Q (.tup (a++b)) h
 | .lst a,.lst b=> ∃xs ys,h a=some xs/\h b=some ys/\xs.length+ys.length<=sizeLine/\ ∀p,h p=none->Q (.lst p) (wg h p (xs++ys))
 |_,_=>False
def kT:RD2:=λx y h Q=>match x,y with
 | .int i,.int j=>Q (.int (i-j)) h
 |_,_=>False
def kU:RD2:=λx y h Q=>match x,y with
 | .int i,.int j=>Φ i j/\Q (.int (i*j)) h
 | .lst a,.int k=> ∃xs,h a=some xs/\ -(2^63)<=k/\k<2^63/\xs.length*k.toNat<=sizeLine/\ ∀p,h p=none->Q (.lst p) (wg h p (S9 k.toNat xs).flatten)
 |_,_=>False
def xj:RD2:=λx y h Q=>match x,y with
 | .int i,.int j=>0<j/\Q (.int (i%j)) h
 |_,_=>False
def Kc:RD2:=λx y h Q=>match x,y with
 | .int i,.int j=>TY i j/\Q (.int (i / j)) h
 |_,_=>False
def kZ:RD2:=λx y h Q=>match x,y with
 | .int i,.int j=>kq i j/\Q (.int (i^j.toNat)) h
 |_,_=>False
def FI (p:P0->P0->N2):RD2:=λx y h Q=>match x,y with
 | .int i,.int j=>Q (.bl (p i j)) h
 |_,_=>False
def eqD:RD2:=λx y h Q=>match x,y with
 | .int i,.int j=>Q (.bl (decide (i=j))) h
 | .bl i,.bl j=>Q (.bl (decide (i=j))) h
 | .str i,.str j=>Q (.bl (decide (i=j))) h
 |_,_=>False
def neD:RD2:=λx y h Q=>match x,y with
 | .int i,.int j=>Q (.bl (!decide (i=j))) h
 | .bl i,.bl j=>Q (.bl (!decide (i=j))) h
 | .str i,.str j=>Q (.bl (!decide (i=j))) h
 |_,_=>False
section
variable {X:Cx}
theorem Uf {f:G3->G3->Sem G3}{C:P0->P0->Prop}{g:P0->P0->V}{gd:P0->P0->D}{r:RD2}(ho:ü X f (rI C g))(hg: ∀i j H,Ê X.K H (gd i j) (g i j))
 (hr: ∀x y h Q,r x y h Q-> ∃i j,x= .int i/\y= .int j/\C i j/\Q (gd i j) h):ô X f r:=ho.imp λx y H Q ⟨dx,dy,h,Qd,rx,ry,rh,q,p⟩=>by
 obtain⟨i,j,e1,e2,c,q'⟩:=hr dx dy h Qd q;subst e1 e2;exact⟨i,j,rx,ry,c,p _ _ _ _ (.refl H) rh (hg i j H) q'⟩
theorem Zf {f:G3->G3->Sem G3}{g:P0->P0->V}{gd:P0->P0->D}{r:RD2}(ho:ü X f (rI0 g))(hg: ∀i j H,Ê X.K H (gd i j) (g i j))
 (hr: ∀x y h Q,r x y h Q-> ∃i j,x= .int i/\y= .int j/\Q (gd i j) h):ô X f r:=ho.imp λx y H Q ⟨dx,dy,h,Qd,rx,ry,rh,q,p⟩=>by
 obtain⟨i,j,e1,e2,q'⟩:=hr dx dy h Qd q;subst e1 e2;exact⟨i,j,rx,ry,p _ _ _ _ (.refl H) rh (hg i j H) q'⟩
theorem Xq:ô X (J4 .Sub) kT:=Zf (gd:=λi j=> .int (i-j)) Ew (λ_ _ _=>rfl) λx y h Q q=>by
 cases x<;>first|exact False.elim q|(cases y<;>first|exact False.elim q|exact⟨_,_,rfl,rfl,q⟩)
theorem Zg:ô X (J4 .Mod) xj:=Uf (gd:=λi j=> .int (i%j)) Ex (λ_ _ _=>rfl) λx y h Q q=>by
 cases x<;>first|exact False.elim q|(cases y<;>first|exact False.elim q|exact⟨_,_,rfl,rfl,q.1,q.2⟩)
theorem Ou:ô X (J4 .FloorDiv) Kc:=Uf (gd:=λi j=> .int (i / j)) Lv (λ_ _ _=>rfl) λx y h Q q=>by
 cases x<;>first|exact False.elim q|(cases y<;>first|exact False.elim q|exact⟨_,_,rfl,rfl,q.1,q.2⟩)
theorem FJ:ô X (J4 .Pow) kZ:=Uf (gd:=λi j=> .int (i^j.toNat)) Ey (λ_ _ _=>rfl) λx y h Q q=>by
 cases x<;>first|exact False.elim q|(cases y<;>first|exact False.elim q|exact⟨_,_,rfl,rfl,q.1,q.2⟩)
theorem Ug {p:P0->P0->N2}: ∀x y h Q,FI p x y h Q-> ∃i j,x= .int i/\y= .int j/\Q (.bl (p i j)) h:=λx y h Q q=>by
 cases x<;>first|exact False.elim q|(cases y<;>first|exact False.elim q|exact⟨_,_,rfl,rfl,q⟩)
theorem BQ:ô X (N8 .Lt) (FI λi j=>decide (i<j)):=Zf (gd:=λi j=> .bl (decide (i<j))) Hu (λ_ _ _=>rfl) Ug
theorem Uh:ô X (N8 .LtE) (FI λi j=>decide (i<=j)):=Zf (gd:=λi j=> .bl (decide (i<=j))) Hv (λ_ _ _=>rfl) Ug
theorem Sx:ô X (N8 .Gt) (FI λi j=>decide (j<i)):=Zf (gd:=λi j=> .bl (decide (j<i))) Hw (λ_ _ _=>rfl) Ug
theorem Ov:ô X (N8 .GtE) (FI λi j=>decide (j<=i)):=Zf (gd:=λi j=> .bl (decide (j<=i))) Hx (λ_ _ _=>rfl) Ug
theorem AS {α:Type}[DecidableEq α]{f:α->V}(hf: ∀a b,f a=f b->a=b)(a b:α):decide (f a=f b)=decide (a=b):=by
 by_cases h:a=b
 ·subst h;simp
 ·rw [R8 h,R8 (λe=>h (hf a b e))]
theorem ą:ô X (N8 .Eq) eqD:=X0z.imp λx y H Q ⟨dx,dy,h,Qd,rx,ry,rh,q,p⟩=>by
 cases dx<;>first|exact False.elim q|(cases dy<;>first|exact False.elim q|skip)
 all_goals first
  |(cases (show x= .int _ from rx);cases (show y= .int _ from ry);refine⟨rfl,p _ _ _ _ (.refl H) rh ?_ q⟩;rw [AS (f:=V.int) (λa b e=>by cases e;rfl)];rfl)
  |(cases (show x= .bl _ from rx);cases (show y= .bl _ from ry);refine⟨rfl,p _ _ _ _ (.refl H) rh ?_ q⟩;rw [AS (f:=V.bl) (λa b e=>by cases e;rfl)];rfl)
  |(cases (show x= .str _ from rx);cases (show y= .str _ from ry);refine⟨rfl,p _ _ _ _ (.refl H) rh ?_ q⟩;rw [AS (f:=V.str) (λa b e=>by cases e;rfl)];rfl)
theorem ĵ:ô X (N8 .NotEq) neD:=X0A.imp λx y H Q ⟨dx,dy,h,Qd,rx,ry,rh,q,p⟩=>by
 cases dx<;>first|exact False.elim q|(cases dy<;>first|exact False.elim q|skip)
 all_goals first
  |(cases (show x= .int _ from rx);cases (show y= .int _ from ry);refine⟨rfl,p _ _ _ _ (.refl H) rh ?_ q⟩;rw [AS (f:=V.int) (λa b e=>by cases e;rfl)];rfl)
  |(cases (show x= .bl _ from rx);cases (show y= .bl _ from ry);refine⟨rfl,p _ _ _ _ (.refl H) rh ?_ q⟩;rw [AS (f:=V.bl) (λa b e=>by cases e;rfl)];rfl)
  |(cases (show x= .str _ from rx);cases (show y= .str _ from ry);refine⟨rfl,p _ _ _ _ (.refl H) rh ?_ q⟩;rw [AS (f:=V.str) (λa b e=>by cases e;rfl)];rfl)
def Sy (K:G5):R2:=λx y H Q=> ∃a b xs ys,x= .ref a/\y= .ref b/\ç K H a xs/\ç K H b ys/\xs= []/\Q (.ref b) H
theorem ζ:ü X (J4 .Add) (Sy X.K):=by
 intro À s σ H x y v u Q I rx ry h;obtain⟨a,b,xs,ys,rfl,rfl,ha,hb,hx,q⟩:=h;cases rx;cases ry;obtain⟨its,r1,p1,_⟩:=I.tuple ha;obtain⟨Ĝ,r2,p2,_⟩:=I.tuple hb;have hv:its= []:=r1.nil_iff.mpr hx;obtain⟨⟨cls,dd,data,sl⟩,ho,hc,n,hd⟩:=id p1;obtain⟨⟨X0D,Ŷ,G0L,ŷ⟩,ho2,hc2,n2,hd2⟩:=id p2;simp only at hc hd hc2 hd2;subst hc hd hc2 hd2;exact pI ⟨_,ho,rfl⟩ ⟨_,ho2,rfl⟩ lB oK dO dF (cS _ _)
  (tuple_addW0 a b its.toArray Ĝ.toArray n n2 dd Ŷ sl ŷ (by simp [hv])) ⟨ho,ho2,.ref b,H,I,rfl,q⟩
theorem zS:ô X (J4 .Add) xi:=(X0l.or (X0c.or (ζ.or EK))).imp λx y H Q ⟨dx,dy,h,Qd,rx,ry,rh,q,p⟩=>by
 cases dx<;>first|exact False.elim q|(cases dy<;>first|exact False.elim q|skip)
 ·exact .inl ⟨_,_,rx,ry,p (.int _) _ _ _ (.refl H) rh rfl q⟩
 ·rename_i ds es;obtain⟨a,vs,e1,h1,r1⟩:=(show ∃a vs,x= .ref a/\H a=some (.tup vs)/\Á X.K H ds vs from rx);obtain⟨b,us,e2,h2,r2⟩:=(show ∃a vs,y= .ref a/\H a=some (.tup vs)/\Á X.K H es vs from ry);subst e1 e2;obtain⟨hz,q⟩:=q
  by_cases hv:vs= []
  ·subst hv;have e:ds= []:=X6.mp r1.length;subst e;exact .inr (.inr (.inl ⟨a,b,[],us,rfl,rfl,ç.of h1,ç.of h2,rfl,p (.tup es) _ _ _ (.refl H) rh ⟨b,us,rfl,h2,r2⟩ q⟩))
  ·refine .inr (.inl ⟨a,b,vs,us,rfl,rfl,ç.of h1,ç.of h2,hv,by rw [<-r1.length,<-r2.length];exact hz,λe=> ?_,λ_ c hc=> ?_⟩)
   ·subst e;have e:es= []:=X6.mp r2.length;subst e;rw [A8] at q;exact p (.tup ds) _ _ _ (.refl H) rh ⟨a,vs,rfl,h1,r1⟩ q
   ·exact p (.tup (ds++es)) _ _ _ (.new hc) (rh.new hc) ⟨c,vs++us,rfl,jw,(r1.append r2).mono (.new hc)⟩ q
 ·rename_i a b;obtain⟨xs,ys,h1,h2,hz,q⟩:=q;obtain⟨vs,e1,r1⟩:=rh a xs h1;obtain⟨us,e2,r2⟩:=rh b ys h2;refine .inr (.inr (.inr ⟨a,b,vs,us,rx.1,ry.1,e1,e2,by rw [<-r1.length,<-r2.length];exact hz,λc hc=> ?_⟩));exact p (.lst c) _ _ _ (.new hc) (rh.newL hc (r1.append r2)) ⟨rfl,_,jw⟩ (q c (rh.free hc))
theorem Á.flat {K:G5}{H:Hp}{ds:G0 D}{vs:G0 V}(r:Á K H ds vs): ∀k:G7,Á K H (S9 k ds).flatten (S9 k vs).flatten
 |0=>by simp;exact .nil
 |k+1=>by rw [K6,K6,X5,X5];exact r.append (Á.flat r k)
theorem X0q:ô X (J4 .Mult) kU:=(X0m.or EL).imp λx y H Q ⟨dx,dy,h,Qd,rx,ry,rh,q,p⟩=>by
 cases dx<;>first|exact False.elim q|(cases dy<;>first|exact False.elim q|skip)
 ·exact .inl ⟨_,_,rx,ry,q.1,p (.int _) _ _ _ (.refl H) rh rfl q.2⟩
 ·obtain⟨xs,h1,b1,b2,hz,q⟩:=q;obtain⟨vs,e1,r1⟩:=rh _ xs h1;refine .inr ⟨_,_,vs,rx.1,ry,e1,b1,b2,by rw [<-r1.length];exact hz,λc hc=> ?_⟩;exact p (.lst c) _ _ _ (.new hc) (rh.newL hc (r1.flat _)) ⟨rfl,_,jw⟩ (q c (rh.free hc))
end
def ixD:RD2:=λx y h Q=>match x,y with
 | .tup ds,.int i=> ∃d,Ē ds i=some d/\Q d h
 | .lst a,.int i=> ∃ds d,h a=some ds/\Ē ds i=some d/\Q d h
 | .scr ns,.int i=> ∃n,Ē ns i=some n/\Q (.int n) h
 |_,_=>False
theorem RM {vs:G0 V}(r:Á K H ds vs){i:P0}{d:D}(e:Ē ds i=some d): ∃v,Ē vs i=some v/\Ê K H d v:=by
 unfold Ē at e ⊢;rw [<-r.length];cases q:Ŭ ds.length i with
 |none=>rw [q] at e;cases e
 |some j=>rw [q] at e;exact r.get e
theorem Ow {β:Type}(f:α->β){xs:G0 α}{i:P0}{x:α}(e:Ē xs i=some x):Ē (xs.map f) i=some (f x):=by
 unfold Ē at e ⊢;rw [G1];cases q:Ŭ xs.length i with
 |none=>rw [q] at e;cases e
 |some j=>
  rw [q] at e;show (xs.map f)[j]? =_;rw [D1,(show xs[j]? =some x from e)];rfl
section
variable {X:Cx}{a b e:T8}{ta tb te:TED}{pos p2:Pos}
theorem Kd: ∀σ H Q,LE X.K (Ŗ ixD ta tb) σ H Q->tOp (rIx X.K) (LE X.K ta) (LE X.K tb) σ H Q:=λσ H Q ⟨Æ,h,Qd,rs,rh,t,p⟩=>
 LE.bind rs rh t λdx x h1 H1 k1 Ø Í r1 t1=>LE.bind Ø Í t1 λdy y h2 H2 k2 ğ ó ry q=>by
  have rx:=r1.mono k2;have kk:=k1.trans k2;cases dx<;>first|exact False.elim q|(cases dy<;>first|exact False.elim q|skip)
  ·rename_i ds i;obtain⟨d,e,q⟩:=q;obtain⟨a,vs,e1,hH,r⟩:=(show ∃a vs,x= .ref a/\H2 a=some (.tup vs)/\Á X.K H2 ds vs from rx);obtain⟨v,e2,rv⟩:=RM r e;exact .inr (.inl ⟨a,vs,i,v,e1,ry,ç.of hH,e2,p _ _ _ _ kk ó rv q⟩)
  ·rename_i a i;obtain⟨ds,d,hd,e,q⟩:=q;obtain⟨vs,hH,r⟩:=ó a ds hd;obtain⟨v,e2,rv⟩:=RM r e;exact .inl ⟨a,vs,i,v,rx.1,ry,ò.of hH,e2,p _ _ _ _ kk ó rv q⟩
  ·rename_i ns i;obtain⟨n,e,q⟩:=q;obtain⟨a,e1,hS⟩:=(show ∃a,x= .ref a/\Ι X.K H2 a ns from rx);exact .inl ⟨a,_,i,.int n,e1,ry,hS.sq,Ow V.int e,p (.int n) _ _ _ kk ó rfl q⟩
theorem qix (ha:QE X a ta)(hb:QE X b tb)(hs:Ua b):QE X (.Subscript a b pos) (Ŗ ixD ta tb):=(HB EI ha hb hs).imp Kd
end
def AT:RDn:=λds h Q=>match ds with
 | [.tup xs]=>Q (.int xs.length) h
 | [.lst a]=> ∃xs,h a=some xs/\Q (.int xs.length) h
 | [.scr ns]=>Q (.int ns.length) h
 |_=>False
def Ke:RDn:=λds h Q=>match ds with
 | [.int i]=>Q (.int i) h
 | [.bl k]=>Q (.int (if k then 1 else 0)) h
 |_=>False
def Kf:RDn:=λds h Q=>match ds with
 | [.int i,.int j]=>Q (.int (if j>i then j else i)) h
 |_=>False
def RO:RDn:=λds h Q=>match ds with
 | [.int i,.int j]=>TY i j/\Q (.tup [.int (i / j),.int (i%j)]) h
 |_=>False
def FK:RDn:=λds h Q=>match ds with
 | [.tup xs]=>Q (.tup xs) h
 | [.lst a]=> ∃xs,h a=some xs/\Q (.tup xs) h
 |_=>False
def Vy:RDn:=λds h Q=>match ds with
 | [.lst a]=> ∃xs,h a=some xs/\Q (.tup xs) (Ue h a)
 |_=>False
section
variable {X:Cx}
theorem Sz:JC X (.builtin "len") AT:=Ŏ.imp λxs H Q ⟨ds,h,Qd,r,rh,q,p⟩=>by
 unfold AT at q;split at q
 ·rename_i es;obtain⟨v,e,r1⟩:=jQ r;obtain⟨a,vs,e1,hH,r2⟩:=(show ∃a vs,v= .ref a/\H a=some (.tup vs)/\Á X.K H es vs from r1);subst e e1;exact⟨a,vs,rfl,.inr (ç.of hH),by rw [<-r2.length];exact p (.int _) _ _ _ (.refl H) rh rfl q⟩
 ·rename_i a;obtain⟨es,hd,q⟩:=q;obtain⟨v,e,r1⟩:=jQ r;obtain⟨vs,hH,r2⟩:=rh a es hd;have e1:v= .ref a:=r1.1;subst e e1;exact⟨a,vs,rfl,.inl (ò.of hH),by rw [<-r2.length];exact p (.int _) _ _ _ (.refl H) rh rfl q⟩
 ·rename_i ns;obtain⟨v,e,r1⟩:=jQ r;obtain⟨a,e1,hS⟩:=(show ∃a,v= .ref a/\Ι X.K H a ns from r1);subst e e1;exact⟨a,_,rfl,.inl hS.sq,by rw [G1];exact p (.int _) _ _ _ (.refl H) rh rfl q⟩
 ·exact q.elim
theorem RQ:JC X (.type "int") Ke:=ž.imp λxs H Q ⟨ds,h,Qd,r,rh,q,p⟩=>by
 unfold Ke at q;split at q
 ·rename_i i;obtain⟨v,e,r1⟩:=jQ r;cases (show v= .int i from r1);exact .inl ⟨i,e,p (.int i) _ _ _ (.refl H) rh rfl q⟩
 ·rename_i k;obtain⟨v,e,r1⟩:=jQ r;cases (show v= .bl k from r1);exact .inr ⟨k,e,p (.int _) _ _ _ (.refl H) rh rfl q⟩
 ·exact q.elim
theorem SA (hc:X.calm=true):JC X (.builtin "max") Kf:=(Rr hc).imp λxs H Q ⟨ds,h,Qd,r,rh,q,p⟩=>by
 unfold Kf at q;split at q
 ·rename_i i j;obtain⟨v,w,e,r1,r2⟩:=vI r;cases (show v= .int i from r1);cases (show w= .int j from r2);exact⟨i,j,e,p (.int _) _ _ _ (.refl H) rh rfl q⟩
 ·exact q.elim
theorem RR:JC X (.builtin "divmod") RO:=ŝ.imp λxs H Q ⟨ds,h,Qd,r,rh,q,p⟩=>by
 unfold RO at q;split at q
 ·rename_i i j;obtain⟨c,q⟩:=q;obtain⟨v,w,e,r1,r2⟩:=vI r;cases (show v= .int i from r1);cases (show w= .int j from r2);exact⟨i,j,e,c,λa ha=>p (.tup [.int (i / j),.int (i%j)]) _ _ _ (.new ha) (rh.new ha) ⟨a,_,rfl,jw,.cons rfl (.cons rfl .nil)⟩ q⟩
 ·exact q.elim
theorem ð:JC X (.type "tuple") FK:=ł.imp λxs H Q ⟨ds,h,Qd,r,rh,q,p⟩=>by
 unfold FK at q;split at q
 ·rename_i es;obtain⟨v,e,r1⟩:=jQ r;obtain⟨a,vs,e1,hH,r2⟩:=(show ∃a vs,v= .ref a/\H a=some (.tup vs)/\Á X.K H es vs from r1);subst e e1;exact⟨a,vs,rfl,.inr ⟨ç.of hH,p (.tup es) _ _ _ (.refl H) rh ⟨a,vs,rfl,hH,r2⟩ q⟩⟩
 ·rename_i a;obtain⟨es,hd,q⟩:=q;obtain⟨v,e,r1⟩:=jQ r;obtain⟨vs,hH,r2⟩:=rh a es hd;have e1:v= .ref a:=r1.1;subst e e1;exact⟨a,vs,rfl,.inl ⟨ò.of hH,λc hc=>p (.tup es) _ _ _ (.new hc) (rh.new hc) ⟨c,vs,rfl,jw,r2.mono (.new hc)⟩ q⟩⟩
 ·exact q.elim
theorem zc:JC X (.type "tuple") Vy:=ð.imp λxs H Q ⟨ds,h,Qd,r,rh,q,p⟩=>by
 unfold Vy at q;split at q
 ·rename_i a;obtain⟨es,hd,q⟩:=q;exact⟨[.lst a],h,λd h'=>Qd d (Ue h' a),r,rh,⟨es,hd,q⟩,λd v h' H' k Ĕ rd q'=>p d v _ H' k (Ĕ.sub (Sub.drop h' a)) rd q'⟩
 ·exact q.elim
end
def Xr:D->P7 U4
 | .non=>some "NoneType" | .bl _=>some "bool" | .int _=>some "int" | .str _=>some "str" | .tup _=>some "tuple" | .lst _=>some "list" | .dic _ _=>some "dict" | .dct _=>none| .scr _=>none| .exc _=>none| .fn _=>none| .exf _ _=>none
def SB (T:U4)(n:U4):N2:=n==T||(T== "int" &&n== "bool")
theorem BR {d:D}{v:V}{n:U4}(r:Ê K H d v)(e:Xr d=some n):Ė K H v (.type n):=by
 cases d with
 |non=>cases (show v= .non from r);cases e;exact .non
 |bl b=>cases (show v= .bl b from r);cases e;exact .bl b
 |int i=>cases (show v= .int i from r);cases e;exact .int i
 |str x=>cases (show v= .str x from r);cases e;exact .str x
 |tup ds=>
  obtain⟨a,vs,e1,hH,_⟩:=(show ∃a vs,v= .ref a/\H a=some (.tup vs)/\Á K H ds vs from r);subst e1;cases e;exact .tup hH
 |lst a=>
  obtain⟨e1,vs,hH⟩:=(show v= .ref a/\ ∃vs,H a=some (.lst vs) from r);subst e1;cases e;exact .lst hH
 |dic x i=>
  obtain⟨a,e1,hH⟩:=(show ∃a,v= .ref a/\H a=some (.dK [(cC x,V.int i)]) from r);subst e1;cases e;exact .dK hH
 |dct a=>cases e
 |scr ns=>cases e
 |exc C=>cases e
 |fn a=>cases e
 |exf C fs=>cases e
def Ox:G0 U4:= ["NoneType","bool","int","str","tuple","list","dict"]
theorem Dl {d:D}{n:U4}(e:Xr d=some n):n∈Ox:=by
 cases d<;>cases e<;>decide
def Kg (K:G5):Prop:= ∀n∈Ox,∀T∈ ["tuple","int","bool","list","str"],m7 K (.type n) (.type T)=some (SB T n)
theorem Oy (K:G5):Kg K:=by
 intro n hn T hT;simp only [Ox,T3,F4,or_false] at hn hT;rcases hn with rfl|rfl|rfl|rfl|rfl|rfl|rfl<;>rcases hT with rfl|rfl|rfl|rfl|rfl<;>with_unfolding_all rfl
theorem RS (T:U4):è X (.builtin "isinstance") (λxs H Q=> ∃x t b,xs= [x,.ty T]/\Ė X.K H x t/\m7 X.K t (.type T)=some b/\Q (.bl b) H):=by
 intro À s σ H xs us Q I r h;obtain⟨x,t,b,rfl,ty,e,q⟩:=h;obtain⟨u,w',rfl,rx,rt⟩:=BB r;cases (show w'=IQ T from rt);exact Rt I rx ty e λtk=>⟨.bl b,H,I.tok tk,rfl,q⟩
def dIs (T:U4)(ta:TED):TED:=λσ h Q=>ta σ h λx h1=> ∃n,Xr x=some n/\Q (.bl (SB T n)) h1
theorem Kh {a:T8}{ta:TED}{T:U4}{t:Str}{p p2:Pos}(hT:T∈ ["tuple","int","bool","list","str"])(hg:Gl X "isinstance")(hm:X.mg "isinstance" =none)(hg2:Gl X t)(hm2:X.mg t=none)(hv:Q1 t=some (.type T))(ha:QE X a ta)
 (hn:t≠ "__name__" :=by decide)(hd:(t==("__debug__" :Str))=false:=by decide)
 (h1:R6 [a,.Name t p2] X.env=(false,A0 a X.env)::R6 [.Name t p2] X.env:=by rfl)(h2:(Q7 pos (R6 [.Name t p2] X.env)).any (·.1)=false:=by rfl):
 QE X (.Call (.Name "isinstance" p) [a,.Name t p2] [] pos) (dIs T ta):=
 (GZ (RS T) hg hm rG (vG ha (vG (Lq (v:= .ty T) hg2 hm2 hv rfl hn hd) ě (by rfl)) h1) (by decide) (by decide) h1 h2).imp
  λσ H Q ⟨Æ,h,Qd,rs,rh,t,p⟩=>LE.bind rs rh t λd v h1 H1 k1 Ø Í r1 ⟨n,e,q⟩=>⟨v,.type n,SB T n,rfl,BR r1 e,Oy _ n (Dl e) T hT,p (.bl _) _ _ _ k1 Í rfl q⟩
theorem RT (bs:G0 N2):(P4 bs.length).all (λi=>bs.getD i false)=bs.all id:=by
 induction bs with
 |nil=>rfl
 |cons b bs ih=>
  rw [S7,lV,tG,Y8,tG];show (b&&_)=(b&&bs.all id);rw [<-ih];rfl
theorem RU (bs:G0 N2):(P4 bs.length).any (λi=>bs.getD i false)=bs.any id:=by
 induction bs with
 |nil=>rfl
 |cons b bs ih=>
  rw [S7,lV,tH,l8,tH];show (b||_)=(b||bs.any id);rw [<-ih];rfl
theorem Xs {bs:G0 N2}{its:G0 G3}(r:È (bs.map V.bl) its){i:G7}{v:G3}(e:its[i]? =some v):v= .bool (bs.getD i false):=by
 have hl:=r.length;rw [G1] at hl;have hi:i<its.length:=(P8.mp e).1;have hb:(bs.map V.bl)[i]? =some (.bl bs[i]):=by rw [D1,G2 (by omega)];rfl
 obtain⟨u,e1,r1⟩:=r.get hb;rw [e] at e1;cases e1;rw [S1,G2 (by omega)];exact r1
section
variable {X:Cx}
theorem Ui (hc:X.calm=true):è X (.builtin "all") (λxs H Q=> ∃ (a:P1) (bs:G0 N2),xs= [.ref a]/\ò X.K H a (bs.map V.bl)/\Q (.bl (bs.all id)) H):=by
 intro À s σ H xs us Q I r h;obtain⟨a,bs,rfl,hS,q⟩:=h;obtain⟨u,rfl,ru⟩:=Vc r;cases ru;obtain⟨its,rv,pl,hz⟩:=I.list hS;have hl:=pl.isList;have hlt:a<s.heap.objs.size:=by obtain⟨_,e,_⟩:=hl;exact R7 e
 refine call_all_walk (bT hl ?_);refine⟨s.heap.objs.size,_,_,_,_,_,λi=>bs.getD i false,rfl,Walks.list (A:=X.A.in1) (show X.A.in1.handled=none from I.ok.hd hc) s.heap.objs.size a (N3 hlt) its.toArray,⟨⟨_,S4 _ rfl,rfl,rfl⟩,hl.push _⟩,?_,λh' tk hk=> ?_⟩
 ·intro i v s' Q' E' hP hQ;have e:its[i]? =some v:=by simpa using hP
  rw [Xs rv e];exact E5 hQ
 ·have hn:its.toArray.size=bs.length:=by rw [D8,<-rv.length,G1]
  rw [hn,RT];exact⟨.bl _,H,I.kept (t':=tk) (λb o e=>hk b o (λz=>by rw [G9.mp z] at e;exact absurd (R7 e) (A4 _)) (P3 _ e)),rfl,q⟩
theorem Uj (hc:X.calm=true):è X (.builtin "any") (λxs H Q=> ∃ (a:P1) (bs:G0 N2),xs= [.ref a]/\ò X.K H a (bs.map V.bl)/\Q (.bl (bs.any id)) H):=by
 intro À s σ H xs us Q I r h;obtain⟨a,bs,rfl,hS,q⟩:=h;obtain⟨u,rfl,ru⟩:=Vc r;cases ru;obtain⟨its,rv,pl,hz⟩:=I.list hS;have hl:=pl.isList;have hlt:a<s.heap.objs.size:=by obtain⟨_,e,_⟩:=hl;exact R7 e
 refine call_any_walk (bT hl ?_);refine⟨s.heap.objs.size,_,_,_,_,_,λi=>bs.getD i false,rfl,Walks.list (A:=X.A.in1) (show X.A.in1.handled=none from I.ok.hd hc) s.heap.objs.size a (N3 hlt) its.toArray,⟨⟨_,S4 _ rfl,rfl,rfl⟩,hl.push _⟩,?_,λh' tk hk=> ?_⟩
 ·intro i v s' Q' E' hP hQ;have e:its[i]? =some v:=by simpa using hP
  rw [Xs rv e];exact E5 hQ
 ·have hn:its.toArray.size=bs.length:=by rw [D8,<-rv.length,G1]
  rw [hn,RU];exact⟨.bl _,H,I.kept (t':=tk) (λb o e=>hk b o (λz=>by rw [G9.mp z] at e;exact absurd (R7 e) (A4 _)) (P3 _ e)),rfl,q⟩
theorem JF {K:G5}{H:Hp}: ∀ {bs:G0 N2} {vs:G0 V},Á K H (bs.map D.bl) vs->vs=bs.map V.bl
 | [],_,h=>h
 |b::bs,vs,h=>by
  obtain⟨v,r,e,h1,h2⟩:=(show ∃v r,vs=v::r/\Ê K H (.bl b) v/\Á K H (bs.map D.bl) r from h);rw [e,JF h2,(show v= .bl b from h1)];rfl
def RV:RDn:=λds h Q=> ∃ (a:P1) (bs:G0 N2),ds= [.lst a]/\h a=some (bs.map D.bl)/\Q (.bl (bs.all id)) (Ue h a)
def Ki:RDn:=λds h Q=> ∃ (a:P1) (bs:G0 N2),ds= [.lst a]/\h a=some (bs.map D.bl)/\Q (.bl (bs.any id)) (Ue h a)
theorem Zh (hc:X.calm=true):JC X (.builtin "all") RV:=(Ui hc).imp λxs H Q ⟨ds,h,Qd,r,rh,⟨a,bs,e,hd,q⟩,p⟩=>by
 subst e;obtain⟨v,e,r1⟩:=jQ r;obtain⟨vs,hH,r2⟩:=rh a _ hd;have e1:v= .ref a:=r1.1;rw [JF r2] at hH;subst e e1;exact⟨a,bs,rfl,ò.of hH,p (.bl _) _ _ _ (.refl H) (rh.sub (Sub.drop h a)) rfl q⟩
theorem FL (hc:X.calm=true):JC X (.builtin "any") Ki:=(Uj hc).imp λxs H Q ⟨ds,h,Qd,r,rh,⟨a,bs,e,hd,q⟩,p⟩=>by
 subst e;obtain⟨v,e,r1⟩:=jQ r;obtain⟨vs,hH,r2⟩:=rh a _ hd;have e1:v= .ref a:=r1.1;rw [JF r2] at hH;subst e e1;exact⟨a,bs,rfl,ò.of hH,p (.bl _) _ _ _ (.refl H) (rh.sub (Sub.drop h a)) rfl q⟩
end
def uc (to:TED)(te:TED):TED:=λσ h Q=>to σ h λx h1=> ∃a,x= .lst a/\te σ h1 λy h2=> ∃xs,h2 a=some xs/\xs.length<sizeLine/\Q .non (wg h2 a (xs++ [y]))
section
variable {X:Cx}{o e i:T8}{to te ti:TED}{apos Ï pos:Pos}
theorem xk (ho:QE X o to)(he:QE X e te)(hbase:W6 o "append" X.env (A0 o X.env)=A0 o X.env:=by rfl)
 (hfew:((Q7 Ï (R6 [e] X.env)).all (λx=> !x.1)&&(g7 Ï (b7 [] X.env)).all (λx=>x.1.isSome)&&decide ([e].length+([]:G0 bG).length+(if ([]:G0 bG).isEmpty then 0 else 1)<30))=true:=by rfl)
 (hline:(apos.endLine==Ï.line)=true:=by rfl)(hs:R6 [e] X.env=(false,A0 e X.env)::R6 [] X.env:=by rfl)(hplain:(Q7 Ï (R6 [] X.env)).any (·.1)=false:=by rfl):
 QE X (.Call (.Attribute o "append" apos) [e] [] Ï) (uc to te):=
 (BG aZ tI tJ Rz ho (vG he ě hs) hbase hfew hline hs hplain).imp
  λσ H Q ⟨Æ,h,Qd,rs,rh,t,p⟩=>LE.bind rs rh t λd v h1 H1 k1 Ø Í r1 ⟨a,e,q⟩=>by
   subst e;obtain⟨e1,vs,hH⟩:=(show v= .ref a/\ ∃vs,H1 a=some (.lst vs) from r1);subst e1;refine⟨.inl ⟨rfl,vs,ò.of hH⟩,?_⟩;refine LE.bind Ø Í q λy u h2 H2 k2 ğ ó r2 ⟨xs,hx,hz,q2⟩=> ?_
   obtain⟨ws,hW,r3⟩:=ó a xs hx;refine⟨a,ws,u,rfl,rfl,hW,by rw [<-r3.length];exact hz,p .non _ _ _ (k1.trans (k2.trans (.put hW))) (ó.put hW (r3.append (.cons r2 .nil))) rfl q2⟩
def SC (to ti:TED):TGD:=λd σ h Q=>to σ h λo h1=>ti σ h1 λi h2=> ∃a k xs j,o= .lst a/\i= .int k/\h2 a=some xs/\Ŭ xs.length k=some j/\Q σ (wg h2 a (xs.set j d))
theorem SE (ho:QE X o to)(hi:QE X i ti)
 (ha: ∀v,cX (.Subscript o i pos) X.env v=(do
  let ov <-aF [v] (A0 o X.env)
  let iv <-aF [v,ov] (A0 i X.env)
  cV pos
  aF [v,ov,iv] (rX ov iv v)
  G0l [v,ov,iv] []):=by intro _;rfl):QG X (.Subscript o i pos) (SC to ti):=
 (En ho hi BF ha).imp λv σ H Q ⟨d,Æ,h,Qd,r,rs,rh,q,p⟩=>
  LE.bind rs rh q λd1 v1 h1 H1 k1 Ø Í r1 q1=>LE.bind Ø Í q1 λd2 v2 h2 H2 k2 ğ ó r2 ⟨a,k,xs,j,e1,e2,hx,hj,q2⟩=>by
   subst e1 e2;have e3:v1= .ref a:=(r1.mono k2).1;obtain⟨ws,hW,r3⟩:=ó a xs hx;refine⟨a,ws,k,j,e3,r2,hW,by rw [<-r3.length];exact hj,p _ _ _ _ (k1.trans (k2.trans (.put hW))) (ğ.mono (.put hW)) (ó.put hW (Á.set ((r.mono k1).mono k2) j r3)) q2⟩
end
def Pe (N:G0 Str)(sc:G0 (Str×NameKind))(scope:U2)(js:G0 G7):N2:=
 scope.kind== .function&&scope.names.all (λp=>p.2 != .cell||scope.names.lookup p.1==some .cell)&&scope.names.all (λp=>p.2 != .local||scope.names.lookup p.1==some .local)&&
 scope.names.all (λp=>p.2 != .free||sc.lookup p.1==some .cell||sc.lookup p.1==some .free)&&
 (P4 N.length).all λi=>(scope.names.lookup (N.getD i tY) !=some .local&&scope.names.lookup (N.getD i tY) !=some .cell)||js.contains i
theorem jP (h:Pe X.N X.env.scope.names scope js=true):Ì X scope js:=by
 unfold Pe at h;simp only [C7] at h;obtain⟨⟨⟨⟨h1,h2⟩,h3⟩,h4⟩,h5⟩:=h;refine⟨eq_of_beq h1,λp hp e=> ?_,λp hp e=> ?_,λp hp e=> ?_,λi x e1 e2=> ?_⟩
 ·have:=T6.mp h3 p hp;rw [e] at this;simpa using this
 ·have:=T6.mp h2 p hp;rw [e] at this;simpa using this
 ·have:=T6.mp h4 p hp;rw [e] at this;simpa using this
 ·have hi:i<X.N.length:=(P8.mp e1).1;have:=T6.mp h5 i (S0.mpr hi);rw [S1,e1,cI] at this;rcases e2 with e2|e2<;>(rw [e2] at this;simpa using this)
theorem qpt {t:TTD}(h:QW X e t):QT X e t:=h.pt
theorem RW {te:TED}{σ:SD}{h1:HD}{Q:KD}{j:ItD}(f:D->D)(hz:ds.length<=sizeLine)(hj:j h1=some ds)
 (ht: ∀R:ItD->HD->Prop,R j h1->ti σ h R)(he: ∀d∈ds,∀Q':KD,Q' (f d) h1->te ((jL js σ).set i (some d)) h1 Q')(hq: ∀p,h1 p=none->Q (.lst p) (wg h1 p (ds.map f))):JD (bN i) js ti Jd te σ h Q:=by
 refine ht _ ⟨ds.length,λk ys h'=>h'=h1/\ys=(ds.take k).map f,⟨rfl,by simp⟩,?_⟩;rintro k ys h' ⟨rfl,rfl⟩;refine⟨by simp only [G1,S8];omega,ds,hj,P5 _,λhl p hp=> ?_,λd hd=>⟨_,rfl,?_⟩⟩
 ·rw [S3 hl];exact hq p hp
 ·unfold Jd;dsimp only;rw [R5 rfl];refine he d (P9 hd) _ ⟨h',Sub.refl _,rfl,?_⟩;rw [B6,hd];simp
end L2
namespace HT
open PySem PySem.Spec PyProof.Rows
section
variable {prog:T7}{w:C1}{A:B2}{E:G3->G6->Prop}{s:G6}
theorem JH {t sl:P1}{items:M8 G3}{vl vu:G3}{lo hi:P7 P0}{Q:G3->G6->Prop}(ht:tW s.heap t items)(hs:s.heap.IsSliceOf sl vl vu .none)(pl:lN vl lo)(pu:lN vu hi)
 (hw:sIx items.size 0 lo=0/\sIx items.size items.size hi=items.size)(h:Q (.ref t) s):D9 (S2 prog w) A (fQ (.ref t) (.ref sl)) Q E s:=by
 obtain⟨os,Θ,hcs,hds⟩:=id hs;have hTs:s.TypeIs (.ref sl) "slice" :=⟨os,Θ,hcs⟩;unfold fQ
 try with_reducible refine O0 ?_
 first|refine wpAny_bind (G8 ?_)|skip
 refine wpAny_bind (dP ht.typeIs (by decide) ?_);refine wpAny_bind (N9 (name:=J0 "__getitem__") ht.typeIs A6
  (N5 A6 ht.typeIs gL ?_ (g6 _ _)))
 show D9 _ _ (U6 (.ref t) >>= _) _ _ s;refine wpAny_bind (oM ht ?_);refine wpAny_bind (dQ hTs ?_);rw [R5 (by decide)];refine wpAny_bind (vy hs pl pu ?_);have X1m:((((sIx items.size 0 lo:G7):P0)==0&&(1:P0)==1&&(sIx items.size items.size hi-sIx items.size 0 lo)==items.size)=true):=by
  rw [hw.1,hw.2];simp
 show D9 _ _ (if (((sIx items.size 0 lo:G7):P0)==0&&(1:P0)==1&&(sIx items.size items.size hi-sIx items.size 0 lo)==items.size)=true then _ else _) _ _ s;rw [R5 X1m];refine wpAny_bind (m:=hO (.ref t)) ?_;unfold hO;refine wpAny_bind (dQ ht.typeIs (G8 ?_));rw [R5 (by decide)];exact wpAny_bind (bF (G8 ⟨_,rfl,G8 h⟩))
end
end HT
namespace L2
open PySem PySem.Spec PyProof.Rows
def xn (K:G5):V->P7 P0->P7 P0->Hp->VK->Prop:=λx lo hi H Q=> ∃a xs,x= .ref a/\ç K H a xs/\(HT.sIx xs.length 0 lo=0/\HT.sIx xs.length xs.length hi=xs.length)/\Q (.ref a) H
variable {X:Cx}
theorem η:SlR X (xn X.K):=by
 intro À s σ H x v vl vu lo hi sl Q I rx hs pl pu h;obtain⟨a,xs,rfl,hx,hw,q⟩:=h;cases rx;obtain⟨its,r,ht,hz⟩:=I.tuple hx;have hlen:its.toArray.size=xs.length:=by rw [D8];exact r.length.symm
 refine⟨"tuple",_,PyProof.Rows.slot_tuple_getitem.lookup,ht.typeIs,?_⟩;exact HT.JH ht hs pl pu (by rw [hlen];exact hw) ⟨.ref a,H,I,rfl,q⟩
def Va {α:Type}(xs:G0 α)(lo hi:P7 P0):G0 α:=(xs.drop (HT.sIx xs.length 0 lo)).take (HT.sIx xs.length xs.length hi-HT.sIx xs.length 0 lo)
abbrev TOD:=SD->HD->(P7 P0->HD->Prop)->Prop
def RX:TOD:=λ_ h Q=>Q none h
def SF (t:TED):TOD:=λσ h Q=>t σ h λx h1=> ∃i,x= .int i/\Q (some i) h1
def LO (K:G5)(t:TOD):TO:=λσ H Q=> ∃Æ h Qd,Ò K H Æ σ/\É K h H/\t Æ h Qd/\ ∀o h' H',Kept H H'->É K h' H'->Qd o h'->Q o H'
theorem LO.bind {K:G5}{ta:TOD}{σ:St}{H:Hp}{Æ:SD}{h:HD}{kd:P7 P0->HD->Prop}{k:P7 P0->Hp->Prop}(rs:Ò K H Æ σ)(rh:É K h H)(t:ta Æ h kd)(f: ∀o h' H',Kept H H'->Ò K H' Æ σ->É K h' H'->kd o h'->k o H'):LO K ta σ H k:=
 ⟨Æ,h,kd,rs,rh,t,λo h' H' kp r1 q=>f o h' H' kp (rs.mono kp) r1 q⟩
theorem PO.imp {e:P7 T8}{t t':TO}(h:PO X e t)(i: ∀σ H Q,t' σ H Q->t σ H Q):PO X e t':=λÀ s σ H Q I q=>h À s σ H Q I (i σ H Q q)
abbrev QO (X:Cx)(e:P7 T8)(t:TOD):Prop:=PO X e (LO X.K t)
theorem Oz:QO X none RX:=X0b.imp λσ H Q ⟨Æ,h,Qd,rs,rh,q,p⟩=>p none h H (.refl H) rh q
theorem OA {e:T8}{te:TED}(he:QE X e te):QO X (some e) (SF te):=(LK he).imp λσ H Q ⟨Æ,h,Qd,rs,rh,q,p⟩=>
 LE.bind rs rh q λd v h1 H1 k1 Ø Í r1 ⟨i,e,q1⟩=>by subst e;exact⟨i,r1,p _ _ _ k1 Í q1⟩
def slD:D->P7 P0->P7 P0->HD->KD->Prop:=λx lo hi h Q=>match x with
 | .tup ds=>Q (.tup (Va ds lo hi)) h
 | .scr ns=> ∀p,h p=none->Q (.lst p) (wg h p ((Va ns lo hi).map D.int))
 | .lst a=> ∃ds,h a=some ds/\ ∀p,h p=none->Q (.lst p) (wg h p (Va ds lo hi))
 |_=>False
def dSl (te:TED)(tl th:TOD):TED:=λσ h Q=>te σ h λx h1=>tl σ h1 λl h2=>th σ h2 λu h3=>slD x l u h3 Q
theorem Uk {K:G5}{H:Hp}{ds:G0 D}{vs:G0 V}(r:Á K H ds vs)(lo hi:P7 P0):Á K H (Va ds lo hi) (Bi vs lo hi):=by
 unfold Va Bi;rw [r.length];exact(r.drop _).take _
theorem OB {α β:Type}(f:α->β)(xs:G0 α)(lo hi:P7 P0):Va (xs.map f) lo hi=(Va xs lo hi).map f:=by
 unfold Va;rw [G1,j5,fX]
theorem SG {e:T8}{te:TED}{lo hi:P7 T8}{tl th:TOD}{pos p2:Pos}(he:QE X e te)(hl:QO X lo tl)(hu:QO X hi th):QE X (.Subscript e (.Slice lo hi none p2) pos) (dSl te tl th):=
 (BE (X0n.or (η.or LL)) he hl hu).imp λσ H Q ⟨Æ,h,Qd,rs,rh,q,p⟩=>
  LE.bind rs rh q λd v h1 H1 k1 Ø Í r1 q1=>LO.bind Ø Í q1 λl h2 H2 k2 ğ ó q2=>LO.bind ğ ó q2 λu h3 H3 k3 š Ĉ q3=>by
   have rv:=(r1.mono k2).mono k3;have kk:=k1.trans (k2.trans k3);cases d<;>first
    |exact False.elim q3
    |skip
   ·rename_i ds;obtain⟨a,vs,e1,hH,r⟩:=(show ∃a vs,v= .ref a/\H3 a=some (.tup vs)/\Á X.K H3 ds vs from rv)
    by_cases hw:HT.sIx vs.length 0 l=0/\HT.sIx vs.length vs.length u=vs.length
    ·refine .inr (.inl ⟨a,vs,e1,ç.of hH,hw,p (.tup (Va ds l u)) _ _ _ kk Ĉ ⟨a,vs,rfl,hH,?_⟩ q3⟩);have z:=Uk r l u;have e:Bi vs l u=vs:=by unfold Bi;rw [hw.1,hw.2];simp
     rwa [e] at z
    ·exact .inl ⟨a,vs,e1,ç.of hH,hw,λc hc=>p (.tup (Va ds l u)) _ _ _ (kk.trans (.new hc)) (Ĉ.new hc) ⟨c,_,rfl,jw,(Uk r l u).mono (.new hc)⟩ q3⟩
   ·rename_i a;obtain⟨ds,hd,q3⟩:=q3;obtain⟨vs,hH,r⟩:=Ĉ a ds hd;exact .inr (.inr ⟨a,vs,rv.1,ò.of hH,λc hc=>p (.lst c) _ _ _ (kk.trans (.new hc)) (Ĉ.newL hc (Uk r l u)) ⟨rfl,_,jw⟩ (q3 c (Ĉ.free hc))⟩)
   ·rename_i ns;obtain⟨a,e1,hS⟩:=(show ∃a,v= .ref a/\Ι X.K H3 a ns from rv);refine .inr (.inr ⟨a,_,e1,hS.sq,λc hc=>p (.lst c) _ _ _ (kk.trans (.new hc)) (Ĉ.newL hc ?_) ⟨rfl,_,jw⟩ (q3 c (Ĉ.free hc))⟩);have z:=Uk (ZI (K:=X.K) (H:=H3) ns) l u
    rwa [OB] at z
end L2
namespace HT
open PySem PySem.Spec PyProof.Rows
open Sem (wp)
open Builtin
theorem WD:fillsNumberSlot (.type "tuple") "mul" =pure false:=
 PySem.fillsNumberSlot_seq (id:= "tuple.__mul__") (r:=some (.builtin "tuple.__rmul__")) F.slot_tuple_mul.lookup (by decide +kernel) F.slot_tuple_rmul.lookup (by decide +kernel)
theorem Xt:G0e (.type "tuple")=pure (some (.builtin "tuple.__mul__")):=by
 unfold G0e;rw [qL (T:= "tuple") (name:= "__mul__") (id:= "tuple.__mul__") F.slot_tuple_mul.lookup (by decide +kernel),qL (T:= "tuple") (name:= "__rmul__") (id:= "tuple.__rmul__") F.slot_tuple_rmul.lookup (by decide +kernel)];rfl
section
variable {prog:T7}{w:C1}{A:B2}{E:G3->G6->Prop}{s:G6}
theorem Ul {k:P0}{t:Tok}{l:P1}{o:Obj}{its:M8 G3}{n:G7}{P:dI->G6->Prop}(at_:s.heap.get? l=some o)(tup:o.cls= .type "tuple")(dat:o.data= .seq its n)(h:P (.done (.ret .notImplemented)) s):D9 (S2 prog w) A (Builtin.«int.__rmul__» ⟨[.int k t,.ref l],[]⟩) P E s:=by
 obtain⟨c,dd,dt,sl⟩:=o;cases tup;cases dat;obtain⟨hp,g,d,tk,os⟩:=s
 wp_walk
 exact h
theorem QY {l:P1}{its:M8 G3}{n:G7}{x:P0}{u:Tok}{dd:P7 P1}{sl:M8 (P7 G3)}{P:dI->G6->Prop}(at_:s.heap.get? l=some {cls:= .type "tuple",dict:=dd,data:= .seq its n,slots:=sl})(fits: -(2^63)<=x/\x<2^63)
 (same:(its.isEmpty||x==1)=true->P (.done (.ret (.ref l))) s)
 (gone:(its.isEmpty||x==1)=false->(decide (x<=0)||its.isEmpty)=true->P (.done (.ret (.ref s.heap.objs.size))) {s with heap:=s.heap.push {cls:= .type "tuple",data:= .seq #[]}})
 (more:(its.isEmpty||x==1)=false->(decide (x<=0)||its.isEmpty)=false-> ¬ (its.size:P0)*x>(2^63-1) / 8/\iA ((its.size:P0)*x)=false/\((S9 x.toNat its).foldl (· ++ ·) #[]).size<=sizeLine/\
  P (.done (.ret (.ref s.heap.objs.size))) {s with heap:=s.heap.push {cls:= .type "tuple",data:= .seq ((S9 x.toNat its).foldl (· ++ ·) #[])}}):
 D9 (S2 prog w) A (Builtin.«tuple.__mul__» ⟨[.ref l,.int x u],[]⟩) P E s:=by
 obtain⟨hp,g,d,tk,os⟩:=s
 wp_walk
 rw [R3 (by simp only [mL,X7];omega)]
 wp_walk
 cases c1:(its.isEmpty||x==1) with
 |true=>
  rw [R5 rfl]
  wp_walk
  exact same c1
 |false=>
  rw [R3 D0];cases c2:(decide (x<=0)||its.isEmpty) with
  |true=>
   rw [R5 rfl]
   wp_walk
   exact gone c1 c2
  |false=>
   obtain⟨m1,m2,m3,m4⟩:=more c1 c2;rw [R3 D0];dsimp only;rw [R3 m1,m2,R3 D0]
   wp_walk
   exact m4
end
end HT
namespace L2
open PySem PySem.Spec PyProof.Rows
def Kj (K:G5):R2:=λx y H Q=> ∃ (a:P1) (k:P0) (xs:G0 V),x= .ref a/\y= .int k/\ç K H a xs/\ -(2^63)<=k/\k<2^63/\xs.length*k.toNat<=sizeLine/\
 ((xs= []\/k=1)->Q (.ref a) H)/\(¬ (xs= []\/k=1)-> ∀p,H p=none->Q (.ref p) (upd H p (.tup (S9 k.toNat xs).flatten)))
theorem WN {l:G0 G3}:l.toArray= #[]↔l= []:=by cases l<;>simp
theorem OC {X:Cx}:ü X (J4 .Mult) (Kj X.K):=by
 intro À s σ H x y v u Q I rx ry h;obtain⟨a,k,xs,rfl,rfl,hH,h1,h2,hz,q1,q2⟩:=h;cases rx;obtain⟨t,rfl⟩:=ry;obtain⟨its,r,ht,_⟩:=I.tuple hH;obtain⟨⟨cls,dd,data,sl⟩,ho,hc,n,hd⟩:=id ht;simp only at hc hd;subst hc hd;have hl:=r.length;have Ψ:(S9 k.toNat its.toArray).foldl (· ++ ·) #[]=(S9 k.toNat its).flatten.toArray:=by
  have:=WZ its k.toNat [];rw [A9] at this;exact this
 have few:its.length*k.toNat<=sizeLine:=by rw [<-hl];exact hz
 have free:=I.hok.fresh (P5 _);refine iQ (T:= "tuple") (U:= "int") (by decide) ⟨_,ho,rfl⟩ (λs'=>lQ s' k t) HT.WD rD gD HT.Xt F.slot_int_index.lookup
  (N5 gD (lQ s k t) qK (HT.Ul ho rfl rfl ⟨_,rfl,rfl,⟨_,ho,rfl⟩,N5 F.slot_tuple_mul ⟨_,ho,rfl⟩ F.entry_tuple_mul (HT.QY ho ⟨h1,h2⟩ (λc=> ?_) (λc c0=> ?_) (λc c0=> ?_)) (F.args_tuple_mul_2 _ _)⟩) (pL _ _))
 ·refine⟨_,rfl,.ref a,H,I,rfl,q1 ?_⟩;simp only [mL,beq_iff_eq,pO,WN] at c;exact c.imp (λe=>r.nil_iff.mp e) id
 ·simp only [nC,beq_eq_false_iff_ne,iB,ne_eq,WN] at c;have k0:k.toNat=0:=by
   simp only [mL,X7,pO,WN] at c0;have:=c0.resolve_right c.1;omega
  have last:=q2 (λz=>z.elim (λe=>c.1 (r.nil_iff.mpr e)) c.2) _ free;rw [k0] at last;exact⟨_,rfl,.ref s.heap.objs.size,_,I.laid (t':=s.toks) (o:= .tup []) (λb ob q=>P3 _ q) (P5 _) ⟨by decide,[],.nil,é.new _ _⟩,rfl,last⟩
 ·simp only [nC,beq_eq_false_iff_ne,iB,ne_eq,WN,decide_eq_false_iff_not] at c c0;have em:((its.toArray.size:G7):P0)*k=((its.length*k.toNat:G7):P0):=by rw [Int.natCast_mul,D8,show ((k.toNat:G7):P0)=k by omega]
  have cap:(sizeLine:G7)<=(2^63-1) / 8:=by decide
  rw [em,Ψ];refine⟨by omega,by unfold iA;exact R8 (by omega),by rw [D8,QV,pM];exact few,_,rfl,.ref s.heap.objs.size,_,I.laid (t':=s.toks) (o:= .tup (S9 k.toNat xs).flatten) (λb ob q=>P3 _ q) (P5 _) ⟨by rw [QV,pM];exact hz,_,r.rep k.toNat,é.new _ _⟩,rfl,q2 (λz=>z.elim (λe=>c.1 (r.nil_iff.mpr e)) c.2) _ free⟩
def ud:RD2:=λx y h Q=>match x,y with
 | .tup ds,.int k=> -(2^63)<=k/\k<2^63/\ds.length*k.toNat<=sizeLine/\Q (.tup (S9 k.toNat ds).flatten) h
 |x,y=>kU x y h Q
theorem Yj {X:Cx}:ô X (J4 .Mult) ud:=(X0q.or OC).imp λx y H Q ⟨dx,dy,h,Qd,rx,ry,rh,q,p⟩=>by
 by_cases ht: ∃ds k,dx= .tup ds/\dy= .int k
 ·obtain⟨ds,k,e1,e2⟩:=ht;subst e1 e2;obtain⟨b1,b2,hz,q⟩:=q;obtain⟨a,vs,e,hH,r⟩:=(show ∃a vs,x= .ref a/\H a=some (.tup vs)/\Á X.K H ds vs from rx);refine .inr ⟨a,k,vs,e,ry,ç.of hH,b1,b2,by rw [<-r.length];exact hz,λhs=> ?_,λ_ c hc=>p (.tup _) _ _ _ (.new hc) (rh.new hc) ⟨c,_,rfl,jw,(r.flat _).mono (.new hc)⟩ q⟩;refine p (.tup _) _ _ _ (.refl H) rh ⟨a,vs,rfl,hH,?_⟩ q;rcases hs with e0|e1
  ·subst e0;have:ds= []:=X6.mp r.length;subst this;simpa using r
  ·subst e1;simpa using r
 ·refine .inl ⟨dx,dy,h,Qd,rx,ry,rh,?_,p⟩;unfold ud at q;split at q
  ·exact absurd ⟨_,_,rfl,rfl⟩ ht
  ·exact q
def Kk:D->HD->KD->Prop:=λx h Q=>match x with
 | .int i=>Q (.int (-i)) h
 |_=>False
def dUn (f:D->HD->KD->Prop)(ta:TED):TED:=λσ h Q=>ta σ h λx h1=>f x h1 Q
theorem ue {X:Cx}{a:T8}{ta:TED}{pos:Pos}(ha:QE X a ta):QE X (.UnaryOp .USub a pos) (dUn Kk ta):=
 (Ht Ez ha).imp λσ H Q ⟨Æ,h,Qd,rs,rh,t,p⟩=>LE.bind rs rh t λd v h1 H1 k1 Ø Í r1 q=>by
  cases d<;>first
   |exact False.elim q
   |exact⟨_,r1,p (.int _) _ _ _ k1 Í rfl q⟩
end L2
namespace HT
open PySem PySem.Spec PyProof.Rows
section
variable {prog:T7}{w:C1}{A:B2}{E:G3->G6->Prop}{s:G6}
theorem Dm (n:G7):V6 none none (-1) (n:P0)=((n:P0)-1,-1):=rfl
theorem Do (n:G7):O9 ((n:P0)-1) (-1) (-1)=n:=by
 unfold O9;have h1: ¬ ((-1:P0)>0):=by omega
 simp only [h1,lC,show (- -1:P0)=1 by decide,u8];split<;>omega
theorem BS (xs:M8 G3):((P4 xs.size).filterMap λ(k:G7)=>xs[((xs.size:P0)-1+(k:P0)*(-1)).toNat]?).toArray=xs.toList.reverse.toArray:=by
 have e:(λ(k:G7)=>xs[((xs.size:P0)-1+(k:P0)*(-1)).toNat]?)=(λk=>xs[xs.size-1-k]?):=by
  funext k
  have:((xs.size:P0)-1+(k:P0)*(-1)).toNat=xs.size-1-k:=by omega
  rw [this]
 rw [e];have h2:(P4 xs.size).filterMap (λk=>xs[xs.size-1-k]?)=((P4 xs.size).map (λk=>xs.size-1-k)).filterMap (xs[·]?):=by rw [oT];rfl
 rw [h2,G0t,List.filterMap_reverse,G0G]
theorem ZK {t sl:P1}{items:M8 G3}{u:Tok}{Q:G3->G6->Prop}(ht:tW s.heap t items)(hs:s.heap.IsSliceOf sl .none .none (.int (-1) u))
 (h:Q (.ref s.heap.objs.size) {s with heap:=s.heap.push {cls:= .type "tuple",data:= .seq items.toList.reverse.toArray}})
 (hsz:items.size<=sizeLine):D9 (S2 prog w) A (fQ (.ref t) (.ref sl)) Q E s:=by
 have Ę:G0M (.seq items.toList.reverse.toArray):=by
  show items.toList.reverse.toArray.size<=sizeLine;rw [D8,N4,N0];exact hsz
 obtain⟨os,Θ,hcs,hds⟩:=id hs;have hTs:s.TypeIs (.ref sl) "slice" :=⟨os,Θ,hcs⟩;unfold fQ
 try with_reducible refine O0 ?_
 first|refine wpAny_bind (G8 ?_)|skip
 refine wpAny_bind (dP ht.typeIs (by decide) ?_);refine wpAny_bind (N9 (name:=J0 "__getitem__") ht.typeIs A6
  (N5 A6 ht.typeIs gL ?_ (g6 _ _)))
 show D9 _ _ (U6 (.ref t) >>= _) _ _ s;refine wpAny_bind (oM ht ?_);refine wpAny_bind (dQ hTs ?_);rw [R5 (by decide)];have ap:D9 (S2 prog w) A.in1 (Z8 (.ref sl) (pure (items.size:P0))) (λr s'=>r=((items.size:P0)-1,-1,items.size)/\s'=s) (λ_ _=>False) s:=by
  unfold Z8 iP;refine wpAny_bind (wpAny_bind (aL Θ hds (x:= .none) rfl (wpAny_bind (aL Θ hds (x:= .none) rfl (wpAny_bind (aL Θ hds (x:= .int (-1) u) rfl (G8 ?_)))))));refine wpAny_bind (sZ ?_);show D9 _ _ (if ((-1:P0)==0)=true then _ else _) _ _ s;rw [R3 (by decide)];refine wpAny_bind (g4 (wpAny_bind (g4 (wpAny_bind (G8 ?_)))));show D9 _ _ (match V6 none none (-1) (items.size:P0) with|(lo,hi)=>pure (lo,(-1:P0),O9 lo hi (-1))) _ _ s;rw [Dm];show D9 _ _ (pure ((items.size:P0)-1,(-1:P0),O9 ((items.size:P0)-1) (-1) (-1))) _ _ s;rw [Do];exact G8 ⟨rfl,rfl⟩
 refine wpAny_bind (M1 ap (λr s' e=> ?_) λ_ _ z=>z.elim);obtain⟨rfl,rfl⟩:=e;have hno: ¬ ((((items.size:P0)-1)==0&&(-1:P0)==1&&items.size==items.size)=true):=by
  rw [show ((-1:P0)==1)=false by decide];simp
 show D9 _ _ (if ((((items.size:P0)-1)==0&&(-1:P0)==1&&items.size==items.size)=true) then _ else _) _ _ s';rw [R3 hno,BS]
 first
  |exact wpAny_bind (m:=A5 _) (O3 (G8 ⟨_,rfl,G8 h⟩) Ę)
  |exact wpAny_bind (m:=A5 _) (O3 (wpAny_bind (G8 (G8 ⟨_,rfl,G8 h⟩))) Ę)
  |exact wpAny_bind (wpAny_bind (m:=A5 _) (O3 (G8 (G8 ⟨_,rfl,G8 h⟩)) Ę))
  |exact wpAny_bind (wpAny_bind (m:=A5 _) (O3 (G8 ⟨_,rfl,G8 h⟩) Ę))
end
end HT
namespace L2
open PySem PySem.Spec PyProof.Rows
def uf (te:TED):TED:=λσ h Q=>te σ h λx h1=> ∃ds,x= .tup ds/\Q (.tup ds.reverse) h1
theorem È.rev: ∀ {xs:G0 V} {us:G0 G3},È xs us->È xs.reverse us.reverse
 |_,_,.nil=> .nil
 |_,_,.cons r t=>by rw [dW,dW];exact(È.rev t).append (.cons r .nil)
variable {K:G5}
theorem Á.rev {H:Hp}: ∀ {ds:G0 D} {vs:G0 V},Á K H ds vs->Á K H ds.reverse vs.reverse
 | [],_,h=>by cases (show _= [] from h);exact .nil
 |d::ds,vs,h=>by
  obtain⟨v,r,e,h1,h2⟩:=(show ∃v r,vs=v::r/\Ê K H d v/\Á K H ds r from h);subst e;rw [dW,dW];exact(Á.rev h2).append (.cons h1 .nil)
variable {X:Cx}{e:T8}{te:TED}
theorem xo {pos p2 p3 p4:Pos}{j:G7}(he:QE X e te):QE X (.Subscript e (.Slice none none (some (.UnaryOp .USub (.Constant (.int 1) j p4) p3)) p2) pos) (uf te):=by
 intro À s σ H Q I h;obtain⟨Æ,h,Qd,rs,rh,t,p⟩:=h;refine oU (Ô (he À s σ H _ I (LE.bind rs rh t λd v h1 H1 k1 Ø Í r1 q1=>(show ∃Æ h1 d,Ò X.K H1 Æ σ/\É X.K h1 H1/\Ê X.K H1 d v/\Kept H H1/\ ∃ds,d= .tup ds/\Qd (.tup ds.reverse) h1 from ⟨Æ,h1,d,Ø,Í,r1,k1,q1⟩))) λv s1 ⟨x,H1,I1,r1,q1⟩=> ?_);obtain⟨X1n,h1,d,Ø,Í,rd,k1,ds,e1,q1⟩:=q1;subst e1;obtain⟨a,vs,e2,hH,r2⟩:=(show ∃a vs,x= .ref a/\H1 a=some (.tup vs)/\Á X.K H1 ds vs from rd);subst e2;cases r1;refine x5 ?_;rw [oN];refine G8 ?_;refine G8 ?_;rw [tD];have X1o:LE X.K (dUn Kk (dC (.int 1))) σ H1 (λv H'=>v=V.int (-1)/\É X.K h1 H'/\Kept H1 H'):=
  ⟨X1n,h1,λd h'=>d= .int (-1)/\h'=h1,Ø,Í,⟨rfl,rfl⟩,λd v h' H' k Ĕ r' e=>by
   obtain⟨e1,e2⟩:=e;subst e1 e2;exact⟨r',Ĕ,k⟩⟩
 refine Ô ((ue (kQ (X:=X) (i:=1) (j:=j) (pos:=p4)) (pos:=p3)) À s1 σ H1 _ I1 X1o) λu s2 ⟨y,H2,I2,ry,ey,ó,k2⟩=> ?_
 subst ey;obtain⟨tk,rfl⟩:=ry;have hH2:=k2.tup _ _ hH;have I4:Inv X À σ H2 {s2 with heap:=s2.heap.push {cls:= .type "slice",data:= .fields #[.none,.none,.int (-1) tk]}}:=I2.kept (t':=s2.toks) λb ob q=>P3 _ q
 obtain⟨its,r,ht,hz⟩:=I4.tuple (ç.of hH2);have hlen:its.toArray.size=vs.length:=by rw [D8];exact r.length.symm
 show D9 (S2 X.prog X.w) X.A (j0 e (.Slice none none (some (.UnaryOp .USub (.Constant (.int 1) j p4) p3)) p2) (.ref a) (.ref s2.heap.objs.size)) (EP X À σ Q) X.xe {s2 with heap:=s2.heap.push {cls:= .type "slice",data:= .fields #[.none,.none,.int (-1) tk]}};refine x8 (ops:= [.ref a,.ref s2.heap.objs.size]) ht.typeIs PyProof.Rows.slot_tuple_getitem.lookup ?_ (by with_unfolding_all rfl);refine HT.ZK ht (Heap.IsSliceOf.new ..) ?_ (by rw [hlen];exact hz);have hf:=I4.hok.fresh (P5 _);refine⟨.ref _,_,I4.laid (t':=s2.toks) (o:= .tup vs.reverse) (λb ob q=>P3 _ q) (P5 _) ⟨by rw [N4];exact hz,_,È.rev r,é.new _ _⟩,rfl,?_⟩;exact p (.tup ds.reverse) _ _ _ (k1.trans (k2.trans (.new hf))) (ó.new hf) ⟨_,_,rfl,jw,((r2.mono k2).rev).mono (.new hf)⟩ q1
def SH (K:G5)(tl:TE):TI:=λσ H R=>tl σ H λx H1=> ∃a,x= .ref a/\((∃xs,ò K H1 a xs/\R (Itl K a) H1)\/ ∃xs,ç K H1 a xs/\R (Itt K a) H1)
theorem SI {tg l:T8}{tl:TE}(hl:PE X l tl):PI X tg l (SH X.K tl):=by
 intro À s σ H R I h;refine Ô (hl À s σ H _ I h) λv s1 ⟨x,H1,I1,r1,q1⟩=> ?_
 obtain⟨a,e,q⟩:=q1;subst e;cases r1;rcases q with ⟨xs,hq,q⟩|⟨xs,hq,q⟩
 ·obtain⟨its,rv,p,hz⟩:=I1.list hq;refine bT p.isList ?_;refine⟨s1.heap.objs.size,[s1.heap.objs.size],_,_,H1,rfl,I1.kept (t':=s1.toks) λb o e=>P3 _ e,Xf a _,⟨_,S4 _ rfl,rfl,rfl⟩,λb hb=> ?_,q⟩;have e:b=s1.heap.objs.size:=by simpa using hb
  subst e;exact I1.fpOk (P5 _) (I1.hok.fresh (P5 _))
 ·obtain⟨its,rv,p,hz⟩:=I1.tuple hq;refine iC (show s1.heap.IsTuple a its.toArray from p) ?_;refine⟨s1.heap.objs.size,[s1.heap.objs.size],_,_,H1,rfl,I1.kept (t':=s1.toks) λb o e=>P3 _ e,Db a _,⟨_,S4 _ rfl,rfl,rfl⟩,λb hb=> ?_,q⟩;have e:b=s1.heap.objs.size:=by simpa using hb
  subst e;exact I1.fpOk (P5 _) (I1.hok.fresh (P5 _))
def iS (te:TED):TID:=λσ h R=>te σ h λx h1=>match x with
 | .lst a=>R (λh=>h a) h1
 | .tup ds=>R (λ_=>some ds) h1
 | .scr ns=>R (λ_=>some (ns.map D.int)) h1
 |_=>False
theorem BT {H:Hp}{a:P1}{ns:G0 P0}(hs:Ι K H a ns):BL K H (λ_=>some (ns.map D.int)) (Itl K a):=λH' h' k rh ds' e i=>by
 cases e;have hs':Ι K H' a ns:=hs.elim (λ⟨o,z⟩=> .inl ⟨o,k.frz _ _ _ z⟩) .inr;refine⟨λd hd=> ?_,λhl=>⟨_,hs'.sq,by simpa using hl⟩⟩;obtain⟨v,e1,e2⟩:=(ZI (K:=K) (H:=H') ns).get hd;refine⟨⟨_,v,hs'.sq,e1⟩,λx Ġ ⟨eH,hx⟩=> ?_⟩;subst eH;have:=hx _ hs'.sq;rw [e1] at this;cases this;exact⟨.refl _,rh,e2⟩
theorem SJ: ∀σ H R,LI K (iS te) σ H R->SH K (LE K te) σ H R:=λσ H R ⟨Æ,h,Rd,rs,rh,q,p⟩=>
 LE.bind rs rh q λd v h1 H1 k1 Ø Í r1 q1=>by
  cases d<;>first
   |exact False.elim q1
   |skip
  ·rename_i ds;obtain⟨a,vs,e,hv,r⟩:=(show ∃a vs,v= .ref a/\H1 a=some (.tup vs)/\Á K H1 ds vs from r1);exact⟨a,e,.inr ⟨vs,ç.of hv,p _ _ _ _ k1 Í (BM hv r) q1⟩⟩
  ·rename_i a;obtain⟨e,vs,hv⟩:=(show v= .ref a/\ ∃vs,H1 a=some (.lst vs) from r1);exact⟨a,e,.inl ⟨vs,ò.of hv,p _ _ _ _ k1 Í (Xp H1 a) q1⟩⟩
  ·rename_i ns;obtain⟨a,e,hS⟩:=(show ∃a,v= .ref a/\Ι K H1 a ns from r1);exact⟨a,e,.inl ⟨_,hS.sq,p _ _ _ _ k1 Í (BT hS) q1⟩⟩
theorem SK {tg:T8}(he:QE X e te):QI X tg e (iS te):=(SI he).imp SJ
def FM:TSD:=λ_ _ _=>False
theorem SL {st:A3}:QS X st FM:=λ_ _ _ _ _ _ ⟨_,_,_,_,_,z,_⟩=>z.elim
structure Zs (mg:Str->P7 G3):Prop where
 len:mg "len" =none
 max:mg "max" =none
 min:mg "min" =none
 divmod:mg "divmod" =none
 all:mg "all" =none
 any:mg "any" =none
 repr:mg "repr" =none
 sum:mg "sum" =none
 sorted:mg "sorted" =none
 int:mg "int" =none
 tuple:mg "tuple" =none
 list:mg "list" =none
 set:mg "set" =none
 bool:mg "bool" =none
 isinstance:mg "isinstance" =none
 range:mg "range" =none
 zip:mg "zip" =none
 enumerate:mg "enumerate" =none
 reversed:mg "reversed" =none
def je (P:T7)(w:C1)(K:G5)(mg:Str->P7 G3)(base:L8)(n:G7)(x:Str)(ps:G0 Str)(sp:RDn):Prop:=
 ∃ (g:P1) (gd:M9),Ë P w K mg base á n g gd ps (ä K sp)/\Binds K gd ps []/\aX K (.ref g)=true/\mg x=some (.ref g)
def RY:RDn:=λds h Q=> ∃ns,ds= [.scr ns]/\(∀a,h a=none)/\ns.length<=63/\ ∀h',Q (.bl true) h'
def Bm (mg:Str->P7 G3)(base:L8):Prop:= ∃bm ob,mg "__builtins__" =some (.ref bm)/\bm≠lI/\base.get? bm=some ob/\ob.cls= .type "module" /\ob.dict=some lI/\ob.data= .plain
def yt (K:G5):G0 (P1×P1):=LN.filterMap (oP K)
theorem X0L.mem {P:P1}(h:X0L K P): ∃c,(c,P)∈yt K:=let ⟨x,hx,c,e⟩:=h;⟨c,cZ.mpr ⟨x,hx,e⟩⟩
theorem RZ {P:T7}{w:C1}{mg mb:Str->P7 G3}{k:G7}{fa a:P1}{fd:M9}{x:Str}{s₁:G6}{vs:G0 G3}{ns:G0 P0}
 (KX:K.In s₁.heap)(hns:s₁.heap.Ns O6 mg)(hb:s₁.heap.Ns lI mb)(hbb: ∀x:Str,x≠ "__name__" ->mb x=Q1 x)(X1p:s₁.heap.NoLimit)(hg:s₁.gens= #[])
 (ha:s₁.heap.get? a=some {cls:= .type "list",data:= .seq vs.toArray})(hi:lS vs ns)(hl:ns.length<=63)(hr:ß k oB)
 (hbm:Bm mg s₁.heap)(F: ∀base:L8,K.In base->base.Ns O6 mg->Bm mg base->Ë P w K mg base á k fa fd [x] (ä K RY))(X0O: ∀ (s:G6) (u:G3),rY s fd ⟨[u],[]⟩ [(x,u)])
 (hT: ∀p∈yt K,sO s₁.heap p.1 p.2/\s₁.heap.get? p.2=some (nD #[])/\K.lookup p.2=none):
 cE (S2 P w) oB (.call (.ref fa) ⟨[.ref a],[]⟩) (λr s'=>r= .ok (.ret (.bool true))/\OldK s₁.heap s'.heap/\s'.os=s₁.os/\iY s'.gens) s₁:=by
 have rv:=Xm hi;have X1q:=hi.length;have hz:ns.length<=sizeLine:=S5 hl (by decide);have hT': ∀b,b∈(yt K).map (·.2)-> ∃c,sO s₁.heap c b/\s₁.heap.get? b=some (nD #[])/\K.lookup b=none:=λb hb=>by
  obtain⟨p,hp,rfl⟩:=R9.mp hb;exact⟨p.1,hT p hp⟩
 have core: ∀H:Hp,Ι K H a ns->Ě P w H s₁.heap->(∀b u,H b=some u->(b=a/\K.lookup a=none/\ ∃o xs,u= .frz o (.lst xs))\/(b∈(yt K).map (·.2)/\u= .tbl #[]))->(∀b,b∈(yt K).map (·.2)->H b=some (.tbl #[]))->
  cE (S2 P w) oB (.call (.ref fa) ⟨[.ref a],[]⟩) (λr s'=>r= .ok (.ret (.bool true))/\OldK s₁.heap s'.heap/\s'.os=s₁.os/\iY s'.gens) s₁:=by
  intro H hS hok hA hTt;have noA: ∀ {b:P1} {o:Obj} {es:M8 X8} {ep:G7},s₁.heap.get? b=some o->o.data= .dict es ep->H b=none:=λ{b o es ep} e d=>by
   cases q:H b with
   |none=>rfl
   |some u=>
    rcases hA b u q with ⟨rfl,_,_⟩|⟨z,_⟩
    ·rw [ha] at e;cases e;have d':Data.seq vs.toArray _=Data.dict es ep:=d;cases d'
    ·obtain⟨c,_,e2,_⟩:=hT' b z;rw [e2] at e;cases e;have d':Data.fields _=Data.dict es ep:=d;cases d'
  have nsK: ∀ {b:P1} {m:Str->P7 G3},s₁.heap.Ns b m->(Bq s₁.heap H).Ns b m:=λ{b m} ⟨o,es,ep,e,d,r⟩=>⟨o,es,ep,VZ e (noA e d),d,r⟩
  have hKb:K.In (Bq s₁.heap H):=λb o e=>VZ (KX b o e) (by
   cases q:H b with
   |none=>rfl
   |some u=>
    rcases hA b u q with ⟨rfl,z,_⟩|⟨z,_⟩
    ·rw [z] at e;cases e
    ·obtain⟨c,_,_,z2⟩:=hT' b z;rw [z2] at e;cases e)
  have hM:Mod K mg (Bq s₁.heap H):=⟨hKb,nsK hns,⟨mb,nsK hb,hbb⟩,let ⟨mc,h1,h2⟩:=X1p;⟨mc,nsK h1,h2⟩⟩;have e0:X0u P w K mg (Bq s₁.heap H) oB [] s₁ H:=⟨rfl,hM,λb o e=>Ln e,Q4 (Ri _ _),trivial,λb hb=>absurd (show b∈([]:G0 P1) from hb) (by simp),hok,.of_eq hg⟩;have hsp:ä K RY [.ref a] H (λv _=>v= .bl true) (λ_ _ _=>False):=by
   refine⟨[.scr ns],⟨λ_=>none,λ_=>none⟩,λd _=>d= .bl true,⟨.ref a,[],rfl,⟨a,rfl,hS⟩,rfl⟩,⟨λb ds e=>(by cases e),λp hp=> ?_,λb c e=>(by cases e)⟩,⟨ns,rfl,λ_=>rfl,hl,λ_=>rfl⟩,?_⟩
   ·obtain⟨c,hc⟩:=hp.mem;exact⟨#[],hTt p (gM (f:=(·.2)) hc),trivial,λpos cv e=>(by cases e)⟩
   ·intro d v h' H' _ _ r e;subst e;exact r
  have hBm:Bm mg (Bq s₁.heap H):=by
   obtain⟨bm,ob,b1,b2,b3,b4,r⟩:=hbm;refine⟨bm,ob,b1,b2,VZ b3 ?_,b4,r⟩;cases q:H bm with
   |none=>rfl
   |some u=>
    rcases hA bm u q with ⟨rfl,_,_⟩|⟨z,_⟩
    ·rw [ha] at b3;cases b3;exact absurd (Value.type.inj b4) (by decide)
    ·obtain⟨c,_,e2,_⟩:=hT' bm z;rw [e2] at b3;cases b3;cases b4
  refine lK ((F _ hKb (nsK hns) hBm).run oB [] s₁ H ⟨[.ref a],[]⟩ [.ref a] [.ref a] _ _ hr e0 (X0O s₁ (.ref a)) (.cons rfl .nil) hsp) λr s' h=> ?_
  cases r with
  |error e=>exact False.elim h
  |ok fl=>
   cases fl with
   |next=>exact False.elim h
   |brk=>exact False.elim h
   |cont=>exact False.elim h
   |ret u=>
    obtain⟨v,H',os,bare,un,X03,r',q⟩:=h;have q':v= .bl true:=q;subst q';obtain rfl:u=bE true:=r';have one: ∀b o,s₁.heap.get? b=some o->s'.heap.get? b=some o\/(b∈(yt K).map (·.2)/\ ∃more,s'.heap.get? b=some (nD more)):=λb o e=>by
     cases q:H b with
     |none=>exact .inl (un.keep b o e q (by intro z;exact absurd (show b∈([]:G0 P1) from z) (by simp)) (by simp))
     |some u=>
      rcases hA b u q with ⟨rfl,_,ob,xs,rfl⟩|⟨z,rfl⟩
      ·have z2:=un.frzs _ ob _ q;obtain⟨e1,_⟩:=hok _ _ q;obtain⟨e2,_⟩:=X03 _ _ z2;rw [e] at e1;cases e1;exact .inl e2
      ·obtain⟨more,z2⟩:=un.tbls b _ q;exact .inr ⟨z,_,(show s'.heap.get? b=some _ from X03 b _ z2)⟩
    refine⟨rfl,⟨λb o e=> ?_,λb o e=> ?_⟩,os,bare⟩
    ·rcases one b o e with z|⟨z,more,z2⟩
     ·exact .inl z
     ·obtain⟨c,hc,e2,_⟩:=hT' b z;rw [e] at e2;cases e2;refine .inr (.inl ⟨(hc.tab e).isCodeTable,rfl,#[],more,rfl,?_⟩);rw [z2];simp
    ·rcases one b o e with z|⟨z,more,z2⟩
     ·exact⟨_,z⟩
     ·exact⟨_,z2⟩
 have nT:a ∉ (yt K).map (·.2):=λz=>by
  obtain⟨c,_,e2,_⟩:=hT' a z;rw [ha] at e2;cases e2
 have okT: ∀ {H:Hp} (b:P1),b∈(yt K).map (·.2)->Ö P w H s₁.heap b (.tbl #[]):=λb hb=>let ⟨_,_,e,_⟩:=hT' b hb;e
 cases hk:K.lookup a with
 |some o=>
  have e:=KX a o hk;rw [ha] at e;cases e;refine core (λb=>if b∈(yt K).map (·.2) then some (.tbl #[]) else none) (.inr ⟨_,vs.toArray,_,hk,rfl,rfl,rfl,by rw [D8,X1q];exact hz,by simpa using rv⟩) (λb u z=> ?_) (λb u z=> ?_) λb hb=>R5 hb
  ·by_cases hb:b∈(yt K).map (·.2)
   ·have z':=(R5 hb).symm.trans z;cases z';exact okT b hb
   ·have z':=(R3 hb).symm.trans z;cases z'
  ·by_cases hb:b∈(yt K).map (·.2)
   ·have z':=(R5 hb).symm.trans z;cases z';exact .inr ⟨hb,rfl⟩
   ·have z':=(R3 hb).symm.trans z;cases z'
 |none=>
  refine core (λb=>if b=a then some (.frz {cls:= .type "list",data:= .seq vs.toArray} (.lst (ns.map V.int))) else if b∈(yt K).map (·.2) then some (.tbl #[]) else none) (.inl ⟨{cls:= .type "list",data:= .seq vs.toArray},R5 rfl⟩) (λb u z=> ?_) (λb u z=> ?_) λb hb=> ?_
  ·by_cases hb:b=a
   ·have z':=(R5 hb).symm.trans z;cases z';subst hb;exact⟨ha,by rw [G1];exact hz,vs,_,rv,ha⟩
   ·have z':=(R3 hb).symm.trans z
    by_cases hb2:b∈(yt K).map (·.2)
    ·have z2:=(R5 hb2).symm.trans z';cases z2;exact okT b hb2
    ·have z2:=(R3 hb2).symm.trans z';cases z2
  ·by_cases hb:b=a
   ·have z':=(R5 hb).symm.trans z;cases z';exact .inl ⟨hb,hk,_,_,rfl⟩
   ·have z':=(R3 hb).symm.trans z
    by_cases hb2:b∈(yt K).map (·.2)
    ·have z2:=(R5 hb2).symm.trans z';cases z2;exact .inr ⟨hb2,rfl⟩
    ·have z2:=(R3 hb2).symm.trans z';cases z2
  ·have:b≠a:=λz=>nT (z ▸ hb)
   show (if b=a then _ else _)=_;rw [R3 this,R5 hb]
def Kl (q:T7)(K:G5):N2:=LN.all λx=>match oP K x with
 |some p=>(K.lookup p.2).isNone&&((IN q).find? (λe=>e.name==x)).isSome
 |none=>true
theorem BU {l:rH}{k:G7}{q:T7}{loose:G0 Str}{XP:(Str->P7 G3)->L8->Prop}{YP:C1->L8->Prop}{d:DefRec}{K:G0N->G5}{x:Str}(hn:l.most=some 63)(hdf:d.params.defaults= [])(hr:ß k oB)
 (hY: ∀ (w:C1) (h:L8),YP w h->(K w.params).In h)(hB: ∀w:C1,Kl q (K w.params)=true)
 (F: ∀ (w:C1) (mg:Str->P7 G3) (fa:P1) (h:L8),(K w.params).In h->h.Ns O6 mg->mg d.name=some (.ref fa)->
  ∃fd:M9,(∀ (s:G6) (u:G3),rY s fd ⟨[u],[]⟩ [(x,u)])/\ ∀base:L8,(K w.params).In base->base.Ns O6 mg->Bm mg base->Ë l.prog w (K w.params) mg base á k fa fd [x] (ä (K w.params) RY)):
 G0W q loose XP YP l.row.toRowW d [] (λf vs=>G0c f vs):=by
 refine Att.attach_call hn hdf λw s₀ s₁ mg mb fa o pm cd doc a vs ns G Y ho hd hcd hmg X0F hints hlen hg=> ?_
 have KX:=hY w _ Y;obtain⟨fd,hb,hF⟩:=F w mg fa _ KX G.T.g hmg;refine RZ KX G.T.g G.T.b G.T.builtins G.T.nolimit hg X0F hints hlen hr G.T.bmain hF hb λp hp=> ?_
 obtain⟨x,hx,e⟩:=cZ.mp hp;have z:=T6.mp (hB w) x hx;rw [e] at z;simp only [C7,iR] at z;obtain⟨dd,hdd⟩:=cR.mp z.2;have t:=G0O (c:=p.1) (P:=p.2) G.T KX hdd e;exact⟨t.1,t.2,z.1⟩
def zN:T8->N2
 | .Starred .. =>false
 |_=>true
theorem QZ {es:G0 T8}{env:Env}(h:zN e=true):R6 (e::es) env=(false,A0 e env)::R6 es env:=by
 cases e<;>first|rfl|cases h
theorem qac {es:G0 T8}{t:TAD}(ha:QE X e te)(hr:QA X es t)(h:zN e=true:=by rfl):QA X (e::es) (wb te t):=Oe ha hr (QZ h)
theorem Yk {α:Type}{xs:G0 α}{i:P0}(h0:0<=i)(h1:i<xs.length): ∃x∈xs,Ē xs i=some x:=by
 have hk:i.toNat<xs.length:=by omega
 have ek:i=((i.toNat:G7):P0):=by omega
 have z:=wY (G2 hk);rw [<-ek] at z;exact⟨xs[i.toNat],N6 hk,z⟩
variable {h h':HD}{p:P1}{L:G0 D}
theorem Sub.newAt (s:Sub h h')(e:h' p=none):Sub h (wg h' p L):=s.trans (.new e)
structure î (p:P1)(h h':HD):Prop where
 ls: ∀a ds,a≠p->h a=some ds->h' a=some ds
 dc: ∀a c,h.dc a=some c->h'.dc a=some c
instance {p:P1}{h h':HD}:CoeFun (î p h h') λ_=> ∀a ds,a≠p->h a=some ds->h' a=some ds:=⟨î.ls⟩
theorem î.refl (p:P1)(h:HD):î p h h:=⟨λ_ _ _ e=>e,λ_ _ e=>e⟩
variable {q:P1}
theorem î.new (s:î p h h')(e:h' q=none):î p h (wg h' q L):=⟨λa ds n z=>(by
 have:=s a ds n z;rw [yC (λw=>by subst w;rw [e] at this;cases this)];exact this),s.dc⟩
theorem î.put (s:î p h h'):î p h (wg h' p L):=⟨λa ds n z=>(by rw [yC n];exact s a ds n z),s.dc⟩
theorem î.putNew (s:î p h h')(e:h q=none):î p h (wg h' q L):=⟨λa ds n z=>(by
 rw [yC (λw=>by subst w;rw [e] at z;cases z)];exact s a ds n z),s.dc⟩
theorem î.sub (s:î p h h')(e:h' p=some L):Sub (wg h p L) h':=⟨λa ds z=>(by
 by_cases q:a=p
 ·subst q;rw [jc] at z;cases z;exact e
 ·rw [yC q] at z;exact s a ds q z),s.dc⟩
theorem î.upd:î p h (wg h p L):=⟨λa ds n z=>(by rw [yC n];exact z),λ_ _ e=>e⟩
theorem jq (e:h p=some L)(f:h q=none):q≠p:=λz=>by subst z;rw [e] at f;cases f
theorem ji {M:G0 D}(e:h p=some L)(f:h q=none):wg h q M p=some L:=by rw [yC (λz=>by subst z;rw [e] at f;cases f)];exact e
theorem jj {a b:P1}{M:G0 D}(n:b≠a)(e:h b=some M):wg h a L b=some M:=by rw [yC n];exact e
theorem Xu {n:G7}{i:G7}{d:D}(h:((P4 n).map λ(k:G7)=>D.int (k:P0))[i]? =some d):i<n/\d= .int i:=by
 rw [D1] at h
 by_cases hi:i<n
 ·rw [I0 hi] at h;cases h;exact⟨hi,rfl⟩
 ·rw [V9 (by simpa using hi)] at h;cases h
variable {E:EndsD}{σ:SD}
theorem jf {t u:TSD}(V:SD->HD->Prop)(first: ∀K:SD->HD->Prop,(∀Â h',V Â h'->K Â h')->t {E with nx:=K} σ h)(rest: ∀Â h',V Â h'->u E Â h'):vz t u E σ h:=first (u E) rest
theorem Yl (b:î p h h')(e:h' q=none)(n:q≠p):h q=none:=by
 cases z:h q with
 |none=>rfl
 |some ds=>rw [b q ds n z] at e;cases e
def Nxt (E:EndsD)(V:SD->HD->Prop):EndsD:= {E with nx:=λć h3=> ∃h4,Sub h4 h3/\V ć h4,ct:=λć h3=> ∃h4,Sub h4 h3/\V ć h4,bk:=E.nx}
variable {h1:HD}
theorem Ym {ta:TAD}{g:TGD}{tb:TSD}(n:G7)(W:G7->SD->HD->Prop)(hn:n<1000000)
 (ht: ∀R:G0 D->HD->Prop,R [.int (n:P0)] h1->ta σ h R)(w0:W 0 σ h1)(done: ∀Â h',W n Â h'->E.nx Â h')
 (turn: ∀i Â h',i<n->W i Â h'->g (.int (i:P0)) Â h' λÝ h2=>tb (Nxt E λć h4=>i+1<=n/\W (i+1) ć h4) Ý h2):Sm (iR1 ta) g tb E σ h:=by
 refine ht _ ⟨(n:P0),rfl,by omega,by omega,n,λi Â h'=>i<=n/\W i Â h',⟨B0 _,w0⟩,?_⟩;rintro i Â h' ⟨hi,w⟩;refine⟨_,rfl,by simp,λhl=> ?_,λd hd=> ?_⟩
 ·have:i=n:=by simp at hl;omega
  subst this;exact done _ _ w
 ·obtain⟨hi',e⟩:=Xu hd;have hi2:i<n:=by omega
  subst e;exact turn i Â h' hi2 w
theorem Zi {ti:TID}{g:TGD}{tb:TSD}{j:ItD}(ds:G0 D)(W:G7->SD->HD->Prop)
 (ht: ∀R:ItD->HD->Prop,R j h1->ti σ h R)(hj: ∀i Â h',W i Â h'->j h'=some ds)(w0:W 0 σ h1)(done: ∀Â h',W ds.length Â h'->E.nx Â h')
 (turn: ∀i d Â h',ds[i]? =some d->W i Â h'->g d Â h' λÝ h2=>tb (Nxt E λć h4=>i+1<=ds.length/\W (i+1) ć h4) Ý h2):Sm ti g tb E σ h:=by
 refine ht _ ⟨ds.length,λi Â h'=>i<=ds.length/\W i Â h',⟨B0 _,w0⟩,?_⟩;rintro i Â h' ⟨hi,w⟩;refine⟨ds,hj i Â h' w,P5 _,λhl=> ?_,λd hd=>turn i d Â h' hd w⟩;have:i=ds.length:=by omega
 subst this;exact done _ _ w
theorem Xv {g:TGD}{tb:TSD}{j:ItD}(ds:G0 D)(W:G7->SD->HD->Prop)
 (hj: ∀i Â h',W i Â h'->j h'=some ds)(w0:W 0 σ h1)(done: ∀Â h',W ds.length Â h'->E.nx Â h')
 (turn: ∀i d Â h',ds[i]? =some d->W i Â h'->g d Â h' λÝ h2=>tb (Nxt E λć h4=>i+1<=ds.length/\W (i+1) ć h4) Ý h2):
 ∃ (n:G7) (W:G7->SD->HD->Prop),W 0 σ h1/\ ∀i Â h',W i Â h'-> ∃ds,j h'=some ds/\ds.length<=n/\(ds.length<=i->E.nx Â h')/\
  ∀d,ds[i]? =some d->g d Â h' λÝ h2=>tb {E with nx:=λć h3=> ∃h4,Sub h4 h3/\W (i+1) ć h4,ct:=λć h3=> ∃h4,Sub h4 h3/\W (i+1) ć h4,bk:=E.nx} Ý h2:=by
 refine⟨ds.length,λi Â h'=>i<=ds.length/\W i Â h',⟨B0 _,w0⟩,?_⟩;rintro i Â h' ⟨hi,w⟩;refine⟨ds,hj i Â h' w,P5 _,λhl=> ?_,λd hd=>turn i d Â h' hd w⟩;have:i=ds.length:=by omega
 subst this;exact done _ _ w
theorem Ma {i:G7}{js:G0 G7}{ta:TAD}{Q:KD}(n:G7)(W:G7->G0 D->HD->Prop)(hn:n<=1000)(ht: ∀R:G0 D->HD->Prop,R [.int (n:P0)] h1->ta σ h R)
 (w0:W 0 [] h1)(wl: ∀k ys h',W k ys h'->ys.length=k)(turn: ∀k ys h',k<n->W k ys h'->te ((jL js σ).set i (some (.int (k:P0)))) h' λy h4=> ∃h5,Sub h5 h4/\(k+1<=n/\W (k+1) (ys++ [y]) h5))
 (done: ∀ys h',W n ys h'-> ∀p,h' p=none->Q (.lst p) (wg h' p ys)):JD (bN i) js (iR1 ta) Jd te σ h Q:=by
 refine ht _ ⟨(n:P0),rfl,by omega,by omega,n,λk ys h'=>k<=n/\W k ys h',⟨B0 _,w0⟩,?_⟩;rintro k ys h' ⟨hk,w⟩;refine⟨by rw [wl k ys h' w];exact M5 (zk (by omega)),_,rfl,by simp,λhl p hp=> ?_,λd hd=>⟨_,rfl,?_⟩⟩
 ·have:k=n:=by simp at hl;omega
  subst this;exact done ys h' w p hp
 ·obtain⟨hi',e⟩:=Xu hd;subst e;unfold Jd;dsimp only;rw [R5 rfl];exact turn k ys h' (by omega) w
end L2
namespace L2
open PySem PySem.Spec PyProof.Rows PySem.SeqAt
mutual
def ģ (h:HD):D->U1->Prop
 |d,.none=>d= .non
 |d,.bool b=>d= .bl b
 |d,.int i=>d= .int i
 |d,.str x=>d= .str x
 |d,.tuple ps=> ∃ds,d= .tup ds/\Ķ h ds ps
 |d,.list ps=> ∃a ds,d= .lst a/\h a=some ds/\Ķ h ds ps
 |_,.dict _=>False
def Ķ (h:HD):G0 D->G0 U1->Prop
 |ds,[]=>ds= []
 |ds,p::ps=> ∃d r,ds=d::r/\ģ h d p/\Ķ h r ps
end
section
variable {X:Cx}{À:G0 (P1×Obj)}{σ:St}{H:Hp}{s:G6}{h:HD}
mutual
theorem wA (I:Inv X À σ H s)(rh:É X.K h H): ∀ {p:U1} {d:D} {v:V} {u:G3},ģ h d p->Ê X.K H d v->RelV v u-> ∃as,Reads s.heap u p as
 | .none,d,v,u,t,r,ru=>by cases (show d= .non from t);cases (show v= .non from r);cases (show u= .none from ru);exact⟨[],.none⟩
 | .bool b,d,v,u,t,r,ru=>by cases (show d= .bl b from t);cases (show v= .bl b from r);cases (show u= .bool b from ru);exact⟨[],.bool b⟩
 | .int i,d,v,u,t,r,ru=>by cases (show d= .int i from t);cases (show v= .int i from r);obtain⟨k,rfl⟩:=(show ∃t,u=j9 i t from ru);exact⟨[],.int i k⟩
 | .str x,d,v,u,t,r,ru=>by cases (show d= .str x from t);cases (show v= .str x from r);obtain⟨k,rfl⟩:=(show ∃t,u=qF x t from ru);exact⟨[],.str x k⟩
 | .tuple ps,d,v,u,t,r,ru=>by
  obtain⟨ds,e,ts⟩:=(show ∃ds,d= .tup ds/\Ķ h ds ps from t);subst e;obtain⟨a,vs,e,hH,rs⟩:=(show ∃a vs,v= .ref a/\H a=some (.tup vs)/\Á X.K H ds vs from r);subst e;cases (show u= .ref a from ru);obtain⟨its,rv,ht,_⟩:=I.tuple (ç.of hH);obtain⟨o,ho,hc,n,hd⟩:=ht;obtain⟨as,q⟩:=ķ I rh ts rs rv;exact⟨as,.tuple ho hc hd q⟩
 | .list ps,d,v,u,t,r,ru=>by
  obtain⟨a,ds,e,ha,ts⟩:=(show ∃a ds,d= .lst a/\h a=some ds/\Ķ h ds ps from t);subst e;obtain⟨vs,hH,rs⟩:=rh a ds ha;have e:v= .ref a:=r.1;subst e;cases (show u= .ref a from ru);obtain⟨its,rv,pl,_⟩:=I.list (ò.of hH);obtain⟨o,ho,hc,n,hd⟩:=pl.isList;obtain⟨as,q⟩:=ķ I rh ts rs rv;exact⟨a::as,.list ho hc hd q⟩
 | .dict _,_,_,_,t,_,_=>(show False from t).elim
theorem ķ (I:Inv X À σ H s)(rh:É X.K h H): ∀ {ps:G0 U1} {ds:G0 D} {vs:G0 V} {us:G0 G3},Ķ h ds ps->Á X.K H ds vs->È vs us-> ∃as,ReadsAll s.heap us ps as
 | [],ds,vs,us,t,r,rv=>by
  cases (show ds= [] from t);cases (show vs= [] from r);cases rv;exact⟨[],.nil⟩
 |p::ps,ds,vs,us,t,r,rv=>by
  obtain⟨d,dr,e,t1,t2⟩:=(show ∃d r,ds=d::r/\ģ h d p/\Ķ h r ps from t);subst e;obtain⟨v,vr,e,r1,r2⟩:=(show ∃v r,vs=v::r/\Ê X.K H d v/\Á X.K H dr r from r);subst e;cases rv with
  |cons ru rt=>
   obtain⟨as,q1⟩:=wA I rh t1 r1 ru;obtain⟨bs,q2⟩:=ķ I rh t2 r2 rt;exact⟨as++bs,.cons q1 q2⟩
end
end
def eqE:RD2:=λx y h Q=>match x,y with
 | .int i,.int j=>Q (.bl (decide (i=j))) h
 | .bl i,.bl j=>Q (.bl (decide (i=j))) h
 | .str i,.str j=>Q (.bl (decide (i=j))) h
 |x,y=> ∃p q,ģ h x p/\ģ h y q/\fK p=true/\fK q=true/\Q (.bl (O5 p q)) h
def neE:RD2:=λx y h Q=>match x,y with
 | .int i,.int j=>Q (.bl (!decide (i=j))) h
 | .bl i,.bl j=>Q (.bl (!decide (i=j))) h
 | .str i,.str j=>Q (.bl (!decide (i=j))) h
 |x,y=> ∃p q,ģ h x p/\ģ h y q/\fK p=true/\fK q=true/\Q (.bl (!O5 p q)) h
section
variable {X:Cx}
def eqG:RD2:=λx y h Q=> ∃p q,ģ h x p/\ģ h y q/\fK p=true/\fK q=true/\Q (.bl (O5 p q)) h
def neG:RD2:=λx y h Q=> ∃p q,ģ h x p/\ģ h y q/\fK p=true/\fK q=true/\Q (.bl (!O5 p q)) h
theorem SM (hu:X.A.units+64<cLine):ô X (N8 .Eq) eqG:=by
 intro À s σ H x y v u Q I rx ry h;obtain⟨dx,dy,h,Qd,r1,r2,rh,⟨p,q,t1,t2,s1,s2,qq⟩,post⟩:=h;obtain⟨as,a1⟩:=wA I rh t1 r1 rx;obtain⟨bs,b1⟩:=wA I rh t2 r2 ry;exact compareEq_shaped a1 b1 s1 s2 hu ⟨.bl _,H,I,rfl,post (.bl _) _ _ _ (.refl H) rh rfl qq⟩
theorem SN (hu:X.A.units+64<cLine):ô X (N8 .NotEq) neG:=by
 intro À s σ H x y v u Q I rx ry h;obtain⟨dx,dy,h,Qd,r1,r2,rh,⟨p,q,t1,t2,s1,s2,qq⟩,post⟩:=h;obtain⟨as,a1⟩:=wA I rh t1 r1 rx;obtain⟨bs,b1⟩:=wA I rh t2 r2 ry;exact compareNe_shaped a1 b1 s1 s2 hu ⟨.bl _,H,I,rfl,post (.bl _) _ _ _ (.refl H) rh rfl qq⟩
theorem ô.or' {f:G3->G3->Sem G3}{r r' r2:RD2}(h:ô X f r)(h':ô X f r')(i: ∀x y hh Q,r2 x y hh Q->r x y hh Q\/r' x y hh Q):ô X f r2:=λÀ s σ H x y v u Q I rx ry ⟨dx,dy,hd,Qd,r1,r2',rh,q,p⟩=>
 (i dx dy hd Qd q).elim (λz=>h À s σ H x y v u Q I rx ry ⟨dx,dy,hd,Qd,r1,r2',rh,z,p⟩) λz=>h' À s σ H x y v u Q I rx ry ⟨dx,dy,hd,Qd,r1,r2',rh,z,p⟩
theorem Vz (hu:X.A.units+64<cLine):ô X (N8 .Eq) eqE:=ą.or' (SM hu) λx y h Q q=>by
 unfold eqE at q;split at q
 ·exact .inl q
 ·exact .inl q
 ·exact .inl q
 ·exact .inr q
theorem Xw (hu:X.A.units+64<cLine):ô X (N8 .NotEq) neE:=ĵ.or' (SN hu) λx y h Q q=>by
 unfold neE at q;split at q
 ·exact .inl q
 ·exact .inl q
 ·exact .inl q
 ·exact .inr q
def isN:D->N2
 | .non=>true
 |_=>false
def isV (neg:N2):RD2:=λx y h Q=>match y with
 | .non=>Q (.bl (neg !=isN x)) h
 | .bl c=>match x with
  | .bl b=>Q (.bl (neg !=(b==c))) h
  | .non=>Q (.bl neg) h
  |_=>False
 |_=>False
theorem Mb {K:G5}{H:Hp}{d:D}{v:V}(r:Ê K H d v):decide (v=V.non)=isN d:=by
 cases d with
 |non=>cases (show v= .non from r);rfl
 |bl b=>cases (show v= .bl b from r);rfl
 |int b=>cases (show v= .int b from r);rfl
 |str b=>cases (show v= .str b from r);rfl
 |tup ds=>obtain⟨a,vs,e,_⟩:=(show ∃a vs,v= .ref a/\H a=some (.tup vs)/\Á K H ds vs from r);subst e;rfl
 |lst a=>cases (show v= .ref a from r.1);rfl
 |dic x i=>obtain⟨a,e,_⟩:=(show ∃a,v= .ref a/\H a=some (.dK [(cC x,V.int i)]) from r);subst e;rfl
 |dct a=>cases (show v= .ref a from r);rfl
 |scr ns=>obtain⟨a,e,_⟩:=(show ∃a,v= .ref a/\Ι K H a ns from r);subst e;rfl
 |exc C=>obtain⟨x,o,vs,e,_⟩:=(show ∃x o vs,v= .ref x/\H x=some (.frz o (.own 0))/\o.cls= .ref C/\o.data= .fields vs from r);subst e;rfl
 |fn a=>cases (show v= .ref a from r.1);rfl
 |exf C fs=>obtain⟨x,o,vs,e,_⟩:=(show ∃x o vs,v= .ref x/\H x=some (.frz o (.own 0))/\o.cls= .ref C/\o.data= .fields vs/\Β H o.dict fs from r);subst e;rfl
theorem Dp:ô X (N8 .Is) (isV false):=by
 intro À s σ H x y v u Q I rx ry h;obtain⟨dx,dy,h,Qd,r1,r2,rh,q,post⟩:=h;cases dy with
 |non=>
  have e:y= .non:=r2;subst e;refine EA À s σ H x .non v u Q I rx ry ⟨rfl,?_⟩;rw [Mb r1];have q':Qd (.bl (isN dx)) h:=by simpa [isV] using q
  exact post (.bl _) _ _ _ (.refl H) rh rfl q'
 |bl c=>
  have e:y= .bl c:=r2;subst e;cases (show u= .bool c from ry);cases dx<;>first
   |exact False.elim q
   |skip
  ·have e:x= .non:=r1;subst e;cases (show v= .none from rx);exact sP (by rfl) ⟨.bl false,H,I,rfl,post (.bl false) _ _ _ (.refl H) rh rfl q⟩
  ·rename_i b;have e:x= .bl b:=r1;subst e;cases (show v= .bool b from rx);have eb:(bE b==bE c)=(b==c):=by cases b<;>cases c<;>rfl
   refine sP (by rfl) ⟨.bl (b==c),H,I,by rw [eb];rfl,post (.bl (b==c)) _ _ _ (.refl H) rh rfl ?_⟩;simpa [isV] using q
 |_=>exact False.elim q
theorem wr:ô X (N8 .IsNot) (isV true):=by
 intro À s σ H x y v u Q I rx ry h;obtain⟨dx,dy,h,Qd,r1,r2,rh,q,post⟩:=h;cases dy with
 |non=>
  have e:y= .non:=r2;subst e;refine Lw À s σ H x .non v u Q I rx ry ⟨rfl,?_⟩;rw [Mb r1];have q':Qd (.bl (!isN dx)) h:=by simpa [isV] using q
  exact post (.bl _) _ _ _ (.refl H) rh rfl q'
 |bl c=>
  have e:y= .bl c:=r2;subst e;cases (show u= .bool c from ry);cases dx<;>first
   |exact False.elim q
   |skip
  ·have e:x= .non:=r1;subst e;cases (show v= .none from rx);exact pP (by rfl) ⟨.bl true,H,I,rfl,post (.bl true) _ _ _ (.refl H) rh rfl q⟩
  ·rename_i b;have e:x= .bl b:=r1;subst e;cases (show v= .bool b from rx);have eb:(!(bE b==bE c))= !(b==c):=by cases b<;>cases c<;>rfl
   refine pP (by rfl) ⟨.bl (!(b==c)),H,I,by rw [eb];rfl,post (.bl (!(b==c))) _ _ _ (.refl H) rh rfl ?_⟩;simpa [isV] using q
 |_=>exact False.elim q
end
end L2
namespace HT
open PySem PySem.Spec PyProof.Rows
section
variable {prog:T7}{w:C1}{A:B2}{E:G3->G6->Prop}{s:G6}
theorem Mc (k:P0){vs:G0 G3}{ns:G0 P0}(hi:lS vs ns)(j:G7)(h:j<ns.length): ∃t,vs[j]? =some (.int ns[j] t):=by
 induction hi generalizing j with
 |nil=>simp at h
 |cons n t r ih=>
  cases j with
  |zero=>exact⟨t,rfl⟩
  |succ j=>obtain⟨u,e⟩:=ih j (by simpa using h);exact⟨u,by simpa using e⟩
end
end HT
namespace L2
open PySem PySem.Spec PyProof.Rows
theorem Md: ∀ {ns:G0 P0} {us:G0 G3},È (ns.map V.int) us->lS us ns
 | [],_,r=>by cases r;exact .nil
 |n::ns,_,r=>by
  cases r with
  |cons r t=>obtain⟨k,rfl⟩:=r;exact .cons n k (Md t)
theorem yX {K:G5}{H:Hp}: ∀ {ns:G0 P0} {vs:G0 V},Á K H (ns.map D.int) vs->vs=ns.map V.int
 | [],_,h=>h
 |n::ns,vs,h=>by
  obtain⟨v,r,e,h1,h2⟩:=(show ∃v r,vs=v::r/\Ê K H (.int n) v/\Á K H (ns.map D.int) r from h);rw [e,yX h2,(show v= .int n from h1)];rfl
theorem VA (ns:G0 P0): ∀k,k<=ns.length->G0f (λi=>ns.getD i 0) k=(ns.take k).sum
 |0,_=>by simp [G0f]
 |k+1,h=>by
  have hk:k<ns.length:=by omega
  rw [G0f,VA ns k (by omega),B6,G2 hk,rJ,S1,G2 hk];simp
variable {X:Cx}
theorem Um (hc:X.calm=true):è X (.builtin "sum") (λxs H Q=> ∃ (a:P1) (ns:G0 P0),xs= [.ref a]/\ò X.K H a (ns.map V.int)/\Q (.int ns.sum) H):=by
 intro À s σ H xs us Q I r h;obtain⟨a,ns,rfl,hS,q⟩:=h;obtain⟨u,rfl,ru⟩:=Vc r;cases ru;obtain⟨its,rv,pl,hz⟩:=I.list hS;have hl:=pl.isList;have hlt:a<s.heap.objs.size:=by obtain⟨_,e,_⟩:=hl;exact R7 e
 have hi:=Md rv;have hn:its.length=ns.length:=hi.length;refine call_sum_walkAnyS (bT hl ?_);refine⟨s.heap.objs.size,_,_,_,_,_,_,λi=>ns.getD i 0,rfl,(Walks.list (A:=X.A.in1) (show X.A.in1.handled=none from I.ok.hd hc) s.heap.objs.size a (N3 hlt) its.toArray).toS,⟨⟨_,S4 _ rfl,rfl,rfl⟩,hl.push _⟩,?_,?_,λs' t' hm=> ?_⟩
 ·intro b hb;simp only [T3,F4,or_false] at hb;show b<(s.heap.push _).objs.size;rw [b8];rcases hb with e|e
  ·rw [e];exact Z6 _
  ·rw [e];exact i4 hlt
 ·intro i v hP;have e:its[i]? =some v:=by simpa using hP
  have ľ:i<ns.length:=by rw [<-hn];exact(P8.mp e).1
  obtain⟨t,e2⟩:=HT.Mc 0 hi i ľ;rw [e] at e2;cases e2;refine⟨t,?_⟩;show j9 ns[i] t=j9 (ns.getD i 0) t;rw [S1,G2 ľ];rfl
 ·have e:G0f (λi=>ns.getD i 0) its.toArray.size=ns.sum:=by
   rw [D8,hn,VA ns _ (P5 _),U0]
  rw [e];obtain⟨h',g',d',tk',o'⟩:=s';obtain⟨m1,m2,m3,m4,_⟩:=hm;simp only at m1 m2 m3 m4;subst m2 m3 m4;refine⟨.int ns.sum,H,I.kept (t':=tk') (λb o e=>m1 b o (λz=> ?_) (P3 _ e)),⟨_,rfl⟩,q⟩;rw [G9.mp z] at e;exact absurd (R7 e) (A4 _)
def Km:RDn:=λds h Q=> ∃ (a:P1) (ns:G0 P0),ds= [.lst a]/\h a=some (ns.map D.int)/\Q (.int ns.sum) (Ue h a)
theorem OD (hc:X.calm=true):JC X (.builtin "sum") Km:=(Um hc).imp λxs H Q ⟨ds,h,Qd,r,rh,⟨a,ns,e,hd,q⟩,p⟩=>by
 subst e;obtain⟨v,e,r1⟩:=jQ r;obtain⟨vs,hH,r2⟩:=rh a _ hd;have e1:v= .ref a:=r1.1;rw [yX r2] at hH;subst e e1;exact⟨a,ns,rfl,ò.of hH,p (.int _) _ _ _ (.refl H) (rh.sub (Sub.drop h a)) rfl q⟩
def ug (to ti te:TED):TED:=λσ h Q=>to σ h λx h1=> ∃a,x= .lst a/\ti σ h1 λi h2=>te σ h2 λy h3=> ∃ (k:G7) (xs:G0 D),i= .int (k:P0)/\k<=1000/\h3 a=some xs/\xs.length<sizeLine/\Q .non (wg h3 a (xs.take k++y::xs.drop k))
theorem Me:MtM X "list.insert" (λx vs H Q=> ∃ (l:P1) (xs:G0 V) (k:G7) (y:V),x= .ref l/\vs= [.int (k:P0),y]/\H l=some (.lst xs)/\k<=1000/\xs.length<sizeLine/\Q .non (upd H l (.lst (xs.take k++y::xs.drop k)))):=by
 intro À s σ H x vs v us Q I rx rv h;obtain⟨l,xs,k,y,rfl,rfl,hH,hk,hz,q⟩:=h;cases rx;obtain⟨u,w',rfl,⟨t,rfl⟩,ry⟩:=BB rv;obtain⟨z,its,n,r,hl,e⟩:=I.lstM hH;have X0v: ¬ (!g9 (k:P0))=true:=by rw [sL (by omega) (by omega)];exact D0
 have hsz:its.toArray.size<=sizeLine:=by rw [D8];omega
 generalize har:its.toArray=ar at e hsz;obtain⟨kk,hkk⟩: ∃kk:P0,kk=(k:P0):=⟨_,rfl⟩;rw [<-hkk] at X0v ⊢;refine g8 F.slot_list_insert ⟨_,e,rfl⟩ F.entry_list_insert (F.args_list_insert_3 _ _ _) (AutoListH.list_insert_list_int_val_1 l ar n kk t w' X0v hsz) ⟨e,?_⟩;subst har hkk;refine⟨.non,_,I.lset (its':=its.take k++w'::its.drop k) hH e ?_ ((r.take k).append (.cons ry (r.drop k))) ?_,rfl,q⟩
 ·have hk0: ¬ ((k:P0)<0):=by omega
  simp only [hk0,lC,X9,D8];have e1:its.take (min k its.length)=its.take k:=by
   by_cases hh:k<=its.length
   ·rw [Q5 hh]
   ·rw [qM (by omega),U0,S3 (by omega)]
  have e2:its.drop (min k its.length)=its.drop k:=by
   by_cases hh:k<=its.length
   ·rw [Q5 hh]
   ·rw [qM (by omega),List.drop_length,List.drop_of_length_le (by omega)]
  have e3:(its.drop k).take (its.length-min k its.length)=its.drop k:=S3 (by rw [C6];omega);apply Array.ext';simp only [F7,aM,List.extract_toArray,K3,iD,pQ];rw [e1,e2,e3,D4];rfl
 ·rw [P2,S7,S8,C6];omega
section
variable {X:Cx}{o e i:T8}{to te ti:TED}{apos Ï:Pos}
theorem xp (ho:QE X o to)(hi:QE X i ti)(he:QE X e te)(hbase:W6 o "insert" X.env (A0 o X.env)=A0 o X.env:=by rfl)
 (hfew:((Q7 Ï (R6 [i,e] X.env)).all (λx=> !x.1)&&(g7 Ï (b7 [] X.env)).all (λx=>x.1.isSome)&&decide ([i,e].length+([]:G0 bG).length+(if ([]:G0 bG).isEmpty then 0 else 1)<30))=true:=by rfl)
 (hline:(apos.endLine==Ï.line)=true:=by rfl)(hs:R6 [i,e] X.env=(false,A0 i X.env)::R6 [e] X.env:=by rfl)(hs2:R6 [e] X.env=(false,A0 e X.env)::R6 [] X.env:=by rfl)(hplain:(Q7 Ï (R6 [e] X.env)).any (·.1)=false:=by rfl):
 QE X (.Call (.Attribute o "insert" apos) [i,e] [] Ï) (ug to ti te):=
 (BG aZ tK tL Me ho (vG hi (vG he ě hs2) hs) hbase hfew hline hs hplain).imp
  λσ H Q ⟨Æ,h,Qd,rs,rh,t,p⟩=>LE.bind rs rh t λd v h1 H1 k1 Ø Í r1 ⟨a,e,q⟩=>by
   subst e;obtain⟨e1,vs,hH⟩:=(show v= .ref a/\ ∃vs,H1 a=some (.lst vs) from r1);subst e1;refine⟨.inl ⟨rfl,vs,ò.of hH⟩,?_⟩;refine LE.bind Ø Í q λdi vi h2 H2 k2 ğ ó r2 q2=>LE.bind ğ ó q2 λy u h3 H3 k3 š Ĉ r3 ⟨k,xs,ei,hk,hx,hz,q3⟩=> ?_
   subst ei;have ev:vi= .int (k:P0):=r2;obtain⟨ws,hW,r4⟩:=Ĉ a xs hx;refine⟨a,ws,k,u,rfl,by rw [ev],hW,hk,by rw [<-r4.length];exact hz,p .non _ _ _ (k1.trans (k2.trans (k3.trans (.put hW)))) (Ĉ.put hW ((r4.take k).append (.cons r3 (r4.drop k)))) rfl q3⟩
end
structure JE (X:Cx)(e:T8)(t:TED):Prop where
 to:QE X e t
structure JT (X:Cx)(e:T8)(t:TTD):Prop where
 to:QT X e t
structure JW (X:Cx)(e:T8)(t:TTD):Prop where
 to:QW X e t
structure JA (X:Cx)(e:G0 T8)(t:TAD):Prop where
 to:QA X e t
structure JS (X:Cx)(e:A3)(t:TSD):Prop where
 to:QS X e t
structure Ţ (X:Cx)(e:G0 A3)(t:TSD):Prop where
 to:QSs X e t
structure JG (X:Cx)(e:T8)(t:TGD):Prop where
 to:QG X e t
structure JI (X:Cx)(tg e:T8)(t:TID):Prop where
 to:QI X tg e t
structure JO (X:Cx)(e:P7 T8)(t:TOD):Prop where
 to:QO X e t
section
variable {X:Cx}{a b c e:T8}{es rest:G0 T8}{ta tb tc te:TED}{t u:TAD}{tt tu:TTD}{pos:Pos}{f r r':RD2}
theorem jv (i:G7){x:Str}(hN:X.N[i]? =some x:=by rfl)(hv:Vis X.env.scope x:=by first|exact H0 rfl|exact W0 (H0 rfl)|exact W0 (W0 rfl))(hd:(x==("__debug__" :Str))=false:=by decide)(hcd:(x==("__classdict__" :Str))=false:=by decide):JE X (.Name x pos) (FG i):=⟨qv (i:=i) (hN:=hN) (hv:=hv) (hd:=hd) (hcd:=hcd)⟩
theorem jF {i:P0}{j:G7}:JE X (.Constant (.int i) j pos) (dC (.int i)):=⟨kQ⟩
theorem Ī {i:N2}{j:G7}:JE X (.Constant (.bool i) j pos) (dC (.bl i)):=⟨qbl⟩
theorem VB {j:G7}:JE X (.Constant .none j pos) (dC .non):=⟨uK⟩
theorem Dq {x:Str}{i:P0}{tk:Tok}(hg:Gl X x)(hm:X.mg x=some (.int i tk))(hd:(x==("__debug__" :Str))=false:=by decide):JE X (.Name x pos) (dC (.int i)):=⟨HN (hg:=hg) (hm:=hm) (hd:=hd)⟩
theorem ú {op:pB}(ho:ô X (J4 op) f)(ha:JE X a ta)(hb:JE X b tb):JE X (.BinOp a op b pos) (Ŗ f ta tb):=⟨qop (ho:=ho) (ha:=ha.to) (hb:=hb.to)⟩
theorem Hd {op:i0}(ho:ô X (N8 op) f)(ha:JE X a ta)(hb:JE X b tb)(hm:W5 op b=false):JE X (.Compare a [op] [b] pos) (Ŗ f ta tb):=⟨uL (ho:=ho) (ha:=ha.to) (hb:=hb.to) (hm:=hm)⟩
theorem Ga {op:i0}(ho:ô X (N8 op) f)(ha:JE X a ta)(hb:JE X b tb)(hm:W5 op b=false):JT X (.Compare a [op] [b] pos) (ZJ (Ŗ f ta tb)):=⟨HP (ho:=ho) (ha:=ha.to) (hb:=hb.to) (hm:=hm)⟩
theorem FN {op ĳ:i0}(ho:ô X (N8 op) r)(ho':ô X (N8 ĳ) r')(ha:JE X a ta)(hb:JE X b tb)(hc:JE X c tc)(hm:k9 [op,ĳ] [b,c]=false:=by with_unfolding_all rfl):JE X (.Compare a [op,ĳ] [b,c] pos) (Yi r r' ta tb tc):=⟨Sc (ho:=ho) (ho':=ho') (ha:=ha.to) (hb:=hb.to) (hc:=hc.to) (hm:=hm)⟩
theorem Mf {op ĳ:i0}(ho:ô X (N8 op) r)(ho':ô X (N8 ĳ) r')(ha:JE X a ta)(hb:JE X b tb)(hc:JE X c tc)(hm:k9 [op,ĳ] [b,c]=false:=by with_unfolding_all rfl):JT X (.Compare a [op,ĳ] [b,c] pos) (ZJ (Yi r r' ta tb tc)):=⟨Od (ho:=ho) (ho':=ho') (ha:=ha.to) (hb:=hb.to) (hc:=hc.to) (hm:=hm)⟩
theorem wM (ha:JE X a ta)(he: ∀whole,isTrue a X.env whole=(do let v <-whole;cV a.pos;aF [v] (lJ v)):=by intro _;rfl):JT X a (ZJ ta):=⟨HQ (ha:=ha.to) (he:=he)⟩
theorem Mg (ha:JT X a tt):JW X (.BoolOp .And [a] pos) tt:=⟨HR (ha:=ha.to)⟩
theorem Mh (ha:JT X a tt):JW X (.BoolOp .Or [a] pos) tt:=⟨uM (ha:=ha.to)⟩
theorem Dr (ha:JT X a tt)(hb:JW X (.BoolOp .And (b::rest) pos) tu):JW X (.BoolOp .And (a::b::rest) pos) (Oa tt tu):=⟨HS (ha:=ha.to) (hb:=hb.to)⟩
theorem Rc (ha:JT X a tt)(hb:JW X (.BoolOp .Or (b::rest) pos) tu):JW X (.BoolOp .Or (a::b::rest) pos) (ES tt tu):=⟨uN (ha:=ha.to) (hb:=hb.to)⟩
theorem yo (ha:JT X a tt):JT X (.UnaryOp .Not a pos) (Di tt):=⟨HU (ha:=ha.to)⟩
theorem Gb {op:BoolOp}(ha:JE X a ta):JE X (.BoolOp op [a] pos) ta:=⟨uO (ha:=ha.to)⟩
theorem Ds (ha:JE X a ta)(hb:JE X (.BoolOp .And (b::rest) pos) tb):JE X (.BoolOp .And (a::b::rest) pos) (BH ta tb):=⟨uP (ha:=ha.to) (hb:=hb.to)⟩
theorem jor (ha:JE X a ta)(hb:JE X (.BoolOp .Or (b::rest) pos) tb):JE X (.BoolOp .Or (a::b::rest) pos) (HJ ta tb):=⟨qor (ha:=ha.to) (hb:=hb.to)⟩
theorem uh (ha:JE X a ta):JE X (.UnaryOp .Not a pos) (BI ta):=⟨uQ (ha:=ha.to)⟩
theorem jif {c:T8}(hc:JT X c tt)(ha:JE X a ta)(hb:JE X b tb):JE X (.IfExp c a b pos) (dIf tt ta tb):=⟨qif (hc:=hc.to) (ha:=ha.to) (hb:=hb.to)⟩
theorem Js:JA X [] Vd:=⟨Sd⟩
theorem Mi {k:G7}(h:JA X es t):JE X (.Tuple es k pos) (HI t):=⟨uR (h:=h.to)⟩
theorem Uo (h:JA X es t):JE X (.List es pos) (Hb t):=⟨uS (h:=h.to)⟩
end
section
variable {X:Cx}{st:A3}{sts:G0 A3}{t u:TSD}{e:T8}{te:TED}{pos:Pos}
theorem Mj:Ţ X [] QX:=⟨Sj⟩
theorem jD (h1:JS X st t)(h2:Ţ X sts u):Ţ X (st::sts) (vz t u):=⟨Oj (h1:=h1.to) (h2:=h2.to)⟩
theorem jR (h1:JS X st t):Ţ X [st] t:=⟨Sk (h1:=h1.to)⟩
theorem yp (he:JE X e te)(hs:V3 e none pos.line X.env=pure false:=by rfl):JS X (.Expr e pos) (Of te):=⟨HY (he:=he.to) (hs:=hs)⟩
theorem zA (he:JE X e te):JS X (.Return (some e) pos) (BK te):=⟨uU (he:=he.to)⟩
theorem Kn {c:T8}{a b:G0 A3}{tc:TTD}(hc:JT X c tc)(ha:Ţ X a t)(hb:Ţ X b u):JS X (.If c a b pos) (FH tc t u):=⟨uV (hc:=hc.to) (ha:=ha.to) (hb:=hb.to)⟩
variable {i:G7}{x:Str}
theorem xq {pos':Pos}(hN:X.N.Nodup)(hi:X.N[i]? =some x)(hx:Loc X.env.scope x)(he:JE X e te)(hs:V3 e (some (.Name x pos')) pos.line X.env=pure false:=by rfl)(hf:X.fn x=true\/X.env.scope.names.lookup x=some .local:=by first|exact .inl rfl|exact .inr rfl|assumption):JS X (.Assign [.Name x pos'] e pos) (Bk i te):=⟨uW (hN:=hN) (hi:=hi) (hx:=hx) (he:=he.to) (hs:=hs) (hf:=hf)⟩
theorem OE (hN:X.N.Nodup)(hi:X.N[i]? =some x)(hx:Loc X.env.scope x)(hf:X.fn x=true\/X.env.scope.names.lookup x=some .local:=by first|exact .inl rfl|exact .inr rfl|assumption):JG X (.Name x pos) (gN i):=⟨Ol (hN:=hN) (hi:=hi) (hx:=hx) (hf:=hf)⟩
theorem yM {j:G7}{y:Str}{p1 p2:Pos}{k:G7}(hc:X.calm=true)(hN:X.N.Nodup)(hi:X.N[i]? =some x)(hj:X.N[j]? =some y)(hx:Loc X.env.scope x)(hy:Loc X.env.scope y)(hf:X.fn x=true\/X.env.scope.names.lookup x=some .local:=by first|exact .inl rfl|exact .inr rfl|assumption)(hf2:X.fn y=true\/X.env.scope.names.lookup y=some .local:=by first|exact .inl rfl|exact .inr rfl|assumption):JG X (.Tuple [.Name x p1,.Name y p2] k pos) (gT2 i j):=⟨Sl (hc:=hc) (hN:=hN) (hi:=hi) (hj:=hj) (hx:=hx) (hy:=hy) (hf:=hf) (hf2:=hf2)⟩
theorem Dt {tg:T8}{g:TGD}(he:JE X e te)(hg:JG X tg g)(hs:cP [tg] e pos.line X.env=pure false:=by rfl)(hsw:cQ [tg] e X.env=pure none:=by rfl)(h1:(cY [tg] X.env).map (·.2)= [cX tg X.env]:=by rfl):JS X (.Assign [tg] e pos) (HV te g):=⟨xa (he:=he.to) (hg:=hg.to) (hs:=hs) (hsw:=hsw) (h1:=h1)⟩
theorem OF {j:G7}{y:Str}{a b:T8}{ta:TAD}{px py pt:Pos}{kt k2 Τ}(hc:X.calm=true)(hN:X.N.Nodup)(hi:X.N[i]? =some x)(hj:X.N[j]? =some y)(hij:i≠j)(hx:X.env.scope.names.lookup x=some .local)(hy:X.env.scope.names.lookup y=some .local)(ha:JA X [a,b] ta)(hw:cQ [.Tuple [.Name x px,.Name y py] kt pt] (.Tuple [a,b] k2 Τ) X.env=pure (some [x,y]))(hs:cP [.Tuple [.Name x px,.Name y py] kt pt] (.Tuple [a,b] k2 Τ) pos.line X.env=pure false:=by rfl):JS X (.Assign [.Tuple [.Name x px,.Name y py] kt pt] (.Tuple [a,b] k2 Τ) pos) (HW i j ta):=⟨xb (hc:=hc) (hN:=hN) (hi:=hi) (hj:=hj) (hij:=hij) (hx:=hx) (hy:=hy) (ha:=ha.to) (hw:=hw) (hs:=hs)⟩
end
section
variable {X:Cx}{tg e iter elt:T8}{te:TED}{ti:TID}{g:TGD}{tb:TSD}{tt:TTD}{pos:Pos}{ta:TAD}{scope:U2}{js:G0 G7}{ifs:G0 T8}
theorem OG (he:JE X e te):JI X tg e (iL te):=⟨On (he:=he.to)⟩
theorem Ko {p:Pos}{a:T8}(hg:Gl X "range")(hm:X.mg "range" =none)(ha:JA X [a] ta)(hs:R6 [a] X.env= [(false,A0 a X.env)]:=by rfl):JI X tg (.Call (.Name "range" p) [a] [] pos) (iR1 ta):=⟨Ka (hg:=hg) (hm:=hm) (ha:=ha.to) (hs:=hs)⟩
theorem Re {body:G0 A3}(hp:oA (S2 X.prog X.w) X.A X.env X.xe)(hc:X.calm=true)(hi:JI X tg iter ti)(hg:JG X tg g)(hb:Ţ X body tb)(hs: ∀x,T5 iter X.env x=pure x:=by intro _;rfl):JS X (.For tg iter body [] pos) (Sm ti g tb):=⟨xf (hp:=hp) (hc:=hc) (hi:=hi.to) (hg:=hg.to) (hb:=hb.to) (hs:=hs)⟩
theorem wZ:ē X [] (LT X.K Jd):=Oo
theorem Gc {c:T8}(hc:JT X c tt):ē X [c] (LT X.K tt):=Op (hc:=hc.to)
theorem jlc {i:G7}{x:Str}{p:Pos}(hc:X.calm=true)(S:Ì X scope js)(hi:JI X (.Name x p) iter ti)(hj:i∈js)(hN:X.N.Nodup)(hx:X.N[i]? =some x)(hl:scope.names.lookup x=some .local\/scope.names.lookup x=some .cell)(ht: ∀X',jh X scope X'->ē X' ifs (LT X'.K tt))(he: ∀X',jh X scope X'->JE X' elt te)(hs: ∀x,T5 iter X.env x=pure x:=by intro _;rfl):JE X (.ListComp elt [⟨.Name x p,iter,ifs,0⟩] scope pos) (JD (bN i) js ti tt te):=⟨qlc (hc:=hc) (S:=S) (hi:=hi.to) (hj:=hj) (hN:=hN) (hx:=hx) (hl:=hl) (ht:=ht) (he:=λX' hX=>(he X' hX).to) (hs:=hs)⟩
theorem Kp {i j:G7}{x y:Str}{p1 p2 p3:Pos}{k:G7}(hc:X.calm=true)(S:Ì X scope js)(hi:JI X (.Tuple [.Name x p1,.Name y p2] k p3) iter ti)(hj:i∈js)(hj2:j∈js)(hij:i≠j)(hN:X.N.Nodup)(hx:X.N[i]? =some x)(hy:X.N[j]? =some y)(hl:scope.names.lookup x=some .local\/scope.names.lookup x=some .cell)(hl2:scope.names.lookup y=some .local\/scope.names.lookup y=some .cell)(ht: ∀X',jh X scope X'->ē X' ifs (LT X'.K tt))(he: ∀X',jh X scope X'->JE X' elt te)(hs: ∀x,T5 iter X.env x=pure x:=by intro _;rfl):JE X (.ListComp elt [⟨.Tuple [.Name x p1,.Name y p2] k p3,iter,ifs,0⟩] scope pos) (JD (b2 i j) js ti tt te):=⟨xg (hc:=hc) (S:=S) (hi:=hi.to) (hj:=hj) (hj2:=hj2) (hij:=hij) (hN:=hN) (hx:=hx) (hy:=hy) (hl:=hl) (hl2:=hl2) (ht:=ht) (he:=λX' hX=>(he X' hX).to) (hs:=hs)⟩
end
section
variable {X:Cx}{k:G7}{f:P1}{fd:M9}{ps:G0 Str}{ĩ:RDn}{x:Str}{p pos:Pos}{e:T8}{es:G0 T8}{t:TAD}
theorem Kq (F:Ë X.prog X.w X.K X.mg X.base á k f fd ps (ä X.K ĩ))(hr:ß k X.A)(hg:Gl X x)(hm:X.mg x=some (.ref f))(hk:aX X.K (.ref f)=true)(hb:Binds X.K fd ps [])(ha:JA X (e::es) t)(hdb:(x==("__debug__" :Str))=false:=by decide)(he:R6 (e::es) X.env=(false,A0 e X.env)::R6 es X.env:=by rfl)(hpl:(Q7 pos (R6 es X.env)).any (·.1)=false:=by rfl):JE X (.Call (.Name x p) (e::es) [] pos) (Ĩ ĩ t):=⟨Kb (F:=F) (hr:=hr) (hg:=hg) (hm:=hm) (hk:=hk) (hb:=hb) (ha:=ha.to) (hdb:=hdb) (he:=he) (hpl:=hpl)⟩
theorem wJ {id:U4}{r:RDn}(hc:JC X (.builtin id) r)(hg:Gl X x)(hm:X.mg x=none)(hv:Q1 x=some (.builtin id))(ha:JA X (e::es) t)(hn:x≠ "__name__" :=by decide)(hdb:(x==("__debug__" :Str))=false:=by decide)(he:R6 (e::es) X.env=(false,A0 e X.env)::R6 es X.env:=by rfl)(hpl:(Q7 pos (R6 es X.env)).any (·.1)=false:=by rfl):JE X (.Call (.Name x p) (e::es) [] pos) (Ĩ r t):=⟨Ss (hc:=hc) (hg:=hg) (hm:=hm) (hv:=hv) (ha:=ha.to) (hn:=hn) (hdb:=hdb) (he:=he) (hpl:=hpl)⟩
theorem jM {T:U4}{r:RDn}(hc:JC X (.type T) r)(hg:Gl X x)(hm:X.mg x=none)(hv:Q1 x=some (.type T))(ha:JA X (e::es) t)(hn:x≠ "__name__" :=by decide)(hdb:(x==("__debug__" :Str))=false:=by decide)(he:R6 (e::es) X.env=(false,A0 e X.env)::R6 es X.env:=by rfl)(hpl:(Q7 pos (R6 es X.env)).any (·.1)=false:=by rfl):JE X (.Call (.Name x p) (e::es) [] pos) (Ĩ r t):=⟨Os (hc:=hc) (hg:=hg) (hm:=hm) (hv:=hv) (ha:=ha.to) (hn:=hn) (hdb:=hdb) (he:=he) (hpl:=hpl)⟩
end
section
variable {X:Cx}{iter elt:T8}{te:TED}{ti:TID}{tt:TTD}{pos ï:Pos}{scope:U2}{js:G0 G7}{ifs:G0 T8}
theorem FO {i k:G7}{x y:Str}{p py:Pos}(hc:X.calm=true)(hN:X.N.Nodup)(hk:X.N[k]? =some y)(hy:Loc X.env.scope y)(S:Ì X scope js)(hi:JI X (.Name x p) iter ti)(hj:i∈js)(hx:X.N[i]? =some x)(hl:scope.names.lookup x=some .local\/scope.names.lookup x=some .cell)(ht: ∀X',jh X scope X'->ē X' ifs (LT X'.K tt))(he: ∀X',jh X scope X'->JE X' elt te)(hsw:V3 (.ListComp elt [⟨.Name x p,iter,ifs,0⟩] scope pos) (some (.Name y py)) ï.line X.env=pure true:=by rfl)(hf:X.fn y=true\/X.env.scope.names.lookup y=some .local:=by first|exact .inl rfl|exact .inr rfl|assumption)(hs: ∀x,T5 iter X.env x=pure x:=by intro _;rfl):JS X (.Assign [.Name y py] (.ListComp elt [⟨.Name x p,iter,ifs,0⟩] scope pos) ï) (Bk k (JD (bN i) js ti tt te)):=⟨Su (hc:=hc) (hN:=hN) (hk:=hk) (hy:=hy) (S:=S) (hi:=hi.to) (hj:=hj) (hx:=hx) (hl:=hl) (ht:=ht) (he:=λX' hX=>(he X' hX).to) (hsw:=hsw) (hf:=hf) (hs:=hs)⟩
theorem OH {i j k:G7}{x1 x2 y:Str}{p1 p2 p3 py:Pos}{kk:G7}(hc:X.calm=true)(hN:X.N.Nodup)(hk:X.N[k]? =some y)(hy:Loc X.env.scope y)(S:Ì X scope js)(hi:JI X (.Tuple [.Name x1 p1,.Name x2 p2] kk p3) iter ti)(hj:i∈js)(hj2:j∈js)(hij:i≠j)(hx:X.N[i]? =some x1)(hx2:X.N[j]? =some x2)(hl:scope.names.lookup x1=some .local\/scope.names.lookup x1=some .cell)(hl2:scope.names.lookup x2=some .local\/scope.names.lookup x2=some .cell)(ht: ∀X',jh X scope X'->ē X' ifs (LT X'.K tt))(he: ∀X',jh X scope X'->JE X' elt te)(hsw:V3 (.ListComp elt [⟨.Tuple [.Name x1 p1,.Name x2 p2] kk p3,iter,ifs,0⟩] scope pos) (some (.Name y py)) ï.line X.env=pure true:=by rfl)(hf:X.fn y=true\/X.env.scope.names.lookup y=some .local:=by first|exact .inl rfl|exact .inr rfl|assumption)(hs: ∀x,T5 iter X.env x=pure x:=by intro _;rfl):JS X (.Assign [.Name y py] (.ListComp elt [⟨.Tuple [.Name x1 p1,.Name x2 p2] kk p3,iter,ifs,0⟩] scope pos) ï) (Bk k (JD (b2 i j) js ti tt te)):=⟨Ot (hc:=hc) (hN:=hN) (hk:=hk) (hy:=hy) (S:=S) (hi:=hi.to) (hj:=hj) (hj2:=hj2) (hij:=hij) (hx:=hx) (hx2:=hx2) (hl:=hl) (hl2:=hl2) (ht:=ht) (he:=λX' hX=>(he X' hX).to) (hsw:=hsw) (hf:=hf) (hs:=hs)⟩
end
section
variable {X:Cx}{iter å elt:T8}{te:TED}{ti Ĵ:TID}{tt Ľ:TTD}{pos:Pos}{scope:U2}{js:G0 G7}{ifs Ğ:G0 T8}
theorem ui {i i':G7}{x y:Str}{p py:Pos}(hc:X.calm=true)(S:Ì X scope js)(hi:JI X (.Name x p) iter ti)(hj:i∈js)(hj':i'∈js)(hne:i≠i')(hN:X.N.Nodup)(hx:X.N[i]? =some x)(hy:X.N[i']? =some y)(hl:scope.names.lookup x=some .local\/scope.names.lookup x=some .cell)(hl':scope.names.lookup y=some .local\/scope.names.lookup y=some .cell)(ht: ∀X',jh X scope X'->ē X' ifs (LT X'.K tt))(hi': ∀X',jh X scope X'->JI X' (.Name y py) å Ĵ)(ht': ∀X',jh X scope X'->ē X' Ğ (LT X'.K Ľ))(he: ∀X',jh X scope X'->JE X' elt te)(hs: ∀x,T5 iter X.env x=pure x:=by intro _;rfl)(hs': ∀env x,T5 å env x=pure x:=by intro _ _;rfl):JE X (.ListComp elt [⟨.Name x p,iter,ifs,0⟩,⟨.Name y py,å,Ğ,0⟩] scope pos) (BP (bN i) js ti tt i' Ĵ Ľ te):=⟨xh (hc:=hc) (S:=S) (hi:=hi.to) (hj:=hj) (hj':=hj') (hne:=hne) (hN:=hN) (hx:=hx) (hy:=hy) (hl:=hl) (hl':=hl') (ht:=ht) (hi':=λX' hX=>(hi' X' hX).to) (ht':=ht') (he:=λX' hX=>(he X' hX).to) (hs:=hs) (hs':=hs')⟩
end
section
variable {X:Cx}{a b e:T8}{ta tb te:TED}{pos p2:Pos}
theorem jix (ha:JE X a ta)(hb:JE X b tb)(hs:Ua b):JE X (.Subscript a b pos) (Ŗ ixD ta tb):=⟨qix (ha:=ha.to) (hb:=hb.to) (hs:=hs)⟩
end
variable {pos:Pos}
theorem Xx {a:T8}{ta:TED}{T:U4}{t:Str}{p p2:Pos}(hT:T∈ ["tuple","int","bool","list","str"])(hg:Gl X "isinstance")(hm:X.mg "isinstance" =none)(hg2:Gl X t)(hm2:X.mg t=none)(hv:Q1 t=some (.type T))(ha:JE X a ta)(hn:t≠ "__name__" :=by decide)(hd:(t==("__debug__" :Str))=false:=by decide)(h1:R6 [a,.Name t p2] X.env=(false,A0 a X.env)::R6 [.Name t p2] X.env:=by rfl)(h2:(Q7 pos (R6 [.Name t p2] X.env)).any (·.1)=false:=by rfl):JE X (.Call (.Name "isinstance" p) [a,.Name t p2] [] pos) (dIs T ta):=⟨Kh (hT:=hT) (hg:=hg) (hm:=hm) (hg2:=hg2) (hm2:=hm2) (hv:=hv) (ha:=ha.to) (hn:=hn) (hd:=hd) (h1:=h1) (h2:=h2)⟩
section
variable {X:Cx}{o e i:T8}{to te ti:TED}{apos Ï pos:Pos}
theorem OJ (ho:JE X o to)(he:JE X e te)(hbase:W6 o "append" X.env (A0 o X.env)=A0 o X.env:=by rfl)(hfew:((Q7 Ï (R6 [e] X.env)).all (λx=> !x.1)&&(g7 Ï (b7 [] X.env)).all (λx=>x.1.isSome)&&decide ([e].length+([]:G0 bG).length+(if ([]:G0 bG).isEmpty then 0 else 1)<30))=true:=by rfl)(hline:(apos.endLine==Ï.line)=true:=by rfl)(hs:R6 [e] X.env=(false,A0 e X.env)::R6 [] X.env:=by rfl)(hplain:(Q7 Ï (R6 [] X.env)).any (·.1)=false:=by rfl):JE X (.Call (.Attribute o "append" apos) [e] [] Ï) (uc to te):=⟨xk (ho:=ho.to) (he:=he.to) (hbase:=hbase) (hfew:=hfew) (hline:=hline) (hs:=hs) (hplain:=hplain)⟩
theorem Pf (ho:JE X o to)(hi:JE X i ti)(ha: ∀v,cX (.Subscript o i pos) X.env v=(do
 let ov <-aF [v] (A0 o X.env)
 let iv <-aF [v,ov] (A0 i X.env)
 cV pos
 aF [v,ov,iv] (rX ov iv v)
 G0l [v,ov,iv] []):=by intro _;rfl):JG X (.Subscript o i pos) (SC to ti):=⟨SE (ho:=ho.to) (hi:=hi.to) (ha:=ha)⟩
end
theorem ũ {e:T8}{t:TTD}(h:JW X e t):JT X e t:=⟨qpt (h:=h.to)⟩
theorem Up:JO X none RX:=⟨Oz⟩
variable {te:TED}
theorem ZL {e:T8}(he:JE X e te):JO X (some e) (SF te):=⟨OA (he:=he.to)⟩
theorem Xy {e:T8}{lo hi:P7 T8}{tl th:TOD}{p2:Pos}(he:JE X e te)(hl:JO X lo tl)(hu:JO X hi th):JE X (.Subscript e (.Slice lo hi none p2) pos) (dSl te tl th):=⟨SG (he:=he.to) (hl:=hl.to) (hu:=hu.to)⟩
theorem Kr {a:T8}{ta:TED}(ha:JE X a ta):JE X (.UnaryOp .USub a pos) (dUn Kk ta):=⟨ue (ha:=ha.to)⟩
theorem xr {e:T8}{p2 p3 p4:Pos}{j:G7}(he:JE X e te):JE X (.Subscript e (.Slice none none (some (.UnaryOp .USub (.Constant (.int 1) j p4) p3)) p2) pos) (uf te):=⟨xo (he:=he.to)⟩
theorem zl {tg e:T8}(he:JE X e te):JI X tg e (iS te):=⟨SK (he:=he.to)⟩
theorem Xz {st:A3}:JS X st FM:=⟨SL⟩
theorem jac {e:T8}{es:G0 T8}{t:TAD}(ha:JE X e te)(hr:JA X es t)(h:zN e=true:=by rfl):JA X (e::es) (wb te t):=⟨qac (ha:=ha.to) (hr:=hr.to) (h:=h)⟩
section
variable {X:Cx}{o e i:T8}{to te ti:TED}{apos Ï:Pos}
theorem xt (ho:JE X o to)(hi:JE X i ti)(he:JE X e te)(hbase:W6 o "insert" X.env (A0 o X.env)=A0 o X.env:=by rfl)(hfew:((Q7 Ï (R6 [i,e] X.env)).all (λx=> !x.1)&&(g7 Ï (b7 [] X.env)).all (λx=>x.1.isSome)&&decide ([i,e].length+([]:G0 bG).length+(if ([]:G0 bG).isEmpty then 0 else 1)<30))=true:=by rfl)(hline:(apos.endLine==Ï.line)=true:=by rfl)(hs:R6 [i,e] X.env=(false,A0 i X.env)::R6 [e] X.env:=by rfl)(hs2:R6 [e] X.env=(false,A0 e X.env)::R6 [] X.env:=by rfl)(hplain:(Q7 Ï (R6 [e] X.env)).any (·.1)=false:=by rfl):JE X (.Call (.Attribute o "insert" apos) [i,e] [] Ï) (ug to ti te):=⟨xp (ho:=ho.to) (hi:=hi.to) (he:=he.to) (hbase:=hbase) (hfew:=hfew) (hline:=hline) (hs:=hs) (hs2:=hs2) (hplain:=hplain)⟩
end
section
variable {P:T7}{w:C1}{K:G5}{mg:Str->P7 G3}{base:L8}
theorem ã.okJ {x qual:Str}{st:A3}{f:P1}{fd:M9}{N ps:G0 Str}{k:G7}{ĩ:RDn}(F:ã K x qual st f fd)(S:Ã N ps (jd st))(len: ∀ds h Q,ĩ ds h Q->ds.length=ps.length)
 (tb:TSD)(ė: ∀ (ù:G3) (A:B2) (outer:G0 Env) (s:G6) (H:Hp) (E:XK),ß k (A.deeper (gZ qual (jd st) s.heap.objs.size f ù))->Ţ (BC á P w K mg base N qual (jd st) f ù A outer s H E).nox (wz st) tb)
 (read: ∀ds h Q,ĩ ds h Q->tb (Bl Q) (vA N ds) h):Ë P w K mg base á (k+1) f fd ps (ä K ĩ):=F.okD S len tb (λù A outer s H E hr=>(ė ù A outer s H E hr).to) read
end
def ym (r:G0 P0):D:= .tup (r.map D.int)
def jg (T:G0 (G0 P0)):D:= .tup (T.map ym)
def yY (n:G7)(r:G0 P0):Prop:=r.length=n/\ ∀x∈r,0<=x/\x<=1000000
def ī (n:G7)(T:G0 (G0 P0)):Prop:=T.length=n/\ ∀r∈T,yY n r
structure Sq (n e:G7)(T:G0 (G0 P0)):Prop where
 len:T.length=n
 row: ∀r∈T,r.length=n
 nn: ∀r∈T,∀x∈r,0<=x
 bit: ∀r∈T,∀x∈r,x<2^e
variable {n:G7}{T:G0 (G0 P0)}
theorem ī.sq (g:ī n T):Sq n 20 T:=⟨g.1,λr hr=>(g.2 r hr).1,λr hr x hx=>((g.2 r hr).2 x hx).1,λr hr x hx=>iE ((g.2 r hr).2 x hx).2 (by decide)⟩
variable {e f:G7}
theorem Sq.mono (h:Sq n e T)(l:e<=f):Sq n f T:=⟨h.len,h.row,h.nn,λr hr x hx=>oV (h.bit r hr x hx) (by
 have:(2:G7)^e<=2^f:=b9 (by decide) l;have h2:((2^e:G7):P0)<=((2^f:G7):P0):=by exact_mod_cast this
 simpa using h2)⟩
def Î (T:G0 (G0 P0))(i j:G7):P0:=(T.getD i []).getD j 0
def ĸ (n:G7)(f:G7->G7->P0):G0 (G0 P0):=(P4 n).map λi=>(P4 n).map λj=>f i j
theorem yN {i j:G7}{f:G7->G7->P0}(hi:i<n)(hj:j<n):Î (ĸ n f) i j=f i j:=by
 unfold Î ĸ;simp [S1,hi,hj]
theorem zT {α:Type}(xs:G0 α)(d:α):xs=(P4 xs.length).map λi=>xs.getD i d:=by
 apply List.ext_getElem (by simp);intro i h1 h2;simp [S1,h1]
theorem Sq.eq_mk (h:Sq n e T):T=ĸ n (Î T):=by
 have h1:=zT T [];rw [h.len] at h1;unfold ĸ
 conv=>lhs;rw [h1]
 apply M6;intro i hi;have hi':i<T.length:=by rw [h.len];exact S0.mp hi
 have hr:(T.getD i []).length=n:=by
  rw [S1,G2 hi'];exact h.row _ (N6 hi')
 have h2:=zT (T.getD i []) 0;rw [hr] at h2;exact h2
theorem WO {f g:G7->G7->P0}(h: ∀i j,i<n->j<n->f i j=g i j):ĸ n f=ĸ n g:=by
 unfold ĸ;apply M6;intro i hi;apply M6;intro j hj;exact h i j (S0.mp hi) (S0.mp hj)
theorem Sq.of_mk {f:G7->G7->P0}(h0: ∀i j,i<n->j<n->0<=f i j)(h1: ∀i j,i<n->j<n->f i j<2^e):Sq n e (ĸ n f):=by
 have key: ∀r∈ĸ n f,∃i,i<n/\r=(P4 n).map λj=>f i j:=λr hr=>by
  obtain⟨i,hi,e⟩:=R9.mp hr;exact⟨i,S0.mp hi,e.symm⟩
 refine⟨by simp [ĸ],λr hr=> ?_,λr hr x hx=> ?_,λr hr x hx=> ?_⟩
 ·obtain⟨i,_,e⟩:=key r hr;rw [e];simp
 ·obtain⟨i,hi,e⟩:=key r hr;rw [e] at hx;obtain⟨j,hj,e2⟩:=R9.mp hx;rw [<-e2];exact h0 i j hi (S0.mp hj)
 ·obtain⟨i,hi,e⟩:=key r hr;rw [e] at hx;obtain⟨j,hj,e2⟩:=R9.mp hx;rw [<-e2];exact h1 i j hi (S0.mp hj)
theorem Sq.ent_nn (h:Sq n e T){i j:G7}(hi:i<n)(hj:j<n):0<=Î T i j/\Î T i j<2^e:=by
 have hi':i<T.length:=by rw [h.len];exact hi
 have hr:T.getD i []=T[i]:=by rw [S1,G2 hi'];rfl
 have hm:T[i]∈T:=N6 hi';have hj':j<T[i].length:=by rw [h.row _ hm];exact hj
 have he:Î T i j=T[i][j]:=by unfold Î;rw [hr,S1,G2 hj'];rfl
 rw [he];exact⟨h.nn _ hm _ (N6 hj'),h.bit _ hm _ (N6 hj')⟩
variable {U:G0 (G0 P0)}
theorem Sq.ext (h:Sq n e T)(g:Sq n f U)(k: ∀i j,i<n->j<n->Î T i j=Î U i j):T=U:=by
 rw [h.eq_mk,g.eq_mk];exact WO k
def jN (n:G7)(f:G7->P0):P0:=((P4 n).map f).sum
theorem wV (f:G7->P0):jN 0 f=0:=rfl
theorem jy (n:G7)(f:G7->P0):jN (n+1) f=jN n f+f n:=by
 unfold jN;rw [V5,R1,rJ];simp
theorem zm {f g:G7->P0}(h: ∀k,k<n->f k=g k):jN n f=jN n g:=by
 unfold jN;congr 1;apply M6;intro k hk;exact h k (S0.mp hk)
theorem Zj {f:G7->P0}(h: ∀k,k<n->0<=f k):0<=jN n f:=by
 induction n with
 |zero=>exact nE _
 |succ n ih=>rw [jy];have:=ih λk hk=>h k (by omega);have:=h n (by omega);omega
theorem Uq {f:G7->P0}{b:P0}(h: ∀k,k<n->f k<=b):jN n f<=n*b:=by
 induction n with
 |zero=>simp [wV]
 |succ n ih=>
  rw [jy];have h1:=ih λk hk=>h k (by omega);have h2:=h n (by omega)
  have:((n+1:G7):P0)*b=(n:P0)*b+b:=by rw [rK,Int.add_mul];simp
  omega
theorem Mk (n:G7)(f g:G7->P0):jN n (λk=>f k+g k)=jN n f+jN n g:=by
 induction n with
 |zero=>rfl
 |succ n ih=>rw [jy,jy,jy,ih];omega
theorem Yn (n:G7)(c:P0)(f:G7->P0):jN n (λk=>c*f k)=c*jN n f:=by
 induction n with
 |zero=>simp [wV]
 |succ n ih=>rw [jy,jy,ih,Int.mul_add]
theorem Du (n:G7)(c:P0)(f:G7->P0):jN n (λk=>f k*c)=jN n f*c:=by
 rw [l9,<-Yn];exact zm λk _=>l9 _ _
theorem Dv (m n:G7)(f:G7->G7->P0):jN m (λi=>jN n (f i))=jN n (λj=>jN m λi=>f i j):=by
 induction m with
 |zero=>
  rw [wV]
  induction n with
  |zero=>rfl
  |succ n ih=>rw [jy,<-ih,wV];rfl
 |succ m ih=>
  rw [jy,ih,<-Mk];exact zm λj _=>(jy m λi=>f i j).symm
theorem XA {f:G7->P0}{i:G7}(hi:i<n)(h: ∀k,k<n->k≠i->f k=0):jN n f=f i:=by
 induction n with
 |zero=>omega
 |succ n ih=>
  rw [jy]
  by_cases e:i=n
  ·subst e;have:jN i f=0:=by
    have:jN i f=jN i (λ_=>0*1):=zm λk hk=>by rw [h k (by omega) (by omega)];rfl
    rw [this,Yn];simp
   omega
  ·rw [ih (by omega) λk hk hne=>h k (by omega) hne,h n (by omega) (by omega)];omega
theorem Ml {f:G7->P0}(h: ∀k,k<n->0<=f k):0<jN n f↔ ∃k,k<n/\0<f k:=by
 induction n with
 |zero=>simp [wV]
 |succ n ih=>
  rw [jy];have h1:=Zj λk (hk:k<n)=>h k (by omega)
  have h2:=h n (by omega);have ih':=ih λk hk=>h k (by omega)
  constructor
  ·intro z
   by_cases q:0<f n
   ·exact⟨n,by omega,q⟩
   ·obtain⟨k,a,b⟩:=ih'.mp (by omega);exact⟨k,by omega,b⟩
  ·rintro ⟨k,a,b⟩
   by_cases q:k=n
   ·subst q;omega
   ·have:=ih'.mpr ⟨k,by omega,b⟩;omega
def wW (n:G7)(T U:G0 (G0 P0)):G0 (G0 P0):=ĸ n λi j=>jN n λk=>Î T i k*Î U k j
theorem Sq.mul (h:Sq n e T)(g:Sq n f U)(hn:n<=8):Sq n (e+f+3) (wW n T U):=by
 have nn: ∀i j,i<n->j<n-> ∀k,k<n->0<=Î T i k*Î U k j:=λi j hi hj k hk=>nG (h.ent_nn hi hk).1 (g.ent_nn hk hj).1
 refine Sq.of_mk (λi j hi hj=>Zj (nn i j hi hj)) λi j hi hj=> ?_
 have hle: ∀k,k<n->Î T i k*Î U k j<=2^e*2^f-1:=λk hk=>by
  have a:=h.ent_nn hi hk;have b:=g.ent_nn hk hj;have:Î T i k*Î U k j<2^e*2^f:=by
   have p:(0:P0)<2^f:=qZ (by decide)
   calc Î T i k*Î U k j<=Î T i k*2^f:=Int.mul_le_mul_of_nonneg_left (u9 b.2) a.1
    _<2^e*2^f:=Int.mul_lt_mul_of_pos_right a.2 p
  omega
 have s:=Uq hle;have p:(0:P0)<2^e*2^f:=y6 (qZ (by decide)) (qZ (by decide));have e1:(2:P0)^(e+f+3)=8*(2^e*2^f):=by rw [y8,y8];rw [l9];rfl
 rw [e1];have hn':(n:P0)<=8:=by omega
 have:(n:P0)*(2^e*2^f-1)<=8*(2^e*2^f-1):=Int.mul_le_mul_of_nonneg_right hn' (by omega);omega
theorem yD {i j:G7}(hi:i<n)(hj:j<n):Î (wW n T U) i j=jN n λk=>Î T i k*Î U k j:=yN hi hj
def zU (n:G7):G0 (G0 P0):=ĸ n λi j=>if i=j then 1 else 0
theorem Sq.one (n:G7):Sq n 1 (zU n):=Sq.of_mk (f:=λi j=>if i=j then 1 else 0) (λi j _ _=>by split<;>decide) λi j _ _=>by split<;>decide
theorem mul_assoc {g:G7}{V:G0 (G0 P0)}(hT:Sq n e T)(hU:Sq n f U)(hV:Sq n g V)(hn:n<=8):wW n (wW n T U) V=wW n T (wW n U V):=by
 refine((hT.mul hU hn).mul hV hn).ext (hT.mul (hU.mul hV hn) hn) λi j hi hj=> ?_
 rw [yD hi hj,yD hi hj];have e1:(jN n λk=>Î (wW n T U) i k*Î V k j)=jN n λk=>jN n λl=>Î T i l*Î U l k*Î V k j:=
  zm λk hk=>by rw [yD hi hk,<-Du]
 have e2:(jN n λl=>Î T i l*Î (wW n U V) l j)=jN n λl=>jN n λk=>Î T i l*(Î U l k*Î V k j):=
  zm λl hl=>by rw [yD hl hj,<-Yn]
 rw [e1,e2,Dv];exact zm λl _=>zm λk _=>Int.mul_assoc _ _ _
theorem Ur (hT:Sq n e T)(hn:n<=8):wW n (zU n) T=T:=by
 refine((Sq.one n).mul hT hn).ext hT λi j hi hj=> ?_
 rw [yD hi hj,XA hi λk hk hne=>by rw [zU,yN hi hk,R3 (E4 hne)];simp];rw [zU,yN hi hi,R5 rfl];simp
theorem Us (hT:Sq n e T)(hn:n<=8):wW n T (zU n)=T:=by
 refine(hT.mul (Sq.one n) hn).ext hT λi j hi hj=> ?_
 rw [yD hi hj,XA hj λk hk hne=>by rw [zU,yN hk hj,R3 hne];simp];rw [zU,yN hj hj,R5 rfl];simp
def ww (n:G7)(T:G0 (G0 P0)):G7->G0 (G0 P0)
 |0=>zU n
 |k+1=>wW n (ww n T k) T
theorem Sq.pow (hT:Sq n e T)(hn:n<=8): ∀k,Sq n (k*(e+3)+1) (ww n T k)
 |0=>(Sq.one n).mono (by omega)
 |k+1=>((Sq.pow hT hn k).mul hT hn).mono (by rw [pK];omega)
def wj (n:G7)(T:G0 (G0 P0)):G0 (G0 P0):=ĸ n λi j=>Î T j i
def jn (n:G7)(T:G0 (G0 P0)):G0 (G0 P0):=ĸ n λi j=>if Î T i j=0 then 0 else 1
theorem Sq.turn (h:Sq n e T):Sq n e (wj n T):=Sq.of_mk (λi j hi hj=>(h.ent_nn hj hi).1) λi j hi hj=>(h.ent_nn hj hi).2
theorem Sq.mark (T:G0 (G0 P0)):Sq n 1 (jn n T):=Sq.of_mk (f:=λi j=>if Î T i j=0 then 0 else 1) (λi j _ _=>by split<;>decide) λi j _ _=>by split<;>decide
structure Ord (n:G7)(o:G0 G7):Prop where
 len:o.length=n
 all: ∀i,i<n->i∈o
def jm (T:G0 (G0 P0)):N2:=T.all λr=>r.all λx=>decide (x≠0)
theorem Gd (n:G7)(f:G7->G7->P0):jm (ĸ n f)=true↔ ∀i j,i<n->j<n->f i j≠0:=by
 unfold jm ĸ;simp only [Y8,T6,S0,K7,X7];exact⟨λh i j hi hj=>h i hi j hj,λh i hi j hj=>h i j hi hj⟩
theorem Mm (h:Sq n e T):jm (jn n T)=jm T:=by
 have h1:jm T=jm (ĸ n (Î T)):=by rw [<-h.eq_mk]
 rw [h1,J8,jn,Gd,Gd];constructor
 ·intro z i j hi hj w;exact z i j hi hj (by rw [R5 w])
 ·intro z i j hi hj w;rw [R3 (z i j hi hj)] at w;cases w
def MulOk (i j:P0):Prop:= ∃m n:G7,i.natAbs<2^m/\j.natAbs<2^n/\m+n<=134217728
theorem MulOk.ok {i j:P0}(h:MulOk i j):IntMulOk i j:=by
 obtain⟨m,n,a,b,c⟩:=h;exact .of_le (nH.mpr a) (nH.mpr b) c
theorem OK:ü X (J4 .Mult) (rI MulOk λi j=> .int (i*j)):=opI λ_ _ _ _ _ _ _ hc q=>mul_int q hc.ok
def xu:RD2:=λx y h Q=>match x,y with
 | .int i,.int j=>MulOk i j/\Q (.int (i*j)) h
 |_,_=>False
theorem OL:ô X (J4 .Mult) xu:=Uf (gd:=λi j=> .int (i*j)) OK (λ_ _ _=>rfl) λx y h Q q=>by
 cases x<;>cases y<;>first|exact False.elim q|exact⟨_,_,rfl,rfl,q.1,q.2⟩
theorem XB {x:P0}(h0:0<=x)(h1:x<2^e):x.natAbs<2^e:=by
 have:((2^e:G7):P0)=2^e:=by simp
 omega
theorem BV {x y:P0}(hx:0<=x/\x<2^e)(hy:0<=y/\y<2^f)(h:e+f<=134217728):MulOk x y:=⟨e,f,XB hx.1 hx.2,XB hy.1 hy.2,h⟩
section
variable {α β:Type}{i i':G7}{js:G0 G7}{ti Ĵ:TID}{te:TED}{σ:SD}{h:HD}{Q:KD}{j:ItD}
theorem lcA (xs:G0 α)(c g:α->D)(hz:xs.length<=1000)(hj:j h=some (xs.map c))(ht: ∀R:ItD->HD->Prop,R j h->ti σ h R)
 (he: ∀x∈xs,∀Q':KD,Q' (g x) h->te ((jL js σ).set i (some (c x))) h Q')(hq: ∀p,h p=none->Q (.lst p) (wg h p (xs.map g))):JD (bN i) js ti Jd te σ h Q:=by
 refine ht _ ⟨xs.length,λk ys h'=>h'=h/\ys=(xs.take k).map g,⟨rfl,by simp⟩,?_⟩;rintro k ys h' ⟨rfl,rfl⟩;refine⟨by simp only [G1,S8];exact M5 (zk (by omega)),xs.map c,hj,by simp,λhl p hp=> ?_,λd hd=>⟨_,rfl,?_⟩⟩
 ·rw [S3 (by simpa using hl)];exact hq p hp
 ·unfold Jd;dsimp only;rw [R5 rfl];rw [D1] at hd;cases hx:xs[k]? with
  |none=>rw [hx] at hd;cases hd
  |some x=>
   rw [hx] at hd;cases hd;refine he x (P9 hx) _ ⟨h',Sub.refl _,rfl,?_⟩;rw [B6,hx];simp
theorem lcF (xs:G0 α)(c g:α->D)(p:α->N2){tt:TTD}(hz:xs.length<=1000)(hj:j h=some (xs.map c))(ht: ∀R:ItD->HD->Prop,R j h->ti σ h R)
 (hp: ∀x∈xs,∀Q':N2->HD->Prop,Q' (p x) h->tt ((jL js σ).set i (some (c x))) h Q')(he: ∀x∈xs,p x=true-> ∀Q':KD,Q' (g x) h->te ((jL js σ).set i (some (c x))) h Q')(hq: ∀a,h a=none->Q (.lst a) (wg h a ((xs.filter p).map g))):JD (bN i) js ti tt te σ h Q:=by
 refine ht _ ⟨xs.length,λk ys h'=>h'=h/\ys=((xs.take k).filter p).map g,⟨rfl,by simp⟩,?_⟩;rintro k ys h' ⟨rfl,rfl⟩;refine⟨?_,xs.map c,hj,by simp,λhl a ha=> ?_,λd hd=>⟨_,rfl,?_⟩⟩
 ·have:=Q0 p (xs.take k);simp only [G1,S8] at this ⊢;exact M5 (zk (by omega))
 ·rw [S3 (by simpa using hl)];exact hq a ha
 ·rw [D1] at hd;cases hx:xs[k]? with
  |none=>rw [hx] at hd;cases hd
  |some x=>
   rw [hx] at hd;cases hd;refine hp x (P9 hx) _ ?_;cases hb:p x with
   |true=>
    rw [R5 rfl];refine he x (P9 hx) hb _ ⟨h',Sub.refl _,rfl,?_⟩;rw [B6,hx];simp [hb]
   |false=>
    rw [R3 D0];refine⟨h',Sub.refl _,rfl,?_⟩;rw [B6,hx];simp [hb]
theorem lcB (xs:G0 α)(c:α->D)(ys:α->G0 β)(c':β->D)(g:α->β->D)(hz:(xs.flatMap ys).length<=1000)(hj:j h=some (xs.map c))(ht: ∀R:ItD->HD->Prop,R j h->ti σ h R)
 (Γ: ∀x∈xs,∀R:ItD->HD->Prop,R (λ_=>some ((ys x).map c')) h->Ĵ ((jL js σ).set i (some (c x))) h R)
 (he: ∀x∈xs,∀y∈ys x,∀Q':KD,Q' (g x y) h->te (((jL js σ).set i (some (c x))).set i' (some (c' y))) h Q')(hq: ∀p,h p=none->Q (.lst p) (wg h p (xs.flatMap λx=>(ys x).map (g x)))):BP (bN i) js ti Jd i' Ĵ Jd te σ h Q:=by
 have len: ∀l:G0 α,(l.flatMap λx=>(ys x).map (g x)).length=(l.flatMap ys).length:=λl=>by
  induction l with
  |nil=>rfl
  |cons x l ih=>simp [bU,ih]
 have lek: ∀k,((xs.take k).flatMap ys).length<=(xs.flatMap ys).length:=λk=>by
  conv=>rhs;rw [<-T9 k xs,aW,P2]
  omega
 have X1r: ∀k x m,xs[k]? =some x->m<=(ys x).length->((xs.take k).flatMap ys).length+m<=(xs.flatMap ys).length:=λk x m hx hm=>by
  have:=lek (k+1);rw [B6,hx,aW,P2] at this;simp at this;simp;omega
 refine ht _ ⟨xs.length,λk zs h'=>h'=h/\zs=(xs.take k).flatMap λx=>(ys x).map (g x),⟨rfl,by simp⟩,?_⟩;rintro k zs h' ⟨rfl,rfl⟩;refine⟨by rw [len];exact M5 (zk (S5 (lek k) hz)),xs.map c,hj,by simp,λhl p hp=> ?_,λd hd=>⟨_,rfl,?_⟩⟩
 ·rw [S3 (by simpa using hl)];exact hq p hp
 ·unfold Jd;dsimp only;rw [R5 rfl];rw [D1] at hd;cases hx:xs[k]? with
  |none=>rw [hx] at hd;cases hd
  |some x=>
   rw [hx] at hd;cases hd;have xm:=P9 hx;refine Γ x xm _ ⟨(ys x).length,λm zs h2=>h2=h'/\zs=((xs.take k).flatMap λx=>(ys x).map (g x))++((ys x).take m).map (g x),⟨rfl,by simp⟩,?_⟩;rintro m zs h2 ⟨rfl,rfl⟩;refine⟨?_,(ys x).map c',rfl,by simp,λhl=>⟨h2,Sub.refl _,rfl,?_⟩,λd hd=> ?_⟩
   ·rw [P2,len,G1,S8];have:=X1r k x (min m (ys x).length) hx (aY _ _);exact M5 (zk (by omega))
   ·have hm:(ys x).take m=ys x:=S3 (by simpa using hl);rw [hm,B6,hx,aW];simp
   ·rw [D1] at hd;cases hy:(ys x)[m]? with
    |none=>rw [hy] at hd;cases hd
    |some y=>
     rw [hy] at hd;cases hd
     first
      |rw [R5 rfl]
      |(dsimp only;rw [R5 rfl])
     refine he x xm y (P9 hy) _ ⟨h2,Sub.refl _,rfl,?_⟩;rw [B6,hy];simp
theorem Mn (xs:G0 α)(c g:α->D)(hz:xs.length<=1000)(hj:j h=some (xs.map c))(ht: ∀R:ItD->HD->Prop,R j h->ti σ h R)
 (he: ∀x∈xs,∀Q':KD,Q' (g x) h->te ((jL js σ).set i (some (c x))) h Q')(hq:Q (.tup (xs.map g)) h):Ĩ Vy (wb (JD (bN i) js ti Jd te) Vd) σ h Q:=by
 show JD (bN i) js ti Jd te σ h (λx h1=>Vy [x] h1 Q);exact lcA xs c g hz hj ht he λp hp=>(show ∃ys,wg h p (xs.map g) p=some ys/\Q (.tup ys) (Ue (wg h p (xs.map g)) p) from ⟨_,jc,by rw [zG hp];exact hq⟩)
theorem xv (xs:G0 α)(c:α->D)(g:α->P0)(hz:xs.length<=1000)(hj:j h=some (xs.map c))(ht: ∀R:ItD->HD->Prop,R j h->ti σ h R)
 (he: ∀x∈xs,∀Q':KD,Q' (.int (g x)) h->te ((jL js σ).set i (some (c x))) h Q')(hq:Q (.int (xs.map g).sum) h):Ĩ Km (wb (JD (bN i) js ti Jd te) Vd) σ h Q:=by
 show JD (bN i) js ti Jd te σ h (λx h1=>Km [x] h1 Q);exact lcA xs c (λx=> .int (g x)) hz hj ht he λp hp=>⟨p,xs.map g,rfl,by rw [jc,R4];rfl,by rw [zG hp];exact hq⟩
theorem He (xs:G0 α)(c:α->D)(g:α->N2)(hz:xs.length<=1000)(hj:j h=some (xs.map c))(ht: ∀R:ItD->HD->Prop,R j h->ti σ h R)
 (he: ∀x∈xs,∀Q':KD,Q' (.bl (g x)) h->te ((jL js σ).set i (some (c x))) h Q')(hq:Q (.bl (xs.all g)) h):Ĩ RV (wb (JD (bN i) js ti Jd te) Vd) σ h Q:=by
 show JD (bN i) js ti Jd te σ h (λx h1=>RV [x] h1 Q);exact lcA xs c (λx=> .bl (g x)) hz hj ht he λp hp=>⟨p,xs.map g,rfl,by rw [jc,R4];rfl,by rw [zG hp,Y8];exact hq⟩
theorem uj (xs:G0 α)(c:α->D)(g:α->N2)(hz:xs.length<=1000)(hj:j h=some (xs.map c))(ht: ∀R:ItD->HD->Prop,R j h->ti σ h R)
 (he: ∀x∈xs,∀Q':KD,Q' (.bl (g x)) h->te ((jL js σ).set i (some (c x))) h Q')(hq:Q (.bl (xs.any g)) h):Ĩ Ki (wb (JD (bN i) js ti Jd te) Vd) σ h Q:=by
 show JD (bN i) js ti Jd te σ h (λx h1=>Ki [x] h1 Q);exact lcA xs c (λx=> .bl (g x)) hz hj ht he λp hp=>⟨p,xs.map g,rfl,by rw [jc,R4];rfl,by rw [zG hp,l8];exact hq⟩
theorem xw (xs:G0 α)(c:α->D)(ys:α->G0 β)(c':β->D)(g:α->β->N2)(hz:(xs.flatMap ys).length<=1000)(hj:j h=some (xs.map c))(ht: ∀R:ItD->HD->Prop,R j h->ti σ h R)
 (Γ: ∀x∈xs,∀R:ItD->HD->Prop,R (λ_=>some ((ys x).map c')) h->Ĵ ((jL js σ).set i (some (c x))) h R)
 (he: ∀x∈xs,∀y∈ys x,∀Q':KD,Q' (.bl (g x y)) h->te (((jL js σ).set i (some (c x))).set i' (some (c' y))) h Q')(hq:Q (.bl (xs.all λx=>(ys x).all (g x))) h):Ĩ RV (wb (BP (bN i) js ti Jd i' Ĵ Jd te) Vd) σ h Q:=by
 show BP (bN i) js ti Jd i' Ĵ Jd te σ h (λx h1=>RV [x] h1 Q);refine lcB xs c ys c' (λx y=> .bl (g x y)) hz hj ht Γ he λp hp=> ?_
 ·have e:(xs.flatMap λx=>(ys x).map λy=>D.bl (g x y))=(xs.flatMap λx=>(ys x).map (g x)).map D.bl:=by
   clear hz hj ht Γ he hq
   induction xs with
   |nil=>rfl
   |cons x l ih=>simp [bU,ih,R4]
  refine⟨p,xs.flatMap λx=>(ys x).map (g x),rfl,by rw [jc,e],?_⟩;rw [zG hp];have e2:(xs.flatMap λx=>(ys x).map (g x)).all id=xs.all λx=>(ys x).all (g x):=by
   clear hz hj ht Γ he hq e
   induction xs with
   |nil=>rfl
   |cons x l ih=>simp [bU,ih,Y8]
  rw [e2];exact hq
end
end L2
namespace L2
open PySem PySem.Spec PyProof.Rows PySem.SeqAt
def zt (o:G0 G7):D:= .tup (o.map λ(k:G7)=>D.int (k:P0))
def Ĥ (n:G7)(o:G0 G7):Prop:=o.Perm (P4 n)
variable {n:G7}{o:G0 G7}
theorem Ĥ.ord (h:Ĥ n o):Ord n o:=⟨by rw [h.length_eq,S6],λi hi=>h.mem_iff.mpr (S0.mpr hi)⟩
def Dw (o:G0 G7):G0 P0:=o.map λ(k:G7)=>(k:P0)
theorem OM (o:G0 G7):zt o= .tup ((Dw o).map D.int):=by unfold zt Dw;rw [R4];rfl
theorem Ĥ.insert (h:Ĥ n o)(k:G7):Ĥ (n+1) (o.take k++n::o.drop k):=by
 unfold Ĥ;rw [V5];refine lF.trans ?_;rw [T9];exact(G0P n h).trans (List.perm_append_singleton n _).symm
theorem Yo (h:HD): ∀ns:G0 P0,Ķ h (ns.map D.int) (ns.map iF)
 | []=>rfl
 |n::ns=>⟨_,_,rfl,rfl,Yo h ns⟩
theorem JJ: ∀ns:G0 P0,C8 (ns.map iF)=true
 | []=>rfl
 |n::ns=>by show (L9 (.int n)&&_)=true;rw [JJ ns];rfl
theorem ZM: ∀ns:G0 P0,F5 (ns.map iF)<=1
 | []=>by simp [F5]
 |n::ns=>by
  have:=ZM ns;simp only [M7,F5,J1];omega
def yq (r:G0 P0):U1:= .tuple (r.map .int)
def Jo (T:G0 (G0 P0)):U1:= .tuple (T.map yq)
theorem XC (h:HD): ∀T:G0 (G0 P0),Ķ h (T.map ym) (T.map yq)
 | []=>rfl
 |r::T=>⟨_,_,rfl,⟨_,rfl,Yo h r⟩,XC h T⟩
theorem vJ (h:HD)(T:G0 (G0 P0)):ģ h (jg T) (Jo T):=⟨_,rfl,XC h T⟩
theorem yZ: ∀T:G0 (G0 P0),C8 (T.map yq)=true
 | []=>rfl
 |r::T=>by
  show (L9 (yq r)&&_)=true;rw [yZ T];have:L9 (yq r)=true:=by unfold yq;simp only [L9];exact JJ r
  rw [this];rfl
theorem yO: ∀T:G0 (G0 P0),F5 (T.map yq)<=3
 | []=>by simp [F5]
 |r::T=>by
  have:=yO T;have h2:=ZM r;simp only [M7,F5,J1,yq];omega
theorem Je (T:G0 (G0 P0)):fK (Jo T)=true:=by
 unfold fK;have h1:L9 (Jo T)=true:=by unfold Jo;simp only [L9];exact yZ T
 have h2:=yO T;have h3:J1 (Jo T)<=64:=by unfold Jo;simp only [J1];omega
 rw [h1,D2 h3];rfl
variable {e:G7}{T:G0 (G0 P0)}
theorem ON (h:Sq n e T){i:G7}(hi:i<n):Ē (T.map ym) (i:P0)=some (ym (T.getD i [])):=by
 have hi':i<T.length:=by rw [h.len];exact hi
 exact wY (by rw [D1,S1,G2 hi'];rfl)
theorem Sq.getRow (h:Sq n e T){i:G7}(hi:i<n):T.getD i []∈T:=by
 have hi':i<T.length:=by rw [h.len];exact hi
 rw [S1,G2 hi'];exact N6 hi'
theorem Ut {r:G0 P0}(h:r.length=n){j:G7}(hj:j<n):Ē (r.map D.int) (j:P0)=some (.int (r.getD j 0)):=by
 have hj':j<r.length:=by rw [h];exact hj
 exact wY (by rw [D1,S1,G2 hj'];rfl)
theorem Mo (n:G7)(f:G7->G7->P0):D.tup ((P4 n).map λi=>D.tup ((P4 n).map λj=>D.int (f i j)))=jg (ĸ n f):=by
 unfold jg ym ĸ;rw [R4]
 congr 1
 apply M6;intro i _;simp [R4,bV]
theorem OO (T:G0 (G0 P0))(f:P0->P0):D.tup (T.map λr=>D.tup (r.map λx=>D.int (f x)))=jg (T.map λr=>r.map f):=by
 unfold jg ym;rw [R4]
 congr 1
 apply M6;intro r _;simp [R4,bV]
theorem OP (h:Sq n e T):jn n T=T.map λr=>r.map λx=>if x≠0 then 1 else 0:=by
 conv=>rhs;rw [h.eq_mk]
 unfold jn ĸ;rw [R4];apply M6;intro i _;simp only [K7,R4];apply M6;intro j _;simp only [K7]
 by_cases z:Î T i j=0
 ·rw [R5 z,R3 (by simpa using z)]
 ·rw [R3 z,R5 z]
theorem BW (h:Sq n e T)(h6:n<=6):(T.flatMap λr=>r).length<=1000:=by
 have: ∀U:G0 (G0 P0),(∀r∈U,r.length=n)->(U.flatMap λr=>r).length=U.length*n:=λU=>by
  induction U with
  |nil=>intro _;simp
  |cons r U ih=>
   intro hU;rw [bU,P2,ih λr hr=>hU r (D7 _ hr),hU r P6,S7,pK];omega
 rw [this T h.row,h.len];have:=sQ h6 h6;omega
variable {U:G0 (G0 P0)}
theorem BX (h:Sq n e T):(T.map λr=>D.tup ((P4 n).map λj=>D.int (jN n λm=>r.getD m 0*Î U m j)))=(wW n T U).map ym:=by
 conv=>lhs;rw [zT T [],h.len]
 unfold wW ĸ;rw [R4,R4];apply M6;intro i _;simp only [K7,ym,R4];rfl
theorem pow_add (h:Sq n e T)(hn:n<=8)(a:G7): ∀b,ww n T (a+b)=wW n (ww n T a) (ww n T b)
 |0=>by rw [show ww n T 0=zU n from rfl,Us (h.pow hn a) hn];rfl
 |b+1=>by
  show wW n (ww n T (a+b)) T=wW n (ww n T a) (wW n (ww n T b) T);rw [pow_add h hn a b,mul_assoc (h.pow hn a) (h.pow hn b) h hn]
theorem OQ (h:Sq n e T)(hn:n<=8):ww n T 1=T:=Ur h hn
theorem XD (h:Sq n e T)(hn:n<=8)(b:G7):ww n T (b+1)=wW n T (ww n T b):=by
 rw [lR,pow_add h hn,OQ h hn]
variable {i j:G7}
theorem WP (hi:i<n)(hj:j<n):Î (wj n T) i j=Î T j i:=yN hi hj
theorem BY {f:G7}(h:Sq n e T)(g:Sq n f U)(hn:n<=8):wj n (wW n T U)=wW n (wj n U) (wj n T):=
 (h.mul g hn).turn.ext (g.turn.mul h.turn hn) λi j hi hj=>by
  rw [WP hi hj,yD hj hi,yD hi hj];exact zm λk hk=>by rw [WP hi hk,WP hk hj,l9]
theorem BZ (n:G7):wj n (zU n)=zU n:=
 (Sq.one n).turn.ext (Sq.one n) λi j hi hj=>by
  rw [WP hi hj,zU,yN hj hi,yN hi hj]
  by_cases e:i=j
  ·rw [R5 e,R5 e.symm]
  ·rw [R3 e,R3 (λz=>e z.symm)]
theorem Uu (hi:i<n)(hj:j<n):Î (jn n T) i j=if Î T i j=0 then 0 else 1:=yN hi hj
theorem Pg (h: ∀i j,i<n->j<n->(Î T i j=0↔Î U i j=0)):jn n T=jn n U:=WO λi j hi hj=>by
 by_cases z:Î T i j=0
 ·rw [R5 z,R5 ((h i j hi hj).mp z)]
 ·rw [R3 z,R3 (λw=>z ((h i j hi hj).mpr w))]
theorem ya (hi:i<n)(hj:j<n):Î (jn n T) i j=0↔Î T i j=0:=by
 rw [Uu hi hj]
 by_cases z:Î T i j=0
 ·rw [R5 z];simp [z]
 ·rw [R3 z];simp [z]
theorem yP (T:G0 (G0 P0)):jn n (jn n T)=jn n T:=Pg λi j hi hj=>ya hi hj
theorem zn {f:G7}(h:Sq n e T)(g:Sq n f U)(hi:i<n)(hj:j<n):Î (wW n T U) i j≠0↔ ∃k,k<n/\Î T i k≠0/\Î U k j≠0:=by
 rw [yD hi hj];have nn: ∀k,k<n->0<=Î T i k*Î U k j:=λk hk=>nG (h.ent_nn hi hk).1 (g.ent_nn hk hj).1
 have s:=Zj nn;have p:=Ml nn;constructor
 ·intro z;obtain⟨k,hk,w⟩:=p.mp (by omega);refine⟨k,hk,λq=> ?_,λq=> ?_⟩
  ·rw [q] at w;simp at w
  ·rw [q] at w;simp at w
 ·rintro ⟨k,hk,a,b⟩ z;have c:=(h.ent_nn hi hk).1;have d:=(g.ent_nn hk hj).1;have:0<Î T i k*Î U k j:=y6 (by omega) (by omega);have:=p.mpr ⟨k,hk,this⟩;omega
theorem Jf {f:G7}(h:Sq n e T)(g:Sq n f U):jn n (wW n T U)=jn n (wW n (jn n T) (jn n U)):=
 Pg λi j hi hj=>by
  have a:=zn h g hi hj;have b:=zn (Sq.mark (n:=n) T) (Sq.mark (n:=n) U) hi hj;have c:(∃k,k<n/\Î T i k≠0/\Î U k j≠0)↔ ∃k,k<n/\Î (jn n T) i k≠0/\Î (jn n U) k j≠0:=
   ⟨λ⟨k,hk,x,y⟩=>⟨k,hk,λz=>x ((ya hi hk).mp z),λz=>y ((ya hk hj).mp z)⟩,λ⟨k,hk,x,y⟩=>⟨k,hk,λz=>x ((ya hi hk).mpr z),λz=>y ((ya hk hj).mpr z)⟩⟩
  exact⟨λz=>aH λw=>(a.mpr (c.mpr (b.mp w))) z,λz=>aH λw=>(b.mpr (c.mp (a.mp w))) z⟩
theorem wN (h:Sq n e T):jm T=true↔ ∀i j,i<n->j<n->Î T i j≠0:=by
 have h1:jm T=jm (ĸ n (Î T)):=by rw [<-h.eq_mk]
 rw [h1,Gd]
variable {a:G7}
theorem Mp (h:Sq n e T)(hn:n<=8)(ha:0<a)(f:jm (ww n T a)=true):jm (ww n T (a+1))=true:=by
 rw [wN (h.pow hn _)] at f ⊢;intro i j hi hj;obtain⟨b,rfl⟩: ∃b,a=b+1:=⟨a-1,by omega⟩;have z:=f i j hi hj;rw [XD h hn b,zn h (h.pow hn b) hi hj] at z;obtain⟨k,hk,x,_⟩:=z;rw [XD h hn (b+1),zn h (h.pow hn (b+1)) hi hj];exact⟨k,hk,x,f k j hk hj⟩
theorem Ge (h:Sq n e T)(hn:n<=8)(ha:0<a)(f:jm (ww n T a)=true): ∀b,jm (ww n T (a+b))=true
 |0=>f
 |b+1=>Mp (a:=a+b) h hn (by omega) (Ge h hn ha f b)
section
variable {prog:T7}{w:C1}{A:B2}{E:G3->G6->Prop}{s:G6}
variable {items:M8 G3}
theorem Mq {it t:P1}{i n:G7}{d1 d2:P7 P1}{s1 s2:M8 (P7 G3)}{P:dI->G6->Prop}(a1:s.heap.get? it=some {cls:= .type "tuple_iterator",dict:=d1,data:= .fields #[.ref t,.int i 0],slots:=s1})(a2:s.heap.get? t=some {cls:= .type "tuple",dict:=d2,data:= .seq items n,slots:=s2})
 (more: ∀x h',items[i]? =some x->h'.IsTupleIter it t (i+1)->Q2 it s.heap h'->P (.done (.ret x)) {s with heap:=h'})
 (none_:items[i]? =none->D9 (S2 prog w) A (do nI (.ref it) 0 .none;aN) P E s):D9 (S2 prog w) A (Builtin.«tuple_iterator.__next__» ⟨[.ref it],[]⟩) P E s:=by
 obtain⟨hp,g,d,tk,os⟩:=s
 wp_walk
 rw [X9];cases hx:items[i]? with
 |none=>exact wpAny_bind (bF (none_ hx))
 |some x=>
  refine wpAny_bind (dX a1 rfl (by simp) (G8 (more x _ hx ⟨_,aG _ a1 ?_,rfl,?_⟩ (Y4 ..))))
  ·rfl
  ·simp [f6,i9]
theorem va {Q:dI->G6->Prop}(hh:A.handled=none)(hE: ∀h' e,(∀b o,s.heap.get? b=some o->h'.get? b=some o)->(∃o,h'.get? e=some o/\o.cls= .type "StopIteration")->E (.ref e) {s with heap:=h'}):D9 (S2 prog w) A aN Q E s:=by
 obtain⟨hp,g,d,tk,os⟩:=s;unfold aN
 wp_walk
 unfold y9;refine wpAny_bind (wpAny_handled ?_);rw [hh];exact wpAny_bind (G8 (wpAny_throw (hE _ _ (λb o q=>P3 _ (P3 _ q)) ⟨_,S4 _ rfl,rfl⟩)))
theorem VC {it t:P1}{i:G7}{x:G3}{Q:G3->G6->Prop}(hit:s.heap.IsTupleIter it t i)(ht:s.heap.IsTuple t items)(hx:items[i]? =some x)
 (hQ: ∀h',h'.IsTupleIter it t (i+1)->Q2 it s.heap h'->Q x {s with heap:=h'}):D9 (S2 prog w) A (K4 (.ref it)) Q E s:=by
 obtain⟨⟨c,d1,dt,s1⟩,ho,rfl,rfl⟩:=id hit;obtain⟨⟨c2,d2,dt2,s2⟩,hol,rfl,nl,rfl⟩:=ht;exact wpAny_bind (N9 hit.typeIs aB (N5 aB hit.typeIs gP (Mq ho hol (λy h' e b1 b2=>⟨y,rfl,G8 (by rw [hx] at e;cases e;exact hQ h' b1 b2)⟩) λe=>by rw [hx] at e;cases e) (gF _)))
theorem Jt {it t:P1}{i:G7}{Q:G3->G6->Prop}(hh:A.handled=none)(hit:s.heap.IsTupleIter it t i)(ht:s.heap.IsTuple t items)(hx:items[i]? =none)
 (hE: ∀h' e,q0 it s.heap h'->(∃o,h'.get? e=some o/\o.cls= .type "StopIteration")->E (.ref e) {s with heap:=h'}):D9 (S2 prog w) A (K4 (.ref it)) Q E s:=by
 obtain⟨⟨c,d1,dt,s1⟩,ho,rfl,rfl⟩:=id hit;obtain⟨⟨c2,d2,dt2,s2⟩,hol,rfl,nl,rfl⟩:=ht;refine wpAny_bind (N9 hit.typeIs aB (N5 aB hit.typeIs gP (Mq ho hol (λy h' e b1 b2=>by rw [hx] at e;cases e) λ_=>wpAny_bind (dX ho rfl (by simp) ?_)) (gF _)));exact va (s:= {s with heap:=_}) hh λh' e grown stop=>hE h' e (λb o ne q=>grown b o ((Y4 ..).extBut b o ne q)) stop
end
section
variable {X:Cx}{À:G0 (P1×Obj)}{σ:G0 (P7 V)}{H:Hp}{s:G6}{h':L8}
theorem Inv.turnL {t':G7}{ch:G0 P1}(I:Inv X À σ H s)(k: ∀b o,b ∉ ch->s.heap.get? b=some o->h'.get? b=some o)(hc: ∀b∈ch,Rb X À H b):Inv X À σ H {s with heap:=h',toks:=t'}:=by
 refine I.step (g':=s.gens) (d':=s.drawn) (ch:=ch) (λb hb=>let ⟨_,f1,_,f3,f4,f5⟩:=hc b hb;⟨f3,f1,f4,f5⟩) (λb o _ _ nb e _=>k b o nb e) (λb o _ _ nb e _=>⟨o.slots,k b o nb e⟩) (λ_ _ _ _ n=>n)
  (λb o nb e=>⟨o,k b o nb e⟩) (λ_ _ e=>e) (λ_ _ _ e=>e) (λb ps e=>⟨#[],by rw [e];simp⟩) (λm hm=> ?_) (λb u e=> ?_) I.bare
 ·obtain⟨o,es,ep,ho,r⟩:=hm;exact⟨o,es,ep,k _ o (λz=>(hc _ z).2.1 rfl) ho,r⟩
 ·refine(I.hok b u e).stay (λc v hb q=>k c v (λz=> ?_) q) (λ_ q=>q) λ_ _ q=>q
  have f:=(hc c z).1;rcases hb with w|w
  ·rw [w,e] at f;cases f
  ·rw [w] at f;cases f
theorem Inv.turnLaid {t':G7}{ch:G0 P1}{a:P1}{o:HO}(I:Inv X À σ H s)(k: ∀b u,b ∉ ch->s.heap.get? b=some u->h'.get? b=some u)(hc: ∀b∈ch,Rb X À H b)(hp:s.heap.objs.size<=a)
 (new:Ö X.prog X.w (upd H a o) h' a o):Inv X À σ (upd H a o) {s with heap:=h',toks:=t'}:=by
 have hn:=I.hok.fresh hp;refine I.step (g':=s.gens) (d':=s.drawn) (ch:=ch) (λb hb=>let ⟨_,f1,_,f3,f4,f5⟩:=hc b hb;⟨f3,f1,f4,f5⟩) (λb u _ _ nb e _=>k b u nb e) (λb u _ _ nb e _=>⟨u.slots,k b u nb e⟩)
  (λb u _ e n=>by rw [jt (N3 (N7 (R7 e) hp))];exact n) (λb u nb e=>⟨u,k b u nb e⟩) (λb xs q=>by rw [jt (jp q hn)];exact q) (λb u xs q=>by rw [jt (jp q hn)];exact q)
  (λb ps q=>⟨#[],by rw [jt (jp q hn),q];simp⟩) (λm hm=> ?_) (λb u e=> ?_) I.bare
 ·obtain⟨u,es,ep,ho,r⟩:=hm;exact⟨u,es,ep,k _ u (λz=>(hc _ z).2.1 rfl) ho,r⟩
 ·by_cases hb:b=a
  ·subst hb;rw [jw] at e;cases e;exact new
  ·rw [jt hb] at e;refine(I.hok b u e).stay (λc v hb q=>k c v (λz=> ?_) q) (λc q=>by rw [jt (jp q hn)];exact q) λc xs q=>by rw [jt (jp q hn)];exact q
   have f:=(hc c z).1;rcases hb with w|w
   ·rw [w,e] at f;cases f
   ·rw [w] at f;cases f
end
def Yp (ds:G0 D):G0 D:=ds.zipIdx.map λp=> .tup [.int (p.2:P0),p.1]
theorem WQ {ds:G0 D}{d:D}(h:(Yp ds)[i]? =some d): ∃x,ds[i]? =some x/\d= .tup [.int (i:P0),x]:=by
 unfold Yp at h;rw [D1,List.getElem?_zipIdx] at h;cases q:ds[i]? with
 |none=>rw [q] at h;cases h
 |some x=>
  rw [q] at h;refine⟨x,rfl,?_⟩;have h':some (D.tup [.int ((0+i:G7):P0),x])=some d:=h;rw [Y9] at h';exact(B9 h').symm
theorem yb (ds:G0 D):(Yp ds).length=ds.length:=by simp [Yp]
def Mr (c:TTD)(tb:TSD):TSD:=λD σ h=> ∃W:G7->SD->HD->Prop,(∃m,W m σ h)/\ ∀m Â h',W m Â h'->c Â h' λb h1=>
 if b=true then tb {D with nx:=λÝ h2=> ∃m' h3,m'<m/\Sub h3 h2/\W m' Ý h3,ct:=λÝ h2=> ∃m' h3,m'<m/\Sub h3 h2/\W m' Ý h3,bk:=D.nx} Â h1 else D.nx Â h1
variable {K:G5}
theorem Ca {c:TTD}{tb:TSD}: ∀D σ H,LS K (Mr c tb) D σ H->FD (LT K c) (LS K tb) D σ H:=λD σ H ⟨Æ,h,Dd,rs,rh,⟨W,⟨m0,w0⟩,turn⟩,nx,rt,bk,ct⟩=>by
 refine⟨λm Â H'=>Kept H H'/\ ∃Û h',Ò K H' Û Â/\É K h' H'/\W m Û h',⟨m0,.refl _,Æ,h,rs,rh,w0⟩,?_⟩;rintro m Â H' ⟨kp,Û,h',rs',Ĕ,w⟩;refine LT.bind rs' Ĕ (turn m Û h' w) λb h1 H1 k1 Ø Í q1=> ?_
 cases b with
 |false=>
  rw [R3 D0] at q1 ⊢;exact nx _ _ _ _ (kp.trans k1) Ø Í q1
 |true=>
  rw [R5 rfl] at q1 ⊢;have kk:Kept H H1:=kp.trans k1;refine⟨λÝ H2=>Kept H H2/\ ∃m',m'<m/\ ∃ê h2,Ò K H2 ê Ý/\É K h2 H2/\W m' ê h2,λÝ H2 ⟨k2,m',hm,a,b,c,d,e⟩=>⟨m',hm,k2,a,b,c,d,e⟩,?_⟩;exact⟨Û,h1,_,Ø,Í,q1,λa b c d k4 Š ń ⟨m',h4,hm,sb,w4⟩=>⟨kk.trans k4,m',hm,a,h4,Š,ń.sub sb,w4⟩,jK rt kk,λa b c d k4 Š ń q4=>nx a b c d (kk.trans k4) Š ń q4,λa b c d k4 Š ń ⟨m',h4,hm,sb,w4⟩=>⟨kk.trans k4,m',hm,a,h4,Š,ń.sub sb,w4⟩⟩
section
variable {X:Cx}{pos:Pos}
theorem XE {c:T8}{body:G0 A3}{tc:TTD}{tb:TSD}(hp:oA (S2 X.prog X.w) X.A X.env X.xe)(hc:JT X c tc)(hb:Ţ X body tb):JS X (.While c body [] pos) (Mr tc tb):=⟨(Bw hp hc.to hb.to).imp Ca⟩
end
variable {h:HD}
theorem Zk {c:TTD}{tb:TSD}{E:EndsD}{σ:SD}(W:G7->SD->HD->Prop)(m:G7)(w0:W m σ h)
 (turn: ∀m Â h',W m Â h'->c Â h' λb h1=>if b=true then tb {E with nx:=λÝ h2=> ∃m' h3,m'<m/\Sub h3 h2/\W m' Ý h3,ct:=λÝ h2=> ∃m' h3,m'<m/\Sub h3 h2/\W m' Ý h3,bk:=E.nx} Â h1 else E.nx Â h1):Mr c tb E σ h:=⟨W,⟨m,w0⟩,turn⟩
def Off (W:G0 P1)(h h':L8):Prop:=h'.objs.size=h.objs.size/\ ∀b o,b ∉ W->h.get? b=some o->h'.get? b=some o
theorem Off.refl (W:G0 P1)(h:L8):Off W h h:=⟨rfl,λ_ _ _ e=>e⟩
theorem Off.of {c:P1}{W:G0 P1}{h h':L8}(x:Q2 c h h')(m:c∈W):Off W h h':=⟨x.1,λb o n e=>x.extBut b o (λq=>n (q ▸ m)) e⟩
theorem Off.trans {W:G0 P1}{h h' h'':L8}(x:Off W h h')(y:Off W h' h''):Off W h h'':=⟨y.1.trans x.1,λb o n e=>y.2 b o n (x.2 b o n e)⟩
abbrev Ms (f0:G3)(b1:N2)(TI TO:P1):Obj:= {cls:= .type "zip",dict:=none,data:= .fields #[f0,.bool b1,.bool false,.ref TI,.ref TO],slots:= #[]}
def æ (h:L8)(z TI TO:P1):Prop:= ∃f0 b1,h.get? z=some (Ms f0 b1 TI TO)/\(f0= .none\/ ∃a t,f0= .int a t)
theorem æ.off {h h':L8}{z TI TO:P1}{W:G0 P1}(Z:æ h z TI TO)(o:Off W h h')(n:z ∉ W):æ h' z TI TO:=let ⟨f,b,e,q⟩:=Z;⟨f,b,o.2 _ _ n e,q⟩
section
variable {prog:T7}{w:C1}{A:B2}{E:G3->G6->Prop}{s:G6}{z TI TO i1 i2:P1}
theorem Cb {Q:N2->G6->Prop}(Z:æ s.heap z TI TO)(k: ∀b h',æ h' z TI TO->Off [z] s.heap h'->Q b {s with heap:=h'}):D9 (S2 prog w) A (oQ (.ref z)) Q E s:=by
 obtain⟨f0,b1,hz,hf⟩:=id Z;have stay:=λb=>k b s.heap Z (Off.refl _ _)
 rcases hf with rfl|⟨a,t,rfl⟩
 ·wp_walk
  exact stay true
 ·have read: ∀ {P:P7 Obj->G6->Prop} {E':G3->G6->Prop},P (s.heap.get? a.toNat) s->D9 (S2 prog w) A (loadIfAlive a.toNat) P E' s:=λp _ _ _=>p
  wp_walk using read
  cases s.heap.get? a.toNat with
  |none=>exact G8 (stay true)
  |some o=>
   wp_walk
   cases b1 with
   |true=>exact G8 (stay false)
   |false=>exact wpAny_bind <| wpAny_setField_rec hz (by simp) λh' z' same=>G8 (k false h' ⟨_,_,z',.inr ⟨a,t,rfl⟩⟩ (.of same (by simp)))
structure Œ (z TI TO i1 i2:P1):Prop where
 z1:z≠i1
 z2:z≠i2
 zO:z≠TO
 zI:z≠TI
 O1:TO≠i1
 O2:TO≠i2
 OI:TO≠TI
 I1:TI≠i1
 I2:TI≠i2
abbrev SO (z:P1)(h:L8)(E:G3->G6->Prop):G3->G6->Prop:=λe s'=>(∀o,h.get? z=some o->s'.heap.get? z=some o)/\ ∀h',q0 z s'.heap h'->E e {s' with heap:=h'}
theorem Mt {Q:G3->G6->Prop}(ap:Œ z TI TO i1 i2)(Z:æ s.heap z TI TO)(hTI:aC s.heap TI (.ref i1) (.ref i2))(hTO: ∃a b,aC s.heap TO a b)
 (go: ∀h₁,Off [z] s.heap h₁->(∃o,h₁.get? z=some o/\o.cls= .type "zip")->D9 (S2 prog w) A (K4 (.ref i1)) (λx s₁=>Off [i1] h₁ s₁.heap/\ ∀õ,Off [TO] s₁.heap õ->
  D9 (S2 prog w) A (K4 (.ref i2)) (λy s₂=>Off [i2] õ s₂.heap/\ ∀ĝ,(∀b o,b ∉ [z,TO]->s₂.heap.get? b=some o->ĝ.get? b=some o)->aC ĝ s₂.heap.objs.size x y->
   æ ĝ z TI TO->aC ĝ TI (.ref i1) (.ref i2)->(∃a b,aC ĝ TO a b)->Q (.ref s₂.heap.objs.size) {s₂ with heap:=ĝ}) (SO z õ E) {s₁ with heap:=õ}) (SO z h₁ E) {s with heap:=h₁}):
 D9 (S2 prog w) A (Builtin.«zip.__next__» ⟨[.ref z],[]⟩) (λfin s'=> ∃v,fin= .done (.ret v)/\Q v s') E s:=by
 obtain⟨f0,b1,hz,hf⟩:=id Z;have ask:=λ{P:N2->G6->Prop} {E':G3->G6->Prop} (k: ∀b h',æ h' z TI TO->Off [z] s.heap h'->P b {s with heap:=h'})=>Cb (prog:=prog) (w:=w) (A:=A) (E:=E') Z k
 wp_walk using ask
 intro b h₀ X0P œ;have X04:=œ.2 _ _ (by simp [ap.zI.symm]) hTI;obtain⟨a',b',X05⟩: ∃a b,aC h₀ TO a b:=let ⟨a,b,e⟩:=hTO;⟨a,b,œ.2 _ _ (by simp [ap.zO.symm]) e⟩;cases b with
 |false=>
  have d1:=go h₀ œ (let ⟨_,_,e,_⟩:=X0P;⟨_,e,rfl⟩);rw [R3 (by decide)];refine wpAny_bind ?_;rw [<-J6];simp only [aK,sR];refine wpAny_bind (wpAny_bind (O0 ?_));refine wpAny_bind (m:=K4 (.ref i1)) (M1 d1 (λx s₁ d=>G8 (G8 ?_)) λe s' f=>f.2 s'.heap λ_ _ _ e=>e);obtain⟨o1,d2⟩:=d;refine wpAny_bind (wpAny_bind (O0 ?_));refine wpAny_bind (m:=K4 (.ref i2)) (M1 (d2 s₁.heap (.refl _ _)) (λy s₂ d=>G8 (G8 (G8 ?_))) λe s' f=>f.2 s'.heap λ_ _ _ e=>e);obtain⟨o2,fin⟩:=d;show D9 _ _ (newTuple [x,y] >>= _) _ _ _;have n1: ∀ {b},b≠i1->b ∉ [i1]:=λh=>by simpa using h
  have n2: ∀ {b},b≠i2->b ∉ [i2]:=λh=>by simpa using h
  have X1s:=(X0P.off o1 (n1 ap.z1)).off o2 (n2 ap.z2);have keep: ∀ {b o},b≠i1->b≠i2->h₀.get? b=some o->(s₂.heap.push {cls:= .type "tuple",data:= .seq #[x,y]}).get? b=some o:=λq1 q2 e=>P3 _ (o2.2 _ _ (n2 q2) (o1.2 _ _ (n1 q1) e))
  refine wpAny_bind (nJ (G8 ⟨_,rfl,fin _ (λb o _ e=>P3 _ e) (S4 _ rfl) ?_ (keep ap.I1 ap.I2 X04) ⟨_,_,keep ap.O1 ap.O2 X05⟩⟩));exact let ⟨f,b,e,q⟩:=X1s;⟨f,b,P3 _ e,q⟩
 |true=>
  obtain⟨f0',b1',X0Q,_⟩:=X0P;have note:=λ{P:Unit->G6->Prop} {E':G3->G6->Prop} (k: ∀h',h'.get? z=some (Ms .ellipsis b1' TI TO)->Q2 z h₀ h'->P () {s with heap:=h'})=>
   wpAny_setField_rec (prog:=prog) (w:=w) (A:=A) (E:=E') (s:= {s with heap:=h₀}) (k:=0) (x:= .ellipsis) X0Q (by simp) k
  wp_walk using note
  intro h₁ X0R ì;have Ć:Off [z] s.heap h₁:=œ.trans (.of ì (by simp));have X1t:=ì.extBut _ _ ap.zO.symm X05;have X1u:=ì.extBut _ _ ap.zI.symm X04;have X06: ∀ {h:L8} {e:G3} {s':G6},h.get? z=some (Ms .ellipsis b1' TI TO)->SO z h E e s'->D9 (S2 prog w) A (nI (.ref z) 0 .none) (λ_ s''=>E e s'') E s':=λĬ f=>
   wpAny_setField_rec (f.1 _ Ĭ) (by simp) λh' _ same=>f.2 h' same.extBut
  have draw:=λ{P:G3->G6->Prop} {E':G3->G6->Prop} (k: ∀x s₁,_->P x s₁) (f: ∀e s',SO z h₁ E e s'->E' e s')=>M1 (go h₁ Ć ⟨_,X0R,rfl⟩) k f
  wp_walk using tM,draw
  case f=>exact λe s' f=>X06 X0R f
  intro x s₁ ⟨o1,go2⟩;have X1v:=o1.2 _ _ (by simp [ap.z1]) X0R;have X1w:aC s₁.heap TO a' b':=o1.2 _ _ (by simp [ap.O1]) X1t;have X1x:=o1.2 _ _ (by simp [ap.I1]) X1u;have lay:=λ{P:Unit->G6->Prop} {E':G3->G6->Prop}=>nK (prog:=prog) (w:=w) (A:=A) (E:=E') (s:=s₁) (k:=0) (x:=x) (Q:=P) X1w
  wp_walk using lay
  intro õ X0S ö
  replace X0S:aC õ TO x b':=X0S
  have X07:=ö.extBut _ _ ap.zO X1v;have X1y:=ö.extBut _ _ ap.OI.symm X1x;have X0T:=λ{P:G3->G6->Prop} {E':G3->G6->Prop} (k: ∀y s₂,_->P y s₂) (f: ∀e s',SO z õ E e s'->E' e s')=>M1 (go2 õ (.of ö (by simp))) k f
  wp_walk using tM,X0T
  case f=>exact λe s' f=>X06 X07 f
  intro y s₂ ⟨o2,fin⟩;have X1z:=o2.2 _ _ (by simp [ap.z2]) X07;have X1A:aC s₂.heap TO x b':=o2.2 _ _ (by simp [ap.O2]) X0S;have X1B:=o2.2 _ _ (by simp [ap.I2]) X1y;have X1C:=λ{P:Unit->G6->Prop} {E':G3->G6->Prop}=>nK (prog:=prog) (w:=w) (A:=A) (E:=E') (s:=s₂) (k:=1) (x:=y) (Q:=P) X1A
  wp_walk using X1C
  intro Ű X0U ĭ
  replace X0U:aC Ű TO x y:=X0U
  have X08:=ĭ.extBut _ _ ap.zO X1z;have X1D:=ĭ.extBut _ _ ap.OI.symm X1B
  wp_walk
  have size:Ű.objs.size=s₂.heap.objs.size:=ĭ.1;have zp:=P3 {cls:= .type "tuple",data:= .seq #[x,y]} X08;have zu:=aG (f6 λv=>v.setIfInBounds 0 (i9 Ű.objs.size)) zp rfl;have zu':=aG (f6 λv=>v.setIfInBounds 1 (bE false)) zu rfl;have away: ∀ {b o},b≠z->(Ű.push {cls:= .type "tuple",data:= .seq #[x,y]}).get? b=some o->
   (((Ű.push {cls:= .type "tuple",data:= .seq #[x,y]}).update z (f6 λv=>v.setIfInBounds 0 (i9 Ű.objs.size))).update z (f6 λv=>v.setIfInBounds 1 (bE false))).get? b=some o:=λn e=>
   (Y4 ..).extBut _ _ n ((Y4 ..).extBut _ _ n e)
  have new:=away (b:=Ű.objs.size) (λq=>A4 _ (q ▸ R7 X08)) (S4 _ rfl);refine⟨_,rfl,?_⟩;have done:=fin _ (λb o n e=>away (λq=>n (by simp [q])) (P3 _ (ĭ.extBut _ _ (λq=>n (by simp [q])) e))) (size ▸ new) ⟨_,_,zu',.inr ⟨_,_,rfl⟩⟩ (away ap.zI.symm (P3 _ X1D)) ⟨_,_,away ap.zO.symm (P3 _ X0U)⟩;rw [<-size] at done;exact done
theorem OR {tg : T8} {v : G3} {Q : Unit → G6 → Prop} (Z : æ s.heap z TI TO) (k : ∀ h', æ h' z TI TO → Off [z] s.heap h' → Q () { s with heap := h' }) : D9 (S2 prog w) A (aJ tg (.ref z) v) Q E s := by
  obtain ⟨f0, b1, hz, hf⟩ := id Z
  have stay := k s.heap Z (.refl _ _)
  have gone : D9 (S2 prog w) A (updateField z 0 .none) Q E s := wpAny_setField_rec (k := 0) (x := .none) hz (by simp) fun h' z' same => k h' ⟨_, _, z', .inl rfl⟩ (.of same (by simp))
  unfold aJ
  cases tg <;> first
    | exact G8 stay
    | (cases v <;> wp_walk <;> first
        | exact stay
        | (split
           · exact wpAny_bind (bF gone)
           · exact G8 stay))
theorem Cc {Q:P7 G3->G6->Prop}(Z:æ s.heap z TI TO)
 (h:D9 (S2 prog w) A.in1 (Builtin.«zip.__next__» ⟨[.ref z],[]⟩) (λfin s'=> ∃v,fin= .done (.ret v)/\Q (some v) s') (λe s'=>s'.TypeIs e "StopIteration" /\Q none s') s):D9 (S2 prog w) A (gS (.ref z)) Q E s:=by
 obtain⟨_,_,hz,_⟩:=Z;have ty:s.TypeIs (.ref z) "zip" :=⟨_,hz,rfl⟩;have asked:=N5 rL ty F.entry_zip_next h (F.args_zip_next_1 _);exact wpAny_bind (aU (N9 (name:= "__next__") ty rL (M1 asked (λ_ _ q=>G8 q) λe s' q=>wpAny_bind (Z7 (b:=true) q.1 iG (G8 q.2)))))
theorem Cd {l1 l2:P1}{xs ys:M8 G3}{P:dI->G6->Prop}(t1:s.heap.IsTuple l1 xs)(t2:s.heap.IsTuple l2 ys)
 (h: ∀h' n,n=s.heap.objs.size->æ h' (n+4) (n+2) (n+3)->aC h' (n+2) (.ref n) (.ref (n+1))->(∃a b,aC h' (n+3) a b)->h'.IsTupleIter n l1 0->h'.IsTupleIter (n+1) l2 0->
  (∀b o,s.heap.get? b=some o->h'.get? b=some o)->P (.done (.ret (.ref (n+4)))) {s with heap:=h'}):
 D9 (S2 prog w) A (Builtin.«zip.__new__» ⟨[.type "zip",.ref l1,.ref l2],[]⟩) P E s:=by
 have fine:=sub_zip;obtain⟨hp,g,d,tk,os⟩:=s;have first:v6 (Shared.heap ⟨hp,g,d,tk,os⟩) l1 xs:=t1
 have second: ∀o,v6 (Shared.heap ⟨hp.push o,g,d,tk,os⟩) l2 ys:=λo=>Heap.IsTuple.push t2 o
 wp_walk using iC first,iC (second _)
 have size: ∀ (q:L8) o,(q.push o).objs.size=q.objs.size+1:=λq o=>b8 ..
 have n2: ∀o1 o2,((hp.push o1).push o2).objs.size=hp.objs.size+2:=λ_ _=>by rw [size,size]
 have n3: ∀o1 o2 o3,(((hp.push o1).push o2).push o3).objs.size=hp.objs.size+3:=λ_ _ _=>by rw [size,n2]
 have n4: ∀o1 o2 o3 o4,((((hp.push o1).push o2).push o3).push o4).objs.size=hp.objs.size+4:=λ_ _ _ _=>by rw [size,n3]
 have up: ∀ {q:L8} {b o} o',q.get? b=some o->(q.push o').get? b=some o:=λo' e=>P3 o' e
 show P (.done (.ret (.ref (Heap.objs (((((hp.push _).push _).push _).push _))).size))) _;rw [n4];have at1:=S4 (hp.push {cls:= .type "tuple_iterator",data:= .fields #[.ref l1,.int 0 0]}) (o:= {cls:= .type "tuple_iterator",data:= .fields #[.ref l2,.int 0 0]}) rfl;rw [size] at at1;have ë: ∀ (q:L8) (o:Obj) (m:G7),q.objs.size=m->o.isFreed=false->(q.push o).get? m=some o:=λq o m e f=>e ▸ S4 q f
 refine h _ hp.objs.size rfl ⟨.none,false,(ë _ _ _ (n4 ..) rfl).trans ?_,.inl rfl⟩ ((up _ (up _ (ë _ _ _ (n2 ..) rfl))).trans ?_) ⟨.none,.none,up _ (ë _ _ _ (n3 ..) rfl)⟩ ⟨_,up _ (up _ (up _ (up _ (S4 _ rfl)))),rfl,rfl⟩ ⟨_,up _ (up _ (up _ at1)),rfl,rfl⟩ λb o e=>up _ (up _ (up _ (up _ (up _ e))))
 ·simp only [size,cT];rfl
 ·simp only [size];rfl
theorem Gf {T newId X0r:U4}{pos:G0 G3}{kw:G0 (Str×G3)}{Made:G3->G6->Prop}{Q:G3->G6->Prop}(ft:G0g T newId X0r)(fits:checkTypeCall T ⟨pos,kw⟩=pure ())
 (made:D9 (S2 prog w) A.in1 (call (.builtin newId) (.type T::pos) kw) Made E s)
 (begun: ∀o s₁,Made o s₁->s₁.TypeIs o T/\D9 (S2 prog w) A.in1 (pR o "__init__" pos kw) (λr s₂=>r=some .none/\Q o s₂) E s₁):
 D9 (S2 prog w) A (call (.type T) pos kw) Q E s:=by
 have f1:=ft.notType;have f2:=ft.canCreate;have f3:=ft.made;have f4:=ft.sub;obtain⟨_,_,f5⟩:=ft.mro;have first:=λ{Q':G3->G6->Prop} (k: ∀o s₁,Made o s₁->Q' o s₁)=>M1 (E':=E) made k λ_ _ z=>z
 refine sG (gE (G8 ⟨Code.quiet_builtin _ (by decide +kernel),bJ F.entry_type_call ?_⟩));rw [Around.under_plain (weight_type_call_type T pos kw) (units_type_call_type T pos kw)]
 wp_walk using first
 intro o s₁ m;obtain⟨ty,X0V⟩:=begun o s₁ m;refine wpAny_bind (Z7 (b:=true) ty f4 (wpAny_bind (O0 (M1 X0V (λr s₂ q=> ?_) λ_ _ z=>z))));obtain⟨rfl,q⟩:=q;exact G8 q
theorem XF {T newId:U4}{o:G3}{pos:G0 G3}{kw:G0 (Str×G3)}{Q:P7 G3->G6->Prop}(ft:G0g T newId "object.__init__")(other:(some newId !=some "object.__new__")=true)(ty:s.TypeIs o T)
 (fits:argsOk "object.__init__" ⟨o::pos,kw⟩)(q:Q (some .none) s):D9 (S2 prog w) A (pR o "__init__" pos kw) Q E s:=by
 have f1:=ft.init.lookup;have f2:=ft.made;refine N9 ty ft.init (wpAny_call_entry_kw ft.init ty F.entry_object_init ?_ fits);cases e:(!pos.isEmpty|| !kw.isEmpty)<;>(wp_walk;exact⟨_,rfl,q⟩)
theorem XG {l1 l2:P1}{xs ys:M8 G3}{Q:G3->G6->Prop}(t1:s.heap.IsTuple l1 xs)(t2:s.heap.IsTuple l2 ys)
 (h: ∀h' n,n=s.heap.objs.size->æ h' (n+4) (n+2) (n+3)->aC h' (n+2) (.ref n) (.ref (n+1))->(∃a b,aC h' (n+3) a b)->h'.IsTupleIter n l1 0->h'.IsTupleIter (n+1) l2 0->
  (∀b o,s.heap.get? b=some o->h'.get? b=some o)->Q (.ref (n+4)) {s with heap:=h'}):D9 (S2 prog w) A (call (.type "zip") [.ref l1,.ref l2]) Q E s:=
 Gf (Made:=λo s₁=>s₁.TypeIs o "zip" /\Q o s₁) v7 (F.typeCall_zip_2 _ _)
  (sG (codeAny_call_builtin F.called_zip.plain F.entry_zip_new (y4 (F.newCall_zip_2 _ _) (Cd t1 t2 λh' n en zp i o a b k=>⟨let ⟨_,_,e,_⟩:=zp;⟨_,e,rfl⟩,h h' n en zp i o a b k⟩))))
  λ_ _ ⟨ty,q⟩=>⟨ty,XF v7 (by decide) ty (F.args_object_init_3 _ _ _) ⟨rfl,q⟩⟩
end
def Itz (K : G5) (a b : P1) : It :=
  ⟨fun i H => ∃ xs ys x y, ç K H a xs ∧ ç K H b ys ∧ xs[i]? = some x ∧ ys[i]? = some y,
   fun i H x H' => ∃ p v u, H p = none ∧ (∀ xs, ç K H a xs → xs[i]? = some v) ∧ (∀ ys, ç K H b ys → ys[i]? = some u) ∧ x = .ref p ∧ H' = upd H p (.tup [v, u]),
   fun i H => ∃ xs ys, ç K H a xs ∧ ç K H b ys ∧ (xs.length ≤ i ∨ ys.length ≤ i)⟩
variable {prog:T7}{w:C1}
theorem XH {A:B2}{Q:P7 G3->G6->Prop}{E:G3->G6->Prop}{s:G6}{z TI TO i1 i2 l1 l2:P1}{xs ys:M8 G3}(calm:A.handled=none)(ap:Œ z TI TO i1 i2)(n1:l1 ∉ [z,TO,i1,i2])(n2:l2 ∉ [z,TO,i1,i2])(i12:i1≠i2)
 (Z:æ s.heap z TI TO)(hTI:aC s.heap TI (.ref i1) (.ref i2))(hTO: ∃a b,aC s.heap TO a b)(t1:s.heap.IsTuple l1 xs)(t2:s.heap.IsTuple l2 ys)(at1:s.heap.IsTupleIter i1 l1 i)(at2:s.heap.IsTupleIter i2 l2 i)
 (pair: ∀x y h' tk,xs[i]? =some x->ys[i]? =some y->(∀b o,b ∉ [z,TO,i1,i2]->s.heap.get? b=some o->h'.get? b=some o)->aC h' s.heap.objs.size x y->æ h' z TI TO->aC h' TI (.ref i1) (.ref i2)->(∃a b,aC h' TO a b)->
  h'.IsTupleIter i1 l1 (i+1)->h'.IsTupleIter i2 l2 (i+1)->Q (some (.ref s.heap.objs.size)) {s with heap:=h',toks:=tk})
 (ended:(xs.size<=i\/ys.size<=i)-> ∀h' tk,(∀b o,b ∉ [z,TO,i1,i2]->s.heap.get? b=some o->h'.get? b=some o)->Q none {s with heap:=h',toks:=tk}):D9 (S2 prog w) A (gS (.ref z)) Q E s:=by
 have sub: ∀ {b:P1} {W:G0 P1},b ∉ [z,TO,i1,i2]->(∀c∈W,c∈ [z,TO,i1,i2])->b ∉ W:=λn m q=>n (m _ q)
 have z': ∀c∈ [z],c∈ [z,TO,i1,i2]:=by simp
 have o': ∀c∈ [TO],c∈ [z,TO,i1,i2]:=by simp
 have a': ∀c∈ [i1],c∈ [z,TO,i1,i2]:=by simp
 have b': ∀c∈ [i2],c∈ [z,TO,i1,i2]:=by simp
 have zo: ∀c∈ [z,TO],c∈ [z,TO,i1,i2]:=by simp
 refine Cc Z (Mt ap Z hTI hTO λh₁ Ć isz=> ?_);have u1:h₁.IsTuple l1 xs:=t1.at λo e=>Ć.2 _ _ (sub n1 z') e
 have v1:h₁.IsTupleIter i1 l1 i:=at1.at λo e=>Ć.2 _ _ (by simp [ap.z1.symm]) e
 have stop: ∀ {h h':L8} {it e:P1},z≠it->q0 it h h'->(∃o,h.get? z=some o/\o.cls= .type "zip")->(∃o,h'.get? e=some o/\o.cls= .type "StopIteration")->e≠z:=λnz x ⟨o,e1,c1⟩ ⟨o2,e2,c2⟩ q=>by
  subst q;rw [x _ _ nz e1] at e2;cases e2;rw [c1] at c2;simp at c2
 cases hx:xs[i]? with
 |none=>
  refine Jt (s:= {s with heap:=h₁}) calm v1 u1 hx λh' e grown st=>⟨λo q=>grown _ _ ap.z1 q,λh2 k=>⟨?_,ended (.inl (U7.mp hx)) _ _ λb o n q=>k _ _ (λy=>sub n z' (by simp [y])) (grown _ _ (λy=>sub n a' (by simp [y])) (Ć.2 _ _ (sub n z') q))⟩⟩
  have ne:=stop ap.z1 grown isz st;obtain⟨o,q,c⟩:=st;exact⟨o,k _ _ ne q,c⟩
 |some x=>
  refine VC (s:= {s with heap:=h₁}) v1 u1 hx λθ w1 ì=>⟨.of ì (by simp),λõ Ĺ=> ?_⟩
  have all: ∀ {b o},b ∉ [z,TO,i1,i2]->s.heap.get? b=some o->õ.get? b=some o:=λn e=>Ĺ.2 _ _ (sub n o') (ì.extBut _ _ (λy=>sub n a' (by simp [y])) (Ć.2 _ _ (sub n z') e))
  have u2:õ.IsTuple l2 ys:=t2.at λo e=>all n2 e
  have v2:õ.IsTupleIter i2 l2 i:=at2.at λo e=>Ĺ.2 _ _ (by simp [ap.O2.symm]) (ì.extBut _ _ i12.symm (Ć.2 _ _ (by simp [ap.z2.symm]) e))
  have w2:õ.IsTupleIter i1 l1 (i+1):=w1.at λo e=>Ĺ.2 _ _ (by simp [ap.O1.symm]) e
  have X1E: ∃o,õ.get? z=some o/\o.cls= .type "zip" :=let ⟨o,e,c⟩:=isz;⟨o,Ĺ.2 _ _ (by simp [ap.zO]) (ì.extBut _ _ ap.z1 e),c⟩;cases hy:ys[i]? with
  |none=>
   refine Jt (s:= {s with heap:=õ}) calm v2 u2 hy λh' e grown st=>⟨λo q=>grown _ _ ap.z2 q,λh3 k=>⟨?_,ended (.inr (U7.mp hy)) _ _ λb o n q=>k _ _ (λy=>sub n z' (by simp [y])) (grown _ _ (λy=>sub n b' (by simp [y])) (all n q))⟩⟩
   have ne:=stop ap.z2 grown X1E st;obtain⟨o,q,c⟩:=st;exact⟨o,k _ _ ne q,c⟩
  |some y=>
   refine VC (s:= {s with heap:=õ}) v2 u2 hy λh2' w3 ö=>⟨.of ö (by simp),λĝ kept new zip its out=> ?_⟩
   have size:h2'.objs.size=s.heap.objs.size:=by rw [ö.1,Ĺ.1,ì.1,Ć.1]
   have done:=pair x y ĝ s.toks hx hy (λb o n e=>kept _ _ (sub n zo) (ö.extBut _ _ (λy=>sub n b' (by simp [y])) (all n e))) (size ▸ new) zip its out
    (w2.at λo e=>kept _ _ (by simp [ap.z1.symm,ap.O1.symm]) (ö.extBut _ _ i12 e)) (w3.at λo e=>kept _ _ (by simp [ap.z2.symm,ap.O2.symm]) e)
   rw [<-size] at done;exact done
theorem Dx (n:G7):Œ (n+4) (n+2) (n+3) n (n+1):=by
 have d: ∀ {i j:G7},i≠j->n+i≠n+j:=λh q=>h (Nat.add_left_cancel q)
 exact⟨d (j:=0) (by decide),d (by decide),d (by decide),d (by decide),d (j:=0) (by decide),d (by decide),d (by decide),d (j:=0) (by decide),d (by decide)⟩
theorem XI {c:G7}(h:c<n):c ∉ [n+4,n+3,n,n+1]:=by
 simp only [T3,F4,or_false,not_or];omega
theorem Ce {c:G7}(h:c∈ [n+4,n+2,n+3,n,n+1]):n<=c:=by
 simp only [T3,F4,or_false] at h;omega
theorem Ph {A:B2}{E:G3->G6->Prop}{s:G6}{z TI TO:P1}{Q:G3->G6->Prop}(Z:æ s.heap z TI TO)(h:Q (.ref z) s):D9 (S2 prog w) A (mZ (.ref z)) Q E s:=by
 obtain⟨_,_,hz,_⟩:=Z;have ty:s.TypeIs (.ref z) "zip" :=⟨_,hz,rfl⟩;exact i5 ty rM (N5 rM ty F.entry_zip_iter (G8 ⟨_,rfl,_,_,ty,F.slot_zip_next.lookup,h⟩) (F.args_zip_iter_1 _))
theorem Cf {P:T7}(tg:T8)(l1 l2 z TI TO i1 i2:P1)(ap:Œ z TI TO i1 i2)(n1:l1 ∉ [z,TO,i1,i2])(n2:l2 ∉ [z,TO,i1,i2])(i12:i1≠i2):
 Ŝ P w K tg (Itz K l1 l2) [z,TI,TO,i1,i2] z (λi h=>æ h z TI TO/\aC h TI (.ref i1) (.ref i2)/\(∃a b,aC h TO a b)/\h.IsTupleIter i1 l1 i/\h.IsTupleIter i2 l2 i):=by
 have inW: ∀ {b:P1},b ∉ [z,TI,TO,i1,i2]->b ∉ [z,TO,i1,i2]:=λn q=>n (by simp only [T3] at q ⊢;rcases q with q|q|q|q|q<;>simp [q] at*)
 have there: ∀ {i:G7} {h:L8},(æ h z TI TO/\aC h TI (.ref i1) (.ref i2)/\(∃a b,aC h TO a b)/\h.IsTupleIter i1 l1 i/\h.IsTupleIter i2 l2 i)-> ∀b∈ [z,TI,TO,i1,i2],∃o,h.get? b=some o/\ ∀v,o.data≠ .cell v:=λ⟨⟨_,_,a1,_⟩,a2,⟨_,_,a3⟩,⟨o4,a4,_,d4⟩,⟨o5,a5,_,d5⟩⟩ b hb=>by
  simp only [T3,F4,or_false] at hb;rcases hb with e|e|e|e|e<;>subst e
  ·exact⟨_,a1,λv z=>by cases z⟩
  ·exact⟨_,a2,λv z=>by cases z⟩
  ·exact⟨_,a3,λv z=>by cases z⟩
  ·exact⟨o4,a4,λv z=>by rw [d4] at z;cases z⟩
  ·exact⟨o5,a5,λv z=>by rw [d5] at z;cases z⟩
 refine⟨by simp,λi h st=>there st,λi h h' ⟨⟨f,b,a1,qf⟩,a2,⟨x,y,a3⟩,a4,a5⟩ q=>⟨⟨f,b,q z (by simp) _ a1,qf⟩,q TI (by simp) _ a2,⟨x,y,q TO (by simp) _ a3⟩,a4.at λo e=>q i1 (by simp) o e,a5.at λo e=>q i2 (by simp) o e⟩,?_,?_,λ_ _ _ _ _ st h=>Ph st.1 h⟩
 ·intro X hP hw hK hc i À s σ H E I hf st hg;subst hP hw hK;obtain⟨xs,ys,x,y,hq,hq2,hx,hy⟩:=hg;obtain⟨its,rv,p,_⟩:=I.tuple hq;obtain⟨jts,rw',p2,_⟩:=I.tuple hq2;obtain⟨u,hu,ru⟩:=rv.get hx;obtain⟨v,hv,rv'⟩:=rw'.get hy;obtain⟨a1,a2,a3,a4,a5⟩:=id st;have lt: ∀b∈ [z,TI,TO,i1,i2],b≠s.heap.objs.size:=λb hb=>let ⟨_,e,_⟩:=there st b hb;N3 (R7 e)
  have l1':i<its.toArray.size:=by have:=(P8.mp hu).1;simpa using this
  have l2':i<jts.toArray.size:=by have:=(P8.mp hv).1;simpa using this
  refine XH (I.ok.hd hc) ap n1 n2 i12 a1 a2 a3 p p2 a4 a5 (λx' y' h' tk ă Ŀ kept new zip it out w1 w2=>⟨_,rfl,?_⟩) λends=>absurd ends (by omega)
  have ex:x'=u:=by simp only [mR] at ă;rw [hu] at ă;cases ă;rfl
  have ey:y'=v:=by simp only [mR] at Ŀ;rw [hv] at Ŀ;cases Ŀ;rfl
  subst ex ey;refine OR (s:= {s with heap:=h',toks:=tk}) zip λh2 zip2 off=> ?_
  have hn:H s.heap.objs.size=none:=I.hok.fresh (P5 _);have nz: ∀ {b},b≠z->b ∉ [z]:=λh=>by simpa using h
  have T2:aC h2 s.heap.objs.size x' y':=off.2 _ _ (nz (lt z (by simp)).symm) new;refine⟨.ref s.heap.objs.size,upd H s.heap.objs.size (.tup [x,y]),?_,rfl,⟨_,x,y,hn,λws hw=>by rw [I.tuple_inj hw hq];exact hx,λws hw=>by rw [I.tuple_inj hw hq2];exact hy,rfl,rfl⟩,
   ⟨zip2,off.2 _ _ (nz ap.zI.symm) it,let ⟨a,b,e⟩:=out;⟨a,b,off.2 _ _ (nz ap.zO.symm) e⟩,w1.at λo e=>off.2 _ _ (nz ap.z1.symm) e,w2.at λo e=>off.2 _ _ (nz ap.z2.symm) e⟩,λb hb=> ?_⟩
  ·refine I.turnLaid (h':=h2) (t':=tk) (ch:= [z,TI,TO,i1,i2]) (λb u hb q=>off.2 _ _ (λy=>inW hb (by simp only [G9] at y;simp [y])) (kept b u (inW hb) q)) hf (P5 _) ⟨by show 2<=sizeLine;decide,[x',y'],.cons ru (.cons rv' .nil),⟨_,T2,rfl,rfl,_,rfl⟩⟩
  ·rw [jt (lt b hb)];exact(hf b hb).1
 ·intro X hP hw hK hc i À s σ H E I hf st hg;subst hP hw hK;obtain⟨xs,ys,hq,hq2,hl⟩:=hg;obtain⟨its,rv,p,_⟩:=I.tuple hq;obtain⟨jts,rw',p2,_⟩:=I.tuple hq2;have e1:=rv.length;have e2:=rw'.length;obtain⟨a1,a2,a3,a4,a5⟩:=id st;refine XH (I.ok.hd hc) ap n1 n2 i12 a1 a2 a3 p p2 a4 a5 (λx' y' h' tk ă Ŀ _ _ _ _ _ _ _=> ?_) λ_ h' tk kept=>⟨rfl,I.turnL (ch:= [z,TI,TO,i1,i2]) (λb o hb q=>kept b o (inW hb) q) hf⟩
  have b1:=(U8.mp ă).1;have b2:=(U8.mp Ŀ).1;simp only [D8] at b1 b2;omega
section
variable {X:Cx}
def ul (K:G5)(ta:TA):TI:=λσ H R=>ta σ H λvs H1=> ∃a b,vs= [.ref a,.ref b]/\(∃xs,ç K H1 a xs)/\(∃ys,ç K H1 b ys)/\R (Itz K a b) H1
theorem SQ {tg:T8}{a b:T8}{ta:TA}{p pos:Pos}(hg:Gl X "zip")(hm:X.mg "zip" =none)(ha:PA X [a,b] ta)(hs:R6 [a,b] X.env= [(false,A0 a X.env),(false,A0 b X.env)]:=by rfl)(hs2:R6 [b] X.env= [(false,A0 b X.env)]:=by rfl):
 PI X tg (.Call (.Name "zip" p) [a,b] [] pos) (ul X.K ta):=by
 intro À s σ H R I h;refine Call_ (Vr I hg hm boot_zip (Y6 (Ô (ha pos À s σ H _ I h) λus s1 ⟨vs,H1,I1,r1,q1⟩=> ?_) (by rw [hs,hs2]) (by rw [hs2];rfl)));obtain⟨a,b,e,⟨xs,hq⟩,⟨ys,hq2⟩,q⟩:=q1;subst e;cases r1 with
 |cons r rr=>
  cases rr with
  |cons r' rr=>
   cases rr;cases r;cases r';obtain⟨its,rv,p,_⟩:=I1.tuple hq;obtain⟨jts,rw',p2,_⟩:=I1.tuple hq2;have la:a<s1.heap.objs.size:=by obtain⟨o,ho,_⟩:=p;exact R7 ho
   have lb:b<s1.heap.objs.size:=by obtain⟨o,ho,_⟩:=p2;exact R7 ho
   refine XG (show s1.heap.IsTuple a its.toArray from p) (show s1.heap.IsTuple b jts.toArray from p2) λh' n en z1 z2 z3 z4 z5 hk=> ?_
   subst en;refine Ph z1 ⟨s1.heap.objs.size+4,[s1.heap.objs.size+4,s1.heap.objs.size+2,s1.heap.objs.size+3,s1.heap.objs.size,s1.heap.objs.size+1],_,_,H1,rfl,I1.kept (t':=s1.toks) hk,
    Cf _ a b _ _ _ _ _ (Dx _) (XI la) (XI lb) (N3 (Z6 _)),⟨z1,z2,z3,z4,z5⟩,λc hc=> ?_,q⟩
   have Κ:s1.heap.objs.size<=c:=Ce hc;exact I1.fpOk Κ (I1.hok.fresh Κ)
end
def FP (ds es:G0 D):G0 D:=(ds.zip es).map λp=> .tup [p.1,p.2]
def iZ (ta:TAD):TID:=λσ h R=>ta σ h λxs h1=> ∃ds es,xs= [.tup ds,.tup es]/\R (λ_=>some (FP ds es)) h1
theorem Cg {ds es:G0 D}{d:D}(h:(FP ds es)[i]? =some d): ∃x y,ds[i]? =some x/\es[i]? =some y/\d= .tup [x,y]:=by
 unfold FP at h;rw [D1] at h;cases q:(ds.zip es)[i]? with
 |none=>rw [q] at h;cases h
 |some p=>
  rw [q] at h;obtain⟨x,y⟩:=p;rw [List.getElem?_zip_eq_some] at q;exact⟨x,y,q.1,q.2,(B9 h).symm⟩
section
variable {K:G5}
theorem Ch {H:Hp}{a b:P1}{vs us:G0 V}{ds es:G0 D}(hv:H a=some (.tup vs))(r:Á K H ds vs)(hu:H b=some (.tup us))(ru:Á K H es us):BL K H (λ_=>some (FP ds es)) (Itz K a b):=λH' h' k rh ds' e i=>by
 cases e;have Ů:=k.tup _ _ hv;have hu':=k.tup _ _ hu;have r':=r.mono k;have ru':=ru.mono k;refine⟨λd hd=> ?_,λhl=>⟨vs,us,ç.of Ů,ç.of hu',?_⟩⟩
 ·obtain⟨x,y,hx,hy,ed⟩:=Cg hd;subst ed;obtain⟨v,e1,e2⟩:=r'.get hx;obtain⟨u,e3,e4⟩:=ru'.get hy;refine⟨⟨vs,us,v,u,ç.of Ů,ç.of hu',e1,e3⟩,λx' Ġ ⟨p,v',u',hp,ă,Ŀ,ex,eH⟩=> ?_⟩;subst ex eH;have ev:v'=v:=by have:=ă vs (ç.of Ů);rw [e1] at this;exact(B9 this).symm
  have eu:u'=u:=by have:=Ŀ us (ç.of hu');rw [e3] at this;exact(B9 this).symm
  subst ev eu;have k2:Kept H' (upd H' p (.tup [v',u'])):= .new hp;exact⟨k2,É.new rh hp,p,[v',u'],rfl,jw,_,_,rfl,e2.mono k2,_,_,rfl,e4.mono k2,rfl⟩
 ·have l1:=r.length;have l2:=ru.length;unfold FP at hl;rw [G1,rN] at hl;omega
theorem SR {ta:TAD}: ∀σ H R,LI K (iZ ta) σ H R->ul K (LA K ta) σ H R:=λσ H R ⟨Æ,h,Rd,rs,rh,q,p⟩=>
 LA.bind rs rh q λds vs h1 H1 k1 Ø Í r1 ⟨es,fs,e,q1⟩=>by
  subst e;obtain⟨v,w,e,r2,r3⟩:=vI r1;obtain⟨a,ws,e',hv,r⟩:=(show ∃a vs,v= .ref a/\H1 a=some (.tup vs)/\Á K H1 es vs from r2);obtain⟨b,us,e'',hu,r'⟩:=(show ∃a vs,w= .ref a/\H1 a=some (.tup vs)/\Á K H1 fs vs from r3);subst e' e'';exact⟨a,b,e,⟨ws,ç.of hv⟩,⟨us,ç.of hu⟩,p _ _ _ _ k1 Í (Ch hv r hu r') q1⟩
end
section
variable {X:Cx}
theorem SS {tg:T8}{a b:T8}{ta:TAD}{p pos:Pos}(hg:Gl X "zip")(hm:X.mg "zip" =none)(ha:JA X [a,b] ta)(hs:R6 [a,b] X.env= [(false,A0 a X.env),(false,A0 b X.env)]:=by rfl)(hs2:R6 [b] X.env= [(false,A0 b X.env)]:=by rfl):
 JI X tg (.Call (.Name "zip" p) [a,b] [] pos) (iZ ta):=⟨(SQ hg hm ha.to hs hs2).imp SR⟩
end
def inE (neg:N2):RD2:=λx y h Q=> ∃ (p:U1) (ps:G0 U1),ģ h x p/\(ģ h y (.list ps)\/ģ h y (.tuple ps))/\p.canLay0=true/\C8 ps=true/\p.depth<=60/\Q (.bl (neg !=ps.any λz=>O5 z p)) h
section
variable {X:Cx}
theorem WR (hu:X.A.units+64<cLine):ô X (N8 .NotIn) (inE true):=by
 intro À s σ H x y v u Q I rx ry h;obtain⟨dx,dy,h,Qd,r1,r2,rh,⟨p,ps,t1,t2,c1,c2,c3,qq⟩,post⟩:=h;obtain⟨as,a1⟩:=wA I rh t1 r1 rx;have hu':X.A.units+1+min (F5 ps) p.depth<cLine:=by have:=aY (F5 ps) p.depth;omega
 have q':Qd (.bl (!ps.any λz=>O5 z p)) h:=by simpa using qq
 rcases t2 with t2|t2
 ·obtain⟨bs,b1⟩:=wA I rh t2 r2 ry;exact notIn_list_reads b1 a1 c2 c1 hu' ⟨.bl _,H,I,rfl,post (.bl _) _ _ _ (.refl H) rh rfl q'⟩
 ·obtain⟨bs,b1⟩:=wA I rh t2 r2 ry;exact notIn_tuple_reads b1 a1 c2 c1 hu' ⟨.bl _,H,I,rfl,post (.bl _) _ _ _ (.refl H) rh rfl q'⟩
end
def um (i:G7)(f:P0->P0->P0)(te:TED):TSD:=λD σ h=> ∃x:P0,σ[i]? =some (some (.int x))/\te σ h λy h1=> ∃j:P0,y= .int j/\D.nx (σ.set i (some (.int (f x j)))) h1
theorem ST {f:P0->P0->P0}{te:TED}: ∀D σ H,LS K (um i f te) D σ H->kl i (LE K te) (ipI f) D σ H:=λD σ H ⟨Æ,h,Dd,rs,rh,⟨x,hx,q⟩,nx,rt,bk,ct⟩=>by
 obtain⟨v,e1,r1⟩:=rs.2 i _ hx;cases (show v= .int x from r1);exact⟨_,e1,LE.bind rs rh q λd u h1 H1 k1 Ø Í r1 ⟨j,e,q1⟩=>by
  subst e;cases (show u= .int j from r1);exact⟨x,j,rfl,rfl,nx _ _ _ _ k1 (Ø.set (d:= .int (f x j)) rfl i) Í q1⟩⟩
section
variable {X:Cx}{i:G7}{x:Str}{e:T8}{te:TED}{pos pos':Pos}
theorem OS (hN:X.N.Nodup)(hi:X.N[i]? =some x)(hx:Loc X.env.scope x)(he:JE X e te)(hf:X.fn x=true\/X.env.scope.names.lookup x=some .local:=by first|exact .inl rfl|exact .inr rfl|assumption):JS X (.AugAssign (.Name x pos') .Add e pos) (um i (λa b=>a+b) te):=⟨(Er hN hi hx he.to Es hf).imp ST⟩
end
theorem Ci {X:Cx}(hu:X.A.units+64<cLine):MtM X "list.index" (λx vs H Q=> ∃ (a:P1) (y:V) (dy:D) (h:HD) (p:U1) (ps:G0 U1) (j:G7) (z:U1),x= .ref a/\vs= [y]/\Ê X.K H dy y/\É X.K h H/\ģ h (.lst a) (.list ps)/\ģ h dy p/\p.canLay0=true/\C8 ps=true/\p.depth<=60/\j<1000000/\ps[j]? =some z/\O5 z p=true/\(∀m y,m<j->ps[m]? =some y->O5 y p=false)/\Q (.int (j:P0)) H):=by
 intro À s σ H x vs v us Q I rx rv h;obtain⟨a,y,dy,h,p,ps,j,z,rfl,rfl,rd,rh,t1,t2,c1,c2,c3,hj,hz,hit,hno,q⟩:=h;cases rx;obtain⟨u,rfl,ru⟩:=Vc rv;obtain⟨a',ds,ea,ha,ts⟩:=(show ∃a' ds,D.lst a= .lst a'/\h a'=some ds/\Ķ h ds ps from t1);cases ea;obtain⟨ws,hH,_⟩:=rh a ds ha;obtain⟨as,r1⟩:=wA I rh t1 (show Ê X.K H (.lst a) (.ref a) from ⟨rfl,ws,hH⟩) (show RelV (.ref a) (.ref a) from rfl);obtain⟨bs,r2⟩:=wA I rh t2 rd ru;cases r1 with
 |list h1 h2 h3 h4=>
  rename_i o its n cs;have em:=readsAll_map ps _ _ c2 h4;have gm: ∀m (hm:m<its.size),ps[m]? =some (readOf s.heap its[m]):=λm hm=>by
   rw [<-em,D1,C3,Array.getElem?_eq_getElem hm];rfl
  have hlen:its.size=ps.length:=by rw [<-em,G1,N0]
  have hjs:j<its.size:=by rw [hlen];exact(P8.mp hz).1
  have hu':X.A.units+1+min (F5 ps) p.depth<cLine:=by have:=aY (F5 ps) p.depth;omega
  obtain⟨oc,od,odt,ŵ⟩:=o;simp only at h2 h3;subst h2 h3;refine g8 F.slot_list_index ⟨_,h1,rfl⟩ F.entry_list_index (F.args_list_index_2 _ _) (list_indexAt a its n od ŵ u (λy=>O5 (readOf s.heap y) p) j hjs (by omega) ?_ ?_) ⟨h1,items_eqAt h4 r2 c2 c1 hu',?_⟩
  ·have:=gm j hjs;rw [hz] at this;injection this with this
   rw [<-this];exact hit
  ·intro m hm hmj;exact hno m _ hmj (gm m hm)
  ·exact⟨.int (j:P0),H,I.tok _,⟨_,rfl⟩,q⟩
def xx (to te:TED):TED:=λσ h Q=>to σ h λx h1=> ∃a,x= .lst a/\te σ h1 λy h2=> ∃ (p:U1) (ps:G0 U1) (j:G7) (z:U1),ģ h2 (.lst a) (.list ps)/\ģ h2 y p/\p.canLay0=true/\C8 ps=true/\p.depth<=60/\j<1000000/\ps[j]? =some z/\O5 z p=true/\(∀m y,m<j->ps[m]? =some y->O5 y p=false)/\Q (.int (j:P0)) h2
section
variable {X:Cx}{o e i:T8}{to te ti:TED}{apos Ï:Pos}
theorem uo (hu : X.A.units + 64 < cLine) (ho : JE X o to) (he : JE X e te) (hbase : W6 o "index" X.env (A0 o X.env) = A0 o X.env := by rfl)
    (hfew : ((Q7 Ï (R6 [e] X.env)).all (fun x => !x.1) && (g7 Ï (b7 [] X.env)).all (fun x => x.1.isSome) && decide ([e].length + ([] : G0 bG).length + (if ([] : G0 bG).isEmpty then 0 else 1) < 30)) = true := by rfl)
    (hline : (apos.endLine == Ï.line) = true := by rfl) (hs : R6 [e] X.env = (false, A0 e X.env) :: R6 [] X.env := by rfl) (hplain : (Q7 Ï (R6 [] X.env)).any (·.1) = false := by rfl) :
    JE X (.Call (.Attribute o "index" apos) [e] [] Ï) (xx to te) :=
  ⟨(BG aZ tZ t8 (Ci hu) ho.to (vG he.to ě hs) hbase hfew hline hs hplain).imp
    fun σ H Q ⟨Æ, h, Qd, rs, rh, t, p⟩ => LE.bind rs rh t fun d v h1 H1 k1 Ø Í r1 ⟨a, e, q⟩ => by
      subst e
      obtain ⟨e1, vs, hH⟩ := (show v = .ref a ∧ ∃ vs, H1 a = some (.lst vs) from r1)
      subst e1
      refine ⟨.inl ⟨rfl, vs, ò.of hH⟩, ?_⟩
      refine LE.bind Ø Í q fun y u h2 H2 k2 ğ ó r2 ⟨pd, ps, j, z, t1, t2, c1, c2, c3, hj, hz, hit, hno, q2⟩ => ?_
      exact ⟨a, u, y, h2, pd, ps, j, z, rfl, rfl, r2, ó, t1, t2, c1, c2, c3, hj, hz, hit, hno, p (.int _) _ _ _ (k1.trans k2) ó rfl q2⟩⟩
end
section
variable {α:Type}{i i':G7}{js:G0 G7}{ti:TID}{te:TED}{σ:SD}{h:HD}{Q:KD}{j:ItD}
theorem Ks (xs:G0 α)(c c' g:α->D)(hz:xs.length<=1000)(hj:j h=some (xs.map λx=> .tup [c x,c' x]))(ht: ∀R:ItD->HD->Prop,R j h->ti σ h R)
 (he: ∀x∈xs,∀Q':KD,Q' (g x) h->te (((jL js σ).set i (some (c x))).set i' (some (c' x))) h Q')(hq: ∀p,h p=none->Q (.lst p) (wg h p (xs.map g))):JD (b2 i i') js ti Jd te σ h Q:=by
 refine ht _ ⟨xs.length,λk ys h'=>h'=h/\ys=(xs.take k).map g,⟨rfl,by simp⟩,?_⟩;rintro k ys h' ⟨rfl,rfl⟩;refine⟨by simp only [G1,S8];exact M5 (zk (by omega)),_,hj,by simp,λhl p hp=> ?_,λd hd=> ?_⟩
 ·rw [S3 (by simpa using hl)];exact hq p hp
 ·rw [D1] at hd;cases hx:xs[k]? with
  |none=>rw [hx] at hd;cases hd
  |some x=>
   rw [hx] at hd;cases hd;refine⟨_,⟨_,_,rfl,rfl⟩,?_⟩;unfold Jd;dsimp only;rw [R5 rfl];refine he x (P9 hx) _ ⟨h',Sub.refl _,rfl,?_⟩;rw [B6,hx];simp
theorem Kt (xs:G0 α)(c c':α->D)(g:α->N2)(hz:xs.length<=1000)(hj:j h=some (xs.map λx=> .tup [c x,c' x]))(ht: ∀R:ItD->HD->Prop,R j h->ti σ h R)
 (he: ∀x∈xs,∀Q':KD,Q' (.bl (g x)) h->te (((jL js σ).set i (some (c x))).set i' (some (c' x))) h Q')(hq:Q (.bl (xs.all g)) h):Ĩ RV (wb (JD (b2 i i') js ti Jd te) Vd) σ h Q:=by
 show JD (b2 i i') js ti Jd te σ h (λx h1=>RV [x] h1 Q);exact Ks xs c c' (λx=> .bl (g x)) hz hj ht he λp hp=>⟨p,xs.map g,rfl,by rw [jc,R4];rfl,by rw [zG hp,Y8];exact hq⟩
end
def Į {α:Type}(f:α->α)(x:α):G7->α
 |0=>x
 |k+1=>f (Į f x k)
variable {α:Type}
theorem Gg (f:α->α)(x:α)(a:G7): ∀b,Į f x (a+b)=Į f (Į f x a) b
 |0=>rfl
 |b+1=>by show f (Į f x (a+b))=f (Į f (Į f x a) b);rw [Gg f x a b]
theorem XJ {α:Type}{f:α->α}{x:α}{p:G7}(e:Į f x (a+p)=Į f x a)(r:G7): ∀q,Į f x (a+p*q+r)=Į f x (a+r)
 |0=>by simp
 |q+1=>by
  have h1:a+p*(q+1)+r=(a+p)+(p*q+r):=by rw [mB];omega
  rw [h1,Gg,e,<-Gg,<-cT,XJ e r q]
theorem Mu {α:Type}{f:α->α}{x:α}{m k:G7}(e:Į f x m=Į f x a)(ha:a<m)(hk:a<=k):Į f x (a+(k-a)%(m-a))=Į f x k:=by
 have e':Į f x (a+(m-a))=Į f x a:=by rw [show a+(m-a)=m by omega];exact e
 have h:=XJ e' ((k-a)%(m-a)) ((k-a) / (m-a));have h2:=Nat.div_add_mod (k-a) (m-a);rw [show a+(m-a)*((k-a) / (m-a))+(k-a)%(m-a)=k by omega] at h;exact h.symm
theorem yQ [DecidableEq α]: ∀ {l m:G0 α},l.Nodup->(∀x∈l,x∈m)->l.length<=m.length
 | [],_,_,_=>B0 _
 |a::l,m,nd,h=>by
  have hm:=h a P6;have h2:l.length<=(m.erase a).length:=yQ (K0.mp nd).2 λx hx=>by
   have hxa:x≠a:=λe=>(K0.mp nd).1 (e ▸ hx)
   exact(List.mem_erase_of_ne hxa).mpr (h x (D7 _ hx))
  rw [List.length_erase_of_mem hm] at h2;have:=List.length_pos_of_mem hm;simp only [S7];omega
def Hf (S:G0 G7):U1:=yq (Dw S)
theorem Mv (h:HD)(S:G0 G7):ģ h (zt S) (Hf S):=by rw [OM];exact⟨_,rfl,Yo h _⟩
theorem ZN (r:G0 P0):(yq r).canLay0=true:=by unfold yq;simp only [L9];exact JJ r
theorem XL (r:G0 P0):(yq r).depth<=2:=by unfold yq;simp only [J1];have:=ZM r;omega
theorem VD: ∀a b:G0 P0,U3 (a.map iF) (b.map iF)=decide (a=b)
 | [],[]=>by simp [U3]
 | [],_::_=>by simp [U3]
 |_::_,[]=>by simp [U3]
 |x::a,y::b=>by
  show ((x==y)&&U3 (a.map .int) (b.map .int))=_;rw [VD a b,J8];simp
theorem Gh (a b:G0 P0):O5 (yq a) (yq b)=decide (a=b):=VD a b
theorem Mw {a b:G0 G7}(h:Dw a=Dw b):a=b:=by
 have:=congrArg (IA u0) h;unfold Dw at this;simpa [R4,bV] using this
theorem OT (a b:G0 G7):O5 (Hf a) (Hf b)=decide (a=b):=by
 unfold Hf;rw [Gh,J8,X7,X7];exact⟨Mw,λe=>by rw [e]⟩
theorem VE (r:G0 P0):fK (yq r)=true:=by
 unfold fK;rw [ZN,D2 (by have:=XL r;omega)];rfl
theorem SU {a b:G0 G7}{Q:KD}(e:a=b)(q:Q (.bl true) h):eqE (zt a) (zt b) h Q:=by
 subst e;exact⟨_,_,Mv h a,Mv h a,VE _,VE _,by rw [OT,D2 rfl];exact q⟩
theorem XM {α:Type}{f:G7->α}{L:G7}(h:1<=L):Ē ((P4 L).map f) (-1)=some (f (L-1)):=by
 unfold Ē Ŭ;rw [G1,S6,R3 (by decide),R5 (by omega)];show ((P4 L).map f)[(-1+(L:P0)).toNat]? =_;rw [show (-1+(L:P0)).toNat=L-1 by omega,D1,I0 (by omega)];rfl
theorem OU (xs:G0 α):Va xs (some 1) none=xs.drop 1:=by
 unfold Va;cases xs with
 |nil=>simp
 |cons x xs=>simp [HT.sIx]
structure Enc {α:Type}[DecidableEq α](e:α->D)(p:α->U1):Prop where
 to: ∀ (h:HD) a,ģ h (e a) (p a)
 lay: ∀a,(p a).canLay0=true
 dp: ∀a,(p a).depth<=60
 eq: ∀a b,O5 (p a) (p b)=decide (a=b)
section
variable {α:Type}[DecidableEq α]{e:α->D}{p:α->U1}
theorem Enc.tos (E:Enc e p)(h:HD): ∀as:G0 α,Ķ h (as.map e) (as.map p)
 | []=>rfl
 |a::as=>⟨_,_,rfl,E.to h a,E.tos h as⟩
theorem Enc.lays (E:Enc e p): ∀as:G0 α,C8 (as.map p)=true
 | []=>rfl
 |a::as=>by show (L9 (p a)&&_)=true;rw [E.lays as,E.lay a];rfl
theorem Mx (E:Enc e p){neg:N2}{x:α}{as:G0 α}{a:P1}{h:HD}{Q:KD}(ha:h a=some (as.map e))(q: ∀b:N2,(b=true↔x∈as)->Q (.bl (neg !=b)) h):inE neg (e x) (.lst a) h Q:=by
 refine⟨p x,as.map p,E.to h x,.inl ⟨a,_,rfl,ha,E.tos h as⟩,E.lay x,E.lays as,E.dp x,q _ ?_⟩;rw [l8,E9];constructor
 ·rintro ⟨y,hy,z⟩;have:y=x:=by simpa [K7,E.eq] using z
  rw [<-this];exact hy
 ·intro hi;exact⟨x,hi,by simp [K7,E.eq]⟩
theorem FQ (E:Enc e p){x:α}{as:G0 α}{a:P1}{h:HD}(ha:h a=some (as.map e))(hx:x∈as)(hl:as.length<=100000):
 ∃ (j:G7) (q:U1) (qs:G0 U1) (z:U1),as[j]? =some x/\ģ h (.lst a) (.list qs)/\ģ h (e x) q/\q.canLay0=true/\C8 qs=true/\q.depth<=60/\j<1000000/\qs[j]? =some z/\O5 z q=true/\(∀m y,m<j->qs[m]? =some y->O5 y q=false):=by
 have hj:=List.idxOf_lt_length_iff.mpr hx;have ex:as[as.idxOf x]? =some x:=by rw [G2 hj,List.getElem_idxOf hj]
 refine⟨as.idxOf x,p x,as.map p,p x,ex,⟨a,_,rfl,ha,E.tos h as⟩,E.to h x,E.lay x,E.lays as,E.dp x,by omega,?_,by rw [E.eq,D2 rfl],λm y hm hy=> ?_⟩
 ·rw [D1,ex];rfl
 ·rw [D1] at hy;have hml:m<as.length:=by omega
  rw [G2 hml] at hy;cases hy;rw [E.eq];have:=List.not_of_lt_findIdx (p:=(· ==x)) (xs:=as) hm;simpa using this
end
theorem yc: ∀a b:G0 (G0 P0),U3 (a.map yq) (b.map yq)=decide (a=b)
 | [],[]=>by simp [U3]
 | [],_::_=>by simp [U3]
 |_::_,[]=>by simp [U3]
 |x::a,y::b=>by
  show (O5 (yq x) (yq y)&&U3 (a.map yq) (b.map yq))=_;rw [yc a b,Gh,J8];simp
theorem ā:Enc jg Jo:=⟨vJ,λT=>by unfold Jo;simp only [L9];exact yZ T,λT=>by unfold Jo;simp only [J1];have:=yO T;omega,yc⟩
def Ü (n:G7)(T:G0 (G0 P0))(M:G0 (G0 P0)):G0 (G0 P0):=jn n (wW n M T)
def wO (n:G7)(T:G0 (G0 P0))(i:G7):G0 (G0 P0):=Į (Ü n T) (jn n T) i
theorem Mz (n:G7)(T:G0 (G0 P0)): ∀i,∃M,wO n T i=jn n M
 |0=>⟨T,rfl⟩
 |_+1=>⟨_,rfl⟩
theorem Gi (n:G7)(T:G0 (G0 P0))(i:G7):Sq n 1 (wO n T i):=by
 obtain⟨M,e⟩:=Mz n T i;rw [e];exact Sq.mark M
theorem WS (h:Sq n e T)(hn:n<=8): ∀i,wO n T i=jn n (ww n T (i+1))
 |0=>by
  show jn n T=jn n (wW n (zU n) T);rw [Ur h hn]
 |i+1=>by
  show jn n (wW n (wO n T i) T)=jn n (wW n (ww n T (i+1)) T);rw [WS h hn i,Jf (Sq.mark (n:=n) _) h,Jf (h.pow hn (i+1)) h,yP]
def RP (n:G7)(T:G0 (G0 P0))(k i j:G7):Prop:=Î (ww n T k) i j≠0
section
variable {n e:G7}{T:G0 (G0 P0)}
theorem vB (h:Sq n e T)(hn:n<=8)(a b:G7){i j:G7}(hi:i<n)(hj:j<n):RP n T (a+b) i j↔ ∃k,k<n/\RP n T a i k/\RP n T b k j:=by
 unfold RP;rw [pow_add h hn a b];exact zn (h.pow hn a) (h.pow hn b) hi hj
theorem JK (h:Sq n e T)(hn:n<=8){c x:G7}(hx:x<n)(l:RP n T c x x): ∀q,RP n T (c*(q+1)) x x
 |0=>by rw [Y9,IC];exact l
 |q+1=>by
  rw [mB];exact(vB h hn _ _ hx hx).mpr ⟨x,hx,JK h hn hx l q,l⟩
theorem ZO {i j:G7}(hi:i<n)(hj:j<n):RP n T 0 i j↔i=j:=by
 unfold RP;show Î (zU n) i j≠0↔_;unfold zU;rw [yN hi hj]
 by_cases z:i=j
 ·simp [z]
 ·simp [z]
theorem MB (h:Sq n e T)(hn:n<=8): ∀ (m:G7) {i j:G7},i<n->j<n->RP n T m i j-> ∃v:G7->G7,v 0=i/\v m=j/\(∀t,t<=m->v t<n)/\ ∀t,t<m->RP n T 1 (v t) (v (t+1))
 |0,i,j,hi,hj,r=>by
  have:=(ZO hi hj).mp r;exact⟨λ_=>i,rfl,this,λ_ _=>hi,λt ht=>by omega⟩
 |m+1,i,j,hi,hj,r=>by
  obtain⟨k,hk,r1,r2⟩:=(vB h hn m 1 hi hj).mp r;obtain⟨v,v0,vm,vl,vr⟩:=MB h hn m hi hk r1;refine⟨λt=>if t<=m then v t else j,?_,?_,λt _=> ?_,λt ht=> ?_⟩
  ·simp [v0]
  ·show (if m+1<=m then v (m+1) else j)=j;rw [R3 (by omega)]
  ·show (if t<=m then v t else j)<n;split
   ·exact vl t (by assumption)
   ·exact hj
  ·show RP n T 1 (if t<=m then v t else j) (if t+1<=m then v (t+1) else j);rw [R5 (by omega)]
   by_cases z:t+1<=m
   ·rw [R5 z];exact vr t (by omega)
   ·rw [R3 z,show t=m by omega,vm];exact r2
theorem ZP (h:Sq n e T)(hn:n<=8){m:G7}{v:G7->G7}(vl: ∀t,t<=m->v t<n)(vr: ∀t,t<m->RP n T 1 (v t) (v (t+1)))(a:G7): ∀b,a+b<=m->RP n T b (v a) (v (a+b))
 |0,hb=>(ZO (vl a (by omega)) (vl a (by omega))).mpr rfl
 |b+1,hb=>(vB h hn b 1 (vl a (by omega)) (vl _ hb)).mpr ⟨v (a+b),vl _ (by omega),ZP h hn vl vr a b (by omega),vr (a+b) (by omega)⟩
theorem FR {n:G7}{v:G7->G7}(hv: ∀t,t<=n->v t<n): ∃a b,a<b/\b<=n/\v a=v b:=by
 by_cases z: ∃a b,a<b/\b<=n/\v a=v b
 ·exact z
 ·exfalso;have nd:((P4 (n+1)).map v).Nodup:=by
   unfold oW;rw [Y0];refine List.Pairwise.imp_of_mem (λ{a b} _ hb hab=> ?_) (List.pairwise_lt_range (n:=n+1));intro e;exact z ⟨a,b,hab,by have:=S0.mp hb;omega,e⟩
  have:=yQ nd (m:=P4 n) λx hx=>by
   obtain⟨t,ht,e⟩:=R9.mp hx;rw [<-e];exact S0.mpr (hv t (by have:=S0.mp ht;omega))
  simp at this;omega
theorem OV (h:Sq n e T)(h6:n<=6){m i j:G7}(hm:n<=m)(hi:i<n)(hj:j<n)(r:RP n T m i j):RP n T (m+60) i j:=by
 have hn:n<=8:=by omega
 obtain⟨v,v0,vm,vl,vr⟩:=MB h hn m hi hj r;obtain⟨a,b,hab,hbn,eq⟩:=FR (n:=n) (v:=v) λt ht=>vl t (by omega)
 have ha:=vl a (by omega);have p1:RP n T a i (v a):=by have:=ZP h hn vl vr 0 a (by omega);rw [v0,Y9] at this;exact this
 have p2:RP n T (b-a) (v a) (v a):=by
  have:=ZP h hn vl vr a (b-a) (by omega);rw [show a+(b-a)=b by omega,<-eq] at this;exact this
 have p3:RP n T (m-a) (v a) j:=by
  have:=ZP h hn vl vr a (m-a) (by omega);rw [show a+(m-a)=m by omega,vm] at this;exact this
 have p4:RP n T 60 (v a) (v a):=by
  have hc:b-a=1\/b-a=2\/b-a=3\/b-a=4\/b-a=5\/b-a=6:=by omega
  rcases hc with c|c|c|c|c|c<;>rw [c] at p2
  ·exact JK h hn ha p2 59
  ·exact JK h hn ha p2 29
  ·exact JK h hn ha p2 19
  ·exact JK h hn ha p2 14
  ·exact JK h hn ha p2 11
  ·exact JK h hn ha p2 9
 have p5:RP n T (60+(m-a)) (v a) j:=(vB h hn _ _ ha hj).mpr ⟨v a,ha,p4,p3⟩;have p6:RP n T (a+(60+(m-a))) i j:=(vB h hn _ _ hi hj).mpr ⟨v a,ha,p1,p5⟩;rw [show a+(60+(m-a))=m+60 by omega] at p6;exact p6
end
theorem Jg {f g:G7->P0}(h: ∀k,k<n->f k<=g k):jN n f<=jN n g:=by
 induction n with
 |zero=>exact nE _
 |succ n ih=>rw [jy,jy];have:=ih λk hk=>h k (by omega);have:=h n (by omega);omega
theorem VF {f g:G7->P0}(h: ∀k,k<n->f k<=g k)(e:jN n g<=jN n f): ∀k,k<n->f k=g k:=by
 induction n with
 |zero=>intro k hk;omega
 |succ n ih=>
  rw [jy,jy] at e;have a:=Jg λk (hk:k<n)=>h k (by omega)
  have b:=h n (by omega);intro k hk
  by_cases z:k=n
  ·subst z;omega
  ·exact ih (λk hk=>h k (by omega)) (by omega) k (by omega)
section
variable {n e:G7}{T:G0 (G0 P0)}
def tot (n:G7)(T:G0 (G0 P0))(k:G7):P0:=jN n λi=>jN n λj=>Î (jn n (ww n T k)) i j
theorem ZQ {M:G0 (G0 P0)}{i j:G7}(hi:i<n)(hj:j<n):Î (jn n M) i j=if Î M i j=0 then 0 else 1:=yN hi hj
theorem OW (h:Sq n e T)(h6:n<=6){m:G7}(hm:n<=m): ∀i j,i<n->j<n->Î (jn n (ww n T m)) i j<=Î (jn n (ww n T (m+60))) i j:=λi j hi hj=>by
 rw [ZQ hi hj,ZQ hi hj]
 by_cases z:Î (ww n T m) i j=0
 ·rw [R5 z];split<;>omega
 ·rw [R3 z,R3 (OV h h6 hm hi hj z)];exact nE _
theorem Cj (h:Sq n e T)(h6:n<=6){m:G7}(hm:n<=m):jn n (ww n T m)=jn n (ww n T (m+60))\/tot n T m+1<=tot n T (m+60):=by
 have le:=OW h h6 hm;have a:tot n T m<=tot n T (m+60):=Jg λi hi=>Jg λj hj=>le i j hi hj
 by_cases z:tot n T (m+60)<=tot n T m
 ·left;refine(Sq.mark (n:=n) _).ext (Sq.mark (n:=n) _) λi j hi hj=> ?_
  have b:=VF (λi hi=>Jg λj hj=>le i j hi hj) z i hi;exact VF (λj hj=>le i j hi hj) (by rw [b];exact nE _) j hj
 ·right;omega
theorem XN (k:G7)(h6:n<=6):0<=tot n T k/\tot n T k<=36:=by
 have r: ∀i,i<n->0<=(jN n λj=>Î (jn n (ww n T k)) i j)/\(jN n λj=>Î (jn n (ww n T k)) i j)<=6:=λi hi=>by
  have a: ∀j,j<n->0<=Î (jn n (ww n T k)) i j/\Î (jn n (ww n T k)) i j<=1:=λj hj=>by
   rw [ZQ hi hj];split<;>omega
  refine⟨Zj λj hj=>(a j hj).1,?_⟩;have:=Uq (f:=λj=>Î (jn n (ww n T k)) i j) λj hj=>(a j hj).2
  omega
 refine⟨Zj λi hi=>(r i hi).1,?_⟩;have b:=Uq (f:=λi=>jN n λj=>Î (jn n (ww n T k)) i j) λi hi=>(r i hi).2
 unfold tot;omega
theorem VG (h:Sq n e T)(h6:n<=6): ∃t,t<=36/\jn n (ww n T (n+60*t))=jn n (ww n T (n+60*(t+1))):=by
 by_cases z: ∃t,t<=36/\jn n (ww n T (n+60*t))=jn n (ww n T (n+60*(t+1)))
 ·exact z
 ·exfalso;have g: ∀t:G7,t<=37->(t:P0)<=tot n T (n+60*t):=by
   intro t
   induction t with
   |zero=>intro _;exact(XN _ h6).1
   |succ t ih=>
    intro ht;have a:=ih (by omega);rcases Cj h h6 (m:=n+60*t) (by omega) with b|b
    ·exact(z ⟨t,by omega,by rw [b];rfl⟩).elim
    ·have e1:n+60*t+60=n+60*(t+1):=by omega
     rw [e1] at b;omega
  have a:=g 37 (P5 _);have b:=(XN (T:=T) (n+60*37) h6).2;omega
theorem MC (h:Sq n e T)(h1:1<=n)(h6:n<=6){L:G7}(nd:((P4 L).map (wO n T)).Nodup):L<=2225:=by
 by_cases z:L<=2225
 ·exact z
 ·exfalso;obtain⟨t,ht,eq⟩:=VG h h6;have e1:wO n T (n+60*t-1)=wO n T (n+60*t+59):=by
   rw [WS h (by omega),WS h (by omega),show n+60*t-1+1=n+60*t by omega,show n+60*t+59+1=n+60*(t+1) by omega];exact eq
  have inj:=nd;unfold oW at inj;rw [Y0] at inj;have h2:=V8.mp inj (n+60*t-1) (n+60*t+59) (by simp;omega) (by simp;omega) (by omega);simp only [List.getElem_range] at h2;exact h2 e1
structure ű (n:G7)(T:G0 (G0 P0))(L J:G7):Prop where
 nd:((P4 L).map (wO n T)).Nodup
 lt:J<L
 eq:wO n T L=wO n T J
theorem Ku {L a b:G7}{f:G7->G0 (G0 P0)}(nd:((P4 L).map f).Nodup)(hab:a<b)(hb:b<L):f a≠f b:=by
 unfold oW at nd;rw [Y0] at nd;have h2:=V8.mp nd a b (by simp;omega) (by simp;omega) hab;simpa using h2
end
structure ĉ (n:G7)(h0 h:HD)(p R:P1)(rs:G0 P1):Prop where
 at_:h R=some (rs.map D.lst)
 len:rs.length=n
 nR:R ∉ rs
 fR:h0 R=none
 np:p ∉ rs
 nRp:R≠p
 row: ∀a∈rs,h0 a=none/\ ∃r,h a=some (r.map D.int)/\yY n r
section
variable {n:G7}{h0 h:HD}{p R:P1}{rs:G0 P1}
theorem ĉ.pen (g:ĉ n h0 h p R rs)(ds:G0 D):ĉ n h0 (wg h p ds) p R rs:=
 ⟨jj g.nRp g.at_,g.len,g.nR,g.fR,g.np,g.nRp,λa ha=>⟨(g.row a ha).1,let ⟨r,e,gr⟩:=(g.row a ha).2;⟨r,jj (λz=>g.np (z ▸ ha)) e,gr⟩⟩⟩
theorem ĉ.new (g:ĉ n h0 h p R rs){q:P1}(f:h q=none)(ds:G0 D):ĉ n h0 (wg h q ds) p R rs:=
 ⟨ji g.at_ f,g.len,g.nR,g.fR,g.np,g.nRp,λa ha=>⟨(g.row a ha).1,let ⟨r,e,gr⟩:=(g.row a ha).2;⟨r,ji e f,gr⟩⟩⟩
theorem ĉ.pick (g:ĉ n h0 h p R rs){i:G7}(hi:i<n): ∃a r,Ē (rs.map D.lst) (i:P0)=some (.lst a)/\a∈rs/\h a=some (r.map D.int)/\yY n r/\h0 a=none/\a≠p:=by
 have hi':i<rs.length:=by rw [g.len];exact hi
 have hm:=N6 hi';obtain⟨f,r,e,gr⟩:=g.row _ hm;exact⟨rs[i],r,wY (by rw [D1,G2 hi'];rfl),hm,e,gr,f,λz=>g.np (z ▸ hm)⟩
theorem ĉ.set (g:ĉ n h0 h p R rs){a:P1}{r:G0 P0}(ha:a∈rs)(e:h a=some (r.map D.int))(gr:yY n r){j:G7}{v:P0}(v0:0<=v)(v1:v<=1000000):ĉ n h0 (wg h a ((r.map D.int).set j (.int v))) p R rs:=by
 refine⟨jj (λz=>g.nR (z ▸ ha)) g.at_,g.len,g.nR,g.fR,g.np,g.nRp,λb hb=>⟨(g.row b hb).1,?_⟩⟩
 by_cases z:b=a
 ·subst z;refine⟨r.set j v,by rw [jc,List.map_set],by rw [rB];exact gr.1,λx hx=> ?_⟩;rcases List.mem_or_eq_of_mem_set hx with y|y
  ·exact gr.2 x y
  ·subst y;exact⟨v0,v1⟩
 ·obtain⟨r',e',gr'⟩:=(g.row b hb).2;exact⟨r',jj z e',gr'⟩
theorem ĉ.tab (g:ĉ n h0 h p R rs): ∃T,ī n T/\(rs.map λa=>D.tup ((h a).getD []))=T.map ym:=by
 have key: ∀l:G0 P1,(∀a∈l,∃r,h a=some (r.map D.int)/\yY n r)-> ∃T:G0 (G0 P0),T.length=l.length/\(∀r∈T,yY n r)/\(l.map λa=>D.tup ((h a).getD []))=T.map ym:=by
  intro l
  induction l with
  |nil=>intro _;exact⟨[],rfl,by simp,rfl⟩
  |cons a l ih=>
   intro hl;obtain⟨T,a1,a2,a3⟩:=ih λb hb=>hl b (D7 _ hb)
   obtain⟨r,e,gr⟩:=hl a P6;refine⟨r::T,by simp [a1],λx hx=> ?_,?_⟩
   ·rcases T3.mp hx with z|z
    ·subst z;exact gr
    ·exact a2 x z
   ·rw [M7,M7,a3,e];rfl
 obtain⟨T,a1,a2,a3⟩:=key rs λa ha=>(g.row a ha).2
 exact⟨T,⟨by rw [a1,g.len],a2⟩,a3⟩
end
theorem Gj (ho:Ĥ n o){i:G7}(hi:i<n): ∃k,k<n/\Ē (o.map λ(k:G7)=>D.int (k:P0)) (i:P0)=some (.int (k:P0)):=by
 have hi':i<o.length:=by rw [ho.ord.len];exact hi
 refine⟨o[i],S0.mp (ho.mem_iff.mp (N6 hi')),wY (by rw [D1,G2 hi'];rfl)⟩
theorem Ck (ho:Ĥ n o)(hn:1<=n): ∃k,k<n/\Ē (o.map λ(k:G7)=>D.int (k:P0)) (-1)=some (.int (k:P0)):=by
 have hl:=ho.ord.len;have hi':n-1<o.length:=by omega
 refine⟨o[n-1],S0.mp (ho.mem_iff.mp (N6 hi')),?_⟩;unfold Ē Ŭ;rw [G1,hl,R3 (by decide),R5 (by omega)];show (o.map λ(k:G7)=>D.int (k:P0))[(-1+(n:P0)).toNat]? =_;rw [show (-1+(n:P0)).toNat=n-1 by omega,D1,G2 hi'];rfl
theorem MD (h:i<n):Ŭ n (i:P0)=some i:=by
 unfold Ŭ;simp;omega
theorem SV {L J:G7}(c:ű n T L J){i:G7}(hi:J<=i):wO n T (J+(i-J)%(L-J))=wO n T i:=Mu c.eq c.lt hi
theorem Dy {A:B2}(hh:A.handled=none)(it t:P1)(items:M8 G3)(n:G7)(hn:items.size<=n):
 Draws prog w A it [it,t] n (λ_ _=>False) (λi h=>i=n/\h.IsListIter it t n/\h.IsList t items) where
 live:=λ_ _ st=>let ⟨o,ho,_⟩:=st.2.1;⟨o,ho⟩
 frame:=λ_ _ _ st hk=>⟨st.1,st.2.1.at λo e=>hk it (by simp) o e,st.2.2.at λo e=>hk t (by simp) o e⟩
 item:=λi s Q E hi st hQ=>absurd st.1 (N3 hi)
 done:=λs Q E st hE=>wpAny_nextOf_list_end hh st.2.1 st.2.2 (Array.getElem?_eq_none hn) hE
def Kv (K:G5)(a:P1):It:=
 ⟨λi H=> ∃xs x,ò K H a xs/\xs[i]? =some x,λi H x H'=> ∃p v,H p=none/\(∀xs,ò K H a xs->xs[i]? =some v)/\x= .ref p/\H'=upd H p (.tup [.int i,v]),λi H=> ∃xs,ò K H a xs/\xs.length<=i⟩
theorem Dz {P:T7}{es:G0 T8}{k:G7}{pos:Pos}(a it e:P1)(hei:e≠it)(hae:a≠e)(hai:a≠it):Ŝ P w K (.Tuple es k pos) (Kv K a) [e,it] e (λi h=>(∃old,IsEnum h e it i old)/\h.IsListIter it a i) where
 mem:=by simp
 obj:=λi h st b hb=>by
  rcases T3.mp hb with z|z
  ·subst z;obtain⟨old,q⟩:=st.1;exact⟨_,q,λv z=>by cases z⟩
  ·have z:=G9.mp z;subst z;obtain⟨o,q,c,d⟩:=st.2;exact⟨o,q,λv z=>by rw [d] at z;cases z⟩
 keep:=λi h h' st k=>⟨let ⟨old,q⟩:=st.1;⟨old,k e (by simp) _ q⟩,st.2.at λo q=>k it (by simp) o q⟩
 item:=by
  intro X hP hw hK hc i À s σ H E I hf st hg;subst hP hw hK;obtain⟨xs,x,hq,hx⟩:=hg;obtain⟨its,rv,p,hz⟩:=I.list hq;obtain⟨u,hu,ru⟩:=rv.get hx;have hi:i<its.toArray.size:=by have:=(P8.mp hu).1;simpa using this
  obtain⟨old,he⟩:=st.1;have X0W:e<s.heap.objs.size:=R7 he;refine wpAny_pyNext_enum_itemD (Draws.list (prog:=X.prog) (w:=X.w) (A:=X.A.in1) (I.ok.hd hc) it a hai its.toArray) he ⟨st.2,p.isList⟩ hi hei (by simp [hei,E4 hae]) λx' h' tk ă ho hs' hT hsz hk=> ?_
  have ex:x'=u:=B9 (ă.symm.trans (show its.toArray[i]? =some u by simpa using hu));subst ex;refine⟨_,rfl,wpAny_letOwnedTupleGo_enum ho λh2 he2 hs2=> ?_⟩;have hn:H s.heap.objs.size=none:=I.hok.fresh (P5 _);have hT2:h2.get? s.heap.objs.size=some {cls:= .type "tuple",data:= .seq #[.int i tk,x']}:=(hs2.2 _ (U5 X0W)).trans hT;refine⟨.ref s.heap.objs.size,upd H s.heap.objs.size (.tup [.int i,x]),?_,rfl,⟨_,x,hn,λys hy=>by rw [I.list_inj hy hq];exact hx,rfl,rfl⟩,⟨⟨x',by simpa using he2⟩,hs'.1.at λo y=>(hs2.2 it (E4 hei)).trans y⟩,λb hb=> ?_⟩
  ·refine I.turnLaid (h':=h2) (t':=tk+1) (ch:= [e,it]) (λb u hb q=> ?_) hf (P5 _) ⟨by show 2<=sizeLine;decide,[.int i tk,x'],.cons ⟨tk,rfl⟩ (.cons ru .nil),⟨_,hT2,rfl,rfl,_,rfl⟩⟩;have b1:b≠e:=λz=>hb (by simp [z])
   have b2:b≠it:=λz=>hb (by simp [z])
   exact(hs2.2 b b1).trans (hk b u b1 b2 q)
  ·have f:=(hf b hb).1;have:b≠s.heap.objs.size:=λz=>by
    rcases T3.mp hb with w|w
    ·rw [<-w,z] at X0W;exact absurd X0W (A4 _)
    ·have w:=G9.mp w;obtain⟨o,ho',_⟩:=st.2;have:=R7 ho';rw [<-w,z] at this;exact absurd this (A4 _)
   rw [jt this];exact f
 done:=by
  intro X hP hw hK hc i À s σ H E I hf st hg;subst hP hw hK;obtain⟨xs,hq,hx⟩:=hg;obtain⟨its,rv,p,hz⟩:=I.list hq;obtain⟨old,he⟩:=st.1;have hl:=rv.length;refine wpAny_pyNext_enum_endD (Dy (prog:=X.prog) (w:=X.w) (A:=X.A.in1) (I.ok.hd hc) it a its.toArray i (by simp;omega)) he ⟨rfl,st.2,p.isList⟩ λh' ă=>⟨rfl,I.turnL (t':=s.toks) (ch:= [it]) (λb o hb q=>ă b o (λz=>hb (by simp [z])) q) λb hb=>hf b (D7 _ hb)⟩
 self:=λ_ _ _ _ _ st h=>let ⟨_,q⟩:=st.1;pS q h
section
variable {X:Cx}
def SW (K:G5)(ta:TA):TI:=λσ H R=>ta σ H λvs H1=> ∃a,vs= [.ref a]/\(∃xs,ò K H1 a xs)/\R (Kv K a) H1
theorem Cl {es:G0 T8}{k:G7}{tp:Pos}{a:T8}{ta:TA}{p pos:Pos}(hg:Gl X "enumerate")(hm:X.mg "enumerate" =none)(ha:PA X [a] ta)(hs:R6 [a] X.env= [(false,A0 a X.env)]:=by rfl):
 PI X (.Tuple es k tp) (.Call (.Name "enumerate" p) [a] [] pos) (SW X.K ta):=by
 intro À s σ H R I h;refine Call_ (Vr I hg hm (show Q1 "enumerate" =some (.type "enumerate") by decide +kernel) (Y6 (Ô (ha pos À s σ H _ I h) λus s1 ⟨vs,H1,I1,r1,q1⟩=> ?_) hs rfl));obtain⟨a,e,⟨xs,hq⟩,q⟩:=q1;subst e;cases r1 with
 |cons r rr=>
  cases rr;cases r;obtain⟨its,rv,p,hz⟩:=I1.list hq;have hlt:a<s1.heap.objs.size:=by obtain⟨o,ho,_⟩:=p.isList;exact R7 ho
  refine call_enumerate_list p.isList λh' he hit _ hk=> ?_
  refine pS he ?_;refine⟨s1.heap.objs.size+1,[s1.heap.objs.size+1,s1.heap.objs.size],_,_,H1,rfl,I1.kept (t':=s1.toks) hk,Dz a s1.heap.objs.size (s1.heap.objs.size+1) (U5 (Z6 _)) (N3 (i4 hlt)) (N3 hlt),⟨⟨_,he⟩,hit⟩,λb hb=> ?_,q⟩;have Κ:s1.heap.objs.size<=b:=by
   rcases T3.mp hb with w|w
   ·rw [w];exact IE _
   ·rw [G9.mp w];exact P5 _
  exact I1.fpOk Κ (I1.hok.fresh Κ)
end
def iEL (ta:TAD):TID:=λσ h R=>ta σ h λxs h1=> ∃a,xs= [.lst a]/\R (λh=>(h a).map Yp) h1
section
variable {K:G5}
theorem DA (H:Hp)(a:P1):BL K H (λh=>(h a).map Yp) (Kv K a):=λH' h' k rh ds' e i=>by
 have e:(h' a).map Yp=some ds':=e;cases hd:h' a with
 |none=>rw [hd] at e;cases e
 |some ds=>
  rw [hd] at e;cases e;obtain⟨vs,Ů,r'⟩:=rh a ds hd;refine⟨λd hd=> ?_,λhl=>⟨vs,ò.of Ů,by rw [<-r'.length,<-yb];exact hl⟩⟩;obtain⟨x,hx,ed⟩:=WQ hd;subst ed;obtain⟨v,e1,e2⟩:=r'.get hx;refine⟨⟨vs,v,ò.of Ů,e1⟩,λx' Ġ ⟨p,v',hp,ă,ex,eH⟩=> ?_⟩;subst ex eH;have ev:v'=v:=by have:=ă vs (ò.of Ů);rw [e1] at this;exact(B9 this).symm
  subst ev;have k2:Kept H' (upd H' p (.tup [.int i,v'])):= .new hp;exact⟨k2,É.new rh hp,p,[.int i,v'],rfl,jw,_,_,rfl,rfl,_,_,rfl,e2.mono k2,rfl⟩
theorem Cm {ta:TAD}: ∀σ H R,LI K (iEL ta) σ H R->SW K (LA K ta) σ H R:=λσ H R ⟨Æ,h,Rd,rs,rh,q,p⟩=>
 LA.bind rs rh q λds vs h1 H1 k1 Ø Í r1 ⟨a,e,q1⟩=>by
  subst e;obtain⟨v,e,r2⟩:=jQ r1;obtain⟨e',ws,hv⟩:=(show v= .ref a/\ ∃vs,H1 a=some (.lst vs) from r2);subst e';exact⟨a,e,⟨ws,ò.of hv⟩,p _ _ _ _ k1 Í (DA H1 a) q1⟩
end
section
variable {X:Cx}
theorem Zl {es:G0 T8}{k:G7}{tp:Pos}{a:T8}{ta:TAD}{p pos:Pos}(hg:Gl X "enumerate")(hm:X.mg "enumerate" =none)(ha:JA X [a] ta)(hs:R6 [a] X.env= [(false,A0 a X.env)]:=by rfl):
 JI X (.Tuple es k tp) (.Call (.Name "enumerate" p) [a] [] pos) (iEL ta):=⟨(Cl hg hm ha.to hs).imp Cm⟩
end
section
variable {n e f:G7}{M T U:G0 (G0 P0)}
theorem Yq (h:Sq n e T)(g:Sq n f U):jn n (wW n (jn n T) U)=jn n (wW n T U):=by
 rw [Jf (Sq.mark (n:=n) T) g,yP,<-Jf h g]
theorem Yr (h:Sq n e T)(g:Sq n f U):jn n (wW n T (jn n U))=jn n (wW n T U):=by
 rw [Jf h (Sq.mark (n:=n) U),yP,<-Jf h g]
end
def zB (n:G7)(Ts:G0 (G0 (G0 P0)))(M:G0 (G0 P0))(W:G0 G7):G0 (G0 P0):=W.foldl (λM i=>Ü n (Ts.getD i []) M) M
structure Ä (n:G7)(Ts:G0 (G0 (G0 P0))):Prop where
 n1:1<=n
 n3:n<=3
 l1:1<=Ts.length
 l3:Ts.length<=3
 sq: ∀T∈Ts,Sq n 20 T
theorem Ä.get {Ts:G0 (G0 (G0 P0))}(h:Ä n Ts){i:G7}(hi:i<Ts.length):Sq n 20 (Ts.getD i []):=by
 rw [S1,G2 hi];exact h.sq _ (N6 hi)
theorem Ys {Ts:G0 (G0 (G0 P0))}(h:Ä n Ts){i:G7}(hi:i<Ts.length):Ē (Ts.map jg) ((i:G7):P0)=some (jg (Ts.getD i [])):=
 wY (by rw [D1,S1,G2 hi];rfl)
section
variable {n:G7}{Ts:G0 (G0 (G0 P0))}
theorem VH (M:G0 (G0 P0))(hM:Sq n 1 M): ∀W:G0 G7,Sq n 1 (zB n Ts M W):=λW=>by
 induction W generalizing M with
 |nil=>exact hM
 |cons i W ih=>exact ih _ (Sq.mark _)
theorem Pi {M:G0 (G0 P0)}(e:jn n M=M): ∀W:G0 G7,jn n (zB n Ts M W)=zB n Ts M W:=λW=>by
 induction W generalizing M with
 |nil=>exact e
 |cons i W ih=>exact ih (yP _)
theorem Cn:jn n (zU n)=zU n:=by
 unfold jn zU;refine WO λi j hi hj=> ?_
 rw [yN hi hj];split<;>simp_all
theorem JL (M:G0 (G0 P0))(V W:G0 G7):zB n Ts M (V++W)=zB n Ts (zB n Ts M V) W:=dY
theorem Pj (hT:Ä n Ts){M:G0 (G0 P0)}(hM:Sq n 1 M)(e:jn n M=M): ∀W:G0 G7,(∀i∈W,i<Ts.length)->Ü n (zB n Ts (zU n) W) M=zB n Ts M W:=by
 have hn:n<=8:=by have:=hT.n3;omega
 have go: ∀ (W:G0 G7) (P:G0 (G0 P0)),Sq n 1 P->(∀i∈W,i<Ts.length)->Ü n (zB n Ts P W) M=zB n Ts (Ü n P M) W:=by
  intro W
  induction W with
  |nil=>intro P _ _;rfl
  |cons i W ih=>
   intro P hP hW;have hi:=hT.get (hW i P6);show Ü n (zB n Ts (Ü n (Ts.getD i []) P) W) M=zB n Ts (Ü n (Ts.getD i []) (Ü n P M)) W;rw [ih (Ü n (Ts.getD i []) P) (Sq.mark _) λj hj=>hW j (D7 _ hj)]
   congr 1
   show jn n (wW n M (jn n (wW n P (Ts.getD i []))))=jn n (wW n (jn n (wW n M P)) (Ts.getD i []));rw [Yr hM (hP.mul hi hn),Yq (hM.mul hP hn) hi,mul_assoc hM hP hi hn]
 intro W hW;rw [go W _ (Sq.one n) hW];have:Ü n (zU n) M=M:=by
  show jn n (wW n M (zU n))=M;rw [Us hM hn];exact e
 rw [this]
end
section
variable {n:G7}{S A:G0 (G0 P0)}
def Jh (n:G7)(S A:G0 (G0 P0))(i:G7):G0 (G0 P0):=Į (Ü n A) S i
theorem Uv (hS:Sq n 1 S)(e:jn n S=S)(hA:Sq n 1 A)(hn:n<=8): ∀i,Jh n S A i=jn n (wW n S (ww n A i))
 |0=>by
  show S=jn n (wW n S (zU n));rw [Us hS hn,e]
 |i+1=>by
  show jn n (wW n (Jh n S A i) A)=jn n (wW n S (wW n (ww n A i) A));rw [Uv hS e hA hn i,Yq (hS.mul (hA.pow hn i) hn) hA,mul_assoc hS (hA.pow hn i) hA hn]
theorem OX (hS:Sq n 1 S): ∀i,Sq n 1 (Jh n S A i)
 |0=>hS
 |_+1=>Sq.mark _
theorem Kw (hS:Sq n 1 S)(e:jn n S=S)(hA:Sq n 1 A)(h6:n<=6){L:G7}(nd:((P4 L).map (Jh n S A)).Nodup):L<=2226:=by
 have hn:n<=8:=by omega
 by_cases z:L<=2226
 ·exact z
 ·exfalso;obtain⟨t,ht,eq⟩:=VG hA h6;have e1:Jh n S A (n+60*t)=Jh n S A (n+60*(t+1)):=by
   rw [Uv hS e hA hn,Uv hS e hA hn,<-Yr hS (hA.pow hn _),eq,Yr hS (hA.pow hn _)]
  exact Ku nd (by omega) (by omega) e1
open Classical in
noncomputable def Wu (n:G7)(S A:G0 (G0 P0)):N2:=decide (∀i,jm (Jh n S A i)=false)
theorem Co {i:G7}(h:jm (Jh n S A i)=true):Wu n S A=false:=by
 unfold Wu;exact @R8 _ (lG _) λz=>by rw [z i] at h;cases h
theorem XO {L J:G7}(hJ:J<L)(e:Jh n S A L=Jh n S A J)(h: ∀i,i<L->jm (Jh n S A i)=false):Wu n S A=true:=by
 unfold Wu;refine @D2 _ (lG _) λi=> ?_
 by_cases z:i<L
 ·exact h i z
 ·have:=Mu (f:=Ü n A) (x:=S) (k:=i) e hJ (by omega);have b:=oX (i-J) (show 0<L-J by omega);rw [show Jh n S A i=Jh n S A (J+(i-J)%(L-J)) from this.symm];exact h _ (by omega)
end
def yE (d:D)(a b:P0):N2:=match d with
 | .int x=>decide (a<=x)&&decide (x<=b)
 |_=>false
def Gk (d:D)(m:P0):N2:=match d with
 | .tup es=>es.all λx=>yE x 0 (m-1)
 |_=>false
def QN (d:D)(m lo hi:P0):N2:=match d with
 | .tup es=>(es.all λx=>yE x 0 (m-1))&&(decide (lo<=(es.length:P0))&&decide ((es.length:P0)<=hi))
 |_=>false
def ME:D->G7
 | .int x=>x.toNat
 |_=>0
def we:D->G0 G7
 | .tup es=>es.map ME
 |_=> []
theorem Pk {d:D}{m:G7}{lo hi:P0}(h:QN d m lo hi=true):d=zt (we d)/\(∀i∈we d,i<m)/\lo<=((we d).length:P0)/\((we d).length:P0)<=hi:=by
 cases d with
 |tup es=>
  simp only [QN,C7,T6,X7] at h;obtain⟨h1,h2,h3⟩:=h;have key: ∀x∈es,x= .int ((ME x:G7):P0)/\ME x<m:=λx hx=>by
   have:=h1 x hx;cases x with
   |int y=>
    simp only [yE,C7,X7] at this;refine⟨by show D.int y=D.int ((y.toNat:G7):P0);rw [gO this.1],by show y.toNat<m;omega⟩
   |_=>exact qN this
  refine⟨?_,λi hi=> ?_,by simpa [we] using h2,by simpa [we] using h3⟩
  ·show D.tup es=D.tup ((es.map ME).map λ(k:G7)=>D.int (k:P0));rw [R4]
   congr 1
   conv=>lhs;rw [<-W7 es]
   exact M6 λx hx=>(key x hx).1
  ·obtain⟨x,hx,e⟩:=R9.mp hi;rw [<-e];exact(key x hx).2
 |_=>exact qN h
noncomputable def Cp (n:G7)(Ts:G0 (G0 (G0 P0)))(d:D):N2:=match d with
 | .tup [x,y]=>if (QN x Ts.length 0 600&&QN y Ts.length 1 600)=true then Wu n (zB n Ts (zU n) (we x++we y)) (zB n Ts (zU n) (we y)) else false
 |_=>false
theorem VI: ∀Ts:G0 (G0 (G0 P0)),F5 (Ts.map Jo)<=5
 | []=>by simp [F5]
 |T::Ts=>by
  have:=VI Ts;have h2:=yO T;simp only [M7,F5,J1,Jo];omega
theorem Gm (Ts:G0 (G0 (G0 P0))):fK (.list (Ts.map Jo))=true:=by
 unfold fK;have h1:L9 (.list (Ts.map Jo))=true:=by simp only [L9];exact ā.lays Ts
 have h2:=VI Ts;have h3:J1 (.list (Ts.map Jo))<=64:=by simp only [J1];omega
 rw [h1,D2 h3];rfl
theorem OY {js:G0 G7}{ta:TAD}{tt:TTD}{te:TED}{σ:SD}{Q:KD}(V:G7->HD->Prop)(ht: ∀R:G0 D->HD->Prop,(∀ (n:G7) h1,V n h1->R [.int (n:P0)] h1)->ta σ h R)
 (go: ∀ (n:G7) h1,V n h1->JD (bN i) js (iR1 λ_ _ R=>R [.int (n:P0)] h1) tt te σ h Q):JD (bN i) js (iR1 ta) tt te σ h Q:=
 ht _ λn h1 v=>go n h1 v
theorem Cq {js:G0 G7}{ta:TAD}{te:TED}{σ:SD}{Q:KD}(V:G7->HD->Prop)(W:G7->G0 D->HD->Prop)(ht: ∀R:G0 D->HD->Prop,(∀ (n:G7) h1,V n h1->R [.int (n:P0)] h1)->ta σ h R)(hn: ∀n h1,V n h1->n<=1000)
 (w0: ∀n h1,V n h1->W 0 [] h1)(wl: ∀k ys h',W k ys h'->ys.length=k)(turn: ∀ (n:G7) h1,V n h1-> ∀k ys h',k<n->W k ys h'->te ((jL js σ).set i (some (.int (k:P0)))) h' λy h4=> ∃h5,Sub h5 h4/\(k+1<=n/\W (k+1) (ys++ [y]) h5))
 (done: ∀n h1,V n h1-> ∀ys h',W n ys h'->Q (.tup ys) h'):Ĩ Vy (wb (JD (bN i) js (iR1 ta) Jd te) Vd) σ h Q:=by
 show JD (bN i) js (iR1 ta) Jd te σ h (λx h1=>Vy [x] h1 Q);refine OY V ht λn h1 v=> ?_
 refine Ma (h1:=h1) n W (hn n h1 v) (λR r=>r) (w0 n h1 v) wl (turn n h1 v) (λys h' w p hp=> ?_);exact(show ∃zs,wg h' p ys p=some zs/\Q (.tup zs) (Ue (wg h' p ys) p) from ⟨_,jc,by rw [zG hp];exact done n h1 v ys h' w⟩)
end L2
set_option maxRecDepth 35000
namespace L2
open PySem PySem.Spec PyProof.Rows PySem.SeqAt
section
variable {α:Type}{i i':G7}{js:G0 G7}{ti:TID}{te:TED}{σ:SD}{h:HD}{Q:KD}{j:ItD}
theorem xA (xs:G0 α)(c c' g:α->D)(p:α->N2){tt:TTD}(hz:xs.length<=1000)(hj:j h=some (xs.map λx=> .tup [c x,c' x]))(ht: ∀R:ItD->HD->Prop,R j h->ti σ h R)
 (hp: ∀x∈xs,∀Q':N2->HD->Prop,Q' (p x) h->tt (((jL js σ).set i (some (c x))).set i' (some (c' x))) h Q')(he: ∀x∈xs,p x=true-> ∀Q':KD,Q' (g x) h->te (((jL js σ).set i (some (c x))).set i' (some (c' x))) h Q')(hq: ∀a,h a=none->Q (.lst a) (wg h a ((xs.filter p).map g))):JD (b2 i i') js ti tt te σ h Q:=by
 refine ht _ ⟨xs.length,λk ys h'=>h'=h/\ys=((xs.take k).filter p).map g,⟨rfl,by simp⟩,?_⟩;rintro k ys h' ⟨rfl,rfl⟩;refine⟨?_,_,hj,by simp,λhl a ha=> ?_,λd hd=> ?_⟩
 ·have:=Q0 p (xs.take k);simp only [G1,S8] at this ⊢;exact M5 (zk (by omega))
 ·rw [S3 (by simpa using hl)];exact hq a ha
 ·rw [D1] at hd;cases hx:xs[k]? with
  |none=>rw [hx] at hd;cases hd
  |some x=>
   rw [hx] at hd;cases hd;refine⟨_,⟨_,_,rfl,rfl⟩,?_⟩;refine hp x (P9 hx) _ ?_;cases hb:p x with
   |true=>
    rw [R5 rfl];refine he x (P9 hx) hb _ ⟨_,Sub.refl _,rfl,?_⟩;rw [B6,hx];simp [hb]
   |false=>
    rw [R3 (by decide)];refine⟨_,Sub.refl _,rfl,?_⟩;rw [B6,hx];simp [hb]
end
def Kx (T:G0 (G0 P0))(n p:G7):G0 G7:=(P4 n).filter λj=>decide (Î T p j>0)
def cnt (T:G0 (G0 P0))(n o:G7):G7->G7->P0
 |0,p=>if p=o then 1 else 0
 |t+1,p=>((Kx T n p).map (cnt T n o t)).sum
section
variable {T:G0 (G0 P0)}{n o:G7}
def xB (T:G0 (G0 P0))(n o t p:G7):G7:=(Kx T n p).findIdx λj=>decide (cnt T n o t j>0)
def nxt (T:G0 (G0 P0))(n o t p:G7):G7:=(Kx T n p).getD (xB T n o t p) 0
def gp (T:G0 (G0 P0))(n o k one:G7):G7->G7
 |0=>one
 |i+1=>nxt T n o (k-1-i) (gp T n o k one i)
end
theorem Cr {α:Type}{xs:G0 α}{x:α}(h1:1<=xs.length)(h:xs[xs.length-1]? =some x):Ē xs (-1)=some x:=by
 unfold Ē Ŭ;rw [R3 (by decide),R5 (by omega)];show xs[(-1+(xs.length:P0)).toNat]? =_;rw [show (-1+(xs.length:P0)).toNat=xs.length-1 by omega];exact h
theorem MF {α:Type}(xs:G0 α):Va xs none (some 1)=xs.take 1:=by
 unfold Va;have e1:HT.sIx xs.length 0 none=0:=rfl;have e2:HT.sIx xs.length xs.length (some 1)=min 1 xs.length:=rfl;rw [e1,e2,iD,pQ];cases xs with
 |nil=>rfl
 |cons x xs=>simp
end L2
namespace L2
open PySem PySem.Spec PyProof.Rows PySem.W
structure RN where
 nm:Str
 fs:G0 (Str×P0)
instance:Coe Str RN:=⟨λc=>⟨c,[]⟩⟩
abbrev TXD:=SD->HD->(RN->HD->Prop)->Prop
abbrev RDx:=G0 D->HD->(RN->HD->Prop)->Prop
abbrev N1:G0 Str:= ["_law_call","_law_found","_law_e","_law_word"]
end L2
namespace L2
open PySem PySem.Spec PyProof.Rows PySem.SeqAt
theorem XQ {α:Type}{p q:α->N2}: ∀ {l:G0 α},(∀x∈l,p x=true->q x=true)->(∃x,x∈l/\p x=false/\q x=true)->l.countP p+1<=l.countP q
 | [],_,⟨_,hx,_⟩=>by cases hx
 |a::l,hm,⟨x,hx,h1,h2⟩=>by
  have hm': ∀x∈l,p x=true->q x=true:=λy hy=>hm y (D7 _ hy)
  have le:l.countP p<=l.countP q:=List.countP_mono_left hm';rw [qO,qO]
  by_cases z:x=a
  ·subst z;rw [h1,h2];simp;omega
  ·have ă:x∈l:=(T3.mp hx).resolve_left z;have:=XQ hm' ⟨x,ă,h1,h2⟩
   by_cases w:p a=true
   ·rw [w,hm a P6 w];simp;omega
   ·rw [show p a=false by simpa using w];simp;omega
theorem SX {n:G7}(P:G7->G7->N2)(up: ∀m i,i<n->P m i=true->P (m+1) i=true)(st: ∀m,(∀i,i<n->P (m+1) i=P m i)-> ∀i,i<n->P (m+2) i=P (m+1) i)
 (M:G7)(hM: ∀m,M<=m-> ∀i,i<n->P m i=true)(ne: ∃i,i<n/\P 0 i=true): ∀i,i<n->P (n-1) i=true:=by
 have key: ∀m,(∀i,i<n->P m i=true)\/m+1<=(P4 n).countP (P m):=by
  intro m
  induction m with
  |zero=>
   obtain⟨i,hi,e⟩:=ne;exact .inr (List.countP_pos_iff.mpr ⟨i,S0.mpr hi,e⟩)
  |succ m ih=>
   rcases ih with ih|ih
   ·exact .inl λi hi=>up m i hi (ih i hi)
   ·by_cases eq: ∀i,i<n->P (m+1) i=P m i
    ·left;have go: ∀t i,i<n->P (m+t+1) i=P (m+t) i:=by
      intro t
      induction t with
      |zero=>exact eq
      |succ t iht=>exact st (m+t) iht
     have all: ∀t i,i<n->P (m+t) i=P m i:=by
      intro t
      induction t with
      |zero=>intro i _;rfl
      |succ t iht=>intro i hi;rw [<-iht i hi];exact go t i hi
     intro i hi;rw [eq i hi,<-all M i hi];exact hM (m+M) (by omega) i hi
    ·right;have ⟨i,hi⟩: ∃i,i<n/\P (m+1) i≠P m i:=cK λw=>eq λi hi=>cK λw2=>w ⟨i,hi,w2⟩
     have hf:P m i=false:=by
      cases hp:P m i with
      |false=>rfl
      |true=>exact absurd ((up m i hi.1 hp).trans hp.symm) hi.2
     have ht:P (m+1) i=true:=by
      cases hp:P (m+1) i with
      |true=>rfl
      |false=>exact absurd (hp.trans hf.symm) hi.2
     have:=XQ (l:=P4 n) (p:=P m) (q:=P (m+1)) (λx hx=>up m x (S0.mp hx)) ⟨i,S0.mpr hi.1,hf,ht⟩;omega
 intro i hi;rcases key (n-1) with h|h
 ·exact h i hi
 ·have hle:(P4 n).countP (P (n-1))<=(P4 n).length:=List.countP_le_length;rw [S6] at hle;have:(P4 n).countP (P (n-1))=(P4 n).length:=by rw [S6];omega
  exact List.countP_eq_length.mp this i (S0.mpr hi)
section
variable {n e:G7}{T:G0 (G0 P0)}
instance (k i j:G7):Decidable (RP n T k i j):=inferInstanceAs (Decidable (Î (ww n T k) i j≠0))
theorem Gn (h:Sq n e T)(hn:n<=8)(n2:2<=n){K:G7}(f: ∀i j,i<n->j<n->RP n T K i j)(f1: ∀i j,i<n->j<n->RP n T (K+1) i j): ∃s c,1<=s/\s<=n-1/\c<n/\RP n T s c c:=by
 refine cK λz=> ?_
 have drop: ∀m i j,i<n->j<n->n<=m->RP n T m i j->RP n T (m-n) i j:=by
  intro m i j hi hj hm r;obtain⟨v,v0,vm,vl,vr⟩:=MB h hn m hi hj r;obtain⟨a,b,hab,hbn,eq⟩:=FR (n:=n) (v:=v) λt ht=>vl t (by omega)
  have ha:=vl a (by omega);have p2:RP n T (b-a) (v a) (v a):=by
   have:=ZP h hn vl vr a (b-a) (by omega);rw [show a+(b-a)=b by omega,<-eq] at this;exact this
  have hba:b-a=n:=by
   by_cases w:b-a<=n-1
   ·exact absurd ⟨b-a,v a,by omega,w,ha,p2⟩ z
   ·omega
  have a0:a=0:=by omega
  have bn:b=n:=by omega
  subst a0;subst bn;have p3:=ZP h hn vl vr b (m-b) (by omega);rw [show b+(m-b)=m by omega,vm,<-eq,v0] at p3;exact p3
 have h0:0<n:=by omega
 have X09: ∀m,RP n T m 0 0->m%n=0:=by
  intro m
  induction m using G7.strongRecOn with
  |_ m ih=>
   intro r
   by_cases w:m<n
   ·by_cases y:m=0
    ·subst y;exact Nat.zero_mod n
    ·exact absurd ⟨m,0,by omega,by omega,h0,r⟩ z
   ·rw [Nat.mod_eq_sub_mod (by omega)];exact ih (m-n) (by omega) (drop m 0 0 h0 h0 (by omega) r)
 have a:=mC (X09 K (f 0 0 h0 h0));have b:=mC (X09 (K+1) (f1 0 0 h0 h0));have c:=(Nat.dvd_add_right a).mp b;have:=Nat.le_of_dvd (by decide) c;omega
theorem xC (h:Sq n e T)(n1:1<=n)(h6:n<=6){K:G7}(hK:1<=K)(f:jm (ww n T K)=true): ∃k,1<=k/\k<=30/\jm (ww n T k)=true:=by
 have hn:n<=8:=by omega
 have all: ∀m,K<=m-> ∀i j,i<n->j<n->RP n T m i j:=λm hm=>by
  have:=Ge h hn (a:=K) (by omega) f (m-K);rw [show K+(m-K)=m by omega] at this;exact(wN (h.pow hn m)).mp this
 have pre: ∀j,j<n-> ∃k,k<n/\RP n T 1 k j:=λj hj=>by
  have:=all (K-1+1) (by omega) 0 j (by omega) hj;obtain⟨k,hk,_,r⟩:=(vB h hn (K-1) 1 (by omega) hj).mp this;exact⟨k,hk,r⟩
 have keep: ∀i m t,i<n->(∀j,j<n->RP n T m i j)-> ∀j,j<n->RP n T (m+t) i j:=by
  intro i m t hi r
  induction t with
  |zero=>exact r
  |succ t ih=>intro j hj;obtain⟨k,hk,r1⟩:=pre j hj;exact(vB h hn (m+t) 1 hi hj).mpr ⟨k,hk,ih k hk,r1⟩
 by_cases n2:2<=n
 ·obtain⟨s,c,s1,sn,hc,rc⟩:=Gn h hn n2 (all K (P5 _)) (all (K+1) (by omega));have e1: ∀m,s*(m+1)=s+s*m:=λm=>by rw [mB];omega
  have A:=SX (n:=n) (λm j=>decide (RP n T (s*m) c j)) (λm j hj r=>D2 (by rw [e1];exact(vB h hn s (s*m) hc hj).mpr ⟨c,hc,rc,C4 r⟩))
   (λm eq j hj=>by
    have key: ∀m,RP n T (s*(m+1)) c j↔ ∃k,k<n/\RP n T (s*m) c k/\RP n T s k j:=λm=>by rw [mB];exact vB h hn (s*m) s hc hj
    have eq2: ∀k,k<n->(RP n T (s*(m+1)) c k↔RP n T (s*m) c k):=λk hk=>by simpa using eq k hk
    have:RP n T (s*(m+1+1)) c j↔RP n T (s*(m+1)) c j:=by
     rw [key (m+1),key m];exact⟨λ⟨k,hk,a,b⟩=>⟨k,hk,(eq2 k hk).mp a,b⟩,λ⟨k,hk,a,b⟩=>⟨k,hk,(eq2 k hk).mpr a,b⟩⟩
    simpa using this) K (λm hm j hj=>D2 (all _ (S5 hm (Nat.le_mul_of_pos_left m s1)) c j hc hj)) ⟨c,hc,D2 (by rw [Nat.mul_zero];exact(ZO hc hc).mpr rfl)⟩
  have í: ∀m i,((P4 (m+1)).any (λt=>decide (RP n T t i c))=true)↔ ∃t,t<=m/\RP n T t i c:=λm i=>by
   rw [E9];exact⟨λ⟨t,ht,r⟩=>⟨t,by have:=S0.mp ht;omega,C4 r⟩,λ⟨t,ht,r⟩=>⟨t,S0.mpr (by omega),D2 r⟩⟩
  have stp: ∀m i,i<n->((∃t,t<=m+1/\RP n T t i c)↔(i=c\/ ∃k,k<n/\RP n T 1 i k/\ ∃t,t<=m/\RP n T t k c)):=λm i hi=>by
   constructor
   ·rintro ⟨t,ht,r⟩;cases t with
    |zero=>exact .inl ((ZO hi hc).mp r)
    |succ t=>
     rw [lR] at r;obtain⟨k,hk,a,b⟩:=(vB h hn 1 t hi hc).mp r;exact .inr ⟨k,hk,a,t,by omega,b⟩
   ·rintro (r|⟨k,hk,a,t,ht,b⟩)
    ·exact⟨0,by omega,(ZO hi hc).mpr r⟩
    ·exact⟨1+t,by omega,(vB h hn 1 t hi hc).mpr ⟨k,hk,a,b⟩⟩
  have beq: ∀ {a b:N2},(a=true↔b=true)->a=b:=λ{a b} h=>by cases a<;>cases b<;>simp_all
  have B:=SX (n:=n) (λm i=>(P4 (m+1)).any (λt=>decide (RP n T t i c))) (λm i hi r=>by
   obtain⟨t,ht,r⟩:=(í m i).mp r;exact(í (m+1) i).mpr ⟨t,by omega,r⟩)
   (λm eq i hi=>beq (by
    have eq2: ∀k,k<n->((∃t,t<=m+1/\RP n T t k c)↔ ∃t,t<=m/\RP n T t k c):=λk hk=>by
     rw [<-í (m+1) k,<-í m k];have:=eq k hk;rw [this]
    rw [í (m+2) i,í (m+1) i,stp (m+1) i hi,stp m i hi];exact⟨λw=>w.elim .inl λ⟨k,hk,a,b⟩=> .inr ⟨k,hk,a,(eq2 k hk).mp b⟩,λw=>w.elim .inl λ⟨k,hk,a,b⟩=> .inr ⟨k,hk,a,(eq2 k hk).mpr b⟩⟩))
   K (λm hm i hi=>(í m i).mpr ⟨K,hm,all K (P5 _) i c hi hc⟩) ⟨c,hc,(í 0 c).mpr ⟨0,P5 _,(ZO hc hc).mpr rfl⟩⟩
  refine⟨(n-1)+s*(n-1),by omega,?_,(wN (h.pow hn _)).mpr λi j hi hj=> ?_⟩
  ·have a:=sQ (show s<=5 by omega) (show n-1<=5 by omega);omega
  ·obtain⟨t,ht,r⟩:=(í (n-1) i).mp (B i hi);have row: ∀j,j<n->RP n T (t+s*(n-1)) i j:=λj hj=>(vB h hn t (s*(n-1)) hi hj).mpr ⟨c,hc,r,C4 (A j hj)⟩
   have:=keep i (t+s*(n-1)) (n-1-t) hi row j hj;rw [show t+s*(n-1)+(n-1-t)=n-1+s*(n-1) by omega] at this;exact this
 ·have hn1:n=1:=by omega
  refine⟨1,P5 _,by decide,(wN (h.pow hn 1)).mpr λi j hi hj=> ?_⟩;obtain⟨k,hk,r⟩:=pre j hj;rw [show i=k by omega];exact r
end
end L2
namespace L2
open PySem PySem.Spec PyProof.Rows
def TrV (K:G5)(H:Hp):V->N2->Prop
 | .bl b,c=>c=b
 | .int i,c=>c=(i !=0)
 | .non,c=>c=false
 | .ref a,c=> ∃xs,ò K H a xs/\c= !xs.isEmpty
 |_,_=>False
def TrD (h:HD):D->N2->Prop
 | .bl b,c=>c=b
 | .int i,c=>c=(i !=0)
 | .non,c=>c=false
 | .lst a,c=> ∃ds,h a=some ds/\c= !ds.isEmpty
 |_,_=>False
theorem TrD.to {K:G5}{H:Hp}{h:HD}{d:D}{v:V}{c:N2}(t:TrD h d c)(r:Ê K H d v)(rh:É K h H):TrV K H v c:=by
 cases d<;>try exact t.elim
 ·have e:v= .non:=r;subst e;exact t
 ·have e:v= .bl _:=r;subst e;exact t
 ·have e:v= .int _:=r;subst e;exact t
 ·obtain⟨e,_⟩:=r;subst e;obtain⟨ds,hd,e⟩:=t;obtain⟨vs,hv,r'⟩:=rh _ ds hd;refine⟨vs,ò.of hv,?_⟩;rw [e];have:=r'.length;cases ds<;>cases vs<;>first|rfl|(simp at this)
section
variable {X:Cx}{À:G0 (P1×Obj)}{σ:St}{H:Hp}{s:G6}{E:G3->G6->Prop}
theorem Inv.trv {v:V}{u:G3}{c:N2}{Q:N2->G6->Prop}(I:Inv X À σ H s)(r:RelV v u)(t:TrV X.K H v c)(q: ∀s',Inv X À σ H s'->Q c s'):D9 (S2 X.prog X.w) X.A (lJ u) Q E s:=by
 cases v<;>try exact t.elim
 ·have e:u=oS:=r;subst e;have e:c=false:=t;subst e;exact truthy_none (q _ I)
 ·have e:u=bE _:=r;subst e;have e:c=_:=t;subst e;exact E5 (q _ I)
 ·obtain⟨t',e⟩:=r;subst e;have e:c=_:=t;subst e;exact truthy_int (q _ I)
 ·have e:u=F6 _:=r;subst e;obtain⟨xs,hx,e⟩:=t;obtain⟨its,rv,p,hz⟩:=I.list hx;have hl:=rv.length;have e2:c= !its.toArray.isEmpty:=by
   rw [e];cases xs<;>cases its<;>first|rfl|(simp at hl)
  refine wpAny_truthy_list p.isList ?_ ?_
  ·have:xs.length<=16777216:=S5 hz (by decide);simp only [D8];have e3:((2:P0)^63)=9223372036854775808:=by decide
   rw [e3];omega
  ·rw [<-e2];exact q _ (I.tok _)
end
section
variable {X:Cx}{a b:T8}{rest:G0 T8}{pos:Pos}
def uq (K:G5)(t:TE):TT:=λσ H Q=>t σ H λx H1=> ∃c,TrV K H1 x c/\Q c H1
theorem SY {e:T8}{t:TE}(h:PE X e t)(he: ∀whole,isTrue e X.env whole=(do let v <-whole;cV e.pos;aF [v] (lJ v)):=by intro _;rfl):PT X e (uq X.K t):=by
 intro À s σ H Q I hw;refine o9 (Ô (h À s σ H _ I hw) λv s1 ⟨x,H1,I1,r1,q1⟩=> ?_) (he _);obtain⟨c,t1,q⟩:=q1;exact I1.trv r1 t1 λs' I'=>⟨H1,I',q⟩
def ur (t:TED):TTD:=λσ h Q=>t σ h λx h1=> ∃c,TrD h1 x c/\Q c h1
variable {K:G5}
theorem SZ {t:TED}: ∀σ H Q,LT K (ur t) σ H Q->uq K (LE K t) σ H Q:=λσ H Q ⟨Æ,h,Qd,rs,rh,t,p⟩=>
 LE.bind rs rh t λd v h1 H1 k1 Ø Í r1 ⟨k,e,q⟩=>⟨k,e.to r1 Í,p k h1 H1 k1 Í q⟩
theorem Ta {ta:TED}(ha:JE X a ta)(he: ∀whole,isTrue a X.env whole=(do let v <-whole;cV a.pos;aF [v] (lJ v)):=by intro _;rfl):JT X a (ur ta):=⟨(SY ha.to he).imp SZ⟩
end
end L2
namespace L2
section
variable {n e:G7}{T:G0 (G0 P0)}
theorem MG:jn n (wj n T)=wj n (jn n T):=by
 unfold wj;refine WO λi j hi hj=> ?_
 show (if Î (ĸ n λi j=>Î T j i) i j=0 then (0:P0) else 1)=Î (jn n T) j i;rw [yN hi hj,Uu hj hi]
end
inductive Made (L:G0 G7):G7->Prop
 |z:Made L 0
 |s {n l:G7}:Made L n->l∈L->Made L (n+l)
end L2
namespace HT
open PySem PyProof.Rows
section
variable {prog:T7}{w:C1}{A:B2}{E:G3->G6->Prop}{σ α β:Type}{J:G6->Prop}
def Tm (prog:T7)(w:C1)(A:B2)(E:G3->G6->Prop)(J:G6->Prop){σ α:Type}(m:W8 σ Sem α)(Q:α->σ->Prop)(st:σ):Prop:=
 ∀s,J s->D9 (S2 prog w) A (m.run st) (λr s'=>Q r.1 r.2/\J s') E s
theorem Tm.pure {a:α}{Q:α->σ->Prop}{st:σ}(h:Q a st):Tm prog w A E J (Pure.pure a:W8 σ Sem α) Q st:=λs j=>by
 rw [StateT.run_pure];exact G8 ⟨h,j⟩
theorem Tm.bind {m:W8 σ Sem α}{f:α->W8 σ Sem β}{Q:β->σ->Prop}{st:σ}(h:Tm prog w A E J m (λa Å=>Tm prog w A E J (f a) Q Å) st):Tm prog w A E J (m >>= f) Q st:=λs j=>by
 rw [StateT.run_bind];exact wpAny_bind (M1 (h s j) (λr s' x=>x.1 s' x.2) λ_ _ e=>e)
theorem Tm.get {Q:σ->σ->Prop}{st:σ}(h:Q st st):Tm prog w A E J (MonadState.get:W8 σ Sem σ) Q st:=λs j=>by
 show D9 _ _ ((StateT.get:W8 σ Sem σ).run st) _ _ _;exact G8 ⟨h,j⟩
theorem Tm.mono {m:W8 σ Sem α}{Q Q':α->σ->Prop}{st:σ}(h:Tm prog w A E J m Q st)(q: ∀a Å,Q a Å->Q' a Å):Tm prog w A E J m Q' st:=λs j=>
 M1 (h s j) (λr s' x=>⟨q _ _ x.1,x.2⟩) λ_ _ e=>e
theorem Tm.range' {f:G7->β->W8 σ Sem (dH β)}(I:G7->β->σ->Prop){Q:β->σ->Prop}{b:G7}(step: ∀i c st,i<b->I i c st->Tm prog w A E J (f i c) (λr Å=>match r with| .done c'=>Q c' Å| .yield c'=>I (i+1) c' Å) st)(fin: ∀c st,I b c st->Q c st):
 ∀ (k i:G7) (c:β) (st:σ),i+k=b->I i c st->Tm prog w A E J (forIn (i6 i k) c f) Q st
 |0,i,c,st,e,h=>by
  rw [List.range'_zero,sR];exact .pure (fin c st (by rw [<-e];exact h))
 |k+1,i,c,st,e,h=>by
  rw [List.range'_succ,aK];refine .bind ((step i c st (by omega) h).mono λr Å x=> ?_);cases r with
  |done c'=>exact .pure x
  |yield c'=>exact Tm.range' I step fin k (i+1) c' Å (by omega) x
theorem Tm.range {f:G7->β->W8 σ Sem (dH β)}(I:G7->β->σ->Prop){Q:β->σ->Prop}{a b:G7}{c:β}{st:σ}(hab:a<=b)(h:I a c st)(step: ∀i c st,i<b->I i c st->Tm prog w A E J (f i c) (λr Å=>match r with| .done c'=>Q c' Å| .yield c'=>I (i+1) c' Å) st)(fin: ∀c st,I b c st->Q c st):
 Tm prog w A E J (forIn [a:b] c f) Q st:=λs j=>by
 rw [Std.Legacy.Range.forIn_eq_forIn_range'];have e:([a:b]:Std.Legacy.Range).size=b-a:=by simp [Std.Legacy.Range.size]
 rw [e];exact Tm.range' I step fin (b-a) a c st (by omega) h s j
end
section
variable {prog:T7}{w:C1}{A:B2}{E:G3->G6->Prop}{J:G6->Prop}{κ:SortKind}{U:D6->Prop}{R:D6->D6->N2}
def Xe (prog:T7)(w:C1)(A:B2)(J:G6->Prop)(κ:SortKind)(U:D6->Prop)(R:D6->D6->N2):Prop:=
 ∀x y,U x->U y-> ∀s,J s->D9 (S2 prog w) A (keyLt' κ x.1 y.1) (λb s'=>b=R x y/\J s') (λ_ _=>False) s
theorem Tm.lt {x y:D6}{st:C5}{Q:P7 N2->C5->Prop}(a:Xe prog w A J κ U R)(k:kindOf st=κ)(hx:U x)(hy:U y)(q:Q (some (R x y)) st):Tm prog w A E J (lt' x y) Q st:=by
 rw [lt'_eq];refine .bind (.get ?_);rw [k];intro s j;rw [StateT.run_bind];refine wpAny_bind ?_;show D9 _ _ ((StateT.lift _:W8 C5 Sem _).run st) _ _ _;rw [StateT.run_lift];refine wpAny_bind (aU (M1 (a x y hx hy s j) (λb s' x=> ?_) λ_ _ e=>e.elim));obtain⟨rfl,j'⟩:=x;exact G8 (Tm.pure (prog:=prog) (w:=w) (A:=A) (E:=E) (J:=J) q s' j')
theorem Tm.elem {arr:M8 D6}{i:G7}{x:D6}{st:C5}{Q:D6->C5->Prop}(e:arr[i]? =some x)(q:Q x st):Tm prog w A E J (elem' arr i) Q st:=by
 rw [elem'_eq,e];exact .pure q
theorem Tb {n lo hi:G7}{g:G7->N2}{st:C5}{f:G7->P7 (P7 G7)×G7×G7->W8 C5 Sem (dH (P7 (P7 G7)×G7×G7))}(ţ: ∀i j,i<=j->j<n->g j=true->g i=true)
 (h1:lo<=hi)(h2:hi<=n)(a1: ∀i,i<lo->g i=true)(a2: ∀i,hi<=i->i<n->g i=false)
 (stop: ∀i l,Tm prog w A E J (f i (none,l,l)) (λr Å=>Å=st/\r= .done (none,l,l)) st)
 (step: ∀i l u,l<u->u<=n->Tm prog w A E J (f i (none,l,u)) (λr Å=>Å=st/\r=if g (l+(u-l) / 2)=true then .yield (none,l+(u-l) / 2+1,u) else .yield (none,l,l+(u-l) / 2)) st):
 Tm prog w A E J (forIn [0:n] (none,lo,hi) f) (λc Å=>Å=st/\c.1=none/\c.2.2<=n/\(∀i,i<c.2.2->g i=true)/\ ∀i,c.2.2<=i->i<n->g i=false) st:=by
 have no: ∀i j,i<=j->j<n->g i=false->g j=false:=λi j hij hj z=>by
  cases hb:g j with
  |false=>rfl
  |true=>rw [ţ i j hij hj hb] at z;cases z
 refine Tm.range (λi c Å=>Å=st/\c.1=none/\c.2.1<=c.2.2/\c.2.2<=n/\(∀i,i<c.2.1->g i=true)/\(∀i,c.2.2<=i->i<n->g i=false)/\c.2.2-c.2.1+i<=n) (B0 _) ⟨rfl,rfl,h1,h2,a1,a2,by dsimp only;omega⟩ ?_ ?_
 ·rintro i ⟨r,l,u⟩ _ hi ⟨rfl,hr,b1,b2,b3,b4,b5⟩;dsimp only at hr b1 b2 b3 b4 b5;subst hr
  by_cases z:l=u
  ·subst z;refine(stop i l).mono ?_;rintro _ _ ⟨rfl,rfl⟩;exact⟨rfl,rfl,b2,b3,b4⟩
  ·refine(step i l u (by omega) b2).mono ?_;rintro _ _ ⟨rfl,rfl⟩;cases hg:g (l+(u-l) / 2) with
   |true=>
    rw [R5 rfl];exact⟨rfl,rfl,by dsimp only;omega,b2,λj hj=>ţ j _ (by dsimp only at hj;omega) (by omega) hg,b4,by dsimp only;omega⟩
   |false=>
    rw [R3 (by decide)];exact⟨rfl,rfl,by dsimp only;omega,by dsimp only;omega,b3,λj hj hn=>no _ j hj hn hg,by dsimp only;omega⟩
 ·rintro ⟨r,l,u⟩ _ ⟨rfl,hr,b1,b2,b3,b4,b5⟩;dsimp only at hr b1 b2 b3 b4 b5 ⊢;exact⟨rfl,hr,b2,λj hj=>b3 j (by omega),b4⟩
def gal:N2->D6->M8 D6->G7->G7->G7->W8 C5 Sem (P7 G7):=sortPriv% PySem.Builtin.gallop
def į (R:D6->D6->N2)(left:N2)(key:D6)(arr:M8 D6)(base i:G7):N2:=
 match arr[base+i]? with
 |some x=>if left=true then R x key else !R key x
 |none=>false
theorem MJ {left:N2}{key:D6}{arr:M8 D6}{base n hint:G7}{st:C5}{Q:P7 G7->C5->Prop}(a:Xe prog w A J κ U R)(k:kindOf st=κ)(uk:U key)(ua: ∀i,i<n-> ∃x,arr[base+i]? =some x/\U x)
 (ţ: ∀i j,i<=j->j<n->į R left key arr base j=true->į R left key arr base i=true)(hh:hint<n)
 (q: ∀m,m<=n->(∀i,i<m->į R left key arr base i=true)->(∀i,m<=i->i<n->į R left key arr base i=false)->Q (some m) st):Tm prog w A E J (gal left key arr base n hint) Q st:=by
 have ask: ∀i (Q':P7 N2->C5->Prop),i<n->Q' (some (į R left key arr base i)) st->Tm prog w A E J (do let x <-elem' arr (base+i);if left=true then lt' x key else do let b <-lt' key x;Pure.pure (b.map λz=> !z)) Q' st:=λi Q' hi q'=>by
  obtain⟨x,ex,ux⟩:=ua i hi;refine .bind (.elem ex ?_);unfold į at q';rw [ex] at q';cases left with
  |true=>exact .lt a k ux uk q'
  |false=>exact .bind (.lt a k uk ux (.pure q'))
 have no: ∀i j,i<=j->j<n->į R left key arr base i=false->į R left key arr base j=false:=λi j hij hj z=>by
  cases hb:į R left key arr base j with
  |false=>rfl
  |true=>rw [ţ i j hij hj hb] at z;cases z
 unfold gal;refine .bind (ask hint _ hh ?_);dsimp only;cases hb:į R left key arr base hint with
 |true=>
  rw [R5 rfl];refine .bind (Tm.mono (Tm.range (λi c Å=>Å=st/\c.1=none/\c.2.1<c.2.2/\hint+c.2.1<n/\į R left key arr base (hint+c.2.1)=true/\i+1<=c.2.2)
   (Q:=λc Å=>Å=st/\c.1=none/\c.2.1<c.2.2/\hint+c.2.1<n/\į R left key arr base (hint+c.2.1)=true/\(n-hint<=c.2.2\/į R left key arr base (hint+c.2.2)=false)) (B0 _) ⟨rfl,rfl,by decide,by omega,by simpa using hb,by decide⟩ ?_ ?_) ?_)
  ·rintro i ⟨r,lo,of⟩ _ hi ⟨rfl,hr,h1,h2,h3,h4⟩;dsimp only at hr h1 h2 h3 h4 ⊢;subst hr
   by_cases z:of>=n-hint
   ·rw [R5 z];exact .pure ⟨rfl,rfl,h1,h2,h3,.inl z⟩
   ·rw [R3 z];refine .bind (ask (hint+of) _ (by omega) ?_);dsimp only;cases hc:į R left key arr base (hint+of) with
    |true=>exact .pure ⟨rfl,rfl,by dsimp only;omega,by dsimp only;omega,hc,by dsimp only;omega⟩
    |false=>exact .pure ⟨rfl,rfl,h1,h2,h3,.inr hc⟩
  ·rintro ⟨r,lo,of⟩ _ ⟨rfl,hr,h1,h2,h3,h4⟩;exact⟨rfl,hr,h1,h2,h3,.inl (by dsimp only at h4 ⊢;omega)⟩
  ·rintro ⟨r,lo,of⟩ _ ⟨rfl,hr,h1,h2,h3,h4⟩;dsimp only at hr h1 h2 h3 h4 ⊢;subst hr;dsimp only;refine .bind (Tm.mono (Tb (g:=į R left key arr base) ţ (by omega) (by omega) (λi hi=>ţ i _ (by omega) h2 h3) (λi hi hn=> ?_) (λi l=> ?_) (λi l u hl hu=> ?_)) ?_)
   ·rcases h4 with z|z
    ·omega
    ·exact no (hint+of) i (by omega) hn z
   ·rw [R5 (P5 l)];exact .pure ⟨rfl,rfl⟩
   ·rw [R3 (show ¬l>=u by omega)];refine .bind (ask (l+(u-l) / 2) _ (by omega) ?_);dsimp only;cases į R left key arr base (l+(u-l) / 2)<;>exact .pure ⟨rfl,rfl⟩
   ·rintro ⟨r,l,u⟩ _ ⟨rfl,hr,b2,b3,b4⟩;dsimp only at hr b2 b3 b4 ⊢;subst hr;exact .pure (q u b2 b3 b4)
 |false=>
  rw [R3 (by decide)];refine .bind (Tm.mono (Tm.range (λi c Å=>Å=st/\c.1=none/\c.2.1<c.2.2/\c.2.1<=hint/\į R left key arr base (hint-c.2.1)=false/\i+1<=c.2.2)
   (Q:=λc Å=>Å=st/\c.1=none/\c.2.1<c.2.2/\c.2.1<=hint/\į R left key arr base (hint-c.2.1)=false/\(hint+1<=c.2.2\/į R left key arr base (hint-c.2.2)=true)) (B0 _) ⟨rfl,rfl,by decide,by dsimp only;omega,by simpa using hb,by decide⟩ ?_ ?_) ?_)
  ·rintro i ⟨r,lo,of⟩ _ hi ⟨rfl,hr,h1,h2,h3,h4⟩;dsimp only at hr h1 h2 h3 h4 ⊢;subst hr
   by_cases z:of>=hint+1
   ·rw [R5 z];exact .pure ⟨rfl,rfl,h1,h2,h3,.inl z⟩
   ·rw [R3 z];refine .bind (ask (hint-of) _ (by omega) ?_);dsimp only;cases hc:į R left key arr base (hint-of) with
    |false=>exact .pure ⟨rfl,rfl,by dsimp only;omega,by dsimp only;omega,hc,by dsimp only;omega⟩
    |true=>exact .pure ⟨rfl,rfl,h1,h2,h3,.inr hc⟩
  ·rintro ⟨r,lo,of⟩ _ ⟨rfl,hr,h1,h2,h3,h4⟩;exact⟨rfl,hr,h1,h2,h3,.inl (by dsimp only at h4 ⊢;omega)⟩
  ·rintro ⟨r,lo,of⟩ _ ⟨rfl,hr,h1,h2,h3,h4⟩;dsimp only at hr h1 h2 h3 h4 ⊢;subst hr;dsimp only;refine .bind (Tm.mono (Tb (g:=į R left key arr base) ţ (by omega) (by omega) (λi hi=> ?_) (λi hi hn=>no _ i hi hn h3) (λi l=> ?_) (λi l u hl hu=> ?_)) ?_)
   ·rcases h4 with z|z
    ·omega
    ·exact ţ i (hint-of) (by omega) (by omega) z
   ·rw [R5 (P5 l)];exact .pure ⟨rfl,rfl⟩
   ·rw [R3 (show ¬l>=u by omega)];refine .bind (ask (l+(u-l) / 2) _ (by omega) ?_);dsimp only;cases į R left key arr base (l+(u-l) / 2)<;>exact .pure ⟨rfl,rfl⟩
   ·rintro ⟨r,l,u⟩ _ ⟨rfl,hr,b2,b3,b4⟩;dsimp only at hr b2 b3 b4 ⊢;subst hr;exact .pure (q u b2 b3 b4)
end
section
variable {κ:Type}{U:κ->Prop}{R:κ->κ->N2}{al bl:G0 κ}
structure Ù (U:κ->Prop)(R:κ->κ->N2):Prop where
 asym: ∀x y,U x->U y->R x y=true->R y x=false
 neg: ∀x y z,U x->U y->U z->R x z=true->R x y=true\/R y z=true
theorem Ù.refl (o:Ù U R){x:κ}(u:U x):R x x=false:=by
 cases h:R x x with
 |false=>rfl
 |true=>have:=o.asym x x u u h;rw [h] at this;exact this
theorem Ù.trans (o:Ù U R){x y z:κ}(ux:U x)(uy:U y)(uz:U z)(a:R y x=false)(b:R z y=false):R z x=false:=by
 cases h:R z x with
 |false=>rfl
 |true=>
  rcases o.neg z y x uz uy ux h with z|z
  ·rw [b] at z;cases z
  ·rw [a] at z;cases z
abbrev Õ (R:κ->κ->N2)(l:G0 κ):Prop:=l.Pairwise λx y=>R y x=false
structure MI (R:κ->κ->N2)(al bl:G0 κ)(ia ib:G7)(out:G0 κ):Prop where
 perm:out.Perm (al.take ia++bl.take ib)
 srt:Õ R out
 ra: ∀x∈out,∀y∈al.drop ia,R y x=false
 rb: ∀x∈out,∀y∈bl.drop ib,R y x=false
theorem zH {l:G0 κ}{i:G7}{y:κ}(h:l[i]? =some y):l.drop i=y::l.drop (i+1):=by
 obtain⟨hi,e⟩:=P8.mp h;rw [List.drop_eq_getElem_cons hi,e]
theorem Yt {l:G0 κ}{i:G7}{y:κ}(h:l[i]? =some y):l.take (i+1)=l.take i++ [y]:=by
 rw [B6,h];rfl
theorem MI.start (al bl:G0 κ):MI R al bl 0 0 []:=⟨.refl _,.nil,λx hx=>(F4 hx).elim,λx hx=>(F4 hx).elim⟩
variable {ia ib:G7}
theorem MI.pushB {out:G0 κ}{y:κ}(m:MI R al bl ia ib out)(o:Ù U R)(ua: ∀x∈al,U x)(ub: ∀x∈bl,U x)(sa:Õ R al)(sb:Õ R bl)(hy:bl[ib]? =some y)(lt: ∀z,al[ia]? =some z->R y z=true):MI R al bl ia (ib+1) (out++ [y]):=by
 have dy:=zH hy;have uy:=ub y (P9 hy);have sdb:Õ R (bl.drop ib):=sb.sublist (U9 _ _);rw [dy] at sdb;refine⟨?_,?_,λx hx z hz=> ?_,λx hx z hz=> ?_⟩
 ·rw [Yt hy,<-D4];exact m.perm.append_right _
 ·refine B1.mpr ⟨m.srt,O7 _ _,λx hx z hz=> ?_⟩;rw [G9.mp hz];exact m.rb x hx y (by rw [dy];exact P6 ..)
 ·rcases D5.mp hx with w|w
  ·exact m.ra x w z hz
  ·rw [G9.mp w];cases e:al[ia]? with
   |none=>rw [A1 (iT.mp e)] at hz;cases hz
   |some a0=>
    have da:=zH e;have ua0:=ua a0 (P9 e);have sda:Õ R (al.drop ia):=sa.sublist (U9 _ _);rw [da] at sda hz;have l0:=o.asym y a0 uy ua0 (lt a0 e);rcases T3.mp hz with v|v
    ·rw [v];exact l0
    ·exact o.trans uy ua0 (ua z (L0 v)) l0 ((W1.mp sda).1 z v)
 ·rcases D5.mp hx with w|w
  ·exact m.rb x w z (by rw [dy];exact D7 _ hz)
  ·rw [G9.mp w];exact(W1.mp sdb).1 z hz
theorem MI.pushA {out:G0 κ}{y:κ}(m:MI R al bl ia ib out)(o:Ù U R)(ua: ∀x∈al,U x)(ub: ∀x∈bl,U x)(sa:Õ R al)(sb:Õ R bl)(hy:al[ia]? =some y)(ge: ∀z,bl[ib]? =some z->R z y=false):MI R al bl (ia+1) ib (out++ [y]):=by
 have dy:=zH hy;have uy:=ua y (P9 hy);have sda:Õ R (al.drop ia):=sa.sublist (U9 _ _);rw [dy] at sda;refine⟨?_,?_,λx hx z hz=> ?_,λx hx z hz=> ?_⟩
 ·rw [Yt hy];refine(m.perm.append_right [y]).trans ?_;rw [D4,D4];exact(bM).append_left _
 ·refine B1.mpr ⟨m.srt,O7 _ _,λx hx z hz=> ?_⟩;rw [G9.mp hz];exact m.ra x hx y (by rw [dy];exact P6 ..)
 ·rcases D5.mp hx with w|w
  ·exact m.ra x w z (by rw [dy];exact D7 _ hz)
  ·rw [G9.mp w];exact(W1.mp sda).1 z hz
 ·rcases D5.mp hx with w|w
  ·exact m.rb x w z hz
  ·rw [G9.mp w];cases e:bl[ib]? with
   |none=>rw [A1 (iT.mp e)] at hz;cases hz
   |some b0=>
    have db:=zH e;have ub0:=ub b0 (P9 e);have sdb:Õ R (bl.drop ib):=sb.sublist (U9 _ _);rw [db] at sdb hz;have l0:=ge b0 e;rcases T3.mp hz with v|v
    ·rw [v];exact l0
    ·exact o.trans uy ub0 (ub z (L0 v)) l0 ((W1.mp sdb).1 z v)
theorem MI.manyA (o:Ù U R)(ua: ∀x∈al,U x)(ub: ∀x∈bl,U x)(sa:Õ R al)(sb:Õ R bl): ∀ (k:G7) {ia:G7} {out:G0 κ},MI R al bl ia ib out->ia+k<=al.length->(∀i,i<k-> ∀y,al[ia+i]? =some y-> ∀z,bl[ib]? =some z->R z y=false)->MI R al bl (ia+k) ib (out++(al.drop ia).take k)
 |0,ia,out,m,_,_=>by rw [dZ,A8];exact m
 |k+1,ia,out,m,hk,h=>by
  obtain⟨y,hy⟩: ∃y,al[ia]? =some y:=⟨_,G2 (by omega)⟩;have m1:=m.pushA o ua ub sa sb hy (h 0 (by omega) y hy);have:=MI.manyA o ua ub sa sb k m1 (by omega) (λi hi y hy=>h (i+1) (by omega) y (by rw [show ia+(i+1)=ia+1+i by omega];exact hy));rw [show ia+(k+1)=ia+1+k by omega,zH hy,cL,qP];exact this
theorem MI.manyB (o:Ù U R)(ua: ∀x∈al,U x)(ub: ∀x∈bl,U x)(sa:Õ R al)(sb:Õ R bl): ∀ (k:G7) {ib:G7} {out:G0 κ},MI R al bl ia ib out->ib+k<=bl.length->(∀i,i<k-> ∀y,bl[ib+i]? =some y-> ∀z,al[ia]? =some z->R y z=true)->MI R al bl ia (ib+k) (out++(bl.drop ib).take k)
 |0,ib,out,m,_,_=>by rw [dZ,A8];exact m
 |k+1,ib,out,m,hk,h=>by
  obtain⟨y,hy⟩: ∃y,bl[ib]? =some y:=⟨_,G2 (by omega)⟩;have m1:=m.pushB o ua ub sa sb hy (h 0 (by omega) y hy);have:=MI.manyB o ua ub sa sb k m1 (by omega) (λi hi y hy=>h (i+1) (by omega) y (by rw [show ib+(i+1)=ib+1+i by omega];exact hy));rw [show ib+(k+1)=ib+1+k by omega,zH hy,cL,qP];exact this
theorem MI.all {out:G0 κ}(m:MI R al bl al.length bl.length out):out.Perm (al++bl)/\Õ R out:=by
 have:=m.perm;rw [U0,U0] at this;exact⟨this,m.srt⟩
theorem MI.done {out:G0 κ}(m:MI R al bl ia ib out)(o:Ù U R)(ua: ∀x∈al,U x)(ub: ∀x∈bl,U x)(sa:Õ R al)(sb:Õ R bl)(ha:ia<=al.length)(hb:ib<=bl.length)(h:ia=al.length\/ib=bl.length):(out++al.drop ia++bl.drop ib).Perm (al++bl)/\Õ R (out++al.drop ia++bl.drop ib):=by
 have m1:=MI.manyA o ua ub sa sb (al.length-ia) m (by omega) (λi hi y hy z hz=>by
  have:=(P8.mp hz).1;omega)
 rw [show ia+(al.length-ia)=al.length by omega,S3 (by rw [C6];exact P5 _)] at m1;have m2:=MI.manyB o ua ub sa sb (bl.length-ib) m1 (by omega) (λi hi y hy z hz=>by
  have:=(P8.mp hz).1;omega)
 rw [show ib+(bl.length-ib)=bl.length by omega,S3 (l:=bl.drop ib) (by rw [C6];exact P5 _)] at m2;exact m2.all
theorem MI.lastA {out:G0 κ}(m:MI R al bl ia ib out)(o:Ù U R)(ua: ∀x∈al,U x)(ub: ∀x∈bl,U x)(sa:Õ R al)(sb:Õ R bl)(ha:ia+1=al.length)(hb:ib<=bl.length)(h: ∀y∈bl,∀z,al[al.length-1]? =some z->R y z=true):(out++bl.drop ib++al.drop ia).Perm (al++bl)/\Õ R (out++bl.drop ib++al.drop ia):=by
 have m2:=MI.manyB o ua ub sa sb (bl.length-ib) m (by omega) (λi hi y hy z hz=>h y (P9 hy) z (by rw [<-ha];exact hz));rw [show ib+(bl.length-ib)=bl.length by omega,S3 (by rw [C6];exact P5 _)] at m2;have m1:=MI.manyA o ua ub sa sb (al.length-ia) m2 (by omega) (λi hi y hy z hz=>by
  have:=(P8.mp hz).1;omega)
 rw [show ia+(al.length-ia)=al.length by omega,S3 (l:=al.drop ia) (by rw [C6];exact P5 _)] at m1;exact m1.all
end
section
variable {prog:T7}{w:C1}{A:B2}{E:G3->G6->Prop}{J:G6->Prop}{κ:SortKind}{U:D6->Prop}{R:D6->D6->N2}
theorem Tm.rule {σ:Type}{x:U4}{Q:Unit->σ->Prop}{st:σ}(q:Q () st):Tm prog w A E J (liftM (PySem.rule x):W8 σ Sem Unit) Q st:=λs j=>by
 show D9 _ _ ((StateT.lift _:W8 σ Sem _).run st) _ _ _;rw [StateT.run_lift];exact wpAny_bind (bF (G8 ⟨q,j⟩))
theorem Tm.modify {σ:Type}{f:σ->σ}{Q:Unit->σ->Prop}{st:σ}(q:Q () (f st)):Tm prog w A E J (_root_.modify f:W8 σ Sem PUnit) Q st:=λs j=>by
 rw [StateT.run_modify];exact G8 ⟨q,j⟩
def mLo:M8 D6->M8 D6->W8 C5 Sem (M8 D6):=sortPriv% PySem.Builtin.mergeLo
def ŗ (st Å:C5):Prop:=kindOf Å=kindOf st/\T4 Å=T4 st/\B3 Å=B3 st/\aO Å=aO st
theorem ŗ.refl (st:C5):ŗ st st:=⟨rfl,rfl,rfl,rfl⟩
theorem WT (a:M8 D6)(i:G7):(a.extract i).toList=a.toList.drop i:=by
 rw [aP,K3];exact S3 (by simp)
theorem Pl (a:M8 D6)(i k:G7):(a.extract i (i+k)).toList=(a.toList.drop i).take k:=by
 rw [aP,K3,dJ]
def Jp (R:D6->D6->N2)(a b c:M8 D6):Prop:=c.toList.Perm (a.toList++b.toList)/\Õ R c.toList
structure Two (U:D6->Prop)(R:D6->D6->N2)(a b:M8 D6):Prop where
 o:Ù U R
 ua: ∀x∈a.toList,U x
 ub: ∀x∈b.toList,U x
 sa:Õ R a.toList
 sb:Õ R b.toList
 last: ∀y∈b.toList,∀z,a.toList[a.toList.length-1]? =some z->R y z=true
abbrev MA (R:D6->D6->N2)(a b:M8 D6)(ia ib:G7)(out:M8 D6):Prop:=MI R a.toList b.toList ia ib out.toList
section
variable {a b out:M8 D6}{ia ib:G7}
theorem MA.done (t:Two U R a b)(m:MA R a b ia ib out)(ha:ia<=a.size)(hb:ib<=b.size)(h:ia=a.size\/ib=b.size):Jp R a b (out++a.extract ia++b.extract ib):=by
 have:=MI.done m t.o t.ua t.ub t.sa t.sb (by simpa using ha) (by simpa using hb) (by simpa using h);unfold Jp;rw [F7,F7,WT,WT];exact this
theorem MA.lastA (t:Two U R a b)(m:MA R a b ia ib out)(ha:ia+1=a.size)(hb:ib<=b.size):Jp R a b (out++b.extract ib++a.extract ia):=by
 have:=MI.lastA m t.o t.ua t.ub t.sa t.sb (by simpa using ha) (by simpa using hb) t.last;unfold Jp;rw [F7,F7,WT,WT];exact this
theorem MA.pushB (t:Two U R a b){y:D6}(m:MA R a b ia ib out)(hy:b.toList[ib]? =some y)(lt: ∀z,a.toList[ia]? =some z->R y z=true):MA R a b ia (ib+1) (out.push y):=by
 have:=MI.pushB m t.o t.ua t.ub t.sa t.sb hy lt;show MI R _ _ _ _ (out.push y).toList;rw [aM];exact this
theorem MA.pushA (t:Two U R a b){y:D6}(m:MA R a b ia ib out)(hy:a.toList[ia]? =some y)(ge: ∀z,b.toList[ib]? =some z->R z y=false):MA R a b (ia+1) ib (out.push y):=by
 have:=MI.pushA m t.o t.ua t.ub t.sa t.sb hy ge;show MI R _ _ _ _ (out.push y).toList;rw [aM];exact this
theorem MA.manyA (t:Two U R a b)(m:MA R a b ia ib out)(k:G7)(hk:ia+k<=a.size)(h: ∀i,i<k-> ∀y,a.toList[ia+i]? =some y-> ∀z,b.toList[ib]? =some z->R z y=false):MA R a b (ia+k) ib (out++a.extract ia (ia+k)):=by
 have:=MI.manyA t.o t.ua t.ub t.sa t.sb k m (by simpa using hk) h;show MI R _ _ _ _ (out++a.extract ia (ia+k)).toList;rw [F7,Pl];exact this
theorem MA.manyB (t:Two U R a b)(m:MA R a b ia ib out)(k:G7)(hk:ib+k<=b.size)(h: ∀i,i<k-> ∀y,b.toList[ib+i]? =some y-> ∀z,a.toList[ia]? =some z->R y z=true):MA R a b ia (ib+k) (out++b.extract ib (ib+k)):=by
 have:=MI.manyB t.o t.ua t.ub t.sa t.sb k m (by simpa using hk) h;show MI R _ _ _ _ (out++b.extract ib (ib+k)).toList;rw [F7,Pl];exact this
end
variable {arr:M8 D6}{base:G7}
theorem vC {left:N2}{key x:D6}{i:G7}(h:arr.toList[base+i]? =some x):į R left key arr base i=if left=true then R x key else !R key x:=by
 unfold į;rw [<-C3,h]
theorem Yu {l:G0 D6}(s:Õ R l)(o:Ù U R)(u: ∀x∈l,U x){i j:G7}{x y:D6}(hij:i<=j)(hx:l[i]? =some x)(hy:l[j]? =some y):R y x=false:=by
 by_cases z:i=j
 ·subst z;rw [hx] at hy;injection hy with hy;subst hy
  exact o.refl (u x (P9 hx))
 ·obtain⟨h1,e1⟩:=P8.mp hx;obtain⟨h2,e2⟩:=P8.mp hy;have:=V8.mp s i j h1 h2 (by omega);rw [e1,e2] at this;exact this
theorem Yv {i:G7}(h:i<arr.size): ∃x,arr.toList[i]? =some x/\arr[i]? =some x:=⟨arr[i],by simp [h],by simp [h]⟩
theorem ut {y:D6}{n hint:G7}{st:C5}{Q:P7 G7->C5->Prop}(ak:Xe prog w A J κ U R)(kd:kindOf st=κ)(o:Ù U R)(u: ∀x∈arr.toList,U x)(s:Õ R arr.toList)(uy:U y)(hn:base+n<=arr.size)(hh:hint<n)
 (q: ∀k,k<=n->(∀i,i<k-> ∀x,arr.toList[base+i]? =some x->R y x=false)->(∀i,k<=i->i<n-> ∀x,arr.toList[base+i]? =some x->R y x=true)->Q (some k) st):Tm prog w A E J (gal false y arr base n hint) Q st:=by
 refine MJ ak kd uy (λi hi=> ?_) (λi j hij hj h=> ?_) hh (λk k1 k2 k3=>q k k1 (λi hi x hx=> ?_) (λi h1 h2 x hx=> ?_))
 ·obtain⟨x,lx,ex⟩:=Yv (show base+i<arr.size by omega);exact⟨x,ex,u x (P9 lx)⟩
 ·obtain⟨x,lx,_⟩:=Yv (show base+i<arr.size by omega);obtain⟨z,lz,_⟩:=Yv (show base+j<arr.size by omega);rw [vC lz] at h;rw [vC lx];have hz:R y z=false:=by simpa using h
  have:=o.trans (u x (P9 lx)) (u z (P9 lz)) uy (Yu s o u (by omega) lx lz) hz;simp [this]
 ·have:=k2 i hi;rw [vC hx] at this;simpa using this
 ·have:=k3 i h1 h2;rw [vC hx] at this;simpa using this
theorem uu {y:D6}{n hint:G7}{st:C5}{Q:P7 G7->C5->Prop}(ak:Xe prog w A J κ U R)(kd:kindOf st=κ)(o:Ù U R)(u: ∀x∈arr.toList,U x)(s:Õ R arr.toList)(uy:U y)(hn:base+n<=arr.size)(hh:hint<n)
 (q: ∀k,k<=n->(∀i,i<k-> ∀x,arr.toList[base+i]? =some x->R x y=true)->(∀i,k<=i->i<n-> ∀x,arr.toList[base+i]? =some x->R x y=false)->Q (some k) st):Tm prog w A E J (gal true y arr base n hint) Q st:=by
 refine MJ ak kd uy (λi hi=> ?_) (λi j hij hj h=> ?_) hh (λk k1 k2 k3=>q k k1 (λi hi x hx=> ?_) (λi h1 h2 x hx=> ?_))
 ·obtain⟨x,lx,ex⟩:=Yv (show base+i<arr.size by omega);exact⟨x,ex,u x (P9 lx)⟩
 ·obtain⟨x,lx,_⟩:=Yv (show base+i<arr.size by omega);obtain⟨z,lz,_⟩:=Yv (show base+j<arr.size by omega);rw [vC lz] at h;rw [vC lx];have hz:R z y=true:=by simpa using h
  rcases o.neg z x y (u z (P9 lz)) (u x (P9 lx)) uy hz with v|v
  ·rw [Yu s o u (by omega) lx lz] at v;cases v
  ·simp [v]
 ·have:=k2 i hi;rw [vC hx] at this;simpa using this
 ·have:=k3 i h1 h2;rw [vC hx] at this;simpa using this
section
variable {σ α β γ:Type}{c:Prop}[Decidable c]{t e:W8 σ Sem α}{Q:α->σ->Prop}{st:σ}{x y:β}{z:γ}
theorem Tm.if2 (T:c->Tm prog w A E J t Q st)(F: ¬c->Tm prog w A E J e Q st):Tm prog w A E J (if c then t else e) Q st:=by
 split
 ·exact T ‹_›
 ·exact F ‹_›
theorem Tm.eq2 {x y:G7}(T:x=y->Tm prog w A E J t Q st)(F: ¬x=y->Tm prog w A E J e Q st):Tm prog w A E J (if (x==y)=true then t else e) Q st:=
 .if2 (λh=>T (eq_of_beq h)) λh=>F λg=>h (beq_iff_eq.mpr g)
theorem Tm.both {f:β->W8 σ Sem α}(he:e=f y)(ht:t=f x)(H: ∀m,Tm prog w A E J (f m) Q st):Tm prog w A E J (if c then t else e) Q st:=by
 subst he ht;exact .if2 (λ_=>H _) λ_=>H _
theorem Tm.join {f:β->γ->W8 σ Sem α}{I:β->γ->Prop}(he:e=f x z)(G: ∀m o,I m o->Tm prog w A E J (f m o) Q st)(T:c->(∀m o,I m o->Tm prog w A E J (f m o) Q st)->Tm prog w A E J t Q st)(F: ¬c->I x z):Tm prog w A E J (if c then t else e) Q st:=by
 subst he;exact .if2 (λh=>T h G) λh=>G _ _ (F h)
end
theorem Hg {A B C D F:Type}{P:A×B×C×D×F->Prop}(h: ∀a b c d f,P (a,b,c,d,f)): ∀c,P c:=λc=>h c.1 c.2.1 c.2.2.1 c.2.2.2.1 c.2.2.2.2
theorem Hh {A B C D F G:Type}{P:A×B×C×D×F×G->Prop}(h: ∀a b c d f g,P (a,b,c,d,f,g)): ∀c,P c:=λc=>h c.1 c.2.1 c.2.2.1 c.2.2.2.1 c.2.2.2.2.1 c.2.2.2.2.2
theorem Hi {A B C D F G H:Type}{P:A×B×C×D×F×G×H->Prop}(h: ∀a b c d f g k,P (a,b,c,d,f,g,k)): ∀c,P c:=λc=>h c.1 c.2.1 c.2.2.1 c.2.2.2.1 c.2.2.2.2.1 c.2.2.2.2.2.1 c.2.2.2.2.2.2
theorem yF {a:M8 D6}(u: ∀x∈a.toList,U x){i:G7}(h:i<a.size){P:Prop}(q: ∀y,a[i]? =some y->a.toList[i]? =some y->U y->P):P:=q a[i] (by simp [h]) (by simp [h]) (u _ (by simp))
structure Ř (R:D6->D6->N2)(a b:M8 D6)(st Å:C5)(n:G7)(out:M8 D6)(ia ib:G7):Prop where
 g:ŗ st Å
 m:MA R a b ia ib out
 a:ia+1<a.size
 b:ib<b.size
 n:n<=ia+ib
def LoO (R:D6->D6->N2)(a b:M8 D6)(st Å:C5)(n:G7)(r:P7 (M8 D6))(out:M8 D6)(ia ib:G7):Prop:=ŗ st Å/\match r with|some c=>Jp R a b c|none=>Ř R a b st Å n out ia ib
section
variable {a b out:M8 D6}{st Å:C5}{n k ia ib:G7}
theorem Ř.more (h:Ř R a b st Å n out ia ib)(l:k<=n):Ř R a b st Å k out ia ib:=⟨h.g,h.m,h.a,h.b,S5 l h.n⟩
theorem Ř.here (h:Ř R a b st Å n out ia ib):Ř R a b st Å (ia+ib) out ia ib:=⟨h.g,h.m,h.a,h.b,P5 _⟩
theorem Ř.at {s:C5}(h:Ř R a b st Å n out ia ib)(g:ŗ st s)(l:k<=n):Ř R a b st s k out ia ib:=⟨g,h.m,h.a,h.b,S5 l h.n⟩
theorem Ř.never {P:Prop}(h:Ř R a b st Å n out ia ib)(l:a.size+b.size<=n):P:=absurd (S5 l h.n) (Nat.not_le_of_lt (Nat.add_lt_add (V0 h.a) h.b))
end
theorem Tc {a b:M8 D6}{st:C5}{Q:M8 D6->C5->Prop}(ak:Xe prog w A J κ U R)(kd:kindOf st=κ)(t:Two U R a b)
 (na:1<=a.size)(nb:1<=b.size)(first: ∀y z,b.toList[0]? =some y->a.toList[0]? =some z->R y z=true)
 (q: ∀c Å,ŗ st Å->Jp R a b c->Q c Å):Tm prog w A E J (mLo a b) Q st:=by
 refine .bind (.rule (.bind (yF t.ub nb λb0 eb0 lb0 ub0=> .elem eb0 ?_)));have m0:MA R a b 0 1 #[b0]:=MA.pushB t (out:= #[]) (MI.start _ _) lb0 (λz hz=>first _ z lb0 hz);refine .eq2 (x:=1) (y:=b.size) (λz1=> .pure (q _ _ (ŗ.refl st) (MA.done t m0 (B0 _) nb (.inr z1)))) λz1=> .eq2 (x:=0+1) (y:=a.size) (λz2=> .pure (q _ _ (ŗ.refl st) (MA.lastA t m0 z2 nb))) λz2=> .bind (.get ?_)
 refine .bind (Tm.mono (Tm.range (λi c Å=>Ř R a b st Å (i+1) c.2.1 c.2.2.1 c.2.2.2.1)
  (Q:=λc Å=> ∃r,c.1=some r/\ŗ st Å/\Jp R a b r) (B0 _) ⟨ŗ.refl st,m0,E7 na z2,E7 nb z1,P5 _⟩ ?_ ?_) ?_)
 ·intro i c st1 hi;revert c;refine Hg λr out ia ib mg h=> ?_
  refine .bind (Tm.mono (Tm.range (λj c Å=>Ř R a b st Å (ia+ib+j) c.2.1 c.2.2.1 c.2.2.2.1)
   (Q:=λc Å=>LoO R a b st Å (ia+ib+1) c.1 c.2.1 c.2.2.1 c.2.2.2.1) (B0 _) h.here ?_ ?_) ?_)
  ·intro j c Ł hj;revert c;refine Hh λr out ja jb ac bc h=> ?_
   refine .bind (yF t.ub h.b λy ey ly uy=> .elem ey (.bind (yF t.ua (V0 h.a) λx ex lx ux=> .elem ex (.bind (.lt ak (h.g.1.trans kd) uy ux (.if2 (c:=R y x=true) (λhb=> .bind (.elem ey ?_)) λhb=> .bind (.elem ex ?_)))))))
   ·have m1:=MA.pushB t h.m ly (λz hz=>by rw [lx] at hz;injection hz with hz;rw [<-hz];exact hb);refine .eq2 (x:=jb+1) (y:=b.size) (λc1=> .pure ⟨h.g,MA.done t m1 (M5 (V0 h.a)) h.b (.inr c1)⟩) λc1=> ?_
    have d:Ř R a b st Ł (ia+ib+(j+1)) (out.push y) ja (jb+1):=⟨h.g,m1,h.a,E7 (eO h.b) c1,cJ h.n⟩;exact .if2 (λ_=> .pure ⟨h.g,d.more (cM (E8 _ _) _)⟩) λ_=> .pure d
   ·have m1:=MA.pushA t h.m lx (λz hz=>by rw [ly] at hz;injection hz with hz;rw [<-hz];exact bW.mpr hb);refine .eq2 (x:=ja+1+1) (y:=a.size) (λc1=> .pure ⟨h.g,MA.lastA t m1 c1 (M5 h.b)⟩) λc1=> ?_
    have d:Ř R a b st Ł (ia+ib+(j+1)) (out.push x) (ja+1) jb:=⟨h.g,m1,E7 (eO h.a) c1,h.b,S5 (cJ h.n) (Q4 (Nat.succ_add _ _).symm)⟩;exact .if2 (λ_=> .pure ⟨h.g,d.more (cM (E8 _ _) _)⟩) λ_=> .pure d
  ·exact λc Ł h=>h.never (E8 _ _)
  ·intro c Ł;revert c;refine Hh λr out ja jb ac bc h'=> ?_
   cases r with
   |some r=>exact .pure ⟨r,rfl,h'⟩
   |none=>
   replace h':=h'.2
   refine .bind (.rule (.bind (Tm.mono (Tm.range (λj c Å=>Ř R a b st Å (ja+jb+j) c.2.1 c.2.2.1 c.2.2.2.1)
    (Q:=λc Å=>LoO R a b st Å (ja+jb) c.1 c.2.1 c.2.2.1 c.2.2.2.1) (B0 _) h'.here ?_ ?_) ?_)))
   ·clear h;intro j c Ł hj;revert c;refine Hi λr out pa pb mg ac bc h=> ?_
    refine yF t.ub h.b λy ey ly uy=> ?_
    have g2:0<a.size-pa:=pT (V0 h.a);have g1:pa+(a.size-pa)<=a.size:=Q4 (cN (M5 (V0 h.a)));refine Tm.both (y:=mg) (x:=mg-1) (by rfl) (by rfl) λmg=> ?_
    refine .bind (Tm.modify (.bind (.elem ey (.bind (ut (base:=pa) (n:=a.size-pa) ak (h.g.1.trans kd) t.o t.ua t.sa uy g1 g2 λk k1 k2 k3=> ?_)))));refine Tm.join (I:=λo ia=>MA R a b ia pb o/\ia+1<a.size/\pa<=ia/\ ∀x,a.toList[ia]? =some x->R y x=true) (x:=out) (z:=pa) (by rfl) ?_ ?_ ?_
    ·refine λo qa i1=> ?_
     have M2:=MA.pushB t i1.1 ly i1.2.2.2;have p1:=V0 i1.2.1;refine .bind (.elem ey (.eq2 (x:=pb+1) (y:=b.size) (λc3=> .pure ⟨h.g,MA.done t M2 (M5 p1) (Q4 c3) (.inr c3)⟩) λc3=> ?_));have c8:pb+1<b.size:=E7 (eO h.b) c3;have g2:=pT c8;refine .bind (yF t.ua p1 λx ex lx ux=> .elem ex (.bind (uu (base:=pb+1) (n:=b.size-(pb+1)) ak (h.g.1.trans kd) t.o t.ub t.sb ux (Q4 (cN (M5 c8))) g2 λk' q1 q2 q3=> ?_)));dsimp only;generalize ep:pb+1=p2 at M2 q1 q2 q3 c8 g2 ⊢;generalize eo:o.push y=o2 at M2 ⊢;refine Tm.join (I:=λo ib=>MA R a b qa ib o/\ib<b.size/\p2<=ib/\ ∀x',b.toList[ib]? =some x'->R x' x=false) (x:=o2) (z:=p2) (by rfl) ?_ ?_ ?_
     ·refine λo qb i2=> ?_
      have M4:=MA.pushA t i2.1 lx i2.2.2.2;refine .bind (.elem ex (.eq2 (x:=qa+1+1) (y:=a.size) (λc5=> .pure ⟨h.g,MA.lastA t M4 c5 (M5 i2.2.1)⟩) λc5=> ?_));have n1:ja+jb+j<=pa+pb:=h.n;have n2:ja+jb+(j+1)<=qa+1+qb:=by have:=i1.2.2.1;have:=i2.2.2.1;omega
      have d:Ř R a b st Ł (ja+jb+(j+1)) (o.push x) (qa+1) qb:=⟨h.g,M4,E7 (eO i1.2.1) c5,i2.2.1,n2⟩;exact .if2 (λ_=> .pure ⟨h.g,d.at h.g (a8 _ _)⟩) λ_=> .pure (d.at h.g (P5 _))
     ·intro kz' H;have g3:p2+k'<=b.size:=S5 (cM q1 _) (Q4 (cN (M5 c8)));have M3:=MA.manyB t M2 k' g3 (λi hi y' hy z hz=>by rw [lx] at hz;injection hz with hz;rw [<-hz];exact q2 i hi y' hy);exact .eq2 (x:=p2+k') (y:=b.size) (λc4=> .pure ⟨h.g,MA.done t M3 (M5 p1) g3 (.inr c4)⟩) λc4=>H _ _ ⟨M3,E7 g3 c4,a8 _ _,λz hz=>q3 k' (P5 _) (by omega) z hz⟩
     ·exact λkz'=>⟨M2,c8,P5 _,λz hz=>q3 0 (cG kz') g2 z hz⟩
    ·intro kz H;have g3:pa+k<=a.size:=S5 (cM k1 _) g1;have m1:=MA.manyA t h.m k g3 (λi hi x hx z hz=>by rw [ly] at hz;injection hz with hz;rw [<-hz];exact k2 i hi x hx);exact .eq2 (x:=pa+k+1) (y:=a.size) (λc1=> .pure ⟨h.g,MA.lastA t m1 c1 (M5 h.b)⟩) λc1=> .eq2 (x:=pa+k) (y:=a.size) (λc2=> .pure ⟨h.g,MA.done t m1 g3 (M5 h.b) (.inl c2)⟩) λc2=>H _ _ ⟨m1,E7 (E7 g3 c2) c1,a8 _ _,λx hx=>k3 k (P5 _) (by omega) x hx⟩
    ·exact λkz=>⟨h.m,h.a,P5 _,λx hx=>k3 0 (cG kz) g2 x hx⟩
   ·exact λc st3 h=>h.never (E8 _ _)
   ·intro c st3;revert c;refine Hi λr out pa pb mg ac bc h3=> ?_
    cases r with
    |some r=>exact .pure ⟨r,rfl,h3⟩
    |none=>exact .bind (Tm.modify (.pure (h3.2.at h3.1 (S5 (cJ h.n) h'.n))))
 ·exact λc st1 h=>h.never (a8 _ _)
 ·intro c st1;revert c;refine Hg λr out ia ib mg h=> ?_
  obtain⟨c,rfl,gl,wh⟩:=h;exact .pure (q c st1 gl wh)
end
section
variable {prog:T7}{w:C1}{A:B2}{E:G3->G6->Prop}{J:G6->Prop}{κ:SortKind}{U:D6->Prop}{R:D6->D6->N2}
abbrev Flp (R:D6->D6->N2):D6->D6->N2:=λx y=>R y x
theorem Ù.flip (o:Ù U R):Ù U (Flp R):=⟨λx y ux uy h=>o.asym y x uy ux h,λx y z ux uy uz h=>(o.neg z y x uz uy ux h).symm⟩
variable {l:G0 D6}
theorem zK (s:Õ R l):Õ (Flp R) l.reverse:=fJ.mpr s
theorem Pm (s:Õ (Flp R) l):Õ R l.reverse:=fJ.mpr s
variable {n:G7}
theorem MK (h1:1<=n)(hn:n<=l.length):l.reverse[l.length-n]? =l[n-1]? :=by
 rw [bO (by omega)]
 congr 1;omega
theorem wP {z:D6}(hn:n<=l.length)(h:l.reverse[l.length-n]? =some z):1<=n/\l[n-1]? =some z:=by
 have:=(P8.mp h).1;rw [N4] at this;have n1:1<=n:=by omega
 exact⟨n1,by rw [<-MK n1 hn];exact h⟩
theorem Zm (l:G0 D6){n:G7}(hn:n<=l.length):l.reverse.drop (l.length-n)=(l.take n).reverse:=by
 rw [List.drop_reverse]
 congr 2;omega
def MH (R:D6->D6->N2)(a b:M8 D6)(na nb:G7)(out:M8 D6):Prop:=MI (Flp R) b.toList.reverse a.toList.reverse (b.toList.length-nb) (a.toList.length-na) out.toList
structure ĺ (U:D6->Prop)(R:D6->D6->N2)(a b:M8 D6):Prop where
 o:Ù U R
 ua: ∀x∈a.toList,U x
 ub: ∀x∈b.toList,U x
 sa:Õ R a.toList
 sb:Õ R b.toList
 first: ∀z∈a.toList,∀y,b.toList[0]? =some y->R y z=true
section
variable {a b out:M8 D6}{na nb:G7}
theorem ĺ.fa (t:ĺ U R a b): ∀x∈a.toList.reverse,U x:=λx hx=>t.ua x (E2.mp hx)
theorem ĺ.fb (t:ĺ U R a b): ∀x∈b.toList.reverse,U x:=λx hx=>t.ub x (E2.mp hx)
theorem MH.start (a b:M8 D6):MH R a b a.toList.length b.toList.length #[]:=by
 unfold MH;rw [pU,pU];exact MI.start _ _
theorem MH.pushA (t:ĺ U R a b){y:D6}(m:MH R a b na nb out)(h1:1<=na)(hn:na<=a.toList.length)(hb:nb<=b.toList.length)(hy:a.toList[na-1]? =some y)(lt: ∀z,1<=nb->b.toList[nb-1]? =some z->R z y=true):MH R a b (na-1) nb (out.push y):=by
 have:=MI.pushB m t.o.flip t.fb t.fa (zK t.sb) (zK t.sa) (by rw [MK h1 hn];exact hy) (λz hz=>lt z (wP hb hz).1 (wP hb hz).2);unfold MH;rw [aM,show a.toList.length-(na-1)=a.toList.length-na+1 by omega];exact this
theorem MH.pushB (t:ĺ U R a b){y:D6}(m:MH R a b na nb out)(h1:1<=nb)(hn:nb<=b.toList.length)(ha:na<=a.toList.length)(hy:b.toList[nb-1]? =some y)(ge: ∀z,1<=na->a.toList[na-1]? =some z->R y z=false):MH R a b na (nb-1) (out.push y):=by
 have:=MI.pushA m t.o.flip t.fb t.fa (zK t.sb) (zK t.sa) (by rw [MK h1 hn];exact hy) (λz hz=>ge z (wP ha hz).1 (wP ha hz).2);unfold MH;rw [aM,show b.toList.length-(nb-1)=b.toList.length-nb+1 by omega];exact this
theorem Zn (a:M8 D6)(n:G7):(a.extract 0 n).toList=a.toList.take n:=by
 rw [aP,K3,iD,pQ]
theorem MH.done (t:ĺ U R a b)(m:MH R a b na nb out)(ha:na<=a.toList.length)(hb:nb<=b.toList.length)(h:na=0\/nb=0):Jp R a b (a.extract 0 na++b.extract 0 nb++out.reverse):=by
 have:=MI.done m t.o.flip t.fb t.fa (zK t.sb) (zK t.sa) (by rw [N4];omega) (by rw [N4];omega) (by rw [N4,N4];omega);rw [Zm _ ha,Zm _ hb] at this;have e:(a.extract 0 na++b.extract 0 nb++out.reverse).toList=(out.toList++(b.toList.take nb).reverse++(a.toList.take na).reverse).reverse:=by
  rw [F7,F7,Zn,Zn,gA];simp [D4]
 unfold Jp;rw [e];refine⟨(V1 _).trans (this.1.trans ?_),Pm this.2⟩;exact(qQ (V1 _) (V1 _)).trans bM
theorem MH.firstB (t:ĺ U R a b)(m:MH R a b na nb out)(ha:na<=a.toList.length)(hb:nb=1)(Κ:1<=b.toList.length):Jp R a b (b.extract 0 nb++a.extract 0 na++out.reverse):=by
 subst hb;have:=MI.lastA m t.o.flip t.fb t.fa (zK t.sb) (zK t.sa) (by rw [N4];omega) (by rw [N4];omega) (λz hz y hy=>by
  rw [N4] at hy;have:=(wP Κ hy).2;exact t.first z (E2.mp hz) y (by simpa using this))
 rw [Zm _ ha,Zm _ Κ] at this;have e:(b.extract 0 1++a.extract 0 na++out.reverse).toList=(out.toList++(a.toList.take na).reverse++(b.toList.take 1).reverse).reverse:=by
  rw [F7,F7,Zn,Zn,gA];simp [D4]
 unfold Jp;rw [e];refine⟨(V1 _).trans (this.1.trans ?_),Pm this.2⟩;exact(qQ (V1 _) (V1 _)).trans bM
theorem Po (l:G0 D6){p n:G7}(h1:p<=n)(hn:n<=l.length):(l.reverse.drop (l.length-n)).take (n-p)=((l.drop p).take (n-p)).reverse:=by
 rw [Zm l hn,List.take_reverse,S8,nM,Q5 hn,show n-(n-p)=p by omega]
theorem ML (a:M8 D6){p n:G7}(h:p<=n):(a.extract p n).reverse.toList=((a.toList.drop p).take (n-p)).reverse:=by
 rw [gA,aP,K3]
theorem MH.manyA (t:ĺ U R a b)(m:MH R a b na nb out)(p:G7)(hp:p<=na)(hn:na<=a.toList.length)(hb:nb<=b.toList.length)(h: ∀i,p<=i->i<na-> ∀y,a.toList[i]? =some y-> ∀z,1<=nb->b.toList[nb-1]? =some z->R z y=true):MH R a b p nb (out++(a.extract p na).reverse):=by
 have:=MI.manyB t.o.flip t.fb t.fa (zK t.sb) (zK t.sa) (na-p) m (by rw [N4];omega) (λi hi y hy z hz=>by
  rw [bO (by omega)] at hy;exact h _ (by omega) (by omega) y hy z (wP hb hz).1 (wP hb hz).2)
 rw [Po _ hp hn] at this;unfold MH;rw [F7,ML _ hp,show a.toList.length-p=a.toList.length-na+(na-p) by omega];exact this
theorem MH.manyB (t:ĺ U R a b)(m:MH R a b na nb out)(p:G7)(hp:p<=nb)(hn:nb<=b.toList.length)(ha:na<=a.toList.length)(h: ∀i,p<=i->i<nb-> ∀y,b.toList[i]? =some y-> ∀z,1<=na->a.toList[na-1]? =some z->R y z=false):MH R a b na p (out++(b.extract p nb).reverse):=by
 have:=MI.manyA t.o.flip t.fb t.fa (zK t.sb) (zK t.sa) (nb-p) m (by rw [N4];omega) (λi hi y hy z hz=>by
  rw [bO (by omega)] at hy;exact h _ (by omega) (by omega) y hy z (wP ha hz).1 (wP ha hz).2)
 rw [Po _ hp hn] at this;unfold MH;rw [F7,ML _ hp,show b.toList.length-p=b.toList.length-nb+(nb-p) by omega];exact this
end
def mHi:M8 D6->M8 D6->W8 C5 Sem (M8 D6):=sortPriv% PySem.Builtin.mergeHi
section
variable {arr:M8 D6}{y:D6}{n hint:G7}{st:C5}{Q:P7 G7->C5->Prop}
theorem Ky (ak:Xe prog w A J κ U R)(kd:kindOf st=κ)(o:Ù U R)(u: ∀x∈arr.toList,U x)(s:Õ R arr.toList)(uy:U y)(hn:n<=arr.size)(hh:hint<n)
 (q: ∀k,k<=n->(∀i,i<k-> ∀x,arr.toList[i]? =some x->R y x=false)->(∀i,k<=i->i<n-> ∀x,arr.toList[i]? =some x->R y x=true)->Q (some k) st):Tm prog w A E J (gal false y arr 0 n hint) Q st:=
 ut ak kd o u s uy (by rw [Y9];exact hn) hh λk h k2 k3=>q k h (λi hi x hx=>k2 i hi x (by rw [Y9];exact hx)) λi hi hj x hx=>k3 i hi hj x (by rw [Y9];exact hx)
theorem Kz (ak:Xe prog w A J κ U R)(kd:kindOf st=κ)(o:Ù U R)(u: ∀x∈arr.toList,U x)(s:Õ R arr.toList)(uy:U y)(hn:n<=arr.size)(hh:hint<n)
 (q: ∀k,k<=n->(∀i,i<k-> ∀x,arr.toList[i]? =some x->R x y=true)->(∀i,k<=i->i<n-> ∀x,arr.toList[i]? =some x->R x y=false)->Q (some k) st):Tm prog w A E J (gal true y arr 0 n hint) Q st:=
 uu ak kd o u s uy (by rw [Y9];exact hn) hh λk h k2 k3=>q k h (λi hi x hx=>k2 i hi x (by rw [Y9];exact hx)) λi hi hj x hx=>k3 i hi hj x (by rw [Y9];exact hx)
end
structure Ņ (R:D6->D6->N2)(a b:M8 D6)(st Å:C5)(n N na nb:G7)(out:M8 D6):Prop where
 g:ŗ st Å
 m:MH R a b na nb out
 a':na<=a.size
 b':nb<=b.size
 a:1<=na
 b:2<=nb
 n:n+na+nb<=N
def HiO (R:D6->D6->N2)(a b:M8 D6)(st Å:C5)(n N:G7)(r:P7 (M8 D6))(na nb:G7)(out:M8 D6):Prop:=ŗ st Å/\match r with|some c=>Jp R a b c|none=>Ņ R a b st Å n N na nb out
section
variable {a b out:M8 D6}{st Å s:C5}{n N k M na nb:G7}
theorem Ņ.at (h:Ņ R a b st Å n N na nb out)(g:ŗ st s)(l:n+na+nb<=N->k+na+nb<=M):Ņ R a b st s k M na nb out:=⟨g,h.m,h.a',h.b',h.a,h.b,l h.n⟩
theorem Ņ.here (h:Ņ R a b st Å n N na nb out):Ņ R a b st Å 0 (na+nb) na nb out:=h.at h.g λ_=>by omega
theorem Ņ.never {P:Prop}(h:Ņ R a b st Å n N na nb out)(l:N<=n):P:=by have:=h.n;have:=h.a;omega
theorem Ņ.le (h:Ņ R a b st Å n N na nb out):na+nb<=a.size+b.size:=Nat.add_le_add h.a' h.b'
theorem Ņ.a1 (h:Ņ R a b st Å n N na nb out):na-1<a.size:=N7 (c9 h.a W9) h.a'
theorem Ņ.b1 (h:Ņ R a b st Å n N na nb out):nb-1<b.size:=N7 (c9 (V0 h.b) W9) h.b'
end
theorem FS (h:2<=n)(c: ¬n-1=1):2<=n-1:=by omega
theorem MM (c: ¬n-1=0):1<=n-1:=dA c
theorem Td {a b:M8 D6}{st:C5}{Q:M8 D6->C5->Prop}(ak:Xe prog w A J κ U R)(kd:kindOf st=κ)(t:ĺ U R a b)
 (na:1<=a.size)(nb:1<=b.size)(last: ∀y z,b.toList[b.size-1]? =some y->a.toList[a.size-1]? =some z->R y z=true)
 (q: ∀c Å,ŗ st Å->Jp R a b c->Q c Å):Tm prog w A E J (mHi a b) Q st:=by
 refine .bind (.rule (.bind (yF t.ua (c9 na W9) λa0 ea0 la0 ua0=> .elem ea0 ?_)));have m0:MH R a b (a.size-1) b.size #[a0]:=MH.pushA t (MH.start (R:=R) a b) na (P5 _) (P5 _) la0 (λz _ hz=>last z a0 hz la0);have n1:a.size-1<=a.size:=G0h _ _;refine .eq2 (x:=a.size-1) (y:=0) (λz1=> .pure (q _ _ (ŗ.refl st) (MH.done t m0 n1 (P5 _) (.inl z1)))) λz1=> .eq2 (x:=b.size) (y:=1) (λz2=> .pure (q _ _ (ŗ.refl st) (MH.firstB t m0 n1 z2 nb))) λz2=> .bind (.get ?_)
 refine .bind (Tm.mono (Tm.range (λi c Å=>Ņ R a b st Å (i+1) (a.size+b.size) c.2.1 c.2.2.1 c.2.2.2.1)
  (Q:=λc Å=> ∃r,c.1=some r/\ŗ st Å/\Jp R a b r) (B0 _) ⟨ŗ.refl st,m0,n1,P5 _,MM z1,by dsimp only;omega,by dsimp only;omega⟩ ?_ ?_) ?_)
 ·intro i c st1 hi;revert c;refine Hg λr ia ib out mg h=> ?_
  refine .bind (Tm.mono (Tm.range (λj c Å=>Ņ R a b st Å j (ia+ib) c.2.1 c.2.2.1 c.2.2.2.1)
   (Q:=λc Å=>HiO R a b st Å 1 (ia+ib) c.1 c.2.1 c.2.2.1 c.2.2.2.1) (B0 _) h.here ?_ ?_) ?_)
  ·intro j c Ł hj;revert c;refine Hh λr ja jb out ac bc h=> ?_
   refine .bind (yF t.ub h.b1 λy ey ly uy=> .elem ey (.bind (yF t.ua h.a1 λx ex lx ux=> .elem ex (.bind (.lt ak (h.g.1.trans kd) uy ux (.if2 (c:=R y x=true) (λhb=> .bind (.elem ex ?_)) λhb=> .bind (.elem ey ?_)))))))
   ·have m1:=MH.pushA t h.m h.a h.a' h.b' lx (λz _ hz=>by rw [ly] at hz;injection hz with hz;rw [<-hz];exact hb);refine .eq2 (x:=ja-1) (y:=0) (λc1=> .pure ⟨h.g,MH.done t m1 (M5 h.a1) h.b' (.inl c1)⟩) λc1=> ?_
    have d:Ņ R a b st Ł (j+1) (ia+ib) (ja-1) jb (out.push x):=⟨h.g,m1,M5 h.a1,h.b',MM c1,h.b,by have:j+ja+jb<=ia+ib:=h.n;have:1<=ja:=h.a;have:2<=jb:=h.b;omega⟩;exact .if2 (λ_=> .pure ⟨h.g,d.at h.g λ_=>by omega⟩) λ_=> .pure d
   ·have m1:=MH.pushB t h.m (M5 h.b) h.b' h.a' ly (λz _ hz=>by rw [lx] at hz;injection hz with hz;rw [<-hz];exact bW.mpr hb);refine .eq2 (x:=jb-1) (y:=1) (λc1=> .pure ⟨h.g,MH.firstB t m1 h.a' c1 nb⟩) λc1=> ?_
    have d:Ņ R a b st Ł (j+1) (ia+ib) ja (jb-1) (out.push y):=⟨h.g,m1,h.a',M5 h.b1,h.a,FS h.b c1,by have:j+ja+jb<=ia+ib:=h.n;have:1<=ja:=h.a;have:2<=jb:=h.b;omega⟩;exact .if2 (λ_=> .pure ⟨h.g,d.at h.g λ_=>by omega⟩) λ_=> .pure d
  ·exact λc Ł h'=>h'.never h.le
  ·intro c Ł;revert c;refine Hh λr ja jb out ac bc h'=> ?_
   cases r with
   |some r=>exact .pure ⟨r,rfl,h'⟩
   |none=>
   replace h':=h'.2
   refine .bind (.rule (.bind (Tm.mono (Tm.range (λj c Å=>Ņ R a b st Å j (ja+jb) c.2.1 c.2.2.1 c.2.2.2.1)
    (Q:=λc Å=>HiO R a b st Å 0 (ja+jb) c.1 c.2.1 c.2.2.1 c.2.2.2.1) (B0 _) h'.here ?_ ?_) ?_)))
   ·clear h;intro j c Ł hj;revert c;refine Hi λr pa pb out mg ac bc h=> ?_
    refine yF t.ub h.b1 λy ey ly uy=> ?_
    refine Tm.both (y:=mg) (x:=mg-1) (by rfl) (by rfl) λmg=> ?_
    refine .bind (Tm.modify (.bind (.elem ey (.bind (Ky (n:=pa) ak (h.g.1.trans kd) t.o t.ua t.sa uy h.a' (c9 h.a W9) λk k1 k2 k3=> ?_)))));dsimp only;generalize eac:pa-k=ac;refine Tm.join (I:=λna o=>MH R a b na pb o/\1<=na/\na<=pa/\ ∀z,a.toList[na-1]? =some z->R y z=false) (x:=pa) (z:=out) (by rfl) ?_ ?_ ?_
    ·refine λqa o i1=> ?_
     have la:=S5 i1.2.2.1 h.a';have M2:=MH.pushB t i1.1 (M5 h.b) h.b' la ly (λz _ hz=>i1.2.2.2 z hz);refine .bind (.elem ey (.eq2 (x:=pb-1) (y:=1) (λc3=> .pure ⟨h.g,MH.firstB t M2 la c3 nb⟩) λc3=> ?_));have c8:=FS h.b c3;have lb:=M5 h.b1;have n1:j+pa+pb<=ja+jb:=h.n;have n2:pb=pb-1+1:=(Nat.sub_add_cancel (M5 h.b)).symm;refine .bind (yF t.ua (N7 (c9 i1.2.1 W9) la) λx ex lx ux=> .elem ex (.bind (Kz (n:=pb-1) ak (h.g.1.trans kd) t.o t.ub t.sb ux lb (c9 (V0 c8) W9) λk' q1 q2 q3=> ?_)));dsimp only;dsimp only at c8 lb;generalize ep:pb-1=p2 at M2 q1 q2 q3 c8 lb n2 ⊢;generalize eo:o.push y=o2 at M2 ⊢;generalize ebc:p2-k'=bc;refine Tm.join (I:=λnb o=>MH R a b qa nb o/\2<=nb/\nb<=p2/\ ∀z,b.toList[nb-1]? =some z->R z x=true) (x:=p2) (z:=o2) (by rfl) ?_ ?_ ?_
     ·refine λqb o i2=> ?_
      have lb':=S5 i2.2.2.1 lb;have M4:=MH.pushA t i2.1 i1.2.1 la lb' lx (λz _ hz=>i2.2.2.2 z hz);have la':=S5 (G0h qa 1) la;refine .bind (.elem ex (.eq2 (x:=qa-1) (y:=0) (λc5=> .pure ⟨h.g,MH.done t M4 la' lb' (.inl c5)⟩) λc5=> ?_));have n3:j+1+(qa-1)+qb<=ja+jb:=by have:=i1.2.1;have:=i1.2.2.1;have:=i2.2.2.1;omega
      have d:Ņ R a b st Ł (j+1) (ja+jb) (qa-1) qb (o.push x):=⟨h.g,M4,la',lb',MM c5,i2.2.1,n3⟩;exact .if2 (λ_=> .pure ⟨h.g,d.at h.g λ_=>by omega⟩) λ_=> .pure (d.at h.g id)
     ·intro kz' H;have M3:=MH.manyB t M2 k' q1 lb la (λi hi1 hi2 y' hy z hz1 hz=>by rw [lx] at hz;injection hz with hz;rw [<-hz];exact q3 i hi1 hi2 y' hy);exact .eq2 (x:=k') (y:=1) (λc4=> .pure ⟨h.g,MH.firstB t M3 la c4 nb⟩) λc4=> .eq2 (x:=k') (y:=0) (λc7=> .pure ⟨h.g,MH.done t M3 la (S5 q1 lb) (.inr c7)⟩) λc7=>H _ _ ⟨M3,by omega,q1,λz hz=>q2 (k'-1) (c9 (dA c7) W9) z hz⟩
     ·exact λkz'=>⟨M2,c8,P5 _,λz hz=>q2 (p2-1) (by omega) z hz⟩
    ·intro kz H;have m1:=MH.manyA t h.m k k1 h.a' h.b' (λi hi1 hi2 x hx z hz1 hz=>by rw [ly] at hz;injection hz with hz;rw [<-hz];exact k3 i hi1 hi2 x hx);exact .eq2 (x:=k) (y:=0) (λc1=> .pure ⟨h.g,MH.done t m1 (S5 k1 h.a') h.b' (.inl c1)⟩) λc1=>H _ _ ⟨m1,dA c1,k1,λz hz=>k2 (k-1) (c9 (dA c1) W9) z hz⟩
    ·exact λkz=>⟨h.m,h.a,P5 _,λz hz=>k2 (pa-1) (by have:1<=pa:=h.a;omega) z hz⟩
   ·exact λc st3 h=>h.never h'.le
   ·intro c st3;revert c;refine Hi λr pa pb out mg ac bc h3=> ?_
    cases r with
    |some r=>exact .pure ⟨r,rfl,h3⟩
    |none=>exact .bind (Tm.modify (.pure (h3.2.at h3.1 λl=>by have n1:i+1+ia+ib<=a.size+b.size:=h.n;have n2:1+ja+jb<=ia+ib:=h'.n;dsimp only at l ⊢;omega)))
 ·exact λc st1 h=>h.never (a8 _ _)
 ·intro c st1;revert c;refine Hg λr ia ib out mg h=> ?_
  obtain⟨c,rfl,gl,wh⟩:=h;exact .pure (q c st1 gl wh)
end
section
variable {prog:T7}{w:C1}{A:B2}{E:G3->G6->Prop}{J:G6->Prop}{κ:SortKind}{U:D6->Prop}{R:D6->D6->N2}
def Ú (l:G0 D6)(p n:G7):G0 D6:=(l.drop p).take n
variable {n:G7}
theorem VJ {l:G0 D6}{p i:G7}(hi:i<n):(Ú l p n)[i]? =l[p+i]? :=by
 unfold Ú;rw [aR hi,dB]
theorem Yw {l:G0 D6}{p:G7}(h:p+n<=l.length):(Ú l p n).length=n:=by
 unfold Ú;rw [S8,C6];omega
theorem Go {l:G0 D6}{p:G7}{x:D6}(h:x∈Ú l p n):x∈l:=L0 (L5 h)
theorem uv {left:N2}{arr:M8 D6}{y:D6}{base hint:G7}{st:C5}{Q:P7 G7->C5->Prop}(ak:Xe prog w A J κ U R)(kd:kindOf st=κ)(o:Ù U R)(u: ∀x∈arr.toList,U x)(s:Õ R (Ú arr.toList base n))(uy:U y)(hn:base+n<=arr.size)(hh:hint<n)
 (q: ∀k,k<=n->(∀x∈(Ú arr.toList base n).take k,(if left=true then R x y else !R y x)=true)->(∀x∈(Ú arr.toList base n).drop k,(if left=true then R x y else !R y x)=false)->Q (some k) st):Tm prog w A E J (gal left y arr base n hint) Q st:=by
 have ln:arr.toList.length=arr.size:=by simp
 have sl:(Ú arr.toList base n).length=n:=Yw (by omega);have us: ∀x∈Ú arr.toList base n,U x:=λx hx=>u x (Go hx)
 refine MJ ak kd uy (λi hi=> ?_) (λi j hij hj h=> ?_) hh (λk k1 k2 k3=>q k k1 (λx hx=> ?_) (λx hx=> ?_))
 ·obtain⟨x,lx,ex⟩:=Yv (show base+i<arr.size by omega);exact⟨x,ex,u x (P9 lx)⟩
 ·obtain⟨x,lx,_⟩:=Yv (show base+i<arr.size by omega);obtain⟨z,lz,_⟩:=Yv (show base+j<arr.size by omega);have ux:=u x (P9 lx);have uz:=u z (P9 lz);have le:=Yu s o us hij (by rw [VJ (by omega)];exact lx) (by rw [VJ hj];exact lz);rw [vC lz] at h;rw [vC lx];cases left with
  |true=>
   have hz:R z y=true:=by simpa using h
   rcases o.neg z x y uz ux uy hz with v|v
   ·rw [le] at v;cases v
   ·simp [v]
  |false=>
   have hz:R y z=false:=by simpa using h
   have:=o.trans ux uz uy le hz;simp [this]
 ·obtain⟨i,hi,e⟩:=Y5 hx;rw [S8,sl] at hi;have lx:arr.toList[base+i]? =some x:=by
   rw [<-VJ (n:=n) (by omega),G2 (by omega),<-e,pV]
  have:=k2 i (by omega);rw [vC lx] at this;exact this
 ·obtain⟨i,hi,e⟩:=Y5 hx;rw [C6,sl] at hi;have lx:arr.toList[base+(k+i)]? =some x:=by
   rw [<-VJ (n:=n) (by omega),G2 (by omega),<-e,pW]
  have:=k3 (k+i) (by omega) (by omega);rw [vC lx] at this;exact this
theorem Pp: ∀ (m:G0 D6) (arr:M8 D6) (p d:G7),p+d+m.length<=arr.size->((m.zipIdx d).foldl (λ(c:M8 D6) (x:D6×G7)=>c.setIfInBounds (p+x.2) x.1) arr).toList=arr.toList.take (p+d)++m++arr.toList.drop (p+d+m.length)
 | [],arr,p,d,_=>by simp
 |x::m,arr,p,d,h=>by
  rw [S7] at h;rw [List.zipIdx_cons,rC];rw [Pp m _ p (d+1) (by rw [j6];omega)];have hl:arr.toList.length=arr.size:=by simp
  rw [iH];have e1:(arr.toList.set (p+d) x).take (p+(d+1))=arr.toList.take (p+d)++ [x]:=by
   rw [show p+(d+1)=p+d+1 by omega,B6,dN (by omega)];rw [List.take_set_of_le (P5 _)];rfl
  have e2:(arr.toList.set (p+d) x).drop (p+(d+1)+m.length)=arr.toList.drop (p+d+(m.length+1)):=by
   rw [List.drop_set_of_lt (by omega),show p+(d+1)+m.length=p+d+(m.length+1) by omega]
  rw [e1,e2,S7];simp [D4]
end
section
variable {prog:T7}{w:C1}{A:B2}{E:G3->G6->Prop}{J:G6->Prop}{κ:SortKind}{U:D6->Prop}{R:D6->D6->N2}
theorem Tm.set {σ:Type}{st Å:σ}{Q:PUnit->σ->Prop}(q:Q ⟨⟩ Å):Tm prog w A E J (MonadStateOf.set Å:W8 σ Sem PUnit) Q st:=λs j=>by
 show D9 _ _ ((StateT.set Å:W8 σ Sem PUnit).run st) _ _ _;exact G8 ⟨q,j⟩
theorem MN (a:M8 D6){p n:G7}(h:p<=n):(a.extract p n).toList=Ú a.toList p (n-p):=by
 rw [aP,K3];rfl
theorem MO (o:Ù U R){l:G0 D6}(u: ∀x∈l,U x)(s:Õ R l){z:D6}(hz:l[l.length-1]? =some z){x:D6}(hx:x∈l):R z x=false:=by
 obtain⟨i,hi,e⟩:=Y5 hx;exact Yu s o u (show i<=l.length-1 by omega) (by rw [G2 hi,e]) hz
theorem Pq (o:Ù U R){l:G0 D6}(u: ∀x∈l,U x)(s:Õ R l){z:D6}(hz:l[0]? =some z){x:D6}(hx:x∈l):R x z=false:=by
 obtain⟨i,hi,e⟩:=Y5 hx;exact Yu s o u (B0 _) hz (by rw [G2 hi,e])
theorem Yx (o:Ù U R){X Y c:G0 D6}{k k2:G7}{y0 x9:D6}(uX: ∀x∈X,U x)(uY: ∀x∈Y,U x)(sX:Õ R X)(sY:Õ R Y)(hy:Y[0]? =some y0)(hx:X[X.length-1]? =some x9)
 (f1: ∀x∈X.take k,R y0 x=false)(g2: ∀y∈Y.drop k2,R y x9=false)(hp:c.Perm (X.drop k++Y.take k2))(sc:Õ R c):(X.take k++c++Y.drop k2).Perm (X++Y)/\Õ R (X.take k++c++Y.drop k2):=by
 have uy0:=uY y0 (P9 hy);have ux9:=uX x9 (P9 hx);constructor
 ·have e:X++Y=X.take k++(X.drop k++Y.take k2)++Y.drop k2:=by
   rw [<-D4,T9,D4,T9]
  rw [e];exact(hp.append_left _).append_right _
 ·have inX: ∀x∈X.take k,∀z∈X.drop k,R z x=false:=λx hx z hz=>by
   have:Õ R (X.take k++X.drop k):=by rw [T9];exact sX
   exact(B1.mp this).2.2 x hx z hz
  have inY: ∀x∈Y.take k2,∀z∈Y.drop k2,R z x=false:=λx hx z hz=>by
   have:Õ R (Y.take k2++Y.drop k2):=by rw [T9];exact sY
   exact(B1.mp this).2.2 x hx z hz
  have xy: ∀x∈X.take k,∀y∈Y,R y x=false:=λx hx y Ŀ=>o.trans (uX x (L5 hx)) uy0 (uY y Ŀ) (f1 x hx) (Pq o uY sY hy Ŀ)
  have yx: ∀x∈X,∀y∈Y.drop k2,R y x=false:=λx ă y Ŀ=>o.trans (uX x ă) ux9 (uY y (L0 Ŀ)) (MO o uX sX hx ă) (g2 y Ŀ)
  have xc: ∀x∈X.take k,∀z∈c,R z x=false:=λx hx z hz=>by
   rcases D5.mp (hp.mem_iff.mp hz) with v|v
   ·exact inX x hx z v
   ·exact xy x hx z (L5 v)
  refine B1.mpr ⟨B1.mpr ⟨sX.sublist (E6 _ _),sc,xc⟩,sY.sublist (U9 _ _),λx hx y hy=> ?_⟩;rcases D5.mp hx with v|v
  ·exact xy x v y (L0 hy)
  ·rcases D5.mp (hp.mem_iff.mp v) with v|v
   ·exact yx x (L0 v) y hy
   ·exact inY x v y hy
theorem XR (l:G0 D6){p n m:G7}:l=l.take p++(Ú l p n++Ú l (p+n) m)++l.drop (p+n+m):=by
 unfold Ú;have e1:(l.drop (p+n)).take m++l.drop (p+n+m)=l.drop (p+n):=by
  rw [show l.drop (p+n+m)=(l.drop (p+n)).drop m by rw [aD],T9]
 have e2:(l.drop p).take n++l.drop (p+n)=l.drop p:=by
  rw [show l.drop (p+n)=(l.drop p).drop n by rw [aD],T9]
 rw [D4,D4,e1,e2,T9]
theorem Te {st:C5}{Q:N2->C5->Prop}{i sa na pw sb nb pw2:G7}(ak:Xe prog w A J κ U R)(kd:kindOf st=κ)(o:Ù U R)(u: ∀x∈(T4 st).toList,U x)(p1:(B3 st)[i]? =some (sa,na,pw))(p2:(B3 st)[i+1]? =some (sb,nb,pw2))
 (hs:sa+na=sb)(n1:1<=na)(n2:1<=nb)(hz:sb+nb<=(T4 st).size)(s1:Õ R (Ú (T4 st).toList sa na))(s2:Õ R (Ú (T4 st).toList sb nb))(hf:aO st=none)
 (q: ∀Å Z,kindOf Å=κ->aO Å=none->B3 Å=((B3 st).setIfInBounds i (sa,na+nb,pw)).eraseIdxIfInBounds (i+1)->(T4 Å).toList=(T4 st).toList.take sa++Z++(T4 st).toList.drop (sb+nb)->Z.Perm (Ú (T4 st).toList sa na++Ú (T4 st).toList sb nb)->Õ R Z->Q true Å):
 Tm prog w A E J (IF i) Q st:=by
 have ln:(T4 st).toList.length=(T4 st).size:=by simp
 unfold IF;refine .bind (.get ?_);dsimp only;rw [p1,p2];dsimp only;refine .bind (Tm.set ?_);subst hs;have lX:(Ú (T4 st).toList sa na).length=na:=Yw (by omega);have lY:(Ú (T4 st).toList (sa+na) nb).length=nb:=Yw (by omega);have uX: ∀x∈Ú (T4 st).toList sa na,U x:=λx hx=>u x (Go hx)
 have uY: ∀x∈Ú (T4 st).toList (sa+na) nb,U x:=λx hx=>u x (Go hx)
 obtain⟨y0,ly0,ey0⟩:=Yv (arr:=T4 st) (show sa+na<(T4 st).size by omega);obtain⟨x9,lx9,ex9⟩:=Yv (arr:=T4 st) (show sa+(na-1)<(T4 st).size by omega);have hy:(Ú (T4 st).toList (sa+na) nb)[0]? =some y0:=by rw [VJ (by omega)];exact ly0
 have hx:(Ú (T4 st).toList sa na)[(Ú (T4 st).toList sa na).length-1]? =some x9:=by rw [lX,VJ (by omega)];exact lx9
 have uy0:=u y0 (P9 ly0);have ux9:=u x9 (P9 lx9);have c3:=XR (T4 st).toList (p:=sa) (n:=na) (m:=nb);have same: ∀ (Å:C5),T4 Å=T4 st-> ∀k k2,(∀x∈(Ú (T4 st).toList sa na).take k,R y0 x=false)->(∀y∈(Ú (T4 st).toList (sa+na) nb).drop k2,R y x9=false)->(na<=k\/k2=0)->Õ R (Ú (T4 st).toList sa na++Ú (T4 st).toList (sa+na) nb):=λÅ e k k2 f1 g2 h=>by
  have pl:(((Ú (T4 st).toList sa na).drop k++(Ú (T4 st).toList (sa+na) nb).take k2)).Perm ((Ú (T4 st).toList sa na).drop k++(Ú (T4 st).toList (sa+na) nb).take k2):= .refl _;have sc:Õ R ((Ú (T4 st).toList sa na).drop k++(Ú (T4 st).toList (sa+na) nb).take k2):=by
   rcases h with h|h
   ·rw [A1 (by omega),A9];exact s2.sublist (E6 _ _)
   ·rw [h,dZ,A8];exact s1.sublist (U9 _ _)
  have:=(Yx o uX uY s1 s2 hy hx f1 g2 pl sc).2;rw [<-D4,T9,D4,T9] at this;exact this
 refine .bind (.elem ey0 (.bind (uv (left:=false) ak kd o u s1 uy0 (show sa+na<=(T4 st).size by omega) (by omega) λk k1 f1 f2=> ?_)));have f1: ∀x∈(Ú (T4 st).toList sa na).take k,R y0 x=false:=λx hx=>by simpa using f1 x hx
 have f2: ∀x∈(Ú (T4 st).toList sa na).drop k,R y0 x=true:=λx hx=>by simpa using f2 x hx
 dsimp only
 by_cases z1:na-k=0
 ·rw [R5 (by simpa using z1)];refine .pure (q _ (Ú (T4 st).toList sa na++Ú (T4 st).toList (sa+na) nb) kd hf rfl c3 (.refl _) (same st rfl k nb f1 (λy hy=> ?_) (.inl (by omega))));rw [A1 (by omega)] at hy;cases hy
 rw [R3 (by simpa using z1)];refine .bind (.elem (show _=some x9 by rw [show sa+k+(na-k)-1=sa+(na-1) by omega];exact ex9) (.bind (uv (left:=true) ak kd o u s2 ux9 (show sa+na+nb<=(T4 st).size by omega) (by omega) λk2 j1 g1 g2=> ?_)));have g1: ∀y∈(Ú (T4 st).toList (sa+na) nb).take k2,R y x9=true:=λx hx=>by simpa using g1 x hx
 have g2: ∀y∈(Ú (T4 st).toList (sa+na) nb).drop k2,R y x9=false:=λx hx=>by simpa using g2 x hx
 dsimp only
 by_cases z2:k2=0
 ·rw [R5 (by simpa using z2)];exact .pure (q _ _ kd hf rfl c3 (.refl _) (same st rfl k k2 f1 g2 (.inr z2)))
 rw [R3 (by simpa using z2)];have eX:((T4 st).extract (sa+k) (sa+na)).toList=(Ú (T4 st).toList sa na).drop k:=by
  rw [MN _ (by omega)];unfold Ú;rw [nM,aD,show sa+na-(sa+k)=na-k by omega]
 have eY:((T4 st).extract (sa+na) (sa+na+k2)).toList=(Ú (T4 st).toList (sa+na) nb).take k2:=by
  rw [MN _ (by omega)];unfold Ú;rw [nN,show sa+na+k2-(sa+na)=min k2 nb by omega]
 have sx:((T4 st).extract (sa+k) (sa+na)).size=na-k:=by rw [<-N0,eX,C6,lX]
 have sy:((T4 st).extract (sa+na) (sa+na+k2)).size=k2:=by rw [<-N0,eY,S8,lY];omega
 have hx2: ∀z,((Ú (T4 st).toList sa na).drop k)[((Ú (T4 st).toList sa na).drop k).length-1]? =some z->z=x9:=λz Ĭ=>by
  rw [C6,dB,lX,show k+(na-k-1)=na-1 by omega] at Ĭ;rw [lX] at hx;rw [hx] at Ĭ;injection Ĭ with Ĭ;exact Ĭ.symm
 have hy2: ∀z,((Ú (T4 st).toList (sa+na) nb).take k2)[0]? =some z->z=y0:=λz Ĭ=>by
  rw [aR (by omega),hy] at Ĭ;injection Ĭ with Ĭ;exact Ĭ.symm
 have put: ∀c:M8 D6,Jp R ((T4 st).extract (sa+k) (sa+na)) ((T4 st).extract (sa+na) (sa+na+k2)) c->(c.toList.zipIdx.foldl (λ(d:M8 D6) (x:D6×G7)=>d.setIfInBounds (sa+k+x.2) x.1) (T4 st)).toList=(T4 st).toList.take sa++((Ú (T4 st).toList sa na).take k++c.toList++(Ú (T4 st).toList (sa+na) nb).drop k2)++(T4 st).toList.drop (sa+na+nb):=λc wh=>by
  have lc:c.toList.length=na-k+k2:=by
   rw [wh.1.length_eq,P2,N0,N0,sx,sy]
  have:=Pp c.toList (T4 st) (sa+k) 0 (by omega);rw [this,lc,mD,show sa+k+(na-k+k2)=sa+na+k2 by omega];have e1:(T4 st).toList.take (sa+k)=(T4 st).toList.take sa++(Ú (T4 st).toList sa na).take k:=by
   unfold Ú;rw [nN,Q5 k1,List.take_add]
  have e2:(T4 st).toList.drop (sa+na+k2)=(Ú (T4 st).toList (sa+na) nb).drop k2++(T4 st).toList.drop (sa+na+nb):=by
   unfold Ú;have h1:((T4 st).toList.drop (sa+na)).drop k2=(((T4 st).toList.drop (sa+na)).take nb++((T4 st).toList.drop (sa+na)).drop nb).drop k2:=by rw [T9]
   rw [X0 (by rw [S8,C6];omega),aD,aD] at h1;exact h1
  rw [e1,e2];simp [D4]
 have jr: ∀c:M8 D6,Jp R ((T4 st).extract (sa+k) (sa+na)) ((T4 st).extract (sa+na) (sa+na+k2)) c->_:=λc wh=>Yx o (c:=c.toList) uX uY s1 s2 hy hx f1 g2 (by have:=wh.1;rw [eX,eY] at this;exact this) wh.2
 by_cases z3:na-k<=k2
 ·rw [R5 z3];refine .bind (Tc ak kd ⟨o,λx hx=> ?_,λx hx=> ?_,?_,?_,λy hy z Ĭ=> ?_⟩ (by rw [sx];omega) (by rw [sy];omega) (λy z Ŀ Ĭ=> ?_) λc Å gl wh=> .bind (Tm.modify (.bind (.get (.pure ?_)))))
  ·rw [eX] at hx;exact uX x (L0 hx)
  ·rw [eY] at hx;exact uY x (L5 hx)
  ·rw [eX];exact s1.sublist (U9 _ _)
  ·rw [eY];exact s2.sublist (E6 _ _)
  ·rw [eY] at hy;rw [eX] at Ĭ;rw [hx2 z Ĭ];exact g1 y hy
  ·rw [eY] at Ŀ;rw [eX] at Ĭ;rw [hy2 y Ŀ];exact f2 z (P9 Ĭ)
  ·have e:aO Å=none:=gl.2.2.2.trans hf;show Q (aO Å).isNone _;rw [e];refine q _ _ (gl.1.trans kd) e gl.2.2.1 ?_ (jr c wh).1 (jr c wh).2;have ea:T4 Å=T4 st:=gl.2.1;show (c.toList.zipIdx.foldl _ (T4 Å)).toList=_;rw [ea];exact put c wh
 ·rw [R3 z3];refine .bind (Td ak kd ⟨o,λx hx=> ?_,λx hx=> ?_,?_,?_,λz Ĭ y Ŀ=> ?_⟩ (by rw [sx];omega) (by rw [sy];omega) (λy z Ŀ Ĭ=> ?_) λc Å gl wh=> .bind (Tm.modify (.bind (.get (.pure ?_)))))
  ·rw [eX] at hx;exact uX x (L0 hx)
  ·rw [eY] at hx;exact uY x (L5 hx)
  ·rw [eX];exact s1.sublist (U9 _ _)
  ·rw [eY];exact s2.sublist (E6 _ _)
  ·rw [eY] at Ŀ;rw [eX] at Ĭ;rw [hy2 y Ŀ];exact f2 z Ĭ
  ·rw [eY] at Ŀ;rw [eX,sx] at Ĭ;have:=hx2 z (by rw [C6,lX];exact Ĭ);rw [this];exact g1 y (P9 Ŀ)
  ·have e:aO Å=none:=gl.2.2.2.trans hf;show Q (aO Å).isNone _;rw [e];refine q _ _ (gl.1.trans kd) e gl.2.2.1 ?_ (jr c wh).1 (jr c wh).2;have ea:T4 Å=T4 st:=gl.2.1;show (c.toList.zipIdx.foldl _ (T4 Å)).toList=_;rw [ea];exact put c wh
end
section
variable {prog:T7}{w:C1}{A:B2}{E:G3->G6->Prop}{J:G6->Prop}{κ:SortKind}{U:D6->Prop}{R:D6->D6->N2}
def Þ (st:C5)(P Z S:G0 D6):Prop:=(T4 st).toList=P++Z++S
def Ť (st Å:C5):Prop:=kindOf Å=kindOf st/\B3 Å=B3 st/\aO Å=aO st/\gallopOf Å=gallopOf st
theorem Ť.refl (st:C5):Ť st st:=⟨rfl,rfl,rfl,rfl⟩
theorem Cs (xs:M8 D6)(P Z S:G0 D6)(h:xs.toList=P++Z++S):(mirror xs P.length (P.length+Z.length) ((P.length+Z.length-P.length) / 2)).toList=P++Z.reverse++S:=by
 have hl:xs.size=P.length+Z.length+S.length:=by rw [<-N0,h];simp [cT]
 refine eQ λk=> ?_
 rw [C3,getElem?_mirror_all (by omega)]
 by_cases c:P.length<=k/\k<P.length+Z.length
 ·rw [R5 c,<-C3,h,D4,D4];have e1:(P++(Z++S))[P.length+(P.length+Z.length)-1-k]? =Z[P.length+Z.length-1-k]? :=by
   rw [B8 (by omega),O8 (by omega)]
   congr 1;omega
  have e2:(P++(Z.reverse++S))[k]? =Z[P.length+Z.length-1-k]? :=by
   rw [B8 (by omega),O8 (by rw [N4];omega),bO (by omega)]
   congr 1;omega
  rw [e1,e2]
 ·rw [R3 c,<-C3,h,D4,D4]
  by_cases d:k<P.length
  ·rw [O8 d,O8 d]
  ·have e1:(P++(Z++S))[k]? =S[k-P.length-Z.length]? :=by
    rw [B8 (by omega),B8 (by omega)]
   have e2:(P++(Z.reverse++S))[k]? =S[k-P.length-Z.length]? :=by
    rw [B8 (by omega),B8 (by rw [N4];omega),N4]
   rw [e1,e2]
theorem Tm.rev {st:C5}{P Z S:G0 D6}{i j:G7}{Q:Unit->C5->Prop}(h:Þ st P Z S)(hi:i=P.length)(hj:j=P.length+Z.length)(q: ∀Å,Ť st Å->Þ Å P Z.reverse S->Q () Å):Tm prog w A E J (tN i j) Q st:=by
 rw [reverseSlice'_eq];subst hi hj;exact .modify (q _ ⟨rfl,rfl,rfl,rfl⟩ (Cs _ P Z S h))
theorem Tm.ltAt {st:C5}{x y:D6}{i j:G7}{Q:P7 N2->C5->Prop}(ak:Xe prog w A J κ U R)(kd:kindOf st=κ)(hx:(T4 st).toList[i]? =some x)(hy:(T4 st).toList[j]? =some y)(ux:U x)(uy:U y)(q:Q (some (R x y)) st):Tm prog w A E J (ltAt' i j) Q st:=by
 rw [ltAt'_eq];exact .bind (.get (.bind (.elem (by rw [<-C3];exact hx) (.bind (.elem (by rw [<-C3];exact hy) (.lt ak kd ux uy q))))))
abbrev Dsc (R:D6->D6->N2)(l:G0 D6):Prop:=l.Pairwise λx y=>R x y=false
theorem OZ {l:G0 D6}(d:Dsc R l):Õ R l.reverse:=fJ.mpr d
theorem Ct (o:Ù U R){l:G0 D6}{x y:D6}(u: ∀z∈l++ [x],U z)(uy:U y)(s:Õ R (l++ [x]))(h:R y x=false):Õ R (l++ [x]++ [y]):=by
 refine B1.mpr ⟨s,O7 _ _,λz hz v hv=> ?_⟩;rw [G9.mp hv];have ux:=u x (by simp);rcases D5.mp hz with w|w
 ·exact o.trans (u z hz) ux uy ((B1.mp s).2.2 z w x (by simp)) h
 ·rw [G9.mp w];exact h
theorem Cu {l m:G0 D6}(s:Dsc R (l++m))(alike: ∀x∈m,∀y∈m,R x y=false):Dsc R (l++m.reverse):=by
 obtain⟨a,b,c⟩:=B1.mp s;refine B1.mpr ⟨a,?_,λx hx y hy=>c x hx y (E2.mp hy)⟩;rw [V8];intro i j hi hj _;exact alike _ (E2.mp (N6 hi)) _ (E2.mp (N6 hj))
end
section
variable {prog:T7}{w:C1}{A:B2}{E:G3->G6->Prop}{J:G6->Prop}{κ:SortKind}{U:D6->Prop}{R:D6->D6->N2}
theorem Ť.trans {a b c:C5}(x:Ť a b)(y:Ť b c):Ť a c:=⟨y.1.trans x.1,y.2.1.trans x.2.1,y.2.2.1.trans x.2.2.1,y.2.2.2.trans x.2.2.2⟩
variable {P Z:G0 D6}
theorem Þ.rest {st:C5}{S:G0 D6}(h:Þ st P Z S){i:G7}:(T4 st).toList[P.length+Z.length+i]? =S[i]? :=by
 rw [h,B8 (by rw [P2];omega),P2]
 congr 1;omega
theorem Þ.end {st:C5}{W S:G0 D6}{x:D6}(h:Þ st P (W++ [x]) S):(T4 st).toList[P.length+W.length]? =some x:=by
 rw [h,D4,B8 (by omega),D4,B8 (by omega)];simp
theorem VL {l:G0 D6}(h:1<=l.length): ∃W x,l=W++ [x]:=by
 rcases mS l with e|⟨W,x,e⟩
 ·subst e;simp at h
 ·exact⟨W,x,by rw [e,mT]⟩
structure Ċ (R:D6->D6->N2)(T Z1 Z2:G0 D6)(n:G7):Prop where
 len:(Z1++Z2).length=n
 perm:(Z1++Z2).Perm (T.take n)
 dsc:Dsc R (Z1++Z2)
 alike: ∀x∈Z2,∀y∈Z2,R x y=false
 ne:1<=Z2.length
variable {T:G0 D6}{n:G7}
theorem Ċ.turn {Z1 Z2:G0 D6}(f:Ċ R T Z1 Z2 n):Ċ R T Z1 Z2.reverse n:=
 ⟨by have:=f.len;simp only [P2,N4] at this ⊢;exact this,((V1 Z2).append_left Z1).trans f.perm,Cu f.dsc f.alike,λx hx y hy=>f.alike x (E2.mp hx) y (E2.mp hy),by rw [N4];exact f.ne⟩
theorem Ċ.mem {Z1 Z2:G0 D6}(f:Ċ R T Z1 Z2 n){x:D6}(h:x∈Z1++Z2):x∈T:=L5 (f.perm.mem_iff.mp h)
theorem Zo {y:D6}(h:Z.Perm (T.take n))(hy:T[n]? =some y):(Z++ [y]).Perm (T.take (n+1)):=by
 rw [Yt hy];exact h.append_right _
theorem Ċ.below (o:Ù U R){T Z1 Z2:G0 D6}{n:G7}{x y:D6}(u: ∀x∈T,U x)(f:Ċ R T Z1 Z2 n)(hx:x∈Z2)(hy:T[n]? =some y)(h:R y x=true):Ċ R T (Z1++Z2) [y] (n+1):=by
 have uy:=u y (P9 hy);have ux:=u x (f.mem (D5.mpr (.inr hx)));have xy:=o.asym y x uy ux h;refine⟨by rw [P2,f.len];rfl,Zo f.perm hy,?_,λa ha b hb=> ?_,by simp⟩
 ·refine B1.mpr ⟨f.dsc,O7 _ _,λz hz v hv=> ?_⟩;rw [G9.mp hv];have uz:=u z (f.mem hz);have zx:R z x=false:=by
   rcases D5.mp hz with w|w
   ·exact(B1.mp f.dsc).2.2 z w x hx
   ·exact f.alike z w x hx
  exact o.trans uy ux uz xy zx
 ·rw [G9.mp ha,G9.mp hb];exact o.refl uy
theorem Ċ.like (o:Ù U R){T Z1 Z2:G0 D6}{n:G7}{x y:D6}(u: ∀x∈T,U x)(f:Ċ R T Z1 Z2 n)(hx:x∈Z2)(hy:T[n]? =some y)(h:R y x=false)(h':R x y=false):Ċ R T Z1 (Z2++ [y]) (n+1):=by
 have uy:=u y (P9 hy);have ux:=u x (f.mem (D5.mpr (.inr hx)));have zy: ∀z∈Z1++Z2,R z y=false:=λz hz=>by
  have uz:=u z (f.mem hz);have zx:R z x=false:=by
   rcases D5.mp hz with w|w
   ·exact(B1.mp f.dsc).2.2 z w x hx
   ·exact f.alike z w x hx
  exact o.trans uy ux uz h' zx
 have yz: ∀z∈Z2,R y z=false:=λz hz=>o.trans (u z (f.mem (D5.mpr (.inr hz)))) ux uy (f.alike x hx z hz) h
 refine⟨by rw [<-D4,P2,f.len];rfl,by rw [<-D4];exact Zo f.perm hy,?_,λa ha b hb=> ?_,by simp⟩
 ·rw [<-D4];refine B1.mpr ⟨f.dsc,O7 _ _,λz hz v hv=> ?_⟩;rw [G9.mp hv];exact zy z hz
 ·rcases D5.mp ha with p|p<;>rcases D5.mp hb with r|r
  ·exact f.alike a p b r
  ·rw [G9.mp r];exact zy a (D5.mpr (.inr p))
  ·rw [G9.mp p];exact yz b r
  ·rw [G9.mp p,G9.mp r];exact o.refl uy
theorem Þ.more {st:C5}{m:G7}{y:D6}(L:Þ st P Z (T.drop m))(hy:T[m]? =some y):Þ st P (Z++ [y]) (T.drop (m+1)):=by
 unfold Þ at L ⊢;rw [L,zH hy];simp
theorem Þ.part {st:C5}{Z1 Z2 S:G0 D6}:Þ st P (Z1++Z2) S↔Þ st (P++Z1) Z2 S:=by
 unfold Þ;simp only [D4]
theorem Þ.two {st:C5}{m:G7}{y:D6}(L:Þ st P Z (T.drop m))(lz:Z.length=m)(m1:1<=m)(hy:T[m]? =some y):(T4 st).toList[P.length+m]? =some y/\ ∃W x,Z=W++ [x]/\(T4 st).toList[P.length+m-1]? =some x:=by
 have a:=L.rest (i:=0);rw [dB,lz,mD,mD,hy] at a;obtain⟨W,x,e⟩:=VL (l:=Z) (by omega);subst e;refine⟨a,W,x,rfl,?_⟩;rw [<-L.end]
 congr 1
 rw [P2,fI] at lz;omega
section
variable {σ ρ τ α:Type}{st:σ}
theorem Tm.rangeN {f:G7->P7 ρ×τ->W8 σ Sem (dH (P7 ρ×τ))}(I:G7->τ->σ->Prop){Q:τ->σ->Prop}{Q':P7 ρ×τ->σ->Prop}{a b:G7}{c:τ}(hab:a<=b)(h:I a c st)(step: ∀i c st,i<b->I i c st->Tm prog w A E J (f i (none,c)) (λr Å=>match r with| .done c'=>c'.1=none/\Q c'.2 Å| .yield c'=>c'.1=none/\I (i+1) c'.2 Å) st)(fin: ∀c st,I b c st->Q c st)(q: ∀c st,Q c st->Q' (none,c) st):Tm prog w A E J (forIn [a:b] ((none:P7 ρ),c) f) Q' st:=by
 refine Tm.mono (Tm.range (λi c st=>c.1=none/\I i c.2 st) (Q:=λc st=>c.1=none/\Q c.2 st) hab ⟨rfl,h⟩ ?_ λc st h=>⟨h.1,fin _ _ h.2⟩) ?_
 ·rintro i ⟨_,c⟩ st hi ⟨rfl,h⟩;exact(step i c st hi h).mono λr Å x=>by cases r<;>exact x
 ·rintro ⟨_,c⟩ st ⟨rfl,h⟩;exact q c st h
theorem Tm.fork {c:Prop}[Decidable c]{t e:W8 σ Sem α}{Q:α->σ->Prop}(I:σ->Prop)(G: ∀s,I s->Tm prog w A E J e Q s)(T:c->(∀s,I s->Tm prog w A E J e Q s)->Tm prog w A E J t Q st)(F: ¬c->I st):Tm prog w A E J (if c then t else e) Q st:=
 .if2 (λh=>T h G) λh=>G _ (F h)
end
section
variable {st:C5}{P T Z:G0 D6}{m:G7}
theorem MP {f:G7->P7 (P7 G7)×G7->W8 C5 Sem (dH (P7 (P7 G7)×G7))}{G:G7->P7 N2->W8 C5 Sem (dH (P7 (P7 G7)×G7))}{Q:P7 (P7 G7)×G7->C5->Prop}(ak:Xe prog w A J κ U R)(kd:kindOf st=κ)(o:Ù U R)(u: ∀x∈T,U x)
 (hf: ∀i n,f i (none,n)=ltAt' (P.length+n) (P.length+n-1) >>= G n)(hG: ∀n,G n (some true)=Pure.pure (.done (none,n))/\G n (some false)=Pure.pure (.yield (none,n+1)))
 (m1:1<=m)(m2:m<=T.length)(L:Þ st P Z (T.drop m))(p:Z.Perm (T.take m))(s:Õ R Z)
 (q: ∀n Z',1<=n->n<=T.length->Þ st P Z' (T.drop n)->Z'.Perm (T.take n)->Õ R Z'->(∀y,T[n]? =some y-> ∃W x,Z'=W++ [x]/\R y x=true)->Q (none,n) st):Tm prog w A E J (forIn [m:T.length] ((none:P7 (P7 G7)),m) f) Q st:=by
 refine Tm.rangeN (λi c s=>s=st/\c=i/\1<=i/\ ∃Z,Þ st P Z (T.drop i)/\Z.Perm (T.take i)/\Õ R Z) (Q:=λn s=>s=st/\Q (none,n) st) m2 ⟨rfl,rfl,m1,Z,L,p,s⟩ ?_ ?_ λc s h=>h.1 ▸ h.2
 ·rintro _ i _ hi ⟨rfl,rfl,i1,Z,L,p,s⟩;have hy:=G2 hi;obtain⟨ay,W,x,rfl,ax⟩:=L.two (by rw [p.length_eq,S8,Q5 (M5 hi)]) i1 hy;have uy:=u _ (N6 hi);have uZ: ∀z∈W++ [x],U z:=λz hz=>u z (L5 (p.mem_iff.mp hz))
  rw [hf];refine .bind (.ltAt ak kd ay ax uy (uZ x (by simp)) ?_);cases hb:R T[i] x with
  |true=>
   rw [(hG _).1];exact .pure ⟨rfl,rfl,q i _ i1 (M5 hi) L p s λy h=>⟨W,x,rfl,by rw [hy] at h;injection h with h;rw [<-h];exact hb⟩⟩
  |false=>
   rw [(hG _).2];exact .pure ⟨rfl,rfl,rfl,cJ (B0 _),_,L.more hy,Zo p hy,Ct o uZ uy s hb⟩
 ·rintro _ _ ⟨rfl,rfl,i1,Z,L,p,s⟩;exact⟨rfl,q _ Z i1 (P5 _) L p s λy h=>absurd (P8.mp h).1 (A4 _)⟩
end
def ť (R:D6->D6->N2)(P T:G0 D6)(st Å:C5)(n k:G7):Prop:=Ť st Å/\ ∃Z1 Z2,Þ Å P (Z1++Z2) (T.drop n)/\Ċ R T Z1 Z2 n/\Z2.length=k+1
theorem ť.rev {st s2:C5}{k:G7}{Q:Unit->C5->Prop}(h:ť R P T st s2 n k)(q: ∀s3,ť R P T st s3 n k->Q () s3):Tm prog w A E J (tN (P.length+n-(k+1)) (P.length+n)) Q s2:=by
 obtain⟨ar,Z1,Z2,L,F,l⟩:=h;have l12:=F.len;rw [P2] at l12;exact .rev (Þ.part.mp L) (by rw [P2];omega) (by rw [P2];omega) λs3 ar3 L3=>q s3 ⟨ar.trans ar3,Z1,_,Þ.part.mpr L3,F.turn,by rw [N4];exact l⟩
theorem Cv {st:C5}{Q:P7 G7->C5->Prop}(ak:Xe prog w A J κ U R)(kd:kindOf st=κ)(o:Ù U R)(u: ∀x∈T,U x)(h:Þ st P [] T)(h1:1<=T.length)
 (q: ∀n Å Z,1<=n->n<=T.length->Ť st Å->Þ Å P Z (T.drop n)->Z.Perm (T.take n)->Õ R Z->Q (some n) Å):Tm prog w A E J (countRun' P.length T.length) Q st:=by
 refine .bind (MP (m:=1) (Z:=T.take 1) ak kd o u (by exact λi n=>rfl) (by exact λn=>⟨rfl,rfl⟩) (P5 _) h1 ?_ (.refl _) ?_ λn Z n1 n2 L p sr br=> ?_)
 ·unfold Þ at h ⊢;rw [h,A8,D4,T9]
 ·match T,h1 with
  |x::r,_=>exact O7 _ _
 refine .eq2 (x:=n) (y:=T.length) (λz1=> .pure (q n _ _ n1 n2 (Ť.refl _) L p sr)) λz1=> ?_
 have n3:n<T.length:=E7 n2 z1;have hy:=G2 n3;have uZ: ∀z∈Z,U z:=λz hz=>u z (L5 (p.mem_iff.mp hz))
 obtain⟨W,x,e,yx⟩:=br _ hy;have lz:Z.length=n:=by rw [p.length_eq,S8,Q5 n2]
 have xin:x∈Z:=by rw [e];simp
 have xl:Z[Z.length-1]? =some x:=by rw [e];simp
 have F0:(∀p∈Z,∀r∈Z,R p r=false)->Ċ R T [] Z n:=λal=>⟨lz,p,V8.mpr λi j hi hj _=>al _ (N6 hi) _ (N6 hj),al,by rw [lz];exact n1⟩
 refine Tm.fork (λs=>ť R P T st s (n+1) 0) ?_ ?_ ?_
 ·intro s1 F1;refine .bind (.rule (.bind (Tm.rangeN (λi c s=>c.1=i/\ť R P T st s c.1 c.2) (Q:=λc s=>c.1<=T.length/\ť R P T st s c.1 c.2) n3 ⟨rfl,F1⟩ ?_ (λc s h=>⟨Q4 h.1,h.2⟩) ?_)))
  ·intro i c s2 hi h2;have hc:c.1<T.length:=by rw [h2.1];exact hi
   have hy:=G2 hc;have uy:=u _ (N6 hc);obtain⟨e1,ar2,Z1,Z2,L2,F2,l2⟩:=h2;have l12:=F2.len;obtain⟨ay,W,x,eW,ax⟩:=L2.two l12 (by rw [<-l12,P2,l2];exact E8 _ _) hy;have xin:x∈Z2:=by
    obtain⟨V,v,e⟩:=VL F2.ne;have e':=congrArg List.getLast? eW;rw [e,<-D4,nO,nO] at e';injection e' with e'
    rw [e,<-e'];simp
   have ux:=u x (F2.mem (D5.mpr (.inr xin)));refine .bind (.ltAt ak (ar2.1.trans kd) ay ax uy ux (.if2 (c:=R _ x=true) (λhb=> ?_) λhb=> .bind (.ltAt ak (ar2.1.trans kd) ax ay ux uy (.if2 (c:=R x _=true) (λΡ=> .pure ⟨rfl,M5 hc,ar2,Z1,Z2,L2,F2,l2⟩) λΡ=> ?_))))
   ·refine Tm.fork (λs=>ť R P T st s (c.1+1) 0) (λs h=> .pure ⟨rfl,congrArg G0Q e1,h⟩) (λzq H=> .bind ?_) λzq=>⟨ar2,Z1++Z2,[T[c.1]],L2.more hy,F2.below o u xin hy hb,rfl⟩
    have X1F:=l12;rw [P2] at X1F;exact .rev (Þ.part.mp L2) (by rw [P2];dsimp only;omega) (by rw [P2];dsimp only;omega) λs3 ar3 L3=>H s3 ⟨ar2.trans ar3,Z1++Z2.reverse,[T[c.1]],(Þ.part.mpr L3).more hy,F2.turn.below o u (E2.mpr xin) hy hb,rfl⟩
   ·refine .pure ⟨rfl,congrArg G0Q e1,ar2,Z1,Z2++ [T[c.1]],?_,F2.like o u xin hy (bW.mpr hb) (bW.mpr Ρ),by rw [P2,l2];rfl⟩;rw [<-D4];exact L2.more hy
  ·intro c s2 h2;refine Tm.fork (λs=> ∃k,ť R P T st s c.1 k) ?_ (λzq H=> .bind (h2.2.rev λs h=>H s ⟨_,h⟩)) λzq=>⟨_,h2.2⟩
   intro s3 h3;obtain⟨k,ar3,Z1,Z2,L3,F3,l3⟩:=h3;have m1:1<=c.1:=by rw [<-F3.len,P2,l3];exact E8 _ _
   exact .bind (.rev L3 rfl (by rw [F3.len]) λs4 ar4 L4=> .bind (MP ak ((ar3.trans ar4).1.trans kd) o u (by exact λi n=>rfl) (by exact λn=>⟨rfl,rfl⟩) m1 h2.1 L4 ((V1 _).trans F3.perm) (OZ F3.dsc) λn Z n1 n2 L p sr _=> .pure (q n s4 Z n1 n2 (ar3.trans ar4) L p sr)))
 ·intro z2 H;obtain⟨x0,V,eV⟩: ∃x0 V,Z=x0::V:=by
   match Z,xin with
   |a::r,_=>exact⟨a,r,rfl⟩
  have ux:=uZ x xin;have ux0:=uZ x0 (by rw [eV];simp);have a0:(T4 st).toList[P.length]? =some x0:=by rw [L,eV];simp
  have a1:(T4 st).toList[P.length+n-1]? =some x:=by
   obtain⟨_,W',x',e',ax⟩:=L.two lz n1 hy;rw [e] at e';rw [ax,(List.append_inj' e' rfl).2 |> λh=>(List.cons.inj h).1]
  exact .bind (.ltAt ak kd a0 a1 ux0 ux (.if2 (c:=R x0 x=true) (λ_=> .pure (q n _ _ n1 n2 (Ť.refl _) L p sr)) λhr0=> .bind (.rev L rfl (by rw [lz]) λs1 ar1 L1=>H s1 ⟨ar1,_,_,L1.more hy,Ċ.below o u (Z1:= []) (Ċ.turn (F0 λp hp r hr=>o.trans (uZ r hr) ux (uZ p hp) (MO o uZ sr xl hr) (bW.mpr λv=>(o.neg p x0 x (uZ p hp) ux0 ux v).elim (λv=>by rw [Pq o uZ sr (z:=x0) (by rw [eV];rfl) hp] at v;cases v) hr0))) (E2.mpr xin) hy yx,rfl⟩)))
 ·intro z2;have w0:W= []:=X1 (by rw [e,P2,fI] at lz;omega);have f: ∀z∈Z,z=x:=λz hz=>by rw [e,w0] at hz;exact G9.mp hz
  exact⟨Ť.refl st,_,_,L.more hy,Ċ.below o u (Z1:= []) (F0 λp hp r hr=>by rw [f p hp,f r hr];exact o.refl (uZ x xin)) xin hy yx,rfl⟩
end
section
variable {prog:T7}{w:C1}{A:B2}{E:G3->G6->Prop}{J:G6->Prop}{κ:SortKind}{U:D6->Prop}{R:D6->D6->N2}
theorem Cw {B:M8 D6}{A R:G0 D6}{z y:D6}(h:B.toList=A++z::y::R):(B.swapIfInBounds (A.length+1) A.length).toList=A++y::z::R:=by
 obtain⟨l⟩:=B;cases h;have n:A.length<(A++z::y::R).length:=by rw [P2];exact Nat.lt_add_of_pos_right (v9 _)
 have n1:A.length+1<(A++z::y::R).length:=by rw [P2];exact Nat.add_lt_add_left (qR (v9 _)) _
 have a0:(A++z::y::R)[A.length]=z:=mE rfl rfl;have a1:(A++z::y::R)[A.length+1]=y:=mE (l₁:=A++ [z]) (l₂:=R) (by rw [D4];rfl) (by rw [P2];rfl);unfold Array.swapIfInBounds;refine(congrArg pA ((pX n1).trans (pX n))).trans ?_;rw [Array.toList_swap];show ((A++z::y::R).set (A.length+1) (A++z::y::R)[A.length]).set A.length (A++z::y::R)[A.length+1]=_;rw [a0,a1,mU _ _ (a8 A.length 1),mU _ _ (P5 _),pU,dJ];rfl
theorem MQ {xs:M8 D6}{y:D6}{S:G0 D6}: ∀ (Z A:G0 D6),xs.toList=A++(Z++y::S)->(bubble xs (A.length+Z.length) Z.length).toList=A++y::(Z++S)
 | [],A,h=>h
 |z::Z,A,h=>by
  have ih:=MQ Z (A++ [z]) (by rw [h,D4];rfl);rw [P2,iI] at ih;rw [S7,bubble_succ,show A.length+(Z.length+1)-Z.length=A.length+1 from Nat.add_sub_cancel (n:=A.length+1) (m:=Z.length) ▸ by rw [iI];rfl];exact Cw (ih.trans (by rw [D4];rfl))
theorem Cy (xs:M8 D6)(P Z S:G0 D6)(y:D6)(l:G7)(hl:l<=Z.length)(h:xs.toList=P++Z++y::S):(bubble xs (P.length+Z.length) (Z.length-l)).toList=P++(Z.take l++ [y]++Z.drop l)++S:=by
 have e:=MQ (xs:=xs) (y:=y) (S:=S) (Z.drop l) (P++Z.take l) (by rw [h,D4 P (Z.take l),<-D4 (Z.take l),T9,D4]);rw [P2,S8,C6,Q5 hl,cT,cN hl] at e;rw [e];simp only [D4,Z5,A9]
theorem Aa (o:Ù U R){Z:G0 D6}{y:D6}{l:G7}(u: ∀z∈Z,U z)(uy:U y)(s:Õ R Z)(a: ∀z∈Z.take l,R y z=false)(b: ∀z∈Z.drop l,R y z=true):Õ R (Z.take l++ [y]++Z.drop l):=by
 have s':Õ R (Z.take l++Z.drop l):=by rw [T9];exact s
 obtain⟨s1,s2,s3⟩:=B1.mp s';refine B1.mpr ⟨B1.mpr ⟨s1,O7 _ _,λx hx z hz=> ?_⟩,s2,λx hx z hz=> ?_⟩
 ·rw [G9.mp hz];exact a x hx
 ·rcases D5.mp hx with v|v
  ·exact s3 x v z hz
  ·rw [G9.mp v];exact o.asym y z uy (u z (L0 hz)) (b z hz)
theorem Tf {st:C5}{Q:N2->C5->Prop}{P T Z:G0 D6}{n k:G7}(ak:Xe prog w A J κ U R)(kd:kindOf st=κ)(o:Ù U R)(u: ∀x∈T,U x)(h:Þ st P Z (T.drop k))(hp:Z.Perm (T.take k))(hs:Õ R Z)(k1:1<=k)(kn:k<=n)(hn:n<=T.length)
 (q: ∀Å Z',Ť st Å->Þ Å P Z' (T.drop n)->Z'.Perm (T.take n)->Õ R Z'->Q true Å):Tm prog w A E J (IG P.length n k) Q st:=by
 unfold IG;refine .bind (Tm.mono (Tm.range (λi c s1=>Ť st s1/\c.1=none/\1<=i/\ ∃Z,Þ s1 P Z (T.drop i)/\Z.Perm (T.take i)/\Õ R Z) (Q:=λc s1=>Ť st s1/\c.1=none/\ ∃Z,Þ s1 P Z (T.drop n)/\Z.Perm (T.take n)/\Õ R Z) (by omega) ⟨Ť.refl st,rfl,by omega,Z,by rw [rO k1];exact h,by rw [rO k1];exact hp,hs⟩ ?_ ?_) ?_)
 ·rintro i ⟨r,c2⟩ s1 hi ⟨ar,hr,i1,Z,L,p,s⟩;dsimp only at hr ⊢;subst hr;obtain⟨y,hy⟩: ∃y,T[i]? =some y:=⟨_,G2 (by omega)⟩;have uy:=u y (P9 hy);have lz:Z.length=i:=by rw [p.length_eq,S8];omega
  have uZ: ∀z∈Z,U z:=λz hz=>u z (L5 (p.mem_iff.mp hz))
  have ay:(T4 s1).toList[P.length+i]? =some y:=by
   have:=L.rest (i:=0);rw [dB,lz] at this;rw [mD] at this;rw [this];exact hy
  have az: ∀m,m<i-> ∃z,Z[m]? =some z/\(T4 s1).toList[P.length+m]? =some z:=λm hm=>by
   refine⟨Z[m],G2 (by omega),?_⟩;rw [L,D4,B8 (by omega),O8 (by omega),dJ,G2 (by omega)]
  refine .bind (Tm.mono (Tm.range (λj c s2=>s2=s1/\c.1=none/\c.2.1<=c.2.2/\c.2.2<=i/\(∀z∈Z.take c.2.1,R y z=false)/\(∀z∈Z.drop c.2.2,R y z=true)/\c.2.2-c.2.1+j<=i) (Q:=λc s2=>s2=s1/\c.1=none/\c.2.1<=i/\(∀z∈Z.take c.2.1,R y z=false)/\(∀z∈Z.drop c.2.1,R y z=true)) (B0 _) ⟨rfl,rfl,B0 _,P5 _,λz hz=> ?_,λz hz=> ?_,by dsimp only;omega⟩ ?_ ?_) ?_)
  ·dsimp only at hz;rw [dZ] at hz;cases hz
  ·dsimp only at hz;rw [A1 (by omega)] at hz;cases hz
  ·rintro j ⟨r,l,v⟩ _ hj ⟨rfl,hr,b1,b2,b3,b4,b5⟩;dsimp only at hr b1 b2 b3 b4 b5 ⊢;subst hr
   by_cases c1:l>=v
   ·rw [R5 c1];have:l=v:=by omega
    subst this;exact .pure ⟨rfl,rfl,b2,b3,b4⟩
   rw [R3 c1];obtain⟨z,hz,ez⟩:=az ((l+v) / 2) (by omega);have uz:=uZ z (P9 hz);refine .bind (.ltAt ak (ar.1.trans kd) ay ez uy uz ?_);dsimp only;cases hb:R y z with
   |true=>
    rw [R5 rfl];refine .pure ⟨rfl,rfl,by dsimp only;omega,by dsimp only;omega,b3,λx hx=> ?_,by dsimp only;omega⟩;dsimp only at hx;have zx:R x z=false:=by
     obtain⟨t,ht,e⟩:=Y5 hx;rw [C6] at ht;exact Yu s o uZ (show (l+v) / 2<=(l+v) / 2+t by omega) hz (by rw [G2 (by omega),<-e,pW])
    rcases o.neg y x z uy (uZ x (L0 hx)) uz hb with w|w
    ·exact w
    ·rw [zx] at w;cases w
   |false=>
    rw [R3 (by decide)];refine .pure ⟨rfl,rfl,by dsimp only;omega,b2,λx hx=> ?_,b4,by dsimp only;omega⟩;dsimp only at hx;have xz:R z x=false:=by
     obtain⟨t,ht,e⟩:=Y5 hx;rw [S8] at ht;exact Yu s o uZ (show t<=(l+v) / 2 by omega) (by rw [G2 (by omega),<-e,pV]) hz
    exact o.trans (uZ x (L5 hx)) uz uy xz hb
  ·rintro ⟨r,l,v⟩ _ ⟨rfl,hr,b1,b2,b3,b4,b5⟩;dsimp only at hr b1 b2 b3 b4 b5 ⊢;have:l=v:=by omega
   subst this;exact⟨rfl,hr,b2,b3,b4⟩
  ·rintro ⟨r,l,v⟩ s2 ⟨rfl,hr,b2,b3,b4⟩;dsimp only at hr b2 b3 b4 ⊢;subst hr;dsimp only;refine .bind ?_;show Tm prog w A E J (moveDown' (P.length+i) (P.length+l)) _ _;rw [moveDown'_eq];refine .modify (.pure ⟨ar.trans ⟨rfl,rfl,rfl,rfl⟩,rfl,by omega,Z.take l++ [y]++Z.drop l,?_,?_,Aa o uZ uy s b3 b4⟩)
   ·have:=Cy (T4 s2) P Z (T.drop (i+1)) y l (by omega) (by rw [<-zH hy];exact L);rw [lz] at this;rw [show P.length+i-(P.length+l)=i-l by omega];exact this
   ·refine mM ?_ (Zo p hy);rw [D4];have e:Z++ [y]=Z.take l++(Z.drop l++ [y]):=by rw [<-D4,T9]
    rw [e];exact(bM).append_left _
 ·rintro ⟨r,c2⟩ s1 ⟨ar,hr,i1,Z,L,p,s⟩;exact⟨ar,hr,Z,L,p,s⟩
 ·rintro ⟨r,c2⟩ s1 ⟨ar,hr,Z,L,p,s⟩;dsimp only at hr ⊢;subst hr;exact .pure (q s1 Z ar L p s)
end
section
variable {prog:T7}{w:C1}{A:B2}{E:G3->G6->Prop}{J:G6->Prop}{κ:SortKind}{U:D6->Prop}{R:D6->D6->N2}
def ĥ (R:D6->D6->N2)(l:G0 D6):G0 (G7×G7×G7)->G7->G7->Prop
 | [],s,e=>s=e
 |(p,n,_)::rest,s,e=>p=s/\1<=n/\Õ R (Ú l p n)/\ĥ R l rest (s+n) e
variable {l:G0 D6}
theorem ĥ.le: ∀ {pl:G0 (G7×G7×G7)} {s e:G7},ĥ R l pl s e->s+pl.length<=e
 | [],s,e,h=>by cases h;simp
 |(p,n,_)::rest,s,e,⟨_,n1,_,h⟩=>by have:=ĥ.le h;simp only [S7];omega
theorem Cz {l':G0 D6}{p n e:G7}(h:l.take e=l'.take e)(he:p+n<=e):Ú l p n=Ú l' p n:=by
 have cut: ∀k:G0 D6,Ú k p n=Ú (k.take e) p n:=λk=>by
  unfold Ú;rw [nM,nN,Q5 (by omega)]
 rw [cut l,cut l',h]
theorem ĥ.same {l l':G0 D6}: ∀ {pl:G0 (G7×G7×G7)} {s e:G7},ĥ R l pl s e->l.take e=l'.take e->ĥ R l' pl s e
 | [],s,e,h,_=>h
 |(p,n,_)::rest,s,e,⟨a,b,c,d⟩,h=>by
  have:=d.le;exact⟨a,b,by rw [<-Cz h (by omega)];exact c,d.same h⟩
theorem ĥ.shift {l':G0 D6}: ∀ {pl:G0 (G7×G7×G7)} {s e:G7},ĥ R l pl s e->l.drop s=l'.drop s->ĥ R l' pl s e
 | [],s,e,h,_=>h
 |(p,n,_)::rest,s,e,⟨a,b,c,d⟩,h=>by
  subst a;refine⟨rfl,b,by unfold Ú at c ⊢;rw [<-h];exact c,d.shift ?_⟩;rw [<-aD,<-aD,h]
theorem ĥ.append: ∀ {a b:G0 (G7×G7×G7)} {s e:G7},ĥ R l (a++b) s e↔ ∃m,ĥ R l a s m/\ĥ R l b m e
 | [],b,s,e=>⟨λh=>⟨s,rfl,h⟩,λ⟨m,h,h'⟩=>by cases h;exact h'⟩
 |(p,n,w)::a,b,s,e=>by
  constructor
  ·rintro ⟨x,y,z,h⟩;obtain⟨m,h1,h2⟩:=ĥ.append.mp h;exact⟨m,⟨x,y,z,h1⟩,h2⟩
  ·rintro ⟨m,⟨x,y,z,h1⟩,h2⟩;exact⟨x,y,z,ĥ.append.mpr ⟨m,h1,h2⟩⟩
structure Bt (R:D6->D6->N2)(κ:SortKind)(l0:G0 D6)(lo:G7)(st:C5):Prop where
 kind:kindOf st=κ
 failed:aO st=none
 perm:(T4 st).toList.Perm l0
 stk:ĥ R (T4 st).toList (B3 st).toList 0 lo
variable {l0:G0 D6}{lo:G7}
theorem Bt.size {st:C5}(b:Bt R κ l0 lo st):(T4 st).size=l0.length:=by rw [<-N0,b.perm.length_eq]
theorem Bt.merge {st:C5}{Q:N2->C5->Prop}{i:G7}(ak:Xe prog w A J κ U R)(o:Ù U R)(u: ∀x∈l0,U x)(b:Bt R κ l0 lo st)(hlo:lo<=l0.length)(hi:i+1<(B3 st).size)
 (q: ∀Å,Bt R κ l0 lo Å->(B3 Å).size+1=(B3 st).size->(T4 Å).toList.drop lo=(T4 st).toList.drop lo->Q true Å):Tm prog w A E J (IF i) Q st:=by
 have lp:(B3 st).toList.length=(B3 st).size:=by simp
 obtain⟨⟨sa,na,pw⟩,hx⟩: ∃x,(B3 st).toList[i]? =some x:=⟨_,G2 (by omega)⟩;obtain⟨⟨sb,nb,pw2⟩,hy⟩: ∃y,(B3 st).toList[i+1]? =some y:=⟨_,G2 (by omega)⟩;have e:(B3 st).toList=(B3 st).toList.take i++(sa,na,pw)::(sb,nb,pw2)::(B3 st).toList.drop (i+2):=by
  rw [<-zH hy,<-zH hx,T9]
 have stk:=b.stk;rw [e] at stk;obtain⟨m,k1,em,n1,s1,eb,n2,s2,k2⟩:=ĥ.append.mp stk;subst em;subst eb;have le:=k2.le;have sz:=b.size;have hz:sa+na+nb<=(T4 st).size:=by omega
 have ln:(T4 st).toList.length=(T4 st).size:=by simp
 refine Te ak b.kind o (λx hx=>u x (b.perm.mem_iff.mp hx)) (by rw [<-C3];exact hx) (by rw [<-C3];exact hy) rfl n1 n2 hz s1 s2 b.failed λÅ Z kd hf hp ha pz sz'=> ?_
 have hpl:(B3 Å).toList=(B3 st).toList.take i++(sa,na+nb,pw)::(B3 st).toList.drop (i+2):=by
  rw [hp,Array.eraseIdxIfInBounds_eq,pX (by rw [j6];exact hi),mV,iH];generalize (B3 st).toList.drop (i+2)=B at e ⊢;have li:((B3 st).toList.take i).length=i:=by rw [S8];omega
  generalize (B3 st).toList.take i=A at e li ⊢;rw [e];subst li;simp [List.set_append,List.eraseIdx_append];intro z;omega
 have lZ:Z.length=na+nb:=by rw [pz.length_eq,P2,Yw (by omega),Yw (by omega)]
 have lt:((T4 st).toList.take sa).length=sa:=by rw [S8];omega
 refine q Å ⟨kd,hf,?_,?_⟩ ?_ ?_
 ·rw [ha];refine mM ?_ b.perm;have c3:=XR (T4 st).toList (p:=sa) (n:=na) (m:=nb);have pp:=(pz.append_left ((T4 st).toList.take sa)).append_right ((T4 st).toList.drop (sa+na+nb));rw [<-c3] at pp;exact pp
 ·rw [hpl,ha];refine ĥ.append.mpr ⟨sa,k1.same ?_,rfl,by omega,?_,?_⟩
  ·rw [D4,X2 (by omega),S3 (l:=(T4 st).toList.take sa) (by omega)]
  ·unfold Ú;rw [D4,X0 (by omega),A1 (by omega),A9,X2 (by omega),S3 (by omega)];exact sz'
  ·rw [<-cT];refine k2.shift ?_;have:((T4 st).toList.take sa++Z).length=sa+na+nb:=by rw [P2,lt,lZ];omega
   rw [X0 (by omega),A1 (as:=(T4 st).toList.take sa++Z) (by omega),A9]
 ·rw [<-N0,<-N0,hpl];have:(B3 st).toList.length=((B3 st).toList.take i++(sa,na,pw)::(sa+na,nb,pw2)::(B3 st).toList.drop (i+2)).length:=congrArg K8 e;rw [this];simp only [P2,S7];omega
 ·rw [ha];have c1:((T4 st).toList.take sa++Z).length=sa+na+nb:=by rw [P2,lt,lZ];omega
  have c2:sa+na+nb<=lo:=by omega
  rw [List.drop_append,A1 (as:=(T4 st).toList.take sa++Z) (by omega),A9,aD,c1]
  congr 1;omega
theorem Bt.run {Z:G0 D6}{n:G7}{s1 s2:C5}(b:Bt R κ l0 lo s1)(hlo:lo<=l0.length)(ar:Ť s1 s2)(L:Þ s2 ((T4 s1).toList.take lo) Z (((T4 s1).toList.drop lo).drop n))(p:Z.Perm (((T4 s1).toList.drop lo).take n))(sr:Õ R Z)(hn:n<=l0.length-lo):Bt R κ l0 lo s2/\Õ R (Ú (T4 s2).toList lo n):=by
 have ln:(T4 s1).toList.length=l0.length:=b.perm.length_eq;have lP:((T4 s1).toList.take lo).length=lo:=by rw [S8];omega
 have lZ:Z.length=n:=by rw [p.length_eq,S8,C6];omega
 have e:(T4 s2).toList=(T4 s1).toList.take lo++Z++((T4 s1).toList.drop lo).drop n:=L;refine⟨⟨ar.1.trans b.kind,ar.2.2.1.trans b.failed,?_,?_⟩,?_⟩
 ·rw [e];refine mM ?_ b.perm;have pp:=(p.append_left ((T4 s1).toList.take lo)).append_right (((T4 s1).toList.drop lo).drop n);rw [D4 _ (((T4 s1).toList.drop lo).take n),T9,T9] at pp;exact pp
 ·rw [ar.2.1];refine b.stk.same ?_;rw [e,D4,X2 (by omega),S3 (l:=(T4 s1).toList.take lo) (by omega)]
 ·rw [e];unfold Ú;rw [D4,X0 (by omega),A1 (by omega),A9,X2 (by omega),S3 (by omega)];exact sr
theorem Bt.push {n:G7}{s:C5}(b:Bt R κ l0 lo s)(n1:1<=n)(g:Õ R (Ú (T4 s).toList lo n)):Bt R κ l0 (lo+n) (G0i s ((B3 s).push (lo,n,0))):=by
 refine⟨b.kind,b.failed,b.perm,?_⟩;show ĥ R (T4 s).toList ((B3 s).push (lo,n,0)).toList 0 (lo+n);rw [aM];exact ĥ.append.mpr ⟨lo,b.stk,rfl,n1,g,rfl⟩
theorem ĥ.mod {f:G7×G7×G7->G7×G7×G7}(hf: ∀x,(f x).1=x.1/\(f x).2.1=x.2.1): ∀ {pl:G0 (G7×G7×G7)} {k s e:G7},ĥ R l pl s e->ĥ R l (pl.modify k f) s e
 | [],k,s,e,h=>by rw [List.modify_nil];exact h
 |(p,n,w)::rest,0,s,e,⟨a,b,c,d⟩=>by
  rw [List.modify_zero_cons];have e1:=(hf (p,n,w)).1;have e2:=(hf (p,n,w)).2;generalize f (p,n,w)=x at e1 e2;obtain⟨p',n',w'⟩:=x;dsimp only at e1 e2;subst e1 e2;exact⟨a,b,c,d⟩
 |(p,n,w)::rest,k+1,s,e,⟨a,b,c,d⟩=>by
  rw [List.modify_succ_cons];exact⟨a,b,c,d.mod hf⟩
theorem Bt.mod {k:G7}{s:C5}{f:G7×G7×G7->G7×G7×G7}(b:Bt R κ l0 lo s)(hf: ∀x,(f x).1=x.1/\(f x).2.1=x.2.1):Bt R κ l0 lo (G0i s ((B3 s).modify k f)):=by
 refine⟨b.kind,b.failed,b.perm,?_⟩;show ĥ R (T4 s).toList ((B3 s).modify k f).toList 0 lo;rw [Array.toList_modify];exact b.stk.mod hf
theorem CA (c:N2)(x:G7):(if c=true then x-1 else x)<=x:=by cases c<;>simp
theorem Ab {st:C5}{Q:Unit->C5->Prop}(ak:Xe prog w A J κ U R)(o:Ù U R)(u: ∀x∈l0,U x)(kd:kindOf st=κ)(hf:aO st=none)(hp:B3 st= #[])(hl:(T4 st).toList=l0)
 (q: ∀Å,aO Å=none->(T4 Å).toList.Perm l0->Õ R (T4 Å).toList->Q () Å):Tm prog w A E J sortRuns' Q st:=by
 have b0:Bt R κ l0 0 st:=⟨kd,hf,by rw [hl],by rw [hp];rfl⟩;rw [sortRuns'_eq];refine .bind (.get ?_);dsimp only;rw [b0.size];generalize minRun' l0.length l0.length 0=mr;refine .bind (Tm.mono (Tm.range (λi c s1=>c.1=none/\c.2<=l0.length/\i<=c.2/\Bt R κ l0 c.2 s1) (Q:=λc s1=>c.1=none/\Bt R κ l0 l0.length s1) (B0 _) ⟨rfl,B0 _,B0 _,b0⟩ ?_ ?_) ?_)
 ·rintro i ⟨r,lo⟩ s1 hi ⟨hr,h1,h2,b⟩;dsimp only at hr h1 h2 b ⊢;subst hr
  by_cases z1:lo>=l0.length
  ·rw [R5 z1];have:lo=l0.length:=by omega
   subst this;exact .pure ⟨rfl,b⟩
  rw [R3 z1];have ln:(T4 s1).toList.length=l0.length:=b.perm.length_eq;have lP:((T4 s1).toList.take lo).length=lo:=by rw [S8];omega
  have lT:((T4 s1).toList.drop lo).length=l0.length-lo:=by rw [C6,ln]
  have uT: ∀x∈(T4 s1).toList.drop lo,U x:=λx hx=>u x (b.perm.mem_iff.mp (L0 hx))
  have ct:=λ{Q}=>Cv (prog:=prog) (w:=w) (A:=A) (E:=E) (J:=J) (Q:=Q) (st:=s1) (P:=(T4 s1).toList.take lo) (T:=(T4 s1).toList.drop lo) ak b.kind o uT (by unfold Þ;rw [A8,T9]) (by omega)
  rw [lP,lT] at ct;refine .bind (ct λn s2 Z n1 n2 ar L p sr=> ?_);dsimp only
  by_cases z2:n<mr
  ·rw [R5 z2];have bn:=λ{Q}=>Tf (prog:=prog) (w:=w) (A:=A) (E:=E) (J:=J) (Q:=Q) (st:=s2) (P:=(T4 s1).toList.take lo) (T:=(T4 s1).toList.drop lo) (n:=min (l0.length-lo) mr) ak (ar.1.trans b.kind) o uT L p sr n1 (by omega) (by omega)
   rw [lP] at bn;refine .bind (.rule (.bind (bn λs3 Z3 ar3 L3 p3 sr3=> ?_)));obtain⟨B,G⟩:=b.run h1 (ar.trans ar3) L3 p3 sr3 (by omega);have N1:1<=min (l0.length-lo) mr:=by omega
   rw [R3 (by decide)];refine .bind (.get ?_);split
   ·refine .bind (Tm.mono (Tm.range (λj c s4=>c.1=none/\Bt R κ l0 lo s4/\Õ R (Ú (T4 s4).toList lo (min (l0.length-lo) mr))) (Q:=λc s4=>c.1=none/\Bt R κ l0 lo s4/\Õ R (Ú (T4 s4).toList lo (min (l0.length-lo) mr))) (B0 _) ⟨rfl,B,G⟩ ?_ (λ_ _ h=>h)) ?_)
    ·rintro j ⟨r,c⟩ s4 hj ⟨hr,B4,G4⟩;dsimp only at hr ⊢;subst hr;refine .bind (.get ?_);split
     ·rename_i X0X heq;split
      ·exact .pure ⟨rfl,B4,G4⟩
      ·have two:(B3 s4).size>1:=aH λz=>by rw [R3 z] at heq;cases heq
       refine .bind (Bt.merge ak o u B4 h1 (by omega) λs5 B5 _ dr=> ?_);refine .pure ⟨rfl,B5,?_⟩;unfold Ú at G4 ⊢;rw [dr];exact G4
     ·exact .pure ⟨rfl,B4,G4⟩
    ·rintro ⟨r,c⟩ s4 ⟨hr,B4,G4⟩;dsimp only at hr ⊢;subst hr;dsimp only;refine .bind (.modify (.bind (.modify (.pure ⟨rfl,?_,?_,Bt.push (Bt.mod B4 λx=>⟨rfl,rfl⟩) N1 G4⟩))))
     ·dsimp only;omega
     ·dsimp only;omega
   ·refine .bind (.modify (.pure ⟨rfl,?_,?_,Bt.push B N1 G⟩))
    ·dsimp only;omega
    ·dsimp only;omega
  ·rw [R3 z2];obtain⟨B,G⟩:=b.run h1 ar L p sr n2;have N1:=n1;refine .bind (.get ?_);split
   ·refine .bind (Tm.mono (Tm.range (λj c s4=>c.1=none/\Bt R κ l0 lo s4/\Õ R (Ú (T4 s4).toList lo (n))) (Q:=λc s4=>c.1=none/\Bt R κ l0 lo s4/\Õ R (Ú (T4 s4).toList lo (n))) (B0 _) ⟨rfl,B,G⟩ ?_ (λ_ _ h=>h)) ?_)
    ·rintro j ⟨r,c⟩ s4 hj ⟨hr,B4,G4⟩;dsimp only at hr ⊢;subst hr;refine .bind (.get ?_);split
     ·rename_i X0X heq;split
      ·exact .pure ⟨rfl,B4,G4⟩
      ·have two:(B3 s4).size>1:=aH λz=>by rw [R3 z] at heq;cases heq
       refine .bind (Bt.merge ak o u B4 h1 (by omega) λs5 B5 _ dr=> ?_);refine .pure ⟨rfl,B5,?_⟩;unfold Ú at G4 ⊢;rw [dr];exact G4
     ·exact .pure ⟨rfl,B4,G4⟩
    ·rintro ⟨r,c⟩ s4 ⟨hr,B4,G4⟩;dsimp only at hr ⊢;subst hr;dsimp only;refine .bind (.modify (.bind (.modify (.pure ⟨rfl,?_,?_,Bt.push (Bt.mod B4 λx=>⟨rfl,rfl⟩) N1 G4⟩))))
     ·dsimp only;omega
     ·dsimp only;omega
   ·refine .bind (.modify (.pure ⟨rfl,?_,?_,Bt.push B N1 G⟩))
    ·dsimp only;omega
    ·dsimp only;omega
 ·rintro ⟨r,lo⟩ s1 ⟨hr,h1,h2,b⟩;dsimp only at hr h1 h2 b;have:lo=l0.length:=by omega
  subst this;exact⟨hr,b⟩
 ·rintro ⟨r,lo⟩ s1 ⟨hr,b⟩;dsimp only at hr ⊢;subst hr;dsimp only;have le0:=b.stk.le;have lp0:(B3 s1).toList.length=(B3 s1).size:=by simp
  refine .bind (Tm.mono (Tm.range (λj c s4=>c.1=none/\Bt R κ l0 l0.length s4/\(B3 s4).size+j<=l0.length) (Q:=λc s4=>c.1=none/\Bt R κ l0 l0.length s4/\(B3 s4).size<=1) (B0 _) ⟨rfl,b,by omega⟩ ?_ (λc s4 ⟨x,y,z⟩=>⟨x,y,by omega⟩)) ?_)
  ·rintro j ⟨r,c⟩ s4 hj ⟨hr,B4,z4⟩;dsimp only at hr ⊢;subst hr;refine .bind (.get ?_)
   by_cases c1:(B3 s4).size<=1
   ·rw [R5 c1];exact .pure ⟨rfl,B4,c1⟩
   rw [R3 c1];refine .bind (Bt.merge ak o u B4 (P5 _) (J5 (nP (CA _ _) 1) (by omega)) λs5 B5 z5 _=> ?_);exact .pure ⟨rfl,B5,by omega⟩
  ·rintro ⟨r,c⟩ s4 ⟨hr,B4,z4⟩;dsimp only at hr ⊢;subst hr;refine .pure (q s4 B4.failed B4.perm ?_);have stk:=B4.stk;have ln:(T4 s4).toList.length=l0.length:=B4.perm.length_eq;have lp:(B3 s4).toList.length=(B3 s4).size:=by simp
   generalize (B3 s4).toList=pl at stk lp
   match pl,stk,lp with
   | [],e,_=>
    have:l0.length=0:=e.symm;have:(T4 s4).toList= []:=X6.mp (by omega);rw [this];exact .nil
   | [(p,n,_)],⟨e1,_,sr,e2⟩,_=>
    subst e1;have en:n=l0.length:=by have:0+n=l0.length:=e2;omega
    unfold Ú at sr;rw [iD,S3 (by omega)] at sr;exact sr
   |_::_::_,_,h=>simp only [S7] at h;omega
end
section
variable {prog:T7}{w:C1}{A:B2}{E:G3->G6->Prop}{s:G6}{κ:SortKind}{U:D6->Prop}{R:D6->D6->N2}
def AU (s:G6)(a:P1)(h':L8):Prop:= ∀b o,b≠a->s.heap.get? b=some o->h'.get? b=some o
def Only (s:G6)(h':L8):G6->Prop:=λs'=> ∃tk,s'= {s with heap:=h',toks:=tk}
theorem CB {M:qX}{α β:Type}{c:Prop}[Decidable c]{m m':Sem α}{F:α->Sem β}{Q:β->G6->Prop}(h:D9 M A ((if c then m else m') >>= F) Q E s):D9 M A (if c then m >>= F else m' >>= F) Q E s:=by
 by_cases z:c
 ·rw [R5 z] at h ⊢;exact h
 ·rw [R3 z] at h ⊢;exact h
theorem ZR (vs:G0 G3):(vs.toArray.zip vs.toArray).toList=vs.map λv=>(v,v):=by
 rw [Array.toList_zip];show vs.zip vs=_
 induction vs with
 |nil=>rfl
 |cons v vs ih=>rw [aE,ih,M7]
theorem Ac {R:G3×G3->G3×G3->N2}: ∀l:G0 G3,l.length<2->Õ R (l.map λv=>(v,v))
 | [],_=>List.Pairwise.nil
 | [_],_=>O7 _ _
theorem CC {a:P1}{vs:G0 G3}{n:G7}{P:Fin->G6->Prop}(ho:s.heap.get? a=some (nQ "list" vs.toArray n))(hz:vs.length<=sizeLine)
 (hk:2<=vs.length-> ∀h',AU s a h'->D9 (S2 prog w) A (IH vs.toArray) (λk s'=>k=κ/\Only s h' s') (λ_ _=>False) {s with heap:=h'})(ak: ∀h',AU s a h'->Xe prog w A (Only s h') κ U R)(o:Ù U R)(u: ∀v∈vs,U (v,v))
 (q: ∀ (out:G0 G3) (c tk:G7) (h':L8),AU s a h'->h'.get? a=some (nQ "list" out.toArray c)->out.Perm vs->(out.map λv=>(v,v)).Pairwise (λx y=>R y x=false)->P (.done (.ret .none)) {s with heap:=h',toks:=tk}):
 D9 (S2 prog w) A (Builtin.«list.sort» ⟨[.ref a],[]⟩) P E s:=by
 have alt:=R7 ho;have sv:vs.toArray.size=vs.length:=D8 ..;rw [list_sort_plain];refine wpAny_bind (listItems_at ho rfl ?_);obtain⟨c1,ho1⟩: ∃c,(s.heap.update a (bZ λ_=>(#[]:M8 G3))).get? a=some (nQ "list" #[] c):=⟨_,rP ho λ_=> #[]⟩;refine wpAny_bind (tO ho rfl ?_ (by rw [sv];exact hz) (B0 _));refine wpAny_bind (II ho1 rfl ?_);refine wpAny_bind (nJ ?_ hz);refine wpAny_bind (tP ?_ (B0 _));refine O0 ?_;have past:AU s a (((s.heap.update a (bZ λ_=>(#[]:M8 G3))).push {cls:= .type "tuple",data:= .seq vs.toArray.toList.toArray}).push {cls:= .type "list",data:= .seq ([]:G0 G3).toArray}):=λb x ne e=>by
  refine P3 _ (P3 _ ?_);rw [oF _ _ _ _ ne];exact e
 have ho3:=P3 ({cls:= .type "list",data:= .seq ([]:G0 G3).toArray}:Obj) (P3 ({cls:= .type "tuple",data:= .seq vs.toArray.toList.toArray}:Obj) ho1);revert past ho3;generalize ((s.heap.update a (bZ λ_=>(#[]:M8 G3))).push ({cls:= .type "tuple",data:= .seq vs.toArray.toList.toArray}:Obj)).push ({cls:= .type "list",data:= .seq ([]:G0 G3).toArray}:Obj)=H3;intro past ho3;have kd:D9 (S2 prog w) A (if vs.toArray.size<2 then pure general' else IH vs.toArray) (λk s0=>(2<=vs.length->k=κ)/\Only s H3 s0) (λ_ _=>False) {s with heap:=H3}:=by
  by_cases c:vs.toArray.size<2
  ·rw [R5 c];exact G8 ⟨λz=>by omega,s.toks,rfl⟩
  ·rw [R3 c];exact M1 (hk (by omega) H3 past) (λk s0 x=>⟨λ_=>x.1,x.2⟩) λ_ _ e=>e
 have rn: ∀k s0,(2<=vs.length->k=κ)->Only s H3 s0->D9 (S2 prog w) A ((if vs.toArray.size<2 then pure () else sortRuns':W8 C5 Sem Unit).run (SortSt.mk' k (vs.toArray.zip vs.toArray) #[] 7 none)) (λr s'=>(aO r.2=none/\(T4 r.2).toList.Perm (vs.map λv=>(v,v))/\Õ R (T4 r.2).toList)/\Only s H3 s') E s0:=by
  intro k s0 ek j
  by_cases c:vs.toArray.size<2
  ·rw [R5 c,StateT.run_pure];refine G8 ⟨⟨rfl,?_,?_⟩,j⟩
   ·show (vs.toArray.zip vs.toArray).toList.Perm _;rw [ZR]
   ·show Õ R (vs.toArray.zip vs.toArray).toList;rw [ZR];rw [sv] at c;exact Ac vs c
  ·rw [R3 c];have ek:=ek (by omega);subst ek;refine Ab (E:=E) (ak H3 past) o (l0:=vs.map λv=>(v,v)) (st:=SortSt.mk' k (vs.toArray.zip vs.toArray) #[] 7 none) (λx hx=> ?_) rfl rfl rfl (ZR vs) (Q:=λ_ Å=>aO Å=none/\(T4 Å).toList.Perm (vs.map λv=>(v,v))/\Õ R (T4 Å).toList) (λÅ a1 a2 a3=>⟨a1,a2,a3⟩) s0 j;obtain⟨v,hv,rfl⟩:=R9.mp hx;exact u v hv
 dsimp only;refine CB (wpAny_bind (M1 kd (λk s0 x=> ?_) λ_ _ e=>e.elim));refine wpAny_bind (M1 (rn k s0 x.1 x.2) ?_ λ_ _ e=>e);rintro ⟨⟨⟩,Å⟩ s1 ⟨⟨hf,hp,hs⟩,tk,rfl⟩;dsimp only;have eo:((T4 Å).map λx=>x.2)=((T4 Å).toList.map λx=>x.2).toArray:=by
  rw [<-Array.toList_map,nU]
 have two:(T4 Å).toList=((T4 Å).toList.map λx=>x.2).map λv=>(v,v):=by
  rw [R4];refine(W7 _).symm.trans (M6 λx hx=> ?_);obtain⟨v,_,rfl⟩:=R9.mp (hp.mem_iff.mp hx);rfl
 have po:((T4 Å).toList.map λx=>x.2).Perm vs:=by
  have:=hp.map λx=>x.2
  rw [R4] at this;refine this.trans ?_;rw [show ((λx:D6=>x.2)∘λv:G3=>(v,v))=id from rfl,W7]
 rw [two] at hs;rw [eo];generalize (T4 Å).toList.map (λx=>x.2)=out at hs po;obtain⟨c2,ho4⟩: ∃c,(H3.update a (bZ λ_=>out.toArray)).get? a=some (nQ "list" out.toArray c):=⟨_,rP ho3 λ_=>out.toArray⟩;refine wpAny_bind (II (s:= {s with heap:=H3,toks:=tk}) ho3 rfl ?_);refine wpAny_bind (tO (s:= {s with heap:=H3,toks:=tk}) ho3 rfl ?_ (B0 _) (by rw [D8,po.length_eq];exact pY hz));rw [hf];simp only [bne_self_eq_false,Z9,lC];refine G8 (q out c2 tk _ (λb x ne e=> ?_) ho4 po hs);rw [oF _ _ _ _ ne];exact past b x ne e
abbrev CF (h h':L8):Prop:= ∀b o,h.get? b=some o->h'.get? b=some o
end
theorem ZS: ∀a b:G0 P0,wa a b=true->wa b a=false
 | [],[],h=>rfl
 | [],_::_,_=>rfl
 |_::_,[],h=>by cases h
 |x::xs,y::ys,h=>by
  unfold wa at h ⊢
  by_cases e:x=y
  ·subst e;rw [R5 rfl] at h ⊢;exact ZS xs ys h
  ·rw [R3 e] at h;rw [R3 (E4 e)];have:=C4 h;exact R8 (by omega)
theorem XS: ∀a b c:G0 P0,wa a c=true->wa a b=true\/wa b c=true
 | [],[],c,h=> .inr h
 | [],_::_,_,_=> .inl rfl
 |_::_,_,[],h=>by cases h
 |x::xs,[],z::zs,h=> .inr rfl
 |x::xs,y::ys,z::zs,h=>by
  unfold wa at h ⊢
  by_cases e:x=z
  ·subst e;rw [R5 rfl] at h
   by_cases f:x=y
   ·subst f;rw [R5 rfl,R5 rfl];exact XS xs ys zs h
   ·rw [R3 f,R3 (E4 f)]
    by_cases g:x<y
    ·exact .inl (D2 g)
    ·exact .inr (D2 (by omega))
  ·rw [R3 e] at h;have lt:=C4 h
   by_cases f:x=y
   ·subst f;rw [R3 e];exact .inr h
   ·rw [R3 f]
    by_cases g:x<y
    ·exact .inl (D2 g)
    ·refine .inr ?_;rw [R3 (by omega)];exact D2 (by omega)
theorem Yy: ∀a b:G0 P0,wa a b=false->wa b a=false->a=b
 | [],[],_,_=>rfl
 | [],_::_,h,_=>by cases h
 |_::_,[],_,h=>by cases h
 |x::xs,y::ys,h,h'=>by
  unfold wa at h h'
  by_cases e:x=y
  ·subst e;rw [R5 rfl] at h h';rw [Yy xs ys h h']
  ·rw [R3 e] at h;rw [R3 (E4 e)] at h';have:=oY h;have:=oY h';omega
end HT
namespace L2
open PySem PySem.Spec PyProof.Rows PySem.SeqAt HT
theorem XT {α β:Type}{f:α->β}: ∀ {out:G0 β} {l:G0 α},out.Perm (l.map f)-> ∃l':G0 α,l'.Perm l/\l'.map f=out
 | [],l,p=>by
  have e:=p.length_eq;rw [G1,O4] at e;exact⟨[],by rw [X1 e.symm],rfl⟩
 |x::out,l,p=>by
  obtain⟨y,hy,rfl⟩:=R9.mp (p.mem_iff.mp P6);obtain⟨l1,l2,rfl⟩:=List.append_of_mem hy;have p2:out.Perm ((l1++l2).map f):=by
   refine G0j (a:=f y) (p.trans ?_);rw [R1,R1,M7];exact lF
  obtain⟨l',a,b⟩:=XT p2;exact⟨y::l',(a.cons y).trans lF.symm,by rw [M7,b]⟩
abbrev toI (S:G0 G7):G0 P0:=S.map λ(k:G7)=>(k:P0)
def leS (a b:G0 G7):N2:= !HT.wa (toI b) (toI a)
def KA (l:G0 (G0 G7)):G0 (G0 G7):=l.mergeSort leS
end L2
namespace L2
open PySem PySem.Spec PyProof.Rows PySem.SeqAt
variable {α:Type}
theorem xD (xs:G0 α)(a:G7)(h:a<=xs.length):Va xs (some (a:P0)) none=xs.drop a:=by
 have e: ¬((a:P0)<0):=by omega
 unfold Va HT.sIx;simp [e,Q5 h];exact S3 (by simp)
theorem Pr {h h':HD}{a:P1}(sb:Sub h h')(e:h' a=none):h a=none:=by
 cases z:h a with
 |none=>rfl
 |some ds=>rw [sb a ds z] at e;cases e
theorem Sub.over {h h':HD}{a:P1}{ds:G0 D}(sb:Sub h h')(e:h a=none):Sub h (wg h' a ds):=⟨λb xs k=>jj (λz=>by subst z;rw [e] at k;cases k) (sb b xs k),sb.dc⟩
def wk (T:G0 (G0 P0)):G7->G7->G7->N2
 |0,i,j=>decide (i=j)|| !decide (Î T i j=0)
 |b+1,i,j=>wk T b i j||(wk T b i b&&wk T b b j)
def fW (T:G0 (G0 P0))(b i j x y:G7):N2:=if x<i\/(x=i/\y<j) then wk T (b+1) x y else wk T b x y
def xE (g:G7->G7->N2)(w:G0 G7)(j:G7):N2:=g (w.getLastD 0) j&&(decide (w.headD 0<j)&& !decide (j∈w))
def xF (g:G7->G7->N2)(n:G7)(w:G0 G7):G0 (G0 G7):=((P4 n).filter (xE g w)).map λj=>w++ [j]
def lev (g:G7->G7->N2)(n:G7):G7->G0 (G0 G7)
 |0=>(P4 n).map λi=> [i]
 |t+1=>(lev g n t).flatMap (xF g n)
def uw (g:G7->G7->N2)(n:G7):G7->G0 (G0 G7)
 |0=> []
 |t+1=>uw g n t++(lev g n t).filter λw=>g (w.getLastD 0) (w.headD 0)
def xG (T:G0 (G0 P0))(i j:G7):N2:=decide (Î T i j>0)
def uA (T:G0 (G0 P0))(n:G7):G0 (G0 G7):=KA (uw (xG T) n n)
theorem Ŕ {w:G0 G7}{t:G7}(h:w.length=t+1):Ē (w.map λ(k:G7)=>D.int (k:P0)) (-1)=some (.int ((w.getLastD 0:G7):P0)):=by
 refine Cr (by rw [G1];omega) ?_;rw [G1,D1,List.getLastD_eq_getLast?,List.getLast?_eq_getElem?,G2 (by omega)];rfl
theorem MR {β:Type}(f:α->G0 β){xs:G0 α}{k:G7}{x:α}(h:xs[k]? =some x):(xs.take (k+1)).flatMap f=(xs.take k).flatMap f++f x:=by
 rw [B6,h,aW];simp
theorem MS {β:Type}(p:α->N2)(g:α->β){xs:G0 α}{k:G7}{x:α}(h:xs[k]? =some x):((xs.take (k+1)).filter p).map g=((xs.take k).filter p).map g++if p x=true then [g x] else []:=by
 rw [B6,h,iJ,R1]
 congr 1
 by_cases c:p x=true
 ·rw [R5 c];simp [c]
 ·rw [R3 c];simp [c]
theorem Wv {β:Type}(f:α->G0 β)(xs:G0 α)(k:G7):((xs.take k).flatMap f).length<=(xs.flatMap f).length:=by
 conv=>rhs;rw [<-T9 k xs,aW,P2]
 omega
section
variable {α β:Type}{i i':G7}{js:G0 G7}{ti Ĵ:TID}{Ľ:TTD}{te:TED}{σ:SD}{h:HD}{Q:KD}{j:ItD}
theorem Tg (xs:G0 α)(c:α->D)(ys:α->G0 β)(c':β->D)(p:α->β->N2)(g:α->β->D)(hz:(xs.flatMap λx=>((ys x).filter (p x)).map (g x)).length<=sizeLine)(hj: ∀h',Sub h h'->j h'=some (xs.map c))(ht: ∀R:ItD->HD->Prop,R j h->ti σ h R)
 (Γ: ∀x∈xs,∀h',Sub h h'-> ∀R:ItD->HD->Prop,(∀j' h2,Sub h' h2->(∀h3,Sub h2 h3->j' h3=some ((ys x).map c'))->R j' h2)->Ĵ ((jL js σ).set i (some (c x))) h' R)
 (hp: ∀x∈xs,∀y∈ys x,∀h',Sub h h'-> ∀Q':N2->HD->Prop,Q' (p x y) h'->Ľ (((jL js σ).set i (some (c x))).set i' (some (c' y))) h' Q')
 (he: ∀x∈xs,∀y∈ys x,p x y=true-> ∀h',Sub h h'-> ∀Q':KD,Q' (g x y) h'->te (((jL js σ).set i (some (c x))).set i' (some (c' y))) h' Q')
 (hq: ∀a h',Sub h h'->h' a=none->Q (.lst a) (wg h' a (xs.flatMap λx=>((ys x).filter (p x)).map (g x)))):BP (bN i) js ti Jd i' Ĵ Ľ te σ h Q:=by
 refine ht _ ⟨xs.length,λk zs h'=>Sub h h'/\zs=(xs.take k).flatMap λx=>((ys x).filter (p x)).map (g x),⟨Sub.refl h,rfl⟩,?_⟩;rintro k zs h1 ⟨s1,rfl⟩;refine⟨S5 (Wv _ xs k) hz,xs.map c,hj h1 s1,by rw [G1];exact P5 _,λhl a ha=> ?_,λd hd=> ?_⟩
 ·rw [G1] at hl;rw [S3 hl];exact hq a h1 s1 ha
 rw [D1] at hd;cases ex:xs[k]? with
 |none=>rw [ex] at hd;cases hd
 |some x=>
  rw [ex] at hd;injection hd with hd
  subst hd;have mx:=P9 ex;refine⟨_,rfl,?_⟩;unfold Jd;refine yr ?_;refine Γ x mx h1 s1 _ λj' h2 s2 hj'=>⟨(ys x).length,λm zs h'=>Sub h2 h'/\zs=((xs.take k).flatMap λx=>((ys x).filter (p x)).map (g x))++(((ys x).take m).filter (p x)).map (g x),⟨Sub.refl h2,by simp⟩,?_⟩
  rintro m zs h3 ⟨s3,rfl⟩;have s03:Sub h h3:=(s1.trans s2).trans s3;have tk:=MR (λx=>((ys x).filter (p x)).map (g x)) ex;refine⟨?_,(ys x).map c',hj' h3 s3,by rw [G1];exact P5 _,λhl=> ?_,λd hd=> ?_⟩
  ·refine S5 ?_ (S5 (Wv (λx=>((ys x).filter (p x)).map (g x)) xs (k+1)) hz);rw [tk,P2,P2,G1,G1];have:=(E6 m (ys x)).filter (p x) |>.length_le;omega
  ·rw [G1] at hl;refine⟨h3,Sub.refl _,s03,?_⟩;rw [tk,S3 hl]
  ·rw [D1] at hd;cases ey:(ys x)[m]? with
   |none=>rw [ey] at hd;cases hd
   |some y=>
    rw [ey] at hd;injection hd with hd
    subst hd;have my:=P9 ey;have tf:=MS (p x) (g x) ey;refine hp x mx y my h3 s03 _ ?_
    by_cases cp:p x y=true
    ·rw [R5 cp] at tf ⊢;refine he x mx y my cp h3 s03 _ ⟨h3,Sub.refl _,s3,?_⟩;rw [tf,D4]
    ·rw [R3 cp] at tf ⊢;refine⟨h3,Sub.refl _,s3,?_⟩;rw [tf,A8]
end
end L2
namespace HT
open PySem PySem.Spec PyProof.Rows PySem.SeqAt
open PySem.AutoSeq1 (wpAny_loadPart')
open PySem.MeetsSeq PySem.MeetsSeq2 PySem.MeetsSeq3
inductive Lx (prog:T7)(w:C1)(A:B2)(s:G6):G0 G3->G0 G3->N2->Prop
 |nn:Lx prog w A s [] [] false
 |nc (u:G3) (us:G0 G3):Lx prog w A s [] (u::us) true
 |cn (v:G3) (vs:G0 G3):Lx prog w A s (v::vs) [] false
 |same {v u:G3} {vs us:G0 G3} {b:N2} (e:EqAt A s v u true) (t:Lx prog w A s vs us b):Lx prog w A s (v::vs) (u::us) b
 |unlike {v u:G3} {vs us:G0 G3} {b:N2} (e:EqAt A s v u false) (t: ∀ (Q E:G3->G6->Prop),Q (.bool b) s->D9 (S2 prog w) A (i7 .Lt v u) Q E s):Lx prog w A s (v::vs) (u::us) b
theorem Lx.short {prog:T7}{w:C1}{A:B2}{s:G6}{vs us:G0 G3}{b:N2}{m n:G7}(t:Lx prog w A s vs us b)(z:vs.zip us= [])(l:vs.length+n=us.length+m):b=decide (m<n):=by
 cases t with
 |nn=>rw [O4] at l;exact(R8 (by omega)).symm
 |nc u us=>rw [O4,S7] at l;exact(D2 (by omega)).symm
 |cn v vs=>rw [O4,S7] at l;exact(R8 (by omega)).symm
 |same e t=>rw [aE] at z;cases z
 |unlike e t=>rw [aE] at z;cases z
theorem XU (l b:P1)(items Ð:M8 G3)(n n2:G7)(dd Ŷ:P7 P1)(sl ŷ:M8 (P7 G3))(r:N2):
 Meets (Builtin.«tuple.__lt__» ⟨[.ref l,.ref b],[]⟩)
  (λA R s=>s.heap.get? l=some {cls:= .type "tuple",dict:=dd,data:= .seq items n,slots:=sl}/\s.heap.get? b=some {cls:= .type "tuple",dict:=Ŷ,data:= .seq Ð n2,slots:=ŷ}/\
   (∀prog w,Lx prog w A.in1 s items.toList Ð.toList r)/\R (.ok (.ret (.bool r))) s):=
 .of_wp λprog w A R s h=>by
  obtain⟨hp,g,d,tk,os⟩:=s;obtain⟨hl,hb,ht,h⟩:=h;have f2:=AutoSeq1.sub_tuple_tuple
  wp_walk using C0 hl,C0 hb,wpAny_forIn_list _ (λrest b s'=>b.1=none/\s'=⟨hp,g,d,tk,os⟩/\ ∃ (vs us:G0 G3),rest=vs.zip us/\Lx prog w A.in1 ⟨hp,g,d,tk,os⟩ vs us r/\vs.length+Ð.size=us.length+items.size) _
  case turn=>
   rintro ⟨y,x⟩ rest b s' ⟨Κ,rfl,vs,us,hz,t,hlen⟩;cases t with
   |nn=>cases hz
   |nc u us=>cases hz
   |cn v vs=>cases hz
   |same e t=>
    rw [aE] at hz;injection hz with hyx X0s
    injection hyx with hy hx
    subst hy hx;simp only [S7] at hlen;refine wpAny_bind (e prog w _ _ ?_)
    wp_walk
    exact⟨rfl,rfl,_,_,X0s,t,by omega⟩
   |unlike e t=>
    rw [aE] at hz;injection hz with hyx X0s
    injection hyx with hy hx
    subst hy hx;refine wpAny_bind (e prog w _ _ ?_);have hri:=λ{Q E:G3->G6->Prop}=>t Q E
    wp_walk using hri
    exact⟨_,rfl,by simpa using h⟩
  case fin=>
   rintro ⟨b1,b2⟩ s' ⟨Κ,rfl,vs,us,hz,t,hlen⟩;simp only at Κ;subst Κ;have hv:=t.short hz.symm hlen;rw [hv] at h
   wp_walk
   exact⟨_,rfl,by simpa [qE] using h⟩
  case h=>
   exact⟨rfl,rfl,items.toList,Ð.toList,rfl,ht prog w,by rw [N0,N0];omega⟩
theorem Yz {α:Type}{p vs:G0 α}{x:α}{items:M8 α}(e:items.toList=p++x::vs){i:G7}(l:p.length=i):items[((i:G7):P0).toNat]? =some x:=by
 rw [X9,<-C3,e,<-l];simp
theorem Ŕ {α:Type}{p:G0 α}{items:M8 α}(e:items.toList=p){i:G7}(l:p.length=i):items[((i:G7):P0).toNat]? =none:=by
 rw [X9,<-C3,e,<-l];simp
section
variable {prog:T7}{w:C1}{A:B2}{R:sF->G6->Prop}{s:G6}{l b:P1}{items Ð:M8 G3}{n n2:G7}{dd Ŷ:P7 P1}{sl ŷ:M8 (P7 G3)}{r:N2}
theorem Uw (hl:s.heap.get? l=some {cls:= .type "list",dict:=dd,data:= .seq items n,slots:=sl})(hb:s.heap.get? b=some {cls:= .type "list",dict:=Ŷ,data:= .seq Ð n2,slots:=ŷ})(h:R (.ok (.ret (.bool r))) s):
 ∀ {vs us:G0 G3},Lx prog w A.in1 s vs us r-> ∀ (i:G7) (p q:G0 G3),items.toList=p++vs->Ð.toList=q++us->p.length=i->q.length=i->
  D9 (S2 prog w) A.in1 (Builtin.«list.__eq__.loop» ⟨[.ref l,.ref b,i9 i,i9 0],[]⟩) (λfin s'=>match fin with| .done f=>R (.ok f) s'| .again c'=>c'.quiet=true/\cE (S2 prog w) A c' R s') (λe s'=>R (.error e) s') s:=by
 intro vs us t;obtain⟨hp,g,d,tk,os⟩:=s
 induction t with
 |nn=>
  intro i p q e1 e2 l1 l2;rw [A8] at e1 e2;have z1:items.size=i:=by rw [<-N0,e1];exact l1
  have z2:Ð.size=i:=by rw [<-N0,e2];exact l2
  wp_walk using C0 hl,C0 hb
  rw [Ŕ e1 l1]
  wp_walk using C0 hl,C0 hb
  show R (.ok (.ret (.bool (decide (items.size<Ð.size))))) _;rw [z1,z2,show decide (i<i)=false from R8 (A4 _)];exact h
 |nc u us=>
  intro i p q e1 e2 l1 l2;rw [A8] at e1;have z1:items.size=i:=by rw [<-N0,e1];exact l1
  have z2:i<Ð.size:=by rw [<-N0,e2,P2,l2,S7];omega
  wp_walk using C0 hl,C0 hb
  rw [Ŕ e1 l1]
  wp_walk using C0 hl,C0 hb
  show R (.ok (.ret (.bool (decide (items.size<Ð.size))))) _;rw [z1,show decide (i<Ð.size)=true from D2 z2];exact h
 |cn v vs=>
  intro i p q e1 e2 l1 l2;rw [A8] at e2;have z1:i<items.size:=by rw [<-N0,e1,P2,l1,S7];omega
  have z2:Ð.size=i:=by rw [<-N0,e2];exact l2
  wp_walk using C0 hl,C0 hb
  rw [Yz e1 l1,Ŕ e2 l2]
  wp_walk using C0 hl,C0 hb
  show R (.ok (.ret (.bool (decide (items.size<Ð.size))))) _;rw [z2,show decide (items.size<i)=false from R8 (by omega)];exact h
 | @same v u vs us b0 e t ih=>
  intro i p q e1 e2 l1 l2
  wp_walk using C0 hl,C0 hb
  rw [Yz e1 l1,Yz e2 l2];refine wpAny_bind (e prog w _ _ ?_)
  wp_walk
  rw [show ((i:P0)+1)=((i+1:G7):P0) by omega];exact⟨oR plain_eq_loop _,bJ entry_eq_loop (by
   rw [cA plain_eq_loop _];exact ih h (i+1) (p++ [v]) (q++ [u]) (by rw [e1,D4];rfl) (by rw [e2,D4];rfl) (by rw [P2,l1];rfl) (by rw [P2,l2];rfl))⟩
 | @unlike v u vs us b0 e t=>
  intro i p q e1 e2 l1 l2
  wp_walk using C0 hl,C0 hb
  rw [Yz e1 l1,Yz e2 l2];refine wpAny_bind (e prog w _ _ ?_);have hri:=λ{Q E:G3->G6->Prop}=>t Q E
  wp_walk using C0 hl,C0 hb
  rw [Yz e1 l1,Yz e2 l2]
  wp_walk using hri
  exact h
end
theorem Gp (l b:P1)(items Ð:M8 G3)(n n2:G7)(dd Ŷ:P7 P1)(sl ŷ:M8 (P7 G3))(r:N2):
 Meets (Builtin.«list.__lt__» ⟨[.ref l,.ref b],[]⟩)
  (λA R s=>s.heap.get? l=some {cls:= .type "list",dict:=dd,data:= .seq items n,slots:=sl}/\s.heap.get? b=some {cls:= .type "list",dict:=Ŷ,data:= .seq Ð n2,slots:=ŷ}/\
   (∀prog w,Lx prog w A.in1 s items.toList Ð.toList r)/\R (.ok (.ret (.bool r))) s):=by
 intro prog w A R s h;obtain⟨hl,hb,ht,h⟩:=h;have f3:=AutoSeq1.sub_list_list;have fin:=Uw (prog:=prog) (w:=w) (A:=A) hl hb h (ht prog w) 0 [] [] rfl rfl rfl rfl;obtain⟨hp,g,d,tk,os⟩:=s
 wp_walk using C0 hl,C0 hb
 exact⟨oR plain_eq_loop _,bJ entry_eq_loop (by
  rw [cA plain_eq_loop _];exact fin)⟩
end HT
namespace HT
open PySem PySem.Spec PyProof.Rows PySem.SeqAt
mutual
/-- may they be compared? -/
def alk:U1->U1->N2
 | .int _,.int _=>true
 | .tuple xs,.tuple ys=>alks xs ys
 | .list xs,.list ys=>alks xs ys
 |_,_=>false
def alks:G0 U1->G0 U1->N2
 |x::xs,y::ys=>alk x y&&alks xs ys
 |_,_=>true
end
mutual
def ltP:U1->U1->N2
 | .int i,.int j=>decide (i<j)
 | .tuple xs,.tuple ys=>ltPs xs ys
 | .list xs,.list ys=>ltPs xs ys
 |_,_=>false
def ltPs:G0 U1->G0 U1->N2
 | [],[]=>false
 | [],_::_=>true
 |_::_,[]=>false
 |x::xs,y::ys=>if O5 x y=true then ltPs xs ys else ltP x y
end
theorem Ad {prog:T7}{w:C1}{A:B2}{E:G3->G6->Prop}{s:G6}{l b:P1}{o o2:Obj}{items Ð:M8 G3}{n n2:G7}{r:N2}{Q:G3->G6->Prop}(e1:s.heap.get? l=some o)(c1:o.cls= .type "tuple")(d1:o.data= .seq items n)(e2:s.heap.get? b=some o2)(c2:o2.cls= .type "tuple")(d2:o2.data= .seq Ð n2)
 (t: ∀prog w,Lx prog w A.in1 s items.toList Ð.toList r)(hu:A.units<cLine)(q:Q (.bool r) s):D9 (S2 prog w) A (i7 .Lt (.ref l) (.ref b)) Q E s:=by
 obtain⟨cls,dd,data,sl⟩:=o;obtain⟨X0D,Ŷ,G0L,ŷ⟩:=o2;simp only at c1 d1 c2 d2;subst c1 d1 c2 d2;have g:=XU l b items Ð n n2 dd Ŷ sl ŷ r;refine mF (op:= .Lt) ⟨_,e1,rfl⟩ ⟨_,e2,rfl⟩ xS w6 (u3 _ _) g ?_ hu;refine⟨e1,e2,t,?_⟩;exact And.intro (by intro x;cases x) q
theorem CG {prog:T7}{w:C1}{A:B2}{E:G3->G6->Prop}{s:G6}{l b:P1}{o o2:Obj}{items Ð:M8 G3}{n n2:G7}{r:N2}{Q:G3->G6->Prop}(e1:s.heap.get? l=some o)(c1:o.cls= .type "list")(d1:o.data= .seq items n)(e2:s.heap.get? b=some o2)(c2:o2.cls= .type "list")(d2:o2.data= .seq Ð n2)
 (t: ∀prog w,Lx prog w A.in1 s items.toList Ð.toList r)(hu:A.units<cLine)(q:Q (.bool r) s):D9 (S2 prog w) A (i7 .Lt (.ref l) (.ref b)) Q E s:=by
 obtain⟨cls,dd,data,sl⟩:=o;obtain⟨X0D,Ŷ,G0L,ŷ⟩:=o2;simp only at c1 d1 c2 d2;subst c1 d1 c2 d2;have g:=Gp l b items Ð n n2 dd Ŷ sl ŷ r;refine mF (op:= .Lt) ⟨_,e1,rfl⟩ ⟨_,e2,rfl⟩ IJ xT (xM _ _) g ?_ hu;refine⟨e1,e2,t,?_⟩;exact And.intro (by intro x;cases x) q
mutual
theorem Ux: ∀ (p q:U1) (A:B2) (s:G6) (v u:G3) (as bs:G0 P1),Reads s.heap v p as->Reads s.heap u q bs->p.canLay0=true->q.canLay0=true->alk p q=true->A.units+p.depth<cLine->
 ∀ (prog:T7) (w:C1) (Q E:G3->G6->Prop),Q (.bool (ltP p q)) s->D9 (S2 prog w) A (i7 .Lt v u) Q E s
 | .int i,q,A,s,v,u,as,bs,rp,rq,c1,c2,al,hu,prog,w,Q,E,h=>by
  cases q with
  |int j=>
   cases rp;cases rq;exact(IP h:D9 (S2 prog w) A (N8 .Lt (.int i _) (.int j _)) Q E s)
  |none=>cases al
  |bool _=>cases al
  |str _=>cases al
  |list _=>cases al
  |tuple _=>cases al
  |dict _=>cases al
 | .tuple xs,q,A,s,v,u,as,bs,rp,rq,c1,c2,al,hu,prog,w,Q,E,h=>by
  cases q with
  |tuple ys=>
   cases rp with
   |tuple e1 k1 d1 r1=>
    cases rq with
    |tuple e2 k2 d2 r2=>
     have c1':C8 xs=true:=by simpa only [L9] using c1
     have c2':C8 ys=true:=by simpa only [L9] using c2
     have du:A.units+(F5 xs+1)<cLine:=by simpa only [J1] using hu
     exact Ad e1 k1 d1 e2 k2 d2 (λprog w=>Ļ xs ys A.in1 s _ _ _ _ r1 r2 c1' c2' al (by show A.units+1+_<_;omega) prog w) (by omega) h
  |none=>cases al
  |bool _=>cases al
  |str _=>cases al
  |list _=>cases al
  |int _=>cases al
  |dict _=>cases al
 | .none,q,A,s,v,u,as,bs,rp,rq,c1,c2,al,hu,prog,w,Q,E,h=>by cases al
 | .bool _,q,A,s,v,u,as,bs,rp,rq,c1,c2,al,hu,prog,w,Q,E,h=>by cases al
 | .str _,q,A,s,v,u,as,bs,rp,rq,c1,c2,al,hu,prog,w,Q,E,h=>by cases al
 | .list xs,q,A,s,v,u,as,bs,rp,rq,c1,c2,al,hu,prog,w,Q,E,h=>by
  cases q with
  |list ys=>
   cases rp with
   |list e1 k1 d1 r1=>
    cases rq with
    |list e2 k2 d2 r2=>
     have c1':C8 xs=true:=by simpa only [L9] using c1
     have c2':C8 ys=true:=by simpa only [L9] using c2
     have du:A.units+(F5 xs+1)<cLine:=by simpa only [J1] using hu
     exact CG e1 k1 d1 e2 k2 d2 (λprog w=>Ļ xs ys A.in1 s _ _ _ _ r1 r2 c1' c2' al (by show A.units+1+_<_;omega) prog w) (by omega) h
  |none=>cases al
  |bool _=>cases al
  |str _=>cases al
  |tuple _=>cases al
  |int _=>cases al
  |dict _=>cases al
 | .dict _,q,A,s,v,u,as,bs,rp,rq,c1,c2,al,hu,prog,w,Q,E,h=>by cases al
theorem Ļ: ∀ (xs ys:G0 U1) (A:B2) (s:G6) (vs us:G0 G3) (as bs:G0 P1),ReadsAll s.heap vs xs as->ReadsAll s.heap us ys bs->C8 xs=true->C8 ys=true->alks xs ys=true->A.units+F5 xs<cLine->
 ∀ (prog:T7) (w:C1),Lx prog w A s vs us (ltPs xs ys)
 | [],[],A,s,vs,us,as,bs,ra,rb,_,_,_,_,prog,w=>by
  cases ra;cases rb;exact .nn
 | [],y::ys,A,s,vs,us,as,bs,ra,rb,_,_,_,_,prog,w=>by
  cases ra;cases rb with
  |cons r rs=>exact .nc _ _
 |x::xs,[],A,s,vs,us,as,bs,ra,rb,_,_,_,_,prog,w=>by
  cases rb;cases ra with
  |cons r rs=>exact .cn _ _
 |x::xs,y::ys,A,s,vs,us,as,bs,ra,rb,c1,c2,al,hu,prog,w=>by
  cases ra with
  |cons r rs=>
   cases rb with
   |cons r' rs'=>
    have d1:x.canLay0=true/\C8 xs=true:=by simpa [C8] using c1
    have d2:y.canLay0=true/\C8 ys=true:=by simpa [C8] using c2
    have al':alk x y=true/\alks xs ys=true:=by simpa [alks] using al
    have dx:A.units+x.depth<cLine/\A.units+F5 xs<cLine:=by simp only [F5] at hu;omega
    have eq:=eqAt_reads x y A s _ _ _ _ r r' d1.1 d2.1 (by have:=rQ x.depth y.depth;omega);unfold ltPs;cases e:O5 x y with
    |true=>
     rw [e] at eq;rw [R5 rfl];exact .same eq (Ļ xs ys A s _ _ _ _ rs rs' d1.2 d2.2 al'.2 dx.2 prog w)
    |false=>
     rw [e] at eq;rw [R3 D0];exact .unlike eq λQ E q=>Ux x y A s _ _ _ _ r r' d1.1 d2.1 al'.1 dx.1 prog w Q E q
end
end HT
namespace L2
open PySem PySem.Spec PyProof.Rows PySem.SeqAt HT
open Classical in
noncomputable def readOf (h:L8)(v:G3):U1:=if e: ∃p as,p.canLay0=true/\Reads h v p as then e.choose else .none
end L2
namespace L2
open PySem PySem.Spec PyProof.Rows PySem.SeqAt
def zj:G0 (G0 P0)->G0 (G0 P0)->N2
 | [],[]=>false
 | [],_::_=>true
 |_::_,[]=>false
 |a::A,b::B=>if a=b then zj A B else HT.wa a b
theorem MT: ∀A:G0 (G0 P0),zj A A=false
 | []=>rfl
 |a::A=>by show (if a=a then zj A A else _)=false;rw [R5 rfl];exact MT A
theorem CH {a b c:G0 P0}(x:HT.wa a b=true)(y:HT.wa b c=true):HT.wa a c=true:=by
 rcases HT.XS a c b x with z|z
 ·exact z
 ·rw [HT.ZS _ _ y] at z;cases z
theorem WU: ∀ {A B C:G0 (G0 P0)},zj A B=true->zj B C=true->zj A C=true
 | [],[],_,x,_=>by cases x
 | [],_::_,[],_,y=>by cases y
 | [],_::_,_::_,_,_=>rfl
 |_::_,[],_,x,_=>by cases x
 |_::_,_::_,[],_,y=>by cases y
 |a::A,b::B,c::C,x,y=>by
  change (if a=b then zj A B else HT.wa a b)=true at x
  change (if b=c then zj B C else HT.wa b c)=true at y
  show (if a=c then zj A C else HT.wa a c)=true
  by_cases e1:a=b
  ·subst e1;rw [R5 rfl] at x
   by_cases e2:a=c
   ·rw [R5 e2] at y ⊢;exact WU x y
   ·rw [R3 e2] at y ⊢;exact y
  ·rw [R3 e1] at x
   by_cases e2:b=c
   ·subst e2;rw [R3 e1];exact x
   ·rw [R3 e2] at y;have z:=CH x y;have ne:a≠c:=λw=>by subst w;rw [HT.ZS _ _ x] at y;cases y
    rw [R3 ne];exact z
theorem Uy: ∀A B:G0 (G0 P0),A=B\/zj A B=true\/zj B A=true
 | [],[]=> .inl rfl
 | [],_::_=> .inr (.inl rfl)
 |_::_,[]=> .inr (.inr rfl)
 |a::A,b::B=>by
  show _\/(if a=b then zj A B else HT.wa a b)=true\/(if b=a then zj B A else HT.wa b a)=true
  by_cases e:a=b
  ·subst e;rw [R5 rfl,R5 rfl];rcases Uy A B with z|z|z
   ·exact .inl (by rw [z])
   ·exact .inr (.inl z)
   ·exact .inr (.inr z)
  ·rw [R3 e,R3 (E4 e)];cases x:HT.wa a b with
   |true=>exact .inr (.inl rfl)
   |false=>
    cases y:HT.wa b a with
    |true=>exact .inr (.inr rfl)
    |false=>exact absurd (HT.Yy _ _ x y) e
theorem Ae {A B:G0 (G0 P0)}(x:zj A B=true):zj B A=false:=by
 cases y:zj B A with
 |false=>rfl
 |true=>have:=WU x y;rw [MT] at this;cases this
theorem Uz: ∀a b:G0 P0,HT.ltPs (a.map .int) (b.map .int)=HT.wa a b
 | [],[]=>rfl
 | [],_::_=>rfl
 |_::_,[]=>rfl
 |x::a,y::b=>by
  show (if (x==y)=true then HT.ltPs (a.map .int) (b.map .int) else decide (x<y))=if x=y then HT.wa a b else decide (x<y)
  rw [Uz a b]
  by_cases c:x=y
  ·rw [R5 c,R5 (by simpa using c)]
  ·rw [R3 c,R3 (by simpa using c)]
theorem UA: ∀a b:G0 P0,HT.alks (a.map .int) (b.map .int)=true
 | [],_=>by unfold HT.alks;rfl
 |_::_,[]=>rfl
 |x::a,y::b=>by
  show (true&&HT.alks (a.map .int) (b.map .int))=true;rw [UA a b];rfl
theorem XV: ∀A B:G0 (G0 P0),HT.ltPs (A.map yq) (B.map yq)=zj A B
 | [],[]=>rfl
 | [],_::_=>rfl
 |_::_,[]=>rfl
 |a::A,b::B=>by
  show (if O5 (yq a) (yq b)=true then HT.ltPs (A.map yq) (B.map yq) else HT.ltPs (a.map .int) (b.map .int))=if a=b then zj A B else HT.wa a b
  rw [Gh,XV A B,Uz]
  by_cases c:a=b
  ·rw [R5 (D2 c),R5 c]
  ·rw [R3 (by rw [R8 c];exact D0),R3 c]
theorem Af (A B:G0 (G0 P0)):HT.ltP (Jo A) (Jo B)=zj A B:=XV A B
theorem XW: ∀A B:G0 (G0 P0),HT.alks (A.map yq) (B.map yq)=true
 | [],_=>by unfold HT.alks;rfl
 |_::_,[]=>rfl
 |a::A,b::B=>by
  show (HT.alks (a.map .int) (b.map .int)&&HT.alks (A.map yq) (B.map yq))=true;rw [UA,XW A B];rfl
end L2
namespace L2
open PySem PySem.Spec PyProof.Rows
def s5:G7->G7
 |0=>0
 |d+1=>5*s5 d+1
def f5 (N:G7):G7->G7->G7
 |0,a=>a
 |d+1,a=>(f5 N d a*5+1)%N
theorem Pt: ∀ (fuel k n:G7),3<=k-> ∃m,3<=m/\SetTable.sizeAbove.go n fuel (2^k)=2^m/\(n<2^(k+fuel)->n<2^m)
 |0,k,n,h=>⟨k,h,rfl,λz=>z⟩
 |fuel+1,k,n,h=>by
  unfold SetTable.sizeAbove.go
  by_cases c:2^k<=n
  ·rw [R5 c,<-xN];obtain⟨m,a,b,d⟩:=Pt fuel (k+1) n (by omega);exact⟨m,a,b,λz=>d (by rw [iI,cT];exact z)⟩
  ·rw [R3 c];exact⟨k,h,rfl,λ_=>by omega⟩
theorem above {n:G7}(h:n<2^67): ∃m,dD n=2^m/\n<dD n/\8<=dD n:=by
 obtain⟨m,a,b,c⟩:=Pt 64 3 n (by decide);have b:dD n=2^m:=b;refine⟨m,b,by rw [b];exact c h,?_⟩;rw [b];exact b9 (show 0<2 by decide) a
end L2
namespace L2
open PySem PySem.Spec PyProof.Rows HT
def MU (h h':L8):Prop:= ∀ (b:P1) (o:Obj),o.cls= .type "tuple" ->h.get? b=some o->h'.get? b=some o
theorem JM {α β:Type}{M:qX}{A:B2}{E:G3->G6->Prop}{s:G6}{f:α->β->Sem (dH β)}{r:β}{Q:β->G6->Prop}: ∀ (l:G0 α),(∀x∈l,∀Q':dH β->G6->Prop,Q' (.yield r) s->D9 M A (f x r) Q' E s)->Q r s->D9 M A (forIn l r f) Q E s
 | [],_,q=>G8 q
 |x::l,h,q=>by
  rw [aK];exact wpAny_bind (h x (.head _) _ (JM l (λy hy=>h y (.tail _ hy)) q))
structure X1a (prog:T7)(w:C1)(K:Type)[DecidableEq K] where
 is:L8->K->P1->Prop
 hash:K->P0
 inj: ∀ {h:L8} {x y:K} {a:P1},is h x a->is h y a->x=y
 keep: ∀ {h h':L8} {x:K} {a:P1},MU h h'->is h x a->is h' x a
 hashed: ∀ {A:B2} {E:G3->G6->Prop} {s:G6} {x:K} {a:P1} {Q:P0->G6->Prop},A.units+8<cLine->is s.heap x a->(∀tk,Q (hash x) {s with toks:=tk})->D9 (S2 prog w) A (pyHash (.ref a)) Q E s
 same: ∀ {A:B2} {E:G3->G6->Prop} {s:G6} {x y:K} {a b:P1} {Q:N2->G6->Prop},A.units+8<cLine->is s.heap x a->is s.heap y b->Q (decide (x=y)) s->D9 (S2 prog w) A (eqBool (.ref a) (.ref b)) Q E s
 quiet: ∀ {A:B2} {E:G3->G6->Prop} {s:G6} {x:K} {a:P1} {Q:N2->G6->Prop},is s.heap x a->Q true s->D9 (S2 prog w) A (oC 8 (.ref a)) Q E s
 cls: ∀ {A:B2} {E:G3->G6->Prop} {s:G6} {x:K} {a:P1} {Q:N2->G6->Prop},is s.heap x a->Q false s->D9 (S2 prog w) A (Y1 8 (.ref a)) Q E s
 byv: ∀ {A:B2} {E:G3->G6->Prop} {s:G6} {x:K} {a:P1} {Q:N2->G6->Prop},is s.heap x a->Q true s->D9 (S2 prog w) A (gB 8 (.ref a)) Q E s
section
variable {prog:T7}{w:C1}{A:B2}{E:G3->G6->Prop}{s:G6}
theorem Ag (n:G7){v:G3}(h:carriedByValue v=true):Y1 n v=pure false:=by
 cases v<;>first|(cases h;done)|simp [Y1]
theorem FT {n:P0}{v:G3}(h:(intKind prog w).is n v=true): ∃tk,v= .int n tk:=by
 cases v<;>simp [intKind,qW] at h;exact⟨_,by rw [h]⟩
theorem DB {ks:G0 P0}{vs:G0 G3}(h:ItemsAre (intKind prog w) ks vs): ∀v∈vs,∃n tk,v= .int n tk:=by
 induction h with
 |nil=>exact λv hv=>absurd hv F4
 |cons h1 _ ih=>
  intro v hv;rcases T3.mp hv with rfl|hv
  ·obtain⟨tk,e⟩:=FT h1;exact⟨_,tk,e⟩
  ·exact ih v hv
theorem MV (d:G7){x:G0 P0}{a:P1}{Q:N2->G6->Prop}:iK (intKind prog w) s.heap x a->Q false s->D9 (S2 prog w) A (Y1 (d+1) (.ref a)) Q E s
 |⟨_,_,_,ho,hc,hd,hi⟩,q=>by
  unfold Y1;refine wpAny_bind (dQ (T:= "tuple") ⟨_,ho,hc⟩ ?_);simp only [qS,↓reduceIte,pure_bind,j7,Z9];refine wpAny_bind (cB ho hd (wpAny_bind ?_));simp only [<-J6];refine JM _ (λv hv Q' q'=> ?_) (G8 q);rw [Ag d (hi.byValue v hv)];exact G8 q'
theorem Ah (d:G7)(m:P0)(tk:Tok):gB d (.int m tk)=pure true:=by cases d<;>rfl
theorem MW (d:G7){x:G0 P0}{a:P1}{Q:N2->G6->Prop}:iK (intKind prog w) s.heap x a->Q true s->D9 (S2 prog w) A (gB (d+1) (.ref a)) Q E s
 |⟨_,_,_,ho,hc,hd,hi⟩,q=>by
  unfold gB;refine wpAny_bind (Y3 (T:= "tuple") ⟨_,ho,hc⟩ F.slot_tuple_hash.lookup ?_);refine wpAny_bind (cB ho hd (wpAny_bind ?_));simp only [cI,<-J6];refine JM _ (λv hv Q' q'=> ?_) (G8 q);obtain⟨m,tk,rfl⟩:=DB hi v hv;rw [Ah];exact G8 q'
def xH (prog:T7)(w:C1):X1a prog w (G0 P0) where
 is:=λh x a=>iK (intKind prog w) h x a
 hash:=V2 (intKind prog w)
 inj:=λhx hy=>hx.inj hy
 keep:=λk ⟨o,items,n,ho,hc,hd,hi⟩=>⟨o,items,n,k _ o hc ho,hc,hd,hi⟩
 hashed:=λhu hk q=>iM (by omega) hk (q _)
 same:=λhu hx hy q=>oZ (by omega) hx hy q
 quiet:=λhk q=>wpAny_eqIsQuiet_tuple hk q
 cls:=λhk q=>MV 7 hk q
 byv:=λhk q=>MW 7 hk q
end
end L2
namespace L2
open PySem PySem.Spec PyProof.Rows HT PySem.SeqAt
theorem VM {prog:T7}{w:C1}: ∀ {vs:G0 G3} {ns:G0 P0},lS vs ns->ItemsAre (intKind prog w) ns vs
 |_,_,.nil=> .nil
 |_,_,.cons n t a=> .cons (by simp [intKind,qW]) (VM a)
variable {À:G0 (P1×Obj)}{H:Hp}
theorem Th {X:Cx}{σ:St}{s:G6}(I:Inv X À σ H s)(k:G0 P0)(b:P1)(h:H b=some (.tup (k.map V.int))):(xH X.prog X.w).is s.heap k b:=by
 obtain⟨_,us,r2,o,e,c,_,n,d⟩:=I.hok b _ h;exact⟨o,us.toArray,n,e,c,d,VM (Md r2)⟩
section
variable {prog:T7}{w:C1}{A:B2}{E:G3->G6->Prop}{s:G6}
inductive Ñ (prog:T7)(w:C1)(h:L8):G0 (G0 P0)->G0 G3->Prop
 |nil:Ñ prog w h [] []
 |cons {r:G0 P0} {b:P1} {T:G0 (G0 P0)} {vs:G0 G3}:iK (intKind prog w) h r b->Ñ prog w h T vs->Ñ prog w h (r::T) (.ref b::vs)
variable {h:L8}
theorem Ñ.one: ∀ {T U:G0 (G0 P0)} {vs:G0 G3},Ñ prog w h T vs->Ñ prog w h U vs->T=U
 |_,_,_,.nil,.nil=>rfl
 |_,_,_,.cons a x,.cons b y=>by rw [a.inj b,x.one y]
theorem Ñ.keep {h':L8}(k:MU h h'): ∀ {T:G0 (G0 P0)} {vs:G0 G3},Ñ prog w h T vs->Ñ prog w h' T vs
 |_,_,.nil=> .nil
 |_,_,.cons ⟨o,items,n,ho,hc,hd,hi⟩ x=> .cons ⟨o,items,n,k _ o hc ho,hc,hd,hi⟩ (x.keep k)
theorem Ñ.each: ∀ {T:G0 (G0 P0)} {vs:G0 G3},Ñ prog w h T vs-> ∀v∈vs,∃r b,v= .ref b/\iK (intKind prog w) h r b
 |_,_,.nil,v,hv=>absurd hv F4
 |_,_,.cons a x,v,hv=>by
  rcases T3.mp hv with e|hv
  ·exact⟨_,_,e,a⟩
  ·exact x.each v hv
def Ve (prog:T7)(w:C1)(h:L8)(T:G0 (G0 P0))(a:P1):Prop:= ∃o items n,h.get? a=some o/\o.cls= .type "tuple" /\o.data= .seq items n/\Ñ prog w h T items.toList
def DD (prog:T7)(w:C1)(T:G0 (G0 P0)):P0:=lU (V7 (T.map (V2 (intKind prog w))))
theorem XX {Q:M8 P0->G6->Prop}(hu:A.units+4<cLine): ∀ {vs:G0 G3} {U:G0 (G0 P0)} (b:M8 P0) (s1:G6),s1.heap=s.heap->Ñ prog w s.heap U vs->(∀tk,Q (b++(U.map (V2 (intKind prog w))).toArray) {s1 with toks:=tk})->
 D9 (S2 prog w) A (forIn vs b λx r=>do let h <-pyHash x;pure (bI (r.push h))) Q E s1
 |_,_,b,s1,_,.nil,q=>G8 (by have:=q s1.toks;simpa using this)
 |_,_,b,s1,e1,.cons (r:=r) (T:=U) a x,q=>by
  rw [aK];refine wpAny_bind (wpAny_bind (iM (by omega) (by rw [e1];exact a) (G8 ?_)));exact XX hu (b.push (V2 (intKind prog w) r)) _ e1 x λtk=>by
   have:=q tk;rw [M7] at this;simpa using this
variable {T:G0 (G0 P0)}{a:P1}
theorem CI {Q:P0->G6->Prop}(hu:A.units+8<cLine)(hT:Ve prog w s.heap T a)(q: ∀tk,Q (DD prog w T) {s with toks:=tk}):D9 (S2 prog w) A (pyHash (.ref a)) Q E s:=by
 obtain⟨o,items,n,ho,hc,hd,hi⟩:=hT;have ty:s.TypeIs (.ref a) "tuple" :=⟨o,ho,hc⟩;have room:A.units<cLine:=by omega
 have slot:=λ{M:qX} {A':B2} {E':G3->G6->Prop} {P:P7 G3->G6->Prop}=>Y3 (M:=M) (A:=A') (E:=E') (Q:=P) ty F.slot_tuple_hash.lookup
 unfold pyHash pyHashByItsType;refine wpAny_bind (pZ (.inr room) (wpAny_bind (slot ?_)));rw [R3 (by simp)];refine wpAny_bind (slot (wpAny_bind (bP ty eU (N5 eU ty o6 ?_ (oG _)))));show D9 _ _ (U6 (.ref a) >>= _) _ _ s;refine wpAny_bind (o7 ho hd (wpAny_bind ?_));rw [<-J6];refine XX (A:=A.in1) (show A.units+1+4<cLine by omega) #[] s rfl hi λtk=> ?_
 have told:=q (tk+1);unfold DD lU at told;show D9 _ _ (retInt (V7 ((#[]:M8 P0)++(T.map (V2 (intKind prog w))).toArray).toList)) _ _ _;rw [show ((#[]:M8 P0)++(T.map (V2 (intKind prog w))).toArray).toList=T.map (V2 (intKind prog w)) by simp];refine gG ?_;show D9 _ _ (a9 _) _ _ _;unfold a9;split
 ·rename_i c;rw [R5 c] at told;exact G8 told
 ·rename_i c;rw [R3 c] at told;exact wpAny_bind (bF (G8 told))
theorem Ñ.len: ∀ {T:G0 (G0 P0)} {vs:G0 G3},Ñ prog w h T vs->T.length=vs.length
 |_,_,.nil=>rfl
 |_,_,.cons _ x=>by rw [S7,S7,x.len]
theorem MX (d:G7){x:G0 P0}{a:P1}{Q:N2->G6->Prop}:iK (intKind prog w) s.heap x a->Q true s->D9 (S2 prog w) A (oC (d+1) (.ref a)) Q E s
 |⟨_,_,_,ho,hc,hd,hi⟩,q=>by
  unfold oC;refine wpAny_bind (Y3 (T:= "tuple") ⟨_,ho,hc⟩ F.slot_tuple_eq.lookup (wpAny_bind (Z7 (T:= "tuple") ⟨_,ho,hc⟩ mW ?_)));simp only [j7,Z9,↓reduceIte];refine wpAny_bind (cB ho hd (wpAny_bind ?_));simp only [cI,<-J6];refine JM _ (λv hv Q' q'=> ?_) (G8 q);rw [eqIsQuiet_byValue d (hi.byValue v hv)];exact G8 q'
variable {Q:N2->G6->Prop}
theorem XY:Ve prog w s.heap T a->Q true s->D9 (S2 prog w) A (oC 8 (.ref a)) Q E s
 |⟨_,_,_,ho,hc,hd,hi⟩,q=>by
  unfold oC;refine wpAny_bind (Y3 (T:= "tuple") ⟨_,ho,hc⟩ F.slot_tuple_eq.lookup (wpAny_bind (Z7 (T:= "tuple") ⟨_,ho,hc⟩ mW ?_)));simp only [j7,Z9,↓reduceIte];refine wpAny_bind (cB ho hd (wpAny_bind ?_));simp only [cI,<-J6];refine JM _ (λv hv Q' q'=> ?_) (G8 q);obtain⟨r,b,rfl,hr⟩:=hi.each v hv;exact wpAny_bind (MX 6 hr (G8 q'))
theorem Ai:Ve prog w s.heap T a->Q false s->D9 (S2 prog w) A (Y1 8 (.ref a)) Q E s
 |⟨_,_,_,ho,hc,hd,hi⟩,q=>by
  unfold Y1;refine wpAny_bind (dQ (T:= "tuple") ⟨_,ho,hc⟩ ?_);simp only [qS,↓reduceIte,pure_bind,j7,Z9];refine wpAny_bind (cB ho hd (wpAny_bind ?_));simp only [<-J6];refine JM _ (λv hv Q' q'=> ?_) (G8 q);obtain⟨r,b,rfl,hr⟩:=hi.each v hv;exact wpAny_bind (MV 6 hr (G8 q'))
theorem Aj:Ve prog w s.heap T a->Q true s->D9 (S2 prog w) A (gB 8 (.ref a)) Q E s
 |⟨_,_,_,ho,hc,hd,hi⟩,q=>by
  unfold gB;refine wpAny_bind (Y3 (T:= "tuple") ⟨_,ho,hc⟩ F.slot_tuple_hash.lookup (wpAny_bind (cB ho hd (wpAny_bind ?_))));simp only [cI,<-J6];refine JM _ (λv hv Q' q'=> ?_) (G8 q);obtain⟨r,b,rfl,hr⟩:=hi.each v hv;exact wpAny_bind (MW 6 hr (G8 q'))
theorem Ji: ∀ {ks:G0 P0} {vs:G0 G3},ItemsAre (intKind prog w) ks vs->ReadsAll h vs (ks.map iF) []
 |_,_,.nil=> .nil
 |_,_,.cons a x=>by
  obtain⟨tk,rfl⟩:=FT a;exact .cons (as:= []) (bs:= []) (.int _ _) (Ji x)
theorem ZT: ∀ {T:G0 (G0 P0)} {vs:G0 G3},Ñ prog w h T vs->ReadsAll h vs (T.map yq) []
 |_,_,.nil=> .nil
 |_,_,.cons ⟨_,_,_,ho,hc,hd,hi⟩ x=> .cons (as:= []) (bs:= []) (.tuple ho hc hd (Ji hi)) (ZT x)
theorem MY {U:G0 (G0 P0)}{b:P1}(hu:A.units+8<cLine)(hT:Ve prog w s.heap T a)(hU:Ve prog w s.heap U b)(q:Q (decide (T=U)) s):D9 (S2 prog w) A (eqBool (.ref a) (.ref b)) Q E s:=by
 obtain⟨_,_,_,ho,hc,hd,hi⟩:=hT;obtain⟨_,_,_,ho',Ρ,hd',hi'⟩:=hU;have lay: ∀V:G0 (G0 P0),L9 (.tuple (V.map yq))=true:=λV=>by simp only [L9];exact yZ V
 have dep:J1 (.tuple (T.map yq))<=4:=by simp only [J1];have:=yO T;omega
 refine eqBoolOverData prog w A E s _ _ _ _ _ _ Q (.tuple ho hc hd (ZT hi)) (.tuple ho' Ρ hd' (ZT hi')) (lay T) (lay U) (by have:=rQ (J1 (.tuple (T.map yq))) (J1 (.tuple (U.map yq)));omega) ?_;show Q (U3 (T.map yq) (U.map yq)) s;rw [yc];exact q
def Hj (prog:T7)(w:C1):X1a prog w (G0 (G0 P0)) where
 is:=λh T a=>Ve prog w h T a
 hash:=DD prog w
 inj:=λ⟨_,_,_,ho,_,hd,hi⟩ ⟨_,_,_,ho',_,hd',hi'⟩=>by
  rw [ho] at ho';cases ho';rw [hd] at hd';cases hd';exact hi.one hi'
 keep:=λk ⟨o,items,n,ho,hc,hd,hi⟩=>⟨o,items,n,k _ o hc ho,hc,hd,hi.keep k⟩
 hashed:=λhu hk q=>CI hu hk q
 same:=λhu hx hy q=>MY hu hx hy q
 quiet:=λhk q=>XY hk q
 cls:=λhk q=>Ai hk q
 byv:=λhk q=>Aj hk q
end
def CJ (H:Hp):G0 V->G0 (G0 P0)->Prop
 | [],[]=>True
 |v::vs,r::T=>(∃c,v= .ref c/\H c=some (.tup (r.map V.int)))/\CJ H vs T
 |_,_=>False
def QP (H:Hp)(T:G0 (G0 P0))(b:P1):Prop:= ∃us,H b=some (.tup us)/\CJ H us T
theorem MZ {X:Cx}{σ:St}{s:G6}(I:Inv X À σ H s): ∀ {vs:G0 V} {T:G0 (G0 P0)} {us:G0 G3},CJ H vs T->È vs us->Ñ X.prog X.w s.heap T us
 | [],[],_,_,.nil=> .nil
 |_::_,r::_,_,⟨⟨c,e,hc⟩,x⟩,.cons rv y=>by
  subst e;cases rv;exact .cons (Th I r c hc) (MZ I x y)
theorem Zp {X:Cx}{σ:St}{s:G6}(I:Inv X À σ H s)(T:G0 (G0 P0))(b:P1)(h:QP H T b):(Hj X.prog X.w).is s.heap T b:=by
 obtain⟨us,hb,x⟩:=h;obtain⟨_,its,rv,o,e,c,_,n,d⟩:=I.hok b _ hb;exact⟨o,its.toArray,n,e,c,d,by rw [List.toList_toArray];exact MZ I x rv⟩
theorem Gq {K:G5}: ∀ {T:G0 (G0 P0)} {vs:G0 V},Á K H (T.map ym) vs->CJ H vs T
 | [],vs,r=>by
  have:vs= []:=r;subst this;exact aQ
 |row::T,vs,r=>by
  obtain⟨v,us,e,r1,r2⟩:=(show ∃v r,vs=v::r/\Ê K H (ym row) v/\Á K H (T.map ym) r from r);obtain⟨a,ws,e4,hH,r4⟩:=(show ∃a vs,v= .ref a/\H a=some (.tup vs)/\Á K H (row.map D.int) vs from r1);rw [yX r4] at hH;subst e;exact⟨⟨a,e4,hH⟩,Gq r2⟩
theorem Na {K:G5}: ∀ {Ts:G0 (G0 (G0 P0))} {vs:G0 V},Á K H (Ts.map jg) vs-> ∃ps:G0 (P1×G0 (G0 P0)),vs=ps.map (λp=>V.ref p.1)/\Ts=ps.map (·.2)/\ ∀p∈ps,QP H p.2 p.1
 | [],vs,r=>⟨[],r,rfl,λp hp=>by cases hp⟩
 |T::Ts,vs,r=>by
  obtain⟨v,us,e,r1,r2⟩:=(show ∃v r,vs=v::r/\Ê K H (jg T) v/\Á K H (Ts.map jg) r from r);obtain⟨ps,e1,e2,e3⟩:=Na r2;obtain⟨a,ws,e4,hH,r4⟩:=(show ∃a vs,v= .ref a/\H a=some (.tup vs)/\Á K H (T.map ym) vs from r1);exact⟨(a,T)::ps,by rw [e,e1,e4];rfl,by rw [e2];rfl,λp hp=>by
   rcases T3.mp hp with rfl|hp
   ·exact⟨ws,hH,Gq r4⟩
   ·exact e3 p hp⟩
end L2
namespace L2
open PySem PySem.Spec PyProof.Rows PySem.W
structure Ç (K:Frag)(x:Str)(st:A3)(f:P1)(fd:M9):Prop where
 at_:nsIn K O6 x=some (some (.ref f))
 fn:ã K x x st f fd
variable {K:Frag}{h base:L8}{mg:Str->P7 G3}{x:Str}{st:A3}{f:P1}{fd:M9}{P:T7}{w:C1}{n:G7}{ps:G0 Str}
theorem Ti {oc:G3}{od an:P7 P1}{ŵ:M8 (P7 G3)}{kV doc pm ù ct:G3}(a:nsIn K O6 x=some (some (.ref f)))(l:K.lookup f=some ⟨oc,od,.func (fnOf x x (vH st) (wz st) (jd st) .none kV doc pm an ù ct),ŵ⟩)
 (c:codeIn K ù x=true)(k:keepIn K (.ref f)=true):Ç K x st f (fnOf x x (vH st) (wz st) (jd st) .none kV doc pm an ù ct):=⟨a,EM l c k⟩
abbrev KB (x:Str)(st:A3)(ps:G0 Str):Prop:= ∀ (kV doc pm:G3) (an:P7 P1) (ù ct:G3) (us:G0 G3),us.length=ps.length->x4 (fnOf x x (vH st) (wz st) (jd st) .none kV doc pm an ù ct) ⟨us,[]⟩=pure (ps.zip us)
theorem Ç.nm (d:Ç K x st f fd)(X:K.In h)(G:h.Ns O6 mg):mg x=some (.ref f):=mg_of X G d.at_
variable {C:G0 G3->Prop}
theorem ln1 (g: ∀a,C [a]): ∀us:G0 G3,us.length=1->C us
 | [_],_=>g _
theorem ln2 (g: ∀a b,C [a,b]): ∀us:G0 G3,us.length=2->C us
 | [_,_],_=>g _ _
theorem ln3 (g: ∀a b c,C [a,b,c]): ∀us:G0 G3,us.length=3->C us
 | [_,_,_],_=>g _ _ _
theorem ln4 (g: ∀a b c d,C [a,b,c,d]): ∀us:G0 G3,us.length=4->C us
 | [_,_,_,_],_=>g _ _ _ _
theorem ln5 (g: ∀a b c d e,C [a,b,c,d,e]): ∀us:G0 G3,us.length=5->C us
 | [_,_,_,_,_],_=>g _ _ _ _ _
theorem Ç.cal {sp:RDn}(d:Ç K x st f fd)(l:OpenLaw)(w:C1)(base:L8)(X:K.In h)(G:h.Ns O6 mg)(ok:Ë l.prog w K mg base á n f fd ps (ä K sp))(b:KB x st ps:=by first|exact λ_ _ _ _ _ _=>ln1 λ_=>rfl|exact λ_ _ _ _ _ _=>ln2 λ_ _=>rfl|exact λ_ _ _ _ _ _=>ln3 λ_ _ _=>rfl|exact λ_ _ _ _ _ _=>ln4 λ_ _ _ _=>rfl|exact λ_ _ _ _ _ _=>ln5 λ_ _ _ _ _=>rfl):je l.prog w K mg base n x ps sp:=⟨_,_,ok,d.fn.binds b,d.fn.kp,d.nm X G⟩
def zsB (K:Frag):N2:= ["len","max","min","divmod","all","any","repr","sum","sorted","int","tuple","list","set","bool","isinstance","range","zip","enumerate","reversed"].all λx=>nsIn K O6 (J0 x)==some none
theorem KC (X:K.In h)(G:h.Ns O6 mg)(e:zsB K=true):Zs mg:=by
 unfold zsB at e;rw [T6] at e;have m:=λ(x:U4) hx=>mg_none_of X G (beq_iff_eq.mp (e x hx))
 exact⟨m "len" (by decide),m "max" (by decide),m "min" (by decide),m "divmod" (by decide),m "all" (by decide),m "any" (by decide),m "repr" (by decide),m "sum" (by decide),m "sorted" (by decide),m "int" (by decide),m "tuple" (by decide),m "list" (by decide),m "set" (by decide),m "bool" (by decide),m "isinstance" (by decide),m "range" (by decide),m "zip" (by decide),m "enumerate" (by decide),m "reversed" (by decide)⟩
end L2
namespace L2
open PySem PySem.Spec PyProof.Rows
theorem Sub.overC {h h':HD}{a:P1}{c:DC}(sb:Sub h h')(e:h.dc a=none):Sub h (Bj h' a c):=⟨sb.ls,λb xs z=>by
 rw [JB (λw=>by subst w;rw [e] at z;cases z)];exact sb.dc b xs z⟩
end L2
set_option maxRecDepth 35000
namespace L2
open PySem PySem.Spec PyProof.Rows
section
variable {X:Cx}{k i:G7}{ps N Pn:G0 Str}{ĩ:RDn}{x:Str}{p pos pos':Pos}{e e2 e3 e4 iter elt:T8}{es ifs:G0 T8}{t:TAD}{te Λ te3 te4:TED}{ti:TID}{tt:TTD}{scope sc:U2}{c:T8}
theorem jk (C:je X.prog X.w X.K X.mg X.base k x ps ĩ)(hr:ß k X.A)(ha:JA X (e::es) t)(hg:Gl X x:=by rfl)(hdb:(x==("__debug__" :Str))=false:=by decide)(he:R6 (e::es) X.env=(false,A0 e X.env)::R6 es X.env:=by rfl)(hpl:(Q7 pos (R6 es X.env)).any (·.1)=false:=by rfl):JE X (.Call (.Name x p) (e::es) [] pos) (Ĩ ĩ t):=by
 obtain⟨g,gd,F,hb,hk,hm⟩:=C;exact Kq F hr hg hm hk hb ha hdb he hpl
theorem j1 (a:JE X e te)(h:zN e=true:=by rfl):JA X [e] (wb te Vd):=jac a Js h
theorem j2 (a:JE X e te)(b:JE X e2 Λ)(h:zN e=true:=by rfl)(h2:zN e2=true:=by rfl):JA X [e,e2] (wb te (wb Λ Vd)):=jac a (j1 b h2) h
theorem j3 (a:JE X e te)(b:JE X e2 Λ)(c:JE X e3 te3)(h:zN e=true:=by rfl)(h2:zN e2=true:=by rfl)(h3:zN e3=true:=by rfl):JA X [e,e2,e3] (wb te (wb Λ (wb te3 Vd))):=jac a (j2 b c h2 h3) h
theorem j4 (a:JE X e te)(b:JE X e2 Λ)(c:JE X e3 te3)(d:JE X e4 te4)(h:zN e=true:=by rfl)(h2:zN e2=true:=by rfl)(h3:zN e3=true:=by rfl)(h4:zN e4=true:=by rfl):JA X [e,e2,e3,e4] (wb te (wb Λ (wb te3 (wb te4 Vd)))):=jac a (j3 b c d h2 h3 h4) h
theorem WE (Z:Zs X.mg)(a:JE X e te)(hg:Gl X "len" :=by rfl)(h:zN e=true:=by rfl)(he:R6 [e] X.env=(false,A0 e X.env)::R6 [] X.env:=by rfl)(hpl:(Q7 pos (R6 [] X.env)).any (·.1)=false:=by rfl):JE X (.Call (.Name "len" p) [e] [] pos) (Ĩ AT (wb te Vd)):=wJ Sz hg Z.len PySem.boot_len (j1 a h) (by decide) (by decide) he hpl
theorem ø (i:G7)(S:Ã X.N Pn sc)(he:JE X e te)(hi:X.N[i]? =some x:=by rfl)(hx:Loc X.env.scope x:=by first|exact H0 rfl|exact W0 rfl)(hs:V3 e (some (.Name x pos')) pos.line X.env=pure false:=by rfl)(hf:X.fn x=true\/X.env.scope.names.lookup x=some .local:=by first|exact .inl rfl|exact .inr rfl|assumption):JS X (.Assign [.Name x pos'] e pos) (Bk i te):=xq S.nd hi hx he hs hf
theorem jgn (i:G7)(S:Ã X.N Pn sc)(hi:X.N[i]? =some x:=by rfl)(hx:Loc X.env.scope x:=by first|exact H0 rfl|exact W0 rfl)(hf:X.fn x=true\/X.env.scope.names.lookup x=some .local:=by first|exact .inl rfl|exact .inr rfl|assumption):JG X (.Name x pos) (gN i):=OE S.nd hi hx hf
theorem jl1 (i:G7)(S:Ã X.N Pn sc)(hi:JI X (.Name x p) iter ti)(ht: ∀C s₀ H₀ ex,JT (yW X scope C s₀ H₀ ex) c tt)(he: ∀C s₀ H₀ ex,JE (yW X scope C s₀ H₀ ex) elt te)(hc:X.calm=true:=by rfl)(hB:Pe X.N X.env.scope.names scope [i]=true:=by rfl)(hx:X.N[i]? =some x:=by rfl)(hl:scope.names.lookup x=some .local\/scope.names.lookup x=some .cell:=by first|exact H0 rfl|exact W0 rfl)(hs: ∀x,T5 iter X.env x=pure x:=by intro _;rfl):JE X (.ListComp elt [⟨.Name x p,iter,[c],0⟩] scope pos) (JD (bN i) [i] ti tt te):=
 jlc hc (jP hB) hi (G9.mpr rfl) S.nd hx hl (λX' hX=>by obtain⟨C,s₀,H₀,ex,rfl⟩:=hX;exact Gc (ht C s₀ H₀ ex)) (λX' hX=>by obtain⟨C,s₀,H₀,ex,rfl⟩:=hX;exact he C s₀ H₀ ex) hs
theorem ļ (i:G7)(S:Ã X.N Pn sc)(hi:JI X (.Name x p) iter ti)(he: ∀C s₀ H₀ ex,JE (yW X scope C s₀ H₀ ex) elt te)(hc:X.calm=true:=by rfl)(hB:Pe X.N X.env.scope.names scope [i]=true:=by rfl)(hx:X.N[i]? =some x:=by rfl)(hl:scope.names.lookup x=some .local\/scope.names.lookup x=some .cell:=by first|exact H0 rfl|exact W0 rfl)(hs: ∀x,T5 iter X.env x=pure x:=by intro _;rfl):JE X (.ListComp elt [⟨.Name x p,iter,[],0⟩] scope pos) (JD (bN i) [i] ti Jd te):=
 jlc hc (jP hB) hi (G9.mpr rfl) S.nd hx hl (λX' hX=>wZ) (λX' hX=>by obtain⟨C,s₀,H₀,ex,rfl⟩:=hX;exact he C s₀ H₀ ex) hs
theorem ñ {N P:G0 Str}(a:sc.kind= .function:=by rfl)(b:sc.isCoroutine=false:=by rfl)(c:sc.isGenerator=false:=by rfl)(d:N.Nodup:=by decide +kernel)(e:N.take P.length=P:=by rfl)(f: ∀x∈P,sc.names.lookup x=some .local\/sc.names.lookup x=some .cell:=by decide +kernel)(g: ∀y∈sc.names,y.2≠ .free:=by decide +kernel):Ã N P sc:=⟨a,b,c,d,e,f,g⟩
theorem İ {op:i0}{f:RD2}(ho:ô X (N8 op) f)(ha:JE X e te)(hb:JE X e2 Λ)(hm:W5 op e2=false:=by exact FF _):JE X (.Compare e [op] [e2] pos) (Ŗ f te Λ):=Hd ho ha hb hm
theorem ĕ {op:i0}{f:RD2}(ho:ô X (N8 op) f)(ha:JE X e te)(hb:JE X e2 Λ)(hm:W5 op e2=false:=by exact FF _):JT X (.Compare e [op] [e2] pos) (ZJ (Ŗ f te Λ)):=Ga ho ha hb hm
theorem ċ (ha:JE X e te)(hb:JE X e2 Λ)(hs:Ua e2:=by exact λ_ _=>rfl):JE X (.Subscript e e2 pos) (Ŗ ixD te Λ):=jix ha hb hs
theorem ź {tg:T8}(Z:Zs X.mg)(ha:JE X e te)(hg:Gl X "range" :=by rfl)(h:zN e=true:=by rfl)(hs:R6 [e] X.env= [(false,A0 e X.env)]:=by rfl):JI X tg (.Call (.Name "range" p) [e] [] pos) (iR1 (wb te Vd)):=Ko hg Z.range (j1 ha h) hs
end
section
variable {P:T7}{w:C1}{K:G5}{mg:Str->P7 G3}{base:L8}{x qual:Str}{st:A3}{f:P1}{fd:M9}{N ps:G0 Str}{k:G7}
theorem ã.okM {ĩ:RDn}(F:ã K x qual st f fd)(S:Ã N ps (jd st)){tb:TSD}(ė: ∀ {ù:G3} {A:B2} {outer:G0 Env} {s:G6} {H:Hp} {E:XK},ß k (A.deeper (gZ qual (jd st) s.heap.objs.size f ù))->Ţ (BC á P w K mg base N qual (jd st) f ù A outer s H E).nox (wz st) tb)
 (read: ∀ds h Q,ĩ ds h Q->ds.length=ps.length/\tb (Bl Q) (vA N ds) h):Ë P w K mg base á (k+1) f fd ps (ä K ĩ):=F.okJ S (λds h Q q=>(read ds h Q q).1) tb (λ_ _ _ _ _ _ hr=>ė hr) λds h Q q=>(read ds h Q q).2
end
theorem jT {t u:TSD}{E:EndsD}{σ:SD}{h:HD}(σ1:SD)(first: ∀K:SD->HD->Prop,K σ1 h->t {E with nx:=K} σ h)(rest:u E σ1 h):vz t u E σ h:=first (u E) rest
theorem sz0:0<=sizeLine:=by decide
theorem ι:1<=sizeLine:=by decide
theorem Μ:2<=sizeLine:=by decide
theorem sz3:3<=sizeLine:=by decide
theorem sz4:4<=sizeLine:=by decide
theorem sz5:5<=sizeLine:=by decide
section
variable {X:Cx}{s0 s1 s2 s3 s4 s5 s6 s7:A3}{t0 t1 t2 t3 t4 t5 t6 t7:TSD}{c:T8}{tc:TTD}{pos:Pos}
theorem Ż (a:JS X s0 t0)(b:JS X s1 t1):Ţ X [s0,s1] (vz t0 t1):=(jD a (jR b))
theorem μ (a:JS X s0 t0)(b:JS X s1 t1)(c:JS X s2 t2):Ţ X [s0,s1,s2] (vz t0 (vz t1 t2)):=(jD a (jD b (jR c)))
theorem js4 (a:JS X s0 t0)(b:JS X s1 t1)(c:JS X s2 t2)(d:JS X s3 t3):Ţ X [s0,s1,s2,s3] (vz t0 (vz t1 (vz t2 t3))):=(jD a (jD b (jD c (jR d))))
theorem js5 (a:JS X s0 t0)(b:JS X s1 t1)(c:JS X s2 t2)(d:JS X s3 t3)(e:JS X s4 t4):Ţ X [s0,s1,s2,s3,s4] (vz t0 (vz t1 (vz t2 (vz t3 t4)))):=(jD a (jD b (jD c (jD d (jR e)))))
theorem js6 (a:JS X s0 t0)(b:JS X s1 t1)(c:JS X s2 t2)(d:JS X s3 t3)(e:JS X s4 t4)(f:JS X s5 t5):Ţ X [s0,s1,s2,s3,s4,s5] (vz t0 (vz t1 (vz t2 (vz t3 (vz t4 t5))))):=(jD a (jD b (jD c (jD d (jD e (jR f))))))
theorem js7 (a:JS X s0 t0)(b:JS X s1 t1)(c:JS X s2 t2)(d:JS X s3 t3)(e:JS X s4 t4)(f:JS X s5 t5)(g:JS X s6 t6):Ţ X [s0,s1,s2,s3,s4,s5,s6] (vz t0 (vz t1 (vz t2 (vz t3 (vz t4 (vz t5 t6)))))):=(jD a (jD b (jD c (jD d (jD e (jD f (jR g)))))))
theorem js8 (a:JS X s0 t0)(b:JS X s1 t1)(c:JS X s2 t2)(d:JS X s3 t3)(e:JS X s4 t4)(f:JS X s5 t5)(g:JS X s6 t6)(h:JS X s7 t7):Ţ X [s0,s1,s2,s3,s4,s5,s6,s7] (vz t0 (vz t1 (vz t2 (vz t3 (vz t4 (vz t5 (vz t6 t7))))))):=(jD a (jD b (jD c (jD d (jD e (jD f (jD g (jR h))))))))
theorem Jq (hc:JT X c tc)(h:JS X s0 t0):JS X (.If c [s0] [] pos) (FH tc t0 QX):=Kn hc (jR h) Mj
end
end L2
namespace L2
open PySem PySem.Spec PyProof.Rows HT
abbrev Pu (a:P1):Obj:= {cls:= .type "dict_items",data:= .fields #[.ref a]}
section
variable {X:Cx}
theorem yR {α β:Type}{R:α->β->Prop}: ∀ {xs:G0 α} {ys:G0 β} {i:G7} {x:α} {y:β},Paired R xs ys->xs[i]? =some x->ys[i]? =some y->R x y
 |_,_,0,_,_,.cons r _,e1,e2=>by simp at e1 e2;subst e1 e2;exact r
 |_,_,i+1,_,_,.cons _ t,e1,e2=>yR t (by simpa using e1) (by simpa using e2)
 |_,_,_,_,_,.nil,e1,_=>by cases e1
end
abbrev CK:=P1×G0 (G0 P0)
theorem tab_of {K:G5}{H:Hp}{T:G0 (G0 P0)}{b:P1}(r:Ê K H (jg T) (.ref b)):QP H T b:=by
 obtain⟨a,vs,e,hH,r1⟩:=(show ∃a vs,V.ref b= .ref a/\H a=some (.tup vs)/\Á K H (T.map ym) vs from r);cases e;exact⟨vs,hH,Gq r1⟩
end L2
namespace L2
open PySem PySem.Spec PyProof.Rows HT PySem.SeqAt
section
variable {prog:T7}{w:C1}{A:B2}{E:G3->G6->Prop}{s:G6}
def Ww (U:G0 (G0 P0)):G7:=(U.map λr=>r.length+1).sum
theorem VN {Q:M8 P0->G6->Prop}(hu:A.units+4<cLine): ∀ {vs:G0 G3} {U:G0 (G0 P0)} (b:M8 P0) (s1:G6),s1.heap=s.heap->Ñ prog w s.heap U vs->Q (b++(U.map (V2 (intKind prog w))).toArray) {s1 with toks:=s1.toks+Ww U}->
 D9 (S2 prog w) A (forIn vs b λx r=>do let h <-pyHash x;pure (bI (r.push h))) Q E s1
 |_,_,b,s1,_,.nil,q=>G8 (by simpa [Ww] using q)
 |_,_,b,s1,e1,.cons (r:=r) (T:=U) a x,q=>by
  rw [aK];refine wpAny_bind (wpAny_bind (iM (by omega) (by rw [e1];exact a) (G8 ?_)));refine VN hu (b.push (V2 (intKind prog w) r)) _ e1 x ?_;have e:s1.toks+(r.length+1)+Ww U=s1.toks+Ww (r::U):=by unfold Ww;rw [M7,List.sum_cons];omega
  rw [M7] at q;show Q _ {s1 with toks:=s1.toks+(r.length+1)+Ww U};rw [e];simpa using q
theorem Nb {T:G0 (G0 P0)}{a:P1}{Q:P0->G6->Prop}(hu:A.units+8<cLine)(hT:Ve prog w s.heap T a)(q:Q (DD prog w T) {s with toks:=s.toks+(Ww T+1)}):D9 (S2 prog w) A (pyHash (.ref a)) Q E s:=by
 obtain⟨o,items,n,ho,hc,hd,hi⟩:=hT;have ty:s.TypeIs (.ref a) "tuple" :=⟨o,ho,hc⟩;have room:A.units<cLine:=by omega
 have slot:=λ{M:qX} {A':B2} {E':G3->G6->Prop} {P:P7 G3->G6->Prop}=>Y3 (M:=M) (A:=A') (E:=E') (Q:=P) ty F.slot_tuple_hash.lookup
 unfold pyHash pyHashByItsType;refine wpAny_bind (pZ (.inr room) (wpAny_bind (slot ?_)));rw [R3 (by simp)];refine wpAny_bind (slot (wpAny_bind (bP ty eU (N5 eU ty o6 ?_ (oG _)))));show D9 _ _ (U6 (.ref a) >>= _) _ _ s;refine wpAny_bind (o7 ho hd (wpAny_bind ?_));rw [<-J6];refine VN (A:=A.in1) (show A.units+1+4<cLine by omega) #[] s rfl hi ?_;have told:=q;unfold DD lU at told;show D9 _ _ (retInt (V7 ((#[]:M8 P0)++(T.map (V2 (intKind prog w))).toArray).toList)) _ _ _;rw [show ((#[]:M8 P0)++(T.map (V2 (intKind prog w))).toArray).toList=T.map (V2 (intKind prog w)) by simp];refine gG ?_;show D9 _ _ (a9 _) _ _ _;unfold a9;split
 ·rename_i c;rw [R5 c] at told;exact G8 told
 ·rename_i c;rw [R3 c] at told;exact wpAny_bind (bF (G8 told))
theorem Ñ.past {h h':L8}{d:P1}{o:Obj}{es:M8 X8}{ep:G7}(hd:h.get? d=some o)(dd:o.data= .dict es ep)(hs:Q2 d h h'): ∀ {T:G0 (G0 P0)} {vs:G0 G3},Ñ prog w h T vs->Ñ prog w h' T vs
 |_,_,.nil=> .nil
 |_,_,.cons a x=> .cons (a.keeps hd dd hs) (x.past hd dd hs)
def Bn (prog:T7)(w:C1):HeapKind prog w (G0 (G0 P0)) where
 is:=Ve prog w
 hash:=DD prog w
 draws:=λT=>Ww T+1
 room:=λA=>A.units+8<cLine
 inj:=λhx hy=>(Hj prog w).inj hx hy
 keeps:=λ⟨o',items,n,ho,hc,hdd,hi⟩ hd dd hs=>by
  refine⟨o',items,n,hs.extBut _ _ (λz=> ?_) ho,hc,hdd,hi.past hd dd hs⟩;rw [z,hd] at ho;cases ho;rw [dd] at hdd;cases hdd
 pyHash:=λhu hk q=>Nb hu hk q
 eqBool:=λhu hx hy q=>MY hu hx hy q
 quiet:=λhk q=>XY hk q
end
abbrev KT2:=G0 (G0 (G0 P0)×P1×V)
def zJ {α:Type}(kv:G0 (G0 (G0 P0)×α))(k:G0 (G0 P0)):P7 α:=(kv.find? λp=>decide (p.1=k)).map (·.2)
def Rf {α:Type}(kv:G0 (G0 (G0 P0)×α))(k:G0 (G0 P0))(d:α):G0 (G0 (G0 P0)×α):=if (zJ kv k).isSome then kv.map (λp=>if p.1=k then (p.1,d) else p) else kv++ [(k,d)]
variable {T:G0 (G0 P0)}
theorem WF {K:G5}{H:Hp}{b:P1}(r:Ê K H (jg T) (.ref b)):QP H T b:=by
 obtain⟨ps,e1,e2,e3⟩:=Na (K:=K) (H:=H) (Ts:= [T]) (vs:= [.ref b]) ⟨_,_,rfl,r,rfl⟩;cases ps with
 |nil=>cases e1
 |cons p ps=>
  injection e1 with e4 _
  injection e2 with e5 _
  injection e4 with e4
  rw [e5,e4];exact e3 p P6
abbrev vK (p:G0 (G0 P0)×P1×V)(q:G0 (G0 P0)×P1×G3):Prop:=p.1=q.1/\p.2.1=q.2.1/\RelV p.2.2 q.2.2
theorem jS: ∀ {xs:KT2} {ys:G0 (G0 (G0 P0)×P1×G3)},Paired vK xs ys->xs.map (·.1)=ys.map (·.1)/\xs.length=ys.length/\ ∀y∈ys,∃x∈xs,x.1=y.1/\x.2.1=y.2.1
 |_,_,.nil=>⟨rfl,rfl,λy hy=>by cases hy⟩
 |_,_,.cons (a:=x) (b:=y) r z=>by
  obtain⟨a,b,c⟩:=jS z;refine⟨by rw [M7,M7,a,r.1],by rw [S7,S7,b],λy' hy=> ?_⟩;rcases T3.mp hy with e|e
  ·rw [e];exact⟨_,P6,r.1,r.2.1⟩
  ·obtain⟨x',hx,p⟩:=c y' e;exact⟨x',D7 _ hx,p⟩
section
variable {K:G5}{H:Hp}{k:G0 (G0 P0)}
theorem vb: ∀ {kv:G0 (G0 (G0 P0)×D)} {xs:KT2} {ys:G0 (G0 (G0 P0)×P1×G3)},kv.map (·.1)=xs.map (·.1)->Á K H (kv.map (·.2)) (xs.map (·.2.2))->Paired vK xs ys->
 (∀d,zJ kv k=some d-> ∃v p,dL ys k=some p/\Ê K H d v/\RelV v p.2)/\(zJ kv k=none->dL ys k=none)
 | [],[],_,_,_,.nil=>⟨λ_ z=>(nomatch z),λ_=>rfl⟩
 |p::r,[],_,e,_,_=>by cases e
 | [],q::xs,_,e,_,_=>by cases e
 |p::r,q::xs,_,e,h,.cons (b:=y) r1 z=>by
  rw [M7,M7] at e;injection e with e1 e2
  obtain⟨v,t,z',h1,h2⟩:=(show ∃v t,q.2.2::xs.map (·.2.2)=v::t/\Ê K H p.2 v/\Á K H (r.map (·.2)) t from h);injection z' with z1 z2
  subst z1 z2;have ih:=vb e2 h2 z
  by_cases c:p.1=k
  ·have g:zJ (p::r) k=some p.2:=by simp [zJ,E1,c]
   have g': ∀ı,dL (y::ı) k=some y.2:=λı=>by
    have:y.1=k:=by rw [<-r1.1,<-e1,c]
    simp [dL,E1,this]
   rw [g];refine⟨λd hd=> ?_,λhd=>by cases hd⟩;injection hd with hd
   subst hd;exact⟨q.2.2,y.2,g' _,h1,r1.2.2⟩
  ·have g:zJ (p::r) k=zJ r k:=by simp [zJ,E1,c]
   have g': ∀ı,dL (y::ı) k=dL ı k:=λı=>by
    have: ¬y.1=k:=by rw [<-r1.1,<-e1];exact c
    simp [dL,E1,this]
   rw [g,g'];exact ih
end
section
variable {X:Cx}{À:G0 (P1×Obj)}{σ:St}{H:Hp}{s:G6}{a b:P1}{A:B2}{E:G3->G6->Prop}{T:G0 (G0 P0)}{xs ı:KT2}
theorem Zq {ep:G7}(I:Inv X À σ H s)(hH:H a=some (Jc a ep xs))(ks: ∀x∈xs,QP H x.1 x.2.1)(nd:(xs.map (·.1)).Nodup):(a==Q6)=false/\xs.length<=sizeLine/\ ∃ys,Paired vK xs ys/\s.heap.DictOfH (Bn X.prog X.w) a ys:=by
 obtain⟨⟨h1,h2,ys,pr,o,es,ho,ex,hd,he⟩,_,_⟩:=I.hok a _ hH;obtain⟨k1,k2,k3⟩:=jS pr;refine⟨h1,h2,ys,pr,o,es,ep,ho,ex,hd,he,λy hy=> ?_,by rw [<-k1];exact nd⟩;obtain⟨x,hx,e1,e2⟩:=k3 y hy;have:=Zp I x.1 x.2.1 (ks x hx);rw [e1,e2] at this;exact this
theorem CL {ep:G7}{v:V}{r:G3}{Q:Unit->G6->Prop}(hu:A.units+9<cLine)(I:Inv X À σ H s)(hH:H a=some (Jc a ep xs))(ks: ∀x∈xs,QP H x.1 x.2.1)(nd:(xs.map (·.1)).Nodup)(hT:QP H T b)(st: ∀ys,Paired vK xs ys->Paired vK ı (storedH ys T b r))(lz:ı.length<=sizeLine)
 (h: ∀û s',Inv X À σ (upd H a (Jc a û ı)) s'->Q () s'):D9 (S2 X.prog X.w) A (rX (.ref a) (.ref b) r) Q E s:=by
 obtain⟨h1,h2,ys,pr,dd⟩:=Zq I hH ks nd;refine wpAny_setItem_heap (knd:=Bn X.prog X.w) (hsz:=by have:=(jS pr).2.1;omega) (show A.units+1+8<cLine by omega) (Zp I T b hT) dd λh' dd' hs=> ?_
 obtain⟨q,es,ep,hq,e2,e3,e4,_,_⟩:=dd';refine h ep _ (RD I (by rw [hH];exact aQ) hs ⟨q,hq⟩ ⟨⟨h1,lz,_,st ys pr,q,es,hq,e2,e3,e4⟩,⟨q,hq⟩,λg1 g2 hg ke=> ?_⟩);obtain⟨a1,a2,ý,Ν,o,Ħ,ho,ex,hd,he⟩:=hg;exact⟨a1,a2,ý,Ν,o,Ħ,ke o ho,ex,hd,he⟩
end
def KF:TE:=λ_ H Q=> ∀p,H p=none->Q (.ref p) (upd H p (Jc p 0 []))
theorem X0e {X:Cx}{pos:Pos}:PE X (.Dict [] [] pos) KF:=λÀ s σ H Q I h=>
 wpAny_Dict_empty ⟨.ref s.heap.objs.size,_,I.laid (a:=s.heap.objs.size) (o:=Jc s.heap.objs.size 0 []) (t':=s.toks) (λ_ _ q=>P3 _ q) (P5 _) ⟨⟨beq_eq_false_iff_ne.mpr (E4 (N3 I.big)),B0 _,[],.nil,_,#[],S4 _ rfl,⟨rfl,rfl,rfl⟩,rfl,rfl⟩,⟨_,S4 _ rfl⟩,λg1 g2 ⟨a1,a2,ý,Ν,o,Ħ,ho,ex,hd,he⟩ ke=>⟨a1,a2,ý,Ν,o,Ħ,ke o ho,ex,hd,he⟩⟩,rfl,h _ (I.hok.fresh (P5 _))⟩
def Tj:TED:=λ_ h Q=> ∀p,h.dc p=none->Q (.dct p) (Bj h p (.tk 0 []))
def ixT:RD2:=λx y h Q=> ∃a T ep kv d,x= .dct a/\y=jg T/\h.dc a=some (.tk ep kv)/\zJ kv T=some d/\Q d h
def inT (neg:N2):RD2:=λx y h Q=> ∃a T ep kv,y= .dct a/\x=jg T/\h.dc a=some (.tk ep kv)/\Q (.bl (neg !=(zJ kv T).isSome)) h
section
variable {X:Cx}
theorem FU {pos:Pos}:JE X (.Dict [] [] pos) Tj:=⟨X0e.imp λσ H Q ⟨Æ,h,Qd,rs,rh,t,p⟩ q hq=>
 p (.dct q) (.ref q) _ _ (.new hq) (rh.newC (c:= .tk 0 []) hq ⟨[],jw,e7,rfl,λx hx=>(by cases hx),rfl⟩) rfl (t q (rh.freeC hq))⟩
theorem Pv {n:G7}(hr:ß n X.A):ô X (N8 .In) (inT false):=λÀ s σ H x y v u Q I rx ry ⟨d,d2,h,Qd,r1,r2,rh,⟨a,T,ep,kv,e1,e2,e,q⟩,post⟩=>by
 subst e1 e2;cases (show y= .ref a from r2);cases (show u=F6 a from ry);obtain⟨xs,hH,nd,ek,tv,rv⟩:=(show ∃xs:KT2,_ from rh.dc a _ e);obtain⟨b,us,ex,_⟩:=(show ∃b vs,x= .ref b/\H b=some (.tup vs)/\Á X.K H (T.map ym) vs from r1);subst ex;cases (show v=F6 b from rx);obtain⟨h1,h2,ys,pr,dd⟩:=Zq I hH (λx hx=>WF (tv x hx)) (by rw [<-ek];exact nd);refine wpAny_in_heap (knd:=Bn X.prog X.w) (show X.A.units+1+8<cLine by have:=hr.un;omega) (Zp I T b (WF r1)) h1 dd ⟨.bl _,H,I.tok _,rfl,post (.bl _) _ _ _ (.refl H) rh ?_ q⟩;show V.bl (dL ys T).isSome= .bl (false !=(zJ kv T).isSome);cases g:zJ kv T with
 |none=>rw [(vb ek rv pr).2 g];rfl
 |some d=>obtain⟨_,_,hp,_⟩:=(vb ek rv pr).1 d g;rw [hp];rfl
theorem Nc {n:G7}(hr:ß n X.A):ô X (N8 .NotIn) (inT true):=λÀ s σ H x y v u Q I rx ry ⟨d,d2,h,Qd,r1,r2,rh,⟨a,T,ep,kv,e1,e2,e,q⟩,post⟩=>by
 subst e1 e2;cases (show y= .ref a from r2);cases (show u=F6 a from ry);obtain⟨xs,hH,nd,ek,tv,rv⟩:=(show ∃xs:KT2,_ from rh.dc a _ e);obtain⟨b,us,ex,_⟩:=(show ∃b vs,x= .ref b/\H b=some (.tup vs)/\Á X.K H (T.map ym) vs from r1);subst ex;cases (show v=F6 b from rx);obtain⟨h1,h2,ys,pr,dd⟩:=Zq I hH (λx hx=>WF (tv x hx)) (by rw [<-ek];exact nd);refine wpAny_notIn_heap (knd:=Bn X.prog X.w) (show X.A.units+1+8<cLine by have:=hr.un;omega) (Zp I T b (WF r1)) h1 dd ⟨.bl _,H,I.tok _,rfl,post (.bl _) _ _ _ (.refl H) rh ?_ q⟩;show V.bl (!(dL ys T).isSome)= .bl (true !=(zJ kv T).isSome);cases g:zJ kv T with
 |none=>rw [(vb ek rv pr).2 g];rfl
 |some d=>obtain⟨_,_,hp,_⟩:=(vb ek rv pr).1 d g;rw [hp];rfl
def KG (td ty:TE):TE:=λσ H Q=>td σ H λx H1=>ty σ H1 λy H2=> ∃ (a b:P1) (T:G0 (G0 P0)) (ep:G7) (xs:KT2),x= .ref a/\y= .ref b/\H2 a=some (Jc a ep xs)/\(∀x∈xs,QP H2 x.1 x.2.1)/\(xs.map (·.1)).Nodup/\QP H2 T b/\ ∃v,(∀ys,Paired vK xs ys-> ∃p,dL ys T=some p/\RelV v p.2)/\Q v H2
theorem Ak {o i:T8}{td ty:TE}{pos:Pos}(hu:X.A.units+9<cLine)(ho:PE X o td)(hi:PE X i ty)(hs:HG i):PE X (.Subscript o i pos) (KG td ty):=by
 intro À s σ H Q I h;refine LQ PySem.F.slot_dict_getitem.lookup hs (Ô (ho À s σ H _ I h) λu s1 ⟨x,H1,I1,rx,q1⟩=>Ô (hi À s1 σ H1 _ I1 q1) λiv s2 ⟨y,H2,I2,ry,a,b,T,ep,xs,ex,ey,hH,ks,nd,hT,v,g,q2⟩=> ?_);subst ex ey;obtain rfl:u=F6 a:=rx;obtain rfl:iv=F6 b:=ry;obtain⟨h1,h2,ys,pr,dd⟩:=Zq I2 hH ks nd;obtain⟨p,hp,rp⟩:=g ys pr;exact⟨dd.typeIs,wpAny_getItem_heap (knd:=Bn X.prog X.w) (show X.A.units+1+8<cLine by omega) (Zp I2 T b hT) dd hp ⟨v,H2,I2.tok _,rp,q2⟩⟩
theorem Tk {k : G7} {a b : T8} {ta tb : TED} {pos : Pos} (hr : ß k X.A) (ha : JE X a ta) (hb : JE X b tb) (hs : HG b := by intro _ _; rfl) : JE X (.Subscript a b pos) (Ŗ ixT ta tb) :=
  ⟨(Ak (by have := hr.un; omega) ha.to hb.to hs).imp fun σ H Q ⟨Æ, h, Qd, rs, rh, t, post⟩ => LE.bind rs rh t fun d v h1 H1 k1 Ø Í r1 t1 => LE.bind Ø Í t1 fun d2 v2 h2 H2 k2 ğ ó r2 ⟨a, T, ep, kv, d3, e1, e2, e, g, q⟩ => by
    subst e1 e2
    cases (show v = .ref a from r1)
    obtain ⟨b, us, ex, _⟩ := (show ∃ b vs, v2 = .ref b ∧ H2 b = some (.tup vs) ∧ Á X.K H2 (T.map ym) vs from r2)
    subst ex
    obtain ⟨xs, hH, nd, ek, tv, rv⟩ := (show ∃ xs : KT2, _ from ó.dc a _ e)
    -- X0t stands there, whatever Ś heap holds
    have val : ∃ w, Ê X.K H2 d3 w ∧ ∀ ys, Paired vK xs ys → ∃ p, dL ys T = some p ∧ RelV w p.2 := by
      clear q hH nd tv e
      induction kv generalizing xs with
      | nil => cases g
      | cons p kv ih =>
        cases xs with
        | nil => cases ek
        | cons x xs =>
          rw [M7, M7] at ek
          injection ek with ek1 ek2
          obtain ⟨v0, t, z', w1, w2⟩ := (show ∃ v t, x.2.2 :: xs.map (·.2.2) = v :: t ∧ Ê X.K H2 p.2 v ∧ Á X.K H2 (kv.map (·.2)) t from rv)
          injection z' with z1 z2
          subst z1 z2
          by_cases c : p.1 = T
          · have : zJ (p :: kv) T = some p.2 := by simp [zJ, E1, c]
            rw [this] at g
            injection g with g
            subst g
            refine ⟨x.2.2, w1, fun ys pr => ?_⟩
            cases pr with
            | cons r z =>
              rename_i y ys
              have : y.1 = T := by rw [← r.1, ← ek1, c]
              exact ⟨y.2, by simp [dL, E1, this], r.2.2⟩
          · have : zJ (p :: kv) T = zJ kv T := by simp [zJ, E1, c]
            rw [this] at g
            obtain ⟨w, rw_, all⟩ := ih g xs ek2 w2
            refine ⟨w, rw_, fun ys pr => ?_⟩
            cases pr with
            | cons r z =>
              rename_i y ys
              have : ¬ y.1 = T := by rw [← r.1, ← ek1]; exact c
              obtain ⟨p', hp, rp⟩ := all ys z
              exact ⟨p', by rw [show dL (y :: ys) T = dL ys T by simp [dL, E1, this]]; exact hp, rp⟩
    obtain ⟨w, rw_, all⟩ := val
    exact ⟨a, b, T, ep, xs, rfl, rfl, hH, fun x hx => WF (tv x hx), by rw [← ek]; exact nd, WF r2, w, all, post d3 w _ _ (k1.trans k2) ó rw_ q⟩⟩
end
def FV (xs:KT2)(T:G0 (G0 P0))(v:V):KT2:=xs.map λx=>if x.1=T then (x.1,x.2.1,v) else x
theorem YA {v:V}{u:G3}(rv:RelV v u): ∀ {xs:KT2} {ys:G0 (G0 (G0 P0)×P1×G3)},Paired vK xs ys->Paired vK (FV xs T v) (ys.map (putAt T u))
 |_,_,.nil=> .nil
 |_,_,.cons (a:=x) (b:=y) r z=>by
  refine .cons ?_ (YA rv z);show vK (if x.1=T then (x.1,x.2.1,v) else x) (putAt T u y);unfold putAt
  by_cases c:x.1=T
  ·rw [R5 c,R5 (by rw [<-r.1];exact c)];exact⟨r.1,r.2.1,rv⟩
  ·rw [R3 c,R3 (by rw [<-r.1];exact c)];exact r
theorem Nd (xs:KT2)(T:G0 (G0 P0))(v:V):(FV xs T v).map (·.1)=xs.map (·.1):=by
 unfold FV;rw [R4];exact M6 λx _=>by show (if x.1=T then (x.1,x.2.1,v) else x).1=x.1;split<;>rfl
theorem CM {xs:KT2}{v:V}{x:G0 (G0 P0)×P1×V}(h:x∈FV xs T v): ∃x0∈xs,x0.1=x.1/\x0.2.1=x.2.1:=by
 obtain⟨x0,m,rfl⟩:=R9.mp h;exact⟨x0,m,by split<;>exact⟨rfl,rfl⟩⟩
section
variable {K:G5}{H:Hp}{T:G0 (G0 P0)}{d:D}{v:V}
theorem XZ (rd:Ê K H d v): ∀ {kv:G0 (G0 (G0 P0)×D)} {xs:KT2},kv.map (·.1)=xs.map (·.1)->Á K H (kv.map (·.2)) (xs.map (·.2.2))->Á K H ((kv.map (λp=>if p.1=T then (p.1,d) else p)).map (·.2)) ((FV xs T v).map (·.2.2))
 | [],[],_,_=>rfl
 |p::r,[],e,_=>by cases e
 | [],q::xs,e,_=>by cases e
 |p::r,q::xs,e,h=>by
  rw [M7,M7] at e;injection e with e1 e2
  obtain⟨v0,t,z',h1,h2⟩:=(show ∃v t,q.2.2::xs.map (·.2.2)=v::t/\Ê K H p.2 v/\Á K H (r.map (·.2)) t from h);injection z' with z1 z2
  subst z1 z2;refine⟨_,_,rfl,?_,XZ rd e2 h2⟩;show Ê K H (if p.1=T then (p.1,d) else p).2 (if q.1=T then (q.1,q.2.1,v) else q).2.2
  by_cases c:p.1=T
  ·rw [R5 c,R5 (e1 ▸ c)];exact rd
  ·rw [R3 c,R3 (e1 ▸ c)];exact h1
theorem Jj: ∀ {ds:G0 D} {vs:G0 V},Á K H ds vs->Ê K H d v->Á K H (ds++ [d]) (vs++ [v])
 | [],vs,r,rd=>by
  have:vs= []:=r;subst this;exact⟨_,_,rfl,rd,rfl⟩
 |d0::ds,vs,r,rd=>by
  obtain⟨v0,t,rfl,r1,r2⟩:=(show ∃v t,vs=v::t/\Ê K H d0 v/\Á K H ds t from r);exact⟨_,_,rfl,r1,Jj r2 rd⟩
end
theorem Gr {α:Type}{kv:G0 (G0 (G0 P0)×α)}(h:zJ kv T=none):T ∉ kv.map (·.1):=λz=>by
 obtain⟨p,hp,e⟩:=R9.mp z;unfold zJ at h;rw [bH,Q8] at h;exact h p hp (D2 e)
def KH (td ty tv:TE):TS:=λD σ H=>tv σ H λv H1=>td σ H1 λx H2=>ty σ H2 λy H3=> ∃ (a b:P1) (T:G0 (G0 P0)) (ep:G7) (xs ı:KT2),x= .ref a/\y= .ref b/\H3 a=some (Jc a ep xs)/\(∀x∈xs,QP H3 x.1 x.2.1)/\(xs.map (·.1)).Nodup/\QP H3 T b/\(∀ys u,Paired vK xs ys->RelV v u->Paired vK ı (storedH ys T b u))/\ı.length<=sizeLine/\ ∀û,D.nx σ (upd H3 a (Jc a û ı))
section
variable {X:Cx}
theorem Al {o i value:T8}{td ty tv:TE}{pos pos':Pos}(hu:X.A.units+9<cLine)(ho:PE X o td)(hi:PE X i ty)(hv:PE X value tv)(hs:V3 value (some (.Subscript o i pos')) pos.line X.env=pure false):PS X (.Assign [.Subscript o i pos'] value pos) (KH td ty tv):=by
 intro À s σ H D I h;refine wpAny_Assign_Subscript (Ô (hv À s σ H _ I h) λr s1 ⟨v,H1,I1,rv,q1⟩=>Ô (ho À s1 σ H1 _ I1 q1) λu s2 ⟨x,H2,I2,rx,q2⟩=>Ô (hi À s2 σ H2 _ I2 q2) λiv s3 ⟨y,H3,I3,ry,a,b,T,ep,xs,ı,ex,ey,hH,ks,nd,hT,st,lz,q3⟩=> ?_) hs;subst ex ey;obtain rfl:u=F6 a:=rx;obtain rfl:iv=F6 b:=ry;exact CL (v:=v) hu I3 hH ks nd hT (λys pr=>st ys r pr rv) lz λû s4 I4=>⟨σ,_,I4,q3 û⟩
def KI (td ty tv:TED):TSD:=λE σ h=>tv σ h λv h1=>td σ h1 λx h2=>ty σ h2 λy h3=> ∃a T ep kv,x= .dct a/\y=jg T/\h3.dc a=some (.tk ep kv)/\kv.length<1000/\ ∀û,E.nx σ (Bj h3 a (.tk û (Rf kv T v)))
theorem Tl {k : G7} {o i value : T8} {td ty tv : TED} {pos pos' : Pos} (hr : ß k X.A) (ho : JE X o td) (hi : JE X i ty) (hv : JE X value tv) (hs : V3 value (some (.Subscript o i pos')) pos.line X.env = pure false := by rfl) : JS X (.Assign [.Subscript o i pos'] value pos) (KI td ty tv) :=
  ⟨(Al (by have := hr.un; omega) ho.to hi.to hv.to hs).imp fun D σ H ⟨Æ, h, Dd, rs, rh, t, nx, _⟩ => LE.bind rs rh t fun d v h1 H1 k1 Ø Í r1 t1 => LE.bind Ø Í t1 fun d2 v2 h2 H2 k2 ğ ó r2 t2 => LE.bind ğ ó t2 fun d3 v3 h3 H3 k3 š Ĉ r3 ⟨a, T, ν, kv, e1, e2, e, hl, q⟩ => by
    subst e1 e2
    cases (show v2 = .ref a from r2)
    obtain ⟨b, us, ex, _⟩ := (show ∃ b vs, v3 = .ref b ∧ H3 b = some (.tup vs) ∧ Á X.K H3 (T.map ym) vs from r3)
    subst ex
    obtain ⟨xs, hH, nd, ek, tv, rv⟩ := (show ∃ xs : KT2, _ from Ĉ.dc a _ e)
    have ob : ů (Jc a ν xs) := .inr ⟨_, rfl⟩
    have rd := (r1.mono k2).mono k3
    have len : xs.length = kv.length := by have := congrArg K8 ek; simpa using this.symm
    have big : kv.length + 1 ≤ sizeLine := S5 hl (by decide)
    cases g : zJ kv T with
    | some d0 =>
      have ep : Rf kv T d = kv.map (fun p => if p.1 = T then (p.1, d) else p) := by unfold Rf; rw [g]; rfl
      refine ⟨a, b, T, ν, xs, FV xs T v, rfl, rfl, hH, fun x hx => WF (tv x hx), by rw [← ek]; exact nd, WF r3, fun ys u pr ru => ?_, by unfold FV; rw [G1, len]; omega, fun û => nx Æ _ σ _ (k1.trans (k2.trans (k3.trans (.putD hH ob)))) (š.mono (.putD hH ob)) (Ĉ.putC (c := .tk û (Rf kv T d)) hH ob ?_) (q û)⟩
      · obtain ⟨_, p, hp, _⟩ := (vb ek rv pr).1 d0 g
        rw [storedH_old hp]
        exact YA ru pr
      · rw [ep]
        refine ⟨FV xs T v, jw, ?_, ?_, fun x hx => ?_, (XZ rd ek rv).mono (.putD hH ob)⟩
        · rw [R4, show kv.map ((·.1) ∘ fun p => if p.1 = T then (p.1, d) else p) = kv.map (·.1) from M6 fun p _ => by show (if p.1 = T then (p.1, d) else p).1 = p.1; split <;> rfl]
          exact nd
        · rw [Nd, ← ek, R4]
          exact M6 fun p _ => by show (if p.1 = T then (p.1, d) else p).1 = p.1; split <;> rfl
        · obtain ⟨x0, m, a1, a2⟩ := CM hx
          rw [← a1, ← a2]
          exact (tv x0 m).mono (.putD hH ob)
    | none =>
      have ep : Rf kv T d = kv ++ [(T, d)] := by unfold Rf; rw [g]; rfl
      refine ⟨a, b, T, ν, xs, xs ++ [(T, b, v)], rfl, rfl, hH, fun x hx => WF (tv x hx), by rw [← ek]; exact nd, WF r3, fun ys u pr ru => ?_, by rw [P2, len]; exact big, fun û => nx Æ _ σ _ (k1.trans (k2.trans (k3.trans (.putD hH ob)))) (š.mono (.putD hH ob)) (Ĉ.putC (c := .tk û (Rf kv T d)) hH ob ?_) (q û)⟩
      · rw [IK ((vb ek rv pr).2 g)]
        exact pr.snoc ⟨rfl, rfl, ru⟩
      · rw [ep]
        refine ⟨xs ++ [(T, b, v)], jw, ?_, by rw [R1, R1, ek]; rfl, fun x hx => ?_, ?_⟩
        · rw [R1]
          refine K9.mpr ⟨nd, by simp, fun x hx y hy z => ?_⟩
          rw [G9.mp hy] at z
          have z : x = T := z
          subst z
          exact Gr g hx
        · rcases D5.mp hx with m | m
          · exact (tv x m).mono (.putD hH ob)
          · rw [G9.mp m]
            exact r3.mono (.putD hH ob)
        · rw [R1, R1]
          exact (Jj rv rd).mono (.putD hH ob)⟩
end
end L2
namespace L2
open PySem PySem.Spec PyProof.Rows PySem.SeqAt
def xI (to te:TED):TED:=λσ h Q=>to σ h λx h1=> ∃a,x= .lst a/\te σ h1 λy h2=> ∃b xs ys,y= .lst b/\h2 a=some xs/\h2 b=some ys/\xs.length+ys.length<=sizeLine/\Q .non (wg h2 a (xs++ys))
theorem Qa {K:G5}{H:Hp}: ∀ {ds es:G0 D} {vs us:G0 V},Á K H ds vs->Á K H es us->Á K H (ds++es) (vs++us)
 | [],es,vs,us,r,r'=>by
  have:vs= []:=r;subst this;exact r'
 |d::ds,es,vs,us,r,r'=>by
  obtain⟨v,t,rfl,r1,r2⟩:=(show ∃v t,vs=v::t/\Ê K H d v/\Á K H ds t from r);exact⟨_,_,rfl,r1,Qa r2 r'⟩
section
variable {X:Cx}{o e:T8}{to te:TED}{apos Ï:Pos}
theorem xJ (ho : JE X o to) (he : JE X e te) (hbase : W6 o "extend" X.env (A0 o X.env) = A0 o X.env := by rfl)
    (hfew : ((Q7 Ï (R6 [e] X.env)).all (fun x => !x.1) && (g7 Ï (b7 [] X.env)).all (fun x => x.1.isSome) && decide ([e].length + ([] : G0 bG).length + (if ([] : G0 bG).isEmpty then 0 else 1) < 30)) = true := by rfl)
    (hline : (apos.endLine == Ï.line) = true := by rfl) (hs : R6 [e] X.env = (false, A0 e X.env) :: R6 [] X.env := by rfl) (hplain : (Q7 Ï (R6 [] X.env)).any (·.1) = false := by rfl) :
    JE X (.Call (.Attribute o "extend" apos) [e] [] Ï) (xI to te) :=
  ⟨(BG aZ tQ tR RA ho.to (vG he.to ě hs) hbase hfew hline hs hplain).imp
    fun σ H Q ⟨Æ, h, Qd, rs, rh, t, p⟩ => LE.bind rs rh t fun d v h1 H1 k1 Ø Í r1 ⟨a, e, q⟩ => by
      subst e
      obtain ⟨e1, vs, hH⟩ := (show v = .ref a ∧ ∃ vs, H1 a = some (.lst vs) from r1)
      subst e1
      refine ⟨.inl ⟨rfl, vs, ò.of hH⟩, ?_⟩
      refine LE.bind Ø Í q fun y u h2 H2 k2 ğ ó r2 ⟨b, xs, ys, ey, hx, hy, hz, q2⟩ => ?_
      subst ey
      obtain ⟨e2, _⟩ := (show u = .ref b ∧ ∃ vs, H2 b = some (.lst vs) from r2)
      subst e2
      obtain ⟨ws, hW, rW⟩ := ó a xs hx
      obtain ⟨zs, hZ, rZ⟩ := ó b ys hy
      exact ⟨a, b, ws, zs, rfl, rfl, hW, hZ, by rw [← rW.length, ← rZ.length]; exact hz, p .non _ _ _ ((k1.trans k2).trans (.put hW)) (ó.put hW (Qa rW rZ)) rfl q2⟩⟩
end
end L2
namespace L2
open PySem PySem.Spec PyProof.Rows HT
section
variable {prog:T7}{w:C1}{A:B2}{E:G3->G6->Prop}{s:G6}
theorem VO {it d:P1}{i n ep:G7}{dd:P7 P1}{es:M8 X8}{sl:M8 (P7 G3)}{ok ov:G3}{P:dI->G6->Prop}(hit:dE s.heap it d i n ep ok ov)
 (hd:s.heap.get? d=some {cls:= .type "dict",dict:=dd,data:= .dict es ep,slots:=sl})(hn:es.size=n)
 (more: ∀ (e:X8) h',es[i]? =some e->tS h' it d (i+1) n ep e.key e.val s.heap.objs.size->h'.get? s.heap.objs.size=some {cls:= .type "tuple",data:= .seq #[e.key,e.val]}->h'.objs.size=s.heap.objs.size+1->(∀b o,b≠it->s.heap.get? b=some o->h'.get? b=some o)->P (.done (.ret (.ref s.heap.objs.size))) {s with heap:=h'})
 (none_:es[i]? =none->D9 (S2 prog w) A (do nI (.ref it) 2 .none;y9 (<-newExc (.type "StopIteration") [])) P E s):D9 (S2 prog w) A (Builtin.«dict_itemiterator.__next__» ⟨[.ref it],[]⟩) P E s:=by
 have hT:s.TypeIs (.ref it) "dict_itemiterator" :=⟨_,hit,rfl⟩;have tn:=λ{Q:U4->G6->Prop} {E':G3->G6->Prop} {A':B2} (h:Q "dict_itemiterator" s)=>wpAny_typeNameOfWhole_itemiter (prog:=prog) (w:=w) (A:=A') (E:=E') hT h
 obtain⟨hp,g,dr,tk,os⟩:=s
 wp_walk using tn
 rw [R3 (show ¬ ((i:P0)<0) by omega),X9];cases hx:es[i]? with
 |none=>exact wpAny_bind (wpAny_bind (tn (G8 (none_ hx))))
 |some e=>
  have il:it<hp.objs.size:=R7 hit;have tup: ∀ {h0:L8} {o:Obj},h0.objs.size=hp.objs.size->(h0.push o).objs.size=hp.objs.size+1:=λq=>by rw [b8,q]
  refine wpAny_bind (wpAny_bind (tn (G8 (wpAny_bind (e9 hT ?_)))));show D9 _ _ (nI (.ref it) 3 (i9 ((i:P0)+1)) >>= _) _ _ _;refine wpAny_bind (wpAny_setField_rec hit (by simp) λh1 e1 s1=> ?_);have e1:dE h1 it d (i+1) n ep ok ov:=by unfold dE;rw [show ((i+1:G7):P0)=(i:P0)+1 by omega];simpa [i9] using e1
  have T1:Shared.TypeIs ⟨h1,g,dr,tk,os⟩ (.ref it) "dict_itemiterator" :=⟨_,e1,rfl⟩;refine wpAny_bind (O0 (wpAny_bind (e9 T1 (wpAny_bind (e9 T1 ?_)))));show D9 _ _ (fB (.ref it) 6 e.key e.val) _ _ _;unfold fB;refine wpAny_bind (nJ ?_);have ι:h1.objs.size=hp.objs.size:=s1.1;have e2:dE (h1.push {cls:= .type "tuple",data:= .seq #[e.key,e.val]}) it d (i+1) n ep ok ov:=P3 _ e1;have new:(h1.push {cls:= .type "tuple",data:= .seq #[e.key,e.val]}).get? h1.objs.size=some {cls:= .type "tuple",data:= .seq #[e.key,e.val]}:=S4 _ rfl;have Μ:=tup (o:= {cls:= .type "tuple",data:= .seq #[e.key,e.val]}) ι;have old: ∀b o,b≠it->hp.get? b=some o->(h1.push {cls:= .type "tuple",data:= .seq #[e.key,e.val]}).get? b=some o:=λb o nb q=>P3 _ (s1.extBut b o nb q)
  have fin:=more e;show D9 _ _ (cU (.ref it) >>= _) _ _ ⟨h1.push {cls:= .type "tuple",data:= .seq #[e.key,e.val]},g,dr,tk,os⟩;rw [ι] at new ⊢;revert e2 new Μ old;generalize h1.push ({cls:= .type "tuple",data:= .seq #[e.key,e.val]}:Obj)=h2;intro e2 new Μ old;have nn:hp.objs.size≠it:=U5 il;refine wpAny_bind ?_;unfold cU;refine wpAny_bind (aL e2 rfl (x:= .none) rfl (G8 ?_));simp only [i3];refine wpAny_bind (aL e2 rfl (x:=ok) rfl (wpAny_bind (aL e2 rfl (x:=ov) rfl ?_)));refine wpAny_bind (wpAny_setField_rec e2 (by simp) λh3 e3 s3=> ?_);refine wpAny_bind (wpAny_setField_rec (show dE h3 it d (i+1) n ep e.key ov from e3) (by simp) λh4 e4 s4=> ?_);refine wpAny_bind (wpAny_setField_rec (show dE h4 it d (i+1) n ep e.key e.val from e4) (by simp) λh5 e5 s5=> ?_);refine wpAny_bind (wpAny_setField_rec (show tS h5 it d (i+1) n ep e.key e.val hp.objs.size from e5) (by simp) λh6 e6 s6=> ?_);have kp: ∀b o,b≠it->h2.get? b=some o->h6.get? b=some o:=λb o nb q=>s6.extBut b o nb (s5.extBut b o nb (s4.extBut b o nb (s3.extBut b o nb q)))
  refine wpAny_bind (IL (G8 (G8 ?_)));exact fin h6 hx e6 (kp _ _ nn new) (by rw [s6.1,s5.1,s4.1,s3.1,Μ]) λb o nb q=>kp b o nb (old b o nb q)
theorem Nf {d:P1}{dd:P7 P1}{es:M8 X8}{ep:G7}{sl:M8 (P7 G3)}{P:dI->G6->Prop}(hd:s.heap.get? d=some {cls:= .type "dict",dict:=dd,data:= .dict es ep,slots:=sl})(lo:(d==Q6)=false)
 (h:P (.done (.ret (.ref s.heap.objs.size))) {s with heap:=s.heap.push {cls:= .type "dict_items",data:= .fields #[.ref d]}}):D9 (S2 prog w) A (Builtin.«dict.items» ⟨[.ref d],[]⟩) P E s:=by
 have hT:s.TypeIs (.ref d) "dict" :=⟨_,hd,rfl⟩;unfold Builtin.«dict.items» Builtin.Dict.noArgs;refine wpAny_bind (wpAny_bind (bQ hT (G8 ?_)));unfold Builtin.Dict.showsAll;show D9 _ _ ((if (d==Q6)=true then _ else _) >>= _) _ _ s;rw [R3 (by rw [lo];exact D0)];exact wpAny_bind (G8 (wpAny_bind (O3 (G8 h))))
theorem Ng {v d:P1}{dd:P7 P1}{es:M8 X8}{ep:G7}{sl:M8 (P7 G3)}{Q:G3->G6->Prop}(hv:s.heap.IsItemsView v d)(hd:s.heap.get? d=some {cls:= .type "dict",dict:=dd,data:= .dict es ep,slots:=sl})
 (h: ∀h',dE h' s.heap.objs.size d 0 es.size ep .none .none->(∀b o,s.heap.get? b=some o->h'.get? b=some o)->Q (.ref s.heap.objs.size) {s with heap:=h'}):D9 (S2 prog w) A (mZ (.ref v)) Q E s:=by
 obtain⟨ov,hov,hcv,hdv⟩:=id hv;refine i5 hv.typeIs mG (N5 mG hv.typeIs F.entry_dict_items_iter ?_ (F.args_dict_items_iter_1 _));unfold Builtin.«dict_items.__iter__»;refine wpAny_bind (G8 (wpAny_bind ?_));unfold sU;refine wpAny_bind (aL hov hdv (x:= .ref d) rfl (G8 (wpAny_bind ?_)));unfold qT;refine wpAny_bind (i8 hd rfl (wpAny_bind (wpAny_dictEpoch hd rfl ?_)));have new:(s.heap.push {cls:= .type "dict_itemiterator",data:= .fields #[.none,.bool false,.ref d,.int 0 0,.int es.size 0,.int ep 0,.none,.none]}).get? s.heap.objs.size=some {cls:= .type "dict_itemiterator",data:= .fields #[.none,.bool false,.ref d,.int 0 0,.int es.size 0,.int ep 0,.none,.none]}:=S4 _ rfl;have fin:=h _ new λb o e=>P3 _ e
 refine O3 (G8 ⟨_,rfl,"dict_itemiterator",_,⟨_,S4 _ rfl,rfl⟩,F.slot_dict_itemiterator_next.lookup,?_⟩) ?_
 ·exact fin
 ·simp only [G0M,show rR "dict_itemiterator" =true from by decide,i3];show 8<=sizeLine+2;decide
end
def Iti (a : P1) (ep n : G7) : It :=
  ⟨fun i H => ∃ xs x, H a = some (Jc a ep xs) ∧ xs.length = n ∧ xs[i]? = some x,
   fun i H v H' => ∃ p b u, H p = none ∧ (∀ xs, H a = some (Jc a ep xs) → ∃ T, xs[i]? = some (T, b, u)) ∧ v = .ref p ∧ H' = upd H p (.tup [.ref b, u]),
   fun i H => ∃ xs, H a = some (Jc a ep xs) ∧ xs.length = n ∧ n ≤ i⟩
variable {X:Cx}{a:P1}{ep:G7}
theorem yG {À:G0 (P1×Obj)}{σ:St}{H:Hp}{s:G6}{xs:KT2}(I:Inv X À σ H s)(hH:H a=some (Jc a ep xs)):(a==Q6)=false/\ ∃ (sl:M8 (P7 G3)) (es:M8 X8) (ys:G0 (G0 (G0 P0)×P1×G3)),s.heap.get? a=some {cls:= .type "dict",dict:=none,data:= .dict es ep,slots:=sl}/\Paired vK xs ys/\es.toList=ys.map (λx=>⟨Yh x.1,.ref x.2.1,x.2.2⟩)/\es.size=xs.length:=by
 obtain⟨⟨h1,h2,ys,pr,⟨oc,od,odt,ŵ⟩,es,ho,⟨c1,c2,c3⟩,hd,he⟩,_,_⟩:=I.hok a _ hH;simp only at c1 c2 hd;subst c1 c2 hd;refine⟨h1,ŵ,es,ys,ho,pr,he,?_⟩;rw [<-N0,he,G1];exact(jS pr).2.1.symm
theorem Nh {À:G0 (P1×Obj)}{σ:St}{s:G6}{xs ı:KT2}{H:Hp}(I:Inv X À σ H s)(e:H a=some (Jc a ep xs))(e':H a=some (Jc a ep ı)){i:G7}{x:G0 (G0 P0)×P1×V}(hx:xs[i]? =some x): ∃T,ı[i]? =some (T,x.2.1,x.2.2):=by
 obtain⟨_,_,es,ys,h1,pr,he,hn⟩:=yG I e;obtain⟨_,_,Ħ,ý,θ,Ν,he',hn'⟩:=yG I e';rw [h1] at θ;cases θ;have il:i<ys.length:=by rw [<- (jS pr).2.1];exact(P8.mp hx).1
 have l':ý.length=ys.length:=by have:=congrArg K8 (he.symm.trans he');simpa using this.symm
 have lx:i<ı.length:=by rw [(jS Ν).2.1,l'];exact il
 obtain⟨p1,p2,p3⟩:=yR pr hx (G2 il);obtain⟨q1,q2,q3⟩:=yR Ν (G2 lx) (G2 (by rw [l'];exact il));have z:=congrArg (λl=>l[i]?) (he.symm.trans he');simp only [D1,G2 il,G2 (show i<ý.length by rw [l'];exact il),bK] at z;injection z with z
 injection z with z1 z2 z3
 injection z2 with z2
 refine⟨ı[i].1,?_⟩;rw [G2 lx];have b:ı[i].2.1=x.2.1:=by rw [q2,p2,z2]
 have u:ı[i].2.2=x.2.2:=by rw [<-z3] at q3;exact q3.inj p3
 rw [<-b,<-u]
theorem DE {P:T7}{w:C1}{K:G5}{es:G0 T8}{k:G7}{pos:Pos}(a it:P1)(ep n:G7)(ne:a≠it):Ŝ P w K (.Tuple es k pos) (Iti a ep n) [it] it (λi h=> ∃ok ov,dE h it a i n ep ok ov) where
 mem:=by simp
 obj:=λi h ⟨ok,ov,q⟩ b hb=>by rw [G9.mp hb];exact⟨_,q,λv z=>by cases z⟩
 keep:=λi h h' ⟨ok,ov,q⟩ k=>⟨ok,ov,k it (by simp) _ q⟩
 item:=by
  intro X hP hw hK hc i À s σ H E I hf st hg;subst hP hw hK;obtain⟨ok,ov,hit⟩:=st;obtain⟨xs,x,hH,hl,hx⟩:=hg;obtain⟨_,sl,es,ys,hd,pr,he,hn⟩:=yG I hH;have ty:s.TypeIs (.ref it) "dict_itemiterator" :=⟨_,hit,rfl⟩;have itl:it<s.heap.objs.size:=R7 hit;have il:i<ys.length:=by rw [<- (jS pr).2.1];exact(P8.mp hx).1
  have hy:ys[i]? =some ys[i]:=G2 il;obtain⟨p1,p2,p3⟩:=yR pr hx hy;have ee:es[i]? =some ⟨Yh ys[i].1,.ref ys[i].2.1,ys[i].2.2⟩:=by rw [<-C3,he,D1,hy];rfl
  unfold gS;refine wpAny_bind (aU (N9 (name:=J0 "__next__") ty X3 (N5 X3 ty fM (VO hit hd (hn.trans hl) (λe h' ă out new sz kept=>⟨_,rfl,G8 ⟨_,rfl,wpAny_letOwnedTupleGo_items out λh2 it2 same=> ?_⟩⟩) λz=>by rw [ee] at z;cases z) (fE _))));rw [ee] at ă;injection ă with ă
  subst ă;have Ψ:h2.get? s.heap.objs.size=some {cls:= .type "tuple",data:= .seq #[.ref ys[i].2.1,ys[i].2.2]}:=same.extBut _ _ (U5 itl) new;refine⟨.ref s.heap.objs.size,upd H s.heap.objs.size (.tup [.ref x.2.1,x.2.2]),I.turnLaid (h':=h2) (t':=s.toks) (ch:= [it]) (λb u hb q=> ?_) hf (P5 _) ⟨by show 2<=sizeLine;decide,[.ref ys[i].2.1,ys[i].2.2],.cons (by rw [p2];rfl) (.cons p3 .nil),⟨_,Ψ,rfl,rfl,_,rfl⟩⟩,rfl,⟨_,x.2.1,x.2.2,I.hok.fresh (P5 _),λı h'=> ?_,rfl,rfl⟩,⟨_,_,it2⟩,λb hb=> ?_⟩
  ·have nb:b≠it:=λz=>hb (by simp [z])
   exact same.extBut b u nb (kept b u nb q)
  ·exact Nh I hH h' hx
  ·rw [G9.mp hb,jt (N3 itl)];exact(hf it (by simp)).1
 done:=by
  intro X hP hw hK hc i À s σ H E I hf st hg;subst hP hw hK;obtain⟨ok,ov,hit⟩:=st;obtain⟨xs,hH,hl,hi⟩:=hg;obtain⟨_,sl,es,ys,hd,pr,he,hn⟩:=yG I hH;have ty:s.TypeIs (.ref it) "dict_itemiterator" :=⟨_,hit,rfl⟩;unfold gS;refine wpAny_bind (aU (N9 (name:=J0 "__next__") ty X3 (N5 X3 ty fM (VO hit hd (hn.trans hl) (λe h' ă _ _ _ _=>by have:=(U8.mp ă).1;omega) λ_=>wpAny_bind (dX hit rfl (by simp) (va (s:= {s with heap:=_}) (I.ok.hd hc) λh' e grown stop=> ?_))) (fE _))));obtain⟨o,eo,co⟩:=stop;refine wpAny_bind (Z7 (T:= "StopIteration") (b:=true) ⟨o,eo,co⟩ iG ?_);have kp: ∀b o,b ∉ [it]->s.heap.get? b=some o->h'.get? b=some o:=λb o hb q=>grown b o ((Y7 _ _ (λz=>hb (by simp [z]))).trans q)
  have I2:Inv X À σ H {s with heap:=h'}:=I.turnL (t':=s.toks) (ch:= [it]) kp hf;exact G8 ⟨rfl,I2⟩
 self:=λ_ _ _ _ _ ⟨_,_,q⟩ h=>G0B q h
def Tn (td:TE):TI:=λσ H R=>td σ H λx H1=> ∃a ep xs,x= .ref a/\H1 a=some (Jc a ep xs)/\R (Iti a ep xs.length) H1
theorem CN {es:G0 T8}{k:G7}{tp:Pos}{o:T8}{td:TE}{apos Ï:Pos}(ho:PE X o td)(hbase:W6 o "items" X.env (A0 o X.env)=A0 o X.env:=by rfl)(hline:(apos.endLine==Ï.line)=true:=by rfl):
 PI X (.Tuple es k tp) (.Call (.Attribute o "items" apos) [] [] Ï) (Tn td):=by
 intro À s σ H R I h;refine wpAny_Call_method0_late hbase hline (Ô (ho À s σ H _ I h) λv s1 ⟨x,H1,I1,r1,a,ep,xs,ex,hH,q⟩=> ?_);subst ex;cases r1;obtain⟨lo,sl,es,ys,hd,pr,he,hn⟩:=yG I1 hH;have ty:s1.TypeIs (.ref a) "dict" :=⟨_,hd,rfl⟩;refine⟨"dict","dict.items",u4,lH,u5,ty,λb e=>by cases e;exact⟨_,hd,rfl⟩,Calls.callWith_builtin rfl (PySem.evalArgs_none (N5 lH ty tU (Nf hd lo ⟨_,rfl,?_⟩) (sV _)))⟩;have al:a<s1.heap.objs.size:=R7 hd;refine Ng (s:= {s1 with heap:=s1.heap.push (Pu a)}) ⟨_,S4 _ rfl,rfl,rfl⟩ (P3 _ hd) λh' it kept=> ?_
 rw [hn] at it;have sz:(s1.heap.push (Pu a)).objs.size=s1.heap.objs.size+1:=b8 ..;have big:s1.heap.objs.size<=(s1.heap.push (Pu a)).objs.size:=by rw [sz];exact IE _
 refine⟨_,[(s1.heap.push (Pu a)).objs.size],_,_,H1,rfl,I1.kept (t':=s1.toks) (λb u e=>kept b u (P3 _ e)),DE a _ ep xs.length (N3 (N7 al big)),⟨_,_,it⟩,λb hb=> ?_,q⟩;rw [G9.mp hb];exact I1.fpOk big (I1.hok.fresh big)
def Wx (kv:G0 (G0 (G0 P0)×D)):G0 D:=kv.map λp=> .tup [jg p.1,p.2]
def YB (a:P1)(ep n:G7):ItD:=λh=>match h.dc a with
 |some (.tk e kv)=>if e=ep/\kv.length=n then some (Wx kv) else none
 |_=>none
theorem Ni {h:HD}{kv:G0 (G0 (G0 P0)×D)}(e:h.dc a=some (.tk ep kv)):YB a ep kv.length h=some (Wx kv):=by
 unfold YB;rw [e];exact R5 ⟨rfl,rfl⟩
theorem Nj {h:HD}{n:G7}{ds:G0 D}(e:YB a ep n h=some ds): ∃kv,h.dc a=some (.tk ep kv)/\kv.length=n/\ds=Wx kv:=by
 unfold YB at e;split at e
 ·rename_i e' kv q
  by_cases c:e'=ep/\kv.length=n
  ·rw [R5 c] at e;exact⟨kv,by rw [q,c.1],c.2,(B9 e).symm⟩
  ·rw [R3 c] at e;cases e
 ·cases e
theorem DF {K:G5}{H:Hp}(a:P1)(ep n:G7):BL K H (YB a ep n) (Iti a ep n):=λH' h' _ rh ds e i=>by
 obtain⟨kv,hc,hl,rfl⟩:=Nj e;obtain⟨xs,hH,nd,ek,tv,rv⟩:=(show ∃xs:KT2,_ from rh.dc a _ hc);have len:xs.length=n:=by have:=congrArg K8 ek;rw [G1,G1] at this;omega
 refine⟨λd hd=> ?_,λhi=>⟨xs,hH,len,?_⟩⟩
 ·unfold Wx at hd;rw [D1] at hd;obtain⟨p,hp,rfl⟩:=F9.mp hd;have il:i<xs.length:=by have:=(P8.mp hp).1;omega
  have hx:xs[i]? =some xs[i]:=G2 il;refine⟨⟨xs,xs[i],hH,len,hx⟩,λx Ġ ⟨q,b,u,hq,all,ex,eH⟩=> ?_⟩;subst ex eH;obtain⟨T,hT⟩:=all xs hH;have k2:Kept H' (upd H' q (.tup [.ref b,u])):= .new hq;have e1:T=p.1:=by
   have:=congrArg (λl=>l[i]?) ek;simp only [D1,hp,hT,bK] at this;exact(B9 this).symm
  subst e1;have r1:=tv _ (P9 hT);obtain⟨u',e2,r2⟩:=rv.get (i:=i) (d:=p.2) (by rw [D1,hp];rfl);rw [D1,hT] at e2;have e2:u=u':=B9 e2;subst e2;exact⟨k2,rh.new hq,q,[.ref b,u],rfl,jw,_,_,rfl,(show Ê K H' (jg p.1) (.ref b) from r1).mono k2,_,_,rfl,r2.mono k2,rfl⟩
 ·unfold Wx at hi;rw [G1] at hi;omega
def iIt (td:TED):TID:=λσ h R=>td σ h λx h1=> ∃a ep kv,x= .dct a/\h1.dc a=some (.tk ep kv)/\R (YB a ep kv.length) h1
theorem CO {es : G0 T8} {k : G7} {tp : Pos} {o : T8} {td : TED} {apos Ï : Pos} (ho : JE X o td) (hbase : W6 o "items" X.env (A0 o X.env) = A0 o X.env := by rfl) (hline : (apos.endLine == Ï.line) = true := by rfl) :
    JI X (.Tuple es k tp) (.Call (.Attribute o "items" apos) [] [] Ï) (iIt td) :=
  ⟨(CN ho.to hbase hline).imp fun σ H R ⟨Æ, h, Rd, rs, rh, q, p⟩ => LE.bind rs rh q fun d v h1 H1 k1 Ø Í r1 ⟨a, ep, kv, e, hc, q1⟩ => by
    subst e
    cases (show v = .ref a from r1)
    obtain ⟨xs, hH, nd, ek, tv, rv⟩ := (show ∃ xs : KT2, _ from Í.dc a _ hc)
    have len : xs.length = kv.length := by have := congrArg K8 ek; rw [G1, G1] at this; omega
    exact ⟨a, ep, xs, rfl, hH, by rw [len]; exact p _ _ _ _ k1 Í (DF a ep kv.length) q1⟩⟩
end L2
namespace L2
open PySem PySem.Spec PyProof.Rows
def Rg {α:Type}(xs:G0 α):G7->G0 (G0 α)
 |0=> [[]]
 |k+1=>(Rg xs k).flatMap λr=>xs.map (· ::r)
variable {α:Type}
theorem Zr {xs:G0 α}: ∀ {r:G0 α},(∀x∈r,x∈xs)->r∈Rg xs r.length
 | [],_=>G9.mpr rfl
 |x::r,h=>List.mem_flatMap.mpr ⟨r,Zr λy hy=>h y (D7 _ hy),R9.mpr ⟨x,h x P6,rfl⟩⟩
theorem Zt (xs:G0 α): ∀k,(Rg xs k).length=xs.length^k
 |0=>rfl
 |k+1=>by
  show ((Rg xs k).flatMap λr=>xs.map (· ::r)).length=_;rw [List.length_flatMap,show ((Rg xs k).map λr=>(xs.map (· ::r)).length)=(Rg xs k).map λ_=>xs.length from M6 λr _=>G1 _,List.map_const',List.sum_replicate_nat,Zt xs k,xN]
variable {n:G7}
theorem KJ (n3:n<=3){l:G0 (G0 (G0 P0))}(nd:l.Nodup)(h: ∀M∈l,Sq n 1 M):l.length<=512:=by
 have:=yQ (m:=Rg (Rg [(0:P0),1] n) n) nd λM hM=>by
  have s:=h M hM;have z:=Zr (xs:=Rg [(0:P0),1] n) (r:=M) λr hr=>by
   have z:=Zr (xs:= [(0:P0),1]) (r:=r) λx hx=>by
    have a:=s.nn r hr x hx;have b:x<2:=s.bit r hr x hx;rcases (show x=0\/x=1 by omega) with e|e<;>subst e<;>simp
   rw [s.row r hr] at z;exact z
  rw [s.len] at z;exact z
 rw [Zt,Zt] at this;rcases (show n=0\/n=1\/n=2\/n=3 by omega) with e|e|e|e<;>subst e<;>exact S5 this (by decide)
theorem CP {M N:G0 (G0 P0)}(a:Sq n 1 M)(b:Sq n 1 N)(f:jm M=true)(g:jm N=true):M=N:=a.ext b λi j hi hj=>by
 have x:=(wN a).mp f i j hi hj;have y:=(wN b).mp g i j hi hj;have p:=a.ent_nn hi hj;have q:=b.ent_nn hi hj;omega
def Ó (n:G7)(Ts:G0 (G0 (G0 P0))):G0 G7->G0 (G0 P0)
 | []=>zU n
 |a::w=>zB n Ts (jn n (Ts.getD a [])) w
variable {Ts:G0 (G0 (G0 P0))}
theorem Jk: ∀ {w:G0 G7} (_:w≠ []) (a:G7),Ó n Ts (w++ [a])=Ü n (Ts.getD a []) (Ó n Ts w)
 | [],h,_=>absurd rfl h
 |b::w,_,a=>by
  show zB n Ts _ (w++ [a])=_;unfold zB;rw [dY];rfl
theorem wf: ∀w:G0 G7,Sq n 1 (Ó n Ts w)
 | []=>Sq.one n
 |a::w=>VH _ (Sq.mark _) w
abbrev Fnd:=G0 (G0 (G0 P0)×G0 G7)
def ņ (n:G7)(Ts:G0 (G0 (G0 P0)))(s:Fnd×G0 (G0 G7))(w:G0 G7):Fnd×G0 (G0 G7):=if (zJ s.1 (Ó n Ts w)).isSome then s else (s.1++ [(Ó n Ts w,w)],s.2++(P4 Ts.length).map λa=>w++ [a])
def Am (n:G7)(Ts:G0 (G0 (G0 P0)))(s:Fnd×G0 (G0 G7)):Fnd×G0 (G0 G7):=s.2.foldl (ņ n Ts) (s.1,[])
def Č (n:G7)(Ts:G0 (G0 (G0 P0))):G7->Fnd×G0 (G0 G7)
 |0=>([],(P4 Ts.length).map λa=> [a])
 |k+1=>Am n Ts (Č n Ts k)
def ÿ (n:G7)(Ts:G0 (G0 (G0 P0))):Fnd:=(Č n Ts 1025).1
def ZF (Ts:G0 (G0 (G0 P0)))(w:G0 G7):Prop:=w≠ []/\ ∀i∈w,i<Ts.length
structure Δ (n:G7)(Ts:G0 (G0 (G0 P0)))(k:G7)(s:Fnd×G0 (G0 G7)):Prop where
 nd:(s.1.map (·.1)).Nodup
 fd: ∀p∈s.1,p.1=Ó n Ts p.2/\ZF Ts p.2/\p.2.length<=k
 fr: ∀w∈s.2,ZF Ts w/\w.length=k+1
structure ξ (n:G7)(Ts:G0 (G0 (G0 P0)))(k f:G7)(s:Fnd×G0 (G0 G7)):Prop where
 nd:(s.1.map (·.1)).Nodup
 fd: ∀p∈s.1,p.1=Ó n Ts p.2/\ZF Ts p.2/\p.2.length<=k+1
 fr: ∀w∈s.2,ZF Ts w/\w.length=k+2
 le:f<=s.1.length
 gr:s.2.length<=3*(s.1.length-f)
section
variable {n k f:G7}{Ts:G0 (G0 (G0 P0))}{s:Fnd×G0 (G0 G7)}{w:G0 G7}
theorem Pw (n3:n<=3)(nd:(s.1.map (·.1)).Nodup)(fd: ∀p∈s.1,p.1=Ó n Ts p.2):s.1.length<=512:=by
 have:=KJ n3 nd λM hM=>by
  obtain⟨p,hp,rfl⟩:=R9.mp hM;rw [fd p hp];exact wf _
 rwa [G1] at this
theorem ξ.few (m:ξ n Ts k f s)(n3:n<=3):s.1.length<=512:=Pw n3 m.nd λp hp=>(m.fd p hp).1
theorem Δ.few (m:Δ n Ts k s)(n3:n<=3):s.1.length<=512:=Pw n3 m.nd λp hp=>(m.fd p hp).1
theorem ZU (h:(zJ s.1 (Ó n Ts w)).isSome=true):ņ n Ts s w=s:=R5 h
theorem ZV (h:(zJ s.1 (Ó n Ts w)).isSome=false):ņ n Ts s w=(s.1++ [(Ó n Ts w,w)],s.2++(P4 Ts.length).map λa=>w++ [a]):=R3 (by rw [h];exact D0)
theorem ξ.step (m:ξ n Ts k f s)(l3:Ts.length<=3)(hw:ZF Ts w)(hl:w.length=k+1):ξ n Ts k f (ņ n Ts s w):=by
 cases h:(zJ s.1 (Ó n Ts w)).isSome with
 |true=>rw [ZU h];exact m
 |false=>
  rw [ZV h];have no:zJ s.1 (Ó n Ts w)=none:=iR.mp (by cases z:zJ s.1 (Ó n Ts w) with
   |none=>rfl
   |some _=>rw [z] at h;cases h)
  refine⟨?_,λp hp=> ?_,λv hv=> ?_,?_,?_⟩
  ·show ((s.1++ [(Ó n Ts w,w)]).map (·.1)).Nodup;rw [R1];refine K9.mpr ⟨m.nd,by simp,λx hx y hy z=> ?_⟩;rw [G9.mp hy] at z;have z:x=Ó n Ts w:=z;rw [z] at hx;exact Gr no hx
  ·rcases D5.mp hp with z|z
   ·exact m.fd p z
   ·rw [G9.mp z];exact⟨rfl,hw,Q4 hl⟩
  ·rcases D5.mp hv with z|z
   ·exact m.fr v z
   ·obtain⟨a,ha,rfl⟩:=R9.mp z;refine⟨⟨by simp,λi hi=> ?_⟩,by rw [P2,hl];rfl⟩;rcases D5.mp hi with z|z
    ·exact hw.2 i z
    ·rw [G9.mp z];exact S0.mp ha
  ·show f<=(s.1++ [(Ó n Ts w,w)]).length;rw [P2];have:=m.le;omega
  ·show (s.2++(P4 Ts.length).map λa=>w++ [a]).length<=3*((s.1++ [(Ó n Ts w,w)]).length-f);rw [P2,P2,G1,S6];have:=m.le;have:=m.gr;show _<=3*(s.1.length+1-f);omega
theorem Δ.mid (b:Δ n Ts k s):ξ n Ts k s.1.length (s.1,[]):=⟨b.nd,λp hp=>let ⟨x,y,z⟩:=b.fd p hp;⟨x,y,pY z⟩,(λ_ h=>nomatch h),P5 _,B0 _⟩
theorem Δ.mids (b:Δ n Ts k s)(l3:Ts.length<=3): ∀i,ξ n Ts k s.1.length ((s.2.take i).foldl (ņ n Ts) (s.1,[]))
 |0=>b.mid
 |i+1=>by
  by_cases h:i<s.2.length
  ·rw [iN,G2 h,dY];exact(b.mids l3 i).step l3 (b.fr _ (N6 h)).1 (b.fr _ (N6 h)).2
  ·rw [S3 (by omega),<-S3 (cG h)];exact b.mids l3 i
theorem Δ.end_ (b:Δ n Ts k s)(l3:Ts.length<=3):ξ n Ts k s.1.length (Am n Ts s):=by
 have:=b.mids l3 s.2.length
 rwa [U0] at this
theorem ξ.bin (m:ξ n Ts k f s):Δ n Ts (k+1) s:=⟨m.nd,m.fd,m.fr⟩
theorem vL (l3:Ts.length<=3): ∀k,Δ n Ts k (Č n Ts k)
 |0=>⟨e7,(λ_ h=>nomatch h),λw hw=>by
  obtain⟨a,ha,rfl⟩:=R9.mp hw;exact⟨⟨by simp,λi hi=>by rw [G9.mp hi];exact S0.mp ha⟩,rfl⟩⟩
 |k+1=>((vL l3 k).end_ l3).bin
def DG (s:Fnd×G0 (G0 G7)):G7:=2*(512-s.1.length)+(if s.2= [] then 0 else 1)
theorem Px (b:Δ n Ts k s)(n3:n<=3)(l3:Ts.length<=3)(h:s.2≠ []):DG (Am n Ts s)<DG s:=by
 have m:=b.end_ l3;have:=m.few n3;have:=m.le;have g:=m.gr;unfold DG;rw [R3 h]
 by_cases e:(Am n Ts s).1.length=s.1.length
 ·rw [e] at g ⊢;rw [R5 (X1 (by omega))];omega
 ·split<;>omega
theorem Qb (h:(Č n Ts k).2= []): ∀j,Č n Ts (k+j)=Č n Ts k
 |0=>rfl
 |j+1=>by
  show Am n Ts (Č n Ts (k+j))=_;rw [Qb h j];unfold Am;rw [h];show ((Č n Ts k).1,[])=_;rw [<-h]
theorem Nk (h:(Č n Ts k).2= [])(hk:k<=1025):(Č n Ts k).1=ÿ n Ts:=by
 unfold ÿ;rw [<-Qb h (1025-k),show k+(1025-k)=1025 by omega]
theorem Qc (l1:1<=Ts.length):0+DG (Č n Ts 0)<=1025:=by
 unfold DG;show 0+(2*(512-0)+_)<=1025;split<;>omega
theorem wB (l3:Ts.length<=3):Δ n Ts 1025 (Č n Ts 1025):=vL l3 _
end
theorem UB {β:Type}(f:α->β)(T:G0 (G0 P0)): ∀kv:G0 (G0 (G0 P0)×α),zJ (kv.map λp=>(p.1,f p.2)) T=(zJ kv T).map f
 | []=>rfl
 |p::kv=>by
  have ih:=UB f T kv;unfold zJ at ih ⊢;rw [M7,E1,E1];dsimp only;cases decide (p.1=T) with
  |true=>rfl
  |false=>exact ih
theorem UC {α:Type}{kv:G0 (G0 (G0 P0)×α)}{T:G0 (G0 P0)}{d:α}(h:zJ kv T=none):Rf kv T d=kv++ [(T,d)]/\zJ (Rf kv T d) T=some d:=by
 have e:Rf kv T d=kv++ [(T,d)]:=by unfold Rf;rw [h];rfl
 refine⟨e,?_⟩;rw [e];unfold zJ at h ⊢;rw [List.find?_append,bH.mp h];rw [Option.none_or,E1,D2 rfl];rfl
def č (F:Fnd):G0 (G0 (G0 P0)×D):=F.map λp=>(p.1,zt p.2)
theorem Nl {F:Fnd}{T:G0 (G0 P0)}:(zJ (č F) T).isSome=(zJ F T).isSome:=by
 unfold č;rw [UB,fC]
theorem An {F:Fnd}{T:G0 (G0 P0)}{w:G0 G7}(h:(zJ F T).isSome=false):Rf (č F) T (zt w)=č (F++ [(T,w)]):=by
 have z:zJ (č F) T=none:=by
  cases e:zJ (č F) T with
  |none=>rfl
  |some _=>have:=Nl (F:=F) (T:=T);rw [e,h] at this;cases this
 rw [(UC z).1];unfold č;rw [R1];rfl
def Ŧ (n:G7)(Ts:G0 (G0 (G0 P0)))(w:G0 G7):D:= .tup [zt w,jg (Ó n Ts w)]
theorem UD {n:G7}(g:G7->G0 (G0 P0)->G0 (G0 P0)):Yp ((P4 Ts.length).map λi=>jg (g i (Ts.getD i [])))=(P4 Ts.length).map λ(j:G7)=>D.tup [.int (j:P0),jg (g j (Ts.getD j []))]:=by
 apply eQ;intro i
 by_cases hi:i<Ts.length
 ·have hi':i<(Yp ((P4 Ts.length).map λi=>jg (g i (Ts.getD i [])))).length:=by rw [yb,G1,S6];exact hi
  obtain⟨x,hx,ed⟩:=WQ (G2 hi');rw [G2 hi',ed];rw [D1,I0 hi] at hx ⊢;injection hx with hx
  rw [<-hx];rfl
 ·rw [V9 (by rw [yb,G1,S6];omega),V9 (by rw [G1,S6];omega)]
theorem VP (Ts:G0 (G0 (G0 P0))):Ts.map jg=(P4 Ts.length).map λi=>jg (Ts.getD i []):=by
 apply eQ;intro i;rw [D1,D1]
 by_cases hi:i<Ts.length
 ·rw [I0 hi,G2 hi];show some (jg Ts[i])=some (jg (Ts.getD i []));rw [S1,G2 hi];rfl
 ·rw [V9 (by omega),V9 (by rw [S6];omega)];rfl
end L2
namespace L2
open PySem PySem.Spec PyProof.Rows HT PySem.SeqAt
theorem CQ (r r':G0 P0):alk (yq r) (yq r')=true:=UA r r'
section
variable {prog:T7}{w:C1}{A:B2}{E:G3->G6->Prop}{s:G6}
def IB (prog:T7)(w:C1)(h:L8)(v:G3)(T:G0 (G0 P0)):Prop:= ∃a,v= .ref a/\Ve prog w h T a/\T≠ []
theorem IB.keeps {h h':L8}{v:G3}{T:G0 (G0 P0)}(k:CF h h'):IB prog w h v T->IB prog w h' v T
 |⟨a,e,t,n⟩=>⟨a,e,(Hj prog w).keep (λc o _ q=>k c o q) t,n⟩
open Classical in
noncomputable def Qe (prog:T7)(w:C1)(h:L8)(v:G3):G0 (G0 P0):=if e: ∃T,IB prog w h v T then e.choose else []
theorem IB.told {h:L8}{v:G3}{T:G0 (G0 P0)}(x:IB prog w h v T):Qe prog w h v=T:=by
 have e: ∃T,IB prog w h v T:=⟨T,x⟩;unfold Qe;rw [pX e];obtain⟨a,e1,t,_⟩:=e.choose_spec;obtain⟨b,e2,t2,_⟩:=x;rw [e1] at e2;cases e2;exact(Hj prog w).inj t t2
theorem CS {vs:G0 G3}(h2:2<=vs.length)(x: ∀v∈vs,∃T,IB prog w s.heap v T){Q:SortKind->G6->Prop}(q:Q (G0u false) s):D9 (S2 prog w) A (IH vs.toArray) Q E s:=by
 have go: ∀l:G0 G3,(∀v∈l,v∈vs)-> ∃fs:G0 G3,G0H s.heap l fs/\fs.length=l.length/\ ∀f∈fs,∃b o,f= .ref b/\s.heap.get? b=some o/\o.cls= .type "tuple" :=by
  intro l
  induction l with
  |nil=>exact λ_=>⟨[],.nil,rfl,λf hf=>absurd hf F4⟩
  |cons v l ih=>
   intro sub;obtain⟨fs,e1,e2,e3⟩:=ih λu hu=>sub u (D7 _ hu)
   obtain⟨T,a,rfl,⟨o,its,n,ho,hc,hd,hi⟩,ne⟩:=x v (sub v P6);obtain⟨l⟩:=its;have hi:Ñ prog w s.heap T l:=hi;cases hi with
   |nil=>exact absurd rfl ne
   |cons ra rest=>
    rename_i r b T' vs';refine⟨.ref b::fs,.cons ho hc hd rfl e1,by rw [S7,S7,e2],λf hf=> ?_⟩;rcases T3.mp hf with rfl|hf
    ·obtain⟨o',_,_,q1,q2,_⟩:=ra;exact⟨b,o',rfl,q1,q2⟩
    ·exact e3 f hf
 obtain⟨fs,t,len,ty⟩:=go vs λ_ h=>h
 refine PySem.W.kat_kind (T:= .type "tuple") t (by omega) (λf hf=> ?_) rfl q;obtain⟨b,o,rfl,ho,hc⟩:=ty f hf;rw [<-hc];exact(PySem.W.Looks.ld ho).andThen .now
theorem Py {fin:N2}{Q:N2->G6->Prop}(hu:A.units+16<cLine)(m n:G7)(ef:fin=decide (m<n)): ∀ {vs us:G0 G3} {T U:G0 (G0 P0)} (i:G7),Ñ prog w s.heap T vs->Ñ prog w s.heap U us->T.length+n=U.length+m->Q (zj T U) s->G0R prog w A false fin Q (vs.zip us) i s
 |_,_,_,_,i,.nil,.nil,l,q=>by
  subst ef;rw [p7];refine mN ?_;rw [R8 (by rw [O4] at l;omega)];exact q
 |_,_,_,_,i,.nil,.cons c y,l,q=>by
  subst ef;rw [p7];refine mN ?_;rw [D2 (by rw [O4,S7] at l;omega)];exact q
 |_,_,_,_,i,.cons a x,.nil,l,q=>by
  subst ef;rw [List.zip_nil_right];refine mN ?_;rw [R8 (by rw [O4,S7] at l;omega)];exact q
 |_,_,_,_,i,.cons (r:=r) (b:=b) (T:=T) a x,.cons (r:=r') (b:=b') (T:=U) c y,l,q=>by
  rw [aE];have q:Q (if r=r' then zj T U else HT.wa r r') s:=q;refine G0C (oZ (by omega) a c ?_)
  by_cases z:r=r'
  ·rw [R5 z] at q;rw [D2 z];exact G0I (Py hu m n ef (i+1) x y (by rw [S7,S7] at l;omega) q)
  ·rw [R3 z] at q;rw [R8 z];refine G0S (by
    rw [bY];refine G0J _ _ ?_;obtain⟨o,items,k,ho,hc,hd,hi⟩:=a;obtain⟨o',items',k',ho',Ρ,hd',hi'⟩:=c;refine Ux (yq r) (yq r') A s _ _ [] [] (.tuple ho hc hd (Ji hi)) (.tuple ho' Ρ hd' (Ji hi')) (ZN r) (ZN r') (CQ r r') (by have:=XL r;omega) prog w _ _ ?_;rw [show ltP (yq r) (yq r')=HT.wa r r' from Uz r r'];exact q)
theorem CT (hu:A.units+16<cLine){h0 h':L8}(k:CF h0 h'):Xe prog w A (HT.Only s h') (G0u false) (λx=> ∃T,IB prog w h0 x.1 T) (λx y=>zj (Qe prog w h0 x.1) (Qe prog w h0 y.1)):=by
 rintro ⟨x,x'⟩ ⟨y,y'⟩ ⟨T,tx⟩ ⟨U,ty⟩ s1 ⟨tk,rfl⟩;dsimp only at tx ty ⊢;have q:(zj T U=zj (Qe prog w h0 x) (Qe prog w h0 y)/\HT.Only s h' {s with heap:=h',toks:=tk}):=⟨by rw [tx.told,ty.told],tk,rfl⟩;obtain⟨a,rfl,⟨o,its,n,ho,hc,hd,hi⟩,_⟩:=tx.keeps k;obtain⟨b,rfl,⟨o2,Ĝ,n2,ho2,hc2,hd2,hi2⟩,_⟩:=ty.keeps k;refine G0T ho hd ho2 hd2 (Py (s:= {s with heap:=h',toks:=tk}) hu its.size Ĝ.size rfl 0 hi hi2 ?_ q);have z1:T.length=its.size:=hi.len;have z2:U.length=Ĝ.size:=hi2.len;omega
theorem Ao {U:D6->Prop}(key:G3->G0 (G0 P0)):Ù U (λx y=>zj (key x.1) (key y.1)):=⟨λx y _ _ h=>Ae h,λx y z _ _ _ h=>by
 rcases Uy (key x.1) (key y.1) with e|e|e
 ·exact .inr (by rw [<-e];exact h)
 ·exact .inl e
 ·exact .inr (WU e h)⟩
end
theorem Gs {K:G5}{H:Hp}: ∀ {qs:G0 CK},(∀x∈qs,Ê K H (jg x.2) (.ref x.1))->Á K H ((qs.map (·.2)).map jg) (qs.map λp=>V.ref p.1)
 | [],_=>rfl
 |q::qs,h=>⟨_,_,rfl,h q P6,Gs λx hx=>h x (D7 _ hx)⟩
end L2
namespace HT
open PySem PyProof.Rows
def Vb {K α:Type}[DecidableEq K](kv:G0 (K×α))(k:K):G0 (K×α):=kv.filter λp=> !decide (p.1=k)
theorem Qf {K α:Type}[DecidableEq K]{k:K}{p:α}: ∀ {xs:G0 (K×α)} {j:G7},(xs.map (·.1)).Nodup->xs[j]? =some (k,p)->xs.eraseIdx j=Vb xs k
 | [],_,_,h=>by cases h
 |x::xs,0,nd,h=>by
  injection h with h
  subst h;unfold Vb;rw [List.eraseIdx_cons_zero,E3 (by simp)];refine(cO.mpr λy hy=> ?_).symm;have ne:y.1≠k:=λz=>(K0.mp nd).1 (R9.mpr ⟨y,hy,z⟩)
  rw [R8 ne];rfl
 |x::xs,j+1,nd,h=>by
  rw [M7] at nd;have h:xs[j]? =some (k,p):=h;have ne:x.1≠k:=λz=>(K0.mp nd).1 (R9.mpr ⟨_,P9 h,z.symm⟩)
  rw [List.eraseIdx_cons_succ,Qf (K0.mp nd).2 h];unfold Vb;rw [L6 (by rw [R8 ne];rfl)]
theorem Nm {α β:Type}(f:α->β)(xs:G0 α)(j:G7):(xs.map f).eraseIdx j=(xs.eraseIdx j).map f:=by
 rw [fH,fH,R1,j5,fX]
section
variable {prog:T7}{w:C1}{K:Type}[DecidableEq K]{knd:HeapKind prog w K}{A:B2}{E:G3->G6->Prop}{s:G6}{d a:P1}{k:K}{xs:G0 (K×P1×G3)}
theorem Nn {Q:P7 X8->G6->Prop}(hu:knd.room A)(Α:knd.is s.heap k a)(hm:s.heap.DictOfH knd d xs)(hp:(dL xs k).isSome=true)(hsz:xs.length<=sizeLine)
 (q: ∀e h',h'.DictOfH knd d (Vb xs k)->Q2 d s.heap h'->Q (some e) {s with heap:=h',toks:=s.toks+knd.draws k}):D9 (S2 prog w) A (Builtin.Dict.takeOut d (.ref a)) Q E s:=by
 obtain⟨o,es,ep,ho,hx,hd,he,his,nd⟩:=hm;have le:es.size=xs.length:=size_of_entries he;unfold Builtin.Dict.takeOut;refine O0 (wpAny_bind (knd.pyHash hu Α (wpAny_bind (wpAny_dictFind_heap (s:= {s with toks:=s.toks+knd.draws k}) hu Α ho hd he his nd (λno=> ?_) λj p hj=> ?_))))
 ·obtain⟨y,hy⟩:=cR.mp hp;unfold dL at hy;obtain⟨x,hx,_⟩:=F9.mp hy;obtain⟨j,hj⟩:=List.getElem?_of_mem (K5 hx);have ek:x.1=k:=by have z:=bL hx;exact C4 z
  exact absurd (by rw [hj,<-ek]) (no j x.2)
 ·have jl:j<es.size:=by rw [le];exact(P8.mp hj).1
  refine wpAny_bind (i8 (s:= {s with toks:=s.toks+knd.draws k}) ho hd ?_);rw [entry_at he j,hj];refine wpAny_bind (wpAny_updateDictKeys (s:= {s with toks:=s.toks+knd.draws k}) ho hd (G8 (q _ _ ?_ (Y4 ..))) (by omega) ?_)
  ·refine⟨_,_,ep+1,aG _ ho (Obj.isFreed_of_dict (nV hd _)),hx.mapDictKeys _,nV hd _,?_,λx ă=> ?_,?_⟩
   ·rw [<-Qf nd hj];show (es.eraseIdxIfInBounds j).toList=_;unfold j8;rw [pX jl,mV,he,Nm]
   ·exact knd.keeps (his x (C9.mp ă).1) ho hd (Y4 ..)
   ·exact nd.sublist (G0.filter_sublist.map _)
  ·show (es.eraseIdxIfInBounds j).size<=_;unfold j8;rw [pX jl,Array.size_eraseIdx];omega
theorem CU {Q:Unit->G6->Prop}(hu:knd.room A.in1)(Α:knd.is s.heap k a)(hm:s.heap.DictOfH knd d xs)(hp:(dL xs k).isSome=true)(hsz:xs.length<=sizeLine)
 (q: ∀h',h'.DictOfH knd d (Vb xs k)->Q2 d s.heap h'->Q () {s with heap:=h',toks:=s.toks+knd.draws k}):D9 (S2 prog w) A (delItem (.ref d) (.ref a)) Q E s:=by
 have ty:=hm.typeIs;unfold delItem;refine O0 (wpAny_bind (dP ty (by decide) (wpAny_bind (N9 (name:=J0 "__delitem__") ty oH (N5 oH ty F.entry_dict_delitem ?_ (F.args_dict_delitem_2 _ _))))));unfold Builtin.«dict.__delitem__» Builtin.Dict.dictSlotArgs;refine wpAny_bind (wpAny_bind (bQ ty (G8 ?_)));refine wpAny_bind (G8 (wpAny_bind (Nn hu Α hm hp hsz λe h' z1 z2=> ?_)));exact wpAny_bind (IL (G8 ⟨_,rfl,G8 (q h' z1 z2)⟩))
end
section
variable {prog:T7}{w:C1}{A:B2}{E:G3->G6->Prop}{s:G6}{d:P1}{dd:P7 P1}{es:M8 X8}{ep:G7}{sl:M8 (P7 G3)}
theorem CV {Q:G3->G6->Prop}(hd:s.heap.get? d=some {cls:= .type "dict",dict:=dd,data:= .dict es ep,slots:=sl})(lo:(d==Q6)=false)(sm:es.size<=sizeLine)
 (q:Q (.int es.size (s.toks+1)) {s with toks:=s.toks+1+1}):D9 (S2 prog w) A (Builtin.«len» ⟨[.ref d],[]⟩) (λfin s'=> ∃r,fin= .done (.ret r)/\Q r s') E s:=by
 have ty:s.TypeIs (.ref d) "dict" :=⟨_,hd,rfl⟩;have big:(es.size:P0)<2^63:=iE (xO.mpr sm) (by decide);unfold Builtin.«len»;refine wpAny_bind (m:=oneArg "len" _) (G8 (wpAny_bind (m:=pR (.ref d) (J0 "__len__")) (N9 (name:=J0 "__len__") ty rS (N5 rS ty F.entry_dict_len ?_ (F.args_dict_len_1 _)))));unfold Builtin.«dict.__len__» Builtin.Dict.dictSlotNone dictSize;refine wpAny_bind (wpAny_bind (bQ ty (G8 ?_)));refine wpAny_bind (G8 (wpAny_bind (wpAny_bind (i8 hd rfl (G8 (wpAny_bind (wpAny_pendingCount_other lo (gG ?_))))))));show D9 _ _ _ _ _ {s with toks:=s.toks+1};dsimp only
 wp_walk
 rw [R3 (show ¬ ((es.size:P0)+((0:G7):P0)>=2^63) by omega)];exact gG (by simpa using q)
theorem DH {Q:N2->G6->Prop}(hd:s.heap.get? d=some {cls:= .type "dict",dict:=dd,data:= .dict es ep,slots:=sl})(lo:(d==Q6)=false)(sm:es.size<=sizeLine)
 (q:Q (!es.isEmpty) {s with toks:=s.toks+1+1}):D9 (S2 prog w) A (lJ (.ref d)) Q E s:=by
 have ty:s.TypeIs (.ref d) "dict" :=⟨_,hd,rfl⟩;have e:((es.size:P0) !=0)= !es.isEmpty:=by
  unfold tV
  by_cases c:es.size=0
  ·rw [c];rfl
  ·rw [R8 c,bne_iff_ne.mpr (by omega)];rfl
 have told:D9 (S2 prog w) A (runValue (.builtin "len" ⟨[.ref d],[]⟩)) (λr s'=>r= .int es.size (s.toks+1)/\s'= {s with toks:=s.toks+1+1}) E s:=
  sS (bJ entry_len (by
   rw [cA plain_len _];exact M1 (CV (Q:=λr s'=>r= .int es.size (s.toks+1)/\s'= {s with toks:=s.toks+1+1}) hd lo sm ⟨rfl,rfl⟩) (λfin s' ⟨r,e1,z⟩=>by subst e1;exact z) λ_ _ z=>z))
 unfold lJ;refine wpAny_bind (wpAny_callSpecial?_none (name:=J0 "__bool__") ty noBool_dict (wpAny_bind (Y3 (name:=J0 "__len__") ty F.slot_dict_len.lookup ?_)));exact wpAny_bind (M1 told (λr s' ⟨e1,e2⟩=>by subst e1 e2;exact G8 (e ▸ q)) λ_ _ z=>z)
def KIt (h:L8)(it d:P1)(i n ep:G7):Prop:=h.get? it=some {cls:= .type "dict_keyiterator",data:= .fields #[.ref d,.int i 0,.int n 0,.int ep 0]}
theorem Zu {it:P1}{i n:G7}{P:dI->G6->Prop}(hit:KIt s.heap it d i n ep)(hd:s.heap.get? d=some {cls:= .type "dict",dict:=dd,data:= .dict es ep,slots:=sl})(hn:es.size=n)
 (more: ∀ (e:X8) h',es[i]? =some e->KIt h' it d (i+1) n ep->Q2 it s.heap h'->P (.done (.ret e.key)) {s with heap:=h'})
 (none_:es[i]? =none->D9 (S2 prog w) A (do nI (.ref it) 0 .none;y9 (<-newExc (.type "StopIteration") [])) P E s):D9 (S2 prog w) A (Builtin.«dict_keyiterator.__next__» ⟨[.ref it],[]⟩) P E s:=by
 have hT:s.TypeIs (.ref it) "dict_keyiterator" :=⟨_,hit,rfl⟩;have tn:=λ{Q:U4->G6->Prop} {E':G3->G6->Prop} {A':B2} (h:Q "dict_keyiterator" s)=>wpAny_typeNameOfWhole_keyiter (prog:=prog) (w:=w) (A:=A') (E:=E') hT h
 obtain⟨hp,g,dr,tk,os⟩:=s
 wp_walk using tn
 rw [R3 (show ¬ ((i:P0)<0) by omega),X9];cases hx:es[i]? with
 |none=>exact wpAny_bind (wpAny_bind (tn (G8 (none_ hx))))
 |some e=>
  refine wpAny_bind (wpAny_bind (tn (G8 (wpAny_bind (mX hT ?_)))));show D9 _ _ (nI (.ref it) 1 (i9 ((i:P0)+1)) >>= _) _ _ _;refine wpAny_bind (wpAny_setField_rec hit (by simp) λh1 e1 s1=> ?_);have e2:KIt h1 it d (i+1) n ep:=by unfold KIt;rw [show ((i+1:G7):P0)=(i:P0)+1 by omega];simpa [i9] using e1
  have T1:Shared.TypeIs ⟨h1,g,dr,tk,os⟩ (.ref it) "dict_keyiterator" :=⟨_,e2,rfl⟩;exact wpAny_bind (O0 (wpAny_bind (mX T1 (G8 (G8 (more e h1 hx e2 s1))))))
theorem VQ {Q:G3->G6->Prop}(hd:s.heap.get? d=some {cls:= .type "dict",dict:=dd,data:= .dict es ep,slots:=sl})(lo:(d==Q6)=false)
 (q:Q (.ref s.heap.objs.size) {s with heap:=s.heap.push {cls:= .type "dict_keyiterator",data:= .fields #[.ref d,.int 0 0,.int es.size 0,.int ep 0]}}):D9 (S2 prog w) A (mZ (.ref d)) Q E s:=by
 have ty:s.TypeIs (.ref d) "dict" :=⟨_,hd,rfl⟩;refine i5 ty qU (N5 qU ty F.entry_dict_iter ?_ (F.args_dict_iter_1 _));unfold Builtin.«dict.__iter__» Builtin.Dict.dictSlotNone Builtin.Dict.showsAll;refine wpAny_bind (wpAny_bind (bQ ty (G8 ?_)));refine wpAny_bind (G8 ?_)
 wp_walk
 exact⟨_,rfl,"dict_keyiterator",_,⟨_,S4 _ rfl,rfl⟩,F.slot_dict_keyiterator_next.lookup,by simpa [i9] using q⟩
end
end HT
namespace L2
open PySem PySem.Spec PyProof.Rows HT PySem.SeqAt
theorem YC {T:G0 (G0 P0)}: ∀ {xs:KT2} {ys:G0 (G0 (G0 P0)×P1×G3)},Paired vK xs ys->Paired vK (Vb xs T) (Vb ys T)
 |_,_,.nil=> .nil
 |_,_,.cons (a:=x) (b:=y) r z=>by
  have ih:=YC (T:=T) z;unfold Vb at ih ⊢
  by_cases c:x.1=T
  ·rw [E3 (by rw [D2 c];exact D0),E3 (by rw [D2 (r.1 ▸ c)];exact D0)];exact ih
  ·rw [L6 (by rw [R8 c];rfl),L6 (by rw [R8 (r.1 ▸ c)];rfl)];exact .cons r ih
def KK (td ty:TE):TS:=λD σ H=>td σ H λx H2=>ty σ H2 λy H3=> ∃ (a b:P1) (T:G0 (G0 P0)) (ep:G7) (xs:KT2),x= .ref a/\y= .ref b/\H3 a=some (Jc a ep xs)/\(∀x∈xs,QP H3 x.1 x.2.1)/\(xs.map (·.1)).Nodup/\QP H3 T b/\T∈xs.map (·.1)/\ ∀û,D.nx σ (upd H3 a (Jc a û (Vb xs T)))
section
variable {X:Cx}
theorem Ap {o i:T8}{td ty:TE}{pos pos':Pos}(hu:X.A.units+9<cLine)(ho:PE X o td)(hi:PE X i ty):PS X (.Delete [.Subscript o i pos'] pos) (KK td ty):=by
 intro À s σ H D I h;refine wpAny_Delete (wpAny_deleteEach_cons (wpAny_delete_Subscript (Ô (ho À s σ H _ I h) λu s2 ⟨x,H2,I2,rx,q2⟩=>Ô (hi À s2 σ H2 _ I2 q2) λiv s3 ⟨y,H3,I3,ry,a,b,T,ep,xs,ex,ey,hH,ks,nd,hT,mem,q3⟩=> ?_)));subst ex ey;obtain rfl:u=F6 a:=rx;obtain rfl:iv=F6 b:=ry;obtain⟨h1,h2,ys,pr,dd⟩:=Zq I3 hH ks nd;obtain⟨k1,k2,k3⟩:=jS pr;refine CU (knd:=Bn X.prog X.w) (show X.A.units+1+8<cLine by omega) (Zp I3 T b hT) dd ?_ (by omega) λh' dd' hs=>wpAny_deleteEach_nil ?_
 ·obtain⟨y,hy,e⟩:=R9.mp (k1 ▸ mem);unfold dL;rw [fC,p9];exact⟨y,hy,D2 e⟩
 ·obtain⟨q,es,û,hq,e2,e3,e4,_,_⟩:=dd';have lz:(Vb xs T).length<=sizeLine:=S5 (Q0 _ _) h2;refine⟨σ,_,RD (ob:=Jc a û (Vb xs T)) I3 (by rw [hH];exact aQ) hs ⟨q,hq⟩ ⟨⟨h1,lz,_,YC pr,q,es,hq,e2,e3,e4⟩,⟨q,hq⟩,λg1 g2 hg ke=> ?_⟩,q3 û⟩;obtain⟨a1,a2,ý,Ν,o,Ħ,ho,ex,hd,he⟩:=hg;exact⟨a1,a2,ý,Ν,o,Ħ,ke o ho,ex,hd,he⟩
def KL (td ty:TED):TSD:=λE σ h=>td σ h λx h2=>ty σ h2 λy h3=> ∃a T ep kv,x= .dct a/\y=jg T/\h3.dc a=some (.tk ep kv)/\T∈kv.map (·.1)/\ ∀û,E.nx σ (Bj h3 a (.tk û (Vb kv T)))
theorem Qg {α β:Type}{T:G0 (G0 P0)}: ∀ {kv:G0 (G0 (G0 P0)×α)} {xs:G0 (G0 (G0 P0)×β)},kv.map (·.1)=xs.map (·.1)->(Vb kv T).map (·.1)=(Vb xs T).map (·.1)
 | [],[],_=>rfl
 |p::r,[],e=>by cases e
 | [],q::xs,e=>by cases e
 |p::r,q::xs,e=>by
  rw [M7,M7] at e;injection e with e1 e2
  have ih:=Qg (T:=T) e2;unfold Vb at ih ⊢
  by_cases c:p.1=T
  ·rw [E3 (by rw [D2 c];exact D0),E3 (by rw [D2 (e1 ▸ c)];exact D0)];exact ih
  ·rw [L6 (by rw [R8 c];rfl),L6 (by rw [R8 (e1 ▸ c)];rfl),M7,M7,ih,e1]
theorem Qh {K:G5}{H:Hp}{T:G0 (G0 P0)}: ∀ {kv:G0 (G0 (G0 P0)×D)} {xs:KT2},kv.map (·.1)=xs.map (·.1)->Á K H (kv.map (·.2)) (xs.map (·.2.2))->Á K H ((Vb kv T).map (·.2)) ((Vb xs T).map (·.2.2))
 | [],[],_,_=>rfl
 |p::r,[],e,_=>by cases e
 | [],q::xs,e,_=>by cases e
 |p::r,q::xs,e,h=>by
  rw [M7,M7] at e;injection e with e1 e2
  obtain⟨v0,t,z',h1,h2⟩:=(show ∃v t,q.2.2::xs.map (·.2.2)=v::t/\Ê K H p.2 v/\Á K H (r.map (·.2)) t from h);injection z' with z1 z2
  subst z1 z2;have ih:=Qh (T:=T) e2 h2;unfold Vb at ih ⊢
  by_cases c:p.1=T
  ·rw [E3 (by rw [D2 c];exact D0),E3 (by rw [D2 (e1 ▸ c)];exact D0)];exact ih
  ·rw [L6 (by rw [R8 c];rfl),L6 (by rw [R8 (e1 ▸ c)];rfl)];exact⟨_,_,rfl,h1,ih⟩
theorem KM {k : G7} {o i : T8} {td ty : TED} {pos pos' : Pos} (hr : ß k X.A) (ho : JE X o td) (hi : JE X i ty) : JS X (.Delete [.Subscript o i pos'] pos) (KL td ty) :=
  ⟨(Ap (by have := hr.un; omega) ho.to hi.to).imp fun D σ H ⟨Æ, h, Dd, rs, rh, t, nx, _⟩ => LE.bind rs rh t fun d2 v2 h2 H2 k2 ğ ó r2 t2 => LE.bind ğ ó t2 fun d3 v3 h3 H3 k3 š Ĉ r3 ⟨a, T, ν, kv, e1, e2, e, mem, q⟩ => by
    subst e1 e2
    cases (show v2 = .ref a from r2)
    obtain ⟨b, us, ex, _⟩ := (show ∃ b vs, v3 = .ref b ∧ H3 b = some (.tup vs) ∧ Á X.K H3 (T.map ym) vs from r3)
    subst ex
    obtain ⟨xs, hH, nd, ek, tv, rv⟩ := (show ∃ xs : KT2, _ from Ĉ.dc a _ e)
    have ob : ů (Jc a ν xs) := .inr ⟨_, rfl⟩
    refine ⟨a, b, T, ν, xs, rfl, rfl, hH, fun x hx => WF (tv x hx), by rw [← ek]; exact nd, WF r3, by rw [← ek]; exact mem, fun û => nx Æ _ σ _ (k2.trans (k3.trans (.putD hH ob))) (š.mono (.putD hH ob)) (Ĉ.putC (c := .tk û (Vb kv T)) hH ob ?_) (q û)⟩
    refine ⟨Vb xs T, jw, nd.sublist (G0.filter_sublist.map _), Qg ek, fun x hx => (tv x (C9.mp hx).1).mono (.putD hH ob), (Qh ek rv).mono (.putD hH ob)⟩⟩
def KN (t:TE):TT:=λσ H Q=>t σ H λx H1=> ∃a ep xs,x= .ref a/\H1 a=some (Jc a ep xs)/\Q (!xs.isEmpty) H1
theorem Aq {e:T8}{t:TE}(h:PE X e t)(he: ∀whole,isTrue e X.env whole=(do let v <-whole;cV e.pos;aF [v] (lJ v)):=by intro _;rfl):PT X e (KN t):=by
 intro À s σ H Q I hw;refine o9 (Ô (h À s σ H _ I hw) λv s1 ⟨x,H1,I1,r1,a,ep,xs,ex,hH,q⟩=> ?_) (he _);subst ex;cases r1;obtain⟨lo,sl,es,ys,hd,pr,hes,hn⟩:=yG I1 hH;have sm:es.size<=sizeLine:=by rw [hn];exact(I1.hok a _ hH).1.2.1
 refine DH hd lo sm ⟨H1,I1.tok _,?_⟩;have e:(!es.isEmpty)= !xs.isEmpty:=by
  unfold tV;rw [hn];cases xs<;>rfl
 rw [e];exact q
def KO (t:TED):TTD:=λσ h Q=>t σ h λx h1=> ∃a ep kv,x= .dct a/\h1.dc a=some (.tk ep kv)/\Q (!kv.isEmpty) h1
theorem FW {ta : TED} (ha : JE X a ta) (he : ∀ whole, isTrue a X.env whole = (do let v ← whole; cV a.pos; aF [v] (lJ v)) := by intro _; rfl) : JT X a (KO ta) :=
  ⟨(Aq ha.to he).imp fun σ H Q ⟨Æ, h, Qd, rs, rh, t, p⟩ => LE.bind rs rh t fun d v h1 H1 k1 Ø Í r1 ⟨a, ep, kv, e, hc, q⟩ => by
    subst e
    cases (show v = .ref a from r1)
    obtain ⟨xs, hH, nd, ek, tv, rv⟩ := (show ∃ xs : KT2, _ from Í.dc a _ hc)
    refine ⟨a, ep, xs, rfl, hH, ?_⟩
    have len : xs.length = kv.length := by have := congrArg K8 ek; rw [G1, G1] at this; omega
    have e : (!xs.isEmpty) = !kv.isEmpty := by cases xs <;> cases kv <;> first | rfl | (simp at len)
    rw [e]
    exact p _ h1 H1 k1 Í q⟩
end
def Kyi (a : P1) (ep n : G7) : It :=
  ⟨fun i H => ∃ xs x, H a = some (Jc a ep xs) ∧ xs.length = n ∧ xs[i]? = some x,
   fun i H v H' => H' = H ∧ ∃ b, v = .ref b ∧ ∀ xs, H a = some (Jc a ep xs) → ∃ T u, xs[i]? = some (T, b, u),
   fun i H => ∃ xs, H a = some (Jc a ep xs) ∧ xs.length = n ∧ n ≤ i⟩
variable {tg:T8}
theorem No {P:T7}{w:C1}{K:G5}(a it:P1)(ep n:G7):Ŝ P w K tg (Kyi a ep n) [it] it (λi h=>KIt h it a i n ep) where
 mem:=by simp
 obj:=λi h q b hb=>by rw [G9.mp hb];exact⟨_,q,λv z=>by cases z⟩
 keep:=λi h h' q k=>k it (by simp) _ q
 item:=by
  intro X hP hw hK hc i À s σ H E I hf hit hg;subst hP hw hK;obtain⟨xs,x,hH,hl,hx⟩:=hg;obtain⟨_,sl,es,ys,hd,pr,he,hn⟩:=yG I hH;have ty:s.TypeIs (.ref it) "dict_keyiterator" :=⟨_,hit,rfl⟩;obtain⟨f0,f1,f2,f3,f4,f5⟩:=hf it (by simp);have il:i<ys.length:=by rw [<- (jS pr).2.1];exact(P8.mp hx).1
  have hy:ys[i]? =some ys[i]:=G2 il;obtain⟨p1,p2,p3⟩:=yR pr hx hy;have ee:es[i]? =some ⟨Yh ys[i].1,.ref ys[i].2.1,ys[i].2.2⟩:=by rw [<-C3,he,D1,hy];rfl
  unfold gS;refine wpAny_bind (aU (N9 (name:=J0 "__next__") ty L7 (N5 L7 ty X4 (Zu hit hd (hn.trans hl) (λe h' ă it2 same=>⟨_,rfl,G8 ⟨_,rfl,?_⟩⟩) λz=>by rw [ee] at z;cases z) (W3 _))));rw [ee] at ă;injection ă with ă
  subst ă;have I1:Inv X À σ H {s with heap:=h'}:=I.turned (t':=s.toks) (λb o hb e=>same.extBut b o hb e) f0 f1 f3 f4 f5;refine Bx (s:= {s with heap:=h'}) it2 rfl rfl (by decide) ⟨.ref x.2.1,H,I1,by rw [p2];rfl,⟨rfl,x.2.1,rfl,λı h2=> ?_⟩,it2,λb hb=>(hf b hb).1⟩;obtain⟨T,hT⟩:=Nh I hH h2 hx;exact⟨T,_,hT⟩
 done:=by
  intro X hP hw hK hc i À s σ H E I hf hit hg;subst hP hw hK;obtain⟨xs,hH,hl,hi⟩:=hg;obtain⟨_,sl,es,ys,hd,pr,he,hn⟩:=yG I hH;have ty:s.TypeIs (.ref it) "dict_keyiterator" :=⟨_,hit,rfl⟩;unfold gS;refine wpAny_bind (aU (N9 (name:=J0 "__next__") ty L7 (N5 L7 ty X4 (Zu hit hd (hn.trans hl) (λe h' ă _ _=>by have:=(U8.mp ă).1;omega) λ_=>wpAny_bind (dX hit rfl (by simp) (va (s:= {s with heap:=_}) (I.ok.hd hc) λh' e grown stop=> ?_))) (W3 _))));obtain⟨o,eo,co⟩:=stop;refine wpAny_bind (Z7 (T:= "StopIteration") (b:=true) ⟨o,eo,co⟩ iG ?_);have kp: ∀b o,b ∉ [it]->s.heap.get? b=some o->h'.get? b=some o:=λb o hb q=>grown b o ((Y7 _ _ (λz=>hb (by simp [z]))).trans q)
  have I2:Inv X À σ H {s with heap:=h'}:=I.turnL (t':=s.toks) (ch:= [it]) kp hf;exact G8 ⟨rfl,I2⟩
 self:=λ_ _ _ _ _ q h=>nX ⟨_,q,rfl,rfl⟩ h
def xK (td:TE):TI:=λσ H R=>td σ H λx H1=> ∃a ep xs,x= .ref a/\H1 a=some (Jc a ep xs)/\R (Kyi a ep xs.length) H1
variable {X:Cx}
theorem Ar {o:T8}{td:TE}(ho:PE X o td):PI X tg o (xK td):=by
 intro À s σ H R I h;refine Ô (ho À s σ H _ I h) λv s1 ⟨x,H1,I1,r1,a,ep,xs,ex,hH,q⟩=> ?_
 subst ex;cases r1;obtain⟨lo,sl,es,ys,hd,pr,he,hn⟩:=yG I1 hH;refine VQ hd lo ?_;rw [hn];refine⟨_,[s1.heap.objs.size],_,_,H1,rfl,I1.kept (t':=s1.toks) (λb u e=>P3 _ e),No a _ ep xs.length,S4 _ rfl,λb hb=> ?_,q⟩;rw [G9.mp hb];exact I1.fpOk (P5 _) (I1.hok.fresh (P5 _))
def Qi (a:P1)(ep n:G7):ItD:=λh=>match h.dc a with
 |some (.tk e kv)=>if e=ep/\kv.length=n then some (kv.map λp=>jg p.1) else none
 |_=>none
theorem UE {h:HD}{a:P1}{ep:G7}{kv:G0 (G0 (G0 P0)×D)}(e:h.dc a=some (.tk ep kv)):Qi a ep kv.length h=some (kv.map λp=>jg p.1):=by
 unfold Qi;rw [e];exact R5 ⟨rfl,rfl⟩
theorem CW {h:HD}{a:P1}{ep n:G7}{ds:G0 D}(e:Qi a ep n h=some ds): ∃kv,h.dc a=some (.tk ep kv)/\kv.length=n/\ds=kv.map λp=>jg p.1:=by
 unfold Qi at e;split at e
 ·rename_i e' kv q
  by_cases c:e'=ep/\kv.length=n
  ·rw [R5 c] at e;exact⟨kv,by rw [q,c.1],c.2,(B9 e).symm⟩
  ·rw [R3 c] at e;cases e
 ·cases e
theorem Np {K:G5}{H:Hp}(a:P1)(ep n:G7):BL K H (Qi a ep n) (Kyi a ep n):=λH' h' _ rh ds e i=>by
 obtain⟨kv,hc,hl,rfl⟩:=CW e;obtain⟨xs,hH,nd,ek,tv,rv⟩:=(show ∃xs:KT2,_ from rh.dc a _ hc);have len:xs.length=n:=by have:=congrArg K8 ek;rw [G1,G1] at this;omega
 refine⟨λd hd=> ?_,λhi=>⟨xs,hH,len,by rw [G1] at hi;omega⟩⟩;rw [D1] at hd;obtain⟨p,hp,rfl⟩:=F9.mp hd;have il:i<xs.length:=by have:=(P8.mp hp).1;omega
 have hx:xs[i]? =some xs[i]:=G2 il;refine⟨⟨xs,xs[i],hH,len,hx⟩,λx Ġ ⟨eH,b,ex,all⟩=> ?_⟩;subst ex eH;obtain⟨T,u,hT⟩:=all xs hH;have e1:T=p.1:=by
  have:=congrArg (λl=>l[i]?) ek;simp only [D1,hp,hT,bK] at this;exact(B9 this).symm
 subst e1;exact⟨.refl _,rh,tv _ (P9 hT)⟩
def iKy (td:TED):TID:=λσ h R=>td σ h λx h1=> ∃a ep kv,x= .dct a/\h1.dc a=some (.tk ep kv)/\R (Qi a ep kv.length) h1
theorem Gt {o : T8} {td : TED} (ho : JE X o td) : JI X tg o (iKy td) :=
  ⟨(Ar ho.to).imp fun σ H R ⟨Æ, h, Rd, rs, rh, q, p⟩ => LE.bind rs rh q fun d v h1 H1 k1 Ø Í r1 ⟨a, ep, kv, e, hc, q1⟩ => by
    subst e
    cases (show v = .ref a from r1)
    obtain ⟨xs, hH, nd, ek, tv, rv⟩ := (show ∃ xs : KT2, _ from Í.dc a _ hc)
    have len : xs.length = kv.length := by have := congrArg K8 ek; rw [G1, G1] at this; omega
    exact ⟨a, ep, xs, rfl, hH, by rw [len]; exact p _ _ _ _ k1 Í (Np a ep kv.length) q1⟩⟩
def Hk (P:T7)(w:C1)(xs:KT2)(o:Obj):Prop:=xs.length<1000/\(xs.map (·.1)).Nodup/\ ∃es ep,∃ys:G0 (G0 (G0 P0)×P1×G3),o.ExactDict/\o.data= .dict es ep/\Paired vK xs ys/\es.toList=ys.map (IR (Bn P w))
def ο (xs:KT2)(o:Obj)(p:P1):HO:=match o.data with
 | .dict _ ep=>Jc p ep xs
 |_=> .own 0
def UF (kx vx:T8)(env:Env)(acc:G3):Sem Unit:=do
 let kv <-A0 kx env
 let vv <-aF [kv] (A0 vx env)
 match acc with
 | .ref d=>do
  cV {kx.pos with endLine:=vx.pos.endLine,endCol:=vx.pos.endCol}
  aF [kv,vv] (dictSet d kv vv)
 |_=>unsupported "internal:dictcomp"
def CY (tk tv:TE):TMG KT2:=λσ H xs Q=>tk σ H λy H1=>tv σ H1 λv H2=> ∃b T,y= .ref b/\QP H2 T b/\(∀x∈xs,QP H2 x.1 x.2.1)/\T ∉ xs.map (·.1)/\xs.length<999/\Q (xs++ [(T,b,v)]) H2
variable {kx vx:T8}
theorem Qj {k:G7}{D:P1}{tk tv:TE}(hr:ß k X.A)(hx:X.xe=λ_ _=>False)(hk:PE X kx tk)(hv:PE X vx tv):EO X (λ_=>True) (Hk X.prog X.w) D (UF kx vx X.env (.ref D)) (CY tk tv):=by
 rintro À s σ H xs o Q I _ ⟨few,nd,es,ep,ys,ox,od,pr,he⟩ DX cD pD h;have q:=hk _ s σ H _ I h;rw [hx] at q;unfold UF;refine wpAny_bind (M1 q (λy s1 ⟨yv,H1,I1,r1,q1⟩=> ?_) λ_ _ z=>z);have q:=hv _ s1 σ H1 _ I1 q1;rw [hx] at q;refine wpAny_bind (O0 (M1 q (λv s2 ⟨vv,H2,I2,r2,b,T,e,hT,hks,no,lf,q2⟩=> ?_) λ_ _ z=>z));subst e;cases r1;have zD:=I2.pin (D,o) (D3 _ (B7 _ P6));have X0G:Inv X À σ H2 s2:=I2.pins_of λp hp=>I2.pin p (D3 _ (D3 _ hp))
 obtain⟨k1,k2,k3⟩:=jS pr;have dd:s2.heap.DictOfH (Bn X.prog X.w) D ys:=⟨o,es,ep,zD.1,ox,od,he,λy hy=>by
  obtain⟨x,hx,e1,e2⟩:=k3 y hy;have:=Zp I2 x.1 x.2.1 (hks x hx);rw [e1,e2] at this;exact this,by rw [<-k1];exact nd⟩
 have none_:dL ys T=none:=by
  unfold dL;rw [bH,Q8];intro y hy z;exact no (by rw [k1];exact R9.mpr ⟨y,hy,C4 z⟩)
 refine wpAny_bind (W4 (O0 (wpAny_dictSet_heap (knd:=Bn X.prog X.w) (hsz:=by rw [<-k2];exact S5 (M5 few) (by decide)) (by have:=hr.un;show X.A.units+8<cLine;omega) (Zp I2 T b hT) dd λh' dd' sb=> ?_)));rw [IK none_] at dd';obtain⟨o',Ħ,û,e',x',d',l',_,_⟩:=dd';have I11:Inv X À σ H2 {s2 with heap:=h',toks:=s2.toks+(Bn X.prog X.w).draws T}:=X0G.turned (it:=D) (λb o hb e=>sb.extBut b o hb e) zD.2.1 zD.2.2.1 (.inl DX) cD pD;refine⟨xs++ [(T,b,vv)],o',H2,⟨by rw [P2];exact qR lf,?_,Ħ,û,_,x',d',pr.snoc ⟨rfl,rfl,r2⟩,l'⟩,I11.pins_of λp hp=> ?_,q2⟩
 ·rw [R1];refine K9.mpr ⟨nd,by simp,λx hx y hy z=> ?_⟩;rw [G9.mp hy] at z;have z:x=T:=z;exact no (z ▸ hx)
 ·rcases D5.mp hp with z|z
  ·rcases G9.mp z with rfl
   exact⟨e',zD.2.1,zD.2.2.1,zD.2.2.2.1,λv z=>by rw [d'] at z;cases z⟩
  ·exact I11.pin p (D3 _ z)
variable {iter:T8}{ifs:G0 T8}{scope:U2}
theorem Qk {P:T7}{w:C1}{rest:G0 Z4}{pos:Pos}:δ P w (.DictComp kx vx (⟨tg,iter,ifs,0⟩::rest) scope pos) ⟨tg,iter,ifs,0⟩ rest xP {cls:= .type "dict",data:= .dict #[]} where
 cl:=rfl
 quiet:=λ_ _ _=>rfl
 den:=λ_ _ _=>rfl
 under:=λ_ _ _ _=>rfl
 start:=λ{A R s it acc env} h0 h=>gE (oO (by
  unfold compStart;show D9 (S2 P w) A (ask >>= _) _ _ s;exact wpAny_bind (lE (wpAny_ite (Vt (λ_=>wpAny_bind (G8 (G8 ⟨rfl,h0⟩))) λ_=>wpAny_bind (bF (wpAny_bind (W4 (wpAny_bind (M1 h (λ_ _ q=>G8 ⟨rfl,q⟩) λ_ _ q=>q))))))))))
 live:=rfl
 made:=λ{A Q E s} q=>by
  unfold xP;exact O3 q
theorem KP {k:G7}{pos:Pos}{js:G0 G7}{wi:TI}{g:TG}{tt:TT}{tk tv:TE}(hr:ß k X.A)(hc:X.calm=true)(S:Ì X scope js)(hi:PI X tg iter wi)
 (hg: ∀X',jh X scope X'->PG X' tg g)(ht: ∀X',jh X scope X'->ē X' ifs tt)(hk: ∀X',jh X scope X'->PE X' kx tk)(hv: ∀X',jh X scope X'->PE X' vx tv)
 (hs: ∀x,T5 iter X.env x=pure x:=by intro _;rfl):PE X (.DictComp kx vx [⟨tg,iter,ifs,0⟩] scope pos) (tCG (λ_=>True) (Hk X.prog X.w) ο [] js wi g tt (CY tk tv)):=by
 intro À s σ H Q I h;show D9 _ _ (fV (.DictComp kx vx [⟨tg,iter,ifs,0⟩] scope pos) scope X.env _ xP false (A0 iter X.env)) _ _ s;exact RF (ho:=ο) (use:=none) hc S hi Qk ⟨by decide,e7,#[],0,[],⟨rfl,rfl,rfl⟩,rfl,.nil,rfl⟩ (λa o ⟨_,_,_,_,_,_,e,_⟩ v z=>by rw [e] at z;cases z) (λ{a o H h p} lo _ ⟨few,nd,es,ep,ys,ox,od,pr,he⟩ e=>by
  unfold ο;rw [od];exact⟨⟨lo,S5 (M5 few) (by decide),ys,pr,o,es,e,ox,od,he⟩,⟨_,e⟩,λh1 h2 ⟨a1,a2,ý,Ν,o',Ħ,ho,ex,hd,he⟩ ke=>⟨a1,a2,ý,Ν,o',Ħ,ke o' ho,ex,hd,he⟩⟩) hg ht (UF kx vx) (λ_ _ _=>rfl) (λX' hX D=>by
   obtain⟨C,s₀,H₀,ex,e⟩:=hX;have z:=hk X' ⟨C,s₀,H₀,ex,e⟩;have z2:=hv X' ⟨C,s₀,H₀,ex,e⟩;subst e;exact Qj (X:=yW X scope C s₀ H₀ ex) hr rfl z z2) hs I h
  λD C H' s' m hn hk _ _ _ _ _ _ q=>⟨m,hn,λh' hs'=>⟨.ref D,H',hk h' hs',rfl,q⟩⟩
def dDC (bind:D->SD->SD->Prop)(js:G0 G7)(ti:TID)(tt:TTD)(tk tv:TED):TED:=λσ h Q=>ti σ h λj h1=> ∃ (n:G7) (W:G7->G0 (G0 (G0 P0)×D)->HD->Prop),W 0 [] h1/\ ∀i kv h',W i kv h'->kv.length<999/\(kv.map (·.1)).Nodup/\
 ∃ds,j h'=some ds/\ds.length<=n/\(ds.length<=i-> ∀a ep,h'.dc a=none->Q (.dct a) (Bj h' a (.tk ep kv)))/\
  ∀d,ds[i]? =some d-> ∃Ý,bind d (jL js σ) Ý/\tt Ý h' λb h3=>if b=true then tk Ý h3 λy h4=>tv Ý h4 λv h5=> ∃T h6,y=jg T/\T ∉ kv.map (·.1)/\Sub h6 h5/\W (i+1) (kv++ [(T,v)]) h6 else ∃h5,Sub h5 h3/\W (i+1) kv h5
theorem jdc {k i : G7} {x : Str} {p pos : Pos} {js : G0 G7} {ti : TID} {tt : TTD} {tk tv : TED} (hr : ß k X.A) (hc : X.calm = true) (S : Ì X scope js) (hi : JI X (.Name x p) iter ti) (hj : i ∈ js) (hN : X.N.Nodup) (hx : X.N[i]? = some x) (hl : scope.names.lookup x = some .local ∨ scope.names.lookup x = some .cell)
    (ht : ∀ X', jh X scope X' → ē X' ifs (LT X'.K tt)) (hk : ∀ X', jh X scope X' → JE X' kx tk) (hv : ∀ X', jh X scope X' → JE X' vx tv) (hs : ∀ x, T5 iter X.env x = pure x := by intro _; rfl) :
    JE X (.DictComp kx vx [⟨.Name x p, iter, ifs, 0⟩] scope pos) (dDC (bN i) js ti tt tk tv) :=
  ⟨(KP (g := yn i) (tt := LT X.K tt) (tk := LE X.K tk) (tv := LE X.K tv) hr hc S hi.to (fun X' hX => by obtain ⟨C, s₀, H₀, ex, rfl⟩ := hX; exact wq hN hx hl) (fun X' hX => by have := ht X' hX; obtain ⟨C, s₀, H₀, ex, rfl⟩ := hX; exact this) (fun X' hX => by have := (hk X' hX).to; obtain ⟨C, s₀, H₀, ex, rfl⟩ := hX; exact this) (fun X' hX => by have := (hv X' hX).to; obtain ⟨C, s₀, H₀, ex, rfl⟩ := hX; exact this) hs).imp
    fun σ H Q ⟨Æ, h, Qd, rs, rh, q, post⟩ => by
      refine ⟨Æ, h, _, rs, rh, q, fun j J h1 H1 k1 Í jo ⟨n, W, w0, turn⟩ => ?_⟩
      refine ⟨fun i m xs H' => m = n - i ∧ Kept H1 H' ∧ ∃ h' kv, kv.map (·.1) = xs.map (·.1) ∧ Á X.K H' (kv.map (·.2)) (xs.map (·.2.2)) ∧ (∀ x ∈ xs, Ê X.K H' (jg x.1) (.ref x.2.1)) ∧ É X.K h' H' ∧ W i kv h', ⟨n - 0, rfl, .refl _, h1, [], rfl, rfl, (fun y hy => nomatch hy), Í, w0⟩, ?_⟩
      rintro i m xs H' ⟨rfl, kp, h', kv, ek, rv, ry, Ĕ, w⟩
      obtain ⟨hz, nd, ds, ej, hn, stop, go⟩ := turn i _ h' w
      have len : kv.length = xs.length := by have := congrArg K8 ek; rwa [G1, G1] at this
      have Ź := jo H' h' kp Ĕ ds ej i
      have kk : Kept H H' := k1.trans kp
      refine ⟨trivial, ?_⟩
      by_cases hi : i < ds.length
      · obtain ⟨g1, y1⟩ := Ź.1 ds[i] (G2 hi)
        refine .inr ⟨g1, fun x Ġ y => ?_⟩
        obtain ⟨k2, ó, r2⟩ := y1 x Ġ y
        obtain ⟨ê, bd, q2⟩ := go ds[i] (G2 hi)
        refine BN hj σ Æ ê Ġ ds[i] x _ (((rs.mono (kk.trans k2))).clear js) r2 bd fun Ý ag ğ => ⟨ag, ?_⟩
        refine LT.bind ğ ó q2 fun b h3 H3 k3 š Ĉ q3 => ?_
        cases b with
        | true =>
          rw [R5 rfl] at q3 ⊢
          refine LE.bind š Ĉ q3 fun d4 v4 h4 H4 k4 Š ń r4 q4 => LE.bind Š ń q4 fun d5 v5 h5 H5 k5 rs5 rh5 r5 ⟨T, h6, ed, no, sb, w5⟩ => ?_
          subst ed
          obtain ⟨b, vs, eb, _⟩ := (show ∃ a vs, v4 = .ref a ∧ H4 a = some (.tup vs) ∧ _ from r4)
          subst eb
          have kA := k2.trans (k3.trans (k4.trans k5))
          have ry5 : ∀ x ∈ xs, Ê X.K H5 (jg x.1) (.ref x.2.1) := fun y hy => (ry y hy).mono kA
          refine ⟨b, T, rfl, tab_of (r4.mono k5), fun y hy => tab_of (ry5 y hy), by rw [← ek]; exact no, by omega, n - (i + 1), by omega, rfl, kp.trans kA, h6, kv ++ [(T, d5)], by rw [R1, R1, ek]; rfl, ?_, fun y hy => ?_, rh5.sub sb, w5⟩
          · rw [R1, R1]
            exact Jj (rv.mono kA) r5
          · rcases D5.mp hy with z | z
            · exact ry5 y z
            · rw [G9.mp z]; exact r4.mono k5
        | false =>
          rw [R3 D0] at q3 ⊢
          obtain ⟨h5, sb, w5⟩ := q3
          exact ⟨n - (i + 1), by omega, rfl, kp.trans (k2.trans k3), h5, kv, ek, rv.mono (k2.trans k3), fun y hy => (ry y hy).mono (k2.trans k3), Ĉ.sub sb, w5⟩
      · refine .inl ⟨Ź.2 (aA.mp hi), fun p o hpn acc => ?_⟩
        obtain ⟨few, nd2, es, ep, ys, ox, od, pr, he⟩ := acc
        have eh : ο xs o p = Jc p ep xs := by unfold ο; rw [od]
        rw [eh]
        have kn : Kept H' (upd H' p (Jc p ep xs)) := .new hpn
        exact post (.dct p) (.ref p) _ _ (kk.trans kn) (Ĕ.newC (c := .tk ep kv) hpn ⟨xs, jw, nd, ek, fun x hx => (ry x hx).mono kn, rv.mono kn⟩) rfl (stop (aA.mp hi) p ep (Ĕ.freeC hpn))⟩
end L2
namespace HT
open PySem PyProof.Rows
section
variable {prog:T7}{w:C1}{A:B2}{E:G3->G6->Prop}{s:G6}{d:P1}{es:M8 X8}{ep:G7}{sl:M8 (P7 G3)}
abbrev DOb (es:M8 X8)(ep:G7)(sl:M8 (P7 G3)):Obj:= {cls:= .type "dict",dict:=none,data:= .dict es ep,slots:=sl}
theorem Nq (hh:A.handled=none)(I:P1)(ne:d≠I):Walks prog w A I [I,d] [I] es.size (λi v=> ∃e,es[i]? =some e/\v=e.key) (λi h=>KIt h I d i es.size ep/\h.get? d=some (DOb es ep sl)) where
 sub:=λb hb=>by simp at hb;simp [hb]
 frame:=λ_ _ _ st hk=>⟨hk I (by simp) _ st.1,hk d (by simp) _ st.2⟩
 item:=λi s Q E hi st hQ=>by
  have ty:s.TypeIs (.ref I) "dict_keyiterator" :=⟨_,st.1,rfl⟩;unfold gS;refine wpAny_bind (aU (N9 (name:=J0 "__next__") ty L7 (N5 L7 ty X4 (Zu st.1 st.2 rfl (λe h' he it2 same=>⟨_,rfl,G8 ?_⟩) λz=>by have:=U7.mp z;omega) (W3 _))));exact hQ e.key h' s.toks ⟨e,he,rfl⟩ ⟨it2,same.extBut _ _ ne st.2⟩ λb o hb e=>same.extBut b o (λz=>hb (by simp [z])) e
 done:=λs Q E st hQ=>by
  have ty:s.TypeIs (.ref I) "dict_keyiterator" :=⟨_,st.1,rfl⟩;unfold gS;refine wpAny_bind (aU (N9 (name:=J0 "__next__") ty L7 (N5 L7 ty X4 (Zu st.1 st.2 rfl (λe h' he _ _=>by have:=(U8.mp he).1;omega) λ_=>wpAny_bind (dX st.1 rfl (by simp) (L2.va (s:= {s with heap:=_}) hh λh' e grown stop=> ?_))) (W3 _))));obtain⟨o,eo,co⟩:=stop;refine wpAny_bind (Z7 (T:= "StopIteration") (b:=true) ⟨o,eo,co⟩ iG ?_);exact G8 (hQ h' s.toks λb o hb e=>grown b o ((Y7 _ _ (λz=>hb (by simp [z]))).trans e))
 self:=λ_ _ _ _ st h=>nX ⟨_,st.1,rfl,rfl⟩ h
theorem Pz (lo:(d==Q6)=false):G0U prog w "dict" d d es.size (λi v=> ∃e,es[i]? =some e/\v=e.key) (λh=>h.get? d=some (DOb es ep sl)) where
 type:=λ_ hm=>⟨_,hm,rfl⟩
 there:=λ_ hm=>⟨R7 hm,R7 hm⟩
 keep:=λ_ _ hm hk=>hk d (.inl rfl) _ hm
 notList:=by decide
 notTuple:=by decide
 hint:=λ_ _ _ _ hm hq=>xU ⟨_,hm,rfl⟩ hq
 iter:=λ_ s hh hm=>⟨_,_,(λ_ _ hq=>VQ hm lo hq),Nq hh _ (N3 (R7 hm)),⟨S4 _ rfl,P3 _ hm⟩⟩
theorem PB {acc:M8 G3}(it:ItemsOf (λi v=> ∃e,es[i]? =some e/\v=e.key) acc es.size):acc.toList=es.toList.map (·.key):=by
 refine eQ λi=> ?_
 rw [C3,D1,C3];cases e:acc[i]? with
 |some v=>
  obtain⟨x,hx,rfl⟩:=it.2 i v e;rw [hx];rfl
 |none=>
  have:es.size<=i:=by rw [<-it.1];exact U7.mp e
  rw [U7.mpr this];rfl
def Nr (s:G6)(es:M8 X8)(r:sF)(s':G6):Prop:= ∃h' tk acc c,r= .ok (.ret (.ref s.heap.objs.size))/\s'= {s with heap:=h',toks:=tk}/\(∀b o,s.heap.get? b=some o->h'.get? b=some o)/\h'.get? s.heap.objs.size=some {cls:= .type "list",dict:=none,data:= .seq acc c,slots:= #[]}/\acc.toList=es.toList.map (·.key)
theorem Vf {R:G0 G3->G6->Prop}(calm:A.handled=none)(lo:(d==Q6)=false)(sm:es.size<=sizeLine)(hd:s.heap.get? d=some (DOb es ep sl))
 (q: ∀ (h':L8) (tk:G7),(∀b o,s.heap.get? b=some o->h'.get? b=some o)->R (es.toList.map (·.key)) {s with heap:=h',toks:=tk}):D9 (S2 prog w) A (collect (.ref d)) R E s:=by
 have dl:=R7 hd;unfold collect;refine wpAny_bind (sS (lK (R:=Nr s es) (bJ F.entry_proto_collect ?_) λr s' x=> ?_))
 ·wp_walk
  refine⟨oR qA _,bJ F.entry_list_iadd ?_⟩;rw [cA qA];have hS:(s.heap.push {cls:= .type "list",data:= .seq #[]}).get? s.heap.objs.size=some {cls:= .type "list",data:= .seq #[]}:=S4 _ rfl;show D9 _ A.in1 (r9 (.ref s.heap.objs.size) (.ref d) (.ref s.heap.objs.size)) _ _ _;refine G0k (R:=Nr s es) (s:= {s with heap:=s.heap.push {cls:= .type "list",data:= .seq #[]}}) (Pz (es:=es) (ep:=ep) (sl:=sl) lo) calm (P3 _ hd) _ (U5 dl) (U5 dl) _ 0 hS (λh' tk acc c k lies items=> ?_) sm;exact⟨h',tk,acc,c,rfl,rfl,λb o e=>k b o (N3 (R7 e)) (P3 _ e),lies,PB items⟩
 ·obtain⟨h',tk,acc,c,rfl,rfl,k,lies,e⟩:=x;refine wpAny_bind (IU lies (G8 ?_));rw [e];exact q h' tk k
end
end HT
namespace L2
open PySem PySem.Spec PyProof.Rows HT PySem.SeqAt
variable {X:Cx}
theorem PC {À:G0 (P1×Obj)}{σ:St}{H:Hp}{s:G6}{a:P1}{ep:G7}{xs:KT2}(I:Inv X À σ H s)(hH:H a=some (Jc a ep xs)):(a==Q6)=false/\ ∃ (sl:M8 (P7 G3)) (es:M8 X8),s.heap.get? a=some (DOb es ep sl)/\es.toList.map (·.key)=xs.map (λx=>F6 x.2.1)/\es.size=xs.length:=by
 obtain⟨lo,sl,es,ys,hd,pr,he,hn⟩:=yG I hH;refine⟨lo,sl,es,hd,?_,hn⟩;rw [he,R4];have go: ∀ {xs:KT2} {ys:G0 (G0 (G0 P0)×P1×G3)},Paired vK xs ys->ys.map ((·.key)∘λx:G0 (G0 P0)×P1×G3=>(⟨Yh x.1,.ref x.2.1,x.2.2⟩:X8))=xs.map (λx=>F6 x.2.1):=λp=>by
  induction p with
  |nil=>rfl
  |cons r _ ih=>rw [M7,M7,ih,r.2.1];rfl
 exact go pr
theorem UG {k:G7}(hc:X.calm=true)(hr:ß k X.A):è X (.builtin "sorted") (λxs H Q=> ∃ (a:P1) (ep:G7) (ks:KT2),xs= [.ref a]/\H a=some (Jc a ep ks)/\(∀x∈ks,QP H x.1 x.2.1/\x.1≠ [])/\(ks.map (·.1)).Nodup/\ks.length<1000/\
 ∀ (q:P1) (qs:G0 CK),H q=none->qs.Perm (ks.map λx=>(x.2.1,x.1))->(qs.map (·.2)).Pairwise (λx y=>zj x y=true)->Q (.ref q) (upd H q (.lst (qs.map λp=>V.ref p.1)))):=by
 intro À s σ H xs us Q I r h;obtain⟨a,ep,ks,rfl,hH,ht,nd,few,q⟩:=h;obtain⟨u,rfl,ru⟩:=Vc r;cases ru;have hu:X.A.in1.in1.units+16<cLine:=by
  have:=hr.un;show X.A.units+1+1+16<cLine;omega
 obtain⟨lo,sl,es,hd,ek,en⟩:=PC I hH;have sm:es.size<=sizeLine:=by rw [en];exact S5 (M5 few) (by decide)
 refine Calls.call_function_entry kind_sorted plain_sorted entry_sorted (args_sorted1 _) (wpAny_bind (G8 (wpAny_bind (Vf (I.ok.hd hc) lo sm hd λh1 tk kept=> ?_))));rw [ek];have em:ks.map (λx=>F6 x.2.1)=(ks.map λx=>((x.2.1,x.1):CK)).map λp=>F6 p.1:=by rw [R4];rfl
 rw [em];have IB1: ∀p∈ks.map λx=>((x.2.1,x.1):CK),IB X.prog X.w s.heap (.ref p.1) p.2:=λp hp=>by
  obtain⟨x,hx,rfl⟩:=R9.mp hp;exact⟨_,rfl,Zp I _ _ (ht x hx).1,(ht x hx).2⟩
 have lz:((ks.map λx=>((x.2.1,x.1):CK)).map λp=>F6 p.1).length<=sizeLine:=by rw [G1,G1];omega
 have nd2:((ks.map λx=>((x.2.1,x.1):CK)).map (·.2)).Nodup:=by rw [R4];exact nd
 revert IB1 lz q nd2;generalize (ks.map λx=>((x.2.1,x.1):CK))=ps;intro q IB1 lz nd2;have fresh:(h1.push (nQ "list" (ps.map λp=>F6 p.1).toArray 0)).get? h1.objs.size=some (nQ "list" (ps.map λp=>F6 p.1).toArray 0):=S4 _ rfl;have kp: ∀h',AU {s with heap:=h1.push (nQ "list" (ps.map λp=>F6 p.1).toArray 0),toks:=tk} h1.objs.size h'->CF h1 h':=λh' p b x e=>p b x (N3 (R7 e)) (P3 _ e)
 have ks': ∀h',AU {s with heap:=h1.push (nQ "list" (ps.map λp=>F6 p.1).toArray 0),toks:=tk} h1.objs.size h'->CF s.heap h':=λh' p b x e=>kp h' p b x (kept b x e)
 have it: ∀v∈ps.map λp=>F6 p.1,∃T,IB X.prog X.w s.heap v T:=λv hv=>by
  obtain⟨p,hp,rfl⟩:=R9.mp hv;exact⟨_,IB1 p hp⟩
 refine wpAny_bind (tP (wpAny_bind (O0 (N5 slot_list_sort ⟨_,fresh,rfl⟩ entry_list_sort (CC (s:= {s with heap:=h1.push (nQ "list" (ps.map λp=>F6 p.1).toArray 0),toks:=tk}) (κ:=G0u false) (U:=λx=> ∃T,IB X.prog X.w s.heap x.1 T) (R:=λx y=>zj (Qe X.prog X.w s.heap x.1) (Qe X.prog X.w s.heap y.1)) fresh lz
  (λh2 h' p=>CS (s:= {s with heap:=h',toks:=tk}) h2 (λv hv=>(it v hv).imp λT z=>z.keeps (ks' h' p)) ⟨rfl,tk,rfl⟩) (λh' p=>CT hu (ks' h' p)) (Ao _) it λout c tk' h' p e1 e2 e3=>⟨_,rfl,?_⟩) (args_list_sort _)))) lz)
 obtain⟨zs,pz,rfl⟩:=XT e2;have inz: ∀z∈zs,z∈ps:=λz hz=>pz.mem_iff.mp hz
 have I1:Inv X À σ H {s with heap:=h1}:=I.kept (t':=s.toks) kept;have vv: ∀l:G0 CK,È (l.map λp=>V.ref p.1) (l.map λp=>F6 p.1):=λl=>by
  induction l with
  |nil=>exact .nil
  |cons z l ih=>exact .cons rfl ih
 refine G8 ⟨_,rfl,.ref _,_,I1.laid (t':=tk') (o:= .lst (zs.map λp=>V.ref p.1)) (kp h' p) (P5 _) ⟨?_,_,c,vv zs,e1⟩,rfl,q _ zs (I1.hok.fresh (P5 _)) pz ?_⟩
 ·rw [G1] at lz ⊢;rw [pz.length_eq];exact lz
 ·have nd3:(zs.map (·.2)).Nodup:=(pz.map (·.2)).nodup_iff.mpr nd2;unfold oW at nd3;rw [Y0,Y0] at e3;rw [Y0] at nd3 ⊢;refine(e3.and nd3).imp_of_mem λ{y z} hy hz ⟨e,ne⟩=> ?_
  dsimp only at e;rw [(IB1 y (inz y hy)).told,(IB1 z (inz z hz)).told] at e;rcases Uy y.2 z.2 with w|w|w
  ·exact absurd w ne
  ·exact w
  ·rw [w] at e;cases e
def CZ:RDn:=λds h Q=> ∃ (a:P1) (ep:G7) (kv:G0 (G0 (G0 P0)×D)),ds= [.dct a]/\h.dc a=some (.tk ep kv)/\kv.length<1000/\(∀p∈kv,p.1≠ [])/\ ∀ (q:P1) (ks:G0 (G0 (G0 P0))),h q=none->ks.Perm (kv.map (·.1))->ks.Pairwise (λx y=>zj x y=true)->Q (.lst q) (wg h q (ks.map jg))
theorem Gu {k:G7}(hc:X.calm=true)(hr:ß k X.A):JC X (.builtin "sorted") CZ:=(UG hc hr).imp λxs H Q ⟨ds,h,Qd,r,rh,⟨a,ep,kv,e,hd,few,ne,q⟩,p⟩=>by
 subst e;obtain⟨v,e,r1⟩:=jQ r;cases (show v= .ref a from r1);subst e;obtain⟨ks,hH,nd,ek,tv,rv⟩:=(show ∃xs:KT2,_ from rh.dc a _ hd);have len:ks.length=kv.length:=by have:=congrArg K8 ek;rw [G1,G1] at this;omega
 refine⟨a,ep,ks,rfl,hH,λx hx=>⟨tab_of (tv x hx),?_⟩,by rw [<-ek];exact nd,by omega,λc qs hcn pm srt=> ?_⟩
 ·have hm:x.1∈kv.map (·.1):=by rw [ek];exact gM (f:=(·.1)) hx
  obtain⟨p,hp,e⟩:=R9.mp hm;rw [<-e];exact ne p hp
 ·have rq: ∀x∈qs,Ê X.K H (jg x.2) (.ref x.1):=λx hx=>by
   obtain⟨y,hy,rfl⟩:=R9.mp (pm.mem_iff.mp hx);exact tv y hy
  refine p (.lst c) _ _ _ (.new hcn) (rh.newL hcn (Gs rq)) ⟨rfl,_,jw⟩ (q c (qs.map (·.2)) (rh.free hcn) ?_ srt);rw [ek];have:=pm.map (·.2)
  rwa [R4] at this
def ltE:RD2:=λx y h Q=> ∃p q,ģ h x p/\ģ h y q/\p.canLay0=true/\q.canLay0=true/\alk p q=true/\p.depth<=60/\Q (.bl (ltP p q)) h
theorem To (hu:X.A.units+64<cLine):ô X (N8 .Lt) ltE:=by
 intro À s σ H x y v u Q I rx ry h;obtain⟨dx,dy,h,Qd,r1,r2,rh,⟨p,q,t1,t2,c1,c2,al,dp,qq⟩,post⟩:=h;obtain⟨as,a1⟩:=wA I rh t1 r1 rx;obtain⟨bs,b1⟩:=wA I rh t2 r2 ry;exact(Ux p q X.A s v u as bs a1 b1 c1 c2 al (by omega) X.prog X.w _ _ ⟨.bl _,H,I,rfl,post (.bl _) _ _ _ (.refl H) rh rfl qq⟩:D9 (S2 X.prog X.w) X.A (i7 .Lt v u) (EP X À σ Q) X.xe s)
end L2
namespace L2
open PySem PySem.Spec PyProof.Rows HT
variable {X:Cx}
theorem KQ {i:G7}{js:G0 G7}{ti:TID}{tt:TTD}{tk tv:TED}(hj:i∈js): ∀σ H Q,LE X.K (dDC (bN i) js ti tt tk tv) σ H Q->tCG (λ_=>True) (Hk X.prog X.w) ο [] js (LI X.K ti) (yn i) (LT X.K tt) (CY (LE X.K tk) (LE X.K tv)) σ H Q:=
 λσ H Q ⟨Æ,h,Qd,rs,rh,q,post⟩=>by
  refine⟨Æ,h,_,rs,rh,q,λj J h1 H1 k1 Í jo ⟨n,W,w0,turn⟩=> ?_⟩;refine⟨λi m xs H'=>m=n-i/\Kept H1 H'/\ ∃h' kv,kv.map (·.1)=xs.map (·.1)/\Á X.K H' (kv.map (·.2)) (xs.map (·.2.2))/\(∀x∈xs,Ê X.K H' (jg x.1) (.ref x.2.1))/\É X.K h' H'/\W i kv h',⟨n-0,rfl,.refl _,h1,[],rfl,rfl,(λy hy=>nomatch hy),Í,w0⟩,?_⟩;rintro i m xs H' ⟨rfl,kp,h',kv,ek,rv,ry,Ĕ,w⟩;obtain⟨hz,nd,ds,ej,hn,stop,go⟩:=turn i _ h' w;have len:kv.length=xs.length:=by have:=congrArg K8 ek;rwa [G1,G1] at this
  have Ź:=jo H' h' kp Ĕ ds ej i;have kk:Kept H H':=k1.trans kp;refine⟨trivial,?_⟩
  by_cases hi:i<ds.length
  ·obtain⟨g1,y1⟩:=Ź.1 ds[i] (G2 hi);refine .inr ⟨g1,λx Ġ y=> ?_⟩;obtain⟨k2,ó,r2⟩:=y1 x Ġ y;obtain⟨ê,bd,q2⟩:=go ds[i] (G2 hi);refine BN hj σ Æ ê Ġ ds[i] x _ (((rs.mono (kk.trans k2))).clear js) r2 bd λÝ ag ğ=>⟨ag,?_⟩
   refine LT.bind ğ ó q2 λb h3 H3 k3 š Ĉ q3=> ?_
   cases b with
   |true=>
    rw [R5 rfl] at q3 ⊢;refine LE.bind š Ĉ q3 λd4 v4 h4 H4 k4 Š ń r4 q4=>LE.bind Š ń q4 λd5 v5 h5 H5 k5 rs5 rh5 r5 ⟨T,h6,ed,no,sb,w5⟩=> ?_
    subst ed;obtain⟨b,vs,eb,_⟩:=(show ∃a vs,v4= .ref a/\H4 a=some (.tup vs)/\_ from r4);subst eb;have kA:=k2.trans (k3.trans (k4.trans k5));have ry5: ∀x∈xs,Ê X.K H5 (jg x.1) (.ref x.2.1):=λy hy=>(ry y hy).mono kA
    refine⟨b,T,rfl,tab_of (r4.mono k5),λy hy=>tab_of (ry5 y hy),by rw [<-ek];exact no,by omega,n-(i+1),by omega,rfl,kp.trans kA,h6,kv++ [(T,d5)],by rw [R1,R1,ek];rfl,?_,λy hy=> ?_,rh5.sub sb,w5⟩
    ·rw [R1,R1];exact Jj (rv.mono kA) r5
    ·rcases D5.mp hy with z|z
     ·exact ry5 y z
     ·rw [G9.mp z];exact r4.mono k5
   |false=>
    rw [R3 D0] at q3 ⊢;obtain⟨h5,sb,w5⟩:=q3;exact⟨n-(i+1),by omega,rfl,kp.trans (k2.trans k3),h5,kv,ek,rv.mono (k2.trans k3),λy hy=>(ry y hy).mono (k2.trans k3),Ĉ.sub sb,w5⟩
  ·refine .inl ⟨Ź.2 (aA.mp hi),λp o hpn acc=> ?_⟩;obtain⟨few,nd2,es,ep,ys,ox,od,pr,he⟩:=acc;have eh:ο xs o p=Jc p ep xs:=by unfold ο;rw [od]
   rw [eh];have kn:Kept H' (upd H' p (Jc p ep xs)):= .new hpn;exact post (.dct p) (.ref p) _ _ (kk.trans kn) (Ĕ.newC (c:= .tk ep kv) hpn ⟨xs,jw,nd,ek,λx hx=>(ry x hx).mono kn,rv.mono kn⟩) rfl (stop (aA.mp hi) p ep (Ĕ.freeC hpn))
theorem Fa {k:G7}{kx vx iter tg:T8}{ifs:G0 T8}{scope:U2}{pos pos' ï:Pos}{x:Str}{js:G0 G7}{wi:TI}{g g':TG}{tt:TT}{tk tv:TE}(hr:ß k X.A)(hc:X.calm=true)(S:Ì X scope js)(hi:PI X tg iter wi)
 (hg: ∀X',jh X scope X'->PG X' tg g)(ht: ∀X',jh X scope X'->ē X' ifs tt)(hk: ∀X',jh X scope X'->PE X' kx tk)(hv: ∀X',jh X scope X'->PE X' vx tv)
 (hg':PG X (.Name x pos') g')(hsw:V3 (.DictComp kx vx [⟨tg,iter,ifs,0⟩] scope pos) (some (.Name x pos')) ï.line X.env=pure true)
 (hs: ∀x,T5 iter X.env x=pure x:=by intro _;rfl):PS X (.Assign [.Name x pos'] (.DictComp kx vx [⟨tg,iter,ifs,0⟩] scope pos) ï) (Bv (tCG (λ_=>True) (Hk X.prog X.w) ο [] js wi g tt (CY tk tv)) g'):=by
 intro À s σ H Dn I h;rw [mQ _ _ _ _ hsw];refine wpAny_bind (W4 (wpAny_bind ?_));show D9 _ X.A (do let _ <-fV (.DictComp kx vx [⟨tg,iter,ifs,0⟩] scope pos) scope X.env _ xP false (A0 iter X.env) (some (cX (.Name x pos') X.env))) _ _ s;refine wpAny_bind (M1 (RF (ho:=ο) (use:=some (cX (.Name x pos') X.env)) (Qv:=λ_ s'=>SP X À Dn .next s') hc S hi Qk ⟨by decide,e7,#[],0,[],⟨rfl,rfl,rfl⟩,rfl,.nil,rfl⟩ (λa o ⟨_,_,_,_,_,_,e,_⟩ v z=>by rw [e] at z;cases z) (λ{a o H h p} lo _ ⟨few,nd,es,ep,ys,ox,od,pr,he⟩ e=>by
  unfold ο;rw [od];exact⟨⟨lo,S5 (M5 few) (by decide),ys,pr,o,es,e,ox,od,he⟩,⟨_,e⟩,λh1 h2 ⟨a1,a2,ý,Ν,o',Ħ,ho,ex,hd,he⟩ ke=>⟨a1,a2,ý,Ν,o',Ħ,ke o' ho,ex,hd,he⟩⟩) hg ht (UF kx vx) (λ_ _ _=>rfl) (λX' hX D=>by
   obtain⟨C,s₀,H₀,ex,e⟩:=hX;have z:=hk X' ⟨C,s₀,H₀,ex,e⟩;have z2:=hv X' ⟨C,s₀,H₀,ex,e⟩;subst e;exact Qj (X:=yW X scope C s₀ H₀ ex) hr rfl z z2) hs I h ?_) (λ_ s' hq=>G8 (G8 hq)) λ_ _ e=>e)
 intro D C H' s' m hn hk HC nL nf sz ε X0K q;show D9 _ X.A (cX (.Name x pos') X.env (.ref D)) _ _ s';obtain⟨o,es,ep,ho,hd,hr⟩:=id hn;have I1:Inv X À σ H' s':=hk s'.heap (pN ..);have I2:Inv X (À++ [(C,o)]) σ H' s':=I1.pins_of λp hp=>by
  rcases D5.mp hp with z|z
  ·exact I1.pin p (D3 _ z)
  ·rcases G9.mp z with rfl
   exact⟨ho,HC,nL,nf,λv z=>by rw [hd] at z;cases z⟩
 refine M1 (hg' _ s' σ H' (.ref D) (.ref D) _ I2 rfl q) (λ_ s3 ⟨ć,H3,I3,q3⟩=> ?_) λ_ _ z=>z
 have pC:=I3.pin (C,o) (D3 _ (D3 _ P6));refine⟨m,hn.at' λo' e'=> ?_,λh' hs'=> ?_⟩
 ·rw [ho] at e';cases e';exact pC.1
 ·exact⟨ć,H3,(I3.unpinned).turned (t':=s3.toks) (it:=C) (λb o hb e=>hs'.extBut b o hb e) pC.2.1 nL (.inr sz) ε X0K,q3⟩
theorem Tp {n i k : G7} {x y : Str} {p py pos ï : Pos} {kx vx iter : T8} {ifs : G0 T8} {scope : U2} {js : G0 G7} {ti : TID} {tt : TTD} {tk tv : TED} (hr : ß n X.A) (hc : X.calm = true) (hN : X.N.Nodup) (hk : X.N[k]? = some y) (hy : Loc X.env.scope y) (S : Ì X scope js) (hi : JI X (.Name x p) iter ti) (hj : i ∈ js) (hx : X.N[i]? = some x) (hl : scope.names.lookup x = some .local ∨ scope.names.lookup x = some .cell)
    (ht : ∀ X', jh X scope X' → ē X' ifs (LT X'.K tt)) (hkx : ∀ X', jh X scope X' → JE X' kx tk) (hvx : ∀ X', jh X scope X' → JE X' vx tv)
    (hsw : V3 (.DictComp kx vx [⟨.Name x p, iter, ifs, 0⟩] scope pos) (some (.Name y py)) ï.line X.env = pure true := by rfl) (hf : X.fn y = true ∨ X.env.scope.names.lookup y = some .local := by first | exact .inl rfl | exact .inr rfl | assumption) (hs : ∀ x, T5 iter X.env x = pure x := by intro _; rfl) :
    JS X (.Assign [.Name y py] (.DictComp kx vx [⟨.Name x p, iter, ifs, 0⟩] scope pos) ï) (Bk k (dDC (bN i) js ti tt tk tv)) :=
  ⟨(Fa (g := yn i) (tt := LT X.K tt) (tk := LE X.K tk) (tv := LE X.K tv) hr hc S hi.to (fun X' hX => by obtain ⟨C, s₀, H₀, ex, rfl⟩ := hX; exact wq hN hx hl) (fun X' hX => by have := ht X' hX; obtain ⟨C, s₀, H₀, ex, rfl⟩ := hX; exact this) (fun X' hX => by have := (hkx X' hX).to; obtain ⟨C, s₀, H₀, ex, rfl⟩ := hX; exact this) (fun X' hX => by have := (hvx X' hX).to; obtain ⟨C, s₀, H₀, ex, rfl⟩ := hX; exact this) (vF hN hk hy hf) hsw hs).imp
    fun D σ H h => by
      obtain ⟨Æ, hd, Qd, rs, rh, t, p⟩ := Pd (K := X.K) D σ H h
      exact KQ hj σ H _ ⟨Æ, hd, Qd, rs, rh, t, p⟩⟩
theorem Gv (hc:X.calm=true):è X (.type "list") (λxs H Q=> ∃ (a:P1) (ep:G7) (ks:KT2),xs= [.ref a]/\H a=some (Jc a ep ks)/\ks.length<1000/\ ∀q:P1,H q=none->Q (.ref q) (upd H q (.lst (ks.map λx=>V.ref x.2.1)))):=by
 intro À s σ H xs us Q I r h;obtain⟨a,ep,ks,rfl,hH,few,q⟩:=h;obtain⟨u,rfl,ru⟩:=Vc r;cases ru;obtain⟨lo,sl,es,hd,ek,en⟩:=PC I hH;have sm:es.size<=sizeLine:=by rw [en];exact S5 (M5 few) (by decide)
 refine G0D (Pz (es:=es) (ep:=ep) (sl:=sl) lo) (I.ok.hd hc) hd sm λh1 tk acc c kept lies items=> ?_
 have ea:=PB items;rw [ek] at ea;have vv: ∀l:KT2,È (l.map λx=>V.ref x.2.1) (l.map λx=>F6 x.2.1):=λl=>by
  induction l with
  |nil=>exact .nil
  |cons z l ih=>exact .cons rfl ih
 refine⟨.ref _,_,I.laid (t':=tk) (o:= .lst (ks.map λx=>V.ref x.2.1)) kept (P5 _) ⟨?_,_,c,vv ks,?_⟩,rfl,q _ (I.hok.fresh (P5 _))⟩
 ·rw [G1];exact S5 (M5 few) (by decide)
 ·rw [<-ea,nU];exact lies
def Tq:RDn:=λds h Q=> ∃ (a:P1) (ep:G7) (kv:G0 (G0 (G0 P0)×D)),ds= [.dct a]/\h.dc a=some (.tk ep kv)/\kv.length<1000/\ ∀q:P1,h q=none->Q (.lst q) (wg h q (kv.map λp=>jg p.1))
theorem Nt (hc:X.calm=true):JC X (.type "list") Tq:=(Gv hc).imp λxs H Q ⟨ds,h,Qd,r,rh,⟨a,ep,kv,e,hd,few,q⟩,p⟩=>by
 subst e;obtain⟨v,e,r1⟩:=jQ r;cases (show v= .ref a from r1);subst e;obtain⟨ks,hH,nd,ek,tv,rv⟩:=(show ∃xs:KT2,_ from rh.dc a _ hd);have len:ks.length=kv.length:=by have:=congrArg K8 ek;rw [G1,G1] at this;omega
 refine⟨a,ep,ks,rfl,hH,by omega,λc hcn=> ?_⟩;have rl:=Gs (K:=X.K) (H:=H) (qs:=ks.map λx=>((x.2.1,x.1):CK)) λx hx=>by
  obtain⟨y,hy,rfl⟩:=R9.mp hx;exact tv y hy
 rw [R4,R4,R4] at rl;have e2:kv.map (λp=>jg p.1)=ks.map λx=>jg x.1:=by
  have:=congrArg (IA jg) ek
  rwa [R4,R4] at this
 refine p (.lst c) _ _ _ (.new hcn) (rh.newL hcn (show Á X.K H (kv.map λp=>jg p.1) (ks.map λx=>V.ref x.2.1) from ?_)) ⟨rfl,_,jw⟩ (q c (rh.free hcn));rw [e2];exact rl
end L2
namespace L2
open PySem PySem.Spec PyProof.Rows
section
variable {n k:G7}{Ts:G0 (G0 (G0 P0))}{s t:Fnd×G0 (G0 G7)}{w:G0 G7}
theorem FX {α β:Type}: ∀ {kv:G0 (α×β)} {p q:α×β},(kv.map (·.1)).Nodup->p∈kv->q∈kv->p.1=q.1->p=q
 |x::kv,p,q,nd,hp,hq,e=>by
  obtain⟨a,b⟩:=K0.mp nd;rcases T3.mp hp with u|u<;>rcases T3.mp hq with v|v
  ·rw [u,v]
  ·exact absurd (R9.mpr ⟨q,v,(e.symm.trans (congrArg Prod.fst u))⟩) a
  ·exact absurd (R9.mpr ⟨p,u,(e.trans (congrArg Prod.fst v))⟩) a
  ·exact FX b u v e
theorem Fb {α:Type}{kv:G0 (G0 (G0 P0)×α)}{T:G0 (G0 P0)}(h:(zJ kv T).isSome=true): ∃p∈kv,p.1=T:=by
 unfold zJ at h;cases e:kv.find? λp=>decide (p.1=T) with
 |none=>rw [e] at h;cases h
 |some p=>exact⟨p,K5 e,C4 (bL (p:=λp:G0 (G0 P0)×α=>decide (p.1=T)) e)⟩
variable {p:G0 (G0 P0)×G0 G7}
theorem Fc (h:p∈s.1):p∈(ņ n Ts s w).1:=by
 cases z:(zJ s.1 (Ó n Ts w)).isSome with
 |true=>rw [ZU z];exact h
 |false=>rw [ZV z];exact B7 _ h
theorem Tr {v:G0 G7}(h:v∈s.2):v∈(ņ n Ts s w).2:=by
 cases z:(zJ s.1 (Ó n Ts w)).isSome with
 |true=>rw [ZU z];exact h
 |false=>rw [ZV z];exact B7 _ h
theorem As: ∃p∈(ņ n Ts s w).1,p.1=Ó n Ts w:=by
 cases z:(zJ s.1 (Ó n Ts w)).isSome with
 |true=>rw [ZU z];exact Fb z
 |false=>rw [ZV z];exact⟨_,D3 _ P6,rfl⟩
theorem At (h:p∈(ņ n Ts s w).1):p∈s.1\/ ∀a<Ts.length,p.2++ [a]∈(ņ n Ts s w).2:=by
 cases z:(zJ s.1 (Ó n Ts w)).isSome with
 |true=>rw [ZU z] at h;exact .inl h
 |false=>
  rw [ZV z] at h ⊢;rcases D5.mp h with x|x
  ·exact .inl x
  ·rw [G9.mp x];exact .inr λa ha=>D3 _ (R9.mpr ⟨a,S0.mpr ha,rfl⟩)
theorem YD: ∀ {ws:G0 (G0 G7)} {s:Fnd×G0 (G0 G7)},p∈s.1->p∈(ws.foldl (ņ n Ts) s).1
 | [],_,h=>h
 |_::ws,_,h=>YD (ws:=ws) (Fc h)
theorem Nu {v:G0 G7}: ∀ {ws:G0 (G0 G7)} {s:Fnd×G0 (G0 G7)},v∈s.2->v∈(ws.foldl (ņ n Ts) s).2
 | [],_,h=>h
 |_::ws,_,h=>Nu (ws:=ws) (Tr h)
theorem PD: ∀ {ws:G0 (G0 G7)} {s:Fnd×G0 (G0 G7)},w∈ws-> ∃p∈(ws.foldl (ņ n Ts) s).1,p.1=Ó n Ts w
 |v::ws,s,h=>by
  rcases T3.mp h with e|e
  ·obtain⟨p,hp,x⟩:=As (n:=n) (Ts:=Ts) (s:=s) (w:=w);exact⟨p,YD (ws:=ws) (e ▸ hp),x⟩
  ·exact PD (ws:=ws) e
theorem PF: ∀ {ws:G0 (G0 G7)} {s:Fnd×G0 (G0 G7)},p∈(ws.foldl (ņ n Ts) s).1->p∈s.1\/ ∀a<Ts.length,p.2++ [a]∈(ws.foldl (ņ n Ts) s).2
 | [],_,h=> .inl h
 |v::ws,s,h=>by
  rcases PF (ws:=ws) h with x|x
  ·rcases At x with y|y
   ·exact .inl y
   ·exact .inr λa ha=>Nu (ws:=ws) (y a ha)
  ·exact .inr x
theorem UH (l3:Ts.length<=3): ∀k,(∀w,ZF Ts w->w.length<=k-> ∃p∈(Č n Ts k).1,p.1=Ó n Ts w/\p.2.length<=w.length)/\(∀p∈(Č n Ts k).1,p.2.length=k-> ∀a<Ts.length,p.2++ [a]∈(Č n Ts k).2)
 |0=>⟨λw hw h=>absurd (X1 (nZ.mp h)) hw.1,λ_ h=>nomatch h⟩
 |k+1=>by
  obtain⟨i1,i2⟩:=UH l3 k;have b:=vL (n:=n) l3 k;have b':=vL (n:=n) l3 (k+1);have kp: ∀p∈(Č n Ts k).1,p∈(Č n Ts (k+1)).1:=λp hp=>YD (s:=((Č n Ts k).1,[])) hp
  have gt: ∀w∈(Č n Ts k).2,∃p∈(Č n Ts (k+1)).1,p.1=Ó n Ts w:=λw hw=>PD hw
  refine⟨λw hw hl=> ?_,λp hp e a ha=> ?_⟩
  ·rcases mH w.length (k+1) with c|c
   ·obtain⟨p,hp,x,y⟩:=i1 w hw (gH.mp c);exact⟨p,kp p hp,x,y⟩
   ·have el:w.length=k+1:=gI hl c;have fin: ∀v∈(Č n Ts k).2,Ó n Ts v=Ó n Ts w-> ∃p∈(Č n Ts (k+1)).1,p.1=Ó n Ts w/\p.2.length<=w.length:=λv hv e=>by
     obtain⟨p,hp,x⟩:=gt v hv;exact⟨p,hp,x.trans e,by rw [el];exact(b'.fd p hp).2.2⟩
    obtain⟨u,a,rfl⟩: ∃u a,w=u++ [a]:=⟨w.dropLast,w.getLast hw.1,(List.dropLast_concat_getLast hw.1).symm⟩;have ha:a<Ts.length:=hw.2 a (D3 _ P6);rw [P2] at el;have lu:u.length=k:=Nat.succ.inj el
    by_cases c0:u= []
    ·subst c0;have k0:k=0:=lu.symm;subst k0;exact fin [a] (R9.mpr ⟨a,S0.mpr ha,rfl⟩) rfl
    ·obtain⟨p,hp,x,y⟩:=i1 u ⟨c0,λi hi=>hw.2 i (B7 _ hi)⟩ (Q4 lu);obtain⟨f1,f2,f3⟩:=b.fd p hp;have em:Ó n Ts (p.2++ [a])=Ó n Ts (u++ [a]):=by rw [Jk f2.1,Jk c0,<-x,<-f1]
     by_cases c1:p.2.length=k
     ·exact fin _ (i2 p hp c1 a ha) em
     ·obtain⟨r,hr,x',y'⟩:=i1 (p.2++ [a]) ⟨by simp,λi hi=>by
       rcases D5.mp hi with z|z
       ·exact f2.2 i z
       ·rw [G9.mp z];exact ha⟩ (by rw [P2];show p.2.length+1<=k;omega)
      refine⟨r,kp r hr,x'.trans em,S5 y' ?_⟩;rw [P2,P2];exact nP y _
  ·rcases PF (ws:=(Č n Ts k).2) (s:=((Č n Ts k).1,[])) hp with x|x
   ·exact absurd (b.fd p x).2.2 (by omega)
   ·exact x a ha
theorem Au (n3:n<=3)(l1:1<=Ts.length)(l3:Ts.length<=3):(Č n Ts 1025).2= []:=by
 have key: ∀k,(Č n Ts k).2= []\/k+DG (Č n Ts k)<=1025:=λk=>by
  induction k with
  |zero=>exact .inr (Qc l1)
  |succ k ih=>
   rcases ih with x|x
   ·exact .inl (by rw [Qb x 1];exact x)
   ·by_cases z:(Č n Ts k).2= []
    ·exact .inl (by rw [Qb z 1];exact z)
    ·have:DG (Č n Ts (k+1))<DG (Č n Ts k):=Px (vL l3 k) n3 l3 z;exact .inr (by omega)
 rcases key 1025 with x|x
 ·exact x
 ·by_cases z:(Č n Ts 1025).2= []
  ·exact z
  ·unfold DG at x;rw [R3 z] at x;omega
theorem YE (n3:n<=3)(l1:1<=Ts.length)(l3:Ts.length<=3)(hw:ZF Ts w): ∃p∈ÿ n Ts,p.1=Ó n Ts w/\p.2.length<=w.length:=by
 rcases qB w.length 1025 with c|c
 ·obtain⟨p,hp,x,y⟩:=(UH (n:=n) l3 w.length).1 w hw (P5 _);obtain⟨r,hr,x',y'⟩:=(UH (n:=n) l3 1025).1 p.2 ((vL l3 _).fd p hp).2.1 (S5 y c);exact⟨r,hr,x'.trans ((((vL l3 _).fd p hp).1).symm.trans x),S5 y' y⟩
 ·have e:=Qb (Au n3 l1 l3) (w.length-1025);rw [show 1025+(w.length-1025)=w.length by omega] at e;obtain⟨p,hp,x⟩:=(UH (n:=n) l3 w.length).1 w hw (P5 _);rw [e] at hp;exact⟨p,hp,x⟩
theorem Ql (n3:n<=3)(l1:1<=Ts.length)(l3:Ts.length<=3){p:G0 (G0 P0)×G0 G7}(hp:p∈ÿ n Ts)(hw:ZF Ts w)(e:Ó n Ts w=p.1):p.2.length<=w.length:=by
 obtain⟨r,hr,x,y⟩:=YE (n:=n) n3 l1 l3 hw;have nd:=(wB (n:=n) l3).nd;have:r=p:=FX nd hr hp (x.trans e);exact this ▸ y
end
def Ε (m:G7):G0 G7:= [0,m%8,m / 8%8,m%8 ||| m / 8%8,m / 64,m%8 ||| m / 64,m / 8%8 ||| m / 64,m%8 ||| m / 8%8 ||| m / 64]
def spK (m:G7):G7:=(Ε m).foldl (λk x=>k ||| 1 <<< x) 0
def Ň:G0 (G7×G7×G7):= [1].map (·,1,1)++ [3,5,9,17,33,65,129].map (·,7,8)++ [11,13,35,49,69,81,131,133,137,145,161,193].map (·,12,20)++ [15,51,85,153,165,169,195,201,225].map (·,18,38)++ [139,141,163,177,197,209].map (·,6,26)++ [143,171,173,179,185,203,205,213,217,227,229,233,241].map (·,6,44)++ [175,187,207,221,243,245].map (·,6,50)++ [255].map (·,6,56)
theorem Tt:((P4 512).all λm=>(Ε m).all λx=>Z0 (spK m ||| 1 <<< x) (spK m))=true:=by decide +kernel
theorem Tu:((P4 512).all λm=>(Ε m).all λa=>(Ε m).all λb=>(Ε m).elem (a ||| b))=true:=by decide +kernel
theorem Nv:((P4 512).all λm=>Ň.any λe=>Z0 e.1 (spK m))=true:=by decide +kernel
theorem Av:(Ň.all λe=>sA ((P4 512).filter λm=>Z0 (spK m) e.1).length e.2.1)=true:=by decide +kernel
theorem Aw:(Ň.all λe=>Ň.all λf=> !Z0 (f.1 ||| e.1) e.1||Z0 f.1 e.1||sA (f.2.2+e.2.1) e.2.2)=true:=by decide +kernel
theorem Tv:(Ň.all λe=>sA e.2.1 e.2.2)=true:=by decide +kernel
theorem Ax:(Ň.all λe=>sA e.2.2 56)=true:=by decide +kernel
def leC (N M:G7):Prop:=N%8∈Ε M/\N / 8%8∈Ε M/\N / 64∈Ε M
theorem Nw {K:G7}: ∀ (l:G0 G7) (k:G7),(∀x∈l,K ||| 1 <<< x=K)->k ||| K=K->l.foldl (λk x=>k ||| 1 <<< x) k ||| K=K
 | [],_,_,h=>h
 |x::l,k,a,h=>Nw l _ (λy hy=>a y (D7 _ hy)) (by rw [Nat.or_assoc,Nat.or_comm (1 <<< x),a x P6];exact h)
theorem leK {N M:G7}(hM:M<512)(h:leC N M):spK N ||| spK M=spK M:=by
 obtain⟨a,b,c⟩:=h;have cl:=λx hx y hy=>List.elem_iff.mp (T6.mp (T6.mp (T6.mp Tu M (S0.mpr hM)) x hx) y hy)
 refine Nw (Ε N) 0 (λx hx=> ?_) (Nat.zero_or _);have:x∈Ε M:=by
  simp only [Ε,T3,F4,or_false] at hx;rcases hx with e|e|e|e|e|e|e|e<;>subst e
  ·exact P6
  ·exact a
  ·exact b
  ·exact cl _ a _ b
  ·exact c
  ·exact cl _ a _ c
  ·exact cl _ b _ c
  ·exact cl _ (cl _ a _ b) _ c
 exact bR (T6.mp (T6.mp Tt M (S0.mpr hM)) x this)
def dnC:G0 G7->Prop
 |a::b::r=>leC b a/\dnC (b::r)
 |_=>True
theorem FY {l:G0 G7}{k c w:G7}(he:(k,c,w)∈Ň)(nd:l.Nodup)(lt: ∀x∈l,x<512):(l.filter λm=>Z0 (spK m) k).length<=c:=
 S5 (yQ (nd.filter _) λx hx=>C9.mpr ⟨S0.mpr (lt x (C9.mp hx).1),(C9.mp hx).2⟩) (bS (T6.mp Av _ he))
theorem Nx: ∀ (l:G0 G7) (a k c w:G7),dnC (a::l)->(a::l).Nodup->(∀x∈a::l,x<512)->(k,c,w)∈Ň->k=spK a->(a::l).length+c<=((a::l).filter λm=>Z0 (spK m) k).length+w
 | [],a,k,c,w,_,nd,lt,he,ek=>by
  have ha:Z0 (spK a) k=true:=by rw [ek];exact qC _
  have t:c<=w:=bS (T6.mp Tv _ he);rw [L6 (p:=λm=>Z0 (spK m) k) ha];show 1+c<=1+w;omega
 |b::l,a,k,c,w,dn,nd,lt,he,ek=>by
  have ha:Z0 (spK a) k=true:=by rw [ek];exact qC _
  rw [L6 (p:=λm=>Z0 (spK m) k) ha];obtain⟨k',hk⟩: ∃e∈Ň,Z0 e.1 (spK b)=true:=E9.mp (T6.mp Nv b (S0.mpr (lt b (by simp))));obtain⟨k',c',w'⟩:=k';obtain⟨he',eb⟩:=hk;have eb:k'=spK b:=bR eb;have nd':=(K0.mp nd).2;have lt': ∀x∈b::l,x<512:=λx hx=>lt x (D7 _ hx)
  by_cases z:spK b=k
  ·have:=Nx l b k c w dn.2 nd' lt' he z.symm;show (b::l).length+1+c<=((b::l).filter λm=>Z0 (spK m) k).length+1+w;omega
  ·have ih:=Nx l b k' c' w' dn.2 nd' lt' he' eb;have f:=FY he' nd' lt';have low:=T6.mp (T6.mp Aw _ he) _ he';have sub:k' ||| k=k:=by rw [eb,ek];exact leK (lt a (by simp)) dn.1
   have z1:Z0 (k' ||| k) k=true:=by rw [sub];exact qC _
   have z2:Z0 k' k=false:=by
    cases y:Z0 k' k with
    |false=>rfl
    |true=>exact absurd (eb ▸ bR y) z
   have low:(!Z0 (k' ||| k) k||Z0 k' k||sA (w'+c) w)=true:=low;rw [z1,z2] at low;have low:=bS low;show (b::l).length+1+c<=((b::l).filter λm=>Z0 (spK m) k).length+1+w;omega
theorem Tw {l:G0 G7}(dn:dnC l)(nd:l.Nodup)(lt: ∀x∈l,x<512):l.length<=56:=by
 cases l with
 |nil=>exact B0 _
 |cons a l=>
  obtain⟨⟨k,c,w⟩,he,ek⟩: ∃e∈Ň,Z0 e.1 (spK a)=true:=E9.mp (T6.mp Nv a (S0.mpr (lt a P6)));have:=Nx l a k c w dn nd lt he (bR ek);have f:=FY he nd lt;have t:w<=56:=bS (T6.mp Ax _ he);omega
def cb (x y z:N2):G7:=x.toNat+2*y.toNat+4*z.toNat
def eB (M:G0 (G0 P0))(i j:G7):N2:=decide (Î M i j≠0)
def π (M:G0 (G0 P0))(j:G7):G7:=cb (eB M 0 j) (eB M 1 j) (eB M 2 j)
def ς (M:G0 (G0 P0)):G7:=π M 0+8*π M 1+64*π M 2
theorem Ay: ∀x y z,cb x y z<8:=by decide
theorem Ny: ∀x y z x' y' z',cb x y z=cb x' y' z'->x=x'/\y=y'/\z=z':=by decide
theorem Fd: ∀x y z x' y' z',cb x y z ||| cb x' y' z'=cb (x||x') (y||y') (z||z'):=by decide
theorem vM (M:G0 (G0 P0)):ς M<512/\ς M%8=π M 0/\ς M / 8%8=π M 1/\ς M / 64=π M 2:=by
 have a:π M 0<8:=Ay _ _ _;have b:π M 1<8:=Ay _ _ _;have c:π M 2<8:=Ay _ _ _;unfold ς;omega
variable {M:G0 (G0 P0)}
theorem Az {N:G0 (G0 P0)}(hM:Sq 3 1 M)(hN:Sq 3 1 N)(e:ς M=ς N):M=N:=by
 obtain⟨_,a,b,c⟩:=vM M;obtain⟨_,a',b',c'⟩:=vM N;rw [e] at a b c;have e0:=Ny _ _ _ _ _ _ (a.symm.trans a');have e1:=Ny _ _ _ _ _ _ (b.symm.trans b');have e2:=Ny _ _ _ _ _ _ (c.symm.trans c');refine hM.ext hN λi j hi hj=> ?_
 have z:eB M i j=eB N i j:=by
  rcases (show i=0\/i=1\/i=2 by omega) with x|x|x<;>rcases (show j=0\/j=1\/j=2 by omega) with y|y|y<;>subst x<;>subst y
  ·exact e0.1
  ·exact e1.1
  ·exact e2.1
  ·exact e0.2.1
  ·exact e1.2.1
  ·exact e2.2.1
  ·exact e0.2.2
  ·exact e1.2.2
  ·exact e2.2.2
 have z:=decide_eq_decide.mp z;have p:=hM.ent_nn hi hj;have q:=hN.ent_nn hi hj;omega
theorem Nz {e:G7}{T:G0 (G0 P0)}(hM:Sq 3 1 M)(hT:Sq 3 e T){i j:G7}(hi:i<3)(hj:j<3):eB (Ü 3 T M) i j=((eB M i 0&&eB T 0 j)||(eB M i 1&&eB T 1 j)||(eB M i 2&&eB T 2 j)):=by
 have a: ∀k,k<3->0<=Î M i k*Î T k j/\(Î M i k*Î T k j=0↔Î M i k=0\/Î T k j=0):=λk hk=>⟨nG (hM.ent_nn hi hk).1 (hT.ent_nn hk hj).1,Int.mul_eq_zero⟩
 have s:Î (wW 3 M T) i j=Î M i 0*Î T 0 j+Î M i 1*Î T 1 j+Î M i 2*Î T 2 j:=by
  rw [yD hi hj,jy,jy,jy,wV,Int.zero_add]
 obtain⟨a0,b0⟩:=a 0 (by omega);obtain⟨a1,b1⟩:=a 1 (by omega);obtain⟨a2,b2⟩:=a 2 (by omega);unfold eB Ü;rw [Uu hi hj,s];generalize Î M i 0*Î T 0 j=p0 at a0 b0 ⊢;generalize Î M i 1*Î T 1 j=p1 at a1 b1 ⊢;generalize Î M i 2*Î T 2 j=p2 at a2 b2 ⊢;rw [<-mO,<-mO,<-mO,<-n5,<-n5];refine decide_eq_decide.mpr ?_
 by_cases z:p0+p1+p2=0
 ·rw [R5 z];omega
 ·rw [R3 z];omega
theorem Gw {e:G7}{T:G0 (G0 P0)}(hM:Sq 3 1 M)(hT:Sq 3 e T){j:G7}(hj:j<3):π (Ü 3 T M) j∈Ε (ς M):=by
 obtain⟨_,a,b,c⟩:=vM M;unfold Ε;rw [a,b,c];unfold π;rw [Nz hM hT (by omega) hj,Nz hM hT (by omega) hj,Nz hM hT (by omega) hj,Fd,Fd,Fd,Fd];generalize eB T 0 j=t0;generalize eB T 1 j=t1;generalize eB T 2 j=t2;cases t0<;>cases t1<;>cases t2<;>simp only [f7,sK,tE,Bool.false_or]<;>simp [cb]
theorem Tx {e:G7}{T:G0 (G0 P0)}(hM:Sq 3 1 M)(hT:Sq 3 e T):leC (ς (Ü 3 T M)) (ς M):=by
 obtain⟨_,a,b,c⟩:=vM (Ü 3 T M);unfold leC;rw [a,b,c];exact⟨Gw hM hT (by omega),Gw hM hT (by omega),Gw hM hT (by omega)⟩
theorem Qm (f:G7->G7): ∀ (m s:G7),(∀i,s<=i->i+1<s+m->leC (f (i+1)) (f i))->dnC ((i6 s m).map f)
 |0,_,_=>aQ
 |1,_,_=>aQ
 |m+2,s,h=>⟨h s (P5 _) (by omega),Qm f (m+1) (s+1) λi a b=>h i (by omega) (by omega)⟩
theorem FZ {β:Type}(f:G7->β)(m:G7)(h: ∀i j,i<j->j<m->f i≠f j):((P4 m).map f).Nodup:=Y0.mpr (G0.pairwise_lt_range.imp_of_mem λ{a b} _ hb lt=>h a b lt (S0.mp hb))
theorem KR {n:G7}(n2:n<=2){l:G0 (G0 (G0 P0))}(nd:l.Nodup)(h: ∀M∈l,Sq n 1 M):l.length<=16:=by
 have:=yQ (m:=Rg (Rg [(0:P0),1] n) n) nd λM hM=>by
  have s:=h M hM;have z:=Zr (xs:=Rg [(0:P0),1] n) (r:=M) λr hr=>by
   have z:=Zr (xs:= [(0:P0),1]) (r:=r) λx hx=>by
    have a:=s.nn r hr x hx;have b:x<2:=s.bit r hr x hx;rcases (show x=0\/x=1 by omega) with e|e<;>subst e<;>simp
   rw [s.row r hr] at z;exact z
  rw [s.len] at z;exact z
 rw [Zt,Zt] at this;rcases (show n=0\/n=1\/n=2 by omega) with e|e|e<;>subst e<;>exact S5 this (by decide)
theorem NA {n:G7}{Ts:G0 (G0 (G0 P0))}: ∀ {u:G0 G7} (_:u≠ []) (v:G0 G7),Ó n Ts (u++v)=zB n Ts (Ó n Ts u) v
 | [],h,_=>absurd rfl h
 |b::u,_,v=>JL _ u v
theorem NB {w:G0 G7}{i:G7}(h:i<w.length):w.take (i+1)=w.take i++ [w[i]]:=by rw [B6,G2 h];rfl
theorem NC {n:G7}{Ts:G0 (G0 (G0 P0))}(hT:Ä n Ts){p:G0 (G0 P0)×G0 G7}(hp:p∈ÿ n Ts):p.2.length<=56:=by
 obtain⟨f1,⟨f2,f3⟩,_⟩:=(wB (n:=n) hT.l3).fd p hp;generalize hw:p.2=w at*
 have least:=λv a b=>hw ▸ Ql (n:=n) hT.n3 hT.l1 hT.l3 hp (w:=v) a b
 have ne: ∀i,i<w.length->w.take (i+1)≠ []:=λi hi z=>by
  have:=congrArg K8 z;rw [S8,Q5 hi] at this;cases this
 have dist: ∀i j,i<j->j<w.length->Ó n Ts (w.take (i+1))≠Ó n Ts (w.take (j+1)):=λi j hij hj e=>by
  have a:Ó n Ts (w.take (i+1)++w.drop (j+1))=p.1:=by
   rw [NA (ne i (by omega)),e,<-NA (ne j hj),T9];exact f1.symm
  have:=least _ ⟨by simp [ne i (by omega)],λk hk=>by
   rcases D5.mp hk with z|z
   ·exact f3 k (L5 z)
   ·exact f3 k (L0 z)⟩ a
  rw [P2,S8,C6] at this;omega
 rcases (show n<=2\/n=3 by have:=hT.n3;omega) with c|c
 ·have:=KR c (FZ (λi=>Ó n Ts (w.take (i+1))) w.length dist) λM hM=>by
   obtain⟨i,_,rfl⟩:=R9.mp hM;exact wf _
  rw [G1,S6] at this;omega
 ·subst c;have:=Tw (l:=(P4 w.length).map λi=>ς (Ó 3 Ts (w.take (i+1)))) ?_ (FZ _ _ λi j hij hj e=>dist i j hij hj (Az (wf _) (wf _) e)) λx hx=>by
   obtain⟨i,_,rfl⟩:=R9.mp hx;exact(vM _).1
  ·rwa [G1,S6] at this
  ·rw [n6];refine Qm _ _ 0 λi _ hi=> ?_
   have hi':i+1<w.length:=by omega
   rw [NB hi',Jk (ne i (by omega))];have ha:=f3 _ (N6 hi');exact Tx (wf _) (hT.sq _ (by rw [S1,G2 ha];exact N6 ha))
def WG (n:G7)(Ts:G0 (G0 (G0 P0))):G0 (G0 (G0 P0)):=(ÿ n Ts).map (·.1)
def Ō (n:G7)(Ts:G0 (G0 (G0 P0))):G7->G0 (G0 P0)->N2
 |0,M=> !jm M
 |k+1,M=> !jm M&&(P4 Ts.length).any λi=>Ō n Ts k (Ü n (Ts.getD i []) M)
def ż (n:G7)(Ts L:G0 (G0 (G0 P0)))(M:G0 (G0 P0)):N2:=(P4 Ts.length).any λi=>decide (Ü n (Ts.getD i []) M∈L)
def à (n:G7)(Ts:G0 (G0 (G0 P0))):G7->G0 (G0 (G0 P0))
 |0=>(WG n Ts).filter λM=> !jm M
 |k+1=>(à n Ts k).filter (ż n Ts (à n Ts k))
section
variable {n k r:G7}{Ts:G0 (G0 (G0 P0))}{M:G0 (G0 P0)}{w:G0 G7}
theorem JN (hT:Ä n Ts)(hw:ZF Ts w):Ó n Ts w∈WG n Ts:=by
 obtain⟨p,hp,e,_⟩:=YE (n:=n) hT.n3 hT.l1 hT.l3 hw;exact R9.mpr ⟨p,hp,e⟩
theorem Jl (hT:Ä n Ts)(h:M∈WG n Ts): ∃w,ZF Ts w/\M=Ó n Ts w:=by
 obtain⟨p,hp,rfl⟩:=R9.mp h;obtain⟨a,b,_⟩:=(wB (n:=n) hT.l3).fd p hp;exact⟨p.2,b,a⟩
variable {i:G7}
theorem Fe (hw:ZF Ts w)(hi:i<Ts.length):ZF Ts (w++ [i]):=⟨by simp,λj hj=>by
 rcases D5.mp hj with z|z
 ·exact hw.2 j z
 ·rw [G9.mp z];exact hi⟩
theorem PH (hT:Ä n Ts)(h:M∈WG n Ts){i:G7}(hi:i<Ts.length):Ü n (Ts.getD i []) M∈WG n Ts:=by
 obtain⟨w,hw,rfl⟩:=Jl hT h;rw [<-Jk hw.1];exact JN hT (Fe hw hi)
theorem JP: ∀ {k:G7} {M:G0 (G0 P0)},Ō n Ts k M=true->jm M=false
 |0,M,h=>by cases z:jm M with
  |false=>rfl
  |true=>rw [show Ō n Ts 0 M= !jm M from rfl,z] at h;cases h
 |k+1,M,h=>by cases z:jm M with
  |false=>rfl
  |true=>rw [show Ō n Ts (k+1) M=(!jm M&&_) from rfl,z] at h;cases h
theorem Jm (hi:i<Ts.length)(f:jm M=false)(h:Ō n Ts k (Ü n (Ts.getD i []) M)=true):Ō n Ts (k+1) M=true:=by
 show (!jm M&&_)=true;rw [f];exact E9.mpr ⟨i,S0.mpr hi,h⟩
theorem WV (h:Ō n Ts (k+1) M=true): ∃i<Ts.length,Ō n Ts k (Ü n (Ts.getD i []) M)=true:=by
 obtain⟨i,hi,x⟩:=E9.mp (Bool.and_eq_true_iff.mp (show (!jm M&&_)=true from h)).2;exact⟨i,S0.mp hi,x⟩
theorem UI: ∀ {k:G7} {M:G0 (G0 P0)},Ō n Ts (k+1) M=true->Ō n Ts k M=true
 |0,M,h=>by rw [show Ō n Ts 0 M= !jm M from rfl,JP h];rfl
 |k+1,M,h=>by
  obtain⟨i,hi,x⟩:=WV h;exact Jm hi (JP h) (UI x)
theorem Ty {j:G7}(hj:j<=k)(h:Ō n Ts k M=true):Ō n Ts j M=true:=by
 induction k with
 |zero=>rw [nZ.mp hj];exact h
 |succ k ih=>
  rcases mH j (k+1) with c|c
  ·exact ih (gH.mp c) (UI h)
  ·rw [gI hj c];exact h
theorem yH (hT:Ä n Ts): ∀ {k:G7} {M:G0 (G0 P0)},M∈à n Ts k↔M∈WG n Ts/\Ō n Ts k M=true
 |0,M=>C9
 |k+1,M=>by
  show M∈(à n Ts k).filter _↔_;rw [C9,yH hT];constructor
  ·rintro ⟨⟨a,b⟩,c⟩;obtain⟨i,hi,x⟩:=E9.mp c;exact⟨a,Jm (S0.mp hi) (JP b) ((yH hT).mp (C4 x)).2⟩
  ·rintro ⟨a,b⟩;obtain⟨i,hi,x⟩:=WV b;exact⟨⟨a,UI b⟩,E9.mpr ⟨i,S0.mpr hi,D2 ((yH hT).mpr ⟨PH hT a hi,x⟩)⟩⟩
theorem Ff {e:G7}{T N:G0 (G0 P0)}(hM:Sq n 1 M)(hT:Sq n e T)(hN:Sq n 1 N)(f:jm M=true)(g:jm (Ü n T M)=false):jm (Ü n T N)=false:=by
 cases z:jm (Ü n T N) with
 |false=>rfl
 |true=>
  have y:jm (Ü n T M)=true:=(wN (Sq.mark _)).mpr λi j hi hj q=>by
   have a:=(wN (Sq.mark _)).mp z i j hi hj;obtain⟨k,hk,_,b⟩:=(zn hN hT hi hj).mp λq=>a ((ya hi hj).mpr q)
   exact(zn hM hT hi hj).mpr ⟨k,hk,(wN hM).mp f i k hi hk,b⟩ ((ya hi hj).mp q)
  rw [y] at g;cases g
def AA (n:G7)(Ts:G0 (G0 (G0 P0))):Prop:= ∀i<Ts.length,∀M,Sq n 1 M->jm M=true->jm (Ü n (Ts.getD i []) M)=true
theorem ND (hT:Ä n Ts){i:G7}(hi:i<Ts.length):Ó n Ts [i]=Ü n (Ts.getD i []) (zU n):=by
 show jn n (Ts.getD i [])=jn n (wW n (zU n) (Ts.getD i []));rw [Ur (hT.get hi) (by have:=hT.n3;omega)]
theorem NE (hT:Ä n Ts)(h:à n Ts r= []):AA n Ts:=λi hi M hM f=>by
 cases g:jm (Ü n (Ts.getD i []) M) with
 |true=>rfl
 |false=>
  exfalso;have no: ∀N,Sq n 1 N->jm (Ü n (Ts.getD i []) N)=false:=λN hN=>Ff hM (hT.get hi) hN f g
  have go: ∀k N,Sq n 1 N->Ō n Ts k (Ü n (Ts.getD i []) N)=true:=λk=>by
   induction k with
   |zero=>exact λN hN=>by show (!jm _)=true;rw [no N hN];rfl
   |succ k ih=>exact λN hN=>Jm hi (no N hN) (ih _ (Sq.mark _))
  have:Ó n Ts [i]∈à n Ts r:=(yH hT).mpr ⟨JN hT ⟨by simp,λj hj=>by rw [G9.mp hj];exact hi⟩,by rw [ND hT hi];exact go r _ (Sq.one n)⟩;rw [h] at this;cases this
theorem PJ (nc:AA n Ts): ∀ {v:G0 G7} {M:G0 (G0 P0)},(∀i∈v,i<Ts.length)->Sq n 1 M->jm M=true->jm (zB n Ts M v)=true
 | [],_,_,_,f=>f
 |i::v,M,hv,hM,f=>PJ nc (v:=v) (λj hj=>hv j (D7 _ hj)) (Sq.mark _) (nc i (hv i P6) M hM f)
theorem NF (nc:AA n Ts): ∀ {v:G0 G7} {M:G0 (G0 P0)},(∀i∈v,i<Ts.length)->Sq n 1 M->jm (zB n Ts M v)=false->Ō n Ts v.length M=true
 | [],M,_,_,f=>by
  show (!jm M)=true;rw [show jm M=false from f];rfl
 |i::v,M,hv,hM,f=>by
  have Ů: ∀j∈v,j<Ts.length:=λj hj=>hv j (D7 _ hj)
  refine Jm (hv i P6) ?_ (NF nc Ů (Sq.mark _) f);cases z:jm M with
  |false=>rfl
  |true=>
   rw [PJ nc hv hM z] at f;cases f
theorem Fg (hT:Ä n Ts)(h:à n Ts r= [])(hw:ZF Ts w)(hl:r+1<=w.length):jm (Ó n Ts w)=true:=by
 cases z:jm (Ó n Ts w) with
 |true=>rfl
 |false=>
  exfalso;cases w with
  |nil=>exact hw.1 rfl
  |cons a v=>
   have ha:=hw.2 a P6;have c:=NF (NE hT h) (v:=v) (M:=Ó n Ts [a]) (λi hi=>hw.2 i (D7 _ hi)) (wf _) z;have:Ó n Ts [a]∈à n Ts r:=(yH hT).mpr ⟨JN hT ⟨by simp,λj hj=>by rw [G9.mp hj];exact ha⟩,Ty (by show r<=v.length;exact Nat.le_of_succ_le_succ hl) c⟩;rw [h] at this;cases this
def AfF (n:G7)(Ts:G0 (G0 (G0 P0))):P7 G7->Prop
 |none=> ∀k,à n Ts k≠ []
 |some m=> ∃r,m=r+1/\à n Ts r= []/\ ∀i<r,à n Ts i≠ []
theorem Gx {j:G7}(hj:j<=k): ∀ {M},M∈à n Ts k->M∈à n Ts j:=by
 induction k with
 |zero=>rw [nZ.mp hj];exact λh=>h
 |succ k ih=>
  rcases mH j (k+1) with c|c
  ·exact λh=>ih (gH.mp c) (C9.mp h).1
  ·rw [gI hj c];exact λh=>h
theorem UJ (h:(à n Ts r).filter (λM=> !ż n Ts (à n Ts r) M)= []): ∀j,à n Ts (r+j)=à n Ts r
 |0=>rfl
 |j+1=>by
  show (à n Ts (r+j)).filter (ż n Ts (à n Ts (r+j)))=_;rw [UJ h j,cO];intro M hM;have:=mI.mp h M hM;cases z:ż n Ts (à n Ts r) M with
  |true=>rfl
  |false=>rw [z] at this;exact absurd rfl this
theorem KS (h:(à n Ts r).filter (λM=> !ż n Ts (à n Ts r) M)= [])(lo: ∀i<r,(à n Ts i).filter (λM=> !ż n Ts (à n Ts i) M)≠ []):AfF n Ts (if à n Ts r= [] then some (r+1) else none):=by
 by_cases z:à n Ts r= []
 ·rw [R5 z];exact⟨r,rfl,z,λi hi e=>lo i hi (by rw [e];rfl)⟩
 ·rw [R3 z];intro k e;obtain⟨M,hM⟩:=iU _ z;rcases qB k r with c|c
  ·have:=Gx c hM;rw [e] at this;cases this
  ·have:=UJ h (k-r);rw [show r+(k-r)=k by omega,e] at this;exact z this.symm
theorem Tz {o o':P7 G7}(a:AfF n Ts o)(b:AfF n Ts o'):o=o':=by
 cases o with
 |none=>cases o' with
  |none=>rfl
  |some m=>obtain⟨r,_,e,_⟩:=b;exact absurd e (a r)
 |some m=>
  obtain⟨r,rfl,e,lo⟩:=a;cases o' with
  |none=>exact absurd e (b r)
  |some m'=>
   obtain⟨r',rfl,e',lo'⟩:=b;rcases Nat.lt_trichotomy r r' with c|c|c
   ·exact absurd e (lo' r c)
   ·rw [c]
   ·exact absurd e' (lo r' c)
theorem UK (hi:i<(Ts.take 1).length):i=0/\(Ts.take 1).getD i []=Ts.getD i []:=by
 rw [S8] at hi;have:i=0:=by omega
 subst this;cases Ts<;>exact⟨rfl,rfl⟩
theorem PK: ∀ {v:G0 G7} {M:G0 (G0 P0)},(∀i∈v,i<(Ts.take 1).length)->zB n (Ts.take 1) M v=zB n Ts M v
 | [],_,_=>rfl
 |i::v,M,h=>by
  show zB n (Ts.take 1) (Ü n ((Ts.take 1).getD i []) M) v=zB n Ts (Ü n (Ts.getD i []) M) v;rw [(UK (h i P6)).2];exact PK λj hj=>h j (D7 _ hj)
theorem Fh (hw: ∀i∈w,i<(Ts.take 1).length):Ó n (Ts.take 1) w=Ó n Ts w:=by
 cases w with
 |nil=>rfl
 |cons a v=>
  show zB n (Ts.take 1) (jn n ((Ts.take 1).getD a [])) v=zB n Ts (jn n (Ts.getD a [])) v;rw [(UK (hw a P6)).2];exact PK λj hj=>hw j (D7 _ hj)
theorem NG (hi:i<(Ts.take 1).length):i<Ts.length:=by
 rw [S8] at hi;omega
theorem Fi (hw:ZF (Ts.take 1) w):ZF Ts w:=⟨hw.1,λi hi=>NG (hw.2 i hi)⟩
theorem PL: ∀ {k:G7} {M:G0 (G0 P0)},Ō n (Ts.take 1) k M=true->Ō n Ts k M=true
 |0,_,h=>h
 |k+1,M,h=>by
  obtain⟨i,hi,x⟩:=WV h;rw [(UK hi).2] at x;exact Jm (NG hi) (JP h) (PL x)
theorem Fj (hT:Ä n Ts)(h1:Ä n (Ts.take 1))(h:à n Ts r= []):à n (Ts.take 1) r= []:=by
 refine fO.mpr λM hM=> ?_
 obtain⟨a,b⟩:=(yH h1).mp hM;obtain⟨w,hw,rfl⟩:=Jl h1 a;have:Ó n (Ts.take 1) w∈à n Ts r:=(yH hT).mpr ⟨by rw [Fh hw.2];exact JN hT (Fi hw),PL b⟩;rw [h] at this;cases this
theorem AB (hT:Ä n Ts)(h1:Ä n (Ts.take 1)){o:P7 G7}{m:G7}(a:AfF n Ts (some m))(b:AfF n (Ts.take 1) o): ∃m',o=some m'/\m'<=m:=by
 obtain⟨r,rfl,e,_⟩:=a;have e1:=Fj hT h1 e;cases o with
 |none=>exact absurd e1 (b r)
 |some m'=>
  obtain⟨r',rfl,_,lo⟩:=b;exact⟨_,rfl,cJ (cG λc=>lo r c e1)⟩
end
def KT (n:G7)(T:G0 (G0 P0)):P7 G7->Prop
 |none=> ∀k,jm (wO n T k)=false
 |some k=>1<=k/\(∀j,jm (wO n T (k-1+j))=true)/\ ∀j,j+1<k->jm (wO n T j)=false
def đ (n:G7)(Ts:G0 (G0 (G0 P0))):P7 (G0 G7):=((ÿ n Ts).find? λp=>jm p.1).map (·.2)
section
variable {n k r:G7}{Ts:G0 (G0 (G0 P0))}{T M:G0 (G0 P0)}{w v:G0 G7}
theorem AC (hT:Ä n Ts)(h:đ n Ts=none)(hv:ZF Ts v):jm (Ó n Ts v)=false:=by
 unfold đ at h;have h:=Q8.mp (bH.mp h);obtain⟨p,hp,e,_⟩:=YE (n:=n) hT.n3 hT.l1 hT.l3 hv;have:=h p hp;rw [<-e];cases z:jm p.1 with
 |false=>rfl
 |true=>exact absurd z this
theorem Qn (hT:Ä n Ts)(h:đ n Ts=some w):ZF Ts w/\jm (Ó n Ts w)=true/\w.length<=56/\ ∀v,ZF Ts v->jm (Ó n Ts v)=true->w.length<=v.length:=by
 unfold đ at h;obtain⟨p,e,rfl⟩:=F9.mp h;have hp:=K5 e;have fp:jm p.1=true:=bL (p:=λp:G0 (G0 P0)×G0 G7=>jm p.1) e;obtain⟨a,b,_⟩:=(wB (n:=n) hT.l3).fd p hp;exact⟨b,a ▸ fp,NC hT hp,λv hv fv=>Ql (n:=n) hT.n3 hT.l1 hT.l3 hp hv (CP (wf v) (a ▸ wf p.2) fv fp)⟩
theorem Gy (hw:ZF [T] w):w=S9 w.length 0:=List.eq_replicate_iff.mpr ⟨rfl,λi hi=>by have:=hw.2 i hi;exact n8.mp this⟩
theorem ZW: ∀k,Ó n [T] (S9 (k+1) 0)=wO n T k
 |0=>rfl
 |k+1=>by
  rw [List.replicate_succ' (n:=k+1),Jk (by simp),ZW k];rfl
theorem Gz:ZF [T] (S9 (k+1) 0):=⟨by simp,λi hi=>by rw [(List.mem_replicate.mp hi).2];exact W9⟩
theorem ę: ∀ {k i:G7},Ō n [T] k (wO n T i)=true↔ ∀j,j<=k->jm (wO n T (i+j))=false
 |0,i=>⟨λh j hj=>by rw [nZ.mp hj];exact JP h,λh=>by
  show (!jm (wO n T i))=true;rw [show jm (wO n T i)=false from h 0 (P5 _)];rfl⟩
 |k+1,i=>by
  constructor
  ·intro h j hj;obtain⟨a,ha,x⟩:=WV h;have:a=0:=n8.mp ha;subst this;cases j with
   |zero=>exact JP h
   |succ j=>
    have:=(ę (k:=k) (i:=i+1)).mp x j (by omega)
    rwa [show i+1+j=i+(j+1) by omega] at this
  ·intro h;refine Jm (i:=0) W9 (h 0 (B0 _)) ((ę (k:=k) (i:=i+1)).mpr λj hj=> ?_);have:=h (j+1) (by omega)
   rwa [show i+(j+1)=i+1+j by omega] at this
theorem Fk (hT:Ä n [T]){o:P7 G7}(ho:KT n T o):AfF n [T] o:=by
 have X1b: ∀k,Ō n [T] k (wO n T 0)=true->à n [T] k≠ []:=λk h e=>by
  have:wO n T 0∈à n [T] k:=(yH hT).mpr ⟨by rw [<-ZW 0];exact JN hT Gz,h⟩;rw [e] at this;cases this
 cases o with
 |none=>exact λk=>X1b k (ę.mpr λj _=>ho _)
 |some k=>
  obtain⟨k1,f,lo⟩:=ho;refine⟨k-1,by omega,fO.mpr λM hM=> ?_,λi hi=>X1b i (ę.mpr λj hj=>lo _ (by omega))⟩;obtain⟨a,b⟩:=(yH hT).mp hM;obtain⟨w,hw,rfl⟩:=Jl hT a;obtain⟨m,em⟩: ∃m,w.length=m+1:=⟨w.length-1,by have:=oI.mpr hw.1;omega⟩;rw [Gy hw,em,ZW] at b;have:=ę.mp b (k-1) (P5 _);rw [lR,f m] at this;cases this
theorem Fl (hT:Ä n [T]){o:P7 G7}(ho:KT n T o):đ n [T]=o.map λk=>S9 k 0:=by
 cases e:đ n [T] with
 |none=>
  cases o with
  |none=>rfl
  |some k=>
   obtain⟨k1,f,lo⟩:=ho;have:=AC hT e (v:=S9 (k-1+1) 0) Gz;rw [ZW] at this;have z:=f 0;rw [show k-1+0=k-1 from rfl,this] at z;cases z
 |some w=>
  obtain⟨hw,fw,_,lw⟩:=Qn hT e;obtain⟨m,em⟩: ∃m,w.length=m+1:=⟨w.length-1,by have:=oI.mpr hw.1;omega⟩;rw [Gy hw,em,ZW] at fw;cases o with
  |none=>have:=ho m;rw [fw] at this;cases this
  |some k=>
   obtain⟨k1,f,lo⟩:=ho;have a:=lw (S9 (k-1+1) 0) Gz (by rw [ZW];exact f 0);rw [mP] at a;have b: ¬ (m+1<k):=λz=>by have:=lo m z;rw [fw] at this;cases this
   show some w=some (S9 k 0);rw [Gy hw,em,show k=m+1 by omega]
end
theorem La {α:Type}(Ps:G0 (G0 (G0 P0)))(T:G0 (G0 P0))(c:α):(zJ (Ps.map λM=>(M,c)) T).isSome=decide (T∈Ps):=by
 induction Ps with
 |nil=>rfl
 |cons M Ps ih=>
  by_cases z:M=T
  ·subst z;rw [D2 (P6)];show (zJ ((M,c)::_) M).isSome=true;unfold zJ;rw [List.find?_cons_of_pos (by exact D2 rfl)];rfl
  ·have:(zJ ((M::Ps).map λM=>(M,c)) T)=zJ (Ps.map λM=>(M,c)) T:=by
    show ((((M,c)::_).find? _).map _)=_;rw [List.find?_cons_of_neg (by exact λy=>z (C4 y))];rfl
   rw [this,ih];exact decide_eq_decide.mpr ⟨λh=>D7 _ h,λh=>(T3.mp h).resolve_left λy=>z y.symm⟩
end L2
namespace My
open PySem L2
def ë (i:G7):A3:=PySem.Challenge.pw_firstpowers_k79_whole_tables_in_any_orde.main.body.getD i (.Pass ⟨0,0,0,0⟩)
abbrev ZX:A3:=ë 11
theorem GA:Ã ["thing"] ["thing"] (jd ZX):=ñ
abbrev JQ:A3:=ë 12
theorem Qo:Ã ["thing","least","most"] ["thing","least","most"] (jd JQ):=ñ
abbrev ZY:A3:=ë 13
theorem GB:Ã ["thing","size"] ["thing","size"] (jd ZY):=ñ
abbrev vN:A3:=ë 14
theorem Zv:Ã ["thing","size","each"] ["thing","size"] (jd vN):=ñ
abbrev GC:A3:=ë 15
theorem PZ:Ã ["row","one","other"] ["row"] (jd GC):=ñ
abbrev UL:A3:=ë 16
theorem NH:Ã ["thing","many","least","most"] ["thing","many","least","most"] (jd UL):=ñ
abbrev yI:A3:=ë 17
theorem vO:Ã ["thing","size","number"] ["thing","size"] (jd yI):=ñ
abbrev wC:A3:=ë 18
theorem yS:Ã ["thing","row"] ["thing"] (jd wC):=ñ
abbrev vP:A3:=ë 19
theorem UM:Ã ["thing"] ["thing"] (jd vP):=ñ
abbrev vc:A3:=ë 20
theorem Jy:Ã ["thing","at","each"] ["thing"] (jd vc):=ñ
abbrev ZZ:A3:=ë 21
theorem GD:Ã ["tables","thing"] ["tables","thing"] (jd ZZ):=ñ
abbrev vQ:A3:=ë 23
theorem zV:Ã ["one","other","size","row","place","by"] ["one","other"] (jd vQ):=ñ
abbrev ye:A3:=ë 24
theorem wD:Ã ["size","row","place"] ["size"] (jd ye):=ñ
abbrev YF:A3:=ë 25
theorem DI:Ã ["one","other"] ["one","other"] (jd YF):=ñ
abbrev NI:A3:=ë 27
theorem Bh:Ã ["table","row","number"] ["table"] (jd NI):=ñ
abbrev GE:A3:=ë 28
theorem UN:Ã ["table","row","number"] ["table"] (jd GE):=ñ
abbrev UO:A3:=ë 29
theorem YG:Ã ["table","place","row"] ["table"] (jd UO):=ñ
abbrev vd:A3:=ë 31
theorem Vg:Ã ["ahead","table"] ["ahead","table"] (jd vd):=ñ
abbrev zW:A3:=ë 32
theorem za:Ã ["table","told","later"] ["table"] (jd zW):=ñ
abbrev JR:A3:=ë 33
theorem Qp:Ã ["table"] ["table"] (jd JR):=ñ
abbrev ve:A3:=ë 35
theorem wt:Ã ["tables","way","told","at"] ["tables","way"] (jd ve):=ñ
abbrev wE:A3:=ë 36
theorem jA:Ã ["tables","ways","nexts","fresh","later","way","each","at","table","behind"] ["tables"] (jd wE):=ñ
abbrev YH:A3:=ë 37
theorem Wa:Ã ["nexts","left","each","behind"] ["nexts","left"] (jd YH):=ñ
abbrev zC:A3:=ë 38
theorem jx:Ã ["nexts","left","rounds","ends","each"] ["nexts"] (jd zC):=ñ
abbrev GF:A3:=ë 39
theorem Fm:Ã ["tables","way"] ["tables","way"] (jd GF):=ñ
abbrev Wb:A3:=ë 40
theorem Zc:Ã ["tables","ways","nexts","each","way"] ["tables"] (jd Wb):=ñ
abbrev yf:A3:=ë 41
theorem wH:Ã ["tables","ways","nexts","rounds","left"] ["tables"] (jd yf):=ñ
abbrev vf:A3:=ë 43
theorem Jx:Ã ["table","at","each"] ["table"] (jd vf):=ñ
abbrev vR:A3:=ë 46
theorem wQ:Ã ["start","again","seen","now"] ["start","again"] (jd vR):=ñ
abbrev yg:A3:=ë 47
theorem wI:Ã ["tables","thing","ahead","again","many"] ["tables","thing"] (jd yg):=ñ
abbrev yJ:A3:=ë 48
theorem jX:Ã ["nexts","left","gone","way","now","at","behind"] ["nexts","left"] (jd yJ):=ñ
abbrev vg:A3:=ë 49
theorem wu:Ã ["tables","ways","nexts","rounds","left","start","again"] ["tables"] (jd vg):=ñ
abbrev YI:A3:=ë 50
theorem DJ:Ã ["thing","size"] ["thing","size"] (jd YI):=ñ
abbrev vh:A3:=ë 51
theorem zg:Ã ["tables","thing","posts","each","table"] ["tables","thing"] (jd vh):=ñ
abbrev Wc:A3:=ë 52
theorem Zb:Ã ["tables","ways","nexts","each"] ["tables"] (jd Wc):=ñ
abbrev JU:A3:=ë 54
theorem Qq:Ã ["_law_script","_law_k"] ["_law_script","_law_k"] (jd JU):=ñ
abbrev Wd:A3:=ë 55
theorem YJ:Ã ["_law_cell_here","_law_left"] ["_law_cell_here"] (jd Wd):=ñ
abbrev JV:A3:=ë 56
theorem yA:Ã ["_law_pen_here","_law_many_here","_law_left","_law_found","_law_stir"] ["_law_pen_here","_law_many_here"] (jd JV):=ñ
abbrev vS:A3:=ë 57
theorem jC:Ã ["_law_pen_here","_law_size","_law_way_here","_law_often","_law_most","_law_rows","_law_one","_law_row","_law_other","_law_goes"] ["_law_pen_here","_law_size"] (jd vS):=ñ
abbrev vT:A3:=ë 58
theorem vj:Ã ["_law_pen_here","_law_many_here","_law_found","_law_what"] ["_law_pen_here","_law_many_here"] (jd vT):=ñ
abbrev wm:A3:=ë 59
theorem jB:Ã ["_law_pen_here","_law_size","_law_order_here","_law_often","_law_rows","_law_at","_law_here","_law_there","_law_one","_law_other","_law_row"] ["_law_pen_here","_law_size"] (jd wm):=ñ
abbrev JX:A3:=ë 60
theorem jJ:Ã ["_law_pen_here","_law_size","_law_many_here","_law_found","_law_turn","_law_table_here","_law_way_here","_law_place","_law_row"] ["_law_pen_here"] (jd JX):=ñ
abbrev We:A3:=ë 61
theorem YK:Ã ["_law_pen_here","_law_tables","_law_least","_law_most","_law_turn"] ["_law_pen_here","_law_tables","_law_least","_law_most"] (jd We):=ñ
abbrev wF:A3:=ë 62
theorem yT:Ã ["_law_table_here","_law_k"] ["_law_table_here"] (jd wF):=ñ
abbrev wn:A3:=ë 63
theorem zZ:Ã ["_law_tables","_law_way_here","_law_found","_law_fence","_law_k","_law_lasts"] ["_law_tables","_law_way_here"] (jd wn):=ñ
abbrev wo:A3:=ë 64
theorem zi:Ã ["_law_tables","_law_way_here","_law_back","_law_one","_law_other","_law_first","_law_both","_law_table_here"] ["_law_tables","_law_way_here"] (jd wo):=ñ
abbrev DK:A3:=ë 65
theorem VR:Ã ["_law_script","_law_cell_here","_law_pen_here","_law_tables","_law_way_here","_law_table_here"] ["_law_script"] (jd DK):=ñ
section
variable {P:T7}{w:C1}{K:G5}{mg:Str->P7 G3}{base:L8}
/-- no def is asked of Ś script's list: a X0g -/
def NJ:D->N2
 | .int _=>true
 |_=>false
/-- a row of so many numbers from 0 on -/
def TB:D->N2
 | .int i=>decide (0<=i)
 |_=>false
def Bo (d:D)(k:P0):N2:=match d with
 | .tup ds=>decide ((ds.length:P0)=k)&&ds.all TB
 |_=>false
/-! every part has a kind X1c is told,and no tuple is long -/
mutual
def okD:D->N2
 | .scr _=>false| .exc _=>false| .fn _=>false| .dct _=>false| .exf _ _=>false
 | .tup ds=>decide (ds.length<=1000)&&ŧ ds
 |_=>true
def ŧ:G0 D->N2
 | []=>true
 |d::ds=>okD d&&ŧ ds
end
theorem PM: ∀ {ds:G0 D},ŧ ds=true-> ∀d∈ds,okD d=true
 |d::ds,h,x,hx=>by
  have h':(okD d&&ŧ ds)=true:=h;rw [C7] at h';rcases T3.mp hx with e|e
  ·subst e;exact h'.1
  ·exact PM h'.2 x e
theorem NK: ∀ {ds:G0 D},(∀d∈ds,okD d=true)->ŧ ds=true
 | [],_=>rfl
 |d::ds,h=>by
  show (okD d&&ŧ ds)=true;rw [h d P6,NK λx hx=>h x (D7 _ hx)];rfl
theorem YL {ds:G0 D}(h:okD (.tup ds)=true):ds.length<=1000/\ ∀d∈ds,okD d=true:=by
 have h':(decide (ds.length<=1000)&&ŧ ds)=true:=h;rw [C7] at h';exact⟨C4 h'.1,PM h'.2⟩
theorem VS {ds:G0 D}(h:ds.length<=1000)(h2: ∀d∈ds,okD d=true):okD (.tup ds)=true:=by
 show (decide (ds.length<=1000)&&ŧ ds)=true;rw [D2 h,NK h2];rfl
variable {d:D}
theorem vk (h:okD d=true): ∃n,Xr d=some n:=by
 cases d<;>first|exact⟨_,rfl⟩|cases h
/-- a table -/
def Fn:D->N2
 | .tup rs=>decide (1<=rs.length)&&decide (rs.length<=6)&&rs.all λr=>Bo r rs.length
 |_=>false
def JY:RDn:=λds h Q=> ∃d n,ds= [d]/\Xr d=some n/\Q (.bl (NJ d)) h
variable {n:G7}{f:P1}{fd:M9}
theorem GG (Z:Zs mg)(F:ã K "is_whole" "is_whole" ZX f fd):Ë P w K mg base á (n+1) f fd ["thing"] (ä K JY):=by
 refine F.okM GA (λhr=>(jR (zA (Ds (Xx (T:= "int") (by decide) rfl Z.isinstance rfl Z.int (by decide +kernel) (jv 0)) (Gb (uh (Xx (T:= "bool") (by decide) rfl Z.isinstance rfl Z.bool (by decide +kernel) (jv 0)))))))) ?_;rintro ds h Q ⟨d,nm,rfl,hn,q⟩;refine⟨rfl,?_⟩;simp only [BK,BH,dIs,FG,vA,M7,dR,S7,O4,Z5,A9,Y2,bX,D.bl.injEq,BI,Bl,cW,hn];cases d<;>cases hn<;>exact⟨h,Sub.refl h,q⟩
def Wy:RDn:=λds h Q=> ∃d,∃a b:P0,ds= [d,.int a,.int b]/\okD d=true/\Q (.bl (yE d a b)) h
theorem Qr (Z:Zs mg)(F:ã K "is_within" "is_within" JQ f fd)(Wm:je P w K mg base n "is_whole" ["thing"] JY):Ë P w K mg base á (n+1) f fd ["thing","least","most"] (ä K Wy):=by
 refine F.okM Qo (λhr=>(jR (zA (Ds (jk Wm hr (j1 (jv 0))) (Gb (FN Uh Uh (jv 1) (jv 0) (jv 2))))))) ?_;rintro ds h Q ⟨d,a,b,rfl,ok,q⟩;refine⟨rfl,?_⟩;obtain⟨nm,hn⟩:=vk ok;refine⟨_,rfl,d,nm,rfl,hn,NJ d,rfl,?_⟩;cases d with
 |int x=>
  refine yr ⟨_,rfl,_,rfl,_,rfl,?_⟩;show if decide (a<=x)=true then _ else _
  by_cases h1:a<=x
  ·rw [D2 h1];simp only [yE,D2 h1,K2] at q;exact yr ⟨_,rfl,h,Sub.refl h,q⟩
  ·rw [R8 h1];simp only [yE,R8 h1,bY] at q;exact zF ⟨h,Sub.refl h,q⟩
 |_=>exact zF ⟨h,Sub.refl h,q⟩
def YM:RDn:=λds h Q=> ∃d,∃n:P0,ds= [d,.int n]/\okD d=true/\Q (.bl (yE d 0 (n-1))) h
theorem GH (Z:Zs mg)(F:ã K "is_place" "is_place" ZY f fd)(GT:je P w K mg base n "is_within" ["thing","least","most"] Wy):Ë P w K mg base á (n+1) f fd ["thing","size"] (ä K YM):=by
 refine F.okM GB (λhr=>(jR (zA (jk GT hr (j3 (jv 0) jF (ú Xq (jv 1) jF)))))) ?_;rintro ds h Q ⟨d,k,rfl,ok,q⟩;refine⟨rfl,?_⟩;exact⟨_,rfl,_,rfl,d,0,k-1,rfl,ok,h,Sub.refl h,q⟩
def Zw:RDn:=λds h Q=> ∃d,∃n:P0,ds= [d,.int n]/\okD d=true/\Q (.bl (Gk d n)) h
theorem UP (Z:Zs mg)(F:ã K "are_places" "are_places" vN f fd)(DT:je P w K mg base n "is_place" ["thing","size"] YM):Ë P w K mg base á (n+1) f fd ["thing","size"] (ä K Zw):=by
 refine F.okM Zv (λhr=>(jR (zA (Ds (Xx (T:= "tuple") (by decide) rfl Z.isinstance rfl Z.tuple (by decide +kernel) (jv 0)) (Gb (wJ (Zh rfl) rfl Z.all A7 (j1 (ļ 2 Zv (zl (jv 0)) (λ_ _ _ _=>(jk DT hr (j2 (jv 2) (jv 1)))))))))))) ?_;rintro ds h Q ⟨d,k,rfl,ok,q⟩;refine⟨rfl,?_⟩;obtain⟨nm,hn⟩:=vk ok;refine⟨_,rfl,nm,hn,?_⟩;cases d with
 |tup es=>
  cases hn;obtain⟨hl,ht⟩:=YL ok;refine⟨_,rfl,yr ?_⟩;exact He es (λx=>x) (λx=>yE x 0 (k-1)) hl (by rw [xQ]) (λR r=>⟨_,rfl,r⟩) (λx hx Q' q'=>⟨_,rfl,_,rfl,x,k,rfl,ht x hx,q'⟩) ⟨h,Sub.refl h,q⟩
 |_=>cases hn<;>exact⟨_,rfl,zF ⟨h,Sub.refl h,q⟩⟩
variable {h:HD}{Q:KD}
theorem TC {x y:G0 (G0 P0)}(q:Q (.bl (zj x y)) h):ltE (jg x) (jg y) h Q:=⟨Jo x,Jo y,vJ h x,vJ h y,ā.lay x,ā.lay y,XW x y,ā.dp x,by rw [Af];exact q⟩
def NL (Ps:G0 (G0 (G0 P0))):N2:=(Ps.zip (Ps.drop 1)).all λp=>zj p.1 p.2
theorem Fo (S:G0 (G0 (G0 P0))):FP (S.map jg) (Va (S.map jg) (some 1) none)=(S.zip (S.drop 1)).map λp=>D.tup [jg p.1,jg p.2]:=by
 rw [OU];unfold FP;rw [<-fX,List.zip_map,R4];rfl
def PN:RDn:=λds h Q=> ∃S:G0 (G0 (G0 P0)),ds= [.tup (S.map jg)]/\S.length<=1000/\Q (.bl (NL S)) h
theorem Fp (Z:Zs mg)(F:ã K "rises" "rises" GC f fd):Ë P w K mg base á (n+1) f fd ["row"] (ä K PN):=by
 refine F.okM PZ (λhr=>(jR (zA (wJ (Zh rfl) rfl Z.all A7 (j1 (Kp (i:=1) (j:=2) (js:= [1,2]) rfl (jP (by rfl)) (SS rfl Z.zip (j2 (jv 0) (Xy (jv 0) (ZL jF) Up))) (by decide) (by decide) (by decide) PZ.nd rfl rfl (by first|exact H0 rfl|exact W0 rfl) (by first|exact H0 rfl|exact W0 rfl) (λX' hX=>wZ) (λX' hX=>by obtain⟨C,s₀,H₀,ex,rfl⟩:=hX;exact(İ (To hr.units) (jv 1) (jv 2))))))))) ?_;rintro ds h Q ⟨S,rfl,hl,q⟩;refine⟨rfl,?_⟩;refine Kt (j:=λ_=>some (FP (S.map jg) (Va (S.map jg) (some 1) none))) (S.zip (S.drop 1)) (λp=>jg p.1) (λp=>jg p.2) (λp=>zj p.1 p.2) (by rw [rN];omega) (congrArg some (Fo S)) (λR r=>⟨_,rfl,_,rfl,_,rfl,_,_,rfl,r⟩) (λp hp Q' q'=>⟨_,rfl,_,rfl,TC q'⟩) ⟨h,Sub.refl h,q⟩
def YN:RDn:=λds h Q=> ∃d,∃m lo hi:P0,ds= [d,.int m,.int lo,.int hi]/\okD d=true/\Q (.bl (QN d m lo hi)) h
theorem NM (Z:Zs mg)(F:ã K "is_way" "is_way" UL f fd)(QD:je P w K mg base n "are_places" ["thing","size"] Zw):Ë P w K mg base á (n+1) f fd ["thing","many","least","most"] (ä K YN):=by
 refine F.okM NH (λhr=>(jR (zA (Ds (jk QD hr (j2 (jv 0) (jv 1))) (Gb (FN Uh Uh (jv 2) (WE Z (jv 0)) (jv 3))))))) ?_;rintro ds h Q ⟨d,m,lo,hi,rfl,ok,q⟩;refine⟨rfl,?_⟩;refine⟨_,rfl,_,rfl,d,m,rfl,ok,_,rfl,?_⟩;cases d with
 |tup es=>
  have q':Q (.bl (Gk (.tup es) m&&(decide (lo<=(es.length:P0))&&decide ((es.length:P0)<=hi)))) h:=q;refine Vt (λc=> ?_) (λc=> ?_)
  ·rw [c,K2] at q';refine⟨_,rfl,_,rfl,_,rfl,?_⟩;show if decide (lo<=(es.length:P0))=true then _ else _
   by_cases h1:lo<=(es.length:P0)
   ·rw [D2 h1] at q' ⊢;rw [K2] at q';exact yr ⟨_,rfl,h,Sub.refl h,q'⟩
   ·rw [R8 h1] at q' ⊢;rw [bY] at q';exact zF ⟨h,Sub.refl h,q'⟩
  ·have c':Gk (.tup es) m=false:=by simpa using c
   rw [c',bY] at q';exact⟨h,Sub.refl h,q'⟩
 |_=>exact zF ⟨h,Sub.refl h,q⟩
def vU:RDn:=λds h Q=> ∃d k,ds= [d,.int k]/\okD d=true/\Q (.bl (Bo d k)) h
theorem YO (Z:Zs mg)(F:ã K "is_table_row" "is_table_row" yI f fd)(Wm:je P w K mg base n "is_whole" ["thing"] JY):Ë P w K mg base á (n+1) f fd ["thing","size"] (ä K vU):=by
 refine F.okM vO (λhr=>(Ż (Jq (ũ (Rc (yo (wM (Xx (T:= "tuple") (by decide) rfl Z.isinstance rfl Z.tuple (by decide +kernel) (jv 0)))) (Mh (ĕ ĵ (WE Z (jv 0)) (jv 1))))) (zA Ī)) (zA (wJ (Zh rfl) rfl Z.all A7 (j1 (ļ 2 vO (zl (jv 0)) (λ_ _ _ _=>(Ds (jk Wm hr (j1 (jv 2))) (Gb (İ Ov (jv 2) jF)))))))))) ?_;rintro ds h Q ⟨d,k,rfl,ok,q⟩;refine⟨rfl,?_⟩;obtain⟨nm,hn⟩:=vk ok;simp only [vz,FH,ES,Di,ZJ,dIs,FG,vA,M7,dR,S7,O4,S9,Z5,A9,Y2,bX,D.bl.injEq,BK,dC,Bl,QX,Ĩ,wb,Vd,Ŗ,AT,dM,neD,cW,hn];cases d with
 |tup es=>
  cases hn;obtain⟨hl,ht⟩:=YL ok;simp only [SB]
  by_cases hk:(es.length:P0)=k
  ·simp only [hk];simp;refine RW (ds:=es) (h1:=h) (j:=λ_=>some es) (λx=> .bl (TB x)) (M5 (zk hl)) rfl (λR r=>⟨.tup es,rfl,r⟩) (λd hd Q' q'=> ?_) (λp hp=> ?_)
   ·obtain⟨nn,hnn⟩:=vk (ht d hd);refine⟨d,rfl,d,nn,rfl,hnn,NJ d,rfl,?_⟩;cases d with
    |int i=>exact yr ⟨.int i,rfl,q'⟩
    |_=>exact zF q'
   ·refine⟨p,es.map TB,rfl,by rw [jc];simp,h,?_,?_⟩
    ·rw [zG hp];exact Sub.refl h
    ·simpa [Bo,hk,Y8,bV] using q
  ·simp [hk];exact⟨h,Sub.refl h,by simpa [Bo,hk] using q⟩
 |_=>cases hn<;>exact⟨h,Sub.refl h,q⟩
def zw:RDn:=λds h Q=> ∃d,ds= [d]/\okD d=true/\Q (.bl (Fn d)) h
theorem Wf (Z:Zs mg)(F:ã K "has_table_form" "has_table_form" wC f fd)(Vn:je P w K mg base n "is_table_row" ["thing","size"] vU)(Za: ∃tk,mg "MOST_ROWS" =some (.int 6 tk)):Ë P w K mg base á (n+1) f fd ["thing"] (ä K zw):=by
 obtain⟨tk_MOST_ROWS,Ũ⟩:=Za;refine F.okM yS (λhr=>(Ż (Jq (ũ (Rc (yo (wM (Xx (T:= "tuple") (by decide) rfl Z.isinstance rfl Z.tuple (by decide +kernel) (jv 0)))) (Mh (yo (Mf Uh Uh jF (WE Z (jv 0)) (Dq rfl Ũ)))))) (zA Ī)) (zA (wJ (Zh rfl) rfl Z.all A7 (j1 (ļ 1 yS (zl (jv 0)) (λ_ _ _ _=>(jk Vn hr (j2 (jv 1) (WE Z (jv 0))))))))))) ?_;rintro ds h Q ⟨d,rfl,ok,q⟩;refine⟨rfl,?_⟩;obtain⟨nm,hn⟩:=vk ok;simp only [vz,FH,ES,Di,ZJ,dIs,FG,vA,M7,dR,S7,O4,S9,Z5,A9,Y2,bX,D.bl.injEq,BK,dC,Bl,QX,Ĩ,wb,Vd,Yi,AT,FI,cW,hn];cases d with
 |tup es=>
  cases hn;obtain⟨hl,ht⟩:=YL ok;simp only [SB]
  by_cases h1:1<=es.length
  ·by_cases h6:es.length<=6
   ·have θ:(1:P0)<=es.length:=by omega
    have h6':(es.length:P0)<=6:=by omega
    simp [θ,h6'];refine RW (ds:=es) (h1:=h) (j:=λ_=>some es) (λx=> .bl (Bo x es.length)) (M5 (zk hl)) rfl (λR r=>⟨.tup es,rfl,r⟩) (λd hd Q' q'=> ?_) (λp hp=> ?_)
    ·exact⟨d,rfl,.tup es,rfl,d,es.length,rfl,ht d hd,q'⟩
    ·refine⟨p,es.map λx=>Bo x es.length,rfl,by rw [jc];simp,h,?_,?_⟩
     ·rw [zG hp];exact Sub.refl h
     ·simpa [Fn,h1,h6,Y8,bV] using q
   ·have θ:(1:P0)<=es.length:=by omega
    have h6': ¬ (es.length:P0)<=6:=by omega
    simp [θ,h6'];exact⟨h,Sub.refl h,by simpa [Fn,h1,h6] using q⟩
  ·have θ: ¬ (1:P0)<=es.length:=by omega
   simp [θ];exact⟨h,Sub.refl h,by simpa [Fn,h1] using q⟩
 |_=>cases hn<;>exact⟨h,Sub.refl h,q⟩
theorem AD {x:P0}(h:0<=x):TB (.int x)=true:=D2 h
variable {T:G0 (G0 P0)}
theorem AE {e:G7}(h:Sq n e T){r:G0 P0}(hr:r∈T):Bo (ym r) n=true:=by
 simp only [Bo,ym,G1,h.row r hr,decide_true,K2,Y8,T6,K7];intro x hx;exact AD (h.nn r hr x hx)
theorem GI {e:G7}(h:Sq n e T)(h1:1<=n)(h6:n<=6):Fn (jg T)=true:=by
 simp only [Fn,jg,G1,h.len,D2 h1,D2 h6,K2,Y8,T6,K7];intro r hr;exact AE h hr
theorem NN {e:G7}(h:Sq n e T)(h6:n<=6):okD (jg T)=true:=
 VS (by rw [G1,h.len];omega) λd hd=>by
  obtain⟨r,hr,rfl⟩:=R9.mp hd;exact VS (by rw [G1,h.row r hr];omega) λd hd=>by obtain⟨x,_,rfl⟩:=R9.mp hd;rfl
def zX:RDn:=λds h Q=> ∃T,∃n e:G7,ds= [jg T]/\Sq n e T/\1<=n/\n<=6/\Q .non h
theorem UQ (Z:Zs mg)(F:ã K "want_table" "want_table" vP f fd)(zd:je P w K mg base n "has_table_form" ["thing"] zw):Ë P w K mg base á (n+1) f fd ["thing"] (ä K zX):=by
 refine F.okM UM (λhr=>(jR (Jq (yo (wM (jk zd hr (j1 (jv 0))))) Xz))) ?_;rintro ds h Q ⟨T,k,b,rfl,hT,h1,h6,q⟩;refine⟨rfl,?_⟩;refine⟨_,rfl,jg T,rfl,NN hT h6,_,rfl,?_⟩;rw [GI hT h1 h6];exact zF ⟨h,Sub.refl h,q⟩
def jI:RDn:=λds h Q=> ∃A Ts,∃n:G7,ds= [.lst A]/\h A=some (Ts.map jg)/\Ä n Ts/\Q .non h
theorem Vh (Z:Zs mg)(F:ã K "want_tables" "want_tables" vc f fd)(zd:je P w K mg base n "has_table_form" ["thing"] zw)(vw: ∃tk,mg "MOST_TABLES" =some (.int 3 tk))(zh: ∃tk,mg "MOST_ROWS_OF_SEVERAL" =some (.int 3 tk)):Ë P w K mg base á (n+1) f fd ["thing"] (ä K jI):=by
 obtain⟨tk_MOST_TABLES,ň⟩:=vw;obtain⟨tk_MOST_ROWS_OF_SEVERAL,þ⟩:=zh;refine F.okM Jy (λhr=>(Ż (Jq (ũ (Rc (yo (wM (Xx (T:= "list") (by decide) rfl Z.isinstance rfl Z.list (by decide +kernel) (jv 0)))) (Mh (yo (Mf Uh Uh jF (WE Z (jv 0)) (Dq rfl ň)))))) Xz) (Re F8 rfl (Zl rfl Z.enumerate (j1 (jv 0))) (yM (i:=1) (j:=2) rfl Jy.nd rfl rfl (H0 rfl) (H0 rfl)) (jR (Jq (ũ (Rc (yo (wM (jk zd hr (j1 (jv 2))))) (Rc (ĕ Sx (WE Z (jv 2)) (Dq rfl þ)) (Mh (ĕ ĵ (WE Z (jv 2)) (WE Z (ċ (jv 0) jF))))))) Xz))))) ?_;rintro ds h Q ⟨A,Ts,n,rfl,kA,hT,q⟩;refine⟨rfl,?_⟩;have hlen:(((Ts.map jg).length:G7):P0)=(Ts.length:P0):=by rw [G1]
 have l1:=hT.l1;have l3:=hT.l3;refine jT [some (.lst A),none,none] (λC hC=> ?_) ?_
 ·refine⟨_,rfl,"list",rfl,_,rfl,zF ⟨_,rfl,_,kA,_,rfl,?_⟩⟩;rw [hlen];have e1:decide ((1:P0)<=(Ts.length:P0))=true:=D2 (by omega);have e2:decide ((Ts.length:P0)<=3)=true:=D2 (by omega);show if decide ((1:P0)<=(Ts.length:P0))=true then _ else _
  rw [e1];refine yr ⟨_,rfl,?_⟩;show if (!decide ((Ts.length:P0)<=3))=true then _ else _
  rw [e2];exact zF (hC)
 refine Zi (h1:=h) (j:=λh=>(h A).map Yp) (Yp (Ts.map jg)) (λi Â h'=> ∃a b,Â= [some (.lst A),a,b]/\h=h') (λR r=>⟨_,rfl,A,rfl,r⟩) (λi Â h' ⟨_,_,_,e⟩=>by rw [<-e];show (h A).map Yp=_;rw [kA];rfl) ⟨none,none,rfl,rfl⟩ (λÂ h' ⟨_,_,_,e⟩=>⟨h,e ▸ Sub.refl h,q⟩) ?_;rintro i d _ _ hd ⟨a,b,rfl,rfl⟩;obtain⟨x,hx,rfl⟩:=WQ hd;have ľ:i+1<=(Yp (Ts.map jg)).length:=(P8.mp hd).1;obtain⟨T,hTm,rfl⟩:=R9.mp (P9 hx);have sT:=hT.sq T hTm;have s0:=hT.get (i:=0) (by omega);have n1:=hT.n1;have n3:=hT.n3;have e0:=Ys hT (i:=0) (by omega);refine⟨_,_,rfl,_,rfl,jg T,rfl,NN sT (by omega),?_⟩;rw [GI sT n1 (by omega)];refine⟨_,rfl,zF ⟨_,rfl,_,rfl,?_⟩⟩;have g1:decide ((((T.map ym).length:G7):P0)>3)=false:=R8 (by rw [G1,sT.len];omega);show if decide ((((T.map ym).length:G7):P0)>3)=true then _ else _
 rw [g1];refine zF ⟨_,rfl,_,rfl,_,_,kA,e0,_,rfl,?_⟩;have g2:(!decide ((((T.map ym).length:G7):P0)=((((Ts.getD 0 []).map ym).length:G7):P0)))=false:=by rw [G1,G1,sT.len,s0.len];simp
 show if (!decide ((((T.map ym).length:G7):P0)=((((Ts.getD 0 []).map ym).length:G7):P0)))=true then _ else _
 rw [g2];exact zF ⟨_,Sub.refl _,ľ,_,_,rfl,rfl⟩
def YQ:RDn:=λds h Q=> ∃A Ts d,∃n:G7,ds= [.lst A,d]/\h A=some (Ts.map jg)/\Ä n Ts/\okD d=true/\QN d (Ts.length:P0) 1 60=true/\Q .non h
theorem GJ (Z:Zs mg)(F:ã K "want_way" "want_way" ZZ f fd)(WW:je P w K mg base n "is_way" ["thing","many","least","most"] YN)(Wn: ∃tk,mg "MOST_WAY" =some (.int 60 tk)):Ë P w K mg base á (n+1) f fd ["tables","thing"] (ä K YQ):=by
 obtain⟨tk_MOST_WAY,Ų⟩:=Wn;refine F.okM GD (λhr=>(jR (Jq (yo (wM (jk WW hr (j4 (jv 1) (WE Z (jv 0)) jF (Dq rfl Ų))))) Xz))) ?_;rintro ds h Q ⟨A,Ts,d,n,rfl,kA,hT,ok,hw,q⟩;refine⟨rfl,?_⟩;refine⟨_,rfl,_,rfl,_,kA,d,(Ts.length:P0),1,60,by rw [G1],ok,_,rfl,?_⟩;rw [hw];exact zF ⟨h,Sub.refl h,q⟩
def vn:RDn:=λds h Q=> ∃T U,∃n e f:G7,ds= [jg T,jg U]/\Sq n e T/\Sq n f U/\e+f<=1000000/\n<=6/\Q (jg (wW n T U)) h
theorem UR (Z:Zs mg)(F:ã K "multiplied" "multiplied" vQ f fd):Ë P w K mg base á (n+1) f fd ["one","other"] (ä K vn):=by
 refine F.okM zV (λhr=>(Ż (ø 2 zV (WE Z (jv 0))) (zA (jM zc rfl Z.tuple (by decide +kernel) (j1 (ļ 3 zV (zl (jv 0)) (λ_ _ _ _=>(jM zc rfl Z.tuple (by decide +kernel) (j1 (ļ 4 zV (ź Z (jv 2)) (λ_ _ _ _=>(wJ (OD rfl) rfl Z.sum (by decide +kernel) (j1 (ļ 5 zV (ź Z (jv 2)) (λ_ _ _ _=>(ú OL (ċ (jv 3) (jv 5)) (ċ (ċ (jv 1) (jv 5)) (jv 4)))))))))))))))))) ?_;rintro ds h Q ⟨T,U,k,b,f,rfl,hT,hU,hb,h6,q⟩;refine⟨rfl,?_⟩;refine jf (λÂ h'=>Â= [some (jg T),some (jg U),some (.int (k:P0)),none,none,none]/\h=h') (λC hC=>⟨_,rfl,hC _ _ ⟨by rw [G1,hT.len];rfl,rfl⟩⟩) ?_;rintro _ _ ⟨rfl,rfl⟩;refine Mn T ym (λr=> .tup ((P4 k).map λj=> .int (jN k λm=>r.getD m 0*Î U m j))) (by rw [hT.len];omega) rfl (λR r=>⟨_,rfl,r⟩) (λr hr Q' q'=> ?_) ⟨h,Sub.refl h,?_⟩
 ·refine Mn (P4 k) (λj=> .int (j:P0)) (λj=> .int (jN k λm=>r.getD m 0*Î U m j)) (by rw [S6];omega) rfl (λR rr=>⟨_,rfl,(k:P0),rfl,by omega,by omega,rr⟩) (λj hj Q'' Ū=> ?_) q';refine xv (P4 k) (λm=> .int (m:P0)) (λm=>r.getD m 0*Î U m j) (by rw [S6];omega) rfl (λR rr=>⟨_,rfl,(k:P0),rfl,by omega,by omega,rr⟩) (λm hm Q3 q3=> ?_) Ū;have hm':=S0.mp hm;have hj':=S0.mp hj;refine⟨_,rfl,_,rfl,_,Ut (hT.row r hr) hm',_,rfl,_,rfl,_,ON hU hm',_,rfl,_,Ut (hU.row _ (Sq.getRow hU hm')) hj',?_,q3⟩;refine BV (e:=b) (f:=f) ?_ (hU.ent_nn hm' hj') (by omega);have hm2:m<r.length:=by rw [hT.row r hr];exact hm'
  have e1:r.getD m 0=r[m]:=by rw [S1,G2 hm2];rfl
  rw [e1];exact⟨hT.nn r hr _ (N6 hm2),hT.bit r hr _ (N6 hm2)⟩
 ·rw [BX hT];exact q
def vD:RDn:=λds h Q=> ∃n:G7,ds= [.int (n:P0)]/\n<=6/\Q (jg (zU n)) h
theorem WH (Z:Zs mg)(F:ã K "power_of_none" "power_of_none" ye f fd):Ë P w K mg base á (n+1) f fd ["size"] (ä K vD):=by
 refine F.okM wD (λhr=>(jR (zA (jM zc rfl Z.tuple (by decide +kernel) (j1 (ļ 1 wD (ź Z (jv 0)) (λ_ _ _ _=>(jM zc rfl Z.tuple (by decide +kernel) (j1 (ļ 2 wD (ź Z (jv 0)) (λ_ _ _ _=>(jif (ĕ (Vz hr.units) (jv 1) (jv 2)) jF jF)))))))))))) ?_;rintro ds h Q ⟨k,rfl,h6,q⟩;refine⟨rfl,?_⟩;refine Mn (P4 k) (λj=> .int (j:P0)) (λi=> .tup ((P4 k).map λj=> .int (if i=j then 1 else 0))) (by rw [S6];omega) rfl (λR r=>⟨_,rfl,(k:P0),rfl,by omega,by omega,r⟩) (λi hi Q' q'=> ?_) ⟨h,Sub.refl h,?_⟩
 ·refine Mn (P4 k) (λj=> .int (j:P0)) (λj=> .int (if i=j then 1 else 0)) (by rw [S6];omega) rfl (λR rr=>⟨_,rfl,(k:P0),rfl,by omega,by omega,rr⟩) (λj hj Q'' Ū=>⟨_,rfl,_,rfl,_,rfl,?_⟩) q'
  by_cases z:i=j
  ·subst z;rw [R5 rfl] at Ū;rw [D2 rfl];exact yr Ū
  ·rw [R3 z] at Ū;have:decide ((i:P0)=(j:P0))=false:=R8 (by omega);rw [this];exact zF Ū
 ·rw [Mo];exact q
def VT:RDn:=λds h Q=> ∃T U,∃n e f:G7,ds= [jg T,jg U]/\Sq n e T/\Sq n f U/\e+f<=1000000/\1<=n/\n<=6/\Q (jg (wW n T U)) h
theorem DL (Z:Zs mg)(F:ã K "product" "product" YF f fd)(jY:je P w K mg base n "want_table" ["thing"] zX)(Ja:je P w K mg base n "multiplied" ["one","other"] vn):Ë P w K mg base á (n+1) f fd ["one","other"] (ä K VT):=by
 refine F.okM DI (λhr=>(js4 (yp (jk jY hr (j1 (jv 0)))) (yp (jk jY hr (j1 (jv 1)))) (Jq (ĕ ĵ (WE Z (jv 0)) (WE Z (jv 1))) Xz) (zA (jk Ja hr (j2 (jv 0) (jv 1)))))) ?_;rintro ds h Q ⟨T,U,k,b,f,rfl,hT,hU,hb,h1,h6,q⟩;refine⟨rfl,?_⟩;refine⟨_,rfl,T,k,b,rfl,hT,h1,h6,_,rfl,U,k,f,rfl,hU,h1,h6,_,rfl,_,rfl,?_⟩;have hl:decide (((T.map ym).length:P0)=((U.map ym).length:P0))=true:=by rw [G1,G1,hT.len,hU.len];exact D2 rfl
 refine⟨_,rfl,?_⟩;rw [hl];exact zF ⟨_,rfl,_,rfl,T,U,k,b,f,rfl,hT,hU,hb,h6,h,Sub.refl h,q⟩
def vV:RDn:=λds h Q=> ∃T,∃n e:G7,ds= [jg T]/\Sq n e T/\1<=n/\n<=6/\Q (.bl (jm T)) h
theorem AF (Z:Zs mg)(F:ã K "full" "full" NI f fd)(jY:je P w K mg base n "want_table" ["thing"] zX):Ë P w K mg base á (n+1) f fd ["table"] (ä K vV):=by
 refine F.okM Bh (λhr=>(Ż (yp (jk jY hr (j1 (jv 0)))) (zA (wJ (Zh rfl) rfl Z.all A7 (j1 (ui (i:=1) (i':=2) (js:= [1,2]) rfl (jP (by rfl)) (zl (jv 0)) (by decide) (by decide) (by decide) Bh.nd rfl rfl (by first|exact H0 rfl|exact W0 rfl) (by first|exact H0 rfl|exact W0 rfl) (λX' hX=>wZ) (λX' hX=>by obtain⟨C,s₀,H₀,ex,rfl⟩:=hX;exact(zl (jv 1))) (λX' hX=>wZ) (λX' hX=>by obtain⟨C,s₀,H₀,ex,rfl⟩:=hX;exact(İ ĵ (jv 2) jF)))))))) ?_;rintro ds h Q ⟨T,k,b,rfl,hT,h1,h6,q⟩;refine⟨rfl,?_⟩;refine jT [some (jg T),none,none] (λC hC=>⟨_,rfl,T,k,b,rfl,hT,h1,h6,hC⟩) ?_;refine xw T ym (λr=>r) D.int (λ_ x=>decide (x≠0)) (BW hT h6) rfl (λR r=>⟨_,rfl,r⟩) (λr hr R rr=>⟨_,rfl,rr⟩) (λr hr x hx Q' q'=>⟨_,rfl,?_⟩) ⟨h,Sub.refl h,q⟩;show Q' (.bl (!decide (x=0))) h;have e:(!decide (x=0))=decide (x≠0):=by simp
 rw [e];exact q'
def vo:RDn:=λds h Q=> ∃T,∃n e:G7,ds= [jg T]/\Sq n e T/\1<=n/\n<=6/\Q (jg (jn n T)) h
theorem Fq (Z:Zs mg)(F:ã K "marks" "marks" GE f fd)(jY:je P w K mg base n "want_table" ["thing"] zX):Ë P w K mg base á (n+1) f fd ["table"] (ä K vo):=by
 refine F.okM UN (λhr=>(Ż (yp (jk jY hr (j1 (jv 0)))) (zA (jM zc rfl Z.tuple (by decide +kernel) (j1 (ļ 1 UN (zl (jv 0)) (λ_ _ _ _=>(jM zc rfl Z.tuple (by decide +kernel) (j1 (ļ 2 UN (zl (jv 1)) (λ_ _ _ _=>(jif (ĕ ĵ (jv 2) jF) jF jF)))))))))))) ?_;rintro ds h Q ⟨T,k,b,rfl,hT,h1,h6,q⟩;refine⟨rfl,?_⟩;refine jT [some (jg T),none,none] (λC hC=>⟨_,rfl,T,k,b,rfl,hT,h1,h6,hC⟩) ?_;refine Mn T ym (λr=> .tup (r.map λx=> .int (if x≠0 then 1 else 0))) (by rw [hT.len];omega) rfl (λR r=>⟨_,rfl,r⟩) (λr hr Q' q'=> ?_) ⟨h,Sub.refl h,?_⟩
 ·refine Mn r D.int (λx=> .int (if x≠0 then 1 else 0)) (by rw [hT.row r hr];omega) rfl (λR r=>⟨_,rfl,r⟩) (λx hx Q'' Ū=>⟨_,rfl,_,rfl,?_⟩) q'
  by_cases z:x=0
  ·subst z;exact zF Ū
  ·have e:(!decide (x=0))=true:=by simp [z]
   rw [e];rw [R5 z] at Ū;exact yr Ū
 ·rw [OO,<-OP hT];exact q
def Qs:RDn:=λds h Q=> ∃T,∃n e:G7,ds= [jg T]/\Sq n e T/\1<=n/\n<=6/\Q (jg (wj n T)) h
theorem NO (Z:Zs mg)(F:ã K "turned" "turned" UO f fd)(jY:je P w K mg base n "want_table" ["thing"] zX):Ë P w K mg base á (n+1) f fd ["table"] (ä K Qs):=by
 refine F.okM YG (λhr=>(Ż (yp (jk jY hr (j1 (jv 0)))) (zA (jM zc rfl Z.tuple (by decide +kernel) (j1 (ļ 1 YG (ź Z (WE Z (jv 0))) (λ_ _ _ _=>(jM zc rfl Z.tuple (by decide +kernel) (j1 (ļ 2 YG (zl (jv 0)) (λ_ _ _ _=>(ċ (jv 2) (jv 1))))))))))))) ?_;rintro ds h Q ⟨T,k,b,rfl,hT,h1,h6,q⟩;refine⟨rfl,?_⟩;refine jT [some (jg T),none,none] (λC hC=>⟨_,rfl,T,k,b,rfl,hT,h1,h6,hC⟩) ?_;refine Mn (P4 k) (λj=> .int (j:P0)) (λj=> .tup (T.map λr=> .int (r.getD j 0))) (by rw [S6];omega) rfl (λR r=>⟨_,rfl,(k:P0),by rw [G1,hT.len],by omega,by omega,r⟩) (λj hj Q' q'=> ?_) ⟨h,Sub.refl h,?_⟩
 ·refine Mn T ym (λr=> .int (r.getD j 0)) (by rw [hT.len];omega) rfl (λR r=>⟨_,rfl,r⟩) (λr hr Q'' Ū=>⟨_,rfl,_,rfl,_,Ut (hT.row r hr) (S0.mp hj),Ū⟩) q'
 ·have e1: ∀j,T.map (λr=>D.int (r.getD j 0))=(P4 k).map λi=>D.int (Î T i j):=λj=>by
   conv=>lhs;rw [zT T [],hT.len]
   rw [R4];rfl
  have e2:((P4 k).map λj=>D.tup (T.map λr=> .int (r.getD j 0)))=(P4 k).map λj=>D.tup ((P4 k).map λi=>D.int (Î T i j)):=M6 λj _=>by rw [e1]
  rw [e2,Mo];exact q
def zf:RDn:=λds h Q=> ∃M T,∃n e:G7,ds= [jg M,jg T]/\Sq n 1 M/\Sq n e T/\1<=n/\n<=6/\e<=1000/\Q (jg (Ü n T M)) h
theorem Vi (Z:Zs mg)(F:ã K "marks_after" "marks_after" vd f fd)(yj:je P w K mg base n "marks" ["table"] vo)(Ja:je P w K mg base n "multiplied" ["one","other"] vn):Ë P w K mg base á (n+1) f fd ["ahead","table"] (ä K zf):=by
 refine F.okM Vg (λhr=>(jR (zA (jk yj hr (j1 (jk Ja hr (j2 (jv 0) (jv 1)))))))) ?_;rintro ds h Q ⟨M,T,n,b,rfl,hM,hT,h1,h6,hb,q⟩;refine⟨rfl,?_⟩;exact⟨_,rfl,_,rfl,M,T,n,1,b,rfl,hM,hT,by omega,h6,wW n M T,n,_,rfl,hM.mul hT (by omega),h1,h6,h,Sub.refl h,q⟩
def yh:RDn:=λds h Q=> ∃T,∃n e:G7,ds= [jg T]/\Sq n e T/\1<=n/\n<=6/\e<=1000/\ ∀A L J h',h A=none->h' A=some ((P4 L).map λi=>jg (wO n T i))->Sub h h'->ű n T L J->L<=2225->Q (.tup [.lst A,.int ((J:G7):P0)]) h'
theorem JZ (Z:Zs mg)(F:ã K "marks_and_return" "marks_and_return" zW f fd)(yj:je P w K mg base n "marks" ["table"] vo)(jE:je P w K mg base n "marks_after" ["ahead","table"] zf):Ë P w K mg base á (n+1) f fd ["table"] (ä K yh):=by
 refine F.okM za (λhr=>(js4 (ø 1 za (Uo (j1 (jk yj hr (j1 (jv 0)))))) (ø 2 za (jk jE hr (j2 (ċ (jv 1) (Kr jF)) (jv 0)))) (XE F8 (Ga (WR hr.units) (jv 2) (jv 1) (by with_unfolding_all rfl)) (Ż (yp (OJ (jv 1) (jv 2))) (ø 2 za (jk jE hr (j2 (jv 2) (jv 0)))))) (zA (Mi (j2 (jv 1) (uo hr.units (jv 1) (jv 2))))))) ?_;rintro ds h Q ⟨T,n,bb,rfl,hT,h1,h6,hb,q⟩;refine⟨rfl,?_⟩;refine jf (λÂ h'=> ∃A,Â= [some (jg T),some (.lst A),none]/\h A=none/\h' A=some ((P4 1).map λi=>jg (wO n T i))/\Sub h h') (λC hC=>⟨_,rfl,T,n,bb,rfl,hT,h1,h6,ι,λA eA=>hC _ _ ⟨A,rfl,eA,jc,Sub.newAt (Sub.refl h) eA⟩⟩) ?_;rintro _ θ ⟨A,rfl,fA,kA,sbA⟩;refine jT [some (jg T),some (.lst A),some (jg (wO n T 1))] (λC hC=>⟨_,rfl,_,_,kA,XM (by decide),_,rfl,wO n T 0,T,n,bb,rfl,Gi n T 0,hT,h1,h6,hb,hC⟩) ?_;refine jf (λÂ h'=> ∃L,Â= [some (jg T),some (.lst A),some (jg (wO n T L))]/\h' A=some ((P4 L).map λi=>jg (wO n T i))/\Sub h h'/\L<=2225/\((P4 L).map (wO n T)).Nodup/\wO n T L∈(P4 L).map (wO n T)) (λC hC=> ?_) ?_
 ·refine Zk (λm Â h'=> ∃L,Â= [some (jg T),some (.lst A),some (jg (wO n T L))]/\h' A=some ((P4 L).map λi=>jg (wO n T i))/\Sub h h'/\m=2226-L/\((P4 L).map (wO n T)).Nodup) _ ⟨_,rfl,kA,sbA,rfl,by simp⟩ ?_;rintro m _ h2 ⟨L,rfl,Ξ,ŕ,hm,nd⟩;have hL:=MC hT h1 h6 nd;have υ:h2 A=some (((P4 L).map (wO n T)).map jg):=by rw [Ξ,R4];rfl
  refine⟨_,rfl,_,rfl,Mx ā υ λbo hbo=>⟨_,rfl,Vt (λc=> ?_) (λc=> ?_)⟩⟩
  rotate_left
  ·refine hC _ _ ⟨L,rfl,Ξ,ŕ,hL,nd,hbo.mp ?_⟩;cases bo with
   |true=>rfl
   |false=>exact absurd rfl c
  have hni:wO n T L ∉ (P4 L).map (wO n T):=λz=>by rw [hbo.mpr z] at c;exact absurd c (by decide)
  refine jf (λÂ h'=>Â= [some (jg T),some (.lst A),some (jg (wO n T L))]/\h' A=some ((P4 (L+1)).map λi=>jg (wO n T i))/\Sub h h') (λC2 ŀ=> ?_) ?_
  ·refine⟨_,rfl,A,rfl,_,rfl,_,Ξ,?_,ŀ _ _ ⟨rfl,?_,?_⟩⟩
   ·rw [G1,S6];exact J5 hL (by decide)
   ·rw [jc,V5,R1];rfl
   ·exact(ŕ).over fA
  rintro _ h3 ⟨rfl,kA4,sb4⟩;refine⟨_,rfl,_,rfl,wO n T L,T,n,bb,rfl,Gi n T L,hT,h1,h6,hb,2226-(L+1),_,by omega,Sub.refl _,L+1,rfl,kA4,sb4,rfl,?_⟩;rw [V5,R1,K9];exact⟨nd,by simp,λx hx y hy=>by rw [G9.mp (show y∈ [wO n T L] from hy)];intro e;exact hni (e ▸ hx)⟩
 rintro _ h3 ⟨L,rfl,υ,Ο,hL,nd,Γ⟩;have kA4:h3 A=some (((P4 L).map (wO n T)).map jg):=by rw [υ,R4];rfl
 obtain⟨J,pd,ps,zz,hat,t1,t2,c1,c2,c3,c4,c5,c6,c7⟩:=FQ ā kA4 Γ (by simp;omega);have hJL:J<L:=by have:=(P8.mp hat).1;simpa using this
 have hJe:wO n T L=wO n T J:=by
  rw [D1,I0 hJL] at hat;injection hat with hat
  exact hat.symm
 exact⟨_,rfl,_,rfl,A,rfl,_,rfl,pd,ps,J,zz,t1,t2,c1,c2,c3,c4,c5,c6,c7,Μ,h3,Sub.refl _,q A L J h3 fA υ Ο ⟨nd,hJL,hJe⟩ hL⟩
def Wz:RDn:=λds h Q=> ∃T,∃n e:G7,ds= [jg T]/\Sq n e T/\1<=n/\n<=6/\e<=1000/\ ∀A L J h',h A=none->h' A=some ((P4 L).map λi=>jg (wO n T i))->Sub h h'->ű n T L J->L<=2225->Q (.lst A) h'
theorem Qt (Z:Zs mg)(F:ã K "all_marks" "all_marks" JR f fd)(ZC:je P w K mg base n "marks_and_return" ["table"] yh):Ë P w K mg base á (n+1) f fd ["table"] (ä K Wz):=by
 refine F.okM Qp (λhr=>(jR (zA (ċ (jk ZC hr (j1 (jv 0))) jF)))) ?_;rintro ds h Q ⟨T,n,bb,rfl,hT,h1,h6,hb,q⟩;refine⟨rfl,?_⟩;exact⟨_,rfl,T,n,bb,rfl,hT,h1,h6,hb,λA L J h' fA kA sb c hL=>⟨_,rfl,h',Sub.refl _,q A L J h' fA kA sb c hL⟩⟩
def yK:RDn:=λds h Q=> ∃A Ts W,∃n:G7,ds= [.lst A,zt W]/\h A=some (Ts.map jg)/\Ä n Ts/\(∀i∈W,i<Ts.length)/\W.length<=1300/\Q (jg (zB n Ts (zU n) W)) h
theorem Vj (Z:Zs mg)(F:ã K "marks_along" "marks_along" ve f fd)(YW:je P w K mg base n "power_of_none" ["size"] vD)(jE:je P w K mg base n "marks_after" ["ahead","table"] zf):Ë P w K mg base á (n+1) f fd ["tables","way"] (ä K yK):=by
 refine F.okM wt (λhr=>(μ (ø 2 wt (jk YW hr (j1 (WE Z (ċ (jv 0) jF))))) (Re F8 rfl (zl (jv 1)) (jgn 3 wt) (jR (ø 2 wt (jk jE hr (j2 (jv 2) (ċ (jv 0) (jv 3))))))) (zA (jv 2)))) ?_;rintro ds h Q ⟨A,Ts,W,n,rfl,kA,hT,hW,hl,q⟩;refine⟨rfl,?_⟩;have n1:=hT.n1;have n3:=hT.n3;have l1:=hT.l1;have s0:=hT.get (i:=0) (by omega);have e0:=Ys hT (i:=0) (by omega);refine jT [some (.lst A),some (zt W),some (jg (zU n)),none] (λC hC=>⟨_,rfl,_,_,kA,e0,n,by rw [G1,s0.len],by omega,hC⟩) ?_;refine jf (λÂ h'=> ∃a,Â= [some (.lst A),some (zt W),some (jg (zB n Ts (zU n) W)),a]/\h=h') (λC hC=> ?_) (λÂ h' ⟨a,e,eh⟩=>by subst e eh;exact⟨_,rfl,h,Sub.refl h,q⟩);refine Zi (h1:=h) (j:=λ_=>some (W.map λ(k:G7)=>D.int (k:P0))) (W.map λ(k:G7)=>D.int (k:P0)) (λi Â h'=> ∃a,Â= [some (.lst A),some (zt W),some (jg (zB n Ts (zU n) (W.take i))),a]/\h=h') (λR r=>⟨_,rfl,r⟩) (λ_ _ _ _=>rfl) ⟨none,rfl,rfl⟩ (λÂ h' ⟨a,e,eh⟩=>hC _ _ ⟨a,by rw [e,G1,U0],eh⟩) ?_;rintro i d _ _ hd ⟨a,rfl,rfl⟩;have ľ:=(P8.mp hd).1;rw [G1] at ľ;rw [D1,G2 ľ] at hd;injection hd with hd
 subst hd;have hw:=hW _ (N6 ľ);have eT:zB n Ts (zU n) (W.take (i+1))=Ü n (Ts.getD W[i] []) (zB n Ts (zU n) (W.take i)):=by
  rw [B6,G2 ľ];exact JL _ _ _
 refine⟨_,rfl,_,rfl,_,rfl,_,_,kA,Ys hT hw,zB n Ts (zU n) (W.take i),Ts.getD W[i] [],n,20,rfl,VH _ (Sq.one n) _,hT.get hw,n1,by omega,by decide,_,Sub.refl _,by rw [G1];omega,some (.int ((W[i]:G7):P0)),?_,rfl⟩;rw [eT];rfl
/-- X0t comes next behind each of Ś marks -/
def nxD (n:G7)(Ts:G0 (G0 (G0 P0)))(M:G0 (G0 P0)):G0 D:=(P4 Ts.length).map λi=>jg (Ü n (Ts.getD i []) M)
def Ă (n:G7)(Ts:G0 (G0 (G0 P0)))(F:Fnd)(L:P7 P1)(kv:G0 (G0 (G0 P0)×D))(h:HD):Prop:=kv.map (·.1)=F.map (·.1)/\ ∀p∈kv,∃X,p.2= .lst X/\h X=some (nxD n Ts p.1)/\some X≠L
variable {Ts:G0 (G0 (G0 P0))}{F:Fnd}{kv:G0 (G0 (G0 P0)×D)}
theorem Ă.len {L:P7 P1}(x:Ă n Ts F L kv h):kv.length=F.length:=by
 have:=congrArg K8 x.1
 rwa [G1,G1] at this
theorem Ă.none {L:P7 P1}(x:Ă n Ts F L kv h)(g:(zJ F T).isSome=false):zJ kv T=none:=by
 have no:T ∉ F.map (·.1):=Gr (by cases z:zJ F T with
  |none=>rfl
  |some _=>rw [z] at g;cases g)
 rw [<-x.1] at no;cases z:zJ kv T with
 |none=>rfl
 |some d=>
  unfold zJ at z;obtain⟨p,hp,_⟩:=F9.mp z;exact absurd (R9.mpr ⟨p,K5 hp,by have z:=bL hp;exact C4 z⟩) no
theorem Fs {w:G0 G7}(hw:w≠ [])(a:G7):Ŧ n Ts (w++ [a])= .tup [.tup ((w.map λ(k:G7)=>D.int (k:P0))++ [.int (a:P0)]),jg (Ü n (Ts.getD a []) (Ó n Ts w))]:=by
 unfold Ŧ zt;rw [Jk hw,R1];rfl
theorem AG {s:Fnd×G0 (G0 G7)}{w:G0 G7}:(s.2++(P4 Ts.length).map λa=>w++ [a]).map (Ŧ n Ts)=s.2.map (Ŧ n Ts)++(P4 Ts.length).map λa=>Ŧ n Ts (w++ [a]):=by
 rw [R1,R4];rfl
variable {i:G7}
theorem NP {s0:Fnd×G0 (G0 G7)}{ws:G0 (G0 G7)}{w:G0 G7}(e:ws[i]? =some w):(ws.take (i+1)).foldl (ņ n Ts) s0=ņ n Ts ((ws.take i).foldl (ņ n Ts) s0) w:=by
 rw [iN,e,dY];rfl
inductive WnW (n:G7)(Ts:G0 (G0 (G0 P0)))(h:HD)(A W N:P1)(m:G7)(Â:SD)(h':HD):Prop
 |mk (k:G7) (Fr:P1) (b4 b5 b6:P7 D) (ep â:G7) (kv:G0 (G0 (G0 P0)×D)) (s:Fnd×G0 (G0 G7)) (z1:Â= [some (.lst A),some (.dct W),some (.dct N),some (.lst Fr),b4,b5,b6,none,none,none]) (z2:s=Č n Ts k) (z3:h' A=some (Ts.map jg)) (z4:h'.dc W=some (.tk ep (č s.1))) (z5:h'.dc N=some (.tk â kv)) (z6:Ă n Ts s.1 none kv h') (z7:h' Fr=some (s.2.map (Ŧ n Ts))) (z8:Sub h h') (z9:m=DG s) (z10:k+m<=1025):WnW n Ts h A W N m Â h'
inductive WnF (n:G7)(Ts:G0 (G0 (G0 P0)))(h:HD)(A W N Fr L:P1)(s:Fnd×G0 (G0 G7))(i:G7)(Â:SD)(h':HD):Prop
 |mk (b5 b6:P7 D) (ep â:G7) (kv:G0 (G0 (G0 P0)×D)) (s':Fnd×G0 (G0 G7)) (z1:Â= [some (.lst A),some (.dct W),some (.dct N),some (.lst Fr),some (.lst L),b5,b6,none,none,none]) (z2:s'=(s.2.take i).foldl (ņ n Ts) (s.1,[])) (z3:h' A=some (Ts.map jg)) (z4:h'.dc W=some (.tk ep (č s'.1))) (z5:h'.dc N=some (.tk â kv)) (z6:Ă n Ts s'.1 (some L) kv h') (z7:h' Fr=some (s.2.map (Ŧ n Ts))) (z8:h' L=some (s'.2.map (Ŧ n Ts))) (z9:Sub h h'):WnF n Ts h A W N Fr L s i Â h'
inductive WnC (n:G7)(Ts:G0 (G0 (G0 P0)))(h:HD)(A W N Fr L:P1)(σ0:SD)(ks kn:Fnd)(â:G7)(kv:G0 (G0 (G0 P0)×D))(s2 ls:G0 (G0 G7))(Â:SD)(h':HD):Prop
 |mk (ep:G7) (z1:Â=σ0) (z3:h' A=some (Ts.map jg)) (z4:h'.dc W=some (.tk ep (č ks))) (z5:h'.dc N=some (.tk â kv)) (z6:Ă n Ts kn (some L) kv h') (z7:h' Fr=some (s2.map (Ŧ n Ts))) (z8:h' L=some (ls.map (Ŧ n Ts))) (z9:Sub h h'):WnC n Ts h A W N Fr L σ0 ks kn â kv s2 ls Â h'
def jV:RDn:=λds h Q=> ∃A Ts,∃n:G7,ds= [.lst A]/\h A=some (Ts.map jg)/\Ä n Ts/\ ∀W N ep â kv h',h'.dc W=some (.tk ep (č (ÿ n Ts)))->h'.dc N=some (.tk â kv)->Ă n Ts (ÿ n Ts) none kv h'->Sub h h'->Q (.tup [.dct W,.dct N]) h'
theorem Wg (Z:Zs mg)(F:ã K "ways_and_nexts" "ways_and_nexts" wE f fd)(yj:je P w K mg base n "marks" ["table"] vo)(jE:je P w K mg base n "marks_after" ["ahead","table"] zf):Ë P w K mg base á (n+1) f fd ["tables"] (ä K jV):=by
 refine F.okM jA (λhr=>(js5 (ø 1 jA FU) (ø 2 jA FU) (OH (i:=7) (j:=8) (k:=3) (js:= [7,8]) rfl jA.nd rfl (H0 rfl) (jP (by rfl)) (Zl rfl Z.enumerate (j1 (jv 0))) (by decide) (by decide) (by decide) rfl rfl (by first|exact H0 rfl|exact W0 rfl) (by first|exact H0 rfl|exact W0 rfl) (λX' hX=>wZ) (λX' hX=>by obtain⟨C,s₀,H₀,ex,rfl⟩:=hX;exact(Mi (j2 (Mi (j1 (jv 7))) (jk yj hr (j1 (jv 8))))))) (XE F8 (Ta (jv 3)) (μ (ø 4 jA (Uo Js)) (Re F8 rfl (zl (jv 3)) (yM (i:=5) (j:=6) rfl jA.nd rfl rfl (by first|exact W0 rfl|exact H0 rfl) (by first|exact W0 rfl|exact H0 rfl)) (jR (Kn (Ga (Nc hr) (jv 6) (jv 1) (by with_unfolding_all rfl)) (μ (Tl hr (jv 1) (jv 6) (jv 5)) (Tl hr (jv 2) (jv 6) (ļ 8 jA (zl (jv 0)) (λ_ _ _ _=>(jk jE hr (j2 (jv 6) (jv 8)))))) (yp (xJ (jv 4) (Kp (i:=7) (j:=9) (js:= [7,9]) rfl (jP (by rfl)) (Zl rfl Z.enumerate (j1 (Tk hr (jv 2) (jv 6)))) (by decide) (by decide) (by decide) jA.nd rfl rfl (by first|exact H0 rfl|exact W0 rfl) (by first|exact H0 rfl|exact W0 rfl) (λX' hX=>wZ) (λX' hX=>by obtain⟨C,s₀,H₀,ex,rfl⟩:=hX;exact(Mi (j2 (ú zS (jv 5) (Mi (j1 (jv 7)))) (jv 9)))))))) Mj))) (ø 3 jA (jv 4)))) (zA (Mi (j2 (jv 1) (jv 2)))))) ?_;rintro ds h Q ⟨A,Ts,n,rfl,kA,hT,q⟩;refine⟨rfl,?_⟩;have n1:=hT.n1;have n3:=hT.n3;have l3:=hT.l3;have big: ∀x,x<=3000->x<=sizeLine:=λx hx=>S5 hx (by decide)
 refine jf (λÂ h'=> ∃W,Â= [some (.lst A),some (.dct W),none,none,none,none,none,none,none,none]/\h.dc W=none/\h' A=some (Ts.map jg)/\h'.dc W=some (.tk 0 [])/\Sub h h') (λC hC=>λW eW=>hC _ _ ⟨W,rfl,eW,kA,zR,.newC eW⟩) ?_;rintro _ h1 ⟨W,rfl,fW,kA1,kW,sb1⟩;refine jf (λÂ h'=> ∃N,Â= [some (.lst A),some (.dct W),some (.dct N),none,none,none,none,none,none,none]/\h.dc N=none/\N≠W/\h' A=some (Ts.map jg)/\h'.dc W=some (.tk 0 [])/\h'.dc N=some (.tk 0 [])/\Sub h h') (λC hC=>λN eN=> ?_) ?_
 ·have nW:N≠W:=λz=>by rw [z,kW] at eN;cases eN
  have fN:h.dc N=none:=by
   cases z:h.dc N with
   |none=>rfl
   |some c=>rw [sb1.dc N c z] at eN;cases eN
  exact hC _ _ ⟨N,rfl,fN,nW,kA1,(JB (E4 nW)).trans kW,zR,sb1.overC fN⟩
 clear kA1 kW sb1;rintro _ h2 ⟨N,rfl,fN,nW,Ξ,kW,kN,ŕ⟩;refine jf (λÂ h'=> ∃Fr,Â= [some (.lst A),some (.dct W),some (.dct N),some (.lst Fr),none,none,none,none,none,none]/\h' A=some (Ts.map jg)/\h'.dc W=some (.tk 0 [])/\h'.dc N=some (.tk 0 [])/\h' Fr=some ((Č n Ts 0).2.map (Ŧ n Ts))/\Sub h h') (λC hC=>Ks (j:=λh=>(h A).map Yp) (P4 Ts.length) (λ(x:G7)=> .int (x:P0)) (λx=>jg (Ts.getD x [])) (λx=>Ŧ n Ts [x]) (by rw [S6];omega) ?_ (λR r=>⟨_,rfl,A,rfl,r⟩) (λx hx Q' q'=>⟨_,rfl,ι,_,rfl,Ts.getD x [],n,20,rfl,hT.get (S0.mp hx),n1,by omega,Μ,q'⟩) λFr eF=>hC _ _ ⟨Fr,rfl,ji Ξ eF,kW,kN,?_,ŕ.newAt eF⟩) ?_
 ·show (h2 A).map Yp=_;rw [Ξ,bK,VP,UD (n:=n) (λ_ T=>T)]
 ·rw [jc];show some _=some (((P4 Ts.length).map λa=> [a]).map (Ŧ n Ts));rw [R4];rfl
 clear Ξ kW kN ŕ;rintro _ h3 ⟨Fr,rfl,υ,kW,kN,kF,Ο⟩;refine jf (λÂ h'=> ∃Fr b4 b5 b6 ep â kv,Â= [some (.lst A),some (.dct W),some (.dct N),some (.lst Fr),b4,b5,b6,none,none,none]/\h'.dc W=some (.tk ep (č (ÿ n Ts)))/\h'.dc N=some (.tk â kv)/\Ă n Ts (ÿ n Ts) none kv h'/\Sub h h') (λC hC=> ?_) ?_
 ·refine Zk (WnW n Ts h A W N) _ ⟨0,Fr,_,_,_,0,0,[],_,rfl,rfl,υ,kW,kN,⟨rfl,(λ_ z=>nomatch z)⟩,kF,Ο,rfl,Qc hT.l1⟩ ?_;clear υ kW kN kF Ο;rintro m _ h4 ⟨k,Fr,b4,b5,b6,ep,â,kv,s,rfl,es,kA4,kW,kN,nx,kF,sb4,rfl,hk⟩;have bn:Δ n Ts k s:=es ▸ vL l3 k;refine⟨_,rfl,_,⟨_,kF,rfl⟩,?_⟩
  by_cases ez:s.2= []
  ·rw [ez];refine zF (hC _ _ ⟨Fr,b4,b5,b6,ep,â,kv,rfl,?_,kN,?_,sb4⟩)
   ·rw [<-Nk (k:=k) (es ▸ ez) (by omega),<-es];exact kW
   ·rw [<-Nk (k:=k) (es ▸ ez) (by omega),<-es];exact nx
  rw [show (!(s.2.map (Ŧ n Ts)).isEmpty)=true from by
   cases z:s.2 with
   |nil=>exact absurd z ez
   |cons=>rfl]
  refine yr ?_;refine jf (λÂ h'=> ∃L,L≠A/\L≠Fr/\h L=none/\WnC n Ts h A W N Fr L [some (.lst A),some (.dct W),some (.dct N),some (.lst Fr),some (.lst L),b5,b6,none,none,none] s.1 s.1 â kv s.2 [] Â h') (λC hC=>⟨sz0,λL eL=>hC _ _ ⟨L,jq kA4 eL,jq kF eL,Pr sb4 eL,ep,rfl,ji kA4 eL,kW,kN,⟨nx.1,λp hp=> ?_⟩,ji kF eL,jc,sb4.newAt eL⟩⟩) ?_
  ·obtain⟨X,e1,e2,_⟩:=nx.2 p hp;exact⟨X,e1,ji e2 eL,λz=>by injection z with z;exact jq e2 eL z.symm⟩
  clear kA4 kW kN nx kF sb4;rintro _ h5 ⟨L,nA,nF,fL,ep,rfl,kA5,kW,kN,nx,kF,kL,sb5⟩;refine jf (λÂ h'=> ∃b5 b6 ep â kv s',Â= [some (.lst A),some (.dct W),some (.dct N),some (.lst Fr),some (.lst L),b5,b6,none,none,none]/\s'=Am n Ts s/\h' A=some (Ts.map jg)/\h'.dc W=some (.tk ep (č s'.1))/\h'.dc N=some (.tk â kv)/\Ă n Ts s'.1 none kv h'/\h' L=some (s'.2.map (Ŧ n Ts))/\Sub h h') (λC hC=> ?_) ?_
  ·refine Zi (h1:=h5) (j:=λh=>h Fr) (s.2.map (Ŧ n Ts)) (WnF n Ts h A W N Fr L s) (λR r=>⟨_,rfl,r⟩) (λi Â h' ⟨_,_,_,_,_,_,_,_,_,_,_,_,z,_,_⟩=>z) ⟨b5,b6,ep,â,kv,_,rfl,rfl,kA5,kW,kN,nx,kF,kL,sb5⟩ (λÂ h' ⟨b5,b6,ep,â,kv,s',e,Ħ,a1,a2,a3,a4,_,a6,a7⟩=>hC _ _ ⟨b5,b6,ep,â,kv,s',e,?_,a1,a2,a3,⟨a4.1,λp hp=>let ⟨X,e1,e2,_⟩:=a4.2 p hp;⟨X,e1,e2,λz=>nomatch z⟩⟩,a6,a7⟩) ?_
   ·rw [Ħ,G1,U0];rfl
   clear kA5 kW kN nx kF kL sb5;rintro i d _ h6 hd ⟨c5,c6,ep,â,kv,s',rfl,Ħ,kA6,kW,kN,nx,kF,kL,sb6⟩;have ľ:=(P8.mp hd).1;rw [D1] at hd;obtain⟨w,ew,rfl⟩:=F9.mp hd;obtain⟨hw,lw⟩:=bn.fr w (P9 ew);have md:ξ n Ts k s.1.length s':=Ħ ▸ bn.mids l3 i;have few:=md.few n3;have nxt:=md.step l3 hw lw;have k1025:k<=1025:=by omega
   have es2:(s.2.take (i+1)).foldl (ņ n Ts) (s.1,[])=ņ n Ts s' w:=by rw [NP ew,<-Ħ]
   refine⟨_,_,rfl,?_⟩;refine⟨_,rfl,_,rfl,W,Ó n Ts w,ep,_,rfl,rfl,kW,_,rfl,?_⟩;show if (true !=(zJ (č s'.1) (Ó n Ts w)).isSome)=true then _ else _
   rw [Nl];cases hg:(zJ s'.1 (Ó n Ts w)).isSome with
   |true=>exact zF ⟨_,Sub.refl _,ľ,_,_,ep,â,kv,s',rfl,by rw [es2,ZU hg],kA6,kW,kN,nx,kF,kL,sb6⟩
   |false=>
    have es3:=es2.trans (ZV hg);refine yr ?_;refine jf (WnC n Ts h A W N Fr L [some (.lst A),some (.dct W),some (.dct N),some (.lst Fr),some (.lst L),some (zt w),some (jg (Ó n Ts w)),none,none,none] (s'.1++ [(Ó n Ts w,w)]) s'.1 â kv s.2 s'.2) (λC hC=>⟨_,rfl,_,rfl,_,rfl,W,Ó n Ts w,ep,č s'.1,rfl,rfl,kW,by unfold č;rw [G1];omega,λû=>hC _ _ ⟨û,rfl,kA6,by rw [zR,An hg],(JB nW).trans kN,nx,kF,kL,sb6.overC fW⟩⟩) ?_;clear kA6 kW kN kF kL sb6;rintro _ h7 ⟨ep,rfl,kA7,kW,kN,nx,kF,kL,sb7⟩;refine jf (λÂ h'=> ∃X â,h' X=some (nxD n Ts (Ó n Ts w))/\WnC n Ts h A W N Fr L [some (.lst A),some (.dct W),some (.dct N),some (.lst Fr),some (.lst L),some (zt w),some (jg (Ó n Ts w)),none,none,none] (s'.1++ [(Ó n Ts w,w)]) (s'.1++ [(Ó n Ts w,w)]) â (kv++ [(Ó n Ts w,.lst X)]) s.2 s'.2 Â h') (λC hC=>lcA (j:=λh=>h A) (P4 Ts.length) (λx=>jg (Ts.getD x [])) (λx=>jg (Ü n (Ts.getD x []) (Ó n Ts w))) (by rw [S6];omega) (by show h7 A=_;rw [kA7,VP]) (λR r=>⟨_,rfl,r⟩) (λx hx Q' q'=>⟨_,rfl,_,rfl,Ó n Ts w,Ts.getD x [],n,20,rfl,wf w,hT.get (S0.mp hx),n1,by omega,by decide,q'⟩) λX eX=>⟨_,rfl,_,rfl,N,Ó n Ts w,â,kv,rfl,rfl,kN,by rw [nx.len];omega,λû=>hC _ _ ⟨X,û,jc,ep,rfl,ji kA7 eX,(JB (E4 nW)).trans kW,by rw [zR,(UC (nx.none hg)).1],⟨?_,λp hp=> ?_⟩,ji kF eX,ji kL eX,(sb7.newAt eX).overC fN⟩⟩) ?_
    ·rw [R1,R1,nx.1];rfl
    ·rcases D5.mp hp with z|z
     ·obtain⟨Y,e1,e2,e3⟩:=nx.2 p z;exact⟨Y,e1,ji e2 eX,e3⟩
     ·rw [G9.mp z];exact⟨X,rfl,jc,λz=>by injection z with z;exact jq kL eX z⟩
    have gt: ∀X,zJ (kv++ [(Ó n Ts w,D.lst X)]) (Ó n Ts w)=some (.lst X):=λX=>by
     have z:=UC (d:=D.lst X) (nx.none hg);rw [<-z.1];exact z.2
    clear kA7 kW kN kF kL sb7 nx;rintro _ h8 ⟨X,â,kX,ep,rfl,kA8,kW,kN,nx,kF,kL,sb8⟩;refine⟨_,rfl,L,rfl,Ks (j:=λh=>(h X).map Yp) (P4 Ts.length) (λ(x:G7)=> .int (x:P0)) (λx=>jg (Ü n (Ts.getD x []) (Ó n Ts w))) (λx=>Ŧ n Ts (w++ [x])) (by rw [S6];omega) ?_ (λR r=>⟨_,rfl,_,rfl,N,Ó n Ts w,â,_,.lst X,rfl,rfl,kN,gt X,X,rfl,r⟩) (λx hx Q' q'=>⟨_,rfl,_,rfl,ι,?_,_,rfl,Μ,?_⟩) λY eY=>⟨Y,_,_,rfl,ji kL eY,jc,?_,_,Sub.refl _,ľ,_,_,ep,â,_,(s'.1++ [(Ó n Ts w,w)],s'.2++(P4 Ts.length).map λa=>w++ [a]),rfl,es3.symm,jj (E4 nA) (ji kA8 eY),kW,kN,⟨nx.1,λp hp=> ?_⟩,jj (E4 nF) (ji kF eY),by rw [jc,AG],(sb8.newAt eY).over fL⟩⟩
    ·show (h8 X).map Yp=_;rw [kX,bK];exact congrArg some (UD (n:=n) λ_ T=>Ü n T (Ó n Ts w))
    ·rw [G1];exact big _ (by simp only [S7,O4];omega)
    ·rw [Fs hw.1] at q';exact q'
    ·rw [G1,G1,S6];exact big _ (by have:=md.gr;omega)
    ·obtain⟨Z,e1,e2,e3⟩:=nx.2 p hp;exact⟨Z,e1,jj (λz=>e3 (congrArg some z)) (ji e2 eY),e3⟩
  clear kA5 kW kN nx kF kL sb5;rintro _ h6 ⟨c5,c6,ep,â,kv,s',rfl,Ħ,kA6,kW,kN,nx,kL,sb6⟩;have ls:DG s'<DG s:=by rw [Ħ];exact Px bn n3 l3 ez
  exact⟨_,rfl,DG s',_,ls,Sub.refl _,k+1,L,_,_,_,ep,â,kv,s',rfl,by rw [Ħ,es];rfl,kA6,kW,kN,nx,kL,sb6,rfl,by omega⟩
 clear υ kW kN kF Ο;rintro _ h4 ⟨Fr,b4,b5,b6,ep,â,kv,rfl,kW,kN,nx,sb4⟩;exact⟨_,rfl,_,rfl,Μ,h4,Sub.refl _,q W N ep â kv h4 kW kN nx sb4⟩
theorem TD (L:G0 (G0 (G0 P0))):(L.map λM=>(M,D.bl true)).map (λp=>jg p.1)=L.map jg:=by rw [R4];rfl
variable {M:G0 (G0 P0)}
theorem Lb (x:Ă n Ts F none kv h)(m:M∈F.map (·.1)): ∃X,zJ kv M=some (.lst X)/\h X=some (nxD n Ts M):=by
 rw [<-x.1] at m;cases e:kv.find? λp=>decide (p.1=M) with
 |none=>
  obtain⟨p,hp,ep⟩:=R9.mp m;have:=Q8.mp e p hp;exact absurd (D2 ep) this
 |some p=>
  obtain⟨X,e1,e2,_⟩:=x.2 p (K5 e);have ek:p.1=M:=C4 (bL (p:=λp:G0 (G0 P0)×D=>decide (p.1=M)) e);exact⟨X,by unfold zJ;rw [e];exact congrArg some e1,ek ▸ e2⟩
def VU:RDn:=λds h Q=> ∃ (N Lf:P1) (Ts L:G0 (G0 (G0 P0))) (kv:G0 (G0 (G0 P0)×D)) (ep â n:G7),ds= [.dct N,.dct Lf]/\Ä n Ts/\h.dc N=some (.tk â kv)/\Ă n Ts (ÿ n Ts) none kv h/\h.dc Lf=some (.tk ep (L.map λM=>(M,D.bl true)))/\(∀M∈L,M∈WG n Ts)/\L.length<=512/\ ∀p,h p=none->Q (.lst p) (wg h p ((L.filter λM=> !ż n Ts L M).map jg))
theorem DM (Z:Zs mg)(F:ã K "ends_of" "ends_of" YH f fd):Ë P w K mg base á (n+1) f fd ["nexts","left"] (ä K VU):=by
 refine F.okM Wa (λhr=>(jR (zA (jl1 2 Wa (Gt (jv 1)) (λ_ _ _ _=>(yo (wM (wJ (FL rfl) rfl Z.any (by decide +kernel) (j1 (ļ 3 Wa (zl (Tk hr (jv 0) (jv 2))) (λ_ _ _ _=>(Hd (Pv hr) (jv 3) (jv 1) (by with_unfolding_all rfl))))))))) (λ_ _ _ _=>(jv 2)))))) ?_;rintro ds h Q ⟨N,Lf,Ts,L,kv,ep,â,n,rfl,hT,kN,nx,kL,sub,lL,q⟩;refine⟨rfl,?_⟩;have l3:=hT.l3;refine lcF (j:=Qi Lf ep (L.map λM=>(M,D.bl true)).length) L jg jg (λM=> !ż n Ts L M) (by omega) (by rw [UE kL,TD]) (λR r=>⟨_,rfl,Lf,ep,_,rfl,kL,r⟩) (λM hM Q' q'=> ?_) (λM hM _ Q' q'=>⟨_,rfl,q'⟩) (λp hp=>⟨_,Sub.refl _,q p hp⟩);obtain⟨X,gX,kX⟩:=Lb nx (sub M hM);exact uj (j:=λh=>h X) (P4 Ts.length) (λi=>jg (Ü n (Ts.getD i []) M)) (λi=>decide (Ü n (Ts.getD i []) M∈L)) (by rw [S6];omega) kX (λR r=>⟨_,rfl,_,rfl,N,M,â,kv,_,rfl,rfl,kN,gX,r⟩) (λi hi Q'' Ū=>⟨_,rfl,_,rfl,Lf,_,ep,_,rfl,rfl,kL,by rw [La,n9];exact Ū⟩) ⟨_,rfl,q'⟩
def ġ (n:G7)(Ts:G0 (G0 (G0 P0)))(k:G7):G0 (G0 (G0 P0)):=(à n Ts k).filter λM=> !ż n Ts (à n Ts k) M
theorem GK {h':HD}(x:Ă n Ts F none kv h)(sb:Sub h h'):Ă n Ts F none kv h':=⟨x.1,λp hp=>let ⟨X,e1,e2,e3⟩:=x.2 p hp;⟨X,e1,sb _ _ e2,e3⟩⟩
theorem Ft (L:G0 (G0 (G0 P0)))(M:G0 (G0 P0)):HT.Vb (L.map λM=>(M,D.bl true)) M=(L.filter λN=> !decide (N=M)).map λM=>(M,D.bl true):=by
 unfold HT.Vb;rw [List.filter_map];rfl
def Lc (E L:G0 (G0 (G0 P0)))(i:G7):G0 (G0 (G0 P0)):=L.filter λN=> !decide (N∈E.take i)
variable {L:G0 (G0 (G0 P0))}
theorem Fu {E:G0 (G0 (G0 P0))}:Lc E L 0=L:=cO.mpr λM _=>by rw [dZ];exact congrArg (!·) (R8 λz=>nomatch z)
theorem Fv {E:G0 (G0 (G0 P0))}(e:E[i]? =some M):(Lc E L i).filter (λN=> !decide (N=M))=Lc E L (i+1):=by
 unfold Lc;rw [List.filter_filter];refine qD λN _=> ?_
 rw [B6,e];show (!decide (N=M)&& !decide (N∈E.take i))= !decide (N∈E.take i++ [M]);rw [<-Bool.not_or,<-n5];refine congrArg (!·) (decide_eq_decide.mpr ⟨λz=> ?_,λz=> ?_⟩)
 ·rcases z with z|z
  ·rw [z];exact D3 _ P6
  ·exact B7 _ z
 ·rcases D5.mp z with z|z
  ·exact .inr z
  ·exact .inl (G9.mp z)
theorem Ld (l3:Ts.length<=3): ∀k,(à n Ts k).Nodup
 |0=>((wB (n:=n) l3).nd).filter _
 |k+1=>(Ld l3 k).filter _
variable {k:G7}
theorem US (h:M∈à n Ts k):M∈WG n Ts:=(C9.mp (Gx (B0 k) h)).1
theorem UT (n3:n<=3)(l3:Ts.length<=3): ∀k,(à n Ts k).length<=512
 |0=>S5 (Q0 _ _) (by unfold WG;rw [G1];exact(wB (n:=n) l3).few n3)
 |k+1=>S5 (Q0 _ _) (UT n3 l3 k)
theorem AH (l3:Ts.length<=3)(e:(ġ n Ts k)[i]? =some M):M∈Lc (ġ n Ts k) (à n Ts k) i:=by
 refine C9.mpr ⟨(C9.mp (P9 e)).1,?_⟩;have nd:(ġ n Ts k).Nodup:=(Ld l3 k).filter _;have il:=(P8.mp e).1;have t:(ġ n Ts k).take (i+1)=(ġ n Ts k).take i++ [M]:=by rw [B6,e];rfl
 have:=nd.sublist (E6 (i+1) _);rw [t] at this;rw [R8 λz=>(K9.mp this).2.2 _ z _ P6 rfl];rfl
theorem AI:Lc (ġ n Ts k) (à n Ts k) (ġ n Ts k).length=à n Ts (k+1):=by
 unfold Lc;rw [U0];refine qD λM hM=> ?_
 cases z:ż n Ts (à n Ts k) M with
 |true=>rw [R8 λy=>by have:=(C9.mp y).2;rw [z] at this;cases this];rfl
 |false=>
  have y:M∈ġ n Ts k:=C9.mpr ⟨hM,by rw [z];rfl⟩;rw [D2 y];rfl
theorem Fw (h:ġ n Ts k≠ []):(à n Ts (k+1)).length<(à n Ts k).length:=by
 obtain⟨M,hM⟩:=iU _ h;obtain⟨a,b⟩:=C9.mp hM;refine List.length_filter_lt_length_iff_exists.mpr ⟨M,a,λz=> ?_⟩;rw [z] at b;cases b
inductive RlW (n:G7)(Ts:G0 (G0 (G0 P0)))(h:HD)(N Lf:P1)(m:G7)(Â:SD)(h':HD):Prop
 |mk (r ep:G7) (E:P1) (b4:P7 D) (z1:Â= [some (.dct N),some (.dct Lf),some (.int ((r:G7):P0)),some (.lst E),b4]) (z2:h'.dc Lf=some (.tk ep ((à n Ts r).map λM=>(M,D.bl true)))) (z3:h' E=some ((ġ n Ts r).map jg)) (z4: ∀i<r,ġ n Ts i≠ []) (z5:Sub h h') (z6:m=(à n Ts r).length):RlW n Ts h N Lf m Â h'
inductive RlF (n:G7)(Ts:G0 (G0 (G0 P0)))(h:HD)(N Lf:P1)(E:P1)(r i:G7)(Â:SD)(h':HD):Prop
 |mk (ep:G7) (b4:P7 D) (z1:Â= [some (.dct N),some (.dct Lf),some (.int ((r:G7):P0)),some (.lst E),b4]) (z2:h'.dc Lf=some (.tk ep ((Lc (ġ n Ts r) (à n Ts r) i).map λM=>(M,D.bl true)))) (z3:h' E=some ((ġ n Ts r).map jg)) (z4:Sub h h'):RlF n Ts h N Lf E r i Â h'
def zr:RDn:=λds h Q=> ∃N Ts kv â,∃n:G7,ds= [.dct N]/\Ä n Ts/\h.dc N=some (.tk â kv)/\Ă n Ts (ÿ n Ts) none kv h/\ ∀Lf r ep h',h'.dc Lf=some (.tk ep ((à n Ts r).map λM=>(M,D.bl true)))->ġ n Ts r= []->(∀i<r,ġ n Ts i≠ [])->Sub h h'->Q (.tup [.int ((r:G7):P0),.dct Lf]) h'
theorem vW (Z:Zs mg)(F:ã K "rounds_and_lasting" "rounds_and_lasting" zC f fd)(yi:je P w K mg base n "full" ["table"] vV)(QF:je P w K mg base n "ends_of" ["nexts","left"] VU):Ë P w K mg base á (n+1) f fd ["nexts"] (ä K zr):=by
 refine F.okM jx (λhr=>(js5 (Tp (i:=4) (k:=1) (js:= [4]) hr rfl jx.nd rfl (H0 rfl) (jP (by rfl)) (Gt (jv 0)) (by decide) rfl (by first|exact H0 rfl|exact W0 rfl) (λX' hX=>by obtain⟨C,s₀,H₀,ex,rfl⟩:=hX;exact Gc (yo (wM (jk yi hr (j1 (jv 4)))))) (λX' hX=>by obtain⟨C,s₀,H₀,ex,rfl⟩:=hX;exact(jv 4)) (λX' hX=>by obtain⟨C,s₀,H₀,ex,rfl⟩:=hX;exact Ī)) (ø 2 jx jF) (ø 3 jx (jk QF hr (j2 (jv 0) (jv 1)))) (XE F8 (Ta (jv 3)) (μ (Re F8 rfl (zl (jv 3)) (jgn 4 jx) (jR (KM hr (jv 1) (jv 4)))) (OS (i:=2) jx.nd rfl (H0 rfl) jF) (ø 3 jx (jk QF hr (j2 (jv 0) (jv 1)))))) (zA (Mi (j2 (jv 2) (jv 1)))))) ?_;rintro ds h Q ⟨N,Ts,kv,â,n,rfl,hT,kN,nx,q⟩;refine⟨rfl,?_⟩;have n1:=hT.n1;have n3:=hT.n3;have l3:=hT.l3;have kk:kv.map (λp=>jg p.1)=(WG n Ts).map jg:=by
  have:=congrArg (IA jg) nx.1
  rwa [R4] at this
 have lk:(WG n Ts).length<=512:=by unfold WG;rw [G1];exact(wB (n:=n) l3).few n3
 have lkv:kv.length=(WG n Ts).length:=by unfold WG;rw [G1];exact nx.len
 have ndk:(WG n Ts).Nodup:=(wB (n:=n) l3).nd;have ky: ∀l:G0 (G0 (G0 P0)),(l.map λM=>(M,D.bl true)).map (·.1)=l:=λl=>by rw [R4];exact W7 l
 refine jf (λÂ h'=> ∃Lf ep,Â= [some (.dct N),some (.dct Lf),none,none,none]/\h'.dc Lf=some (.tk ep ((à n Ts 0).map λM=>(M,D.bl true)))/\h.dc Lf=none/\Sub h h') (λC hC=>⟨_,rfl,N,â,kv,rfl,kN,kv.length,λi kv' h'=>h=h'/\kv'=(((WG n Ts).take i).filter λM=> !jm M).map λM=>(M,D.bl true),⟨rfl,rfl⟩,?_⟩) ?_
 ·rintro i kv' _ ⟨rfl,rfl⟩;refine⟨?_,?_,_,(UE kN).trans (congrArg some kk),?_,λhi P ep fP=>hC _ _ ⟨P,ep,rfl,?_,fP,.newC fP⟩,λd hd=> ?_⟩
  ·rw [G1];have a:=Q0 (λM=> !jm M) ((WG n Ts).take i);have b:=List.length_take_le i (WG n Ts);have c:((WG n Ts).take i).length<=(WG n Ts).length:=by rw [S8];exact aY _ _
   omega
  ·rw [ky];exact(ndk.sublist (E6 _ _)).filter _
  ·rw [G1];exact Q4 lkv.symm
  ·rw [G1] at hi;rw [S3 hi,zR];rfl
  ·rw [D1] at hd;obtain⟨M,hM,rfl⟩:=F9.mp hd;obtain⟨w,hw,eM⟩:=Jl hT (P9 hM);have sq:Sq n 1 M:=eM ▸ wf w;have st:(WG n Ts).take (i+1)=(WG n Ts).take i++ [M]:=by rw [B6,hM];rfl
   refine⟨_,rfl,_,rfl,M,n,1,rfl,sq,n1,by omega,_,rfl,?_⟩;cases z:jm M with
   |true=>
    refine⟨_,Sub.refl _,rfl,?_⟩;rw [st,iJ,E3 (by rw [z];exact D0),rT,A8]
   |false=>
    refine⟨_,rfl,M,_,rfl,?_,Sub.refl _,rfl,?_⟩
    ·rw [ky];have:=ndk.sublist (E6 (i+1) _);rw [st] at this;exact λy=>(K9.mp this).2.2 _ (C9.mp y).1 _ P6 rfl
    ·rw [st,iJ,L6 (by rw [z];rfl),rT,R1];rfl
 rintro _ h1 ⟨Lf,ep,rfl,kL,fL,sb⟩;refine jT [some (.dct N),some (.dct Lf),some (.int ((0:G7):P0)),none,none] (λC hC=>hC) ?_;refine jf (λÂ h'=> ∃E,Â= [some (.dct N),some (.dct Lf),some (.int ((0:G7):P0)),some (.lst E),none]/\h'.dc Lf=some (.tk ep ((à n Ts 0).map λM=>(M,D.bl true)))/\h' E=some ((ġ n Ts 0).map jg)/\Sub h h') (λC hC=>⟨_,rfl,_,rfl,N,Lf,Ts,_,kv,ep,â,n,rfl,hT,sb.dc _ _ kN,GK nx sb,kL,λM hM=>US hM,UT n3 l3 0,λE eE=>hC _ _ ⟨E,rfl,kL,jc,sb.newAt eE⟩⟩) ?_;clear kL sb;rintro _ h2 ⟨E,rfl,kL,kE,sb⟩;refine jf (λÂ h'=> ∃r ep b3 b4,Â= [some (.dct N),some (.dct Lf),some (.int ((r:G7):P0)),b3,b4]/\h'.dc Lf=some (.tk ep ((à n Ts r).map λM=>(M,D.bl true)))/\ġ n Ts r= []/\(∀i<r,ġ n Ts i≠ [])/\Sub h h') (λC hC=> ?_) ?_
 ·refine Zk (RlW n Ts h N Lf) _ ⟨0,ep,E,_,rfl,kL,kE,(λ_ z=>absurd z (rV _)),sb,rfl⟩ ?_;clear kL kE sb;rintro m _ h3 ⟨r,ep,E,b4,rfl,kL,kE,lo,sb,rfl⟩;refine⟨_,rfl,_,⟨_,kE,rfl⟩,?_⟩
  by_cases ez:ġ n Ts r= []
  ·rw [ez];exact zF (hC _ _ ⟨r,ep,_,_,rfl,kL,ez,lo,sb⟩)
  rw [show (!((ġ n Ts r).map jg).isEmpty)=true from by
   cases z:ġ n Ts r with
   |nil=>exact absurd z ez
   |cons=>rfl]
  refine yr ?_;refine jf (λÂ h'=> ∃ep b4,Â= [some (.dct N),some (.dct Lf),some (.int ((r:G7):P0)),some (.lst E),b4]/\h'.dc Lf=some (.tk ep ((à n Ts (r+1)).map λM=>(M,D.bl true)))/\Sub h h') (λC hC=> ?_) ?_
  ·refine Zi (h1:=h3) (j:=λh=>h E) ((ġ n Ts r).map jg) (RlF n Ts h N Lf E r) (λR q'=>⟨_,rfl,q'⟩) (λi Â h' ⟨_,_,_,_,z,_⟩=>z) ⟨ep,b4,rfl,?_,kE,sb⟩ (λÂ h' ⟨ep,b4,e,a,_,c⟩=>hC _ _ ⟨ep,b4,e,?_,c⟩) ?_
   ·rw [kL,Fu]
   ·rw [a,G1,AI]
   clear kL kE sb;rintro i d _ h4 hd ⟨ep,b4,rfl,kL,kE,sb⟩;have ľ:=(P8.mp hd).1;rw [D1] at hd;obtain⟨M,eM,rfl⟩:=F9.mp hd;refine⟨_,rfl,_,rfl,Lf,M,ep,_,rfl,rfl,kL,by rw [ky];exact AH l3 eM,λû=>⟨_,Sub.refl _,ľ,û,_,rfl,?_,kE,sb.overC fL⟩⟩;rw [zR,Ft,Fv eM]
  clear kL kE sb;rintro _ h4 ⟨ep,b4,rfl,kL,sb⟩;refine jT [some (.dct N),some (.dct Lf),some (.int ((r+1:G7):P0)),some (.lst E),b4] (λC hC=>⟨_,rfl,_,rfl,hC⟩) ?_;exact⟨_,rfl,_,rfl,N,Lf,Ts,_,kv,ep,â,n,rfl,hT,sb.dc _ _ kN,GK nx sb,kL,λM hM=>US hM,UT n3 l3 _,λE' eE=>⟨_,_,Fw ez,Sub.refl _,r+1,ep,E',b4,rfl,kL,jc,λi hi=>by
   rcases mH i r with c|c
   ·exact lo i c
   ·rw [gI (gH.mp hi) c];exact ez,sb.newAt eE,rfl⟩⟩
 clear kL kE sb;rintro _ h3 ⟨r,ep,b3,b4,rfl,kL,ez,lo,sb⟩;exact⟨_,rfl,_,rfl,Μ,h3,Sub.refl _,q Lf r ep h3 kL ez lo sb⟩
theorem TF {m:G7}{W:G0 G7}(hW: ∀i∈W,i<m)(h1:1<=W.length)(h2:W.length<=60):okD (zt W)=true/\QN (zt W) (m:P0) 1 60=true:=by
 refine⟨VS (by rw [G1];omega) λd hd=>by obtain⟨x,_,rfl⟩:=R9.mp hd;rfl,?_⟩;show ((W.map _).all (λx=>yE x 0 ((m:P0)-1))&&(decide ((1:P0)<=(((W.map _).length:G7):P0))&&decide ((((W.map _).length:G7):P0)<=60)))=true;rw [G1,D2 (show (1:P0)<=(W.length:P0) by omega),D2 (show (W.length:P0)<=60 by omega),f7,f7,T6];intro x hx;obtain⟨i,hi,rfl⟩:=R9.mp hx;have:=hW i hi;show (decide ((0:P0)<=(i:P0))&&decide ((i:P0)<=(m:P0)-1))=true;rw [D2 (show (0:P0)<=(i:P0) by omega),D2 (show (i:P0)<=(m:P0)-1 by omega)];rfl
def UU:RDn:=λds h Q=> ∃A Ts W,∃n:G7,ds= [.lst A,zt W]/\h A=some (Ts.map jg)/\Ä n Ts/\(∀i∈W,i<Ts.length)/\1<=W.length/\W.length<=60/\Q (jg (zB n Ts (zU n) W)) h
theorem Fx (Z:Zs mg)(F:ã K "along" "along" GF f fd)(jz:je P w K mg base n "want_tables" ["thing"] jI)(DU:je P w K mg base n "want_way" ["tables","thing"] YQ)(wS:je P w K mg base n "marks_along" ["tables","way"] yK):Ë P w K mg base á (n+1) f fd ["tables","way"] (ä K UU):=by
 refine F.okM Fm (λhr=>(μ (yp (jk jz hr (j1 (jv 0)))) (yp (jk DU hr (j2 (jv 0) (jv 1)))) (zA (jk wS hr (j2 (jv 0) (jv 1)))))) ?_;rintro ds h Q ⟨A,Ts,W,n,rfl,kA,hT,hW,w1,w60,q⟩;refine⟨rfl,?_⟩;obtain⟨ok,hw⟩:=TF hW w1 w60;refine jT [some (.lst A),some (zt W)] (λC hC=>⟨_,rfl,A,Ts,n,rfl,kA,hT,hC⟩) ?_;refine jT [some (.lst A),some (zt W)] (λC hC=>⟨_,rfl,_,rfl,A,Ts,_,n,rfl,kA,hT,ok,hw,hC⟩) ?_;exact⟨_,rfl,_,rfl,A,Ts,W,n,rfl,kA,hT,hW,by omega,_,Sub.refl h,q⟩
/-- Ś first way of those found X0f marks are full -/
def fwD (F:Fnd):D:=match F.find? (λp=>jm p.1) with
 |some p=>zt p.2
 |none=> .non
theorem NQ {α:Type}{f:α->N2}: ∀ {F:G0 α} {i:G7} {p:α},F[i]? =some p->(∀q∈F.take i,f q=false)->f p=true->F.find? f=some p
 |x::F,0,p,e,_,hp=>by
  injection e with e
  subst e;rw [E1,hp]
 |x::F,i+1,p,e,g,hp=>by
  rw [E1,g x (by rw [cL];exact P6)];exact NQ (F:=F) (by simpa using e) (λq hq=>g q (by rw [cL];exact D7 _ hq)) hp
theorem VV (F:Fnd):Wx (č F)=F.map λp=> .tup [jg p.1,zt p.2]:=by unfold Wx č;rw [R4];rfl
theorem GL (l3:Ts.length<=3){p:G0 (G0 P0)×G0 G7}(h:p∈ÿ n Ts):Sq n 1 p.1/\(∀i∈p.2,i<Ts.length)/\p.2.length<=1025:=by
 obtain⟨a,b,c⟩:=(wB (n:=n) l3).fd p h;exact⟨a ▸ wf _,b.2,c⟩
def vp:RDn:=λds h Q=> ∃A Ts,∃n:G7,ds= [.lst A]/\h A=some (Ts.map jg)/\Ä n Ts/\Q (fwD (ÿ n Ts)) h
theorem GM (Z:Zs mg)(F:ã K "full_way" "full_way" Wb f fd)(jz:je P w K mg base n "want_tables" ["thing"] jI)(jG:je P w K mg base n "ways_and_nexts" ["tables"] jV)(yi:je P w K mg base n "full" ["table"] vV):Ë P w K mg base á (n+1) f fd ["tables"] (ä K vp):=by
 refine F.okM Zc (λhr=>(js4 (yp (jk jz hr (j1 (jv 0)))) (Dt (jk jG hr (j1 (jv 0))) (yM (i:=1) (j:=2) rfl Zc.nd rfl rfl (H0 rfl) (H0 rfl))) (Re F8 rfl (CO (jv 1)) (yM (i:=3) (j:=4) rfl Zc.nd rfl rfl (H0 rfl) (H0 rfl)) (jR (Jq (wM (jk yi hr (j1 (jv 3)))) (zA (jv 4))))) (zA VB))) ?_;rintro ds h Q ⟨A,Ts,n,rfl,kA,hT,q⟩;refine⟨rfl,?_⟩;have n1:=hT.n1;have n3:=hT.n3;refine jT [some (.lst A),none,none,none,none] (λC hC=>⟨_,rfl,A,Ts,n,rfl,kA,hT,hC⟩) ?_;refine jf (λÂ h'=> ∃W N ep,Â= [some (.lst A),some (.dct W),some (.dct N),none,none]/\h'.dc W=some (.tk ep (č (ÿ n Ts)))/\Sub h h') (λC hC=>⟨_,rfl,A,Ts,n,rfl,kA,hT,λW N ep â kv h' kW kN nx sb=>⟨_,_,rfl,hC _ _ ⟨W,N,ep,rfl,kW,sb⟩⟩⟩) ?_;rintro _ h1 ⟨W,N,ep,rfl,kW,sb⟩;refine jf (λÂ h'=>(∃b3 b4,Â= [some (.lst A),some (.dct W),some (.dct N),b3,b4])/\h1=h'/\ ∀p∈ÿ n Ts,jm p.1=false) (λC hC=> ?_) ?_
 ·refine Zi (h1:=h1) (j:=YB W ep (č (ÿ n Ts)).length) (Wx (č (ÿ n Ts))) (λi Â h'=>(∃b3 b4,Â= [some (.lst A),some (.dct W),some (.dct N),b3,b4])/\h1=h'/\ ∀p∈(ÿ n Ts).take i,jm p.1=false) (λR r=>⟨_,rfl,W,ep,_,rfl,kW,r⟩) (λi Â h' ⟨_,e,_⟩=>e ▸ Ni kW) ⟨⟨_,_,rfl⟩,rfl,(λ_ z=>nomatch z)⟩ (λÂ h' ⟨a,b,c⟩=>hC _ _ ⟨a,b,λp hp=>c p (by rw [VV,G1,U0];exact hp)⟩) ?_;rintro i d _ _ hd ⟨⟨b3,b4,rfl⟩,rfl,no⟩;have ľ:=(P8.mp hd).1;rw [VV,D1] at hd;obtain⟨p,hp,rfl⟩:=F9.mp hd;refine⟨_,_,rfl,?_⟩;refine⟨_,rfl,p.1,n,1,rfl,(GL hT.l3 (P9 hp)).1,n1,by omega,_,rfl,?_⟩;cases f:jm p.1 with
  |true=>
   refine yr ⟨_,rfl,h,sb,?_⟩;unfold fwD at q;rw [NQ (f:=λp=>jm p.1) hp no f] at q;exact q
  |false=>
   refine zF ⟨_,Sub.refl _,ľ,⟨_,_,rfl⟩,rfl,λx hx=> ?_⟩;rw [iN,hp] at hx;rcases D5.mp hx with z|z
   ·exact no x z
   ·rw [G9.mp z];exact f
 rintro _ _ ⟨⟨b3,b4,rfl⟩,rfl,no⟩;refine⟨h,sb,?_⟩;unfold fwD at q;rw [Q8.mpr λp hp=>by rw [no p hp];exact D0] at q;exact q
def χ:P7 G7->D
 |none=> .non
 |some m=> .int ((m:G7):P0)
def zL:RDn:=λds h Q=> ∃A Ts,∃n:G7,ds= [.lst A]/\h A=some (Ts.map jg)/\Ä n Ts/\ ∀o,AfF n Ts o->Q (χ o) h
theorem WI (Z:Zs mg)(F:ã K "all_full_from" "all_full_from" yf f fd)(jz:je P w K mg base n "want_tables" ["thing"] jI)(jG:je P w K mg base n "ways_and_nexts" ["tables"] jV)(zE:je P w K mg base n "rounds_and_lasting" ["nexts"] zr):Ë P w K mg base á (n+1) f fd ["tables"] (ä K zL):=by
 refine F.okM wH (λhr=>(js4 (yp (jk jz hr (j1 (jv 0)))) (Dt (jk jG hr (j1 (jv 0))) (yM (i:=1) (j:=2) rfl wH.nd rfl rfl (H0 rfl) (H0 rfl))) (Dt (jk zE hr (j1 (jv 2))) (yM (i:=3) (j:=4) rfl wH.nd rfl rfl (H0 rfl) (H0 rfl))) (zA (jif (FW (jv 4)) VB (ú zS (jv 3) jF))))) ?_;rintro ds h Q ⟨A,Ts,n,rfl,kA,hT,q⟩;refine⟨rfl,?_⟩;refine jT [some (.lst A),none,none,none,none] (λC hC=>⟨_,rfl,A,Ts,n,rfl,kA,hT,hC⟩) ?_;refine jf (λÂ h'=> ∃W N â kv,Â= [some (.lst A),some (.dct W),some (.dct N),none,none]/\h'.dc N=some (.tk â kv)/\Ă n Ts (ÿ n Ts) none kv h'/\Sub h h') (λC hC=>⟨_,rfl,A,Ts,n,rfl,kA,hT,λW N ep â kv h' kW kN nx sb=>⟨_,_,rfl,hC _ _ ⟨W,N,â,kv,rfl,kN,nx,sb⟩⟩⟩) ?_;rintro _ h1 ⟨W,N,â,kv,rfl,kN,nx,sb⟩;refine jf (λÂ h'=> ∃Lf r ep,Â= [some (.lst A),some (.dct W),some (.dct N),some (.int ((r:G7):P0)),some (.dct Lf)]/\h'.dc Lf=some (.tk ep ((à n Ts r).map λM=>(M,D.bl true)))/\ġ n Ts r= []/\(∀i<r,ġ n Ts i≠ [])/\Sub h h') (λC hC=>⟨_,rfl,N,Ts,kv,â,n,rfl,hT,kN,nx,λLf r ep h' kL ez lo ŕ=>⟨_,_,rfl,hC _ _ ⟨Lf,r,ep,rfl,kL,ez,lo,sb.trans ŕ⟩⟩⟩) ?_;clear kN nx sb;rintro _ h2 ⟨Lf,r,ep,rfl,kL,ez,lo,sb⟩;have q:=q _ (KS ez lo);refine⟨_,rfl,Lf,ep,_,rfl,kL,?_⟩
 by_cases z:à n Ts r= []
 ·rw [R5 z] at q;rw [z];exact zF ⟨_,rfl,h,sb,q⟩
 ·rw [R3 z] at q;rw [show (!((à n Ts r).map λM=>(M,D.bl true)).isEmpty)=true from by
   cases y:à n Ts r with
   |nil=>exact absurd y z
   |cons=>rfl]
  exact yr ⟨h,sb,q⟩
def Fst (n:G7)(T:G0 (G0 P0)):P7 G7->Prop
 |none=> ∀k,1<=k->jm (ww n T k)=false
 |some k=>1<=k/\k<=30/\jm (ww n T k)=true/\ ∀j,1<=j->j<k->jm (ww n T j)=false
def KU:P7 G7->D
 |none=> .non
 |some k=> .int (k:P0)
section
variable {n e:G7}{T:G0 (G0 P0)}
theorem TH (h:Sq n e T)(n1:1<=n)(h6:n<=6): ∃o,Fst n T o:=by
 by_cases z: ∃k,1<=k/\jm (ww n T k)=true
 ·obtain⟨K,hK,f⟩:=z;obtain⟨k,k1,k30,fk⟩:=xC h n1 h6 hK f;clear f hK
  induction k using G7.strongRecOn with
  |_ k ih=>
   by_cases w: ∃j,1<=j/\j<k/\jm (ww n T j)=true
   ·obtain⟨j,j1,jk,fj⟩:=w;exact ih j jk j1 (by omega) fj
   ·exact⟨some k,k1,k30,fk,λj j1 jk=>by
     cases hf:jm (ww n T j) with
     |false=>rfl
     |true=>exact absurd ⟨j,j1,jk,hf⟩ w⟩
 ·exact⟨none,λk hk=>by
   cases hf:jm (ww n T k) with
   |false=>rfl
   |true=>exact absurd ⟨k,hk,hf⟩ z⟩
theorem AJ {o:P7 G7}(ho:Fst n T o){i:G7}(hi:jm (ww n T (i+1))=true)(lo: ∀m,m<i->jm (ww n T (m+1))=false):o=some (i+1):=by
 cases o with
 |none=>have:=ho (i+1) (by omega);rw [hi] at this;cases this
 |some k=>
  obtain⟨k1,k30,fk,fl⟩:=ho;have a: ¬ (i+1<k):=λz=>by have:=fl (i+1) (by omega) z;rw [hi] at this;cases this
  have b: ¬ (k<i+1):=λz=>by have:=lo (k-1) (by omega);rw [show k-1+1=k by omega,fk] at this;cases this
  rw [show k=i+1 by omega]
theorem Fy {o:P7 G7}(ho:Fst n T o)(lo: ∀m,m<30->jm (ww n T (m+1))=false):o=none:=by
 cases o with
 |none=>rfl
 |some k=>
  obtain⟨k1,k30,fk,fl⟩:=ho;have:=lo (k-1) (by omega);rw [show k-1+1=k by omega,fk] at this;cases this
theorem Jn (h:Sq n e T)(hn:n<=8)(i:G7):jm (wO n T i)=jm (ww n T (i+1)):=by rw [WS h hn,Mm (h.pow hn _)]
end
def Ju:RDn:=λds h Q=> ∃T,∃n e:G7,∃o,ds= [jg T]/\Sq n e T/\1<=n/\n<=6/\e<=1000/\Fst n T o/\Q (KU o) h
theorem Vk (Z:Zs mg)(F:ã K "first_power" "first_power" vf f fd)(GS:je P w K mg base n "all_marks" ["table"] Wz)(yi:je P w K mg base n "full" ["table"] vV):Ë P w K mg base á (n+1) f fd ["table"] (ä K Ju):=by
 refine F.okM Jx (λhr=>(Ż (Re F8 rfl (Zl rfl Z.enumerate (j1 (jk GS hr (j1 (jv 0))))) (yM (i:=1) (j:=2) rfl Jx.nd rfl rfl (H0 rfl) (H0 rfl)) (jR (Jq (wM (jk yi hr (j1 (jv 2)))) (zA (ú zS (jv 1) jF))))) (zA VB))) ?_;rintro ds h Q ⟨T,k,b,o,rfl,hT,h1,h6,hb,ho,q⟩;refine⟨rfl,?_⟩;have hn:k<=8:=by omega
 refine jf (λÂ h'=>o=none/\Sub h h') (λC hC=> ?_) ?_
 ·refine⟨_,rfl,T,k,b,rfl,hT,h1,h6,hb,λA L J h' fA kA sb hc hL=>⟨A,rfl,?_⟩⟩;refine Xv (j:=λh=>(h A).map Yp) (Yp ((P4 L).map λi=>jg (wO k T i))) (λi Â h2=> ∃a b',Â= [some (jg T),a,b']/\h'=h2/\ ∀m,m<i->jm (ww k T (m+1))=false) (λi Â h2 ⟨_,_,_,e,_⟩=>by rw [<-e];show (h' A).map Yp=_;rw [kA];rfl) ⟨none,none,rfl,rfl,λm hm=>absurd hm (rV _)⟩ ?_ ?_
  ·rintro Â h2 ⟨a,b',e,eh,lo⟩;rw [yb,G1,S6] at lo;refine hC _ _ ⟨Fy ho λm _=> ?_,eh ▸ sb⟩
   by_cases z:m<L
   ·exact lo m z
   ·have lt:=hc.lt;rw [<-Jn hT hn m,<-SV hc (show J<=m by omega),Jn hT hn];exact lo _ (by have:=oX (m-J) (show 0<L-J by omega);omega)
  rintro i d _ _ hd ⟨a,b',rfl,rfl,lo⟩;obtain⟨x,hx,rfl⟩:=WQ hd;have ľ:i+1<=(Yp ((P4 L).map λi=>jg (wO k T i))).length:=(P8.mp hd).1;have hiL:i<L:=by rw [yb,G1,S6] at ľ;exact ľ
  rw [D1,I0 hiL] at hx;injection hx with hx
  subst hx;refine⟨_,_,rfl,_,rfl,wO k T i,k,1,rfl,Gi k T i,h1,h6,_,rfl,?_⟩;rw [Jn hT hn];cases hf:jm (ww k T (i+1)) with
  |true=>
   refine yr ⟨_,rfl,h,sb,?_⟩;rw [AJ ho hf lo] at q;exact q
  |false=>
   refine zF ⟨_,Sub.refl _,ľ,_,_,rfl,rfl,λm hm=> ?_⟩
   by_cases z:m=i
   ·subst z;exact hf
   ·exact lo m (by omega)
 rintro _ h2 ⟨e,sb⟩;subst e;exact⟨h,sb,q⟩
def Zx:RDn:=λds h Q=> ∃S B,∃n:G7,ds= [jg S,jg B]/\Sq n 1 S/\jn n S=S/\Sq n 1 B/\1<=n/\n<=3/\Q (.bl (Wu n S B)) h
theorem UV (Z:Zs mg)(F:ã K "never_full" "never_full" vR f fd)(yi:je P w K mg base n "full" ["table"] vV)(jE:je P w K mg base n "marks_after" ["ahead","table"] zf):Ë P w K mg base á (n+1) f fd ["start","again"] (ä K Zx):=by
 refine F.okM wQ (λhr=>(js4 (ø 2 wQ (Uo Js)) (ø 3 wQ (jv 0)) (XE F8 (Ga (WR hr.units) (jv 3) (jv 2) (by with_unfolding_all rfl)) (μ (Jq (wM (jk yi hr (j1 (jv 3)))) (zA Ī)) (yp (OJ (jv 2) (jv 3))) (ø 3 wQ (jk jE hr (j2 (jv 3) (jv 1)))))) (zA Ī))) ?_;rintro ds h Q ⟨S,B,n,rfl,hS,eS,hB,n1,n3,q⟩;refine⟨rfl,?_⟩;refine jf (λÂ h'=> ∃A,Â= [some (jg S),some (jg B),some (.lst A),none]/\h A=none/\h' A=some ((P4 0).map λi=>jg (Jh n S B i))/\Sub h h') (λC hC=>⟨sz0,λA eA=>hC _ _ ⟨A,rfl,eA,jc,Sub.newAt (Sub.refl h) eA⟩⟩) ?_;rintro _ θ ⟨A2,rfl,fA,Ξ,sbA⟩;refine jT [some (jg S),some (jg B),some (.lst A2),some (jg (Jh n S B 0))] (λC hC=>⟨_,rfl,hC⟩) ?_;refine jf (λÂ h'=> ∃L,Â= [some (jg S),some (jg B),some (.lst A2),some (jg (Jh n S B L))]/\Sub h h'/\Jh n S B L∈(P4 L).map (Jh n S B)/\ ∀i,i<L->jm (Jh n S B i)=false) (λC hC=> ?_) ?_
 ·refine Zk (λm Â h'=> ∃L,Â= [some (jg S),some (jg B),some (.lst A2),some (jg (Jh n S B L))]/\h' A2=some ((P4 L).map λi=>jg (Jh n S B i))/\Sub h h'/\m=2227-L/\((P4 L).map (Jh n S B)).Nodup/\ ∀i,i<L->jm (Jh n S B i)=false) _ ⟨0,rfl,Ξ,sbA,rfl,by simp,λi hi=>by omega⟩ ?_;rintro m _ h2 ⟨L,rfl,υ,ŕ,hm,nd,nf⟩;have hL:=Kw hS eS hB (by omega) nd;have kA4:h2 A2=some (((P4 L).map (Jh n S B)).map jg):=by rw [υ,R4];rfl
  have sX:Sq n 1 (Jh n S B L):=OX hS L;refine⟨_,rfl,_,rfl,Mx ā kA4 λbo hbo=>⟨_,rfl,Vt (λc=> ?_) (λc=> ?_)⟩⟩
  rotate_left
  ·refine hC _ _ ⟨L,rfl,ŕ,hbo.mp ?_,nf⟩;cases bo with
   |true=>rfl
   |false=>exact absurd rfl c
  have hni:Jh n S B L ∉ (P4 L).map (Jh n S B):=λz=>by rw [hbo.mpr z] at c;exact absurd c (by decide)
  refine jf (λÂ h'=>Â= [some (jg S),some (jg B),some (.lst A2),some (jg (Jh n S B L))]/\h2=h'/\jm (Jh n S B L)=false) (λC2 ŀ=>⟨_,rfl,Jh n S B L,n,1,rfl,sX,n1,by omega,_,rfl,Vt (λz=>⟨h,ŕ,by rw [Co z] at q;exact q⟩) (λz=>ŀ _ _ ⟨rfl,rfl,by simpa using z⟩)⟩) ?_;rintro _ _ ⟨rfl,rfl,nfL⟩;refine jf (λÂ h'=>Â= [some (jg S),some (jg B),some (.lst A2),some (jg (Jh n S B L))]/\h' A2=some ((P4 (L+1)).map λi=>jg (Jh n S B i))/\Sub h h') (λC2 ŀ=> ?_) ?_
  ·refine⟨_,rfl,A2,rfl,_,rfl,_,υ,?_,ŀ _ _ ⟨rfl,?_,?_⟩⟩
   ·rw [G1,S6];exact J5 hL (by decide)
   ·rw [jc,V5,R1];rfl
   ·exact(ŕ).over fA
  rintro _ h3 ⟨rfl,kA5,sb4⟩;refine⟨_,rfl,_,rfl,Jh n S B L,B,n,1,rfl,sX,hB,n1,by omega,by decide,2227-(L+1),_,by omega,Sub.refl _,L+1,rfl,kA5,sb4,rfl,?_,?_⟩
  ·rw [V5,R1,K9];exact⟨nd,by simp,λx hx y hy=>by rw [G9.mp (show y∈ [Jh n S B L] from hy)];intro e;exact hni (e ▸ hx)⟩
  ·intro i hi
   by_cases z:i<L
   ·exact nf i z
   ·rw [show i=L by omega];exact nfL
 rintro _ h3 ⟨L,rfl,Ο,Γ,nf⟩;obtain⟨J,hJ,eJ⟩:=R9.mp Γ;rw [XO (S0.mp hJ) eJ.symm nf] at q;exact⟨h,Ο,q⟩
def vE:RDn:=λds h Q=> ∃A Ts d,∃n:G7,ds= [.lst A,d]/\h A=some (Ts.map jg)/\Ä n Ts/\okD d=true/\Q (.bl (Cp n Ts d)) h
theorem WJ (Z:Zs mg)(F:ã K "lasting_holds" "lasting_holds" yg f fd)(jz:je P w K mg base n "want_tables" ["thing"] jI)(WW:je P w K mg base n "is_way" ["thing","many","least","most"] YN)(QH:je P w K mg base n "never_full" ["start","again"] Zx)(wS:je P w K mg base n "marks_along" ["tables","way"] yK)(vt: ∃tk,mg "MOST_PLACES" =some (.int 600 tk)):Ë P w K mg base á (n+1) f fd ["tables","thing"] (ä K vE):=by
 obtain⟨tk_MOST_PLACES,Đ⟩:=vt;refine F.okM wI (λhr=>(js6 (yp (jk jz hr (j1 (jv 0)))) (Jq (ũ (Rc (yo (wM (Xx (T:= "tuple") (by decide) rfl Z.isinstance rfl Z.tuple (by decide +kernel) (jv 1)))) (Mh (ĕ ĵ (WE Z (jv 1)) jF)))) (zA Ī)) (Dt (jv 1) (yM (i:=2) (j:=3) rfl wI.nd rfl rfl (H0 rfl) (H0 rfl))) (ø 4 wI (WE Z (jv 0))) (Jq (ũ (Rc (yo (wM (jk WW hr (j4 (jv 2) (jv 4) jF (Dq rfl Đ))))) (Mh (yo (wM (jk WW hr (j4 (jv 3) (jv 4) jF (Dq rfl Đ)))))))) (zA Ī)) (zA (jk QH hr (j2 (jk wS hr (j2 (jv 0) (ú zS (jv 2) (jv 3)))) (jk wS hr (j2 (jv 0) (jv 3)))))))) ?_;rintro ds h Q ⟨A,Ts,d,n,rfl,kA,hT,ok,q⟩;refine⟨rfl,?_⟩;have n1:=hT.n1;have n3:=hT.n3;have hlen:(((Ts.map jg).length:G7):P0)=(Ts.length:P0):=by rw [G1]
 obtain⟨nm,hn⟩:=vk ok;refine jT [some (.lst A),some d,none,none,none] (λC hC=>⟨_,rfl,A,Ts,n,rfl,kA,hT,hC⟩) ?_;cases d with
 |tup es=>
  cases hn;obtain⟨hl,ht⟩:=YL ok
  by_cases h2:es.length=2
  rotate_left
  ·have eq:Cp n Ts (.tup es)=false:=by
    match es,h2 with
    | [],_=>rfl
    | [_],_=>rfl
    | [_,_],z=>exact absurd rfl z
    |_::_::_::_,_=>rfl
   rw [eq] at q;refine jf (λ_ _=>False) (λC hC=>⟨_,rfl,"tuple",rfl,_,rfl,zF ⟨_,rfl,_,rfl,?_⟩⟩) (λ_ _ z=>z.elim);have g:(!decide ((es.length:P0)=2))=true:=by simp;omega
   rw [g];exact yr ⟨h,Sub.refl h,q⟩
  obtain⟨x,y,rfl⟩: ∃x y,es= [x,y]:=by
   match es,h2 with
   | [x,y],_=>exact⟨x,y,rfl⟩
  have okx:=ht x (by simp);have oky:=ht y (by simp);refine jT [some (.lst A),some (.tup [x,y]),none,none,none] (λC hC=>⟨_,rfl,"tuple",rfl,_,rfl,zF ⟨_,rfl,_,rfl,zF (hC)⟩⟩) ?_;refine jT [some (.lst A),some (.tup [x,y]),some x,some y,none] (λC hC=>⟨_,rfl,_,_,rfl,hC⟩) ?_;refine jf (λÂ h'=>Â= [some (.lst A),some (.tup [x,y]),some x,some y,some (.int (Ts.length:P0))]/\h=h') (λC hC=>⟨_,rfl,_,kA,hC _ _ ⟨by rw [hlen];rfl,rfl⟩⟩) ?_;rintro _ _ ⟨rfl,rfl⟩;have eq:Cp n Ts (.tup [x,y])=if (QN x Ts.length 0 600&&QN y Ts.length 1 600)=true then Wu n (zB n Ts (zU n) (we x++we y)) (zB n Ts (zU n) (we y)) else false:=rfl
  rw [eq] at q;refine jf (λÂ h'=>Â= [some (.lst A),some (.tup [x,y]),some x,some y,some (.int (Ts.length:P0))]/\h=h'/\QN x Ts.length 0 600=true/\QN y Ts.length 1 600=true) (λC hC=> ?_) ?_
  ·refine⟨_,rfl,_,rfl,x,(Ts.length:P0),0,600,rfl,okx,_,rfl,?_⟩;cases hx:QN x Ts.length 0 600 with
   |false=>
    rw [hx,bY,R3 D0] at q;exact yr (yr ⟨h,Sub.refl h,q⟩)
   |true=>
    refine zF ⟨_,rfl,_,rfl,y,(Ts.length:P0),1,600,rfl,oky,_,rfl,?_⟩;cases hy:QN y Ts.length 1 600 with
    |false=>
     rw [hx,hy,K2,R3 D0] at q;exact yr ⟨h,Sub.refl h,q⟩
    |true=>exact zF (hC _ _ ⟨rfl,rfl,hx,hy⟩)
  rintro _ _ ⟨rfl,rfl,hx,hy⟩;rw [hx,hy,K2,R5 rfl] at q;obtain⟨ex,wx,x1,x2⟩:=Pk hx;obtain⟨ey,wy,y1,y2⟩:=Pk hy;generalize we x=V at ex wx x1 x2 q;generalize we y=W at ey wy y1 y2 q;subst ex ey;have o1:=Cn (n:=n);refine⟨_,rfl,_,rfl,_,rfl,?_,A,Ts,V++W,n,?_,kA,hT,?_,?_,_,rfl,_,rfl,A,Ts,W,n,rfl,kA,hT,wy,by omega,zB n Ts (zU n) (V++W),zB n Ts (zU n) W,n,rfl,VH _ (Sq.one n) _,Pi o1 _,VH _ (Sq.one n) _,n1,n3,h,Sub.refl h,q⟩
  ·rw [G1,G1];exact S5 (show V.length+W.length<=1300 by omega) (by decide)
  ·unfold zt;rw [R1]
  ·intro i hi;rcases D5.mp hi with z|z
   ·exact wx i z
   ·exact wy i z
  ·rw [P2];omega
 |_=>cases hn<;>exact⟨_,rfl,_,rfl,_,rfl,yr (yr ⟨h,Sub.refl h,q⟩)⟩
def NR (n:G7)(Ts L:G0 (G0 (G0 P0)))(M:G0 (G0 P0)):G7:=((P4 Ts.length).filter λi=>decide (Ü n (Ts.getD i []) M∈L)).headD 0
def nxR (n:G7)(Ts L:G0 (G0 (G0 P0)))(M:G0 (G0 P0)):G0 (G0 P0):=Ü n (Ts.getD (NR n Ts L M) []) M
theorem NS (h:ż n Ts L M=true):((P4 Ts.length).filter λi=>decide (Ü n (Ts.getD i []) M∈L))[0]? =some (NR n Ts L M)/\NR n Ts L M<Ts.length/\nxR n Ts L M∈L:=by
 obtain⟨i,hi,x⟩:=E9.mp h;have ne:i∈(P4 Ts.length).filter λi=>decide (Ü n (Ts.getD i []) M∈L):=C9.mpr ⟨hi,x⟩
 unfold nxR NR;cases e:(P4 Ts.length).filter λi=>decide (Ü n (Ts.getD i []) M∈L) with
 |nil=>rw [e] at ne;cases ne
 |cons a r=>
  have ha:a∈(P4 Ts.length).filter λi=>decide (Ü n (Ts.getD i []) M∈L):=by rw [e];exact P6
  obtain⟨u,v⟩:=C9.mp ha;exact⟨rfl,S0.mp u,C4 v⟩
theorem Le (cl: ∀M∈L,ż n Ts L M=true)(hM:M∈L): ∀k,Į (nxR n Ts L) M k∈L
 |0=>hM
 |k+1=>(NS (cl _ (Le cl hM k))).2.2
theorem NT (j:G7): ∀k,zB n Ts (Į (nxR n Ts L) M j) ((i6 j k).map λi=>NR n Ts L (Į (nxR n Ts L) M i))=Į (nxR n Ts L) M (j+k)
 |0=>rfl
 |k+1=>by
  rw [List.range'_1_concat,R1,JL,NT j k];rfl
theorem DN (j k:G7):(P4 k).drop j=i6 j (k-j):=by rw [n6,List.drop_range',Y9,IC]
inductive RwW (n:G7)(Ts L:G0 (G0 (G0 P0)))(I:G7->G0 (G0 P0))(h:HD)(N Lf G Y:P1)(m:G7)(Â:SD)(h':HD):Prop
 |mk (k:G7) (b5 b6:P7 D) (z1:Â= [some (.dct N),some (.dct Lf),some (.lst G),some (.lst Y),some (jg (I k)),b5,b6]) (z2:h' G=some (((P4 k).map I).map jg)) (z3:h' Y=some ((P4 k).map λi=>D.int ((NR n Ts L (I i):G7):P0))) (z4:Sub h h') (z5:((P4 k).map I).Nodup) (z6:m=513-k):RwW n Ts L I h N Lf G Y m Â h'
inductive RwP (n:G7)(Ts L:G0 (G0 (G0 P0)))(I:G7->G0 (G0 P0))(h:HD)(N Lf G Y:P1)(Â:SD)(h':HD):Prop
 |mk (k:G7) (b5 b6:P7 D) (z1:Â= [some (.dct N),some (.dct Lf),some (.lst G),some (.lst Y),some (jg (I k)),b5,b6]) (z2:h' G=some (((P4 k).map I).map jg)) (z3:h' Y=some ((P4 k).map λi=>D.int ((NR n Ts L (I i):G7):P0))) (z4:Sub h h') (z5:I k∈(P4 k).map I) (z6:k<=512):RwP n Ts L I h N Lf G Y Â h'
inductive RwS (n:G7)(Ts L:G0 (G0 (G0 P0)))(I:G7->G0 (G0 P0))(h:HD)(N Lf G Y:P1)(k k1 k2:G7)(b5 b6:P7 D)(Â:SD)(h':HD):Prop
 |mk (z1:Â= [some (.dct N),some (.dct Lf),some (.lst G),some (.lst Y),some (jg (I k)),b5,b6]) (z2:h' G=some (((P4 k1).map I).map jg)) (z3:h' Y=some ((P4 k2).map λi=>D.int ((NR n Ts L (I i):G7):P0))) (z4:Sub h h'):RwS n Ts L I h N Lf G Y k k1 k2 b5 b6 Â h'
def vX:RDn:=λds h Q=> ∃ (N Lf:P1) (Ts L:G0 (G0 (G0 P0))) (kv:G0 (G0 (G0 P0)×D)) (ep â n:G7),ds= [.dct N,.dct Lf]/\Ä n Ts/\h.dc N=some (.tk â kv)/\Ă n Ts (ÿ n Ts) none kv h/\h.dc Lf=some (.tk ep (L.map λM=>(M,D.bl true)))/\(∀M∈L,M∈WG n Ts)/\L≠ []/\L.length<=512/\(∀M∈L,ż n Ts L M=true)/\ ∀M v h',M∈L->(∀i∈v,i<Ts.length)->1<=v.length->v.length<=512->zB n Ts M v=M->Sub h h'->Q (.tup [jg M,zt v]) h'
theorem YR (Z:Zs mg)(F:ã K "round_within" "round_within" yJ f fd):Ë P w K mg base á (n+1) f fd ["nexts","left"] (ä K vX):=by
 refine F.okM jX (λhr=>(js5 (ø 2 jX (Uo Js)) (ø 3 jX (Uo Js)) (ø 4 jX (ċ (jM (Nt rfl) rfl Z.list (by decide +kernel) (j1 (jv 1))) jF)) (XE F8 (Ga (WR hr.units) (jv 4) (jv 2) (by with_unfolding_all rfl)) (μ (yp (OJ (jv 2) (jv 4))) (yp (OJ (jv 3) (ċ (Kp (i:=5) (j:=6) (js:= [5,6]) rfl (jP (by rfl)) (Zl rfl Z.enumerate (j1 (Tk hr (jv 0) (jv 4)))) (by decide) (by decide) (by decide) jX.nd rfl rfl (by first|exact H0 rfl|exact W0 rfl) (by first|exact H0 rfl|exact W0 rfl) (λX' hX=>by obtain⟨C,s₀,H₀,ex,rfl⟩:=hX;exact Gc (Ga (Pv hr) (jv 6) (jv 1) (by with_unfolding_all rfl))) (λX' hX=>by obtain⟨C,s₀,H₀,ex,rfl⟩:=hX;exact(jv 5))) jF))) (ø 4 jX (ċ (Tk hr (jv 0) (jv 4)) (ċ (jv 3) (Kr jF)))))) (zA (Mi (j2 (jv 4) (jM ð rfl Z.tuple (by decide +kernel) (j1 (Xy (jv 3) (ZL (uo hr.units (jv 2) (jv 4))) Up)))))))) ?_;rintro ds h Q ⟨N,Lf,Ts,L,kv,ep,â,n,rfl,hT,kN,nx,kL,sub,ne,lL,cl,q⟩;refine⟨rfl,?_⟩;have l3:=hT.l3;obtain⟨M0,r,eL⟩: ∃M0 r,L=M0::r:=by
  cases L with
  |nil=>exact absurd rfl ne
  |cons a r=>exact⟨a,r,rfl⟩
 have hM0:M0∈L:=by rw [eL];exact P6
 have at0:(L.map jg)[0]? =some (jg M0):=by rw [eL];rfl
 have mem:=Le cl hM0;refine jf (λÂ h'=> ∃G,Â= [some (.dct N),some (.dct Lf),some (.lst G),none,none,none,none]/\h G=none/\h' G=some []/\Sub h h') (λC hC=>⟨sz0,λG eG=>hC _ _ ⟨G,rfl,eG,jc,.new eG⟩⟩) ?_;rintro _ h1 ⟨G,rfl,fG,kG,sb⟩;refine jf (λÂ h'=> ∃Y,Â= [some (.dct N),some (.dct Lf),some (.lst G),some (.lst Y),none,none,none]/\h Y=none/\Y≠G/\h' G=some []/\h' Y=some []/\Sub h h') (λC hC=>⟨sz0,λY eY=>hC _ _ ⟨Y,rfl,Pr sb eY,jq kG eY,ji kG eY,jc,sb.newAt eY⟩⟩) ?_;clear kG sb;rintro _ h2 ⟨Y,rfl,fY,nY,kG,kY,sb⟩;refine jf (λÂ h'=>Â= [some (.dct N),some (.dct Lf),some (.lst G),some (.lst Y),some (jg M0),none,none]/\h' G=some []/\h' Y=some []/\Sub h h') (λC hC=>⟨_,rfl,Lf,ep,_,rfl,sb.dc _ _ kL,by rw [G1];omega,λp û=>⟨_,_,jc,by rw [TD];exact wY (j:=0) at0,hC _ _ ⟨rfl,ji kG û,ji kY û,sb.newAt û⟩⟩⟩) ?_;clear kG kY sb;rintro _ h3 ⟨rfl,kG,kY,sb⟩;obtain⟨I,eI⟩: ∃I:G7->G0 (G0 P0),I=Į (nxR n Ts L) M0:=⟨_,rfl⟩;have mem: ∀k,I k∈L:=eI ▸ mem;have hI: ∀k,I (k+1)=nxR n Ts L (I k):=λk=>by rw [eI];rfl
 refine jf (RwP n Ts L I h N Lf G Y) (λC hC=> ?_) ?_
 ·refine Zk (RwW n Ts L I h N Lf G Y) _ ⟨0,_,_,by rw [eI];rfl,kG,kY,sb,e7,rfl⟩ ?_;clear kG kY sb;rintro m _ h4 ⟨k,b5,b6,rfl,kG,kY,sb,nd,rfl⟩;have lk:k<=512:=by
   have:=yQ nd (m:=L) λx hx=>by
    obtain⟨i,_,rfl⟩:=R9.mp hx;exact mem i
   rw [G1,S6] at this;omega
  refine⟨_,rfl,_,rfl,Mx ā kG λbo hbo=>⟨_,rfl,Vt (λc=> ?_) (λc=> ?_)⟩⟩
  rotate_left
  ·refine hC _ _ ⟨k,b5,b6,rfl,kG,kY,sb,hbo.mp ?_,lk⟩;cases bo with
   |true=>rfl
   |false=>exact absurd rfl c
  have hni:I k ∉ (P4 k).map I:=λz=>by rw [hbo.mpr z] at c;exact absurd c (by decide)
  refine jf (RwS n Ts L I h N Lf G Y k (k+1) k b5 b6) (λC2 ŀ=>⟨_,rfl,G,rfl,_,rfl,_,kG,?_,ŀ _ _ ⟨rfl,?_,jj nY kY,sb.over fG⟩⟩) ?_
  ·rw [G1,G1,S6];exact J5 lk (by decide)
  ·rw [jc,V5,R1,R1];rfl
  clear kG kY sb;rintro _ h5 ⟨rfl,kG,kY,sb⟩;obtain⟨X1G,X1H,hopn⟩:=NS (cl _ (mem k));obtain⟨X,gX,kX⟩:=Lb nx (sub _ (mem k));refine jf (RwS n Ts L I h N Lf G Y k (k+1) (k+1) b5 b6) (λC2 ŀ=>⟨_,rfl,Y,rfl,xA (j:=λh=>(h X).map Yp) (P4 Ts.length) (λ(x:G7)=> .int (x:P0)) (λx=>jg (Ü n (Ts.getD x []) (I k))) (λ(x:G7)=> .int (x:P0)) (λi=>decide (Ü n (Ts.getD i []) (I k)∈L)) (by rw [S6];omega) ?_ (λR r=>⟨_,rfl,_,rfl,N,I k,â,kv,.lst X,rfl,rfl,sb.dc _ _ kN,gX,X,rfl,r⟩) (λx hx Q' q'=>⟨_,rfl,_,rfl,Lf,_,ep,_,rfl,rfl,sb.dc _ _ kL,by rw [La,n9];exact⟨_,rfl,q'⟩⟩) (λx hx _ Q' q'=>⟨_,rfl,q'⟩) λZ eZ=>⟨_,_,jc,wY (j:=0) (by rw [D1,X1G];rfl),_,ji kY eZ,?_,ŀ _ _ ⟨rfl,jj (E4 nY) (ji kG eZ),?_,(sb.newAt eZ).over fY⟩⟩⟩) ?_
  ·show (h5 X).map Yp=_;rw [sb _ _ kX,bK];exact congrArg some (UD (n:=n) λ_ T=>Ü n T (I k))
  ·rw [G1,S6];exact J5 lk (by decide)
  ·rw [jc,V5,R1];rfl
  clear kG kY sb;rintro _ h6 ⟨rfl,kG,kY,sb⟩;refine⟨_,rfl,_,rfl,N,I k,â,kv,.lst X,rfl,rfl,sb.dc _ _ kN,gX,_,rfl,_,_,kY,(show Ē _ (-1)=some (D.int ((NR n Ts L (I k):G7):P0)) from XM (E8 1 k)),_,_,sb _ _ kX,wY (j:=NR n Ts L (I k)) (by unfold nxD;rw [D1,I0 X1H];rfl),513-(k+1),_,by omega,Sub.refl _,k+1,_,_,by rw [hI];rfl,kG,kY,sb,?_,rfl⟩;rw [V5,R1,K9];exact⟨nd,by simp,λx hx y hy=>by rw [G9.mp (show y∈ [I k] from hy)];intro e;exact hni (e ▸ hx)⟩
 clear kG kY sb;rintro _ h4 ⟨k,b5,b6,rfl,kG,kY,sb,Γ,lk⟩;obtain⟨J,pd,ps,zz,hat,t1,t2,c1,c2,c3,c4,c5,c6,c7⟩:=FQ ā kG Γ (by rw [G1,S6];omega);have hJ:J<k:=by
  have:=(P8.mp hat).1
  rwa [G1,S6] at this
 have eJ:I J=I k:=by
  rw [D1,I0 hJ] at hat;exact B9 hat
 refine⟨_,rfl,_,rfl,_,rfl,G,rfl,_,rfl,pd,ps,J,zz,t1,t2,c1,c2,c3,c4,c5,c6,c7,_,rfl,_,kY,λp û=>⟨_,jc,Μ,h4,.new û,?_⟩⟩;rw [xD _ J (by rw [G1,S6];omega),<-fX,DN];have led:=NT (n:=n) (Ts:=Ts) (L:=L) (M:=M0) J (k-J);rw [<-eI,show J+(k-J)=k by omega,eJ] at led;have:=q (I k) ((i6 J (k-J)).map λi=>NR n Ts L (I i)) h4 (mem k) (λi hi=>by
  obtain⟨m,_,rfl⟩:=R9.mp hi;exact(NS (cl _ (mem m))).2.1) (by rw [G1,o8];omega) (by rw [G1,o8];omega) led sb
 unfold zt at this;rw [R4] at this;exact this
structure X0Y (n:G7)(Ts:G0 (G0 (G0 P0)))(u v:G0 G7):Prop where
 way:ZF Ts u
 few:u.length<=56
 ok: ∀i∈v,i<Ts.length
 lo:1<=v.length
 hi:v.length<=512
 back:zB n Ts (Ó n Ts u) v=Ó n Ts u
 nf:jm (Ó n Ts u)=false
def uB (n:G7)(Ts:G0 (G0 (G0 P0)))(d:D):Prop:=(∃r,à n Ts r= []/\d= .non)\/((∀k,à n Ts k≠ [])/\ ∃u v,d= .tup [zt u,zt v]/\X0Y n Ts u v)
theorem TJ (h:M∈F.map (·.1)): ∃p∈F,p.1=M/\zJ (č F) M=some (zt p.2):=by
 cases e:F.find? λp=>decide (p.1=M) with
 |none=>
  obtain⟨p,hp,ep⟩:=R9.mp h;exact absurd (D2 ep) (Q8.mp e p hp)
 |some p=>
  refine⟨p,K5 e,C4 (bL (p:=λp:G0 (G0 P0)×G0 G7=>decide (p.1=M)) e),?_⟩;unfold č;rw [UB];unfold zJ;rw [e];rfl
theorem TK {r:G7}{v:G0 G7}(hT:Ä n Ts)(ez:ġ n Ts r= [])(hM:M∈à n Ts r)(hv: ∀i∈v,i<Ts.length)(lo:1<=v.length)(hi:v.length<=512)(led:zB n Ts M v=M): ∃u,zJ (č (ÿ n Ts)) M=some (zt u)/\X0Y n Ts u v/\ ∀k,à n Ts k≠ []:=by
 obtain⟨p,hp,ep1,gp⟩:=TJ (US hM);obtain⟨f1,f2,_⟩:=(wB (n:=n) hT.l3).fd p hp;have eM:Ó n Ts p.2=M:=f1.symm.trans ep1;have nf:jm M=false:=JP ((yH hT).mp hM).2;refine⟨p.2,gp,⟨f2,NC hT hp,hv,lo,hi,by rw [eM];exact led,by rw [eM];exact nf⟩,λk e=> ?_⟩;rcases qB k r with c|c
 ·have:=Gx c hM;rw [e] at this;cases this
 ·have:=UJ ez (k-r);rw [show r+(k-r)=k by omega,e] at this;rw [<-this] at hM;cases hM
def Jv:RDn:=λds h Q=> ∃A Ts,∃n:G7,ds= [.lst A]/\h A=some (Ts.map jg)/\Ä n Ts/\ ∀d,uB n Ts d->Q d h
theorem Vl (Z:Zs mg)(F:ã K "why_lasting" "why_lasting" vg f fd)(jz:je P w K mg base n "want_tables" ["thing"] jI)(jG:je P w K mg base n "ways_and_nexts" ["tables"] jV)(zE:je P w K mg base n "rounds_and_lasting" ["nexts"] zr)(Vo:je P w K mg base n "round_within" ["nexts","left"] vX):Ë P w K mg base á (n+1) f fd ["tables"] (ä K Jv):=by
 refine F.okM wu (λhr=>(js6 (yp (jk jz hr (j1 (jv 0)))) (Dt (jk jG hr (j1 (jv 0))) (yM (i:=1) (j:=2) rfl wu.nd rfl rfl (H0 rfl) (H0 rfl))) (Dt (jk zE hr (j1 (jv 2))) (yM (i:=3) (j:=4) rfl wu.nd rfl rfl (H0 rfl) (H0 rfl))) (Jq (yo (FW (jv 4))) (zA VB)) (Dt (jk Vo hr (j2 (jv 2) (jv 4))) (yM (i:=5) (j:=6) rfl wu.nd rfl rfl (H0 rfl) (H0 rfl))) (zA (Mi (j2 (Tk hr (jv 1) (jv 5)) (jv 6)))))) ?_;rintro ds h Q ⟨A,Ts,n,rfl,kA,hT,q⟩;refine⟨rfl,?_⟩;refine jT [some (.lst A),none,none,none,none,none,none] (λC hC=>⟨_,rfl,A,Ts,n,rfl,kA,hT,hC⟩) ?_;refine jf (λÂ h'=> ∃W N ν â kv,Â= [some (.lst A),some (.dct W),some (.dct N),none,none,none,none]/\h'.dc W=some (.tk ν (č (ÿ n Ts)))/\h'.dc N=some (.tk â kv)/\Ă n Ts (ÿ n Ts) none kv h'/\Sub h h') (λC hC=>⟨_,rfl,A,Ts,n,rfl,kA,hT,λW N ep â kv h' kW kN nx sb=>⟨_,_,rfl,hC _ _ ⟨W,N,ep,â,kv,rfl,kW,kN,nx,sb⟩⟩⟩) ?_;rintro _ h1 ⟨W,N,ν,â,kv,rfl,kW,kN,nx,sb⟩;refine jf (λÂ h'=> ∃Lf r ep,Â= [some (.lst A),some (.dct W),some (.dct N),some (.int ((r:G7):P0)),some (.dct Lf),none,none]/\h'.dc Lf=some (.tk ep ((à n Ts r).map λM=>(M,D.bl true)))/\ġ n Ts r= []/\Sub h h'/\Sub h1 h') (λC hC=>⟨_,rfl,N,Ts,kv,â,n,rfl,hT,kN,nx,λLf r ep h' kL ez lo ŕ=>⟨_,_,rfl,hC _ _ ⟨Lf,r,ep,rfl,kL,ez,sb.trans ŕ,ŕ⟩⟩⟩) ?_;clear sb;rintro _ h2 ⟨Lf,r,ep,rfl,kL,ez,sb,ŕ⟩
 by_cases z:à n Ts r= []
 ·refine jf (λ_ _=>False) (λC hC=>⟨_,rfl,Lf,ep,_,rfl,kL,?_⟩) (λ_ _ z=>z.elim);rw [z];exact yr ⟨h,sb,q _ (.inl ⟨r,z,rfl⟩)⟩
 refine jT [some (.lst A),some (.dct W),some (.dct N),some (.int ((r:G7):P0)),some (.dct Lf),none,none] (λC hC=>⟨_,rfl,Lf,ep,_,rfl,kL,?_⟩) ?_
 ·rw [show (!((à n Ts r).map λM=>(M,D.bl true)).isEmpty)=true from by
   cases y:à n Ts r with
   |nil=>exact absurd y z
   |cons=>rfl]
  exact zF (hC)
 refine jf (λÂ h'=> ∃M v,Â= [some (.lst A),some (.dct W),some (.dct N),some (.int ((r:G7):P0)),some (.dct Lf),some (jg M),some (zt v)]/\h'.dc W=some (.tk ν (č (ÿ n Ts)))/\M∈à n Ts r/\(∀i∈v,i<Ts.length)/\1<=v.length/\v.length<=512/\zB n Ts M v=M/\Sub h h') (λC hC=>⟨_,rfl,_,rfl,N,Lf,Ts,à n Ts r,kv,ep,â,n,rfl,hT,ŕ.dc _ _ kN,GK nx ŕ,kL,λM hM=>US hM,z,UT hT.n3 hT.l3 r,λM hM=> ?_,λM v h' hM hv lo hi led Ο=>⟨_,_,rfl,hC _ _ ⟨M,v,rfl,Ο.dc _ _ (ŕ.dc _ _ kW),hM,hv,lo,hi,led,sb.trans Ο⟩⟩⟩) ?_
 ·have:=mI.mp ez M hM;cases y:ż n Ts (à n Ts r) M with
  |true=>rfl
  |false=>rw [y] at this;exact absurd rfl this
 clear kL kN nx sb ŕ;rintro _ h3 ⟨M,v,rfl,kW,hM,hv,lo,hi,led,sb⟩;obtain⟨u,gp,pw,all⟩:=TK hT ez hM hv lo hi led;exact⟨_,rfl,_,rfl,W,M,ν,_,_,rfl,rfl,kW,gp,_,rfl,Μ,h,sb,q _ (.inr ⟨all,u,v,rfl,pw⟩)⟩
def Lg:D->P0
 | .int i=>i
 |_=>0
def Bp:D->G0 P0
 | .tup es=>es.map Lg
 |_=> []
def vY:D->G0 (G0 P0)
 | .tup rs=>rs.map Bp
 |_=> []
theorem NU {k:P0}(h:Bo d k=true):d=ym (Bp d)/\((Bp d).length:P0)=k/\ ∀x∈Bp d,0<=x:=by
 cases d with
 |tup es=>
  have h':(decide ((es.length:P0)=k)&&es.all TB)=true:=h;rw [C7,J7,T6] at h';have num: ∀x∈es,x= .int (Lg x)/\0<=Lg x:=λx hx=>by
   have:=h'.2 x hx;cases x with
   |int i=>exact⟨rfl,C4 this⟩
   |_=>cases this
  refine⟨?_,?_,λx hx=> ?_⟩
  ·show D.tup es= .tup ((es.map Lg).map D.int);rw [R4];have:es.map (D.int∘Lg)=es.map id:=M6 λx hx=>(num x hx).1.symm
   rw [this,W7]
  ·show ((es.map Lg).length:P0)=k;rw [G1];exact h'.1
  ·obtain⟨y,hy,rfl⟩:=R9.mp (show x∈es.map Lg from hx);exact(num y hy).2
 |_=>cases h
theorem TL: ∀l:G0 P0,∃e:G7,∀x∈l,x<2^e
 | []=>⟨0,λ_ z=>nomatch z⟩
 |x::l=>by
  obtain⟨e,he⟩:=TL l;refine⟨max e x.natAbs,λy hy=> ?_⟩;rcases T3.mp hy with z|z
  ·subst z;have a:(y.natAbs:P0)<2^y.natAbs:=by exact_mod_cast Nat.lt_two_pow_self
   have b:(2:P0)^y.natAbs<=2^max e y.natAbs:=by exact_mod_cast b9 (by decide) (Nat.le_max_right _ _)
   omega
  ·have b:(2:P0)^e<=2^max e x.natAbs:=by exact_mod_cast b9 (by decide) (Nat.le_max_left _ _)
   have:=he y z;omega
theorem Lh (h:Fn d=true):d=jg (vY d)/\(∃e,Sq (vY d).length e (vY d))/\1<=(vY d).length/\(vY d).length<=6:=by
 cases d with
 |tup rs=>
  have h':(decide (1<=rs.length)&&decide (rs.length<=6)&&rs.all λr=>Bo r rs.length)=true:=h;rw [C7,C7,J7,J7,T6] at h';obtain⟨⟨t1,t6⟩,ta⟩:=h';have len:(vY (.tup rs)).length=rs.length:=G1 _;obtain⟨e,he⟩:=TL (vY (.tup rs)).flatten;have row: ∀r∈vY (.tup rs),∃q∈rs,r=Bp q:=λr hr=>by
   obtain⟨q,hq,rfl⟩:=R9.mp (show r∈rs.map Bp from hr);exact⟨q,hq,rfl⟩
  refine⟨?_,⟨e,rfl,λr hr=> ?_,λr hr x hx=> ?_,λr hr x hx=>he x (List.mem_flatten.mpr ⟨r,hr,hx⟩)⟩,by rw [len];exact t1,by rw [len];exact t6⟩
  ·show D.tup rs= .tup ((rs.map Bp).map ym);rw [R4];have:rs.map (ym∘Bp)=rs.map id:=M6 λx hx=>(NU (ta x hx)).1.symm
   rw [this,W7]
  ·obtain⟨q,hq,rfl⟩:=row r hr;have:=(NU (ta q hq)).2.1;rw [len];omega
  ·obtain⟨q,hq,rfl⟩:=row r hr;exact(NU (ta q hq)).2.2 x hx
 |_=>cases h
/-- a table of 0 and 1 alone,of a size,with some 0 -/
def Wh (n:G7)(d:D):N2:=Fn d&&(decide ((vY d).length=n)&&(decide (vY d=jn (vY d).length (vY d))&& !jm (vY d)))
theorem NV (h:Wh n d=true):d=jg (vY d)/\Sq n 1 (vY d)/\jm (vY d)=false:=by
 unfold Wh at h;rw [C7,C7,C7,J7,J7] at h;obtain⟨t,l,m,f⟩:=h;refine⟨(Lh t).1,?_,by simpa using f⟩;rw [m,l];exact Sq.mark _
theorem NW {ds:G0 D}(h: ∀d∈ds,Wh n d=true):ds=(ds.map vY).map jg/\ ∀M∈ds.map vY,Sq n 1 M/\jm M=false:=by
 refine⟨?_,λM hM=> ?_⟩
 ·rw [R4];have:ds.map (jg∘vY)=ds.map id:=M6 λx hx=>(NV (h x hx)).1.symm
  rw [this,W7]
 ·obtain⟨d,hd,rfl⟩:=R9.mp hM;exact(NV (h d hd)).2
def Li (n:G7)(Ts:G0 (G0 (G0 P0))):D->N2
 | .tup ds=>ds.all (Wh n)&&(NL (ds.map vY)&&(Ts.all (λT=>decide (jn n T∈ds.map vY))&&(ds.map vY).all λM=>Ts.all λT=>decide (Ü n T M∈ds.map vY)))
 |_=>false
def VW:RDn:=λds h Q=> ∃d,∃n:G7,ds= [d,.int (n:P0)]/\okD d=true/\Q (.bl (Wh n d)) h
theorem DO (Z:Zs mg)(F:ã K "is_post" "is_post" YI f fd)(yi:je P w K mg base n "full" ["table"] vV)(yj:je P w K mg base n "marks" ["table"] vo)(zd:je P w K mg base n "has_table_form" ["thing"] zw):Ë P w K mg base á (n+1) f fd ["thing","size"] (ä K VW):=by
 refine F.okM DJ (λhr=>(jR (zA (Ds (jk zd hr (j1 (jv 0))) (Ds (İ ą (WE Z (jv 0)) (jv 1)) (Ds (İ (Vz hr.units) (jv 0) (jk yj hr (j1 (jv 0)))) (Gb (uh (jk yi hr (j1 (jv 0))))))))))) ?_;rintro ds h Q ⟨d,n,rfl,ok,q⟩;refine⟨rfl,?_⟩;refine⟨_,rfl,d,rfl,ok,_,rfl,?_⟩;cases ht:Fn d with
 |false=>
  unfold Wh at q;rw [ht] at q;exact zF ⟨h,Sub.refl h,q⟩
 |true=>
  obtain⟨ed,⟨e,sq⟩,l1,l6⟩:=Lh ht;unfold Wh at q;rw [ht,K2] at q;obtain⟨M,eM⟩: ∃M,M=vY d:=⟨_,rfl⟩;rw [<-eM] at ed sq l1 l6 q;clear eM ok ht;subst ed;have el:decide ((((M.map ym).length:G7):P0)=(n:P0))=decide (M.length=n):=by
   rw [G1,J8,J7,J7];omega
  refine yr ⟨_,rfl,_,rfl,_,rfl,?_⟩;show if decide ((((M.map ym).length:G7):P0)=(n:P0))=true then _ else _
  rw [el];cases hl:decide (M.length=n) with
  |false=>
   rw [hl] at q;exact zF ⟨h,Sub.refl h,q⟩
  |true=>
   rw [hl,K2] at q;refine yr ⟨_,rfl,_,rfl,M,M.length,e,rfl,sq,l1,l6,Jo M,Jo (jn M.length M),vJ h _,vJ h _,Je _,Je _,_,rfl,?_⟩;rw [ā.eq];cases hm:decide (M=jn M.length M) with
   |false=>
    rw [hm] at q;exact zF ⟨h,Sub.refl h,q⟩
   |true=>
    rw [hm,K2] at q;exact yr ⟨_,rfl,M,M.length,e,rfl,sq,l1,l6,_,rfl,h,Sub.refl h,q⟩
theorem Fz {b:D->SD->SD->Prop}{js:G0 G7}{ti Ĵ:TID}{tt Ľ:TTD}{i':G7}{te:TED}{E:EndsD}{σ:SD}(x:BP b js ti tt i' Ĵ Ľ te σ h λv h1=>RV [v] h1 λd h2=>E.rt d h2):BK (Ĩ RV (wb (BP b js ti tt i' Ĵ Ľ te) Vd)) E σ h:=x
theorem Lj: ∀ {Ps:G0 (G0 (G0 P0))},NL Ps=true->Ps.Pairwise (λx y=>zj x y=true)
 | [],_=> .nil
 | [a],_=>O7 _ _
 |a::b::l,h=>by
  have h':(zj a b&&NL (b::l))=true:=h;rw [C7] at h';have ih:=Lj h'.2;refine W1.mpr ⟨λy hy=> ?_,ih⟩;rcases T3.mp hy with z|z
  ·rw [z];exact h'.1
  ·exact WU h'.1 ((W1.mp ih).1 y z)
theorem Lk: ∀ {Ps:G0 (G0 (G0 P0))},Ps.Pairwise (λx y=>zj x y=true)->NL Ps=true
 | [],_=>rfl
 | [a],_=>rfl
 |a::b::l,h=>by
  obtain⟨h1,h2⟩:=W1.mp h;show (zj a b&&NL (b::l))=true;rw [h1 b P6,Lk h2];rfl
theorem TN {Ps:G0 (G0 (G0 P0))}(h:NL Ps=true):Ps.Nodup:=(Lj h).imp λ{x y} z e=>by
 rw [e,MT] at z;cases z
theorem VX (Ps:G0 (G0 (G0 P0)))(T:G0 (G0 P0)):(false !=(zJ (Ps.map λM=>(M,D.bl true)) T).isSome)=decide (T∈Ps):=by
 rw [n9];unfold zJ;rw [fC,List.find?_map,fC,J8,p9,J7];exact⟨λ⟨x,hx,e⟩=>(C4 e:x=T) ▸ hx,λhx=>⟨T,hx,D2 rfl⟩⟩
def Jw:RDn:=λds h Q=> ∃A Ts d,∃n:G7,ds= [.lst A,d]/\h A=some (Ts.map jg)/\Ä n Ts/\okD d=true/\(∀es,d= .tup es->es.length<999)/\Q (.bl (Li n Ts d)) h
theorem Vm (Z:Zs mg)(F:ã K "fence_holds" "fence_holds" vh f fd)(jz:je P w K mg base n "want_tables" ["thing"] jI)(Bb:je P w K mg base n "is_post" ["thing","size"] VW)(AQ:je P w K mg base n "rises" ["row"] PN)(yj:je P w K mg base n "marks" ["table"] vo)(jE:je P w K mg base n "marks_after" ["ahead","table"] zf):Ë P w K mg base á (n+1) f fd ["tables","thing"] (ä K Jw):=by
 refine F.okM zg (λhr=>(js6 (yp (jk jz hr (j1 (jv 0)))) (Jq (ũ (Rc (yo (wM (Xx (T:= "tuple") (by decide) rfl Z.isinstance rfl Z.tuple (by decide +kernel) (jv 1)))) (Mh (yo (wM (wJ (Zh rfl) rfl Z.all A7 (j1 (ļ 3 zg (zl (jv 1)) (λ_ _ _ _=>(jk Bb hr (j2 (jv 3) (WE Z (ċ (jv 0) jF))))))))))))) (zA Ī)) (Jq (yo (wM (jk AQ hr (j1 (jv 1))))) (zA Ī)) (ø 2 zg (jdc (i:=3) (js:= [3]) hr rfl (jP (by rfl)) (zl (jv 1)) (by decide) zg.nd rfl (by first|exact H0 rfl|exact W0 rfl) (λX' hX=>wZ) (λX' hX=>by obtain⟨C,s₀,H₀,ex,rfl⟩:=hX;exact(jv 3)) (λX' hX=>by obtain⟨C,s₀,H₀,ex,rfl⟩:=hX;exact Ī))) (Jq (yo (wM (wJ (Zh rfl) rfl Z.all A7 (j1 (ļ 4 zg (zl (jv 0)) (λ_ _ _ _=>(Hd (Pv hr) (jk yj hr (j1 (jv 4))) (jv 2) (by with_unfolding_all rfl)))))))) (zA Ī)) (zA (wJ (Zh rfl) rfl Z.all A7 (j1 (ui (i:=3) (i':=4) (js:= [3,4]) rfl (jP (by rfl)) (zl (jv 1)) (by decide) (by decide) (by decide) zg.nd rfl rfl (by first|exact H0 rfl|exact W0 rfl) (by first|exact H0 rfl|exact W0 rfl) (λX' hX=>wZ) (λX' hX=>by obtain⟨C,s₀,H₀,ex,rfl⟩:=hX;exact(zl (jv 0))) (λX' hX=>wZ) (λX' hX=>by obtain⟨C,s₀,H₀,ex,rfl⟩:=hX;exact(Hd (Pv hr) (jk jE hr (j2 (jv 3) (jv 4))) (jv 2) (by with_unfolding_all rfl))))))))) ?_;rintro ds h Q ⟨A,Ts,d,n,rfl,kA,hT,ok,few,q⟩;refine⟨rfl,?_⟩;have n1:=hT.n1;have n3:=hT.n3;have l1:=hT.l1;have l3:=hT.l3;have s0:=hT.get (i:=0) (by omega);have e0:=Ys hT (i:=0) (by omega);obtain⟨nm,hn⟩:=vk ok;refine jT [some (.lst A),some d,none,none,none] (λC hC=>⟨_,rfl,A,Ts,n,rfl,kA,hT,hC⟩) ?_;cases d with
 |tup ds=>
  cases hn;obtain⟨hl,ht⟩:=YL ok
  replace few:=few ds rfl
  replace q:Q (.bl (ds.all (Wh n)&&(NL (ds.map vY)&&(Ts.all (λT=>decide (jn n T∈ds.map vY))&&(ds.map vY).all λM=>Ts.all λT=>decide (Ü n T M∈ds.map vY))))) h:=q
  refine jf (λÂ h'=>Â= [some (.lst A),some (.tup ds),none,none,none]/\h=h'/\ds.all (Wh n)=true) (λC hC=>⟨_,rfl,"tuple",rfl,_,rfl,zF (He ds (λx=>x) (Wh n) hl (by rw [xQ]) (λR r=>⟨_,rfl,r⟩) (λx hx Q' q'=>⟨_,rfl,_,rfl,_,_,kA,e0,x,n,by rw [G1,s0.len],ht x hx,q'⟩) ⟨_,rfl,?_⟩)⟩) ?_
  ·cases hb:ds.all (Wh n) with
   |false=>
    rw [hb] at q;exact yr ⟨h,Sub.refl h,q⟩
   |true=>exact zF (hC _ _ ⟨rfl,rfl,hb⟩)
  rintro _ _ ⟨rfl,rfl,al⟩;rw [al,K2] at q;obtain⟨ed,pq⟩:=NW (T6.mp al);obtain⟨Ps,ePs⟩: ∃Ps,Ps=ds.map vY:=⟨_,rfl⟩;rw [<-ePs] at ed pq q;have lP:Ps.length<999:=by rw [ePs,G1];exact few
  clear ePs al hl ht few ok;subst ed;refine jf (λÂ h'=>Â= [some (.lst A),some (.tup (Ps.map jg)),none,none,none]/\h=h'/\NL Ps=true) (λC hC=>⟨_,rfl,Ps,rfl,by omega,_,rfl,?_⟩) ?_
  ·cases hb:NL Ps with
   |false=>
    rw [hb] at q;exact yr ⟨h,Sub.refl h,q⟩
   |true=>exact zF (hC _ _ ⟨rfl,rfl,hb⟩)
  rintro _ _ ⟨rfl,rfl,ris⟩;rw [ris,K2] at q;have nd:Ps.Nodup:=TN ris;refine jf (λÂ h'=> ∃P ep,Â= [some (.lst A),some (.tup (Ps.map jg)),some (.dct P),none,none]/\h'.dc P=some (.tk ep (Ps.map λM=>(M,D.bl true)))/\h' A=some (Ts.map jg)/\Sub h h') (λC hC=>⟨_,rfl,Ps.length,λi kv h'=>h=h'/\kv=(Ps.take i).map λM=>(M,D.bl true),⟨rfl,rfl⟩,?_⟩) ?_
  ·rintro i kv _ ⟨rfl,rfl⟩;have ky: ∀l:G0 (G0 (G0 P0)),(l.map λM=>(M,D.bl true)).map (·.1)=l:=λl=>by rw [R4];exact W7 l
   refine⟨by rw [G1,S8];omega,by rw [ky];exact nd.sublist (E6 _ _),_,rfl,by rw [G1];exact P5 _,λhi P ep fP=>hC _ _ ⟨P,ep,rfl,?_,kA,.newC fP⟩,λd hd=> ?_⟩
   ·rw [G1] at hi;rw [S3 hi,zR]
   ·rw [D1] at hd;obtain⟨M,hM,rfl⟩:=F9.mp hd;have il:=(P8.mp hM).1;have st:Ps.take (i+1)=Ps.take i++ [M]:=by rw [iN,hM];rfl
    refine⟨_,rfl,?_⟩;unfold Jd;dsimp only;rw [R5 rfl];refine⟨_,rfl,M,_,rfl,?_,Sub.refl _,rfl,by rw [st,R1];rfl⟩;rw [ky];have:=nd.sublist (E6 (i+1) Ps);rw [st] at this;exact λz=>(K9.mp this).2.2 _ z _ P6 rfl
  rintro _ h2 ⟨P,ep,rfl,kP,Ξ,sb⟩;refine jf (λÂ h'=>Â= [some (.lst A),some (.tup (Ps.map jg)),some (.dct P),none,none]/\h2=h'/\Ts.all (λT=>decide (jn n T∈Ps))=true) (λC hC=>He (j:=λh=>h A) Ts jg (λT=>decide (jn n T∈Ps)) (by omega) Ξ (λR r=>⟨_,rfl,r⟩) (λT hm Q' q'=>⟨_,rfl,T,n,20,rfl,hT.sq T hm,n1,by omega,_,rfl,P,jn n T,ep,_,rfl,rfl,kP,by rw [VX];exact q'⟩) ⟨_,rfl,?_⟩) ?_
  ·cases hb:Ts.all (λT=>decide (jn n T∈Ps)) with
   |false=>
    rw [hb] at q;exact yr ⟨h,sb,q⟩
   |true=>exact zF (hC _ _ ⟨rfl,rfl,hb⟩)
  rintro _ _ ⟨rfl,rfl,al⟩;rw [al,K2] at q;refine Fz (Tg (h:=h2) (j:=λ_=>some (Ps.map jg)) Ps jg (λ_=>Ts) jg (λ_ _=>true) (λM T=> .bl (decide (Ü n T M∈Ps))) ?_ (λ_ _=>rfl) (λR r=>⟨_,rfl,r⟩) (λM hM h' sb' R r=>⟨_,rfl,r _ h' (Sub.refl _) λh3 Ο=>Ο _ _ (sb' _ _ Ξ)⟩) (λ_ _ _ _ h' _ Q' q'=>q') (λM hM T hm _ h' sb' Q' q'=>⟨_,rfl,_,rfl,M,T,n,20,rfl,(pq M hM).1,hT.sq T hm,n1,by omega,by decide,_,rfl,P,Ü n T M,ep,_,rfl,rfl,sb'.dc _ _ kP,by rw [VX];exact q'⟩) λa h' sb' ha=> ?_)
  ·have ll: ∀l:G0 (G0 (G0 P0)),(l.flatMap λM=>((Ts.filter λ_=>true).map λT=>D.bl (decide (Ü n T M∈Ps)))).length<=3*l.length:=λl=>by
    induction l with
    |nil=>exact B0 _
    |cons x l ih=>
     rw [bU,P2,S7,G1];have:=Q0 (λ_=>true) Ts;omega
   exact S5 (ll Ps) (S5 (show 3*Ps.length<=3000 by omega) (by decide))
  ·refine⟨a,Ps.flatMap λM=>Ts.map λT=>decide (Ü n T M∈Ps),rfl,?_,?_⟩
   ·rw [jc,List.map_flatMap];refine congrArg some (congrArg (λf=>List.flatMap f Ps) (funext λM=> ?_));rw [cO.mpr λ_ _=>rfl,R4];rfl
   ·rw [zG ha];refine⟨h,sb.trans sb',?_⟩;rw [List.all_flatMap];have e:(λM=>(Ts.map λT=>decide (Ü n T M∈Ps)).all id)=λM=>Ts.all λT=>decide (Ü n T M∈Ps):=funext λM=>Y8
    rw [e];exact q
 |_=>cases hn<;>exact⟨_,rfl,_,rfl,_,rfl,yr (yr ⟨h,Sub.refl h,q⟩)⟩
/-- all marks found,rising -/
def Fks (n:G7)(Ts ks:G0 (G0 (G0 P0))):Prop:=ks.Perm ((ÿ n Ts).map (·.1))/\ks.Pairwise (λx y=>zj x y=true)
/-- Ś fence with Ś fewest tables -/
def KW (n:G7)(Ts:G0 (G0 (G0 P0)))(d:D):Prop:=(((ÿ n Ts).any λp=>jm p.1)=true/\d= .non)\/(((ÿ n Ts).any λp=>jm p.1)=false/\ ∃ks,Fks n Ts ks/\d= .tup (ks.map jg))
theorem NX (F:Fnd):(č F).map (λp=>jg p.1)=F.map λp=>jg p.1:=by unfold č;rw [R4];rfl
theorem PP (F:Fnd):(č F).map (·.1)=F.map (·.1):=by unfold č;rw [R4];rfl
def YS:RDn:=λds h Q=> ∃A Ts,∃n:G7,ds= [.lst A]/\h A=some (Ts.map jg)/\Ä n Ts/\ ∀d,KW n Ts d->Q d h
theorem GN (Z:Zs mg)(F:ã K "fence_of" "fence_of" Wc f fd)(jz:je P w K mg base n "want_tables" ["thing"] jI)(jG:je P w K mg base n "ways_and_nexts" ["tables"] jV)(yi:je P w K mg base n "full" ["table"] vV):Ë P w K mg base á (n+1) f fd ["tables"] (ä K YS):=by
 refine F.okM Zb (λhr=>(μ (yp (jk jz hr (j1 (jv 0)))) (Dt (jk jG hr (j1 (jv 0))) (yM (i:=1) (j:=2) rfl Zb.nd rfl rfl (H0 rfl) (H0 rfl))) (zA (jif (wM (wJ (FL rfl) rfl Z.any (by decide +kernel) (j1 (ļ 3 Zb (Gt (jv 1)) (λ_ _ _ _=>(jk yi hr (j1 (jv 3)))))))) VB (jM ð rfl Z.tuple (by decide +kernel) (j1 (wJ (Gu rfl hr) rfl Z.sorted (by decide +kernel) (j1 (jv 1))))))))) ?_;rintro ds h Q ⟨A,Ts,n,rfl,kA,hT,q⟩;refine⟨rfl,?_⟩;have n1:=hT.n1;have n3:=hT.n3;have l3:=hT.l3;have lf:(ÿ n Ts).length<=512:=(wB (n:=n) l3).few n3;refine jT [some (.lst A),none,none,none] (λC hC=>⟨_,rfl,A,Ts,n,rfl,kA,hT,hC⟩) ?_;refine jf (λÂ h'=> ∃W N ep,Â= [some (.lst A),some (.dct W),some (.dct N),none]/\h'.dc W=some (.tk ep (č (ÿ n Ts)))/\Sub h h') (λC hC=>⟨_,rfl,A,Ts,n,rfl,kA,hT,λW N ep â kv h' kW kN nx sb=>⟨_,_,rfl,hC _ _ ⟨W,N,ep,rfl,kW,sb⟩⟩⟩) ?_;rintro _ h1 ⟨W,N,ep,rfl,kW,sb⟩;refine uj (j:=Qi W ep (č (ÿ n Ts)).length) (ÿ n Ts) (λp=>jg p.1) (λp=>jm p.1) (by omega) (by rw [UE kW,NX]) (λR r=>⟨_,rfl,W,ep,_,rfl,kW,r⟩) (λp hp Q' q'=>⟨_,rfl,p.1,n,1,rfl,(GL l3 hp).1,n1,by omega,q'⟩) ⟨_,rfl,?_⟩;cases hb:(ÿ n Ts).any λp=>jm p.1 with
 |true=>exact yr ⟨h,sb,q _ (.inl ⟨hb,rfl⟩)⟩
 |false=>
  refine zF ⟨_,rfl,W,ep,_,rfl,kW,by unfold č;rw [G1];omega,λp hp=> ?_,λU ks fU pm srt=> ?_⟩
  ·have hm:p.1∈(ÿ n Ts).map (·.1):=by rw [<-PP];exact gM hp
   obtain⟨x,hx,e⟩:=R9.mp hm;have sq:=(GL l3 hx).1;rw [e] at sq;intro z;have:=sq.len;rw [z] at this;exact absurd this (by show ¬ (0=n);omega)
  ·exact⟨_,jc,h,sb.newAt fU,q _ (.inr ⟨hb,ks,⟨by rw [<-PP];exact pm,srt⟩,rfl⟩)⟩
def WA:RDn:=λds h Q=> ∃ns k,ds= [.scr ns,.int k]/\0<=k/\ ∀n,Q (.int n) h
theorem Qu (Z:Zs mg)(F:ã K "_law_cell" "_law_cell" JU f fd):Ë P w K mg base á (n+1) f fd ["_law_script","_law_k"] (ä K WA):=by
 refine F.okM Qq (λhr=>(Ż (Jq (ĕ BQ (jv 1) (WE Z (jv 0))) (zA (ċ (jv 0) (jv 1)))) (zA jF))) ?_;rintro ds h Q ⟨ns,k,rfl,h0,q⟩;refine⟨rfl,?_⟩;simp only [vz,FH,ZJ,Ŗ,FG,vA,M7,dR,S7,O4,Z5,A9,dM,Y2,bX,Ĩ,wb,Vd,AT,FI,D.bl.injEq,BK,ixD,Bl,cW,QX,dC];refine Vt (λc=> ?_) (λ_=>⟨h,Sub.refl h,q 0⟩);have c':k<(ns.length:P0):=C4 c;have hk:k.toNat<ns.length:=by omega
 have ek:k=((k.toNat:G7):P0):=by omega
 have z:=wY (G2 hk);rw [<-ek] at z;exact⟨ns[k.toNat],z,h,Sub.refl h,q _⟩
def YT:RDn:=λds h Q=> ∃c,ds= [.int c]/\ ∀p l fl,h p=none->0<=l->(fl=0\/fl=1)->Q (.lst p) (wg h p [.int l,.int fl])
theorem GO (Z:Zs mg)(F:ã K "_law_pen" "_law_pen" Wd f fd):Ë P w K mg base á (n+1) f fd ["_law_cell_here"] (ä K YT):=by
 refine F.okM YJ (λhr=>(Ż (ø 1 YJ (wJ (SA rfl) rfl Z.max (by decide +kernel) (j2 (jv 0) (ú Xq jF (jv 0))))) (zA (Uo (j2 (jv 1) (jM RQ rfl Z.int (by decide +kernel) (j1 (İ Ov (jv 1) (ú FJ jF jF))))))))) ?_;rintro ds h Q ⟨c,rfl,q⟩;refine⟨rfl,?_⟩;simp only [vz,Bk,Ĩ,wb,FG,vA,M7,dR,S7,O4,S9,Z5,A9,Y2,bX,Ŗ,dC,kT,Vd,Kf,BK,Hb,List.set_cons_succ,List.set_cons_zero,dM,kZ,FI,Ke,Bl,cW];refine⟨⟨by decide,by decide,by decide⟩,by decide,λp hp=>⟨_,Sub.refl _,q p _ _ hp ?_ ?_⟩⟩
 ·split<;>omega
 ·split<;>simp<;>omega
def zP:RDn:=λds h Q=> ∃p l fl m,ds= [.lst p,.int m]/\h p=some [.int l,.int fl]/\0<=l/\0<m/\m<1073741824/\ ∀r l',0<=r->r<m->0<=l'->Q (.int r) (wg h p [.int l',.int fl])
theorem Qw (Z:Zs mg)(F:ã K "_law_draw" "_law_draw" JV f fd):Ë P w K mg base á (n+1) f fd ["_law_pen_here","_law_many_here"] (ä K zP):=by
 refine F.okM yA (λhr=>(js5 (Kn (ĕ ą (ċ (jv 0) jF) jF) (μ (Dt (wJ RR rfl Z.divmod (by decide +kernel) (j2 (ċ (jv 0) jF) (jv 1))) (yM (i:=2) (j:=3) rfl yA.nd rfl rfl (H0 rfl) (H0 rfl))) (Dt (jv 2) (Pf (jv 0) jF)) (zA (jv 3))) Mj) (ø 4 yA (ú Zg (ú Yj (ú zS (ú Zg (ċ (jv 0) jF) jF) jF) jF) jF)) (ø 4 yA (ú Zg (ú zS (ú Yj (jv 4) (jv 4)) jF) jF)) (Dt (ú Zg (ú zS (ú Yj (jv 4) jF) jF) jF) (Pf (jv 0) jF)) (zA (ú Zg (ú Ou (ċ (jv 0) jF) jF) (jv 1))))) ?_;rintro ds h Q ⟨p,l,fl,m,rfl,hp,h0,hm,hm2,q⟩;refine⟨rfl,?_⟩;refine jT [some (.lst p),some (.int m),none,none,none] (λC hC=>⟨_,rfl,_,_,hp,rfl,?_⟩) ?_
 ·show ∃k,D.bl (decide (fl=1))= .bl k/\_;refine⟨_,rfl,Vt (λ_=> ?_) λ_=>hC⟩;exact⟨_,rfl,_,_,hp,rfl,_,rfl,⟨hm,hm2⟩,_,_,rfl,_,rfl,_,rfl,p,0,_,0,rfl,rfl,hp,rfl,_,rfl,_,Sub.refl _,q (l%m) (l / m) (gJ _ (xR hm)) (iO _ hm) (Int.ediv_nonneg h0 (u9 hm))⟩
 refine jf (λÂ h'=> ∃z:P0,Â= [some (.lst p),some (.int m),none,none,some (.int z)]/\(0<=z/\z<2147483629)/\h=h') (λC hC=>⟨_,rfl,_,_,hp,rfl,by decide,.inr ⟨by decide,by decide⟩,by decide,hC _ _ ⟨_,rfl,⟨gJ _ (by decide),iO _ (by decide)⟩,rfl⟩⟩) ?_;rintro _ _ ⟨z,rfl,⟨z0,z1⟩,rfl⟩;refine jf (λÂ h'=> ∃y:P0,Â= [some (.lst p),some (.int m),none,none,some (.int y)]/\h=h') (λC hC=>⟨_,rfl,_,rfl,.inl ⟨oV (by decide) z0,Int.lt_trans z1 (by decide)⟩,by decide,hC _ _ ⟨_,rfl,rfl⟩⟩) ?_;rintro _ _ ⟨y,rfl,rfl⟩;refine jf (λÂ h'=> ∃x:P0,Â= [some (.lst p),some (.int m),none,none,some (.int y)]/\0<=x/\h'=wg h p [.int x,.int fl]) (λC hC=>⟨_,rfl,.inr ⟨by decide,by decide⟩,by decide,_,rfl,p,0,_,0,rfl,rfl,hp,rfl,hC _ _ ⟨_,rfl,gJ _ (by decide),rfl⟩⟩) ?_;rintro _ _ ⟨x,rfl,x0,rfl⟩;exact⟨_,rfl,_,_,jc,rfl,⟨by decide,by decide⟩,_,rfl,hm,_,Sub.refl _,q (x / 32%m) x (gJ _ (xR hm)) (iO _ hm) x0⟩
inductive LtG (k:G7)(h:HD)(p R S:P1)(fl way o m:P0)(i j:G7)(rows:G0 (G0 P0))(row:G0 P0)(Â:SD)(h':HD):Prop
 |mk (g:N2) (l6:P0) (z1:Â= [some (.lst p),some (.int (k:P0)),some (.int way),some (.int o),some (.int m),some (.lst R),some (.int (i:P0)),some (.lst S),some (.int (j:P0)),some (.bl g)]) (z2:0<=l6) (z3:h' p=some [.int l6,.int fl]) (z4:h' R=some (rows.map ym)) (z5:h' S=some (row.map D.int)) (z6:î p h h'):LtG k h p R S fl way o m i j rows row Â h'
inductive LtJ (k:G7)(h:HD)(p R S:P1)(fl way o m:P0)(i:G7)(rows:G0 (G0 P0))(j:G7)(Â:SD)(h':HD):Prop
 |mk (c d:P7 D) (l5:P0) (row:G0 P0) (y:Â= [some (.lst p),some (.int (k:P0)),some (.int way),some (.int o),some (.int m),some (.lst R),some (.int (i:P0)),some (.lst S),c,d]) (z0:0<=l5) (z1:h' p=some [.int l5,.int fl]) (z2:h' R=some (rows.map ym)) (z3:h' S=some (row.map D.int)) (z4:î p h h') (y1:row.length=j) (y2: ∀x∈row,0<=x/\x<=1000000):LtJ k h p R S fl way o m i rows j Â h'
inductive LtI (k:G7)(h:HD)(p R:P1)(fl way o m:P0)(i:G7)(Â:SD)(h':HD):Prop
 |mk (a b c d:P7 D) (l4:P0) (rows:G0 (G0 P0)) (y:Â= [some (.lst p),some (.int (k:P0)),some (.int way),some (.int o),some (.int m),some (.lst R),a,b,c,d]) (z0:0<=l4) (z1:h' p=some [.int l4,.int fl]) (z2:h' R=some (rows.map ym)) (z3:î p h h') (y1:rows.length=i) (y2: ∀r∈rows,yY k r):LtI k h p R fl way o m i Â h'
def wR:RDn:=λds h Q=> ∃p l fl,∃k:G7,ds= [.lst p,.int (k:P0)]/\h p=some [.int l,.int fl]/\0<=l/\1<=k/\k<=6/\ ∀T l',ī k T->0<=l'->Q (jg T) (wg h p [.int l',.int fl])
theorem UW (Z:Zs mg)(F:ã K "_law_table" "_law_table" vS f fd)(ju:je P w K mg base n "_law_draw" ["_law_pen_here","_law_many_here"] zP):Ë P w K mg base á (n+1) f fd ["_law_pen_here","_law_size"] (ä K wR):=by
 refine F.okM jC (λhr=>(js5 (OF (i:=2) (j:=3) rfl jC.nd rfl rfl (by decide) rfl rfl (j2 (jk ju hr (j2 (jv 0) jF)) (ċ (Uo (j3 jF jF jF)) (jk ju hr (j2 (jv 0) jF)))) rfl) (ø 4 jC (ċ (Uo (j4 jF jF jF (ú FJ jF jF))) (jk ju hr (j2 (jv 0) jF)))) (ø 5 jC (Uo Js)) (Re F8 rfl (ź Z (jv 1)) (jgn 6 jC) (μ (ø 7 jC (Uo Js)) (Re F8 rfl (ź Z (jv 1)) (jgn 8 jC) (js5 (ø 9 jC (İ ą (jk ju hr (j2 (jv 0) (jv 3))) jF)) (Jq (ĕ BQ (jv 2) jF) (ø 9 jC (jor (İ ą (jv 8) (ú Zg (ú zS (jv 6) jF) (jv 1))) (Gb (Ds (jv 9) (Gb (İ (Vz hr.units) (jk ju hr (j2 (jv 0) jF)) (jv 2)))))))) (Jq (ĕ ą (jv 2) jF) (ø 9 jC (jor (Ds (jv 9) (Gb (İ ą (ú Zg (ú Xq (jv 8) (jv 6)) jF) jF))) (Gb (İ (Vz hr.units) (jv 8) (ú zS (jv 6) jF)))))) (Jq (ĕ ą (jv 2) jF) (ø 9 jC (Ds (jv 9) (Gb (İ Ov (jv 8) (jv 6)))))) (yp (OJ (jv 7) (ú Yj (jM RQ rfl Z.int (by decide +kernel) (j1 (jv 9))) (ú zS jF (jk ju hr (j2 (jv 0) (jv 4))))))))) (yp (OJ (jv 5) (jM ð rfl Z.tuple (by decide +kernel) (j1 (jv 7))))))) (zA (jM ð rfl Z.tuple (by decide +kernel) (j1 (jv 5)))))) ?_;rintro ds h Q ⟨p,l,fl,k,rfl,hp,h0,hk1,hk6,q⟩;refine⟨rfl,?_⟩;refine jf (λÂ h'=> ∃way o l2,Â= [some (.lst p),some (.int (k:P0)),some (.int way),some (.int o),none,none,none,none,none,none]/\0<o/\o<1000/\0<=l2/\h' p=some [.int l2,.int fl]/\î p h h') (λC hC=>⟨_,rfl,p,l,fl,6,rfl,hp,h0,by decide,by decide,λway l1 w0 w1 Ζ=>⟨sz3,λp1 e1=>⟨_,rfl,p,l1,fl,3,rfl,ji jc e1,Ζ,by decide,by decide,λr l2 r0 r1 Ď=> ?_⟩⟩⟩) ?_
 ·obtain⟨ř,ho,eo⟩:=Yk (xs:= [D.int 2,D.int 3,D.int 5]) r0 r1;obtain⟨o,e,o1,o2⟩: ∃o:P0,ř= .int o/\0<o/\o<1000:=by
   simp only [T3,F4,or_false] at ho;rcases ho with e|e|e<;>exact⟨_,e,by decide,by decide⟩
  subst e;exact⟨_,_,jj (jq jc e1) jc,eo,_,_,rfl,hC _ _ ⟨way,o,l2,rfl,o1,o2,Ď,jc,((î.upd).new e1).put⟩⟩
 rintro _ h1 ⟨way,o,l2,rfl,o1,o2,Ď,kA,bA⟩;refine jf (λÂ h'=> ∃m l3,Â= [some (.lst p),some (.int (k:P0)),some (.int way),some (.int o),some (.int m),none,none,none,none,none]/\0<m/\m<=1000000/\0<=l3/\h' p=some [.int l3,.int fl]/\î p h h') (λC hC=>⟨⟨by decide,by decide,by decide⟩,sz4,λp1 e1=>⟨_,rfl,p,l2,fl,4,rfl,ji kA e1,Ď,by decide,by decide,λr l3 r0 r1 ų=> ?_⟩⟩) ?_
 ·obtain⟨most,ho,eo⟩:=Yk (xs:= [D.int 1,D.int 1,D.int 3,D.int (10^u0 6)]) r0 r1;obtain⟨m,e,m1,m2⟩: ∃o:P0,most= .int o/\0<o/\o<=1000000:=by
   simp only [T3,F4,or_false] at ho;rcases ho with e|e|e|e<;>exact⟨_,e,by decide,by decide⟩
  subst e;exact⟨_,_,jj (jq kA e1) jc,eo,hC _ _ ⟨m,l3,rfl,m1,m2,ų,jc,(bA.new e1).put⟩⟩
 clear kA bA;rintro _ h2 ⟨m,l3,rfl,m1,m2,ų,kB,bB⟩;refine jf (λÂ h'=> ∃R,Â= [some (.lst p),some (.int (k:P0)),some (.int way),some (.int o),some (.int m),some (.lst R),none,none,none,none]/\R≠p/\h R=none/\h' R=some []/\h' p=some [.int l3,.int fl]/\î p h h') (λC hC=>⟨sz0,λR eR=>hC _ _ ⟨R,rfl,jq kB eR,Yl bB eR (jq kB eR),jc,ji kB eR,bB.new eR⟩⟩) ?_;clear kB bB;rintro _ h3 ⟨R,rfl,nR,fR,kR,kC,bC⟩;refine jf (LtI k h p R fl way o m k) (λC hC=> ?_) (λÂ h' ⟨a,b,c,d,l4,rows,e,l40,kD,kE,bD,ga,gb⟩=>by subst e;exact⟨_,rfl,_,kE,_,bD.sub kD,q rows l4 ⟨ga,gb⟩ l40⟩);refine Ym k (LtI k h p R fl way o m) (by omega) (λR' r=>⟨_,rfl,r⟩)
  ⟨none,none,none,none,l3,[],rfl,ų,kC,kR,bC,rfl,λr hr=>nomatch hr⟩ (λÂ h' z=>hC _ _ z) ?_
 clear kC kR bC;rintro i _ h4 hi ⟨a,b,c,d,l4,rows,rfl,l40,kD,kE,bD,g1,g2⟩;refine jf (λÂ h'=> ∃S,Â= [some (.lst p),some (.int (k:P0)),some (.int way),some (.int o),some (.int m),some (.lst R),some (.int (i:P0)),some (.lst S),c,d]/\S≠p/\S≠R/\h S=none/\h' S=some []/\h' p=some [.int l4,.int fl]/\h' R=some (rows.map ym)/\î p h h') (λC hC=>⟨sz0,λS eS=>hC _ _ ⟨S,rfl,jq kD eS,jq kE eS,Yl bD eS (jq kD eS),jc,ji kD eS,ji kE eS,bD.new eS⟩⟩) ?_;clear kD kE bD;rintro _ h5 ⟨S,rfl,nS,nSR,fS,kS,kD,kE,bD⟩;refine jf (LtJ k h p R S fl way o m i rows k) (λC hC=> ?_) ?_
 rotate_left
 ·rintro _ h6 ⟨c,d,l5,row,rfl,ψ,kD,kE,kF,bD,ga,gb⟩;refine⟨_,rfl,R,rfl,_,rfl,_,kF,_,kE,?_,_,Sub.refl _,by omega,_,_,_,_,l5,rows++ [row],rfl,ψ,jj (E4 nR) kD,?_,bD.putNew fR,by rw [P2,g1];rfl,?_⟩
  ·rw [G1];exact J5 (show rows.length<=1000 by omega) (by decide)
  ·rw [jc,R1];rfl
  ·intro r hr;rcases D5.mp hr with z|z
   ·exact g2 r z
   ·rw [G9.mp z];exact⟨ga,gb⟩
 refine Ym k (LtJ k h p R S fl way o m i rows) (by omega) (λR' r=>⟨_,rfl,r⟩)
  ⟨_,_,l4,[],rfl,l40,kD,kE,kS,bD,rfl,λr hr=>nomatch hr⟩ (λÂ h' z=>hC _ _ z) ?_
 clear kD kE kS bD;rintro j _ h6 hj ⟨c,d,l5,row,rfl,ψ,kD,kE,kF,bD,g1',g2'⟩;refine jf (LtG k h p R S fl way o m i j rows row) (λC hC=>⟨_,rfl,_,rfl,p,l5,fl,o,rfl,kD,ψ,o1,by omega,λr l6 r0 r1 Ģ=>hC _ _ ⟨_,l6,rfl,Ģ,jc,jj nR kE,jj nS kF,bD.put⟩⟩) ?_;clear kD kE kF bD;rintro _ _ ⟨g,l6,rfl,Ģ,kD,kE,kF,bD⟩;refine jf (LtG k h p R S fl way o m i j rows row) (λC hC=>⟨_,rfl,_,rfl,Vt (λ_=>⟨_,rfl,_,rfl,_,rfl,by omega,_,rfl,Vt (λ_=>hC _ _ ⟨_,l6,rfl,Ģ,kD,kE,kF,bD⟩) λ_=>⟨_,rfl,_,rfl,Vt (λ_=>⟨_,rfl,p,l6,fl,2,rfl,kD,Ģ,by decide,by decide,λr l7 r0 r1 l70=>⟨_,rfl,hC _ _ ⟨_,l7,rfl,l70,jc,jj nR kE,jj nS kF,bD.put⟩⟩⟩) λ_=>hC _ _ ⟨_,l6,rfl,Ģ,kD,kE,kF,bD⟩⟩⟩) λ_=>hC _ _ ⟨_,l6,rfl,Ģ,kD,kE,kF,bD⟩⟩) ?_;clear kD kE kF bD;rintro _ _ ⟨g,l6,rfl,Ģ,kD,kE,kF,bD⟩;refine jf (LtG k h p R S fl way o m i j rows row) (λC hC=>⟨_,rfl,_,rfl,Vt (λ_=>⟨_,rfl,_,rfl,Vt (λ_=>⟨_,rfl,_,rfl,by decide,_,rfl,Vt (λ_=>hC _ _ ⟨_,l6,rfl,Ģ,kD,kE,kF,bD⟩) λ_=>⟨_,rfl,_,rfl,hC _ _ ⟨_,l6,rfl,Ģ,kD,kE,kF,bD⟩⟩⟩) λ_=>⟨_,rfl,Vt (λ_=>hC _ _ ⟨_,l6,rfl,Ģ,kD,kE,kF,bD⟩) λ_=>⟨_,rfl,_,rfl,hC _ _ ⟨_,l6,rfl,Ģ,kD,kE,kF,bD⟩⟩⟩⟩) λ_=>hC _ _ ⟨_,l6,rfl,Ģ,kD,kE,kF,bD⟩⟩) ?_;clear kD kE kF bD;rintro _ _ ⟨g,l6,rfl,Ģ,kD,kE,kF,bD⟩;refine jf (LtG k h p R S fl way o m i j rows row) (λC hC=>⟨_,rfl,_,rfl,Vt (λ_=>⟨_,rfl,_,rfl,Vt (λ_=>⟨_,rfl,_,rfl,hC _ _ ⟨_,l6,rfl,Ģ,kD,kE,kF,bD⟩⟩) λ_=>hC _ _ ⟨_,l6,rfl,Ģ,kD,kE,kF,bD⟩⟩) λ_=>hC _ _ ⟨_,l6,rfl,Ģ,kD,kE,kF,bD⟩⟩) ?_;clear kD kE kF bD;rintro _ _ ⟨g,l6,rfl,Ģ,kD,kE,kF,bD⟩;have gi: ∀x r:P0,0<=r->r<m->x=0\/x=1->Φ x (1+r)/\0<=x*(1+r)/\x*(1+r)<=1000000:=λx r r0 r1 hx=>by
  rcases hx with e|e<;>subst e
  ·exact⟨.inl ⟨by decide,by decide⟩,by omega,by omega⟩
  ·exact⟨.inl ⟨by decide,by decide⟩,by omega,by omega⟩
 refine⟨_,rfl,S,rfl,_,rfl,_,rfl,_,rfl,p,l6,fl,m,rfl,kD,Ģ,m1,by omega,λr l7 r0 r1 l70=> ?_⟩;have gg:=gi (if g=true then 1 else 0) r r0 r1 (by cases g<;>decide);refine⟨gg.1,_,jj nS kF,?_,_,Sub.refl _,by omega,_,_,l7,row++ [(if g=true then 1 else 0)*(1+r)],rfl,l70,jj (E4 nS) jc,jj (E4 nSR) (jj nR kE),?_,(bD.put).putNew fS,by rw [P2,g1'];rfl,?_⟩
 ·rw [G1];exact J5 (show row.length<=1000 by omega) (by decide)
 ·rw [jc,R1];rfl
 ·intro x hx;rcases D5.mp hx with z|z
  ·exact g2' x z
  ·rw [G9.mp z];exact gg.2
def Zy:RDn:=λds h Q=> ∃p l fl,∃k:G7,ds= [.lst p,.int (k:P0)]/\h p=some [.int l,.int fl]/\0<=l/\k<=6/\ ∀o l',Ĥ k o->0<=l'->Q (zt o) (wg h p [.int l',.int fl])
theorem UX (Z:Zs mg)(F:ã K "_law_order" "_law_order" vT f fd)(ju:je P w K mg base n "_law_draw" ["_law_pen_here","_law_many_here"] zP):Ë P w K mg base á (n+1) f fd ["_law_pen_here","_law_many_here"] (ä K Zy):=by
 refine F.okM vj (λhr=>(μ (ø 2 vj (Uo Js)) (Re F8 rfl (ź Z (jv 1)) (jgn 3 vj) (jR (yp (xt (jv 2) (jk ju hr (j2 (jv 0) (ú zS (jv 3) jF))) (jv 3))))) (zA (jM ð rfl Z.tuple (by decide +kernel) (j1 (jv 2)))))) ?_;rintro ds h Q ⟨p,l,fl,k,rfl,hp,h0,hk,q⟩;refine⟨rfl,?_⟩;refine jf (λÂ h'=> ∃R,Â= [some (.lst p),some (.int (k:P0)),some (.lst R),none]/\R≠p/\h R=none/\h' R=some []/\h' p=some [.int l,.int fl]/\î p h h') (λC hC=> ?_) ?_
 ·exact⟨sz0,λR eR=>hC _ _ ⟨R,rfl,jq hp eR,eR,jc,ji hp eR,(î.refl p h).new eR⟩⟩
 rintro Â h1 ⟨R,rfl,nR,fR,kR,kp,bt⟩;refine jf (λÂ h'=> ∃a l2 o,Â= [some (.lst p),some (.int (k:P0)),some (.lst R),a]/\0<=l2/\Ĥ k o/\h' R=some (o.map λ(i:G7)=>D.int (i:P0))/\h' p=some [.int l2,.int fl]/\î p h h') (λC hC=> ?_) ?_
 ·refine Ym k (λi Â h'=> ∃a l2 o,Â= [some (.lst p),some (.int (k:P0)),some (.lst R),a]/\0<=l2/\Ĥ i o/\h' R=some (o.map λ(i:G7)=>D.int (i:P0))/\h' p=some [.int l2,.int fl]/\î p h h') (by omega) (λR' r=>⟨_,rfl,r⟩) ⟨none,l,[],rfl,h0,G0X,kR,kp,bt⟩ (λÂ h' z=>hC _ _ z) ?_;rintro i _ h2 hi ⟨a,l2,o,rfl,Ď,ho,kR2,kp2,bt2⟩;refine⟨_,rfl,R,rfl,_,rfl,_,rfl,p,l2,fl,(i:P0)+1,rfl,kp2,Ď,by omega,by omega,λr l3 r0 r1 ų=> ?_⟩;have lo:o.length=i:=ho.ord.len;refine⟨_,rfl,r.toNat,_,by rw [gO r0],by omega,jj nR kR2,?_,_,Sub.refl _,by omega,_,l3,o.take r.toNat++i::o.drop r.toNat,rfl,ų,ho.insert r.toNat,?_,jj (E4 nR) jc,(bt2.put).putNew fR⟩
  ·rw [G1];exact J5 (show o.length<=1000 by omega) (by decide)
  ·rw [jc,R1,M7,j5,fX]
 rintro _ h3 ⟨a,l2,o,rfl,Ď,ho,kR3,kp3,bt3⟩;exact⟨_,rfl,_,kR3,_,bt3.sub kp3,q o l2 ho Ď⟩
inductive GtA (k:G7)(h:HD)(p:P1)(fl:P0)(i:G7)(ys:G0 D)(h':HD):Prop
 |mk (rs:G0 P1) (l4:P0) (z0:ys=rs.map D.lst) (z1:rs.length=i) (z2:0<=l4) (z3:h' p=some [.int l4,.int fl]) (z4:î p h h') (z5:p ∉ rs) (z6: ∀a∈rs,h a=none/\ ∃r,h' a=some (r.map D.int)/\yY k r):GtA k h p fl i ys h'
inductive GtB (k:G7)(h:HD)(p:P1)(fl:P0)(rs:G0 P1)(j:G7)(zs:G0 D)(h':HD):Prop
 |mk (r:G0 P0) (l5:P0) (z0:zs=r.map D.int) (z1:r.length=j) (z2:(∀x∈r,0<=x/\x<=1000000)) (z3:0<=l5) (z4:h' p=some [.int l5,.int fl]) (z5:î p h h') (z6:(∀a∈rs,∃r,h' a=some (r.map D.int)/\yY k r)):GtB k h p fl rs j zs h'
inductive GtC (k:G7)(h:HD)(p R:P1)(fl ř:P0)(o:G0 G7)(rs:G0 P1)(Â:SD)(h':HD):Prop
 |mk (a b c:P7 D) (l5:P0) (z0:Â= [some (.lst p),some (.int (k:P0)),some (zt o),some (.int ř),some (.lst R),a,b,c,none,none,none]) (z1:0<=l5) (z2:h' p=some [.int l5,.int fl]) (z3:î p h h') (z4:ĉ k h h' p R rs):GtC k h p R fl ř o rs Â h'
theorem Zz (Z:Zs mg)(F:ã K "_law_good_table" "_law_good_table" wm f fd)(QB:je P w K mg base n "_law_order" ["_law_pen_here","_law_many_here"] Zy)(ju:je P w K mg base n "_law_draw" ["_law_pen_here","_law_many_here"] zP):Ë P w K mg base á (n+1) f fd ["_law_pen_here","_law_size"] (ä K wR):=by
 refine F.okM jB (λhr=>(js6 (ø 2 jB (jk QB hr (j2 (jv 0) (jv 1)))) (ø 3 jB (ċ (Uo (j3 jF jF jF)) (jk ju hr (j2 (jv 0) jF)))) (FO (i:=8) (k:=4) (js:= [8]) rfl jB.nd rfl (H0 rfl) (jP (by rfl)) (ź Z (jv 1)) (by decide) rfl (by first|exact H0 rfl|exact W0 rfl) (λX' hX=>wZ) (λX' hX=>by obtain⟨C,s₀,H₀,ex,rfl⟩:=hX;exact(ļ 9 jB (ź Z (jv 1)) (λ_ _ _ _=>(jM RQ rfl Z.int (by decide +kernel) (j1 (İ ą (jk ju hr (j2 (jv 0) (jv 3))) jF))))))) (Re F8 rfl (ź Z (jv 1)) (jgn 5 jB) (Ż (OF (i:=6) (j:=7) rfl jB.nd rfl rfl (by decide) rfl rfl (j2 (ċ (jv 2) (jv 5)) (ċ (jv 2) (ú Zg (ú zS (jv 5) jF) (jv 1)))) rfl) (Dt (ú zS jF (jk ju hr (j2 (jv 0) jF))) (Pf (ċ (jv 4) (jv 6)) (jv 7))))) (Dt jF (Pf (ċ (jv 4) (ċ (jv 2) (Kr jF))) (ċ (jv 2) (ċ (Uo (j2 (ú Zg jF (jv 1)) (ú Xq (jv 1) jF))) (jk ju hr (j2 (jv 0) jF)))))) (zA (jM zc rfl Z.tuple (by decide +kernel) (j1 (ļ 10 jB (zl (jv 4)) (λ_ _ _ _=>(jM ð rfl Z.tuple (by decide +kernel) (j1 (jv 10)))))))))) ?_;rintro ds h Q ⟨p,l,fl,k,rfl,hp,h0,hk1,hk6,q⟩;refine⟨rfl,?_⟩;refine jf (λÂ h'=> ∃o l2,Â= [some (.lst p),some (.int (k:P0)),some (zt o),none,none,none,none,none,none,none,none]/\Ĥ k o/\0<=l2/\h' p=some [.int l2,.int fl]/\î p h h') (λC hC=>⟨_,rfl,_,rfl,p,l,fl,k,rfl,hp,h0,hk6,λo l2 ho Ď=>hC _ _ ⟨o,l2,rfl,ho,Ď,jc,î.upd⟩⟩) ?_;rintro _ h1 ⟨o,l2,rfl,ho,Ď,kp,bt⟩;refine jf (λÂ h'=> ∃ř l3,Â= [some (.lst p),some (.int (k:P0)),some (zt o),some (.int ř),none,none,none,none,none,none,none]/\0<ř/\ř<1000/\0<=l3/\h' p=some [.int l3,.int fl]/\î p h h') (λC hC=> ?_) ?_
 ·refine⟨sz3,λp1 e1=>⟨_,rfl,p,l2,fl,3,rfl,ji kp e1,Ď,by decide,by decide,λr l3 r0 r1 ų=> ?_⟩⟩;obtain⟨ř,ho',eo⟩:=Yk (xs:= [D.int 2,D.int 4,D.int 9]) r0 r1;refine⟨_,ř,jj (jq kp e1) jc,eo,?_⟩;obtain⟨x,rfl,x1,x2⟩: ∃x:P0,ř= .int x/\0<x/\x<1000:=by
   simp only [T3,F4,or_false] at ho';rcases ho' with e|e|e<;>exact⟨_,e,by decide,by decide⟩
  exact hC _ _ ⟨x,l3,rfl,x1,x2,ų,jc,(bt.new e1).put⟩
 rintro _ h2 ⟨ř,l3,rfl,of1,of2,ų,kp,bt⟩;refine jf (λÂ h'=> ∃R rs l4,Â= [some (.lst p),some (.int (k:P0)),some (zt o),some (.int ř),some (.lst R),none,none,none,none,none,none]/\0<=l4/\h' p=some [.int l4,.int fl]/\î p h h'/\ĉ k h h' p R rs) (λC hC=> ?_) ?_
 ·refine Ma (h1:=h2) k (GtA k h p fl) (by omega) (λR r=>⟨_,rfl,r⟩) ⟨[],l3,rfl,rfl,ų,kp,bt,by simp,by simp⟩ (λi ys h' ⟨rs,l4,e,el,_,_,_,_,_⟩=>by rw [e,G1];exact el) ?_ ?_
  ·rintro i ys h3 hi ⟨rs,l4,rfl,lrs,l40,kp3,bt3,X0x,ō⟩;refine Ma (h1:=h3) k (GtB k h p fl rs) (by omega) (λR r=>⟨_,rfl,r⟩) ⟨[],l4,rfl,rfl,by simp,l40,kp3,bt3,λa ha=>(ō a ha).2⟩ (λj zs h' ⟨r,l5,e,el,_,_,_,_,_⟩=>by rw [e,G1];exact el) ?_ ?_
   ·rintro j zs h4 hj ⟨r,l5,rfl,lr,gr,ψ,kp4,bt4,ω⟩;refine⟨_,rfl,_,rfl,p,l5,fl,ř,rfl,kp4,ψ,of1,by omega,λx l6 x0 x1' Ģ=> ?_⟩;refine⟨_,Sub.refl _,by omega,r++ [if decide (x=1)=true then 1 else 0],l6,by rw [R1];rfl,by rw [P2,lr];rfl,?_,Ģ,jc,bt4.put,λa ha=> ?_⟩
    ·intro y hy;rcases D5.mp hy with z|z
     ·exact gr y z
     ·rw [G9.mp z];split<;>omega
    ·obtain⟨r',e',g'⟩:=ω a ha;exact⟨r',jj (λz=>X0x (z ▸ ha)) e',g'⟩
   ·rintro zs h4 ⟨r,l5,rfl,lr,gr,ψ,kp4,bt4,ω⟩ q4 e4;refine⟨_,Sub.refl _,by omega,rs++ [q4],l5,by rw [R1];rfl,by simp [lrs],ψ,ji kp4 e4,bt4.new e4,?_,λa ha=> ?_⟩
    ·intro z;rcases D5.mp z with y|y
     ·exact X0x y
     ·exact jq kp4 e4 (G9.mp y).symm
    ·rcases D5.mp ha with z|z
     ·obtain⟨r',e',g'⟩:=ω a z;exact⟨(ō a z).1,r',ji e' e4,g'⟩
     ·have:=G9.mp z;subst this;exact⟨Yl bt4 e4 (jq kp4 e4),r,jc,lr,gr⟩
  ·rintro ys h3 ⟨rs,l4,rfl,lrs,l40,kp3,bt3,X0x,ō⟩ R eR;refine hC _ _ ⟨R,rs,l4,rfl,l40,ji kp3 eR,bt3.new eR,⟨jc,lrs,?_,Yl bt3 eR (jq kp3 eR),X0x,jq kp3 eR,λa ha=>⟨(ō a ha).1,?_⟩⟩⟩
   ·intro hR;obtain⟨_,r,e',_⟩:=ō R hR;rw [e'] at eR;cases eR
   ·obtain⟨r,e',g'⟩:=(ō a ha).2;exact⟨r,ji e' eR,g'⟩
 rintro _ h3 ⟨R,rs,l4,rfl,l40,kp,bt,g⟩;refine jf (GtC k h p R fl ř o rs) (λC hC=> ?_) ?_
 ·refine Ym k (λ_=>GtC k h p R fl ř o rs) (by omega) (λR r=>⟨_,rfl,r⟩) ⟨none,none,none,l4,rfl,l40,kp,bt,g⟩ (λÂ h' z=>hC _ _ z) ?_;rintro i _ h4 hi ⟨a,b,c,l5,rfl,ψ,kp,bt,g⟩;obtain⟨y1,hy1,ey1⟩:=Gj ho hi;obtain⟨y2,hy2,ey2⟩:=Gj ho (oX (i+1) (by omega:0<k));have em:((i:P0)+1)%(k:P0)=(((i+1)%k:G7):P0):=by rw [qV,rK];rfl
  rw [<-em] at ey2;refine jT [some (.lst p),some (.int (k:P0)),some (zt o),some (.int ř),some (.lst R),some (.int (i:P0)),some (.int (y1:P0)),some (.int (y2:P0)),none,none,none] (λC2 ŀ=> ?_) ?_
  ·exact⟨_,rfl,_,rfl,_,ey1,_,rfl,_,rfl,_,rfl,(by omega:(0:P0)<(k:P0)),_,ey2,_,_,rfl,ŀ⟩
  refine⟨_,rfl,p,l5,fl,3,rfl,kp,ψ,by decide,by decide,λr l6 r0 r1 Ģ=> ?_⟩;have g2:=g.pen [.int l6,.int fl];obtain⟨a',r',at',ha',er',gr',fa',na'⟩:=g2.pick hy1;exact⟨_,rfl,_,rfl,_,_,g2.at_,at',_,rfl,a',(y2:P0),_,y2,rfl,rfl,er',MD (by rw [G1,gr'.1];exact hy2),_,Sub.refl _,by omega,_,_,_,l6,rfl,Ģ,jj (E4 na') jc,(bt.put).putNew fa',g2.set ha' er' gr' (by omega) (by omega)⟩
 rintro _ h5 ⟨a,b,c,l5,rfl,ψ,kp,bt,g⟩;obtain⟨z1,hz1,ez1⟩:=Ck ho hk1;obtain⟨a1,r1,at1,ha1,er1,gr1,fa1,na1⟩:=g.pick hz1;refine jf (λÂ h'=> ∃l6,Â= [some (.lst p),some (.int (k:P0)),some (zt o),some (.int ř),some (.lst R),a,b,c,none,none,none]/\0<=l6/\h' p=some [.int l6,.int fl]/\î p h h'/\ĉ k h h' p R rs) (λC hC=> ?_) ?_
 ·refine⟨_,rfl,_,rfl,_,ez1,_,_,g.at_,at1,_,rfl,_,rfl,(by omega:(0:P0)<(k:P0)),_,rfl,Μ,λq1 e1=>⟨_,rfl,p,l5,fl,2,rfl,ji kp e1,ψ,by decide,by decide,λr l6 r0 r1' Ģ=> ?_⟩⟩;obtain⟨d,hd,ed⟩:=Yk (xs:= [D.int ((1:P0)%(k:P0)),D.int ((k:P0)-1)]) r0 r1';obtain⟨w,rfl,hw⟩: ∃w:G7,d= .int (w:P0)/\w<k:=by
   simp only [T3,F4,or_false] at hd;rcases hd with e|e
   ·exact⟨1%k,by rw [e,qV];rfl,oX _ (by omega)⟩
   ·exact⟨k-1,by rw [e];congr 1;omega,by omega⟩
  obtain⟨w2,hw2,ew2⟩:=Gj ho hw;have g':=(g.new e1 [D.int ((1:P0)%(k:P0)),D.int ((k:P0)-1)]).pen [.int l6,.int fl];have her:wg (wg h5 q1 [D.int ((1:P0)%(k:P0)),D.int ((k:P0)-1)]) p [.int l6,.int fl] a1=some (r1.map D.int):=jj na1 (ji er1 e1);exact⟨_,_,jj (jq kp e1) jc,ed,_,ew2,a1,(w2:P0),_,w2,rfl,rfl,her,MD (by rw [G1,gr1.1];exact hw2),hC _ _ ⟨l6,rfl,Ģ,jj (E4 na1) jc,((bt.new e1).put).putNew fa1,g'.set ha1 her gr1 (by decide) (by decide)⟩⟩
 rintro _ h6 ⟨l6,rfl,Ģ,kp,bt,g⟩;obtain⟨T,gT,eT⟩:=g.tab;refine Mn (j:=λh=>h R) rs D.lst (λa=> .tup ((h6 a).getD [])) (by rw [g.len];omega) g.at_ (λR r=>⟨_,rfl,r⟩) (λa ha Q' q'=> ?_) ⟨_,bt.sub kp,?_⟩
 ·obtain⟨_,r,er,_⟩:=g.row a ha;rw [er] at q';exact⟨_,rfl,_,er,q'⟩
 ·rw [eT];exact q T l6 gT Ģ
inductive MyA (k m:G7)(h:HD)(p F:P1)(fl:P0)(i:G7)(Â:SD)(h':HD):Prop
 |mk (Ts:G0 (G0 (G0 P0))) (a b c:P7 D) (l2:P0) (z1:Â= [some (.lst p),some (.int (k:P0)),some (.int (m:P0)),some (.lst F),a,b,c,none,none]) (z2:h' F=some (Ts.map jg)) (z3:Ts.length=i) (z4: ∀T∈Ts,Sq k 20 T) (z5:0<=l2) (z6:h' p=some [.int l2,.int fl]) (z7:î p h h'):MyA k m h p F fl i Â h'
inductive MyT (k m:G7)(h:HD)(p F:P1)(fl:P0)(Ts:G0 (G0 (G0 P0)))(i:G7)(c:P7 D)(Â:SD)(h':HD):Prop
 |mk (T:G0 (G0 P0)) (l2:P0) (z1:Â= [some (.lst p),some (.int (k:P0)),some (.int (m:P0)),some (.lst F),some (.int (i:P0)),some (jg T),c,none,none]) (z0:Sq k 20 T) (z2:h' F=some (Ts.map jg)) (z3:Ts.length=i) (z4: ∀T∈Ts,Sq k 20 T) (z5:0<=l2) (z6:h' p=some [.int l2,.int fl]) (z7:î p h h'):MyT k m h p F fl Ts i c Â h'
def WB:RDn:=λds h Q=> ∃p l fl,ds= [.lst p]/\h p=some [.int l,.int fl]/\0<=l/\ ∀F n Ts l' h',h F=none->h' F=some (Ts.map jg)->Ä n Ts->î p h h'->h' p=some [.int l',.int fl]->0<=l'->Q (.lst F) h'
theorem Qx (Z:Zs mg)(F:ã K "_law_many" "_law_many" JX f fd)(ju:je P w K mg base n "_law_draw" ["_law_pen_here","_law_many_here"] zP)(QC:je P w K mg base n "_law_table" ["_law_pen_here","_law_size"] wR)(Wj:je P w K mg base n "_law_good_table" ["_law_pen_here","_law_size"] wR):Ë P w K mg base á (n+1) f fd ["_law_pen_here"] (ä K WB):=by
 refine F.okM jJ (λhr=>(js4 (OF (i:=1) (j:=2) rfl jJ.nd rfl rfl (by decide) rfl rfl (j2 (ú zS jF (ċ (Uo (jac jF (by exact(j4 jF jF jF jF)))) (jk ju hr (j2 (jv 0) jF)))) (ú zS jF (jk ju hr (j2 (jv 0) jF)))) rfl) (ø 3 jJ (Uo Js)) (Re F8 rfl (ź Z (jv 2)) (jgn 4 jJ) (js5 (ø 5 jJ (jk QC hr (j2 (jv 0) (jv 1)))) (ø 6 jJ (jk ju hr (j2 (jv 0) jF))) (Jq (ĕ ą (jv 6) jF) (ø 5 jJ (jk Wj hr (j2 (jv 0) (jv 1))))) (Jq (ũ (Dr (ĕ ą (jv 6) jF) (Mg (ĕ (Xw hr.units) (jv 3) (Uo Js))))) (ø 5 jJ (jM zc rfl Z.tuple (by decide +kernel) (j1 (ļ 7 jJ (ź Z (jv 1)) (λ_ _ _ _=>(jM zc rfl Z.tuple (by decide +kernel) (j1 (ļ 8 jJ (zl (ċ (jv 3) jF)) (λ_ _ _ _=>(ċ (jv 8) (jv 7)))))))))))) (yp (OJ (jv 3) (jv 5))))) (zA (jv 3)))) ?_;rintro ds h Q ⟨p,l,fl,rfl,hp,h0,q⟩;refine⟨rfl,?_⟩;refine jf (λÂ h'=> ∃ (k m:G7) (l1:P0),Â= [some (.lst p),some (.int (k:P0)),some (.int (m:P0)),none,none,none,none,none,none]/\1<=k/\k<=3/\1<=m/\m<=3/\0<=l1/\h' p=some [.int l1,.int fl]/\î p h h') (λC hC=> ?_) ?_
 ·refine⟨sz5,λp1 e1=>⟨_,rfl,p,l,fl,5,rfl,ji hp e1,h0,by decide,by decide,λr l1 r0 r1 Ζ=> ?_⟩⟩;obtain⟨d,hd,ed⟩:=Yk (xs:= [D.int 0,D.int 1,D.int 2,D.int 2,D.int 1]) r0 r1;obtain⟨x,rfl,x0,x2⟩: ∃x:P0,d= .int x/\0<=x/\x<=2:=by
   simp only [T3,F4,or_false] at hd;rcases hd with e|e|e|e|e<;>exact⟨_,e,by decide,by decide⟩
  refine⟨_,_,jj (jq hp e1) jc,ed,_,rfl,p,l1,fl,3,rfl,jc,Ζ,by decide,by decide,λy l2 y0 y1 Ď=> ?_⟩;obtain⟨k,hk,k1,k3⟩: ∃k:G7,1+x=(k:P0)/\1<=k/\k<=3:=⟨(1+x).toNat,by omega,by omega,by omega⟩;obtain⟨m,hm,m1,m3⟩: ∃m:G7,1+y=(m:P0)/\1<=m/\m<=3:=⟨(1+y).toNat,by omega,by omega,by omega⟩;exact⟨_,_,rfl,hC _ _ ⟨k,m,l2,by rw [<-hk,<-hm];rfl,k1,k3,m1,m3,Ď,jc,((î.refl p h).new e1).put.put⟩⟩
 rintro _ h1 ⟨k,m,l1,rfl,k1,k3,m1,m3,Ζ,kp,bt⟩;refine jf (λÂ h'=> ∃F,Â= [some (.lst p),some (.int (k:P0)),some (.int (m:P0)),some (.lst F),none,none,none,none,none]/\h' F=some (([]:G0 (G0 (G0 P0))).map jg)/\h F=none/\F≠p/\h' p=some [.int l1,.int fl]/\î p h h') (λC hC=>⟨sz0,λF eF=>hC _ _ ⟨F,rfl,jc,Yl bt eF (jq kp eF),jq kp eF,ji kp eF,bt.new eF⟩⟩) ?_;rintro _ h2 ⟨F,rfl,kF,fF,nF,kp,bt⟩;refine jf (MyA k m h p F fl m) (λC hC=> ?_) ?_
 ·refine Ym m (MyA k m h p F fl) (by omega) (λR r=>⟨_,rfl,r⟩) ⟨[],none,none,none,l1,rfl,kF,rfl,by simp,Ζ,kp,bt⟩ (λÂ h' z=>hC _ _ z) ?_;rintro i _ h3 hi ⟨Ts,a,b,c,l2,rfl,kF,lT,sT,Ď,kp,bt⟩;refine jf (MyT k m h p F fl Ts i c) (λC2 ŀ=>⟨_,rfl,_,rfl,p,l2,fl,k,rfl,kp,Ď,k1,by omega,λT l3 gT ų=>ŀ _ _ ⟨T,l3,rfl,gT.sq,jj nF kF,lT,sT,ų,jc,bt.put⟩⟩) ?_;rintro _ h4 ⟨T,l2,rfl,hT,kF,lT,sT,Ď,kp,bt⟩;refine jf (λÂ h'=> ∃w l2,Â= [some (.lst p),some (.int (k:P0)),some (.int (m:P0)),some (.lst F),some (.int (i:P0)),some (jg T),some (.int w),none,none]/\h' F=some (Ts.map jg)/\Ts.length=i/\(∀T∈Ts,Sq k 20 T)/\0<=l2/\h' p=some [.int l2,.int fl]/\î p h h') (λC2 ŀ=>⟨_,rfl,p,l2,fl,4,rfl,kp,Ď,by decide,by decide,λw l3 w0 w1 ų=>ŀ _ _ ⟨w,l3,rfl,jj nF kF,lT,sT,ų,jc,bt.put⟩⟩) ?_;rintro _ h5 ⟨w,l2,rfl,kF,lT,sT,Ď,kp,bt⟩;refine jf (MyT k m h p F fl Ts i (some (.int w))) (λC2 ŀ=>⟨_,rfl,_,rfl,Vt (λ_=>⟨_,rfl,_,rfl,p,l2,fl,k,rfl,kp,Ď,k1,by omega,λT2 l3 gT ų=>ŀ _ _ ⟨T2,l3,rfl,gT.sq,jj nF kF,lT,sT,ų,jc,bt.put⟩⟩) (λ_=>ŀ _ _ ⟨T,l2,rfl,hT,kF,lT,sT,Ď,kp,bt⟩)⟩) ?_;rintro _ h6 ⟨T,l2,rfl,hT,kF,lT,sT,Ď,kp,bt⟩;refine jf (MyT k m h p F fl Ts i (some (.int w))) (λC2 ŀ=> ?_) ?_
  ·refine⟨_,rfl,_,rfl,Vt (λ_=> ?_) (λ_=>zF (ŀ _ _ ⟨T,l2,rfl,hT,kF,lT,sT,Ď,kp,bt⟩))⟩;refine⟨_,rfl,sz0,λp1 e1=> ?_⟩;refine⟨.list (Ts.map Jo),.list [],⟨_,_,rfl,ji kF e1,ā.tos _ Ts⟩,⟨_,_,rfl,jc,rfl⟩,Gm Ts,rfl,_,rfl,?_⟩;cases Ts with
   |nil=>exact zF (ŀ _ _ ⟨T,l2,rfl,hT,ji kF e1,lT,sT,Ď,ji kp e1,bt.new e1⟩)
   |cons T0 Ts'=>
    have s0:=sT T0 P6;have kF':wg h6 p1 [] F=some ((T0::Ts').map jg):=ji kF e1;refine yr (Mn (P4 k) (λj=> .int (j:P0)) (λj=> .tup (T0.map λr=> .int (r.getD j 0))) (by rw [S6];omega) rfl (λR r=>⟨_,rfl,(k:P0),rfl,by omega,by omega,r⟩) (λj hj Q' q'=> ?_) ?_)
    ·refine Mn T0 ym (λr=> .int (r.getD j 0)) (by rw [s0.len];omega) rfl (λR r=>⟨_,rfl,_,_,kF',(wY (show ((T0::Ts').map jg)[0]? =some (jg T0) from rfl)),r⟩) (λr hr Q'' Ū=>⟨_,rfl,_,rfl,_,Ut (s0.row r hr) (S0.mp hj),Ū⟩) q'
    ·have e1': ∀j,T0.map (λr=>D.int (r.getD j 0))=(P4 k).map λi=>D.int (Î T0 i j):=λj=>by
      conv=>lhs;rw [zT T0 [],s0.len]
      rw [R4];rfl
     have e2:((P4 k).map λj=>D.tup (T0.map λr=> .int (r.getD j 0)))=(P4 k).map λj=>D.tup ((P4 k).map λi=>D.int (Î T0 i j)):=M6 λj _=>by rw [e1']
     rw [e2,Mo];exact ŀ _ _ ⟨wj k T0,l2,rfl,s0.turn,kF',lT,sT,Ď,ji kp e1,bt.new e1⟩
  rintro _ h7 ⟨T,l2,rfl,hT,kF,lT,sT,Ď,kp,bt⟩;refine⟨_,rfl,F,rfl,_,rfl,_,kF,?_,_,Sub.refl _,by omega,Ts++ [T],_,_,_,l2,rfl,?_,by rw [P2,lT];rfl,?_,Ď,jj (E4 nF) kp,bt.putNew fF⟩
  ·rw [G1];exact zk (by omega)
  ·rw [jc,R1];rfl
  ·intro U hU;rcases D5.mp hU with z|z
   ·exact sT U z
   ·rw [G9.mp z];exact hT
 rintro _ h3 ⟨Ts,a,b,c,l2,rfl,kF,lT,sT,Ď,kp,bt⟩;exact⟨_,rfl,h3,Sub.refl _,q F k Ts l2 h3 fF kF ⟨k1,k3,by omega,by omega,sT⟩ bt kp Ď⟩
def YU:RDn:=λds h Q=> ∃p l fl A Ts,∃n lo hi:G7,ds= [.lst p,.lst A,.int (lo:P0),.int (hi:P0)]/\h p=some [.int l,.int fl]/\0<=l/\h A=some (Ts.map jg)/\Ä n Ts/\A≠p/\lo<=hi/\hi<=60/\ ∀W l',(∀i∈W,i<Ts.length)->lo<=W.length->W.length<=hi->0<=l'->Q (zt W) (wg h p [.int l',.int fl])
theorem GP (Z:Zs mg)(F:ã K "_law_way" "_law_way" We f fd)(ju:je P w K mg base n "_law_draw" ["_law_pen_here","_law_many_here"] zP):Ë P w K mg base á (n+1) f fd ["_law_pen_here","_law_tables","_law_least","_law_most"] (ä K YU):=by
 refine F.okM YK (λhr=>(jR (zA (jM zc rfl Z.tuple (by decide +kernel) (j1 (ļ 4 YK (ź Z (ú zS (jv 2) (jk ju hr (j2 (jv 0) (ú zS (ú Xq (jv 3) (jv 2)) jF))))) (λ_ _ _ _=>(jk ju hr (j2 (jv 0) (WE Z (jv 1))))))))))) ?_;rintro ds h Q ⟨p,l,fl,A,Ts,n,lo,hi,rfl,hp,h0,kA,hT,nA,hlh,h6,q⟩;refine⟨rfl,?_⟩;have l1:=hT.l1;have l3:=hT.l3;refine Cq (λn h1=> ∃l1,0<=l1/\lo<=n/\n<=hi/\h1 p=some [.int l1,.int fl]/\î p h h1) (λi ys h'=> ∃ (W:G0 G7) (l1:P0),ys=W.map (λ(k:G7)=>D.int (k:P0))/\W.length=i/\(∀j∈W,j<Ts.length)/\0<=l1/\h' p=some [.int l1,.int fl]/\î p h h') (λR r=>⟨_,rfl,_,rfl,_,rfl,_,rfl,p,l,fl,(hi:P0)-lo+1,rfl,hp,h0,by omega,by omega,λx l1 x0 x1 Ζ=> ?_⟩) (λm h1 ⟨_,_,_,a,_⟩=>by omega) (λm h1 ⟨l1,Ζ,_,_,kp,bt⟩=>⟨[],l1,rfl,rfl,by simp,Ζ,kp,bt⟩) (λi ys h' ⟨W,_,e,el,_⟩=>by rw [e,G1];exact el) ?_ ?_
 ·obtain⟨m,hm,a,b⟩: ∃m:G7,(lo:P0)+x=(m:P0)/\lo<=m/\m<=hi:=⟨((lo:P0)+x).toNat,by omega,by omega,by omega⟩;have:=r m _ ⟨l1,Ζ,a,b,jc,î.upd⟩;rw [<-hm] at this;exact this
 ·rintro m h1 _ i ys h2 hi2 ⟨W,l1,rfl,lW,gW,Ζ,kp,bt⟩;refine⟨_,rfl,_,rfl,_,bt A _ nA kA,p,l1,fl,_,rfl,kp,Ζ,by rw [G1];omega,by rw [G1];omega,λx l2 x0 x1 Ď=> ?_⟩;rw [G1] at x1;refine⟨_,Sub.refl _,by omega,W++ [x.toNat],l2,?_,by rw [P2,lW];rfl,?_,Ď,jc,bt.put⟩
  ·rw [R1];show _=_++ [D.int ((x.toNat:G7):P0)];rw [gO x0]
  ·intro j hj;rcases D5.mp hj with z|z
   ·exact gW j z
   ·rw [G9.mp z];omega
 ·rintro m h1 ⟨_,_,a,b,_⟩ _ h2 ⟨W,l1,rfl,lW,gW,Ζ,kp,bt⟩;exact⟨_,bt.sub kp,q W l1 gW (by omega) (by omega) Ζ⟩
theorem AK (hT:Sq n 20 T)(hn:n<=8){o:P7 G7}(ho:Fst n T o):KT n T o:=by
 cases o with
 |none=>exact λk=>by rw [Jn hT hn];exact ho (k+1) (by omega)
 |some k=>
  obtain⟨k1,_,fk,fl⟩:=ho;exact⟨k1,λj=>by rw [Jn hT hn,show k-1+j+1=k+j by omega];exact Ge hT hn (by omega) fk j,λj hj=>by rw [Jn hT hn];exact fl (j+1) (by omega) hj⟩
def Ŵ:P7 (G0 G7)->D
 |none=> .non
 |some w=>zt w
theorem PQ:fwD (ÿ n Ts)=Ŵ (đ n Ts):=by
 unfold fwD đ;cases (ÿ n Ts).find? λp=>jm p.1<;>rfl
theorem KY (hT:Sq n 20 T)(n1:1<=n)(n3:n<=3):Ä n [T]:=⟨n1,n3,P5 _,E8 1 2,λU hU=>by rw [G9.mp hU];exact hT⟩
theorem xL (k:G7):D.tup (S9 (u0 (k:P0)) [D.int 0]).flatten=zt (S9 k 0):=by
 show D.tup (S9 k [D.int 0]).flatten= .tup ((S9 k 0).map λ(k:G7)=>D.int (k:P0));rw [List.map_replicate];refine congrArg D.tup ?_
 induction k with
 |zero=>rfl
 |succ k ih=>rw [K6,X5,ih];rfl
theorem AL {o:P7 G7}(q:Q (.bl true) h):eqE (χ o) (KU o) h Q:=by
 cases o with
 |none=>exact⟨.none,.none,rfl,rfl,rfl,rfl,q⟩
 |some k=>
  show Q (.bl (decide (((k:G7):P0)=k))) h;rw [D2 rfl];exact q
def yU:RDn:=λds h Q=> ∃T,∃n:G7,ds= [jg T]/\Sq n 20 T/\1<=n/\n<=3/\Q (.bl true) h
theorem Wi (Z:Zs mg)(F:ã K "_law_one_right" "_law_one_right" wF f fd)(UZ:je P w K mg base n "first_power" ["table"] Ju)(wX:je P w K mg base n "full_way" ["tables"] vp)(jW:je P w K mg base n "all_full_from" ["tables"] zL):Ë P w K mg base á (n+1) f fd ["_law_table_here"] (ä K yU):=by
 refine F.okM yT (λhr=>(Ż (ø 1 yT (jk UZ hr (j1 (jv 0)))) (zA (Ds (İ (Vz hr.units) (jk jW hr (j1 (Uo (j1 (jv 0))))) (jv 1)) (Gb (İ (Vz hr.units) (jk wX hr (j1 (Uo (j1 (jv 0))))) (jif (ĕ Dp (jv 1) VB) VB (ú Yj (Mi (j1 jF)) (jv 1))))))))) ?_;rintro ds h Q ⟨T,n,rfl,sq,n1,n3,q⟩;refine⟨rfl,?_⟩;have hT:=KY sq n1 n3;obtain⟨o,ho⟩:=TH sq n1 (by omega);have f2:=AK sq (by omega) ho;refine jT [some (jg T),some (KU o)] (λC hC=>⟨_,rfl,T,n,20,o,rfl,sq,n1,by omega,by omega,ho,hC⟩) ?_;refine⟨_,rfl,ι,λp1 e1=>⟨p1,[T],n,rfl,jc,hT,λo' ho'=> ?_⟩⟩;obtain rfl:=Tz ho' (Fk hT f2);refine⟨_,rfl,AL ⟨_,rfl,yr ⟨_,rfl,ι,λp2 e2=>⟨p2,[T],n,rfl,jc,hT,?_⟩⟩⟩⟩;rw [PQ,Fl hT f2];have sb:Sub h (wg (wg h p1 [jg T]) p2 [jg T]):=(Sub.new e1).newAt e2;cases o' with
 |none=>exact⟨_,rfl,_,rfl,yr ⟨.none,.none,rfl,rfl,rfl,rfl,h,sb,q⟩⟩
 |some k=>
  have k30:k<=30:=ho.2.1;refine⟨_,rfl,_,rfl,zF ⟨ι,_,rfl,?_,?_,?_,?_⟩⟩
  ·exact Int.le_trans (by decide) (Int.ofNat_nonneg k)
  ·exact iE (xO.mpr k30) (by decide)
  ·exact S5 (show 1*k<=30 by omega) (by decide)
  ·rw [xL];exact SU (a:=S9 k 0) (b:=S9 k 0) rfl ⟨h,sb,q⟩
theorem neB {a b:N2}(e:a=b)(q:Q (.bl false) h):neE (.bl a) (.bl b) h Q:=by
 subst e;show Q (.bl (!decide (a=a))) h;rw [D2 rfl];exact q
theorem Ll {m:G7}{W:G0 G7}(hW: ∀i∈W,i<m){lo hi:P0}(h1:lo<=(W.length:P0))(h2:(W.length:P0)<=hi):QN (zt W) (m:P0) lo hi=true:=by
 show ((W.map _).all (λx=>yE x 0 ((m:P0)-1))&&(decide (lo<=(((W.map _).length:G7):P0))&&decide ((((W.map _).length:G7):P0)<=hi)))=true;rw [G1,D2 h1,D2 h2,f7,f7,T6];intro x hx;obtain⟨i,hi,rfl⟩:=R9.mp hx;have:=hW i hi;show (decide ((0:P0)<=(i:P0))&&decide ((i:P0)<=(m:P0)-1))=true;rw [D2 (show (0:P0)<=(i:P0) by omega),D2 (show (i:P0)<=(m:P0)-1 by omega)];rfl
theorem Qy (W:G0 G7):we (zt W)=W:=by
 show (W.map λ(k:G7)=>D.int (k:P0)).map ME=W;rw [R4];exact(M6 λk _=>X9 k).trans (W7 W)
theorem vZ (hT:Ä n Ts){w:G0 G7}(hw:ZF Ts w):zB n Ts (zU n) w=Ó n Ts w:=by
 cases w with
 |nil=>rfl
 |cons a v=>
  show zB n Ts (Ü n (Ts.getD a []) (zU n)) v=zB n Ts (jn n (Ts.getD a [])) v;rw [<-ND hT (hw.2 a P6)];rfl
theorem PR {w:G0 G7}(h:w≠ []):jn n (Ó n Ts w)=Ó n Ts w:=by
 cases w with
 |nil=>exact absurd rfl h
 |cons a v=>exact Pi (yP _) v
theorem NY {u v:G0 G7}(hT:Ä n Ts)(p:X0Y n Ts u v):Cp n Ts (.tup [zt u,zt v])=true:=by
 show (if (QN (zt u) Ts.length 0 600&&QN (zt v) Ts.length 1 600)=true then Wu n (zB n Ts (zU n) (we (zt u)++we (zt v))) (zB n Ts (zU n) (we (zt v))) else false)=true;have:=p.few;have:=p.lo;have:=p.hi;rw [Ll p.way.2 (by omega) (by omega),Ll p.ok (by omega) (by omega),R5 (show (true&&true)=true from rfl),Qy,Qy,JL,vZ hT p.way,p.back];refine XO (L:=1) (J:=0) W9 ?_ λi hi=> ?_
 ·show Ü n (zB n Ts (zU n) v) (Ó n Ts u)=Ó n Ts u;rw [Pj hT (wf u) (PR p.way.1) v p.ok,p.back]
 ·rw [n8.mp hi];exact p.nf
theorem Lm (f:KW n Ts d):(đ n Ts=none/\ ∃ks,Fks n Ts ks/\d= .tup (ks.map jg))\/((∃w,đ n Ts=some w)/\d= .non):=by
 rcases f with ⟨a,e⟩|⟨a,ks,fk,e⟩
 ·refine .inr ⟨?_,e⟩;obtain⟨p,hp,fp⟩:=E9.mp a;unfold đ;cases z:(ÿ n Ts).find? λp=>jm p.1 with
  |none=>exact absurd fp (Q8.mp z p hp)
  |some r=>exact⟨r.2,rfl⟩
 ·refine .inl ⟨?_,ks,fk,e⟩;unfold đ;rw [Q8.mpr λp hp y=>by
   have:=pF.mp a p hp;exact this y]
  rfl
theorem PU (M:G0 (G0 P0)):vY (jg M)=M:=by
 show (M.map ym).map Bp=M;rw [R4];have:M.map (Bp∘ym)=M.map id:=M6 λr _=>by
  show (r.map D.int).map Lg=r;rw [R4];exact(M6 λx _=>rfl).trans (W7 r)
 rw [this,W7]
variable {ks:G0 (G0 (G0 P0))}
theorem TQ (hT:Ä n Ts)(f:Fks n Ts ks):okD (.tup (ks.map jg))=true/\ ∀es,D.tup (ks.map jg)= .tup es->es.length<999:=by
 have lk:ks.length<=512:=by rw [f.1.length_eq,G1];exact(wB (n:=n) hT.l3).few hT.n3
 refine⟨VS (by rw [G1];omega) λd hd=> ?_,λes e=>by cases e;rw [G1];omega⟩;obtain⟨M,hM,rfl⟩:=R9.mp hd;obtain⟨w,_,rfl⟩:=Jl hT (f.1.mem_iff.mp hM);exact NN (wf w) (by have:=hT.n3;omega)
theorem AM {w:G0 G7}(hT:Ä n Ts)(f:Fks n Ts ks)(hw:ZF Ts w):decide (zB n Ts (zU n) w∈ks)=true:=by
 have z:Ó n Ts w∈WG n Ts:=JN hT hw;rw [<-vZ hT hw] at z;exact D2 (f.1.mem_iff.mpr z)
theorem DP (hT:Ä n Ts)(e0:đ n Ts=none)(f:Fks n Ts ks):Li n Ts (.tup (ks.map jg))=true:=by
 have n1:=hT.n1;have n3:=hT.n3;have et:(ks.map jg).map vY=ks:=by
  rw [R4];exact(M6 λM _=>PU M).trans (W7 ks)
 show ((ks.map jg).all (Wh n)&&(NL ((ks.map jg).map vY)&&(Ts.all (λT=>decide (jn n T∈(ks.map jg).map vY))&&((ks.map jg).map vY).all λM=>Ts.all λT=>decide (Ü n T M∈(ks.map jg).map vY))))=true;rw [et,C7,C7,C7,T6,T6,T6];have atT: ∀T∈Ts,∃i,i<Ts.length/\Ts.getD i []=T:=λT hT'=>by
  obtain⟨i,hi,e⟩:=List.mem_iff_getElem.mp hT';exact⟨i,hi,by rw [S1,G2 hi,e];rfl⟩
 refine⟨λd hd=> ?_,Lk f.2,λT h=> ?_,λM hM=> ?_⟩
 ·obtain⟨M,hM,rfl⟩:=R9.mp hd;obtain⟨w,hw,rfl⟩:=Jl hT (f.1.mem_iff.mp hM);unfold Wh;rw [PU,GI (wf w) n1 (by omega),(wf w).len,PR hw.1,AC hT e0 hw,D2 rfl,D2 rfl];rfl
 ·obtain⟨i,hi,rfl⟩:=atT T h;have e:Ó n Ts [i]=jn n (Ts.getD i []):=rfl;have z:Ó n Ts [i]∈WG n Ts:=JN hT ⟨λz=>(nomatch z),λj hj=>by rw [G9.mp hj];exact hi⟩;rw [<-e];exact D2 (f.1.mem_iff.mpr z)
 ·rw [T6];intro T h;obtain⟨i,hi,rfl⟩:=atT T h;exact D2 (f.1.mem_iff.mpr (PH hT (f.1.mem_iff.mp hM) hi))
theorem AN {neg:N2}{Ps:G0 (G0 (G0 P0))}(q:Q (.bl (neg !=decide (M∈Ps))) h):inE neg (jg M) (.tup (Ps.map jg)) h Q:=by
 refine⟨Jo M,Ps.map Jo,vJ h M,.inr ⟨_,rfl,ā.tos h Ps⟩,ā.lay M,ā.lays Ps,ā.dp M,?_⟩;have e:((Ps.map Jo).any λz=>O5 z (Jo M))=decide (M∈Ps):=by
  rw [l8,J8,E9,J7];refine⟨λ⟨x,hx,e⟩=> ?_,λhx=>⟨M,hx,?_⟩⟩
  ·have e:O5 (Jo x) (Jo M)=true:=e;rw [ā.eq] at e;exact(C4 e) ▸ hx
  ·show O5 (Jo M) (Jo M)=true;rw [ā.eq];exact D2 rfl
 rw [e];exact q
def yu:RDn:=λds h Q=> ∃A Ts w,∃n:G7,ds= [.lst A,zt w]/\h A=some (Ts.map jg)/\Ä n Ts/\ZF Ts w/\w.length<=60/\ ∀h',Sub h h'->Q (.bl true) h'
theorem ZA (Z:Zs mg)(F:ã K "_law_ways_right" "_law_ways_right" wn f fd)(DS:je P w K mg base n "fence_of" ["tables"] YS)(wX:je P w K mg base n "full_way" ["tables"] vp)(Xa:je P w K mg base n "why_lasting" ["tables"] Jv)(jW:je P w K mg base n "all_full_from" ["tables"] zL)(YV:je P w K mg base n "lasting_holds" ["tables","thing"] vE)(vq:je P w K mg base n "along" ["tables","way"] UU)(UY:je P w K mg base n "fence_holds" ["tables","thing"] Jw)(yi:je P w K mg base n "full" ["table"] vV):Ë P w K mg base á (n+1) f fd ["_law_tables","_law_way_here"] (ä K yu):=by
 refine F.okM zZ (λhr=>(js8 (OF (i:=2) (j:=3) rfl zZ.nd rfl rfl (by decide) rfl rfl (j2 (jk wX hr (j1 (jv 0))) (jk DS hr (j1 (jv 0)))) rfl) (OF (i:=4) (j:=5) rfl zZ.nd rfl rfl (by decide) rfl rfl (j2 (jk jW hr (j1 (jv 0))) (jk Xa hr (j1 (jv 0)))) rfl) (Jq (ũ (Rc (ĕ (Xw hr.units) (İ Dp (jv 2) VB) (İ wr (jv 3) VB)) (Mh (ĕ (Xw hr.units) (İ Dp (jv 4) VB) (İ wr (jv 5) VB))))) (zA Ī)) (Jq (ũ (Dr (ĕ wr (jv 5) VB) (Mg (ĕ wr (jk YV hr (j2 (jv 0) (jv 5))) Ī)))) (zA Ī)) (Jq (ĕ wr (jv 3) VB) (Jq (ũ (Rc (ĕ wr (jk UY hr (j2 (jv 0) (jv 3))) Ī) (Mh (Ga (WR hr.units) (jk vq hr (j2 (jv 0) (jv 1))) (jv 3) (by with_unfolding_all rfl))))) (zA Ī))) (Jq (ũ (Dr (ĕ wr (jv 2) VB) (Mg (yo (wM (jk yi hr (j1 (jk vq hr (j2 (jv 0) (jv 2)))))))))) (zA Ī)) (Jq (ũ (Dr (ĕ wr (jv 2) VB) (Dr (ĕ BQ (WE Z (jv 1)) (WE Z (jv 2))) (Mg (wM (jk yi hr (j1 (jk vq hr (j2 (jv 0) (jv 1)))))))))) (zA Ī)) (zA (jor (İ Dp (jv 4) VB) (jor (İ BQ (WE Z (jv 1)) (jv 4)) (Gb (jk yi hr (j1 (jk vq hr (j2 (jv 0) (jv 1))))))))))) ?_;rintro ds h Q ⟨A,Ts,w,n,rfl,kA,hT,hw,w60,q⟩;refine⟨rfl,?_⟩;refine jf (λÂ h'=> ∃fd,Â= [some (.lst A),some (zt w),some (Ŵ (đ n Ts)),some fd,none,none]/\KW n Ts fd/\h=h') (λC hC=>⟨_,rfl,A,Ts,n,rfl,kA,hT,_,rfl,A,Ts,n,rfl,kA,hT,λfd ff=>⟨_,_,rfl,hC _ _ ⟨fd,by rw [PQ];rfl,ff,rfl⟩⟩⟩) ?_;rintro _ _ ⟨fd,rfl,ff,rfl⟩;refine jf (λÂ h'=> ∃o d,Â= [some (.lst A),some (zt w),some (Ŵ (đ n Ts)),some fd,some (χ o),some d]/\AfF n Ts o/\uB n Ts d/\h=h') (λC hC=>⟨_,rfl,A,Ts,n,rfl,kA,hT,λo ho=>⟨_,rfl,A,Ts,n,rfl,kA,hT,λd wd=>⟨_,_,rfl,hC _ _ ⟨o,d,rfl,ho,wd,rfl⟩⟩⟩⟩) ?_;rintro _ _ ⟨o,d,rfl,ho,wd,rfl⟩;have f1:(false !=isN (Ŵ (đ n Ts)))=(true !=isN fd):=by
  rcases Lm ff with ⟨e,ks,_,e2⟩|⟨⟨w0,e⟩,e2⟩<;>rw [e,e2]<;>rfl
 have f2:(false !=isN (χ o))=(true !=isN d):=by
  rcases wd with ⟨r,z,e⟩|⟨all,u,v,e,_⟩
  ·cases o with
   |none=>exact absurd z (ho r)
   |some m=>rw [e];rfl
  ·cases o with
   |none=>rw [e];rfl
   |some m=>obtain⟨r,_,z,_⟩:=ho;exact absurd z (all r)
 refine jT [some (.lst A),some (zt w),some (Ŵ (đ n Ts)),some fd,some (χ o),some d] (λC hC=>⟨_,rfl,_,rfl,?_⟩) ?_
 ·dsimp only [dC,isV];refine neB f1 ?_;refine⟨_,rfl,zF ?_⟩;refine⟨_,rfl,_,rfl,?_⟩;dsimp only [dC,isV];refine neB f2 ?_;exact⟨_,rfl,zF (hC)⟩
 clear f1 f2;refine jT [some (.lst A),some (zt w),some (Ŵ (đ n Ts)),some fd,some (χ o),some d] (λC hC=> ?_) ?_
 ·rcases wd with ⟨r,z,e⟩|⟨all,u,v,e,pw⟩
  ·subst e;exact⟨_,rfl,_,rfl,zF (hC)⟩
  ·subst e;refine⟨_,rfl,_,rfl,yr ⟨_,rfl,_,rfl,A,Ts,_,n,rfl,kA,hT,?_,?_⟩⟩
   ·exact VS (E8 2 998) λd hd=>by
     simp only [T3,F4,or_false] at hd;have:=pw.few;have:=pw.hi;rcases hd with e|e<;>subst e<;>exact VS (by rw [G1];omega) λd hd=>by obtain⟨x,_,rfl⟩:=R9.mp hd;rfl
   ·rw [NY hT pw];exact⟨_,rfl,zF (hC)⟩
 have w1:1<=w.length:=by
  cases w with
  |nil=>exact absurd rfl hw.1
  |cons=>exact E8 1 _
 refine jT [some (.lst A),some (zt w),some (Ŵ (đ n Ts)),some fd,some (χ o),some d] (λC hC=> ?_) ?_
 ·rcases Lm ff with ⟨e0,ks,fk,e⟩|⟨_,e⟩
  ·subst e;have ok:=TQ hT fk;refine⟨_,rfl,_,rfl,yr ⟨_,rfl,_,rfl,A,Ts,_,n,rfl,kA,hT,ok.1,ok.2,?_⟩⟩;rw [DP hT e0 fk];refine⟨_,rfl,zF ⟨_,rfl,_,rfl,A,Ts,w,n,rfl,kA,hT,hw.2,w1,w60,_,rfl,AN (neg:=true) (M:=zB n Ts (zU n) w) (Ps:=ks) ?_⟩⟩;have eb:(true !=decide (zB n Ts (zU n) w∈ks))=false:=by rw [AM hT fk hw];rfl
   rw [eb];exact⟨_,rfl,zF (hC)⟩
  ·subst e;exact⟨_,rfl,_,rfl,zF (hC)⟩
 refine jf (λÂ h'=>Â= [some (.lst A),some (zt w),some (Ŵ (đ n Ts)),some fd,some (χ o),some d]/\h=h') (λC hC=> ?_) ?_
 ·cases e:đ n Ts with
  |none=>exact⟨_,rfl,_,rfl,zF (zF (hC _ _ ⟨by rw [e],rfl⟩))⟩
  |some w0=>
   obtain⟨b0,f0,l0,_⟩:=Qn hT e;have w01:1<=w0.length:=by
    cases w0 with
    |nil=>exact absurd rfl b0.1
    |cons=>exact E8 1 _
   refine⟨_,rfl,_,rfl,yr ⟨_,rfl,_,rfl,A,Ts,w0,n,rfl,kA,hT,b0.2,w01,by omega,_,n,1,rfl,vZ hT b0 ▸ wf w0,hT.n1,by have:=hT.n3;omega,_,rfl,?_⟩⟩;rw [vZ hT b0,f0];exact zF (hC _ _ ⟨by rw [e],rfl⟩)
 rintro _ _ ⟨rfl,rfl⟩;refine jf (λÂ h'=>Â= [some (.lst A),some (zt w),some (Ŵ (đ n Ts)),some fd,some (χ o),some d]/\h=h') (λC hC=> ?_) ?_
 ·have sq:Sq n 1 (zB n Ts (zU n) w):=vZ hT hw ▸ wf w;cases e:đ n Ts with
  |none=>exact⟨_,rfl,_,rfl,zF (zF (hC _ _ ⟨by rw [e],rfl⟩))⟩
  |some w0=>
   obtain⟨b0,f0,l0,lo⟩:=Qn hT e;refine⟨_,rfl,_,rfl,yr ⟨_,rfl,_,rfl,_,rfl,?_⟩⟩;show if decide ((((w.map λ(k:G7)=>D.int (k:P0)).length:G7):P0)<(((w0.map λ(k:G7)=>D.int (k:P0)).length:G7):P0))=true then _ else _
   rw [G1,G1]
   by_cases c:(w.length:P0)<(w0.length:P0)
   ·rw [D2 c];refine yr ⟨_,rfl,_,rfl,A,Ts,w,n,rfl,kA,hT,hw.2,w1,w60,_,n,1,rfl,sq,hT.n1,by have:=hT.n3;omega,_,rfl,?_⟩;rw [vZ hT hw];cases f:jm (Ó n Ts w) with
    |true=>exact absurd (lo w hw f) (by omega)
    |false=>exact zF (hC _ _ ⟨by rw [e],rfl⟩)
   ·rw [R8 c];exact zF (zF (hC _ _ ⟨by rw [e],rfl⟩))
 rintro _ _ ⟨rfl,rfl⟩;have sq:Sq n 1 (zB n Ts (zU n) w):=vZ hT hw ▸ wf w;cases o with
 |none=>exact⟨_,rfl,_,rfl,yr ⟨_,Sub.refl _,q _ (Sub.refl _)⟩⟩
 |some m=>
  obtain⟨r,em,z,_⟩:=ho;refine⟨_,rfl,_,rfl,zF ⟨_,rfl,_,rfl,_,rfl,?_⟩⟩;show if decide ((((w.map λ(k:G7)=>D.int (k:P0)).length:G7):P0)<(m:P0))=true then _ else _
  rw [G1]
  by_cases c:(w.length:P0)<(m:P0)
  ·rw [D2 c];exact yr ⟨_,Sub.refl _,q _ (Sub.refl _)⟩
  ·rw [R8 c];refine zF ⟨_,rfl,_,rfl,A,Ts,w,n,rfl,kA,hT,hw.2,w1,w60,_,n,1,rfl,sq,hT.n1,by have:=hT.n3;omega,?_⟩;rw [vZ hT hw,Fg hT z hw (by omega)];exact⟨_,Sub.refl _,q _ (Sub.refl _)⟩
theorem NZ (q:Q (.bl false) h):neE (jg T) (jg T) h Q:=⟨Jo T,Jo T,vJ h T,vJ h T,Je T,Je T,by rw [show O5 (Jo T) (Jo T)=true from by rw [ā.eq];simp];exact q⟩
theorem FA (h:Ä n Ts):Ä n (Ts.take 1):=⟨h.n1,h.n3,by rw [S8];exact Nat.le_min.mpr ⟨P5 _,h.l1⟩,by rw [S8];exact S5 (aY _ _) h.l3,λT hT=>h.sq T (L5 hT)⟩
theorem Qz (h:Ä n Ts):Ä n (Ts.map (wj n)):=⟨h.n1,h.n3,by rw [G1];exact h.l1,by rw [G1];exact h.l3,λT hT=>by
 obtain⟨U,hU,rfl⟩:=R9.mp hT;exact(h.sq U hU).turn⟩
theorem Ba (hi:i<Ts.length):(Ts.map (wj n)).getD i []=wj n (Ts.getD i []):=by
 rw [S1,S1,D1,G2 hi];rfl
/-- turned,ways go from behind -/
theorem PV (hT:Ä n Ts): ∀k (w:G0 G7),w.length=k->(∀i∈w,i<Ts.length)->zB n (Ts.map (wj n)) (zU n) w.reverse=wj n (zB n Ts (zU n) w)
 |0,w,e,_=>by
  obtain rfl:=X6.mp e;exact(BZ n).symm
 |k+1,w,e,hw=>by
  have n3:=hT.n3;obtain⟨v,a,rfl⟩: ∃v a,w=v++ [a]:=by
   rcases mS w with z|⟨v,a,z⟩
   ·rw [z] at e;cases e
   ·exact⟨v,a,by rw [z];exact mT⟩
  have lv:v.length=k:=by rw [P2] at e;exact Nat.succ.inj e
  have hv: ∀i∈v,i<Ts.length:=λi hi=>hw i (B7 _ hi)
  have ha:a<Ts.length:=hw a (D3 _ P6);have sa:=hT.get ha;have sv:Sq n 1 (zB n Ts (zU n) v):=VH _ (Sq.one n) v;have tT:=Qz hT;have la:a<(Ts.map (wj n)).length:=by rw [G1];exact ha
  rw [List.reverse_append,JL,JL];show zB n (Ts.map (wj n)) (Ü n ((Ts.map (wj n)).getD a []) (zU n)) v.reverse=wj n (Ü n (Ts.getD a []) (zB n Ts (zU n) v));rw [<-Pj tT (M:=Ü n ((Ts.map (wj n)).getD a []) (zU n)) (Sq.mark _) (yP _) v.reverse λi hi=>by rw [G1];exact hv i (E2.mp hi),PV hT k v lv hv,<-ND tT la];show jn n (wW n (jn n ((Ts.map (wj n)).getD a [])) (wj n (zB n Ts (zU n) v)))=wj n (jn n (wW n (zB n Ts (zU n) v) (Ts.getD a [])));rw [Ba ha,Yq sa.turn sv.turn,<-BY sv sa (by omega),MG]
theorem AO (hT:Ä n Ts){w:G0 G7}(hw:ZF (Ts.take 1) w):ZF Ts w/\Ó n (Ts.take 1) w=Ó n Ts w:=by
 have l1:=hT.l1;have z: ∀i∈w,i=0:=λi hi=>by have:=hw.2 i hi;rw [S8] at this;omega
 have g0:(Ts.take 1).getD 0 []=Ts.getD 0 []:=by
  rw [S1,S1,aR W9]
 refine⟨⟨hw.1,λi hi=>by rw [z i hi];omega⟩,?_⟩;have led: ∀ (v:G0 G7) (M:G0 (G0 P0)),(∀i∈v,i=0)->zB n (Ts.take 1) M v=zB n Ts M v:=λv=>by
  induction v with
  |nil=>exact λM _=>rfl
  |cons a v ih=>
   intro M hv;have ea:=hv a P6;subst ea;show zB n (Ts.take 1) (Ü n ((Ts.take 1).getD 0 []) M) v=zB n Ts (Ü n (Ts.getD 0 []) M) v;rw [g0];exact ih _ λi hi=>hv i (D7 _ hi)
 cases w with
 |nil=>rfl
 |cons a v=>
  have ea:=z a P6;subst ea;show zB n (Ts.take 1) (jn n ((Ts.take 1).getD 0 [])) v=zB n Ts (jn n (Ts.getD 0 [])) v;rw [g0];exact led v _ λi hi=>z i (D7 _ hi)
def yw:RDn:=λds h Q=> ∃A Ts w,∃n:G7,ds= [.lst A,zt w]/\h A=some (Ts.map jg)/\Ä n Ts/\ZF Ts w/\w.length<=59/\ ∀h',Sub h h'->Q (.bl true) h'
theorem ZB (Z:Zs mg)(F:ã K "_law_more_right" "_law_more_right" wo f fd)(PX:je P w K mg base n "turned" ["table"] Qs)(vq:je P w K mg base n "along" ["tables","way"] UU)(yj:je P w K mg base n "marks" ["table"] vo)(Bc:je P w K mg base n "product" ["one","other"] VT)(wX:je P w K mg base n "full_way" ["tables"] vp)(jW:je P w K mg base n "all_full_from" ["tables"] zL):Ë P w K mg base á (n+1) f fd ["_law_tables","_law_way_here"] (ä K yw):=by
 refine F.okM zi (λhr=>(js7 (FO (i:=7) (k:=2) (js:= [7]) rfl zi.nd rfl (H0 rfl) (jP (by rfl)) (zl (jv 0)) (by decide) rfl (by first|exact H0 rfl|exact W0 rfl) (λX' hX=>wZ) (λX' hX=>by obtain⟨C,s₀,H₀,ex,rfl⟩:=hX;exact(jk PX hr (j1 (jv 7))))) (Jq (ĕ (Xw hr.units) (jk vq hr (j2 (jv 2) (xr (jv 1)))) (jk PX hr (j1 (jk vq hr (j2 (jv 0) (jv 1)))))) (zA Ī)) (Jq (ĕ (Xw hr.units) (jk yj hr (j1 (jk Bc hr (j2 (jk vq hr (j2 (jv 0) (jv 1))) (ċ (jv 0) jF))))) (jk vq hr (j2 (jv 0) (ú zS (jv 1) (Mi (j1 jF)))))) (zA Ī)) (OF (i:=3) (j:=4) rfl zi.nd rfl rfl (by decide) rfl rfl (j2 (jk wX hr (j1 (Xy (jv 0) Up (ZL jF)))) (jk wX hr (j1 (jv 0)))) rfl) (Jq (ũ (Dr (ĕ wr (jv 3) VB) (Mg (ũ (Rc (ĕ Dp (jv 4) VB) (Mh (ĕ Sx (WE Z (jv 4)) (WE Z (jv 3))))))))) (zA Ī)) (OF (i:=5) (j:=6) rfl zi.nd rfl rfl (by decide) rfl rfl (j2 (jk jW hr (j1 (Xy (jv 0) Up (ZL jF)))) (jk jW hr (j1 (jv 0)))) rfl) (zA (jor (İ Dp (jv 6) VB) (Gb (Ds (İ wr (jv 5) VB) (Gb (İ Uh (jv 5) (jv 6))))))))) ?_;rintro ds h Q ⟨A,Ts,w,n,rfl,kA,hT,hw,w59,q⟩;refine⟨rfl,?_⟩;have n1:=hT.n1;have n3:=hT.n3;have l1:=hT.l1;have l3:=hT.l3;have w1:1<=w.length:=by
  cases w with
  |nil=>exact absurd rfl hw.1
  |cons=>exact E8 1 _
 have sq:Sq n 1 (zB n Ts (zU n) w):=VH _ (Sq.one n) w;have s0:=hT.get (i:=0) (by omega);have e0:=Ys hT (i:=0) (by omega);have h1T:=FA hT;have c1:Va (Ts.map jg) none (some (1:P0))=(Ts.take 1).map jg:=(MF _).trans j5.symm;refine jf (λÂ h'=> ∃B,Â= [some (.lst A),some (zt w),some (.lst B),none,none,none,none,none]/\h' B=some ((Ts.map (wj n)).map jg)/\h' A=some (Ts.map jg)/\Sub h h') (λC hC=> ?_) ?_
 ·refine lcA (j:=λh=>h A) Ts jg (λT=>jg (wj n T)) (by omega) kA (λR r=>⟨_,rfl,r⟩) (λT hm Q' q'=>⟨_,rfl,T,n,20,rfl,hT.sq T hm,n1,by omega,q'⟩) (λp hp=>hC _ _ ⟨p,rfl,by rw [jc,R4];rfl,ji kA hp,.new hp⟩)
 rintro _ h1 ⟨B,rfl,kB,kA,sb⟩;refine jT [some (.lst A),some (zt w),some (.lst B),none,none,none,none,none] (λC hC=>⟨_,rfl,_,rfl,_,rfl,B,Ts.map (wj n),w.reverse,n,by unfold zt;rw [List.map_reverse],kB,Qz hT,λi hi=>by rw [G1];exact hw.2 i (E2.mp hi),by rw [N4];exact w1,by rw [N4];omega,_,rfl,_,rfl,A,Ts,w,n,rfl,kA,hT,hw.2,w1,by omega,_,n,1,rfl,sq,n1,by omega,?_⟩) ?_
 ·rw [PV hT _ w rfl hw.2];exact NZ ⟨_,rfl,zF (hC)⟩
 refine jT [some (.lst A),some (zt w),some (.lst B),none,none,none,none,none] (λC hC=>⟨_,rfl,_,rfl,A,Ts,w,n,rfl,kA,hT,hw.2,w1,by omega,_,rfl,_,_,kA,e0,_,_,n,1,20,rfl,sq,s0,by decide,n1,by omega,_,n,24,rfl,sq.mul s0 (by omega),n1,by omega,_,rfl,_,rfl,ι,?_,A,Ts,w++ [0],n,?_,kA,hT,?_,?_,?_,?_⟩) ?_
 ·rw [G1];exact S5 (show w.length+1<=60 by omega) (by decide)
 ·unfold zt;rw [R1];rfl
 ·intro i hi;rcases D5.mp hi with z|z
  ·exact hw.2 i z
  ·rw [G9.mp z];omega
 ·rw [P2];omega
 ·rw [P2];show w.length+1<=60;omega
 ·rw [JL];exact NZ ⟨_,rfl,zF (hC)⟩
 refine jf (λÂ h'=>Â= [some (.lst A),some (zt w),some (.lst B),some (Ŵ (đ n (Ts.take 1))),some (Ŵ (đ n Ts)),none,none,none]/\h' A=some (Ts.map jg)/\Sub h h') (λC hC=>⟨_,rfl,1,rfl,_,kA,λp8 e8=>⟨p8,Ts.take 1,n,rfl,by rw [jc,c1],h1T,_,rfl,A,Ts,n,rfl,ji kA e8,hT,_,_,rfl,hC _ _ ⟨by rw [PQ,PQ];rfl,ji kA e8,sb.newAt e8⟩⟩⟩) ?_;clear kA kB sb;rintro _ h2 ⟨rfl,kA,sb⟩;refine jf (λÂ h'=>Â= [some (.lst A),some (zt w),some (.lst B),some (Ŵ (đ n (Ts.take 1))),some (Ŵ (đ n Ts)),none,none,none]/\h2=h') (λC hC=> ?_) ?_
 ·cases z1:đ n (Ts.take 1) with
  |none=>exact⟨_,rfl,_,rfl,zF (zF (hC _ _ ⟨by rw [z1],rfl⟩))⟩
  |some w1'=>
   obtain⟨b1,f1,_,_⟩:=Qn h1T z1;obtain⟨b2,e2⟩:=AO hT b1;rw [e2] at f1;cases z2:đ n Ts with
   |none=>rw [AC hT z2 b2] at f1;cases f1
   |some w2=>
    obtain⟨_,_,_,lo⟩:=Qn hT z2;have:=lo w1' b2 f1;refine⟨_,rfl,_,rfl,yr ⟨_,rfl,_,rfl,zF ⟨_,rfl,_,rfl,_,rfl,?_⟩⟩⟩;show if decide ((((w2.map λ(k:G7)=>D.int (k:P0)).length:G7):P0)>(((w1'.map λ(k:G7)=>D.int (k:P0)).length:G7):P0))=true then _ else _
    rw [G1,G1,R8 (show ¬ ((w2.length:P0)>(w1'.length:P0)) by omega)];exact zF (hC _ _ ⟨by rw [z1,z2],rfl⟩)
 rintro _ _ ⟨rfl,rfl⟩;refine jf (λÂ h'=> ∃o1 o2,Â= [some (.lst A),some (zt w),some (.lst B),some (Ŵ (đ n (Ts.take 1))),some (Ŵ (đ n Ts)),some (χ o1),some (χ o2),none]/\AfF n (Ts.take 1) o1/\AfF n Ts o2/\Sub h h') (λC hC=>⟨_,rfl,1,rfl,_,kA,λp8 e8=>⟨p8,Ts.take 1,n,rfl,by rw [jc,c1],h1T,λo1 a1=>⟨_,rfl,A,Ts,n,rfl,ji kA e8,hT,λo2 a2=>⟨_,_,rfl,hC _ _ ⟨o1,o2,rfl,a1,a2,sb.newAt e8⟩⟩⟩⟩⟩) ?_;clear sb;rintro _ h3 ⟨o1,o2,rfl,a1,a2,sb⟩;cases o2 with
 |none=>exact⟨_,rfl,_,rfl,yr ⟨_,Sub.refl _,q _ sb⟩⟩
 |some m=>
  obtain⟨m',rfl,le⟩:=AB hT h1T a2 a1;refine⟨_,rfl,_,rfl,zF ⟨_,rfl,_,rfl,yr ⟨_,rfl,_,rfl,?_⟩⟩⟩;show (Bl Q).rt (.bl (decide ((m':P0)<=(m:P0)))) h3;rw [D2 (show (m':P0)<=(m:P0) by omega)];exact⟨_,Sub.refl _,q _ sb⟩
theorem FB {te:TAD}{t u:TSD}{E:EndsD}{σ:SD}(x:Ĩ RV te σ h λd h2=> ∃k,d= .bl k/\if (!k)=true then t E σ h2 else u E σ h2):FH (Di (ZJ (Ĩ RV te))) t u E σ h:=x
theorem TR (Z:Zs mg)(F:ã K "law" "law" DK f fd)(GQ:je P w K mg base n "_law_cell" ["_law_script","_law_k"] WA)(DQ:je P w K mg base n "_law_pen" ["_law_cell_here"] YT)(GR:je P w K mg base n "_law_many" ["_law_pen_here"] WB)(DR:je P w K mg base n "_law_way" ["_law_pen_here","_law_tables","_law_least","_law_most"] YU)(WK:je P w K mg base n "_law_one_right" ["_law_table_here"] yU)(Wk:je P w K mg base n "_law_more_right" ["_law_tables","_law_way_here"] yw)(Wl:je P w K mg base n "_law_ways_right" ["_law_tables","_law_way_here"] yu):Ë P w K mg base á (n+1) f fd ["_law_script"] (ä K RY):=by
 refine F.okM VR (λhr=>(Ż (Re F8 rfl (OG (ú zS (Uo (j1 (jk GQ hr (j2 (jv 0) jF)))) (Xy (jv 0) (ZL jF) (ZL jF)))) (jgn 1 VR) (js5 (ø 2 VR (jk DQ hr (j1 (jv 1)))) (ø 3 VR (jk GR hr (j1 (jv 2)))) (ø 4 VR (jk DR hr (j4 (jv 2) (jv 3) jF jF))) (Jq (yo (wM (wJ (Zh rfl) rfl Z.all A7 (j1 (ļ 5 VR (zl (jv 3)) (λ_ _ _ _=>(jk WK hr (j1 (jv 5))))))))) (zA Ī)) (Jq (ũ (Rc (yo (wM (jk Wl hr (j2 (jv 3) (jv 4))))) (Mh (yo (wM (jk Wk hr (j2 (jv 3) (jv 4)))))))) (zA Ī)))) (zA Ī))) ?_;rintro ds h Q ⟨ns,rfl,hh,hns,q⟩;refine⟨rfl,?_⟩;refine jf (λÂ h'=>True) (λC hC=> ?_) (λÂ h3 hV=>⟨h3,Sub.refl _,q h3⟩);refine⟨_,rfl,ns,0,rfl,(by decide),λn0=>⟨ι,λp1 e1=>⟨_,rfl,_,rfl,_,rfl,λp2 e2=>⟨_,_,ji jc e2,jc,?_,λp3 e3=>⟨p3,rfl,?_⟩⟩⟩⟩⟩
 ·have:(Va ns (some 1) (some 2)).length<=ns.length:=by unfold Va;rw [S8,C6];omega
  rw [G1];exact M5 (zk (by simp only [S7,O4];omega))
 generalize hcs:([D.int n0]++(Va ns (some 1) (some 2)).map D.int)=cs;have hint: ∀d∈cs,∃c,d= .int c:=λd hd=>by
  rw [<-hcs] at hd;rcases D5.mp hd with z|z
  ·exact⟨n0,G9.mp z⟩
  ·obtain⟨x,_,e⟩:=R9.mp z;exact⟨x,e.symm⟩
 refine Xv cs (λi Â h'=> ∃a1 a2 a3 a4 a5,Â= [some (.scr ns),a1,a2,a3,a4,a5]/\h' p3=some cs) (λi Â h' ⟨_,_,_,_,_,_,k⟩=>k) ⟨_,_,_,_,_,rfl,jc⟩ (λÂ h' _=>hC _ _ aQ) ?_;rintro i d _ h4 hi ⟨b1,b2,b3,b4,b5,rfl,k3⟩;obtain⟨c,rfl⟩:=hint d (P9 hi);have ľ:i<cs.length:=(P8.mp hi).1;show vz _ _ _ [some (.scr ns),some (.int c),b2,b3,b4,b5] h4;refine jf (λÂ h'=> ∃p l fl,Â= [some (.scr ns),some (.int c),some (.lst p),b3,b4,b5]/\h' p=some [.int l,.int fl]/\0<=l/\h' p3=some cs/\p3≠p) (λC hC=> ?_) ?_
 ·refine⟨_,rfl,c,rfl,λp l fl ep l0 _=>hC _ _ ⟨p,l,fl,rfl,jc,l0,ji k3 ep,E4 (jq k3 ep)⟩⟩
 rintro _ h5 ⟨p,l,fl,rfl,kp,l0,k3,n3⟩;refine jf (λÂ h'=> ∃F n Ts l2,Â= [some (.scr ns),some (.int c),some (.lst p),some (.lst F),b4,b5]/\h' F=some (Ts.map jg)/\Ä n Ts/\F≠p/\h' p=some [.int l2,.int fl]/\0<=l2/\h' p3=some cs) (λC hC=>⟨_,rfl,p,l,fl,rfl,kp,l0,λF n Ts l' h' fF kF hT bt kp' l0'=>hC _ _ ⟨F,n,Ts,l',rfl,kF,hT,jq kp fF,kp',l0',bt _ _ n3 k3⟩⟩) ?_;clear kp l0 k3;rintro _ h6 ⟨F,n,Ts,l2,rfl,kF,hT,nF,kp,Ď,k3⟩;have hT1:=hT.n1;have hT3:=hT.n3;have l3:=hT.l3;refine jf (λÂ h'=> ∃W,Â= [some (.scr ns),some (.int c),some (.lst p),some (.lst F),some (zt W),b5]/\ZF Ts W/\W.length<=8/\h' F=some (Ts.map jg)/\h' p3=some cs) (λC hC=>⟨_,rfl,_,rfl,p,l2,fl,F,Ts,n,1,8,rfl,kp,Ď,kF,hT,nF,by decide,by decide,λW l4 hW w1 w8 l40=>hC _ _ ⟨W,rfl,⟨λz=>(by rw [z] at w1;exact absurd w1 (by decide)),hW⟩,w8,jj nF kF,jj n3 k3⟩⟩) ?_;clear kp Ď k3 kF;rintro _ h7 ⟨W,rfl,hW,w8,kF,k3⟩;refine jf (λÂ h'=>Â= [some (.scr ns),some (.int c),some (.lst p),some (.lst F),some (zt W),b5]/\h' F=some (Ts.map jg)/\h' p3=some cs) (λC hC=> ?_) ?_
 ·refine FB (He (j:=λh=>h F) Ts jg (λ_=>true) (by omega) kF (λR r=>⟨_,rfl,r⟩) (λT hm Q' q'=>⟨_,rfl,T,n,rfl,hT.sq T hm,hT1,hT3,q'⟩) ⟨_,rfl,?_⟩);rw [show (Ts.all λ_=>true)=true from T6.mpr λ_ _=>rfl];exact zF (hC _ _ ⟨rfl,kF,k3⟩)
 clear kF k3;rintro _ h8 ⟨rfl,kF,k3⟩;refine⟨_,rfl,_,rfl,F,Ts,W,n,rfl,kF,hT,hW,by omega,λh9 s9=>⟨_,rfl,zF ⟨_,rfl,_,rfl,F,Ts,W,n,rfl,s9 _ _ kF,hT,hW,by omega,λh10 s10=>⟨_,rfl,zF ⟨_,Sub.refl _,ľ,_,_,_,_,_,rfl,s10 _ _ (s9 _ _ k3)⟩⟩⟩⟩⟩
end
theorem TU {l:rH}{w:C1}{K:G5}{h:L8}{mg:Str->P7 G3}{fa:P1}(X:K.In h)(G:h.Ns O6 mg)(hfa:mg "law" =some (.ref fa))
 (d0:Ç K "is_whole" ZX fu0 eu0)
 (d1:Ç K "is_within" JQ fu1 eu1)
 (d2:Ç K "is_place" ZY fu2 eu2)
 (d3:Ç K "are_places" vN fu3 eu3)
 (d4:Ç K "rises" GC fu4 eu4)
 (d5:Ç K "is_way" UL fu5 eu5)
 (d6:Ç K "is_table_row" yI fu6 eu6)
 (d7:Ç K "has_table_form" wC fu7 eu7)
 (d8:Ç K "want_table" vP fu8 eu8)
 (d9:Ç K "want_tables" vc fu9 eu9)
 (d10:Ç K "want_way" ZZ fu10 eu10)
 (d11:Ç K "multiplied" vQ fu11 eu11)
 (d12:Ç K "power_of_none" ye fu12 eu12)
 (d13:Ç K "product" YF fu13 eu13)
 (d14:Ç K "full" NI fu14 eu14)
 (d15:Ç K "marks" GE fu15 eu15)
 (d16:Ç K "turned" UO fu16 eu16)
 (d17:Ç K "marks_after" vd fu17 eu17)
 (d18:Ç K "marks_and_return" zW fu18 eu18)
 (d19:Ç K "all_marks" JR fu19 eu19)
 (d20:Ç K "marks_along" ve fu20 eu20)
 (d21:Ç K "ways_and_nexts" wE fu21 eu21)
 (d22:Ç K "ends_of" YH fu22 eu22)
 (d23:Ç K "rounds_and_lasting" zC fu23 eu23)
 (d24:Ç K "along" GF fu24 eu24)
 (d25:Ç K "full_way" Wb fu25 eu25)
 (d26:Ç K "all_full_from" yf fu26 eu26)
 (d27:Ç K "first_power" vf fu27 eu27)
 (d28:Ç K "never_full" vR fu28 eu28)
 (d29:Ç K "lasting_holds" yg fu29 eu29)
 (d30:Ç K "round_within" yJ fu30 eu30)
 (d31:Ç K "why_lasting" vg fu31 eu31)
 (d32:Ç K "is_post" YI fu32 eu32)
 (d33:Ç K "fence_holds" vh fu33 eu33)
 (d34:Ç K "fence_of" Wc fu34 eu34)
 (d35:Ç K "_law_cell" JU fu35 eu35)
 (d36:Ç K "_law_pen" Wd fu36 eu36)
 (d37:Ç K "_law_draw" JV fu37 eu37)
 (d38:Ç K "_law_table" vS fu38 eu38)
 (d39:Ç K "_law_order" vT fu39 eu39)
 (d40:Ç K "_law_good_table" wm fu40 eu40)
 (d41:Ç K "_law_many" JX fu41 eu41)
 (d42:Ç K "_law_way" We fu42 eu42)
 (d43:Ç K "_law_one_right" wF fu43 eu43)
 (d44:Ç K "_law_ways_right" wn fu44 eu44)
 (d45:Ç K "_law_more_right" wo fu45 eu45)
 (d46:Ç K "law" DK fu46 eu46)
 {tk0:Tok}(v0:gQ K O6 "MOST_ROWS" =some (some (.int 6 tk0)))
 {tk1:Tok}(v1:gQ K O6 "MOST_TABLES" =some (some (.int 3 tk1)))
 {tk2:Tok}(v2:gQ K O6 "MOST_ROWS_OF_SEVERAL" =some (some (.int 3 tk2)))
 {tk3:Tok}(v3:gQ K O6 "MOST_WAY" =some (some (.int 60 tk3)))
 {tk4:Tok}(v4:gQ K O6 "MOST_PLACES" =some (some (.int 600 tk4)))
 (z:zsB K=true)
 : ∃fd:M9,(∀ (s:G6) (v:G3),rY s fd ⟨[v],[]⟩ [("_law_script",v)])/\ ∀base:L8,K.In base->base.Ns O6 mg->Bm mg base->Ë l.prog w K mg base á 11 fa fd ["_law_script"] (ä K RY):=by
 have e:=hfa.symm.trans (d46.nm X G);cases e;have Za: ∃tk,mg "MOST_ROWS" =some (.int 6 tk):=⟨_,f8 X G v0⟩;have vw: ∃tk,mg "MOST_TABLES" =some (.int 3 tk):=⟨_,f8 X G v1⟩;have zh: ∃tk,mg "MOST_ROWS_OF_SEVERAL" =some (.int 3 tk):=⟨_,f8 X G v2⟩;have Wn: ∃tk,mg "MOST_WAY" =some (.int 60 tk):=⟨_,f8 X G v3⟩;have vt: ∃tk,mg "MOST_PLACES" =some (.int 600 tk):=⟨_,f8 X G v4⟩;have Z:=KC X G z;obtain⟨_,_,kV,dc,pm,an,cd,ct,_,rfl,_⟩:=d46.fn.ex;refine⟨cF "law" "law" (vH DK) (wz DK) (jd DK) .none kV dc pm an cd ct,λs v=> .of_eq rfl,λbase _ _ B=> ?_⟩;have VY:=λn=>d0.cal l w base X G (GG (n:=n+0) Z d0.fn)
 have GX:=λn=>d1.cal l w base X G (Qr (n:=n+1) Z d1.fn (VY (n+0)))
 have DZ:=λn=>d2.cal l w base X G (GH (n:=n+2) Z d2.fn (GX (n+0)))
 have QL:=λn=>d3.cal l w base X G (UP (n:=n+3) Z d3.fn (DZ (n+0)))
 have AR:=λn=>d4.cal l w base X G (Fp (n:=n+0) Z d4.fn)
 have PY:=λn=>d5.cal l w base X G (NM (n:=n+4) Z d5.fn (QL (n+0)))
 have Vp:=λn=>d6.cal l w base X G (YO (n:=n+1) Z d6.fn (VY (n+0)))
 have wG:=λn=>d7.cal l w base X G (Wf (n:=n+2) Z d7.fn (Vp (n+0)) Za)
 have yy:=λn=>d8.cal l w base X G (UQ (n:=n+3) Z d8.fn (wG (n+0)))
 have zb:=λn=>d9.cal l w base X G (Vh (n:=n+3) Z d9.fn (wG (n+0)) vw zh)
 have Ra:=λn=>d10.cal l w base X G (GJ (n:=n+5) Z d10.fn (PY (n+0)) Wn)
 have WC:=λn=>d11.cal l w base X G (UR (n:=n+0) Z d11.fn)
 have YZ:=λn=>d12.cal l w base X G (WH (n:=n+0) Z d12.fn)
 have Bg:=λn=>d13.cal l w base X G (DL (n:=n+4) Z d13.fn (yy (n+0)) (WC (n+3)))
 have YX:=λn=>d14.cal l w base X G (AF (n:=n+4) Z d14.fn (yy (n+0)))
 have Ws:=λn=>d15.cal l w base X G (Fq (n:=n+4) Z d15.fn (yy (n+0)))
 have FC:=λn=>d16.cal l w base X G (NO (n:=n+4) Z d16.fn (yy (n+0)))
 have zY:=λn=>d17.cal l w base X G (Vi (n:=n+5) Z d17.fn (Ws (n+0)) (WC (n+4)))
 have ZE:=λn=>d18.cal l w base X G (JZ (n:=n+6) Z d18.fn (Ws (n+1)) (zY (n+0)))
 have GW:=λn=>d19.cal l w base X G (Qt (n:=n+7) Z d19.fn (ZE (n+0)))
 have ZD:=λn=>d20.cal l w base X G (Vj (n:=n+6) Z d20.fn (YZ (n+5)) (zY (n+0)))
 have zM:=λn=>d21.cal l w base X G (Wg (n:=n+6) Z d21.fn (Ws (n+1)) (zY (n+0)))
 have Be:=λn=>d22.cal l w base X G (DM (n:=n+0) Z d22.fn)
 have wK:=λn=>d23.cal l w base X G (vW (n:=n+5) Z d23.fn (YX (n+0)) (Be (n+4)))
 have Bd:=λn=>d24.cal l w base X G (Fx (n:=n+7) Z d24.fn (zb (n+3)) (Ra (n+1)) (ZD (n+0)))
 have Wr:=λn=>d25.cal l w base X G (GM (n:=n+7) Z d25.fn (zb (n+3)) (zM (n+0)) (YX (n+2)))
 have yl:=λn=>d26.cal l w base X G (WI (n:=n+7) Z d26.fn (zb (n+3)) (zM (n+0)) (wK (n+1)))
 have Xc:=λn=>d27.cal l w base X G (Vk (n:=n+8) Z d27.fn (GW (n+0)) (YX (n+3)))
 have QM:=λn=>d28.cal l w base X G (UV (n:=n+6) Z d28.fn (YX (n+1)) (zY (n+0)))
 have YY:=λn=>d29.cal l w base X G (WJ (n:=n+7) Z d29.fn (zb (n+3)) (PY (n+2)) (QM (n+0)) (ZD (n+0)) vt)
 have Vq:=λn=>d30.cal l w base X G (YR (n:=n+0) Z d30.fn)
 have Xd:=λn=>d31.cal l w base X G (Vl (n:=n+7) Z d31.fn (zb (n+3)) (zM (n+0)) (wK (n+1)) (Vq (n+6)))
 have Bf:=λn=>d32.cal l w base X G (DO (n:=n+5) Z d32.fn (YX (n+0)) (Ws (n+0)) (wG (n+2)))
 have Xb:=λn=>d33.cal l w base X G (Vm (n:=n+6) Z d33.fn (zb (n+2)) (Bf (n+0)) (AR (n+5)) (Ws (n+1)) (zY (n+0)))
 have DY:=λn=>d34.cal l w base X G (GN (n:=n+7) Z d34.fn (zb (n+3)) (zM (n+0)) (YX (n+2)))
 have GU:=λn=>d35.cal l w base X G (Qu (n:=n+0) Z d35.fn)
 have DV:=λn=>d36.cal l w base X G (GO (n:=n+0) Z d36.fn)
 have yk:=λn=>d37.cal l w base X G (Qw (n:=n+0) Z d37.fn)
 have QK:=λn=>d38.cal l w base X G (UW (n:=n+1) Z d38.fn (yk (n+0)))
 have QJ:=λn=>d39.cal l w base X G (UX (n:=n+1) Z d39.fn (yk (n+0)))
 have Wo:=λn=>d40.cal l w base X G (Zz (n:=n+2) Z d40.fn (QJ (n+0)) (yk (n+1)))
 have GV:=λn=>d41.cal l w base X G (Qx (n:=n+3) Z d41.fn (yk (n+2)) (QK (n+1)) (Wo (n+0)))
 have DW:=λn=>d42.cal l w base X G (GP (n:=n+1) Z d42.fn (yk (n+0)))
 have WL:=λn=>d43.cal l w base X G (Wi (n:=n+9) Z d43.fn (Xc (n+0)) (Wr (n+1)) (yl (n+1)))
 have Wq:=λn=>d44.cal l w base X G (ZA (n:=n+8) Z d44.fn (DY (n+0)) (Wr (n+0)) (Xd (n+0)) (yl (n+0)) (YY (n+0)) (Bd (n+0)) (Xb (n+1)) (YX (n+3)))
 have Wp:=λn=>d45.cal l w base X G (ZB (n:=n+8) Z d45.fn (FC (n+3)) (Bd (n+0)) (Ws (n+3)) (Bg (n+3)) (Wr (n+0)) (yl (n+0)))
 exact TR (n:=10) Z d46.fn (GU 9) (DV 9) (GV 6) (DW 8) (WL 0) (Wp 1) (Wq 1)
end My
namespace PySem.W.Fast
def tw1183598350385475630:=()
def tw1955151713839207517:=()
def tw3779523404740585452:=()
def tw2394160787302462123:=()
def tw7549939546098270802:=()
def tw654069520314490915:=()
def tw11323806730944190864:=()
def tw14965841934095008863:=()
def tw9605514920638549936:=()
def tw7928375831727660510:=()
def tw15964484493675457985:=()
def tw8492288144691285713:=()
def tw3502377049902406192:=()
def tw2336135487493992430:=()
def tw3623121453925854883:=()
def tw14187627502709110834:=()
def tw6233862119836125861:=()
def tw17663134378861372432:=()
def tw2854690307504210215:=()
def tw16174214553098833010:=()
def tw1339929968068846579:=()
def tw10693962005830693397:=()
def tw9018511763293897798:=()
def tw4837451606197077327:=()
def tw12262637657382842583:=()
def tw6866484949727634610:=()
def tw8133522472912286387:=()
def tw11695635335693116811:=()
def tw7501209611861371085:=()
def tw16431009707974630490:=()
def tw2746938076783461349:=()
def tw16288489839979626714:=()
def tw11734156895286151182:=()
def tw6173220477754816971:=()
def tw14908627486815993058:=()
def tw14631194149420825639:=()
def tw7745912933829310316:=()
def tw10223667916677075867:=()
def tw12695737112920530504:=()
def tw3386037602907962700:=()
def tw14130639175432674669:=()
def tw3904467574587617314:=()
def tw1362941601860278749:=()
def tw10023943031342666848:=()
def tw3778573350921539792:=()
def tw4869162874283385884:=()
def tw18102693553288629062:=()
def tw8982556066743269527:=()
def tw11570552541634942948:=()
def tw5090085723491019501:=()
def tw736349445958142756:=()
def tw14088842207744852319:=()
def tw14137031024756962031:=()
def tw1289495747642659911:=()
def tw11033605738537731658:=()
def tw14330688297012059459:=()
def tw15352681767019878177:=()
def tw9562065746836252923:=()
def tw6526438979136348691:=()
def tw2084242424184583547:=()
def tw9762266186604217874:=()
def tw14571311749599461834:=()
def tw17450708067715049092:=()
def tw8700913576106462302:=()
def tw10125359698583334545:=()
def tw14752652948868912411:=()
def tw4101602275422306103:=()
def tw3313493904359003756:=()
def tw1732893140970946189:=()
def tw16479056623787236176:=()
def tw6185850338322085348:=()
def tw230783176556436428:=()
def tw6353310622891712915:=()
def tw3172953587123515521:=()
def tw2117145782952617072:=()
def tw15558638800785895064:=()
def tw8574211061751470996:=()
def tw9631027916340240261:=()
def tw3676385793294870124:=()
def tw10605525527701069113:=()
def tw3450178677539536132:=()
def tw7694537600579231394:=()
def tw16637433601560278105:=()
def tw14768583594157875830:=()
def tw10086375967492419362:=()
def tw17305287677946506886:=()
def tw18163749242743273365:=()
def tw5314341533580018495:=()
def tw952728929067209087:=()
def tw12010474494833812143:=()
def tw17127752327985692645:=()
def tw14970331234774920079:=()
def tw13607530987594072890:=()
def tw520045703721195145:=()
def tw6702301268069066232:=()
def tw17343705441721925928:=()
def tw16352548066146636932:=()
def tw9431471004186137566:=()
def tw16600313208514258097:=()
def tw15550788438654929538:=()
def tw1682835314585662629:=()
def tw2498149167125626540:=()
def tw908192329361338865:=()
def tw3569814770412626092:=()
def tw11022250101127578443:=()
def tw2295703606065536109:=()
def tw13244571158915737067:=()
def tw4128728351420894170:=()
def tw5424544649321590037:=()
def tw13128665588685344125:=()
def tw16466980741855710543:=()
def tw11154964881589254370:=()
def tw530973063948582063:=()
def tw9750522947963922560:=()
def tw14968575600071268837:=()
def tw15523893661441637615:=()
def tw11507054469801277883:=()
def tw5299106766376386374:=()
def tw3631373251588682828:=()
def tw6610071993715293107:=()
def tw10925248064731239039:=()
def tw11496362521861361387:=()
def tw14919562357119409389:=()
def tw7373684498288523994:=()
def tw14236321162122213018:=()
def tw5048326048978192128:=()
def tw17944643886292380028:=()
def tw3586276221800930385:=()
def tw1772596937765283286:=()
def tw1920720293092913092:=()
def tw8944235855733329315:=()
def tw4058434295200435952:=()
def tw13848886581472473354:=()
def tw6574196585824833304:=()
def tw17050857403445014569:=()
def tw15534363534216517031:=()
def tw10234027168729673192:=()
def tw1513515796201717535:=()
def tw8488770804195181615:=()
def tw13106826152238202926:=()
def tw2292248852514850440:=()
def tw13512531334307352126:=()
def tw2630876626107645666:=()
def tw8235502605116541399:=()
def tw13340981931209640647:=()
def tw7666720015807037739:=()
def tw7669284992766048730:=()
def tw13154850887580107685:=()
def tw15151459553142144777:=()
def tw14709637995575332913:=()
def tw11216782776828993409:=()
def tw7935202281704837164:=()
def tw15157734177486165008:=()
def tw8322634549854153868:=()
def tw17685199421970616885:=()
def tw8262234990550014304:=()
def tw9346030935069648525:=()
def tw11154567380293742746:=()
def tw11136057405901106725:=()
def tw6790891474353793315:=()
def tw13945878491465600119:=()
def tw12773298095875473644:=()
def tw9088444851493907474:=()
end PySem.W.Fast
open PySem PySem.W PyProof.Rows
set_option maxRecDepth 100000 in
set_option maxHeartbeats 0 in
theorem PySem.Challenge.cw_firstpowers_k79_whole_tables_in_any_orde_holds : PySem.Challenge.rw_firstpowers_k79_whole_tables_in_any_orde.Holds := by
  w_on; o_law; k_head; (case hw => w_witness2)
  k_fill
  refine L2.BU (l := PySem.Challenge.rw_firstpowers_k79_whole_tables_in_any_orde) (k := 11) (x := "_law_script") rfl rfl ⟨rfl, by decide, by decide, rfl⟩ (fun w h Y => PySem.W.kIn_of Y) ?B ?F
  case B => intro w; kernel_rfl
  case F =>
    intro w mg fa h KX G hmg
    refine' My.TU KX G hmg ?d0 ?d1 ?d2 ?d3 ?d4 ?d5 ?d6 ?d7 ?d8 ?d9 ?d10 ?d11 ?d12 ?d13 ?d14 ?d15 ?d16 ?d17 ?d18 ?d19 ?d20 ?d21 ?d22 ?d23 ?d24 ?d25 ?d26 ?d27 ?d28 ?d29 ?d30 ?d31 ?d32 ?d33 ?d34 ?d35 ?d36 ?d37 ?d38 ?d39 ?d40 ?d41 ?d42 ?d43 ?d44 ?d45 ?d46 ?v0 ?v1 ?v2 ?v3 ?v4 ?z
    case d0 | d1 | d2 | d3 | d4 | d5 | d6 | d7 | d8 | d9 | d10 | d11 | d12 | d13 | d14 | d15 | d16 | d17 | d18 | d19 | d20 | d21 | d22 | d23 | d24 | d25 | d26 | d27 | d28 | d29 | d30 | d31 | d32 | d33 | d34 | d35 | d36 | d37 | d38 | d39 | d40 | d41 | d42 | d43 | d44 | d45 | d46 => refine' L2.Ti ?a ?l ?c ?k; (case a => k_is); (case l => k_is); (case c => k_is); (case k => k_is)
    case v0 | v1 | v2 | v3 | v4 => k_is
    case z => kernel_rfl
