import PyProof.Rows.All
import Wide.All
import OpenK.AllK
import Wide.FinOn
import Lean
import PyProof.EqAt
import PyProof.EqKinds
import PyProof.TupleCall
import PyProof.Rows.TopTwo
import KE.KIsAll
import PyProof.ExcAttrAll.ValueError
import KE.KTryMore
import KE.KRevIter
import PyProof.SetRoads
import KE.KDictList
import PyProof.InstStoreFacts
import PySem.Challenge.RW_firstpowers_k72_lists_of_tables_refused
set_option Elab.async false
set_option linter.all false
set_option bootstrap.genMatcherCode false
set_option genSizeOf false
set_option maxRecDepth 100000
set_option maxHeartbeats 8000000
noncomputable section
open _root_ renaming List->G0,Nat->P0,Option->P1,Int->P4,if_neg->R9,decide_eq_false->S0,if_pos->S5,decide_eq_true->S6,Array->T7,Bool->N3,String->F7,of_decide_eq_true->E9,StateT->W8,exists_eq_left'->aE,ForInStep->dW,beq_self_eq_true->gK,if_true->gP,if_false->mF,of_decide_eq_false->pV,decide_eq_true_eq->qT,bne_self_eq_false->qZ,dif_pos->rE
open Option renaming some->zq,none->xa
open Bool renaming true->xb,false->xf
open PySem renaming wpAny_bind->xg,sizeLine->xh,mainGlobals->xi
open _root_ renaming absurd->xj,congrArg->xk
open False renaming elim->xn
open PySem renaming Value->G1,Shared->G2,Addr->G7,wpAny_pure->G8,starEach->P9,Program->D5,wpAny->D6,model->R3,wpAny_mono->R7,FuncData->R8,Expr->S2,Around->S4,foldedSetIterable->T5,World->T8,Heap->N8,compareOp->B8,wpAny_loadPart'->C0,wpAny_call_entry->F8,eval->L7,Stmt->L8,wpAny_callSpecial?_slot->O1,wpAny_holding->O8,Scope->A2,backTo->E3,mem_of_lookup->E4,wpAny_truthy_bool->E8,sysModules->J4,wpAny_execs_cons->J9,binaryOp->K6,PyData->K8,attributeBase->K9,bootBuiltins->Q5,cellsFrom->Q6,wpAny_newObj_type->Q8,swapsWith->U0,wpAny_standAt->U1,codeAny->U5,tupleKeyHash->V0,wpAny_Call_Name_kw->W0,DictEntry->W1,behindInMarks->W5,ofAClassStatement->X5,wpAny_specialOf->X7,Comprehension->Y4,wpAny_attempt->Y5,wpAny_setField_rec->Z5,holding->Z6,wpAny_passesOwn->aB,codeAny_mono->aG,Keyword->aI,rawInt->aS,keywordEach->aY,wpAny_execs_nil->bH,codeAny_builtin->bK,wpAny_callSpecialIfBoundUnlessNone?_slot->bQ,wpAny_notOrdered_dict->bR,wpAny_pyIter_list->bS,wpAny_newFunctionEnv_cells->bV,wpAny_field->bW,codeAny_call_builtin->bZ,wpAny_seqItems->cC,wpAny_isInstance->cM,Model->cN,wpAny_isSubtype_exc->cS,swapsWithSole->cU,swappedStores->cV,standAt->cZ,letOwnedTupleGo->c9,codeAny_of_tree->dB,assign->dF,assignEach->dG,wpAny_rule->dH,IsItemIter->dQ,sliceBounds->dU,atKey->dY,wpAny_isOneOf_itemiter->fO,codeAny_call_function->f7,builtinLookup_eq_fast->gB,wpAny_call->gF,typeLookup->gG,call_meets->gH,TriplesOk->gJ,checkBuiltinCall->gL,wpAny_loadName_local->gZ,backToKw->g7,hashByValue->g9,wpAny_ret_mkInt->iA,wpAny_typeOf->iI,PassesOwn->iJ,Fin->iK,builtinsNs->iM,closureFor->iW,IsTupleKey->j0,wpAny_pyHash_tuple->j5,wpAny_binaryOp_repeat_ref->j8,CmpOp->lD,sizeLine_eq->lE,getItem->lH,wpAny_sequenceKey->lI,wpAny_dictEntries->lN,wpAny_getItem_list_slice->lS,comprehension->lV,lastMarks->mD,noFill_tuple_add->mE,compTurn->mG,wpAny_askSetting->mH,codeAmong->mI,setField->mL,truthy->mP,pyNext->mQ,leaving->mR,IsPart->mS,typeIs_int->mU,reduceHash->mX,isInstance->m5,richCompare_meets_room->nB,typeLookup_type->nH,exec_Assign_Name_used->nK,isSubtype_tuple_tuple->nP,wpAny_isOneOf_keyiter->nQ,wpAny_bindName->nV,Result->nZ,subscripted->n5,lookup_relabel_local->n8,intBits_le_iff->oB,richCompare->oM,excClassObj->oN,wpAny_setField->oO,isSubtype_stop->oP,wpAny_pyIter_keyiter->oR,BindsTo->oU,Arguments->oV,callerA->oW,noteFrame->oX,eqIsQuiet->oY,wpAny_loadName_cell->oZ,assignInOrder->pB,seq_tuple_add->pE,evalPart_none->pF,wpAny_notedAt->pG,frameOf->pI,plainId_quiet->pK,wpAny_Name->pO,pyIter->pP,wpAny_eqBool_tuple->pW,wpAny_tupleItemsOf->pY,wpAny_classOwn_exc->pZ,wpAny_Return_some->qE,Operator->qF,wpAny_Assign_Name->qH,bindArgs->qL,name_of_addr->qM,codeAny_func->qN,concat_meets->qO,seqIndex_neg->qP,wpAny_pyIter_enum->qW,entryPlaceOf->qX,wpAny_cRoomFor_or->rG,callSpecial?->rH,wpAny_pyIter_slot->rJ,seqSlot_of->rT,lookupAlong_cons->sB,bindL->sI,bindC->sJ,seqIndex_of->sK,pushCells_keeps->sS,theTreesLotGoes->sV,wpAny_mroOf_exc->tI,setItem->tO,wpAny_Expr_any->tV,bindName->tW,wpAny_load->tX,fitsIndex_both->uA,call->uB,newFunctionEnv->uC,compEnvC->uD,behindIsImport->uF,boundAndCalled->uH,wpAny_newTuple->uI,refuseLoop_ref->uJ,wpAny_runValue->uL,intBits_le_64->uS,evalPart_some->uV,eval_ListComp->u0,wpAny_newList->v9,typeLookup_eq->w8,IsItemIterOut->xD,storeName->xG,setFlight->xK,Within->xP,callFunction->xT,interactive->y6,IsRangeIter->y8,wpAny_Slice->IC,compPost->IF,raiseNew->IH,readyFrames->IJ,storedH_new->IR,wpAny_letGo->IS,entryOfKey->IV,typeIs_str->G0a,seqRepeat?->G0c,preSum->G0d,newObjAsIs->G0e,release->G0k,getAttr->G0n,operate->G0r,newList->G0s,setAttr->G0t,newDict->G0v,findBy->G0L,data2->G0N,Params->G0O,stored->G0P,cellOf->G0Q
open PySem.W renaming Frag->G3,keepIn->J8,kia_one->Q0,hideAll_none->U4,hideAll_get->V1,hideAll->V4,fnOf->W7,cellsFrom_some->bF,of_hideAll->dE,callWith_K->dI,codeIn->eB,nsIn->fT,tabIn->gR,kitOne->iQ,codeRec_of->iT,methodObj->lC,mg_of->mC,instObj->nE,kat_nil->nI,lookIn->nX,tabObj->oA,kitx_list->qI,kitx_dict->qJ,plainGet->rP,codeHdIn->sG,OpenLaw->sW,findIn->tY,CodeHd->uE,kdl_hint_dict->x5,hideAll_size->y4,kitx_float->IY,kitx_tuple->IZ,ki_setBack->G0b,kdl_extend->G0i,hasDictIn->G0l,plainOver->G0m,specialIn->G0o,kitx_none->G0p,kitx_bool->G0q,eq_bytes->G0w,ne_bytes->G0x,kitx_int->G0y,kitx_str->G0z,kitx_own->G0A,ki_setAt->G0B,kcp_self->G0C,krv_pick->G0D,kat_cons->G0F,kdl_call->G0G,takesIn->G0H,KatTups->G0I,kat_yes->G0J,kat_one->G0K,InstAt->G0M,tab_of->G0R,KatLex->G0U,kat_no->G0V,kat_lt->G0W,KdlSrc->G0X,mroIn->G00,WalkO->G01
open List renaming getElem?_eq_getElem->G5,length_map->G6,mem_singleton->P2,length_append->P3,mem_of_getElem?->P5,getElem?_eq_some_iff->P8,append_assoc->D0,getElem?_map->D1,mem_append_right->D3,length_cons->D8,mem_append->D9,mem_cons_self->R1,size_toArray->R4,mem_cons->R5,range->R6,length_take->S1,take_of_length_le->S3,map_cons->S9,getD_eq_getElem?_getD->T3,map_append->T9,mem_cons_of_mem->M5,take_append_drop->M7,replicate->M8,map_map->M9,getElem?_append_right->N4,mem_map->N5,length_reverse->N6,getElem_mem->N9,pairwise_append->B1,length_range->B3,length_nil->B6,length_drop->C6,getElem?_append_left->C7,not_mem_nil->F9,all_eq_true->H0,take_add_one->L5,mem_of_mem_take->L6,mem_append_left->O0,nil_append->O2,mem_range->O4,map_congr_left->O5,mem_of_mem_drop->A1,mem_filter->A4,append_nil->A5,lookup_cons->A6,drop_eq_nil_of_le->A9,pairwise_singleton->E5,filter_cons_of_neg->E6,filter_cons_of_pos->E7,getElem?_set_ne->J0,cons_append->K0,mem_reverse->K1,contains_iff_mem->K3,getElem?_cons_zero->K5,length->K7,find?_cons->Q4,extract_eq_drop_take->Q7,take_sublist->Q9,drop_sublist->U7,reverse_perm->U9,replicate_succ->V2,nodup_cons->V5,getElem?_eq_none->V8,length_filter_le->V9,take_length->W3,getElem?_take_of_lt->W6,drop_append_of_le_length->W9,take_append_of_le_length->X0,flatten_cons->X3,filterMap_cons->X9,getElem?_range->Y0,getElem_of_mem->Y1,getElem?_set_self->Y2,drop_drop->Z0,zip_cons_cons->Z4,mem_of_find?_eq_some->aA,forIn_cons->aC,map_nil->aJ,nodup_append->aN,length_eq_zero_iff->aU,getElem?_cons_succ->aX,eq_nil_of_length_eq_zero->aZ,mem_filterMap->bE,perm_append_comm->bO,getElem?_reverse->bP,all_map->cJ,pairwise_iff_getElem->cP,map_take->cX,of_mem_zip->dA,range_succ->dD,pairwise_cons->dJ,getElem?_drop->dN,find?_eq_none->dP,getElem?_replicate->dR,getElem?_set->eO,reverse_cons->eU,flatMap_cons->fA,take_zero->fE,ext_getElem?->fJ,eraseIdx_eq_take_drop_succ->fX,length_singleton->f8,pairwise_reverse->gA,find?_some->iB,mem_map_of_mem->iD,flatMap_append->iE,drop_zero->i3,nodup_nil->j6,getElem?_eq_none_iff->k9,foldl_append->lO,pairwise_map->lQ,any_cons->lU,perm_middle->mK,range_succ_eq_map->mY,getElem_of_append->m9,length_replicate->nJ,set_append_right->nN,drop_take->oF,take_take->oG,getLast?_concat->oH,take_succ_cons->o4,filter_eq_self->o7,length_take_le->o9,map_drop->pH,filter_append->p0,set_cons_succ->qA,set_cons_zero->qB,any_map->qS,getElem_take->rC,getElem_drop->rD,zip_nil_left->rL,filter_congr->rN,any_eq_true->rV,append_cons->rX,take_append->sH,map_id->sM,length_set->sP,foldl_cons->sQ,sum_append->sZ,filter_nil->tN,foldl->t8,take_succ->uK,all_cons->u3,map->G0Y,any->G0Z
open PySem.Heap renaming get?_push_of_some->G9,lt_size->D7,get?_push_size->S7,get?_update_other->J5,SameBut->aF,get?_update_self->bM,get?_none_of_le->bU,size_push->bY,get?_push_at->lK,FlyingW->mZ,get?_update_ne->o5,MadeExcOf->uG
open PySem.Str renaming ofString->P6,empty->xH
open Nat renaming le_refl->P7,lt_of_lt_of_le->S8,le_of_lt->T6,le_trans->M1,ne_of_lt->M6,zero_le->B0,lt_irrefl->O7,min_eq_left->A7,lt_of_le_of_ne->J7,ne_of_gt->K4,lt_of_le_of_lt->U2,le_of_eq->U6,lt_of_succ_lt->U8,min_le_right->Y6,le_add_left->aD,lt_succ_self->aT,le_add_right->aV,not_lt->bG,one_pos->cA,lt_trans->cI,zero_add->cL,add_le_add_left->cQ,add_sub_cancel'->cR,sub_lt->dL,pos_of_ne_zero->dM,add_sub_cancel_left->dX,lt_of_succ_le->eQ,succ_le_of_lt->fH,le_of_not_lt->gI,succ_le_succ->gM,add_right_comm->i9,lt_succ_of_lt->lJ,add_assoc->l8,min_eq_right->mJ,sub_self->m7,add_zero->m8,le_succ->oC,mul_comm->qR,sub_zero->qV,sub_pos_of_lt->rB,le_succ_of_le->rF,succ_lt_succ->r9,max_eq_left->tE,min_le_left->tG,lt_succ_iff->tL,le_antisymm->tM,succ_mul->xR,succ_pos->xU,pow_succ->xX,lt_or_ge->xY,sub_le->G0f,mod_lt->G0j,succ->G0T
open Bool renaming false_ne_true->D2,and_eq_true->B7,false_eq_true->Y9,eq_iff_iff->bI,eq_false_iff->bT,false_and->dZ,true_and->gY,or_eq_true->hO,not_true->l9,or_eq_false_iff->n9,not_eq_true'->qY,false_bne->uM
open PyProof.Rows renaming Keyed->D4,arrOf->T4,pendingOf->B2,SortSt->C5,envOfC->K2,slot_tuple_getitem->V6,callWith_type1->Y3,boot_all->Z7,failedOf->aL,boot_isinstance->bJ,AllBare->iG,assignInOrder_cons->iN,subscriptTail->lR,subscriptTail_builtinR->mT,IntsAre->mW,seqObj->oJ,entry_tuple_getitem->o3,args_tuple_getitem->pR,Subscript_->pT,isTrue_plain->qC,assignInOrder_nil->qG,callWith_builtin1->rQ,get?_update_seq->tF,slicePart_none->tZ,tupleItemsOf_->uU,reverseSlice'->v6,listUpdate_at->v7,IsTup->y3,tail_any->IE,mergeAt'->IL,binarySort'->IM,keyKind'->IN,seqEpoch_at->IP,recsOf->IT,lt_int->IU,isTrue_and->IW,boot_range->IX,setPending->G0g,tuples'->G0u
open Array renaming length_toList->N0,getElem?_toList->C4,toList_append->F4,forIn_toList->U3,toList_push->aK,toList_extract->aM,getElem?_eq_some_iff->cE,getElem?_eq_none_iff->cF,toList_reverse->g8,isEmpty_eq_false_iff->i0,toList_setIfInBounds->i8,size_setIfInBounds->lW,eraseIdxIfInBounds->mB,toList_eraseIdx->nO,toArray_toList->oK,find?_toList->pQ,toList->qD,isEmpty_iff->qU,isEmpty->xF
open PySem.Value renaming ref->N7,int->gC,none->gE,builtin->gV,isInt->nU,str->oS,bool->pL,type->pN,isStrOf->uR,float->x8
open PySem.PyData renaming depthAll->B9,canLayAll0->C3,eqv->C8,canLay0->A8,depth->J6,eqvAll->Q1,str->cG,int->i4,bool->sN
open Option.some renaming inj->C9,injEq->X6
open Option renaming map_eq_some_iff->L0,isSome_iff_exists->O9,map_some->bL,getD_some->cK,map_eq_none_iff->fM,isNone_iff_eq_none->j9,isSome_map->rK,getD_none->rR
open PySem.PassesOwn renaming never->L9
open PySem.F renaming slot_dict_keyiterator_next->O3,args_dict_keyiterator_next_1->W4,slot_dict_itemiterator_next->X1,entry_dict_keyiterator_next->X2,plainAttrs_list->X4,args_tuple_add_2->cW,entry_tuple_add->dS,slot_tuple_add->eJ,slot_tuple_hash->fK,args_dict_itemiterator_next_1->fV,entry_dict_itemiterator_next->gO,slot_int_rmul->hJ,excBase_ValueError->i5,slot_list_count->mM,slot_dict_items->mO,slot_dict_items_iter->nC,entry_bexc_ga->nM,args_bexc_ga->oE,args_tuple_hash_1->o6,slot_dict_delitem->o8,entry_tuple_hash->pX,args_int_rmul_2->qQ,plain_list_iadd->rM,entry_int_rmul->rS,slot_dict_iter->sD,fills_int_mul->sR,slot_dict_len->tK,attrBase_ValueError->tQ,args_list_count_2->uO,args_dict_items_1->uQ,slot_list_append->u4,type_list_append->u5,slot_list_insert->u6,type_list_insert->u7,entry_list_count->u9,store_ValueError->xA,slot_list_extend->xB,type_list_extend->xC,entry_dict_items->xE,slot_list_index->xI,type_list_index->xJ,type_list_count->xL,args_tuple_lt_2->xM,plainAttrs_dict->xN,type_dict_items->xO,entry_tuple_lt->xV,args_list_lt_2->xW,slot_tuple_lt->x3,entry_list_lt->x4,slot_list_lt->IQ
open Ne renaming symm->O6
open PySem.NameKind renaming free->A0,cell->aQ
open Or renaming inl->A3,inr->aR
open Function renaming comp_apply->V3,comp_def->fB
open PySem.Builtin.Tuple renaming tupleHashOf->V7,tupleItemsOf->Y8,tupleExact->aO,tupleIsExact->iY,tupleTooMany->iZ,tupleCompareSizes->rO
open ForInStep renaming yield->X8
open True renaming intro->Y7
open PySem.Builtin.Slice renaming slicePlaces->Z8,sliceAdjust->cO,sliceApplied->iU,slicePartIndex->sO,sliceFields->uN
open PySem.Sem renaming wp->Z9,wp_mono->II
open Int renaming toNat_natCast->aH,emod_nonneg->iC,fdiv_eq_ediv_of_nonneg->iO,fmod_eq_emod_of_nonneg->iP,emod_lt_of_pos->j7,lt_of_le_of_lt->pU,toNat->sE,natCast_emod->sF,pow_pos->sL,natCast_add->tD,le_of_lt->xS,ne_of_gt->xZ,pow_add->IG
open PySem.Builtin.List renaming listTooLong->aP,listFitsIndex->iV,listExtendWith->tU
open PySem.pyHashByItsType renaming reduced->aW
open PySem.Obj renaming mapSeq->bX,data_mapDictKeys->oQ
open PySem.Around renaming under_plainId->cB,frames_deeper->g6,under->iH
open Sum renaming inr->cH,inl->lB
open PySem.Manifest renaming signature?->cT
open PySem.Builtin.Dict_items renaming ownedTupleIsFree->cY,pairFromOwner->fQ,newIterator->sC,ownsTuple->tJ,dictOf->uP
open PySem.SetTable renaming sizeAbove->dO
open PySem.Builtin.SmallTypes renaming stopIteration->fC
open PyProof.Rows.LCg renaming lst->gQ
open PySem.EntryCells renaming newEntry->iF
open PySem.Calls renaming spliced_cons->iR,spliced_nil->lF,callWith_builtin->mV,evalArgs_plain->n6,Constant_str->u8
open PySem.Code renaming quiet_builtin->i6,isFrame->qK,call->sA,compLoop->uW,isGuard->xQ,frames->y9,guards->IA
open PySem.W.Looks renaming here->i7,of_pure->pJ,ld->IK,ld->G0E
open Decidable renaming byContradiction->lA
open List.Perm renaming trans->nG,append->rY,cons_inv->G0h,cons->G0S,nil->G02
namespace L2
open PySem PySem.Spec PyProof.Rows
abbrev Č:=Sum P4 Str
def Gx:Č->G1->N3
 | .inl k,v=>nU k v
 | .inr x,v=>uR x v
def Ks (w:T8):Č->P4
 | .inl k=>hashInt k
 | .inr x=>hashStr w x
def zb: ∀ {k:Č} {v:G1},Gx k v=xb->(∃i t,k=lB i/\v=gC i t)\/(∃x t,k=cH x/\v=oS x t)
 | .inl i,v,h=>by
  obtain⟨t,e⟩:=Value.isInt_shape (k:=i) (v:=v) h;exact .inl ⟨i,t,rfl,e⟩
 | .inr x,v,h=>by
  obtain⟨t,e⟩:=Value.isStrOf_shape (x:=x) (v:=v) h;exact .inr ⟨x,t,rfl,e⟩
def PD (i:P4)(t:Tok):Gx (.inl i) (.int i t)=xb:=by simp [Gx,nU]
def PF (x:Str)(t:Tok):Gx (.inr x) (.str x t)=xb:=by simp [Gx,uR]
def Os (a b:P4):decide ((lB a:Č)=lB b)=(a==b):=by
 by_cases e:a=b
 ·subst e;simp
 ·have h: ¬ (lB a:Č)=lB b:=λq=>e (Sum.inl.inj q)
  rw [S0 h];exact(beq_eq_false_iff_ne.mpr e).symm
def Ot (a b:Str):decide ((cH a:Č)=cH b)=decide (a=b):=by
 by_cases e:a=b
 ·subst e;simp
 ·have h: ¬ (cH a:Č)=cH b:=λq=>e (Sum.inr.inj q)
  rw [S0 h,S0 e]
def Ou (a:P4)(b:Str):decide ((lB a:Č)=cH b)=xf:=S0 (λq=>nomatch q)
def Ov (a:Str)(b:P4):decide ((cH a:Č)=lB b)=xf:=S0 (λq=>nomatch q)
def wQ (prog:D5)(w:T8):PySem.KeyKind prog w Č where
 is:=Gx
 hash:=Ks w
 inj:=λv a b ha hb=>by
  rcases zb ha with ⟨i,t,rfl,rfl⟩|⟨x,t,rfl,rfl⟩
  ·rcases zb hb with ⟨j,u,rfl,e⟩|⟨y,u,rfl,e⟩
   ·injection e with e1 _;rw [e1]
   ·exact nomatch e
  ·rcases zb hb with ⟨j,u,rfl,e⟩|⟨y,u,rfl,e⟩
   ·exact nomatch e
   ·injection e with e1 _;rw [e1]
 byValue:=λk v h=>by
  rcases zb h with ⟨i,t,rfl,rfl⟩|⟨x,t,rfl,rfl⟩<;>rfl
 pyHash:=λhv h=>by
  rcases zb hv with ⟨i,t,rfl,rfl⟩|⟨x,t,rfl,rfl⟩
  ·exact wpAny_pyHash_int h
  ·exact wpAny_pyHash_str h
 eqBool:=λhu hv h=>by
  rcases zb hu with ⟨i,t,rfl,rfl⟩|⟨x,t,rfl,rfl⟩
  ·rcases zb hv with ⟨j,u,rfl,rfl⟩|⟨y,u,rfl,rfl⟩
   ·rw [Os] at h;exact wpAny_eqBool_int h
   ·rw [Ou] at h;exact SeqAt.EqAt.int_str i t y u _ _ _ _ h
  ·rcases zb hv with ⟨j,u,rfl,rfl⟩|⟨y,u,rfl,rfl⟩
   ·rw [Ov] at h;exact SeqAt.EqAt.str_int x t j u _ _ _ _ h
   ·rw [Ot] at h;exact wpAny_eqBool_str h
 «strs» :=λk x t v h=>by
  rcases zb h with ⟨i,u,rfl,e⟩|⟨y,u,rfl,e⟩
  ·exact nomatch e
  ·injection e with e1 _
   subst e1;cases v<;>rfl
def Xy (prog:D5)(w:T8)(i:P4)(t:Tok):(wQ prog w).is (.inl i) (.int i t)=xb:=PD i t
def Xz (prog:D5)(w:T8)(x:Str)(t:Tok):(wQ prog w).is (.inr x) (.str x t)=xb:=PF x t
inductive V where
 |non|bl (b:N3)|int (i:P4)|str (x:Str)|byt (b:T7 UInt8)|flt (b:UInt64)|ref (a:G7)|ty (n:F7)
 deriving DecidableEq
def RelV:V->G1->Prop
 | .non,u=>u=gE
 | .bl b,u=>u=pL b
 | .int i,u=> ∃t,u=gC i t
 | .str x,u=> ∃t,u=oS x t
 | .byt b,u=> ∃t,u=Value.bytes b t
 | .flt b,u=> ∃t,u=x8 b t
 | .ref a,u=>u=N7 a
 | .ty n,u=>u=pN n
abbrev Æ:G0 V->G0 G1->Prop:=Paired RelV
variable {us:G0 G1}
def Æ.length {xs:G0 V}(r:Æ xs us):xs.length=us.length:=Paired.length r
def Æ.get: ∀ {xs:G0 V} {us:G0 G1} {i:P0} {x:V},Æ xs us->xs[i]? =zq x-> ∃u,us[i]? =zq u/\RelV x u
 |_,_,_,_,.nil,e=>by simp at e
 |_,_,0,_,.cons r _,e=>by simp at e;subst e;exact⟨_,rfl,r⟩
 |_,_,i+1,x,.cons _ t,e=>by
  obtain⟨u,h1,h2⟩:=Æ.get (i:=i) (x:=x) t (by simpa using e);exact⟨u,by simpa using h1,h2⟩
variable {u:G1}
def Æ.set {x:V}(r:RelV x u): ∀ {xs:G0 V} {us:G0 G1} (i:P0),Æ xs us->Æ (xs.set i x) (us.set i u)
 |_,_,_,.nil=> .nil
 |_,_,0,.cons _ t=> .cons r t
 |_,_,i+1,.cons q t=> .cons q (Æ.set r i t)
def Æ.append: ∀ {xs ys:G0 V} {us ws:G0 G1},Æ xs us->Æ ys ws->Æ (xs++ys) (us++ws)
 |_,_,_,_,.nil,s=>s
 |_,_,_,_,.cons r t,s=> .cons r (Æ.append t s)
def Æ.take: ∀ {xs:G0 V} {us:G0 G1} (n:P0),Æ xs us->Æ (xs.take n) (us.take n)
 |_,_,0,_=> .nil
 |_,_,_+1,.nil=> .nil
 |_,_,n+1,.cons r t=> .cons r (Æ.take n t)
def Æ.drop: ∀ {xs:G0 V} {us:G0 G1} (n:P0),Æ xs us->Æ (xs.drop n) (us.drop n)
 |_,_,0,r=>r
 |_,_,_+1,.nil=> .nil
 |_,_,n+1,.cons _ t=>Æ.drop n t
def Ő:P1 V->P1 G1->Prop
 |some v,zq u=>RelV v u
 |none,xa=>True
 |_,_=>False
def KV {κ:Type}:G0 (κ×V)->G0 (κ×G1)->Prop:=Paired λ(p:κ×V) (q:κ×G1)=>p.1=q.1/\RelV p.2 q.2
def kV:Č->V
 | .inl i=> .int i
 | .inr x=> .str x
inductive HO where
 /-- a list -/
 |lst (xs:G0 V)
 /-- a tuple (never changes) -/
 |tup (xs:G0 V)
 /-- a dict X06 keys are ints and texts;one X06 keys are tuples of ints and texts (ζ empty one is both) -/
 |dK (Ù:G0 (Č×V))|dT (Ù:G0 (G0 Č×V))
 /-- a set of ints: its members,its size -/
 |set (S:P4->N3) (n:P0)
 /-- an instance of ζ class at C,its dict at dx,its attributes -/
 |ins (C dx:G7) (fs:G0 (Str×V))
 /-- ζ dict of ζ instance at x -/
 |own (x:G7)
 /-- ζ dict of an exception -/
 |xd (fs:G0 (Str×V))
 /-- a bound method,f of x -/
 |met (f x:G7)
 /-- a range object lo,lo+1,.. below hi -/
 |rng (lo hi:P4)
 /-- a X0D X1M is known to ζ object (ζ script;a dict while a loop walks it):read,never written while it is so -/
 |frz (o:Obj) (u:HO)
 /-- a code object's table -/
 |tbl (ps:T7 G1)
 /-- any other X0D,by X0X is xb of its one object (a def of one's own: SetO a S n:=HO.ext λh=> ..) -/
 |ext (φ:N8->Prop)
abbrev Hp:=G7->P1 HO
def upd (H:Hp)(a:G7)(o:HO):Hp:=λb=>if b=a then zq o else H b
variable {H:Hp}{a:G7}{o:HO}
def jh:upd H a o a=zq o:=by unfold upd;rw [S5 rfl]
variable {b:G7}
def jf (h:b≠a):upd H a o b=H b:=by unfold upd;rw [R9 h]
def Ct {u:HO}:upd (upd H a o) a u=upd H a u:=by
 funext b;unfold upd;split<;>rfl
def Gy {u:HO}(h:H a=zq o)(h':H b=zq u)(d:o≠u):a≠b:=by
 intro e;subst e;rw [h] at h';exact d (C9 h')
def jm (h:H a=zq o)(h':H b=xa):a≠b:=by
 intro e;subst e;rw [h] at h';cases h'
def ö (h:N8)(a:G7)(items:T7 G1):Prop:= ∃o,h.get? a=zq o/\o.cls= .type "tuple" /\o.dict=xa/\ ∃n,o.data= .seq items n
def ö.tup {h:N8}{a:G7}{items:T7 G1}(x:ö h a items):y3 h a items:=let ⟨o,e,c,_,n,d⟩:=x;⟨o,e,c,n,d⟩
def ö.new (h:N8)(items:T7 G1):ö (h.push {cls:= .type "tuple",data:= .seq items}) h.objs.size items:=⟨_,S7 _ rfl,rfl,rfl,_,rfl⟩
section
variable (P:D5)(w:T8)
def Ô (H:Hp)(h:N8)(a:G7):HO->Prop
 | .lst xs=>xs.length<=xh/\ ∃ (its:G0 G1) (n:P0),Æ xs its/\h.get? a=zq {cls:= .type "list",data:= .seq its.toArray n}
 | .tup xs=>xs.length<=xh/\ ∃its:G0 G1,Æ xs its/\ö h a its.toArray
 | .dK Ù=>Ù.length<=xh/\(a==J4)=xf/\ ∃vs,KV Ù vs/\h.DictOf (wQ P w) a vs
 | .dT Ù=>Ù.length<=xh/\(a==J4)=xf/\ ∃xs:G0 (G0 Č×G7×G1),
  Paired (λ(p:G0 Č×V) (q:G0 Č×G7×G1)=>p.1=q.1/\H q.2.1=zq (.tup (p.1.map kV))/\RelV p.2 q.2.2) Ù xs/\
  ∃o es ep,h.get? a=zq o/\o.ExactDict/\o.data= .dict es ep/\es.toList=xs.map (IV (tupleKind (wQ P w)))/\(xs.map (·.1)).Nodup
 | .set S n=>h.SetOf (intKind P w) a S n
 | .ins C dx fs=>H dx=zq (.own a)/\fs.length<=1000/\dx≠a/\h.get? a=zq (nE C dx)/\
  ∃mA,h.Ns1 dx mA/\(∀f,Ő (fs.lookup f) (mA f))/\xP mA (fs.map (·.1))
 | .own _=> ∃o,h.get? a=zq o
 | .xd fs=> ∃mA,h.Ns1 a mA/\ ∀f,Ő (fs.lookup f) (mA f)
 | .rng lo hi=> ∃t u v,h.get? a=zq {cls:= .type "range",data:= .fields #[.int lo t,.int hi u,.int 1 v]}
 | .frz o u=>h.get? a=zq o/\Ô H h a u
 | .tbl ps=>h.get? a=zq {cls:= .none,data:= .fields ps}
 | .met f x=>h.get? a=zq (lC (.ref f) (.ref x))
 | .ext φ=>φ h/\(∃o,h.get? a=zq o)/\ ∀h1 h2:N8,φ h1->(∀o,h1.get? a=zq o->h2.get? a=zq o)->φ h2
def ă (H:Hp)(h:N8):Prop:= ∀a o,H a=zq o->Ô P w H h a o
end
section
variable {P:D5}{w:T8}{H H':Hp}{h h':N8}{a:G7}{o:HO}
def Ô.lt (x:Ô P w H h a o):a<h.objs.size:=by
 cases o with
 |lst xs=>obtain⟨_,_,_,_,e⟩:=x;exact D7 e
 |tup xs=>obtain⟨_,_,_,p⟩:=x;exact p.tup.lt
 |dK Ù=>obtain⟨_,_,_,_,o,_,_,e,_⟩:=x;exact D7 e
 |dT Ù=>obtain⟨_,_,_,_,o,_,_,e,_⟩:=x;exact D7 e
 |set S n=>obtain⟨o,_,_,_,e,_⟩:=x;exact D7 e
 |ins C dx fs=>obtain⟨_,_,_,e,_⟩:=x;exact D7 e
 |own y=>obtain⟨_,e⟩:=x;exact D7 e
 |xd fs=>obtain⟨_,⟨_,_,_,e,_⟩,_⟩:=x;exact D7 e
 |rng lo hi=>obtain⟨_,_,_,e⟩:=x;exact D7 e
 |frz ob u=>obtain⟨e,_⟩:=x;exact D7 e
 |tbl ps=>exact D7 (show h.get? a=zq _ from x)
 |met f y=>exact D7 (show h.get? a=zq _ from x)
 |ext φ=>obtain⟨_,⟨_,e⟩,_⟩:=x;exact D7 e
def Paired.mapP {α β:Type}{F G:α->β->Prop}: ∀ {l₁:G0 α} {l₂:G0 β},Paired F l₁ l₂->(∀a b,F a b->G a b)->Paired G l₁ l₂
 |_,_,.nil,_=> .nil
 |_,_,.cons r t,f=> .cons (f _ _ r) (Paired.mapP t f)
def Ô.stay (x:Ô P w H h a o)(k: ∀b u,(b=a\/H b=zq (.own a))->h.get? b=zq u->h'.get? b=zq u)
 (ho: ∀b,H b=zq (.own a)->H' b=zq (.own a))(ht: ∀b xs,H b=zq (.tup xs)->H' b=zq (.tup xs)):Ô P w H' h' a o:=by
 induction o with
 |lst xs=>obtain⟨z,its,n,r,e⟩:=x;exact⟨z,its,n,r,k _ _ (.inl rfl) e⟩
 |tup xs=>obtain⟨z,its,r,ob,e,c⟩:=x;exact⟨z,its,r,ob,k _ _ (.inl rfl) e,c⟩
 |dK Ù=>obtain⟨z,y,vs,r,ob,es,ep,e,c⟩:=x;exact⟨z,y,vs,r,ob,es,ep,k _ _ (.inl rfl) e,c⟩
 |dT Ù=>
  obtain⟨z,y,xs,r,ob,es,ep,e,c⟩:=x;exact⟨z,y,xs,Paired.mapP r λp q z=>⟨z.1,ht _ _ z.2.1,z.2.2⟩,ob,es,ep,k _ _ (.inl rfl) e,c⟩
 |set S n=>obtain⟨ob,es,ep,t,e,c⟩:=x;exact⟨ob,es,ep,t,k _ _ (.inl rfl) e,c⟩
 |ins C dx fs=>
  obtain⟨d,z,ne,e,mA,⟨od,es,ep,e2,c⟩,r⟩:=x;exact⟨ho _ d,z,ne,k _ _ (.inl rfl) e,mA,⟨od,es,ep,k _ _ (.inr d) e2,c⟩,r⟩
 |own y=>obtain⟨ob,e⟩:=x;exact⟨ob,k _ _ (.inl rfl) e⟩
 |xd fs=>obtain⟨mA,⟨od,es,ep,e,c⟩,r⟩:=x;exact⟨mA,⟨od,es,ep,k _ _ (.inl rfl) e,c⟩,r⟩
 |rng lo hi=>obtain⟨t,u,v,e⟩:=x;exact⟨t,u,v,k _ _ (.inl rfl) e⟩
 |frz ob u ih=>obtain⟨e,q⟩:=x;exact⟨k _ _ (.inl rfl) e,ih q⟩
 |tbl ps=>
  have e:h.get? a=zq {cls:= .none,data:= .fields ps}:=x;show h'.get? a=zq {cls:= .none,data:= .fields ps};exact k a _ (.inl rfl) e
 |met f y=>
  have e:h.get? a=zq (lC (.ref f) (.ref y)):=x;show h'.get? a=zq (lC (.ref f) (.ref y));exact k a _ (.inl rfl) e
 |ext φ=>obtain⟨p,⟨o,e⟩,st⟩:=x;exact⟨st _ _ p λo q=>k _ _ (.inl rfl) q,⟨o,k _ _ (.inl rfl) e⟩,st⟩
def ă.lt (x:ă P w H h)(e:H a=zq o):a<h.objs.size:=(x a o e).lt
def ă.fresh (x:ă P w H h)(e:h.objs.size<=a):H a=xa:=by
 cases q:H a with
 |none=>rfl
 |some u=>exact xj (S8 (x.lt q) e) (O7 _)
def ă.kept (x:ă P w H h)(k: ∀b u,h.get? b=zq u->h'.get? b=zq u):ă P w H h':=λa o e=>
 (x a o e).stay (λb u _ q=>k b u q) (λ_ q=>q) λ_ _ q=>q
def ă.laid (x:ă P w H h)(k: ∀b u,h.get? b=zq u->h'.get? b=zq u)(hp:h.objs.size<=a)(new:Ô P w (upd H a o) h' a o):ă P w (upd H a o) h':=λb u e=>by
 have hn:=x.fresh hp
 by_cases hb:b=a
 ·subst hb;rw [jh] at e;cases e;exact new
 ·rw [jf hb] at e;exact(x b u e).stay (λc v _ q=>k c v q) (λc q=>by rw [jf (jm q hn)];exact q) λc xs q=>by rw [jf (jm q hn)];exact q
end
def Rd (H:Hp)(a:G7)(u:HO):Prop:=H a=zq u\/ ∃o,H a=zq (.frz o u)
variable {P:D5}{w:T8}{h:N8}
def Rd.ok {u:HO}(r:Rd H a u)(x:ă P w H h):Ô P w H h a u:=by
 rcases r with r|⟨o,r⟩
 ·exact x a u r
 ·obtain⟨_,q⟩:=x a _ r;exact q
def Mut:P1 HO->Prop
 |some (.lst _)=>True
 |some (.dK _)=>True
 |some (.dT _)=>True
 |some (.set _ _)=>True
 |some (.ins _ _ _)=>True
 |some (.ext _)=>True
 |_=>False
section
variable {P:D5}{w:T8}{H:Hp}{h h':N8}{x e:G7}{o':HO}
def ă.write (ok:ă P w H h)(mu:Mut (H x))(he:e=x\/H e=zq (.own x))(k: ∀b u,b≠e->h.get? b=zq u->h'.get? b=zq u)(heo: ∃u,h'.get? e=zq u)
 (new:Ô P w (upd H x o') h' x o'):ă P w (upd H x o') h':=λb u q=>by
 have X1C: ∀c y,H c=zq (.own y)->c≠x:=λc y r z=>by subst z;rw [r] at mu;exact mu
 have X1N: ∀c xs,H c=zq (.tup xs)->c≠x:=λc xs r z=>by subst z;rw [r] at mu;exact mu
 by_cases hb:b=x
 ·subst hb;rw [jh] at q;cases q;exact new
 ·rw [jf hb] at q
  by_cases hbe:b=e
  ·have q':H b=zq (.own x):=by
    rcases he with z|z
    ·exact xj (hbe.trans z) hb
    ·rw [hbe];exact z
   rw [q] at q';cases q';obtain⟨v,hv⟩:=heo;exact⟨v,by rw [hbe];exact hv⟩
  ·refine(ok b u q).stay (λc v hc r=>k c v ?_ r) (λc r=>by rw [jf (X1C c b r)];exact r) λc xs r=>by rw [jf (X1N c xs r)];exact r
   rcases hc with rfl|hc
   ·exact hbe
   ·rintro rfl;rcases he with z|z
    ·exact X1C c b hc z
    ·rw [hc] at z;cases z;exact hb rfl
end
structure Un (fs ex:G0 G7)(H H':Hp)(h h':N8):Prop where
 keep: ∀b o,h.get? b=zq o->H b=xa->b ∉ fs->b ∉ ex->h'.get? b=zq o
 slot: ∀b o,h.get? b=zq o->H b=xa->b∈fs->b ∉ ex-> ∃sl,h'.get? b=zq {o with slots:=sl}
 free: ∀b o,h.get? b=zq o->H b=xa->b ∉ ex->H' b=xa
 there: ∀b o,h.get? b=zq o->b ∉ ex-> ∃o',h'.get? b=zq o'
 tups: ∀b xs,H b=zq (.tup xs)->H' b=zq (.tup xs)
 frzs: ∀b o u,H b=zq (.frz o u)->H' b=zq (.frz o u)
 tbls: ∀b ps,H b=zq (.tbl ps)-> ∃more,H' b=zq (.tbl (ps++more))
section
variable {fs fs' ex ex':G0 G7}{H H1 H2:Hp}{h h1 h2 h':N8}{a x e:G7}{o:HO}
def Un.any (u:Un fs ex H H1 h h1){b:G7}{ob:Obj}(q:h.get? b=zq ob)(n:H b=xa)(hx:b ∉ ex): ∃sl,h1.get? b=zq {ob with slots:=sl}:=by
 by_cases hb:b∈fs
 ·exact u.slot b ob q n hb hx
 ·exact⟨ob.slots,u.keep b ob q n hb hx⟩
def Un.kept (k: ∀b u,h.get? b=zq u->h'.get? b=zq u):Un fs ex H H h h':=
 ⟨λb ob q _ _ _=>k b ob q,λb ob q _ _ _=>⟨ob.slots,k b ob q⟩,λ_ _ _ n _=>n,λb ob q _=>⟨ob,k b ob q⟩,λ_ _ q=>q,λ_ _ _ q=>q,λ_ ps q=>⟨#[],by rw [q];simp⟩⟩
def Un.refl:Un fs ex H H h h:=Un.kept λ_ _ q=>q
def Un.laid (k: ∀b u,h.get? b=zq u->h'.get? b=zq u)(hp:h.objs.size<=a)(hn:H a=xa):Un fs ex H (upd H a o) h h' where
 keep:=λb u q _ _ _=>k b u q
 slot:=λb u q _ _ _=>⟨u.slots,k b u q⟩
 free:=λb u q n _=>by rw [jf (M6 (S8 (D7 q) hp))];exact n
 there:=λb u q _=>⟨u,k b u q⟩
 tups:=λb xs q=>by rw [jf (jm q hn)];exact q
 frzs:=λb u xs q=>by rw [jf (jm q hn)];exact q
 tbls:=λb ps q=>⟨#[],by rw [jf (jm q hn),q];simp⟩
def Un.write (mu:Mut (H x))(he:e=x\/H e=zq (.own x))(k: ∀b u,b≠e->h.get? b=zq u->h'.get? b=zq u)(heo: ∃u,h'.get? e=zq u):Un fs ex H (upd H x o) h h':=by
 have hx: ∀b,H b=xa->b≠x:=λb n z=>by subst z;rw [n] at mu;exact mu
 have hb: ∀b,H b=xa->b≠e:=λb n z=>by
  subst z;rcases he with r|r
  ·exact hx b n r
  ·rw [n] at r;cases r
 have hm: ∀b u,H b=zq u-> ¬Mut (zq u)->b≠x:=λb u q nm z=>by subst z;rw [q] at mu;exact nm mu
 refine⟨λb u q n _ _=>k b u (hb b n) q,λb u q n _ _=>⟨u.slots,k b u (hb b n) q⟩,λb u q n _=>by rw [jf (hx b n)];exact n,λb u q _=> ?_,
  λb xs q=>by rw [jf (hm b _ q λz=>z)];exact q,λb u xs q=>by rw [jf (hm b _ q λz=>z)];exact q,λb ps q=>⟨#[],by rw [jf (hm b _ q λz=>z),q];simp⟩⟩
 by_cases hbe:b=e
 ·subst hbe;exact heo
 ·exact⟨u,k b u hbe q⟩
end
def trk (h:N8)(H:Hp):G0 G7:=(R6 h.objs.size).filter λa=>(H a).isSome
def MG (h:N8)(H:Hp):N8:=V4 h (trk h H)
def PH (h:N8)(H:Hp):(MG h H).objs.size=h.objs.size:=y4 _ _
def YX {o:Obj}(e:h.get? b=zq o)(n:H b=xa):(MG h H).get? b=zq o:=
 V1 _ e λhm=>by
  have q:(H b).isSome=xb:=(A4.mp hm).2;rw [n] at q;simp at q
def Cu {o:Obj}(e:(MG h H).get? b=zq o):h.get? b=zq o/\H b=xa:=by
 have e':h.get? b=zq o:=dE (trk h H) e;refine⟨e',?_⟩;cases q:H b with
 |none=>rfl
 |some x=>
  have hm:b∈trk h H:=A4.mpr ⟨O4.mpr (D7 e'),by simp [q]⟩;have z:(MG h H).get? b=xa:=U4 (trk h H) hm;rw [z] at e;cases e
def Cv (g h:N8)(L:G7):G0 (G7×Obj):=(R6 h.objs.size).filterMap λa=>if a=L\/(g.get? a).isSome=xb then xa else (h.get? a).map λo=>(a,o)
def rest (g h:N8)(L d:G7):G0 (G7×Obj):=(Cv g h L).filter λp=>decide (p.1≠d)
structure Mod (K:G3)(mg:Str->P1 G1)(base:N8):Prop where
 kin:K.In base
 glob:base.Ns xi mg
 blt: ∃mb,base.Ns iM mb/\ ∀x:Str,x≠ "__name__" ->mb x=Q5 x
 nolimit:base.NoLimit
structure Cx where
 prog:D5
 w:T8
 K:G3
 mg:Str->P1 G1
 base:N8
 A:S4
 N:G0 Str
 s₀:G2
 H₀:Hp
 env:Env
 outer:G0 Env
 stack:G0 Env
 ex:G0 G7
 fn:Str->N3
 calm:N3
 pn:G0 (G7×Obj)
 xe:G1->G2->Prop
def ā (l:G0 Env):G0 G7:=l.filterMap (·.frame)
abbrev Cx.fs (X:Cx):G0 G7:=ā X.outer
def Vis (sc:A2)(x:Str):Prop:=sc.names.lookup x=zq .local\/sc.names.lookup x=zq .cell\/sc.names.lookup x=zq .free
def Loc (sc:A2)(x:Str):Prop:=sc.names.lookup x=zq .local\/sc.names.lookup x=zq .cell
def Kt (env:Env)(h:N8)(m:Str->P1 G1)(x:Str)(u:G1):Prop:=
 (env.kindOf x=zq .local/\m x=zq u)\/((env.kindOf x=zq .cell\/env.kindOf x=zq .free)/\ ∃c,env.cells.lookup x=zq c/\h.IsCell c (zq u))
structure Cx.Ok (X:Cx):Prop where
 mod:Mod X.K X.mg X.base
 kind:X.env.scope.kind= .function
 glob:X.env.globals=xi
 blt:X.env.builtins=iM
 above:X.s₀.heap.objs.size<=X.env.locals
 inj: ∀x y c,X.env.cells.lookup x=zq c->X.env.cells.lookup y=zq c->x=y
 has: ∀x,(X.env.kindOf x=zq .cell\/X.env.kindOf x=zq .free)-> ∃c,X.env.cells.lookup x=zq c
 cab: ∀x c,X.fn x=xb->X.env.cells.lookup x=zq c->X.s₀.heap.objs.size<=c
 hd:X.calm=xb->X.A.handled=xa
 frames:X.A.frames=zq X.stack
 stk:X.stack=X.outer\/(X.stack=X.env::X.outer/\X.env.frame=zq X.env.locals)
 exf: ∀b∈X.ex,b≠X.env.locals/\ ∀x c,X.env.cells.lookup x=zq c->c≠b
 bs: ∀b o,X.base.get? b=zq o->X.s₀.heap.get? b=zq o/\X.H₀ b=xa
 bsz:X.base.objs.size<=X.s₀.heap.objs.size
 noex: ∀b o,X.base.get? b=zq o->b ∉ X.ex
 exfs: ∀b∈X.ex,b ∉ X.fs
 funs:X.s₀.heap.FunFrames X.base X.outer
 frf: ∀b∈X.fs,X.H₀ b=xa
structure Inv (X:Cx)(À:G0 (G7×Obj))(σ:G0 (P1 V))(H:Hp)(s:G2):Prop where
 ok:X.Ok
 os:s.os=X.s₀.os
 bare:iG s.gens
 base:Un X.fs X.ex X.H₀ H X.s₀.heap s.heap
 loc: ∃m,s.heap.Ns X.env.locals m/\ ∀ (i:P0) (x:Str) (v:V),X.N[i]? =zq x->σ[i]? =zq (zq v)->Vis X.env.scope x-> ∃u,RelV v u/\Kt X.env s.heap m x u
 cell: ∀x c,X.env.cells.lookup x=zq c-> ∃v,s.heap.IsCell c v
 free:H X.env.locals=xa
 freeC: ∀x c,X.env.cells.lookup x=zq c->H c=xa
 pin: ∀p∈X.pn++À,s.heap.get? p.1=zq p.2/\H p.1=xa/\p.1≠X.env.locals/\p.1 ∉ X.fs/\ ∀v,p.2.data≠ .cell v
 hok:ă X.prog X.w H s.heap
 len:σ.length=X.N.length
section
variable {X:Cx}{À:G0 (G7×Obj)}{σ:G0 (P1 V)}{H H':Hp}{s:G2}{h':N8}
def Cx.Ok.nofr (ok:X.Ok){b:G7}{o:Obj}(e:X.base.get? b=zq o):b ∉ X.fs:=λhb=>by
 have:=(ok.funs.mem hb).1;rw [e] at this;cases this
def Inv.bs (I:Inv X À σ H s): ∀b o,X.base.get? b=zq o->s.heap.get? b=zq o/\H b=xa:=λb o e=>
 ⟨I.base.keep b o (I.ok.bs b o e).1 (I.ok.bs b o e).2 (I.ok.nofr e) (I.ok.noex b o e),I.base.free b o (I.ok.bs b o e).1 (I.ok.bs b o e).2 (I.ok.noex b o e)⟩
def Inv.bk (I:Inv X À σ H s): ∀b o,X.base.get? b=zq o->s.heap.get? b=zq o:=λb o e=>(I.bs b o e).1
def Inv.mod (I:Inv X À σ H s):Mod X.K X.mg X.base:=I.ok.mod
def Inv.kIn (I:Inv X À σ H s):X.K.In s.heap:=I.ok.mod.kin.keeps I.bk
def Inv.lt (I:Inv X À σ H s):X.env.locals<s.heap.objs.size:=let ⟨_,hn,_⟩:=I.loc;hn.lt
def Inv.sz (I:Inv X À σ H s):X.s₀.heap.objs.size<=s.heap.objs.size:=M1 I.ok.above (T6 I.lt)
def Inv.nofs (I:Inv X À σ H s){a:G7}(h:s.heap.objs.size<=a):a ∉ X.fs:=λhb=>by
 obtain⟨_,o,ho,_⟩:=I.ok.funs.mem hb;exact xj (S8 (D7 ho) (M1 I.sz h)) (O7 _)
def Inv.cne (I:Inv X À σ H s): ∀x c,X.env.cells.lookup x=zq c->c≠X.env.locals:=λx c e z=>by
 obtain⟨v,o,ho,hd⟩:=I.cell x c e;obtain⟨m,⟨o',es,ep,ho',ō,_⟩,_⟩:=I.loc;rw [z,ho'] at ho;cases ho;rw [ō] at hd;cases hd
def Inv.funs (I:Inv X À σ H s):s.heap.FunFrames X.base X.outer:=by
 have all: ∀ (l:G0 Env),(∀b∈ā l,b∈X.fs)->X.s₀.heap.FunFrames X.base l->s.heap.FunFrames X.base l:=by
  intro l
  induction l with
  |nil=>intro _ _;trivial
  |cons env r ih=>
   intro hs hl;obtain⟨hk,⟨L,o,hf,hn,ho,hd⟩,hr⟩:=hl;have hL:L∈X.fs:=hs L (by unfold ā;rw [X9,hf];exact R1);obtain⟨sl,e⟩:=I.base.slot L o ho (I.ok.frf L hL) hL λz=>I.ok.exfs L z hL
   exact⟨hk,⟨L,_,hf,hn,e,hd⟩,ih (λb hb=>hs b (by unfold ā;rw [X9,hf];exact M5 _ hb)) hr⟩
 exact all X.outer (λ_ hb=>hb) I.ok.funs
def Inv.stack (I:Inv X À σ H s):s.heap.FunFrames X.base X.stack:=by
 rcases I.ok.stk with e|⟨e,hf⟩
 ·rw [e];exact I.funs
 ·rw [e];obtain⟨m,hn,_⟩:=I.loc;refine .cons (by rw [I.ok.kind];decide) hf hn ?_ I.funs;exact bU (M1 I.ok.bsz I.ok.above)
def Inv.stkSub (I:Inv X À σ H s): ∀b∈ā X.stack,b∈X.env.locals::X.fs:=λb hb=>by
 rcases I.ok.stk with e|⟨e,hf⟩
 ·rw [e] at hb;exact M5 _ hb
 ·rw [e] at hb;unfold ā at hb;rw [X9,hf] at hb;exact hb
def Inv.stkFree (I:Inv X À σ H s): ∀b∈ā X.stack,H b=xa:=λb hb=>by
 rcases R5.mp (I.stkSub b hb) with e|hb
 ·rw [e];exact I.free
 ·obtain⟨_,o,ho,_⟩:=I.ok.funs.mem hb;exact I.base.free b o ho (I.ok.frf b hb) λz=>I.ok.exfs b z hb
variable {t':P0}
def Inv.step {g':T7 GenState}{d':Drawn}{ch:G0 G7}(I:Inv X À σ H s)
 (hch: ∀b∈ch,(b∈X.ex\/X.s₀.heap.objs.size<=b)/\b≠X.env.locals/\(∀x c,X.env.cells.lookup x=zq c->c≠b)/\ ∀p∈X.pn++À,p.1≠b)
 (keep: ∀b o,b≠X.env.locals->b ∉ X.fs->b ∉ ch->s.heap.get? b=zq o->H b=xa->h'.get? b=zq o)
 (slot: ∀b o,b≠X.env.locals->b∈X.fs->b ∉ ch->s.heap.get? b=zq o->H b=xa-> ∃sl,h'.get? b=zq {o with slots:=sl})(free: ∀b o,b ∉ ch->s.heap.get? b=zq o->H b=xa->H' b=xa)
 (there: ∀b o,b ∉ ch->s.heap.get? b=zq o-> ∃o',h'.get? b=zq o')
 (tups: ∀b xs,H b=zq (.tup xs)->H' b=zq (.tup xs))(frzs: ∀b o u,H b=zq (.frz o u)->H' b=zq (.frz o u))(tbls: ∀b ps,H b=zq (.tbl ps)-> ∃more,H' b=zq (.tbl (ps++more)))
 (ns: ∀m,s.heap.Ns X.env.locals m->h'.Ns X.env.locals m)(hok:ă X.prog X.w H' h')(hg:iG g'):
 Inv X À σ H' {s with heap:=h',gens:=g',drawn:=d',toks:=t'}:=by
 have neL: ∀b o,X.s₀.heap.get? b=zq o->b≠X.env.locals:=λb o e=>M6 (S8 (D7 e) I.ok.above)
 have neC: ∀b o,X.s₀.heap.get? b=zq o->b ∉ X.ex->b ∉ ch:=λb o e hx hb=>by
  rcases (hch b hb).1 with z|z
  ·exact hx z
  ·exact xj (S8 (D7 e) z) (O7 _)
 have cellK: ∀x c,X.env.cells.lookup x=zq c-> ∀v,s.heap.IsCell c v->h'.IsCell c v:=λx c e v ⟨o,ho,hd⟩=>by
  have nch:c ∉ ch:=λz=>(hch c z).2.2.1 x c e rfl
  by_cases hc:c∈X.fs
  ·obtain⟨sl,q⟩:=slot c o (I.cne x c e) hc nch ho (I.freeC x c e);exact⟨_,q,hd⟩
  ·exact⟨o,keep c o (I.cne x c e) hc nch ho (I.freeC x c e),hd⟩
 refine⟨I.ok,I.os,hg,⟨λb o e n hb hx=> ?_,λb o e n hb hx=> ?_,λb o e n hx=> ?_,λb o e hx=> ?_,λb xs e=>tups b xs (I.base.tups b xs e),λb o xs e=>frzs b o xs (I.base.frzs b o xs e),λb ps e=> ?_⟩,?_,λx c e=> ?_,?_,λx c e=> ?_,λp hp=> ?_,hok,I.len⟩
 ·exact keep b o (neL b o e) hb (neC b o e hx) (I.base.keep b o e n hb hx) (I.base.free b o e n hx)
 ·obtain⟨sl,e1⟩:=I.base.slot b o e n hb hx;obtain⟨sl',e2⟩:=slot b _ (neL b o e) hb (neC b o e hx) e1 (I.base.free b o e n hx);exact⟨sl',e2⟩
 ·obtain⟨o',e1⟩:=I.base.there b o e hx;exact free b o' (neC b o e hx) e1 (I.base.free b o e n hx)
 ·obtain⟨o',e1⟩:=I.base.there b o e hx;exact there b o' (neC b o e hx) e1
 ·obtain⟨m1,e1⟩:=I.base.tbls b ps e;obtain⟨m2,e2⟩:=tbls b _ e1;exact⟨m1++m2,by rw [e2,Array.append_assoc]⟩
 ·obtain⟨m,hn,hl⟩:=I.loc;refine⟨m,ns m hn,λi x v e1 e2 e3=> ?_⟩;obtain⟨u,r,l⟩:=hl i x v e1 e2 e3;refine⟨u,r,?_⟩;rcases l with l|⟨k,c,e,z⟩
  ·exact .inl l
  ·exact .inr ⟨k,c,e,cellK x c e _ z⟩
 ·obtain⟨v,z⟩:=I.cell x c e;exact⟨v,cellK x c e v z⟩
 ·obtain⟨m,⟨o,_,_,ho,_⟩,_⟩:=I.loc;exact free _ o (λz=>(hch _ z).2.1 rfl) ho I.free
 ·obtain⟨v,o,ho,hd⟩:=I.cell x c e;exact free c o (λz=>(hch c z).2.2.1 x c e rfl) ho (I.freeC x c e)
 ·obtain⟨e,n,ne,nf,d⟩:=I.pin p hp;have nch:p.1 ∉ ch:=λz=>(hch p.1 z).2.2.2 p hp rfl
  exact⟨keep p.1 p.2 ne nf nch e n,free p.1 p.2 nch e n,ne,nf,d⟩
def Inv.un (I:Inv X À σ H s)(u:Un X.fs [] H H' s.heap h')(hok:ă X.prog X.w H' h'):Inv X À σ H' {s with heap:=h',toks:=t'}:=by
 obtain⟨m,⟨o,es,ep,ho,r⟩,_⟩:=id I.loc;obtain⟨sl,hL⟩:=u.any ho I.free (by simp);exact I.step (g':=s.gens) (d':=s.drawn) (ch:= []) (λ_ z=>nomatch z) (λb o _ hb _ e n=>u.keep b o e n hb (by simp)) (λb o _ hb _ e n=>u.slot b o e n hb (by simp)) (λb o _ e n=>u.free b o e n (by simp)) (λb o _ e=>u.there b o e (by simp)) u.tups u.frzs u.tbls (λm' hm=>by
  obtain⟨o',Ŏ,ý,ho',r'⟩:=hm;rw [ho] at ho';cases ho';exact⟨_,Ŏ,ý,hL,r'⟩) hok I.bare
def Inv.call {g':T7 GenState}{d':Drawn}{ch:G0 G7}(I:Inv X À σ H s)(u:Un (ā X.stack) ch H H' s.heap h')(hok:ă X.prog X.w H' h')(hg:iG g')
 (hch: ∀b∈ch,(b∈X.ex\/X.s₀.heap.objs.size<=b)/\b≠X.env.locals/\(∀x c,X.env.cells.lookup x=zq c->c≠b)/\ ∀p∈X.pn++À,p.1≠b):
 Inv X À σ H' {s with heap:=h',gens:=g',drawn:=d',toks:=t'}:=by
 obtain⟨m,⟨o,es,ep,ho,r⟩,_⟩:=id I.loc;obtain⟨sl,hL⟩:=u.any ho I.free λz=>(hch _ z).2.1 rfl
 exact I.step (ch:=ch) hch (λb o hL hb hc e n=>u.keep b o e n (λz=>(R5.mp (I.stkSub b z)).elim hL hb) hc) (λb o _ _ hc e n=>u.any e n hc) (λb o hc e n=>u.free b o e n hc) (λb o hc e=>u.there b o e hc) u.tups u.frzs u.tbls (λm' hm=>by
  obtain⟨o',Ŏ,ý,ho',r'⟩:=hm;rw [ho] at ho';cases ho';exact⟨_,Ŏ,ý,hL,r'⟩) hok hg
def Inv.turned {it:G7}(I:Inv X À σ H s)(k: ∀b o,b≠it->s.heap.get? b=zq o->h'.get? b=zq o)(hn:H it=xa)(hL:it≠X.env.locals)
 (h1:it∈X.ex\/X.s₀.heap.objs.size<=it)(h2: ∀x c,X.env.cells.lookup x=zq c->c≠it)(h3: ∀p∈X.pn++À,p.1≠it):Inv X À σ H {s with heap:=h',toks:=t'}:=by
 have nit: ∀b u,H b=zq u->b≠it:=λb u e z=>by rw [z,hn] at e;cases e
 refine I.step (g':=s.gens) (d':=s.drawn) (ch:= [it]) (λb hb=> ?_) (λb o _ _ hc e _=>k b o (λz=>hc (by simp [z])) e) (λb o _ _ hc e _=>⟨o.slots,k b o (λz=>hc (by simp [z])) e⟩) (λ_ _ _ _ n=>n)
  (λb o hc e=>⟨o,k b o (λz=>hc (by simp [z])) e⟩) (λ_ _ e=>e) (λ_ _ _ e=>e) (λb ps e=>⟨#[],by rw [e];simp⟩) (λm hm=> ?_) (λb u e=> ?_) I.bare
 ·have e:b=it:=by simpa using hb
  subst e;exact⟨h1,hL,h2,h3⟩
 ·obtain⟨o,es,ep,ho,r⟩:=hm;exact⟨o,es,ep,k _ o (O6 hL) ho,r⟩
 ·refine(I.hok b u e).stay (λc v hc q=>k c v ?_ q) (λ_ q=>q) λ_ _ q=>q
  rcases hc with z|z
  ·rw [z];exact nit b u e
  ·exact nit c _ z
def Inv.tok (I:Inv X À σ H s)(t:P0):Inv X À σ H {s with toks:=t}:=I.un (h':=s.heap) (t':=t) Un.refl I.hok
def Inv.kept (I:Inv X À σ H s)(k: ∀b u,s.heap.get? b=zq u->h'.get? b=zq u):Inv X À σ H {s with heap:=h',toks:=t'}:=I.un (Un.kept k) (I.hok.kept k)
def Inv.laid {a:G7}{o:HO}(I:Inv X À σ H s)(k: ∀b u,s.heap.get? b=zq u->h'.get? b=zq u)(hp:s.heap.objs.size<=a)(new:Ô X.prog X.w (upd H a o) h' a o):
 Inv X À σ (upd H a o) {s with heap:=h',toks:=t'}:=I.un (Un.laid k hp (I.hok.fresh hp)) (I.hok.laid k hp new)
def Inv.write {x e:G7}{o:HO}(I:Inv X À σ H s)(mu:Mut (H x))(he:e=x\/H e=zq (.own x))(k: ∀b u,b≠e->s.heap.get? b=zq u->h'.get? b=zq u)(heo: ∃u,h'.get? e=zq u)
 (new:Ô X.prog X.w (upd H x o) h' x o):Inv X À σ (upd H x o) {s with heap:=h',toks:=t'}:=I.un (Un.write mu he k heo) (I.hok.write mu he k heo new)
def Inv.weak {Â:G0 (P1 V)}(I:Inv X À σ H s)(hl:Â.length=σ.length)(w: ∀ (i:P0) v,Â[i]? =zq (zq v)->σ[i]? =zq (zq v)):Inv X À Â H s:=
 ⟨I.ok,I.os,I.bare,I.base,let ⟨m,hn,hl'⟩:=I.loc;⟨m,hn,λi x v e1 e2 e3=>hl' i x v e1 (w i v e2) e3⟩,I.cell,I.free,I.freeC,I.pin,I.hok,hl.trans I.len⟩
def Inv.pins_of {X0E:G0 (G7×Obj)}(I:Inv X À σ H s)(h: ∀p∈X0E,s.heap.get? p.1=zq p.2/\H p.1=xa/\p.1≠X.env.locals/\p.1 ∉ X.fs/\ ∀v,p.2.data≠ .cell v):Inv X X0E σ H s:=
 ⟨I.ok,I.os,I.bare,I.base,I.loc,I.cell,I.free,I.freeC,λp hp=>(D9.mp hp).elim (λz=>I.pin p (O0 _ z)) (h p),I.hok,I.len⟩
def YY {N:G0 Str}(hN:N.Nodup){i j:P0}{x:Str}(a:N[i]? =zq x)(b:N[j]? =zq x):i=j:=by
 obtain⟨h1,e1⟩:=P8.mp a;obtain⟨h2,e2⟩:=P8.mp b;exact(List.getElem_inj hN).mp (e1.trans e2.symm)
def PJ {M:cN}{A:S4}{E:G1->G2->Prop}{i:P0}{x:Str}{v:V}{u:G1}{Q:Unit->G2->Prop}(I:Inv X À σ H s)(hN:X.N.Nodup)(hi:X.N[i]? =zq x)(hx:Loc X.env.scope x)(r:RelV v u)
 (h: ∀s',Inv X À (σ.set i (zq v)) H s'->(∃a,aF a s.heap s'.heap/\(a=X.env.locals\/X.env.cells.lookup x=zq a))->Q () s')(hf:X.fn x=xb\/X.env.scope.names.lookup x=zq .local:=by first|exact .inl rfl|exact .inr rfl|assumption):D6 M A (xG X.env x u) Q E s:=by
 obtain⟨m,hn,hl⟩:=id I.loc;have X07:(X.env.scope.kind== .class||(X.env.scope.kind== .module&&X.env.locals !=X.env.globals))=xf:=by rw [I.ok.kind];rfl
 have X0Y:i<σ.length:=by rw [I.len];exact(P8.mp hi).1
 have cne:=I.cne;have tracked: ∀ {a:G7} {h':N8},(∃o,s.heap.get? a=zq o/\H a=xa)->aF a s.heap h'->ă X.prog X.w H h':=λ{a h'} ha hs b ob e=>by
  obtain⟨_,_,X0F⟩:=ha;refine(I.hok b ob e).stay (λc w' hc q=>(hs.2 c ?_).trans q) (λ_ q=>q) λ_ _ q=>q
  rintro rfl;rcases hc with rfl|hc
  ·rw [X0F] at e;cases e
  ·rw [X0F] at hc;cases hc
 rcases hx with hk|hk
 ·refine wpAny_storeName_local hk hn (λh' hn' hs=> ?_) X07;obtain⟨oL,_,_,hoL,_⟩:=id hn;refine h _ ⟨I.ok,I.os,I.bare,⟨λb o e n hb hx=> ?_,λb o e n hb hx=> ?_,I.base.free,λb o e hx=> ?_,I.base.tups,I.base.frzs,I.base.tbls⟩,⟨_,hn',λj y v' e1 e2 e3=> ?_⟩,λy c e=> ?_,I.free,I.freeC,λp hp=> ?_,tracked ⟨oL,hoL,I.free⟩ hs,by simpa using I.len⟩ ⟨_,hs,.inl rfl⟩
  ·exact(hs.2 b (M6 (S8 (D7 e) I.ok.above))).trans (I.base.keep b o e n hb hx)
  ·obtain⟨sl,e1⟩:=I.base.slot b o e n hb hx;exact⟨sl,(hs.2 b (M6 (S8 (D7 e) I.ok.above))).trans e1⟩
  ·obtain⟨o',e1⟩:=I.base.there b o e hx;exact⟨o',(hs.2 b (M6 (S8 (D7 e) I.ok.above))).trans e1⟩
  ·by_cases hj:j=i
   ·subst hj;rw [hi] at e1;cases e1;rw [Y2 X0Y] at e2;cases e2;exact⟨u,r,.inl ⟨hk,by simp⟩⟩
   ·rw [J0 (O6 hj)] at e2;obtain⟨u',r',q⟩:=hl j y v' e1 e2 e3;refine⟨u',r',?_⟩;rcases q with ⟨k,e⟩|⟨k,c,e,z⟩
    ·refine .inl ⟨k,?_⟩;have:y≠x:=λe=>hj (YY hN e1 (e ▸ hi))
     simp [this,e]
    ·exact .inr ⟨k,c,e,z.sameBut hs (cne y c e)⟩
  ·obtain⟨w',z⟩:=I.cell y c e;exact⟨w',z.sameBut hs (cne y c e)⟩
  ·obtain⟨e,n,ne,nf,d⟩:=I.pin p hp;exact⟨(hs.2 p.1 ne).trans e,n,ne,nf,d⟩
 ·have hfn:X.fn x=xb:=by
   rcases hf with z|z
   ·exact z
   ·rw [z] at hk;cases hk
  obtain⟨c,hc⟩:=I.ok.has x (.inl hk);obtain⟨w',z⟩:=I.cell x c hc;refine wpAny_storeName_cell I.ok.kind hk hc z (λh' hc' hs=> ?_);obtain⟨oc,hoc,X1O⟩:=id z;refine h {s with heap:=h'} ⟨I.ok,I.os,I.bare,⟨λb o e n hb hx=> ?_,λb o e n hb hx=> ?_,I.base.free,λb o e hx=> ?_,I.base.tups,I.base.frzs,I.base.tbls⟩,⟨m,hn.sameBut hs (O6 (cne x c hc)),λj y v' e1 e2 e3=> ?_⟩,λy c' e=> ?_,I.free,I.freeC,λp hp=> ?_,tracked ⟨oc,hoc,I.freeC x c hc⟩ hs,by simpa using I.len⟩ ⟨c,hs,.inr hc⟩
  ·exact(hs.2 b (M6 (S8 (D7 e) (I.ok.cab x c hfn hc)))).trans (I.base.keep b o e n hb hx)
  ·obtain⟨sl,e1⟩:=I.base.slot b o e n hb hx;exact⟨sl,(hs.2 b (M6 (S8 (D7 e) (I.ok.cab x c hfn hc)))).trans e1⟩
  ·obtain⟨o',e1⟩:=I.base.there b o e hx;exact⟨o',(hs.2 b (M6 (S8 (D7 e) (I.ok.cab x c hfn hc)))).trans e1⟩
  ·by_cases hj:j=i
   ·subst hj;rw [hi] at e1;cases e1;rw [Y2 X0Y] at e2;cases e2;exact⟨u,r,.inr ⟨.inl hk,c,hc,hc'⟩⟩
   ·rw [J0 (O6 hj)] at e2;obtain⟨u',r',q⟩:=hl j y v' e1 e2 e3;refine⟨u',r',?_⟩;rcases q with q|⟨k,c',e,z'⟩
    ·exact .inl q
    ·refine .inr ⟨k,c',e,z'.sameBut hs ?_⟩;rintro rfl;exact hj (YY hN e1 (I.ok.inj _ _ _ e hc ▸ hi))
  ·by_cases hcc:c'=c
   ·subst hcc;exact⟨_,hc'⟩
   ·obtain⟨w2,z2⟩:=I.cell y c' e;exact⟨w2,z2.sameBut hs hcc⟩
  ·obtain⟨e,n,ne,nf,d⟩:=I.pin p hp;refine⟨(hs.2 p.1 ?_).trans e,n,ne,nf,d⟩;intro q;rw [q,hoc] at e;have q':oc=p.2:=C9 e;exact d w' (by rw [<-q'];exact X1O)
def wM {M:cN}{A:S4}{E:G1->G2->Prop}{i:P0}{x:Str}{v:V}{u:G1}{Q:Unit->G2->Prop}(I:Inv X À σ H s)(hN:X.N.Nodup)(hi:X.N[i]? =zq x)(hx:Loc X.env.scope x)(r:RelV v u)
 (h: ∀s',Inv X À (σ.set i (zq v)) H s'->Q () s')(hf:X.fn x=xb\/X.env.scope.names.lookup x=zq .local:=by first|exact .inl rfl|exact .inr rfl|assumption):D6 M A (xG X.env x u) Q E s:=
 PJ I hN hi hx r (λs' I' _=>h s' I') hf
def Inv.call' {s':G2}{ch:G0 G7}(I:Inv X À σ H s)(ho:s'.os=s.os)(u:Un (ā X.stack) ch H H' s.heap s'.heap)(hok:ă X.prog X.w H' s'.heap)(hg:iG s'.gens)
 (hch: ∀b∈ch,(b∈X.ex\/X.s₀.heap.objs.size<=b)/\b≠X.env.locals/\(∀x c,X.env.cells.lookup x=zq c->c≠b)/\ ∀p∈X.pn++À,p.1≠b):Inv X À σ H' s':=by
 obtain⟨h',g',d',t',o'⟩:=s';have e:o'=s.os:=ho;subst e;exact I.call (g':=g') (t':=t') (d':=d') u hok hg hch
end
abbrev XK:=G1->P1 G7->Hp->Prop
abbrev St:=G0 (P1 V)
abbrev VK:=V->Hp->Prop
abbrev TE:=St->Hp->VK->Prop
abbrev TT:=St->Hp->(N3->Hp->Prop)->Prop
abbrev TA:=St->Hp->(G0 V->Hp->Prop)->Prop
structure Ű where
 nx:St->Hp->Prop
 rt:VK
 bk:St->Hp->Prop:=λ_ _=>False
 ct:St->Hp->Prop:=λ_ _=>False
abbrev TS:=Ű->St->Hp->Prop
inductive EP (X:Cx)(À:G0 (G7×Obj))(σ:St)(Q:VK)(u:G1)(s':G2):Prop
 |mk (v H') (_:Inv X À σ H' s') (_:RelV v u) (_:Q v H')
def TP (X:Cx)(À:G0 (G7×Obj))(σ:St)(Q:N3->Hp->Prop)(b:N3)(s':G2):Prop:= ∃H',Inv X À σ H' s'/\Q b H'
inductive AP (X:Cx)(À:G0 (G7×Obj))(σ:St)(Q:G0 V->Hp->Prop)(us:G0 G1)(s':G2):Prop
 |mk (vs H') (_:Inv X À σ H' s') (_:Æ vs us) (_:Q vs H')
def SP (X:Cx)(À:G0 (G7×Obj))(D:Ű)(f:Flow)(s':G2):Prop:=
 match f with
 | .next=> ∃Â H',Inv X À Â H' s'/\D.nx Â H'
 | .brk=> ∃Â H',Inv X À Â H' s'/\D.bk Â H'
 | .cont=> ∃Â H',Inv X À Â H' s'/\D.ct Â H'
 | .ret u=> ∃v Â H',Inv X À Â H' s'/\RelV v u/\D.rt v H'
def PE (X:Cx)(e:S2)(t:TE):Prop:=
 ∀ (À:G0 (G7×Obj)) (s:G2) (σ:St) (H:Hp) (Q:VK),Inv X À σ H s->t σ H Q->D6 (R3 X.prog X.w) X.A (L7 e X.env) (EP X À σ Q) X.xe s
def PT (X:Cx)(e:S2)(t:TT):Prop:=
 ∀ (À:G0 (G7×Obj)) (s:G2) (σ:St) (H:Hp) (Q:N3->Hp->Prop),Inv X À σ H s->t σ H Q->D6 (R3 X.prog X.w) X.A (isTrue e X.env (L7 e X.env)) (TP X À σ Q) X.xe s
def PW (X:Cx)(e:S2)(t:TT):Prop:=
 ∀ (whole:Sem G1) (À:G0 (G7×Obj)) (s:G2) (σ:St) (H:Hp) (Q:N3->Hp->Prop),Inv X À σ H s->t σ H Q->D6 (R3 X.prog X.w) X.A (isTrue e X.env whole) (TP X À σ Q) X.xe s
variable {X:Cx}
def PW.pt {e:S2}{t:TT}(h:PW X e t):PT X e t:=h _
def PA (X:Cx)(es:G0 S2)(t:TA):Prop:=
 ∀ (pos:Pos) (À:G0 (G7×Obj)) (s:G2) (σ:St) (H:Hp) (Q:G0 V->Hp->Prop),Inv X À σ H s->t σ H Q->D6 (R3 X.prog X.w) X.A (spliced (E3 pos (P9 es X.env))) (AP X À σ Q) X.xe s
def PS (X:Cx)(st:L8)(t:TS):Prop:=
 ∀ (À:G0 (G7×Obj)) (s:G2) (σ:St) (H:Hp) (D:Ű),Inv X À σ H s->t D σ H->D6 (R3 X.prog X.w) X.A (exec st X.env) (SP X À D) X.xe s
def ő (X:Cx)(st:G0 L8)(t:TS):Prop:=
 ∀ (À:G0 (G7×Obj)) (s:G2) (σ:St) (H:Hp) (D:Ű),Inv X À σ H s->t D σ H->D6 (R3 X.prog X.w) X.A (execs st X.env) (SP X À D) X.xe s
variable {A:S4}{s:G2}
def Ø {α:Type}{t:Sem α}{Q Q':α->G2->Prop}{M:cN}{E:G1->G2->Prop}(h:D6 M A t Q E s)(hQ: ∀a s,Q a s->Q' a s):D6 M A t Q' E s:=R7 h hQ λ_ _ x=>x
section
variable {X:Cx}
def bin {a b:S2}{ta tb:TE}(ha:PE X a ta)(hb:PE X b tb){À:G0 (G7×Obj)}{s:G2}{σ:St}{H:Hp}{R:V->V->Hp->Prop}(I:Inv X À σ H s)(h:ta σ H λx H1=>tb σ H1 λy H2=>R x y H2)
 {α:Type}{Q:α->G2->Prop}{f:G1->G1->Sem α}
 (hf: ∀v u s2 x y H2,Inv X À σ H2 s2->RelV x v->RelV y u->R x y H2->D6 (R3 X.prog X.w) X.A (f v u) Q X.xe s2):
 D6 (R3 X.prog X.w) X.A (L7 a X.env) (λv s₁=>D6 (R3 X.prog X.w) X.A (L7 b X.env) (λu s₂=>D6 (R3 X.prog X.w) X.A (f v u) Q X.xe s₂) X.xe s₁) X.xe s:=by
 refine Ø (ha À s σ H _ I h) λv s1 ⟨x,H1,I1,r1,q1⟩=> ?_
 refine Ø (hb À s1 σ H1 _ I1 q1) λu s2 ⟨y,H2,I2,r2,q2⟩=> ?_
 exact hf v u s2 x y H2 I2 r1 r2 q2
def Ht (i:P0):TE:=λσ H Q=> ∃v,σ[i]? =zq (zq v)/\Q v H
def tC (v:V):TE:=λ_ H Q=>Q v H
variable {x:Str}
def PK {i:P0}{pos:Pos}(hN:X.N[i]? =zq x)(hv:Vis X.env.scope x)(hd:(x==("__debug__" :Str))=xf:=by decide)(hcd:(x==("__classdict__" :Str))=xf:=by decide):PE X (.Name x pos) (Ht i):=by
 intro À s σ H Q I h;obtain⟨v,e,h⟩:=h;obtain⟨m,hn,hl⟩:=I.loc;obtain⟨u,r,l⟩:=hl i x v hN e hv;have fin:EP X À σ Q u s:=⟨v,H,I,r,h⟩;rcases l with ⟨hk,hm⟩|⟨hk,c,hc,Ř⟩
 ·exact pO (gZ I.ok.kind hk hn hm fin) hd
 ·rcases hk with hk|hk
  ·exact pO (oZ I.ok.kind hk hc Ř fin) hd
  ·exact pO (wpAny_loadName_free I.ok.kind hk hc Ř fin hcd) hd
def X0k {i j pos}:PE X (.Constant (.int i) j pos) (tC (.int i)):=λ_ _ _ H _ I h=>wpAny_Constant_int ⟨.int i,H,I.tok _,⟨_,rfl⟩,h⟩
def X08 {b j pos}:PE X (.Constant (.bool b) j pos) (tC (.bl b)):=λ_ _ _ H _ I h=>Constant_bool ⟨.bl b,H,I,rfl,h⟩
def X0G {j pos}:PE X (.Constant .none j pos) (tC .non):=λ_ _ _ H _ I h=>Constant_none ⟨.non,H,I,rfl,h⟩
def X0l {x j pos}:PE X (.Constant (.str x) j pos) (tC (.str x)):=λ_ _ _ H _ I h=>Calls.Constant_str ⟨.str x,H,I.tok _,⟨_,rfl⟩,h⟩
def Gl (X:Cx)(x:Str):Prop:=X.env.kindOf x=zq .globalImplicit
variable {u:G1}
def vM {E:G1->G2->Prop}{À:G0 (G7×Obj)}{s:G2}{σ:St}{H:Hp}{pos:Pos}{Q:G1->G2->Prop}(I:Inv X À σ H s)(hg:Gl X x)(hm:X.mg x=zq u)(h:Q u s)
 (hd:(x==("__debug__" :Str))=xf:=by decide):D6 (R3 X.prog X.w) X.A (L7 (.Name x pos) X.env) Q E s:=
 Calls.Name_function_global I.ok.kind hg (Calls.loadGlobal_global (by rw [I.ok.glob];exact I.mod.glob.keeps I.bk) hm h) hd
def Yu {E:G1->G2->Prop}{À:G0 (G7×Obj)}{s:G2}{σ:St}{H:Hp}{pos:Pos}{Q:G1->G2->Prop}(I:Inv X À σ H s)(hg:Gl X x)(hm:X.mg x=xa)(hv:Q5 x=zq u)(h:Q u s)
 (hn:x≠ "__name__" :=by decide)(hd:(x==("__debug__" :Str))=xf:=by decide):D6 (R3 X.prog X.w) X.A (L7 (.Name x pos) X.env) Q E s:=by
 obtain⟨mb,h1,h2⟩:=I.mod.blt;exact Calls.Name_function_global I.ok.kind hg (Calls.loadGlobal_builtin (by rw [I.ok.glob];exact I.mod.glob.keeps I.bk) hm (by rw [I.ok.blt];exact h1.keeps I.bk) ((h2 x hn).trans hv) h) hd
def PL {v:V}{pos:Pos}(hg:Gl X x)(hm:X.mg x=zq u)(r:RelV v u)(hd:(x==("__debug__" :Str))=xf:=by decide):PE X (.Name x pos) (tC v):=
 λ_ _ _ H _ I h=>vM I hg hm ⟨v,H,I,r,h⟩ hd
def PM {v:V}{pos:Pos}(hg:Gl X x)(hm:X.mg x=xa)(hv:Q5 x=zq u)(r:RelV v u)(hn:x≠ "__name__" :=by decide)(hd:(x==("__debug__" :Str))=xf:=by decide):PE X (.Name x pos) (tC v):=
 λ_ _ _ H _ I h=>Yu I hg hm hv ⟨v,H,I,r,h⟩ hn hd
variable {a b:S2}{ta tb:TE}{pos:Pos}
def tB (t:TE):TT:=λσ H Q=>t σ H λx H1=> ∃c,x= .bl c/\Q c H1
def Ow {e:S2}{t:TE}(h:PE X e t)(he: ∀whole,isTrue e X.env whole=(do let v <-whole;cZ e.pos;Z6 [v] (mP v)):=by intro _;rfl):PT X e (tB t):=by
 intro À s σ H Q I hw;refine qC (Ø (h À s σ H _ I hw) λv s1 ⟨x,H1,I1,r1,q1⟩=> ?_) (he _);obtain⟨d,rfl,q⟩:=q1;cases r1;exact E8 ⟨H1,I1,q⟩
variable {tA tB':TT}{rest:G0 S2}
def Hu (t u:TT):TT:=λσ H Q=>t σ H λc H1=>if c=xb then u σ H1 Q else Q xf H1
def tOr (t u:TT):TT:=λσ H Q=>t σ H λc H1=>if c=xb then Q xb H1 else u σ H1 Q
def Hv (t:TT):TT:=λσ H Q=>t σ H λc H1=>Q (!c) H1
def Cw (ha:PT X a tA):PW X (.BoolOp .And [a] pos) tA:=by
 intro wh À s σ H Q I h;refine IW (Ø (ha À s σ H Q I h) λc s1 e=> ?_);cases c with
 |true=>exact isTrue_and_nil e
 |false=>exact e
def Ox (ha:PT X a tA):PW X (.BoolOp .Or [a] pos) tA:=by
 intro wh À s σ H Q I h;refine isTrue_or (Ø (ha À s σ H Q I h) λc s1 e=> ?_);cases c with
 |false=>exact isTrue_or_nil e
 |true=>exact e
def Oy (ha:PT X a tA)(hb:PW X (.BoolOp .And (b::rest) pos) tB'):PW X (.BoolOp .And (a::b::rest) pos) (Hu tA tB'):=by
 intro wh À s σ H Q I h;refine IW (Ø (ha À s σ H _ I h) λc s1 ⟨H1,I1,q1⟩=> ?_);cases c with
 |true=>exact hb wh À s1 σ H1 Q I1 q1
 |false=>exact⟨H1,I1,q1⟩
def Sv (ha:PT X a tA)(hb:PW X (.BoolOp .Or (b::rest) pos) tB'):PW X (.BoolOp .Or (a::b::rest) pos) (tOr tA tB'):=by
 intro wh À s σ H Q I h;refine isTrue_or (Ø (ha À s σ H _ I h) λc s1 ⟨H1,I1,q1⟩=> ?_);cases c with
 |true=>exact⟨H1,I1,q1⟩
 |false=>exact hb wh À s1 σ H1 Q I1 q1
def Oz (ha:PT X a tA):PT X (.UnaryOp .Not a pos) (Hv tA):=by
 intro À s σ H Q I h;exact isTrue_not (ha À s σ H (λc H1=>Q (!c) H1) I h)
def OA (ta tb:TE):TE:=λσ H Q=>ta σ H λx H1=> ∃c,x= .bl c/\if c=xb then tb σ H1 Q else Q (.bl xf) H1
def Hw (ta tb:TE):TE:=λσ H Q=>ta σ H λx H1=> ∃c,x= .bl c/\if c=xb then Q (.bl xb) H1 else tb σ H1 Q
def OB (ta:TE):TE:=λσ H Q=>ta σ H λx H1=> ∃c,x= .bl c/\Q (.bl (!c)) H1
def OC {op}{t:TE}(h:PE X a t):PE X (.BoolOp op [a] pos) t:=λÀ s σ H Q I hw=>BoolOp_one (h À s σ H Q I hw)
def OD (ha:PE X a ta)(hb:PE X (.BoolOp .And (b::rest) pos) tb):PE X (.BoolOp .And (a::b::rest) pos) (OA ta tb):=by
 intro À s σ H Q I h;refine BoolOp_and (Ø (ha À s σ H _ I h) λv s1 ⟨x,H1,I1,r1,q1⟩=> ?_);obtain⟨c,rfl,q1⟩:=q1;cases r1;refine E8 ?_;cases c with
 |true=>exact hb À s1 σ H1 Q I1 q1
 |false=>exact⟨.bl xf,H1,I1,rfl,q1⟩
def Sw (ha:PE X a ta)(hb:PE X (.BoolOp .Or (b::rest) pos) tb):PE X (.BoolOp .Or (a::b::rest) pos) (Hw ta tb):=by
 intro À s σ H Q I h;refine BoolOp_or (Ø (ha À s σ H _ I h) λv s1 ⟨x,H1,I1,r1,q1⟩=> ?_);obtain⟨c,rfl,q1⟩:=q1;cases r1;refine E8 ?_;cases c with
 |false=>exact hb À s1 σ H1 Q I1 q1
 |true=>exact⟨.bl xb,H1,I1,rfl,q1⟩
def OE (ha:PE X a ta):PE X (.UnaryOp .Not a pos) (OB ta):=by
 intro À s σ H Q I h;refine UnaryOp_ (Ø (ha À s σ H _ I h) λv s1 ⟨x,H1,I1,r1,q1⟩=> ?_);obtain⟨c,rfl,q1⟩:=q1;cases r1;exact not_of (E8 ⟨.bl (!c),H1,I1,rfl,q1⟩)
def tIf (t:TT)(ta tb:TE):TE:=λσ H Q=>t σ H λc H1=>if c=xb then ta σ H1 Q else tb σ H1 Q
def MJ {c:S2}(hc:PT X c tA)(ha:PE X a ta)(hb:PE X b tb):PE X (.IfExp c a b pos) (tIf tA ta tb):=by
 intro À s σ H Q I h;refine wpAny_IfExp (Ø (hc À s σ H _ I h) λd s1 ⟨H1,I1,q1⟩=> ?_);cases d with
 |true=>exact ha À s1 σ H1 Q I1 q1
 |false=>exact hb À s1 σ H1 Q I1 q1
end
def õ (K:G3)(H:Hp)(a:G7)(xs:G0 V):Prop:=
 Rd H a (.lst xs)\/
  ∃ (o:Obj) (its:T7 G1) (n:P0),K.lookup a=zq o/\o.cls= .type "list" /\o.dict=xa/\o.data= .seq its n/\its.size<=xh/\Æ xs its.toList
def ĉ (K:G3)(H:Hp)(a:G7)(xs:G0 V):Prop:=
 Rd H a (.tup xs)\/
  ∃ (o:Obj) (its:T7 G1) (n:P0),K.lookup a=zq o/\o.cls= .type "tuple" /\o.data= .seq its n/\its.size<=xh/\Æ xs its.toList
def Ku:G1->P1 V
 | .none=>zq .non
 | .bool b=>zq (.bl b)
 | .int i _=>zq (.int i)
 | .str x _=>zq (.str x)
 | .bytes b _=>zq (.byt b)
 | .float b _=>zq (.flt b)
 | .ref a=>zq (.ref a)
 | .type n=>zq (.ty n)
 |_=>xa
def RelV.abs {x:V}(r:RelV x u):Ku u=zq x:=by
 cases x with
 |non=>cases r;rfl
 |bl _=>cases r;rfl
 |int _=>obtain⟨t,rfl⟩:=r;rfl
 |str _=>obtain⟨t,rfl⟩:=r;rfl
 |byt _=>obtain⟨t,rfl⟩:=r;rfl
 |flt _=>obtain⟨t,rfl⟩:=r;rfl
 |ref _=>cases r;rfl
 |ty _=>cases r;rfl
def RelV.inj {x y:V}(r:RelV x u)(q:RelV y u):x=y:=C9 (r.abs.symm.trans q.abs)
def Æ.inj: ∀ {xs ys:G0 V} {us:G0 G1},Æ xs us->Æ ys us->xs=ys
 |_,_,_,.nil,.nil=>rfl
 |_,_,_,.cons r t,.cons r' t'=>by rw [r.inj r',Æ.inj t t']
section
variable {X:Cx}{À:G0 (G7×Obj)}{σ:St}{H:Hp}{s:G2}{a:G7}{xs ys:G0 V}
def õ.of {K:G3}(h:H a=zq (.lst xs)):õ K H a xs:= .inl (.inl h)
def ĉ.of {K:G3}(h:H a=zq (.tup xs)):ĉ K H a xs:= .inl (.inl h)
def Inv.list (I:Inv X À σ H s)(h:õ X.K H a xs): ∃its:G0 G1,Æ xs its/\PlainL s.heap a its.toArray/\xs.length<=xh:=by
 rcases h with h|⟨o,its,n,hk,hc,hd,hs,hz,r⟩
 ·obtain⟨z,its,n,r,e⟩:=h.ok I.hok;exact⟨its,r,⟨_,n,e,rfl,rfl,rfl⟩,z⟩
 ·refine⟨its.toList,r,⟨o,n,I.kIn a o hk,hc,hd,by simpa using hs⟩,?_⟩;have e:=r.length;simp only [N0] at e;omega
def Inv.tuple (I:Inv X À σ H s)(h:ĉ X.K H a xs): ∃its:G0 G1,Æ xs its/\y3 s.heap a its.toArray/\xs.length<=xh:=by
 rcases h with h|⟨o,its,n,hk,hc,hs,hz,r⟩
 ·obtain⟨z,its,r,p⟩:=h.ok I.hok;exact⟨its,r,p.tup,z⟩
 ·refine⟨its.toList,r,⟨o,I.kIn a o hk,hc,n,by simpa using hs⟩,?_⟩;have e:=r.length;simp only [N0] at e;omega
def Inv.list_inj (I:Inv X À σ H s)(h:õ X.K H a xs)(h':õ X.K H a ys):xs=ys:=by
 obtain⟨its,r,⟨o,n,e,_,_,d⟩,_⟩:=I.list h;obtain⟨its',r',⟨o',n',e',_,_,d'⟩,_⟩:=I.list h';rw [e] at e';cases e';rw [d] at d';injection d' with d1 _
 have:its=its':=by simpa using xk qD d1
 subst this;exact r.inj r'
def Inv.tuple_inj (I:Inv X À σ H s)(h:ĉ X.K H a xs)(h':ĉ X.K H a ys):xs=ys:=by
 obtain⟨its,r,⟨o,e,_,n,d⟩,_⟩:=I.tuple h;obtain⟨its',r',⟨o',e',_,n',d'⟩,_⟩:=I.tuple h';rw [e] at e';cases e';rw [d] at d';injection d' with d1 _
 have:its=its':=by simpa using xk qD d1
 subst this;exact r.inj r'
end
abbrev Cx.wish (X:Cx)(E:G1->G2->Prop):Cx:= {X with xe:=E}
abbrev Cx.nox (X:Cx):Cx:=X.wish λ_ _=>False
def Cx.Ok.wish (ok:X.Ok)(E:G1->G2->Prop):(X.wish E).Ok:=
 ⟨ok.mod,ok.kind,ok.glob,ok.blt,ok.above,ok.inj,ok.has,ok.cab,ok.hd,ok.frames,ok.stk,ok.exf,ok.bs,ok.bsz,ok.noex,ok.exfs,ok.funs,ok.frf⟩
def Cx.Ok.unwish {E:G1->G2->Prop}(ok:(X.wish E).Ok):X.Ok:=
 ⟨ok.mod,ok.kind,ok.glob,ok.blt,ok.above,ok.inj,ok.has,ok.cab,ok.hd,ok.frames,ok.stk,ok.exf,ok.bs,ok.bsz,ok.noex,ok.exfs,ok.funs,ok.frf⟩
section
variable {X:Cx}{À:G0 (G7×Obj)}{σ:St}{H:Hp}{s:G2}{E:G1->G2->Prop}
def Inv.wish (I:Inv X À σ H s)(E:G1->G2->Prop):Inv (X.wish E) À σ H s:=⟨I.ok.wish E,I.os,I.bare,I.base,I.loc,I.cell,I.free,I.freeC,I.pin,I.hok,I.len⟩
def Inv.unwish (I:Inv (X.wish E) À σ H s):Inv X À σ H s:=⟨I.ok.unwish,I.os,I.bare,I.base,I.loc,I.cell,I.free,I.freeC,I.pin,I.hok,I.len⟩
def SP.unwish {D:Ű}{f:Flow}{s':G2}(h:SP (X.wish E) À D f s'):SP X À D f s':=by
 cases f with
 |next=>obtain⟨Â,H',I,q⟩:=h;exact⟨Â,H',I.unwish,q⟩
 |brk=>obtain⟨Â,H',I,q⟩:=h;exact⟨Â,H',I.unwish,q⟩
 |cont=>obtain⟨Â,H',I,q⟩:=h;exact⟨Â,H',I.unwish,q⟩
 |ret u=>obtain⟨v,Â,H',I,r,q⟩:=h;exact⟨v,Â,H',I.unwish,r,q⟩
def ő.nox {st:G0 L8}{t:TS}(h:ő X.nox st t):ő X st t:=λÀ s σ H D I hw=>
 R7 (h À s σ H D (I.wish _) hw) (λ_ _ q=>q.unwish) λ_ _ z=>xn z
end
section
variable {X:Cx}{st:L8}{rest:G0 L8}{t u:TS}{e:S2}{te:TE}{pos:Pos}
def OF:TS:=λD σ H=>D.nx σ H
def Hx (t u:TS):TS:=λD σ H=>t {D with nx:=u D} σ H
def X0r:ő X [] OF:=λ_ _ σ H _ I h=>bH ⟨σ,H,I,h⟩
def MK (h1:PS X st t)(h2:ő X rest u):ő X (st::rest) (Hx t u):=by
 intro À s σ H D I h;refine J9 (Ø (h1 À s σ H {D with nx:=u D} I h) λf s1 q=> ?_);cases f with
 |next=>
  obtain⟨Â,H',I',q⟩:=q;exact h2 À s1 Â H' D I' q
 |ret v=>exact q
 |brk=>exact q
 |cont=>exact q
def PN (h1:PS X st t):ő X [st] t:=by
 intro À s σ H D I h;refine J9 (Ø (h1 À s σ H D I h) λf s1 q=> ?_);cases f with
 |next=>exact bH q
 |ret v=>exact q
 |brk=>exact q
 |cont=>exact q
def Inv.quiet {À:G0 (G7×Obj)}{σ:St}{H:Hp}{s:G2}(I:Inv X À σ H s):y6 X.env=xf:=by simp [y6,I.ok.kind]
def OG (te:TE):TS:=λD σ H=>te σ H λ_ H1=>D.nx σ H1
def Cy (he:PE X e te)(hs:U0 e xa pos.line X.env=pure xf:=by rfl):PS X (.Expr e pos) (OG te):=by
 intro À s σ H D I h;exact tV (Ø (he À s σ H _ I h) λv s1 ⟨x,H1,I1,r1,q1⟩=>⟨σ,H1,I1,q1⟩) I.quiet hs
def Hy (te:TE):TS:=λD σ H=>te σ H D.rt
def OH (he:PE X e te):PS X (.Return (zq e) pos) (Hy te):=by
 intro À s σ H D I h;exact qE (Ø (he À s σ H _ I h) λv s1 ⟨x,H1,I1,r1,q1⟩=>⟨x,σ,H1,I1,r1,q1⟩)
def Hz (c:TT)(t u:TS):TS:=λD σ H=>c σ H λb H1=>if b=xb then t D σ H1 else u D σ H1
def Sx {c:S2}{a b:G0 L8}{tc:TT}(hc:PT X c tc)(ha:ő X a t)(hb:ő X b u):PS X (.If c a b pos) (Hz tc t u):=by
 intro À s σ H D I h;refine wpAny_If (Ø (hc À s σ H _ I h) λd s1 ⟨H1,I1,q1⟩=> ?_);cases d with
 |true=>exact ha À s1 σ H1 D I1 q1
 |false=>exact hb À s1 σ H1 D I1 q1
end
abbrev TG:=V->St->Hp->(St->Hp->Prop)->Prop
abbrev TGs:=G0 V->St->Hp->(St->Hp->Prop)->Prop
def PG (X:Cx)(target:S2)(t:TG):Prop:=
 ∀ (À:G0 (G7×Obj)) (s:G2) (σ:St) (H:Hp) (v:V) (u:G1) (Q:St->Hp->Prop),Inv X À σ H s->RelV v u->t v σ H Q->
  D6 (R3 X.prog X.w) X.A (dF target X.env u) (λ_ s'=> ∃Â H',Inv X À Â H' s'/\Q Â H') X.xe s
def PGs (X:Cx)(ts:G0 S2)(t:TGs):Prop:=
 ∀ (À:G0 (G7×Obj)) (s:G2) (σ:St) (H:Hp) (vs:G0 V) (us:G0 G1) (Q:St->Hp->Prop),Inv X À σ H s->Æ vs us->t vs σ H Q->
  D6 (R3 X.prog X.w) X.A (pB ((dG ts X.env).map (·.2)) us) (λ_ s'=> ∃Â H',Inv X À Â H' s'/\Q Â H') X.xe s
abbrev Sy:=V->V->V->Hp->(Hp->Prop)->Prop
def HA (X:Cx)(t:Sy):Prop:=
 ∀ (À:G0 (G7×Obj)) (s:G2) (σ:St) (H:Hp) (o i v:V) (ov iv u:G1) (Q:Hp->Prop),Inv X À σ H s->RelV o ov->RelV i iv->RelV v u->t o i v H Q->
  D6 (R3 X.prog X.w) X.A (tO ov iv u) (λ_ s'=> ∃H',Inv X À σ H' s'/\Q H') X.xe s
abbrev TIp:=V->V->Hp->VK->Prop
def PIp (X:Cx)(op:qF)(t:TIp):Prop:=
 ∀ (À:G0 (G7×Obj)) (s:G2) (σ:St) (H:Hp) (x y:V) (v u:G1) (Q:VK),Inv X À σ H s->RelV x v->RelV y u->t x y H Q->
  D6 (R3 X.prog X.w) X.A (inplaceOp op v u) (EP X À σ Q) X.xe s
section
variable {X:Cx}{pos:Pos}
def wR (i:P0):TG:=λv σ H Q=>Q (σ.set i (zq v)) H
variable {i:P0}{x:Str}
def yM (hN:X.N.Nodup)(hi:X.N[i]? =zq x)(hx:Loc X.env.scope x)(hf:X.fn x=xb\/X.env.scope.names.lookup x=zq .local:=by first|exact .inl rfl|exact .inr rfl|assumption):PG X (.Name x pos) (wR i):=by
 intro À s σ H v u Q I r h;exact wpAny_assign_Name (wM I hN hi hx r (λs' I'=>⟨_,H,I',h⟩) hf)
def Sc:TGs:=λvs σ H Q=>vs= []/\Q σ H
def XA (t:TG)(u:TGs):TGs:=λvs σ H Q=> ∃v r,vs=v::r/\t v σ H λÂ H'=>u r Â H' Q
def XB:PGs X [] Sc:=by
 intro À s σ H vs us Q I r h;obtain⟨e,h⟩:=h;subst e;cases r;exact qG ⟨σ,H,I,h⟩
variable {e:S2}
def vm {es:G0 S2}{t:TG}{u:TGs}(h1:PG X e t)(h2:PGs X es u)
 (hs:(dG (e::es) X.env).map (·.2)=dF e X.env::(dG es X.env).map (·.2):=by rfl):PGs X (e::es) (XA t u):=by
 intro À s σ H vs us Q I r h;obtain⟨v,vr,e1,h⟩:=h;subst e1;cases r with
 |cons r rr=>
  rw [hs];refine iN (Ø (h1 À s σ H _ _ _ I r h) λ_ s1 ⟨σ1,H1,I1,q1⟩=> ?_);exact h2 À s1 σ1 H1 _ _ Q I1 rr q1
def Sd (K:G3)(n:P0)(t:TGs):TG:=λv σ H Q=> ∃a xs,v= .ref a/\ĉ K H a xs/\xs.length=n/\t xs σ H Q
def PP {es:G0 S2}{k:P0}{t:TGs}{n:P0}(hc:X.calm=xb)(h:PGs X es t)
 (hn:(dG es X.env).length=n:=by rfl)(hst:(dG es X.env).findIdx? (·.1)=xa:=by rfl):PG X (.Tuple es k pos) (Sd X.K n t):=by
 intro À s σ H v u Q I r hw;obtain⟨a,xs,e1,hq,hl,hw⟩:=hw;subst e1;cases r;obtain⟨its,rv,ht,hz⟩:=I.tuple hq;refine assign_Tuple_tuple (I.ok.hd hc) ht (by simp [hn,<-hl,rv.length]) hst λh' hx=> ?_
 have I1:Inv X À σ H {s with heap:=h'}:=I.kept (t':=s.toks) λb o e=>hx b o (M6 (D7 e)) e
 exact h À _ σ H xs _ Q I1 (by simpa using rv) hw
def Kv (to ti:TE)(t:Sy):TG:=λv σ H Q=>to σ H λo H1=>ti σ H1 λi H2=>t o i v H2 λH3=>Q σ H3
def OI {o i:S2}{to ti:TE}{t:Sy}(ho:PE X o to)(hi:PE X i ti)(hs:HA X t)
 (ha: ∀v,dF (.Subscript o i pos) X.env v=(do
  let ov <-Z6 [v] (L7 o X.env)
  let iv <-Z6 [v,ov] (L7 i X.env)
  cZ pos
  Z6 [v,ov,iv] (tO ov iv v)
  G0k [v,ov,iv] []):=by intro _;rfl):PG X (.Subscript o i pos) (Kv to ti t):=by
 intro À s σ H v u Q I r h;rw [ha];refine xg (O8 (Ø (ho À s σ H _ I h) λov s1 ⟨x,H1,I1,r1,q1⟩=> ?_));refine xg (O8 (Ø (hi À s1 σ H1 _ I1 q1) λiv s2 ⟨y,H2,I2,r2,q2⟩=> ?_));refine xg (U1 (xg (O8 (Ø (hs À s2 σ H2 x y v ov iv u _ I2 r1 r2 r q2) λ_ s3 ⟨H3,I3,q3⟩=> ?_))));exact wpAny_release ⟨σ,H3,I3,q3⟩
def ML (te:TE)(g:TG):TS:=λD σ H=>te σ H λx H1=>g x σ H1 D.nx
def OJ {tg:S2}{te:TE}{g:TG}(he:PE X e te)(hg:PG X tg g)(hs:cU [tg] e pos.line X.env=pure xf:=by rfl)(hw:cV [tg] e X.env=pure xa:=by rfl)
 (h1:(dG [tg] X.env).map (·.2)= [dF tg X.env]:=by rfl):PS X (.Assign [tg] e pos) (ML te g):=by
 intro À s σ H D I h;refine wpAny_Assign_stores (Ø (he À s σ H _ I h) λv s1 ⟨x,H1,I1,r1,q1⟩=> ?_) hs hw;rw [h1];exact Ø (hg À s1 σ H1 x v _ I1 r1 q1) λ_ s2 q=>q
def OK {te:TE}{pos':Pos}(hN:X.N.Nodup)(hi:X.N[i]? =zq x)(hx:Loc X.env.scope x)(he:PE X e te)(hs:U0 e (zq (.Name x pos')) pos.line X.env=pure xf:=by rfl)(hf:X.fn x=xb\/X.env.scope.names.lookup x=zq .local:=by first|exact .inl rfl|exact .inr rfl|assumption):
 PS X (.Assign [.Name x pos'] e pos) (ML te (wR i)):=by
 intro À s σ H D I h;refine qH (Ø (he À s σ H _ I h) λv s1 ⟨y,H1,I1,r1,q1⟩=> ?_) hs;exact wM I1 hN hi hx r1 (λs2 I2=>⟨_,H1,I2,q1⟩) hf
def HB (i j:P0)(ta:TA):TS:=λD σ H=>ta σ H λvs H1=> ∃v w,vs= [v,w]/\D.nx ((σ.set i (zq v)).set j (zq w)) H1
def OL {j:P0}{y:Str}{a b:S2}{ta:TA}{px py pt:Pos}{kt k2 pt2}(hc:X.calm=xb)(hN:X.N.Nodup)(hi:X.N[i]? =zq x)(hj:X.N[j]? =zq y)(hij:i≠j)
 (hx:X.env.scope.names.lookup x=zq .local)(hy:X.env.scope.names.lookup y=zq .local)(ha:PA X [a,b] ta)
 (hw:cV [.Tuple [.Name x px,.Name y py] kt pt] (.Tuple [a,b] k2 pt2) X.env=pure (zq [x,y]))
 (hs:cU [.Tuple [.Name x px,.Name y py] kt pt] (.Tuple [a,b] k2 pt2) pos.line X.env=pure xf:=by rfl):
 PS X (.Assign [.Tuple [.Name x px,.Name y py] kt pt] (.Tuple [a,b] k2 pt2) pos) (HB i j ta):=by
 intro À s σ H D I h;rw [exec_Assign_arm];refine xg (U1 ?_);rw [hs];refine xg (G8 ?_);rw [R9 (by decide)];refine xg (Tuple_ (Ø (ha _ À s σ H _ I h) λus s1 ⟨vs,H1,I1,r1,q1⟩=> ?_));obtain⟨v,w,e1,q1⟩:=q1;subst e1;obtain⟨u1,u2,rfl,rv,rw'⟩: ∃u1 u2,us= [u1,u2]/\RelV v u1/\RelV w u2:=by
  cases r1 with
  |cons p q=>
   cases q with
   |cons p' q'=>
    cases q';exact⟨_,_,rfl,p,p'⟩
 refine Q8 ?_ (by show 2<=xh;decide);have I2:Inv X À σ H1 {s1 with heap:=s1.heap.push {cls:= .type "tuple",data:= .seq [u1,u2].toArray}}:=I1.kept (t':=s1.toks) λb o e=>G9 _ e
 rw [hw];refine xg (G8 ?_);show D6 (R3 X.prog X.w) X.A (do rule "assign.swapped-stores";let items <-unpackItems (.ref s1.heap.objs.size) 2 xa;pB [λv=>tW X.env y v,λv=>tW X.env x v] items.reverse;pure Flow.next) _ _ _;refine xg (dH (xg (unpackItems_tuple (items:= #[u1,u2]) (I.ok.hd hc) (IsTup.new s1.heap _) λh' ğ=> ?_)));have I3:=I2.kept (h':=h') (t':=s1.toks) λb o e=>ğ b o (M6 (D7 e)) e
 show D6 _ _ (pB [λv=>tW X.env y v,λv=>tW X.env x v] [u2,u1] >>= λ_=>pure Flow.next) _ _ _;refine xg (iN (nV (wM I3 hN hj (.inl hy) rw' (λs2 I4=> ?_) (.inr hy))));refine iN (nV (wM I4 hN hi (.inl hx) rv (λs3 I5=>qG (G8 ?_)) (.inr hx)));rw [List.set_comm _ _ (O6 hij)] at I5;exact⟨_,H1,I5,q1⟩
def HE (i:P0)(te:TE)(ti:TIp):TS:=λD σ H=> ∃x,σ[i]? =zq (zq x)/\te σ H λy H1=>ti x y H1 λz H2=>D.nx (σ.set i (zq z)) H2
def OM {te:TE}{op:qF}{ti:TIp}{pos':Pos}(hN:X.N.Nodup)(hi:X.N[i]? =zq x)(hx:Loc X.env.scope x)(he:PE X e te)(ho:PIp X op ti)(hf:X.fn x=xb\/X.env.scope.names.lookup x=zq .local:=by first|exact .inl rfl|exact .inr rfl|assumption):
 PS X (.AugAssign (.Name x pos') op e pos) (HE i te ti):=by
 intro À s σ H D I h;obtain⟨v,e1,h⟩:=h;obtain⟨m,hn,hl⟩:=I.loc;have vis:Vis X.env.scope x:=by rcases hx with k|k;exact .inl k;exact .inr (.inl k)
 obtain⟨u,r,l⟩:=hl i x v hi e1 vis;refine wpAny_AugAssign_Name ?_;have go:D6 (R3 X.prog X.w) X.A (L7 e X.env) (λw s₂=>D6 (R3 X.prog X.w) X.A (inplaceOp op u w) (λr s₃=>D6 (R3 X.prog X.w) X.A (xG X.env x r) (λ_=>SP X À D .next) X.xe s₃) X.xe s₂) X.xe s:=by
  refine Ø (he À s σ H _ I h) λw s1 ⟨y,H1,I1,r1,q1⟩=> ?_
  refine Ø (ho À s1 σ H1 v y u w _ I1 r r1 q1) λz s2 ⟨zv,H2,I2,r2,q2⟩=> ?_
  exact wM I2 hN hi hx r2 (λs3 I3=>⟨_,H2,I3,q2⟩) hf
 rcases l with ⟨hk,hm⟩|⟨hk,c,hc,Ř⟩
 ·exact gZ I.ok.kind hk hn hm go
 ·rcases hk with hk|hk
  ·exact oZ I.ok.kind hk hc Ř go
  ·rcases hx with k|k
   ·have:X.env.scope.names.lookup x=zq .free:=hk;rw [k] at this;cases this
   ·have:X.env.scope.names.lookup x=zq .free:=hk;rw [k] at this;cases this
def ipI (f:P4->P4->P4):TIp:=λx y H Q=> ∃i j,x= .int i/\y= .int j/\Q (.int (f i j)) H
def ON:PIp X .Add (ipI λi j=>i+j):=by
 intro À s σ H x y v u Q I r1 r2 h;obtain⟨i,j,e1,e2,q⟩:=h;subst e1;subst e2;obtain⟨t,rfl⟩:=r1;obtain⟨t',rfl⟩:=r2;exact iadd_int ⟨.int _,H,I.tok _,⟨_,rfl⟩,q⟩
def BJ (c:TT)(tb:TS):TS:=λD σ H=> ∃W:P0->St->Hp->Prop,(∃m,W m σ H)/\ ∀m σ H,W m σ H->
 c σ H λb H1=>if b=xb then ∃N:St->Hp->Prop,(∀Â H',N Â H'-> ∃m',m'<m/\W m' Â H')/\tb {D with nx:=N,ct:=N,bk:=D.nx} σ H1 else D.nx σ H1
def MM {c:S2}{body:G0 L8}{tc:TT}{tb:TS}(hp:iJ (R3 X.prog X.w) X.A X.env X.xe)(hc:PT X c tc)(hb:ő X body tb):PS X (.While c body [] pos) (BJ tc tb):=by
 intro À s σ H D I h;obtain⟨W,⟨m0,w0⟩,turn⟩:=h;refine wpAny_While (codeAny_whileLoop (λn s'=> ∃Â H',Inv X À Â H' s'/\W n Â H') ?_ m0 ⟨σ,H,I,w0⟩);rintro n s1 ⟨σ1,H1,I1,w1⟩;refine aB hp (Ø (hc À s1 σ1 H1 _ I1 (turn n σ1 H1 w1)) λb s2 ⟨H2,I2,q2⟩=> ?_);cases b with
 |true=>
  obtain⟨N,hN,q2⟩:=q2;rw [S5 rfl];refine aB hp (Ø (hb À s2 σ1 H2 _ I2 q2) λf s3 q3=> ?_);cases f with
  |next=>
   obtain⟨þ,H3,I3,n3⟩:=q3;obtain⟨m',hm,w3⟩:=hN þ H3 n3;exact⟨m',hm,þ,H3,I3,w3⟩
  |cont=>
   obtain⟨þ,H3,I3,n3⟩:=q3;obtain⟨m',hm,w3⟩:=hN þ H3 n3;exact⟨m',hm,þ,H3,I3,w3⟩
  |brk=>exact q3
  |ret v=>exact q3
 |false=>
  rw [R9 D2];exact bH ⟨σ1,H2,I2,q2⟩
end
structure It where
 go:P0->Hp->Prop
 yld:P0->Hp->V->Hp->Prop
 stop:P0->Hp->Prop
def Px (X:Cx)(À:G0 (G7×Obj))(H:Hp)(b:G7):Prop:=
 H b=xa/\b≠X.env.locals/\b ∉ X.fs/\(b∈X.ex\/X.s₀.heap.objs.size<=b)/\(∀x c,X.env.cells.lookup x=zq c->c≠b)/\ ∀p∈X.pn++À,p.1≠b
def Inv.fpOk {À:G0 (G7×Obj)}{σ:St}{H':Hp}(I:Inv X À σ H s)(hb:s.heap.objs.size<=b)(hn:H' b=xa):Px X À H' b:=by
 refine⟨hn,K4 (S8 I.lt hb),I.nofs hb,.inr (M1 I.sz hb),λx c e z=> ?_,λp hp z=> ?_⟩
 ·obtain⟨v,q⟩:=I.cell x c e;exact xj (S8 q.lt (by rw [z];exact hb)) (O7 _)
 ·exact xj (S8 (D7 (I.pin p hp).1) (by rw [z];exact hb)) (O7 _)
structure Ν (P:D5)(w:T8)(K:G3)(tg:S2)(J:It)(fp:G0 G7)(it:G7)(tn:P0->N8->Prop):Prop where
 mem:it∈fp
 obj: ∀i h,tn i h-> ∀b∈fp,∃o,h.get? b=zq o/\ ∀v,o.data≠ .cell v
 keep: ∀i h h',tn i h->(∀b∈fp,∀o,h.get? b=zq o->h'.get? b=zq o)->tn i h'
 item: ∀ (X:Cx),X.prog=P->X.w=w->X.K=K->X.calm=xb-> ∀ (i:P0) (À:G0 (G7×Obj)) (s:G2) (σ:St) (H:Hp) (E:G1->G2->Prop),Inv X À σ H s->(∀b∈fp,Px X À H b)->tn i s.heap->J.go i H->
  D6 (R3 P w) X.A (mQ (.ref it)) (λr s1=> ∃u,r=zq u/\
   D6 (R3 P w) X.A (c9 tg (.ref it) u) (λ_ s2=> ∃x H',Inv X À σ H' s2/\RelV x u/\J.yld i H x H'/\tn (i+1) s2.heap/\ ∀b∈fp,H' b=xa) E s1) E s
 done: ∀ (X:Cx),X.prog=P->X.w=w->X.K=K->X.calm=xb-> ∀ (i:P0) (À:G0 (G7×Obj)) (s:G2) (σ:St) (H:Hp) (E:G1->G2->Prop),Inv X À σ H s->(∀b∈fp,Px X À H b)->tn i s.heap->J.stop i H->
  D6 (R3 P w) X.A (mQ (.ref it)) (λr s1=>r=xa/\Inv X À σ H s1) E s
 self: ∀ (A:S4) (i:P0) (s:G2) (Q:G1->G2->Prop) (E:G1->G2->Prop),tn i s.heap->Q (.ref it) s->D6 (R3 P w) A (pP (.ref it)) Q E s
abbrev TI:=St->Hp->(It->Hp->Prop)->Prop
def PIE (X:Cx)(À:G0 (G7×Obj))(σ:St)(tg:S2)(R:It->Hp->Prop)(itv:G1)(s2:G2):Prop:=
 ∃ (it:G7) (fp:G0 G7) (tn:P0->N8->Prop) (J:It) (H':Hp),itv= .ref it/\Inv X À σ H' s2/\Ν X.prog X.w X.K tg J fp it tn/\tn 0 s2.heap/\(∀b∈fp,Px X À H' b)/\R J H'
def PI (X:Cx)(tg iter:S2)(wi:TI):Prop:=
 ∀ (À:G0 (G7×Obj)) (s:G2) (σ:St) (H:Hp) (R:It->Hp->Prop),Inv X À σ H s->wi σ H R->
  D6 (R3 X.prog X.w) X.A (L7 iter X.env) (λv s1=>D6 (R3 X.prog X.w) X.A (pP v) (PIE X À σ tg R) X.xe s1) X.xe s
variable {tg:S2}
def MN {M : cN} {E : G1 → G2 → Prop} {it : G7} {o : Obj} {n : F7} {vs : T7 G1} {Q : Unit → G2 → Prop} (ho : s.heap.get? it = zq o) (hc : o.cls = .type n) (hd : o.data = .fields vs)
    (hn : ["enumerate", "zip", "dict_itemiterator", "dict_reverseitemiterator", "odict_iterator", "itertools.zip_longest", "itertools.pairwise"].contains n = xf) (hQ : Q () s) : D6 M A (c9 tg (.ref it) u) Q E s := by
  unfold c9
  cases tg <;> first
    | exact G8 hQ
    | (cases u <;> first
        | exact G8 hQ
        | (refine xg (tX ho ?_)
           rw [hc, hd]
           show D6 M A (if (["enumerate", "zip", "dict_itemiterator", "dict_reverseitemiterator", "odict_iterator", "itertools.zip_longest", "itertools.pairwise"].contains n && vs[0]? == zq (aS _)) = xb then _ else _) Q E s
           rw [R9 (by intro h; rw [hn, dZ] at h; cases h)]
           exact G8 hQ))
def Itl (K:G3)(a:G7):It:=
 ⟨λi H=> ∃xs x,õ K H a xs/\xs[i]? =zq x,λi H x H'=>H'=H/\ ∀xs,õ K H a xs->xs[i]? =zq x,λi H=> ∃xs,õ K H a xs/\xs.length<=i⟩
def Itt (K:G3)(a:G7):It:=
 ⟨λi H=> ∃xs x,ĉ K H a xs/\xs[i]? =zq x,λi H x H'=>H'=H/\ ∀xs,ĉ K H a xs->xs[i]? =zq x,λi H=> ∃xs,ĉ K H a xs/\xs.length<=i⟩
def Itr (lo:P4)(n:P0):It:=⟨λi _=>i<n,λi H x H'=>H'=H/\x= .int (lo+i),λi _=>n<=i⟩
variable {K:G3}
def Ue (a it:G7):Ν P w K tg (Itl K a) [it] it (λi h=>h.IsListIter it a i) where
 mem:=by simp
 obj:=λi h st b hb=>by
  have e:b=it:=by simpa using hb
  subst e;obtain⟨o,e,c,d⟩:=st;exact⟨o,e,λv z=>by rw [d] at z;cases z⟩
 keep:=λi h h' st k=>st.at λo e=>k it (by simp) o e
 item:=by
  intro X hP hw hK hc i À s σ H E I hf st hg;subst hP hw hK;obtain⟨xs,x,hq,hx⟩:=hg;obtain⟨its,rv,p,hz⟩:=I.list hq;obtain⟨u,hu,ru⟩:=rv.get hx;obtain⟨f0,f1,f2,f3,f4,f5⟩:=hf it (by simp);refine wpAny_pyNext_list_item st p.isList (x:=u) (by simpa using hu) λh' Ç sb=> ?_
  have I1:Inv X À σ H {s with heap:=h'}:=I.turned (t':=s.toks) (λb o hb e=>(sb.2 b hb).trans e) f0 f1 f3 f4 f5;obtain⟨o,e,c,d⟩:=id Ç;exact⟨u,rfl,MN (s:= {s with heap:=h'}) e c d (by decide) ⟨x,H,I1,ru,⟨rfl,λys hy=>by rw [I.list_inj hy hq];exact hx⟩,Ç,λb hb=>(hf b hb).1⟩⟩
 done:=by
  intro X hP hw hK hc i À s σ H E I hf st hg;subst hP hw hK;obtain⟨xs,hq,hx⟩:=hg;obtain⟨its,rv,p,hz⟩:=I.list hq;obtain⟨f0,f1,f2,f3,f4,f5⟩:=hf it (by simp);have hl:=rv.length;exact wpAny_pyNext_list_end (I.ok.hd hc) st p.isList (by simp;omega) λh' eb=>⟨rfl,I.turned (t':=s.toks) (λb o hb e=>eb b o hb e) f0 f1 f3 f4 f5⟩
 self:=λ_ _ _ _ _ st h=>wpAny_pyIter_listiter st h
def Gz (a it:G7):Ν P w K tg (Itt K a) [it] it (λi h=>h.IsTupleIter it a i) where
 mem:=by simp
 obj:=λi h st b hb=>by
  have e:b=it:=by simpa using hb
  subst e;obtain⟨o,e,c,d⟩:=st;exact⟨o,e,λv z=>by rw [d] at z;cases z⟩
 keep:=λi h h' st k=>st.at λo e=>k it (by simp) o e
 item:=by
  intro X hP hw hK hc i À s σ H E I hf st hg;subst hP hw hK;obtain⟨xs,x,hq,hx⟩:=hg;obtain⟨its,rv,p,hz⟩:=I.tuple hq;obtain⟨u,hu,ru⟩:=rv.get hx;obtain⟨f0,f1,f2,f3,f4,f5⟩:=hf it (by simp);refine wpAny_pyNext_tuple_item st (show s.heap.IsTuple a its.toArray from p) (x:=u) (by simpa using hu) λh' Ç sb=> ?_
  have I1:Inv X À σ H {s with heap:=h'}:=I.turned (t':=s.toks) (λb o hb e=>(sb.2 b hb).trans e) f0 f1 f3 f4 f5;obtain⟨o,e,c,d⟩:=id Ç;exact⟨u,rfl,MN (s:= {s with heap:=h'}) e c d (by decide) ⟨x,H,I1,ru,⟨rfl,λys hy=>by rw [I.tuple_inj hy hq];exact hx⟩,Ç,λb hb=>(hf b hb).1⟩⟩
 done:=by
  intro X hP hw hK hc i À s σ H E I hf st hg;subst hP hw hK;obtain⟨xs,hq,hx⟩:=hg;obtain⟨its,rv,p,hz⟩:=I.tuple hq;obtain⟨f0,f1,f2,f3,f4,f5⟩:=hf it (by simp);have hl:=rv.length;exact wpAny_pyNext_tuple_end (I.ok.hd hc) st (show s.heap.IsTuple a its.toArray from p) (by simp;omega) λh' eb=>⟨rfl,I.turned (t':=s.toks) (λb o hb e=>eb b o hb e) f0 f1 f3 f4 f5⟩
 self:=λ_ _ _ _ _ st h=>wpAny_pyIter_tupleiter st h
def GA (it:G7)(lo:P4)(n:P0):Ν P w K tg (Itr lo n) [it] it (λi h=>y8 h it (lo+(i:P0)*1) ((n:P4)-(i:P0)) 1) where
 mem:=by simp
 obj:=λi h st b hb=>by
  have e:b=it:=by simpa using hb
  subst e;exact⟨_,st,λv z=>by
   have z':Data.fields _=Data.cell v:=z;cases z'⟩
 keep:=λi h h' st k=>k it (by simp) _ st
 item:=by
  intro X hP hw hK hc i À s σ H E I hf st hg;subst hP hw hK;obtain⟨f0,f1,f2,f3,f4,f5⟩:=hf it (by simp);have W:=Walks.range (prog:=X.prog) (w:=X.w) (I.ok.hd hc) it lo 1 n;refine W.item i s _ _ hg st λv h' tk hv Ç kk=> ?_
  obtain⟨t,rfl⟩:=hv;have I1:Inv X À σ H {s with heap:=h',toks:=tk}:=I.turned (λb o hb e=>kk b o (by simpa using hb) e) f0 f1 f3 f4 f5;refine⟨_,rfl,MN (s:= {s with heap:=h',toks:=tk}) (n:= "range_iterator") Ç rfl rfl (by decide) ⟨.int (lo+i),H,I1,⟨t,?_⟩,⟨rfl,rfl⟩,Ç,λb hb=>(hf b hb).1⟩⟩;rw [Int.mul_one]
 done:=by
  intro X hP hw hK hc i À s σ H E I hf st hg;subst hP hw hK;obtain⟨f0,f1,f2,f3,f4,f5⟩:=hf it (by simp);exact wpAny_pyNext_range_end (I.ok.hd hc) st (by have:n<=i:=hg;omega) λh' eb=>⟨rfl,I.turned (t':=s.toks) (λb o hb e=>eb b o hb e) f0 f1 f3 f4 f5⟩
 self:=λ_ _ _ _ _ st h=>wpAny_pyIter_rangeiter st h
section
variable {X:Cx}{tg:S2}
def OO (K:G3)(tl:TE):TI:=λσ H R=>tl σ H λx H1=> ∃a,x= .ref a/\(∃xs,õ K H1 a xs)/\R (Itl K a) H1
def Cz {l:S2}{tl:TE}(hl:PE X l tl):PI X tg l (OO X.K tl):=by
 intro À s σ H R I h;refine Ø (hl À s σ H _ I h) λv s1 ⟨x,H1,I1,r1,q1⟩=> ?_
 obtain⟨a,e,⟨xs,hq⟩,q⟩:=q1;subst e;cases r1;obtain⟨its,rv,p,hz⟩:=I1.list hq;refine bS p.isList ?_;refine⟨s1.heap.objs.size,[s1.heap.objs.size],_,_,H1,rfl,I1.kept (t':=s1.toks) λb o e=>G9 _ e,Ue a _,⟨_,S7 _ rfl,rfl,rfl⟩,λb hb=> ?_,q⟩;have e:b=s1.heap.objs.size:=by simpa using hb
 subst e;exact I1.fpOk (P7 _) (I1.hok.fresh (P7 _))
variable {À:G0 (G7×Obj)}
def QM {σ:St}{H:Hp}{s:G2}{R:It->Hp->Prop}{E:G1->G2->Prop}{lo hi:P4}{t u v:Tok}{tk:P0}(I:Inv X À σ H s)(h1: -(2^62)<=lo)(h2:lo<2^62)(h3: -(2^62)<=hi)(h4:hi<2^62)
 (q:R (Itr lo (hi-lo).toNat) H):D6 (R3 X.prog X.w) X.A (pP (.ref s.heap.objs.size)) (PIE X À σ tg R) E {s with heap:=s.heap.push {cls:= .type "range",data:= .fields #[.int lo t,.int hi u,.int 1 v]},toks:=tk}:=by
 refine wpAny_pyIter_range (IsRange.new ..) (small_one h1 h2 h3 h4) ?_;have I1:Inv X À σ H {s with heap:=s.heap.push {cls:= .type "range",data:= .fields #[.int lo t,.int hi u,.int 1 v]},toks:=tk}:=I.kept λb o e=>G9 _ e
 refine⟨(s.heap.push {cls:= .type "range",data:= .fields #[.int lo t,.int hi u,.int 1 v]}).objs.size,[(s.heap.push {cls:= .type "range",data:= .fields #[.int lo t,.int hi u,.int 1 v]}).objs.size],_,_,H,rfl,
  I1.kept (t':=tk) λb o e=>G9 _ e,GA _ lo (hi-lo).toNat,?_,λb hb=> ?_,q⟩
 ·have e1:lo+((0:P0):P4)*1=lo:=by simp
  have e2:(((hi-lo).toNat:P0):P4)-((0:P0):P4)=Builtin.Range.rangeSize lo hi 1:=by rw [rangeSize_one];split<;>omega
  show y8 _ _ (lo+((0:P0):P4)*1) ((((hi-lo).toNat:P0):P4)-((0:P0):P4)) 1;rw [e1,e2];exact S7 _ rfl
 ·have e:b=(s.heap.push {cls:= .type "range",data:= .fields #[.int lo t,.int hi u,.int 1 v]}).objs.size:=by simpa using hb
  subst e;exact I1.fpOk (P7 _) (I1.hok.fresh (P7 _))
def OP (ta:TA):TI:=λσ H R=>ta σ H λvs H1=> ∃j:P4,vs= [.int j]/\ -(2^62)<=j/\j<2^62/\R (Itr 0 j.toNat) H1
def OQ (ta:TA):TI:=λσ H R=>ta σ H λvs H1=> ∃i j:P4,vs= [.int i,.int j]/\(-(2^62)<=i/\i<2^62/\ -(2^62)<=j/\j<2^62)/\R (Itr i (j-i).toNat) H1
def PQ {a:S2}{ta:TA}{p pos:Pos}(hg:Gl X "range")(hm:X.mg "range" =xa)(ha:PA X [a] ta)(hs:P9 [a] X.env= [(xf,L7 a X.env)]:=by rfl):PI X tg (.Call (.Name "range" p) [a] [] pos) (OP ta):=by
 intro À s σ H R I h;refine Call_ (Yu I hg hm IX (Y3 (Ø (ha pos À s σ H _ I h) λus s1 ⟨vs,H1,I1,r1,q1⟩=> ?_) hs rfl));obtain⟨j,e,q1,q2,q⟩:=q1;subst e;cases r1 with
 |cons r rr=>
  cases rr;obtain⟨t,rfl⟩:=r;exact call_range_1 (QM I1 (by omega) (by omega) q1 q2 (by simpa using q))
def PR {a b:S2}{ta:TA}{p pos:Pos}(hg:Gl X "range")(hm:X.mg "range" =xa)(ha:PA X [a,b] ta)(hs:P9 [a,b] X.env= [(xf,L7 a X.env),(xf,L7 b X.env)]:=by rfl)(hs2:P9 [b] X.env= [(xf,L7 b X.env)]:=by rfl):
 PI X tg (.Call (.Name "range" p) [a,b] [] pos) (OQ ta):=by
 intro À s σ H R I h;refine Call_ (Yu I hg hm IX (Y3 (Ø (ha pos À s σ H _ I h) λus s1 ⟨vs,H1,I1,r1,q1⟩=> ?_) (by rw [hs,hs2]) (by rw [hs2];rfl)));obtain⟨i,j,e,⟨q1,q2,q3,q4⟩,q⟩:=q1;subst e;cases r1 with
 |cons r rr=>
  cases rr with
  |cons r' rr=>
   cases rr;obtain⟨t,rfl⟩:=r;obtain⟨t',rfl⟩:=r';exact call_range_2 (QM I1 q1 q2 q3 q4 q)
def HF (wi:TI)(g:TG)(tb:TS):TS:=λD σ H=>wi σ H λJ H1=> ∃W:P0->P0->St->Hp->Prop,(∃m,W 0 m σ H1)/\ ∀i m σ H,W i m σ H->
 (J.stop i H/\D.nx σ H)\/(J.go i H/\ ∃N:St->Hp->Prop,(∀Â H',N Â H'-> ∃m',m'<m/\W (i+1) m' Â H')/\ ∀x H',J.yld i H x H'->g x σ H' λÜ H2=>tb {D with nx:=N,ct:=N,bk:=D.nx} Ü H2)
def vF (fp:G0 G7)(h:N8):G0 (G7×Obj):=fp.filterMap λb=>(h.get? b).map λo=>(b,o)
def wB {fp:G0 G7}{h:N8}{b:G7}{o:Obj}(hb:b∈fp)(e:h.get? b=zq o):(b,o)∈vF fp h:=bE.mpr ⟨b,hb,by rw [e];rfl⟩
def Wa {fp:G0 G7}{h:N8}{p:G7×Obj}(hp:p∈vF fp h):p.1∈fp/\h.get? p.1=zq p.2:=by
 obtain⟨b,hb,e⟩:=bE.mp hp;cases q:h.get? b with
 |none=>rw [q] at e;cases e
 |some o=>
  rw [q] at e;have e':(b,o)=p:=C9 e;subst e';exact⟨hb,q⟩
def Inv.pinned {σ:St}{H:Hp}{s:G2}{fp:G0 G7}(I:Inv X À σ H s)(hf: ∀b∈fp,Px X À H b)(ho: ∀b∈fp,∃o,s.heap.get? b=zq o/\ ∀v,o.data≠ .cell v):Inv X (À++vF fp s.heap) σ H s:=
 I.pins_of λp hp=>(D9.mp hp).elim (λz=>I.pin p (D3 _ z)) λz=>by
  obtain⟨hb,e⟩:=Wa z;obtain⟨f0,f1,f2,_⟩:=hf p.1 hb;obtain⟨o,e',d⟩:=ho p.1 hb;rw [e] at e';cases e';exact⟨e,f0,f1,f2,d⟩
def Inv.unpinned {pl:G0 (G7×Obj)}{σ:St}{H:Hp}{s:G2}(I:Inv X (À++pl) σ H s):Inv X À σ H s:=I.pins_of λp hp=>I.pin p (D3 _ (O0 _ hp))
def BK {iter:S2}{body:G0 L8}{wi:TI}{g:TG}{tb:TS}{pos:Pos}(hp:iJ (R3 X.prog X.w) X.A X.env X.xe)(hc:X.calm=xb)(hi:PI X tg iter wi)(hg:PG X tg g)(hb:ő X body tb)
 (hs: ∀x,T5 iter X.env x=pure x:=by intro _;rfl):PS X (.For tg iter body [] pos) (HF wi g tb):=by
 intro À s σ H D I h;refine wpAny_For (Ø (hi À s σ H _ I h) λv s1 h1=>Ø h1 λitv s2 h2=> ?_) hs;obtain⟨it,fp,tn,J,H2,e,I2,T,Œ,f2,W,⟨m0,w0⟩,turn⟩:=h2;subst e
 -- X0X stays xb of ζ Ξ objects through ζ loop
 have ļ: ∀ {H':Hp},(∀b∈fp,H' b=xa)-> ∀b∈fp,Px X À H' b:=λhn b hb=>⟨hn b hb,(f2 b hb).2⟩
 refine codeAny_forLoop_any (λn s'=> ∃i Â H',Inv X À Â H' s'/\tn i s'.heap/\(∀b∈fp,H' b=xa)/\W i n Â H') ?_ m0 ⟨0,σ,H2,I2,Œ,λb hb=>(f2 b hb).1,w0⟩;rintro n s3 ⟨i,þ,H3,I3,st3,fr3,w3⟩;rcases turn i n þ H3 w3 with ⟨stop,qn⟩|⟨go,N,hN,step⟩
 ·refine aB hp (Ø (T.done X rfl rfl rfl hc i À s3 þ H3 X.xe I3 (ļ fr3) st3 stop) λr s4 ⟨hr,I4⟩=> ?_);subst hr;exact bH ⟨þ,H3,I4,qn⟩
 ·refine aB hp (Ø (T.item X rfl rfl rfl hc i À s3 þ H3 X.xe I3 (ļ fr3) st3 go) λr s4 ⟨u,hr,h4⟩=> ?_);subst hr;refine aB hp (Ø h4 λ_ s5 ⟨x,H5,I5,r5,y5,st5,fr5⟩=> ?_);have I5':=I5.pinned (ļ fr5) (T.obj _ _ st5);refine aB hp (Ø (hg _ s5 þ H5 x u _ I5' r5 (step x H5 y5)) λ_ s6 ⟨σ6,H6,I6,q6⟩=> ?_);refine aB hp (Ø (hb _ s6 σ6 H6 _ I6 q6) λf s7 q7=> ?_);have again: ∀ {σ7:St} {H7:Hp},Inv X (À++vF fp s5.heap) σ7 H7 s7->N σ7 H7-> ∃m,m<n/\ ∃i Â H',Inv X À Â H' s7/\tn i s7.heap/\(∀b∈fp,H' b=xa)/\W i m Â H':=λ{σ7 H7} I7 n7=>by
   obtain⟨m',hm,w7⟩:=hN σ7 H7 n7;refine⟨m',hm,i+1,σ7,H7,I7.unpinned,T.keep _ _ _ st5 λb hb o e=>(I7.pin (b,o) (D3 _ (D3 _ (wB hb e)))).1,λb hb=> ?_,w7⟩;obtain⟨o,e,d⟩:=T.obj _ _ st5 b hb;exact(I7.pin (b,o) (D3 _ (D3 _ (wB hb e)))).2.1
  cases f with
  |next=>obtain⟨σ7,H7,I7,n7⟩:=q7;exact again I7 n7
  |cont=>obtain⟨σ7,H7,I7,n7⟩:=q7;exact again I7 n7
  |brk=>obtain⟨σ7,H7,I7,q7⟩:=q7;exact⟨σ7,H7,I7.unpinned,q7⟩
  |ret v=>obtain⟨x7,σ7,H7,I7,r7,q7⟩:=q7;exact⟨x7,σ7,H7,I7.unpinned,r7,q7⟩
end
abbrev R2:=V->V->Hp->VK->Prop
def Ĉ (X:Cx)(f:G1->G1->Sem G1)(r:R2):Prop:=
 ∀ (À:G0 (G7×Obj)) (s:G2) (σ:St) (H:Hp) (x y:V) (v u:G1) (Q:VK),Inv X À σ H s->RelV x v->RelV y u->r x y H Q->
  D6 (R3 X.prog X.w) X.A (f v u) (EP X À σ Q) X.xe s
def UnR (X:Cx)(f:G1->Sem G1)(r:V->Hp->VK->Prop):Prop:=
 ∀ (À:G0 (G7×Obj)) (s:G2) (σ:St) (H:Hp) (x:V) (v:G1) (Q:VK),Inv X À σ H s->RelV x v->r x H Q->
  D6 (R3 X.prog X.w) X.A (f v) (EP X À σ Q) X.xe s
def ê (X:Cx)(f:G1)(r:G0 V->Hp->VK->Prop):Prop:=
 ∀ (À:G0 (G7×Obj)) (s:G2) (σ:St) (H:Hp) (xs:G0 V) (us:G0 G1) (Q:VK),Inv X À σ H s->Æ xs us->r xs H Q->
  D6 (R3 X.prog X.w) X.A (call f us) (EP X À σ Q) X.xe s
def tOp (r:R2)(ta tb:TE):TE:=λσ H Q=>ta σ H λx H1=>tb σ H1 λy H2=>r x y H2 Q
def tUn (r:V->Hp->VK->Prop)(ta:TE):TE:=λσ H Q=>ta σ H λx H1=>r x H1 Q
def rI (C:P4->P4->Prop)(g:P4->P4->V):R2:=λx y H Q=> ∃i j,x= .int i/\y= .int j/\C i j/\Q (g i j) H
def rI0 (g:P4->P4->V):R2:=λx y H Q=> ∃i j,x= .int i/\y= .int j/\Q (g i j) H
def rU (g:P4->V):V->Hp->VK->Prop:=λx H Q=> ∃i,x= .int i/\Q (g i) H
section
variable {X:Cx}{a b c:S2}{ta tb tc:TE}{pos:Pos}
def Sz (ha:PE X a ta)(hb:PE X b tb){À:G0 (G7×Obj)}{s:G2}{σ:St}{H:Hp}{R:V->V->Hp->Prop}(I:Inv X À σ H s)
 (h:ta σ H λx H1=>tb σ H1 λy H2=>R x y H2){Q:G1->G2->Prop}{f:G1->G1->Sem G1}
 (hf: ∀v u s2 x y H2,Inv X À σ H2 s2->RelV x v->RelV y u->R x y H2->D6 (R3 X.prog X.w) X.A (f v u) Q X.xe s2):
 D6 (R3 X.prog X.w) X.A (L7 a X.env) (λv s₁=>D6 (R3 X.prog X.w) X.A (L7 b X.env) (λu s₂=>D6 (R3 X.prog X.w) X.A (f v u) Q X.xe s₂) X.xe s₁) X.xe s:=by
 refine Ø (ha À s σ H _ I h) λv s1 ⟨x,H1,I1,r1,q1⟩=> ?_
 refine Ø (hb À s1 σ H1 _ I1 q1) λu s2 ⟨y,H2,I2,r2,q2⟩=> ?_
 exact hf v u s2 x y H2 I2 r1 r2 q2
def SA {op:qF}{r:R2}(ho:Ĉ X (K6 op) r)(ha:PE X a ta)(hb:PE X b tb):PE X (.BinOp a op b pos) (tOp r ta tb):=by
 intro À s σ H Q I h;exact wpAny_BinOp (Sz ha hb I h λv u s2 x y H2 I2 rx ry q=>ho À s2 σ H2 x y v u Q I2 rx ry q)
def SB {op:UnaryOp}{r:V->Hp->VK->Prop}(ho:UnR X (unaryOp op) r)(ha:PE X a ta):PE X (.UnaryOp op a pos) (tUn r ta):=by
 intro À s σ H Q I h;exact UnaryOp_ (Ø (ha À s σ H _ I h) λv s1 ⟨x,H1,I1,r1,q1⟩=>ho À s1 σ H1 x v Q I1 r1 q1)
def opI {f:G1->G1->Sem G1}{C:P4->P4->Prop}{g:P4->P4->P4}
 (rule: ∀ (i j:P4) (t u:Tok) (s:G2) (Q:G1->G2->Prop) (E:G1->G2->Prop),C i j->Q (.int (g i j) s.toks) {s with toks:=s.toks+1}->D6 (R3 X.prog X.w) X.A (f (.int i t) (.int j u)) Q E s):
 Ĉ X f (rI C λi j=> .int (g i j)):=by
 intro À s σ H x y v u Q I rx ry h;obtain⟨i,j,rfl,rfl,hc,q⟩:=h;obtain⟨t,rfl⟩:=rx;obtain⟨t',rfl⟩:=ry;exact rule i j t t' s _ _ hc ⟨.int (g i j),H,I.tok _,⟨_,rfl⟩,q⟩
def HG {f:G1->G1->Sem G1}{g:P4->P4->P4}
 (rule: ∀ (i j:P4) (t u:Tok) (s:G2) (Q:G1->G2->Prop) (E:G1->G2->Prop),Q (.int (g i j) s.toks) {s with toks:=s.toks+1}->D6 (R3 X.prog X.w) X.A (f (.int i t) (.int j u)) Q E s):
 Ĉ X f (rI0 λi j=> .int (g i j)):=by
 intro À s σ H x y v u Q I rx ry h;obtain⟨i,j,rfl,rfl,q⟩:=h;obtain⟨t,rfl⟩:=rx;obtain⟨t',rfl⟩:=ry;exact rule i j t t' s _ _ ⟨.int (g i j),H,I.tok _,⟨_,rfl⟩,q⟩
def Se {f:G1->G1->Sem G1}{g:P4->P4->N3}
 (rule: ∀ (i j:P4) (t u:Tok) (s:G2) (Q:G1->G2->Prop) (E:G1->G2->Prop),Q (.bool (g i j)) s->D6 (R3 X.prog X.w) X.A (f (.int i t) (.int j u)) Q E s):
 Ĉ X f (rI0 λi j=> .bl (g i j)):=by
 intro À s σ H x y v u Q I rx ry h;obtain⟨i,j,rfl,rfl,q⟩:=h;obtain⟨t,rfl⟩:=rx;obtain⟨t',rfl⟩:=ry;exact rule i j t t' s _ _ ⟨.bl (g i j),H,I,rfl,q⟩
def Sf (i j:P4):Prop:=0<j/\j<1073741824
def HH (i j:P4):Prop:=0<=j/\j<=1000000/\i.natAbs<2^64
def X0H (i j:P4):Prop:=(-(2^64)<i/\i<2^64)\/(-(2^64)<j/\j<2^64)
def X0H.ok {i j:P4}(h:X0H i j):IntMulOk i j:=by
 rcases h with ⟨h1,h2⟩|⟨h1,h2⟩
 ·exact .of_left (uS h1 h2)
 ·exact .of_right (uS h1 h2)
def X0I:Ĉ X (K6 .Add) (rI0 λi j=> .int (i+j)):=HG λ_ _ _ _ _ _ _ q=>add_int q
def OR:Ĉ X (K6 .Sub) (rI0 λi j=> .int (i-j)):=HG λ_ _ _ _ _ _ _ q=>sub_int q
def X0J:Ĉ X (K6 .Mult) (rI X0H λi j=> .int (i*j)):=opI λ_ _ _ _ _ _ _ hc q=>mul_int q hc.ok
def CA:Ĉ X (K6 .FloorDiv) (rI Sf λi j=> .int (i / j)):=opI λi j _ _ _ _ _ hc q=>by
 have h1:(0:P4)<j:=hc.1;have h2:j<1073741824:=hc.2;exact floordiv_int (by omega) (by rw [iO i (by omega)];exact q) (.inl (PyProof.noPylong_small (by omega)))
def OS:Ĉ X (K6 .Mod) (rI (λ_ j=>0<j) λi j=> .int (i%j)):=opI λi j _ _ _ _ _ hc q=>by
 have h1:(0:P4)<j:=hc;exact mod_int' (by omega) (by rw [iP i (by omega)];exact q)
def OT:Ĉ X (K6 .Pow) (rI HH λi j=> .int (i^j.toNat)):=opI λ_ _ _ _ _ _ _ hc q=>pow_int_small hc.1 hc.2.1 hc.2.2 q
def unI {f:G1->Sem G1}{g:P4->P4}
 (rule: ∀ (i:P4) (t:Tok) (s:G2) (Q:G1->G2->Prop) (E:G1->G2->Prop),Q (.int (g i) s.toks) {s with toks:=s.toks+1}->D6 (R3 X.prog X.w) X.A (f (.int i t)) Q E s):
 UnR X f (rU λi=> .int (g i)):=by
 intro À s σ H x v Q I rx h;obtain⟨i,rfl,q⟩:=h;obtain⟨t,rfl⟩:=rx;exact rule i t s _ _ ⟨.int (g i),H,I.tok _,⟨_,rfl⟩,q⟩
def OU:UnR X (unaryOp .USub) (rU λi=> .int (-i)):=unI λ_ _ _ _ _ q=>neg_int q
end
def HI:V->V->N3
 | .non,.non=>xb| .non,.int _=>xb| .int _,.non=>xb| .non,.bl _=>xb| .bl _,.non=>xb| .non,.str _=>xb| .str _,.non=>xb
 | .int _,.int _=>xb| .bl _,.bl _=>xb| .str _,.str _=>xb| .byt _,.byt _=>xb
 | .int _,.str _=>xb| .str _,.int _=>xb| .bl _,.str _=>xb| .str _,.bl _=>xb
 |_,_=>xf
def rEq:R2:=λx y H Q=>HI x y=xb/\Q (.bl (decide (x=y))) H
def rNe:R2:=λx y H Q=>HI x y=xb/\Q (.bl (!decide (x=y))) H
def PU {i j:P4}:decide (V.int i=V.int j)=(i==j):=by
 rw [bI];simp
def BL {i j:N3}:decide (V.bl i=V.bl j)=(i==j):=by
 rw [bI];simp
def PV {i j:Str}:decide (V.str i=V.str j)=(i==j):=by
 rw [bI];simp
def PX {i j:T7 UInt8}:decide (V.byt i=V.byt j)=(i.toList==j.toList):=by
 rw [bI];cases i;cases j;simp
section
variable {X:Cx}{a b c:S2}{ta tb tc:TE}{pos:Pos}
def jN {À:G0 (G7×Obj)}{σ:St}{H:Hp}{s:G2}{Q:VK}{k k':N3}(I:Inv X À σ H s)(q:Q (.bl k) H)(e:k=k'):EP X À σ Q (.bool k') s:=by
 subst e;exact⟨.bl k,H,I,rfl,q⟩
def X09:Ĉ X (B8 .Eq) rEq:=by
 intro À s σ H x y v u Q I rx ry h;obtain⟨hs,q⟩:=h;cases x with
 |non=>
  cases rx;cases y with
  |non=>cases ry;exact PySem.EqNone.eq_none_none (jN I q (by simp))
  |bl j=>cases ry;exact PySem.EqNone.eq_none_bool (jN I q (by simp))
  |int j=>obtain⟨t',rfl⟩:=ry;exact PySem.EqNone.eq_none_int (jN I q (by simp))
  |str j=>obtain⟨t',rfl⟩:=ry;exact PySem.EqNone.eq_none_str (jN I q (by simp))
  |_=>exact xj (show xf=xb from hs) D2
 |bl i=>
  cases rx;cases y with
  |non=>cases ry;exact PySem.EqNone.eq_bool_none (jN I q (by simp))
  |bl j=>cases ry;exact eq_bool (jN I q BL)
  |str j=>obtain⟨t',rfl⟩:=ry;exact PySem.EqMixed.eq_bool_str (jN I q (by simp))
  |_=>exact xj (show xf=xb from hs) D2
 |int i=>
  obtain⟨t,rfl⟩:=rx;cases y with
  |non=>cases ry;exact PySem.EqNone.eq_int_none (jN I q (by simp))
  |int j=>obtain⟨t',rfl⟩:=ry;exact eq_int (jN I q PU)
  |str j=>obtain⟨t',rfl⟩:=ry;exact PySem.EqMixed.eq_int_str (jN I q (by simp))
  |_=>exact xj (show xf=xb from hs) D2
 |str i=>
  obtain⟨t,rfl⟩:=rx;cases y with
  |non=>cases ry;exact PySem.EqNone.eq_str_none (jN I q (by simp))
  |bl j=>cases ry;exact PySem.EqMixed.eq_str_bool (jN I q (by simp))
  |int j=>obtain⟨t',rfl⟩:=ry;exact PySem.EqMixed.eq_str_int (jN I q (by simp))
  |str j=>obtain⟨t',rfl⟩:=ry;exact eq_str (jN I q PV)
  |_=>exact xj (show xf=xb from hs) D2
 |byt i=>
  obtain⟨t,rfl⟩:=rx;cases y with
  |byt j=>obtain⟨t',rfl⟩:=ry;exact G0w (jN I q PX)
  |_=>exact xj (show xf=xb from hs) D2
 |_=>cases y<;>exact xj (show xf=xb from hs) D2
def X1a:Ĉ X (B8 .NotEq) rNe:=by
 intro À s σ H x y v u Q I rx ry h;obtain⟨hs,q⟩:=h;cases x with
 |non=>
  cases rx;cases y with
  |non=>cases ry;exact PySem.EqNone.ne_none_none (jN I q (by simp))
  |bl j=>cases ry;exact PySem.EqNone.ne_none_bool (jN I q (by simp))
  |int j=>obtain⟨t',rfl⟩:=ry;exact PySem.EqNone.ne_none_int (jN I q (by simp))
  |str j=>obtain⟨t',rfl⟩:=ry;exact PySem.EqNone.ne_none_str (jN I q (by simp))
  |_=>exact xj (show xf=xb from hs) D2
 |bl i=>
  cases rx;cases y with
  |non=>cases ry;exact PySem.EqNone.ne_bool_none (jN I q (by simp))
  |bl j=>cases ry;exact ne_bool (jN I q (xk not BL))
  |str j=>obtain⟨t',rfl⟩:=ry;exact PySem.EqMixed.ne_bool_str (jN I q (by simp))
  |_=>exact xj (show xf=xb from hs) D2
 |int i=>
  obtain⟨t,rfl⟩:=rx;cases y with
  |non=>cases ry;exact PySem.EqNone.ne_int_none (jN I q (by simp))
  |int j=>obtain⟨t',rfl⟩:=ry;exact ne_int (jN I q (xk not PU))
  |str j=>obtain⟨t',rfl⟩:=ry;exact PySem.EqMixed.ne_int_str (jN I q (by simp))
  |_=>exact xj (show xf=xb from hs) D2
 |str i=>
  obtain⟨t,rfl⟩:=rx;cases y with
  |non=>cases ry;exact PySem.EqNone.ne_str_none (jN I q (by simp))
  |bl j=>cases ry;exact PySem.EqMixed.ne_str_bool (jN I q (by simp))
  |int j=>obtain⟨t',rfl⟩:=ry;exact PySem.EqMixed.ne_str_int (jN I q (by simp))
  |str j=>obtain⟨t',rfl⟩:=ry;exact ne_str (jN I q (xk not PV))
  |_=>exact xj (show xf=xb from hs) D2
 |byt i=>
  obtain⟨t,rfl⟩:=rx;cases y with
  |byt j=>obtain⟨t',rfl⟩:=ry;exact G0x (jN I q (xk not PX))
  |_=>exact xj (show xf=xb from hs) D2
 |_=>cases y<;>exact xj (show xf=xb from hs) D2
def SC:Ĉ X (B8 .Lt) (rI0 λi j=> .bl (decide (i<j))):=Se λ_ _ _ _ _ _ _ q=>lt_int q
def SE:Ĉ X (B8 .LtE) (rI0 λi j=> .bl (decide (i<=j))):=Se λ_ _ _ _ _ _ _ q=>le_int q
def SG:Ĉ X (B8 .Gt) (rI0 λi j=> .bl (decide (j<i))):=Se λ_ _ _ _ _ _ _ q=>gt_int q
def SH:Ĉ X (B8 .GtE) (rI0 λi j=> .bl (decide (j<=i))):=Se λ_ _ _ _ _ _ _ q=>ge_int q
variable {r:R2}
def Ĉ.or {f:G1->G1->Sem G1}{r':R2}(h:Ĉ X f r)(h':Ĉ X f r'):Ĉ X f (λx y H Q=>r x y H Q\/r' x y H Q):=by
 intro À s σ H x y v u Q I rx ry q;rcases q with q|q
 ·exact h À s σ H x y v u Q I rx ry q
 ·exact h' À s σ H x y v u Q I rx ry q
def PY (b:S2){op:lD}(h:op≠ .In:=by decide)(h2:op≠ .NotIn:=by decide):W5 op b=xf:=by
 have e1:(op==CmpOp.In)=xf:=by cases op<;>first|rfl|exact xj rfl h
 have e2:(op==CmpOp.NotIn)=xf:=by cases op<;>first|rfl|exact xj rfl h2
 cases b<;>simp [W5,e1,e2]
def CB {op:lD}(ho:Ĉ X (B8 op) r)(ha:PE X a ta)(hb:PE X b tb)(hm:W5 op b=xf):PE X (.Compare a [op] [b] pos) (tOp r ta tb):=by
 intro À s σ H Q I h;exact wpAny_Compare1 (Sz ha hb I h λv u s2 x y H2 I2 rx ry q=>ho À s2 σ H2 x y v u Q I2 rx ry q) hm
def CC (t:TE):TT:=λσ H Q=>t σ H λx H'=> ∃k,x= .bl k/\Q k H'
def CF {op:lD}(ho:Ĉ X (B8 op) r)(ha:PE X a ta)(hb:PE X b tb)(hm:W5 op b=xf):PT X (.Compare a [op] [b] pos) (CC (tOp r ta tb)):=by
 intro À s σ H Q I h;refine wpAny_isTrue_Compare1 (Ø (ha À s σ H _ I h) λv s1 ⟨x,H1,I1,r1,q1⟩=>Ø (hb À s1 σ H1 _ I1 q1) λu s2 ⟨y,H2,I2,r2,q2⟩=>
  Ø (ho À s2 σ H2 x y v u _ I2 r1 r2 q2) λc s3 ⟨z,H3,I3,r3,k,e,q3⟩=> ?_) hm
 subst e;cases r3;exact E8 ⟨H3,I3,q3⟩
def PZ (r r':R2)(ta tb tc:TE):TE:=λσ H Q=>ta σ H λx H1=>tb σ H1 λy H2=>r x y H2 λz H3=> ∃k,z= .bl k/\
 (if k=xb then tc σ H3 λw' H4=>r' y w' H4 Q else Q (.bl xf) H3)
def MO {op Ľ:lD}{r':R2}(ho:Ĉ X (B8 op) r)(ho':Ĉ X (B8 Ľ) r')(ha:PE X a ta)(hb:PE X b tb)(hc:PE X c tc)
 (hm:mD [op,Ľ] [b,c]=xf:=by with_unfolding_all rfl):PE X (.Compare a [op,Ľ] [b,c] pos) (PZ r r' ta tb tc):=by
 intro À s σ H Q I h;refine Compare_chain (Ø (ha À s σ H _ I h) λv s1 ⟨x,H1,I1,r1,q1⟩=>chain_link (Ø (hb À s1 σ H1 _ I1 q1) λu s2 ⟨y,H2,I2,r2,q2⟩=>
  Ø (ho À s2 σ H2 x y v u _ I2 r1 r2 q2) λd s3 ⟨z,H3,I3,r3,k,e,q3⟩=> ?_)) hm
 subst e;cases r3;refine E8 ?_;cases k with
 |false=>exact ite_ff ⟨.bl xf,H3,I3,rfl,q3⟩
 |true=>exact ite_tt (chain_last (Ø (hc À s3 σ H3 _ I3 q3) λw' s4 ⟨z',H4,I4,r4,q4⟩=>ho' À s4 σ H4 y z' u w' Q I4 r2 r4 q4))
def MP {op Ľ:lD}{r':R2}(ho:Ĉ X (B8 op) r)(ho':Ĉ X (B8 Ľ) r')(ha:PE X a ta)(hb:PE X b tb)(hc:PE X c tc)
 (hm:mD [op,Ľ] [b,c]=xf:=by with_unfolding_all rfl):PT X (.Compare a [op,Ľ] [b,c] pos) (CC (PZ r r' ta tb tc)):=by
 intro À s σ H Q I h;refine isTrue_chain (Ø (ha À s σ H _ I h) λv s1 ⟨x,H1,I1,r1,q1⟩=>test_link (Ø (hb À s1 σ H1 _ I1 q1) λu s2 ⟨y,H2,I2,r2,q2⟩=>
  Ø (ho À s2 σ H2 x y v u _ I2 r1 r2 q2) λd s3 ⟨z,H3,I3,r3,k,e,q3⟩=> ?_)) hm
 subst e;cases r3;refine E8 ?_;cases k with
 |false=>
  obtain⟨k',e',q'⟩:=q3;cases e';exact ite_ff ⟨H3,I3,q'⟩
 |true=>
  refine ite_tt (test_last (Ø (hc À s3 σ H3 _ I3 q3) λw' s4 ⟨z',H4,I4,r4,q4⟩=>Ø (ho' À s4 σ H4 y z' u w' _ I4 r2 r4 q4) λd' s5 ⟨z2,H5,I5,r5,k2,e2,q5⟩=> ?_));subst e2;cases r5;exact E8 ⟨H5,I5,q5⟩
def Uf:(xh:P0)<2^63:=by rw [lE];decide
def Wb {x:V}{us:G0 G1}(r:Æ [x] us): ∃u,us= [u]/\RelV x u:=by
 cases r with
 |cons r1 r2=>cases r2;exact⟨_,rfl,r1⟩
def Da {x y:V}{us:G0 G1}(r:Æ [x,y] us): ∃u w',us= [u,w']/\RelV x u/\RelV y w':=by
 cases r with
 |cons r1 r2=>
  cases r2 with
  |cons r3 r4=>cases r4;exact⟨_,_,rfl,r1,r3⟩
def Db (hc:X.calm=xb):ê X (.builtin "max") (λxs H Q=> ∃i j,xs= [.int i,.int j]/\Q (.int (if j>i then j else i)) H):=by
 intro À s σ H xs us Q I r h;obtain⟨i,j,rfl,q⟩:=h;obtain⟨u,w',rfl,⟨t,rfl⟩,⟨t',rfl⟩⟩:=Da r;refine max_two_ints (I.ok.hd hc) λh' tk k=>⟨_,H,I.kept k,?_,q⟩
 by_cases hj:j>i
 ·rw [S5 hj,S5 hj];exact⟨_,rfl⟩
 ·rw [R9 hj,R9 hj];exact⟨_,rfl⟩
def X0a:ê X (.type "int") (λxs H Q=>(∃i,xs= [.int i]/\Q (.int i) H)\/ ∃k,xs= [.bl k]/\Q (.int (if k then 1 else 0)) H):=by
 intro À s σ H xs us Q I r h;rcases h with ⟨i,rfl,q⟩|⟨k,rfl,q⟩
 ·obtain⟨u,rfl,t,rfl⟩:=Wb r;exact call_int_int ⟨.int i,H,I,⟨_,rfl⟩,q⟩
 ·obtain⟨u,rfl,r1⟩:=Wb r;cases r1;exact call_int_bool ⟨.int (if k then 1 else 0),H,I.tok _,⟨_,rfl⟩,q⟩
def ű:ê X (.builtin "divmod") (λxs H Q=> ∃i j,xs= [.int i,.int j]/\Sf i j/\ ∀p,H p=xa->Q (.ref p) (upd H p (.tup [.int (i / j),.int (i%j)]))):=by
 intro À s σ H xs us Q I r h;obtain⟨i,j,rfl,⟨h1,h2⟩,q⟩:=h;obtain⟨u,w',rfl,⟨t,rfl⟩,⟨t',rfl⟩⟩:=Da r;refine divmod_int (by omega) ?_ (.inl (PyProof.noPylong_small (by omega)));rw [iO i (by omega),iP i (by omega)];have hn:H s.heap.objs.size=xa:=I.hok.fresh (P7 _);refine⟨.ref s.heap.objs.size,_,?_,rfl,q _ hn⟩;refine I.laid (λb o e=>G9 _ e) (P7 _) ⟨by simp only [D8,B6];rw [lE];decide,[.int (i / j) s.toks,.int (i%j) (s.toks+1)],.cons ⟨_,rfl⟩ (.cons ⟨_,rfl⟩ .nil),?_⟩;exact⟨_,S7 s.heap rfl,rfl,rfl,0,rfl⟩
end
structure X1b (h:N8)(x dx C:G7)(mA:Str->P1 G1):Prop where
 obj:h.get? x=zq (nE C dx)
 ns:h.Ns1 dx mA
 ne:dx≠x
def Dc {dx:G7}{mA:Str->P1 G1}(n:h.Ns1 dx mA): ∃od,h.get? dx=zq od/\ ∀name,nX name od=zq (mA name):=by
 obtain⟨o,es,ep,ho,hd,hk,_,hm⟩:=n;refine⟨o,ho,λname=> ?_⟩;have e:=hm name;unfold nsFind G0L at e;rw [<-pQ] at e;unfold nX;rw [hd];dsimp only;split
 ·rename_i y q;rw [q] at e;exact xk zq e
 ·rename_i q;rw [q] at e;have a:es.toList.any (·.refKey)=xf:=by
   rw [List.any_eq_false];intro y hy;obtain⟨z,t,X0B⟩:=hk y (Array.mem_toList_iff.mp hy);simp [DictEntry.refKey,X0B]
  have a': ¬es.toList.any (·.refKey)=xb:=by rw [a];exact D2
  rw [R9 a'];exact xk zq e
variable {C:G7}
def X1b.look {x dx:G7}{mA:Str->P1 G1}(I:X1b h x dx C mA): ∃od,G0M h x (nE C dx) C (zq od)/\ ∀name,nX name od=zq (mA name):=
 let ⟨od,ho,hl⟩:=Dc I.ns
 ⟨od,⟨I.obj,rfl,rfl,ho⟩,hl⟩
def Ő.some_of {v:V}{o:P1 G1}(r:Ő (zq v) o): ∃u,o=zq u/\RelV v u:=by
 cases o with
 |none=>exact(show False from r).elim
 |some u=>exact⟨u,rfl,r⟩
section
variable {P:D5}{w:T8}{H H':Hp}{h h':N8}{a C dx:G7}{fs fs':G0 (Str×V)}
def CG (hok:ă P w H h)(e:H a=zq (.ins C dx fs)): ∃mA,X1b h a dx C mA/\(∀f,Ő (fs.lookup f) (mA f))/\xP mA (fs.map (·.1))/\fs.length<=1000/\H dx=zq (.own a):=by
 obtain⟨d,z,ne,ob,mA,n,r,q⟩:=(show Ô P w H h a (.ins C dx fs) from hok a _ e);exact⟨mA,⟨ob,n,ne⟩,r,q,z,d⟩
end
structure Cls (K:G3)(C:G7):Prop where
 pg:rP K C xH=xb
 hd:G0l K C=xb
 po:G0m K C=xb
 sa:tY K (.ref C) "__setattr__" =zq (zq (.builtin "object.__setattr__"))
def Cls.get (c:Cls K C)(f:Str):rP K C f=xb:=c.pg
section
variable {X:Cx}{À:G0 (G7×Obj)}{σ:St}{H:Hp}{s:G2}{a C dx:G7}{fs:G0 (Str×V)}{f:Str}{v:V}{A:S4}{E:G1->G2->Prop}
def CH {prog:D5}{w:T8}{env:Env}{e:S2}{f:Str}{pos:Pos}{s:G2}{Q:G1->G2->Prop}(hb:K9 e f env (L7 e env)=L7 e env)
 (h:D6 (R3 prog w) A (L7 e env) (λo s₁=>D6 (R3 prog w) A (G0n o f xb) Q E s₁) E s):D6 (R3 prog w) A (L7 (.Attribute e f pos) env) Q E s:=
 Attribute_any_ h (by rw [arm_eval_Attribute,hb])
end
section
variable {X:Cx}{À:G0 (G7×Obj)}{σ:St}{H:Hp}{s:G2}{A:S4}{E:G1->G2->Prop}{Q:G1->G2->Prop}{c:G1}{b:N3}
inductive ġ (K:G3)(H:Hp):V->G1->Prop where
 |non:ġ K H .non (.type "NoneType")
 |bl (x:N3):ġ K H (.bl x) (.type "bool")
 |int (i:P4):ġ K H (.int i) (.type "int")
 |str (x:Str):ġ K H (.str x) (.type "str")
 |flt (x:UInt64):ġ K H (.flt x) (.type "float")
 |lst {a:G7} {xs:G0 V} (e:H a=zq (.lst xs)):ġ K H (.ref a) (.type "list")
 |frz {a:G7} {o:Obj} {xs:G0 V} (e:H a=zq (.frz o (.lst xs))):ġ K H (.ref a) (.type "list")
 |tup {a:G7} {xs:G0 V} (e:H a=zq (.tup xs)):ġ K H (.ref a) (.type "tuple")
 |dK {a:G7} {Ù:G0 (Č×V)} (e:H a=zq (.dK Ù)):ġ K H (.ref a) (.type "dict")
 |dT {a:G7} {Ù:G0 (G0 Č×V)} (e:H a=zq (.dT Ù)):ġ K H (.ref a) (.type "dict")
 |ins {a C dx:G7} {fs:G0 (Str×V)} (e:H a=zq (.ins C dx fs)) (cl:Cls K C) (ha:tY K (.ref C) "__class__" =zq (zq (.builtin "object.__class__")))
  (hn:G0o K (.builtin "object.__class__") "__get__" =zq (zq (.builtin "getset_descriptor.__get__"))) (htk:G0H K (.builtin "object.__class__")=zq xb)
  (hm:G00 K C (.type "object")=zq xb):ġ K H (.ref a) (.ref C)
def De {x:V}{u t:G1}(I:Inv X À σ H s)(rx:RelV x u)(ty:ġ X.K H x t)(e:iQ X.K t c=zq b)(h: ∀tk,Q (.bool b) {s with toks:=tk}):
 D6 (R3 X.prog X.w) A (call (.builtin "isinstance") [u,c]) Q E s:=by
 cases ty with
 |non=>cases (show u=gE from rx);exact Q0 G0p I.kIn Y7 e (λz=>nomatch z) h
 |bl y=>cases (show u=pL y from rx);exact Q0 G0q I.kIn Y7 e (λz=>nomatch z) h
 |int i=>obtain⟨t,q⟩:=(show ∃t,u=gC i t from rx);cases q;exact Q0 G0y I.kIn Y7 e (λz=>nomatch z) h
 |str y=>obtain⟨t,q⟩:=(show ∃t,u=oS y t from rx);cases q;exact Q0 G0z I.kIn Y7 e (λz=>nomatch z) h
 |flt y=>obtain⟨t,q⟩:=(show ∃t,u=x8 y t from rx);cases q;exact Q0 IY I.kIn Y7 e (λz=>nomatch z) h
 | @lst a xs ea=>
  cases (show u=N7 a from rx);obtain⟨_,_,n,_,h1⟩:=(show Ô X.prog X.w H s.heap a (.lst xs) from I.hok a _ ea);exact Q0 qI I.kIn ⟨_,h1,rfl⟩ e (λz=>nomatch z) h
 | @frz a ob xs ea=>
  cases (show u=N7 a from rx);obtain⟨_,_,_,n,_,h1⟩:=(show Ô X.prog X.w H s.heap a (.frz ob (.lst xs)) from I.hok a _ ea);exact Q0 qI I.kIn ⟨_,h1,rfl⟩ e (λz=>nomatch z) h
 | @tup a xs ea=>
  cases (show u=N7 a from rx);obtain⟨_,_,_,p⟩:=(show Ô X.prog X.w H s.heap a (.tup xs) from I.hok a _ ea);obtain⟨o,h1,h2,_⟩:=p;exact Q0 IZ I.kIn ⟨o,h1,h2⟩ e (λz=>nomatch z) h
 | @dK a Ù ea=>
  cases (show u=N7 a from rx);obtain⟨_,_,vs,_,p⟩:=(show Ô X.prog X.w H s.heap a (.dK Ù) from I.hok a _ ea);obtain⟨o,es,ep,h1,h2,_⟩:=p;exact Q0 qJ I.kIn ⟨o,h1,h2.1⟩ e (λz=>nomatch z) h
 | @dT a Ù ea=>
  cases (show u=N7 a from rx);obtain⟨_,_,xs,_,o,es,ep,h1,h2,_⟩:=(show Ô X.prog X.w H s.heap a (.dT Ù) from I.hok a _ ea);exact Q0 qJ I.kIn ⟨o,h1,h2.1⟩ e (λz=>nomatch z) h
 | @ins a C dx fs ea cl ha hn htk hm=>
  cases (show u=N7 a from rx);obtain⟨mA,O,_⟩:=CG I.hok ea;obtain⟨od,J,_⟩:=O.look;exact Q0 (G0A (cl.get _) cl.hd ha hn htk hm) I.kIn J e (λz=>nomatch z) h
end
structure Ð (k:P0)(A:S4):Prop where
 hd:A.handled=xa
 dp:A.depth+3*k+5<recursionLimit
 un:A.units+16*k+200<cLine
 gd:A.guards=zq []
variable {k:P0}
def Ð.mono {j:P0}(r:Ð k A)(h:j<=k):Ð j A:=⟨r.hd,by have:=r.dp;omega,by have:=r.un;omega,r.gd⟩
def Ð.deeper (r:Ð (k+1) A)(env:Env):Ð k (A.deeper env):=
 ⟨r.hd,by have:=r.dp;show A.depth+1+3*k+5<_;omega,by have:=r.un;show A.units+3+16*k+200<_;omega,r.gd⟩
def GB {kw:G0 (Str×G1)}:(A.under (.builtin "type.__call__" ⟨.ref C::us,kw⟩)).depth=A.depth+1:=by
 first|rfl|simp [iH,Code.weight,Code.isCreation,xQ,Code.isCaller,y9,qK,guardIds]
def GC {kw:G0 (Str×G1)}:(A.under (.builtin "type.__call__" ⟨.ref C::us,kw⟩)).units=A.units+1:=by
 first|rfl|simp [iH,Code.cUnits,y9,qK]
def XC {kw:G0 (Str×G1)}:(A.under (.builtin "type.__call__" ⟨.ref C::us,kw⟩)).guards=A.guards:=by
 first|rfl|(have:IA (.builtin "type.__call__" ⟨.ref C::us,kw⟩)= []:=by (simp [IA,xQ,guardIds]);simp [iH,this,PySem.pushGuards])
def Ð.make (r:Ð (k+1) A)(C:G7)(us:G0 G1)(kw:G0 (Str×G1)):Ð k (A.under (.builtin "type.__call__" ⟨.ref C::us,kw⟩)):=
 ⟨r.hd,by have:=r.dp;rw [GB];omega,by have:=r.un;rw [GC];omega,by rw [XC];exact r.gd⟩
def Ð.depth (r:Ð k A):A.depth<recursionLimit:=by have:=r.dp;omega
def Ð.units (r:Ð k A):A.units+64<cLine:=by have:=r.un;omega
def SI:TA:=λ_ H Q=>Q [] H
def MQ (ta:TE)(tr:TA):TA:=λσ H Q=>ta σ H λx H1=>tr σ H1 λxs H2=>Q (x::xs) H2
section
variable {X:Cx}{e:S2}{es:G0 S2}{te:TE}{t:TA}{pos:Pos}
def Ą:PA X [] SI:=λ_ _ _ _ H Q I h=>lF ⟨[],H,I,.nil,h⟩
def zS (ha:PE X e te)(hr:PA X es t)(hs:P9 (e::es) X.env=(xf,L7 e X.env)::P9 es X.env:=by rfl):PA X (e::es) (MQ te t):=by
 intro pos À s σ H Q I h;rw [hs];show D6 _ _ (spliced ((xf,L7 e X.env)::E3 pos (P9 es X.env))) _ _ s;refine iR (Ø (ha À s σ H _ I h) λu s1 ⟨x,H1,I1,r1,q1⟩=> ?_);exact Ø (hr pos À s1 σ H1 _ I1 q1) λus s2 ⟨xs,H2,I2,r2,q2⟩=>⟨x::xs,H2,I2,.cons r1 r2,q2⟩
def HJ (t:TA):TE:=λσ H Q=>t σ H λxs H1=>xs.length<=xh/\ ∀p,H1 p=xa->Q (.ref p) (upd H1 p (.tup xs))
def HK (t:TA):TE:=λσ H Q=>t σ H λxs H1=>xs.length<=xh/\ ∀p,H1 p=xa->Q (.ref p) (upd H1 p (.lst xs))
def OV {x1}(h:PA X es t):PE X (.Tuple es x1 pos) (HJ t):=by
 intro À s σ H Q I hq;refine wpAny_Tuple_spliced (Ø (h pos À s σ H _ I hq) λus s1 ⟨xs,H1,I1,r,z,q⟩=>⟨by rw [<-r.length];exact z,?_⟩);have hf:H1 s1.heap.objs.size=xa:=I1.hok.fresh (P7 _);refine⟨.ref s1.heap.objs.size,upd H1 s1.heap.objs.size (.tup xs),I1.laid (t':=s1.toks) (λb u e=>G9 _ e) (P7 _) ?_,rfl,q _ hf⟩;exact⟨z,us,r,ö.new _ _⟩
def OW (h:PA X es t):PE X (.List es pos) (HK t):=by
 intro À s σ H Q I hq;refine wpAny_List_spliced (Ø (h pos À s σ H _ I hq) λus s1 ⟨xs,H1,I1,r,z,q⟩=>⟨by rw [<-r.length];exact z,?_⟩);have hf:H1 s1.heap.objs.size=xa:=I1.hok.fresh (P7 _);refine⟨.ref s1.heap.objs.size,upd H1 s1.heap.objs.size (.lst xs),I1.laid (t':=s1.toks) (λb u e=>G9 _ e) (P7 _) ?_,rfl,q _ hf⟩;exact⟨z,us,0,r,S7 _ rfl⟩
end
abbrev Sp:=G0 V->Hp->VK->XK->Prop
abbrev CXT:=G0 Env->Hp->G2->XK->G1->G2->Prop
structure į (P:D5)(w:T8)(K:G3)(mg:Str->P1 G1)(base:N8)(A:S4)(outer:G0 Env)(s:G2)(H:Hp):Prop where
 frames:A.frames=zq outer
 mod:Mod K mg base
 bs: ∀b o,base.get? b=zq o->s.heap.get? b=zq o/\H b=xa
 bsz:base.objs.size<=s.heap.objs.size
 funs:s.heap.FunFrames base outer
 frf: ∀b∈ā outer,H b=xa
 hok:ă P w H s.heap
 bare:iG s.gens
def CE (outer:G0 Env)(P:D5)(w:T8)(H:Hp)(s:G2)(Q:VK)(u:G1)(s':G2):Prop:=
 ∃v H',s'.os=s.os/\iG s'.gens/\Un (ā outer) [] H H' s.heap s'.heap/\ă P w H' s'.heap/\RelV v u/\Q v H'
def CR (CX:CXT)(outer:G0 Env)(P:D5)(w:T8)(H:Hp)(s:G2)(Q:VK)(E:XK)(r:nZ)(s':G2):Prop:=
 match r with
 | .ok (.ret u)=>CE outer P w H s Q u s'
 | .ok _=>False
 | .error e=>CX outer H s E e s'
structure Ì (P:D5)(w:T8)(K:G3)(mg:Str->P1 G1)(base:N8)(CX:CXT)(k:P0)(f:G7)(fd:R8)(ps:G0 Str)(sp:Sp):Prop where
 len: ∀vs H Q E,sp vs H Q E->vs.length=ps.length
 run: ∀ (A:S4) (outer:G0 Env) (s:G2) (H:Hp) (args:Args) (us:G0 G1) (vs:G0 V) (Q:VK) (E:XK),Ð k A->į P w K mg base A outer s H->oU s fd args (ps.zip us)->Æ vs us->sp vs H Q E->
  U5 (R3 P w) A (.call (.ref f) args) (CR CX outer P w H s Q E) s
variable {base:N8}
def į.make {mg:Str->P1 G1}{outer:G0 Env}(e:į P w K mg base A outer s H)(C:G7)(us:G0 G1)(kw:G0 (Str×G1)):
 į P w K mg base (A.under (.builtin "type.__call__" ⟨.ref C::us,kw⟩)) outer s H:=⟨by first|exact e.frames|(simpa [iH,Code.envs,qK,pushEnvs] using e.frames),e.mod,e.bs,e.bsz,e.funs,e.frf,e.hok,e.bare⟩
section
variable {X:Cx}{À:G0 (G7×Obj)}{σ:St}{H:Hp}{s s':G2}
def Inv.env0 (I:Inv X À σ H s):į X.prog X.w X.K X.mg X.base X.A X.stack s H:=
 ⟨I.ok.frames,I.ok.mod,I.bs,M1 I.ok.bsz I.sz,I.stack,I.stkFree,I.hok,I.bare⟩
def Inv.after {Q:VK}{u:G1}(I:Inv X À σ H s)(h:CE X.stack X.prog X.w H s Q u s'):EP X À σ Q u s':=by
 obtain⟨v,H',os,bare,un,hok,r,q⟩:=h;obtain⟨hh,g,d,t,os'⟩:=s';obtain rfl:os'=s.os:=os;exact⟨v,H',I.call (h':=hh) (g':=g) (d':=d) (t':=t) (ch:= []) un hok bare (λb z=>xj z (by simp)),r,q⟩
end
def CI (sp:Sp)(dvs:G0 V)(E:XK)(t:TA):TE:=λσ H Q=>t σ H λvs H1=>sp (vs++dvs) H1 Q E
def Binds (K:G3)(fd:R8)(ps:G0 Str)(ds:G0 G1):Prop:=
 ∀ (s:G2) (us:G0 G1),K.In s.heap->(us++ds).length=ps.length->oU s fd ⟨us,[]⟩ (ps.zip (us++ds))
def Binds.all {fd:R8}{ps:G0 Str}(h: ∀us:G0 G1,us.length=ps.length->qL fd ⟨us,[]⟩=pure (ps.zip us)):Binds K fd ps []:=λs us _ hl=>by
 rw [A5] at hl ⊢;exact .of_eq (h us hl)
def Wc (CX:CXT)(X:Cx)(E:XK):Prop:= ∀ (À:G0 (G7×Obj)) (σ:St) (H:Hp) (s:G2) (e:G1) (s':G2),Inv X À σ H s->CX X.stack H s E e s'->X.xe e s'
section
variable {X:Cx}{CX:CXT}{k:P0}{f C:G7}{fd:R8}{ps:G0 Str}{sp:Sp}{dvs:G0 V}{ds:G0 G1}{E:XK}{x m:Str}{p pos apos:Pos}{e o:S2}{es:G0 S2}{ta:TE}{t:TA}
def OX {À:G0 (G7×Obj)}{σ:St}{H:Hp}{s:G2}{Q:VK}{us:G0 G1}{vs:G0 V}(F:Ì X.prog X.w X.K X.mg X.base CX k f fd ps sp)(hr:Ð k X.A)(hb:Binds X.K fd ps ds)(hd:Æ dvs ds)(hx:Wc CX X E)
 (I:Inv X À σ H s)(r:Æ vs us)(h:sp (vs++dvs) H Q E):D6 (R3 X.prog X.w) X.A (call (.ref f) us) (EP X À σ Q) X.xe s:=by
 have r2:Æ (vs++dvs) (us++ds):=r.append hd;have hl:(us++ds).length=ps.length:=by rw [<-r2.length];exact F.len _ _ _ _ h
 refine gF (aG (F.run X.A X.stack s H ⟨us,[]⟩ (us++ds) (vs++dvs) Q E hr I.env0 (hb s us I.kIn hl) r2 h) λr s' hq=> ?_);cases r with
 |error e=>exact hx À σ H s e s' I hq
 |ok fl=>
  cases fl with
  |ret u=>exact I.after hq
  |next=>exact xn hq
  |brk=>exact xn hq
  |cont=>exact xn hq
def Df (F:Ì X.prog X.w X.K X.mg X.base CX k f fd ps sp)(hr:Ð k X.A)(hg:Gl X x)(hm:X.mg x=zq (.ref f))(hk:J8 X.K (.ref f)=xb)(hb:Binds X.K fd ps ds)(hd:Æ dvs ds)(hx:Wc CX X E)
 (ha:PA X (e::es) t)(hdb:(x==("__debug__" :Str))=xf:=by decide)(he:P9 (e::es) X.env=(xf,L7 e X.env)::P9 es X.env:=by rfl)(hpl:(E3 pos (P9 es X.env)).any (·.1)=xf:=by rfl):
 PE X (.Call (.Name x p) (e::es) [] pos) (CI sp dvs E t):=by
 intro À s σ H Q I h;refine W0 (vM I hg hm ?_ hdb);refine dI (h₀:=X.base) I.ok.mod.kin hk (Ø (ha pos À s σ H _ I h) λus s1 ⟨vs,H1,I1,r,q⟩=>⟨I1.kIn,?_⟩) he hpl;exact OX F hr hb hd hx I1 r q
end
structure Ã (N P:G0 Str)(sc:A2):Prop where
 kind:sc.kind= .function
 co:sc.isCoroutine=xf
 gen:sc.isGenerator=xf
 nd:N.Nodup
 pre:N.take P.length=P
 par: ∀x∈P,sc.names.lookup x=zq .local\/sc.names.lookup x=zq .cell
 nofree: ∀y∈sc.names,y.2≠ .free
variable {kindOf:Str->P1 NameKind}{x:Str}
theorem Ug: ∀ {binds:G0 (Str×G1)} {m:Str->P1 G1},(∀v,(x,v) ∉ binds)->sI kindOf binds m x=m x
 | [],_,_=>rfl
 |(n,v)::r,m,h=>by
  unfold sI;rw [Ug λw hw=>h w (M5 _ hw)];split
  ·have:x≠n:=by rintro rfl;exact h v R1
   simp [this]
  ·rfl
theorem Uh: ∀ {binds:G0 (Str×G1)} {m:Str->P1 G1},(∀v,(x,v) ∉ binds)->sJ kindOf binds m x=m x
 | [],_,_=>rfl
 |(n,v)::r,m,h=>by
  unfold sJ;rw [Uh λw hw=>h w (M5 _ hw)];split
  ·rfl
  ·have:x≠n:=by rintro rfl;exact h v R1
   simp [this]
theorem Wd {v:G1}: ∀ {P:G0 Str} {vs:G0 G1} {i:P0} {m:Str->P1 G1},P.Nodup->P[i]? =zq x->vs[i]? =zq v->kindOf x=zq .local->
 sI kindOf (P.zip vs) m x=zq v
 | [],_,_,_,_,h,_,_=>by simp at h
 |_::_,[],_,_,_,_,h,_=>by simp at h
 |p::P,w::vs,0,m,nd,h1,h2,hk=>by
  simp at h1 h2;subst h1;subst h2;show sI kindOf ((p,w)::P.zip vs) m p=_;unfold sI;rw [Ug λv hv=>(V5.mp nd).1 (dA hv).1,S5 hk];simp
 |p::P,w::vs,i+1,m,nd,h1,h2,hk=>by
  show sI kindOf ((p,w)::P.zip vs) m x=_;unfold sI;exact Wd (i:=i) (V5.mp nd).2 (by simpa using h1) (by simpa using h2) hk
theorem We {v:G1}: ∀ {P:G0 Str} {vs:G0 G1} {i:P0} {m:Str->P1 G1},P.Nodup->P[i]? =zq x->vs[i]? =zq v->kindOf x≠zq .local->
 sJ kindOf (P.zip vs) m x=zq v
 | [],_,_,_,_,h,_,_=>by simp at h
 |_::_,[],_,_,_,_,h,_=>by simp at h
 |p::P,w::vs,0,m,nd,h1,h2,hk=>by
  simp at h1 h2;subst h1;subst h2;show sJ kindOf ((p,w)::P.zip vs) m p=_;unfold sJ;rw [Uh λv hv=>(V5.mp nd).1 (dA hv).1,R9 hk];simp
 |p::P,w::vs,i+1,m,nd,h1,h2,hk=>by
  show sJ kindOf ((p,w)::P.zip vs) m x=_;unfold sJ;exact We (i:=i) (V5.mp nd).2 (by simpa using h1) (by simpa using h2) hk
def start (N:G0 Str)(vs:G0 V):St:=vs.map zq++M8 (N.length-vs.length) xa
def ZT (CX:CXT)(P:D5)(w:T8)(K:G3)(mg:Str->P1 G1)(base:N8)(N:G0 Str)(qual:Str)(scope:A2)(f:G7)(cd:G1)(A:S4)(outer:G0 Env)(s:G2)(H:Hp)(E:XK):Cx where
 prog:=P
 w:=w
 K:=K
 mg:=mg
 base:=base
 A:=A.deeper (K2 qual scope s.heap.objs.size f cd)
 N:=N
 s₀:=s
 H₀:=H
 env:=K2 qual scope s.heap.objs.size f cd
 outer:=outer
 stack:=K2 qual scope s.heap.objs.size f cd::outer
 ex:= []
 calm:=xb
 fn:=λ_=>xb
 pn:= []
 xe:=λe s'=>D6 (R3 P w) (A.deeper (K2 qual scope s.heap.objs.size f cd)) (mR (K2 qual scope s.heap.objs.size f cd) e) (λ_ Ο=>CX outer H s E e Ο) (λe' Ο=>CX outer H s E e' Ο) s'
def vn {sc:A2}{n:P0}(h:sc.names.lookup x=zq .cell): ∃c,(Q6 n sc.names []).lookup x=zq c:=by
 have q:=bF sc.names n [] (.inl h);exact O9.mp q
def Ui {CX:CXT}{mg:Str->P1 G1}{N ps:G0 Str}{qual:Str}{scope:A2}{f:G7}{cd:G1}{outer:G0 Env}{s1:G2}{E:XK}{vs:G0 V}
 (S:Ã N ps scope)(hd:A.handled=xa)(e0:į P w K mg base A outer s H)(hl:vs.length=ps.length)(r:Æ vs us)
 (x:InCallC s s.heap.objs.size (sI (K2 qual scope s.heap.objs.size f cd).kindOf (ps.zip us) λ_=>xa) (Q6 (s.heap.objs.size+1) scope.names []) (sJ (K2 qual scope s.heap.objs.size f cd).kindOf (ps.zip us) λ_=>xa) s1):
 Inv (ZT CX P w K mg base N qual scope f cd A outer s H E) [] (start N vs) H s1:=by
 have hpl:ps.length<=N.length:=by have:=xk K7 S.pre;rw [S1] at this;omega
 obtain⟨h1,tk,rfl,hk⟩:=x.done;have noA: ∀b:G7,b ∉ (ZT CX P w K mg base N qual scope f cd A outer s H E).ex:=λb z=>xj (show b∈([]:G0 G7) from z) (by simp)
 refine⟨⟨e0.mod,S.kind,rfl,rfl,P7 _,λy z c h1 h2=> ?_,λy hy=> ?_,λy c _ h=> ?_,λ_=>hd,g6 e0.frames,.inr ⟨rfl,rfl⟩,λb z=>xj z (noA b),e0.bs,e0.bsz,λb _ _=>noA b,λb z=>xj z (noA b),e0.funs,e0.frf⟩,
  rfl,e0.bare,Un.kept hk,⟨_,x.toInCall.ns,λi y v h1 h2 h3=> ?_⟩,λy c h=>⟨_,x.cell y c h⟩,e0.hok.fresh (P7 _),λy c h=> ?_,λp hp=>xj (show p∈([]:G0 (G7×Obj)) from hp) (by simp),e0.hok.kept hk,?_⟩
 ·exact qM x.apart (E4 h1) (E4 h2)
 ·have hy:scope.names.lookup y=zq .cell\/scope.names.lookup y=zq .free:=hy;rcases hy with hy|hy
  ·exact vn hy
  ·exact xj rfl (S.nofree _ (E4 hy))
 ·exact T6 (x.above y c (E4 h))
 ·have hi:i<vs.length:=by
   unfold start at h2
   by_cases hi:i<vs.length
   ·exact hi
   ·rw [N4 (by simpa using hi)] at h2;rw [dR] at h2;split at h2<;>cases h2
  have ha:vs[i]? =zq v:=by
   unfold start at h2;rw [C7 (by simpa using hi),D1] at h2;cases e:vs[i]? with
   |none=>rw [e] at h2;cases h2
   |some a=>rw [e] at h2;cases h2;rfl
  obtain⟨u,hu,rv⟩:=r.get ha;have hp:ps[i]? =zq y:=by
   rw [<-S.pre,W6 (by omega)];exact h1
  have ndP:ps.Nodup:=by rw [<-S.pre];exact S.nd.sublist (Q9 _ _)
  refine⟨u,rv,?_⟩;rcases S.par y (P5 hp) with k|k
  ·exact .inl ⟨k,Wd ndP hp hu k⟩
  ·obtain⟨c,e⟩:=vn (n:=s.heap.objs.size+1) k;refine .inr ⟨.inl k,c,e,?_⟩;have q:=x.cell y c e;rw [We ndP hp hu (by show scope.names.lookup y≠_;rw [k];decide)] at q;exact q
 ·exact e0.hok.fresh (T6 (x.above y c (E4 h)))
 ·unfold start;show _=N.length;rw [P3,G6,nJ];omega
def CJ {CX:CXT}{mg:Str->P1 G1}{f:G7}{name qual:Str}{params:oV}{body:G0 L8}{scope:A2}{dV kV doc pm Ï ct oc:G1}{an od:P1 G7}{Ĕ:T7 (P1 G1)}{N ps:G0 Str}{sp:Sp}(lk:K.lookup f=zq ⟨oc,od,.func (W7 name qual params body scope dV kV doc pm an Ï ct),Ĕ⟩)(hcd:eB K Ï qual=xb)(S:Ã N ps scope)
 (len: ∀vs H Q E,sp vs H Q E->vs.length=ps.length)
 (Þ: ∀ (A:S4) (outer:G0 Env) (s:G2) (H:Hp) (vs:G0 V) (Q:VK) (E:XK),Ð k (A.deeper (K2 qual scope s.heap.objs.size f Ï))->sp vs H Q E->
  ∃t,ő (ZT CX P w K mg base N qual scope f Ï A outer s H E) body t/\t {nx:=λ_ H'=>Q .non H',rt:=Q} (start N vs) H):
 Ì P w K mg base CX (k+1) f (W7 name qual params body scope dV kV doc pm an Ï ct) ps sp:=by
 refine⟨len,λA outer s H args us vs Q E hr e0 hb r œ=> ?_⟩;have hl:=len _ _ _ _ œ;have KX:K.In s.heap:=e0.mod.kin.keeps λb o e=>(e0.bs b o e).1
 have lim:s.heap.NoLimit:=e0.mod.nolimit.keeps λb o e=>(e0.bs b o e).1
 have Ų: ∀y∈ps.zip us,scope.names.lookup y.1=zq .local\/(scope.names.lookup y.1=zq .cell/\((Q6 (s.heap.objs.size+1) scope.names []).lookup y.1).isSome=xb):=λ⟨n,v⟩ hy=>by
  rcases S.par n (dA hy).1 with q|q
  ·exact .inl q
  ·exact .inr ⟨q,bF _ _ _ (.inl q)⟩
 refine f7 hr.depth (KX _ _ lk) rfl S.co S.gen rfl (iT KX hcd) (hb _ _ _ _ ?_);refine bV S.kind Ų λenv he s1 x=> ?_
 subst he;refine⟨lim.keeps x.toInCall.keep,qN ?_⟩;obtain⟨t,ht,hq⟩:=Þ A outer s H vs Q E (hr.deeper _) œ;have I:Inv (ZT CX P w K mg base N qual scope f Ï A outer s H E) [] (start N vs) H s1:=Ui S hr.hd e0 hl r x;refine R7 (ht [] s1 (start N vs) H _ I hq) (λfl s' hs=> ?_) λe s' hs=>hs
 have fin: ∀ {Â:St} {H':Hp} {v:V} {u:G1},Inv (ZT CX P w K mg base N qual scope f Ï A outer s H E) [] Â H' s'->RelV v u->Q v H'->CE outer P w H s Q u s':=
  λ{Â H' v u} J rv q=>⟨v,H',J.os,J.bare,J.base,J.hok,rv,q⟩
 cases fl with
 |ret u=>
  obtain⟨v,Â,H',J,rv,q⟩:=hs;exact fin J rv q
 |next=>
  obtain⟨Â,H',J,q⟩:=hs;exact fin (v:=V.non) (u:=gE) J rfl q
 |brk=>
  obtain⟨_,_,_,q⟩:=hs;exact xn q
 |cont=>
  obtain⟨_,_,_,q⟩:=hs;exact xn q
section
variable {X:Cx}{x:Str}{p pos:Pos}{e:S2}{es:G0 S2}{t:TA}{id T:F7}{r:G0 V->Hp->VK->Prop}
def tCB (r:G0 V->Hp->VK->Prop)(t:TA):TE:=λσ H Q=>t σ H λvs H1=>r vs H1 Q
def ZU (hc:ê X (.builtin id) r)(hg:Gl X x)(hm:X.mg x=xa)(hv:Q5 x=zq (.builtin id))(ha:PA X (e::es) t)(hn:x≠ "__name__" :=by decide)(hdb:(x==("__debug__" :Str))=xf:=by decide)
 (he:P9 (e::es) X.env=(xf,L7 e X.env)::P9 es X.env:=by rfl)(hpl:(E3 pos (P9 es X.env)).any (·.1)=xf:=by rfl):PE X (.Call (.Name x p) (e::es) [] pos) (tCB r t):=by
 intro À s σ H Q I h;refine W0 (Yu I hg hm hv ?_ hn hdb);exact rQ (Ø (ha pos À s σ H _ I h) λus s1 ⟨vs,H1,I1,r1,q1⟩=>hc À s1 σ H1 vs us Q I1 r1 q1) he hpl
def Dg (hc:ê X (.type T) r)(hg:Gl X x)(hm:X.mg x=xa)(hv:Q5 x=zq (.type T))(ha:PA X (e::es) t)(hn:x≠ "__name__" :=by decide)(hdb:(x==("__debug__" :Str))=xf:=by decide)
 (he:P9 (e::es) X.env=(xf,L7 e X.env)::P9 es X.env:=by rfl)(hpl:(E3 pos (P9 es X.env)).any (·.1)=xf:=by rfl):PE X (.Call (.Name x p) (e::es) [] pos) (tCB r t):=by
 intro À s σ H Q I h;refine W0 (Yu I hg hm hv ?_ hn hdb);exact Y3 (Ø (ha pos À s σ H _ I h) λus s1 ⟨vs,H1,I1,r1,q1⟩=>hc À s1 σ H1 vs us Q I1 r1 q1) he hpl
end
end L2
namespace HT
open PySem PyProof.Rows
def zT:G0 P4->G0 P4->N3
 | [],[]=>xf
 | [],_::_=>xb
 |_::_,[]=>xf
 |x::xs,y::ys=>if x=y then zT xs ys else decide (x<y)
section
variable {prog:D5}{w:T8}{A:S4}{E:G1->G2->Prop}{s:G2}
def CK {t b:G7}{vs ws:G0 G1}{Q:G1->G2->Prop}(ht:y3 s.heap t vs.toArray)(hb:y3 s.heap b ws.toArray)(hv:vs≠ [])
 (h1:ws= []->Q (.ref t) s)(h2:ws≠ []->Q (.ref s.heap.objs.size) {s with heap:=s.heap.push {cls:= .type "tuple",data:= .seq (vs++ws).toArray}})
 (hsz:vs.length+ws.length<=xh):D6 (R3 prog w) A (K6 .Add (.ref t) (.ref b)) Q E s:=by
 obtain⟨⟨cls,dd,data,sl⟩,ho,hc,n,hd⟩:=id ht;obtain⟨⟨X1c,η,G0N,θ⟩,ho2,hc2,n2,hd2⟩:=id hb;simp only at hc hd hc2 hd2;subst hc hd hc2 hd2;have e:vs.toArray++ws.toArray=(vs++ws).toArray:=by simp
 by_cases hw:ws= []
 ·exact qO ⟨_,ho,rfl⟩ ⟨_,ho2,rfl⟩ mE pE eJ dS (cW _ _)
   (tuple_addW1 t b vs.toArray ws.toArray n n2 dd η sl θ (by simpa using hv) (by simp [hw])) ⟨ho,ho2,h1 hw⟩
 ·refine qO ⟨_,ho,rfl⟩ ⟨_,ho2,rfl⟩ mE pE eJ dS (cW _ _)
   (tuple_addW2 t b vs.toArray ws.toArray n n2 dd η sl θ (by simpa using hv) (by simpa using hw) (by rw [R4,R4];exact hsz)) ⟨ho,ho2,?_⟩
  rw [e];exact h2 hw
def sIx (n d:P0):P1 P4->P0
 |none=>d
 |some v=>if v<0 then (v+(n:P4)).toNat else min v.toNat n
def Dh (n d k:P0):sIx n d (zq (k:P4))=min k n:=by
 show (if (k:P4)<0 then ((k:P4)+(n:P4)).toNat else min (k:P4).toNat n)=min k n;rw [R9 (by omega),aH]
def OY (n d:P0)(hd:d<=n)(o:P1 P4):sIx n d o<=n:=by
 cases o with
 |none=>exact hd
 |some v=>
  show (if v<0 then (v+(n:P4)).toNat else min v.toNat n)<=n
  by_cases hv:v<0
  ·rw [S5 hv];omega
  ·rw [R9 hv];exact Y6 _ _
def Di (v:P4)(n d:P0):(if v<0 then max (v+(n:P4)) 0 else min v (n:P4))=((sIx n d (zq v):P0):P4):=by
 show (if v<0 then max (v+(n:P4)) 0 else min v (n:P4))=(((if v<0 then (v+(n:P4)).toNat else min v.toNat n):P0):P4)
 by_cases hv:v<0
 ·simp only [S5 hv];omega
 ·simp only [R9 hv];omega
def GD (lo hi:P1 P4)(n:P0):cO lo hi 1 (n:P4)=(((sIx n 0 lo:P0):P4),((sIx n n hi:P0):P4)):=by
 have h1: ¬ ((1:P4)<0):=by omega
 unfold cO;simp only [h1,mF];refine Prod.ext ?_ ?_
 ·cases lo with
  |none=>rfl
  |some v=>exact Di v n 0
 ·cases hi with
  |none=>rfl
  |some v=>exact Di v n n
def GE (i j:P0):Z8 (i:P4) (j:P4) 1=j-i:=by
 unfold Z8;have h1:(1:P4)>0:=by omega
 simp only [h1,gP,Int.ediv_one];split<;>omega
def Yv {v:G1}{o:P1 P4}{Q:P1 P4->G2->Prop}(p:mS v o)(h:Q o s):D6 (R3 prog w) A (sO v) Q E s:=by
 cases p with
 |none=>exact tZ h
 |int i t=>exact slicePart_int h
def yF {sl:G7}{vl vu:G1}{lo hi:P1 P4}{n:P0}{Q:P4×P4×P0->G2->Prop}(hs:s.heap.IsSliceOf sl vl vu .none)(pl:mS vl lo)(pu:mS vu hi)
 (h:Q (((sIx n 0 lo:P0):P4),1,sIx n n hi-sIx n 0 lo) s):D6 (R3 prog w) A (iU (.ref sl) (pure (n:P4))) Q E s:=by
 obtain⟨os,hos,hcs,hds⟩:=id hs;unfold iU uN;refine xg (xg (bW hos hds (x:=vl) rfl (xg (bW hos hds (x:=vu) rfl (xg (bW hos hds (x:= .none) rfl (G8 ?_)))))));refine xg (tZ ?_);show D6 _ _ (if ((1:P4)==0)=xb then _ else _) _ _ s;rw [R9 (by decide)];refine xg (Yv pl (xg (Yv pu (xg (G8 ?_)))));show D6 _ _ (match cO lo hi 1 (n:P4) with|(lo,hi)=>pure (lo,(1:P4),Z8 lo hi 1)) _ _ s;rw [GD lo hi n];show D6 _ _ (pure (((sIx n 0 lo:P0):P4),(1:P4),Z8 ((sIx n 0 lo:P0):P4) ((sIx n n hi:P0):P4) 1)) _ _ s;rw [GE];exact G8 h
def MR (xs:T7 G1)(i k:P0):((R6 k).filterMap λ(m:P0)=>xs[((i:P4)+(m:P4)*1).toNat]?).toArray=((xs.toList.drop i).take k).toArray:=by
 have e:(λ(m:P0)=>xs[((i:P4)+(m:P4)*1).toNat]?)=λm=>xs[i+m]? :=by
  funext m
  have:((i:P4)+(m:P4)*1).toNat=i+m:=by omega
  rw [this]
 rw [e];have:=pick_run xs i k;rw [List.filterMap_map] at this;have e2:((λx=>xs[x]?)∘λx=>i+x)=λm=>xs[i+m]? :=rfl
 rw [e2] at this;rw [this]
def JJ {t sl:G7}{items:T7 G1}{vl vu:G1}{lo hi:P1 P4}{Q:G1->G2->Prop}(ht:y3 s.heap t items)(hs:s.heap.IsSliceOf sl vl vu .none)(pl:mS vl lo)(pu:mS vu hi)
 (hw: ¬ (sIx items.size 0 lo=0/\sIx items.size items.size hi=items.size))
 (h:Q (.ref s.heap.objs.size) {s with heap:=s.heap.push {cls:= .type "tuple",data:= .seq ((items.toList.drop (sIx items.size 0 lo)).take (sIx items.size items.size hi-sIx items.size 0 lo)).toArray}})
 (hsz:items.size<=xh):D6 (R3 prog w) A (lH (.ref t) (.ref sl)) Q E s:=by
 have ι:sizeOk (.seq ((items.toList.drop (sIx items.size 0 lo)).take (sIx items.size items.size hi-sIx items.size 0 lo)).toArray):=by
  show ((items.toList.drop (sIx items.size 0 lo)).take (sIx items.size items.size hi-sIx items.size 0 lo)).toArray.size<=xh;rw [R4,S1,C6,N0];omega
 have hj:sIx items.size items.size hi<=items.size:=OY _ _ (P7 _) hi;obtain⟨os,hos,hcs,hds⟩:=id hs;have hTs:s.TypeIs (.ref sl) "slice" :=⟨os,hos,hcs⟩;unfold lH
 try with_reducible refine O8 ?_
 first|refine xg (G8 ?_)|skip
 refine xg (lI ht.typeIs (by decide) ?_);refine xg (O1 (name:=P6 "__getitem__") ht.typeIs V6
  (F8 V6 ht.typeIs o3 ?_ (pR _ _)))
 show D6 _ _ (Y8 (.ref t) >>= _) _ _ s;refine xg (uU ht ?_);refine xg (iI hTs ?_);rw [S5 (by decide)];refine xg (yF hs pl pu ?_);have hno: ¬ ((((sIx items.size 0 lo:P0):P4)==0&&(1:P4)==1&&(sIx items.size items.size hi-sIx items.size 0 lo)==items.size)=xb):=by
  intro q;rw [B7,B7] at q;have q1:((sIx items.size 0 lo:P0):P4)=0:=eq_of_beq q.1.1;have q2:sIx items.size items.size hi-sIx items.size 0 lo=items.size:=eq_of_beq q.2;exact hw ⟨by omega,by omega⟩
 show D6 _ _ (if (((sIx items.size 0 lo:P0):P4)==0&&(1:P4)==1&&(sIx items.size items.size hi-sIx items.size 0 lo)==items.size)=xb then _ else _) _ _ s;rw [R9 hno,MR]
 first
  |exact xg (m:=aO _) (Q8 (G8 ⟨_,rfl,G8 h⟩) ι)
  |exact xg (m:=aO _) (Q8 (xg (G8 (G8 ⟨_,rfl,G8 h⟩))) ι)
  |exact xg (xg (m:=aO _) (Q8 (G8 (G8 ⟨_,rfl,G8 h⟩)) ι))
  |exact xg (xg (m:=aO _) (Q8 (G8 ⟨_,rfl,G8 h⟩) ι))
end
end HT
namespace L2
open PySem PySem.Spec PyProof.Rows
abbrev TO:=St->Hp->(P1 P4->Hp->Prop)->Prop
def PO (X:Cx)(e:P1 S2)(t:TO):Prop:=
 ∀ (À:G0 (G7×Obj)) (s:G2) (σ:St) (H:Hp) (Q:P1 P4->Hp->Prop),Inv X À σ H s->t σ H Q->
  D6 (R3 X.prog X.w) X.A (evalPart e X.env) (λu s'=> ∃o H',Inv X À σ H' s'/\mS u o/\Q o H') X.xe s
def CL:TO:=λ_ H Q=>Q xa H
def SJ (t:TE):TO:=λσ H Q=>t σ H λx H1=> ∃i,x= .int i/\Q (zq i) H1
section
variable {X:Cx}{e:S2}{te:TE}{lo hi:P1 S2}{tl th:TO}{pos p2:Pos}
def X0s:PO X xa CL:=by
 intro À s σ H Q I h;rw [pF];exact G8 ⟨xa,H,I,.none,h⟩
def CM (h:PE X e te):PO X (zq e) (SJ te):=by
 intro À s σ H Q I hw;rw [uV];refine Ø (h À s σ H _ I hw) λu s1 ⟨x,H1,I1,r1,q1⟩=> ?_
 obtain⟨i,rfl,q⟩:=q1;obtain⟨t,rfl⟩:=r1;exact⟨zq i,H1,I1,.int i t,q⟩
def SlR (X:Cx)(r:V->P1 P4->P1 P4->Hp->VK->Prop):Prop:=
 ∀ (À:G0 (G7×Obj)) (s:G2) (σ:St) (H:Hp) (x:V) (v vl vu:G1) (lo hi:P1 P4) (sl:G7) (Q:VK),Inv X À σ H s->RelV x v->s.heap.IsSliceOf sl vl vu .none->mS vl lo->mS vu hi->r x lo hi H Q->
  ∃T id,gG (.type T) "__getitem__" =pure (zq (.builtin id))/\s.TypeIs v T/\D6 (R3 X.prog X.w) X.A (lH v (.ref sl)) (EP X À σ Q) X.xe s
def SlR.or {r r':V->P1 P4->P1 P4->Hp->VK->Prop}(h:SlR X r)(h':SlR X r'):SlR X (λx lo hi H Q=>r x lo hi H Q\/r' x lo hi H Q):=by
 intro À s σ H x v vl vu lo hi sl Q I rx hs pl pu q;rcases q with q|q
 ·exact h À s σ H x v vl vu lo hi sl Q I rx hs pl pu q
 ·exact h' À s σ H x v vl vu lo hi sl Q I rx hs pl pu q
def tSl (r:V->P1 P4->P1 P4->Hp->VK->Prop)(te:TE)(tl th:TO):TE:=λσ H Q=>te σ H λx H1=>tl σ H1 λl H2=>th σ H2 λu H3=>r x l u H3 Q
def MS {r:V->P1 P4->P1 P4->Hp->VK->Prop}(hr:SlR X r)(he:PE X e te)(hl:PO X lo tl)(hu:PO X hi th):PE X (.Subscript e (.Slice lo hi xa p2) pos) (tSl r te tl th):=by
 intro À s σ H Q I h;refine pT (Ø (he À s σ H _ I h) λv s1 ⟨x,H1,I1,r1,q1⟩=> ?_);refine IC (Ø (hl À s1 σ H1 _ I1 q1) λvl s2 ⟨l,H2,I2,pl,q2⟩=>Ø (hu À s2 σ H2 _ I2 q2) λvu s3 ⟨u,H3,I3,pu,q3⟩=> ?_);rw [pF];refine G8 ?_;have I4:Inv X À σ H3 {s3 with heap:=s3.heap.push {cls:= .type "slice",data:= .fields #[vl,vu,.none]}}:=I3.kept (t':=s3.toks) λb ob q=>G9 _ q
 obtain⟨T,id,hT,ht,hg⟩:=hr À {s3 with heap:=s3.heap.push {cls:= .type "slice",data:= .fields #[vl,vu,.none]}} σ H3 x v vl vu l u s3.heap.objs.size Q I4 r1 (Heap.IsSliceOf.new ..) pl pu q3;show D6 (R3 X.prog X.w) X.A (lR e (.Slice lo hi xa p2) v (.ref s3.heap.objs.size)) (EP X À σ Q) X.xe {s3 with heap:=s3.heap.push {cls:= .type "slice",data:= .fields #[vl,vu,.none]}};exact IE (ops:= [.ref s3.heap.objs.size,v]) ht hT hg (by with_unfolding_all rfl)
def MC (xs:G0 V)(lo hi:P1 P4):G0 V:=(xs.drop (HT.sIx xs.length 0 lo)).take (HT.sIx xs.length xs.length hi-HT.sIx xs.length 0 lo)
def Wf (xs:G0 V)(lo hi:P1 P4):(MC xs lo hi).length<=xs.length:=by
 unfold MC;rw [S1,C6];omega
def Kw (K:G3):V->P1 P4->P1 P4->Hp->VK->Prop:=λx lo hi H Q=> ∃a xs,x= .ref a/\ĉ K H a xs/\
 ¬ (HT.sIx xs.length 0 lo=0/\HT.sIx xs.length xs.length hi=xs.length)/\ ∀p,H p=xa->Q (.ref p) (upd H p (.tup (MC xs lo hi)))
def X0K:SlR X (Kw X.K):=by
 intro À s σ H x v vl vu lo hi sl Q I rx hs pl pu h;obtain⟨a,xs,rfl,hx,hw,q⟩:=h;cases rx;obtain⟨its,r,ht,hz⟩:=I.tuple hx;have hlen:its.toArray.size=xs.length:=by rw [R4];exact r.length.symm
 refine⟨"tuple",_,PyProof.Rows.slot_tuple_getitem.lookup,ht.typeIs,?_⟩;refine HT.JJ ht hs pl pu (by rw [hlen];exact hw) ?_ (by rw [hlen];exact hz);rw [hlen];refine⟨.ref s.heap.objs.size,_,I.laid (t':=s.toks) (o:= .tup (MC xs lo hi)) (λb ob q=>G9 _ q) (P7 _) ?_,rfl,q _ (I.hok.fresh (P7 _))⟩;exact⟨M1 (Wf xs lo hi) hz,_,(r.drop (HT.sIx xs.length 0 lo)).take (HT.sIx xs.length xs.length hi-HT.sIx xs.length 0 lo),ö.new _ _⟩
def SK (K:G3):R2:=λx y H Q=> ∃a b xs ys,x= .ref a/\y= .ref b/\ĉ K H a xs/\ĉ K H b ys/\xs≠ []/\xs.length+ys.length<=xh/\
 (ys= []->Q (.ref a) H)/\(ys≠ []-> ∀p,H p=xa->Q (.ref p) (upd H p (.tup (xs++ys))))
def Æ.nil_iff {xs:G0 V}{us:G0 G1}(r:Æ xs us):us= []↔xs= []:=by
 cases r with
 |nil=>simp
 |cons _ _=>simp
def X0t:Ĉ X (K6 .Add) (SK X.K):=by
 intro À s σ H x y v u Q I rx ry h;obtain⟨a,b,xs,ys,rfl,rfl,ha,hb,hx,hz,q1,q2⟩:=h;cases rx;cases ry;obtain⟨its,r1,p1,_⟩:=I.tuple ha;obtain⟨ĥ,r2,p2,_⟩:=I.tuple hb;refine HT.CK p1 p2 (λz=>hx (r1.nil_iff.mp z)) (λz=>⟨.ref a,H,I,rfl,q1 (r2.nil_iff.mp z)⟩) (λz=> ?_) (by rw [<-r1.length,<-r2.length];exact hz);refine⟨.ref s.heap.objs.size,_,I.laid (t':=s.toks) (o:= .tup (xs++ys)) (λb ob q=>G9 _ q) (P7 _) ?_,rfl,q2 (λw=>z (r2.nil_iff.mpr w)) _ (I.hok.fresh (P7 _))⟩;exact⟨by rw [P3];exact hz,_,r1.append r2,ö.new _ _⟩
end
def Ρ (n:P0)(i:P4):P1 P0:=if 0<=i then (if i<n then zq i.toNat else xa) else if-(n:P4)<=i then zq (i+n).toNat else xa
def ĕ {α:Type}(xs:G0 α)(i:P4):P1 α:=(Ρ xs.length i).bind λj=>xs[j]?
def Dj {n:P0}{i:P4}{j:P0}(h:Ρ n i=zq j):seqIndex? i n=zq j/\j<n/\ -(n:P4)<=i/\i<n:=by
 unfold Ρ at h
 by_cases h0:0<=i
 ·rw [S5 h0] at h
  by_cases h1:i<n
  ·rw [S5 h1] at h;have e:i.toNat=j:=C9 h;exact⟨by rw [sK h0 h1,e],by omega,by omega,h1⟩
  ·rw [R9 h1] at h;cases h
 ·rw [R9 h0] at h
  by_cases h1: -(n:P4)<=i
  ·rw [S5 h1] at h;have e:(i+n).toNat=j:=C9 h;exact⟨by rw [qP (by omega) h1,e],by omega,h1,by omega⟩
  ·rw [R9 h1] at h;cases h
def XD {α:Type}{xs:G0 α}{i:P4}{v:α}(h:ĕ xs i=zq v): ∃j,seqIndex? i xs.length=zq j/\xs[j]? =zq v/\j<xs.length/\ -(xs.length:P4)<=i/\i<xs.length:=by
 unfold ĕ at h;cases e:Ρ xs.length i with
 |none=>rw [e] at h;cases h
 |some j=>
  rw [e] at h;obtain⟨h1,h2,h3,h4⟩:=Dj e;exact⟨j,h1,h,h2,h3,h4⟩
def zU {α:Type}{xs:G0 α}{j:P0}{v:α}(h:xs[j]? =zq v):ĕ xs (j:P4)=zq v:=by
 have hj:j<xs.length:=(P8.mp h).1;have e:Ρ xs.length (j:P4)=zq j:=by
  unfold Ρ;rw [S5 (by omega),S5 (by omega)];simp
 unfold ĕ;rw [e];exact h
def YZ (b:S2):Prop:= ∀o i,n5 b xf o i=G0r [o,i] (lH o i)
def IxR (X:Cx)(r:R2):Prop:=
 ∀ (value slice:S2) (À:G0 (G7×Obj)) (s:G2) (σ:St) (H:Hp) (x y:V) (v u:G1) (Q:VK),Inv X À σ H s->RelV x v->RelV y u->r x y H Q->
  n5 slice xf v u=G0r [v,u] (lH v u)->D6 (R3 X.prog X.w) X.A (lR value slice v u) (EP X À σ Q) X.xe s
def MtR (X:Cx)(id:F7)(r:V->G0 V->Hp->VK->Prop):Prop:=
 ∀ (À:G0 (G7×Obj)) (s:G2) (σ:St) (H:Hp) (x:V) (xs:G0 V) (v:G1) (us:G0 G1) (Q:VK),Inv X À σ H s->RelV x v->Æ xs us->r x xs H Q->
  D6 (R3 X.prog X.w) X.A (call (.builtin id) (v::us)) (EP X À σ Q) X.xe s
section
variable {X:Cx}{a b:S2}{ta tb:TE}{pos:Pos}
def IxR.or {r r':R2}(h:IxR X r)(h':IxR X r'):IxR X (λx y H Q=>r x y H Q\/r' x y H Q):=by
 intro value slice À s σ H x y v u Q I rx ry q hs;rcases q with q|q
 ·exact h value slice À s σ H x y v u Q I rx ry q hs
 ·exact h' value slice À s σ H x y v u Q I rx ry q hs
def SL {r:R2}(hr:IxR X r)(ha:PE X a ta)(hb:PE X b tb)(hs:YZ b):PE X (.Subscript a b pos) (tOp r ta tb):=by
 intro À s σ H Q I h;exact pT (Sz ha hb I h λv u s2 x y H2 I2 rx ry q=>hr a b À s2 σ H2 x y v u Q I2 rx ry q (hs _ _))
def HL (K:G3):R2:=λx y H Q=> ∃p xs i v,x= .ref p/\y= .int i/\õ K H p xs/\ĕ xs i=zq v/\Q v H
def HM (K:G3):R2:=λx y H Q=> ∃p xs i v,x= .ref p/\y= .int i/\ĉ K H p xs/\ĕ xs i=zq v/\Q v H
def HN:R2:=λx y H Q=> ∃z i c,x= .str z/\y= .int i/\z.length<=xh/\ĕ z.cps.toList i=zq c/\Q (.str ⟨#[c]⟩) H
def X0u:IxR X (HL X.K):=by
 intro value slice À s σ H x y v u Q I rx ry h hs;obtain⟨p,xs,i,z,rfl,rfl,hq,he,q⟩:=h;cases rx;obtain⟨t,rfl⟩:=ry;obtain⟨its,r,pl,hz⟩:=I.list hq;obtain⟨j,h1,h2,h3,h4,h5⟩:=XD he;obtain⟨w,ew,rw'⟩:=r.get h2;have hl:=r.length;have hn:=Uf;have fin:EP X À σ Q w s:=⟨z,H,I,rw',q⟩
 by_cases h0:0<=i
 ·have hj:i.toNat=j:=by
   rw [sK h0 h5] at h1;exact C9 h1
  exact item_listR pl.isList h0 (by omega) (by rw [hj];simpa using ew) fin hs
 ·have hj:(i+(its.toArray.size:P4)).toNat=j:=by
   rw [qP (by omega) h4] at h1;rw [R4,<-hl];exact C9 h1
  exact mT (x:=w) pl.isList.typeIs slot_list_getitem.lookup
   (wpAny_getItem_list_neg (Q:=λr s'=>r=w/\EP X À σ Q r s') pl.isList (by omega) (by rw [R4]<;>omega) (by omega) (by rw [hj];simpa using ew) ⟨rfl,fin⟩) hs
def X0L:IxR X (HM X.K):=by
 intro value slice À s σ H x y v u Q I rx ry h hs;obtain⟨p,xs,i,z,rfl,rfl,hq,he,q⟩:=h;cases rx;obtain⟨t,rfl⟩:=ry;obtain⟨its,r,pl,hz⟩:=I.tuple hq;obtain⟨j,h1,h2,h3,h4,h5⟩:=XD he;obtain⟨w,ew,rw'⟩:=r.get h2;have hl:=r.length;have hn:=Uf;have fin:EP X À σ Q w s:=⟨z,H,I,rw',q⟩;exact mT (x:=w) pl.typeIs slot_tuple_getitem.lookup
  (getItem_tuple (j:=j) (Q:=λr s'=>r=w/\EP X À σ Q r s') pl (by omega) (by omega) (by rw [R4,<-hl];exact h1) (by simpa using ew) ⟨rfl,fin⟩) hs
def OZ:IxR X HN:=by
 intro value slice À s σ H x y v u Q I rx ry h hs;obtain⟨z,i,c,rfl,rfl,hz,he,q⟩:=h;obtain⟨t,rfl⟩:=rx;obtain⟨t',rfl⟩:=ry;obtain⟨j,h1,h2,h3,h4,h5⟩:=XD he;have hl:z.cps.toList.length=z.length:=by simp [Str.length]
 rw [hl] at h1 h4 h5;have hn:=Uf;exact IE (G0a s z t) slot_str_getitem.lookup (getItem_str (c:=c) (by
  have e1:decide (i< -(2^63:P4))=xf:=S0 (by omega);have e2:decide (i>=2^63)=xf:=S0 (by omega);rw [e1,e2,Bool.or_false]) (by rw [h1];simpa using h2) ⟨.str ⟨#[c]⟩,H,I.tok _,⟨_,rfl⟩,q⟩) hs
def rIx (K:G3):R2:=λx y H Q=>HL K x y H Q\/HM K x y H Q\/HN x y H Q
def Aa:IxR X (rIx X.K):=X0u.or (X0L.or OZ)
def GF (its:G0 G1)(n j:P0)(u:G1):bX (·.setIfInBounds j u) {cls:= .type "list",data:= .seq its.toArray n}= {cls:= .type "list",data:= .seq (its.set j u).toArray n}:=by
 simp [bX]
def Inv.lst {À:G0 (G7×Obj)}{σ:St}{H:Hp}{s:G2}{p:G7}{xs:G0 V}(I:Inv X À σ H s)(h:H p=zq (.lst xs)):
 ∃ (its:G0 G1) (n:P0),Æ xs its/\s.heap.get? p=zq {cls:= .type "list",data:= .seq its.toArray n}/\xs.length<=xh:=by
 obtain⟨z,its,n,r,e⟩:=I.hok p _ h;exact⟨its,n,r,e,z⟩
def Inv.lstUpd {À:G0 (G7×Obj)}{σ:St}{H:Hp}{s:G2}{p:G7}{xs ys:G0 V}{its its':G0 G1}{n n':P0}{f:Obj->Obj}(I:Inv X À σ H s)(h:H p=zq (.lst xs))
 (ho:s.heap.get? p=zq {cls:= .type "list",data:= .seq its.toArray n})(hf:f {cls:= .type "list",data:= .seq its.toArray n}= {cls:= .type "list",data:= .seq its'.toArray n'})(r:Æ ys its')(hz:ys.length<=xh)(t:P0):
 Inv X À σ (upd H p (.lst ys)) {s with heap:=s.heap.update p f,toks:=t}:=by
 have e:(s.heap.update p f).get? p=zq {cls:= .type "list",data:= .seq its'.toArray n'}:=by
  rw [bM f ho (by rw [hf]<;>rfl),hf]
 refine I.write (x:=p) (e:=p) (by rw [h];trivial) (.inl rfl) (λb u hb q=>(J5 _ _ (O6 hb)).trans q) ⟨_,e⟩ ?_;exact⟨hz,its',n',r,e⟩
def SM:V->V->V->Hp->(Hp->Prop)->Prop:=λo i v H Q=> ∃p xs k j,o= .ref p/\i= .int k/\H p=zq (.lst xs)/\Ρ xs.length k=zq j/\Q (upd H p (.lst (xs.set j v)))
def MT:HA X SM:=by
 intro À s σ H o i v ov iv u Q I ro ri rv h;obtain⟨p,xs,k,j,rfl,rfl,hp,hj,q⟩:=h;cases ro;obtain⟨t,rfl⟩:=ri;obtain⟨its,n,r,ho,hz⟩:=I.lst hp;obtain⟨h1,h2,h3,h4⟩:=Dj hj;have hl:=r.length;have hn:=Uf;have I':Inv X À σ (upd H p (.lst (xs.set j v))) {s with heap:=s.heap.update p (bX (·.setIfInBounds j u))}:=
  I.lstUpd hp ho (GF its n j u) (r.set rv j) (by rw [sP];exact hz) s.toks
 by_cases h0:0<=k
 ·have hk:k.toNat=j:=by
   rw [sK h0 h4] at h1;exact C9 h1
  exact G0B ho h0 (by omega) (by rw [R4,<-hl];exact h4) (by rw [hk];exact⟨_,I',q⟩)
 ·have hk:(k+(its.toArray.size:P4)).toNat=j:=by
   rw [qP (by omega) h3] at h1;rw [R4,<-hl];exact C9 h1
  exact G0b ho (by omega) (by rw [R4,<-hl];exact h3) (by omega) (by rw [hk];exact⟨_,I',q⟩)
def Uj (lo hi:P1 P4)(n:P0):(dU lo hi xa n).1=((HT.sIx n 0 lo:P0):P4)/\(dU lo hi xa n).2.1=((HT.sIx n n hi:P0):P4)/\(dU lo hi xa n).2.2=1:=by
 refine⟨?_,?_,rfl⟩
 ·cases lo with
  |none=>simp [dU,HT.sIx]
  |some i=>
   simp only [dU,HT.sIx,rR,show (1:P4)>0 by decide,gP]
   by_cases h:i<0
   ·simp only [h,gP]<;>omega
   ·simp only [h,mF]<;>omega
 ·cases hi with
  |none=>simp [dU,HT.sIx]
  |some i=>
   simp only [dU,HT.sIx,rR,show (1:P4)>0 by decide,gP]
   by_cases h:i<0
   ·simp only [h,gP]<;>omega
   ·simp only [h,mF]<;>omega
def Va (its:G0 G1)(lo hi:P1 P4):slicePick its.toArray lo hi xa=((its.drop (HT.sIx its.length 0 lo)).take (HT.sIx its.length its.length hi-HT.sIx its.length 0 lo)).toArray:=by
 obtain⟨h1,h2,h3⟩:=Uj lo hi its.toArray.size;unfold slicePick;rw [h1,h2,h3];simp only [sliceRange_one,pick_run,R4]<;>rfl
def Kx (K:G3):V->P1 P4->P1 P4->Hp->VK->Prop:=λx lo hi H Q=> ∃a xs,x= .ref a/\õ K H a xs/\ ∀p,H p=xa->Q (.ref p) (upd H p (.lst (MC xs lo hi)))
def CO:SlR X (Kx X.K):=by
 intro À s σ H x v vl vu lo hi sl Q I rx hs pl pu h;obtain⟨a,xs,rfl,hx,q⟩:=h;cases rx;obtain⟨its,r,ht,hz⟩:=I.list hx;have hlen:=r.length;refine⟨"list",_,slot_list_getitem.lookup,ht.isList.typeIs,?_⟩;refine lS ht.isList hs pl pu .none (by simp) ?_ (by rw [R4]<;>omega);rw [Va,<-hlen];refine⟨.ref s.heap.objs.size,_,I.laid (t':=s.toks) (o:= .lst (MC xs lo hi)) (λb ob q=>G9 _ q) (P7 _) ?_,rfl,q _ (I.hok.fresh (P7 _))⟩;exact⟨M1 (Wf xs lo hi) hz,_,0,(r.drop (HT.sIx xs.length 0 lo)).take (HT.sIx xs.length xs.length hi-HT.sIx xs.length 0 lo),S7 _ rfl⟩
def Š:ê X (.builtin "len") (λxs H Q=> ∃p ys,xs= [.ref p]/\(õ X.K H p ys\/ĉ X.K H p ys)/\Q (.int ys.length) H):=by
 intro À s σ H xs us Q I r h;obtain⟨p,ys,rfl,hq,q⟩:=h;obtain⟨u,rfl,rx⟩:=Wb r;cases rx;have hn:=Uf;rcases hq with hq|hq
 ·obtain⟨its,r',pl,hz⟩:=I.list hq;have hlen:=r'.length;exact Calls.call_len_list pl.isList (by simp only [R4]<;>omega) ⟨.int ys.length,H,I.tok _,⟨s.toks+1,by rw [R4,hlen]⟩,q⟩
 ·obtain⟨its,r',pl,hz⟩:=I.tuple hq;have hlen:=r'.length;exact len_tuple pl (by simp only [R4]<;>omega) ⟨.int ys.length,H,I.tok _,⟨s.toks+1,by rw [R4,hlen]⟩,q⟩
def Ŕ:ê X (.type "tuple") (λxs H Q=> ∃p ys,xs= [.ref p]/\((õ X.K H p ys/\ ∀l,H l=xa->Q (.ref l) (upd H l (.tup ys)))\/(ĉ X.K H p ys/\Q (.ref p) H))):=by
 intro À s σ H xs us Q I r h;obtain⟨p,ys,rfl,h⟩:=h;obtain⟨u,rfl,rx⟩:=Wb r;cases rx;rcases h with ⟨hq,q⟩|⟨hq,q⟩
 ·obtain⟨its,r',pl,hz⟩:=I.list hq;have hlen:=r'.length;refine call_tuple_list pl.isList (λh' kp=> ?_) (by simp only [R4]<;>omega);have I1:Inv X À σ H {s with heap:=h'}:=I.kept (t':=s.toks) kp;have I2:Inv X À σ (upd H h'.objs.size (.tup ys)) {s with heap:=h'.push {cls:= .type "tuple",data:= .seq its.toArray}}:=
   I1.laid (t':=s.toks) (λb o e=>G9 _ e) (P7 _) (show Ô X.prog X.w _ _ _ (.tup ys) from ⟨hz,its,r',ö.new _ _⟩)
  exact⟨.ref h'.objs.size,_,I2,rfl,q _ (I1.hok.fresh (P7 _))⟩
 ·obtain⟨its,r',pl,hz⟩:=I.tuple hq;exact call_tuple_same pl ⟨.ref p,H,I,rfl,q⟩
def tyV (K:G3)(T:F7)(x:V)(H:Hp):Prop:=match x with
 | .str _=>T= "str"
 | .int _=>T= "int"
 | .ref p=>(T= "list" /\ ∃xs,õ K H p xs)\/(T= "tuple" /\ ∃o,K.lookup p=zq o/\o.cls= .type "tuple" /\o.dict=xa)\/
  (T= "dict" /\((∃Ù,H p=zq (.dK Ù))\/ ∃Ù,H p=zq (.dT Ù)))\/(T= "set" /\ ∃S n,H p=zq (.set S n))
 |_=>False
def Ab {À:G0 (G7×Obj)}{σ:St}{H:Hp}{s:G2}{T:F7}{x:V}{v:G1}(I:Inv X À σ H s)(r:RelV x v)(ty:tyV X.K T x H):
 s.TypeIs v T/\ ∀a,v= .ref a-> ∃ob,s.heap.get? a=zq ob/\ob.dict=xa:=by
 cases x with
 |str z=>
  obtain⟨t,rfl⟩:=r;cases (show T= "str" from ty);exact⟨G0a s z t,λ_ e=>nomatch e⟩
 |int i=>
  obtain⟨t,rfl⟩:=r;cases (show T= "int" from ty);exact⟨mU s i t,λ_ e=>nomatch e⟩
 |ref p=>
  cases r;rcases ty with ⟨rfl,xs,hq⟩|⟨rfl,o,hk,hc,hd⟩|⟨rfl,hk⟩|⟨rfl,S,n,hk⟩
  ·obtain⟨its,_,pl,_⟩:=I.list hq;refine⟨pl.isList.typeIs,λa e=> ?_⟩;cases e;obtain⟨o,n,e,c,hd,_⟩:=pl;exact⟨o,e,hd⟩
  ·refine⟨⟨o,I.kIn p o hk,hc⟩,λa e=> ?_⟩;cases e;exact⟨o,I.kIn _ o hk,hd⟩
  ·have z: ∃o,s.heap.get? p=zq o/\o.ExactDict:=by
    rcases hk with ⟨Ù,hk⟩|⟨Ù,hk⟩
    ·obtain⟨_,_,_,_,o,_,_,e,ex,_⟩:=I.hok p _ hk;exact⟨o,e,ex⟩
    ·obtain⟨_,_,_,_,o,_,_,e,ex,_⟩:=I.hok p _ hk;exact⟨o,e,ex⟩
   obtain⟨o,e,ex⟩:=z;refine⟨⟨o,e,ex.1⟩,λa e2=> ?_⟩;cases e2;exact⟨o,e,ex.2.1⟩
  ·obtain⟨o,_,_,_,e,ex,_⟩:=I.hok p _ hk;refine⟨⟨o,e,ex.1⟩,λa e2=> ?_⟩;cases e2;exact⟨o,e,ex.2.1⟩
 |_=>exact xn ty
def tBM (K:G3)(T:F7)(r:V->G0 V->Hp->VK->Prop)(to:TE)(t:TA):TE:=λσ H Q=>to σ H λx H1=>tyV K T x H1/\t σ H1 λxs H2=>r x xs H2 Q
variable {o e:S2}{es:G0 S2}{to:TE}{t:TA}{name:Str}{apos Ë:Pos}{T id:F7}{r:V->G0 V->Hp->VK->Prop}
def Dl (pa:PlainAttrs T)(slot:Slot T name id)(hty:typeOf (.builtin id)=pure (.type "method_descriptor"))(hm:MtR X id r)(ho:PE X o to)(ha:PA X (e::es) t)
 (hbase:K9 o name X.env (L7 o X.env)=L7 o X.env:=by rfl)
 (hfew:((E3 Ë (P9 (e::es) X.env)).all (λx=> !x.1)&&(g7 Ë (aY [] X.env)).all (λx=>x.1.isSome)
  &&decide ((e::es).length+([]:G0 aI).length+(if ([]:G0 aI).isEmpty then 0 else 1)<30))=xb:=by rfl)
 (hline:(apos.endLine==Ë.line)=xb:=by rfl)(hs:P9 (e::es) X.env=(xf,L7 e X.env)::P9 es X.env:=by rfl)(hplain:(E3 Ë (P9 es X.env)).any (·.1)=xf:=by rfl):
 PE X (.Call (.Attribute o name apos) (e::es) [] Ë) (tBM X.K T r to t):=by
 intro À s σ H Q I h;refine wpAny_Call_method_late hbase hfew hline rfl (Ø (ho À s σ H _ I h) λv s1 ⟨x,H1,I1,r1,ty,q1⟩=> ?_);obtain⟨h1,h2⟩:=Ab I1 r1 ty;refine⟨T,id,pa,slot,hty,h1,h2,?_⟩;have hA:=ha Ë À s1 σ H1 _ I1 q1;rw [hs] at hA ⊢;refine mV (by show (xf||(E3 Ë (P9 es X.env)).any (·.1))=xf;rw [hplain]<;>rfl) (n6 ?_);exact Ø hA λus s2 ⟨vs,H2,I2,r2,q2⟩=>hm À s2 σ H2 x vs v us Q I2 r1 r2 q2
end
def MtM (X:Cx)(id:F7)(r:V->G0 V->Hp->VK->Prop):Prop:=
 ∀ (À:G0 (G7×Obj)) (s:G2) (σ:St) (H:Hp) (x:V) (xs:G0 V) (v:G1) (us:G0 G1) (Q:VK),Inv X À σ H s->RelV x v->Æ xs us->r x xs H Q->
  D6 (R3 X.prog X.w) X.A (call (.builtin id) (v::us)) (EP X À σ Q) X.xe s
def Æ.one: ∀ {x:V} {us:G0 G1},Æ [x] us-> ∃u,us= [u]/\RelV x u
 |_,_,.cons r .nil=>⟨_,rfl,r⟩
def Æ.rep {xs:G0 V}{us:G0 G1}(h:Æ xs us): ∀k:P0,Æ (M8 k xs).flatten (M8 k us).flatten
 |0=> .nil
 |k+1=>by
  rw [V2,V2,X3,X3];exact Æ.append h (Æ.rep h k)
theorem Wg (its:G0 G1): ∀ (k:P0) (acc:G0 G1),
 t8 (λx1 x2=>x1++x2) acc.toArray (M8 k its.toArray)=(acc++(M8 k its).flatten).toArray
 |0,acc=>by simp
 |k+1,acc=>by
  have e:acc.toArray++its.toArray=(acc++its).toArray:=by simp
  have e2:(acc++its)++(M8 k its).flatten=acc++(M8 (k+1) its).flatten:=by
   rw [V2,X3,D0]
  rw [<-e2,<-Wg its k (acc++its),<-e,V2,sQ]
section
variable {X:Cx}{À:G0 (G7×Obj)}{σ:St}{H:Hp}{s:G2}{l b:G7}{xs ys zs:G0 V}
def Inv.lset {its its':G0 G1}{n:P0}{f:T7 G1->T7 G1}{t':P0}(I:Inv X À σ H s)(hH:H l=zq (.lst xs))
 (e:s.heap.get? l=zq {cls:= .type "list",data:= .seq its.toArray n})(hf:f its.toArray=its'.toArray)(hv:Æ ys its')(hz:ys.length<=xh):
 Inv X À σ (upd H l (.lst ys)) {s with heap:=s.heap.update l (bX f),toks:=t'}:=by
 have q:=PySem.IsL.update e f;rw [hf] at q;refine I.write (x:=l) (e:=l) (by rw [hH];exact trivial) (.inl rfl) (λb' u hb hu=>(J5 s.heap (bX f) (O6 hb)).trans hu) ⟨_,q⟩ ?_;exact⟨hz,its',_,hv,q⟩
def Inv.lnew {its:G0 G1}{t':P0}(I:Inv X À σ H s)(hv:Æ ys its)(hz:ys.length<=xh):
 Inv X À σ (upd H s.heap.objs.size (.lst ys)) {s with heap:=s.heap.push {cls:= .type "list",data:= .seq its.toArray},toks:=t'}:=
 I.laid (λ_ _ q=>G9 _ q) (P7 _) ⟨hz,its,0,hv,S7 _ rfl⟩
def Inv.fresh (I:Inv X À σ H s):H s.heap.objs.size=xa:=I.hok.fresh (P7 _)
def Inv.lstM (I:Inv X À σ H s)(hH:H l=zq (.lst xs)):xs.length<=xh/\ ∃ (its:G0 G1) (n:P0),Æ xs its/\xs.length=its.length/\s.heap.get? l=zq {cls:= .type "list",data:= .seq its.toArray n}:=by
 obtain⟨z,its,n,r,e⟩:=I.hok l _ hH;exact⟨z,its,n,r,r.length,e⟩
def QN {n:P0}(h:n<=xh):aP n=xf:=by
 unfold aP;exact S0 (by omega)
end
section
variable {X:Cx}
def CP:V->G0 V->Hp->VK->Prop:=λx vs H Q=> ∃l xs y,x= .ref l/\vs= [y]/\H l=zq (.lst xs)/\xs.length<xh/\Q .non (upd H l (.lst (xs++ [y])))
def Dm:MtM X "list.append" CP:=by
 intro À s σ H x vs v us Q I rx rv h;obtain⟨l,xs,y,rfl,rfl,hH,hz,q⟩:=h;cases rx;obtain⟨u,rfl,ru⟩:=rv.one;obtain⟨z,its,n,r,hl,e⟩:=I.lstM hH;refine gH F.slot_list_append ⟨_,e,rfl⟩ F.entry_list_append (F.args_list_append_2 _ _) (PySem.list_append l its.toArray n u (by rw [R4];omega)) ⟨e,?_⟩;refine⟨.non,_,I.lset (its':=its++ [u]) hH e (by simp) (r.append (.cons ru .nil)) ?_,rfl,q⟩;rw [P3,f8];omega
def CQ:V->G0 V->Hp->VK->Prop:=λx vs H Q=> ∃l b xs zs,x= .ref l/\vs= [.ref b]/\H l=zq (.lst xs)/\H b=zq (.lst zs)/\xs.length+zs.length<=xh/\Q .non (upd H l (.lst (xs++zs)))
def Do:MtM X "list.extend" CQ:=by
 intro À s σ H x vs v us Q I rx rv h;obtain⟨l,b,xs,zs,rfl,rfl,hH,hB,hz,q⟩:=h;cases rx;obtain⟨u,rfl,ru⟩:=rv.one;cases ru;obtain⟨z,its,n,r,hl,e⟩:=I.lstM hH;obtain⟨z2,ĥ,n2,r2,hl2,e2⟩:=I.lstM hB;have hsz:its.toArray.size+ĥ.toArray.size<=xh:=by rw [R4,R4];omega
 have X0v: ¬ (!its.toArray.isEmpty&&aP (its.toArray.size+ĥ.toArray.size))=xb:=by
  rw [QN hsz,Bool.and_false];exact D2
 refine gH F.slot_list_extend ⟨_,e,rfl⟩ F.entry_list_extend (F.args_list_extend_2 _ _)
  (AutoSeq1.list_extend_list_list_0 l its.toArray n b ĥ.toArray n2 X0v (by rw [R4];omega) (by omega)) ⟨e,e2,?_⟩
 refine⟨.non,_,I.lset (its':=its++ĥ) hH e (by simp) (r.append r2) ?_,rfl,q⟩;rw [P3];omega
def Ky:R2:=λx y H Q=> ∃l b xs zs,x= .ref l/\y= .ref b/\H l=zq (.lst xs)/\H b=zq (.lst zs)/\xs.length+zs.length<=xh/\ ∀p,H p=xa->Q (.ref p) (upd H p (.lst (xs++zs)))
def Ac:Ĉ X (K6 .Add) Ky:=by
 intro À s σ H x y v u Q I rx ry h;obtain⟨l,b,xs,zs,rfl,rfl,hH,hB,hz,q⟩:=h;cases rx;cases ry;obtain⟨z,its,n,r,hl,e⟩:=I.lstM hH;obtain⟨z2,ĥ,n2,r2,hl2,e2⟩:=I.lstM hB;refine PySem.P.add_list e e2 ?_ (by rw [R4,R4];omega);have ea:its.toArray++ĥ.toArray=(its++ĥ).toArray:=by simp
 rw [ea];exact⟨.ref _,_,I.lnew (t':=s.toks) (r.append r2) (by rw [P3];omega),rfl,q _ I.fresh⟩
def Kz:R2:=λx y H Q=> ∃l k xs,x= .ref l/\y= .int k/\H l=zq (.lst xs)/\ -(2^63)<=k/\k<2^63/\xs.length*k.toNat<=xh/\
 ∀p,H p=xa->Q (.ref p) (upd H p (.lst (M8 k.toNat xs).flatten))
def XE {α:Type}(xs:G0 α)(k:P0):(M8 k xs).flatten.length=k*xs.length:=by
 induction k with
 |zero=>simp
 |succ k ih=>rw [V2,X3,P3,ih,xR,Nat.add_comm]
def Ad:Ĉ X (K6 .Mult) Kz:=by
 intro À s σ H x y v u Q I rx ry h;obtain⟨l,k,xs,rfl,rfl,hH,h1,h2,hz,q⟩:=h;cases rx;obtain⟨t,rfl⟩:=ry;obtain⟨z,its,n,r,hl,e⟩:=I.lstM hH;have hlen:its.toArray.size*k.toNat<=xh:=by rw [R4,<-hl];exact hz
 have X1P: ¬its.toArray.size*k.toNat>(2^63-1) / 8:=by
  have:(xh:P0)<=(2^63-1) / 8:=by decide
  omega
 have X0Z: ¬ (!iV k)=xb:=by
  rw [uA h1 h2];exact D2
 have X0v: ¬aP (its.toArray.size*k.toNat)=xb:=by
  rw [QN hlen];exact D2
 have X0M:t8 (λx1 x2=>x1++x2) #[] (M8 (if its.toArray.isEmpty=xb then 0 else k.toNat) its.toArray)=(M8 k.toNat its).flatten.toArray:=by
  have f0: ∀m:P0,t8 (λx1 x2=>x1++x2) #[] (M8 m its.toArray)=(M8 m its).flatten.toArray:=λm=>by
   have:=Wg its m [];rw [O2] at this;exact this
  rw [f0];cases its with
  |nil=>simp
  |cons a r'=>rw [R9 (by simp)]
 refine j8 (T:= "list") (U:= "int") (by decide) ⟨_,e,rfl⟩ (λs'=>mU s' k t) noFill_list_mul sR hJ repeat_list F.slot_int_index.lookup
  (gH hJ (mU s k t) rS (qQ _ _) (int___rmul___int_list k t l its.toArray n)
   ⟨e,rfl,⟨_,e,rfl⟩,gH F.slot_list_mul ⟨_,e,rfl⟩ F.entry_list_mul (F.args_list_mul_2 _ _) (AutoListH.list___mul___list_int_3 l its.toArray n k t X0Z X1P X0v) ⟨e,?_⟩⟩)
 rw [X0M];exact⟨.ref _,_,I.lnew (t':=s.toks) (r.rep k.toNat) (by rw [XE,qR];exact hz),rfl,q _ I.fresh⟩
end
end L2
namespace Att
open PySem PySem.W PySem.Calls PyProof.Rows
def Wh {P:G0O}{h:N8}: ∀ (ns:G0 P4) (vs:G0 G1),WellAll P h vs (ns.map WData.int)->mW vs ns:=by
 intro ns
 induction ns with
 |nil=>
  intro vs w;rw [aJ] at w;cases w;exact .nil
 |cons n ns ih=>
  intro vs w;rw [S9] at w;cases w with
  |cons a b=>
   cases a;exact .cons _ _ (ih _ b)
def Dp {l:OpenLaw}{n:P0}(hn:l.most=zq n){P:G0O}{h:N8}{args:G0 WData}{X1d:G0 G1}
 (X00:l.row.toRowW.claim.pre args=xb)(hwl:WellAll P h X1d args):
 ∃a vs ns,X1d= [N7 a]/\args= [WData.list (ns.map WData.int)]/\h.get? a=zq {cls:= .type "list",data:= .seq vs.toArray}/\mW vs ns/\ns.length<=n:=by
 have hsh:WShape.hasAll [] args [.list .int]=xb:=(pre_splitW X00).1;have hc:l.pre.holds [] {args:=args}=xb:=(pre_splitW X00).2;obtain⟨d,r,rfl,h1,h2⟩:=hasAllW_cons hsh;obtain rfl:=hasAllW_nil h2;obtain⟨xs,rfl,h3⟩:=hasW_list h1;obtain⟨ns,rfl⟩:=items_int h3;have hlen:ns.length<=n:=by
  unfold OpenLaw.pre at hc;have h4:(WTm.not (.lt (.lit (.int (n:P4))) (.len (.arg 0)))).holds [] {args:= [.list (ns.map .int)]}=xb:=by
   have h4:=(holds_andW hc).1;rw [hn] at h4;exact h4
  have h5:=condW_of h4 (w_not (w_lt w_lit (w_len_list (w_arg rfl))));rw [G6] at h5;refine gI λq=> ?_
  have q':(n:P4)<((ns.length:P0):P4):=by omega
  first
   |(rw [S6 q'] at h5;exact xj h5 (by decide))
   |(simp at h5;omega)
 cases hwl with
 |cons w1 w2=>
  cases w2;cases w1 with
  |list ho X1e=>exact⟨_,_,ns,rfl,rfl,ho,Wh ns _ X1e,hlen⟩
def Dq (l:OpenLaw)(args:G0 WData):l.row.toRowW.claim.post args (.bool xb) args=xb:=
 postW_of (r:=l.row.toRowW) (X:=(xb==xb))
  (show WShape.has [] (.bool xb) .bool=xb by first|rfl|decide|simp [WShape.has,WShape.arms,WShape.armsAll])
  (show (WTm.eq .res (.lit (.bool xb))).value [] {args:=args,res:=zq (.bool xb),after:=args}=zq (.bool (xb==xb)) from w_eq_bool (w_res rfl) w_lit) rfl
def attach_call {l:OpenLaw}{n:P0}{q:D5}{loose:G0 Str}{XP:(Str->P1 G1)->N8->Prop}{YP:T8->N8->Prop}{d:DefRec}
 (hn:l.most=zq n)(hdf:d.params.defaults= [])
 (call: ∀ (w:T8) (s₀ s₁:G2) (mg mb:Str->P1 G1) (fa:G7) (o:Obj) (pm cd doc:G1) (a:G7) (vs:G0 G1) (ns:G0 P4),
  Ground q loose [] XP w s₀ mg mb s₁.heap->YP w s₁.heap->
  s₁.heap.get? fa=zq o->o.data= .func (docDef d.name d.params d.body d.scope pm cd doc)->s₁.heap.CodeRec cd d.name->mg d.name=zq (.ref fa)->
  s₁.heap.get? a=zq {cls:= .type "list",data:= .seq vs.toArray}->mW vs ns->ns.length<=n->s₁.gens= #[]->
  U5 (R3 l.prog w) oW (.call (.ref fa) ⟨[.ref a],[]⟩) (λr s'=>r= .ok (.ret (.bool xb))/\OldK s₁.heap s'.heap/\s'.os=s₁.os/\iG s'.gens) s₁):
 WalkO q loose XP YP l.row.toRowW d [] (λf vs=>uB f vs):=by
 intro w s₀ s₁ mg mb G Y fa o pm cd doc dV kV ho hd hcd hD hmg hg args X1d as X00 hlay hrd hwl hlo;obtain rfl:dV= .none:=Dflts.none hD hdf;obtain rfl:kV= .none:=Dflts.noKw hD;obtain⟨a,vs,ns,rfl,rfl,X1f,hints,hlen⟩:=Dp hn X00 hwl;refine enter_call (aG (call w s₀ s₁ mg mb fa o pm cd doc a vs ns G Y ho (fd_plain hd) hcd hmg X1f hints hlen hg) λr s' hq=> ?_);obtain⟨rfl,h2,h3,h4⟩:=hq;exact⟨.inl ⟨.bool xb,.bool xb,[],rfl,λ_=>rfl,.bool xb,Dq l _,λ_=>⟨List.Pairwise.nil,λ_ hm=>(nomatch hm)⟩⟩,h2,h3,h4⟩
end Att
namespace L2
open PySem PySem.Spec PyProof.Rows
theorem Uk: ∀ {vs:G0 G1} {ns:G0 P4},mW vs ns->Æ (ns.map V.int) vs
 |_,_,.nil=> .nil
 |_,_,.cons n t h=> .cons ⟨t,rfl⟩ (Uk h)
def Only (H:Hp):Prop:= ∀b,H b=xa\/ ∃o xs,H b=zq (.frz o (.lst xs))
def CT (s:L8)(j:P0):L8:=match s with
 | .ClassDef _ _ _ body _ _ _ _ _ _ _=>body.getD j (.Pass ⟨0,0,0,0⟩)
 |_=> .Pass ⟨0,0,0,0⟩
def wD (s:L8):oV:=match s with
 | .FunctionDef _ a _ _ _ _ _ _ _ _=>a
 |_=> {posonlyargs:= [],args:= [],vararg:=xa,kwonlyargs:= [],kw_defaults:= [],kwarg:=xa,defaults:= []}
def jL (s:L8):G0 L8:=match s with
 | .FunctionDef _ _ b _ _ _ _ _ _ _=>b
 |_=> []
def jd (s:L8):A2:=match s with
 | .FunctionDef _ _ _ _ _ _ sc _ _ _=>sc
 |_=> {kind:= .function,names:= [],isGenerator:=xf,isCoroutine:=xf}
abbrev à:CXT:=λ_ _ _ _ _ _=>False
abbrev E0:XK:=λ_ _ _=>False
variable {X:Cx}
def CV:Wc à X E0:=λ_ _ _ _ _ _ _ h=>h.elim
structure â (K:G3)(x qual:Str)(st:L8)(f:G7)(fd:R8):Prop where
 ex: ∃ (oc:G1) (od:P1 G7) (kV doc pm:G1) (an:P1 G7) (Ï ct:G1) (Ĕ:T7 (P1 G1)),
  fd=W7 x qual (wD st) (jL st) (jd st) .none kV doc pm an Ï ct/\K.lookup f=zq ⟨oc,od,.func fd,Ĕ⟩/\eB K Ï qual=xb
 kp:J8 K (.ref f)=xb
section
variable {P:D5}{w:T8}{K:G3}{mg:Str->P1 G1}{base:N8}
variable {qual:Str}
def â.ok {x:Str}{st:L8}{f:G7}{fd:R8}{N ps:G0 Str}{k:P0}{sp:Sp}(F:â K x qual st f fd)(S:Ã N ps (jd st))(len: ∀vs H Q E,sp vs H Q E->vs.length=ps.length)
 (Þ: ∀ (Ï:G1) (A:S4) (outer:G0 Env) (s:G2) (H:Hp) (vs:G0 V) (Q:VK) (E:XK),Ð k (A.deeper (K2 qual (jd st) s.heap.objs.size f Ï))->sp vs H Q E->
  ∃t,ő (ZT à P w K mg base N qual (jd st) f Ï A outer s H E).nox (jL st) t/\t {nx:=λ_ H'=>Q .non H',rt:=Q} (start N vs) H):Ì P w K mg base à (k+1) f fd ps sp:=by
 obtain⟨oc,od,kV,doc,pm,an,Ï,ct,Ĕ,rfl,lk,hcd⟩:=F.ex;refine CJ lk hcd S len λA outer s H vs Q E hr œ=> ?_
 obtain⟨t,h,q⟩:=Þ Ï A outer s H vs Q E hr œ;exact⟨t,h.nox,q⟩
def â.binds {x:Str}{st:L8}{f:G7}{fd:R8}{ps:G0 Str}(F:â K x qual st f fd)
 (h: ∀ (kV doc pm:G1) (an:P1 G7) (Ï ct:G1) (us:G0 G1),us.length=ps.length->qL (W7 x qual (wD st) (jL st) (jd st) .none kV doc pm an Ï ct) ⟨us,[]⟩=pure (ps.zip us)):Binds K fd ps []:=by
 obtain⟨oc,od,kV,doc,pm,an,Ï,ct,Ĕ,rfl,lk,hcd⟩:=F.ex;exact .all (h kV doc pm an Ï ct)
def BM {x:Str}{st:L8}{f:G7}{oc:G1}{od an:P1 G7}{Ĕ:T7 (P1 G1)}{kV doc pm Ï ct:G1}(l:K.lookup f=zq ⟨oc,od,.func (W7 x qual (wD st) (jL st) (jd st) .none kV doc pm an Ï ct),Ĕ⟩)
 (c:eB K Ï qual=xb)(k:J8 K (.ref f)=xb):â K x qual st f (W7 x qual (wD st) (jL st) (jd st) .none kV doc pm an Ï ct):=⟨⟨oc,od,kV,doc,pm,an,Ï,ct,Ĕ,rfl,l,c⟩,k⟩
end
def zk {n:P0}(h:n<=1000):n<xh:=U2 h (by decide)
def jU {A B:Prop}(h:B):if xf=xb then A else B:=by
 rw [R9 D2];exact h
def vA {A B:Prop}(h:A):if xb=xb then A else B:=by
 rw [S5 rfl];exact h
def Ul {c A B:Prop}[Decidable c](h1:c->A)(h2: ¬c->B):if c then A else B:=by
 by_cases h:c
 ·rw [S5 h];exact h1 h
 ·rw [R9 h];exact h2 h
section
variable {κ:Type}[DecidableEq κ]
def BN (Ù:G0 (κ×V))(k:κ)(v:V):G0 (κ×V):=
 if (Ù.any λkv=>decide (kv.1=k))=xb then Ù.map (λkv=>if kv.1=k then (kv.1,v) else kv) else Ù++ [(k,v)]
def XF (Ù:G0 (κ×V))(k:κ)(v:V):(BN Ù k v).length<=Ù.length+1:=by
 unfold BN;split
 ·rw [G6];omega
 ·rw [P3,D8,B6];omega
def KV.any {Ù:G0 (κ×V)}{vs:G0 (κ×G1)}(r:KV Ù vs)(k:κ):(Ù.any λkv=>decide (kv.1=k))=vs.any λkv=>decide (kv.1=k):=by
 unfold KV at r
 induction r with
 |nil=>rfl
 |cons h t ih=>rw [lU,lU,ih,h.1]
def KV.repl {Ù:G0 (κ×V)}{vs:G0 (κ×G1)}(r:KV Ù vs)(k:κ){y:V}{u:G1}(ry:RelV y u):
 KV (Ù.map λkv=>if kv.1=k then (kv.1,y) else kv) (vs.map λkv=>if kv.1=k then (kv.1,u) else kv):=by
 unfold KV at r ⊢
 induction r with
 |nil=>exact .nil
 | @cons p q ps qs h t ih=>
  rw [S9,S9];refine .cons ?_ ih;obtain⟨h1,h2⟩:=h
  by_cases e:p.1=k
  ·rw [S5 e,S5 (h1.symm.trans e)];exact⟨h1,ry⟩
  ·rw [R9 e,R9 (λz=>e (h1.trans z))];exact⟨h1,h2⟩
def KV.put {Ù:G0 (κ×V)}{vs:G0 (κ×G1)}(r:KV Ù vs)(k:κ){y:V}{u:G1}(ry:RelV y u):KV (BN Ù k y) (G0P vs k u):=by
 unfold BN G0P;rw [r.any k]
 by_cases e:(vs.any λkv=>decide (kv.1=k))=xb
 ·rw [S5 e,S5 e];exact r.repl k ry
 ·rw [R9 e,R9 e];exact Paired.snoc r ⟨rfl,ry⟩
end
variable {P:D5}{w:T8}
def SN {k:Č}{u:G1}(r:RelV (kV k) u):(wQ P w).is k u=xb:=by
 cases k with
 |inl i=>obtain⟨t,e⟩:=(show ∃t,u=gC i t from r);subst e;exact Xy P w i t
 |inr x=>obtain⟨t,e⟩:=(show ∃t,u=oS x t from r);subst e;exact Xz P w x t
section
variable {P:D5}{w:T8}{H:Hp}{h:N8}{a:G7}
def SO {u:HO}(ok:ă P w H h)(e:Rd H a u):Ô P w H h a u:=e.ok ok
def SQ {Ù:G0 (Č×V)}(ok:ă P w H h)(e:Rd H a (.dK Ù)):Ù.length<=xh/\(a==J4)=xf/\ ∃vs,KV Ù vs/\h.DictOf (wQ P w) a vs:=
 show Ô P w H h a (.dK Ù) from SO ok e
def SR {Ù:G0 (Č×V)}(ok:ă P w H h)(e:H a=zq (.dK Ù)):Ù.length<=xh/\(a==J4)=xf/\ ∃vs,KV Ù vs/\h.DictOf (wQ P w) a vs:=SQ ok (.inl e)
end
section
variable {X:Cx}{À:G0 (G7×Obj)}{σ:St}{H:Hp}{s:G2}{a:G7}{y v:V}{u r:G1}{o:P1 V}{A:S4}{E:G1->G2->Prop}
def Inv.big (I:Inv X À σ H s):J4<s.heap.objs.size:=by
 have h:xi<s.heap.objs.size:=(I.mod.glob.keeps I.bk).lt;exact cI (by decide) h
def XG {h':N8}{t':P0}{ob:HO}(I:Inv X À σ H s)(mu:Mut (H a))(hs:aF a s.heap h')(he: ∃q,h'.get? a=zq q)(new:Ô X.prog X.w (upd H a ob) h' a ob):
 Inv X À σ (upd H a ob) {s with heap:=h',toks:=t'}:=
 I.write (x:=a) (e:=a) mu (.inl rfl) (λb q hb z=>(hs.2 b hb).trans z) he new
def Ae {P:D5}{w:T8}{H':Hp}{h':N8}{Ù:G0 (Č×V)}{vs:G0 (Č×G1)}(z:Ù.length<=xh)(hd:(a==J4)=xf)(rel:KV Ù vs)(dd:h'.DictOf (wQ P w) a vs):
 Ô P w H' h' a (.dK Ù):=⟨z,hd,vs,rel,dd⟩
end
def SS (i:S2):Prop:= ∀ov iv,n5 i xf ov iv=G0r [ov,iv] (lH ov iv)
variable {prog:D5}{env:Env}{pos:Pos}
def CY {A:S4}{E:G1->G2->Prop}{s:G2}{value slice:S2}{T id:F7}{Q:G1->G2->Prop}
 (hl:gG (.type T) "__getitem__" =pure (zq (.builtin id)))(hs:SS slice)
 (h:D6 (R3 prog w) A (L7 value env) (λo s₁=>D6 (R3 prog w) A (L7 slice env) (λi s₂=>s₂.TypeIs o T/\D6 (R3 prog w) A (lH o i) Q E s₂) E s₁) E s):
 D6 (R3 prog w) A (L7 (.Subscript value slice pos) env) Q E s:=by
 refine pT (R7 h (λo s₁ h₁=>R7 h₁ (λi s₂ X0N=> ?_) λ_ _ x=>x) λ_ _ x=>x);obtain⟨hT,X0N⟩:=X0N;unfold lR;refine xg ?_;rw [getitemInPython_of_ne hT.not_modules];refine xg (X7 hT hl ?_);have fin:D6 (R3 prog w) A (n5 slice xf o i) (λr s₃=>D6 (R3 prog w) A (letTemporaryGo value o r >>= λ_=>pure r) Q E s₃) E s₂:=by
  rw [hs o i];exact wpAny_operating (R7 X0N (λr s₃ X01=>xg (wpAny_letTemporaryGo (G8 X01))) λ_ _ x=>x)
 first
  |exact G8 (xg fin)
  |exact xg (G8 (xg fin))
  |exact xg fin
variable {H:Hp}
def MU (h:N8)(hb:J4<h.objs.size):Ô P w H (h.push {cls:= .type "dict",data:= .dict #[]}) h.objs.size (.dK []):=
 ⟨B0 _,beq_eq_false_iff_ne.mpr (O6 (M6 hb)),[],.nil,Heap.DictOf.new h⟩
def Dr:G0 (TE×TE)->St->Hp->(G0 (V×V)->Hp->Prop)->Prop
 | [],_,H,Q=>Q [] H
 |(tk,tv)::r,σ,H,Q=>tk σ H λx H1=>tv σ H1 λy H2=>Dr r σ H2 λps H3=>Q ((x,y)::ps) H3
abbrev VV:G0 (V×V)->G0 (G1×G1)->Prop:=Paired λp q=>RelV p.1 q.1/\RelV p.2 q.2
def PPs (X:Cx)(pos:Pos)(keys:G0 (P1 S2))(values:G0 S2)(trs:G0 (TE×TE)):Prop:=
 ∀ (À:G0 (G7×Obj)) (s:G2) (σ:St) (H:Hp) (Q:G0 (V×V)->Hp->Prop),Inv X À σ H s->Dr trs σ H Q->
  D6 (R3 X.prog X.w) X.A (evalPairs (pairTrees keys values X.env pos)) (λvs s'=> ∃ps H',Inv X À σ H' s'/\VV ps vs/\Q ps H') X.xe s
def CZ:PPs X pos [] [] []:=λÀ s σ H Q I h=>pairTrees_nil_walk ⟨[],H,I,.nil,h⟩
def MV {k v:S2}{ks:G0 (P1 S2)}{vs:G0 S2}{tk tv:TE}{trs:G0 (TE×TE)}(hk:PE X k tk)(hv:PE X v tv)(hr:PPs X pos ks vs trs):
 PPs X pos (zq k::ks) (v::vs) ((tk,tv)::trs):=λÀ s σ H Q I h=>
 pairTrees_cons_walk (Ø (hk À s σ H _ I h) λu s1 ⟨x,H1,I1,rx,q1⟩=>Ø (hv À s1 σ H1 _ I1 q1) λw2 s2 ⟨y,H2,I2,ry,q2⟩=>
  Ø (hr À s2 σ H2 _ I2 q2) λws s3 ⟨ps,H3,I3,rel,q3⟩=>⟨(x,y)::ps,H3,I3,.cons ⟨rx,ry⟩ rel,q3⟩)
def Um (Ù more:G0 (Č×V)):G0 (Č×V):=more.foldl (λacc kv=>BN acc kv.1 kv.2) Ù
def KV.merge: ∀ {more:G0 (Č×V)} {rs:G0 (Č×G1)} {Ù:G0 (Č×V)} {vs:G0 (Č×G1)},KV more rs->KV Ù vs->KV (Um Ù more) (merged vs rs):=by
 intro more rs Ù vs r;unfold KV at r
 induction r generalizing Ù vs with
 |nil=>intro q;exact q
 | @cons p q ps qs h t ih=>
  intro r0;have e:KV (BN Ù p.1 p.2) (G0P vs q.1 q.2):=by
   have:=r0.put p.1 h.2;rw [<-h.1];exact this
  exact ih e
theorem Ji: ∀ (more Ù:G0 (Č×V)),(Um Ù more).length<=Ù.length+more.length
 | [],Ù=>by show Ù.length<=Ù.length+0;omega
 |p::r,Ù=>by
  have h1:=Ji r (BN Ù p.1 p.2);have h2:=XF Ù p.1 p.2;show (Um (BN Ù p.1 p.2) r).length<=_;rw [D8];omega
theorem Yw {P:D5}{w:T8}: ∀ {Ù:G0 (Č×V)} {ws:G0 (G1×G1)},VV (Ù.map λkv=>(kV kv.1,kv.2)) ws-> ∃rs,Carries (wQ P w) ws rs/\KV Ù rs
 | [],_,r=>by rw [aJ] at r;cases r;exact⟨[],Y7,.nil⟩
 |p::Ù,_,r=>by
  rw [S9] at r;cases r with
  | @cons a b as bs h t=>
   obtain⟨rs,c,q⟩:=Yw (P:=P) (w:=w) t;obtain⟨b1,b2⟩:=b;exact⟨(p.1,b2)::rs,⟨SN h.1,rfl,c⟩,.cons ⟨rfl,h.2⟩ q⟩
def ST (trs:G0 (TE×TE)):TE:=λσ H Q=> ∀p,H p=xa->Dr trs σ (upd H p (.dK [])) λps H2=>H2 p=zq (.dK [])/\ ∃Ù:G0 (Č×V),ps=Ù.map (λkv=>(kV kv.1,kv.2))/\Ù.length<=15/\Q (.ref p) (upd H2 p (.dK (Um [] Ù)))
def Fa {keys:G0 (P1 S2)}{values:G0 S2}{trs:G0 (TE×TE)}(h:PPs X pos keys values trs)(X1e:keys.all (·.isSome)=xb)(hl:keys.length=values.length)(h0:keys≠ [])
 (h15:keys.length<=15):PE X (.Dict keys values pos) (ST trs):=by
 intro À s σ H Q I q;have hn:=I.hok.fresh (P7 s.heap.objs.size);have I1:=I.laid (a:=s.heap.objs.size) (o:= .dK []) (h':=s.heap.push {cls:= .type "dict",data:= .dict #[]}) (t':=s.toks) (λ_ _ q=>G9 _ q) (P7 _) (MU s.heap I.big);refine wpAny_Dict_walk (knd:=wQ X.prog X.w) X1e hl h0 h15 (Ø (h À _ σ _ _ I1 (q _ hn)) λws s2 ⟨ps,H2,I2,rel,e,Ù,ep,lk,q2⟩=> ?_);subst ep;obtain⟨rs,c,rk⟩:=Yw (P:=X.prog) (w:=X.w) rel;obtain⟨z,hd,ď,r0,dd⟩:=SR I2.hok e;cases r0;refine⟨rs,c,dd,λh' dd' hs=>⟨.ref s.heap.objs.size,_,?_,rfl,q2⟩⟩;have hz:(Um [] Ù).length<=xh:=by
  have h1:=Ji Ù [];rw [B6] at h1;rw [lE];omega
 have he: ∃q,h'.get? s.heap.objs.size=zq q:=let ⟨q,_,_,hq,_⟩:=dd';⟨q,hq⟩;exact XG I2 (by rw [e];exact Y7) hs he (Ae hz hd (rk.merge .nil) dd')
structure M2 (X:Cx)(o:S2)(m:Str)(apos:Pos)(e f:S2)(Ë:Pos):Prop where
 base:K9 o m X.env (L7 o X.env)=L7 o X.env
 few:((E3 Ë (P9 [e,f] X.env)).all (λx=> !x.1)&&(g7 Ë (aY [] X.env)).all (λx=>x.1.isSome)
  &&decide (([e,f]:G0 S2).length+([]:G0 aI).length+(if ([]:G0 aI).isEmpty then 0 else 1)<30))=xb
 line:(apos.endLine==Ë.line)=xb
 trees:E3 Ë (P9 [e,f] X.env)= [(xf,L7 e X.env),(xf,L7 f X.env)]
def wS (names:G0 (Str×NameKind))(env:Env)(cs:G0 (Str×G7)):G0 (Str×G7):=
 names.foldl (λcs p=>if p.2= .free then (match env.cells.lookup p.1 with|some c=>(p.1,c)::cs|none=>cs) else cs) cs
def zZ (p:Str×NameKind)(l:G0 (Str×NameKind))(env:Env)(cs:G0 (Str×G7)):
 wS (p::l) env cs=wS l env (if p.2= .free then (match env.cells.lookup p.1 with|some c=>(p.1,c)::cs|none=>cs) else cs):=rfl
theorem Wi {f:Str×NameKind->G0 (Str×G7)->Sem (dW (G0 (Str×G7)))}
 (h1: ∀p cs,p.2≠ .free->f p cs=pure (.yield cs))(h2: ∀p cs c,p.2= .free->env.cells.lookup p.1=zq c->f p cs=pure (.yield ((p.1,c)::cs))):
 ∀ (l:G0 (Str×NameKind)) (cs:G0 (Str×G7)),(∀p∈l,p.2= .free-> ∃c,env.cells.lookup p.1=zq c)->forIn l cs f=pure (wS l env cs)
 | [],cs,_=>rfl
 |p::l,cs,h=>by
  have ih:=Wi h1 h2 l
  by_cases hp:p.2= .free
  ·obtain⟨c,hc⟩:=h p R1 hp;rw [aC,h2 p cs c hp hc,pure_bind];show forIn l ((p.1,c)::cs) f=_;rw [ih _ λq hq=>h q (M5 _ hq),zZ,S5 hp,hc]
  ·rw [aC,h1 p cs hp,pure_bind];show forIn l cs f=_;rw [ih _ λq hq=>h q (M5 _ hq),zZ,R9 hp]
variable {scope:A2}
def Vb (h: ∀p∈scope.names,p.2= .free-> ∃c,env.cells.lookup p.1=zq c):iW scope env=pure (wS scope.names env []):=by
 simp only [iW];rw [Wi (env:=env) (λp cs hp=> ?_) (λp cs c hp hc=> ?_) _ _ h]
 ·rfl
 ·obtain⟨n,k⟩:=p;have hb:(k==A0)=xf:=by simpa using hp
  simp only [hb,Y9,mF]
 ·obtain⟨n,k⟩:=p;have hb:(k==A0)=xb:=by simpa using hp
  have hc':env.cells.lookup n=zq c:=hc;simp only [hb,gP,G0Q,hc',pure_bind]
theorem Wj: ∀ (l:G0 (Str×NameKind)) (cs:G0 (Str×G7)),(∀p∈cs,env.cells.lookup p.1=zq p.2)-> ∀p∈wS l env cs,env.cells.lookup p.1=zq p.2
 | [],cs,h,p,hp=>h p hp
 |q::l,cs,h,p,hp=>by
  rw [zZ] at hp;refine Wj l _ (λr hr=> ?_) p hp
  by_cases hq:q.2= .free
  ·rw [S5 hq] at hr;cases e:env.cells.lookup q.1 with
   |none=>rw [e] at hr;exact h r hr
   |some c=>
    rw [e] at hr;rcases R5.mp hr with rfl|hr
    ·exact e
    ·exact h r hr
  ·rw [R9 hq] at hr;exact h r hr
theorem Wk: ∀ (l:G0 (Str×NameKind)) (cs:G0 (Str×G7)),∀p∈cs,p∈wS l env cs
 | [],cs,p,hp=>hp
 |q::l,cs,p,hp=>by
  rw [zZ];refine Wk l _ p ?_
  by_cases hq:q.2= .free
  ·rw [S5 hq];cases e:env.cells.lookup q.1 with
   |none=>exact hp
   |some c=>exact M5 _ hp
  ·rw [R9 hq];exact hp
variable {x:Str}
theorem Wl {c:G7}(hc:env.cells.lookup x=zq c): ∀ (l:G0 (Str×NameKind)) (cs:G0 (Str×G7)),(x,A0)∈l->(x,c)∈wS l env cs
 |q::l,cs,h=>by
  rw [zZ];rcases R5.mp h with e|h
  ·subst e;rw [S5 rfl,hc];exact Wk l _ _ R1
  ·exact Wl hc l _ h
variable {α:Type}
theorem wC: ∀ {l:G0 (Str×α)} {x:Str} {c:α},l.lookup x=zq c->(x,c)∈l
 | [],_,_,h=>by simp at h
 |(n,k)::r,x,c,h=>by
  rw [A6] at h;cases hx:x==n with
  |true=>
   rw [hx] at h;have e:x=n:=eq_of_beq hx;cases h;subst e;exact R1
  |false=>rw [hx] at h;exact M5 _ (wC h)
theorem Yx: ∀ {l:G0 (Str×α)} {x:Str} {c:α},(x,c)∈l-> ∃c',l.lookup x=zq c'
 |(n,k)::r,x,c,h=>by
  rw [A6];cases hx:x==n with
  |true=>exact⟨_,rfl⟩
  |false=>
   rcases R5.mp h with e|h
   ·cases e;simp at hx
   ·exact Yx h
def Yy {l:G0 (Str×NameKind)}{c:G7}(h:(wS l env []).lookup x=zq c):env.cells.lookup x=zq c:=
 Wj l [] (λ_ z=>nomatch z) (x,c) (wC h)
def Ds {l:G0 (Str×NameKind)}{c:G7}(hc:env.cells.lookup x=zq c)(h:(x,A0)∈l):(wS l env []).lookup x=zq c:=by
 obtain⟨c',e⟩:=Yx (Wl hc l [] h);have:=Yy e;rw [hc] at this;cases this;exact e
theorem yo {κ:Type}{f:Str×κ->Str×κ}{g:Str->κ->κ}(hf: ∀n k,f (n,k)=(n,g n k))(x:Str): ∀l:G0 (Str×κ),(l.map f).lookup x=(l.lookup x).map (g x)
 | []=>rfl
 |(n,k)::r=>by
  rw [S9,hf,A6,A6,yo hf x r];cases same:x==n with
  |false=>rfl
  |true=>rw [eq_of_beq same];rfl
def zi {names:G0 (Str×NameKind)}{k:NameKind}(found:
 (names.map λ(n,k)=>if (k==A0&&env.scope.kind== .function&&env.kindOf n==zq .cell) then (n,aQ) else (n,k)).lookup x=zq k):
  names.lookup x=zq k\/names.lookup x=zq .free:=by
 rw [yo (g:=λn k=>if (k==A0&&env.scope.kind== .function&&env.kindOf n==zq .cell) then .cell else k) (λn k=>by dsimp only;split<;>rfl)] at found;obtain⟨k0,was,now⟩:=L0.mp found;split at now
 ·rename_i c;simp only [B7,beq_iff_eq] at c;exact .inr (by rw [was,c.1.1])
 ·exact .inl (by rw [was,now])
theorem wr: ∀ (names:G0 (Str×NameKind)) (n:P0) (acc:G0 (Str×G7)) (p:Str×G7),p∈Q6 n names acc->p∈acc\/(n<=p.2/\(p.1,aQ)∈names)
 | [],_,_,_,h=> .inl h
 |(x,k)::r,n,acc,p,h=>by
  unfold Q6 at h;split at h
  ·rename_i hk;rcases wr r (n+1) _ p h with z|⟨z1,z2⟩
   ·rcases R5.mp z with e|z
    ·subst e;have:k= .cell:=by simpa using hk
     subst this;exact .inr ⟨P7 _,R1⟩
    ·exact .inl z
   ·exact .inr ⟨by omega,M5 _ z2⟩
  ·rcases wr r n acc p h with z|⟨z1,z2⟩
   ·exact .inl z
   ·exact .inr ⟨z1,M5 _ z2⟩
theorem jV: ∀ (names:G0 (Str×NameKind)) (n:P0) (acc:G0 (Str×G7)),Q6 n names acc=Q6 n names []++acc
 | [],_,_=>rfl
 |(x,k)::r,n,acc=>by
  unfold Q6;split
  ·rw [jV r (n+1) ((x,n)::acc),jV r (n+1) [(x,n)],D0];rfl
  ·exact jV r n acc
def JK (l l':G0 (Str×α))(x:Str):(l++l').lookup x=(match l.lookup x with|some c=>zq c|none=>l'.lookup x):=by
 induction l with
 |nil=>rfl
 |cons p l ih=>
  obtain⟨n,c⟩:=p;rw [K0,A6,A6];cases x==n with
  |true=>rfl
  |false=>exact ih
def vN {names:G0 (Str×NameKind)}(here:names.lookup x=zq .cell):
 (names.map λ(n,k)=>if (k==A0&&env.scope.kind== .function&&env.kindOf n==zq .cell) then (n,aQ) else (n,k)).lookup x=zq .cell:=by
 rw [yo (g:=λn k=>if (k==A0&&env.scope.kind== .function&&env.kindOf n==zq .cell) then .cell else k) (λn k=>by dsimp only;split<;>rfl),here];simp
section
variable {M:cN}{A:S4}{E:G1->G2->Prop}{s:G2}
def GG (h:N8)(names:G0 (Str×NameKind)):(∀n c,(n,c)∈Q6 h.objs.size names []->(pushCells h names).IsCell c xa/\h.objs.size<=c)/\(Q6 h.objs.size names []).Pairwise λx y=>x.2≠y.2:=
 have laid:=cellsFrom_ok names h h.objs.size [] ⟨by simp,.nil⟩ (P7 _)
 ⟨laid.empty,laid.apart⟩
def Uo {scope:A2}{globals:G7}{closure:G0 (Str×G7)}{qual:Str}{func:P1 G7}{code:G1}{outer:Env}{builtins:G7}{Q:Env->G2->Prop}
 (hQ: ∀h',h'.Ns s.heap.objs.size (λ_=>xa)->(∀b o,s.heap.get? b=zq o->h'.get? b=zq o)->(∀n c,(n,c)∈Q6 (s.heap.objs.size+1) scope.names []->h'.IsCell c xa/\s.heap.objs.size+1<=c)->
  ((Q6 (s.heap.objs.size+1) scope.names []).Pairwise λx y=>x.2≠y.2)->
  Q (newEnv scope s.heap.objs.size globals (Q6 (s.heap.objs.size+1) scope.names closure) qual func code (zq outer) builtins) {s with heap:=h'}):
 D6 M A (uC scope globals closure [] qual func code (zq outer) builtins) Q E s:=by
 have names:=GG (s.heap.push {cls:= .type "dict",data:= .dict #[]}) scope.names;have first:(s.heap.push {cls:= .type "dict",data:= .dict #[]}).objs.size=s.heap.objs.size+1:=bY ..
 rw [first] at names;unfold uC;refine xg (wpAny_alloc (xg (wpAny_layCells _ (λn k cs=>rfl) _ _ _ _ ?_)));simp only [Option.isSome_some,gP];rw [first];exact xg (G8 (G8 (hQ _ ((Heap.Ns.new _ _).keeps (sS _ _)) (λb o here=>sS _ _ b o (G9 _ here)) names.1 names.2)))
end
def jQ (X:Cx)(scope:A2)(C:G7):G0 (Str×G7):=Q6 (C+1) scope.names (wS scope.names X.env [])
def yN (X:Cx)(scope:A2)(C:G7)(s₀:G2)(H₀:Hp)(ex:G0 G7):Cx:=
 {X with s₀:=s₀,H₀:=H₀,env:=uD scope (jQ X scope C) C X.env,outer:=X.stack,ex:=ex,fn:=λx=>scope.names.lookup x==zq .cell,pn:= [],xe:=λ_ _=>False}
def jj (X:Cx)(scope:A2)(X':Cx):Prop:= ∃C s₀ H₀ ex,X'=yN X scope C s₀ H₀ ex
structure Ñ (X:Cx)(scope:A2)(js:G0 P0):Prop where
 kind:scope.kind= .function
 locs: ∀p∈scope.names,p.2= .local->scope.names.lookup p.1=zq .local
 cels: ∀p∈scope.names,p.2= .cell->scope.names.lookup p.1=zq .cell
 free: ∀p∈scope.names,p.2= .free->X.env.scope.names.lookup p.1=zq .cell\/X.env.scope.names.lookup p.1=zq .free
 js: ∀ (i:P0) (x:Str),X.N[i]? =zq x->(scope.names.lookup x=zq .local\/scope.names.lookup x=zq .cell)->i∈js
variable {js:G0 P0}
def yg (S:Ñ X scope js){C:G7}{x:Str}{c:G7}(h:(jQ X scope C).lookup x=zq c):
 (scope.names.lookup x≠zq .cell/\X.env.cells.lookup x=zq c)\/(scope.names.lookup x=zq .cell/\(x,c)∈Q6 (C+1) scope.names []):=by
 unfold jQ at h;rw [jV,JK] at h;cases e:(Q6 (C+1) scope.names []).lookup x with
 |some d=>
  rw [e] at h;cases h;have m:=wC e;rcases wr _ _ _ _ m with z|⟨_,z⟩
  ·exact xj z (by simp)
  ·exact .inr ⟨S.cels _ z rfl,m⟩
 |none=>
  rw [e] at h;refine .inl ⟨λz=> ?_,Yy h⟩;obtain⟨d,hd⟩:=vn (sc:=scope) (n:=C+1) z;rw [e] at hd;cases hd
def Zt (S:Ñ X scope js){C:G7}{x:Str}{c:G7}(hc:X.env.cells.lookup x=zq c)(h:(x,A0)∈scope.names)(hn:scope.names.lookup x≠zq .cell):(jQ X scope C).lookup x=zq c:=by
 unfold jQ;rw [jV,JK];cases e:(Q6 (C+1) scope.names []).lookup x with
 |some d=>
  rcases wr _ _ _ _ (wC e) with z|⟨_,z⟩
  ·exact xj z (by simp)
  ·exact xj (S.cels _ z rfl) hn
 |none=>exact Ds hc h
def zQ:G0 P0->St->St
 | [],σ=>σ
 |j::js,σ=>zQ js (σ.set j xa)
theorem Yz: ∀ (js:G0 P0) (σ:St),(zQ js σ).length=σ.length
 | [],_=>rfl
 |j::js,σ=>by rw [zQ,Yz js];simp
theorem Wm: ∀ (js:G0 P0) (σ:St) (i:P0) (v:V),(zQ js σ)[i]? =zq (zq v)->σ[i]? =zq (zq v)
 | [],_,_,_,h=>h
 |j::js,σ,i,v,h=>by
  have h1:=Wm js _ i v h
  by_cases e:i=j
  ·subst e;rw [eO] at h1;simp at h1
  ·rwa [J0 (O6 e)] at h1
theorem zM: ∀ (js:G0 P0) (σ:St) (i:P0) (v:V),i∈js-> ¬ (zQ js σ)[i]? =zq (zq v)
 |j::js,σ,i,v,hm,h=>by
  rcases R5.mp hm with rfl|hm
  ·have h1:=Wm js _ i v h;rw [eO] at h1;simp at h1
  ·exact zM js _ i v hm h
variable {a:G7}{o:HO}
def ă.track {h:N8}(x:ă P w H h)(hn:H a=xa)(new:Ô P w (upd H a o) h a o):ă P w (upd H a o) h:=λb u e=>by
 by_cases hb:b=a
 ·subst hb;rw [jh] at e;cases e;exact new
 ·rw [jf hb] at e;exact(x b u e).stay (λc v _ q=>q) (λc q=>by rw [jf (jm q hn)];exact q) λc xs q=>by rw [jf (jm q hn)];exact q
def Agree (σ Â:St):Prop:=Â.length=σ.length/\ ∀ (i:P0) (v:V),σ[i]? =zq (zq v)->Â[i]? =zq (zq v)
variable {σ:St}
def Agree.set {j:P0}(v:V)(h: ∀u,¬σ[j]? =zq (zq u)):Agree σ (σ.set j (zq v)):=⟨by simp,λi u q=>by
 by_cases e:j=i
 ·subst e;exact xj q (h u)
 ·rw [J0 e];exact q⟩
def Agree.trans {a b c:St}(x:Agree a b)(y:Agree b c):Agree a c:=⟨y.1.trans x.1,λi v h=>y.2 i v (x.2 i v h)⟩
def ģ (X:Cx)(ifs:G0 S2)(t:TT):Prop:=
 ∀ (À:G0 (G7×Obj)) (s:G2) (σ:St) (H:Hp) (Q:N3->Hp->Prop),Inv X À σ H s->t σ H Q->
  D6 (R3 X.prog X.w) X.A (forIn ifs xb λc r=>if r=xb then do let ok <-isTrue c X.env (L7 c X.env);pure (X8 ok) else pure (X8 r)) (TP X À σ Q) X.xe s
def HP:TT:=λ_ H Q=>Q xb H
def Fb:ģ X [] HP:=λ_ _ _ H _ I h=>wpAny_tests_nil ⟨H,I,h⟩
def Fc {c:S2}{t:TT}(hc:PT X c t):ģ X [c] t:=λÀ s σ H Q I h=>wpAny_tests_one (hc À s σ H Q I h)
def Wn (iter target:S2)(ifs:G0 S2)(it:G1)(env:Env)(act:Sem Unit)(nxt:Code):Sem iK:=do
 cZ iter.pos
 match <-mQ it with
 |none=>pure (.done .next)
 |some v=>
  c9 target it v
  dF target env v
  let mut ok:=xb
  for c in ifs do
   if ok then ok <-isTrue c env (L7 c env)
  if ok then act
  again nxt
abbrev TM:=St->Hp->G0 V->(G0 V->Hp->Prop)->Prop
def Sg (X:Cx)(D:G7)(act:Sem Unit)(t:TM):Prop:=
 ∀ (À:G0 (G7×Obj)) (s:G2) (σ:St) (H:Hp) (ys:G0 V) (us:G0 G1) (Q:G0 V->Hp->Prop),Inv X ([(D,gQ us)]++À) σ H s->Æ ys us->ys.length<=xh->D∈X.ex->(∀x c,X.env.cells.lookup x=zq c->c≠D)->(∀p∈X.pn++À,p.1≠D)->t σ H ys Q->
  D6 (R3 X.prog X.w) X.A act (λ_ s'=> ∃Ċ μ H',Æ Ċ μ/\Inv X ([(D,gQ μ)]++À) σ H' s'/\Q Ċ H') (λ_ _=>False) s
def Af (te:TE):TM:=λσ H ys Q=>te σ H λy H1=>Q (ys++ [y]) H1
def YA (elt:S2)(env:Env)(acc:G1):Sem Unit:=do let _ <-call (.builtin "list.append") [acc,<-L7 elt env]
variable {elt:S2}{te:TE}
def Vc {D:G7}(hx:X.xe=λ_ _=>False)(he:PE X elt te):Sg X D (YA elt X.env (.ref D)) (Af te):=by
 intro À s σ H ys us Q I hv hz DX cD pD h;have q:=he _ s σ H _ I h;rw [hx] at q;unfold YA;refine xg (R7 q (λy s1 ⟨yv,H1,I1,r1,q1⟩=> ?_) λ_ _ z=>z);have zD:=I1.pin (D,gQ us) (D3 _ (O0 _ R1));refine xg (append_at (its:=us.toArray) (n:=us.length) zD.1 (λh11 X1Q X1R=>G8 ?_) (by rw [R4,<-hv.length];exact hz));have X1g:Inv X À σ H1 s1:=I1.pins_of λp hp=>I1.pin p (D3 _ (D3 _ hp))
 have I11:Inv X À σ H1 {s1 with heap:=h11}:=X1g.turned (t':=s1.toks) (it:=D) (λb o hb e=>X1Q.extBut b o hb e) zD.2.1 zD.2.2.1 (.inl DX) cD pD;have eD:h11.get? D=zq (gQ (us++ [y])):=by rw [X1R];exact xk zq (LCg.lst_snoc us y)
 refine⟨ys++ [yv],us++ [y],H1,hv.append (.cons r1 .nil),I11.pins_of λp hp=> ?_,q1⟩;rcases D9.mp hp with z|z
 ·rcases P2.mp z with rfl
  exact⟨eD,zD.2.1,zD.2.2.1,zD.2.2.2.1,λv z=>by cases z⟩
 ·exact I11.pin p (D3 _ z)
def Sh (js : G0 P0) (wi : TI) (g : TG) (tt : TT) (tm : TM) : TE := fun σ H Q => wi σ H fun J H1 =>
  ∃ W : P0 → P0 → G0 V → Hp → Prop, (∃ m, W 0 m [] H1) ∧ ∀ i m ys H, W i m ys H → ys.length ≤ xh ∧
    ((J.stop i H ∧ ∀ p, H p = xa → Q (.ref p) (upd H p (.lst ys))) ∨
     (J.go i H ∧ ∀ x H', J.yld i H x H' → g x (zQ js σ) H' fun Ü H2 => Agree (zQ js σ) Ü ∧ tt Ü H2 fun b H3 =>
        if b = xb then tm Ü H3 ys fun Ċ H4 => ∃ m', m' < m ∧ W (i + 1) m' Ċ H4 else ∃ m', m' < m ∧ W (i + 1) m' ys H3))
def tLC (js:G0 P0)(wi:TI)(g:TG)(tt:TT)(te:TE):TE:=Sh js wi g tt (Af te)
variable {e iter:S2}{ifs:G0 S2}
def Up {A:S4}{R:nZ->G2->Prop}{s:G2}{target:S2}{depth:P0}{it acc:G1}{act:Sem Unit}(I:P0->G2->Prop)
 (hq:(uW e depth it acc env).quiet=xb)(hd:(R3 prog w).den (.compLoop e depth it acc env)=(mG e depth it acc env).onRaise (λx=>do oX x env;sV x))(hA:A.under (.compLoop e depth it acc env)=A)
 (heq:mG e depth it acc env=Wn iter target ifs it env act (.compLoop e depth it acc env))
 (turn: ∀n s,I n s->D6 (R3 prog w) A (mQ it) (λr s₁=>match r with
  |none=>R (.ok .next) s₁
  |some v=>D6 (R3 prog w) A (c9 target it v) (λ_ s₁=>D6 (R3 prog w) A (dF target env v) (λ_ s₂=>
   D6 (R3 prog w) A (forIn ifs xb λc r=>if r=xb then do let ok <-PySem.isTrue c env (L7 c env);pure (X8 ok) else pure (X8 r)) (λok s₃=>
    if ok=xb then D6 (R3 prog w) A act (λ_ X1D=> ∃m,m<n/\I m X1D) (λ_ _=>False) s₃
    else ∃m,m<n/\I m s₃) (λ_ _=>False) s₂) (λ_ _=>False) s₁) (λ_ _=>False) s₁) (λ_ _=>False) s)
 (n:P0)(h:I n s):
 U5 (R3 prog w) A (.compLoop e depth it acc env) R s:=by
 refine codeAny_loop hq I (λn s hI=> ?_) n h;rw [hd,hA];refine wpAny_noted ?_;rw [heq];unfold Wn;refine xg (U1 (xg (R7 (turn n s hI) (λr s₁ h₁=> ?_) λ_ _ h'=>h'.elim)));cases r with
 |none=>exact G8 h₁
 |some v=>
  refine xg (R7 h₁ (λ_ s₁ h₁=> ?_) λ_ _ h'=>h'.elim);refine xg (R7 h₁ (λ_ s₂ X0N=>xg (R7 X0N (λok s₃ X01=> ?_) λ_ _ h'=>h'.elim)) λ_ _ h'=>h'.elim);cases ok with
  |false=>exact G8 ⟨rfl,X01⟩
  |true=>exact xg (R7 X01 (λ_ X1D h₅=>G8 ⟨rfl,h₅⟩) λ_ _ h'=>h'.elim)
abbrev TMG (α:Type):=St->Hp->α->(α->Hp->Prop)->Prop
def Ag {α:Type}(X:Cx)(Fit:α->Prop)(Acc:α->Obj->Prop)(D:G7)(act:Sem Unit)(t:TMG α):Prop:=
 ∀ (À:G0 (G7×Obj)) (s:G2) (σ:St) (H:Hp) (ys:α) (o:Obj) (Q:α->Hp->Prop),Inv X ([(D,o)]++À) σ H s->Fit ys->Acc ys o->D∈X.ex->(∀x c,X.env.cells.lookup x=zq c->c≠D)->(∀p∈X.pn++À,p.1≠D)->t σ H ys Q->
  D6 (R3 X.prog X.w) X.A act (λ_ s'=> ∃Ċ o' H',Acc Ċ o'/\Inv X ([(D,o')]++À) σ H' s'/\Q Ċ H') (λ_ _=>False) s
def tCG {α : Type} (Fit : α → Prop) (Acc : α → Obj → Prop) (ho : α → Obj → G7 → HO) (a0 : α) (js : G0 P0) (wi : TI) (g : TG) (tt : TT) (tm : TMG α) : TE := fun σ H Q => wi σ H fun J H1 =>
  ∃ W : P0 → P0 → α → Hp → Prop, (∃ m, W 0 m a0 H1) ∧ ∀ i m ys H, W i m ys H → Fit ys ∧
    ((J.stop i H ∧ ∀ p o, H p = xa → Acc ys o → Q (.ref p) (upd H p (ho ys o p))) ∨
     (J.go i H ∧ ∀ x H', J.yld i H x H' → g x (zQ js σ) H' fun Ü H2 => Agree (zQ js σ) Ü ∧ tt Ü H2 fun b H3 =>
        if b = xb then tm Ü H3 ys fun Ċ H4 => ∃ m', m' < m ∧ W (i + 1) m' Ċ H4 else ∃ m', m' < m ∧ W (i + 1) m' ys H3))
structure X0w (P:D5)(w:T8)(e:S2)(g:Y4)(rest:G0 Y4)(mk:Sem G1)(o0:Obj):Prop where
 cl:clausesOf e=g::rest
 quiet: ∀it acc env,(uW e 0 it acc env).quiet=xb
 den: ∀it acc env,(R3 P w).den (.compLoop e 0 it acc env)=(mG e 0 it acc env).onRaise (λx=>do oX x env;sV x)
 under: ∀A it acc env,iH A (.compLoop e 0 it acc env)=A
 start: ∀ {A:S4} {R:nZ->G2->Prop} {s:G2} {it acc env},U5 (R3 P w) A (.compLoop e 0 it acc env) R s->D6 (R3 P w) A (pP it) (λit' s'=>U5 (R3 P w) A (.compLoop e 0 it' acc env) R s') (notedBy (R3 P w) A env λx s'=>R (.error x) s') s->U5 (R3 P w) A (.compStart e 0 it acc env) R s
 live:o0.isFreed=xf
 made: ∀ {A:S4} {Q:G1->G2->Prop} {E:G1->G2->Prop} {s:G2},Q (.ref s.heap.objs.size) {s with heap:=s.heap.push o0}->D6 (R3 P w) A mk Q E s
variable {tg:S2}{rest:G0 Y4}{wi:TI}{g:TG}{tt:TT}
def BO {α:Type}{Fit:α->Prop}{Acc:α->Obj->Prop}{ho:α->Obj->G7->HO}{a0:α}{mk:Sem G1}{o0:Obj}{X1h:Pos}{tm:TMG α}{use:P1 (G1->Sem Unit)}{Qv:G1->G2->Prop}(hc:X.calm=xb)(S:Ñ X scope js)(hi:PI X tg iter wi)
 (ck:X0w X.prog X.w e ⟨tg,iter,ifs,0⟩ rest mk o0)(X1E:Acc a0 o0)(nocell: ∀a o,Acc a o-> ∀v,o.data≠ .cell v)(okO: ∀ {a o H h p},(p==J4)=xf->Fit a->Acc a o->h.get? p=zq o->Ô X.prog X.w H h p (ho a o p))
 (hg: ∀X',jj X scope X'->PG X' tg g)(ht: ∀X',jj X scope X'->ģ X' ifs tt)
 (act:Env->G1->Sem Unit)(ų: ∀it acc env,mG e 0 it acc env=Wn iter tg ifs it env (act env acc) (.compLoop e 0 it acc env))(he: ∀X',jj X scope X'-> ∀D,Ag X' Fit Acc D (act X'.env (.ref D)) tm)
 (hs: ∀x,T5 iter X.env x=pure x){À:G0 (G7×Obj)}{s:G2}{σ:St}{H:Hp}{Q:VK}(I:Inv X À σ H s)(h:tCG Fit Acc ho a0 js wi g tt tm σ H Q)
 (fin: ∀ (D C:G7) (H':Hp) (s':G2) (m:Str->P1 G1),s'.heap.Ns C m->(∀h',aF C s'.heap h'->Inv X À σ H' {s' with heap:=h'})->H' C=xa->C≠X.env.locals->C ∉ X.fs->X.s₀.heap.objs.size<=C->(∀x c,X.env.cells.lookup x=zq c->c≠C)->(∀p∈X.pn++À,p.1≠C)->
  Q (.ref D) H'->IF (R3 X.prog X.w) X.A X.xe use Qv (.ref D) C (.ok .next) s'):
 D6 (R3 X.prog X.w) X.A (lV e scope X.env X1h mk xf (L7 iter X.env) use) Qv X.xe s:=by
 have X1i:=Vb (scope:=scope) (env:=X.env) (λp hp e=>I.ok.has p.1 (S.free p hp e));refine wpAny_comprehension_free (use:=use) ck.cl hs X1i S.kind S.locs (Ø (hi À s σ H _ I h) λv s1 h1=>Ø h1 λitv s2 h2=> ?_);obtain⟨it,fp,tn,J,H2,e,I2,T,Œ,f2,W,⟨m0,w0⟩,turn⟩:=h2;subst e;refine ck.made (Uo (λh₁ š Τ č Ţ=> ?_));dsimp only at š Τ č Ţ ⊢;generalize hD:s2.heap.objs.size=D;generalize hH3:s2.heap.push o0=h3 at š Τ č Ţ ⊢;have sz3:h3.objs.size=D+1:=by rw [<-hH3,bY,hD]
 have up3: ∀b o,s2.heap.get? b=zq o->h3.get? b=zq o:=λb o e=>hH3 ▸ G9 _ e
 have I3:Inv X À σ H2 {s2 with heap:=h3}:=I2.kept (t':=s2.toks) up3;have hD3:h3.get? D=zq o0:=by rw [<-hH3,<-hD];exact S7 _ ck.live
 have fD:Px X À H2 D:=I2.fpOk (by rw [hD];exact P7 _) (I2.hok.fresh (by rw [hD];exact P7 _));have obf: ∀b∈fp,∃o,s2.heap.get? b=zq o/\ ∀v,o.data≠ .cell v:=T.obj _ _ Œ;have ltf: ∀b∈fp,b<D:=λb hb=>by obtain⟨o,e,_⟩:=obf b hb;rw [<-hD];exact D7 e
 generalize hC:h3.objs.size=C at š č Ţ ⊢;have CD:C=D+1:=hC.symm.trans sz3;have upC: ∀b o,h3.get? b=zq o->h₁.get? b=zq o:=Τ;generalize hX:yN X scope C {s2 with heap:=h3} H2 (fp++ [D])=X';have iX:jj X scope X':=⟨C,_,_,_,hX.symm⟩;have hf: ∀b∈fp++ [D],Px X À H2 b:=λb hb=>(D9.mp hb).elim (f2 b) λz=>by rw [P2.mp z];exact fD
 have cl: ∀x c,(jQ X scope C).lookup x=zq c->X.env.cells.lookup x=zq c\/C<c:=λx c e=>by
  rcases yg S e with ⟨_,z⟩|⟨_,z⟩
  ·exact .inl z
  ·exact .inr (eQ (č x c z).2)
 have olt: ∀x c,X.env.cells.lookup x=zq c->c<C:=λx c e=>by obtain⟨v,q⟩:=I3.cell x c e;rw [<-hC];exact q.lt
 have ltb: ∀b∈fp++ [D],b<C:=λb hb=>(D9.mp hb).elim (λz=>by have:=ltf b z;rw [CD];exact lJ this) λz=>by rw [P2.mp z,CD];exact aT _
 have okX:X'.Ok:=by
  subst hX;refine⟨I.ok.mod,S.kind,I.ok.glob,I.ok.blt,U6 hC,λx y c e1 e2=> ?_,λx hx=> ?_,λx c z e=> ?_,I.ok.hd,I.ok.frames,.inl rfl,λb hb=>⟨M6 (ltb b hb),λx c e=>(cl x c e).elim (λz=>(hf b hb).2.2.2.2.1 x c z) λz=>K4 (cI (ltb b hb) z)⟩,
   I3.bs,M1 I.ok.bsz I3.sz,λb o e hb=> ?_,λb hb z=> ?_,I3.stack,I3.stkFree⟩
  ·rcases yg S e1 with ⟨_,z1⟩|⟨_,z1⟩<;>rcases yg S e2 with ⟨_,z2⟩|⟨_,z2⟩
   ·exact I.ok.inj x y c z1 z2
   ·exact xj (cI (olt x c z1) (eQ (č y c z2).2)) (O7 _)
   ·exact xj (cI (olt y c z2) (eQ (č x c z1).2)) (O7 _)
   ·exact qM Ţ z1 z2
  ·have own:scope.names.lookup x=zq .cell-> ∃c,(jQ X scope C).lookup x=zq c:=λz=>by
    obtain⟨c,hc⟩:=vn (sc:=scope) (n:=C+1) z;exact⟨c,by unfold jQ;rw [jV,JK,hc]⟩
   have shr:scope.names.lookup x=zq .free-> ∃c,(jQ X scope C).lookup x=zq c:=λz=>by
    have fm:=wC z;obtain⟨c,hc⟩:=I.ok.has x (S.free _ fm rfl);exact⟨c,Zt S hc fm (by rw [z];decide)⟩
   rcases hx with hx|hx
   ·rcases zi (env:=X.env) hx with z|z
    ·exact own z
    ·exact shr z
   ·rcases zi (env:=X.env) hx with z|z<;>exact shr z
  ·have z':scope.names.lookup x=zq .cell:=by
    have z2:(scope.names.lookup x==zq aQ)=xb:=z;simpa using z2
   rcases yg S e with ⟨n,_⟩|⟨_,m⟩
   ·exact xj z' n
   ·show h3.objs.size<=c;rw [hC];exact T6 (eQ (č x c m).2)
  ·rcases (hf b hb).2.2.2.1 with z|z
   ·exact I.ok.noex b o e z
   ·exact xj (S8 (D7 e) (M1 I.ok.bsz z)) (O7 _)
  ·rcases R5.mp (I.stkSub b z) with q|q
   ·exact(hf b hb).2.1 q
   ·exact(hf b hb).2.2.1 q
 -- ζ block's first state
 have I4:Inv X' [(D,o0)] (zQ js σ) H2 {s2 with heap:=h₁}:=by
  subst hX;have hDC:D≠C:=by rw [CD];exact M6 (aT _)
  refine⟨okX,rfl,I2.bare,Un.kept (λb u e=>upC b u e),⟨_,š,λi x v e1 e2 e3=> ?_⟩,λx c e=> ?_,I3.hok.fresh (U6 hC),λx c e=>(cl x c e).elim (λz=>I2.freeC x c z) (λz=>I3.hok.fresh (by rw [<-hC] at z;exact T6 z)),λp hp=> ?_,I3.hok.kept upC,(Yz js σ).trans I2.len⟩
  ·have fr:scope.names.lookup x=zq .free:=by
    rcases e3 with e3|e3|e3
    ·rcases zi (env:=X.env) e3 with z|z
     ·exact xj e2 (zM js σ i v (S.js i x e1 (.inl z)))
     ·exact z
    ·rcases zi (env:=X.env) e3 with z|z
     ·exact xj e2 (zM js σ i v (S.js i x e1 (.inr z)))
     ·exact z
    ·rcases zi (env:=X.env) e3 with z|z<;>exact z
   have fm:=wC fr;obtain⟨m,hm,hl⟩:=I2.loc;have vis:=S.free _ fm rfl;obtain⟨u,r,lk⟩:=hl i x v e1 (Wm js σ i v e2) (.inr vis);have kd:(relabel scope X.env).names.lookup x=zq .cell\/(relabel scope X.env).names.lookup x=zq .free:=by
    rcases e3 with e3|e3|e3
    ·rcases zi (env:=X.env) e3 with z|z
     ·rw [fr] at z;cases z
     ·exfalso;have z2:=e3
      -- a local's kind stays
      exact xj e2 (zM js σ i v (S.js i x e1 (.inl (by
       have q: ∀ (l:G0 (Str×NameKind)),(l.map λ(n,k)=>if (k==A0&&X.env.scope.kind== .function&&X.env.kindOf n==zq .cell) then (n,aQ) else (n,k)).lookup x=zq .local->l.lookup x=zq .local:=by
        intro l
        induction l with
        |nil=>intro h;simp at h
        |cons p l ih=>
         obtain⟨n,k'⟩:=p;intro h;have h':List.lookup x ((if (k'==A0&&X.env.scope.kind== .function&&X.env.kindOf n==zq .cell)=xb then (n,aQ) else (n,k'))::(l.map λ(n,k)=>if (k==A0&&X.env.scope.kind== .function&&X.env.kindOf n==zq .cell) then (n,aQ) else (n,k)))=zq .local:=h;rw [A6]
         by_cases hc:(k'==A0&&X.env.scope.kind== .function&&X.env.kindOf n==zq .cell)=xb
         ·rw [S5 hc,A6] at h';cases hx:x==n with
          |true=>rw [hx] at h';cases h'
          |false=>rw [hx] at h';exact ih h'
         ·rw [R9 hc,A6] at h';cases hx:x==n with
          |true=>rw [hx] at h';exact h'
          |false=>rw [hx] at h';exact ih h'
       exact q _ z2))))
    ·exact .inl e3
    ·exact .inr e3
   rcases lk with ⟨k,_⟩|⟨_,c,hc,Ř⟩
   ·have k':X.env.scope.names.lookup x=zq .local:=k;rcases vis with z|z<;>(rw [k'] at z;cases z)
   ·refine⟨u,r,.inr ⟨kd,c,Zt S hc fm (by rw [fr];decide),?_⟩⟩;obtain⟨o,ho,hd⟩:=Ř;exact⟨o,upC _ _ (up3 _ _ ho),hd⟩
  ·rcases yg S e with ⟨_,z⟩|⟨_,z⟩
   ·obtain⟨v,o,ho,hd⟩:=I2.cell x c z;exact⟨v,o,upC _ _ (up3 _ _ ho),hd⟩
   ·exact⟨xa,(č x c z).1⟩
  ·have hp':p∈ [(D,o0)]:=hp;rcases P2.mp hp' with rfl
   refine⟨upC _ _ hD3,fD.1,hDC,λz=> ?_,nocell _ _ X1E⟩;rcases R5.mp (I.stkSub D z) with q|q
   ·exact fD.2.1 q
   ·exact fD.2.2.1 q
 have st4:tn 0 h₁:=T.keep _ _ _ Œ λb _ o e=>upC _ _ (up3 _ _ e)
 have eA:X'.A=X.A:=by rw [<-hX];rfl
 have eP:X'.prog=X.prog:=by rw [<-hX];rfl
 have eW:X'.w=X.w:=by rw [<-hX];rfl
 have eK:X'.K=X.K:=by rw [<-hX];rfl
 have eC:X'.calm=xb:=by rw [<-hX];exact hc
 have eV:X'.env=uD scope (jQ X scope C) C X.env:=by rw [<-hX];rfl
 have eE:X'.xe=λ_ _=>False:=by rw [<-hX];rfl
 -- X0X stays xb of ζ Ξ objects
 have ļ: ∀ {us:Obj} {H':Hp},(∀b∈fp,H' b=xa)-> ∀b∈fp,Px X' [(D,us)] H' b:=λ{us H'} hn b hb=>by
  have q:=hf b (O0 _ hb);subst hX;refine⟨hn b hb,M6 (ltb b (O0 _ hb)),λz=> ?_,.inl (O0 _ hb),λx c e=>(cl x c e).elim (λz=>q.2.2.2.2.1 x c z) (λz=>K4 (cI (ltb b (O0 _ hb)) z)),λp hp=> ?_⟩
  ·rcases R5.mp (I.stkSub b z) with r|r
   ·exact q.2.1 r
   ·exact q.2.2.1 r
  ·have hp':p∈ [(D,us)]:=hp;rcases P2.mp hp' with rfl
   exact K4 (ltf b hb)
 have loop: ∀s₃:G2,s₃= {s2 with heap:=h₁}->
  U5 (R3 X.prog X.w) X.A (.compLoop e 0 (.ref it) (.ref D) (uD scope (jQ X scope C) C X.env))
   (IF (R3 X.prog X.w) X.A X.xe use Qv (.ref D) C) s₃:=by
  rintro s₃ rfl;refine Up (act:=act (uD scope (jQ X scope C) C X.env) (.ref D)) (λn s'=> ∃i ys us H',Acc ys us/\Inv X' [(D,us)] (zQ js σ) H' s'/\tn i s'.heap/\(∀b∈fp,H' b=xa)/\W i n ys H') (ck.quiet _ _ _) (ck.den _ _ _) (ck.under _ _ _ _) (ų _ _ _) ?_ m0
   ⟨0,a0,o0,H2,X1E,I4,st4,λb hb=>(f2 b hb).1,w0⟩
  rintro n s5 ⟨i,ys,us,H5,hv5,I5,st5,fr5,w5⟩;obtain⟨fZ,tr⟩:=turn i n ys H5 w5;rcases tr with ⟨stop,qn⟩|⟨go,step⟩
  ·have q:=T.done X' eP eW eK eC i _ s5 _ H5 (λ_ _=>False) I5 (ļ fr5) st5 stop;rw [eA] at q;refine R7 q (λr s6 ⟨hr,I6⟩=> ?_) λ_ _ z=>z
   subst hr;obtain⟨m6,hm6,_⟩:=I6.loc;rw [eV] at hm6;have zD:=I6.pin (D,us) (D3 _ R1);have HD:H5 D=xa:=zD.2.1;have oD:s6.heap.get? D=zq (us):=zD.1;have hDC:D≠C:=by rw [CD];exact M6 (aT _)
   have HC:H5 C=xa:=by have z:=I6.free;rw [eV] at z;exact z
   have B:=I6.base;have os6:s6.os=s2.os:=by have z:=I6.os;rw [<-hX] at z;exact z
   have Bu:Un (ā X.stack) (fp++ [D]) H2 H5 h3 s6.heap:=by rw [<-hX] at B;exact B
   have neC: ∀b o,h3.get? b=zq o->b≠C:=λb o e=>by rw [<-hC];exact M6 (D7 e)
   refine fin D C (upd H5 D (ho ys us D)) s6 m6 hm6 (λh' hs'=> ?_) (by rw [jf (O6 hDC)];exact HC) ?_ ?_ ?_ (λx c e=>M6 (olt x c e)) ?_ (qn D us HD hv5)
   ·have hk5:ă X.prog X.w H5 h':=λb u e=>by
     have z:=I6.hok b u e;rw [eP,eW] at z;refine z.stay (λc v hc q=>hs'.extBut c v ?_ q) (λ_ q=>q) λ_ _ q=>q
     rcases hc with rfl|hc
     ·exact jm e HC
     ·exact jm hc HC
    refine I3.call' (ch:=fp++ [D]) os6 ⟨λb o e n hb hx=> ?_,λb o e n hb hx=> ?_,λb o e n hx=> ?_,λb o e hx=> ?_,λb xs e=> ?_,λb o u e=> ?_,λb ps e=> ?_⟩ (hk5.track HD ?_) I6.bare λb hb=> ?_
    ·exact hs'.extBut b o (neC b o e) (Bu.keep b o e n hb hx)
    ·obtain⟨sl,q⟩:=Bu.slot b o e n hb hx;exact⟨sl,hs'.extBut b _ (neC b o e) q⟩
    ·rw [jf λz=>hx (by rw [z];exact D3 _ R1)];exact Bu.free b o e n hx
    ·obtain⟨o',q⟩:=Bu.there b o e hx;exact⟨o',hs'.extBut b _ (neC b o e) q⟩
    ·have z:=Bu.tups b xs e;rw [jf (jm z HD)];exact z
    ·have z:=Bu.frzs b o u e;rw [jf (jm z HD)];exact z
    ·obtain⟨more,z⟩:=Bu.tbls b ps e;exact⟨more,by rw [jf (jm z HD)];exact z⟩
    ·exact okO (beq_eq_false_iff_ne.mpr (by rw [<-hD];exact O6 (M6 (cI (show J4<xi by decide) (I2.mod.glob.keeps I2.bk).lt)))) fZ hv5 (hs'.extBut D _ hDC oD)
    ·have q:=hf b hb;exact⟨q.2.2.2.1,q.2.1,q.2.2.2.2.1,q.2.2.2.2.2⟩
   ·rw [<-hC];exact K4 I3.lt
   ·exact I3.nofs (U6 hC)
   ·rw [<-hC];exact I3.sz
   ·intro p hp;have:=(I3.pin p hp).1;rw [<-hC];exact M6 (D7 this)
  ·have q:=T.item X' eP eW eK eC i _ s5 _ H5 (λ_ _=>False) I5 (ļ fr5) st5 go;rw [eA] at q;refine R7 q (λr s6 ⟨u,hr,h6⟩=> ?_) λ_ _ z=>z
   subst hr;refine R7 h6 (λ_ s7 ⟨x,H7,I7,r7,y7,st7,fr7⟩=> ?_) λ_ _ z=>z
   have I7':=I7.pinned (ļ fr7) (T.obj _ _ st7);have q7:=hg X' iX _ s7 _ H7 x u _ I7' r7 (step x H7 y7);rw [eP,eW,eA,eV,eE] at q7;refine R7 q7 (λ_ s8 ⟨σ8,H8,I8,ag8,q8⟩=> ?_) λ_ _ z=>z
   have q9:=ht X' iX _ s8 σ8 H8 _ I8 q8;rw [eP,eW,eA,eV,eE] at q9;refine R7 q9 (λok s9 ⟨H9,I9,q9⟩=> ?_) λ_ _ z=>z
   have Ŵ: ∀ {Â:St} {H':Hp} {s':G2} {us:Obj},Inv X' ([(D,us)]++vF fp s7.heap) Â H' s'->tn (i+1) s'.heap/\ ∀b∈fp,H' b=xa:=λ{Â H' s' us} I'=>
    ⟨T.keep _ _ _ st7 λb hb o e=>(I'.pin (b,o) (D3 _ (D3 _ (wB hb e)))).1,λb hb=>by
     obtain⟨o,e,_⟩:=T.obj _ _ st7 b hb;exact(I'.pin (b,o) (D3 _ (D3 _ (wB hb e)))).2.1⟩
   cases ok with
   |false=>
    have q9: ∃m',m'<n/\W (i+1) m' ys H9:=q9;obtain⟨m',hm,w9⟩:=q9;obtain⟨t9,f9⟩:=Ŵ I9;exact⟨m',hm,i+1,ys,us,H9,hv5,(I9.unpinned).weak ag8.1.symm ag8.2,t9,f9,w9⟩
   |true=>
    have q9:tm σ8 H9 ys λĊ H4=> ∃m',m'<n/\W (i+1) m' Ċ H4:=q9
    have DX:D∈X'.ex:=by rw [<-hX];exact D3 _ R1
    have pD: ∀p∈X'.pn++vF fp s7.heap,p.1≠D:=λp hp=>by
     have hp':p∈vF fp s7.heap:=by rw [<-hX] at hp;simpa [yN] using hp
     exact M6 (ltf _ (Wa hp').1)
    have cD: ∀x c,X'.env.cells.lookup x=zq c->c≠D:=λx c e=>by
     rw [eV] at e;exact(cl x c e).elim (λz=>fD.2.2.2.2.1 x c z) λz=>K4 (cI (by rw [CD];exact aT _) z)
    have q10:=he X' iX D _ s9 σ8 H9 ys us _ I9 fZ hv5 DX cD pD q9;rw [eP,eW,eA,eV] at q10;show D6 _ _ (act _ _) _ _ s9;refine R7 q10 (λ_ s10 ⟨Ċ,μ,H10,X1j,I10,m',hm,w10⟩=> ?_) λ_ _ z=>z
    obtain⟨t10,f10⟩:=Ŵ I10;exact⟨m',hm,i+1,Ċ,μ,H10,X1j,(I10.unpinned).weak ag8.1.symm ag8.2,t10,f10,w10⟩
 exact ck.start (loop _ rfl) (T.self X.A 0 _ _ _ st4 (loop _ rfl))
def wiC (wi:TI):TI:=λσ H R=> ∃R0,wi σ H R0/\ ∀J H1,R0 J H1->R J H1
def PI.cl (hi:PI X tg iter wi):PI X tg iter (wiC wi):=λÀ s σ H R I ⟨R0,h,i⟩=>Ø (hi À s σ H R0 I h) λv s1 h1=>Ø h1 λitv s2 ⟨it,fp,tn,J,H',e,I',T,t0,f,r⟩=>⟨it,fp,tn,J,H',e,I',T,t0,f,i J H' r⟩
def Dt:X0w P w (.ListComp elt (⟨tg,iter,ifs,0⟩::rest) scope pos) ⟨tg,iter,ifs,0⟩ rest (G0s []) (gQ []) where
 cl:=rfl
 quiet:=λ_ _ _=>rfl
 den:=λ_ _ _=>rfl
 under:=λ_ _ _ _=>rfl
 start:=λ{A R s it acc env} h0 h=>dB (pG (by
  unfold compStart;show D6 (R3 P w) A (ask >>= _) _ _ s;exact xg (mH (wpAny_ite (Ul (λ_=>xg (G8 (G8 ⟨rfl,h0⟩))) λ_=>xg (dH (xg (U1 (xg (R7 h (λ_ _ q=>G8 ⟨rfl,q⟩) λ_ _ q=>q))))))))))
 live:=rfl
 made:=λq=>Q8 q
def Du {X1h:Pos}{tm:TM}{use:P1 (G1->Sem Unit)}{Qv:G1->G2->Prop}(hc:X.calm=xb)(S:Ñ X scope js)(hi:PI X tg iter wi)
 (he0:e= .ListComp elt (⟨tg,iter,ifs,0⟩::rest) scope pos)
 (hg: ∀X',jj X scope X'->PG X' tg g)(ht: ∀X',jj X scope X'->ģ X' ifs tt)
 (act:Env->G1->Sem Unit)(ų: ∀it acc env,mG e 0 it acc env=Wn iter tg ifs it env (act env acc) (.compLoop e 0 it acc env))(he: ∀X',jj X scope X'-> ∀D,Sg X' D (act X'.env (.ref D)) tm)
 (hs: ∀x,T5 iter X.env x=pure x){À:G0 (G7×Obj)}{s:G2}{σ:St}{H:Hp}{Q:VK}(I:Inv X À σ H s)(h:Sh js wi g tt tm σ H Q)
 (fin: ∀ (D C:G7) (H':Hp) (s':G2) (m:Str->P1 G1),s'.heap.Ns C m->(∀h',aF C s'.heap h'->Inv X À σ H' {s' with heap:=h'})->H' C=xa->C≠X.env.locals->C ∉ X.fs->X.s₀.heap.objs.size<=C->(∀x c,X.env.cells.lookup x=zq c->c≠C)->(∀p∈X.pn++À,p.1≠C)->
  Q (.ref D) H'->IF (R3 X.prog X.w) X.A X.xe use Qv (.ref D) C (.ok .next) s'):
 D6 (R3 X.prog X.w) X.A (lV e scope X.env X1h (G0s []) xf (L7 iter X.env) use) Qv X.xe s:=by
 subst he0;refine BO (Fit:=λ(ys:G0 V)=>ys.length<=xh) (Acc:=λys o=> ∃us,Æ ys us/\o=gQ us) (ho:=λys _ _=> .lst ys) hc S hi.cl Dt ⟨[],.nil,rfl⟩ (λa o ⟨us,_,e⟩ v z=>by subst e;cases z) (λ_ hz ⟨us,hv,e⟩ hg=>by subst e;exact⟨hz,us,_,hv,hg⟩) hg ht act ų (λX' hX D À s σ H ys o Q I hz ⟨us,hv,e⟩ DX cD pD t=>by
  subst e;exact R7 (he X' hX D À s σ H ys us Q I hv hz DX cD pD t) (λ_ s' ⟨Ċ,μ,H',hv',I',q⟩=>⟨Ċ,_,H',⟨μ,hv',rfl⟩,I',q⟩) λ_ _ z=>z) hs I ⟨_,h,λJ H1 ⟨W,w0,t⟩=>⟨W,w0,λi m ys H w=>let ⟨l,z⟩:=t i m ys H w;⟨l,z.imp (λ⟨a,b⟩=>⟨a,λp _ hp _=>b p hp⟩) id⟩⟩⟩ fin
def Ah (hc:X.calm=xb)(S:Ñ X scope js)(hi:PI X tg iter wi)
 (hg: ∀X',jj X scope X'->PG X' tg g)(ht: ∀X',jj X scope X'->ģ X' ifs tt)(he: ∀X',jj X scope X'->PE X' elt te)
 (hs: ∀x,T5 iter X.env x=pure x:=by intro _;rfl):PE X (.ListComp elt [⟨tg,iter,ifs,0⟩] scope pos) (tLC js wi g tt te):=by
 intro À s σ H Q I h;rw [u0];exact Du (use:=xa) hc S hi rfl hg ht (YA elt) (λ_ _ _=>rfl) (λX' hX D=>Vc (by obtain⟨_,_,_,_,rfl⟩:=hX;rfl) (he X' hX)) hs I h
  λD C H' s' m hn hk _ _ _ _ _ _ q=>⟨m,hn,λh' hs'=>⟨.ref D,H',hk h' hs',rfl,q⟩⟩
def Fd {pos' ø:Pos}{g':TG}{tm:TM}(hc:X.calm=xb)(S:Ñ X scope js)(hi:PI X tg iter wi)
 (he0:e= .ListComp elt (⟨tg,iter,ifs,0⟩::rest) scope pos)(hg: ∀X',jj X scope X'->PG X' tg g)(ht: ∀X',jj X scope X'->ģ X' ifs tt)
 (act:Env->G1->Sem Unit)(ų: ∀it acc env,mG e 0 it acc env=Wn iter tg ifs it env (act env acc) (.compLoop e 0 it acc env))(he: ∀X',jj X scope X'-> ∀D,Sg X' D (act X'.env (.ref D)) tm)
 (hg':PG X (.Name x pos') g')(hsw:U0 e (zq (.Name x pos')) ø.line X.env=pure xb)
 (hs: ∀x,T5 iter X.env x=pure x):PS X (.Assign [.Name x pos'] e ø) (ML (Sh js wi g tt tm) g'):=by
 intro À s σ H Dn I h;rw [nK _ _ _ _ hsw];refine xg (U1 (xg ?_));subst he0;rw [arm_evalThenUse_ListComp];show D6 _ X.A (do let _ <-lV (.ListComp elt (⟨tg,iter,ifs,0⟩::rest) scope pos) scope X.env _ (G0s []) xf (L7 iter X.env) (zq (dF (.Name x pos') X.env))) _ _ s;refine xg (R7 (Du (use:=zq (dF (.Name x pos') X.env)) (Qv:=λ_ s'=>SP X À Dn .next s') hc S hi rfl hg ht act ų he hs I h ?_) (λ_ s' hq=>G8 (G8 hq)) λ_ _ e=>e);intro D C H' s' m hn hk HC nL nf sz X0x X1k q;show D6 _ X.A (dF (.Name x pos') X.env (.ref D)) _ _ s';obtain⟨o,es,ep,ho,hd,hr⟩:=id hn;have I1:Inv X À σ H' s':=hk s'.heap (Heap.SameBut.refl ..);have I2:Inv X (À++ [(C,o)]) σ H' s':=I1.pins_of λp hp=>by
  rcases D9.mp hp with z|z
  ·exact I1.pin p (D3 _ z)
  ·rcases P2.mp z with rfl
   exact⟨ho,HC,nL,nf,λv z=>by rw [hd] at z;cases z⟩
 refine R7 (hg' _ s' σ H' (.ref D) (.ref D) _ I2 rfl q) (λ_ s3 ⟨þ,H3,I3,q3⟩=> ?_) λ_ _ z=>z
 have pC:=I3.pin (C,o) (D3 _ (D3 _ R1));refine⟨m,hn.at' λo' e'=> ?_,λh' hs'=> ?_⟩
 ·rw [ho] at e';cases e';exact pC.1
 ·exact⟨þ,H3,(I3.unpinned).turned (t':=s3.toks) (it:=C) (λb o hb e=>hs'.extBut b o hb e) pC.2.1 nL (.inr sz) X0x X1k,q3⟩
def QP {pos' ø:Pos}{g':TG}(hc:X.calm=xb)(S:Ñ X scope js)(hi:PI X tg iter wi)
 (hg: ∀X',jj X scope X'->PG X' tg g)(ht: ∀X',jj X scope X'->ģ X' ifs tt)(he: ∀X',jj X scope X'->PE X' elt te)
 (hg':PG X (.Name x pos') g')(hsw:U0 (.ListComp elt [⟨tg,iter,ifs,0⟩] scope pos) (zq (.Name x pos')) ø.line X.env=pure xb)
 (hs: ∀x,T5 iter X.env x=pure x:=by intro _;rfl):PS X (.Assign [.Name x pos'] (.ListComp elt [⟨tg,iter,ifs,0⟩] scope pos) ø) (ML (tLC js wi g tt te) g'):=
 Fd hc S hi rfl hg ht (YA elt) (λ_ _ _=>rfl) (λX' hX D=>Vc (by obtain⟨_,_,_,_,rfl⟩:=hX;rfl) (he X' hX)) hg' hsw hs
def Dv (e iter:S2)(env:Env)(acc:G1):Sem Unit:=do
 let x <-L7 iter env
 cZ iter.pos
 let x <-T5 iter env x
 let _ <-runOwn (.compStart e 1 (<-Z6 [x] (pP x)) acc env) env
def mIn (wi : TI) (g : TG) (tt : TT) (tm : TM) : TM := fun σ H ys Q => wi σ H fun J H1 =>
  ∃ W : P0 → P0 → G0 V → Hp → Prop, (∃ m, W 0 m ys H1) ∧ ∀ i m ys H, W i m ys H → ys.length ≤ xh ∧
    ((J.stop i H ∧ Q ys H) ∨
     (J.go i H ∧ ∀ x H', J.yld i H x H' → g x σ H' fun Ü H2 => Agree σ Ü ∧ tt Ü H2 fun b H3 =>
        if b = xb then tm Ü H3 ys fun Ċ H4 => ∃ m', m' < m ∧ W (i + 1) m' Ċ H4 else ∃ m', m' < m ∧ W (i + 1) m' ys H3))
def Jj {A:S4}{R:nZ->G2->Prop}{s:G2}{g0 g1:Y4}{it acc:G1}(ha:g1.is_async=0)
 (h0:U5 (R3 prog w) A (.compLoop (.ListComp elt [g0,g1] scope pos) 1 it acc env) R s)
 (h:D6 (R3 prog w) A (pP it) (λit' s'=>U5 (R3 prog w) A (.compLoop (.ListComp elt [g0,g1] scope pos) 1 it' acc env) R s')
  (notedBy (R3 prog w) A env λx s'=>R (.error x) s') s):
 U5 (R3 prog w) A (.compStart (.ListComp elt [g0,g1] scope pos) 1 it acc env) R s:=by
 obtain⟨tg,iter,ifs,as⟩:=g1;cases (show as=0 from ha);refine dB (pG ?_);obtain⟨hp,g,d,tk,os⟩:=s;unfold compStart
 wp_walk
 refine mH ?_;split
 ·exact G8 ⟨rfl,h0⟩
 ·exact xg (dH (xg (U1 (xg (R7 h (λ_ _ on=>G8 ⟨rfl,on⟩) λ_ _ x=>x)))))
def Fe {D:G7}{g0:Y4}(hc:X.calm=xb)(hx:X.xe=λ_ _=>False)
 (hi:PI X tg iter wi)(hg:PG X tg g)(ht:ģ X ifs tt)(he:PE X elt te)(hs: ∀x,T5 iter X.env x=pure x):
 Sg X D (Dv (.ListComp elt [g0,⟨tg,iter,ifs,0⟩] scope pos) iter X.env (.ref D)) (mIn wi g tt (Af te)):=by
 intro À s σ H ys us Q I hv hz DX cD pD h;have q:=hi _ s σ H _ I h;rw [hx] at q;unfold Dv;refine xg (R7 q (λv s1 h1=>xg (U1 (xg (wpAny_of_eq (hs v) (xg (O8 (R7 h1 (λitv s2 h2=> ?_) λ_ _ z=>z))))))) λ_ _ z=>z);obtain⟨it,fp,tn,J,H2,e,I2,T,Œ,f2,W,⟨m0,w0⟩,turn⟩:=h2;subst e;refine xg (wpAny_runOwn ?_);have neD: ∀b∈fp,b≠D:=λb hb=>by
  have z:=(f2 b hb).2.2.2.2.2 (D,gQ us) (D3 _ (O0 _ R1));exact O6 z
 have ļ: ∀ {μ:G0 G1} {H':Hp},(∀b∈fp,H' b=xa)-> ∀b∈fp,Px X ([(D,gQ μ)]++À) H' b:=λ{μ H'} hn b hb=>by
  have q:=f2 b hb;refine⟨hn b hb,q.2.1,q.2.2.1,q.2.2.2.1,q.2.2.2.2.1,λp hp=> ?_⟩;rcases D9.mp hp with z|z
  ·exact q.2.2.2.2.2 p (O0 _ z)
  ·rcases D9.mp z with z|z
   ·rcases P2.mp z with rfl
    exact O6 (neD b hb)
   ·exact q.2.2.2.2.2 p (D3 _ (D3 _ z))
 have loop:U5 (R3 X.prog X.w) X.A (.compLoop (.ListComp elt [g0,⟨tg,iter,ifs,0⟩] scope pos) 1 (.ref it) (.ref D) X.env)
  (λr s'=>match r with| .ok f=>D6 (R3 X.prog X.w) X.A (pure ()) (λ_ s'=> ∃Ċ μ H',Æ Ċ μ/\Inv X ([(D,gQ μ)]++À) σ H' s'/\Q Ċ H') (λ_ _=>False) s'| .error e=>cameBackBy (R3 X.prog X.w) X.A X.env (λ_ _=>False) e s') s2:=by
  refine Up (act:=YA elt X.env (.ref D)) (λn s'=> ∃i ys us H',Æ ys us/\Inv X ([(D,gQ us)]++À) σ H' s'/\tn i s'.heap/\(∀b∈fp,H' b=xa)/\W i n ys H') rfl rfl rfl rfl ?_ m0
   ⟨0,ys,us,H2,hv,I2,Œ,λb hb=>(f2 b hb).1,w0⟩
  rintro n s5 ⟨i,ys,us,H5,hv5,I5,st5,fr5,w5⟩;obtain⟨hz,tr⟩:=turn i n ys H5 w5;rcases tr with ⟨stop,qn⟩|⟨go,step⟩
  ·refine R7 (T.done X rfl rfl rfl hc i _ s5 _ H5 (λ_ _=>False) I5 (ļ fr5) st5 stop) (λr s6 ⟨hr,I6⟩=> ?_) λ_ _ z=>z
   subst hr;exact G8 ⟨ys,us,H5,hv5,I6,qn⟩
  ·refine R7 (T.item X rfl rfl rfl hc i _ s5 _ H5 (λ_ _=>False) I5 (ļ fr5) st5 go) (λr s6 ⟨u,hr,h6⟩=> ?_) λ_ _ z=>z
   subst hr;refine R7 h6 (λ_ s7 ⟨x,H7,I7,r7,y7,st7,fr7⟩=> ?_) λ_ _ z=>z
   have I7':=I7.pinned (ļ fr7) (T.obj _ _ st7);have q7:=hg _ s7 _ H7 x u _ I7' r7 (step x H7 y7);rw [hx] at q7;refine R7 q7 (λ_ s8 ⟨σ8,H8,I8,ag8,q8⟩=> ?_) λ_ _ z=>z
   have q9:=ht _ s8 σ8 H8 _ I8 q8;rw [hx] at q9;refine R7 q9 (λok s9 ⟨H9,I9,q9⟩=> ?_) λ_ _ z=>z
   have Ŵ: ∀ {Â:St} {H':Hp} {s':G2} {us:G0 G1},Inv X (([(D,gQ us)]++À)++vF fp s7.heap) Â H' s'->tn (i+1) s'.heap/\ ∀b∈fp,H' b=xa:=λ{Â H' s' us} I'=>
    ⟨T.keep _ _ _ st7 λb hb o e=>(I'.pin (b,o) (D3 _ (D3 _ (wB hb e)))).1,λb hb=>by
     obtain⟨o,e,_⟩:=T.obj _ _ st7 b hb;exact(I'.pin (b,o) (D3 _ (D3 _ (wB hb e)))).2.1⟩
   cases ok with
   |false=>
    have q9: ∃m',m'<n/\W (i+1) m' ys H9:=q9;obtain⟨m',hm,w9⟩:=q9;obtain⟨t9,f9⟩:=Ŵ I9;exact⟨m',hm,i+1,ys,us,H9,hv5,(I9.unpinned).weak ag8.1.symm ag8.2,t9,f9,w9⟩
   |true=>
    have q9:Af te σ8 H9 ys λĊ H4=> ∃m',m'<n/\W (i+1) m' Ċ H4:=q9
    have pD': ∀p∈X.pn++(À++vF fp s7.heap),p.1≠D:=λp hp=>by
     rcases D9.mp hp with z|z
     ·exact pD p (O0 _ z)
     ·rcases D9.mp z with z|z
      ·exact pD p (D3 _ z)
      ·exact neD _ (Wa z).1
    rw [D0] at I9;have q10:=Vc (D:=D) hx he (À++vF fp s7.heap) s9 σ8 H9 ys us _ I9 hv5 hz DX cD pD' q9;show D6 _ _ (YA _ _ _) _ _ s9;refine R7 q10 (λ_ s10 ⟨Ċ,μ,H10,X1j,I10,m',hm,w10⟩=> ?_) λ_ _ z=>z
    rw [<-D0] at I10;obtain⟨t10,f10⟩:=Ŵ I10;exact⟨m',hm,i+1,Ċ,μ,H10,X1j,(I10.unpinned).weak ag8.1.symm ag8.2,t10,f10,w10⟩
 exact Jj rfl loop (T.self X.A 0 _ _ _ Œ loop)
def Ff (elt iter tg ë tg':S2)(ifs Ħ:G0 S2)(scope:A2)(pos:Pos)(it acc:G1)(env:Env):
 mG (.ListComp elt [⟨tg,iter,ifs,0⟩,⟨tg',ë,Ħ,0⟩] scope pos) 0 it acc env=
  Wn iter tg ifs it env (Dv (.ListComp elt [⟨tg,iter,ifs,0⟩,⟨tg',ë,Ħ,0⟩] scope pos) ë env acc) (.compLoop (.ListComp elt [⟨tg,iter,ifs,0⟩,⟨tg',ë,Ħ,0⟩] scope pos) 0 it acc env):=by
 unfold Wn Dv;simp only [bind_assoc,pure_bind];rfl
def SU (js:G0 P0)(wi:TI)(g:TG)(tt:TT)(wi':TI)(g':TG)(Ι:TT)(te:TE):TE:=Sh js wi g tt (mIn wi' g' Ι (Af te))
def Ai {ë tg':S2}{Ħ:G0 S2}{wi':TI}{g':TG}{Ι:TT}(hc:X.calm=xb)(S:Ñ X scope js)(hi:PI X tg iter wi)
 (hg: ∀X',jj X scope X'->PG X' tg g)(ht: ∀X',jj X scope X'->ģ X' ifs tt)(hi': ∀X',jj X scope X'->PI X' tg' ë wi')
 (hg': ∀X',jj X scope X'->PG X' tg' g')(ht': ∀X',jj X scope X'->ģ X' Ħ Ι)(he: ∀X',jj X scope X'->PE X' elt te)
 (hs: ∀x,T5 iter X.env x=pure x:=by intro _;rfl)(hs': ∀env x,T5 ë env x=pure x:=by intro _ _;rfl):
 PE X (.ListComp elt [⟨tg,iter,ifs,0⟩,⟨tg',ë,Ħ,0⟩] scope pos) (SU js wi g tt wi' g' Ι te):=by
 intro À s σ H Q I h;rw [u0];exact Du (use:=xa) hc S hi rfl hg ht (λenv acc=>Dv (.ListComp elt [⟨tg,iter,ifs,0⟩,⟨tg',ë,Ħ,0⟩] scope pos) ë env acc) (λ_ _ _=>Ff ..)
  (λX' hX D=>Fe (by obtain⟨_,_,_,_,rfl⟩:=hX;exact hc) (by obtain⟨_,_,_,_,rfl⟩:=hX;rfl) (hi' X' hX) (hg' X' hX) (ht' X' hX) (he X' hX) (hs' _)) hs I h
  λD C H' s' m hn hk _ _ _ _ _ _ q=>⟨m,hn,λh' hs'=>⟨.ref D,H',hk h' hs',rfl,q⟩⟩
inductive D where
 |non|bl (b:N3)|int (i:P4)|str (x:Str)|tup (ds:G0 D)|lst (a:G7)|dic (x:Str) (i:P4)|dct (a:G7)|scr (ns:G0 P4)|exc (C:G7)|fn (a:G7)|exf (C:G7) (fs:G0 (Str×P4))
def Scr (K:G3)(H:Hp)(a:G7)(ns:G0 P4):Prop:=
 (∃o,H a=zq (.frz o (.lst (ns.map V.int))))\/
  ∃ (o:Obj) (its:T7 G1) (n:P0),K.lookup a=zq o/\o.cls= .type "list" /\o.dict=xa/\o.data= .seq its n/\its.size<=xh/\Æ (ns.map V.int) its.toList
variable {K:G3}
def Scr.sq {ns:G0 P4}(h:Scr K H a ns):õ K H a (ns.map V.int):=h.elim (λz=> .inl (.inr z)) .inr
def ħ (H:Hp)(dx:P1 G7)(fs:G0 (Str×P4)):Prop:=fs= []\/ ∃D oD,dx=zq D/\H D=zq (.frz oD (.xd (fs.map λp=>(p.1,V.int p.2))))
mutual
def É (K:G3)(H:Hp):D->V->Prop
 | .non,v=>v= .non
 | .bl b,v=>v= .bl b
 | .int i,v=>v= .int i
 | .str x,v=>v= .str x
 | .tup ds,v=> ∃a vs,v= .ref a/\H a=zq (.tup vs)/\Á K H ds vs
 | .lst a,v=>v= .ref a/\ ∃vs,H a=zq (.lst vs)
 | .dic x i,v=> ∃a,v= .ref a/\H a=zq (.dK [(cH x,V.int i)])
 | .dct a,v=>v= .ref a
 | .scr ns,v=> ∃a,v= .ref a/\Scr K H a ns
 | .exc C,v=> ∃x o vs,v= .ref x/\H x=zq (.frz o (.own 0))/\o.cls= .ref C/\o.data= .fields vs
 | .fn a,v=>v= .ref a/\J8 K (.ref a)=xb
 | .exf C fs,v=> ∃x o vs,v= .ref x/\H x=zq (.frz o (.own 0))/\o.cls= .ref C/\o.data= .fields vs/\ħ H o.dict fs
def Á (K:G3)(H:Hp):G0 D->G0 V->Prop
 | [],vs=>vs= []
 |d::ds,vs=> ∃v r,vs=v::r/\É K H d v/\Á K H ds r
end
structure Kept (H H':Hp):Prop where
 tup: ∀a xs,H a=zq (.tup xs)->H' a=zq (.tup xs)
 lst: ∀a xs,H a=zq (.lst xs)-> ∃ys,H' a=zq (.lst ys)
 dic: ∀a x i,H a=zq (.dK [(cH x,V.int i)])->H' a=zq (.dK [(cH x,V.int i)])
 frz: ∀a o u,H a=zq (.frz o u)->H' a=zq (.frz o u)
variable {H':Hp}
def ħ.mono (k:Kept H H'){dx:P1 G7}{fs:G0 (Str×P4)}(f:ħ H dx fs):ħ H' dx fs:=f.imp id λ⟨D,oD,e,h⟩=>⟨D,oD,e,k.frz _ _ _ h⟩
def Kept.refl (H:Hp):Kept H H:=⟨λ_ _ h=>h,λ_ xs h=>⟨xs,h⟩,λ_ _ _ h=>h,λ_ _ _ h=>h⟩
def Kept.trans {A B C:Hp}(x:Kept A B)(y:Kept B C):Kept A C:=
 ⟨λa xs h=>y.tup a xs (x.tup a xs h),λa xs h=>let ⟨_,e⟩:=x.lst a xs h;y.lst a _ e,λa k i h=>y.dic a k i (x.dic a k i h),λa o u h=>y.frz a o u (x.frz a o u h)⟩
variable {p:G7}
def Kept.new (h:H p=xa):Kept H (upd H p o):=
 ⟨λa xs e=>by rw [jf (jm e h)];exact e,λa xs e=>⟨xs,by rw [jf (jm e h)];exact e⟩,λa k i e=>by rw [jf (jm e h)];exact e,λa o u e=>by rw [jf (jm e h)];exact e⟩
def Kept.put {xs ys:G0 V}(h:H p=zq (.lst xs)):Kept H (upd H p (.lst ys)):=
 ⟨λa zs e=>by rw [jf (Gy e h (by intro z;cases z))];exact e,λa zs e=>by
  by_cases q:a=p
  ·subst q;exact⟨ys,jh⟩
  ·exact⟨zs,by rw [jf q];exact e⟩,
  λa k i e=>by rw [jf (Gy e h (by intro z;cases z))];exact e,λa o u e=>by rw [jf (Gy e h (by intro z;cases z))];exact e⟩
def Υ (o:HO):Prop:=(∃Ù:G0 (P4×V),o= .dK (Ù.map λp=>((lB p.1:Č),p.2)))\/ ∃φ,o= .ext φ
def Υ.no (d:Υ o):(∀xs,o≠ .tup xs)/\(∀xs,o≠ .lst xs)/\(∀x i,o≠ .dK [(cH x,V.int i)])/\(∀p u,o≠ .frz p u)/\ ∀ps,o≠ .tbl ps:=by
 rcases d with ⟨Ù,rfl⟩|⟨φ,rfl⟩
 ·refine⟨λ_ z=>(nomatch z),λ_ z=>(nomatch z),λx i z=> ?_,λ_ _ z=>(nomatch z),λ_ z=>(nomatch z)⟩;injection z with z
  cases Ù with
  |nil=>cases z
  |cons p r=>injection z with z _;injection z with z _;cases z
 ·exact⟨λ_ z=>(nomatch z),λ_ z=>(nomatch z),λ_ _ z=>(nomatch z),λ_ _ z=>(nomatch z),λ_ z=>(nomatch z)⟩
def Kept.putD {o':HO}(h:H p=zq o)(d:Υ o):Kept H (upd H p o'):=by
 obtain⟨d1,d2,d3,d4,_⟩:=d.no;have ne: ∀ {a:G7} {u:HO},H a=zq u->o≠u->a≠p:=λe n z=>by subst z;rw [h] at e;injection e with e;exact n e
 exact⟨λa xs e=>by rw [jf (ne e (d1 xs))];exact e,λa xs e=>⟨xs,by rw [jf (ne e (d2 xs))];exact e⟩,λa x i e=>by rw [jf (ne e (d3 x i))];exact e,λa q u e=>by rw [jf (ne e (d4 q u))];exact e⟩
mutual
theorem É.mono (k:Kept H H'): ∀ {d:D} {v:V},É K H d v->É K H' d v
 | .non,_,h=>h
 | .bl _,_,h=>h
 | .int _,_,h=>h
 | .str _,_,h=>h
 | .tup ds,v,h=>by
  obtain⟨a,vs,e,h1,h2⟩:=(show ∃a vs,v= .ref a/\H a=zq (.tup vs)/\Á K H ds vs from h);exact⟨a,vs,e,k.tup _ _ h1,Á.mono k h2⟩
 | .lst a,v,h=>by
  obtain⟨e,vs,h1⟩:=(show v= .ref a/\ ∃vs,H a=zq (.lst vs) from h);exact⟨e,k.lst _ _ h1⟩
 | .dic x i,v,h=>by
  obtain⟨a,e,h1⟩:=(show ∃a,v= .ref a/\H a=zq (.dK [(cH x,V.int i)]) from h);exact⟨a,e,k.dic _ _ _ h1⟩
 | .dct a,v,h=>h
 | .scr ns,v,h=>by
  obtain⟨a,e,h1⟩:=(show ∃a,v= .ref a/\Scr K H a ns from h);exact⟨a,e,h1.elim (λ⟨o,z⟩=> .inl ⟨o,k.frz _ _ _ z⟩) .inr⟩
 | .exc C,v,h=>by
  obtain⟨x,o,vs,e,h1,r⟩:=(show ∃x o vs,v= .ref x/\H x=zq (.frz o (.own 0))/\o.cls= .ref C/\o.data= .fields vs from h);exact⟨x,o,vs,e,k.frz _ _ _ h1,r⟩
 | .fn a,v,h=>h
 | .exf C fs,v,h=>by
  obtain⟨x,o,vs,e,h1,c,d,f⟩:=(show ∃x o vs,v= .ref x/\H x=zq (.frz o (.own 0))/\o.cls= .ref C/\o.data= .fields vs/\ħ H o.dict fs from h);exact⟨x,o,vs,e,k.frz _ _ _ h1,c,d,f.mono k⟩
theorem Á.mono (k:Kept H H'): ∀ {ds:G0 D} {vs:G0 V},Á K H ds vs->Á K H' ds vs
 | [],_,h=>h
 |d::ds,vs,h=>by
  obtain⟨v,r,e,h1,h2⟩:=(show ∃v r,vs=v::r/\É K H d v/\Á K H ds r from h);exact⟨v,r,e,É.mono k h1,Á.mono k h2⟩
end
section
variable {K:G3}{H:Hp}
def Á.nil:Á K H [] []:=rfl
def Á.cons {d:D}{v:V}{ds:G0 D}{vs:G0 V}(h:É K H d v)(t:Á K H ds vs):Á K H (d::ds) (v::vs):=⟨v,vs,rfl,h,t⟩
def Á.length: ∀ {ds:G0 D} {vs:G0 V},Á K H ds vs->ds.length=vs.length
 | [],_,h=>by cases (show _= [] from h);rfl
 |d::ds,vs,h=>by
  obtain⟨v,r,e,_,h2⟩:=(show ∃v r,vs=v::r/\É K H d v/\Á K H ds r from h);subst e;simp [Á.length h2]
def Á.append: ∀ {ds es:G0 D} {vs us:G0 V},Á K H ds vs->Á K H es us->Á K H (ds++es) (vs++us)
 | [],_,_,_,h,g=>by cases (show _= [] from h);exact g
 |d::ds,es,vs,us,h,g=>by
  obtain⟨v,r,e,h1,h2⟩:=(show ∃v r,vs=v::r/\É K H d v/\Á K H ds r from h);subst e;exact .cons h1 (Á.append h2 g)
def Á.get: ∀ {ds:G0 D} {vs:G0 V} {i:P0} {d:D},Á K H ds vs->ds[i]? =zq d-> ∃v,vs[i]? =zq v/\É K H d v
 |d'::ds,vs,i,d,h,e=>by
  obtain⟨v,r,q,h1,h2⟩:=(show ∃v r,vs=v::r/\É K H d' v/\Á K H ds r from h);subst q;cases i with
  |zero=>simp at e;subst e;exact⟨v,rfl,h1⟩
  |succ i=>
   obtain⟨u,q1,q2⟩:=Á.get h2 (i:=i) (d:=d) (by simpa using e);exact⟨u,by simpa using q1,q2⟩
def Á.take (n:P0): ∀ {ds:G0 D} {vs:G0 V},Á K H ds vs->Á K H (ds.take n) (vs.take n):=by
 induction n with
 |zero=>intro ds vs _;exact(rfl:Á K H [] [])
 |succ n ih=>
  intro ds vs h;cases ds with
  |nil=>cases (show vs= [] from h);exact .nil
  |cons d ds=>
   obtain⟨v,r,e,h1,h2⟩:=(show ∃v r,vs=v::r/\É K H d v/\Á K H ds r from h);subst e;exact .cons h1 (ih h2)
def Á.drop (n:P0): ∀ {ds:G0 D} {vs:G0 V},Á K H ds vs->Á K H (ds.drop n) (vs.drop n):=by
 induction n with
 |zero=>intro ds vs h;exact h
 |succ n ih=>
  intro ds vs h;cases ds with
  |nil=>cases (show vs= [] from h);exact .nil
  |cons d ds=>
   obtain⟨v,r,e,h1,h2⟩:=(show ∃v r,vs=v::r/\É K H d v/\Á K H ds r from h);subst e;exact ih h2
def Á.set {d:D}{v:V}(q:É K H d v): ∀ {ds:G0 D} {vs:G0 V} (i:P0),Á K H ds vs->Á K H (ds.set i d) (vs.set i v)
 | [],_,_,h=>by cases (show _= [] from h);exact .nil
 |e::ds,vs,i,h=>by
  obtain⟨u,r,z,h1,h2⟩:=(show ∃u r,vs=u::r/\É K H e u/\Á K H ds r from h);subst z;cases i with
  |zero=>exact .cons q h2
  |succ i=>exact .cons h1 (Á.set q i h2)
theorem JL: ∀ns:G0 P4,Á K H (ns.map D.int) (ns.map V.int)
 | []=> .nil
 |n::ns=> .cons rfl (JL ns)
end
inductive DC where
 |ik (kv:G0 (P4×D))
 |tk (ep:P0) (kv:G0 (G0 (G0 P4)×D))
structure HD where
 ls:G7->P1 (G0 D)
 dc:G7->P1 DC
instance:CoeFun HD λ_=>G7->P1 (G0 D):=⟨HD.ls⟩
def wd (h:HD)(a:G7)(ds:G0 D):HD:=⟨λb=>if b=a then zq ds else h b,h.dc⟩
def Uq (h:HD)(a:G7):HD:=⟨λb=>if b=a then xa else h b,h.dc⟩
variable {h:HD}{ds:G0 D}
def jc:wd h a ds a=zq ds:=S5 rfl
def wT {b:G7}(e:b≠a):wd h a ds b=h b:=R9 e
def wE (e:h a=xa):Uq (wd h a ds) a=h:=by
 obtain⟨l,d⟩:=h;refine xk (HD.mk · d) ?_
 funext b
 show (if b=a then xa else if b=a then zq ds else l b)=l b
 by_cases q:b=a
 ·subst q;rw [S5 rfl];exact e.symm
 ·rw [R9 q,R9 q]
def LN:G0 Str:= ["law","_law_right","_law_words","_law_other_words","_law_many_right","_law_all","_law_told_row","_law_all_right","_law_desk_right","_law_signs_right","_law_lists_right","_law_text_right"]
def X0C (K:G3)(P:G7):Prop:= ∃x∈LN,∃c,gR K x=zq (c,P)
def Đ (H:Hp)(ps:T7 G1):Prop:=gJ ps.toList/\ ∀pos cv,mI pos ps.toList=zq cv-> ∃ (c:G7) (o:Obj) (vs:T7 G1) (q:Str) (t:Tok),cv= .ref c/\H c=zq (.frz o (.own 0))/\o.data= .fields vs/\vs[1]? =zq (.str q t)
def ę (K:G3)(H:Hp):Prop:= ∀P,X0C K P-> ∃ps,H P=zq (.tbl ps)/\Đ H ps
def Đ.mono {ps:T7 G1}(k: ∀a o u,H a=zq (.frz o u)->H' a=zq (.frz o u))(c:Đ H ps):Đ H' ps:=
 ⟨c.1,λpos cv e=>let ⟨c',o,vs,q,t,e1,e2,r⟩:=c.2 pos cv e;⟨c',o,vs,q,t,e1,k _ _ _ e2,r⟩⟩
def ę.mono (x:ę K H)(k: ∀a o u,H a=zq (.frz o u)->H' a=zq (.frz o u))(kt: ∀a ps,H a=zq (.tbl ps)->H' a=zq (.tbl ps)):ę K H':=λP hP=>
 let ⟨ps,e,c⟩:=x P hP;⟨ps,kt _ _ e,c.mono k⟩
def ę.new (x:ę K H)(e:H p=xa):ę K (upd H p o):=
 x.mono (λa o' u h=>by rw [jf (jm h e)];exact h) λa ps h=>by rw [jf (jm h e)];exact h
def ę.put {xs:G0 V}(x:ę K H)(e:H p=zq (.lst xs)):ę K (upd H p o):=
 x.mono (λa o' u h=>by rw [jf (Gy h e (by intro z;cases z))];exact h) λa ps h=>by rw [jf (Gy h e (by intro z;cases z))];exact h
def Wo (T:G0 (G0 P4)):P4:=mX (V7 (T.map λr=>mX (V7 (r.map hashInt))))
def vG (a:G7)(ep:P0)(xs:G0 (G0 (G0 P4)×G7×V)):HO:= .ext λh=>(a==J4)=xf/\xs.length<=xh/\ ∃ys:G0 (G0 (G0 P4)×G7×G1),Paired (λp q=>p.1=q.1/\p.2.1=q.2.1/\RelV p.2.2 q.2.2) xs ys/\
 ∃o es,h.get? a=zq o/\o.ExactDict/\o.data= .dict es ep/\es.toList=ys.map λx=>⟨Wo x.1,.ref x.2.1,x.2.2⟩
def ţ (K:G3)(H:Hp)(a:G7):DC->Prop
 | .ik kv=> ∃Ù:G0 (P4×V),H a=zq (.dK (Ù.map λp=>((lB p.1:Č),p.2)))/\kv.map (·.1)=Ù.map (·.1)/\Á K H (kv.map (·.2)) (Ù.map (·.2))
 | .tk ep kv=> ∃xs:G0 (G0 (G0 P4)×G7×V),H a=zq (vG a ep xs)/\(kv.map (·.1)).Nodup/\kv.map (·.1)=xs.map (·.1)/\(∀x∈xs,É K H (.tup (x.1.map λr=> .tup (r.map D.int))) (.ref x.2.1))/\Á K H (kv.map (·.2)) (xs.map (·.2.2))
def ţ.obj: ∀ {c:DC},ţ K H a c-> ∃o,H a=zq o/\Υ o
 | .ik _,⟨Ù,e,_⟩=>⟨_,e,.inl ⟨Ù,rfl⟩⟩
 | .tk _ _,⟨xs,e,_⟩=>⟨_,e,.inr ⟨_,rfl⟩⟩
def ţ.mono (k:Kept H H')(z: ∀o,H a=zq o->H' a=zq o): ∀ {c:DC},ţ K H a c->ţ K H' a c
 | .ik _,⟨Ù,e,q,r⟩=>⟨Ù,z _ e,q,r.mono k⟩
 | .tk _ _,⟨xs,e,n,q,t,r⟩=>⟨xs,z _ e,n,q,λx hx=>(t x hx).mono k,r.mono k⟩
structure Å (K:G3)(h:HD)(H:Hp):Prop where
 ls: ∀a ds,h a=zq ds-> ∃vs,H a=zq (.lst vs)/\Á K H ds vs
 tb:ę K H
 dc: ∀a c,h.dc a=zq c->ţ K H a c
instance {K:G3}{h:HD}{H:Hp}:CoeFun (Å K h H) λ_=> ∀a ds,h a=zq ds-> ∃vs,H a=zq (.lst vs)/\Á K H ds vs:=⟨Å.ls⟩
structure Sub (h h':HD):Prop where
 ls: ∀a ds,h a=zq ds->h' a=zq ds
 dc: ∀a c,h.dc a=zq c->h'.dc a=zq c
instance {h h':HD}:CoeFun (Sub h h') λ_=> ∀a ds,h a=zq ds->h' a=zq ds:=⟨Sub.ls⟩
def Sub.refl (h:HD):Sub h h:=⟨λ_ _ e=>e,λ_ _ e=>e⟩
def Sub.trans {a b c:HD}(x:Sub a b)(y:Sub b c):Sub a c:=⟨λd ds e=>y d ds (x d ds e),λd ds e=>y.dc d ds (x.dc d ds e)⟩
def Sub.drop (h:HD)(a:G7):Sub (Uq h a) h:=⟨λb ds e=>by
 have e:(if b=a then xa else h b)=zq ds:=e;split at e
 ·cases e
 ·exact e,λ_ _ e=>e⟩
def Sub.new (e:h p=xa):Sub h (wd h p ds):=⟨λa es q=>(by
 rw [wT];exact q;intro z;subst z;rw [e] at q;cases q),λ_ _ e=>e⟩
section
variable {K:G3}{h h':HD}{H:Hp}
def Å.sub (r:Å K h H)(s:Sub h' h):Å K h' H:=⟨λa ds e=>r a ds (s a ds e),r.tb,λa c e=>r.dc a c (s.dc a c e)⟩
def Å.free (r:Å K h H){p:G7}(e:H p=xa):h p=xa:=by
 cases q:h p with
 |none=>rfl
 |some ds=>obtain⟨vs,z,_⟩:=r p ds q;rw [e] at z;cases z
def Å.freeC (r:Å K h H){p:G7}(e:H p=xa):h.dc p=xa:=by
 cases q:h.dc p with
 |none=>rfl
 |some c=>obtain⟨o,z,_⟩:=(r.dc p c q).obj;rw [e] at z;cases z
def Å.dcN (r:Å K h H){p:G7}{o:HO}(e:H p=xa): ∀a c,h.dc a=zq c->ţ K (upd H p o) a c:=λa c q=>
 (r.dc a c q).mono (.new e) λu z=>by rw [jf (jm z e)];exact z
def Å.new (r:Å K h H){p:G7}{o:HO}(e:H p=xa):Å K h (upd H p o):=⟨λa ds q=>by
 obtain⟨vs,z,w⟩:=r a ds q;exact⟨vs,by rw [jf (jm z e)];exact z,w.mono (.new e)⟩,r.tb.new e,r.dcN e⟩
def Å.newL (r:Å K h H){p:G7}{ds:G0 D}{vs:G0 V}(e:H p=xa)(q:Á K H ds vs):Å K (wd h p ds) (upd H p (.lst vs)):=⟨λa es z=>by
 by_cases w:a=p
 ·subst w;rw [jc] at z;cases z;exact⟨vs,jh,q.mono (.new e)⟩
 ·rw [wT w] at z;obtain⟨us,z1,z2⟩:=r a es z;exact⟨us,by rw [jf w];exact z1,z2.mono (.new e)⟩,r.tb.new e,r.dcN e⟩
def Å.put (r:Å K h H){p:G7}{ds:G0 D}{vs us:G0 V}(e:H p=zq (.lst us))(q:Á K H ds vs):Å K (wd h p ds) (upd H p (.lst vs)):=⟨λa es z=>by
 by_cases w:a=p
 ·subst w;rw [jc] at z;cases z;exact⟨vs,jh,q.mono (.put e)⟩
 ·rw [wT w] at z;obtain⟨us,z1,z2⟩:=r a es z;exact⟨us,by rw [jf w];exact z1,z2.mono (.put e)⟩,r.tb.put e,λa c z=>(r.dc a c z).mono (.put e) λo w=>by
   obtain⟨u,w',d⟩:=(r.dc a c z).obj;rw [jf (Gy w' e (d.no.2.1 _))];exact w⟩
end
def MD (h:HD)(p:G7)(c:DC):HD:=⟨h.ls,λb=>if b=p then zq c else h.dc b⟩
def wa {c:DC}:(MD h p c).dc p=zq c:=S5 rfl
def vO {c:DC}(e:a≠p):(MD h p c).dc a=h.dc a:=R9 e
def Sub.newC {c:DC}(e:h.dc p=xa):Sub h (MD h p c):=⟨λ_ _ e=>e,λa d q=>by
 rw [vO];exact q;intro z;subst z;rw [e] at q;cases q⟩
section
variable {K:G3}{h:HD}{H:Hp}
def Å.newC (r:Å K h H){p:G7}{o:HO}{c:DC}(e:H p=xa)(d:ţ K (upd H p o) p c):Å K (MD h p c) (upd H p o):=⟨(r.new e).ls,r.tb.new e,λa k z=>by
 by_cases w:a=p
 ·subst w;rw [wa] at z;cases z;exact d
 ·rw [vO w] at z;exact r.dcN e a k z⟩
def Å.putC (r:Å K h H){p:G7}{o o':HO}{c:DC}(e:H p=zq o)(ob:Υ o)(d:ţ K (upd H p o') p c):Å K (MD h p c) (upd H p o'):=by
 obtain⟨d1,d2,d3,d4,d5⟩:=ob.no;have ne: ∀ {a:G7} {u:HO},H a=zq u->o≠u->a≠p:=λq n z=>by subst z;rw [e] at q;injection q with q;exact n q
 refine⟨λa ds z=> ?_,r.tb.mono (λa q u z=>by rw [jf (ne z (d4 q u))];exact z) (λa ps z=>by rw [jf (ne z (d5 ps))];exact z),λa k z=> ?_⟩
 ·obtain⟨vs,z1,z2⟩:=r a ds z;exact⟨vs,by rw [jf (ne z1 (d2 vs))];exact z1,z2.mono (.putD e ob)⟩
 ·by_cases w:a=p
  ·subst w;rw [wa] at z;cases z;exact d
  ·rw [vO w] at z;exact(r.dc a k z).mono (.putD e ob) λu q=>by rw [jf w];exact q
end
abbrev SD:=G0 (P1 D)
def Ò (K:G3)(H:Hp)(Ä:SD)(σ:St):Prop:=Ä.length=σ.length/\ ∀ (i:P0) (d:D),Ä[i]? =zq (zq d)-> ∃v,σ[i]? =zq (zq v)/\É K H d v
def Ò.mono {Ä:SD}(r:Ò K H Ä σ)(k:Kept H H'):Ò K H' Ä σ:=⟨r.1,λi d e=>let ⟨v,a,b⟩:=r.2 i d e;⟨v,a,b.mono k⟩⟩
def Ò.set {Ä:SD}{d:D}{v:V}(r:Ò K H Ä σ)(q:É K H d v)(i:P0):Ò K H (Ä.set i (zq d)) (σ.set i (zq v)):=⟨by simp [r.1],λj e h=>by
 by_cases z:i=j
 ·subst z;rw [eO] at h ⊢
  by_cases hl:i<Ä.length
  ·rw [S5 rfl,S5 hl] at h;rw [S5 rfl,S5 (by rw [<-r.1];exact hl)];cases h;exact⟨v,rfl,q⟩
  ·rw [S5 rfl,R9 hl] at h;cases h
 ·rw [J0 z] at h ⊢;exact r.2 j e h⟩
def Ò.clear1 {Ä:SD}(r:Ò K H Ä σ)(i:P0):Ò K H (Ä.set i xa) (σ.set i xa):=⟨by simp [r.1],λj e h=>by
 by_cases z:i=j
 ·subst z;rw [eO] at h;split at h
  ·split at h<;>cases h
  ·contradiction
 ·rw [J0 z] at h ⊢;exact r.2 j e h⟩
def zg:G0 P0->SD->SD
 | [],σ=>σ
 |j::js,σ=>zg js (σ.set j xa)
def Ò.clear: ∀ (js:G0 P0) {Ä:SD} {σ:St},Ò K H Ä σ->Ò K H (zg js Ä) (zQ js σ)
 | [],_,_,r=>r
 |j::js,_,_,r=>Ò.clear js (r.clear1 j)
abbrev KD:=D->HD->Prop
abbrev TED:=SD->HD->KD->Prop
abbrev TTD:=SD->HD->(N3->HD->Prop)->Prop
abbrev TAD:=SD->HD->(G0 D->HD->Prop)->Prop
abbrev RD2:=D->D->HD->KD->Prop
abbrev RDn:=G0 D->HD->KD->Prop
structure EndsD where
 nx:SD->HD->Prop
 rt:KD
 bk:SD->HD->Prop:=λ_ _=>False
 ct:SD->HD->Prop:=λ_ _=>False
abbrev TSD:=EndsD->SD->HD->Prop
abbrev TGD:=D->SD->HD->(SD->HD->Prop)->Prop
def BP (K:G3)(H:Hp)(Qd:KD)(Q:VK):Prop:= ∀d v h' H',Kept H H'->Å K h' H'->É K H' d v->Qd d h'->Q v H'
inductive LE (K:G3)(t:TED)(σ:St)(H:Hp)(Q:VK):Prop
 |mk (Ä h Qd) (_:Ò K H Ä σ) (_:Å K h H) (_:t Ä h Qd) (_:BP K H Qd Q)
inductive LT (K:G3)(t:TTD)(σ:St)(H:Hp)(Q:N3->Hp->Prop):Prop
 |mk (Ä h Qd) (_:Ò K H Ä σ) (_:Å K h H) (_:t Ä h Qd) (_: ∀b h' c,Kept H c->Å K h' c->Qd b h'->Q b c)
inductive LA (K:G3)(t:TAD)(σ:St)(H:Hp)(Q:G0 V->Hp->Prop):Prop
 |mk (Ä h Qd) (_:Ò K H Ä σ) (_:Å K h H) (_:t Ä h Qd) (_: ∀a v b c,Kept H c->Å K b c->Á K c a v->Qd a b->Q v c)
inductive LR (K:G3)(f:RD2)(x y:V)(H:Hp)(Q:VK):Prop
 |mk (dx dy h Qd) (_:É K H dx x) (_:É K H dy y) (_:Å K h H) (_:f dx dy h Qd) (_:BP K H Qd Q)
inductive LC (K:G3)(f:RDn)(xs:G0 V)(H:Hp)(Q:VK):Prop
 |mk (ds h Qd) (_:Á K H ds xs) (_:Å K h H) (_:f ds h Qd) (_:BP K H Qd Q)
inductive LG (K:G3)(g:TGD)(v:V)(σ:St)(H:Hp)(Q:St->Hp->Prop):Prop
 |mk (d Ä h Qd) (_:É K H d v) (_:Ò K H Ä σ) (_:Å K h H) (_:g d Ä h Qd) (_: ∀a b c d,Kept H d->Ò K d a c->Å K b d->Qd a b->Q c d)
inductive LS (K:G3)(t:TSD)(ŕ:Ű)(σ:St)(H:Hp):Prop
 |mk (Ä h Dd) (_:Ò K H Ä σ) (_:Å K h H) (_:t Dd Ä h) (_: ∀a b c d,Kept H d->Ò K d a c->Å K b d->Dd.nx a b->ŕ.nx c d) (_:BP K H Dd.rt ŕ.rt)
  (_: ∀a b c d,Kept H d->Ò K d a c->Å K b d->Dd.bk a b->ŕ.bk c d) (_: ∀a b c d,Kept H d->Ò K d a c->Å K b d->Dd.ct a b->ŕ.ct c d)
def PE.imp {t t':TE}(h:PE X e t)(i: ∀σ H Q,t' σ H Q->t σ H Q):PE X e t':=λÀ s σ H Q I q=>h À s σ H Q I (i σ H Q q)
def PT.imp {t t':TT}(h:PT X e t)(i: ∀σ H Q,t' σ H Q->t σ H Q):PT X e t':=λÀ s σ H Q I q=>h À s σ H Q I (i σ H Q q)
def PW.imp {t t':TT}(h:PW X e t)(i: ∀σ H Q,t' σ H Q->t σ H Q):PW X e t':=λwh À s σ H Q I q=>h wh À s σ H Q I (i σ H Q q)
def PA.imp {e:G0 S2}{t t':TA}(h:PA X e t)(i: ∀σ H Q,t' σ H Q->t σ H Q):PA X e t':=λpos À s σ H Q I q=>h pos À s σ H Q I (i σ H Q q)
def PS.imp {e:L8}{t t':TS}(h:PS X e t)(i: ∀D σ H,t' D σ H->t D σ H):PS X e t':=λÀ s σ H D I q=>h À s σ H D I (i D σ H q)
def ő.imp {e:G0 L8}{t t':TS}(h:ő X e t)(i: ∀D σ H,t' D σ H->t D σ H):ő X e t':=λÀ s σ H D I q=>h À s σ H D I (i D σ H q)
def PG.imp {t t':TG}(h:PG X e t)(i: ∀v σ H Q,t' v σ H Q->t v σ H Q):PG X e t':=λÀ s σ H v u Q I r q=>h À s σ H v u Q I r (i v σ H Q q)
def Ĉ.imp {f:G1->G1->Sem G1}{r r':R2}(h:Ĉ X f r)(i: ∀x y H Q,r' x y H Q->r x y H Q):Ĉ X f r':=λÀ s σ H x y v u Q I a b q=>h À s σ H x y v u Q I a b (i x y H Q q)
def ê.imp {f:G1}{r r':G0 V->Hp->VK->Prop}(h:ê X f r)(i: ∀xs H Q,r' xs H Q->r xs H Q):ê X f r':=λÀ s σ H xs us Q I a q=>h À s σ H xs us Q I a (i xs H Q q)
def JM (i:P0):TED:=λσ h Q=> ∃d,σ[i]? =zq (zq d)/\Q d h
def dC (d:D):TED:=λ_ h Q=>Q d h
def Ġ (f:RD2)(ta tb:TED):TED:=λσ h Q=>ta σ h λx h1=>tb σ h1 λy h2=>f x y h2 Q
def Jk:TAD:=λ_ h Q=>Q [] h
def jP (ta:TED)(tr:TAD):TAD:=λσ h Q=>ta σ h λx h1=>tr σ h1 λxs h2=>Q (x::xs) h2
def Oh (t:TAD):TED:=λσ h Q=>t σ h λds h1=>ds.length<=xh/\Q (.tup ds) h1
def ME (t:TAD):TED:=λσ h Q=>t σ h λds h1=>ds.length<=xh/\ ∀p,h1 p=xa->Q (.lst p) (wd h1 p ds)
def Ķ (r:RDn)(t:TAD):TED:=λσ h Q=>t σ h λds h1=>r ds h1 Q
def Jl (t:TED):TTD:=λσ h Q=>t σ h λx h1=> ∃k,x= .bl k/\Q k h1
def Wp (r r':RD2)(ta tb tc:TED):TED:=λσ h Q=>ta σ h λx h1=>tb σ h1 λy h2=>r x y h2 λz h3=> ∃k,z= .bl k/\
 (if k=xb then tc σ h3 λw h4=>r' y w h4 Q else Q (.bl xf) h3)
def Fg (t u:TTD):TTD:=λσ h Q=>t σ h λc h1=>if c=xb then u σ h1 Q else Q xf h1
def Aj (t u:TTD):TTD:=λσ h Q=>t σ h λc h1=>if c=xb then Q xb h1 else u σ h1 Q
def Dw (t:TTD):TTD:=λσ h Q=>t σ h λc h1=>Q (!c) h1
def Dx (ta tb:TED):TED:=λσ h Q=>ta σ h λx h1=> ∃c,x= .bl c/\if c=xb then tb σ h1 Q else Q (.bl xf) h1
def SV (ta tb:TED):TED:=λσ h Q=>ta σ h λx h1=> ∃c,x= .bl c/\if c=xb then Q (.bl xb) h1 else tb σ h1 Q
def Dy (ta:TED):TED:=λσ h Q=>ta σ h λx h1=> ∃c,x= .bl c/\Q (.bl (!c)) h1
def dIf (t:TTD)(ta tb:TED):TED:=λσ h Q=>t σ h λc h1=>if c=xb then ta σ h1 Q else tb σ h1 Q
section
variable {K:G3}
def Ak (i:P0): ∀σ H Q,LE K (JM i) σ H Q->Ht i σ H Q:=λσ H Q ⟨Ä,h,Qd,rs,rh,⟨d,e,q⟩,p⟩=>let ⟨v,e1,e2⟩:=rs.2 i d e;⟨v,e1,p d v h H (.refl H) rh e2 q⟩
def Al {d:D}{v:V}(r: ∀H,É K H d v): ∀σ H Q,LE K (dC d) σ H Q->tC v σ H Q:=λσ H Q ⟨Ä,h,Qd,rs,rh,q,p⟩=>p d v h H (.refl H) rh (r H) q
variable {H:Hp}
def jG {H1:Hp}{Qd:KD}{Q:VK}(p:BP K H Qd Q)(k:Kept H H1):BP K H1 Qd Q:=λd v h' H' k'=>p d v h' H' (k.trans k')
variable {ta:TED}
def LE.bind {σ:St}{Ä:SD}{h:HD}{kd:KD}{k:VK}(rs:Ò K H Ä σ)(rh:Å K h H)(t:ta Ä h kd)(f: ∀d v h' H',Kept H H'->Ò K H' Ä σ->Å K h' H'->É K H' d v->kd d h'->k v H'):LE K ta σ H k:=
 ⟨Ä,h,kd,rs,rh,t,λd v h' H' kp r1 r2 q=>f d v h' H' kp (rs.mono kp) r1 r2 q⟩
def LT.bind {ta:TTD}{σ:St}{Ä:SD}{h:HD}{kd:N3->HD->Prop}{k:N3->Hp->Prop}(rs:Ò K H Ä σ)(rh:Å K h H)(t:ta Ä h kd)(f: ∀b h' H',Kept H H'->Ò K H' Ä σ->Å K h' H'->kd b h'->k b H'):LT K ta σ H k:=
 ⟨Ä,h,kd,rs,rh,t,λb h' H' kp r1 q=>f b h' H' kp (rs.mono kp) r1 q⟩
def LA.bind {ta:TAD}{σ:St}{Ä:SD}{h:HD}{kd:G0 D->HD->Prop}{k:G0 V->Hp->Prop}(rs:Ò K H Ä σ)(rh:Å K h H)(t:ta Ä h kd)(f: ∀ds vs h' H',Kept H H'->Ò K H' Ä σ->Å K h' H'->Á K H' ds vs->kd ds h'->k vs H'):LA K ta σ H k:=
 ⟨Ä,h,kd,rs,rh,t,λd v h' H' kp r1 r2 q=>f d v h' H' kp (rs.mono kp) r1 r2 q⟩
variable {tb:TED}
def Fh {f:RD2}: ∀σ H Q,LE K (Ġ f ta tb) σ H Q->tOp (LR K f) (LE K ta) (LE K tb) σ H Q:=λσ H Q ⟨Ä,h,Qd,rs,rh,t,p⟩=>
 LE.bind rs rh t λd v h1 H1 k1 Ý Î r1 t1=>LE.bind Ý Î t1 λd2 v2 h2 H2 k2 İ ð r2 t2=>⟨d,d2,h2,Qd,r1.mono k2,r2,ð,t2,jG p (k1.trans k2)⟩
def Am: ∀σ H Q,LA K Jk σ H Q->SI σ H Q:=λσ H Q ⟨Ä,h,Qd,rs,rh,t,p⟩=>p [] [] h H (.refl H) rh rfl t
def Fi {tr:TAD}: ∀σ H Q,LA K (jP ta tr) σ H Q->MQ (LE K ta) (LA K tr) σ H Q:=λσ H Q ⟨Ä,h,Qd,rs,rh,t,p⟩=>
 LE.bind rs rh t λd v h1 H1 k1 Ý Î r1 t1=>LA.bind Ý Î t1 λds vs h2 H2 k2 İ ð r2 t2=>p _ _ h2 H2 (k1.trans k2) ð (.cons (r1.mono k2) r2) t2
def An {t:TAD}: ∀σ H Q,LE K (Oh t) σ H Q->HJ (LA K t) σ H Q:=λσ H Q ⟨Ä,h,Qd,rs,rh,t,p⟩=>
 LA.bind rs rh t λds vs h1 H1 k1 Ý Î r1 ⟨z,q⟩=>⟨by rw [<-r1.length];exact z,λa ha=>p (.tup ds) (.ref a) h1 _ (k1.trans (.new ha)) (Î.new ha) ⟨a,vs,rfl,jh,r1.mono (.new ha)⟩ q⟩
def Ao {t:TAD}: ∀σ H Q,LE K (ME t) σ H Q->HK (LA K t) σ H Q:=λσ H Q ⟨Ä,h,Qd,rs,rh,t,p⟩=>
 LA.bind rs rh t λds vs h1 H1 k1 Ý Î r1 ⟨z,q⟩=>⟨by rw [<-r1.length];exact z,λa ha=>p (.lst a) (.ref a) _ _ (k1.trans (.new ha)) (Î.newL ha r1) ⟨rfl,vs,jh⟩ (q a (Î.free ha))⟩
def Ap {r:RDn}{t:TAD}: ∀σ H Q,LE K (Ķ r t) σ H Q->tCB (LC K r) (LA K t) σ H Q:=λσ H Q ⟨Ä,h,Qd,rs,rh,t,p⟩=>
 LA.bind rs rh t λds vs h1 H1 k1 Ý Î r1 q=>⟨ds,h1,Qd,r1,Î,q,jG p k1⟩
def Dz {t:TED}: ∀σ H Q,LT K (Jl t) σ H Q->CC (LE K t) σ H Q:=λσ H Q ⟨Ä,h,Qd,rs,rh,t,p⟩=>
 LE.bind rs rh t λd v h1 H1 k1 Ý Î r1 ⟨k,e,q⟩=>by subst e;exact⟨k,r1,p k h1 H1 k1 Î q⟩
def MW {t:TED}: ∀σ H Q,LT K (Jl t) σ H Q->tB (LE K t) σ H Q:=λσ H Q ⟨Ä,h,Qd,rs,rh,t,p⟩=>
 LE.bind rs rh t λd v h1 H1 k1 Ý Î r1 ⟨k,e,q⟩=>by subst e;exact⟨k,r1,p k h1 H1 k1 Î q⟩
def QQ {r r':RD2}{tc:TED}: ∀σ H Q,LE K (Wp r r' ta tb tc) σ H Q->PZ (LR K r) (LR K r') (LE K ta) (LE K tb) (LE K tc) σ H Q:=λσ H Q ⟨Ä,h,Qd,rs,rh,t,p⟩=>
 LE.bind rs rh t λd v h1 H1 k1 Ý Î r1 t1=>LE.bind Ý Î t1 λd2 v2 h2 H2 k2 İ ð r2 t2=>⟨d,d2,h2,_,r1.mono k2,r2,ð,t2,λd3 v3 h3 H3 k3 đ r3 ⟨k,e,q⟩=>by
  subst e;refine⟨k,r3,?_⟩;cases k with
  |true=>
   rw [S5 rfl] at q ⊢;exact LE.bind (İ.mono k3) đ q λd4 v4 h4 H4 k4 Ť ľ r4 t4=>⟨d2,d4,h4,Qd,(r2.mono k3).mono k4,r4,ľ,t4,jG p (k1.trans (k2.trans (k3.trans k4)))⟩
  |false=>
   rw [R9 D2] at q ⊢;exact p (.bl xf) _ h3 H3 (k1.trans (k2.trans k3)) đ rfl q⟩
variable {t:TTD}
def Aq {u:TTD}: ∀σ H Q,LT K (Fg t u) σ H Q->Hu (LT K t) (LT K u) σ H Q:=λσ H Q ⟨Ä,h,Qd,rs,rh,t,p⟩=>
 LT.bind rs rh t λb h1 H1 k1 Ý Î q=>by
  cases b with
  |true=>rw [S5 rfl] at q ⊢;exact⟨Ä,h1,Qd,Ý,Î,q,λb h' H' k=>p b h' H' (k1.trans k)⟩
  |false=>rw [R9 D2] at q ⊢;exact p _ _ _ k1 Î q
def SW {u:TTD}: ∀σ H Q,LT K (Aj t u) σ H Q->tOr (LT K t) (LT K u) σ H Q:=λσ H Q ⟨Ä,h,Qd,rs,rh,t,p⟩=>
 LT.bind rs rh t λb h1 H1 k1 Ý Î q=>by
  cases b with
  |true=>rw [S5 rfl] at q ⊢;exact p _ _ _ k1 Î q
  |false=>rw [R9 D2] at q ⊢;exact⟨Ä,h1,Qd,Ý,Î,q,λb h' H' k=>p b h' H' (k1.trans k)⟩
def Ar: ∀σ H Q,LT K (Dw t) σ H Q->Hv (LT K t) σ H Q:=λσ H Q ⟨Ä,h,Qd,rs,rh,t,p⟩=>
 LT.bind rs rh t λb h1 H1 k1 Ý Î q=>p _ _ _ k1 Î q
def As: ∀σ H Q,LE K (Dx ta tb) σ H Q->OA (LE K ta) (LE K tb) σ H Q:=λσ H Q ⟨Ä,h,Qd,rs,rh,t,p⟩=>
 LE.bind rs rh t λd v h1 H1 k1 Ý Î r1 ⟨c,e,q⟩=>by
  subst e;refine⟨c,r1,?_⟩;cases c with
  |true=>rw [S5 rfl] at q ⊢;exact⟨Ä,h1,Qd,Ý,Î,q,jG p k1⟩
  |false=>rw [R9 D2] at q ⊢;exact p (.bl xf) _ _ _ k1 Î rfl q
def SX: ∀σ H Q,LE K (SV ta tb) σ H Q->Hw (LE K ta) (LE K tb) σ H Q:=λσ H Q ⟨Ä,h,Qd,rs,rh,t,p⟩=>
 LE.bind rs rh t λd v h1 H1 k1 Ý Î r1 ⟨c,e,q⟩=>by
  subst e;refine⟨c,r1,?_⟩;cases c with
  |true=>rw [S5 rfl] at q ⊢;exact p (.bl xb) _ _ _ k1 Î rfl q
  |false=>rw [R9 D2] at q ⊢;exact⟨Ä,h1,Qd,Ý,Î,q,jG p k1⟩
def At: ∀σ H Q,LE K (Dy ta) σ H Q->OB (LE K ta) σ H Q:=λσ H Q ⟨Ä,h,Qd,rs,rh,t,p⟩=>
 LE.bind rs rh t λd v h1 H1 k1 Ý Î r1 ⟨c,e,q⟩=>by subst e;exact⟨c,r1,p (.bl (!c)) _ _ _ k1 Î rfl q⟩
def SY: ∀σ H Q,LE K (dIf t ta tb) σ H Q->tIf (LT K t) (LE K ta) (LE K tb) σ H Q:=λσ H Q ⟨Ä,h,Qd,rs,rh,t,p⟩=>
 LT.bind rs rh t λb h1 H1 k1 Ý Î q=>by
  cases b with
  |true=>rw [S5 rfl] at q ⊢;exact⟨Ä,h1,Qd,Ý,Î,q,jG p k1⟩
  |false=>rw [R9 D2] at q ⊢;exact⟨Ä,h1,Qd,Ý,Î,q,jG p k1⟩
end
abbrev QE (X:Cx)(e:S2)(t:TED):Prop:=PE X e (LE X.K t)
abbrev QT (X:Cx)(e:S2)(t:TTD):Prop:=PT X e (LT X.K t)
abbrev QW (X:Cx)(e:S2)(t:TTD):Prop:=PW X e (LT X.K t)
abbrev QA (X:Cx)(es:G0 S2)(t:TAD):Prop:=PA X es (LA X.K t)
abbrev QS (X:Cx)(s:L8)(t:TSD):Prop:=PS X s (LS X.K t)
abbrev QSs (X:Cx)(s:G0 L8)(t:TSD):Prop:=ő X s (LS X.K t)
abbrev QG (X:Cx)(e:S2)(t:TGD):Prop:=PG X e (LG X.K t)
abbrev û (X:Cx)(f:G1->G1->Sem G1)(r:RD2):Prop:=Ĉ X f (LR X.K r)
abbrev vP (X:Cx)(f:G1)(r:RDn):Prop:=ê X f (LC X.K r)
section
variable {X:Cx}{a b c e:S2}{es rest:G0 S2}{ta tb tc te:TED}{t u:TAD}{tt tu:TTD}{pos:Pos}{f r r':RD2}
def qv (i:P0){x:Str}(hN:X.N[i]? =zq x:=by rfl)(hv:Vis X.env.scope x:=by first|exact A3 rfl|exact aR (A3 rfl)|exact aR (aR rfl))(hd:(x==("__debug__" :Str))=xf:=by decide)
 (hcd:(x==("__classdict__" :Str))=xf:=by decide):QE X (.Name x pos) (JM i):=(PK hN hv hd hcd).imp (Ak i)
variable {j:P0}
def HQ {i:P4}:QE X (.Constant (.int i) j pos) (dC (.int i)):=X0k.imp (Al λ_=>rfl)
def qbl {i:N3}:QE X (.Constant (.bool i) j pos) (dC (.bl i)):=X08.imp (Al λ_=>rfl)
def KA:QE X (.Constant .none j pos) (dC .non):=X0G.imp (Al λ_=>rfl)
def KB {x:Str}:QE X (.Constant (.str x) j pos) (dC (.str x)):=X0l.imp (Al λ_=>rfl)
def SZ {x:Str}{i:P4}{tk:Tok}(hg:Gl X x)(hm:X.mg x=zq (.int i tk))(hd:(x==("__debug__" :Str))=xf:=by decide):QE X (.Name x pos) (dC (.int i)):=
 (PL (v:= .int i) hg hm ⟨tk,rfl⟩ hd).imp (Al λ_=>rfl)
def qop {op:qF}(ho:û X (K6 op) f)(ha:QE X a ta)(hb:QE X b tb):QE X (.BinOp a op b pos) (Ġ f ta tb):=(SA ho ha hb).imp Fh
def KC {op:lD}(ho:û X (B8 op) f)(ha:QE X a ta)(hb:QE X b tb)(hm:W5 op b=xf):QE X (.Compare a [op] [b] pos) (Ġ f ta tb):=(CB ho ha hb hm).imp Fh
def Ta {op:lD}(ho:û X (B8 op) f)(ha:QE X a ta)(hb:QE X b tb)(hm:W5 op b=xf):QT X (.Compare a [op] [b] pos) (Jl (Ġ f ta tb)):=
 (CF ho ha hb hm).imp λσ H Q h=>by
  obtain⟨Ä,h,Qd,rs,rh,t,p⟩:=Dz (t:=Ġ f ta tb) σ H Q h;exact Fh σ H _ ⟨Ä,h,Qd,rs,rh,t,p⟩
def Au {op Ľ:lD}(ho:û X (B8 op) r)(ho':û X (B8 Ľ) r')(ha:QE X a ta)(hb:QE X b tb)(hc:QE X c tc)(hm:mD [op,Ľ] [b,c]=xf:=by with_unfolding_all rfl):
 QE X (.Compare a [op,Ľ] [b,c] pos) (Wp r r' ta tb tc):=(MO ho ho' ha hb hc hm).imp QQ
def Fj {op Ľ:lD}(ho:û X (B8 op) r)(ho':û X (B8 Ľ) r')(ha:QE X a ta)(hb:QE X b tb)(hc:QE X c tc)(hm:mD [op,Ľ] [b,c]=xf:=by with_unfolding_all rfl):
 QT X (.Compare a [op,Ľ] [b,c] pos) (Jl (Wp r r' ta tb tc)):=(MP ho ho' ha hb hc hm).imp λσ H Q h=>by
 obtain⟨Ä,h,Qd,rs,rh,t,p⟩:=Dz (t:=Wp r r' ta tb tc) σ H Q h;exact QQ σ H _ ⟨Ä,h,Qd,rs,rh,t,p⟩
def Tb (ha:QE X a ta)(he: ∀whole,isTrue a X.env whole=(do let v <-whole;cZ a.pos;Z6 [v] (mP v)):=by intro _;rfl):QT X a (Jl ta):=(Ow ha he).imp MW
def Tc (ha:QT X a tt):QW X (.BoolOp .And [a] pos) tt:=Cw ha
def KG (ha:QT X a tt):QW X (.BoolOp .Or [a] pos) tt:=Ox ha
def Td (ha:QT X a tt)(hb:QW X (.BoolOp .And (b::rest) pos) tu):QW X (.BoolOp .And (a::b::rest) pos) (Fg tt tu):=(Oy ha hb).imp Aq
def KH (ha:QT X a tt)(hb:QW X (.BoolOp .Or (b::rest) pos) tu):QW X (.BoolOp .Or (a::b::rest) pos) (Aj tt tu):=(Sv ha hb).imp SW
def Te (ha:QT X a tt):QT X (.UnaryOp .Not a pos) (Dw tt):=(Oz ha).imp Ar
def KI {op:BoolOp}(ha:QE X a ta):QE X (.BoolOp op [a] pos) ta:=OC ha
def KJ (ha:QE X a ta)(hb:QE X (.BoolOp .And (b::rest) pos) tb):QE X (.BoolOp .And (a::b::rest) pos) (Dx ta tb):=(OD ha hb).imp As
def qor (ha:QE X a ta)(hb:QE X (.BoolOp .Or (b::rest) pos) tb):QE X (.BoolOp .Or (a::b::rest) pos) (SV ta tb):=(Sw ha hb).imp SX
def KL (ha:QE X a ta):QE X (.UnaryOp .Not a pos) (Dy ta):=(OE ha).imp At
def qif {c:S2}(hc:QT X c tt)(ha:QE X a ta)(hb:QE X b tb):QE X (.IfExp c a b pos) (dIf tt ta tb):=(MJ hc ha hb).imp SY
def Av:QA X [] Jk:=Ą.imp Am
def Fk (ha:QE X e te)(hr:QA X es t)(hs:P9 (e::es) X.env=(xf,L7 e X.env)::P9 es X.env:=by rfl):QA X (e::es) (jP te t):=(zS ha hr hs).imp Fi
def KM {k:P0}(h:QA X es t):QE X (.Tuple es k pos) (Oh t):=(OV h).imp An
def KN (h:QA X es t):QE X (.List es pos) (ME t):=(OW h).imp Ao
end
def XH:TSD:=λD σ h=>D.nx σ h
def yn (t u:TSD):TSD:=λD σ h=>t {D with nx:=u D} σ h
def Fl (te:TED):TSD:=λD σ h=>te σ h λ_ h1=>D.nx σ h1
def DA (te:TED):TSD:=λD σ h=>te σ h D.rt
def Fm (c:TTD)(t u:TSD):TSD:=λD σ h=>c σ h λb h1=>if b=xb then t D σ h1 else u D σ h1
def Py (i:P0)(te:TED):TSD:=λD σ h=>te σ h λd h1=>D.nx (σ.set i (zq d)) h1
def Tf (te:TED)(g:TGD):TSD:=λD σ h=>te σ h λx h1=>g x σ h1 D.nx
def Tg (i j:P0)(ta:TAD):TSD:=λD σ h=>ta σ h λds h1=> ∃v w,ds= [v,w]/\D.nx ((σ.set i (zq v)).set j (zq w)) h1
def gN (i:P0):TGD:=λd σ h Q=>Q (σ.set i (zq d)) h
def gT2 (i j:P0):TGD:=λd σ h Q=> ∃x y,d= .tup [x,y]/\Q ((σ.set i (zq x)).set j (zq y)) h
section
variable {K:G3}
def LS.of {t:TSD}{ŕ:Ű}{σ:St}{H:Hp}{Ä:SD}{h:HD}{Dd:EndsD}(rs:Ò K H Ä σ)(rh:Å K h H)(q:t Dd Ä h)
 (nx: ∀ß h' Â H',Kept H H'->Ò K H' ß Â->Å K h' H'->Dd.nx ß h'->ŕ.nx Â H')(rt:BP K H Dd.rt ŕ.rt)
 (bk: ∀ß h' Â H',Kept H H'->Ò K H' ß Â->Å K h' H'->Dd.bk ß h'->ŕ.bk Â H')(ct: ∀ß h' Â H',Kept H H'->Ò K H' ß Â->Å K h' H'->Dd.ct ß h'->ŕ.ct Â H'):LS K t ŕ σ H:=⟨Ä,h,Dd,rs,rh,q,nx,rt,bk,ct⟩
def Fn: ∀D σ H,LS K XH D σ H->OF D σ H:=λD σ H ⟨Ä,h,Dd,rs,rh,q,nx,_,_,_⟩=>nx Ä h σ H (.refl H) rs rh q
def Aw {t u:TSD}: ∀D σ H,LS K (yn t u) D σ H->Hx (LS K t) (LS K u) D σ H:=λD σ H ⟨Ä,h,Dd,rs,rh,q,nx,rt,bk,ct⟩=>
 LS.of rs rh q (λß h' Â H' k ť ì q'=>⟨ß,h',Dd,ť,ì,q',λa b c d k'=>nx a b c d (k.trans k'),jG rt k,λa b c d k'=>bk a b c d (k.trans k'),λa b c d k'=>ct a b c d (k.trans k')⟩) rt bk ct
variable {te:TED}
def Fo: ∀D σ H,LS K (Fl te) D σ H->OG (LE K te) D σ H:=λD σ H ⟨Ä,h,Dd,rs,rh,q,nx,rt,bk,ct⟩=>
 LE.bind rs rh q λd v h1 H1 k1 Ý Î r1 q1=>nx _ _ _ _ k1 Ý Î q1
def Ax: ∀D σ H,LS K (DA te) D σ H->Hy (LE K te) D σ H:=λD σ H ⟨Ä,h,Dd,rs,rh,q,nx,rt,bk,ct⟩=>⟨Ä,h,Dd.rt,rs,rh,q,rt⟩
def Th {c:TTD}{t u:TSD}: ∀D σ H,LS K (Fm c t u) D σ H->Hz (LT K c) (LS K t) (LS K u) D σ H:=λD σ H ⟨Ä,h,Dd,rs,rh,q,nx,rt,bk,ct⟩=>
 LT.bind rs rh q λb h1 H1 k Ý Î q1=>by
  cases b with
  |true=>rw [S5 rfl] at q1 ⊢;exact⟨Ä,h1,Dd,Ý,Î,q1,λa b c d k'=>nx a b c d (k.trans k'),jG rt k,λa b c d k'=>bk a b c d (k.trans k'),λa b c d k'=>ct a b c d (k.trans k')⟩
  |false=>rw [R9 D2] at q1 ⊢;exact⟨Ä,h1,Dd,Ý,Î,q1,λa b c d k'=>nx a b c d (k.trans k'),jG rt k,λa b c d k'=>bk a b c d (k.trans k'),λa b c d k'=>ct a b c d (k.trans k')⟩
def QR {i:P0}: ∀D σ H,LS K (Py i te) D σ H->ML (LE K te) (wR i) D σ H:=λD σ H ⟨Ä,h,Dd,rs,rh,q,nx,rt,bk,ct⟩=>
 LE.bind rs rh q λd v h1 H1 k1 Ý Î r1 q1=>nx _ _ _ _ k1 (Ý.set r1 i) Î q1
def Ay {g:TGD}: ∀D σ H,LS K (Tf te g) D σ H->ML (LE K te) (LG K g) D σ H:=λD σ H ⟨Ä,h,Dd,rs,rh,q,nx,rt,bk,ct⟩=>
 LE.bind rs rh q λd v h1 H1 k1 Ý Î r1 q1=>⟨d,Ä,h1,_,r1,Ý,Î,q1,λa b c e k'=>nx a b c e (k1.trans k')⟩
def Az {i j:P0}{ta:TAD}: ∀D σ H,LS K (Tg i j ta) D σ H->HB i j (LA K ta) D σ H:=λD σ H ⟨Ä,h,Dd,rs,rh,q,nx,rt,bk,ct⟩=>
 LA.bind rs rh q λds vs h1 H1 k1 Ý Î r1 ⟨x,y,e,q1⟩=>by
  subst e;obtain⟨v,r,e,r2,r3⟩:=(show ∃v r,vs=v::r/\É K H1 x v/\Á K H1 [y] r from r1);obtain⟨w,r',e',r4,r5⟩:=(show ∃v r',r=v::r'/\É K H1 y v/\Á K H1 [] r' from r3);cases (show r'= [] from r5);subst e' e;exact⟨v,w,rfl,nx _ _ _ _ k1 ((Ý.set r2 i).set r4 j) Î q1⟩
def Fp (i:P0): ∀v σ H Q,LG K (gN i) v σ H Q->wR i v σ H Q:=λv σ H Q ⟨d,Ä,h,Qd,r,rs,rh,q,p⟩=>p _ _ _ _ (.refl H) (rs.set r i) rh q
def yO {H:Hp}{x y:D}{vs:G0 V}(r:Á K H [x,y] vs): ∃v w,vs= [v,w]/\É K H x v/\É K H y w:=by
 obtain⟨v,r1,e,r2,r3⟩:=(show ∃v r,vs=v::r/\É K H x v/\Á K H [y] r from r);obtain⟨w,z,e',r4,r5⟩:=(show ∃v z,r1=v::z/\É K H y v/\Á K H [] z from r3);cases (show z= [] from r5);subst e' e;exact⟨v,w,rfl,r2,r4⟩
def jS {H:Hp}{x:D}{vs:G0 V}(r:Á K H [x] vs): ∃v,vs= [v]/\É K H x v:=by
 obtain⟨v,r1,e,r2,r3⟩:=(show ∃v r,vs=v::r/\É K H x v/\Á K H [] r from r);cases (show r1= [] from r3);exact⟨v,e,r2⟩
def AA (i j:P0): ∀v σ H Q,LG K (gT2 i j) v σ H Q->Sd K 2 (XA (wR i) (XA (wR j) Sc)) v σ H Q:=λv σ H Q ⟨d,Ä,h,Qd,r,rs,rh,⟨x,y,e,q⟩,p⟩=>by
 subst e;obtain⟨a,vs,e,hH,r1⟩:=(show ∃a vs,v= .ref a/\H a=zq (.tup vs)/\Á K H [x,y] vs from r);obtain⟨v1,v2,e1,r2,r3⟩:=yO r1;subst e e1;exact⟨a,[v1,v2],rfl,ĉ.of hH,rfl,v1,[v2],rfl,v2,[],rfl,rfl,p _ _ _ _ (.refl H) ((rs.set r2 i).set r3 j) rh q⟩
end
section
variable {X:Cx}{st:L8}{sts:G0 L8}{t u:TSD}{e:S2}{te:TED}{pos:Pos}
def AB:QSs X [] XH:=X0r.imp Fn
def Fq (h1:QS X st t)(h2:QSs X sts u):QSs X (st::sts) (yn t u):=(MK h1 h2).imp Aw
def AC (h1:QS X st t):QSs X [st] t:=PN h1
def Ti (he:QE X e te)(hs:U0 e xa pos.line X.env=pure xf:=by rfl):QS X (.Expr e pos) (Fl te):=(Cy he hs).imp Fo
def KO (he:QE X e te):QS X (.Return (zq e) pos) (DA te):=(OH he).imp Ax
def KP {c:S2}{a b:G0 L8}{tc:TTD}(hc:QT X c tc)(ha:QSs X a t)(hb:QSs X b u):QS X (.If c a b pos) (Fm tc t u):=(Sx hc ha hb).imp Th
variable {i:P0}{x:Str}
def KQ {pos':Pos}(hN:X.N.Nodup)(hi:X.N[i]? =zq x)(hx:Loc X.env.scope x)(he:QE X e te)(hs:U0 e (zq (.Name x pos')) pos.line X.env=pure xf:=by rfl)
 (hf:X.fn x=xb\/X.env.scope.names.lookup x=zq .local:=by first|exact .inl rfl|exact .inr rfl|assumption):QS X (.Assign [.Name x pos'] e pos) (Py i te):=(OK hN hi hx he hs hf).imp QR
def Fs (hN:X.N.Nodup)(hi:X.N[i]? =zq x)(hx:Loc X.env.scope x)(hf:X.fn x=xb\/X.env.scope.names.lookup x=zq .local:=by first|exact .inl rfl|exact .inr rfl|assumption):QG X (.Name x pos) (gN i):=
 (yM hN hi hx hf).imp (Fp i)
def AD {j:P0}{y:Str}{p1 p2:Pos}{k:P0}(hc:X.calm=xb)(hN:X.N.Nodup)(hi:X.N[i]? =zq x)(hj:X.N[j]? =zq y)(hx:Loc X.env.scope x)(hy:Loc X.env.scope y)
 (hf:X.fn x=xb\/X.env.scope.names.lookup x=zq .local:=by first|exact .inl rfl|exact .inr rfl|assumption)(hf2:X.fn y=xb\/X.env.scope.names.lookup y=zq .local:=by first|exact .inl rfl|exact .inr rfl|assumption):
 QG X (.Tuple [.Name x p1,.Name y p2] k pos) (gT2 i j):=(PP hc (vm (yM hN hi hx hf) (vm (yM hN hj hy hf2) XB))).imp (AA i j)
def KR {tg:S2}{g:TGD}(he:QE X e te)(hg:QG X tg g)(hs:cU [tg] e pos.line X.env=pure xf:=by rfl)(hsw:cV [tg] e X.env=pure xa:=by rfl)
 (h1:(dG [tg] X.env).map (·.2)= [dF tg X.env]:=by rfl):QS X (.Assign [tg] e pos) (Tf te g):=(OJ he hg hs hsw h1).imp Ay
def KS {j:P0}{y:Str}{a b:S2}{ta:TAD}{px py pt:Pos}{kt k2 pt2}(hc:X.calm=xb)(hN:X.N.Nodup)(hi:X.N[i]? =zq x)(hj:X.N[j]? =zq y)(hij:i≠j)
 (hx:X.env.scope.names.lookup x=zq .local)(hy:X.env.scope.names.lookup y=zq .local)(ha:QA X [a,b] ta)
 (hw:cV [.Tuple [.Name x px,.Name y py] kt pt] (.Tuple [a,b] k2 pt2) X.env=pure (zq [x,y]))
 (hs:cU [.Tuple [.Name x px,.Name y py] kt pt] (.Tuple [a,b] k2 pt2) pos.line X.env=pure xf:=by rfl):
 QS X (.Assign [.Tuple [.Name x px,.Name y py] kt pt] (.Tuple [a,b] k2 pt2) pos) (Tg i j ta):=(OL hc hN hi hj hij hx hy ha hw hs).imp Az
end
abbrev ItD:=HD->P1 (G0 D)
def BQ (K:G3)(H:Hp)(j:ItD)(J:It):Prop:= ∀H' h',Kept H H'->Å K h' H'-> ∀ds,j h'=zq ds-> ∀i:P0,
 (∀d,ds[i]? =zq d->J.go i H'/\ ∀x ķ,J.yld i H' x ķ->Kept H' ķ/\Å K h' ķ/\É K ķ d x)/\(ds.length<=i->J.stop i H')
abbrev TID:=SD->HD->(ItD->HD->Prop)->Prop
inductive LI (K:G3)(t:TID)(σ:St)(H:Hp)(R:It->Hp->Prop):Prop
 |mk (Ä h Rd) (_:Ò K H Ä σ) (_:Å K h H) (_:t Ä h Rd) (_: ∀j J b c,Kept H c->Å K b c->BQ K c j J->Rd j b->R J c)
abbrev QI (X:Cx)(tg iter:S2)(t:TID):Prop:=PI X tg iter (LI X.K t)
def PI.imp {t t':TI}(h:PI X tg e t)(i: ∀σ H R,t' σ H R->t σ H R):PI X tg e t':=λÀ s σ H R I q=>h À s σ H R I (i σ H R q)
def iL (te:TED):TID:=λσ h R=>te σ h λx h1=> ∃a,x= .lst a/\R (λh=>h a) h1
def iR1 (ta:TAD):TID:=λσ h R=>ta σ h λds h1=> ∃n:P4,ds= [.int n]/\ -(2^62)<=n/\n<2^62/\R (λ_=>zq ((R6 n.toNat).map λ(k:P0)=>D.int (k:P4))) h1
def iR2 (ta:TAD):TID:=λσ h R=>ta σ h λds h1=> ∃m n:P4,ds= [.int m,.int n]/\(-(2^62)<=m/\m<2^62/\ -(2^62)<=n/\n<2^62)/\R (λ_=>zq ((R6 (n-m).toNat).map λ(k:P0)=>D.int (m+(k:P4)))) h1
section
variable {K:G3}
def Ur (H:Hp)(a:G7):BQ K H (λh=>h a) (Itl K a):=λH' h' k rh ds e i=>by
 obtain⟨vs,hv,r⟩:=rh a ds e;refine⟨λd hd=> ?_,λhl=>⟨vs,õ.of hv,by rw [<-r.length];exact hl⟩⟩;obtain⟨v,e1,e2⟩:=r.get hd;refine⟨⟨vs,v,õ.of hv,e1⟩,λx ķ ⟨eH,hx⟩=> ?_⟩;subst eH;have:=hx vs (õ.of hv);rw [e1] at this;cases this;exact⟨.refl _,rh,e2⟩
def MX {H:Hp}{a:G7}{vs:G0 V}{ds:G0 D}(hv:H a=zq (.tup vs))(r:Á K H ds vs):BQ K H (λ_=>zq ds) (Itt K a):=λH' h' k rh ds' e i=>by
 cases e;have hv':=k.tup _ _ hv;have r':=r.mono k;refine⟨λd hd=> ?_,λhl=>⟨vs,ĉ.of hv',by rw [<-r.length];exact hl⟩⟩;obtain⟨v,e1,e2⟩:=r'.get hd;refine⟨⟨vs,v,ĉ.of hv',e1⟩,λx ķ ⟨eH,hx⟩=> ?_⟩;subst eH;have:=hx vs (ĉ.of hv');rw [e1] at this;cases this;exact⟨.refl _,rh,e2⟩
def YB (H:Hp)(lo:P4)(n:P0)(ds:G0 D)(hd:ds=(R6 n).map λ(k:P0)=>D.int (lo+(k:P4))):BQ K H (λ_=>zq ds) (Itr lo n):=λH' h' k rh ds' e i=>by
 cases e;subst hd;refine⟨λd hd=> ?_,λhl=>(show n<=i by simpa using hl)⟩;rw [D1] at hd;have hi:i<n:=by
  by_cases z:i<n
  ·exact z
  ·rw [V8 (by simpa using z)] at hd;cases hd
 rw [Y0 hi] at hd;cases hd;refine⟨hi,λx ķ ⟨eH,hx⟩=> ?_⟩;subst eH hx;exact⟨.refl _,rh,rfl⟩
def Ft {te:TED}: ∀σ H R,LI K (iL te) σ H R->OO K (LE K te) σ H R:=λσ H R ⟨Ä,h,Rd,rs,rh,q,p⟩=>
 LE.bind rs rh q λd v h1 H1 k1 Ý Î r1 ⟨a,e,q1⟩=>by
  subst e;obtain⟨e,vs,hv⟩:=(show v= .ref a/\ ∃vs,H1 a=zq (.lst vs) from r1);exact⟨a,e,⟨vs,õ.of hv⟩,p _ _ _ _ k1 Î (Ur H1 a) q1⟩
def Tj {ta:TAD}: ∀σ H R,LI K (iR1 ta) σ H R->OP (LA K ta) σ H R:=λσ H R ⟨Ä,h,Rd,rs,rh,q,p⟩=>
 LA.bind rs rh q λds vs h1 H1 k1 Ý Î r1 ⟨n,e,b1,b2,q1⟩=>by
  subst e;obtain⟨v,e,r2⟩:=jS r1;cases (show v= .int n from r2);exact⟨n,e,b1,b2,p _ _ _ _ k1 Î (YB H1 0 n.toNat _ (by simp)) q1⟩
def Tk {ta:TAD}: ∀σ H R,LI K (iR2 ta) σ H R->OQ (LA K ta) σ H R:=λσ H R ⟨Ä,h,Rd,rs,rh,q,p⟩=>
 LA.bind rs rh q λds vs h1 H1 k1 Ý Î r1 ⟨m,n,e,b,q1⟩=>by
  subst e;obtain⟨v,w,e,r2,r3⟩:=yO r1;cases (show v= .int m from r2);cases (show w= .int n from r3);exact⟨m,n,e,b,p _ _ _ _ k1 Î (YB H1 m (n-m).toNat _ rfl) q1⟩
end
def Oi (ti:TID)(g:TGD)(tb:TSD):TSD:=λD σ h=>ti σ h λj h1=> ∃ (n:P0) (W:P0->SD->HD->Prop),W 0 σ h1/\ ∀i Â h',W i Â h'-> ∃ds,j h'=zq ds/\ds.length<=n/\(ds.length<=i->D.nx Â h')/\
 ∀d,ds[i]? =zq d->g d Â h' λÜ h2=>tb {D with nx:=λþ h3=> ∃h4,Sub h4 h3/\W (i+1) þ h4,ct:=λþ h3=> ∃h4,Sub h4 h3/\W (i+1) þ h4,bk:=D.nx} Ü h2
variable {ti:TID}
def AE {g:TGD}{tb:TSD}: ∀D σ H,LS K (Oi ti g tb) D σ H->HF (LI K ti) (LG K g) (LS K tb) D σ H:=λD σ H ⟨Ä,h,Dd,rs,rh,q,nx,rt,bk,ct⟩=>by
 refine⟨Ä,h,_,rs,rh,q,λj J h1 H1 k1 Î jo ⟨n,W,w0,turn⟩=> ?_⟩;refine⟨λi m Â H'=>m=n-i/\Kept H1 H'/\ ∃ß h',Ò K H' ß Â/\Å K h' H'/\W i ß h',⟨n-0,rfl,.refl _,Ä,h1,rs.mono k1,Î,w0⟩,?_⟩;rintro i m Â H' ⟨rfl,kp,ß,h',ť,ì,w⟩;obtain⟨ds,ej,hn,stop,go⟩:=turn i ß h' w;have jo':=jo H' h' kp ì ds ej i
 by_cases hi:i<ds.length
 ·obtain⟨g1,y1⟩:=jo'.1 ds[i] (G5 hi);refine .inr ⟨g1,λÜ H2=>Kept H1 H2/\ ∃ñ h2,Ò K H2 ñ Ü/\Å K h2 H2/\W (i+1) ñ h2,λÜ H2 ⟨k2,a,b,c,d,e⟩=>⟨n-(i+1),by omega,rfl,k2,a,b,c,d,e⟩,λx ķ y=> ?_⟩;obtain⟨k2,ð,r2⟩:=y1 x ķ y;refine⟨ds[i],ß,h',_,r2,ť.mono k2,ð,go ds[i] (G5 hi),λX02 h3 þ H3 k3 ũ đ q3=> ?_⟩;have kk:Kept H H3:=k1.trans (kp.trans (k2.trans k3));have kk1:Kept H1 H3:=kp.trans (k2.trans k3);exact⟨X02,h3,_,ũ,đ,q3,λa b c d k4 Ť ľ ⟨h4,sb,w4⟩=>⟨kk1.trans k4,a,h4,Ť,ľ.sub sb,w4⟩,jG rt kk,λa b c d k4 Ť ľ q4=>nx a b c d (kk.trans k4) Ť ľ q4,λa b c d k4 Ť ľ ⟨h4,sb,w4⟩=>⟨kk1.trans k4,a,h4,Ť,ľ.sub sb,w4⟩⟩
 ·exact .inl ⟨jo'.2 (bG.mp hi),nx _ _ _ _ (k1.trans kp) ť ì (stop (bG.mp hi))⟩
def JN:TTD:=λ_ h Q=>Q xb h
def ZI (bind:D->SD->SD->Prop)(js:G0 P0)(ti:TID)(tt:TTD)(te:TED):TED:=λσ h Q=>ti σ h λj h1=> ∃ (n:P0) (W:P0->G0 D->HD->Prop),W 0 [] h1/\ ∀i ys h',W i ys h'->ys.length<=xh/\
 ∃ds,j h'=zq ds/\ds.length<=n/\(ds.length<=i-> ∀p,h' p=xa->Q (.lst p) (wd h' p ys))/\
  ∀d,ds[i]? =zq d-> ∃Ü,bind d (zg js σ) Ü/\tt Ü h' λb h3=>if b=xb then te Ü h3 λy h4=> ∃h5,Sub h5 h4/\W (i+1) (ys++ [y]) h5 else ∃h5,Sub h5 h3/\W (i+1) ys h5
def bN (i:P0):D->SD->SD->Prop:=λd σ Ü=>Ü=σ.set i (zq d)
def b2 (i j:P0):D->SD->SD->Prop:=λd σ Ü=> ∃x y,d= .tup [x,y]/\Ü=(σ.set i (zq x)).set j (zq y)
def AF: ∀σ H Q,LT K JN σ H Q->HP σ H Q:=λσ H Q ⟨Ä,h,Qd,rs,rh,q,p⟩=>p xb h H (.refl H) rh q
def DB (K:G3)(js:G0 P0)(bind:D->SD->SD->Prop)(g:TG):Prop:= ∀ (σ:St) (Ä ñ:SD) (H:Hp) (d:D) (v:V) (Q:St->Hp->Prop),Ò K H (zg js Ä) (zQ js σ)->É K H d v->bind d (zg js Ä) ñ->
 (∀Ü,Agree (zQ js σ) Ü->Ò K H ñ Ü->Q Ü H)->g v (zQ js σ) H Q
variable {i:P0}
def Fu (hi:i∈js):DB K js (bN i) (wR i):=λσ Ä ñ H d v Q rs r b q=>by
 cases (show ñ=_ from b);exact q _ (.set v λu=>zM js σ i u hi) (rs.set r i)
def AG {j:P0}(hi:i∈js)(hj:j∈js)(hij:i≠j):DB K js (b2 i j) (Sd K 2 (XA (wR i) (XA (wR j) Sc))):=λσ Ä ñ H d v Q rs r b q=>by
 obtain⟨x,y,e,e2⟩:=b;subst e e2;obtain⟨a,vs,e,hH,r1⟩:=(show ∃a vs,v= .ref a/\H a=zq (.tup vs)/\Á K H [x,y] vs from r);obtain⟨v1,v2,e1,r2,r3⟩:=yO r1;subst e e1;refine⟨a,[v1,v2],rfl,ĉ.of hH,rfl,v1,[v2],rfl,v2,[],rfl,rfl,q _ (.trans (.set v1 λu=>zM js σ i u hi) (.set v2 λu z=> ?_)) ((rs.set r2 i).set r3 j)⟩;rw [J0 hij] at z;exact zM js σ j u hj z
def MY {bind:D->SD->SD->Prop}{tt:TTD}{te:TED}(hb:DB K js bind g): ∀σ H Q,LE K (ZI bind js ti tt te) σ H Q->tLC js (LI K ti) g (LT K tt) (LE K te) σ H Q:=
 λσ H Q ⟨Ä,h,Qd,rs,rh,q,p⟩=>by
  refine⟨Ä,h,_,rs,rh,q,λj J h1 H1 k1 Î jo ⟨n,W,w0,turn⟩=> ?_⟩;refine⟨λi m ys H'=>m=n-i/\Kept H1 H'/\ ∃ds h',Á K H' ds ys/\Å K h' H'/\W i ds h',⟨n-0,rfl,.refl _,[],h1,rfl,Î,w0⟩,?_⟩;rintro i m ys H' ⟨rfl,kp,yd,h',ry,ì,w⟩;obtain⟨hz,ds,ej,hn,stop,go⟩:=turn i yd h' w;refine⟨by rw [<-ry.length];exact hz,?_⟩;have jo':=jo H' h' kp ì ds ej i;have kk:Kept H H':=k1.trans kp
  by_cases hi:i<ds.length
  ·obtain⟨g1,y1⟩:=jo'.1 ds[i] (G5 hi);refine .inr ⟨g1,λx ķ y=> ?_⟩;obtain⟨k2,ð,r2⟩:=y1 x ķ y;obtain⟨ñ,bd,q2⟩:=go ds[i] (G5 hi);refine hb σ Ä ñ ķ ds[i] x _ (((rs.mono (kk.trans k2))).clear js) r2 bd λÜ ag İ=>⟨ag,?_⟩
   refine LT.bind İ ð q2 λb h3 H3 k3 ũ đ q3=> ?_
   cases b with
   |true=>
    rw [S5 rfl] at q3 ⊢;refine LE.bind ũ đ q3 λd4 v4 h4 H4 k4 Ť ľ r4 ⟨h5,sb,w5⟩=>⟨n-(i+1),by omega,rfl,kp.trans (k2.trans (k3.trans k4)),yd++ [d4],h5,(ry.mono (k2.trans (k3.trans k4))).append (.cons r4 .nil),ľ.sub sb,w5⟩
   |false=>
    rw [R9 D2] at q3 ⊢;obtain⟨h5,sb,w5⟩:=q3;exact⟨n-(i+1),by omega,rfl,kp.trans (k2.trans k3),yd,h5,ry.mono (k2.trans k3),đ.sub sb,w5⟩
  ·refine .inl ⟨jo'.2 (bG.mp hi),λa ha=>p (.lst a) (.ref a) _ _ (kk.trans (.new ha)) (ì.newL ha ry) ⟨rfl,ys,jh⟩ (stop (bG.mp hi) a (ì.free ha))⟩
def wt {C:G7}{s₀:G2}{H₀:Hp}{ex:G0 G7}{p:Pos}(hN:X.N.Nodup)(hx:X.N[i]? =zq x)(hl:scope.names.lookup x=zq .local\/scope.names.lookup x=zq .cell):
 PG (yN X scope C s₀ H₀ ex) (.Name x p) (wR i):=by
 rcases hl with z|z
 ·exact yM hN hx (.inl (n8 z)) (.inr (n8 z))
 ·exact yM hN hx (.inr (vN z)) (.inl (by show (scope.names.lookup x==zq aQ)=xb;rw [z];rfl))
section
variable {X:Cx}{tg e iter elt:S2}{te:TED}{ti:TID}{g:TGD}{tb:TSD}{tt:TTD}{pos:Pos}{ta:TAD}{scope:A2}{js:G0 P0}{ifs:G0 S2}
def Fv (he:QE X e te):QI X tg e (iL te):=(Cz he).imp Ft
def Tl {p:Pos}{a:S2}(hg:Gl X "range")(hm:X.mg "range" =xa)(ha:QA X [a] ta)(hs:P9 [a] X.env= [(xf,L7 a X.env)]:=by rfl):QI X tg (.Call (.Name "range" p) [a] [] pos) (iR1 ta):=(PQ hg hm ha hs).imp Tj
def KT {body:G0 L8}(hp:iJ (R3 X.prog X.w) X.A X.env X.xe)(hc:X.calm=xb)(hi:QI X tg iter ti)(hg:QG X tg g)(hb:QSs X body tb)(hs: ∀x,T5 iter X.env x=pure x:=by intro _;rfl):
 QS X (.For tg iter body [] pos) (Oi ti g tb):=(BK hp hc hi hg hb hs).imp AE
def Fw:ģ X [] (LT X.K JN):=λÀ s σ H Q I h=>Fb À s σ H Q I (AF σ H Q h)
def Fx {c:S2}(hc:QT X c tt):ģ X [c] (LT X.K tt):=Fc hc
def qlc {i:P0}{x:Str}{p:Pos}(hc:X.calm=xb)(S:Ñ X scope js)(hi:QI X (.Name x p) iter ti)(hj:i∈js)(hN:X.N.Nodup)(hx:X.N[i]? =zq x)(hl:scope.names.lookup x=zq .local\/scope.names.lookup x=zq .cell)
 (ht: ∀X',jj X scope X'->ģ X' ifs (LT X'.K tt))(he: ∀X',jj X scope X'->QE X' elt te)(hs: ∀x,T5 iter X.env x=pure x:=by intro _;rfl):
 QE X (.ListComp elt [⟨.Name x p,iter,ifs,0⟩] scope pos) (ZI (bN i) js ti tt te):=
 (Ah hc S hi (λX' hX=>by obtain⟨C,s₀,H₀,ex,rfl⟩:=hX;exact wt hN hx hl) (λX' hX=>by have:=ht X' hX;obtain⟨C,s₀,H₀,ex,rfl⟩:=hX;exact this)
  (λX' hX=>by have:=he X' hX;obtain⟨C,s₀,H₀,ex,rfl⟩:=hX;exact this) hs).imp (MY (Fu hj))
def KU {i j:P0}{x y:Str}{p1 p2 p3:Pos}{k:P0}(hc:X.calm=xb)(S:Ñ X scope js)(hi:QI X (.Tuple [.Name x p1,.Name y p2] k p3) iter ti)(hj:i∈js)(hj2:j∈js)(hij:i≠j)(hN:X.N.Nodup)(hx:X.N[i]? =zq x)(hy:X.N[j]? =zq y)
 (hl:scope.names.lookup x=zq .local\/scope.names.lookup x=zq .cell)(hl2:scope.names.lookup y=zq .local\/scope.names.lookup y=zq .cell)
 (ht: ∀X',jj X scope X'->ģ X' ifs (LT X'.K tt))(he: ∀X',jj X scope X'->QE X' elt te)(hs: ∀x,T5 iter X.env x=pure x:=by intro _;rfl):
 QE X (.ListComp elt [⟨.Tuple [.Name x p1,.Name y p2] k p3,iter,ifs,0⟩] scope pos) (ZI (b2 i j) js ti tt te):=
 (Ah hc S hi (λX' hX=>by
  obtain⟨C,s₀,H₀,ex,rfl⟩:=hX;exact PP hc (vm (wt hN hx hl) (vm (wt hN hy hl2) XB))) (λX' hX=>by have:=ht X' hX;obtain⟨C,s₀,H₀,ex,rfl⟩:=hX;exact this)
  (λX' hX=>by have:=he X' hX;obtain⟨C,s₀,H₀,ex,rfl⟩:=hX;exact this) hs).imp (MY (AG hj hj2 hij))
end
def í (K:G3)(ą:RDn):Sp:=λvs H Q _=>LC K ą vs H Q
def DD {ą:RDn}{t:TAD}{E:XK}: ∀σ H Q,LE K (Ķ ą t) σ H Q->CI (í K ą) [] E (LA K t) σ H Q:=λσ H Q ⟨Ä,h,Qd,rs,rh,t,p⟩=>
 LA.bind rs rh t λds vs h1 H1 k1 Ý Î r1 q=>by rw [A5];exact⟨ds,h1,Qd,r1,Î,q,jG p k1⟩
section
variable {X:Cx}{k:P0}{f:G7}{fd:R8}{ps:G0 Str}{ą:RDn}{x:Str}{p pos:Pos}{e:S2}{es:G0 S2}{t:TAD}
def Tn (F:Ì X.prog X.w X.K X.mg X.base à k f fd ps (í X.K ą))(hr:Ð k X.A)(hg:Gl X x)(hm:X.mg x=zq (.ref f))(hk:J8 X.K (.ref f)=xb)(hb:Binds X.K fd ps [])
 (ha:QA X (e::es) t)(hdb:(x==("__debug__" :Str))=xf:=by decide)(he:P9 (e::es) X.env=(xf,L7 e X.env)::P9 es X.env:=by rfl)(hpl:(E3 pos (P9 es X.env)).any (·.1)=xf:=by rfl):
 QE X (.Call (.Name x p) (e::es) [] pos) (Ķ ą t):=(Df F hr hg hm hk hb .nil CV ha hdb he hpl).imp DD
def AH {id:F7}{r:RDn}(hc:vP X (.builtin id) r)(hg:Gl X x)(hm:X.mg x=xa)(hv:Q5 x=zq (.builtin id))(ha:QA X (e::es) t)(hn:x≠ "__name__" :=by decide)(hdb:(x==("__debug__" :Str))=xf:=by decide)
 (he:P9 (e::es) X.env=(xf,L7 e X.env)::P9 es X.env:=by rfl)(hpl:(E3 pos (P9 es X.env)).any (·.1)=xf:=by rfl):QE X (.Call (.Name x p) (e::es) [] pos) (Ķ r t):=(ZU hc hg hm hv ha hn hdb he hpl).imp Ap
def Fy {T:F7}{r:RDn}(hc:vP X (.type T) r)(hg:Gl X x)(hm:X.mg x=xa)(hv:Q5 x=zq (.type T))(ha:QA X (e::es) t)(hn:x≠ "__name__" :=by decide)(hdb:(x==("__debug__" :Str))=xf:=by decide)
 (he:P9 (e::es) X.env=(xf,L7 e X.env)::P9 es X.env:=by rfl)(hpl:(E3 pos (P9 es X.env)).any (·.1)=xf:=by rfl):QE X (.Call (.Name x p) (e::es) [] pos) (Ķ r t):=(Dg hc hg hm hv ha hn hdb he hpl).imp Ap
end
def zt (N:G0 Str)(ds:G0 D):SD:=ds.map zq++M8 (N.length-ds.length) xa
def vo {N:G0 Str}{vs:G0 V}(r:Á K H ds vs):Ò K H (zt N ds) (start N vs):=by
 have hl:=r.length;refine⟨by unfold zt start;simp [hl],λi d e=> ?_⟩;unfold zt at e;unfold start
 by_cases hi:i<ds.length
 ·rw [C7 (by simpa using hi),D1] at e;cases q:ds[i]? with
  |none=>rw [q] at e;cases e
  |some d'=>
   rw [q] at e;cases e;obtain⟨v,e1,e2⟩:=r.get q;exact⟨v,by rw [C7 (by simpa [<-hl] using hi),D1,e1];rfl,e2⟩
 ·rw [N4 (by simpa using hi),dR] at e;split at e<;>cases e
def Xv (Q:KD):EndsD:= {nx:=λ_ h=> ∃h',Sub h' h/\Q .non h',rt:=λd h=> ∃h',Sub h' h/\Q d h'}
section
variable {P:D5}{w:T8}{K:G3}{mg:Str->P1 G1}{base:N8}
def â.okD {x qual:Str}{st:L8}{f:G7}{fd:R8}{N ps:G0 Str}{k:P0}{ą:RDn}(F:â K x qual st f fd)(S:Ã N ps (jd st))(len: ∀ds h Q,ą ds h Q->ds.length=ps.length)
 (tb:TSD)(Þ: ∀ (Ï:G1) (A:S4) (outer:G0 Env) (s:G2) (H:Hp) (E:XK),Ð k (A.deeper (K2 qual (jd st) s.heap.objs.size f Ï))->QSs (ZT à P w K mg base N qual (jd st) f Ï A outer s H E).nox (jL st) tb)
 (read: ∀ds h Q,ą ds h Q->tb (Xv Q) (zt N ds) h):Ì P w K mg base à (k+1) f fd ps (í K ą):=by
 refine F.ok S (λvs H Q E h=> ?_) (λÏ A outer s H vs Q E hr h=> ?_)
 ·obtain⟨ds,h,Qd,r,rh,q,p⟩:=h;rw [<-r.length];exact len _ _ _ q
 ·obtain⟨ds,h,Qd,r,rh,q,p⟩:=h;refine⟨_,Þ Ï A outer s H E hr,zt N ds,h,Xv Qd,vo r,rh,read ds h Qd q,λß h' Â H' k ť ì ⟨h2,sb,q'⟩=>p .non .non h2 H' k (ì.sub sb) rfl q',λd v h' H' k ì r' ⟨h2,sb,q'⟩=>p d v h2 H' k (ì.sub sb) r' q',λ_ _ _ _ _ _ _ z=>z.elim,λ_ _ _ _ _ _ _ z=>z.elim⟩
end
section
variable {X:Cx}{iter elt:S2}{te:TED}{ti:TID}{tt:TTD}{pos ø:Pos}{scope:A2}{js:G0 P0}{ifs:G0 S2}
def AI {i k:P0}{x y:Str}{p py:Pos}(hc:X.calm=xb)(hN:X.N.Nodup)(hk:X.N[k]? =zq y)(hy:Loc X.env.scope y)(S:Ñ X scope js)(hi:QI X (.Name x p) iter ti)(hj:i∈js)(hx:X.N[i]? =zq x)(hl:scope.names.lookup x=zq .local\/scope.names.lookup x=zq .cell)
 (ht: ∀X',jj X scope X'->ģ X' ifs (LT X'.K tt))(he: ∀X',jj X scope X'->QE X' elt te)
 (hsw:U0 (.ListComp elt [⟨.Name x p,iter,ifs,0⟩] scope pos) (zq (.Name y py)) ø.line X.env=pure xb:=by rfl)
 (hf:X.fn y=xb\/X.env.scope.names.lookup y=zq .local:=by first|exact .inl rfl|exact .inr rfl|assumption)(hs: ∀x,T5 iter X.env x=pure x:=by intro _;rfl):
 QS X (.Assign [.Name y py] (.ListComp elt [⟨.Name x p,iter,ifs,0⟩] scope pos) ø) (Py k (ZI (bN i) js ti tt te)):=by
 have base:PS X (.Assign [.Name y py] (.ListComp elt [⟨.Name x p,iter,ifs,0⟩] scope pos) ø) (ML (tLC js (LI X.K ti) (wR i) (LT X.K tt) (LE X.K te)) (wR k)):=
  QP hc S hi (λX' hX=>by obtain⟨C,s₀,H₀,ex,rfl⟩:=hX;exact wt hN hx hl) (λX' hX=>by have:=ht X' hX;obtain⟨C,s₀,H₀,ex,rfl⟩:=hX;exact this)
   (λX' hX=>by have:=he X' hX;obtain⟨C,s₀,H₀,ex,rfl⟩:=hX;exact this) (yM hN hk hy hf) hsw hs
 exact base.imp λD σ H h=>by
  obtain⟨Ä,hd,Qd,rs,rh,t,p⟩:=QR (K:=X.K) D σ H h;exact MY (Fu hj) σ H _ ⟨Ä,hd,Qd,rs,rh,t,p⟩
def Fz {i j k:P0}{x1 x2 y:Str}{p1 p2 p3 py:Pos}{kk:P0}(hc:X.calm=xb)(hN:X.N.Nodup)(hk:X.N[k]? =zq y)(hy:Loc X.env.scope y)(S:Ñ X scope js)(hi:QI X (.Tuple [.Name x1 p1,.Name x2 p2] kk p3) iter ti)(hj:i∈js)(hj2:j∈js)(hij:i≠j)(hx:X.N[i]? =zq x1)(hx2:X.N[j]? =zq x2)
 (hl:scope.names.lookup x1=zq .local\/scope.names.lookup x1=zq .cell)(hl2:scope.names.lookup x2=zq .local\/scope.names.lookup x2=zq .cell)
 (ht: ∀X',jj X scope X'->ģ X' ifs (LT X'.K tt))(he: ∀X',jj X scope X'->QE X' elt te)
 (hsw:U0 (.ListComp elt [⟨.Tuple [.Name x1 p1,.Name x2 p2] kk p3,iter,ifs,0⟩] scope pos) (zq (.Name y py)) ø.line X.env=pure xb:=by rfl)
 (hf:X.fn y=xb\/X.env.scope.names.lookup y=zq .local:=by first|exact .inl rfl|exact .inr rfl|assumption)(hs: ∀x,T5 iter X.env x=pure x:=by intro _;rfl):
 QS X (.Assign [.Name y py] (.ListComp elt [⟨.Tuple [.Name x1 p1,.Name x2 p2] kk p3,iter,ifs,0⟩] scope pos) ø) (Py k (ZI (b2 i j) js ti tt te)):=by
 have base:PS X (.Assign [.Name y py] (.ListComp elt [⟨.Tuple [.Name x1 p1,.Name x2 p2] kk p3,iter,ifs,0⟩] scope pos) ø) (ML (tLC js (LI X.K ti) (Sd X.K 2 (XA (wR i) (XA (wR j) Sc))) (LT X.K tt) (LE X.K te)) (wR k)):=
  QP hc S hi (λX' hX=>by obtain⟨C,s₀,H₀,ex,rfl⟩:=hX;exact PP hc (vm (wt hN hx hl) (vm (wt hN hx2 hl2) XB))) (λX' hX=>by have:=ht X' hX;obtain⟨C,s₀,H₀,ex,rfl⟩:=hX;exact this)
   (λX' hX=>by have:=he X' hX;obtain⟨C,s₀,H₀,ex,rfl⟩:=hX;exact this) (yM hN hk hy hf) hsw hs
 exact base.imp λD σ H h=>by
  obtain⟨Ä,hd,Qd,rs,rh,t,p⟩:=QR (K:=X.K) D σ H h;exact MY (AG hj hj2 hij) σ H _ ⟨Ä,hd,Qd,rs,rh,t,p⟩
end
def dIn (i':P0)(ti:TID)(tt:TTD)(te:TED)(V:G0 D->HD->Prop)(ys:G0 D):SD->HD->Prop:=λσ h=>ti σ h λj h1=> ∃ (n:P0) (W:P0->G0 D->HD->Prop),W 0 ys h1/\ ∀i ys h',W i ys h'->ys.length<=xh/\
 ∃ds,j h'=zq ds/\ds.length<=n/\(ds.length<=i->V ys h')/\
  ∀d,ds[i]? =zq d->tt (σ.set i' (zq d)) h' λb h3=>if b=xb then te (σ.set i' (zq d)) h3 λy h4=> ∃h5,Sub h5 h4/\W (i+1) (ys++ [y]) h5 else ∃h5,Sub h5 h3/\W (i+1) ys h5
def Oj (bind:D->SD->SD->Prop)(js:G0 P0)(ti:TID)(tt:TTD)(i':P0)(ŵ:TID)(Ι:TTD)(te:TED):TED:=λσ h Q=>ti σ h λj h1=> ∃ (n:P0) (W:P0->G0 D->HD->Prop),W 0 [] h1/\ ∀i ys h',W i ys h'->ys.length<=xh/\
 ∃ds,j h'=zq ds/\ds.length<=n/\(ds.length<=i-> ∀p,h' p=xa->Q (.lst p) (wd h' p ys))/\
  ∀d,ds[i]? =zq d-> ∃Ü,bind d (zg js σ) Ü/\tt Ü h' λb h3=>if b=xb then dIn i' ŵ Ι te (λĊ h6=> ∃h5,Sub h5 h6/\W (i+1) Ċ h5) ys Ü h3 else ∃h5,Sub h5 h3/\W (i+1) ys h5
def DE (K:G3)(js:G0 P0)(i':P0)(bind:D->SD->SD->Prop)(g:TG):Prop:= ∀ (σ:St) (Ä ñ:SD) (H:Hp) (d:D) (v:V) (Q:St->Hp->Prop),Ò K H (zg js Ä) (zQ js σ)->É K H d v->bind d (zg js Ä) ñ->
 (∀Ü,Agree (zQ js σ) Ü->(∀u,¬Ü[i']? =zq (zq u))->Ò K H ñ Ü->Q Ü H)->g v (zQ js σ) H Q
def AJ {i':P0}(hi:i∈js)(hi':i'∈js)(hne:i≠i'):DE K js i' (bN i) (wR i):=λσ Ä ñ H d v Q rs r b q=>by
 cases (show ñ=_ from b);refine q _ (.set v λu=>zM js σ i u hi) (λu z=> ?_) (rs.set r i);rw [J0 hne] at z;exact zM js σ i' u hi' z
def AK {bind:D->SD->SD->Prop}{i':P0}{ŵ:TID}{tt Ι:TTD}{te:TED}(hb:DE K js i' bind g): ∀σ H Q,LE K (Oj bind js ti tt i' ŵ Ι te) σ H Q->SU js (LI K ti) g (LT K tt) (LI K ŵ) (wR i') (LT K Ι) (LE K te) σ H Q:=
 λσ H Q ⟨Ä,h,Qd,rs,rh,q,p⟩=>by
  refine⟨Ä,h,_,rs,rh,q,λj J h1 H1 k1 Î jo ⟨n,W,w0,turn⟩=> ?_⟩;refine⟨λi m ys H'=>m=n-i/\Kept H1 H'/\ ∃ds h',Á K H' ds ys/\Å K h' H'/\W i ds h',⟨n-0,rfl,.refl _,[],h1,rfl,Î,w0⟩,?_⟩;rintro i m ys H' ⟨rfl,kp,yd,h',ry,ì,w⟩;obtain⟨hz,ds,ej,hn,stop,go⟩:=turn i yd h' w;refine⟨by rw [<-ry.length];exact hz,?_⟩;have jo':=jo H' h' kp ì ds ej i;have kk:Kept H H':=k1.trans kp
  by_cases hi:i<ds.length
  ·obtain⟨g1,y1⟩:=jo'.1 ds[i] (G5 hi);refine .inr ⟨g1,λx ķ y=> ?_⟩;obtain⟨k2,ð,r2⟩:=y1 x ķ y;obtain⟨ñ,bd,q2⟩:=go ds[i] (G5 hi);refine hb σ Ä ñ ķ ds[i] x _ (((rs.mono (kk.trans k2))).clear js) r2 bd λÜ ag un İ=>⟨ag,?_⟩
   refine LT.bind İ ð q2 λb h3 H3 k3 ũ đ q3=> ?_
   cases b with
   |true=>
    rw [S5 rfl] at q3 ⊢
    -- ζ second clause
    refine⟨ñ,h3,_,ũ,đ,q3,λj2 J2 h4 H4 k4 ľ jo2 ⟨n2,W2,w20,X1l⟩=> ?_⟩;refine⟨λi2 m2 ys2 H5=>m2=n2-i2/\Kept H4 H5/\ ∃ds h5,Á K H5 ds ys2/\Å K h5 H5/\W2 i2 ds h5,⟨n2-0,rfl,.refl _,yd,h4,ry.mono (k2.trans (k3.trans k4)),ľ,w20⟩,?_⟩;rintro i2 m2 ys2 H5 ⟨rfl,kp5,yd5,h5,ry5,rh5,w5⟩;obtain⟨hz5,ds5,ej5,hn5,X1m,go5⟩:=X1l i2 yd5 h5 w5;refine⟨by rw [<-ry5.length];exact hz5,?_⟩;have jo5:=jo2 H5 h5 kp5 rh5 ds5 ej5 i2;have kk5:Kept H1 H5:=kp.trans (k2.trans (k3.trans (k4.trans kp5)))
    by_cases hi5:i2<ds5.length
    ·obtain⟨g5,y5⟩:=jo5.1 ds5[i2] (G5 hi5);refine .inr ⟨g5,λx6 H6 yy6=> ?_⟩;obtain⟨k6,rh6,r6⟩:=y5 x6 H6 yy6;refine⟨.set x6 un,?_⟩;have rs6:=(ũ.mono (k4.trans (kp5.trans k6))).set r6 i';refine LT.bind rs6 rh6 (go5 ds5[i2] (G5 hi5)) λb h7 H7 k7 rs7 rh7 q7=> ?_
     cases b with
     |true=>
      rw [S5 rfl] at q7 ⊢;exact LE.bind rs7 rh7 q7 λd8 v8 h8 H8 k8 rs8 rh8 r8 ⟨h9,sb,w9⟩=>⟨n2-(i2+1),by omega,rfl,kp5.trans (k6.trans (k7.trans k8)),yd5++ [d8],h9,(ry5.mono (k6.trans (k7.trans k8))).append (.cons r8 .nil),rh8.sub sb,w9⟩
     |false=>
      rw [R9 D2] at q7 ⊢;obtain⟨h9,sb,w9⟩:=q7;exact⟨n2-(i2+1),by omega,rfl,kp5.trans (k6.trans k7),yd5,h9,ry5.mono (k6.trans k7),rh7.sub sb,w9⟩
    ·obtain⟨h9,sb,w9⟩:=X1m (bG.mp hi5);exact .inl ⟨jo5.2 (bG.mp hi5),n-(i+1),by omega,rfl,kk5,yd5,h9,ry5,rh5.sub sb,w9⟩
   |false=>
    rw [R9 D2] at q3 ⊢;obtain⟨h5,sb,w5⟩:=q3;exact⟨n-(i+1),by omega,rfl,kp.trans (k2.trans k3),yd,h5,ry.mono (k2.trans k3),đ.sub sb,w5⟩
  ·refine .inl ⟨jo'.2 (bG.mp hi),λa ha=>p (.lst a) (.ref a) _ _ (kk.trans (.new ha)) (ì.newL ha ry) ⟨rfl,ys,jh⟩ (stop (bG.mp hi) a (ì.free ha))⟩
section
variable {X:Cx}{iter ë elt:S2}{te:TED}{ti ŵ:TID}{tt Ι:TTD}{pos:Pos}{scope:A2}{js:G0 P0}{ifs Ħ:G0 S2}
def KW {i i':P0}{x y:Str}{p py:Pos}(hc:X.calm=xb)(S:Ñ X scope js)(hi:QI X (.Name x p) iter ti)(hj:i∈js)(hj':i'∈js)(hne:i≠i')(hN:X.N.Nodup)(hx:X.N[i]? =zq x)(hy:X.N[i']? =zq y)
 (hl:scope.names.lookup x=zq .local\/scope.names.lookup x=zq .cell)(hl':scope.names.lookup y=zq .local\/scope.names.lookup y=zq .cell)
 (ht: ∀X',jj X scope X'->ģ X' ifs (LT X'.K tt))(hi': ∀X',jj X scope X'->QI X' (.Name y py) ë ŵ)(ht': ∀X',jj X scope X'->ģ X' Ħ (LT X'.K Ι))(he: ∀X',jj X scope X'->QE X' elt te)
 (hs: ∀x,T5 iter X.env x=pure x:=by intro _;rfl)(hs': ∀env x,T5 ë env x=pure x:=by intro _ _;rfl):
 QE X (.ListComp elt [⟨.Name x p,iter,ifs,0⟩,⟨.Name y py,ë,Ħ,0⟩] scope pos) (Oj (bN i) js ti tt i' ŵ Ι te):=
 (show PE X _ (SU js (LI X.K ti) (wR i) (LT X.K tt) (LI X.K ŵ) (wR i') (LT X.K Ι) (LE X.K te)) from Ai hc S hi (λX' hX=>by obtain⟨C,s₀,H₀,ex,rfl⟩:=hX;exact wt hN hx hl) (λX' hX=>by have:=ht X' hX;obtain⟨C,s₀,H₀,ex,rfl⟩:=hX;exact this) (λX' hX=>by have:=hi' X' hX;obtain⟨C,s₀,H₀,ex,rfl⟩:=hX;exact this)
  (λX' hX=>by obtain⟨C,s₀,H₀,ex,rfl⟩:=hX;exact wt hN hy hl') (λX' hX=>by have:=ht' X' hX;obtain⟨C,s₀,H₀,ex,rfl⟩:=hX;exact this)
  (λX' hX=>by have:=he X' hX;obtain⟨C,s₀,H₀,ex,rfl⟩:=hX;exact this) hs hs').imp (AK (AJ hj hj' hne))
end
def MZ:RD2:=λx y h Q=>match x,y with
 | .int i,.int j=>Q (.int (i+j)) h
 | .tup a,.tup b=>a.length+b.length<=xh/\Q (.tup (a++b)) h
 | .lst a,.lst b=> ∃xs ys,h a=zq xs/\h b=zq ys/\xs.length+ys.length<=xh/\ ∀p,h p=xa->Q (.lst p) (wd h p (xs++ys))
 |_,_=>False
def HR:RD2:=λx y h Q=>match x,y with
 | .int i,.int j=>Q (.int (i-j)) h
 |_,_=>False
def HS:RD2:=λx y h Q=>match x,y with
 | .int i,.int j=>X0H i j/\Q (.int (i*j)) h
 | .lst a,.int k=> ∃xs,h a=zq xs/\ -(2^63)<=k/\k<2^63/\xs.length*k.toNat<=xh/\ ∀p,h p=xa->Q (.lst p) (wd h p (M8 k.toNat xs).flatten)
 |_,_=>False
def HU:RD2:=λx y h Q=>match x,y with
 | .int i,.int j=>0<j/\Q (.int (i%j)) h
 |_,_=>False
def To:RD2:=λx y h Q=>match x,y with
 | .int i,.int j=>Sf i j/\Q (.int (i / j)) h
 |_,_=>False
def HV:RD2:=λx y h Q=>match x,y with
 | .int i,.int j=>HH i j/\Q (.int (i^j.toNat)) h
 |_,_=>False
def BR (p:P4->P4->N3):RD2:=λx y h Q=>match x,y with
 | .int i,.int j=>Q (.bl (p i j)) h
 |_,_=>False
def eqD:RD2:=λx y h Q=>match x,y with
 | .int i,.int j=>Q (.bl (decide (i=j))) h
 | .bl i,.bl j=>Q (.bl (decide (i=j))) h
 | .str i,.str j=>Q (.bl (decide (i=j))) h
 |_,_=>False
def neD:RD2:=λx y h Q=>match x,y with
 | .int i,.int j=>Q (.bl (!decide (i=j))) h
 | .bl i,.bl j=>Q (.bl (!decide (i=j))) h
 | .str i,.str j=>Q (.bl (!decide (i=j))) h
 |_,_=>False
section
variable {X:Cx}
def Vd {f:G1->G1->Sem G1}{C:P4->P4->Prop}{g:P4->P4->V}{gd:P4->P4->D}{r:RD2}(ho:Ĉ X f (rI C g))(hg: ∀i j H,É X.K H (gd i j) (g i j))
 (hr: ∀x y h Q,r x y h Q-> ∃i j,x= .int i/\y= .int j/\C i j/\Q (gd i j) h):û X f r:=ho.imp λx y H Q ⟨dx,dy,h,Qd,rx,ry,rh,q,p⟩=>by
 obtain⟨i,j,e1,e2,c,q'⟩:=hr dx dy h Qd q;subst e1 e2;exact⟨i,j,rx,ry,c,p _ _ _ _ (.refl H) rh (hg i j H) q'⟩
def Jm {f:G1->G1->Sem G1}{g:P4->P4->V}{gd:P4->P4->D}{r:RD2}(ho:Ĉ X f (rI0 g))(hg: ∀i j H,É X.K H (gd i j) (g i j))
 (hr: ∀x y h Q,r x y h Q-> ∃i j,x= .int i/\y= .int j/\Q (gd i j) h):û X f r:=ho.imp λx y H Q ⟨dx,dy,h,Qd,rx,ry,rh,q,p⟩=>by
 obtain⟨i,j,e1,e2,q'⟩:=hr dx dy h Qd q;subst e1 e2;exact⟨i,j,rx,ry,p _ _ _ _ (.refl H) rh (hg i j H) q'⟩
def Ut:û X (K6 .Sub) HR:=Jm (gd:=λi j=> .int (i-j)) OR (λ_ _ _=>rfl) λx y h Q q=>by
 cases x<;>first|exact xn q|(cases y<;>first|exact xn q|exact⟨_,_,rfl,rfl,q⟩)
def vH:û X (K6 .Mod) HU:=Vd (gd:=λi j=> .int (i%j)) OS (λ_ _ _=>rfl) λx y h Q q=>by
 cases x<;>first|exact xn q|(cases y<;>first|exact xn q|exact⟨_,_,rfl,rfl,q.1,q.2⟩)
def FA:û X (K6 .FloorDiv) To:=Vd (gd:=λi j=> .int (i / j)) CA (λ_ _ _=>rfl) λx y h Q q=>by
 cases x<;>first|exact xn q|(cases y<;>first|exact xn q|exact⟨_,_,rfl,rfl,q.1,q.2⟩)
def BS:û X (K6 .Pow) HV:=Vd (gd:=λi j=> .int (i^j.toNat)) OT (λ_ _ _=>rfl) λx y h Q q=>by
 cases x<;>first|exact xn q|(cases y<;>first|exact xn q|exact⟨_,_,rfl,rfl,q.1,q.2⟩)
def Ve {p:P4->P4->N3}: ∀x y h Q,BR p x y h Q-> ∃i j,x= .int i/\y= .int j/\Q (.bl (p i j)) h:=λx y h Q q=>by
 cases x<;>first|exact xn q|(cases y<;>first|exact xn q|exact⟨_,_,rfl,rfl,q⟩)
def AL:û X (B8 .Lt) (BR λi j=>decide (i<j)):=Jm (gd:=λi j=> .bl (decide (i<j))) SC (λ_ _ _=>rfl) Ve
def ZJ:û X (B8 .LtE) (BR λi j=>decide (i<=j)):=Jm (gd:=λi j=> .bl (decide (i<=j))) SE (λ_ _ _=>rfl) Ve
def FC:û X (B8 .Gt) (BR λi j=>decide (j<i)):=Jm (gd:=λi j=> .bl (decide (j<i))) SG (λ_ _ _=>rfl) Ve
def FD:û X (B8 .GtE) (BR λi j=>decide (j<=i)):=Jm (gd:=λi j=> .bl (decide (j<=i))) SH (λ_ _ _=>rfl) Ve
def Ol {α:Type}[DecidableEq α]{f:α->V}(hf: ∀a b,f a=f b->a=b)(a b:α):decide (f a=f b)=decide (a=b):=by
 by_cases h:a=b
 ·subst h;simp
 ·rw [S0 h,S0 (λe=>h (hf a b e))]
def Í:û X (B8 .Eq) eqD:=X09.imp λx y H Q ⟨dx,dy,h,Qd,rx,ry,rh,q,p⟩=>by
 cases dx<;>first|exact xn q|(cases dy<;>first|exact xn q|skip)
 all_goals first
  |(cases (show x= .int _ from rx);cases (show y= .int _ from ry);refine⟨rfl,p _ _ _ _ (.refl H) rh ?_ q⟩;rw [Ol (f:=V.int) (λa b e=>by cases e;rfl)];rfl)
  |(cases (show x= .bl _ from rx);cases (show y= .bl _ from ry);refine⟨rfl,p _ _ _ _ (.refl H) rh ?_ q⟩;rw [Ol (f:=V.bl) (λa b e=>by cases e;rfl)];rfl)
  |(cases (show x= .str _ from rx);cases (show y= .str _ from ry);refine⟨rfl,p _ _ _ _ (.refl H) rh ?_ q⟩;rw [Ol (f:=V.str) (λa b e=>by cases e;rfl)];rfl)
def Ě:û X (B8 .NotEq) neD:=X1a.imp λx y H Q ⟨dx,dy,h,Qd,rx,ry,rh,q,p⟩=>by
 cases dx<;>first|exact xn q|(cases dy<;>first|exact xn q|skip)
 all_goals first
  |(cases (show x= .int _ from rx);cases (show y= .int _ from ry);refine⟨rfl,p _ _ _ _ (.refl H) rh ?_ q⟩;rw [Ol (f:=V.int) (λa b e=>by cases e;rfl)];rfl)
  |(cases (show x= .bl _ from rx);cases (show y= .bl _ from ry);refine⟨rfl,p _ _ _ _ (.refl H) rh ?_ q⟩;rw [Ol (f:=V.bl) (λa b e=>by cases e;rfl)];rfl)
  |(cases (show x= .str _ from rx);cases (show y= .str _ from ry);refine⟨rfl,p _ _ _ _ (.refl H) rh ?_ q⟩;rw [Ol (f:=V.str) (λa b e=>by cases e;rfl)];rfl)
def AM (K:G3):R2:=λx y H Q=> ∃a b xs ys,x= .ref a/\y= .ref b/\ĉ K H a xs/\ĉ K H b ys/\xs= []/\Q (.ref b) H
def X0f:Ĉ X (K6 .Add) (AM X.K):=by
 intro À s σ H x y v u Q I rx ry h;obtain⟨a,b,xs,ys,rfl,rfl,ha,hb,hx,q⟩:=h;cases rx;cases ry;obtain⟨its,r1,p1,_⟩:=I.tuple ha;obtain⟨ĥ,r2,p2,_⟩:=I.tuple hb;have hv:its= []:=r1.nil_iff.mpr hx;obtain⟨⟨cls,dd,data,sl⟩,ho,hc,n,hd⟩:=id p1;obtain⟨⟨X1c,η,G0N,θ⟩,ho2,hc2,n2,hd2⟩:=id p2;simp only at hc hd hc2 hd2;subst hc hd hc2 hd2;exact qO ⟨_,ho,rfl⟩ ⟨_,ho2,rfl⟩ mE pE eJ dS (cW _ _)
  (tuple_addW0 a b its.toArray ĥ.toArray n n2 dd η sl θ (by simp [hv])) ⟨ho,ho2,.ref b,H,I,rfl,q⟩
def jW:û X (K6 .Add) MZ:=(X0I.or (X0t.or (X0f.or Ac))).imp λx y H Q ⟨dx,dy,h,Qd,rx,ry,rh,q,p⟩=>by
 cases dx<;>first|exact xn q|(cases dy<;>first|exact xn q|skip)
 ·exact .inl ⟨_,_,rx,ry,p (.int _) _ _ _ (.refl H) rh rfl q⟩
 ·rename_i ds es;obtain⟨a,vs,e1,h1,r1⟩:=(show ∃a vs,x= .ref a/\H a=zq (.tup vs)/\Á X.K H ds vs from rx);obtain⟨b,us,e2,h2,r2⟩:=(show ∃a vs,y= .ref a/\H a=zq (.tup vs)/\Á X.K H es vs from ry);subst e1 e2;obtain⟨hz,q⟩:=q
  by_cases hv:vs= []
  ·subst hv;have e:ds= []:=aU.mp r1.length;subst e;exact .inr (.inr (.inl ⟨a,b,[],us,rfl,rfl,ĉ.of h1,ĉ.of h2,rfl,p (.tup es) _ _ _ (.refl H) rh ⟨b,us,rfl,h2,r2⟩ q⟩))
  ·refine .inr (.inl ⟨a,b,vs,us,rfl,rfl,ĉ.of h1,ĉ.of h2,hv,by rw [<-r1.length,<-r2.length];exact hz,λe=> ?_,λ_ c hc=> ?_⟩)
   ·subst e;have e:es= []:=aU.mp r2.length;subst e;rw [A5] at q;exact p (.tup ds) _ _ _ (.refl H) rh ⟨a,vs,rfl,h1,r1⟩ q
   ·exact p (.tup (ds++es)) _ _ _ (.new hc) (rh.new hc) ⟨c,vs++us,rfl,jh,(r1.append r2).mono (.new hc)⟩ q
 ·rename_i a b;obtain⟨xs,ys,h1,h2,hz,q⟩:=q;obtain⟨vs,e1,r1⟩:=rh a xs h1;obtain⟨us,e2,r2⟩:=rh b ys h2;refine .inr (.inr (.inr ⟨a,b,vs,us,rx.1,ry.1,e1,e2,by rw [<-r1.length,<-r2.length];exact hz,λc hc=> ?_⟩));exact p (.lst c) _ _ _ (.new hc) (rh.newL hc (r1.append r2)) ⟨rfl,_,jh⟩ (q c (rh.free hc))
def Á.flat {K:G3}{H:Hp}{ds:G0 D}{vs:G0 V}(r:Á K H ds vs): ∀k:P0,Á K H (M8 k ds).flatten (M8 k vs).flatten
 |0=>by simp;exact .nil
 |k+1=>by rw [V2,V2,X3,X3];exact r.append (Á.flat r k)
def X0O:û X (K6 .Mult) HS:=(X0J.or Ad).imp λx y H Q ⟨dx,dy,h,Qd,rx,ry,rh,q,p⟩=>by
 cases dx<;>first|exact xn q|(cases dy<;>first|exact xn q|skip)
 ·exact .inl ⟨_,_,rx,ry,q.1,p (.int _) _ _ _ (.refl H) rh rfl q.2⟩
 ·obtain⟨xs,h1,b1,b2,hz,q⟩:=q;obtain⟨vs,e1,r1⟩:=rh _ xs h1;refine .inr ⟨_,_,vs,rx.1,ry,e1,b1,b2,by rw [<-r1.length];exact hz,λc hc=> ?_⟩;exact p (.lst c) _ _ _ (.new hc) (rh.newL hc (r1.flat _)) ⟨rfl,_,jh⟩ (q c (rh.free hc))
end
def ixD:RD2:=λx y h Q=>match x,y with
 | .tup ds,.int i=> ∃d,ĕ ds i=zq d/\Q d h
 | .lst a,.int i=> ∃ds d,h a=zq ds/\ĕ ds i=zq d/\Q d h
 | .scr ns,.int i=> ∃n,ĕ ns i=zq n/\Q (.int n) h
 |_,_=>False
def DF {vs:G0 V}(r:Á K H ds vs){i:P4}{d:D}(e:ĕ ds i=zq d): ∃v,ĕ vs i=zq v/\É K H d v:=by
 unfold ĕ at e ⊢;rw [<-r.length];cases q:Ρ ds.length i with
 |none=>rw [q] at e;cases e
 |some j=>rw [q] at e;exact r.get e
def FE {β:Type}(f:α->β){xs:G0 α}{i:P4}{x:α}(e:ĕ xs i=zq x):ĕ (xs.map f) i=zq (f x):=by
 unfold ĕ at e ⊢;rw [G6];cases q:Ρ xs.length i with
 |none=>rw [q] at e;cases e
 |some j=>
  rw [q] at e;show (xs.map f)[j]? =_;rw [D1,(show xs[j]? =zq x from e)];rfl
section
variable {X:Cx}{a b e:S2}{ta tb te:TED}{pos p2:Pos}
def Tp: ∀σ H Q,LE X.K (Ġ ixD ta tb) σ H Q->tOp (rIx X.K) (LE X.K ta) (LE X.K tb) σ H Q:=λσ H Q ⟨Ä,h,Qd,rs,rh,t,p⟩=>
 LE.bind rs rh t λdx x h1 H1 k1 Ý Î r1 t1=>LE.bind Ý Î t1 λdy y h2 H2 k2 İ ð ry q=>by
  have rx:=r1.mono k2;have kk:=k1.trans k2;cases dx<;>first|exact xn q|(cases dy<;>first|exact xn q|skip)
  ·rename_i ds i;obtain⟨d,e,q⟩:=q;obtain⟨a,vs,e1,hH,r⟩:=(show ∃a vs,x= .ref a/\H2 a=zq (.tup vs)/\Á X.K H2 ds vs from rx);obtain⟨v,e2,rv⟩:=DF r e;exact .inr (.inl ⟨a,vs,i,v,e1,ry,ĉ.of hH,e2,p _ _ _ _ kk ð rv q⟩)
  ·rename_i a i;obtain⟨ds,d,hd,e,q⟩:=q;obtain⟨vs,hH,r⟩:=ð a ds hd;obtain⟨v,e2,rv⟩:=DF r e;exact .inl ⟨a,vs,i,v,rx.1,ry,õ.of hH,e2,p _ _ _ _ kk ð rv q⟩
  ·rename_i ns i;obtain⟨n,e,q⟩:=q;obtain⟨a,e1,hS⟩:=(show ∃a,x= .ref a/\Scr X.K H2 a ns from rx);exact .inl ⟨a,_,i,.int n,e1,ry,hS.sq,FE V.int e,p (.int n) _ _ _ kk ð rfl q⟩
def qix (ha:QE X a ta)(hb:QE X b tb)(hs:YZ b):QE X (.Subscript a b pos) (Ġ ixD ta tb):=(SL Aa ha hb hs).imp Tp
end
def Om:RDn:=λds h Q=>match ds with
 | [.tup xs]=>Q (.int xs.length) h
 | [.lst a]=> ∃xs,h a=zq xs/\Q (.int xs.length) h
 | [.scr ns]=>Q (.int ns.length) h
 |_=>False
def Tq:RDn:=λds h Q=>match ds with
 | [.int i]=>Q (.int i) h
 | [.bl k]=>Q (.int (if k then 1 else 0)) h
 |_=>False
def Tr:RDn:=λds h Q=>match ds with
 | [.int i,.int j]=>Q (.int (if j>i then j else i)) h
 |_=>False
def DG:RDn:=λds h Q=>match ds with
 | [.int i,.int j]=>Sf i j/\Q (.tup [.int (i / j),.int (i%j)]) h
 |_=>False
def DH:RDn:=λds h Q=>match ds with
 | [.tup xs]=>Q (.tup xs) h
 | [.lst a]=> ∃xs,h a=zq xs/\Q (.tup xs) h
 |_=>False
def QU:RDn:=λds h Q=>match ds with
 | [.lst a]=> ∃xs,h a=zq xs/\Q (.tup xs) (Uq h a)
 |_=>False
section
variable {X:Cx}
def AN:vP X (.builtin "len") Om:=Š.imp λxs H Q ⟨ds,h,Qd,r,rh,q,p⟩=>by
 unfold Om at q;split at q
 ·rename_i es;obtain⟨v,e,r1⟩:=jS r;obtain⟨a,vs,e1,hH,r2⟩:=(show ∃a vs,v= .ref a/\H a=zq (.tup vs)/\Á X.K H es vs from r1);subst e e1;exact⟨a,vs,rfl,.inr (ĉ.of hH),by rw [<-r2.length];exact p (.int _) _ _ _ (.refl H) rh rfl q⟩
 ·rename_i a;obtain⟨es,hd,q⟩:=q;obtain⟨v,e,r1⟩:=jS r;obtain⟨vs,hH,r2⟩:=rh a es hd;have e1:v= .ref a:=r1.1;subst e e1;exact⟨a,vs,rfl,.inl (õ.of hH),by rw [<-r2.length];exact p (.int _) _ _ _ (.refl H) rh rfl q⟩
 ·rename_i ns;obtain⟨v,e,r1⟩:=jS r;obtain⟨a,e1,hS⟩:=(show ∃a,v= .ref a/\Scr X.K H a ns from r1);subst e e1;exact⟨a,_,rfl,.inl hS.sq,by rw [G6];exact p (.int _) _ _ _ (.refl H) rh rfl q⟩
 ·exact q.elim
def DI:vP X (.type "int") Tq:=X0a.imp λxs H Q ⟨ds,h,Qd,r,rh,q,p⟩=>by
 unfold Tq at q;split at q
 ·rename_i i;obtain⟨v,e,r1⟩:=jS r;cases (show v= .int i from r1);exact .inl ⟨i,e,p (.int i) _ _ _ (.refl H) rh rfl q⟩
 ·rename_i k;obtain⟨v,e,r1⟩:=jS r;cases (show v= .bl k from r1);exact .inr ⟨k,e,p (.int _) _ _ _ (.refl H) rh rfl q⟩
 ·exact q.elim
def AO (hc:X.calm=xb):vP X (.builtin "max") Tr:=(Db hc).imp λxs H Q ⟨ds,h,Qd,r,rh,q,p⟩=>by
 unfold Tr at q;split at q
 ·rename_i i j;obtain⟨v,w,e,r1,r2⟩:=yO r;cases (show v= .int i from r1);cases (show w= .int j from r2);exact⟨i,j,e,p (.int _) _ _ _ (.refl H) rh rfl q⟩
 ·exact q.elim
def DJ:vP X (.builtin "divmod") DG:=ű.imp λxs H Q ⟨ds,h,Qd,r,rh,q,p⟩=>by
 unfold DG at q;split at q
 ·rename_i i j;obtain⟨c,q⟩:=q;obtain⟨v,w,e,r1,r2⟩:=yO r;cases (show v= .int i from r1);cases (show w= .int j from r2);exact⟨i,j,e,c,λa ha=>p (.tup [.int (i / j),.int (i%j)]) _ _ _ (.new ha) (rh.new ha) ⟨a,_,rfl,jh,.cons rfl (.cons rfl .nil)⟩ q⟩
 ·exact q.elim
def ò:vP X (.type "tuple") DH:=Ŕ.imp λxs H Q ⟨ds,h,Qd,r,rh,q,p⟩=>by
 unfold DH at q;split at q
 ·rename_i es;obtain⟨v,e,r1⟩:=jS r;obtain⟨a,vs,e1,hH,r2⟩:=(show ∃a vs,v= .ref a/\H a=zq (.tup vs)/\Á X.K H es vs from r1);subst e e1;exact⟨a,vs,rfl,.inr ⟨ĉ.of hH,p (.tup es) _ _ _ (.refl H) rh ⟨a,vs,rfl,hH,r2⟩ q⟩⟩
 ·rename_i a;obtain⟨es,hd,q⟩:=q;obtain⟨v,e,r1⟩:=jS r;obtain⟨vs,hH,r2⟩:=rh a es hd;have e1:v= .ref a:=r1.1;subst e e1;exact⟨a,vs,rfl,.inl ⟨õ.of hH,λc hc=>p (.tup es) _ _ _ (.new hc) (rh.new hc) ⟨c,vs,rfl,jh,r2.mono (.new hc)⟩ q⟩⟩
 ·exact q.elim
def wF:vP X (.type "tuple") QU:=ò.imp λxs H Q ⟨ds,h,Qd,r,rh,q,p⟩=>by
 unfold QU at q;split at q
 ·rename_i a;obtain⟨es,hd,q⟩:=q;exact⟨[.lst a],h,λd h'=>Qd d (Uq h' a),r,rh,⟨es,hd,q⟩,λd v h' H' k ì rd q'=>p d v _ H' k (ì.sub (Sub.drop h' a)) rd q'⟩
 ·exact q.elim
end
def YC:D->P1 F7
 | .non=>zq "NoneType" | .bl _=>zq "bool" | .int _=>zq "int" | .str _=>zq "str" | .tup _=>zq "tuple" | .lst _=>zq "list" | .dic _ _=>zq "dict" | .dct _=>xa| .scr _=>xa| .exc _=>xa| .fn _=>xa| .exf _ _=>xa
def On (T:F7)(n:F7):N3:=n==T||(T== "int" &&n== "bool")
def Na {d:D}{v:V}{n:F7}(r:É K H d v)(e:YC d=zq n):ġ K H v (.type n):=by
 cases d with
 |non=>cases (show v= .non from r);cases e;exact .non
 |bl b=>cases (show v= .bl b from r);cases e;exact .bl b
 |int i=>cases (show v= .int i from r);cases e;exact .int i
 |str x=>cases (show v= .str x from r);cases e;exact .str x
 |tup ds=>
  obtain⟨a,vs,e1,hH,_⟩:=(show ∃a vs,v= .ref a/\H a=zq (.tup vs)/\Á K H ds vs from r);subst e1;cases e;exact .tup hH
 |lst a=>
  obtain⟨e1,vs,hH⟩:=(show v= .ref a/\ ∃vs,H a=zq (.lst vs) from r);subst e1;cases e;exact .lst hH
 |dic x i=>
  obtain⟨a,e1,hH⟩:=(show ∃a,v= .ref a/\H a=zq (.dK [(cH x,V.int i)]) from r);subst e1;cases e;exact .dK hH
 |dct a=>cases e
 |scr ns=>cases e
 |exc C=>cases e
 |fn a=>cases e
 |exf C fs=>cases e
def FF:G0 F7:= ["NoneType","bool","int","str","tuple","list","dict"]
def GH {d:D}{n:F7}(e:YC d=zq n):n∈FF:=by
 cases d<;>cases e<;>decide
def Tt (K:G3):Prop:= ∀n∈FF,∀T∈ ["tuple","int","bool","list","str"],iQ K (.type n) (.type T)=zq (On T n)
def FG (K:G3):Tt K:=by
 intro n hn T hT;simp only [FF,R5,F9,or_false] at hn hT;rcases hn with rfl|rfl|rfl|rfl|rfl|rfl|rfl<;>rcases hT with rfl|rfl|rfl|rfl|rfl<;>with_unfolding_all rfl
def DK (T:F7):ê X (.builtin "isinstance") (λxs H Q=> ∃x t b,xs= [x,.ty T]/\ġ X.K H x t/\iQ X.K t (.type T)=zq b/\Q (.bl b) H):=by
 intro À s σ H xs us Q I r h;obtain⟨x,t,b,rfl,ty,e,q⟩:=h;obtain⟨u,w',rfl,rx,rt⟩:=Da r;cases (show w'=pN T from rt);exact De I rx ty e λtk=>⟨.bl b,H,I.tok tk,rfl,q⟩
def dIs (T:F7)(ta:TED):TED:=λσ h Q=>ta σ h λx h1=> ∃n,YC x=zq n/\Q (.bl (On T n)) h1
def Tu {a:S2}{ta:TED}{T:F7}{t:Str}{p p2:Pos}(hT:T∈ ["tuple","int","bool","list","str"])(hg:Gl X "isinstance")(hm:X.mg "isinstance" =xa)(hg2:Gl X t)(hm2:X.mg t=xa)(hv:Q5 t=zq (.type T))(ha:QE X a ta)
 (hn:t≠ "__name__" :=by decide)(hd:(t==("__debug__" :Str))=xf:=by decide)
 (h1:P9 [a,.Name t p2] X.env=(xf,L7 a X.env)::P9 [.Name t p2] X.env:=by rfl)(h2:(E3 pos (P9 [.Name t p2] X.env)).any (·.1)=xf:=by rfl):
 QE X (.Call (.Name "isinstance" p) [a,.Name t p2] [] pos) (dIs T ta):=
 (ZU (DK T) hg hm bJ (zS ha (zS (PM (v:= .ty T) hg2 hm2 hv rfl hn hd) Ą (by rfl)) h1) (by decide) (by decide) h1 h2).imp
  λσ H Q ⟨Ä,h,Qd,rs,rh,t,p⟩=>LE.bind rs rh t λd v h1 H1 k1 Ý Î r1 ⟨n,e,q⟩=>⟨v,.type n,On T n,rfl,Na r1 e,FG _ n (GH e) T hT,p (.bl _) _ _ _ k1 Î rfl q⟩
def DL (bs:G0 N3):(R6 bs.length).all (λi=>bs.getD i xf)=bs.all id:=by
 induction bs with
 |nil=>rfl
 |cons b bs ih=>
  rw [D8,mY,u3,cJ,u3];show (b&&_)=(b&&bs.all id);rw [<-ih];rfl
def DM (bs:G0 N3):(R6 bs.length).any (λi=>bs.getD i xf)=bs.any id:=by
 induction bs with
 |nil=>rfl
 |cons b bs ih=>
  rw [D8,mY,lU,qS,lU];show (b||_)=(b||bs.any id);rw [<-ih];rfl
def Uu {bs:G0 N3}{its:G0 G1}(r:Æ (bs.map V.bl) its){i:P0}{v:G1}(e:its[i]? =zq v):v= .bool (bs.getD i xf):=by
 have hl:=r.length;rw [G6] at hl;have hi:i<its.length:=(P8.mp e).1;have hb:(bs.map V.bl)[i]? =zq (.bl bs[i]):=by rw [D1,G5 (by omega)];rfl
 obtain⟨u,e1,r1⟩:=r.get hb;rw [e] at e1;cases e1;rw [T3,G5 (by omega)];exact r1
section
variable {X:Cx}
def Vf (hc:X.calm=xb):ê X (.builtin "all") (λxs H Q=> ∃ (a:G7) (bs:G0 N3),xs= [.ref a]/\õ X.K H a (bs.map V.bl)/\Q (.bl (bs.all id)) H):=by
 intro À s σ H xs us Q I r h;obtain⟨a,bs,rfl,hS,q⟩:=h;obtain⟨u,rfl,ru⟩:=Wb r;cases ru;obtain⟨its,rv,pl,hz⟩:=I.list hS;have hl:=pl.isList;have ν:a<s.heap.objs.size:=by obtain⟨_,e,_⟩:=hl;exact D7 e
 refine call_all_walk (bS hl ?_);refine⟨s.heap.objs.size,_,_,_,_,_,λi=>bs.getD i xf,rfl,Walks.list (A:=X.A.in1) (show X.A.in1.handled=xa from I.ok.hd hc) s.heap.objs.size a (M6 ν) its.toArray,⟨⟨_,S7 _ rfl,rfl,rfl⟩,hl.push _⟩,?_,λh' tk hk=> ?_⟩
 ·intro i v s' Q' E' hP hQ;have e:its[i]? =zq v:=by simpa using hP
  rw [Uu rv e];exact E8 hQ
 ·have hn:its.toArray.size=bs.length:=by rw [R4,<-rv.length,G6]
  rw [hn,DL];exact⟨.bl _,H,I.kept (t':=tk) (λb o e=>hk b o (λz=>by rw [P2.mp z] at e;exact xj (D7 e) (O7 _)) (G9 _ e)),rfl,q⟩
def Vg (hc:X.calm=xb):ê X (.builtin "any") (λxs H Q=> ∃ (a:G7) (bs:G0 N3),xs= [.ref a]/\õ X.K H a (bs.map V.bl)/\Q (.bl (bs.any id)) H):=by
 intro À s σ H xs us Q I r h;obtain⟨a,bs,rfl,hS,q⟩:=h;obtain⟨u,rfl,ru⟩:=Wb r;cases ru;obtain⟨its,rv,pl,hz⟩:=I.list hS;have hl:=pl.isList;have ν:a<s.heap.objs.size:=by obtain⟨_,e,_⟩:=hl;exact D7 e
 refine call_any_walk (bS hl ?_);refine⟨s.heap.objs.size,_,_,_,_,_,λi=>bs.getD i xf,rfl,Walks.list (A:=X.A.in1) (show X.A.in1.handled=xa from I.ok.hd hc) s.heap.objs.size a (M6 ν) its.toArray,⟨⟨_,S7 _ rfl,rfl,rfl⟩,hl.push _⟩,?_,λh' tk hk=> ?_⟩
 ·intro i v s' Q' E' hP hQ;have e:its[i]? =zq v:=by simpa using hP
  rw [Uu rv e];exact E8 hQ
 ·have hn:its.toArray.size=bs.length:=by rw [R4,<-rv.length,G6]
  rw [hn,DM];exact⟨.bl _,H,I.kept (t':=tk) (λb o e=>hk b o (λz=>by rw [P2.mp z] at e;exact xj (D7 e) (O7 _)) (G9 _ e)),rfl,q⟩
theorem vQ {K:G3}{H:Hp}: ∀ {bs:G0 N3} {vs:G0 V},Á K H (bs.map D.bl) vs->vs=bs.map V.bl
 | [],_,h=>h
 |b::bs,vs,h=>by
  obtain⟨v,r,e,h1,h2⟩:=(show ∃v r,vs=v::r/\É K H (.bl b) v/\Á K H (bs.map D.bl) r from h);rw [e,vQ h2,(show v= .bl b from h1)];rfl
def AQ:RDn:=λds h Q=> ∃ (a:G7) (bs:G0 N3),ds= [.lst a]/\h a=zq (bs.map D.bl)/\Q (.bl (bs.all id)) (Uq h a)
def Tv:RDn:=λds h Q=> ∃ (a:G7) (bs:G0 N3),ds= [.lst a]/\h a=zq (bs.map D.bl)/\Q (.bl (bs.any id)) (Uq h a)
def Uv (hc:X.calm=xb):vP X (.builtin "all") AQ:=(Vf hc).imp λxs H Q ⟨ds,h,Qd,r,rh,⟨a,bs,e,hd,q⟩,p⟩=>by
 subst e;obtain⟨v,e,r1⟩:=jS r;obtain⟨vs,hH,r2⟩:=rh a _ hd;have e1:v= .ref a:=r1.1;rw [vQ r2] at hH;subst e e1;exact⟨a,bs,rfl,õ.of hH,p (.bl _) _ _ _ (.refl H) (rh.sub (Sub.drop h a)) rfl q⟩
def BT (hc:X.calm=xb):vP X (.builtin "any") Tv:=(Vg hc).imp λxs H Q ⟨ds,h,Qd,r,rh,⟨a,bs,e,hd,q⟩,p⟩=>by
 subst e;obtain⟨v,e,r1⟩:=jS r;obtain⟨vs,hH,r2⟩:=rh a _ hd;have e1:v= .ref a:=r1.1;rw [vQ r2] at hH;subst e e1;exact⟨a,bs,rfl,õ.of hH,p (.bl _) _ _ _ (.refl H) (rh.sub (Sub.drop h a)) rfl q⟩
end
def HW (to:TED)(te:TED):TED:=λσ h Q=>to σ h λx h1=> ∃a,x= .lst a/\te σ h1 λy h2=> ∃xs,h2 a=zq xs/\xs.length<xh/\Q .non (wd h2 a (xs++ [y]))
section
variable {X:Cx}{o e i:S2}{to te ti:TED}{apos Ë pos:Pos}
def KY (ho:QE X o to)(he:QE X e te)(hbase:K9 o "append" X.env (L7 o X.env)=L7 o X.env:=by rfl)
 (hfew:((E3 Ë (P9 [e] X.env)).all (λx=> !x.1)&&(g7 Ë (aY [] X.env)).all (λx=>x.1.isSome)&&decide ([e].length+([]:G0 aI).length+(if ([]:G0 aI).isEmpty then 0 else 1)<30))=xb:=by rfl)
 (hline:(apos.endLine==Ë.line)=xb:=by rfl)(hs:P9 [e] X.env=(xf,L7 e X.env)::P9 [] X.env:=by rfl)(hplain:(E3 Ë (P9 [] X.env)).any (·.1)=xf:=by rfl):
 QE X (.Call (.Attribute o "append" apos) [e] [] Ë) (HW to te):=
 (Dl X4 u4 u5 Dm ho (zS he Ą hs) hbase hfew hline hs hplain).imp
  λσ H Q ⟨Ä,h,Qd,rs,rh,t,p⟩=>LE.bind rs rh t λd v h1 H1 k1 Ý Î r1 ⟨a,e,q⟩=>by
   subst e;obtain⟨e1,vs,hH⟩:=(show v= .ref a/\ ∃vs,H1 a=zq (.lst vs) from r1);subst e1;refine⟨.inl ⟨rfl,vs,õ.of hH⟩,?_⟩;refine LE.bind Ý Î q λy u h2 H2 k2 İ ð r2 ⟨xs,hx,hz,q2⟩=> ?_
   obtain⟨ws,hW,r3⟩:=ð a xs hx;refine⟨a,ws,u,rfl,rfl,hW,by rw [<-r3.length];exact hz,p .non _ _ _ (k1.trans (k2.trans (.put hW))) (ð.put hW (r3.append (.cons r2 .nil))) rfl q2⟩
def AR (to ti:TED):TGD:=λd σ h Q=>to σ h λo h1=>ti σ h1 λi h2=> ∃a k xs j,o= .lst a/\i= .int k/\h2 a=zq xs/\Ρ xs.length k=zq j/\Q σ (wd h2 a (xs.set j d))
def AS (ho:QE X o to)(hi:QE X i ti)
 (ha: ∀v,dF (.Subscript o i pos) X.env v=(do
  let ov <-Z6 [v] (L7 o X.env)
  let iv <-Z6 [v,ov] (L7 i X.env)
  cZ pos
  Z6 [v,ov,iv] (tO ov iv v)
  G0k [v,ov,iv] []):=by intro _;rfl):QG X (.Subscript o i pos) (AR to ti):=
 (OI ho hi MT ha).imp λv σ H Q ⟨d,Ä,h,Qd,r,rs,rh,q,p⟩=>
  LE.bind rs rh q λd1 v1 h1 H1 k1 Ý Î r1 q1=>LE.bind Ý Î q1 λd2 v2 h2 H2 k2 İ ð r2 ⟨a,k,xs,j,e1,e2,hx,hj,q2⟩=>by
   subst e1 e2;have e3:v1= .ref a:=(r1.mono k2).1;obtain⟨ws,hW,r3⟩:=ð a xs hx;refine⟨a,ws,k,j,e3,r2,hW,by rw [<-r3.length];exact hj,p _ _ _ _ (k1.trans (k2.trans (.put hW))) (İ.mono (.put hW)) (ð.put hW (Á.set ((r.mono k1).mono k2) j r3)) q2⟩
end
noncomputable def QV (N:G0 Str)(sc:G0 (Str×NameKind))(scope:A2)(js:G0 P0):N3:=
 scope.kind== .function&&scope.names.all (λp=>p.2 != .cell||scope.names.lookup p.1==zq .cell)&&scope.names.all (λp=>p.2 != .local||scope.names.lookup p.1==zq .local)&&
 scope.names.all (λp=>p.2 != .free||sc.lookup p.1==zq .cell||sc.lookup p.1==zq .free)&&
 (R6 N.length).all λi=>(scope.names.lookup (N.getD i xH) !=zq .local&&scope.names.lookup (N.getD i xH) !=zq .cell)||js.contains i
def zK (h:QV X.N X.env.scope.names scope js=xb):Ñ X scope js:=by
 unfold QV at h;simp only [B7] at h;obtain⟨⟨⟨⟨h1,h2⟩,h3⟩,h4⟩,h5⟩:=h;refine⟨eq_of_beq h1,λp hp e=> ?_,λp hp e=> ?_,λp hp e=> ?_,λi x e1 e2=> ?_⟩
 ·have:=H0.mp h3 p hp;rw [e] at this;simpa using this
 ·have:=H0.mp h2 p hp;rw [e] at this;simpa using this
 ·have:=H0.mp h4 p hp;rw [e] at this;simpa using this
 ·have hi:i<X.N.length:=(P8.mp e1).1;have:=H0.mp h5 i (O4.mpr hi);rw [T3,e1,cK] at this;rcases e2 with e2|e2<;>(rw [e2] at this;simpa using this)
def qpt {t:TTD}(h:QW X e t):QT X e t:=h.pt
def DN {te:TED}{σ:SD}{h1:HD}{Q:KD}{j:ItD}(f:D->D)(hz:ds.length<=xh)(hj:j h1=zq ds)
 (ht: ∀R:ItD->HD->Prop,R j h1->ti σ h R)(he: ∀d∈ds,∀Q':KD,Q' (f d) h1->te ((zg js σ).set i (zq d)) h1 Q')(hq: ∀p,h1 p=xa->Q (.lst p) (wd h1 p (ds.map f))):ZI (bN i) js ti JN te σ h Q:=by
 refine ht _ ⟨ds.length,λk ys h'=>h'=h1/\ys=(ds.take k).map f,⟨rfl,by simp⟩,?_⟩;rintro k ys h' ⟨rfl,rfl⟩;refine⟨by simp only [G6,S1];omega,ds,hj,P7 _,λhl p hp=> ?_,λd hd=>⟨_,rfl,?_⟩⟩
 ·rw [S3 hl];exact hq p hp
 ·unfold JN;dsimp only;rw [S5 rfl];refine he d (P5 hd) _ ⟨h',Sub.refl _,rfl,?_⟩;rw [L5,hd];simp
end L2
namespace HT
open PySem PySem.Spec PyProof.Rows
section
variable {prog:D5}{w:T8}{A:S4}{E:G1->G2->Prop}{s:G2}
def vR {t sl:G7}{items:T7 G1}{vl vu:G1}{lo hi:P1 P4}{Q:G1->G2->Prop}(ht:y3 s.heap t items)(hs:s.heap.IsSliceOf sl vl vu .none)(pl:mS vl lo)(pu:mS vu hi)
 (hw:sIx items.size 0 lo=0/\sIx items.size items.size hi=items.size)(h:Q (.ref t) s):D6 (R3 prog w) A (lH (.ref t) (.ref sl)) Q E s:=by
 obtain⟨os,hos,hcs,hds⟩:=id hs;have hTs:s.TypeIs (.ref sl) "slice" :=⟨os,hos,hcs⟩;unfold lH
 try with_reducible refine O8 ?_
 first|refine xg (G8 ?_)|skip
 refine xg (lI ht.typeIs (by decide) ?_);refine xg (O1 (name:=P6 "__getitem__") ht.typeIs V6
  (F8 V6 ht.typeIs o3 ?_ (pR _ _)))
 show D6 _ _ (Y8 (.ref t) >>= _) _ _ s;refine xg (uU ht ?_);refine xg (iI hTs ?_);rw [S5 (by decide)];refine xg (yF hs pl pu ?_);have X1S:((((sIx items.size 0 lo:P0):P4)==0&&(1:P4)==1&&(sIx items.size items.size hi-sIx items.size 0 lo)==items.size)=xb):=by
  rw [hw.1,hw.2];simp
 show D6 _ _ (if (((sIx items.size 0 lo:P0):P4)==0&&(1:P4)==1&&(sIx items.size items.size hi-sIx items.size 0 lo)==items.size)=xb then _ else _) _ _ s;rw [S5 X1S];refine xg (m:=iY (.ref t)) ?_;unfold iY;refine xg (iI ht.typeIs (G8 ?_));rw [S5 (by decide)];exact xg (dH (G8 ⟨_,rfl,G8 h⟩))
end
end HT
namespace L2
open PySem PySem.Spec PyProof.Rows
def KZ (K:G3):V->P1 P4->P1 P4->Hp->VK->Prop:=λx lo hi H Q=> ∃a xs,x= .ref a/\ĉ K H a xs/\(HT.sIx xs.length 0 lo=0/\HT.sIx xs.length xs.length hi=xs.length)/\Q (.ref a) H
variable {X:Cx}
def X0g:SlR X (KZ X.K):=by
 intro À s σ H x v vl vu lo hi sl Q I rx hs pl pu h;obtain⟨a,xs,rfl,hx,hw,q⟩:=h;cases rx;obtain⟨its,r,ht,hz⟩:=I.tuple hx;have hlen:its.toArray.size=xs.length:=by rw [R4];exact r.length.symm
 refine⟨"tuple",_,PyProof.Rows.slot_tuple_getitem.lookup,ht.typeIs,?_⟩;exact HT.vR ht hs pl pu (by rw [hlen];exact hw) ⟨.ref a,H,I,rfl,q⟩
def ZK {α:Type}(xs:G0 α)(lo hi:P1 P4):G0 α:=(xs.drop (HT.sIx xs.length 0 lo)).take (HT.sIx xs.length xs.length hi-HT.sIx xs.length 0 lo)
abbrev TOD:=SD->HD->(P1 P4->HD->Prop)->Prop
def yP:TOD:=λ_ h Q=>Q xa h
def Uw (t:TED):TOD:=λσ h Q=>t σ h λx h1=> ∃i,x= .int i/\Q (zq i) h1
def LO (K:G3)(t:TOD):TO:=λσ H Q=> ∃Ä h Qd,Ò K H Ä σ/\Å K h H/\t Ä h Qd/\ ∀o h' H',Kept H H'->Å K h' H'->Qd o h'->Q o H'
def LO.bind {K:G3}{ta:TOD}{σ:St}{H:Hp}{Ä:SD}{h:HD}{kd:P1 P4->HD->Prop}{k:P1 P4->Hp->Prop}(rs:Ò K H Ä σ)(rh:Å K h H)(t:ta Ä h kd)(f: ∀o h' H',Kept H H'->Ò K H' Ä σ->Å K h' H'->kd o h'->k o H'):LO K ta σ H k:=
 ⟨Ä,h,kd,rs,rh,t,λo h' H' kp r1 q=>f o h' H' kp (rs.mono kp) r1 q⟩
def PO.imp {e:P1 S2}{t t':TO}(h:PO X e t)(i: ∀σ H Q,t' σ H Q->t σ H Q):PO X e t':=λÀ s σ H Q I q=>h À s σ H Q I (i σ H Q q)
abbrev QO (X:Cx)(e:P1 S2)(t:TOD):Prop:=PO X e (LO X.K t)
def FH:QO X xa yP:=X0s.imp λσ H Q ⟨Ä,h,Qd,rs,rh,q,p⟩=>p xa h H (.refl H) rh q
def FI {e:S2}{te:TED}(he:QE X e te):QO X (zq e) (Uw te):=(CM he).imp λσ H Q ⟨Ä,h,Qd,rs,rh,q,p⟩=>
 LE.bind rs rh q λd v h1 H1 k1 Ý Î r1 ⟨i,e,q1⟩=>by subst e;exact⟨i,r1,p _ _ _ k1 Î q1⟩
def slD:D->P1 P4->P1 P4->HD->KD->Prop:=λx lo hi h Q=>match x with
 | .tup ds=>Q (.tup (ZK ds lo hi)) h
 | .scr ns=> ∀p,h p=xa->Q (.lst p) (wd h p ((ZK ns lo hi).map D.int))
 | .lst a=> ∃ds,h a=zq ds/\ ∀p,h p=xa->Q (.lst p) (wd h p (ZK ds lo hi))
 |_=>False
def dSl (te:TED)(tl th:TOD):TED:=λσ h Q=>te σ h λx h1=>tl σ h1 λl h2=>th σ h2 λu h3=>slD x l u h3 Q
def Vh {K:G3}{H:Hp}{ds:G0 D}{vs:G0 V}(r:Á K H ds vs)(lo hi:P1 P4):Á K H (ZK ds lo hi) (MC vs lo hi):=by
 unfold ZK MC;rw [r.length];exact(r.drop _).take _
def FJ {α β:Type}(f:α->β)(xs:G0 α)(lo hi:P1 P4):ZK (xs.map f) lo hi=(ZK xs lo hi).map f:=by
 unfold ZK;rw [G6,cX,pH]
def AT {e:S2}{te:TED}{lo hi:P1 S2}{tl th:TOD}{pos p2:Pos}(he:QE X e te)(hl:QO X lo tl)(hu:QO X hi th):QE X (.Subscript e (.Slice lo hi xa p2) pos) (dSl te tl th):=
 (MS (X0K.or (X0g.or CO)) he hl hu).imp λσ H Q ⟨Ä,h,Qd,rs,rh,q,p⟩=>
  LE.bind rs rh q λd v h1 H1 k1 Ý Î r1 q1=>LO.bind Ý Î q1 λl h2 H2 k2 İ ð q2=>LO.bind İ ð q2 λu h3 H3 k3 ũ đ q3=>by
   have rv:=(r1.mono k2).mono k3;have kk:=k1.trans (k2.trans k3);cases d<;>first
    |exact xn q3
    |skip
   ·rename_i ds;obtain⟨a,vs,e1,hH,r⟩:=(show ∃a vs,v= .ref a/\H3 a=zq (.tup vs)/\Á X.K H3 ds vs from rv)
    by_cases hw:HT.sIx vs.length 0 l=0/\HT.sIx vs.length vs.length u=vs.length
    ·refine .inr (.inl ⟨a,vs,e1,ĉ.of hH,hw,p (.tup (ZK ds l u)) _ _ _ kk đ ⟨a,vs,rfl,hH,?_⟩ q3⟩);have z:=Vh r l u;have e:MC vs l u=vs:=by unfold MC;rw [hw.1,hw.2];simp
     rwa [e] at z
    ·exact .inl ⟨a,vs,e1,ĉ.of hH,hw,λc hc=>p (.tup (ZK ds l u)) _ _ _ (kk.trans (.new hc)) (đ.new hc) ⟨c,_,rfl,jh,(Vh r l u).mono (.new hc)⟩ q3⟩
   ·rename_i a;obtain⟨ds,hd,q3⟩:=q3;obtain⟨vs,hH,r⟩:=đ a ds hd;exact .inr (.inr ⟨a,vs,rv.1,õ.of hH,λc hc=>p (.lst c) _ _ _ (kk.trans (.new hc)) (đ.newL hc (Vh r l u)) ⟨rfl,_,jh⟩ (q3 c (đ.free hc))⟩)
   ·rename_i ns;obtain⟨a,e1,hS⟩:=(show ∃a,v= .ref a/\Scr X.K H3 a ns from rv);refine .inr (.inr ⟨a,_,e1,hS.sq,λc hc=>p (.lst c) _ _ _ (kk.trans (.new hc)) (đ.newL hc ?_) ⟨rfl,_,jh⟩ (q3 c (đ.free hc))⟩);have z:=Vh (JL (K:=X.K) (H:=H3) ns) l u
    rwa [FJ] at z
end L2
namespace HT
open PySem PySem.Spec PyProof.Rows
open Sem (wp)
open Builtin
def ZL:fillsNumberSlot (.type "tuple") "mul" =pure xf:=
 PySem.fillsNumberSlot_seq (id:= "tuple.__mul__") (r:=zq (.builtin "tuple.__rmul__")) F.slot_tuple_mul.lookup (by decide +kernel) F.slot_tuple_rmul.lookup (by decide +kernel)
def Ux:G0c (.type "tuple")=pure (zq (.builtin "tuple.__mul__")):=by
 unfold G0c;rw [rT (T:= "tuple") (name:= "__mul__") (id:= "tuple.__mul__") F.slot_tuple_mul.lookup (by decide +kernel),rT (T:= "tuple") (name:= "__rmul__") (id:= "tuple.__rmul__") F.slot_tuple_rmul.lookup (by decide +kernel)];rfl
section
variable {prog:D5}{w:T8}{A:S4}{E:G1->G2->Prop}{s:G2}
def Vi {k:P4}{t:Tok}{l:G7}{o:Obj}{its:T7 G1}{n:P0}{P:iK->G2->Prop}(at_:s.heap.get? l=zq o)(tup:o.cls= .type "tuple")(dat:o.data= .seq its n)(h:P (.done (.ret .notImplemented)) s):D6 (R3 prog w) A (Builtin.«int.__rmul__» ⟨[.int k t,.ref l],[]⟩) P E s:=by
 obtain⟨c,dd,dt,sl⟩:=o;cases tup;cases dat;obtain⟨hp,g,d,tk,os⟩:=s
 wp_walk
 exact h
def XI {l:G7}{its:T7 G1}{n:P0}{x:P4}{u:Tok}{dd:P1 G7}{sl:T7 (P1 G1)}{P:iK->G2->Prop}(at_:s.heap.get? l=zq {cls:= .type "tuple",dict:=dd,data:= .seq its n,slots:=sl})(fits: -(2^63)<=x/\x<2^63)
 (same:(its.isEmpty||x==1)=xb->P (.done (.ret (.ref l))) s)
 (gone:(its.isEmpty||x==1)=xf->(decide (x<=0)||its.isEmpty)=xb->P (.done (.ret (.ref s.heap.objs.size))) {s with heap:=s.heap.push {cls:= .type "tuple",data:= .seq #[]}})
 (more:(its.isEmpty||x==1)=xf->(decide (x<=0)||its.isEmpty)=xf-> ¬ (its.size:P4)*x>(2^63-1) / 8/\iZ ((its.size:P4)*x)=xf/\((M8 x.toNat its).foldl (· ++ ·) #[]).size<=xh/\
  P (.done (.ret (.ref s.heap.objs.size))) {s with heap:=s.heap.push {cls:= .type "tuple",data:= .seq ((M8 x.toNat its).foldl (· ++ ·) #[])}}):
 D6 (R3 prog w) A (Builtin.«tuple.__mul__» ⟨[.ref l,.int x u],[]⟩) P E s:=by
 obtain⟨hp,g,d,tk,os⟩:=s
 wp_walk
 rw [R9 (by simp only [hO,qT];omega)]
 wp_walk
 cases c1:(its.isEmpty||x==1) with
 |true=>
  rw [S5 rfl]
  wp_walk
  exact same c1
 |false=>
  rw [R9 D2];cases c2:(decide (x<=0)||its.isEmpty) with
  |true=>
   rw [S5 rfl]
   wp_walk
   exact gone c1 c2
  |false=>
   obtain⟨m1,m2,m3,m4⟩:=more c1 c2;rw [R9 D2];dsimp only;rw [R9 m1,m2,R9 D2]
   wp_walk
   exact m4
end
end HT
namespace L2
open PySem PySem.Spec PyProof.Rows
def Tw (K:G3):R2:=λx y H Q=> ∃ (a:G7) (k:P4) (xs:G0 V),x= .ref a/\y= .int k/\ĉ K H a xs/\ -(2^63)<=k/\k<2^63/\xs.length*k.toNat<=xh/\
 ((xs= []\/k=1)->Q (.ref a) H)/\(¬ (xs= []\/k=1)-> ∀p,H p=xa->Q (.ref p) (upd H p (.tup (M8 k.toNat xs).flatten)))
def ZV {l:G0 G1}:l.toArray= #[]↔l= []:=by cases l<;>simp
variable {X:Cx}
def FK:Ĉ X (K6 .Mult) (Tw X.K):=by
 intro À s σ H x y v u Q I rx ry h;obtain⟨a,k,xs,rfl,rfl,hH,h1,h2,hz,q1,q2⟩:=h;cases rx;obtain⟨t,rfl⟩:=ry;obtain⟨its,r,ht,_⟩:=I.tuple hH;obtain⟨⟨cls,dd,data,sl⟩,ho,hc,n,hd⟩:=id ht;simp only at hc hd;subst hc hd;have hl:=r.length;have X0M:(M8 k.toNat its.toArray).foldl (· ++ ·) #[]=(M8 k.toNat its).flatten.toArray:=by
  have:=Wg its k.toNat [];rw [O2] at this;exact this
 have few:its.length*k.toNat<=xh:=by rw [<-hl];exact hz
 have free:=I.hok.fresh (P7 _);refine j8 (T:= "tuple") (U:= "int") (by decide) ⟨_,ho,rfl⟩ (λs'=>mU s' k t) HT.ZL sR hJ HT.Ux F.slot_int_index.lookup
  (F8 hJ (mU s k t) rS (HT.Vi ho rfl rfl ⟨_,rfl,rfl,⟨_,ho,rfl⟩,F8 F.slot_tuple_mul ⟨_,ho,rfl⟩ F.entry_tuple_mul (HT.XI ho ⟨h1,h2⟩ (λc=> ?_) (λc c0=> ?_) (λc c0=> ?_)) (F.args_tuple_mul_2 _ _)⟩) (qQ _ _))
 ·refine⟨_,rfl,.ref a,H,I,rfl,q1 ?_⟩;simp only [hO,beq_iff_eq,qU,ZV] at c;exact c.imp (λe=>r.nil_iff.mp e) id
 ·simp only [n9,beq_eq_false_iff_ne,i0,ne_eq,ZV] at c;have k0:k.toNat=0:=by
   simp only [hO,qT,qU,ZV] at c0;have:=c0.resolve_right c.1;omega
  have last:=q2 (λz=>z.elim (λe=>c.1 (r.nil_iff.mpr e)) c.2) _ free;rw [k0] at last;exact⟨_,rfl,.ref s.heap.objs.size,_,I.laid (t':=s.toks) (o:= .tup []) (λb ob q=>G9 _ q) (P7 _) ⟨by decide,[],.nil,ö.new _ _⟩,rfl,last⟩
 ·simp only [n9,beq_eq_false_iff_ne,i0,ne_eq,ZV,decide_eq_false_iff_not] at c c0;have em:((its.toArray.size:P0):P4)*k=((its.length*k.toNat:P0):P4):=by rw [Int.natCast_mul,R4,show ((k.toNat:P0):P4)=k by omega]
  have cap:(xh:P0)<=(2^63-1) / 8:=by decide
  rw [em,X0M];refine⟨by omega,by unfold iZ;exact S0 (by omega),by rw [R4,XE,qR];exact few,_,rfl,.ref s.heap.objs.size,_,I.laid (t':=s.toks) (o:= .tup (M8 k.toNat xs).flatten) (λb ob q=>G9 _ q) (P7 _) ⟨by rw [XE,qR];exact hz,_,r.rep k.toNat,ö.new _ _⟩,rfl,q2 (λz=>z.elim (λe=>c.1 (r.nil_iff.mpr e)) c.2) _ free⟩
def Si:RD2:=λx y h Q=>match x,y with
 | .tup ds,.int k=> -(2^63)<=k/\k<2^63/\ds.length*k.toNat<=xh/\Q (.tup (M8 k.toNat ds).flatten) h
 |x,y=>HS x y h Q
def vS:û X (K6 .Mult) Si:=(X0O.or FK).imp λx y H Q ⟨dx,dy,h,Qd,rx,ry,rh,q,p⟩=>by
 by_cases ht: ∃ds k,dx= .tup ds/\dy= .int k
 ·obtain⟨ds,k,e1,e2⟩:=ht;subst e1 e2;obtain⟨b1,b2,hz,q⟩:=q;obtain⟨a,vs,e,hH,r⟩:=(show ∃a vs,x= .ref a/\H a=zq (.tup vs)/\Á X.K H ds vs from rx);refine .inr ⟨a,k,vs,e,ry,ĉ.of hH,b1,b2,by rw [<-r.length];exact hz,λhs=> ?_,λ_ c hc=>p (.tup _) _ _ _ (.new hc) (rh.new hc) ⟨c,_,rfl,jh,(r.flat _).mono (.new hc)⟩ q⟩;refine p (.tup _) _ _ _ (.refl H) rh ⟨a,vs,rfl,hH,?_⟩ q;rcases hs with e0|e1
  ·subst e0;have:ds= []:=aU.mp r.length;subst this;simpa using r
  ·subst e1;simpa using r
 ·refine .inl ⟨dx,dy,h,Qd,rx,ry,rh,?_,p⟩;unfold Si at q;split at q
  ·exact xj ⟨_,_,rfl,rfl⟩ ht
  ·exact q
def Sj:D->HD->KD->Prop:=λx h Q=>match x with
 | .int i=>Q (.int (-i)) h
 |_=>False
def dUn (f:D->HD->KD->Prop)(ta:TED):TED:=λσ h Q=>ta σ h λx h1=>f x h1 Q
def HX {a:S2}{ta:TED}{pos:Pos}(ha:QE X a ta):QE X (.UnaryOp .USub a pos) (dUn Sj ta):=
 (SB OU ha).imp λσ H Q ⟨Ä,h,Qd,rs,rh,t,p⟩=>LE.bind rs rh t λd v h1 H1 k1 Ý Î r1 q=>by
  cases d<;>first
   |exact xn q
   |exact⟨_,r1,p (.int _) _ _ _ k1 Î rfl q⟩
def Æ.rev: ∀ {xs:G0 V} {us:G0 G1},Æ xs us->Æ xs.reverse us.reverse
 |_,_,.nil=> .nil
 |_,_,.cons r t=>by rw [eU,eU];exact(Æ.rev t).append (.cons r .nil)
variable {K:G3}
def Á.rev {H:Hp}: ∀ {ds:G0 D} {vs:G0 V},Á K H ds vs->Á K H ds.reverse vs.reverse
 | [],_,h=>by cases (show _= [] from h);exact .nil
 |d::ds,vs,h=>by
  obtain⟨v,r,e,h1,h2⟩:=(show ∃v r,vs=v::r/\É K H d v/\Á K H ds r from h);subst e;rw [eU,eU];exact(Á.rev h2).append (.cons h1 .nil)
def Uy (x:Str)(i:P4):TED:=λ_ h Q=>Q (.dic x i) h
variable {p:G7}
def Nb {H:Hp}{a b:HO}:upd (upd H p a) p b=upd H p b:=by
 funext q;unfold upd;split<;>rfl
variable {x:Str}
def AU {i:P4}{j k:P0}{pos p1 p2:Pos}:QE X (.Dict [zq (.Constant (.str x) j p1)] [.Constant (.int i) k p2] pos) (Uy x i):=by
 have h0:PPs X pos [zq (.Constant (.str x) j p1)] [.Constant (.int i) k p2] [(tC (.str x),tC (.int i))]:=MV X0l X0k CZ;refine PE.imp (Fa h0 rfl rfl (by simp) (by simp)) ?_;rintro σ H Q ⟨Ä,h,Qd,rs,rh,t,p⟩ q hq;show upd H q (.dK []) q=zq (.dK [])/\_;refine⟨jh,[((cH x:Č),V.int i)],rfl,by simp,?_⟩;rw [Nb];exact p (.dic x i) (.ref q) h _ (.new hq) (rh.new hq) ⟨q,rfl,jh⟩ t
def XJ:G0 (P1 S2)->G0 S2->P1 (Str×P4)
 | [zq (.Constant (.str x) _ _)],[.Constant (.int i) _ _]=>zq (x,i)
 |_,_=>xa
def AV {ks:G0 (P1 S2)}{vs:G0 S2}{pos:Pos}{i:P4}(h:XJ ks vs=zq (x,i):=by rfl):QE X (.Dict ks vs pos) (Uy x i):=by
 unfold XJ at h;split at h
 ·cases h;exact AU
 ·cases h
def AW (K:G3)(tl:TE):TI:=λσ H R=>tl σ H λx H1=> ∃a,x= .ref a/\((∃xs,õ K H1 a xs/\R (Itl K a) H1)\/ ∃xs,ĉ K H1 a xs/\R (Itt K a) H1)
def AX {tg l:S2}{tl:TE}(hl:PE X l tl):PI X tg l (AW X.K tl):=by
 intro À s σ H R I h;refine Ø (hl À s σ H _ I h) λv s1 ⟨x,H1,I1,r1,q1⟩=> ?_
 obtain⟨a,e,q⟩:=q1;subst e;cases r1;rcases q with ⟨xs,hq,q⟩|⟨xs,hq,q⟩
 ·obtain⟨its,rv,p,hz⟩:=I1.list hq;refine bS p.isList ?_;refine⟨s1.heap.objs.size,[s1.heap.objs.size],_,_,H1,rfl,I1.kept (t':=s1.toks) λb o e=>G9 _ e,Ue a _,⟨_,S7 _ rfl,rfl,rfl⟩,λb hb=> ?_,q⟩;have e:b=s1.heap.objs.size:=by simpa using hb
  subst e;exact I1.fpOk (P7 _) (I1.hok.fresh (P7 _))
 ·obtain⟨its,rv,p,hz⟩:=I1.tuple hq;refine wpAny_pyIter_tuple (show s1.heap.IsTuple a its.toArray from p) ?_;refine⟨s1.heap.objs.size,[s1.heap.objs.size],_,_,H1,rfl,I1.kept (t':=s1.toks) λb o e=>G9 _ e,Gz a _,⟨_,S7 _ rfl,rfl,rfl⟩,λb hb=> ?_,q⟩;have e:b=s1.heap.objs.size:=by simpa using hb
  subst e;exact I1.fpOk (P7 _) (I1.hok.fresh (P7 _))
def iS (te:TED):TID:=λσ h R=>te σ h λx h1=>match x with
 | .lst a=>R (λh=>h a) h1
 | .tup ds=>R (λ_=>zq ds) h1
 | .scr ns=>R (λ_=>zq (ns.map D.int)) h1
 |_=>False
def Nc {H:Hp}{a:G7}{ns:G0 P4}(hs:Scr K H a ns):BQ K H (λ_=>zq (ns.map D.int)) (Itl K a):=λH' h' k rh ds' e i=>by
 cases e;have hs':Scr K H' a ns:=hs.elim (λ⟨o,z⟩=> .inl ⟨o,k.frz _ _ _ z⟩) .inr;refine⟨λd hd=> ?_,λhl=>⟨_,hs'.sq,by simpa using hl⟩⟩;obtain⟨v,e1,e2⟩:=(JL (K:=K) (H:=H') ns).get hd;refine⟨⟨_,v,hs'.sq,e1⟩,λx ķ ⟨eH,hx⟩=> ?_⟩;subst eH;have:=hx _ hs'.sq;rw [e1] at this;cases this;exact⟨.refl _,rh,e2⟩
variable {te:TED}
def AY: ∀σ H R,LI K (iS te) σ H R->AW K (LE K te) σ H R:=λσ H R ⟨Ä,h,Rd,rs,rh,q,p⟩=>
 LE.bind rs rh q λd v h1 H1 k1 Ý Î r1 q1=>by
  cases d<;>first
   |exact xn q1
   |skip
  ·rename_i ds;obtain⟨a,vs,e,hv,r⟩:=(show ∃a vs,v= .ref a/\H1 a=zq (.tup vs)/\Á K H1 ds vs from r1);exact⟨a,e,.inr ⟨vs,ĉ.of hv,p _ _ _ _ k1 Î (MX hv r) q1⟩⟩
  ·rename_i a;obtain⟨e,vs,hv⟩:=(show v= .ref a/\ ∃vs,H1 a=zq (.lst vs) from r1);exact⟨a,e,.inl ⟨vs,õ.of hv,p _ _ _ _ k1 Î (Ur H1 a) q1⟩⟩
  ·rename_i ns;obtain⟨a,e,hS⟩:=(show ∃a,v= .ref a/\Scr K H1 a ns from r1);exact⟨a,e,.inl ⟨_,hS.sq,p _ _ _ _ k1 Î (Nc hS) q1⟩⟩
def AZ {tg e:S2}(he:QE X e te):QI X tg e (iS te):=(AX he).imp AY
def DO:TSD:=λ_ _ _=>False
def Ea {st:L8}:QS X st DO:=λ_ _ _ _ _ _ ⟨_,_,_,_,_,z,_,_,_,_⟩=>z.elim
structure Zs (mg:Str->P1 G1):Prop where
 len:mg "len" =xa
 max:mg "max" =xa
 min:mg "min" =xa
 divmod:mg "divmod" =xa
 all:mg "all" =xa
 any:mg "any" =xa
 repr:mg "repr" =xa
 sum:mg "sum" =xa
 sorted:mg "sorted" =xa
 int:mg "int" =xa
 tuple:mg "tuple" =xa
 list:mg "list" =xa
 set:mg "set" =xa
 bool:mg "bool" =xa
 isinstance:mg "isinstance" =xa
 range:mg "range" =xa
 zip:mg "zip" =xa
 enumerate:mg "enumerate" =xa
 reversed:mg "reversed" =xa
def jn (P:D5)(w:T8)(K:G3)(mg:Str->P1 G1)(base:N8)(n:P0)(x:Str)(ps:G0 Str)(sp:RDn):Prop:=
 ∃ (g:G7) (gd:R8),Ì P w K mg base à n g gd ps (í K sp)/\Binds K gd ps []/\J8 K (.ref g)=xb/\mg x=zq (.ref g)
def DP:RDn:=λds h Q=> ∃ns,ds= [.scr ns]/\(∀a,h a=xa)/\ns.length<=63/\ ∀h',Q (.bl xb) h'
def Bm (mg:Str->P1 G1)(base:N8):Prop:= ∃bm ob,mg "__builtins__" =zq (.ref bm)/\bm≠iM/\base.get? bm=zq ob/\ob.cls= .type "module" /\ob.dict=zq iM/\ob.data= .plain
def wN (K:G3):G0 (G7×G7):=LN.filterMap (gR K)
def X0C.mem {P:G7}(h:X0C K P): ∃c,(c,P)∈wN K:=let ⟨x,hx,c,e⟩:=h;⟨c,bE.mpr ⟨x,hx,e⟩⟩
def DQ {P:D5}{w:T8}{mg mb:Str->P1 G1}{k:P0}{fa a:G7}{fd:R8}{s₁:G2}{vs:G0 G1}{ns:G0 P4}
 (KX:K.In s₁.heap)(hns:s₁.heap.Ns xi mg)(hb:s₁.heap.Ns iM mb)(hbb: ∀x:Str,x≠ "__name__" ->mb x=Q5 x)(X1T:s₁.heap.NoLimit)(hg:s₁.gens= #[])
 (ha:s₁.heap.get? a=zq {cls:= .type "list",data:= .seq vs.toArray})(hi:mW vs ns)(hl:ns.length<=63)(hr:Ð k oW)
 (hbm:Bm mg s₁.heap)(F: ∀base:N8,K.In base->base.Ns xi mg->Bm mg base->Ì P w K mg base à k fa fd [x] (í K DP))(X1n: ∀ (s:G2) (u:G1),oU s fd ⟨[u],[]⟩ [(x,u)])
 (hT: ∀p∈wN K,uE s₁.heap p.1 p.2/\s₁.heap.get? p.2=zq (oA #[])/\K.lookup p.2=xa):
 U5 (R3 P w) oW (.call (.ref fa) ⟨[.ref a],[]⟩) (λr s'=>r= .ok (.ret (.bool xb))/\OldK s₁.heap s'.heap/\s'.os=s₁.os/\iG s'.gens) s₁:=by
 have rv:=Uk hi;have X1U:=hi.length;have hz:ns.length<=xh:=M1 hl (by decide);have Ū: ∀b,b∈(wN K).map (·.2)-> ∃c,uE s₁.heap c b/\s₁.heap.get? b=zq (oA #[])/\K.lookup b=xa:=λb hb=>by
  obtain⟨p,hp,rfl⟩:=N5.mp hb;exact⟨p.1,hT p hp⟩
 have core: ∀H:Hp,Scr K H a ns->ă P w H s₁.heap->(∀b u,H b=zq u->(b=a/\K.lookup a=xa/\ ∃o xs,u= .frz o (.lst xs))\/(b∈(wN K).map (·.2)/\u= .tbl #[]))->(∀b,b∈(wN K).map (·.2)->H b=zq (.tbl #[]))->
  U5 (R3 P w) oW (.call (.ref fa) ⟨[.ref a],[]⟩) (λr s'=>r= .ok (.ret (.bool xb))/\OldK s₁.heap s'.heap/\s'.os=s₁.os/\iG s'.gens) s₁:=by
  intro H hS hok hA hTt;have noA: ∀ {b:G7} {o:Obj} {es:T7 W1} {ep:P0},s₁.heap.get? b=zq o->o.data= .dict es ep->H b=xa:=λ{b o es ep} e d=>by
   cases q:H b with
   |none=>rfl
   |some u=>
    rcases hA b u q with ⟨rfl,_,_⟩|⟨z,_⟩
    ·rw [ha] at e;cases e;have d':Data.seq vs.toArray _=Data.dict es ep:=d;cases d'
    ·obtain⟨c,_,e2,_⟩:=Ū b z;rw [e2] at e;cases e;have d':Data.fields _=Data.dict es ep:=d;cases d'
  have nsK: ∀ {b:G7} {m:Str->P1 G1},s₁.heap.Ns b m->(MG s₁.heap H).Ns b m:=λ{b m} ⟨o,es,ep,e,d,r⟩=>⟨o,es,ep,YX e (noA e d),d,r⟩
  have hKb:K.In (MG s₁.heap H):=λb o e=>YX (KX b o e) (by
   cases q:H b with
   |none=>rfl
   |some u=>
    rcases hA b u q with ⟨rfl,z,_⟩|⟨z,_⟩
    ·rw [z] at e;cases e
    ·obtain⟨c,_,_,z2⟩:=Ū b z;rw [z2] at e;cases e)
  have hM:Mod K mg (MG s₁.heap H):=⟨hKb,nsK hns,⟨mb,nsK hb,hbb⟩,let ⟨mc,h1,h2⟩:=X1T;⟨mc,nsK h1,h2⟩⟩;have e0:į P w K mg (MG s₁.heap H) oW [] s₁ H:=⟨rfl,hM,λb o e=>Cu e,U6 (PH _ _),trivial,λb hb=>xj (show b∈([]:G0 G7) from hb) (by simp),hok,.of_eq hg⟩;have œ:í K DP [.ref a] H (λv _=>v= .bl xb) (λ_ _ _=>False):=by
   refine⟨[.scr ns],⟨λ_=>xa,λ_=>xa⟩,λd _=>d= .bl xb,⟨.ref a,[],rfl,⟨a,rfl,hS⟩,rfl⟩,⟨λb ds e=>(by cases e),λp hp=> ?_,λb c e=>(by cases e)⟩,⟨ns,rfl,λ_=>rfl,hl,λ_=>rfl⟩,?_⟩
   ·obtain⟨c,hc⟩:=hp.mem;exact⟨#[],hTt p (iD (f:=(·.2)) hc),trivial,λpos cv e=>(by cases e)⟩
   ·intro d v h' H' _ _ r e;subst e;exact r
  have hBm:Bm mg (MG s₁.heap H):=by
   obtain⟨bm,ob,b1,b2,b3,b4,r⟩:=hbm;refine⟨bm,ob,b1,b2,YX b3 ?_,b4,r⟩;cases q:H bm with
   |none=>rfl
   |some u=>
    rcases hA bm u q with ⟨rfl,_,_⟩|⟨z,_⟩
    ·rw [ha] at b3;cases b3;exact xj (Value.type.inj b4) (by decide)
    ·obtain⟨c,_,e2,_⟩:=Ū bm z;rw [e2] at b3;cases b3;cases b4
  refine aG ((F _ hKb (nsK hns) hBm).run oW [] s₁ H ⟨[.ref a],[]⟩ [.ref a] [.ref a] _ _ hr e0 (X1n s₁ (.ref a)) (.cons rfl .nil) œ) λr s' h=> ?_
  cases r with
  |error e=>exact xn h
  |ok fl=>
   cases fl with
   |next=>exact xn h
   |brk=>exact xn h
   |cont=>exact xn h
   |ret u=>
    obtain⟨v,H',os,bare,un,X1F,r',q⟩:=h;have q':v= .bl xb:=q;subst q';obtain rfl:u=pL xb:=r';have one: ∀b o,s₁.heap.get? b=zq o->s'.heap.get? b=zq o\/(b∈(wN K).map (·.2)/\ ∃more,s'.heap.get? b=zq (oA more)):=λb o e=>by
     cases q:H b with
     |none=>exact .inl (un.keep b o e q (by intro z;exact xj (show b∈([]:G0 G7) from z) (by simp)) (by simp))
     |some u=>
      rcases hA b u q with ⟨rfl,_,ob,xs,rfl⟩|⟨z,rfl⟩
      ·have z2:=un.frzs _ ob _ q;obtain⟨e1,_⟩:=hok _ _ q;obtain⟨e2,_⟩:=X1F _ _ z2;rw [e] at e1;cases e1;exact .inl e2
      ·obtain⟨more,z2⟩:=un.tbls b _ q;exact .inr ⟨z,_,(show s'.heap.get? b=zq _ from X1F b _ z2)⟩
    refine⟨rfl,⟨λb o e=> ?_,λb o e=> ?_⟩,os,bare⟩
    ·rcases one b o e with z|⟨z,more,z2⟩
     ·exact .inl z
     ·obtain⟨c,hc,e2,_⟩:=Ū b z;rw [e] at e2;cases e2;refine .inr (.inl ⟨(hc.tab e).isCodeTable,rfl,#[],more,rfl,?_⟩);rw [z2];simp
    ·rcases one b o e with z|⟨z,more,z2⟩
     ·exact⟨_,z⟩
     ·exact⟨_,z2⟩
 have nT:a ∉ (wN K).map (·.2):=λz=>by
  obtain⟨c,_,e2,_⟩:=Ū a z;rw [ha] at e2;cases e2
 have okT: ∀ {H:Hp} (b:G7),b∈(wN K).map (·.2)->Ô P w H s₁.heap b (.tbl #[]):=λb hb=>let ⟨_,_,e,_⟩:=Ū b hb;e
 cases hk:K.lookup a with
 |some o=>
  have e:=KX a o hk;rw [ha] at e;cases e;refine core (λb=>if b∈(wN K).map (·.2) then zq (.tbl #[]) else xa) (.inr ⟨_,vs.toArray,_,hk,rfl,rfl,rfl,by rw [R4,X1U];exact hz,by simpa using rv⟩) (λb u z=> ?_) (λb u z=> ?_) λb hb=>S5 hb
  ·by_cases hb:b∈(wN K).map (·.2)
   ·have z':=(S5 hb).symm.trans z;cases z';exact okT b hb
   ·have z':=(R9 hb).symm.trans z;cases z'
  ·by_cases hb:b∈(wN K).map (·.2)
   ·have z':=(S5 hb).symm.trans z;cases z';exact .inr ⟨hb,rfl⟩
   ·have z':=(R9 hb).symm.trans z;cases z'
 |none=>
  refine core (λb=>if b=a then zq (.frz {cls:= .type "list",data:= .seq vs.toArray} (.lst (ns.map V.int))) else if b∈(wN K).map (·.2) then zq (.tbl #[]) else xa) (.inl ⟨{cls:= .type "list",data:= .seq vs.toArray},S5 rfl⟩) (λb u z=> ?_) (λb u z=> ?_) λb hb=> ?_
  ·by_cases hb:b=a
   ·have z':=(S5 hb).symm.trans z;cases z';subst hb;exact⟨ha,by rw [G6];exact hz,vs,_,rv,ha⟩
   ·have z':=(R9 hb).symm.trans z
    by_cases hb2:b∈(wN K).map (·.2)
    ·have z2:=(S5 hb2).symm.trans z';cases z2;exact okT b hb2
    ·have z2:=(R9 hb2).symm.trans z';cases z2
  ·by_cases hb:b=a
   ·have z':=(S5 hb).symm.trans z;cases z';exact .inl ⟨hb,hk,_,_,rfl⟩
   ·have z':=(R9 hb).symm.trans z
    by_cases hb2:b∈(wN K).map (·.2)
    ·have z2:=(S5 hb2).symm.trans z';cases z2;exact .inr ⟨hb2,rfl⟩
    ·have z2:=(R9 hb2).symm.trans z';cases z2
  ·have:b≠a:=λz=>nT (z ▸ hb)
   show (if b=a then _ else _)=_;rw [R9 this,S5 hb]
def Tx (q:D5)(K:G3):N3:=LN.all λx=>match gR K x with
 |some p=>(K.lookup p.2).isNone&&((IT q).find? (λe=>e.name==x)).isSome
 |none=>xb
def Nd {l:sW}{k:P0}{q:D5}{loose:G0 Str}{XP:(Str->P1 G1)->N8->Prop}{YP:T8->N8->Prop}{d:DefRec}{K:G0O->G3}(hn:l.most=zq 63)(hdf:d.params.defaults= [])(hr:Ð k oW)
 (hY: ∀ (w:T8) (h:N8),YP w h->(K w.params).In h)(hB: ∀w:T8,Tx q (K w.params)=xb)
 (F: ∀ (w:T8) (mg:Str->P1 G1) (fa:G7) (h:N8),(K w.params).In h->h.Ns xi mg->mg d.name=zq (.ref fa)->
  ∃fd:R8,(∀ (s:G2) (u:G1),oU s fd ⟨[u],[]⟩ [(x,u)])/\ ∀base:N8,(K w.params).In base->base.Ns xi mg->Bm mg base->Ì l.prog w (K w.params) mg base à k fa fd [x] (í (K w.params) DP)):
 G01 q loose XP YP l.row.toRowW d [] (λf vs=>uB f vs):=by
 refine Att.attach_call hn hdf λw s₀ s₁ mg mb fa o pm cd doc a vs ns G Y ho hd hcd hmg X1f hints hlen hg=> ?_
 have KX:=hY w _ Y;obtain⟨fd,hb,hF⟩:=F w mg fa _ KX G.T.g hmg;refine DQ KX G.T.g G.T.b G.T.builtins G.T.nolimit hg X1f hints hlen hr G.T.bmain hF hb λp hp=> ?_
 obtain⟨x,hx,e⟩:=bE.mp hp;have z:=H0.mp (hB w) x hx;rw [e] at z;simp only [B7,j9] at z;obtain⟨dd,hdd⟩:=O9.mp z.2;have t:=G0R (c:=p.1) (P:=p.2) G.T KX hdd e;exact⟨t.1,t.2,z.1⟩
def zH:S2->N3
 | .Starred .. =>xf
 |_=>xb
def XL {e:S2}{es:G0 S2}{env:Env}(h:zH e=xb):P9 (e::es) env=(xf,L7 e env)::P9 es env:=by
 cases e<;>first|rfl|cases h
def qac {e:S2}{es:G0 S2}{t:TAD}(ha:QE X e te)(hr:QA X es t)(h:zH e=xb:=by rfl):QA X (e::es) (jP te t):=Fk ha hr (XL h)
def JP {α:Type}{xs:G0 α}{i:P4}(h0:0<=i)(h1:i<xs.length): ∃x∈xs,ĕ xs i=zq x:=by
 have hk:i.toNat<xs.length:=by omega
 have ek:i=((i.toNat:P0):P4):=by omega
 have z:=zU (G5 hk);rw [<-ek] at z;exact⟨xs[i.toNat],N9 hk,z⟩
variable {h h':HD}{L:G0 D}
def Sub.newAt (s:Sub h h')(e:h' p=xa):Sub h (wd h' p L):=s.trans (.new e)
structure ô (p:G7)(h h':HD):Prop where
 ls: ∀a ds,a≠p->h a=zq ds->h' a=zq ds
 dc: ∀a c,h.dc a=zq c->h'.dc a=zq c
instance {p:G7}{h h':HD}:CoeFun (ô p h h') λ_=> ∀a ds,a≠p->h a=zq ds->h' a=zq ds:=⟨ô.ls⟩
def ô.refl (p:G7)(h:HD):ô p h h:=⟨λ_ _ _ e=>e,λ_ _ e=>e⟩
variable {q:G7}
def ô.new (s:ô p h h')(e:h' q=xa):ô p h (wd h' q L):=⟨λa ds n z=>(by
 have:=s a ds n z;rw [wT (λw=>by subst w;rw [e] at this;cases this)];exact this),s.dc⟩
def ô.put (s:ô p h h'):ô p h (wd h' p L):=⟨λa ds n z=>(by rw [wT n];exact s a ds n z),s.dc⟩
def ô.putNew (s:ô p h h')(e:h q=xa):ô p h (wd h' q L):=⟨λa ds n z=>(by
 rw [wT (λw=>by subst w;rw [e] at z;cases z)];exact s a ds n z),s.dc⟩
def ô.sub (s:ô p h h')(e:h' p=zq L):Sub (wd h p L) h':=⟨λa ds z=>(by
 by_cases q:a=p
 ·subst q;rw [jc] at z;cases z;exact e
 ·rw [wT q] at z;exact s a ds q z),s.dc⟩
def ô.upd:ô p h (wd h p L):=⟨λa ds n z=>(by rw [wT n];exact z),λ_ _ e=>e⟩
def jq (e:h p=zq L)(f:h q=xa):q≠p:=λz=>by subst z;rw [e] at f;cases f
def je {M:G0 D}(e:h p=zq L)(f:h q=xa):wd h q M p=zq L:=by rw [wT (λz=>by subst z;rw [e] at f;cases f)];exact e
def jg {a b:G7}{M:G0 D}(n:b≠a)(e:h b=zq M):wd h a L b=zq M:=by rw [wT n];exact e
def Uz {n:P0}{i:P0}{d:D}(h:((R6 n).map λ(k:P0)=>D.int (k:P4))[i]? =zq d):i<n/\d= .int i:=by
 rw [D1] at h
 by_cases hi:i<n
 ·rw [Y0 hi] at h;cases h;exact⟨hi,rfl⟩
 ·rw [V8 (by simpa using hi)] at h;cases h
variable {E:EndsD}{σ:SD}
def ji {t u:TSD}(V:SD->HD->Prop)(first: ∀K:SD->HD->Prop,(∀Â h',V Â h'->K Â h')->t {E with nx:=K} σ h)(rest: ∀Â h',V Â h'->u E Â h'):yn t u E σ h:=first (u E) rest
def Wq (b:ô p h h')(e:h' q=xa)(n:q≠p):h q=xa:=by
 cases z:h q with
 |none=>rfl
 |some ds=>rw [b q ds n z] at e;cases e
def Nxt (E:EndsD)(V:SD->HD->Prop):EndsD:= {E with nx:=λþ h3=> ∃h4,Sub h4 h3/\V þ h4,ct:=λþ h3=> ∃h4,Sub h4 h3/\V þ h4,bk:=E.nx}
variable {h1:HD}
def JQ {ta:TAD}{g:TGD}{tb:TSD}(n:P0)(W:P0->SD->HD->Prop)(hn:n<1000000)
 (ht: ∀R:G0 D->HD->Prop,R [.int (n:P4)] h1->ta σ h R)(w0:W 0 σ h1)(done: ∀Â h',W n Â h'->E.nx Â h')
 (turn: ∀i Â h',i<n->W i Â h'->g (.int (i:P4)) Â h' λÜ h2=>tb (Nxt E λþ h4=>i+1<=n/\W (i+1) þ h4) Ü h2):Oi (iR1 ta) g tb E σ h:=by
 refine ht _ ⟨(n:P4),rfl,by omega,by omega,n,λi Â h'=>i<=n/\W i Â h',⟨B0 _,w0⟩,?_⟩;rintro i Â h' ⟨hi,w⟩;refine⟨_,rfl,by simp,λhl=> ?_,λd hd=> ?_⟩
 ·have:i=n:=by simp at hl;omega
  subst this;exact done _ _ w
 ·obtain⟨hi',e⟩:=Uz hd;have hi2:i<n:=by omega
  subst e;exact turn i Â h' hi2 w
def ZW {ti:TID}{g:TGD}{tb:TSD}{j:ItD}(ds:G0 D)(W:P0->SD->HD->Prop)
 (ht: ∀R:ItD->HD->Prop,R j h1->ti σ h R)(hj: ∀i Â h',W i Â h'->j h'=zq ds)(w0:W 0 σ h1)(done: ∀Â h',W ds.length Â h'->E.nx Â h')
 (turn: ∀i d Â h',ds[i]? =zq d->W i Â h'->g d Â h' λÜ h2=>tb (Nxt E λþ h4=>i+1<=ds.length/\W (i+1) þ h4) Ü h2):Oi ti g tb E σ h:=by
 refine ht _ ⟨ds.length,λi Â h'=>i<=ds.length/\W i Â h',⟨B0 _,w0⟩,?_⟩;rintro i Â h' ⟨hi,w⟩;refine⟨ds,hj i Â h' w,P7 _,λhl=> ?_,λd hd=>turn i d Â h' hd w⟩;have:i=ds.length:=by omega
 subst this;exact done _ _ w
def Wr {g:TGD}{tb:TSD}{j:ItD}(ds:G0 D)(W:P0->SD->HD->Prop)
 (hj: ∀i Â h',W i Â h'->j h'=zq ds)(w0:W 0 σ h1)(done: ∀Â h',W ds.length Â h'->E.nx Â h')
 (turn: ∀i d Â h',ds[i]? =zq d->W i Â h'->g d Â h' λÜ h2=>tb (Nxt E λþ h4=>i+1<=ds.length/\W (i+1) þ h4) Ü h2):
 ∃ (n:P0) (W:P0->SD->HD->Prop),W 0 σ h1/\ ∀i Â h',W i Â h'-> ∃ds,j h'=zq ds/\ds.length<=n/\(ds.length<=i->E.nx Â h')/\
  ∀d,ds[i]? =zq d->g d Â h' λÜ h2=>tb {E with nx:=λþ h3=> ∃h4,Sub h4 h3/\W (i+1) þ h4,ct:=λþ h3=> ∃h4,Sub h4 h3/\W (i+1) þ h4,bk:=E.nx} Ü h2:=by
 refine⟨ds.length,λi Â h'=>i<=ds.length/\W i Â h',⟨B0 _,w0⟩,?_⟩;rintro i Â h' ⟨hi,w⟩;refine⟨ds,hj i Â h' w,P7 _,λhl=> ?_,λd hd=>turn i d Â h' hd w⟩;have:i=ds.length:=by omega
 subst this;exact done _ _ w
def BU {i:P0}{js:G0 P0}{ta:TAD}{Q:KD}(n:P0)(W:P0->G0 D->HD->Prop)(hn:n<=1000)(ht: ∀R:G0 D->HD->Prop,R [.int (n:P4)] h1->ta σ h R)
 (w0:W 0 [] h1)(wl: ∀k ys h',W k ys h'->ys.length=k)(turn: ∀k ys h',k<n->W k ys h'->te ((zg js σ).set i (zq (.int (k:P4)))) h' λy h4=> ∃h5,Sub h5 h4/\(k+1<=n/\W (k+1) (ys++ [y]) h5))
 (done: ∀ys h',W n ys h'-> ∀p,h' p=xa->Q (.lst p) (wd h' p ys)):ZI (bN i) js (iR1 ta) JN te σ h Q:=by
 refine ht _ ⟨(n:P4),rfl,by omega,by omega,n,λk ys h'=>k<=n/\W k ys h',⟨B0 _,w0⟩,?_⟩;rintro k ys h' ⟨hk,w⟩;refine⟨by rw [wl k ys h' w];exact T6 (zk (by omega)),_,rfl,by simp,λhl p hp=> ?_,λd hd=>⟨_,rfl,?_⟩⟩
 ·have:k=n:=by simp at hl;omega
  subst this;exact done ys h' w p hp
 ·obtain⟨hi',e⟩:=Uz hd;subst e;unfold JN;dsimp only;rw [S5 rfl];exact turn k ys h' (by omega) w
end L2
namespace L2
open PySem PySem.Spec PyProof.Rows PySem.SeqAt
mutual
def Ĩ (h:HD):D->K8->Prop
 |d,.none=>d= .non
 |d,.bool b=>d= .bl b
 |d,.int i=>d= .int i
 |d,.str x=>d= .str x
 |d,.tuple ps=> ∃ds,d= .tup ds/\ĩ h ds ps
 |d,.list ps=> ∃a ds,d= .lst a/\h a=zq ds/\ĩ h ds ps
 |_,.dict _=>False
def ĩ (h:HD):G0 D->G0 K8->Prop
 |ds,[]=>ds= []
 |ds,p::ps=> ∃d r,ds=d::r/\Ĩ h d p/\ĩ h r ps
end
section
variable {X:Cx}{À:G0 (G7×Obj)}{σ:St}{H:Hp}{s:G2}{h:HD}
mutual
theorem zI (I:Inv X À σ H s)(rh:Å X.K h H): ∀ {p:K8} {d:D} {v:V} {u:G1},Ĩ h d p->É X.K H d v->RelV v u-> ∃as,Reads s.heap u p as
 | .none,d,v,u,t,r,ru=>by cases (show d= .non from t);cases (show v= .non from r);cases (show u= .none from ru);exact⟨[],.none⟩
 | .bool b,d,v,u,t,r,ru=>by cases (show d= .bl b from t);cases (show v= .bl b from r);cases (show u= .bool b from ru);exact⟨[],.bool b⟩
 | .int i,d,v,u,t,r,ru=>by cases (show d= .int i from t);cases (show v= .int i from r);obtain⟨k,rfl⟩:=(show ∃t,u=gC i t from ru);exact⟨[],.int i k⟩
 | .str x,d,v,u,t,r,ru=>by cases (show d= .str x from t);cases (show v= .str x from r);obtain⟨k,rfl⟩:=(show ∃t,u=oS x t from ru);exact⟨[],.str x k⟩
 | .tuple ps,d,v,u,t,r,ru=>by
  obtain⟨ds,e,ts⟩:=(show ∃ds,d= .tup ds/\ĩ h ds ps from t);subst e;obtain⟨a,vs,e,hH,rs⟩:=(show ∃a vs,v= .ref a/\H a=zq (.tup vs)/\Á X.K H ds vs from r);subst e;cases (show u= .ref a from ru);obtain⟨its,rv,ht,_⟩:=I.tuple (ĉ.of hH);obtain⟨o,ho,hc,n,hd⟩:=ht;obtain⟨as,q⟩:=Ŀ I rh ts rs rv;exact⟨as,.tuple ho hc hd q⟩
 | .list ps,d,v,u,t,r,ru=>by
  obtain⟨a,ds,e,ha,ts⟩:=(show ∃a ds,d= .lst a/\h a=zq ds/\ĩ h ds ps from t);subst e;obtain⟨vs,hH,rs⟩:=rh a ds ha;have e:v= .ref a:=r.1;subst e;cases (show u= .ref a from ru);obtain⟨its,rv,pl,_⟩:=I.list (õ.of hH);obtain⟨o,ho,hc,n,hd⟩:=pl.isList;obtain⟨as,q⟩:=Ŀ I rh ts rs rv;exact⟨a::as,.list ho hc hd q⟩
 | .dict _,_,_,_,t,_,_=>(show False from t).elim
theorem Ŀ (I:Inv X À σ H s)(rh:Å X.K h H): ∀ {ps:G0 K8} {ds:G0 D} {vs:G0 V} {us:G0 G1},ĩ h ds ps->Á X.K H ds vs->Æ vs us-> ∃as,ReadsAll s.heap us ps as
 | [],ds,vs,us,t,r,rv=>by
  cases (show ds= [] from t);cases (show vs= [] from r);cases rv;exact⟨[],.nil⟩
 |p::ps,ds,vs,us,t,r,rv=>by
  obtain⟨d,dr,e,t1,t2⟩:=(show ∃d r,ds=d::r/\Ĩ h d p/\ĩ h r ps from t);subst e;obtain⟨v,vr,e,r1,r2⟩:=(show ∃v r,vs=v::r/\É X.K H d v/\Á X.K H dr r from r);subst e;cases rv with
  |cons ru rt=>
   obtain⟨as,q1⟩:=zI I rh t1 r1 ru;obtain⟨bs,q2⟩:=Ŀ I rh t2 r2 rt;exact⟨as++bs,.cons q1 q2⟩
end
end
def eqE:RD2:=λx y h Q=>match x,y with
 | .int i,.int j=>Q (.bl (decide (i=j))) h
 | .bl i,.bl j=>Q (.bl (decide (i=j))) h
 | .str i,.str j=>Q (.bl (decide (i=j))) h
 |x,y=> ∃p q,Ĩ h x p/\Ĩ h y q/\shaped p=xb/\shaped q=xb/\Q (.bl (C8 p q)) h
def neE:RD2:=λx y h Q=>match x,y with
 | .int i,.int j=>Q (.bl (!decide (i=j))) h
 | .bl i,.bl j=>Q (.bl (!decide (i=j))) h
 | .str i,.str j=>Q (.bl (!decide (i=j))) h
 |x,y=> ∃p q,Ĩ h x p/\Ĩ h y q/\shaped p=xb/\shaped q=xb/\Q (.bl (!C8 p q)) h
section
variable {X:Cx}
def eqG:RD2:=λx y h Q=> ∃p q,Ĩ h x p/\Ĩ h y q/\shaped p=xb/\shaped q=xb/\Q (.bl (C8 p q)) h
def neG:RD2:=λx y h Q=> ∃p q,Ĩ h x p/\Ĩ h y q/\shaped p=xb/\shaped q=xb/\Q (.bl (!C8 p q)) h
def Eb (hu:X.A.units+64<cLine):û X (B8 .Eq) eqG:=by
 intro À s σ H x y v u Q I rx ry h;obtain⟨dx,dy,h,Qd,r1,r2,rh,⟨p,q,t1,t2,s1,s2,qq⟩,post⟩:=h;obtain⟨as,a1⟩:=zI I rh t1 r1 rx;obtain⟨bs,b1⟩:=zI I rh t2 r2 ry;exact compareEq_shaped a1 b1 s1 s2 hu ⟨.bl _,H,I,rfl,post (.bl _) _ _ _ (.refl H) rh rfl qq⟩
def Ec (hu:X.A.units+64<cLine):û X (B8 .NotEq) neG:=by
 intro À s σ H x y v u Q I rx ry h;obtain⟨dx,dy,h,Qd,r1,r2,rh,⟨p,q,t1,t2,s1,s2,qq⟩,post⟩:=h;obtain⟨as,a1⟩:=zI I rh t1 r1 rx;obtain⟨bs,b1⟩:=zI I rh t2 r2 ry;exact compareNe_shaped a1 b1 s1 s2 hu ⟨.bl _,H,I,rfl,post (.bl _) _ _ _ (.refl H) rh rfl qq⟩
def û.or' {f:G1->G1->Sem G1}{r r' r2:RD2}(h:û X f r)(h':û X f r')(i: ∀x y hh Q,r2 x y hh Q->r x y hh Q\/r' x y hh Q):û X f r2:=λÀ s σ H x y v u Q I rx ry ⟨dx,dy,hd,Qd,r1,r2',rh,q,p⟩=>
 (i dx dy hd Qd q).elim (λz=>h À s σ H x y v u Q I rx ry ⟨dx,dy,hd,Qd,r1,r2',rh,z,p⟩) λz=>h' À s σ H x y v u Q I rx ry ⟨dx,dy,hd,Qd,r1,r2',rh,z,p⟩
def BV (hu:X.A.units+64<cLine):û X (B8 .Eq) eqE:=Í.or' (Eb hu) λx y h Q q=>by
 unfold eqE at q;split at q
 ·exact .inl q
 ·exact .inl q
 ·exact .inl q
 ·exact .inr q
def DR (hu:X.A.units+64<cLine):û X (B8 .NotEq) neE:=Ě.or' (Ec hu) λx y h Q q=>by
 unfold neE at q;split at q
 ·exact .inl q
 ·exact .inl q
 ·exact .inl q
 ·exact .inr q
end
end L2
namespace HT
open PySem PySem.Spec PyProof.Rows
section
variable {prog:D5}{w:T8}{A:S4}{E:G1->G2->Prop}{s:G2}
def DS (k:P4){vs:G0 G1}{ns:G0 P4}(hi:mW vs ns)(j:P0)(h:j<ns.length): ∃t,vs[j]? =zq (.int ns[j] t):=by
 induction hi generalizing j with
 |nil=>simp at h
 |cons n t r ih=>
  cases j with
  |zero=>exact⟨t,rfl⟩
  |succ j=>obtain⟨u,e⟩:=ih j (by simpa using h);exact⟨u,by simpa using e⟩
end
end HT
namespace L2
open PySem PySem.Spec PyProof.Rows
theorem DT: ∀ {ns:G0 P4} {us:G0 G1},Æ (ns.map V.int) us->mW us ns
 | [],_,r=>by cases r;exact .nil
 |n::ns,_,r=>by
  cases r with
  |cons r t=>obtain⟨k,rfl⟩:=r;exact .cons n k (DT t)
theorem yp {K:G3}{H:Hp}: ∀ {ns:G0 P4} {vs:G0 V},Á K H (ns.map D.int) vs->vs=ns.map V.int
 | [],_,h=>h
 |n::ns,vs,h=>by
  obtain⟨v,r,e,h1,h2⟩:=(show ∃v r,vs=v::r/\É K H (.int n) v/\Á K H (ns.map D.int) r from h);rw [e,yp h2,(show v= .int n from h1)];rfl
theorem YD (ns:G0 P4): ∀k,k<=ns.length->G0d (λi=>ns.getD i 0) k=(ns.take k).sum
 |0,_=>by simp [G0d]
 |k+1,h=>by
  have hk:k<ns.length:=by omega
  rw [G0d,YD ns k (by omega),L5,G5 hk,sZ,T3,G5 hk];simp
variable {X:Cx}
def Vj (hc:X.calm=xb):ê X (.builtin "sum") (λxs H Q=> ∃ (a:G7) (ns:G0 P4),xs= [.ref a]/\õ X.K H a (ns.map V.int)/\Q (.int ns.sum) H):=by
 intro À s σ H xs us Q I r h;obtain⟨a,ns,rfl,hS,q⟩:=h;obtain⟨u,rfl,ru⟩:=Wb r;cases ru;obtain⟨its,rv,pl,hz⟩:=I.list hS;have hl:=pl.isList;have ν:a<s.heap.objs.size:=by obtain⟨_,e,_⟩:=hl;exact D7 e
 have hi:=DT rv;have hn:its.length=ns.length:=hi.length;refine call_sum_walkAnyS (bS hl ?_);refine⟨s.heap.objs.size,_,_,_,_,_,_,λi=>ns.getD i 0,rfl,(Walks.list (A:=X.A.in1) (show X.A.in1.handled=xa from I.ok.hd hc) s.heap.objs.size a (M6 ν) its.toArray).toS,⟨⟨_,S7 _ rfl,rfl,rfl⟩,hl.push _⟩,?_,?_,λs' t' hm=> ?_⟩
 ·intro b hb;simp only [R5,F9,or_false] at hb;show b<(s.heap.push _).objs.size;rw [bY];rcases hb with e|e
  ·rw [e];exact aT _
  ·rw [e];exact lJ ν
 ·intro i v hP;have e:its[i]? =zq v:=by simpa using hP
  have hil:i<ns.length:=by rw [<-hn];exact(P8.mp e).1
  obtain⟨t,e2⟩:=HT.DS 0 hi i hil;rw [e] at e2;cases e2;refine⟨t,?_⟩;show gC ns[i] t=gC (ns.getD i 0) t;rw [T3,G5 hil];rfl
 ·have e:G0d (λi=>ns.getD i 0) its.toArray.size=ns.sum:=by
   rw [R4,hn,YD ns _ (P7 _),W3]
  rw [e];obtain⟨h',g',d',tk',o'⟩:=s';obtain⟨m1,m2,m3,m4,_⟩:=hm;simp only at m1 m2 m3 m4;subst m2 m3 m4;refine⟨.int ns.sum,H,I.kept (t':=tk') (λb o e=>m1 b o (λz=> ?_) (G9 _ e)),⟨_,rfl⟩,q⟩;rw [P2.mp z] at e;exact xj (D7 e) (O7 _)
def Ty:RDn:=λds h Q=> ∃ (a:G7) (ns:G0 P4),ds= [.lst a]/\h a=zq (ns.map D.int)/\Q (.int ns.sum) (Uq h a)
def FL (hc:X.calm=xb):vP X (.builtin "sum") Ty:=(Vj hc).imp λxs H Q ⟨ds,h,Qd,r,rh,⟨a,ns,e,hd,q⟩,p⟩=>by
 subst e;obtain⟨v,e,r1⟩:=jS r;obtain⟨vs,hH,r2⟩:=rh a _ hd;have e1:v= .ref a:=r1.1;rw [yp r2] at hH;subst e e1;exact⟨a,ns,rfl,õ.of hH,p (.int _) _ _ _ (.refl H) (rh.sub (Sub.drop h a)) rfl q⟩
def HY (to ti te:TED):TED:=λσ h Q=>to σ h λx h1=> ∃a,x= .lst a/\ti σ h1 λi h2=>te σ h2 λy h3=> ∃ (k:P0) (xs:G0 D),i= .int (k:P4)/\k<=1000/\h3 a=zq xs/\xs.length<xh/\Q .non (wd h3 a (xs.take k++y::xs.drop k))
def DU:MtM X "list.insert" (λx vs H Q=> ∃ (l:G7) (xs:G0 V) (k:P0) (y:V),x= .ref l/\vs= [.int (k:P4),y]/\H l=zq (.lst xs)/\k<=1000/\xs.length<xh/\Q .non (upd H l (.lst (xs.take k++y::xs.drop k)))):=by
 intro À s σ H x vs v us Q I rx rv h;obtain⟨l,xs,k,y,rfl,rfl,hH,hk,hz,q⟩:=h;cases rx;obtain⟨u,w',rfl,⟨t,rfl⟩,ry⟩:=Da rv;obtain⟨z,its,n,r,hl,e⟩:=I.lstM hH;have X0Z: ¬ (!iV (k:P4))=xb:=by rw [uA (by omega) (by omega)];exact D2
 have hsz:its.toArray.size<=xh:=by rw [R4];omega
 generalize har:its.toArray=ar at e hsz;obtain⟨kk,hkk⟩: ∃kk:P4,kk=(k:P4):=⟨_,rfl⟩;rw [<-hkk] at X0Z ⊢;refine gH F.slot_list_insert ⟨_,e,rfl⟩ F.entry_list_insert (F.args_list_insert_3 _ _ _) (AutoListH.list_insert_list_int_val_1 l ar n kk t w' X0Z hsz) ⟨e,?_⟩;subst har hkk;refine⟨.non,_,I.lset (its':=its.take k++w'::its.drop k) hH e ?_ ((r.take k).append (.cons ry (r.drop k))) ?_,rfl,q⟩
 ·have hk0: ¬ ((k:P4)<0):=by omega
  simp only [hk0,mF,aH,R4];have e1:its.take (min k its.length)=its.take k:=by
   by_cases hh:k<=its.length
   ·rw [A7 hh]
   ·rw [mJ (by omega),W3,S3 (by omega)]
  have e2:its.drop (min k its.length)=its.drop k:=by
   by_cases hh:k<=its.length
   ·rw [A7 hh]
   ·rw [mJ (by omega),List.drop_length,List.drop_of_length_le (by omega)]
  have e3:(its.drop k).take (its.length-min k its.length)=its.drop k:=S3 (by rw [C6];omega);apply Array.ext';simp only [F4,aK,List.extract_toArray,Q7,i3,qV];rw [e1,e2,e3,D0];rfl
 ·rw [P3,D8,S1,C6];omega
section
variable {X:Cx}{o e i:S2}{to te ti:TED}{apos Ë:Pos}
def kf (ho:QE X o to)(hi:QE X i ti)(he:QE X e te)(hbase:K9 o "insert" X.env (L7 o X.env)=L7 o X.env:=by rfl)
 (hfew:((E3 Ë (P9 [i,e] X.env)).all (λx=> !x.1)&&(g7 Ë (aY [] X.env)).all (λx=>x.1.isSome)&&decide ([i,e].length+([]:G0 aI).length+(if ([]:G0 aI).isEmpty then 0 else 1)<30))=xb:=by rfl)
 (hline:(apos.endLine==Ë.line)=xb:=by rfl)(hs:P9 [i,e] X.env=(xf,L7 i X.env)::P9 [e] X.env:=by rfl)(hs2:P9 [e] X.env=(xf,L7 e X.env)::P9 [] X.env:=by rfl)(hplain:(E3 Ë (P9 [e] X.env)).any (·.1)=xf:=by rfl):
 QE X (.Call (.Attribute o "insert" apos) [i,e] [] Ë) (HY to ti te):=
 (Dl X4 u6 u7 DU ho (zS hi (zS he Ą hs2) hs) hbase hfew hline hs hplain).imp
  λσ H Q ⟨Ä,h,Qd,rs,rh,t,p⟩=>LE.bind rs rh t λd v h1 H1 k1 Ý Î r1 ⟨a,e,q⟩=>by
   subst e;obtain⟨e1,vs,hH⟩:=(show v= .ref a/\ ∃vs,H1 a=zq (.lst vs) from r1);subst e1;refine⟨.inl ⟨rfl,vs,õ.of hH⟩,?_⟩;refine LE.bind Ý Î q λdi vi h2 H2 k2 İ ð r2 q2=>LE.bind İ ð q2 λy u h3 H3 k3 ũ đ r3 ⟨k,xs,ei,hk,hx,hz,q3⟩=> ?_
   subst ei;have ev:vi= .int (k:P4):=r2;obtain⟨ws,hW,r4⟩:=đ a xs hx;refine⟨a,ws,k,u,rfl,by rw [ev],hW,hk,by rw [<-r4.length];exact hz,p .non _ _ _ (k1.trans (k2.trans (k3.trans (.put hW)))) (đ.put hW ((r4.take k).append (.cons r3 (r4.drop k)))) rfl q3⟩
end
structure JE (X:Cx)(e:S2)(t:TED):Prop where
 to:QE X e t
structure JT (X:Cx)(e:S2)(t:TTD):Prop where
 to:QT X e t
structure JW (X:Cx)(e:S2)(t:TTD):Prop where
 to:QW X e t
structure JA (X:Cx)(e:G0 S2)(t:TAD):Prop where
 to:QA X e t
structure JS (X:Cx)(e:L8)(t:TSD):Prop where
 to:QS X e t
structure Ī (X:Cx)(e:G0 L8)(t:TSD):Prop where
 to:QSs X e t
structure JG (X:Cx)(e:S2)(t:TGD):Prop where
 to:QG X e t
structure JI (X:Cx)(tg e:S2)(t:TID):Prop where
 to:QI X tg e t
structure JO (X:Cx)(e:P1 S2)(t:TOD):Prop where
 to:QO X e t
section
variable {X:Cx}{a b c e:S2}{es rest:G0 S2}{ta tb tc te:TED}{t u:TAD}{tt tu:TTD}{pos:Pos}{f r r':RD2}
def jv (i:P0){x:Str}(hN:X.N[i]? =zq x:=by rfl)(hv:Vis X.env.scope x:=by first|exact A3 rfl|exact aR (A3 rfl)|exact aR (aR rfl))(hd:(x==("__debug__" :Str))=xf:=by decide)(hcd:(x==("__classdict__" :Str))=xf:=by decide):JE X (.Name x pos) (JM i):=⟨qv (i:=i) (hN:=hN) (hv:=hv) (hd:=hd) (hcd:=hcd)⟩
variable {j:P0}
def jw {i:P4}:JE X (.Constant (.int i) j pos) (dC (.int i)):=⟨HQ⟩
def Ŷ {i:N3}:JE X (.Constant (.bool i) j pos) (dC (.bl i)):=⟨qbl⟩
def JR:JE X (.Constant .none j pos) (dC .non):=⟨KA⟩
def JU {x:Str}:JE X (.Constant (.str x) j pos) (dC (.str x)):=⟨KB⟩
def UA {x:Str}{i:P4}{tk:Tok}(hg:Gl X x)(hm:X.mg x=zq (.int i tk))(hd:(x==("__debug__" :Str))=xf:=by decide):JE X (.Name x pos) (dC (.int i)):=⟨SZ (hg:=hg) (hm:=hm) (hd:=hd)⟩
def ó {op:qF}(ho:û X (K6 op) f)(ha:JE X a ta)(hb:JE X b tb):JE X (.BinOp a op b pos) (Ġ f ta tb):=⟨qop (ho:=ho) (ha:=ha.to) (hb:=hb.to)⟩
def HZ {op:lD}(ho:û X (B8 op) f)(ha:JE X a ta)(hb:JE X b tb)(hm:W5 op b=xf):JE X (.Compare a [op] [b] pos) (Ġ f ta tb):=⟨KC (ho:=ho) (ha:=ha.to) (hb:=hb.to) (hm:=hm)⟩
def GI {op:lD}(ho:û X (B8 op) f)(ha:JE X a ta)(hb:JE X b tb)(hm:W5 op b=xf):JT X (.Compare a [op] [b] pos) (Jl (Ġ f ta tb)):=⟨Ta (ho:=ho) (ha:=ha.to) (hb:=hb.to) (hm:=hm)⟩
def BW {op Ľ:lD}(ho:û X (B8 op) r)(ho':û X (B8 Ľ) r')(ha:JE X a ta)(hb:JE X b tb)(hc:JE X c tc)(hm:mD [op,Ľ] [b,c]=xf:=by with_unfolding_all rfl):JE X (.Compare a [op,Ľ] [b,c] pos) (Wp r r' ta tb tc):=⟨Au (ho:=ho) (ho':=ho') (ha:=ha.to) (hb:=hb.to) (hc:=hc.to) (hm:=hm)⟩
def Vk {op Ľ:lD}(ho:û X (B8 op) r)(ho':û X (B8 Ľ) r')(ha:JE X a ta)(hb:JE X b tb)(hc:JE X c tc)(hm:mD [op,Ľ] [b,c]=xf:=by with_unfolding_all rfl):JT X (.Compare a [op,Ľ] [b,c] pos) (Jl (Wp r r' ta tb tc)):=⟨Fj (ho:=ho) (ho':=ho') (ha:=ha.to) (hb:=hb.to) (hc:=hc.to) (hm:=hm)⟩
def wb (ha:JE X a ta)(he: ∀whole,isTrue a X.env whole=(do let v <-whole;cZ a.pos;Z6 [v] (mP v)):=by intro _;rfl):JT X a (Jl ta):=⟨Tb (ha:=ha.to) (he:=he)⟩
def Tz (ha:JT X a tt):JW X (.BoolOp .And [a] pos) tt:=⟨Tc (ha:=ha.to)⟩
def GJ (ha:JT X a tt):JW X (.BoolOp .Or [a] pos) tt:=⟨KG (ha:=ha.to)⟩
def TB (ha:JT X a tt)(hb:JW X (.BoolOp .And (b::rest) pos) tu):JW X (.BoolOp .And (a::b::rest) pos) (Fg tt tu):=⟨Td (ha:=ha.to) (hb:=hb.to)⟩
def Xw (ha:JT X a tt)(hb:JW X (.BoolOp .Or (b::rest) pos) tu):JW X (.BoolOp .Or (a::b::rest) pos) (Aj tt tu):=⟨KH (ha:=ha.to) (hb:=hb.to)⟩
def wc (ha:JT X a tt):JT X (.UnaryOp .Not a pos) (Dw tt):=⟨Te (ha:=ha.to)⟩
def DV {op:BoolOp}(ha:JE X a ta):JE X (.BoolOp op [a] pos) ta:=⟨KI (ha:=ha.to)⟩
def Nf (ha:JE X a ta)(hb:JE X (.BoolOp .And (b::rest) pos) tb):JE X (.BoolOp .And (a::b::rest) pos) (Dx ta tb):=⟨KJ (ha:=ha.to) (hb:=hb.to)⟩
def jor (ha:JE X a ta)(hb:JE X (.BoolOp .Or (b::rest) pos) tb):JE X (.BoolOp .Or (a::b::rest) pos) (SV ta tb):=⟨qor (ha:=ha.to) (hb:=hb.to)⟩
def Ka (ha:JE X a ta):JE X (.UnaryOp .Not a pos) (Dy ta):=⟨KL (ha:=ha.to)⟩
def jif {c:S2}(hc:JT X c tt)(ha:JE X a ta)(hb:JE X b tb):JE X (.IfExp c a b pos) (dIf tt ta tb):=⟨qif (hc:=hc.to) (ha:=ha.to) (hb:=hb.to)⟩
def zu:JA X [] Jk:=⟨Av⟩
def yf {k:P0}(h:JA X es t):JE X (.Tuple es k pos) (Oh t):=⟨KM (h:=h.to)⟩
def vB (h:JA X es t):JE X (.List es pos) (ME t):=⟨KN (h:=h.to)⟩
end
section
variable {X:Cx}{st:L8}{sts:G0 L8}{t u:TSD}{e:S2}{te:TED}{pos:Pos}
def UB:Ī X [] XH:=⟨AB⟩
def jy (h1:JS X st t)(h2:Ī X sts u):Ī X (st::sts) (yn t u):=⟨Fq (h1:=h1.to) (h2:=h2.to)⟩
def jO (h1:JS X st t):Ī X [st] t:=⟨AC (h1:=h1.to)⟩
def vC (he:JE X e te)(hs:U0 e xa pos.line X.env=pure xf:=by rfl):JS X (.Expr e pos) (Fl te):=⟨Ti (he:=he.to) (hs:=hs)⟩
def zf (he:JE X e te):JS X (.Return (zq e) pos) (DA te):=⟨KO (he:=he.to)⟩
def Ed {c:S2}{a b:G0 L8}{tc:TTD}(hc:JT X c tc)(ha:Ī X a t)(hb:Ī X b u):JS X (.If c a b pos) (Fm tc t u):=⟨KP (hc:=hc.to) (ha:=ha.to) (hb:=hb.to)⟩
variable {i:P0}{x:Str}
def Kb {pos':Pos}(hN:X.N.Nodup)(hi:X.N[i]? =zq x)(hx:Loc X.env.scope x)(he:JE X e te)(hs:U0 e (zq (.Name x pos')) pos.line X.env=pure xf:=by rfl)(hf:X.fn x=xb\/X.env.scope.names.lookup x=zq .local:=by first|exact .inl rfl|exact .inr rfl|assumption):JS X (.Assign [.Name x pos'] e pos) (Py i te):=⟨KQ (hN:=hN) (hi:=hi) (hx:=hx) (he:=he.to) (hs:=hs) (hf:=hf)⟩
def FM (hN:X.N.Nodup)(hi:X.N[i]? =zq x)(hx:Loc X.env.scope x)(hf:X.fn x=xb\/X.env.scope.names.lookup x=zq .local:=by first|exact .inl rfl|exact .inr rfl|assumption):JG X (.Name x pos) (gN i):=⟨Fs (hN:=hN) (hi:=hi) (hx:=hx) (hf:=hf)⟩
def yG {j:P0}{y:Str}{p1 p2:Pos}{k:P0}(hc:X.calm=xb)(hN:X.N.Nodup)(hi:X.N[i]? =zq x)(hj:X.N[j]? =zq y)(hx:Loc X.env.scope x)(hy:Loc X.env.scope y)(hf:X.fn x=xb\/X.env.scope.names.lookup x=zq .local:=by first|exact .inl rfl|exact .inr rfl|assumption)(hf2:X.fn y=xb\/X.env.scope.names.lookup y=zq .local:=by first|exact .inl rfl|exact .inr rfl|assumption):JG X (.Tuple [.Name x p1,.Name y p2] k pos) (gT2 i j):=⟨AD (hc:=hc) (hN:=hN) (hi:=hi) (hj:=hj) (hx:=hx) (hy:=hy) (hf:=hf) (hf2:=hf2)⟩
def Pz {tg:S2}{g:TGD}(he:JE X e te)(hg:JG X tg g)(hs:cU [tg] e pos.line X.env=pure xf:=by rfl)(hsw:cV [tg] e X.env=pure xa:=by rfl)(h1:(dG [tg] X.env).map (·.2)= [dF tg X.env]:=by rfl):JS X (.Assign [tg] e pos) (Tf te g):=⟨KR (he:=he.to) (hg:=hg.to) (hs:=hs) (hsw:=hsw) (h1:=h1)⟩
def Sk {j:P0}{y:Str}{a b:S2}{ta:TAD}{px py pt:Pos}{kt k2 pt2}(hc:X.calm=xb)(hN:X.N.Nodup)(hi:X.N[i]? =zq x)(hj:X.N[j]? =zq y)(hij:i≠j)(hx:X.env.scope.names.lookup x=zq .local)(hy:X.env.scope.names.lookup y=zq .local)(ha:JA X [a,b] ta)(hw:cV [.Tuple [.Name x px,.Name y py] kt pt] (.Tuple [a,b] k2 pt2) X.env=pure (zq [x,y]))(hs:cU [.Tuple [.Name x px,.Name y py] kt pt] (.Tuple [a,b] k2 pt2) pos.line X.env=pure xf:=by rfl):JS X (.Assign [.Tuple [.Name x px,.Name y py] kt pt] (.Tuple [a,b] k2 pt2) pos) (Tg i j ta):=⟨KS (hc:=hc) (hN:=hN) (hi:=hi) (hj:=hj) (hij:=hij) (hx:=hx) (hy:=hy) (ha:=ha.to) (hw:=hw) (hs:=hs)⟩
end
section
variable {X:Cx}{tg e iter elt:S2}{te:TED}{ti:TID}{g:TGD}{tb:TSD}{tt:TTD}{pos:Pos}{ta:TAD}{scope:A2}{js:G0 P0}{ifs:G0 S2}
def XM (he:JE X e te):JI X tg e (iL te):=⟨Fv (he:=he.to)⟩
def TC {p:Pos}{a:S2}(hg:Gl X "range")(hm:X.mg "range" =xa)(ha:JA X [a] ta)(hs:P9 [a] X.env= [(xf,L7 a X.env)]:=by rfl):JI X tg (.Call (.Name "range" p) [a] [] pos) (iR1 ta):=⟨Tl (hg:=hg) (hm:=hm) (ha:=ha.to) (hs:=hs)⟩
def QX {body:G0 L8}(hp:iJ (R3 X.prog X.w) X.A X.env X.xe)(hc:X.calm=xb)(hi:JI X tg iter ti)(hg:JG X tg g)(hb:Ī X body tb)(hs: ∀x,T5 iter X.env x=pure x:=by intro _;rfl):JS X (.For tg iter body [] pos) (Oi ti g tb):=⟨KT (hp:=hp) (hc:=hc) (hi:=hi.to) (hg:=hg.to) (hb:=hb.to) (hs:=hs)⟩
def JV:ģ X [] (LT X.K JN):=Fw
def XN {c:S2}(hc:JT X c tt):ģ X [c] (LT X.K tt):=Fx (hc:=hc.to)
def jlc {i:P0}{x:Str}{p:Pos}(hc:X.calm=xb)(S:Ñ X scope js)(hi:JI X (.Name x p) iter ti)(hj:i∈js)(hN:X.N.Nodup)(hx:X.N[i]? =zq x)(hl:scope.names.lookup x=zq .local\/scope.names.lookup x=zq .cell)(ht: ∀X',jj X scope X'->ģ X' ifs (LT X'.K tt))(he: ∀X',jj X scope X'->JE X' elt te)(hs: ∀x,T5 iter X.env x=pure x:=by intro _;rfl):JE X (.ListComp elt [⟨.Name x p,iter,ifs,0⟩] scope pos) (ZI (bN i) js ti tt te):=⟨qlc (hc:=hc) (S:=S) (hi:=hi.to) (hj:=hj) (hN:=hN) (hx:=hx) (hl:=hl) (ht:=ht) (he:=λX' hX=>(he X' hX).to) (hs:=hs)⟩
def Kc {i j:P0}{x y:Str}{p1 p2 p3:Pos}{k:P0}(hc:X.calm=xb)(S:Ñ X scope js)(hi:JI X (.Tuple [.Name x p1,.Name y p2] k p3) iter ti)(hj:i∈js)(hj2:j∈js)(hij:i≠j)(hN:X.N.Nodup)(hx:X.N[i]? =zq x)(hy:X.N[j]? =zq y)(hl:scope.names.lookup x=zq .local\/scope.names.lookup x=zq .cell)(hl2:scope.names.lookup y=zq .local\/scope.names.lookup y=zq .cell)(ht: ∀X',jj X scope X'->ģ X' ifs (LT X'.K tt))(he: ∀X',jj X scope X'->JE X' elt te)(hs: ∀x,T5 iter X.env x=pure x:=by intro _;rfl):JE X (.ListComp elt [⟨.Tuple [.Name x p1,.Name y p2] k p3,iter,ifs,0⟩] scope pos) (ZI (b2 i j) js ti tt te):=⟨KU (hc:=hc) (S:=S) (hi:=hi.to) (hj:=hj) (hj2:=hj2) (hij:=hij) (hN:=hN) (hx:=hx) (hy:=hy) (hl:=hl) (hl2:=hl2) (ht:=ht) (he:=λX' hX=>(he X' hX).to) (hs:=hs)⟩
end
section
variable {X:Cx}{k:P0}{f:G7}{fd:R8}{ps:G0 Str}{ą:RDn}{x:Str}{p pos:Pos}{e:S2}{es:G0 S2}{t:TAD}
def TD (F:Ì X.prog X.w X.K X.mg X.base à k f fd ps (í X.K ą))(hr:Ð k X.A)(hg:Gl X x)(hm:X.mg x=zq (.ref f))(hk:J8 X.K (.ref f)=xb)(hb:Binds X.K fd ps [])(ha:JA X (e::es) t)(hdb:(x==("__debug__" :Str))=xf:=by decide)(he:P9 (e::es) X.env=(xf,L7 e X.env)::P9 es X.env:=by rfl)(hpl:(E3 pos (P9 es X.env)).any (·.1)=xf:=by rfl):JE X (.Call (.Name x p) (e::es) [] pos) (Ķ ą t):=⟨Tn (F:=F) (hr:=hr) (hg:=hg) (hm:=hm) (hk:=hk) (hb:=hb) (ha:=ha.to) (hdb:=hdb) (he:=he) (hpl:=hpl)⟩
def yH {id:F7}{r:RDn}(hc:vP X (.builtin id) r)(hg:Gl X x)(hm:X.mg x=xa)(hv:Q5 x=zq (.builtin id))(ha:JA X (e::es) t)(hn:x≠ "__name__" :=by decide)(hdb:(x==("__debug__" :Str))=xf:=by decide)(he:P9 (e::es) X.env=(xf,L7 e X.env)::P9 es X.env:=by rfl)(hpl:(E3 pos (P9 es X.env)).any (·.1)=xf:=by rfl):JE X (.Call (.Name x p) (e::es) [] pos) (Ķ r t):=⟨AH (hc:=hc) (hg:=hg) (hm:=hm) (hv:=hv) (ha:=ha.to) (hn:=hn) (hdb:=hdb) (he:=he) (hpl:=hpl)⟩
def zj {T:F7}{r:RDn}(hc:vP X (.type T) r)(hg:Gl X x)(hm:X.mg x=xa)(hv:Q5 x=zq (.type T))(ha:JA X (e::es) t)(hn:x≠ "__name__" :=by decide)(hdb:(x==("__debug__" :Str))=xf:=by decide)(he:P9 (e::es) X.env=(xf,L7 e X.env)::P9 es X.env:=by rfl)(hpl:(E3 pos (P9 es X.env)).any (·.1)=xf:=by rfl):JE X (.Call (.Name x p) (e::es) [] pos) (Ķ r t):=⟨Fy (hc:=hc) (hg:=hg) (hm:=hm) (hv:=hv) (ha:=ha.to) (hn:=hn) (hdb:=hdb) (he:=he) (hpl:=hpl)⟩
end
section
variable {X:Cx}{iter elt:S2}{te:TED}{ti:TID}{tt:TTD}{pos ø:Pos}{scope:A2}{js:G0 P0}{ifs:G0 S2}
def Ee {i k:P0}{x y:Str}{p py:Pos}(hc:X.calm=xb)(hN:X.N.Nodup)(hk:X.N[k]? =zq y)(hy:Loc X.env.scope y)(S:Ñ X scope js)(hi:JI X (.Name x p) iter ti)(hj:i∈js)(hx:X.N[i]? =zq x)(hl:scope.names.lookup x=zq .local\/scope.names.lookup x=zq .cell)(ht: ∀X',jj X scope X'->ģ X' ifs (LT X'.K tt))(he: ∀X',jj X scope X'->JE X' elt te)(hsw:U0 (.ListComp elt [⟨.Name x p,iter,ifs,0⟩] scope pos) (zq (.Name y py)) ø.line X.env=pure xb:=by rfl)(hf:X.fn y=xb\/X.env.scope.names.lookup y=zq .local:=by first|exact .inl rfl|exact .inr rfl|assumption)(hs: ∀x,T5 iter X.env x=pure x:=by intro _;rfl):JS X (.Assign [.Name y py] (.ListComp elt [⟨.Name x p,iter,ifs,0⟩] scope pos) ø) (Py k (ZI (bN i) js ti tt te)):=⟨AI (hc:=hc) (hN:=hN) (hk:=hk) (hy:=hy) (S:=S) (hi:=hi.to) (hj:=hj) (hx:=hx) (hl:=hl) (ht:=ht) (he:=λX' hX=>(he X' hX).to) (hsw:=hsw) (hf:=hf) (hs:=hs)⟩
def FN {i j k:P0}{x1 x2 y:Str}{p1 p2 p3 py:Pos}{kk:P0}(hc:X.calm=xb)(hN:X.N.Nodup)(hk:X.N[k]? =zq y)(hy:Loc X.env.scope y)(S:Ñ X scope js)(hi:JI X (.Tuple [.Name x1 p1,.Name x2 p2] kk p3) iter ti)(hj:i∈js)(hj2:j∈js)(hij:i≠j)(hx:X.N[i]? =zq x1)(hx2:X.N[j]? =zq x2)(hl:scope.names.lookup x1=zq .local\/scope.names.lookup x1=zq .cell)(hl2:scope.names.lookup x2=zq .local\/scope.names.lookup x2=zq .cell)(ht: ∀X',jj X scope X'->ģ X' ifs (LT X'.K tt))(he: ∀X',jj X scope X'->JE X' elt te)(hsw:U0 (.ListComp elt [⟨.Tuple [.Name x1 p1,.Name x2 p2] kk p3,iter,ifs,0⟩] scope pos) (zq (.Name y py)) ø.line X.env=pure xb:=by rfl)(hf:X.fn y=xb\/X.env.scope.names.lookup y=zq .local:=by first|exact .inl rfl|exact .inr rfl|assumption)(hs: ∀x,T5 iter X.env x=pure x:=by intro _;rfl):JS X (.Assign [.Name y py] (.ListComp elt [⟨.Tuple [.Name x1 p1,.Name x2 p2] kk p3,iter,ifs,0⟩] scope pos) ø) (Py k (ZI (b2 i j) js ti tt te)):=⟨Fz (hc:=hc) (hN:=hN) (hk:=hk) (hy:=hy) (S:=S) (hi:=hi.to) (hj:=hj) (hj2:=hj2) (hij:=hij) (hx:=hx) (hx2:=hx2) (hl:=hl) (hl2:=hl2) (ht:=ht) (he:=λX' hX=>(he X' hX).to) (hsw:=hsw) (hf:=hf) (hs:=hs)⟩
end
section
variable {X:Cx}{iter ë elt:S2}{te:TED}{ti ŵ:TID}{tt Ι:TTD}{pos:Pos}{scope:A2}{js:G0 P0}{ifs Ħ:G0 S2}
def kg {i i':P0}{x y:Str}{p py:Pos}(hc:X.calm=xb)(S:Ñ X scope js)(hi:JI X (.Name x p) iter ti)(hj:i∈js)(hj':i'∈js)(hne:i≠i')(hN:X.N.Nodup)(hx:X.N[i]? =zq x)(hy:X.N[i']? =zq y)(hl:scope.names.lookup x=zq .local\/scope.names.lookup x=zq .cell)(hl':scope.names.lookup y=zq .local\/scope.names.lookup y=zq .cell)(ht: ∀X',jj X scope X'->ģ X' ifs (LT X'.K tt))(hi': ∀X',jj X scope X'->JI X' (.Name y py) ë ŵ)(ht': ∀X',jj X scope X'->ģ X' Ħ (LT X'.K Ι))(he: ∀X',jj X scope X'->JE X' elt te)(hs: ∀x,T5 iter X.env x=pure x:=by intro _;rfl)(hs': ∀env x,T5 ë env x=pure x:=by intro _ _;rfl):JE X (.ListComp elt [⟨.Name x p,iter,ifs,0⟩,⟨.Name y py,ë,Ħ,0⟩] scope pos) (Oj (bN i) js ti tt i' ŵ Ι te):=⟨KW (hc:=hc) (S:=S) (hi:=hi.to) (hj:=hj) (hj':=hj') (hne:=hne) (hN:=hN) (hx:=hx) (hy:=hy) (hl:=hl) (hl':=hl') (ht:=ht) (hi':=λX' hX=>(hi' X' hX).to) (ht':=ht') (he:=λX' hX=>(he X' hX).to) (hs:=hs) (hs':=hs')⟩
end
section
variable {X:Cx}{a b e:S2}{ta tb te:TED}{pos p2:Pos}
def jix (ha:JE X a ta)(hb:JE X b tb)(hs:YZ b):JE X (.Subscript a b pos) (Ġ ixD ta tb):=⟨qix (ha:=ha.to) (hb:=hb.to) (hs:=hs)⟩
end
variable {pos:Pos}
def ZM {a:S2}{ta:TED}{T:F7}{t:Str}{p p2:Pos}(hT:T∈ ["tuple","int","bool","list","str"])(hg:Gl X "isinstance")(hm:X.mg "isinstance" =xa)(hg2:Gl X t)(hm2:X.mg t=xa)(hv:Q5 t=zq (.type T))(ha:JE X a ta)(hn:t≠ "__name__" :=by decide)(hd:(t==("__debug__" :Str))=xf:=by decide)(h1:P9 [a,.Name t p2] X.env=(xf,L7 a X.env)::P9 [.Name t p2] X.env:=by rfl)(h2:(E3 pos (P9 [.Name t p2] X.env)).any (·.1)=xf:=by rfl):JE X (.Call (.Name "isinstance" p) [a,.Name t p2] [] pos) (dIs T ta):=⟨Tu (hT:=hT) (hg:=hg) (hm:=hm) (hg2:=hg2) (hm2:=hm2) (hv:=hv) (ha:=ha.to) (hn:=hn) (hd:=hd) (h1:=h1) (h2:=h2)⟩
section
variable {X:Cx}{o e i:S2}{to te ti:TED}{apos Ë pos:Pos}
def Ef (ho:JE X o to)(he:JE X e te)(hbase:K9 o "append" X.env (L7 o X.env)=L7 o X.env:=by rfl)(hfew:((E3 Ë (P9 [e] X.env)).all (λx=> !x.1)&&(g7 Ë (aY [] X.env)).all (λx=>x.1.isSome)&&decide ([e].length+([]:G0 aI).length+(if ([]:G0 aI).isEmpty then 0 else 1)<30))=xb:=by rfl)(hline:(apos.endLine==Ë.line)=xb:=by rfl)(hs:P9 [e] X.env=(xf,L7 e X.env)::P9 [] X.env:=by rfl)(hplain:(E3 Ë (P9 [] X.env)).any (·.1)=xf:=by rfl):JE X (.Call (.Attribute o "append" apos) [e] [] Ë) (HW to te):=⟨KY (ho:=ho.to) (he:=he.to) (hbase:=hbase) (hfew:=hfew) (hline:=hline) (hs:=hs) (hplain:=hplain)⟩
def QY (ho:JE X o to)(hi:JE X i ti)(ha: ∀v,dF (.Subscript o i pos) X.env v=(do
 let ov <-Z6 [v] (L7 o X.env)
 let iv <-Z6 [v,ov] (L7 i X.env)
 cZ pos
 Z6 [v,ov,iv] (tO ov iv v)
 G0k [v,ov,iv] []):=by intro _;rfl):JG X (.Subscript o i pos) (AR to ti):=⟨AS (ho:=ho.to) (hi:=hi.to) (ha:=ha)⟩
end
def ξ {e:S2}{t:TTD}(h:JW X e t):JT X e t:=⟨qpt (h:=h.to)⟩
def vT:JO X xa yP:=⟨FH⟩
variable {te:TED}
def yq {e:S2}(he:JE X e te):JO X (zq e) (Uw te):=⟨FI (he:=he.to)⟩
def Zu {e:S2}{lo hi:P1 S2}{tl th:TOD}{p2:Pos}(he:JE X e te)(hl:JO X lo tl)(hu:JO X hi th):JE X (.Subscript e (.Slice lo hi xa p2) pos) (dSl te tl th):=⟨AT (he:=he.to) (hl:=hl.to) (hu:=hu.to)⟩
def Eg {a:S2}{ta:TED}(ha:JE X a ta):JE X (.UnaryOp .USub a pos) (dUn Sj ta):=⟨HX (ha:=ha.to)⟩
def BX {ks:G0 (P1 S2)}{vs:G0 S2}{x:Str}{i:P4}(h:XJ ks vs=zq (x,i):=by rfl):JE X (.Dict ks vs pos) (Uy x i):=⟨AV (h:=h)⟩
def wG {tg e:S2}(he:JE X e te):JI X tg e (iS te):=⟨AZ (he:=he.to)⟩
def UC {st:L8}:JS X st DO:=⟨Ea⟩
def Ć {e:S2}{es:G0 S2}{t:TAD}(ha:JE X e te)(hr:JA X es t)(h:zH e=xb:=by rfl):JA X (e::es) (jP te t):=⟨qac (ha:=ha.to) (hr:=hr.to) (h:=h)⟩
section
variable {X:Cx}{o e i:S2}{to te ti:TED}{apos Ë:Pos}
def kh (ho:JE X o to)(hi:JE X i ti)(he:JE X e te)(hbase:K9 o "insert" X.env (L7 o X.env)=L7 o X.env:=by rfl)(hfew:((E3 Ë (P9 [i,e] X.env)).all (λx=> !x.1)&&(g7 Ë (aY [] X.env)).all (λx=>x.1.isSome)&&decide ([i,e].length+([]:G0 aI).length+(if ([]:G0 aI).isEmpty then 0 else 1)<30))=xb:=by rfl)(hline:(apos.endLine==Ë.line)=xb:=by rfl)(hs:P9 [i,e] X.env=(xf,L7 i X.env)::P9 [e] X.env:=by rfl)(hs2:P9 [e] X.env=(xf,L7 e X.env)::P9 [] X.env:=by rfl)(hplain:(E3 Ë (P9 [e] X.env)).any (·.1)=xf:=by rfl):JE X (.Call (.Attribute o "insert" apos) [i,e] [] Ë) (HY to ti te):=⟨kf (ho:=ho.to) (hi:=hi.to) (he:=he.to) (hbase:=hbase) (hfew:=hfew) (hline:=hline) (hs:=hs) (hs2:=hs2) (hplain:=hplain)⟩
end
section
variable {P:D5}{w:T8}{K:G3}{mg:Str->P1 G1}{base:N8}
def â.okJ {x qual:Str}{st:L8}{f:G7}{fd:R8}{N ps:G0 Str}{k:P0}{ą:RDn}(F:â K x qual st f fd)(S:Ã N ps (jd st))(len: ∀ds h Q,ą ds h Q->ds.length=ps.length)
 (tb:TSD)(Þ: ∀ (Ï:G1) (A:S4) (outer:G0 Env) (s:G2) (H:Hp) (E:XK),Ð k (A.deeper (K2 qual (jd st) s.heap.objs.size f Ï))->Ī (ZT à P w K mg base N qual (jd st) f Ï A outer s H E).nox (jL st) tb)
 (read: ∀ds h Q,ą ds h Q->tb (Xv Q) (zt N ds) h):Ì P w K mg base à (k+1) f fd ps (í K ą):=F.okD S len tb (λÏ A outer s H E hr=>(Þ Ï A outer s H E hr).to) read
end
def wU (r:G0 P4):D:= .tup (r.map D.int)
def ju (T:G0 (G0 P4)):D:= .tup (T.map wU)
def yr (n:P0)(r:G0 P4):Prop:=r.length=n/\ ∀x∈r,0<=x/\x<=1000000
def ĸ (n:P0)(T:G0 (G0 P4)):Prop:=T.length=n/\ ∀r∈T,yr n r
structure Sq (n e:P0)(T:G0 (G0 P4)):Prop where
 len:T.length=n
 row: ∀r∈T,r.length=n
 nn: ∀r∈T,∀x∈r,0<=x
 bit: ∀r∈T,∀x∈r,x<2^e
variable {n:P0}{T:G0 (G0 P4)}
def ĸ.sq (g:ĸ n T):Sq n 20 T:=⟨g.1,λr hr=>(g.2 r hr).1,λr hr x hx=>((g.2 r hr).2 x hx).1,λr hr x hx=>pU ((g.2 r hr).2 x hx).2 (by decide)⟩
def ě (T:G0 (G0 P4))(i j:P0):P4:=(T.getD i []).getD j 0
def mkT (n:P0)(f:P0->P0->P4):G0 (G0 P4):=(R6 n).map λi=>(R6 n).map λj=>f i j
def wu {α:Type}(xs:G0 α)(d:α):xs=(R6 xs.length).map λi=>xs.getD i d:=by
 apply List.ext_getElem (by simp);intro i h1 h2;simp [T3,h1]
variable {e:P0}
def Sq.eq_mk (h:Sq n e T):T=mkT n (ě T):=by
 have h1:=wu T [];rw [h.len] at h1;unfold mkT
 conv=>lhs;rw [h1]
 apply O5;intro i hi;have hi':i<T.length:=by rw [h.len];exact O4.mp hi
 have hr:(T.getD i []).length=n:=by
  rw [T3,G5 hi'];exact h.row _ (N9 hi')
 have h2:=wu (T.getD i []) 0;rw [hr] at h2;exact h2
def Sq.of_mk {f:P0->P0->P4}(h0: ∀i j,i<n->j<n->0<=f i j)(h1: ∀i j,i<n->j<n->f i j<2^e):Sq n e (mkT n f):=by
 have key: ∀r∈mkT n f,∃i,i<n/\r=(R6 n).map λj=>f i j:=λr hr=>by
  obtain⟨i,hi,e⟩:=N5.mp hr;exact⟨i,O4.mp hi,e.symm⟩
 refine⟨by simp [mkT],λr hr=> ?_,λr hr x hx=> ?_,λr hr x hx=> ?_⟩
 ·obtain⟨i,_,e⟩:=key r hr;rw [e];simp
 ·obtain⟨i,hi,e⟩:=key r hr;rw [e] at hx;obtain⟨j,hj,e2⟩:=N5.mp hx;rw [<-e2];exact h0 i j hi (O4.mp hj)
 ·obtain⟨i,hi,e⟩:=key r hr;rw [e] at hx;obtain⟨j,hj,e2⟩:=N5.mp hx;rw [<-e2];exact h1 i j hi (O4.mp hj)
def Sq.ent_nn (h:Sq n e T){i j:P0}(hi:i<n)(hj:j<n):0<=ě T i j/\ě T i j<2^e:=by
 have hi':i<T.length:=by rw [h.len];exact hi
 have hr:T.getD i []=T[i]:=by rw [T3,G5 hi'];rfl
 have hm:T[i]∈T:=N9 hi';have hj':j<T[i].length:=by rw [h.row _ hm];exact hj
 have he:ě T i j=T[i][j]:=by unfold ě;rw [hr,T3,G5 hj'];rfl
 rw [he];exact⟨h.nn _ hm _ (N9 hj'),h.bit _ hm _ (N9 hj')⟩
def Yc (n:P0)(f:P0->P4):P4:=((R6 n).map f).sum
def GK (f:P0->P4):Yc 0 f=0:=rfl
def YE (n:P0)(f:P0->P4):Yc (n+1) f=Yc n f+f n:=by
 unfold Yc;rw [dD,T9,sZ];simp
def Ng {f:P0->P4}(h: ∀k,k<n->0<=f k):0<=Yc n f:=by
 induction n with
 |zero=>exact Int.le_refl _
 |succ n ih=>rw [YE];have:=ih λk hk=>h k (by omega);have:=h n (by omega);omega
def Nh {f:P0->P4}{b:P4}(h: ∀k,k<n->f k<=b):Yc n f<=n*b:=by
 induction n with
 |zero=>simp [GK]
 |succ n ih=>
  rw [YE];have h1:=ih λk hk=>h k (by omega);have h2:=h n (by omega)
  have:((n+1:P0):P4)*b=(n:P4)*b+b:=by rw [tD,Int.add_mul];simp
  omega
def FO (n:P0)(T U:G0 (G0 P4)):G0 (G0 P4):=mkT n λi j=>Yc n λk=>ě T i k*ě U k j
def Sq.mul {f:P0}{U:G0 (G0 P4)}(h:Sq n e T)(g:Sq n f U)(hn:n<=8):Sq n (e+f+3) (FO n T U):=by
 have nn: ∀i j,i<n->j<n-> ∀k,k<n->0<=ě T i k*ě U k j:=λi j hi hj k hk=>Int.mul_nonneg (h.ent_nn hi hk).1 (g.ent_nn hk hj).1
 refine Sq.of_mk (λi j hi hj=>Ng (nn i j hi hj)) λi j hi hj=> ?_
 have hle: ∀k,k<n->ě T i k*ě U k j<=2^e*2^f-1:=λk hk=>by
  have a:=h.ent_nn hi hk;have b:=g.ent_nn hk hj;have:ě T i k*ě U k j<2^e*2^f:=by
   have p:(0:P4)<2^f:=sL (by decide)
   calc ě T i k*ě U k j<=ě T i k*2^f:=Int.mul_le_mul_of_nonneg_left (xS b.2) a.1
    _<2^e*2^f:=Int.mul_lt_mul_of_pos_right a.2 p
  omega
 have s:=Nh hle;have p:(0:P4)<2^e*2^f:=Int.mul_pos (sL (by decide)) (sL (by decide));have e1:(2:P4)^(e+f+3)=8*(2^e*2^f):=by rw [IG,IG];rw [Int.mul_comm];rfl
 rw [e1];have hn':(n:P4)<=8:=by omega
 have:(n:P4)*(2^e*2^f-1)<=8*(2^e*2^f-1):=Int.mul_le_mul_of_nonneg_right hn' (by omega);omega
def TF (n:P0):G0 (G0 P4):=mkT n λi j=>if i=j then 1 else 0
def Sq.one (n:P0):Sq n 1 (TF n):=Sq.of_mk (f:=λi j=>if i=j then 1 else 0) (λi j _ _=>by split<;>decide) λi j _ _=>by split<;>decide
def TH (n:P0)(T:G0 (G0 P4)):P0->G0 (G0 P4)
 |0=>TF n
 |k+1=>FO n (TH n T k) T
def Eh (n:P0)(T:G0 (G0 P4)):G0 (G0 P4):=mkT n λi j=>ě T j i
def GL (n:P0)(T:G0 (G0 P4)):G0 (G0 P4):=mkT n λi j=>if ě T i j=0 then 0 else 1
def Sq.turn (h:Sq n e T):Sq n e (Eh n T):=Sq.of_mk (λi j hi hj=>(h.ent_nn hj hi).1) λi j hi hj=>(h.ent_nn hj hi).2
def Sq.mark (T:G0 (G0 P4)):Sq n 1 (GL n T):=Sq.of_mk (f:=λi j=>if ě T i j=0 then 0 else 1) (λi j _ _=>by split<;>decide) λi j _ _=>by split<;>decide
structure Ord (n:P0)(o:G0 P0):Prop where
 len:o.length=n
 all: ∀i,i<n->i∈o
def UD (T:G0 (G0 P4)):N3:=T.all λr=>r.all λx=>decide (x≠0)
def MulOk (i j:P4):Prop:= ∃m n:P0,i.natAbs<2^m/\j.natAbs<2^n/\m+n<=134217728
def MulOk.ok {i j:P4}(h:MulOk i j):IntMulOk i j:=by
 obtain⟨m,n,a,b,c⟩:=h;exact .of_le (oB.mpr a) (oB.mpr b) c
def FP:Ĉ X (K6 .Mult) (rI MulOk λi j=> .int (i*j)):=opI λ_ _ _ _ _ _ _ hc q=>mul_int q hc.ok
def ki:RD2:=λx y h Q=>match x,y with
 | .int i,.int j=>MulOk i j/\Q (.int (i*j)) h
 |_,_=>False
def FQ:û X (K6 .Mult) ki:=Vd (gd:=λi j=> .int (i*j)) FP (λ_ _ _=>rfl) λx y h Q q=>by
 cases x<;>cases y<;>first|exact xn q|exact⟨_,_,rfl,rfl,q.1,q.2⟩
def UE {x:P4}(h0:0<=x)(h1:x<2^e):x.natAbs<2^e:=by
 have:((2^e:P0):P4)=2^e:=by simp
 omega
def Ni {x y:P4}{f:P0}(hx:0<=x/\x<2^e)(hy:0<=y/\y<2^f)(h:e+f<=134217728):MulOk x y:=⟨e,f,UE hx.1 hx.2,UE hy.1 hy.2,h⟩
section
variable {α β:Type}{i i':P0}{js:G0 P0}{ti ŵ:TID}{te:TED}{σ:SD}{h:HD}{Q:KD}{j:ItD}
def lcA (xs:G0 α)(c g:α->D)(hz:xs.length<=1000)(hj:j h=zq (xs.map c))(ht: ∀R:ItD->HD->Prop,R j h->ti σ h R)
 (he: ∀x∈xs,∀Q':KD,Q' (g x) h->te ((zg js σ).set i (zq (c x))) h Q')(hq: ∀p,h p=xa->Q (.lst p) (wd h p (xs.map g))):ZI (bN i) js ti JN te σ h Q:=by
 refine ht _ ⟨xs.length,λk ys h'=>h'=h/\ys=(xs.take k).map g,⟨rfl,by simp⟩,?_⟩;rintro k ys h' ⟨rfl,rfl⟩;refine⟨by simp only [G6,S1];exact T6 (zk (by omega)),xs.map c,hj,by simp,λhl p hp=> ?_,λd hd=>⟨_,rfl,?_⟩⟩
 ·rw [S3 (by simpa using hl)];exact hq p hp
 ·unfold JN;dsimp only;rw [S5 rfl];rw [D1] at hd;cases hx:xs[k]? with
  |none=>rw [hx] at hd;cases hd
  |some x=>
   rw [hx] at hd;cases hd;refine he x (P5 hx) _ ⟨h',Sub.refl _,rfl,?_⟩;rw [L5,hx];simp
def lcF (xs:G0 α)(c g:α->D)(p:α->N3){tt:TTD}(hz:xs.length<=1000)(hj:j h=zq (xs.map c))(ht: ∀R:ItD->HD->Prop,R j h->ti σ h R)
 (hp: ∀x∈xs,∀Q':N3->HD->Prop,Q' (p x) h->tt ((zg js σ).set i (zq (c x))) h Q')(he: ∀x∈xs,p x=xb-> ∀Q':KD,Q' (g x) h->te ((zg js σ).set i (zq (c x))) h Q')(hq: ∀a,h a=xa->Q (.lst a) (wd h a ((xs.filter p).map g))):ZI (bN i) js ti tt te σ h Q:=by
 refine ht _ ⟨xs.length,λk ys h'=>h'=h/\ys=((xs.take k).filter p).map g,⟨rfl,by simp⟩,?_⟩;rintro k ys h' ⟨rfl,rfl⟩;refine⟨?_,xs.map c,hj,by simp,λhl a ha=> ?_,λd hd=>⟨_,rfl,?_⟩⟩
 ·have:=V9 p (xs.take k);simp only [G6,S1] at this ⊢;exact T6 (zk (by omega))
 ·rw [S3 (by simpa using hl)];exact hq a ha
 ·rw [D1] at hd;cases hx:xs[k]? with
  |none=>rw [hx] at hd;cases hd
  |some x=>
   rw [hx] at hd;cases hd;refine hp x (P5 hx) _ ?_;cases hb:p x with
   |true=>
    rw [S5 rfl];refine he x (P5 hx) hb _ ⟨h',Sub.refl _,rfl,?_⟩;rw [L5,hx];simp [hb]
   |false=>
    rw [R9 D2];refine⟨h',Sub.refl _,rfl,?_⟩;rw [L5,hx];simp [hb]
def lcB (xs:G0 α)(c:α->D)(ys:α->G0 β)(c':β->D)(g:α->β->D)(hz:(xs.flatMap ys).length<=1000)(hj:j h=zq (xs.map c))(ht: ∀R:ItD->HD->Prop,R j h->ti σ h R)
 (hin: ∀x∈xs,∀R:ItD->HD->Prop,R (λ_=>zq ((ys x).map c')) h->ŵ ((zg js σ).set i (zq (c x))) h R)
 (he: ∀x∈xs,∀y∈ys x,∀Q':KD,Q' (g x y) h->te (((zg js σ).set i (zq (c x))).set i' (zq (c' y))) h Q')(hq: ∀p,h p=xa->Q (.lst p) (wd h p (xs.flatMap λx=>(ys x).map (g x)))):Oj (bN i) js ti JN i' ŵ JN te σ h Q:=by
 have len: ∀l:G0 α,(l.flatMap λx=>(ys x).map (g x)).length=(l.flatMap ys).length:=λl=>by
  induction l with
  |nil=>rfl
  |cons x l ih=>simp [fA,ih]
 have lek: ∀k,((xs.take k).flatMap ys).length<=(xs.flatMap ys).length:=λk=>by
  conv=>rhs;rw [<-M7 k xs,iE,P3]
  omega
 have X1V: ∀k x m,xs[k]? =zq x->m<=(ys x).length->((xs.take k).flatMap ys).length+m<=(xs.flatMap ys).length:=λk x m hx hm=>by
  have:=lek (k+1);rw [L5,hx,iE,P3] at this;simp at this;simp;omega
 refine ht _ ⟨xs.length,λk zs h'=>h'=h/\zs=(xs.take k).flatMap λx=>(ys x).map (g x),⟨rfl,by simp⟩,?_⟩;rintro k zs h' ⟨rfl,rfl⟩;refine⟨by rw [len];exact T6 (zk (M1 (lek k) hz)),xs.map c,hj,by simp,λhl p hp=> ?_,λd hd=>⟨_,rfl,?_⟩⟩
 ·rw [S3 (by simpa using hl)];exact hq p hp
 ·unfold JN;dsimp only;rw [S5 rfl];rw [D1] at hd;cases hx:xs[k]? with
  |none=>rw [hx] at hd;cases hd
  |some x=>
   rw [hx] at hd;cases hd;have xm:=P5 hx;refine hin x xm _ ⟨(ys x).length,λm zs h2=>h2=h'/\zs=((xs.take k).flatMap λx=>(ys x).map (g x))++((ys x).take m).map (g x),⟨rfl,by simp⟩,?_⟩;rintro m zs h2 ⟨rfl,rfl⟩;refine⟨?_,(ys x).map c',rfl,by simp,λhl=>⟨h2,Sub.refl _,rfl,?_⟩,λd hd=> ?_⟩
   ·rw [P3,len,G6,S1];have:=X1V k x (min m (ys x).length) hx (Y6 _ _);exact T6 (zk (by omega))
   ·have hm:(ys x).take m=ys x:=S3 (by simpa using hl);rw [hm,L5,hx,iE];simp
   ·rw [D1] at hd;cases hy:(ys x)[m]? with
    |none=>rw [hy] at hd;cases hd
    |some y=>
     rw [hy] at hd;cases hd
     first
      |rw [S5 rfl]
      |(dsimp only;rw [S5 rfl])
     refine he x xm y (P5 hy) _ ⟨h2,Sub.refl _,rfl,?_⟩;rw [L5,hy];simp
def FR (xs:G0 α)(c g:α->D)(hz:xs.length<=1000)(hj:j h=zq (xs.map c))(ht: ∀R:ItD->HD->Prop,R j h->ti σ h R)
 (he: ∀x∈xs,∀Q':KD,Q' (g x) h->te ((zg js σ).set i (zq (c x))) h Q')(hq:Q (.tup (xs.map g)) h):Ķ QU (jP (ZI (bN i) js ti JN te) Jk) σ h Q:=by
 show ZI (bN i) js ti JN te σ h (λx h1=>QU [x] h1 Q);exact lcA xs c g hz hj ht he λp hp=>(show ∃ys,wd h p (xs.map g) p=zq ys/\Q (.tup ys) (Uq (wd h p (xs.map g)) p) from ⟨_,jc,by rw [wE hp];exact hq⟩)
def kj (xs:G0 α)(c:α->D)(g:α->P4)(hz:xs.length<=1000)(hj:j h=zq (xs.map c))(ht: ∀R:ItD->HD->Prop,R j h->ti σ h R)
 (he: ∀x∈xs,∀Q':KD,Q' (.int (g x)) h->te ((zg js σ).set i (zq (c x))) h Q')(hq:Q (.int (xs.map g).sum) h):Ķ Ty (jP (ZI (bN i) js ti JN te) Jk) σ h Q:=by
 show ZI (bN i) js ti JN te σ h (λx h1=>Ty [x] h1 Q);exact lcA xs c (λx=> .int (g x)) hz hj ht he λp hp=>⟨p,xs.map g,rfl,by rw [jc,M9];rfl,by rw [wE hp];exact hq⟩
def kl (xs:G0 α)(c:α->D)(g:α->N3)(hz:xs.length<=1000)(hj:j h=zq (xs.map c))(ht: ∀R:ItD->HD->Prop,R j h->ti σ h R)
 (he: ∀x∈xs,∀Q':KD,Q' (.bl (g x)) h->te ((zg js σ).set i (zq (c x))) h Q')(hq:Q (.bl (xs.all g)) h):Ķ AQ (jP (ZI (bN i) js ti JN te) Jk) σ h Q:=by
 show ZI (bN i) js ti JN te σ h (λx h1=>AQ [x] h1 Q);exact lcA xs c (λx=> .bl (g x)) hz hj ht he λp hp=>⟨p,xs.map g,rfl,by rw [jc,M9];rfl,by rw [wE hp,cJ];exact hq⟩
def Kd (xs:G0 α)(c:α->D)(g:α->N3)(hz:xs.length<=1000)(hj:j h=zq (xs.map c))(ht: ∀R:ItD->HD->Prop,R j h->ti σ h R)
 (he: ∀x∈xs,∀Q':KD,Q' (.bl (g x)) h->te ((zg js σ).set i (zq (c x))) h Q')(hq:Q (.bl (xs.any g)) h):Ķ Tv (jP (ZI (bN i) js ti JN te) Jk) σ h Q:=by
 show ZI (bN i) js ti JN te σ h (λx h1=>Tv [x] h1 Q);exact lcA xs c (λx=> .bl (g x)) hz hj ht he λp hp=>⟨p,xs.map g,rfl,by rw [jc,M9];rfl,by rw [wE hp,qS];exact hq⟩
def kr (xs:G0 α)(c:α->D)(ys:α->G0 β)(c':β->D)(g:α->β->N3)(hz:(xs.flatMap ys).length<=1000)(hj:j h=zq (xs.map c))(ht: ∀R:ItD->HD->Prop,R j h->ti σ h R)
 (hin: ∀x∈xs,∀R:ItD->HD->Prop,R (λ_=>zq ((ys x).map c')) h->ŵ ((zg js σ).set i (zq (c x))) h R)
 (he: ∀x∈xs,∀y∈ys x,∀Q':KD,Q' (.bl (g x y)) h->te (((zg js σ).set i (zq (c x))).set i' (zq (c' y))) h Q')(hq:Q (.bl (xs.all λx=>(ys x).all (g x))) h):Ķ AQ (jP (Oj (bN i) js ti JN i' ŵ JN te) Jk) σ h Q:=by
 show Oj (bN i) js ti JN i' ŵ JN te σ h (λx h1=>AQ [x] h1 Q);refine lcB xs c ys c' (λx y=> .bl (g x y)) hz hj ht hin he λp hp=> ?_
 ·have e:(xs.flatMap λx=>(ys x).map λy=>D.bl (g x y))=(xs.flatMap λx=>(ys x).map (g x)).map D.bl:=by
   clear hz hj ht hin he hq
   induction xs with
   |nil=>rfl
   |cons x l ih=>simp [fA,ih,M9]
  refine⟨p,xs.flatMap λx=>(ys x).map (g x),rfl,by rw [jc,e],?_⟩;rw [wE hp];have e2:(xs.flatMap λx=>(ys x).map (g x)).all id=xs.all λx=>(ys x).all (g x):=by
   clear hz hj ht hin he hq e
   induction xs with
   |nil=>rfl
   |cons x l ih=>simp [fA,ih,cJ]
  rw [e2];exact hq
end
end L2
namespace L2
open PySem PySem.Spec PyProof.Rows PySem.SeqAt
def XO (o:G0 P0):D:= .tup (o.map λ(k:P0)=>D.int (k:P4))
def ı (n:P0)(o:G0 P0):Prop:=o.Perm (R6 n)
variable {n:P0}
def ı.ord {o:G0 P0}(h:ı n o):Ord n o:=⟨by rw [h.length_eq,B3],λi hi=>h.mem_iff.mpr (O4.mpr hi)⟩
def ı.insert {o:G0 P0}(h:ı n o)(k:P0):ı (n+1) (o.take k++n::o.drop k):=by
 unfold ı;rw [dD];refine mK.trans ?_;rw [M7];exact(G0S n h).trans (List.perm_append_singleton n _).symm
theorem UF (h:HD): ∀ns:G0 P4,ĩ h (ns.map D.int) (ns.map i4)
 | []=>rfl
 |n::ns=>⟨_,_,rfl,rfl,UF h ns⟩
theorem vU: ∀ns:G0 P4,C3 (ns.map i4)=xb
 | []=>rfl
 |n::ns=>by show (A8 (.int n)&&_)=xb;rw [vU ns];rfl
theorem JY: ∀ns:G0 P4,B9 (ns.map i4)<=1
 | []=>by simp [B9]
 |n::ns=>by
  have:=JY ns;simp only [S9,B9,J6];omega
def vD (r:G0 P4):K8:= .tuple (r.map .int)
def PB (T:G0 (G0 P4)):K8:= .tuple (T.map vD)
theorem UG (h:HD): ∀T:G0 (G0 P4),ĩ h (T.map wU) (T.map vD)
 | []=>rfl
 |r::T=>⟨_,_,rfl,⟨_,rfl,UF h r⟩,UG h T⟩
def FS (h:HD)(T:G0 (G0 P4)):Ĩ h (ju T) (PB T):=⟨_,rfl,UG h T⟩
theorem vV: ∀T:G0 (G0 P4),C3 (T.map vD)=xb
 | []=>rfl
 |r::T=>by
  show (A8 (vD r)&&_)=xb;rw [vV T];have:A8 (vD r)=xb:=by unfold vD;simp only [A8];exact vU r
  rw [this];rfl
theorem vp: ∀T:G0 (G0 P4),B9 (T.map vD)<=3
 | []=>by simp [B9]
 |r::T=>by
  have:=vp T;have h2:=JY r;simp only [S9,B9,J6,vD];omega
variable {e:P0}{T:G0 (G0 P4)}
def FT (h:Sq n e T){i:P0}(hi:i<n):ĕ (T.map wU) (i:P4)=zq (wU (T.getD i [])):=by
 have hi':i<T.length:=by rw [h.len];exact hi
 exact zU (by rw [D1,T3,G5 hi'];rfl)
def Sq.getRow (h:Sq n e T){i:P0}(hi:i<n):T.getD i []∈T:=by
 have hi':i<T.length:=by rw [h.len];exact hi
 rw [T3,G5 hi'];exact N9 hi'
def XQ {r:G0 P4}(h:r.length=n){j:P0}(hj:j<n):ĕ (r.map D.int) (j:P4)=zq (.int (r.getD j 0)):=by
 have hj':j<r.length:=by rw [h];exact hj
 exact zU (by rw [D1,T3,G5 hj'];rfl)
def Ei (n:P0)(f:P0->P0->P4):D.tup ((R6 n).map λi=>D.tup ((R6 n).map λj=>D.int (f i j)))=ju (mkT n f):=by
 unfold ju wU mkT;rw [M9]
 congr 1
 apply O5;intro i _;simp [M9,fB]
def FU (T:G0 (G0 P4))(f:P4->P4):D.tup (T.map λr=>D.tup (r.map λx=>D.int (f x)))=ju (T.map λr=>r.map f):=by
 unfold ju wU;rw [M9]
 congr 1
 apply O5;intro r _;simp [M9,fB]
def FV (h:Sq n e T):GL n T=T.map λr=>r.map λx=>if x≠0 then 1 else 0:=by
 conv=>rhs;rw [h.eq_mk]
 unfold GL mkT;rw [M9];apply O5;intro i _;simp only [V3,M9];apply O5;intro j _;simp only [V3]
 by_cases z:ě T i j=0
 ·rw [S5 z,R9 (by simpa using z)]
 ·rw [R9 z,S5 z]
def Nj (h:Sq n e T)(h6:n<=6):(T.flatMap λr=>r).length<=1000:=by
 have: ∀U:G0 (G0 P4),(∀r∈U,r.length=n)->(U.flatMap λr=>r).length=U.length*n:=λU=>by
  induction U with
  |nil=>intro _;simp
  |cons r U ih=>
   intro hU;rw [fA,P3,ih λr hr=>hU r (M5 _ hr),hU r R1,D8,xR];omega
 rw [this T h.row,h.len];have:=Nat.mul_le_mul h6 h6;omega
def Nk {U:G0 (G0 P4)}(h:Sq n e T):(T.map λr=>D.tup ((R6 n).map λj=>D.int (Yc n λm=>r.getD m 0*ě U m j)))=(FO n T U).map wU:=by
 conv=>lhs;rw [wu T [],h.len]
 unfold FO mkT;rw [M9,M9];apply O5;intro i _;simp only [V3,wU,M9];rfl
section
variable {prog:D5}{w:T8}{A:S4}{E:G1->G2->Prop}{s:G2}
def vW {Q:iK->G2->Prop}(hh:A.handled=xa)(hE: ∀h' e,(∀b o,s.heap.get? b=zq o->h'.get? b=zq o)->(∃o,h'.get? e=zq o/\o.cls= .type "StopIteration")->E (.ref e) {s with heap:=h'}):D6 (R3 prog w) A fC Q E s:=by
 obtain⟨hp,g,d,tk,os⟩:=s;unfold fC
 wp_walk
 unfold IH;refine xg (wpAny_handled ?_);rw [hh];exact xg (G8 (wpAny_throw (hE _ _ (λb o q=>G9 _ (G9 _ q)) ⟨_,S7 _ rfl,rfl⟩)))
end
section
variable {X:Cx}{À:G0 (G7×Obj)}{σ:G0 (P1 V)}{H:Hp}{s:G2}{h':N8}
def Inv.turnL {t':P0}{ch:G0 G7}(I:Inv X À σ H s)(k: ∀b o,b ∉ ch->s.heap.get? b=zq o->h'.get? b=zq o)(hc: ∀b∈ch,Px X À H b):Inv X À σ H {s with heap:=h',toks:=t'}:=by
 refine I.step (g':=s.gens) (d':=s.drawn) (ch:=ch) (λb hb=>let ⟨_,f1,_,f3,f4,f5⟩:=hc b hb;⟨f3,f1,f4,f5⟩) (λb o _ _ nb e _=>k b o nb e) (λb o _ _ nb e _=>⟨o.slots,k b o nb e⟩) (λ_ _ _ _ n=>n)
  (λb o nb e=>⟨o,k b o nb e⟩) (λ_ _ e=>e) (λ_ _ _ e=>e) (λb ps e=>⟨#[],by rw [e];simp⟩) (λm hm=> ?_) (λb u e=> ?_) I.bare
 ·obtain⟨o,es,ep,ho,r⟩:=hm;exact⟨o,es,ep,k _ o (λz=>(hc _ z).2.1 rfl) ho,r⟩
 ·refine(I.hok b u e).stay (λc v hb q=>k c v (λz=> ?_) q) (λ_ q=>q) λ_ _ q=>q
  have f:=(hc c z).1;rcases hb with w|w
  ·rw [w,e] at f;cases f
  ·rw [w] at f;cases f
def Inv.turnLaid {t':P0}{ch:G0 G7}{a:G7}{o:HO}(I:Inv X À σ H s)(k: ∀b u,b ∉ ch->s.heap.get? b=zq u->h'.get? b=zq u)(hc: ∀b∈ch,Px X À H b)(hp:s.heap.objs.size<=a)
 (new:Ô X.prog X.w (upd H a o) h' a o):Inv X À σ (upd H a o) {s with heap:=h',toks:=t'}:=by
 have hn:=I.hok.fresh hp;refine I.step (g':=s.gens) (d':=s.drawn) (ch:=ch) (λb hb=>let ⟨_,f1,_,f3,f4,f5⟩:=hc b hb;⟨f3,f1,f4,f5⟩) (λb u _ _ nb e _=>k b u nb e) (λb u _ _ nb e _=>⟨u.slots,k b u nb e⟩)
  (λb u _ e n=>by rw [jf (M6 (S8 (D7 e) hp))];exact n) (λb u nb e=>⟨u,k b u nb e⟩) (λb xs q=>by rw [jf (jm q hn)];exact q) (λb u xs q=>by rw [jf (jm q hn)];exact q)
  (λb ps q=>⟨#[],by rw [jf (jm q hn),q];simp⟩) (λm hm=> ?_) (λb u e=> ?_) I.bare
 ·obtain⟨u,es,ep,ho,r⟩:=hm;exact⟨u,es,ep,k _ u (λz=>(hc _ z).2.1 rfl) ho,r⟩
 ·by_cases hb:b=a
  ·subst hb;rw [jh] at e;cases e;exact new
  ·rw [jf hb] at e;refine(I.hok b u e).stay (λc v hb q=>k c v (λz=> ?_) q) (λc q=>by rw [jf (jm q hn)];exact q) λc xs q=>by rw [jf (jm q hn)];exact q
   have f:=(hc c z).1;rcases hb with w|w
   ·rw [w,e] at f;cases f
   ·rw [w] at f;cases f
end
def Yd (ds:G0 D):G0 D:=ds.zipIdx.map λp=> .tup [.int (p.2:P4),p.1]
def ZX {ds:G0 D}{i:P0}{d:D}(h:(Yd ds)[i]? =zq d): ∃x,ds[i]? =zq x/\d= .tup [.int (i:P4),x]:=by
 unfold Yd at h;rw [D1,List.getElem?_zipIdx] at h;cases q:ds[i]? with
 |none=>rw [q] at h;cases h
 |some x=>
  rw [q] at h;refine⟨x,rfl,?_⟩;have h':zq (D.tup [.int ((0+i:P0):P4),x])=zq d:=h;rw [cL] at h';exact(C9 h').symm
def wH (ds:G0 D):(Yd ds).length=ds.length:=by simp [Yd]
def DW (c:TTD)(tb:TSD):TSD:=λD σ h=> ∃W:P0->SD->HD->Prop,(∃m,W m σ h)/\ ∀m Â h',W m Â h'->c Â h' λb h1=>
 if b=xb then tb {D with nx:=λÜ h2=> ∃m' h3,m'<m/\Sub h3 h2/\W m' Ü h3,ct:=λÜ h2=> ∃m' h3,m'<m/\Sub h3 h2/\W m' Ü h3,bk:=D.nx} Â h1 else D.nx Â h1
def Nl {K:G3}{c:TTD}{tb:TSD}: ∀D σ H,LS K (DW c tb) D σ H->BJ (LT K c) (LS K tb) D σ H:=λD σ H ⟨Ä,h,Dd,rs,rh,⟨W,⟨m0,w0⟩,turn⟩,nx,rt,bk,ct⟩=>by
 refine⟨λm Â H'=>Kept H H'/\ ∃ß h',Ò K H' ß Â/\Å K h' H'/\W m ß h',⟨m0,.refl _,Ä,h,rs,rh,w0⟩,?_⟩;rintro m Â H' ⟨kp,ß,h',ť,ì,w⟩;refine LT.bind ť ì (turn m ß h' w) λb h1 H1 k1 Ý Î q1=> ?_
 cases b with
 |false=>
  rw [R9 D2] at q1 ⊢;exact nx _ _ _ _ (kp.trans k1) Ý Î q1
 |true=>
  rw [S5 rfl] at q1 ⊢;have kk:Kept H H1:=kp.trans k1;refine⟨λÜ H2=>Kept H H2/\ ∃m',m'<m/\ ∃ñ h2,Ò K H2 ñ Ü/\Å K h2 H2/\W m' ñ h2,λÜ H2 ⟨k2,m',hm,a,b,c,d,e⟩=>⟨m',hm,k2,a,b,c,d,e⟩,?_⟩;exact⟨ß,h1,_,Ý,Î,q1,λa b c d k4 Ť ľ ⟨m',h4,hm,sb,w4⟩=>⟨kk.trans k4,m',hm,a,h4,Ť,ľ.sub sb,w4⟩,jG rt kk,λa b c d k4 Ť ľ q4=>nx a b c d (kk.trans k4) Ť ľ q4,λa b c d k4 Ť ľ ⟨m',h4,hm,sb,w4⟩=>⟨kk.trans k4,m',hm,a,h4,Ť,ľ.sub sb,w4⟩⟩
section
variable {X:Cx}{pos:Pos}
def DY {c:S2}{body:G0 L8}{tc:TTD}{tb:TSD}(hp:iJ (R3 X.prog X.w) X.A X.env X.xe)(hc:JT X c tc)(hb:Ī X body tb):JS X (.While c body [] pos) (DW tc tb):=⟨(MM hp hc.to hb.to).imp Nl⟩
end
def Vl {c:TTD}{tb:TSD}{E:EndsD}{σ:SD}{h:HD}(W:P0->SD->HD->Prop)(m:P0)(w0:W m σ h)
 (turn: ∀m Â h',W m Â h'->c Â h' λb h1=>if b=xb then tb {E with nx:=λÜ h2=> ∃m' h3,m'<m/\Sub h3 h2/\W m' Ü h3,ct:=λÜ h2=> ∃m' h3,m'<m/\Sub h3 h2/\W m' Ü h3,bk:=E.nx} Â h1 else E.nx Â h1):DW c tb E σ h:=⟨W,⟨m,w0⟩,turn⟩
def inE (neg:N3):RD2:=λx y h Q=> ∃ (p:K8) (ps:G0 K8),Ĩ h x p/\(Ĩ h y (.list ps)\/Ĩ h y (.tuple ps))/\p.canLay0=xb/\C3 ps=xb/\p.depth<=60/\Q (.bl (neg !=ps.any λz=>C8 z p)) h
section
variable {X:Cx}
def TJ (hu:X.A.units+64<cLine):û X (B8 .In) (inE xf):=by
 intro À s σ H x y v u Q I rx ry h;obtain⟨dx,dy,h,Qd,r1,r2,rh,⟨p,ps,t1,t2,c1,c2,c3,qq⟩,post⟩:=h;obtain⟨as,a1⟩:=zI I rh t1 r1 rx;have hu':X.A.units+1+min (B9 ps) p.depth<cLine:=by have:=Y6 (B9 ps) p.depth;omega
 have q':Qd (.bl (ps.any λz=>C8 z p)) h:=by simpa using qq
 rcases t2 with t2|t2
 ·obtain⟨bs,b1⟩:=zI I rh t2 r2 ry;exact in_list_reads b1 a1 c2 c1 hu' ⟨.bl _,H,I,rfl,post (.bl _) _ _ _ (.refl H) rh rfl q'⟩
 ·obtain⟨bs,b1⟩:=zI I rh t2 r2 ry;exact in_tuple_reads b1 a1 c2 c1 hu' ⟨.bl _,H,I,rfl,post (.bl _) _ _ _ (.refl H) rh rfl q'⟩
def Nm (hu:X.A.units+64<cLine):û X (B8 .NotIn) (inE xb):=by
 intro À s σ H x y v u Q I rx ry h;obtain⟨dx,dy,h,Qd,r1,r2,rh,⟨p,ps,t1,t2,c1,c2,c3,qq⟩,post⟩:=h;obtain⟨as,a1⟩:=zI I rh t1 r1 rx;have hu':X.A.units+1+min (B9 ps) p.depth<cLine:=by have:=Y6 (B9 ps) p.depth;omega
 have q':Qd (.bl (!ps.any λz=>C8 z p)) h:=by simpa using qq
 rcases t2 with t2|t2
 ·obtain⟨bs,b1⟩:=zI I rh t2 r2 ry;exact notIn_list_reads b1 a1 c2 c1 hu' ⟨.bl _,H,I,rfl,post (.bl _) _ _ _ (.refl H) rh rfl q'⟩
 ·obtain⟨bs,b1⟩:=zI I rh t2 r2 ry;exact notIn_tuple_reads b1 a1 c2 c1 hu' ⟨.bl _,H,I,rfl,post (.bl _) _ _ _ (.refl H) rh rfl q'⟩
def TK {tg:S2}{p pos:Pos}{a b:S2}{ta:TAD}(hg:Gl X "range")(hm:X.mg "range" =xa)(ha:JA X [a,b] ta)(hs:P9 [a,b] X.env= [(xf,L7 a X.env),(xf,L7 b X.env)]:=by rfl)(hs2:P9 [b] X.env= [(xf,L7 b X.env)]:=by rfl):JI X tg (.Call (.Name "range" p) [a,b] [] pos) (iR2 ta):=⟨(PR hg hm ha.to hs hs2).imp Tk⟩
end
def Ke (i:P0)(f:P4->P4->P4)(te:TED):TSD:=λD σ h=> ∃x:P4,σ[i]? =zq (zq (.int x))/\te σ h λy h1=> ∃j:P4,y= .int j/\D.nx (σ.set i (zq (.int (f x j)))) h1
def Ej {K:G3}{i:P0}{f:P4->P4->P4}{te:TED}: ∀D σ H,LS K (Ke i f te) D σ H->HE i (LE K te) (ipI f) D σ H:=λD σ H ⟨Ä,h,Dd,rs,rh,⟨x,hx,q⟩,nx,rt,bk,ct⟩=>by
 obtain⟨v,e1,r1⟩:=rs.2 i _ hx;cases (show v= .int x from r1);exact⟨_,e1,LE.bind rs rh q λd u h1 H1 k1 Ý Î r1 ⟨j,e,q1⟩=>by
  subst e;cases (show u= .int j from r1);exact⟨x,j,rfl,rfl,nx _ _ _ _ k1 (Ý.set (d:= .int (f x j)) rfl i) Î q1⟩⟩
section
variable {X:Cx}{i:P0}{x:Str}{e:S2}{te:TED}{pos pos':Pos}
def FW (hN:X.N.Nodup)(hi:X.N[i]? =zq x)(hx:Loc X.env.scope x)(he:JE X e te)(hf:X.fn x=xb\/X.env.scope.names.lookup x=zq .local:=by first|exact .inl rfl|exact .inr rfl|assumption):JS X (.AugAssign (.Name x pos') .Add e pos) (Ke i (λa b=>a+b) te):=⟨(OM hN hi hx he.to ON hf).imp Ej⟩
end
end L2
namespace L2
open PySem PySem.Spec PyProof.Rows
def Nn {ta:TAD}{g:TGD}{tb:TSD}{E:EndsD}{σ:SD}{h h1:HD}(m:P4)(n:P0)(W:P0->SD->HD->Prop)(hm:0<=m)(hm2:m<1000000)(hn:n<1000000)
 (ht: ∀R:G0 D->HD->Prop,R [.int m,.int (m+(n:P4))] h1->ta σ h R)(w0:W 0 σ h1)(done: ∀Â h',W n Â h'->E.nx Â h')
 (turn: ∀i Â h',i<n->W i Â h'->g (.int (m+(i:P4))) Â h' λÜ h2=>tb (Nxt E λþ h4=>i+1<=n/\W (i+1) þ h4) Ü h2):Oi (iR2 ta) g tb E σ h:=by
 refine ht _ ⟨m,m+(n:P4),rfl,⟨by omega,by omega,by omega,by omega⟩,n,λi Â h'=>i<=n/\W i Â h',⟨B0 _,w0⟩,?_⟩;rintro i Â h' ⟨hi,w⟩;have en:(m+(n:P4)-m).toNat=n:=by omega
 refine⟨_,rfl,by simp [en],λhl=> ?_,λd hd=> ?_⟩
 ·have:i=n:=by simp [en] at hl;omega
  subst this;exact done _ _ w
 ·rw [en,D1] at hd;cases hx:(R6 n)[i]? with
  |none=>rw [hx] at hd;cases hd
  |some y=>
   rw [hx] at hd;cases hd;obtain⟨hi2,e⟩:=P8.mp hx;simp at hi2 e;subst e;exact turn i Â h' hi2 w
end L2
namespace L2
open PySem PySem.Spec PyProof.Rows PySem.SeqAt
def No {X:Cx}(hu:X.A.units+64<cLine):MtM X "list.index" (λx vs H Q=> ∃ (a:G7) (y:V) (dy:D) (h:HD) (p:K8) (ps:G0 K8) (j:P0) (z:K8),x= .ref a/\vs= [y]/\É X.K H dy y/\Å X.K h H/\Ĩ h (.lst a) (.list ps)/\Ĩ h dy p/\p.canLay0=xb/\C3 ps=xb/\p.depth<=60/\j<1000000/\ps[j]? =zq z/\C8 z p=xb/\(∀m y,m<j->ps[m]? =zq y->C8 y p=xf)/\Q (.int (j:P4)) H):=by
 intro À s σ H x vs v us Q I rx rv h;obtain⟨a,y,dy,h,p,ps,j,z,rfl,rfl,rd,rh,t1,t2,c1,c2,c3,hj,hz,hit,hno,q⟩:=h;cases rx;obtain⟨u,rfl,ru⟩:=Wb rv;obtain⟨a',ds,ea,ha,ts⟩:=(show ∃a' ds,D.lst a= .lst a'/\h a'=zq ds/\ĩ h ds ps from t1);cases ea;obtain⟨ws,hH,_⟩:=rh a ds ha;obtain⟨as,r1⟩:=zI I rh t1 (show É X.K H (.lst a) (.ref a) from ⟨rfl,ws,hH⟩) (show RelV (.ref a) (.ref a) from rfl);obtain⟨bs,r2⟩:=zI I rh t2 rd ru;cases r1 with
 |list h1 h2 h3 h4=>
  rename_i o its n cs;have em:=readsAll_map ps _ _ c2 h4;have gm: ∀m (hm:m<its.size),ps[m]? =zq (readOf s.heap its[m]):=λm hm=>by
   rw [<-em,D1,C4,Array.getElem?_eq_getElem hm];rfl
  have hlen:its.size=ps.length:=by rw [<-em,G6,N0]
  have hjs:j<its.size:=by rw [hlen];exact(P8.mp hz).1
  have hu':X.A.units+1+min (B9 ps) p.depth<cLine:=by have:=Y6 (B9 ps) p.depth;omega
  obtain⟨oc,od,odt,Ĕ⟩:=o;simp only at h2 h3;subst h2 h3;refine gH F.slot_list_index ⟨_,h1,rfl⟩ F.entry_list_index (F.args_list_index_2 _ _) (list_indexAt a its n od Ĕ u (λy=>C8 (readOf s.heap y) p) j hjs (by omega) ?_ ?_) ⟨h1,items_eqAt h4 r2 c2 c1 hu',?_⟩
  ·have:=gm j hjs;rw [hz] at this;injection this with this
   rw [<-this];exact hit
  ·intro m hm hmj;exact hno m _ hmj (gm m hm)
  ·exact⟨.int (j:P4),H,I.tok _,⟨_,rfl⟩,q⟩
def ku (to te:TED):TED:=λσ h Q=>to σ h λx h1=> ∃a,x= .lst a/\te σ h1 λy h2=> ∃ (p:K8) (ps:G0 K8) (j:P0) (z:K8),Ĩ h2 (.lst a) (.list ps)/\Ĩ h2 y p/\p.canLay0=xb/\C3 ps=xb/\p.depth<=60/\j<1000000/\ps[j]? =zq z/\C8 z p=xb/\(∀m y,m<j->ps[m]? =zq y->C8 y p=xf)/\Q (.int (j:P4)) h2
section
variable {X:Cx}{o e i:S2}{to te ti:TED}{apos Ë:Pos}
def Kf (hu : X.A.units + 64 < cLine) (ho : JE X o to) (he : JE X e te) (hbase : K9 o "index" X.env (L7 o X.env) = L7 o X.env := by rfl)
    (hfew : ((E3 Ë (P9 [e] X.env)).all (fun x => !x.1) && (g7 Ë (aY [] X.env)).all (fun x => x.1.isSome) && decide ([e].length + ([] : G0 aI).length + (if ([] : G0 aI).isEmpty then 0 else 1) < 30)) = xb := by rfl)
    (hline : (apos.endLine == Ë.line) = xb := by rfl) (hs : P9 [e] X.env = (xf, L7 e X.env) :: P9 [] X.env := by rfl) (hplain : (E3 Ë (P9 [] X.env)).any (·.1) = xf := by rfl) :
    JE X (.Call (.Attribute o "index" apos) [e] [] Ë) (ku to te) :=
  ⟨(Dl X4 xI xJ (No hu) ho.to (zS he.to Ą hs) hbase hfew hline hs hplain).imp
    fun σ H Q ⟨Ä, h, Qd, rs, rh, t, p⟩ => LE.bind rs rh t fun d v h1 H1 k1 Ý Î r1 ⟨a, e, q⟩ => by
      subst e
      obtain ⟨e1, vs, hH⟩ := (show v = .ref a ∧ ∃ vs, H1 a = zq (.lst vs) from r1)
      subst e1
      refine ⟨.inl ⟨rfl, vs, õ.of hH⟩, ?_⟩
      refine LE.bind Ý Î q fun y u h2 H2 k2 İ ð r2 ⟨pd, ps, j, z, t1, t2, c1, c2, c3, hj, hz, hit, hno, q2⟩ => ?_
      exact ⟨a, u, y, h2, pd, ps, j, z, rfl, rfl, r2, ð, t1, t2, c1, c2, c3, hj, hz, hit, hno, p (.int _) _ _ _ (k1.trans k2) ð rfl q2⟩⟩
end
section
variable {α:Type}{i i':P0}{js:G0 P0}{ti:TID}{te:TED}{σ:SD}{h:HD}{Q:KD}{j:ItD}
def Kg (xs:G0 α)(c c' g:α->D)(hz:xs.length<=1000)(hj:j h=zq (xs.map λx=> .tup [c x,c' x]))(ht: ∀R:ItD->HD->Prop,R j h->ti σ h R)
 (he: ∀x∈xs,∀Q':KD,Q' (g x) h->te (((zg js σ).set i (zq (c x))).set i' (zq (c' x))) h Q')(hq: ∀p,h p=xa->Q (.lst p) (wd h p (xs.map g))):ZI (b2 i i') js ti JN te σ h Q:=by
 refine ht _ ⟨xs.length,λk ys h'=>h'=h/\ys=(xs.take k).map g,⟨rfl,by simp⟩,?_⟩;rintro k ys h' ⟨rfl,rfl⟩;refine⟨by simp only [G6,S1];exact T6 (zk (by omega)),_,hj,by simp,λhl p hp=> ?_,λd hd=> ?_⟩
 ·rw [S3 (by simpa using hl)];exact hq p hp
 ·rw [D1] at hd;cases hx:xs[k]? with
  |none=>rw [hx] at hd;cases hd
  |some x=>
   rw [hx] at hd;cases hd;refine⟨_,⟨_,_,rfl,rfl⟩,?_⟩;unfold JN;dsimp only;rw [S5 rfl];refine he x (P5 hx) _ ⟨h',Sub.refl _,rfl,?_⟩;rw [L5,hx];simp
end
def itF {α:Type}(f:α->α)(x:α):P0->α
 |0=>x
 |k+1=>f (itF f x k)
theorem Ws {α:Type}[DecidableEq α]: ∀ {l m:G0 α},l.Nodup->(∀x∈l,x∈m)->l.length<=m.length
 | [],_,_,_=>B0 _
 |a::l,m,nd,h=>by
  have hm:=h a R1;have h2:l.length<=(m.erase a).length:=Ws (V5.mp nd).2 λx hx=>by
   have hxa:x≠a:=λe=>(V5.mp nd).1 (e ▸ hx)
   exact(List.mem_erase_of_ne hxa).mpr (h x (M5 _ hx))
  rw [List.length_erase_of_mem hm] at h2;have:=List.length_pos_of_mem hm;simp only [D8];omega
def YF (r:G0 P4):(vD r).canLay0=xb:=by unfold vD;simp only [A8];exact vU r
def DZ (r:G0 P4):(vD r).depth<=2:=by unfold vD;simp only [J6];have:=JY r;omega
theorem YG: ∀a b:G0 P4,Q1 (a.map i4) (b.map i4)=decide (a=b)
 | [],[]=>by simp [Q1]
 | [],_::_=>by simp [Q1]
 |_::_,[]=>by simp [Q1]
 |x::a,y::b=>by
  show ((x==y)&&Q1 (a.map .int) (b.map .int))=_;rw [YG a b,bI];simp
def FX (a b:G0 P4):C8 (vD a) (vD b)=decide (a=b):=YG a b
def Ra {α:Type}{f:P0->α}{L:P0}(h:1<=L):ĕ ((R6 L).map f) (-1)=zq (f (L-1)):=by
 unfold ĕ Ρ;rw [G6,B3,R9 (by decide),S5 (by omega)];show ((R6 L).map f)[(-1+(L:P4)).toNat]? =_;rw [show (-1+(L:P4)).toNat=L-1 by omega,D1,Y0 (by omega)];rfl
structure Enc {α:Type}[DecidableEq α](e:α->D)(p:α->K8):Prop where
 to: ∀ (h:HD) a,Ĩ h (e a) (p a)
 lay: ∀a,(p a).canLay0=xb
 dp: ∀a,(p a).depth<=60
 eq: ∀a b,C8 (p a) (p b)=decide (a=b)
section
variable {α:Type}[DecidableEq α]{e:α->D}{p:α->K8}
def Enc.tos (E:Enc e p)(h:HD): ∀as:G0 α,ĩ h (as.map e) (as.map p)
 | []=>rfl
 |a::as=>⟨_,_,rfl,E.to h a,E.tos h as⟩
def Enc.lays (E:Enc e p): ∀as:G0 α,C3 (as.map p)=xb
 | []=>rfl
 |a::as=>by show (A8 (p a)&&_)=xb;rw [E.lays as,E.lay a];rfl
def Ek (E:Enc e p){neg:N3}{x:α}{as:G0 α}{a:G7}{h:HD}{Q:KD}(ha:h a=zq (as.map e))(q: ∀b:N3,(b=xb↔x∈as)->Q (.bl (neg !=b)) h):inE neg (e x) (.lst a) h Q:=by
 refine⟨p x,as.map p,E.to h x,.inl ⟨a,_,rfl,ha,E.tos h as⟩,E.lay x,E.lays as,E.dp x,q _ ?_⟩;rw [qS,rV];constructor
 ·rintro ⟨y,hy,z⟩;have:y=x:=by simpa [V3,E.eq] using z
  rw [<-this];exact hy
 ·intro hi;exact⟨x,hi,by simp [V3,E.eq]⟩
def El (E:Enc e p){x:α}{as:G0 α}{a:G7}{h:HD}(ha:h a=zq (as.map e))(hx:x∈as)(hl:as.length<=100000):
 ∃ (j:P0) (q:K8) (qs:G0 K8) (z:K8),as[j]? =zq x/\Ĩ h (.lst a) (.list qs)/\Ĩ h (e x) q/\q.canLay0=xb/\C3 qs=xb/\q.depth<=60/\j<1000000/\qs[j]? =zq z/\C8 z q=xb/\(∀m y,m<j->qs[m]? =zq y->C8 y q=xf):=by
 have hj:=List.idxOf_lt_length_iff.mpr hx;have ex:as[as.idxOf x]? =zq x:=by rw [G5 hj,List.getElem_idxOf hj]
 refine⟨as.idxOf x,p x,as.map p,p x,ex,⟨a,_,rfl,ha,E.tos h as⟩,E.to h x,E.lay x,E.lays as,E.dp x,by omega,?_,by rw [E.eq,S6 rfl],λm y hm hy=> ?_⟩
 ·rw [D1,ex];rfl
 ·rw [D1] at hy;have hml:m<as.length:=by omega
  rw [G5 hml] at hy;cases hy;rw [E.eq];have:=List.not_of_lt_findIdx (p:=(· ==x)) (xs:=as) hm;simpa using this
end
theorem wI: ∀a b:G0 (G0 P4),Q1 (a.map vD) (b.map vD)=decide (a=b)
 | [],[]=>by simp [Q1]
 | [],_::_=>by simp [Q1]
 |_::_,[]=>by simp [Q1]
 |x::a,y::b=>by
  show (C8 (vD x) (vD y)&&Q1 (a.map vD) (b.map vD))=_;rw [wI a b,FX,bI];simp
def X03:Enc ju PB:=⟨FS,λT=>by unfold PB;simp only [A8];exact vV T,λT=>by unfold PB;simp only [J6];have:=vp T;omega,wI⟩
def ř (n:P0)(T:G0 (G0 P4))(M:G0 (G0 P4)):G0 (G0 P4):=GL n (FO n M T)
def RP (n:P0)(T:G0 (G0 P4))(k i j:P0):Prop:=ě (TH n T k) i j≠0
structure Ė (n:P0)(h0 h:HD)(p R:G7)(rs:G0 G7):Prop where
 at_:h R=zq (rs.map D.lst)
 len:rs.length=n
 nR:R ∉ rs
 fR:h0 R=xa
 np:p ∉ rs
 nRp:R≠p
 row: ∀a∈rs,h0 a=xa/\ ∃r,h a=zq (r.map D.int)/\yr n r
section
variable {n:P0}{h0 h:HD}{p R:G7}{rs:G0 G7}
def Ė.pen (g:Ė n h0 h p R rs)(ds:G0 D):Ė n h0 (wd h p ds) p R rs:=
 ⟨jg g.nRp g.at_,g.len,g.nR,g.fR,g.np,g.nRp,λa ha=>⟨(g.row a ha).1,let ⟨r,e,gr⟩:=(g.row a ha).2;⟨r,jg (λz=>g.np (z ▸ ha)) e,gr⟩⟩⟩
def Ė.new (g:Ė n h0 h p R rs){q:G7}(f:h q=xa)(ds:G0 D):Ė n h0 (wd h q ds) p R rs:=
 ⟨je g.at_ f,g.len,g.nR,g.fR,g.np,g.nRp,λa ha=>⟨(g.row a ha).1,let ⟨r,e,gr⟩:=(g.row a ha).2;⟨r,je e f,gr⟩⟩⟩
def Ė.pick (g:Ė n h0 h p R rs){i:P0}(hi:i<n): ∃a r,ĕ (rs.map D.lst) (i:P4)=zq (.lst a)/\a∈rs/\h a=zq (r.map D.int)/\yr n r/\h0 a=xa/\a≠p:=by
 have hi':i<rs.length:=by rw [g.len];exact hi
 have hm:=N9 hi';obtain⟨f,r,e,gr⟩:=g.row _ hm;exact⟨rs[i],r,zU (by rw [D1,G5 hi'];rfl),hm,e,gr,f,λz=>g.np (z ▸ hm)⟩
def Ė.set (g:Ė n h0 h p R rs){a:G7}{r:G0 P4}(ha:a∈rs)(e:h a=zq (r.map D.int))(gr:yr n r){j:P0}{v:P4}(v0:0<=v)(v1:v<=1000000):Ė n h0 (wd h a ((r.map D.int).set j (.int v))) p R rs:=by
 refine⟨jg (λz=>g.nR (z ▸ ha)) g.at_,g.len,g.nR,g.fR,g.np,g.nRp,λb hb=>⟨(g.row b hb).1,?_⟩⟩
 by_cases z:b=a
 ·subst z;refine⟨r.set j v,by rw [jc,List.map_set],by rw [sP];exact gr.1,λx hx=> ?_⟩;rcases List.mem_or_eq_of_mem_set hx with y|y
  ·exact gr.2 x y
  ·subst y;exact⟨v0,v1⟩
 ·obtain⟨r',e',gr'⟩:=(g.row b hb).2;exact⟨r',jg z e',gr'⟩
def Ė.tab (g:Ė n h0 h p R rs): ∃T,ĸ n T/\(rs.map λa=>D.tup ((h a).getD []))=T.map wU:=by
 have key: ∀l:G0 G7,(∀a∈l,∃r,h a=zq (r.map D.int)/\yr n r)-> ∃T:G0 (G0 P4),T.length=l.length/\(∀r∈T,yr n r)/\(l.map λa=>D.tup ((h a).getD []))=T.map wU:=by
  intro l
  induction l with
  |nil=>intro _;exact⟨[],rfl,by simp,rfl⟩
  |cons a l ih=>
   intro hl;obtain⟨T,a1,a2,a3⟩:=ih λb hb=>hl b (M5 _ hb)
   obtain⟨r,e,gr⟩:=hl a R1;refine⟨r::T,by simp [a1],λx hx=> ?_,?_⟩
   ·rcases R5.mp hx with z|z
    ·subst z;exact gr
    ·exact a2 x z
   ·rw [S9,S9,a3,e];rfl
 obtain⟨T,a1,a2,a3⟩:=key rs λa ha=>(g.row a ha).2
 exact⟨T,⟨by rw [a1,g.len],a2⟩,a3⟩
end
variable {n:P0}
def XR {o:G0 P0}(ho:ı n o){i:P0}(hi:i<n): ∃k,k<n/\ĕ (o.map λ(k:P0)=>D.int (k:P4)) (i:P4)=zq (.int (k:P4)):=by
 have hi':i<o.length:=by rw [ho.ord.len];exact hi
 refine⟨o[i],O4.mp (ho.mem_iff.mp (N9 hi')),zU (by rw [D1,G5 hi'];rfl)⟩
def Np {o:G0 P0}(ho:ı n o)(hn:1<=n): ∃k,k<n/\ĕ (o.map λ(k:P0)=>D.int (k:P4)) (-1)=zq (.int (k:P4)):=by
 have hl:=ho.ord.len;have hi':n-1<o.length:=by omega
 refine⟨o[n-1],O4.mp (ho.mem_iff.mp (N9 hi')),?_⟩;unfold ĕ Ρ;rw [G6,hl,R9 (by decide),S5 (by omega)];show (o.map λ(k:P0)=>D.int (k:P4))[(-1+(n:P4)).toNat]? =_;rw [show (-1+(n:P4)).toNat=n-1 by omega,D1,G5 hi'];rfl
def Rb {i:P0}(h:i<n):Ρ n (i:P4)=zq i:=by
 unfold Ρ;simp;omega
def GM {prog:D5}{w:T8}{A:S4}(hh:A.handled=xa)(it t:G7)(items:T7 G1)(n:P0)(hn:items.size<=n):
 Draws prog w A it [it,t] n (λ_ _=>False) (λi h=>i=n/\h.IsListIter it t n/\h.IsList t items) where
 live:=λ_ _ st=>let ⟨o,ho,_⟩:=st.2.1;⟨o,ho⟩
 frame:=λ_ _ _ st hk=>⟨st.1,st.2.1.at λo e=>hk it (by simp) o e,st.2.2.at λo e=>hk t (by simp) o e⟩
 item:=λi s Q E hi st hQ=>xj st.1 (M6 hi)
 done:=λs Q E st hE=>wpAny_nextOf_list_end hh st.2.1 st.2.2 (Array.getElem?_eq_none hn) hE
def TL (K:G3)(a:G7):It:=
 ⟨λi H=> ∃xs x,õ K H a xs/\xs[i]? =zq x,λi H x H'=> ∃p v,H p=xa/\(∀xs,õ K H a xs->xs[i]? =zq v)/\x= .ref p/\H'=upd H p (.tup [.int i,v]),λi H=> ∃xs,õ K H a xs/\xs.length<=i⟩
def GN {P:D5}{w:T8}{K:G3}{es:G0 S2}{k:P0}{pos:Pos}(a it e:G7)(hei:e≠it)(hae:a≠e)(hai:a≠it):Ν P w K (.Tuple es k pos) (TL K a) [e,it] e (λi h=>(∃old,IsEnum h e it i old)/\h.IsListIter it a i) where
 mem:=by simp
 obj:=λi h st b hb=>by
  rcases R5.mp hb with z|z
  ·subst z;obtain⟨old,q⟩:=st.1;exact⟨_,q,λv z=>by cases z⟩
  ·have z:=P2.mp z;subst z;obtain⟨o,q,c,d⟩:=st.2;exact⟨o,q,λv z=>by rw [d] at z;cases z⟩
 keep:=λi h h' st k=>⟨let ⟨old,q⟩:=st.1;⟨old,k e (by simp) _ q⟩,st.2.at λo q=>k it (by simp) o q⟩
 item:=by
  intro X hP hw hK hc i À s σ H E I hf st hg;subst hP hw hK;obtain⟨xs,x,hq,hx⟩:=hg;obtain⟨its,rv,p,hz⟩:=I.list hq;obtain⟨u,hu,ru⟩:=rv.get hx;have hi:i<its.toArray.size:=by have:=(P8.mp hu).1;simpa using this
  obtain⟨old,he⟩:=st.1;have X1o:e<s.heap.objs.size:=D7 he;refine wpAny_pyNext_enum_itemD (Draws.list (prog:=X.prog) (w:=X.w) (A:=X.A.in1) (I.ok.hd hc) it a hai its.toArray) he ⟨st.2,p.isList⟩ hi hei (by simp [hei,O6 hae]) λx' h' tk ğ ho hs' hT hsz hk=> ?_
  have ex:x'=u:=C9 (ğ.symm.trans (show its.toArray[i]? =zq u by simpa using hu));subst ex;refine⟨_,rfl,wpAny_letOwnedTupleGo_enum ho λh2 he2 hs2=> ?_⟩;have hn:H s.heap.objs.size=xa:=I.hok.fresh (P7 _);have hT2:h2.get? s.heap.objs.size=zq {cls:= .type "tuple",data:= .seq #[.int i tk,x']}:=(hs2.2 _ (K4 X1o)).trans hT;refine⟨.ref s.heap.objs.size,upd H s.heap.objs.size (.tup [.int i,x]),?_,rfl,⟨_,x,hn,λys hy=>by rw [I.list_inj hy hq];exact hx,rfl,rfl⟩,⟨⟨x',by simpa using he2⟩,hs'.1.at λo y=>(hs2.2 it (O6 hei)).trans y⟩,λb hb=> ?_⟩
  ·refine I.turnLaid (h':=h2) (t':=tk+1) (ch:= [e,it]) (λb u hb q=> ?_) hf (P7 _) ⟨by show 2<=xh;decide,[.int i tk,x'],.cons ⟨tk,rfl⟩ (.cons ru .nil),⟨_,hT2,rfl,rfl,_,rfl⟩⟩;have b1:b≠e:=λz=>hb (by simp [z])
   have b2:b≠it:=λz=>hb (by simp [z])
   exact(hs2.2 b b1).trans (hk b u b1 b2 q)
  ·have f:=(hf b hb).1;have:b≠s.heap.objs.size:=λz=>by
    rcases R5.mp hb with w|w
    ·rw [<-w,z] at X1o;exact xj X1o (O7 _)
    ·have w:=P2.mp w;obtain⟨o,ho',_⟩:=st.2;have:=D7 ho';rw [<-w,z] at this;exact xj this (O7 _)
   rw [jf this];exact f
 done:=by
  intro X hP hw hK hc i À s σ H E I hf st hg;subst hP hw hK;obtain⟨xs,hq,hx⟩:=hg;obtain⟨its,rv,p,hz⟩:=I.list hq;obtain⟨old,he⟩:=st.1;have hl:=rv.length;refine wpAny_pyNext_enum_endD (GM (prog:=X.prog) (w:=X.w) (A:=X.A.in1) (I.ok.hd hc) it a its.toArray i (by simp;omega)) he ⟨rfl,st.2,p.isList⟩ λh' ğ=>⟨rfl,I.turnL (t':=s.toks) (ch:= [it]) (λb o hb q=>ğ b o (λz=>hb (by simp [z])) q) λb hb=>hf b (M5 _ hb)⟩
 self:=λ_ _ _ _ _ st h=>let ⟨_,q⟩:=st.1;qW q h
section
variable {X:Cx}
def Em (K:G3)(ta:TA):TI:=λσ H R=>ta σ H λvs H1=> ∃a,vs= [.ref a]/\(∃xs,õ K H1 a xs)/\R (TL K a) H1
def Nq {es:G0 S2}{k:P0}{tp:Pos}{a:S2}{ta:TA}{p pos:Pos}(hg:Gl X "enumerate")(hm:X.mg "enumerate" =xa)(ha:PA X [a] ta)(hs:P9 [a] X.env= [(xf,L7 a X.env)]:=by rfl):
 PI X (.Tuple es k tp) (.Call (.Name "enumerate" p) [a] [] pos) (Em X.K ta):=by
 intro À s σ H R I h;refine Call_ (Yu I hg hm (show Q5 "enumerate" =zq (.type "enumerate") by decide +kernel) (Y3 (Ø (ha pos À s σ H _ I h) λus s1 ⟨vs,H1,I1,r1,q1⟩=> ?_) hs rfl));obtain⟨a,e,⟨xs,hq⟩,q⟩:=q1;subst e;cases r1 with
 |cons r rr=>
  cases rr;cases r;obtain⟨its,rv,p,hz⟩:=I1.list hq;have ν:a<s1.heap.objs.size:=by obtain⟨o,ho,_⟩:=p.isList;exact D7 ho
  refine call_enumerate_list p.isList λh' he hit _ hk=> ?_
  refine qW he ?_;refine⟨s1.heap.objs.size+1,[s1.heap.objs.size+1,s1.heap.objs.size],_,_,H1,rfl,I1.kept (t':=s1.toks) hk,GN a s1.heap.objs.size (s1.heap.objs.size+1) (K4 (aT _)) (M6 (lJ ν)) (M6 ν),⟨⟨_,he⟩,hit⟩,λb hb=> ?_,q⟩;have hb':s1.heap.objs.size<=b:=by
   rcases R5.mp hb with w|w
   ·rw [w];exact oC _
   ·rw [P2.mp w];exact P7 _
  exact I1.fpOk hb' (I1.hok.fresh hb')
end
def iEL (ta:TAD):TID:=λσ h R=>ta σ h λxs h1=> ∃a,xs= [.lst a]/\R (λh=>(h a).map Yd) h1
section
variable {K:G3}
def GO (H:Hp)(a:G7):BQ K H (λh=>(h a).map Yd) (TL K a):=λH' h' k rh ds' e i=>by
 have e:(h' a).map Yd=zq ds':=e;cases hd:h' a with
 |none=>rw [hd] at e;cases e
 |some ds=>
  rw [hd] at e;cases e;obtain⟨vs,hv',r'⟩:=rh a ds hd;refine⟨λd hd=> ?_,λhl=>⟨vs,õ.of hv',by rw [<-r'.length,<-wH];exact hl⟩⟩;obtain⟨x,hx,ed⟩:=ZX hd;subst ed;obtain⟨v,e1,e2⟩:=r'.get hx;refine⟨⟨vs,v,õ.of hv',e1⟩,λx' ķ ⟨p,v',hp,ğ,ex,eH⟩=> ?_⟩;subst ex eH;have ev:v'=v:=by have:=ğ vs (õ.of hv');rw [e1] at this;exact(C9 this).symm
  subst ev;have k2:Kept H' (upd H' p (.tup [.int i,v'])):= .new hp;exact⟨k2,Å.new rh hp,p,[.int i,v'],rfl,jh,_,_,rfl,rfl,_,_,rfl,e2.mono k2,rfl⟩
def Nr {ta:TAD}: ∀σ H R,LI K (iEL ta) σ H R->Em K (LA K ta) σ H R:=λσ H R ⟨Ä,h,Rd,rs,rh,q,p⟩=>
 LA.bind rs rh q λds vs h1 H1 k1 Ý Î r1 ⟨a,e,q1⟩=>by
  subst e;obtain⟨v,e,r2⟩:=jS r1;obtain⟨e',ws,hv⟩:=(show v= .ref a/\ ∃vs,H1 a=zq (.lst vs) from r2);subst e';exact⟨a,e,⟨ws,õ.of hv⟩,p _ _ _ _ k1 Î (GO H1 a) q1⟩
end
section
variable {X:Cx}
def Jn {es:G0 S2}{k:P0}{tp:Pos}{a:S2}{ta:TAD}{p pos:Pos}(hg:Gl X "enumerate")(hm:X.mg "enumerate" =xa)(ha:JA X [a] ta)(hs:P9 [a] X.env= [(xf,L7 a X.env)]:=by rfl):
 JI X (.Tuple es k tp) (.Call (.Name "enumerate" p) [a] [] pos) (iEL ta):=⟨(Nq hg hm ha.to hs).imp Nr⟩
end
def Sl (n:P0)(Ts:G0 (G0 (G0 P4)))(M:G0 (G0 P4))(W:G0 P0):G0 (G0 P4):=W.foldl (λM i=>ř n (Ts.getD i []) M) M
structure Ú (n:P0)(Ts:G0 (G0 (G0 P4))):Prop where
 n1:1<=n
 n3:n<=3
 l1:1<=Ts.length
 l3:Ts.length<=3
 sq: ∀T∈Ts,Sq n 20 T
def Ú.get {Ts:G0 (G0 (G0 P4))}(h:Ú n Ts){i:P0}(hi:i<Ts.length):Sq n 20 (Ts.getD i []):=by
 rw [T3,G5 hi];exact h.sq _ (N9 hi)
def XS {Ts:G0 (G0 (G0 P4))}(h:Ú n Ts){i:P0}(hi:i<Ts.length):ĕ (Ts.map ju) ((i:P0):P4)=zq (ju (Ts.getD i [])):=
 zU (by rw [D1,T3,G5 hi];rfl)
section
variable {n:P0}{Ts:G0 (G0 (G0 P4))}
def En (M:G0 (G0 P4))(hM:Sq n 1 M): ∀W:G0 P0,Sq n 1 (Sl n Ts M W):=λW=>by
 induction W generalizing M with
 |nil=>exact hM
 |cons i W ih=>exact ih _ (Sq.mark _)
end
def vX (d:D)(a b:P4):N3:=match d with
 | .int x=>decide (a<=x)&&decide (x<=b)
 |_=>xf
def XT (d:D)(m:P4):N3:=match d with
 | .tup es=>es.all λx=>vX x 0 (m-1)
 |_=>xf
def Kh (d:D)(m lo hi:P4):N3:=match d with
 | .tup es=>(es.all λx=>vX x 0 (m-1))&&(decide (lo<=(es.length:P4))&&decide ((es.length:P4)<=hi))
 |_=>xf
theorem YH: ∀Ts:G0 (G0 (G0 P4)),B9 (Ts.map PB)<=5
 | []=>by simp [B9]
 |T::Ts=>by
  have:=YH Ts;have h2:=vp T;simp only [S9,B9,J6,PB];omega
def XU (Ts:G0 (G0 (G0 P4))):shaped (.list (Ts.map PB))=xb:=by
 unfold shaped;have h1:A8 (.list (Ts.map PB))=xb:=by simp only [A8];exact X03.lays Ts
 have h2:=YH Ts;have h3:J6 (.list (Ts.map PB))<=64:=by simp only [J6];omega
 rw [h1,S6 h3];rfl
end L2
set_option maxRecDepth 35000
namespace L2
open PySem PySem.Spec PyProof.Rows PySem.SeqAt
section
variable {α:Type}{i i':P0}{js:G0 P0}{ti:TID}{te:TED}{σ:SD}{h:HD}{Q:KD}{j:ItD}
def kH (xs:G0 α)(c c' g:α->D)(p:α->N3){tt:TTD}(hz:xs.length<=1000)(hj:j h=zq (xs.map λx=> .tup [c x,c' x]))(ht: ∀R:ItD->HD->Prop,R j h->ti σ h R)
 (hp: ∀x∈xs,∀Q':N3->HD->Prop,Q' (p x) h->tt (((zg js σ).set i (zq (c x))).set i' (zq (c' x))) h Q')(he: ∀x∈xs,p x=xb-> ∀Q':KD,Q' (g x) h->te (((zg js σ).set i (zq (c x))).set i' (zq (c' x))) h Q')(hq: ∀a,h a=xa->Q (.lst a) (wd h a ((xs.filter p).map g))):ZI (b2 i i') js ti tt te σ h Q:=by
 refine ht _ ⟨xs.length,λk ys h'=>h'=h/\ys=((xs.take k).filter p).map g,⟨rfl,by simp⟩,?_⟩;rintro k ys h' ⟨rfl,rfl⟩;refine⟨?_,_,hj,by simp,λhl a ha=> ?_,λd hd=> ?_⟩
 ·have:=V9 p (xs.take k);simp only [G6,S1] at this ⊢;exact T6 (zk (by omega))
 ·rw [S3 (by simpa using hl)];exact hq a ha
 ·rw [D1] at hd;cases hx:xs[k]? with
  |none=>rw [hx] at hd;cases hd
  |some x=>
   rw [hx] at hd;cases hd;refine⟨_,⟨_,_,rfl,rfl⟩,?_⟩;refine hp x (P5 hx) _ ?_;cases hb:p x with
   |true=>
    rw [S5 rfl];refine he x (P5 hx) hb _ ⟨_,Sub.refl _,rfl,?_⟩;rw [L5,hx];simp [hb]
   |false=>
    rw [R9 (by decide)];refine⟨_,Sub.refl _,rfl,?_⟩;rw [L5,hx];simp [hb]
end
def TN (T:G0 (G0 P4))(n p:P0):G0 P0:=(R6 n).filter λj=>decide (ě T p j>0)
def cnt (T:G0 (G0 P4))(n o:P0):P0->P0->P4
 |0,p=>if p=o then 1 else 0
 |t+1,p=>((TN T n p).map (cnt T n o t)).sum
section
variable {T:G0 (G0 P4)}{n o:P0}
def kI (T:G0 (G0 P4))(n o t p:P0):P0:=(TN T n p).findIdx λj=>decide (cnt T n o t j>0)
def nxt (T:G0 (G0 P4))(n o t p:P0):P0:=(TN T n p).getD (kI T n o t p) 0
def gp (T:G0 (G0 P4))(n o k one:P0):P0->P0
 |0=>one
 |i+1=>nxt T n o (k-1-i) (gp T n o k one i)
end
def Nt {α:Type}{xs:G0 α}{x:α}(h1:1<=xs.length)(h:xs[xs.length-1]? =zq x):ĕ xs (-1)=zq x:=by
 unfold ĕ Ρ;rw [R9 (by decide),S5 (by omega)];show xs[(-1+(xs.length:P4)).toNat]? =_;rw [show (-1+(xs.length:P4)).toNat=xs.length-1 by omega];exact h
end L2
namespace HT
open PySem PySem.Spec PyProof.Rows
def Û {α:Type}:Sem α->Prop
 | .pure _=>True
 | .raise _=>True
 | .unsupported _=>True
 | .finish _=>True
 | .rule _ k=>Û (k ())
 | .at _ k=>Û (k ())
 | .load _ _ k=> ∀o,Û (k o)
 | .update _ _ f k=>(∀o,o.isFreed=xf->(f o).isFreed=xf/\(f o).dict=o.dict/\(f o).cls=o.cls/\((∀vs,o.data≠ .fields vs)->(f o).data=o.data))/\Û (k ())
 | .alloc _ k=> ∀a,Û (k a)
 | .loadIfAlive _ k=> ∀o,Û (k o)
 | .point _ k=>Û (k ())
 | .fresh k=> ∀t,Û (k t)
 | .ask k=> ∀t,Û (k t)
 | .choose _ _ k=> ∀t,Û (k t)
 | .os _ _ k=> ∀t,Û (k t)
 | .handled _ k=> ∀t,Û (k t)
 | .genState _ k=> ∀t,Û (k t)
 | .newGen _ k=> ∀t,Û (k t)
 | .stack k=> ∀t,Û (k t)
 | .thread k=> ∀t,Û (k t)
 | .register _ _=>True
 |_=>False
variable {α:Type}
def Û.bind {β:Type}{f:α->Sem β}(hf: ∀a,Û (f a)): ∀ {t:Sem α},Û t->Û (t.bind f):=λ{t}=>by
 induction t with
 |pure a=>exact λ_=>hf a
 |raise e=>exact λh=>h
 |unsupported w=>exact λh=>h
 |finish e=>exact λh=>h
 |rule _ k ih=>exact λh=>ih () h
 | «at» _ k ih=>exact λh=>ih () h
 |load _ _ k ih=>exact λh o=>ih o (h o)
 |update _ _ g k ih=>exact λh=>⟨h.1,ih () h.2⟩
 |alloc _ k ih=>exact λh a=>ih a (h a)
 |loadIfAlive _ k ih=>exact λh o=>ih o (h o)
 |point _ k ih=>exact λh=>ih () h
 |fresh k ih=>exact λh t=>ih t (h t)
 |ask k ih=>exact λh t=>ih t (h t)
 |choose _ _ k ih=>exact λh t=>ih t (h t)
 |os _ _ k ih=>exact λh t=>ih t (h t)
 |handled _ k ih=>exact λh t=>ih t (h t)
 |genState _ k ih=>exact λh t=>ih t (h t)
 |newGen _ k ih=>exact λh t=>ih t (h t)
 |stack k ih=>exact λh t=>ih t (h t)
 |thread k ih=>exact λh t=>ih t (h t)
 |register=>exact λh=>h
 |call=>exact λh=>h.elim
 |resume=>exact λh=>h.elim
 | «yield» =>exact λh=>h.elim
 |fork=>exact λh=>h.elim
 |await=>exact λh=>h.elim
def Dk (h h':N8):Prop:= ∀b o,h.get? b=zq o-> ∃o',h'.get? b=zq o'/\o'.dict=o.dict/\o'.cls=o.cls/\((∀vs,o.data≠ .fields vs)->o'.data=o.data)
def Dk.refl (h:N8):Dk h h:=λ_ o e=>⟨o,e,rfl,rfl,λ_=>rfl⟩
def Dk.trans {a b c:N8}(x:Dk a b)(y:Dk b c):Dk a c:=λd o e=>
 let ⟨o1,e1,d1,c1,k1⟩:=x d o e
 let ⟨o2,e2,d2,c2,k2⟩:=y d o1 e1
 ⟨o2,e2,d2.trans d1,c2.trans c1,λn=>(k2 λvs z=>n vs ((k1 n).symm.trans z)).trans (k1 n)⟩
def Dk.push {h:N8}(o:Obj):Dk h (h.push o):=λ_ o' e=>⟨o',G9 _ e,rfl,rfl,λ_=>rfl⟩
def Dk.update {h:N8}{a:G7}{f:Obj->Obj}(hf: ∀o,o.isFreed=xf->(f o).isFreed=xf/\(f o).dict=o.dict/\(f o).cls=o.cls/\((∀vs,o.data≠ .fields vs)->(f o).data=o.data)):Dk h (h.update a f):=λb o e=>by
 by_cases z:b=a
 ·subst z;have:=hf o (Heap.get?_some_iff.mp e).2;exact⟨f o,bM _ e this.1,this.2⟩
 ·exact⟨o,(J5 _ _ (O6 z)).trans e,rfl,rfl,λ_=>rfl⟩
def Û.wp {M:cN}{Γ:PySem.Ctx}: ∀ {t:Sem α} {Q:α->Pos->G2->Prop} {E:G1->Pos->G2->Prop} {p:Pos} {s:G2},Û t->Z9 M Γ t Q E p s->Z9 M Γ t (λa p' s'=>Q a p' s'/\Dk s.heap s'.heap) (λe p' s'=>E e p' s'/\Dk s.heap s'.heap) p s:=λ{t}=>by
 induction t with
 |pure a=>intro Q E p s _ q;unfold Z9 at q ⊢;exact⟨q,.refl _⟩
 |raise e=>intro Q E p s _ q;unfold Z9 at q ⊢;exact⟨q,.refl _⟩
 |unsupported w=>intro Q E p s _ q;unfold Z9 at q;exact q.elim
 |finish e=>intro Q E p s _ q;unfold Z9 at q;exact q.elim
 |rule _ k ih=>intro Q E p s h q;unfold Z9 at q ⊢;exact ih () h q
 | «at» _ k ih=>intro Q E p s h q;unfold Z9 at q ⊢;exact ih () h q
 |load _ _ k ih=>intro Q E p s h q;unfold Z9 at q ⊢;obtain⟨o,e,q⟩:=q;exact⟨o,e,ih o (h o) q⟩
 |update a _ g k ih=>
  intro Q E p s h q;unfold Z9 at q ⊢;refine⟨q.1,II _ _ _ (λa p' s' z=>⟨z.1,(Dk.update h.1).trans z.2⟩) (λa p' s' z=>⟨z.1,(Dk.update h.1).trans z.2⟩) _ _ (ih () h.2 q.2)⟩
 |alloc o k ih=>
  intro Q E p s h q;unfold Z9 at q ⊢;exact II _ _ _ (λa p' s' z=>⟨z.1,(Dk.push o).trans z.2⟩) (λa p' s' z=>⟨z.1,(Dk.push o).trans z.2⟩) _ _ (ih _ (h _) q)
 |loadIfAlive _ k ih=>intro Q E p s h q;unfold Z9 at q ⊢;exact ih _ (h _) q
 |point _ k ih=>intro Q E p s h q;unfold Z9 at q ⊢;exact ih () h q
 |fresh k ih=>intro Q E p s h q;unfold Z9 at q ⊢;exact ih _ (h _) q
 |ask k ih=>intro Q E p s h q;unfold Z9 at q ⊢;exact ih _ (h _) q
 |choose _ _ k ih=>intro Q E p s h q;unfold Z9 at q ⊢;exact⟨q.1,ih _ (h _) q.2⟩
 |os _ _ k ih=>intro Q E p s h q;unfold Z9 at q ⊢;exact ih _ (h _) q
 |handled _ k ih=>intro Q E p s h q;unfold Z9 at q ⊢;exact ih _ (h _) q
 |genState _ k ih=>intro Q E p s h q;unfold Z9 at q ⊢;obtain⟨o,e,q⟩:=q;exact⟨o,e,ih _ (h _) q⟩
 |newGen _ k ih=>intro Q E p s h q;unfold Z9 at q ⊢;exact ih _ (h _) q
 |stack k ih=>intro Q E p s h q;unfold Z9 at q ⊢;exact ih _ (h _) q
 |thread k ih=>intro Q E p s h q;unfold Z9 at q ⊢;exact ih _ (h _) q
 |register=>intro Q E p s h q;unfold Z9 at q;exact q.elim
 |call=>intro Q E p s h;exact h.elim
 |resume=>intro Q E p s h;exact h.elim
 | «yield» =>intro Q E p s h;exact h.elim
 |fork=>intro Q E p s h;exact h.elim
 |await=>intro Q E p s h;exact h.elim
def Û.any {α:Type}{M:cN}{A:S4}{t:Sem α}{Q:α->G2->Prop}{E:G1->G2->Prop}{s:G2}(h:Û t)(q:D6 M A t Q E s):D6 M A t (λa s'=>Q a s'/\Dk s.heap s'.heap) (λe s'=>E e s'/\Dk s.heap s'.heap) s:=λΓ p hΓ=>h.wp (q Γ p hΓ)
def Wt {M:cN}{A:S4}{t:Sem Unit}{Q:Unit->G2->Prop}{E:G1->G2->Prop}{s:G2}{P:N8->Prop}(ht:Û t)(w:D6 M A t (λ_ s'=> ∃h',s'= {s with heap:=h'}/\P h') E s)(k: ∀h',P h'->Dk s.heap h'->Q () {s with heap:=h'}):D6 M A t Q E s:=
 R7 (ht.any w) (λ_ s' ⟨⟨h',e,p⟩,dk⟩=>by subst e;exact k h' p dk) λ_ _ z=>z.1
def jx {α β:Type}{t:Sem α}{f:α->Sem β}(h:Û t)(hf: ∀a,Û (f a)):Û (t >>= f):=Û.bind hf h
def Jo (a:G7):Û (load a):=λ_=>trivial
def vq (v:G1)(i:P0):Û (field v i):=by
 unfold field fieldsOf
 repeat (first|exact trivial|exact Jo _|assumption|(refine jx ?_ λ_=> ?_)|split|dsimp only)
def yt (v:G1)(i:P0)(x:G1):Û (mL v i x):=by
 unfold mL updateField;split
 ·refine jx (Jo _) λo=> ?_
  split
  ·split
   ·refine⟨λo ho=> ?_,trivial⟩;obtain⟨c,d,t,sl⟩:=o;cases t<;>first|exact⟨ho,rfl,rfl,λ_=>rfl⟩|exact⟨ho,rfl,rfl,λn=>xj rfl (n _)⟩
   ·exact trivial
  ·exact trivial
 ·exact trivial
def wV (e:G1)(f:P1 G7):Û (xK e f):=by
 unfold xK;refine jx (vq _ _) λtb=> ?_
 split
 ·exact yt _ _ _
 ·exact trivial
def JZ:Û stack:=λ_=>trivial
def XV (env:Env)(outer:G0 Env):Û (uF env outer):=by
 unfold uF;split
 ·exact trivial
 ·split
  ·exact trivial
  ·exact jx (vq _ _) λ_=>trivial
def Rc (env:Env)(i:N3)(outer:G0 Env):Û (keptBack env i outer):=by
 unfold keptBack underTheClaimsCaller
 repeat (first|exact trivial|exact JZ|(refine jx ?_ λ_=> ?_)|split)
theorem YI: ∀l:G0 Env,Û (IJ l)
 | []=>trivial
 |env::outer=>by
  unfold IJ;split
  ·refine jx (Jo _) λo=> ?_
   split
   ·exact trivial
   ·refine jx (XV _ _) λi=>jx (Rc _ _ _) λb=>jx ?_ λ_=>YI outer
    exact⟨λo ho=>by obtain⟨c,d,t,sl⟩:=o;cases t<;>exact⟨ho,rfl,rfl,λ_=>rfl⟩,trivial⟩
  ·exact trivial
def UH (env:Env):Û (pI env):=by
 unfold pI frameEnvs;refine jx (jx JZ λ_=>trivial) λl=>jx ?_ λf=> ?_
 ·unfold frameObject;split
  ·exact trivial
  ·exact jx (YI _) λ_=>trivial
 ·split<;>exact trivial
def XW (c:G1)(t:Data)(d:P1 G7):Û (newObj c t d):=by
 have jp:Û (G0e c t d):=by
  unfold G0e;refine jx (λ_=>trivial) λa=> ?_
  dsimp only;split
  ·refine jx ?_ λb=> ?_
   ·unfold classHasDel;exact jx (Jo _) λo=>by split<;>exact trivial
   ·split
    ·exact jx trivial λ_=>trivial
    ·exact trivial
  ·exact trivial
 unfold newObj;dsimp only;split<;>(try split)<;>first|exact jp|exact trivial
def Vm (a b c d e:G1)(l:G0 G1):Û (iF a b c d e l):=by
 unfold iF newFields;exact XW _ _ _
def GP (f:G7)(b:N3):Û (qX f b):=by
 unfold qX;refine jx JZ λ_=> ?_
 split<;>exact trivial
def vI (e:G1)(env:Env):Û (oX e env):=by
 unfold oX;split
 ·refine jx (vq _ _) λhead=> ?_
  have jp: ∀f:G7,Û (do mL e 1 (<-iF head (<-pI env) .none (aS f) .none (<-qX f (head != .none)))):=λf=>jx (UH _) λ_=>jx (GP _ _) λ_=>jx (Vm ..) λ_=>yt _ _ _
  dsimp only;split
  ·refine jx (vq _ _) λx=> ?_
   split
   ·exact trivial
   ·exact jx (yt _ _ _) λ_=>jp _
  ·exact jp _
 ·exact trivial
def Zv (env:Env)(e:G1):Û (mR env e):=jx (vI e env) λ_=>wV e xa
end HT
namespace L2
open PySem PySem.Spec PyProof.Rows
def Ô.there {P:D5}{w:T8}{H:Hp}{h:N8}{a:G7}{o:HO}(x:Ô P w H h a o): ∃u,h.get? a=zq u:=by
 cases o with
 |lst xs=>obtain⟨_,_,_,_,e⟩:=x;exact⟨_,e⟩
 |tup xs=>obtain⟨_,_,_,p⟩:=x;obtain⟨o,e,_⟩:=p;exact⟨_,e⟩
 |dK Ù=>obtain⟨_,_,_,_,o,_,_,e,_⟩:=x;exact⟨_,e⟩
 |dT Ù=>obtain⟨_,_,_,_,o,_,_,e,_⟩:=x;exact⟨_,e⟩
 |set S n=>obtain⟨o,_,_,_,e,_⟩:=x;exact⟨_,e⟩
 |ins C dx fs=>obtain⟨_,_,_,e,_⟩:=x;exact⟨_,e⟩
 |own y=>obtain⟨_,e⟩:=x;exact⟨_,e⟩
 |xd fs=>obtain⟨_,⟨_,_,_,e,_⟩,_⟩:=x;exact⟨_,e⟩
 |rng lo hi=>obtain⟨_,_,_,e⟩:=x;exact⟨_,e⟩
 |frz ob u=>obtain⟨e,_⟩:=x;exact⟨_,e⟩
 |tbl ps=>exact⟨_,(show h.get? a=zq _ from x)⟩
 |met f y=>exact⟨_,(show h.get? a=zq _ from x)⟩
 |ext φ=>obtain⟨_,⟨_,e⟩,_⟩:=x;exact⟨_,e⟩
theorem zh {h b b':N8}: ∀ {l:G0 Env},h.FunFrames b l->(∀a∈ā l,b'.get? a=xa)->h.FunFrames b' l
 | [],_,_=>trivial
 |env::r,⟨hk,⟨L,o,hf,_,ho,hd⟩,hr⟩,n=>by
  refine⟨hk,⟨L,o,hf,n L ?_,ho,hd⟩,zh hr λa ha=>n a ?_⟩
  ·unfold ā;rw [X9,hf];exact .head _
  ·unfold ā;rw [X9,hf];exact .tail _ ha
structure Fly (h0:N8)(H:Hp)(h:N8)(x C:G7)(dx:P1 G7):Prop where
 ex: ∃ (oe:Obj) (vs:T7 G1) (a0:G1) (T:G7) (oT:Obj) (ts:T7 G1),h.get? x=zq oe/\oe.cls= .ref C/\oe.data= .fields vs/\vs[0]? =zq a0/\vs[1]? =zq (.ref T)/\T≠x/\
  h.get? T=zq oT/\oT.data= .fields ts/\ts[3]? =zq .none/\H T=xa/\h0.get? T=xa
 nx:H x=xa
 n0:h0.get? x=xa
 dc:dx=xa\/ ∃oe,h.get? x=zq oe/\oe.dict=dx
def Ģ (P:D5)(w:T8):CXT:=λouter H s E e s'=> ∃x C dx H',e= .ref x/\s'.os=s.os/\iG s'.gens/\Un (ā outer) [] H H' s.heap s'.heap/\ă P w H' s'.heap/\Fly s.heap H' s'.heap x C dx/\E (.ref C) dx H'
structure Rz0 (X:Cx):Prop where
 stk:X.stack=X.env::X.outer
 fr:X.env.frame=zq X.env.locals
 ex:X.ex= []
structure Rz (X:Cx)(E:XK):Prop extends Rz0 X where
 xe: ∀e s',D6 (R3 X.prog X.w) X.A (mR X.env e) (λ_ Ο=>Ģ X.prog X.w X.outer X.H₀ X.s₀ E e Ο) (λe' Ο=>Ģ X.prog X.w X.outer X.H₀ X.s₀ E e' Ο) s'->X.xe e s'
section
variable {X:Cx}{À:G0 (G7×Obj)}{σ:St}{H:Hp}{s:G2}{E:XK}{x C:G7}{dx:P1 G7}
def QZ (I:Inv X À σ H s)(Z:Rz0 X){ys:G0 G7}(hy: ∀y∈ys,H y=xa/\X.s₀.heap.get? y=xa){h':N8}
 (kb: ∀b o,s.heap.get? b=zq o->b ∉ ys->b ∉ ā (X.env::X.outer)->h'.get? b=zq o)
 (up: ∀b o,s.heap.get? b=zq o->b∈ā (X.env::X.outer)-> ∃sl,h'.get? b=zq {o with slots:=sl}):
 Un X.fs [] X.H₀ H X.s₀.heap h'/\ă X.prog X.w H h'/\
  ∀T oT ts,h'.get? T=zq oT->oT.data= .fields ts->(∀o,s.heap.get? T=zq o->T∈ys\/T∈ā (X.env::X.outer))->H T=xa/\X.s₀.heap.get? T=xa:=by
 have nex: ∀b,b ∉ X.ex:=λb=>by rw [Z.ex];simp
 have neL: ∀b o,X.s₀.heap.get? b=zq o->b≠X.env.locals:=λb o e=>M6 (S8 (D7 e) I.ok.above)
 have mem: ∀b,b∈ā (X.env::X.outer)↔b=X.env.locals\/b∈X.fs:=λb=>by
  show b∈List.filterMap _ _↔_;rw [X9,Z.fr];exact R5
 have nys: ∀b o,X.s₀.heap.get? b=zq o->b ∉ ys:=λb o e z=>by rw [(hy b z).2] at e;cases e
 have trf: ∀b u,H b=zq u->b ∉ ys/\b ∉ ā (X.env::X.outer):=λb u e=>by
  refine⟨λz=> ?_,λz=> ?_⟩
  ·rw [(hy b z).1] at e;cases e
  ·have:=I.stkFree b (by rw [Z.stk];exact z);rw [this] at e;cases e
 refine⟨⟨λb o e n hb hx=> ?_,λb o e n hb hx=> ?_,λb o e n hx=>I.base.free b o e n (nex b),λb o e hx=> ?_,I.base.tups,I.base.frzs,I.base.tbls⟩,λa o e=> ?_,λT oT ts hT hd hn=>⟨?_,?_⟩⟩
 ·exact kb b o (I.base.keep b o e n hb (nex b)) (nys b o e) λz=>((mem b).mp z).elim (neL b o e) hb
 ·obtain⟨sl,e1⟩:=I.base.slot b o e n hb (nex b);obtain⟨sl',e2⟩:=up b _ e1 ((mem b).mpr (.inr hb));exact⟨sl',e2⟩
 ·obtain⟨o',e1⟩:=I.base.there b o e (nex b)
  by_cases hb:b∈ā (X.env::X.outer)
  ·obtain⟨sl,e2⟩:=up b o' e1 hb;exact⟨_,e2⟩
  ·exact⟨_,kb b o' e1 (nys b o e) hb⟩
 ·refine(I.hok a o e).stay (λb u hb q=> ?_) (λ_ q=>q) λ_ _ q=>q
  rcases hb with rfl|hb
  ·exact kb b u q (trf b _ e).1 (trf b _ e).2
  ·exact kb b u q (trf b _ hb).1 (trf b _ hb).2
 ·cases q:H T with
  |none=>rfl
  |some u=>
   obtain⟨o,e⟩:=(I.hok T u q).there;exact xj (hn o e) λz=>z.elim (trf T u q).1 (trf T u q).2
 ·cases q:X.s₀.heap.get? T with
  |none=>rfl
  |some o=>
   exfalso;obtain⟨o',e1⟩:=I.base.there T o q (nex T);rcases hn o' e1 with z|z
   ·exact nys T o q z
   ·rcases (mem T).mp z with z'|z'
    ·exact neL T o q z'
    ·obtain⟨_,o2,e2,nd⟩:=(show s.heap.FunFrames X.base (X.env::X.outer) from Z.stk ▸ I.stack).mem z;obtain⟨sl,e3⟩:=up T o2 e2 z;rw [hT] at e3;cases e3;exact nd ts hd
def Re {Q:Unit->G2->Prop}{M:cN}{EE:G1->G2->Prop}(I:Inv X À σ H s)(Z:Rz X E)(fl:Fly X.s₀.heap H s.heap x C dx)
 (k: ∀h',Un X.fs [] X.H₀ H X.s₀.heap h'->ă X.prog X.w H h'->Fly X.s₀.heap H h' x C dx->Q () {s with heap:=h'}):D6 M X.A (mR X.env (.ref x)) Q EE s:=by
 obtain⟨oe,vs,a0,T,oT,ts,he,hc,hd,h0,h1,hTx,hT,hTd,h3,hHT,h0T⟩:=fl.ex;have hfr:X.A.frames=zq (X.env::X.outer):=by rw [I.ok.frames,Z.stk]
 have stk:s.heap.FunFrames X.base (X.env::X.outer):=Z.stk ▸ I.stack;have ff:s.heap.FunFrames (V4 s.heap (x::T::ā (X.env::X.outer))) (X.env::X.outer):=zh stk λa ha=>U4 _ (.tail _ (.tail _ ha))
 refine R7 ((HT.Zv X.env (.ref x)).any (wpAny_leaves_onW (base:=V4 s.heap (x::T::ā (X.env::X.outer))) (cls:= .ref C) (a0:=a0)
  (Q:=λ_ s'=> ∃h',s'= {s with heap:=h'}/\mZ (V4 s.heap (x::T::ā (X.env::X.outer))) X.outer x (.ref C) a0 h'/\s.heap.UpToSlots h') (E:=EE) hfr Z.fr
  ⟨λb o e=>dE _ e,U4 _ (.head _),ff,oe,vs,T,oT,ts,he,⟨hc,h0⟩,hd,h1,U4 _ (.tail _ (.head _)),hTx,hT,hTd,h3⟩ λh' p q=>⟨h',rfl,p,q⟩)) (λ_ s' ⟨⟨h',e',X1p,hup⟩,dk⟩=> ?_) λ_ _ z=>z.1
 subst e';obtain⟨st,_,_,oe',vs',T',oT',ts',he',⟨hc',h0'⟩,ō,Κ,hTB,Φ,Ū,ŀ,h3'⟩:=X1p;obtain⟨r1,r2,r3⟩:=QZ (ys:= [x,T]) (h':=h') I Z.toRz0 (λy hy=>by
  rcases R5.mp hy with rfl|hy
  ·exact⟨fl.nx,fl.n0⟩
  ·rcases R5.mp hy with rfl|hy
   ·exact⟨hHT,h0T⟩
   ·cases hy) (λb o e n1 n2=>st b o (V1 _ e λz=>by
    rcases R5.mp z with rfl|z
    ·exact n1 (.head _)
    ·rcases R5.mp z with rfl|z
     ·exact n1 (.tail _ (.head _))
     ·exact n2 z)) λb o e hb=>by
  obtain⟨_,o2,e2,nd⟩:=stk.mem hb;rw [e] at e2;cases e2;exact hup b o e nd
 obtain⟨q1,q2⟩:=r3 T' oT' ts' Ū ŀ λo e=>by
  by_cases z:T'∈ā (X.env::X.outer)
  ·exact .inr z
  ·refine .inl ?_
   by_cases z1:T'=x
   ·rw [z1];exact .head _
   ·by_cases z2:T'=T
    ·rw [z2];exact .tail _ (.head _)
    ·rw [V1 _ e (by simp only [R5,not_or];exact⟨z1,z2,z⟩)] at hTB;cases hTB
 exact k h' r1 r2 ⟨⟨oe',vs',a0,T',oT',ts',he',hc',ō,h0',Κ,Φ,Ū,ŀ,h3',q1,q2⟩,fl.nx,fl.n0,fl.dc.imp id λ⟨o,e,d⟩=>let ⟨o',e2,d2,_⟩:=dk x o e;⟨o',e2,d2.trans d⟩⟩
def GQ {Q:Unit->G2->Prop}{M:cN}{EE:G1->G2->Prop}{h1:N8}{args:G0 G1}(I:Inv X À σ H s)(Z:Rz X E)(hm:uG s.heap h1 x (.ref C) args)
 (k: ∀h',Un X.fs [] X.H₀ H X.s₀.heap h'->ă X.prog X.w H h'->Fly X.s₀.heap H h' x C xa->Q () {s with heap:=h'}):D6 M X.A (mR X.env (.ref x)) Q EE {s with heap:=h1}:=by
 have hfr:X.A.frames=zq (X.env::X.outer):=by rw [I.ok.frames,Z.stk]
 have stk:s.heap.FunFrames X.base (X.env::X.outer):=Z.stk ▸ I.stack;have ff:s.heap.FunFrames (V4 s.heap (ā (X.env::X.outer))) (X.env::X.outer):=zh stk λa ha=>U4 _ ha
 refine wpAny_leaves_madeW (base:=V4 s.heap (ā (X.env::X.outer))) (h:=s.heap) (s:= {s with heap:=h1}) hfr Z.fr (λb o e=>dE _ e) ff hm λh' t X1p _ _ hup=> ?_
 obtain⟨st,_,_,oe',vs',T',oT',ts',he',⟨hc',h0'⟩,ō,Κ,hTB,Φ,Ū,ŀ,h3'⟩:=X1p;obtain⟨r1,r2,r3⟩:=QZ (ys:= []) (h':=h') I Z.toRz0 (λy hy=>nomatch hy) (λb o e _ n2=>st b o (V1 _ e n2)) λb o e hb=>by
  obtain⟨_,o2,e2,nd⟩:=stk.mem hb;rw [e] at e2;cases e2;exact hup b o (hm.keeps b o e) nd
 obtain⟨q1,q2⟩:=r3 T' oT' ts' Ū ŀ λo e=>by
  by_cases z:T'∈ā (X.env::X.outer)
  ·exact .inr z
  ·rw [V1 _ e z] at hTB;cases hTB
 obtain⟨p1,p2⟩:=r3 x oe' vs' he' ō λo e=>by rw [hm.new] at e;cases e
 exact k h' r1 r2 ⟨⟨oe',vs',_,T',oT',ts',he',hc',ō,h0',Κ,Φ,Ū,ŀ,h3',q1,q2⟩,p1,p2,.inl rfl⟩
def Rf {Q:Unit->G2->Prop}{M:cN}{EE:G1->G2->Prop}{oe:Obj}{vs:T7 G1}{a0:G1}(I:Inv X À σ H s)(Z:Rz X E)(hx:H x=xa)(h0:X.s₀.heap.get? x=xa)(he:s.heap.get? x=zq oe)(hc:oe.cls= .ref C)(hd:oe.data= .fields vs)(h1:vs[1]? =zq .none)(ha:vs[0]? =zq a0)(hdx:oe.dict=dx)
 (k: ∀h',Un X.fs [] X.H₀ H X.s₀.heap h'->ă X.prog X.w H h'->Fly X.s₀.heap H h' x C dx->Q () {s with heap:=h'}):D6 M X.A (mR X.env (.ref x)) Q EE s:=by
 have hfr:X.A.frames=zq (X.env::X.outer):=by rw [I.ok.frames,Z.stk]
 have stk:s.heap.FunFrames X.base (X.env::X.outer):=Z.stk ▸ I.stack;have ff:s.heap.FunFrames (V4 s.heap (x::ā (X.env::X.outer))) (X.env::X.outer):=zh stk λa ha=>U4 _ (.tail _ ha)
 refine R7 ((HT.Zv X.env (.ref x)).any (wpAny_leaving_firstW (base:=V4 s.heap (x::ā (X.env::X.outer))) (a0:=a0)
  (Q:=λ_ s'=> ∃h',s'= {s with heap:=h'}/\Heap.LeftW (V4 s.heap (x::ā (X.env::X.outer))) (X.env::X.outer) x oe.cls a0 s.heap h') (E:=EE) hfr ff Z.fr he
  (λb o e=>dE _ e) (U4 _ (.head _)) hd h1 ha λh' p=>⟨h',rfl,p⟩)) (λ_ s' ⟨⟨h',e',hl⟩,dk⟩=> ?_) λ_ _ z=>z.1
 subst e';obtain⟨st,⟨_,_,_⟩,⟨oe',vs',T',oT',ts',he',⟨hc',h0'⟩,ō,Κ,hTB,Φ,Ū,ŀ,h3'⟩,hup⟩:=hl;obtain⟨r1,r2,r3⟩:=QZ (ys:= [x]) (h':=h') I Z.toRz0 (λy hy=>by
  rcases R5.mp hy with rfl|hy
  ·exact⟨hx,h0⟩
  ·cases hy) (λb o e n1 n2=>st b o (V1 _ e λz=>by
    rcases R5.mp z with rfl|z
    ·exact n1 (.head _)
    ·exact n2 z)) λb o e hb=>by
  obtain⟨_,o2,e2,nd⟩:=stk.mem hb;rw [e] at e2;cases e2;exact hup b o e nd
 obtain⟨q1,q2⟩:=r3 T' oT' ts' Ū ŀ λo e=>by
  by_cases z:T'∈ā (X.env::X.outer)
  ·exact .inr z
  ·refine .inl ?_
   by_cases z1:T'=x
   ·rw [z1];exact .head _
   ·rw [V1 _ e (by simp only [R5,not_or];exact⟨z1,z⟩)] at hTB;cases hTB
 exact k h' r1 r2 ⟨⟨oe',vs',a0,T',oT',ts',he',hc'.trans hc,ō,h0',Κ,Φ,Ū,ŀ,h3',q1,q2⟩,hx,h0,.inr (let ⟨o',e2,d2,_⟩:=dk x oe he;⟨o',e2,d2.trans hdx⟩)⟩
def TQ (Z:Rz X E):Wc (Ģ X.prog X.w) X E:=by
 intro À σ H s e s' I ⟨x,C,dx,H',he,os,bare,un,hok,fl,q⟩;subst he;obtain⟨hh,g,d,t,os'⟩:=s';obtain rfl:os'=s.os:=os;have I':=I.call (h':=hh) (g':=g) (d':=d) (t':=t) (ch:= []) un hok bare (λb z=>xj z (by simp));have nex: ∀b,b ∉ X.ex:=λb=>by rw [Z.ex];simp
 have f0: ∀b,s.heap.get? b=xa->X.s₀.heap.get? b=xa:=λb n=>by
  cases q:X.s₀.heap.get? b with
  |none=>rfl
  |some o=>obtain⟨o',e⟩:=I.base.there b o q (nex b);rw [n] at e;cases e
 have fl':Fly X.s₀.heap H' hh x C dx:=by
  obtain⟨⟨oe,vs,a0,T,oT,ts,a1,a2,a3,a4,a5,a6,a7,a8,a9,a10,a11⟩,nx,n0,dc⟩:=fl;exact⟨⟨oe,vs,a0,T,oT,ts,a1,a2,a3,a4,a5,a6,a7,a8,a9,a10,f0 _ a11⟩,nx,f0 _ n0,dc⟩
 exact Z.xe _ _ (Re I' Z fl' λh' u hk f=>⟨x,C,dx,H',rfl,I'.os,I'.bare,u,hk,f,q⟩)
end
end L2
namespace L2
open PySem PySem.Spec PyProof.Rows PySem.W
def ZN (cells:G0 (Str×G7)):G0 (Str×NameKind)->G0 (Str×G7)->G0 (Str×G7)
 | [],cs=>cs
 |(n,k)::r,cs=>ZN cells r (if k== .free then (match cells.lookup n with|some c=>(n,c)::cs|none=>cs) else cs)
theorem yu {env:Env}: ∀ (names:G0 (Str×NameKind)) (cs:G0 (Str×G7)),(∀n,(n,A0)∈names-> ∃c,env.cells.lookup n=zq c)->
 (forIn names cs (λ(x:Str×NameKind) (r:G0 (Str×G7))=>do
  let (name,kind):=x
  if kind== .free then
   let c <-G0Q env name
   pure (X8 ((name,c)::r))
  else pure (X8 r)):Sem (G0 (Str×G7)))=pure (ZN env.cells names cs)
 | [],cs,_=>rfl
 |(n,k)::r,cs,h=>by
  rw [aC]
  by_cases hk:(k==A0)=xb
  ·have hk':k= .free:=eq_of_beq hk;subst hk';obtain⟨c,hc⟩:=h n (.head _);unfold ZN;simp only [gK,gP,G0Q,hc,pure_bind];exact yu r _ λn hn=>h n (.tail _ hn)
  ·unfold ZN;simp only [hk,mF,pure_bind];exact yu r _ λn hn=>h n (.tail _ hn)
variable {scope:A2}
def Wu {env:Env}(h: ∀n,(n,A0)∈scope.names-> ∃c,env.cells.lookup n=zq c):iW scope env=pure (ZN env.cells scope.names []):=by
 have:=yu (env:=env) scope.names [] h;unfold iW
 first
  |exact this
  |simpa using this
theorem yh {cells:G0 (Str×G7)}: ∀ (names:G0 (Str×NameKind)) (cs:G0 (Str×G7)),(∀x c,cs.lookup x=zq c->cells.lookup x=zq c)-> ∀x c,(ZN cells names cs).lookup x=zq c->cells.lookup x=zq c
 | [],_,h,x,c,e=>h x c e
 |(n,k)::r,cs,h,x,c,e=>by
  unfold ZN at e;refine yh r _ (λy d hy=> ?_) x c e;split at hy
  ·split at hy
   ·rename_i c' hc';rw [A6] at hy
    by_cases q:(y==n)=xb
    ·rw [q] at hy;cases hy;rw [eq_of_beq q];exact hc'
    ·simp only [q] at hy;exact h y d hy
   ·exact h y d hy
  ·exact h y d hy
theorem Wv {cells:G0 (Str×G7)}: ∀ (names:G0 (Str×NameKind)) (cs:G0 (Str×G7)) (x:Str),((x,A0)∈names/\(∃c,cells.lookup x=zq c)\/ ∃c,cs.lookup x=zq c)-> ∃c,(ZN cells names cs).lookup x=zq c
 | [],_,x,h=>h.elim (λz=>nomatch z.1) id
 |(n,k)::r,cs,x,h=>by
  unfold ZN;refine Wv r _ x ?_;rcases h with ⟨hm,c,hc⟩|⟨c,hc⟩
  ·rcases R5.mp hm with q|q
   ·cases q;right;simp only [gK,gP,hc];exact⟨c,by simp⟩
   ·exact .inl ⟨q,c,hc⟩
  ·right;split
   ·split
    ·rename_i c' hc'
     by_cases q:(x==n)=xb
     ·exact⟨c',by rw [A6,q]⟩
     ·exact⟨c,by rw [A6];simp only [q];exact hc⟩
    ·exact⟨c,hc⟩
   ·exact⟨c,hc⟩
structure Ś (sc:A2):Prop where
 kind:sc.kind= .function
 co:sc.isCoroutine=xf
 gen:sc.isGenerator=xf
 nocell: ∀y∈sc.names,y.2≠ .cell/\y.2≠ .local
def Ye:oV:= {posonlyargs:= [],args:= [],vararg:=xa,kwonlyargs:= [],kw_defaults:= [],kwarg:=xa,defaults:= []}
def UI {a0 b0:P0}{c:G1}: ∀l:G0 G1,gJ l->gJ (l++ [aS a0,aS b0,c]):=by
 intro l h
 fun_induction gJ l with
 |case1=>simp [gJ,aS]
 |case2 a t b u x rest ih=>simp only [K0,gJ];exact ih h
 |case3 l h1 h2=>exact h.elim
def GR {p:Pos}{a0 b0:P0}{c cv:G1}: ∀l:G0 G1,gJ l->mI p (l++ [aS a0,aS b0,c])=zq cv->mI p l=zq cv\/cv=c:=by
 intro l h e
 fun_induction gJ l with
 |case1=>
  right;simp only [O2,mI,aS] at e;split at e
  ·exact(C9 e).symm
  ·cases e
 |case2 a t b u x rest ih=>
  simp only [K0,mI] at e ⊢;split at e
  ·rename_i hc;left;rw [S5 hc];exact e
  ·rename_i hc;rw [R9 hc];exact ih h e
 |case3 l h1 h2=>exact h.elim
def ŷ (H:Hp)(cv:G1)(q:Str):Prop:= ∃ (c:G7) (o:Obj) (vs:T7 G1) (t:Tok),cv= .ref c/\H c=zq (.frz o (.own 0))/\o.data= .fields vs/\vs[1]? =zq (.str q t)
variable {w:T8}{H:Hp}{q:Str}
def ŷ.rec {P:D5}{h:N8}{cv:G1}(x:ŷ H cv q)(ok:ă P w H h):h.CodeRec cv q:=let ⟨c,o,vs,t,e,e2,r⟩:=x;⟨c,o,vs,t,e,(ok c _ e2).1,r⟩
section
variable {X:Cx}{À:G0 (G7×Obj)}{σ:St}{H:Hp}{s:G2}
def Nu {M:cN}{A:S4}{E:G1->G2->Prop}{Q:G1->G2->Prop}{body:S2}{scope:A2}{pos:Pos}{c P:G7}{ps:T7 G1}{X1G:G0 (Str×G7)}(I:Inv X À σ H s)(B:Bm X.mg X.base)
 (ο:X.env.code= .ref c)(hc:codeHdIn X.K c P=xb)(hP:H P=zq (.tbl ps))(hps:Đ H ps)(hcl:iW scope X.env=pure X1G)
 (k: ∀ (f:G7) (q qual:Str) (pm cv Λ:G1) (H':Hp) (h':N8) (tk:Tok),Inv X À σ H' {s with heap:=h',toks:=tk}->Kept H H'->(∀a o,H a=zq o->(∀ps',o≠ .tbl ps')->H' a=zq o)->
  (∀a ps',H a=zq (.tbl ps')->a≠P->H' a=zq (.tbl ps'))->(∃ps',H' P=zq (.tbl ps')/\Đ H' ps')->
  h'.get? f=zq {cls:= .type "function",data:= .func (kla_fn "<lambda>" qual Ye body scope X1G pm cv Λ)}->ŷ H' cv q->H' f=xa->(∀x d,X.env.cells.lookup x=zq d->d≠f)->f≠X.env.locals->f ∉ X.fs->Q (.ref f) {s with heap:=h',toks:=tk}):
 D6 M A (L7 (.Lambda Ye body scope pos) X.env) Q E s:=by
 have hPg:s.heap.get? P=zq (tabObj ps):=I.hok P _ hP;have C:CodeHd s.heap c P:=codeHd_of_K I.kIn hc;have hgs:s.heap.Ns xi X.mg:=I.mod.glob.keeps I.bk;obtain⟨bm,ob,b1,b2,b3,b4,b5,b6⟩:=B;have bb:=I.bs _ _ b3;have hgP:xi≠P:=λq=>by
  obtain⟨o,es,ep,e,hd,_⟩:=hgs;rw [q,hPg] at e;cases e;cases hd
 have hbP:bm≠P:=λq=>by rw [q,hP] at bb;cases bb.2
 have hbG:bm≠xi:=λq=>by
  obtain⟨o,es,ep,e,hd,_⟩:=hgs;rw [q,e] at bb;cases bb.1;rw [hd] at b6;cases b6
 have BA:s.heap.BuiltinsAt X.mg P:=⟨bm,ob,b1,b2,hbG,hbP,bb.1,b4,b5,b6⟩;have away: ∀f,s.heap.objs.size<=f->(∀x d,X.env.cells.lookup x=zq d->d≠f)/\f≠X.env.locals/\f ∉ X.fs:=λf hf=>⟨λx d e z=>by
  obtain⟨v,o,ho,_⟩:=I.cell x d e;exact xj (S8 (D7 ho) (z ▸ hf)) (O7 _),λz=>xj (S8 I.lt (z ▸ hf)) (O7 _),I.nofs hf⟩
 refine kla_eval rfl ?_;cases hf:mI pos ps.toList with
 |none=>
  refine kla_makeFunction (mg:=X.mg) hcl I.ok.glob hgs ο C hPg hps.1 hf hgP BA λc' Λ h' tk hx hge ν X1W htb=> ?_
  have hP':P<s.heap.objs.size:=D7 hPg;have hcP:c'≠P:=K4 (S8 hP' hge);have π:H c'=xa:=I.hok.fresh hge;obtain⟨c₂,oc,vs,t,e2,hoc,hd,hv⟩:=X1W;cases e2;have X0P:s.heap.objs.size<=h'.objs.size:=T6 (U2 hge ν);have kp: ∀ (o2:Obj) b o,b≠P->s.heap.get? b=zq o->(h'.push o2).get? b=zq o:=λo2 b o nb e=>G9 _ (hx b o nb e)
  have hnP: ∀b u,H b=zq u->(∀ps',u≠ .tbl ps')->b≠P:=λb u e n z=>by rw [z,hP] at e;cases e;exact n _ rfl
  have look: ∀b,b≠P->b≠c'->upd (upd H c' (.frz oc (.own 0))) P (.tbl (ps++ #[aS pos.line,aS pos.col,.ref c'])) b=H b:=λb n1 n2=>by rw [jf n1,jf n2]
  have ncs: ∀b u,H b=zq u->b≠c':=λb u e z=>by rw [z,π] at e;cases e
  have frzs: ∀b o u,H b=zq (.frz o u)->upd (upd H c' (.frz oc (.own 0))) P (.tbl (ps++ #[aS pos.line,aS pos.col,.ref c'])) b=zq (.frz o u):=λb o u e=>by
   rw [look b (hnP b _ e (by intro _ z;cases z)) (ncs b _ e)];exact e
  refine k h'.objs.size (X.env.qual++ "<lambda>") (X.env.qual++ "<lambda>") _ (.ref c') Λ (upd (upd H c' (.frz oc (.own 0))) P (.tbl (ps++ #[aS pos.line,aS pos.col,.ref c']))) _ tk ?_ ?_ ?_ ?_ ?_ (S7 _ rfl) ⟨c',oc,vs,t,rfl,by rw [jf hcP,jh],hd,hv⟩ ?_ (away _ X0P).1 (away _ X0P).2.1 (away _ X0P).2.2
  ·refine I.un (t':=tk) ⟨λb o e n hb ğ=>kp _ b o (λz=>by rw [z,hP] at n;cases n) e,λb o e n hb ğ=>⟨o.slots,kp _ b o (λz=>by rw [z,hP] at n;cases n) e⟩,λb o e n ğ=> ?_,λb o e ğ=> ?_,λb xs e=> ?_,frzs,λb ps' e=> ?_⟩ λa o e=> ?_
   ·rw [look b (λz=>by rw [z,hP] at n;cases n) (M6 (S8 (D7 e) hge))];exact n
   ·by_cases z:b=P
    ·rw [z];exact⟨_,G9 _ htb⟩
    ·exact⟨_,kp _ b o z e⟩
   ·rw [look b (hnP b _ e (by intro _ z;cases z)) (ncs b _ e)];exact e
   ·by_cases z:b=P
    ·subst z;rw [hP] at e;cases e;exact⟨_,jh⟩
    ·exact⟨#[],by rw [look b z (ncs b _ e),e];simp⟩
   ·by_cases z:a=P
    ·subst z;rw [jh] at e;cases e;exact G9 _ htb
    ·rw [jf z] at e
     by_cases z2:a=c'
     ·subst z2;rw [jh] at e;cases e;exact⟨G9 _ hoc,⟨oc,G9 _ hoc⟩⟩
     ·rw [jf z2] at e;refine(I.hok a o e).stay (λb u hb q=> ?_) (λb q=> ?_) λb xs q=> ?_
      ·rcases hb with rfl|hb
       ·exact kp _ b u z q
       ·exact kp _ b u (hnP b _ hb (by intro _ z;cases z)) q
      ·rw [look b (hnP b _ q (by intro _ z;cases z)) (ncs b _ q)];exact q
      ·rw [look b (hnP b _ q (by intro _ z;cases z)) (ncs b _ q)];exact q
  ·refine⟨λa xs e=> ?_,λa xs e=>⟨xs,?_⟩,λa kk i e=> ?_,frzs⟩<;>(rw [look a (hnP a _ e (by intro _ z;cases z)) (ncs a _ e)];exact e)
  ·intro a o e n;rw [look a (hnP a _ e n) (ncs a _ e)];exact e
  ·intro a ps' e n;rw [look a n (ncs a _ e)];exact e
  ·refine⟨_,jh,?_,λp cv e=> ?_⟩
   ·simp only [F4];exact UI _ hps.1
   ·simp only [F4] at e;rcases GR ps.toList hps.1 e with e|e
    ·obtain⟨c1,o,vs',q',t',e1,e2,r⟩:=hps.2 p cv e;exact⟨c1,o,vs',q',t',e1,frzs _ _ _ e2,r⟩
    ·exact⟨c',oc,vs,_,t,e,by rw [jf hcP,jh],hd,hv⟩
  ·have:H h'.objs.size=xa:=I.hok.fresh X0P;rw [look _ (K4 (S8 hP' X0P)) (K4 ν)];exact this
 |some cv=>
  obtain⟨c1,o,vs,q,t,rfl,e2,hd,hv⟩:=hps.2 pos cv hf;obtain⟨ho,_⟩:=I.hok c1 _ e2;refine kla_makeFunctionHit (mg:=X.mg) hcl I.ok.glob hgs ο C hPg hps.1 hf BA λΛ h' tk hk hsz=> ?_
  exact k h'.objs.size q (X.env.qual++ "<lambda>") _ (.ref c1) Λ H _ tk (I.kept (t':=tk) λb u e=>G9 _ (hk b u e)) (.refl H) (λ_ _ e _=>e) (λ_ _ e _=>e) ⟨ps,hP,hps⟩ (S7 _ rfl) ⟨c1,o,vs,t,rfl,e2,hd,hv⟩
   (I.hok.fresh hsz) (away _ hsz).1 (away _ hsz).2.1 (away _ hsz).2.2
end
structure Cap (N:G0 Str)(σ:St)(sc:A2)(cl:G0 (Str×G7))(h:N8)(H:Hp):Prop where
 len:σ.length=N.length
 inj: ∀x y c,cl.lookup x=zq c->cl.lookup y=zq c->x=y
 has: ∀x,sc.names.lookup x=zq .free-> ∃c,cl.lookup x=zq c
 cell: ∀x c,cl.lookup x=zq c->(∃v,h.IsCell c v)/\H c=xa
 loc: ∀ (i:P0) (x:Str) (v:V),N[i]? =zq x->σ[i]? =zq (zq v)->sc.names.lookup x=zq .free-> ∃u c,RelV v u/\cl.lookup x=zq c/\h.IsCell c (zq u)
theorem wJ {α β:Type}[BEq α][LawfulBEq α]: ∀ {l:G0 (α×β)} {x:α} {y:β},l.lookup x=zq y->(x,y)∈l
 | [],_,_,h=>by cases h
 |(a,b)::r,x,y,h=>by
  rw [A6] at h
  by_cases q:(x==a)=xb
  ·rw [q] at h;cases h;rw [eq_of_beq q];exact .head _
  ·simp only [q] at h;exact .tail _ (wJ h)
def Rg (sc:A2)(env:Env):Prop:= ∀n,(n,A0)∈sc.names->env.kindOf n=zq .cell\/env.kindOf n=zq .free
variable {σ:St}{s:G2}
def Cap.of {X:Cx}{À:G0 (G7×Obj)}{sc:A2}(I:Inv X À σ H s)(hf:Rg sc X.env):Cap X.N σ sc (ZN X.env.cells sc.names []) s.heap H where
 len:=I.len
 inj:=λx y c h1 h2=>I.ok.inj x y c (yh _ _ (λ_ _ z=>by cases z) _ _ h1) (yh _ _ (λ_ _ z=>by cases z) _ _ h2)
 has:=λx h=>Wv _ _ _ (.inl ⟨wJ h,I.ok.has x (hf x (wJ h))⟩)
 cell:=λx c h=>⟨I.cell x c (yh _ _ (λ_ _ z=>by cases z) _ _ h),I.freeC x c (yh _ _ (λ_ _ z=>by cases z) _ _ h)⟩
 loc:=λi x v h1 h2 h3=>by
  obtain⟨m,hn,hl⟩:=I.loc;have hk:=hf x (wJ h3);obtain⟨u,r,l⟩:=hl i x v h1 h2 (.inr hk);obtain⟨c,hc⟩:=Wv (cells:=X.env.cells) sc.names [] x (.inl ⟨wJ h3,I.ok.has x hk⟩);refine⟨u,c,r,hc,?_⟩;have hc':=yh _ _ (λ_ _ z=>by cases z) _ _ hc;rcases l with ⟨k,_⟩|⟨_,c2,e,z⟩
  ·rcases hk with k2|k2<;>(rw [k] at k2;cases k2)
  ·rw [hc'] at e;cases e;exact z
variable {cl:G0 (Str×G7)}
def Cap.step {N:G0 Str}{sc:A2}{h h':N8}{H':Hp}{fs:G0 G7}(C:Cap N σ sc cl h H)(u:Un fs [] H H' h h'):Cap N σ sc cl h' H':=by
 have k: ∀x c v,cl.lookup x=zq c->h.IsCell c v->h'.IsCell c v:=λx c v e ⟨o,ho,hd⟩=>by
  obtain⟨sl,q⟩:=u.any ho (C.cell x c e).2 (by simp);exact⟨_,q,hd⟩
 exact⟨C.len,C.inj,C.has,λx c e=>by
  obtain⟨⟨v,z⟩,n⟩:=C.cell x c e;obtain⟨o,ho,_⟩:=id z;exact⟨⟨v,k x c v e z⟩,u.free c o ho n (by simp)⟩,λi x v h1 h2 h3=>let ⟨uu,c,r,e,z⟩:=C.loc i x v h1 h2 h3;⟨uu,c,r,e,k x c _ e z⟩⟩
def cxL (CX:CXT)(P:D5)(w:T8)(K:G3)(mg:Str->P1 G1)(base:N8)(N:G0 Str)(q:Str)(scope:A2)(f:G7)(cd:G1)(cl:G0 (Str×G7))(A:S4)(outer:G0 Env)(s:G2)(H:Hp)(E:XK):Cx where
 prog:=P
 w:=w
 K:=K
 mg:=mg
 base:=base
 A:=A.deeper (envX q scope s.heap.objs.size f cd cl)
 N:=N
 s₀:=s
 H₀:=H
 env:=envX q scope s.heap.objs.size f cd cl
 outer:=outer
 stack:=envX q scope s.heap.objs.size f cd cl::outer
 ex:= []
 calm:=xb
 fn:=λ_=>xf
 pn:= []
 xe:=λe s'=>D6 (R3 P w) (A.deeper (envX q scope s.heap.objs.size f cd cl)) (mR (envX q scope s.heap.objs.size f cd cl) e) (λ_ Ο=>CX outer H s E e Ο) (λe' Ο=>CX outer H s E e' Ο) s'
variable {mg:Str->P1 G1}{base:N8}
def FY {CX:CXT}{P:D5}{K:G3}{N:G0 Str}{f:G7}{cd:G1}{A:S4}{outer:G0 Env}{E:XK}{h₁:N8}{tk:Tok}
 (L:Ś scope)(hd:A.handled=xa)(e0:į P w K mg base A outer s H)(C:Cap N σ scope cl s.heap H)(hns:h₁.Ns s.heap.objs.size (λ_=>xa))(hk: ∀b o,s.heap.get? b=zq o->h₁.get? b=zq o):
 Inv (cxL CX P w K mg base N q scope f cd cl A outer s H E) [] σ H {s with heap:=h₁,toks:=tk}:=by
 have noA: ∀b:G7,b ∉ (cxL CX P w K mg base N q scope f cd cl A outer s H E).ex:=λb z=>xj (show b∈([]:G0 G7) from z) (by simp)
 have nofr: ∀y,scope.names.lookup y=zq .cell\/scope.names.lookup y=zq .free->scope.names.lookup y=zq .free:=λy hy=>hy.elim (λz=>xj rfl (L.nocell _ (wJ z)).1) id
 refine⟨⟨e0.mod,L.kind,rfl,rfl,P7 _,λy z c h1 h2=>C.inj y z c h1 h2,λy hy=>C.has y (nofr y hy),λy c z=>(by cases z),λ_=>hd,g6 e0.frames,.inr ⟨rfl,rfl⟩,λb z=>xj z (noA b),e0.bs,e0.bsz,λb _ _=>noA b,λb z=>xj z (noA b),e0.funs,e0.frf⟩,
  rfl,e0.bare,Un.kept hk,⟨_,hns,λi y v h1 h2 h3=> ?_⟩,λy c h=> ?_,e0.hok.fresh (P7 _),λy c h=>(C.cell y c h).2,λp hp=>xj (show p∈([]:G0 (G7×Obj)) from hp) (by simp),e0.hok.kept hk,C.len⟩
 ·have h3':scope.names.lookup y=zq .free:=by
   rcases h3 with z|z
   ·exact xj rfl (L.nocell _ (wJ z)).2
   ·exact nofr y z
  obtain⟨u,c,r,e,o,ho,ō⟩:=C.loc i y v h1 h2 h3';exact⟨u,r,.inr ⟨.inr h3',c,e,o,hk _ _ ho,ō⟩⟩
 ·obtain⟨⟨v,o,ho,ō⟩,_⟩:=C.cell y c h;exact⟨v,o,hk _ _ ho,ō⟩
def Rh {prog:D5}{A:S4}{R:nZ->G2->Prop}{f:G7}{o:Obj}{qual:Str}{body:S2}{pm cd Λ:G1}(L:Ś scope)(deep:A.depth<recursionLimit)
 (there:s.heap.get? f=zq o)(lam:o.data= .func (kla_fn "<lambda>" qual Ye body scope cl pm cd Λ))(named:s.heap.CodeRec cd q)(lim:s.heap.NoLimit)
 (go: ∀h₁,h₁.Ns s.heap.objs.size (λ_=>xa)->(∀b o,s.heap.get? b=zq o->h₁.get? b=zq o)->
  U5 (R3 prog w) A (.expr body (envX q scope s.heap.objs.size f cd cl)) R {s with heap:=h₁,toks:=s.toks+0}):
 U5 (R3 prog w) A (.call (.ref f) ⟨[],[]⟩) R s:=by
 obtain⟨c,oc,vs,t,rfl,hoc,hdc,hq⟩:=named;obtain⟨h,g,d,tk,os⟩:=s;have frame:=λ{A':S4} {Q:Env->G2->Prop} {E:G1->G2->Prop} (k: ∀h₁,_->_->Q _ _)=>wpAny_newFunctionEnv (M:=R3 prog w) (A:=A') (s:=⟨h,g,d,tk,os⟩) (E:=E) (scope:=scope) (globals:=xi) (closure:=cl) (binds:= []) (qual:=q++ ".<locals>.") (func:=zq f) (code:= .ref c) (around:=xa) (builtins:=iM) (Q:=Q) (λx hx=>(L.nocell x hx).1) (λx hx=>nomatch hx) k L.kind
 refine dB ?_;show D6 _ A.in1 (callAny (.ref f) ⟨[],[]⟩) _ _ _
 wp_walk using tX there
 rw [lam];have nothing:qL (kla_fn "<lambda>" qual Ye body scope cl pm (.ref c) Λ) ⟨[],[]⟩=pure []:=rfl;show D6 _ _ (xT f (kla_fn "<lambda>" qual Ye body scope cl pm (.ref c) Λ) ⟨[],[]⟩) _ _ _;unfold xT;rw [nothing];show D6 _ _ (field (.ref c) 1 >>= _) _ _ _;refine xg (bW hoc hdc hq ?_)
 repeat refine xg (G8 ?_)
 refine xg (frame λh₁ empty same=>xg (wpAny_enterFrame (lim.fresh _ same) deep ?_));simp only [kla_fn,L.co,L.gen];exact G8 ⟨rfl,go h₁ empty λb o old=>same.extBut _ _ (λz=>xj (D7 old) (by rw [z];exact O7 _)) (G9 _ old)⟩
def FZ {CX:CXT}{P:D5}{K:G3}{N:G0 Str}{qual:Str}{f:G7}{cd pm Λ:G1}{A:S4}{outer:G0 Env}{E:XK}{o:Obj}{body:S2}{t:TE}{Q:VK}{k:P0}
 (L:Ś scope)(hr:Ð (k+1) A)(e0:į P w K mg base A outer s H)(C:Cap N σ scope cl s.heap H)(ho:s.heap.get? f=zq o)(hd:o.data= .func (kla_fn "<lambda>" qual Ye body scope cl pm cd Λ))(hc:ŷ H cd q)
 (hb:PE (cxL CX P w K mg base N q scope f cd cl A outer s H E) body t)(ht:t σ H Q):U5 (R3 P w) A (.call (.ref f) ⟨[],[]⟩) (CR CX outer P w H s Q E) s:=by
 have lim:s.heap.NoLimit:=e0.mod.nolimit.keeps λb o e=>(e0.bs b o e).1
 refine Rh L hr.depth ho hd (hc.rec e0.hok) lim λh₁ hns X1q=> ?_
 have I:=FY (CX:=CX) (q:=q) (f:=f) (cd:=cd) (E:=E) (tk:=s.toks+0) L hr.hd e0 C hns X1q;refine kla_codeExpr (R7 (hb [] _ σ H Q I ht) (λv s' hs=> ?_) λ_ _ y=>y);obtain⟨v',H',J,rv,q'⟩:=hs;exact⟨v',H',J.os,J.bare,J.base,J.hok,rv,q'⟩
structure RN where
 nm:Str
 fs:G0 (Str×P4)
instance:Coe Str RN:=⟨λc=>⟨c,[]⟩⟩
abbrev TXD:=SD->HD->(RN->HD->Prop)->Prop
def WX (X:Cx)(E:XK)(H:Hp)(R:RN->HD->Prop):Prop:= ∀ (c:RN) C dx h' H',Kept H H'->Å X.K h' H'->X.mg c.nm=zq (.ref C)->R c h'->ħ H' dx c.fs->E (.ref C) dx H'
def WX.mono {X:Cx}{E:XK}{H':Hp}{R:RN->HD->Prop}(w:WX X E H R)(k:Kept H H'):WX X E H' R:=λc C dx h2 H2 k2=>w c C dx h2 H2 (k.trans k2)
structure JX (X:Cx)(sts:G0 L8)(t:TXD):Prop where
 to: ∀ (E:XK),Rz X E-> ∀ (À:G0 (G7×Obj)) (s:G2) (σ:St) (H:Hp) (Ä:SD) (h:HD) (R:RN->HD->Prop),Inv X À σ H s->Ò X.K H Ä σ->Å X.K h H->t Ä h R->WX X E H R->
  D6 (R3 X.prog X.w) X.A (execs sts X.env) (λ_ _=>False) X.xe s
structure JXE (X:Cx)(e:S2)(t:TXD):Prop where
 to: ∀ (E:XK),Rz X E-> ∀ (À:G0 (G7×Obj)) (s:G2) (σ:St) (H:Hp) (Ä:SD) (h:HD) (R:RN->HD->Prop),Inv X À σ H s->Ò X.K H Ä σ->Å X.K h H->t Ä h R->WX X E H R->
  D6 (R3 X.prog X.w) X.A (L7 e X.env) (λ_ _=>False) X.xe s
def JS.nox {X:Cx}{st:L8}{t:TSD}(h:JS X.nox st t):JS X st t:=⟨λÀ s σ H D I hw=>
 R7 (h.to À s σ H D (I.wish _) hw) (λ_ _ q=>q.unwish) λ_ _ z=>xn z⟩
def kJ (t:TSD)(u:TXD):TXD:=λσ h R=>t {nx:=λÂ h'=>u Â h' R,rt:=λ_ _=>False} σ h
def xIf (t:TTD)(u:TXD):TXD:=λσ h R=>t σ h λk h'=>k=xb/\u σ h' R
def xRz (c:Str):TXD:=λ_ h R=>R c h
abbrev RDx:=G0 D->HD->(RN->HD->Prop)->Prop
def Eo (Ŧ:RDx)(t:TAD):TXD:=λσ h R=>t σ h λds h1=>Ŧ ds h1 R
inductive ė (mg:Str->P1 G1)(K:G3)(Ŧ:RDx)(vs:G0 V)(H:Hp)(Q:VK)(E:XK):Prop
 |mk (ds h R) (_:Á K H ds vs) (_:Å K h H) (_:Ŧ ds h R) (_: ∀ (c:RN) C d a b,Kept H b->Å K a b->mg c.nm=zq (.ref C)->R c a->ħ b d c.fs->E (.ref C) d b)
def bmV:G0 G1:= [.type "ValueError",.type "Exception",.type "BaseException",.type "object"]
def Nv {K:Frag}(P:D5)(M:Mod K mg base): ∃loose mb,TopRead P loose mg mb base:=by
 obtain⟨mb,laid,boot⟩:=M.blt;obtain⟨o,es,ep,at_,isd,texts,X1r⟩:=id M.glob;refine⟨es.toList.filterMap λe=>match e.key with| .str n _=>zq n|_=>xa,mb,M.glob,laid,M.nolimit,boot,λx _ out _ _ _=> ?_⟩;rw [<-X1r x];cases hit:nsFind es x with
 |none=>rfl
 |some v=>
  refine xj ?_ out;unfold nsFind G0L at hit;obtain⟨e,hf,_⟩:=L0.mp hit;have isx:e.key.isStr x=xb:=Array.find?_some (p:=λ(e:W1)=>e.key.isStr x) hf;have mem:=Array.mem_of_find?_eq_some hf;obtain⟨n,t,ek⟩:=texts e mem;rw [ek] at isx;have nx:n=x:=by simpa [Value.isStr] using isx
  exact bE.mpr ⟨e,by simpa using mem,by rw [ek,nx]⟩
def X04 (K:G3)(mg:Str->P1 G1)(c:Str):Prop:= ∃C,mg c=zq (.ref C)/\nsIn K xi c=zq (zq (.ref C))/\excIn K C bmV "ValueError.__new__" =xb
def X04.at {K:Frag}{h:N8}{c:Str}(P:D5)(O:X04 K mg c)(M:Mod K mg base)(kept: ∀b o,base.get? b=zq o->h.get? b=zq o): ∃C,mg c=zq (.ref C)/\OwnCls c C bmV "ValueError.__new__" mg h:=
 let ⟨C,hm,hn,hx⟩:=O
 let ⟨_,_,T⟩:=Nv P M
 ⟨C,hm,(own_of_in M.kin T hn hx).keeps kept⟩
section
variable {X:Cx}{c:S2}{e:S2}{es:G0 S2}{st:L8}{a b rest:G0 L8}{t:TSD}{tt:TTD}{u:TXD}{ta:TAD}{pos p:Pos}
def jM (hs:JS X st t)(hr:JX X rest u):JX X (st::rest) (kJ t u):=⟨λE Z À s σ H Ä h R I rs rh ht w=>by
 refine J9 (Ø (hs.to À s σ H {nx:=λÂ H'=> ∃ß h',Kept H H'/\Ò X.K H' ß Â/\Å X.K h' H'/\u ß h' R,rt:=λ_ _=>False} I
  ⟨Ä,h,_,rs,rh,ht,λß h' Â H' k ť ì q=>⟨ß,h',k,ť,ì,q⟩,λ_ _ _ _ _ _ _ q=>q,λ_ _ _ _ _ _ _ q=>q,λ_ _ _ _ _ _ _ q=>q⟩) λf s1 q=> ?_)
 cases f with
 |next=>
  obtain⟨Â,H',I',ß,h',k,ť,ì,q⟩:=q;exact hr.to E Z À s1 Â H' ß h' R I' ť ì q (w.mono k)
 |ret v=>obtain⟨_,_,_,_,_,q⟩:=q;exact q
 |brk=>obtain⟨_,_,_,q⟩:=q;exact q
 |cont=>obtain⟨_,_,_,q⟩:=q;exact q⟩
def Vn (hc:JT X c tt)(ha:JX X a u):JX X (.If c a b pos::rest) (xIf tt u):=⟨λE Z À s σ H Ä h R I rs rh ht w=>by
 refine J9 (R7 (wpAny_If (Q:=λ_ _=>False) (Ø (hc.to À s σ H (λk H'=>k=xb/\ ∃h',Kept H H'/\Ò X.K H' Ä σ/\Å X.K h' H'/\u Ä h' R) I
  ⟨Ä,h,_,rs,rh,ht,λk h' H' kp ì q=>⟨q.1,h',kp,rs.mono kp,ì,q.2⟩⟩) λd s1 q=> ?_)) (λ_ _ z=>z.elim) λ_ _ z=>z)
 obtain⟨H',I',rfl,h',kp,ť,ì,q⟩:=q;exact ha.to E Z À s1 σ H' Ä h' R I' ť ì q (w.mono kp)⟩
def yQ (he:JXE X e u)(hs:U0 e xa pos.line X.env=pure xf:=by rfl):JX X (.Expr e pos::rest) u:=⟨λE Z À s σ H Ä h R I rs rh ht w=>
 J9 (tV (R7 (he.to E Z À s σ H Ä h R I rs rh ht w) (λ_ _ z=>z.elim) λ_ _ z=>z) I.quiet hs)⟩
def Ww (he:JXE X e u):JX X (.Return (zq e) pos::rest) u:=⟨λE Z À s σ H Ä h R I rs rh ht w=>
 J9 (qE (R7 (he.to E Z À s σ H Ä h R I rs rh ht w) (λ_ _ z=>z.elim) λ_ _ z=>z))⟩
def Nw {x:Str}{np Ë p2:Pos}{m:Str}{j:P0}(hg:Gl X x)(O:X04 X.K X.mg x)(Ÿ:X.calm=xb)(hd:(x==("__debug__" :Str))=xf:=by decide)
 (he:P9 [Expr.Constant (.str m) j p2] X.env=(xf,L7 (.Constant (.str m) j p2) X.env)::P9 [] X.env:=by rfl):
 JX X (.Raise (zq (.Call (.Name x np) [.Constant (.str m) j p2] [] Ë)) xa pos::rest) (xRz x):=⟨λE Z À s σ H Ä h R I rs rh ht w=>by
 obtain⟨C,hm,own⟩:=O.at X.prog I.mod I.bk;refine J9 (R7 (?_:D6 _ _ _ (λ_ _=>False) _ _) (λ_ _ z=>z.elim) λ_ _ z=>z);obtain⟨_,_,_,_,_,_,_,_,_,_,_,_,_,_,_,_,_,isC,laid,X0Q,tail⟩:=own.obj;refine' wpAny_Raise_call_subT i5 (tail.hasType PySem.F.excBase_ValueError.hasBase) (I.ok.hd Ÿ) (by rw [he];rfl) X0Q (vM I hg hm ⟨rfl,?_⟩ hd)
 rotate_right 1
 rw [he];refine n6 (iR (u8 (k:=j) (pos:=p2) (lF ⟨rfl,(by show 1<=xh;decide),isC,laid,tail,λh' e hme=> ?_⟩)));refine Z.xe _ _ (GQ (s:= {s with toks:=s.toks+1}) (I.tok _) Z hme λh2 un hok fl=> ?_);exact⟨e,C,xa,H,rfl,I.os,I.bare,un,hok,fl,w x C xa h H (.refl H) rh hm ht (.inl rfl)⟩⟩
def La {k:P0}{f:G7}{fd:R8}{ps:G0 Str}{Ŧ:RDx}{x:Str}(F:Ì X.prog X.w X.K X.mg X.base (Ģ X.prog X.w) k f fd ps (ė X.mg X.K Ŧ))(hr:Ð k X.A)(hg:Gl X x)(hm:X.mg x=zq (.ref f))(hk:J8 X.K (.ref f)=xb)(hb:Binds X.K fd ps [])
 (ha:JA X (e::es) ta)(hdb:(x==("__debug__" :Str))=xf:=by decide)(he:P9 (e::es) X.env=(xf,L7 e X.env)::P9 es X.env:=by rfl)(hpl:(E3 pos (P9 es X.env)).any (·.1)=xf:=by rfl):
 JXE X (.Call (.Name x p) (e::es) [] pos) (Eo Ŧ ta):=⟨λE Z À s σ H Ä h R I rs rh ht w=>by
 refine Ø (Df F hr hg hm hk hb .nil (TQ Z) ha.to hdb he hpl À s σ H (λ_ _=>False) I
  ⟨Ä,h,_,rs,rh,ht,λds vs h' H' kp ì r q=>by show ė X.mg X.K Ŧ (vs++ []) H' (λ_ _=>False) E;rw [A5];exact⟨ds,h',R,r,ì,q,λc C dx h2 H2 k2=>w c C dx h2 H2 (kp.trans k2)⟩⟩) λ_ _ ⟨_,_,_,_,z⟩=>z⟩
end
section
variable {P:D5}{w:T8}{K:G3}{mg:Str->P1 G1}{base:N8}
def Lb {N:G0 Str}{qual:Str}{scope:A2}{f:G7}{cd:G1}{A:S4}{outer:G0 Env}{s:G2}{H:Hp}{E:XK}:Rz (ZT (Ģ P w) P w K mg base N qual scope f cd A outer s H E) E:=⟨⟨rfl,rfl,rfl⟩,λ_ _ h=>h⟩
def Ep {N:G0 Str}{q:Str}{scope:A2}{f:G7}{cd:G1}{cl:G0 (Str×G7)}{A:S4}{outer:G0 Env}{s:G2}{H:Hp}{E:XK}:Rz (cxL (Ģ P w) P w K mg base N q scope f cd cl A outer s H E) E:=⟨⟨rfl,rfl,rfl⟩,λ_ _ h=>h⟩
def â.okX {x qual:Str}{st:L8}{f:G7}{fd:R8}{N ps:G0 Str}{k:P0}{Ŧ:RDx}(F:â K x qual st f fd)(S:Ã N ps (jd st))(len: ∀ds h R,Ŧ ds h R->ds.length=ps.length)
 (tb:TXD)(Þ: ∀ (Ï:G1) (A:S4) (outer:G0 Env) (s:G2) (H:Hp) (E:XK),Ð k (A.deeper (K2 qual (jd st) s.heap.objs.size f Ï))->JX (ZT (Ģ P w) P w K mg base N qual (jd st) f Ï A outer s H E) (jL st) tb)
 (read: ∀ds h R,Ŧ ds h R->tb (zt N ds) h R):Ì P w K mg base (Ģ P w) (k+1) f fd ps (ė mg K Ŧ):=by
 obtain⟨oc,od,kV,doc,pm,an,Ï,ct,Ĕ,rfl,lk,hcd⟩:=F.ex;refine CJ lk hcd S (λvs H Q E h=> ?_) λA outer s H vs Q E hr œ=> ?_
 ·obtain⟨ds,h,R,r,rh,q,p⟩:=h;rw [<-r.length];exact len _ _ _ q
 ·obtain⟨ds,h,R,r,rh,q,p⟩:=œ;refine⟨λ_ σ H'=>σ=start N vs/\H'=H,λÀ s' σ H' D I ⟨e1,e2⟩=> ?_,rfl,rfl⟩;subst e1;subst e2;exact R7 ((Þ Ï A outer s H' E hr).to E Lb À s' _ H' (zt N ds) h R I (vo r) rh (read ds h R q) p) (λ_ _ z=>z.elim) λ_ _ z=>z
end
def zc (P:D5)(w:T8)(K:G3)(mg:Str->P1 G1)(base:N8)(n:P0)(x:Str)(ps:G0 Str)(Ŧ:RDx):Prop:=
 ∃ (g:G7) (gd:R8),Ì P w K mg base (Ģ P w) n g gd ps (ė mg K Ŧ)/\Binds K gd ps []/\J8 K (.ref g)=xb/\mg x=zq (.ref g)
end L2
namespace L2
open PySem PySem.Spec PyProof.Rows
structure æ (k:P0)(A:S4):Prop where
 dp:A.depth+3*k+5<recursionLimit
 un:A.units+16*k+200<cLine
 gd:A.guards=zq []
variable {k:P0}{A:S4}
def Ð.u (r:Ð k A):æ k A:=⟨r.dp,r.un,r.gd⟩
def æ.deeper (r:æ (k+1) A)(env:Env):æ k (A.deeper env):=
 ⟨by have:=r.dp;show A.depth+1+3*k+5<_;omega,by have:=r.un;show A.units+3+16*k+200<_;omega,r.gd⟩
def æ.depth (r:æ k A):A.depth<recursionLimit:=by have:=r.dp;omega
def æ.units (r:æ k A):A.units+64<cLine:=by have:=r.un;omega
structure Ĝ (P:D5)(w:T8)(K:G3)(mg:Str->P1 G1)(base:N8)(CX:CXT)(k:P0)(f:G7)(fd:R8)(ps:G0 Str)(sp:Sp):Prop where
 len: ∀vs H Q E,sp vs H Q E->vs.length=ps.length
 run: ∀ (A:S4) (outer:G0 Env) (s:G2) (H:Hp) (args:Args) (us:G0 G1) (vs:G0 V) (Q:VK) (E:XK),æ k A->į P w K mg base A outer s H->oU s fd args (ps.zip us)->Æ vs us->sp vs H Q E->
  U5 (R3 P w) A (.call (.ref f) args) (CR CX outer P w H s Q E) s
section
variable {X:Cx}{CX:CXT}{k:P0}{f C:G7}{fd:R8}{ps:G0 Str}{sp:Sp}{dvs:G0 V}{ds:G0 G1}{E:XK}{x m:Str}{p pos apos:Pos}{e o:S2}{es:G0 S2}{ta:TE}{t:TA}
def Lc {À:G0 (G7×Obj)}{σ:St}{H:Hp}{s:G2}{Q:VK}{us:G0 G1}{vs:G0 V}(F:Ĝ X.prog X.w X.K X.mg X.base CX k f fd ps sp)(hr:æ k X.A)(hb:Binds X.K fd ps ds)(hd:Æ dvs ds)(hx:Wc CX X E)
 (I:Inv X À σ H s)(r:Æ vs us)(h:sp (vs++dvs) H Q E):D6 (R3 X.prog X.w) X.A (call (.ref f) us) (EP X À σ Q) X.xe s:=by
 have r2:Æ (vs++dvs) (us++ds):=r.append hd;have hl:(us++ds).length=ps.length:=by rw [<-r2.length];exact F.len _ _ _ _ h
 refine gF (aG (F.run X.A X.stack s H ⟨us,[]⟩ (us++ds) (vs++dvs) Q E hr I.env0 (hb s us I.kIn hl) r2 h) λr s' hq=> ?_);cases r with
 |error e=>exact hx À σ H s e s' I hq
 |ok fl=>
  cases fl with
  |ret u=>exact I.after hq
  |next=>exact xn hq
  |brk=>exact xn hq
  |cont=>exact xn hq
def Nx (F:Ĝ X.prog X.w X.K X.mg X.base CX k f fd ps sp)(hr:æ k X.A)(hg:Gl X x)(hm:X.mg x=zq (.ref f))(hk:J8 X.K (.ref f)=xb)(hb:Binds X.K fd ps ds)(hd:Æ dvs ds)(hx:Wc CX X E)
 (ha:PA X (e::es) t)(hdb:(x==("__debug__" :Str))=xf:=by decide)(he:P9 (e::es) X.env=(xf,L7 e X.env)::P9 es X.env:=by rfl)(hpl:(E3 pos (P9 es X.env)).any (·.1)=xf:=by rfl):
 PE X (.Call (.Name x p) (e::es) [] pos) (CI sp dvs E t):=by
 intro À s σ H Q I h;refine W0 (vM I hg hm ?_ hdb);refine dI (h₀:=X.base) I.ok.mod.kin hk (Ø (ha pos À s σ H _ I h) λus s1 ⟨vs,H1,I1,r,q⟩=>⟨I1.kIn,?_⟩) he hpl;exact Lc F hr hb hd hx I1 r q
end
def UJ (CX:CXT)(P:D5)(w:T8)(K:G3)(mg:Str->P1 G1)(base:N8)(N:G0 Str)(qual:Str)(scope:A2)(f:G7)(cd:G1)(A:S4)(outer:G0 Env)(s:G2)(H:Hp)(E:XK):Cx where
 prog:=P
 w:=w
 K:=K
 mg:=mg
 base:=base
 A:=A.deeper (K2 qual scope s.heap.objs.size f cd)
 N:=N
 s₀:=s
 H₀:=H
 env:=K2 qual scope s.heap.objs.size f cd
 outer:=outer
 stack:=K2 qual scope s.heap.objs.size f cd::outer
 ex:= []
 calm:=xf
 fn:=λ_=>xb
 pn:= []
 xe:=λe s'=>D6 (R3 P w) (A.deeper (K2 qual scope s.heap.objs.size f cd)) (mR (K2 qual scope s.heap.objs.size f cd) e) (λ_ Ο=>CX outer H s E e Ο) (λe' Ο=>CX outer H s E e' Ο) s'
variable {base:N8}{qual:Str}{scope:A2}
def GT {CX:CXT}{P:D5}{w:T8}{K:G3}{mg:Str->P1 G1}{N ps:G0 Str}{f:G7}{cd:G1}{outer:G0 Env}{s s1:G2}{H:Hp}{E:XK}{us:G0 G1}{vs:G0 V}
 (S:Ã N ps scope)(e0:į P w K mg base A outer s H)(hl:vs.length=ps.length)(r:Æ vs us)
 (x:InCallC s s.heap.objs.size (sI (K2 qual scope s.heap.objs.size f cd).kindOf (ps.zip us) λ_=>xa) (Q6 (s.heap.objs.size+1) scope.names []) (sJ (K2 qual scope s.heap.objs.size f cd).kindOf (ps.zip us) λ_=>xa) s1):
 Inv (UJ CX P w K mg base N qual scope f cd A outer s H E) [] (start N vs) H s1:=by
 have hpl:ps.length<=N.length:=by have:=xk K7 S.pre;rw [S1] at this;omega
 obtain⟨h1,tk,rfl,hk⟩:=x.done;have noA: ∀b:G7,b ∉ (UJ CX P w K mg base N qual scope f cd A outer s H E).ex:=λb z=>xj (show b∈([]:G0 G7) from z) (by simp)
 refine⟨⟨e0.mod,S.kind,rfl,rfl,P7 _,λy z c h1 h2=> ?_,λy hy=> ?_,λy c _ h=> ?_,λz=>(by cases z),g6 e0.frames,.inr ⟨rfl,rfl⟩,λb z=>xj z (noA b),e0.bs,e0.bsz,λb _ _=>noA b,λb z=>xj z (noA b),e0.funs,e0.frf⟩,
  rfl,e0.bare,Un.kept hk,⟨_,x.toInCall.ns,λi y v h1 h2 h3=> ?_⟩,λy c h=>⟨_,x.cell y c h⟩,e0.hok.fresh (P7 _),λy c h=> ?_,λp hp=>xj (show p∈([]:G0 (G7×Obj)) from hp) (by simp),e0.hok.kept hk,?_⟩
 ·exact qM x.apart (E4 h1) (E4 h2)
 ·have hy:scope.names.lookup y=zq .cell\/scope.names.lookup y=zq .free:=hy;rcases hy with hy|hy
  ·exact vn hy
  ·exact xj rfl (S.nofree _ (E4 hy))
 ·exact T6 (x.above y c (E4 h))
 ·have hi:i<vs.length:=by
   unfold start at h2
   by_cases hi:i<vs.length
   ·exact hi
   ·rw [N4 (by simpa using hi)] at h2;rw [dR] at h2;split at h2<;>cases h2
  have ha:vs[i]? =zq v:=by
   unfold start at h2;rw [C7 (by simpa using hi),D1] at h2;cases e:vs[i]? with
   |none=>rw [e] at h2;cases h2
   |some a=>rw [e] at h2;cases h2;rfl
  obtain⟨u,hu,rv⟩:=r.get ha;have hp:ps[i]? =zq y:=by
   rw [<-S.pre,W6 (by omega)];exact h1
  have ndP:ps.Nodup:=by rw [<-S.pre];exact S.nd.sublist (Q9 _ _)
  refine⟨u,rv,?_⟩;rcases S.par y (P5 hp) with k|k
  ·exact .inl ⟨k,Wd ndP hp hu k⟩
  ·obtain⟨c,e⟩:=vn (n:=s.heap.objs.size+1) k;refine .inr ⟨.inl k,c,e,?_⟩;have q:=x.cell y c e;rw [We ndP hp hu (by show scope.names.lookup y≠_;rw [k];decide)] at q;exact q
 ·exact e0.hok.fresh (T6 (x.above y c (E4 h)))
 ·unfold start;show _=N.length;rw [P3,G6,nJ];omega
def Eq {CX:CXT}{P:D5}{w:T8}{K:G3}{mg:Str->P1 G1}{f:G7}{name:Str}{params:oV}{body:G0 L8}{dV kV doc pm Ï ct oc:G1}{an od:P1 G7}{Ĕ:T7 (P1 G1)}{N ps:G0 Str}{sp:Sp}(lk:K.lookup f=zq ⟨oc,od,.func (W7 name qual params body scope dV kV doc pm an Ï ct),Ĕ⟩)(hcd:eB K Ï qual=xb)(S:Ã N ps scope)
 (len: ∀vs H Q E,sp vs H Q E->vs.length=ps.length)
 (Þ: ∀ (A:S4) (outer:G0 Env) (s:G2) (H:Hp) (vs:G0 V) (Q:VK) (E:XK),æ k (A.deeper (K2 qual scope s.heap.objs.size f Ï))->sp vs H Q E->
  ∃t,ő (UJ CX P w K mg base N qual scope f Ï A outer s H E) body t/\t {nx:=λ_ H'=>Q .non H',rt:=Q} (start N vs) H):
 Ĝ P w K mg base CX (k+1) f (W7 name qual params body scope dV kV doc pm an Ï ct) ps sp:=by
 refine⟨len,λA outer s H args us vs Q E hr e0 hb r œ=> ?_⟩;have hl:=len _ _ _ _ œ;have KX:K.In s.heap:=e0.mod.kin.keeps λb o e=>(e0.bs b o e).1
 have lim:s.heap.NoLimit:=e0.mod.nolimit.keeps λb o e=>(e0.bs b o e).1
 have Ų: ∀y∈ps.zip us,scope.names.lookup y.1=zq .local\/(scope.names.lookup y.1=zq .cell/\((Q6 (s.heap.objs.size+1) scope.names []).lookup y.1).isSome=xb):=λ⟨n,v⟩ hy=>by
  rcases S.par n (dA hy).1 with q|q
  ·exact .inl q
  ·exact .inr ⟨q,bF _ _ _ (.inl q)⟩
 refine f7 hr.depth (KX _ _ lk) rfl S.co S.gen rfl (iT KX hcd) (hb _ _ _ _ ?_);refine bV S.kind Ų λenv he s1 x=> ?_
 subst he;refine⟨lim.keeps x.toInCall.keep,qN ?_⟩;obtain⟨t,ht,hq⟩:=Þ A outer s H vs Q E (hr.deeper _) œ;have I:Inv (UJ CX P w K mg base N qual scope f Ï A outer s H E) [] (start N vs) H s1:=GT S e0 hl r x;refine R7 (ht [] s1 (start N vs) H _ I hq) (λfl s' hs=> ?_) λe s' hs=>hs
 have fin: ∀ {Â:St} {H':Hp} {v:V} {u:G1},Inv (UJ CX P w K mg base N qual scope f Ï A outer s H E) [] Â H' s'->RelV v u->Q v H'->CE outer P w H s Q u s':=
  λ{Â H' v u} J rv q=>⟨v,H',J.os,J.bare,J.base,J.hok,rv,q⟩
 cases fl with
 |ret u=>
  obtain⟨v,Â,H',J,rv,q⟩:=hs;exact fin J rv q
 |next=>
  obtain⟨Â,H',J,q⟩:=hs;exact fin (v:=V.non) (u:=gE) J rfl q
 |brk=>
  obtain⟨_,_,_,q⟩:=hs;exact xn q
 |cont=>
  obtain⟨_,_,_,q⟩:=hs;exact xn q
section
variable {P:D5}{w:T8}{K:G3}{mg:Str->P1 G1}{base:N8}
variable {qual:Str}
def â.okU {x:Str}{st:L8}{f:G7}{fd:R8}{N ps:G0 Str}{k:P0}{sp:Sp}(F:â K x qual st f fd)(S:Ã N ps (jd st))(len: ∀vs H Q E,sp vs H Q E->vs.length=ps.length)
 (Þ: ∀ (Ï:G1) (A:S4) (outer:G0 Env) (s:G2) (H:Hp) (vs:G0 V) (Q:VK) (E:XK),æ k (A.deeper (K2 qual (jd st) s.heap.objs.size f Ï))->sp vs H Q E->
  ∃t,ő (UJ à P w K mg base N qual (jd st) f Ï A outer s H E).nox (jL st) t/\t {nx:=λ_ H'=>Q .non H',rt:=Q} (start N vs) H):Ĝ P w K mg base à (k+1) f fd ps sp:=by
 obtain⟨oc,od,kV,doc,pm,an,Ï,ct,Ĕ,rfl,lk,hcd⟩:=F.ex;refine Eq lk hcd S len λA outer s H vs Q E hr œ=> ?_
 obtain⟨t,h,q⟩:=Þ Ï A outer s H vs Q E hr œ;exact⟨t,h.nox,q⟩
def â.okDU {x:Str}{st:L8}{f:G7}{fd:R8}{N ps:G0 Str}{k:P0}{ą:RDn}(F:â K x qual st f fd)(S:Ã N ps (jd st))(len: ∀ds h Q,ą ds h Q->ds.length=ps.length)
 (tb:TSD)(Þ: ∀ (Ï:G1) (A:S4) (outer:G0 Env) (s:G2) (H:Hp) (E:XK),æ k (A.deeper (K2 qual (jd st) s.heap.objs.size f Ï))->QSs (UJ à P w K mg base N qual (jd st) f Ï A outer s H E).nox (jL st) tb)
 (read: ∀ds h Q,ą ds h Q->tb (Xv Q) (zt N ds) h):Ĝ P w K mg base à (k+1) f fd ps (í K ą):=by
 refine F.okU S (λvs H Q E h=> ?_) (λÏ A outer s H vs Q E hr h=> ?_)
 ·obtain⟨ds,h,Qd,r,rh,q,p⟩:=h;rw [<-r.length];exact len _ _ _ q
 ·obtain⟨ds,h,Qd,r,rh,q,p⟩:=h;refine⟨_,Þ Ï A outer s H E hr,zt N ds,h,Xv Qd,vo r,rh,read ds h Qd q,λß h' Â H' k ť ì ⟨h2,sb,q'⟩=>p .non .non h2 H' k (ì.sub sb) rfl q',λd v h' H' k ì r' ⟨h2,sb,q'⟩=>p d v h2 H' k (ì.sub sb) r' q',λ_ _ _ _ _ _ _ z=>z.elim,λ_ _ _ _ _ _ _ z=>z.elim⟩
def â.okJU {x:Str}{st:L8}{f:G7}{fd:R8}{N ps:G0 Str}{k:P0}{ą:RDn}(F:â K x qual st f fd)(S:Ã N ps (jd st))(len: ∀ds h Q,ą ds h Q->ds.length=ps.length)
 (tb:TSD)(Þ: ∀ (Ï:G1) (A:S4) (outer:G0 Env) (s:G2) (H:Hp) (E:XK),æ k (A.deeper (K2 qual (jd st) s.heap.objs.size f Ï))->Ī (UJ à P w K mg base N qual (jd st) f Ï A outer s H E).nox (jL st) tb)
 (read: ∀ds h Q,ą ds h Q->tb (Xv Q) (zt N ds) h):Ĝ P w K mg base à (k+1) f fd ps (í K ą):=F.okDU S len tb (λÏ A outer s H E hr=>(Þ Ï A outer s H E hr).to) read
end
structure ś (P:D5)(w:T8)(K:G3)(mg:Str->P1 G1)(base:N8)(CX:CXT)(k:P0)(f:G7)(fd:R8)(ps:G0 Str)(sp:G2->Sp):Prop where
 len: ∀s vs H Q E,sp s vs H Q E->vs.length=ps.length
 run: ∀ (A:S4) (outer:G0 Env) (s:G2) (H:Hp) (args:Args) (us:G0 G1) (vs:G0 V) (Q:VK) (E:XK),Ð k A->į P w K mg base A outer s H->oU s fd args (ps.zip us)->Æ vs us->sp s vs H Q E->
  U5 (R3 P w) A (.call (.ref f) args) (CR CX outer P w H s Q E) s
section
variable {X:Cx}{CX:CXT}{k:P0}{f C:G7}{fd:R8}{ps:G0 Str}{sp:Sp}{dvs:G0 V}{ds:G0 G1}{E:XK}{x m:Str}{p pos apos:Pos}{e o:S2}{es:G0 S2}{ta:TE}{t:TA}
def Ld {À:G0 (G7×Obj)}{σ:St}{H:Hp}{s:G2}{Q:VK}{us:G0 G1}{vs:G0 V}{sp:G2->Sp}(F:ś X.prog X.w X.K X.mg X.base CX k f fd ps sp)(hr:Ð k X.A)(hb:Binds X.K fd ps ds)(hd:Æ dvs ds)(hx:Wc CX X E)
 (I:Inv X À σ H s)(r:Æ vs us)(h:sp s (vs++dvs) H Q E):D6 (R3 X.prog X.w) X.A (call (.ref f) us) (EP X À σ Q) X.xe s:=by
 have r2:Æ (vs++dvs) (us++ds):=r.append hd;have hl:(us++ds).length=ps.length:=by rw [<-r2.length];exact F.len _ _ _ _ _ h
 refine gF (aG (F.run X.A X.stack s H ⟨us,[]⟩ (us++ds) (vs++dvs) Q E hr I.env0 (hb s us I.kIn hl) r2 h) λr s' hq=> ?_);cases r with
 |error e=>exact hx À σ H s e s' I hq
 |ok fl=>
  cases fl with
  |ret u=>exact I.after hq
  |next=>exact xn hq
  |brk=>exact xn hq
  |cont=>exact xn hq
end
def Er {CX:CXT}{P:D5}{w:T8}{K:G3}{mg:Str->P1 G1}{f:G7}{name:Str}{params:oV}{body:G0 L8}{dV kV doc pm Ï ct oc:G1}{an od:P1 G7}{Ĕ:T7 (P1 G1)}{N ps:G0 Str}{sp:G2->Sp}(lk:K.lookup f=zq ⟨oc,od,.func (W7 name qual params body scope dV kV doc pm an Ï ct),Ĕ⟩)(hcd:eB K Ï qual=xb)(S:Ã N ps scope)
 (len: ∀s vs H Q E,sp s vs H Q E->vs.length=ps.length)
 (Þ: ∀ (A:S4) (outer:G0 Env) (s:G2) (H:Hp) (vs:G0 V) (Q:VK) (E:XK),Ð k (A.deeper (K2 qual scope s.heap.objs.size f Ï))->sp s vs H Q E->
  ∀s1,Inv (ZT CX P w K mg base N qual scope f Ï A outer s H E) [] (start N vs) H s1->D6 (R3 P w) (A.deeper (K2 qual scope s.heap.objs.size f Ï)) (execs body (K2 qual scope s.heap.objs.size f Ï)) (SP (ZT CX P w K mg base N qual scope f Ï A outer s H E) [] {nx:=λ_ H'=>Q .non H',rt:=Q}) (ZT CX P w K mg base N qual scope f Ï A outer s H E).xe s1):
 ś P w K mg base CX (k+1) f (W7 name qual params body scope dV kV doc pm an Ï ct) ps sp:=by
 refine⟨len,λA outer s H args us vs Q E hr e0 hb r œ=> ?_⟩;have hl:=len _ _ _ _ _ œ;have KX:K.In s.heap:=e0.mod.kin.keeps λb o e=>(e0.bs b o e).1
 have lim:s.heap.NoLimit:=e0.mod.nolimit.keeps λb o e=>(e0.bs b o e).1
 have Ų: ∀y∈ps.zip us,scope.names.lookup y.1=zq .local\/(scope.names.lookup y.1=zq .cell/\((Q6 (s.heap.objs.size+1) scope.names []).lookup y.1).isSome=xb):=λ⟨n,v⟩ hy=>by
  rcases S.par n (dA hy).1 with q|q
  ·exact .inl q
  ·exact .inr ⟨q,bF _ _ _ (.inl q)⟩
 refine f7 hr.depth (KX _ _ lk) rfl S.co S.gen rfl (iT KX hcd) (hb _ _ _ _ ?_);refine bV S.kind Ų λenv he s1 x=> ?_
 subst he;refine⟨lim.keeps x.toInCall.keep,qN ?_⟩;have ht:=Þ A outer s H vs Q E (hr.deeper _) œ;have I:Inv (ZT CX P w K mg base N qual scope f Ï A outer s H E) [] (start N vs) H s1:=Ui S hr.hd e0 hl r x;refine R7 (ht s1 I) (λfl s' hs=> ?_) λe s' hs=>hs
 have fin: ∀ {Â:St} {H':Hp} {v:V} {u:G1},Inv (ZT CX P w K mg base N qual scope f Ï A outer s H E) [] Â H' s'->RelV v u->Q v H'->CE outer P w H s Q u s':=
  λ{Â H' v u} J rv q=>⟨v,H',J.os,J.bare,J.base,J.hok,rv,q⟩
 cases fl with
 |ret u=>
  obtain⟨v,Â,H',J,rv,q⟩:=hs;exact fin J rv q
 |next=>
  obtain⟨Â,H',J,q⟩:=hs;exact fin (v:=V.non) (u:=gE) J rfl q
 |brk=>
  obtain⟨_,_,_,q⟩:=hs;exact xn q
 |cont=>
  obtain⟨_,_,_,q⟩:=hs;exact xn q
section
variable {X:Cx}{k:P0}{f:G7}{fd:R8}{ps:G0 Str}{ą:RDn}{x:Str}{p pos:Pos}{e:S2}{es:G0 S2}{t:TAD}
def Ga (F:Ĝ X.prog X.w X.K X.mg X.base à k f fd ps (í X.K ą))(hr:æ k X.A)(hg:Gl X x)(hm:X.mg x=zq (.ref f))(hk:J8 X.K (.ref f)=xb)(hb:Binds X.K fd ps [])
 (ha:JA X (e::es) t)(hdb:(x==("__debug__" :Str))=xf:=by decide)(he:P9 (e::es) X.env=(xf,L7 e X.env)::P9 es X.env:=by rfl)(hpl:(E3 pos (P9 es X.env)).any (·.1)=xf:=by rfl):
 JE X (.Call (.Name x p) (e::es) [] pos) (Ķ ą t):=⟨(Nx F hr hg hm hk hb .nil CV ha.to hdb he hpl).imp DD⟩
end
def Vo (P:D5)(w:T8)(K:G3)(mg:Str->P1 G1)(base:N8)(n:P0)(x:Str)(ps:G0 Str)(sp:RDn):Prop:=
 ∃ (g:G7) (gd:R8),Ĝ P w K mg base à n g gd ps (í K sp)/\Binds K gd ps []/\J8 K (.ref g)=xb/\mg x=zq (.ref g)
end L2
namespace L2
open PySem PySem.Spec PyProof.Rows PySem.W PySem.Calls PySem.Builtin PySem.Builtin.ObjectAttr PySem.Builtin.Getset_descriptor
section
variable {prog:D5}{w:T8}{A:S4}{E:G1->G2->Prop}{s:G2}{K:Frag}{x D:G7}
structure Ł (K:Frag)(D:G7):Prop where
 cls:(clsIn K D).isSome=xb
 ga:findIn K (.ref D) "__getattribute__" =zq (zq (.builtin "BaseException.__getattribute__"))
 hk:findIn K (.ref D) "__getattr__" =zq xa
 ca:findIn K (.ref D) "__class__" =zq (zq (.builtin "object.__class__"))
 gt:specialIn K (.builtin "object.__class__") "__get__" =zq (zq (.builtin "getset_descriptor.__get__"))
 tk:takesIn K (.builtin "object.__class__")=zq xb
 ob:mroIn K D (.type "object")=zq xb
 be:mroIn K D (.type "BaseException")=zq xb
def ExcAt (x D:G7)(h:N8):Prop:= ∃o,h.get? x=zq o/\o.cls= .ref D
def ExcAt.type {M:cN}{h:N8}(I:ExcAt x D h):Looks M h (typeOf (.ref x)) (.ref D):=let ⟨o,h1,h2⟩:=I;h2 ▸ (IK h1).andThen .now
def GV {tp:G1}{R:nZ->G2->Prop}(X:K.In s.heap)(I:ExcAt x D s.heap)(ob:mroIn K D (.type "object")=zq xb)
 (h:R (.ok (.ret (.ref D))) s):U5 (R3 prog w) A (.call (.builtin "getset_descriptor.__get__") ⟨[.builtin "object.__class__",.ref x,tp],[]⟩) R s:=by
 obtain⟨hp,g,dr,t,os⟩:=s;have known:Looks (R3 prog w) hp (m5 (.ref x) (.type "object")) xb:=I.type.andThen (looks_mroIn X ob);have X0R:Looks (R3 prog w) hp (descrCheckInstance (.builtin "object.__class__") (.ref x)) ():=
  Looks.andThen (a:=(("__class__" :Str),pN "object")) (pJ (xk (λp:F7×F7=>(pure (P6 p.2,pN p.1):Sem (Str×G1))) KF.owner_class)) (known.andThen .now)
 have shown:Looks (R3 prog w) hp (shownTypeOf (.ref x)) (.ref D):=I.type.andThen .now;have asked:=KF.slot_gs.check (R3 prog w) A.in1 (λe s'=>R (.error e) s') ⟨hp,g,dr,t,os⟩ (.builtin "object.__class__") [.ref x,tp] [];refine bZ KF.slot_gs.plain KF.entry_gs (asked _ KF.type_class (KF.args_gs _ _ _) ?_);show D6 _ _ (descrGetArgs _ >>= _) _ _ _;rw [dga_obj];refine xg (G8 (xg (X0R.at (G8 ⟨i6 _ (by decide +kernel),bK KF.entry_class ?_⟩))));exact xg (shown.at (G8 h))
def Ny {M:cN}{h:N8}(X:K.In h)(Z:Ł K D):Looks M h (find (.ref x) (.ref D) "__class__") (.bind (.builtin "getset_descriptor.__get__") (.builtin "object.__class__")):=by
 have L1:=looks_findIn (M:=M) X Z.ca;have L2:Looks M h (getOf (zq (.builtin "object.__class__"))) (zq (.builtin "getset_descriptor.__get__")):=looks_specialIn X Z.gt;have L3:=looks_takesIn (M:=M) X Z.tk;exact L1.andThen (L2.andThen ((show Looks M h (dataDescriptor? (zq (.builtin "object.__class__")) (zq (.builtin "getset_descriptor.__get__"))) (zq (.builtin "getset_descriptor.__get__",.builtin "object.__class__")) from L3.andThen .now).andThen (Looks.tag .now)))
def Le {M:cN}{h:N8}(X:K.In h)(I:ExcAt x D h)(Z:Ł K D)(n:G1):Looks M h (gL "BaseException.__getattribute__" ⟨[.ref x,n],[]⟩) ():=by
 have known:Looks M h (m5 (.ref x) (.type "BaseException")) xb:=I.type.andThen (looks_mroIn X Z.be);have fits:=oE (.ref x) n;unfold gL;rw [show builtinKind "BaseException.__getattribute__" =zq .slot by decide +kernel,show splitId "BaseException.__getattribute__" =zq ("BaseException","__getattribute__") by decide +kernel];exact known.andThen (pJ fits)
def Yf {tk:Tok}{R:nZ->G2->Prop}(X:K.In s.heap)(I:ExcAt x D s.heap)(Z:Ł K D)(h:R (.ok (.ret (.ref D))) s):
 U5 (R3 prog w) A (.call (.builtin "BaseException.__getattribute__") ⟨[.ref x,.str "__class__" tk],[]⟩) R s:=
 bZ PySem.F.attr_ValueError.ga.plain nM (i7 (Le X I Z _) (xg (G8 (xg (G8 (xg (i7 I.type (xg (i7 (Ny X Z) (xg (O8 (gF (GV X I Z.ob (G8 h))))))))))))))
noncomputable def GX {Q:P1 G1->G2->Prop}(X:K.In s.heap)(I:ExcAt x D s.heap)(Z:Ł K D)(h:Q (zq (.ref D)) {s with toks:=s.toks+1}):D6 (R3 prog w) A (getAttr? (.ref x) "__class__") Q E s:=by
 have X0h:=PySem.F.attr_ValueError.ga.bind (.ref x);have asked: ∀ {A':S4} {P:G1->G2->Prop} {E':G1->G2->Prop},P (.ref D) {s with toks:=s.toks+1}->D6 (R3 prog w) A' (uH (.builtin "BaseException.__getattribute__") (.ref x) (.str "__class__" s.toks)) P E' {s with toks:=s.toks+1}:=λp=>by
  unfold uH;rw [X0h];exact xg (G8 (gF (Yf (s:= {s with toks:=s.toks+1}) X I Z p)))
 have own: ∀ {A':S4} {P:G1->G2->Prop} {E':G1->G2->Prop},P (.ref D) {s with toks:=s.toks+1}->D6 (R3 prog w) A' (getAttrByItsOwn (.ref x) (.str "__class__" s.toks) (.ref D) (.builtin "BaseException.__getattribute__") xf xf) P E' {s with toks:=s.toks+1}:=λp=>
  xg (i7 (s:= {s with toks:=s.toks+1}) (looks_findIn X Z.hk) (xg (Y5 (O8 (asked (G8 p))))))
 exact xg (wpAny_mkText (xg (Y5 (O8 (xg (i7 (s:= {s with toks:=s.toks+1}) I.type (xg (i7 (s:= {s with toks:=s.toks+1}) (looks_findIn X Z.ga) (own (G8 h))))))))))
def Nz (Z:Ł K D):KitX K (.ref x) (.ref D) (ExcAt x D):=by
 have isClass: ∀ {h:N8},K.In h-> ∃o c,h.get? D=zq o/\o.data= .cls c:=λX=>by
  obtain⟨c,hc⟩:=O9.mp Z.cls;revert hc;unfold clsIn;split
  ·rename_i ho;exact λ_=>⟨_,_,X _ _ ho,rfl⟩
  ·exact λz=>nomatch z
 refine⟨λ_ _ _ I=>I.type,λM h X _=> ?_,λh tp dd its n sl X htp=> ?_,λX I k=>GX X I Z k⟩
 ·obtain⟨o,c,ho,hd⟩:=isClass X;exact(IK ho).andThen (pJ (by rw [hd]))
 ·obtain⟨o,c,ho,hd⟩:=isClass X;cases hq:(N7 D==N7 tp) with
  |false=>rfl
  |true=>
   cases (beq_iff_eq.mp hq);rw [htp] at ho;cases ho;cases hd
end
end L2
namespace L2
open PySem PySem.Spec PyProof.Rows PySem.SeqAt PySem.W
def NA {X:Cx}(hu:X.A.units+64<cLine):MtM X "list.count" (λx vs H Q=> ∃ (a:G7) (y:V) (dy:D) (h:HD) (p:K8) (ps:G0 K8),x= .ref a/\vs= [y]/\É X.K H dy y/\Å X.K h H/\Ĩ h (.lst a) (.list ps)/\Ĩ h dy p/\p.canLay0=xb/\C3 ps=xb/\p.depth<=60/\Q (.int ((ps.countP λz=>C8 z p:P0):P4)) H):=by
 intro À s σ H x vs v us Q I rx rv h;obtain⟨a,y,dy,h,p,ps,rfl,rfl,rd,rh,t1,t2,c1,c2,c3,q⟩:=h;cases rx;obtain⟨u,rfl,ru⟩:=Wb rv;obtain⟨a',ds,ea,ha,ts⟩:=(show ∃a' ds,D.lst a= .lst a'/\h a'=zq ds/\ĩ h ds ps from t1);cases ea;obtain⟨ws,hH,_⟩:=rh a ds ha;obtain⟨as,r1⟩:=zI I rh t1 (show É X.K H (.lst a) (.ref a) from ⟨rfl,ws,hH⟩) (show RelV (.ref a) (.ref a) from rfl);obtain⟨bs,r2⟩:=zI I rh t2 rd ru;cases r1 with
 |list h1 h2 h3 h4=>
  rename_i o its n cs;have em:=readsAll_map ps _ _ c2 h4;have hu':X.A.units+1+min (B9 ps) p.depth<cLine:=by have:=Y6 (B9 ps) p.depth;omega
  obtain⟨oc,od,odt,Ĕ⟩:=o;simp only at h2 h3;subst h2 h3;refine gH mM ⟨_,h1,rfl⟩ u9 (uO _ _) (list_countAt a its n od Ĕ u (λy=>C8 (readOf s.heap y) p)) ⟨h1,items_eqAt h4 r2 c2 c1 hu',?_⟩;have e:its.toList.countP (λy=>C8 (readOf s.heap y) p)=ps.countP λz=>C8 z p:=by
   rw [<-em,List.countP_map];rfl
  exact⟨.int _,H,I.tok _,⟨_,by rw [e]⟩,q⟩
def kK (to te:TED):TED:=λσ h Q=>to σ h λx h1=> ∃a,x= .lst a/\te σ h1 λy h2=> ∃ (p:K8) (ps:G0 K8),Ĩ h2 (.lst a) (.list ps)/\Ĩ h2 y p/\p.canLay0=xb/\C3 ps=xb/\p.depth<=60/\Q (.int ((ps.countP λz=>C8 z p:P0):P4)) h2
section
variable {X:Cx}{o e i:S2}{to te ti:TED}{apos Ë:Pos}
def kM (hu : X.A.units + 64 < cLine) (ho : JE X o to) (he : JE X e te) (hbase : K9 o "count" X.env (L7 o X.env) = L7 o X.env := by rfl)
    (hfew : ((E3 Ë (P9 [e] X.env)).all (fun x => !x.1) && (g7 Ë (aY [] X.env)).all (fun x => x.1.isSome) && decide ([e].length + ([] : G0 aI).length + (if ([] : G0 aI).isEmpty then 0 else 1) < 30)) = xb := by rfl)
    (hline : (apos.endLine == Ë.line) = xb := by rfl) (hs : P9 [e] X.env = (xf, L7 e X.env) :: P9 [] X.env := by rfl) (hplain : (E3 Ë (P9 [] X.env)).any (·.1) = xf := by rfl) :
    JE X (.Call (.Attribute o "count" apos) [e] [] Ë) (kK to te) :=
  ⟨(Dl X4 mM xL (NA hu) ho.to (zS he.to Ą hs) hbase hfew hline hs hplain).imp
    fun σ H Q ⟨Ä, h, Qd, rs, rh, t, p⟩ => LE.bind rs rh t fun d v h1 H1 k1 Ý Î r1 ⟨a, e, q⟩ => by
      subst e
      obtain ⟨e1, vs, hH⟩ := (show v = .ref a ∧ ∃ vs, H1 a = zq (.lst vs) from r1)
      subst e1
      refine ⟨.inl ⟨rfl, vs, õ.of hH⟩, ?_⟩
      refine LE.bind Ý Î q fun y u h2 H2 k2 İ ð r2 ⟨pd, ps, t1, t2, c1, c2, c3, q2⟩ => ?_
      exact ⟨a, u, y, h2, pd, ps, rfl, rfl, r2, ð, t1, t2, c1, c2, c3, p (.int _) _ _ _ (k1.trans k2) ð rfl q2⟩⟩
end
def YJ {X:Cx}{v:V}{c:G1}(rc: ∀u,RelV v u->u=c):ê X (.builtin "isinstance") (λxs H Q=> ∃x C o b,xs= [.ref x,v]/\H x=zq (.frz o (.own 0))/\o.cls= .ref C/\Ł X.K C/\kitOne X.K (.ref C) c=zq b/\Q (.bl b) H):=by
 intro À s σ H xs us Q I r h;obtain⟨x,C,o,b,rfl,hx,hc,Z,e,q⟩:=h;obtain⟨u,w',rfl,rx,rt⟩:=Da r;cases rx;cases rc _ rt;exact kia_one (Nz Z) I.kIn ⟨o,(I.hok x _ hx).1,hc⟩ e (λz=>nomatch z) λtk=>⟨.bl b,H,I.tok tk,rfl,q⟩
end L2
namespace L2
open PySem PySem.Spec PyProof.Rows PySem.W
section
variable {X:Cx}{σ:St}{H:Hp}{s:G2}{x C:G7}{dx:P1 G7}
def Inv.relaid {B h':N8}{T:G7}{a0:G1}(I:Inv X [] σ H s)(Z:Rz0 X)(ς:X.pn= [])(hx:H x=xa/\X.s₀.heap.get? x=xa)(hT:H T=xa/\X.s₀.heap.get? T=xa)
 (hB:B=hideAll s.heap (x::T::ā (X.env::X.outer)))(fl:mZ B (X.env::X.outer) x (.ref C) a0 h')(up:s.heap.UpToSlots h')(dk:HT.Dk s.heap h')(hdx:dx=xa\/ ∃oe,s.heap.get? x=zq oe/\oe.dict=dx):Inv X [] σ H {s with heap:=h'}/\Fly X.s₀.heap H h' x C dx:=by
 subst hB;have stk:s.heap.FunFrames X.base (X.env::X.outer):=Z.stk ▸ I.stack;obtain⟨st,_,_,oe',vs',T',oT',ts',he',⟨hc',h0'⟩,ō,Κ,hTB,Φ,Ū,ŀ,h3'⟩:=fl;obtain⟨r1,r2,r3⟩:=QZ (ys:= [x,T]) (h':=h') I Z (λy hy=>by
  rcases R5.mp hy with rfl|hy
  ·exact hx
  ·rcases R5.mp hy with rfl|hy
   ·exact hT
   ·cases hy) (λb o e n1 n2=>st b o (hideAll_get _ e λz=>by
    rcases R5.mp z with rfl|z
    ·exact n1 (.head _)
    ·rcases R5.mp z with rfl|z
     ·exact n1 (.tail _ (.head _))
     ·exact n2 z)) λb o e hb=>by
  obtain⟨_,o2,e2,nd⟩:=stk.mem hb;rw [e] at e2;cases e2;exact up b o e nd
 obtain⟨q1,q2⟩:=r3 T' oT' ts' Ū ŀ λo e=>by
  by_cases z:T'∈ā (X.env::X.outer)
  ·exact .inr z
  ·refine .inl ?_
   by_cases z1:T'=x
   ·rw [z1];exact .head _
   ·by_cases z2:T'=T
    ·rw [z2];exact .tail _ (.head _)
    ·rw [hideAll_get _ e (by simp only [R5,not_or];exact⟨z1,z2,z⟩)] at hTB;cases hTB
 have cellK: ∀c v,s.heap.IsCell c v->h'.IsCell c v:=λc v ⟨o,ho,hd⟩=>by
  obtain⟨sl,e⟩:=up c o ho λws q=>by rw [hd] at q;cases q
  exact⟨_,e,hd⟩
 refine⟨⟨I.ok,I.os,I.bare,by rw [Z.ex];exact r1,?_,λy c e=> ?_,I.free,I.freeC,λp hp=> ?_,r2,I.len⟩,⟨⟨oe',vs',a0,T',oT',ts',he',hc',ō,h0',Κ,Φ,Ū,ŀ,h3',q1,q2⟩,hx.1,hx.2,hdx.imp id λ⟨o,e,d⟩=>let ⟨o',e2,d2,_⟩:=dk x o e;⟨o',e2,d2.trans d⟩⟩⟩
 ·obtain⟨m,hn,hl⟩:=I.loc;refine⟨m,up.ns hn,λi y v e1 e2 e3=> ?_⟩;obtain⟨u,r,l⟩:=hl i y v e1 e2 e3;exact⟨u,r,l.imp id λ⟨k,c,e,z⟩=>⟨k,c,e,cellK c _ z⟩⟩
 ·obtain⟨v,z⟩:=I.cell y c e;exact⟨v,cellK c v z⟩
 ·rw [ς] at hp;cases hp
def Inv.track {oe:Obj}{vs:T7 G1}(I:Inv X [] σ H s)(ς:X.pn= [])(hn:H x=xa)(h0:X.s₀.heap.get? x=xa)(hx:s.heap.get? x=zq oe)(hd:oe.data= .fields vs):Inv X [] σ (upd H x (.frz oe (.own 0))) s:=by
 have ne: ∀b u,H b=zq u->b≠x:=λb u e z=>by rw [z,hn] at e;cases e
 have ne0: ∀b o,X.s₀.heap.get? b=zq o->b≠x:=λb o e z=>by rw [z,h0] at e;cases e
 have cn: ∀y c,X.env.cells.lookup y=zq c->c≠x:=λy c e z=>by
  obtain⟨v,o,ho,hc⟩:=I.cell y c e;rw [z,hx] at ho;cases ho;rw [hd] at hc;cases hc
 refine⟨I.ok,I.os,I.bare,⟨I.base.keep,I.base.slot,λb o e n hx=> ?_,I.base.there,λb xs e=> ?_,λb o u e=> ?_,λb ps e=> ?_⟩,I.loc,I.cell,?_,λy c e=> ?_,λp hp=> ?_,λa o e=> ?_,I.len⟩
 ·rw [jf (ne0 b o e)];exact I.base.free b o e n hx
 ·have:=I.base.tups b xs e;rw [jf (ne b _ this)];exact this
 ·have:=I.base.frzs b o u e;rw [jf (ne b _ this)];exact this
 ·obtain⟨more,this⟩:=I.base.tbls b ps e;exact⟨more,by rw [jf (ne b _ this)];exact this⟩
 ·rw [jf (λz=> ?_)]
  ·exact I.free
  ·obtain⟨m,⟨o,es,ep,e,d,_⟩,_⟩:=I.loc;rw [z,hx] at e;cases e;rw [hd] at d;cases d
 ·rw [jf (cn y c e)];exact I.freeC y c e
 ·rw [ς] at hp;cases hp
 ·by_cases z:a=x
  ·subst z;rw [jh] at e;cases e;exact⟨hx,⟨oe,hx⟩⟩
  ·rw [jf z] at e;exact(I.hok a o e).stay (λ_ _ _ q=>q) (λb q=>by rw [jf (ne b _ q)];exact q) λb xs q=>by rw [jf (ne b _ q)];exact q
def Ri {M:cN}{A:S4}{E:G1->G2->Prop}{i:P0}{y:Str}{v:V}{Q:Unit->G2->Prop}(I:Inv X [] σ H s)(ς:X.pn= [])(hN:X.N.Nodup)(hi:X.N[i]? =zq y)(hk:X.env.scope.names.lookup y=zq .local)(hv:σ[i]? =zq (zq v))
 (h: ∀s',Inv X [] (σ.set i xa) H s'->Q () s'):D6 M A (unbindName X.env y) Q E s:=by
 obtain⟨m,hn,hl⟩:=id I.loc;have X07:(X.env.scope.kind== .class||(X.env.scope.kind== .module&&X.env.locals !=X.env.globals))=xf:=by rw [I.ok.kind];rfl
 have X0Y:i<σ.length:=by rw [I.len];exact(P8.mp hi).1
 obtain⟨u,r,l⟩:=hl i y v hi hv (.inl hk);have hm:m y=zq u:=by
  rcases l with ⟨_,e⟩|⟨k,_⟩
  ·exact e
  ·rcases k with k|k<;>(have k':X.env.scope.names.lookup y=_:=k;rw [hk] at k';cases k')
 refine wpAny_unbindName_local hk hn hm X07 λh' u' hn' hs=> ?_
 obtain⟨oL,_,_,hoL,_⟩:=id hn;have cne:=I.cne;refine h _ ⟨I.ok,I.os,I.bare,⟨λb o e n hb hx=> ?_,λb o e n hb hx=> ?_,I.base.free,λb o e hx=> ?_,I.base.tups,I.base.frzs,I.base.tbls⟩,⟨_,hn',λj z v' e1 e2 e3=> ?_⟩,λz c e=> ?_,I.free,I.freeC,λp hp=> ?_,λb ob e=> ?_,by simpa using I.len⟩
 ·exact(hs.2 b (M6 (S8 (D7 e) I.ok.above))).trans (I.base.keep b o e n hb hx)
 ·obtain⟨sl,e1⟩:=I.base.slot b o e n hb hx;exact⟨sl,(hs.2 b (M6 (S8 (D7 e) I.ok.above))).trans e1⟩
 ·obtain⟨o',e1⟩:=I.base.there b o e hx;exact⟨o',(hs.2 b (M6 (S8 (D7 e) I.ok.above))).trans e1⟩
 ·by_cases hj:j=i
  ·subst hj;rw [Y2 X0Y] at e2;cases e2
  ·rw [J0 (O6 hj)] at e2;obtain⟨u2,r',q⟩:=hl j z v' e1 e2 e3;refine⟨u2,r',?_⟩;rcases q with ⟨k,e⟩|⟨k,c,e,q⟩
   ·refine .inl ⟨k,?_⟩;have:z≠y:=λe=>hj (YY hN e1 (e ▸ hi))
    simp [this,e]
   ·exact .inr ⟨k,c,e,q.sameBut hs (cne z c e)⟩
 ·obtain⟨w',q⟩:=I.cell z c e;exact⟨w',q.sameBut hs (cne z c e)⟩
 ·rw [ς] at hp;cases hp
 ·refine(I.hok b ob e).stay (λc w' hc q=>(hs.2 c ?_).trans q) (λ_ q=>q) λ_ _ q=>q
  rintro rfl;rcases hc with rfl|hc
  ·rw [I.free] at e;cases e
  ·rw [I.free] at hc;cases hc
end
def cxH (X:Cx)(x:G7):Cx:= {X with A:=X.A.mark (zq (.ref x)),calm:=xf,xe:=λ_ _=>False}
section
variable {X:Cx}{À:G0 (G7×Obj)}{σ:St}{H:Hp}{s:G2}{x C:G7}{dx:P1 G7}
def Inv.suite (I:Inv X À σ H s)(x:G7):Inv (cxH X x) À σ H s:=
 ⟨⟨I.ok.mod,I.ok.kind,I.ok.glob,I.ok.blt,I.ok.above,I.ok.inj,I.ok.has,I.ok.cab,λz=>(by cases z),I.ok.frames,I.ok.stk,I.ok.exf,I.ok.bs,I.ok.bsz,I.ok.noex,I.ok.exfs,I.ok.funs,I.ok.frf⟩,I.os,I.bare,I.base,I.loc,I.cell,I.free,I.freeC,I.pin,I.hok,I.len⟩
def Inv.unsuite (I:Inv (cxH X x) À σ H s)(ok:X.Ok):Inv X À σ H s:=⟨ok,I.os,I.bare,I.base,I.loc,I.cell,I.free,I.freeC,I.pin,I.hok,I.len⟩
def NB {E:G1->G2->Prop}{n:Str}{i:P0}{PE:G7}{b0:L8}{suite:G0 L8}{t:TS}{D:Ű}{np pos:Pos}(Z:Rz0 X)(ς:X.pn= [])(hN:X.N.Nodup)(hi:X.N[i]? =zq n)(hl:X.env.scope.names.lookup n=zq .local)
 (hg:Gl X "PowerError")(hm:X.mg "PowerError" =zq (.ref PE))(hex:exmOne X.K (.ref C) (.ref PE)=zq xb)(I:Inv X [] σ H s)(fl:Fly X.s₀.heap H s.heap x C dx)(hs:ő (cxH X x) (b0::suite) t)
 (ht: ∀oe vs,oe.cls= .ref C->oe.data= .fields vs->(dx=xa\/oe.dict=dx)->t {nx:=λ_ _=>False,rt:=D.rt} (σ.set i (zq (.ref x))) (upd H x (.frz oe (.own 0)))):
 D6 (R3 X.prog X.w) X.A (oX (.ref x) X.env) (λ_ s₂=>D6 (R3 X.prog X.w) X.A (xK (.ref x) xa) (λ_ s₃=>D6 (R3 X.prog X.w) X.A (handleBy (.ref x) X.env [.ExceptHandler (zq (.Name "PowerError" np)) (zq n) (b0::suite) pos]) (SP X [] D) E s₃) E s₂) E s:=by
 obtain⟨oe0,ď,a0,T,oT,ts,he,hc,hd,h0,h1,hTx,hT,hTd,h3,hHT,h0T⟩:=fl.ex;have hfr:X.A.frames=zq (X.env::X.outer):=by rw [I.ok.frames,Z.stk]
 have stk:s.heap.FunFrames X.base (X.env::X.outer):=Z.stk ▸ I.stack;have ff:s.heap.FunFrames (hideAll s.heap (x::T::ā (X.env::X.outer))) (X.env::X.outer):=zh stk λa ha=>hideAll_none _ (.tail _ (.tail _ ha))
 refine HT.Wt (HT.vI _ _) (P:=λh'=>Heap.HeldW (hideAll s.heap (x::T::ā (X.env::X.outer))) (X.env::X.outer) x (.ref C) a0 X.env.locals h'/\s.heap.UpToSlots h') (wpAny_looks_onW (base:=hideAll s.heap (x::T::ā (X.env::X.outer))) (cls:= .ref C) (a0:=a0) hfr Z.fr
  ⟨λb o e=>of_hideAll _ e,hideAll_none _ (.head _),ff,oe0,ď,T,oT,ts,he,⟨hc,h0⟩,hd,h1,hideAll_none _ (.tail _ (.head _)),hTx,hT,hTd,h3⟩ λh' p q=>⟨h',rfl,p,q⟩) λX1X ⟨X0i,X0m⟩ dk4=> ?_
 refine HT.Wt (HT.wV _ _) (P:=λh'=>mZ (hideAll s.heap (x::T::ā (X.env::X.outer))) (X.env::X.outer) x (.ref C) a0 h'/\X1X.UpToSlots h') (wpAny_landsW X0i λh' p q=>⟨h',rfl,p,q⟩) λh₅ ⟨X0n,X0o⟩ dk5=> ?_
 obtain⟨I5,F5⟩:=I.relaid Z ς ⟨fl.nx,fl.n0⟩ ⟨hHT,h0T⟩ rfl X0n (X0m.trans X0o) (dk4.trans dk5) fl.dc;refine wpAny_handleBy_cons (codeAny_handlers_test (vM (X:=cxH X x) (I5.suite x) hg hm ?_)) (by intro q;cases q);have at5:ExcAt x C h₅:=let ⟨oe,_,_,_,_,_,e,c,_⟩:=F5.ex;⟨oe,e,c⟩;refine(exm_one (M:=R3 X.prog X.w) (h:=h₅) I5.kIn at5.type hex).here ?_;refine codeAny_handlers_suite_as ?_;refine HT.Wt (HT.wV _ _) (P:=λh'=>mZ (hideAll s.heap (x::T::ā (X.env::X.outer))) (X.env::X.outer) x (.ref C) a0 h'/\h₅.UpToSlots h') (lands_againW X0n λh' p q=>⟨h',rfl,p,q⟩) λh₆ ⟨X0S,X0T⟩ dk6=> ?_
 obtain⟨I6,F6⟩:=I.relaid Z ς ⟨fl.nx,fl.n0⟩ ⟨hHT,h0T⟩ rfl X0S (X0m.trans (X0o.trans X0T)) ((dk4.trans dk5).trans dk6) fl.dc;obtain⟨oe,vs,_,_,_,_,e6,c6,d6,_⟩:=F6.ex;have I7:=I6.track ς F6.nx F6.n0 e6 d6;refine wM I7 hN hi (.inl hl) (v:= .ref x) rfl (λs8 I8=> ?_) (.inr hl);refine R7 (hs [] s8 _ _ _ (I8.suite x) (ht oe vs c6 d6 (F6.dc.imp id λ⟨o,e,d⟩=>by rw [e6] at e;cases e;exact d))) (λf s9 q=> ?_) λ_ _ z=>z.elim
 cases f with
 |next=>obtain⟨_,_,_,z⟩:=q;exact z.elim
 |brk=>obtain⟨_,_,_,z⟩:=q;exact z.elim
 |cont=>obtain⟨_,_,_,z⟩:=q;exact z.elim
 |ret u=>
  obtain⟨v,Â,H3,J,rv,qq⟩:=q;have J1:Inv X [] Â H3 s9:=J.unsuite I.ok;refine xg (nV (wM J1 hN hi (.inl hl) (v:= .non) rfl (λs10 J2=> ?_) (.inr hl)));unfold unbindBehindTheSuite;have ν:i<Â.length:=by rw [J1.len];exact(P8.mp hi).1
  exact wpAny_onRaise (Ri J2 ς hN hi hl (v:= .non) (by rw [Y2 ν]) λs11 J3=>⟨v,_,H3,J3,rv,qq⟩)
end
noncomputable def CW:G0 (Str×Str):= [("NoTable","table"),("NoPlace","place"),("NoNumber","number"),("NoOrder","order"),("NoSet","set"),("NoWalk","walk"),("NoLengths","lengths"),("NoWay","way"),("Apart","apart"),("NoRow","row")]
def CN:G0 Str:= ["NoTable","NoPlace","NoNumber","NoOrder","NoSet","NoWalk","NoLengths","NoWay","Apart","NoRow"]
abbrev N1:G0 Str:= ["_law_call","_law_found","_law_e","_law_word"]
def æ.mark {k:P0}{A:S4}{v:P1 G1}(r:æ k A):æ k (A.mark v):=⟨r.dp,r.un,r.gd⟩
def Rj {M:cN}{f:G7}(h:N8)(X: ∃o fd,h.get? f=zq o/\o.data= .func fd): ∃k,(k=Keeper.frame\/k=Keeper.machine\/k=Keeper.boundFrame)/\Looks M h (keeperOf (.ref f)) k:=by
 obtain⟨o,fd,e,d⟩:=X;refine⟨.frame,.inl rfl,(IK (part:=xa) e).andThen ?_⟩;rw [d];exact .now
def Ki (sc:A2):N3:=sc.kind== .function&& !sc.isCoroutine&& !sc.isGenerator&&sc.names.all λy=>y.2 != .cell&&y.2 != .local
def Rk {sc:A2}(hk:sc.kind= .function)(h:Ki sc=xb):Ś sc:=by
 unfold Ki at h;simp only [B7,qY,H0,bne_iff_ne,ne_eq] at h;exact⟨hk,h.1.1.2,h.1.2,λy hy=>h.2 y hy⟩
def NC (sc sc':A2):N3:=sc.names.all λy=>y.2 != .free||(sc'.names.lookup y.1==zq .cell||sc'.names.lookup y.1==zq .free)
def XX {sc:A2}{env:Env}(h:NC sc env.scope=xb):Rg sc env:=λn hn=>by
 have:=H0.mp h _ hn;simp only [qZ,Bool.false_or,hO,beq_iff_eq] at this;exact this
variable {K:Frag}{x:Str}
def ND {f c P:G7}{oc:G1}{od:P1 G7}{fd:R8}{Ĕ:T7 (P1 G1)}(a:nsIn K xi x=zq (zq (.ref f)))(l:K.lookup f=zq ⟨oc,od,.func fd,Ĕ⟩)(t:tabIn K x=zq (c,P)):fd.code= .ref c:=by
 unfold tabIn at t;rw [a] at t;simp only [l] at t;split at t
 ·rename_i c' hc';split at t
  ·split at t
   ·cases t;exact hc'
   ·cases t
  ·cases t
 ·cases t
def CN13:G0 Str:= ["NoTable","NoPlace","NoNumber","NoOrder","NoSet","NoWalk","NoLengths","NoWay","Apart","NoRow","NoTables","NoText","TooGreat"]
def ū (K:Frag)(x:Str):P1 G7:=match nsIn K xi x with
 |some (zq (.ref a))=>zq a
 |_=>xa
def GY (K:Frag)(C:G7):N3:=(clsIn K C).isSome&&findIn K (.ref C) "__getattribute__" ==zq (zq (.builtin "BaseException.__getattribute__"))&&findIn K (.ref C) "__getattr__" ==zq xa
 &&findIn K (.ref C) "__class__" ==zq (zq (.builtin "object.__class__"))&&specialIn K (.builtin "object.__class__") "__get__" ==zq (zq (.builtin "getset_descriptor.__get__"))
 &&takesIn K (.builtin "object.__class__")==zq xb&&mroIn K C (.type "object")==zq xb&&mroIn K C (.type "BaseException")==zq xb
def Rl {C:G7}(h:GY K C=xb):Ł K C:=by
 unfold GY at h;simp only [B7,beq_iff_eq] at h;obtain⟨⟨⟨⟨⟨⟨⟨a,b⟩,c⟩,d⟩,e⟩,f⟩,g⟩,i⟩:=h;exact⟨a,b,c,d,e,f,g,i⟩
def BY (K:Frag)(c:Str):N3:=match ū K c,ū K "PowerError" with
 |some C,zq pe=>excIn K C bmV "ValueError.__new__" &&GY K C&&kitOne K (.ref C) (.type "ValueError")==zq xb&&exmOne K (.ref C) (.ref pe)==zq xb&&CN13.all λd=>match ū K d with
  |some D=>kitOne K (.ref C) (.ref D)==zq (c==d)
  |none=>xf
 |_,_=>xf
def Es (K:Frag):N3:=CN.all (BY K)&&CN13.all (λd=>(ū K d).isSome)&&(ū K "PowerError").isSome&&nsIn K xi "ValueError" ==zq xa
structure Exc (K:Frag)(mg:Str->P1 G1):Prop where
 own: ∀c∈CN,X04 K mg c
 ek: ∀c∈CN,∀C,mg c=zq (.ref C)->Ł K C
 υ: ∀c∈CN,∀d∈CN13,∀C D,mg c=zq (.ref C)->mg d=zq (.ref D)->kitOne K (.ref C) (.ref D)=zq (c==d)
 val: ∀c∈CN,∀C,mg c=zq (.ref C)->kitOne K (.ref C) (.type "ValueError")=zq xb
 pe: ∃pe,mg "PowerError" =zq (.ref pe)/\ ∀c∈CN,∀C,mg c=zq (.ref C)->exmOne K (.ref C) (.ref pe)=zq xb
 cls: ∀d∈CN13,∃D,mg d=zq (.ref D)
 ve:mg "ValueError" =xa
def Zw {h:N8}{mg:Str->P1 G1}{a:G7}(X:K.In h)(G:h.Ns xi mg)(e:ū K x=zq a):mg x=zq (.ref a):=by
 unfold ū at e;split at e
 ·rename_i q;cases e;exact mg_of X G q
 ·cases e
def Et {a:G7}(e:ū K x=zq a):nsIn K xi x=zq (zq (.ref a)):=by
 unfold ū at e;split at e
 ·rename_i q;cases e;exact q
 ·cases e
def Eu {h:N8}{mg:Str->P1 G1}(X:K.In h)(G:h.Ns xi mg)(e:Es K=xb):Exc K mg:=by
 unfold Es at e;simp only [B7,H0,beq_iff_eq] at e;obtain⟨⟨⟨e1,e2⟩,e3⟩,e4⟩:=e;obtain⟨pe,hpe⟩:=O9.mp e3;have A: ∀c∈CN,∃C,ū K c=zq C/\mg c=zq (.ref C)/\excIn K C bmV "ValueError.__new__" =xb/\GY K C=xb/\kitOne K (.ref C) (.type "ValueError")=zq xb/\exmOne K (.ref C) (.ref pe)=zq xb/\ ∀d∈CN13,∀D,ū K d=zq D->kitOne K (.ref C) (.ref D)=zq (c==d):=λc hc=>by
  have q:=e1 c hc;unfold BY at q;rw [hpe] at q;split at q
  ·rename_i C pe' h1 h2;cases h2;simp only [B7,H0,beq_iff_eq] at q;obtain⟨⟨⟨⟨q1,q2⟩,q3⟩,q4⟩,q5⟩:=q;refine⟨C,h1,Zw X G h1,q1,q2,q3,q4,λd hd D hD=> ?_⟩;have:=q5 d hd;rw [hD] at this;simpa using this
  ·cases q
 have same: ∀ {c:Str} {C C':G7},mg c=zq (.ref C)->mg c=zq (.ref C')->C=C':=λa b=>by rw [a] at b;cases b;rfl
 refine⟨λc hc=> ?_,λc hc C h=> ?_,λc hc d hd C D h1 h2=> ?_,λc hc C h=> ?_,⟨pe,Zw X G hpe,λc hc C h=> ?_⟩,λd hd=> ?_,mg_none_of X G e4⟩
 ·obtain⟨C,a,m,q,_⟩:=A c hc;exact⟨C,m,Et a,q⟩
 ·obtain⟨C',_,m,_,q,_⟩:=A c hc;cases same h m;exact Rl q
 ·obtain⟨C',_,m,_,_,_,_,q⟩:=A c hc;cases same h1 m;obtain⟨D',hD⟩:=O9.mp (e2 d hd);cases same h2 (Zw X G hD);exact q d hd D hD
 ·obtain⟨C',_,m,_,_,q,_⟩:=A c hc;cases same h m;exact q
 ·obtain⟨C',_,m,_,_,_,q,_⟩:=A c hc;cases same h m;exact q
 ·obtain⟨D',hD⟩:=O9.mp (e2 d hd);exact⟨D',Zw X G hD⟩
def xOr (t u:TXD):TXD:=λσ h R=>t σ h R\/u σ h R
def UK {X:Cx}{sts:G0 L8}{t u:TXD}(a:JX X sts t)(b:JX X sts u):JX X sts (xOr t u):=⟨λE Z À s σ H Ä h R I rs rh ht w=>ht.elim (λq=>a.to E Z À s σ H Ä h R I rs rh q w) λq=>b.to E Z À s σ H Ä h R I rs rh q w⟩
section
variable {P:D5}{w:T8}{K:G3}{mg:Str->P1 G1}{base:N8}
def â.okJL {x qual:Str}{st:L8}{f c Pt:G7}{fd:R8}{N ps:G0 Str}{k:P0}{ą:RDn}(F:â K x qual st f fd)(a:nsIn K xi x=zq (zq (.ref f)))(T:tabIn K x=zq (c,Pt))(S:Ã N ps (jd st))(len: ∀ds h Q,ą ds h Q->ds.length=ps.length)
 (tb:TSD)(Þ: ∀ (A:S4) (outer:G0 Env) (s:G2) (H:Hp) (E:XK),Ð k (A.deeper (K2 qual (jd st) s.heap.objs.size f (.ref c)))->Ī (ZT à P w K mg base N qual (jd st) f (.ref c) A outer s H E).nox (jL st) tb)
 (read: ∀ds h Q,ą ds h Q->tb (Xv Q) (zt N ds) h):Ì P w K mg base à (k+1) f fd ps (í K ą):=by
 obtain⟨oc,od,kV,doc,pm,an,Ï,ct,Ĕ,rfl,lk,hcd⟩:=F.ex;have e:Ï= .ref c:=ND a lk T;subst e;refine CJ lk hcd S (λvs H Q E h=> ?_) λA outer s H vs Q E hr h=> ?_
 ·obtain⟨ds,h,Qd,r,rh,q,p⟩:=h;rw [<-r.length];exact len _ _ _ q
 ·obtain⟨ds,h,Qd,r,rh,q,p⟩:=h;refine⟨_,((Þ A outer s H E hr).to).nox,zt N ds,h,Xv Qd,vo r,rh,read ds h Qd q,λß h' Â H' k ť ì ⟨h2,sb,q'⟩=>p .non .non h2 H' k (ì.sub sb) rfl q',λd v h' H' k ì r' ⟨h2,sb,q'⟩=>p d v h2 H' k (ì.sub sb) r' q',λ_ _ _ _ _ _ _ z=>z.elim,λ_ _ _ _ _ _ _ z=>z.elim⟩
end
def NE (K:Frag)(x:Str):N3:=match tabIn K x with
 |some p=>codeHdIn K p.1 p.2
 |none=>xf
def Rm (h:NE K x=xb): ∃c P,tabIn K x=zq (c,P)/\codeHdIn K c P=xb:=by
 unfold NE at h;split at h
 ·rename_i p e;exact⟨p.1,p.2,e,h⟩
 ·cases h
end L2
namespace L2
open PySem PySem.Spec PyProof.Rows PySem.SeqAt
section
variable {n e:P0}{T:G0 (G0 P4)}
instance (k i j:P0):Decidable (RP n T k i j):=inferInstanceAs (Decidable (ě (TH n T k) i j≠0))
end
end L2
namespace L2
open PySem PySem.Spec PyProof.Rows PySem.W
section
variable {X:Cx}{e a b iter:S2}{es:G0 S2}{u:TXD}{pos p:Pos}{rest:G0 L8}
def Gb {sts:G0 L8}:Ī X sts DO:=⟨λÀ s σ H D I h=>by obtain⟨_,_,_,_,_,f,_⟩:=h;exact xn f⟩
end
end L2
namespace L2
open PySem PySem.Spec PyProof.Rows
def TrV (K:G3)(H:Hp):V->N3->Prop
 | .bl b,c=>c=b
 | .int i,c=>c=(i !=0)
 | .non,c=>c=xf
 | .ref a,c=> ∃xs,õ K H a xs/\c= !xs.isEmpty
 |_,_=>False
def TrD (h:HD):D->N3->Prop
 | .bl b,c=>c=b
 | .int i,c=>c=(i !=0)
 | .non,c=>c=xf
 | .lst a,c=> ∃ds,h a=zq ds/\c= !ds.isEmpty
 |_,_=>False
def TrD.to {K:G3}{H:Hp}{h:HD}{d:D}{v:V}{c:N3}(t:TrD h d c)(r:É K H d v)(rh:Å K h H):TrV K H v c:=by
 cases d<;>try exact t.elim
 ·have e:v= .non:=r;subst e;exact t
 ·have e:v= .bl _:=r;subst e;exact t
 ·have e:v= .int _:=r;subst e;exact t
 ·obtain⟨e,_⟩:=r;subst e;obtain⟨ds,hd,e⟩:=t;obtain⟨vs,hv,r'⟩:=rh _ ds hd;refine⟨vs,õ.of hv,?_⟩;rw [e];have:=r'.length;cases ds<;>cases vs<;>first|rfl|(simp at this)
section
variable {X:Cx}{À:G0 (G7×Obj)}{σ:St}{H:Hp}{s:G2}{E:G1->G2->Prop}
def Inv.trv {v:V}{u:G1}{c:N3}{Q:N3->G2->Prop}(I:Inv X À σ H s)(r:RelV v u)(t:TrV X.K H v c)(q: ∀s',Inv X À σ H s'->Q c s'):D6 (R3 X.prog X.w) X.A (mP u) Q E s:=by
 cases v<;>try exact t.elim
 ·have e:u=gE:=r;subst e;have e:c=xf:=t;subst e;exact truthy_none (q _ I)
 ·have e:u=pL _:=r;subst e;have e:c=_:=t;subst e;exact E8 (q _ I)
 ·obtain⟨t',e⟩:=r;subst e;have e:c=_:=t;subst e;exact truthy_int (q _ I)
 ·have e:u=N7 _:=r;subst e;obtain⟨xs,hx,e⟩:=t;obtain⟨its,rv,p,hz⟩:=I.list hx;have hl:=rv.length;have e2:c= !its.toArray.isEmpty:=by
   rw [e];cases xs<;>cases its<;>first|rfl|(simp at hl)
  refine wpAny_truthy_list p.isList ?_ ?_
  ·have:xs.length<=16777216:=M1 hz (by decide);simp only [R4];have e3:((2:P4)^63)=9223372036854775808:=by decide
   rw [e3];omega
  ·rw [<-e2];exact q _ (I.tok _)
end
section
variable {X:Cx}{a b:S2}{rest:G0 S2}{pos:Pos}
def Kj (K:G3)(t:TE):TT:=λσ H Q=>t σ H λx H1=> ∃c,TrV K H1 x c/\Q c H1
def Ev {e:S2}{t:TE}(h:PE X e t)(he: ∀whole,isTrue e X.env whole=(do let v <-whole;cZ e.pos;Z6 [v] (mP v)):=by intro _;rfl):PT X e (Kj X.K t):=by
 intro À s σ H Q I hw;refine qC (Ø (h À s σ H _ I hw) λv s1 ⟨x,H1,I1,r1,q1⟩=> ?_) (he _);obtain⟨c,t1,q⟩:=q1;exact I1.trv r1 t1 λs' I'=>⟨H1,I',q⟩
def Kk (t:TED):TTD:=λσ h Q=>t σ h λx h1=> ∃c,TrD h1 x c/\Q c h1
variable {K:G3}
def Ew {t:TED}: ∀σ H Q,LT K (Kk t) σ H Q->Kj K (LE K t) σ H Q:=λσ H Q ⟨Ä,h,Qd,rs,rh,t,p⟩=>
 LE.bind rs rh t λd v h1 H1 k1 Ý Î r1 ⟨k,e,q⟩=>⟨k,e.to r1 Î,p k h1 H1 k1 Î q⟩
def Ey {ta:TED}(ha:JE X a ta)(he: ∀whole,isTrue a X.env whole=(do let v <-whole;cZ a.pos;Z6 [v] (mP v)):=by intro _;rfl):JT X a (Kk ta):=⟨(Ev ha.to he).imp Ew⟩
end
end L2
namespace HT
open PySem PyProof.Rows
section
variable {prog:D5}{w:T8}{A:S4}{E:G1->G2->Prop}{σ α β:Type}{J:G2->Prop}
def Tm (prog:D5)(w:T8)(A:S4)(E:G1->G2->Prop)(J:G2->Prop){σ α:Type}(m:W8 σ Sem α)(Q:α->σ->Prop)(st:σ):Prop:=
 ∀s,J s->D6 (R3 prog w) A (m.run st) (λr s'=>Q r.1 r.2/\J s') E s
def Tm.pure {a:α}{Q:α->σ->Prop}{st:σ}(h:Q a st):Tm prog w A E J (Pure.pure a:W8 σ Sem α) Q st:=λs j=>by
 rw [StateT.run_pure];exact G8 ⟨h,j⟩
def Tm.bind {m:W8 σ Sem α}{f:α->W8 σ Sem β}{Q:β->σ->Prop}{st:σ}(h:Tm prog w A E J m (λa Ç=>Tm prog w A E J (f a) Q Ç) st):Tm prog w A E J (m >>= f) Q st:=λs j=>by
 rw [StateT.run_bind];exact xg (R7 (h s j) (λr s' x=>x.1 s' x.2) λ_ _ e=>e)
def Tm.get {Q:σ->σ->Prop}{st:σ}(h:Q st st):Tm prog w A E J (MonadState.get:W8 σ Sem σ) Q st:=λs j=>by
 show D6 _ _ ((StateT.get:W8 σ Sem σ).run st) _ _ _;exact G8 ⟨h,j⟩
def Tm.mono {m:W8 σ Sem α}{Q Q':α->σ->Prop}{st:σ}(h:Tm prog w A E J m Q st)(q: ∀a Ç,Q a Ç->Q' a Ç):Tm prog w A E J m Q' st:=λs j=>
 R7 (h s j) (λr s' x=>⟨q _ _ x.1,x.2⟩) λ_ _ e=>e
def Tm.range' {f:P0->β->W8 σ Sem (dW β)}(I:P0->β->σ->Prop){Q:β->σ->Prop}{b:P0}(step: ∀i c st,i<b->I i c st->Tm prog w A E J (f i c) (λr Ç=>match r with| .done c'=>Q c' Ç| .yield c'=>I (i+1) c' Ç) st)(fin: ∀c st,I b c st->Q c st):
 ∀ (k i:P0) (c:β) (st:σ),i+k=b->I i c st->Tm prog w A E J (forIn (List.range' i k) c f) Q st
 |0,i,c,st,e,h=>by
  rw [List.range'_zero,List.forIn_nil];exact .pure (fin c st (by rw [<-e];exact h))
 |k+1,i,c,st,e,h=>by
  rw [List.range'_succ,aC];refine .bind ((step i c st (by omega) h).mono λr Ç x=> ?_);cases r with
  |done c'=>exact .pure x
  |yield c'=>exact Tm.range' I step fin k (i+1) c' Ç (by omega) x
def Tm.range {f:P0->β->W8 σ Sem (dW β)}(I:P0->β->σ->Prop){Q:β->σ->Prop}{a b:P0}{c:β}{st:σ}(hab:a<=b)(h:I a c st)(step: ∀i c st,i<b->I i c st->Tm prog w A E J (f i c) (λr Ç=>match r with| .done c'=>Q c' Ç| .yield c'=>I (i+1) c' Ç) st)(fin: ∀c st,I b c st->Q c st):
 Tm prog w A E J (forIn [a:b] c f) Q st:=λs j=>by
 rw [Std.Legacy.Range.forIn_eq_forIn_range'];have e:([a:b]:Std.Legacy.Range).size=b-a:=by simp [Std.Legacy.Range.size]
 rw [e];exact Tm.range' I step fin (b-a) a c st (by omega) h s j
end
section
variable {prog:D5}{w:T8}{A:S4}{E:G1->G2->Prop}{J:G2->Prop}{κ:SortKind}{U:D4->Prop}{R:D4->D4->N3}
def Ud (prog:D5)(w:T8)(A:S4)(J:G2->Prop)(κ:SortKind)(U:D4->Prop)(R:D4->D4->N3):Prop:=
 ∀x y,U x->U y-> ∀s,J s->D6 (R3 prog w) A (keyLt' κ x.1 y.1) (λb s'=>b=R x y/\J s') (λ_ _=>False) s
def Tm.lt {x y:D4}{st:C5}{Q:P1 N3->C5->Prop}(a:Ud prog w A J κ U R)(k:kindOf st=κ)(hx:U x)(hy:U y)(q:Q (zq (R x y)) st):Tm prog w A E J (lt' x y) Q st:=by
 rw [lt'_eq];refine .bind (.get ?_);rw [k];intro s j;rw [StateT.run_bind];refine xg ?_;show D6 _ _ ((StateT.lift _:W8 C5 Sem _).run st) _ _ _;rw [StateT.run_lift];refine xg (Y5 (R7 (a x y hx hy s j) (λb s' x=> ?_) λ_ _ e=>e.elim));obtain⟨rfl,j'⟩:=x;exact G8 (Tm.pure (prog:=prog) (w:=w) (A:=A) (E:=E) (J:=J) q s' j')
def Tm.elem {arr:T7 D4}{i:P0}{x:D4}{st:C5}{Q:D4->C5->Prop}(e:arr[i]? =zq x)(q:Q x st):Tm prog w A E J (elem' arr i) Q st:=by
 rw [elem'_eq,e];exact .pure q
def Ez {n lo hi:P0}{g:P0->N3}{st:C5}{f:P0->P1 (P1 P0)×P0×P0->W8 C5 Sem (dW (P1 (P1 P0)×P0×P0))}(Ź: ∀i j,i<=j->j<n->g j=xb->g i=xb)
 (h1:lo<=hi)(h2:hi<=n)(a1: ∀i,i<lo->g i=xb)(a2: ∀i,hi<=i->i<n->g i=xf)
 (stop: ∀i l,Tm prog w A E J (f i (xa,l,l)) (λr Ç=>Ç=st/\r= .done (xa,l,l)) st)
 (step: ∀i l u,l<u->u<=n->Tm prog w A E J (f i (xa,l,u)) (λr Ç=>Ç=st/\r=if g (l+(u-l) / 2)=xb then .yield (xa,l+(u-l) / 2+1,u) else .yield (xa,l,l+(u-l) / 2)) st):
 Tm prog w A E J (forIn [0:n] (xa,lo,hi) f) (λc Ç=>Ç=st/\c.1=xa/\c.2.2<=n/\(∀i,i<c.2.2->g i=xb)/\ ∀i,c.2.2<=i->i<n->g i=xf) st:=by
 have no: ∀i j,i<=j->j<n->g i=xf->g j=xf:=λi j hij hj z=>by
  cases hb:g j with
  |false=>rfl
  |true=>rw [Ź i j hij hj hb] at z;cases z
 refine Tm.range (λi c Ç=>Ç=st/\c.1=xa/\c.2.1<=c.2.2/\c.2.2<=n/\(∀i,i<c.2.1->g i=xb)/\(∀i,c.2.2<=i->i<n->g i=xf)/\c.2.2-c.2.1+i<=n) (B0 _) ⟨rfl,rfl,h1,h2,a1,a2,by dsimp only;omega⟩ ?_ ?_
 ·rintro i ⟨r,l,u⟩ _ hi ⟨rfl,hr,b1,b2,b3,b4,b5⟩;dsimp only at hr b1 b2 b3 b4 b5;subst hr
  by_cases z:l=u
  ·subst z;refine(stop i l).mono ?_;rintro _ _ ⟨rfl,rfl⟩;exact⟨rfl,rfl,b2,b3,b4⟩
  ·refine(step i l u (by omega) b2).mono ?_;rintro _ _ ⟨rfl,rfl⟩;cases hg:g (l+(u-l) / 2) with
   |true=>
    rw [S5 rfl];exact⟨rfl,rfl,by dsimp only;omega,b2,λj hj=>Ź j _ (by dsimp only at hj;omega) (by omega) hg,b4,by dsimp only;omega⟩
   |false=>
    rw [R9 (by decide)];exact⟨rfl,rfl,by dsimp only;omega,by dsimp only;omega,b3,λj hj hn=>no _ j hj hn hg,by dsimp only;omega⟩
 ·rintro ⟨r,l,u⟩ _ ⟨rfl,hr,b1,b2,b3,b4,b5⟩;dsimp only at hr b1 b2 b3 b4 b5 ⊢;exact⟨rfl,hr,b2,λj hj=>b3 j (by omega),b4⟩
def gal:N3->D4->T7 D4->P0->P0->P0->W8 C5 Sem (P1 P0):=sortPriv% PySem.Builtin.gallop
def Ĺ (R:D4->D4->N3)(left:N3)(key:D4)(arr:T7 D4)(base i:P0):N3:=
 match arr[base+i]? with
 |some x=>if left=xb then R x key else !R key x
 |none=>xf
def Rn {left:N3}{key:D4}{arr:T7 D4}{base n hint:P0}{st:C5}{Q:P1 P0->C5->Prop}(a:Ud prog w A J κ U R)(k:kindOf st=κ)(uk:U key)(ua: ∀i,i<n-> ∃x,arr[base+i]? =zq x/\U x)
 (Ź: ∀i j,i<=j->j<n->Ĺ R left key arr base j=xb->Ĺ R left key arr base i=xb)(hh:hint<n)
 (q: ∀m,m<=n->(∀i,i<m->Ĺ R left key arr base i=xb)->(∀i,m<=i->i<n->Ĺ R left key arr base i=xf)->Q (zq m) st):Tm prog w A E J (gal left key arr base n hint) Q st:=by
 have ask: ∀i (Q':P1 N3->C5->Prop),i<n->Q' (zq (Ĺ R left key arr base i)) st->Tm prog w A E J (do let x <-elem' arr (base+i);if left=xb then lt' x key else do let b <-lt' key x;Pure.pure (b.map λz=> !z)) Q' st:=λi Q' hi q'=>by
  obtain⟨x,ex,ux⟩:=ua i hi;refine .bind (.elem ex ?_);unfold Ĺ at q';rw [ex] at q';cases left with
  |true=>exact .lt a k ux uk q'
  |false=>exact .bind (.lt a k uk ux (.pure q'))
 have no: ∀i j,i<=j->j<n->Ĺ R left key arr base i=xf->Ĺ R left key arr base j=xf:=λi j hij hj z=>by
  cases hb:Ĺ R left key arr base j with
  |false=>rfl
  |true=>rw [Ź i j hij hj hb] at z;cases z
 unfold gal;refine .bind (ask hint _ hh ?_);dsimp only;cases hb:Ĺ R left key arr base hint with
 |true=>
  rw [S5 rfl];refine .bind (Tm.mono (Tm.range (λi c Ç=>Ç=st/\c.1=xa/\c.2.1<c.2.2/\hint+c.2.1<n/\Ĺ R left key arr base (hint+c.2.1)=xb/\i+1<=c.2.2)
   (Q:=λc Ç=>Ç=st/\c.1=xa/\c.2.1<c.2.2/\hint+c.2.1<n/\Ĺ R left key arr base (hint+c.2.1)=xb/\(n-hint<=c.2.2\/Ĺ R left key arr base (hint+c.2.2)=xf)) (B0 _) ⟨rfl,rfl,by decide,by omega,by simpa using hb,by decide⟩ ?_ ?_) ?_)
  ·rintro i ⟨r,lo,of⟩ _ hi ⟨rfl,hr,h1,h2,h3,h4⟩;dsimp only at hr h1 h2 h3 h4 ⊢;subst hr
   by_cases z:of>=n-hint
   ·rw [S5 z];exact .pure ⟨rfl,rfl,h1,h2,h3,.inl z⟩
   ·rw [R9 z];refine .bind (ask (hint+of) _ (by omega) ?_);dsimp only;cases hc:Ĺ R left key arr base (hint+of) with
    |true=>exact .pure ⟨rfl,rfl,by dsimp only;omega,by dsimp only;omega,hc,by dsimp only;omega⟩
    |false=>exact .pure ⟨rfl,rfl,h1,h2,h3,.inr hc⟩
  ·rintro ⟨r,lo,of⟩ _ ⟨rfl,hr,h1,h2,h3,h4⟩;exact⟨rfl,hr,h1,h2,h3,.inl (by dsimp only at h4 ⊢;omega)⟩
  ·rintro ⟨r,lo,of⟩ _ ⟨rfl,hr,h1,h2,h3,h4⟩;dsimp only at hr h1 h2 h3 h4 ⊢;subst hr;dsimp only;refine .bind (Tm.mono (Ez (g:=Ĺ R left key arr base) Ź (by omega) (by omega) (λi hi=>Ź i _ (by omega) h2 h3) (λi hi hn=> ?_) (λi l=> ?_) (λi l u hl hu=> ?_)) ?_)
   ·rcases h4 with z|z
    ·omega
    ·exact no (hint+of) i (by omega) hn z
   ·rw [S5 (P7 l)];exact .pure ⟨rfl,rfl⟩
   ·rw [R9 (show ¬l>=u by omega)];refine .bind (ask (l+(u-l) / 2) _ (by omega) ?_);dsimp only;cases Ĺ R left key arr base (l+(u-l) / 2)<;>exact .pure ⟨rfl,rfl⟩
   ·rintro ⟨r,l,u⟩ _ ⟨rfl,hr,b2,b3,b4⟩;dsimp only at hr b2 b3 b4 ⊢;subst hr;exact .pure (q u b2 b3 b4)
 |false=>
  rw [R9 (by decide)];refine .bind (Tm.mono (Tm.range (λi c Ç=>Ç=st/\c.1=xa/\c.2.1<c.2.2/\c.2.1<=hint/\Ĺ R left key arr base (hint-c.2.1)=xf/\i+1<=c.2.2)
   (Q:=λc Ç=>Ç=st/\c.1=xa/\c.2.1<c.2.2/\c.2.1<=hint/\Ĺ R left key arr base (hint-c.2.1)=xf/\(hint+1<=c.2.2\/Ĺ R left key arr base (hint-c.2.2)=xb)) (B0 _) ⟨rfl,rfl,by decide,by dsimp only;omega,by simpa using hb,by decide⟩ ?_ ?_) ?_)
  ·rintro i ⟨r,lo,of⟩ _ hi ⟨rfl,hr,h1,h2,h3,h4⟩;dsimp only at hr h1 h2 h3 h4 ⊢;subst hr
   by_cases z:of>=hint+1
   ·rw [S5 z];exact .pure ⟨rfl,rfl,h1,h2,h3,.inl z⟩
   ·rw [R9 z];refine .bind (ask (hint-of) _ (by omega) ?_);dsimp only;cases hc:Ĺ R left key arr base (hint-of) with
    |false=>exact .pure ⟨rfl,rfl,by dsimp only;omega,by dsimp only;omega,hc,by dsimp only;omega⟩
    |true=>exact .pure ⟨rfl,rfl,h1,h2,h3,.inr hc⟩
  ·rintro ⟨r,lo,of⟩ _ ⟨rfl,hr,h1,h2,h3,h4⟩;exact⟨rfl,hr,h1,h2,h3,.inl (by dsimp only at h4 ⊢;omega)⟩
  ·rintro ⟨r,lo,of⟩ _ ⟨rfl,hr,h1,h2,h3,h4⟩;dsimp only at hr h1 h2 h3 h4 ⊢;subst hr;dsimp only;refine .bind (Tm.mono (Ez (g:=Ĺ R left key arr base) Ź (by omega) (by omega) (λi hi=> ?_) (λi hi hn=>no _ i hi hn h3) (λi l=> ?_) (λi l u hl hu=> ?_)) ?_)
   ·rcases h4 with z|z
    ·omega
    ·exact Ź i (hint-of) (by omega) (by omega) z
   ·rw [S5 (P7 l)];exact .pure ⟨rfl,rfl⟩
   ·rw [R9 (show ¬l>=u by omega)];refine .bind (ask (l+(u-l) / 2) _ (by omega) ?_);dsimp only;cases Ĺ R left key arr base (l+(u-l) / 2)<;>exact .pure ⟨rfl,rfl⟩
   ·rintro ⟨r,l,u⟩ _ ⟨rfl,hr,b2,b3,b4⟩;dsimp only at hr b2 b3 b4 ⊢;subst hr;exact .pure (q u b2 b3 b4)
end
section
variable {κ:Type}{U:κ->Prop}{R:κ->κ->N3}{al bl:G0 κ}
structure ã (U:κ->Prop)(R:κ->κ->N3):Prop where
 asym: ∀x y,U x->U y->R x y=xb->R y x=xf
 neg: ∀x y z,U x->U y->U z->R x z=xb->R x y=xb\/R y z=xb
def ã.refl (o:ã U R){x:κ}(u:U x):R x x=xf:=by
 cases h:R x x with
 |false=>rfl
 |true=>have:=o.asym x x u u h;rw [h] at this;exact this
def ã.trans (o:ã U R){x y z:κ}(ux:U x)(uy:U y)(uz:U z)(a:R y x=xf)(b:R z y=xf):R z x=xf:=by
 cases h:R z x with
 |false=>rfl
 |true=>
  rcases o.neg z y x uz uy ux h with z|z
  ·rw [b] at z;cases z
  ·rw [a] at z;cases z
abbrev á (R:κ->κ->N3)(l:G0 κ):Prop:=l.Pairwise λx y=>R y x=xf
structure MI (R:κ->κ->N3)(al bl:G0 κ)(ia ib:P0)(out:G0 κ):Prop where
 perm:out.Perm (al.take ia++bl.take ib)
 srt:á R out
 ra: ∀x∈out,∀y∈al.drop ia,R y x=xf
 rb: ∀x∈out,∀y∈bl.drop ib,R y x=xf
def zB {l:G0 κ}{i:P0}{y:κ}(h:l[i]? =zq y):l.drop i=y::l.drop (i+1):=by
 obtain⟨hi,e⟩:=P8.mp h;rw [List.drop_eq_getElem_cons hi,e]
def Wx {l:G0 κ}{i:P0}{y:κ}(h:l[i]? =zq y):l.take (i+1)=l.take i++ [y]:=by
 rw [L5,h];rfl
def MI.start (al bl:G0 κ):MI R al bl 0 0 []:=⟨.refl _,.nil,λx hx=>(F9 hx).elim,λx hx=>(F9 hx).elim⟩
variable {ia ib:P0}
def MI.pushB {out:G0 κ}{y:κ}(m:MI R al bl ia ib out)(o:ã U R)(ua: ∀x∈al,U x)(ub: ∀x∈bl,U x)(sa:á R al)(sb:á R bl)(hy:bl[ib]? =zq y)(lt: ∀z,al[ia]? =zq z->R y z=xb):MI R al bl ia (ib+1) (out++ [y]):=by
 have dy:=zB hy;have uy:=ub y (P5 hy);have sdb:á R (bl.drop ib):=sb.sublist (U7 _ _);rw [dy] at sdb;refine⟨?_,?_,λx hx z hz=> ?_,λx hx z hz=> ?_⟩
 ·rw [Wx hy,<-D0];exact m.perm.append_right _
 ·refine B1.mpr ⟨m.srt,E5 _ _,λx hx z hz=> ?_⟩;rw [P2.mp hz];exact m.rb x hx y (by rw [dy];exact R1 ..)
 ·rcases D9.mp hx with w|w
  ·exact m.ra x w z hz
  ·rw [P2.mp w];cases e:al[ia]? with
   |none=>rw [A9 (k9.mp e)] at hz;cases hz
   |some a0=>
    have da:=zB e;have ua0:=ua a0 (P5 e);have sda:á R (al.drop ia):=sa.sublist (U7 _ _);rw [da] at sda hz;have l0:=o.asym y a0 uy ua0 (lt a0 e);rcases R5.mp hz with v|v
    ·rw [v];exact l0
    ·exact o.trans uy ua0 (ua z (A1 v)) l0 ((dJ.mp sda).1 z v)
 ·rcases D9.mp hx with w|w
  ·exact m.rb x w z (by rw [dy];exact M5 _ hz)
  ·rw [P2.mp w];exact(dJ.mp sdb).1 z hz
def MI.pushA {out:G0 κ}{y:κ}(m:MI R al bl ia ib out)(o:ã U R)(ua: ∀x∈al,U x)(ub: ∀x∈bl,U x)(sa:á R al)(sb:á R bl)(hy:al[ia]? =zq y)(ge: ∀z,bl[ib]? =zq z->R z y=xf):MI R al bl (ia+1) ib (out++ [y]):=by
 have dy:=zB hy;have uy:=ua y (P5 hy);have sda:á R (al.drop ia):=sa.sublist (U7 _ _);rw [dy] at sda;refine⟨?_,?_,λx hx z hz=> ?_,λx hx z hz=> ?_⟩
 ·rw [Wx hy];refine(m.perm.append_right [y]).trans ?_;rw [D0,D0];exact(bO).append_left _
 ·refine B1.mpr ⟨m.srt,E5 _ _,λx hx z hz=> ?_⟩;rw [P2.mp hz];exact m.ra x hx y (by rw [dy];exact R1 ..)
 ·rcases D9.mp hx with w|w
  ·exact m.ra x w z (by rw [dy];exact M5 _ hz)
  ·rw [P2.mp w];exact(dJ.mp sda).1 z hz
 ·rcases D9.mp hx with w|w
  ·exact m.rb x w z hz
  ·rw [P2.mp w];cases e:bl[ib]? with
   |none=>rw [A9 (k9.mp e)] at hz;cases hz
   |some b0=>
    have db:=zB e;have ub0:=ub b0 (P5 e);have sdb:á R (bl.drop ib):=sb.sublist (U7 _ _);rw [db] at sdb hz;have l0:=ge b0 e;rcases R5.mp hz with v|v
    ·rw [v];exact l0
    ·exact o.trans uy ub0 (ub z (A1 v)) l0 ((dJ.mp sdb).1 z v)
def MI.manyA (o:ã U R)(ua: ∀x∈al,U x)(ub: ∀x∈bl,U x)(sa:á R al)(sb:á R bl): ∀ (k:P0) {ia:P0} {out:G0 κ},MI R al bl ia ib out->ia+k<=al.length->(∀i,i<k-> ∀y,al[ia+i]? =zq y-> ∀z,bl[ib]? =zq z->R z y=xf)->MI R al bl (ia+k) ib (out++(al.drop ia).take k)
 |0,ia,out,m,_,_=>by rw [fE,A5];exact m
 |k+1,ia,out,m,hk,h=>by
  obtain⟨y,hy⟩: ∃y,al[ia]? =zq y:=⟨_,G5 (by omega)⟩;have m1:=m.pushA o ua ub sa sb hy (h 0 (by omega) y hy);have:=MI.manyA o ua ub sa sb k m1 (by omega) (λi hi y hy=>h (i+1) (by omega) y (by rw [show ia+(i+1)=ia+1+i by omega];exact hy));rw [show ia+(k+1)=ia+1+k by omega,zB hy,o4,rX];exact this
def MI.manyB (o:ã U R)(ua: ∀x∈al,U x)(ub: ∀x∈bl,U x)(sa:á R al)(sb:á R bl): ∀ (k:P0) {ib:P0} {out:G0 κ},MI R al bl ia ib out->ib+k<=bl.length->(∀i,i<k-> ∀y,bl[ib+i]? =zq y-> ∀z,al[ia]? =zq z->R y z=xb)->MI R al bl ia (ib+k) (out++(bl.drop ib).take k)
 |0,ib,out,m,_,_=>by rw [fE,A5];exact m
 |k+1,ib,out,m,hk,h=>by
  obtain⟨y,hy⟩: ∃y,bl[ib]? =zq y:=⟨_,G5 (by omega)⟩;have m1:=m.pushB o ua ub sa sb hy (h 0 (by omega) y hy);have:=MI.manyB o ua ub sa sb k m1 (by omega) (λi hi y hy=>h (i+1) (by omega) y (by rw [show ib+(i+1)=ib+1+i by omega];exact hy));rw [show ib+(k+1)=ib+1+k by omega,zB hy,o4,rX];exact this
def MI.all {out:G0 κ}(m:MI R al bl al.length bl.length out):out.Perm (al++bl)/\á R out:=by
 have:=m.perm;rw [W3,W3] at this;exact⟨this,m.srt⟩
def MI.done {out:G0 κ}(m:MI R al bl ia ib out)(o:ã U R)(ua: ∀x∈al,U x)(ub: ∀x∈bl,U x)(sa:á R al)(sb:á R bl)(ha:ia<=al.length)(hb:ib<=bl.length)(h:ia=al.length\/ib=bl.length):(out++al.drop ia++bl.drop ib).Perm (al++bl)/\á R (out++al.drop ia++bl.drop ib):=by
 have m1:=MI.manyA o ua ub sa sb (al.length-ia) m (by omega) (λi hi y hy z hz=>by
  have:=(P8.mp hz).1;omega)
 rw [show ia+(al.length-ia)=al.length by omega,S3 (by rw [C6];exact P7 _)] at m1;have m2:=MI.manyB o ua ub sa sb (bl.length-ib) m1 (by omega) (λi hi y hy z hz=>by
  have:=(P8.mp hz).1;omega)
 rw [show ib+(bl.length-ib)=bl.length by omega,S3 (l:=bl.drop ib) (by rw [C6];exact P7 _)] at m2;exact m2.all
def MI.lastA {out:G0 κ}(m:MI R al bl ia ib out)(o:ã U R)(ua: ∀x∈al,U x)(ub: ∀x∈bl,U x)(sa:á R al)(sb:á R bl)(ha:ia+1=al.length)(hb:ib<=bl.length)(h: ∀y∈bl,∀z,al[al.length-1]? =zq z->R y z=xb):(out++bl.drop ib++al.drop ia).Perm (al++bl)/\á R (out++bl.drop ib++al.drop ia):=by
 have m2:=MI.manyB o ua ub sa sb (bl.length-ib) m (by omega) (λi hi y hy z hz=>h y (P5 hy) z (by rw [<-ha];exact hz));rw [show ib+(bl.length-ib)=bl.length by omega,S3 (by rw [C6];exact P7 _)] at m2;have m1:=MI.manyA o ua ub sa sb (al.length-ia) m2 (by omega) (λi hi y hy z hz=>by
  have:=(P8.mp hz).1;omega)
 rw [show ia+(al.length-ia)=al.length by omega,S3 (l:=al.drop ia) (by rw [C6];exact P7 _)] at m1;exact m1.all
end
section
variable {prog:D5}{w:T8}{A:S4}{E:G1->G2->Prop}{J:G2->Prop}{κ:SortKind}{U:D4->Prop}{R:D4->D4->N3}
def Tm.rule {σ:Type}{x:F7}{Q:Unit->σ->Prop}{st:σ}(q:Q () st):Tm prog w A E J (liftM (PySem.rule x):W8 σ Sem Unit) Q st:=λs j=>by
 show D6 _ _ ((StateT.lift _:W8 σ Sem _).run st) _ _ _;rw [StateT.run_lift];exact xg (dH (G8 ⟨q,j⟩))
def Tm.modify {σ:Type}{f:σ->σ}{Q:Unit->σ->Prop}{st:σ}(q:Q () (f st)):Tm prog w A E J (_root_.modify f:W8 σ Sem PUnit) Q st:=λs j=>by
 rw [StateT.run_modify];exact G8 ⟨q,j⟩
def mLo:T7 D4->T7 D4->W8 C5 Sem (T7 D4):=sortPriv% PySem.Builtin.mergeLo
def Ŭ (st Ç:C5):Prop:=kindOf Ç=kindOf st/\T4 Ç=T4 st/\B2 Ç=B2 st/\aL Ç=aL st
def Ŭ.refl (st:C5):Ŭ st st:=⟨rfl,rfl,rfl,rfl⟩
def ZY (a:T7 D4)(i:P0):(a.extract i).toList=a.toList.drop i:=by
 rw [aM,Q7];exact S3 (by simp)
def Gc (a:T7 D4)(i k:P0):(a.extract i (i+k)).toList=(a.toList.drop i).take k:=by
 rw [aM,Q7,dX]
def vE (R:D4->D4->N3)(a b c:T7 D4):Prop:=c.toList.Perm (a.toList++b.toList)/\á R c.toList
structure Two (U:D4->Prop)(R:D4->D4->N3)(a b:T7 D4):Prop where
 o:ã U R
 ua: ∀x∈a.toList,U x
 ub: ∀x∈b.toList,U x
 sa:á R a.toList
 sb:á R b.toList
 last: ∀y∈b.toList,∀z,a.toList[a.toList.length-1]? =zq z->R y z=xb
abbrev MA (R:D4->D4->N3)(a b:T7 D4)(ia ib:P0)(out:T7 D4):Prop:=MI R a.toList b.toList ia ib out.toList
section
variable {a b out:T7 D4}{ia ib:P0}
def MA.done (t:Two U R a b)(m:MA R a b ia ib out)(ha:ia<=a.size)(hb:ib<=b.size)(h:ia=a.size\/ib=b.size):vE R a b (out++a.extract ia++b.extract ib):=by
 have:=MI.done m t.o t.ua t.ub t.sa t.sb (by simpa using ha) (by simpa using hb) (by simpa using h);unfold vE;rw [F4,F4,ZY,ZY];exact this
def MA.lastA (t:Two U R a b)(m:MA R a b ia ib out)(ha:ia+1=a.size)(hb:ib<=b.size):vE R a b (out++b.extract ib++a.extract ia):=by
 have:=MI.lastA m t.o t.ua t.ub t.sa t.sb (by simpa using ha) (by simpa using hb) t.last;unfold vE;rw [F4,F4,ZY,ZY];exact this
def MA.pushB (t:Two U R a b){y:D4}(m:MA R a b ia ib out)(hy:b.toList[ib]? =zq y)(lt: ∀z,a.toList[ia]? =zq z->R y z=xb):MA R a b ia (ib+1) (out.push y):=by
 have:=MI.pushB m t.o t.ua t.ub t.sa t.sb hy lt;show MI R _ _ _ _ (out.push y).toList;rw [aK];exact this
def MA.pushA (t:Two U R a b){y:D4}(m:MA R a b ia ib out)(hy:a.toList[ia]? =zq y)(ge: ∀z,b.toList[ib]? =zq z->R z y=xf):MA R a b (ia+1) ib (out.push y):=by
 have:=MI.pushA m t.o t.ua t.ub t.sa t.sb hy ge;show MI R _ _ _ _ (out.push y).toList;rw [aK];exact this
def MA.manyA (t:Two U R a b)(m:MA R a b ia ib out)(k:P0)(hk:ia+k<=a.size)(h: ∀i,i<k-> ∀y,a.toList[ia+i]? =zq y-> ∀z,b.toList[ib]? =zq z->R z y=xf):MA R a b (ia+k) ib (out++a.extract ia (ia+k)):=by
 have:=MI.manyA t.o t.ua t.ub t.sa t.sb k m (by simpa using hk) h;show MI R _ _ _ _ (out++a.extract ia (ia+k)).toList;rw [F4,Gc];exact this
def MA.manyB (t:Two U R a b)(m:MA R a b ia ib out)(k:P0)(hk:ib+k<=b.size)(h: ∀i,i<k-> ∀y,b.toList[ib+i]? =zq y-> ∀z,a.toList[ia]? =zq z->R y z=xb):MA R a b ia (ib+k) (out++b.extract ib (ib+k)):=by
 have:=MI.manyB t.o t.ua t.ub t.sa t.sb k m (by simpa using hk) h;show MI R _ _ _ _ (out++b.extract ib (ib+k)).toList;rw [F4,Gc];exact this
end
variable {arr:T7 D4}{base:P0}
def yI {left:N3}{key x:D4}{i:P0}(h:arr.toList[base+i]? =zq x):Ĺ R left key arr base i=if left=xb then R x key else !R key x:=by
 unfold Ĺ;rw [<-C4,h]
def Wy {l:G0 D4}(s:á R l)(o:ã U R)(u: ∀x∈l,U x){i j:P0}{x y:D4}(hij:i<=j)(hx:l[i]? =zq x)(hy:l[j]? =zq y):R y x=xf:=by
 by_cases z:i=j
 ·subst z;rw [hx] at hy;injection hy with hy;subst hy
  exact o.refl (u x (P5 hx))
 ·obtain⟨h1,e1⟩:=P8.mp hx;obtain⟨h2,e2⟩:=P8.mp hy;have:=cP.mp s i j h1 h2 (by omega);rw [e1,e2] at this;exact this
def Wz {i:P0}(h:i<arr.size): ∃x,arr.toList[i]? =zq x/\arr[i]? =zq x:=⟨arr[i],by simp [h],by simp [h]⟩
def Kl {y:D4}{n hint:P0}{st:C5}{Q:P1 P0->C5->Prop}(ak:Ud prog w A J κ U R)(kd:kindOf st=κ)(o:ã U R)(u: ∀x∈arr.toList,U x)(s:á R arr.toList)(uy:U y)(hn:base+n<=arr.size)(hh:hint<n)
 (q: ∀k,k<=n->(∀i,i<k-> ∀x,arr.toList[base+i]? =zq x->R y x=xf)->(∀i,k<=i->i<n-> ∀x,arr.toList[base+i]? =zq x->R y x=xb)->Q (zq k) st):Tm prog w A E J (gal xf y arr base n hint) Q st:=by
 refine Rn ak kd uy (λi hi=> ?_) (λi j hij hj h=> ?_) hh (λk k1 k2 k3=>q k k1 (λi hi x hx=> ?_) (λi h1 h2 x hx=> ?_))
 ·obtain⟨x,lx,ex⟩:=Wz (show base+i<arr.size by omega);exact⟨x,ex,u x (P5 lx)⟩
 ·obtain⟨x,lx,_⟩:=Wz (show base+i<arr.size by omega);obtain⟨z,lz,_⟩:=Wz (show base+j<arr.size by omega);rw [yI lz] at h;rw [yI lx];have hz:R y z=xf:=by simpa using h
  have:=o.trans (u x (P5 lx)) (u z (P5 lz)) uy (Wy s o u (by omega) lx lz) hz;simp [this]
 ·have:=k2 i hi;rw [yI hx] at this;simpa using this
 ·have:=k3 i h1 h2;rw [yI hx] at this;simpa using this
def Km {y:D4}{n hint:P0}{st:C5}{Q:P1 P0->C5->Prop}(ak:Ud prog w A J κ U R)(kd:kindOf st=κ)(o:ã U R)(u: ∀x∈arr.toList,U x)(s:á R arr.toList)(uy:U y)(hn:base+n<=arr.size)(hh:hint<n)
 (q: ∀k,k<=n->(∀i,i<k-> ∀x,arr.toList[base+i]? =zq x->R x y=xb)->(∀i,k<=i->i<n-> ∀x,arr.toList[base+i]? =zq x->R x y=xf)->Q (zq k) st):Tm prog w A E J (gal xb y arr base n hint) Q st:=by
 refine Rn ak kd uy (λi hi=> ?_) (λi j hij hj h=> ?_) hh (λk k1 k2 k3=>q k k1 (λi hi x hx=> ?_) (λi h1 h2 x hx=> ?_))
 ·obtain⟨x,lx,ex⟩:=Wz (show base+i<arr.size by omega);exact⟨x,ex,u x (P5 lx)⟩
 ·obtain⟨x,lx,_⟩:=Wz (show base+i<arr.size by omega);obtain⟨z,lz,_⟩:=Wz (show base+j<arr.size by omega);rw [yI lz] at h;rw [yI lx];have hz:R z y=xb:=by simpa using h
  rcases o.neg z x y (u z (P5 lz)) (u x (P5 lx)) uy hz with v|v
  ·rw [Wy s o u (by omega) lx lz] at v;cases v
  ·simp [v]
 ·have:=k2 i hi;rw [yI hx] at this;simpa using this
 ·have:=k3 i h1 h2;rw [yI hx] at this;simpa using this
section
variable {σ α β γ:Type}{c:Prop}[Decidable c]{t e:W8 σ Sem α}{Q:α->σ->Prop}{st:σ}{x y:β}{z:γ}
def Tm.if2 (T:c->Tm prog w A E J t Q st)(F: ¬c->Tm prog w A E J e Q st):Tm prog w A E J (if c then t else e) Q st:=by
 split
 ·exact T ‹_›
 ·exact F ‹_›
def Tm.eq2 {x y:P0}(T:x=y->Tm prog w A E J t Q st)(F: ¬x=y->Tm prog w A E J e Q st):Tm prog w A E J (if (x==y)=xb then t else e) Q st:=
 .if2 (λh=>T (eq_of_beq h)) λh=>F λg=>h (beq_iff_eq.mpr g)
def Tm.both {f:β->W8 σ Sem α}(he:e=f y)(ht:t=f x)(H: ∀m,Tm prog w A E J (f m) Q st):Tm prog w A E J (if c then t else e) Q st:=by
 subst he ht;exact .if2 (λ_=>H _) λ_=>H _
def Tm.join {f:β->γ->W8 σ Sem α}{I:β->γ->Prop}(he:e=f x z)(G: ∀m o,I m o->Tm prog w A E J (f m o) Q st)(T:c->(∀m o,I m o->Tm prog w A E J (f m o) Q st)->Tm prog w A E J t Q st)(F: ¬c->I x z):Tm prog w A E J (if c then t else e) Q st:=by
 subst he;exact .if2 (λh=>T h G) λh=>G _ _ (F h)
end
def Sm {A B C D F:Type}{P:A×B×C×D×F->Prop}(h: ∀a b c d f,P (a,b,c,d,f)): ∀c,P c:=λc=>h c.1 c.2.1 c.2.2.1 c.2.2.2.1 c.2.2.2.2
def Sn {A B C D F G:Type}{P:A×B×C×D×F×G->Prop}(h: ∀a b c d f g,P (a,b,c,d,f,g)): ∀c,P c:=λc=>h c.1 c.2.1 c.2.2.1 c.2.2.2.1 c.2.2.2.2.1 c.2.2.2.2.2
def So {A B C D F G H:Type}{P:A×B×C×D×F×G×H->Prop}(h: ∀a b c d f g k,P (a,b,c,d,f,g,k)): ∀c,P c:=λc=>h c.1 c.2.1 c.2.2.1 c.2.2.2.1 c.2.2.2.2.1 c.2.2.2.2.2.1 c.2.2.2.2.2.2
def wW {a:T7 D4}(u: ∀x∈a.toList,U x){i:P0}(h:i<a.size){P:Prop}(q: ∀y,a[i]? =zq y->a.toList[i]? =zq y->U y->P):P:=q a[i] (by simp [h]) (by simp [h]) (u _ (by simp))
structure ŭ (R:D4->D4->N3)(a b:T7 D4)(st Ç:C5)(n:P0)(out:T7 D4)(ia ib:P0):Prop where
 g:Ŭ st Ç
 m:MA R a b ia ib out
 a:ia+1<a.size
 b:ib<b.size
 n:n<=ia+ib
def LoO (R:D4->D4->N3)(a b:T7 D4)(st Ç:C5)(n:P0)(r:P1 (T7 D4))(out:T7 D4)(ia ib:P0):Prop:=Ŭ st Ç/\match r with|some c=>vE R a b c|none=>ŭ R a b st Ç n out ia ib
section
variable {a b out:T7 D4}{st Ç:C5}{n k ia ib:P0}
def ŭ.more (h:ŭ R a b st Ç n out ia ib)(l:k<=n):ŭ R a b st Ç k out ia ib:=⟨h.g,h.m,h.a,h.b,M1 l h.n⟩
def ŭ.here (h:ŭ R a b st Ç n out ia ib):ŭ R a b st Ç (ia+ib) out ia ib:=⟨h.g,h.m,h.a,h.b,P7 _⟩
def ŭ.at {s:C5}(h:ŭ R a b st Ç n out ia ib)(g:Ŭ st s)(l:k<=n):ŭ R a b st s k out ia ib:=⟨g,h.m,h.a,h.b,M1 l h.n⟩
def ŭ.never {P:Prop}(h:ŭ R a b st Ç n out ia ib)(l:a.size+b.size<=n):P:=xj (M1 l h.n) (Nat.not_le_of_lt (Nat.add_lt_add (U8 h.a) h.b))
end
def EA {a b:T7 D4}{st:C5}{Q:T7 D4->C5->Prop}(ak:Ud prog w A J κ U R)(kd:kindOf st=κ)(t:Two U R a b)
 (na:1<=a.size)(nb:1<=b.size)(first: ∀y z,b.toList[0]? =zq y->a.toList[0]? =zq z->R y z=xb)
 (q: ∀c Ç,Ŭ st Ç->vE R a b c->Q c Ç):Tm prog w A E J (mLo a b) Q st:=by
 refine .bind (.rule (.bind (wW t.ub nb λb0 eb0 lb0 ub0=> .elem eb0 ?_)));have m0:MA R a b 0 1 #[b0]:=MA.pushB t (out:= #[]) (MI.start _ _) lb0 (λz hz=>first _ z lb0 hz);refine .eq2 (x:=1) (y:=b.size) (λz1=> .pure (q _ _ (Ŭ.refl st) (MA.done t m0 (B0 _) nb (.inr z1)))) λz1=> .eq2 (x:=0+1) (y:=a.size) (λz2=> .pure (q _ _ (Ŭ.refl st) (MA.lastA t m0 z2 nb))) λz2=> .bind (.get ?_)
 refine .bind (Tm.mono (Tm.range (λi c Ç=>ŭ R a b st Ç (i+1) c.2.1 c.2.2.1 c.2.2.2.1)
  (Q:=λc Ç=> ∃r,c.1=zq r/\Ŭ st Ç/\vE R a b r) (B0 _) ⟨Ŭ.refl st,m0,J7 na z2,J7 nb z1,P7 _⟩ ?_ ?_) ?_)
 ·intro i c st1 hi;revert c;refine Sm λr out ia ib mg h=> ?_
  refine .bind (Tm.mono (Tm.range (λj c Ç=>ŭ R a b st Ç (ia+ib+j) c.2.1 c.2.2.1 c.2.2.2.1)
   (Q:=λc Ç=>LoO R a b st Ç (ia+ib+1) c.1 c.2.1 c.2.2.1 c.2.2.2.1) (B0 _) h.here ?_ ?_) ?_)
  ·intro j c Œ hj;revert c;refine Sn λr out ja jb ac bc h=> ?_
   refine .bind (wW t.ub h.b λy ey ly uy=> .elem ey (.bind (wW t.ua (U8 h.a) λx ex lx ux=> .elem ex (.bind (.lt ak (h.g.1.trans kd) uy ux (.if2 (c:=R y x=xb) (λhb=> .bind (.elem ey ?_)) λhb=> .bind (.elem ex ?_)))))))
   ·have m1:=MA.pushB t h.m ly (λz hz=>by rw [lx] at hz;injection hz with hz;rw [<-hz];exact hb);refine .eq2 (x:=jb+1) (y:=b.size) (λc1=> .pure ⟨h.g,MA.done t m1 (T6 (U8 h.a)) h.b (.inr c1)⟩) λc1=> ?_
    have d:ŭ R a b st Œ (ia+ib+(j+1)) (out.push y) ja (jb+1):=⟨h.g,m1,h.a,J7 (fH h.b) c1,gM h.n⟩;exact .if2 (λ_=> .pure ⟨h.g,d.more (cQ (aD _ _) _)⟩) λ_=> .pure d
   ·have m1:=MA.pushA t h.m lx (λz hz=>by rw [ly] at hz;injection hz with hz;rw [<-hz];exact bT.mpr hb);refine .eq2 (x:=ja+1+1) (y:=a.size) (λc1=> .pure ⟨h.g,MA.lastA t m1 c1 (T6 h.b)⟩) λc1=> ?_
    have d:ŭ R a b st Œ (ia+ib+(j+1)) (out.push x) (ja+1) jb:=⟨h.g,m1,J7 (fH h.a) c1,h.b,M1 (gM h.n) (U6 (Nat.succ_add _ _).symm)⟩;exact .if2 (λ_=> .pure ⟨h.g,d.more (cQ (aD _ _) _)⟩) λ_=> .pure d
  ·exact λc Œ h=>h.never (aD _ _)
  ·intro c Œ;revert c;refine Sn λr out ja jb ac bc h'=> ?_
   cases r with
   |some r=>exact .pure ⟨r,rfl,h'⟩
   |none=>
   replace h':=h'.2
   refine .bind (.rule (.bind (Tm.mono (Tm.range (λj c Ç=>ŭ R a b st Ç (ja+jb+j) c.2.1 c.2.2.1 c.2.2.2.1)
    (Q:=λc Ç=>LoO R a b st Ç (ja+jb) c.1 c.2.1 c.2.2.1 c.2.2.2.1) (B0 _) h'.here ?_ ?_) ?_)))
   ·clear h;intro j c Œ hj;revert c;refine So λr out pa pb mg ac bc h=> ?_
    refine wW t.ub h.b λy ey ly uy=> ?_
    have g2:0<a.size-pa:=rB (U8 h.a);have g1:pa+(a.size-pa)<=a.size:=U6 (cR (T6 (U8 h.a)));refine Tm.both (y:=mg) (x:=mg-1) (by rfl) (by rfl) λmg=> ?_
    refine .bind (Tm.modify (.bind (.elem ey (.bind (Kl (base:=pa) (n:=a.size-pa) ak (h.g.1.trans kd) t.o t.ua t.sa uy g1 g2 λk k1 k2 k3=> ?_)))));refine Tm.join (I:=λo ia=>MA R a b ia pb o/\ia+1<a.size/\pa<=ia/\ ∀x,a.toList[ia]? =zq x->R y x=xb) (x:=out) (z:=pa) (by rfl) ?_ ?_ ?_
    ·refine λo qa i1=> ?_
     have M2:=MA.pushB t i1.1 ly i1.2.2.2;have p1:=U8 i1.2.1;refine .bind (.elem ey (.eq2 (x:=pb+1) (y:=b.size) (λc3=> .pure ⟨h.g,MA.done t M2 (T6 p1) (U6 c3) (.inr c3)⟩) λc3=> ?_));have c8:pb+1<b.size:=J7 (fH h.b) c3;have g2:=rB c8;refine .bind (wW t.ua p1 λx ex lx ux=> .elem ex (.bind (Km (base:=pb+1) (n:=b.size-(pb+1)) ak (h.g.1.trans kd) t.o t.ub t.sb ux (U6 (cR (T6 c8))) g2 λk' q1 q2 q3=> ?_)));dsimp only;generalize ep:pb+1=p2 at M2 q1 q2 q3 c8 g2 ⊢;generalize eo:o.push y=o2 at M2 ⊢;refine Tm.join (I:=λo ib=>MA R a b qa ib o/\ib<b.size/\p2<=ib/\ ∀x',b.toList[ib]? =zq x'->R x' x=xf) (x:=o2) (z:=p2) (by rfl) ?_ ?_ ?_
     ·refine λo qb i2=> ?_
      have M4:=MA.pushA t i2.1 lx i2.2.2.2;refine .bind (.elem ex (.eq2 (x:=qa+1+1) (y:=a.size) (λc5=> .pure ⟨h.g,MA.lastA t M4 c5 (T6 i2.2.1)⟩) λc5=> ?_));have n1:ja+jb+j<=pa+pb:=h.n;have n2:ja+jb+(j+1)<=qa+1+qb:=by have:=i1.2.2.1;have:=i2.2.2.1;omega
      have d:ŭ R a b st Œ (ja+jb+(j+1)) (o.push x) (qa+1) qb:=⟨h.g,M4,J7 (fH i1.2.1) c5,i2.2.1,n2⟩;exact .if2 (λ_=> .pure ⟨h.g,d.at h.g (aV _ _)⟩) λ_=> .pure (d.at h.g (P7 _))
     ·intro kz' H;have g3:p2+k'<=b.size:=M1 (cQ q1 _) (U6 (cR (T6 c8)));have M3:=MA.manyB t M2 k' g3 (λi hi y' hy z hz=>by rw [lx] at hz;injection hz with hz;rw [<-hz];exact q2 i hi y' hy);exact .eq2 (x:=p2+k') (y:=b.size) (λc4=> .pure ⟨h.g,MA.done t M3 (T6 p1) g3 (.inr c4)⟩) λc4=>H _ _ ⟨M3,J7 g3 c4,aV _ _,λz hz=>q3 k' (P7 _) (by omega) z hz⟩
     ·exact λkz'=>⟨M2,c8,P7 _,λz hz=>q3 0 (gI kz') g2 z hz⟩
    ·intro kz H;have g3:pa+k<=a.size:=M1 (cQ k1 _) g1;have m1:=MA.manyA t h.m k g3 (λi hi x hx z hz=>by rw [ly] at hz;injection hz with hz;rw [<-hz];exact k2 i hi x hx);exact .eq2 (x:=pa+k+1) (y:=a.size) (λc1=> .pure ⟨h.g,MA.lastA t m1 c1 (T6 h.b)⟩) λc1=> .eq2 (x:=pa+k) (y:=a.size) (λc2=> .pure ⟨h.g,MA.done t m1 g3 (T6 h.b) (.inl c2)⟩) λc2=>H _ _ ⟨m1,J7 (J7 g3 c2) c1,aV _ _,λx hx=>k3 k (P7 _) (by omega) x hx⟩
    ·exact λkz=>⟨h.m,h.a,P7 _,λx hx=>k3 0 (gI kz) g2 x hx⟩
   ·exact λc st3 h=>h.never (aD _ _)
   ·intro c st3;revert c;refine So λr out pa pb mg ac bc h3=> ?_
    cases r with
    |some r=>exact .pure ⟨r,rfl,h3⟩
    |none=>exact .bind (Tm.modify (.pure (h3.2.at h3.1 (M1 (gM h.n) h'.n))))
 ·exact λc st1 h=>h.never (aV _ _)
 ·intro c st1;revert c;refine Sm λr out ia ib mg h=> ?_
  obtain⟨c,rfl,gl,wh⟩:=h;exact .pure (q c st1 gl wh)
end
section
variable {prog:D5}{w:T8}{A:S4}{E:G1->G2->Prop}{J:G2->Prop}{κ:SortKind}{U:D4->Prop}{R:D4->D4->N3}
abbrev Flp (R:D4->D4->N3):D4->D4->N3:=λx y=>R y x
def ã.flip (o:ã U R):ã U (Flp R):=⟨λx y ux uy h=>o.asym y x uy ux h,λx y z ux uy uz h=>(o.neg z y x uz uy ux h).symm⟩
variable {l:G0 D4}
def zE (s:á R l):á (Flp R) l.reverse:=gA.mpr s
def Gd (s:á (Flp R) l):á R l.reverse:=gA.mpr s
variable {n:P0}
def Ro (h1:1<=n)(hn:n<=l.length):l.reverse[l.length-n]? =l[n-1]? :=by
 rw [bP (by omega)]
 congr 1;omega
def wv {z:D4}(hn:n<=l.length)(h:l.reverse[l.length-n]? =zq z):1<=n/\l[n-1]? =zq z:=by
 have:=(P8.mp h).1;rw [N6] at this;have n1:1<=n:=by omega
 exact⟨n1,by rw [<-Ro n1 hn];exact h⟩
def Jp (l:G0 D4){n:P0}(hn:n<=l.length):l.reverse.drop (l.length-n)=(l.take n).reverse:=by
 rw [List.drop_reverse]
 congr 2;omega
def MH (R:D4->D4->N3)(a b:T7 D4)(na nb:P0)(out:T7 D4):Prop:=MI (Flp R) b.toList.reverse a.toList.reverse (b.toList.length-nb) (a.toList.length-na) out.toList
structure ł (U:D4->Prop)(R:D4->D4->N3)(a b:T7 D4):Prop where
 o:ã U R
 ua: ∀x∈a.toList,U x
 ub: ∀x∈b.toList,U x
 sa:á R a.toList
 sb:á R b.toList
 first: ∀z∈a.toList,∀y,b.toList[0]? =zq y->R y z=xb
section
variable {a b out:T7 D4}{na nb:P0}
def ł.fa (t:ł U R a b): ∀x∈a.toList.reverse,U x:=λx hx=>t.ua x (K1.mp hx)
def ł.fb (t:ł U R a b): ∀x∈b.toList.reverse,U x:=λx hx=>t.ub x (K1.mp hx)
def MH.start (a b:T7 D4):MH R a b a.toList.length b.toList.length #[]:=by
 unfold MH;rw [m7,m7];exact MI.start _ _
def MH.pushA (t:ł U R a b){y:D4}(m:MH R a b na nb out)(h1:1<=na)(hn:na<=a.toList.length)(hb:nb<=b.toList.length)(hy:a.toList[na-1]? =zq y)(lt: ∀z,1<=nb->b.toList[nb-1]? =zq z->R z y=xb):MH R a b (na-1) nb (out.push y):=by
 have:=MI.pushB m t.o.flip t.fb t.fa (zE t.sb) (zE t.sa) (by rw [Ro h1 hn];exact hy) (λz hz=>lt z (wv hb hz).1 (wv hb hz).2);unfold MH;rw [aK,show a.toList.length-(na-1)=a.toList.length-na+1 by omega];exact this
def MH.pushB (t:ł U R a b){y:D4}(m:MH R a b na nb out)(h1:1<=nb)(hn:nb<=b.toList.length)(ha:na<=a.toList.length)(hy:b.toList[nb-1]? =zq y)(ge: ∀z,1<=na->a.toList[na-1]? =zq z->R y z=xf):MH R a b na (nb-1) (out.push y):=by
 have:=MI.pushA m t.o.flip t.fb t.fa (zE t.sb) (zE t.sa) (by rw [Ro h1 hn];exact hy) (λz hz=>ge z (wv ha hz).1 (wv ha hz).2);unfold MH;rw [aK,show b.toList.length-(nb-1)=b.toList.length-nb+1 by omega];exact this
def Jq (a:T7 D4)(n:P0):(a.extract 0 n).toList=a.toList.take n:=by
 rw [aM,Q7,i3,qV]
def MH.done (t:ł U R a b)(m:MH R a b na nb out)(ha:na<=a.toList.length)(hb:nb<=b.toList.length)(h:na=0\/nb=0):vE R a b (a.extract 0 na++b.extract 0 nb++out.reverse):=by
 have:=MI.done m t.o.flip t.fb t.fa (zE t.sb) (zE t.sa) (by rw [N6];omega) (by rw [N6];omega) (by rw [N6,N6];omega);rw [Jp _ ha,Jp _ hb] at this;have e:(a.extract 0 na++b.extract 0 nb++out.reverse).toList=(out.toList++(b.toList.take nb).reverse++(a.toList.take na).reverse).reverse:=by
  rw [F4,F4,Jq,Jq,g8];simp [D0]
 unfold vE;rw [e];refine⟨(U9 _).trans (this.1.trans ?_),Gd this.2⟩;exact(rY (U9 _) (U9 _)).trans bO
def MH.firstB (t:ł U R a b)(m:MH R a b na nb out)(ha:na<=a.toList.length)(hb:nb=1)(hb':1<=b.toList.length):vE R a b (b.extract 0 nb++a.extract 0 na++out.reverse):=by
 subst hb;have:=MI.lastA m t.o.flip t.fb t.fa (zE t.sb) (zE t.sa) (by rw [N6];omega) (by rw [N6];omega) (λz hz y hy=>by
  rw [N6] at hy;have:=(wv hb' hy).2;exact t.first z (K1.mp hz) y (by simpa using this))
 rw [Jp _ ha,Jp _ hb'] at this;have e:(b.extract 0 1++a.extract 0 na++out.reverse).toList=(out.toList++(a.toList.take na).reverse++(b.toList.take 1).reverse).reverse:=by
  rw [F4,F4,Jq,Jq,g8];simp [D0]
 unfold vE;rw [e];refine⟨(U9 _).trans (this.1.trans ?_),Gd this.2⟩;exact(rY (U9 _) (U9 _)).trans bO
def Ge (l:G0 D4){p n:P0}(h1:p<=n)(hn:n<=l.length):(l.reverse.drop (l.length-n)).take (n-p)=((l.drop p).take (n-p)).reverse:=by
 rw [Jp l hn,List.take_reverse,S1,oF,A7 hn,show n-(n-p)=p by omega]
def Rp (a:T7 D4){p n:P0}(h:p<=n):(a.extract p n).reverse.toList=((a.toList.drop p).take (n-p)).reverse:=by
 rw [g8,aM,Q7]
def MH.manyA (t:ł U R a b)(m:MH R a b na nb out)(p:P0)(hp:p<=na)(hn:na<=a.toList.length)(hb:nb<=b.toList.length)(h: ∀i,p<=i->i<na-> ∀y,a.toList[i]? =zq y-> ∀z,1<=nb->b.toList[nb-1]? =zq z->R z y=xb):MH R a b p nb (out++(a.extract p na).reverse):=by
 have:=MI.manyB t.o.flip t.fb t.fa (zE t.sb) (zE t.sa) (na-p) m (by rw [N6];omega) (λi hi y hy z hz=>by
  rw [bP (by omega)] at hy;exact h _ (by omega) (by omega) y hy z (wv hb hz).1 (wv hb hz).2)
 rw [Ge _ hp hn] at this;unfold MH;rw [F4,Rp _ hp,show a.toList.length-p=a.toList.length-na+(na-p) by omega];exact this
def MH.manyB (t:ł U R a b)(m:MH R a b na nb out)(p:P0)(hp:p<=nb)(hn:nb<=b.toList.length)(ha:na<=a.toList.length)(h: ∀i,p<=i->i<nb-> ∀y,b.toList[i]? =zq y-> ∀z,1<=na->a.toList[na-1]? =zq z->R y z=xf):MH R a b na p (out++(b.extract p nb).reverse):=by
 have:=MI.manyA t.o.flip t.fb t.fa (zE t.sb) (zE t.sa) (nb-p) m (by rw [N6];omega) (λi hi y hy z hz=>by
  rw [bP (by omega)] at hy;exact h _ (by omega) (by omega) y hy z (wv ha hz).1 (wv ha hz).2)
 rw [Ge _ hp hn] at this;unfold MH;rw [F4,Rp _ hp,show b.toList.length-p=b.toList.length-nb+(nb-p) by omega];exact this
end
def mHi:T7 D4->T7 D4->W8 C5 Sem (T7 D4):=sortPriv% PySem.Builtin.mergeHi
section
variable {arr:T7 D4}{y:D4}{n hint:P0}{st:C5}{Q:P1 P0->C5->Prop}
def TR (ak:Ud prog w A J κ U R)(kd:kindOf st=κ)(o:ã U R)(u: ∀x∈arr.toList,U x)(s:á R arr.toList)(uy:U y)(hn:n<=arr.size)(hh:hint<n)
 (q: ∀k,k<=n->(∀i,i<k-> ∀x,arr.toList[i]? =zq x->R y x=xf)->(∀i,k<=i->i<n-> ∀x,arr.toList[i]? =zq x->R y x=xb)->Q (zq k) st):Tm prog w A E J (gal xf y arr 0 n hint) Q st:=
 Kl ak kd o u s uy (by rw [cL];exact hn) hh λk h k2 k3=>q k h (λi hi x hx=>k2 i hi x (by rw [cL];exact hx)) λi hi hj x hx=>k3 i hi hj x (by rw [cL];exact hx)
def TU (ak:Ud prog w A J κ U R)(kd:kindOf st=κ)(o:ã U R)(u: ∀x∈arr.toList,U x)(s:á R arr.toList)(uy:U y)(hn:n<=arr.size)(hh:hint<n)
 (q: ∀k,k<=n->(∀i,i<k-> ∀x,arr.toList[i]? =zq x->R x y=xb)->(∀i,k<=i->i<n-> ∀x,arr.toList[i]? =zq x->R x y=xf)->Q (zq k) st):Tm prog w A E J (gal xb y arr 0 n hint) Q st:=
 Km ak kd o u s uy (by rw [cL];exact hn) hh λk h k2 k3=>q k h (λi hi x hx=>k2 i hi x (by rw [cL];exact hx)) λi hi hj x hx=>k3 i hi hj x (by rw [cL];exact hx)
end
structure Ŗ (R:D4->D4->N3)(a b:T7 D4)(st Ç:C5)(n N na nb:P0)(out:T7 D4):Prop where
 g:Ŭ st Ç
 m:MH R a b na nb out
 a':na<=a.size
 b':nb<=b.size
 a:1<=na
 b:2<=nb
 n:n+na+nb<=N
def HiO (R:D4->D4->N3)(a b:T7 D4)(st Ç:C5)(n N:P0)(r:P1 (T7 D4))(na nb:P0)(out:T7 D4):Prop:=Ŭ st Ç/\match r with|some c=>vE R a b c|none=>Ŗ R a b st Ç n N na nb out
section
variable {a b out:T7 D4}{st Ç s:C5}{n N k M na nb:P0}
def Ŗ.at (h:Ŗ R a b st Ç n N na nb out)(g:Ŭ st s)(l:n+na+nb<=N->k+na+nb<=M):Ŗ R a b st s k M na nb out:=⟨g,h.m,h.a',h.b',h.a,h.b,l h.n⟩
def Ŗ.here (h:Ŗ R a b st Ç n N na nb out):Ŗ R a b st Ç 0 (na+nb) na nb out:=h.at h.g λ_=>by omega
def Ŗ.never {P:Prop}(h:Ŗ R a b st Ç n N na nb out)(l:N<=n):P:=by have:=h.n;have:=h.a;omega
def Ŗ.le (h:Ŗ R a b st Ç n N na nb out):na+nb<=a.size+b.size:=Nat.add_le_add h.a' h.b'
def Ŗ.a1 (h:Ŗ R a b st Ç n N na nb out):na-1<a.size:=S8 (dL h.a cA) h.a'
def Ŗ.b1 (h:Ŗ R a b st Ç n N na nb out):nb-1<b.size:=S8 (dL (U8 h.b) cA) h.b'
end
def BZ (h:2<=n)(c: ¬n-1=1):2<=n-1:=by omega
def Rq (c: ¬n-1=0):1<=n-1:=dM c
def EB {a b:T7 D4}{st:C5}{Q:T7 D4->C5->Prop}(ak:Ud prog w A J κ U R)(kd:kindOf st=κ)(t:ł U R a b)
 (na:1<=a.size)(nb:1<=b.size)(last: ∀y z,b.toList[b.size-1]? =zq y->a.toList[a.size-1]? =zq z->R y z=xb)
 (q: ∀c Ç,Ŭ st Ç->vE R a b c->Q c Ç):Tm prog w A E J (mHi a b) Q st:=by
 refine .bind (.rule (.bind (wW t.ua (dL na cA) λa0 ea0 la0 ua0=> .elem ea0 ?_)));have m0:MH R a b (a.size-1) b.size #[a0]:=MH.pushA t (MH.start (R:=R) a b) na (P7 _) (P7 _) la0 (λz _ hz=>last z a0 hz la0);have n1:a.size-1<=a.size:=G0f _ _;refine .eq2 (x:=a.size-1) (y:=0) (λz1=> .pure (q _ _ (Ŭ.refl st) (MH.done t m0 n1 (P7 _) (.inl z1)))) λz1=> .eq2 (x:=b.size) (y:=1) (λz2=> .pure (q _ _ (Ŭ.refl st) (MH.firstB t m0 n1 z2 nb))) λz2=> .bind (.get ?_)
 refine .bind (Tm.mono (Tm.range (λi c Ç=>Ŗ R a b st Ç (i+1) (a.size+b.size) c.2.1 c.2.2.1 c.2.2.2.1)
  (Q:=λc Ç=> ∃r,c.1=zq r/\Ŭ st Ç/\vE R a b r) (B0 _) ⟨Ŭ.refl st,m0,n1,P7 _,Rq z1,by dsimp only;omega,by dsimp only;omega⟩ ?_ ?_) ?_)
 ·intro i c st1 hi;revert c;refine Sm λr ia ib out mg h=> ?_
  refine .bind (Tm.mono (Tm.range (λj c Ç=>Ŗ R a b st Ç j (ia+ib) c.2.1 c.2.2.1 c.2.2.2.1)
   (Q:=λc Ç=>HiO R a b st Ç 1 (ia+ib) c.1 c.2.1 c.2.2.1 c.2.2.2.1) (B0 _) h.here ?_ ?_) ?_)
  ·intro j c Œ hj;revert c;refine Sn λr ja jb out ac bc h=> ?_
   refine .bind (wW t.ub h.b1 λy ey ly uy=> .elem ey (.bind (wW t.ua h.a1 λx ex lx ux=> .elem ex (.bind (.lt ak (h.g.1.trans kd) uy ux (.if2 (c:=R y x=xb) (λhb=> .bind (.elem ex ?_)) λhb=> .bind (.elem ey ?_)))))))
   ·have m1:=MH.pushA t h.m h.a h.a' h.b' lx (λz _ hz=>by rw [ly] at hz;injection hz with hz;rw [<-hz];exact hb);refine .eq2 (x:=ja-1) (y:=0) (λc1=> .pure ⟨h.g,MH.done t m1 (T6 h.a1) h.b' (.inl c1)⟩) λc1=> ?_
    have d:Ŗ R a b st Œ (j+1) (ia+ib) (ja-1) jb (out.push x):=⟨h.g,m1,T6 h.a1,h.b',Rq c1,h.b,by have:j+ja+jb<=ia+ib:=h.n;have:1<=ja:=h.a;have:2<=jb:=h.b;omega⟩;exact .if2 (λ_=> .pure ⟨h.g,d.at h.g λ_=>by omega⟩) λ_=> .pure d
   ·have m1:=MH.pushB t h.m (T6 h.b) h.b' h.a' ly (λz _ hz=>by rw [lx] at hz;injection hz with hz;rw [<-hz];exact bT.mpr hb);refine .eq2 (x:=jb-1) (y:=1) (λc1=> .pure ⟨h.g,MH.firstB t m1 h.a' c1 nb⟩) λc1=> ?_
    have d:Ŗ R a b st Œ (j+1) (ia+ib) ja (jb-1) (out.push y):=⟨h.g,m1,h.a',T6 h.b1,h.a,BZ h.b c1,by have:j+ja+jb<=ia+ib:=h.n;have:1<=ja:=h.a;have:2<=jb:=h.b;omega⟩;exact .if2 (λ_=> .pure ⟨h.g,d.at h.g λ_=>by omega⟩) λ_=> .pure d
  ·exact λc Œ h'=>h'.never h.le
  ·intro c Œ;revert c;refine Sn λr ja jb out ac bc h'=> ?_
   cases r with
   |some r=>exact .pure ⟨r,rfl,h'⟩
   |none=>
   replace h':=h'.2
   refine .bind (.rule (.bind (Tm.mono (Tm.range (λj c Ç=>Ŗ R a b st Ç j (ja+jb) c.2.1 c.2.2.1 c.2.2.2.1)
    (Q:=λc Ç=>HiO R a b st Ç 0 (ja+jb) c.1 c.2.1 c.2.2.1 c.2.2.2.1) (B0 _) h'.here ?_ ?_) ?_)))
   ·clear h;intro j c Œ hj;revert c;refine So λr pa pb out mg ac bc h=> ?_
    refine wW t.ub h.b1 λy ey ly uy=> ?_
    refine Tm.both (y:=mg) (x:=mg-1) (by rfl) (by rfl) λmg=> ?_
    refine .bind (Tm.modify (.bind (.elem ey (.bind (TR (n:=pa) ak (h.g.1.trans kd) t.o t.ua t.sa uy h.a' (dL h.a cA) λk k1 k2 k3=> ?_)))));dsimp only;generalize eac:pa-k=ac;refine Tm.join (I:=λna o=>MH R a b na pb o/\1<=na/\na<=pa/\ ∀z,a.toList[na-1]? =zq z->R y z=xf) (x:=pa) (z:=out) (by rfl) ?_ ?_ ?_
    ·refine λqa o i1=> ?_
     have la:=M1 i1.2.2.1 h.a';have M2:=MH.pushB t i1.1 (T6 h.b) h.b' la ly (λz _ hz=>i1.2.2.2 z hz);refine .bind (.elem ey (.eq2 (x:=pb-1) (y:=1) (λc3=> .pure ⟨h.g,MH.firstB t M2 la c3 nb⟩) λc3=> ?_));have c8:=BZ h.b c3;have lb:=T6 h.b1;have n1:j+pa+pb<=ja+jb:=h.n;have n2:pb=pb-1+1:=(Nat.sub_add_cancel (T6 h.b)).symm;refine .bind (wW t.ua (S8 (dL i1.2.1 cA) la) λx ex lx ux=> .elem ex (.bind (TU (n:=pb-1) ak (h.g.1.trans kd) t.o t.ub t.sb ux lb (dL (U8 c8) cA) λk' q1 q2 q3=> ?_)));dsimp only;dsimp only at c8 lb;generalize ep:pb-1=p2 at M2 q1 q2 q3 c8 lb n2 ⊢;generalize eo:o.push y=o2 at M2 ⊢;generalize ebc:p2-k'=bc;refine Tm.join (I:=λnb o=>MH R a b qa nb o/\2<=nb/\nb<=p2/\ ∀z,b.toList[nb-1]? =zq z->R z x=xb) (x:=p2) (z:=o2) (by rfl) ?_ ?_ ?_
     ·refine λqb o i2=> ?_
      have lb':=M1 i2.2.2.1 lb;have M4:=MH.pushA t i2.1 i1.2.1 la lb' lx (λz _ hz=>i2.2.2.2 z hz);have la':=M1 (G0f qa 1) la;refine .bind (.elem ex (.eq2 (x:=qa-1) (y:=0) (λc5=> .pure ⟨h.g,MH.done t M4 la' lb' (.inl c5)⟩) λc5=> ?_));have n3:j+1+(qa-1)+qb<=ja+jb:=by have:=i1.2.1;have:=i1.2.2.1;have:=i2.2.2.1;omega
      have d:Ŗ R a b st Œ (j+1) (ja+jb) (qa-1) qb (o.push x):=⟨h.g,M4,la',lb',Rq c5,i2.2.1,n3⟩;exact .if2 (λ_=> .pure ⟨h.g,d.at h.g λ_=>by omega⟩) λ_=> .pure (d.at h.g id)
     ·intro kz' H;have M3:=MH.manyB t M2 k' q1 lb la (λi hi1 hi2 y' hy z hz1 hz=>by rw [lx] at hz;injection hz with hz;rw [<-hz];exact q3 i hi1 hi2 y' hy);exact .eq2 (x:=k') (y:=1) (λc4=> .pure ⟨h.g,MH.firstB t M3 la c4 nb⟩) λc4=> .eq2 (x:=k') (y:=0) (λc7=> .pure ⟨h.g,MH.done t M3 la (M1 q1 lb) (.inr c7)⟩) λc7=>H _ _ ⟨M3,by omega,q1,λz hz=>q2 (k'-1) (dL (dM c7) cA) z hz⟩
     ·exact λkz'=>⟨M2,c8,P7 _,λz hz=>q2 (p2-1) (by omega) z hz⟩
    ·intro kz H;have m1:=MH.manyA t h.m k k1 h.a' h.b' (λi hi1 hi2 x hx z hz1 hz=>by rw [ly] at hz;injection hz with hz;rw [<-hz];exact k3 i hi1 hi2 x hx);exact .eq2 (x:=k) (y:=0) (λc1=> .pure ⟨h.g,MH.done t m1 (M1 k1 h.a') h.b' (.inl c1)⟩) λc1=>H _ _ ⟨m1,dM c1,k1,λz hz=>k2 (k-1) (dL (dM c1) cA) z hz⟩
    ·exact λkz=>⟨h.m,h.a,P7 _,λz hz=>k2 (pa-1) (by have:1<=pa:=h.a;omega) z hz⟩
   ·exact λc st3 h=>h.never h'.le
   ·intro c st3;revert c;refine So λr pa pb out mg ac bc h3=> ?_
    cases r with
    |some r=>exact .pure ⟨r,rfl,h3⟩
    |none=>exact .bind (Tm.modify (.pure (h3.2.at h3.1 λl=>by have n1:i+1+ia+ib<=a.size+b.size:=h.n;have n2:1+ja+jb<=ia+ib:=h'.n;dsimp only at l ⊢;omega)))
 ·exact λc st1 h=>h.never (aV _ _)
 ·intro c st1;revert c;refine Sm λr ia ib out mg h=> ?_
  obtain⟨c,rfl,gl,wh⟩:=h;exact .pure (q c st1 gl wh)
end
section
variable {prog:D5}{w:T8}{A:S4}{E:G1->G2->Prop}{J:G2->Prop}{κ:SortKind}{U:D4->Prop}{R:D4->D4->N3}
def ä (l:G0 D4)(p n:P0):G0 D4:=(l.drop p).take n
variable {n:P0}
def YK {l:G0 D4}{p i:P0}(hi:i<n):(ä l p n)[i]? =l[p+i]? :=by
 unfold ä;rw [W6 hi,dN]
def WA {l:G0 D4}{p:P0}(h:p+n<=l.length):(ä l p n).length=n:=by
 unfold ä;rw [S1,C6];omega
def XY {l:G0 D4}{p:P0}{x:D4}(h:x∈ä l p n):x∈l:=A1 (L6 h)
def Kn {left:N3}{arr:T7 D4}{y:D4}{base hint:P0}{st:C5}{Q:P1 P0->C5->Prop}(ak:Ud prog w A J κ U R)(kd:kindOf st=κ)(o:ã U R)(u: ∀x∈arr.toList,U x)(s:á R (ä arr.toList base n))(uy:U y)(hn:base+n<=arr.size)(hh:hint<n)
 (q: ∀k,k<=n->(∀x∈(ä arr.toList base n).take k,(if left=xb then R x y else !R y x)=xb)->(∀x∈(ä arr.toList base n).drop k,(if left=xb then R x y else !R y x)=xf)->Q (zq k) st):Tm prog w A E J (gal left y arr base n hint) Q st:=by
 have ln:arr.toList.length=arr.size:=by simp
 have sl:(ä arr.toList base n).length=n:=WA (by omega);have us: ∀x∈ä arr.toList base n,U x:=λx hx=>u x (XY hx)
 refine Rn ak kd uy (λi hi=> ?_) (λi j hij hj h=> ?_) hh (λk k1 k2 k3=>q k k1 (λx hx=> ?_) (λx hx=> ?_))
 ·obtain⟨x,lx,ex⟩:=Wz (show base+i<arr.size by omega);exact⟨x,ex,u x (P5 lx)⟩
 ·obtain⟨x,lx,_⟩:=Wz (show base+i<arr.size by omega);obtain⟨z,lz,_⟩:=Wz (show base+j<arr.size by omega);have ux:=u x (P5 lx);have uz:=u z (P5 lz);have le:=Wy s o us hij (by rw [YK (by omega)];exact lx) (by rw [YK hj];exact lz);rw [yI lz] at h;rw [yI lx];cases left with
  |true=>
   have hz:R z y=xb:=by simpa using h
   rcases o.neg z x y uz ux uy hz with v|v
   ·rw [le] at v;cases v
   ·simp [v]
  |false=>
   have hz:R y z=xf:=by simpa using h
   have:=o.trans ux uz uy le hz;simp [this]
 ·obtain⟨i,hi,e⟩:=Y1 hx;rw [S1,sl] at hi;have lx:arr.toList[base+i]? =zq x:=by
   rw [<-YK (n:=n) (by omega),G5 (by omega),<-e,rC]
  have:=k2 i (by omega);rw [yI lx] at this;exact this
 ·obtain⟨i,hi,e⟩:=Y1 hx;rw [C6,sl] at hi;have lx:arr.toList[base+(k+i)]? =zq x:=by
   rw [<-YK (n:=n) (by omega),G5 (by omega),<-e,rD]
  have:=k3 (k+i) (by omega) (by omega);rw [yI lx] at this;exact this
theorem Gf: ∀ (m:G0 D4) (arr:T7 D4) (p d:P0),p+d+m.length<=arr.size->((m.zipIdx d).foldl (λ(c:T7 D4) (x:D4×P0)=>c.setIfInBounds (p+x.2) x.1) arr).toList=arr.toList.take (p+d)++m++arr.toList.drop (p+d+m.length)
 | [],arr,p,d,_=>by simp
 |x::m,arr,p,d,h=>by
  rw [D8] at h;rw [List.zipIdx_cons,sQ];rw [Gf m _ p (d+1) (by rw [lW];omega)];have hl:arr.toList.length=arr.size:=by simp
  rw [i8];have e1:(arr.toList.set (p+d) x).take (p+(d+1))=arr.toList.take (p+d)++ [x]:=by
   rw [show p+(d+1)=p+d+1 by omega,L5,Y2 (by omega)];rw [List.take_set_of_le (P7 _)];rfl
  have e2:(arr.toList.set (p+d) x).drop (p+(d+1)+m.length)=arr.toList.drop (p+d+(m.length+1)):=by
   rw [List.drop_set_of_lt (by omega),show p+(d+1)+m.length=p+d+(m.length+1) by omega]
  rw [e1,e2,D8];simp [D0]
end
section
variable {prog:D5}{w:T8}{A:S4}{E:G1->G2->Prop}{J:G2->Prop}{κ:SortKind}{U:D4->Prop}{R:D4->D4->N3}
def Tm.set {σ:Type}{st Ç:σ}{Q:PUnit->σ->Prop}(q:Q ⟨⟩ Ç):Tm prog w A E J (MonadStateOf.set Ç:W8 σ Sem PUnit) Q st:=λs j=>by
 show D6 _ _ ((StateT.set Ç:W8 σ Sem PUnit).run st) _ _ _;exact G8 ⟨q,j⟩
def Rr (a:T7 D4){p n:P0}(h:p<=n):(a.extract p n).toList=ä a.toList p (n-p):=by
 rw [aM,Q7];rfl
def Rs (o:ã U R){l:G0 D4}(u: ∀x∈l,U x)(s:á R l){z:D4}(hz:l[l.length-1]? =zq z){x:D4}(hx:x∈l):R z x=xf:=by
 obtain⟨i,hi,e⟩:=Y1 hx;exact Wy s o u (show i<=l.length-1 by omega) (by rw [G5 hi,e]) hz
def Gg (o:ã U R){l:G0 D4}(u: ∀x∈l,U x)(s:á R l){z:D4}(hz:l[0]? =zq z){x:D4}(hx:x∈l):R x z=xf:=by
 obtain⟨i,hi,e⟩:=Y1 hx;exact Wy s o u (B0 _) hz (by rw [G5 hi,e])
def WB (o:ã U R){X Y c:G0 D4}{k k2:P0}{y0 x9:D4}(uX: ∀x∈X,U x)(uY: ∀x∈Y,U x)(sX:á R X)(sY:á R Y)(hy:Y[0]? =zq y0)(hx:X[X.length-1]? =zq x9)
 (f1: ∀x∈X.take k,R y0 x=xf)(g2: ∀y∈Y.drop k2,R y x9=xf)(hp:c.Perm (X.drop k++Y.take k2))(sc:á R c):(X.take k++c++Y.drop k2).Perm (X++Y)/\á R (X.take k++c++Y.drop k2):=by
 have uy0:=uY y0 (P5 hy);have ux9:=uX x9 (P5 hx);constructor
 ·have e:X++Y=X.take k++(X.drop k++Y.take k2)++Y.drop k2:=by
   rw [<-D0,M7,D0,M7]
  rw [e];exact(hp.append_left _).append_right _
 ·have inX: ∀x∈X.take k,∀z∈X.drop k,R z x=xf:=λx hx z hz=>by
   have:á R (X.take k++X.drop k):=by rw [M7];exact sX
   exact(B1.mp this).2.2 x hx z hz
  have inY: ∀x∈Y.take k2,∀z∈Y.drop k2,R z x=xf:=λx hx z hz=>by
   have:á R (Y.take k2++Y.drop k2):=by rw [M7];exact sY
   exact(B1.mp this).2.2 x hx z hz
  have xy: ∀x∈X.take k,∀y∈Y,R y x=xf:=λx hx y χ=>o.trans (uX x (L6 hx)) uy0 (uY y χ) (f1 x hx) (Gg o uY sY hy χ)
  have yx: ∀x∈X,∀y∈Y.drop k2,R y x=xf:=λx ğ y χ=>o.trans (uX x ğ) ux9 (uY y (A1 χ)) (Rs o uX sX hx ğ) (g2 y χ)
  have xc: ∀x∈X.take k,∀z∈c,R z x=xf:=λx hx z hz=>by
   rcases D9.mp (hp.mem_iff.mp hz) with v|v
   ·exact inX x hx z v
   ·exact xy x hx z (L6 v)
  refine B1.mpr ⟨B1.mpr ⟨sX.sublist (Q9 _ _),sc,xc⟩,sY.sublist (U7 _ _),λx hx y hy=> ?_⟩;rcases D9.mp hx with v|v
  ·exact xy x v y (A1 hy)
  ·rcases D9.mp (hp.mem_iff.mp v) with v|v
   ·exact yx x (A1 v) y hy
   ·exact inY x v y hy
def UL (l:G0 D4){p n m:P0}:l=l.take p++(ä l p n++ä l (p+n) m)++l.drop (p+n+m):=by
 unfold ä;have e1:(l.drop (p+n)).take m++l.drop (p+n+m)=l.drop (p+n):=by
  rw [show l.drop (p+n+m)=(l.drop (p+n)).drop m by rw [Z0],M7]
 have e2:(l.drop p).take n++l.drop (p+n)=l.drop p:=by
  rw [show l.drop (p+n)=(l.drop p).drop n by rw [Z0],M7]
 rw [D0,D0,e1,e2,M7]
def EC {st:C5}{Q:N3->C5->Prop}{i sa na pw sb nb pw2:P0}(ak:Ud prog w A J κ U R)(kd:kindOf st=κ)(o:ã U R)(u: ∀x∈(T4 st).toList,U x)(p1:(B2 st)[i]? =zq (sa,na,pw))(p2:(B2 st)[i+1]? =zq (sb,nb,pw2))
 (hs:sa+na=sb)(n1:1<=na)(n2:1<=nb)(hz:sb+nb<=(T4 st).size)(s1:á R (ä (T4 st).toList sa na))(s2:á R (ä (T4 st).toList sb nb))(hf:aL st=xa)
 (q: ∀Ç Z,kindOf Ç=κ->aL Ç=xa->B2 Ç=((B2 st).setIfInBounds i (sa,na+nb,pw)).eraseIdxIfInBounds (i+1)->(T4 Ç).toList=(T4 st).toList.take sa++Z++(T4 st).toList.drop (sb+nb)->Z.Perm (ä (T4 st).toList sa na++ä (T4 st).toList sb nb)->á R Z->Q xb Ç):
 Tm prog w A E J (IL i) Q st:=by
 have ln:(T4 st).toList.length=(T4 st).size:=by simp
 unfold IL;refine .bind (.get ?_);dsimp only;rw [p1,p2];dsimp only;refine .bind (Tm.set ?_);subst hs;have lX:(ä (T4 st).toList sa na).length=na:=WA (by omega);have lY:(ä (T4 st).toList (sa+na) nb).length=nb:=WA (by omega);have uX: ∀x∈ä (T4 st).toList sa na,U x:=λx hx=>u x (XY hx)
 have uY: ∀x∈ä (T4 st).toList (sa+na) nb,U x:=λx hx=>u x (XY hx)
 obtain⟨y0,ly0,ey0⟩:=Wz (arr:=T4 st) (show sa+na<(T4 st).size by omega);obtain⟨x9,lx9,ex9⟩:=Wz (arr:=T4 st) (show sa+(na-1)<(T4 st).size by omega);have hy:(ä (T4 st).toList (sa+na) nb)[0]? =zq y0:=by rw [YK (by omega)];exact ly0
 have hx:(ä (T4 st).toList sa na)[(ä (T4 st).toList sa na).length-1]? =zq x9:=by rw [lX,YK (by omega)];exact lx9
 have uy0:=u y0 (P5 ly0);have ux9:=u x9 (P5 lx9);have c3:=UL (T4 st).toList (p:=sa) (n:=na) (m:=nb);have same: ∀ (Ç:C5),T4 Ç=T4 st-> ∀k k2,(∀x∈(ä (T4 st).toList sa na).take k,R y0 x=xf)->(∀y∈(ä (T4 st).toList (sa+na) nb).drop k2,R y x9=xf)->(na<=k\/k2=0)->á R (ä (T4 st).toList sa na++ä (T4 st).toList (sa+na) nb):=λÇ e k k2 f1 g2 h=>by
  have pl:(((ä (T4 st).toList sa na).drop k++(ä (T4 st).toList (sa+na) nb).take k2)).Perm ((ä (T4 st).toList sa na).drop k++(ä (T4 st).toList (sa+na) nb).take k2):= .refl _;have sc:á R ((ä (T4 st).toList sa na).drop k++(ä (T4 st).toList (sa+na) nb).take k2):=by
   rcases h with h|h
   ·rw [A9 (by omega),O2];exact s2.sublist (Q9 _ _)
   ·rw [h,fE,A5];exact s1.sublist (U7 _ _)
  have:=(WB o uX uY s1 s2 hy hx f1 g2 pl sc).2;rw [<-D0,M7,D0,M7] at this;exact this
 refine .bind (.elem ey0 (.bind (Kn (left:=xf) ak kd o u s1 uy0 (show sa+na<=(T4 st).size by omega) (by omega) λk k1 f1 f2=> ?_)));have f1: ∀x∈(ä (T4 st).toList sa na).take k,R y0 x=xf:=λx hx=>by simpa using f1 x hx
 have f2: ∀x∈(ä (T4 st).toList sa na).drop k,R y0 x=xb:=λx hx=>by simpa using f2 x hx
 dsimp only
 by_cases z1:na-k=0
 ·rw [S5 (by simpa using z1)];refine .pure (q _ (ä (T4 st).toList sa na++ä (T4 st).toList (sa+na) nb) kd hf rfl c3 (.refl _) (same st rfl k nb f1 (λy hy=> ?_) (.inl (by omega))));rw [A9 (by omega)] at hy;cases hy
 rw [R9 (by simpa using z1)];refine .bind (.elem (show _=zq x9 by rw [show sa+k+(na-k)-1=sa+(na-1) by omega];exact ex9) (.bind (Kn (left:=xb) ak kd o u s2 ux9 (show sa+na+nb<=(T4 st).size by omega) (by omega) λk2 j1 g1 g2=> ?_)));have g1: ∀y∈(ä (T4 st).toList (sa+na) nb).take k2,R y x9=xb:=λx hx=>by simpa using g1 x hx
 have g2: ∀y∈(ä (T4 st).toList (sa+na) nb).drop k2,R y x9=xf:=λx hx=>by simpa using g2 x hx
 dsimp only
 by_cases z2:k2=0
 ·rw [S5 (by simpa using z2)];exact .pure (q _ _ kd hf rfl c3 (.refl _) (same st rfl k k2 f1 g2 (.inr z2)))
 rw [R9 (by simpa using z2)];have eX:((T4 st).extract (sa+k) (sa+na)).toList=(ä (T4 st).toList sa na).drop k:=by
  rw [Rr _ (by omega)];unfold ä;rw [oF,Z0,show sa+na-(sa+k)=na-k by omega]
 have eY:((T4 st).extract (sa+na) (sa+na+k2)).toList=(ä (T4 st).toList (sa+na) nb).take k2:=by
  rw [Rr _ (by omega)];unfold ä;rw [oG,show sa+na+k2-(sa+na)=min k2 nb by omega]
 have sx:((T4 st).extract (sa+k) (sa+na)).size=na-k:=by rw [<-N0,eX,C6,lX]
 have sy:((T4 st).extract (sa+na) (sa+na+k2)).size=k2:=by rw [<-N0,eY,S1,lY];omega
 have hx2: ∀z,((ä (T4 st).toList sa na).drop k)[((ä (T4 st).toList sa na).drop k).length-1]? =zq z->z=x9:=λz ŏ=>by
  rw [C6,dN,lX,show k+(na-k-1)=na-1 by omega] at ŏ;rw [lX] at hx;rw [hx] at ŏ;injection ŏ with ŏ;exact ŏ.symm
 have hy2: ∀z,((ä (T4 st).toList (sa+na) nb).take k2)[0]? =zq z->z=y0:=λz ŏ=>by
  rw [W6 (by omega),hy] at ŏ;injection ŏ with ŏ;exact ŏ.symm
 have put: ∀c:T7 D4,vE R ((T4 st).extract (sa+k) (sa+na)) ((T4 st).extract (sa+na) (sa+na+k2)) c->(c.toList.zipIdx.foldl (λ(d:T7 D4) (x:D4×P0)=>d.setIfInBounds (sa+k+x.2) x.1) (T4 st)).toList=(T4 st).toList.take sa++((ä (T4 st).toList sa na).take k++c.toList++(ä (T4 st).toList (sa+na) nb).drop k2)++(T4 st).toList.drop (sa+na+nb):=λc wh=>by
  have lc:c.toList.length=na-k+k2:=by
   rw [wh.1.length_eq,P3,N0,N0,sx,sy]
  have:=Gf c.toList (T4 st) (sa+k) 0 (by omega);rw [this,lc,m8,show sa+k+(na-k+k2)=sa+na+k2 by omega];have e1:(T4 st).toList.take (sa+k)=(T4 st).toList.take sa++(ä (T4 st).toList sa na).take k:=by
   unfold ä;rw [oG,A7 k1,List.take_add]
  have e2:(T4 st).toList.drop (sa+na+k2)=(ä (T4 st).toList (sa+na) nb).drop k2++(T4 st).toList.drop (sa+na+nb):=by
   unfold ä;have h1:((T4 st).toList.drop (sa+na)).drop k2=(((T4 st).toList.drop (sa+na)).take nb++((T4 st).toList.drop (sa+na)).drop nb).drop k2:=by rw [M7]
   rw [W9 (by rw [S1,C6];omega),Z0,Z0] at h1;exact h1
  rw [e1,e2];simp [D0]
 have jr: ∀c:T7 D4,vE R ((T4 st).extract (sa+k) (sa+na)) ((T4 st).extract (sa+na) (sa+na+k2)) c->_:=λc wh=>WB o (c:=c.toList) uX uY s1 s2 hy hx f1 g2 (by have:=wh.1;rw [eX,eY] at this;exact this) wh.2
 by_cases z3:na-k<=k2
 ·rw [S5 z3];refine .bind (EA ak kd ⟨o,λx hx=> ?_,λx hx=> ?_,?_,?_,λy hy z ŏ=> ?_⟩ (by rw [sx];omega) (by rw [sy];omega) (λy z χ ŏ=> ?_) λc Ç gl wh=> .bind (Tm.modify (.bind (.get (.pure ?_)))))
  ·rw [eX] at hx;exact uX x (A1 hx)
  ·rw [eY] at hx;exact uY x (L6 hx)
  ·rw [eX];exact s1.sublist (U7 _ _)
  ·rw [eY];exact s2.sublist (Q9 _ _)
  ·rw [eY] at hy;rw [eX] at ŏ;rw [hx2 z ŏ];exact g1 y hy
  ·rw [eY] at χ;rw [eX] at ŏ;rw [hy2 y χ];exact f2 z (P5 ŏ)
  ·have e:aL Ç=xa:=gl.2.2.2.trans hf;show Q (aL Ç).isNone _;rw [e];refine q _ _ (gl.1.trans kd) e gl.2.2.1 ?_ (jr c wh).1 (jr c wh).2;have ea:T4 Ç=T4 st:=gl.2.1;show (c.toList.zipIdx.foldl _ (T4 Ç)).toList=_;rw [ea];exact put c wh
 ·rw [R9 z3];refine .bind (EB ak kd ⟨o,λx hx=> ?_,λx hx=> ?_,?_,?_,λz ŏ y χ=> ?_⟩ (by rw [sx];omega) (by rw [sy];omega) (λy z χ ŏ=> ?_) λc Ç gl wh=> .bind (Tm.modify (.bind (.get (.pure ?_)))))
  ·rw [eX] at hx;exact uX x (A1 hx)
  ·rw [eY] at hx;exact uY x (L6 hx)
  ·rw [eX];exact s1.sublist (U7 _ _)
  ·rw [eY];exact s2.sublist (Q9 _ _)
  ·rw [eY] at χ;rw [eX] at ŏ;rw [hy2 y χ];exact f2 z ŏ
  ·rw [eY] at χ;rw [eX,sx] at ŏ;have:=hx2 z (by rw [C6,lX];exact ŏ);rw [this];exact g1 y (P5 χ)
  ·have e:aL Ç=xa:=gl.2.2.2.trans hf;show Q (aL Ç).isNone _;rw [e];refine q _ _ (gl.1.trans kd) e gl.2.2.1 ?_ (jr c wh).1 (jr c wh).2;have ea:T4 Ç=T4 st:=gl.2.1;show (c.toList.zipIdx.foldl _ (T4 Ç)).toList=_;rw [ea];exact put c wh
end
section
variable {prog:D5}{w:T8}{A:S4}{E:G1->G2->Prop}{J:G2->Prop}{κ:SortKind}{U:D4->Prop}{R:D4->D4->N3}
def å (st:C5)(P Z S:G0 D4):Prop:=(T4 st).toList=P++Z++S
def ź (st Ç:C5):Prop:=kindOf Ç=kindOf st/\B2 Ç=B2 st/\aL Ç=aL st/\gallopOf Ç=gallopOf st
def ź.refl (st:C5):ź st st:=⟨rfl,rfl,rfl,rfl⟩
def NF (xs:T7 D4)(P Z S:G0 D4)(h:xs.toList=P++Z++S):(mirror xs P.length (P.length+Z.length) ((P.length+Z.length-P.length) / 2)).toList=P++Z.reverse++S:=by
 have hl:xs.size=P.length+Z.length+S.length:=by rw [<-N0,h];simp [l8]
 refine fJ λk=> ?_
 rw [C4,getElem?_mirror_all (by omega)]
 by_cases c:P.length<=k/\k<P.length+Z.length
 ·rw [S5 c,<-C4,h,D0,D0];have e1:(P++(Z++S))[P.length+(P.length+Z.length)-1-k]? =Z[P.length+Z.length-1-k]? :=by
   rw [N4 (by omega),C7 (by omega)]
   congr 1;omega
  have e2:(P++(Z.reverse++S))[k]? =Z[P.length+Z.length-1-k]? :=by
   rw [N4 (by omega),C7 (by rw [N6];omega),bP (by omega)]
   congr 1;omega
  rw [e1,e2]
 ·rw [R9 c,<-C4,h,D0,D0]
  by_cases d:k<P.length
  ·rw [C7 d,C7 d]
  ·have e1:(P++(Z++S))[k]? =S[k-P.length-Z.length]? :=by
    rw [N4 (by omega),N4 (by omega)]
   have e2:(P++(Z.reverse++S))[k]? =S[k-P.length-Z.length]? :=by
    rw [N4 (by omega),N4 (by rw [N6];omega),N6]
   rw [e1,e2]
def Tm.rev {st:C5}{P Z S:G0 D4}{i j:P0}{Q:Unit->C5->Prop}(h:å st P Z S)(hi:i=P.length)(hj:j=P.length+Z.length)(q: ∀Ç,ź st Ç->å Ç P Z.reverse S->Q () Ç):Tm prog w A E J (v6 i j) Q st:=by
 rw [reverseSlice'_eq];subst hi hj;exact .modify (q _ ⟨rfl,rfl,rfl,rfl⟩ (NF _ P Z S h))
def Tm.ltAt {st:C5}{x y:D4}{i j:P0}{Q:P1 N3->C5->Prop}(ak:Ud prog w A J κ U R)(kd:kindOf st=κ)(hx:(T4 st).toList[i]? =zq x)(hy:(T4 st).toList[j]? =zq y)(ux:U x)(uy:U y)(q:Q (zq (R x y)) st):Tm prog w A E J (ltAt' i j) Q st:=by
 rw [ltAt'_eq];exact .bind (.get (.bind (.elem (by rw [<-C4];exact hx) (.bind (.elem (by rw [<-C4];exact hy) (.lt ak kd ux uy q))))))
abbrev Dsc (R:D4->D4->N3)(l:G0 D4):Prop:=l.Pairwise λx y=>R x y=xf
def Lg {l:G0 D4}(d:Dsc R l):á R l.reverse:=gA.mpr d
def NG (o:ã U R){l:G0 D4}{x y:D4}(u: ∀z∈l++ [x],U z)(uy:U y)(s:á R (l++ [x]))(h:R y x=xf):á R (l++ [x]++ [y]):=by
 refine B1.mpr ⟨s,E5 _ _,λz hz v hv=> ?_⟩;rw [P2.mp hv];have ux:=u x (by simp);rcases D9.mp hz with w|w
 ·exact o.trans (u z hz) ux uy ((B1.mp s).2.2 z w x (by simp)) h
 ·rw [P2.mp w];exact h
def NH {l m:G0 D4}(s:Dsc R (l++m))(alike: ∀x∈m,∀y∈m,R x y=xf):Dsc R (l++m.reverse):=by
 obtain⟨a,b,c⟩:=B1.mp s;refine B1.mpr ⟨a,?_,λx hx y hy=>c x hx y (K1.mp hy)⟩;rw [cP];intro i j hi hj _;exact alike _ (K1.mp (N9 hi)) _ (K1.mp (N9 hj))
end
section
variable {prog:D5}{w:T8}{A:S4}{E:G1->G2->Prop}{J:G2->Prop}{κ:SortKind}{U:D4->Prop}{R:D4->D4->N3}
def ź.trans {a b c:C5}(x:ź a b)(y:ź b c):ź a c:=⟨y.1.trans x.1,y.2.1.trans x.2.1,y.2.2.1.trans x.2.2.1,y.2.2.2.trans x.2.2.2⟩
variable {P Z:G0 D4}
def å.rest {st:C5}{S:G0 D4}(h:å st P Z S){i:P0}:(T4 st).toList[P.length+Z.length+i]? =S[i]? :=by
 rw [h,N4 (by rw [P3];omega),P3]
 congr 1;omega
def å.end {st:C5}{W S:G0 D4}{x:D4}(h:å st P (W++ [x]) S):(T4 st).toList[P.length+W.length]? =zq x:=by
 rw [h,D0,N4 (by omega),D0,N4 (by omega)];simp
def YL {l:G0 D4}(h:1<=l.length): ∃W x,l=W++ [x]:=by
 rcases List.eq_nil_or_concat l with e|⟨W,x,e⟩
 ·subst e;simp at h
 ·exact⟨W,x,by rw [e,List.concat_eq_append]⟩
structure Ę (R:D4->D4->N3)(T Z1 Z2:G0 D4)(n:P0):Prop where
 len:(Z1++Z2).length=n
 perm:(Z1++Z2).Perm (T.take n)
 dsc:Dsc R (Z1++Z2)
 alike: ∀x∈Z2,∀y∈Z2,R x y=xf
 ne:1<=Z2.length
variable {T:G0 D4}{n:P0}
def Ę.turn {Z1 Z2:G0 D4}(f:Ę R T Z1 Z2 n):Ę R T Z1 Z2.reverse n:=
 ⟨by have:=f.len;simp only [P3,N6] at this ⊢;exact this,((U9 Z2).append_left Z1).trans f.perm,NH f.dsc f.alike,λx hx y hy=>f.alike x (K1.mp hx) y (K1.mp hy),by rw [N6];exact f.ne⟩
def Ę.mem {Z1 Z2:G0 D4}(f:Ę R T Z1 Z2 n){x:D4}(h:x∈Z1++Z2):x∈T:=L6 (f.perm.mem_iff.mp h)
def Jr {y:D4}(h:Z.Perm (T.take n))(hy:T[n]? =zq y):(Z++ [y]).Perm (T.take (n+1)):=by
 rw [Wx hy];exact h.append_right _
def Ę.below (o:ã U R){T Z1 Z2:G0 D4}{n:P0}{x y:D4}(u: ∀x∈T,U x)(f:Ę R T Z1 Z2 n)(hx:x∈Z2)(hy:T[n]? =zq y)(h:R y x=xb):Ę R T (Z1++Z2) [y] (n+1):=by
 have uy:=u y (P5 hy);have ux:=u x (f.mem (D9.mpr (.inr hx)));have xy:=o.asym y x uy ux h;refine⟨by rw [P3,f.len];rfl,Jr f.perm hy,?_,λa ha b hb=> ?_,by simp⟩
 ·refine B1.mpr ⟨f.dsc,E5 _ _,λz hz v hv=> ?_⟩;rw [P2.mp hv];have uz:=u z (f.mem hz);have zx:R z x=xf:=by
   rcases D9.mp hz with w|w
   ·exact(B1.mp f.dsc).2.2 z w x hx
   ·exact f.alike z w x hx
  exact o.trans uy ux uz xy zx
 ·rw [P2.mp ha,P2.mp hb];exact o.refl uy
def Ę.like (o:ã U R){T Z1 Z2:G0 D4}{n:P0}{x y:D4}(u: ∀x∈T,U x)(f:Ę R T Z1 Z2 n)(hx:x∈Z2)(hy:T[n]? =zq y)(h:R y x=xf)(h':R x y=xf):Ę R T Z1 (Z2++ [y]) (n+1):=by
 have uy:=u y (P5 hy);have ux:=u x (f.mem (D9.mpr (.inr hx)));have zy: ∀z∈Z1++Z2,R z y=xf:=λz hz=>by
  have uz:=u z (f.mem hz);have zx:R z x=xf:=by
   rcases D9.mp hz with w|w
   ·exact(B1.mp f.dsc).2.2 z w x hx
   ·exact f.alike z w x hx
  exact o.trans uy ux uz h' zx
 have yz: ∀z∈Z2,R y z=xf:=λz hz=>o.trans (u z (f.mem (D9.mpr (.inr hz)))) ux uy (f.alike x hx z hz) h
 refine⟨by rw [<-D0,P3,f.len];rfl,by rw [<-D0];exact Jr f.perm hy,?_,λa ha b hb=> ?_,by simp⟩
 ·rw [<-D0];refine B1.mpr ⟨f.dsc,E5 _ _,λz hz v hv=> ?_⟩;rw [P2.mp hv];exact zy z hz
 ·rcases D9.mp ha with p|p<;>rcases D9.mp hb with r|r
  ·exact f.alike a p b r
  ·rw [P2.mp r];exact zy a (D9.mpr (.inr p))
  ·rw [P2.mp p];exact yz b r
  ·rw [P2.mp p,P2.mp r];exact o.refl uy
def å.more {st:C5}{m:P0}{y:D4}(L:å st P Z (T.drop m))(hy:T[m]? =zq y):å st P (Z++ [y]) (T.drop (m+1)):=by
 unfold å at L ⊢;rw [L,zB hy];simp
def å.part {st:C5}{Z1 Z2 S:G0 D4}:å st P (Z1++Z2) S↔å st (P++Z1) Z2 S:=by
 unfold å;simp only [D0]
def å.two {st:C5}{m:P0}{y:D4}(L:å st P Z (T.drop m))(lz:Z.length=m)(m1:1<=m)(hy:T[m]? =zq y):(T4 st).toList[P.length+m]? =zq y/\ ∃W x,Z=W++ [x]/\(T4 st).toList[P.length+m-1]? =zq x:=by
 have a:=L.rest (i:=0);rw [dN,lz,m8,m8,hy] at a;obtain⟨W,x,e⟩:=YL (l:=Z) (by omega);subst e;refine⟨a,W,x,rfl,?_⟩;rw [<-L.end]
 congr 1
 rw [P3,f8] at lz;omega
section
variable {σ ρ τ α:Type}{st:σ}
def Tm.rangeN {f:P0->P1 ρ×τ->W8 σ Sem (dW (P1 ρ×τ))}(I:P0->τ->σ->Prop){Q:τ->σ->Prop}{Q':P1 ρ×τ->σ->Prop}{a b:P0}{c:τ}(hab:a<=b)(h:I a c st)(step: ∀i c st,i<b->I i c st->Tm prog w A E J (f i (xa,c)) (λr Ç=>match r with| .done c'=>c'.1=xa/\Q c'.2 Ç| .yield c'=>c'.1=xa/\I (i+1) c'.2 Ç) st)(fin: ∀c st,I b c st->Q c st)(q: ∀c st,Q c st->Q' (xa,c) st):Tm prog w A E J (forIn [a:b] ((xa:P1 ρ),c) f) Q' st:=by
 refine Tm.mono (Tm.range (λi c st=>c.1=xa/\I i c.2 st) (Q:=λc st=>c.1=xa/\Q c.2 st) hab ⟨rfl,h⟩ ?_ λc st h=>⟨h.1,fin _ _ h.2⟩) ?_
 ·rintro i ⟨_,c⟩ st hi ⟨rfl,h⟩;exact(step i c st hi h).mono λr Ç x=>by cases r<;>exact x
 ·rintro ⟨_,c⟩ st ⟨rfl,h⟩;exact q c st h
def Tm.fork {c:Prop}[Decidable c]{t e:W8 σ Sem α}{Q:α->σ->Prop}(I:σ->Prop)(G: ∀s,I s->Tm prog w A E J e Q s)(T:c->(∀s,I s->Tm prog w A E J e Q s)->Tm prog w A E J t Q st)(F: ¬c->I st):Tm prog w A E J (if c then t else e) Q st:=
 .if2 (λh=>T h G) λh=>G _ (F h)
end
section
variable {st:C5}{P T Z:G0 D4}{m:P0}
def Rt {f:P0->P1 (P1 P0)×P0->W8 C5 Sem (dW (P1 (P1 P0)×P0))}{G:P0->P1 N3->W8 C5 Sem (dW (P1 (P1 P0)×P0))}{Q:P1 (P1 P0)×P0->C5->Prop}(ak:Ud prog w A J κ U R)(kd:kindOf st=κ)(o:ã U R)(u: ∀x∈T,U x)
 (hf: ∀i n,f i (xa,n)=ltAt' (P.length+n) (P.length+n-1) >>= G n)(hG: ∀n,G n (zq xb)=Pure.pure (.done (xa,n))/\G n (zq xf)=Pure.pure (.yield (xa,n+1)))
 (m1:1<=m)(m2:m<=T.length)(L:å st P Z (T.drop m))(p:Z.Perm (T.take m))(s:á R Z)
 (q: ∀n Z',1<=n->n<=T.length->å st P Z' (T.drop n)->Z'.Perm (T.take n)->á R Z'->(∀y,T[n]? =zq y-> ∃W x,Z'=W++ [x]/\R y x=xb)->Q (xa,n) st):Tm prog w A E J (forIn [m:T.length] ((xa:P1 (P1 P0)),m) f) Q st:=by
 refine Tm.rangeN (λi c s=>s=st/\c=i/\1<=i/\ ∃Z,å st P Z (T.drop i)/\Z.Perm (T.take i)/\á R Z) (Q:=λn s=>s=st/\Q (xa,n) st) m2 ⟨rfl,rfl,m1,Z,L,p,s⟩ ?_ ?_ λc s h=>h.1 ▸ h.2
 ·rintro _ i _ hi ⟨rfl,rfl,i1,Z,L,p,s⟩;have hy:=G5 hi;obtain⟨ay,W,x,rfl,ax⟩:=L.two (by rw [p.length_eq,S1,A7 (T6 hi)]) i1 hy;have uy:=u _ (N9 hi);have uZ: ∀z∈W++ [x],U z:=λz hz=>u z (L6 (p.mem_iff.mp hz))
  rw [hf];refine .bind (.ltAt ak kd ay ax uy (uZ x (by simp)) ?_);cases hb:R T[i] x with
  |true=>
   rw [(hG _).1];exact .pure ⟨rfl,rfl,q i _ i1 (T6 hi) L p s λy h=>⟨W,x,rfl,by rw [hy] at h;injection h with h;rw [<-h];exact hb⟩⟩
  |false=>
   rw [(hG _).2];exact .pure ⟨rfl,rfl,rfl,gM (B0 _),_,L.more hy,Jr p hy,NG o uZ uy s hb⟩
 ·rintro _ _ ⟨rfl,rfl,i1,Z,L,p,s⟩;exact⟨rfl,q _ Z i1 (P7 _) L p s λy h=>xj (P8.mp h).1 (O7 _)⟩
end
def Ż (R:D4->D4->N3)(P T:G0 D4)(st Ç:C5)(n k:P0):Prop:=ź st Ç/\ ∃Z1 Z2,å Ç P (Z1++Z2) (T.drop n)/\Ę R T Z1 Z2 n/\Z2.length=k+1
def Ż.rev {st s2:C5}{k:P0}{Q:Unit->C5->Prop}(h:Ż R P T st s2 n k)(q: ∀s3,Ż R P T st s3 n k->Q () s3):Tm prog w A E J (v6 (P.length+n-(k+1)) (P.length+n)) Q s2:=by
 obtain⟨ar,Z1,Z2,L,F,l⟩:=h;have l12:=F.len;rw [P3] at l12;exact .rev (å.part.mp L) (by rw [P3];omega) (by rw [P3];omega) λs3 ar3 L3=>q s3 ⟨ar.trans ar3,Z1,_,å.part.mpr L3,F.turn,by rw [N6];exact l⟩
def NI {st:C5}{Q:P1 P0->C5->Prop}(ak:Ud prog w A J κ U R)(kd:kindOf st=κ)(o:ã U R)(u: ∀x∈T,U x)(h:å st P [] T)(h1:1<=T.length)
 (q: ∀n Ç Z,1<=n->n<=T.length->ź st Ç->å Ç P Z (T.drop n)->Z.Perm (T.take n)->á R Z->Q (zq n) Ç):Tm prog w A E J (countRun' P.length T.length) Q st:=by
 refine .bind (Rt (m:=1) (Z:=T.take 1) ak kd o u (by exact λi n=>rfl) (by exact λn=>⟨rfl,rfl⟩) (P7 _) h1 ?_ (.refl _) ?_ λn Z n1 n2 L p sr br=> ?_)
 ·unfold å at h ⊢;rw [h,A5,D0,M7]
 ·match T,h1 with
  |x::r,_=>exact E5 _ _
 refine .eq2 (x:=n) (y:=T.length) (λz1=> .pure (q n _ _ n1 n2 (ź.refl _) L p sr)) λz1=> ?_
 have n3:n<T.length:=J7 n2 z1;have hy:=G5 n3;have uZ: ∀z∈Z,U z:=λz hz=>u z (L6 (p.mem_iff.mp hz))
 obtain⟨W,x,e,yx⟩:=br _ hy;have lz:Z.length=n:=by rw [p.length_eq,S1,A7 n2]
 have xin:x∈Z:=by rw [e];simp
 have xl:Z[Z.length-1]? =zq x:=by rw [e];simp
 have F0:(∀p∈Z,∀r∈Z,R p r=xf)->Ę R T [] Z n:=λal=>⟨lz,p,cP.mpr λi j hi hj _=>al _ (N9 hi) _ (N9 hj),al,by rw [lz];exact n1⟩
 refine Tm.fork (λs=>Ż R P T st s (n+1) 0) ?_ ?_ ?_
 ·intro s1 F1;refine .bind (.rule (.bind (Tm.rangeN (λi c s=>c.1=i/\Ż R P T st s c.1 c.2) (Q:=λc s=>c.1<=T.length/\Ż R P T st s c.1 c.2) n3 ⟨rfl,F1⟩ ?_ (λc s h=>⟨U6 h.1,h.2⟩) ?_)))
  ·intro i c s2 hi h2;have hc:c.1<T.length:=by rw [h2.1];exact hi
   have hy:=G5 hc;have uy:=u _ (N9 hc);obtain⟨e1,ar2,Z1,Z2,L2,F2,l2⟩:=h2;have l12:=F2.len;obtain⟨ay,W,x,eW,ax⟩:=L2.two l12 (by rw [<-l12,P3,l2];exact aD _ _) hy;have xin:x∈Z2:=by
    obtain⟨V,v,e⟩:=YL F2.ne;have e':=xk List.getLast? eW;rw [e,<-D0,oH,oH] at e';injection e' with e'
    rw [e,<-e'];simp
   have ux:=u x (F2.mem (D9.mpr (.inr xin)));refine .bind (.ltAt ak (ar2.1.trans kd) ay ax uy ux (.if2 (c:=R _ x=xb) (λhb=> ?_) λhb=> .bind (.ltAt ak (ar2.1.trans kd) ax ay ux uy (.if2 (c:=R x _=xb) (λhc'=> .pure ⟨rfl,T6 hc,ar2,Z1,Z2,L2,F2,l2⟩) λhc'=> ?_))))
   ·refine Tm.fork (λs=>Ż R P T st s (c.1+1) 0) (λs h=> .pure ⟨rfl,xk G0T e1,h⟩) (λzq H=> .bind ?_) λzq=>⟨ar2,Z1++Z2,[T[c.1]],L2.more hy,F2.below o u xin hy hb,rfl⟩
    have X1Y:=l12;rw [P3] at X1Y;exact .rev (å.part.mp L2) (by rw [P3];dsimp only;omega) (by rw [P3];dsimp only;omega) λs3 ar3 L3=>H s3 ⟨ar2.trans ar3,Z1++Z2.reverse,[T[c.1]],(å.part.mpr L3).more hy,F2.turn.below o u (K1.mpr xin) hy hb,rfl⟩
   ·refine .pure ⟨rfl,xk G0T e1,ar2,Z1,Z2++ [T[c.1]],?_,F2.like o u xin hy (bT.mpr hb) (bT.mpr hc'),by rw [P3,l2];rfl⟩;rw [<-D0];exact L2.more hy
  ·intro c s2 h2;refine Tm.fork (λs=> ∃k,Ż R P T st s c.1 k) ?_ (λzq H=> .bind (h2.2.rev λs h=>H s ⟨_,h⟩)) λzq=>⟨_,h2.2⟩
   intro s3 h3;obtain⟨k,ar3,Z1,Z2,L3,F3,l3⟩:=h3;have m1:1<=c.1:=by rw [<-F3.len,P3,l3];exact aD _ _
   exact .bind (.rev L3 rfl (by rw [F3.len]) λs4 ar4 L4=> .bind (Rt ak ((ar3.trans ar4).1.trans kd) o u (by exact λi n=>rfl) (by exact λn=>⟨rfl,rfl⟩) m1 h2.1 L4 ((U9 _).trans F3.perm) (Lg F3.dsc) λn Z n1 n2 L p sr _=> .pure (q n s4 Z n1 n2 (ar3.trans ar4) L p sr)))
 ·intro z2 H;obtain⟨x0,V,eV⟩: ∃x0 V,Z=x0::V:=by
   match Z,xin with
   |a::r,_=>exact⟨a,r,rfl⟩
  have ux:=uZ x xin;have ux0:=uZ x0 (by rw [eV];simp);have a0:(T4 st).toList[P.length]? =zq x0:=by rw [L,eV];simp
  have a1:(T4 st).toList[P.length+n-1]? =zq x:=by
   obtain⟨_,W',x',e',ax⟩:=L.two lz n1 hy;rw [e] at e';rw [ax,(List.append_inj' e' rfl).2 |> λh=>(List.cons.inj h).1]
  exact .bind (.ltAt ak kd a0 a1 ux0 ux (.if2 (c:=R x0 x=xb) (λ_=> .pure (q n _ _ n1 n2 (ź.refl _) L p sr)) λhr0=> .bind (.rev L rfl (by rw [lz]) λs1 ar1 L1=>H s1 ⟨ar1,_,_,L1.more hy,Ę.below o u (Z1:= []) (Ę.turn (F0 λp hp r hr=>o.trans (uZ r hr) ux (uZ p hp) (Rs o uZ sr xl hr) (bT.mpr λv=>(o.neg p x0 x (uZ p hp) ux0 ux v).elim (λv=>by rw [Gg o uZ sr (z:=x0) (by rw [eV];rfl) hp] at v;cases v) hr0))) (K1.mpr xin) hy yx,rfl⟩)))
 ·intro z2;have w0:W= []:=aZ (by rw [e,P3,f8] at lz;omega);have f: ∀z∈Z,z=x:=λz hz=>by rw [e,w0] at hz;exact P2.mp hz
  exact⟨ź.refl st,_,_,L.more hy,Ę.below o u (Z1:= []) (F0 λp hp r hr=>by rw [f p hp,f r hr];exact o.refl (uZ x xin)) xin hy yx,rfl⟩
end
section
variable {prog:D5}{w:T8}{A:S4}{E:G1->G2->Prop}{J:G2->Prop}{κ:SortKind}{U:D4->Prop}{R:D4->D4->N3}
def NJ {B:T7 D4}{A R:G0 D4}{z y:D4}(h:B.toList=A++z::y::R):(B.swapIfInBounds (A.length+1) A.length).toList=A++y::z::R:=by
 obtain⟨l⟩:=B;cases h;have n:A.length<(A++z::y::R).length:=by rw [P3];exact Nat.lt_add_of_pos_right (xU _)
 have n1:A.length+1<(A++z::y::R).length:=by rw [P3];exact Nat.add_lt_add_left (r9 (xU _)) _
 have a0:(A++z::y::R)[A.length]=z:=m9 rfl rfl;have a1:(A++z::y::R)[A.length+1]=y:=m9 (l₁:=A++ [z]) (l₂:=R) (by rw [D0];rfl) (by rw [P3];rfl);unfold Array.swapIfInBounds;refine(xk qD ((rE n1).trans (rE n))).trans ?_;rw [Array.toList_swap];show ((A++z::y::R).set (A.length+1) (A++z::y::R)[A.length]).set A.length (A++z::y::R)[A.length+1]=_;rw [a0,a1,nN _ _ (aV A.length 1),nN _ _ (P7 _),m7,dX];rfl
theorem Ru {xs:T7 D4}{y:D4}{S:G0 D4}: ∀ (Z A:G0 D4),xs.toList=A++(Z++y::S)->(bubble xs (A.length+Z.length) Z.length).toList=A++y::(Z++S)
 | [],A,h=>h
 |z::Z,A,h=>by
  have ih:=Ru Z (A++ [z]) (by rw [h,D0];rfl);rw [P3,i9] at ih;rw [D8,bubble_succ,show A.length+(Z.length+1)-Z.length=A.length+1 from Nat.add_sub_cancel (n:=A.length+1) (m:=Z.length) ▸ by rw [i9];rfl];exact NJ (ih.trans (by rw [D0];rfl))
def NK (xs:T7 D4)(P Z S:G0 D4)(y:D4)(l:P0)(hl:l<=Z.length)(h:xs.toList=P++Z++y::S):(bubble xs (P.length+Z.length) (Z.length-l)).toList=P++(Z.take l++ [y]++Z.drop l)++S:=by
 have e:=Ru (xs:=xs) (y:=y) (S:=S) (Z.drop l) (P++Z.take l) (by rw [h,D0 P (Z.take l),<-D0 (Z.take l),M7,D0]);rw [P3,S1,C6,A7 hl,l8,cR hl] at e;rw [e];simp only [D0,K0,O2]
def Lh (o:ã U R){Z:G0 D4}{y:D4}{l:P0}(u: ∀z∈Z,U z)(uy:U y)(s:á R Z)(a: ∀z∈Z.take l,R y z=xf)(b: ∀z∈Z.drop l,R y z=xb):á R (Z.take l++ [y]++Z.drop l):=by
 have s':á R (Z.take l++Z.drop l):=by rw [M7];exact s
 obtain⟨s1,s2,s3⟩:=B1.mp s';refine B1.mpr ⟨B1.mpr ⟨s1,E5 _ _,λx hx z hz=> ?_⟩,s2,λx hx z hz=> ?_⟩
 ·rw [P2.mp hz];exact a x hx
 ·rcases D9.mp hx with v|v
  ·exact s3 x v z hz
  ·rw [P2.mp v];exact o.asym y z uy (u z (A1 hz)) (b z hz)
def ED {st:C5}{Q:N3->C5->Prop}{P T Z:G0 D4}{n k:P0}(ak:Ud prog w A J κ U R)(kd:kindOf st=κ)(o:ã U R)(u: ∀x∈T,U x)(h:å st P Z (T.drop k))(hp:Z.Perm (T.take k))(hs:á R Z)(k1:1<=k)(kn:k<=n)(hn:n<=T.length)
 (q: ∀Ç Z',ź st Ç->å Ç P Z' (T.drop n)->Z'.Perm (T.take n)->á R Z'->Q xb Ç):Tm prog w A E J (IM P.length n k) Q st:=by
 unfold IM;refine .bind (Tm.mono (Tm.range (λi c s1=>ź st s1/\c.1=xa/\1<=i/\ ∃Z,å s1 P Z (T.drop i)/\Z.Perm (T.take i)/\á R Z) (Q:=λc s1=>ź st s1/\c.1=xa/\ ∃Z,å s1 P Z (T.drop n)/\Z.Perm (T.take n)/\á R Z) (by omega) ⟨ź.refl st,rfl,by omega,Z,by rw [tE k1];exact h,by rw [tE k1];exact hp,hs⟩ ?_ ?_) ?_)
 ·rintro i ⟨r,c2⟩ s1 hi ⟨ar,hr,i1,Z,L,p,s⟩;dsimp only at hr ⊢;subst hr;obtain⟨y,hy⟩: ∃y,T[i]? =zq y:=⟨_,G5 (by omega)⟩;have uy:=u y (P5 hy);have lz:Z.length=i:=by rw [p.length_eq,S1];omega
  have uZ: ∀z∈Z,U z:=λz hz=>u z (L6 (p.mem_iff.mp hz))
  have ay:(T4 s1).toList[P.length+i]? =zq y:=by
   have:=L.rest (i:=0);rw [dN,lz] at this;rw [m8] at this;rw [this];exact hy
  have az: ∀m,m<i-> ∃z,Z[m]? =zq z/\(T4 s1).toList[P.length+m]? =zq z:=λm hm=>by
   refine⟨Z[m],G5 (by omega),?_⟩;rw [L,D0,N4 (by omega),C7 (by omega),dX,G5 (by omega)]
  refine .bind (Tm.mono (Tm.range (λj c s2=>s2=s1/\c.1=xa/\c.2.1<=c.2.2/\c.2.2<=i/\(∀z∈Z.take c.2.1,R y z=xf)/\(∀z∈Z.drop c.2.2,R y z=xb)/\c.2.2-c.2.1+j<=i) (Q:=λc s2=>s2=s1/\c.1=xa/\c.2.1<=i/\(∀z∈Z.take c.2.1,R y z=xf)/\(∀z∈Z.drop c.2.1,R y z=xb)) (B0 _) ⟨rfl,rfl,B0 _,P7 _,λz hz=> ?_,λz hz=> ?_,by dsimp only;omega⟩ ?_ ?_) ?_)
  ·dsimp only at hz;rw [fE] at hz;cases hz
  ·dsimp only at hz;rw [A9 (by omega)] at hz;cases hz
  ·rintro j ⟨r,l,v⟩ _ hj ⟨rfl,hr,b1,b2,b3,b4,b5⟩;dsimp only at hr b1 b2 b3 b4 b5 ⊢;subst hr
   by_cases c1:l>=v
   ·rw [S5 c1];have:l=v:=by omega
    subst this;exact .pure ⟨rfl,rfl,b2,b3,b4⟩
   rw [R9 c1];obtain⟨z,hz,ez⟩:=az ((l+v) / 2) (by omega);have uz:=uZ z (P5 hz);refine .bind (.ltAt ak (ar.1.trans kd) ay ez uy uz ?_);dsimp only;cases hb:R y z with
   |true=>
    rw [S5 rfl];refine .pure ⟨rfl,rfl,by dsimp only;omega,by dsimp only;omega,b3,λx hx=> ?_,by dsimp only;omega⟩;dsimp only at hx;have zx:R x z=xf:=by
     obtain⟨t,ht,e⟩:=Y1 hx;rw [C6] at ht;exact Wy s o uZ (show (l+v) / 2<=(l+v) / 2+t by omega) hz (by rw [G5 (by omega),<-e,rD])
    rcases o.neg y x z uy (uZ x (A1 hx)) uz hb with w|w
    ·exact w
    ·rw [zx] at w;cases w
   |false=>
    rw [R9 (by decide)];refine .pure ⟨rfl,rfl,by dsimp only;omega,b2,λx hx=> ?_,b4,by dsimp only;omega⟩;dsimp only at hx;have xz:R z x=xf:=by
     obtain⟨t,ht,e⟩:=Y1 hx;rw [S1] at ht;exact Wy s o uZ (show t<=(l+v) / 2 by omega) (by rw [G5 (by omega),<-e,rC]) hz
    exact o.trans (uZ x (L6 hx)) uz uy xz hb
  ·rintro ⟨r,l,v⟩ _ ⟨rfl,hr,b1,b2,b3,b4,b5⟩;dsimp only at hr b1 b2 b3 b4 b5 ⊢;have:l=v:=by omega
   subst this;exact⟨rfl,hr,b2,b3,b4⟩
  ·rintro ⟨r,l,v⟩ s2 ⟨rfl,hr,b2,b3,b4⟩;dsimp only at hr b2 b3 b4 ⊢;subst hr;dsimp only;refine .bind ?_;show Tm prog w A E J (moveDown' (P.length+i) (P.length+l)) _ _;rw [moveDown'_eq];refine .modify (.pure ⟨ar.trans ⟨rfl,rfl,rfl,rfl⟩,rfl,by omega,Z.take l++ [y]++Z.drop l,?_,?_,Lh o uZ uy s b3 b4⟩)
   ·have:=NK (T4 s2) P Z (T.drop (i+1)) y l (by omega) (by rw [<-zB hy];exact L);rw [lz] at this;rw [show P.length+i-(P.length+l)=i-l by omega];exact this
   ·refine nG ?_ (Jr p hy);rw [D0];have e:Z++ [y]=Z.take l++(Z.drop l++ [y]):=by rw [<-D0,M7]
    rw [e];exact(bO).append_left _
 ·rintro ⟨r,c2⟩ s1 ⟨ar,hr,i1,Z,L,p,s⟩;exact⟨ar,hr,Z,L,p,s⟩
 ·rintro ⟨r,c2⟩ s1 ⟨ar,hr,Z,L,p,s⟩;dsimp only at hr ⊢;subst hr;exact .pure (q s1 Z ar L p s)
end
section
variable {prog:D5}{w:T8}{A:S4}{E:G1->G2->Prop}{J:G2->Prop}{κ:SortKind}{U:D4->Prop}{R:D4->D4->N3}
def Ĳ (R:D4->D4->N3)(l:G0 D4):G0 (P0×P0×P0)->P0->P0->Prop
 | [],s,e=>s=e
 |(p,n,_)::rest,s,e=>p=s/\1<=n/\á R (ä l p n)/\Ĳ R l rest (s+n) e
variable {l:G0 D4}
def Ĳ.le: ∀ {pl:G0 (P0×P0×P0)} {s e:P0},Ĳ R l pl s e->s+pl.length<=e
 | [],s,e,h=>by cases h;simp
 |(p,n,_)::rest,s,e,⟨_,n1,_,h⟩=>by have:=Ĳ.le h;simp only [D8];omega
def NL {l':G0 D4}{p n e:P0}(h:l.take e=l'.take e)(he:p+n<=e):ä l p n=ä l' p n:=by
 have cut: ∀k:G0 D4,ä k p n=ä (k.take e) p n:=λk=>by
  unfold ä;rw [oF,oG,A7 (by omega)]
 rw [cut l,cut l',h]
def Ĳ.same {l l':G0 D4}: ∀ {pl:G0 (P0×P0×P0)} {s e:P0},Ĳ R l pl s e->l.take e=l'.take e->Ĳ R l' pl s e
 | [],s,e,h,_=>h
 |(p,n,_)::rest,s,e,⟨a,b,c,d⟩,h=>by
  have:=d.le;exact⟨a,b,by rw [<-NL h (by omega)];exact c,d.same h⟩
def Ĳ.shift {l':G0 D4}: ∀ {pl:G0 (P0×P0×P0)} {s e:P0},Ĳ R l pl s e->l.drop s=l'.drop s->Ĳ R l' pl s e
 | [],s,e,h,_=>h
 |(p,n,_)::rest,s,e,⟨a,b,c,d⟩,h=>by
  subst a;refine⟨rfl,b,by unfold ä at c ⊢;rw [<-h];exact c,d.shift ?_⟩;rw [<-Z0,<-Z0,h]
def Ĳ.append: ∀ {a b:G0 (P0×P0×P0)} {s e:P0},Ĳ R l (a++b) s e↔ ∃m,Ĳ R l a s m/\Ĳ R l b m e
 | [],b,s,e=>⟨λh=>⟨s,rfl,h⟩,λ⟨m,h,h'⟩=>by cases h;exact h'⟩
 |(p,n,w)::a,b,s,e=>by
  constructor
  ·rintro ⟨x,y,z,h⟩;obtain⟨m,h1,h2⟩:=Ĳ.append.mp h;exact⟨m,⟨x,y,z,h1⟩,h2⟩
  ·rintro ⟨m,⟨x,y,z,h1⟩,h2⟩;exact⟨x,y,z,Ĳ.append.mpr ⟨m,h1,h2⟩⟩
structure Bt (R:D4->D4->N3)(κ:SortKind)(l0:G0 D4)(lo:P0)(st:C5):Prop where
 kind:kindOf st=κ
 failed:aL st=xa
 perm:(T4 st).toList.Perm l0
 stk:Ĳ R (T4 st).toList (B2 st).toList 0 lo
variable {l0:G0 D4}{lo:P0}
def Bt.size {st:C5}(b:Bt R κ l0 lo st):(T4 st).size=l0.length:=by rw [<-N0,b.perm.length_eq]
def Bt.merge {st:C5}{Q:N3->C5->Prop}{i:P0}(ak:Ud prog w A J κ U R)(o:ã U R)(u: ∀x∈l0,U x)(b:Bt R κ l0 lo st)(hlo:lo<=l0.length)(hi:i+1<(B2 st).size)
 (q: ∀Ç,Bt R κ l0 lo Ç->(B2 Ç).size+1=(B2 st).size->(T4 Ç).toList.drop lo=(T4 st).toList.drop lo->Q xb Ç):Tm prog w A E J (IL i) Q st:=by
 have lp:(B2 st).toList.length=(B2 st).size:=by simp
 obtain⟨⟨sa,na,pw⟩,hx⟩: ∃x,(B2 st).toList[i]? =zq x:=⟨_,G5 (by omega)⟩;obtain⟨⟨sb,nb,pw2⟩,hy⟩: ∃y,(B2 st).toList[i+1]? =zq y:=⟨_,G5 (by omega)⟩;have e:(B2 st).toList=(B2 st).toList.take i++(sa,na,pw)::(sb,nb,pw2)::(B2 st).toList.drop (i+2):=by
  rw [<-zB hy,<-zB hx,M7]
 have stk:=b.stk;rw [e] at stk;obtain⟨m,k1,em,n1,s1,eb,n2,s2,k2⟩:=Ĳ.append.mp stk;subst em;subst eb;have le:=k2.le;have sz:=b.size;have hz:sa+na+nb<=(T4 st).size:=by omega
 have ln:(T4 st).toList.length=(T4 st).size:=by simp
 refine EC ak b.kind o (λx hx=>u x (b.perm.mem_iff.mp hx)) (by rw [<-C4];exact hx) (by rw [<-C4];exact hy) rfl n1 n2 hz s1 s2 b.failed λÇ Z kd hf hp ha pz sz'=> ?_
 have hpl:(B2 Ç).toList=(B2 st).toList.take i++(sa,na+nb,pw)::(B2 st).toList.drop (i+2):=by
  rw [hp,Array.eraseIdxIfInBounds_eq,rE (by rw [lW];exact hi),nO,i8];generalize (B2 st).toList.drop (i+2)=B at e ⊢;have li:((B2 st).toList.take i).length=i:=by rw [S1];omega
  generalize (B2 st).toList.take i=A at e li ⊢;rw [e];subst li;simp [List.set_append,List.eraseIdx_append];intro z;omega
 have lZ:Z.length=na+nb:=by rw [pz.length_eq,P3,WA (by omega),WA (by omega)]
 have lt:((T4 st).toList.take sa).length=sa:=by rw [S1];omega
 refine q Ç ⟨kd,hf,?_,?_⟩ ?_ ?_
 ·rw [ha];refine nG ?_ b.perm;have c3:=UL (T4 st).toList (p:=sa) (n:=na) (m:=nb);have pp:=(pz.append_left ((T4 st).toList.take sa)).append_right ((T4 st).toList.drop (sa+na+nb));rw [<-c3] at pp;exact pp
 ·rw [hpl,ha];refine Ĳ.append.mpr ⟨sa,k1.same ?_,rfl,by omega,?_,?_⟩
  ·rw [D0,X0 (by omega),S3 (l:=(T4 st).toList.take sa) (by omega)]
  ·unfold ä;rw [D0,W9 (by omega),A9 (by omega),O2,X0 (by omega),S3 (by omega)];exact sz'
  ·rw [<-l8];refine k2.shift ?_;have:((T4 st).toList.take sa++Z).length=sa+na+nb:=by rw [P3,lt,lZ];omega
   rw [W9 (by omega),A9 (as:=(T4 st).toList.take sa++Z) (by omega),O2]
 ·rw [<-N0,<-N0,hpl];have:(B2 st).toList.length=((B2 st).toList.take i++(sa,na,pw)::(sa+na,nb,pw2)::(B2 st).toList.drop (i+2)).length:=xk K7 e;rw [this];simp only [P3,D8];omega
 ·rw [ha];have c1:((T4 st).toList.take sa++Z).length=sa+na+nb:=by rw [P3,lt,lZ];omega
  have c2:sa+na+nb<=lo:=by omega
  rw [List.drop_append,A9 (as:=(T4 st).toList.take sa++Z) (by omega),O2,Z0,c1]
  congr 1;omega
def Bt.run {Z:G0 D4}{n:P0}{s1 s2:C5}(b:Bt R κ l0 lo s1)(hlo:lo<=l0.length)(ar:ź s1 s2)(L:å s2 ((T4 s1).toList.take lo) Z (((T4 s1).toList.drop lo).drop n))(p:Z.Perm (((T4 s1).toList.drop lo).take n))(sr:á R Z)(hn:n<=l0.length-lo):Bt R κ l0 lo s2/\á R (ä (T4 s2).toList lo n):=by
 have ln:(T4 s1).toList.length=l0.length:=b.perm.length_eq;have lP:((T4 s1).toList.take lo).length=lo:=by rw [S1];omega
 have lZ:Z.length=n:=by rw [p.length_eq,S1,C6];omega
 have e:(T4 s2).toList=(T4 s1).toList.take lo++Z++((T4 s1).toList.drop lo).drop n:=L;refine⟨⟨ar.1.trans b.kind,ar.2.2.1.trans b.failed,?_,?_⟩,?_⟩
 ·rw [e];refine nG ?_ b.perm;have pp:=(p.append_left ((T4 s1).toList.take lo)).append_right (((T4 s1).toList.drop lo).drop n);rw [D0 _ (((T4 s1).toList.drop lo).take n),M7,M7] at pp;exact pp
 ·rw [ar.2.1];refine b.stk.same ?_;rw [e,D0,X0 (by omega),S3 (l:=(T4 s1).toList.take lo) (by omega)]
 ·rw [e];unfold ä;rw [D0,W9 (by omega),A9 (by omega),O2,X0 (by omega),S3 (by omega)];exact sr
def Bt.push {n:P0}{s:C5}(b:Bt R κ l0 lo s)(n1:1<=n)(g:á R (ä (T4 s).toList lo n)):Bt R κ l0 (lo+n) (G0g s ((B2 s).push (lo,n,0))):=by
 refine⟨b.kind,b.failed,b.perm,?_⟩;show Ĳ R (T4 s).toList ((B2 s).push (lo,n,0)).toList 0 (lo+n);rw [aK];exact Ĳ.append.mpr ⟨lo,b.stk,rfl,n1,g,rfl⟩
def Ĳ.mod {f:P0×P0×P0->P0×P0×P0}(hf: ∀x,(f x).1=x.1/\(f x).2.1=x.2.1): ∀ {pl:G0 (P0×P0×P0)} {k s e:P0},Ĳ R l pl s e->Ĳ R l (pl.modify k f) s e
 | [],k,s,e,h=>by rw [List.modify_nil];exact h
 |(p,n,w)::rest,0,s,e,⟨a,b,c,d⟩=>by
  rw [List.modify_zero_cons];have e1:=(hf (p,n,w)).1;have e2:=(hf (p,n,w)).2;generalize f (p,n,w)=x at e1 e2;obtain⟨p',n',w'⟩:=x;dsimp only at e1 e2;subst e1 e2;exact⟨a,b,c,d⟩
 |(p,n,w)::rest,k+1,s,e,⟨a,b,c,d⟩=>by
  rw [List.modify_succ_cons];exact⟨a,b,c,d.mod hf⟩
def Bt.mod {k:P0}{s:C5}{f:P0×P0×P0->P0×P0×P0}(b:Bt R κ l0 lo s)(hf: ∀x,(f x).1=x.1/\(f x).2.1=x.2.1):Bt R κ l0 lo (G0g s ((B2 s).modify k f)):=by
 refine⟨b.kind,b.failed,b.perm,?_⟩;show Ĳ R (T4 s).toList ((B2 s).modify k f).toList 0 lo;rw [Array.toList_modify];exact b.stk.mod hf
def NM (c:N3)(x:P0):(if c=xb then x-1 else x)<=x:=by cases c<;>simp
def Li {st:C5}{Q:Unit->C5->Prop}(ak:Ud prog w A J κ U R)(o:ã U R)(u: ∀x∈l0,U x)(kd:kindOf st=κ)(hf:aL st=xa)(hp:B2 st= #[])(hl:(T4 st).toList=l0)
 (q: ∀Ç,aL Ç=xa->(T4 Ç).toList.Perm l0->á R (T4 Ç).toList->Q () Ç):Tm prog w A E J sortRuns' Q st:=by
 have b0:Bt R κ l0 0 st:=⟨kd,hf,by rw [hl],by rw [hp];rfl⟩;rw [sortRuns'_eq];refine .bind (.get ?_);dsimp only;rw [b0.size];generalize minRun' l0.length l0.length 0=mr;refine .bind (Tm.mono (Tm.range (λi c s1=>c.1=xa/\c.2<=l0.length/\i<=c.2/\Bt R κ l0 c.2 s1) (Q:=λc s1=>c.1=xa/\Bt R κ l0 l0.length s1) (B0 _) ⟨rfl,B0 _,B0 _,b0⟩ ?_ ?_) ?_)
 ·rintro i ⟨r,lo⟩ s1 hi ⟨hr,h1,h2,b⟩;dsimp only at hr h1 h2 b ⊢;subst hr
  by_cases z1:lo>=l0.length
  ·rw [S5 z1];have:lo=l0.length:=by omega
   subst this;exact .pure ⟨rfl,b⟩
  rw [R9 z1];have ln:(T4 s1).toList.length=l0.length:=b.perm.length_eq;have lP:((T4 s1).toList.take lo).length=lo:=by rw [S1];omega
  have lT:((T4 s1).toList.drop lo).length=l0.length-lo:=by rw [C6,ln]
  have uT: ∀x∈(T4 s1).toList.drop lo,U x:=λx hx=>u x (b.perm.mem_iff.mp (A1 hx))
  have ct:=λ{Q}=>NI (prog:=prog) (w:=w) (A:=A) (E:=E) (J:=J) (Q:=Q) (st:=s1) (P:=(T4 s1).toList.take lo) (T:=(T4 s1).toList.drop lo) ak b.kind o uT (by unfold å;rw [A5,M7]) (by omega)
  rw [lP,lT] at ct;refine .bind (ct λn s2 Z n1 n2 ar L p sr=> ?_);dsimp only
  by_cases z2:n<mr
  ·rw [S5 z2];have bn:=λ{Q}=>ED (prog:=prog) (w:=w) (A:=A) (E:=E) (J:=J) (Q:=Q) (st:=s2) (P:=(T4 s1).toList.take lo) (T:=(T4 s1).toList.drop lo) (n:=min (l0.length-lo) mr) ak (ar.1.trans b.kind) o uT L p sr n1 (by omega) (by omega)
   rw [lP] at bn;refine .bind (.rule (.bind (bn λs3 Z3 ar3 L3 p3 sr3=> ?_)));obtain⟨B,G⟩:=b.run h1 (ar.trans ar3) L3 p3 sr3 (by omega);have N1:1<=min (l0.length-lo) mr:=by omega
   rw [R9 (by decide)];refine .bind (.get ?_);split
   ·refine .bind (Tm.mono (Tm.range (λj c s4=>c.1=xa/\Bt R κ l0 lo s4/\á R (ä (T4 s4).toList lo (min (l0.length-lo) mr))) (Q:=λc s4=>c.1=xa/\Bt R κ l0 lo s4/\á R (ä (T4 s4).toList lo (min (l0.length-lo) mr))) (B0 _) ⟨rfl,B,G⟩ ?_ (λ_ _ h=>h)) ?_)
    ·rintro j ⟨r,c⟩ s4 hj ⟨hr,B4,G4⟩;dsimp only at hr ⊢;subst hr;refine .bind (.get ?_);split
     ·rename_i X1s heq;split
      ·exact .pure ⟨rfl,B4,G4⟩
      ·have two:(B2 s4).size>1:=lA λz=>by rw [R9 z] at heq;cases heq
       refine .bind (Bt.merge ak o u B4 h1 (by omega) λs5 B5 _ dr=> ?_);refine .pure ⟨rfl,B5,?_⟩;unfold ä at G4 ⊢;rw [dr];exact G4
     ·exact .pure ⟨rfl,B4,G4⟩
    ·rintro ⟨r,c⟩ s4 ⟨hr,B4,G4⟩;dsimp only at hr ⊢;subst hr;dsimp only;refine .bind (.modify (.bind (.modify (.pure ⟨rfl,?_,?_,Bt.push (Bt.mod B4 λx=>⟨rfl,rfl⟩) N1 G4⟩))))
     ·dsimp only;omega
     ·dsimp only;omega
   ·refine .bind (.modify (.pure ⟨rfl,?_,?_,Bt.push B N1 G⟩))
    ·dsimp only;omega
    ·dsimp only;omega
  ·rw [R9 z2];obtain⟨B,G⟩:=b.run h1 ar L p sr n2;have N1:=n1;refine .bind (.get ?_);split
   ·refine .bind (Tm.mono (Tm.range (λj c s4=>c.1=xa/\Bt R κ l0 lo s4/\á R (ä (T4 s4).toList lo (n))) (Q:=λc s4=>c.1=xa/\Bt R κ l0 lo s4/\á R (ä (T4 s4).toList lo (n))) (B0 _) ⟨rfl,B,G⟩ ?_ (λ_ _ h=>h)) ?_)
    ·rintro j ⟨r,c⟩ s4 hj ⟨hr,B4,G4⟩;dsimp only at hr ⊢;subst hr;refine .bind (.get ?_);split
     ·rename_i X1s heq;split
      ·exact .pure ⟨rfl,B4,G4⟩
      ·have two:(B2 s4).size>1:=lA λz=>by rw [R9 z] at heq;cases heq
       refine .bind (Bt.merge ak o u B4 h1 (by omega) λs5 B5 _ dr=> ?_);refine .pure ⟨rfl,B5,?_⟩;unfold ä at G4 ⊢;rw [dr];exact G4
     ·exact .pure ⟨rfl,B4,G4⟩
    ·rintro ⟨r,c⟩ s4 ⟨hr,B4,G4⟩;dsimp only at hr ⊢;subst hr;dsimp only;refine .bind (.modify (.bind (.modify (.pure ⟨rfl,?_,?_,Bt.push (Bt.mod B4 λx=>⟨rfl,rfl⟩) N1 G4⟩))))
     ·dsimp only;omega
     ·dsimp only;omega
   ·refine .bind (.modify (.pure ⟨rfl,?_,?_,Bt.push B N1 G⟩))
    ·dsimp only;omega
    ·dsimp only;omega
 ·rintro ⟨r,lo⟩ s1 ⟨hr,h1,h2,b⟩;dsimp only at hr h1 h2 b;have:lo=l0.length:=by omega
  subst this;exact⟨hr,b⟩
 ·rintro ⟨r,lo⟩ s1 ⟨hr,b⟩;dsimp only at hr ⊢;subst hr;dsimp only;have le0:=b.stk.le;have lp0:(B2 s1).toList.length=(B2 s1).size:=by simp
  refine .bind (Tm.mono (Tm.range (λj c s4=>c.1=xa/\Bt R κ l0 l0.length s4/\(B2 s4).size+j<=l0.length) (Q:=λc s4=>c.1=xa/\Bt R κ l0 l0.length s4/\(B2 s4).size<=1) (B0 _) ⟨rfl,b,by omega⟩ ?_ (λc s4 ⟨x,y,z⟩=>⟨x,y,by omega⟩)) ?_)
  ·rintro j ⟨r,c⟩ s4 hj ⟨hr,B4,z4⟩;dsimp only at hr ⊢;subst hr;refine .bind (.get ?_)
   by_cases c1:(B2 s4).size<=1
   ·rw [S5 c1];exact .pure ⟨rfl,B4,c1⟩
   rw [R9 c1];refine .bind (Bt.merge ak o u B4 (P7 _) (U2 (Nat.add_le_add_right (NM _ _) 1) (by omega)) λs5 B5 z5 _=> ?_);exact .pure ⟨rfl,B5,by omega⟩
  ·rintro ⟨r,c⟩ s4 ⟨hr,B4,z4⟩;dsimp only at hr ⊢;subst hr;refine .pure (q s4 B4.failed B4.perm ?_);have stk:=B4.stk;have ln:(T4 s4).toList.length=l0.length:=B4.perm.length_eq;have lp:(B2 s4).toList.length=(B2 s4).size:=by simp
   generalize (B2 s4).toList=pl at stk lp
   match pl,stk,lp with
   | [],e,_=>
    have:l0.length=0:=e.symm;have:(T4 s4).toList= []:=aU.mp (by omega);rw [this];exact .nil
   | [(p,n,_)],⟨e1,_,sr,e2⟩,_=>
    subst e1;have en:n=l0.length:=by have:0+n=l0.length:=e2;omega
    unfold ä at sr;rw [i3,S3 (by omega)] at sr;exact sr
   |_::_::_,_,h=>simp only [D8] at h;omega
end
section
variable {prog:D5}{w:T8}{A:S4}{E:G1->G2->Prop}{s:G2}{κ:SortKind}{U:D4->Prop}{R:D4->D4->N3}
def Oo (s:G2)(a:G7)(h':N8):Prop:= ∀b o,b≠a->s.heap.get? b=zq o->h'.get? b=zq o
def Only (s:G2)(h':N8):G2->Prop:=λs'=> ∃tk,s'= {s with heap:=h',toks:=tk}
def NN {M:cN}{α β:Type}{c:Prop}[Decidable c]{m m':Sem α}{F:α->Sem β}{Q:β->G2->Prop}(h:D6 M A ((if c then m else m') >>= F) Q E s):D6 M A (if c then m >>= F else m' >>= F) Q E s:=by
 by_cases z:c
 ·rw [S5 z] at h ⊢;exact h
 ·rw [R9 z] at h ⊢;exact h
def Za (vs:G0 G1):(vs.toArray.zip vs.toArray).toList=vs.map λv=>(v,v):=by
 rw [Array.toList_zip];show vs.zip vs=_
 induction vs with
 |nil=>rfl
 |cons v vs ih=>rw [Z4,ih,S9]
def Lj {R:G1×G1->G1×G1->N3}: ∀l:G0 G1,l.length<2->á R (l.map λv=>(v,v))
 | [],_=>List.Pairwise.nil
 | [_],_=>E5 _ _
def NO {a:G7}{vs:G0 G1}{n:P0}{P:Fin->G2->Prop}(ho:s.heap.get? a=zq (oJ "list" vs.toArray n))(hz:vs.length<=xh)
 (hk:2<=vs.length-> ∀h',Oo s a h'->D6 (R3 prog w) A (IN vs.toArray) (λk s'=>k=κ/\Only s h' s') (λ_ _=>False) {s with heap:=h'})(ak: ∀h',Oo s a h'->Ud prog w A (Only s h') κ U R)(o:ã U R)(u: ∀v∈vs,U (v,v))
 (q: ∀ (out:G0 G1) (c tk:P0) (h':N8),Oo s a h'->h'.get? a=zq (oJ "list" out.toArray c)->out.Perm vs->(out.map λv=>(v,v)).Pairwise (λx y=>R y x=xf)->P (.done (.ret .none)) {s with heap:=h',toks:=tk}):
 D6 (R3 prog w) A (Builtin.«list.sort» ⟨[.ref a],[]⟩) P E s:=by
 have alt:=D7 ho;have sv:vs.toArray.size=vs.length:=R4 ..;rw [list_sort_plain];refine xg (listItems_at ho rfl ?_);obtain⟨c1,ho1⟩: ∃c,(s.heap.update a (bX λ_=>(#[]:T7 G1))).get? a=zq (oJ "list" #[] c):=⟨_,tF ho λ_=> #[]⟩;refine xg (v7 ho rfl ?_ (by rw [sv];exact hz) (B0 _));refine xg (IP ho1 rfl ?_);refine xg (uI ?_ hz);refine xg (v9 ?_ (B0 _));refine O8 ?_;have past:Oo s a (((s.heap.update a (bX λ_=>(#[]:T7 G1))).push {cls:= .type "tuple",data:= .seq vs.toArray.toList.toArray}).push {cls:= .type "list",data:= .seq ([]:G0 G1).toArray}):=λb x ne e=>by
  refine G9 _ (G9 _ ?_);rw [o5 _ _ _ _ ne];exact e
 have ho3:=G9 ({cls:= .type "list",data:= .seq ([]:G0 G1).toArray}:Obj) (G9 ({cls:= .type "tuple",data:= .seq vs.toArray.toList.toArray}:Obj) ho1);revert past ho3;generalize ((s.heap.update a (bX λ_=>(#[]:T7 G1))).push ({cls:= .type "tuple",data:= .seq vs.toArray.toList.toArray}:Obj)).push ({cls:= .type "list",data:= .seq ([]:G0 G1).toArray}:Obj)=H3;intro past ho3;have kd:D6 (R3 prog w) A (if vs.toArray.size<2 then pure general' else IN vs.toArray) (λk s0=>(2<=vs.length->k=κ)/\Only s H3 s0) (λ_ _=>False) {s with heap:=H3}:=by
  by_cases c:vs.toArray.size<2
  ·rw [S5 c];exact G8 ⟨λz=>by omega,s.toks,rfl⟩
  ·rw [R9 c];exact R7 (hk (by omega) H3 past) (λk s0 x=>⟨λ_=>x.1,x.2⟩) λ_ _ e=>e
 have rn: ∀k s0,(2<=vs.length->k=κ)->Only s H3 s0->D6 (R3 prog w) A ((if vs.toArray.size<2 then pure () else sortRuns':W8 C5 Sem Unit).run (SortSt.mk' k (vs.toArray.zip vs.toArray) #[] 7 xa)) (λr s'=>(aL r.2=xa/\(T4 r.2).toList.Perm (vs.map λv=>(v,v))/\á R (T4 r.2).toList)/\Only s H3 s') E s0:=by
  intro k s0 ek j
  by_cases c:vs.toArray.size<2
  ·rw [S5 c,StateT.run_pure];refine G8 ⟨⟨rfl,?_,?_⟩,j⟩
   ·show (vs.toArray.zip vs.toArray).toList.Perm _;rw [Za]
   ·show á R (vs.toArray.zip vs.toArray).toList;rw [Za];rw [sv] at c;exact Lj vs c
  ·rw [R9 c];have ek:=ek (by omega);subst ek;refine Li (E:=E) (ak H3 past) o (l0:=vs.map λv=>(v,v)) (st:=SortSt.mk' k (vs.toArray.zip vs.toArray) #[] 7 xa) (λx hx=> ?_) rfl rfl rfl (Za vs) (Q:=λ_ Ç=>aL Ç=xa/\(T4 Ç).toList.Perm (vs.map λv=>(v,v))/\á R (T4 Ç).toList) (λÇ a1 a2 a3=>⟨a1,a2,a3⟩) s0 j;obtain⟨v,hv,rfl⟩:=N5.mp hx;exact u v hv
 dsimp only;refine NN (xg (R7 kd (λk s0 x=> ?_) λ_ _ e=>e.elim));refine xg (R7 (rn k s0 x.1 x.2) ?_ λ_ _ e=>e);rintro ⟨⟨⟩,Ç⟩ s1 ⟨⟨hf,hp,hs⟩,tk,rfl⟩;dsimp only;have eo:((T4 Ç).map λx=>x.2)=((T4 Ç).toList.map λx=>x.2).toArray:=by
  rw [<-Array.toList_map,oK]
 have two:(T4 Ç).toList=((T4 Ç).toList.map λx=>x.2).map λv=>(v,v):=by
  rw [M9];refine(sM _).symm.trans (O5 λx hx=> ?_);obtain⟨v,_,rfl⟩:=N5.mp (hp.mem_iff.mp hx);rfl
 have po:((T4 Ç).toList.map λx=>x.2).Perm vs:=by
  have:=hp.map λx=>x.2
  rw [M9] at this;refine this.trans ?_;rw [show ((λx:D4=>x.2)∘λv:G1=>(v,v))=id from rfl,sM]
 rw [two] at hs;rw [eo];generalize (T4 Ç).toList.map (λx=>x.2)=out at hs po;obtain⟨c2,ho4⟩: ∃c,(H3.update a (bX λ_=>out.toArray)).get? a=zq (oJ "list" out.toArray c):=⟨_,tF ho3 λ_=>out.toArray⟩;refine xg (IP (s:= {s with heap:=H3,toks:=tk}) ho3 rfl ?_);refine xg (v7 (s:= {s with heap:=H3,toks:=tk}) ho3 rfl ?_ (B0 _) (by rw [R4,po.length_eq];exact rF hz));rw [hf];simp only [qZ,Y9,mF];refine G8 (q out c2 tk _ (λb x ne e=> ?_) ho4 po hs);rw [o5 _ _ _ _ ne];exact past b x ne e
abbrev NP (h h':N8):Prop:= ∀b o,h.get? b=zq o->h'.get? b=zq o
end
theorem Zb: ∀a b:G0 P4,zT a b=xb->zT b a=xf
 | [],[],h=>rfl
 | [],_::_,_=>rfl
 |_::_,[],h=>by cases h
 |x::xs,y::ys,h=>by
  unfold zT at h ⊢
  by_cases e:x=y
  ·subst e;rw [S5 rfl] at h ⊢;exact Zb xs ys h
  ·rw [R9 e] at h;rw [R9 (O6 e)];have:=E9 h;exact S0 (by omega)
theorem UM: ∀a b c:G0 P4,zT a c=xb->zT a b=xb\/zT b c=xb
 | [],[],c,h=> .inr h
 | [],_::_,_,_=> .inl rfl
 |_::_,_,[],h=>by cases h
 |x::xs,[],z::zs,h=> .inr rfl
 |x::xs,y::ys,z::zs,h=>by
  unfold zT at h ⊢
  by_cases e:x=z
  ·subst e;rw [S5 rfl] at h
   by_cases f:x=y
   ·subst f;rw [S5 rfl,S5 rfl];exact UM xs ys zs h
   ·rw [R9 f,R9 (O6 f)]
    by_cases g:x<y
    ·exact .inl (S6 g)
    ·exact .inr (S6 (by omega))
  ·rw [R9 e] at h;have lt:=E9 h
   by_cases f:x=y
   ·subst f;rw [R9 e];exact .inr h
   ·rw [R9 f]
    by_cases g:x<y
    ·exact .inl (S6 g)
    ·refine .inr ?_;rw [R9 (by omega)];exact S6 (by omega)
theorem WC: ∀a b:G0 P4,zT a b=xf->zT b a=xf->a=b
 | [],[],_,_=>rfl
 | [],_::_,h,_=>by cases h
 |_::_,[],_,h=>by cases h
 |x::xs,y::ys,h,h'=>by
  unfold zT at h h'
  by_cases e:x=y
  ·subst e;rw [S5 rfl] at h h';rw [WC xs ys h h']
  ·rw [R9 e] at h;rw [R9 (O6 e)] at h';have:=pV h;have:=pV h';omega
end HT
namespace L2
open PySem PySem.Spec PyProof.Rows PySem.SeqAt HT
theorem UN {α β:Type}{f:α->β}: ∀ {out:G0 β} {l:G0 α},out.Perm (l.map f)-> ∃l':G0 α,l'.Perm l/\l'.map f=out
 | [],l,p=>by
  have e:=p.length_eq;rw [G6,B6] at e;exact⟨[],by rw [aZ e.symm],rfl⟩
 |x::out,l,p=>by
  obtain⟨y,hy,rfl⟩:=N5.mp (p.mem_iff.mp R1);obtain⟨l1,l2,rfl⟩:=List.append_of_mem hy;have p2:out.Perm ((l1++l2).map f):=by
   refine G0h (a:=f y) (p.trans ?_);rw [T9,T9,S9];exact mK
  obtain⟨l',a,b⟩:=UN p2;exact⟨y::l',(a.cons y).trans mK.symm,by rw [S9,b]⟩
abbrev toI (S:G0 P0):G0 P4:=S.map λ(k:P0)=>(k:P4)
def leS (a b:G0 P0):N3:= !HT.zT (toI b) (toI a)
def TV (l:G0 (G0 P0)):G0 (G0 P0):=l.mergeSort leS
end L2
namespace L2
open PySem PySem.Spec PyProof.Rows PySem.SeqAt
def Gh {h h':HD}{a:G7}(sb:Sub h h')(e:h' a=xa):h a=xa:=by
 cases z:h a with
 |none=>rfl
 |some ds=>rw [sb a ds z] at e;cases e
def Sub.over {h h':HD}{a:G7}{ds:G0 D}(sb:Sub h h')(e:h a=xa):Sub h (wd h' a ds):=⟨λb xs k=>jg (λz=>by subst z;rw [e] at k;cases k) (sb b xs k),sb.dc⟩
def wk (T:G0 (G0 P4)):P0->P0->P0->N3
 |0,i,j=>decide (i=j)|| !decide (ě T i j=0)
 |b+1,i,j=>wk T b i j||(wk T b i b&&wk T b b j)
def fW (T:G0 (G0 P4))(b i j x y:P0):N3:=if x<i\/(x=i/\y<j) then wk T (b+1) x y else wk T b x y
def kP (g:P0->P0->N3)(w:G0 P0)(j:P0):N3:=g (w.getLastD 0) j&&(decide (w.headD 0<j)&& !decide (j∈w))
def kQ (g:P0->P0->N3)(n:P0)(w:G0 P0):G0 (G0 P0):=((R6 n).filter (kP g w)).map λj=>w++ [j]
def lev (g:P0->P0->N3)(n:P0):P0->G0 (G0 P0)
 |0=>(R6 n).map λi=> [i]
 |t+1=>(lev g n t).flatMap (kQ g n)
def Ko (g:P0->P0->N3)(n:P0):P0->G0 (G0 P0)
 |0=> []
 |t+1=>Ko g n t++(lev g n t).filter λw=>g (w.getLastD 0) (w.headD 0)
def kT (T:G0 (G0 P4))(i j:P0):N3:=decide (ě T i j>0)
def Kp (T:G0 (G0 P4))(n:P0):G0 (G0 P0):=TV (Ko (kT T) n n)
def ŧ {w:G0 P0}{t:P0}(h:w.length=t+1):ĕ (w.map λ(k:P0)=>D.int (k:P4)) (-1)=zq (.int ((w.getLastD 0:P0):P4)):=by
 refine Nt (by rw [G6];omega) ?_;rw [G6,D1,List.getLastD_eq_getLast?,List.getLast?_eq_getElem?,G5 (by omega)];rfl
end L2
namespace HT
open PySem PySem.Spec PyProof.Rows PySem.SeqAt
open PySem.AutoSeq1 (wpAny_loadPart')
open PySem.MeetsSeq PySem.MeetsSeq2 PySem.MeetsSeq3
inductive Lx (prog:D5)(w:T8)(A:S4)(s:G2):G0 G1->G0 G1->N3->Prop
 |nn:Lx prog w A s [] [] xf
 |nc (u:G1) (us:G0 G1):Lx prog w A s [] (u::us) xb
 |cn (v:G1) (vs:G0 G1):Lx prog w A s (v::vs) [] xf
 |same {v u:G1} {vs us:G0 G1} {b:N3} (e:EqAt A s v u xb) (t:Lx prog w A s vs us b):Lx prog w A s (v::vs) (u::us) b
 |unlike {v u:G1} {vs us:G0 G1} {b:N3} (e:EqAt A s v u xf) (t: ∀ (Q E:G1->G2->Prop),Q (.bool b) s->D6 (R3 prog w) A (oM .Lt v u) Q E s):Lx prog w A s (v::vs) (u::us) b
def Lx.short {prog:D5}{w:T8}{A:S4}{s:G2}{vs us:G0 G1}{b:N3}{m n:P0}(t:Lx prog w A s vs us b)(z:vs.zip us= [])(l:vs.length+n=us.length+m):b=decide (m<n):=by
 cases t with
 |nn=>rw [B6] at l;exact(S0 (by omega)).symm
 |nc u us=>rw [B6,D8] at l;exact(S6 (by omega)).symm
 |cn v vs=>rw [B6,D8] at l;exact(S0 (by omega)).symm
 |same e t=>rw [Z4] at z;cases z
 |unlike e t=>rw [Z4] at z;cases z
def UO (l b:G7)(items Ó:T7 G1)(n n2:P0)(dd η:P1 G7)(sl θ:T7 (P1 G1))(r:N3):
 Meets (Builtin.«tuple.__lt__» ⟨[.ref l,.ref b],[]⟩)
  (λA R s=>s.heap.get? l=zq {cls:= .type "tuple",dict:=dd,data:= .seq items n,slots:=sl}/\s.heap.get? b=zq {cls:= .type "tuple",dict:=η,data:= .seq Ó n2,slots:=θ}/\
   (∀prog w,Lx prog w A.in1 s items.toList Ó.toList r)/\R (.ok (.ret (.bool r))) s):=
 .of_wp λprog w A R s h=>by
  obtain⟨hp,g,d,tk,os⟩:=s;obtain⟨hl,hb,ht,h⟩:=h;have f2:=AutoSeq1.sub_tuple_tuple
  wp_walk using C0 hl,C0 hb,wpAny_forIn_list _ (λrest b s'=>b.1=xa/\s'=⟨hp,g,d,tk,os⟩/\ ∃ (vs us:G0 G1),rest=vs.zip us/\Lx prog w A.in1 ⟨hp,g,d,tk,os⟩ vs us r/\vs.length+Ó.size=us.length+items.size) _
  case turn=>
   rintro ⟨y,x⟩ rest b s' ⟨hb',rfl,vs,us,hz,t,hlen⟩;cases t with
   |nn=>cases hz
   |nc u us=>cases hz
   |cn v vs=>cases hz
   |same e t=>
    rw [Z4] at hz;injection hz with hyx ψ
    injection hyx with hy hx
    subst hy hx;simp only [D8] at hlen;refine xg (e prog w _ _ ?_)
    wp_walk
    exact⟨rfl,rfl,_,_,ψ,t,by omega⟩
   |unlike e t=>
    rw [Z4] at hz;injection hz with hyx ψ
    injection hyx with hy hx
    subst hy hx;refine xg (e prog w _ _ ?_);have hri:=λ{Q E:G1->G2->Prop}=>t Q E
    wp_walk using hri
    exact⟨_,rfl,by simpa using h⟩
  case fin=>
   rintro ⟨b1,b2⟩ s' ⟨hb',rfl,vs,us,hz,t,hlen⟩;simp only at hb';subst hb';have hv:=t.short hz.symm hlen;rw [hv] at h
   wp_walk
   exact⟨_,rfl,by simpa [rO] using h⟩
  case h=>
   exact⟨rfl,rfl,items.toList,Ó.toList,rfl,ht prog w,by rw [N0,N0];omega⟩
def WD {α:Type}{p vs:G0 α}{x:α}{items:T7 α}(e:items.toList=p++x::vs){i:P0}(l:p.length=i):items[((i:P0):P4).toNat]? =zq x:=by
 rw [aH,<-C4,e,<-l];simp
def ŧ {α:Type}{p:G0 α}{items:T7 α}(e:items.toList=p){i:P0}(l:p.length=i):items[((i:P0):P4).toNat]? =xa:=by
 rw [aH,<-C4,e,<-l];simp
section
variable {prog:D5}{w:T8}{A:S4}{R:nZ->G2->Prop}{s:G2}{l b:G7}{items Ó:T7 G1}{n n2:P0}{dd η:P1 G7}{sl θ:T7 (P1 G1)}{r:N3}
def Vp (hl:s.heap.get? l=zq {cls:= .type "list",dict:=dd,data:= .seq items n,slots:=sl})(hb:s.heap.get? b=zq {cls:= .type "list",dict:=η,data:= .seq Ó n2,slots:=θ})(h:R (.ok (.ret (.bool r))) s):
 ∀ {vs us:G0 G1},Lx prog w A.in1 s vs us r-> ∀ (i:P0) (p q:G0 G1),items.toList=p++vs->Ó.toList=q++us->p.length=i->q.length=i->
  D6 (R3 prog w) A.in1 (Builtin.«list.__eq__.loop» ⟨[.ref l,.ref b,aS i,aS 0],[]⟩) (λfin s'=>match fin with| .done f=>R (.ok f) s'| .again c'=>c'.quiet=xb/\U5 (R3 prog w) A c' R s') (λe s'=>R (.error e) s') s:=by
 intro vs us t;obtain⟨hp,g,d,tk,os⟩:=s
 induction t with
 |nn=>
  intro i p q e1 e2 l1 l2;rw [A5] at e1 e2;have z1:items.size=i:=by rw [<-N0,e1];exact l1
  have z2:Ó.size=i:=by rw [<-N0,e2];exact l2
  wp_walk using C0 hl,C0 hb
  rw [ŧ e1 l1]
  wp_walk using C0 hl,C0 hb
  show R (.ok (.ret (.bool (decide (items.size<Ó.size))))) _;rw [z1,z2,show decide (i<i)=xf from S0 (O7 _)];exact h
 |nc u us=>
  intro i p q e1 e2 l1 l2;rw [A5] at e1;have z1:items.size=i:=by rw [<-N0,e1];exact l1
  have z2:i<Ó.size:=by rw [<-N0,e2,P3,l2,D8];omega
  wp_walk using C0 hl,C0 hb
  rw [ŧ e1 l1]
  wp_walk using C0 hl,C0 hb
  show R (.ok (.ret (.bool (decide (items.size<Ó.size))))) _;rw [z1,show decide (i<Ó.size)=xb from S6 z2];exact h
 |cn v vs=>
  intro i p q e1 e2 l1 l2;rw [A5] at e2;have z1:i<items.size:=by rw [<-N0,e1,P3,l1,D8];omega
  have z2:Ó.size=i:=by rw [<-N0,e2];exact l2
  wp_walk using C0 hl,C0 hb
  rw [WD e1 l1,ŧ e2 l2]
  wp_walk using C0 hl,C0 hb
  show R (.ok (.ret (.bool (decide (items.size<Ó.size))))) _;rw [z2,show decide (items.size<i)=xf from S0 (by omega)];exact h
 | @same v u vs us b0 e t ih=>
  intro i p q e1 e2 l1 l2
  wp_walk using C0 hl,C0 hb
  rw [WD e1 l1,WD e2 l2];refine xg (e prog w _ _ ?_)
  wp_walk
  rw [show ((i:P4)+1)=((i+1:P0):P4) by omega];exact⟨pK plain_eq_loop _,bK entry_eq_loop (by
   rw [cB plain_eq_loop _];exact ih h (i+1) (p++ [v]) (q++ [u]) (by rw [e1,D0];rfl) (by rw [e2,D0];rfl) (by rw [P3,l1];rfl) (by rw [P3,l2];rfl))⟩
 | @unlike v u vs us b0 e t=>
  intro i p q e1 e2 l1 l2
  wp_walk using C0 hl,C0 hb
  rw [WD e1 l1,WD e2 l2];refine xg (e prog w _ _ ?_);have hri:=λ{Q E:G1->G2->Prop}=>t Q E
  wp_walk using C0 hl,C0 hb
  rw [WD e1 l1,WD e2 l2]
  wp_walk using hri
  exact h
end
def XZ (l b:G7)(items Ó:T7 G1)(n n2:P0)(dd η:P1 G7)(sl θ:T7 (P1 G1))(r:N3):
 Meets (Builtin.«list.__lt__» ⟨[.ref l,.ref b],[]⟩)
  (λA R s=>s.heap.get? l=zq {cls:= .type "list",dict:=dd,data:= .seq items n,slots:=sl}/\s.heap.get? b=zq {cls:= .type "list",dict:=η,data:= .seq Ó n2,slots:=θ}/\
   (∀prog w,Lx prog w A.in1 s items.toList Ó.toList r)/\R (.ok (.ret (.bool r))) s):=by
 intro prog w A R s h;obtain⟨hl,hb,ht,h⟩:=h;have f3:=AutoSeq1.sub_list_list;have fin:=Vp (prog:=prog) (w:=w) (A:=A) hl hb h (ht prog w) 0 [] [] rfl rfl rfl rfl;obtain⟨hp,g,d,tk,os⟩:=s
 wp_walk using C0 hl,C0 hb
 exact⟨pK plain_eq_loop _,bK entry_eq_loop (by
  rw [cB plain_eq_loop _];exact fin)⟩
end HT
namespace HT
open PySem PySem.Spec PyProof.Rows PySem.SeqAt
mutual
/-- may they be compared? -/
def alk:K8->K8->N3
 | .int _,.int _=>xb
 | .tuple xs,.tuple ys=>alks xs ys
 | .list xs,.list ys=>alks xs ys
 |_,_=>xf
def alks:G0 K8->G0 K8->N3
 |x::xs,y::ys=>alk x y&&alks xs ys
 |_,_=>xb
end
mutual
def ltP:K8->K8->N3
 | .int i,.int j=>decide (i<j)
 | .tuple xs,.tuple ys=>ltPs xs ys
 | .list xs,.list ys=>ltPs xs ys
 |_,_=>xf
def ltPs:G0 K8->G0 K8->N3
 | [],[]=>xf
 | [],_::_=>xb
 |_::_,[]=>xf
 |x::xs,y::ys=>if C8 x y=xb then ltPs xs ys else ltP x y
end
def Lk {prog:D5}{w:T8}{A:S4}{E:G1->G2->Prop}{s:G2}{l b:G7}{o o2:Obj}{items Ó:T7 G1}{n n2:P0}{r:N3}{Q:G1->G2->Prop}(e1:s.heap.get? l=zq o)(c1:o.cls= .type "tuple")(d1:o.data= .seq items n)(e2:s.heap.get? b=zq o2)(c2:o2.cls= .type "tuple")(d2:o2.data= .seq Ó n2)
 (t: ∀prog w,Lx prog w A.in1 s items.toList Ó.toList r)(hu:A.units<cLine)(q:Q (.bool r) s):D6 (R3 prog w) A (oM .Lt (.ref l) (.ref b)) Q E s:=by
 obtain⟨cls,dd,data,sl⟩:=o;obtain⟨X1c,η,G0N,θ⟩:=o2;simp only at c1 d1 c2 d2;subst c1 d1 c2 d2;have g:=UO l b items Ó n n2 dd η sl θ r;refine nB (op:= .Lt) ⟨_,e1,rfl⟩ ⟨_,e2,rfl⟩ x3 xV (xM _ _) g ?_ hu;refine⟨e1,e2,t,?_⟩;exact And.intro (by intro x;cases x) q
def NQ {prog:D5}{w:T8}{A:S4}{E:G1->G2->Prop}{s:G2}{l b:G7}{o o2:Obj}{items Ó:T7 G1}{n n2:P0}{r:N3}{Q:G1->G2->Prop}(e1:s.heap.get? l=zq o)(c1:o.cls= .type "list")(d1:o.data= .seq items n)(e2:s.heap.get? b=zq o2)(c2:o2.cls= .type "list")(d2:o2.data= .seq Ó n2)
 (t: ∀prog w,Lx prog w A.in1 s items.toList Ó.toList r)(hu:A.units<cLine)(q:Q (.bool r) s):D6 (R3 prog w) A (oM .Lt (.ref l) (.ref b)) Q E s:=by
 obtain⟨cls,dd,data,sl⟩:=o;obtain⟨X1c,η,G0N,θ⟩:=o2;simp only at c1 d1 c2 d2;subst c1 d1 c2 d2;have g:=XZ l b items Ó n n2 dd η sl θ r;refine nB (op:= .Lt) ⟨_,e1,rfl⟩ ⟨_,e2,rfl⟩ IQ x4 (xW _ _) g ?_ hu;refine⟨e1,e2,t,?_⟩;exact And.intro (by intro x;cases x) q
mutual
theorem Gi: ∀ (p q:K8) (A:S4) (s:G2) (v u:G1) (as bs:G0 G7),Reads s.heap v p as->Reads s.heap u q bs->p.canLay0=xb->q.canLay0=xb->alk p q=xb->A.units+p.depth<cLine->
 ∀ (prog:D5) (w:T8) (Q E:G1->G2->Prop),Q (.bool (ltP p q)) s->D6 (R3 prog w) A (oM .Lt v u) Q E s
 | .int i,q,A,s,v,u,as,bs,rp,rq,c1,c2,al,hu,prog,w,Q,E,h=>by
  cases q with
  |int j=>
   cases rp;cases rq;exact(IU h:D6 (R3 prog w) A (B8 .Lt (.int i _) (.int j _)) Q E s)
  |none=>cases al
  |bool _=>cases al
  |str _=>cases al
  |list _=>cases al
  |tuple _=>cases al
  |dict _=>cases al
 | .tuple xs,q,A,s,v,u,as,bs,rp,rq,c1,c2,al,hu,prog,w,Q,E,h=>by
  cases q with
  |tuple ys=>
   cases rp with
   |tuple e1 k1 d1 r1=>
    cases rq with
    |tuple e2 k2 d2 r2=>
     have c1':C3 xs=xb:=by simpa only [A8] using c1
     have c2':C3 ys=xb:=by simpa only [A8] using c2
     have du:A.units+(B9 xs+1)<cLine:=by simpa only [J6] using hu
     exact Lk e1 k1 d1 e2 k2 d2 (λprog w=>Ń xs ys A.in1 s _ _ _ _ r1 r2 c1' c2' al (by show A.units+1+_<_;omega) prog w) (by omega) h
  |none=>cases al
  |bool _=>cases al
  |str _=>cases al
  |list _=>cases al
  |int _=>cases al
  |dict _=>cases al
 | .none,q,A,s,v,u,as,bs,rp,rq,c1,c2,al,hu,prog,w,Q,E,h=>by cases al
 | .bool _,q,A,s,v,u,as,bs,rp,rq,c1,c2,al,hu,prog,w,Q,E,h=>by cases al
 | .str _,q,A,s,v,u,as,bs,rp,rq,c1,c2,al,hu,prog,w,Q,E,h=>by cases al
 | .list xs,q,A,s,v,u,as,bs,rp,rq,c1,c2,al,hu,prog,w,Q,E,h=>by
  cases q with
  |list ys=>
   cases rp with
   |list e1 k1 d1 r1=>
    cases rq with
    |list e2 k2 d2 r2=>
     have c1':C3 xs=xb:=by simpa only [A8] using c1
     have c2':C3 ys=xb:=by simpa only [A8] using c2
     have du:A.units+(B9 xs+1)<cLine:=by simpa only [J6] using hu
     exact NQ e1 k1 d1 e2 k2 d2 (λprog w=>Ń xs ys A.in1 s _ _ _ _ r1 r2 c1' c2' al (by show A.units+1+_<_;omega) prog w) (by omega) h
  |none=>cases al
  |bool _=>cases al
  |str _=>cases al
  |tuple _=>cases al
  |int _=>cases al
  |dict _=>cases al
 | .dict _,q,A,s,v,u,as,bs,rp,rq,c1,c2,al,hu,prog,w,Q,E,h=>by cases al
theorem Ń: ∀ (xs ys:G0 K8) (A:S4) (s:G2) (vs us:G0 G1) (as bs:G0 G7),ReadsAll s.heap vs xs as->ReadsAll s.heap us ys bs->C3 xs=xb->C3 ys=xb->alks xs ys=xb->A.units+B9 xs<cLine->
 ∀ (prog:D5) (w:T8),Lx prog w A s vs us (ltPs xs ys)
 | [],[],A,s,vs,us,as,bs,ra,rb,_,_,_,_,prog,w=>by
  cases ra;cases rb;exact .nn
 | [],y::ys,A,s,vs,us,as,bs,ra,rb,_,_,_,_,prog,w=>by
  cases ra;cases rb with
  |cons r rs=>exact .nc _ _
 |x::xs,[],A,s,vs,us,as,bs,ra,rb,_,_,_,_,prog,w=>by
  cases rb;cases ra with
  |cons r rs=>exact .cn _ _
 |x::xs,y::ys,A,s,vs,us,as,bs,ra,rb,c1,c2,al,hu,prog,w=>by
  cases ra with
  |cons r rs=>
   cases rb with
   |cons r' ť=>
    have d1:x.canLay0=xb/\C3 xs=xb:=by simpa [C3] using c1
    have d2:y.canLay0=xb/\C3 ys=xb:=by simpa [C3] using c2
    have al':alk x y=xb/\alks xs ys=xb:=by simpa [alks] using al
    have dx:A.units+x.depth<cLine/\A.units+B9 xs<cLine:=by simp only [B9] at hu;omega
    have eq:=eqAt_reads x y A s _ _ _ _ r r' d1.1 d2.1 (by have:=tG x.depth y.depth;omega);unfold ltPs;cases e:C8 x y with
    |true=>
     rw [e] at eq;rw [S5 rfl];exact .same eq (Ń xs ys A s _ _ _ _ rs ť d1.2 d2.2 al'.2 dx.2 prog w)
    |false=>
     rw [e] at eq;rw [R9 D2];exact .unlike eq λQ E q=>Gi x y A s _ _ _ _ r r' d1.1 d2.1 al'.1 dx.1 prog w Q E q
end
end HT
namespace L2
open PySem PySem.Spec PyProof.Rows PySem.SeqAt HT
open Classical in
noncomputable def readOf (h:N8)(v:G1):K8:=if e: ∃p as,p.canLay0=xb/\Reads h v p as then e.choose else .none
end L2
namespace L2
open PySem PySem.Spec PyProof.Rows
def Gj {P:D5}{w:T8}{K:G3}{mg:Str->P1 G1}{base:N8}{k:P0}{f:G7}{fd:R8}{ps:G0 Str}{sp:RDn}(no: ∀ds h Q,sp ds h Q->False):Ì P w K mg base à k f fd ps (í K sp):=
 ⟨λvs H Q E ⟨ds,h,Qd,_,_,z,_⟩=>(no ds h Qd z).elim,λA outer s H args us vs Q E _ _ _ _ ⟨ds,h,Qd,_,_,z,_⟩=>(no ds h Qd z).elim⟩
end L2
namespace L2
open PySem PySem.Spec PyProof.Rows PySem.SeqAt
def we:G0 (G0 P4)->G0 (G0 P4)->N3
 | [],[]=>xf
 | [],_::_=>xb
 |_::_,[]=>xf
 |a::A,b::B=>if a=b then we A B else HT.zT a b
theorem Ca: ∀A:G0 (G0 P4),we A A=xf
 | []=>rfl
 |a::A=>by show (if a=a then we A A else _)=xf;rw [S5 rfl];exact Ca A
def NR {a b c:G0 P4}(x:HT.zT a b=xb)(y:HT.zT b c=xb):HT.zT a c=xb:=by
 rcases HT.UM a c b x with z|z
 ·exact z
 ·rw [HT.Zb _ _ y] at z;cases z
theorem Vq: ∀ {A B C:G0 (G0 P4)},we A B=xb->we B C=xb->we A C=xb
 | [],[],_,x,_=>by cases x
 | [],_::_,[],_,y=>by cases y
 | [],_::_,_::_,_,_=>rfl
 |_::_,[],_,x,_=>by cases x
 |_::_,_::_,[],_,y=>by cases y
 |a::A,b::B,c::C,x,y=>by
  change (if a=b then we A B else HT.zT a b)=xb at x
  change (if b=c then we B C else HT.zT b c)=xb at y
  show (if a=c then we A C else HT.zT a c)=xb
  by_cases e1:a=b
  ·subst e1;rw [S5 rfl] at x
   by_cases e2:a=c
   ·rw [S5 e2] at y ⊢;exact Vq x y
   ·rw [R9 e2] at y ⊢;exact y
  ·rw [R9 e1] at x
   by_cases e2:b=c
   ·subst e2;rw [R9 e1];exact x
   ·rw [R9 e2] at y;have z:=NR x y;have ne:a≠c:=λw=>by subst w;rw [HT.Zb _ _ x] at y;cases y
    rw [R9 ne];exact z
theorem Vr: ∀A B:G0 (G0 P4),A=B\/we A B=xb\/we B A=xb
 | [],[]=> .inl rfl
 | [],_::_=> .inr (.inl rfl)
 |_::_,[]=> .inr (.inr rfl)
 |a::A,b::B=>by
  show _\/(if a=b then we A B else HT.zT a b)=xb\/(if b=a then we B A else HT.zT b a)=xb
  by_cases e:a=b
  ·subst e;rw [S5 rfl,S5 rfl];rcases Vr A B with z|z|z
   ·exact .inl (by rw [z])
   ·exact .inr (.inl z)
   ·exact .inr (.inr z)
  ·rw [R9 e,R9 (O6 e)];cases x:HT.zT a b with
   |true=>exact .inr (.inl rfl)
   |false=>
    cases y:HT.zT b a with
    |true=>exact .inr (.inr rfl)
    |false=>exact xj (HT.WC _ _ x y) e
def Ll {A B:G0 (G0 P4)}(x:we A B=xb):we B A=xf:=by
 cases y:we B A with
 |false=>rfl
 |true=>have:=Vq x y;rw [Ca] at this;cases this
theorem Gk: ∀a b:G0 P4,HT.ltPs (a.map .int) (b.map .int)=HT.zT a b
 | [],[]=>rfl
 | [],_::_=>rfl
 |_::_,[]=>rfl
 |x::a,y::b=>by
  show (if (x==y)=xb then HT.ltPs (a.map .int) (b.map .int) else decide (x<y))=if x=y then HT.zT a b else decide (x<y)
  rw [Gk a b]
  by_cases c:x=y
  ·rw [S5 c,S5 (by simpa using c)]
  ·rw [R9 c,R9 (by simpa using c)]
theorem Gm: ∀a b:G0 P4,HT.alks (a.map .int) (b.map .int)=xb
 | [],_=>by unfold HT.alks;rfl
 |_::_,[]=>rfl
 |x::a,y::b=>by
  show (xb&&HT.alks (a.map .int) (b.map .int))=xb;rw [Gm a b];rfl
end L2
namespace L2
open PySem PySem.Spec PyProof.Rows
def s5:P0->P0
 |0=>0
 |d+1=>5*s5 d+1
def f5 (N:P0):P0->P0->P0
 |0,a=>a
 |d+1,a=>(f5 N d a*5+1)%N
theorem Gn: ∀ (fuel k n:P0),3<=k-> ∃m,3<=m/\SetTable.sizeAbove.go n fuel (2^k)=2^m/\(n<2^(k+fuel)->n<2^m)
 |0,k,n,h=>⟨k,h,rfl,λz=>z⟩
 |fuel+1,k,n,h=>by
  unfold SetTable.sizeAbove.go
  by_cases c:2^k<=n
  ·rw [S5 c,<-xX];obtain⟨m,a,b,d⟩:=Gn fuel (k+1) n (by omega);exact⟨m,a,b,λz=>d (by rw [i9,l8];exact z)⟩
  ·rw [R9 c];exact⟨k,h,rfl,λ_=>by omega⟩
def above {n:P0}(h:n<2^67): ∃m,dO n=2^m/\n<dO n/\8<=dO n:=by
 obtain⟨m,a,b,c⟩:=Gn 64 3 n (by decide);have b:dO n=2^m:=b;refine⟨m,b,by rw [b];exact c h,?_⟩;rw [b];exact Nat.pow_le_pow_right (show 0<2 by decide) a
end L2
namespace L2
open PySem PySem.Spec PyProof.Rows HT
def Rv (h h':N8):Prop:= ∀ (b:G7) (o:Obj),o.cls= .type "tuple" ->h.get? b=zq o->h'.get? b=zq o
theorem vY {α β:Type}{M:cN}{A:S4}{E:G1->G2->Prop}{s:G2}{f:α->β->Sem (dW β)}{r:β}{Q:β->G2->Prop}: ∀ (l:G0 α),(∀x∈l,∀Q':dW β->G2->Prop,Q' (.yield r) s->D6 M A (f x r) Q' E s)->Q r s->D6 M A (forIn l r f) Q E s
 | [],_,q=>G8 q
 |x::l,h,q=>by
  rw [aC];exact xg (h x (.head _) _ (vY l (λy hy=>h y (.tail _ hy)) q))
structure X1H (prog:D5)(w:T8)(K:Type)[DecidableEq K] where
 is:N8->K->G7->Prop
 hash:K->P4
 inj: ∀ {h:N8} {x y:K} {a:G7},is h x a->is h y a->x=y
 keep: ∀ {h h':N8} {x:K} {a:G7},Rv h h'->is h x a->is h' x a
 hashed: ∀ {A:S4} {E:G1->G2->Prop} {s:G2} {x:K} {a:G7} {Q:P4->G2->Prop},A.units+8<cLine->is s.heap x a->(∀tk,Q (hash x) {s with toks:=tk})->D6 (R3 prog w) A (pyHash (.ref a)) Q E s
 same: ∀ {A:S4} {E:G1->G2->Prop} {s:G2} {x y:K} {a b:G7} {Q:N3->G2->Prop},A.units+8<cLine->is s.heap x a->is s.heap y b->Q (decide (x=y)) s->D6 (R3 prog w) A (eqBool (.ref a) (.ref b)) Q E s
 quiet: ∀ {A:S4} {E:G1->G2->Prop} {s:G2} {x:K} {a:G7} {Q:N3->G2->Prop},is s.heap x a->Q xb s->D6 (R3 prog w) A (oY 8 (.ref a)) Q E s
 cls: ∀ {A:S4} {E:G1->G2->Prop} {s:G2} {x:K} {a:G7} {Q:N3->G2->Prop},is s.heap x a->Q xf s->D6 (R3 prog w) A (X5 8 (.ref a)) Q E s
 byv: ∀ {A:S4} {E:G1->G2->Prop} {s:G2} {x:K} {a:G7} {Q:N3->G2->Prop},is s.heap x a->Q xb s->D6 (R3 prog w) A (g9 8 (.ref a)) Q E s
section
variable {prog:D5}{w:T8}{A:S4}{E:G1->G2->Prop}{s:G2}
def Lm (n:P0){v:G1}(h:carriedByValue v=xb):X5 n v=pure xf:=by
 cases v<;>first|(cases h;done)|simp [X5]
def Cb {n:P4}{v:G1}(h:(intKind prog w).is n v=xb): ∃tk,v= .int n tk:=by
 cases v<;>simp [intKind,nU] at h;exact⟨_,by rw [h]⟩
def GZ {ks:G0 P4}{vs:G0 G1}(h:ItemsAre (intKind prog w) ks vs): ∀v∈vs,∃n tk,v= .int n tk:=by
 induction h with
 |nil=>exact λv hv=>xj hv F9
 |cons h1 _ ih=>
  intro v hv;rcases R5.mp hv with rfl|hv
  ·obtain⟨tk,e⟩:=Cb h1;exact⟨_,tk,e⟩
  ·exact ih v hv
def Rw (d:P0){x:G0 P4}{a:G7}{Q:N3->G2->Prop}:j0 (intKind prog w) s.heap x a->Q xf s->D6 (R3 prog w) A (X5 (d+1) (.ref a)) Q E s
 |⟨_,_,_,ho,hc,hd,hi⟩,q=>by
  unfold X5;refine xg (iI (T:= "tuple") ⟨_,ho,hc⟩ ?_);simp only [gK,↓reduceIte,pure_bind,l9,Y9];refine xg (cC ho hd (xg ?_));simp only [<-U3];refine vY _ (λv hv Q' q'=> ?_) (G8 q);rw [Lm d (hi.byValue v hv)];exact G8 q'
def Ln (d:P0)(m:P4)(tk:Tok):g9 d (.int m tk)=pure xb:=by cases d<;>rfl
def Rx (d:P0){x:G0 P4}{a:G7}{Q:N3->G2->Prop}:j0 (intKind prog w) s.heap x a->Q xb s->D6 (R3 prog w) A (g9 (d+1) (.ref a)) Q E s
 |⟨_,_,_,ho,hc,hd,hi⟩,q=>by
  unfold g9;refine xg (X7 (T:= "tuple") ⟨_,ho,hc⟩ F.slot_tuple_hash.lookup ?_);refine xg (cC ho hd (xg ?_));simp only [cK,<-U3];refine vY _ (λv hv Q' q'=> ?_) (G8 q);obtain⟨m,tk,rfl⟩:=GZ hi v hv;rw [Ln];exact G8 q'
def kU (prog:D5)(w:T8):X1H prog w (G0 P4) where
 is:=λh x a=>j0 (intKind prog w) h x a
 hash:=V0 (intKind prog w)
 inj:=λhx hy=>hx.inj hy
 keep:=λk ⟨o,items,n,ho,hc,hd,hi⟩=>⟨o,items,n,k _ o hc ho,hc,hd,hi⟩
 hashed:=λhu hk q=>j5 (by omega) hk (q _)
 same:=λhu hx hy q=>pW (by omega) hx hy q
 quiet:=λhk q=>wpAny_eqIsQuiet_tuple hk q
 cls:=λhk q=>Rw 7 hk q
 byv:=λhk q=>Rx 7 hk q
end
end L2
namespace L2
open PySem PySem.Spec PyProof.Rows HT PySem.SeqAt
theorem YM {prog:D5}{w:T8}: ∀ {vs:G0 G1} {ns:G0 P4},mW vs ns->ItemsAre (intKind prog w) ns vs
 |_,_,.nil=> .nil
 |_,_,.cons n t a=> .cons (by simp [intKind,nU]) (YM a)
variable {À:G0 (G7×Obj)}{H:Hp}
def EF {X:Cx}{σ:St}{s:G2}(I:Inv X À σ H s)(k:G0 P4)(b:G7)(h:H b=zq (.tup (k.map V.int))):(kU X.prog X.w).is s.heap k b:=by
 obtain⟨_,us,r2,o,e,c,_,n,d⟩:=I.hok b _ h;exact⟨o,us.toArray,n,e,c,d,YM (DT r2)⟩
section
variable {prog:D5}{w:T8}{A:S4}{E:G1->G2->Prop}{s:G2}
inductive Õ (prog:D5)(w:T8)(h:N8):G0 (G0 P4)->G0 G1->Prop
 |nil:Õ prog w h [] []
 |cons {r:G0 P4} {b:G7} {T:G0 (G0 P4)} {vs:G0 G1}:j0 (intKind prog w) h r b->Õ prog w h T vs->Õ prog w h (r::T) (.ref b::vs)
variable {h:N8}
def Õ.one: ∀ {T U:G0 (G0 P4)} {vs:G0 G1},Õ prog w h T vs->Õ prog w h U vs->T=U
 |_,_,_,.nil,.nil=>rfl
 |_,_,_,.cons a x,.cons b y=>by rw [a.inj b,x.one y]
def Õ.keep {h':N8}(k:Rv h h'): ∀ {T:G0 (G0 P4)} {vs:G0 G1},Õ prog w h T vs->Õ prog w h' T vs
 |_,_,.nil=> .nil
 |_,_,.cons ⟨o,items,n,ho,hc,hd,hi⟩ x=> .cons ⟨o,items,n,k _ o hc ho,hc,hd,hi⟩ (x.keep k)
def Õ.each: ∀ {T:G0 (G0 P4)} {vs:G0 G1},Õ prog w h T vs-> ∀v∈vs,∃r b,v= .ref b/\j0 (intKind prog w) h r b
 |_,_,.nil,v,hv=>xj hv F9
 |_,_,.cons a x,v,hv=>by
  rcases R5.mp hv with e|hv
  ·exact⟨_,_,e,a⟩
  ·exact x.each v hv
def Yg (prog:D5)(w:T8)(h:N8)(T:G0 (G0 P4))(a:G7):Prop:= ∃o items n,h.get? a=zq o/\o.cls= .type "tuple" /\o.data= .seq items n/\Õ prog w h T items.toList
def Pa (prog:D5)(w:T8)(T:G0 (G0 P4)):P4:=mX (V7 (T.map (V0 (intKind prog w))))
theorem UP {Q:T7 P4->G2->Prop}(hu:A.units+4<cLine): ∀ {vs:G0 G1} {U:G0 (G0 P4)} (b:T7 P4) (s1:G2),s1.heap=s.heap->Õ prog w s.heap U vs->(∀tk,Q (b++(U.map (V0 (intKind prog w))).toArray) {s1 with toks:=tk})->
 D6 (R3 prog w) A (forIn vs b λx r=>do let h <-pyHash x;pure (X8 (r.push h))) Q E s1
 |_,_,b,s1,_,.nil,q=>G8 (by have:=q s1.toks;simpa using this)
 |_,_,b,s1,e1,.cons (r:=r) (T:=U) a x,q=>by
  rw [aC];refine xg (xg (j5 (by omega) (by rw [e1];exact a) (G8 ?_)));exact UP hu (b.push (V0 (intKind prog w) r)) _ e1 x λtk=>by
   have:=q tk;rw [S9] at this;simpa using this
variable {T:G0 (G0 P4)}{a:G7}
def NS {Q:P4->G2->Prop}(hu:A.units+8<cLine)(hT:Yg prog w s.heap T a)(q: ∀tk,Q (Pa prog w T) {s with toks:=tk}):D6 (R3 prog w) A (pyHash (.ref a)) Q E s:=by
 obtain⟨o,items,n,ho,hc,hd,hi⟩:=hT;have ty:s.TypeIs (.ref a) "tuple" :=⟨o,ho,hc⟩;have room:A.units<cLine:=by omega
 have slot:=λ{M:cN} {A':S4} {E':G1->G2->Prop} {P:P1 G1->G2->Prop}=>X7 (M:=M) (A:=A') (E:=E') (Q:=P) ty F.slot_tuple_hash.lookup
 unfold pyHash pyHashByItsType;refine xg (rG (.inr room) (xg (slot ?_)));rw [R9 (by simp)];refine xg (slot (xg (bQ ty fK (F8 fK ty pX ?_ (o6 _)))));show D6 _ _ (Y8 (.ref a) >>= _) _ _ s;refine xg (pY ho hd (xg ?_));rw [<-U3];refine UP (A:=A.in1) (show A.units+1+4<cLine by omega) #[] s rfl hi λtk=> ?_
 have told:=q (tk+1);unfold Pa mX at told;show D6 _ _ (retInt (V7 ((#[]:T7 P4)++(T.map (V0 (intKind prog w))).toArray).toList)) _ _ _;rw [show ((#[]:T7 P4)++(T.map (V0 (intKind prog w))).toArray).toList=T.map (V0 (intKind prog w)) by simp];refine iA ?_;show D6 _ _ (aW _) _ _ _;unfold aW;split
 ·rename_i c;rw [S5 c] at told;exact G8 told
 ·rename_i c;rw [R9 c] at told;exact xg (dH (G8 told))
def Õ.len: ∀ {T:G0 (G0 P4)} {vs:G0 G1},Õ prog w h T vs->T.length=vs.length
 |_,_,.nil=>rfl
 |_,_,.cons _ x=>by rw [D8,D8,x.len]
def Ry (d:P0){x:G0 P4}{a:G7}{Q:N3->G2->Prop}:j0 (intKind prog w) s.heap x a->Q xb s->D6 (R3 prog w) A (oY (d+1) (.ref a)) Q E s
 |⟨_,_,_,ho,hc,hd,hi⟩,q=>by
  unfold oY;refine xg (X7 (T:= "tuple") ⟨_,ho,hc⟩ F.slot_tuple_eq.lookup (xg (cM (T:= "tuple") ⟨_,ho,hc⟩ nP ?_)));simp only [l9,Y9,↓reduceIte];refine xg (cC ho hd (xg ?_));simp only [cK,<-U3];refine vY _ (λv hv Q' q'=> ?_) (G8 q);rw [eqIsQuiet_byValue d (hi.byValue v hv)];exact G8 q'
variable {Q:N3->G2->Prop}
def UQ:Yg prog w s.heap T a->Q xb s->D6 (R3 prog w) A (oY 8 (.ref a)) Q E s
 |⟨_,_,_,ho,hc,hd,hi⟩,q=>by
  unfold oY;refine xg (X7 (T:= "tuple") ⟨_,ho,hc⟩ F.slot_tuple_eq.lookup (xg (cM (T:= "tuple") ⟨_,ho,hc⟩ nP ?_)));simp only [l9,Y9,↓reduceIte];refine xg (cC ho hd (xg ?_));simp only [cK,<-U3];refine vY _ (λv hv Q' q'=> ?_) (G8 q);obtain⟨r,b,rfl,hr⟩:=hi.each v hv;exact xg (Ry 6 hr (G8 q'))
def Lo:Yg prog w s.heap T a->Q xf s->D6 (R3 prog w) A (X5 8 (.ref a)) Q E s
 |⟨_,_,_,ho,hc,hd,hi⟩,q=>by
  unfold X5;refine xg (iI (T:= "tuple") ⟨_,ho,hc⟩ ?_);simp only [gK,↓reduceIte,pure_bind,l9,Y9];refine xg (cC ho hd (xg ?_));simp only [<-U3];refine vY _ (λv hv Q' q'=> ?_) (G8 q);obtain⟨r,b,rfl,hr⟩:=hi.each v hv;exact xg (Rw 6 hr (G8 q'))
def Lp:Yg prog w s.heap T a->Q xb s->D6 (R3 prog w) A (g9 8 (.ref a)) Q E s
 |⟨_,_,_,ho,hc,hd,hi⟩,q=>by
  unfold g9;refine xg (X7 (T:= "tuple") ⟨_,ho,hc⟩ F.slot_tuple_hash.lookup (xg (cC ho hd (xg ?_))));simp only [cK,<-U3];refine vY _ (λv hv Q' q'=> ?_) (G8 q);obtain⟨r,b,rfl,hr⟩:=hi.each v hv;exact xg (Rx 6 hr (G8 q'))
theorem vt: ∀ {ks:G0 P4} {vs:G0 G1},ItemsAre (intKind prog w) ks vs->ReadsAll h vs (ks.map i4) []
 |_,_,.nil=> .nil
 |_,_,.cons a x=>by
  obtain⟨tk,rfl⟩:=Cb a;exact .cons (as:= []) (bs:= []) (.int _ _) (vt x)
theorem Zc: ∀ {T:G0 (G0 P4)} {vs:G0 G1},Õ prog w h T vs->ReadsAll h vs (T.map vD) []
 |_,_,.nil=> .nil
 |_,_,.cons ⟨_,_,_,ho,hc,hd,hi⟩ x=> .cons (as:= []) (bs:= []) (.tuple ho hc hd (vt hi)) (Zc x)
def RA {U:G0 (G0 P4)}{b:G7}(hu:A.units+8<cLine)(hT:Yg prog w s.heap T a)(hU:Yg prog w s.heap U b)(q:Q (decide (T=U)) s):D6 (R3 prog w) A (eqBool (.ref a) (.ref b)) Q E s:=by
 obtain⟨_,_,_,ho,hc,hd,hi⟩:=hT;obtain⟨_,_,_,ho',hc',ō,hi'⟩:=hU;have lay: ∀V:G0 (G0 P4),A8 (.tuple (V.map vD))=xb:=λV=>by simp only [A8];exact vV V
 have dep:J6 (.tuple (T.map vD))<=4:=by simp only [J6];have:=vp T;omega
 refine eqBoolOverData prog w A E s _ _ _ _ _ _ Q (.tuple ho hc hd (Zc hi)) (.tuple ho' hc' ō (Zc hi')) (lay T) (lay U) (by have:=tG (J6 (.tuple (T.map vD))) (J6 (.tuple (U.map vD)));omega) ?_;show Q (Q1 (T.map vD) (U.map vD)) s;rw [wI];exact q
def Sr (prog:D5)(w:T8):X1H prog w (G0 (G0 P4)) where
 is:=λh T a=>Yg prog w h T a
 hash:=Pa prog w
 inj:=λ⟨_,_,_,ho,_,hd,hi⟩ ⟨_,_,_,ho',_,ō,hi'⟩=>by
  rw [ho] at ho';cases ho';rw [hd] at ō;cases ō;exact hi.one hi'
 keep:=λk ⟨o,items,n,ho,hc,hd,hi⟩=>⟨o,items,n,k _ o hc ho,hc,hd,hi.keep k⟩
 hashed:=λhu hk q=>NS hu hk q
 same:=λhu hx hy q=>RA hu hx hy q
 quiet:=λhk q=>UQ hk q
 cls:=λhk q=>Lo hk q
 byv:=λhk q=>Lp hk q
end
def NT (H:Hp):G0 V->G0 (G0 P4)->Prop
 | [],[]=>True
 |v::vs,r::T=>(∃c,v= .ref c/\H c=zq (.tup (r.map V.int)))/\NT H vs T
 |_,_=>False
def Xx (H:Hp)(T:G0 (G0 P4))(b:G7):Prop:= ∃us,H b=zq (.tup us)/\NT H us T
theorem RB {X:Cx}{σ:St}{s:G2}(I:Inv X À σ H s): ∀ {vs:G0 V} {T:G0 (G0 P4)} {us:G0 G1},NT H vs T->Æ vs us->Õ X.prog X.w s.heap T us
 | [],[],_,_,.nil=> .nil
 |_::_,r::_,_,⟨⟨c,e,hc⟩,x⟩,.cons rv y=>by
  subst e;cases rv;exact .cons (EF I r c hc) (RB I x y)
def Js {X:Cx}{σ:St}{s:G2}(I:Inv X À σ H s)(T:G0 (G0 P4))(b:G7)(h:Xx H T b):(Sr X.prog X.w).is s.heap T b:=by
 obtain⟨us,hb,x⟩:=h;obtain⟨_,its,rv,o,e,c,_,n,d⟩:=I.hok b _ hb;exact⟨o,its.toArray,n,e,c,d,by rw [List.toList_toArray];exact RB I x rv⟩
theorem Qa {K:G3}: ∀ {T:G0 (G0 P4)} {vs:G0 V},Á K H (T.map wU) vs->NT H vs T
 | [],vs,r=>by
  have:vs= []:=r;subst this;exact Y7
 |row::T,vs,r=>by
  obtain⟨v,us,e,r1,r2⟩:=(show ∃v r,vs=v::r/\É K H (wU row) v/\Á K H (T.map wU) r from r);obtain⟨a,ws,e4,hH,r4⟩:=(show ∃a vs,v= .ref a/\H a=zq (.tup vs)/\Á K H (row.map D.int) vs from r1);rw [yp r4] at hH;subst e;exact⟨⟨a,e4,hH⟩,Qa r2⟩
theorem RC {K:G3}: ∀ {Ts:G0 (G0 (G0 P4))} {vs:G0 V},Á K H (Ts.map ju) vs-> ∃ps:G0 (G7×G0 (G0 P4)),vs=ps.map (λp=>V.ref p.1)/\Ts=ps.map (·.2)/\ ∀p∈ps,Xx H p.2 p.1
 | [],vs,r=>⟨[],r,rfl,λp hp=>by cases hp⟩
 |T::Ts,vs,r=>by
  obtain⟨v,us,e,r1,r2⟩:=(show ∃v r,vs=v::r/\É K H (ju T) v/\Á K H (Ts.map ju) r from r);obtain⟨ps,e1,e2,e3⟩:=RC r2;obtain⟨a,ws,e4,hH,r4⟩:=(show ∃a vs,v= .ref a/\H a=zq (.tup vs)/\Á K H (T.map wU) vs from r1);exact⟨(a,T)::ps,by rw [e,e1,e4];rfl,by rw [e2];rfl,λp hp=>by
   rcases R5.mp hp with rfl|hp
   ·exact⟨ws,hH,Qa r4⟩
   ·exact e3 p hp⟩
end L2
namespace L2
open PySem PySem.Spec PyProof.Rows PySem.W
structure Ê (K:Frag)(x:Str)(st:L8)(f:G7)(fd:R8):Prop where
 at_:nsIn K xi x=zq (zq (.ref f))
 fn:â K x x st f fd
variable {K:Frag}{h base:N8}{mg:Str->P1 G1}{x:Str}{st:L8}{f:G7}{fd:R8}{P:D5}{w:T8}{n:P0}{ps:G0 Str}
def EG {oc:G1}{od an:P1 G7}{Ĕ:T7 (P1 G1)}{kV doc pm Ï ct:G1}(a:nsIn K xi x=zq (zq (.ref f)))(l:K.lookup f=zq ⟨oc,od,.func (fnOf x x (wD st) (jL st) (jd st) .none kV doc pm an Ï ct),Ĕ⟩)
 (c:codeIn K Ï x=xb)(k:keepIn K (.ref f)=xb):Ê K x st f (fnOf x x (wD st) (jL st) (jd st) .none kV doc pm an Ï ct):=⟨a,BM l c k⟩
abbrev EH (x:Str)(st:L8)(ps:G0 Str):Prop:= ∀ (kV doc pm:G1) (an:P1 G7) (Ï ct:G1) (us:G0 G1),us.length=ps.length->qL (fnOf x x (wD st) (jL st) (jd st) .none kV doc pm an Ï ct) ⟨us,[]⟩=pure (ps.zip us)
def Ê.nm (d:Ê K x st f fd)(X:K.In h)(G:h.Ns xi mg):mg x=zq (.ref f):=mg_of X G d.at_
variable {C:G0 G1->Prop}
def ln1 (g: ∀a,C [a]): ∀us:G0 G1,us.length=1->C us
 | [_],_=>g _
def ln2 (g: ∀a b,C [a,b]): ∀us:G0 G1,us.length=2->C us
 | [_,_],_=>g _ _
def ln3 (g: ∀a b c,C [a,b,c]): ∀us:G0 G1,us.length=3->C us
 | [_,_,_],_=>g _ _ _
def ln4 (g: ∀a b c d,C [a,b,c,d]): ∀us:G0 G1,us.length=4->C us
 | [_,_,_,_],_=>g _ _ _ _
def ln5 (g: ∀a b c d e,C [a,b,c,d,e]): ∀us:G0 G1,us.length=5->C us
 | [_,_,_,_,_],_=>g _ _ _ _ _
def Ê.cal {sp:RDn}(d:Ê K x st f fd)(l:OpenLaw)(w:T8)(base:N8)(X:K.In h)(G:h.Ns xi mg)(ok:Ì l.prog w K mg base à n f fd ps (í K sp))(b:EH x st ps:=by first|exact λ_ _ _ _ _ _=>ln1 λ_=>rfl|exact λ_ _ _ _ _ _=>ln2 λ_ _=>rfl|exact λ_ _ _ _ _ _=>ln3 λ_ _ _=>rfl|exact λ_ _ _ _ _ _=>ln4 λ_ _ _ _=>rfl|exact λ_ _ _ _ _ _=>ln5 λ_ _ _ _ _=>rfl):jn l.prog w K mg base n x ps sp:=⟨_,_,ok,d.fn.binds b,d.fn.kp,d.nm X G⟩
def Ê.rai {sp:RDx}(d:Ê K x st f fd)(l:OpenLaw)(w:T8)(base:N8)(X:K.In h)(G:h.Ns xi mg)(ok:Ì l.prog w K mg base (Ģ l.prog w) n f fd ps (ė mg K sp))(b:EH x st ps:=by first|exact λ_ _ _ _ _ _=>ln1 λ_=>rfl|exact λ_ _ _ _ _ _=>ln2 λ_ _=>rfl|exact λ_ _ _ _ _ _=>ln3 λ_ _ _=>rfl|exact λ_ _ _ _ _ _=>ln4 λ_ _ _ _=>rfl|exact λ_ _ _ _ _ _=>ln5 λ_ _ _ _ _=>rfl):zc l.prog w K mg base n x ps sp:=⟨_,_,ok,d.fn.binds b,d.fn.kp,d.nm X G⟩
def zsB (K:Frag):N3:= ["len","max","min","divmod","all","any","repr","sum","sorted","int","tuple","list","set","bool","isinstance","range","zip","enumerate","reversed"].all λx=>nsIn K xi (P6 x)==zq xa
def TW (X:K.In h)(G:h.Ns xi mg)(e:zsB K=xb):Zs mg:=by
 unfold zsB at e;rw [H0] at e;have m:=λ(x:F7) hx=>mg_none_of X G (beq_iff_eq.mp (e x hx))
 exact⟨m "len" (by decide),m "max" (by decide),m "min" (by decide),m "divmod" (by decide),m "all" (by decide),m "any" (by decide),m "repr" (by decide),m "sum" (by decide),m "sorted" (by decide),m "int" (by decide),m "tuple" (by decide),m "list" (by decide),m "set" (by decide),m "bool" (by decide),m "isinstance" (by decide),m "range" (by decide),m "zip" (by decide),m "enumerate" (by decide),m "reversed" (by decide)⟩
end L2
namespace L2
open PySem PySem.Spec PyProof.Rows
def Sub.overC {h h':HD}{a:G7}{c:DC}(sb:Sub h h')(e:h.dc a=xa):Sub h (MD h' a c):=⟨sb.ls,λb xs z=>by
 rw [vO (λw=>by subst w;rw [e] at z;cases z)];exact sb.dc b xs z⟩
end L2
set_option maxRecDepth 35000
namespace L2
open PySem PySem.Spec PyProof.Rows
section
variable {X:Cx}{k i:P0}{ps N Pn:G0 Str}{ą:RDn}{x:Str}{p pos pos':Pos}{e e2 e3 e4 iter elt:S2}{es ifs:G0 S2}{t:TAD}{te te2 te3 te4:TED}{ti:TID}{tt:TTD}{scope sc:A2}{c:S2}
def jk (C:jn X.prog X.w X.K X.mg X.base k x ps ą)(hr:Ð k X.A)(ha:JA X (e::es) t)(hg:Gl X x:=by rfl)(hdb:(x==("__debug__" :Str))=xf:=by decide)(he:P9 (e::es) X.env=(xf,L7 e X.env)::P9 es X.env:=by rfl)(hpl:(E3 pos (P9 es X.env)).any (·.1)=xf:=by rfl):JE X (.Call (.Name x p) (e::es) [] pos) (Ķ ą t):=by
 obtain⟨g,gd,F,hb,hk,hm⟩:=C;exact TD F hr hg hm hk hb ha hdb he hpl
def Ů {Ŧ:RDx}(C:zc X.prog X.w X.K X.mg X.base k x ps Ŧ)(hr:Ð k X.A)(ha:JA X (e::es) t)(hg:Gl X x:=by rfl)(hdb:(x==("__debug__" :Str))=xf:=by decide)(he:P9 (e::es) X.env=(xf,L7 e X.env)::P9 es X.env:=by rfl)(hpl:(E3 pos (P9 es X.env)).any (·.1)=xf:=by rfl):JXE X (.Call (.Name x p) (e::es) [] pos) (Eo Ŧ t):=by
 obtain⟨g,gd,F,hb,hk,hm⟩:=C;exact La F hr hg hm hk hb ha hdb he hpl
def j1 (a:JE X e te)(h:zH e=xb:=by rfl):JA X [e] (jP te Jk):=Ć a zu h
def j2 (a:JE X e te)(b:JE X e2 te2)(h:zH e=xb:=by rfl)(h2:zH e2=xb:=by rfl):JA X [e,e2] (jP te (jP te2 Jk)):=Ć a (j1 b h2) h
def j3 (a:JE X e te)(b:JE X e2 te2)(c:JE X e3 te3)(h:zH e=xb:=by rfl)(h2:zH e2=xb:=by rfl)(h3:zH e3=xb:=by rfl):JA X [e,e2,e3] (jP te (jP te2 (jP te3 Jk))):=Ć a (j2 b c h2 h3) h
def j4 (a:JE X e te)(b:JE X e2 te2)(c:JE X e3 te3)(d:JE X e4 te4)(h:zH e=xb:=by rfl)(h2:zH e2=xb:=by rfl)(h3:zH e3=xb:=by rfl)(h4:zH e4=xb:=by rfl):JA X [e,e2,e3,e4] (jP te (jP te2 (jP te3 (jP te4 Jk)))):=Ć a (j3 b c d h2 h3 h4) h
def ZZ (Z:Zs X.mg)(a:JE X e te)(hg:Gl X "len" :=by rfl)(h:zH e=xb:=by rfl)(he:P9 [e] X.env=(xf,L7 e X.env)::P9 [] X.env:=by rfl)(hpl:(E3 pos (P9 [] X.env)).any (·.1)=xf:=by rfl):JE X (.Call (.Name "len" p) [e] [] pos) (Ķ Om (jP te Jk)):=yH AN hg Z.len PySem.boot_len (j1 a h) (by decide) (by decide) he hpl
def Ă (i:P0)(S:Ã X.N Pn sc)(he:JE X e te)(hi:X.N[i]? =zq x:=by rfl)(hx:Loc X.env.scope x:=by first|exact A3 rfl|exact aR rfl)(hs:U0 e (zq (.Name x pos')) pos.line X.env=pure xf:=by rfl)(hf:X.fn x=xb\/X.env.scope.names.lookup x=zq .local:=by first|exact .inl rfl|exact .inr rfl|assumption):JS X (.Assign [.Name x pos'] e pos) (Py i te):=Kb S.nd hi hx he hs hf
def jgn (i:P0)(S:Ã X.N Pn sc)(hi:X.N[i]? =zq x:=by rfl)(hx:Loc X.env.scope x:=by first|exact A3 rfl|exact aR rfl)(hf:X.fn x=xb\/X.env.scope.names.lookup x=zq .local:=by first|exact .inl rfl|exact .inr rfl|assumption):JG X (.Name x pos) (gN i):=FM S.nd hi hx hf
def jl1 (i:P0)(S:Ã X.N Pn sc)(hi:JI X (.Name x p) iter ti)(ht: ∀C s₀ H₀ ex,JT (yN X scope C s₀ H₀ ex) c tt)(he: ∀C s₀ H₀ ex,JE (yN X scope C s₀ H₀ ex) elt te)(hc:X.calm=xb:=by rfl)(hB:QV X.N X.env.scope.names scope [i]=xb:=by rfl)(hx:X.N[i]? =zq x:=by rfl)(hl:scope.names.lookup x=zq .local\/scope.names.lookup x=zq .cell:=by first|exact A3 rfl|exact aR rfl)(hs: ∀x,T5 iter X.env x=pure x:=by intro _;rfl):JE X (.ListComp elt [⟨.Name x p,iter,[c],0⟩] scope pos) (ZI (bN i) [i] ti tt te):=
 jlc hc (zK hB) hi (P2.mpr rfl) S.nd hx hl (λX' hX=>by obtain⟨C,s₀,H₀,ex,rfl⟩:=hX;exact XN (ht C s₀ H₀ ex)) (λX' hX=>by obtain⟨C,s₀,H₀,ex,rfl⟩:=hX;exact he C s₀ H₀ ex) hs
def Μ (i:P0)(S:Ã X.N Pn sc)(hi:JI X (.Name x p) iter ti)(he: ∀C s₀ H₀ ex,JE (yN X scope C s₀ H₀ ex) elt te)(hc:X.calm=xb:=by rfl)(hB:QV X.N X.env.scope.names scope [i]=xb:=by rfl)(hx:X.N[i]? =zq x:=by rfl)(hl:scope.names.lookup x=zq .local\/scope.names.lookup x=zq .cell:=by first|exact A3 rfl|exact aR rfl)(hs: ∀x,T5 iter X.env x=pure x:=by intro _;rfl):JE X (.ListComp elt [⟨.Name x p,iter,[],0⟩] scope pos) (ZI (bN i) [i] ti JN te):=
 jlc hc (zK hB) hi (P2.mpr rfl) S.nd hx hl (λX' hX=>JV) (λX' hX=>by obtain⟨C,s₀,H₀,ex,rfl⟩:=hX;exact he C s₀ H₀ ex) hs
def ć {N P:G0 Str}(a:sc.kind= .function:=by rfl)(b:sc.isCoroutine=xf:=by rfl)(c:sc.isGenerator=xf:=by rfl)(d:N.Nodup:=by decide +kernel)(e:N.take P.length=P:=by rfl)(f: ∀x∈P,sc.names.lookup x=zq .local\/sc.names.lookup x=zq .cell:=by decide +kernel)(g: ∀y∈sc.names,y.2≠ .free:=by decide +kernel):Ã N P sc:=⟨a,b,c,d,e,f,g⟩
def jc1 {op:lD}{f:RD2}(ho:û X (B8 op) f)(ha:JE X e te)(hb:JE X e2 te2)(hm:W5 op e2=xf:=by exact PY _):JE X (.Compare e [op] [e2] pos) (Ġ f te te2):=HZ ho ha hb hm
def î {op:lD}{f:RD2}(ho:û X (B8 op) f)(ha:JE X e te)(hb:JE X e2 te2)(hm:W5 op e2=xf:=by exact PY _):JT X (.Compare e [op] [e2] pos) (Jl (Ġ f te te2)):=GI ho ha hb hm
def Ē (ha:JE X e te)(hb:JE X e2 te2)(hs:YZ e2:=by exact λ_ _=>rfl):JE X (.Subscript e e2 pos) (Ġ ixD te te2):=jix ha hb hs
def jrg {tg:S2}(Z:Zs X.mg)(ha:JE X e te)(hg:Gl X "range" :=by rfl)(h:zH e=xb:=by rfl)(hs:P9 [e] X.env= [(xf,L7 e X.env)]:=by rfl):JI X tg (.Call (.Name "range" p) [e] [] pos) (iR1 (jP te Jk)):=TC hg Z.range (j1 ha h) hs
end
section
variable {P:D5}{w:T8}{K:G3}{mg:Str->P1 G1}{base:N8}{x qual:Str}{st:L8}{f:G7}{fd:R8}{N ps:G0 Str}{k:P0}
def â.okM {ą:RDn}(F:â K x qual st f fd)(S:Ã N ps (jd st)){tb:TSD}(Þ: ∀ {Ï:G1} {A:S4} {outer:G0 Env} {s:G2} {H:Hp} {E:XK},Ð k (A.deeper (K2 qual (jd st) s.heap.objs.size f Ï))->Ī (ZT à P w K mg base N qual (jd st) f Ï A outer s H E).nox (jL st) tb)
 (read: ∀ds h Q,ą ds h Q->ds.length=ps.length/\tb (Xv Q) (zt N ds) h):Ì P w K mg base à (k+1) f fd ps (í K ą):=F.okJ S (λds h Q q=>(read ds h Q q).1) tb (λ_ _ _ _ _ _ hr=>Þ hr) λds h Q q=>(read ds h Q q).2
def â.okMX {Ŧ:RDx}(F:â K x qual st f fd)(S:Ã N ps (jd st)){tb:TXD}(Þ: ∀ {Ï:G1} {A:S4} {outer:G0 Env} {s:G2} {H:Hp} {E:XK},Ð k (A.deeper (K2 qual (jd st) s.heap.objs.size f Ï))->JX (ZT (Ģ P w) P w K mg base N qual (jd st) f Ï A outer s H E) (jL st) tb)
 (read: ∀ds h R,Ŧ ds h R->ds.length=ps.length/\tb (zt N ds) h R):Ì P w K mg base (Ģ P w) (k+1) f fd ps (ė mg K Ŧ):=F.okX S (λds h Q q=>(read ds h Q q).1) tb (λ_ _ _ _ _ _ hr=>Þ hr) λds h Q q=>(read ds h Q q).2
end
def jF {t u:TSD}{E:EndsD}{σ:SD}{h:HD}(σ1:SD)(first: ∀K:SD->HD->Prop,K σ1 h->t {E with nx:=K} σ h)(rest:u E σ1 h):yn t u E σ h:=first (u E) rest
def sz0:0<=xh:=by decide
def sz1:1<=xh:=by decide
def ż:2<=xh:=by decide
def sz3:3<=xh:=by decide
def sz4:4<=xh:=by decide
def sz5:5<=xh:=by decide
section
variable {X:Cx}{s0 s1 s2 s3 s4 s5 s6 s7:L8}{t0 t1 t2 t3 t4 t5 t6 t7:TSD}{c:S2}{tc:TTD}{pos:Pos}
def js2 (a:JS X s0 t0)(b:JS X s1 t1):Ī X [s0,s1] (yn t0 t1):=(jy a (jO b))
def js3 (a:JS X s0 t0)(b:JS X s1 t1)(c:JS X s2 t2):Ī X [s0,s1,s2] (yn t0 (yn t1 t2)):=(jy a (jy b (jO c)))
def js4 (a:JS X s0 t0)(b:JS X s1 t1)(c:JS X s2 t2)(d:JS X s3 t3):Ī X [s0,s1,s2,s3] (yn t0 (yn t1 (yn t2 t3))):=(jy a (jy b (jy c (jO d))))
def js5 (a:JS X s0 t0)(b:JS X s1 t1)(c:JS X s2 t2)(d:JS X s3 t3)(e:JS X s4 t4):Ī X [s0,s1,s2,s3,s4] (yn t0 (yn t1 (yn t2 (yn t3 t4)))):=(jy a (jy b (jy c (jy d (jO e)))))
def js6 (a:JS X s0 t0)(b:JS X s1 t1)(c:JS X s2 t2)(d:JS X s3 t3)(e:JS X s4 t4)(f:JS X s5 t5):Ī X [s0,s1,s2,s3,s4,s5] (yn t0 (yn t1 (yn t2 (yn t3 (yn t4 t5))))):=(jy a (jy b (jy c (jy d (jy e (jO f))))))
def js7 (a:JS X s0 t0)(b:JS X s1 t1)(c:JS X s2 t2)(d:JS X s3 t3)(e:JS X s4 t4)(f:JS X s5 t5)(g:JS X s6 t6):Ī X [s0,s1,s2,s3,s4,s5,s6] (yn t0 (yn t1 (yn t2 (yn t3 (yn t4 (yn t5 t6)))))):=(jy a (jy b (jy c (jy d (jy e (jy f (jO g)))))))
def js8 (a:JS X s0 t0)(b:JS X s1 t1)(c:JS X s2 t2)(d:JS X s3 t3)(e:JS X s4 t4)(f:JS X s5 t5)(g:JS X s6 t6)(h:JS X s7 t7):Ī X [s0,s1,s2,s3,s4,s5,s6,s7] (yn t0 (yn t1 (yn t2 (yn t3 (yn t4 (yn t5 (yn t6 t7))))))):=(jy a (jy b (jy c (jy d (jy e (jy f (jy g (jO h))))))))
def wf (hc:JT X c tc)(h:JS X s0 t0):JS X (.If c [s0] [] pos) (Fm tc t0 XH):=Ed hc (jO h) UB
end
end L2
namespace L2
open PySem PySem.Spec PyProof.Rows HT
abbrev Go (a:G7):Obj:= {cls:= .type "dict_items",data:= .fields #[.ref a]}
section
variable {X:Cx}
theorem yi {α β:Type}{R:α->β->Prop}: ∀ {xs:G0 α} {ys:G0 β} {i:P0} {x:α} {y:β},Paired R xs ys->xs[i]? =zq x->ys[i]? =zq y->R x y
 |_,_,0,_,_,.cons r _,e1,e2=>by simp at e1 e2;subst e1 e2;exact r
 |_,_,i+1,_,_,.cons _ t,e1,e2=>yi t (by simpa using e1) (by simpa using e2)
 |_,_,_,_,_,.nil,e1,_=>by cases e1
end
abbrev NU:=G7×G0 (G0 P4)
def tab_of {K:G3}{H:Hp}{T:G0 (G0 P4)}{b:G7}(r:É K H (ju T) (.ref b)):Xx H T b:=by
 obtain⟨a,vs,e,hH,r1⟩:=(show ∃a vs,V.ref b= .ref a/\H a=zq (.tup vs)/\Á K H (T.map wU) vs from r);cases e;exact⟨vs,hH,Qa r1⟩
end L2
namespace HT
open PySem PySem.Spec PyProof.Rows
structure X1t (C f:G7)(Ĥ:G0 G1)(newId:F7)(h:N8):Prop where
 obj: ∃bm N nm q bs X1I sn sub ab col dd k0 k1 k2 k3 k5 mN,h.get? C=zq (oN nm q C N bs bm X1I sn sub ab col dd k0 k1 k2 k3 k5 newId)/\h.Ns N mN/\mN "__init__" =zq (.ref f)/\OwnTail h Ĥ bm
 fn: ∃o,h.get? f=zq o/\o.cls= .type "function"
def X1t.call {prog:D5}{w:T8}{A:S4}{E:G1->G2->Prop}{s:G2}{C f:G7}{Ĥ:G0 G1}{B newId X0U:F7}{rest:G0 G1}{Q:G1->G2->Prop}(O:X1t C f Ĥ newId s.heap)(F:ExcBaseFacts B newId X0U Ĥ)(ψ:rest.length<=xh)
 (hq: ∀h' e,uG s.heap h' e (.ref C) rest->U5 (R3 prog w) (A.under (.builtin "type.__call__" ⟨.ref C::rest,[]⟩)) (sA (.ref f) {pos:= .ref e::rest}) (λr s'=>r= .ok (.ret .none)/\Q (.ref e) s') {s with heap:=h'}):D6 (R3 prog w) A (uB (.ref C) rest) Q E s:=by
 obtain⟨⟨bm,N,nm,q,bs,X1I,sn,sub,ab,col,dd,k0,k1,k2,k3,k5,mN,hC,hn,hi,T⟩,oI,hfI,hfc⟩:=O;obtain⟨h,g,d,t,os⟩:=s;dsimp only at hC hn T hfI hq;have f1:=tc_lookup;have f2:=tc_bind (.ref C);have isT:(⟨h,g,d,t,os⟩:G2).TypeIs (.ref C) "type" :=⟨_,hC,rfl⟩;refine gF (dB ?_);show D6 _ _ (callAny (.ref C) _) _ _ _
 wp_walk
 refine⟨rfl,?_⟩;show U5 _ _ (sA (.builtin "type.__call__") {pos:= .ref C::rest}) _ _;refine codeAny_call_builtin_at (i6 _ (by decide +kernel)) entry_typeCall (wpAny_check_type_call_sub hC ?_)
 wp_walk
 refine codeAny_call_builtin_code (i6 _ F.quiet) (wpAny_check_new_subT F T hC (codeAny_exc_new_subT F T hC ?_ ψ));generalize hT:h.push {cls:= .type "tuple",data:= .seq rest.toArray}=h1;have X1u: ∀b o,h.get? b=zq o->h1.get? b=zq o:=λb o z=>hT ▸ G9 _ z
 generalize hE:h1.push {cls:= .ref C,data:= .fields #[.ref h.objs.size,.none,.none,.none,.bool xf,.none]}=h2;have keep: ∀b o,h.get? b=zq o->h2.get? b=zq o:=λb o z=>hE ▸ G9 _ (X1u b o z)
 have X1v:h1.objs.size=h.objs.size+1:=by rw [<-hT,bY]
 have X1J:h2.get? (h.objs.size+1)=zq {cls:= .ref C,data:= .fields #[.ref h.objs.size,.none,.none,.none,.bool xf,.none]}:=hE ▸ lK X1v.symm rfl
 replace hq:=hq h2 (h.objs.size+1) ⟨keep,bU (oC _),h.objs.size,X1J,bU (P7 _),hE ▸ G9 _ (hT ▸ lK rfl rfl)⟩
 generalize h.objs.size+1=e at hq X1J ⊢;have ĳ:=keep _ _ hC;have own:(N7 C::bm).contains (.ref C)=xb:=K3.mpr R1;have isF:(⟨h2,g,d,t,os⟩:G2).TypeIs (.ref f) "function" :=⟨_,keep _ _ hfI,hfc⟩;dsimp only;unfold m5 rH
 wp_walk
 refine cS ĳ ?_;rw [own]
 wp_walk
 refine wpAny_typeLookup_tail ĳ (hn.keeps keep) (T.keeps keep) F.mroIs F.init.lookup ?_;rw [hi];dsimp only;refine O8 ?_;unfold bindSpecial
 wp_walk
 refine aG hq λr s' ⟨z,q⟩=> ?_
 subst z
 wp_walk
 exact q
structure ŗ (h:N8)(C:G7)(Ĥ:G0 G1)(newId:F7)(m1 m2:Str->P1 G1):Prop where
 obj: ∃C2 N N2,(∃nm q bs sn sub ab col dd k0 k1 k2 k3 k5,h.get? C=zq (oN nm q C N bs (.ref C2::Ĥ) xb sn sub ab col dd k0 k1 k2 k3 k5 newId))/\h.Ns N m1/\(∃nm q bs bm hd sn sub ab col dd k0 k1 k2 k3 k5 n,h.get? C2=zq (oN nm q C2 N2 bs bm hd sn sub ab col dd k0 k1 k2 k3 k5 n))/\h.Ns N2 m2
section
variable {M:cN}{A:S4}{E:G1->G2->Prop}{s:G2}{C x:G7}{Ĥ:G0 G1}{B newId:F7}{m1 m2:Str->P1 G1}
def ŗ.look {name:Str}{y:P1 G1}{Q:P1 G1->G2->Prop}(W:ŗ s.heap C Ĥ newId m1 m2)(hm:mroOf (.type B)=pure Ĥ)(hB:gG (.type B) name=pure y)(q:Q ((m1 name).or ((m2 name).or y)) s):D6 M A (gG (.ref C) name) Q E s:=by
 obtain⟨C2,N,N2,⟨nm,q1,bs,sn,sub,ab,col,dd,k0,k1,k2,k3,k5,hC⟩,hn,⟨_,_,_,_,_,_,_,_,_,_,_,_,_,_,_,_,ĳ⟩,hn2⟩:=W.obj;rw [w8,hm] at hB;obtain⟨h,g,d,t,os⟩:=s;rw [w8];refine xg (tI hC ?_);rw [sB];refine xg (pZ hC hn ?_);cases e1:m1 name with
 |some v=>rw [e1] at q;exact G8 q
 |none=>
  dsimp only;rw [sB];refine xg (pZ ĳ hn2 ?_);rw [e1] at q;cases e2:m2 name with
  |some v=>rw [e2] at q;exact G8 q
  |none=>
   rw [e2] at q;dsimp only;rw [show lookupAlong Ĥ name=pure y from hB];exact G8 q
def ŗ.field1 {sa owner:F7}{o:Obj}{name:Str}{v:G1}{Q:Unit->G2->Prop}{prog:D5}{w:T8}(W:ŗ s.heap C Ĥ newId m1 m2)(SF:StoreFacts B Ĥ sa owner)(n1:m1 "__setattr__" =xa)(n2:m2 "__setattr__" =xa)(n3:m1 name=xa)(n4:m2 name=xa)(hB:gG (.type B) name=pure xa)
 (hx:s.heap.get? x=zq o)(hc:o.cls= .ref C)(hd:o.dict=xa)(hf: ∃vs,o.data= .fields vs)
 (hq: ∀h' D tk',h'.get? x=zq {o with dict:=zq D}->s.heap.get? D=xa->h'.Ns1 D (λy=>if y=name then zq v else xa)->(∀b ob,b≠x->s.heap.get? b=zq ob->h'.get? b=zq ob)->Q () {s with heap:=h',toks:=tk'}):D6 (R3 prog w) A (G0t (.ref x) name v) Q E s:=by
 obtain⟨C2,N,N2,⟨nm,q1,bs,sn,sub,ab,col,dd,k0,k1,k2,k3,k5,hC⟩,_⟩:=id W.obj;obtain⟨h,g,d,t,os⟩:=s;dsimp only at W hC hx hq;have f3:=SF.slot.bind (.ref x);unfold G0t rH specialOf
 wp_walk
 rw [hc];refine W.look SF.mro SF.slot.lookup ?_;rw [n1,n2]
 wp_walk
 show U5 _ _ (sA (.builtin sa) {pos:= [.ref x,.str name t,v]}) _ _;refine bZ SF.slot.plain SF.entry ?_;have X1w:(N7 C:: .ref C2::Ĥ).contains (.type owner)=xb:=K3.mpr (.tail _ (.tail _ (K3.mp SF.hasOwner)));unfold gL;simp only [SF.kind,SF.split];unfold m5
 wp_walk
 rw [hc];refine cS hC ?_;rw [X1w];have args:=SF.args (.ref x) (.str name t) v;have pass:=SF.passes (.ref x);unfold argsOk at args;rw [R9 (show ¬ ((!xb)=xb) by decide)];have chk: ∀ {K:Unit->G2->Prop} {u:G2} {A':S4} {E':G1->G2->Prop},K () u->D6 (R3 prog w) A' (match cT sa with|some sig=>Bind.checkArgs sa sig ⟨[.ref x,.str name t,v],[]⟩|x=>pure ()) K E' u:=λ{K u A' E'} k=>by
  cases hs:cT sa with
  |none=>exact G8 k
  |some sig=>
   rw [hs] at args;dsimp only at args ⊢;rw [args];exact G8 k
 refine chk ?_;unfold Builtin.«object.__setattr__» Builtin.ObjectAttr.storeInOwnDict;simp only [refuse_eq];generalize hS:Builtin.ObjectAttr.storeInDict=st
 wp_walk
 rw [hc];refine tI hC ?_;rw [uJ,uJ,pass]
 wp_walk
 rw [hc];refine W.look SF.mro hB ?_;rw [n3,n4];obtain⟨oc,od,odt,Ĕ⟩:=o;obtain⟨vs,hf⟩:=hf;dsimp only at hc hd hf;subst hc hd hf
 wp_walk
 have nx:x≠h.objs.size:=M6 (D7 hx);have ox:h.get? x=zq {cls:= .ref C,dict:=xa,data:= .fields vs,slots:=Ĕ}:=hx;generalize hh:(h.push {cls:= .type "dict",data:= .dict #[]}).update x (λo=> {cls:=o.cls,dict:=zq h.objs.size,data:=o.data,slots:=o.slots})=h2;have kx:h2.get? x=zq {cls:= .ref C,dict:=zq h.objs.size,data:= .fields vs,slots:=Ĕ}:=hh ▸ bM _ (G9 _ ox) rfl;have kD:h2.get? h.objs.size=zq {cls:= .type "dict",data:= .dict #[]}:=hh ▸ (J5 _ _ nx).trans (lK rfl rfl);have ko: ∀b ob,b≠x->h.get? b=zq ob->h2.get? b=zq ob:=λb ob n e=>hh ▸ (J5 _ _ (O6 n)).trans (G9 _ e)
 have new:h.get? h.objs.size=xa:=bU (P7 _);have lt: ∀b ob,h.get? b=zq ob->b≠h.objs.size:=λb ob e z=>by rw [z,new] at e;cases e
 generalize h.objs.size=D at*
 have nD:h2.Ns1 D λ_=>xa:= .of_empty ⟨_,#[],_,kD,rfl,λe he=>xj he (by simp),λ_=>rfl⟩
 rw [<-hS];unfold Builtin.ObjectAttr.storeInDict Builtin.ObjectAttr.newKeyGuard;refine xg (G8 (xg (wpAny_nsSet1 nD λh' n' same=> ?_)));obtain⟨oD,es,ep,h1,h3,h4⟩:=n'.count (Within.cons name v Within.nil);refine xg (wpAny_lookBehind h1 (by rw [h3];exact pastItsLine_dict (M1 h4 (by rw [D8,B6,lE];omega))) ?_)
 wp_walk
 exact hq h' D _ ((same.2 x nx).trans kx) new n' λb ob n e=>(same.2 b (lt b ob e)).trans (ko b ob n e)
end
def RD {h:N8}{D:G7}{mA:Str->P1 G1}{name:Str}{v:G1}(n:h.Ns1 D mA)(hv:mA name=zq v): ∃o,h.get? D=zq o/\nsLook name o=pure (zq v):=by
 obtain⟨o,es,ep,ho,hd,_,_,hm⟩:=n;refine⟨o,ho,?_⟩;have e:=(hm name).trans hv;unfold nsFind G0L at e;obtain⟨ě,h1,h2⟩:=L0.mp e;rw [nsLook_eq];unfold nsLookByArray;rw [hd];dsimp only;rw [h1,<-h2]
section
variable {A:S4}{E:G1->G2->Prop}{s:G2}{C x D:G7}{Ĥ:G0 G1}{B newId:F7}{m1 m2 mA:Str->P1 G1}
def ŗ.get {o:Obj}{name:Str}{v:G1}{Q:G1->G2->Prop}{prog:D5}{w:T8}{b:N3}(W:ŗ s.heap C Ĥ newId m1 m2)(FB:ExcAttrBase B Ĥ)(g1:m1 "__getattribute__" =xa)(g2:m2 "__getattribute__" =xa)(g3:m1 "__getattr__" =xa)(g4:m2 "__getattr__" =xa)(n3:m1 name=xa)(n4:m2 name=xa)(hB:gG (.type B) name=pure xa)
 (hx:s.heap.get? x=zq o)(hc:o.cls= .ref C)(hd:o.dict=zq D)(hf: ∃vs,o.data= .fields vs)(nD:s.heap.Ns1 D mA)(hv:mA name=zq v)(nb: ∀id,v≠ .builtin id)(hq:Q v {s with toks:=s.toks+1}):D6 (R3 prog w) A (G0n (.ref x) name b) Q E s:=by
 obtain⟨C2,N,N2,⟨nm,q1,bs,sn,sub,ab,col,dd,k0,k1,k2,k3,k5,hC⟩,_⟩:=id W.obj;obtain⟨h,g,d,t,os⟩:=s;dsimp only at W hC hx hq nD;have f3:=FB.ga.bind (.ref x);have e2:(gV "BaseException.__getattribute__" ==gV "object.__getattribute__")=xf:=by decide +kernel
 have e1:(onTheHeap (N7 C)&&gV "BaseException.__getattribute__" ==gV "object.__getattribute__")=xf:=by rw [e2];rfl
 have e0:(b&&onTheHeap (gV "BaseException.__getattribute__"))=xf:=by cases b<;>rfl
 unfold G0n getAttrBy
 wp_walk
 rw [hc];refine W.look FB.mro FB.ga.lookup ?_;rw [g1,g2]
 wp_walk
 refine W.look FB.mro FB.noGetattr ?_;rw [g3,g4]
 wp_walk
 show U5 _ _ (sA (.builtin "BaseException.__getattribute__") {pos:= [.ref x,.str name t]}) _ _;refine bZ FB.ga.plain nM ?_;have X1w:(N7 C:: .ref C2::Ĥ).contains (.type "BaseException")=xb:=K3.mpr (.tail _ (.tail _ (K3.mp FB.hasBase)));have kind:builtinKind "BaseException.__getattribute__" =zq .slot:=by decide +kernel
 have split:splitId "BaseException.__getattribute__" =zq ("BaseException","__getattribute__"):=by decide +kernel
 unfold gL;simp only [kind,split];unfold m5
 wp_walk
 rw [hc];refine cS hC ?_;rw [X1w];have args:=oE (.ref x) (.str name t);unfold argsOk at args;rw [R9 (show ¬ ((!xb)=xb) by decide)];have chk: ∀ {K:Unit->G2->Prop} {u:G2} {A':S4} {E':G1->G2->Prop},K () u->D6 (R3 prog w) A' (match cT "BaseException.__getattribute__" with|some sig=>Bind.checkArgs "BaseException.__getattribute__" sig ⟨[.ref x,.str name t],[]⟩|x=>pure ()) K E' u:=λ{K u A' E'} k=>by
  cases hs:cT "BaseException.__getattribute__" with
  |none=>exact G8 k
  |some sig=>
   rw [hs] at args;dsimp only at args ⊢;rw [args];exact G8 k
 refine chk ?_;unfold Builtin.«object.__getattribute__»
 wp_walk
 rw [hc];refine W.look FB.mro hB ?_;rw [n3,n4];obtain⟨oc,od,odt,Ĕ⟩:=o;obtain⟨vs,hf⟩:=hf;dsimp only at hc hd hf;subst hc hd hf
 wp_walk
 obtain⟨oD,hD,lk⟩:=RD nD hv;refine wpAny_loadPart_at hD ?_;rw [lk];refine G8 ?_
 wp_walk
 cases v with
 |builtin id=>exact xj rfl (nb id)
 |_=>exact G8 hq
end
def Pb {M:cN}{A:S4}{E:G1->G2->Prop}{s:G2}{C:G7}{Ĥ:G0 G1}{newId:F7}{env:Env}{x:Sem G1}{Q:Flow->G2->Prop}(hb:Ĥ.contains (.type "BaseException")=xb)(hh:A.handled=xa)
 (h:D6 M A x (λv u=> ∃m1 m2 e o t,v= .ref e/\ŗ u.heap C Ĥ newId m1 m2/\u.heap.get? e=zq o/\o.cls= .ref C/\o.data= .fields #[.ref t,.none,.none,.none,.bool xf,.none]/\E (.ref e) u) E s):D6 M A (raiseStmt env (zq x) xa) Q E s:=by
 unfold raiseStmt;refine xg (R7 h (λv u ⟨m1,m2,e,o,t,ev,W,he,hc,hd,q⟩=> ?_) λ_ _ z=>z);subst ev;obtain⟨C2,N,N2,⟨nm,q1,bs,sn,sub,ab,col,dd,k0,k1,k2,k3,k5,hC⟩,_⟩:=W.obj;have ü:(N7 C:: .ref C2::Ĥ).contains (.type "BaseException")=xb:=K3.mpr (.tail _ (.tail _ (K3.mp hb)));obtain⟨hp,g,d,tk,os⟩:=u;obtain⟨oc,od,odt,Ĕ⟩:=o;dsimp only at hc hd hC he;subst hc hd
 wp_walk
 refine cS hC ?_;rw [ü]
 wp_walk
 exact wpAny_raiseNew_none hh q
end HT
namespace HT
open PySem PySem.Spec PyProof.Rows PySem.W
noncomputable def Ss (K:Frag)(C:G7):P1 (G7×G0 G1×F7×N3):=match K.lookup C with
 |some ⟨.type "type",_,.cls cd,sl⟩=>(match cd.mro,sl.toList with
  | .ref C'::bm,[_,_,_,_,zq (.builtin n),_]=>if (C'==C&& !cd.hasDel&&nsOkIn K cd.ns)=xb then zq (cd.ns,bm,n,cd.hasDict) else xa
  |_,_=>xa)
 |_=>xa
def EI {K:Frag}{h:N8}{C N:G7}{bm:G0 G1}{n:F7}{hd:N3}(X:K.In h)(e:Ss K C=zq (N,bm,n,hd)):(∃nm q bs sn sub ab col dd k0 k1 k2 k3 k5,h.get? C=zq (oN nm q C N bs bm hd sn sub ab col dd k0 k1 k2 k3 k5 n))/\nsOkIn K N=xb:=by
 unfold Ss at e;split at e
 ·rename_i dd cd sl ho;split at e
  ·rename_i C' bm' k0 k1 k2 k3 n' k5 hm hs;split at e
   ·rename_i c;simp only [B7,beq_iff_eq,qY] at c;obtain⟨⟨e1,e2⟩,e3⟩:=c;obtain⟨nm,bs,mro,ns,qn,ō,sn,sub,ab,col,del⟩:=cd;obtain⟨l⟩:=sl;dsimp only at hm hs e2 e3 e;injection e with e
    injection e with z1 z2
    injection z2 with z2 z3
    injection z3 with z3 z4
    subst e1 hm hs e2 z1 z2 z3 z4;exact⟨⟨_,_,_,_,_,_,_,_,_,_,_,_,_,X _ _ ho⟩,e3⟩
   ·cases e
  ·cases e
 ·cases e
def UR (K:Frag)(C f:G7)(Ĥ:G0 G1)(newId:F7)(ns:G0 F7):N3:=match Ss K C with
 |some (N,.ref C2::bm,n,xb)=>bm==Ĥ&&n==newId&&nsIn K N "__init__" ==zq (zq (.ref f))&&tailIn K Ĥ (.ref C2::bm)&&(match K.lookup f with|some o=>o.cls== .type "function" |none=>xf)&&(match Ss K C2 with
  |some (N2,_,_,_)=>("__setattr__" :: "__getattribute__" :: "__getattr__" ::ns).all λx=>nsIn K N x==zq xa&&nsIn K N2 x==zq xa
  |none=>xf)
 |_=>xf
def EJ {K:Frag}{h:N8}{N:G7}{m:Str->P1 G1}{n:Str}{v:G1}(X:K.In h)(G:h.Ns N m)(e:nsIn K N n=zq (zq v)):m n=zq v:=by
 obtain⟨o,es,ep,ho,hd,_,hf⟩:=G;unfold nsIn at e;cases z:K.lookup N with
 |none=>rw [z] at e;cases e
 |some o'=>
  have w:=(X _ _ z).symm.trans ho;injection w with w
  subst w;obtain⟨c,d,t,sl⟩:=o';cases hd;rw [z] at e;dsimp only at e;cases y:es.toList.find? (·.key.isStr n) with
  |none=>rw [y] at e;dsimp only at e;split at e<;>cases e
  |some en=>
   rw [y] at e;cases e;rw [<-hf n];exact(xk (Option.map (·.val)) ((pQ ..).symm.trans y))
def Vs {K:Frag}{h:N8}{C f:G7}{Ĥ:G0 G1}{newId:F7}(X:K.In h){ns:G0 F7}(q:UR K C f Ĥ newId ns=xb):X1t C f Ĥ newId h/\ ∃N N2,ŗ h C Ĥ newId (h.nsMap N) (h.nsMap N2)/\(∀x,nsIn K N x=zq xa->h.nsMap N x=xa)/\(∀x,nsIn K N2 x=zq xa->h.nsMap N2 x=xa)/\ ∀x∈ "__setattr__" :: "__getattribute__" :: "__getattr__" ::ns,h.nsMap N (P6 x)=xa/\h.nsMap N2 (P6 x)=xa:=by
 unfold UR at q;split at q
 ·rename_i N C2 bm n e1;simp only [B7,beq_iff_eq] at q;obtain⟨⟨⟨⟨⟨rfl,rfl⟩,hi⟩,ht⟩,hf⟩,hu⟩:=q;obtain⟨⟨nm,q1,bs,sn,sub,ab,col,dd,k0,k1,k2,k3,k5,hC⟩,ok⟩:=EI X e1;split at hu
  ·rename_i N2 b2 n2 d2 e2;obtain⟨⟨nm',q1',bs',sn',sub',ab',col',dd',k0',k1',k2',k3',k5',ĳ⟩,ok2⟩:=EI X e2;split at hf
   ·rename_i o ho;have w1:=λx (z:nsIn K N x=zq xa)=>nsMap_none_of_in X ok z
    have w2:=λx (z:nsIn K N2 x=zq xa)=>nsMap_none_of_in X ok2 z
    refine⟨⟨⟨_,N,nm,q1,bs,_,sn,sub,ab,col,dd,k0,k1,k2,k3,k5,_,hC,.of_isNs (isNs_of_in X ok),?_,tail_of_in X ht⟩,o,X _ _ ho,beq_iff_eq.mp hf⟩,N,N2,⟨C2,N,N2,⟨nm,q1,bs,sn,sub,ab,col,dd,k0,k1,k2,k3,k5,hC⟩,.of_isNs (isNs_of_in X ok),⟨_,_,_,_,_,_,_,_,_,_,_,_,_,_,_,_,ĳ⟩,.of_isNs (isNs_of_in X ok2)⟩,w1,w2,λx hx=> ?_⟩
    ·exact EJ X (.of_isNs (isNs_of_in X ok)) hi
    ·have:=H0.mp hu x hx;simp only [B7,beq_iff_eq] at this;exact⟨w1 x this.1,w2 x this.2⟩
   ·cases hf
  ·cases hu
 ·cases q
end HT
namespace L2
open PySem PySem.Spec PyProof.Rows PySem.W HT
def Χ (e C:G7)(ď:T7 G1)(dx:P1 G7):HO:= .ext λh=> ∃o,h.get? e=zq o/\o.cls= .ref C/\o.data= .fields ď/\o.dict=dx
variable {P:D5}{w:T8}{H:Hp}{h:N8}{e:G7}
def Cc {C:G7}{ď:T7 G1}{dx:P1 G7}{o:Obj}(q:h.get? e=zq o)(c:o.cls= .ref C)(d:o.data= .fields ď)(x:o.dict=dx):Ô P w H h e (Χ e C ď dx):=
 ⟨⟨o,q,c,d,x⟩,⟨o,q⟩,λh1 h2 ⟨o,q,r⟩ k=>⟨o,k _ q,r⟩⟩
def XdO (dx:G7)(fs:G0 (Str×V)):HO:= .ext λh=> ∃mA,h.Ns1 dx mA/\ ∀f,Ő (fs.lookup f) (mA f)
def EK {dx:G7}{fs:G0 (Str×V)}{mA:Str->P1 G1}(n:h.Ns1 dx mA)(r: ∀f,Ő (fs.lookup f) (mA f)):Ô P w H h dx (XdO dx fs):=
 ⟨⟨mA,n,r⟩,(let ⟨o,_,_,q,_⟩:=n;⟨o,q⟩),λh1 h2 ⟨mA,n,r⟩ k=>⟨mA,n.at k,r⟩⟩
def fdV (fs:G0 (Str×P4)):G0 (Str×V):=fs.map λp=>(p.1,V.int p.2)
def RE {f g:Str}{n:P4}:(fdV [(f,n)]).lookup g=if g=f then zq (V.int n) else xa:=by
 show (match g==f with|true=>zq (V.int n)|false=>xa)=_
 by_cases z:g=f
 ·rw [S5 z,z];simp
 ·rw [R9 z,beq_eq_false_iff_ne.mpr z]
def EL {fs ex:G0 G7}{h':N8}{dx:G7}{oe od:HO}(he: ∃φ,H e=zq (.ext φ))(hd:h.get? dx=xa\/ ∃g,H dx=zq (.xd g))(hn:H dx=xa\/ ∃g,H dx=zq (.xd g))(k: ∀b o,b≠e->b≠dx->h.get? b=zq o->h'.get? b=zq o)(ke: ∃o,h'.get? e=zq o)(kd: ∃o,h'.get? dx=zq o):Un fs ex H (upd (upd H e oe) dx od) h h':=by
 obtain⟨φ,he⟩:=he;have nf: ∀b o,h.get? b=zq o->H b=xa->b≠e/\b≠dx:=λb o q n=>by
  refine⟨λz=> ?_,λz=> ?_⟩
  ·rw [z,he] at n;cases n
  ·subst z;rcases hd with z|⟨g,z⟩
   ·rw [z] at q;cases q
   ·rw [z] at n;cases n
 have same: ∀b u,H b=zq u->(∀φ,u≠ .ext φ)->(∀g,u≠ .xd g)->upd (upd H e oe) dx od b=zq u:=λb u q n1 n2=>by
  rw [jf,jf];exact q
  ·intro z;subst z;rw [he] at q;cases q;exact n1 _ rfl
  ·intro z;subst z;rcases hn with y|⟨g,y⟩
   ·rw [y] at q;cases q
   ·rw [y] at q;cases q;exact n2 _ rfl
 refine⟨λb o q n _ _=>k b o (nf b o q n).1 (nf b o q n).2 q,λb o q n _ _=>⟨o.slots,k b o (nf b o q n).1 (nf b o q n).2 q⟩,λb o q n _=> ?_,λb o q _=> ?_,λb xs q=>same b _ q (λ_ z=>(nomatch z)) (λ_ z=>(nomatch z)),λb o u q=>same b _ q (λ_ z=>(nomatch z)) (λ_ z=>(nomatch z)),λb ps q=>⟨#[],by rw [same b _ q (λ_ z=>(nomatch z)) (λ_ z=>(nomatch z))];simp⟩⟩
 ·rw [jf (nf b o q n).2,jf (nf b o q n).1];exact n
 ·by_cases z:b=e
  ·subst z;exact ke
  ·by_cases y:b=dx
   ·subst y;exact kd
   ·exact⟨o,k b o z y q⟩
structure Ĵ (K:Frag)(C f:G7)(ns:G0 F7):Prop where
 ini:UR K C f bmV "ValueError.__new__" ns=xb
 kp:keepIn K (.ref C)=xb
def Yh (n:Str):Prop:=gG (.type "ValueError") n=pure xa
section
variable {X:Cx}{À:G0 (G7×Obj)}{σ:St}{H:Hp}{s:G2}{C f e:G7}{ns:G0 F7}
def Ĵ.two (k:Ĵ X.K C f ns)(I:Inv X À σ H s): ∃m1 m2,ŗ s.heap C bmV "ValueError.__new__" m1 m2/\ ∀x∈ "__setattr__" :: "__getattribute__" :: "__getattr__" ::ns,m1 (P6 x)=xa/\m2 (P6 x)=xa:=by
 obtain⟨_,N,N2,W,_,_,q⟩:=Vs I.kIn k.ini;exact⟨_,_,W,q⟩
def TY {x:F7}{n:P4}{u:G1}{ď:T7 G1}{Q:Unit->G2->Prop}{A:S4}{E:G1->G2->Prop}(k:Ĵ X.K C f ns)(hx:x∈ns)(hB:Yh (P6 x))(I:Inv X À σ H s)(he:H e=zq (Χ e C ď xa))(ru:RelV (.int n) u)
 (q: ∀dx s',H dx=xa->dx≠e->Inv X À σ (upd (upd H e (Χ e C ď (zq dx))) dx (XdO dx (fdV [(P6 x,n)]))) s'->Q () s'):D6 (R3 X.prog X.w) A (G0t (.ref e) (P6 x) u) Q E s:=by
 obtain⟨m1,m2,W,nn⟩:=k.two I;obtain⟨⟨o,ho,hc,hd,hdd⟩,_⟩:=(show (∃o,s.heap.get? e=zq o/\o.cls= .ref C/\o.data= .fields ď/\o.dict=xa)/\_ from I.hok e _ he);have hxm:x∈ "__setattr__" :: "__getattribute__" :: "__getattr__" ::ns:= .tail _ (.tail _ (.tail _ hx));refine W.field1 xA (nn "__setattr__" (.head _)).1 (nn "__setattr__" (.head _)).2 (nn x hxm).1 (nn x hxm).2 hB ho hc hdd ⟨ď,hd⟩ λh' D tk' ge gD nD kb=> ?_
 have hDe:D≠e:=λz=>by subst z;rw [gD] at ho;cases ho
 have hHD:H D=xa:=by
  cases z:H D with
  |none=>rfl
  |some w=>obtain⟨o',e'⟩:=(I.hok D w z).there;rw [gD] at e';cases e'
 have un:Un X.fs [] H (upd (upd H e (Χ e C ď (zq D))) D (XdO D (fdV [(P6 x,n)]))) s.heap h':=EL ⟨_,he⟩ (.inl gD) (.inl hHD) (λb o' n1 _ q'=>kb b o' n1 q') ⟨_,ge⟩ (let ⟨o',_,_,z,_⟩:=nD;⟨o',z⟩);refine q D _ hHD hDe (I.un (h':=h') (t':=tk') un λb w hb=> ?_)
 by_cases z:b=D
 ·subst z;rw [jh] at hb;cases hb;refine EK nD λg=> ?_
  rw [RE]
  by_cases y:g=P6 x
  ·rw [S5 y,S5 y];exact ru
  ·rw [R9 y,R9 y];exact Y7
 rw [jf z] at hb
 by_cases y:b=e
 ·subst y;rw [jh] at hb;cases hb;exact Cc ge hc hd rfl
 rw [jf y] at hb;have ne: ∀c v,H c=zq v->(∀φ,v≠ .ext φ)->c≠e/\c≠D:=λc v hc' nx=>⟨λz=>by subst z;rw [he] at hc';cases hc';exact nx _ rfl,λz=>by subst z;rw [hHD] at hc';cases hc'⟩
 refine(I.hok b w hb).stay (λc u hc' g=> ?_) (λc hc'=> ?_) λc xs hc'=> ?_
 ·rcases hc' with rfl|hc'
  ·exact kb _ _ y g
  ·exact kb _ _ (ne c _ hc' λ_ z=>(nomatch z)).1 g
 ·have:=ne c _ hc' (λ_ z=>(nomatch z));rw [jf this.2,jf this.1];exact hc'
 ·have:=ne c _ hc' (λ_ z=>(nomatch z));rw [jf this.2,jf this.1];exact hc'
def sXa (C:G7)(i:P0)(x:F7):TS:=λD σ H=> ∃e n ď,σ[0]? =zq (zq (.ref e))/\σ[i]? =zq (zq (.int n))/\H e=zq (Χ e C ď xa)/\ ∀dx,H dx=xa->dx≠e->D.nx σ (upd (upd H e (Χ e C ď (zq dx))) dx (XdO dx (fdV [(P6 x,n)])))
def TZ {i:P0}{x y:F7}{p1 p2 p3 p4:Pos}(k:Ĵ X.K C f ns)(hx:x∈ns)(hB:Yh (P6 x))(h0:X.N[0]? =zq (P6 "self"))(v0:Vis X.env.scope (P6 "self"))(hi:X.N[i]? =zq (P6 y))(vi:Vis X.env.scope (P6 y))(d1:(P6 y==("__debug__" :Str))=xf)(d2:(P6 y==("__classdict__" :Str))=xf)
 (hs:U0 (.Name (P6 y) p3) (zq (.Attribute (.Name (P6 "self") p1) (P6 x) p2)) p4.line X.env=pure xf:=by rfl):PS X (.Assign [.Attribute (.Name (P6 "self") p1) (P6 x) p2] (.Name (P6 y) p3) p4) (sXa C i x):=by
 intro À s σ H D I ⟨e,n,ď,q0,qi,he,q⟩;refine plainObj_wpAny_Assign_Attribute (Ø (PK hi vi d1 d2 À s σ H (λv H'=>v= .int n/\H'=H) I ⟨_,qi,rfl,rfl⟩) λu s1 ⟨v,H1,I1,rv,e1,e2⟩=>Ø (PK h0 v0 (by decide) (by decide) À s1 σ H1 (λv H'=>v= .ref e/\H'=H) I1 ⟨_,q0,rfl,e2⟩) λov s2 ⟨v2,H2,I2,rx,e3,e4⟩=> ?_) hs;subst e1 e3 e4;obtain rfl:ov=N7 e:=rx;exact TY k hx hB I2 he rv λdx s' n1 n2 I3=>⟨σ,_,I3,q dx n1 n2⟩
end
def spI (C:G7)(ns:G0 F7):Sp:=λvs H Q _=> ∃e,∃ď:T7 G1,∃ms:G0 P4,vs= .ref e::ms.map V.int/\ms.length=ns.length/\H e=zq (Χ e C ď xa)/\ ∀dx,H dx=xa->dx≠e->Q .non (upd (upd H e (Χ e C ď (zq dx))) dx (XdO dx (fdV ((ns.map P6).zip ms))))
section
variable {P:D5}{w:T8}{K:G3}{mg:Str->P1 G1}{base:N8}{C f fI:G7}{fd:R8}{st:L8}{q:Str}{n:P0}
def Ha {x:F7}{p1 p2 p3 p4:Pos}(k:Ĵ K C fI [x])(F:â K "__init__" q st f fd)(S:Ã [P6 "self",P6 x] [P6 "self",P6 x] (jd st))(hb:jL st= [.Assign [.Attribute (.Name (P6 "self") p1) (P6 x) p2] (.Name (P6 x) p3) p4])
 (l0:(jd st).names.lookup (P6 "self")=zq .local)(l1:(jd st).names.lookup (P6 x)=zq .local)(hB:Yh (P6 x))(d1:(P6 x==("__debug__" :Str))=xf)(d2:(P6 x==("__classdict__" :Str))=xf):
 Ì P w K mg base à (n+1) f fd [P6 "self",P6 x] (spI C [x]):=by
 refine F.ok S (λvs H Q E ⟨e,ď,ms,h,hl,_⟩=>by rw [h];simp [hl]) λÏ A outer s H vs Q E hr ⟨e,ď,ms,h,hl,he,hq⟩=> ?_
 match ms,hl with
 | [m],_=>
  subst h;rw [hb];exact⟨_,PN (TZ (i:=1) k (.head _) hB rfl (.inl l0) rfl (.inl l1) d1 d2),e,m,ď,rfl,rfl,he,λdx n1 n2=>hq dx n1 n2⟩
end
def Kq (x:Str)(ns:G0 F7)(ta:TAD):TXD:=λσ h R=>ta σ h λds h1=> ∃ms:G0 P4,ds=ms.map D.int/\ms.length=ns.length/\R ⟨x,(ns.map P6).zip ms⟩ h1
theorem RF {K:Frag}: ∀ {ms:G0 P4} {vs:G0 V},Á K H (ms.map D.int) vs->vs=ms.map V.int
 | [],_,r=>r
 |m::ms,vs,r=>by
  obtain⟨v,l,e,h1,h2⟩:=(show ∃v l,vs=v::l/\É K H (.int m) v/\Á K H (ms.map D.int) l from r);subst e;rw [show v= .int m from h1,RF h2];rfl
def Inv.letgo {X:Cx}{À:G0 (G7×Obj)}{σ:St}{H1:Hp}{s:G2}{dx C:G7}{ď:T7 G1}{fs:G0 (Str×V)}(I:Inv X À σ H s)(hH:H=upd (upd H1 e (Χ e C ď (zq dx))) dx (XdO dx fs))(n1:H1 e=xa)(n2:H1 dx=xa)(hne:dx≠e):
 ∃oD,Inv X À σ (upd H1 dx (.frz oD (.xd fs))) s:=by
 have he:H e=zq (Χ e C ď (zq dx)):=by rw [hH,jf (O6 hne),jh]
 have hd:H dx=zq (XdO dx fs):=by rw [hH,jh]
 have hb: ∀b,b≠e->b≠dx->H b=H1 b:=λb a c=>by rw [hH,jf c,jf a]
 obtain⟨mA,nD,rA⟩:=(show ∃mA,s.heap.Ns1 dx mA/\ ∀f,Ő (fs.lookup f) (mA f) from (I.hok dx _ hd).1);obtain⟨oD,_,_,gD,_⟩:=id nD;have same: ∀b u,H b=zq u->(∀φ,u≠ .ext φ)->upd H1 dx (.frz oD (.xd fs)) b=zq u:=λb u q n=>by
  have a:b≠e:=λz=>by subst z;rw [he] at q;cases q;exact n _ rfl
  have c:b≠dx:=λz=>by subst z;rw [hd] at q;cases q;exact n _ rfl
  rw [jf c,<-hb b a c];exact q
 have free: ∀b,H b=xa->upd H1 dx (.frz oD (.xd fs)) b=xa:=λb q=>by
  have c:b≠dx:=λz=>by subst z;rw [hd] at q;cases q
  have a:b≠e:=λz=>by subst z;rw [he] at q;cases q
  rw [jf c,<-hb b a c];exact q
 refine⟨oD,I.un (h':=s.heap) (t':=s.toks) ⟨λb o q _ _ _=>q,λb o q _ _ _=>⟨o.slots,q⟩,λb o _ n _=>free b n,λb o q _=>⟨o,q⟩,λb xs q=>same b _ q (λ_ z=>(nomatch z)),λb o u q=>same b _ q (λ_ z=>(nomatch z)),λb ps q=>⟨#[],by rw [same b _ q (λ_ z=>(nomatch z))];simp⟩⟩ λb u q=> ?_⟩
 by_cases c:b=dx
 ·subst c;rw [jh] at q;cases q;exact⟨gD,mA,nD,rA⟩
 ·rw [jf c] at q;have a:b≠e:=λz=>by subst z;rw [n1] at q;cases q
  exact(I.hok b u (by rw [hb b a c];exact q)).stay (λ_ _ _ z=>z) (λb' q'=>same b' _ q' (λ_ z=>(nomatch z))) λb' xs q'=>same b' _ q' (λ_ z=>(nomatch z))
def EM {fs ex:G0 G7}{h':N8}{o:HO}(k: ∀b u,h.get? b=zq u->h'.get? b=zq u)(g:h.get? e=xa)(n:H e=xa):Un fs ex H (upd H e o) h h':=by
 have ne: ∀ {b u},H b=zq u->upd H e o b=zq u:=λ{b u} q=>by rw [jf (jm q n)];exact q
 refine⟨λb u q _ _ _=>k b u q,λb u q _ _ _=>⟨u.slots,k b u q⟩,λb u q n' _=> ?_,λb u q _=>⟨u,k b u q⟩,λb xs q=>ne q,λb u v q=>ne q,λb ps q=>⟨#[],by rw [ne q];simp⟩⟩;rw [jf (λz=>by subst z;rw [g] at q;cases q)];exact n'
def Lq {h':N8}{o:HO}(ok:ă P w H h)(k: ∀b u,h.get? b=zq u->h'.get? b=zq u)(n:H e=xa)(q:Ô P w (upd H e o) h' e o):ă P w (upd H e o) h':=λb u z=>by
 by_cases y:b=e
 ·subst y;rw [jh] at z;cases z;exact q
 ·rw [jf y] at z;exact(ok b u z).stay (λc v _ q=>k c v q) (λc q=>by rw [jf (jm q n)];exact q) λc xs q=>by rw [jf (jm q n)];exact q
section
variable {X:Cx}{e:S2}{es:G0 S2}{rest:G0 L8}{ta:TAD}{np Ë pos:Pos}
def RG {k:P0}{x:Str}{C f fI:G7}{fd:R8}{ps:G0 Str}{ns:G0 F7}(hg:Gl X x)(hm:X.mg x=zq (.ref C))(I0:Ĵ X.K C fI ns)(hz:ns.length<=100)(F:Ì X.prog X.w X.K X.mg X.base à k fI fd ps (spI C ns))(hb:Binds X.K fd ps [])(hr:Ð (k+1) X.A)(Ÿ:X.calm=xb)(ha:JA X (e::es) ta)(hdb:(x==("__debug__" :Str))=xf:=by decide)
 (he:P9 (e::es) X.env=(xf,L7 e X.env)::P9 es X.env:=by rfl)(hpl:(E3 Ë (P9 es X.env)).any (·.1)=xf:=by rfl):
 JX X (.Raise (zq (.Call (.Name x np) (e::es) [] Ë)) xa pos::rest) (Kq x ns ta):=⟨λE Z À s σ H Ä h R I rs rh ht w=>by
 refine J9 (R7 (?_:D6 _ _ _ (λ_ _=>False) _ _) (λ_ _ z=>z.elim) λ_ _ z=>z);rw [arm_exec_Raise];have key:D6 (R3 X.prog X.w) X.A (L7 (.Call (.Name x np) (e::es) [] Ë) X.env) (λv u=> ∃m1 m2 e o t,v= .ref e/\ŗ u.heap C bmV "ValueError.__new__" m1 m2/\u.heap.get? e=zq o/\o.cls= .ref C/\o.data= .fields #[.ref t,.none,.none,.none,.bool xf,.none]/\X.xe (.ref e) u) X.xe s:=by
  refine W0 (vM I hg hm ?_ hdb);refine dI (h₀:=X.base) I.ok.mod.kin I0.kp (Ø (ha.to Ë À s σ H (λvs H1=> ∃ds h1,Kept H H1/\Å X.K h1 H1/\Á X.K H1 ds vs/\ ∃ms:G0 P4,ds=ms.map D.int/\ms.length=ns.length/\R ⟨x,(ns.map P6).zip ms⟩ h1) I
   ⟨Ä,h,_,rs,rh,ht,λds vs h' H' kp ì r q=>⟨ds,h',kp,ì,r,q⟩⟩) λus s1 ⟨vs,H1,I1,rv,ds,h1,kp,Î,rd,ms,e1,hl,hR⟩=>⟨I1.kIn,?_⟩) he hpl
  subst e1;have ev:=RF rd;subst ev;obtain⟨O,_⟩:=Vs I1.kIn I0.ini;have hlen:us.length<=xh:=by
   have e2:=rv.length;rw [G6] at e2;rw [lE];omega
  have hs0: ∀b,s1.heap.get? b=xa->X.s₀.heap.get? b=xa:=λb nb=>by
   cases q:X.s₀.heap.get? b with
   |none=>rfl
   |some o=>obtain⟨o',e'⟩:=I1.base.there b o q (by rw [Z.ex];simp);rw [nb] at e';cases e'
  refine O.call i5 hlen λh' e hme=> ?_
  obtain⟨t,ge,_,_⟩:=hme.there;have n1:H1 e=xa:=by
   cases z:H1 e with
   |none=>rfl
   |some u=>obtain⟨o',e'⟩:=(I1.hok e u z).there;rw [hme.new] at e';cases e'
  generalize hvs:(#[.ref t,.none,.none,.none,.bool xf,.none]:T7 G1)=ď at ge;have I2:Inv X À σ (upd H1 e (Χ e C ď xa)) {s1 with heap:=h'}:=I1.un (h':=h') (t':=s1.toks) (EM hme.keeps hme.new n1) (Lq I1.hok hme.keeps n1 (Cc ge rfl rfl rfl));have r2:Æ (V.ref e::ms.map V.int) (N7 e::us):= .cons rfl rv;have œ:spI C ns (V.ref e::ms.map V.int) (upd H1 e (Χ e C ď xa)) (λv H'=>v= .non/\ ∃dx,upd H1 e (Χ e C ď xa) dx=xa/\dx≠e/\H'=upd (upd H1 e (Χ e C ď (zq dx))) dx (XdO dx (fdV ((ns.map P6).zip ms)))) E0:=
   ⟨e,ď,ms,rfl,hl,jh,λdx q1 q2=>⟨rfl,dx,q1,q2,by rw [Ct]⟩⟩
  have hl2:(N7 e::us).length=ps.length:=by
   have e':=r2.length;rw [F.len _ _ _ _ œ] at e';exact e'.symm
  have bi:=hb {s1 with heap:=h'} (N7 e::us) I2.kIn (by simpa using hl2);rw [A5] at bi;refine aG (F.run _ X.stack _ _ ⟨N7 e::us,[]⟩ (N7 e::us) _ _ E0 (hr.make C us []) (I2.env0.make C us []) bi r2 œ) λr s' hq'=> ?_
  cases r with
  |error _=>exact hq'.elim
  |ok fl=>
   cases fl with
   |next=>exact hq'.elim
   |brk=>exact hq'.elim
   |cont=>exact hq'.elim
   |ret u=>
    obtain⟨v,H',I3,rv',ev,dx,q1,q2,eH⟩:=I2.after hq';subst ev;obtain rfl:u=gE:=rv';have n2:H1 dx=xa:=by rw [jf q2] at q1;exact q1
    obtain⟨oD,I4⟩:=I3.letgo eH n1 n2 q2;obtain⟨⟨o,go,hc,hd,hdd⟩,_⟩:=(show (∃o,s'.heap.get? e=zq o/\o.cls= .ref C/\o.data= .fields ď/\o.dict=zq dx)/\_ from I3.hok e (Χ e C ď (zq dx)) (by rw [eH,jf (O6 q2),jh]));obtain⟨_,N,N2,W,_⟩:=Vs I4.kIn I0.ini;refine⟨rfl,_,_,e,o,t,rfl,W,go,hc,by rw [hd,<-hvs],?_⟩;have nx:upd H1 dx (.frz oD (.xd (fdV ((ns.map P6).zip ms)))) e=xa:=by rw [jf (O6 q2)];exact n1
    refine Z.xe _ _ (Rf (C:=C) (dx:=zq dx) (a0:= .ref t) I4 Z nx (hs0 e hme.new) go hc hd (by rw [<-hvs];rfl) (by rw [<-hvs];rfl) hdd λh2 un hok fl=> ?_);exact⟨e,C,zq dx,_,rfl,I4.os,I4.bare,un,hok,fl,w ⟨x,(ns.map P6).zip ms⟩ C (zq dx) h1 _ (kp.trans (.new n2)) (Î.new n2) hm hR (.inr ⟨dx,oD,rfl,jh⟩)⟩
 refine xg (U1 ?_);refine Pb (by decide +kernel) (I.ok.hd Ÿ) (xg (R7 key (λv u q=>xg (U1 (G8 q))) λ_ _ z=>z))⟩
end
def X1Z:G0 (Str×Str):= [("NoTable","table"),("NoPlace","place"),("NoNumber","number"),("NoOrder","order"),("NoSet","set"),("NoWalk","walk"),("NoLengths","lengths"),("NoWay","way"),("Apart","apart"),("NoRow","row"),("NoTables","tables"),("NoText","text"),("TooGreat","great")]
def Vt (c:Str):Str:=(X1Z.lookup c).getD "other"
def Op (c:Str):G0 F7:=if c=P6 "TooGreat" then ["many","most"] else if c=P6 "NoTables" \/c=P6 "NoText" then ["at"] else []
def NV (c:RN):N3:=CN13.contains c.nm&&(c.fs.map (·.1)==(Op c.nm).map P6)
def NW (c:RN):G0 D:= .str (Vt c.nm)::c.fs.map λp=>D.int p.2
def Vu {c:RN}(h:NV c=xb):c.nm∈CN13:=by
 unfold NV at h;simp only [B7] at h;exact K3.mp h.1
def Lr {x:G7}{o:HO}{dx dx':P1 G7}{fs:G0 (Str×P4)}(f:ħ H dx fs)(q:dx=xa\/dx'=dx)(n:H x=xa):ħ (upd H x o) dx' fs:=f.imp id λ⟨D,oD,e,h⟩=>by
 subst e;refine⟨D,oD,q.elim (λz=>(nomatch z)) id,?_⟩;rw [jf (jm h n)];exact h
inductive X1x (P:D5)(w:T8)(K:G3)(mg:Str->P1 G1)(base:N8)(n:P0)(s:G2)(vs:G0 V)(H:Hp)(Q:VK):Prop
 |mk (f:G7) (o:Obj) (qual:Str) (pm cv Λ:G1) (cl:G0 (Str×G7)) (q:Str) (N:G0 Str) (σ:St) (scope:A2) (body:S2) (h:HD) (Qd:KD) (e1:vs= [.ref f]) (e2:s.heap.get? f=zq o) (e3:o.data= .func (kla_fn "<lambda>" qual Ye body scope cl pm cv Λ)) (e4:ŷ H cv q) (e5:H f=xa) (e6:Ś scope) (e7:Cap N σ scope cl s.heap H) (e8:Å K h H) (e9:BP K H Qd Q)
  (alt:((∃QT:VK,(∀ (A':S4) (Ď:G0 Env) (s':G2) (E':XK),Ð n (A'.deeper (envX q scope s'.heap.objs.size f cv cl))-> ∃t,PE (cxL à P w K mg base N q scope f cv cl A' Ď s' H E') body t/\t σ H QT)/\
   ∀v H',QT v H'-> ∃d h',Kept H H'/\Å K h' H'/\É K H' d v/\Qd (.tup [.str "told",d]) h')\/
  (∃RT:G7->P1 G7->Hp->Prop,(∀ (A':S4) (Ď:G0 Env) (s':G2),Ð n (A'.deeper (envX q scope s'.heap.objs.size f cv cl))-> ∀À s2,Inv (cxL (Ģ P w) P w K mg base N q scope f cv cl A' Ď s' H (λc dx H'=> ∃C,c= .ref C/\RT C dx H')) À σ H s2->
   D6 (R3 P w) (A'.deeper (envX q scope s'.heap.objs.size f cv cl)) (L7 body (envX q scope s'.heap.objs.size f cv cl)) (λ_ _=>False) (cxL (Ģ P w) P w K mg base N q scope f cv cl A' Ď s' H (λc dx H'=> ∃C,c= .ref C/\RT C dx H')).xe s2)/\
   ∀C dx H',RT C dx H'-> ∃ (c:RN) (h':HD),mg c.nm=zq (.ref C)/\NV c=xb/\Kept H H'/\Å K h' H'/\ħ H' dx c.fs/\Qd (.tup (NW c)) h')))
def Vv (P:D5)(w:T8)(K:G3)(mg:Str->P1 G1)(base:N8)(n:P0):G2->Sp:=λs vs H Q _=>X1x P w K mg base n s vs H Q
def NX {K:G3}{mg:Str->P1 G1}{base:N8}{st:L8}{fs:G7}{fds:R8}{n:P0}{pe:G7}{p1 p2 p3 p4 p5 p6 p7 p8 p9 p10 p11:Pos}{j k:P0}{b0:L8}{suite:G0 L8}
 (F:â K "_law_said" "_law_said" st fs fds)(S:Ã N1 ["_law_call"] (jd st))
 (hb:jL st= [.Try [.Assign [.Name "_law_found" p1] (.Call (.Name "_law_call" p2) [] [] p3) p4] [.ExceptHandler (zq (.Name "PowerError" p5)) (zq "_law_e") (b0::suite) p6] [] [] p7,.Return (zq (.Tuple [.Constant (.str "told") j p8,.Name "_law_found" p9] k p10)) p11])
 (l0:(jd st).names.lookup ("_law_call" :Str)=zq .local)(l1:(jd st).names.lookup ("_law_found" :Str)=zq .local)(l2:(jd st).names.lookup ("_law_e" :Str)=zq .local)(lp:(jd st).names.lookup ("PowerError" :Str)=zq .globalImplicit)
 (hm:mg "PowerError" =zq (.ref pe))(hex: ∀c∈CN13,∀C,mg c=zq (.ref C)->exmOne K (.ref C) (.ref pe)=zq xb)(tS:TSD)
 (X0V: ∀ (Ï:G1) (A:S4) (outer:G0 Env) (s:G2) (H:Hp) (E:XK) (x:G7),æ n ((A.deeper (K2 "_law_said" (jd st) s.heap.objs.size fs Ï)).mark (zq (.ref x)))->Ī (cxH (ZT à P w K mg base N1 "_law_said" (jd st) fs Ï A outer s H E) x) (b0::suite) tS)
 (X1y: ∀ (c:RN) (C:G7) (h:HD) (Qd:KD),NV c=xb->mg c.nm=zq (.ref C)->Qd (.tup (NW c)) h->tS {nx:=λ_ _=>False,rt:=λd h'=> ∃h2,Sub h2 h'/\Qd d h2} [xa,xa,zq (.exf C c.fs),xa] h):
 ś P w K mg base à (n+2) fs fds ["_law_call"] (Vv P w K mg base n):=by
 obtain⟨oc,od,kV,doc,pm,an,Ï,ct,Ĕ,rfl,lk,hcd⟩:=F.ex;refine Er lk hcd S (λs vs H Q E h=> ?_) λA outer s H vs Q E hr œ s1 I=> ?_
 ·obtain⟨f,_,_,_,_,_,_,_,_,_,_,_,_,_,rfl,_,_,_,_,_,_,_,_,_⟩:=h;rfl
 obtain⟨f,o,qual,pmv,cv,Λ,cl,q,N,σ,scope,body,h,Qd,rfl,ho,hod,hcf,hHf,L,C,rh,post,alt⟩:=œ;have un:=I.base;obtain⟨sl,ho1⟩:=un.any ho hHf (by intro z;cases z);have C1:Cap N σ scope cl s1.heap H:=C.step un;have hr0:Ð (n+1) (A.deeper (K2 "_law_said" (jd st) s.heap.objs.size fs Ï)):=hr;rw [hb];have callee: ∀ {CX:CXT} {E':XK} {QT:VK} {t:TE} {Q2:G1->G2->Prop} {EE:G1->G2->Prop},PE (cxL CX P w K mg base N q scope f cv cl (A.deeper (K2 "_law_said" (jd st) s.heap.objs.size fs Ï)) (K2 "_law_said" (jd st) s.heap.objs.size fs Ï::outer) s1 H E') body t->t σ H QT->
  (∀r s2,CR CX (K2 "_law_said" (jd st) s.heap.objs.size fs Ï::outer) P w H s1 QT E' r s2->match r with| .ok (.ret v)=>Q2 v s2| .ok _=>False| .error e=>EE e s2)->
  D6 (R3 P w) (A.deeper (K2 "_law_said" (jd st) s.heap.objs.size fs Ï)) (L7 (.Call (.Name "_law_call" p2) [] [] p3) (K2 "_law_said" (jd st) s.heap.objs.size fs Ï)) Q2 EE s1:=by
  intro CX E' QT t Q2 EE hbt ht hk;refine W0 ?_;obtain⟨m,hn,hl⟩:=I.loc;obtain⟨u,ru,l⟩:=hl 0 "_law_call" (.ref f) rfl rfl (.inl l0);cases ru;have hmm:m "_law_call" =zq (.ref f):=by
   rcases l with ⟨_,e⟩|⟨kk,_⟩
   ·exact e
   ·rcases kk with kk|kk<;>(have k':(jd st).names.lookup ("_law_call" :Str)=_:=kk;rw [l0] at k';cases k')
  refine pO (gZ S.kind l0 hn hmm ?_) (by decide);refine callWith_of (P:=λh=> ∃o fd,h.get? f=zq o/\o.data= .func fd) rfl Rj (evalArgs_nil3 ⟨⟨_,_,ho1,hod⟩,?_⟩);exact gF (aG (FZ (CX:=CX) (k:=n) L hr0 I.env0 C1 ho1 hod hcf hbt ht) hk)
 refine J9 (wpAny_Try_except ?_);refine J9 (qH ?_ rfl);rcases alt with ⟨QT,hT,hQ⟩|⟨RT,hR,hQ⟩
 ·obtain⟨t,hbt,ht⟩:=hT (A.deeper (K2 "_law_said" (jd st) s.heap.objs.size fs Ï)) (K2 "_law_said" (jd st) s.heap.objs.size fs Ï::outer) s1 E0 (hr0.deeper _);refine callee hbt ht λr s2 hq=> ?_
  cases r with
  |error e=>exact xn hq
  |ok fl=>
   cases fl with
   |next=>exact xn hq
   |brk=>exact xn hq
   |cont=>exact xn hq
   |ret u=>
    obtain⟨v,H',I2,rv,qt⟩:=I.after hq;obtain⟨d,h',kp,ì,rd,qd⟩:=hQ v H' qt;refine wM I2 (i:=1) (x:= "_law_found") S.nd rfl (.inl l1) rv (λs3 I3=> ?_) (.inr l1);refine bH (bH ?_);have X10:Ī (ZT à P w K mg base N1 "_law_said" (jd st) fs Ï A outer s H E) [.Return (zq (.Tuple [.Constant (.str "told") j p8,.Name "_law_found" p9] k p10)) p11] (DA (Oh (jP (dC (.str "told")) (jP (JM 1) Jk)))):=
     jO (zf (yf (Ć JU (Ć (jv 1 rfl (.inl l1)) zu))))
    exact X10.to [] s3 _ H' _ I3 ⟨[xa,zq d,xa,xa],h',{nx:=λ_ _=>False,rt:=Qd},⟨rfl,λi d' e=>by
     match i,e with
     |0,e=>cases e
     |1,e=>cases e;exact⟨v,rfl,rd⟩
     |2,e=>cases e
     |3,e=>cases e
     |i+4,e=>simp at e⟩,ì,⟨_,rfl,(by show 2<=xh;decide),qd⟩,λ_ _ _ _ _ _ _ z=>z.elim,jG post kp,λ_ _ _ _ _ _ _ z=>z.elim,λ_ _ _ _ _ _ _ z=>z.elim⟩
 ·refine callee (CX:=Ģ P w) (E':=λc dx H'=> ∃C,c= .ref C/\RT C dx H') (QT:=λ_ _=>False) (t:=λÂ H' _=>Â=σ/\H'=H)
   (λÀ s2 Â H' Q' I' ⟨e1,e2⟩=> ?_) ⟨rfl,rfl⟩ λr s2 hq=> ?_
  ·subst e1;subst e2;exact R7 (hR _ _ s1 (hr0.deeper _) À s2 I') (λ_ _ z=>z.elim) λ_ _ z=>z
  cases r with
  |ok fl=>
   cases fl with
   |next=>exact xn hq
   |brk=>exact xn hq
   |cont=>exact xn hq
   |ret u=>obtain⟨_,_,_,_,_,_,_,z⟩:=hq;exact z.elim
  |error e=>
   obtain⟨x,C',dx,H',rfl,os,bare,un2,hok,fl,C2,eC,rt⟩:=hq;cases eC;obtain⟨c,h',hmc,π,kp,ì,fh,qd⟩:=hQ C' dx H' rt;have I2:=I.call' (ch:= []) os un2 hok bare (λb z=>xj z (by simp));have f0: ∀b,s1.heap.get? b=xa->s.heap.get? b=xa:=λb nb=>by
    cases qq:s.heap.get? b with
    |none=>rfl
    |some o=>obtain⟨o',e⟩:=I.base.there b o qq (by intro z;cases z);rw [nb] at e;cases e
   have fl':Fly s.heap H' s2.heap x C' dx:=by
    obtain⟨⟨oe,vs,a0,T,oT,ts,a1,a2,a3,a4,a5,a6,a7,a8,a9,a10,a11⟩,nx,n0,dc⟩:=fl;exact⟨⟨oe,vs,a0,T,oT,ts,a1,a2,a3,a4,a5,a6,a7,a8,a9,a10,f0 _ a11⟩,nx,f0 _ n0,dc⟩
   have hsu:=X0V Ï A outer s H E x (æ.mark ((hr0.mono (oC n)).u));refine R7 (NB (X:=ZT à P w K mg base N1 "_law_said" (jd st) fs Ï A outer s H E) (σ:=start N1 [V.ref f]) (i:=2) (n:= "_law_e") (C:=C') (t:=LS K tS) (D:= {nx:=λ_ _=>False,rt:=Q}) ⟨rfl,rfl,rfl⟩ rfl S.nd rfl l2 lp hm (hex c.nm (Vu π) C' hmc) I2 fl' hsu.to λoe vs hc hd hdx=> ?_) (λ_ s3 h3=>R7 h3 (λ_ s4 h4=>R7 h4 (λfl s5 h5=> ?_) λ_ _ z=>z) λ_ _ z=>z) λ_ _ z=>z
   ·refine⟨[xa,xa,zq (.exf C' c.fs),xa],h',_,⟨rfl,λi d' e=> ?_⟩,ì.new fl'.nx,X1y c C' h' Qd π hmc qd,λ_ _ _ _ _ _ _ z=>z.elim,λd v h2 H2 k2 ð rd ⟨h3,sb,q3⟩=>post d v h3 H2 ((kp.trans (.new fl'.nx)).trans k2) (ð.sub sb) rd q3,λ_ _ _ _ _ _ _ z=>z.elim,λ_ _ _ _ _ _ _ z=>z.elim⟩
    match i,e with
    |0,e=>cases e
    |1,e=>cases e
    |3,e=>cases e
    |i+4,e=>simp at e
    |2,e=>cases e;exact⟨.ref x,rfl,x,oe,vs,rfl,jh,hc,hd,Lr fh hdx fl'.nx⟩
   ·cases fl with
    |next=>obtain⟨_,_,_,z⟩:=h5;exact z.elim
    |brk=>obtain⟨_,_,_,z⟩:=h5;exact z.elim
    |cont=>obtain⟨_,_,_,z⟩:=h5;exact z.elim
    |ret u=>exact h5
def EN (tT:TED)(tR:TXD):TED:=λσ h Q=>tT σ h (λd h'=>Q (.tup [.str "told",d]) h')\/tR σ h (λc h'=>NV c=xb/\Q (.tup (NW c)) h')
def RH {X:Cx}{n:P0}{fs:G7}{fds:R8}{scope:A2}{body:S2}{X1z p pos:Pos}{tT:TED}{tR:TXD}{c P:G7}
 (F:ś X.prog X.w X.K X.mg X.base à (n+2) fs fds ["_law_call"] (Vv X.prog X.w X.K X.mg X.base n))(hr:Ð (n+2) X.A)(hg:Gl X "_law_said")(hm:X.mg "_law_said" =zq (.ref fs))(hk:keepIn X.K (.ref fs)=xb)(hb:Binds X.K fds ["_law_call"] [])
 (B:Bm X.mg X.base)(ο:X.env.code= .ref c)(hc:codeHdIn X.K c P=xb)(hTK:X0C X.K P)(L:Ś scope)(hfr:Rg scope X.env)
 (hT: ∀ (q:Str) (cv:G1) (cl:G0 (Str×G7)) (f:G7) (A:S4) (outer:G0 Env) (s:G2) (H:Hp) (E:XK),Ð n (A.deeper (envX q scope s.heap.objs.size f cv cl))->JE (cxL à X.prog X.w X.K X.mg X.base X.N q scope f cv cl A outer s H E) body tT)
 (hR: ∀ (q:Str) (cv:G1) (cl:G0 (Str×G7)) (f:G7) (A:S4) (outer:G0 Env) (s:G2) (H:Hp) (E:XK),Ð n (A.deeper (envX q scope s.heap.objs.size f cv cl))->JXE (cxL (Ģ X.prog X.w) X.prog X.w X.K X.mg X.base X.N q scope f cv cl A outer s H E) body tR)
 (he:P9 [Expr.Lambda Ye body scope X1z] X.env=(xf,L7 (.Lambda Ye body scope X1z) X.env)::P9 [] X.env:=by rfl)(hpl:(E3 pos (P9 [] X.env)).any (·.1)=xf:=by rfl):
 JE X (.Call (.Name "_law_said" p) [.Lambda Ye body scope X1z] [] pos) (EN tT tR):=⟨λÀ s σ H Q I ⟨Ä,h,Qd,rs,rh,alt,post⟩=>by
 refine W0 (vM I hg hm ?_ (by decide));refine dI (h₀:=X.base) I.ok.mod.kin hk ?_ he hpl;rw [he];obtain⟨ps,hP,hps⟩:=rh.tb P hTK;have hcl:iW scope X.env=pure (ZN X.env.cells scope.names []):=Wu λn hn=>I.ok.has n (hfr n hn)
 refine iR (Nu I B ο hc hP hps hcl λf q qual pm cv Λ H1 h1 tk I1 kp X1K tbls PB hf hcf hHf _ _ _=>lF ⟨I1.kIn,?_⟩);have Î:Å X.K h H1:=⟨λa ds e=>by
  obtain⟨vs,e1,e2⟩:=rh a ds e;exact⟨vs,X1K _ _ e1 (by intro _ z;cases z),e2.mono kp⟩,λP' hP'=>by
  by_cases z:P'=P
  ·subst z;exact PB
  ·obtain⟨ps',e1,e2⟩:=rh.tb P' hP';exact⟨ps',tbls _ _ e1 z,e2.mono kp.frz⟩,λa c e=>(rh.dc a c e).mono kp λo w=>by
  obtain⟨u,w',d⟩:=(rh.dc a c e).obj;rw [w] at w';cases w';exact X1K _ _ w d.no.2.2.2.2⟩
 have Ý:Ò X.K H1 Ä σ:=rs.mono kp;refine Ld (us:= [.ref f]) (vs:= [.ref f]) (dvs:= []) (ds:= []) (E:=E0) F hr hb .nil CV I1 (.cons rfl .nil) ?_;refine⟨f,_,qual,pm,cv,Λ,ZN X.env.cells scope.names [],q,X.N,σ,scope,body,h,Qd,rfl,hf,rfl,hcf,hHf,L,Cap.of I1 hfr,Î,jG post kp,?_⟩;rcases alt with t|t
 ·refine .inl ⟨λv H'=> ∃d h',Kept H1 H'/\Å X.K h' H'/\É X.K H' d v/\Qd (.tup [.str "told",d]) h',λA' Ď s' E' hr'=>⟨_,(hT q cv _ f A' Ď s' H1 E' hr').to,Ä,h,_,Ý,Î,t,λd v h' H' k r1 r2 q=>⟨d,h',k,r1,r2,q⟩⟩,λv H' q=>q⟩
 ·refine .inr ⟨λC dx H'=> ∃ (c:RN) (h':HD),X.mg c.nm=zq (.ref C)/\NV c=xb/\Kept H1 H'/\Å X.K h' H'/\ħ H' dx c.fs/\Qd (.tup (NW c)) h',λA' Ď s' hr' X1A s2 I2=> ?_,λC dx H' q=>q⟩;exact(hR q cv _ f A' Ď s' H1 _ hr').to _ Ep X1A s2 σ H1 Ä h _ I2 Ý Î t λc C dx h' H' k ì hmc ⟨π,qq⟩ fh=>⟨C,rfl,c,h',hmc,π,k,ì,fh,qq⟩⟩
def Ls (P:D5)(w:T8)(K:G3)(mg:Str->P1 G1)(base:N8)(n:P0):Prop:=
 ∃ (g:G7) (gd:R8),ś P w K mg base à (n+2) g gd ["_law_call"] (Vv P w K mg base n)/\Binds K gd ["_law_call"] []/\J8 K (.ref g)=xb/\mg "_law_said" =zq (.ref g)
def Cd (K:Frag)(c:Str):N3:=match ū K c with
 |some C=>(match findIn K (.ref C) "__init__" with
  |some (zq (.ref f))=>UR K C f bmV "ValueError.__new__" (Op c)&&keepIn K (.ref C)
  |_=>xf)
 |none=>xf
def RI (K:Frag)(c:Str):N3:=match ū K c,ū K "PowerError" with
 |some C,zq pe=>GY K C&&kitOne K (.ref C) (.type "ValueError")==zq xb&&exmOne K (.ref C) (.ref pe)==zq xb&&CN13.all λd=>match ū K d with
  |some D=>kitOne K (.ref C) (.ref D)==zq (c==d)
  |none=>xf
 |_,_=>xf
def Lt (K:Frag):N3:=Es K&&CN13.all (RI K)&& ["NoTables","NoText","TooGreat"].all λc=>Cd K (P6 c)
structure Ğ (K:Frag)(mg:Str->P1 G1):Prop extends Exc K mg where
 ek13: ∀c∈CN13,∀C,mg c=zq (.ref C)->Ł K C
 kit13: ∀c∈CN13,∀d∈CN13,∀C D,mg c=zq (.ref C)->mg d=zq (.ref D)->kitOne K (.ref C) (.ref D)=zq (c==d)
 val13: ∀c∈CN13,∀C,mg c=zq (.ref C)->kitOne K (.ref C) (.type "ValueError")=zq xb
 pe13: ∃pe,mg "PowerError" =zq (.ref pe)/\ ∀c∈CN13,∀C,mg c=zq (.ref C)->exmOne K (.ref C) (.ref pe)=zq xb
 ini: ∀c∈ ["NoTables","NoText","TooGreat"],∀C,mg (P6 c)=zq (.ref C)-> ∃f,Ĵ K C f (Op (P6 c))
def Lu {K:Frag}{mg:Str->P1 G1}(X:K.In h)(G:h.Ns xi mg)(e:Lt K=xb):Ğ K mg:=by
 unfold Lt at e;simp only [B7] at e;obtain⟨⟨e0,e1⟩,e4⟩:=e;have Ex:=Eu X G e0;have e3:(ū K "PowerError").isSome=xb:=by
  unfold Es at e0;simp only [B7] at e0;exact e0.1.2
 have e2: ∀d∈CN13,(ū K d).isSome=xb:=by
  unfold Es at e0;simp only [B7,H0] at e0;exact e0.1.1.2
 rw [H0] at e1;obtain⟨pe,hpe⟩:=O9.mp e3;have A: ∀c∈CN13,∃C,mg c=zq (.ref C)/\GY K C=xb/\kitOne K (.ref C) (.type "ValueError")=zq xb/\exmOne K (.ref C) (.ref pe)=zq xb/\ ∀d∈CN13,∀D,ū K d=zq D->kitOne K (.ref C) (.ref D)=zq (c==d):=λc hc=>by
  have q:=e1 c hc;unfold RI at q;rw [hpe] at q;split at q
  ·rename_i C pe' h1 h2;cases h2;simp only [B7,H0,beq_iff_eq] at q;obtain⟨⟨⟨q2,q3⟩,q4⟩,q5⟩:=q;refine⟨C,Zw X G h1,q2,q3,q4,λd hd D hD=> ?_⟩;have:=q5 d hd;rw [hD] at this;simpa using this
  ·cases q
 have same: ∀ {c:Str} {C C':G7},mg c=zq (.ref C)->mg c=zq (.ref C')->C=C':=λa b=>by rw [a] at b;cases b;rfl
 refine⟨Ex,λc hc C h=> ?_,λc hc d hd C D h1 h2=> ?_,λc hc C h=> ?_,⟨pe,Zw X G hpe,λc hc C h=> ?_⟩,λc hc C h=> ?_⟩
 ·obtain⟨C',m,q,_⟩:=A c hc;cases same h m;exact Rl q
 ·obtain⟨C',m,_,_,_,q⟩:=A c hc;cases same h1 m;obtain⟨D',hD⟩:=O9.mp (e2 d hd);cases same h2 (Zw X G hD);exact q d hd D hD
 ·obtain⟨C',m,_,q,_⟩:=A c hc;cases same h m;exact q
 ·obtain⟨C',m,_,_,q,_⟩:=A c hc;cases same h m;exact q
 ·have q:=H0.mp e4 c hc;unfold Cd at q;split at q
  ·rename_i C' h1;cases same h (Zw X G h1);split at q
   ·rename_i f _;simp only [B7] at q;exact⟨f,q.1,q.2⟩
   ·cases q
  ·cases q
def Qb (mg:Str->P1 G1):RDn:=λds h Q=> ∃c C fs,ds= [.exf C fs]/\c∈CN13/\mg c=zq (.ref C)/\ ∀h',Sub h h'->Q (.str (Vt c)) h'
def Lv (K:Frag)(c:G1)(ta:TED):TED:=λσ h Q=>ta σ h λx h1=> ∃C fs b,x= .exf C fs/\Ł K C/\kitOne K (.ref C) c=zq b/\Q (.bl b) h1
section
variable {X:Cx}{a:S2}{ta:TED}{t:Str}{p p2 pos:Pos}
def Gp {v:V}{c:G1}: ∀σ H Q,LE X.K (Lv X.K c ta) σ H Q->tCB (λxs H Q=> ∃x C o b,xs= [.ref x,v]/\H x=zq (.frz o (.own 0))/\o.cls= .ref C/\Ł X.K C/\kitOne X.K (.ref C) c=zq b/\Q (.bl b) H) (MQ (LE X.K ta) (MQ (tC v) SI)) σ H Q:=
 λσ H Q ⟨Ä,h,Qd,rs,rh,t,p⟩=>LE.bind rs rh t λd u h1 H1 k1 Ý Î r1 ⟨C,fs,b,e,Z,k,q⟩=>by
  subst e;obtain⟨x,o,vs,e1,hx,hc,_⟩:=(show ∃x o vs,u= .ref x/\H1 x=zq (.frz o (.own 0))/\o.cls= .ref C/\o.data= .fields vs/\ħ H1 o.dict fs from r1);subst e1;exact⟨x,C,o,b,rfl,hx,hc,Z,k,p (.bl b) _ _ _ k1 Î rfl q⟩
def Zd {KK:Frag}{D:G7}(hg:Gl X "isinstance")(hm:X.mg "isinstance" =xa)(hg2:Gl X t)(hm2:X.mg t=zq (.ref D))(ha:JE X a ta)(hd:(t==("__debug__" :Str))=xf:=by decide)
 (h1:P9 [a,.Name t p2] X.env=(xf,L7 a X.env)::P9 [.Name t p2] X.env:=by rfl)(h2:(E3 pos (P9 [.Name t p2] X.env)).any (·.1)=xf:=by rfl)(hK:X.K=KK:=by rfl):
 JE X (.Call (.Name "isinstance" p) [a,.Name t p2] [] pos) (Lv KK (.ref D) ta):=
 hK ▸ ⟨(ZU (YJ (v:= .ref D) λu r=>r) hg hm bJ (zS ha.to (zS (PL (v:= .ref D) hg2 hm2 rfl hd) Ą (by rfl)) h1) (by decide) (by decide) h1 h2).imp Gp⟩
def Hb {KK:Frag}{T:F7}(hg:Gl X "isinstance")(hm:X.mg "isinstance" =xa)(hg2:Gl X t)(hm2:X.mg t=xa)(hv:Q5 t=zq (.type T))(ha:JE X a ta)(hn:t≠ "__name__" :=by decide)(hd:(t==("__debug__" :Str))=xf:=by decide)
 (h1:P9 [a,.Name t p2] X.env=(xf,L7 a X.env)::P9 [.Name t p2] X.env:=by rfl)(h2:(E3 pos (P9 [.Name t p2] X.env)).any (·.1)=xf:=by rfl)(hK:X.K=KK:=by rfl):
 JE X (.Call (.Name "isinstance" p) [a,.Name t p2] [] pos) (Lv KK (.type T) ta):=
 hK ▸ ⟨(ZU (YJ (v:= .ty T) λu r=>r) hg hm bJ (zS ha.to (zS (PM (v:= .ty T) hg2 hm2 hv rfl hn hd) Ą (by rfl)) h1) (by decide) (by decide) h1 h2).imp Gp⟩
def Lw (K:Frag)(f:F7)(ta:TED):TED:=λσ h Q=>ta σ h λx h1=> ∃C fs n fI ns,x= .exf C fs/\fs.lookup (P6 f)=zq n/\Ĵ K C fI ns/\f∈ns/\Q (.int n) h1
def NY {fs:G0 (Str×P4)}{g:Str}:(fdV fs).lookup g=(fs.lookup g).map V.int:=by
 induction fs with
 |nil=>rfl
 |cons p r ih=>
  obtain⟨a,n⟩:=p;show (match g==a with|true=>zq (V.int n)|false=>(fdV r).lookup g)=(match g==a with|true=>zq n|false=>r.lookup g).map V.int;cases g==a with
  |true=>rfl
  |false=>exact ih
def Pc {KK:Frag}{f:F7}{hB:Yh (P6 f)}(ha:JE X a ta)(hb:K9 a (P6 f) X.env (L7 a X.env)=L7 a X.env:=by rfl)(hK:X.K=KK:=by rfl):JE X (.Attribute a (P6 f) pos) (Lw KK f ta):=hK ▸ ⟨λÀ s σ H Q I ⟨Ä,h,Qd,rs,rh,t,p⟩=>by
 refine CH hb (Ø (ha.to À s σ H (λv H1=> ∃d h1,Kept H H1/\Å X.K h1 H1/\É X.K H1 d v/\ ∃C fs n fI ns,d= .exf C fs/\fs.lookup (P6 f)=zq n/\Ĵ X.K C fI ns/\f∈ns/\Qd (.int n) h1) I ⟨Ä,h,_,rs,rh,t,λd v h1 H1 k r1 r2 q=>⟨d,h1,k,r1,r2,q⟩⟩) λu s1 ⟨v,H1,I1,rv,d,h1,kp,Î,rd,C,fs,n,fI,ns,e,hl,ik,hf,q⟩=> ?_);subst e;obtain⟨x,o,vs,e1,hx,hc,hd,fh⟩:=(show ∃x o vs,v= .ref x/\H1 x=zq (.frz o (.own 0))/\o.cls= .ref C/\o.data= .fields vs/\ħ H1 o.dict fs from rd);subst e1;obtain rfl:u=N7 x:=rv;obtain⟨m1,m2,W,nn⟩:=ik.two I1;rcases fh with z|⟨D,oD,e2,hD⟩
 ·rw [z] at hl;cases hl
 obtain⟨gD,mA,nD,rA⟩:=(show s1.heap.get? D=zq oD/\ ∃mA,s1.heap.Ns1 D mA/\ ∀f,Ő ((fdV fs).lookup f) (mA f) from I1.hok D _ hD);have r:=rA (P6 f);rw [NY,hl] at r;obtain⟨u,eu,ru⟩:=Ő.some_of r;have hfm:f∈ "__setattr__" :: "__getattribute__" :: "__getattr__" ::ns:= .tail _ (.tail _ (.tail _ hf));refine W.get tQ (nn "__getattribute__" (.tail _ (.head _))).1 (nn "__getattribute__" (.tail _ (.head _))).2 (nn "__getattr__" (.tail _ (.tail _ (.head _)))).1 (nn "__getattr__" (.tail _ (.tail _ (.head _)))).2 (nn f hfm).1 (nn f hfm).2 hB (I1.hok x _ hx).1 hc e2 ⟨vs,hd⟩ nD eu (λid z=> ?_) ?_
 ·obtain⟨t,e⟩:=(show ∃t,u=gC n t from ru);rw [e] at z;cases z
 ·exact⟨.int n,H1,I1.tok _,ru,p (.int n) _ _ _ kp Î rfl q⟩⟩
end
def Qc:Yh (P6 "at"):=by unfold Yh;rw [nH,gB];kernel_rfl
def US:Yh (P6 "many"):=by unfold Yh;rw [nH,gB];kernel_rfl
def UT:Yh (P6 "most"):=by unfold Yh;rw [nH,gB];kernel_rfl
def Vw (P:D5)(w:T8)(K:G3)(mg:Str->P1 G1)(base:N8)(n:P0)(c:Str)(ns:G0 F7):Prop:=
 ∃ (C fI:G7) (fd:R8) (ps:G0 Str) (k:P0),mg c=zq (.ref C)/\Ĵ K C fI ns/\k+1<=n/\Ì P w K mg base à k fI fd ps (spI C ns)/\Binds K fd ps []
end L2
namespace L2
open PySem PySem.Spec PyProof.Rows PySem.W
def Hc (ti:TID)(g:TGD)(tb:TSD)(ub:TXD):TXD:=λσ h R=>ti σ h λj h1=> ∃n:P0,∃W:P0->SD->HD->Prop,W 0 σ h1/\ ∀i Â h',W i Â h'-> ∃ds,j h'=zq ds/\ds.length<=n/\i<ds.length/\
 ∀d,ds[i]? =zq d->g d Â h' λÜ h2=>tb {nx:=λþ h3=> ∃h4,Sub h4 h3/\W (i+1) þ h4,rt:=λ_ _=>False,ct:=λþ h3=> ∃h4,Sub h4 h3/\W (i+1) þ h4} Ü h2\/ub Ü h2 R
section
variable {X:Cx}{tg iter:S2}{ti:TID}{g:TGD}{tb:TSD}{ub:TXD}{body rest:G0 L8}{pos:Pos}
def Ly (hp:iJ (R3 X.prog X.w) X.A X.env X.xe)(hc:X.calm=xb)(hi:JI X tg iter ti)(hg:JG X tg g)(hb:Ī X body tb)(hu:JX X body ub)(hs: ∀x,T5 iter X.env x=pure x:=by intro _;rfl):JX X (.For tg iter body [] pos::rest) (Hc ti g tb ub):=⟨λE Z À s σ H Ä h R I rs rh ht w=>by
 have hb':ő X body (λD σ H=>LS X.K tb D σ H\/ ∃Ä h R,Ò X.K H Ä σ/\Å X.K h H/\ub Ä h R/\WX X E H R):=λÀ s σ H D I q=>by
  rcases q with q|⟨Ä,h,R,rs,rh,q,w⟩
  ·exact hb.to À s σ H D I q
  ·exact R7 (hu.to E Z À s σ H Ä h R I rs rh q w) (λ_ _ z=>z.elim) λ_ _ z=>z
 refine J9 (Ø (BK hp hc hi.to hg.to hb' hs À s σ H {nx:=λ_ _=>False,rt:=λ_ _=>False} I ?_) λf s1 q=> ?_)
 ·refine⟨Ä,h,_,rs,rh,ht,λj J h1 H1 k1 Î jo ⟨n,W,w0,turn⟩=> ?_⟩;refine⟨λi m Â H'=>m=n-i/\Kept H1 H'/\ ∃ß h',Ò X.K H' ß Â/\Å X.K h' H'/\W i ß h',⟨n-0,rfl,.refl _,Ä,h1,rs.mono k1,Î,w0⟩,?_⟩;rintro i m Â H' ⟨rfl,kp,ß,h',ť,ì,w'⟩;obtain⟨ds,ej,hn,hi,go⟩:=turn i ß h' w';have jo':=jo H' h' kp ì ds ej i;obtain⟨g1,y1⟩:=jo'.1 ds[i] (G5 hi);refine .inr ⟨g1,λÜ H2=>Kept H1 H2/\ ∃ñ h2,Ò X.K H2 ñ Ü/\Å X.K h2 H2/\W (i+1) ñ h2,λÜ H2 ⟨k2,a,b,c,d,e⟩=>⟨n-(i+1),by omega,rfl,k2,a,b,c,d,e⟩,λx ķ y=> ?_⟩;obtain⟨k2,ð,r2⟩:=y1 x ķ y;refine⟨ds[i],ß,h',_,r2,ť.mono k2,ð,go ds[i] (G5 hi),λX02 h3 þ H3 k3 ũ đ q3=> ?_⟩;have kk1:Kept H1 H3:=kp.trans (k2.trans k3);rcases q3 with q3|q3
  ·exact .inl ⟨X02,h3,_,ũ,đ,q3,λa b c d k4 Ť ľ ⟨h4,sb,w4⟩=>⟨kk1.trans k4,a,h4,Ť,ľ.sub sb,w4⟩,λ_ _ _ _ _ _ _ z=>z.elim,λ_ _ _ _ _ _ _ z=>z.elim,λa b c d k4 Ť ľ ⟨h4,sb,w4⟩=>⟨kk1.trans k4,a,h4,Ť,ľ.sub sb,w4⟩⟩
  ·exact .inr ⟨X02,h3,R,ũ,đ,q3,w.mono (k1.trans kk1)⟩
 ·cases f with
  |next=>obtain⟨_,_,_,z⟩:=q;exact z.elim
  |brk=>obtain⟨_,_,_,z⟩:=q;exact z.elim
  |cont=>obtain⟨_,_,_,z⟩:=q;exact z.elim
  |ret u=>obtain⟨_,_,_,_,_,z⟩:=q;exact z.elim⟩
end
end L2
namespace L2
open PySem PySem.Spec PyProof.Rows PySem.W HT
def Lz {fs:G0 (Str×P4)}{a:Str}(h:fs.map (·.1)= [a]): ∃n,fs= [(a,n)]:=by
 match fs,h with
 | [(b,n)],h=>
  have e:b=a:=by injection h
  exact⟨n,by rw [e]⟩
def LB {fs:G0 (Str×P4)}{a b:Str}(h:fs.map (·.1)= [a,b]): ∃n m,fs= [(a,n),(b,m)]:=by
 match fs,h with
 | [(c,n),(d,m)],h=>
  injection h with h1 h2
  injection h2 with h2 _
  dsimp only at h1 h2;exact⟨n,m,by rw [h1,h2]⟩
def Pd {c:RN}(h:NV c=xb):(c.nm∈CN/\c=⟨c.nm,[]⟩)\/(∃n,c=⟨"NoTables",[("at",n)]⟩)\/(∃n,c=⟨"NoText",[("at",n)]⟩)\/ ∃a b,c=⟨"TooGreat",[("many",a),("most",b)]⟩:=by
 have hm:=Vu h;obtain⟨nm,fs⟩:=c;unfold NV at h;simp only [B7,beq_iff_eq] at h;have h2:=h.2;dsimp only at hm h2 ⊢;have e0: ∀ {x:Str},fs.map (·.1)=(Op x).map P6->Op x= []->fs= []:=λe z=>by rw [z] at e;exact List.map_eq_nil_iff.mp e
 simp only [CN13,R5,F9,or_false] at hm;rcases hm with rfl|rfl|rfl|rfl|rfl|rfl|rfl|rfl|rfl|rfl|rfl|rfl|rfl
 all_goals first
  |(have z:=e0 h2 (by decide +kernel);subst z;exact .inl ⟨by decide,rfl⟩)
  |(obtain⟨n,e⟩:=Lz (a:= "at") (by rw [h2];decide +kernel);subst e;first|exact .inr (.inl ⟨n,rfl⟩)|exact .inr (.inr (.inl ⟨n,rfl⟩)))
  |(obtain⟨n,m,e⟩:=LB (a:= "many") (b:= "most") (by rw [h2];decide +kernel);subst e;exact .inr (.inr (.inr ⟨n,m,rfl⟩)))
structure Ũ (K:Frag)(c q:Str)(st:L8)(C f:G7)(fd:R8)(ns:G0 F7):Prop where
 at_:nsIn K xi c=zq (zq (.ref C))
 ik:Ĵ K C f ns
 fn:â K "__init__" q st f fd
section
variable {K:Frag}{h base:N8}{mg:Str->P1 G1}{c q:Str}{st:L8}{C f:G7}{fd:R8}{P:D5}{w:T8}{n k:P0}{ps:G0 Str}{ns:G0 F7}
def LD {oc:G1}{od an:P1 G7}{Ĕ:T7 (P1 G1)}{kV doc pm Ï ct:G1}(a:nsIn K xi c=zq (zq (.ref C)))(b:findIn K (.ref C) "__init__" =zq (zq (.ref f)))(l:K.lookup f=zq ⟨oc,od,.func (fnOf "__init__" q (wD st) (jL st) (jd st) .none kV doc pm an Ï ct),Ĕ⟩)
 (cc:codeIn K Ï q=xb)(k:keepIn K (.ref f)=xb)(kc:keepIn K (.ref C)=xb)(i:UR K C f bmV "ValueError.__new__" ns=xb):Ũ K c q st C f (fnOf "__init__" q (wD st) (jL st) (jd st) .none kV doc pm an Ï ct) ns:=⟨a,⟨i,kc⟩,BM l cc k⟩
def Ũ.cal (d:Ũ K c q st C f fd ns)(l:OpenLaw)(w:T8)(base:N8)(X:K.In h)(G:h.Ns xi mg)(ok:Ì l.prog w K mg base à 1 f fd ps (spI C ns))(b: ∀ (kV doc pm:G1) (an:P1 G7) (Ï ct:G1) (us:G0 G1),us.length=ps.length->qL (fnOf "__init__" q (wD st) (jL st) (jd st) .none kV doc pm an Ï ct) ⟨us,[]⟩=pure (ps.zip us))(m:P0):Vw l.prog w K mg base (m+2) c ns:=
 ⟨C,f,fd,ps,1,mg_of X G d.at_,d.ik,by omega,ok,d.fn.binds b⟩
end
section
variable {X:Cx}{e:S2}{es:G0 S2}{rest:G0 L8}{ta:TAD}{np Ë pos:Pos}{n:P0}{x:Str}{ns:G0 F7}
def Kr (I:Vw X.prog X.w X.K X.mg X.base n x ns)(hr:Ð n X.A)(ha:JA X (e::es) ta)(hz:ns.length<=100:=by decide)(Ÿ:X.calm=xb:=by rfl)(hg:Gl X x:=by rfl)(hdb:(x==("__debug__" :Str))=xf:=by decide)
 (he:P9 (e::es) X.env=(xf,L7 e X.env)::P9 es X.env:=by rfl)(hpl:(E3 Ë (P9 es X.env)).any (·.1)=xf:=by rfl):
 JX X (.Raise (zq (.Call (.Name x np) (e::es) [] Ë)) xa pos::rest) (Kq x ns ta):=by
 obtain⟨C,fI,fd,ps,k,hm,I0,hk,F,hb⟩:=I;exact RG (f:=fI) hg hm I0 hz F hb (hr.mono hk) Ÿ ha hdb he hpl
end
def Ī.nox {X:Cx}{b:G0 L8}{t:TSD}(h:Ī X.nox b t):Ī X b t:=⟨λÀ s σ H D I hw=>
 R7 (h.to À s σ H D (I.wish _) hw) (λ_ _ q=>q.unwish) λ_ _ z=>xn z⟩
def NZ {P:D5}{w:T8}{K:G3}{mg:Str->P1 G1}{base:N8}{N:G0 Str}{qual:Str}{scope:A2}{f:G7}{cd:G1}{A:S4}{outer:G0 Env}{s:G2}{H:Hp}{E:XK}:
 iJ (R3 P w) (ZT (Ģ P w) P w K mg base N qual scope f cd A outer s H E).A (ZT (Ģ P w) P w K mg base N qual scope f cd A outer s H E).env (ZT (Ģ P w) P w K mg base N qual scope f cd A outer s H E).xe:=λe s' h=>wpAny_leaving_again (.refl _) h
end L2
namespace L2
open PySem PySem.Spec PyProof.Rows HT PySem.SeqAt
section
variable {prog:D5}{w:T8}{A:S4}{E:G1->G2->Prop}{s:G2}
def Zx (U:G0 (G0 P4)):P0:=(U.map λr=>r.length+1).sum
theorem YN {Q:T7 P4->G2->Prop}(hu:A.units+4<cLine): ∀ {vs:G0 G1} {U:G0 (G0 P4)} (b:T7 P4) (s1:G2),s1.heap=s.heap->Õ prog w s.heap U vs->Q (b++(U.map (V0 (intKind prog w))).toArray) {s1 with toks:=s1.toks+Zx U}->
 D6 (R3 prog w) A (forIn vs b λx r=>do let h <-pyHash x;pure (X8 (r.push h))) Q E s1
 |_,_,b,s1,_,.nil,q=>G8 (by simpa [Zx] using q)
 |_,_,b,s1,e1,.cons (r:=r) (T:=U) a x,q=>by
  rw [aC];refine xg (xg (j5 (by omega) (by rw [e1];exact a) (G8 ?_)));refine YN hu (b.push (V0 (intKind prog w) r)) _ e1 x ?_;have e:s1.toks+(r.length+1)+Zx U=s1.toks+Zx (r::U):=by unfold Zx;rw [S9,List.sum_cons];omega
  rw [S9] at q;show Q _ {s1 with toks:=s1.toks+(r.length+1)+Zx U};rw [e];simpa using q
def RJ {T:G0 (G0 P4)}{a:G7}{Q:P4->G2->Prop}(hu:A.units+8<cLine)(hT:Yg prog w s.heap T a)(q:Q (Pa prog w T) {s with toks:=s.toks+(Zx T+1)}):D6 (R3 prog w) A (pyHash (.ref a)) Q E s:=by
 obtain⟨o,items,n,ho,hc,hd,hi⟩:=hT;have ty:s.TypeIs (.ref a) "tuple" :=⟨o,ho,hc⟩;have room:A.units<cLine:=by omega
 have slot:=λ{M:cN} {A':S4} {E':G1->G2->Prop} {P:P1 G1->G2->Prop}=>X7 (M:=M) (A:=A') (E:=E') (Q:=P) ty F.slot_tuple_hash.lookup
 unfold pyHash pyHashByItsType;refine xg (rG (.inr room) (xg (slot ?_)));rw [R9 (by simp)];refine xg (slot (xg (bQ ty fK (F8 fK ty pX ?_ (o6 _)))));show D6 _ _ (Y8 (.ref a) >>= _) _ _ s;refine xg (pY ho hd (xg ?_));rw [<-U3];refine YN (A:=A.in1) (show A.units+1+4<cLine by omega) #[] s rfl hi ?_;have told:=q;unfold Pa mX at told;show D6 _ _ (retInt (V7 ((#[]:T7 P4)++(T.map (V0 (intKind prog w))).toArray).toList)) _ _ _;rw [show ((#[]:T7 P4)++(T.map (V0 (intKind prog w))).toArray).toList=T.map (V0 (intKind prog w)) by simp];refine iA ?_;show D6 _ _ (aW _) _ _ _;unfold aW;split
 ·rename_i c;rw [S5 c] at told;exact G8 told
 ·rename_i c;rw [R9 c] at told;exact xg (dH (G8 told))
def Õ.past {h h':N8}{d:G7}{o:Obj}{es:T7 W1}{ep:P0}(hd:h.get? d=zq o)(dd:o.data= .dict es ep)(hs:aF d h h'): ∀ {T:G0 (G0 P4)} {vs:G0 G1},Õ prog w h T vs->Õ prog w h' T vs
 |_,_,.nil=> .nil
 |_,_,.cons a x=> .cons (a.keeps hd dd hs) (x.past hd dd hs)
def MF (prog:D5)(w:T8):HeapKind prog w (G0 (G0 P4)) where
 is:=Yg prog w
 hash:=Pa prog w
 draws:=λT=>Zx T+1
 room:=λA=>A.units+8<cLine
 inj:=λhx hy=>(Sr prog w).inj hx hy
 keeps:=λ⟨o',items,n,ho,hc,hdd,hi⟩ hd dd hs=>by
  refine⟨o',items,n,hs.extBut _ _ (λz=> ?_) ho,hc,hdd,hi.past hd dd hs⟩;rw [z,hd] at ho;cases ho;rw [dd] at hdd;cases hdd
 pyHash:=λhu hk q=>RJ hu hk q
 eqBool:=λhu hx hy q=>RA hu hx hy q
 quiet:=λhk q=>UQ hk q
end
abbrev KT2:=G0 (G0 (G0 P4)×G7×V)
def zR {α:Type}(kv:G0 (G0 (G0 P4)×α))(k:G0 (G0 P4)):P1 α:=(kv.find? λp=>decide (p.1=k)).map (·.2)
def PC {α:Type}(kv:G0 (G0 (G0 P4)×α))(k:G0 (G0 P4))(d:α):G0 (G0 (G0 P4)×α):=if (zR kv k).isSome then kv.map (λp=>if p.1=k then (p.1,d) else p) else kv++ [(k,d)]
variable {T:G0 (G0 P4)}
def ZO {K:G3}{H:Hp}{b:G7}(r:É K H (ju T) (.ref b)):Xx H T b:=by
 obtain⟨ps,e1,e2,e3⟩:=RC (K:=K) (H:=H) (Ts:= [T]) (vs:= [.ref b]) ⟨_,_,rfl,r,rfl⟩;cases ps with
 |nil=>cases e1
 |cons p ps=>
  injection e1 with e4 _
  injection e2 with e5 _
  injection e4 with e4
  rw [e5,e4];exact e3 p R1
abbrev yR (p:G0 (G0 P4)×G7×V)(q:G0 (G0 P4)×G7×G1):Prop:=p.1=q.1/\p.2.1=q.2.1/\RelV p.2.2 q.2.2
theorem jT: ∀ {xs:KT2} {ys:G0 (G0 (G0 P4)×G7×G1)},Paired yR xs ys->xs.map (·.1)=ys.map (·.1)/\xs.length=ys.length/\ ∀y∈ys,∃x∈xs,x.1=y.1/\x.2.1=y.2.1
 |_,_,.nil=>⟨rfl,rfl,λy hy=>by cases hy⟩
 |_,_,.cons (a:=x) (b:=y) r z=>by
  obtain⟨a,b,c⟩:=jT z;refine⟨by rw [S9,S9,a,r.1],by rw [D8,D8,b],λy' hy=> ?_⟩;rcases R5.mp hy with e|e
  ·rw [e];exact⟨_,R1,r.1,r.2.1⟩
  ·obtain⟨x',hx,p⟩:=c y' e;exact⟨x',M5 _ hx,p⟩
section
variable {K:G3}{H:Hp}{k:G0 (G0 P4)}
theorem yw: ∀ {kv:G0 (G0 (G0 P4)×D)} {xs:KT2} {ys:G0 (G0 (G0 P4)×G7×G1)},kv.map (·.1)=xs.map (·.1)->Á K H (kv.map (·.2)) (xs.map (·.2.2))->Paired yR xs ys->
 (∀d,zR kv k=zq d-> ∃v p,dY ys k=zq p/\É K H d v/\RelV v p.2)/\(zR kv k=xa->dY ys k=xa)
 | [],[],_,_,_,.nil=>⟨λ_ z=>(nomatch z),λ_=>rfl⟩
 |p::r,[],_,e,_,_=>by cases e
 | [],q::xs,_,e,_,_=>by cases e
 |p::r,q::xs,_,e,h,.cons (b:=y) r1 z=>by
  rw [S9,S9] at e;injection e with e1 e2
  obtain⟨v,t,z',h1,h2⟩:=(show ∃v t,q.2.2::xs.map (·.2.2)=v::t/\É K H p.2 v/\Á K H (r.map (·.2)) t from h);injection z' with z1 z2
  subst z1 z2;have ih:=yw e2 h2 z
  by_cases c:p.1=k
  ·have g:zR (p::r) k=zq p.2:=by simp [zR,Q4,c]
   have g': ∀ĺ,dY (y::ĺ) k=zq y.2:=λĺ=>by
    have:y.1=k:=by rw [<-r1.1,<-e1,c]
    simp [dY,Q4,this]
   rw [g];refine⟨λd hd=> ?_,λhd=>by cases hd⟩;injection hd with hd
   subst hd;exact⟨q.2.2,y.2,g' _,h1,r1.2.2⟩
  ·have g:zR (p::r) k=zR r k:=by simp [zR,Q4,c]
   have g': ∀ĺ,dY (y::ĺ) k=dY ĺ k:=λĺ=>by
    have: ¬y.1=k:=by rw [<-r1.1,<-e1];exact c
    simp [dY,Q4,this]
   rw [g,g'];exact ih
end
section
variable {X:Cx}{À:G0 (G7×Obj)}{σ:St}{H:Hp}{s:G2}{a b:G7}{A:S4}{E:G1->G2->Prop}{T:G0 (G0 P4)}{xs ĺ:KT2}
def Jt {ep:P0}(I:Inv X À σ H s)(hH:H a=zq (vG a ep xs))(ks: ∀x∈xs,Xx H x.1 x.2.1)(nd:(xs.map (·.1)).Nodup):(a==J4)=xf/\xs.length<=xh/\ ∃ys,Paired yR xs ys/\s.heap.DictOfH (MF X.prog X.w) a ys:=by
 obtain⟨⟨h1,h2,ys,pr,o,es,ho,ex,hd,he⟩,_,_⟩:=I.hok a _ hH;obtain⟨k1,k2,k3⟩:=jT pr;refine⟨h1,h2,ys,pr,o,es,ep,ho,ex,hd,he,λy hy=> ?_,by rw [<-k1];exact nd⟩;obtain⟨x,hx,e1,e2⟩:=k3 y hy;have:=Js I x.1 x.2.1 (ks x hx);rw [e1,e2] at this;exact this
def Ba {ep:P0}{v:V}{r:G1}{Q:Unit->G2->Prop}(hu:A.units+9<cLine)(I:Inv X À σ H s)(hH:H a=zq (vG a ep xs))(ks: ∀x∈xs,Xx H x.1 x.2.1)(nd:(xs.map (·.1)).Nodup)(hT:Xx H T b)(st: ∀ys,Paired yR xs ys->Paired yR ĺ (storedH ys T b r))(lz:ĺ.length<=xh)
 (h: ∀ý s',Inv X À σ (upd H a (vG a ý ĺ)) s'->Q () s'):D6 (R3 X.prog X.w) A (tO (.ref a) (.ref b) r) Q E s:=by
 obtain⟨h1,h2,ys,pr,dd⟩:=Jt I hH ks nd;refine wpAny_setItem_heap (knd:=MF X.prog X.w) (hsz:=by have:=(jT pr).2.1;omega) (show A.units+1+8<cLine by omega) (Js I T b hT) dd λh' dd' hs=> ?_
 obtain⟨q,es,ep,hq,e2,e3,e4,_,_⟩:=dd';refine h ep _ (XG I (by rw [hH];exact Y7) hs ⟨q,hq⟩ ⟨⟨h1,lz,_,st ys pr,q,es,hq,e2,e3,e4⟩,⟨q,hq⟩,λg1 g2 hg ke=> ?_⟩);obtain⟨a1,a2,Ċ,pr',o,Ŏ,ho,ex,hd,he⟩:=hg;exact⟨a1,a2,Ċ,pr',o,Ŏ,ke o ho,ex,hd,he⟩
end
def Hd:TE:=λ_ H Q=> ∀p,H p=xa->Q (.ref p) (upd H p (vG p 0 []))
def X0y {X:Cx}{pos:Pos}:PE X (.Dict [] [] pos) Hd:=λÀ s σ H Q I h=>
 wpAny_Dict_empty ⟨.ref s.heap.objs.size,_,I.laid (a:=s.heap.objs.size) (o:=vG s.heap.objs.size 0 []) (t':=s.toks) (λ_ _ q=>G9 _ q) (P7 _) ⟨⟨beq_eq_false_iff_ne.mpr (O6 (M6 I.big)),B0 _,[],.nil,_,#[],S7 _ rfl,⟨rfl,rfl,rfl⟩,rfl,rfl⟩,⟨_,S7 _ rfl⟩,λg1 g2 ⟨a1,a2,Ċ,pr',o,Ŏ,ho,ex,hd,he⟩ ke=>⟨a1,a2,Ċ,pr',o,Ŏ,ke o ho,ex,hd,he⟩⟩,rfl,h _ (I.hok.fresh (P7 _))⟩
def EO:TED:=λ_ h Q=> ∀p,h.dc p=xa->Q (.dct p) (MD h p (.tk 0 []))
def ixT:RD2:=λx y h Q=> ∃a T ep kv d,x= .dct a/\y=ju T/\h.dc a=zq (.tk ep kv)/\zR kv T=zq d/\Q d h
def inT (neg:N3):RD2:=λx y h Q=> ∃a T ep kv,y= .dct a/\x=ju T/\h.dc a=zq (.tk ep kv)/\Q (.bl (neg !=(zR kv T).isSome)) h
section
variable {X:Cx}
def Ce {pos:Pos}:JE X (.Dict [] [] pos) EO:=⟨X0y.imp λσ H Q ⟨Ä,h,Qd,rs,rh,t,p⟩ q hq=>
 p (.dct q) (.ref q) _ _ (.new hq) (rh.newC (c:= .tk 0 []) hq ⟨[],jh,j6,rfl,λx hx=>(by cases hx),rfl⟩) rfl (t q (rh.freeC hq))⟩
def Cf {n:P0}(hr:Ð n X.A):û X (B8 .In) (inT xf):=λÀ s σ H x y v u Q I rx ry ⟨d,d2,h,Qd,r1,r2,rh,⟨a,T,ep,kv,e1,e2,e,q⟩,post⟩=>by
 subst e1 e2;cases (show y= .ref a from r2);cases (show u=N7 a from ry);obtain⟨xs,hH,nd,ek,tv,rv⟩:=(show ∃xs:KT2,_ from rh.dc a _ e);obtain⟨b,us,ex,_⟩:=(show ∃b vs,x= .ref b/\H b=zq (.tup vs)/\Á X.K H (T.map wU) vs from r1);subst ex;cases (show v=N7 b from rx);obtain⟨h1,h2,ys,pr,dd⟩:=Jt I hH (λx hx=>ZO (tv x hx)) (by rw [<-ek];exact nd);refine wpAny_in_heap (knd:=MF X.prog X.w) (show X.A.units+1+8<cLine by have:=hr.un;omega) (Js I T b (ZO r1)) h1 dd ⟨.bl _,H,I.tok _,rfl,post (.bl _) _ _ _ (.refl H) rh ?_ q⟩;show V.bl (dY ys T).isSome= .bl (xf !=(zR kv T).isSome);cases g:zR kv T with
 |none=>rw [(yw ek rv pr).2 g];rfl
 |some d=>obtain⟨_,_,hp,_⟩:=(yw ek rv pr).1 d g;rw [hp];rfl
def RK {n:P0}(hr:Ð n X.A):û X (B8 .NotIn) (inT xb):=λÀ s σ H x y v u Q I rx ry ⟨d,d2,h,Qd,r1,r2,rh,⟨a,T,ep,kv,e1,e2,e,q⟩,post⟩=>by
 subst e1 e2;cases (show y= .ref a from r2);cases (show u=N7 a from ry);obtain⟨xs,hH,nd,ek,tv,rv⟩:=(show ∃xs:KT2,_ from rh.dc a _ e);obtain⟨b,us,ex,_⟩:=(show ∃b vs,x= .ref b/\H b=zq (.tup vs)/\Á X.K H (T.map wU) vs from r1);subst ex;cases (show v=N7 b from rx);obtain⟨h1,h2,ys,pr,dd⟩:=Jt I hH (λx hx=>ZO (tv x hx)) (by rw [<-ek];exact nd);refine wpAny_notIn_heap (knd:=MF X.prog X.w) (show X.A.units+1+8<cLine by have:=hr.un;omega) (Js I T b (ZO r1)) h1 dd ⟨.bl _,H,I.tok _,rfl,post (.bl _) _ _ _ (.refl H) rh ?_ q⟩;show V.bl (!(dY ys T).isSome)= .bl (xb !=(zR kv T).isSome);cases g:zR kv T with
 |none=>rw [(yw ek rv pr).2 g];rfl
 |some d=>obtain⟨_,_,hp,_⟩:=(yw ek rv pr).1 d g;rw [hp];rfl
def He (td ty:TE):TE:=λσ H Q=>td σ H λx H1=>ty σ H1 λy H2=> ∃ (a b:G7) (T:G0 (G0 P4)) (ep:P0) (xs:KT2),x= .ref a/\y= .ref b/\H2 a=zq (vG a ep xs)/\(∀x∈xs,Xx H2 x.1 x.2.1)/\(xs.map (·.1)).Nodup/\Xx H2 T b/\ ∃v,(∀ys,Paired yR xs ys-> ∃p,dY ys T=zq p/\RelV v p.2)/\Q v H2
def LF {o i:S2}{td ty:TE}{pos:Pos}(hu:X.A.units+9<cLine)(ho:PE X o td)(hi:PE X i ty)(hs:SS i):PE X (.Subscript o i pos) (He td ty):=by
 intro À s σ H Q I h;refine CY PySem.F.slot_dict_getitem.lookup hs (Ø (ho À s σ H _ I h) λu s1 ⟨x,H1,I1,rx,q1⟩=>Ø (hi À s1 σ H1 _ I1 q1) λiv s2 ⟨y,H2,I2,ry,a,b,T,ep,xs,ex,ey,hH,ks,nd,hT,v,g,q2⟩=> ?_);subst ex ey;obtain rfl:u=N7 a:=rx;obtain rfl:iv=N7 b:=ry;obtain⟨h1,h2,ys,pr,dd⟩:=Jt I2 hH ks nd;obtain⟨p,hp,rp⟩:=g ys pr;exact⟨dd.typeIs,wpAny_getItem_heap (knd:=MF X.prog X.w) (show X.A.units+1+8<cLine by omega) (Js I2 T b hT) dd hp ⟨v,H2,I2.tok _,rp,q2⟩⟩
def EQ {k : P0} {a b : S2} {ta tb : TED} {pos : Pos} (hr : Ð k X.A) (ha : JE X a ta) (hb : JE X b tb) (hs : SS b := by intro _ _; rfl) : JE X (.Subscript a b pos) (Ġ ixT ta tb) :=
  ⟨(LF (by have := hr.un; omega) ha.to hb.to hs).imp fun σ H Q ⟨Ä, h, Qd, rs, rh, t, post⟩ => LE.bind rs rh t fun d v h1 H1 k1 Ý Î r1 t1 => LE.bind Ý Î t1 fun d2 v2 h2 H2 k2 İ ð r2 ⟨a, T, ep, kv, d3, e1, e2, e, g, q⟩ => by
    subst e1 e2
    cases (show v = .ref a from r1)
    obtain ⟨b, us, ex, _⟩ := (show ∃ b vs, v2 = .ref b ∧ H2 b = zq (.tup vs) ∧ Á X.K H2 (T.map wU) vs from r2)
    subst ex
    obtain ⟨xs, hH, nd, ek, tv, rv⟩ := (show ∃ xs : KT2, _ from ð.dc a _ e)
    -- X0X stands there, whatever ζ heap holds
    have val : ∃ w, É X.K H2 d3 w ∧ ∀ ys, Paired yR xs ys → ∃ p, dY ys T = zq p ∧ RelV w p.2 := by
      clear q hH nd tv e
      induction kv generalizing xs with
      | nil => cases g
      | cons p kv ih =>
        cases xs with
        | nil => cases ek
        | cons x xs =>
          rw [S9, S9] at ek
          injection ek with ek1 ek2
          obtain ⟨v0, t, z', w1, w2⟩ := (show ∃ v t, x.2.2 :: xs.map (·.2.2) = v :: t ∧ É X.K H2 p.2 v ∧ Á X.K H2 (kv.map (·.2)) t from rv)
          injection z' with z1 z2
          subst z1 z2
          by_cases c : p.1 = T
          · have : zR (p :: kv) T = zq p.2 := by simp [zR, Q4, c]
            rw [this] at g
            injection g with g
            subst g
            refine ⟨x.2.2, w1, fun ys pr => ?_⟩
            cases pr with
            | cons r z =>
              rename_i y ys
              have : y.1 = T := by rw [← r.1, ← ek1, c]
              exact ⟨y.2, by simp [dY, Q4, this], r.2.2⟩
          · have : zR (p :: kv) T = zR kv T := by simp [zR, Q4, c]
            rw [this] at g
            obtain ⟨w, rw_, all⟩ := ih g xs ek2 w2
            refine ⟨w, rw_, fun ys pr => ?_⟩
            cases pr with
            | cons r z =>
              rename_i y ys
              have : ¬ y.1 = T := by rw [← r.1, ← ek1]; exact c
              obtain ⟨p', hp, rp⟩ := all ys z
              exact ⟨p', by rw [show dY (y :: ys) T = dY ys T by simp [dY, Q4, this]]; exact hp, rp⟩
    obtain ⟨w, rw_, all⟩ := val
    exact ⟨a, b, T, ep, xs, rfl, rfl, hH, fun x hx => ZO (tv x hx), by rw [← ek]; exact nd, ZO r2, w, all, post d3 w _ _ (k1.trans k2) ð rw_ q⟩⟩
end
def Cg (xs:KT2)(T:G0 (G0 P4))(v:V):KT2:=xs.map λx=>if x.1=T then (x.1,x.2.1,v) else x
theorem WE {v:V}{u:G1}(rv:RelV v u): ∀ {xs:KT2} {ys:G0 (G0 (G0 P4)×G7×G1)},Paired yR xs ys->Paired yR (Cg xs T v) (ys.map (putAt T u))
 |_,_,.nil=> .nil
 |_,_,.cons (a:=x) (b:=y) r z=>by
  refine .cons ?_ (WE rv z);show yR (if x.1=T then (x.1,x.2.1,v) else x) (putAt T u y);unfold putAt
  by_cases c:x.1=T
  ·rw [S5 c,S5 (by rw [<-r.1];exact c)];exact⟨r.1,r.2.1,rv⟩
  ·rw [R9 c,R9 (by rw [<-r.1];exact c)];exact r
def RL (xs:KT2)(T:G0 (G0 P4))(v:V):(Cg xs T v).map (·.1)=xs.map (·.1):=by
 unfold Cg;rw [M9];exact O5 λx _=>by show (if x.1=T then (x.1,x.2.1,v) else x).1=x.1;split<;>rfl
def Bb {xs:KT2}{v:V}{x:G0 (G0 P4)×G7×V}(h:x∈Cg xs T v): ∃x0∈xs,x0.1=x.1/\x0.2.1=x.2.1:=by
 obtain⟨x0,m,rfl⟩:=N5.mp h;exact⟨x0,m,by split<;>exact⟨rfl,rfl⟩⟩
section
variable {K:G3}{H:Hp}{T:G0 (G0 P4)}{d:D}{v:V}
theorem UU (rd:É K H d v): ∀ {kv:G0 (G0 (G0 P4)×D)} {xs:KT2},kv.map (·.1)=xs.map (·.1)->Á K H (kv.map (·.2)) (xs.map (·.2.2))->Á K H ((kv.map (λp=>if p.1=T then (p.1,d) else p)).map (·.2)) ((Cg xs T v).map (·.2.2))
 | [],[],_,_=>rfl
 |p::r,[],e,_=>by cases e
 | [],q::xs,e,_=>by cases e
 |p::r,q::xs,e,h=>by
  rw [S9,S9] at e;injection e with e1 e2
  obtain⟨v0,t,z',h1,h2⟩:=(show ∃v t,q.2.2::xs.map (·.2.2)=v::t/\É K H p.2 v/\Á K H (r.map (·.2)) t from h);injection z' with z1 z2
  subst z1 z2;refine⟨_,_,rfl,?_,UU rd e2 h2⟩;show É K H (if p.1=T then (p.1,d) else p).2 (if q.1=T then (q.1,q.2.1,v) else q).2.2
  by_cases c:p.1=T
  ·rw [S5 c,S5 (e1 ▸ c)];exact rd
  ·rw [R9 c,R9 (e1 ▸ c)];exact h1
theorem Ze: ∀ {ds:G0 D} {vs:G0 V},Á K H ds vs->É K H d v->Á K H (ds++ [d]) (vs++ [v])
 | [],vs,r,rd=>by
  have:vs= []:=r;subst this;exact⟨_,_,rfl,rd,rfl⟩
 |d0::ds,vs,r,rd=>by
  obtain⟨v0,t,rfl,r1,r2⟩:=(show ∃v t,vs=v::t/\É K H d0 v/\Á K H ds t from r);exact⟨_,_,rfl,r1,Ze r2 rd⟩
end
def Qe {α:Type}{kv:G0 (G0 (G0 P4)×α)}(h:zR kv T=xa):T ∉ kv.map (·.1):=λz=>by
 obtain⟨p,hp,e⟩:=N5.mp z;unfold zR at h;rw [fM,dP] at h;exact h p hp (S6 e)
def Hf (td ty tv:TE):TS:=λD σ H=>tv σ H λv H1=>td σ H1 λx H2=>ty σ H2 λy H3=> ∃ (a b:G7) (T:G0 (G0 P4)) (ep:P0) (xs ĺ:KT2),x= .ref a/\y= .ref b/\H3 a=zq (vG a ep xs)/\(∀x∈xs,Xx H3 x.1 x.2.1)/\(xs.map (·.1)).Nodup/\Xx H3 T b/\(∀ys u,Paired yR xs ys->RelV v u->Paired yR ĺ (storedH ys T b u))/\ĺ.length<=xh/\ ∀ý,D.nx σ (upd H3 a (vG a ý ĺ))
section
variable {X:Cx}
def LH {o i value:S2}{td ty tv:TE}{pos pos':Pos}(hu:X.A.units+9<cLine)(ho:PE X o td)(hi:PE X i ty)(hv:PE X value tv)(hs:U0 value (zq (.Subscript o i pos')) pos.line X.env=pure xf):PS X (.Assign [.Subscript o i pos'] value pos) (Hf td ty tv):=by
 intro À s σ H D I h;refine wpAny_Assign_Subscript (Ø (hv À s σ H _ I h) λr s1 ⟨v,H1,I1,rv,q1⟩=>Ø (ho À s1 σ H1 _ I1 q1) λu s2 ⟨x,H2,I2,rx,q2⟩=>Ø (hi À s2 σ H2 _ I2 q2) λiv s3 ⟨y,H3,I3,ry,a,b,T,ep,xs,ĺ,ex,ey,hH,ks,nd,hT,st,lz,q3⟩=> ?_) hs;subst ex ey;obtain rfl:u=N7 a:=rx;obtain rfl:iv=N7 b:=ry;exact Ba (v:=v) hu I3 hH ks nd hT (λys pr=>st ys r pr rv) lz λý s4 I4=>⟨σ,_,I4,q3 ý⟩
def Hg (td ty tv:TED):TSD:=λE σ h=>tv σ h λv h1=>td σ h1 λx h2=>ty σ h2 λy h3=> ∃a T ep kv,x= .dct a/\y=ju T/\h3.dc a=zq (.tk ep kv)/\kv.length<1000/\ ∀ý,E.nx σ (MD h3 a (.tk ý (PC kv T v)))
def ER {k : P0} {o i value : S2} {td ty tv : TED} {pos pos' : Pos} (hr : Ð k X.A) (ho : JE X o td) (hi : JE X i ty) (hv : JE X value tv) (hs : U0 value (zq (.Subscript o i pos')) pos.line X.env = pure xf := by rfl) : JS X (.Assign [.Subscript o i pos'] value pos) (Hg td ty tv) :=
  ⟨(LH (by have := hr.un; omega) ho.to hi.to hv.to hs).imp fun D σ H ⟨Ä, h, Dd, rs, rh, t, nx, _, _, _⟩ => LE.bind rs rh t fun d v h1 H1 k1 Ý Î r1 t1 => LE.bind Ý Î t1 fun d2 v2 h2 H2 k2 İ ð r2 t2 => LE.bind İ ð t2 fun d3 v3 h3 H3 k3 ũ đ r3 ⟨a, T, ep0, kv, e1, e2, e, hl, q⟩ => by
    subst e1 e2
    cases (show v2 = .ref a from r2)
    obtain ⟨b, us, ex, _⟩ := (show ∃ b vs, v3 = .ref b ∧ H3 b = zq (.tup vs) ∧ Á X.K H3 (T.map wU) vs from r3)
    subst ex
    obtain ⟨xs, hH, nd, ek, tv, rv⟩ := (show ∃ xs : KT2, _ from đ.dc a _ e)
    have ob : Υ (vG a ep0 xs) := .inr ⟨_, rfl⟩
    have rd := (r1.mono k2).mono k3
    have len : xs.length = kv.length := by have := xk K7 ek; simpa using this.symm
    have big : kv.length + 1 ≤ xh := M1 hl (by decide)
    cases g : zR kv T with
    | some d0 =>
      have ep : PC kv T d = kv.map (fun p => if p.1 = T then (p.1, d) else p) := by unfold PC; rw [g]; rfl
      refine ⟨a, b, T, ep0, xs, Cg xs T v, rfl, rfl, hH, fun x hx => ZO (tv x hx), by rw [← ek]; exact nd, ZO r3, fun ys u pr ru => ?_, by unfold Cg; rw [G6, len]; omega, fun ý => nx Ä _ σ _ (k1.trans (k2.trans (k3.trans (.putD hH ob)))) (ũ.mono (.putD hH ob)) (đ.putC (c := .tk ý (PC kv T d)) hH ob ?_) (q ý)⟩
      · obtain ⟨_, p, hp, _⟩ := (yw ek rv pr).1 d0 g
        rw [storedH_old hp]
        exact WE ru pr
      · rw [ep]
        refine ⟨Cg xs T v, jh, ?_, ?_, fun x hx => ?_, (UU rd ek rv).mono (.putD hH ob)⟩
        · rw [M9, show kv.map ((·.1) ∘ fun p => if p.1 = T then (p.1, d) else p) = kv.map (·.1) from O5 fun p _ => by show (if p.1 = T then (p.1, d) else p).1 = p.1; split <;> rfl]
          exact nd
        · rw [RL, ← ek, M9]
          exact O5 fun p _ => by show (if p.1 = T then (p.1, d) else p).1 = p.1; split <;> rfl
        · obtain ⟨x0, m, a1, a2⟩ := Bb hx
          rw [← a1, ← a2]
          exact (tv x0 m).mono (.putD hH ob)
    | none =>
      have ep : PC kv T d = kv ++ [(T, d)] := by unfold PC; rw [g]; rfl
      refine ⟨a, b, T, ep0, xs, xs ++ [(T, b, v)], rfl, rfl, hH, fun x hx => ZO (tv x hx), by rw [← ek]; exact nd, ZO r3, fun ys u pr ru => ?_, by rw [P3, len]; exact big, fun ý => nx Ä _ σ _ (k1.trans (k2.trans (k3.trans (.putD hH ob)))) (ũ.mono (.putD hH ob)) (đ.putC (c := .tk ý (PC kv T d)) hH ob ?_) (q ý)⟩
      · rw [IR ((yw ek rv pr).2 g)]
        exact pr.snoc ⟨rfl, rfl, ru⟩
      · rw [ep]
        refine ⟨xs ++ [(T, b, v)], jh, ?_, by rw [T9, T9, ek]; rfl, fun x hx => ?_, ?_⟩
        · rw [T9]
          refine aN.mpr ⟨nd, by simp, fun x hx y hy z => ?_⟩
          rw [P2.mp hy] at z
          have z : x = T := z
          subst z
          exact Qe g hx
        · rcases D9.mp hx with m | m
          · exact (tv x m).mono (.putD hH ob)
          · rw [P2.mp m]
            exact r3.mono (.putD hH ob)
        · rw [T9, T9]
          exact (Ze rv rd).mono (.putD hH ob)⟩
end
end L2
namespace L2
open PySem PySem.Spec PyProof.Rows PySem.SeqAt
def kZ (to te:TED):TED:=λσ h Q=>to σ h λx h1=> ∃a,x= .lst a/\te σ h1 λy h2=> ∃b xs ys,y= .lst b/\h2 a=zq xs/\h2 b=zq ys/\xs.length+ys.length<=xh/\Q .non (wd h2 a (xs++ys))
theorem UV {K:G3}{H:Hp}: ∀ {ds es:G0 D} {vs us:G0 V},Á K H ds vs->Á K H es us->Á K H (ds++es) (vs++us)
 | [],es,vs,us,r,r'=>by
  have:vs= []:=r;subst this;exact r'
 |d::ds,es,vs,us,r,r'=>by
  obtain⟨v,t,rfl,r1,r2⟩:=(show ∃v t,vs=v::t/\É K H d v/\Á K H ds t from r);exact⟨_,_,rfl,r1,UV r2 r'⟩
section
variable {X:Cx}{o e:S2}{to te:TED}{apos Ë:Pos}
def uc (ho : JE X o to) (he : JE X e te) (hbase : K9 o "extend" X.env (L7 o X.env) = L7 o X.env := by rfl)
    (hfew : ((E3 Ë (P9 [e] X.env)).all (fun x => !x.1) && (g7 Ë (aY [] X.env)).all (fun x => x.1.isSome) && decide ([e].length + ([] : G0 aI).length + (if ([] : G0 aI).isEmpty then 0 else 1) < 30)) = xb := by rfl)
    (hline : (apos.endLine == Ë.line) = xb := by rfl) (hs : P9 [e] X.env = (xf, L7 e X.env) :: P9 [] X.env := by rfl) (hplain : (E3 Ë (P9 [] X.env)).any (·.1) = xf := by rfl) :
    JE X (.Call (.Attribute o "extend" apos) [e] [] Ë) (kZ to te) :=
  ⟨(Dl X4 xB xC Do ho.to (zS he.to Ą hs) hbase hfew hline hs hplain).imp
    fun σ H Q ⟨Ä, h, Qd, rs, rh, t, p⟩ => LE.bind rs rh t fun d v h1 H1 k1 Ý Î r1 ⟨a, e, q⟩ => by
      subst e
      obtain ⟨e1, vs, hH⟩ := (show v = .ref a ∧ ∃ vs, H1 a = zq (.lst vs) from r1)
      subst e1
      refine ⟨.inl ⟨rfl, vs, õ.of hH⟩, ?_⟩
      refine LE.bind Ý Î q fun y u h2 H2 k2 İ ð r2 ⟨b, xs, ys, ey, hx, hy, hz, q2⟩ => ?_
      subst ey
      obtain ⟨e2, _⟩ := (show u = .ref b ∧ ∃ vs, H2 b = zq (.lst vs) from r2)
      subst e2
      obtain ⟨ws, hW, rW⟩ := ð a xs hx
      obtain ⟨zs, hZ, rZ⟩ := ð b ys hy
      exact ⟨a, b, ws, zs, rfl, rfl, hW, hZ, by rw [← rW.length, ← rZ.length]; exact hz, p .non _ _ _ ((k1.trans k2).trans (.put hW)) (ð.put hW (UV rW rZ)) rfl q2⟩⟩
end
end L2
namespace L2
open PySem PySem.Spec PyProof.Rows HT
section
variable {prog:D5}{w:T8}{A:S4}{E:G1->G2->Prop}{s:G2}
def YO {it d:G7}{i n ep:P0}{dd:P1 G7}{es:T7 W1}{sl:T7 (P1 G1)}{ok ov:G1}{P:iK->G2->Prop}(hit:dQ s.heap it d i n ep ok ov)
 (hd:s.heap.get? d=zq {cls:= .type "dict",dict:=dd,data:= .dict es ep,slots:=sl})(hn:es.size=n)
 (more: ∀ (e:W1) h',es[i]? =zq e->xD h' it d (i+1) n ep e.key e.val s.heap.objs.size->h'.get? s.heap.objs.size=zq {cls:= .type "tuple",data:= .seq #[e.key,e.val]}->h'.objs.size=s.heap.objs.size+1->(∀b o,b≠it->s.heap.get? b=zq o->h'.get? b=zq o)->P (.done (.ret (.ref s.heap.objs.size))) {s with heap:=h'})
 (none_:es[i]? =xa->D6 (R3 prog w) A (do mL (.ref it) 2 .none;IH (<-newExc (.type "StopIteration") [])) P E s):D6 (R3 prog w) A (Builtin.«dict_itemiterator.__next__» ⟨[.ref it],[]⟩) P E s:=by
 have hT:s.TypeIs (.ref it) "dict_itemiterator" :=⟨_,hit,rfl⟩;have tn:=λ{Q:F7->G2->Prop} {E':G1->G2->Prop} {A':S4} (h:Q "dict_itemiterator" s)=>wpAny_typeNameOfWhole_itemiter (prog:=prog) (w:=w) (A:=A') (E:=E') hT h
 obtain⟨hp,g,dr,tk,os⟩:=s
 wp_walk using tn
 rw [R9 (show ¬ ((i:P4)<0) by omega),aH];cases hx:es[i]? with
 |none=>exact xg (xg (tn (G8 (none_ hx))))
 |some e=>
  have il:it<hp.objs.size:=D7 hit;have tup: ∀ {h0:N8} {o:Obj},h0.objs.size=hp.objs.size->(h0.push o).objs.size=hp.objs.size+1:=λq=>by rw [bY,q]
  refine xg (xg (tn (G8 (xg (fO hT ?_)))));show D6 _ _ (mL (.ref it) 3 (aS ((i:P4)+1)) >>= _) _ _ _;refine xg (Z5 hit (by simp) λh1 e1 s1=> ?_);have e1:dQ h1 it d (i+1) n ep ok ov:=by unfold dQ;rw [show ((i+1:P0):P4)=(i:P4)+1 by omega];simpa [aS] using e1
  have T1:Shared.TypeIs ⟨h1,g,dr,tk,os⟩ (.ref it) "dict_itemiterator" :=⟨_,e1,rfl⟩;refine xg (O8 (xg (fO T1 (xg (fO T1 ?_)))));show D6 _ _ (fQ (.ref it) 6 e.key e.val) _ _ _;unfold fQ;refine xg (uI ?_);have sz1:h1.objs.size=hp.objs.size:=s1.1;have e2:dQ (h1.push {cls:= .type "tuple",data:= .seq #[e.key,e.val]}) it d (i+1) n ep ok ov:=G9 _ e1;have new:(h1.push {cls:= .type "tuple",data:= .seq #[e.key,e.val]}).get? h1.objs.size=zq {cls:= .type "tuple",data:= .seq #[e.key,e.val]}:=S7 _ rfl;have ż:=tup (o:= {cls:= .type "tuple",data:= .seq #[e.key,e.val]}) sz1;have old: ∀b o,b≠it->hp.get? b=zq o->(h1.push {cls:= .type "tuple",data:= .seq #[e.key,e.val]}).get? b=zq o:=λb o nb q=>G9 _ (s1.extBut b o nb q)
  have fin:=more e;show D6 _ _ (cY (.ref it) >>= _) _ _ ⟨h1.push {cls:= .type "tuple",data:= .seq #[e.key,e.val]},g,dr,tk,os⟩;rw [sz1] at new ⊢;revert e2 new ż old;generalize h1.push ({cls:= .type "tuple",data:= .seq #[e.key,e.val]}:Obj)=h2;intro e2 new ż old;have nn:hp.objs.size≠it:=K4 il;refine xg ?_;unfold cY;refine xg (bW e2 rfl (x:= .none) rfl (G8 ?_));simp only [gP];refine xg (bW e2 rfl (x:=ok) rfl (xg (bW e2 rfl (x:=ov) rfl ?_)));refine xg (Z5 e2 (by simp) λh3 e3 s3=> ?_);refine xg (Z5 (show dQ h3 it d (i+1) n ep e.key ov from e3) (by simp) λh4 e4 s4=> ?_);refine xg (Z5 (show dQ h4 it d (i+1) n ep e.key e.val from e4) (by simp) λh5 e5 s5=> ?_);refine xg (Z5 (show xD h5 it d (i+1) n ep e.key e.val hp.objs.size from e5) (by simp) λh6 e6 s6=> ?_);have kp: ∀b o,b≠it->h2.get? b=zq o->h6.get? b=zq o:=λb o nb q=>s6.extBut b o nb (s5.extBut b o nb (s4.extBut b o nb (s3.extBut b o nb q)))
  refine xg (IS (G8 (G8 ?_)));exact fin h6 hx e6 (kp _ _ nn new) (by rw [s6.1,s5.1,s4.1,s3.1,ż]) λb o nb q=>kp b o nb (old b o nb q)
def RM {d:G7}{dd:P1 G7}{es:T7 W1}{ep:P0}{sl:T7 (P1 G1)}{P:iK->G2->Prop}(hd:s.heap.get? d=zq {cls:= .type "dict",dict:=dd,data:= .dict es ep,slots:=sl})(lo:(d==J4)=xf)
 (h:P (.done (.ret (.ref s.heap.objs.size))) {s with heap:=s.heap.push {cls:= .type "dict_items",data:= .fields #[.ref d]}}):D6 (R3 prog w) A (Builtin.«dict.items» ⟨[.ref d],[]⟩) P E s:=by
 have hT:s.TypeIs (.ref d) "dict" :=⟨_,hd,rfl⟩;unfold Builtin.«dict.items» Builtin.Dict.noArgs;refine xg (xg (bR hT (G8 ?_)));unfold Builtin.Dict.showsAll;show D6 _ _ ((if (d==J4)=xb then _ else _) >>= _) _ _ s;rw [R9 (by rw [lo];exact D2)];exact xg (G8 (xg (Q8 (G8 h))))
def RO {v d:G7}{dd:P1 G7}{es:T7 W1}{ep:P0}{sl:T7 (P1 G1)}{Q:G1->G2->Prop}(hv:s.heap.IsItemsView v d)(hd:s.heap.get? d=zq {cls:= .type "dict",dict:=dd,data:= .dict es ep,slots:=sl})
 (h: ∀h',dQ h' s.heap.objs.size d 0 es.size ep .none .none->(∀b o,s.heap.get? b=zq o->h'.get? b=zq o)->Q (.ref s.heap.objs.size) {s with heap:=h'}):D6 (R3 prog w) A (pP (.ref v)) Q E s:=by
 obtain⟨ov,hov,hcv,hdv⟩:=id hv;refine rJ hv.typeIs nC (F8 nC hv.typeIs F.entry_dict_items_iter ?_ (F.args_dict_items_iter_1 _));unfold Builtin.«dict_items.__iter__»;refine xg (G8 (xg ?_));unfold uP;refine xg (bW hov hdv (x:= .ref d) rfl (G8 (xg ?_)));unfold sC;refine xg (lN hd rfl (xg (wpAny_dictEpoch hd rfl ?_)));have new:(s.heap.push {cls:= .type "dict_itemiterator",data:= .fields #[.none,.bool xf,.ref d,.int 0 0,.int es.size 0,.int ep 0,.none,.none]}).get? s.heap.objs.size=zq {cls:= .type "dict_itemiterator",data:= .fields #[.none,.bool xf,.ref d,.int 0 0,.int es.size 0,.int ep 0,.none,.none]}:=S7 _ rfl;have fin:=h _ new λb o e=>G9 _ e
 refine Q8 (G8 ⟨_,rfl,"dict_itemiterator",_,⟨_,S7 _ rfl,rfl⟩,F.slot_dict_itemiterator_next.lookup,?_⟩) ?_
 ·exact fin
 ·simp only [sizeOk,show tJ "dict_itemiterator" =xb from by decide,gP];show 8<=xh+2;decide
end
def Iti (a : G7) (ep n : P0) : It :=
  ⟨fun i H => ∃ xs x, H a = zq (vG a ep xs) ∧ xs.length = n ∧ xs[i]? = zq x,
   fun i H v H' => ∃ p b u, H p = xa ∧ (∀ xs, H a = zq (vG a ep xs) → ∃ T, xs[i]? = zq (T, b, u)) ∧ v = .ref p ∧ H' = upd H p (.tup [.ref b, u]),
   fun i H => ∃ xs, H a = zq (vG a ep xs) ∧ xs.length = n ∧ n ≤ i⟩
variable {X:Cx}{a:G7}{ep:P0}
def wX {À:G0 (G7×Obj)}{σ:St}{H:Hp}{s:G2}{xs:KT2}(I:Inv X À σ H s)(hH:H a=zq (vG a ep xs)):(a==J4)=xf/\ ∃ (sl:T7 (P1 G1)) (es:T7 W1) (ys:G0 (G0 (G0 P4)×G7×G1)),s.heap.get? a=zq {cls:= .type "dict",dict:=xa,data:= .dict es ep,slots:=sl}/\Paired yR xs ys/\es.toList=ys.map (λx=>⟨Wo x.1,.ref x.2.1,x.2.2⟩)/\es.size=xs.length:=by
 obtain⟨⟨h1,h2,ys,pr,⟨oc,od,odt,Ĕ⟩,es,ho,⟨c1,c2,c3⟩,hd,he⟩,_,_⟩:=I.hok a _ hH;simp only at c1 c2 hd;subst c1 c2 hd;refine⟨h1,Ĕ,es,ys,ho,pr,he,?_⟩;rw [<-N0,he,G6];exact(jT pr).2.1.symm
def RQ {À:G0 (G7×Obj)}{σ:St}{s:G2}{xs ĺ:KT2}{H:Hp}(I:Inv X À σ H s)(e:H a=zq (vG a ep xs))(e':H a=zq (vG a ep ĺ)){i:P0}{x:G0 (G0 P4)×G7×V}(hx:xs[i]? =zq x): ∃T,ĺ[i]? =zq (T,x.2.1,x.2.2):=by
 obtain⟨_,_,es,ys,h1,pr,he,hn⟩:=wX I e;obtain⟨_,_,Ŏ,Ċ,Κ,pr',he',hn'⟩:=wX I e';rw [h1] at Κ;cases Κ;have il:i<ys.length:=by rw [<- (jT pr).2.1];exact(P8.mp hx).1
 have l':Ċ.length=ys.length:=by have:=xk K7 (he.symm.trans he');simpa using this.symm
 have lx:i<ĺ.length:=by rw [(jT pr').2.1,l'];exact il
 obtain⟨p1,p2,p3⟩:=yi pr hx (G5 il);obtain⟨q1,q2,q3⟩:=yi pr' (G5 lx) (G5 (by rw [l'];exact il));have z:=xk (λl=>l[i]?) (he.symm.trans he');simp only [D1,G5 il,G5 (show i<Ċ.length by rw [l'];exact il),bL] at z;injection z with z
 injection z with z1 z2 z3
 injection z2 with z2
 refine⟨ĺ[i].1,?_⟩;rw [G5 lx];have b:ĺ[i].2.1=x.2.1:=by rw [q2,p2,z2]
 have u:ĺ[i].2.2=x.2.2:=by rw [<-z3] at q3;exact q3.inj p3
 rw [<-b,<-u]
def Pe {P:D5}{w:T8}{K:G3}{es:G0 S2}{k:P0}{pos:Pos}(a it:G7)(ep n:P0)(ne:a≠it):Ν P w K (.Tuple es k pos) (Iti a ep n) [it] it (λi h=> ∃ok ov,dQ h it a i n ep ok ov) where
 mem:=by simp
 obj:=λi h ⟨ok,ov,q⟩ b hb=>by rw [P2.mp hb];exact⟨_,q,λv z=>by cases z⟩
 keep:=λi h h' ⟨ok,ov,q⟩ k=>⟨ok,ov,k it (by simp) _ q⟩
 item:=by
  intro X hP hw hK hc i À s σ H E I hf st hg;subst hP hw hK;obtain⟨ok,ov,hit⟩:=st;obtain⟨xs,x,hH,hl,hx⟩:=hg;obtain⟨_,sl,es,ys,hd,pr,he,hn⟩:=wX I hH;have ty:s.TypeIs (.ref it) "dict_itemiterator" :=⟨_,hit,rfl⟩;have itl:it<s.heap.objs.size:=D7 hit;have il:i<ys.length:=by rw [<- (jT pr).2.1];exact(P8.mp hx).1
  have hy:ys[i]? =zq ys[i]:=G5 il;obtain⟨p1,p2,p3⟩:=yi pr hx hy;have ee:es[i]? =zq ⟨Wo ys[i].1,.ref ys[i].2.1,ys[i].2.2⟩:=by rw [<-C4,he,D1,hy];rfl
  unfold mQ;refine xg (Y5 (O1 (name:=P6 "__next__") ty X1 (F8 X1 ty gO (YO hit hd (hn.trans hl) (λe h' ğ out new sz kept=>⟨_,rfl,G8 ⟨_,rfl,wpAny_letOwnedTupleGo_items out λh2 it2 same=> ?_⟩⟩) λz=>by rw [ee] at z;cases z) (fV _))));rw [ee] at ğ;injection ğ with ğ
  subst ğ;have X0M:h2.get? s.heap.objs.size=zq {cls:= .type "tuple",data:= .seq #[.ref ys[i].2.1,ys[i].2.2]}:=same.extBut _ _ (K4 itl) new;refine⟨.ref s.heap.objs.size,upd H s.heap.objs.size (.tup [.ref x.2.1,x.2.2]),I.turnLaid (h':=h2) (t':=s.toks) (ch:= [it]) (λb u hb q=> ?_) hf (P7 _) ⟨by show 2<=xh;decide,[.ref ys[i].2.1,ys[i].2.2],.cons (by rw [p2];rfl) (.cons p3 .nil),⟨_,X0M,rfl,rfl,_,rfl⟩⟩,rfl,⟨_,x.2.1,x.2.2,I.hok.fresh (P7 _),λĺ h'=> ?_,rfl,rfl⟩,⟨_,_,it2⟩,λb hb=> ?_⟩
  ·have nb:b≠it:=λz=>hb (by simp [z])
   exact same.extBut b u nb (kept b u nb q)
  ·exact RQ I hH h' hx
  ·rw [P2.mp hb,jf (M6 itl)];exact(hf it (by simp)).1
 done:=by
  intro X hP hw hK hc i À s σ H E I hf st hg;subst hP hw hK;obtain⟨ok,ov,hit⟩:=st;obtain⟨xs,hH,hl,hi⟩:=hg;obtain⟨_,sl,es,ys,hd,pr,he,hn⟩:=wX I hH;have ty:s.TypeIs (.ref it) "dict_itemiterator" :=⟨_,hit,rfl⟩;unfold mQ;refine xg (Y5 (O1 (name:=P6 "__next__") ty X1 (F8 X1 ty gO (YO hit hd (hn.trans hl) (λe h' ğ _ _ _ _=>by have:=(cE.mp ğ).1;omega) λ_=>xg (oO hit rfl (by simp) (vW (s:= {s with heap:=_}) (I.ok.hd hc) λh' e grown stop=> ?_))) (fV _))));obtain⟨o,eo,co⟩:=stop;refine xg (cM (T:= "StopIteration") (b:=xb) ⟨o,eo,co⟩ oP ?_);have kp: ∀b o,b ∉ [it]->s.heap.get? b=zq o->h'.get? b=zq o:=λb o hb q=>grown b o ((J5 _ _ (λz=>hb (by simp [z]))).trans q)
  have I2:Inv X À σ H {s with heap:=h'}:=I.turnL (t':=s.toks) (ch:= [it]) kp hf;exact G8 ⟨rfl,I2⟩
 self:=λ_ _ _ _ _ ⟨_,_,q⟩ h=>G0C q h
def ES (td:TE):TI:=λσ H R=>td σ H λx H1=> ∃a ep xs,x= .ref a/\H1 a=zq (vG a ep xs)/\R (Iti a ep xs.length) H1
def Bc {es:G0 S2}{k:P0}{tp:Pos}{o:S2}{td:TE}{apos Ë:Pos}(ho:PE X o td)(hbase:K9 o "items" X.env (L7 o X.env)=L7 o X.env:=by rfl)(hline:(apos.endLine==Ë.line)=xb:=by rfl):
 PI X (.Tuple es k tp) (.Call (.Attribute o "items" apos) [] [] Ë) (ES td):=by
 intro À s σ H R I h;refine wpAny_Call_method0_late hbase hline (Ø (ho À s σ H _ I h) λv s1 ⟨x,H1,I1,r1,a,ep,xs,ex,hH,q⟩=> ?_);subst ex;cases r1;obtain⟨lo,sl,es,ys,hd,pr,he,hn⟩:=wX I1 hH;have ty:s1.TypeIs (.ref a) "dict" :=⟨_,hd,rfl⟩;refine⟨"dict","dict.items",xN,mO,xO,ty,λb e=>by cases e;exact⟨_,hd,rfl⟩,mV rfl (PySem.evalArgs_none (F8 mO ty xE (RM hd lo ⟨_,rfl,?_⟩) (uQ _)))⟩;have al:a<s1.heap.objs.size:=D7 hd;refine RO (s:= {s1 with heap:=s1.heap.push (Go a)}) ⟨_,S7 _ rfl,rfl,rfl⟩ (G9 _ hd) λh' it kept=> ?_
 rw [hn] at it;have sz:(s1.heap.push (Go a)).objs.size=s1.heap.objs.size+1:=bY ..;have big:s1.heap.objs.size<=(s1.heap.push (Go a)).objs.size:=by rw [sz];exact oC _
 refine⟨_,[(s1.heap.push (Go a)).objs.size],_,_,H1,rfl,I1.kept (t':=s1.toks) (λb u e=>kept b u (G9 _ e)),Pe a _ ep xs.length (M6 (S8 al big)),⟨_,_,it⟩,λb hb=> ?_,q⟩;rw [P2.mp hb];exact I1.fpOk big (I1.hok.fresh big)
def Zy (kv:G0 (G0 (G0 P4)×D)):G0 D:=kv.map λp=> .tup [ju p.1,p.2]
def WF (a:G7)(ep n:P0):ItD:=λh=>match h.dc a with
 |some (.tk e kv)=>if e=ep/\kv.length=n then zq (Zy kv) else xa
 |_=>xa
def RR {h:HD}{kv:G0 (G0 (G0 P4)×D)}(e:h.dc a=zq (.tk ep kv)):WF a ep kv.length h=zq (Zy kv):=by
 unfold WF;rw [e];exact S5 ⟨rfl,rfl⟩
def RS {h:HD}{n:P0}{ds:G0 D}(e:WF a ep n h=zq ds): ∃kv,h.dc a=zq (.tk ep kv)/\kv.length=n/\ds=Zy kv:=by
 unfold WF at e;split at e
 ·rename_i e' kv q
  by_cases c:e'=ep/\kv.length=n
  ·rw [S5 c] at e;exact⟨kv,by rw [q,c.1],c.2,(C9 e).symm⟩
  ·rw [R9 c] at e;cases e
 ·cases e
def Pf {K:G3}{H:Hp}(a:G7)(ep n:P0):BQ K H (WF a ep n) (Iti a ep n):=λH' h' _ rh ds e i=>by
 obtain⟨kv,hc,hl,rfl⟩:=RS e;obtain⟨xs,hH,nd,ek,tv,rv⟩:=(show ∃xs:KT2,_ from rh.dc a _ hc);have len:xs.length=n:=by have:=xk K7 ek;rw [G6,G6] at this;omega
 refine⟨λd hd=> ?_,λhi=>⟨xs,hH,len,?_⟩⟩
 ·unfold Zy at hd;rw [D1] at hd;obtain⟨p,hp,rfl⟩:=L0.mp hd;have il:i<xs.length:=by have:=(P8.mp hp).1;omega
  have hx:xs[i]? =zq xs[i]:=G5 il;refine⟨⟨xs,xs[i],hH,len,hx⟩,λx ķ ⟨q,b,u,hq,all,ex,eH⟩=> ?_⟩;subst ex eH;obtain⟨T,hT⟩:=all xs hH;have k2:Kept H' (upd H' q (.tup [.ref b,u])):= .new hq;have e1:T=p.1:=by
   have:=xk (λl=>l[i]?) ek;simp only [D1,hp,hT,bL] at this;exact(C9 this).symm
  subst e1;have r1:=tv _ (P5 hT);obtain⟨u',e2,r2⟩:=rv.get (i:=i) (d:=p.2) (by rw [D1,hp];rfl);rw [D1,hT] at e2;have e2:u=u':=C9 e2;subst e2;exact⟨k2,rh.new hq,q,[.ref b,u],rfl,jh,_,_,rfl,(show É K H' (ju p.1) (.ref b) from r1).mono k2,_,_,rfl,r2.mono k2,rfl⟩
 ·unfold Zy at hi;rw [G6] at hi;omega
def iIt (td:TED):TID:=λσ h R=>td σ h λx h1=> ∃a ep kv,x= .dct a/\h1.dc a=zq (.tk ep kv)/\R (WF a ep kv.length) h1
def Bd {es : G0 S2} {k : P0} {tp : Pos} {o : S2} {td : TED} {apos Ë : Pos} (ho : JE X o td) (hbase : K9 o "items" X.env (L7 o X.env) = L7 o X.env := by rfl) (hline : (apos.endLine == Ë.line) = xb := by rfl) :
    JI X (.Tuple es k tp) (.Call (.Attribute o "items" apos) [] [] Ë) (iIt td) :=
  ⟨(Bc ho.to hbase hline).imp fun σ H R ⟨Ä, h, Rd, rs, rh, q, p⟩ => LE.bind rs rh q fun d v h1 H1 k1 Ý Î r1 ⟨a, ep, kv, e, hc, q1⟩ => by
    subst e
    cases (show v = .ref a from r1)
    obtain ⟨xs, hH, nd, ek, tv, rv⟩ := (show ∃ xs : KT2, _ from Î.dc a _ hc)
    have len : xs.length = kv.length := by have := xk K7 ek; rw [G6, G6] at this; omega
    exact ⟨a, ep, xs, rfl, hH, by rw [len]; exact p _ _ _ _ k1 Î (Pf a ep kv.length) q1⟩⟩
end L2
namespace L2
open PySem PySem.Spec PyProof.Rows PySem.SeqAt HT
def ud (te:TED):TED:=λσ h Q=>te σ h λx h1=> ∃a xs,x= .lst a/\h1 a=zq xs/\ ∀p,h1 p=xa->Q (.lst p) (wd h1 p xs.reverse)
def ue {X:Cx}{e:S2}{te:TED}{pos p2 p3 p4:Pos}{j:P0}(he:JE X e te):JE X (.Subscript e (.Slice xa xa (zq (.UnaryOp .USub (.Constant (.int 1) j p4) p3)) p2) pos) (ud te):=⟨by
 intro À s σ H Q I h;obtain⟨Ä,h,Qd,rs,rh,t,p⟩:=h;refine pT (Ø (he.to À s σ H _ I (LE.bind rs rh t λd v h1 H1 k1 Ý Î r1 q1=>(show ∃h1 d,Ò X.K H1 Ä σ/\Å X.K h1 H1/\É X.K H1 d v/\Kept H H1/\ ∃a xs,d= .lst a/\h1 a=zq xs/\ ∀p,h1 p=xa->Qd (.lst p) (wd h1 p xs.reverse) from ⟨h1,d,Ý,Î,r1,k1,q1⟩))) λv s1 ⟨x,H1,I1,r1,h1,d,Ý,Î,rd,k1,a,xs,ed,hx,q1⟩=> ?_);subst ed;have ex:x= .ref a:=rd.1;subst ex;cases r1;refine IC ?_;rw [pF];refine G8 (G8 ?_);rw [uV];have X11:LE X.K (dUn Sj (dC (.int 1))) σ H1 (λv H'=>v=V.int (-1)/\Å X.K h1 H'/\Kept H1 H'):=
  ⟨Ä,h1,λd h'=>d= .int (-1)/\h'=h1,Ý,Î,⟨rfl,rfl⟩,λd v h' H' k ì r' e=>by
   obtain⟨e1,e2⟩:=e;subst e1 e2;exact⟨r',ì,k⟩⟩
 refine Ø ((HX (HQ (X:=X) (i:=1) (j:=j) (pos:=p4)) (pos:=p3)) À s1 σ H1 _ I1 X11) λu s2 ⟨y,H2,I2,ry,ey,ð,k2⟩=> ?_
 subst ey;obtain⟨tk,rfl⟩:=ry;have I4:Inv X À σ H2 {s2 with heap:=s2.heap.push {cls:= .type "slice",data:= .fields #[.none,.none,.int (-1) tk]}}:=I2.kept (t':=s2.toks) λb ob q=>G9 _ q
 obtain⟨vs,hH,r3⟩:=ð a _ hx;obtain⟨its,r,ht,hz⟩:=I4.list (õ.of hH);have hlen:its.toArray.size=vs.length:=by rw [R4];exact r.length.symm
 show D6 (R3 X.prog X.w) X.A (lR e (.Slice xa xa (zq (.UnaryOp .USub (.Constant (.int 1) j p4) p3)) p2) (.ref a) (.ref s2.heap.objs.size)) (EP X À σ Q) X.xe {s2 with heap:=s2.heap.push {cls:= .type "slice",data:= .fields #[.none,.none,.int (-1) tk]}};refine IE (ops:= [.ref a,.ref s2.heap.objs.size]) ht.isList.typeIs slot_list_getitem.lookup ?_ (by with_unfolding_all rfl);refine lS (lo:=xa) (hi:=xa) (st:=zq (-1)) ht.isList (Heap.IsSliceOf.new ..) .none .none (.int (-1) tk) (by intro z;injection z with z;omega) ?_ (by rw [hlen];exact hz);have hf:=I4.hok.fresh (P7 _);rw [G0D];refine⟨.ref _,_,I4.laid (t':=s2.toks) (o:= .lst vs.reverse) (λb ob q=>G9 _ q) (P7 _) ⟨by rw [N6];exact hz,_,0,Æ.rev r,S7 _ rfl⟩,rfl,?_⟩;exact p (.lst _) _ _ _ (k1.trans (k2.trans (.new hf))) (ð.newL hf r3.rev) ⟨rfl,_,jh⟩ (q1 _ (ð.free hf))⟩
end L2
namespace L2
open PySem PySem.Spec PyProof.Rows
def Be {α:Type}(xs:G0 α):P0->G0 (G0 α)
 |0=> [[]]
 |k+1=>(Be xs k).flatMap λr=>xs.map (· ::r)
variable {α:Type}
theorem Vx {xs:G0 α}: ∀ {r:G0 α},(∀x∈r,x∈xs)->r∈Be xs r.length
 | [],_=>P2.mpr rfl
 |x::r,h=>List.mem_flatMap.mpr ⟨r,Vx λy hy=>h y (M5 _ hy),N5.mpr ⟨x,h x R1,rfl⟩⟩
theorem Vy (xs:G0 α): ∀k,(Be xs k).length=xs.length^k
 |0=>rfl
 |k+1=>by
  show ((Be xs k).flatMap λr=>xs.map (· ::r)).length=_;rw [List.length_flatMap,show ((Be xs k).map λr=>(xs.map (· ::r)).length)=(Be xs k).map λ_=>xs.length from O5 λr _=>G6 _,List.map_const',List.sum_replicate_nat,Vy xs k,xX]
variable {n:P0}
def Hh (n3:n<=3){l:G0 (G0 (G0 P4))}(nd:l.Nodup)(h: ∀M∈l,Sq n 1 M):l.length<=512:=by
 have:=Ws (m:=Be (Be [(0:P4),1] n) n) nd λM hM=>by
  have s:=h M hM;have z:=Vx (xs:=Be [(0:P4),1] n) (r:=M) λr hr=>by
   have z:=Vx (xs:= [(0:P4),1]) (r:=r) λx hx=>by
    have a:=s.nn r hr x hx;have b:x<2:=s.bit r hr x hx;rcases (show x=0\/x=1 by omega) with e|e<;>subst e<;>simp
   rw [s.row r hr] at z;exact z
  rw [s.len] at z;exact z
 rw [Vy,Vy] at this;rcases (show n=0\/n=1\/n=2\/n=3 by omega) with e|e|e|e<;>subst e<;>exact M1 this (by decide)
def ÿ (n:P0)(Ts:G0 (G0 (G0 P4))):G0 P0->G0 (G0 P4)
 | []=>TF n
 |a::w=>Sl n Ts (GL n (Ts.getD a [])) w
variable {Ts:G0 (G0 (G0 P4))}
def Bf: ∀ {w:G0 P0} (_:w≠ []) (a:P0),ÿ n Ts (w++ [a])=ř n (Ts.getD a []) (ÿ n Ts w)
 | [],h,_=>xj rfl h
 |b::w,_,a=>by
  show Sl n Ts _ (w++ [a])=_;unfold Sl;rw [lO];rfl
def Gq: ∀w:G0 P0,Sq n 1 (ÿ n Ts w)
 | []=>Sq.one n
 |a::w=>En _ (Sq.mark _) w
abbrev Fnd:=G0 (G0 (G0 P4)×G0 P0)
def lvS (n:P0)(Ts:G0 (G0 (G0 P4)))(s:Fnd×G0 (G0 P0))(w:G0 P0):Fnd×G0 (G0 P0):=if (zR s.1 (ÿ n Ts w)).isSome then s else (s.1++ [(ÿ n Ts w,w)],s.2++(R6 Ts.length).map λa=>w++ [a])
def LJ (n:P0)(Ts:G0 (G0 (G0 P4)))(s:Fnd×G0 (G0 P0)):Fnd×G0 (G0 P0):=s.2.foldl (lvS n Ts) (s.1,[])
def ω (n:P0)(Ts:G0 (G0 (G0 P4))):P0->Fnd×G0 (G0 P0)
 |0=>([],(R6 Ts.length).map λa=> [a])
 |k+1=>LJ n Ts (ω n Ts k)
def Ļ (n:P0)(Ts:G0 (G0 (G0 P4))):Fnd:=(ω n Ts 1025).1
def Oq (Ts:G0 (G0 (G0 P4)))(w:G0 P0):Prop:=w≠ []/\ ∀i∈w,i<Ts.length
structure Bin (n:P0)(Ts:G0 (G0 (G0 P4)))(k:P0)(s:Fnd×G0 (G0 P0)):Prop where
 nd:(s.1.map (·.1)).Nodup
 fd: ∀p∈s.1,p.1=ÿ n Ts p.2/\Oq Ts p.2/\p.2.length<=k
 fr: ∀w∈s.2,Oq Ts w/\w.length=k+1
structure Mid (n:P0)(Ts:G0 (G0 (G0 P4)))(k f:P0)(s:Fnd×G0 (G0 P0)):Prop where
 nd:(s.1.map (·.1)).Nodup
 fd: ∀p∈s.1,p.1=ÿ n Ts p.2/\Oq Ts p.2/\p.2.length<=k+1
 fr: ∀w∈s.2,Oq Ts w/\w.length=k+2
 le:f<=s.1.length
 gr:s.2.length<=3*(s.1.length-f)
section
variable {n k f:P0}{Ts:G0 (G0 (G0 P4))}{s:Fnd×G0 (G0 P0)}{w:G0 P0}
def Gr (n3:n<=3)(nd:(s.1.map (·.1)).Nodup)(fd: ∀p∈s.1,p.1=ÿ n Ts p.2):s.1.length<=512:=by
 have:=Hh n3 nd λM hM=>by
  obtain⟨p,hp,rfl⟩:=N5.mp hM;rw [fd p hp];exact Gq _
 rwa [G6] at this
def Mid.few (m:Mid n Ts k f s)(n3:n<=3):s.1.length<=512:=Gr n3 m.nd λp hp=>(m.fd p hp).1
def Bin.few (m:Bin n Ts k s)(n3:n<=3):s.1.length<=512:=Gr n3 m.nd λp hp=>(m.fd p hp).1
def RU (h:(zR s.1 (ÿ n Ts w)).isSome=xb):lvS n Ts s w=s:=S5 h
def RV (h:(zR s.1 (ÿ n Ts w)).isSome=xf):lvS n Ts s w=(s.1++ [(ÿ n Ts w,w)],s.2++(R6 Ts.length).map λa=>w++ [a]):=R9 (by rw [h];exact D2)
def Mid.step (m:Mid n Ts k f s)(l3:Ts.length<=3)(hw:Oq Ts w)(hl:w.length=k+1):Mid n Ts k f (lvS n Ts s w):=by
 cases h:(zR s.1 (ÿ n Ts w)).isSome with
 |true=>rw [RU h];exact m
 |false=>
  rw [RV h];have no:zR s.1 (ÿ n Ts w)=xa:=j9.mp (by cases z:zR s.1 (ÿ n Ts w) with
   |none=>rfl
   |some _=>rw [z] at h;cases h)
  refine⟨?_,λp hp=> ?_,λv hv=> ?_,?_,?_⟩
  ·show ((s.1++ [(ÿ n Ts w,w)]).map (·.1)).Nodup;rw [T9];refine aN.mpr ⟨m.nd,by simp,λx hx y hy z=> ?_⟩;rw [P2.mp hy] at z;have z:x=ÿ n Ts w:=z;rw [z] at hx;exact Qe no hx
  ·rcases D9.mp hp with z|z
   ·exact m.fd p z
   ·rw [P2.mp z];exact⟨rfl,hw,U6 hl⟩
  ·rcases D9.mp hv with z|z
   ·exact m.fr v z
   ·obtain⟨a,ha,rfl⟩:=N5.mp z;refine⟨⟨by simp,λi hi=> ?_⟩,by rw [P3,hl];rfl⟩;rcases D9.mp hi with z|z
    ·exact hw.2 i z
    ·rw [P2.mp z];exact O4.mp ha
  ·show f<=(s.1++ [(ÿ n Ts w,w)]).length;rw [P3];have:=m.le;omega
  ·show (s.2++(R6 Ts.length).map λa=>w++ [a]).length<=3*((s.1++ [(ÿ n Ts w,w)]).length-f);rw [P3,P3,G6,B3];have:=m.le;have:=m.gr;show _<=3*(s.1.length+1-f);omega
def Bin.mid (b:Bin n Ts k s):Mid n Ts k s.1.length (s.1,[]):=⟨b.nd,λp hp=>let ⟨x,y,z⟩:=b.fd p hp;⟨x,y,rF z⟩,(λ_ h=>nomatch h),P7 _,B0 _⟩
def Bin.mids (b:Bin n Ts k s)(l3:Ts.length<=3): ∀i,Mid n Ts k s.1.length ((s.2.take i).foldl (lvS n Ts) (s.1,[]))
 |0=>b.mid
 |i+1=>by
  by_cases h:i<s.2.length
  ·rw [uK,G5 h,lO];exact(b.mids l3 i).step l3 (b.fr _ (N9 h)).1 (b.fr _ (N9 h)).2
  ·rw [S3 (by omega),<-S3 (gI h)];exact b.mids l3 i
def Bin.end_ (b:Bin n Ts k s)(l3:Ts.length<=3):Mid n Ts k s.1.length (LJ n Ts s):=by
 have:=b.mids l3 s.2.length
 rwa [W3] at this
def Mid.bin (m:Mid n Ts k f s):Bin n Ts (k+1) s:=⟨m.nd,m.fd,m.fr⟩
theorem Qf (l3:Ts.length<=3): ∀k,Bin n Ts k (ω n Ts k)
 |0=>⟨j6,(λ_ h=>nomatch h),λw hw=>by
  obtain⟨a,ha,rfl⟩:=N5.mp hw;exact⟨⟨by simp,λi hi=>by rw [P2.mp hi];exact O4.mp ha⟩,rfl⟩⟩
 |k+1=>((Qf l3 k).end_ l3).bin
def Bg (s:Fnd×G0 (G0 P0)):P0:=2*(512-s.1.length)+(if s.2= [] then 0 else 1)
def Bh (b:Bin n Ts k s)(n3:n<=3)(l3:Ts.length<=3)(h:s.2≠ []):Bg (LJ n Ts s)<Bg s:=by
 have m:=b.end_ l3;have:=m.few n3;have:=m.le;have g:=m.gr;unfold Bg;rw [R9 h]
 by_cases e:(LJ n Ts s).1.length=s.1.length
 ·rw [e] at g ⊢;rw [S5 (aZ (by omega))];omega
 ·split<;>omega
theorem Ch (h:(ω n Ts k).2= []): ∀j,ω n Ts (k+j)=ω n Ts k
 |0=>rfl
 |j+1=>by
  show LJ n Ts (ω n Ts (k+j))=_;rw [Ch h j];unfold LJ;rw [h];show ((ω n Ts k).1,[])=_;rw [<-h]
def RW (h:(ω n Ts k).2= [])(hk:k<=1025):(ω n Ts k).1=Ļ n Ts:=by
 unfold Ļ;rw [<-Ch h (1025-k),show k+(1025-k)=1025 by omega]
def RX (l1:1<=Ts.length):0+Bg (ω n Ts 0)<=1025:=by
 unfold Bg;show 0+(2*(512-0)+_)<=1025;split<;>omega
def vZ (l3:Ts.length<=3):Bin n Ts 1025 (ω n Ts 1025):=Qf l3 _
end
theorem Vz {β:Type}(f:α->β)(T:G0 (G0 P4)): ∀kv:G0 (G0 (G0 P4)×α),zR (kv.map λp=>(p.1,f p.2)) T=(zR kv T).map f
 | []=>rfl
 |p::kv=>by
  have ih:=Vz f T kv;unfold zR at ih ⊢;rw [S9,Q4,Q4];dsimp only;cases decide (p.1=T) with
  |true=>rfl
  |false=>exact ih
def VA {α:Type}{kv:G0 (G0 (G0 P4)×α)}{T:G0 (G0 P4)}{d:α}(h:zR kv T=xa):PC kv T d=kv++ [(T,d)]/\zR (PC kv T d) T=zq d:=by
 have e:PC kv T d=kv++ [(T,d)]:=by unfold PC;rw [h];rfl
 refine⟨e,?_⟩;rw [e];unfold zR at h ⊢;rw [List.find?_append,fM.mp h];rw [Option.none_or,Q4,S6 rfl];rfl
def ĝ (F:Fnd):G0 (G0 (G0 P4)×D):=F.map λp=>(p.1,XO p.2)
def RY {F:Fnd}{T:G0 (G0 P4)}:(zR (ĝ F) T).isSome=(zR F T).isSome:=by
 unfold ĝ;rw [Vz,rK]
def LK {F:Fnd}{T:G0 (G0 P4)}{w:G0 P0}(h:(zR F T).isSome=xf):PC (ĝ F) T (XO w)=ĝ (F++ [(T,w)]):=by
 have z:zR (ĝ F) T=xa:=by
  cases e:zR (ĝ F) T with
  |none=>rfl
  |some _=>have:=RY (F:=F) (T:=T);rw [e,h] at this;cases this
 rw [(VA z).1];unfold ĝ;rw [T9];rfl
def Ž (n:P0)(Ts:G0 (G0 (G0 P4)))(w:G0 P0):D:= .tup [XO w,ju (ÿ n Ts w)]
def VB {n:P0}(g:P0->G0 (G0 P4)->G0 (G0 P4)):Yd ((R6 Ts.length).map λi=>ju (g i (Ts.getD i [])))=(R6 Ts.length).map λ(j:P0)=>D.tup [.int (j:P4),ju (g j (Ts.getD j []))]:=by
 apply fJ;intro i
 by_cases hi:i<Ts.length
 ·have hi':i<(Yd ((R6 Ts.length).map λi=>ju (g i (Ts.getD i [])))).length:=by rw [wH,G6,B3];exact hi
  obtain⟨x,hx,ed⟩:=ZX (G5 hi');rw [G5 hi',ed];rw [D1,Y0 hi] at hx ⊢;injection hx with hx
  rw [<-hx];rfl
 ·rw [V8 (by rw [wH,G6,B3];omega),V8 (by rw [G6,B3];omega)]
def YQ (Ts:G0 (G0 (G0 P4))):Ts.map ju=(R6 Ts.length).map λi=>ju (Ts.getD i []):=by
 apply fJ;intro i;rw [D1,D1]
 by_cases hi:i<Ts.length
 ·rw [Y0 hi,G5 hi];show zq (ju Ts[i])=zq (ju (Ts.getD i []));rw [T3,G5 hi];rfl
 ·rw [V8 (by omega),V8 (by rw [B3];omega)];rfl
end L2
namespace L2
open PySem PySem.Spec PyProof.Rows HT PySem.SeqAt
def Bi (r r':G0 P4):alk (vD r) (vD r')=xb:=Gm r r'
section
variable {prog:D5}{w:T8}{A:S4}{E:G1->G2->Prop}{s:G2}
def IB (prog:D5)(w:T8)(h:N8)(v:G1)(T:G0 (G0 P4)):Prop:= ∃a,v= .ref a/\Yg prog w h T a/\T≠ []
def IB.keeps {h h':N8}{v:G1}{T:G0 (G0 P4)}(k:NP h h'):IB prog w h v T->IB prog w h' v T
 |⟨a,e,t,n⟩=>⟨a,e,(Sr prog w).keep (λc o _ q=>k c o q) t,n⟩
open Classical in
noncomputable def UW (prog:D5)(w:T8)(h:N8)(v:G1):G0 (G0 P4):=if e: ∃T,IB prog w h v T then e.choose else []
def IB.told {h:N8}{v:G1}{T:G0 (G0 P4)}(x:IB prog w h v T):UW prog w h v=T:=by
 have e: ∃T,IB prog w h v T:=⟨T,x⟩;unfold UW;rw [rE e];obtain⟨a,e1,t,_⟩:=e.choose_spec;obtain⟨b,e2,t2,_⟩:=x;rw [e1] at e2;cases e2;exact(Sr prog w).inj t t2
def Bj {vs:G0 G1}(h2:2<=vs.length)(x: ∀v∈vs,∃T,IB prog w s.heap v T){Q:SortKind->G2->Prop}(q:Q (G0u xf) s):D6 (R3 prog w) A (IN vs.toArray) Q E s:=by
 have go: ∀l:G0 G1,(∀v∈l,v∈vs)-> ∃fs:G0 G1,G0I s.heap l fs/\fs.length=l.length/\ ∀f∈fs,∃b o,f= .ref b/\s.heap.get? b=zq o/\o.cls= .type "tuple" :=by
  intro l
  induction l with
  |nil=>exact λ_=>⟨[],.nil,rfl,λf hf=>xj hf F9⟩
  |cons v l ih=>
   intro sub;obtain⟨fs,e1,e2,e3⟩:=ih λu hu=>sub u (M5 _ hu)
   obtain⟨T,a,rfl,⟨o,its,n,ho,hc,hd,hi⟩,ne⟩:=x v (sub v R1);obtain⟨l⟩:=its;have hi:Õ prog w s.heap T l:=hi;cases hi with
   |nil=>exact xj rfl ne
   |cons ra rest=>
    rename_i r b T' vs';refine⟨.ref b::fs,.cons ho hc hd rfl e1,by rw [D8,D8,e2],λf hf=> ?_⟩;rcases R5.mp hf with rfl|hf
    ·obtain⟨o',_,_,q1,q2,_⟩:=ra;exact⟨b,o',rfl,q1,q2⟩
    ·exact e3 f hf
 obtain⟨fs,t,len,ty⟩:=go vs λ_ h=>h
 refine PySem.W.kat_kind (T:= .type "tuple") t (by omega) (λf hf=> ?_) rfl q;obtain⟨b,o,rfl,ho,hc⟩:=ty f hf;rw [<-hc];exact(G0E ho).andThen .now
theorem Gs {fin:N3}{Q:N3->G2->Prop}(hu:A.units+16<cLine)(m n:P0)(ef:fin=decide (m<n)): ∀ {vs us:G0 G1} {T U:G0 (G0 P4)} (i:P0),Õ prog w s.heap T vs->Õ prog w s.heap U us->T.length+n=U.length+m->Q (we T U) s->G0U prog w A xf fin Q (vs.zip us) i s
 |_,_,_,_,i,.nil,.nil,l,q=>by
  subst ef;rw [rL];refine nI ?_;rw [S0 (by rw [B6] at l;omega)];exact q
 |_,_,_,_,i,.nil,.cons c y,l,q=>by
  subst ef;rw [rL];refine nI ?_;rw [S6 (by rw [B6,D8] at l;omega)];exact q
 |_,_,_,_,i,.cons a x,.nil,l,q=>by
  subst ef;rw [List.zip_nil_right];refine nI ?_;rw [S0 (by rw [B6,D8] at l;omega)];exact q
 |_,_,_,_,i,.cons (r:=r) (b:=b) (T:=T) a x,.cons (r:=r') (b:=b') (T:=U) c y,l,q=>by
  rw [Z4];have q:Q (if r=r' then we T U else HT.zT r r') s:=q;refine G0F (pW (by omega) a c ?_)
  by_cases z:r=r'
  ·rw [S5 z] at q;rw [S6 z];exact G0J (Gs hu m n ef (i+1) x y (by rw [D8,D8] at l;omega) q)
  ·rw [R9 z] at q;rw [S0 z];refine G0V (by
    rw [dZ];refine G0K _ _ ?_;obtain⟨o,items,k,ho,hc,hd,hi⟩:=a;obtain⟨o',items',k',ho',hc',ō,hi'⟩:=c;refine Gi (vD r) (vD r') A s _ _ [] [] (.tuple ho hc hd (vt hi)) (.tuple ho' hc' ō (vt hi')) (YF r) (YF r') (Bi r r') (by have:=DZ r;omega) prog w _ _ ?_;rw [show ltP (vD r) (vD r')=HT.zT r r' from Gk r r'];exact q)
def Bk (hu:A.units+16<cLine){h0 h':N8}(k:NP h0 h'):Ud prog w A (HT.Only s h') (G0u xf) (λx=> ∃T,IB prog w h0 x.1 T) (λx y=>we (UW prog w h0 x.1) (UW prog w h0 y.1)):=by
 rintro ⟨x,x'⟩ ⟨y,y'⟩ ⟨T,tx⟩ ⟨U,ty⟩ s1 ⟨tk,rfl⟩;dsimp only at tx ty ⊢;have q:(we T U=we (UW prog w h0 x) (UW prog w h0 y)/\HT.Only s h' {s with heap:=h',toks:=tk}):=⟨by rw [tx.told,ty.told],tk,rfl⟩;obtain⟨a,rfl,⟨o,its,n,ho,hc,hd,hi⟩,_⟩:=tx.keeps k;obtain⟨b,rfl,⟨o2,ĥ,n2,ho2,hc2,hd2,hi2⟩,_⟩:=ty.keeps k;refine G0W ho hd ho2 hd2 (Gs (s:= {s with heap:=h',toks:=tk}) hu its.size ĥ.size rfl 0 hi hi2 ?_ q);have z1:T.length=its.size:=hi.len;have z2:U.length=ĥ.size:=hi2.len;omega
def LL {U:D4->Prop}(key:G1->G0 (G0 P4)):ã U (λx y=>we (key x.1) (key y.1)):=⟨λx y _ _ h=>Ll h,λx y z _ _ _ h=>by
 rcases Vr (key x.1) (key y.1) with e|e|e
 ·exact .inr (by rw [<-e];exact h)
 ·exact .inl e
 ·exact .inr (Vq e h)⟩
end
theorem Qg {K:G3}{H:Hp}: ∀ {qs:G0 NU},(∀x∈qs,É K H (ju x.2) (.ref x.1))->Á K H ((qs.map (·.2)).map ju) (qs.map λp=>V.ref p.1)
 | [],_=>rfl
 |q::qs,h=>⟨_,_,rfl,h q R1,Qg λx hx=>h x (M5 _ hx)⟩
end L2
namespace HT
open PySem PyProof.Rows
def Yb {K α:Type}[DecidableEq K](kv:G0 (K×α))(k:K):G0 (K×α):=kv.filter λp=> !decide (p.1=k)
theorem UX {K α:Type}[DecidableEq K]{k:K}{p:α}: ∀ {xs:G0 (K×α)} {j:P0},(xs.map (·.1)).Nodup->xs[j]? =zq (k,p)->xs.eraseIdx j=Yb xs k
 | [],_,_,h=>by cases h
 |x::xs,0,nd,h=>by
  injection h with h
  subst h;unfold Yb;rw [List.eraseIdx_cons_zero,E6 (by simp)];refine(o7.mpr λy hy=> ?_).symm;have ne:y.1≠k:=λz=>(V5.mp nd).1 (N5.mpr ⟨y,hy,z⟩)
  rw [S0 ne];rfl
 |x::xs,j+1,nd,h=>by
  rw [S9] at nd;have h:xs[j]? =zq (k,p):=h;have ne:x.1≠k:=λz=>(V5.mp nd).1 (N5.mpr ⟨_,P5 h,z.symm⟩)
  rw [List.eraseIdx_cons_succ,UX (V5.mp nd).2 h];unfold Yb;rw [E7 (by rw [S0 ne];rfl)]
def RZ {α β:Type}(f:α->β)(xs:G0 α)(j:P0):(xs.map f).eraseIdx j=(xs.eraseIdx j).map f:=by
 rw [fX,fX,T9,cX,pH]
section
variable {prog:D5}{w:T8}{K:Type}[DecidableEq K]{knd:HeapKind prog w K}{A:S4}{E:G1->G2->Prop}{s:G2}{d a:G7}{k:K}{xs:G0 (K×G7×G1)}
def Ma {Q:P1 W1->G2->Prop}(hu:knd.room A)(X0B:knd.is s.heap k a)(hm:s.heap.DictOfH knd d xs)(hp:(dY xs k).isSome=xb)(hsz:xs.length<=xh)
 (q: ∀e h',h'.DictOfH knd d (Yb xs k)->aF d s.heap h'->Q (zq e) {s with heap:=h',toks:=s.toks+knd.draws k}):D6 (R3 prog w) A (Builtin.Dict.takeOut d (.ref a)) Q E s:=by
 obtain⟨o,es,ep,ho,hx,hd,he,his,nd⟩:=hm;have le:es.size=xs.length:=size_of_entries he;unfold Builtin.Dict.takeOut;refine O8 (xg (knd.pyHash hu X0B (xg (wpAny_dictFind_heap (s:= {s with toks:=s.toks+knd.draws k}) hu X0B ho hd he his nd (λno=> ?_) λj p hj=> ?_))))
 ·obtain⟨y,hy⟩:=O9.mp hp;unfold dY at hy;obtain⟨x,hx,_⟩:=L0.mp hy;obtain⟨j,hj⟩:=List.getElem?_of_mem (aA hx);have ek:x.1=k:=by have z:=iB hx;exact E9 z
  exact xj (by rw [hj,<-ek]) (no j x.2)
 ·have jl:j<es.size:=by rw [le];exact(P8.mp hj).1
  refine xg (lN (s:= {s with toks:=s.toks+knd.draws k}) ho hd ?_);rw [entry_at he j,hj];refine xg (wpAny_updateDictKeys (s:= {s with toks:=s.toks+knd.draws k}) ho hd (G8 (q _ _ ?_ (Heap.SameBut.update ..))) (by omega) ?_)
  ·refine⟨_,_,ep+1,bM _ ho (Obj.isFreed_of_dict (oQ hd _)),hx.mapDictKeys _,oQ hd _,?_,λx ğ=> ?_,?_⟩
   ·rw [<-UX nd hj];show (es.eraseIdxIfInBounds j).toList=_;unfold mB;rw [rE jl,nO,he,RZ]
   ·exact knd.keeps (his x (A4.mp ğ).1) ho hd (Heap.SameBut.update ..)
   ·exact nd.sublist (G0.filter_sublist.map _)
  ·show (es.eraseIdxIfInBounds j).size<=_;unfold mB;rw [rE jl,Array.size_eraseIdx];omega
def Bl {Q:Unit->G2->Prop}(hu:knd.room A.in1)(X0B:knd.is s.heap k a)(hm:s.heap.DictOfH knd d xs)(hp:(dY xs k).isSome=xb)(hsz:xs.length<=xh)
 (q: ∀h',h'.DictOfH knd d (Yb xs k)->aF d s.heap h'->Q () {s with heap:=h',toks:=s.toks+knd.draws k}):D6 (R3 prog w) A (delItem (.ref d) (.ref a)) Q E s:=by
 have ty:=hm.typeIs;unfold delItem;refine O8 (xg (lI ty (by decide) (xg (O1 (name:=P6 "__delitem__") ty o8 (F8 o8 ty F.entry_dict_delitem ?_ (F.args_dict_delitem_2 _ _))))));unfold Builtin.«dict.__delitem__» Builtin.Dict.dictSlotArgs;refine xg (xg (bR ty (G8 ?_)));refine xg (G8 (xg (Ma hu X0B hm hp hsz λe h' z1 z2=> ?_)));exact xg (IS (G8 ⟨_,rfl,G8 (q h' z1 z2)⟩))
end
section
variable {prog:D5}{w:T8}{A:S4}{E:G1->G2->Prop}{s:G2}{d:G7}{dd:P1 G7}{es:T7 W1}{ep:P0}{sl:T7 (P1 G1)}
def Bn {Q:G1->G2->Prop}(hd:s.heap.get? d=zq {cls:= .type "dict",dict:=dd,data:= .dict es ep,slots:=sl})(lo:(d==J4)=xf)(sm:es.size<=xh)
 (q:Q (.int es.size (s.toks+1)) {s with toks:=s.toks+1+1}):D6 (R3 prog w) A (Builtin.«len» ⟨[.ref d],[]⟩) (λfin s'=> ∃r,fin= .done (.ret r)/\Q r s') E s:=by
 have ty:s.TypeIs (.ref d) "dict" :=⟨_,hd,rfl⟩;have big:(es.size:P4)<2^63:=pU (Int.ofNat_le.mpr sm) (by decide);unfold Builtin.«len»;refine xg (m:=oneArg "len" _) (G8 (xg (m:=rH (.ref d) (P6 "__len__")) (O1 (name:=P6 "__len__") ty tK (F8 tK ty F.entry_dict_len ?_ (F.args_dict_len_1 _)))));unfold Builtin.«dict.__len__» Builtin.Dict.dictSlotNone dictSize;refine xg (xg (bR ty (G8 ?_)));refine xg (G8 (xg (xg (lN hd rfl (G8 (xg (wpAny_pendingCount_other lo (iA ?_))))))));show D6 _ _ _ _ _ {s with toks:=s.toks+1};dsimp only
 wp_walk
 rw [R9 (show ¬ ((es.size:P4)+((0:P0):P4)>=2^63) by omega)];exact iA (by simpa using q)
def Pg {Q:N3->G2->Prop}(hd:s.heap.get? d=zq {cls:= .type "dict",dict:=dd,data:= .dict es ep,slots:=sl})(lo:(d==J4)=xf)(sm:es.size<=xh)
 (q:Q (!es.isEmpty) {s with toks:=s.toks+1+1}):D6 (R3 prog w) A (mP (.ref d)) Q E s:=by
 have ty:s.TypeIs (.ref d) "dict" :=⟨_,hd,rfl⟩;have e:((es.size:P4) !=0)= !es.isEmpty:=by
  unfold xF
  by_cases c:es.size=0
  ·rw [c];rfl
  ·rw [S0 c,bne_iff_ne.mpr (by omega)];rfl
 have told:D6 (R3 prog w) A (runValue (.builtin "len" ⟨[.ref d],[]⟩)) (λr s'=>r= .int es.size (s.toks+1)/\s'= {s with toks:=s.toks+1+1}) E s:=
  uL (bK entry_len (by
   rw [cB plain_len _];exact R7 (Bn (Q:=λr s'=>r= .int es.size (s.toks+1)/\s'= {s with toks:=s.toks+1+1}) hd lo sm ⟨rfl,rfl⟩) (λfin s' ⟨r,e1,z⟩=>by subst e1;exact z) λ_ _ z=>z))
 unfold mP;refine xg (wpAny_callSpecial?_none (name:=P6 "__bool__") ty noBool_dict (xg (X7 (name:=P6 "__len__") ty F.slot_dict_len.lookup ?_)));exact xg (R7 told (λr s' ⟨e1,e2⟩=>by subst e1 e2;exact G8 (e ▸ q)) λ_ _ z=>z)
def KIt (h:N8)(it d:G7)(i n ep:P0):Prop:=h.get? it=zq {cls:= .type "dict_keyiterator",data:= .fields #[.ref d,.int i 0,.int n 0,.int ep 0]}
def Ju {it:G7}{i n:P0}{P:iK->G2->Prop}(hit:KIt s.heap it d i n ep)(hd:s.heap.get? d=zq {cls:= .type "dict",dict:=dd,data:= .dict es ep,slots:=sl})(hn:es.size=n)
 (more: ∀ (e:W1) h',es[i]? =zq e->KIt h' it d (i+1) n ep->aF it s.heap h'->P (.done (.ret e.key)) {s with heap:=h'})
 (none_:es[i]? =xa->D6 (R3 prog w) A (do mL (.ref it) 0 .none;IH (<-newExc (.type "StopIteration") [])) P E s):D6 (R3 prog w) A (Builtin.«dict_keyiterator.__next__» ⟨[.ref it],[]⟩) P E s:=by
 have hT:s.TypeIs (.ref it) "dict_keyiterator" :=⟨_,hit,rfl⟩;have tn:=λ{Q:F7->G2->Prop} {E':G1->G2->Prop} {A':S4} (h:Q "dict_keyiterator" s)=>wpAny_typeNameOfWhole_keyiter (prog:=prog) (w:=w) (A:=A') (E:=E') hT h
 obtain⟨hp,g,dr,tk,os⟩:=s
 wp_walk using tn
 rw [R9 (show ¬ ((i:P4)<0) by omega),aH];cases hx:es[i]? with
 |none=>exact xg (xg (tn (G8 (none_ hx))))
 |some e=>
  refine xg (xg (tn (G8 (xg (nQ hT ?_)))));show D6 _ _ (mL (.ref it) 1 (aS ((i:P4)+1)) >>= _) _ _ _;refine xg (Z5 hit (by simp) λh1 e1 s1=> ?_);have e2:KIt h1 it d (i+1) n ep:=by unfold KIt;rw [show ((i+1:P0):P4)=(i:P4)+1 by omega];simpa [aS] using e1
  have T1:Shared.TypeIs ⟨h1,g,dr,tk,os⟩ (.ref it) "dict_keyiterator" :=⟨_,e2,rfl⟩;exact xg (O8 (xg (nQ T1 (G8 (G8 (more e h1 hx e2 s1))))))
def YR {Q:G1->G2->Prop}(hd:s.heap.get? d=zq {cls:= .type "dict",dict:=dd,data:= .dict es ep,slots:=sl})(lo:(d==J4)=xf)
 (q:Q (.ref s.heap.objs.size) {s with heap:=s.heap.push {cls:= .type "dict_keyiterator",data:= .fields #[.ref d,.int 0 0,.int es.size 0,.int ep 0]}}):D6 (R3 prog w) A (pP (.ref d)) Q E s:=by
 have ty:s.TypeIs (.ref d) "dict" :=⟨_,hd,rfl⟩;refine rJ ty sD (F8 sD ty F.entry_dict_iter ?_ (F.args_dict_iter_1 _));unfold Builtin.«dict.__iter__» Builtin.Dict.dictSlotNone Builtin.Dict.showsAll;refine xg (xg (bR ty (G8 ?_)));refine xg (G8 ?_)
 wp_walk
 exact⟨_,rfl,"dict_keyiterator",_,⟨_,S7 _ rfl,rfl⟩,F.slot_dict_keyiterator_next.lookup,by simpa [aS] using q⟩
end
end HT
namespace L2
open PySem PySem.Spec PyProof.Rows HT PySem.SeqAt
theorem WG {T:G0 (G0 P4)}: ∀ {xs:KT2} {ys:G0 (G0 (G0 P4)×G7×G1)},Paired yR xs ys->Paired yR (Yb xs T) (Yb ys T)
 |_,_,.nil=> .nil
 |_,_,.cons (a:=x) (b:=y) r z=>by
  have ih:=WG (T:=T) z;unfold Yb at ih ⊢
  by_cases c:x.1=T
  ·rw [E6 (by rw [S6 c];exact D2),E6 (by rw [S6 (r.1 ▸ c)];exact D2)];exact ih
  ·rw [E7 (by rw [S0 c];rfl),E7 (by rw [S0 (r.1 ▸ c)];rfl)];exact .cons r ih
def Hi (td ty:TE):TS:=λD σ H=>td σ H λx H2=>ty σ H2 λy H3=> ∃ (a b:G7) (T:G0 (G0 P4)) (ep:P0) (xs:KT2),x= .ref a/\y= .ref b/\H3 a=zq (vG a ep xs)/\(∀x∈xs,Xx H3 x.1 x.2.1)/\(xs.map (·.1)).Nodup/\Xx H3 T b/\T∈xs.map (·.1)/\ ∀ý,D.nx σ (upd H3 a (vG a ý (Yb xs T)))
section
variable {X:Cx}
def LM {o i:S2}{td ty:TE}{pos pos':Pos}(hu:X.A.units+9<cLine)(ho:PE X o td)(hi:PE X i ty):PS X (.Delete [.Subscript o i pos'] pos) (Hi td ty):=by
 intro À s σ H D I h;refine wpAny_Delete (wpAny_deleteEach_cons (wpAny_delete_Subscript (Ø (ho À s σ H _ I h) λu s2 ⟨x,H2,I2,rx,q2⟩=>Ø (hi À s2 σ H2 _ I2 q2) λiv s3 ⟨y,H3,I3,ry,a,b,T,ep,xs,ex,ey,hH,ks,nd,hT,mem,q3⟩=> ?_)));subst ex ey;obtain rfl:u=N7 a:=rx;obtain rfl:iv=N7 b:=ry;obtain⟨h1,h2,ys,pr,dd⟩:=Jt I3 hH ks nd;obtain⟨k1,k2,k3⟩:=jT pr;refine Bl (knd:=MF X.prog X.w) (show X.A.units+1+8<cLine by omega) (Js I3 T b hT) dd ?_ (by omega) λh' dd' hs=>wpAny_deleteEach_nil ?_
 ·obtain⟨y,hy,e⟩:=N5.mp (k1 ▸ mem);unfold dY;rw [rK,List.find?_isSome];exact⟨y,hy,S6 e⟩
 ·obtain⟨q,es,ý,hq,e2,e3,e4,_,_⟩:=dd';have lz:(Yb xs T).length<=xh:=M1 (V9 _ _) h2;refine⟨σ,_,XG (ob:=vG a ý (Yb xs T)) I3 (by rw [hH];exact Y7) hs ⟨q,hq⟩ ⟨⟨h1,lz,_,WG pr,q,es,hq,e2,e3,e4⟩,⟨q,hq⟩,λg1 g2 hg ke=> ?_⟩,q3 ý⟩;obtain⟨a1,a2,Ċ,pr',o,Ŏ,ho,ex,hd,he⟩:=hg;exact⟨a1,a2,Ċ,pr',o,Ŏ,ke o ho,ex,hd,he⟩
def Hj (td ty:TED):TSD:=λE σ h=>td σ h λx h2=>ty σ h2 λy h3=> ∃a T ep kv,x= .dct a/\y=ju T/\h3.dc a=zq (.tk ep kv)/\T∈kv.map (·.1)/\ ∀ý,E.nx σ (MD h3 a (.tk ý (Yb kv T)))
theorem UY {α β:Type}{T:G0 (G0 P4)}: ∀ {kv:G0 (G0 (G0 P4)×α)} {xs:G0 (G0 (G0 P4)×β)},kv.map (·.1)=xs.map (·.1)->(Yb kv T).map (·.1)=(Yb xs T).map (·.1)
 | [],[],_=>rfl
 |p::r,[],e=>by cases e
 | [],q::xs,e=>by cases e
 |p::r,q::xs,e=>by
  rw [S9,S9] at e;injection e with e1 e2
  have ih:=UY (T:=T) e2;unfold Yb at ih ⊢
  by_cases c:p.1=T
  ·rw [E6 (by rw [S6 c];exact D2),E6 (by rw [S6 (e1 ▸ c)];exact D2)];exact ih
  ·rw [E7 (by rw [S0 c];rfl),E7 (by rw [S0 (e1 ▸ c)];rfl),S9,S9,ih,e1]
theorem UZ {K:G3}{H:Hp}{T:G0 (G0 P4)}: ∀ {kv:G0 (G0 (G0 P4)×D)} {xs:KT2},kv.map (·.1)=xs.map (·.1)->Á K H (kv.map (·.2)) (xs.map (·.2.2))->Á K H ((Yb kv T).map (·.2)) ((Yb xs T).map (·.2.2))
 | [],[],_,_=>rfl
 |p::r,[],e,_=>by cases e
 | [],q::xs,e,_=>by cases e
 |p::r,q::xs,e,h=>by
  rw [S9,S9] at e;injection e with e1 e2
  obtain⟨v0,t,z',h1,h2⟩:=(show ∃v t,q.2.2::xs.map (·.2.2)=v::t/\É K H p.2 v/\Á K H (r.map (·.2)) t from h);injection z' with z1 z2
  subst z1 z2;have ih:=UZ (T:=T) e2 h2;unfold Yb at ih ⊢
  by_cases c:p.1=T
  ·rw [E6 (by rw [S6 c];exact D2),E6 (by rw [S6 (e1 ▸ c)];exact D2)];exact ih
  ·rw [E7 (by rw [S0 c];rfl),E7 (by rw [S0 (e1 ▸ c)];rfl)];exact⟨_,_,rfl,h1,ih⟩
def Hk {k : P0} {o i : S2} {td ty : TED} {pos pos' : Pos} (hr : Ð k X.A) (ho : JE X o td) (hi : JE X i ty) : JS X (.Delete [.Subscript o i pos'] pos) (Hj td ty) :=
  ⟨(LM (by have := hr.un; omega) ho.to hi.to).imp fun D σ H ⟨Ä, h, Dd, rs, rh, t, nx, _, _, _⟩ => LE.bind rs rh t fun d2 v2 h2 H2 k2 İ ð r2 t2 => LE.bind İ ð t2 fun d3 v3 h3 H3 k3 ũ đ r3 ⟨a, T, ep0, kv, e1, e2, e, mem, q⟩ => by
    subst e1 e2
    cases (show v2 = .ref a from r2)
    obtain ⟨b, us, ex, _⟩ := (show ∃ b vs, v3 = .ref b ∧ H3 b = zq (.tup vs) ∧ Á X.K H3 (T.map wU) vs from r3)
    subst ex
    obtain ⟨xs, hH, nd, ek, tv, rv⟩ := (show ∃ xs : KT2, _ from đ.dc a _ e)
    have ob : Υ (vG a ep0 xs) := .inr ⟨_, rfl⟩
    refine ⟨a, b, T, ep0, xs, rfl, rfl, hH, fun x hx => ZO (tv x hx), by rw [← ek]; exact nd, ZO r3, by rw [← ek]; exact mem, fun ý => nx Ä _ σ _ (k2.trans (k3.trans (.putD hH ob))) (ũ.mono (.putD hH ob)) (đ.putC (c := .tk ý (Yb kv T)) hH ob ?_) (q ý)⟩
    refine ⟨Yb xs T, jh, nd.sublist (G0.filter_sublist.map _), UY ek, fun x hx => (tv x (A4.mp hx).1).mono (.putD hH ob), (UZ ek rv).mono (.putD hH ob)⟩⟩
def Hl (t:TE):TT:=λσ H Q=>t σ H λx H1=> ∃a ep xs,x= .ref a/\H1 a=zq (vG a ep xs)/\Q (!xs.isEmpty) H1
def LP {e:S2}{t:TE}(h:PE X e t)(he: ∀whole,isTrue e X.env whole=(do let v <-whole;cZ e.pos;Z6 [v] (mP v)):=by intro _;rfl):PT X e (Hl t):=by
 intro À s σ H Q I hw;refine qC (Ø (h À s σ H _ I hw) λv s1 ⟨x,H1,I1,r1,a,ep,xs,ex,hH,q⟩=> ?_) (he _);subst ex;cases r1;obtain⟨lo,sl,es,ys,hd,pr,hes,hn⟩:=wX I1 hH;have sm:es.size<=xh:=by rw [hn];exact(I1.hok a _ hH).1.2.1
 refine Pg hd lo sm ⟨H1,I1.tok _,?_⟩;have e:(!es.isEmpty)= !xs.isEmpty:=by
  unfold xF;rw [hn];cases xs<;>rfl
 rw [e];exact q
def Hm (t:TED):TTD:=λσ h Q=>t σ h λx h1=> ∃a ep kv,x= .dct a/\h1.dc a=zq (.tk ep kv)/\Q (!kv.isEmpty) h1
def Ci {ta : TED} (ha : JE X a ta) (he : ∀ whole, isTrue a X.env whole = (do let v ← whole; cZ a.pos; Z6 [v] (mP v)) := by intro _; rfl) : JT X a (Hm ta) :=
  ⟨(LP ha.to he).imp fun σ H Q ⟨Ä, h, Qd, rs, rh, t, p⟩ => LE.bind rs rh t fun d v h1 H1 k1 Ý Î r1 ⟨a, ep, kv, e, hc, q⟩ => by
    subst e
    cases (show v = .ref a from r1)
    obtain ⟨xs, hH, nd, ek, tv, rv⟩ := (show ∃ xs : KT2, _ from Î.dc a _ hc)
    refine ⟨a, ep, xs, rfl, hH, ?_⟩
    have len : xs.length = kv.length := by have := xk K7 ek; rw [G6, G6] at this; omega
    have e : (!xs.isEmpty) = !kv.isEmpty := by cases xs <;> cases kv <;> first | rfl | (simp at len)
    rw [e]
    exact p _ h1 H1 k1 Î q⟩
end
def Kyi (a : G7) (ep n : P0) : It :=
  ⟨fun i H => ∃ xs x, H a = zq (vG a ep xs) ∧ xs.length = n ∧ xs[i]? = zq x,
   fun i H v H' => H' = H ∧ ∃ b, v = .ref b ∧ ∀ xs, H a = zq (vG a ep xs) → ∃ T u, xs[i]? = zq (T, b, u),
   fun i H => ∃ xs, H a = zq (vG a ep xs) ∧ xs.length = n ∧ n ≤ i⟩
variable {tg:S2}
def Mb {P:D5}{w:T8}{K:G3}(a it:G7)(ep n:P0):Ν P w K tg (Kyi a ep n) [it] it (λi h=>KIt h it a i n ep) where
 mem:=by simp
 obj:=λi h q b hb=>by rw [P2.mp hb];exact⟨_,q,λv z=>by cases z⟩
 keep:=λi h h' q k=>k it (by simp) _ q
 item:=by
  intro X hP hw hK hc i À s σ H E I hf hit hg;subst hP hw hK;obtain⟨xs,x,hH,hl,hx⟩:=hg;obtain⟨_,sl,es,ys,hd,pr,he,hn⟩:=wX I hH;have ty:s.TypeIs (.ref it) "dict_keyiterator" :=⟨_,hit,rfl⟩;obtain⟨f0,f1,f2,f3,f4,f5⟩:=hf it (by simp);have il:i<ys.length:=by rw [<- (jT pr).2.1];exact(P8.mp hx).1
  have hy:ys[i]? =zq ys[i]:=G5 il;obtain⟨p1,p2,p3⟩:=yi pr hx hy;have ee:es[i]? =zq ⟨Wo ys[i].1,.ref ys[i].2.1,ys[i].2.2⟩:=by rw [<-C4,he,D1,hy];rfl
  unfold mQ;refine xg (Y5 (O1 (name:=P6 "__next__") ty O3 (F8 O3 ty X2 (Ju hit hd (hn.trans hl) (λe h' ğ it2 same=>⟨_,rfl,G8 ⟨_,rfl,?_⟩⟩) λz=>by rw [ee] at z;cases z) (W4 _))));rw [ee] at ğ;injection ğ with ğ
  subst ğ;have I1:Inv X À σ H {s with heap:=h'}:=I.turned (t':=s.toks) (λb o hb e=>same.extBut b o hb e) f0 f1 f3 f4 f5;refine MN (s:= {s with heap:=h'}) it2 rfl rfl (by decide) ⟨.ref x.2.1,H,I1,by rw [p2];rfl,⟨rfl,x.2.1,rfl,λĺ h2=> ?_⟩,it2,λb hb=>(hf b hb).1⟩;obtain⟨T,hT⟩:=RQ I hH h2 hx;exact⟨T,_,hT⟩
 done:=by
  intro X hP hw hK hc i À s σ H E I hf hit hg;subst hP hw hK;obtain⟨xs,hH,hl,hi⟩:=hg;obtain⟨_,sl,es,ys,hd,pr,he,hn⟩:=wX I hH;have ty:s.TypeIs (.ref it) "dict_keyiterator" :=⟨_,hit,rfl⟩;unfold mQ;refine xg (Y5 (O1 (name:=P6 "__next__") ty O3 (F8 O3 ty X2 (Ju hit hd (hn.trans hl) (λe h' ğ _ _=>by have:=(cE.mp ğ).1;omega) λ_=>xg (oO hit rfl (by simp) (vW (s:= {s with heap:=_}) (I.ok.hd hc) λh' e grown stop=> ?_))) (W4 _))));obtain⟨o,eo,co⟩:=stop;refine xg (cM (T:= "StopIteration") (b:=xb) ⟨o,eo,co⟩ oP ?_);have kp: ∀b o,b ∉ [it]->s.heap.get? b=zq o->h'.get? b=zq o:=λb o hb q=>grown b o ((J5 _ _ (λz=>hb (by simp [z]))).trans q)
  have I2:Inv X À σ H {s with heap:=h'}:=I.turnL (t':=s.toks) (ch:= [it]) kp hf;exact G8 ⟨rfl,I2⟩
 self:=λ_ _ _ _ _ q h=>oR ⟨_,q,rfl,rfl⟩ h
def uf (td:TE):TI:=λσ H R=>td σ H λx H1=> ∃a ep xs,x= .ref a/\H1 a=zq (vG a ep xs)/\R (Kyi a ep xs.length) H1
def LQ {X:Cx}{o:S2}{td:TE}(ho:PE X o td):PI X tg o (uf td):=by
 intro À s σ H R I h;refine Ø (ho À s σ H _ I h) λv s1 ⟨x,H1,I1,r1,a,ep,xs,ex,hH,q⟩=> ?_
 subst ex;cases r1;obtain⟨lo,sl,es,ys,hd,pr,he,hn⟩:=wX I1 hH;refine YR hd lo ?_;rw [hn];refine⟨_,[s1.heap.objs.size],_,_,H1,rfl,I1.kept (t':=s1.toks) (λb u e=>G9 _ e),Mb a _ ep xs.length,S7 _ rfl,λb hb=> ?_,q⟩;rw [P2.mp hb];exact I1.fpOk (P7 _) (I1.hok.fresh (P7 _))
def Xa (a:G7)(ep n:P0):ItD:=λh=>match h.dc a with
 |some (.tk e kv)=>if e=ep/\kv.length=n then zq (kv.map λp=>ju p.1) else xa
 |_=>xa
def VC {h:HD}{a:G7}{ep:P0}{kv:G0 (G0 (G0 P4)×D)}(e:h.dc a=zq (.tk ep kv)):Xa a ep kv.length h=zq (kv.map λp=>ju p.1):=by
 unfold Xa;rw [e];exact S5 ⟨rfl,rfl⟩
def Bo {h:HD}{a:G7}{ep n:P0}{ds:G0 D}(e:Xa a ep n h=zq ds): ∃kv,h.dc a=zq (.tk ep kv)/\kv.length=n/\ds=kv.map λp=>ju p.1:=by
 unfold Xa at e;split at e
 ·rename_i e' kv q
  by_cases c:e'=ep/\kv.length=n
  ·rw [S5 c] at e;exact⟨kv,by rw [q,c.1],c.2,(C9 e).symm⟩
  ·rw [R9 c] at e;cases e
 ·cases e
def Mc {K:G3}{H:Hp}(a:G7)(ep n:P0):BQ K H (Xa a ep n) (Kyi a ep n):=λH' h' _ rh ds e i=>by
 obtain⟨kv,hc,hl,rfl⟩:=Bo e;obtain⟨xs,hH,nd,ek,tv,rv⟩:=(show ∃xs:KT2,_ from rh.dc a _ hc);have len:xs.length=n:=by have:=xk K7 ek;rw [G6,G6] at this;omega
 refine⟨λd hd=> ?_,λhi=>⟨xs,hH,len,by rw [G6] at hi;omega⟩⟩;rw [D1] at hd;obtain⟨p,hp,rfl⟩:=L0.mp hd;have il:i<xs.length:=by have:=(P8.mp hp).1;omega
 have hx:xs[i]? =zq xs[i]:=G5 il;refine⟨⟨xs,xs[i],hH,len,hx⟩,λx ķ ⟨eH,b,ex,all⟩=> ?_⟩;subst ex eH;obtain⟨T,u,hT⟩:=all xs hH;have e1:T=p.1:=by
  have:=xk (λl=>l[i]?) ek;simp only [D1,hp,hT,bL] at this;exact(C9 this).symm
 subst e1;exact⟨.refl _,rh,tv _ (P5 hT)⟩
def iKy (td:TED):TID:=λσ h R=>td σ h λx h1=> ∃a ep kv,x= .dct a/\h1.dc a=zq (.tk ep kv)/\R (Xa a ep kv.length) h1
noncomputable def Qh {X : Cx} {o : S2} {td : TED} (ho : JE X o td) : JI X tg o (iKy td) :=
  ⟨(LQ ho.to).imp fun σ H R ⟨Ä, h, Rd, rs, rh, q, p⟩ => LE.bind rs rh q fun d v h1 H1 k1 Ý Î r1 ⟨a, ep, kv, e, hc, q1⟩ => by
    subst e
    cases (show v = .ref a from r1)
    obtain ⟨xs, hH, nd, ek, tv, rv⟩ := (show ∃ xs : KT2, _ from Î.dc a _ hc)
    have len : xs.length = kv.length := by have := xk K7 ek; rw [G6, G6] at this; omega
    exact ⟨a, ep, xs, rfl, hH, by rw [len]; exact p _ _ _ _ k1 Î (Mc a ep kv.length) q1⟩⟩
def Hn (P:D5)(w:T8)(xs:KT2)(o:Obj):Prop:=xs.length<1000/\(xs.map (·.1)).Nodup/\ ∃es ep,∃ys:G0 (G0 (G0 P4)×G7×G1),o.ExactDict/\o.data= .dict es ep/\Paired yR xs ys/\es.toList=ys.map (IV (MF P w))
def hoD (xs:KT2)(o:Obj)(p:G7):HO:=match o.data with
 | .dict _ ep=>vG p ep xs
 |_=> .own 0
def Qi (kx vx:S2)(env:Env)(acc:G1):Sem Unit:=do
 let kv <-L7 kx env
 let vv <-Z6 [kv] (L7 vx env)
 match acc with
 | .ref d=>do
  cZ {kx.pos with endLine:=vx.pos.endLine,endCol:=vx.pos.endCol}
  Z6 [kv,vv] (dictSet d kv vv)
 |_=>unsupported "internal:dictcomp"
def LU (tk tv:TE):TMG KT2:=λσ H xs Q=>tk σ H λy H1=>tv σ H1 λv H2=> ∃b T,y= .ref b/\Xx H2 T b/\(∀x∈xs,Xx H2 x.1 x.2.1)/\T ∉ xs.map (·.1)/\xs.length<999/\Q (xs++ [(T,b,v)]) H2
def Md {X:Cx}{k:P0}{D:G7}{kx vx:S2}{tk tv:TE}(hr:Ð k X.A)(hx:X.xe=λ_ _=>False)(hk:PE X kx tk)(hv:PE X vx tv):Ag X (λ_=>True) (Hn X.prog X.w) D (Qi kx vx X.env (.ref D)) (LU tk tv):=by
 rintro À s σ H xs o Q I _ ⟨few,nd,es,ep,ys,ox,od,pr,he⟩ DX cD pD h;have q:=hk _ s σ H _ I h;rw [hx] at q;unfold Qi;refine xg (R7 q (λy s1 ⟨yv,H1,I1,r1,q1⟩=> ?_) λ_ _ z=>z);have q:=hv _ s1 σ H1 _ I1 q1;rw [hx] at q;refine xg (O8 (R7 q (λv s2 ⟨vv,H2,I2,r2,b,T,e,hT,hks,no,lf,q2⟩=> ?_) λ_ _ z=>z));subst e;cases r1;have zD:=I2.pin (D,o) (D3 _ (O0 _ R1));have X1g:Inv X À σ H2 s2:=I2.pins_of λp hp=>I2.pin p (D3 _ (D3 _ hp))
 obtain⟨k1,k2,k3⟩:=jT pr;have dd:s2.heap.DictOfH (MF X.prog X.w) D ys:=⟨o,es,ep,zD.1,ox,od,he,λy hy=>by
  obtain⟨x,hx,e1,e2⟩:=k3 y hy;have:=Js I2 x.1 x.2.1 (hks x hx);rw [e1,e2] at this;exact this,by rw [<-k1];exact nd⟩
 have none_:dY ys T=xa:=by
  unfold dY;rw [fM,dP];intro y hy z;exact no (by rw [k1];exact N5.mpr ⟨y,hy,E9 z⟩)
 refine xg (U1 (O8 (wpAny_dictSet_heap (knd:=MF X.prog X.w) (hsz:=by rw [<-k2];exact M1 (T6 few) (by decide)) (by have:=hr.un;show X.A.units+8<cLine;omega) (Js I2 T b hT) dd λh' dd' sb=> ?_)));rw [IR none_] at dd';obtain⟨o',Ŏ,ý,e',x',d',l',_,_⟩:=dd';have I11:Inv X À σ H2 {s2 with heap:=h',toks:=s2.toks+(MF X.prog X.w).draws T}:=X1g.turned (it:=D) (λb o hb e=>sb.extBut b o hb e) zD.2.1 zD.2.2.1 (.inl DX) cD pD;refine⟨xs++ [(T,b,vv)],o',H2,⟨by rw [P3];exact r9 lf,?_,Ŏ,ý,_,x',d',pr.snoc ⟨rfl,rfl,r2⟩,l'⟩,I11.pins_of λp hp=> ?_,q2⟩
 ·rw [T9];refine aN.mpr ⟨nd,by simp,λx hx y hy z=> ?_⟩;rw [P2.mp hy] at z;have z:x=T:=z;exact no (z ▸ hx)
 ·rcases D9.mp hp with z|z
  ·rcases P2.mp z with rfl
   exact⟨e',zD.2.1,zD.2.2.1,zD.2.2.2.1,λv z=>by rw [d'] at z;cases z⟩
  ·exact I11.pin p (D3 _ z)
def Me {P:D5}{w:T8}{kx vx iter:S2}{ifs:G0 S2}{rest:G0 Y4}{scope:A2}{pos:Pos}:X0w P w (.DictComp kx vx (⟨tg,iter,ifs,0⟩::rest) scope pos) ⟨tg,iter,ifs,0⟩ rest G0v {cls:= .type "dict",data:= .dict #[]} where
 cl:=rfl
 quiet:=λ_ _ _=>rfl
 den:=λ_ _ _=>rfl
 under:=λ_ _ _ _=>rfl
 start:=λ{A R s it acc env} h0 h=>dB (pG (by
  unfold compStart;show D6 (R3 P w) A (ask >>= _) _ _ s;exact xg (mH (wpAny_ite (Ul (λ_=>xg (G8 (G8 ⟨rfl,h0⟩))) λ_=>xg (dH (xg (U1 (xg (R7 h (λ_ _ q=>G8 ⟨rfl,q⟩) λ_ _ q=>q))))))))))
 live:=rfl
 made:=λ{A Q E s} q=>by
  unfold G0v;exact Q8 q
def dDC (bind:D->SD->SD->Prop)(js:G0 P0)(ti:TID)(tt:TTD)(tk tv:TED):TED:=λσ h Q=>ti σ h λj h1=> ∃ (n:P0) (W:P0->G0 (G0 (G0 P4)×D)->HD->Prop),W 0 [] h1/\ ∀i kv h',W i kv h'->kv.length<999/\(kv.map (·.1)).Nodup/\
 ∃ds,j h'=zq ds/\ds.length<=n/\(ds.length<=i-> ∀a ep,h'.dc a=xa->Q (.dct a) (MD h' a (.tk ep kv)))/\
  ∀d,ds[i]? =zq d-> ∃Ü,bind d (zg js σ) Ü/\tt Ü h' λb h3=>if b=xb then tk Ü h3 λy h4=>tv Ü h4 λv h5=> ∃T h6,y=ju T/\T ∉ kv.map (·.1)/\Sub h6 h5/\W (i+1) (kv++ [(T,v)]) h6 else ∃h5,Sub h5 h3/\W (i+1) kv h5
end L2
namespace HT
open PySem PyProof.Rows
section
variable {prog:D5}{w:T8}{A:S4}{E:G1->G2->Prop}{s:G2}{d:G7}{es:T7 W1}{ep:P0}{sl:T7 (P1 G1)}
abbrev DOb (es:T7 W1)(ep:P0)(sl:T7 (P1 G1)):Obj:= {cls:= .type "dict",dict:=xa,data:= .dict es ep,slots:=sl}
def Mf (hh:A.handled=xa)(I:G7)(ne:d≠I):Walks prog w A I [I,d] [I] es.size (λi v=> ∃e,es[i]? =zq e/\v=e.key) (λi h=>KIt h I d i es.size ep/\h.get? d=zq (DOb es ep sl)) where
 sub:=λb hb=>by simp at hb;simp [hb]
 frame:=λ_ _ _ st hk=>⟨hk I (by simp) _ st.1,hk d (by simp) _ st.2⟩
 item:=λi s Q E hi st hQ=>by
  have ty:s.TypeIs (.ref I) "dict_keyiterator" :=⟨_,st.1,rfl⟩;unfold mQ;refine xg (Y5 (O1 (name:=P6 "__next__") ty O3 (F8 O3 ty X2 (Ju st.1 st.2 rfl (λe h' he it2 same=>⟨_,rfl,G8 ?_⟩) λz=>by have:=cF.mp z;omega) (W4 _))));exact hQ e.key h' s.toks ⟨e,he,rfl⟩ ⟨it2,same.extBut _ _ ne st.2⟩ λb o hb e=>same.extBut b o (λz=>hb (by simp [z])) e
 done:=λs Q E st hQ=>by
  have ty:s.TypeIs (.ref I) "dict_keyiterator" :=⟨_,st.1,rfl⟩;unfold mQ;refine xg (Y5 (O1 (name:=P6 "__next__") ty O3 (F8 O3 ty X2 (Ju st.1 st.2 rfl (λe h' he _ _=>by have:=(cE.mp he).1;omega) λ_=>xg (oO st.1 rfl (by simp) (L2.vW (s:= {s with heap:=_}) hh λh' e grown stop=> ?_))) (W4 _))));obtain⟨o,eo,co⟩:=stop;refine xg (cM (T:= "StopIteration") (b:=xb) ⟨o,eo,co⟩ oP ?_);exact G8 (hQ h' s.toks λb o hb e=>grown b o ((J5 _ _ (λz=>hb (by simp [z]))).trans e))
 self:=λ_ _ _ _ st h=>oR ⟨_,st.1,rfl,rfl⟩ h
def Gt (lo:(d==J4)=xf):G0X prog w "dict" d d es.size (λi v=> ∃e,es[i]? =zq e/\v=e.key) (λh=>h.get? d=zq (DOb es ep sl)) where
 type:=λ_ hm=>⟨_,hm,rfl⟩
 there:=λ_ hm=>⟨D7 hm,D7 hm⟩
 keep:=λ_ _ hm hk=>hk d (.inl rfl) _ hm
 notList:=by decide
 notTuple:=by decide
 hint:=λ_ _ _ _ hm hq=>x5 ⟨_,hm,rfl⟩ hq
 iter:=λ_ s hh hm=>⟨_,_,(λ_ _ hq=>YR hm lo hq),Mf hh _ (M6 (D7 hm)),⟨S7 _ rfl,G9 _ hm⟩⟩
def Gu {acc:T7 G1}(it:ItemsOf (λi v=> ∃e,es[i]? =zq e/\v=e.key) acc es.size):acc.toList=es.toList.map (·.key):=by
 refine fJ λi=> ?_
 rw [C4,D1,C4];cases e:acc[i]? with
 |some v=>
  obtain⟨x,hx,rfl⟩:=it.2 i v e;rw [hx];rfl
 |none=>
  have:es.size<=i:=by rw [<-it.1];exact cF.mp e
  rw [cF.mpr this];rfl
def Mg (s:G2)(es:T7 W1)(r:nZ)(s':G2):Prop:= ∃h' tk acc c,r= .ok (.ret (.ref s.heap.objs.size))/\s'= {s with heap:=h',toks:=tk}/\(∀b o,s.heap.get? b=zq o->h'.get? b=zq o)/\h'.get? s.heap.objs.size=zq {cls:= .type "list",dict:=xa,data:= .seq acc c,slots:= #[]}/\acc.toList=es.toList.map (·.key)
def Yi {R:G0 G1->G2->Prop}(calm:A.handled=xa)(lo:(d==J4)=xf)(sm:es.size<=xh)(hd:s.heap.get? d=zq (DOb es ep sl))
 (q: ∀ (h':N8) (tk:P0),(∀b o,s.heap.get? b=zq o->h'.get? b=zq o)->R (es.toList.map (·.key)) {s with heap:=h',toks:=tk}):D6 (R3 prog w) A (collect (.ref d)) R E s:=by
 have dl:=D7 hd;unfold collect;refine xg (uL (aG (R:=Mg s es) (bK F.entry_proto_collect ?_) λr s' x=> ?_))
 ·wp_walk
  refine⟨pK rM _,bK F.entry_list_iadd ?_⟩;rw [cB rM];have hS:(s.heap.push {cls:= .type "list",data:= .seq #[]}).get? s.heap.objs.size=zq {cls:= .type "list",data:= .seq #[]}:=S7 _ rfl;show D6 _ A.in1 (tU (.ref s.heap.objs.size) (.ref d) (.ref s.heap.objs.size)) _ _ _;refine G0i (R:=Mg s es) (s:= {s with heap:=s.heap.push {cls:= .type "list",data:= .seq #[]}}) (Gt (es:=es) (ep:=ep) (sl:=sl) lo) calm (G9 _ hd) _ (K4 dl) (K4 dl) _ 0 hS (λh' tk acc c k lies items=> ?_) sm;exact⟨h',tk,acc,c,rfl,rfl,λb o e=>k b o (M6 (D7 e)) (G9 _ e),lies,Gu items⟩
 ·obtain⟨h',tk,acc,c,rfl,rfl,k,lies,e⟩:=x;refine xg (tX lies (G8 ?_));rw [e];exact q h' tk k
end
end HT
namespace L2
open PySem PySem.Spec PyProof.Rows HT PySem.SeqAt
def Gv {X:Cx}{À:G0 (G7×Obj)}{σ:St}{H:Hp}{s:G2}{a:G7}{ep:P0}{xs:KT2}(I:Inv X À σ H s)(hH:H a=zq (vG a ep xs)):(a==J4)=xf/\ ∃ (sl:T7 (P1 G1)) (es:T7 W1),s.heap.get? a=zq (DOb es ep sl)/\es.toList.map (·.key)=xs.map (λx=>N7 x.2.1)/\es.size=xs.length:=by
 obtain⟨lo,sl,es,ys,hd,pr,he,hn⟩:=wX I hH;refine⟨lo,sl,es,hd,?_,hn⟩;rw [he,M9];have go: ∀ {xs:KT2} {ys:G0 (G0 (G0 P4)×G7×G1)},Paired yR xs ys->ys.map ((·.key)∘λx:G0 (G0 P4)×G7×G1=>(⟨Wo x.1,.ref x.2.1,x.2.2⟩:W1))=xs.map (λx=>N7 x.2.1):=λp=>by
  induction p with
  |nil=>rfl
  |cons r _ ih=>rw [S9,S9,ih,r.2.1];rfl
 exact go pr
def VD {X:Cx}{k:P0}(hc:X.calm=xb)(hr:Ð k X.A):ê X (.builtin "sorted") (λxs H Q=> ∃ (a:G7) (ep:P0) (ks:KT2),xs= [.ref a]/\H a=zq (vG a ep ks)/\(∀x∈ks,Xx H x.1 x.2.1/\x.1≠ [])/\(ks.map (·.1)).Nodup/\ks.length<1000/\
 ∀ (q:G7) (qs:G0 NU),H q=xa->qs.Perm (ks.map λx=>(x.2.1,x.1))->(qs.map (·.2)).Pairwise (λx y=>we x y=xb)->Q (.ref q) (upd H q (.lst (qs.map λp=>V.ref p.1)))):=by
 intro À s σ H xs us Q I r h;obtain⟨a,ep,ks,rfl,hH,ht,nd,few,q⟩:=h;obtain⟨u,rfl,ru⟩:=Wb r;cases ru;have hu:X.A.in1.in1.units+16<cLine:=by
  have:=hr.un;show X.A.units+1+1+16<cLine;omega
 obtain⟨lo,sl,es,hd,ek,en⟩:=Gv I hH;have sm:es.size<=xh:=by rw [en];exact M1 (T6 few) (by decide)
 refine Calls.call_function_entry kind_sorted plain_sorted entry_sorted (args_sorted1 _) (xg (G8 (xg (Yi (I.ok.hd hc) lo sm hd λh1 tk kept=> ?_))));rw [ek];have em:ks.map (λx=>N7 x.2.1)=(ks.map λx=>((x.2.1,x.1):NU)).map λp=>N7 p.1:=by rw [M9];rfl
 rw [em];have IB1: ∀p∈ks.map λx=>((x.2.1,x.1):NU),IB X.prog X.w s.heap (.ref p.1) p.2:=λp hp=>by
  obtain⟨x,hx,rfl⟩:=N5.mp hp;exact⟨_,rfl,Js I _ _ (ht x hx).1,(ht x hx).2⟩
 have lz:((ks.map λx=>((x.2.1,x.1):NU)).map λp=>N7 p.1).length<=xh:=by rw [G6,G6];omega
 have nd2:((ks.map λx=>((x.2.1,x.1):NU)).map (·.2)).Nodup:=by rw [M9];exact nd
 revert IB1 lz q nd2;generalize (ks.map λx=>((x.2.1,x.1):NU))=ps;intro q IB1 lz nd2;have fresh:(h1.push (oJ "list" (ps.map λp=>N7 p.1).toArray 0)).get? h1.objs.size=zq (oJ "list" (ps.map λp=>N7 p.1).toArray 0):=S7 _ rfl;have kp: ∀h',Oo {s with heap:=h1.push (oJ "list" (ps.map λp=>N7 p.1).toArray 0),toks:=tk} h1.objs.size h'->NP h1 h':=λh' p b x e=>p b x (M6 (D7 e)) (G9 _ e)
 have ks': ∀h',Oo {s with heap:=h1.push (oJ "list" (ps.map λp=>N7 p.1).toArray 0),toks:=tk} h1.objs.size h'->NP s.heap h':=λh' p b x e=>kp h' p b x (kept b x e)
 have it: ∀v∈ps.map λp=>N7 p.1,∃T,IB X.prog X.w s.heap v T:=λv hv=>by
  obtain⟨p,hp,rfl⟩:=N5.mp hv;exact⟨_,IB1 p hp⟩
 refine xg (v9 (xg (O8 (F8 slot_list_sort ⟨_,fresh,rfl⟩ entry_list_sort (NO (s:= {s with heap:=h1.push (oJ "list" (ps.map λp=>N7 p.1).toArray 0),toks:=tk}) (κ:=G0u xf) (U:=λx=> ∃T,IB X.prog X.w s.heap x.1 T) (R:=λx y=>we (UW X.prog X.w s.heap x.1) (UW X.prog X.w s.heap y.1)) fresh lz
  (λh2 h' p=>Bj (s:= {s with heap:=h',toks:=tk}) h2 (λv hv=>(it v hv).imp λT z=>z.keeps (ks' h' p)) ⟨rfl,tk,rfl⟩) (λh' p=>Bk hu (ks' h' p)) (LL _) it λout c tk' h' p e1 e2 e3=>⟨_,rfl,?_⟩) (args_list_sort _)))) lz)
 obtain⟨zs,pz,rfl⟩:=UN e2;have inz: ∀z∈zs,z∈ps:=λz hz=>pz.mem_iff.mp hz
 have I1:Inv X À σ H {s with heap:=h1}:=I.kept (t':=s.toks) kept;have vv: ∀l:G0 NU,Æ (l.map λp=>V.ref p.1) (l.map λp=>N7 p.1):=λl=>by
  induction l with
  |nil=>exact .nil
  |cons z l ih=>exact .cons rfl ih
 refine G8 ⟨_,rfl,.ref _,_,I1.laid (t':=tk') (o:= .lst (zs.map λp=>V.ref p.1)) (kp h' p) (P7 _) ⟨?_,_,c,vv zs,e1⟩,rfl,q _ zs (I1.hok.fresh (P7 _)) pz ?_⟩
 ·rw [G6] at lz ⊢;rw [pz.length_eq];exact lz
 ·have nd3:(zs.map (·.2)).Nodup:=(pz.map (·.2)).nodup_iff.mpr nd2;unfold List.Nodup at nd3;rw [lQ,lQ] at e3;rw [lQ] at nd3 ⊢;refine(e3.and nd3).imp_of_mem λ{y z} hy hz ⟨e,ne⟩=> ?_
  dsimp only at e;rw [(IB1 y (inz y hy)).told,(IB1 z (inz z hz)).told] at e;rcases Vr y.2 z.2 with w|w|w
  ·exact xj w ne
  ·exact w
  ·rw [w] at e;cases e
def Bp:RDn:=λds h Q=> ∃ (a:G7) (ep:P0) (kv:G0 (G0 (G0 P4)×D)),ds= [.dct a]/\h.dc a=zq (.tk ep kv)/\kv.length<1000/\(∀p∈kv,p.1≠ [])/\ ∀ (q:G7) (ks:G0 (G0 (G0 P4))),h q=xa->ks.Perm (kv.map (·.1))->ks.Pairwise (λx y=>we x y=xb)->Q (.lst q) (wd h q (ks.map ju))
def Qj {X:Cx}{k:P0}(hc:X.calm=xb)(hr:Ð k X.A):vP X (.builtin "sorted") Bp:=(VD hc hr).imp λxs H Q ⟨ds,h,Qd,r,rh,⟨a,ep,kv,e,hd,few,ne,q⟩,p⟩=>by
 subst e;obtain⟨v,e,r1⟩:=jS r;cases (show v= .ref a from r1);subst e;obtain⟨ks,hH,nd,ek,tv,rv⟩:=(show ∃xs:KT2,_ from rh.dc a _ hd);have len:ks.length=kv.length:=by have:=xk K7 ek;rw [G6,G6] at this;omega
 refine⟨a,ep,ks,rfl,hH,λx hx=>⟨tab_of (tv x hx),?_⟩,by rw [<-ek];exact nd,by omega,λc qs π pm srt=> ?_⟩
 ·have hm:x.1∈kv.map (·.1):=by rw [ek];exact iD (f:=(·.1)) hx
  obtain⟨p,hp,e⟩:=N5.mp hm;rw [<-e];exact ne p hp
 ·have rq: ∀x∈qs,É X.K H (ju x.2) (.ref x.1):=λx hx=>by
   obtain⟨y,hy,rfl⟩:=N5.mp (pm.mem_iff.mp hx);exact tv y hy
  refine p (.lst c) _ _ _ (.new π) (rh.newL π (Qg rq)) ⟨rfl,_,jh⟩ (q c (qs.map (·.2)) (rh.free π) ?_ srt);rw [ek];have:=pm.map (·.2)
  rwa [M9] at this
end L2
namespace L2
open PySem PySem.Spec PyProof.Rows HT
variable {X:Cx}
def Ho {i:P0}{js:G0 P0}{ti:TID}{tt:TTD}{tk tv:TED}(hj:i∈js): ∀σ H Q,LE X.K (dDC (bN i) js ti tt tk tv) σ H Q->tCG (λ_=>True) (Hn X.prog X.w) hoD [] js (LI X.K ti) (wR i) (LT X.K tt) (LU (LE X.K tk) (LE X.K tv)) σ H Q:=
 λσ H Q ⟨Ä,h,Qd,rs,rh,q,post⟩=>by
  refine⟨Ä,h,_,rs,rh,q,λj J h1 H1 k1 Î jo ⟨n,W,w0,turn⟩=> ?_⟩;refine⟨λi m xs H'=>m=n-i/\Kept H1 H'/\ ∃h' kv,kv.map (·.1)=xs.map (·.1)/\Á X.K H' (kv.map (·.2)) (xs.map (·.2.2))/\(∀x∈xs,É X.K H' (ju x.1) (.ref x.2.1))/\Å X.K h' H'/\W i kv h',⟨n-0,rfl,.refl _,h1,[],rfl,rfl,(λy hy=>nomatch hy),Î,w0⟩,?_⟩;rintro i m xs H' ⟨rfl,kp,h',kv,ek,rv,ry,ì,w⟩;obtain⟨hz,nd,ds,ej,hn,stop,go⟩:=turn i _ h' w;have len:kv.length=xs.length:=by have:=xk K7 ek;rwa [G6,G6] at this
  have jo':=jo H' h' kp ì ds ej i;have kk:Kept H H':=k1.trans kp;refine⟨trivial,?_⟩
  by_cases hi:i<ds.length
  ·obtain⟨g1,y1⟩:=jo'.1 ds[i] (G5 hi);refine .inr ⟨g1,λx ķ y=> ?_⟩;obtain⟨k2,ð,r2⟩:=y1 x ķ y;obtain⟨ñ,bd,q2⟩:=go ds[i] (G5 hi);refine Fu hj σ Ä ñ ķ ds[i] x _ (((rs.mono (kk.trans k2))).clear js) r2 bd λÜ ag İ=>⟨ag,?_⟩
   refine LT.bind İ ð q2 λb h3 H3 k3 ũ đ q3=> ?_
   cases b with
   |true=>
    rw [S5 rfl] at q3 ⊢;refine LE.bind ũ đ q3 λd4 v4 h4 H4 k4 Ť ľ r4 q4=>LE.bind Ť ľ q4 λd5 v5 h5 H5 k5 rs5 rh5 r5 ⟨T,h6,ed,no,sb,w5⟩=> ?_
    subst ed;obtain⟨b,vs,eb,_⟩:=(show ∃a vs,v4= .ref a/\H4 a=zq (.tup vs)/\_ from r4);subst eb;have kA:=k2.trans (k3.trans (k4.trans k5));have ry5: ∀x∈xs,É X.K H5 (ju x.1) (.ref x.2.1):=λy hy=>(ry y hy).mono kA
    refine⟨b,T,rfl,tab_of (r4.mono k5),λy hy=>tab_of (ry5 y hy),by rw [<-ek];exact no,by omega,n-(i+1),by omega,rfl,kp.trans kA,h6,kv++ [(T,d5)],by rw [T9,T9,ek];rfl,?_,λy hy=> ?_,rh5.sub sb,w5⟩
    ·rw [T9,T9];exact Ze (rv.mono kA) r5
    ·rcases D9.mp hy with z|z
     ·exact ry5 y z
     ·rw [P2.mp z];exact r4.mono k5
   |false=>
    rw [R9 D2] at q3 ⊢;obtain⟨h5,sb,w5⟩:=q3;exact⟨n-(i+1),by omega,rfl,kp.trans (k2.trans k3),h5,kv,ek,rv.mono (k2.trans k3),λy hy=>(ry y hy).mono (k2.trans k3),đ.sub sb,w5⟩
  ·refine .inl ⟨jo'.2 (bG.mp hi),λp o ς acc=> ?_⟩;obtain⟨few,nd2,es,ep,ys,ox,od,pr,he⟩:=acc;have eh:hoD xs o p=vG p ep xs:=by unfold hoD;rw [od]
   rw [eh];have kn:Kept H' (upd H' p (vG p ep xs)):= .new ς;exact post (.dct p) (.ref p) _ _ (kk.trans kn) (ì.newC (c:= .tk ep kv) ς ⟨xs,jh,nd,ek,λx hx=>(ry x hx).mono kn,rv.mono kn⟩) rfl (stop (bG.mp hi) p ep (ì.freeC ς))
def Bq {k:P0}{kx vx iter tg:S2}{ifs:G0 S2}{scope:A2}{pos pos' ø:Pos}{x:Str}{js:G0 P0}{wi:TI}{g g':TG}{tt:TT}{tk tv:TE}(hr:Ð k X.A)(hc:X.calm=xb)(S:Ñ X scope js)(hi:PI X tg iter wi)
 (hg: ∀X',jj X scope X'->PG X' tg g)(ht: ∀X',jj X scope X'->ģ X' ifs tt)(hk: ∀X',jj X scope X'->PE X' kx tk)(hv: ∀X',jj X scope X'->PE X' vx tv)
 (hg':PG X (.Name x pos') g')(hsw:U0 (.DictComp kx vx [⟨tg,iter,ifs,0⟩] scope pos) (zq (.Name x pos')) ø.line X.env=pure xb)
 (hs: ∀x,T5 iter X.env x=pure x:=by intro _;rfl):PS X (.Assign [.Name x pos'] (.DictComp kx vx [⟨tg,iter,ifs,0⟩] scope pos) ø) (ML (tCG (λ_=>True) (Hn X.prog X.w) hoD [] js wi g tt (LU tk tv)) g'):=by
 intro À s σ H Dn I h;rw [nK _ _ _ _ hsw];refine xg (U1 (xg ?_));show D6 _ X.A (do let _ <-lV (.DictComp kx vx [⟨tg,iter,ifs,0⟩] scope pos) scope X.env _ G0v xf (L7 iter X.env) (zq (dF (.Name x pos') X.env))) _ _ s;refine xg (R7 (BO (ho:=hoD) (use:=zq (dF (.Name x pos') X.env)) (Qv:=λ_ s'=>SP X À Dn .next s') hc S hi Me ⟨by decide,j6,#[],0,[],⟨rfl,rfl,rfl⟩,rfl,.nil,rfl⟩ (λa o ⟨_,_,_,_,_,_,e,_⟩ v z=>by rw [e] at z;cases z) (λ{a o H h p} lo _ ⟨few,nd,es,ep,ys,ox,od,pr,he⟩ e=>by
  unfold hoD;rw [od];exact⟨⟨lo,M1 (T6 few) (by decide),ys,pr,o,es,e,ox,od,he⟩,⟨_,e⟩,λh1 h2 ⟨a1,a2,Ċ,pr',o',Ŏ,ho,ex,hd,he⟩ ke=>⟨a1,a2,Ċ,pr',o',Ŏ,ke o' ho,ex,hd,he⟩⟩) hg ht (Qi kx vx) (λ_ _ _=>rfl) (λX' hX D=>by
   obtain⟨C,s₀,H₀,ex,e⟩:=hX;have z:=hk X' ⟨C,s₀,H₀,ex,e⟩;have z2:=hv X' ⟨C,s₀,H₀,ex,e⟩;subst e;exact Md (X:=yN X scope C s₀ H₀ ex) hr rfl z z2) hs I h ?_) (λ_ s' hq=>G8 (G8 hq)) λ_ _ e=>e)
 intro D C H' s' m hn hk HC nL nf sz X0x X1k q;show D6 _ X.A (dF (.Name x pos') X.env (.ref D)) _ _ s';obtain⟨o,es,ep,ho,hd,hr⟩:=id hn;have I1:Inv X À σ H' s':=hk s'.heap (Heap.SameBut.refl ..);have I2:Inv X (À++ [(C,o)]) σ H' s':=I1.pins_of λp hp=>by
  rcases D9.mp hp with z|z
  ·exact I1.pin p (D3 _ z)
  ·rcases P2.mp z with rfl
   exact⟨ho,HC,nL,nf,λv z=>by rw [hd] at z;cases z⟩
 refine R7 (hg' _ s' σ H' (.ref D) (.ref D) _ I2 rfl q) (λ_ s3 ⟨þ,H3,I3,q3⟩=> ?_) λ_ _ z=>z
 have pC:=I3.pin (C,o) (D3 _ (D3 _ R1));refine⟨m,hn.at' λo' e'=> ?_,λh' hs'=> ?_⟩
 ·rw [ho] at e';cases e';exact pC.1
 ·exact⟨þ,H3,(I3.unpinned).turned (t':=s3.toks) (it:=C) (λb o hb e=>hs'.extBut b o hb e) pC.2.1 nL (.inr sz) X0x X1k,q3⟩
def ET {n i k : P0} {x y : Str} {p py pos ø : Pos} {kx vx iter : S2} {ifs : G0 S2} {scope : A2} {js : G0 P0} {ti : TID} {tt : TTD} {tk tv : TED} (hr : Ð n X.A) (hc : X.calm = xb) (hN : X.N.Nodup) (hk : X.N[k]? = zq y) (hy : Loc X.env.scope y) (S : Ñ X scope js) (hi : JI X (.Name x p) iter ti) (hj : i ∈ js) (hx : X.N[i]? = zq x) (hl : scope.names.lookup x = zq .local ∨ scope.names.lookup x = zq .cell)
    (ht : ∀ X', jj X scope X' → ģ X' ifs (LT X'.K tt)) (hkx : ∀ X', jj X scope X' → JE X' kx tk) (hvx : ∀ X', jj X scope X' → JE X' vx tv)
    (hsw : U0 (.DictComp kx vx [⟨.Name x p, iter, ifs, 0⟩] scope pos) (zq (.Name y py)) ø.line X.env = pure xb := by rfl) (hf : X.fn y = xb ∨ X.env.scope.names.lookup y = zq .local := by first | exact .inl rfl | exact .inr rfl | assumption) (hs : ∀ x, T5 iter X.env x = pure x := by intro _; rfl) :
    JS X (.Assign [.Name y py] (.DictComp kx vx [⟨.Name x p, iter, ifs, 0⟩] scope pos) ø) (Py k (dDC (bN i) js ti tt tk tv)) :=
  ⟨(Bq (g := wR i) (tt := LT X.K tt) (tk := LE X.K tk) (tv := LE X.K tv) hr hc S hi.to (fun X' hX => by obtain ⟨C, s₀, H₀, ex, rfl⟩ := hX; exact wt hN hx hl) (fun X' hX => by have := ht X' hX; obtain ⟨C, s₀, H₀, ex, rfl⟩ := hX; exact this) (fun X' hX => by have := (hkx X' hX).to; obtain ⟨C, s₀, H₀, ex, rfl⟩ := hX; exact this) (fun X' hX => by have := (hvx X' hX).to; obtain ⟨C, s₀, H₀, ex, rfl⟩ := hX; exact this) (yM hN hk hy hf) hsw hs).imp
    fun D σ H h => by
      obtain ⟨Ä, hd, Qd, rs, rh, t, p⟩ := QR (K := X.K) D σ H h
      exact Ho hj σ H _ ⟨Ä, hd, Qd, rs, rh, t, p⟩⟩
def Qk (hc:X.calm=xb):ê X (.type "list") (λxs H Q=> ∃ (a:G7) (ep:P0) (ks:KT2),xs= [.ref a]/\H a=zq (vG a ep ks)/\ks.length<1000/\ ∀q:G7,H q=xa->Q (.ref q) (upd H q (.lst (ks.map λx=>V.ref x.2.1)))):=by
 intro À s σ H xs us Q I r h;obtain⟨a,ep,ks,rfl,hH,few,q⟩:=h;obtain⟨u,rfl,ru⟩:=Wb r;cases ru;obtain⟨lo,sl,es,hd,ek,en⟩:=Gv I hH;have sm:es.size<=xh:=by rw [en];exact M1 (T6 few) (by decide)
 refine G0G (Gt (es:=es) (ep:=ep) (sl:=sl) lo) (I.ok.hd hc) hd sm λh1 tk acc c kept lies items=> ?_
 have ea:=Gu items;rw [ek] at ea;have vv: ∀l:KT2,Æ (l.map λx=>V.ref x.2.1) (l.map λx=>N7 x.2.1):=λl=>by
  induction l with
  |nil=>exact .nil
  |cons z l ih=>exact .cons rfl ih
 refine⟨.ref _,_,I.laid (t':=tk) (o:= .lst (ks.map λx=>V.ref x.2.1)) kept (P7 _) ⟨?_,_,c,vv ks,?_⟩,rfl,q _ (I.hok.fresh (P7 _))⟩
 ·rw [G6];exact M1 (T6 few) (by decide)
 ·rw [<-ea,oK];exact lies
def EU:RDn:=λds h Q=> ∃ (a:G7) (ep:P0) (kv:G0 (G0 (G0 P4)×D)),ds= [.dct a]/\h.dc a=zq (.tk ep kv)/\kv.length<1000/\ ∀q:G7,h q=xa->Q (.lst q) (wd h q (kv.map λp=>ju p.1))
def Mh (hc:X.calm=xb):vP X (.type "list") EU:=(Qk hc).imp λxs H Q ⟨ds,h,Qd,r,rh,⟨a,ep,kv,e,hd,few,q⟩,p⟩=>by
 subst e;obtain⟨v,e,r1⟩:=jS r;cases (show v= .ref a from r1);subst e;obtain⟨ks,hH,nd,ek,tv,rv⟩:=(show ∃xs:KT2,_ from rh.dc a _ hd);have len:ks.length=kv.length:=by have:=xk K7 ek;rw [G6,G6] at this;omega
 refine⟨a,ep,ks,rfl,hH,by omega,λc π=> ?_⟩;have rl:=Qg (K:=X.K) (H:=H) (qs:=ks.map λx=>((x.2.1,x.1):NU)) λx hx=>by
  obtain⟨y,hy,rfl⟩:=N5.mp hx;exact tv y hy
 rw [M9,M9,M9] at rl;have e2:kv.map (λp=>ju p.1)=ks.map λx=>ju x.1:=by
  have:=xk (G0Y ju) ek
  rwa [M9,M9] at this
 refine p (.lst c) _ _ _ (.new π) (rh.newL π (show Á X.K H (kv.map λp=>ju p.1) (ks.map λx=>V.ref x.2.1) from ?_)) ⟨rfl,_,jh⟩ (q c (rh.free π));rw [e2];exact rl
end L2
namespace L2
open PySem PySem.Spec PyProof.Rows
def VE (n:P0)(Ts:G0 (G0 (G0 P4))):G0 (G0 (G0 P4)):=(Ļ n Ts).map (·.1)
def nxA (n:P0)(Ts L:G0 (G0 (G0 P4)))(M:G0 (G0 P4)):N3:=(R6 Ts.length).any λi=>decide (ř n (Ts.getD i []) M∈L)
def ē (n:P0)(Ts:G0 (G0 (G0 P4))):P0->G0 (G0 (G0 P4))
 |0=>(VE n Ts).filter λM=> !UD M
 |k+1=>(ē n Ts k).filter (nxA n Ts (ē n Ts k))
section
variable {n k r:P0}{Ts:G0 (G0 (G0 P4))}{M:G0 (G0 P4)}{w:G0 P0}
def Br (hT:Ú n Ts)(h:M∈VE n Ts): ∃w,Oq Ts w/\M=ÿ n Ts w:=by
 obtain⟨p,hp,rfl⟩:=N5.mp h;obtain⟨a,b,_⟩:=(vZ (n:=n) hT.l3).fd p hp;exact⟨p.2,b,a⟩
def LV {j:P0}(hj:j<=k): ∀ {M},M∈ē n Ts k->M∈ē n Ts j:=by
 induction k with
 |zero=>rw [Nat.le_zero.mp hj];exact λh=>h
 |succ k ih=>
  rcases xY j (k+1) with c|c
  ·exact λh=>ih (tL.mp c) (A4.mp h).1
  ·rw [tM hj c];exact λh=>h
end
def Cj {α:Type}(Ps:G0 (G0 (G0 P4)))(T:G0 (G0 P4))(c:α):(zR (Ps.map λM=>(M,c)) T).isSome=decide (T∈Ps):=by
 induction Ps with
 |nil=>rfl
 |cons M Ps ih=>
  by_cases z:M=T
  ·subst z;rw [S6 (R1)];show (zR ((M,c)::_) M).isSome=xb;unfold zR;rw [List.find?_cons_of_pos (by exact S6 rfl)];rfl
  ·have:(zR ((M::Ps).map λM=>(M,c)) T)=zR (Ps.map λM=>(M,c)) T:=by
    show ((((M,c)::_).find? _).map _)=_;rw [List.find?_cons_of_neg (by exact λy=>z (E9 y))];rfl
   rw [this,ih];exact decide_eq_decide.mpr ⟨λh=>M5 _ h,λh=>(R5.mp h).resolve_left λy=>z y.symm⟩
end L2
namespace My
open PySem L2
def ü (i:P0):L8:=PySem.Challenge.pw_firstpowers_k72_lists_of_tables_refused.main.body.getD i (.Pass ⟨0,0,0,0⟩)
abbrev yS:L8:=CT (ü 12) 0
def ZP:Ã ["self","at"] ["self","at"] (jd yS):=⟨rfl,rfl,rfl,by decide +kernel,rfl,by decide +kernel,by decide +kernel⟩
abbrev Zf:L8:=ü 20
def Ql:Ã ["thing"] ["thing"] (jd Zf):=ć
abbrev Ja:L8:=ü 21
def Xb:Ã ["thing","least","most"] ["thing","least","most"] (jd Ja):=ć
abbrev Zg:L8:=ü 22
def Qm:Ã ["thing","size"] ["thing","size"] (jd Zg):=ć
abbrev yT:L8:=ü 23
def Jv:Ã ["thing","size","each"] ["thing","size"] (jd yT):=ć
abbrev VF:L8:=ü 25
def Mi:Ã ["thing","many","least","most"] ["thing","many","least","most"] (jd VF):=ć
abbrev wY:L8:=ü 26
def yU:Ã ["thing","size","number"] ["thing","size"] (jd wY):=ć
abbrev wg:L8:=ü 27
def yj:Ã ["thing","row"] ["thing"] (jd wg):=ć
abbrev yV:L8:=ü 28
def VG:Ã ["thing"] ["thing"] (jd yV):=ć
abbrev ww:L8:=ü 29
def zY:Ã ["thing","at","each"] ["thing"] (jd ww):=ć
abbrev Zh:L8:=ü 30
def Qn:Ã ["tables","thing"] ["tables","thing"] (jd Zh):=ć
abbrev yW:L8:=ü 32
def zN:Ã ["one","other","size","row","place","by"] ["one","other"] (jd yW):=ć
abbrev Mj:L8:=ü 35
def MB:Ã ["table","row","number"] ["table"] (jd Mj):=ć
abbrev Qo:L8:=ü 36
def VH:Ã ["table","row","number"] ["table"] (jd Qo):=ć
abbrev yy:L8:=ü 38
def Yj:Ã ["ahead","table"] ["ahead","table"] (jd yy):=ć
abbrev wj:L8:=ü 41
def jB:Ã ["tables","ways","nexts","fresh","later","way","each","at","table","behind"] ["tables"] (jd wj):=ć
abbrev WH:L8:=ü 42
def Zi:Ã ["nexts","left","each","behind"] ["nexts","left"] (jd WH):=ć
abbrev zw:L8:=ü 43
def jz:Ã ["nexts","left","rounds","ends","each"] ["nexts"] (jd zw):=ć
abbrev Qp:L8:=ü 44
def Bs:Ã ["tables","way"] ["tables","way"] (jd Qp):=ć
abbrev vw:L8:=ü 45
def yE:Ã ["tables","ways","nexts","each","way"] ["tables"] (jd vw):=ć
abbrev zO:L8:=ü 46
def zG:Ã ["tables","ways","nexts","rounds","left"] ["tables"] (jd zO):=ć
abbrev zP:L8:=ü 50
def yJ:Ã ["tables","thing","ahead","again","many"] ["tables","thing"] (jd zP):=ć
abbrev wZ:L8:=ü 51
def za:Ã ["nexts","left","gone","way","now","at","behind"] ["nexts","left"] (jd wZ):=ć
abbrev wx:L8:=ü 52
def zC:Ã ["tables","ways","nexts","rounds","left","start","again"] ["tables"] (jd wx):=ć
abbrev Mk:L8:=ü 53
abbrev wy:L8:=ü 54
def ya:Ã ["tables","thing","posts","each","table"] ["tables","thing"] (jd wy):=ć
abbrev vy:L8:=ü 55
def yD:Ã ["tables","ways","nexts","each"] ["tables"] (jd vy):=ć
abbrev Jb:L8:=ü 57
def Xc:Ã ["_law_script","_law_k"] ["_law_script","_law_k"] (jd Jb):=ć
abbrev Zj:L8:=ü 58
def WI:Ã ["_law_cell_here","_law_left"] ["_law_cell_here"] (jd Zj):=ć
abbrev Jc:L8:=ü 59
def wP:Ã ["_law_pen_here","_law_many_here","_law_left","_law_found","_law_stir"] ["_law_pen_here","_law_many_here"] (jd Jc):=ć
abbrev yX:L8:=ü 60
def VI:Ã ["_law_thing"] ["_law_thing"] (jd yX):=ć
abbrev Jd:L8:=ü 61
def zL:Ã ["_law_e","_law_seen","_law_words"] ["_law_e"] (jd Jd):=ć
abbrev Je:L8:=ü 62
def ZH:Ã ["_law_call","_law_found","_law_e","_law_word"] ["_law_call"] (jd Je):=ć
abbrev yY:L8:=ü 63
def jE:Ã ["_law_pen_here","_law_size","_law_way","_law_often","_law_most","_law_rows","_law_one","_law_row","_law_other","_law_goes"] ["_law_pen_here","_law_size"] (jd yY):=ć
abbrev yZ:L8:=ü 64
def yA:Ã ["_law_pen_here","_law_many_here","_law_found","_law_what"] ["_law_pen_here","_law_many_here"] (jd yZ):=ć
abbrev wK:L8:=ü 65
def yK:Ã ["_law_pen_here","_law_some"] ["_law_pen_here"] (jd wK):=ć
abbrev zV:L8:=ü 66
def jC:Ã ["_law_pen_here","_law_size","_law_order_here","_law_often","_law_rows","_law_at","_law_here","_law_there","_law_one","_law_other","_law_row"] ["_law_pen_here","_law_size"] (jd zV):=ć
abbrev Jf:L8:=ü 67
def jK:Ã ["_law_pen_here","_law_size","_law_many_here","_law_found","_law_turn","_law_table_here","_law_way","_law_place","_law_row"] ["_law_pen_here"] (jd Jf):=ć
abbrev wz:L8:=ü 68
def vJ:Ã ["_law_way","_law_tables"] ["_law_way","_law_tables"] (jd wz):=ć
abbrev vz:L8:=ü 69
def WJ:Ã ["_law_tables","_law_due","_law_way"] ["_law_tables","_law_due"] (jd vz):=ć
abbrev Xd:L8:=ü 70
def vL:Ã ["_law_script","_law_cell_here","_law_pen_here","_law_tables","_law_size","_law_at","_law_way","_law_bad","_law_other","_law_later","_law_thing"] ["_law_script"] (jd Xd):=ć
section
variable {P:D5}{w:T8}{K:G3}{mg:Str->P1 G1}{base:N8}
/-- no def is asked of ζ script's list: a X0D -/
def Ml:D->N3
 | .int _=>xb
 |_=>xf
/-- a row of so many numbers from 0 on -/
def Su:D->N3
 | .int i=>decide (0<=i)
 |_=>xf
def Ck (d:D)(k:P4):N3:=match d with
 | .tup ds=>decide ((ds.length:P4)=k)&&ds.all Su
 |_=>xf
/-! every part has a kind X1M is told,and no tuple is long -/
mutual
def okD:D->N3
 | .scr _=>xf| .exc _=>xf| .fn _=>xf| .dct _=>xf| .exf _ _=>xf
 | .tup ds=>decide (ds.length<=1000)&&ž ds
 |_=>xb
def ž:G0 D->N3
 | []=>xb
 |d::ds=>okD d&&ž ds
end
theorem VJ: ∀ {ds:G0 D},ž ds=xb-> ∀d∈ds,okD d=xb
 |d::ds,h,x,hx=>by
  have h':(okD d&&ž ds)=xb:=h;rw [B7] at h';rcases R5.mp hx with e|e
  ·subst e;exact h'.1
  ·exact VJ h'.2 x e
theorem Mm: ∀ {ds:G0 D},(∀d∈ds,okD d=xb)->ž ds=xb
 | [],_=>rfl
 |d::ds,h=>by
  show (okD d&&ž ds)=xb;rw [h d R1,Mm λx hx=>h x (M5 _ hx)];rfl
def Qq {ds:G0 D}(h:okD (.tup ds)=xb):ds.length<=1000/\ ∀d∈ds,okD d=xb:=by
 have h':(decide (ds.length<=1000)&&ž ds)=xb:=h;rw [B7] at h';exact⟨E9 h'.1,VJ h'.2⟩
def Cl {ds:G0 D}(h:ds.length<=1000)(h2: ∀d∈ds,okD d=xb):okD (.tup ds)=xb:=by
 show (decide (ds.length<=1000)&&ž ds)=xb;rw [S6 h,Mm h2];rfl
def Jw {d:D}(h:okD d=xb): ∃n,YC d=zq n:=by
 cases d<;>first|exact⟨_,rfl⟩|cases h
/-- a table -/
def Cm:D->N3
 | .tup rs=>decide (1<=rs.length)&&decide (rs.length<=6)&&rs.all λr=>Ck r rs.length
 |_=>xf
def zJ:RDn:=λds h Q=> ∃d n,ds= [d]/\YC d=zq n/\Q (.bl (Ml d)) h
variable {n:P0}{f:G7}{fd:R8}
def Qr (Z:Zs mg)(F:â K "is_whole" "is_whole" Zf f fd):Ì P w K mg base à (n+1) f fd ["thing"] (í K zJ):=by
 refine F.okM Ql (λhr=>(jO (zf (Nf (ZM (T:= "int") (by decide) rfl Z.isinstance rfl Z.int (by decide +kernel) (jv 0)) (DV (Ka (ZM (T:= "bool") (by decide) rfl Z.isinstance rfl Z.bool (by decide +kernel) (jv 0)))))))) ?_;rintro ds h Q ⟨d,nm,rfl,hn,q⟩;refine⟨rfl,?_⟩;simp only [DA,Dx,dIs,JM,zt,S9,aJ,D8,B6,K0,O2,K5,X6,D.bl.injEq,Dy,Xv,aE,hn];cases d<;>cases hn<;>exact⟨h,Sub.refl h,q⟩
def Zz:RDn:=λds h Q=> ∃d,∃a b:P4,ds= [d,.int a,.int b]/\okD d=xb/\Q (.bl (vX d a b)) h
def Xe (Z:Zs mg)(F:â K "is_within" "is_within" Ja f fd)(Zp:jn P w K mg base n "is_whole" ["thing"] zJ):Ì P w K mg base à (n+1) f fd ["thing","least","most"] (í K Zz):=by
 refine F.okM Xb (λhr=>(jO (zf (Nf (jk Zp hr (j1 (jv 0))) (DV (BW ZJ ZJ (jv 1) (jv 0) (jv 2))))))) ?_;rintro ds h Q ⟨d,a,b,rfl,ok,q⟩;refine⟨rfl,?_⟩;obtain⟨nm,hn⟩:=Jw ok;refine⟨_,rfl,d,nm,rfl,hn,Ml d,rfl,?_⟩;cases d with
 |int x=>
  refine vA ⟨_,rfl,_,rfl,_,rfl,?_⟩;show if decide (a<=x)=xb then _ else _
  by_cases h1:a<=x
  ·rw [S6 h1];simp only [vX,S6 h1,gY] at q;exact vA ⟨_,rfl,h,Sub.refl h,q⟩
  ·rw [S0 h1];simp only [vX,S0 h1,dZ] at q;exact jU ⟨h,Sub.refl h,q⟩
 |_=>exact jU ⟨h,Sub.refl h,q⟩
def WK:RDn:=λds h Q=> ∃d,∃n:P4,ds= [d,.int n]/\okD d=xb/\Q (.bl (vX d 0 (n-1))) h
def Qs (Z:Zs mg)(F:â K "is_place" "is_place" Zg f fd)(QD:jn P w K mg base n "is_within" ["thing","least","most"] Zz):Ì P w K mg base à (n+1) f fd ["thing","size"] (í K WK):=by
 refine F.okM Qm (λhr=>(jO (zf (jk QD hr (j3 (jv 0) jw (ó Ut (jv 1) jw)))))) ?_;rintro ds h Q ⟨d,k,rfl,ok,q⟩;refine⟨rfl,?_⟩;exact⟨_,rfl,_,rfl,d,0,k-1,rfl,ok,h,Sub.refl h,q⟩
def Jx:RDn:=λds h Q=> ∃d,∃n:P4,ds= [d,.int n]/\okD d=xb/\Q (.bl (XT d n)) h
def VL (Z:Zs mg)(F:â K "are_places" "are_places" yT f fd)(Pm:jn P w K mg base n "is_place" ["thing","size"] WK):Ì P w K mg base à (n+1) f fd ["thing","size"] (í K Jx):=by
 refine F.okM Jv (λhr=>(jO (zf (Nf (ZM (T:= "tuple") (by decide) rfl Z.isinstance rfl Z.tuple (by decide +kernel) (jv 0)) (DV (yH (Uv rfl) rfl Z.all Z7 (j1 (Μ 2 Jv (wG (jv 0)) (λ_ _ _ _=>(jk Pm hr (j2 (jv 2) (jv 1)))))))))))) ?_;rintro ds h Q ⟨d,k,rfl,ok,q⟩;refine⟨rfl,?_⟩;obtain⟨nm,hn⟩:=Jw ok;refine⟨_,rfl,nm,hn,?_⟩;cases d with
 |tup es=>
  cases hn;obtain⟨hl,ht⟩:=Qq ok;refine⟨_,rfl,vA ?_⟩;exact kl es (λx=>x) (λx=>vX x 0 (k-1)) hl (by rw [List.map_id']) (λR r=>⟨_,rfl,r⟩) (λx hx Q' q'=>⟨_,rfl,_,rfl,x,k,rfl,ht x hx,q'⟩) ⟨h,Sub.refl h,q⟩
 |_=>cases hn<;>exact⟨_,rfl,jU ⟨h,Sub.refl h,q⟩⟩
def Xf:RDn:=λds h Q=> ∃d,∃m lo hi:P4,ds= [d,.int m,.int lo,.int hi]/\okD d=xb/\Q (.bl (Kh d m lo hi)) h
def Mn (Z:Zs mg)(F:â K "is_way" "is_way" VF f fd)(Xo:jn P w K mg base n "are_places" ["thing","size"] Jx):Ì P w K mg base à (n+1) f fd ["thing","many","least","most"] (í K Xf):=by
 refine F.okM Mi (λhr=>(jO (zf (Nf (jk Xo hr (j2 (jv 0) (jv 1))) (DV (BW ZJ ZJ (jv 2) (ZZ Z (jv 0)) (jv 3))))))) ?_;rintro ds h Q ⟨d,m,lo,hi,rfl,ok,q⟩;refine⟨rfl,?_⟩;refine⟨_,rfl,_,rfl,d,m,rfl,ok,_,rfl,?_⟩;cases d with
 |tup es=>
  have q':Q (.bl (XT (.tup es) m&&(decide (lo<=(es.length:P4))&&decide ((es.length:P4)<=hi)))) h:=q;refine Ul (λc=> ?_) (λc=> ?_)
  ·rw [c,gY] at q';refine⟨_,rfl,_,rfl,_,rfl,?_⟩;show if decide (lo<=(es.length:P4))=xb then _ else _
   by_cases h1:lo<=(es.length:P4)
   ·rw [S6 h1] at q' ⊢;rw [gY] at q';exact vA ⟨_,rfl,h,Sub.refl h,q'⟩
   ·rw [S0 h1] at q' ⊢;rw [dZ] at q';exact jU ⟨h,Sub.refl h,q'⟩
  ·have c':XT (.tup es) m=xf:=by simpa using c
   rw [c',dZ] at q';exact⟨h,Sub.refl h,q'⟩
 |_=>exact jU ⟨h,Sub.refl h,q⟩
def va:RDn:=λds h Q=> ∃d k,ds= [d,.int k]/\okD d=xb/\Q (.bl (Ck d k)) h
def WL (Z:Zs mg)(F:â K "is_table_row" "is_table_row" wY f fd)(Zp:jn P w K mg base n "is_whole" ["thing"] zJ):Ì P w K mg base à (n+1) f fd ["thing","size"] (í K va):=by
 refine F.okM yU (λhr=>(js2 (wf (ξ (Xw (wc (wb (ZM (T:= "tuple") (by decide) rfl Z.isinstance rfl Z.tuple (by decide +kernel) (jv 0)))) (GJ (î Ě (ZZ Z (jv 0)) (jv 1))))) (zf Ŷ)) (zf (yH (Uv rfl) rfl Z.all Z7 (j1 (Μ 2 yU (wG (jv 0)) (λ_ _ _ _=>(Nf (jk Zp hr (j1 (jv 2))) (DV (jc1 FD (jv 2) jw)))))))))) ?_;rintro ds h Q ⟨d,k,rfl,ok,q⟩;refine⟨rfl,?_⟩;obtain⟨nm,hn⟩:=Jw ok;simp only [yn,Fm,Aj,Dw,Jl,dIs,JM,zt,S9,aJ,D8,B6,M8,K0,O2,K5,X6,D.bl.injEq,DA,dC,Xv,XH,Ķ,jP,Jk,Ġ,Om,aX,neD,aE,hn];cases d with
 |tup es=>
  cases hn;obtain⟨hl,ht⟩:=Qq ok;simp only [On]
  by_cases hk:(es.length:P4)=k
  ·simp only [hk];simp;refine DN (ds:=es) (h1:=h) (j:=λ_=>zq es) (λx=> .bl (Su x)) (T6 (zk hl)) rfl (λR r=>⟨.tup es,rfl,r⟩) (λd hd Q' q'=> ?_) (λp hp=> ?_)
   ·obtain⟨nn,hnn⟩:=Jw (ht d hd);refine⟨d,rfl,d,nn,rfl,hnn,Ml d,rfl,?_⟩;cases d with
    |int i=>exact vA ⟨.int i,rfl,q'⟩
    |_=>exact jU q'
   ·refine⟨p,es.map Su,rfl,by rw [jc];simp,h,?_,?_⟩
    ·rw [wE hp];exact Sub.refl h
    ·simpa [Ck,hk,cJ,fB] using q
  ·simp [hk];exact⟨h,Sub.refl h,by simpa [Ck,hk] using q⟩
 |_=>cases hn<;>exact⟨h,Sub.refl h,q⟩
def zo:RDn:=λds h Q=> ∃d,ds= [d]/\okD d=xb/\Q (.bl (Cm d)) h
def Zk (Z:Zs mg)(F:â K "has_table_form" "has_table_form" wg f fd)(Yq:jn P w K mg base n "is_table_row" ["thing","size"] va)(Jh: ∃tk,mg "MOST_ROWS" =zq (.int 6 tk)):Ì P w K mg base à (n+1) f fd ["thing"] (í K zo):=by
 obtain⟨tk_MOST_ROWS,Α⟩:=Jh;refine F.okM yj (λhr=>(js2 (wf (ξ (Xw (wc (wb (ZM (T:= "tuple") (by decide) rfl Z.isinstance rfl Z.tuple (by decide +kernel) (jv 0)))) (GJ (wc (Vk ZJ ZJ jw (ZZ Z (jv 0)) (UA rfl Α)))))) (zf Ŷ)) (zf (yH (Uv rfl) rfl Z.all Z7 (j1 (Μ 1 yj (wG (jv 0)) (λ_ _ _ _=>(jk Yq hr (j2 (jv 1) (ZZ Z (jv 0))))))))))) ?_;rintro ds h Q ⟨d,rfl,ok,q⟩;refine⟨rfl,?_⟩;obtain⟨nm,hn⟩:=Jw ok;simp only [yn,Fm,Aj,Dw,Jl,dIs,JM,zt,S9,aJ,D8,B6,M8,K0,O2,K5,X6,D.bl.injEq,DA,dC,Xv,XH,Ķ,jP,Jk,Wp,Om,BR,aE,hn];cases d with
 |tup es=>
  cases hn;obtain⟨hl,ht⟩:=Qq ok;simp only [On]
  by_cases h1:1<=es.length
  ·by_cases h6:es.length<=6
   ·have Κ:(1:P4)<=es.length:=by omega
    have h6':(es.length:P4)<=6:=by omega
    simp [Κ,h6'];refine DN (ds:=es) (h1:=h) (j:=λ_=>zq es) (λx=> .bl (Ck x es.length)) (T6 (zk hl)) rfl (λR r=>⟨.tup es,rfl,r⟩) (λd hd Q' q'=> ?_) (λp hp=> ?_)
    ·exact⟨d,rfl,.tup es,rfl,d,es.length,rfl,ht d hd,q'⟩
    ·refine⟨p,es.map λx=>Ck x es.length,rfl,by rw [jc];simp,h,?_,?_⟩
     ·rw [wE hp];exact Sub.refl h
     ·simpa [Cm,h1,h6,cJ,fB] using q
   ·have Κ:(1:P4)<=es.length:=by omega
    have h6': ¬ (es.length:P4)<=6:=by omega
    simp [Κ,h6'];exact⟨h,Sub.refl h,by simpa [Cm,h1,h6] using q⟩
  ·have Κ: ¬ (1:P4)<=es.length:=by omega
   simp [Κ];exact⟨h,Sub.refl h,by simpa [Cm,h1] using q⟩
 |_=>cases hn<;>exact⟨h,Sub.refl h,q⟩
def LW {x:P4}(h:0<=x):Su (.int x)=xb:=S6 h
variable {e:P0}{T:G0 (G0 P4)}
def LX (h:Sq n e T){r:G0 P4}(hr:r∈T):Ck (wU r) n=xb:=by
 simp only [Ck,wU,G6,h.row r hr,decide_true,gY,cJ,H0,V3];intro x hx;exact LW (h.nn r hr x hx)
def VM (h:Sq n e T)(h1:1<=n)(h6:n<=6):Cm (ju T)=xb:=by
 simp only [Cm,ju,G6,h.len,S6 h1,S6 h6,gY,cJ,H0,V3];intro r hr;exact LX h hr
def YS (h:Sq n e T)(h6:n<=6):okD (ju T)=xb:=
 Cl (by rw [G6,h.len];omega) λd hd=>by
  obtain⟨r,hr,rfl⟩:=N5.mp hd;exact Cl (by rw [G6,h.row r hr];omega) λd hd=>by obtain⟨x,_,rfl⟩:=N5.mp hd;rfl
def yB:RDn:=λds h Q=> ∃T,∃n e:P0,ds= [ju T]/\Sq n e T/\1<=n/\n<=6/\Q .non h
def VN (Z:Zs mg)(F:â K "want_table" "want_table" yV f fd)(jR:jn P w K mg base n "has_table_form" ["thing"] zo):Ì P w K mg base à (n+1) f fd ["thing"] (í K yB):=by
 refine F.okM VG (λhr=>(jO (wf (wc (wb (jk jR hr (j1 (jv 0))))) UC))) ?_;rintro ds h Q ⟨T,k,b,rfl,hT,h1,h6,q⟩;refine⟨rfl,?_⟩;refine⟨_,rfl,ju T,rfl,YS hT h6,_,rfl,?_⟩;rw [VM hT h1 h6];exact jU ⟨h,Sub.refl h,q⟩
def jJ:RDn:=λds h Q=> ∃A Ts,∃n:P0,ds= [.lst A]/\h A=zq (Ts.map ju)/\Ú n Ts/\Q .non h
def Yk (Z:Zs mg)(F:â K "want_tables" "want_tables" ww f fd)(jR:jn P w K mg base n "has_table_form" ["thing"] zo)(zr: ∃tk,mg "MOST_TABLES" =zq (.int 3 tk))(jD: ∃tk,mg "MOST_ROWS_OF_SEVERAL" =zq (.int 3 tk)):Ì P w K mg base à (n+1) f fd ["thing"] (í K jJ):=by
 obtain⟨ń,ï⟩:=zr;obtain⟨Ā,Ö⟩:=jD;refine F.okM zY (λhr=>(js2 (wf (ξ (Xw (wc (wb (ZM (T:= "list") (by decide) rfl Z.isinstance rfl Z.list (by decide +kernel) (jv 0)))) (GJ (wc (Vk ZJ ZJ jw (ZZ Z (jv 0)) (UA rfl ï)))))) UC) (QX L9 rfl (Jn rfl Z.enumerate (j1 (jv 0))) (yG (i:=1) (j:=2) rfl zY.nd rfl rfl (A3 rfl) (A3 rfl)) (jO (wf (ξ (Xw (wc (wb (jk jR hr (j1 (jv 2))))) (Xw (î FC (ZZ Z (jv 2)) (UA rfl Ö)) (GJ (î Ě (ZZ Z (jv 2)) (ZZ Z (Ē (jv 0) jw))))))) UC))))) ?_;rintro ds h Q ⟨A,Ts,n,rfl,kA,hT,q⟩;refine⟨rfl,?_⟩;have hlen:(((Ts.map ju).length:P0):P4)=(Ts.length:P4):=by rw [G6]
 have l1:=hT.l1;have l3:=hT.l3;refine jF [zq (.lst A),xa,xa] (λC hC=> ?_) ?_
 ·refine⟨_,rfl,"list",rfl,_,rfl,jU ⟨_,rfl,_,kA,_,rfl,?_⟩⟩;rw [hlen];have e1:decide ((1:P4)<=(Ts.length:P4))=xb:=S6 (by omega);have e2:decide ((Ts.length:P4)<=3)=xb:=S6 (by omega);show if decide ((1:P4)<=(Ts.length:P4))=xb then _ else _
  rw [e1];refine vA ⟨_,rfl,?_⟩;show if (!decide ((Ts.length:P4)<=3))=xb then _ else _
  rw [e2];exact jU (hC)
 refine ZW (h1:=h) (j:=λh=>(h A).map Yd) (Yd (Ts.map ju)) (λi Â h'=> ∃a b,Â= [zq (.lst A),a,b]/\h=h') (λR r=>⟨_,rfl,A,rfl,r⟩) (λi Â h' ⟨_,_,_,e⟩=>by rw [<-e];show (h A).map Yd=_;rw [kA];rfl) ⟨xa,xa,rfl,rfl⟩ (λÂ h' ⟨_,_,_,e⟩=>⟨h,e ▸ Sub.refl h,q⟩) ?_;rintro i d _ _ hd ⟨a,b,rfl,rfl⟩;obtain⟨x,hx,rfl⟩:=ZX hd;have hil:i+1<=(Yd (Ts.map ju)).length:=(P8.mp hd).1;obtain⟨T,hTm,rfl⟩:=N5.mp (P5 hx);have sT:=hT.sq T hTm;have s0:=hT.get (i:=0) (by omega);have n1:=hT.n1;have n3:=hT.n3;have e0:=XS hT (i:=0) (by omega);refine⟨_,_,rfl,_,rfl,ju T,rfl,YS sT (by omega),?_⟩;rw [VM sT n1 (by omega)];refine⟨_,rfl,jU ⟨_,rfl,_,rfl,?_⟩⟩;have g1:decide ((((T.map wU).length:P0):P4)>3)=xf:=S0 (by rw [G6,sT.len];omega);show if decide ((((T.map wU).length:P0):P4)>3)=xb then _ else _
 rw [g1];refine jU ⟨_,rfl,_,rfl,_,_,kA,e0,_,rfl,?_⟩;have g2:(!decide ((((T.map wU).length:P0):P4)=((((Ts.getD 0 []).map wU).length:P0):P4)))=xf:=by rw [G6,G6,sT.len,s0.len];simp
 show if (!decide ((((T.map wU).length:P0):P4)=((((Ts.getD 0 []).map wU).length:P0):P4)))=xb then _ else _
 rw [g2];exact jU ⟨_,Sub.refl _,hil,_,_,rfl,rfl⟩
/-- no list of tables: where it fails -/
inductive X1B (n:P0)(Ts:G0 (G0 (G0 P4)))(x:D):Prop
 |no (b:Cm x=xf)
 |tab (T:G0 (G0 P4)) (m e:P0) (ex:x=ju T) (sq:Sq m e T) (m1:1<=m) (m6:m<=6) (w:3<m\/(Ts≠ []/\m≠n))
inductive ù (d:D)(k:P4)(h:HD):Prop
 |ty (t:F7) (ht:YC d=zq t) (nl:On "list" t=xf) (ek:k= -1)
 |len (A:G7) (xs:G0 D) (ed:d= .lst A) (kA:h A=zq xs) (l:xs= []\/3<xs.length) (ek:k= -1)
 |at_ (A:G7) (Ts:G0 (G0 (G0 P4))) (n:P0) (x:D) (r:G0 D) (ed:d= .lst A) (kA:h A=zq (Ts.map ju++x::r)) (ek:k=(Ts.length:P4)) (sq: ∀T∈Ts,Sq n 20 T) (n1:1<=n) (n3:n<=3) (l3:Ts.length+1+r.length<=3) (ok:okD x=xb) (bad:X1B n Ts x)
def NTs (k:P4):RN:=⟨"NoTables",[("at",k)]⟩
def jH:RDx:=λds h R=> ∃d,∃k:P4,ds= [d]/\ù d k h/\R (NTs k) h
def WM (Z:Zs mg)(Ex:Ğ K mg)(F:â K "want_tables" "want_tables" ww f fd)(jR:jn P w K mg base n "has_table_form" ["thing"] zo)(Ņ:Vw P w K mg base n "NoTables" ["at"])(zr: ∃tk,mg "MOST_TABLES" =zq (.int 3 tk))(jD: ∃tk,mg "MOST_ROWS_OF_SEVERAL" =zq (.int 3 tk)):Ì P w K mg base (Ģ P w) (n+1) f fd ["thing"] (ė mg K jH):=by
 obtain⟨ń,ï⟩:=zr;obtain⟨Ā,Ö⟩:=jD;refine F.okMX zY (λhr=>(UK (Vn (ξ (Xw (wc (wb (ZM (T:= "list") (by decide) rfl Z.isinstance rfl Z.list (by decide +kernel) (jv 0)))) (GJ (wc (Vk ZJ ZJ jw (ZZ Z (jv 0)) (UA rfl ï)))))) (Kr Ņ hr (j1 (Eg jw)))) (jM (JS.nox (wf (ξ (Xw (wc (wb (ZM (T:= "list") (by decide) rfl Z.isinstance rfl Z.list (by decide +kernel) (jv 0)))) (GJ (wc (Vk ZJ ZJ jw (ZZ Z (jv 0)) (UA rfl ï)))))) UC)) (Ly NZ rfl (Jn rfl Z.enumerate (j1 (jv 0))) (yG (i:=1) (j:=2) rfl zY.nd rfl rfl (A3 rfl) (A3 rfl)) (Ī.nox (jO (wf (ξ (Xw (wc (wb (jk jR hr (j1 (jv 2))))) (Xw (î FC (ZZ Z (jv 2)) (UA rfl Ö)) (GJ (î Ě (ZZ Z (jv 2)) (ZZ Z (Ē (jv 0) jw))))))) UC))) (Vn (ξ (Xw (wc (wb (jk jR hr (j1 (jv 2))))) (Xw (î FC (ZZ Z (jv 2)) (UA rfl Ö)) (GJ (î Ě (ZZ Z (jv 2)) (ZZ Z (Ē (jv 0) jw))))))) (Kr Ņ hr (j1 (jv 1)))))))) ?_;rintro ds h R ⟨d,k,rfl,bt,q⟩;refine⟨rfl,?_⟩;rcases bt with ⟨t,ht,nl,ek⟩|⟨A,xs,ed,kA,l,ek⟩|⟨A,Ts,n,x,r,ed,kA,ek,sq,n1,n3,l3,ok,bad⟩
 ·subst ek;exact .inl ⟨_,rfl,t,ht,_,rfl,by rw [nl];exact vA ⟨rfl,[-1],rfl,rfl,q⟩⟩
 ·subst ed ek;refine .inl ⟨_,rfl,"list",rfl,_,rfl,jU ⟨_,rfl,_,kA,_,rfl,?_⟩⟩;rcases l with rfl|l
  ·exact jU ⟨_,rfl,rfl,[-1],rfl,rfl,q⟩
  ·show if decide ((1:P4)<=(xs.length:P4))=xb then _ else _
   rw [S6 (show (1:P4)<=(xs.length:P4) by omega)];refine vA ⟨_,rfl,?_⟩;show (!decide ((xs.length:P4)<=3))=xb/\_;rw [S0 (show ¬ ((xs.length:P4)<=3) by omega)];exact⟨rfl,[-1],rfl,rfl,q⟩
 ·subst ed ek;obtain⟨ys,hys⟩: ∃ys,ys=Ts.map ju++x::r:=⟨_,rfl⟩;rw [<-hys] at kA;have ly:ys.length=Ts.length+1+r.length:=by rw [hys,P3,G6,D8];omega
  refine .inr ⟨_,rfl,"list",rfl,_,rfl,jU ⟨_,rfl,_,kA,_,rfl,?_⟩⟩;show if decide ((1:P4)<=(ys.length:P4))=xb then _ else _
  rw [S6 (show (1:P4)<=(ys.length:P4) by omega)];refine vA ⟨_,rfl,?_⟩;show if (!decide ((ys.length:P4)<=3))=xb then _ else _
  rw [S6 (show (ys.length:P4)<=3 by omega)];refine jU ⟨_,rfl,A,rfl,ys.length,λi Â h'=>i<=Ts.length/\ ∃a b,Â= [zq (.lst A),a,b]/\h=h',⟨B0 _,xa,xa,rfl,rfl⟩,?_⟩;rintro i _ _ ⟨hi,a,b,rfl,rfl⟩;refine⟨Yd ys,by show (h A).map Yd=_;rw [kA];rfl,?_,?_,λd hd=> ?_⟩
  ·rw [wH];exact P7 _
  ·rw [wH,ly];omega
  obtain⟨z,hz,rfl⟩:=ZX hd;refine⟨_,_,rfl,?_⟩
  by_cases ik:i<Ts.length
  ·have hz2:(Ts.map ju)[i]? =zq z:=by rw [hys,C7 (by rw [G6];exact ik)] at hz;exact hz
   obtain⟨T,hTm,rfl⟩:=N5.mp (P5 hz2);have sT:=sq T hTm;have e0:ĕ ys 0=zq (ju (Ts.getD 0 [])):=by
    refine zU (j:=0) ?_;rw [hys,C7 (by rw [G6];omega),D1,T3,G5 (show 0<Ts.length by omega)];rfl
   have s0:Sq n 20 (Ts.getD 0 []):=by
    rw [T3,G5 (show 0<Ts.length by omega)];exact sq _ (N9 _)
   refine .inl ⟨_,rfl,ju T,rfl,YS sT (by omega),?_⟩;rw [VM sT n1 (by omega)];refine⟨_,rfl,jU ⟨_,rfl,_,rfl,?_⟩⟩;show if decide ((((T.map wU).length:P0):P4)>3)=xb then _ else _
   rw [S0 (show ¬ ((((T.map wU).length:P0):P4)>3) by rw [G6,sT.len];omega)];refine jU ⟨_,rfl,_,rfl,_,_,kA,e0,_,rfl,?_⟩;show if (!decide ((((T.map wU).length:P0):P4)=((((Ts.getD 0 []).map wU).length:P0):P4)))=xb then _ else _
   rw [G6,G6,sT.len,s0.len,S6 rfl];exact jU ⟨_,Sub.refl _,by omega,_,_,rfl,rfl⟩
  ·have:i=Ts.length:=by omega
   subst this;have e:z=x:=by rw [hys,N4 (by rw [G6];exact P7 _),G6,m7] at hz;exact(C9 hz).symm
   subst e;refine .inr ⟨_,rfl,z,rfl,ok,?_⟩;rcases bad with b|⟨T,m,e,rfl,sT,m1,m6,w⟩
   ·rw [b];exact⟨_,rfl,vA ⟨rfl,_,rfl,[(Ts.length:P4)],rfl,rfl,q⟩⟩
   ·rw [VM sT m1 m6];refine⟨_,rfl,jU ⟨_,rfl,_,rfl,?_⟩⟩;show if decide ((((T.map wU).length:P0):P4)>3)=xb then _ else _
    rw [G6,sT.len]
    by_cases g:(m:P4)>3
    ·rw [S6 g];exact vA ⟨rfl,_,rfl,[(Ts.length:P4)],rfl,rfl,q⟩
    ·rw [S0 g];have w2:Ts≠ []/\m≠n:=w.elim (λz=>xj z (by omega)) id;have l0:0<Ts.length:=List.length_pos_iff.mpr w2.1;have e0:ĕ ys 0=zq (ju (Ts.getD 0 [])):=by
      refine zU (j:=0) ?_;rw [hys,C7 (by rw [G6];omega),D1,T3,G5 l0];rfl
     have s0:Sq n 20 (Ts.getD 0 []):=by
      rw [T3,G5 l0];exact sq _ (N9 _)
     refine jU ⟨_,rfl,_,rfl,_,_,kA,e0,_,rfl,?_⟩;show (!decide ((((T.map wU).length:P0):P4)=((((Ts.getD 0 []).map wU).length:P0):P4)))=xb/\_;rw [G6,G6,sT.len,s0.len,S0 (show ¬ ((m:P4)=(n:P4)) by omega)];exact⟨rfl,_,rfl,[(Ts.length:P4)],rfl,rfl,q⟩
def ZA:RDx:=λds h R=> ∃A Ts d,∃n:P0,ds= [.lst A,d]/\h A=zq (Ts.map ju)/\Ú n Ts/\okD d=xb/\Kh d (Ts.length:P4) 1 60=xf/\R "NoWay" h
def Xg (Z:Zs mg)(Ex:Ğ K mg)(F:â K "want_way" "want_way" Zh f fd)(BH:jn P w K mg base n "is_way" ["thing","many","least","most"] Xf)(Zq: ∃tk,mg "MOST_WAY" =zq (.int 60 tk)):Ì P w K mg base (Ģ P w) (n+1) f fd ["tables","thing"] (ė mg K ZA):=by
 obtain⟨tk_MOST_WAY,Ψ⟩:=Zq;refine F.okMX Qn (λhr=>(Vn (wc (wb (jk BH hr (j4 (jv 1) (ZZ Z (jv 0)) jw (UA rfl Ψ))))) (Nw rfl (Ex.own "NoWay" (by decide)) rfl))) ?_;rintro ds h R ⟨A,Ts,d,n,rfl,kA,hT,ok,hw,q⟩;refine⟨rfl,?_⟩;refine⟨_,rfl,_,rfl,_,kA,d,(Ts.length:P4),1,60,by rw [G6],ok,_,rfl,?_⟩;rw [hw];exact⟨rfl,q⟩
def Jy:RDn:=λds h Q=> ∃T U,∃n e f:P0,ds= [ju T,ju U]/\Sq n e T/\Sq n f U/\e+f<=1000000/\n<=6/\Q (ju (FO n T U)) h
def VO (Z:Zs mg)(F:â K "multiplied" "multiplied" yW f fd):Ì P w K mg base à (n+1) f fd ["one","other"] (í K Jy):=by
 refine F.okM zN (λhr=>(js2 (Ă 2 zN (ZZ Z (jv 0))) (zf (zj wF rfl Z.tuple (by decide +kernel) (j1 (Μ 3 zN (wG (jv 0)) (λ_ _ _ _=>(zj wF rfl Z.tuple (by decide +kernel) (j1 (Μ 4 zN (jrg Z (jv 2)) (λ_ _ _ _=>(yH (FL rfl) rfl Z.sum (by decide +kernel) (j1 (Μ 5 zN (jrg Z (jv 2)) (λ_ _ _ _=>(ó FQ (Ē (jv 3) (jv 5)) (Ē (Ē (jv 1) (jv 5)) (jv 4)))))))))))))))))) ?_;rintro ds h Q ⟨T,U,k,b,f,rfl,hT,hU,hb,h6,q⟩;refine⟨rfl,?_⟩;refine ji (λÂ h'=>Â= [zq (ju T),zq (ju U),zq (.int (k:P4)),xa,xa,xa]/\h=h') (λC hC=>⟨_,rfl,hC _ _ ⟨by rw [G6,hT.len];rfl,rfl⟩⟩) ?_;rintro _ _ ⟨rfl,rfl⟩;refine FR T wU (λr=> .tup ((R6 k).map λj=> .int (Yc k λm=>r.getD m 0*ě U m j))) (by rw [hT.len];omega) rfl (λR r=>⟨_,rfl,r⟩) (λr hr Q' q'=> ?_) ⟨h,Sub.refl h,?_⟩
 ·refine FR (R6 k) (λj=> .int (j:P4)) (λj=> .int (Yc k λm=>r.getD m 0*ě U m j)) (by rw [B3];omega) rfl (λR rr=>⟨_,rfl,(k:P4),rfl,by omega,by omega,rr⟩) (λj hj Q'' q''=> ?_) q';refine kj (R6 k) (λm=> .int (m:P4)) (λm=>r.getD m 0*ě U m j) (by rw [B3];omega) rfl (λR rr=>⟨_,rfl,(k:P4),rfl,by omega,by omega,rr⟩) (λm hm Q3 q3=> ?_) q'';have hm':=O4.mp hm;have hj':=O4.mp hj;refine⟨_,rfl,_,rfl,_,XQ (hT.row r hr) hm',_,rfl,_,rfl,_,FT hU hm',_,rfl,_,XQ (hU.row _ (Sq.getRow hU hm')) hj',?_,q3⟩;refine Ni (e:=b) (f:=f) ?_ (hU.ent_nn hm' hj') (by omega);have hm2:m<r.length:=by rw [hT.row r hr];exact hm'
  have e1:r.getD m 0=r[m]:=by rw [T3,G5 hm2];rfl
  rw [e1];exact⟨hT.nn r hr _ (N9 hm2),hT.bit r hr _ (N9 hm2)⟩
 ·rw [Nk hT];exact q
def VP:RDn:=λds h Q=> ∃T,∃n e:P0,ds= [ju T]/\Sq n e T/\1<=n/\n<=6/\Q (.bl (UD T)) h
def LY (Z:Zs mg)(F:â K "full" "full" Mj f fd)(vh:jn P w K mg base n "want_table" ["thing"] yB):Ì P w K mg base à (n+1) f fd ["table"] (í K VP):=by
 refine F.okM MB (λhr=>(js2 (vC (jk vh hr (j1 (jv 0)))) (zf (yH (Uv rfl) rfl Z.all Z7 (j1 (kg (i:=1) (i':=2) (js:= [1,2]) rfl (zK (by rfl)) (wG (jv 0)) (by decide) (by decide) (by decide) MB.nd rfl rfl (by first|exact A3 rfl|exact aR rfl) (by first|exact A3 rfl|exact aR rfl) (λX' hX=>JV) (λX' hX=>by obtain⟨C,s₀,H₀,ex,rfl⟩:=hX;exact(wG (jv 1))) (λX' hX=>JV) (λX' hX=>by obtain⟨C,s₀,H₀,ex,rfl⟩:=hX;exact(jc1 Ě (jv 2) jw)))))))) ?_;rintro ds h Q ⟨T,k,b,rfl,hT,h1,h6,q⟩;refine⟨rfl,?_⟩;refine jF [zq (ju T),xa,xa] (λC hC=>⟨_,rfl,T,k,b,rfl,hT,h1,h6,hC⟩) ?_;refine kr T wU (λr=>r) D.int (λ_ x=>decide (x≠0)) (Nj hT h6) rfl (λR r=>⟨_,rfl,r⟩) (λr hr R rr=>⟨_,rfl,rr⟩) (λr hr x hx Q' q'=>⟨_,rfl,?_⟩) ⟨h,Sub.refl h,q⟩;show Q' (.bl (!decide (x=0))) h;have e:(!decide (x=0))=decide (x≠0):=by simp
 rw [e];exact q'
def VQ:RDn:=λds h Q=> ∃T,∃n e:P0,ds= [ju T]/\Sq n e T/\1<=n/\n<=6/\Q (ju (GL n T)) h
def Bv (Z:Zs mg)(F:â K "marks" "marks" Qo f fd)(vh:jn P w K mg base n "want_table" ["thing"] yB):Ì P w K mg base à (n+1) f fd ["table"] (í K VQ):=by
 refine F.okM VH (λhr=>(js2 (vC (jk vh hr (j1 (jv 0)))) (zf (zj wF rfl Z.tuple (by decide +kernel) (j1 (Μ 1 VH (wG (jv 0)) (λ_ _ _ _=>(zj wF rfl Z.tuple (by decide +kernel) (j1 (Μ 2 VH (wG (jv 1)) (λ_ _ _ _=>(jif (î Ě (jv 2) jw) jw jw)))))))))))) ?_;rintro ds h Q ⟨T,k,b,rfl,hT,h1,h6,q⟩;refine⟨rfl,?_⟩;refine jF [zq (ju T),xa,xa] (λC hC=>⟨_,rfl,T,k,b,rfl,hT,h1,h6,hC⟩) ?_;refine FR T wU (λr=> .tup (r.map λx=> .int (if x≠0 then 1 else 0))) (by rw [hT.len];omega) rfl (λR r=>⟨_,rfl,r⟩) (λr hr Q' q'=> ?_) ⟨h,Sub.refl h,?_⟩
 ·refine FR r D.int (λx=> .int (if x≠0 then 1 else 0)) (by rw [hT.row r hr];omega) rfl (λR r=>⟨_,rfl,r⟩) (λx hx Q'' q''=>⟨_,rfl,_,rfl,?_⟩) q'
  by_cases z:x=0
  ·subst z;exact jU q''
  ·have e:(!decide (x=0))=xb:=by simp [z]
   rw [e];rw [S5 z] at q'';exact vA q''
 ·rw [FU,<-FV hT];exact q
def vK:RDn:=λds h Q=> ∃M T,∃n e:P0,ds= [ju M,ju T]/\Sq n 1 M/\Sq n e T/\1<=n/\n<=6/\e<=1000/\Q (ju (ř n T M)) h
def Yl (Z:Zs mg)(F:â K "marks_after" "marks_after" yy f fd)(QF:jn P w K mg base n "marks" ["table"] VQ)(Xr:jn P w K mg base n "multiplied" ["one","other"] Jy):Ì P w K mg base à (n+1) f fd ["ahead","table"] (í K vK):=by
 refine F.okM Yj (λhr=>(jO (zf (jk QF hr (j1 (jk Xr hr (j2 (jv 0) (jv 1)))))))) ?_;rintro ds h Q ⟨M,T,n,b,rfl,hM,hT,h1,h6,hb,q⟩;refine⟨rfl,?_⟩;exact⟨_,rfl,_,rfl,M,T,n,1,b,rfl,hM,hT,by omega,h6,FO n M T,n,_,rfl,hM.mul hT (by omega),h1,h6,h,Sub.refl h,q⟩
variable {σ:SD}{h:HD}
def WN {g:TGD}{d:D}{t:TSD}{E:EndsD}(x: ∀E':EndsD,(∀Â h',E.nx Â h'->E'.nx Â h')->g d σ h λÜ h2=>t E' Ü h2):g d σ h λÜ h2=>t E Ü h2:=x E λ_ _ z=>z
def VR {t:TSD}{E:EndsD}(x: ∀E':EndsD,(∀Â h',E.nx Â h'->E'.nx Â h')->t E' σ h):t E σ h:=x E λ_ _ z=>z
variable {i:P0}
def Gw {d:D}{t:TSD}{E:EndsD}(x: ∀E':EndsD,(∀Â h',E.nx Â h'->E'.nx Â h')->t E' (σ.set i (zq d)) h):gN i d σ h λÜ h2=>t E Ü h2:=x E λ_ _ z=>z
/-- X0X comes next behind each of ζ marks -/
def nxD (n:P0)(Ts:G0 (G0 (G0 P4)))(M:G0 (G0 P4)):G0 D:=(R6 Ts.length).map λi=>ju (ř n (Ts.getD i []) M)
def ċ (n:P0)(Ts:G0 (G0 (G0 P4)))(F:Fnd)(L:P1 G7)(kv:G0 (G0 (G0 P4)×D))(h:HD):Prop:=kv.map (·.1)=F.map (·.1)/\ ∀p∈kv,∃X,p.2= .lst X/\h X=zq (nxD n Ts p.1)/\zq X≠L
variable {Ts:G0 (G0 (G0 P4))}{F:Fnd}{kv:G0 (G0 (G0 P4)×D)}
def ċ.len {L:P1 G7}(x:ċ n Ts F L kv h):kv.length=F.length:=by
 have:=xk K7 x.1
 rwa [G6,G6] at this
theorem ċ.none {L:P1 G7}(x:ċ n Ts F L kv h)(g:(zR F T).isSome=xf):zR kv T=xa:=by
 have no:T ∉ F.map (·.1):=Qe (by cases z:zR F T with
  |none=>rfl
  |some _=>rw [z] at g;cases g)
 rw [<-x.1] at no;cases z:zR kv T with
 |none=>rfl
 |some d=>
  unfold zR at z;obtain⟨p,hp,_⟩:=L0.mp z;exact xj (N5.mpr ⟨p,aA hp,by have z:=iB hp;exact E9 z⟩) no
def Bw {w:G0 P0}(hw:w≠ [])(a:P0):Ž n Ts (w++ [a])= .tup [.tup ((w.map λ(k:P0)=>D.int (k:P4))++ [.int (a:P4)]),ju (ř n (Ts.getD a []) (ÿ n Ts w))]:=by
 unfold Ž XO;rw [Bf hw,T9];rfl
def LZ {s:Fnd×G0 (G0 P0)}{w:G0 P0}:(s.2++(R6 Ts.length).map λa=>w++ [a]).map (Ž n Ts)=s.2.map (Ž n Ts)++(R6 Ts.length).map λa=>Ž n Ts (w++ [a]):=by
 rw [T9,M9];rfl
def Mo {s0:Fnd×G0 (G0 P0)}{ws:G0 (G0 P0)}{w:G0 P0}(e:ws[i]? =zq w):(ws.take (i+1)).foldl (lvS n Ts) s0=lvS n Ts ((ws.take i).foldl (lvS n Ts) s0) w:=by
 rw [uK,e,lO];rfl
inductive WnW (n:P0)(Ts:G0 (G0 (G0 P4)))(h:HD)(A W N:G7)(m:P0)(Â:SD)(h':HD):Prop
 |mk (k:P0) (Fr:G7) (b4 b5 b6:P1 D) (ep ç:P0) (kv:G0 (G0 (G0 P4)×D)) (s:Fnd×G0 (G0 P0)) (z1:Â= [zq (.lst A),zq (.dct W),zq (.dct N),zq (.lst Fr),b4,b5,b6,xa,xa,xa]) (z2:s=ω n Ts k) (z3:h' A=zq (Ts.map ju)) (z4:h'.dc W=zq (.tk ep (ĝ s.1))) (z5:h'.dc N=zq (.tk ç kv)) (z6:ċ n Ts s.1 xa kv h') (z7:h' Fr=zq (s.2.map (Ž n Ts))) (z8:Sub h h') (z9:m=Bg s) (z10:k+m<=1025):WnW n Ts h A W N m Â h'
inductive WnF (n:P0)(Ts:G0 (G0 (G0 P4)))(h:HD)(A W N Fr L:G7)(s:Fnd×G0 (G0 P0))(i:P0)(Â:SD)(h':HD):Prop
 |mk (b5 b6:P1 D) (ep ç:P0) (kv:G0 (G0 (G0 P4)×D)) (s':Fnd×G0 (G0 P0)) (z1:Â= [zq (.lst A),zq (.dct W),zq (.dct N),zq (.lst Fr),zq (.lst L),b5,b6,xa,xa,xa]) (z2:s'=(s.2.take i).foldl (lvS n Ts) (s.1,[])) (z3:h' A=zq (Ts.map ju)) (z4:h'.dc W=zq (.tk ep (ĝ s'.1))) (z5:h'.dc N=zq (.tk ç kv)) (z6:ċ n Ts s'.1 (zq L) kv h') (z7:h' Fr=zq (s.2.map (Ž n Ts))) (z8:h' L=zq (s'.2.map (Ž n Ts))) (z9:Sub h h'):WnF n Ts h A W N Fr L s i Â h'
inductive WnC (n:P0)(Ts:G0 (G0 (G0 P4)))(h:HD)(A W N Fr L:G7)(σ0:SD)(ks kn:Fnd)(ç:P0)(kv:G0 (G0 (G0 P4)×D))(s2 ls:G0 (G0 P0))(Â:SD)(h':HD):Prop
 |mk (ep:P0) (z1:Â=σ0) (z3:h' A=zq (Ts.map ju)) (z4:h'.dc W=zq (.tk ep (ĝ ks))) (z5:h'.dc N=zq (.tk ç kv)) (z6:ċ n Ts kn (zq L) kv h') (z7:h' Fr=zq (s2.map (Ž n Ts))) (z8:h' L=zq (ls.map (Ž n Ts))) (z9:Sub h h'):WnC n Ts h A W N Fr L σ0 ks kn ç kv s2 ls Â h'
def jX:RDn:=λds h Q=> ∃A Ts,∃n:P0,ds= [.lst A]/\h A=zq (Ts.map ju)/\Ú n Ts/\ ∀W N ep ç kv h',h'.dc W=zq (.tk ep (ĝ (Ļ n Ts)))->h'.dc N=zq (.tk ç kv)->ċ n Ts (Ļ n Ts) xa kv h'->Sub h h'->Q (.tup [.dct W,.dct N]) h'
def Zl (Z:Zs mg)(F:â K "ways_and_nexts" "ways_and_nexts" wj f fd)(QF:jn P w K mg base n "marks" ["table"] VQ)(VZ:jn P w K mg base n "marks_after" ["ahead","table"] vK):Ì P w K mg base à (n+1) f fd ["tables"] (í K jX):=by
 refine F.okM jB (λhr=>(js5 (Ă 1 jB Ce) (Ă 2 jB Ce) (FN (i:=7) (j:=8) (k:=3) (js:= [7,8]) rfl jB.nd rfl (A3 rfl) (zK (by rfl)) (Jn rfl Z.enumerate (j1 (jv 0))) (by decide) (by decide) (by decide) rfl rfl (by first|exact A3 rfl|exact aR rfl) (by first|exact A3 rfl|exact aR rfl) (λX' hX=>JV) (λX' hX=>by obtain⟨C,s₀,H₀,ex,rfl⟩:=hX;exact(yf (j2 (yf (j1 (jv 7))) (jk QF hr (j1 (jv 8))))))) (DY L9 (Ey (jv 3)) (js3 (Ă 4 jB (vB zu)) (QX L9 rfl (wG (jv 3)) (yG (i:=5) (j:=6) rfl jB.nd rfl rfl (by first|exact aR rfl|exact A3 rfl) (by first|exact aR rfl|exact A3 rfl)) (jO (Ed (GI (RK hr) (jv 6) (jv 1) (by with_unfolding_all rfl)) (js3 (ER hr (jv 1) (jv 6) (jv 5)) (ER hr (jv 2) (jv 6) (Μ 8 jB (wG (jv 0)) (λ_ _ _ _=>(jk VZ hr (j2 (jv 6) (jv 8)))))) (vC (uc (jv 4) (Kc (i:=7) (j:=9) (js:= [7,9]) rfl (zK (by rfl)) (Jn rfl Z.enumerate (j1 (EQ hr (jv 2) (jv 6)))) (by decide) (by decide) (by decide) jB.nd rfl rfl (by first|exact A3 rfl|exact aR rfl) (by first|exact A3 rfl|exact aR rfl) (λX' hX=>JV) (λX' hX=>by obtain⟨C,s₀,H₀,ex,rfl⟩:=hX;exact(yf (j2 (ó jW (jv 5) (yf (j1 (jv 7)))) (jv 9)))))))) UB))) (Ă 3 jB (jv 4)))) (zf (yf (j2 (jv 1) (jv 2)))))) ?_;rintro ds h Q ⟨A,Ts,n,rfl,kA,hT,q⟩;refine⟨rfl,?_⟩;have n1:=hT.n1;have n3:=hT.n3;have l3:=hT.l3;have big: ∀x,x<=3000->x<=xh:=λx hx=>M1 hx (by decide)
 refine ji (λÂ h'=> ∃W,Â= [zq (.lst A),zq (.dct W),xa,xa,xa,xa,xa,xa,xa,xa]/\h.dc W=xa/\h' A=zq (Ts.map ju)/\h'.dc W=zq (.tk 0 [])/\Sub h h') (λC hC=>λW eW=>hC _ _ ⟨W,rfl,eW,kA,wa,.newC eW⟩) ?_;rintro _ h1 ⟨W,rfl,fW,kA1,kW,sb1⟩;refine ji (λÂ h'=> ∃N,Â= [zq (.lst A),zq (.dct W),zq (.dct N),xa,xa,xa,xa,xa,xa,xa]/\h.dc N=xa/\N≠W/\h' A=zq (Ts.map ju)/\h'.dc W=zq (.tk 0 [])/\h'.dc N=zq (.tk 0 [])/\Sub h h') (λC hC=>λN eN=> ?_) ?_
 ·have nW:N≠W:=λz=>by rw [z,kW] at eN;cases eN
  have fN:h.dc N=xa:=by
   cases z:h.dc N with
   |none=>rfl
   |some c=>rw [sb1.dc N c z] at eN;cases eN
  exact hC _ _ ⟨N,rfl,fN,nW,kA1,(vO (O6 nW)).trans kW,wa,sb1.overC fN⟩
 clear kA1 kW sb1;rintro _ h2 ⟨N,rfl,fN,nW,kA2,kW,kN,sb2⟩;refine ji (λÂ h'=> ∃Fr,Â= [zq (.lst A),zq (.dct W),zq (.dct N),zq (.lst Fr),xa,xa,xa,xa,xa,xa]/\h' A=zq (Ts.map ju)/\h'.dc W=zq (.tk 0 [])/\h'.dc N=zq (.tk 0 [])/\h' Fr=zq ((ω n Ts 0).2.map (Ž n Ts))/\Sub h h') (λC hC=>Kg (j:=λh=>(h A).map Yd) (R6 Ts.length) (λ(x:P0)=> .int (x:P4)) (λx=>ju (Ts.getD x [])) (λx=>Ž n Ts [x]) (by rw [B3];omega) ?_ (λR r=>⟨_,rfl,A,rfl,r⟩) (λx hx Q' q'=>⟨_,rfl,sz1,_,rfl,Ts.getD x [],n,20,rfl,hT.get (O4.mp hx),n1,by omega,ż,q'⟩) λFr eF=>hC _ _ ⟨Fr,rfl,je kA2 eF,kW,kN,?_,sb2.newAt eF⟩) ?_
 ·show (h2 A).map Yd=_;rw [kA2,bL,YQ,VB (n:=n) (λ_ T=>T)]
 ·rw [jc];show zq _=zq (((R6 Ts.length).map λa=> [a]).map (Ž n Ts));rw [M9];rfl
 clear kA2 kW kN sb2;rintro _ h3 ⟨Fr,rfl,kA3,kW,kN,kF,sb3⟩;refine ji (λÂ h'=> ∃Fr b4 b5 b6 ep ç kv,Â= [zq (.lst A),zq (.dct W),zq (.dct N),zq (.lst Fr),b4,b5,b6,xa,xa,xa]/\h'.dc W=zq (.tk ep (ĝ (Ļ n Ts)))/\h'.dc N=zq (.tk ç kv)/\ċ n Ts (Ļ n Ts) xa kv h'/\Sub h h') (λC hC=> ?_) ?_
 ·refine Vl (WnW n Ts h A W N) _ ⟨0,Fr,_,_,_,0,0,[],_,rfl,rfl,kA3,kW,kN,⟨rfl,(λ_ z=>nomatch z)⟩,kF,sb3,rfl,RX hT.l1⟩ ?_;clear kA3 kW kN kF sb3;rintro m _ h4 ⟨k,Fr,b4,b5,b6,ep,ç,kv,s,rfl,es,kA4,kW,kN,nx,kF,sb4,rfl,hk⟩;have bn:Bin n Ts k s:=es ▸ Qf l3 k;refine⟨_,rfl,_,⟨_,kF,rfl⟩,?_⟩
  by_cases ez:s.2= []
  ·rw [ez];refine jU (hC _ _ ⟨Fr,b4,b5,b6,ep,ç,kv,rfl,?_,kN,?_,sb4⟩)
   ·rw [<-RW (k:=k) (es ▸ ez) (by omega),<-es];exact kW
   ·rw [<-RW (k:=k) (es ▸ ez) (by omega),<-es];exact nx
  rw [show (!(s.2.map (Ž n Ts)).isEmpty)=xb from by
   cases z:s.2 with
   |nil=>exact xj z ez
   |cons=>rfl]
  refine vA (VR λE1 Β=> ?_);refine ji (λÂ h'=> ∃L,L≠A/\L≠Fr/\h L=xa/\WnC n Ts h A W N Fr L [zq (.lst A),zq (.dct W),zq (.dct N),zq (.lst Fr),zq (.lst L),b5,b6,xa,xa,xa] s.1 s.1 ç kv s.2 [] Â h') (λC hC=>⟨sz0,λL eL=>hC _ _ ⟨L,jq kA4 eL,jq kF eL,Gh sb4 eL,ep,rfl,je kA4 eL,kW,kN,⟨nx.1,λp hp=> ?_⟩,je kF eL,jc,sb4.newAt eL⟩⟩) ?_
  ·obtain⟨X,e1,e2,_⟩:=nx.2 p hp;exact⟨X,e1,je e2 eL,λz=>by injection z with z;exact jq e2 eL z.symm⟩
  clear kA4 kW kN nx kF sb4;rintro _ h5 ⟨L,nA,nF,fL,ep,rfl,kA5,kW,kN,nx,kF,kL,sb5⟩;refine ji (λÂ h'=> ∃b5 b6 ep ç kv s',Â= [zq (.lst A),zq (.dct W),zq (.dct N),zq (.lst Fr),zq (.lst L),b5,b6,xa,xa,xa]/\s'=LJ n Ts s/\h' A=zq (Ts.map ju)/\h'.dc W=zq (.tk ep (ĝ s'.1))/\h'.dc N=zq (.tk ç kv)/\ċ n Ts s'.1 xa kv h'/\h' L=zq (s'.2.map (Ž n Ts))/\Sub h h') (λC hC=> ?_) ?_
  ·refine ZW (h1:=h5) (j:=λh=>h Fr) (s.2.map (Ž n Ts)) (WnF n Ts h A W N Fr L s) (λR r=>⟨_,rfl,r⟩) (λi Â h' ⟨_,_,_,_,_,_,_,_,_,_,_,_,z,_,_⟩=>z) ⟨b5,b6,ep,ç,kv,_,rfl,rfl,kA5,kW,kN,nx,kF,kL,sb5⟩ (λÂ h' ⟨b5,b6,ep,ç,kv,s',e,Ŏ,a1,a2,a3,a4,_,a6,a7⟩=>hC _ _ ⟨b5,b6,ep,ç,kv,s',e,?_,a1,a2,a3,⟨a4.1,λp hp=>let ⟨X,e1,e2,_⟩:=a4.2 p hp;⟨X,e1,e2,λz=>nomatch z⟩⟩,a6,a7⟩) ?_
   ·rw [Ŏ,G6,W3];rfl
   clear kA5 kW kN nx kF kL sb5;rintro i d _ h6 hd ⟨c5,c6,ep,ç,kv,s',rfl,Ŏ,kA6,kW,kN,nx,kF,kL,sb6⟩;have hil:=(P8.mp hd).1;rw [D1] at hd;obtain⟨w,ew,rfl⟩:=L0.mp hd;obtain⟨hw,lw⟩:=bn.fr w (P5 ew);have md:Mid n Ts k s.1.length s':=Ŏ ▸ bn.mids l3 i;have few:=md.few n3;have nxt:=md.step l3 hw lw;have k1025:k<=1025:=by omega
   have es2:(s.2.take (i+1)).foldl (lvS n Ts) (s.1,[])=lvS n Ts s' w:=by rw [Mo ew,<-Ŏ]
   refine WN λE2 nx2=> ?_
   refine⟨_,_,rfl,?_⟩;refine⟨_,rfl,_,rfl,W,ÿ n Ts w,ep,_,rfl,rfl,kW,_,rfl,?_⟩;show if (xb !=(zR (ĝ s'.1) (ÿ n Ts w)).isSome)=xb then _ else _
   rw [RY];cases hg:(zR s'.1 (ÿ n Ts w)).isSome with
   |true=>exact jU (nx2 _ _ ⟨_,Sub.refl _,hil,_,_,ep,ç,kv,s',rfl,by rw [es2,RU hg],kA6,kW,kN,nx,kF,kL,sb6⟩)
   |false=>
    have es3:=es2.trans (RV hg);refine vA ?_;refine ji (WnC n Ts h A W N Fr L [zq (.lst A),zq (.dct W),zq (.dct N),zq (.lst Fr),zq (.lst L),zq (XO w),zq (ju (ÿ n Ts w)),xa,xa,xa] (s'.1++ [(ÿ n Ts w,w)]) s'.1 ç kv s.2 s'.2) (λC hC=>⟨_,rfl,_,rfl,_,rfl,W,ÿ n Ts w,ep,ĝ s'.1,rfl,rfl,kW,by unfold ĝ;rw [G6];omega,λý=>hC _ _ ⟨ý,rfl,kA6,by rw [wa,LK hg],(vO nW).trans kN,nx,kF,kL,sb6.overC fW⟩⟩) ?_;clear kA6 kW kN kF kL sb6;rintro _ h7 ⟨ep,rfl,kA7,kW,kN,nx,kF,kL,sb7⟩;refine ji (λÂ h'=> ∃X ç,h' X=zq (nxD n Ts (ÿ n Ts w))/\WnC n Ts h A W N Fr L [zq (.lst A),zq (.dct W),zq (.dct N),zq (.lst Fr),zq (.lst L),zq (XO w),zq (ju (ÿ n Ts w)),xa,xa,xa] (s'.1++ [(ÿ n Ts w,w)]) (s'.1++ [(ÿ n Ts w,w)]) ç (kv++ [(ÿ n Ts w,.lst X)]) s.2 s'.2 Â h') (λC hC=>lcA (j:=λh=>h A) (R6 Ts.length) (λx=>ju (Ts.getD x [])) (λx=>ju (ř n (Ts.getD x []) (ÿ n Ts w))) (by rw [B3];omega) (by show h7 A=_;rw [kA7,YQ]) (λR r=>⟨_,rfl,r⟩) (λx hx Q' q'=>⟨_,rfl,_,rfl,ÿ n Ts w,Ts.getD x [],n,20,rfl,Gq w,hT.get (O4.mp hx),n1,by omega,by decide,q'⟩) λX eX=>⟨_,rfl,_,rfl,N,ÿ n Ts w,ç,kv,rfl,rfl,kN,by rw [nx.len];omega,λý=>hC _ _ ⟨X,ý,jc,ep,rfl,je kA7 eX,(vO (O6 nW)).trans kW,by rw [wa,(VA (nx.none hg)).1],⟨?_,λp hp=> ?_⟩,je kF eX,je kL eX,(sb7.newAt eX).overC fN⟩⟩) ?_
    ·rw [T9,T9,nx.1];rfl
    ·rcases D9.mp hp with z|z
     ·obtain⟨Y,e1,e2,e3⟩:=nx.2 p z;exact⟨Y,e1,je e2 eX,e3⟩
     ·rw [P2.mp z];exact⟨X,rfl,jc,λz=>by injection z with z;exact jq kL eX z⟩
    have gt: ∀X,zR (kv++ [(ÿ n Ts w,D.lst X)]) (ÿ n Ts w)=zq (.lst X):=λX=>by
     have z:=VA (d:=D.lst X) (nx.none hg);rw [<-z.1];exact z.2
    clear kA7 kW kN kF kL sb7 nx;rintro _ h8 ⟨X,ç,kX,ep,rfl,kA8,kW,kN,nx,kF,kL,sb8⟩;refine⟨_,rfl,L,rfl,Kg (j:=λh=>(h X).map Yd) (R6 Ts.length) (λ(x:P0)=> .int (x:P4)) (λx=>ju (ř n (Ts.getD x []) (ÿ n Ts w))) (λx=>Ž n Ts (w++ [x])) (by rw [B3];omega) ?_ (λR r=>⟨_,rfl,_,rfl,N,ÿ n Ts w,ç,_,.lst X,rfl,rfl,kN,gt X,X,rfl,r⟩) (λx hx Q' q'=>⟨_,rfl,_,rfl,sz1,?_,_,rfl,ż,?_⟩) λY eY=>⟨Y,_,_,rfl,je kL eY,jc,?_,nx2 _ _ ⟨_,Sub.refl _,hil,_,_,ep,ç,_,(s'.1++ [(ÿ n Ts w,w)],s'.2++(R6 Ts.length).map λa=>w++ [a]),rfl,es3.symm,jg (O6 nA) (je kA8 eY),kW,kN,⟨nx.1,λp hp=> ?_⟩,jg (O6 nF) (je kF eY),by rw [jc,LZ],(sb8.newAt eY).over fL⟩⟩⟩
    ·show (h8 X).map Yd=_;rw [kX,bL];exact xk zq (VB (n:=n) λ_ T=>ř n T (ÿ n Ts w))
    ·rw [G6];exact big _ (by simp only [D8,B6];omega)
    ·rw [Bw hw.1] at q';exact q'
    ·rw [G6,G6,B3];exact big _ (by have:=md.gr;omega)
    ·obtain⟨Z,e1,e2,e3⟩:=nx.2 p hp;exact⟨Z,e1,jg (λz=>e3 (xk zq z)) (je e2 eY),e3⟩
  clear kA5 kW kN nx kF kL sb5;rintro _ h6 ⟨c5,c6,ep,ç,kv,s',rfl,Ŏ,kA6,kW,kN,nx,kL,sb6⟩;have ls:Bg s'<Bg s:=by rw [Ŏ];exact Bh bn n3 l3 ez
  exact⟨_,rfl,Β _ _ ⟨Bg s',_,ls,Sub.refl _,k+1,L,_,_,_,ep,ç,kv,s',rfl,by rw [Ŏ,es];rfl,kA6,kW,kN,nx,kL,sb6,rfl,by omega⟩⟩
 clear kA3 kW kN kF sb3;rintro _ h4 ⟨Fr,b4,b5,b6,ep,ç,kv,rfl,kW,kN,nx,sb4⟩;exact⟨_,rfl,_,rfl,ż,h4,Sub.refl _,q W N ep ç kv h4 kW kN nx sb4⟩
def EV (L:G0 (G0 (G0 P4))):(L.map λM=>(M,D.bl xb)).map (λp=>ju p.1)=L.map ju:=by rw [M9];rfl
variable {M:G0 (G0 P4)}
def Cn (x:ċ n Ts F xa kv h)(m:M∈F.map (·.1)): ∃X,zR kv M=zq (.lst X)/\h X=zq (nxD n Ts M):=by
 rw [<-x.1] at m;cases e:kv.find? λp=>decide (p.1=M) with
 |none=>
  obtain⟨p,hp,ep⟩:=N5.mp m;have:=dP.mp e p hp;exact xj (S6 ep) this
 |some p=>
  obtain⟨X,e1,e2,_⟩:=x.2 p (aA e);have ek:p.1=M:=E9 (iB (p:=λp:G0 (G0 P4)×D=>decide (p.1=M)) e);exact⟨X,by unfold zR;rw [e];exact xk zq e1,ek ▸ e2⟩
def YT:RDn:=λds h Q=> ∃ (N Lf:G7) (Ts L:G0 (G0 (G0 P4))) (kv:G0 (G0 (G0 P4)×D)) (ep ç n:P0),ds= [.dct N,.dct Lf]/\Ú n Ts/\h.dc N=zq (.tk ç kv)/\ċ n Ts (Ļ n Ts) xa kv h/\h.dc Lf=zq (.tk ep (L.map λM=>(M,D.bl xb)))/\(∀M∈L,M∈VE n Ts)/\L.length<=512/\ ∀p,h p=xa->Q (.lst p) (wd h p ((L.filter λM=> !nxA n Ts L M).map ju))
def Ph (Z:Zs mg)(F:â K "ends_of" "ends_of" WH f fd):Ì P w K mg base à (n+1) f fd ["nexts","left"] (í K YT):=by
 refine F.okM Zi (λhr=>(jO (zf (jl1 2 Zi (Qh (jv 1)) (λ_ _ _ _=>(wc (wb (yH (BT rfl) rfl Z.any (by decide +kernel) (j1 (Μ 3 Zi (wG (EQ hr (jv 0) (jv 2))) (λ_ _ _ _=>(HZ (Cf hr) (jv 3) (jv 1) (by with_unfolding_all rfl))))))))) (λ_ _ _ _=>(jv 2)))))) ?_;rintro ds h Q ⟨N,Lf,Ts,L,kv,ep,ç,n,rfl,hT,kN,nx,kL,sub,lL,q⟩;refine⟨rfl,?_⟩;have l3:=hT.l3;refine lcF (j:=Xa Lf ep (L.map λM=>(M,D.bl xb)).length) L ju ju (λM=> !nxA n Ts L M) (by omega) (by rw [VC kL,EV]) (λR r=>⟨_,rfl,Lf,ep,_,rfl,kL,r⟩) (λM hM Q' q'=> ?_) (λM hM _ Q' q'=>⟨_,rfl,q'⟩) (λp hp=>⟨_,Sub.refl _,q p hp⟩);obtain⟨X,gX,kX⟩:=Cn nx (sub M hM);exact Kd (j:=λh=>h X) (R6 Ts.length) (λi=>ju (ř n (Ts.getD i []) M)) (λi=>decide (ř n (Ts.getD i []) M∈L)) (by rw [B3];omega) kX (λR r=>⟨_,rfl,_,rfl,N,M,ç,kv,_,rfl,rfl,kN,gX,r⟩) (λi hi Q'' q''=>⟨_,rfl,_,rfl,Lf,_,ep,_,rfl,rfl,kL,by rw [Cj,uM];exact q''⟩) ⟨_,rfl,q'⟩
def ĵ (n:P0)(Ts:G0 (G0 (G0 P4)))(k:P0):G0 (G0 (G0 P4)):=(ē n Ts k).filter λM=> !nxA n Ts (ē n Ts k) M
def Qt {h':HD}(x:ċ n Ts F xa kv h)(sb:Sub h h'):ċ n Ts F xa kv h':=⟨x.1,λp hp=>let ⟨X,e1,e2,e3⟩:=x.2 p hp;⟨X,e1,sb _ _ e2,e3⟩⟩
def Bx (L:G0 (G0 (G0 P4)))(M:G0 (G0 P4)):HT.Yb (L.map λM=>(M,D.bl xb)) M=(L.filter λN=> !decide (N=M)).map λM=>(M,D.bl xb):=by
 unfold HT.Yb;rw [List.filter_map];rfl
def Co (E L:G0 (G0 (G0 P4)))(i:P0):G0 (G0 (G0 P4)):=L.filter λN=> !decide (N∈E.take i)
variable {L:G0 (G0 (G0 P4))}
def By {E:G0 (G0 (G0 P4))}:Co E L 0=L:=o7.mpr λM _=>by rw [fE];exact xk (!·) (S0 λz=>nomatch z)
def Bz {E:G0 (G0 (G0 P4))}(e:E[i]? =zq M):(Co E L i).filter (λN=> !decide (N=M))=Co E L (i+1):=by
 unfold Co;rw [List.filter_filter];refine rN λN _=> ?_
 rw [L5,e];show (!decide (N=M)&& !decide (N∈E.take i))= !decide (N∈E.take i++ [M]);rw [<-Bool.not_or,<-Bool.decide_or];refine xk (!·) (decide_eq_decide.mpr ⟨λz=> ?_,λz=> ?_⟩)
 ·rcases z with z|z
  ·rw [z];exact D3 _ R1
  ·exact O0 _ z
 ·rcases D9.mp z with z|z
  ·exact .inr z
  ·exact .inl (P2.mp z)
theorem Cp (l3:Ts.length<=3): ∀k,(ē n Ts k).Nodup
 |0=>((vZ (n:=n) l3).nd).filter _
 |k+1=>(Cp l3 k).filter _
variable {k:P0}
def VS (h:M∈ē n Ts k):M∈VE n Ts:=(A4.mp (LV (B0 k) h)).1
theorem VT (n3:n<=3)(l3:Ts.length<=3): ∀k,(ē n Ts k).length<=512
 |0=>M1 (V9 _ _) (by unfold VE;rw [G6];exact(vZ (n:=n) l3).few n3)
 |k+1=>M1 (V9 _ _) (VT n3 l3 k)
def Oa (l3:Ts.length<=3)(e:(ĵ n Ts k)[i]? =zq M):M∈Co (ĵ n Ts k) (ē n Ts k) i:=by
 refine A4.mpr ⟨(A4.mp (P5 e)).1,?_⟩;have nd:(ĵ n Ts k).Nodup:=(Cp l3 k).filter _;have il:=(P8.mp e).1;have t:(ĵ n Ts k).take (i+1)=(ĵ n Ts k).take i++ [M]:=by rw [L5,e];rfl
 have:=nd.sublist (Q9 (i+1) _);rw [t] at this;rw [S0 λz=>(aN.mp this).2.2 _ z _ R1 rfl];rfl
def Ob:Co (ĵ n Ts k) (ē n Ts k) (ĵ n Ts k).length=ē n Ts (k+1):=by
 unfold Co;rw [W3];refine rN λM hM=> ?_
 cases z:nxA n Ts (ē n Ts k) M with
 |true=>rw [S0 λy=>by have:=(A4.mp y).2;rw [z] at this;cases this];rfl
 |false=>
  have y:M∈ĵ n Ts k:=A4.mpr ⟨hM,by rw [z];rfl⟩;rw [S6 y];rfl
def BB (h:ĵ n Ts k≠ []):(ē n Ts (k+1)).length<(ē n Ts k).length:=by
 obtain⟨M,hM⟩:=List.exists_mem_of_ne_nil _ h;obtain⟨a,b⟩:=A4.mp hM;refine List.length_filter_lt_length_iff_exists.mpr ⟨M,a,λz=> ?_⟩;rw [z] at b;cases b
inductive RlW (n:P0)(Ts:G0 (G0 (G0 P4)))(h:HD)(N Lf:G7)(m:P0)(Â:SD)(h':HD):Prop
 |mk (r ep:P0) (E:G7) (b4:P1 D) (z1:Â= [zq (.dct N),zq (.dct Lf),zq (.int ((r:P0):P4)),zq (.lst E),b4]) (z2:h'.dc Lf=zq (.tk ep ((ē n Ts r).map λM=>(M,D.bl xb)))) (z3:h' E=zq ((ĵ n Ts r).map ju)) (z4: ∀i<r,ĵ n Ts i≠ []) (z5:Sub h h') (z6:m=(ē n Ts r).length):RlW n Ts h N Lf m Â h'
inductive RlF (n:P0)(Ts:G0 (G0 (G0 P4)))(h:HD)(N Lf:G7)(E:G7)(r i:P0)(Â:SD)(h':HD):Prop
 |mk (ep:P0) (b4:P1 D) (z1:Â= [zq (.dct N),zq (.dct Lf),zq (.int ((r:P0):P4)),zq (.lst E),b4]) (z2:h'.dc Lf=zq (.tk ep ((Co (ĵ n Ts r) (ē n Ts r) i).map λM=>(M,D.bl xb)))) (z3:h' E=zq ((ĵ n Ts r).map ju)) (z4:Sub h h'):RlF n Ts h N Lf E r i Â h'
def zl:RDn:=λds h Q=> ∃N Ts kv ç,∃n:P0,ds= [.dct N]/\Ú n Ts/\h.dc N=zq (.tk ç kv)/\ċ n Ts (Ļ n Ts) xa kv h/\ ∀Lf r ep h',h'.dc Lf=zq (.tk ep ((ē n Ts r).map λM=>(M,D.bl xb)))->ĵ n Ts r= []->(∀i<r,ĵ n Ts i≠ [])->Sub h h'->Q (.tup [.int ((r:P0):P4),.dct Lf]) h'
def vb (Z:Zs mg)(F:â K "rounds_and_lasting" "rounds_and_lasting" zw f fd)(Xq:jn P w K mg base n "full" ["table"] VP)(Xp:jn P w K mg base n "ends_of" ["nexts","left"] YT):Ì P w K mg base à (n+1) f fd ["nexts"] (í K zl):=by
 refine F.okM jz (λhr=>(js5 (ET (i:=4) (k:=1) (js:= [4]) hr rfl jz.nd rfl (A3 rfl) (zK (by rfl)) (Qh (jv 0)) (by decide) rfl (by first|exact A3 rfl|exact aR rfl) (λX' hX=>by obtain⟨C,s₀,H₀,ex,rfl⟩:=hX;exact XN (wc (wb (jk Xq hr (j1 (jv 4)))))) (λX' hX=>by obtain⟨C,s₀,H₀,ex,rfl⟩:=hX;exact(jv 4)) (λX' hX=>by obtain⟨C,s₀,H₀,ex,rfl⟩:=hX;exact Ŷ)) (Ă 2 jz jw) (Ă 3 jz (jk Xp hr (j2 (jv 0) (jv 1)))) (DY L9 (Ey (jv 3)) (js3 (QX L9 rfl (wG (jv 3)) (jgn 4 jz) (jO (Hk hr (jv 1) (jv 4)))) (FW (i:=2) jz.nd rfl (A3 rfl) jw) (Ă 3 jz (jk Xp hr (j2 (jv 0) (jv 1)))))) (zf (yf (j2 (jv 2) (jv 1)))))) ?_;rintro ds h Q ⟨N,Ts,kv,ç,n,rfl,hT,kN,nx,q⟩;refine⟨rfl,?_⟩;have n1:=hT.n1;have n3:=hT.n3;have l3:=hT.l3;have kk:kv.map (λp=>ju p.1)=(VE n Ts).map ju:=by
  have:=xk (G0Y ju) nx.1
  rwa [M9] at this
 have lk:(VE n Ts).length<=512:=by unfold VE;rw [G6];exact(vZ (n:=n) l3).few n3
 have lkv:kv.length=(VE n Ts).length:=by unfold VE;rw [G6];exact nx.len
 have ndk:(VE n Ts).Nodup:=(vZ (n:=n) l3).nd;have ky: ∀l:G0 (G0 (G0 P4)),(l.map λM=>(M,D.bl xb)).map (·.1)=l:=λl=>by rw [M9];exact sM l
 refine ji (λÂ h'=> ∃Lf ep,Â= [zq (.dct N),zq (.dct Lf),xa,xa,xa]/\h'.dc Lf=zq (.tk ep ((ē n Ts 0).map λM=>(M,D.bl xb)))/\h.dc Lf=xa/\Sub h h') (λC hC=>⟨_,rfl,N,ç,kv,rfl,kN,kv.length,λi kv' h'=>h=h'/\kv'=(((VE n Ts).take i).filter λM=> !UD M).map λM=>(M,D.bl xb),⟨rfl,rfl⟩,?_⟩) ?_
 ·rintro i kv' _ ⟨rfl,rfl⟩;refine⟨?_,?_,_,(VC kN).trans (xk zq kk),?_,λhi P ep fP=>hC _ _ ⟨P,ep,rfl,?_,fP,.newC fP⟩,λd hd=> ?_⟩
  ·rw [G6];have a:=V9 (λM=> !UD M) ((VE n Ts).take i);have b:=o9 i (VE n Ts);have c:((VE n Ts).take i).length<=(VE n Ts).length:=by rw [S1];exact Y6 _ _
   omega
  ·rw [ky];exact(ndk.sublist (Q9 _ _)).filter _
  ·rw [G6];exact U6 lkv.symm
  ·rw [G6] at hi;rw [S3 hi,wa];rfl
  ·rw [D1] at hd;obtain⟨M,hM,rfl⟩:=L0.mp hd;obtain⟨w,hw,eM⟩:=Br hT (P5 hM);have sq:Sq n 1 M:=eM ▸ Gq w;have st:(VE n Ts).take (i+1)=(VE n Ts).take i++ [M]:=by rw [L5,hM];rfl
   refine⟨_,rfl,_,rfl,M,n,1,rfl,sq,n1,by omega,_,rfl,?_⟩;cases z:UD M with
   |true=>
    refine⟨_,Sub.refl _,rfl,?_⟩;rw [st,p0,E6 (by rw [z];exact D2),tN,A5]
   |false=>
    refine⟨_,rfl,M,_,rfl,?_,Sub.refl _,rfl,?_⟩
    ·rw [ky];have:=ndk.sublist (Q9 (i+1) _);rw [st] at this;exact λy=>(aN.mp this).2.2 _ (A4.mp y).1 _ R1 rfl
    ·rw [st,p0,E7 (by rw [z];rfl),tN,T9];rfl
 rintro _ h1 ⟨Lf,ep,rfl,kL,fL,sb⟩;refine jF [zq (.dct N),zq (.dct Lf),zq (.int ((0:P0):P4)),xa,xa] (λC hC=>hC) ?_;refine ji (λÂ h'=> ∃E,Â= [zq (.dct N),zq (.dct Lf),zq (.int ((0:P0):P4)),zq (.lst E),xa]/\h'.dc Lf=zq (.tk ep ((ē n Ts 0).map λM=>(M,D.bl xb)))/\h' E=zq ((ĵ n Ts 0).map ju)/\Sub h h') (λC hC=>⟨_,rfl,_,rfl,N,Lf,Ts,_,kv,ep,ç,n,rfl,hT,sb.dc _ _ kN,Qt nx sb,kL,λM hM=>VS hM,VT n3 l3 0,λE eE=>hC _ _ ⟨E,rfl,kL,jc,sb.newAt eE⟩⟩) ?_;clear kL sb;rintro _ h2 ⟨E,rfl,kL,kE,sb⟩;refine ji (λÂ h'=> ∃r ep b3 b4,Â= [zq (.dct N),zq (.dct Lf),zq (.int ((r:P0):P4)),b3,b4]/\h'.dc Lf=zq (.tk ep ((ē n Ts r).map λM=>(M,D.bl xb)))/\ĵ n Ts r= []/\(∀i<r,ĵ n Ts i≠ [])/\Sub h h') (λC hC=> ?_) ?_
 ·refine Vl (RlW n Ts h N Lf) _ ⟨0,ep,E,_,rfl,kL,kE,(λ_ z=>xj z (Nat.not_lt_zero _)),sb,rfl⟩ ?_;clear kL kE sb;rintro m _ h3 ⟨r,ep,E,b4,rfl,kL,kE,lo,sb,rfl⟩;refine⟨_,rfl,_,⟨_,kE,rfl⟩,?_⟩
  by_cases ez:ĵ n Ts r= []
  ·rw [ez];exact jU (hC _ _ ⟨r,ep,_,_,rfl,kL,ez,lo,sb⟩)
  rw [show (!((ĵ n Ts r).map ju).isEmpty)=xb from by
   cases z:ĵ n Ts r with
   |nil=>exact xj z ez
   |cons=>rfl]
  refine vA (VR λE1 Β=> ?_);refine ji (λÂ h'=> ∃ep b4,Â= [zq (.dct N),zq (.dct Lf),zq (.int ((r:P0):P4)),zq (.lst E),b4]/\h'.dc Lf=zq (.tk ep ((ē n Ts (r+1)).map λM=>(M,D.bl xb)))/\Sub h h') (λC hC=> ?_) ?_
  ·refine ZW (h1:=h3) (j:=λh=>h E) ((ĵ n Ts r).map ju) (RlF n Ts h N Lf E r) (λR q'=>⟨_,rfl,q'⟩) (λi Â h' ⟨_,_,_,_,z,_⟩=>z) ⟨ep,b4,rfl,?_,kE,sb⟩ (λÂ h' ⟨ep,b4,e,a,_,c⟩=>hC _ _ ⟨ep,b4,e,?_,c⟩) ?_
   ·rw [kL,By]
   ·rw [a,G6,Ob]
   clear kL kE sb;rintro i d _ h4 hd ⟨ep,b4,rfl,kL,kE,sb⟩;refine WN λE2 nx2=> ?_
   have hil:=(P8.mp hd).1;rw [D1] at hd;obtain⟨M,eM,rfl⟩:=L0.mp hd;refine⟨_,rfl,_,rfl,Lf,M,ep,_,rfl,rfl,kL,by rw [ky];exact Oa l3 eM,λý=>nx2 _ _ ⟨_,Sub.refl _,hil,ý,_,rfl,?_,kE,sb.overC fL⟩⟩;rw [wa,Bx,Bz eM]
  clear kL kE sb;rintro _ h4 ⟨ep,b4,rfl,kL,sb⟩;refine jF [zq (.dct N),zq (.dct Lf),zq (.int ((r+1:P0):P4)),zq (.lst E),b4] (λC hC=>⟨_,rfl,_,rfl,hC⟩) ?_;exact⟨_,rfl,_,rfl,N,Lf,Ts,_,kv,ep,ç,n,rfl,hT,sb.dc _ _ kN,Qt nx sb,kL,λM hM=>VS hM,VT n3 l3 _,λE' eE=>Β _ _ ⟨_,_,BB ez,Sub.refl _,r+1,ep,E',b4,rfl,kL,jc,λi hi=>by
   rcases xY i r with c|c
   ·exact lo i c
   ·rw [tM (tL.mp hi) c];exact ez,sb.newAt eE,rfl⟩⟩
 clear kL kE sb;rintro _ h3 ⟨r,ep,b3,b4,rfl,kL,ez,lo,sb⟩;exact⟨_,rfl,_,rfl,ż,h3,Sub.refl _,q Lf r ep h3 kL ez lo sb⟩
def VU:RDn:=λ_ _ _=>False
def Xh:RDx:=λds h R=> ∃d,ds= [d,.non]/\((∃k:P4,ù d k h/\R (NTs k) h)\/ ∃A Ts,∃n:P0,d= .lst A/\h A=zq (Ts.map ju)/\Ú n Ts/\R "NoWay" h)
def Mp (Z:Zs mg)(Ex:Ğ K mg)(F:â K "along" "along" Qp f fd)(jA:jn P w K mg base n "want_tables" ["thing"] jJ)(È:zc P w K mg base n "want_tables" ["thing"] jH)(Δ:zc P w K mg base n "want_way" ["tables","thing"] ZA):Ì P w K mg base (Ģ P w) (n+1) f fd ["tables","way"] (ė mg K Xh):=by
 refine F.okMX Bs (λhr=>(UK (yQ (Ů È hr (j1 (jv 0)))) (jM (JS.nox (vC (jk jA hr (j1 (jv 0))))) (yQ (Ů Δ hr (j2 (jv 0) (jv 1))))))) ?_;rintro ds h R ⟨d,rfl,q⟩;refine⟨rfl,?_⟩;rcases q with ⟨k,bt,q⟩|⟨A,Ts,n,rfl,kA,hT,q⟩
 ·exact .inl ⟨_,rfl,d,k,rfl,bt,q⟩
 ·exact .inr ⟨_,rfl,A,Ts,n,rfl,kA,hT,_,rfl,_,rfl,A,Ts,.non,n,rfl,kA,hT,rfl,rfl,q⟩
def Pi (F:Fnd):Zy (ĝ F)=F.map λp=> .tup [ju p.1,XO p.2]:=by unfold Zy ĝ;rw [M9];rfl
def Qu (l3:Ts.length<=3){p:G0 (G0 P4)×G0 P0}(h:p∈Ļ n Ts):Sq n 1 p.1/\(∀i∈p.2,i<Ts.length)/\p.2.length<=1025:=by
 obtain⟨a,b,c⟩:=(vZ (n:=n) l3).fd p h;exact⟨a ▸ Gq _,b.2,c⟩
def Jg:RDn:=λds h Q=> ∃A Ts,∃n:P0,ds= [.lst A]/\h A=zq (Ts.map ju)/\Ú n Ts/\ ∀d,Q d h
def Qw (Z:Zs mg)(F:â K "full_way" "full_way" vw f fd)(jA:jn P w K mg base n "want_tables" ["thing"] jJ)(jI:jn P w K mg base n "ways_and_nexts" ["tables"] jX)(Xq:jn P w K mg base n "full" ["table"] VP):Ì P w K mg base à (n+1) f fd ["tables"] (í K Jg):=by
 refine F.okM yE (λhr=>(js4 (vC (jk jA hr (j1 (jv 0)))) (Pz (jk jI hr (j1 (jv 0))) (yG (i:=1) (j:=2) rfl yE.nd rfl rfl (A3 rfl) (A3 rfl))) (QX L9 rfl (Bd (jv 1)) (yG (i:=3) (j:=4) rfl yE.nd rfl rfl (A3 rfl) (A3 rfl)) (jO (wf (wb (jk Xq hr (j1 (jv 3)))) (zf (jv 4))))) (zf JR))) ?_;rintro ds h Q ⟨A,Ts,n,rfl,kA,hT,q⟩;refine⟨rfl,?_⟩;have n1:=hT.n1;have n3:=hT.n3;refine jF [zq (.lst A),xa,xa,xa,xa] (λC hC=>⟨_,rfl,A,Ts,n,rfl,kA,hT,hC⟩) ?_;refine ji (λÂ h'=> ∃W N ep,Â= [zq (.lst A),zq (.dct W),zq (.dct N),xa,xa]/\h'.dc W=zq (.tk ep (ĝ (Ļ n Ts)))/\Sub h h') (λC hC=>⟨_,rfl,A,Ts,n,rfl,kA,hT,λW N ep ç kv h' kW kN nx sb=>⟨_,_,rfl,hC _ _ ⟨W,N,ep,rfl,kW,sb⟩⟩⟩) ?_;rintro _ h1 ⟨W,N,ep,rfl,kW,sb⟩;refine ji (λÂ h'=>h1=h') (λC hC=> ?_) ?_
 ·refine ZW (h1:=h1) (j:=WF W ep (ĝ (Ļ n Ts)).length) (Zy (ĝ (Ļ n Ts))) (λi Â h'=>(∃b3 b4,Â= [zq (.lst A),zq (.dct W),zq (.dct N),b3,b4])/\h1=h') (λR r=>⟨_,rfl,W,ep,_,rfl,kW,r⟩) (λi Â h' ⟨_,e⟩=>e ▸ RR kW) ⟨⟨_,_,rfl⟩,rfl⟩ (λÂ h' ⟨_,b⟩=>hC _ _ b) ?_;rintro i d _ _ hd ⟨⟨b3,b4,rfl⟩,rfl⟩;have hil:=(P8.mp hd).1;rw [Pi,D1] at hd;obtain⟨p,hp,rfl⟩:=L0.mp hd;refine⟨_,_,rfl,?_⟩;refine⟨_,rfl,p.1,n,1,rfl,(Qu hT.l3 (P5 hp)).1,n1,by omega,_,rfl,?_⟩;cases f:UD p.1 with
  |true=>exact vA ⟨_,rfl,h,sb,q _⟩
  |false=>exact jU ⟨_,Sub.refl _,hil,⟨_,_,rfl⟩,rfl⟩
 rintro _ _ rfl;exact⟨h,sb,q _⟩
def ZB:RDx:=λds h R=> ∃d,∃k:P4,ds= [d]/\ù d k h/\R (NTs k) h
def Xi (Z:Zs mg)(Ex:Ğ K mg)(F:â K "full_way" "full_way" vw f fd)(È:zc P w K mg base n "want_tables" ["thing"] jH):Ì P w K mg base (Ģ P w) (n+1) f fd ["tables"] (ė mg K ZB):=by
 refine F.okMX yE (λhr=>(yQ (Ů È hr (j1 (jv 0))))) ?_;rintro ds h R ⟨d,k,rfl,bt,q⟩;refine⟨rfl,?_⟩;exact⟨_,rfl,d,k,rfl,bt,q⟩
def wm:RDn:=λds h Q=> ∃A Ts,∃n:P0,ds= [.lst A]/\h A=zq (Ts.map ju)/\Ú n Ts/\ ∀d,Q d h
def ZQ (Z:Zs mg)(F:â K "all_full_from" "all_full_from" zO f fd)(jA:jn P w K mg base n "want_tables" ["thing"] jJ)(jI:jn P w K mg base n "ways_and_nexts" ["tables"] jX)(zA:jn P w K mg base n "rounds_and_lasting" ["nexts"] zl):Ì P w K mg base à (n+1) f fd ["tables"] (í K wm):=by
 refine F.okM zG (λhr=>(js4 (vC (jk jA hr (j1 (jv 0)))) (Pz (jk jI hr (j1 (jv 0))) (yG (i:=1) (j:=2) rfl zG.nd rfl rfl (A3 rfl) (A3 rfl))) (Pz (jk zA hr (j1 (jv 2))) (yG (i:=3) (j:=4) rfl zG.nd rfl rfl (A3 rfl) (A3 rfl))) (zf (jif (Ci (jv 4)) JR (ó jW (jv 3) jw))))) ?_;rintro ds h Q ⟨A,Ts,n,rfl,kA,hT,q⟩;refine⟨rfl,?_⟩;refine jF [zq (.lst A),xa,xa,xa,xa] (λC hC=>⟨_,rfl,A,Ts,n,rfl,kA,hT,hC⟩) ?_;refine ji (λÂ h'=> ∃W N ç kv,Â= [zq (.lst A),zq (.dct W),zq (.dct N),xa,xa]/\h'.dc N=zq (.tk ç kv)/\ċ n Ts (Ļ n Ts) xa kv h'/\Sub h h') (λC hC=>⟨_,rfl,A,Ts,n,rfl,kA,hT,λW N ep ç kv h' kW kN nx sb=>⟨_,_,rfl,hC _ _ ⟨W,N,ç,kv,rfl,kN,nx,sb⟩⟩⟩) ?_;rintro _ h1 ⟨W,N,ç,kv,rfl,kN,nx,sb⟩;refine ji (λÂ h'=> ∃Lf r ep,Â= [zq (.lst A),zq (.dct W),zq (.dct N),zq (.int ((r:P0):P4)),zq (.dct Lf)]/\h'.dc Lf=zq (.tk ep ((ē n Ts r).map λM=>(M,D.bl xb)))/\ĵ n Ts r= []/\(∀i<r,ĵ n Ts i≠ [])/\Sub h h') (λC hC=>⟨_,rfl,N,Ts,kv,ç,n,rfl,hT,kN,nx,λLf r ep h' kL ez lo sb2=>⟨_,_,rfl,hC _ _ ⟨Lf,r,ep,rfl,kL,ez,lo,sb.trans sb2⟩⟩⟩) ?_;clear kN nx sb;rintro _ h2 ⟨Lf,r,ep,rfl,kL,ez,lo,sb⟩;refine⟨_,rfl,Lf,ep,_,rfl,kL,?_⟩
 by_cases z:ē n Ts r= []
 ·rw [z];exact jU ⟨_,rfl,h,sb,q _⟩
 ·rw [show (!((ē n Ts r).map λM=>(M,D.bl xb)).isEmpty)=xb from by
   cases y:ē n Ts r with
   |nil=>exact xj y z
   |cons=>rfl]
  exact vA ⟨h,sb,q _⟩
def yk:RDx:=λds h R=> ∃d,∃k:P4,ds= [d]/\ù d k h/\R (NTs k) h
def Zm (Z:Zs mg)(Ex:Ğ K mg)(F:â K "all_full_from" "all_full_from" zO f fd)(È:zc P w K mg base n "want_tables" ["thing"] jH):Ì P w K mg base (Ģ P w) (n+1) f fd ["tables"] (ė mg K yk):=by
 refine F.okMX zG (λhr=>(yQ (Ů È hr (j1 (jv 0))))) ?_;rintro ds h R ⟨d,k,rfl,bt,q⟩;refine⟨rfl,?_⟩;exact⟨_,rfl,d,k,rfl,bt,q⟩
def wn:RDn:=λds h Q=> ∃A Ts,∃n:P0,ds= [.lst A,.non]/\h A=zq (Ts.map ju)/\Ú n Ts/\Q (.bl xf) h
def ZR (Z:Zs mg)(F:â K "lasting_holds" "lasting_holds" zP f fd)(jA:jn P w K mg base n "want_tables" ["thing"] jJ):Ì P w K mg base à (n+1) f fd ["tables","thing"] (í K wn):=by
 refine F.okM yJ (λhr=>(jy (vC (jk jA hr (j1 (jv 0)))) (by exact(jy (wf (ξ (Xw (wc (wb (ZM (T:= "tuple") (by decide) rfl Z.isinstance rfl Z.tuple (by decide +kernel) (jv 1)))) (GJ (î Ě (ZZ Z (jv 1)) jw)))) (zf Ŷ)) (by exact Gb))))) ?_;rintro ds h Q ⟨A,Ts,n,rfl,kA,hT,q⟩;refine⟨rfl,?_⟩;refine jF [zq (.lst A),zq .non,xa,xa,xa] (λC hC=>⟨_,rfl,A,Ts,n,rfl,kA,hT,hC⟩) ?_;refine ji (λÂ h'=>False) (λC hC=>⟨_,rfl,"NoneType",rfl,_,rfl,vA (vA ⟨h,Sub.refl h,q⟩)⟩) (λ_ _ z=>z.elim)
def yl:RDx:=λds h R=> ∃d y,∃k:P4,ds= [d,y]/\ù d k h/\R (NTs k) h
def Zn (Z:Zs mg)(Ex:Ğ K mg)(F:â K "lasting_holds" "lasting_holds" zP f fd)(È:zc P w K mg base n "want_tables" ["thing"] jH):Ì P w K mg base (Ģ P w) (n+1) f fd ["tables","thing"] (ė mg K yl):=by
 refine F.okMX yJ (λhr=>(yQ (Ů È hr (j1 (jv 0))))) ?_;rintro ds h R ⟨d,y,k,rfl,bt,q⟩;refine⟨rfl,?_⟩;exact⟨_,rfl,d,k,rfl,bt,q⟩
def BC (n:P0)(Ts L:G0 (G0 (G0 P4)))(M:G0 (G0 P4)):P0:=((R6 Ts.length).filter λi=>decide (ř n (Ts.getD i []) M∈L)).headD 0
def nxR (n:P0)(Ts L:G0 (G0 (G0 P4)))(M:G0 (G0 P4)):G0 (G0 P4):=ř n (Ts.getD (BC n Ts L M) []) M
def Cq (h:nxA n Ts L M=xb):((R6 Ts.length).filter λi=>decide (ř n (Ts.getD i []) M∈L))[0]? =zq (BC n Ts L M)/\BC n Ts L M<Ts.length/\nxR n Ts L M∈L:=by
 obtain⟨i,hi,x⟩:=rV.mp h;have ne:i∈(R6 Ts.length).filter λi=>decide (ř n (Ts.getD i []) M∈L):=A4.mpr ⟨hi,x⟩
 unfold nxR BC;cases e:(R6 Ts.length).filter λi=>decide (ř n (Ts.getD i []) M∈L) with
 |nil=>rw [e] at ne;cases ne
 |cons a r=>
  have ha:a∈(R6 Ts.length).filter λi=>decide (ř n (Ts.getD i []) M∈L):=by rw [e];exact R1
  obtain⟨u,v⟩:=A4.mp ha;exact⟨rfl,O4.mp u,E9 v⟩
theorem Cr (cl: ∀M∈L,nxA n Ts L M=xb)(hM:M∈L): ∀k,itF (nxR n Ts L) M k∈L
 |0=>hM
 |k+1=>(Cq (cl _ (Cr cl hM k))).2.2
inductive RwW (n:P0)(Ts L:G0 (G0 (G0 P4)))(I:P0->G0 (G0 P4))(h:HD)(N Lf G Y:G7)(m:P0)(Â:SD)(h':HD):Prop
 |mk (k:P0) (b5 b6:P1 D) (z1:Â= [zq (.dct N),zq (.dct Lf),zq (.lst G),zq (.lst Y),zq (ju (I k)),b5,b6]) (z2:h' G=zq (((R6 k).map I).map ju)) (z3:h' Y=zq ((R6 k).map λi=>D.int ((BC n Ts L (I i):P0):P4))) (z4:Sub h h') (z5:((R6 k).map I).Nodup) (z6:m=513-k):RwW n Ts L I h N Lf G Y m Â h'
inductive RwP (n:P0)(Ts L:G0 (G0 (G0 P4)))(I:P0->G0 (G0 P4))(h:HD)(N Lf G Y:G7)(Â:SD)(h':HD):Prop
 |mk (k:P0) (b5 b6:P1 D) (z1:Â= [zq (.dct N),zq (.dct Lf),zq (.lst G),zq (.lst Y),zq (ju (I k)),b5,b6]) (z2:h' G=zq (((R6 k).map I).map ju)) (z3:h' Y=zq ((R6 k).map λi=>D.int ((BC n Ts L (I i):P0):P4))) (z4:Sub h h') (z5:I k∈(R6 k).map I) (z6:k<=512):RwP n Ts L I h N Lf G Y Â h'
inductive RwS (n:P0)(Ts L:G0 (G0 (G0 P4)))(I:P0->G0 (G0 P4))(h:HD)(N Lf G Y:G7)(k k1 k2:P0)(b5 b6:P1 D)(Â:SD)(h':HD):Prop
 |mk (z1:Â= [zq (.dct N),zq (.dct Lf),zq (.lst G),zq (.lst Y),zq (ju (I k)),b5,b6]) (z2:h' G=zq (((R6 k1).map I).map ju)) (z3:h' Y=zq ((R6 k2).map λi=>D.int ((BC n Ts L (I i):P0):P4))) (z4:Sub h h'):RwS n Ts L I h N Lf G Y k k1 k2 b5 b6 Â h'
def vc:RDn:=λds h Q=> ∃ (N Lf:G7) (Ts L:G0 (G0 (G0 P4))) (kv:G0 (G0 (G0 P4)×D)) (ep ç n:P0),ds= [.dct N,.dct Lf]/\Ú n Ts/\h.dc N=zq (.tk ç kv)/\ċ n Ts (Ļ n Ts) xa kv h/\h.dc Lf=zq (.tk ep (L.map λM=>(M,D.bl xb)))/\(∀M∈L,M∈VE n Ts)/\L≠ []/\L.length<=512/\(∀M∈L,nxA n Ts L M=xb)/\ ∀M v h',M∈L->Sub h h'->Q (.tup [ju M,v]) h'
def WO (Z:Zs mg)(F:â K "round_within" "round_within" wZ f fd):Ì P w K mg base à (n+1) f fd ["nexts","left"] (í K vc):=by
 refine F.okM za (λhr=>(js5 (Ă 2 za (vB zu)) (Ă 3 za (vB zu)) (Ă 4 za (Ē (zj (Mh rfl) rfl Z.list (by decide +kernel) (j1 (jv 1))) jw)) (DY L9 (GI (Nm hr.units) (jv 4) (jv 2) (by with_unfolding_all rfl)) (js3 (vC (Ef (jv 2) (jv 4))) (vC (Ef (jv 3) (Ē (Kc (i:=5) (j:=6) (js:= [5,6]) rfl (zK (by rfl)) (Jn rfl Z.enumerate (j1 (EQ hr (jv 0) (jv 4)))) (by decide) (by decide) (by decide) za.nd rfl rfl (by first|exact A3 rfl|exact aR rfl) (by first|exact A3 rfl|exact aR rfl) (λX' hX=>by obtain⟨C,s₀,H₀,ex,rfl⟩:=hX;exact XN (GI (Cf hr) (jv 6) (jv 1) (by with_unfolding_all rfl))) (λX' hX=>by obtain⟨C,s₀,H₀,ex,rfl⟩:=hX;exact(jv 5))) jw))) (Ă 4 za (Ē (EQ hr (jv 0) (jv 4)) (Ē (jv 3) (Eg jw)))))) (zf (yf (j2 (jv 4) (zj ò rfl Z.tuple (by decide +kernel) (j1 (Zu (jv 3) (yq (Kf hr.units (jv 2) (jv 4))) vT)))))))) ?_;rintro ds h Q ⟨N,Lf,Ts,L,kv,ep,ç,n,rfl,hT,kN,nx,kL,sub,ne,lL,cl,q⟩;refine⟨rfl,?_⟩;have l3:=hT.l3;obtain⟨M0,r,eL⟩: ∃M0 r,L=M0::r:=by
  cases L with
  |nil=>exact xj rfl ne
  |cons a r=>exact⟨a,r,rfl⟩
 have hM0:M0∈L:=by rw [eL];exact R1
 have at0:(L.map ju)[0]? =zq (ju M0):=by rw [eL];rfl
 have mem:=Cr cl hM0;refine ji (λÂ h'=> ∃G,Â= [zq (.dct N),zq (.dct Lf),zq (.lst G),xa,xa,xa,xa]/\h G=xa/\h' G=zq []/\Sub h h') (λC hC=>⟨sz0,λG eG=>hC _ _ ⟨G,rfl,eG,jc,.new eG⟩⟩) ?_;rintro _ h1 ⟨G,rfl,fG,kG,sb⟩;refine ji (λÂ h'=> ∃Y,Â= [zq (.dct N),zq (.dct Lf),zq (.lst G),zq (.lst Y),xa,xa,xa]/\h Y=xa/\Y≠G/\h' G=zq []/\h' Y=zq []/\Sub h h') (λC hC=>⟨sz0,λY eY=>hC _ _ ⟨Y,rfl,Gh sb eY,jq kG eY,je kG eY,jc,sb.newAt eY⟩⟩) ?_;clear kG sb;rintro _ h2 ⟨Y,rfl,fY,nY,kG,kY,sb⟩;refine ji (λÂ h'=>Â= [zq (.dct N),zq (.dct Lf),zq (.lst G),zq (.lst Y),zq (ju M0),xa,xa]/\h' G=zq []/\h' Y=zq []/\Sub h h') (λC hC=>⟨_,rfl,Lf,ep,_,rfl,sb.dc _ _ kL,by rw [G6];omega,λp ý=>⟨_,_,jc,by rw [EV];exact zU (j:=0) at0,hC _ _ ⟨rfl,je kG ý,je kY ý,sb.newAt ý⟩⟩⟩) ?_;clear kG kY sb;rintro _ h3 ⟨rfl,kG,kY,sb⟩;obtain⟨I,eI⟩: ∃I:P0->G0 (G0 P4),I=itF (nxR n Ts L) M0:=⟨_,rfl⟩;have mem: ∀k,I k∈L:=eI ▸ mem;have hI: ∀k,I (k+1)=nxR n Ts L (I k):=λk=>by rw [eI];rfl
 refine ji (RwP n Ts L I h N Lf G Y) (λC hC=> ?_) ?_
 ·refine Vl (RwW n Ts L I h N Lf G Y) _ ⟨0,_,_,by rw [eI];rfl,kG,kY,sb,j6,rfl⟩ ?_;clear kG kY sb;rintro m _ h4 ⟨k,b5,b6,rfl,kG,kY,sb,nd,rfl⟩;have lk:k<=512:=by
   have:=Ws nd (m:=L) λx hx=>by
    obtain⟨i,_,rfl⟩:=N5.mp hx;exact mem i
   rw [G6,B3] at this;omega
  refine⟨_,rfl,_,rfl,Ek X03 kG λbo hbo=>⟨_,rfl,Ul (λc=> ?_) (λc=> ?_)⟩⟩
  rotate_left
  ·refine hC _ _ ⟨k,b5,b6,rfl,kG,kY,sb,hbo.mp ?_,lk⟩;cases bo with
   |true=>rfl
   |false=>exact xj rfl c
  have hni:I k ∉ (R6 k).map I:=λz=>by rw [hbo.mpr z] at c;exact xj c (by decide)
  refine VR λE1 Β=> ?_
  refine ji (RwS n Ts L I h N Lf G Y k (k+1) k b5 b6) (λC2 ĳ=>⟨_,rfl,G,rfl,_,rfl,_,kG,?_,ĳ _ _ ⟨rfl,?_,jg nY kY,sb.over fG⟩⟩) ?_
  ·rw [G6,G6,B3];exact U2 lk (by decide)
  ·rw [jc,dD,T9,T9];rfl
  clear kG kY sb;rintro _ h5 ⟨rfl,kG,kY,sb⟩;obtain⟨X12,X13,hopn⟩:=Cq (cl _ (mem k));obtain⟨X,gX,kX⟩:=Cn nx (sub _ (mem k));refine ji (RwS n Ts L I h N Lf G Y k (k+1) (k+1) b5 b6) (λC2 ĳ=>⟨_,rfl,Y,rfl,kH (j:=λh=>(h X).map Yd) (R6 Ts.length) (λ(x:P0)=> .int (x:P4)) (λx=>ju (ř n (Ts.getD x []) (I k))) (λ(x:P0)=> .int (x:P4)) (λi=>decide (ř n (Ts.getD i []) (I k)∈L)) (by rw [B3];omega) ?_ (λR r=>⟨_,rfl,_,rfl,N,I k,ç,kv,.lst X,rfl,rfl,sb.dc _ _ kN,gX,X,rfl,r⟩) (λx hx Q' q'=>⟨_,rfl,_,rfl,Lf,_,ep,_,rfl,rfl,sb.dc _ _ kL,by rw [Cj,uM];exact⟨_,rfl,q'⟩⟩) (λx hx _ Q' q'=>⟨_,rfl,q'⟩) λZ eZ=>⟨_,_,jc,zU (j:=0) (by rw [D1,X12];rfl),_,je kY eZ,?_,ĳ _ _ ⟨rfl,jg (O6 nY) (je kG eZ),?_,(sb.newAt eZ).over fY⟩⟩⟩) ?_
  ·show (h5 X).map Yd=_;rw [sb _ _ kX,bL];exact xk zq (VB (n:=n) λ_ T=>ř n T (I k))
  ·rw [G6,B3];exact U2 lk (by decide)
  ·rw [jc,dD,T9];rfl
  clear kG kY sb;rintro _ h6 ⟨rfl,kG,kY,sb⟩;refine⟨_,rfl,_,rfl,N,I k,ç,kv,.lst X,rfl,rfl,sb.dc _ _ kN,gX,_,rfl,_,_,kY,(show ĕ _ (-1)=zq (D.int ((BC n Ts L (I k):P0):P4)) from Ra (aD 1 k)),_,_,sb _ _ kX,zU (j:=BC n Ts L (I k)) (by unfold nxD;rw [D1,Y0 X13];rfl),Β _ _ ⟨513-(k+1),_,by omega,Sub.refl _,k+1,_,_,by rw [hI];rfl,kG,kY,sb,?_,rfl⟩⟩;rw [dD,T9,aN];exact⟨nd,by simp,λx hx y hy=>by rw [P2.mp (show y∈ [I k] from hy)];intro e;exact hni (e ▸ hx)⟩
 clear kG kY sb;rintro _ h4 ⟨k,b5,b6,rfl,kG,kY,sb,hin,lk⟩;obtain⟨J,pd,ps,zz,hat,t1,t2,c1,c2,c3,c4,c5,c6,c7⟩:=El X03 kG hin (by rw [G6,B3];omega);refine⟨_,rfl,_,rfl,_,rfl,G,rfl,_,rfl,pd,ps,J,zz,t1,t2,c1,c2,c3,c4,c5,c6,c7,_,rfl,_,kY,λp ý=>⟨_,jc,ż,h4,.new ý,?_⟩⟩;exact q (I k) _ h4 (mem k) sb
def EW (h:M∈F.map (·.1)): ∃p∈F,p.1=M/\zR (ĝ F) M=zq (XO p.2):=by
 cases e:F.find? λp=>decide (p.1=M) with
 |none=>
  obtain⟨p,hp,ep⟩:=N5.mp h;exact xj (S6 ep) (dP.mp e p hp)
 |some p=>
  refine⟨p,aA e,E9 (iB (p:=λp:G0 (G0 P4)×G0 P0=>decide (p.1=M)) e),?_⟩;unfold ĝ;rw [Vz];unfold zR;rw [e];rfl
def yb:RDn:=λds h Q=> ∃A Ts,∃n:P0,ds= [.lst A]/\h A=zq (Ts.map ju)/\Ú n Ts/\ ∀d,Q d h
def Ym (Z:Zs mg)(F:â K "why_lasting" "why_lasting" wx f fd)(jA:jn P w K mg base n "want_tables" ["thing"] jJ)(jI:jn P w K mg base n "ways_and_nexts" ["tables"] jX)(zA:jn P w K mg base n "rounds_and_lasting" ["nexts"] zl)(Yr:jn P w K mg base n "round_within" ["nexts","left"] vc):Ì P w K mg base à (n+1) f fd ["tables"] (í K yb):=by
 refine F.okM zC (λhr=>(js6 (vC (jk jA hr (j1 (jv 0)))) (Pz (jk jI hr (j1 (jv 0))) (yG (i:=1) (j:=2) rfl zC.nd rfl rfl (A3 rfl) (A3 rfl))) (Pz (jk zA hr (j1 (jv 2))) (yG (i:=3) (j:=4) rfl zC.nd rfl rfl (A3 rfl) (A3 rfl))) (wf (wc (Ci (jv 4))) (zf JR)) (Pz (jk Yr hr (j2 (jv 2) (jv 4))) (yG (i:=5) (j:=6) rfl zC.nd rfl rfl (A3 rfl) (A3 rfl))) (zf (yf (j2 (EQ hr (jv 1) (jv 5)) (jv 6)))))) ?_;rintro ds h Q ⟨A,Ts,n,rfl,kA,hT,q⟩;refine⟨rfl,?_⟩;refine jF [zq (.lst A),xa,xa,xa,xa,xa,xa] (λC hC=>⟨_,rfl,A,Ts,n,rfl,kA,hT,hC⟩) ?_;refine ji (λÂ h'=> ∃W N ep0 ç kv,Â= [zq (.lst A),zq (.dct W),zq (.dct N),xa,xa,xa,xa]/\h'.dc W=zq (.tk ep0 (ĝ (Ļ n Ts)))/\h'.dc N=zq (.tk ç kv)/\ċ n Ts (Ļ n Ts) xa kv h'/\Sub h h') (λC hC=>⟨_,rfl,A,Ts,n,rfl,kA,hT,λW N ep ç kv h' kW kN nx sb=>⟨_,_,rfl,hC _ _ ⟨W,N,ep,ç,kv,rfl,kW,kN,nx,sb⟩⟩⟩) ?_;rintro _ h1 ⟨W,N,ep0,ç,kv,rfl,kW,kN,nx,sb⟩;refine ji (λÂ h'=> ∃Lf r ep,Â= [zq (.lst A),zq (.dct W),zq (.dct N),zq (.int ((r:P0):P4)),zq (.dct Lf),xa,xa]/\h'.dc Lf=zq (.tk ep ((ē n Ts r).map λM=>(M,D.bl xb)))/\ĵ n Ts r= []/\Sub h h'/\Sub h1 h') (λC hC=>⟨_,rfl,N,Ts,kv,ç,n,rfl,hT,kN,nx,λLf r ep h' kL ez lo sb2=>⟨_,_,rfl,hC _ _ ⟨Lf,r,ep,rfl,kL,ez,sb.trans sb2,sb2⟩⟩⟩) ?_;clear sb;rintro _ h2 ⟨Lf,r,ep,rfl,kL,ez,sb,sb2⟩
 by_cases z:ē n Ts r= []
 ·refine ji (λ_ _=>False) (λC hC=>⟨_,rfl,Lf,ep,_,rfl,kL,?_⟩) (λ_ _ z=>z.elim);rw [z];exact vA ⟨h,sb,q _⟩
 refine jF [zq (.lst A),zq (.dct W),zq (.dct N),zq (.int ((r:P0):P4)),zq (.dct Lf),xa,xa] (λC hC=>⟨_,rfl,Lf,ep,_,rfl,kL,?_⟩) ?_
 ·rw [show (!((ē n Ts r).map λM=>(M,D.bl xb)).isEmpty)=xb from by
   cases y:ē n Ts r with
   |nil=>exact xj y z
   |cons=>rfl]
  exact jU (hC)
 refine ji (λÂ h'=> ∃M v,Â= [zq (.lst A),zq (.dct W),zq (.dct N),zq (.int ((r:P0):P4)),zq (.dct Lf),zq (ju M),zq v]/\h'.dc W=zq (.tk ep0 (ĝ (Ļ n Ts)))/\M∈ē n Ts r/\Sub h h') (λC hC=>⟨_,rfl,_,rfl,N,Lf,Ts,ē n Ts r,kv,ep,ç,n,rfl,hT,sb2.dc _ _ kN,Qt nx sb2,kL,λM hM=>VS hM,z,VT hT.n3 hT.l3 r,λM hM=> ?_,λM v h' hM sb3=>⟨_,_,rfl,hC _ _ ⟨M,v,rfl,sb3.dc _ _ (sb2.dc _ _ kW),hM,sb.trans sb3⟩⟩⟩) ?_
 ·have:=List.filter_eq_nil_iff.mp ez M hM;cases y:nxA n Ts (ē n Ts r) M with
  |true=>rfl
  |false=>rw [y] at this;exact xj rfl this
 clear kL kN nx sb sb2;rintro _ h3 ⟨M,v,rfl,kW,hM,sb⟩;obtain⟨p,_,_,gp⟩:=EW (VS hM);exact⟨_,rfl,_,rfl,W,M,ep0,_,_,rfl,rfl,kW,gp,_,rfl,ż,h,sb,q _⟩
def vd:RDx:=λds h R=> ∃d,∃k:P4,ds= [d]/\ù d k h/\R (NTs k) h
def WP (Z:Zs mg)(Ex:Ğ K mg)(F:â K "why_lasting" "why_lasting" wx f fd)(È:zc P w K mg base n "want_tables" ["thing"] jH):Ì P w K mg base (Ģ P w) (n+1) f fd ["tables"] (ė mg K vd):=by
 refine F.okMX zC (λhr=>(yQ (Ů È hr (j1 (jv 0))))) ?_;rintro ds h R ⟨d,k,rfl,bt,q⟩;refine⟨rfl,?_⟩;exact⟨_,rfl,d,k,rfl,bt,q⟩
def YU:RDn:=λ_ _ _=>False
def yc:RDn:=λds h Q=> ∃A Ts,∃n:P0,ds= [.lst A,.non]/\h A=zq (Ts.map ju)/\Ú n Ts/\Q (.bl xf) h
def Yn (Z:Zs mg)(F:â K "fence_holds" "fence_holds" wy f fd)(jA:jn P w K mg base n "want_tables" ["thing"] jJ)(Mt:jn P w K mg base n "is_post" ["thing","size"] YU):Ì P w K mg base à (n+1) f fd ["tables","thing"] (í K yc):=by
 refine F.okM ya (λhr=>(jy (vC (jk jA hr (j1 (jv 0)))) (by exact(jy (wf (ξ (Xw (wc (wb (ZM (T:= "tuple") (by decide) rfl Z.isinstance rfl Z.tuple (by decide +kernel) (jv 1)))) (GJ (wc (wb (yH (Uv rfl) rfl Z.all Z7 (j1 (Μ 3 ya (wG (jv 1)) (λ_ _ _ _=>(jk Mt hr (j2 (jv 3) (ZZ Z (Ē (jv 0) jw))))))))))))) (zf Ŷ)) (by exact Gb))))) ?_;rintro ds h Q ⟨A,Ts,n,rfl,kA,hT,q⟩;refine⟨rfl,?_⟩;refine jF [zq (.lst A),zq .non,xa,xa,xa] (λC hC=>⟨_,rfl,A,Ts,n,rfl,kA,hT,hC⟩) ?_;refine ji (λÂ h'=>False) (λC hC=>⟨_,rfl,"NoneType",rfl,_,rfl,vA (vA ⟨h,Sub.refl h,q⟩)⟩) (λ_ _ z=>z.elim)
def vf:RDx:=λds h R=> ∃d y,∃k:P4,ds= [d,y]/\ù d k h/\R (NTs k) h
def WQ (Z:Zs mg)(Ex:Ğ K mg)(F:â K "fence_holds" "fence_holds" wy f fd)(È:zc P w K mg base n "want_tables" ["thing"] jH):Ì P w K mg base (Ģ P w) (n+1) f fd ["tables","thing"] (ė mg K vf):=by
 refine F.okMX ya (λhr=>(yQ (Ů È hr (j1 (jv 0))))) ?_;rintro ds h R ⟨d,y,k,rfl,bt,q⟩;refine⟨rfl,?_⟩;exact⟨_,rfl,d,k,rfl,bt,q⟩
def Mq (F:Fnd):(ĝ F).map (λp=>ju p.1)=F.map λp=>ju p.1:=by unfold ĝ;rw [M9];rfl
def BD (F:Fnd):(ĝ F).map (·.1)=F.map (·.1):=by unfold ĝ;rw [M9];rfl
def WR:RDn:=λds h Q=> ∃A Ts,∃n:P0,ds= [.lst A]/\h A=zq (Ts.map ju)/\Ú n Ts/\ ∀d,Q d h
def Qx (Z:Zs mg)(F:â K "fence_of" "fence_of" vy f fd)(jA:jn P w K mg base n "want_tables" ["thing"] jJ)(jI:jn P w K mg base n "ways_and_nexts" ["tables"] jX)(Xq:jn P w K mg base n "full" ["table"] VP):Ì P w K mg base à (n+1) f fd ["tables"] (í K WR):=by
 refine F.okM yD (λhr=>(js3 (vC (jk jA hr (j1 (jv 0)))) (Pz (jk jI hr (j1 (jv 0))) (yG (i:=1) (j:=2) rfl yD.nd rfl rfl (A3 rfl) (A3 rfl))) (zf (jif (wb (yH (BT rfl) rfl Z.any (by decide +kernel) (j1 (Μ 3 yD (Qh (jv 1)) (λ_ _ _ _=>(jk Xq hr (j1 (jv 3)))))))) JR (zj ò rfl Z.tuple (by decide +kernel) (j1 (yH (Qj rfl hr) rfl Z.sorted (by decide +kernel) (j1 (jv 1))))))))) ?_;rintro ds h Q ⟨A,Ts,n,rfl,kA,hT,q⟩;refine⟨rfl,?_⟩;have n1:=hT.n1;have n3:=hT.n3;have l3:=hT.l3;have lf:(Ļ n Ts).length<=512:=(vZ (n:=n) l3).few n3;refine jF [zq (.lst A),xa,xa,xa] (λC hC=>⟨_,rfl,A,Ts,n,rfl,kA,hT,hC⟩) ?_;refine ji (λÂ h'=> ∃W N ep,Â= [zq (.lst A),zq (.dct W),zq (.dct N),xa]/\h'.dc W=zq (.tk ep (ĝ (Ļ n Ts)))/\Sub h h') (λC hC=>⟨_,rfl,A,Ts,n,rfl,kA,hT,λW N ep ç kv h' kW kN nx sb=>⟨_,_,rfl,hC _ _ ⟨W,N,ep,rfl,kW,sb⟩⟩⟩) ?_;rintro _ h1 ⟨W,N,ep,rfl,kW,sb⟩;refine Kd (j:=Xa W ep (ĝ (Ļ n Ts)).length) (Ļ n Ts) (λp=>ju p.1) (λp=>UD p.1) (by omega) (by rw [VC kW,Mq]) (λR r=>⟨_,rfl,W,ep,_,rfl,kW,r⟩) (λp hp Q' q'=>⟨_,rfl,p.1,n,1,rfl,(Qu l3 hp).1,n1,by omega,q'⟩) ⟨_,rfl,?_⟩;cases hb:(Ļ n Ts).any λp=>UD p.1 with
 |true=>exact vA ⟨h,sb,q _⟩
 |false=>
  refine jU ⟨_,rfl,W,ep,_,rfl,kW,by unfold ĝ;rw [G6];omega,λp hp=> ?_,λU ks fU pm srt=> ?_⟩
  ·have hm:p.1∈(Ļ n Ts).map (·.1):=by rw [<-BD];exact iD hp
   obtain⟨x,hx,e⟩:=N5.mp hm;have sq:=(Qu l3 hx).1;rw [e] at sq;intro z;have:=sq.len;rw [z] at this;exact xj this (by show ¬ (0=n);omega)
  ·exact⟨_,jc,h,sb.newAt fU,q _⟩
def ZC:RDx:=λds h R=> ∃d,∃k:P4,ds= [d]/\ù d k h/\R (NTs k) h
def Xj (Z:Zs mg)(Ex:Ğ K mg)(F:â K "fence_of" "fence_of" vy f fd)(È:zc P w K mg base n "want_tables" ["thing"] jH):Ì P w K mg base (Ģ P w) (n+1) f fd ["tables"] (ė mg K ZC):=by
 refine F.okMX yD (λhr=>(yQ (Ů È hr (j1 (jv 0))))) ?_;rintro ds h R ⟨d,k,rfl,bt,q⟩;refine⟨rfl,?_⟩;exact⟨_,rfl,d,k,rfl,bt,q⟩
def ZD:RDn:=λds h Q=> ∃ns k,ds= [.scr ns,.int k]/\0<=k/\ ∀n,Q (.int n) h
def Xk (Z:Zs mg)(F:â K "_law_cell" "_law_cell" Jb f fd):Ì P w K mg base à (n+1) f fd ["_law_script","_law_k"] (í K ZD):=by
 refine F.okM Xc (λhr=>(js2 (wf (î AL (jv 1) (ZZ Z (jv 0))) (zf (Ē (jv 0) (jv 1)))) (zf jw))) ?_;rintro ds h Q ⟨ns,k,rfl,h0,q⟩;refine⟨rfl,?_⟩;simp only [yn,Fm,Jl,Ġ,JM,zt,S9,aJ,D8,B6,K0,O2,aX,K5,X6,Ķ,jP,Jk,Om,BR,D.bl.injEq,DA,ixD,Xv,aE,XH,dC];refine Ul (λc=> ?_) (λ_=>⟨h,Sub.refl h,q 0⟩);have c':k<(ns.length:P4):=E9 c;have hk:k.toNat<ns.length:=by omega
 have ek:k=((k.toNat:P0):P4):=by omega
 have z:=zU (G5 hk);rw [<-ek] at z;exact⟨ns[k.toNat],z,h,Sub.refl h,q _⟩
def WS:RDn:=λds h Q=> ∃c,ds= [.int c]/\ ∀p l fl,h p=xa->0<=l->(fl=0\/fl=1)->Q (.lst p) (wd h p [.int l,.int fl])
def Qy (Z:Zs mg)(F:â K "_law_pen" "_law_pen" Zj f fd):Ì P w K mg base à (n+1) f fd ["_law_cell_here"] (í K WS):=by
 refine F.okM WI (λhr=>(js2 (Ă 1 WI (yH (AO rfl) rfl Z.max (by decide +kernel) (j2 (jv 0) (ó Ut jw (jv 0))))) (zf (vB (j2 (jv 1) (zj DI rfl Z.int (by decide +kernel) (j1 (jc1 FD (jv 1) (ó BS jw jw))))))))) ?_;rintro ds h Q ⟨c,rfl,q⟩;refine⟨rfl,?_⟩;simp only [yn,Py,Ķ,jP,JM,zt,S9,aJ,D8,B6,M8,K0,O2,K5,X6,Ġ,dC,HR,Jk,Tr,DA,ME,qA,qB,aX,HV,BR,Tq,Xv,aE];refine⟨⟨by decide,by decide,by decide⟩,by decide,λp hp=>⟨_,Sub.refl _,q p _ _ hp ?_ ?_⟩⟩
 ·split<;>omega
 ·split<;>simp<;>omega
def zm:RDn:=λds h Q=> ∃p l fl m,ds= [.lst p,.int m]/\h p=zq [.int l,.int fl]/\0<=l/\0<m/\m<1073741824/\ ∀r l',0<=r->r<m->0<=l'->Q (.int r) (wd h p [.int l',.int fl])
def Xl (Z:Zs mg)(F:â K "_law_draw" "_law_draw" Jc f fd):Ì P w K mg base à (n+1) f fd ["_law_pen_here","_law_many_here"] (í K zm):=by
 refine F.okM wP (λhr=>(js5 (Ed (î Í (Ē (jv 0) jw) jw) (js3 (Pz (yH DJ rfl Z.divmod (by decide +kernel) (j2 (Ē (jv 0) jw) (jv 1))) (yG (i:=2) (j:=3) rfl wP.nd rfl rfl (A3 rfl) (A3 rfl))) (Pz (jv 2) (QY (jv 0) jw)) (zf (jv 3))) UB) (Ă 4 wP (ó vH (ó vS (ó jW (ó vH (Ē (jv 0) jw) jw) jw) jw) jw)) (Ă 4 wP (ó vH (ó jW (ó vS (jv 4) (jv 4)) jw) jw)) (Pz (ó vH (ó jW (ó vS (jv 4) jw) jw) jw) (QY (jv 0) jw)) (zf (ó vH (ó FA (Ē (jv 0) jw) jw) (jv 1))))) ?_;rintro ds h Q ⟨p,l,fl,m,rfl,hp,h0,hm,hm2,q⟩;refine⟨rfl,?_⟩;refine jF [zq (.lst p),zq (.int m),xa,xa,xa] (λC hC=>⟨_,rfl,_,_,hp,rfl,?_⟩) ?_
 ·show ∃k,D.bl (decide (fl=1))= .bl k/\_;refine⟨_,rfl,Ul (λ_=> ?_) λ_=>hC⟩;exact⟨_,rfl,_,_,hp,rfl,_,rfl,⟨hm,hm2⟩,_,_,rfl,_,rfl,_,rfl,p,0,_,0,rfl,rfl,hp,rfl,_,rfl,_,Sub.refl _,q (l%m) (l / m) (iC _ (xZ hm)) (j7 _ hm) (Int.ediv_nonneg h0 (xS hm))⟩
 refine ji (λÂ h'=> ∃z:P4,Â= [zq (.lst p),zq (.int m),xa,xa,zq (.int z)]/\(0<=z/\z<2147483629)/\h=h') (λC hC=>⟨_,rfl,_,_,hp,rfl,by decide,.inr ⟨by decide,by decide⟩,by decide,hC _ _ ⟨_,rfl,⟨iC _ (by decide),j7 _ (by decide)⟩,rfl⟩⟩) ?_;rintro _ _ ⟨z,rfl,⟨z0,z1⟩,rfl⟩;refine ji (λÂ h'=> ∃y:P4,Â= [zq (.lst p),zq (.int m),xa,xa,zq (.int y)]/\h=h') (λC hC=>⟨_,rfl,_,rfl,.inl ⟨Int.lt_of_lt_of_le (by decide) z0,Int.lt_trans z1 (by decide)⟩,by decide,hC _ _ ⟨_,rfl,rfl⟩⟩) ?_;rintro _ _ ⟨y,rfl,rfl⟩;refine ji (λÂ h'=> ∃x:P4,Â= [zq (.lst p),zq (.int m),xa,xa,zq (.int y)]/\0<=x/\h'=wd h p [.int x,.int fl]) (λC hC=>⟨_,rfl,.inr ⟨by decide,by decide⟩,by decide,_,rfl,p,0,_,0,rfl,rfl,hp,rfl,hC _ _ ⟨_,rfl,iC _ (by decide),rfl⟩⟩) ?_;rintro _ _ ⟨x,rfl,x0,rfl⟩;exact⟨_,rfl,_,_,jc,rfl,⟨by decide,by decide⟩,_,rfl,hm,_,Sub.refl _,q (x / 32%m) x (iC _ (xZ hm)) (j7 _ hm) x0⟩
def Yo (Z:Zs mg)(Ex:Ğ K mg)(F:â K "_law_whole" "_law_whole" yX f fd):Ĝ P w K mg base à (n+1) f fd ["_law_thing"] (í K zJ):=by
 refine F.okJU VI (λds h Q q=>by obtain⟨d,nm,e,hn,q⟩:=q;subst e;rfl) _ (λÏ A outer s H E hr=>(jO (zf (Nf (ZM (T:= "int") (by decide) rfl Z.isinstance rfl Z.int (by decide +kernel) (jv 0)) (DV (Ka (ZM (T:= "bool") (by decide) rfl Z.isinstance rfl Z.bool (by decide +kernel) (jv 0)))))))) ?_;intro ds h Q q;obtain⟨d,nm,e,hn,q⟩:=q;subst e;simp only [DA,Dx,dIs,JM,zt,S9,aJ,D8,B6,K0,O2,K5,X6,D.bl.injEq,Dy,Xv,aE,hn];cases d<;>cases hn<;>exact⟨h,Sub.refl h,q⟩
def Pj (c:Str)(n:P0):G0 D:=((CN13.map λd=>c==d).take n).map D.bl
def BE (c:Str):G0 K8:=(CN13.map λd=>c==d).map sN
def X0p:G0 D:=(["table","place","number","order","set","walk","lengths","way","apart","row","tables","text","great"]:G0 Str).map D.str
theorem Mr: ∀bs:G0 N3,ĩ h (bs.map D.bl) (bs.map sN)
 | []=>rfl
 |b::bs=>⟨_,_,rfl,rfl,Mr bs⟩
def jY {l:G0 N3}{j:P0}(h:(l.take j).all (!·)=xb){m:P0}{y:K8}(hm:m<j)(e:(l.map sN)[m]? =zq y):C8 y (.bool xb)=xf:=by
 rw [D1] at e;obtain⟨b,e1,rfl⟩:=L0.mp e;have:=H0.mp h b (P5 (i:=m) (by rw [W6 hm];exact e1));cases b with
 |true=>cases this
 |false=>rfl
def EX {c:Str}(hc:c∈CN13): ∃j:P0,j<13/\(BE c)[j]? =zq (.bool xb)/\(∀m y,m<j->(BE c)[m]? =zq y->C8 y (.bool xb)=xf)/\ĕ X0p (j:P4)=zq (D.str (Vt c))/\((BE c).countP λz=>C8 z (.bool xb))=1:=by
 simp only [CN13,R5,F9,or_false] at hc;rcases hc with rfl|rfl|rfl|rfl|rfl|rfl|rfl|rfl|rfl|rfl|rfl|rfl|rfl
 ·exact⟨0,by decide,rfl,λm y=>jY rfl,rfl,rfl⟩
 ·exact⟨1,by decide,rfl,λm y=>jY rfl,rfl,rfl⟩
 ·exact⟨2,by decide,rfl,λm y=>jY rfl,rfl,rfl⟩
 ·exact⟨3,by decide,rfl,λm y=>jY rfl,rfl,rfl⟩
 ·exact⟨4,by decide,rfl,λm y=>jY rfl,rfl,rfl⟩
 ·exact⟨5,by decide,rfl,λm y=>jY rfl,rfl,rfl⟩
 ·exact⟨6,by decide,rfl,λm y=>jY rfl,rfl,rfl⟩
 ·exact⟨7,by decide,rfl,λm y=>jY rfl,rfl,rfl⟩
 ·exact⟨8,by decide,rfl,λm y=>jY rfl,rfl,rfl⟩
 ·exact⟨9,by decide,rfl,λm y=>jY rfl,rfl,rfl⟩
 ·exact⟨10,by decide,rfl,λm y=>jY rfl,rfl,rfl⟩
 ·exact⟨11,by decide,rfl,λm y=>jY rfl,rfl,rfl⟩
 ·exact⟨12,by decide,rfl,λm y=>jY rfl,rfl,rfl⟩
def VW (Z:Zs mg)(Ex:Ğ K mg)(F:â K "_law_kind" "_law_kind" Jd f fd):Ĝ P w K mg base à (n+1) f fd ["_law_e"] (í K (Qb mg)):=by
 obtain⟨D_NoOrder,Ŝ⟩:=Ex.cls "NoOrder" (by decide);obtain⟨D_NoNumber,ņ⟩:=Ex.cls "NoNumber" (by decide);obtain⟨D_NoPlace,ŝ⟩:=Ex.cls "NoPlace" (by decide);obtain⟨D_NoTable,Ş⟩:=Ex.cls "NoTable" (by decide);obtain⟨D_NoLengths,ĭ⟩:=Ex.cls "NoLengths" (by decide);obtain⟨D_NoWalk,Ε⟩:=Ex.cls "NoWalk" (by decide);obtain⟨D_NoSet,X0b⟩:=Ex.cls "NoSet" (by decide);obtain⟨D_NoRow,X0c⟩:=Ex.cls "NoRow" (by decide);obtain⟨D_Apart,X0d⟩:=Ex.cls "Apart" (by decide);obtain⟨D_NoWay,X0e⟩:=Ex.cls "NoWay" (by decide);obtain⟨D_TooGreat,Ň⟩:=Ex.cls "TooGreat" (by decide);obtain⟨D_NoText,Ζ⟩:=Ex.cls "NoText" (by decide);obtain⟨D_NoTables,ň⟩:=Ex.cls "NoTables" (by decide);refine F.okJU zL (λds h Q q=>by obtain⟨c,C,fs,e,hc,hm,q⟩:=q;subst e;rfl) _ (λÏ A outer s H E hr=>(js7 (Ă 1 zL (vB (j4 (Zd rfl Z.isinstance rfl Ş (jv 0)) (Zd rfl Z.isinstance rfl ŝ (jv 0)) (Zd rfl Z.isinstance rfl ņ (jv 0)) (Zd rfl Z.isinstance rfl Ŝ (jv 0))))) (Ă 1 zL (ó jW (jv 1) (vB (j3 (Zd rfl Z.isinstance rfl X0b (jv 0)) (Zd rfl Z.isinstance rfl Ε (jv 0)) (Zd rfl Z.isinstance rfl ĭ (jv 0)))))) (Ă 1 zL (ó jW (jv 1) (vB (j3 (Zd rfl Z.isinstance rfl X0e (jv 0)) (Zd rfl Z.isinstance rfl X0d (jv 0)) (Zd rfl Z.isinstance rfl X0c (jv 0)))))) (Ă 1 zL (ó jW (jv 1) (vB (j3 (Zd rfl Z.isinstance rfl ň (jv 0)) (Zd rfl Z.isinstance rfl Ζ (jv 0)) (Zd rfl Z.isinstance rfl Ň (jv 0)))))) (wf (ξ (Xw (wc (wb (Hb (T:= "ValueError") rfl Z.isinstance rfl Ex.ve (by decide +kernel) (jv 0)))) (GJ (î Ě (kM hr.units (jv 1) Ŷ) jw)))) (zf JU)) (Ă 2 zL (vB (Ć JU (by exact(Ć JU (by exact(Ć JU (by exact(Ć JU (by exact(Ć JU (by exact(Ć JU (by exact(j4 JU JU JU JU))))))))))))))) (zf (Ē (ó jW (jv 2) (vB (j3 JU JU JU))) (Kf hr.units (jv 1) Ŷ))))) ?_;intro ds h Q q;obtain⟨c,C,fs,e,hc,hm,q⟩:=q;subst e;have υ: ∀d∈CN13,∀D,mg d=zq (.ref D)->iQ K (.ref C) (.ref D)=zq (c==d):=λd hd D hD=>Ex.kit13 c hc d hd C D hm hD
 have ek:=Ex.ek13 c hc C hm;have kv:=Ex.val13 c hc C hm;refine ji (λÂ h'=> ∃p,Â= [zq (.exf C fs),zq (.lst p),xa]/\Sub h h'/\h' p=zq (Pj c 4)) (λC2 hC=>⟨_,rfl,C,fs,_,rfl,ek,υ _ (by decide) _ Ş,_,rfl,C,fs,_,rfl,ek,υ _ (by decide) _ ŝ,_,rfl,C,fs,_,rfl,ek,υ _ (by decide) _ ņ,_,rfl,C,fs,_,rfl,ek,υ _ (by decide) _ Ŝ,sz4,λp e=>hC _ _ ⟨p,rfl,Sub.newAt (Sub.refl h) e,jc⟩⟩) ?_;rintro _ h1 ⟨p,rfl,sb,k1⟩;refine ji (λÂ h'=> ∃p,Â= [zq (.exf C fs),zq (.lst p),xa]/\Sub h h'/\h' p=zq (Pj c 7)) (λC2 hC=>⟨_,rfl,_,rfl,C,fs,_,rfl,ek,υ _ (by decide) _ X0b,_,rfl,C,fs,_,rfl,ek,υ _ (by decide) _ Ε,_,rfl,C,fs,_,rfl,ek,υ _ (by decide) _ ĭ,sz3,λp2 e2=>⟨_,_,je k1 e2,jc,(by show 7<=xh;decide),λp3 e3=>hC _ _ ⟨p3,rfl,Sub.newAt (Sub.newAt sb e2) e3,jc⟩⟩⟩) ?_;rintro _ h1 ⟨p,rfl,sb,k1⟩;refine ji (λÂ h'=> ∃p,Â= [zq (.exf C fs),zq (.lst p),xa]/\Sub h h'/\h' p=zq (Pj c 10)) (λC2 hC=>⟨_,rfl,_,rfl,C,fs,_,rfl,ek,υ _ (by decide) _ X0e,_,rfl,C,fs,_,rfl,ek,υ _ (by decide) _ X0d,_,rfl,C,fs,_,rfl,ek,υ _ (by decide) _ X0c,sz3,λp2 e2=>⟨_,_,je k1 e2,jc,(by show 10<=xh;decide),λp3 e3=>hC _ _ ⟨p3,rfl,Sub.newAt (Sub.newAt sb e2) e3,jc⟩⟩⟩) ?_;rintro _ h1 ⟨p,rfl,sb,k1⟩;refine ji (λÂ h'=> ∃p,Â= [zq (.exf C fs),zq (.lst p),xa]/\Sub h h'/\h' p=zq (Pj c 13)) (λC2 hC=>⟨_,rfl,_,rfl,C,fs,_,rfl,ek,υ _ (by decide) _ ň,_,rfl,C,fs,_,rfl,ek,υ _ (by decide) _ Ζ,_,rfl,C,fs,_,rfl,ek,υ _ (by decide) _ Ň,sz3,λp2 e2=>⟨_,_,je k1 e2,jc,(by show 13<=xh;decide),λp3 e3=>hC _ _ ⟨p3,rfl,Sub.newAt (Sub.newAt sb e2) e3,jc⟩⟩⟩) ?_;rintro _ h1 ⟨p,rfl,sb,k1⟩;have hpG: ∀h':HD,h' p=zq (Pj c 13)->Ĩ h' (.lst p) (.list (BE c)):=λh' k=>⟨p,_,rfl,k,Mr _⟩
 obtain⟨j,hj,hz,hno,hw,X14⟩:=EX hc;refine jF [zq (.exf C fs),zq (.lst p),xa] (λC2 hC=>⟨_,rfl,C,fs,_,rfl,ek,kv,_,rfl,jU ⟨_,rfl,p,rfl,.bool xb,_,hpG h1 k1,rfl,rfl,rfl,by simp [J6],_,rfl,?_⟩⟩) ?_
 ·rw [X14];exact jU (hC)
 refine ji (λÂ h'=> ∃w,Â= [zq (.exf C fs),zq (.lst p),zq (.lst w)]/\Sub h1 h'/\h' p=zq (Pj c 13)/\h' w=zq (X0p.take 10)) (λC2 hC=>⟨(by show 10<=xh;decide),λw e=>hC _ _ ⟨w,rfl,Sub.newAt (Sub.refl h1) e,je k1 e,jc⟩⟩) ?_;rintro _ h2 ⟨w,rfl,sb2,kp2,kw⟩;exact⟨_,rfl,sz3,λp4 e4=>⟨_,_,je kw e4,jc,(by show 13<=xh;decide),λp5 e5=>⟨_,rfl,p,rfl,.bool xb,_,j,_,hpG _ (je (je kp2 e4) e5),rfl,rfl,rfl,by simp [J6],by omega,hz,rfl,hno,_,_,jc,hw,_,Sub.refl _,q _ (Sub.newAt (Sub.newAt (sb.trans sb2) e4) e5)⟩⟩⟩
def Oc (Z:Zs mg)(Ex:Ğ K mg)(F:â K "_law_said" "_law_said" Je f fd)(CU:Vo P w K mg base n "_law_kind" ["_law_e"] (Qb mg))(CW:Vo P w K mg base n "_law_whole" ["_law_thing"] zJ):ś P w K mg base à (n+2) f fd ["_law_call"] (Vv P w K mg base n):=by
 obtain⟨gU,gdU,GU,bGU,kGU,mGU⟩:=CU;obtain⟨gW,gdW,GW,bGW,kGW,mGW⟩:=CW;obtain⟨pe,hpe,hex⟩:=Ex.pe13;refine NX F ZH rfl rfl rfl rfl rfl hpe hex _ (λÏ A outer s H E x hr=>jy (Kb (i:=3) ZH.nd rfl (A3 rfl) (Ga GU hr rfl mGU kGU bGU (Ć (jv 2) zu)))
  (jy (Ed (GI (TJ hr.units) (jv 3) (yf (Ć JU (Ć JU zu))) (by with_unfolding_all rfl)) (jO (zf (yf (Ć (jv 3) (Ć (jif (wb (Ga GW hr rfl mGW kGW bGW (Ć (Pc (f:= "at") (hB:=Qc) (jv 2)) zu))) (Pc (f:= "at") (hB:=Qc) (jv 2)) JR) zu))))) UB)
  (jy (Ed (GI Í (jv 3) JU (PY _)) (jO (zf (yf (Ć (jv 3) (Ć (jif (wb (Ga GW hr rfl mGW kGW bGW (Ć (Pc (f:= "many") (hB:=US) (jv 2)) zu))) (Pc (f:= "many") (hB:=US) (jv 2)) JR) (Ć (jif (wb (Ga GW hr rfl mGW kGW bGW (Ć (Pc (f:= "most") (hB:=UT) (jv 2)) zu))) (Pc (f:= "most") (hB:=UT) (jv 2)) JR) zu)))))) UB)
  (jO (zf (yf (Ć (jv 3) zu))))))) ?_
 intro c C h Qd hok hm q;refine⟨_,rfl,c.nm,C,c.fs,rfl,Vu hok,hm,λh' sb=> ?_⟩;have fld: ∀ (w:Str) (fs:G0 (Str×P4)) (f:F7) (a:P4) (fI:G7) (ns:G0 F7) (Q:KD),fs.lookup (P6 f)=zq a->Ĵ K C fI ns->f∈ns->Q (.int a) h'->dIf (Jl (Ķ zJ (jP (Lw K f (JM 2)) Jk))) (Lw K f (JM 2)) (dC .non) [xa,xa,zq (.exf C fs),zq (.str w)] h' Q:=λw fs f a fI ns Q hl hi hf hq=>
  ⟨_,rfl,C,fs,a,fI,ns,rfl,hl,hi,hf,_,_,rfl,rfl,_,rfl,vA ⟨_,rfl,C,fs,a,fI,ns,rfl,hl,hi,hf,hq⟩⟩
 have words: ∀w:Str,(cG w).canLay0=xb-> ∀Q:N3->HD->Prop,Q ((xf !=G0Z [cG "tables",cG "text"] λz=>C8 z (.str w))) h'->Jl (Ġ (inE xf) (JM 3) (Oh (jP (dC (.str "tables")) (jP (dC (.str "text")) Jk)))) [xa,xa,zq (.exf C c.fs),zq (.str w)] h' Q:=λw hw Q hq=>
  ⟨_,rfl,(by show 2<=xh;decide),.str w,[.str "tables",.str "text"],rfl,.inr ⟨_,rfl,⟨_,_,rfl,rfl,_,_,rfl,rfl,rfl⟩⟩,hw,by decide +kernel,by simp [J6],_,rfl,hq⟩
 rcases Pd hok with ⟨hc,e⟩|⟨a,rfl⟩|⟨a,rfl⟩|⟨a,b,rfl⟩
 ·obtain⟨nm,fs⟩:=c;cases e;have e0:(cG (Vt nm)).canLay0=xb/\((xf !=G0Z [cG "tables",cG "text"] λz=>C8 z (.str (Vt nm))))=xf/\decide (Vt nm= "great")=xf:=by
   simp only [CN,R5,F9,or_false] at hc;rcases hc with rfl|rfl|rfl|rfl|rfl|rfl|rfl|rfl|rfl|rfl<;>exact⟨by decide +kernel,rfl,rfl⟩
  refine words _ e0.1 _ ?_;rw [e0.2.1];refine jU ⟨_,rfl,_,rfl,?_⟩;rw [e0.2.2];exact jU ⟨_,rfl,(by show 1<=xh;decide),h,sb,q⟩
 ·obtain⟨fI,I0⟩:=Ex.ini "NoTables" (by decide) C hm;refine words _ (by show (cG (Vt "NoTables")).canLay0=xb;decide +kernel) _ (vA ⟨_,rfl,fld _ _ "at" a fI _ _ rfl I0 (by decide) ⟨(by show 2<=xh;decide),h,sb,q⟩⟩)
 ·obtain⟨fI,I0⟩:=Ex.ini "NoText" (by decide) C hm;refine words _ (by show (cG (Vt "NoText")).canLay0=xb;decide +kernel) _ (vA ⟨_,rfl,fld _ _ "at" a fI _ _ rfl I0 (by decide) ⟨(by show 2<=xh;decide),h,sb,q⟩⟩)
 ·obtain⟨fI,I0⟩:=Ex.ini "TooGreat" (by decide) C hm;refine words _ (by show (cG (Vt "TooGreat")).canLay0=xb;decide +kernel) _ (jU ⟨_,rfl,_,rfl,vA ⟨_,rfl,fld _ _ "many" a fI _ _ rfl I0 (by decide) (fld _ _ "most" b fI _ _ rfl I0 (by decide) ⟨(by show 3<=xh;decide),h,sb,q⟩)⟩⟩)
inductive LtG (k:P0)(h:HD)(p R S:G7)(fl way o m:P4)(i j:P0)(rows:G0 (G0 P4))(row:G0 P4)(Â:SD)(h':HD):Prop
 |mk (g:N3) (l6:P4) (z1:Â= [zq (.lst p),zq (.int (k:P4)),zq (.int way),zq (.int o),zq (.int m),zq (.lst R),zq (.int (i:P4)),zq (.lst S),zq (.int (j:P4)),zq (.bl g)]) (z2:0<=l6) (z3:h' p=zq [.int l6,.int fl]) (z4:h' R=zq (rows.map wU)) (z5:h' S=zq (row.map D.int)) (z6:ô p h h'):LtG k h p R S fl way o m i j rows row Â h'
inductive LtJ (k:P0)(h:HD)(p R S:G7)(fl way o m:P4)(i:P0)(rows:G0 (G0 P4))(j:P0)(Â:SD)(h':HD):Prop
 |mk (c d:P1 D) (l5:P4) (row:G0 P4) (y:Â= [zq (.lst p),zq (.int (k:P4)),zq (.int way),zq (.int o),zq (.int m),zq (.lst R),zq (.int (i:P4)),zq (.lst S),c,d]) (z0:0<=l5) (z1:h' p=zq [.int l5,.int fl]) (z2:h' R=zq (rows.map wU)) (z3:h' S=zq (row.map D.int)) (z4:ô p h h') (y1:row.length=j) (y2: ∀x∈row,0<=x/\x<=1000000):LtJ k h p R S fl way o m i rows j Â h'
inductive LtI (k:P0)(h:HD)(p R:G7)(fl way o m:P4)(i:P0)(Â:SD)(h':HD):Prop
 |mk (a b c d:P1 D) (l4:P4) (rows:G0 (G0 P4)) (y:Â= [zq (.lst p),zq (.int (k:P4)),zq (.int way),zq (.int o),zq (.int m),zq (.lst R),a,b,c,d]) (z0:0<=l4) (z1:h' p=zq [.int l4,.int fl]) (z2:h' R=zq (rows.map wU)) (z3:ô p h h') (y1:rows.length=i) (y2: ∀r∈rows,yr k r):LtI k h p R fl way o m i Â h'
def zp:RDn:=λds h Q=> ∃p l fl,∃k:P0,ds= [.lst p,.int (k:P4)]/\h p=zq [.int l,.int fl]/\0<=l/\1<=k/\k<=6/\ ∀T l',ĸ k T->0<=l'->Q (ju T) (wd h p [.int l',.int fl])
def VX (Z:Zs mg)(F:â K "_law_table" "_law_table" yY f fd)(jt:jn P w K mg base n "_law_draw" ["_law_pen_here","_law_many_here"] zm):Ì P w K mg base à (n+1) f fd ["_law_pen_here","_law_size"] (í K zp):=by
 refine F.okM jE (λhr=>(js5 (Sk (i:=2) (j:=3) rfl jE.nd rfl rfl (by decide) rfl rfl (j2 (jk jt hr (j2 (jv 0) jw)) (Ē (vB (j3 jw jw jw)) (jk jt hr (j2 (jv 0) jw)))) rfl) (Ă 4 jE (Ē (vB (j4 jw jw jw (ó BS jw jw))) (jk jt hr (j2 (jv 0) jw)))) (Ă 5 jE (vB zu)) (QX L9 rfl (jrg Z (jv 1)) (jgn 6 jE) (js3 (Ă 7 jE (vB zu)) (QX L9 rfl (jrg Z (jv 1)) (jgn 8 jE) (js5 (Ă 9 jE (jc1 Í (jk jt hr (j2 (jv 0) (jv 3))) jw)) (wf (î AL (jv 2) jw) (Ă 9 jE (jor (jc1 Í (jv 8) (ó vH (ó jW (jv 6) jw) (jv 1))) (DV (Nf (jv 9) (DV (jc1 (BV hr.units) (jk jt hr (j2 (jv 0) jw)) (jv 2)))))))) (wf (î Í (jv 2) jw) (Ă 9 jE (jor (Nf (jv 9) (DV (jc1 Í (ó vH (ó Ut (jv 8) (jv 6)) jw) jw))) (DV (jc1 (BV hr.units) (jv 8) (ó jW (jv 6) jw)))))) (wf (î Í (jv 2) jw) (Ă 9 jE (Nf (jv 9) (DV (jc1 FD (jv 8) (jv 6)))))) (vC (Ef (jv 7) (ó vS (zj DI rfl Z.int (by decide +kernel) (j1 (jv 9))) (ó jW jw (jk jt hr (j2 (jv 0) (jv 4))))))))) (vC (Ef (jv 5) (zj ò rfl Z.tuple (by decide +kernel) (j1 (jv 7))))))) (zf (zj ò rfl Z.tuple (by decide +kernel) (j1 (jv 5)))))) ?_;rintro ds h Q ⟨p,l,fl,k,rfl,hp,h0,hk1,hk6,q⟩;refine⟨rfl,?_⟩;refine ji (λÂ h'=> ∃way o l2,Â= [zq (.lst p),zq (.int (k:P4)),zq (.int way),zq (.int o),xa,xa,xa,xa,xa,xa]/\0<o/\o<1000/\0<=l2/\h' p=zq [.int l2,.int fl]/\ô p h h') (λC hC=>⟨_,rfl,p,l,fl,6,rfl,hp,h0,by decide,by decide,λway l1 w0 w1 l10=>⟨sz3,λp1 e1=>⟨_,rfl,p,l1,fl,3,rfl,je jc e1,l10,by decide,by decide,λr l2 r0 r1 ú=> ?_⟩⟩⟩) ?_
 ·obtain⟨ů,ho,eo⟩:=JP (xs:= [D.int 2,D.int 3,D.int 5]) r0 r1;obtain⟨o,e,o1,o2⟩: ∃o:P4,ů= .int o/\0<o/\o<1000:=by
   simp only [R5,F9,or_false] at ho;rcases ho with e|e|e<;>exact⟨_,e,by decide,by decide⟩
  subst e;exact⟨_,_,jg (jq jc e1) jc,eo,_,_,rfl,hC _ _ ⟨way,o,l2,rfl,o1,o2,ú,jc,((ô.upd).new e1).put⟩⟩
 rintro _ h1 ⟨way,o,l2,rfl,o1,o2,ú,kA,bA⟩;refine ji (λÂ h'=> ∃m l3,Â= [zq (.lst p),zq (.int (k:P4)),zq (.int way),zq (.int o),zq (.int m),xa,xa,xa,xa,xa]/\0<m/\m<=1000000/\0<=l3/\h' p=zq [.int l3,.int fl]/\ô p h h') (λC hC=>⟨⟨by decide,by decide,by decide⟩,sz4,λp1 e1=>⟨_,rfl,p,l2,fl,4,rfl,je kA e1,ú,by decide,by decide,λr l3 r0 r1 Ŋ=> ?_⟩⟩) ?_
 ·obtain⟨most,ho,eo⟩:=JP (xs:= [D.int 1,D.int 1,D.int 3,D.int (10^sE 6)]) r0 r1;obtain⟨m,e,m1,m2⟩: ∃o:P4,most= .int o/\0<o/\o<=1000000:=by
   simp only [R5,F9,or_false] at ho;rcases ho with e|e|e|e<;>exact⟨_,e,by decide,by decide⟩
  subst e;exact⟨_,_,jg (jq kA e1) jc,eo,hC _ _ ⟨m,l3,rfl,m1,m2,Ŋ,jc,(bA.new e1).put⟩⟩
 clear kA bA;rintro _ h2 ⟨m,l3,rfl,m1,m2,Ŋ,kB,bB⟩;refine ji (λÂ h'=> ∃R,Â= [zq (.lst p),zq (.int (k:P4)),zq (.int way),zq (.int o),zq (.int m),zq (.lst R),xa,xa,xa,xa]/\R≠p/\h R=xa/\h' R=zq []/\h' p=zq [.int l3,.int fl]/\ô p h h') (λC hC=>⟨sz0,λR eR=>hC _ _ ⟨R,rfl,jq kB eR,Wq bB eR (jq kB eR),jc,je kB eR,bB.new eR⟩⟩) ?_;clear kB bB;rintro _ h3 ⟨R,rfl,nR,fR,kR,kC,bC⟩;refine ji (LtI k h p R fl way o m k) (λC hC=> ?_) (λÂ h' ⟨a,b,c,d,l4,rows,e,l40,kD,kE,bD,ga,gb⟩=>by subst e;exact⟨_,rfl,_,kE,_,bD.sub kD,q rows l4 ⟨ga,gb⟩ l40⟩);refine JQ k (LtI k h p R fl way o m) (by omega) (λR' r=>⟨_,rfl,r⟩)
  ⟨xa,xa,xa,xa,l3,[],rfl,Ŋ,kC,kR,bC,rfl,λr hr=>nomatch hr⟩ (λÂ h' z=>hC _ _ z) ?_
 clear kC kR bC;rintro i _ h4 hi ⟨a,b,c,d,l4,rows,rfl,l40,kD,kE,bD,g1,g2⟩;refine Gw λE1 Β=> ?_
 refine ji (λÂ h'=> ∃S,Â= [zq (.lst p),zq (.int (k:P4)),zq (.int way),zq (.int o),zq (.int m),zq (.lst R),zq (.int (i:P4)),zq (.lst S),c,d]/\S≠p/\S≠R/\h S=xa/\h' S=zq []/\h' p=zq [.int l4,.int fl]/\h' R=zq (rows.map wU)/\ô p h h') (λC hC=>⟨sz0,λS eS=>hC _ _ ⟨S,rfl,jq kD eS,jq kE eS,Wq bD eS (jq kD eS),jc,je kD eS,je kE eS,bD.new eS⟩⟩) ?_;clear kD kE bD;rintro _ h5 ⟨S,rfl,nS,nSR,fS,kS,kD,kE,bD⟩;refine ji (LtJ k h p R S fl way o m i rows k) (λC hC=> ?_) ?_
 rotate_left
 ·rintro _ h6 ⟨c,d,l5,row,rfl,l50,kD,kE,kF,bD,ga,gb⟩;refine⟨_,rfl,R,rfl,_,rfl,_,kF,_,kE,?_,Β _ _ ⟨_,Sub.refl _,by omega,_,_,_,_,l5,rows++ [row],rfl,l50,jg (O6 nR) kD,?_,bD.putNew fR,by rw [P3,g1];rfl,?_⟩⟩
  ·rw [G6];exact U2 (show rows.length<=1000 by omega) (by decide)
  ·rw [jc,T9];rfl
  ·intro r hr;rcases D9.mp hr with z|z
   ·exact g2 r z
   ·rw [P2.mp z];exact⟨ga,gb⟩
 refine JQ k (LtJ k h p R S fl way o m i rows) (by omega) (λR' r=>⟨_,rfl,r⟩)
  ⟨_,_,l4,[],rfl,l40,kD,kE,kS,bD,rfl,λr hr=>nomatch hr⟩ (λÂ h' z=>hC _ _ z) ?_
 clear kD kE kS bD;rintro j _ h6 hj ⟨c,d,l5,row,rfl,l50,kD,kE,kF,bD,g1',g2'⟩;refine Gw λE2 nx2=> ?_
 refine ji (LtG k h p R S fl way o m i j rows row) (λC hC=>⟨_,rfl,_,rfl,p,l5,fl,o,rfl,kD,l50,o1,by omega,λr l6 r0 r1 Į=>hC _ _ ⟨_,l6,rfl,Į,jc,jg nR kE,jg nS kF,bD.put⟩⟩) ?_;clear kD kE kF bD;rintro _ _ ⟨g,l6,rfl,Į,kD,kE,kF,bD⟩;refine ji (LtG k h p R S fl way o m i j rows row) (λC hC=>⟨_,rfl,_,rfl,Ul (λ_=>⟨_,rfl,_,rfl,_,rfl,by omega,_,rfl,Ul (λ_=>hC _ _ ⟨_,l6,rfl,Į,kD,kE,kF,bD⟩) λ_=>⟨_,rfl,_,rfl,Ul (λ_=>⟨_,rfl,p,l6,fl,2,rfl,kD,Į,by decide,by decide,λr l7 r0 r1 l70=>⟨_,rfl,hC _ _ ⟨_,l7,rfl,l70,jc,jg nR kE,jg nS kF,bD.put⟩⟩⟩) λ_=>hC _ _ ⟨_,l6,rfl,Į,kD,kE,kF,bD⟩⟩⟩) λ_=>hC _ _ ⟨_,l6,rfl,Į,kD,kE,kF,bD⟩⟩) ?_;clear kD kE kF bD;rintro _ _ ⟨g,l6,rfl,Į,kD,kE,kF,bD⟩;refine ji (LtG k h p R S fl way o m i j rows row) (λC hC=>⟨_,rfl,_,rfl,Ul (λ_=>⟨_,rfl,_,rfl,Ul (λ_=>⟨_,rfl,_,rfl,by decide,_,rfl,Ul (λ_=>hC _ _ ⟨_,l6,rfl,Į,kD,kE,kF,bD⟩) λ_=>⟨_,rfl,_,rfl,hC _ _ ⟨_,l6,rfl,Į,kD,kE,kF,bD⟩⟩⟩) λ_=>⟨_,rfl,Ul (λ_=>hC _ _ ⟨_,l6,rfl,Į,kD,kE,kF,bD⟩) λ_=>⟨_,rfl,_,rfl,hC _ _ ⟨_,l6,rfl,Į,kD,kE,kF,bD⟩⟩⟩⟩) λ_=>hC _ _ ⟨_,l6,rfl,Į,kD,kE,kF,bD⟩⟩) ?_;clear kD kE kF bD;rintro _ _ ⟨g,l6,rfl,Į,kD,kE,kF,bD⟩;refine ji (LtG k h p R S fl way o m i j rows row) (λC hC=>⟨_,rfl,_,rfl,Ul (λ_=>⟨_,rfl,_,rfl,Ul (λ_=>⟨_,rfl,_,rfl,hC _ _ ⟨_,l6,rfl,Į,kD,kE,kF,bD⟩⟩) λ_=>hC _ _ ⟨_,l6,rfl,Į,kD,kE,kF,bD⟩⟩) λ_=>hC _ _ ⟨_,l6,rfl,Į,kD,kE,kF,bD⟩⟩) ?_;clear kD kE kF bD;rintro _ _ ⟨g,l6,rfl,Į,kD,kE,kF,bD⟩;have gi: ∀x r:P4,0<=r->r<m->x=0\/x=1->X0H x (1+r)/\0<=x*(1+r)/\x*(1+r)<=1000000:=λx r r0 r1 hx=>by
  rcases hx with e|e<;>subst e
  ·exact⟨.inl ⟨by decide,by decide⟩,by omega,by omega⟩
  ·exact⟨.inl ⟨by decide,by decide⟩,by omega,by omega⟩
 refine⟨_,rfl,S,rfl,_,rfl,_,rfl,_,rfl,p,l6,fl,m,rfl,kD,Į,m1,by omega,λr l7 r0 r1 l70=> ?_⟩;have gg:=gi (if g=xb then 1 else 0) r r0 r1 (by cases g<;>decide);refine⟨gg.1,_,jg nS kF,?_,nx2 _ _ ⟨_,Sub.refl _,by omega,_,_,l7,row++ [(if g=xb then 1 else 0)*(1+r)],rfl,l70,jg (O6 nS) jc,jg (O6 nSR) (jg nR kE),?_,(bD.put).putNew fS,by rw [P3,g1'];rfl,?_⟩⟩
 ·rw [G6];exact U2 (show row.length<=1000 by omega) (by decide)
 ·rw [jc,T9];rfl
 ·intro x hx;rcases D9.mp hx with z|z
  ·exact g2' x z
  ·rw [P2.mp z];exact gg.2
def Jz:RDn:=λds h Q=> ∃p l fl,∃k:P0,ds= [.lst p,.int (k:P4)]/\h p=zq [.int l,.int fl]/\0<=l/\k<=6/\ ∀o l',ı k o->0<=l'->Q (XO o) (wd h p [.int l',.int fl])
def VY (Z:Zs mg)(F:â K "_law_order" "_law_order" yZ f fd)(jt:jn P w K mg base n "_law_draw" ["_law_pen_here","_law_many_here"] zm):Ì P w K mg base à (n+1) f fd ["_law_pen_here","_law_many_here"] (í K Jz):=by
 refine F.okM yA (λhr=>(js3 (Ă 2 yA (vB zu)) (QX L9 rfl (jrg Z (jv 1)) (jgn 3 yA) (jO (vC (kh (jv 2) (jk jt hr (j2 (jv 0) (ó jW (jv 3) jw))) (jv 3))))) (zf (zj ò rfl Z.tuple (by decide +kernel) (j1 (jv 2)))))) ?_;rintro ds h Q ⟨p,l,fl,k,rfl,hp,h0,hk,q⟩;refine⟨rfl,?_⟩;refine ji (λÂ h'=> ∃R,Â= [zq (.lst p),zq (.int (k:P4)),zq (.lst R),xa]/\R≠p/\h R=xa/\h' R=zq []/\h' p=zq [.int l,.int fl]/\ô p h h') (λC hC=> ?_) ?_
 ·exact⟨sz0,λR eR=>hC _ _ ⟨R,rfl,jq hp eR,eR,jc,je hp eR,(ô.refl p h).new eR⟩⟩
 rintro Â h1 ⟨R,rfl,nR,fR,kR,kp,bt⟩;refine ji (λÂ h'=> ∃a l2 o,Â= [zq (.lst p),zq (.int (k:P4)),zq (.lst R),a]/\0<=l2/\ı k o/\h' R=zq (o.map λ(i:P0)=>D.int (i:P4))/\h' p=zq [.int l2,.int fl]/\ô p h h') (λC hC=> ?_) ?_
 ·refine JQ k (λi Â h'=> ∃a l2 o,Â= [zq (.lst p),zq (.int (k:P4)),zq (.lst R),a]/\0<=l2/\ı i o/\h' R=zq (o.map λ(i:P0)=>D.int (i:P4))/\h' p=zq [.int l2,.int fl]/\ô p h h') (by omega) (λR' r=>⟨_,rfl,r⟩) ⟨xa,l,[],rfl,h0,G02,kR,kp,bt⟩ (λÂ h' z=>hC _ _ z) ?_;rintro i _ h2 hi ⟨a,l2,o,rfl,ú,ho,kR2,kp2,bt2⟩;refine⟨_,rfl,R,rfl,_,rfl,_,rfl,p,l2,fl,(i:P4)+1,rfl,kp2,ú,by omega,by omega,λr l3 r0 r1 Ŋ=> ?_⟩;have lo:o.length=i:=ho.ord.len;refine⟨_,rfl,r.toNat,_,by rw [Int.toNat_of_nonneg r0],by omega,jg nR kR2,?_,_,Sub.refl _,by omega,_,l3,o.take r.toNat++i::o.drop r.toNat,rfl,Ŋ,ho.insert r.toNat,?_,jg (O6 nR) jc,(bt2.put).putNew fR⟩
  ·rw [G6];exact U2 (show o.length<=1000 by omega) (by decide)
  ·rw [jc,T9,S9,cX,pH]
 rintro _ h3 ⟨a,l2,o,rfl,ú,ho,kR3,kp3,bt3⟩;exact⟨_,rfl,_,kR3,_,bt3.sub kp3,q o l2 ho ú⟩
def yL:RDn:=λds h Q=> ∃p l fl,ds= [.lst p]/\h p=zq [.int l,.int fl]/\0<=l/\ ∀d l' h',okD d=xb->Cm d=xf->ô p h h'->h' p=zq [.int l',.int fl]->0<=l'->Q d h'
def ZS (Z:Zs mg)(F:â K "_law_no_table" "_law_no_table" wK f fd)(jt:jn P w K mg base n "_law_draw" ["_law_pen_here","_law_many_here"] zm):Ì P w K mg base à (n+1) f fd ["_law_pen_here"] (í K yL):=by
 refine F.okM yK (λhr=>(js2 (Ă 1 yK (vB (Ć JR (by exact(Ć jw (by exact(Ć (yf zu) (by exact(Ć (vB zu) (by exact(Ć (yf (j1 jw)) (by exact(Ć (yf (j1 (yf zu))) (by exact(Ć (yf (j2 (yf (j1 jw)) (yf (j1 jw)))) (by exact(Ć (yf (j1 (yf (j2 jw jw)))) (by exact(Ć (yf (j1 (yf (j1 (Eg jw))))) (by exact(j4 (yf (j1 (yf (j1 Ŷ)))) (vB (j1 (vB (j1 jw)))) (yf (j1 (yf (j1 JR)))) JU))))))))))))))))))))) (zf (Ē (ó jW (jv 1) (vB (Ć (yf (j1 (yf (j1 Ŷ)))) (by exact(j4 (ó vS (yf (j1 (ó vS (yf (j1 jw)) jw))) jw) (yf (j1 (vB (j1 jw)))) (yf (j1 (yf (j1 (yf (j1 jw)))))) BX))))) (jk jt hr (j2 (jv 0) jw)))))) ?_;rintro ds h Q ⟨p,l,fl,rfl,hp,h0,q⟩;refine⟨rfl,?_⟩;simp only [yn,Py,ME,jP,dC,Oh,Jk,B6,D8,dUn,Sj,DA,Ġ,JM,zt,S9,aJ,M8,K0,O2,qA,qB,aX,K5,X6,Si,Uy,MZ,Ķ,ixD,aE,Xv]
 repeat (first|intro _|refine⟨by decide,?_⟩|refine⟨⟨by decide,by decide,by decide⟩,?_⟩)
 rename_i p1 e1 p2 e2 p3 e3 p4 e4 p5 e5 p6 e6;have k1:=je (M:= []) hp e1;have k2:=je (M:= [.int 1]) k1 e2;have k3:=je (M:= [.lst p2]) k2 e3;refine⟨_,_,je (je jc e5) e6,jc,by simp only [D8,B6];decide,λp7 e7=> ?_⟩;refine⟨p,l,fl,18,rfl,je (je (je (je k3 e4) e5) e6) e7,h0,by decide,by decide,λr l' r0 r1 l0=> ?_⟩;obtain⟨d,hd,ed⟩:=JP (xs:= [D.non,D.int 0,D.tup [],D.lst p1,D.tup [D.int 0],D.tup [D.tup []],D.tup [D.tup [D.int 1],D.tup [D.int 1]],D.tup [D.tup [D.int 0,D.int 1]],D.tup [D.tup [D.int (-1)]],D.tup [D.tup [D.bl xb]],D.lst p3,D.tup [D.tup [D.non]],D.str (P6 "1")]++ [D.tup [D.tup [D.bl xf]],D.tup (M8 (sE 7) [D.tup (M8 (sE 7) [D.int 0]).flatten]).flatten,D.tup [D.lst p5],D.tup [D.tup [D.tup [D.int 0]]],D.dic (P6 "a") 1]) r0 r1;refine⟨_,d,jg (jq (je (je (je k3 e4) e5) e6) e7) jc,ed,_,Sub.refl _,q d l' _ (VJ ?_ d hd) ?_ (((((((ô.refl p h).new e1).new e2).new e3).new e4).new e5).new e6 |>.new e7).put jc l0⟩
 ·rfl
 ·simp only [D9,R5,F9,or_false] at hd;rcases hd with (e|e|e|e|e|e|e|e|e|e|e|e|e)|e|e|e|e|e<;>subst e<;>rfl
inductive GtA (k:P0)(h:HD)(p:G7)(fl:P4)(i:P0)(ys:G0 D)(h':HD):Prop
 |mk (rs:G0 G7) (l4:P4) (z0:ys=rs.map D.lst) (z1:rs.length=i) (z2:0<=l4) (z3:h' p=zq [.int l4,.int fl]) (z4:ô p h h') (z5:p ∉ rs) (z6: ∀a∈rs,h a=xa/\ ∃r,h' a=zq (r.map D.int)/\yr k r):GtA k h p fl i ys h'
inductive GtB (k:P0)(h:HD)(p:G7)(fl:P4)(rs:G0 G7)(j:P0)(zs:G0 D)(h':HD):Prop
 |mk (r:G0 P4) (l5:P4) (z0:zs=r.map D.int) (z1:r.length=j) (z2:(∀x∈r,0<=x/\x<=1000000)) (z3:0<=l5) (z4:h' p=zq [.int l5,.int fl]) (z5:ô p h h') (z6:(∀a∈rs,∃r,h' a=zq (r.map D.int)/\yr k r)):GtB k h p fl rs j zs h'
inductive GtC (k:P0)(h:HD)(p R:G7)(fl ů:P4)(o:G0 P0)(rs:G0 G7)(Â:SD)(h':HD):Prop
 |mk (a b c:P1 D) (l5:P4) (z0:Â= [zq (.lst p),zq (.int (k:P4)),zq (XO o),zq (.int ů),zq (.lst R),a,b,c,xa,xa,xa]) (z1:0<=l5) (z2:h' p=zq [.int l5,.int fl]) (z3:ô p h h') (z4:Ė k h h' p R rs):GtC k h p R fl ů o rs Â h'
def JB (Z:Zs mg)(F:â K "_law_good_table" "_law_good_table" zV f fd)(Xn:jn P w K mg base n "_law_order" ["_law_pen_here","_law_many_here"] Jz)(jt:jn P w K mg base n "_law_draw" ["_law_pen_here","_law_many_here"] zm):Ì P w K mg base à (n+1) f fd ["_law_pen_here","_law_size"] (í K zp):=by
 refine F.okM jC (λhr=>(js6 (Ă 2 jC (jk Xn hr (j2 (jv 0) (jv 1)))) (Ă 3 jC (Ē (vB (j3 jw jw jw)) (jk jt hr (j2 (jv 0) jw)))) (Ee (i:=8) (k:=4) (js:= [8]) rfl jC.nd rfl (A3 rfl) (zK (by rfl)) (jrg Z (jv 1)) (by decide) rfl (by first|exact A3 rfl|exact aR rfl) (λX' hX=>JV) (λX' hX=>by obtain⟨C,s₀,H₀,ex,rfl⟩:=hX;exact(Μ 9 jC (jrg Z (jv 1)) (λ_ _ _ _=>(zj DI rfl Z.int (by decide +kernel) (j1 (jc1 Í (jk jt hr (j2 (jv 0) (jv 3))) jw))))))) (QX L9 rfl (jrg Z (jv 1)) (jgn 5 jC) (js2 (Sk (i:=6) (j:=7) rfl jC.nd rfl rfl (by decide) rfl rfl (j2 (Ē (jv 2) (jv 5)) (Ē (jv 2) (ó vH (ó jW (jv 5) jw) (jv 1)))) rfl) (Pz (ó jW jw (jk jt hr (j2 (jv 0) jw))) (QY (Ē (jv 4) (jv 6)) (jv 7))))) (Pz jw (QY (Ē (jv 4) (Ē (jv 2) (Eg jw))) (Ē (jv 2) (Ē (vB (j2 (ó vH jw (jv 1)) (ó Ut (jv 1) jw))) (jk jt hr (j2 (jv 0) jw)))))) (zf (zj wF rfl Z.tuple (by decide +kernel) (j1 (Μ 10 jC (wG (jv 4)) (λ_ _ _ _=>(zj ò rfl Z.tuple (by decide +kernel) (j1 (jv 10)))))))))) ?_;rintro ds h Q ⟨p,l,fl,k,rfl,hp,h0,hk1,hk6,q⟩;refine⟨rfl,?_⟩;refine ji (λÂ h'=> ∃o l2,Â= [zq (.lst p),zq (.int (k:P4)),zq (XO o),xa,xa,xa,xa,xa,xa,xa,xa]/\ı k o/\0<=l2/\h' p=zq [.int l2,.int fl]/\ô p h h') (λC hC=>⟨_,rfl,_,rfl,p,l,fl,k,rfl,hp,h0,hk6,λo l2 ho ú=>hC _ _ ⟨o,l2,rfl,ho,ú,jc,ô.upd⟩⟩) ?_;rintro _ h1 ⟨o,l2,rfl,ho,ú,kp,bt⟩;refine ji (λÂ h'=> ∃ů l3,Â= [zq (.lst p),zq (.int (k:P4)),zq (XO o),zq (.int ů),xa,xa,xa,xa,xa,xa,xa]/\0<ů/\ů<1000/\0<=l3/\h' p=zq [.int l3,.int fl]/\ô p h h') (λC hC=> ?_) ?_
 ·refine⟨sz3,λp1 e1=>⟨_,rfl,p,l2,fl,3,rfl,je kp e1,ú,by decide,by decide,λr l3 r0 r1 Ŋ=> ?_⟩⟩;obtain⟨ů,ho',eo⟩:=JP (xs:= [D.int 2,D.int 4,D.int 9]) r0 r1;refine⟨_,ů,jg (jq kp e1) jc,eo,?_⟩;obtain⟨x,rfl,x1,x2⟩: ∃x:P4,ů= .int x/\0<x/\x<1000:=by
   simp only [R5,F9,or_false] at ho';rcases ho' with e|e|e<;>exact⟨_,e,by decide,by decide⟩
  exact hC _ _ ⟨x,l3,rfl,x1,x2,Ŋ,jc,(bt.new e1).put⟩
 rintro _ h2 ⟨ů,l3,rfl,of1,of2,Ŋ,kp,bt⟩;refine ji (λÂ h'=> ∃R rs l4,Â= [zq (.lst p),zq (.int (k:P4)),zq (XO o),zq (.int ů),zq (.lst R),xa,xa,xa,xa,xa,xa]/\0<=l4/\h' p=zq [.int l4,.int fl]/\ô p h h'/\Ė k h h' p R rs) (λC hC=> ?_) ?_
 ·refine BU (h1:=h2) k (GtA k h p fl) (by omega) (λR r=>⟨_,rfl,r⟩) ⟨[],l3,rfl,rfl,Ŋ,kp,bt,by simp,by simp⟩ (λi ys h' ⟨rs,l4,e,el,_,_,_,_,_⟩=>by rw [e,G6];exact el) ?_ ?_
  ·rintro i ys h3 hi ⟨rs,l4,rfl,lrs,l40,kp3,bt3,X05,ş⟩;refine BU (h1:=h3) k (GtB k h p fl rs) (by omega) (λR r=>⟨_,rfl,r⟩) ⟨[],l4,rfl,rfl,by simp,l40,kp3,bt3,λa ha=>(ş a ha).2⟩ (λj zs h' ⟨r,l5,e,el,_,_,_,_,_⟩=>by rw [e,G6];exact el) ?_ ?_
   ·rintro j zs h4 hj ⟨r,l5,rfl,lr,gr,l50,kp4,bt4,X0z⟩;refine⟨_,rfl,_,rfl,p,l5,fl,ů,rfl,kp4,l50,of1,by omega,λx l6 x0 x1' Į=> ?_⟩;refine⟨_,Sub.refl _,by omega,r++ [if decide (x=1)=xb then 1 else 0],l6,by rw [T9];rfl,by rw [P3,lr];rfl,?_,Į,jc,bt4.put,λa ha=> ?_⟩
    ·intro y hy;rcases D9.mp hy with z|z
     ·exact gr y z
     ·rw [P2.mp z];split<;>omega
    ·obtain⟨r',e',g'⟩:=X0z a ha;exact⟨r',jg (λz=>X05 (z ▸ ha)) e',g'⟩
   ·rintro zs h4 ⟨r,l5,rfl,lr,gr,l50,kp4,bt4,X0z⟩ q4 e4;refine⟨_,Sub.refl _,by omega,rs++ [q4],l5,by rw [T9];rfl,by simp [lrs],l50,je kp4 e4,bt4.new e4,?_,λa ha=> ?_⟩
    ·intro z;rcases D9.mp z with y|y
     ·exact X05 y
     ·exact jq kp4 e4 (P2.mp y).symm
    ·rcases D9.mp ha with z|z
     ·obtain⟨r',e',g'⟩:=X0z a z;exact⟨(ş a z).1,r',je e' e4,g'⟩
     ·have:=P2.mp z;subst this;exact⟨Wq bt4 e4 (jq kp4 e4),r,jc,lr,gr⟩
  ·rintro ys h3 ⟨rs,l4,rfl,lrs,l40,kp3,bt3,X05,ş⟩ R eR;refine hC _ _ ⟨R,rs,l4,rfl,l40,je kp3 eR,bt3.new eR,⟨jc,lrs,?_,Wq bt3 eR (jq kp3 eR),X05,jq kp3 eR,λa ha=>⟨(ş a ha).1,?_⟩⟩⟩
   ·intro hR;obtain⟨_,r,e',_⟩:=ş R hR;rw [e'] at eR;cases eR
   ·obtain⟨r,e',g'⟩:=(ş a ha).2;exact⟨r,je e' eR,g'⟩
 rintro _ h3 ⟨R,rs,l4,rfl,l40,kp,bt,g⟩;refine ji (GtC k h p R fl ů o rs) (λC hC=> ?_) ?_
 ·refine JQ k (λ_=>GtC k h p R fl ů o rs) (by omega) (λR r=>⟨_,rfl,r⟩) ⟨xa,xa,xa,l4,rfl,l40,kp,bt,g⟩ (λÂ h' z=>hC _ _ z) ?_;rintro i _ h4 hi ⟨a,b,c,l5,rfl,l50,kp,bt,g⟩;refine Gw λE1 Β=> ?_
  obtain⟨y1,hy1,ey1⟩:=XR ho hi;obtain⟨y2,hy2,ey2⟩:=XR ho (G0j (i+1) (by omega:0<k));have em:((i:P4)+1)%(k:P4)=(((i+1)%k:P0):P4):=by rw [sF,tD];rfl
  rw [<-em] at ey2;refine jF [zq (.lst p),zq (.int (k:P4)),zq (XO o),zq (.int ů),zq (.lst R),zq (.int (i:P4)),zq (.int (y1:P4)),zq (.int (y2:P4)),xa,xa,xa] (λC2 ĳ=> ?_) ?_
  ·exact⟨_,rfl,_,rfl,_,ey1,_,rfl,_,rfl,_,rfl,(by omega:(0:P4)<(k:P4)),_,ey2,_,_,rfl,ĳ⟩
  refine⟨_,rfl,p,l5,fl,3,rfl,kp,l50,by decide,by decide,λr l6 r0 r1 Į=> ?_⟩;have g2:=g.pen [.int l6,.int fl];obtain⟨a',r',at',ha',er',gr',fa',na'⟩:=g2.pick hy1;exact⟨_,rfl,_,rfl,_,_,g2.at_,at',_,rfl,a',(y2:P4),_,y2,rfl,rfl,er',Rb (by rw [G6,gr'.1];exact hy2),Β _ _ ⟨_,Sub.refl _,by omega,_,_,_,l6,rfl,Į,jg (O6 na') jc,(bt.put).putNew fa',g2.set ha' er' gr' (by omega) (by omega)⟩⟩
 rintro _ h5 ⟨a,b,c,l5,rfl,l50,kp,bt,g⟩;obtain⟨z1,hz1,ez1⟩:=Np ho hk1;obtain⟨a1,r1,at1,ha1,er1,gr1,fa1,na1⟩:=g.pick hz1;refine ji (λÂ h'=> ∃l6,Â= [zq (.lst p),zq (.int (k:P4)),zq (XO o),zq (.int ů),zq (.lst R),a,b,c,xa,xa,xa]/\0<=l6/\h' p=zq [.int l6,.int fl]/\ô p h h'/\Ė k h h' p R rs) (λC hC=> ?_) ?_
 ·refine⟨_,rfl,_,rfl,_,ez1,_,_,g.at_,at1,_,rfl,_,rfl,(by omega:(0:P4)<(k:P4)),_,rfl,ż,λq1 e1=>⟨_,rfl,p,l5,fl,2,rfl,je kp e1,l50,by decide,by decide,λr l6 r0 r1' Į=> ?_⟩⟩;obtain⟨d,hd,ed⟩:=JP (xs:= [D.int ((1:P4)%(k:P4)),D.int ((k:P4)-1)]) r0 r1';obtain⟨w,rfl,hw⟩: ∃w:P0,d= .int (w:P4)/\w<k:=by
   simp only [R5,F9,or_false] at hd;rcases hd with e|e
   ·exact⟨1%k,by rw [e,sF];rfl,G0j _ (by omega)⟩
   ·exact⟨k-1,by rw [e];congr 1;omega,by omega⟩
  obtain⟨w2,hw2,ew2⟩:=XR ho hw;have g':=(g.new e1 [D.int ((1:P4)%(k:P4)),D.int ((k:P4)-1)]).pen [.int l6,.int fl];have her:wd (wd h5 q1 [D.int ((1:P4)%(k:P4)),D.int ((k:P4)-1)]) p [.int l6,.int fl] a1=zq (r1.map D.int):=jg na1 (je er1 e1);exact⟨_,_,jg (jq kp e1) jc,ed,_,ew2,a1,(w2:P4),_,w2,rfl,rfl,her,Rb (by rw [G6,gr1.1];exact hw2),hC _ _ ⟨l6,rfl,Į,jg (O6 na1) jc,((bt.new e1).put).putNew fa1,g'.set ha1 her gr1 (by decide) (by decide)⟩⟩
 rintro _ h6 ⟨l6,rfl,Į,kp,bt,g⟩;obtain⟨T,gT,eT⟩:=g.tab;refine FR (j:=λh=>h R) rs D.lst (λa=> .tup ((h6 a).getD [])) (by rw [g.len];omega) g.at_ (λR r=>⟨_,rfl,r⟩) (λa ha Q' q'=> ?_) ⟨_,bt.sub kp,?_⟩
 ·obtain⟨_,r,er,_⟩:=g.row a ha;rw [er] at q';exact⟨_,rfl,_,er,q'⟩
 ·rw [eT];exact q T l6 gT Į
inductive MyA (k m:P0)(h:HD)(p F:G7)(fl:P4)(i:P0)(Â:SD)(h':HD):Prop
 |mk (Ts:G0 (G0 (G0 P4))) (a b c:P1 D) (l2:P4) (z1:Â= [zq (.lst p),zq (.int (k:P4)),zq (.int (m:P4)),zq (.lst F),a,b,c,xa,xa]) (z2:h' F=zq (Ts.map ju)) (z3:Ts.length=i) (z4: ∀T∈Ts,Sq k 20 T) (z5:0<=l2) (z6:h' p=zq [.int l2,.int fl]) (z7:ô p h h'):MyA k m h p F fl i Â h'
inductive MyT (k m:P0)(h:HD)(p F:G7)(fl:P4)(Ts:G0 (G0 (G0 P4)))(i:P0)(c:P1 D)(Â:SD)(h':HD):Prop
 |mk (T:G0 (G0 P4)) (l2:P4) (z1:Â= [zq (.lst p),zq (.int (k:P4)),zq (.int (m:P4)),zq (.lst F),zq (.int (i:P4)),zq (ju T),c,xa,xa]) (z0:Sq k 20 T) (z2:h' F=zq (Ts.map ju)) (z3:Ts.length=i) (z4: ∀T∈Ts,Sq k 20 T) (z5:0<=l2) (z6:h' p=zq [.int l2,.int fl]) (z7:ô p h h'):MyT k m h p F fl Ts i c Â h'
def ZE:RDn:=λds h Q=> ∃p l fl,ds= [.lst p]/\h p=zq [.int l,.int fl]/\0<=l/\ ∀F n Ts l' h',h F=xa->h' F=zq (Ts.map ju)->Ú n Ts->ô p h h'->h' p=zq [.int l',.int fl]->0<=l'->Q (.lst F) h'
def Xm (Z:Zs mg)(F:â K "_law_many" "_law_many" Jf f fd)(jt:jn P w K mg base n "_law_draw" ["_law_pen_here","_law_many_here"] zm)(wO:jn P w K mg base n "_law_table" ["_law_pen_here","_law_size"] zp)(Zo:jn P w K mg base n "_law_good_table" ["_law_pen_here","_law_size"] zp):Ì P w K mg base à (n+1) f fd ["_law_pen_here"] (í K ZE):=by
 refine F.okM jK (λhr=>(js4 (Sk (i:=1) (j:=2) rfl jK.nd rfl rfl (by decide) rfl rfl (j2 (ó jW jw (Ē (vB (Ć jw (by exact(j4 jw jw jw jw)))) (jk jt hr (j2 (jv 0) jw)))) (ó jW jw (jk jt hr (j2 (jv 0) jw)))) rfl) (Ă 3 jK (vB zu)) (QX L9 rfl (jrg Z (jv 2)) (jgn 4 jK) (js5 (Ă 5 jK (jk wO hr (j2 (jv 0) (jv 1)))) (Ă 6 jK (jk jt hr (j2 (jv 0) jw))) (wf (î Í (jv 6) jw) (Ă 5 jK (jk Zo hr (j2 (jv 0) (jv 1))))) (wf (ξ (TB (î Í (jv 6) jw) (Tz (î (DR hr.units) (jv 3) (vB zu))))) (Ă 5 jK (zj wF rfl Z.tuple (by decide +kernel) (j1 (Μ 7 jK (jrg Z (jv 1)) (λ_ _ _ _=>(zj wF rfl Z.tuple (by decide +kernel) (j1 (Μ 8 jK (wG (Ē (jv 3) jw)) (λ_ _ _ _=>(Ē (jv 8) (jv 7)))))))))))) (vC (Ef (jv 3) (jv 5))))) (zf (jv 3)))) ?_;rintro ds h Q ⟨p,l,fl,rfl,hp,h0,q⟩;refine⟨rfl,?_⟩;refine ji (λÂ h'=> ∃ (k m:P0) (l1:P4),Â= [zq (.lst p),zq (.int (k:P4)),zq (.int (m:P4)),xa,xa,xa,xa,xa,xa]/\1<=k/\k<=3/\1<=m/\m<=3/\0<=l1/\h' p=zq [.int l1,.int fl]/\ô p h h') (λC hC=> ?_) ?_
 ·refine⟨sz5,λp1 e1=>⟨_,rfl,p,l,fl,5,rfl,je hp e1,h0,by decide,by decide,λr l1 r0 r1 l10=> ?_⟩⟩;obtain⟨d,hd,ed⟩:=JP (xs:= [D.int 0,D.int 1,D.int 2,D.int 2,D.int 1]) r0 r1;obtain⟨x,rfl,x0,x2⟩: ∃x:P4,d= .int x/\0<=x/\x<=2:=by
   simp only [R5,F9,or_false] at hd;rcases hd with e|e|e|e|e<;>exact⟨_,e,by decide,by decide⟩
  refine⟨_,_,jg (jq hp e1) jc,ed,_,rfl,p,l1,fl,3,rfl,jc,l10,by decide,by decide,λy l2 y0 y1 ú=> ?_⟩;obtain⟨k,hk,k1,k3⟩: ∃k:P0,1+x=(k:P4)/\1<=k/\k<=3:=⟨(1+x).toNat,by omega,by omega,by omega⟩;obtain⟨m,hm,m1,m3⟩: ∃m:P0,1+y=(m:P4)/\1<=m/\m<=3:=⟨(1+y).toNat,by omega,by omega,by omega⟩;exact⟨_,_,rfl,hC _ _ ⟨k,m,l2,by rw [<-hk,<-hm];rfl,k1,k3,m1,m3,ú,jc,((ô.refl p h).new e1).put.put⟩⟩
 rintro _ h1 ⟨k,m,l1,rfl,k1,k3,m1,m3,l10,kp,bt⟩;refine ji (λÂ h'=> ∃F,Â= [zq (.lst p),zq (.int (k:P4)),zq (.int (m:P4)),zq (.lst F),xa,xa,xa,xa,xa]/\h' F=zq (([]:G0 (G0 (G0 P4))).map ju)/\h F=xa/\F≠p/\h' p=zq [.int l1,.int fl]/\ô p h h') (λC hC=>⟨sz0,λF eF=>hC _ _ ⟨F,rfl,jc,Wq bt eF (jq kp eF),jq kp eF,je kp eF,bt.new eF⟩⟩) ?_;rintro _ h2 ⟨F,rfl,kF,fF,nF,kp,bt⟩;refine ji (MyA k m h p F fl m) (λC hC=> ?_) ?_
 ·refine JQ m (MyA k m h p F fl) (by omega) (λR r=>⟨_,rfl,r⟩) ⟨[],xa,xa,xa,l1,rfl,kF,rfl,by simp,l10,kp,bt⟩ (λÂ h' z=>hC _ _ z) ?_;rintro i _ h3 hi ⟨Ts,a,b,c,l2,rfl,kF,lT,sT,ú,kp,bt⟩;refine Gw λE1 Β=> ?_
  refine ji (MyT k m h p F fl Ts i c) (λC2 ĳ=>⟨_,rfl,_,rfl,p,l2,fl,k,rfl,kp,ú,k1,by omega,λT l3 gT Ŋ=>ĳ _ _ ⟨T,l3,rfl,gT.sq,jg nF kF,lT,sT,Ŋ,jc,bt.put⟩⟩) ?_;rintro _ h4 ⟨T,l2,rfl,hT,kF,lT,sT,ú,kp,bt⟩;refine ji (λÂ h'=> ∃w l2,Â= [zq (.lst p),zq (.int (k:P4)),zq (.int (m:P4)),zq (.lst F),zq (.int (i:P4)),zq (ju T),zq (.int w),xa,xa]/\h' F=zq (Ts.map ju)/\Ts.length=i/\(∀T∈Ts,Sq k 20 T)/\0<=l2/\h' p=zq [.int l2,.int fl]/\ô p h h') (λC2 ĳ=>⟨_,rfl,p,l2,fl,4,rfl,kp,ú,by decide,by decide,λw l3 w0 w1 Ŋ=>ĳ _ _ ⟨w,l3,rfl,jg nF kF,lT,sT,Ŋ,jc,bt.put⟩⟩) ?_;rintro _ h5 ⟨w,l2,rfl,kF,lT,sT,ú,kp,bt⟩;refine ji (MyT k m h p F fl Ts i (zq (.int w))) (λC2 ĳ=>⟨_,rfl,_,rfl,Ul (λ_=>⟨_,rfl,_,rfl,p,l2,fl,k,rfl,kp,ú,k1,by omega,λT2 l3 gT Ŋ=>ĳ _ _ ⟨T2,l3,rfl,gT.sq,jg nF kF,lT,sT,Ŋ,jc,bt.put⟩⟩) (λ_=>ĳ _ _ ⟨T,l2,rfl,hT,kF,lT,sT,ú,kp,bt⟩)⟩) ?_;rintro _ h6 ⟨T,l2,rfl,hT,kF,lT,sT,ú,kp,bt⟩;refine ji (MyT k m h p F fl Ts i (zq (.int w))) (λC2 ĳ=> ?_) ?_
  ·refine⟨_,rfl,_,rfl,Ul (λ_=> ?_) (λ_=>jU (ĳ _ _ ⟨T,l2,rfl,hT,kF,lT,sT,ú,kp,bt⟩))⟩;refine⟨_,rfl,sz0,λp1 e1=> ?_⟩;refine⟨.list (Ts.map PB),.list [],⟨_,_,rfl,je kF e1,X03.tos _ Ts⟩,⟨_,_,rfl,jc,rfl⟩,XU Ts,rfl,_,rfl,?_⟩;cases Ts with
   |nil=>exact jU (ĳ _ _ ⟨T,l2,rfl,hT,je kF e1,lT,sT,ú,je kp e1,bt.new e1⟩)
   |cons T0 Ts'=>
    have s0:=sT T0 R1;have kF':wd h6 p1 [] F=zq ((T0::Ts').map ju):=je kF e1;refine vA (FR (R6 k) (λj=> .int (j:P4)) (λj=> .tup (T0.map λr=> .int (r.getD j 0))) (by rw [B3];omega) rfl (λR r=>⟨_,rfl,(k:P4),rfl,by omega,by omega,r⟩) (λj hj Q' q'=> ?_) ?_)
    ·refine FR T0 wU (λr=> .int (r.getD j 0)) (by rw [s0.len];omega) rfl (λR r=>⟨_,rfl,_,_,kF',(zU (show ((T0::Ts').map ju)[0]? =zq (ju T0) from rfl)),r⟩) (λr hr Q'' q''=>⟨_,rfl,_,rfl,_,XQ (s0.row r hr) (O4.mp hj),q''⟩) q'
    ·have e1': ∀j,T0.map (λr=>D.int (r.getD j 0))=(R6 k).map λi=>D.int (ě T0 i j):=λj=>by
      conv=>lhs;rw [wu T0 [],s0.len]
      rw [M9];rfl
     have e2:((R6 k).map λj=>D.tup (T0.map λr=> .int (r.getD j 0)))=(R6 k).map λj=>D.tup ((R6 k).map λi=>D.int (ě T0 i j)):=O5 λj _=>by rw [e1']
     rw [e2,Ei];exact ĳ _ _ ⟨Eh k T0,l2,rfl,s0.turn,kF',lT,sT,ú,je kp e1,bt.new e1⟩
  rintro _ h7 ⟨T,l2,rfl,hT,kF,lT,sT,ú,kp,bt⟩;refine⟨_,rfl,F,rfl,_,rfl,_,kF,?_,Β _ _ ⟨_,Sub.refl _,by omega,Ts++ [T],_,_,_,l2,rfl,?_,by rw [P3,lT];rfl,?_,ú,jg (O6 nF) kp,bt.putNew fF⟩⟩
  ·rw [G6];exact zk (by omega)
  ·rw [jc,T9];rfl
  ·intro U hU;rcases D9.mp hU with z|z
   ·exact sT U z
   ·rw [P2.mp z];exact hT
 rintro _ h3 ⟨Ts,a,b,c,l2,rfl,kF,lT,sT,ú,kp,bt⟩;exact⟨_,rfl,h3,Sub.refl _,q F k Ts l2 h3 fF kF ⟨k1,k3,by omega,by omega,sT⟩ bt kp ú⟩
def ye:RDn:=λds h Q=> ∃A Ts,∃n w:P0,ds= [.int (w:P4),.lst A]/\1<=w/\w<=6/\h A=zq (Ts.map ju)/\Ú n Ts/\ ∀d,Q d h
def Yp (Z:Zs mg)(F:â K "_law_called" "_law_called" wz f fd)(vg:jn P w K mg base n "along" ["tables","way"] VU)(zW:jn P w K mg base n "full_way" ["tables"] Jg)(jZ:jn P w K mg base n "all_full_from" ["tables"] wm)(zn:jn P w K mg base n "lasting_holds" ["tables","thing"] wn)(wA:jn P w K mg base n "why_lasting" ["tables"] yb)(yC:jn P w K mg base n "fence_holds" ["tables","thing"] yc)(Pl:jn P w K mg base n "fence_of" ["tables"] WR):Ì P w K mg base à (n+1) f fd ["_law_way","_law_tables"] (í K ye):=by
 refine F.okM vJ (λhr=>(js7 (wf (î Í (jv 0) jw) (zf (jk vg hr (j2 (jv 1) JR)))) (wf (î Í (jv 0) jw) (zf (jk zW hr (j1 (jv 1))))) (wf (î Í (jv 0) jw) (zf (jk jZ hr (j1 (jv 1))))) (wf (î Í (jv 0) jw) (zf (jk zn hr (j2 (jv 1) JR)))) (wf (î Í (jv 0) jw) (zf (jk wA hr (j1 (jv 1))))) (wf (î Í (jv 0) jw) (zf (jk yC hr (j2 (jv 1) JR)))) (zf (jk Pl hr (j1 (jv 1)))))) ?_;rintro ds h Q ⟨A,Ts,n,w,rfl,w1,w6,kA,hT,q⟩;refine⟨rfl,?_⟩;obtain rfl|rfl|rfl|rfl|rfl|rfl:w=1\/w=2\/w=3\/w=4\/w=5\/w=6:=by omega
 ·refine jF [zq (.int ((1:P0):P4)),zq (.lst A)] (λC hC=>⟨_,rfl,_,rfl,jU (hC)⟩) ?_;refine ji (λÂ h'=>False) (λC hC=>⟨_,rfl,_,rfl,vA ⟨_,rfl,A,Ts,n,rfl,kA,hT,λd=>⟨_,Sub.refl _,q d⟩⟩⟩) (λ_ _ z=>z.elim)
 ·refine jF [zq (.int ((2:P0):P4)),zq (.lst A)] (λC hC=>⟨_,rfl,_,rfl,jU (hC)⟩) ?_;refine jF [zq (.int ((2:P0):P4)),zq (.lst A)] (λC hC=>⟨_,rfl,_,rfl,jU (hC)⟩) ?_;refine ji (λÂ h'=>False) (λC hC=>⟨_,rfl,_,rfl,vA ⟨_,rfl,A,Ts,n,rfl,kA,hT,λd=>⟨_,Sub.refl _,q d⟩⟩⟩) (λ_ _ z=>z.elim)
 ·refine jF [zq (.int ((3:P0):P4)),zq (.lst A)] (λC hC=>⟨_,rfl,_,rfl,jU (hC)⟩) ?_;refine jF [zq (.int ((3:P0):P4)),zq (.lst A)] (λC hC=>⟨_,rfl,_,rfl,jU (hC)⟩) ?_;refine jF [zq (.int ((3:P0):P4)),zq (.lst A)] (λC hC=>⟨_,rfl,_,rfl,jU (hC)⟩) ?_;refine ji (λÂ h'=>False) (λC hC=>⟨_,rfl,_,rfl,vA ⟨_,rfl,A,Ts,n,rfl,kA,hT,⟨_,Sub.refl _,q _⟩⟩⟩) (λ_ _ z=>z.elim)
 ·refine jF [zq (.int ((4:P0):P4)),zq (.lst A)] (λC hC=>⟨_,rfl,_,rfl,jU (hC)⟩) ?_;refine jF [zq (.int ((4:P0):P4)),zq (.lst A)] (λC hC=>⟨_,rfl,_,rfl,jU (hC)⟩) ?_;refine jF [zq (.int ((4:P0):P4)),zq (.lst A)] (λC hC=>⟨_,rfl,_,rfl,jU (hC)⟩) ?_;refine jF [zq (.int ((4:P0):P4)),zq (.lst A)] (λC hC=>⟨_,rfl,_,rfl,jU (hC)⟩) ?_;refine ji (λÂ h'=>False) (λC hC=>⟨_,rfl,_,rfl,vA ⟨_,rfl,A,Ts,n,rfl,kA,hT,λd=>⟨_,Sub.refl _,q d⟩⟩⟩) (λ_ _ z=>z.elim)
 ·refine jF [zq (.int ((5:P0):P4)),zq (.lst A)] (λC hC=>⟨_,rfl,_,rfl,jU (hC)⟩) ?_;refine jF [zq (.int ((5:P0):P4)),zq (.lst A)] (λC hC=>⟨_,rfl,_,rfl,jU (hC)⟩) ?_;refine jF [zq (.int ((5:P0):P4)),zq (.lst A)] (λC hC=>⟨_,rfl,_,rfl,jU (hC)⟩) ?_;refine jF [zq (.int ((5:P0):P4)),zq (.lst A)] (λC hC=>⟨_,rfl,_,rfl,jU (hC)⟩) ?_;refine jF [zq (.int ((5:P0):P4)),zq (.lst A)] (λC hC=>⟨_,rfl,_,rfl,jU (hC)⟩) ?_;refine ji (λÂ h'=>False) (λC hC=>⟨_,rfl,_,rfl,vA ⟨_,rfl,A,Ts,n,rfl,kA,hT,⟨_,Sub.refl _,q _⟩⟩⟩) (λ_ _ z=>z.elim)
 ·refine jF [zq (.int ((6:P0):P4)),zq (.lst A)] (λC hC=>⟨_,rfl,_,rfl,jU (hC)⟩) ?_;refine jF [zq (.int ((6:P0):P4)),zq (.lst A)] (λC hC=>⟨_,rfl,_,rfl,jU (hC)⟩) ?_;refine jF [zq (.int ((6:P0):P4)),zq (.lst A)] (λC hC=>⟨_,rfl,_,rfl,jU (hC)⟩) ?_;refine jF [zq (.int ((6:P0):P4)),zq (.lst A)] (λC hC=>⟨_,rfl,_,rfl,jU (hC)⟩) ?_;refine jF [zq (.int ((6:P0):P4)),zq (.lst A)] (λC hC=>⟨_,rfl,_,rfl,jU (hC)⟩) ?_;refine jF [zq (.int ((6:P0):P4)),zq (.lst A)] (λC hC=>⟨_,rfl,_,rfl,jU (hC)⟩) ?_;exact⟨_,rfl,A,Ts,n,rfl,kA,hT,λd=>⟨_,Sub.refl _,q d⟩⟩
def wL:RDx:=λds h R=> ∃d,∃w:P0,ds= [.int (w:P4),d]/\w<=6/\((∃k:P4,ù d k h/\R (NTs k) h)\/(w=0/\ ∃A Ts,∃n:P0,d= .lst A/\h A=zq (Ts.map ju)/\Ú n Ts/\R "NoWay" h))
def WT (Z:Zs mg)(Ex:Ğ K mg)(F:â K "_law_called" "_law_called" wz f fd)(vg:jn P w K mg base n "along" ["tables","way"] VU)(zW:jn P w K mg base n "full_way" ["tables"] Jg)(jZ:jn P w K mg base n "all_full_from" ["tables"] wm)(zn:jn P w K mg base n "lasting_holds" ["tables","thing"] wn)(wA:jn P w K mg base n "why_lasting" ["tables"] yb)(yC:jn P w K mg base n "fence_holds" ["tables","thing"] yc)(X0j:zc P w K mg base n "along" ["tables","way"] Xh)(Η:zc P w K mg base n "full_way" ["tables"] ZB)(ī:zc P w K mg base n "all_full_from" ["tables"] yk)(Ĭ:zc P w K mg base n "lasting_holds" ["tables","thing"] yl)(ŋ:zc P w K mg base n "why_lasting" ["tables"] vd)(Ō:zc P w K mg base n "fence_holds" ["tables","thing"] vf)(Θ:zc P w K mg base n "fence_of" ["tables"] ZC):Ì P w K mg base (Ģ P w) (n+1) f fd ["_law_way","_law_tables"] (ė mg K wL):=by
 refine F.okMX vJ (λhr=>(UK (Vn (î Í (jv 0) jw) (Ww (Ů X0j hr (j2 (jv 1) JR)))) (UK (jM (JS.nox (wf (î Í (jv 0) jw) (zf (jk vg hr (j2 (jv 1) JR))))) (Vn (î Í (jv 0) jw) (Ww (Ů Η hr (j1 (jv 1)))))) (UK (jM (JS.nox (wf (î Í (jv 0) jw) (zf (jk vg hr (j2 (jv 1) JR))))) (jM (JS.nox (wf (î Í (jv 0) jw) (zf (jk zW hr (j1 (jv 1)))))) (Vn (î Í (jv 0) jw) (Ww (Ů ī hr (j1 (jv 1))))))) (UK (jM (JS.nox (wf (î Í (jv 0) jw) (zf (jk vg hr (j2 (jv 1) JR))))) (jM (JS.nox (wf (î Í (jv 0) jw) (zf (jk zW hr (j1 (jv 1)))))) (jM (JS.nox (wf (î Í (jv 0) jw) (zf (jk jZ hr (j1 (jv 1)))))) (Vn (î Í (jv 0) jw) (Ww (Ů Ĭ hr (j2 (jv 1) JR))))))) (UK (jM (JS.nox (wf (î Í (jv 0) jw) (zf (jk vg hr (j2 (jv 1) JR))))) (jM (JS.nox (wf (î Í (jv 0) jw) (zf (jk zW hr (j1 (jv 1)))))) (jM (JS.nox (wf (î Í (jv 0) jw) (zf (jk jZ hr (j1 (jv 1)))))) (jM (JS.nox (wf (î Í (jv 0) jw) (zf (jk zn hr (j2 (jv 1) JR))))) (Vn (î Í (jv 0) jw) (Ww (Ů ŋ hr (j1 (jv 1))))))))) (UK (jM (JS.nox (wf (î Í (jv 0) jw) (zf (jk vg hr (j2 (jv 1) JR))))) (jM (JS.nox (wf (î Í (jv 0) jw) (zf (jk zW hr (j1 (jv 1)))))) (jM (JS.nox (wf (î Í (jv 0) jw) (zf (jk jZ hr (j1 (jv 1)))))) (jM (JS.nox (wf (î Í (jv 0) jw) (zf (jk zn hr (j2 (jv 1) JR))))) (jM (JS.nox (wf (î Í (jv 0) jw) (zf (jk wA hr (j1 (jv 1)))))) (Vn (î Í (jv 0) jw) (Ww (Ů Ō hr (j2 (jv 1) JR))))))))) (jM (JS.nox (wf (î Í (jv 0) jw) (zf (jk vg hr (j2 (jv 1) JR))))) (jM (JS.nox (wf (î Í (jv 0) jw) (zf (jk zW hr (j1 (jv 1)))))) (jM (JS.nox (wf (î Í (jv 0) jw) (zf (jk jZ hr (j1 (jv 1)))))) (jM (JS.nox (wf (î Í (jv 0) jw) (zf (jk zn hr (j2 (jv 1) JR))))) (jM (JS.nox (wf (î Í (jv 0) jw) (zf (jk wA hr (j1 (jv 1)))))) (jM (JS.nox (wf (î Í (jv 0) jw) (zf (jk yC hr (j2 (jv 1) JR))))) (Ww (Ů Θ hr (j1 (jv 1))))))))))))))))) ?_;rintro ds h R ⟨d,w,rfl,w6,q⟩;refine⟨rfl,?_⟩;rcases q with ⟨k,bt,q⟩|⟨rfl,A,Ts,n,rfl,kA,hT,q⟩
 ·obtain rfl|rfl|rfl|rfl|rfl|rfl|rfl:w=0\/w=1\/w=2\/w=3\/w=4\/w=5\/w=6:=by omega
  ·exact .inl ⟨_,rfl,_,rfl,rfl,_,rfl,d,rfl,.inl ⟨k,bt,q⟩⟩
  ·exact .inr (.inl ⟨_,rfl,_,rfl,jU ⟨_,rfl,_,rfl,rfl,_,rfl,d,k,rfl,bt,q⟩⟩)
  ·exact .inr (.inr (.inl ⟨_,rfl,_,rfl,jU ⟨_,rfl,_,rfl,jU ⟨_,rfl,_,rfl,rfl,_,rfl,d,k,rfl,bt,q⟩⟩⟩))
  ·exact .inr (.inr (.inr (.inl ⟨_,rfl,_,rfl,jU ⟨_,rfl,_,rfl,jU ⟨_,rfl,_,rfl,jU ⟨_,rfl,_,rfl,rfl,_,rfl,d,_,k,rfl,bt,q⟩⟩⟩⟩)))
  ·exact .inr (.inr (.inr (.inr (.inl ⟨_,rfl,_,rfl,jU ⟨_,rfl,_,rfl,jU ⟨_,rfl,_,rfl,jU ⟨_,rfl,_,rfl,jU ⟨_,rfl,_,rfl,rfl,_,rfl,d,k,rfl,bt,q⟩⟩⟩⟩⟩))))
  ·exact .inr (.inr (.inr (.inr (.inr (.inl ⟨_,rfl,_,rfl,jU ⟨_,rfl,_,rfl,jU ⟨_,rfl,_,rfl,jU ⟨_,rfl,_,rfl,jU ⟨_,rfl,_,rfl,jU ⟨_,rfl,_,rfl,rfl,_,rfl,d,_,k,rfl,bt,q⟩⟩⟩⟩⟩⟩)))))
  ·exact .inr (.inr (.inr (.inr (.inr (.inr (⟨_,rfl,_,rfl,jU ⟨_,rfl,_,rfl,jU ⟨_,rfl,_,rfl,jU ⟨_,rfl,_,rfl,jU ⟨_,rfl,_,rfl,jU ⟨_,rfl,_,rfl,jU ⟨_,rfl,d,k,rfl,bt,q⟩⟩⟩⟩⟩⟩⟩))))))
 ·exact .inl ⟨_,rfl,_,rfl,rfl,_,rfl,_,rfl,.inr ⟨A,Ts,n,rfl,kA,hT,q⟩⟩
def Hq (k:P4):NV (NTs k)=xb:=by
 show (CN13.contains (P6 "NoTables")&&((["at"]:G0 Str)==(Op "NoTables").map P6))=xb;decide +kernel
def Hr {d:D}{k:P4}(b:ù d k h):k= -1\/k=0\/k=1\/k=2:=by
 rcases b with ⟨_,_,_,e⟩|⟨_,_,_,_,_,e⟩|⟨_,_,_,_,_,_,_,e,_,_,_,l,_⟩
 ·exact .inl e
 ·exact .inl e
 ·omega
variable {Q:KD}
def Hs {w:Str}{k:P4}(q:Q (.bl xf) h)(hs:SeqAt.shaped (.tuple [.str w,.int k])=xb):neE (.tup [.str w,.int k]) (.tup [.str w,.int k]) h Q:=by
 refine⟨.tuple [.str w,.int k],.tuple [.str w,.int k],⟨_,rfl,_,_,rfl,rfl,_,_,rfl,rfl,rfl⟩,⟨_,rfl,_,_,rfl,rfl,_,_,rfl,rfl,rfl⟩,hs,hs,?_⟩;have e:C8 (.tuple [.str w,.int k]) (.tuple [.str w,.int k])=xb:=by simp [C8,Q1]
 rw [e];exact q
def WU:RDn:=λds h Q=> ∃d,∃k:P4,ds= [d,.tup [.str "tables",.int k]]/\ù d k h/\Q (.bl xb) h
def Qz (Z:Zs mg)(B:Bm mg base)(a:fT K xi "_law_all" =zq (zq (.ref f)))(TX: ∃c P,gR K "_law_all" =zq (c,P)/\sG K c P=xb)(F:â K "_law_all" "_law_all" vz f fd)(è:jn P w K mg base n "_law_called" ["_law_way","_law_tables"] ye)(é:zc P w K mg base n "_law_called" ["_law_way","_law_tables"] wL)(CS:Ls P w K mg base n):Ì P w K mg base à ((n+2)+1) f fd ["_law_tables","_law_due"] (í K WU):=by
 obtain⟨gS,gdS,GS,bGS,kGS,mGS⟩:=CS;obtain⟨tc,tP,T,tH⟩:=TX;have hTK:X0C K tP:=⟨"_law_all",by decide,tc,T⟩;refine F.okJL a T WJ (λds h Q q=>by obtain⟨d,k,e,bt,q⟩:=q;subst e;rfl) _ (λA outer s H E hr=>(js2 (QX L9 rfl (jrg Z jw) (jgn 2 WJ) (jO (wf (î (DR hr.units) (RH GS hr rfl mGS kGS bGS B rfl tH hTK (Rk rfl (by decide +kernel)) (XX (by show NC _ (jd vz)=xb;decide +kernel)) (λ_ _ _ _ _ _ _ _ _ hr=>(jk è hr (j2 (jv 2) (jv 0)))) (λ_ _ _ _ _ _ _ _ _ hr=>(Ů é hr (j2 (jv 2) (jv 0))))) (jv 1)) (zf Ŷ)))) (zf Ŷ))) ?_;intro ds h Q q;obtain⟨d,k,e,bt,q⟩:=q;subst e;refine ji (λÂ h'=>h=h') (λC hC=>JQ 7 (λt Â h'=> ∃a,Â= [zq d,zq (.tup [.str "tables",.int k]),a]/\h=h') (by decide) (λR r=>r) ⟨_,rfl,rfl⟩ (λÂ h' ⟨_,_,s⟩=>hC _ _ s) ?_) ?_
 ·rintro t _ _ ht ⟨a,rfl,rfl⟩;refine .inr ⟨_,rfl,_,rfl,d,t,rfl,by omega,.inl ⟨k,bt,Hq _,?_⟩⟩;refine⟨_,rfl,Hs ⟨_,rfl,jU ⟨_,Sub.refl _,ht,_,rfl,rfl⟩⟩ ?_⟩;rcases Hr bt with e|e|e|e<;>subst e<;>decide +kernel
 rintro _ _ rfl;exact⟨h,Sub.refl h,q⟩
def ug {w:Str}(q:Q (.bl xf) h)(hs:SeqAt.shaped (.tuple [.str w])=xb:=by decide +kernel):neE (.tup [.str w]) (.tup [.str w]) h Q:=by
 refine⟨.tuple [.str w],.tuple [.str w],⟨_,rfl,_,_,rfl,rfl,rfl⟩,⟨_,rfl,_,_,rfl,rfl,rfl⟩,hs,hs,?_⟩;have e:C8 (.tuple [.str w]) (.tuple [.str w])=xb:=by simp [C8,Q1]
 rw [e];exact q
inductive TsS (p F p3:G7)(fl:P4)(Ts:G0 (G0 (G0 P4)))(cs:G0 D)(h':HD):Prop
 |mk (l2:P4) (z1:h' p=zq [.int l2,.int fl]) (z2:0<=l2) (z3:h' F=zq (Ts.map ju)) (z4:h' p3=zq cs)
def WV {α:Type}(xs:G0 α){a:P0}{k:P4}(e:k=(a:P4)):ZK xs xa (zq k)=xs.take a:=by
 subst e;unfold ZK;rw [HT.Dh];show (xs.drop 0).take (min a xs.length-0)=_;rw [i3,qV];rcases Nat.le_total a xs.length with z|z
 ·rw [A7 z]
 ·rw [mJ z,W3,S3 z]
def BF {α:Type}(xs:G0 α){a:P0}{k:P4}(e:k=(a:P4))(h:a<=xs.length):(ZK xs (zq k) xa).length=xs.length-a:=by
 subst e;unfold ZK;rw [HT.Dh,S1,C6,A7 h];show min (xs.length-a) (xs.length-a)=_;exact Nat.min_self _
def Cs {A:G7}{a:P0}{x:D}{r:G0 D}(hT:Ú n Ts)(ha:a<Ts.length)(kA:h A=zq ((Ts.take a).map ju++x::r))(lr:a+1+r.length<=3)(ok:okD x=xb)(b: ∀m Us,X1B m Us x):ù (.lst A) (a:P4) h:=
 .at_ A (Ts.take a) n x r rfl kA (by rw [S1,A7 (by omega)]) (λT hm=>hT.sq T (L6 hm)) hT.n1 hT.n3 (by rw [S1,A7 (by omega)];exact lr) ok (b _ _)
def Od {A:G7}{U:G0 (G0 P4)}{m:P0}{r:G0 D}(sT:Sq m 20 T)(m1:1<=m)(m3:m<=3)(sU:Sq n e U)(n1:1<=n)(n3:n<=3)(mn:m≠n)(lr:r.length<=1)(kA:h A=zq (ju T::ju U::r)):ù (.lst A) 1 h:=
 .at_ A [T] m (ju U) r rfl kA rfl (λV hV=>by rw [P2.mp hV];exact sT) m1 m3 (by show 1+1+r.length<=3;omega) (YS sU (by omega)) (.tab U n e rfl sU n1 (by omega) (.inr ⟨λz=>(nomatch z),O6 mn⟩))
def Oe {F:G7}{a:P0}{x:D}(e3:σ[3]? =zq (zq (.lst F)))(e5:σ[5]? =zq (zq (.int (a:P4))))(e7:σ[7]? =zq (zq x))(kF:h F=zq (Ts.map ju))(l3:Ts.length<=3)(ha:a<Ts.length)
 (q: ∀O r h',h' O=zq ((Ts.take a).map ju++x::r)->r.length=Ts.length-(a+1)->Sub h h'->Q (.lst O) h'):
 Ġ MZ (Ġ MZ (dSl (JM 3) yP (Uw (JM 5))) (ME (jP (JM 7) Jk))) (dSl (JM 3) (Uw (Ġ MZ (JM 5) (dC (.int 1)))) yP) σ h Q:=by
 have tl:(Ts.map ju).length=Ts.length:=G6 ..;have c1:ZK (Ts.map ju) xa (zq (a:P4))=(Ts.take a).map ju:=by rw [WV _ rfl,cX]
 have c2:(ZK (Ts.map ju) (zq ((a:P4)+1)) xa).length=Ts.length-(a+1):=by rw [BF _ (a:=a+1) (by omega) (by omega),tl]
 have lt:((Ts.take a).map ju).length=a:=by rw [G6,S1,A7 (by omega)]
 refine⟨_,e3,_,e5,_,rfl,_,kF,λq2 f2=>⟨_,e7,sz1,λq3 f3=>⟨_,_,je jc f3,jc,?_,λq4 f4=>⟨_,e3,_,e5,_,rfl,_,je (je (je kF f2) f3) f4,λq5 f5=>⟨_,_,je jc f5,jc,?_,λq6 f6=>q q6 _ _ ?_ c2 ((((((Sub.refl h).newAt f2).newAt f3).newAt f4).newAt f5).newAt f6)⟩⟩⟩⟩⟩
 ·rw [c1,lt];show a+1<=xh;exact M1 (show a+1<=5 by omega) (by decide)
 ·rw [P3,c1,c2,lt];show a+1+_<=xh;exact M1 (show _<=9 by omega) (by decide)
 ·rw [jc,c1,D0];rfl
def EY {O:G7}{a:P0}{x:D}{r:G0 D}(e8:σ[8]? =zq (zq (.lst O)))(e5:σ[5]? =zq (zq (.int (a:P4))))(kO:h O=zq ((Ts.take a).map ju++x::r))(l3:Ts.length<=3)(ha:a<Ts.length)
 (q: ∀V h',h' V=zq ((Ts.take a).map ju++x:: [D.non].take (2-a))->Sub h h'->Q (.lst V) h'):
 dSl (Ġ MZ (dSl (JM 8) yP (Uw (Ġ MZ (JM 5) (dC (.int 1))))) (ME (jP (dC .non) Jk))) yP (Uw (dC (.int 3))) σ h Q:=by
 have lt:((Ts.take a).map ju).length=a:=by rw [G6,S1,A7 (by omega)]
 have c3:ZK ((Ts.take a).map ju++x::r) xa (zq ((a:P4)+1))=(Ts.take a).map ju++ [x]:=by
  rw [WV _ (a:=a+1) (by omega),sH,lt,S3 (by rw [lt];omega),show a+1-a=1 by omega];rfl
 have c4:ZK ((Ts.take a).map ju++ [x]++ [D.non]) xa (zq (3:P4))=(Ts.take a).map ju++x:: [D.non].take (2-a):=by
  rw [WV _ (a:=3) (k:=3) rfl,sH,P3,lt,S3 (by rw [P3,lt];show a+1<=3;omega),D0,show 3-(a+ [x].length)=2-a by show 3-(a+1)=_;omega];rfl
 refine⟨_,e8,_,e5,_,rfl,_,kO,λq2 f2=>⟨sz1,λq3 f3=>⟨_,_,je jc f3,jc,?_,λq4 f4=>⟨_,rfl,_,jc,λq5 f5=>q q5 _ ?_ (((((Sub.refl h).newAt f2).newAt f3).newAt f4).newAt f5)⟩⟩⟩⟩
 ·rw [c3,P3,lt];show a+1+1<=xh;exact M1 (show _<=9 by omega) (by decide)
 ·rw [jc,c3,c4]
def Of {F p:G7}{l fl:P4}(e2:σ[2]? =zq (zq (.lst p)))(e3:σ[3]? =zq (zq (.lst F)))(e4:σ[4]? =zq (zq (.int (n:P4))))(kp:h p=zq [.int l,.int fl])(l0:0<=l)(kF:h F=zq (Ts.map ju))(n1:1<=n)(n3:n<=3)
 (q: ∀G T m l' h',Sq m 20 T->1<=m->m<=3->m≠n->h' G=zq ((Ts.take 2).map ju++ [ju T])->h' p=zq [.int l',.int fl]->0<=l'->ô p h h'->Q (.lst G) h'):
 Ġ MZ (dSl (JM 3) yP (Uw (dC (.int 2)))) (ME (jP (Ķ zp (jP (JM 2) (jP (Ġ MZ (dC (.int 1)) (Ġ HU (JM 4) (dC (.int 3)))) Jk))) Jk)) σ h Q:=by
 have c5:ZK (Ts.map ju) xa (zq (2:P4))=(Ts.take 2).map ju:=by rw [WV _ (a:=2) (k:=2) rfl,cX]
 refine⟨_,e3,_,rfl,_,kF,λq2 f2=>⟨_,e2,_,e4,by decide,p,l,fl,1+n%3,by rw [show ((1+n%3:P0):P4)=1+(n:P4)%3 by omega],je kp f2,l0,by omega,by omega,λT l3 gT Ŋ=>⟨sz1,λq3 f3=>⟨_,_,je (jg (jq kp f2) jc) f3,jc,?_,λq4 f4=>q q4 T (1+n%3) l3 _ gT.sq (by omega) (by omega) (by omega) ?_ (je (je jc f3) f4) Ŋ (((((ô.refl p h).new f2).put).new f3).new f4)⟩⟩⟩⟩
 ·rw [c5,G6];have:=o9 2 Ts;show _+1<=xh;exact M1 (show _<=9 by omega) (by decide)
 ·rw [jc,c5]
def BG {F:G7}{R:ItD->HD->Prop}(e3:σ[3]? =zq (zq (.lst F)))(kF:h F=zq (Ts.map ju))(hT:Ú n Ts)
 (q: ∀q1 ts h',h' q1=zq ts->Sub h h'->(∀x∈ts,∀h2,Sub h' h2->ù x (-1) h2)->R (λh=>h q1) h'):
 iL (ME (jP (ME Jk) (jP (Ķ DH (jP (JM 3) Jk)) (jP (dC .non) (jP (dC (.int 0)) (jP (Uy "a" 1) (jP (Ġ Si (dSl (JM 3) yP (Uw (dC (.int 1)))) (dC (.int 4))) (jP (dC (.str "")) (jP (Ġ ixD (JM 3) (dC (.int 0))) Jk))))))))) σ h R:=by
 have l1:=hT.l1;have e0:=XS hT (i:=0) (by omega);have c6:ZK (Ts.map ju) xa (zq (1:P4))=(Ts.take 1).map ju:=by rw [WV _ (a:=1) (k:=1) rfl,cX]
 have c7:(ZK (Ts.map ju) xa (zq (1:P4))).length=1:=by rw [c6,G6,S1];omega
 refine⟨sz0,λpA f0=>⟨_,e3,_,je kF f0,_,e3,_,rfl,_,je kF f0,λpS f1=>⟨_,jc,by decide,by decide,(by rw [c7];decide),λpM f2=>⟨_,e3,_,_,je (je (je kF f0) f1) f2,e0,(by show 8<=xh;decide),λq1 f3=>⟨q1,rfl,q q1 _ _ jc (((((Sub.refl h).newAt f0).newAt f1).newAt f2).newAt f3) ?_⟩⟩⟩⟩⟩;obtain⟨Ms,hMs⟩: ∃Ms,Ms=(M8 (sE 4) (ZK (Ts.map ju) xa (zq (1:P4)))).flatten:=⟨_,rfl⟩;have lM:3<Ms.length:=by
  rw [hMs];show 3<([_,_,_,_]:G0 (G0 D)).flatten.length;simp only [X3,List.flatten_nil,P3,c7,B6];decide
 intro x hx h2 sb;have ka:h2 pA=zq []:=sb _ _ (je (je (je jc f1) f2) f3);have km:h2 pM=zq Ms:=sb _ _ (by rw [hMs];exact je jc f3);simp only [R5,F9,or_false] at hx;rcases hx with e|e|e|e|e|e|e|e<;>subst e
 ·exact .len pA [] rfl ka (.inl rfl) rfl
 ·exact .ty "tuple" rfl rfl rfl
 ·exact .ty "NoneType" rfl rfl rfl
 ·exact .ty "int" rfl rfl rfl
 ·exact .ty "dict" rfl rfl rfl
 ·exact .len pM Ms rfl km (.inr lM) rfl
 ·exact .ty "str" rfl rfl rfl
 ·exact .ty "tuple" rfl rfl rfl
def EZ (Z:Zs mg)(B:Bm mg base)(a:fT K xi "law" =zq (zq (.ref f)))(TX: ∃c P,gR K "law" =zq (c,P)/\sG K c P=xb)(F:â K "law" "law" Xd f fd)(QB:jn P w K mg base (n+2) "_law_cell" ["_law_script","_law_k"] ZD)(Pk:jn P w K mg base (n+2) "_law_pen" ["_law_cell_here"] WS)(QC:jn P w K mg base (n+2) "_law_many" ["_law_pen_here"] ZE)(jt:jn P w K mg base (n+2) "_law_draw" ["_law_pen_here","_law_many_here"] zm)(wO:jn P w K mg base (n+2) "_law_table" ["_law_pen_here","_law_size"] zp)(WW:jn P w K mg base (n+2) "_law_no_table" ["_law_pen_here"] yL)(ym:jn P w K mg base (n+2) "_law_all" ["_law_tables","_law_due"] WU)(è:jn P w K mg base n "_law_called" ["_law_way","_law_tables"] ye)(é:zc P w K mg base n "_law_called" ["_law_way","_law_tables"] wL)(CS:Ls P w K mg base n):Ì P w K mg base à ((n+2)+1) f fd ["_law_script"] (í K DP):=by
 obtain⟨gS,gdS,GS,bGS,kGS,mGS⟩:=CS;obtain⟨tc,tP,T,tH⟩:=TX;have hTK:X0C K tP:=⟨"law",by decide,tc,T⟩;refine F.okJL a T vL (λds h Q q=>by obtain⟨ns,e,hh,hns,q⟩:=q;subst e;rfl) _ (λA outer s H E hr=>(js2 (QX L9 rfl (XM (ó jW (vB (j1 (jk QB hr (j2 (jv 0) jw)))) (Zu (jv 0) (yq jw) (yq jw)))) (jgn 1 vL) (jy (Ă 2 vL (jk Pk hr (j1 (jv 1)))) (by exact(js8 (Ă 3 vL (jk QC hr (j1 (jv 2)))) (Sk (i:=4) (j:=5) rfl vL.nd rfl rfl (by decide) rfl rfl (j2 (ZZ Z (Ē (jv 3) jw)) (jk jt hr (j2 (jv 2) (ZZ Z (jv 3))))) rfl) (QX L9 rfl (TK rfl Z.range (j2 jw jw)) (jgn 6 vL) (jO (wf (î Ě (Ē (RH GS hr rfl mGS kGS bGS B rfl tH hTK (Rk rfl (by decide +kernel)) (XX (by show NC _ (jd Xd)=xb;decide +kernel)) (λ_ _ _ _ _ _ _ _ _ hr=>(jk è hr (j2 (jv 6) (jv 3)))) (λ_ _ _ _ _ _ _ _ _ hr=>(Ů é hr (j2 (jv 6) (jv 3))))) jw) JU) (zf Ŷ)))) (wf (î (DR hr.units) (RH GS hr rfl mGS kGS bGS B rfl tH hTK (Rk rfl (by decide +kernel)) (XX (by show NC _ (jd Xd)=xb;decide +kernel)) (λ_ _ _ _ _ _ _ _ _ hr=>(jk è hr (j2 jw (jv 3)))) (λ_ _ _ _ _ _ _ _ _ hr=>(Ů é hr (j2 jw (jv 3))))) (yf (j1 JU))) (zf Ŷ)) (QX L9 rfl (XM (vB (j2 (jk WW hr (j1 (jv 2))) (jk wO hr (j2 (jv 2) (ó jW jw (jk jt hr (j2 (jv 2) jw)))))))) (jgn 7 vL) (js2 (Ă 8 vL (ó jW (ó jW (Zu (jv 3) vT (yq (jv 5))) (vB (j1 (jv 7)))) (Zu (jv 3) (yq (ó jW (jv 5) jw)) vT))) (wf (ξ (Xw (wc (wb (jk ym hr (j2 (jv 8) (yf (j2 JU (jv 5))))))) (GJ (wc (wb (jk ym hr (j2 (Zu (ó jW (Zu (jv 8) vT (yq (ó jW (jv 5) jw))) (vB (j1 JR))) vT (yq jw)) (yf (j2 JU (jv 5)))))))))) (zf Ŷ)))) (Ă 9 vL (ó jW (Zu (jv 3) vT (yq jw)) (vB (j1 (jk wO hr (j2 (jv 2) (ó jW jw (ó vH (jv 4) jw)))))))) (wf (ξ (Xw (wc (wb (jk ym hr (j2 (jv 9) (yf (j2 JU (ó Ut (ZZ Z (jv 9)) jw))))))) (GJ (wc (wb (jk ym hr (j2 (ue (jv 9)) (yf (j2 JU jw))))))))) (zf Ŷ)) (QX L9 rfl (XM (vB (Ć (vB zu) (by exact(Ć (zj ò rfl Z.tuple (by decide +kernel) (j1 (jv 3))) (by exact(Ć JR (by exact(Ć jw (by exact(j4 BX (ó vS (Zu (jv 3) vT (yq jw)) jw) JU (Ē (jv 3) jw)))))))))))) (jgn 10 vL) (jO (wf (wc (wb (jk ym hr (j2 (jv 10) (yf (j2 JU (Eg jw))))))) (zf Ŷ)))))))) (zf Ŷ))) ?_;intro ds h Q q;obtain⟨ns,e,hh,hns,q⟩:=q;subst e;refine ji (λÂ h'=>True) (λC hC=> ?_) (λÂ h3 hV=>⟨h3,Sub.refl _,q h3⟩);refine⟨_,rfl,ns,0,rfl,(by decide),λn0=>⟨sz1,λp1 e1=>⟨_,rfl,_,rfl,_,rfl,λp2 e2=>⟨_,_,je jc e2,jc,?_,λp3 e3=>⟨p3,rfl,?_⟩⟩⟩⟩⟩
 ·have:(ZK ns (zq 1) (zq 5)).length<=ns.length:=by unfold ZK;rw [S1,C6];omega
  rw [G6];exact T6 (zk (by simp only [D8,B6];omega))
 generalize hcs:([D.int n0]++(ZK ns (zq 1) (zq 5)).map D.int)=cs;have hint: ∀d∈cs,∃c,d= .int c:=λd hd=>by
  rw [<-hcs] at hd;rcases D9.mp hd with z|z
  ·exact⟨n0,P2.mp z⟩
  ·obtain⟨x,_,e⟩:=N5.mp z;exact⟨x,e.symm⟩
 refine Wr cs (λi Â h'=> ∃a1 a2 a3 a4 a5 a6 a7 a8 a9 a10,Â= [zq (.scr ns),a1,a2,a3,a4,a5,a6,a7,a8,a9,a10]/\h' p3=zq cs) (λi Â h' ⟨_,_,_,_,_,_,_,_,_,_,_,k⟩=>k) ⟨_,_,_,_,_,_,_,_,_,_,rfl,jc⟩ (λÂ h' _=>hC _ _ Y7) ?_;rintro i d _ h4 hi ⟨b1,b2,b3,b4,b5,b6,b7,b8,b9,δ,rfl,k3⟩;obtain⟨c,rfl⟩:=hint d (P5 hi);have hil:i<cs.length:=(P8.mp hi).1;show yn _ _ _ [zq (.scr ns),zq (.int c),b2,b3,b4,b5,b6,b7,b8,b9,δ] h4;refine ji (λÂ h'=> ∃p l fl,Â= [zq (.scr ns),zq (.int c),zq (.lst p),b3,b4,b5,b6,b7,b8,b9,δ]/\h' p=zq [.int l,.int fl]/\0<=l/\h' p3=zq cs/\p3≠p) (λC hC=> ?_) ?_
 ·refine⟨_,rfl,c,rfl,λp l fl ep l0 _=>hC _ _ ⟨p,l,fl,rfl,jc,l0,je k3 ep,O6 (jq k3 ep)⟩⟩
 rintro _ h5 ⟨p,l,fl,rfl,kp,l0,k3,n3⟩;refine VR λE0 nx0=> ?_
 refine ji (λÂ h'=> ∃F n Ts,Â= [zq (.scr ns),zq (.int c),zq (.lst p),zq (.lst F),b4,b5,b6,b7,b8,b9,δ]/\Ú n Ts/\F≠p/\TsS p F p3 fl Ts cs h') (λC hC=>⟨_,rfl,p,l,fl,rfl,kp,l0,λF n Ts l' h' fF kF hT bt kp' l0'=>hC _ _ ⟨F,n,Ts,rfl,hT,jq kp fF,l',kp',l0',kF,bt p3 cs n3 k3⟩⟩) ?_;clear kp l0 k3;rintro _ h6 ⟨F,n,Ts,rfl,hT,nF,l2,kp,ú,kF,k3⟩;have n1:=hT.n1;have n3':=hT.n3;have l1:=hT.l1;have l3:=hT.l3;refine ji (λÂ h'=> ∃ (at_:P0),Â= [zq (.scr ns),zq (.int c),zq (.lst p),zq (.lst F),zq (.int (n:P4)),zq (.int (at_:P4)),b6,b7,b8,b9,δ]/\at_<Ts.length/\TsS p F p3 fl Ts cs h') (λC hC=> ?_) ?_
 ·have e0:=XS hT (i:=0) (by omega);have s0:=hT.get (i:=0) (by omega);refine⟨_,rfl,_,_,kF,e0,_,rfl,_,rfl,_,kF,p,l2,fl,(Ts.length:P4),by rw [G6],kp,ú,by omega,by omega,λx l3 x0 x1 Ŋ=> ?_⟩;obtain⟨at_,rfl⟩: ∃at_:P0,x=(at_:P4):=⟨x.toNat,by omega⟩;refine⟨_,_,rfl,hC _ _ ⟨at_,?_,by omega,l3,jc,Ŋ,jg nF kF,jg n3 k3⟩⟩;rw [G6,s0.len];rfl
 clear kp ú k3 kF;rintro _ h7 ⟨at_,rfl,hat,l2,kp,ú,kF,k3⟩;refine ji (λÂ h'=> ∃b6,Â= [zq (.scr ns),zq (.int c),zq (.lst p),zq (.lst F),zq (.int (n:P4)),zq (.int (at_:P4)),b6,b7,b8,b9,δ]/\h7=h') (λC hC=> ?_) ?_
 ·refine Nn 1 6 (λi Â h'=> ∃b6,Â= [zq (.scr ns),zq (.int c),zq (.lst p),zq (.lst F),zq (.int (n:P4)),zq (.int (at_:P4)),b6,b7,b8,b9,δ]/\h7=h') (by decide) (by decide) (by decide) (λR r=>r) ⟨_,rfl,rfl⟩ (λÂ h' w=>hC _ _ w) ?_;rintro i _ _ hi ⟨b6,rfl,rfl⟩;refine WN λE1 Β=> ?_
  rw [show (1:P4)+(i:P4)=((1+i:P0):P4) by omega];refine .inl ⟨_,rfl,_,rfl,F,Ts,n,1+i,rfl,by omega,by omega,kF,hT,λd=>⟨_,rfl,?_⟩⟩;show ∃k,D.bl (!decide (P6 "told" =P6 "told"))= .bl k/\_;rw [S6 rfl];exact⟨_,rfl,jU (Β _ _ ⟨_,Sub.refl _,by omega,_,rfl,rfl⟩)⟩
 rintro _ _ ⟨b6,rfl,rfl⟩;refine jF [zq (.scr ns),zq (.int c),zq (.lst p),zq (.lst F),zq (.int (n:P4)),zq (.int (at_:P4)),b6,b7,b8,b9,δ] (λC hC=> ?_) ?_
 ·refine .inr ⟨_,rfl,.lst F,0,rfl,by omega,.inr ⟨rfl,F,Ts,n,rfl,kF,hT,by decide,sz1,ug ⟨_,rfl,jU (hC)⟩⟩⟩
 refine ji (λÂ h'=> ∃ (b7 b8:P1 D),Â= [zq (.scr ns),zq (.int c),zq (.lst p),zq (.lst F),zq (.int (n:P4)),zq (.int (at_:P4)),b6,b7,b8,b9,δ]/\TsS p F p3 fl Ts cs h') (λC hC=> ?_) ?_
 ·refine⟨_,rfl,p,l2,fl,rfl,kp,ú,λd l3 h8 okd bad bt kp8 Ŋ=>⟨_,rfl,_,rfl,p,l3,fl,3,rfl,kp8,Ŋ,by decide,by decide,λx l4 x0 x1 l40=> ?_⟩⟩;obtain⟨k,rfl⟩: ∃k:P0,x=(k:P4):=⟨x.toNat,by omega⟩;refine⟨p,l4,fl,4+k,by rw [show ((4+k:P0):P4)=4+(k:P4) by omega],jc,l40,by omega,by omega,λT l5 gT l50=>⟨ż,λq1 f1=>⟨q1,rfl,?_⟩⟩⟩;have hb: ∀x∈ [d,ju T],okD x=xb/\ ∀m Us,X1B m Us x:=λx hx=>by
   simp only [R5,F9,or_false] at hx;rcases hx with e|e<;>subst e
   ·exact⟨okd,λ_ _=> .no bad⟩
   ·exact⟨YS gT.sq (by omega),λ_ _=> .tab T (4+k) _ rfl gT.sq (by omega) (by omega) (.inl (by omega))⟩
  generalize hbs: [d,ju T]=bs at hb;have kF8:=bt _ _ nF kF;have k38:=bt _ _ n3 k3;refine Wr bs (λi Â h'=> ∃ (b7 b8:P1 D),Â= [zq (.scr ns),zq (.int c),zq (.lst p),zq (.lst F),zq (.int (n:P4)),zq (.int (at_:P4)),b6,b7,b8,b9,δ]/\h' q1=zq bs/\TsS p F p3 fl Ts cs h') (λi Â h' ⟨_,_,_,k,_⟩=>k) ⟨_,_,rfl,by rw [<-hbs];exact jc,l5,je jc f1,l50,je (jg nF (jg nF kF8)) f1,je (jg n3 (jg n3 k38)) f1⟩ (λÂ h' ⟨b7,b8,e,_,z⟩=>hC _ _ ⟨b7,b8,e,z⟩) ?_;clear kp ú k3 kF kp8 kF8 k38 bt;rintro j x _ h9 hj ⟨b7,b8,rfl,kq,l2,kp,ú,kF,k3⟩;refine WN λE1 Β=> ?_
  show yn (Py 8 _) _ E1 _ h9;have hjl:j<bs.length:=(P8.mp hj).1;obtain⟨okx,X1L⟩:=hb x (P5 hj);refine ji (λÂ h'=> ∃O r,Â= [zq (.scr ns),zq (.int c),zq (.lst p),zq (.lst F),zq (.int (n:P4)),zq (.int (at_:P4)),b6,zq x,zq (.lst O),b9,δ]/\h' O=zq ((Ts.take at_).map ju++x::r)/\r.length=Ts.length-(at_+1)/\h' q1=zq bs/\TsS p F p3 fl Ts cs h') (λC2 ĳ=> ?_) ?_
  ·exact Oe rfl rfl rfl kF hT.l3 hat λO r h' kO lr sb=>ĳ _ _ ⟨O,r,rfl,kO,lr,sb _ _ kq,l2,sb _ _ kp,ú,sb _ _ kF,sb _ _ k3⟩
  clear kp ú k3 kF kq;rintro _ h10 ⟨O,r,rfl,kO,lr,kq,l2,kp,ú,kF,k3⟩;refine⟨_,rfl,_,rfl,ż,.lst O,(at_:P4),rfl,Cs hT hat kO (by omega) okx X1L,_,rfl,jU ?_⟩;refine EY (Ts:=Ts) rfl rfl kO hT.l3 hat λV h' kV sb=>⟨_,rfl,ż,.lst V,(at_:P4),rfl,Cs hT hat kV (by rw [S1];show at_+1+min _ 1<=3;omega) okx X1L,_,rfl,jU (Β _ _ ⟨_,Sub.refl _,by omega,_,_,rfl,sb _ _ kq,l2,sb _ _ kp,ú,sb _ _ kF,sb _ _ k3⟩)⟩
 clear kp ú k3 kF;rintro _ h8 ⟨b7,b8,rfl,l2,kp,ú,kF,k3⟩;refine ji (λÂ h'=> ∃ (G:G7) (T:G0 (G0 P4)) (m:P0),Â= [zq (.scr ns),zq (.int c),zq (.lst p),zq (.lst F),zq (.int (n:P4)),zq (.int (at_:P4)),b6,b7,b8,zq (.lst G),δ]/\Sq m 20 T/\1<=m/\m<=3/\m≠n/\h' G=zq ((Ts.take 2).map ju++ [ju T])/\TsS p F p3 fl Ts cs h') (λC hC=> ?_) ?_
 ·exact Of rfl rfl rfl kp ú kF n1 n3' λG T m l3' h' sT m1 m3 mn kG kp' Ŋ bt=>hC _ _ ⟨G,T,m,rfl,sT,m1,m3,mn,kG,l3',kp',Ŋ,bt _ _ nF kF,bt _ _ n3 k3⟩
 clear kp ú k3 kF;rintro _ h9 ⟨G,T,m,rfl,sT,m1,m3,mn,kG,l2,kp,ú,kF,k3⟩;refine ji (λÂ h'=>Â= [zq (.scr ns),zq (.int c),zq (.lst p),zq (.lst F),zq (.int (n:P4)),zq (.int (at_:P4)),b6,b7,b8,zq (.lst G),δ]/\h' F=zq (Ts.map ju)/\h' p3=zq cs) (λC hC=> ?_) ?_
 ·have lt2:(Ts.take 2).length<=2/\1<=(Ts.take 2).length:=by rw [S1];omega
  obtain⟨U,r,er⟩: ∃U r,(Ts.take 2).reverse=U::r:=by
   cases z:(Ts.take 2).reverse with
   |nil=>have:=xk K7 z;rw [N6,B6] at this;omega
   |cons U r=>exact⟨U,r,rfl⟩
  have lr:r.length<=1:=by have:=xk K7 er;rw [N6,D8] at this;omega
  have hU:U∈Ts:=L6 (K1.mp (by rw [er];exact R1));have lG:((Ts.take 2).map ju++ [ju T]).length=(Ts.take 2).length+1:=by rw [P3,G6];rfl
  have b1:ù (.lst G) (((Ts.take 2).length:P0):P4) h9:= .at_ G (Ts.take 2) n (ju T) [] rfl kG rfl (λV hV=>hT.sq V (L6 hV)) n1 n3' (by show _+1+0<=3;omega) (YS sT (by omega)) (.tab T m _ rfl sT m1 (by omega) (.inr ⟨λz=>(by rw [z] at lt2;exact xj lt2.2 (by decide)),mn⟩));refine⟨_,rfl,_,rfl,_,kG,ż,.lst G,_,by rw [lG,show ((((Ts.take 2).length+1:P0):P4)-1)=(((Ts.take 2).length:P0):P4) by omega],b1,_,rfl,jU ⟨_,rfl,G,_,rfl,kG,λq2 f2=>⟨ż,.lst q2,1,rfl,Od (r:=r.map ju) sT m1 m3 (hT.sq U hU) n1 n3' mn (by rw [G6];exact lr) ?_,_,rfl,jU (hC _ _ ⟨rfl,je kF f2,je k3 f2⟩)⟩⟩⟩;rw [jc,List.reverse_append,<-List.map_reverse,er];rfl
 clear kp ú k3 kF;rintro _ h10 ⟨rfl,kF,k3⟩;refine BG rfl kF hT λq1 ts h11 kq sb hb=> ?_
 refine Wr ts (λi Â h'=> ∃δ,Â= [zq (.scr ns),zq (.int c),zq (.lst p),zq (.lst F),zq (.int (n:P4)),zq (.int (at_:P4)),b6,b7,b8,zq (.lst G),δ]/\Sub h11 h') (λi Â h' ⟨_,_,z⟩=>z _ _ kq) ⟨_,rfl,Sub.refl _⟩ (λÂ h' ⟨δ,e,z⟩=>nx0 _ _ ⟨_,Sub.refl _,hil,_,_,_,_,_,_,_,_,_,_,e,z _ _ (sb _ _ k3)⟩) ?_;rintro j x _ h12 hj ⟨b10',rfl,z⟩;refine WN λE1 Β=> ?_
 have hjl:j<ts.length:=(P8.mp hj).1;exact⟨_,rfl,ż,x,-1,rfl,hb x (P5 hj) _ z,_,rfl,jU (Β _ _ ⟨_,Sub.refl _,by omega,_,rfl,z⟩)⟩
end
def Sa {l:sW}{w:T8}{K:G3}{h:N8}{mg:Str->P1 G1}{fa:G7}(X:K.In h)(G:h.Ns xi mg)(hfa:mg "law" =zq (.ref fa))
 (d0:Ê K "is_whole" Zf fu0 eu0)
 (d1:Ê K "is_within" Ja fu1 eu1)
 (d2:Ê K "is_place" Zg fu2 eu2)
 (d3:Ê K "are_places" yT fu3 eu3)
 (d4:Ê K "is_way" VF fu4 eu4)
 (d5:Ê K "is_table_row" wY fu5 eu5)
 (d6:Ê K "has_table_form" wg fu6 eu6)
 (d7:Ê K "want_table" yV fu7 eu7)
 (d8:Ê K "want_tables" ww fu8 eu8)
 (d9:Ê K "want_way" Zh fu9 eu9)
 (d10:Ê K "multiplied" yW fu10 eu10)
 (d11:Ê K "full" Mj fu11 eu11)
 (d12:Ê K "marks" Qo fu12 eu12)
 (d13:Ê K "marks_after" yy fu13 eu13)
 (d14:Ê K "ways_and_nexts" wj fu14 eu14)
 (d15:Ê K "ends_of" WH fu15 eu15)
 (d16:Ê K "rounds_and_lasting" zw fu16 eu16)
 (d17:Ê K "along" Qp fu17 eu17)
 (d18:Ê K "full_way" vw fu18 eu18)
 (d19:Ê K "all_full_from" zO fu19 eu19)
 (d20:Ê K "lasting_holds" zP fu20 eu20)
 (d21:Ê K "round_within" wZ fu21 eu21)
 (d22:Ê K "why_lasting" wx fu22 eu22)
 (d23:Ê K "is_post" Mk fu23 eu23)
 (d24:Ê K "fence_holds" wy fu24 eu24)
 (d25:Ê K "fence_of" vy fu25 eu25)
 (d26:Ê K "_law_cell" Jb fu26 eu26)
 (d27:Ê K "_law_pen" Zj fu27 eu27)
 (d28:Ê K "_law_draw" Jc fu28 eu28)
 (d29:Ê K "_law_whole" yX fu29 eu29)
 (d30:Ê K "_law_kind" Jd fu30 eu30)
 (d31:Ê K "_law_said" Je fu31 eu31)
 (d32:Ê K "_law_table" yY fu32 eu32)
 (d33:Ê K "_law_order" yZ fu33 eu33)
 (d34:Ê K "_law_no_table" wK fu34 eu34)
 (d35:Ê K "_law_good_table" zV fu35 eu35)
 (d36:Ê K "_law_many" Jf fu36 eu36)
 (d37:Ê K "_law_called" wz fu37 eu37)
 (d38:Ê K "_law_all" vz fu38 eu38)
 (d39:Ê K "law" Xd fu39 eu39)
 {tk0:Tok}(v0:fT K xi "MOST_ROWS" =zq (zq (.int 6 tk0)))
 {tk1:Tok}(v1:fT K xi "MOST_TABLES" =zq (zq (.int 3 tk1)))
 {tk2:Tok}(v2:fT K xi "MOST_ROWS_OF_SEVERAL" =zq (zq (.int 3 tk2)))
 {tk3:Tok}(v3:fT K xi "MOST_WAY" =zq (zq (.int 60 tk3)))
 (z:zsB K=xb)
 (ex:Lt K=xb)
 (inNoTables:Ũ K "NoTables" "NoTables.__init__" yS ucNoTables ufNoTables ueNoTables ["at"])
 (tb0:NE K "_law_all" =xb)
 (tb1:NE K "law" =xb)
 : ∃fd:R8,(∀ (s:G2) (v:G1),oU s fd ⟨[v],[]⟩ [("_law_script",v)])/\ ∀base:N8,K.In base->base.Ns xi mg->Bm mg base->Ì l.prog w K mg base à 13 fa fd ["_law_script"] (í K DP):=by
 have e:=hfa.symm.trans (d39.nm X G);cases e;have Jh: ∃tk,mg "MOST_ROWS" =zq (.int 6 tk):=⟨_,mC X G v0⟩;have zr: ∃tk,mg "MOST_TABLES" =zq (.int 3 tk):=⟨_,mC X G v1⟩;have jD: ∃tk,mg "MOST_ROWS_OF_SEVERAL" =zq (.int 3 tk):=⟨_,mC X G v2⟩;have Zq: ∃tk,mg "MOST_WAY" =zq (.int 60 tk):=⟨_,mC X G v3⟩;have Z:=TW X G z;have Ex:Ğ K mg:=Lu X G ex;have QH:=Rm tb0;have Sb:=Rm tb1;obtain⟨_,_,kV,dc,pm,an,cd,ct,_,rfl,_⟩:=d39.fn.ex;refine⟨W7 "law" "law" (wD Xd) (jL Xd) (jd Xd) .none kV dc pm an cd ct,λs v=> .of_eq rfl,λbase _ _ B=> ?_⟩;have ε: ∀n,Vw l.prog w K mg base (n+2) "NoTables" ["at"]:=λn=>inNoTables.cal l w base X G (Ha (n:=0) inNoTables.ik inNoTables.fn ZP rfl rfl rfl Qc rfl rfl) (λ_ _ _ _ _ _=>ln2 λ_ _=>rfl) n
 have YW:=λn=>d0.cal l w base X G (Qr (n:=n+0) Z d0.fn)
 have QL:=λn=>d1.cal l w base X G (Xe (n:=n+1) Z d1.fn (YW (n+0)))
 have Pr:=λn=>d2.cal l w base X G (Qs (n:=n+2) Z d2.fn (QL (n+0)))
 have Xt:=λn=>d3.cal l w base X G (VL (n:=n+3) Z d3.fn (Pr (n+0)))
 have BI:=λn=>d4.cal l w base X G (Mn (n:=n+4) Z d4.fn (Xt (n+0)))
 have Ys:=λn=>d5.cal l w base X G (WL (n:=n+1) Z d5.fn (YW (n+0)))
 have wo:=λn=>d6.cal l w base X G (Zk (n:=n+2) Z d6.fn (Ys (n+0)) Jh)
 have ZG:=λn=>d7.cal l w base X G (VN (n:=n+3) Z d7.fn (wo (n+0)))
 have zd:=λn=>d8.cal l w base X G (Yk (n:=n+3) Z d8.fn (wo (n+0)) zr jD)
 have ze:=λn=>d8.rai l w base X G (WM (n:=n+3) Z Ex d8.fn (wo (n+0)) (ε (n+1)) zr jD)
 have Pw:=λn=>d9.rai l w base X G (Xg (n:=n+5) Z Ex d9.fn (BI (n+0)) Zq)
 have Xu:=λn=>d10.cal l w base X G (VO (n:=n+0) Z d10.fn)
 have Mw:=λn=>d11.cal l w base X G (LY (n:=n+4) Z d11.fn (ZG (n+0)))
 have Mz:=λn=>d12.cal l w base X G (Bv (n:=n+4) Z d12.fn (ZG (n+0)))
 have Ua:=λn=>d13.cal l w base X G (Yl (n:=n+5) Z d13.fn (Mz (n+0)) (Xu (n+4)))
 have zF:=λn=>d14.cal l w base X G (Zl (n:=n+6) Z d14.fn (Mz (n+1)) (Ua (n+0)))
 have Mv:=λn=>d15.cal l w base X G (Ph (n:=n+0) Z d15.fn)
 have wq:=λn=>d16.cal l w base X G (vb (n:=n+5) Z d16.fn (Mw (n+0)) (Mv (n+4)))
 have Mu: ∀n,jn l.prog w K mg base (n+1) "along" ["tables","way"] VU:=λn=>d17.cal l w base X G (Gj λ_ _ _ z=>z)
 have Og:=λn=>d17.rai l w base X G (Mp (n:=n+6) Z Ex d17.fn (zd (n+2)) (ze (n+2)) (Pw (n+0)))
 have YV:=λn=>d18.cal l w base X G (Qw (n:=n+7) Z d18.fn (zd (n+3)) (zF (n+0)) (Mw (n+2)))
 have Pv:=λn=>d18.rai l w base X G (Xi (n:=n+4) Z Ex d18.fn (ze (n+0)))
 have vj:=λn=>d19.cal l w base X G (ZQ (n:=n+7) Z d19.fn (zd (n+3)) (zF (n+0)) (wq (n+1)))
 have WZ:=λn=>d19.rai l w base X G (Zm (n:=n+4) Z Ex d19.fn (ze (n+0)))
 have vk:=λn=>d20.cal l w base X G (ZR (n:=n+4) Z d20.fn (zd (n+0)))
 have Ya:=λn=>d20.rai l w base X G (Zn (n:=n+4) Z Ex d20.fn (ze (n+0)))
 have Yt:=λn=>d21.cal l w base X G (WO (n:=n+0) Z d21.fn)
 have JF:=λn=>d22.cal l w base X G (Ym (n:=n+7) Z d22.fn (zd (n+3)) (zF (n+0)) (wq (n+1)) (Yt (n+6)))
 have Uc:=λn=>d22.rai l w base X G (WP (n:=n+4) Z Ex d22.fn (ze (n+0)))
 have Mx: ∀n,jn l.prog w K mg base (n+1) "is_post" ["thing","size"] YU:=λn=>d23.cal l w base X G (Gj λ_ _ _ z=>z)
 have JD:=λn=>d24.cal l w base X G (Yn (n:=n+4) Z d24.fn (zd (n+0)) (Mx (n+3)))
 have Ub:=λn=>d24.rai l w base X G (WQ (n:=n+4) Z Ex d24.fn (ze (n+0)))
 have Pq:=λn=>d25.cal l w base X G (Qx (n:=n+7) Z d25.fn (zd (n+3)) (zF (n+0)) (Mw (n+2)))
 have Pu:=λn=>d25.rai l w base X G (Xj (n:=n+4) Z Ex d25.fn (ze (n+0)))
 have QJ:=λn=>d26.cal l w base X G (Xk (n:=n+0) Z d26.fn)
 have Pp:=λn=>d27.cal l w base X G (Qy (n:=n+0) Z d27.fn)
 have zX:=λn=>d28.cal l w base X G (Xl (n:=n+0) Z d28.fn)
 have X0A: ∀n,Vo l.prog w K mg base (n+1) "_law_whole" ["_law_thing"] zJ:=λn=>⟨_,_,Yo (n:=n) Z Ex d29.fn,d29.fn.binds (ps:= ["_law_thing"]) λ_ _ _ _ _ _ us hl=>match us,hl with| [_],_=>rfl,d29.fn.kp,d29.nm X G⟩
 have X0W: ∀n,Vo l.prog w K mg base (n+1) "_law_kind" ["_law_e"] (Qb mg):=λn=>⟨_,_,VW (n:=n) Z Ex d30.fn,d30.fn.binds (ps:= ["_law_e"]) λ_ _ _ _ _ _ us hl=>match us,hl with| [_],_=>rfl,d30.fn.kp,d30.nm X G⟩
 have X0q: ∀n,Ls l.prog w K mg base (n+1):=λn=>⟨_,_,Oc (n:=n+1) Z Ex d31.fn (X0W n) (X0A n),d31.fn.binds (ps:= ["_law_call"]) λ_ _ _ _ _ _ us hl=>match us,hl with| [_],_=>rfl,d31.fn.kp,d31.nm X G⟩
 have ZF:=λn=>d32.cal l w base X G (VX (n:=n+1) Z d32.fn (zX (n+0)))
 have Xs:=λn=>d33.cal l w base X G (VY (n:=n+1) Z d33.fn (zX (n+0)))
 have WY:=λn=>d34.cal l w base X G (ZS (n:=n+1) Z d34.fn (zX (n+0)))
 have Zr:=λn=>d35.cal l w base X G (JB (n:=n+2) Z d35.fn (Xs (n+0)) (zX (n+1)))
 have QK:=λn=>d36.cal l w base X G (Xm (n:=n+3) Z d36.fn (zX (n+2)) (ZF (n+1)) (Zr (n+0)))
 have JC:=λn=>d37.cal l w base X G (Yp (n:=n+8) Z d37.fn (Mu (n+7)) (YV (n+0)) (vj (n+0)) (vk (n+3)) (JF (n+0)) (JD (n+3)) (Pq (n+0)))
 have JH:=λn=>d37.rai l w base X G (WT (n:=n+8) Z Ex d37.fn (Mu (n+7)) (YV (n+0)) (vj (n+0)) (vk (n+3)) (JF (n+0)) (JD (n+3)) (Og (n+1)) (Pv (n+3)) (WZ (n+3)) (Ya (n+3)) (Uc (n+3)) (Ub (n+3)) (Pu (n+3)))
 have Po:=λn=>d38.cal l w base X G (Qz (n:=n+9) Z B d38.at_ QH d38.fn (JC (n+0)) (JH (n+0)) (X0q (n+8)))
 exact EZ (n:=10) Z B d39.at_ Sb d39.fn (QJ 11) (Pp 11) (QK 8) (zX 11) (ZF 10) (WY 10) (Po 0) (JC 1) (JH 1) (X0q 9)
end My
namespace PySem.W.Fast
def tw13534390830596738162:=P0
def tw9856162849879835344:=P0
def tw13810858782279986127:=P0
def tw14155151751076650116:=P0
def tw13475613401467084138:=P0
def tw8626006265701444601:=P0
def tw13797974831489611385:=P0
def tw849274156860954248:=P0
def tw13664141580820143832:=P0
def tw7924095498911353447:=P0
def tw7747135480563933978:=P0
def tw5719655316792833993:=P0
def tw9286380848746179646:=P0
def tw14187133002523990663:=P0
def tw7595790292219790492:=P0
def tw2519462734848796649:=P0
def tw8113865036967700917:=P0
def tw10355342198780390064:=P0
def tw4844238054498849672:=P0
def tw15501321815652024345:=P0
def tw16964633340217868012:=P0
def tw11080793500790276601:=P0
def tw2454619776201203667:=P0
def tw13019835254073060476:=P0
def tw1444360257869201363:=P0
def tw6288735934843055615:=P0
def tw6094836450508809310:=P0
def tw15444908173484293686:=P0
def tw2559275034435014891:=P0
def tw6076271088522118316:=P0
def tw14878673920761690432:=P0
def tw7373316867382614721:=P0
def tw332391174949589510:=P0
def tw4188740608768964450:=P0
def tw2190408668507535977:=P0
def tw10016063343100851315:=P0
def tw11633394488691322600:=P0
def tw4254442380792818024:=P0
def tw12729509580572685848:=P0
def tw11358644402232575127:=P0
def tw17532263989850892417:=P0
def tw11521540457566431176:=P0
def tw6693940701599370293:=P0
def tw732031495575312060:=P0
def tw7962601790245866310:=P0
def tw648442266696733045:=P0
def tw1844891675076399966:=P0
def tw10368481846288400961:=P0
def tw8223099402641617770:=P0
def tw5268488231127343537:=P0
def tw14277624068558934257:=P0
def tw16820313268589447714:=P0
def tw12014707524873754191:=P0
def tw13321165071470508064:=P0
def tw2235765570689542105:=P0
def tw644913238036560935:=P0
def tw8958587551648734784:=P0
def tw6050223105707708940:=P0
def tw11768156401754851097:=P0
def tw18308223887447398264:=P0
def tw8279050644104533306:=P0
def tw7952861319634459031:=P0
def tw12965843999009539498:=P0
def tw16411584249291205124:=P0
def tw1972683939806699958:=P0
def tw6886344620095535687:=P0
def tw9128119800350869589:=P0
def tw6900496169739523472:=P0
def tw7983904642080681399:=P0
def tw18278632088915768837:=P0
def tw13572452916425440351:=P0
def tw11447580637988081451:=P0
def tw14931307041656346903:=P0
def tw188104624456834143:=P0
def tw11805618069015972086:=P0
def tw11191337079227557069:=P0
def tw15993959293393893421:=P0
def tw4739965866934170802:=P0
def tw2439178278758190390:=P0
def tw8201844757100289833:=P0
def tw6701475739898463040:=P0
def tw12395406662892491977:=P0
def tw12873534386453378110:=P0
def tw3541356058460628454:=P0
def tw10885172121588920490:=P0
def tw228801957693226513:=P0
def tw12948404849652906568:=P0
def tw17016711123485224979:=P0
def tw3507806135838472254:=P0
def tw12439371958855740689:=P0
def tw1260756129184701580:=P0
def tw1650493827107476932:=P0
def tw11646833510688699088:=P0
def tw17609099203115059760:=P0
def tw18372632446351475018:=P0
def tw16319926341993026494:=P0
def tw663134048656068769:=P0
def tw18177857996878049306:=P0
def tw14514291823547333765:=P0
def tw12975182676798197606:=P0
def tw3573276185662273381:=P0
def tw13960245661801763541:=P0
def tw11161358849179958039:=P0
def tw630168585298396859:=P0
def tw6823226385704556463:=P0
def tw10817999883936363348:=P0
def tw3012498806904754917:=P0
def tw9584727749349608238:=P0
def tw14410174811611886769:=P0
def tw9544802961994307630:=P0
def tw7489382375637808975:=P0
def tw7979356905251786209:=P0
def tw2114503104705221963:=P0
def tw6557957999132174240:=P0
def tw4042360998461302623:=P0
def tw17999415641013038216:=P0
def tw17466612819755238740:=P0
def tw14199511626060248207:=P0
def tw15760735893707849638:=P0
def tw4514759715613263717:=P0
def tw12419953664190805701:=P0
def tw6456212471080455929:=P0
def tw3428223502897145439:=P0
def tw1941145038956224431:=P0
def tw17453281258841028458:=P0
def tw2486670786550108538:=P0
def tw5343259535983014711:=P0
def tw14426230359341230899:=P0
def tw6560555262011949438:=P0
def tw3087301864598496945:=P0
def tw2388115343319174755:=P0
def tw17128342608833755590:=P0
def tw6565956664741518043:=P0
def tw3734739146624878028:=P0
def tw16490113038854208085:=P0
def tw11903251897298291019:=P0
def tw1817493392060951688:=P0
def tw10020563005966178640:=P0
def tw16622369659663739468:=P0
end PySem.W.Fast
open PySem PySem.W PyProof.Rows
set_option maxRecDepth 100000 in
set_option maxHeartbeats 0 in
theorem PySem.Challenge.cw_firstpowers_k72_lists_of_tables_refused_holds : PySem.Challenge.rw_firstpowers_k72_lists_of_tables_refused.Holds := by
  w_on; o_law; k_head; (case hw => w_witness2)
  k_fill
  refine L2.Nd (l := PySem.Challenge.rw_firstpowers_k72_lists_of_tables_refused) (k := 13) (x := "_law_script") rfl rfl ⟨rfl, by decide, by decide, rfl⟩ (fun w h Y => PySem.W.km_in_of Y) ?B ?F
  case B => intro w; kernel_rfl
  case F =>
    intro w mg fa h KX G hmg
    refine' My.Sa KX G hmg ?d0 ?d1 ?d2 ?d3 ?d4 ?d5 ?d6 ?d7 ?d8 ?d9 ?d10 ?d11 ?d12 ?d13 ?d14 ?d15 ?d16 ?d17 ?d18 ?d19 ?d20 ?d21 ?d22 ?d23 ?d24 ?d25 ?d26 ?d27 ?d28 ?d29 ?d30 ?d31 ?d32 ?d33 ?d34 ?d35 ?d36 ?d37 ?d38 ?d39 ?v0 ?v1 ?v2 ?v3 ?z ?ex ?inNoTables ?tb0 ?tb1
    case d0 | d1 | d2 | d3 | d4 | d5 | d6 | d7 | d8 | d9 | d10 | d11 | d12 | d13 | d14 | d15 | d16 | d17 | d18 | d19 | d20 | d21 | d22 | d23 | d24 | d25 | d26 | d27 | d28 | d29 | d30 | d31 | d32 | d33 | d34 | d35 | d36 | d37 | d38 | d39 => refine' L2.EG ?a ?l ?c ?k; (case a => k_is); (case l => k_is); (case c => k_is); (case k => k_is)
    case inNoTables => refine' L2.LD ?a ?b ?l ?c ?k ?e ?i; (case a => k_is); (case b => k_is); (case l => k_is); (case c => k_is); (case k => k_is); (case e => k_is); (case i => kernel_rfl)
    case v0 | v1 | v2 | v3 => k_is
    case z | ex | tb0 | tb1 => kernel_rfl
