import PyProof.Rows.All
import Wide.All
import OpenK.AllK
import Wide.FinOn
import Lean
import PyProof.EqAt
import PyProof.EqKinds
import PyProof.TupleCall
import PyProof.Rows.TopTwo
import KE.KIsAll
import PyProof.ExcAttrAll.ValueError
import KE.KTryMore
import KE.KRevIter
import PyProof.SetRoads
import KE.KDictList
import PySem.Challenge.RW_firstpowers_k70_why_noughts_last
set_option Elab.async false
set_option linter.all false
set_option bootstrap.genMatcherCode false
set_option genSizeOf false
set_option maxRecDepth 100000
set_option maxHeartbeats 8000000
noncomputable section
open _root_ renaming List->G0,Nat->G6,Int->P1,Option->D4,if_pos->R9,decide_eq_true->S1,if_neg->S4,Array->S9,decide_eq_false->T3,Bool->N4,of_decide_eq_true->F9,String->W3,StateT->aD,decide_eq_true_eq->aK,beq_self_eq_true->aW,exists_eq_left'->cU,ForInStep->gC,of_decide_eq_false->lF,if_false->oU,if_true->pO,dif_pos->pR,decide_eq_true_iff->qP,decide_true->G0g
open List renaming getElem?_eq_getElem->G1,length_map->G3,mem_singleton->G8,length_append->P3,mem_cons_self->P4,range->P5,getElem?_eq_some_iff->P7,mem_of_getElem?->P8,getElem?_map->P9,mem_append_right->D0,mem_range->D1,getD_eq_getElem?_getD->D2,append_assoc->D5,mem_append->D8,length_range->R0,mem_cons_of_mem->R1,length_cons->R3,size_toArray->R4,mem_map->R6,mem_cons->R7,all_eq_true->S8,map_append->T4,length_take->T5,map_cons->T6,take_of_length_le->T9,getElem_mem->N0,mem_append_left->N2,take_append_drop->N5,map_map->N8,mem_filter->B0,getElem?_append_right->B1,replicate->B3,pairwise_append->B6,length_reverse->B7,length_drop->C0,take_add_one->C4,getElem?_append_left->C5,map_congr_left->C7,not_mem_nil->F5,getElem?_eq_none->L0,length_nil->O1,mem_of_mem_drop->O4,mem_of_mem_take->O5,filter_cons_of_pos->O7,pairwise_iff_getElem->A4,mem_reverse->A9,nodup_cons->E1,nil_append->E2,drop_eq_nil_of_le->E7,getElem?_range->J1,append_nil->J5,lookup_cons->J6,pairwise_singleton->J8,filter_cons_of_neg->J9,eq_nil_of_length_eq_zero->K4,getElem?_set_ne->Q4,find?_cons->U2,take_length->U3,any_eq_true->U5,extract_eq_drop_take->U6,mem_of_find?_eq_some->U7,take_sublist->U9,drop_sublist->V1,getElem?_cons_zero->W1,reverse_perm->X1,pairwise_map->X3,nodup_append->X5,replicate_succ->X9,length->Y1,length_filter_le->Y7,cons_append->Y9,pairwise_cons->Z0,getElem?_drop->Z4,find?_eq_none->Z6,drop_append_of_le_length->aE,take_append_of_le_length->aF,getElem_of_mem->aR,drop_drop->a9,zip_cons_cons->bE,flatten_cons->bK,getElem?_of_mem->bO,ext_getElem?->bP,length_erase_of_mem->bX,mem_map_of_mem->bZ,length_eq_zero_iff->b9,getElem?_cons_succ->cF,mem_filterMap->cH,map_nil->cK,all_map->cL,length_pos_of_mem->cM,forIn_cons->cQ,range_succ->cR,dropLast_concat_getLast->cS,find?_some->cT,length_singleton->cV,perm_append_comm->cW,getElem?_reverse->cX,flatMap_cons->dA,mem_erase_of_ne->dH,mem_flatMap->dQ,getLastD_eq_getLast?->dU,getLast?_eq_getElem?->dW,filterMap_cons->dX,flatMap_append->dZ,length_pos_iff->eO,filter_eq_self->eU,getElem?_take_of_lt->fB,getElem_range->f8,getElem?_set_self->gH,getElem?_set->gK,range_succ_eq_map->gL,reverse_cons->gM,foldl_append->gQ,take_zero->gS,length_eq_one_iff->g4,eraseIdx_eq_take_drop_succ->g8,pairwise_reverse->g9,mem_iff_getElem?->iB,map_take->iH,map_drop->iI,drop_zero->lB,length_eraseIdx_of_lt->lE,nodup_nil->lM,getElem?_eq_none_iff->lR,exists_mem_of_ne_nil->lU,filter_congr->mF,range'->mG,sum_cons->mO,count_le_count_cons->mQ,getElem?_replicate->mT,perm_middle->mX,nodup_range->m5,any_map->nK,getElem_of_append->nP,filter_eq_nil_iff->nZ,of_mem_zip->n5,foldl_cons->n6,min?_eq_some_iff->oG,set_append_right->oI,drop_take->o5,take_take->o6,getLast?_concat->o7,range_eq_range'->pL,count_cons_self->pM,take_succ_cons->pV,getElem?_take->qJ,Nodup->qL,filter_append->qQ,length_range'->qR,getElem_take->rO,getElem_drop->rP,map->rT,zip_nil_left->rY,append_cons->sK,cons_ne_nil->sQ,map_id->sZ,length_set->tG,sum_append->tM,filter_nil->tW,foldl->uI,take_succ->u5,all_cons->xB,any_cons->xC,lookup->IS
open PySem renaming Value->G2,Shared->G5,wpAny_pure->P0,Addr->P2,wpAny->R5,model->S0,starEach->S5,Program->T7,wpAny_mono->M5,foldedSetIterable->M9,Expr->N3,SetTable->N6,Around->N7,compareOp->B9,World->C1,FuncData->C6,wpAny_loadPart'->C8,wpAny_call_entry->L6,wpAny_callSpecial?_slot->O6,wpAny_holding->O8,Heap->A7,wpAny_setState_of->E6,eval->K0,wpAny_truthy_bool->K1,mainGlobals->K3,rawInt->Q0,Stmt->Q2,binaryOp->Q5,backTo->U8,bootBuiltins->V5,PyData->V8,tupleKeyHash->X6,swapsWith->X7,cellsFrom->X8,Scope->Y0,wpAny_specialOf->Y2,holding->Z8,wpAny_standAt->Z9,behindInMarks->aA,wpAny_newObj_type->aH,wpAny_pyIter_list->aJ,ofAClassStatement->aL,codeAny_builtin->aQ,Comprehension->aU,wpAny_askSetting->aV,sysModules->aY,wpAny_passesOwn->bH,codeAny->bJ,attributeBase->bV,mem_of_lookup->bY,wpAny_isInstance->cC,isSubtype_type->cE,Keyword->cJ,letOwnedTupleGo->cP,wpAny_callSpecialIfBoundUnlessNone?_slot->cY,searchCouldBeSeen->dE,keywordEach->dF,wpAny_seqItems->dM,DictEntry->dP,assign->dY,swapsWithSole->e6,swappedStores->e7,wpAny_attempt->fH,standAt->fO,assignEach->fX,sliceBounds->gB,hashByValue->gF,atKey->gG,wpAny_notOrdered_dict->iA,wpAny_rule->iC,Fin->iE,plainId_quiet->iK,compTurn->iO,wpAny_execs_nil->iR,wpAny_ret_mkInt->iU,wpAny_typeOf->iY,wpAny_Call_Name_kw->i8,backToKw->j5,call_meets->j6,wpAny_pyIter_tuple->lA,IsTupleKey->lJ,wpAny_pyHash_tuple->lK,wpAny_binaryOp_repeat_ref->lO,CmpOp->l9,getItem->mB,wpAny_sequenceKey->mC,wpAny_pyIter_slot->mE,wpAny_getItem_list_slice->mJ,comprehension->mK,wpAny_comprehension_free->mL,lastMarks->mS,noFill_tuple_add->mU,compEnvC->mV,checkBuiltinCall->mY,setField->mZ,builtinsNs->m7,truthy->m8,pyNext->m9,codeAny_mono->nB,IsPart->nD,typeIs_int->nG,reduceHash->nJ,richCompare_meets_room->nU,theTreesLotGoes->n8,codeAny_of_tree->n9,exec_Assign_Name_used->oF,builtinLookup_eq_fast->oH,isSubtype_tuple_tuple->oK,wpAny_isOneOf_keyiter->oM,wpAny_loadName_local->oO,subscripted->oV,lookup_relabel_local->oW,intBits_le_iff->o3,isSubtype_stop->o4,richCompare->pA,setAddHashedIn->pF,codeAny_call_builtin->pG,wpAny_pyIter_keyiter->pI,PassesOwn->pN,callerA->pP,isSubtype->pQ,eqIsQuiet->pS,wpAny_loadName_cell->pT,assignInOrder->p5,seq_tuple_add->p6,evalPart_none->p7,pyIter->qD,Result->qE,wpAny_call->qF,wpAny_setField_rec->qK,wpAny_eqBool_tuple->qM,wpAny_tupleItemsOf->qO,Model->qS,Operator->qV,name_of_addr->qZ,concat_meets->q0,seqIndex_neg->rA,wpAny_isNot_plain->rD,callSpecial?->rG,wpAny_pyIter_enum->rH,entryFor->rJ,wpAny_storeSet_of->rS,wpAny_cRoomFor_or->rV,wpAny_dictEntries->r9,wpAny_execs_cons->sD,seqSlot_of->sI,entryFor_of_fast->sJ,wpAny_field->sU,seqIndex_of->sV,pushCells_keeps->tJ,typeLookup_type->tO,setItem->tX,BindsTo->tY,Setting->tZ,wpAny_Name->uB,bindName->uC,wpAny_bindName->uD,bindL->uF,bindC->uG,fitsIndex_both->uJ,newFunctionEnv->uK,compPost->uL,wpAny_is_plain->uN,entryFor_alias->uQ,wpAny_newTuple->uR,carriedByValue->u3,wpAny_runValue->u4,wpAny_setField->u6,intBits_le_64->v7,evalPart_some->w6,eval_ListComp->w8,wpAny_notedAt->xA,checkTypeCall->xH,wpAny_newList->xL,setSearchFrom->xP,storeName->xV,noteFrame->xX,Within->x4,isTrue->x5,codeAny_loop->x8,relabel->y3,interactive->IK,IsRangeIter->IL,sizeLine_eq->IM,bindArgs->IN,wpAny_Slice->IP,wpAny_noted->IR,wpAny_of_eq->IT,setRelay->G0f,storedH_new->G0h,entryOfKey->G0n,wpAny_load->G0q,typeLookup->G0v,typeIs_str->G0w,call->G0y,closureFor->G0z,seqRepeat?->G0A,preSum->G0B,argsOk->G0C,stored->G0H,hashInt->G0I,release->G0J,operate->G0P,newDict->G0R,data2->G1a,Params->G1b
open PySem.W renaming Frag->G7,kia_one->Q9,keepIn->b7,fnOf->dO,methodObj->lW,cellsFrom_some->nC,instObj->n4,kat_nil->oE,lookIn->oQ,kitOne->oS,codeIn->oT,tabObj->oY,tabIn->qA,mg_of->qB,kitx_list->qX,kitx_dict->qY,nsIn->sA,plainGet->sE,OpenLaw->tL,findIn->uE,CodeHd->uM,kdl_hint_dict->IF,hideAll_size->II,hideAll_none->IJ,hideAll_get->G0i,of_hideAll->G0o,kitx_float->G0r,kitx_tuple->G0s,callWith_K->G0t,codeRec_of->G0u,ki_setBack->G0x,hasDictIn->G0K,plainOver->G0L,specialIn->G0M,kitx_none->G0N,kitx_bool->G0O,eq_bytes->G0S,ne_bytes->G0T,kitx_int->G0U,kitx_str->G0V,kitx_own->G0W,ki_setAt->G0X,krv_pick->G01,kat_cons->G02,kdl_call->G03,hideAll->G04,takesIn->G05,KatTups->G06,kat_yes->G07,kat_one->G08,InstAt->G09,tab_of->G1c,KatLex->G1g,kat_no->G1h,kat_lt->G1i,KdlSrc->G1j,mroIn->G1k,WalkO->G1l
open PySem.Heap renaming get?_push_of_some->G9,lt_size->D9,get?_push_size->S6,get?_update_self->L9,SameBut->A8,get?_update_other->cI,size_push->dG,get?_update_ne->pW
open Nat renaming le_refl->P6,le_trans->R8,le_of_lt->T8,ne_of_lt->M7,zero_le->N9,lt_of_lt_of_le->B2,lt_irrefl->B8,lt_or_ge->L5,le_of_ble_eq_true->O0,eq_of_beq_eq_true->O9,zero_add->E3,le_of_eq->J0,add_sub_cancel'->J4,lt_succ_self->J7,beq->K2,lt_of_le_of_ne->K6,pow_succ->Q1,lt_of_le_of_lt->Q6,min_eq_left->U0,not_lt_zero->U1,ne_of_gt->V6,mul_comm->V7,le_add_right->W0,lt_trans->W5,lt_of_succ_le->W6,lt_of_succ_lt->X0,mod_lt->Z5,add_zero->aB,not_lt->aP,le_add_left->bI,min_le_right->b8,succ_pos->cN,div_div_eq_div_mul->cO,lt_succ_of_lt->c9,lt_trichotomy->dB,one_pos->dJ,ble->dR,add_le_add_left->eQ,add_assoc->fJ,mul_assoc->fM,lt_succ_iff->fT,le_antisymm->fU,sub_lt->fZ,pos_of_ne_zero->f6,add_right_comm->f7,add_sub_cancel_left->gD,mul_add->gE,succ_mul->gJ,succ_le_of_lt->gU,pow_zero->gV,dvd_of_mod_eq_zero->gW,beq_refl->g6,mul_succ->g7,le_of_not_lt->iD,succ_le_succ->iF,mod_eq_of_lt->iG,pow_le_pow_right->iP,sub_self->i3,eq_zero_or_pos->lG,add_sub_cancel->lI,min_eq_right->mW,add_comm->nH,mod_eq_zero_of_dvd->nV,le_total->nX,div_add_mod->oC,ble_eq_true_of_le->oN,add_le_add_right->o8,add_mod->pB,div_one->pE,le_zero->pJ,mul_le_mul_left->pY,sub_zero->rE,le_of_succ_le->rL,succ_add->rM,sub_pos_of_lt->rN,le_succ_of_le->rQ,succ_lt_succ->sN,add_mul->tD,pow_pos->tE,max_eq_left->tQ,min_le_left->tS,mod_add_div->tU,gcd->uA,mul_le_mul->uO,zero_mul->y9,succ->IY,two_mul->G0c,mod_mod->G0d,mul_mod->G0e,sub_le->G0D
open Array renaming length_toList->D3,getElem?_toList->M8,toList_append->O2,getElem?_eq_some_iff->O3,getElem?_eq_none_iff->Q8,toList_push->V0,forIn_toList->V9,getElem?_eq_getElem->Y6,toList_extract->bR,getD_eq_getD_getElem?->dD,getElem_toList->dI,size_setIfInBounds->fI,toList_reverse->iQ,isEmpty_eq_false_iff->k9,toList_setIfInBounds->lH,eraseIdxIfInBounds->mP,getElem?_eq_none->nN,replicate->oB,toList_eraseIdx->oJ,mem_toList_iff->oR,toArray_toList->o9,toList->qU,isEmpty_iff->rC,toList_map->sO,size_push->tT,getD->uP,size_map->uW,isEmpty->xS
open Bool renaming false_ne_true->D6,and_eq_true->F4,false_eq_true->F7,eq_false_iff->V2,or_eq_true->Y3,eq_iff_iff->aM,and_false->a8,and_true->iM,not_true->iN,decide_and->iV,or_false->mI,false_and->oP,or_eq_false_iff->oX,decide_or->pK,not_false->uV,false_bne->u7,false_or->xT,true_and->xU
open PyProof.Rows renaming Keyed->D7,arrOf->M1,pendingOf->C3,SortSt->C9,slot_tuple_getitem->Y4,boot_all->Y8,failedOf->bQ,callWith_type1->cZ,IntsAre->iZ,assignInOrder_cons->i5,envOfC->i9,AllBare->l8,subscriptTail->mH,subscriptTail_builtinR->nE,seqObj->nQ,entry_tuple_getitem->pU,args_tuple_getitem->qG,Subscript_->qH,isTrue_plain->qT,assignInOrder_nil->qW,callWith_builtin1->sF,boot_isinstance->tK,get?_update_seq->tR,slicePart_none->uH,keyKind'->uS,printed_name->u9,printed_star->v6,tupleItemsOf_->v9,reverseSlice'->xJ,listUpdate_at->xK,IsTup->IH,tail_any->IQ,mergeAt'->IX,binarySort'->IZ,seqEpoch_at->G0a,recsOf->G0j,lt_int->G0k,isTrue_and->G0p,setPending->G0E,tuples'->G0Q,seen->G1f
open PySem.SetTable renaming bits->S7,below->M6,runEnd->E5,turns->E8,sizeAbove->K7,Probe->V4,insertAt->W8,advance->aX,grown->dL,toList_insertAt->fE,insertAt_perm->gY,slot->mM,has->nO,layClean->rR,fresh->uU,fits->xI,leap->xM,laid->xN,fill->xO,probeStart->G0l,sameMemory->G0m,gaveWay->G0Z,tooFull->G00
open Option renaming map_eq_some_iff->F6,map_eq_none_iff->W9,getD_some->cB,isSome_iff_exists->fA,map_some->fQ,isNone_iff_eq_none->lQ,isSome_map->rX,getD_none->sG
open PySem.PyData renaming canLayAll0->F8,depthAll->L7,canLay0->A5,eqv->K5,eqvAll->K9,depth->U4,int->lD
open Classical renaming byContradiction->H0,em->G1n
open PySem.PassesOwn renaming never->L8
open Option.some renaming inj->A2,injEq->bS
open PySem.F renaming slot_dict_keyiterator_next->A3,args_dict_keyiterator_next_1->Z7,entry_dict_keyiterator_next->aG,plainAttrs_list->cA,args_tuple_add_2->fC,entry_tuple_add->gA,slot_tuple_add->gI,slot_tuple_hash->gZ,slot_int_rmul->iT,args_tuple_hash_1->pX,slot_dict_delitem->pZ,entry_tuple_hash->qN,args_int_rmul_2->rB,plain_list_iadd->rK,entry_int_rmul->sH,slot_dict_iter->sP,fills_int_mul->tH,slot_set_iter->tP,slot_dict_len->tV,slot_list_append->xD,type_list_append->xE,slot_list_insert->xF,type_list_insert->xG,slot_list_extend->xQ,type_list_extend->xR,slot_list_index->xY,type_list_index->xZ,args_tuple_lt_2->x3,entry_tuple_lt->y6,args_list_lt_2->y8,slot_tuple_lt->IC,entry_list_lt->IE,slot_list_lt->G0b
open PySem.Heap.SameBut renaming update->A6,refl->bM,trans->G0G
open PySem.NameKind renaming free->E4,cell->V3
open PySem.SetTable.layClean renaming free->E9
open Ne renaming symm->I0
open Function renaming comp_apply->J3,comp_def->gO
open PySem.Value renaming ref->K8,bool->fV,none->i4,int->mR,type->qC,str->sC,isInt->sS,float->IG
open Or renaming inl->Q7,inr->aT
open PySem.Str renaming ofString->W4,empty->xW
open Int renaming toNat_natCast->W7,emod_nonneg->iW,fdiv_eq_ediv_of_nonneg->i6,fmod_eq_emod_of_nonneg->i7,lt_of_lt_of_le->lC,emod_lt_of_pos->lN,mul_nonneg->oZ,lt_of_le_of_lt->qI,mul_comm->rF,natCast_emod->sR,pow_pos->sW,natCast_add->tN,le_of_lt->y4,ne_of_gt->IA,mul_pos->IU,pow_add->IV,toNat->G0Y
open PySem.SetTable.probe renaming go->X4
open PySem.Builtin.Tuple renaming tupleHashOf->Y5,tupleItemsOf->aZ,tupleExact->bU,tupleIsExact->j8,tupleTooMany->j9,tupleCompareSizes->sB
open PySem.Around renaming under_plainId->aC
open PySem.Obj renaming mapSeq->aN,mapFields->iJ,data_mapDictKeys->pH
open ForInStep renaming yield->aO
open PySem.SetTable.sizeAbove renaming go->bF
open PySem.Builtin.Slice renaming slicePlaces->bG,sliceAdjust->dS,sliceApplied->j0,slicePartIndex->tF,sliceFields->u8
open PyProof.Rows.LCg renaming lst->bL
open True renaming intro->bT
open PySem.Builtin.List renaming listTooLong->bW,listLengthHint->i0,listFitsIndex->j7,listSameRef->mN,listExtendWith->t8
open PySem.pyHashByItsType renaming reduced->cG
open Sum renaming inr->dN,inl->lV
open PySem.Builtin.SmallTypes renaming stopIteration->gP
open PySem.SetTable.below renaming go->gR
open Decidable renaming byContradiction->lS
open List.Pairwise renaming nil->mD
open PySem.Walks renaming list->nM,tuple->IW
open List.Perm renaming trans->oA,append->sL,cons_inv->G0F,cons->G1d,swap->G1e,nil->G1m
namespace L2
open PySem PySem.Spec PyProof.Rows
abbrev ń:=Sum P1 Str
noncomputable def Ot:ń->G2->N4
 | .inl k,v=>sS k v
 | .inr x,v=>Value.isStrOf x v
noncomputable def KH (w:C1):ń->P1
 | .inl k=>G0I k
 | .inr x=>hashStr w x
def jS: ∀ {k:ń} {v:G2},Ot k v=true->(∃i t,k=lV i/\v=mR i t)\/(∃x t,k=dN x/\v=sC x t)
 | .inl i,v,h=>by
  obtain⟨t,e⟩:=Value.isInt_shape (k:=i) (v:=v) h;exact .inl ⟨i,t,rfl,e⟩
 | .inr x,v,h=>by
  obtain⟨t,e⟩:=Value.isStrOf_shape (x:=x) (v:=v) h;exact .inr ⟨x,t,rfl,e⟩
def Ou (a b:P1):decide ((lV a:ń)=lV b)=(a==b):=by
 by_cases e:a=b
 ·subst e;simp
 ·have h: ¬ (lV a:ń)=lV b:=λq=>e (Sum.inl.inj q)
  rw [T3 h];exact(beq_eq_false_iff_ne.mpr e).symm
def Ov (a b:Str):decide ((dN a:ń)=dN b)=decide (a=b):=by
 by_cases e:a=b
 ·subst e;simp
 ·have h: ¬ (dN a:ń)=dN b:=λq=>e (Sum.inr.inj q)
  rw [T3 h,T3 e]
def Ow (a:P1)(b:Str):decide ((lV a:ń)=dN b)=false:=T3 (λq=>nomatch q)
def Ox (a:Str)(b:P1):decide ((dN a:ń)=lV b)=false:=T3 (λq=>nomatch q)
noncomputable def GW (prog:T7)(w:C1):PySem.KeyKind prog w ń where
 is:=Ot
 hash:=KH w
 inj:=λv a b ha hb=>by
  rcases jS ha with ⟨i,t,rfl,rfl⟩|⟨x,t,rfl,rfl⟩
  ·rcases jS hb with ⟨j,u,rfl,e⟩|⟨y,u,rfl,e⟩
   ·injection e with e1 _;rw [e1]
   ·exact nomatch e
  ·rcases jS hb with ⟨j,u,rfl,e⟩|⟨y,u,rfl,e⟩
   ·exact nomatch e
   ·injection e with e1 _;rw [e1]
 byValue:=λk v h=>by
  rcases jS h with ⟨i,t,rfl,rfl⟩|⟨x,t,rfl,rfl⟩<;>rfl
 pyHash:=λhv h=>by
  rcases jS hv with ⟨i,t,rfl,rfl⟩|⟨x,t,rfl,rfl⟩
  ·exact wpAny_pyHash_int h
  ·exact wpAny_pyHash_str h
 eqBool:=λhu hv h=>by
  rcases jS hu with ⟨i,t,rfl,rfl⟩|⟨x,t,rfl,rfl⟩
  ·rcases jS hv with ⟨j,u,rfl,rfl⟩|⟨y,u,rfl,rfl⟩
   ·rw [Ou] at h;exact wpAny_eqBool_int h
   ·rw [Ow] at h;exact SeqAt.EqAt.int_str i t y u _ _ _ _ h
  ·rcases jS hv with ⟨j,u,rfl,rfl⟩|⟨y,u,rfl,rfl⟩
   ·rw [Ox] at h;exact SeqAt.EqAt.str_int x t j u _ _ _ _ h
   ·rw [Ov] at h;exact wpAny_eqBool_str h
 «strs» :=λk x t v h=>by
  rcases jS h with ⟨i,u,rfl,e⟩|⟨y,u,rfl,e⟩
  ·exact nomatch e
  ·injection e with e1 _
   subst e1;cases v<;>rfl
inductive V where
 |non|bl (b:N4)|int (i:P1)|str (x:Str)|byt (b:S9 UInt8)|flt (b:UInt64)|ref (a:P2)|ty (n:W3)
 deriving DecidableEq
def RelV:V->G2->Prop
 | .non,u=>u=i4
 | .bl b,u=>u=fV b
 | .int i,u=> ∃t,u=mR i t
 | .str x,u=> ∃t,u=sC x t
 | .byt b,u=> ∃t,u=Value.bytes b t
 | .flt b,u=> ∃t,u=IG b t
 | .ref a,u=>u=K8 a
 | .ty n,u=>u=qC n
abbrev Ç:G0 V->G0 G2->Prop:=Paired RelV
def Ç.length {xs:G0 V}{us:G0 G2}(r:Ç xs us):xs.length=us.length:=Paired.length r
def Ç.get: ∀ {xs:G0 V} {us:G0 G2} {i:G6} {x:V},Ç xs us->xs[i]? =some x-> ∃u,us[i]? =some u/\RelV x u
 |_,_,_,_,.nil,e=>by simp at e
 |_,_,0,_,.cons r _,e=>by simp at e;subst e;exact⟨_,rfl,r⟩
 |_,_,i+1,x,.cons _ t,e=>by
  obtain⟨u,h1,h2⟩:=Ç.get (i:=i) (x:=x) t (by simpa using e);exact⟨u,by simpa using h1,h2⟩
variable {u:G2}
def Ç.set {x:V}(r:RelV x u): ∀ {xs:G0 V} {us:G0 G2} (i:G6),Ç xs us->Ç (xs.set i x) (us.set i u)
 |_,_,_,.nil=> .nil
 |_,_,0,.cons _ t=> .cons r t
 |_,_,i+1,.cons q t=> .cons q (Ç.set r i t)
def Ç.append: ∀ {xs ys:G0 V} {us ws:G0 G2},Ç xs us->Ç ys ws->Ç (xs++ys) (us++ws)
 |_,_,_,_,.nil,s=>s
 |_,_,_,_,.cons r t,s=> .cons r (Ç.append t s)
def Ç.take: ∀ {xs:G0 V} {us:G0 G2} (n:G6),Ç xs us->Ç (xs.take n) (us.take n)
 |_,_,0,_=> .nil
 |_,_,_+1,.nil=> .nil
 |_,_,n+1,.cons r t=> .cons r (Ç.take n t)
def Ç.drop: ∀ {xs:G0 V} {us:G0 G2} (n:G6),Ç xs us->Ç (xs.drop n) (us.drop n)
 |_,_,0,r=>r
 |_,_,_+1,.nil=> .nil
 |_,_,n+1,.cons _ t=>Ç.drop n t
def SQ:D4 V->D4 G2->Prop
 |some v,some u=>RelV v u
 |none,none=>True
 |_,_=>False
def KV {κ:Type}:G0 (κ×V)->G0 (κ×G2)->Prop:=Paired λ(p:κ×V) (q:κ×G2)=>p.1=q.1/\RelV p.2 q.2
noncomputable def kV:ń->V
 | .inl i=> .int i
 | .inr x=> .str x
inductive HO where
 /-- a list -/
 |lst (xs:G0 V)
 /-- a tuple (never changes) -/
 |tup (xs:G0 V)
 /-- a dict X0M keys are ints and texts;one X0M keys are tuples of ints and texts (Ũ empty one is both) -/
 |dK (ý:G0 (ń×V))|dT (ý:G0 (G0 ń×V))
 /-- a set of ints: its members,its size -/
 |set (S:P1->N4) (n:G6)
 /-- an instance of Ũ class at C,its dict at dx,its attributes -/
 |ins (C dx:P2) (fs:G0 (Str×V))
 /-- Ũ dict of Ũ instance at x -/
 |own (x:P2)
 /-- Ũ dict of an exception -/
 |xd (fs:G0 (Str×V))
 /-- a bound method,f of x -/
 |met (f x:P2)
 /-- a range object lo,lo+1,.. below hi -/
 |rng (lo hi:P1)
 /-- a X0o X1g is known to Ũ object (Ũ script;a dict while a loop walks it):read,never written while it is so -/
 |frz (o:Obj) (u:HO)
 /-- a code object's table -/
 |tbl (ps:S9 G2)
 /-- any other X0o,by θ is true of its one object (a def of one's own: SetO a S n:=HO.ext λh=> ..) -/
 |ext (φ:A7->Prop)
abbrev Hp:=P2->D4 HO
noncomputable def upd (H:Hp)(a:P2)(o:HO):Hp:=λb=>if b=a then some o else H b
variable {H:Hp}{a:P2}{o:HO}
def jt:upd H a o a=some o:=by unfold upd;rw [R9 rfl]
variable {b:P2}
def jj (h:b≠a):upd H a o b=H b:=by unfold upd;rw [S4 h]
def Ga {u:HO}(h:H a=some o)(h':H b=some u)(d:o≠u):a≠b:=by
 intro e;subst e;rw [h] at h';exact d (A2 h')
def ji (h:H a=some o)(h':H b=none):a≠b:=by
 intro e;subst e;rw [h] at h';cases h'
def ì (h:A7)(a:P2)(items:S9 G2):Prop:= ∃o,h.get? a=some o/\o.cls= .type "tuple" /\o.dict=none/\ ∃n,o.data= .seq items n
def ì.tup {h:A7}{a:P2}{items:S9 G2}(x:ì h a items):IH h a items:=let ⟨o,e,c,_,n,d⟩:=x;⟨o,e,c,n,d⟩
def ì.new (h:A7)(items:S9 G2):ì (h.push {cls:= .type "tuple",data:= .seq items}) h.objs.size items:=⟨_,S6 _ rfl,rfl,rfl,_,rfl⟩
section
variable (P:T7)(w:C1)
def Ø (H:Hp)(h:A7)(a:P2):HO->Prop
 | .lst xs=>xs.length<=sizeLine/\ ∃ (its:G0 G2) (n:G6),Ç xs its/\h.get? a=some {cls:= .type "list",data:= .seq its.toArray n}
 | .tup xs=>xs.length<=sizeLine/\ ∃its:G0 G2,Ç xs its/\ì h a its.toArray
 | .dK ý=>ý.length<=sizeLine/\(a==aY)=false/\ ∃vs,KV ý vs/\h.DictOf (GW P w) a vs
 | .dT ý=>ý.length<=sizeLine/\(a==aY)=false/\ ∃xs:G0 (G0 ń×P2×G2),
  Paired (λ(p:G0 ń×V) (q:G0 ń×P2×G2)=>p.1=q.1/\H q.2.1=some (.tup (p.1.map kV))/\RelV p.2 q.2.2) ý xs/\
  ∃o es ep,h.get? a=some o/\o.ExactDict/\o.data= .dict es ep/\es.toList=xs.map (G0n (tupleKind (GW P w)))/\(xs.map (·.1)).Nodup
 | .set S n=>h.SetOf (intKind P w) a S n
 | .ins C dx fs=>H dx=some (.own a)/\fs.length<=1000/\dx≠a/\h.get? a=some (n4 C dx)/\
  ∃mA,h.Ns1 dx mA/\(∀f,SQ (fs.lookup f) (mA f))/\x4 mA (fs.map (·.1))
 | .own _=> ∃o,h.get? a=some o
 | .xd fs=> ∃mA,h.Ns1 a mA/\ ∀f,SQ (fs.lookup f) (mA f)
 | .rng lo hi=> ∃t u v,h.get? a=some {cls:= .type "range",data:= .fields #[.int lo t,.int hi u,.int 1 v]}
 | .frz o u=>h.get? a=some o/\Ø H h a u
 | .tbl ps=>h.get? a=some {cls:= .none,data:= .fields ps}
 | .met f x=>h.get? a=some (lW (.ref f) (.ref x))
 | .ext φ=>φ h/\(∃o,h.get? a=some o)/\ ∀h1 h2:A7,φ h1->(∀o,h1.get? a=some o->h2.get? a=some o)->φ h2
def Ē (H:Hp)(h:A7):Prop:= ∀a o,H a=some o->Ø P w H h a o
end
section
variable {P:T7}{w:C1}{H H':Hp}{h h':A7}{a:P2}{o:HO}
def Ø.lt (x:Ø P w H h a o):a<h.objs.size:=by
 cases o with
 |lst xs=>obtain⟨_,_,_,_,e⟩:=x;exact D9 e
 |tup xs=>obtain⟨_,_,_,p⟩:=x;exact p.tup.lt
 |dK ý=>obtain⟨_,_,_,_,o,_,_,e,_⟩:=x;exact D9 e
 |dT ý=>obtain⟨_,_,_,_,o,_,_,e,_⟩:=x;exact D9 e
 |set S n=>obtain⟨o,_,_,_,e,_⟩:=x;exact D9 e
 |ins C dx fs=>obtain⟨_,_,_,e,_⟩:=x;exact D9 e
 |own y=>obtain⟨_,e⟩:=x;exact D9 e
 |xd fs=>obtain⟨_,⟨_,_,_,e,_⟩,_⟩:=x;exact D9 e
 |rng lo hi=>obtain⟨_,_,_,e⟩:=x;exact D9 e
 |frz ob u=>obtain⟨e,_⟩:=x;exact D9 e
 |tbl ps=>exact D9 (show h.get? a=some _ from x)
 |met f y=>exact D9 (show h.get? a=some _ from x)
 |ext φ=>obtain⟨_,⟨_,e⟩,_⟩:=x;exact D9 e
def Paired.mapP {α β:Type}{F G:α->β->Prop}: ∀ {l₁:G0 α} {l₂:G0 β},Paired F l₁ l₂->(∀a b,F a b->G a b)->Paired G l₁ l₂
 |_,_,.nil,_=> .nil
 |_,_,.cons r t,f=> .cons (f _ _ r) (Paired.mapP t f)
def Ø.stay (x:Ø P w H h a o)(k: ∀b u,(b=a\/H b=some (.own a))->h.get? b=some u->h'.get? b=some u)
 (ho: ∀b,H b=some (.own a)->H' b=some (.own a))(ht: ∀b xs,H b=some (.tup xs)->H' b=some (.tup xs)):Ø P w H' h' a o:=by
 induction o with
 |lst xs=>obtain⟨z,its,n,r,e⟩:=x;exact⟨z,its,n,r,k _ _ (.inl rfl) e⟩
 |tup xs=>obtain⟨z,its,r,ob,e,c⟩:=x;exact⟨z,its,r,ob,k _ _ (.inl rfl) e,c⟩
 |dK ý=>obtain⟨z,y,vs,r,ob,es,ep,e,c⟩:=x;exact⟨z,y,vs,r,ob,es,ep,k _ _ (.inl rfl) e,c⟩
 |dT ý=>
  obtain⟨z,y,xs,r,ob,es,ep,e,c⟩:=x;exact⟨z,y,xs,Paired.mapP r λp q z=>⟨z.1,ht _ _ z.2.1,z.2.2⟩,ob,es,ep,k _ _ (.inl rfl) e,c⟩
 |set S n=>obtain⟨ob,es,ep,t,e,c⟩:=x;exact⟨ob,es,ep,t,k _ _ (.inl rfl) e,c⟩
 |ins C dx fs=>
  obtain⟨d,z,ne,e,mA,⟨od,es,ep,e2,c⟩,r⟩:=x;exact⟨ho _ d,z,ne,k _ _ (.inl rfl) e,mA,⟨od,es,ep,k _ _ (.inr d) e2,c⟩,r⟩
 |own y=>obtain⟨ob,e⟩:=x;exact⟨ob,k _ _ (.inl rfl) e⟩
 |xd fs=>obtain⟨mA,⟨od,es,ep,e,c⟩,r⟩:=x;exact⟨mA,⟨od,es,ep,k _ _ (.inl rfl) e,c⟩,r⟩
 |rng lo hi=>obtain⟨t,u,v,e⟩:=x;exact⟨t,u,v,k _ _ (.inl rfl) e⟩
 |frz ob u ih=>obtain⟨e,q⟩:=x;exact⟨k _ _ (.inl rfl) e,ih q⟩
 |tbl ps=>
  have e:h.get? a=some {cls:= .none,data:= .fields ps}:=x;show h'.get? a=some {cls:= .none,data:= .fields ps};exact k a _ (.inl rfl) e
 |met f y=>
  have e:h.get? a=some (lW (.ref f) (.ref y)):=x;show h'.get? a=some (lW (.ref f) (.ref y));exact k a _ (.inl rfl) e
 |ext φ=>obtain⟨p,⟨o,e⟩,st⟩:=x;exact⟨st _ _ p λo q=>k _ _ (.inl rfl) q,⟨o,k _ _ (.inl rfl) e⟩,st⟩
def Ē.lt (x:Ē P w H h)(e:H a=some o):a<h.objs.size:=(x a o e).lt
def Ē.fresh (x:Ē P w H h)(e:h.objs.size<=a):H a=none:=by
 cases q:H a with
 |none=>rfl
 |some u=>exact absurd (B2 (x.lt q) e) (B8 _)
def Ē.kept (x:Ē P w H h)(k: ∀b u,h.get? b=some u->h'.get? b=some u):Ē P w H h':=λa o e=>
 (x a o e).stay (λb u _ q=>k b u q) (λ_ q=>q) λ_ _ q=>q
def Ē.laid (x:Ē P w H h)(k: ∀b u,h.get? b=some u->h'.get? b=some u)(hp:h.objs.size<=a)(new:Ø P w (upd H a o) h' a o):Ē P w (upd H a o) h':=λb u e=>by
 have hn:=x.fresh hp
 by_cases hb:b=a
 ·subst hb;rw [jt] at e;cases e;exact new
 ·rw [jj hb] at e;exact(x b u e).stay (λc v _ q=>k c v q) (λc q=>by rw [jj (ji q hn)];exact q) λc xs q=>by rw [jj (ji q hn)];exact q
end
def Rd (H:Hp)(a:P2)(u:HO):Prop:=H a=some u\/ ∃o,H a=some (.frz o u)
variable {P:T7}{w:C1}{h:A7}
def Rd.ok {u:HO}(r:Rd H a u)(x:Ē P w H h):Ø P w H h a u:=by
 rcases r with r|⟨o,r⟩
 ·exact x a u r
 ·obtain⟨_,q⟩:=x a _ r;exact q
def Mut:D4 HO->Prop
 |some (.lst _)=>True
 |some (.dK _)=>True
 |some (.dT _)=>True
 |some (.set _ _)=>True
 |some (.ins _ _ _)=>True
 |some (.ext _)=>True
 |_=>False
section
variable {P:T7}{w:C1}{H:Hp}{h h':A7}{x e:P2}{o':HO}
def Ē.write (ok:Ē P w H h)(mu:Mut (H x))(he:e=x\/H e=some (.own x))(k: ∀b u,b≠e->h.get? b=some u->h'.get? b=some u)(heo: ∃u,h'.get? e=some u)
 (new:Ø P w (upd H x o') h' x o'):Ē P w (upd H x o') h':=λb u q=>by
 have X1b: ∀c y,H c=some (.own y)->c≠x:=λc y r z=>by subst z;rw [r] at mu;exact mu
 have X1h: ∀c xs,H c=some (.tup xs)->c≠x:=λc xs r z=>by subst z;rw [r] at mu;exact mu
 by_cases hb:b=x
 ·subst hb;rw [jt] at q;cases q;exact new
 ·rw [jj hb] at q
  by_cases hbe:b=e
  ·have q':H b=some (.own x):=by
    rcases he with z|z
    ·exact absurd (hbe.trans z) hb
    ·rw [hbe];exact z
   rw [q] at q';cases q';obtain⟨v,hv⟩:=heo;exact⟨v,by rw [hbe];exact hv⟩
  ·refine(ok b u q).stay (λc v hc r=>k c v ?_ r) (λc r=>by rw [jj (X1b c b r)];exact r) λc xs r=>by rw [jj (X1h c xs r)];exact r
   rcases hc with rfl|hc
   ·exact hbe
   ·rintro rfl;rcases he with z|z
    ·exact X1b c b hc z
    ·rw [hc] at z;cases z;exact hb rfl
end
structure Un (fs ex:G0 P2)(H H':Hp)(h h':A7):Prop where
 keep: ∀b o,h.get? b=some o->H b=none->b ∉ fs->b ∉ ex->h'.get? b=some o
 slot: ∀b o,h.get? b=some o->H b=none->b∈fs->b ∉ ex-> ∃sl,h'.get? b=some {o with slots:=sl}
 free: ∀b o,h.get? b=some o->H b=none->b ∉ ex->H' b=none
 there: ∀b o,h.get? b=some o->b ∉ ex-> ∃o',h'.get? b=some o'
 tups: ∀b xs,H b=some (.tup xs)->H' b=some (.tup xs)
 frzs: ∀b o u,H b=some (.frz o u)->H' b=some (.frz o u)
 tbls: ∀b ps,H b=some (.tbl ps)-> ∃more,H' b=some (.tbl (ps++more))
section
variable {fs fs' ex ex':G0 P2}{H H1 H2:Hp}{h h1 h2 h':A7}{a x e:P2}{o:HO}
def Un.any (u:Un fs ex H H1 h h1){b:P2}{ob:Obj}(q:h.get? b=some ob)(n:H b=none)(hx:b ∉ ex): ∃sl,h1.get? b=some {ob with slots:=sl}:=by
 by_cases hb:b∈fs
 ·exact u.slot b ob q n hb hx
 ·exact⟨ob.slots,u.keep b ob q n hb hx⟩
def Un.kept (k: ∀b u,h.get? b=some u->h'.get? b=some u):Un fs ex H H h h':=
 ⟨λb ob q _ _ _=>k b ob q,λb ob q _ _ _=>⟨ob.slots,k b ob q⟩,λ_ _ _ n _=>n,λb ob q _=>⟨ob,k b ob q⟩,λ_ _ q=>q,λ_ _ _ q=>q,λ_ ps q=>⟨#[],by rw [q];simp⟩⟩
def Un.refl:Un fs ex H H h h:=Un.kept λ_ _ q=>q
def Un.laid (k: ∀b u,h.get? b=some u->h'.get? b=some u)(hp:h.objs.size<=a)(hn:H a=none):Un fs ex H (upd H a o) h h' where
 keep:=λb u q _ _ _=>k b u q
 slot:=λb u q _ _ _=>⟨u.slots,k b u q⟩
 free:=λb u q n _=>by rw [jj (M7 (B2 (D9 q) hp))];exact n
 there:=λb u q _=>⟨u,k b u q⟩
 tups:=λb xs q=>by rw [jj (ji q hn)];exact q
 frzs:=λb u xs q=>by rw [jj (ji q hn)];exact q
 tbls:=λb ps q=>⟨#[],by rw [jj (ji q hn),q];simp⟩
def Un.write (mu:Mut (H x))(he:e=x\/H e=some (.own x))(k: ∀b u,b≠e->h.get? b=some u->h'.get? b=some u)(heo: ∃u,h'.get? e=some u):Un fs ex H (upd H x o) h h':=by
 have hx: ∀b,H b=none->b≠x:=λb n z=>by subst z;rw [n] at mu;exact mu
 have hb: ∀b,H b=none->b≠e:=λb n z=>by
  subst z;rcases he with r|r
  ·exact hx b n r
  ·rw [n] at r;cases r
 have hm: ∀b u,H b=some u-> ¬Mut (some u)->b≠x:=λb u q nm z=>by subst z;rw [q] at mu;exact nm mu
 refine⟨λb u q n _ _=>k b u (hb b n) q,λb u q n _ _=>⟨u.slots,k b u (hb b n) q⟩,λb u q n _=>by rw [jj (hx b n)];exact n,λb u q _=> ?_,
  λb xs q=>by rw [jj (hm b _ q λz=>z)];exact q,λb u xs q=>by rw [jj (hm b _ q λz=>z)];exact q,λb ps q=>⟨#[],by rw [jj (hm b _ q λz=>z),q];simp⟩⟩
 by_cases hbe:b=e
 ·subst hbe;exact heo
 ·exact⟨u,k b u hbe q⟩
end
noncomputable def trk (h:A7)(H:Hp):G0 P2:=(P5 h.objs.size).filter λa=>(H a).isSome
noncomputable def MC (h:A7)(H:Hp):A7:=G04 h (trk h H)
def GX (h:A7)(H:Hp):(MC h H).objs.size=h.objs.size:=II _ _
def Yb {o:Obj}(e:h.get? b=some o)(n:H b=none):(MC h H).get? b=some o:=
 G0i _ e λhm=>by
  have q:(H b).isSome=true:=(B0.mp hm).2;rw [n] at q;simp at q
def Cq {o:Obj}(e:(MC h H).get? b=some o):h.get? b=some o/\H b=none:=by
 have e':h.get? b=some o:=G0o (trk h H) e;refine⟨e',?_⟩;cases q:H b with
 |none=>rfl
 |some x=>
  have hm:b∈trk h H:=B0.mpr ⟨D1.mpr (D9 e'),by simp [q]⟩;have z:(MC h H).get? b=none:=IJ (trk h H) hm;rw [z] at e;cases e
noncomputable def Cr (g h:A7)(L:P2):G0 (P2×Obj):=(P5 h.objs.size).filterMap λa=>if a=L\/(g.get? a).isSome=true then none else (h.get? a).map λo=>(a,o)
noncomputable def rest (g h:A7)(L d:P2):G0 (P2×Obj):=(Cr g h L).filter λp=>decide (p.1≠d)
structure Mod (K:G7)(mg:Str->D4 G2)(base:A7):Prop where
 kin:K.In base
 glob:base.Ns K3 mg
 blt: ∃mb,base.Ns m7 mb/\ ∀x:Str,x≠ "__name__" ->mb x=V5 x
 nolimit:base.NoLimit
structure Cx where
 prog:T7
 w:C1
 K:G7
 mg:Str->D4 G2
 base:A7
 A:N7
 N:G0 Str
 s₀:G5
 H₀:Hp
 env:Env
 outer:G0 Env
 stack:G0 Env
 ex:G0 P2
 fn:Str->N4
 calm:N4
 pn:G0 (P2×Obj)
 xe:G2->G5->Prop
noncomputable def Ζ (l:G0 Env):G0 P2:=l.filterMap (·.frame)
noncomputable abbrev Cx.fs (X:Cx):G0 P2:=Ζ X.outer
def Vis (sc:Y0)(x:Str):Prop:=sc.names.lookup x=some .local\/sc.names.lookup x=some .cell\/sc.names.lookup x=some .free
def Loc (sc:Y0)(x:Str):Prop:=sc.names.lookup x=some .local\/sc.names.lookup x=some .cell
def KI (env:Env)(h:A7)(m:Str->D4 G2)(x:Str)(u:G2):Prop:=
 (env.kindOf x=some .local/\m x=some u)\/((env.kindOf x=some .cell\/env.kindOf x=some .free)/\ ∃c,env.cells.lookup x=some c/\h.IsCell c (some u))
structure Cx.Ok (X:Cx):Prop where
 mod:Mod X.K X.mg X.base
 kind:X.env.scope.kind= .function
 glob:X.env.globals=K3
 blt:X.env.builtins=m7
 above:X.s₀.heap.objs.size<=X.env.locals
 inj: ∀x y c,X.env.cells.lookup x=some c->X.env.cells.lookup y=some c->x=y
 has: ∀x,(X.env.kindOf x=some .cell\/X.env.kindOf x=some .free)-> ∃c,X.env.cells.lookup x=some c
 cab: ∀x c,X.fn x=true->X.env.cells.lookup x=some c->X.s₀.heap.objs.size<=c
 hd:X.calm=true->X.A.handled=none
 frames:X.A.frames=some X.stack
 stk:X.stack=X.outer\/(X.stack=X.env::X.outer/\X.env.frame=some X.env.locals)
 exf: ∀b∈X.ex,b≠X.env.locals/\ ∀x c,X.env.cells.lookup x=some c->c≠b
 bs: ∀b o,X.base.get? b=some o->X.s₀.heap.get? b=some o/\X.H₀ b=none
 bsz:X.base.objs.size<=X.s₀.heap.objs.size
 noex: ∀b o,X.base.get? b=some o->b ∉ X.ex
 exfs: ∀b∈X.ex,b ∉ X.fs
 funs:X.s₀.heap.FunFrames X.base X.outer
 frf: ∀b∈X.fs,X.H₀ b=none
structure Inv (X:Cx)(À:G0 (P2×Obj))(σ:G0 (D4 V))(H:Hp)(s:G5):Prop where
 ok:X.Ok
 os:s.os=X.s₀.os
 bare:l8 s.gens
 base:Un X.fs X.ex X.H₀ H X.s₀.heap s.heap
 loc: ∃m,s.heap.Ns X.env.locals m/\ ∀ (i:G6) (x:Str) (v:V),X.N[i]? =some x->σ[i]? =some (some v)->Vis X.env.scope x-> ∃u,RelV v u/\KI X.env s.heap m x u
 cell: ∀x c,X.env.cells.lookup x=some c-> ∃v,s.heap.IsCell c v
 free:H X.env.locals=none
 freeC: ∀x c,X.env.cells.lookup x=some c->H c=none
 pin: ∀p∈X.pn++À,s.heap.get? p.1=some p.2/\H p.1=none/\p.1≠X.env.locals/\p.1 ∉ X.fs/\ ∀v,p.2.data≠ .cell v
 hok:Ē X.prog X.w H s.heap
 len:σ.length=X.N.length
section
variable {X:Cx}{À:G0 (P2×Obj)}{σ:G0 (D4 V)}{H H':Hp}{s:G5}{h':A7}
def Cx.Ok.nofr (ok:X.Ok){b:P2}{o:Obj}(e:X.base.get? b=some o):b ∉ X.fs:=λhb=>by
 have:=(ok.funs.mem hb).1;rw [e] at this;cases this
def Inv.bs (I:Inv X À σ H s): ∀b o,X.base.get? b=some o->s.heap.get? b=some o/\H b=none:=λb o e=>
 ⟨I.base.keep b o (I.ok.bs b o e).1 (I.ok.bs b o e).2 (I.ok.nofr e) (I.ok.noex b o e),I.base.free b o (I.ok.bs b o e).1 (I.ok.bs b o e).2 (I.ok.noex b o e)⟩
def Inv.bk (I:Inv X À σ H s): ∀b o,X.base.get? b=some o->s.heap.get? b=some o:=λb o e=>(I.bs b o e).1
def Inv.mod (I:Inv X À σ H s):Mod X.K X.mg X.base:=I.ok.mod
def Inv.kIn (I:Inv X À σ H s):X.K.In s.heap:=I.ok.mod.kin.keeps I.bk
def Inv.lt (I:Inv X À σ H s):X.env.locals<s.heap.objs.size:=let ⟨_,hn,_⟩:=I.loc;hn.lt
def Inv.sz (I:Inv X À σ H s):X.s₀.heap.objs.size<=s.heap.objs.size:=R8 I.ok.above (T8 I.lt)
def Inv.nofs (I:Inv X À σ H s){a:P2}(h:s.heap.objs.size<=a):a ∉ X.fs:=λhb=>by
 obtain⟨_,o,ho,_⟩:=I.ok.funs.mem hb;exact absurd (B2 (D9 ho) (R8 I.sz h)) (B8 _)
def Inv.cne (I:Inv X À σ H s): ∀x c,X.env.cells.lookup x=some c->c≠X.env.locals:=λx c e z=>by
 obtain⟨v,o,ho,hd⟩:=I.cell x c e;obtain⟨m,⟨o',es,ep,ho',hd',_⟩,_⟩:=I.loc;rw [z,ho'] at ho;cases ho;rw [hd'] at hd;cases hd
def Inv.funs (I:Inv X À σ H s):s.heap.FunFrames X.base X.outer:=by
 have all: ∀ (l:G0 Env),(∀b∈Ζ l,b∈X.fs)->X.s₀.heap.FunFrames X.base l->s.heap.FunFrames X.base l:=by
  intro l
  induction l with
  |nil=>intro _ _;trivial
  |cons env r ih=>
   intro hs hl;obtain⟨hk,⟨L,o,hf,hn,ho,hd⟩,hr⟩:=hl;have hL:L∈X.fs:=hs L (by unfold Ζ;rw [dX,hf];exact P4);obtain⟨sl,e⟩:=I.base.slot L o ho (I.ok.frf L hL) hL λz=>I.ok.exfs L z hL
   exact⟨hk,⟨L,_,hf,hn,e,hd⟩,ih (λb hb=>hs b (by unfold Ζ;rw [dX,hf];exact R1 _ hb)) hr⟩
 exact all X.outer (λ_ hb=>hb) I.ok.funs
def Inv.stack (I:Inv X À σ H s):s.heap.FunFrames X.base X.stack:=by
 rcases I.ok.stk with e|⟨e,hf⟩
 ·rw [e];exact I.funs
 ·rw [e];obtain⟨m,hn,_⟩:=I.loc;refine .cons (by rw [I.ok.kind];decide) hf hn ?_ I.funs;exact Heap.get?_none_of_le (R8 I.ok.bsz I.ok.above)
def Inv.stkSub (I:Inv X À σ H s): ∀b∈Ζ X.stack,b∈X.env.locals::X.fs:=λb hb=>by
 rcases I.ok.stk with e|⟨e,hf⟩
 ·rw [e] at hb;exact R1 _ hb
 ·rw [e] at hb;unfold Ζ at hb;rw [dX,hf] at hb;exact hb
def Inv.stkFree (I:Inv X À σ H s): ∀b∈Ζ X.stack,H b=none:=λb hb=>by
 rcases R7.mp (I.stkSub b hb) with e|hb
 ·rw [e];exact I.free
 ·obtain⟨_,o,ho,_⟩:=I.ok.funs.mem hb;exact I.base.free b o ho (I.ok.frf b hb) λz=>I.ok.exfs b z hb
variable {t':G6}
def Inv.step {g':S9 GenState}{d':Drawn}{ch:G0 P2}(I:Inv X À σ H s)
 (hch: ∀b∈ch,(b∈X.ex\/X.s₀.heap.objs.size<=b)/\b≠X.env.locals/\(∀x c,X.env.cells.lookup x=some c->c≠b)/\ ∀p∈X.pn++À,p.1≠b)
 (keep: ∀b o,b≠X.env.locals->b ∉ X.fs->b ∉ ch->s.heap.get? b=some o->H b=none->h'.get? b=some o)
 (slot: ∀b o,b≠X.env.locals->b∈X.fs->b ∉ ch->s.heap.get? b=some o->H b=none-> ∃sl,h'.get? b=some {o with slots:=sl})(free: ∀b o,b ∉ ch->s.heap.get? b=some o->H b=none->H' b=none)
 (there: ∀b o,b ∉ ch->s.heap.get? b=some o-> ∃o',h'.get? b=some o')
 (tups: ∀b xs,H b=some (.tup xs)->H' b=some (.tup xs))(frzs: ∀b o u,H b=some (.frz o u)->H' b=some (.frz o u))(tbls: ∀b ps,H b=some (.tbl ps)-> ∃more,H' b=some (.tbl (ps++more)))
 (ns: ∀m,s.heap.Ns X.env.locals m->h'.Ns X.env.locals m)(hok:Ē X.prog X.w H' h')(hg:l8 g'):
 Inv X À σ H' {s with heap:=h',gens:=g',drawn:=d',toks:=t'}:=by
 have neL: ∀b o,X.s₀.heap.get? b=some o->b≠X.env.locals:=λb o e=>M7 (B2 (D9 e) I.ok.above)
 have Τ: ∀b o,X.s₀.heap.get? b=some o->b ∉ X.ex->b ∉ ch:=λb o e hx hb=>by
  rcases (hch b hb).1 with z|z
  ·exact hx z
  ·exact absurd (B2 (D9 e) z) (B8 _)
 have cellK: ∀x c,X.env.cells.lookup x=some c-> ∀v,s.heap.IsCell c v->h'.IsCell c v:=λx c e v ⟨o,ho,hd⟩=>by
  have nch:c ∉ ch:=λz=>(hch c z).2.2.1 x c e rfl
  by_cases hc:c∈X.fs
  ·obtain⟨sl,q⟩:=slot c o (I.cne x c e) hc nch ho (I.freeC x c e);exact⟨_,q,hd⟩
  ·exact⟨o,keep c o (I.cne x c e) hc nch ho (I.freeC x c e),hd⟩
 refine⟨I.ok,I.os,hg,⟨λb o e n hb hx=> ?_,λb o e n hb hx=> ?_,λb o e n hx=> ?_,λb o e hx=> ?_,λb xs e=>tups b xs (I.base.tups b xs e),λb o xs e=>frzs b o xs (I.base.frzs b o xs e),λb ps e=> ?_⟩,?_,λx c e=> ?_,?_,λx c e=> ?_,λp hp=> ?_,hok,I.len⟩
 ·exact keep b o (neL b o e) hb (Τ b o e hx) (I.base.keep b o e n hb hx) (I.base.free b o e n hx)
 ·obtain⟨sl,e1⟩:=I.base.slot b o e n hb hx;obtain⟨ř,e2⟩:=slot b _ (neL b o e) hb (Τ b o e hx) e1 (I.base.free b o e n hx);exact⟨ř,e2⟩
 ·obtain⟨o',e1⟩:=I.base.there b o e hx;exact free b o' (Τ b o e hx) e1 (I.base.free b o e n hx)
 ·obtain⟨o',e1⟩:=I.base.there b o e hx;exact there b o' (Τ b o e hx) e1
 ·obtain⟨m1,e1⟩:=I.base.tbls b ps e;obtain⟨m2,e2⟩:=tbls b _ e1;exact⟨m1++m2,by rw [e2,Array.append_assoc]⟩
 ·obtain⟨m,hn,hl⟩:=I.loc;refine⟨m,ns m hn,λi x v e1 e2 e3=> ?_⟩;obtain⟨u,r,l⟩:=hl i x v e1 e2 e3;refine⟨u,r,?_⟩;rcases l with l|⟨k,c,e,z⟩
  ·exact .inl l
  ·exact .inr ⟨k,c,e,cellK x c e _ z⟩
 ·obtain⟨v,z⟩:=I.cell x c e;exact⟨v,cellK x c e v z⟩
 ·obtain⟨m,⟨o,_,_,ho,_⟩,_⟩:=I.loc;exact free _ o (λz=>(hch _ z).2.1 rfl) ho I.free
 ·obtain⟨v,o,ho,hd⟩:=I.cell x c e;exact free c o (λz=>(hch c z).2.2.1 x c e rfl) ho (I.freeC x c e)
 ·obtain⟨e,n,ne,nf,d⟩:=I.pin p hp;have nch:p.1 ∉ ch:=λz=>(hch p.1 z).2.2.2 p hp rfl
  exact⟨keep p.1 p.2 ne nf nch e n,free p.1 p.2 nch e n,ne,nf,d⟩
def Inv.un (I:Inv X À σ H s)(u:Un X.fs [] H H' s.heap h')(hok:Ē X.prog X.w H' h'):Inv X À σ H' {s with heap:=h',toks:=t'}:=by
 obtain⟨m,⟨o,es,ep,ho,r⟩,_⟩:=id I.loc;obtain⟨sl,hL⟩:=u.any ho I.free (by simp);exact I.step (g':=s.gens) (d':=s.drawn) (ch:= []) (λ_ z=>nomatch z) (λb o _ hb _ e n=>u.keep b o e n hb (by simp)) (λb o _ hb _ e n=>u.slot b o e n hb (by simp)) (λb o _ e n=>u.free b o e n (by simp)) (λb o _ e=>u.there b o e (by simp)) u.tups u.frzs u.tbls (λm' hm=>by
  obtain⟨o',ã,Þ,ho',r'⟩:=hm;rw [ho] at ho';cases ho';exact⟨_,ã,Þ,hL,r'⟩) hok I.bare
def Inv.call {g':S9 GenState}{d':Drawn}{ch:G0 P2}(I:Inv X À σ H s)(u:Un (Ζ X.stack) ch H H' s.heap h')(hok:Ē X.prog X.w H' h')(hg:l8 g')
 (hch: ∀b∈ch,(b∈X.ex\/X.s₀.heap.objs.size<=b)/\b≠X.env.locals/\(∀x c,X.env.cells.lookup x=some c->c≠b)/\ ∀p∈X.pn++À,p.1≠b):
 Inv X À σ H' {s with heap:=h',gens:=g',drawn:=d',toks:=t'}:=by
 obtain⟨m,⟨o,es,ep,ho,r⟩,_⟩:=id I.loc;obtain⟨sl,hL⟩:=u.any ho I.free λz=>(hch _ z).2.1 rfl
 exact I.step (ch:=ch) hch (λb o hL hb hc e n=>u.keep b o e n (λz=>(R7.mp (I.stkSub b z)).elim hL hb) hc) (λb o _ _ hc e n=>u.any e n hc) (λb o hc e n=>u.free b o e n hc) (λb o hc e=>u.there b o e hc) u.tups u.frzs u.tbls (λm' hm=>by
  obtain⟨o',ã,Þ,ho',r'⟩:=hm;rw [ho] at ho';cases ho';exact⟨_,ã,Þ,hL,r'⟩) hok hg
def Inv.turned {it:P2}(I:Inv X À σ H s)(k: ∀b o,b≠it->s.heap.get? b=some o->h'.get? b=some o)(hn:H it=none)(hL:it≠X.env.locals)
 (h1:it∈X.ex\/X.s₀.heap.objs.size<=it)(h2: ∀x c,X.env.cells.lookup x=some c->c≠it)(h3: ∀p∈X.pn++À,p.1≠it):Inv X À σ H {s with heap:=h',toks:=t'}:=by
 have nit: ∀b u,H b=some u->b≠it:=λb u e z=>by rw [z,hn] at e;cases e
 refine I.step (g':=s.gens) (d':=s.drawn) (ch:= [it]) (λb hb=> ?_) (λb o _ _ hc e _=>k b o (λz=>hc (by simp [z])) e) (λb o _ _ hc e _=>⟨o.slots,k b o (λz=>hc (by simp [z])) e⟩) (λ_ _ _ _ n=>n)
  (λb o hc e=>⟨o,k b o (λz=>hc (by simp [z])) e⟩) (λ_ _ e=>e) (λ_ _ _ e=>e) (λb ps e=>⟨#[],by rw [e];simp⟩) (λm hm=> ?_) (λb u e=> ?_) I.bare
 ·have e:b=it:=by simpa using hb
  subst e;exact⟨h1,hL,h2,h3⟩
 ·obtain⟨o,es,ep,ho,r⟩:=hm;exact⟨o,es,ep,k _ o (I0 hL) ho,r⟩
 ·refine(I.hok b u e).stay (λc v hc q=>k c v ?_ q) (λ_ q=>q) λ_ _ q=>q
  rcases hc with z|z
  ·rw [z];exact nit b u e
  ·exact nit c _ z
def Inv.tok (I:Inv X À σ H s)(t:G6):Inv X À σ H {s with toks:=t}:=I.un (h':=s.heap) (t':=t) Un.refl I.hok
def Inv.kept (I:Inv X À σ H s)(k: ∀b u,s.heap.get? b=some u->h'.get? b=some u):Inv X À σ H {s with heap:=h',toks:=t'}:=I.un (Un.kept k) (I.hok.kept k)
def Inv.laid {a:P2}{o:HO}(I:Inv X À σ H s)(k: ∀b u,s.heap.get? b=some u->h'.get? b=some u)(hp:s.heap.objs.size<=a)(new:Ø X.prog X.w (upd H a o) h' a o):
 Inv X À σ (upd H a o) {s with heap:=h',toks:=t'}:=I.un (Un.laid k hp (I.hok.fresh hp)) (I.hok.laid k hp new)
def Inv.write {x e:P2}{o:HO}(I:Inv X À σ H s)(mu:Mut (H x))(he:e=x\/H e=some (.own x))(k: ∀b u,b≠e->s.heap.get? b=some u->h'.get? b=some u)(heo: ∃u,h'.get? e=some u)
 (new:Ø X.prog X.w (upd H x o) h' x o):Inv X À σ (upd H x o) {s with heap:=h',toks:=t'}:=I.un (Un.write mu he k heo) (I.hok.write mu he k heo new)
def Inv.weak {Â:G0 (D4 V)}(I:Inv X À σ H s)(hl:Â.length=σ.length)(w: ∀ (i:G6) v,Â[i]? =some (some v)->σ[i]? =some (some v)):Inv X À Â H s:=
 ⟨I.ok,I.os,I.bare,I.base,let ⟨m,hn,hl'⟩:=I.loc;⟨m,hn,λi x v e1 e2 e3=>hl' i x v e1 (w i v e2) e3⟩,I.cell,I.free,I.freeC,I.pin,I.hok,hl.trans I.len⟩
def Inv.pins_of {X0p:G0 (P2×Obj)}(I:Inv X À σ H s)(h: ∀p∈X0p,s.heap.get? p.1=some p.2/\H p.1=none/\p.1≠X.env.locals/\p.1 ∉ X.fs/\ ∀v,p.2.data≠ .cell v):Inv X X0p σ H s:=
 ⟨I.ok,I.os,I.bare,I.base,I.loc,I.cell,I.free,I.freeC,λp hp=>(D8.mp hp).elim (λz=>I.pin p (N2 _ z)) (h p),I.hok,I.len⟩
def XU {N:G0 Str}(hN:N.Nodup){i j:G6}{x:Str}(a:N[i]? =some x)(b:N[j]? =some x):i=j:=by
 obtain⟨h1,e1⟩:=P7.mp a;obtain⟨h2,e2⟩:=P7.mp b;exact(List.getElem_inj hN).mp (e1.trans e2.symm)
def GY {M:qS}{A:N7}{E:G2->G5->Prop}{i:G6}{x:Str}{v:V}{u:G2}{Q:Unit->G5->Prop}(I:Inv X À σ H s)(hN:X.N.Nodup)(hi:X.N[i]? =some x)(hx:Loc X.env.scope x)(r:RelV v u)
 (h: ∀s',Inv X À (σ.set i (some v)) H s'->(∃a,A8 a s.heap s'.heap/\(a=X.env.locals\/X.env.cells.lookup x=some a))->Q () s')(hf:X.fn x=true\/X.env.scope.names.lookup x=some .local:=by first|exact .inl rfl|exact .inr rfl|assumption):R5 M A (xV X.env x u) Q E s:=by
 obtain⟨m,hn,hl⟩:=id I.loc;have X1i:(X.env.scope.kind== .class||(X.env.scope.kind== .module&&X.env.locals !=X.env.globals))=false:=by rw [I.ok.kind];rfl
 have X1c:i<σ.length:=by rw [I.len];exact(P7.mp hi).1
 have cne:=I.cne;have tracked: ∀ {a:P2} {h':A7},(∃o,s.heap.get? a=some o/\H a=none)->A8 a s.heap h'->Ē X.prog X.w H h':=λ{a h'} ha hs b ob e=>by
  obtain⟨_,_,X0q⟩:=ha;refine(I.hok b ob e).stay (λc w' hc q=>(hs.2 c ?_).trans q) (λ_ q=>q) λ_ _ q=>q
  rintro rfl;rcases hc with rfl|hc
  ·rw [X0q] at e;cases e
  ·rw [X0q] at hc;cases hc
 rcases hx with hk|hk
 ·refine wpAny_storeName_local hk hn (λh' hn' hs=> ?_) X1i;obtain⟨oL,_,_,hoL,_⟩:=id hn;refine h _ ⟨I.ok,I.os,I.bare,⟨λb o e n hb hx=> ?_,λb o e n hb hx=> ?_,I.base.free,λb o e hx=> ?_,I.base.tups,I.base.frzs,I.base.tbls⟩,⟨_,hn',λj y v' e1 e2 e3=> ?_⟩,λy c e=> ?_,I.free,I.freeC,λp hp=> ?_,tracked ⟨oL,hoL,I.free⟩ hs,by simpa using I.len⟩ ⟨_,hs,.inl rfl⟩
  ·exact(hs.2 b (M7 (B2 (D9 e) I.ok.above))).trans (I.base.keep b o e n hb hx)
  ·obtain⟨sl,e1⟩:=I.base.slot b o e n hb hx;exact⟨sl,(hs.2 b (M7 (B2 (D9 e) I.ok.above))).trans e1⟩
  ·obtain⟨o',e1⟩:=I.base.there b o e hx;exact⟨o',(hs.2 b (M7 (B2 (D9 e) I.ok.above))).trans e1⟩
  ·by_cases hj:j=i
   ·subst hj;rw [hi] at e1;cases e1;rw [gH X1c] at e2;cases e2;exact⟨u,r,.inl ⟨hk,by simp⟩⟩
   ·rw [Q4 (I0 hj)] at e2;obtain⟨u',r',q⟩:=hl j y v' e1 e2 e3;refine⟨u',r',?_⟩;rcases q with ⟨k,e⟩|⟨k,c,e,z⟩
    ·refine .inl ⟨k,?_⟩;have:y≠x:=λe=>hj (XU hN e1 (e ▸ hi))
     simp [this,e]
    ·exact .inr ⟨k,c,e,z.sameBut hs (cne y c e)⟩
  ·obtain⟨w',z⟩:=I.cell y c e;exact⟨w',z.sameBut hs (cne y c e)⟩
  ·obtain⟨e,n,ne,nf,d⟩:=I.pin p hp;exact⟨(hs.2 p.1 ne).trans e,n,ne,nf,d⟩
 ·have hfn:X.fn x=true:=by
   rcases hf with z|z
   ·exact z
   ·rw [z] at hk;cases hk
  obtain⟨c,hc⟩:=I.ok.has x (.inl hk);obtain⟨w',z⟩:=I.cell x c hc;refine wpAny_storeName_cell I.ok.kind hk hc z (λh' ι hs=> ?_);obtain⟨oc,hoc,X1j⟩:=id z;refine h {s with heap:=h'} ⟨I.ok,I.os,I.bare,⟨λb o e n hb hx=> ?_,λb o e n hb hx=> ?_,I.base.free,λb o e hx=> ?_,I.base.tups,I.base.frzs,I.base.tbls⟩,⟨m,hn.sameBut hs (I0 (cne x c hc)),λj y v' e1 e2 e3=> ?_⟩,λy c' e=> ?_,I.free,I.freeC,λp hp=> ?_,tracked ⟨oc,hoc,I.freeC x c hc⟩ hs,by simpa using I.len⟩ ⟨c,hs,.inr hc⟩
  ·exact(hs.2 b (M7 (B2 (D9 e) (I.ok.cab x c hfn hc)))).trans (I.base.keep b o e n hb hx)
  ·obtain⟨sl,e1⟩:=I.base.slot b o e n hb hx;exact⟨sl,(hs.2 b (M7 (B2 (D9 e) (I.ok.cab x c hfn hc)))).trans e1⟩
  ·obtain⟨o',e1⟩:=I.base.there b o e hx;exact⟨o',(hs.2 b (M7 (B2 (D9 e) (I.ok.cab x c hfn hc)))).trans e1⟩
  ·by_cases hj:j=i
   ·subst hj;rw [hi] at e1;cases e1;rw [gH X1c] at e2;cases e2;exact⟨u,r,.inr ⟨.inl hk,c,hc,ι⟩⟩
   ·rw [Q4 (I0 hj)] at e2;obtain⟨u',r',q⟩:=hl j y v' e1 e2 e3;refine⟨u',r',?_⟩;rcases q with q|⟨k,c',e,z'⟩
    ·exact .inl q
    ·refine .inr ⟨k,c',e,z'.sameBut hs ?_⟩;rintro rfl;exact hj (XU hN e1 (I.ok.inj _ _ _ e hc ▸ hi))
  ·by_cases hcc:c'=c
   ·subst hcc;exact⟨_,ι⟩
   ·obtain⟨w2,z2⟩:=I.cell y c' e;exact⟨w2,z2.sameBut hs hcc⟩
  ·obtain⟨e,n,ne,nf,d⟩:=I.pin p hp;refine⟨(hs.2 p.1 ?_).trans e,n,ne,nf,d⟩;intro q;rw [q,hoc] at e;have q':oc=p.2:=A2 e;exact d w' (by rw [<-q'];exact X1j)
def vO {M:qS}{A:N7}{E:G2->G5->Prop}{i:G6}{x:Str}{v:V}{u:G2}{Q:Unit->G5->Prop}(I:Inv X À σ H s)(hN:X.N.Nodup)(hi:X.N[i]? =some x)(hx:Loc X.env.scope x)(r:RelV v u)
 (h: ∀s',Inv X À (σ.set i (some v)) H s'->Q () s')(hf:X.fn x=true\/X.env.scope.names.lookup x=some .local:=by first|exact .inl rfl|exact .inr rfl|assumption):R5 M A (xV X.env x u) Q E s:=
 GY I hN hi hx r (λs' I' _=>h s' I') hf
def Inv.call' {s':G5}{ch:G0 P2}(I:Inv X À σ H s)(ho:s'.os=s.os)(u:Un (Ζ X.stack) ch H H' s.heap s'.heap)(hok:Ē X.prog X.w H' s'.heap)(hg:l8 s'.gens)
 (hch: ∀b∈ch,(b∈X.ex\/X.s₀.heap.objs.size<=b)/\b≠X.env.locals/\(∀x c,X.env.cells.lookup x=some c->c≠b)/\ ∀p∈X.pn++À,p.1≠b):Inv X À σ H' s':=by
 obtain⟨h',g',d',t',o'⟩:=s';have e:o'=s.os:=ho;subst e;exact I.call (g':=g') (t':=t') (d':=d') u hok hg hch
end
abbrev XK:=G2->D4 P2->Hp->Prop
abbrev St:=G0 (D4 V)
abbrev VK:=V->Hp->Prop
abbrev TE:=St->Hp->VK->Prop
abbrev TT:=St->Hp->(N4->Hp->Prop)->Prop
abbrev TA:=St->Hp->(G0 V->Hp->Prop)->Prop
structure Η where
 nx:St->Hp->Prop
 rt:VK
 bk:St->Hp->Prop:=λ_ _=>False
 ct:St->Hp->Prop:=λ_ _=>False
abbrev TS:=Η->St->Hp->Prop
def EP (X:Cx)(À:G0 (P2×Obj))(σ:St)(Q:VK)(u:G2)(s':G5):Prop:= ∃v H',Inv X À σ H' s'/\RelV v u/\Q v H'
def TP (X:Cx)(À:G0 (P2×Obj))(σ:St)(Q:N4->Hp->Prop)(b:N4)(s':G5):Prop:= ∃H',Inv X À σ H' s'/\Q b H'
def AP (X:Cx)(À:G0 (P2×Obj))(σ:St)(Q:G0 V->Hp->Prop)(us:G0 G2)(s':G5):Prop:= ∃vs H',Inv X À σ H' s'/\Ç vs us/\Q vs H'
def SP (X:Cx)(À:G0 (P2×Obj))(D:Η)(f:Flow)(s':G5):Prop:=
 match f with
 | .next=> ∃Â H',Inv X À Â H' s'/\D.nx Â H'
 | .brk=> ∃Â H',Inv X À Â H' s'/\D.bk Â H'
 | .cont=> ∃Â H',Inv X À Â H' s'/\D.ct Â H'
 | .ret u=> ∃v Â H',Inv X À Â H' s'/\RelV v u/\D.rt v H'
def PE (X:Cx)(e:N3)(t:TE):Prop:=
 ∀ (À:G0 (P2×Obj)) (s:G5) (σ:St) (H:Hp) (Q:VK),Inv X À σ H s->t σ H Q->R5 (S0 X.prog X.w) X.A (K0 e X.env) (EP X À σ Q) X.xe s
def PT (X:Cx)(e:N3)(t:TT):Prop:=
 ∀ (À:G0 (P2×Obj)) (s:G5) (σ:St) (H:Hp) (Q:N4->Hp->Prop),Inv X À σ H s->t σ H Q->R5 (S0 X.prog X.w) X.A (isTrue e X.env (K0 e X.env)) (TP X À σ Q) X.xe s
def PW (X:Cx)(e:N3)(t:TT):Prop:=
 ∀ (whole:Sem G2) (À:G0 (P2×Obj)) (s:G5) (σ:St) (H:Hp) (Q:N4->Hp->Prop),Inv X À σ H s->t σ H Q->R5 (S0 X.prog X.w) X.A (isTrue e X.env whole) (TP X À σ Q) X.xe s
variable {X:Cx}
def PW.pt {e:N3}{t:TT}(h:PW X e t):PT X e t:=h _
def PA (X:Cx)(es:G0 N3)(t:TA):Prop:=
 ∀ (pos:Pos) (À:G0 (P2×Obj)) (s:G5) (σ:St) (H:Hp) (Q:G0 V->Hp->Prop),Inv X À σ H s->t σ H Q->R5 (S0 X.prog X.w) X.A (spliced (U8 pos (S5 es X.env))) (AP X À σ Q) X.xe s
def PS (X:Cx)(st:Q2)(t:TS):Prop:=
 ∀ (À:G0 (P2×Obj)) (s:G5) (σ:St) (H:Hp) (D:Η),Inv X À σ H s->t D σ H->R5 (S0 X.prog X.w) X.A (exec st X.env) (SP X À D) X.xe s
def Ś (X:Cx)(st:G0 Q2)(t:TS):Prop:=
 ∀ (À:G0 (P2×Obj)) (s:G5) (σ:St) (H:Hp) (D:Η),Inv X À σ H s->t D σ H->R5 (S0 X.prog X.w) X.A (execs st X.env) (SP X À D) X.xe s
variable {A:N7}{s:G5}
def Ô {α:Type}{t:Sem α}{Q Q':α->G5->Prop}{M:qS}{E:G2->G5->Prop}(h:R5 M A t Q E s)(hQ: ∀a s,Q a s->Q' a s):R5 M A t Q' E s:=M5 h hQ λ_ _ x=>x
section
variable {X:Cx}
def bin {a b:N3}{ta tb:TE}(ha:PE X a ta)(hb:PE X b tb){À:G0 (P2×Obj)}{s:G5}{σ:St}{H:Hp}{R:V->V->Hp->Prop}(I:Inv X À σ H s)(h:ta σ H λx H1=>tb σ H1 λy H2=>R x y H2)
 {α:Type}{Q:α->G5->Prop}{f:G2->G2->Sem α}
 (hf: ∀v u s2 x y H2,Inv X À σ H2 s2->RelV x v->RelV y u->R x y H2->R5 (S0 X.prog X.w) X.A (f v u) Q X.xe s2):
 R5 (S0 X.prog X.w) X.A (K0 a X.env) (λv s₁=>R5 (S0 X.prog X.w) X.A (K0 b X.env) (λu s₂=>R5 (S0 X.prog X.w) X.A (f v u) Q X.xe s₂) X.xe s₁) X.xe s:=by
 refine Ô (ha À s σ H _ I h) λv s1 ⟨x,H1,I1,r1,q1⟩=> ?_
 refine Ô (hb À s1 σ H1 _ I1 q1) λu s2 ⟨y,H2,I2,r2,q2⟩=> ?_
 exact hf v u s2 x y H2 I2 r1 r2 q2
def SR (i:G6):TE:=λσ H Q=> ∃v,σ[i]? =some (some v)/\Q v H
def tC (v:V):TE:=λ_ H Q=>Q v H
variable {x:Str}
def Bv {i:G6}{pos:Pos}(hN:X.N[i]? =some x)(hv:Vis X.env.scope x)(hd:(x==("__debug__" :Str))=false:=by decide)(hcd:(x==("__classdict__" :Str))=false:=by decide):PE X (.Name x pos) (SR i):=by
 intro À s σ H Q I h;obtain⟨v,e,h⟩:=h;obtain⟨m,hn,hl⟩:=I.loc;obtain⟨u,r,l⟩:=hl i x v hN e hv;have fin:EP X À σ Q u s:=⟨v,H,I,r,h⟩;rcases l with ⟨hk,hm⟩|⟨hk,c,hc,Ĝ⟩
 ·exact uB (oO I.ok.kind hk hn hm fin) hd
 ·rcases hk with hk|hk
  ·exact uB (pT I.ok.kind hk hc Ĝ fin) hd
  ·exact uB (wpAny_loadName_free I.ok.kind hk hc Ĝ fin hcd) hd
def X0r {i j pos}:PE X (.Constant (.int i) j pos) (tC (.int i)):=λ_ _ _ H _ I h=>wpAny_Constant_int ⟨.int i,H,I.tok _,⟨_,rfl⟩,h⟩
def X0N {b j pos}:PE X (.Constant (.bool b) j pos) (tC (.bl b)):=λ_ _ _ H _ I h=>Constant_bool ⟨.bl b,H,I,rfl,h⟩
def X0s {j pos}:PE X (.Constant .none j pos) (tC .non):=λ_ _ _ H _ I h=>Constant_none ⟨.non,H,I,rfl,h⟩
def Gl (X:Cx)(x:Str):Prop:=X.env.kindOf x=some .globalImplicit
variable {u:G2}
def GZ {E:G2->G5->Prop}{À:G0 (P2×Obj)}{s:G5}{σ:St}{H:Hp}{pos:Pos}{Q:G2->G5->Prop}(I:Inv X À σ H s)(hg:Gl X x)(hm:X.mg x=some u)(h:Q u s)
 (hd:(x==("__debug__" :Str))=false:=by decide):R5 (S0 X.prog X.w) X.A (K0 (.Name x pos) X.env) Q E s:=
 Calls.Name_function_global I.ok.kind hg (Calls.loadGlobal_global (by rw [I.ok.glob];exact I.mod.glob.keeps I.bk) hm h) hd
def Vs {E:G2->G5->Prop}{À:G0 (P2×Obj)}{s:G5}{σ:St}{H:Hp}{pos:Pos}{Q:G2->G5->Prop}(I:Inv X À σ H s)(hg:Gl X x)(hm:X.mg x=none)(hv:V5 x=some u)(h:Q u s)
 (hn:x≠ "__name__" :=by decide)(hd:(x==("__debug__" :Str))=false:=by decide):R5 (S0 X.prog X.w) X.A (K0 (.Name x pos) X.env) Q E s:=by
 obtain⟨mb,h1,h2⟩:=I.mod.blt;exact Calls.Name_function_global I.ok.kind hg (Calls.loadGlobal_builtin (by rw [I.ok.glob];exact I.mod.glob.keeps I.bk) hm (by rw [I.ok.blt];exact h1.keeps I.bk) ((h2 x hn).trans hv) h) hd
def Cs {v:V}{pos:Pos}(hg:Gl X x)(hm:X.mg x=some u)(r:RelV v u)(hd:(x==("__debug__" :Str))=false:=by decide):PE X (.Name x pos) (tC v):=
 λ_ _ _ H _ I h=>GZ I hg hm ⟨v,H,I,r,h⟩ hd
def Ct {v:V}{pos:Pos}(hg:Gl X x)(hm:X.mg x=none)(hv:V5 x=some u)(r:RelV v u)(hn:x≠ "__name__" :=by decide)(hd:(x==("__debug__" :Str))=false:=by decide):PE X (.Name x pos) (tC v):=
 λ_ _ _ H _ I h=>Vs I hg hm hv ⟨v,H,I,r,h⟩ hn hd
variable {a b:N3}{ta tb:TE}{pos:Pos}
def tB (t:TE):TT:=λσ H Q=>t σ H λx H1=> ∃c,x= .bl c/\Q c H1
def Oy {e:N3}{t:TE}(h:PE X e t)(he: ∀whole,isTrue e X.env whole=(do let v <-whole;fO e.pos;Z8 [v] (m8 v)):=by intro _;rfl):PT X e (tB t):=by
 intro À s σ H Q I hw;refine qT (Ô (h À s σ H _ I hw) λv s1 ⟨x,H1,I1,r1,q1⟩=> ?_) (he _);obtain⟨d,rfl,q⟩:=q1;cases r1;exact K1 ⟨H1,I1,q⟩
variable {tA tB':TT}{rest:G0 N3}
def HJ (t u:TT):TT:=λσ H Q=>t σ H λc H1=>if c=true then u σ H1 Q else Q false H1
def tOr (t u:TT):TT:=λσ H Q=>t σ H λc H1=>if c=true then Q true H1 else u σ H1 Q
def HK (t:TT):TT:=λσ H Q=>t σ H λc H1=>Q (!c) H1
def Cu (ha:PT X a tA):PW X (.BoolOp .And [a] pos) tA:=by
 intro wh À s σ H Q I h;refine G0p (Ô (ha À s σ H Q I h) λc s1 e=> ?_);cases c with
 |true=>exact isTrue_and_nil e
 |false=>exact e
def Oz (ha:PT X a tA):PW X (.BoolOp .Or [a] pos) tA:=by
 intro wh À s σ H Q I h;refine isTrue_or (Ô (ha À s σ H Q I h) λc s1 e=> ?_);cases c with
 |false=>exact isTrue_or_nil e
 |true=>exact e
def OA (ha:PT X a tA)(hb:PW X (.BoolOp .And (b::rest) pos) tB'):PW X (.BoolOp .And (a::b::rest) pos) (HJ tA tB'):=by
 intro wh À s σ H Q I h;refine G0p (Ô (ha À s σ H _ I h) λc s1 ⟨H1,I1,q1⟩=> ?_);cases c with
 |true=>exact hb wh À s1 σ H1 Q I1 q1
 |false=>exact⟨H1,I1,q1⟩
def SS (ha:PT X a tA)(hb:PW X (.BoolOp .Or (b::rest) pos) tB'):PW X (.BoolOp .Or (a::b::rest) pos) (tOr tA tB'):=by
 intro wh À s σ H Q I h;refine isTrue_or (Ô (ha À s σ H _ I h) λc s1 ⟨H1,I1,q1⟩=> ?_);cases c with
 |true=>exact⟨H1,I1,q1⟩
 |false=>exact hb wh À s1 σ H1 Q I1 q1
def OB (ha:PT X a tA):PT X (.UnaryOp .Not a pos) (HK tA):=by
 intro À s σ H Q I h;exact isTrue_not (ha À s σ H (λc H1=>Q (!c) H1) I h)
def OC (ta tb:TE):TE:=λσ H Q=>ta σ H λx H1=> ∃c,x= .bl c/\if c=true then tb σ H1 Q else Q (.bl false) H1
def HL (ta tb:TE):TE:=λσ H Q=>ta σ H λx H1=> ∃c,x= .bl c/\if c=true then Q (.bl true) H1 else tb σ H1 Q
def OD (ta:TE):TE:=λσ H Q=>ta σ H λx H1=> ∃c,x= .bl c/\Q (.bl (!c)) H1
def OE {op}{t:TE}(h:PE X a t):PE X (.BoolOp op [a] pos) t:=λÀ s σ H Q I hw=>BoolOp_one (h À s σ H Q I hw)
def OF (ha:PE X a ta)(hb:PE X (.BoolOp .And (b::rest) pos) tb):PE X (.BoolOp .And (a::b::rest) pos) (OC ta tb):=by
 intro À s σ H Q I h;refine BoolOp_and (Ô (ha À s σ H _ I h) λv s1 ⟨x,H1,I1,r1,q1⟩=> ?_);obtain⟨c,rfl,q1⟩:=q1;cases r1;refine K1 ?_;cases c with
 |true=>exact hb À s1 σ H1 Q I1 q1
 |false=>exact⟨.bl false,H1,I1,rfl,q1⟩
def ST (ha:PE X a ta)(hb:PE X (.BoolOp .Or (b::rest) pos) tb):PE X (.BoolOp .Or (a::b::rest) pos) (HL ta tb):=by
 intro À s σ H Q I h;refine BoolOp_or (Ô (ha À s σ H _ I h) λv s1 ⟨x,H1,I1,r1,q1⟩=> ?_);obtain⟨c,rfl,q1⟩:=q1;cases r1;refine K1 ?_;cases c with
 |false=>exact hb À s1 σ H1 Q I1 q1
 |true=>exact⟨.bl true,H1,I1,rfl,q1⟩
def OG (ha:PE X a ta):PE X (.UnaryOp .Not a pos) (OD ta):=by
 intro À s σ H Q I h;refine UnaryOp_ (Ô (ha À s σ H _ I h) λv s1 ⟨x,H1,I1,r1,q1⟩=> ?_);obtain⟨c,rfl,q1⟩:=q1;cases r1;exact not_of (K1 ⟨.bl (!c),H1,I1,rfl,q1⟩)
def tIf (t:TT)(ta tb:TE):TE:=λσ H Q=>t σ H λc H1=>if c=true then ta σ H1 Q else tb σ H1 Q
def MD {c:N3}(hc:PT X c tA)(ha:PE X a ta)(hb:PE X b tb):PE X (.IfExp c a b pos) (tIf tA ta tb):=by
 intro À s σ H Q I h;refine wpAny_IfExp (Ô (hc À s σ H _ I h) λd s1 ⟨H1,I1,q1⟩=> ?_);cases d with
 |true=>exact ha À s1 σ H1 Q I1 q1
 |false=>exact hb À s1 σ H1 Q I1 q1
end
def è (K:G7)(H:Hp)(a:P2)(xs:G0 V):Prop:=
 Rd H a (.lst xs)\/
  ∃ (o:Obj) (its:S9 G2) (n:G6),K.lookup a=some o/\o.cls= .type "list" /\o.dict=none/\o.data= .seq its n/\its.size<=sizeLine/\Ç xs its.toList
def ö (K:G7)(H:Hp)(a:P2)(xs:G0 V):Prop:=
 Rd H a (.tup xs)\/
  ∃ (o:Obj) (its:S9 G2) (n:G6),K.lookup a=some o/\o.cls= .type "tuple" /\o.data= .seq its n/\its.size<=sizeLine/\Ç xs its.toList
noncomputable def KJ:G2->D4 V
 | .none=>some .non
 | .bool b=>some (.bl b)
 | .int i _=>some (.int i)
 | .str x _=>some (.str x)
 | .bytes b _=>some (.byt b)
 | .float b _=>some (.flt b)
 | .ref a=>some (.ref a)
 | .type n=>some (.ty n)
 |_=>none
def RelV.abs {x:V}(r:RelV x u):KJ u=some x:=by
 cases x with
 |non=>cases r;rfl
 |bl _=>cases r;rfl
 |int _=>obtain⟨t,rfl⟩:=r;rfl
 |str _=>obtain⟨t,rfl⟩:=r;rfl
 |byt _=>obtain⟨t,rfl⟩:=r;rfl
 |flt _=>obtain⟨t,rfl⟩:=r;rfl
 |ref _=>cases r;rfl
 |ty _=>cases r;rfl
def RelV.inj {x y:V}(r:RelV x u)(q:RelV y u):x=y:=A2 (r.abs.symm.trans q.abs)
def Ç.inj: ∀ {xs ys:G0 V} {us:G0 G2},Ç xs us->Ç ys us->xs=ys
 |_,_,_,.nil,.nil=>rfl
 |_,_,_,.cons r t,.cons r' t'=>by rw [r.inj r',Ç.inj t t']
section
variable {X:Cx}{À:G0 (P2×Obj)}{σ:St}{H:Hp}{s:G5}{a:P2}{xs ys:G0 V}
def è.of {K:G7}(h:H a=some (.lst xs)):è K H a xs:= .inl (.inl h)
def ö.of {K:G7}(h:H a=some (.tup xs)):ö K H a xs:= .inl (.inl h)
def Inv.list (I:Inv X À σ H s)(h:è X.K H a xs): ∃its:G0 G2,Ç xs its/\PlainL s.heap a its.toArray/\xs.length<=sizeLine:=by
 rcases h with h|⟨o,its,n,hk,hc,hd,hs,hz,r⟩
 ·obtain⟨z,its,n,r,e⟩:=h.ok I.hok;exact⟨its,r,⟨_,n,e,rfl,rfl,rfl⟩,z⟩
 ·refine⟨its.toList,r,⟨o,n,I.kIn a o hk,hc,hd,by simpa using hs⟩,?_⟩;have e:=r.length;simp only [D3] at e;omega
def Inv.tuple (I:Inv X À σ H s)(h:ö X.K H a xs): ∃its:G0 G2,Ç xs its/\IH s.heap a its.toArray/\xs.length<=sizeLine:=by
 rcases h with h|⟨o,its,n,hk,hc,hs,hz,r⟩
 ·obtain⟨z,its,r,p⟩:=h.ok I.hok;exact⟨its,r,p.tup,z⟩
 ·refine⟨its.toList,r,⟨o,I.kIn a o hk,hc,n,by simpa using hs⟩,?_⟩;have e:=r.length;simp only [D3] at e;omega
def Inv.list_inj (I:Inv X À σ H s)(h:è X.K H a xs)(h':è X.K H a ys):xs=ys:=by
 obtain⟨its,r,⟨o,n,e,_,_,d⟩,_⟩:=I.list h;obtain⟨its',r',⟨o',n',e',_,_,d'⟩,_⟩:=I.list h';rw [e] at e';cases e';rw [d] at d';injection d' with d1 _
 have:its=its':=by simpa using congrArg qU d1
 subst this;exact r.inj r'
def Inv.tuple_inj (I:Inv X À σ H s)(h:ö X.K H a xs)(h':ö X.K H a ys):xs=ys:=by
 obtain⟨its,r,⟨o,e,_,n,d⟩,_⟩:=I.tuple h;obtain⟨its',r',⟨o',e',_,n',d'⟩,_⟩:=I.tuple h';rw [e] at e';cases e';rw [d] at d';injection d' with d1 _
 have:its=its':=by simpa using congrArg qU d1
 subst this;exact r.inj r'
end
noncomputable abbrev Cx.wish (X:Cx)(E:G2->G5->Prop):Cx:= {X with xe:=E}
noncomputable abbrev Cx.nox (X:Cx):Cx:=X.wish λ_ _=>False
def Cx.Ok.wish (ok:X.Ok)(E:G2->G5->Prop):(X.wish E).Ok:=
 ⟨ok.mod,ok.kind,ok.glob,ok.blt,ok.above,ok.inj,ok.has,ok.cab,ok.hd,ok.frames,ok.stk,ok.exf,ok.bs,ok.bsz,ok.noex,ok.exfs,ok.funs,ok.frf⟩
def Cx.Ok.unwish {E:G2->G5->Prop}(ok:(X.wish E).Ok):X.Ok:=
 ⟨ok.mod,ok.kind,ok.glob,ok.blt,ok.above,ok.inj,ok.has,ok.cab,ok.hd,ok.frames,ok.stk,ok.exf,ok.bs,ok.bsz,ok.noex,ok.exfs,ok.funs,ok.frf⟩
section
variable {X:Cx}{À:G0 (P2×Obj)}{σ:St}{H:Hp}{s:G5}{E:G2->G5->Prop}
def Inv.wish (I:Inv X À σ H s)(E:G2->G5->Prop):Inv (X.wish E) À σ H s:=⟨I.ok.wish E,I.os,I.bare,I.base,I.loc,I.cell,I.free,I.freeC,I.pin,I.hok,I.len⟩
def Inv.unwish (I:Inv (X.wish E) À σ H s):Inv X À σ H s:=⟨I.ok.unwish,I.os,I.bare,I.base,I.loc,I.cell,I.free,I.freeC,I.pin,I.hok,I.len⟩
def SP.unwish {D:Η}{f:Flow}{s':G5}(h:SP (X.wish E) À D f s'):SP X À D f s':=by
 cases f with
 |next=>obtain⟨Â,H',I,q⟩:=h;exact⟨Â,H',I.unwish,q⟩
 |brk=>obtain⟨Â,H',I,q⟩:=h;exact⟨Â,H',I.unwish,q⟩
 |cont=>obtain⟨Â,H',I,q⟩:=h;exact⟨Â,H',I.unwish,q⟩
 |ret u=>obtain⟨v,Â,H',I,r,q⟩:=h;exact⟨v,Â,H',I.unwish,r,q⟩
def Ś.nox {st:G0 Q2}{t:TS}(h:Ś X.nox st t):Ś X st t:=λÀ s σ H D I hw=>
 M5 (h À s σ H D (I.wish _) hw) (λ_ _ q=>q.unwish) λ_ _ z=>False.elim z
end
section
variable {X:Cx}{st:Q2}{rest:G0 Q2}{t u:TS}{e:N3}{te:TE}{pos:Pos}
def OH:TS:=λD σ H=>D.nx σ H
def HM (t u:TS):TS:=λD σ H=>t {D with nx:=u D} σ H
def X0c:Ś X [] OH:=λ_ _ σ H _ I h=>iR ⟨σ,H,I,h⟩
def ME (h1:PS X st t)(h2:Ś X rest u):Ś X (st::rest) (HM t u):=by
 intro À s σ H D I h;refine sD (Ô (h1 À s σ H {D with nx:=u D} I h) λf s1 q=> ?_);cases f with
 |next=>
  obtain⟨Â,H',I',q⟩:=q;exact h2 À s1 Â H' D I' q
 |ret v=>exact q
 |brk=>exact q
 |cont=>exact q
def Cv (h1:PS X st t):Ś X [st] t:=by
 intro À s σ H D I h;refine sD (Ô (h1 À s σ H D I h) λf s1 q=> ?_);cases f with
 |next=>exact iR q
 |ret v=>exact q
 |brk=>exact q
 |cont=>exact q
def Inv.quiet {À:G0 (P2×Obj)}{σ:St}{H:Hp}{s:G5}(I:Inv X À σ H s):IK X.env=false:=by simp [IK,I.ok.kind]
def OI (te:TE):TS:=λD σ H=>te σ H λ_ H1=>D.nx σ H1
def Cw (he:PE X e te)(hs:X7 e none pos.line X.env=pure false:=by rfl):PS X (.Expr e pos) (OI te):=by
 intro À s σ H D I h;exact wpAny_Expr_any (Ô (he À s σ H _ I h) λv s1 ⟨x,H1,I1,r1,q1⟩=>⟨σ,H1,I1,q1⟩) I.quiet hs
def HN (te:TE):TS:=λD σ H=>te σ H D.rt
def OJ (he:PE X e te):PS X (.Return (some e) pos) (HN te):=by
 intro À s σ H D I h;exact wpAny_Return_some (Ô (he À s σ H _ I h) λv s1 ⟨x,H1,I1,r1,q1⟩=>⟨x,σ,H1,I1,r1,q1⟩)
def HP (c:TT)(t u:TS):TS:=λD σ H=>c σ H λb H1=>if b=true then t D σ H1 else u D σ H1
def SU {c:N3}{a b:G0 Q2}{tc:TT}(hc:PT X c tc)(ha:Ś X a t)(hb:Ś X b u):PS X (.If c a b pos) (HP tc t u):=by
 intro À s σ H D I h;refine wpAny_If (Ô (hc À s σ H _ I h) λd s1 ⟨H1,I1,q1⟩=> ?_);cases d with
 |true=>exact ha À s1 σ H1 D I1 q1
 |false=>exact hb À s1 σ H1 D I1 q1
end
abbrev TG:=V->St->Hp->(St->Hp->Prop)->Prop
abbrev TGs:=G0 V->St->Hp->(St->Hp->Prop)->Prop
def PG (X:Cx)(target:N3)(t:TG):Prop:=
 ∀ (À:G0 (P2×Obj)) (s:G5) (σ:St) (H:Hp) (v:V) (u:G2) (Q:St->Hp->Prop),Inv X À σ H s->RelV v u->t v σ H Q->
  R5 (S0 X.prog X.w) X.A (dY target X.env u) (λ_ s'=> ∃Â H',Inv X À Â H' s'/\Q Â H') X.xe s
def PGs (X:Cx)(ts:G0 N3)(t:TGs):Prop:=
 ∀ (À:G0 (P2×Obj)) (s:G5) (σ:St) (H:Hp) (vs:G0 V) (us:G0 G2) (Q:St->Hp->Prop),Inv X À σ H s->Ç vs us->t vs σ H Q->
  R5 (S0 X.prog X.w) X.A (p5 ((fX ts X.env).map (·.2)) us) (λ_ s'=> ∃Â H',Inv X À Â H' s'/\Q Â H') X.xe s
abbrev SV:=V->V->V->Hp->(Hp->Prop)->Prop
def HQ (X:Cx)(t:SV):Prop:=
 ∀ (À:G0 (P2×Obj)) (s:G5) (σ:St) (H:Hp) (o i v:V) (ov iv u:G2) (Q:Hp->Prop),Inv X À σ H s->RelV o ov->RelV i iv->RelV v u->t o i v H Q->
  R5 (S0 X.prog X.w) X.A (tX ov iv u) (λ_ s'=> ∃H',Inv X À σ H' s'/\Q H') X.xe s
abbrev TIp:=V->V->Hp->VK->Prop
def PIp (X:Cx)(op:qV)(t:TIp):Prop:=
 ∀ (À:G0 (P2×Obj)) (s:G5) (σ:St) (H:Hp) (x y:V) (v u:G2) (Q:VK),Inv X À σ H s->RelV x v->RelV y u->t x y H Q->
  R5 (S0 X.prog X.w) X.A (inplaceOp op v u) (EP X À σ Q) X.xe s
section
variable {X:Cx}{pos:Pos}
def wq (i:G6):TG:=λv σ H Q=>Q (σ.set i (some v)) H
variable {i:G6}{x:Str}
def yu (hN:X.N.Nodup)(hi:X.N[i]? =some x)(hx:Loc X.env.scope x)(hf:X.fn x=true\/X.env.scope.names.lookup x=some .local:=by first|exact .inl rfl|exact .inr rfl|assumption):PG X (.Name x pos) (wq i):=by
 intro À s σ H v u Q I r h;exact wpAny_assign_Name (vO I hN hi hx r (λs' I'=>⟨_,H,I',h⟩) hf)
def SA:TGs:=λvs σ H Q=>vs= []/\Q σ H
def UO (t:TG)(u:TGs):TGs:=λvs σ H Q=> ∃v r,vs=v::r/\t v σ H λÂ H'=>u r Â H' Q
def UP:PGs X [] SA:=by
 intro À s σ H vs us Q I r h;obtain⟨e,h⟩:=h;subst e;cases r;exact qW ⟨σ,H,I,h⟩
variable {e:N3}
def yV {es:G0 N3}{t:TG}{u:TGs}(h1:PG X e t)(h2:PGs X es u)
 (hs:(fX (e::es) X.env).map (·.2)=dY e X.env::(fX es X.env).map (·.2):=by rfl):PGs X (e::es) (UO t u):=by
 intro À s σ H vs us Q I r h;obtain⟨v,vr,e1,h⟩:=h;subst e1;cases r with
 |cons r rr=>
  rw [hs];refine i5 (Ô (h1 À s σ H _ _ _ I r h) λ_ s1 ⟨σ1,H1,I1,q1⟩=> ?_);exact h2 À s1 σ1 H1 _ _ Q I1 rr q1
def SB (K:G7)(n:G6)(t:TGs):TG:=λv σ H Q=> ∃a xs,v= .ref a/\ö K H a xs/\xs.length=n/\t xs σ H Q
def Pa {es:G0 N3}{k:G6}{t:TGs}{n:G6}(hc:X.calm=true)(h:PGs X es t)
 (hn:(fX es X.env).length=n:=by rfl)(hst:(fX es X.env).findIdx? (·.1)=none:=by rfl):PG X (.Tuple es k pos) (SB X.K n t):=by
 intro À s σ H v u Q I r hw;obtain⟨a,xs,e1,hq,hl,hw⟩:=hw;subst e1;cases r;obtain⟨its,rv,ht,hz⟩:=I.tuple hq;refine assign_Tuple_tuple (I.ok.hd hc) ht (by simp [hn,<-hl,rv.length]) hst λh' hx=> ?_
 have I1:Inv X À σ H {s with heap:=h'}:=I.kept (t':=s.toks) λb o e=>hx b o (M7 (D9 e)) e
 exact h À _ σ H xs _ Q I1 (by simpa using rv) hw
def KK (to ti:TE)(t:SV):TG:=λv σ H Q=>to σ H λo H1=>ti σ H1 λi H2=>t o i v H2 λH3=>Q σ H3
def OK {o i:N3}{to ti:TE}{t:SV}(ho:PE X o to)(hi:PE X i ti)(hs:HQ X t)
 (ha: ∀v,dY (.Subscript o i pos) X.env v=(do
  let ov <-Z8 [v] (K0 o X.env)
  let iv <-Z8 [v,ov] (K0 i X.env)
  fO pos
  Z8 [v,ov,iv] (tX ov iv v)
  G0J [v,ov,iv] []):=by intro _;rfl):PG X (.Subscript o i pos) (KK to ti t):=by
 intro À s σ H v u Q I r h;rw [ha];refine wpAny_bind (O8 (Ô (ho À s σ H _ I h) λov s1 ⟨x,H1,I1,r1,q1⟩=> ?_));refine wpAny_bind (O8 (Ô (hi À s1 σ H1 _ I1 q1) λiv s2 ⟨y,H2,I2,r2,q2⟩=> ?_));refine wpAny_bind (Z9 (wpAny_bind (O8 (Ô (hs À s2 σ H2 x y v ov iv u _ I2 r1 r2 r q2) λ_ s3 ⟨H3,I3,q3⟩=> ?_))));exact wpAny_release ⟨σ,H3,I3,q3⟩
def MF (te:TE)(g:TG):TS:=λD σ H=>te σ H λx H1=>g x σ H1 D.nx
def OL {tg:N3}{te:TE}{g:TG}(he:PE X e te)(hg:PG X tg g)(hs:e6 [tg] e pos.line X.env=pure false:=by rfl)(hw:e7 [tg] e X.env=pure none:=by rfl)
 (h1:(fX [tg] X.env).map (·.2)= [dY tg X.env]:=by rfl):PS X (.Assign [tg] e pos) (MF te g):=by
 intro À s σ H D I h;refine wpAny_Assign_stores (Ô (he À s σ H _ I h) λv s1 ⟨x,H1,I1,r1,q1⟩=> ?_) hs hw;rw [h1];exact Ô (hg À s1 σ H1 x v _ I1 r1 q1) λ_ s2 q=>q
def OM {te:TE}{pos':Pos}(hN:X.N.Nodup)(hi:X.N[i]? =some x)(hx:Loc X.env.scope x)(he:PE X e te)(hs:X7 e (some (.Name x pos')) pos.line X.env=pure false:=by rfl)(hf:X.fn x=true\/X.env.scope.names.lookup x=some .local:=by first|exact .inl rfl|exact .inr rfl|assumption):
 PS X (.Assign [.Name x pos'] e pos) (MF te (wq i)):=by
 intro À s σ H D I h;refine wpAny_Assign_Name (Ô (he À s σ H _ I h) λv s1 ⟨y,H1,I1,r1,q1⟩=> ?_) hs;exact vO I1 hN hi hx r1 (λs2 I2=>⟨_,H1,I2,q1⟩) hf
def HR (i j:G6)(ta:TA):TS:=λD σ H=>ta σ H λvs H1=> ∃v w,vs= [v,w]/\D.nx ((σ.set i (some v)).set j (some w)) H1
def ON {j:G6}{y:Str}{a b:N3}{ta:TA}{px py pt:Pos}{kt k2 μ}(hc:X.calm=true)(hN:X.N.Nodup)(hi:X.N[i]? =some x)(hj:X.N[j]? =some y)(hij:i≠j)
 (hx:X.env.scope.names.lookup x=some .local)(hy:X.env.scope.names.lookup y=some .local)(ha:PA X [a,b] ta)
 (hw:e7 [.Tuple [.Name x px,.Name y py] kt pt] (.Tuple [a,b] k2 μ) X.env=pure (some [x,y]))
 (hs:e6 [.Tuple [.Name x px,.Name y py] kt pt] (.Tuple [a,b] k2 μ) pos.line X.env=pure false:=by rfl):
 PS X (.Assign [.Tuple [.Name x px,.Name y py] kt pt] (.Tuple [a,b] k2 μ) pos) (HR i j ta):=by
 intro À s σ H D I h;rw [exec_Assign_arm];refine wpAny_bind (Z9 ?_);rw [hs];refine wpAny_bind (P0 ?_);rw [S4 (by decide)];refine wpAny_bind (Tuple_ (Ô (ha _ À s σ H _ I h) λus s1 ⟨vs,H1,I1,r1,q1⟩=> ?_));obtain⟨v,w,e1,q1⟩:=q1;subst e1;obtain⟨u1,u2,rfl,rv,rw'⟩: ∃u1 u2,us= [u1,u2]/\RelV v u1/\RelV w u2:=by
  cases r1 with
  |cons p q=>
   cases q with
   |cons p' q'=>
    cases q';exact⟨_,_,rfl,p,p'⟩
 refine aH ?_ (by show 2<=sizeLine;decide);have I2:Inv X À σ H1 {s1 with heap:=s1.heap.push {cls:= .type "tuple",data:= .seq [u1,u2].toArray}}:=I1.kept (t':=s1.toks) λb o e=>G9 _ e
 rw [hw];refine wpAny_bind (P0 ?_);show R5 (S0 X.prog X.w) X.A (do rule "assign.swapped-stores";let items <-unpackItems (.ref s1.heap.objs.size) 2 none;p5 [λv=>uC X.env y v,λv=>uC X.env x v] items.reverse;pure Flow.next) _ _ _;refine wpAny_bind (iC (wpAny_bind (unpackItems_tuple (items:= #[u1,u2]) (I.ok.hd hc) (IsTup.new s1.heap _) λh' Ĺ=> ?_)));have I3:=I2.kept (h':=h') (t':=s1.toks) λb o e=>Ĺ b o (M7 (D9 e)) e
 show R5 _ _ (p5 [λv=>uC X.env y v,λv=>uC X.env x v] [u2,u1] >>= λ_=>pure Flow.next) _ _ _;refine wpAny_bind (i5 (uD (vO I3 hN hj (.inl hy) rw' (λs2 I4=> ?_) (.inr hy))));refine i5 (uD (vO I4 hN hi (.inl hx) rv (λs3 I5=>qW (P0 ?_)) (.inr hx)));rw [List.set_comm _ _ (I0 hij)] at I5;exact⟨_,H1,I5,q1⟩
def HS (i:G6)(te:TE)(ti:TIp):TS:=λD σ H=> ∃x,σ[i]? =some (some x)/\te σ H λy H1=>ti x y H1 λz H2=>D.nx (σ.set i (some z)) H2
def OO {te:TE}{op:qV}{ti:TIp}{pos':Pos}(hN:X.N.Nodup)(hi:X.N[i]? =some x)(hx:Loc X.env.scope x)(he:PE X e te)(ho:PIp X op ti)(hf:X.fn x=true\/X.env.scope.names.lookup x=some .local:=by first|exact .inl rfl|exact .inr rfl|assumption):
 PS X (.AugAssign (.Name x pos') op e pos) (HS i te ti):=by
 intro À s σ H D I h;obtain⟨v,e1,h⟩:=h;obtain⟨m,hn,hl⟩:=I.loc;have vis:Vis X.env.scope x:=by rcases hx with k|k;exact .inl k;exact .inr (.inl k)
 obtain⟨u,r,l⟩:=hl i x v hi e1 vis;refine wpAny_AugAssign_Name ?_;have go:R5 (S0 X.prog X.w) X.A (K0 e X.env) (λw s₂=>R5 (S0 X.prog X.w) X.A (inplaceOp op u w) (λr s₃=>R5 (S0 X.prog X.w) X.A (xV X.env x r) (λ_=>SP X À D .next) X.xe s₃) X.xe s₂) X.xe s:=by
  refine Ô (he À s σ H _ I h) λw s1 ⟨y,H1,I1,r1,q1⟩=> ?_
  refine Ô (ho À s1 σ H1 v y u w _ I1 r r1 q1) λz s2 ⟨zv,H2,I2,r2,q2⟩=> ?_
  exact vO I2 hN hi hx r2 (λs3 I3=>⟨_,H2,I3,q2⟩) hf
 rcases l with ⟨hk,hm⟩|⟨hk,c,hc,Ĝ⟩
 ·exact oO I.ok.kind hk hn hm go
 ·rcases hk with hk|hk
  ·exact pT I.ok.kind hk hc Ĝ go
  ·rcases hx with k|k
   ·have:X.env.scope.names.lookup x=some .free:=hk;rw [k] at this;cases this
   ·have:X.env.scope.names.lookup x=some .free:=hk;rw [k] at this;cases this
def ipI (f:P1->P1->P1):TIp:=λx y H Q=> ∃i j,x= .int i/\y= .int j/\Q (.int (f i j)) H
def OP:PIp X .Add (ipI λi j=>i+j):=by
 intro À s σ H x y v u Q I r1 r2 h;obtain⟨i,j,e1,e2,q⟩:=h;subst e1;subst e2;obtain⟨t,rfl⟩:=r1;obtain⟨t',rfl⟩:=r2;exact iadd_int ⟨.int _,H,I.tok _,⟨_,rfl⟩,q⟩
def Bw (c:TT)(tb:TS):TS:=λD σ H=> ∃W:G6->St->Hp->Prop,(∃m,W m σ H)/\ ∀m σ H,W m σ H->
 c σ H λb H1=>if b=true then ∃N:St->Hp->Prop,(∀Â H',N Â H'-> ∃m',m'<m/\W m' Â H')/\tb {D with nx:=N,ct:=N,bk:=D.nx} σ H1 else D.nx σ H1
def MG {c:N3}{body:G0 Q2}{tc:TT}{tb:TS}(hp:pN (S0 X.prog X.w) X.A X.env X.xe)(hc:PT X c tc)(hb:Ś X body tb):PS X (.While c body [] pos) (Bw tc tb):=by
 intro À s σ H D I h;obtain⟨W,⟨m0,w0⟩,turn⟩:=h;refine wpAny_While (codeAny_whileLoop (λn s'=> ∃Â H',Inv X À Â H' s'/\W n Â H') ?_ m0 ⟨σ,H,I,w0⟩);rintro n s1 ⟨σ1,H1,I1,w1⟩;refine bH hp (Ô (hc À s1 σ1 H1 _ I1 (turn n σ1 H1 w1)) λb s2 ⟨H2,I2,q2⟩=> ?_);cases b with
 |true=>
  obtain⟨N,hN,q2⟩:=q2;rw [R9 rfl];refine bH hp (Ô (hb À s2 σ1 H2 _ I2 q2) λf s3 q3=> ?_);cases f with
  |next=>
   obtain⟨ā,H3,I3,n3⟩:=q3;obtain⟨m',hm,w3⟩:=hN ā H3 n3;exact⟨m',hm,ā,H3,I3,w3⟩
  |cont=>
   obtain⟨ā,H3,I3,n3⟩:=q3;obtain⟨m',hm,w3⟩:=hN ā H3 n3;exact⟨m',hm,ā,H3,I3,w3⟩
  |brk=>exact q3
  |ret v=>exact q3
 |false=>
  rw [S4 D6];exact iR ⟨σ1,H2,I2,q2⟩
end
structure It where
 go:G6->Hp->Prop
 yld:G6->Hp->V->Hp->Prop
 stop:G6->Hp->Prop
def UQ (X:Cx)(À:G0 (P2×Obj))(H:Hp)(b:P2):Prop:=
 H b=none/\b≠X.env.locals/\b ∉ X.fs/\(b∈X.ex\/X.s₀.heap.objs.size<=b)/\(∀x c,X.env.cells.lookup x=some c->c≠b)/\ ∀p∈X.pn++À,p.1≠b
def Inv.fpOk {À:G0 (P2×Obj)}{σ:St}{H':Hp}(I:Inv X À σ H s)(hb:s.heap.objs.size<=b)(hn:H' b=none):UQ X À H' b:=by
 refine⟨hn,V6 (B2 I.lt hb),I.nofs hb,.inr (R8 I.sz hb),λx c e z=> ?_,λp hp z=> ?_⟩
 ·obtain⟨v,q⟩:=I.cell x c e;exact absurd (B2 q.lt (by rw [z];exact hb)) (B8 _)
 ·exact absurd (B2 (D9 (I.pin p hp).1) (by rw [z];exact hb)) (B8 _)
structure Θ (P:T7)(w:C1)(K:G7)(tg:N3)(J:It)(fp:G0 P2)(it:P2)(tn:G6->A7->Prop):Prop where
 mem:it∈fp
 obj: ∀i h,tn i h-> ∀b∈fp,∃o,h.get? b=some o/\ ∀v,o.data≠ .cell v
 keep: ∀i h h',tn i h->(∀b∈fp,∀o,h.get? b=some o->h'.get? b=some o)->tn i h'
 item: ∀ (X:Cx),X.prog=P->X.w=w->X.K=K->X.calm=true-> ∀ (i:G6) (À:G0 (P2×Obj)) (s:G5) (σ:St) (H:Hp) (E:G2->G5->Prop),Inv X À σ H s->(∀b∈fp,UQ X À H b)->tn i s.heap->J.go i H->
  R5 (S0 P w) X.A (m9 (.ref it)) (λr s1=> ∃u,r=some u/\
   R5 (S0 P w) X.A (cP tg (.ref it) u) (λ_ s2=> ∃x H',Inv X À σ H' s2/\RelV x u/\J.yld i H x H'/\tn (i+1) s2.heap/\ ∀b∈fp,H' b=none) E s1) E s
 done: ∀ (X:Cx),X.prog=P->X.w=w->X.K=K->X.calm=true-> ∀ (i:G6) (À:G0 (P2×Obj)) (s:G5) (σ:St) (H:Hp) (E:G2->G5->Prop),Inv X À σ H s->(∀b∈fp,UQ X À H b)->tn i s.heap->J.stop i H->
  R5 (S0 P w) X.A (m9 (.ref it)) (λr s1=>r=none/\Inv X À σ H s1) E s
 self: ∀ (A:N7) (i:G6) (s:G5) (Q:G2->G5->Prop) (E:G2->G5->Prop),tn i s.heap->Q (.ref it) s->R5 (S0 P w) A (qD (.ref it)) Q E s
abbrev TI:=St->Hp->(It->Hp->Prop)->Prop
def PIE (X:Cx)(À:G0 (P2×Obj))(σ:St)(tg:N3)(R:It->Hp->Prop)(itv:G2)(s2:G5):Prop:=
 ∃ (it:P2) (fp:G0 P2) (tn:G6->A7->Prop) (J:It) (H':Hp),itv= .ref it/\Inv X À σ H' s2/\Θ X.prog X.w X.K tg J fp it tn/\tn 0 s2.heap/\(∀b∈fp,UQ X À H' b)/\R J H'
def PI (X:Cx)(tg iter:N3)(wi:TI):Prop:=
 ∀ (À:G0 (P2×Obj)) (s:G5) (σ:St) (H:Hp) (R:It->Hp->Prop),Inv X À σ H s->wi σ H R->
  R5 (S0 X.prog X.w) X.A (K0 iter X.env) (λv s1=>R5 (S0 X.prog X.w) X.A (qD v) (PIE X À σ tg R) X.xe s1) X.xe s
variable {tg:N3}
def MJ {M : qS} {E : G2 → G5 → Prop} {it : P2} {o : Obj} {n : W3} {vs : S9 G2} {Q : Unit → G5 → Prop} (ho : s.heap.get? it = some o) (hc : o.cls = .type n) (hd : o.data = .fields vs)
    (hn : ["enumerate", "zip", "dict_itemiterator", "dict_reverseitemiterator", "odict_iterator", "itertools.zip_longest", "itertools.pairwise"].contains n = false) (hQ : Q () s) : R5 M A (cP tg (.ref it) u) Q E s := by
  unfold cP
  cases tg <;> first
    | exact P0 hQ
    | (cases u <;> first
        | exact P0 hQ
        | (refine wpAny_bind (G0q ho ?_)
           rw [hc, hd]
           show R5 M A (if (["enumerate", "zip", "dict_itemiterator", "dict_reverseitemiterator", "odict_iterator", "itertools.zip_longest", "itertools.pairwise"].contains n && vs[0]? == some (Q0 _)) = true then _ else _) Q E s
           rw [S4 (by intro h; rw [hn, oP] at h; cases h)]
           exact P0 hQ))
noncomputable def Itl (K:G7)(a:P2):It:=
 ⟨λi H=> ∃xs x,è K H a xs/\xs[i]? =some x,λi H x H'=>H'=H/\ ∀xs,è K H a xs->xs[i]? =some x,λi H=> ∃xs,è K H a xs/\xs.length<=i⟩
noncomputable def Itt (K:G7)(a:P2):It:=
 ⟨λi H=> ∃xs x,ö K H a xs/\xs[i]? =some x,λi H x H'=>H'=H/\ ∀xs,ö K H a xs->xs[i]? =some x,λi H=> ∃xs,ö K H a xs/\xs.length<=i⟩
noncomputable def Itr (lo:P1)(n:G6):It:=⟨λi _=>i<n,λi H x H'=>H'=H/\x= .int (lo+i),λi _=>n<=i⟩
variable {K:G7}
def Vt (a it:P2):Θ P w K tg (Itl K a) [it] it (λi h=>h.IsListIter it a i) where
 mem:=by simp
 obj:=λi h st b hb=>by
  have e:b=it:=by simpa using hb
  subst e;obtain⟨o,e,c,d⟩:=st;exact⟨o,e,λv z=>by rw [d] at z;cases z⟩
 keep:=λi h h' st k=>st.at λo e=>k it (by simp) o e
 item:=by
  intro X hP hw hK hc i À s σ H E I hf st hg;subst hP hw hK;obtain⟨xs,x,hq,hx⟩:=hg;obtain⟨its,rv,p,hz⟩:=I.list hq;obtain⟨u,hu,ru⟩:=rv.get hx;obtain⟨f0,f1,f2,f3,f4,f5⟩:=hf it (by simp);refine wpAny_pyNext_list_item st p.isList (x:=u) (by simpa using hu) λh' Å sb=> ?_
  have I1:Inv X À σ H {s with heap:=h'}:=I.turned (t':=s.toks) (λb o hb e=>(sb.2 b hb).trans e) f0 f1 f3 f4 f5;obtain⟨o,e,c,d⟩:=id Å;exact⟨u,rfl,MJ (s:= {s with heap:=h'}) e c d (by decide) ⟨x,H,I1,ru,⟨rfl,λys hy=>by rw [I.list_inj hy hq];exact hx⟩,Å,λb hb=>(hf b hb).1⟩⟩
 done:=by
  intro X hP hw hK hc i À s σ H E I hf st hg;subst hP hw hK;obtain⟨xs,hq,hx⟩:=hg;obtain⟨its,rv,p,hz⟩:=I.list hq;obtain⟨f0,f1,f2,f3,f4,f5⟩:=hf it (by simp);have hl:=rv.length;exact wpAny_pyNext_list_end (I.ok.hd hc) st p.isList (by simp;omega) λh' eb=>⟨rfl,I.turned (t':=s.toks) (λb o hb e=>eb b o hb e) f0 f1 f3 f4 f5⟩
 self:=λ_ _ _ _ _ st h=>wpAny_pyIter_listiter st h
def Gb (a it:P2):Θ P w K tg (Itt K a) [it] it (λi h=>h.IsTupleIter it a i) where
 mem:=by simp
 obj:=λi h st b hb=>by
  have e:b=it:=by simpa using hb
  subst e;obtain⟨o,e,c,d⟩:=st;exact⟨o,e,λv z=>by rw [d] at z;cases z⟩
 keep:=λi h h' st k=>st.at λo e=>k it (by simp) o e
 item:=by
  intro X hP hw hK hc i À s σ H E I hf st hg;subst hP hw hK;obtain⟨xs,x,hq,hx⟩:=hg;obtain⟨its,rv,p,hz⟩:=I.tuple hq;obtain⟨u,hu,ru⟩:=rv.get hx;obtain⟨f0,f1,f2,f3,f4,f5⟩:=hf it (by simp);refine wpAny_pyNext_tuple_item st (show s.heap.IsTuple a its.toArray from p) (x:=u) (by simpa using hu) λh' Å sb=> ?_
  have I1:Inv X À σ H {s with heap:=h'}:=I.turned (t':=s.toks) (λb o hb e=>(sb.2 b hb).trans e) f0 f1 f3 f4 f5;obtain⟨o,e,c,d⟩:=id Å;exact⟨u,rfl,MJ (s:= {s with heap:=h'}) e c d (by decide) ⟨x,H,I1,ru,⟨rfl,λys hy=>by rw [I.tuple_inj hy hq];exact hx⟩,Å,λb hb=>(hf b hb).1⟩⟩
 done:=by
  intro X hP hw hK hc i À s σ H E I hf st hg;subst hP hw hK;obtain⟨xs,hq,hx⟩:=hg;obtain⟨its,rv,p,hz⟩:=I.tuple hq;obtain⟨f0,f1,f2,f3,f4,f5⟩:=hf it (by simp);have hl:=rv.length;exact wpAny_pyNext_tuple_end (I.ok.hd hc) st (show s.heap.IsTuple a its.toArray from p) (by simp;omega) λh' eb=>⟨rfl,I.turned (t':=s.toks) (λb o hb e=>eb b o hb e) f0 f1 f3 f4 f5⟩
 self:=λ_ _ _ _ _ st h=>wpAny_pyIter_tupleiter st h
def Gc (it:P2)(lo:P1)(n:G6):Θ P w K tg (Itr lo n) [it] it (λi h=>IL h it (lo+(i:G6)*1) ((n:P1)-(i:G6)) 1) where
 mem:=by simp
 obj:=λi h st b hb=>by
  have e:b=it:=by simpa using hb
  subst e;exact⟨_,st,λv z=>by
   have z':Data.fields _=Data.cell v:=z;cases z'⟩
 keep:=λi h h' st k=>k it (by simp) _ st
 item:=by
  intro X hP hw hK hc i À s σ H E I hf st hg;subst hP hw hK;obtain⟨f0,f1,f2,f3,f4,f5⟩:=hf it (by simp);have W:=Walks.range (prog:=X.prog) (w:=X.w) (I.ok.hd hc) it lo 1 n;refine W.item i s _ _ hg st λv h' tk hv Å kk=> ?_
  obtain⟨t,rfl⟩:=hv;have I1:Inv X À σ H {s with heap:=h',toks:=tk}:=I.turned (λb o hb e=>kk b o (by simpa using hb) e) f0 f1 f3 f4 f5;refine⟨_,rfl,MJ (s:= {s with heap:=h',toks:=tk}) (n:= "range_iterator") Å rfl rfl (by decide) ⟨.int (lo+i),H,I1,⟨t,?_⟩,⟨rfl,rfl⟩,Å,λb hb=>(hf b hb).1⟩⟩;rw [Int.mul_one]
 done:=by
  intro X hP hw hK hc i À s σ H E I hf st hg;subst hP hw hK;obtain⟨f0,f1,f2,f3,f4,f5⟩:=hf it (by simp);exact wpAny_pyNext_range_end (I.ok.hd hc) st (by have:n<=i:=hg;omega) λh' eb=>⟨rfl,I.turned (t':=s.toks) (λb o hb e=>eb b o hb e) f0 f1 f3 f4 f5⟩
 self:=λ_ _ _ _ _ st h=>wpAny_pyIter_rangeiter st h
section
variable {X:Cx}{tg:N3}
def OQ (K:G7)(tl:TE):TI:=λσ H R=>tl σ H λx H1=> ∃a,x= .ref a/\(∃xs,è K H1 a xs)/\R (Itl K a) H1
def Cy {l:N3}{tl:TE}(hl:PE X l tl):PI X tg l (OQ X.K tl):=by
 intro À s σ H R I h;refine Ô (hl À s σ H _ I h) λv s1 ⟨x,H1,I1,r1,q1⟩=> ?_
 obtain⟨a,e,⟨xs,hq⟩,q⟩:=q1;subst e;cases r1;obtain⟨its,rv,p,hz⟩:=I1.list hq;refine aJ p.isList ?_;refine⟨s1.heap.objs.size,[s1.heap.objs.size],_,_,H1,rfl,I1.kept (t':=s1.toks) λb o e=>G9 _ e,Vt a _,⟨_,S6 _ rfl,rfl,rfl⟩,λb hb=> ?_,q⟩;have e:b=s1.heap.objs.size:=by simpa using hb
 subst e;exact I1.fpOk (P6 _) (I1.hok.fresh (P6 _))
variable {À:G0 (P2×Obj)}
def MK {σ:St}{H:Hp}{s:G5}{R:It->Hp->Prop}{E:G2->G5->Prop}{lo hi:P1}{t u v:Tok}{tk:G6}(I:Inv X À σ H s)(h1: -(2^62)<=lo)(h2:lo<2^62)(h3: -(2^62)<=hi)(h4:hi<2^62)
 (q:R (Itr lo (hi-lo).toNat) H):R5 (S0 X.prog X.w) X.A (qD (.ref s.heap.objs.size)) (PIE X À σ tg R) E {s with heap:=s.heap.push {cls:= .type "range",data:= .fields #[.int lo t,.int hi u,.int 1 v]},toks:=tk}:=by
 refine wpAny_pyIter_range (IsRange.new ..) (small_one h1 h2 h3 h4) ?_;have I1:Inv X À σ H {s with heap:=s.heap.push {cls:= .type "range",data:= .fields #[.int lo t,.int hi u,.int 1 v]},toks:=tk}:=I.kept λb o e=>G9 _ e
 refine⟨(s.heap.push {cls:= .type "range",data:= .fields #[.int lo t,.int hi u,.int 1 v]}).objs.size,[(s.heap.push {cls:= .type "range",data:= .fields #[.int lo t,.int hi u,.int 1 v]}).objs.size],_,_,H,rfl,
  I1.kept (t':=tk) λb o e=>G9 _ e,Gc _ lo (hi-lo).toNat,?_,λb hb=> ?_,q⟩
 ·have e1:lo+((0:G6):P1)*1=lo:=by simp
  have e2:(((hi-lo).toNat:G6):P1)-((0:G6):P1)=Builtin.Range.rangeSize lo hi 1:=by rw [rangeSize_one];split<;>omega
  show IL _ _ (lo+((0:G6):P1)*1) ((((hi-lo).toNat:G6):P1)-((0:G6):P1)) 1;rw [e1,e2];exact S6 _ rfl
 ·have e:b=(s.heap.push {cls:= .type "range",data:= .fields #[.int lo t,.int hi u,.int 1 v]}).objs.size:=by simpa using hb
  subst e;exact I1.fpOk (P6 _) (I1.hok.fresh (P6 _))
def OR (ta:TA):TI:=λσ H R=>ta σ H λvs H1=> ∃j:P1,vs= [.int j]/\ -(2^62)<=j/\j<2^62/\R (Itr 0 j.toNat) H1
def Pb {a:N3}{ta:TA}{p pos:Pos}(hg:Gl X "range")(hm:X.mg "range" =none)(ha:PA X [a] ta)(hs:S5 [a] X.env= [(false,K0 a X.env)]:=by rfl):PI X tg (.Call (.Name "range" p) [a] [] pos) (OR ta):=by
 intro À s σ H R I h;refine Call_ (Vs I hg hm boot_range (cZ (Ô (ha pos À s σ H _ I h) λus s1 ⟨vs,H1,I1,r1,q1⟩=> ?_) hs rfl));obtain⟨j,e,q1,q2,q⟩:=q1;subst e;cases r1 with
 |cons r rr=>
  cases rr;obtain⟨t,rfl⟩:=r;exact call_range_1 (MK I1 (by omega) (by omega) q1 q2 (by simpa using q))
def HU (wi:TI)(g:TG)(tb:TS):TS:=λD σ H=>wi σ H λJ H1=> ∃W:G6->G6->St->Hp->Prop,(∃m,W 0 m σ H1)/\ ∀i m σ H,W i m σ H->
 (J.stop i H/\D.nx σ H)\/(J.go i H/\ ∃N:St->Hp->Prop,(∀Â H',N Â H'-> ∃m',m'<m/\W (i+1) m' Â H')/\ ∀x H',J.yld i H x H'->g x σ H' λà H2=>tb {D with nx:=N,ct:=N,bk:=D.nx} à H2)
noncomputable def wG (fp:G0 P2)(h:A7):G0 (P2×Obj):=fp.filterMap λb=>(h.get? b).map λo=>(b,o)
def zl {fp:G0 P2}{h:A7}{b:P2}{o:Obj}(hb:b∈fp)(e:h.get? b=some o):(b,o)∈wG fp h:=cH.mpr ⟨b,hb,by rw [e];rfl⟩
def vP {fp:G0 P2}{h:A7}{p:P2×Obj}(hp:p∈wG fp h):p.1∈fp/\h.get? p.1=some p.2:=by
 obtain⟨b,hb,e⟩:=cH.mp hp;cases q:h.get? b with
 |none=>rw [q] at e;cases e
 |some o=>
  rw [q] at e;have e':(b,o)=p:=A2 e;subst e';exact⟨hb,q⟩
def Inv.pinned {σ:St}{H:Hp}{s:G5}{fp:G0 P2}(I:Inv X À σ H s)(hf: ∀b∈fp,UQ X À H b)(ho: ∀b∈fp,∃o,s.heap.get? b=some o/\ ∀v,o.data≠ .cell v):Inv X (À++wG fp s.heap) σ H s:=
 I.pins_of λp hp=>(D8.mp hp).elim (λz=>I.pin p (D0 _ z)) λz=>by
  obtain⟨hb,e⟩:=vP z;obtain⟨f0,f1,f2,_⟩:=hf p.1 hb;obtain⟨o,e',d⟩:=ho p.1 hb;rw [e] at e';cases e';exact⟨e,f0,f1,f2,d⟩
def Inv.unpinned {pl:G0 (P2×Obj)}{σ:St}{H:Hp}{s:G5}(I:Inv X (À++pl) σ H s):Inv X À σ H s:=I.pins_of λp hp=>I.pin p (D0 _ (N2 _ hp))
def OS {iter:N3}{body:G0 Q2}{wi:TI}{g:TG}{tb:TS}{pos:Pos}(hp:pN (S0 X.prog X.w) X.A X.env X.xe)(hc:X.calm=true)(hi:PI X tg iter wi)(hg:PG X tg g)(hb:Ś X body tb)
 (hs: ∀x,M9 iter X.env x=pure x:=by intro _;rfl):PS X (.For tg iter body [] pos) (HU wi g tb):=by
 intro À s σ H D I h;refine wpAny_For (Ô (hi À s σ H _ I h) λv s1 h1=>Ô h1 λitv s2 h2=> ?_) hs;obtain⟨it,fp,tn,J,H2,e,I2,T,Ħ,f2,W,⟨m0,w0⟩,turn⟩:=h2;subst e
 -- θ Ņ true of Ũ į objects through Ũ loop
 have ċ: ∀ {H':Hp},(∀b∈fp,H' b=none)-> ∀b∈fp,UQ X À H' b:=λhn b hb=>⟨hn b hb,(f2 b hb).2⟩
 refine codeAny_forLoop_any (λn s'=> ∃i Â H',Inv X À Â H' s'/\tn i s'.heap/\(∀b∈fp,H' b=none)/\W i n Â H') ?_ m0 ⟨0,σ,H2,I2,Ħ,λb hb=>(f2 b hb).1,w0⟩;rintro n s3 ⟨i,ā,H3,I3,st3,fr3,w3⟩;rcases turn i n ā H3 w3 with ⟨stop,qn⟩|⟨go,N,hN,step⟩
 ·refine bH hp (Ô (T.done X rfl rfl rfl hc i À s3 ā H3 X.xe I3 (ċ fr3) st3 stop) λr s4 ⟨hr,I4⟩=> ?_);subst hr;exact iR ⟨ā,H3,I4,qn⟩
 ·refine bH hp (Ô (T.item X rfl rfl rfl hc i À s3 ā H3 X.xe I3 (ċ fr3) st3 go) λr s4 ⟨u,hr,h4⟩=> ?_);subst hr;refine bH hp (Ô h4 λ_ s5 ⟨x,H5,I5,r5,y5,Υ,fr5⟩=> ?_);have I5':=I5.pinned (ċ fr5) (T.obj _ _ Υ);refine bH hp (Ô (hg _ s5 ā H5 x u _ I5' r5 (step x H5 y5)) λ_ s6 ⟨σ6,H6,I6,q6⟩=> ?_);refine bH hp (Ô (hb _ s6 σ6 H6 _ I6 q6) λf s7 q7=> ?_);have again: ∀ {ν:St} {H7:Hp},Inv X (À++wG fp s5.heap) ν H7 s7->N ν H7-> ∃m,m<n/\ ∃i Â H',Inv X À Â H' s7/\tn i s7.heap/\(∀b∈fp,H' b=none)/\W i m Â H':=λ{ν H7} I7 n7=>by
   obtain⟨m',hm,w7⟩:=hN ν H7 n7;refine⟨m',hm,i+1,ν,H7,I7.unpinned,T.keep _ _ _ Υ λb hb o e=>(I7.pin (b,o) (D0 _ (D0 _ (zl hb e)))).1,λb hb=> ?_,w7⟩;obtain⟨o,e,d⟩:=T.obj _ _ Υ b hb;exact(I7.pin (b,o) (D0 _ (D0 _ (zl hb e)))).2.1
  cases f with
  |next=>obtain⟨ν,H7,I7,n7⟩:=q7;exact again I7 n7
  |cont=>obtain⟨ν,H7,I7,n7⟩:=q7;exact again I7 n7
  |brk=>obtain⟨ν,H7,I7,q7⟩:=q7;exact⟨ν,H7,I7.unpinned,q7⟩
  |ret v=>obtain⟨x7,ν,H7,I7,r7,q7⟩:=q7;exact⟨x7,ν,H7,I7.unpinned,r7,q7⟩
end
abbrev R2:=V->V->Hp->VK->Prop
def ø (X:Cx)(f:G2->G2->Sem G2)(r:R2):Prop:=
 ∀ (À:G0 (P2×Obj)) (s:G5) (σ:St) (H:Hp) (x y:V) (v u:G2) (Q:VK),Inv X À σ H s->RelV x v->RelV y u->r x y H Q->
  R5 (S0 X.prog X.w) X.A (f v u) (EP X À σ Q) X.xe s
def UnR (X:Cx)(f:G2->Sem G2)(r:V->Hp->VK->Prop):Prop:=
 ∀ (À:G0 (P2×Obj)) (s:G5) (σ:St) (H:Hp) (x:V) (v:G2) (Q:VK),Inv X À σ H s->RelV x v->r x H Q->
  R5 (S0 X.prog X.w) X.A (f v) (EP X À σ Q) X.xe s
def â (X:Cx)(f:G2)(r:G0 V->Hp->VK->Prop):Prop:=
 ∀ (À:G0 (P2×Obj)) (s:G5) (σ:St) (H:Hp) (xs:G0 V) (us:G0 G2) (Q:VK),Inv X À σ H s->Ç xs us->r xs H Q->
  R5 (S0 X.prog X.w) X.A (call f us) (EP X À σ Q) X.xe s
def tOp (r:R2)(ta tb:TE):TE:=λσ H Q=>ta σ H λx H1=>tb σ H1 λy H2=>r x y H2 Q
def tUn (r:V->Hp->VK->Prop)(ta:TE):TE:=λσ H Q=>ta σ H λx H1=>r x H1 Q
def rI (C:P1->P1->Prop)(g:P1->P1->V):R2:=λx y H Q=> ∃i j,x= .int i/\y= .int j/\C i j/\Q (g i j) H
def rI0 (g:P1->P1->V):R2:=λx y H Q=> ∃i j,x= .int i/\y= .int j/\Q (g i j) H
def rU (g:P1->V):V->Hp->VK->Prop:=λx H Q=> ∃i,x= .int i/\Q (g i) H
section
variable {X:Cx}{a b c:N3}{ta tb tc:TE}{pos:Pos}
def SW (ha:PE X a ta)(hb:PE X b tb){À:G0 (P2×Obj)}{s:G5}{σ:St}{H:Hp}{R:V->V->Hp->Prop}(I:Inv X À σ H s)
 (h:ta σ H λx H1=>tb σ H1 λy H2=>R x y H2){Q:G2->G5->Prop}{f:G2->G2->Sem G2}
 (hf: ∀v u s2 x y H2,Inv X À σ H2 s2->RelV x v->RelV y u->R x y H2->R5 (S0 X.prog X.w) X.A (f v u) Q X.xe s2):
 R5 (S0 X.prog X.w) X.A (K0 a X.env) (λv s₁=>R5 (S0 X.prog X.w) X.A (K0 b X.env) (λu s₂=>R5 (S0 X.prog X.w) X.A (f v u) Q X.xe s₂) X.xe s₁) X.xe s:=by
 refine Ô (ha À s σ H _ I h) λv s1 ⟨x,H1,I1,r1,q1⟩=> ?_
 refine Ô (hb À s1 σ H1 _ I1 q1) λu s2 ⟨y,H2,I2,r2,q2⟩=> ?_
 exact hf v u s2 x y H2 I2 r1 r2 q2
def SX {op:qV}{r:R2}(ho:ø X (Q5 op) r)(ha:PE X a ta)(hb:PE X b tb):PE X (.BinOp a op b pos) (tOp r ta tb):=by
 intro À s σ H Q I h;exact wpAny_BinOp (SW ha hb I h λv u s2 x y H2 I2 rx ry q=>ho À s2 σ H2 x y v u Q I2 rx ry q)
def SY {op:UnaryOp}{r:V->Hp->VK->Prop}(ho:UnR X (unaryOp op) r)(ha:PE X a ta):PE X (.UnaryOp op a pos) (tUn r ta):=by
 intro À s σ H Q I h;exact UnaryOp_ (Ô (ha À s σ H _ I h) λv s1 ⟨x,H1,I1,r1,q1⟩=>ho À s1 σ H1 x v Q I1 r1 q1)
def opI {f:G2->G2->Sem G2}{C:P1->P1->Prop}{g:P1->P1->P1}
 (rule: ∀ (i j:P1) (t u:Tok) (s:G5) (Q:G2->G5->Prop) (E:G2->G5->Prop),C i j->Q (.int (g i j) s.toks) {s with toks:=s.toks+1}->R5 (S0 X.prog X.w) X.A (f (.int i t) (.int j u)) Q E s):
 ø X f (rI C λi j=> .int (g i j)):=by
 intro À s σ H x y v u Q I rx ry h;obtain⟨i,j,rfl,rfl,hc,q⟩:=h;obtain⟨t,rfl⟩:=rx;obtain⟨t',rfl⟩:=ry;exact rule i j t t' s _ _ hc ⟨.int (g i j),H,I.tok _,⟨_,rfl⟩,q⟩
def HV {f:G2->G2->Sem G2}{g:P1->P1->P1}
 (rule: ∀ (i j:P1) (t u:Tok) (s:G5) (Q:G2->G5->Prop) (E:G2->G5->Prop),Q (.int (g i j) s.toks) {s with toks:=s.toks+1}->R5 (S0 X.prog X.w) X.A (f (.int i t) (.int j u)) Q E s):
 ø X f (rI0 λi j=> .int (g i j)):=by
 intro À s σ H x y v u Q I rx ry h;obtain⟨i,j,rfl,rfl,q⟩:=h;obtain⟨t,rfl⟩:=rx;obtain⟨t',rfl⟩:=ry;exact rule i j t t' s _ _ ⟨.int (g i j),H,I.tok _,⟨_,rfl⟩,q⟩
def SC {f:G2->G2->Sem G2}{g:P1->P1->N4}
 (rule: ∀ (i j:P1) (t u:Tok) (s:G5) (Q:G2->G5->Prop) (E:G2->G5->Prop),Q (.bool (g i j)) s->R5 (S0 X.prog X.w) X.A (f (.int i t) (.int j u)) Q E s):
 ø X f (rI0 λi j=> .bl (g i j)):=by
 intro À s σ H x y v u Q I rx ry h;obtain⟨i,j,rfl,rfl,q⟩:=h;obtain⟨t,rfl⟩:=rx;obtain⟨t',rfl⟩:=ry;exact rule i j t t' s _ _ ⟨.bl (g i j),H,I,rfl,q⟩
def SE (i j:P1):Prop:=0<j/\j<1073741824
def HW (i j:P1):Prop:=0<=j/\j<=1000000/\i.natAbs<2^64
def ξ (i j:P1):Prop:=(-(2^64)<i/\i<2^64)\/(-(2^64)<j/\j<2^64)
def ξ.ok {i j:P1}(h:ξ i j):IntMulOk i j:=by
 rcases h with ⟨h1,h2⟩|⟨h1,h2⟩
 ·exact .of_left (v7 h1 h2)
 ·exact .of_right (v7 h1 h2)
def X0t:ø X (Q5 .Add) (rI0 λi j=> .int (i+j)):=HV λ_ _ _ _ _ _ _ q=>add_int q
def OT:ø X (Q5 .Sub) (rI0 λi j=> .int (i-j)):=HV λ_ _ _ _ _ _ _ q=>sub_int q
def X0u:ø X (Q5 .Mult) (rI ξ λi j=> .int (i*j)):=opI λ_ _ _ _ _ _ _ hc q=>mul_int q hc.ok
def Cz:ø X (Q5 .FloorDiv) (rI SE λi j=> .int (i / j)):=opI λi j _ _ _ _ _ hc q=>by
 have h1:(0:P1)<j:=hc.1;have h2:j<1073741824:=hc.2;exact floordiv_int (by omega) (by rw [i6 i (by omega)];exact q) (.inl (PyProof.noPylong_small (by omega)))
def OU:ø X (Q5 .Mod) (rI (λ_ j=>0<j) λi j=> .int (i%j)):=opI λi j _ _ _ _ _ hc q=>by
 have h1:(0:P1)<j:=hc;exact mod_int' (by omega) (by rw [i7 i (by omega)];exact q)
def OV:ø X (Q5 .Pow) (rI HW λi j=> .int (i^j.toNat)):=opI λ_ _ _ _ _ _ _ hc q=>pow_int_small hc.1 hc.2.1 hc.2.2 q
def unI {f:G2->Sem G2}{g:P1->P1}
 (rule: ∀ (i:P1) (t:Tok) (s:G5) (Q:G2->G5->Prop) (E:G2->G5->Prop),Q (.int (g i) s.toks) {s with toks:=s.toks+1}->R5 (S0 X.prog X.w) X.A (f (.int i t)) Q E s):
 UnR X f (rU λi=> .int (g i)):=by
 intro À s σ H x v Q I rx h;obtain⟨i,rfl,q⟩:=h;obtain⟨t,rfl⟩:=rx;exact rule i t s _ _ ⟨.int (g i),H,I.tok _,⟨_,rfl⟩,q⟩
def OW:UnR X (unaryOp .USub) (rU λi=> .int (-i)):=unI λ_ _ _ _ _ q=>neg_int q
end
noncomputable def HX:V->V->N4
 | .non,.non=>true| .non,.int _=>true| .int _,.non=>true| .non,.bl _=>true| .bl _,.non=>true| .non,.str _=>true| .str _,.non=>true
 | .int _,.int _=>true| .bl _,.bl _=>true| .str _,.str _=>true| .byt _,.byt _=>true
 | .int _,.str _=>true| .str _,.int _=>true| .bl _,.str _=>true| .str _,.bl _=>true
 |_,_=>false
def rEq:R2:=λx y H Q=>HX x y=true/\Q (.bl (decide (x=y))) H
def rNe:R2:=λx y H Q=>HX x y=true/\Q (.bl (!decide (x=y))) H
def Pc {i j:P1}:decide (V.int i=V.int j)=(i==j):=by
 rw [aM];simp
def Bx {i j:N4}:decide (V.bl i=V.bl j)=(i==j):=by
 rw [aM];simp
def Pd {i j:Str}:decide (V.str i=V.str j)=(i==j):=by
 rw [aM];simp
def Pe {i j:S9 UInt8}:decide (V.byt i=V.byt j)=(i.toList==j.toList):=by
 rw [aM];cases i;cases j;simp
section
variable {X:Cx}{a b c:N3}{ta tb tc:TE}{pos:Pos}
def jJ {À:G0 (P2×Obj)}{σ:St}{H:Hp}{s:G5}{Q:VK}{k k':N4}(I:Inv X À σ H s)(q:Q (.bl k) H)(e:k=k'):EP X À σ Q (.bool k') s:=by
 subst e;exact⟨.bl k,H,I,rfl,q⟩
def X0O:ø X (B9 .Eq) rEq:=by
 intro À s σ H x y v u Q I rx ry h;obtain⟨hs,q⟩:=h;cases x with
 |non=>
  cases rx;cases y with
  |non=>cases ry;exact PySem.EqNone.eq_none_none (jJ I q (by simp))
  |bl j=>cases ry;exact PySem.EqNone.eq_none_bool (jJ I q (by simp))
  |int j=>obtain⟨t',rfl⟩:=ry;exact PySem.EqNone.eq_none_int (jJ I q (by simp))
  |str j=>obtain⟨t',rfl⟩:=ry;exact PySem.EqNone.eq_none_str (jJ I q (by simp))
  |_=>exact absurd (show false=true from hs) D6
 |bl i=>
  cases rx;cases y with
  |non=>cases ry;exact PySem.EqNone.eq_bool_none (jJ I q (by simp))
  |bl j=>cases ry;exact eq_bool (jJ I q Bx)
  |str j=>obtain⟨t',rfl⟩:=ry;exact PySem.EqMixed.eq_bool_str (jJ I q (by simp))
  |_=>exact absurd (show false=true from hs) D6
 |int i=>
  obtain⟨t,rfl⟩:=rx;cases y with
  |non=>cases ry;exact PySem.EqNone.eq_int_none (jJ I q (by simp))
  |int j=>obtain⟨t',rfl⟩:=ry;exact eq_int (jJ I q Pc)
  |str j=>obtain⟨t',rfl⟩:=ry;exact PySem.EqMixed.eq_int_str (jJ I q (by simp))
  |_=>exact absurd (show false=true from hs) D6
 |str i=>
  obtain⟨t,rfl⟩:=rx;cases y with
  |non=>cases ry;exact PySem.EqNone.eq_str_none (jJ I q (by simp))
  |bl j=>cases ry;exact PySem.EqMixed.eq_str_bool (jJ I q (by simp))
  |int j=>obtain⟨t',rfl⟩:=ry;exact PySem.EqMixed.eq_str_int (jJ I q (by simp))
  |str j=>obtain⟨t',rfl⟩:=ry;exact eq_str (jJ I q Pd)
  |_=>exact absurd (show false=true from hs) D6
 |byt i=>
  obtain⟨t,rfl⟩:=rx;cases y with
  |byt j=>obtain⟨t',rfl⟩:=ry;exact G0S (jJ I q Pe)
  |_=>exact absurd (show false=true from hs) D6
 |_=>cases y<;>exact absurd (show false=true from hs) D6
def X0P:ø X (B9 .NotEq) rNe:=by
 intro À s σ H x y v u Q I rx ry h;obtain⟨hs,q⟩:=h;cases x with
 |non=>
  cases rx;cases y with
  |non=>cases ry;exact PySem.EqNone.ne_none_none (jJ I q (by simp))
  |bl j=>cases ry;exact PySem.EqNone.ne_none_bool (jJ I q (by simp))
  |int j=>obtain⟨t',rfl⟩:=ry;exact PySem.EqNone.ne_none_int (jJ I q (by simp))
  |str j=>obtain⟨t',rfl⟩:=ry;exact PySem.EqNone.ne_none_str (jJ I q (by simp))
  |_=>exact absurd (show false=true from hs) D6
 |bl i=>
  cases rx;cases y with
  |non=>cases ry;exact PySem.EqNone.ne_bool_none (jJ I q (by simp))
  |bl j=>cases ry;exact ne_bool (jJ I q (congrArg not Bx))
  |str j=>obtain⟨t',rfl⟩:=ry;exact PySem.EqMixed.ne_bool_str (jJ I q (by simp))
  |_=>exact absurd (show false=true from hs) D6
 |int i=>
  obtain⟨t,rfl⟩:=rx;cases y with
  |non=>cases ry;exact PySem.EqNone.ne_int_none (jJ I q (by simp))
  |int j=>obtain⟨t',rfl⟩:=ry;exact ne_int (jJ I q (congrArg not Pc))
  |str j=>obtain⟨t',rfl⟩:=ry;exact PySem.EqMixed.ne_int_str (jJ I q (by simp))
  |_=>exact absurd (show false=true from hs) D6
 |str i=>
  obtain⟨t,rfl⟩:=rx;cases y with
  |non=>cases ry;exact PySem.EqNone.ne_str_none (jJ I q (by simp))
  |bl j=>cases ry;exact PySem.EqMixed.ne_str_bool (jJ I q (by simp))
  |int j=>obtain⟨t',rfl⟩:=ry;exact PySem.EqMixed.ne_str_int (jJ I q (by simp))
  |str j=>obtain⟨t',rfl⟩:=ry;exact ne_str (jJ I q (congrArg not Pd))
  |_=>exact absurd (show false=true from hs) D6
 |byt i=>
  obtain⟨t,rfl⟩:=rx;cases y with
  |byt j=>obtain⟨t',rfl⟩:=ry;exact G0T (jJ I q (congrArg not Pe))
  |_=>exact absurd (show false=true from hs) D6
 |_=>cases y<;>exact absurd (show false=true from hs) D6
def SZ:ø X (B9 .Lt) (rI0 λi j=> .bl (decide (i<j))):=SC λ_ _ _ _ _ _ _ q=>lt_int q
def Ta:ø X (B9 .LtE) (rI0 λi j=> .bl (decide (i<=j))):=SC λ_ _ _ _ _ _ _ q=>le_int q
def Tb:ø X (B9 .Gt) (rI0 λi j=> .bl (decide (j<i))):=SC λ_ _ _ _ _ _ _ q=>gt_int q
def Tc:ø X (B9 .GtE) (rI0 λi j=> .bl (decide (j<=i))):=SC λ_ _ _ _ _ _ _ q=>ge_int q
def OX:ø X (B9 .Is) (λx y H Q=>y= .non/\Q (.bl (decide (x= .non))) H):=by
 intro À s σ H x y v u Q I rx ry h;obtain⟨rfl,q⟩:=h;cases ry;refine is_none_gen (jJ I q ?_);cases x<;>first
  |(cases rx;rfl)
  |(obtain⟨t,rfl⟩:=rx;rfl)
def CA:ø X (B9 .IsNot) (λx y H Q=>y= .non/\Q (.bl (!decide (x= .non))) H):=by
 intro À s σ H x y v u Q I rx ry h;obtain⟨rfl,q⟩:=h;cases ry;refine isnot_none_gen (jJ I q ?_);cases x<;>first
  |(cases rx;rfl)
  |(obtain⟨t,rfl⟩:=rx;rfl)
variable {r:R2}
def ø.or {f:G2->G2->Sem G2}{r':R2}(h:ø X f r)(h':ø X f r'):ø X f (λx y H Q=>r x y H Q\/r' x y H Q):=by
 intro À s σ H x y v u Q I rx ry q;rcases q with q|q
 ·exact h À s σ H x y v u Q I rx ry q
 ·exact h' À s σ H x y v u Q I rx ry q
def By (b:N3){op:l9}(h:op≠ .In:=by decide)(h2:op≠ .NotIn:=by decide):aA op b=false:=by
 have e1:(op==CmpOp.In)=false:=by cases op<;>first|rfl|exact absurd rfl h
 have e2:(op==CmpOp.NotIn)=false:=by cases op<;>first|rfl|exact absurd rfl h2
 cases b<;>simp [aA,e1,e2]
def CB {op:l9}(ho:ø X (B9 op) r)(ha:PE X a ta)(hb:PE X b tb)(hm:aA op b=false):PE X (.Compare a [op] [b] pos) (tOp r ta tb):=by
 intro À s σ H Q I h;exact wpAny_Compare1 (SW ha hb I h λv u s2 x y H2 I2 rx ry q=>ho À s2 σ H2 x y v u Q I2 rx ry q) hm
def CC (t:TE):TT:=λσ H Q=>t σ H λx H'=> ∃k,x= .bl k/\Q k H'
def CF {op:l9}(ho:ø X (B9 op) r)(ha:PE X a ta)(hb:PE X b tb)(hm:aA op b=false):PT X (.Compare a [op] [b] pos) (CC (tOp r ta tb)):=by
 intro À s σ H Q I h;refine wpAny_isTrue_Compare1 (Ô (ha À s σ H _ I h) λv s1 ⟨x,H1,I1,r1,q1⟩=>Ô (hb À s1 σ H1 _ I1 q1) λu s2 ⟨y,H2,I2,r2,q2⟩=>
  Ô (ho À s2 σ H2 x y v u _ I2 r1 r2 q2) λc s3 ⟨z,H3,I3,r3,k,e,q3⟩=> ?_) hm
 subst e;cases r3;exact K1 ⟨H3,I3,q3⟩
def Pf (r r':R2)(ta tb tc:TE):TE:=λσ H Q=>ta σ H λx H1=>tb σ H1 λy H2=>r x y H2 λz H3=> ∃k,z= .bl k/\
 (if k=true then tc σ H3 λw' H4=>r' y w' H4 Q else Q (.bl false) H3)
def ML {op İ:l9}{r':R2}(ho:ø X (B9 op) r)(ho':ø X (B9 İ) r')(ha:PE X a ta)(hb:PE X b tb)(hc:PE X c tc)
 (hm:mS [op,İ] [b,c]=false:=by with_unfolding_all rfl):PE X (.Compare a [op,İ] [b,c] pos) (Pf r r' ta tb tc):=by
 intro À s σ H Q I h;refine Compare_chain (Ô (ha À s σ H _ I h) λv s1 ⟨x,H1,I1,r1,q1⟩=>chain_link (Ô (hb À s1 σ H1 _ I1 q1) λu s2 ⟨y,H2,I2,r2,q2⟩=>
  Ô (ho À s2 σ H2 x y v u _ I2 r1 r2 q2) λd s3 ⟨z,H3,I3,r3,k,e,q3⟩=> ?_)) hm
 subst e;cases r3;refine K1 ?_;cases k with
 |false=>exact ite_ff ⟨.bl false,H3,I3,rfl,q3⟩
 |true=>exact ite_tt (chain_last (Ô (hc À s3 σ H3 _ I3 q3) λw' s4 ⟨z',H4,I4,r4,q4⟩=>ho' À s4 σ H4 y z' u w' Q I4 r2 r4 q4))
def MM {op İ:l9}{r':R2}(ho:ø X (B9 op) r)(ho':ø X (B9 İ) r')(ha:PE X a ta)(hb:PE X b tb)(hc:PE X c tc)
 (hm:mS [op,İ] [b,c]=false:=by with_unfolding_all rfl):PT X (.Compare a [op,İ] [b,c] pos) (CC (Pf r r' ta tb tc)):=by
 intro À s σ H Q I h;refine isTrue_chain (Ô (ha À s σ H _ I h) λv s1 ⟨x,H1,I1,r1,q1⟩=>test_link (Ô (hb À s1 σ H1 _ I1 q1) λu s2 ⟨y,H2,I2,r2,q2⟩=>
  Ô (ho À s2 σ H2 x y v u _ I2 r1 r2 q2) λd s3 ⟨z,H3,I3,r3,k,e,q3⟩=> ?_)) hm
 subst e;cases r3;refine K1 ?_;cases k with
 |false=>
  obtain⟨k',e',q'⟩:=q3;cases e';exact ite_ff ⟨H3,I3,q'⟩
 |true=>
  refine ite_tt (test_last (Ô (hc À s3 σ H3 _ I3 q3) λw' s4 ⟨z',H4,I4,r4,q4⟩=>Ô (ho' À s4 σ H4 y z' u w' _ I4 r2 r4 q4) λd' s5 ⟨z2,H5,I5,r5,k2,e2,q5⟩=> ?_));subst e2;cases r5;exact K1 ⟨H5,I5,q5⟩
def Vu:(sizeLine:G6)<2^63:=by rw [IM];decide
def Zp {x:V}{us:G0 G2}(r:Ç [x] us): ∃u,us= [u]/\RelV x u:=by
 cases r with
 |cons r1 r2=>cases r2;exact⟨_,rfl,r1⟩
def MN {x y:V}{us:G0 G2}(r:Ç [x,y] us): ∃u w',us= [u,w']/\RelV x u/\RelV y w':=by
 cases r with
 |cons r1 r2=>
  cases r2 with
  |cons r3 r4=>cases r4;exact⟨_,_,rfl,r1,r3⟩
def Pg (hc:X.calm=true):â X (.builtin "max") (λxs H Q=> ∃i j,xs= [.int i,.int j]/\Q (.int (if j>i then j else i)) H):=by
 intro À s σ H xs us Q I r h;obtain⟨i,j,rfl,q⟩:=h;obtain⟨u,w',rfl,⟨t,rfl⟩,⟨t',rfl⟩⟩:=MN r;refine max_two_ints (I.ok.hd hc) λh' tk k=>⟨_,H,I.kept k,?_,q⟩
 by_cases hj:j>i
 ·rw [R9 hj,R9 hj];exact⟨_,rfl⟩
 ·rw [S4 hj,S4 hj];exact⟨_,rfl⟩
def Ι:â X (.type "int") (λxs H Q=>(∃i,xs= [.int i]/\Q (.int i) H)\/ ∃k,xs= [.bl k]/\Q (.int (if k then 1 else 0)) H):=by
 intro À s σ H xs us Q I r h;rcases h with ⟨i,rfl,q⟩|⟨k,rfl,q⟩
 ·obtain⟨u,rfl,t,rfl⟩:=Zp r;exact call_int_int ⟨.int i,H,I,⟨_,rfl⟩,q⟩
 ·obtain⟨u,rfl,r1⟩:=Zp r;cases r1;exact call_int_bool ⟨.int (if k then 1 else 0),H,I.tok _,⟨_,rfl⟩,q⟩
def ś:â X (.builtin "divmod") (λxs H Q=> ∃i j,xs= [.int i,.int j]/\SE i j/\ ∀p,H p=none->Q (.ref p) (upd H p (.tup [.int (i / j),.int (i%j)]))):=by
 intro À s σ H xs us Q I r h;obtain⟨i,j,rfl,⟨h1,h2⟩,q⟩:=h;obtain⟨u,w',rfl,⟨t,rfl⟩,⟨t',rfl⟩⟩:=MN r;refine divmod_int (by omega) ?_ (.inl (PyProof.noPylong_small (by omega)));rw [i6 i (by omega),i7 i (by omega)];have hn:H s.heap.objs.size=none:=I.hok.fresh (P6 _);refine⟨.ref s.heap.objs.size,_,?_,rfl,q _ hn⟩;refine I.laid (λb o e=>G9 _ e) (P6 _) ⟨by simp only [R3,O1];rw [IM];decide,[.int (i / j) s.toks,.int (i%j) (s.toks+1)],.cons ⟨_,rfl⟩ (.cons ⟨_,rfl⟩ .nil),?_⟩;exact⟨_,S6 s.heap rfl,rfl,rfl,0,rfl⟩
end
structure X0Q (h:A7)(x dx C:P2)(mA:Str->D4 G2):Prop where
 obj:h.get? x=some (n4 C dx)
 ns:h.Ns1 dx mA
 ne:dx≠x
def Ph {dx:P2}{mA:Str->D4 G2}(n:h.Ns1 dx mA): ∃od,h.get? dx=some od/\ ∀name,oQ name od=some (mA name):=by
 obtain⟨o,es,ep,ho,hd,hk,_,hm⟩:=n;refine⟨o,ho,λname=> ?_⟩;have e:=hm name;unfold nsFind findBy at e;rw [<-Array.find?_toList] at e;unfold oQ;rw [hd];dsimp only;split
 ·rename_i y q;rw [q] at e;exact congrArg some e
 ·rename_i q;rw [q] at e;have a:es.toList.any (·.refKey)=false:=by
   rw [List.any_eq_false];intro y hy;obtain⟨z,t,Κ⟩:=hk y (oR.mp hy);simp [DictEntry.refKey,Κ]
  have a': ¬es.toList.any (·.refKey)=true:=by rw [a];exact D6
  rw [S4 a'];exact congrArg some e
def X0Q.look {x dx C:P2}{mA:Str->D4 G2}(I:X0Q h x dx C mA): ∃od,G09 h x (n4 C dx) C (some od)/\ ∀name,oQ name od=some (mA name):=
 let ⟨od,ho,hl⟩:=Ph I.ns
 ⟨od,⟨I.obj,rfl,rfl,ho⟩,hl⟩
section
variable {P:T7}{w:C1}{H H':Hp}{h h':A7}{a C dx:P2}{fs fs':G0 (Str×V)}
def CG (hok:Ē P w H h)(e:H a=some (.ins C dx fs)): ∃mA,X0Q h a dx C mA/\(∀f,SQ (fs.lookup f) (mA f))/\x4 mA (fs.map (·.1))/\fs.length<=1000/\H dx=some (.own a):=by
 obtain⟨d,z,ne,ob,mA,n,r,q⟩:=(show Ø P w H h a (.ins C dx fs) from hok a _ e);exact⟨mA,⟨ob,n,ne⟩,r,q,z,d⟩
end
structure Cls (K:G7)(C:P2):Prop where
 pg:sE K C xW=true
 hd:G0K K C=true
 po:G0L K C=true
 sa:uE K (.ref C) "__setattr__" =some (some (.builtin "object.__setattr__"))
def Cls.get {C:P2}(c:Cls K C)(f:Str):sE K C f=true:=c.pg
section
variable {X:Cx}{À:G0 (P2×Obj)}{σ:St}{H:Hp}{s:G5}{A:N7}{E:G2->G5->Prop}{Q:G2->G5->Prop}{c:G2}{b:N4}
inductive ē (K:G7)(H:Hp):V->G2->Prop where
 |non:ē K H .non (.type "NoneType")
 |bl (x:N4):ē K H (.bl x) (.type "bool")
 |int (i:P1):ē K H (.int i) (.type "int")
 |str (x:Str):ē K H (.str x) (.type "str")
 |flt (x:UInt64):ē K H (.flt x) (.type "float")
 |lst {a:P2} {xs:G0 V} (e:H a=some (.lst xs)):ē K H (.ref a) (.type "list")
 |frz {a:P2} {o:Obj} {xs:G0 V} (e:H a=some (.frz o (.lst xs))):ē K H (.ref a) (.type "list")
 |tup {a:P2} {xs:G0 V} (e:H a=some (.tup xs)):ē K H (.ref a) (.type "tuple")
 |dK {a:P2} {ý:G0 (ń×V)} (e:H a=some (.dK ý)):ē K H (.ref a) (.type "dict")
 |dT {a:P2} {ý:G0 (G0 ń×V)} (e:H a=some (.dT ý)):ē K H (.ref a) (.type "dict")
 |ins {a C dx:P2} {fs:G0 (Str×V)} (e:H a=some (.ins C dx fs)) (cl:Cls K C) (ha:uE K (.ref C) "__class__" =some (some (.builtin "object.__class__")))
  (hn:G0M K (.builtin "object.__class__") "__get__" =some (some (.builtin "getset_descriptor.__get__"))) (htk:G05 K (.builtin "object.__class__")=some true)
  (hm:G1k K C (.type "object")=some true):ē K H (.ref a) (.ref C)
def Pi {x:V}{u t:G2}(I:Inv X À σ H s)(rx:RelV x u)(ty:ē X.K H x t)(e:oS X.K t c=some b)(h: ∀tk,Q (.bool b) {s with toks:=tk}):
 R5 (S0 X.prog X.w) A (call (.builtin "isinstance") [u,c]) Q E s:=by
 cases ty with
 |non=>cases (show u=i4 from rx);exact Q9 G0N I.kIn bT e (λz=>nomatch z) h
 |bl y=>cases (show u=fV y from rx);exact Q9 G0O I.kIn bT e (λz=>nomatch z) h
 |int i=>obtain⟨t,q⟩:=(show ∃t,u=mR i t from rx);cases q;exact Q9 G0U I.kIn bT e (λz=>nomatch z) h
 |str y=>obtain⟨t,q⟩:=(show ∃t,u=sC y t from rx);cases q;exact Q9 G0V I.kIn bT e (λz=>nomatch z) h
 |flt y=>obtain⟨t,q⟩:=(show ∃t,u=IG y t from rx);cases q;exact Q9 G0r I.kIn bT e (λz=>nomatch z) h
 | @lst a xs ea=>
  cases (show u=K8 a from rx);obtain⟨_,_,n,_,h1⟩:=(show Ø X.prog X.w H s.heap a (.lst xs) from I.hok a _ ea);exact Q9 qX I.kIn ⟨_,h1,rfl⟩ e (λz=>nomatch z) h
 | @frz a ob xs ea=>
  cases (show u=K8 a from rx);obtain⟨_,_,_,n,_,h1⟩:=(show Ø X.prog X.w H s.heap a (.frz ob (.lst xs)) from I.hok a _ ea);exact Q9 qX I.kIn ⟨_,h1,rfl⟩ e (λz=>nomatch z) h
 | @tup a xs ea=>
  cases (show u=K8 a from rx);obtain⟨_,_,_,p⟩:=(show Ø X.prog X.w H s.heap a (.tup xs) from I.hok a _ ea);obtain⟨o,h1,h2,_⟩:=p;exact Q9 G0s I.kIn ⟨o,h1,h2⟩ e (λz=>nomatch z) h
 | @dK a ý ea=>
  cases (show u=K8 a from rx);obtain⟨_,_,vs,_,p⟩:=(show Ø X.prog X.w H s.heap a (.dK ý) from I.hok a _ ea);obtain⟨o,es,ep,h1,h2,_⟩:=p;exact Q9 qY I.kIn ⟨o,h1,h2.1⟩ e (λz=>nomatch z) h
 | @dT a ý ea=>
  cases (show u=K8 a from rx);obtain⟨_,_,xs,_,o,es,ep,h1,h2,_⟩:=(show Ø X.prog X.w H s.heap a (.dT ý) from I.hok a _ ea);exact Q9 qY I.kIn ⟨o,h1,h2.1⟩ e (λz=>nomatch z) h
 | @ins a C dx fs ea cl ha hn htk hm=>
  cases (show u=K8 a from rx);obtain⟨mA,O,_⟩:=CG I.hok ea;obtain⟨od,J,_⟩:=O.look;exact Q9 (G0W (cl.get _) cl.hd ha hn htk hm) I.kIn J e (λz=>nomatch z) h
end
structure á (k:G6)(A:N7):Prop where
 hd:A.handled=none
 dp:A.depth+3*k+5<recursionLimit
 un:A.units+16*k+200<cLine
 gd:A.guards=some []
variable {k:G6}
def á.deeper (r:á (k+1) A)(env:Env):á k (A.deeper env):=
 ⟨r.hd,by have:=r.dp;show A.depth+1+3*k+5<_;omega,by have:=r.un;show A.units+3+16*k+200<_;omega,r.gd⟩
def á.depth (r:á k A):A.depth<recursionLimit:=by have:=r.dp;omega
def á.units (r:á k A):A.units+64<cLine:=by have:=r.un;omega
def HY:TA:=λ_ H Q=>Q [] H
def OY (ta:TE)(tr:TA):TA:=λσ H Q=>ta σ H λx H1=>tr σ H1 λxs H2=>Q (x::xs) H2
section
variable {X:Cx}{e:N3}{es:G0 N3}{te:TE}{t:TA}{pos:Pos}
def Č:PA X [] HY:=λ_ _ _ _ H Q I h=>Calls.spliced_nil ⟨[],H,I,.nil,h⟩
def wQ (ha:PE X e te)(hr:PA X es t)(hs:S5 (e::es) X.env=(false,K0 e X.env)::S5 es X.env:=by rfl):PA X (e::es) (OY te t):=by
 intro pos À s σ H Q I h;rw [hs];show R5 _ _ (spliced ((false,K0 e X.env)::U8 pos (S5 es X.env))) _ _ s;refine Calls.spliced_cons (Ô (ha À s σ H _ I h) λu s1 ⟨x,H1,I1,r1,q1⟩=> ?_);exact Ô (hr pos À s1 σ H1 _ I1 q1) λus s2 ⟨xs,H2,I2,r2,q2⟩=>⟨x::xs,H2,I2,.cons r1 r2,q2⟩
def HZ (t:TA):TE:=λσ H Q=>t σ H λxs H1=>xs.length<=sizeLine/\ ∀p,H1 p=none->Q (.ref p) (upd H1 p (.tup xs))
def Ka (t:TA):TE:=λσ H Q=>t σ H λxs H1=>xs.length<=sizeLine/\ ∀p,H1 p=none->Q (.ref p) (upd H1 p (.lst xs))
def OZ {x1}(h:PA X es t):PE X (.Tuple es x1 pos) (HZ t):=by
 intro À s σ H Q I hq;refine wpAny_Tuple_spliced (Ô (h pos À s σ H _ I hq) λus s1 ⟨xs,H1,I1,r,z,q⟩=>⟨by rw [<-r.length];exact z,?_⟩);have hf:H1 s1.heap.objs.size=none:=I1.hok.fresh (P6 _);refine⟨.ref s1.heap.objs.size,upd H1 s1.heap.objs.size (.tup xs),I1.laid (t':=s1.toks) (λb u e=>G9 _ e) (P6 _) ?_,rfl,q _ hf⟩;exact⟨z,us,r,ì.new _ _⟩
def Aa (h:PA X es t):PE X (.List es pos) (Ka t):=by
 intro À s σ H Q I hq;refine wpAny_List_spliced (Ô (h pos À s σ H _ I hq) λus s1 ⟨xs,H1,I1,r,z,q⟩=>⟨by rw [<-r.length];exact z,?_⟩);have hf:H1 s1.heap.objs.size=none:=I1.hok.fresh (P6 _);refine⟨.ref s1.heap.objs.size,upd H1 s1.heap.objs.size (.lst xs),I1.laid (t':=s1.toks) (λb u e=>G9 _ e) (P6 _) ?_,rfl,q _ hf⟩;exact⟨z,us,0,r,S6 _ rfl⟩
end
abbrev Sp:=G0 V->Hp->VK->XK->Prop
abbrev CXT:=G0 Env->Hp->G5->XK->G2->G5->Prop
structure X0F (P:T7)(w:C1)(K:G7)(mg:Str->D4 G2)(base:A7)(A:N7)(outer:G0 Env)(s:G5)(H:Hp):Prop where
 frames:A.frames=some outer
 mod:Mod K mg base
 bs: ∀b o,base.get? b=some o->s.heap.get? b=some o/\H b=none
 bsz:base.objs.size<=s.heap.objs.size
 funs:s.heap.FunFrames base outer
 frf: ∀b∈Ζ outer,H b=none
 hok:Ē P w H s.heap
 bare:l8 s.gens
def CE (outer:G0 Env)(P:T7)(w:C1)(H:Hp)(s:G5)(Q:VK)(u:G2)(s':G5):Prop:=
 ∃v H',s'.os=s.os/\l8 s'.gens/\Un (Ζ outer) [] H H' s.heap s'.heap/\Ē P w H' s'.heap/\RelV v u/\Q v H'
def CR (CX:CXT)(outer:G0 Env)(P:T7)(w:C1)(H:Hp)(s:G5)(Q:VK)(E:XK)(r:qE)(s':G5):Prop:=
 match r with
 | .ok (.ret u)=>CE outer P w H s Q u s'
 | .ok _=>False
 | .error e=>CX outer H s E e s'
structure Ò (P:T7)(w:C1)(K:G7)(mg:Str->D4 G2)(base:A7)(CX:CXT)(k:G6)(f:P2)(fd:C6)(ps:G0 Str)(sp:Sp):Prop where
 len: ∀vs H Q E,sp vs H Q E->vs.length=ps.length
 run: ∀ (A:N7) (outer:G0 Env) (s:G5) (H:Hp) (args:Args) (us:G0 G2) (vs:G0 V) (Q:VK) (E:XK),á k A->X0F P w K mg base A outer s H->tY s fd args (ps.zip us)->Ç vs us->sp vs H Q E->
  bJ (S0 P w) A (.call (.ref f) args) (CR CX outer P w H s Q E) s
section
variable {X:Cx}{À:G0 (P2×Obj)}{σ:St}{H:Hp}{s s':G5}
def Inv.env0 (I:Inv X À σ H s):X0F X.prog X.w X.K X.mg X.base X.A X.stack s H:=
 ⟨I.ok.frames,I.ok.mod,I.bs,R8 I.ok.bsz I.sz,I.stack,I.stkFree,I.hok,I.bare⟩
def Inv.after {Q:VK}{u:G2}(I:Inv X À σ H s)(h:CE X.stack X.prog X.w H s Q u s'):EP X À σ Q u s':=by
 obtain⟨v,H',os,bare,un,hok,r,q⟩:=h;obtain⟨hh,g,d,t,os'⟩:=s';obtain rfl:os'=s.os:=os;exact⟨v,H',I.call (h':=hh) (g':=g) (d':=d) (t':=t) (ch:= []) un hok bare (λb z=>absurd z (by simp)),r,q⟩
end
def Ab (sp:Sp)(dvs:G0 V)(E:XK)(t:TA):TE:=λσ H Q=>t σ H λvs H1=>sp (vs++dvs) H1 Q E
def Binds (K:G7)(fd:C6)(ps:G0 Str)(ds:G0 G2):Prop:=
 ∀ (s:G5) (us:G0 G2),K.In s.heap->(us++ds).length=ps.length->tY s fd ⟨us,[]⟩ (ps.zip (us++ds))
def Binds.all {fd:C6}{ps:G0 Str}(h: ∀us:G0 G2,us.length=ps.length->IN fd ⟨us,[]⟩=pure (ps.zip us)):Binds K fd ps []:=λs us _ hl=>by
 rw [J5] at hl ⊢;exact .of_eq (h us hl)
def Pj (CX:CXT)(X:Cx)(E:XK):Prop:= ∀ (À:G0 (P2×Obj)) (σ:St) (H:Hp) (s:G5) (e:G2) (s':G5),Inv X À σ H s->CX X.stack H s E e s'->X.xe e s'
section
variable {X:Cx}{CX:CXT}{k:G6}{f C:P2}{fd:C6}{ps:G0 Str}{sp:Sp}{dvs:G0 V}{ds:G0 G2}{E:XK}{x m:Str}{p pos apos:Pos}{e o:N3}{es:G0 N3}{ta:TE}{t:TA}
def Ac {À:G0 (P2×Obj)}{σ:St}{H:Hp}{s:G5}{Q:VK}{us:G0 G2}{vs:G0 V}(F:Ò X.prog X.w X.K X.mg X.base CX k f fd ps sp)(hr:á k X.A)(hb:Binds X.K fd ps ds)(hd:Ç dvs ds)(hx:Pj CX X E)
 (I:Inv X À σ H s)(r:Ç vs us)(h:sp (vs++dvs) H Q E):R5 (S0 X.prog X.w) X.A (call (.ref f) us) (EP X À σ Q) X.xe s:=by
 have r2:Ç (vs++dvs) (us++ds):=r.append hd;have hl:(us++ds).length=ps.length:=by rw [<-r2.length];exact F.len _ _ _ _ h
 refine qF (nB (F.run X.A X.stack s H ⟨us,[]⟩ (us++ds) (vs++dvs) Q E hr I.env0 (hb s us I.kIn hl) r2 h) λr s' hq=> ?_);cases r with
 |error e=>exact hx À σ H s e s' I hq
 |ok fl=>
  cases fl with
  |ret u=>exact I.after hq
  |next=>exact False.elim hq
  |brk=>exact False.elim hq
  |cont=>exact False.elim hq
def CH (F:Ò X.prog X.w X.K X.mg X.base CX k f fd ps sp)(hr:á k X.A)(hg:Gl X x)(hm:X.mg x=some (.ref f))(hk:b7 X.K (.ref f)=true)(hb:Binds X.K fd ps ds)(hd:Ç dvs ds)(hx:Pj CX X E)
 (ha:PA X (e::es) t)(hdb:(x==("__debug__" :Str))=false:=by decide)(he:S5 (e::es) X.env=(false,K0 e X.env)::S5 es X.env:=by rfl)(hpl:(U8 pos (S5 es X.env)).any (·.1)=false:=by rfl):
 PE X (.Call (.Name x p) (e::es) [] pos) (Ab sp dvs E t):=by
 intro À s σ H Q I h;refine i8 (GZ I hg hm ?_ hdb);refine G0t (h₀:=X.base) I.ok.mod.kin hk (Ô (ha pos À s σ H _ I h) λus s1 ⟨vs,H1,I1,r,q⟩=>⟨I1.kIn,?_⟩) he hpl;exact Ac F hr hb hd hx I1 r q
end
structure Ã (N P:G0 Str)(sc:Y0):Prop where
 kind:sc.kind= .function
 co:sc.isCoroutine=false
 gen:sc.isGenerator=false
 nd:N.Nodup
 pre:N.take P.length=P
 par: ∀x∈P,sc.names.lookup x=some .local\/sc.names.lookup x=some .cell
 nofree: ∀y∈sc.names,y.2≠ .free
variable {kindOf:Str->D4 NameKind}{x:Str}
theorem Vv: ∀ {binds:G0 (Str×G2)} {m:Str->D4 G2},(∀v,(x,v) ∉ binds)->uF kindOf binds m x=m x
 | [],_,_=>rfl
 |(n,v)::r,m,h=>by
  unfold uF;rw [Vv λw hw=>h w (R1 _ hw)];split
  ·have:x≠n:=by rintro rfl;exact h v P4
   simp [this]
  ·rfl
theorem Vw: ∀ {binds:G0 (Str×G2)} {m:Str->D4 G2},(∀v,(x,v) ∉ binds)->uG kindOf binds m x=m x
 | [],_,_=>rfl
 |(n,v)::r,m,h=>by
  unfold uG;rw [Vw λw hw=>h w (R1 _ hw)];split
  ·rfl
  ·have:x≠n:=by rintro rfl;exact h v P4
   simp [this]
theorem Vx {v:G2}: ∀ {P:G0 Str} {vs:G0 G2} {i:G6} {m:Str->D4 G2},P.Nodup->P[i]? =some x->vs[i]? =some v->kindOf x=some .local->
 uF kindOf (P.zip vs) m x=some v
 | [],_,_,_,_,h,_,_=>by simp at h
 |_::_,[],_,_,_,_,h,_=>by simp at h
 |p::P,w::vs,0,m,nd,h1,h2,hk=>by
  simp at h1 h2;subst h1;subst h2;show uF kindOf ((p,w)::P.zip vs) m p=_;unfold uF;rw [Vv λv hv=>(E1.mp nd).1 (n5 hv).1,R9 hk];simp
 |p::P,w::vs,i+1,m,nd,h1,h2,hk=>by
  show uF kindOf ((p,w)::P.zip vs) m x=_;unfold uF;exact Vx (i:=i) (E1.mp nd).2 (by simpa using h1) (by simpa using h2) hk
theorem Vy {v:G2}: ∀ {P:G0 Str} {vs:G0 G2} {i:G6} {m:Str->D4 G2},P.Nodup->P[i]? =some x->vs[i]? =some v->kindOf x≠some .local->
 uG kindOf (P.zip vs) m x=some v
 | [],_,_,_,_,h,_,_=>by simp at h
 |_::_,[],_,_,_,_,h,_=>by simp at h
 |p::P,w::vs,0,m,nd,h1,h2,hk=>by
  simp at h1 h2;subst h1;subst h2;show uG kindOf ((p,w)::P.zip vs) m p=_;unfold uG;rw [Vw λv hv=>(E1.mp nd).1 (n5 hv).1,S4 hk];simp
 |p::P,w::vs,i+1,m,nd,h1,h2,hk=>by
  show uG kindOf ((p,w)::P.zip vs) m x=_;unfold uG;exact Vy (i:=i) (E1.mp nd).2 (by simpa using h1) (by simpa using h2) hk
noncomputable def start (N:G0 Str)(vs:G0 V):St:=vs.map some++B3 (N.length-vs.length) none
noncomputable def MO (CX:CXT)(P:T7)(w:C1)(K:G7)(mg:Str->D4 G2)(base:A7)(N:G0 Str)(qual:Str)(scope:Y0)(f:P2)(cd:G2)(A:N7)(outer:G0 Env)(s:G5)(H:Hp)(E:XK):Cx where
 prog:=P
 w:=w
 K:=K
 mg:=mg
 base:=base
 A:=A.deeper (i9 qual scope s.heap.objs.size f cd)
 N:=N
 s₀:=s
 H₀:=H
 env:=i9 qual scope s.heap.objs.size f cd
 outer:=outer
 stack:=i9 qual scope s.heap.objs.size f cd::outer
 ex:= []
 calm:=true
 fn:=λ_=>true
 pn:= []
 xe:=λe s'=>R5 (S0 P w) (A.deeper (i9 qual scope s.heap.objs.size f cd)) (leaving (i9 qual scope s.heap.objs.size f cd) e) (λ_ s''=>CX outer H s E e s'') (λe' s''=>CX outer H s E e' s'') s'
def vQ {sc:Y0}{n:G6}(h:sc.names.lookup x=some .cell): ∃c,(X8 n sc.names []).lookup x=some c:=by
 have q:=nC sc.names n [] (.inl h);exact fA.mp q
def Pk {CX:CXT}{mg:Str->D4 G2}{base:A7}{N ps:G0 Str}{qual:Str}{scope:Y0}{f:P2}{cd:G2}{outer:G0 Env}{s1:G5}{E:XK}{us:G0 G2}{vs:G0 V}
 (S:Ã N ps scope)(hd:A.handled=none)(e0:X0F P w K mg base A outer s H)(hl:vs.length=ps.length)(r:Ç vs us)
 (x:InCallC s s.heap.objs.size (uF (i9 qual scope s.heap.objs.size f cd).kindOf (ps.zip us) λ_=>none) (X8 (s.heap.objs.size+1) scope.names []) (uG (i9 qual scope s.heap.objs.size f cd).kindOf (ps.zip us) λ_=>none) s1):
 Inv (MO CX P w K mg base N qual scope f cd A outer s H E) [] (start N vs) H s1:=by
 have hpl:ps.length<=N.length:=by have:=congrArg Y1 S.pre;rw [T5] at this;omega
 obtain⟨h1,tk,rfl,hk⟩:=x.done;have noA: ∀b:P2,b ∉ (MO CX P w K mg base N qual scope f cd A outer s H E).ex:=λb z=>absurd (show b∈([]:G0 P2) from z) (by simp)
 refine⟨⟨e0.mod,S.kind,rfl,rfl,P6 _,λy z c h1 h2=> ?_,λy hy=> ?_,λy c _ h=> ?_,λ_=>hd,Around.frames_deeper e0.frames,.inr ⟨rfl,rfl⟩,λb z=>absurd z (noA b),e0.bs,e0.bsz,λb _ _=>noA b,λb z=>absurd z (noA b),e0.funs,e0.frf⟩,
  rfl,e0.bare,Un.kept hk,⟨_,x.toInCall.ns,λi y v h1 h2 h3=> ?_⟩,λy c h=>⟨_,x.cell y c h⟩,e0.hok.fresh (P6 _),λy c h=> ?_,λp hp=>absurd (show p∈([]:G0 (P2×Obj)) from hp) (by simp),e0.hok.kept hk,?_⟩
 ·exact qZ x.apart (bY h1) (bY h2)
 ·have hy:scope.names.lookup y=some .cell\/scope.names.lookup y=some .free:=hy;rcases hy with hy|hy
  ·exact vQ hy
  ·exact absurd rfl (S.nofree _ (bY hy))
 ·exact T8 (x.above y c (bY h))
 ·have hi:i<vs.length:=by
   unfold start at h2
   by_cases hi:i<vs.length
   ·exact hi
   ·rw [B1 (by simpa using hi)] at h2;rw [mT] at h2;split at h2<;>cases h2
  have ha:vs[i]? =some v:=by
   unfold start at h2;rw [C5 (by simpa using hi),P9] at h2;cases e:vs[i]? with
   |none=>rw [e] at h2;cases h2
   |some a=>rw [e] at h2;cases h2;rfl
  obtain⟨u,hu,rv⟩:=r.get ha;have hp:ps[i]? =some y:=by
   rw [<-S.pre,fB (by omega)];exact h1
  have ndP:ps.Nodup:=by rw [<-S.pre];exact S.nd.sublist (U9 _ _)
  refine⟨u,rv,?_⟩;rcases S.par y (P8 hp) with k|k
  ·exact .inl ⟨k,Vx ndP hp hu k⟩
  ·obtain⟨c,e⟩:=vQ (n:=s.heap.objs.size+1) k;refine .inr ⟨.inl k,c,e,?_⟩;have q:=x.cell y c e;rw [Vy ndP hp hu (by show scope.names.lookup y≠_;rw [k];decide)] at q;exact q
 ·exact e0.hok.fresh (T8 (x.above y c (bY h)))
 ·unfold start;show _=N.length;rw [P3,G3,List.length_replicate];omega
def Td {CX:CXT}{mg:Str->D4 G2}{base:A7}{f:P2}{name qual:Str}{params:Arguments}{body:G0 Q2}{scope:Y0}{dV kV doc pm ó ct oc:G2}{an od:D4 P2}{Ŝ:S9 (D4 G2)}{N ps:G0 Str}{sp:Sp}(lk:K.lookup f=some ⟨oc,od,.func (dO name qual params body scope dV kV doc pm an ó ct),Ŝ⟩)(hcd:oT K ó qual=true)(S:Ã N ps scope)
 (len: ∀vs H Q E,sp vs H Q E->vs.length=ps.length)
 (Ĕ: ∀ (A:N7) (outer:G0 Env) (s:G5) (H:Hp) (vs:G0 V) (Q:VK) (E:XK),á k (A.deeper (i9 qual scope s.heap.objs.size f ó))->sp vs H Q E->
  ∃t,Ś (MO CX P w K mg base N qual scope f ó A outer s H E) body t/\t {nx:=λ_ H'=>Q .non H',rt:=Q} (start N vs) H):
 Ò P w K mg base CX (k+1) f (dO name qual params body scope dV kV doc pm an ó ct) ps sp:=by
 refine⟨len,λA outer s H args us vs Q E hr e0 hb r hsp=> ?_⟩;have hl:=len _ _ _ _ hsp;have KX:K.In s.heap:=e0.mod.kin.keeps λb o e=>(e0.bs b o e).1
 have lim:s.heap.NoLimit:=e0.mod.nolimit.keeps λb o e=>(e0.bs b o e).1
 have X0R: ∀y∈ps.zip us,scope.names.lookup y.1=some .local\/(scope.names.lookup y.1=some .cell/\((X8 (s.heap.objs.size+1) scope.names []).lookup y.1).isSome=true):=λ⟨n,v⟩ hy=>by
  rcases S.par n (n5 hy).1 with q|q
  ·exact .inl q
  ·exact .inr ⟨q,nC _ _ _ (.inl q)⟩
 refine codeAny_call_function hr.depth (KX _ _ lk) rfl S.co S.gen rfl (G0u KX hcd) (hb _ _ _ _ ?_);refine wpAny_newFunctionEnv_cells S.kind X0R λenv he s1 x=> ?_
 subst he;refine⟨lim.keeps x.toInCall.keep,codeAny_func ?_⟩;obtain⟨t,ht,hq⟩:=Ĕ A outer s H vs Q E (hr.deeper _) hsp;have I:Inv (MO CX P w K mg base N qual scope f ó A outer s H E) [] (start N vs) H s1:=Pk S hr.hd e0 hl r x;refine M5 (ht [] s1 (start N vs) H _ I hq) (λfl s' hs=> ?_) λe s' hs=>hs
 have fin: ∀ {Â:St} {H':Hp} {v:V} {u:G2},Inv (MO CX P w K mg base N qual scope f ó A outer s H E) [] Â H' s'->RelV v u->Q v H'->CE outer P w H s Q u s':=
  λ{Â H' v u} J rv q=>⟨v,H',J.os,J.bare,J.base,J.hok,rv,q⟩
 cases fl with
 |ret u=>
  obtain⟨v,Â,H',J,rv,q⟩:=hs;exact fin J rv q
 |next=>
  obtain⟨Â,H',J,q⟩:=hs;exact fin (v:=V.non) (u:=i4) J rfl q
 |brk=>
  obtain⟨_,_,_,q⟩:=hs;exact False.elim q
 |cont=>
  obtain⟨_,_,_,q⟩:=hs;exact False.elim q
section
variable {X:Cx}{x:Str}{p pos:Pos}{e:N3}{es:G0 N3}{t:TA}{id T:W3}{r:G0 V->Hp->VK->Prop}
def tCB (r:G0 V->Hp->VK->Prop)(t:TA):TE:=λσ H Q=>t σ H λvs H1=>r vs H1 Q
def Yc (hc:â X (.builtin id) r)(hg:Gl X x)(hm:X.mg x=none)(hv:V5 x=some (.builtin id))(ha:PA X (e::es) t)(hn:x≠ "__name__" :=by decide)(hdb:(x==("__debug__" :Str))=false:=by decide)
 (he:S5 (e::es) X.env=(false,K0 e X.env)::S5 es X.env:=by rfl)(hpl:(U8 pos (S5 es X.env)).any (·.1)=false:=by rfl):PE X (.Call (.Name x p) (e::es) [] pos) (tCB r t):=by
 intro À s σ H Q I h;refine i8 (Vs I hg hm hv ?_ hn hdb);exact sF (Ô (ha pos À s σ H _ I h) λus s1 ⟨vs,H1,I1,r1,q1⟩=>hc À s1 σ H1 vs us Q I1 r1 q1) he hpl
def Vz (hc:â X (.type T) r)(hg:Gl X x)(hm:X.mg x=none)(hv:V5 x=some (.type T))(ha:PA X (e::es) t)(hn:x≠ "__name__" :=by decide)(hdb:(x==("__debug__" :Str))=false:=by decide)
 (he:S5 (e::es) X.env=(false,K0 e X.env)::S5 es X.env:=by rfl)(hpl:(U8 pos (S5 es X.env)).any (·.1)=false:=by rfl):PE X (.Call (.Name x p) (e::es) [] pos) (tCB r t):=by
 intro À s σ H Q I h;refine i8 (Vs I hg hm hv ?_ hn hdb);exact cZ (Ô (ha pos À s σ H _ I h) λus s1 ⟨vs,H1,I1,r1,q1⟩=>hc À s1 σ H1 vs us Q I1 r1 q1) he hpl
end
end L2
namespace HT
open PySem PyProof.Rows
noncomputable def zw:G0 P1->G0 P1->N4
 | [],[]=>false
 | [],_::_=>true
 |_::_,[]=>false
 |x::xs,y::ys=>if x=y then zw xs ys else decide (x<y)
section
variable {prog:T7}{w:C1}{A:N7}{E:G2->G5->Prop}{s:G5}
def CI {t b:P2}{vs ws:G0 G2}{Q:G2->G5->Prop}(ht:IH s.heap t vs.toArray)(hb:IH s.heap b ws.toArray)(hv:vs≠ [])
 (h1:ws= []->Q (.ref t) s)(h2:ws≠ []->Q (.ref s.heap.objs.size) {s with heap:=s.heap.push {cls:= .type "tuple",data:= .seq (vs++ws).toArray}})
 (hsz:vs.length+ws.length<=sizeLine):R5 (S0 prog w) A (Q5 .Add (.ref t) (.ref b)) Q E s:=by
 obtain⟨⟨cls,dd,data,sl⟩,ho,hc,n,hd⟩:=id ht;obtain⟨⟨X0S,Ź,G1a,ź⟩,ho2,hc2,n2,hd2⟩:=id hb;simp only at hc hd hc2 hd2;subst hc hd hc2 hd2;have e:vs.toArray++ws.toArray=(vs++ws).toArray:=by simp
 by_cases hw:ws= []
 ·exact q0 ⟨_,ho,rfl⟩ ⟨_,ho2,rfl⟩ mU p6 gI gA (fC _ _)
   (tuple_addW1 t b vs.toArray ws.toArray n n2 dd Ź sl ź (by simpa using hv) (by simp [hw])) ⟨ho,ho2,h1 hw⟩
 ·refine q0 ⟨_,ho,rfl⟩ ⟨_,ho2,rfl⟩ mU p6 gI gA (fC _ _)
   (tuple_addW2 t b vs.toArray ws.toArray n n2 dd Ź sl ź (by simpa using hv) (by simpa using hw) (by rw [R4,R4];exact hsz)) ⟨ho,ho2,?_⟩
  rw [e];exact h2 hw
noncomputable def sIx (n d:G6):D4 P1->G6
 |none=>d
 |some v=>if v<0 then (v+(n:P1)).toNat else min v.toNat n
def Ad (n d:G6)(hd:d<=n)(o:D4 P1):sIx n d o<=n:=by
 cases o with
 |none=>exact hd
 |some v=>
  show (if v<0 then (v+(n:P1)).toNat else min v.toNat n)<=n
  by_cases hv:v<0
  ·rw [R9 hv];omega
  ·rw [S4 hv];exact b8 _ _
def Pl (v:P1)(n d:G6):(if v<0 then max (v+(n:P1)) 0 else min v (n:P1))=((sIx n d (some v):G6):P1):=by
 show (if v<0 then max (v+(n:P1)) 0 else min v (n:P1))=(((if v<0 then (v+(n:P1)).toNat else min v.toNat n):G6):P1)
 by_cases hv:v<0
 ·simp only [R9 hv];omega
 ·simp only [S4 hv];omega
def Gd (lo hi:D4 P1)(n:G6):dS lo hi 1 (n:P1)=(((sIx n 0 lo:G6):P1),((sIx n n hi:G6):P1)):=by
 have h1: ¬ ((1:P1)<0):=by omega
 unfold dS;simp only [h1,oU];refine Prod.ext ?_ ?_
 ·cases lo with
  |none=>rfl
  |some v=>exact Pl v n 0
 ·cases hi with
  |none=>rfl
  |some v=>exact Pl v n n
def Ge (i j:G6):bG (i:P1) (j:P1) 1=j-i:=by
 unfold bG;have h1:(1:P1)>0:=by omega
 simp only [h1,pO,Int.ediv_one];split<;>omega
def WB {v:G2}{o:D4 P1}{Q:D4 P1->G5->Prop}(p:nD v o)(h:Q o s):R5 (S0 prog w) A (tF v) Q E s:=by
 cases p with
 |none=>exact uH h
 |int i t=>exact slicePart_int h
def yl {sl:P2}{vl vu:G2}{lo hi:D4 P1}{n:G6}{Q:P1×P1×G6->G5->Prop}(hs:s.heap.IsSliceOf sl vl vu .none)(pl:nD vl lo)(pu:nD vu hi)
 (h:Q (((sIx n 0 lo:G6):P1),1,sIx n n hi-sIx n 0 lo) s):R5 (S0 prog w) A (j0 (.ref sl) (pure (n:P1))) Q E s:=by
 obtain⟨os,hos,hcs,hds⟩:=id hs;unfold j0 u8;refine wpAny_bind (wpAny_bind (sU hos hds (x:=vl) rfl (wpAny_bind (sU hos hds (x:=vu) rfl (wpAny_bind (sU hos hds (x:= .none) rfl (P0 ?_)))))));refine wpAny_bind (uH ?_);show R5 _ _ (if ((1:P1)==0)=true then _ else _) _ _ s;rw [S4 (by decide)];refine wpAny_bind (WB pl (wpAny_bind (WB pu (wpAny_bind (P0 ?_)))));show R5 _ _ (match dS lo hi 1 (n:P1) with|(lo,hi)=>pure (lo,(1:P1),bG lo hi 1)) _ _ s;rw [Gd lo hi n];show R5 _ _ (pure (((sIx n 0 lo:G6):P1),(1:P1),bG ((sIx n 0 lo:G6):P1) ((sIx n n hi:G6):P1) 1)) _ _ s;rw [Ge];exact P0 h
def MP (xs:S9 G2)(i k:G6):((P5 k).filterMap λ(m:G6)=>xs[((i:P1)+(m:P1)*1).toNat]?).toArray=((xs.toList.drop i).take k).toArray:=by
 have e:(λ(m:G6)=>xs[((i:P1)+(m:P1)*1).toNat]?)=λm=>xs[i+m]? :=by
  funext m
  have:((i:P1)+(m:P1)*1).toNat=i+m:=by omega
  rw [this]
 rw [e];have:=pick_run xs i k;rw [List.filterMap_map] at this;have e2:((λx=>xs[x]?)∘λx=>i+x)=λm=>xs[i+m]? :=rfl
 rw [e2] at this;rw [this]
def Jw {t sl:P2}{items:S9 G2}{vl vu:G2}{lo hi:D4 P1}{Q:G2->G5->Prop}(ht:IH s.heap t items)(hs:s.heap.IsSliceOf sl vl vu .none)(pl:nD vl lo)(pu:nD vu hi)
 (hw: ¬ (sIx items.size 0 lo=0/\sIx items.size items.size hi=items.size))
 (h:Q (.ref s.heap.objs.size) {s with heap:=s.heap.push {cls:= .type "tuple",data:= .seq ((items.toList.drop (sIx items.size 0 lo)).take (sIx items.size items.size hi-sIx items.size 0 lo)).toArray}})
 (hsz:items.size<=sizeLine):R5 (S0 prog w) A (mB (.ref t) (.ref sl)) Q E s:=by
 have Ż:sizeOk (.seq ((items.toList.drop (sIx items.size 0 lo)).take (sIx items.size items.size hi-sIx items.size 0 lo)).toArray):=by
  show ((items.toList.drop (sIx items.size 0 lo)).take (sIx items.size items.size hi-sIx items.size 0 lo)).toArray.size<=sizeLine;rw [R4,T5,C0,D3];omega
 have hj:sIx items.size items.size hi<=items.size:=Ad _ _ (P6 _) hi;obtain⟨os,hos,hcs,hds⟩:=id hs;have hTs:s.TypeIs (.ref sl) "slice" :=⟨os,hos,hcs⟩;unfold mB
 try with_reducible refine O8 ?_
 first|refine wpAny_bind (P0 ?_)|skip
 refine wpAny_bind (mC ht.typeIs (by decide) ?_);refine wpAny_bind (O6 (name:=W4 "__getitem__") ht.typeIs Y4
  (L6 Y4 ht.typeIs pU ?_ (qG _ _)))
 show R5 _ _ (aZ (.ref t) >>= _) _ _ s;refine wpAny_bind (v9 ht ?_);refine wpAny_bind (iY hTs ?_);rw [R9 (by decide)];refine wpAny_bind (yl hs pl pu ?_);have hno: ¬ ((((sIx items.size 0 lo:G6):P1)==0&&(1:P1)==1&&(sIx items.size items.size hi-sIx items.size 0 lo)==items.size)=true):=by
  intro q;rw [F4,F4] at q;have q1:((sIx items.size 0 lo:G6):P1)=0:=eq_of_beq q.1.1;have q2:sIx items.size items.size hi-sIx items.size 0 lo=items.size:=eq_of_beq q.2;exact hw ⟨by omega,by omega⟩
 show R5 _ _ (if (((sIx items.size 0 lo:G6):P1)==0&&(1:P1)==1&&(sIx items.size items.size hi-sIx items.size 0 lo)==items.size)=true then _ else _) _ _ s;rw [S4 hno,MP]
 first
  |exact wpAny_bind (m:=bU _) (aH (P0 ⟨_,rfl,P0 h⟩) Ż)
  |exact wpAny_bind (m:=bU _) (aH (wpAny_bind (P0 (P0 ⟨_,rfl,P0 h⟩))) Ż)
  |exact wpAny_bind (wpAny_bind (m:=bU _) (aH (P0 (P0 ⟨_,rfl,P0 h⟩)) Ż))
  |exact wpAny_bind (wpAny_bind (m:=bU _) (aH (P0 ⟨_,rfl,P0 h⟩) Ż))
end
end HT
namespace L2
open PySem PySem.Spec PyProof.Rows
abbrev TO:=St->Hp->(D4 P1->Hp->Prop)->Prop
def PO (X:Cx)(e:D4 N3)(t:TO):Prop:=
 ∀ (À:G0 (P2×Obj)) (s:G5) (σ:St) (H:Hp) (Q:D4 P1->Hp->Prop),Inv X À σ H s->t σ H Q->
  R5 (S0 X.prog X.w) X.A (evalPart e X.env) (λu s'=> ∃o H',Inv X À σ H' s'/\nD u o/\Q o H') X.xe s
def CJ:TO:=λ_ H Q=>Q none H
def Te (t:TE):TO:=λσ H Q=>t σ H λx H1=> ∃i,x= .int i/\Q (some i) H1
section
variable {X:Cx}{e:N3}{te:TE}{lo hi:D4 N3}{tl th:TO}{pos p2:Pos}
def X0d:PO X none CJ:=by
 intro À s σ H Q I h;rw [p7];exact P0 ⟨none,H,I,.none,h⟩
def CK (h:PE X e te):PO X (some e) (Te te):=by
 intro À s σ H Q I hw;rw [w6];refine Ô (h À s σ H _ I hw) λu s1 ⟨x,H1,I1,r1,q1⟩=> ?_
 obtain⟨i,rfl,q⟩:=q1;obtain⟨t,rfl⟩:=r1;exact⟨some i,H1,I1,.int i t,q⟩
def SlR (X:Cx)(r:V->D4 P1->D4 P1->Hp->VK->Prop):Prop:=
 ∀ (À:G0 (P2×Obj)) (s:G5) (σ:St) (H:Hp) (x:V) (v vl vu:G2) (lo hi:D4 P1) (sl:P2) (Q:VK),Inv X À σ H s->RelV x v->s.heap.IsSliceOf sl vl vu .none->nD vl lo->nD vu hi->r x lo hi H Q->
  ∃T id,G0v (.type T) "__getitem__" =pure (some (.builtin id))/\s.TypeIs v T/\R5 (S0 X.prog X.w) X.A (mB v (.ref sl)) (EP X À σ Q) X.xe s
def SlR.or {r r':V->D4 P1->D4 P1->Hp->VK->Prop}(h:SlR X r)(h':SlR X r'):SlR X (λx lo hi H Q=>r x lo hi H Q\/r' x lo hi H Q):=by
 intro À s σ H x v vl vu lo hi sl Q I rx hs pl pu q;rcases q with q|q
 ·exact h À s σ H x v vl vu lo hi sl Q I rx hs pl pu q
 ·exact h' À s σ H x v vl vu lo hi sl Q I rx hs pl pu q
def tSl (r:V->D4 P1->D4 P1->Hp->VK->Prop)(te:TE)(tl th:TO):TE:=λσ H Q=>te σ H λx H1=>tl σ H1 λl H2=>th σ H2 λu H3=>r x l u H3 Q
def MQ {r:V->D4 P1->D4 P1->Hp->VK->Prop}(hr:SlR X r)(he:PE X e te)(hl:PO X lo tl)(hu:PO X hi th):PE X (.Subscript e (.Slice lo hi none p2) pos) (tSl r te tl th):=by
 intro À s σ H Q I h;refine qH (Ô (he À s σ H _ I h) λv s1 ⟨x,H1,I1,r1,q1⟩=> ?_);refine IP (Ô (hl À s1 σ H1 _ I1 q1) λvl s2 ⟨l,H2,I2,pl,q2⟩=>Ô (hu À s2 σ H2 _ I2 q2) λvu s3 ⟨u,H3,I3,pu,q3⟩=> ?_);rw [p7];refine P0 ?_;have I4:Inv X À σ H3 {s3 with heap:=s3.heap.push {cls:= .type "slice",data:= .fields #[vl,vu,.none]}}:=I3.kept (t':=s3.toks) λb ob q=>G9 _ q
 obtain⟨T,id,hT,ht,hg⟩:=hr À {s3 with heap:=s3.heap.push {cls:= .type "slice",data:= .fields #[vl,vu,.none]}} σ H3 x v vl vu l u s3.heap.objs.size Q I4 r1 (Heap.IsSliceOf.new ..) pl pu q3;show R5 (S0 X.prog X.w) X.A (mH e (.Slice lo hi none p2) v (.ref s3.heap.objs.size)) (EP X À σ Q) X.xe {s3 with heap:=s3.heap.push {cls:= .type "slice",data:= .fields #[vl,vu,.none]}};exact IQ (ops:= [.ref s3.heap.objs.size,v]) ht hT hg (by with_unfolding_all rfl)
noncomputable def Mw (xs:G0 V)(lo hi:D4 P1):G0 V:=(xs.drop (HT.sIx xs.length 0 lo)).take (HT.sIx xs.length xs.length hi-HT.sIx xs.length 0 lo)
def ZE (xs:G0 V)(lo hi:D4 P1):(Mw xs lo hi).length<=xs.length:=by
 unfold Mw;rw [T5,C0];omega
def KL (K:G7):V->D4 P1->D4 P1->Hp->VK->Prop:=λx lo hi H Q=> ∃a xs,x= .ref a/\ö K H a xs/\
 ¬ (HT.sIx xs.length 0 lo=0/\HT.sIx xs.length xs.length hi=xs.length)/\ ∀p,H p=none->Q (.ref p) (upd H p (.tup (Mw xs lo hi)))
def X0v:SlR X (KL X.K):=by
 intro À s σ H x v vl vu lo hi sl Q I rx hs pl pu h;obtain⟨a,xs,rfl,hx,hw,q⟩:=h;cases rx;obtain⟨its,r,ht,hz⟩:=I.tuple hx;have hlen:its.toArray.size=xs.length:=by rw [R4];exact r.length.symm
 refine⟨"tuple",_,PyProof.Rows.slot_tuple_getitem.lookup,ht.typeIs,?_⟩;refine HT.Jw ht hs pl pu (by rw [hlen];exact hw) ?_ (by rw [hlen];exact hz);rw [hlen];refine⟨.ref s.heap.objs.size,_,I.laid (t':=s.toks) (o:= .tup (Mw xs lo hi)) (λb ob q=>G9 _ q) (P6 _) ?_,rfl,q _ (I.hok.fresh (P6 _))⟩;exact⟨R8 (ZE xs lo hi) hz,_,(r.drop (HT.sIx xs.length 0 lo)).take (HT.sIx xs.length xs.length hi-HT.sIx xs.length 0 lo),ì.new _ _⟩
def Tf (K:G7):R2:=λx y H Q=> ∃a b xs ys,x= .ref a/\y= .ref b/\ö K H a xs/\ö K H b ys/\xs≠ []/\xs.length+ys.length<=sizeLine/\
 (ys= []->Q (.ref a) H)/\(ys≠ []-> ∀p,H p=none->Q (.ref p) (upd H p (.tup (xs++ys))))
def Ç.nil_iff {xs:G0 V}{us:G0 G2}(r:Ç xs us):us= []↔xs= []:=by
 cases r with
 |nil=>simp
 |cons _ _=>simp
def X0e:ø X (Q5 .Add) (Tf X.K):=by
 intro À s σ H x y v u Q I rx ry h;obtain⟨a,b,xs,ys,rfl,rfl,ha,hb,hx,hz,q1,q2⟩:=h;cases rx;cases ry;obtain⟨its,r1,p1,_⟩:=I.tuple ha;obtain⟨ę,r2,p2,_⟩:=I.tuple hb;refine HT.CI p1 p2 (λz=>hx (r1.nil_iff.mp z)) (λz=>⟨.ref a,H,I,rfl,q1 (r2.nil_iff.mp z)⟩) (λz=> ?_) (by rw [<-r1.length,<-r2.length];exact hz);refine⟨.ref s.heap.objs.size,_,I.laid (t':=s.toks) (o:= .tup (xs++ys)) (λb ob q=>G9 _ q) (P6 _) ?_,rfl,q2 (λw=>z (r2.nil_iff.mpr w)) _ (I.hok.fresh (P6 _))⟩;exact⟨by rw [P3];exact hz,_,r1.append r2,ì.new _ _⟩
end
noncomputable def ū (n:G6)(i:P1):D4 G6:=if 0<=i then (if i<n then some i.toNat else none) else if-(n:P1)<=i then some (i+n).toNat else none
noncomputable def ć {α:Type}(xs:G0 α)(i:P1):D4 α:=(ū xs.length i).bind λj=>xs[j]?
def Pm {n:G6}{i:P1}{j:G6}(h:ū n i=some j):seqIndex? i n=some j/\j<n/\ -(n:P1)<=i/\i<n:=by
 unfold ū at h
 by_cases h0:0<=i
 ·rw [R9 h0] at h
  by_cases h1:i<n
  ·rw [R9 h1] at h;have e:i.toNat=j:=A2 h;exact⟨by rw [sV h0 h1,e],by omega,by omega,h1⟩
  ·rw [S4 h1] at h;cases h
 ·rw [S4 h0] at h
  by_cases h1: -(n:P1)<=i
  ·rw [R9 h1] at h;have e:(i+n).toNat=j:=A2 h;exact⟨by rw [rA (by omega) h1,e],by omega,h1,by omega⟩
  ·rw [S4 h1] at h;cases h
def UR {α:Type}{xs:G0 α}{i:P1}{v:α}(h:ć xs i=some v): ∃j,seqIndex? i xs.length=some j/\xs[j]? =some v/\j<xs.length/\ -(xs.length:P1)<=i/\i<xs.length:=by
 unfold ć at h;cases e:ū xs.length i with
 |none=>rw [e] at h;cases h
 |some j=>
  rw [e] at h;obtain⟨h1,h2,h3,h4⟩:=Pm e;exact⟨j,h1,h,h2,h3,h4⟩
def zY {α:Type}{xs:G0 α}{j:G6}{v:α}(h:xs[j]? =some v):ć xs (j:P1)=some v:=by
 have hj:j<xs.length:=(P7.mp h).1;have e:ū xs.length (j:P1)=some j:=by
  unfold ū;rw [R9 (by omega),R9 (by omega)];simp
 unfold ć;rw [e];exact h
def Yd (b:N3):Prop:= ∀o i,oV b false o i=G0P [o,i] (mB o i)
def IxR (X:Cx)(r:R2):Prop:=
 ∀ (value slice:N3) (À:G0 (P2×Obj)) (s:G5) (σ:St) (H:Hp) (x y:V) (v u:G2) (Q:VK),Inv X À σ H s->RelV x v->RelV y u->r x y H Q->
  oV slice false v u=G0P [v,u] (mB v u)->R5 (S0 X.prog X.w) X.A (mH value slice v u) (EP X À σ Q) X.xe s
def MtR (X:Cx)(id:W3)(r:V->G0 V->Hp->VK->Prop):Prop:=
 ∀ (À:G0 (P2×Obj)) (s:G5) (σ:St) (H:Hp) (x:V) (xs:G0 V) (v:G2) (us:G0 G2) (Q:VK),Inv X À σ H s->RelV x v->Ç xs us->r x xs H Q->
  R5 (S0 X.prog X.w) X.A (call (.builtin id) (v::us)) (EP X À σ Q) X.xe s
section
variable {X:Cx}{a b:N3}{ta tb:TE}{pos:Pos}
def IxR.or {r r':R2}(h:IxR X r)(h':IxR X r'):IxR X (λx y H Q=>r x y H Q\/r' x y H Q):=by
 intro value slice À s σ H x y v u Q I rx ry q hs;rcases q with q|q
 ·exact h value slice À s σ H x y v u Q I rx ry q hs
 ·exact h' value slice À s σ H x y v u Q I rx ry q hs
def Tg {r:R2}(hr:IxR X r)(ha:PE X a ta)(hb:PE X b tb)(hs:Yd b):PE X (.Subscript a b pos) (tOp r ta tb):=by
 intro À s σ H Q I h;exact qH (SW ha hb I h λv u s2 x y H2 I2 rx ry q=>hr a b À s2 σ H2 x y v u Q I2 rx ry q (hs _ _))
def Kb (K:G7):R2:=λx y H Q=> ∃p xs i v,x= .ref p/\y= .int i/\è K H p xs/\ć xs i=some v/\Q v H
def Kc (K:G7):R2:=λx y H Q=> ∃p xs i v,x= .ref p/\y= .int i/\ö K H p xs/\ć xs i=some v/\Q v H
def Kd:R2:=λx y H Q=> ∃z i c,x= .str z/\y= .int i/\z.length<=sizeLine/\ć z.cps.toList i=some c/\Q (.str ⟨#[c]⟩) H
def X0f:IxR X (Kb X.K):=by
 intro value slice À s σ H x y v u Q I rx ry h hs;obtain⟨p,xs,i,z,rfl,rfl,hq,he,q⟩:=h;cases rx;obtain⟨t,rfl⟩:=ry;obtain⟨its,r,pl,hz⟩:=I.list hq;obtain⟨j,h1,h2,h3,h4,h5⟩:=UR he;obtain⟨w,ew,rw'⟩:=r.get h2;have hl:=r.length;have hn:=Vu;have fin:EP X À σ Q w s:=⟨z,H,I,rw',q⟩
 by_cases h0:0<=i
 ·have hj:i.toNat=j:=by
   rw [sV h0 h5] at h1;exact A2 h1
  exact item_listR pl.isList h0 (by omega) (by rw [hj];simpa using ew) fin hs
 ·have hj:(i+(its.toArray.size:P1)).toNat=j:=by
   rw [rA (by omega) h4] at h1;rw [R4,<-hl];exact A2 h1
  exact nE (x:=w) pl.isList.typeIs slot_list_getitem.lookup
   (wpAny_getItem_list_neg (Q:=λr s'=>r=w/\EP X À σ Q r s') pl.isList (by omega) (by rw [R4]<;>omega) (by omega) (by rw [hj];simpa using ew) ⟨rfl,fin⟩) hs
def X0w:IxR X (Kc X.K):=by
 intro value slice À s σ H x y v u Q I rx ry h hs;obtain⟨p,xs,i,z,rfl,rfl,hq,he,q⟩:=h;cases rx;obtain⟨t,rfl⟩:=ry;obtain⟨its,r,pl,hz⟩:=I.tuple hq;obtain⟨j,h1,h2,h3,h4,h5⟩:=UR he;obtain⟨w,ew,rw'⟩:=r.get h2;have hl:=r.length;have hn:=Vu;have fin:EP X À σ Q w s:=⟨z,H,I,rw',q⟩;exact nE (x:=w) pl.typeIs slot_tuple_getitem.lookup
  (getItem_tuple (j:=j) (Q:=λr s'=>r=w/\EP X À σ Q r s') pl (by omega) (by omega) (by rw [R4,<-hl];exact h1) (by simpa using ew) ⟨rfl,fin⟩) hs
def Ae:IxR X Kd:=by
 intro value slice À s σ H x y v u Q I rx ry h hs;obtain⟨z,i,c,rfl,rfl,hz,he,q⟩:=h;obtain⟨t,rfl⟩:=rx;obtain⟨t',rfl⟩:=ry;obtain⟨j,h1,h2,h3,h4,h5⟩:=UR he;have hl:z.cps.toList.length=z.length:=by simp [Str.length]
 rw [hl] at h1 h4 h5;have hn:=Vu;exact IQ (G0w s z t) slot_str_getitem.lookup (getItem_str (c:=c) (by
  have e1:decide (i< -(2^63:P1))=false:=T3 (by omega);have e2:decide (i>=2^63)=false:=T3 (by omega);rw [e1,e2,mI]) (by rw [h1];simpa using h2) ⟨.str ⟨#[c]⟩,H,I.tok _,⟨_,rfl⟩,q⟩) hs
def rIx (K:G7):R2:=λx y H Q=>Kb K x y H Q\/Kc K x y H Q\/Kd x y H Q
def Af:IxR X (rIx X.K):=X0f.or (X0w.or Ae)
def Gf (its:G0 G2)(n j:G6)(u:G2):aN (·.setIfInBounds j u) {cls:= .type "list",data:= .seq its.toArray n}= {cls:= .type "list",data:= .seq (its.set j u).toArray n}:=by
 simp [aN]
def Inv.lst {À:G0 (P2×Obj)}{σ:St}{H:Hp}{s:G5}{p:P2}{xs:G0 V}(I:Inv X À σ H s)(h:H p=some (.lst xs)):
 ∃ (its:G0 G2) (n:G6),Ç xs its/\s.heap.get? p=some {cls:= .type "list",data:= .seq its.toArray n}/\xs.length<=sizeLine:=by
 obtain⟨z,its,n,r,e⟩:=I.hok p _ h;exact⟨its,n,r,e,z⟩
def Inv.lstUpd {À:G0 (P2×Obj)}{σ:St}{H:Hp}{s:G5}{p:P2}{xs ys:G0 V}{its its':G0 G2}{n n':G6}{f:Obj->Obj}(I:Inv X À σ H s)(h:H p=some (.lst xs))
 (ho:s.heap.get? p=some {cls:= .type "list",data:= .seq its.toArray n})(hf:f {cls:= .type "list",data:= .seq its.toArray n}= {cls:= .type "list",data:= .seq its'.toArray n'})(r:Ç ys its')(hz:ys.length<=sizeLine)(t:G6):
 Inv X À σ (upd H p (.lst ys)) {s with heap:=s.heap.update p f,toks:=t}:=by
 have e:(s.heap.update p f).get? p=some {cls:= .type "list",data:= .seq its'.toArray n'}:=by
  rw [L9 f ho (by rw [hf]<;>rfl),hf]
 refine I.write (x:=p) (e:=p) (by rw [h];trivial) (.inl rfl) (λb u hb q=>(cI _ _ (I0 hb)).trans q) ⟨_,e⟩ ?_;exact⟨hz,its',n',r,e⟩
def Th:V->V->V->Hp->(Hp->Prop)->Prop:=λo i v H Q=> ∃p xs k j,o= .ref p/\i= .int k/\H p=some (.lst xs)/\ū xs.length k=some j/\Q (upd H p (.lst (xs.set j v)))
def MR:HQ X Th:=by
 intro À s σ H o i v ov iv u Q I ro ri rv h;obtain⟨p,xs,k,j,rfl,rfl,hp,hj,q⟩:=h;cases ro;obtain⟨t,rfl⟩:=ri;obtain⟨its,n,r,ho,hz⟩:=I.lst hp;obtain⟨h1,h2,h3,h4⟩:=Pm hj;have hl:=r.length;have hn:=Vu;have I':Inv X À σ (upd H p (.lst (xs.set j v))) {s with heap:=s.heap.update p (aN (·.setIfInBounds j u))}:=
  I.lstUpd hp ho (Gf its n j u) (r.set rv j) (by rw [tG];exact hz) s.toks
 by_cases h0:0<=k
 ·have hk:k.toNat=j:=by
   rw [sV h0 h4] at h1;exact A2 h1
  exact G0X ho h0 (by omega) (by rw [R4,<-hl];exact h4) (by rw [hk];exact⟨_,I',q⟩)
 ·have hk:(k+(its.toArray.size:P1)).toNat=j:=by
   rw [rA (by omega) h3] at h1;rw [R4,<-hl];exact A2 h1
  exact G0x ho (by omega) (by rw [R4,<-hl];exact h3) (by omega) (by rw [hk];exact⟨_,I',q⟩)
def VA (lo hi:D4 P1)(n:G6):(gB lo hi none n).1=((HT.sIx n 0 lo:G6):P1)/\(gB lo hi none n).2.1=((HT.sIx n n hi:G6):P1)/\(gB lo hi none n).2.2=1:=by
 refine⟨?_,?_,rfl⟩
 ·cases lo with
  |none=>simp [gB,HT.sIx]
  |some i=>
   simp only [gB,HT.sIx,sG,show (1:P1)>0 by decide,pO]
   by_cases h:i<0
   ·simp only [h,pO]<;>omega
   ·simp only [h,oU]<;>omega
 ·cases hi with
  |none=>simp [gB,HT.sIx]
  |some i=>
   simp only [gB,HT.sIx,sG,show (1:P1)>0 by decide,pO]
   by_cases h:i<0
   ·simp only [h,pO]<;>omega
   ·simp only [h,oU]<;>omega
def Ye (its:G0 G2)(lo hi:D4 P1):slicePick its.toArray lo hi none=((its.drop (HT.sIx its.length 0 lo)).take (HT.sIx its.length its.length hi-HT.sIx its.length 0 lo)).toArray:=by
 obtain⟨h1,h2,h3⟩:=VA lo hi its.toArray.size;unfold slicePick;rw [h1,h2,h3];simp only [sliceRange_one,pick_run,R4]<;>rfl
def KM (K:G7):V->D4 P1->D4 P1->Hp->VK->Prop:=λx lo hi H Q=> ∃a xs,x= .ref a/\è K H a xs/\ ∀p,H p=none->Q (.ref p) (upd H p (.lst (Mw xs lo hi)))
def CL:SlR X (KM X.K):=by
 intro À s σ H x v vl vu lo hi sl Q I rx hs pl pu h;obtain⟨a,xs,rfl,hx,q⟩:=h;cases rx;obtain⟨its,r,ht,hz⟩:=I.list hx;have hlen:=r.length;refine⟨"list",_,slot_list_getitem.lookup,ht.isList.typeIs,?_⟩;refine mJ ht.isList hs pl pu .none (by simp) ?_ (by rw [R4]<;>omega);rw [Ye,<-hlen];refine⟨.ref s.heap.objs.size,_,I.laid (t':=s.toks) (o:= .lst (Mw xs lo hi)) (λb ob q=>G9 _ q) (P6 _) ?_,rfl,q _ (I.hok.fresh (P6 _))⟩;exact⟨R8 (ZE xs lo hi) hz,_,0,(r.drop (HT.sIx xs.length 0 lo)).take (HT.sIx xs.length xs.length hi-HT.sIx xs.length 0 lo),S6 _ rfl⟩
def Ŋ:â X (.builtin "len") (λxs H Q=> ∃p ys,xs= [.ref p]/\(è X.K H p ys\/ö X.K H p ys)/\Q (.int ys.length) H):=by
 intro À s σ H xs us Q I r h;obtain⟨p,ys,rfl,hq,q⟩:=h;obtain⟨u,rfl,rx⟩:=Zp r;cases rx;have hn:=Vu;rcases hq with hq|hq
 ·obtain⟨its,r',pl,hz⟩:=I.list hq;have hlen:=r'.length;exact Calls.call_len_list pl.isList (by simp only [R4]<;>omega) ⟨.int ys.length,H,I.tok _,⟨s.toks+1,by rw [R4,hlen]⟩,q⟩
 ·obtain⟨its,r',pl,hz⟩:=I.tuple hq;have hlen:=r'.length;exact len_tuple pl (by simp only [R4]<;>omega) ⟨.int ys.length,H,I.tok _,⟨s.toks+1,by rw [R4,hlen]⟩,q⟩
def ĺ:â X (.type "tuple") (λxs H Q=> ∃p ys,xs= [.ref p]/\((è X.K H p ys/\ ∀l,H l=none->Q (.ref l) (upd H l (.tup ys)))\/(ö X.K H p ys/\Q (.ref p) H))):=by
 intro À s σ H xs us Q I r h;obtain⟨p,ys,rfl,h⟩:=h;obtain⟨u,rfl,rx⟩:=Zp r;cases rx;rcases h with ⟨hq,q⟩|⟨hq,q⟩
 ·obtain⟨its,r',pl,hz⟩:=I.list hq;have hlen:=r'.length;refine call_tuple_list pl.isList (λh' kp=> ?_) (by simp only [R4]<;>omega);have I1:Inv X À σ H {s with heap:=h'}:=I.kept (t':=s.toks) kp;have I2:Inv X À σ (upd H h'.objs.size (.tup ys)) {s with heap:=h'.push {cls:= .type "tuple",data:= .seq its.toArray}}:=
   I1.laid (t':=s.toks) (λb o e=>G9 _ e) (P6 _) (show Ø X.prog X.w _ _ _ (.tup ys) from ⟨hz,its,r',ì.new _ _⟩)
  exact⟨.ref h'.objs.size,_,I2,rfl,q _ (I1.hok.fresh (P6 _))⟩
 ·obtain⟨its,r',pl,hz⟩:=I.tuple hq;exact call_tuple_same pl ⟨.ref p,H,I,rfl,q⟩
def tyV (K:G7)(T:W3)(x:V)(H:Hp):Prop:=match x with
 | .str _=>T= "str"
 | .int _=>T= "int"
 | .ref p=>(T= "list" /\ ∃xs,è K H p xs)\/(T= "tuple" /\ ∃o,K.lookup p=some o/\o.cls= .type "tuple" /\o.dict=none)\/
  (T= "dict" /\((∃ý,H p=some (.dK ý))\/ ∃ý,H p=some (.dT ý)))\/(T= "set" /\ ∃S n,H p=some (.set S n))
 |_=>False
def Ag {À:G0 (P2×Obj)}{σ:St}{H:Hp}{s:G5}{T:W3}{x:V}{v:G2}(I:Inv X À σ H s)(r:RelV x v)(ty:tyV X.K T x H):
 s.TypeIs v T/\ ∀a,v= .ref a-> ∃ob,s.heap.get? a=some ob/\ob.dict=none:=by
 cases x with
 |str z=>
  obtain⟨t,rfl⟩:=r;cases (show T= "str" from ty);exact⟨G0w s z t,λ_ e=>nomatch e⟩
 |int i=>
  obtain⟨t,rfl⟩:=r;cases (show T= "int" from ty);exact⟨nG s i t,λ_ e=>nomatch e⟩
 |ref p=>
  cases r;rcases ty with ⟨rfl,xs,hq⟩|⟨rfl,o,hk,hc,hd⟩|⟨rfl,hk⟩|⟨rfl,S,n,hk⟩
  ·obtain⟨its,_,pl,_⟩:=I.list hq;refine⟨pl.isList.typeIs,λa e=> ?_⟩;cases e;obtain⟨o,n,e,c,hd,_⟩:=pl;exact⟨o,e,hd⟩
  ·refine⟨⟨o,I.kIn p o hk,hc⟩,λa e=> ?_⟩;cases e;exact⟨o,I.kIn _ o hk,hd⟩
  ·have z: ∃o,s.heap.get? p=some o/\o.ExactDict:=by
    rcases hk with ⟨ý,hk⟩|⟨ý,hk⟩
    ·obtain⟨_,_,_,_,o,_,_,e,ex,_⟩:=I.hok p _ hk;exact⟨o,e,ex⟩
    ·obtain⟨_,_,_,_,o,_,_,e,ex,_⟩:=I.hok p _ hk;exact⟨o,e,ex⟩
   obtain⟨o,e,ex⟩:=z;refine⟨⟨o,e,ex.1⟩,λa e2=> ?_⟩;cases e2;exact⟨o,e,ex.2.1⟩
  ·obtain⟨o,_,_,_,e,ex,_⟩:=I.hok p _ hk;refine⟨⟨o,e,ex.1⟩,λa e2=> ?_⟩;cases e2;exact⟨o,e,ex.2.1⟩
 |_=>exact False.elim ty
def tBM (K:G7)(T:W3)(r:V->G0 V->Hp->VK->Prop)(to:TE)(t:TA):TE:=λσ H Q=>to σ H λx H1=>tyV K T x H1/\t σ H1 λxs H2=>r x xs H2 Q
variable {o e:N3}{es:G0 N3}{to:TE}{t:TA}{name:Str}{apos Ï:Pos}{T id:W3}{r:V->G0 V->Hp->VK->Prop}
def MS (pa:PlainAttrs T)(slot:Slot T name id)(hty:typeOf (.builtin id)=pure (.type "method_descriptor"))(hm:MtR X id r)(ho:PE X o to)(ha:PA X (e::es) t)
 (hbase:bV o name X.env (K0 o X.env)=K0 o X.env:=by rfl)
 (hfew:((U8 Ï (S5 (e::es) X.env)).all (λx=> !x.1)&&(j5 Ï (dF [] X.env)).all (λx=>x.1.isSome)
  &&decide ((e::es).length+([]:G0 cJ).length+(if ([]:G0 cJ).isEmpty then 0 else 1)<30))=true:=by rfl)
 (hline:(apos.endLine==Ï.line)=true:=by rfl)(hs:S5 (e::es) X.env=(false,K0 e X.env)::S5 es X.env:=by rfl)(hplain:(U8 Ï (S5 es X.env)).any (·.1)=false:=by rfl):
 PE X (.Call (.Attribute o name apos) (e::es) [] Ï) (tBM X.K T r to t):=by
 intro À s σ H Q I h;refine wpAny_Call_method_late hbase hfew hline rfl (Ô (ho À s σ H _ I h) λv s1 ⟨x,H1,I1,r1,ty,q1⟩=> ?_);obtain⟨h1,h2⟩:=Ag I1 r1 ty;refine⟨T,id,pa,slot,hty,h1,h2,?_⟩;have hA:=ha Ï À s1 σ H1 _ I1 q1;rw [hs] at hA ⊢;refine Calls.callWith_builtin (by show (false||(U8 Ï (S5 es X.env)).any (·.1))=false;rw [hplain]<;>rfl) (Calls.evalArgs_plain ?_);exact Ô hA λus s2 ⟨vs,H2,I2,r2,q2⟩=>hm À s2 σ H2 x vs v us Q I2 r1 r2 q2
end
def MtM (X:Cx)(id:W3)(r:V->G0 V->Hp->VK->Prop):Prop:=
 ∀ (À:G0 (P2×Obj)) (s:G5) (σ:St) (H:Hp) (x:V) (xs:G0 V) (v:G2) (us:G0 G2) (Q:VK),Inv X À σ H s->RelV x v->Ç xs us->r x xs H Q->
  R5 (S0 X.prog X.w) X.A (call (.builtin id) (v::us)) (EP X À σ Q) X.xe s
def Ç.one: ∀ {x:V} {us:G0 G2},Ç [x] us-> ∃u,us= [u]/\RelV x u
 |_,_,.cons r .nil=>⟨_,rfl,r⟩
def Ç.rep {xs:G0 V}{us:G0 G2}(h:Ç xs us): ∀k:G6,Ç (B3 k xs).flatten (B3 k us).flatten
 |0=> .nil
 |k+1=>by
  rw [X9,X9,bK,bK];exact Ç.append h (Ç.rep h k)
theorem ZF (its:G0 G2): ∀ (k:G6) (acc:G0 G2),
 uI (λx1 x2=>x1++x2) acc.toArray (B3 k its.toArray)=(acc++(B3 k its).flatten).toArray
 |0,acc=>by simp
 |k+1,acc=>by
  have e:acc.toArray++its.toArray=(acc++its).toArray:=by simp
  have e2:(acc++its)++(B3 k its).flatten=acc++(B3 (k+1) its).flatten:=by
   rw [X9,bK,D5]
  rw [<-e2,<-ZF its k (acc++its),<-e,X9,n6]
section
variable {X:Cx}{À:G0 (P2×Obj)}{σ:St}{H:Hp}{s:G5}{l b:P2}{xs ys zs:G0 V}
def Inv.lset {its its':G0 G2}{n:G6}{f:S9 G2->S9 G2}{t':G6}(I:Inv X À σ H s)(hH:H l=some (.lst xs))
 (e:s.heap.get? l=some {cls:= .type "list",data:= .seq its.toArray n})(hf:f its.toArray=its'.toArray)(hv:Ç ys its')(hz:ys.length<=sizeLine):
 Inv X À σ (upd H l (.lst ys)) {s with heap:=s.heap.update l (aN f),toks:=t'}:=by
 have q:=PySem.IsL.update e f;rw [hf] at q;refine I.write (x:=l) (e:=l) (by rw [hH];exact trivial) (.inl rfl) (λb' u hb hu=>(cI s.heap (aN f) (I0 hb)).trans hu) ⟨_,q⟩ ?_;exact⟨hz,its',_,hv,q⟩
def Inv.lnew {its:G0 G2}{t':G6}(I:Inv X À σ H s)(hv:Ç ys its)(hz:ys.length<=sizeLine):
 Inv X À σ (upd H s.heap.objs.size (.lst ys)) {s with heap:=s.heap.push {cls:= .type "list",data:= .seq its.toArray},toks:=t'}:=
 I.laid (λ_ _ q=>G9 _ q) (P6 _) ⟨hz,its,0,hv,S6 _ rfl⟩
def Inv.fresh (I:Inv X À σ H s):H s.heap.objs.size=none:=I.hok.fresh (P6 _)
def Inv.lstM (I:Inv X À σ H s)(hH:H l=some (.lst xs)):xs.length<=sizeLine/\ ∃ (its:G0 G2) (n:G6),Ç xs its/\xs.length=its.length/\s.heap.get? l=some {cls:= .type "list",data:= .seq its.toArray n}:=by
 obtain⟨z,its,n,r,e⟩:=I.hok l _ hH;exact⟨z,its,n,r,r.length,e⟩
def XV {n:G6}(h:n<=sizeLine):bW n=false:=by
 unfold bW;exact T3 (by omega)
end
section
variable {X:Cx}
def CM:V->G0 V->Hp->VK->Prop:=λx vs H Q=> ∃l xs y,x= .ref l/\vs= [y]/\H l=some (.lst xs)/\xs.length<sizeLine/\Q .non (upd H l (.lst (xs++ [y])))
def Po:MtM X "list.append" CM:=by
 intro À s σ H x vs v us Q I rx rv h;obtain⟨l,xs,y,rfl,rfl,hH,hz,q⟩:=h;cases rx;obtain⟨u,rfl,ru⟩:=rv.one;obtain⟨z,its,n,r,hl,e⟩:=I.lstM hH;refine j6 F.slot_list_append ⟨_,e,rfl⟩ F.entry_list_append (F.args_list_append_2 _ _) (PySem.list_append l its.toArray n u (by rw [R4];omega)) ⟨e,?_⟩;refine⟨.non,_,I.lset (its':=its++ [u]) hH e (by simp) (r.append (.cons ru .nil)) ?_,rfl,q⟩;rw [P3,cV];omega
def CN:V->G0 V->Hp->VK->Prop:=λx vs H Q=> ∃l b xs zs,x= .ref l/\vs= [.ref b]/\H l=some (.lst xs)/\H b=some (.lst zs)/\xs.length+zs.length<=sizeLine/\Q .non (upd H l (.lst (xs++zs)))
def Pp:MtM X "list.extend" CN:=by
 intro À s σ H x vs v us Q I rx rv h;obtain⟨l,b,xs,zs,rfl,rfl,hH,hB,hz,q⟩:=h;cases rx;obtain⟨u,rfl,ru⟩:=rv.one;cases ru;obtain⟨z,its,n,r,hl,e⟩:=I.lstM hH;obtain⟨z2,ę,n2,r2,hl2,e2⟩:=I.lstM hB;have hsz:its.toArray.size+ę.toArray.size<=sizeLine:=by rw [R4,R4];omega
 have ο: ¬ (!its.toArray.isEmpty&&bW (its.toArray.size+ę.toArray.size))=true:=by
  rw [XV hsz,a8];exact D6
 refine j6 F.slot_list_extend ⟨_,e,rfl⟩ F.entry_list_extend (F.args_list_extend_2 _ _)
  (AutoSeq1.list_extend_list_list_0 l its.toArray n b ę.toArray n2 ο (by rw [R4];omega) (by omega)) ⟨e,e2,?_⟩
 refine⟨.non,_,I.lset (its':=its++ę) hH e (by simp) (r.append r2) ?_,rfl,q⟩;rw [P3];omega
def KN:R2:=λx y H Q=> ∃l b xs zs,x= .ref l/\y= .ref b/\H l=some (.lst xs)/\H b=some (.lst zs)/\xs.length+zs.length<=sizeLine/\ ∀p,H p=none->Q (.ref p) (upd H p (.lst (xs++zs)))
def Ah:ø X (Q5 .Add) KN:=by
 intro À s σ H x y v u Q I rx ry h;obtain⟨l,b,xs,zs,rfl,rfl,hH,hB,hz,q⟩:=h;cases rx;cases ry;obtain⟨z,its,n,r,hl,e⟩:=I.lstM hH;obtain⟨z2,ę,n2,r2,hl2,e2⟩:=I.lstM hB;refine PySem.P.add_list e e2 ?_ (by rw [R4,R4];omega);have ea:its.toArray++ę.toArray=(its++ę).toArray:=by simp
 rw [ea];exact⟨.ref _,_,I.lnew (t':=s.toks) (r.append r2) (by rw [P3];omega),rfl,q _ I.fresh⟩
def KO:R2:=λx y H Q=> ∃l k xs,x= .ref l/\y= .int k/\H l=some (.lst xs)/\ -(2^63)<=k/\k<2^63/\xs.length*k.toNat<=sizeLine/\
 ∀p,H p=none->Q (.ref p) (upd H p (.lst (B3 k.toNat xs).flatten))
def US {α:Type}(xs:G0 α)(k:G6):(B3 k xs).flatten.length=k*xs.length:=by
 induction k with
 |zero=>simp
 |succ k ih=>rw [X9,bK,P3,ih,gJ,nH]
def Ai:ø X (Q5 .Mult) KO:=by
 intro À s σ H x y v u Q I rx ry h;obtain⟨l,k,xs,rfl,rfl,hH,h1,h2,hz,q⟩:=h;cases rx;obtain⟨t,rfl⟩:=ry;obtain⟨z,its,n,r,hl,e⟩:=I.lstM hH;have hlen:its.toArray.size*k.toNat<=sizeLine:=by rw [R4,<-hl];exact hz
 have X1k: ¬its.toArray.size*k.toNat>(2^63-1) / 8:=by
  have:(sizeLine:G6)<=(2^63-1) / 8:=by decide
  omega
 have X0G: ¬ (!j7 k)=true:=by
  rw [uJ h1 h2];exact D6
 have ο: ¬bW (its.toArray.size*k.toNat)=true:=by
  rw [XV hlen];exact D6
 have X0T:uI (λx1 x2=>x1++x2) #[] (B3 (if its.toArray.isEmpty=true then 0 else k.toNat) its.toArray)=(B3 k.toNat its).flatten.toArray:=by
  have f0: ∀m:G6,uI (λx1 x2=>x1++x2) #[] (B3 m its.toArray)=(B3 m its).flatten.toArray:=λm=>by
   have:=ZF its m [];rw [E2] at this;exact this
  rw [f0];cases its with
  |nil=>simp
  |cons a r'=>rw [S4 (by simp)]
 refine lO (T:= "list") (U:= "int") (by decide) ⟨_,e,rfl⟩ (λs'=>nG s' k t) noFill_list_mul tH iT repeat_list F.slot_int_index.lookup
  (j6 iT (nG s k t) sH (rB _ _) (int___rmul___int_list k t l its.toArray n)
   ⟨e,rfl,⟨_,e,rfl⟩,j6 F.slot_list_mul ⟨_,e,rfl⟩ F.entry_list_mul (F.args_list_mul_2 _ _) (AutoListH.list___mul___list_int_3 l its.toArray n k t X0G X1k ο) ⟨e,?_⟩⟩)
 rw [X0T];exact⟨.ref _,_,I.lnew (t':=s.toks) (r.rep k.toNat) (by rw [US,V7];exact hz),rfl,q _ I.fresh⟩
end
end L2
namespace Att
open PySem PySem.W PySem.Calls PyProof.Rows
def ZG {P:G1b}{h:A7}: ∀ (ns:G0 P1) (vs:G0 G2),WellAll P h vs (ns.map WData.int)->iZ vs ns:=by
 intro ns
 induction ns with
 |nil=>
  intro vs w;rw [cK] at w;cases w;exact .nil
 |cons n ns ih=>
  intro vs w;rw [T6] at w;cases w with
  |cons a b=>
   cases a;exact .cons _ _ (ih _ b)
def Pq {l:OpenLaw}{n:G6}(hn:l.most=some n){P:G1b}{h:A7}{args:G0 WData}{vals:G0 G2}
 (X0H:l.row.toRowW.claim.pre args=true)(hwl:WellAll P h vals args):
 ∃a vs ns,vals= [K8 a]/\args= [WData.list (ns.map WData.int)]/\h.get? a=some {cls:= .type "list",data:= .seq vs.toArray}/\iZ vs ns/\ns.length<=n:=by
 have hsh:WShape.hasAll [] args [.list .int]=true:=(pre_splitW X0H).1;have hc:l.pre.holds [] {args:=args}=true:=(pre_splitW X0H).2;obtain⟨d,r,rfl,h1,h2⟩:=hasAllW_cons hsh;obtain rfl:=hasAllW_nil h2;obtain⟨xs,rfl,h3⟩:=hasW_list h1;obtain⟨ns,rfl⟩:=items_int h3;have hlen:ns.length<=n:=by
  unfold OpenLaw.pre at hc;have h4:(WTm.not (.lt (.lit (.int (n:P1))) (.len (.arg 0)))).holds [] {args:= [.list (ns.map .int)]}=true:=by
   have h4:=(holds_andW hc).1;rw [hn] at h4;exact h4
  have h5:=condW_of h4 (w_not (w_lt w_lit (w_len_list (w_arg rfl))));rw [G3] at h5;refine iD λq=> ?_
  have q':(n:P1)<((ns.length:G6):P1):=by omega
  first
   |(rw [S1 q'] at h5;exact absurd h5 (by decide))
   |(simp at h5;omega)
 cases hwl with
 |cons w1 w2=>
  cases w2;cases w1 with
  |list ho X1l=>exact⟨_,_,ns,rfl,rfl,ho,ZG ns _ X1l,hlen⟩
def Pr (l:OpenLaw)(args:G0 WData):l.row.toRowW.claim.post args (.bool true) args=true:=
 postW_of (r:=l.row.toRowW) (X:=(true==true))
  (show WShape.has [] (.bool true) .bool=true by first|rfl|decide|simp [WShape.has,WShape.arms,WShape.armsAll])
  (show (WTm.eq .res (.lit (.bool true))).value [] {args:=args,res:=some (.bool true),after:=args}=some (.bool (true==true)) from w_eq_bool (w_res rfl) w_lit) rfl
def attach_call {l:OpenLaw}{n:G6}{q:T7}{loose:G0 Str}{XP:(Str->D4 G2)->A7->Prop}{YP:C1->A7->Prop}{d:DefRec}
 (hn:l.most=some n)(hdf:d.params.defaults= [])
 (call: ∀ (w:C1) (s₀ s₁:G5) (mg mb:Str->D4 G2) (fa:P2) (o:Obj) (pm cd doc:G2) (a:P2) (vs:G0 G2) (ns:G0 P1),
  Ground q loose [] XP w s₀ mg mb s₁.heap->YP w s₁.heap->
  s₁.heap.get? fa=some o->o.data= .func (docDef d.name d.params d.body d.scope pm cd doc)->s₁.heap.CodeRec cd d.name->mg d.name=some (.ref fa)->
  s₁.heap.get? a=some {cls:= .type "list",data:= .seq vs.toArray}->iZ vs ns->ns.length<=n->s₁.gens= #[]->
  bJ (S0 l.prog w) pP (.call (.ref fa) ⟨[.ref a],[]⟩) (λr s'=>r= .ok (.ret (.bool true))/\OldK s₁.heap s'.heap/\s'.os=s₁.os/\l8 s'.gens) s₁):
 WalkO q loose XP YP l.row.toRowW d [] (λf vs=>G0y f vs):=by
 intro w s₀ s₁ mg mb G Y fa o pm cd doc dV kV ho hd hcd hD hmg hg args vals as X0H hlay hrd hwl hlo;obtain rfl:dV= .none:=Dflts.none hD hdf;obtain rfl:kV= .none:=Dflts.noKw hD;obtain⟨a,vs,ns,rfl,rfl,X0U,hints,hlen⟩:=Pq hn X0H hwl;refine enter_call (nB (call w s₀ s₁ mg mb fa o pm cd doc a vs ns G Y ho (fd_plain hd) hcd hmg X0U hints hlen hg) λr s' hq=> ?_);obtain⟨rfl,h2,h3,h4⟩:=hq;exact⟨.inl ⟨.bool true,.bool true,[],rfl,λ_=>rfl,.bool true,Pr l _,λ_=>⟨mD,λ_ hm=>(nomatch hm)⟩⟩,h2,h3,h4⟩
end Att
namespace L2
open PySem PySem.Spec PyProof.Rows
theorem VB: ∀ {vs:G0 G2} {ns:G0 P1},iZ vs ns->Ç (ns.map V.int) vs
 |_,_,.nil=> .nil
 |_,_,.cons n t h=> .cons ⟨t,rfl⟩ (VB h)
def Only (H:Hp):Prop:= ∀b,H b=none\/ ∃o xs,H b=some (.frz o (.lst xs))
noncomputable def yw (s:Q2):Arguments:=match s with
 | .FunctionDef _ a _ _ _ _ _ _ _ _=>a
 |_=> {posonlyargs:= [],args:= [],vararg:=none,kwonlyargs:= [],kw_defaults:= [],kwarg:=none,defaults:= []}
noncomputable def zL (s:Q2):G0 Q2:=match s with
 | .FunctionDef _ _ b _ _ _ _ _ _ _=>b
 |_=> []
noncomputable def je (s:Q2):Y0:=match s with
 | .FunctionDef _ _ _ _ _ _ sc _ _ _=>sc
 |_=> {kind:= .function,names:= [],isGenerator:=false,isCoroutine:=false}
abbrev í:CXT:=λ_ _ _ _ _ _=>False
abbrev E0:XK:=λ_ _ _=>False
variable {X:Cx}
def Ti:Pj í X E0:=λ_ _ _ _ _ _ _ h=>h.elim
structure ô (K:G7)(x qual:Str)(st:Q2)(f:P2)(fd:C6):Prop where
 ex: ∃ (oc:G2) (od:D4 P2) (kV doc pm:G2) (an:D4 P2) (ó ct:G2) (Ŝ:S9 (D4 G2)),
  fd=dO x qual (yw st) (zL st) (je st) .none kV doc pm an ó ct/\K.lookup f=some ⟨oc,od,.func fd,Ŝ⟩/\oT K ó qual=true
 kp:b7 K (.ref f)=true
section
variable {P:T7}{w:C1}{K:G7}{mg:Str->D4 G2}{base:A7}
variable {qual:Str}
def ô.ok {x:Str}{st:Q2}{f:P2}{fd:C6}{N ps:G0 Str}{k:G6}{sp:Sp}(F:ô K x qual st f fd)(S:Ã N ps (je st))(len: ∀vs H Q E,sp vs H Q E->vs.length=ps.length)
 (Ĕ: ∀ (ó:G2) (A:N7) (outer:G0 Env) (s:G5) (H:Hp) (vs:G0 V) (Q:VK) (E:XK),á k (A.deeper (i9 qual (je st) s.heap.objs.size f ó))->sp vs H Q E->
  ∃t,Ś (MO í P w K mg base N qual (je st) f ó A outer s H E).nox (zL st) t/\t {nx:=λ_ H'=>Q .non H',rt:=Q} (start N vs) H):Ò P w K mg base í (k+1) f fd ps sp:=by
 obtain⟨oc,od,kV,doc,pm,an,ó,ct,Ŝ,rfl,lk,hcd⟩:=F.ex;refine Td lk hcd S len λA outer s H vs Q E hr hsp=> ?_
 obtain⟨t,h,q⟩:=Ĕ ó A outer s H vs Q E hr hsp;exact⟨t,h.nox,q⟩
def ô.binds {x:Str}{st:Q2}{f:P2}{fd:C6}{ps:G0 Str}(F:ô K x qual st f fd)
 (h: ∀ (kV doc pm:G2) (an:D4 P2) (ó ct:G2) (us:G0 G2),us.length=ps.length->IN (dO x qual (yw st) (zL st) (je st) .none kV doc pm an ó ct) ⟨us,[]⟩=pure (ps.zip us)):Binds K fd ps []:=by
 obtain⟨oc,od,kV,doc,pm,an,ó,ct,Ŝ,rfl,lk,hcd⟩:=F.ex;exact .all (h kV doc pm an ó ct)
def Aj {x:Str}{st:Q2}{f:P2}{oc:G2}{od an:D4 P2}{Ŝ:S9 (D4 G2)}{kV doc pm ó ct:G2}(l:K.lookup f=some ⟨oc,od,.func (dO x qual (yw st) (zL st) (je st) .none kV doc pm an ó ct),Ŝ⟩)
 (c:oT K ó qual=true)(k:b7 K (.ref f)=true):ô K x qual st f (dO x qual (yw st) (zL st) (je st) .none kV doc pm an ó ct):=⟨⟨oc,od,kV,doc,pm,an,ó,ct,Ŝ,rfl,l,c⟩,k⟩
end
def zb {n:G6}(h:n<=1000):n<sizeLine:=Q6 h (by decide)
section
variable {X:Cx}
def pv (i:G6){x:Str}{pos:Pos}(hN:X.N[i]? =some x:=by rfl)(hv:Vis X.env.scope x:=by first|exact Q7 rfl|exact aT (Q7 rfl)|exact aT (aT rfl))(hd:(x==("__debug__" :Str))=false:=by decide)
 (hcd:(x==("__classdict__" :Str))=false:=by decide):PE X (.Name x pos) (SR i):=Bv hN hv hd hcd
end
def vt {A B:Prop}(h:B):if false=true then A else B:=by
 rw [S4 D6];exact h
def XW {A B:Prop}(h:A):if true=true then A else B:=by
 rw [R9 rfl];exact h
def UM {c A B:Prop}[Decidable c](h1:c->A)(h2: ¬c->B):if c then A else B:=by
 by_cases h:c
 ·rw [R9 h];exact h1 h
 ·rw [S4 h];exact h2 h
section
variable {X:Cx}{À:G0 (P2×Obj)}{σ:St}{H:Hp}{s:G5}{a:P2}{y v:V}{u r:G2}{o:D4 V}{A:N7}{E:G2->G5->Prop}
def Inv.big (I:Inv X À σ H s):aY<s.heap.objs.size:=by
 have h:K3<s.heap.objs.size:=(I.mod.glob.keeps I.bk).lt;exact W5 (by decide) h
def Pt {h':A7}{t':G6}{ob:HO}(I:Inv X À σ H s)(mu:Mut (H a))(hs:A8 a s.heap h')(he: ∃q,h'.get? a=some q)(new:Ø X.prog X.w (upd H a ob) h' a ob):
 Inv X À σ (upd H a ob) {s with heap:=h',toks:=t'}:=
 I.write (x:=a) (e:=a) mu (.inl rfl) (λb q hb z=>(hs.2 b hb).trans z) he new
end
def Tj (i:N3):Prop:= ∀ov iv,oV i false ov iv=G0P [ov,iv] (mB ov iv)
variable {prog:T7}{w:C1}{env:Env}{pos:Pos}
def CO {A:N7}{E:G2->G5->Prop}{s:G5}{value slice:N3}{T id:W3}{Q:G2->G5->Prop}
 (hl:G0v (.type T) "__getitem__" =pure (some (.builtin id)))(hs:Tj slice)
 (h:R5 (S0 prog w) A (K0 value env) (λo s₁=>R5 (S0 prog w) A (K0 slice env) (λi s₂=>s₂.TypeIs o T/\R5 (S0 prog w) A (mB o i) Q E s₂) E s₁) E s):
 R5 (S0 prog w) A (K0 (.Subscript value slice pos) env) Q E s:=by
 refine qH (M5 h (λo s₁ h₁=>M5 h₁ (λi s₂ Ŭ=> ?_) λ_ _ x=>x) λ_ _ x=>x);obtain⟨hT,Ŭ⟩:=Ŭ;unfold mH;refine wpAny_bind ?_;rw [getitemInPython_of_ne hT.not_modules];refine wpAny_bind (Y2 hT hl ?_);have fin:R5 (S0 prog w) A (oV slice false o i) (λr s₃=>R5 (S0 prog w) A (letTemporaryGo value o r >>= λ_=>pure r) Q E s₃) E s₂:=by
  rw [hs o i];exact wpAny_operating (M5 Ŭ (λr s₃ ŭ=>wpAny_bind (wpAny_letTemporaryGo (P0 ŭ))) λ_ _ x=>x)
 first
  |exact P0 (wpAny_bind fin)
  |exact wpAny_bind (P0 (wpAny_bind fin))
  |exact wpAny_bind fin
structure M2 (X:Cx)(o:N3)(m:Str)(apos:Pos)(e f:N3)(Ï:Pos):Prop where
 base:bV o m X.env (K0 o X.env)=K0 o X.env
 few:((U8 Ï (S5 [e,f] X.env)).all (λx=> !x.1)&&(j5 Ï (dF [] X.env)).all (λx=>x.1.isSome)
  &&decide (([e,f]:G0 N3).length+([]:G0 cJ).length+(if ([]:G0 cJ).isEmpty then 0 else 1)<30))=true
 line:(apos.endLine==Ï.line)=true
 trees:U8 Ï (S5 [e,f] X.env)= [(false,K0 e X.env),(false,K0 f X.env)]
noncomputable def wt (names:G0 (Str×NameKind))(env:Env)(cs:G0 (Str×P2)):G0 (Str×P2):=
 names.foldl (λcs p=>if p.2= .free then (match env.cells.lookup p.1 with|some c=>(p.1,c)::cs|none=>cs) else cs) cs
def zF (p:Str×NameKind)(l:G0 (Str×NameKind))(env:Env)(cs:G0 (Str×P2)):
 wt (p::l) env cs=wt l env (if p.2= .free then (match env.cells.lookup p.1 with|some c=>(p.1,c)::cs|none=>cs) else cs):=rfl
theorem ZH {f:Str×NameKind->G0 (Str×P2)->Sem (gC (G0 (Str×P2)))}
 (h1: ∀p cs,p.2≠ .free->f p cs=pure (.yield cs))(h2: ∀p cs c,p.2= .free->env.cells.lookup p.1=some c->f p cs=pure (.yield ((p.1,c)::cs))):
 ∀ (l:G0 (Str×NameKind)) (cs:G0 (Str×P2)),(∀p∈l,p.2= .free-> ∃c,env.cells.lookup p.1=some c)->forIn l cs f=pure (wt l env cs)
 | [],cs,_=>rfl
 |p::l,cs,h=>by
  have ih:=ZH h1 h2 l
  by_cases hp:p.2= .free
  ·obtain⟨c,hc⟩:=h p P4 hp;rw [cQ,h2 p cs c hp hc,pure_bind];show forIn l ((p.1,c)::cs) f=_;rw [ih _ λq hq=>h q (R1 _ hq),zF,R9 hp,hc]
  ·rw [cQ,h1 p cs hp,pure_bind];show forIn l cs f=_;rw [ih _ λq hq=>h q (R1 _ hq),zF,S4 hp]
variable {scope:Y0}
def vR (h: ∀p∈scope.names,p.2= .free-> ∃c,env.cells.lookup p.1=some c):G0z scope env=pure (wt scope.names env []):=by
 simp only [G0z];rw [ZH (env:=env) (λp cs hp=> ?_) (λp cs c hp hc=> ?_) _ _ h]
 ·rfl
 ·obtain⟨n,k⟩:=p;have hb:(k==E4)=false:=by simpa using hp
  simp only [hb,F7,oU]
 ·obtain⟨n,k⟩:=p;have hb:(k==E4)=true:=by simpa using hp
  have ι:env.cells.lookup n=some c:=hc;simp only [hb,pO,cellOf,ι,pure_bind]
theorem ZI: ∀ (l:G0 (Str×NameKind)) (cs:G0 (Str×P2)),(∀p∈cs,env.cells.lookup p.1=some p.2)-> ∀p∈wt l env cs,env.cells.lookup p.1=some p.2
 | [],cs,h,p,hp=>h p hp
 |q::l,cs,h,p,hp=>by
  rw [zF] at hp;refine ZI l _ (λr hr=> ?_) p hp
  by_cases hq:q.2= .free
  ·rw [R9 hq] at hr;cases e:env.cells.lookup q.1 with
   |none=>rw [e] at hr;exact h r hr
   |some c=>
    rw [e] at hr;rcases R7.mp hr with rfl|hr
    ·exact e
    ·exact h r hr
  ·rw [S4 hq] at hr;exact h r hr
theorem ZJ: ∀ (l:G0 (Str×NameKind)) (cs:G0 (Str×P2)),∀p∈cs,p∈wt l env cs
 | [],cs,p,hp=>hp
 |q::l,cs,p,hp=>by
  rw [zF];refine ZJ l _ p ?_
  by_cases hq:q.2= .free
  ·rw [R9 hq];cases e:env.cells.lookup q.1 with
   |none=>exact hp
   |some c=>exact R1 _ hp
  ·rw [S4 hq];exact hp
variable {x:Str}
theorem ZK {c:P2}(hc:env.cells.lookup x=some c): ∀ (l:G0 (Str×NameKind)) (cs:G0 (Str×P2)),(x,E4)∈l->(x,c)∈wt l env cs
 |q::l,cs,h=>by
  rw [zF];rcases R7.mp h with e|h
  ·subst e;rw [R9 rfl,hc];exact ZJ l _ _ P4
  ·exact ZK hc l _ h
variable {α:Type}
theorem zm: ∀ {l:G0 (Str×α)} {x:Str} {c:α},l.lookup x=some c->(x,c)∈l
 | [],_,_,h=>by simp at h
 |(n,k)::r,x,c,h=>by
  rw [J6] at h;cases hx:x==n with
  |true=>
   rw [hx] at h;have e:x=n:=eq_of_beq hx;cases h;subst e;exact P4
  |false=>rw [hx] at h;exact R1 _ (zm h)
theorem WC: ∀ {l:G0 (Str×α)} {x:Str} {c:α},(x,c)∈l-> ∃c',l.lookup x=some c'
 |(n,k)::r,x,c,h=>by
  rw [J6];cases hx:x==n with
  |true=>exact⟨_,rfl⟩
  |false=>
   rcases R7.mp h with e|h
   ·cases e;simp at hx
   ·exact WC h
def WD {l:G0 (Str×NameKind)}{c:P2}(h:(wt l env []).lookup x=some c):env.cells.lookup x=some c:=
 ZI l [] (λ_ z=>nomatch z) (x,c) (zm h)
def Pu {l:G0 (Str×NameKind)}{c:P2}(hc:env.cells.lookup x=some c)(h:(x,E4)∈l):(wt l env []).lookup x=some c:=by
 obtain⟨c',e⟩:=WC (ZK hc l [] h);have:=WD e;rw [hc] at this;cases this;exact e
theorem wR {κ:Type}{f:Str×κ->Str×κ}{g:Str->κ->κ}(hf: ∀n k,f (n,k)=(n,g n k))(x:Str): ∀l:G0 (Str×κ),(l.map f).lookup x=(l.lookup x).map (g x)
 | []=>rfl
 |(n,k)::r=>by
  rw [T6,hf,J6,J6,wR hf x r];cases same:x==n with
  |false=>rfl
  |true=>rw [eq_of_beq same];rfl
def jx {names:G0 (Str×NameKind)}{k:NameKind}(found:
 (names.map λ(n,k)=>if (k==E4&&env.scope.kind== .function&&env.kindOf n==some .cell) then (n,V3) else (n,k)).lookup x=some k):
  names.lookup x=some k\/names.lookup x=some .free:=by
 rw [wR (g:=λn k=>if (k==E4&&env.scope.kind== .function&&env.kindOf n==some .cell) then .cell else k) (λn k=>by dsimp only;split<;>rfl)] at found;obtain⟨k0,was,now⟩:=F6.mp found;split at now
 ·rename_i c;simp only [F4,beq_iff_eq] at c;exact .inr (by rw [was,c.1.1])
 ·exact .inl (by rw [was,now])
theorem zR: ∀ (names:G0 (Str×NameKind)) (n:G6) (acc:G0 (Str×P2)) (p:Str×P2),p∈X8 n names acc->p∈acc\/(n<=p.2/\(p.1,V3)∈names)
 | [],_,_,_,h=> .inl h
 |(x,k)::r,n,acc,p,h=>by
  unfold X8 at h;split at h
  ·rename_i hk;rcases zR r (n+1) _ p h with z|⟨z1,z2⟩
   ·rcases R7.mp z with e|z
    ·subst e;have:k= .cell:=by simpa using hk
     subst this;exact .inr ⟨P6 _,P4⟩
    ·exact .inl z
   ·exact .inr ⟨by omega,R1 _ z2⟩
  ·rcases zR r n acc p h with z|⟨z1,z2⟩
   ·exact .inl z
   ·exact .inr ⟨z1,R1 _ z2⟩
theorem jM: ∀ (names:G0 (Str×NameKind)) (n:G6) (acc:G0 (Str×P2)),X8 n names acc=X8 n names []++acc
 | [],_,_=>rfl
 |(x,k)::r,n,acc=>by
  unfold X8;split
  ·rw [jM r (n+1) ((x,n)::acc),jM r (n+1) [(x,n)],D5];rfl
  ·exact jM r n acc
def yW (l l':G0 (Str×α))(x:Str):(l++l').lookup x=(match l.lookup x with|some c=>some c|none=>l'.lookup x):=by
 induction l with
 |nil=>rfl
 |cons p l ih=>
  obtain⟨n,c⟩:=p;rw [Y9,J6,J6];cases x==n with
  |true=>rfl
  |false=>exact ih
def vw {names:G0 (Str×NameKind)}(here:names.lookup x=some .cell):
 (names.map λ(n,k)=>if (k==E4&&env.scope.kind== .function&&env.kindOf n==some .cell) then (n,V3) else (n,k)).lookup x=some .cell:=by
 rw [wR (g:=λn k=>if (k==E4&&env.scope.kind== .function&&env.kindOf n==some .cell) then .cell else k) (λn k=>by dsimp only;split<;>rfl),here];simp
section
variable {M:qS}{A:N7}{E:G2->G5->Prop}{s:G5}
def Gg (h:A7)(names:G0 (Str×NameKind)):(∀n c,(n,c)∈X8 h.objs.size names []->(pushCells h names).IsCell c none/\h.objs.size<=c)/\(X8 h.objs.size names []).Pairwise λx y=>x.2≠y.2:=
 have laid:=cellsFrom_ok names h h.objs.size [] ⟨by simp,.nil⟩ (P6 _)
 ⟨laid.empty,laid.apart⟩
def Zh {scope:Y0}{globals:P2}{closure:G0 (Str×P2)}{qual:Str}{func:D4 P2}{code:G2}{outer:Env}{builtins:P2}{Q:Env->G5->Prop}
 (hQ: ∀h',h'.Ns s.heap.objs.size (λ_=>none)->(∀b o,s.heap.get? b=some o->h'.get? b=some o)->(∀n c,(n,c)∈X8 (s.heap.objs.size+1) scope.names []->h'.IsCell c none/\s.heap.objs.size+1<=c)->
  ((X8 (s.heap.objs.size+1) scope.names []).Pairwise λx y=>x.2≠y.2)->
  Q (newEnv scope s.heap.objs.size globals (X8 (s.heap.objs.size+1) scope.names closure) qual func code (some outer) builtins) {s with heap:=h'}):
 R5 M A (uK scope globals closure [] qual func code (some outer) builtins) Q E s:=by
 have names:=Gg (s.heap.push {cls:= .type "dict",data:= .dict #[]}) scope.names;have first:(s.heap.push {cls:= .type "dict",data:= .dict #[]}).objs.size=s.heap.objs.size+1:=dG ..
 rw [first] at names;unfold uK;refine wpAny_bind (wpAny_alloc (wpAny_bind (wpAny_layCells _ (λn k cs=>rfl) _ _ _ _ ?_)));simp only [Option.isSome_some,pO];rw [first];exact wpAny_bind (P0 (P0 (hQ _ ((Heap.Ns.new _ _).keeps (tJ _ _)) (λb o here=>tJ _ _ b o (G9 _ here)) names.1 names.2)))
end
noncomputable def jz (X:Cx)(scope:Y0)(C:P2):G0 (Str×P2):=X8 (C+1) scope.names (wt scope.names X.env [])
noncomputable def wu (X:Cx)(scope:Y0)(C:P2)(s₀:G5)(H₀:Hp)(ex:G0 P2):Cx:=
 {X with s₀:=s₀,H₀:=H₀,env:=mV scope (jz X scope C) C X.env,outer:=X.stack,ex:=ex,fn:=λx=>scope.names.lookup x==some .cell,pn:= [],xe:=λ_ _=>False}
def jh (X:Cx)(scope:Y0)(X':Cx):Prop:= ∃C s₀ H₀ ex,X'=wu X scope C s₀ H₀ ex
structure Ì (X:Cx)(scope:Y0)(js:G0 G6):Prop where
 kind:scope.kind= .function
 locs: ∀p∈scope.names,p.2= .local->scope.names.lookup p.1=some .local
 cels: ∀p∈scope.names,p.2= .cell->scope.names.lookup p.1=some .cell
 free: ∀p∈scope.names,p.2= .free->X.env.scope.names.lookup p.1=some .cell\/X.env.scope.names.lookup p.1=some .free
 js: ∀ (i:G6) (x:Str),X.N[i]? =some x->(scope.names.lookup x=some .local\/scope.names.lookup x=some .cell)->i∈js
variable {js:G0 G6}
def jY (S:Ì X scope js){C:P2}{x:Str}{c:P2}(h:(jz X scope C).lookup x=some c):
 (scope.names.lookup x≠some .cell/\X.env.cells.lookup x=some c)\/(scope.names.lookup x=some .cell/\(x,c)∈X8 (C+1) scope.names []):=by
 unfold jz at h;rw [jM,yW] at h;cases e:(X8 (C+1) scope.names []).lookup x with
 |some d=>
  rw [e] at h;cases h;have m:=zm e;rcases zR _ _ _ _ m with z|⟨_,z⟩
  ·exact absurd z (by simp)
  ·exact .inr ⟨S.cels _ z rfl,m⟩
 |none=>
  rw [e] at h;refine .inl ⟨λz=> ?_,WD h⟩;obtain⟨d,hd⟩:=vQ (sc:=scope) (n:=C+1) z;rw [e] at hd;cases hd
def wf (S:Ì X scope js){C:P2}{x:Str}{c:P2}(hc:X.env.cells.lookup x=some c)(h:(x,E4)∈scope.names)(hn:scope.names.lookup x≠some .cell):(jz X scope C).lookup x=some c:=by
 unfold jz;rw [jM,yW];cases e:(X8 (C+1) scope.names []).lookup x with
 |some d=>
  rcases zR _ _ _ _ (zm e) with z|⟨_,z⟩
  ·exact absurd z (by simp)
  ·exact absurd (S.cels _ z rfl) hn
 |none=>exact Pu hc h
noncomputable def zn:G0 G6->St->St
 | [],σ=>σ
 |j::js,σ=>zn js (σ.set j none)
theorem Jx: ∀ (js:G0 G6) (σ:St),(zn js σ).length=σ.length
 | [],_=>rfl
 |j::js,σ=>by rw [zn,Jx js];simp
theorem vS: ∀ (js:G0 G6) (σ:St) (i:G6) (v:V),(zn js σ)[i]? =some (some v)->σ[i]? =some (some v)
 | [],_,_,_,h=>h
 |j::js,σ,i,v,h=>by
  have h1:=vS js _ i v h
  by_cases e:i=j
  ·subst e;rw [gK] at h1;simp at h1
  ·rwa [Q4 (I0 e)] at h1
theorem jV: ∀ (js:G0 G6) (σ:St) (i:G6) (v:V),i∈js-> ¬ (zn js σ)[i]? =some (some v)
 |j::js,σ,i,v,hm,h=>by
  rcases R7.mp hm with rfl|hm
  ·have h1:=vS js _ i v h;rw [gK] at h1;simp at h1
  ·exact jV js _ i v hm h
variable {H:Hp}{a:P2}{o:HO}
def Ē.track {P:T7}{h:A7}(x:Ē P w H h)(hn:H a=none)(new:Ø P w (upd H a o) h a o):Ē P w (upd H a o) h:=λb u e=>by
 by_cases hb:b=a
 ·subst hb;rw [jt] at e;cases e;exact new
 ·rw [jj hb] at e;exact(x b u e).stay (λc v _ q=>q) (λc q=>by rw [jj (ji q hn)];exact q) λc xs q=>by rw [jj (ji q hn)];exact q
def Agree (σ Â:St):Prop:=Â.length=σ.length/\ ∀ (i:G6) (v:V),σ[i]? =some (some v)->Â[i]? =some (some v)
variable {σ:St}
def Agree.set {j:G6}(v:V)(h: ∀u,¬σ[j]? =some (some u)):Agree σ (σ.set j (some v)):=⟨by simp,λi u q=>by
 by_cases e:j=i
 ·subst e;exact absurd q (h u)
 ·rw [Q4 e];exact q⟩
def Agree.trans {a b c:St}(x:Agree a b)(y:Agree b c):Agree a c:=⟨y.1.trans x.1,λi v h=>y.2 i v (x.2 i v h)⟩
def ė (X:Cx)(ifs:G0 N3)(t:TT):Prop:=
 ∀ (À:G0 (P2×Obj)) (s:G5) (σ:St) (H:Hp) (Q:N4->Hp->Prop),Inv X À σ H s->t σ H Q->
  R5 (S0 X.prog X.w) X.A (forIn ifs true λc r=>if r=true then do let ok <-isTrue c X.env (K0 c X.env);pure (aO ok) else pure (aO r)) (TP X À σ Q) X.xe s
def Ke:TT:=λ_ H Q=>Q true H
def CP:ė X [] Ke:=λ_ _ _ H _ I h=>wpAny_tests_nil ⟨H,I,h⟩
def CQ {c:N3}{t:TT}(hc:PT X c t):ė X [c] t:=λÀ s σ H Q I h=>wpAny_tests_one (hc À s σ H Q I h)
noncomputable def vT (iter target:N3)(ifs:G0 N3)(it:G2)(env:Env)(act:Sem Unit)(nxt:Code):Sem iE:=do
 fO iter.pos
 match <-m9 it with
 |none=>pure (.done .next)
 |some v=>
  cP target it v
  dY target env v
  let mut ok:=true
  for c in ifs do
   if ok then ok <-isTrue c env (K0 c env)
  if ok then act
  again nxt
variable {elt iter:N3}{ifs:G0 N3}
def XX {A:N7}{R:qE->G5->Prop}{s:G5}{target:N3}{gens:G0 aU}{depth:G6}{it acc:G2}{act:Sem Unit}(I:G6->G5->Prop)
 (heq:iO (.ListComp elt gens scope pos) depth it acc env=vT iter target ifs it env act (.compLoop (.ListComp elt gens scope pos) depth it acc env))
 (turn: ∀n s,I n s->R5 (S0 prog w) A (m9 it) (λr s₁=>match r with
  |none=>R (.ok .next) s₁
  |some v=>R5 (S0 prog w) A (cP target it v) (λ_ s₁=>R5 (S0 prog w) A (dY target env v) (λ_ s₂=>
   R5 (S0 prog w) A (forIn ifs true λc r=>if r=true then do let ok <-x5 c env (K0 c env);pure (aO ok) else pure (aO r)) (λok s₃=>
    if ok=true then R5 (S0 prog w) A act (λ_ ς=> ∃m,m<n/\I m ς) (λ_ _=>False) s₃
    else ∃m,m<n/\I m s₃) (λ_ _=>False) s₂) (λ_ _=>False) s₁) (λ_ _=>False) s₁) (λ_ _=>False) s)
 (n:G6)(h:I n s):
 bJ (S0 prog w) A (.compLoop (.ListComp elt gens scope pos) depth it acc env) R s:=by
 refine x8 rfl I (λn s hI=> ?_) n h;show R5 _ A ((iO (.ListComp elt gens scope pos) depth it acc env).onRaise (λx=>do xX x env;n8 x)) _ _ s;refine IR ?_;rw [heq];unfold vT;refine wpAny_bind (Z9 (wpAny_bind (M5 (turn n s hI) (λr s₁ h₁=> ?_) λ_ _ h'=>h'.elim)));cases r with
 |none=>exact P0 h₁
 |some v=>
  refine wpAny_bind (M5 h₁ (λ_ s₁ h₁=> ?_) λ_ _ h'=>h'.elim);refine wpAny_bind (M5 h₁ (λ_ s₂ Ŭ=>wpAny_bind (M5 Ŭ (λok s₃ ŭ=> ?_) λ_ _ h'=>h'.elim)) λ_ _ h'=>h'.elim);cases ok with
  |false=>exact P0 ⟨rfl,ŭ⟩
  |true=>exact wpAny_bind (M5 ŭ (λ_ ς X0V=>P0 ⟨rfl,X0V⟩) λ_ _ h'=>h'.elim)
abbrev TM:=St->Hp->G0 V->(G0 V->Hp->Prop)->Prop
def SF (X:Cx)(D:P2)(act:Sem Unit)(t:TM):Prop:=
 ∀ (À:G0 (P2×Obj)) (s:G5) (σ:St) (H:Hp) (ys:G0 V) (us:G0 G2) (Q:G0 V->Hp->Prop),Inv X ([(D,bL us)]++À) σ H s->Ç ys us->ys.length<=sizeLine->D∈X.ex->(∀x c,X.env.cells.lookup x=some c->c≠D)->(∀p∈X.pn++À,p.1≠D)->t σ H ys Q->
  R5 (S0 X.prog X.w) X.A act (λ_ s'=> ∃ù ż H',Ç ù ż/\Inv X ([(D,bL ż)]++À) σ H' s'/\Q ù H') (λ_ _=>False) s
def Ak (te:TE):TM:=λσ H ys Q=>te σ H λy H1=>Q (ys++ [y]) H1
noncomputable def WE (elt:N3)(env:Env)(acc:G2):Sem Unit:=do let _ <-call (.builtin "list.append") [acc,<-K0 elt env]
variable {te:TE}
def Yf {D:P2}(hx:X.xe=λ_ _=>False)(he:PE X elt te):SF X D (WE elt X.env (.ref D)) (Ak te):=by
 intro À s σ H ys us Q I hv hz DX cD pD h;have q:=he _ s σ H _ I h;rw [hx] at q;unfold WE;refine wpAny_bind (M5 q (λy s1 ⟨yv,H1,I1,r1,q1⟩=> ?_) λ_ _ z=>z);have zD:=I1.pin (D,bL us) (D0 _ (N2 _ P4));refine wpAny_bind (append_at (its:=us.toArray) (n:=us.length) zD.1 (λh11 X1m X1n=>P0 ?_) (by rw [R4,<-hv.length];exact hz));have X0W:Inv X À σ H1 s1:=I1.pins_of λp hp=>I1.pin p (D0 _ (D0 _ hp))
 have I11:Inv X À σ H1 {s1 with heap:=h11}:=X0W.turned (t':=s1.toks) (it:=D) (λb o hb e=>X1m.extBut b o hb e) zD.2.1 zD.2.2.1 (.inl DX) cD pD;have eD:h11.get? D=some (bL (us++ [y])):=by rw [X1n];exact congrArg some (LCg.lst_snoc us y)
 refine⟨ys++ [yv],us++ [y],H1,hv.append (.cons r1 .nil),I11.pins_of λp hp=> ?_,q1⟩;rcases D8.mp hp with z|z
 ·rcases G8.mp z with rfl
  exact⟨eD,zD.2.1,zD.2.2.1,zD.2.2.2.1,λv z=>by cases z⟩
 ·exact I11.pin p (D0 _ z)
def SG (js : G0 G6) (wi : TI) (g : TG) (tt : TT) (tm : TM) : TE := fun σ H Q => wi σ H fun J H1 =>
  ∃ W : G6 → G6 → G0 V → Hp → Prop, (∃ m, W 0 m [] H1) ∧ ∀ i m ys H, W i m ys H → ys.length ≤ sizeLine ∧
    ((J.stop i H ∧ ∀ p, H p = none → Q (.ref p) (upd H p (.lst ys))) ∨
     (J.go i H ∧ ∀ x H', J.yld i H x H' → g x (zn js σ) H' fun à H2 => Agree (zn js σ) à ∧ tt à H2 fun b H3 =>
        if b = true then tm à H3 ys fun ù H4 => ∃ m', m' < m ∧ W (i + 1) m' ù H4 else ∃ m', m' < m ∧ W (i + 1) m' ys H3))
def tLC (js:G0 G6)(wi:TI)(g:TG)(tt:TT)(te:TE):TE:=SG js wi g tt (Ak te)
variable {e tg:N3}{wi:TI}{g:TG}{tt:TT}
def Pv {rest:G0 aU}{X0X:Pos}{tm:TM}{use:D4 (G2->Sem Unit)}{Qv:G2->G5->Prop}(hc:X.calm=true)(S:Ì X scope js)(hi:PI X tg iter wi)
 (he0:e= .ListComp elt (⟨tg,iter,ifs,0⟩::rest) scope pos)
 (hg: ∀X',jh X scope X'->PG X' tg g)(ht: ∀X',jh X scope X'->ė X' ifs tt)
 (act:Env->G2->Sem Unit)(ŝ: ∀it acc env,iO e 0 it acc env=vT iter tg ifs it env (act env acc) (.compLoop e 0 it acc env))(he: ∀X',jh X scope X'-> ∀D,SF X' D (act X'.env (.ref D)) tm)
 (hs: ∀x,M9 iter X.env x=pure x){À:G0 (P2×Obj)}{s:G5}{σ:St}{H:Hp}{Q:VK}(I:Inv X À σ H s)(h:SG js wi g tt tm σ H Q)
 (fin: ∀ (D C:P2) (H':Hp) (s':G5) (m:Str->D4 G2),s'.heap.Ns C m->(∀h',A8 C s'.heap h'->Inv X À σ H' {s' with heap:=h'})->H' C=none->C≠X.env.locals->C ∉ X.fs->X.s₀.heap.objs.size<=C->(∀x c,X.env.cells.lookup x=some c->c≠C)->(∀p∈X.pn++À,p.1≠C)->
  Q (.ref D) H'->uL (S0 X.prog X.w) X.A X.xe use Qv (.ref D) C (.ok .next) s'):
 R5 (S0 X.prog X.w) X.A (mK e scope X.env X0X (newList []) false (K0 iter X.env) use) Qv X.xe s:=by
 have υ:=vR (scope:=scope) (env:=X.env) (λp hp e=>I.ok.has p.1 (S.free p hp e));subst he0;refine mL (use:=use) rfl hs υ S.kind S.locs (Ô (hi À s σ H _ I h) λv s1 h1=>Ô h1 λitv s2 h2=> ?_);obtain⟨it,fp,tn,J,H2,e,I2,T,Ħ,f2,W,⟨m0,w0⟩,turn⟩:=h2;subst e;refine aH (Zh (λh₁ ú č Û û=> ?_));dsimp only at ú č Û û ⊢;generalize hD:s2.heap.objs.size=D;generalize hH3:s2.heap.push {cls:= .type "list",dict:=none,data:= .seq ([]:G0 G2).toArray}=h3 at ú č Û û ⊢;have sz3:h3.objs.size=D+1:=by rw [<-hH3,dG,hD]
 have up3: ∀b o,s2.heap.get? b=some o->h3.get? b=some o:=λb o e=>hH3 ▸ G9 _ e
 have I3:Inv X À σ H2 {s2 with heap:=h3}:=I2.kept (t':=s2.toks) up3;have hD3:h3.get? D=some (bL []):=by rw [<-hH3,<-hD];exact S6 _ rfl
 have fD:UQ X À H2 D:=I2.fpOk (by rw [hD];exact P6 _) (I2.hok.fresh (by rw [hD];exact P6 _));have obf: ∀b∈fp,∃o,s2.heap.get? b=some o/\ ∀v,o.data≠ .cell v:=T.obj _ _ Ħ;have ltf: ∀b∈fp,b<D:=λb hb=>by obtain⟨o,e,_⟩:=obf b hb;rw [<-hD];exact D9 e
 generalize hC:h3.objs.size=C at ú Û û ⊢;have CD:C=D+1:=hC.symm.trans sz3;have Λ: ∀b o,h3.get? b=some o->h₁.get? b=some o:=č;generalize hX:wu X scope C {s2 with heap:=h3} H2 (fp++ [D])=X';have iX:jh X scope X':=⟨C,_,_,_,hX.symm⟩;have hf: ∀b∈fp++ [D],UQ X À H2 b:=λb hb=>(D8.mp hb).elim (f2 b) λz=>by rw [G8.mp z];exact fD
 have cl: ∀x c,(jz X scope C).lookup x=some c->X.env.cells.lookup x=some c\/C<c:=λx c e=>by
  rcases jY S e with ⟨_,z⟩|⟨_,z⟩
  ·exact .inl z
  ·exact .inr (W6 (Û x c z).2)
 have olt: ∀x c,X.env.cells.lookup x=some c->c<C:=λx c e=>by obtain⟨v,q⟩:=I3.cell x c e;rw [<-hC];exact q.lt
 have ltb: ∀b∈fp++ [D],b<C:=λb hb=>(D8.mp hb).elim (λz=>by have:=ltf b z;rw [CD];exact c9 this) λz=>by rw [G8.mp z,CD];exact J7 _
 have okX:X'.Ok:=by
  subst hX;refine⟨I.ok.mod,S.kind,I.ok.glob,I.ok.blt,J0 hC,λx y c e1 e2=> ?_,λx hx=> ?_,λx c z e=> ?_,I.ok.hd,I.ok.frames,.inl rfl,λb hb=>⟨M7 (ltb b hb),λx c e=>(cl x c e).elim (λz=>(hf b hb).2.2.2.2.1 x c z) λz=>V6 (W5 (ltb b hb) z)⟩,
   I3.bs,R8 I.ok.bsz I3.sz,λb o e hb=> ?_,λb hb z=> ?_,I3.stack,I3.stkFree⟩
  ·rcases jY S e1 with ⟨_,z1⟩|⟨_,z1⟩<;>rcases jY S e2 with ⟨_,z2⟩|⟨_,z2⟩
   ·exact I.ok.inj x y c z1 z2
   ·exact absurd (W5 (olt x c z1) (W6 (Û y c z2).2)) (B8 _)
   ·exact absurd (W5 (olt y c z2) (W6 (Û x c z1).2)) (B8 _)
   ·exact qZ û z1 z2
  ·have own:scope.names.lookup x=some .cell-> ∃c,(jz X scope C).lookup x=some c:=λz=>by
    obtain⟨c,hc⟩:=vQ (sc:=scope) (n:=C+1) z;exact⟨c,by unfold jz;rw [jM,yW,hc]⟩
   have shr:scope.names.lookup x=some .free-> ∃c,(jz X scope C).lookup x=some c:=λz=>by
    have fm:=zm z;obtain⟨c,hc⟩:=I.ok.has x (S.free _ fm rfl);exact⟨c,wf S hc fm (by rw [z];decide)⟩
   rcases hx with hx|hx
   ·rcases jx (env:=X.env) hx with z|z
    ·exact own z
    ·exact shr z
   ·rcases jx (env:=X.env) hx with z|z<;>exact shr z
  ·have z':scope.names.lookup x=some .cell:=by
    have z2:(scope.names.lookup x==some V3)=true:=z;simpa using z2
   rcases jY S e with ⟨n,_⟩|⟨_,m⟩
   ·exact absurd z' n
   ·show h3.objs.size<=c;rw [hC];exact T8 (W6 (Û x c m).2)
  ·rcases (hf b hb).2.2.2.1 with z|z
   ·exact I.ok.noex b o e z
   ·exact absurd (B2 (D9 e) (R8 I.ok.bsz z)) (B8 _)
  ·rcases R7.mp (I.stkSub b z) with q|q
   ·exact(hf b hb).2.1 q
   ·exact(hf b hb).2.2.1 q
 -- Ũ X0g first state
 have I4:Inv X' [(D,bL [])] (zn js σ) H2 {s2 with heap:=h₁}:=by
  subst hX;have hDC:D≠C:=by rw [CD];exact M7 (J7 _)
  refine⟨okX,rfl,I2.bare,Un.kept (λb u e=>Λ b u e),⟨_,ú,λi x v e1 e2 e3=> ?_⟩,λx c e=> ?_,I3.hok.fresh (J0 hC),λx c e=>(cl x c e).elim (λz=>I2.freeC x c z) (λz=>I3.hok.fresh (by rw [<-hC] at z;exact T8 z)),λp hp=> ?_,I3.hok.kept Λ,(Jx js σ).trans I2.len⟩
  ·have fr:scope.names.lookup x=some .free:=by
    rcases e3 with e3|e3|e3
    ·rcases jx (env:=X.env) e3 with z|z
     ·exact absurd e2 (jV js σ i v (S.js i x e1 (.inl z)))
     ·exact z
    ·rcases jx (env:=X.env) e3 with z|z
     ·exact absurd e2 (jV js σ i v (S.js i x e1 (.inr z)))
     ·exact z
    ·rcases jx (env:=X.env) e3 with z|z<;>exact z
   have fm:=zm fr;obtain⟨m,hm,hl⟩:=I2.loc;have vis:=S.free _ fm rfl;obtain⟨u,r,lk⟩:=hl i x v e1 (vS js σ i v e2) (.inr vis);have kd:(y3 scope X.env).names.lookup x=some .cell\/(y3 scope X.env).names.lookup x=some .free:=by
    rcases e3 with e3|e3|e3
    ·rcases jx (env:=X.env) e3 with z|z
     ·rw [fr] at z;cases z
     ·exfalso;have z2:=e3
      -- a X0h kind Ņ
      exact absurd e2 (jV js σ i v (S.js i x e1 (.inl (by
       have q: ∀ (l:G0 (Str×NameKind)),(l.map λ(n,k)=>if (k==E4&&X.env.scope.kind== .function&&X.env.kindOf n==some .cell) then (n,V3) else (n,k)).lookup x=some .local->l.lookup x=some .local:=by
        intro l
        induction l with
        |nil=>intro h;simp at h
        |cons p l ih=>
         obtain⟨n,k'⟩:=p;intro h;have h':IS x ((if (k'==E4&&X.env.scope.kind== .function&&X.env.kindOf n==some .cell)=true then (n,V3) else (n,k'))::(l.map λ(n,k)=>if (k==E4&&X.env.scope.kind== .function&&X.env.kindOf n==some .cell) then (n,V3) else (n,k)))=some .local:=h;rw [J6]
         by_cases hc:(k'==E4&&X.env.scope.kind== .function&&X.env.kindOf n==some .cell)=true
         ·rw [R9 hc,J6] at h';cases hx:x==n with
          |true=>rw [hx] at h';cases h'
          |false=>rw [hx] at h';exact ih h'
         ·rw [S4 hc,J6] at h';cases hx:x==n with
          |true=>rw [hx] at h';exact h'
          |false=>rw [hx] at h';exact ih h'
       exact q _ z2))))
    ·exact .inl e3
    ·exact .inr e3
   rcases lk with ⟨k,_⟩|⟨_,c,hc,Ĝ⟩
   ·have k':X.env.scope.names.lookup x=some .local:=k;rcases vis with z|z<;>(rw [k'] at z;cases z)
   ·refine⟨u,r,.inr ⟨kd,c,wf S hc fm (by rw [fr];decide),?_⟩⟩;obtain⟨o,ho,hd⟩:=Ĝ;exact⟨o,Λ _ _ (up3 _ _ ho),hd⟩
  ·rcases jY S e with ⟨_,z⟩|⟨_,z⟩
   ·obtain⟨v,o,ho,hd⟩:=I2.cell x c z;exact⟨v,o,Λ _ _ (up3 _ _ ho),hd⟩
   ·exact⟨none,(Û x c z).1⟩
  ·have Ů:p∈ [(D,bL [])]:=hp;rcases G8.mp Ů with rfl
   refine⟨Λ _ _ hD3,fD.1,hDC,λz=> ?_,λv z=>by cases z⟩;rcases R7.mp (I.stkSub D z) with q|q
   ·exact fD.2.1 q
   ·exact fD.2.2.1 q
 have st4:tn 0 h₁:=T.keep _ _ _ Ħ λb _ o e=>Λ _ _ (up3 _ _ e)
 have eA:X'.A=X.A:=by rw [<-hX];rfl
 have eP:X'.prog=X.prog:=by rw [<-hX];rfl
 have eW:X'.w=X.w:=by rw [<-hX];rfl
 have eK:X'.K=X.K:=by rw [<-hX];rfl
 have eC:X'.calm=true:=by rw [<-hX];exact hc
 have eV:X'.env=mV scope (jz X scope C) C X.env:=by rw [<-hX];rfl
 have eE:X'.xe=λ_ _=>False:=by rw [<-hX];rfl
 -- θ Ņ true of Ũ į objects
 have ċ: ∀ {us:G0 G2} {H':Hp},(∀b∈fp,H' b=none)-> ∀b∈fp,UQ X' [(D,bL us)] H' b:=λ{us H'} hn b hb=>by
  have q:=hf b (N2 _ hb);subst hX;refine⟨hn b hb,M7 (ltb b (N2 _ hb)),λz=> ?_,.inl (N2 _ hb),λx c e=>(cl x c e).elim (λz=>q.2.2.2.2.1 x c z) (λz=>V6 (W5 (ltb b (N2 _ hb)) z)),λp hp=> ?_⟩
  ·rcases R7.mp (I.stkSub b z) with r|r
   ·exact q.2.1 r
   ·exact q.2.2.1 r
  ·have Ů:p∈ [(D,bL us)]:=hp;rcases G8.mp Ů with rfl
   exact V6 (ltf b hb)
 have loop: ∀s₃:G5,s₃= {s2 with heap:=h₁}->
  bJ (S0 X.prog X.w) X.A (.compLoop (.ListComp elt (⟨tg,iter,ifs,0⟩::rest) scope pos) 0 (.ref it) (.ref D) (mV scope (jz X scope C) C X.env))
   (uL (S0 X.prog X.w) X.A X.xe use Qv (.ref D) C) s₃:=by
  rintro s₃ rfl;refine XX (act:=act (mV scope (jz X scope C) C X.env) (.ref D)) (λn s'=> ∃i ys us H',Ç ys us/\Inv X' [(D,bL us)] (zn js σ) H' s'/\tn i s'.heap/\(∀b∈fp,H' b=none)/\W i n ys H') (ŝ _ _ _) ?_ m0
   ⟨0,[],[],H2,.nil,I4,st4,λb hb=>(f2 b hb).1,w0⟩
  rintro n s5 ⟨i,ys,us,H5,Φ,I5,Υ,fr5,w5⟩;obtain⟨hz,tr⟩:=turn i n ys H5 w5;rcases tr with ⟨stop,qn⟩|⟨go,step⟩
  ·have q:=T.done X' eP eW eK eC i _ s5 _ H5 (λ_ _=>False) I5 (ċ fr5) Υ stop;rw [eA] at q;refine M5 q (λr s6 ⟨hr,I6⟩=> ?_) λ_ _ z=>z
   subst hr;obtain⟨m6,hm6,_⟩:=I6.loc;rw [eV] at hm6;have zD:=I6.pin (D,bL us) (D0 _ P4);have HD:H5 D=none:=zD.2.1;have oD:s6.heap.get? D=some (bL us):=zD.1;have hDC:D≠C:=by rw [CD];exact M7 (J7 _)
   have HC:H5 C=none:=by have z:=I6.free;rw [eV] at z;exact z
   have B:=I6.base;have os6:s6.os=s2.os:=by have z:=I6.os;rw [<-hX] at z;exact z
   have Bu:Un (Ζ X.stack) (fp++ [D]) H2 H5 h3 s6.heap:=by rw [<-hX] at B;exact B
   have Τ: ∀b o,h3.get? b=some o->b≠C:=λb o e=>by rw [<-hC];exact M7 (D9 e)
   refine fin D C (upd H5 D (.lst ys)) s6 m6 hm6 (λh' hs'=> ?_) (by rw [jj (I0 hDC)];exact HC) ?_ ?_ ?_ (λx c e=>M7 (olt x c e)) ?_ (qn D HD)
   ·have hk5:Ē X.prog X.w H5 h':=λb u e=>by
     have z:=I6.hok b u e;rw [eP,eW] at z;refine z.stay (λc v hc q=>hs'.extBut c v ?_ q) (λ_ q=>q) λ_ _ q=>q
     rcases hc with rfl|hc
     ·exact ji e HC
     ·exact ji hc HC
    refine I3.call' (ch:=fp++ [D]) os6 ⟨λb o e n hb hx=> ?_,λb o e n hb hx=> ?_,λb o e n hx=> ?_,λb o e hx=> ?_,λb xs e=> ?_,λb o u e=> ?_,λb ps e=> ?_⟩ (hk5.track HD ?_) I6.bare λb hb=> ?_
    ·exact hs'.extBut b o (Τ b o e) (Bu.keep b o e n hb hx)
    ·obtain⟨sl,q⟩:=Bu.slot b o e n hb hx;exact⟨sl,hs'.extBut b _ (Τ b o e) q⟩
    ·rw [jj λz=>hx (by rw [z];exact D0 _ P4)];exact Bu.free b o e n hx
    ·obtain⟨o',q⟩:=Bu.there b o e hx;exact⟨o',hs'.extBut b _ (Τ b o e) q⟩
    ·have z:=Bu.tups b xs e;rw [jj (ji z HD)];exact z
    ·have z:=Bu.frzs b o u e;rw [jj (ji z HD)];exact z
    ·obtain⟨more,z⟩:=Bu.tbls b ps e;exact⟨more,by rw [jj (ji z HD)];exact z⟩
    ·exact⟨hz,us,us.length,Φ,hs'.extBut D _ hDC oD⟩
    ·have q:=hf b hb;exact⟨q.2.2.2.1,q.2.1,q.2.2.2.2.1,q.2.2.2.2.2⟩
   ·rw [<-hC];exact V6 I3.lt
   ·exact I3.nofs (J0 hC)
   ·rw [<-hC];exact I3.sz
   ·intro p hp;have:=(I3.pin p hp).1;rw [<-hC];exact M7 (D9 this)
  ·have q:=T.item X' eP eW eK eC i _ s5 _ H5 (λ_ _=>False) I5 (ċ fr5) Υ go;rw [eA] at q;refine M5 q (λr s6 ⟨u,hr,h6⟩=> ?_) λ_ _ z=>z
   subst hr;refine M5 h6 (λ_ s7 ⟨x,H7,I7,r7,y7,χ,fr7⟩=> ?_) λ_ _ z=>z
   have I7':=I7.pinned (ċ fr7) (T.obj _ _ χ);have q7:=hg X' iX _ s7 _ H7 x u _ I7' r7 (step x H7 y7);rw [eP,eW,eA,eV,eE] at q7;refine M5 q7 (λ_ s8 ⟨ψ,H8,I8,Ž,q8⟩=> ?_) λ_ _ z=>z
   have q9:=ht X' iX _ s8 ψ H8 _ I8 q8;rw [eP,eW,eA,eV,eE] at q9;refine M5 q9 (λok s9 ⟨H9,I9,q9⟩=> ?_) λ_ _ z=>z
   have ĝ: ∀ {Â:St} {H':Hp} {s':G5} {us:G0 G2},Inv X' ([(D,bL us)]++wG fp s7.heap) Â H' s'->tn (i+1) s'.heap/\ ∀b∈fp,H' b=none:=λ{Â H' s' us} I'=>
    ⟨T.keep _ _ _ χ λb hb o e=>(I'.pin (b,o) (D0 _ (D0 _ (zl hb e)))).1,λb hb=>by
     obtain⟨o,e,_⟩:=T.obj _ _ χ b hb;exact(I'.pin (b,o) (D0 _ (D0 _ (zl hb e)))).2.1⟩
   cases ok with
   |false=>
    have q9: ∃m',m'<n/\W (i+1) m' ys H9:=q9;obtain⟨m',hm,w9⟩:=q9;obtain⟨t9,f9⟩:=ĝ I9;exact⟨m',hm,i+1,ys,us,H9,Φ,(I9.unpinned).weak Ž.1.symm Ž.2,t9,f9,w9⟩
   |true=>
    have q9:tm ψ H9 ys λù H4=> ∃m',m'<n/\W (i+1) m' ù H4:=q9
    have DX:D∈X'.ex:=by rw [<-hX];exact D0 _ P4
    have pD: ∀p∈X'.pn++wG fp s7.heap,p.1≠D:=λp hp=>by
     have Ů:p∈wG fp s7.heap:=by rw [<-hX] at hp;simpa [wu] using hp
     exact M7 (ltf _ (vP Ů).1)
    have cD: ∀x c,X'.env.cells.lookup x=some c->c≠D:=λx c e=>by
     rw [eV] at e;exact(cl x c e).elim (λz=>fD.2.2.2.2.1 x c z) λz=>V6 (W5 (by rw [CD];exact J7 _) z)
    have q10:=he X' iX D _ s9 ψ H9 ys us _ I9 Φ hz DX cD pD q9;rw [eP,eW,eA,eV] at q10;show R5 _ _ (act _ _) _ _ s9;refine M5 q10 (λ_ s10 ⟨ù,ż,H10,ω,I10,m',hm,w10⟩=> ?_) λ_ _ z=>z
    obtain⟨t10,f10⟩:=ĝ I10;exact⟨m',hm,i+1,ù,ż,H10,ω,(I10.unpinned).weak Ž.1.symm Ž.2,t10,f10,w10⟩
 exact codeAny_compStart_list (loop _ rfl) (T.self X.A 0 _ _ _ st4 (loop _ rfl))
def Al (hc:X.calm=true)(S:Ì X scope js)(hi:PI X tg iter wi)
 (hg: ∀X',jh X scope X'->PG X' tg g)(ht: ∀X',jh X scope X'->ė X' ifs tt)(he: ∀X',jh X scope X'->PE X' elt te)
 (hs: ∀x,M9 iter X.env x=pure x:=by intro _;rfl):PE X (.ListComp elt [⟨tg,iter,ifs,0⟩] scope pos) (tLC js wi g tt te):=by
 intro À s σ H Q I h;rw [w8];exact Pv (use:=none) hc S hi rfl hg ht (WE elt) (λ_ _ _=>rfl) (λX' hX D=>Yf (by obtain⟨_,_,_,_,rfl⟩:=hX;rfl) (he X' hX)) hs I h
  λD C H' s' m hn hk _ _ _ _ _ _ q=>⟨m,hn,λh' hs'=>⟨.ref D,H',hk h' hs',rfl,q⟩⟩
def CS {rest:G0 aU}{pos' î:Pos}{g':TG}{tm:TM}(hc:X.calm=true)(S:Ì X scope js)(hi:PI X tg iter wi)
 (he0:e= .ListComp elt (⟨tg,iter,ifs,0⟩::rest) scope pos)(hg: ∀X',jh X scope X'->PG X' tg g)(ht: ∀X',jh X scope X'->ė X' ifs tt)
 (act:Env->G2->Sem Unit)(ŝ: ∀it acc env,iO e 0 it acc env=vT iter tg ifs it env (act env acc) (.compLoop e 0 it acc env))(he: ∀X',jh X scope X'-> ∀D,SF X' D (act X'.env (.ref D)) tm)
 (hg':PG X (.Name x pos') g')(hsw:X7 e (some (.Name x pos')) î.line X.env=pure true)
 (hs: ∀x,M9 iter X.env x=pure x):PS X (.Assign [.Name x pos'] e î) (MF (SG js wi g tt tm) g'):=by
 intro À s σ H Dn I h;rw [oF _ _ _ _ hsw];refine wpAny_bind (Z9 (wpAny_bind ?_));subst he0;rw [arm_evalThenUse_ListComp];show R5 _ X.A (do let _ <-mK (.ListComp elt (⟨tg,iter,ifs,0⟩::rest) scope pos) scope X.env _ (newList []) false (K0 iter X.env) (some (dY (.Name x pos') X.env))) _ _ s;refine wpAny_bind (M5 (Pv (use:=some (dY (.Name x pos') X.env)) (Qv:=λ_ s'=>SP X À Dn .next s') hc S hi rfl hg ht act ŝ he hs I h ?_) (λ_ s' hq=>P0 (P0 hq)) λ_ _ e=>e);intro D C H' s' m hn hk HC nL nf sz X0i X0Y q;show R5 _ X.A (dY (.Name x pos') X.env (.ref D)) _ _ s';obtain⟨o,es,ep,ho,hd,hr⟩:=id hn;have I1:Inv X À σ H' s':=hk s'.heap (bM ..);have I2:Inv X (À++ [(C,o)]) σ H' s':=I1.pins_of λp hp=>by
  rcases D8.mp hp with z|z
  ·exact I1.pin p (D0 _ z)
  ·rcases G8.mp z with rfl
   exact⟨ho,HC,nL,nf,λv z=>by rw [hd] at z;cases z⟩
 refine M5 (hg' _ s' σ H' (.ref D) (.ref D) _ I2 rfl q) (λ_ s3 ⟨ā,H3,I3,q3⟩=> ?_) λ_ _ z=>z
 have pC:=I3.pin (C,o) (D0 _ (D0 _ P4));refine⟨m,hn.at' λo' e'=> ?_,λh' hs'=> ?_⟩
 ·rw [ho] at e';cases e';exact pC.1
 ·exact⟨ā,H3,(I3.unpinned).turned (t':=s3.toks) (it:=C) (λb o hb e=>hs'.extBut b o hb e) pC.2.1 nL (.inr sz) X0i X0Y,q3⟩
def XY {pos' î:Pos}{g':TG}(hc:X.calm=true)(S:Ì X scope js)(hi:PI X tg iter wi)
 (hg: ∀X',jh X scope X'->PG X' tg g)(ht: ∀X',jh X scope X'->ė X' ifs tt)(he: ∀X',jh X scope X'->PE X' elt te)
 (hg':PG X (.Name x pos') g')(hsw:X7 (.ListComp elt [⟨tg,iter,ifs,0⟩] scope pos) (some (.Name x pos')) î.line X.env=pure true)
 (hs: ∀x,M9 iter X.env x=pure x:=by intro _;rfl):PS X (.Assign [.Name x pos'] (.ListComp elt [⟨tg,iter,ifs,0⟩] scope pos) î) (MF (tLC js wi g tt te) g'):=
 CS hc S hi rfl hg ht (WE elt) (λ_ _ _=>rfl) (λX' hX D=>Yf (by obtain⟨_,_,_,_,rfl⟩:=hX;rfl) (he X' hX)) hg' hsw hs
noncomputable def Pw (e iter:N3)(env:Env)(acc:G2):Sem Unit:=do
 let x <-K0 iter env
 fO iter.pos
 let x <-M9 iter env x
 let _ <-runOwn (.compStart e 1 (<-Z8 [x] (qD x)) acc env) env
def mIn (wi : TI) (g : TG) (tt : TT) (tm : TM) : TM := fun σ H ys Q => wi σ H fun J H1 =>
  ∃ W : G6 → G6 → G0 V → Hp → Prop, (∃ m, W 0 m ys H1) ∧ ∀ i m ys H, W i m ys H → ys.length ≤ sizeLine ∧
    ((J.stop i H ∧ Q ys H) ∨
     (J.go i H ∧ ∀ x H', J.yld i H x H' → g x σ H' fun à H2 => Agree σ à ∧ tt à H2 fun b H3 =>
        if b = true then tm à H3 ys fun ù H4 => ∃ m', m' < m ∧ W (i + 1) m' ù H4 else ∃ m', m' < m ∧ W (i + 1) m' ys H3))
def vU {A:N7}{R:qE->G5->Prop}{s:G5}{g0 g1:aU}{it acc:G2}(ha:g1.is_async=0)
 (h0:bJ (S0 prog w) A (.compLoop (.ListComp elt [g0,g1] scope pos) 1 it acc env) R s)
 (h:R5 (S0 prog w) A (qD it) (λit' s'=>bJ (S0 prog w) A (.compLoop (.ListComp elt [g0,g1] scope pos) 1 it' acc env) R s')
  (notedBy (S0 prog w) A env λx s'=>R (.error x) s') s):
 bJ (S0 prog w) A (.compStart (.ListComp elt [g0,g1] scope pos) 1 it acc env) R s:=by
 obtain⟨tg,iter,ifs,as⟩:=g1;cases (show as=0 from ha);refine n9 (xA ?_);obtain⟨hp,g,d,tk,os⟩:=s;unfold compStart
 wp_walk
 refine aV ?_;split
 ·exact P0 ⟨rfl,h0⟩
 ·exact wpAny_bind (iC (wpAny_bind (Z9 (wpAny_bind (M5 h (λ_ _ on=>P0 ⟨rfl,on⟩) λ_ _ x=>x)))))
def CT {D:P2}{g0:aU}(hc:X.calm=true)(hx:X.xe=λ_ _=>False)
 (hi:PI X tg iter wi)(hg:PG X tg g)(ht:ė X ifs tt)(he:PE X elt te)(hs: ∀x,M9 iter X.env x=pure x):
 SF X D (Pw (.ListComp elt [g0,⟨tg,iter,ifs,0⟩] scope pos) iter X.env (.ref D)) (mIn wi g tt (Ak te)):=by
 intro À s σ H ys us Q I hv hz DX cD pD h;have q:=hi _ s σ H _ I h;rw [hx] at q;unfold Pw;refine wpAny_bind (M5 q (λv s1 h1=>wpAny_bind (Z9 (wpAny_bind (IT (hs v) (wpAny_bind (O8 (M5 h1 (λitv s2 h2=> ?_) λ_ _ z=>z))))))) λ_ _ z=>z);obtain⟨it,fp,tn,J,H2,e,I2,T,Ħ,f2,W,⟨m0,w0⟩,turn⟩:=h2;subst e;refine wpAny_bind (wpAny_runOwn ?_);have neD: ∀b∈fp,b≠D:=λb hb=>by
  have z:=(f2 b hb).2.2.2.2.2 (D,bL us) (D0 _ (N2 _ P4));exact I0 z
 have ċ: ∀ {ż:G0 G2} {H':Hp},(∀b∈fp,H' b=none)-> ∀b∈fp,UQ X ([(D,bL ż)]++À) H' b:=λ{ż H'} hn b hb=>by
  have q:=f2 b hb;refine⟨hn b hb,q.2.1,q.2.2.1,q.2.2.2.1,q.2.2.2.2.1,λp hp=> ?_⟩;rcases D8.mp hp with z|z
  ·exact q.2.2.2.2.2 p (N2 _ z)
  ·rcases D8.mp z with z|z
   ·rcases G8.mp z with rfl
    exact I0 (neD b hb)
   ·exact q.2.2.2.2.2 p (D0 _ (D0 _ z))
 have loop:bJ (S0 X.prog X.w) X.A (.compLoop (.ListComp elt [g0,⟨tg,iter,ifs,0⟩] scope pos) 1 (.ref it) (.ref D) X.env)
  (λr s'=>match r with| .ok f=>R5 (S0 X.prog X.w) X.A (pure ()) (λ_ s'=> ∃ù ż H',Ç ù ż/\Inv X ([(D,bL ż)]++À) σ H' s'/\Q ù H') (λ_ _=>False) s'| .error e=>cameBackBy (S0 X.prog X.w) X.A X.env (λ_ _=>False) e s') s2:=by
  refine XX (act:=WE elt X.env (.ref D)) (λn s'=> ∃i ys us H',Ç ys us/\Inv X ([(D,bL us)]++À) σ H' s'/\tn i s'.heap/\(∀b∈fp,H' b=none)/\W i n ys H') rfl ?_ m0
   ⟨0,ys,us,H2,hv,I2,Ħ,λb hb=>(f2 b hb).1,w0⟩
  rintro n s5 ⟨i,ys,us,H5,Φ,I5,Υ,fr5,w5⟩;obtain⟨hz,tr⟩:=turn i n ys H5 w5;rcases tr with ⟨stop,qn⟩|⟨go,step⟩
  ·refine M5 (T.done X rfl rfl rfl hc i _ s5 _ H5 (λ_ _=>False) I5 (ċ fr5) Υ stop) (λr s6 ⟨hr,I6⟩=> ?_) λ_ _ z=>z
   subst hr;exact P0 ⟨ys,us,H5,Φ,I6,qn⟩
  ·refine M5 (T.item X rfl rfl rfl hc i _ s5 _ H5 (λ_ _=>False) I5 (ċ fr5) Υ go) (λr s6 ⟨u,hr,h6⟩=> ?_) λ_ _ z=>z
   subst hr;refine M5 h6 (λ_ s7 ⟨x,H7,I7,r7,y7,χ,fr7⟩=> ?_) λ_ _ z=>z
   have I7':=I7.pinned (ċ fr7) (T.obj _ _ χ);have q7:=hg _ s7 _ H7 x u _ I7' r7 (step x H7 y7);rw [hx] at q7;refine M5 q7 (λ_ s8 ⟨ψ,H8,I8,Ž,q8⟩=> ?_) λ_ _ z=>z
   have q9:=ht _ s8 ψ H8 _ I8 q8;rw [hx] at q9;refine M5 q9 (λok s9 ⟨H9,I9,q9⟩=> ?_) λ_ _ z=>z
   have ĝ: ∀ {Â:St} {H':Hp} {s':G5} {us:G0 G2},Inv X (([(D,bL us)]++À)++wG fp s7.heap) Â H' s'->tn (i+1) s'.heap/\ ∀b∈fp,H' b=none:=λ{Â H' s' us} I'=>
    ⟨T.keep _ _ _ χ λb hb o e=>(I'.pin (b,o) (D0 _ (D0 _ (zl hb e)))).1,λb hb=>by
     obtain⟨o,e,_⟩:=T.obj _ _ χ b hb;exact(I'.pin (b,o) (D0 _ (D0 _ (zl hb e)))).2.1⟩
   cases ok with
   |false=>
    have q9: ∃m',m'<n/\W (i+1) m' ys H9:=q9;obtain⟨m',hm,w9⟩:=q9;obtain⟨t9,f9⟩:=ĝ I9;exact⟨m',hm,i+1,ys,us,H9,Φ,(I9.unpinned).weak Ž.1.symm Ž.2,t9,f9,w9⟩
   |true=>
    have q9:Ak te ψ H9 ys λù H4=> ∃m',m'<n/\W (i+1) m' ù H4:=q9
    have pD': ∀p∈X.pn++(À++wG fp s7.heap),p.1≠D:=λp hp=>by
     rcases D8.mp hp with z|z
     ·exact pD p (N2 _ z)
     ·rcases D8.mp z with z|z
      ·exact pD p (D0 _ z)
      ·exact neD _ (vP z).1
    rw [D5] at I9;have q10:=Yf (D:=D) hx he (À++wG fp s7.heap) s9 ψ H9 ys us _ I9 Φ hz DX cD pD' q9;show R5 _ _ (WE _ _ _) _ _ s9;refine M5 q10 (λ_ s10 ⟨ù,ż,H10,ω,I10,m',hm,w10⟩=> ?_) λ_ _ z=>z
    rw [<-D5] at I10;obtain⟨t10,f10⟩:=ĝ I10;exact⟨m',hm,i+1,ù,ż,H10,ω,(I10.unpinned).weak Ž.1.symm Ž.2,t10,f10,w10⟩
 exact vU rfl loop (T.self X.A 0 _ _ _ Ħ loop)
def CU (elt iter tg å tg':N3)(ifs Ě:G0 N3)(scope:Y0)(pos:Pos)(it acc:G2)(env:Env):
 iO (.ListComp elt [⟨tg,iter,ifs,0⟩,⟨tg',å,Ě,0⟩] scope pos) 0 it acc env=
  vT iter tg ifs it env (Pw (.ListComp elt [⟨tg,iter,ifs,0⟩,⟨tg',å,Ě,0⟩] scope pos) å env acc) (.compLoop (.ListComp elt [⟨tg,iter,ifs,0⟩,⟨tg',å,Ě,0⟩] scope pos) 0 it acc env):=by
 unfold vT Pw;simp only [bind_assoc,pure_bind];rfl
def Tk (js:G0 G6)(wi:TI)(g:TG)(tt:TT)(wi':TI)(g':TG)(ũ:TT)(te:TE):TE:=SG js wi g tt (mIn wi' g' ũ (Ak te))
def Am {å tg':N3}{Ě:G0 N3}{wi':TI}{g':TG}{ũ:TT}(hc:X.calm=true)(S:Ì X scope js)(hi:PI X tg iter wi)
 (hg: ∀X',jh X scope X'->PG X' tg g)(ht: ∀X',jh X scope X'->ė X' ifs tt)(hi': ∀X',jh X scope X'->PI X' tg' å wi')
 (hg': ∀X',jh X scope X'->PG X' tg' g')(ht': ∀X',jh X scope X'->ė X' Ě ũ)(he: ∀X',jh X scope X'->PE X' elt te)
 (hs: ∀x,M9 iter X.env x=pure x:=by intro _;rfl)(hs': ∀env x,M9 å env x=pure x:=by intro _ _;rfl):
 PE X (.ListComp elt [⟨tg,iter,ifs,0⟩,⟨tg',å,Ě,0⟩] scope pos) (Tk js wi g tt wi' g' ũ te):=by
 intro À s σ H Q I h;rw [w8];exact Pv (use:=none) hc S hi rfl hg ht (λenv acc=>Pw (.ListComp elt [⟨tg,iter,ifs,0⟩,⟨tg',å,Ě,0⟩] scope pos) å env acc) (λ_ _ _=>CU ..)
  (λX' hX D=>CT (by obtain⟨_,_,_,_,rfl⟩:=hX;exact hc) (by obtain⟨_,_,_,_,rfl⟩:=hX;rfl) (hi' X' hX) (hg' X' hX) (ht' X' hX) (he X' hX) (hs' _)) hs I h
  λD C H' s' m hn hk _ _ _ _ _ _ q=>⟨m,hn,λh' hs'=>⟨.ref D,H',hk h' hs',rfl,q⟩⟩
inductive D where
 |non|bl (b:N4)|int (i:P1)|str (x:Str)|tup (ds:G0 D)|lst (a:P2)|dic (x:Str) (i:P1)|dct (a:P2)|scr (ns:G0 P1)|exc (C:P2)|fn (a:P2)|exf (C:P2) (fs:G0 (Str×P1))
def Χ (K:G7)(H:Hp)(a:P2)(ns:G0 P1):Prop:=
 (∃o,H a=some (.frz o (.lst (ns.map V.int))))\/
  ∃ (o:Obj) (its:S9 G2) (n:G6),K.lookup a=some o/\o.cls= .type "list" /\o.dict=none/\o.data= .seq its n/\its.size<=sizeLine/\Ç (ns.map V.int) its.toList
variable {K:G7}
def Χ.sq {ns:G0 P1}(h:Χ K H a ns):è K H a (ns.map V.int):=h.elim (λz=> .inl (.inr z)) .inr
def Μ (H:Hp)(dx:D4 P2)(fs:G0 (Str×P1)):Prop:=fs= []\/ ∃D oD,dx=some D/\H D=some (.frz oD (.xd (fs.map λp=>(p.1,V.int p.2))))
mutual
def É (K:G7)(H:Hp):D->V->Prop
 | .non,v=>v= .non
 | .bl b,v=>v= .bl b
 | .int i,v=>v= .int i
 | .str x,v=>v= .str x
 | .tup ds,v=> ∃a vs,v= .ref a/\H a=some (.tup vs)/\Á K H ds vs
 | .lst a,v=>v= .ref a/\ ∃vs,H a=some (.lst vs)
 | .dic x i,v=> ∃a,v= .ref a/\H a=some (.dK [(dN x,V.int i)])
 | .dct a,v=>v= .ref a
 | .scr ns,v=> ∃a,v= .ref a/\Χ K H a ns
 | .exc C,v=> ∃x o vs,v= .ref x/\H x=some (.frz o (.own 0))/\o.cls= .ref C/\o.data= .fields vs
 | .fn a,v=>v= .ref a/\b7 K (.ref a)=true
 | .exf C fs,v=> ∃x o vs,v= .ref x/\H x=some (.frz o (.own 0))/\o.cls= .ref C/\o.data= .fields vs/\Μ H o.dict fs
def Á (K:G7)(H:Hp):G0 D->G0 V->Prop
 | [],vs=>vs= []
 |d::ds,vs=> ∃v r,vs=v::r/\É K H d v/\Á K H ds r
end
structure Kept (H H':Hp):Prop where
 tup: ∀a xs,H a=some (.tup xs)->H' a=some (.tup xs)
 lst: ∀a xs,H a=some (.lst xs)-> ∃ys,H' a=some (.lst ys)
 dic: ∀a x i,H a=some (.dK [(dN x,V.int i)])->H' a=some (.dK [(dN x,V.int i)])
 frz: ∀a o u,H a=some (.frz o u)->H' a=some (.frz o u)
variable {H':Hp}
def Μ.mono (k:Kept H H'){dx:D4 P2}{fs:G0 (Str×P1)}(f:Μ H dx fs):Μ H' dx fs:=f.imp id λ⟨D,oD,e,h⟩=>⟨D,oD,e,k.frz _ _ _ h⟩
def Kept.refl (H:Hp):Kept H H:=⟨λ_ _ h=>h,λ_ xs h=>⟨xs,h⟩,λ_ _ _ h=>h,λ_ _ _ h=>h⟩
def Kept.trans {A B C:Hp}(x:Kept A B)(y:Kept B C):Kept A C:=
 ⟨λa xs h=>y.tup a xs (x.tup a xs h),λa xs h=>let ⟨_,e⟩:=x.lst a xs h;y.lst a _ e,λa k i h=>y.dic a k i (x.dic a k i h),λa o u h=>y.frz a o u (x.frz a o u h)⟩
variable {p:P2}
def Kept.new (h:H p=none):Kept H (upd H p o):=
 ⟨λa xs e=>by rw [jj (ji e h)];exact e,λa xs e=>⟨xs,by rw [jj (ji e h)];exact e⟩,λa k i e=>by rw [jj (ji e h)];exact e,λa o u e=>by rw [jj (ji e h)];exact e⟩
def Kept.put {xs ys:G0 V}(h:H p=some (.lst xs)):Kept H (upd H p (.lst ys)):=
 ⟨λa zs e=>by rw [jj (Ga e h (by intro z;cases z))];exact e,λa zs e=>by
  by_cases q:a=p
  ·subst q;exact⟨ys,jt⟩
  ·exact⟨zs,by rw [jj q];exact e⟩,
  λa k i e=>by rw [jj (Ga e h (by intro z;cases z))];exact e,λa o u e=>by rw [jj (Ga e h (by intro z;cases z))];exact e⟩
def ů (o:HO):Prop:=(∃ý:G0 (P1×V),o= .dK (ý.map λp=>((lV p.1:ń),p.2)))\/ ∃φ,o= .ext φ
def ů.no (d:ů o):(∀xs,o≠ .tup xs)/\(∀xs,o≠ .lst xs)/\(∀x i,o≠ .dK [(dN x,V.int i)])/\(∀p u,o≠ .frz p u)/\ ∀ps,o≠ .tbl ps:=by
 rcases d with ⟨ý,rfl⟩|⟨φ,rfl⟩
 ·refine⟨λ_ z=>(nomatch z),λ_ z=>(nomatch z),λx i z=> ?_,λ_ _ z=>(nomatch z),λ_ z=>(nomatch z)⟩;injection z with z
  cases ý with
  |nil=>cases z
  |cons p r=>injection z with z _;injection z with z _;cases z
 ·exact⟨λ_ z=>(nomatch z),λ_ z=>(nomatch z),λ_ _ z=>(nomatch z),λ_ _ z=>(nomatch z),λ_ z=>(nomatch z)⟩
def Kept.putD {o':HO}(h:H p=some o)(d:ů o):Kept H (upd H p o'):=by
 obtain⟨d1,d2,d3,d4,_⟩:=d.no;have ne: ∀ {a:P2} {u:HO},H a=some u->o≠u->a≠p:=λe n z=>by subst z;rw [h] at e;injection e with e;exact n e
 exact⟨λa xs e=>by rw [jj (ne e (d1 xs))];exact e,λa xs e=>⟨xs,by rw [jj (ne e (d2 xs))];exact e⟩,λa x i e=>by rw [jj (ne e (d3 x i))];exact e,λa q u e=>by rw [jj (ne e (d4 q u))];exact e⟩
mutual
theorem É.mono (k:Kept H H'): ∀ {d:D} {v:V},É K H d v->É K H' d v
 | .non,_,h=>h
 | .bl _,_,h=>h
 | .int _,_,h=>h
 | .str _,_,h=>h
 | .tup ds,v,h=>by
  obtain⟨a,vs,e,h1,h2⟩:=(show ∃a vs,v= .ref a/\H a=some (.tup vs)/\Á K H ds vs from h);exact⟨a,vs,e,k.tup _ _ h1,Á.mono k h2⟩
 | .lst a,v,h=>by
  obtain⟨e,vs,h1⟩:=(show v= .ref a/\ ∃vs,H a=some (.lst vs) from h);exact⟨e,k.lst _ _ h1⟩
 | .dic x i,v,h=>by
  obtain⟨a,e,h1⟩:=(show ∃a,v= .ref a/\H a=some (.dK [(dN x,V.int i)]) from h);exact⟨a,e,k.dic _ _ _ h1⟩
 | .dct a,v,h=>h
 | .scr ns,v,h=>by
  obtain⟨a,e,h1⟩:=(show ∃a,v= .ref a/\Χ K H a ns from h);exact⟨a,e,h1.elim (λ⟨o,z⟩=> .inl ⟨o,k.frz _ _ _ z⟩) .inr⟩
 | .exc C,v,h=>by
  obtain⟨x,o,vs,e,h1,r⟩:=(show ∃x o vs,v= .ref x/\H x=some (.frz o (.own 0))/\o.cls= .ref C/\o.data= .fields vs from h);exact⟨x,o,vs,e,k.frz _ _ _ h1,r⟩
 | .fn a,v,h=>h
 | .exf C fs,v,h=>by
  obtain⟨x,o,vs,e,h1,c,d,f⟩:=(show ∃x o vs,v= .ref x/\H x=some (.frz o (.own 0))/\o.cls= .ref C/\o.data= .fields vs/\Μ H o.dict fs from h);exact⟨x,o,vs,e,k.frz _ _ _ h1,c,d,f.mono k⟩
theorem Á.mono (k:Kept H H'): ∀ {ds:G0 D} {vs:G0 V},Á K H ds vs->Á K H' ds vs
 | [],_,h=>h
 |d::ds,vs,h=>by
  obtain⟨v,r,e,h1,h2⟩:=(show ∃v r,vs=v::r/\É K H d v/\Á K H ds r from h);exact⟨v,r,e,É.mono k h1,Á.mono k h2⟩
end
section
variable {K:G7}{H:Hp}
def Á.nil:Á K H [] []:=rfl
def Á.cons {d:D}{v:V}{ds:G0 D}{vs:G0 V}(h:É K H d v)(t:Á K H ds vs):Á K H (d::ds) (v::vs):=⟨v,vs,rfl,h,t⟩
def Á.length: ∀ {ds:G0 D} {vs:G0 V},Á K H ds vs->ds.length=vs.length
 | [],_,h=>by cases (show _= [] from h);rfl
 |d::ds,vs,h=>by
  obtain⟨v,r,e,_,h2⟩:=(show ∃v r,vs=v::r/\É K H d v/\Á K H ds r from h);subst e;simp [Á.length h2]
def Á.append: ∀ {ds es:G0 D} {vs us:G0 V},Á K H ds vs->Á K H es us->Á K H (ds++es) (vs++us)
 | [],_,_,_,h,g=>by cases (show _= [] from h);exact g
 |d::ds,es,vs,us,h,g=>by
  obtain⟨v,r,e,h1,h2⟩:=(show ∃v r,vs=v::r/\É K H d v/\Á K H ds r from h);subst e;exact .cons h1 (Á.append h2 g)
def Á.get: ∀ {ds:G0 D} {vs:G0 V} {i:G6} {d:D},Á K H ds vs->ds[i]? =some d-> ∃v,vs[i]? =some v/\É K H d v
 |d'::ds,vs,i,d,h,e=>by
  obtain⟨v,r,q,h1,h2⟩:=(show ∃v r,vs=v::r/\É K H d' v/\Á K H ds r from h);subst q;cases i with
  |zero=>simp at e;subst e;exact⟨v,rfl,h1⟩
  |succ i=>
   obtain⟨u,q1,q2⟩:=Á.get h2 (i:=i) (d:=d) (by simpa using e);exact⟨u,by simpa using q1,q2⟩
def Á.take (n:G6): ∀ {ds:G0 D} {vs:G0 V},Á K H ds vs->Á K H (ds.take n) (vs.take n):=by
 induction n with
 |zero=>intro ds vs _;exact(rfl:Á K H [] [])
 |succ n ih=>
  intro ds vs h;cases ds with
  |nil=>cases (show vs= [] from h);exact .nil
  |cons d ds=>
   obtain⟨v,r,e,h1,h2⟩:=(show ∃v r,vs=v::r/\É K H d v/\Á K H ds r from h);subst e;exact .cons h1 (ih h2)
def Á.drop (n:G6): ∀ {ds:G0 D} {vs:G0 V},Á K H ds vs->Á K H (ds.drop n) (vs.drop n):=by
 induction n with
 |zero=>intro ds vs h;exact h
 |succ n ih=>
  intro ds vs h;cases ds with
  |nil=>cases (show vs= [] from h);exact .nil
  |cons d ds=>
   obtain⟨v,r,e,h1,h2⟩:=(show ∃v r,vs=v::r/\É K H d v/\Á K H ds r from h);subst e;exact ih h2
def Á.set {d:D}{v:V}(q:É K H d v): ∀ {ds:G0 D} {vs:G0 V} (i:G6),Á K H ds vs->Á K H (ds.set i d) (vs.set i v)
 | [],_,_,h=>by cases (show _= [] from h);exact .nil
 |e::ds,vs,i,h=>by
  obtain⟨u,r,z,h1,h2⟩:=(show ∃u r,vs=u::r/\É K H e u/\Á K H ds r from h);subst z;cases i with
  |zero=>exact .cons q h2
  |succ i=>exact .cons h1 (Á.set q i h2)
theorem yX: ∀ns:G0 P1,Á K H (ns.map D.int) (ns.map V.int)
 | []=> .nil
 |n::ns=> .cons rfl (yX ns)
end
inductive DC where
 |ik (kv:G0 (P1×D))
 |tk (ep:G6) (kv:G0 (G0 (G0 P1)×D))
structure HD where
 ls:P2->D4 (G0 D)
 dc:P2->D4 DC
instance:CoeFun HD λ_=>P2->D4 (G0 D):=⟨HD.ls⟩
noncomputable def zK (h:HD)(a:P2)(ds:G0 D):HD:=⟨λb=>if b=a then some ds else h b,h.dc⟩
noncomputable def VC (h:HD)(a:P2):HD:=⟨λb=>if b=a then none else h b,h.dc⟩
variable {h:HD}{ds:G0 D}
def jc:zK h a ds a=some ds:=R9 rfl
def wv {b:P2}(e:b≠a):zK h a ds b=h b:=S4 e
def zZ (e:h a=none):VC (zK h a ds) a=h:=by
 obtain⟨l,d⟩:=h;refine congrArg (HD.mk · d) ?_
 funext b
 show (if b=a then none else if b=a then some ds else l b)=l b
 by_cases q:b=a
 ·subst q;rw [R9 rfl];exact e.symm
 ·rw [S4 q,S4 q]
noncomputable def LN:G0 Str:= ["law","_law_right","_law_words","_law_other_words","_law_many_right","_law_all","_law_told_row","_law_all_right","_law_desk_right","_law_signs_right","_law_lists_right","_law_text_right"]
def X0Z (K:G7)(P:P2):Prop:= ∃x∈LN,∃c,qA K x=some (c,P)
def ħ (H:Hp)(ps:S9 G2):Prop:=TriplesOk ps.toList/\ ∀pos cv,codeAmong pos ps.toList=some cv-> ∃ (c:P2) (o:Obj) (vs:S9 G2) (q:Str) (t:Tok),cv= .ref c/\H c=some (.frz o (.own 0))/\o.data= .fields vs/\vs[1]? =some (.str q t)
def Ĉ (K:G7)(H:Hp):Prop:= ∀P,X0Z K P-> ∃ps,H P=some (.tbl ps)/\ħ H ps
def ħ.mono {ps:S9 G2}(k: ∀a o u,H a=some (.frz o u)->H' a=some (.frz o u))(c:ħ H ps):ħ H' ps:=
 ⟨c.1,λpos cv e=>let ⟨c',o,vs,q,t,e1,e2,r⟩:=c.2 pos cv e;⟨c',o,vs,q,t,e1,k _ _ _ e2,r⟩⟩
def Ĉ.mono (x:Ĉ K H)(k: ∀a o u,H a=some (.frz o u)->H' a=some (.frz o u))(kt: ∀a ps,H a=some (.tbl ps)->H' a=some (.tbl ps)):Ĉ K H':=λP hP=>
 let ⟨ps,e,c⟩:=x P hP;⟨ps,kt _ _ e,c.mono k⟩
def Ĉ.new (x:Ĉ K H)(e:H p=none):Ĉ K (upd H p o):=
 x.mono (λa o' u h=>by rw [jj (ji h e)];exact h) λa ps h=>by rw [jj (ji h e)];exact h
def Ĉ.put {xs:G0 V}(x:Ĉ K H)(e:H p=some (.lst xs)):Ĉ K (upd H p o):=
 x.mono (λa o' u h=>by rw [jj (Ga h e (by intro z;cases z))];exact h) λa ps h=>by rw [jj (Ga h e (by intro z;cases z))];exact h
noncomputable def Yg (T:G0 (G0 P1)):P1:=nJ (Y5 (T.map λr=>nJ (Y5 (r.map G0I))))
noncomputable def Jy (a:P2)(ep:G6)(xs:G0 (G0 (G0 P1)×P2×V)):HO:= .ext λh=>(a==aY)=false/\xs.length<=sizeLine/\ ∃ys:G0 (G0 (G0 P1)×P2×G2),Paired (λp q=>p.1=q.1/\p.2.1=q.2.1/\RelV p.2.2 q.2.2) xs ys/\
 ∃o es,h.get? a=some o/\o.ExactDict/\o.data= .dict es ep/\es.toList=ys.map λx=>⟨Yg x.1,.ref x.2.1,x.2.2⟩
def ŋ (K:G7)(H:Hp)(a:P2):DC->Prop
 | .ik kv=> ∃ý:G0 (P1×V),H a=some (.dK (ý.map λp=>((lV p.1:ń),p.2)))/\kv.map (·.1)=ý.map (·.1)/\Á K H (kv.map (·.2)) (ý.map (·.2))
 | .tk ep kv=> ∃xs:G0 (G0 (G0 P1)×P2×V),H a=some (Jy a ep xs)/\(kv.map (·.1)).Nodup/\kv.map (·.1)=xs.map (·.1)/\(∀x∈xs,É K H (.tup (x.1.map λr=> .tup (r.map D.int))) (.ref x.2.1))/\Á K H (kv.map (·.2)) (xs.map (·.2.2))
def ŋ.obj: ∀ {c:DC},ŋ K H a c-> ∃o,H a=some o/\ů o
 | .ik _,⟨ý,e,_⟩=>⟨_,e,.inl ⟨ý,rfl⟩⟩
 | .tk _ _,⟨xs,e,_⟩=>⟨_,e,.inr ⟨_,rfl⟩⟩
def ŋ.mono (k:Kept H H')(z: ∀o,H a=some o->H' a=some o): ∀ {c:DC},ŋ K H a c->ŋ K H' a c
 | .ik _,⟨ý,e,q,r⟩=>⟨ý,z _ e,q,r.mono k⟩
 | .tk _ _,⟨xs,e,n,q,t,r⟩=>⟨xs,z _ e,n,q,λx hx=>(t x hx).mono k,r.mono k⟩
structure È (K:G7)(h:HD)(H:Hp):Prop where
 ls: ∀a ds,h a=some ds-> ∃vs,H a=some (.lst vs)/\Á K H ds vs
 tb:Ĉ K H
 dc: ∀a c,h.dc a=some c->ŋ K H a c
instance {K:G7}{h:HD}{H:Hp}:CoeFun (È K h H) λ_=> ∀a ds,h a=some ds-> ∃vs,H a=some (.lst vs)/\Á K H ds vs:=⟨È.ls⟩
structure Sub (h h':HD):Prop where
 ls: ∀a ds,h a=some ds->h' a=some ds
 dc: ∀a c,h.dc a=some c->h'.dc a=some c
instance {h h':HD}:CoeFun (Sub h h') λ_=> ∀a ds,h a=some ds->h' a=some ds:=⟨Sub.ls⟩
def Sub.refl (h:HD):Sub h h:=⟨λ_ _ e=>e,λ_ _ e=>e⟩
def Sub.trans {a b c:HD}(x:Sub a b)(y:Sub b c):Sub a c:=⟨λd ds e=>y d ds (x d ds e),λd ds e=>y.dc d ds (x.dc d ds e)⟩
def Sub.drop (h:HD)(a:P2):Sub (VC h a) h:=⟨λb ds e=>by
 have e:(if b=a then none else h b)=some ds:=e;split at e
 ·cases e
 ·exact e,λ_ _ e=>e⟩
def Sub.new (e:h p=none):Sub h (zK h p ds):=⟨λa es q=>(by
 rw [wv];exact q;intro z;subst z;rw [e] at q;cases q),λ_ _ e=>e⟩
section
variable {K:G7}{h h':HD}{H:Hp}
def È.sub (r:È K h H)(s:Sub h' h):È K h' H:=⟨λa ds e=>r a ds (s a ds e),r.tb,λa c e=>r.dc a c (s.dc a c e)⟩
def È.free (r:È K h H){p:P2}(e:H p=none):h p=none:=by
 cases q:h p with
 |none=>rfl
 |some ds=>obtain⟨vs,z,_⟩:=r p ds q;rw [e] at z;cases z
def È.freeC (r:È K h H){p:P2}(e:H p=none):h.dc p=none:=by
 cases q:h.dc p with
 |none=>rfl
 |some c=>obtain⟨o,z,_⟩:=(r.dc p c q).obj;rw [e] at z;cases z
def È.dcN (r:È K h H){p:P2}{o:HO}(e:H p=none): ∀a c,h.dc a=some c->ŋ K (upd H p o) a c:=λa c q=>
 (r.dc a c q).mono (.new e) λu z=>by rw [jj (ji z e)];exact z
def È.new (r:È K h H){p:P2}{o:HO}(e:H p=none):È K h (upd H p o):=⟨λa ds q=>by
 obtain⟨vs,z,w⟩:=r a ds q;exact⟨vs,by rw [jj (ji z e)];exact z,w.mono (.new e)⟩,r.tb.new e,r.dcN e⟩
def È.newL (r:È K h H){p:P2}{ds:G0 D}{vs:G0 V}(e:H p=none)(q:Á K H ds vs):È K (zK h p ds) (upd H p (.lst vs)):=⟨λa es z=>by
 by_cases w:a=p
 ·subst w;rw [jc] at z;cases z;exact⟨vs,jt,q.mono (.new e)⟩
 ·rw [wv w] at z;obtain⟨us,z1,z2⟩:=r a es z;exact⟨us,by rw [jj w];exact z1,z2.mono (.new e)⟩,r.tb.new e,r.dcN e⟩
def È.put (r:È K h H){p:P2}{ds:G0 D}{vs us:G0 V}(e:H p=some (.lst us))(q:Á K H ds vs):È K (zK h p ds) (upd H p (.lst vs)):=⟨λa es z=>by
 by_cases w:a=p
 ·subst w;rw [jc] at z;cases z;exact⟨vs,jt,q.mono (.put e)⟩
 ·rw [wv w] at z;obtain⟨us,z1,z2⟩:=r a es z;exact⟨us,by rw [jj w];exact z1,z2.mono (.put e)⟩,r.tb.put e,λa c z=>(r.dc a c z).mono (.put e) λo w=>by
   obtain⟨u,w',d⟩:=(r.dc a c z).obj;rw [jj (Ga w' e (d.no.2.1 _))];exact w⟩
end
noncomputable def Mx (h:HD)(p:P2)(c:DC):HD:=⟨h.ls,λb=>if b=p then some c else h.dc b⟩
def zG {c:DC}:(Mx h p c).dc p=some c:=R9 rfl
def vy {c:DC}(e:a≠p):(Mx h p c).dc a=h.dc a:=S4 e
def Sub.newC {c:DC}(e:h.dc p=none):Sub h (Mx h p c):=⟨λ_ _ e=>e,λa d q=>by
 rw [vy];exact q;intro z;subst z;rw [e] at q;cases q⟩
section
variable {K:G7}{h:HD}{H:Hp}
def È.newC (r:È K h H){p:P2}{o:HO}{c:DC}(e:H p=none)(d:ŋ K (upd H p o) p c):È K (Mx h p c) (upd H p o):=⟨(r.new e).ls,r.tb.new e,λa k z=>by
 by_cases w:a=p
 ·subst w;rw [zG] at z;cases z;exact d
 ·rw [vy w] at z;exact r.dcN e a k z⟩
def È.putC (r:È K h H){p:P2}{o o':HO}{c:DC}(e:H p=some o)(ob:ů o)(d:ŋ K (upd H p o') p c):È K (Mx h p c) (upd H p o'):=by
 obtain⟨d1,d2,d3,d4,d5⟩:=ob.no;have ne: ∀ {a:P2} {u:HO},H a=some u->o≠u->a≠p:=λq n z=>by subst z;rw [e] at q;injection q with q;exact n q
 refine⟨λa ds z=> ?_,r.tb.mono (λa q u z=>by rw [jj (ne z (d4 q u))];exact z) (λa ps z=>by rw [jj (ne z (d5 ps))];exact z),λa k z=> ?_⟩
 ·obtain⟨vs,z1,z2⟩:=r a ds z;exact⟨vs,by rw [jj (ne z1 (d2 vs))];exact z1,z2.mono (.putD e ob)⟩
 ·by_cases w:a=p
  ·subst w;rw [zG] at z;cases z;exact d
  ·rw [vy w] at z;exact(r.dc a k z).mono (.putD e ob) λu q=>by rw [jj w];exact q
end
abbrev SD:=G0 (D4 D)
def Ñ (K:G7)(H:Hp)(Æ:SD)(σ:St):Prop:=Æ.length=σ.length/\ ∀ (i:G6) (d:D),Æ[i]? =some (some d)-> ∃v,σ[i]? =some (some v)/\É K H d v
def Ñ.mono {Æ:SD}(r:Ñ K H Æ σ)(k:Kept H H'):Ñ K H' Æ σ:=⟨r.1,λi d e=>let ⟨v,a,b⟩:=r.2 i d e;⟨v,a,b.mono k⟩⟩
def Ñ.set {Æ:SD}{d:D}{v:V}(r:Ñ K H Æ σ)(q:É K H d v)(i:G6):Ñ K H (Æ.set i (some d)) (σ.set i (some v)):=⟨by simp [r.1],λj e h=>by
 by_cases z:i=j
 ·subst z;rw [gK] at h ⊢
  by_cases hl:i<Æ.length
  ·rw [R9 rfl,R9 hl] at h;rw [R9 rfl,R9 (by rw [<-r.1];exact hl)];cases h;exact⟨v,rfl,q⟩
  ·rw [R9 rfl,S4 hl] at h;cases h
 ·rw [Q4 z] at h ⊢;exact r.2 j e h⟩
def Ñ.clear1 {Æ:SD}(r:Ñ K H Æ σ)(i:G6):Ñ K H (Æ.set i none) (σ.set i none):=⟨by simp [r.1],λj e h=>by
 by_cases z:i=j
 ·subst z;rw [gK] at h;split at h
  ·split at h<;>cases h
  ·contradiction
 ·rw [Q4 z] at h ⊢;exact r.2 j e h⟩
noncomputable def jR:G0 G6->SD->SD
 | [],σ=>σ
 |j::js,σ=>jR js (σ.set j none)
def Ñ.clear: ∀ (js:G0 G6) {Æ:SD} {σ:St},Ñ K H Æ σ->Ñ K H (jR js Æ) (zn js σ)
 | [],_,_,r=>r
 |j::js,_,_,r=>Ñ.clear js (r.clear1 j)
abbrev KD:=D->HD->Prop
abbrev TED:=SD->HD->KD->Prop
abbrev TTD:=SD->HD->(N4->HD->Prop)->Prop
abbrev TAD:=SD->HD->(G0 D->HD->Prop)->Prop
abbrev RD2:=D->D->HD->KD->Prop
abbrev RDn:=G0 D->HD->KD->Prop
structure EndsD where
 nx:SD->HD->Prop
 rt:KD
 bk:SD->HD->Prop:=λ_ _=>False
 ct:SD->HD->Prop:=λ_ _=>False
abbrev TSD:=EndsD->SD->HD->Prop
abbrev TGD:=D->SD->HD->(SD->HD->Prop)->Prop
def CV (K:G7)(H:Hp)(Qd:KD)(Q:VK):Prop:= ∀d v h' H',Kept H H'->È K h' H'->É K H' d v->Qd d h'->Q v H'
def LE (K:G7)(t:TED):TE:=λσ H Q=> ∃Æ h Qd,Ñ K H Æ σ/\È K h H/\t Æ h Qd/\CV K H Qd Q
def LT (K:G7)(t:TTD):TT:=λσ H Q=> ∃Æ h Qd,Ñ K H Æ σ/\È K h H/\t Æ h Qd/\ ∀b h' H',Kept H H'->È K h' H'->Qd b h'->Q b H'
def LA (K:G7)(t:TAD):TA:=λσ H Q=> ∃Æ h Qd,Ñ K H Æ σ/\È K h H/\t Æ h Qd/\ ∀ds vs h' H',Kept H H'->È K h' H'->Á K H' ds vs->Qd ds h'->Q vs H'
def LR (K:G7)(f:RD2):R2:=λx y H Q=> ∃dx dy h Qd,É K H dx x/\É K H dy y/\È K h H/\f dx dy h Qd/\CV K H Qd Q
def LC (K:G7)(f:RDn):G0 V->Hp->VK->Prop:=λxs H Q=> ∃ds h Qd,Á K H ds xs/\È K h H/\f ds h Qd/\CV K H Qd Q
def LG (K:G7)(g:TGD):TG:=λv σ H Q=> ∃d Æ h Qd,É K H d v/\Ñ K H Æ σ/\È K h H/\g d Æ h Qd/\ ∀Ü h' Â H',Kept H H'->Ñ K H' Ü Â->È K h' H'->Qd Ü h'->Q Â H'
def LS (K:G7)(t:TSD):TS:=λĻ σ H=> ∃Æ h Dd,Ñ K H Æ σ/\È K h H/\t Dd Æ h/\
 (∀Ü h' Â H',Kept H H'->Ñ K H' Ü Â->È K h' H'->Dd.nx Ü h'->Ļ.nx Â H')/\CV K H Dd.rt Ļ.rt/\
 (∀Ü h' Â H',Kept H H'->Ñ K H' Ü Â->È K h' H'->Dd.bk Ü h'->Ļ.bk Â H')/\(∀Ü h' Â H',Kept H H'->Ñ K H' Ü Â->È K h' H'->Dd.ct Ü h'->Ļ.ct Â H')
def PE.imp {t t':TE}(h:PE X e t)(i: ∀σ H Q,t' σ H Q->t σ H Q):PE X e t':=λÀ s σ H Q I q=>h À s σ H Q I (i σ H Q q)
def PT.imp {t t':TT}(h:PT X e t)(i: ∀σ H Q,t' σ H Q->t σ H Q):PT X e t':=λÀ s σ H Q I q=>h À s σ H Q I (i σ H Q q)
def PW.imp {t t':TT}(h:PW X e t)(i: ∀σ H Q,t' σ H Q->t σ H Q):PW X e t':=λwh À s σ H Q I q=>h wh À s σ H Q I (i σ H Q q)
def PA.imp {e:G0 N3}{t t':TA}(h:PA X e t)(i: ∀σ H Q,t' σ H Q->t σ H Q):PA X e t':=λpos À s σ H Q I q=>h pos À s σ H Q I (i σ H Q q)
def PS.imp {e:Q2}{t t':TS}(h:PS X e t)(i: ∀D σ H,t' D σ H->t D σ H):PS X e t':=λÀ s σ H D I q=>h À s σ H D I (i D σ H q)
def Ś.imp {e:G0 Q2}{t t':TS}(h:Ś X e t)(i: ∀D σ H,t' D σ H->t D σ H):Ś X e t':=λÀ s σ H D I q=>h À s σ H D I (i D σ H q)
def PG.imp {t t':TG}(h:PG X e t)(i: ∀v σ H Q,t' v σ H Q->t v σ H Q):PG X e t':=λÀ s σ H v u Q I r q=>h À s σ H v u Q I r (i v σ H Q q)
def ø.imp {f:G2->G2->Sem G2}{r r':R2}(h:ø X f r)(i: ∀x y H Q,r' x y H Q->r x y H Q):ø X f r':=λÀ s σ H x y v u Q I a b q=>h À s σ H x y v u Q I a b (i x y H Q q)
def â.imp {f:G2}{r r':G0 V->Hp->VK->Prop}(h:â X f r)(i: ∀xs H Q,r' xs H Q->r xs H Q):â X f r':=λÀ s σ H xs us Q I a q=>h À s σ H xs us Q I a (i xs H Q q)
def MT (i:G6):TED:=λσ h Q=> ∃d,σ[i]? =some (some d)/\Q d h
def dC (d:D):TED:=λ_ h Q=>Q d h
def œ (f:RD2)(ta tb:TED):TED:=λσ h Q=>ta σ h λx h1=>tb σ h1 λy h2=>f x y h2 Q
def WF:TAD:=λ_ h Q=>Q [] h
def zA (ta:TED)(tr:TAD):TAD:=λσ h Q=>ta σ h λx h1=>tr σ h1 λxs h2=>Q (x::xs) h2
def Tl (t:TAD):TED:=λσ h Q=>t σ h λds h1=>ds.length<=sizeLine/\Q (.tup ds) h1
def SH (t:TAD):TED:=λσ h Q=>t σ h λds h1=>ds.length<=sizeLine/\ ∀p,h1 p=none->Q (.lst p) (zK h1 p ds)
def Ĩ (r:RDn)(t:TAD):TED:=λσ h Q=>t σ h λds h1=>r ds h1 Q
def vV (t:TED):TTD:=λσ h Q=>t σ h λx h1=> ∃k,x= .bl k/\Q k h1
def ZL (r r':RD2)(ta tb tc:TED):TED:=λσ h Q=>ta σ h λx h1=>tb σ h1 λy h2=>r x y h2 λz h3=> ∃k,z= .bl k/\
 (if k=true then tc σ h3 λw h4=>r' y w h4 Q else Q (.bl false) h3)
def CW (t u:TTD):TTD:=λσ h Q=>t σ h λc h1=>if c=true then u σ h1 Q else Q false h1
def An (t u:TTD):TTD:=λσ h Q=>t σ h λc h1=>if c=true then Q true h1 else u σ h1 Q
def Gh (t:TTD):TTD:=λσ h Q=>t σ h λc h1=>Q (!c) h1
def Px (ta tb:TED):TED:=λσ h Q=>ta σ h λx h1=> ∃c,x= .bl c/\if c=true then tb σ h1 Q else Q (.bl false) h1
def Tn (ta tb:TED):TED:=λσ h Q=>ta σ h λx h1=> ∃c,x= .bl c/\if c=true then Q (.bl true) h1 else tb σ h1 Q
def Py (ta:TED):TED:=λσ h Q=>ta σ h λx h1=> ∃c,x= .bl c/\Q (.bl (!c)) h1
def dIf (t:TTD)(ta tb:TED):TED:=λσ h Q=>t σ h λc h1=>if c=true then ta σ h1 Q else tb σ h1 Q
section
variable {K:G7}
def Ao (i:G6): ∀σ H Q,LE K (MT i) σ H Q->SR i σ H Q:=λσ H Q ⟨Æ,h,Qd,rs,rh,⟨d,e,q⟩,p⟩=>let ⟨v,e1,e2⟩:=rs.2 i d e;⟨v,e1,p d v h H (.refl H) rh e2 q⟩
def SJ {d:D}{v:V}(r: ∀H,É K H d v): ∀σ H Q,LE K (dC d) σ H Q->tC v σ H Q:=λσ H Q ⟨Æ,h,Qd,rs,rh,q,p⟩=>p d v h H (.refl H) rh (r H) q
variable {H:Hp}
def jL {H1:Hp}{Qd:KD}{Q:VK}(p:CV K H Qd Q)(k:Kept H H1):CV K H1 Qd Q:=λd v h' H' k'=>p d v h' H' (k.trans k')
variable {ta:TED}
def LE.bind {σ:St}{Æ:SD}{h:HD}{kd:KD}{k:VK}(rs:Ñ K H Æ σ)(rh:È K h H)(t:ta Æ h kd)(f: ∀d v h' H',Kept H H'->Ñ K H' Æ σ->È K h' H'->É K H' d v->kd d h'->k v H'):LE K ta σ H k:=
 ⟨Æ,h,kd,rs,rh,t,λd v h' H' kp r1 r2 q=>f d v h' H' kp (rs.mono kp) r1 r2 q⟩
def LT.bind {ta:TTD}{σ:St}{Æ:SD}{h:HD}{kd:N4->HD->Prop}{k:N4->Hp->Prop}(rs:Ñ K H Æ σ)(rh:È K h H)(t:ta Æ h kd)(f: ∀b h' H',Kept H H'->Ñ K H' Æ σ->È K h' H'->kd b h'->k b H'):LT K ta σ H k:=
 ⟨Æ,h,kd,rs,rh,t,λb h' H' kp r1 q=>f b h' H' kp (rs.mono kp) r1 q⟩
def LA.bind {ta:TAD}{σ:St}{Æ:SD}{h:HD}{kd:G0 D->HD->Prop}{k:G0 V->Hp->Prop}(rs:Ñ K H Æ σ)(rh:È K h H)(t:ta Æ h kd)(f: ∀ds vs h' H',Kept H H'->Ñ K H' Æ σ->È K h' H'->Á K H' ds vs->kd ds h'->k vs H'):LA K ta σ H k:=
 ⟨Æ,h,kd,rs,rh,t,λd v h' H' kp r1 r2 q=>f d v h' H' kp (rs.mono kp) r1 r2 q⟩
variable {tb:TED}
def CY {f:RD2}: ∀σ H Q,LE K (œ f ta tb) σ H Q->tOp (LR K f) (LE K ta) (LE K tb) σ H Q:=λσ H Q ⟨Æ,h,Qd,rs,rh,t,p⟩=>
 LE.bind rs rh t λd v h1 H1 k1 Ù Ê r1 t1=>LE.bind Ù Ê t1 λd2 v2 h2 H2 k2 ĩ ê r2 t2=>⟨d,d2,h2,Qd,r1.mono k2,r2,ê,t2,jL p (k1.trans k2)⟩
def Ap: ∀σ H Q,LA K WF σ H Q->HY σ H Q:=λσ H Q ⟨Æ,h,Qd,rs,rh,t,p⟩=>p [] [] h H (.refl H) rh rfl t
def CZ {tr:TAD}: ∀σ H Q,LA K (zA ta tr) σ H Q->OY (LE K ta) (LA K tr) σ H Q:=λσ H Q ⟨Æ,h,Qd,rs,rh,t,p⟩=>
 LE.bind rs rh t λd v h1 H1 k1 Ù Ê r1 t1=>LA.bind Ù Ê t1 λds vs h2 H2 k2 ĩ ê r2 t2=>p _ _ h2 H2 (k1.trans k2) ê (.cons (r1.mono k2) r2) t2
def Aq {t:TAD}: ∀σ H Q,LE K (Tl t) σ H Q->HZ (LA K t) σ H Q:=λσ H Q ⟨Æ,h,Qd,rs,rh,t,p⟩=>
 LA.bind rs rh t λds vs h1 H1 k1 Ù Ê r1 ⟨z,q⟩=>⟨by rw [<-r1.length];exact z,λa ha=>p (.tup ds) (.ref a) h1 _ (k1.trans (.new ha)) (Ê.new ha) ⟨a,vs,rfl,jt,r1.mono (.new ha)⟩ q⟩
def Ar {t:TAD}: ∀σ H Q,LE K (SH t) σ H Q->Ka (LA K t) σ H Q:=λσ H Q ⟨Æ,h,Qd,rs,rh,t,p⟩=>
 LA.bind rs rh t λds vs h1 H1 k1 Ù Ê r1 ⟨z,q⟩=>⟨by rw [<-r1.length];exact z,λa ha=>p (.lst a) (.ref a) _ _ (k1.trans (.new ha)) (Ê.newL ha r1) ⟨rfl,vs,jt⟩ (q a (Ê.free ha))⟩
def As {r:RDn}{t:TAD}: ∀σ H Q,LE K (Ĩ r t) σ H Q->tCB (LC K r) (LA K t) σ H Q:=λσ H Q ⟨Æ,h,Qd,rs,rh,t,p⟩=>
 LA.bind rs rh t λds vs h1 H1 k1 Ù Ê r1 q=>⟨ds,h1,Qd,r1,Ê,q,jL p k1⟩
def Pz {t:TED}: ∀σ H Q,LT K (vV t) σ H Q->CC (LE K t) σ H Q:=λσ H Q ⟨Æ,h,Qd,rs,rh,t,p⟩=>
 LE.bind rs rh t λd v h1 H1 k1 Ù Ê r1 ⟨k,e,q⟩=>by subst e;exact⟨k,r1,p k h1 H1 k1 Ê q⟩
def MU {t:TED}: ∀σ H Q,LT K (vV t) σ H Q->tB (LE K t) σ H Q:=λσ H Q ⟨Æ,h,Qd,rs,rh,t,p⟩=>
 LE.bind rs rh t λd v h1 H1 k1 Ù Ê r1 ⟨k,e,q⟩=>by subst e;exact⟨k,r1,p k h1 H1 k1 Ê q⟩
def XZ {r r':RD2}{tc:TED}: ∀σ H Q,LE K (ZL r r' ta tb tc) σ H Q->Pf (LR K r) (LR K r') (LE K ta) (LE K tb) (LE K tc) σ H Q:=λσ H Q ⟨Æ,h,Qd,rs,rh,t,p⟩=>
 LE.bind rs rh t λd v h1 H1 k1 Ù Ê r1 t1=>LE.bind Ù Ê t1 λd2 v2 h2 H2 k2 ĩ ê r2 t2=>⟨d,d2,h2,_,r1.mono k2,r2,ê,t2,λd3 v3 h3 H3 k3 Ď r3 ⟨k,e,q⟩=>by
  subst e;refine⟨k,r3,?_⟩;cases k with
  |true=>
   rw [R9 rfl] at q ⊢;exact LE.bind (ĩ.mono k3) Ď q λd4 v4 h4 H4 k4 Ű Ō r4 t4=>⟨d2,d4,h4,Qd,(r2.mono k3).mono k4,r4,Ō,t4,jL p (k1.trans (k2.trans (k3.trans k4)))⟩
  |false=>
   rw [S4 D6] at q ⊢;exact p (.bl false) _ h3 H3 (k1.trans (k2.trans k3)) Ď rfl q⟩
variable {t:TTD}
def At {u:TTD}: ∀σ H Q,LT K (CW t u) σ H Q->HJ (LT K t) (LT K u) σ H Q:=λσ H Q ⟨Æ,h,Qd,rs,rh,t,p⟩=>
 LT.bind rs rh t λb h1 H1 k1 Ù Ê q=>by
  cases b with
  |true=>rw [R9 rfl] at q ⊢;exact⟨Æ,h1,Qd,Ù,Ê,q,λb h' H' k=>p b h' H' (k1.trans k)⟩
  |false=>rw [S4 D6] at q ⊢;exact p _ _ _ k1 Ê q
def To {u:TTD}: ∀σ H Q,LT K (An t u) σ H Q->tOr (LT K t) (LT K u) σ H Q:=λσ H Q ⟨Æ,h,Qd,rs,rh,t,p⟩=>
 LT.bind rs rh t λb h1 H1 k1 Ù Ê q=>by
  cases b with
  |true=>rw [R9 rfl] at q ⊢;exact p _ _ _ k1 Ê q
  |false=>rw [S4 D6] at q ⊢;exact⟨Æ,h1,Qd,Ù,Ê,q,λb h' H' k=>p b h' H' (k1.trans k)⟩
def Au: ∀σ H Q,LT K (Gh t) σ H Q->HK (LT K t) σ H Q:=λσ H Q ⟨Æ,h,Qd,rs,rh,t,p⟩=>
 LT.bind rs rh t λb h1 H1 k1 Ù Ê q=>p _ _ _ k1 Ê q
def Av: ∀σ H Q,LE K (Px ta tb) σ H Q->OC (LE K ta) (LE K tb) σ H Q:=λσ H Q ⟨Æ,h,Qd,rs,rh,t,p⟩=>
 LE.bind rs rh t λd v h1 H1 k1 Ù Ê r1 ⟨c,e,q⟩=>by
  subst e;refine⟨c,r1,?_⟩;cases c with
  |true=>rw [R9 rfl] at q ⊢;exact⟨Æ,h1,Qd,Ù,Ê,q,jL p k1⟩
  |false=>rw [S4 D6] at q ⊢;exact p (.bl false) _ _ _ k1 Ê rfl q
def Tp: ∀σ H Q,LE K (Tn ta tb) σ H Q->HL (LE K ta) (LE K tb) σ H Q:=λσ H Q ⟨Æ,h,Qd,rs,rh,t,p⟩=>
 LE.bind rs rh t λd v h1 H1 k1 Ù Ê r1 ⟨c,e,q⟩=>by
  subst e;refine⟨c,r1,?_⟩;cases c with
  |true=>rw [R9 rfl] at q ⊢;exact p (.bl true) _ _ _ k1 Ê rfl q
  |false=>rw [S4 D6] at q ⊢;exact⟨Æ,h1,Qd,Ù,Ê,q,jL p k1⟩
def Aw: ∀σ H Q,LE K (Py ta) σ H Q->OD (LE K ta) σ H Q:=λσ H Q ⟨Æ,h,Qd,rs,rh,t,p⟩=>
 LE.bind rs rh t λd v h1 H1 k1 Ù Ê r1 ⟨c,e,q⟩=>by subst e;exact⟨c,r1,p (.bl (!c)) _ _ _ k1 Ê rfl q⟩
def Tq: ∀σ H Q,LE K (dIf t ta tb) σ H Q->tIf (LT K t) (LE K ta) (LE K tb) σ H Q:=λσ H Q ⟨Æ,h,Qd,rs,rh,t,p⟩=>
 LT.bind rs rh t λb h1 H1 k1 Ù Ê q=>by
  cases b with
  |true=>rw [R9 rfl] at q ⊢;exact⟨Æ,h1,Qd,Ù,Ê,q,jL p k1⟩
  |false=>rw [S4 D6] at q ⊢;exact⟨Æ,h1,Qd,Ù,Ê,q,jL p k1⟩
end
abbrev QE (X:Cx)(e:N3)(t:TED):Prop:=PE X e (LE X.K t)
abbrev QT (X:Cx)(e:N3)(t:TTD):Prop:=PT X e (LT X.K t)
abbrev QW (X:Cx)(e:N3)(t:TTD):Prop:=PW X e (LT X.K t)
abbrev QA (X:Cx)(es:G0 N3)(t:TAD):Prop:=PA X es (LA X.K t)
abbrev QS (X:Cx)(s:Q2)(t:TSD):Prop:=PS X s (LS X.K t)
abbrev QSs (X:Cx)(s:G0 Q2)(t:TSD):Prop:=Ś X s (LS X.K t)
abbrev QG (X:Cx)(e:N3)(t:TGD):Prop:=PG X e (LG X.K t)
abbrev ñ (X:Cx)(f:G2->G2->Sem G2)(r:RD2):Prop:=ø X f (LR X.K r)
abbrev vc (X:Cx)(f:G2)(r:RDn):Prop:=â X f (LC X.K r)
section
variable {X:Cx}{a b c e:N3}{es rest:G0 N3}{ta tb tc te:TED}{t u:TAD}{tt tu:TTD}{pos:Pos}{f r r':RD2}
def qv (i:G6){x:Str}(hN:X.N[i]? =some x:=by rfl)(hv:Vis X.env.scope x:=by first|exact Q7 rfl|exact aT (Q7 rfl)|exact aT (aT rfl))(hd:(x==("__debug__" :Str))=false:=by decide)
 (hcd:(x==("__classdict__" :Str))=false:=by decide):QE X (.Name x pos) (MT i):=(Bv hN hv hd hcd).imp (Ao i)
def Kf {i:P1}{j:G6}:QE X (.Constant (.int i) j pos) (dC (.int i)):=X0r.imp (SJ λ_=>rfl)
def qbl {i:N4}{j:G6}:QE X (.Constant (.bool i) j pos) (dC (.bl i)):=X0N.imp (SJ λ_=>rfl)
def KP {j:G6}:QE X (.Constant .none j pos) (dC .non):=X0s.imp (SJ λ_=>rfl)
def Tr {x:Str}{i:P1}{tk:Tok}(hg:Gl X x)(hm:X.mg x=some (.int i tk))(hd:(x==("__debug__" :Str))=false:=by decide):QE X (.Name x pos) (dC (.int i)):=
 (Cs (v:= .int i) hg hm ⟨tk,rfl⟩ hd).imp (SJ λ_=>rfl)
def qop {op:qV}(ho:ñ X (Q5 op) f)(ha:QE X a ta)(hb:QE X b tb):QE X (.BinOp a op b pos) (œ f ta tb):=(SX ho ha hb).imp CY
def KQ {op:l9}(ho:ñ X (B9 op) f)(ha:QE X a ta)(hb:QE X b tb)(hm:aA op b=false):QE X (.Compare a [op] [b] pos) (œ f ta tb):=(CB ho ha hb hm).imp CY
def Tt {op:l9}(ho:ñ X (B9 op) f)(ha:QE X a ta)(hb:QE X b tb)(hm:aA op b=false):QT X (.Compare a [op] [b] pos) (vV (œ f ta tb)):=
 (CF ho ha hb hm).imp λσ H Q h=>by
  obtain⟨Æ,h,Qd,rs,rh,t,p⟩:=Pz (t:=œ f ta tb) σ H Q h;exact CY σ H _ ⟨Æ,h,Qd,rs,rh,t,p⟩
def Ax {op İ:l9}(ho:ñ X (B9 op) r)(ho':ñ X (B9 İ) r')(ha:QE X a ta)(hb:QE X b tb)(hc:QE X c tc)(hm:mS [op,İ] [b,c]=false:=by with_unfolding_all rfl):
 QE X (.Compare a [op,İ] [b,c] pos) (ZL r r' ta tb tc):=(ML ho ho' ha hb hc hm).imp XZ
def Fa {op İ:l9}(ho:ñ X (B9 op) r)(ho':ñ X (B9 İ) r')(ha:QE X a ta)(hb:QE X b tb)(hc:QE X c tc)(hm:mS [op,İ] [b,c]=false:=by with_unfolding_all rfl):
 QT X (.Compare a [op,İ] [b,c] pos) (vV (ZL r r' ta tb tc)):=(MM ho ho' ha hb hc hm).imp λσ H Q h=>by
 obtain⟨Æ,h,Qd,rs,rh,t,p⟩:=Pz (t:=ZL r r' ta tb tc) σ H Q h;exact XZ σ H _ ⟨Æ,h,Qd,rs,rh,t,p⟩
def Tu (ha:QE X a ta)(he: ∀whole,isTrue a X.env whole=(do let v <-whole;fO a.pos;Z8 [v] (m8 v)):=by intro _;rfl):QT X a (vV ta):=(Oy ha he).imp MU
def Tv (ha:QT X a tt):QW X (.BoolOp .And [a] pos) tt:=Cu ha
def KR (ha:QT X a tt):QW X (.BoolOp .Or [a] pos) tt:=Oz ha
def Tw (ha:QT X a tt)(hb:QW X (.BoolOp .And (b::rest) pos) tu):QW X (.BoolOp .And (a::b::rest) pos) (CW tt tu):=(OA ha hb).imp At
def KS (ha:QT X a tt)(hb:QW X (.BoolOp .Or (b::rest) pos) tu):QW X (.BoolOp .Or (a::b::rest) pos) (An tt tu):=(SS ha hb).imp To
def Tx (ha:QT X a tt):QT X (.UnaryOp .Not a pos) (Gh tt):=(OB ha).imp Au
def KT {op:BoolOp}(ha:QE X a ta):QE X (.BoolOp op [a] pos) ta:=OE ha
def KU (ha:QE X a ta)(hb:QE X (.BoolOp .And (b::rest) pos) tb):QE X (.BoolOp .And (a::b::rest) pos) (Px ta tb):=(OF ha hb).imp Av
def qor (ha:QE X a ta)(hb:QE X (.BoolOp .Or (b::rest) pos) tb):QE X (.BoolOp .Or (a::b::rest) pos) (Tn ta tb):=(ST ha hb).imp Tp
def KW (ha:QE X a ta):QE X (.UnaryOp .Not a pos) (Py ta):=(OG ha).imp Aw
def qif {c:N3}(hc:QT X c tt)(ha:QE X a ta)(hb:QE X b tb):QE X (.IfExp c a b pos) (dIf tt ta tb):=(MD hc ha hb).imp Tq
def Ay:QA X [] WF:=Č.imp Ap
def Fb (ha:QE X e te)(hr:QA X es t)(hs:S5 (e::es) X.env=(false,K0 e X.env)::S5 es X.env:=by rfl):QA X (e::es) (zA te t):=(wQ ha hr hs).imp CZ
def KY {k:G6}(h:QA X es t):QE X (.Tuple es k pos) (Tl t):=(OZ h).imp Aq
def KZ (h:QA X es t):QE X (.List es pos) (SH t):=(Aa h).imp Ar
end
def UT:TSD:=λD σ h=>D.nx σ h
def vh (t u:TSD):TSD:=λD σ h=>t {D with nx:=u D} σ h
def Fc (te:TED):TSD:=λD σ h=>te σ h λ_ h1=>D.nx σ h1
def MV (te:TED):TSD:=λD σ h=>te σ h D.rt
def MW (c:TTD)(t u:TSD):TSD:=λD σ h=>c σ h λb h1=>if b=true then t D σ h1 else u D σ h1
def PB (i:G6)(te:TED):TSD:=λD σ h=>te σ h λd h1=>D.nx (σ.set i (some d)) h1
def Ty (te:TED)(g:TGD):TSD:=λD σ h=>te σ h λx h1=>g x σ h1 D.nx
def Tz (i j:G6)(ta:TAD):TSD:=λD σ h=>ta σ h λds h1=> ∃v w,ds= [v,w]/\D.nx ((σ.set i (some v)).set j (some w)) h1
def gN (i:G6):TGD:=λd σ h Q=>Q (σ.set i (some d)) h
def gT2 (i j:G6):TGD:=λd σ h Q=> ∃x y,d= .tup [x,y]/\Q ((σ.set i (some x)).set j (some y)) h
section
variable {K:G7}
def LS.of {t:TSD}{Ļ:Η}{σ:St}{H:Hp}{Æ:SD}{h:HD}{Dd:EndsD}(rs:Ñ K H Æ σ)(rh:È K h H)(q:t Dd Æ h)
 (nx: ∀Ü h' Â H',Kept H H'->Ñ K H' Ü Â->È K h' H'->Dd.nx Ü h'->Ļ.nx Â H')(rt:CV K H Dd.rt Ļ.rt)
 (bk: ∀Ü h' Â H',Kept H H'->Ñ K H' Ü Â->È K h' H'->Dd.bk Ü h'->Ļ.bk Â H')(ct: ∀Ü h' Â H',Kept H H'->Ñ K H' Ü Â->È K h' H'->Dd.ct Ü h'->Ļ.ct Â H'):LS K t Ļ σ H:=⟨Æ,h,Dd,rs,rh,q,nx,rt,bk,ct⟩
def Fd: ∀D σ H,LS K UT D σ H->OH D σ H:=λD σ H ⟨Æ,h,Dd,rs,rh,q,nx,_⟩=>nx Æ h σ H (.refl H) rs rh q
def Az {t u:TSD}: ∀D σ H,LS K (vh t u) D σ H->HM (LS K t) (LS K u) D σ H:=λD σ H ⟨Æ,h,Dd,rs,rh,q,nx,rt,bk,ct⟩=>
 LS.of rs rh q (λÜ h' Â H' k rs' Ğ q'=>⟨Ü,h',Dd,rs',Ğ,q',λa b c d k'=>nx a b c d (k.trans k'),jL rt k,λa b c d k'=>bk a b c d (k.trans k'),λa b c d k'=>ct a b c d (k.trans k')⟩) rt bk ct
variable {te:TED}
def Fe: ∀D σ H,LS K (Fc te) D σ H->OI (LE K te) D σ H:=λD σ H ⟨Æ,h,Dd,rs,rh,q,nx,rt,bk,ct⟩=>
 LE.bind rs rh q λd v h1 H1 k1 Ù Ê r1 q1=>nx _ _ _ _ k1 Ù Ê q1
def AA: ∀D σ H,LS K (MV te) D σ H->HN (LE K te) D σ H:=λD σ H ⟨Æ,h,Dd,rs,rh,q,nx,rt,bk,ct⟩=>⟨Æ,h,Dd.rt,rs,rh,q,rt⟩
def TB {c:TTD}{t u:TSD}: ∀D σ H,LS K (MW c t u) D σ H->HP (LT K c) (LS K t) (LS K u) D σ H:=λD σ H ⟨Æ,h,Dd,rs,rh,q,nx,rt,bk,ct⟩=>
 LT.bind rs rh q λb h1 H1 k Ù Ê q1=>by
  cases b with
  |true=>rw [R9 rfl] at q1 ⊢;exact⟨Æ,h1,Dd,Ù,Ê,q1,λa b c d k'=>nx a b c d (k.trans k'),jL rt k,λa b c d k'=>bk a b c d (k.trans k'),λa b c d k'=>ct a b c d (k.trans k')⟩
  |false=>rw [S4 D6] at q1 ⊢;exact⟨Æ,h1,Dd,Ù,Ê,q1,λa b c d k'=>nx a b c d (k.trans k'),jL rt k,λa b c d k'=>bk a b c d (k.trans k'),λa b c d k'=>ct a b c d (k.trans k')⟩
def Qa {i:G6}: ∀D σ H,LS K (PB i te) D σ H->MF (LE K te) (wq i) D σ H:=λD σ H ⟨Æ,h,Dd,rs,rh,q,nx,rt,bk,ct⟩=>
 LE.bind rs rh q λd v h1 H1 k1 Ù Ê r1 q1=>nx _ _ _ _ k1 (Ù.set r1 i) Ê q1
def AB {g:TGD}: ∀D σ H,LS K (Ty te g) D σ H->MF (LE K te) (LG K g) D σ H:=λD σ H ⟨Æ,h,Dd,rs,rh,q,nx,rt,bk,ct⟩=>
 LE.bind rs rh q λd v h1 H1 k1 Ù Ê r1 q1=>⟨d,Æ,h1,_,r1,Ù,Ê,q1,λa b c e k'=>nx a b c e (k1.trans k')⟩
def AC {i j:G6}{ta:TAD}: ∀D σ H,LS K (Tz i j ta) D σ H->HR i j (LA K ta) D σ H:=λD σ H ⟨Æ,h,Dd,rs,rh,q,nx,rt,bk,ct⟩=>
 LA.bind rs rh q λds vs h1 H1 k1 Ù Ê r1 ⟨x,y,e,q1⟩=>by
  subst e;obtain⟨v,r,e,r2,r3⟩:=(show ∃v r,vs=v::r/\É K H1 x v/\Á K H1 [y] r from r1);obtain⟨w,r',e',r4,r5⟩:=(show ∃v r',r=v::r'/\É K H1 y v/\Á K H1 [] r' from r3);cases (show r'= [] from r5);subst e' e;exact⟨v,w,rfl,nx _ _ _ _ k1 ((Ù.set r2 i).set r4 j) Ê q1⟩
def Ff (i:G6): ∀v σ H Q,LG K (gN i) v σ H Q->wq i v σ H Q:=λv σ H Q ⟨d,Æ,h,Qd,r,rs,rh,q,p⟩=>p _ _ _ _ (.refl H) (rs.set r i) rh q
def vW {H:Hp}{x y:D}{vs:G0 V}(r:Á K H [x,y] vs): ∃v w,vs= [v,w]/\É K H x v/\É K H y w:=by
 obtain⟨v,r1,e,r2,r3⟩:=(show ∃v r,vs=v::r/\É K H x v/\Á K H [y] r from r);obtain⟨w,z,e',r4,r5⟩:=(show ∃v z,r1=v::z/\É K H y v/\Á K H [] z from r3);cases (show z= [] from r5);subst e' e;exact⟨v,w,rfl,r2,r4⟩
def jH {H:Hp}{x:D}{vs:G0 V}(r:Á K H [x] vs): ∃v,vs= [v]/\É K H x v:=by
 obtain⟨v,r1,e,r2,r3⟩:=(show ∃v r,vs=v::r/\É K H x v/\Á K H [] r from r);cases (show r1= [] from r3);exact⟨v,e,r2⟩
def AD (i j:G6): ∀v σ H Q,LG K (gT2 i j) v σ H Q->SB K 2 (UO (wq i) (UO (wq j) SA)) v σ H Q:=λv σ H Q ⟨d,Æ,h,Qd,r,rs,rh,⟨x,y,e,q⟩,p⟩=>by
 subst e;obtain⟨a,vs,e,hH,r1⟩:=(show ∃a vs,v= .ref a/\H a=some (.tup vs)/\Á K H [x,y] vs from r);obtain⟨v1,v2,e1,r2,r3⟩:=vW r1;subst e e1;exact⟨a,[v1,v2],rfl,ö.of hH,rfl,v1,[v2],rfl,v2,[],rfl,rfl,p _ _ _ _ (.refl H) ((rs.set r2 i).set r3 j) rh q⟩
end
section
variable {X:Cx}{st:Q2}{sts:G0 Q2}{t u:TSD}{e:N3}{te:TED}{pos:Pos}
def AE:QSs X [] UT:=X0c.imp Fd
def Fg (h1:QS X st t)(h2:QSs X sts u):QSs X (st::sts) (vh t u):=(ME h1 h2).imp Az
def AF (h1:QS X st t):QSs X [st] t:=Cv h1
def TC (he:QE X e te)(hs:X7 e none pos.line X.env=pure false:=by rfl):QS X (.Expr e pos) (Fc te):=(Cw he hs).imp Fe
def ka (he:QE X e te):QS X (.Return (some e) pos) (MV te):=(OJ he).imp AA
def kf {c:N3}{a b:G0 Q2}{tc:TTD}(hc:QT X c tc)(ha:QSs X a t)(hb:QSs X b u):QS X (.If c a b pos) (MW tc t u):=(SU hc ha hb).imp TB
variable {i:G6}{x:Str}
def kg {pos':Pos}(hN:X.N.Nodup)(hi:X.N[i]? =some x)(hx:Loc X.env.scope x)(he:QE X e te)(hs:X7 e (some (.Name x pos')) pos.line X.env=pure false:=by rfl)
 (hf:X.fn x=true\/X.env.scope.names.lookup x=some .local:=by first|exact .inl rfl|exact .inr rfl|assumption):QS X (.Assign [.Name x pos'] e pos) (PB i te):=(OM hN hi hx he hs hf).imp Qa
def Fh (hN:X.N.Nodup)(hi:X.N[i]? =some x)(hx:Loc X.env.scope x)(hf:X.fn x=true\/X.env.scope.names.lookup x=some .local:=by first|exact .inl rfl|exact .inr rfl|assumption):QG X (.Name x pos) (gN i):=
 (yu hN hi hx hf).imp (Ff i)
def AG {j:G6}{y:Str}{p1 p2:Pos}{k:G6}(hc:X.calm=true)(hN:X.N.Nodup)(hi:X.N[i]? =some x)(hj:X.N[j]? =some y)(hx:Loc X.env.scope x)(hy:Loc X.env.scope y)
 (hf:X.fn x=true\/X.env.scope.names.lookup x=some .local:=by first|exact .inl rfl|exact .inr rfl|assumption)(hf2:X.fn y=true\/X.env.scope.names.lookup y=some .local:=by first|exact .inl rfl|exact .inr rfl|assumption):
 QG X (.Tuple [.Name x p1,.Name y p2] k pos) (gT2 i j):=(Pa hc (yV (yu hN hi hx hf) (yV (yu hN hj hy hf2) UP))).imp (AD i j)
def kh {tg:N3}{g:TGD}(he:QE X e te)(hg:QG X tg g)(hs:e6 [tg] e pos.line X.env=pure false:=by rfl)(hsw:e7 [tg] e X.env=pure none:=by rfl)
 (h1:(fX [tg] X.env).map (·.2)= [dY tg X.env]:=by rfl):QS X (.Assign [tg] e pos) (Ty te g):=(OL he hg hs hsw h1).imp AB
def ki {j:G6}{y:Str}{a b:N3}{ta:TAD}{px py pt:Pos}{kt k2 μ}(hc:X.calm=true)(hN:X.N.Nodup)(hi:X.N[i]? =some x)(hj:X.N[j]? =some y)(hij:i≠j)
 (hx:X.env.scope.names.lookup x=some .local)(hy:X.env.scope.names.lookup y=some .local)(ha:QA X [a,b] ta)
 (hw:e7 [.Tuple [.Name x px,.Name y py] kt pt] (.Tuple [a,b] k2 μ) X.env=pure (some [x,y]))
 (hs:e6 [.Tuple [.Name x px,.Name y py] kt pt] (.Tuple [a,b] k2 μ) pos.line X.env=pure false:=by rfl):
 QS X (.Assign [.Tuple [.Name x px,.Name y py] kt pt] (.Tuple [a,b] k2 μ) pos) (Tz i j ta):=(ON hc hN hi hj hij hx hy ha hw hs).imp AC
end
abbrev ItD:=HD->D4 (G0 D)
def Fi (K:G7)(H:Hp)(j:ItD)(J:It):Prop:= ∀H' h',Kept H H'->È K h' H'-> ∀ds,j h'=some ds-> ∀i:G6,
 (∀d,ds[i]? =some d->J.go i H'/\ ∀x ļ,J.yld i H' x ļ->Kept H' ļ/\È K h' ļ/\É K ļ d x)/\(ds.length<=i->J.stop i H')
abbrev TID:=SD->HD->(ItD->HD->Prop)->Prop
def LI (K:G7)(t:TID):TI:=λσ H R=> ∃Æ h Rd,Ñ K H Æ σ/\È K h H/\t Æ h Rd/\ ∀j J h' H',Kept H H'->È K h' H'->Fi K H' j J->Rd j h'->R J H'
abbrev QI (X:Cx)(tg iter:N3)(t:TID):Prop:=PI X tg iter (LI X.K t)
def PI.imp {t t':TI}(h:PI X tg e t)(i: ∀σ H R,t' σ H R->t σ H R):PI X tg e t':=λÀ s σ H R I q=>h À s σ H R I (i σ H R q)
def iL (te:TED):TID:=λσ h R=>te σ h λx h1=> ∃a,x= .lst a/\R (λh=>h a) h1
def iR1 (ta:TAD):TID:=λσ h R=>ta σ h λds h1=> ∃n:P1,ds= [.int n]/\ -(2^62)<=n/\n<2^62/\R (λ_=>some ((P5 n.toNat).map λ(k:G6)=>D.int (k:P1))) h1
section
variable {K:G7}
def VD (H:Hp)(a:P2):Fi K H (λh=>h a) (Itl K a):=λH' h' k rh ds e i=>by
 obtain⟨vs,hv,r⟩:=rh a ds e;refine⟨λd hd=> ?_,λhl=>⟨vs,è.of hv,by rw [<-r.length];exact hl⟩⟩;obtain⟨v,e1,e2⟩:=r.get hd;refine⟨⟨vs,v,è.of hv,e1⟩,λx ļ ⟨eH,hx⟩=> ?_⟩;subst eH;have:=hx vs (è.of hv);rw [e1] at this;cases this;exact⟨.refl _,rh,e2⟩
def MX {H:Hp}{a:P2}{vs:G0 V}{ds:G0 D}(hv:H a=some (.tup vs))(r:Á K H ds vs):Fi K H (λ_=>some ds) (Itt K a):=λH' h' k rh ds' e i=>by
 cases e;have hv':=k.tup _ _ hv;have r':=r.mono k;refine⟨λd hd=> ?_,λhl=>⟨vs,ö.of hv',by rw [<-r.length];exact hl⟩⟩;obtain⟨v,e1,e2⟩:=r'.get hd;refine⟨⟨vs,v,ö.of hv',e1⟩,λx ļ ⟨eH,hx⟩=> ?_⟩;subst eH;have:=hx vs (ö.of hv');rw [e1] at this;cases this;exact⟨.refl _,rh,e2⟩
def Gi (H:Hp)(lo:P1)(n:G6)(ds:G0 D)(hd:ds=(P5 n).map λ(k:G6)=>D.int (lo+(k:P1))):Fi K H (λ_=>some ds) (Itr lo n):=λH' h' k rh ds' e i=>by
 cases e;subst hd;refine⟨λd hd=> ?_,λhl=>(show n<=i by simpa using hl)⟩;rw [P9] at hd;have hi:i<n:=by
  by_cases z:i<n
  ·exact z
  ·rw [L0 (by simpa using z)] at hd;cases hd
 rw [J1 hi] at hd;cases hd;refine⟨hi,λx ļ ⟨eH,hx⟩=> ?_⟩;subst eH hx;exact⟨.refl _,rh,rfl⟩
def Fj {te:TED}: ∀σ H R,LI K (iL te) σ H R->OQ K (LE K te) σ H R:=λσ H R ⟨Æ,h,Rd,rs,rh,q,p⟩=>
 LE.bind rs rh q λd v h1 H1 k1 Ù Ê r1 ⟨a,e,q1⟩=>by
  subst e;obtain⟨e,vs,hv⟩:=(show v= .ref a/\ ∃vs,H1 a=some (.lst vs) from r1);exact⟨a,e,⟨vs,è.of hv⟩,p _ _ _ _ k1 Ê (VD H1 a) q1⟩
def TD {ta:TAD}: ∀σ H R,LI K (iR1 ta) σ H R->OR (LA K ta) σ H R:=λσ H R ⟨Æ,h,Rd,rs,rh,q,p⟩=>
 LA.bind rs rh q λds vs h1 H1 k1 Ù Ê r1 ⟨n,e,b1,b2,q1⟩=>by
  subst e;obtain⟨v,e,r2⟩:=jH r1;cases (show v= .int n from r2);exact⟨n,e,b1,b2,p _ _ _ _ k1 Ê (Gi H1 0 n.toNat _ (by simp)) q1⟩
end
def AH (ti:TID)(g:TGD)(tb:TSD):TSD:=λD σ h=>ti σ h λj h1=> ∃ (n:G6) (W:G6->SD->HD->Prop),W 0 σ h1/\ ∀i Â h',W i Â h'-> ∃ds,j h'=some ds/\ds.length<=n/\(ds.length<=i->D.nx Â h')/\
 ∀d,ds[i]? =some d->g d Â h' λà h2=>tb {D with nx:=λā h3=> ∃h4,Sub h4 h3/\W (i+1) ā h4,ct:=λā h3=> ∃h4,Sub h4 h3/\W (i+1) ā h4,bk:=D.nx} à h2
variable {ti:TID}
def AI {g:TGD}{tb:TSD}: ∀D σ H,LS K (AH ti g tb) D σ H->HU (LI K ti) (LG K g) (LS K tb) D σ H:=λD σ H ⟨Æ,h,Dd,rs,rh,q,nx,rt,bk,ct⟩=>by
 refine⟨Æ,h,_,rs,rh,q,λj J h1 H1 k1 Ê jo ⟨n,W,w0,turn⟩=> ?_⟩;refine⟨λi m Â H'=>m=n-i/\Kept H1 H'/\ ∃Ü h',Ñ K H' Ü Â/\È K h' H'/\W i Ü h',⟨n-0,rfl,.refl _,Æ,h1,rs.mono k1,Ê,w0⟩,?_⟩;rintro i m Â H' ⟨rfl,kp,Ü,h',rs',Ğ,w⟩;obtain⟨ds,ej,hn,stop,go⟩:=turn i Ü h' w;have jo':=jo H' h' kp Ğ ds ej i
 by_cases hi:i<ds.length
 ·obtain⟨g1,y1⟩:=jo'.1 ds[i] (G1 hi);refine .inr ⟨g1,λà H2=>Kept H1 H2/\ ∃ï h2,Ñ K H2 ï à/\È K h2 H2/\W (i+1) ï h2,λà H2 ⟨k2,a,b,c,d,e⟩=>⟨n-(i+1),by omega,rfl,k2,a,b,c,d,e⟩,λx ļ y=> ?_⟩;obtain⟨k2,ê,r2⟩:=y1 x ļ y;refine⟨ds[i],Ü,h',_,r2,rs'.mono k2,ê,go ds[i] (G1 hi),λX1o h3 ā H3 k3 ű Ď q3=> ?_⟩;have kk:Kept H H3:=k1.trans (kp.trans (k2.trans k3));have kk1:Kept H1 H3:=kp.trans (k2.trans k3);exact⟨X1o,h3,_,ű,Ď,q3,λa b c d k4 Ű Ō ⟨h4,sb,w4⟩=>⟨kk1.trans k4,a,h4,Ű,Ō.sub sb,w4⟩,jL rt kk,λa b c d k4 Ű Ō q4=>nx a b c d (kk.trans k4) Ű Ō q4,λa b c d k4 Ű Ō ⟨h4,sb,w4⟩=>⟨kk1.trans k4,a,h4,Ű,Ō.sub sb,w4⟩⟩
 ·exact .inl ⟨jo'.2 (aP.mp hi),nx _ _ _ _ (k1.trans kp) rs' Ğ (stop (aP.mp hi))⟩
def vX:TTD:=λ_ h Q=>Q true h
def vY (bind:D->SD->SD->Prop)(js:G0 G6)(ti:TID)(tt:TTD)(te:TED):TED:=λσ h Q=>ti σ h λj h1=> ∃ (n:G6) (W:G6->G0 D->HD->Prop),W 0 [] h1/\ ∀i ys h',W i ys h'->ys.length<=sizeLine/\
 ∃ds,j h'=some ds/\ds.length<=n/\(ds.length<=i-> ∀p,h' p=none->Q (.lst p) (zK h' p ys))/\
  ∀d,ds[i]? =some d-> ∃à,bind d (jR js σ) à/\tt à h' λb h3=>if b=true then te à h3 λy h4=> ∃h5,Sub h5 h4/\W (i+1) (ys++ [y]) h5 else ∃h5,Sub h5 h3/\W (i+1) ys h5
def bN (i:G6):D->SD->SD->Prop:=λd σ à=>à=σ.set i (some d)
def b2 (i j:G6):D->SD->SD->Prop:=λd σ à=> ∃x y,d= .tup [x,y]/\à=(σ.set i (some x)).set j (some y)
def AJ: ∀σ H Q,LT K vX σ H Q->Ke σ H Q:=λσ H Q ⟨Æ,h,Qd,rs,rh,q,p⟩=>p true h H (.refl H) rh q
def PC (K:G7)(js:G0 G6)(bind:D->SD->SD->Prop)(g:TG):Prop:= ∀ (σ:St) (Æ ï:SD) (H:Hp) (d:D) (v:V) (Q:St->Hp->Prop),Ñ K H (jR js Æ) (zn js σ)->É K H d v->bind d (jR js Æ) ï->
 (∀à,Agree (zn js σ) à->Ñ K H ï à->Q à H)->g v (zn js σ) H Q
variable {i:G6}
def Fk (hi:i∈js):PC K js (bN i) (wq i):=λσ Æ ï H d v Q rs r b q=>by
 cases (show ï=_ from b);exact q _ (.set v λu=>jV js σ i u hi) (rs.set r i)
def AK {j:G6}(hi:i∈js)(hj:j∈js)(hij:i≠j):PC K js (b2 i j) (SB K 2 (UO (wq i) (UO (wq j) SA))):=λσ Æ ï H d v Q rs r b q=>by
 obtain⟨x,y,e,e2⟩:=b;subst e e2;obtain⟨a,vs,e,hH,r1⟩:=(show ∃a vs,v= .ref a/\H a=some (.tup vs)/\Á K H [x,y] vs from r);obtain⟨v1,v2,e1,r2,r3⟩:=vW r1;subst e e1;refine⟨a,[v1,v2],rfl,ö.of hH,rfl,v1,[v2],rfl,v2,[],rfl,rfl,q _ (.trans (.set v1 λu=>jV js σ i u hi) (.set v2 λu z=> ?_)) ((rs.set r2 i).set r3 j)⟩;rw [Q4 hij] at z;exact jV js σ j u hj z
def MY {bind:D->SD->SD->Prop}{tt:TTD}{te:TED}(hb:PC K js bind g): ∀σ H Q,LE K (vY bind js ti tt te) σ H Q->tLC js (LI K ti) g (LT K tt) (LE K te) σ H Q:=
 λσ H Q ⟨Æ,h,Qd,rs,rh,q,p⟩=>by
  refine⟨Æ,h,_,rs,rh,q,λj J h1 H1 k1 Ê jo ⟨n,W,w0,turn⟩=> ?_⟩;refine⟨λi m ys H'=>m=n-i/\Kept H1 H'/\ ∃ds h',Á K H' ds ys/\È K h' H'/\W i ds h',⟨n-0,rfl,.refl _,[],h1,rfl,Ê,w0⟩,?_⟩;rintro i m ys H' ⟨rfl,kp,yd,h',ry,Ğ,w⟩;obtain⟨hz,ds,ej,hn,stop,go⟩:=turn i yd h' w;refine⟨by rw [<-ry.length];exact hz,?_⟩;have jo':=jo H' h' kp Ğ ds ej i;have kk:Kept H H':=k1.trans kp
  by_cases hi:i<ds.length
  ·obtain⟨g1,y1⟩:=jo'.1 ds[i] (G1 hi);refine .inr ⟨g1,λx ļ y=> ?_⟩;obtain⟨k2,ê,r2⟩:=y1 x ļ y;obtain⟨ï,bd,q2⟩:=go ds[i] (G1 hi);refine hb σ Æ ï ļ ds[i] x _ (((rs.mono (kk.trans k2))).clear js) r2 bd λà ag ĩ=>⟨ag,?_⟩
   refine LT.bind ĩ ê q2 λb h3 H3 k3 ű Ď q3=> ?_
   cases b with
   |true=>
    rw [R9 rfl] at q3 ⊢;refine LE.bind ű Ď q3 λd4 v4 h4 H4 k4 Ű Ō r4 ⟨h5,sb,w5⟩=>⟨n-(i+1),by omega,rfl,kp.trans (k2.trans (k3.trans k4)),yd++ [d4],h5,(ry.mono (k2.trans (k3.trans k4))).append (.cons r4 .nil),Ō.sub sb,w5⟩
   |false=>
    rw [S4 D6] at q3 ⊢;obtain⟨h5,sb,w5⟩:=q3;exact⟨n-(i+1),by omega,rfl,kp.trans (k2.trans k3),yd,h5,ry.mono (k2.trans k3),Ď.sub sb,w5⟩
  ·refine .inl ⟨jo'.2 (aP.mp hi),λa ha=>p (.lst a) (.ref a) _ _ (kk.trans (.new ha)) (Ğ.newL ha ry) ⟨rfl,ys,jt⟩ (stop (aP.mp hi) a (Ğ.free ha))⟩
def zS {C:P2}{s₀:G5}{H₀:Hp}{ex:G0 P2}{p:Pos}(hN:X.N.Nodup)(hx:X.N[i]? =some x)(hl:scope.names.lookup x=some .local\/scope.names.lookup x=some .cell):
 PG (wu X scope C s₀ H₀ ex) (.Name x p) (wq i):=by
 rcases hl with z|z
 ·exact yu hN hx (.inl (oW z)) (.inr (oW z))
 ·exact yu hN hx (.inr (vw z)) (.inl (by show (scope.names.lookup x==some V3)=true;rw [z];rfl))
section
variable {X:Cx}{tg e iter elt:N3}{te:TED}{ti:TID}{g:TGD}{tb:TSD}{tt:TTD}{pos:Pos}{ta:TAD}{scope:Y0}{js:G0 G6}{ifs:G0 N3}
def Fl (he:QE X e te):QI X tg e (iL te):=(Cy he).imp Fj
def TF {p:Pos}{a:N3}(hg:Gl X "range")(hm:X.mg "range" =none)(ha:QA X [a] ta)(hs:S5 [a] X.env= [(false,K0 a X.env)]:=by rfl):QI X tg (.Call (.Name "range" p) [a] [] pos) (iR1 ta):=(Pb hg hm ha hs).imp TD
def kj {body:G0 Q2}(hp:pN (S0 X.prog X.w) X.A X.env X.xe)(hc:X.calm=true)(hi:QI X tg iter ti)(hg:QG X tg g)(hb:QSs X body tb)(hs: ∀x,M9 iter X.env x=pure x:=by intro _;rfl):
 QS X (.For tg iter body [] pos) (AH ti g tb):=(OS hp hc hi hg hb hs).imp AI
def Fm:ė X [] (LT X.K vX):=λÀ s σ H Q I h=>CP À s σ H Q I (AJ σ H Q h)
def Fn {c:N3}(hc:QT X c tt):ė X [c] (LT X.K tt):=CQ hc
def qlc {i:G6}{x:Str}{p:Pos}(hc:X.calm=true)(S:Ì X scope js)(hi:QI X (.Name x p) iter ti)(hj:i∈js)(hN:X.N.Nodup)(hx:X.N[i]? =some x)(hl:scope.names.lookup x=some .local\/scope.names.lookup x=some .cell)
 (ht: ∀X',jh X scope X'->ė X' ifs (LT X'.K tt))(he: ∀X',jh X scope X'->QE X' elt te)(hs: ∀x,M9 iter X.env x=pure x:=by intro _;rfl):
 QE X (.ListComp elt [⟨.Name x p,iter,ifs,0⟩] scope pos) (vY (bN i) js ti tt te):=
 (Al hc S hi (λX' hX=>by obtain⟨C,s₀,H₀,ex,rfl⟩:=hX;exact zS hN hx hl) (λX' hX=>by have:=ht X' hX;obtain⟨C,s₀,H₀,ex,rfl⟩:=hX;exact this)
  (λX' hX=>by have:=he X' hX;obtain⟨C,s₀,H₀,ex,rfl⟩:=hX;exact this) hs).imp (MY (Fk hj))
def km {i j:G6}{x y:Str}{p1 p2 p3:Pos}{k:G6}(hc:X.calm=true)(S:Ì X scope js)(hi:QI X (.Tuple [.Name x p1,.Name y p2] k p3) iter ti)(hj:i∈js)(hj2:j∈js)(hij:i≠j)(hN:X.N.Nodup)(hx:X.N[i]? =some x)(hy:X.N[j]? =some y)
 (hl:scope.names.lookup x=some .local\/scope.names.lookup x=some .cell)(hl2:scope.names.lookup y=some .local\/scope.names.lookup y=some .cell)
 (ht: ∀X',jh X scope X'->ė X' ifs (LT X'.K tt))(he: ∀X',jh X scope X'->QE X' elt te)(hs: ∀x,M9 iter X.env x=pure x:=by intro _;rfl):
 QE X (.ListComp elt [⟨.Tuple [.Name x p1,.Name y p2] k p3,iter,ifs,0⟩] scope pos) (vY (b2 i j) js ti tt te):=
 (Al hc S hi (λX' hX=>by
  obtain⟨C,s₀,H₀,ex,rfl⟩:=hX;exact Pa hc (yV (zS hN hx hl) (yV (zS hN hy hl2) UP))) (λX' hX=>by have:=ht X' hX;obtain⟨C,s₀,H₀,ex,rfl⟩:=hX;exact this)
  (λX' hX=>by have:=he X' hX;obtain⟨C,s₀,H₀,ex,rfl⟩:=hX;exact this) hs).imp (MY (AK hj hj2 hij))
end
def õ (K:G7)(Ī:RDn):Sp:=λvs H Q _=>LC K Ī vs H Q
def Fo {Ī:RDn}{t:TAD}{E:XK}: ∀σ H Q,LE K (Ĩ Ī t) σ H Q->Ab (õ K Ī) [] E (LA K t) σ H Q:=λσ H Q ⟨Æ,h,Qd,rs,rh,t,p⟩=>
 LA.bind rs rh t λds vs h1 H1 k1 Ù Ê r1 q=>by rw [J5];exact⟨ds,h1,Qd,r1,Ê,q,jL p k1⟩
section
variable {X:Cx}{k:G6}{f:P2}{fd:C6}{ps:G0 Str}{Ī:RDn}{x:Str}{p pos:Pos}{e:N3}{es:G0 N3}{t:TAD}
def TH (F:Ò X.prog X.w X.K X.mg X.base í k f fd ps (õ X.K Ī))(hr:á k X.A)(hg:Gl X x)(hm:X.mg x=some (.ref f))(hk:b7 X.K (.ref f)=true)(hb:Binds X.K fd ps [])
 (ha:QA X (e::es) t)(hdb:(x==("__debug__" :Str))=false:=by decide)(he:S5 (e::es) X.env=(false,K0 e X.env)::S5 es X.env:=by rfl)(hpl:(U8 pos (S5 es X.env)).any (·.1)=false:=by rfl):
 QE X (.Call (.Name x p) (e::es) [] pos) (Ĩ Ī t):=(CH F hr hg hm hk hb .nil Ti ha hdb he hpl).imp Fo
def AL {id:W3}{r:RDn}(hc:vc X (.builtin id) r)(hg:Gl X x)(hm:X.mg x=none)(hv:V5 x=some (.builtin id))(ha:QA X (e::es) t)(hn:x≠ "__name__" :=by decide)(hdb:(x==("__debug__" :Str))=false:=by decide)
 (he:S5 (e::es) X.env=(false,K0 e X.env)::S5 es X.env:=by rfl)(hpl:(U8 pos (S5 es X.env)).any (·.1)=false:=by rfl):QE X (.Call (.Name x p) (e::es) [] pos) (Ĩ r t):=(Yc hc hg hm hv ha hn hdb he hpl).imp As
def Fp {T:W3}{r:RDn}(hc:vc X (.type T) r)(hg:Gl X x)(hm:X.mg x=none)(hv:V5 x=some (.type T))(ha:QA X (e::es) t)(hn:x≠ "__name__" :=by decide)(hdb:(x==("__debug__" :Str))=false:=by decide)
 (he:S5 (e::es) X.env=(false,K0 e X.env)::S5 es X.env:=by rfl)(hpl:(U8 pos (S5 es X.env)).any (·.1)=false:=by rfl):QE X (.Call (.Name x p) (e::es) [] pos) (Ĩ r t):=(Vz hc hg hm hv ha hn hdb he hpl).imp As
end
noncomputable def wH (N:G0 Str)(ds:G0 D):SD:=ds.map some++B3 (N.length-ds.length) none
def Gj {N:G0 Str}{vs:G0 V}(r:Á K H ds vs):Ñ K H (wH N ds) (start N vs):=by
 have hl:=r.length;refine⟨by unfold wH start;simp [hl],λi d e=> ?_⟩;unfold wH at e;unfold start
 by_cases hi:i<ds.length
 ·rw [C5 (by simpa using hi),P9] at e;cases q:ds[i]? with
  |none=>rw [q] at e;cases e
  |some d'=>
   rw [q] at e;cases e;obtain⟨v,e1,e2⟩:=r.get q;exact⟨v,by rw [C5 (by simpa [<-hl] using hi),P9,e1];rfl,e2⟩
 ·rw [B1 (by simpa using hi),mT] at e;split at e<;>cases e
noncomputable def Mz (Q:KD):EndsD:= {nx:=λ_ h=> ∃h',Sub h' h/\Q .non h',rt:=λd h=> ∃h',Sub h' h/\Q d h'}
section
variable {P:T7}{w:C1}{K:G7}{mg:Str->D4 G2}{base:A7}
def ô.okD {x qual:Str}{st:Q2}{f:P2}{fd:C6}{N ps:G0 Str}{k:G6}{Ī:RDn}(F:ô K x qual st f fd)(S:Ã N ps (je st))(len: ∀ds h Q,Ī ds h Q->ds.length=ps.length)
 (tb:TSD)(Ĕ: ∀ (ó:G2) (A:N7) (outer:G0 Env) (s:G5) (H:Hp) (E:XK),á k (A.deeper (i9 qual (je st) s.heap.objs.size f ó))->QSs (MO í P w K mg base N qual (je st) f ó A outer s H E).nox (zL st) tb)
 (read: ∀ds h Q,Ī ds h Q->tb (Mz Q) (wH N ds) h):Ò P w K mg base í (k+1) f fd ps (õ K Ī):=by
 refine F.ok S (λvs H Q E h=> ?_) (λó A outer s H vs Q E hr h=> ?_)
 ·obtain⟨ds,h,Qd,r,rh,q,p⟩:=h;rw [<-r.length];exact len _ _ _ q
 ·obtain⟨ds,h,Qd,r,rh,q,p⟩:=h;refine⟨_,Ĕ ó A outer s H E hr,wH N ds,h,Mz Qd,Gj r,rh,read ds h Qd q,λÜ h' Â H' k rs' Ğ ⟨h2,sb,q'⟩=>p .non .non h2 H' k (Ğ.sub sb) rfl q',λd v h' H' k Ğ r' ⟨h2,sb,q'⟩=>p d v h2 H' k (Ğ.sub sb) r' q',λ_ _ _ _ _ _ _ z=>z.elim,λ_ _ _ _ _ _ _ z=>z.elim⟩
end
section
variable {X:Cx}{iter elt:N3}{te:TED}{ti:TID}{tt:TTD}{pos î:Pos}{scope:Y0}{js:G0 G6}{ifs:G0 N3}
def AM {i k:G6}{x y:Str}{p py:Pos}(hc:X.calm=true)(hN:X.N.Nodup)(hk:X.N[k]? =some y)(hy:Loc X.env.scope y)(S:Ì X scope js)(hi:QI X (.Name x p) iter ti)(hj:i∈js)(hx:X.N[i]? =some x)(hl:scope.names.lookup x=some .local\/scope.names.lookup x=some .cell)
 (ht: ∀X',jh X scope X'->ė X' ifs (LT X'.K tt))(he: ∀X',jh X scope X'->QE X' elt te)
 (hsw:X7 (.ListComp elt [⟨.Name x p,iter,ifs,0⟩] scope pos) (some (.Name y py)) î.line X.env=pure true:=by rfl)
 (hf:X.fn y=true\/X.env.scope.names.lookup y=some .local:=by first|exact .inl rfl|exact .inr rfl|assumption)(hs: ∀x,M9 iter X.env x=pure x:=by intro _;rfl):
 QS X (.Assign [.Name y py] (.ListComp elt [⟨.Name x p,iter,ifs,0⟩] scope pos) î) (PB k (vY (bN i) js ti tt te)):=by
 have base:PS X (.Assign [.Name y py] (.ListComp elt [⟨.Name x p,iter,ifs,0⟩] scope pos) î) (MF (tLC js (LI X.K ti) (wq i) (LT X.K tt) (LE X.K te)) (wq k)):=
  XY hc S hi (λX' hX=>by obtain⟨C,s₀,H₀,ex,rfl⟩:=hX;exact zS hN hx hl) (λX' hX=>by have:=ht X' hX;obtain⟨C,s₀,H₀,ex,rfl⟩:=hX;exact this)
   (λX' hX=>by have:=he X' hX;obtain⟨C,s₀,H₀,ex,rfl⟩:=hX;exact this) (yu hN hk hy hf) hsw hs
 exact base.imp λD σ H h=>by
  obtain⟨Æ,hd,Qd,rs,rh,t,p⟩:=Qa (K:=X.K) D σ H h;exact MY (Fk hj) σ H _ ⟨Æ,hd,Qd,rs,rh,t,p⟩
def Fq {i j k:G6}{x1 x2 y:Str}{p1 p2 p3 py:Pos}{kk:G6}(hc:X.calm=true)(hN:X.N.Nodup)(hk:X.N[k]? =some y)(hy:Loc X.env.scope y)(S:Ì X scope js)(hi:QI X (.Tuple [.Name x1 p1,.Name x2 p2] kk p3) iter ti)(hj:i∈js)(hj2:j∈js)(hij:i≠j)(hx:X.N[i]? =some x1)(hx2:X.N[j]? =some x2)
 (hl:scope.names.lookup x1=some .local\/scope.names.lookup x1=some .cell)(hl2:scope.names.lookup x2=some .local\/scope.names.lookup x2=some .cell)
 (ht: ∀X',jh X scope X'->ė X' ifs (LT X'.K tt))(he: ∀X',jh X scope X'->QE X' elt te)
 (hsw:X7 (.ListComp elt [⟨.Tuple [.Name x1 p1,.Name x2 p2] kk p3,iter,ifs,0⟩] scope pos) (some (.Name y py)) î.line X.env=pure true:=by rfl)
 (hf:X.fn y=true\/X.env.scope.names.lookup y=some .local:=by first|exact .inl rfl|exact .inr rfl|assumption)(hs: ∀x,M9 iter X.env x=pure x:=by intro _;rfl):
 QS X (.Assign [.Name y py] (.ListComp elt [⟨.Tuple [.Name x1 p1,.Name x2 p2] kk p3,iter,ifs,0⟩] scope pos) î) (PB k (vY (b2 i j) js ti tt te)):=by
 have base:PS X (.Assign [.Name y py] (.ListComp elt [⟨.Tuple [.Name x1 p1,.Name x2 p2] kk p3,iter,ifs,0⟩] scope pos) î) (MF (tLC js (LI X.K ti) (SB X.K 2 (UO (wq i) (UO (wq j) SA))) (LT X.K tt) (LE X.K te)) (wq k)):=
  XY hc S hi (λX' hX=>by obtain⟨C,s₀,H₀,ex,rfl⟩:=hX;exact Pa hc (yV (zS hN hx hl) (yV (zS hN hx2 hl2) UP))) (λX' hX=>by have:=ht X' hX;obtain⟨C,s₀,H₀,ex,rfl⟩:=hX;exact this)
   (λX' hX=>by have:=he X' hX;obtain⟨C,s₀,H₀,ex,rfl⟩:=hX;exact this) (yu hN hk hy hf) hsw hs
 exact base.imp λD σ H h=>by
  obtain⟨Æ,hd,Qd,rs,rh,t,p⟩:=Qa (K:=X.K) D σ H h;exact MY (AK hj hj2 hij) σ H _ ⟨Æ,hd,Qd,rs,rh,t,p⟩
end
def dIn (i':G6)(ti:TID)(tt:TTD)(te:TED)(V:G0 D->HD->Prop)(ys:G0 D):SD->HD->Prop:=λσ h=>ti σ h λj h1=> ∃ (n:G6) (W:G6->G0 D->HD->Prop),W 0 ys h1/\ ∀i ys h',W i ys h'->ys.length<=sizeLine/\
 ∃ds,j h'=some ds/\ds.length<=n/\(ds.length<=i->V ys h')/\
  ∀d,ds[i]? =some d->tt (σ.set i' (some d)) h' λb h3=>if b=true then te (σ.set i' (some d)) h3 λy h4=> ∃h5,Sub h5 h4/\W (i+1) (ys++ [y]) h5 else ∃h5,Sub h5 h3/\W (i+1) ys h5
def Ol (bind:D->SD->SD->Prop)(js:G0 G6)(ti:TID)(tt:TTD)(i':G6)(Ŕ:TID)(ũ:TTD)(te:TED):TED:=λσ h Q=>ti σ h λj h1=> ∃ (n:G6) (W:G6->G0 D->HD->Prop),W 0 [] h1/\ ∀i ys h',W i ys h'->ys.length<=sizeLine/\
 ∃ds,j h'=some ds/\ds.length<=n/\(ds.length<=i-> ∀p,h' p=none->Q (.lst p) (zK h' p ys))/\
  ∀d,ds[i]? =some d-> ∃à,bind d (jR js σ) à/\tt à h' λb h3=>if b=true then dIn i' Ŕ ũ te (λù h6=> ∃h5,Sub h5 h6/\W (i+1) ù h5) ys à h3 else ∃h5,Sub h5 h3/\W (i+1) ys h5
def PD (K:G7)(js:G0 G6)(i':G6)(bind:D->SD->SD->Prop)(g:TG):Prop:= ∀ (σ:St) (Æ ï:SD) (H:Hp) (d:D) (v:V) (Q:St->Hp->Prop),Ñ K H (jR js Æ) (zn js σ)->É K H d v->bind d (jR js Æ) ï->
 (∀à,Agree (zn js σ) à->(∀u,¬à[i']? =some (some u))->Ñ K H ï à->Q à H)->g v (zn js σ) H Q
def AN {i':G6}(hi:i∈js)(hi':i'∈js)(hne:i≠i'):PD K js i' (bN i) (wq i):=λσ Æ ï H d v Q rs r b q=>by
 cases (show ï=_ from b);refine q _ (.set v λu=>jV js σ i u hi) (λu z=> ?_) (rs.set r i);rw [Q4 hne] at z;exact jV js σ i' u hi' z
def AO {bind:D->SD->SD->Prop}{i':G6}{Ŕ:TID}{tt ũ:TTD}{te:TED}(hb:PD K js i' bind g): ∀σ H Q,LE K (Ol bind js ti tt i' Ŕ ũ te) σ H Q->Tk js (LI K ti) g (LT K tt) (LI K Ŕ) (wq i') (LT K ũ) (LE K te) σ H Q:=
 λσ H Q ⟨Æ,h,Qd,rs,rh,q,p⟩=>by
  refine⟨Æ,h,_,rs,rh,q,λj J h1 H1 k1 Ê jo ⟨n,W,w0,turn⟩=> ?_⟩;refine⟨λi m ys H'=>m=n-i/\Kept H1 H'/\ ∃ds h',Á K H' ds ys/\È K h' H'/\W i ds h',⟨n-0,rfl,.refl _,[],h1,rfl,Ê,w0⟩,?_⟩;rintro i m ys H' ⟨rfl,kp,yd,h',ry,Ğ,w⟩;obtain⟨hz,ds,ej,hn,stop,go⟩:=turn i yd h' w;refine⟨by rw [<-ry.length];exact hz,?_⟩;have jo':=jo H' h' kp Ğ ds ej i;have kk:Kept H H':=k1.trans kp
  by_cases hi:i<ds.length
  ·obtain⟨g1,y1⟩:=jo'.1 ds[i] (G1 hi);refine .inr ⟨g1,λx ļ y=> ?_⟩;obtain⟨k2,ê,r2⟩:=y1 x ļ y;obtain⟨ï,bd,q2⟩:=go ds[i] (G1 hi);refine hb σ Æ ï ļ ds[i] x _ (((rs.mono (kk.trans k2))).clear js) r2 bd λà ag un ĩ=>⟨ag,?_⟩
   refine LT.bind ĩ ê q2 λb h3 H3 k3 ű Ď q3=> ?_
   cases b with
   |true=>
    rw [R9 rfl] at q3 ⊢
    -- Ũ second clause
    refine⟨ï,h3,_,ű,Ď,q3,λj2 J2 h4 H4 k4 Ō jo2 ⟨n2,W2,w20,X00⟩=> ?_⟩;refine⟨λi2 m2 ys2 H5=>m2=n2-i2/\Kept H4 H5/\ ∃ds h5,Á K H5 ds ys2/\È K h5 H5/\W2 i2 ds h5,⟨n2-0,rfl,.refl _,yd,h4,ry.mono (k2.trans (k3.trans k4)),Ō,w20⟩,?_⟩;rintro i2 m2 ys2 H5 ⟨rfl,kp5,yd5,h5,ry5,rh5,w5⟩;obtain⟨hz5,ds5,ej5,hn5,X01,go5⟩:=X00 i2 yd5 h5 w5;refine⟨by rw [<-ry5.length];exact hz5,?_⟩;have jo5:=jo2 H5 h5 kp5 rh5 ds5 ej5 i2;have kk5:Kept H1 H5:=kp.trans (k2.trans (k3.trans (k4.trans kp5)))
    by_cases hi5:i2<ds5.length
    ·obtain⟨g5,y5⟩:=jo5.1 ds5[i2] (G1 hi5);refine .inr ⟨g5,λx6 H6 yy6=> ?_⟩;obtain⟨k6,rh6,r6⟩:=y5 x6 H6 yy6;refine⟨.set x6 un,?_⟩;have rs6:=(ű.mono (k4.trans (kp5.trans k6))).set r6 i';refine LT.bind rs6 rh6 (go5 ds5[i2] (G1 hi5)) λb h7 H7 k7 rs7 rh7 q7=> ?_
     cases b with
     |true=>
      rw [R9 rfl] at q7 ⊢;exact LE.bind rs7 rh7 q7 λd8 v8 h8 H8 k8 rs8 rh8 r8 ⟨h9,sb,w9⟩=>⟨n2-(i2+1),by omega,rfl,kp5.trans (k6.trans (k7.trans k8)),yd5++ [d8],h9,(ry5.mono (k6.trans (k7.trans k8))).append (.cons r8 .nil),rh8.sub sb,w9⟩
     |false=>
      rw [S4 D6] at q7 ⊢;obtain⟨h9,sb,w9⟩:=q7;exact⟨n2-(i2+1),by omega,rfl,kp5.trans (k6.trans k7),yd5,h9,ry5.mono (k6.trans k7),rh7.sub sb,w9⟩
    ·obtain⟨h9,sb,w9⟩:=X01 (aP.mp hi5);exact .inl ⟨jo5.2 (aP.mp hi5),n-(i+1),by omega,rfl,kk5,yd5,h9,ry5,rh5.sub sb,w9⟩
   |false=>
    rw [S4 D6] at q3 ⊢;obtain⟨h5,sb,w5⟩:=q3;exact⟨n-(i+1),by omega,rfl,kp.trans (k2.trans k3),yd,h5,ry.mono (k2.trans k3),Ď.sub sb,w5⟩
  ·refine .inl ⟨jo'.2 (aP.mp hi),λa ha=>p (.lst a) (.ref a) _ _ (kk.trans (.new ha)) (Ğ.newL ha ry) ⟨rfl,ys,jt⟩ (stop (aP.mp hi) a (Ğ.free ha))⟩
section
variable {X:Cx}{iter å elt:N3}{te:TED}{ti Ŕ:TID}{tt ũ:TTD}{pos:Pos}{scope:Y0}{js:G0 G6}{ifs Ě:G0 N3}
def ko {i i':G6}{x y:Str}{p py:Pos}(hc:X.calm=true)(S:Ì X scope js)(hi:QI X (.Name x p) iter ti)(hj:i∈js)(hj':i'∈js)(hne:i≠i')(hN:X.N.Nodup)(hx:X.N[i]? =some x)(hy:X.N[i']? =some y)
 (hl:scope.names.lookup x=some .local\/scope.names.lookup x=some .cell)(hl':scope.names.lookup y=some .local\/scope.names.lookup y=some .cell)
 (ht: ∀X',jh X scope X'->ė X' ifs (LT X'.K tt))(hi': ∀X',jh X scope X'->QI X' (.Name y py) å Ŕ)(ht': ∀X',jh X scope X'->ė X' Ě (LT X'.K ũ))(he: ∀X',jh X scope X'->QE X' elt te)
 (hs: ∀x,M9 iter X.env x=pure x:=by intro _;rfl)(hs': ∀env x,M9 å env x=pure x:=by intro _ _;rfl):
 QE X (.ListComp elt [⟨.Name x p,iter,ifs,0⟩,⟨.Name y py,å,Ě,0⟩] scope pos) (Ol (bN i) js ti tt i' Ŕ ũ te):=
 (show PE X _ (Tk js (LI X.K ti) (wq i) (LT X.K tt) (LI X.K Ŕ) (wq i') (LT X.K ũ) (LE X.K te)) from Am hc S hi (λX' hX=>by obtain⟨C,s₀,H₀,ex,rfl⟩:=hX;exact zS hN hx hl) (λX' hX=>by have:=ht X' hX;obtain⟨C,s₀,H₀,ex,rfl⟩:=hX;exact this) (λX' hX=>by have:=hi' X' hX;obtain⟨C,s₀,H₀,ex,rfl⟩:=hX;exact this)
  (λX' hX=>by obtain⟨C,s₀,H₀,ex,rfl⟩:=hX;exact zS hN hy hl') (λX' hX=>by have:=ht' X' hX;obtain⟨C,s₀,H₀,ex,rfl⟩:=hX;exact this)
  (λX' hX=>by have:=he X' hX;obtain⟨C,s₀,H₀,ex,rfl⟩:=hX;exact this) hs hs').imp (AO (AN hj hj' hne))
end
def kq:RD2:=λx y h Q=>match x,y with
 | .int i,.int j=>Q (.int (i+j)) h
 | .tup a,.tup b=>a.length+b.length<=sizeLine/\Q (.tup (a++b)) h
 | .lst a,.lst b=> ∃xs ys,h a=some xs/\h b=some ys/\xs.length+ys.length<=sizeLine/\ ∀p,h p=none->Q (.lst p) (zK h p (xs++ys))
 |_,_=>False
def Kg:RD2:=λx y h Q=>match x,y with
 | .int i,.int j=>Q (.int (i-j)) h
 |_,_=>False
def Kh:RD2:=λx y h Q=>match x,y with
 | .int i,.int j=>ξ i j/\Q (.int (i*j)) h
 | .lst a,.int k=> ∃xs,h a=some xs/\ -(2^63)<=k/\k<2^63/\xs.length*k.toNat<=sizeLine/\ ∀p,h p=none->Q (.lst p) (zK h p (B3 k.toNat xs).flatten)
 |_,_=>False
def ku:RD2:=λx y h Q=>match x,y with
 | .int i,.int j=>0<j/\Q (.int (i%j)) h
 |_,_=>False
def TJ:RD2:=λx y h Q=>match x,y with
 | .int i,.int j=>SE i j/\Q (.int (i / j)) h
 |_,_=>False
def Ki:RD2:=λx y h Q=>match x,y with
 | .int i,.int j=>HW i j/\Q (.int (i^j.toNat)) h
 |_,_=>False
def Bz (p:P1->P1->N4):RD2:=λx y h Q=>match x,y with
 | .int i,.int j=>Q (.bl (p i j)) h
 |_,_=>False
def eqD:RD2:=λx y h Q=>match x,y with
 | .int i,.int j=>Q (.bl (decide (i=j))) h
 | .bl i,.bl j=>Q (.bl (decide (i=j))) h
 | .str i,.str j=>Q (.bl (decide (i=j))) h
 |_,_=>False
def neD:RD2:=λx y h Q=>match x,y with
 | .int i,.int j=>Q (.bl (!decide (i=j))) h
 | .bl i,.bl j=>Q (.bl (!decide (i=j))) h
 | .str i,.str j=>Q (.bl (!decide (i=j))) h
 |_,_=>False
section
variable {X:Cx}
def Yh {f:G2->G2->Sem G2}{C:P1->P1->Prop}{g:P1->P1->V}{gd:P1->P1->D}{r:RD2}(ho:ø X f (rI C g))(hg: ∀i j H,É X.K H (gd i j) (g i j))
 (hr: ∀x y h Q,r x y h Q-> ∃i j,x= .int i/\y= .int j/\C i j/\Q (gd i j) h):ñ X f r:=ho.imp λx y H Q ⟨dx,dy,h,Qd,rx,ry,rh,q,p⟩=>by
 obtain⟨i,j,e1,e2,c,q'⟩:=hr dx dy h Qd q;subst e1 e2;exact⟨i,j,rx,ry,c,p _ _ _ _ (.refl H) rh (hg i j H) q'⟩
def vZ {f:G2->G2->Sem G2}{g:P1->P1->V}{gd:P1->P1->D}{r:RD2}(ho:ø X f (rI0 g))(hg: ∀i j H,É X.K H (gd i j) (g i j))
 (hr: ∀x y h Q,r x y h Q-> ∃i j,x= .int i/\y= .int j/\Q (gd i j) h):ñ X f r:=ho.imp λx y H Q ⟨dx,dy,h,Qd,rx,ry,rh,q,p⟩=>by
 obtain⟨i,j,e1,e2,q'⟩:=hr dx dy h Qd q;subst e1 e2;exact⟨i,j,rx,ry,p _ _ _ _ (.refl H) rh (hg i j H) q'⟩
def PF:ñ X (Q5 .Sub) Kg:=vZ (gd:=λi j=> .int (i-j)) OT (λ_ _ _=>rfl) λx y h Q q=>by
 cases x<;>first|exact False.elim q|(cases y<;>first|exact False.elim q|exact⟨_,_,rfl,rfl,q⟩)
def Ja:ñ X (Q5 .Mod) ku:=Yh (gd:=λi j=> .int (i%j)) OU (λ_ _ _=>rfl) λx y h Q q=>by
 cases x<;>first|exact False.elim q|(cases y<;>first|exact False.elim q|exact⟨_,_,rfl,rfl,q.1,q.2⟩)
def Fs:ñ X (Q5 .FloorDiv) TJ:=Yh (gd:=λi j=> .int (i / j)) Cz (λ_ _ _=>rfl) λx y h Q q=>by
 cases x<;>first|exact False.elim q|(cases y<;>first|exact False.elim q|exact⟨_,_,rfl,rfl,q.1,q.2⟩)
def BA:ñ X (Q5 .Pow) Ki:=Yh (gd:=λi j=> .int (i^j.toNat)) OV (λ_ _ _=>rfl) λx y h Q q=>by
 cases x<;>first|exact False.elim q|(cases y<;>first|exact False.elim q|exact⟨_,_,rfl,rfl,q.1,q.2⟩)
def Yi {p:P1->P1->N4}: ∀x y h Q,Bz p x y h Q-> ∃i j,x= .int i/\y= .int j/\Q (.bl (p i j)) h:=λx y h Q q=>by
 cases x<;>first|exact False.elim q|(cases y<;>first|exact False.elim q|exact⟨_,_,rfl,rfl,q⟩)
def Ft:ñ X (B9 .Lt) (Bz λi j=>decide (i<j)):=vZ (gd:=λi j=> .bl (decide (i<j))) SZ (λ_ _ _=>rfl) Yi
def UU:ñ X (B9 .LtE) (Bz λi j=>decide (i<=j)):=vZ (gd:=λi j=> .bl (decide (i<=j))) Ta (λ_ _ _=>rfl) Yi
def Fu:ñ X (B9 .Gt) (Bz λi j=>decide (j<i)):=vZ (gd:=λi j=> .bl (decide (j<i))) Tb (λ_ _ _=>rfl) Yi
def Fv:ñ X (B9 .GtE) (Bz λi j=>decide (j<=i)):=vZ (gd:=λi j=> .bl (decide (j<=i))) Tc (λ_ _ _=>rfl) Yi
def Om {α:Type}[DecidableEq α]{f:α->V}(hf: ∀a b,f a=f b->a=b)(a b:α):decide (f a=f b)=decide (a=b):=by
 by_cases h:a=b
 ·subst h;simp
 ·rw [T3 h,T3 (λe=>h (hf a b e))]
def ĉ:ñ X (B9 .Eq) eqD:=X0O.imp λx y H Q ⟨dx,dy,h,Qd,rx,ry,rh,q,p⟩=>by
 cases dx<;>first|exact False.elim q|(cases dy<;>first|exact False.elim q|skip)
 all_goals first
  |(cases (show x= .int _ from rx);cases (show y= .int _ from ry);refine⟨rfl,p _ _ _ _ (.refl H) rh ?_ q⟩;rw [Om (f:=V.int) (λa b e=>by cases e;rfl)];rfl)
  |(cases (show x= .bl _ from rx);cases (show y= .bl _ from ry);refine⟨rfl,p _ _ _ _ (.refl H) rh ?_ q⟩;rw [Om (f:=V.bl) (λa b e=>by cases e;rfl)];rfl)
  |(cases (show x= .str _ from rx);cases (show y= .str _ from ry);refine⟨rfl,p _ _ _ _ (.refl H) rh ?_ q⟩;rw [Om (f:=V.str) (λa b e=>by cases e;rfl)];rfl)
def ņ:ñ X (B9 .NotEq) neD:=X0P.imp λx y H Q ⟨dx,dy,h,Qd,rx,ry,rh,q,p⟩=>by
 cases dx<;>first|exact False.elim q|(cases dy<;>first|exact False.elim q|skip)
 all_goals first
  |(cases (show x= .int _ from rx);cases (show y= .int _ from ry);refine⟨rfl,p _ _ _ _ (.refl H) rh ?_ q⟩;rw [Om (f:=V.int) (λa b e=>by cases e;rfl)];rfl)
  |(cases (show x= .bl _ from rx);cases (show y= .bl _ from ry);refine⟨rfl,p _ _ _ _ (.refl H) rh ?_ q⟩;rw [Om (f:=V.bl) (λa b e=>by cases e;rfl)];rfl)
  |(cases (show x= .str _ from rx);cases (show y= .str _ from ry);refine⟨rfl,p _ _ _ _ (.refl H) rh ?_ q⟩;rw [Om (f:=V.str) (λa b e=>by cases e;rfl)];rfl)
def AQ (K:G7):R2:=λx y H Q=> ∃a b xs ys,x= .ref a/\y= .ref b/\ö K H a xs/\ö K H b ys/\xs= []/\Q (.ref b) H
def X0a:ø X (Q5 .Add) (AQ X.K):=by
 intro À s σ H x y v u Q I rx ry h;obtain⟨a,b,xs,ys,rfl,rfl,ha,hb,hx,q⟩:=h;cases rx;cases ry;obtain⟨its,r1,p1,_⟩:=I.tuple ha;obtain⟨ę,r2,p2,_⟩:=I.tuple hb;have hv:its= []:=r1.nil_iff.mpr hx;obtain⟨⟨cls,dd,data,sl⟩,ho,hc,n,hd⟩:=id p1;obtain⟨⟨X0S,Ź,G1a,ź⟩,ho2,hc2,n2,hd2⟩:=id p2;simp only at hc hd hc2 hd2;subst hc hd hc2 hd2;exact q0 ⟨_,ho,rfl⟩ ⟨_,ho2,rfl⟩ mU p6 gI gA (fC _ _)
  (tuple_addW0 a b its.toArray ę.toArray n n2 dd Ź sl ź (by simp [hv])) ⟨ho,ho2,.ref b,H,I,rfl,q⟩
def wa:ñ X (Q5 .Add) kq:=(X0t.or (X0e.or (X0a.or Ah))).imp λx y H Q ⟨dx,dy,h,Qd,rx,ry,rh,q,p⟩=>by
 cases dx<;>first|exact False.elim q|(cases dy<;>first|exact False.elim q|skip)
 ·exact .inl ⟨_,_,rx,ry,p (.int _) _ _ _ (.refl H) rh rfl q⟩
 ·rename_i ds es;obtain⟨a,vs,e1,h1,r1⟩:=(show ∃a vs,x= .ref a/\H a=some (.tup vs)/\Á X.K H ds vs from rx);obtain⟨b,us,e2,h2,r2⟩:=(show ∃a vs,y= .ref a/\H a=some (.tup vs)/\Á X.K H es vs from ry);subst e1 e2;obtain⟨hz,q⟩:=q
  by_cases hv:vs= []
  ·subst hv;have e:ds= []:=b9.mp r1.length;subst e;exact .inr (.inr (.inl ⟨a,b,[],us,rfl,rfl,ö.of h1,ö.of h2,rfl,p (.tup es) _ _ _ (.refl H) rh ⟨b,us,rfl,h2,r2⟩ q⟩))
  ·refine .inr (.inl ⟨a,b,vs,us,rfl,rfl,ö.of h1,ö.of h2,hv,by rw [<-r1.length,<-r2.length];exact hz,λe=> ?_,λ_ c hc=> ?_⟩)
   ·subst e;have e:es= []:=b9.mp r2.length;subst e;rw [J5] at q;exact p (.tup ds) _ _ _ (.refl H) rh ⟨a,vs,rfl,h1,r1⟩ q
   ·exact p (.tup (ds++es)) _ _ _ (.new hc) (rh.new hc) ⟨c,vs++us,rfl,jt,(r1.append r2).mono (.new hc)⟩ q
 ·rename_i a b;obtain⟨xs,ys,h1,h2,hz,q⟩:=q;obtain⟨vs,e1,r1⟩:=rh a xs h1;obtain⟨us,e2,r2⟩:=rh b ys h2;refine .inr (.inr (.inr ⟨a,b,vs,us,rx.1,ry.1,e1,e2,by rw [<-r1.length,<-r2.length];exact hz,λc hc=> ?_⟩));exact p (.lst c) _ _ _ (.new hc) (rh.newL hc (r1.append r2)) ⟨rfl,_,jt⟩ (q c (rh.free hc))
def Á.flat {K:G7}{H:Hp}{ds:G0 D}{vs:G0 V}(r:Á K H ds vs): ∀k:G6,Á K H (B3 k ds).flatten (B3 k vs).flatten
 |0=>by simp;exact .nil
 |k+1=>by rw [X9,X9,bK,bK];exact r.append (Á.flat r k)
def X0x:ñ X (Q5 .Mult) Kh:=(X0u.or Ai).imp λx y H Q ⟨dx,dy,h,Qd,rx,ry,rh,q,p⟩=>by
 cases dx<;>first|exact False.elim q|(cases dy<;>first|exact False.elim q|skip)
 ·exact .inl ⟨_,_,rx,ry,q.1,p (.int _) _ _ _ (.refl H) rh rfl q.2⟩
 ·obtain⟨xs,h1,b1,b2,hz,q⟩:=q;obtain⟨vs,e1,r1⟩:=rh _ xs h1;refine .inr ⟨_,_,vs,rx.1,ry,e1,b1,b2,by rw [<-r1.length];exact hz,λc hc=> ?_⟩;exact p (.lst c) _ _ _ (.new hc) (rh.newL hc (r1.flat _)) ⟨rfl,_,jt⟩ (q c (rh.free hc))
end
def ixD:RD2:=λx y h Q=>match x,y with
 | .tup ds,.int i=> ∃d,ć ds i=some d/\Q d h
 | .lst a,.int i=> ∃ds d,h a=some ds/\ć ds i=some d/\Q d h
 | .scr ns,.int i=> ∃n,ć ns i=some n/\Q (.int n) h
 |_,_=>False
def PH {vs:G0 V}(r:Á K H ds vs){i:P1}{d:D}(e:ć ds i=some d): ∃v,ć vs i=some v/\É K H d v:=by
 unfold ć at e ⊢;rw [<-r.length];cases q:ū ds.length i with
 |none=>rw [q] at e;cases e
 |some j=>rw [q] at e;exact r.get e
def Fw {β:Type}(f:α->β){xs:G0 α}{i:P1}{x:α}(e:ć xs i=some x):ć (xs.map f) i=some (f x):=by
 unfold ć at e ⊢;rw [G3];cases q:ū xs.length i with
 |none=>rw [q] at e;cases e
 |some j=>
  rw [q] at e;show (xs.map f)[j]? =_;rw [P9,(show xs[j]? =some x from e)];rfl
section
variable {X:Cx}{a b e:N3}{ta tb te:TED}{pos p2:Pos}
def TK: ∀σ H Q,LE X.K (œ ixD ta tb) σ H Q->tOp (rIx X.K) (LE X.K ta) (LE X.K tb) σ H Q:=λσ H Q ⟨Æ,h,Qd,rs,rh,t,p⟩=>
 LE.bind rs rh t λdx x h1 H1 k1 Ù Ê r1 t1=>LE.bind Ù Ê t1 λdy y h2 H2 k2 ĩ ê ry q=>by
  have rx:=r1.mono k2;have kk:=k1.trans k2;cases dx<;>first|exact False.elim q|(cases dy<;>first|exact False.elim q|skip)
  ·rename_i ds i;obtain⟨d,e,q⟩:=q;obtain⟨a,vs,e1,hH,r⟩:=(show ∃a vs,x= .ref a/\H2 a=some (.tup vs)/\Á X.K H2 ds vs from rx);obtain⟨v,e2,rv⟩:=PH r e;exact .inr (.inl ⟨a,vs,i,v,e1,ry,ö.of hH,e2,p _ _ _ _ kk ê rv q⟩)
  ·rename_i a i;obtain⟨ds,d,hd,e,q⟩:=q;obtain⟨vs,hH,r⟩:=ê a ds hd;obtain⟨v,e2,rv⟩:=PH r e;exact .inl ⟨a,vs,i,v,rx.1,ry,è.of hH,e2,p _ _ _ _ kk ê rv q⟩
  ·rename_i ns i;obtain⟨n,e,q⟩:=q;obtain⟨a,e1,hS⟩:=(show ∃a,x= .ref a/\Χ X.K H2 a ns from rx);exact .inl ⟨a,_,i,.int n,e1,ry,hS.sq,Fw V.int e,p (.int n) _ _ _ kk ê rfl q⟩
def qix (ha:QE X a ta)(hb:QE X b tb)(hs:Yd b):QE X (.Subscript a b pos) (œ ixD ta tb):=(Tg Af ha hb hs).imp TK
end
def On:RDn:=λds h Q=>match ds with
 | [.tup xs]=>Q (.int xs.length) h
 | [.lst a]=> ∃xs,h a=some xs/\Q (.int xs.length) h
 | [.scr ns]=>Q (.int ns.length) h
 |_=>False
def TL:RDn:=λds h Q=>match ds with
 | [.int i]=>Q (.int i) h
 | [.bl k]=>Q (.int (if k then 1 else 0)) h
 |_=>False
def TN:RDn:=λds h Q=>match ds with
 | [.int i,.int j]=>Q (.int (if j>i then j else i)) h
 |_=>False
def PJ:RDn:=λds h Q=>match ds with
 | [.int i,.int j]=>SE i j/\Q (.tup [.int (i / j),.int (i%j)]) h
 |_=>False
def BB:RDn:=λds h Q=>match ds with
 | [.tup xs]=>Q (.tup xs) h
 | [.lst a]=> ∃xs,h a=some xs/\Q (.tup xs) h
 |_=>False
def Qb:RDn:=λds h Q=>match ds with
 | [.lst a]=> ∃xs,h a=some xs/\Q (.tup xs) (VC h a)
 |_=>False
section
variable {X:Cx}
def AR:vc X (.builtin "len") On:=Ŋ.imp λxs H Q ⟨ds,h,Qd,r,rh,q,p⟩=>by
 unfold On at q;split at q
 ·rename_i es;obtain⟨v,e,r1⟩:=jH r;obtain⟨a,vs,e1,hH,r2⟩:=(show ∃a vs,v= .ref a/\H a=some (.tup vs)/\Á X.K H es vs from r1);subst e e1;exact⟨a,vs,rfl,.inr (ö.of hH),by rw [<-r2.length];exact p (.int _) _ _ _ (.refl H) rh rfl q⟩
 ·rename_i a;obtain⟨es,hd,q⟩:=q;obtain⟨v,e,r1⟩:=jH r;obtain⟨vs,hH,r2⟩:=rh a es hd;have e1:v= .ref a:=r1.1;subst e e1;exact⟨a,vs,rfl,.inl (è.of hH),by rw [<-r2.length];exact p (.int _) _ _ _ (.refl H) rh rfl q⟩
 ·rename_i ns;obtain⟨v,e,r1⟩:=jH r;obtain⟨a,e1,hS⟩:=(show ∃a,v= .ref a/\Χ X.K H a ns from r1);subst e e1;exact⟨a,_,rfl,.inl hS.sq,by rw [G3];exact p (.int _) _ _ _ (.refl H) rh rfl q⟩
 ·exact q.elim
def VE:vc X (.type "int") TL:=Ι.imp λxs H Q ⟨ds,h,Qd,r,rh,q,p⟩=>by
 unfold TL at q;split at q
 ·rename_i i;obtain⟨v,e,r1⟩:=jH r;cases (show v= .int i from r1);exact .inl ⟨i,e,p (.int i) _ _ _ (.refl H) rh rfl q⟩
 ·rename_i k;obtain⟨v,e,r1⟩:=jH r;cases (show v= .bl k from r1);exact .inr ⟨k,e,p (.int _) _ _ _ (.refl H) rh rfl q⟩
 ·exact q.elim
def AS (hc:X.calm=true):vc X (.builtin "max") TN:=(Pg hc).imp λxs H Q ⟨ds,h,Qd,r,rh,q,p⟩=>by
 unfold TN at q;split at q
 ·rename_i i j;obtain⟨v,w,e,r1,r2⟩:=vW r;cases (show v= .int i from r1);cases (show w= .int j from r2);exact⟨i,j,e,p (.int _) _ _ _ (.refl H) rh rfl q⟩
 ·exact q.elim
def PK:vc X (.builtin "divmod") PJ:=ś.imp λxs H Q ⟨ds,h,Qd,r,rh,q,p⟩=>by
 unfold PJ at q;split at q
 ·rename_i i j;obtain⟨c,q⟩:=q;obtain⟨v,w,e,r1,r2⟩:=vW r;cases (show v= .int i from r1);cases (show w= .int j from r2);exact⟨i,j,e,c,λa ha=>p (.tup [.int (i / j),.int (i%j)]) _ _ _ (.new ha) (rh.new ha) ⟨a,_,rfl,jt,.cons rfl (.cons rfl .nil)⟩ q⟩
 ·exact q.elim
def ð:vc X (.type "tuple") BB:=ĺ.imp λxs H Q ⟨ds,h,Qd,r,rh,q,p⟩=>by
 unfold BB at q;split at q
 ·rename_i es;obtain⟨v,e,r1⟩:=jH r;obtain⟨a,vs,e1,hH,r2⟩:=(show ∃a vs,v= .ref a/\H a=some (.tup vs)/\Á X.K H es vs from r1);subst e e1;exact⟨a,vs,rfl,.inr ⟨ö.of hH,p (.tup es) _ _ _ (.refl H) rh ⟨a,vs,rfl,hH,r2⟩ q⟩⟩
 ·rename_i a;obtain⟨es,hd,q⟩:=q;obtain⟨v,e,r1⟩:=jH r;obtain⟨vs,hH,r2⟩:=rh a es hd;have e1:v= .ref a:=r1.1;subst e e1;exact⟨a,vs,rfl,.inl ⟨è.of hH,λc hc=>p (.tup es) _ _ _ (.new hc) (rh.new hc) ⟨c,vs,rfl,jt,r2.mono (.new hc)⟩ q⟩⟩
 ·exact q.elim
def jW:vc X (.type "tuple") Qb:=ð.imp λxs H Q ⟨ds,h,Qd,r,rh,q,p⟩=>by
 unfold Qb at q;split at q
 ·rename_i a;obtain⟨es,hd,q⟩:=q;exact⟨[.lst a],h,λd h'=>Qd d (VC h' a),r,rh,⟨es,hd,q⟩,λd v h' H' k Ğ rd q'=>p d v _ H' k (Ğ.sub (Sub.drop h' a)) rd q'⟩
 ·exact q.elim
end
noncomputable def VF:D->D4 W3
 | .non=>some "NoneType" | .bl _=>some "bool" | .int _=>some "int" | .str _=>some "str" | .tup _=>some "tuple" | .lst _=>some "list" | .dic _ _=>some "dict" | .dct _=>none| .scr _=>none| .exc _=>none| .fn _=>none| .exf _ _=>none
noncomputable def AT (T:W3)(n:W3):N4:=n==T||(T== "int" &&n== "bool")
def MZ {d:D}{v:V}{n:W3}(r:É K H d v)(e:VF d=some n):ē K H v (.type n):=by
 cases d with
 |non=>cases (show v= .non from r);cases e;exact .non
 |bl b=>cases (show v= .bl b from r);cases e;exact .bl b
 |int i=>cases (show v= .int i from r);cases e;exact .int i
 |str x=>cases (show v= .str x from r);cases e;exact .str x
 |tup ds=>
  obtain⟨a,vs,e1,hH,_⟩:=(show ∃a vs,v= .ref a/\H a=some (.tup vs)/\Á K H ds vs from r);subst e1;cases e;exact .tup hH
 |lst a=>
  obtain⟨e1,vs,hH⟩:=(show v= .ref a/\ ∃vs,H a=some (.lst vs) from r);subst e1;cases e;exact .lst hH
 |dic x i=>
  obtain⟨a,e1,hH⟩:=(show ∃a,v= .ref a/\H a=some (.dK [(dN x,V.int i)]) from r);subst e1;cases e;exact .dK hH
 |dct a=>cases e
 |scr ns=>cases e
 |exc C=>cases e
 |fn a=>cases e
 |exf C fs=>cases e
noncomputable def Fx:G0 W3:= ["NoneType","bool","int","str","tuple","list","dict"]
def Gk {d:D}{n:W3}(e:VF d=some n):n∈Fx:=by
 cases d<;>cases e<;>decide
def TQ (K:G7):Prop:= ∀n∈Fx,∀T∈ ["tuple","int","bool","list","str"],oS K (.type n) (.type T)=some (AT T n)
def Fy (K:G7):TQ K:=by
 intro n hn T hT;simp only [Fx,R7,F5,or_false] at hn hT;rcases hn with rfl|rfl|rfl|rfl|rfl|rfl|rfl<;>rcases hT with rfl|rfl|rfl|rfl|rfl<;>with_unfolding_all rfl
def PL (T:W3):â X (.builtin "isinstance") (λxs H Q=> ∃x t b,xs= [x,.ty T]/\ē X.K H x t/\oS X.K t (.type T)=some b/\Q (.bl b) H):=by
 intro À s σ H xs us Q I r h;obtain⟨x,t,b,rfl,ty,e,q⟩:=h;obtain⟨u,w',rfl,rx,rt⟩:=MN r;cases (show w'=qC T from rt);exact Pi I rx ty e λtk=>⟨.bl b,H,I.tok tk,rfl,q⟩
def dIs (T:W3)(ta:TED):TED:=λσ h Q=>ta σ h λx h1=> ∃n,VF x=some n/\Q (.bl (AT T n)) h1
def TR {a:N3}{ta:TED}{T:W3}{t:Str}{p p2:Pos}(hT:T∈ ["tuple","int","bool","list","str"])(hg:Gl X "isinstance")(hm:X.mg "isinstance" =none)(hg2:Gl X t)(hm2:X.mg t=none)(hv:V5 t=some (.type T))(ha:QE X a ta)
 (hn:t≠ "__name__" :=by decide)(hd:(t==("__debug__" :Str))=false:=by decide)
 (h1:S5 [a,.Name t p2] X.env=(false,K0 a X.env)::S5 [.Name t p2] X.env:=by rfl)(h2:(U8 pos (S5 [.Name t p2] X.env)).any (·.1)=false:=by rfl):
 QE X (.Call (.Name "isinstance" p) [a,.Name t p2] [] pos) (dIs T ta):=
 (Yc (PL T) hg hm tK (wQ ha (wQ (Ct (v:= .ty T) hg2 hm2 hv rfl hn hd) Č (by rfl)) h1) (by decide) (by decide) h1 h2).imp
  λσ H Q ⟨Æ,h,Qd,rs,rh,t,p⟩=>LE.bind rs rh t λd v h1 H1 k1 Ù Ê r1 ⟨n,e,q⟩=>⟨v,.type n,AT T n,rfl,MZ r1 e,Fy _ n (Gk e) T hT,p (.bl _) _ _ _ k1 Ê rfl q⟩
def PM (bs:G0 N4):(P5 bs.length).all (λi=>bs.getD i false)=bs.all id:=by
 induction bs with
 |nil=>rfl
 |cons b bs ih=>
  rw [R3,gL,xB,cL,xB];show (b&&_)=(b&&bs.all id);rw [<-ih];rfl
def PN (bs:G0 N4):(P5 bs.length).any (λi=>bs.getD i false)=bs.any id:=by
 induction bs with
 |nil=>rfl
 |cons b bs ih=>
  rw [R3,gL,xC,nK,xC];show (b||_)=(b||bs.any id);rw [<-ih];rfl
def VG {bs:G0 N4}{its:G0 G2}(r:Ç (bs.map V.bl) its){i:G6}{v:G2}(e:its[i]? =some v):v= .bool (bs.getD i false):=by
 have hl:=r.length;rw [G3] at hl;have hi:i<its.length:=(P7.mp e).1;have hb:(bs.map V.bl)[i]? =some (.bl bs[i]):=by rw [P9,G1 (by omega)];rfl
 obtain⟨u,e1,r1⟩:=r.get hb;rw [e] at e1;cases e1;rw [D2,G1 (by omega)];exact r1
section
variable {X:Cx}
def Yj (hc:X.calm=true):â X (.builtin "all") (λxs H Q=> ∃ (a:P2) (bs:G0 N4),xs= [.ref a]/\è X.K H a (bs.map V.bl)/\Q (.bl (bs.all id)) H):=by
 intro À s σ H xs us Q I r h;obtain⟨a,bs,rfl,hS,q⟩:=h;obtain⟨u,rfl,ru⟩:=Zp r;cases ru;obtain⟨its,rv,pl,hz⟩:=I.list hS;have hl:=pl.isList;have hlt:a<s.heap.objs.size:=by obtain⟨_,e,_⟩:=hl;exact D9 e
 refine call_all_walk (aJ hl ?_);refine⟨s.heap.objs.size,_,_,_,_,_,λi=>bs.getD i false,rfl,nM (A:=X.A.in1) (show X.A.in1.handled=none from I.ok.hd hc) s.heap.objs.size a (M7 hlt) its.toArray,⟨⟨_,S6 _ rfl,rfl,rfl⟩,hl.push _⟩,?_,λh' tk hk=> ?_⟩
 ·intro i v s' Q' E' hP hQ;have e:its[i]? =some v:=by simpa using hP
  rw [VG rv e];exact K1 hQ
 ·have hn:its.toArray.size=bs.length:=by rw [R4,<-rv.length,G3]
  rw [hn,PM];exact⟨.bl _,H,I.kept (t':=tk) (λb o e=>hk b o (λz=>by rw [G8.mp z] at e;exact absurd (D9 e) (B8 _)) (G9 _ e)),rfl,q⟩
def Yk (hc:X.calm=true):â X (.builtin "any") (λxs H Q=> ∃ (a:P2) (bs:G0 N4),xs= [.ref a]/\è X.K H a (bs.map V.bl)/\Q (.bl (bs.any id)) H):=by
 intro À s σ H xs us Q I r h;obtain⟨a,bs,rfl,hS,q⟩:=h;obtain⟨u,rfl,ru⟩:=Zp r;cases ru;obtain⟨its,rv,pl,hz⟩:=I.list hS;have hl:=pl.isList;have hlt:a<s.heap.objs.size:=by obtain⟨_,e,_⟩:=hl;exact D9 e
 refine call_any_walk (aJ hl ?_);refine⟨s.heap.objs.size,_,_,_,_,_,λi=>bs.getD i false,rfl,nM (A:=X.A.in1) (show X.A.in1.handled=none from I.ok.hd hc) s.heap.objs.size a (M7 hlt) its.toArray,⟨⟨_,S6 _ rfl,rfl,rfl⟩,hl.push _⟩,?_,λh' tk hk=> ?_⟩
 ·intro i v s' Q' E' hP hQ;have e:its[i]? =some v:=by simpa using hP
  rw [VG rv e];exact K1 hQ
 ·have hn:its.toArray.size=bs.length:=by rw [R4,<-rv.length,G3]
  rw [hn,PN];exact⟨.bl _,H,I.kept (t':=tk) (λb o e=>hk b o (λz=>by rw [G8.mp z] at e;exact absurd (D9 e) (B8 _)) (G9 _ e)),rfl,q⟩
theorem vz {K:G7}{H:Hp}: ∀ {bs:G0 N4} {vs:G0 V},Á K H (bs.map D.bl) vs->vs=bs.map V.bl
 | [],_,h=>h
 |b::bs,vs,h=>by
  obtain⟨v,r,e,h1,h2⟩:=(show ∃v r,vs=v::r/\É K H (.bl b) v/\Á K H (bs.map D.bl) r from h);rw [e,vz h2,(show v= .bl b from h1)];rfl
def Na:RDn:=λds h Q=> ∃ (a:P2) (bs:G0 N4),ds= [.lst a]/\h a=some (bs.map D.bl)/\Q (.bl (bs.all id)) (VC h a)
def TU:RDn:=λds h Q=> ∃ (a:P2) (bs:G0 N4),ds= [.lst a]/\h a=some (bs.map D.bl)/\Q (.bl (bs.any id)) (VC h a)
def WG (hc:X.calm=true):vc X (.builtin "all") Na:=(Yj hc).imp λxs H Q ⟨ds,h,Qd,r,rh,⟨a,bs,e,hd,q⟩,p⟩=>by
 subst e;obtain⟨v,e,r1⟩:=jH r;obtain⟨vs,hH,r2⟩:=rh a _ hd;have e1:v= .ref a:=r1.1;rw [vz r2] at hH;subst e e1;exact⟨a,bs,rfl,è.of hH,p (.bl _) _ _ _ (.refl H) (rh.sub (Sub.drop h a)) rfl q⟩
def AU (hc:X.calm=true):vc X (.builtin "any") TU:=(Yk hc).imp λxs H Q ⟨ds,h,Qd,r,rh,⟨a,bs,e,hd,q⟩,p⟩=>by
 subst e;obtain⟨v,e,r1⟩:=jH r;obtain⟨vs,hH,r2⟩:=rh a _ hd;have e1:v= .ref a:=r1.1;rw [vz r2] at hH;subst e e1;exact⟨a,bs,rfl,è.of hH,p (.bl _) _ _ _ (.refl H) (rh.sub (Sub.drop h a)) rfl q⟩
end
def Kj (to:TED)(te:TED):TED:=λσ h Q=>to σ h λx h1=> ∃a,x= .lst a/\te σ h1 λy h2=> ∃xs,h2 a=some xs/\xs.length<sizeLine/\Q .non (zK h2 a (xs++ [y]))
section
variable {X:Cx}{o e i:N3}{to te ti:TED}{apos Ï pos:Pos}
def kH (ho:QE X o to)(he:QE X e te)(hbase:bV o "append" X.env (K0 o X.env)=K0 o X.env:=by rfl)
 (hfew:((U8 Ï (S5 [e] X.env)).all (λx=> !x.1)&&(j5 Ï (dF [] X.env)).all (λx=>x.1.isSome)&&decide ([e].length+([]:G0 cJ).length+(if ([]:G0 cJ).isEmpty then 0 else 1)<30))=true:=by rfl)
 (hline:(apos.endLine==Ï.line)=true:=by rfl)(hs:S5 [e] X.env=(false,K0 e X.env)::S5 [] X.env:=by rfl)(hplain:(U8 Ï (S5 [] X.env)).any (·.1)=false:=by rfl):
 QE X (.Call (.Attribute o "append" apos) [e] [] Ï) (Kj to te):=
 (MS cA xD xE Po ho (wQ he Č hs) hbase hfew hline hs hplain).imp
  λσ H Q ⟨Æ,h,Qd,rs,rh,t,p⟩=>LE.bind rs rh t λd v h1 H1 k1 Ù Ê r1 ⟨a,e,q⟩=>by
   subst e;obtain⟨e1,vs,hH⟩:=(show v= .ref a/\ ∃vs,H1 a=some (.lst vs) from r1);subst e1;refine⟨.inl ⟨rfl,vs,è.of hH⟩,?_⟩;refine LE.bind Ù Ê q λy u h2 H2 k2 ĩ ê r2 ⟨xs,hx,hz,q2⟩=> ?_
   obtain⟨ws,hW,r3⟩:=ê a xs hx;refine⟨a,ws,u,rfl,rfl,hW,by rw [<-r3.length];exact hz,p .non _ _ _ (k1.trans (k2.trans (.put hW))) (ê.put hW (r3.append (.cons r2 .nil))) rfl q2⟩
def AV (to ti:TED):TGD:=λd σ h Q=>to σ h λo h1=>ti σ h1 λi h2=> ∃a k xs j,o= .lst a/\i= .int k/\h2 a=some xs/\ū xs.length k=some j/\Q σ (zK h2 a (xs.set j d))
def AW (ho:QE X o to)(hi:QE X i ti)
 (ha: ∀v,dY (.Subscript o i pos) X.env v=(do
  let ov <-Z8 [v] (K0 o X.env)
  let iv <-Z8 [v,ov] (K0 i X.env)
  fO pos
  Z8 [v,ov,iv] (tX ov iv v)
  G0J [v,ov,iv] []):=by intro _;rfl):QG X (.Subscript o i pos) (AV to ti):=
 (OK ho hi MR ha).imp λv σ H Q ⟨d,Æ,h,Qd,r,rs,rh,q,p⟩=>
  LE.bind rs rh q λd1 v1 h1 H1 k1 Ù Ê r1 q1=>LE.bind Ù Ê q1 λd2 v2 h2 H2 k2 ĩ ê r2 ⟨a,k,xs,j,e1,e2,hx,hj,q2⟩=>by
   subst e1 e2;have e3:v1= .ref a:=(r1.mono k2).1;obtain⟨ws,hW,r3⟩:=ê a xs hx;refine⟨a,ws,k,j,e3,r2,hW,by rw [<-r3.length];exact hj,p _ _ _ _ (k1.trans (k2.trans (.put hW))) (ĩ.mono (.put hW)) (ê.put hW (Á.set ((r.mono k1).mono k2) j r3)) q2⟩
end
noncomputable def Qc (N:G0 Str)(sc:G0 (Str×NameKind))(scope:Y0)(js:G0 G6):N4:=
 scope.kind== .function&&scope.names.all (λp=>p.2 != .cell||scope.names.lookup p.1==some .cell)&&scope.names.all (λp=>p.2 != .local||scope.names.lookup p.1==some .local)&&
 scope.names.all (λp=>p.2 != .free||sc.lookup p.1==some .cell||sc.lookup p.1==some .free)&&
 (P5 N.length).all λi=>(scope.names.lookup (N.getD i xW) !=some .local&&scope.names.lookup (N.getD i xW) !=some .cell)||js.contains i
def zo (h:Qc X.N X.env.scope.names scope js=true):Ì X scope js:=by
 unfold Qc at h;simp only [F4] at h;obtain⟨⟨⟨⟨h1,h2⟩,h3⟩,h4⟩,h5⟩:=h;refine⟨eq_of_beq h1,λp hp e=> ?_,λp hp e=> ?_,λp hp e=> ?_,λi x e1 e2=> ?_⟩
 ·have:=S8.mp h3 p hp;rw [e] at this;simpa using this
 ·have:=S8.mp h2 p hp;rw [e] at this;simpa using this
 ·have:=S8.mp h4 p hp;rw [e] at this;simpa using this
 ·have hi:i<X.N.length:=(P7.mp e1).1;have:=S8.mp h5 i (D1.mpr hi);rw [D2,e1,cB] at this;rcases e2 with e2|e2<;>(rw [e2] at this;simpa using this)
def qpt {t:TTD}(h:QW X e t):QT X e t:=h.pt
def PP {te:TED}{σ:SD}{h1:HD}{Q:KD}{j:ItD}(f:D->D)(hz:ds.length<=sizeLine)(hj:j h1=some ds)
 (ht: ∀R:ItD->HD->Prop,R j h1->ti σ h R)(he: ∀d∈ds,∀Q':KD,Q' (f d) h1->te ((jR js σ).set i (some d)) h1 Q')(hq: ∀p,h1 p=none->Q (.lst p) (zK h1 p (ds.map f))):vY (bN i) js ti vX te σ h Q:=by
 refine ht _ ⟨ds.length,λk ys h'=>h'=h1/\ys=(ds.take k).map f,⟨rfl,by simp⟩,?_⟩;rintro k ys h' ⟨rfl,rfl⟩;refine⟨by simp only [G3,T5];omega,ds,hj,P6 _,λhl p hp=> ?_,λd hd=>⟨_,rfl,?_⟩⟩
 ·rw [T9 hl];exact hq p hp
 ·unfold vX;dsimp only;rw [R9 rfl];refine he d (P8 hd) _ ⟨h',Sub.refl _,rfl,?_⟩;rw [C4,hd];simp
end L2
namespace HT
open PySem PySem.Spec PyProof.Rows
section
variable {prog:T7}{w:C1}{A:N7}{E:G2->G5->Prop}{s:G5}
def vA {t sl:P2}{items:S9 G2}{vl vu:G2}{lo hi:D4 P1}{Q:G2->G5->Prop}(ht:IH s.heap t items)(hs:s.heap.IsSliceOf sl vl vu .none)(pl:nD vl lo)(pu:nD vu hi)
 (hw:sIx items.size 0 lo=0/\sIx items.size items.size hi=items.size)(h:Q (.ref t) s):R5 (S0 prog w) A (mB (.ref t) (.ref sl)) Q E s:=by
 obtain⟨os,hos,hcs,hds⟩:=id hs;have hTs:s.TypeIs (.ref sl) "slice" :=⟨os,hos,hcs⟩;unfold mB
 try with_reducible refine O8 ?_
 first|refine wpAny_bind (P0 ?_)|skip
 refine wpAny_bind (mC ht.typeIs (by decide) ?_);refine wpAny_bind (O6 (name:=W4 "__getitem__") ht.typeIs Y4
  (L6 Y4 ht.typeIs pU ?_ (qG _ _)))
 show R5 _ _ (aZ (.ref t) >>= _) _ _ s;refine wpAny_bind (v9 ht ?_);refine wpAny_bind (iY hTs ?_);rw [R9 (by decide)];refine wpAny_bind (yl hs pl pu ?_);have X1p:((((sIx items.size 0 lo:G6):P1)==0&&(1:P1)==1&&(sIx items.size items.size hi-sIx items.size 0 lo)==items.size)=true):=by
  rw [hw.1,hw.2];simp
 show R5 _ _ (if (((sIx items.size 0 lo:G6):P1)==0&&(1:P1)==1&&(sIx items.size items.size hi-sIx items.size 0 lo)==items.size)=true then _ else _) _ _ s;rw [R9 X1p];refine wpAny_bind (m:=j8 (.ref t)) ?_;unfold j8;refine wpAny_bind (iY ht.typeIs (P0 ?_));rw [R9 (by decide)];exact wpAny_bind (iC (P0 ⟨_,rfl,P0 h⟩))
end
end HT
namespace L2
open PySem PySem.Spec PyProof.Rows
def kI (K:G7):V->D4 P1->D4 P1->Hp->VK->Prop:=λx lo hi H Q=> ∃a xs,x= .ref a/\ö K H a xs/\(HT.sIx xs.length 0 lo=0/\HT.sIx xs.length xs.length hi=xs.length)/\Q (.ref a) H
variable {X:Cx}
def X0b:SlR X (kI X.K):=by
 intro À s σ H x v vl vu lo hi sl Q I rx hs pl pu h;obtain⟨a,xs,rfl,hx,hw,q⟩:=h;cases rx;obtain⟨its,r,ht,hz⟩:=I.tuple hx;have hlen:its.toArray.size=xs.length:=by rw [R4];exact r.length.symm
 refine⟨"tuple",_,PyProof.Rows.slot_tuple_getitem.lookup,ht.typeIs,?_⟩;exact HT.vA ht hs pl pu (by rw [hlen];exact hw) ⟨.ref a,H,I,rfl,q⟩
noncomputable def VH {α:Type}(xs:G0 α)(lo hi:D4 P1):G0 α:=(xs.drop (HT.sIx xs.length 0 lo)).take (HT.sIx xs.length xs.length hi-HT.sIx xs.length 0 lo)
abbrev TOD:=SD->HD->(D4 P1->HD->Prop)->Prop
def PQ:TOD:=λ_ h Q=>Q none h
def AX (t:TED):TOD:=λσ h Q=>t σ h λx h1=> ∃i,x= .int i/\Q (some i) h1
def LO (K:G7)(t:TOD):TO:=λσ H Q=> ∃Æ h Qd,Ñ K H Æ σ/\È K h H/\t Æ h Qd/\ ∀o h' H',Kept H H'->È K h' H'->Qd o h'->Q o H'
def LO.bind {K:G7}{ta:TOD}{σ:St}{H:Hp}{Æ:SD}{h:HD}{kd:D4 P1->HD->Prop}{k:D4 P1->Hp->Prop}(rs:Ñ K H Æ σ)(rh:È K h H)(t:ta Æ h kd)(f: ∀o h' H',Kept H H'->Ñ K H' Æ σ->È K h' H'->kd o h'->k o H'):LO K ta σ H k:=
 ⟨Æ,h,kd,rs,rh,t,λo h' H' kp r1 q=>f o h' H' kp (rs.mono kp) r1 q⟩
def PO.imp {e:D4 N3}{t t':TO}(h:PO X e t)(i: ∀σ H Q,t' σ H Q->t σ H Q):PO X e t':=λÀ s σ H Q I q=>h À s σ H Q I (i σ H Q q)
abbrev QO (X:Cx)(e:D4 N3)(t:TOD):Prop:=PO X e (LO X.K t)
def Fz:QO X none PQ:=X0d.imp λσ H Q ⟨Æ,h,Qd,rs,rh,q,p⟩=>p none h H (.refl H) rh q
def FA {e:N3}{te:TED}(he:QE X e te):QO X (some e) (AX te):=(CK he).imp λσ H Q ⟨Æ,h,Qd,rs,rh,q,p⟩=>
 LE.bind rs rh q λd v h1 H1 k1 Ù Ê r1 ⟨i,e,q1⟩=>by subst e;exact⟨i,r1,p _ _ _ k1 Ê q1⟩
def slD:D->D4 P1->D4 P1->HD->KD->Prop:=λx lo hi h Q=>match x with
 | .tup ds=>Q (.tup (VH ds lo hi)) h
 | .scr ns=> ∀p,h p=none->Q (.lst p) (zK h p ((VH ns lo hi).map D.int))
 | .lst a=> ∃ds,h a=some ds/\ ∀p,h p=none->Q (.lst p) (zK h p (VH ds lo hi))
 |_=>False
def dSl (te:TED)(tl th:TOD):TED:=λσ h Q=>te σ h λx h1=>tl σ h1 λl h2=>th σ h2 λu h3=>slD x l u h3 Q
def Yl {K:G7}{H:Hp}{ds:G0 D}{vs:G0 V}(r:Á K H ds vs)(lo hi:D4 P1):Á K H (VH ds lo hi) (Mw vs lo hi):=by
 unfold VH Mw;rw [r.length];exact(r.drop _).take _
def FB {α β:Type}(f:α->β)(xs:G0 α)(lo hi:D4 P1):VH (xs.map f) lo hi=(VH xs lo hi).map f:=by
 unfold VH;rw [G3,iH,iI]
def AY {e:N3}{te:TED}{lo hi:D4 N3}{tl th:TOD}{pos p2:Pos}(he:QE X e te)(hl:QO X lo tl)(hu:QO X hi th):QE X (.Subscript e (.Slice lo hi none p2) pos) (dSl te tl th):=
 (MQ (X0v.or (X0b.or CL)) he hl hu).imp λσ H Q ⟨Æ,h,Qd,rs,rh,q,p⟩=>
  LE.bind rs rh q λd v h1 H1 k1 Ù Ê r1 q1=>LO.bind Ù Ê q1 λl h2 H2 k2 ĩ ê q2=>LO.bind ĩ ê q2 λu h3 H3 k3 ű Ď q3=>by
   have rv:=(r1.mono k2).mono k3;have kk:=k1.trans (k2.trans k3);cases d<;>first
    |exact False.elim q3
    |skip
   ·rename_i ds;obtain⟨a,vs,e1,hH,r⟩:=(show ∃a vs,v= .ref a/\H3 a=some (.tup vs)/\Á X.K H3 ds vs from rv)
    by_cases hw:HT.sIx vs.length 0 l=0/\HT.sIx vs.length vs.length u=vs.length
    ·refine .inr (.inl ⟨a,vs,e1,ö.of hH,hw,p (.tup (VH ds l u)) _ _ _ kk Ď ⟨a,vs,rfl,hH,?_⟩ q3⟩);have z:=Yl r l u;have e:Mw vs l u=vs:=by unfold Mw;rw [hw.1,hw.2];simp
     rwa [e] at z
    ·exact .inl ⟨a,vs,e1,ö.of hH,hw,λc hc=>p (.tup (VH ds l u)) _ _ _ (kk.trans (.new hc)) (Ď.new hc) ⟨c,_,rfl,jt,(Yl r l u).mono (.new hc)⟩ q3⟩
   ·rename_i a;obtain⟨ds,hd,q3⟩:=q3;obtain⟨vs,hH,r⟩:=Ď a ds hd;exact .inr (.inr ⟨a,vs,rv.1,è.of hH,λc hc=>p (.lst c) _ _ _ (kk.trans (.new hc)) (Ď.newL hc (Yl r l u)) ⟨rfl,_,jt⟩ (q3 c (Ď.free hc))⟩)
   ·rename_i ns;obtain⟨a,e1,hS⟩:=(show ∃a,v= .ref a/\Χ X.K H3 a ns from rv);refine .inr (.inr ⟨a,_,e1,hS.sq,λc hc=>p (.lst c) _ _ _ (kk.trans (.new hc)) (Ď.newL hc ?_) ⟨rfl,_,jt⟩ (q3 c (Ď.free hc))⟩);have z:=Yl (yX (K:=X.K) (H:=H3) ns) l u
    rwa [FB] at z
end L2
namespace HT
open PySem PySem.Spec PyProof.Rows
open Sem (wp)
open Builtin
def Zq:fillsNumberSlot (.type "tuple") "mul" =pure false:=
 PySem.fillsNumberSlot_seq (id:= "tuple.__mul__") (r:=some (.builtin "tuple.__rmul__")) F.slot_tuple_mul.lookup (by decide +kernel) F.slot_tuple_rmul.lookup (by decide +kernel)
def VI:G0A (.type "tuple")=pure (some (.builtin "tuple.__mul__")):=by
 unfold G0A;rw [sI (T:= "tuple") (name:= "__mul__") (id:= "tuple.__mul__") F.slot_tuple_mul.lookup (by decide +kernel),sI (T:= "tuple") (name:= "__rmul__") (id:= "tuple.__rmul__") F.slot_tuple_rmul.lookup (by decide +kernel)];rfl
section
variable {prog:T7}{w:C1}{A:N7}{E:G2->G5->Prop}{s:G5}
def Ym {k:P1}{t:Tok}{l:P2}{o:Obj}{its:S9 G2}{n:G6}{P:iE->G5->Prop}(at_:s.heap.get? l=some o)(tup:o.cls= .type "tuple")(dat:o.data= .seq its n)(h:P (.done (.ret .notImplemented)) s):R5 (S0 prog w) A (Builtin.«int.__rmul__» ⟨[.int k t,.ref l],[]⟩) P E s:=by
 obtain⟨c,dd,dt,sl⟩:=o;cases tup;cases dat;obtain⟨hp,g,d,tk,os⟩:=s
 wp_walk
 exact h
def UV {l:P2}{its:S9 G2}{n:G6}{x:P1}{u:Tok}{dd:D4 P2}{sl:S9 (D4 G2)}{P:iE->G5->Prop}(at_:s.heap.get? l=some {cls:= .type "tuple",dict:=dd,data:= .seq its n,slots:=sl})(fits: -(2^63)<=x/\x<2^63)
 (same:(its.isEmpty||x==1)=true->P (.done (.ret (.ref l))) s)
 (gone:(its.isEmpty||x==1)=false->(decide (x<=0)||its.isEmpty)=true->P (.done (.ret (.ref s.heap.objs.size))) {s with heap:=s.heap.push {cls:= .type "tuple",data:= .seq #[]}})
 (more:(its.isEmpty||x==1)=false->(decide (x<=0)||its.isEmpty)=false-> ¬ (its.size:P1)*x>(2^63-1) / 8/\j9 ((its.size:P1)*x)=false/\((B3 x.toNat its).foldl (· ++ ·) #[]).size<=sizeLine/\
  P (.done (.ret (.ref s.heap.objs.size))) {s with heap:=s.heap.push {cls:= .type "tuple",data:= .seq ((B3 x.toNat its).foldl (· ++ ·) #[])}}):
 R5 (S0 prog w) A (Builtin.«tuple.__mul__» ⟨[.ref l,.int x u],[]⟩) P E s:=by
 obtain⟨hp,g,d,tk,os⟩:=s
 wp_walk
 rw [S4 (by simp only [Y3,aK];omega)]
 wp_walk
 cases c1:(its.isEmpty||x==1) with
 |true=>
  rw [R9 rfl]
  wp_walk
  exact same c1
 |false=>
  rw [S4 D6];cases c2:(decide (x<=0)||its.isEmpty) with
  |true=>
   rw [R9 rfl]
   wp_walk
   exact gone c1 c2
  |false=>
   obtain⟨m1,m2,m3,m4⟩:=more c1 c2;rw [S4 D6];dsimp only;rw [S4 m1,m2,S4 D6]
   wp_walk
   exact m4
end
end HT
namespace L2
open PySem PySem.Spec PyProof.Rows
def TV (K:G7):R2:=λx y H Q=> ∃ (a:P2) (k:P1) (xs:G0 V),x= .ref a/\y= .int k/\ö K H a xs/\ -(2^63)<=k/\k<2^63/\xs.length*k.toNat<=sizeLine/\
 ((xs= []\/k=1)->Q (.ref a) H)/\(¬ (xs= []\/k=1)-> ∀p,H p=none->Q (.ref p) (upd H p (.tup (B3 k.toNat xs).flatten)))
def Zy {l:G0 G2}:l.toArray= #[]↔l= []:=by cases l<;>simp
variable {X:Cx}
def FC:ø X (Q5 .Mult) (TV X.K):=by
 intro À s σ H x y v u Q I rx ry h;obtain⟨a,k,xs,rfl,rfl,hH,h1,h2,hz,q1,q2⟩:=h;cases rx;obtain⟨t,rfl⟩:=ry;obtain⟨its,r,ht,_⟩:=I.tuple hH;obtain⟨⟨cls,dd,data,sl⟩,ho,hc,n,hd⟩:=id ht;simp only at hc hd;subst hc hd;have hl:=r.length;have X0T:(B3 k.toNat its.toArray).foldl (· ++ ·) #[]=(B3 k.toNat its).flatten.toArray:=by
  have:=ZF its k.toNat [];rw [E2] at this;exact this
 have few:its.length*k.toNat<=sizeLine:=by rw [<-hl];exact hz
 have free:=I.hok.fresh (P6 _);refine lO (T:= "tuple") (U:= "int") (by decide) ⟨_,ho,rfl⟩ (λs'=>nG s' k t) HT.Zq tH iT HT.VI F.slot_int_index.lookup
  (L6 iT (nG s k t) sH (HT.Ym ho rfl rfl ⟨_,rfl,rfl,⟨_,ho,rfl⟩,L6 F.slot_tuple_mul ⟨_,ho,rfl⟩ F.entry_tuple_mul (HT.UV ho ⟨h1,h2⟩ (λc=> ?_) (λc c0=> ?_) (λc c0=> ?_)) (F.args_tuple_mul_2 _ _)⟩) (rB _ _))
 ·refine⟨_,rfl,.ref a,H,I,rfl,q1 ?_⟩;simp only [Y3,beq_iff_eq,rC,Zy] at c;exact c.imp (λe=>r.nil_iff.mp e) id
 ·simp only [oX,beq_eq_false_iff_ne,k9,ne_eq,Zy] at c;have k0:k.toNat=0:=by
   simp only [Y3,aK,rC,Zy] at c0;have:=c0.resolve_right c.1;omega
  have last:=q2 (λz=>z.elim (λe=>c.1 (r.nil_iff.mpr e)) c.2) _ free;rw [k0] at last;exact⟨_,rfl,.ref s.heap.objs.size,_,I.laid (t':=s.toks) (o:= .tup []) (λb ob q=>G9 _ q) (P6 _) ⟨by decide,[],.nil,ì.new _ _⟩,rfl,last⟩
 ·simp only [oX,beq_eq_false_iff_ne,k9,ne_eq,Zy,decide_eq_false_iff_not] at c c0;have em:((its.toArray.size:G6):P1)*k=((its.length*k.toNat:G6):P1):=by rw [Int.natCast_mul,R4,show ((k.toNat:G6):P1)=k by omega]
  have cap:(sizeLine:G6)<=(2^63-1) / 8:=by decide
  rw [em,X0T];refine⟨by omega,by unfold j9;exact T3 (by omega),by rw [R4,US,V7];exact few,_,rfl,.ref s.heap.objs.size,_,I.laid (t':=s.toks) (o:= .tup (B3 k.toNat xs).flatten) (λb ob q=>G9 _ q) (P6 _) ⟨by rw [US,V7];exact hz,_,r.rep k.toNat,ì.new _ _⟩,rfl,q2 (λz=>z.elim (λe=>c.1 (r.nil_iff.mpr e)) c.2) _ free⟩
def Kk:RD2:=λx y h Q=>match x,y with
 | .tup ds,.int k=> -(2^63)<=k/\k<2^63/\ds.length*k.toNat<=sizeLine/\Q (.tup (B3 k.toNat ds).flatten) h
 |x,y=>Kh x y h Q
def Yn:ñ X (Q5 .Mult) Kk:=(X0x.or FC).imp λx y H Q ⟨dx,dy,h,Qd,rx,ry,rh,q,p⟩=>by
 by_cases ht: ∃ds k,dx= .tup ds/\dy= .int k
 ·obtain⟨ds,k,e1,e2⟩:=ht;subst e1 e2;obtain⟨b1,b2,hz,q⟩:=q;obtain⟨a,vs,e,hH,r⟩:=(show ∃a vs,x= .ref a/\H a=some (.tup vs)/\Á X.K H ds vs from rx);refine .inr ⟨a,k,vs,e,ry,ö.of hH,b1,b2,by rw [<-r.length];exact hz,λhs=> ?_,λ_ c hc=>p (.tup _) _ _ _ (.new hc) (rh.new hc) ⟨c,_,rfl,jt,(r.flat _).mono (.new hc)⟩ q⟩;refine p (.tup _) _ _ _ (.refl H) rh ⟨a,vs,rfl,hH,?_⟩ q;rcases hs with e0|e1
  ·subst e0;have:ds= []:=b9.mp r.length;subst this;simpa using r
  ·subst e1;simpa using r
 ·refine .inl ⟨dx,dy,h,Qd,rx,ry,rh,?_,p⟩;unfold Kk at q;split at q
  ·exact absurd ⟨_,_,rfl,rfl⟩ ht
  ·exact q
def TW:D->HD->KD->Prop:=λx h Q=>match x with
 | .int i=>Q (.int (-i)) h
 |_=>False
def dUn (f:D->HD->KD->Prop)(ta:TED):TED:=λσ h Q=>ta σ h λx h1=>f x h1 Q
def Kl {a:N3}{ta:TED}{pos:Pos}(ha:QE X a ta):QE X (.UnaryOp .USub a pos) (dUn TW ta):=
 (SY OW ha).imp λσ H Q ⟨Æ,h,Qd,rs,rh,t,p⟩=>LE.bind rs rh t λd v h1 H1 k1 Ù Ê r1 q=>by
  cases d<;>first
   |exact False.elim q
   |exact⟨_,r1,p (.int _) _ _ _ k1 Ê rfl q⟩
def Ç.rev: ∀ {xs:G0 V} {us:G0 G2},Ç xs us->Ç xs.reverse us.reverse
 |_,_,.nil=> .nil
 |_,_,.cons r t=>by rw [gM,gM];exact(Ç.rev t).append (.cons r .nil)
variable {K:G7}
def Á.rev {H:Hp}: ∀ {ds:G0 D} {vs:G0 V},Á K H ds vs->Á K H ds.reverse vs.reverse
 | [],_,h=>by cases (show _= [] from h);exact .nil
 |d::ds,vs,h=>by
  obtain⟨v,r,e,h1,h2⟩:=(show ∃v r,vs=v::r/\É K H d v/\Á K H ds r from h);subst e;rw [gM,gM];exact(Á.rev h2).append (.cons h1 .nil)
def AZ (K:G7)(tl:TE):TI:=λσ H R=>tl σ H λx H1=> ∃a,x= .ref a/\((∃xs,è K H1 a xs/\R (Itl K a) H1)\/ ∃xs,ö K H1 a xs/\R (Itt K a) H1)
def Ea {tg l:N3}{tl:TE}(hl:PE X l tl):PI X tg l (AZ X.K tl):=by
 intro À s σ H R I h;refine Ô (hl À s σ H _ I h) λv s1 ⟨x,H1,I1,r1,q1⟩=> ?_
 obtain⟨a,e,q⟩:=q1;subst e;cases r1;rcases q with ⟨xs,hq,q⟩|⟨xs,hq,q⟩
 ·obtain⟨its,rv,p,hz⟩:=I1.list hq;refine aJ p.isList ?_;refine⟨s1.heap.objs.size,[s1.heap.objs.size],_,_,H1,rfl,I1.kept (t':=s1.toks) λb o e=>G9 _ e,Vt a _,⟨_,S6 _ rfl,rfl,rfl⟩,λb hb=> ?_,q⟩;have e:b=s1.heap.objs.size:=by simpa using hb
  subst e;exact I1.fpOk (P6 _) (I1.hok.fresh (P6 _))
 ·obtain⟨its,rv,p,hz⟩:=I1.tuple hq;refine lA (show s1.heap.IsTuple a its.toArray from p) ?_;refine⟨s1.heap.objs.size,[s1.heap.objs.size],_,_,H1,rfl,I1.kept (t':=s1.toks) λb o e=>G9 _ e,Gb a _,⟨_,S6 _ rfl,rfl,rfl⟩,λb hb=> ?_,q⟩;have e:b=s1.heap.objs.size:=by simpa using hb
  subst e;exact I1.fpOk (P6 _) (I1.hok.fresh (P6 _))
def iS (te:TED):TID:=λσ h R=>te σ h λx h1=>match x with
 | .lst a=>R (λh=>h a) h1
 | .tup ds=>R (λ_=>some ds) h1
 | .scr ns=>R (λ_=>some (ns.map D.int)) h1
 |_=>False
def Nb {H:Hp}{a:P2}{ns:G0 P1}(hs:Χ K H a ns):Fi K H (λ_=>some (ns.map D.int)) (Itl K a):=λH' h' k rh ds' e i=>by
 cases e;have hs':Χ K H' a ns:=hs.elim (λ⟨o,z⟩=> .inl ⟨o,k.frz _ _ _ z⟩) .inr;refine⟨λd hd=> ?_,λhl=>⟨_,hs'.sq,by simpa using hl⟩⟩;obtain⟨v,e1,e2⟩:=(yX (K:=K) (H:=H') ns).get hd;refine⟨⟨_,v,hs'.sq,e1⟩,λx ļ ⟨eH,hx⟩=> ?_⟩;subst eH;have:=hx _ hs'.sq;rw [e1] at this;cases this;exact⟨.refl _,rh,e2⟩
variable {te:TED}
def Eb: ∀σ H R,LI K (iS te) σ H R->AZ K (LE K te) σ H R:=λσ H R ⟨Æ,h,Rd,rs,rh,q,p⟩=>
 LE.bind rs rh q λd v h1 H1 k1 Ù Ê r1 q1=>by
  cases d<;>first
   |exact False.elim q1
   |skip
  ·rename_i ds;obtain⟨a,vs,e,hv,r⟩:=(show ∃a vs,v= .ref a/\H1 a=some (.tup vs)/\Á K H1 ds vs from r1);exact⟨a,e,.inr ⟨vs,ö.of hv,p _ _ _ _ k1 Ê (MX hv r) q1⟩⟩
  ·rename_i a;obtain⟨e,vs,hv⟩:=(show v= .ref a/\ ∃vs,H1 a=some (.lst vs) from r1);exact⟨a,e,.inl ⟨vs,è.of hv,p _ _ _ _ k1 Ê (VD H1 a) q1⟩⟩
  ·rename_i ns;obtain⟨a,e,hS⟩:=(show ∃a,v= .ref a/\Χ K H1 a ns from r1);exact⟨a,e,.inl ⟨_,hS.sq,p _ _ _ _ k1 Ê (Nb hS) q1⟩⟩
def Ec {tg e:N3}(he:QE X e te):QI X tg e (iS te):=(Ea he).imp Eb
def BC:TSD:=λ_ _ _=>False
def Ed {st:Q2}:QS X st BC:=λ_ _ _ _ _ _ ⟨_,_,_,_,_,z,_⟩=>z.elim
structure Zs (mg:Str->D4 G2):Prop where
 len:mg "len" =none
 max:mg "max" =none
 min:mg "min" =none
 divmod:mg "divmod" =none
 all:mg "all" =none
 any:mg "any" =none
 repr:mg "repr" =none
 sum:mg "sum" =none
 sorted:mg "sorted" =none
 int:mg "int" =none
 tuple:mg "tuple" =none
 list:mg "list" =none
 set:mg "set" =none
 bool:mg "bool" =none
 isinstance:mg "isinstance" =none
 range:mg "range" =none
 zip:mg "zip" =none
 enumerate:mg "enumerate" =none
 reversed:mg "reversed" =none
def jC (P:T7)(w:C1)(K:G7)(mg:Str->D4 G2)(base:A7)(n:G6)(x:Str)(ps:G0 Str)(sp:RDn):Prop:=
 ∃ (g:P2) (gd:C6),Ò P w K mg base í n g gd ps (õ K sp)/\Binds K gd ps []/\b7 K (.ref g)=true/\mg x=some (.ref g)
def PR:RDn:=λds h Q=> ∃ns,ds= [.scr ns]/\(∀a,h a=none)/\ns.length<=63/\ ∀h',Q (.bl true) h'
def Bm (mg:Str->D4 G2)(base:A7):Prop:= ∃bm ob,mg "__builtins__" =some (.ref bm)/\bm≠m7/\base.get? bm=some ob/\ob.cls= .type "module" /\ob.dict=some m7/\ob.data= .plain
noncomputable def wg (K:G7):G0 (P2×P2):=LN.filterMap (qA K)
def X0Z.mem {P:P2}(h:X0Z K P): ∃c,(c,P)∈wg K:=let ⟨x,hx,c,e⟩:=h;⟨c,cH.mpr ⟨x,hx,e⟩⟩
def PU {P:T7}{w:C1}{mg mb:Str->D4 G2}{k:G6}{fa a:P2}{fd:C6}{x:Str}{s₁:G5}{vs:G0 G2}{ns:G0 P1}
 (KX:K.In s₁.heap)(hns:s₁.heap.Ns K3 mg)(hb:s₁.heap.Ns m7 mb)(hbb: ∀x:Str,x≠ "__name__" ->mb x=V5 x)(X1q:s₁.heap.NoLimit)(hg:s₁.gens= #[])
 (ha:s₁.heap.get? a=some {cls:= .type "list",data:= .seq vs.toArray})(hi:iZ vs ns)(hl:ns.length<=63)(hr:á k pP)
 (hbm:Bm mg s₁.heap)(F: ∀base:A7,K.In base->base.Ns K3 mg->Bm mg base->Ò P w K mg base í k fa fd [x] (õ K PR))(X02: ∀ (s:G5) (u:G2),tY s fd ⟨[u],[]⟩ [(x,u)])
 (hT: ∀p∈wg K,uM s₁.heap p.1 p.2/\s₁.heap.get? p.2=some (oY #[])/\K.lookup p.2=none):
 bJ (S0 P w) pP (.call (.ref fa) ⟨[.ref a],[]⟩) (λr s'=>r= .ok (.ret (.bool true))/\OldK s₁.heap s'.heap/\s'.os=s₁.os/\l8 s'.gens) s₁:=by
 have rv:=VB hi;have X1r:=hi.length;have hz:ns.length<=sizeLine:=R8 hl (by decide);have hT': ∀b,b∈(wg K).map (·.2)-> ∃c,uM s₁.heap c b/\s₁.heap.get? b=some (oY #[])/\K.lookup b=none:=λb hb=>by
  obtain⟨p,hp,rfl⟩:=R6.mp hb;exact⟨p.1,hT p hp⟩
 have core: ∀H:Hp,Χ K H a ns->Ē P w H s₁.heap->(∀b u,H b=some u->(b=a/\K.lookup a=none/\ ∃o xs,u= .frz o (.lst xs))\/(b∈(wg K).map (·.2)/\u= .tbl #[]))->(∀b,b∈(wg K).map (·.2)->H b=some (.tbl #[]))->
  bJ (S0 P w) pP (.call (.ref fa) ⟨[.ref a],[]⟩) (λr s'=>r= .ok (.ret (.bool true))/\OldK s₁.heap s'.heap/\s'.os=s₁.os/\l8 s'.gens) s₁:=by
  intro H hS hok hA hTt;have noA: ∀ {b:P2} {o:Obj} {es:S9 dP} {ep:G6},s₁.heap.get? b=some o->o.data= .dict es ep->H b=none:=λ{b o es ep} e d=>by
   cases q:H b with
   |none=>rfl
   |some u=>
    rcases hA b u q with ⟨rfl,_,_⟩|⟨z,_⟩
    ·rw [ha] at e;cases e;have d':Data.seq vs.toArray _=Data.dict es ep:=d;cases d'
    ·obtain⟨c,_,e2,_⟩:=hT' b z;rw [e2] at e;cases e;have d':Data.fields _=Data.dict es ep:=d;cases d'
  have nsK: ∀ {b:P2} {m:Str->D4 G2},s₁.heap.Ns b m->(MC s₁.heap H).Ns b m:=λ{b m} ⟨o,es,ep,e,d,r⟩=>⟨o,es,ep,Yb e (noA e d),d,r⟩
  have hKb:K.In (MC s₁.heap H):=λb o e=>Yb (KX b o e) (by
   cases q:H b with
   |none=>rfl
   |some u=>
    rcases hA b u q with ⟨rfl,z,_⟩|⟨z,_⟩
    ·rw [z] at e;cases e
    ·obtain⟨c,_,_,z2⟩:=hT' b z;rw [z2] at e;cases e)
  have hM:Mod K mg (MC s₁.heap H):=⟨hKb,nsK hns,⟨mb,nsK hb,hbb⟩,let ⟨mc,h1,h2⟩:=X1q;⟨mc,nsK h1,h2⟩⟩;have e0:X0F P w K mg (MC s₁.heap H) pP [] s₁ H:=⟨rfl,hM,λb o e=>Cq e,J0 (GX _ _),trivial,λb hb=>absurd (show b∈([]:G0 P2) from hb) (by simp),hok,.of_eq hg⟩;have hsp:õ K PR [.ref a] H (λv _=>v= .bl true) (λ_ _ _=>False):=by
   refine⟨[.scr ns],⟨λ_=>none,λ_=>none⟩,λd _=>d= .bl true,⟨.ref a,[],rfl,⟨a,rfl,hS⟩,rfl⟩,⟨λb ds e=>(by cases e),λp hp=> ?_,λb c e=>(by cases e)⟩,⟨ns,rfl,λ_=>rfl,hl,λ_=>rfl⟩,?_⟩
   ·obtain⟨c,hc⟩:=hp.mem;exact⟨#[],hTt p (bZ (f:=(·.2)) hc),trivial,λpos cv e=>(by cases e)⟩
   ·intro d v h' H' _ _ r e;subst e;exact r
  have hBm:Bm mg (MC s₁.heap H):=by
   obtain⟨bm,ob,b1,b2,b3,b4,r⟩:=hbm;refine⟨bm,ob,b1,b2,Yb b3 ?_,b4,r⟩;cases q:H bm with
   |none=>rfl
   |some u=>
    rcases hA bm u q with ⟨rfl,_,_⟩|⟨z,_⟩
    ·rw [ha] at b3;cases b3;exact absurd (Value.type.inj b4) (by decide)
    ·obtain⟨c,_,e2,_⟩:=hT' bm z;rw [e2] at b3;cases b3;cases b4
  refine nB ((F _ hKb (nsK hns) hBm).run pP [] s₁ H ⟨[.ref a],[]⟩ [.ref a] [.ref a] _ _ hr e0 (X02 s₁ (.ref a)) (.cons rfl .nil) hsp) λr s' h=> ?_
  cases r with
  |error e=>exact False.elim h
  |ok fl=>
   cases fl with
   |next=>exact False.elim h
   |brk=>exact False.elim h
   |cont=>exact False.elim h
   |ret u=>
    obtain⟨v,H',os,bare,un,X1d,r',q⟩:=h;have q':v= .bl true:=q;subst q';obtain rfl:u=fV true:=r';have one: ∀b o,s₁.heap.get? b=some o->s'.heap.get? b=some o\/(b∈(wg K).map (·.2)/\ ∃more,s'.heap.get? b=some (oY more)):=λb o e=>by
     cases q:H b with
     |none=>exact .inl (un.keep b o e q (by intro z;exact absurd (show b∈([]:G0 P2) from z) (by simp)) (by simp))
     |some u=>
      rcases hA b u q with ⟨rfl,_,ob,xs,rfl⟩|⟨z,rfl⟩
      ·have z2:=un.frzs _ ob _ q;obtain⟨e1,_⟩:=hok _ _ q;obtain⟨e2,_⟩:=X1d _ _ z2;rw [e] at e1;cases e1;exact .inl e2
      ·obtain⟨more,z2⟩:=un.tbls b _ q;exact .inr ⟨z,_,(show s'.heap.get? b=some _ from X1d b _ z2)⟩
    refine⟨rfl,⟨λb o e=> ?_,λb o e=> ?_⟩,os,bare⟩
    ·rcases one b o e with z|⟨z,more,z2⟩
     ·exact .inl z
     ·obtain⟨c,hc,e2,_⟩:=hT' b z;rw [e] at e2;cases e2;refine .inr (.inl ⟨(hc.tab e).isCodeTable,rfl,#[],more,rfl,?_⟩);rw [z2];simp
    ·rcases one b o e with z|⟨z,more,z2⟩
     ·exact⟨_,z⟩
     ·exact⟨_,z2⟩
 have nT:a ∉ (wg K).map (·.2):=λz=>by
  obtain⟨c,_,e2,_⟩:=hT' a z;rw [ha] at e2;cases e2
 have okT: ∀ {H:Hp} (b:P2),b∈(wg K).map (·.2)->Ø P w H s₁.heap b (.tbl #[]):=λb hb=>let ⟨_,_,e,_⟩:=hT' b hb;e
 cases hk:K.lookup a with
 |some o=>
  have e:=KX a o hk;rw [ha] at e;cases e;refine core (λb=>if b∈(wg K).map (·.2) then some (.tbl #[]) else none) (.inr ⟨_,vs.toArray,_,hk,rfl,rfl,rfl,by rw [R4,X1r];exact hz,by simpa using rv⟩) (λb u z=> ?_) (λb u z=> ?_) λb hb=>R9 hb
  ·by_cases hb:b∈(wg K).map (·.2)
   ·have z':=(R9 hb).symm.trans z;cases z';exact okT b hb
   ·have z':=(S4 hb).symm.trans z;cases z'
  ·by_cases hb:b∈(wg K).map (·.2)
   ·have z':=(R9 hb).symm.trans z;cases z';exact .inr ⟨hb,rfl⟩
   ·have z':=(S4 hb).symm.trans z;cases z'
 |none=>
  refine core (λb=>if b=a then some (.frz {cls:= .type "list",data:= .seq vs.toArray} (.lst (ns.map V.int))) else if b∈(wg K).map (·.2) then some (.tbl #[]) else none) (.inl ⟨{cls:= .type "list",data:= .seq vs.toArray},R9 rfl⟩) (λb u z=> ?_) (λb u z=> ?_) λb hb=> ?_
  ·by_cases hb:b=a
   ·have z':=(R9 hb).symm.trans z;cases z';subst hb;exact⟨ha,by rw [G3];exact hz,vs,_,rv,ha⟩
   ·have z':=(S4 hb).symm.trans z
    by_cases hb2:b∈(wg K).map (·.2)
    ·have z2:=(R9 hb2).symm.trans z';cases z2;exact okT b hb2
    ·have z2:=(S4 hb2).symm.trans z';cases z2
  ·by_cases hb:b=a
   ·have z':=(R9 hb).symm.trans z;cases z';exact .inl ⟨hb,hk,_,_,rfl⟩
   ·have z':=(S4 hb).symm.trans z
    by_cases hb2:b∈(wg K).map (·.2)
    ·have z2:=(R9 hb2).symm.trans z';cases z2;exact .inr ⟨hb2,rfl⟩
    ·have z2:=(S4 hb2).symm.trans z';cases z2
  ·have:b≠a:=λz=>nT (z ▸ hb)
   show (if b=a then _ else _)=_;rw [S4 this,R9 hb]
noncomputable def TX (q:T7)(K:G7):N4:=LN.all λx=>match qA K x with
 |some p=>(K.lookup p.2).isNone&&((G0j q).find? (λe=>e.name==x)).isSome
 |none=>true
def Nc {l:tL}{k:G6}{q:T7}{loose:G0 Str}{XP:(Str->D4 G2)->A7->Prop}{YP:C1->A7->Prop}{d:DefRec}{K:G1b->G7}{x:Str}(hn:l.most=some 63)(hdf:d.params.defaults= [])(hr:á k pP)
 (hY: ∀ (w:C1) (h:A7),YP w h->(K w.params).In h)(hB: ∀w:C1,TX q (K w.params)=true)
 (F: ∀ (w:C1) (mg:Str->D4 G2) (fa:P2) (h:A7),(K w.params).In h->h.Ns K3 mg->mg d.name=some (.ref fa)->
  ∃fd:C6,(∀ (s:G5) (u:G2),tY s fd ⟨[u],[]⟩ [(x,u)])/\ ∀base:A7,(K w.params).In base->base.Ns K3 mg->Bm mg base->Ò l.prog w (K w.params) mg base í k fa fd [x] (õ (K w.params) PR)):
 G1l q loose XP YP l.row.toRowW d [] (λf vs=>G0y f vs):=by
 refine Att.attach_call hn hdf λw s₀ s₁ mg mb fa o pm cd doc a vs ns G Y ho hd hcd hmg X0U hints hlen hg=> ?_
 have KX:=hY w _ Y;obtain⟨fd,hb,hF⟩:=F w mg fa _ KX G.T.g hmg;refine PU KX G.T.g G.T.b G.T.builtins G.T.nolimit hg X0U hints hlen hr G.T.bmain hF hb λp hp=> ?_
 obtain⟨x,hx,e⟩:=cH.mp hp;have z:=S8.mp (hB w) x hx;rw [e] at z;simp only [F4,lQ] at z;obtain⟨dd,hdd⟩:=fA.mp z.2;have t:=G1c (c:=p.1) (P:=p.2) G.T KX hdd e;exact⟨t.1,t.2,z.1⟩
noncomputable def zi:N3->N4
 | .Starred .. =>false
 |_=>true
def UW {e:N3}{es:G0 N3}{env:Env}(h:zi e=true):S5 (e::es) env=(false,K0 e env)::S5 es env:=by
 cases e<;>first|rfl|cases h
def qac {e:N3}{es:G0 N3}{t:TAD}(ha:QE X e te)(hr:QA X es t)(h:zi e=true:=by rfl):QA X (e::es) (zA te t):=Fb ha hr (UW h)
def ZM {α:Type}{xs:G0 α}{i:P1}(h0:0<=i)(h1:i<xs.length): ∃x∈xs,ć xs i=some x:=by
 have hk:i.toNat<xs.length:=by omega
 have ek:i=((i.toNat:G6):P1):=by omega
 have z:=zY (G1 hk);rw [<-ek] at z;exact⟨xs[i.toNat],N0 hk,z⟩
variable {h h':HD}{p:P2}{L:G0 D}
def Sub.newAt (s:Sub h h')(e:h' p=none):Sub h (zK h' p L):=s.trans (.new e)
structure ò (p:P2)(h h':HD):Prop where
 ls: ∀a ds,a≠p->h a=some ds->h' a=some ds
 dc: ∀a c,h.dc a=some c->h'.dc a=some c
instance {p:P2}{h h':HD}:CoeFun (ò p h h') λ_=> ∀a ds,a≠p->h a=some ds->h' a=some ds:=⟨ò.ls⟩
def ò.refl (p:P2)(h:HD):ò p h h:=⟨λ_ _ _ e=>e,λ_ _ e=>e⟩
variable {q:P2}
def ò.new (s:ò p h h')(e:h' q=none):ò p h (zK h' q L):=⟨λa ds n z=>(by
 have:=s a ds n z;rw [wv (λw=>by subst w;rw [e] at this;cases this)];exact this),s.dc⟩
def ò.put (s:ò p h h'):ò p h (zK h' p L):=⟨λa ds n z=>(by rw [wv n];exact s a ds n z),s.dc⟩
def ò.putNew (s:ò p h h')(e:h q=none):ò p h (zK h' q L):=⟨λa ds n z=>(by
 rw [wv (λw=>by subst w;rw [e] at z;cases z)];exact s a ds n z),s.dc⟩
def ò.sub (s:ò p h h')(e:h' p=some L):Sub (zK h p L) h':=⟨λa ds z=>(by
 by_cases q:a=p
 ·subst q;rw [jc] at z;cases z;exact e
 ·rw [wv q] at z;exact s a ds q z),s.dc⟩
def ò.upd:ò p h (zK h p L):=⟨λa ds n z=>(by rw [wv n];exact z),λ_ _ e=>e⟩
def jq (e:h p=some L)(f:h q=none):q≠p:=λz=>by subst z;rw [e] at f;cases f
def jd {M:G0 D}(e:h p=some L)(f:h q=none):zK h q M p=some L:=by rw [wv (λz=>by subst z;rw [e] at f;cases f)];exact e
def jf {a b:P2}{M:G0 D}(n:b≠a)(e:h b=some M):zK h a L b=some M:=by rw [wv n];exact e
def VJ {n:G6}{i:G6}{d:D}(h:((P5 n).map λ(k:G6)=>D.int (k:P1))[i]? =some d):i<n/\d= .int i:=by
 rw [P9] at h
 by_cases hi:i<n
 ·rw [J1 hi] at h;cases h;exact⟨hi,rfl⟩
 ·rw [L0 (by simpa using hi)] at h;cases h
variable {E:EndsD}{σ:SD}
def jg {t u:TSD}(V:SD->HD->Prop)(first: ∀K:SD->HD->Prop,(∀Â h',V Â h'->K Â h')->t {E with nx:=K} σ h)(rest: ∀Â h',V Â h'->u E Â h'):vh t u E σ h:=first (u E) rest
def ZN (b:ò p h h')(e:h' q=none)(n:q≠p):h q=none:=by
 cases z:h q with
 |none=>rfl
 |some ds=>rw [b q ds n z] at e;cases e
noncomputable def Nxt (E:EndsD)(V:SD->HD->Prop):EndsD:= {E with nx:=λā h3=> ∃h4,Sub h4 h3/\V ā h4,ct:=λā h3=> ∃h4,Sub h4 h3/\V ā h4,bk:=E.nx}
variable {h1:HD}
def Jz {ta:TAD}{g:TGD}{tb:TSD}(n:G6)(W:G6->SD->HD->Prop)(hn:n<1000000)
 (ht: ∀R:G0 D->HD->Prop,R [.int (n:P1)] h1->ta σ h R)(w0:W 0 σ h1)(done: ∀Â h',W n Â h'->E.nx Â h')
 (turn: ∀i Â h',i<n->W i Â h'->g (.int (i:P1)) Â h' λà h2=>tb (Nxt E λā h4=>i+1<=n/\W (i+1) ā h4) à h2):AH (iR1 ta) g tb E σ h:=by
 refine ht _ ⟨(n:P1),rfl,by omega,by omega,n,λi Â h'=>i<=n/\W i Â h',⟨N9 _,w0⟩,?_⟩;rintro i Â h' ⟨hi,w⟩;refine⟨_,rfl,by simp,λhl=> ?_,λd hd=> ?_⟩
 ·have:i=n:=by simp at hl;omega
  subst this;exact done _ _ w
 ·obtain⟨hi',e⟩:=VJ hd;have hi2:i<n:=by omega
  subst e;exact turn i Â h' hi2 w
def yY {ti:TID}{g:TGD}{tb:TSD}{j:ItD}(ds:G0 D)(W:G6->SD->HD->Prop)
 (ht: ∀R:ItD->HD->Prop,R j h1->ti σ h R)(hj: ∀i Â h',W i Â h'->j h'=some ds)(w0:W 0 σ h1)(done: ∀Â h',W ds.length Â h'->E.nx Â h')
 (turn: ∀i d Â h',ds[i]? =some d->W i Â h'->g d Â h' λà h2=>tb (Nxt E λā h4=>i+1<=ds.length/\W (i+1) ā h4) à h2):AH ti g tb E σ h:=by
 refine ht _ ⟨ds.length,λi Â h'=>i<=ds.length/\W i Â h',⟨N9 _,w0⟩,?_⟩;rintro i Â h' ⟨hi,w⟩;refine⟨ds,hj i Â h' w,P6 _,λhl=> ?_,λd hd=>turn i d Â h' hd w⟩;have:i=ds.length:=by omega
 subst this;exact done _ _ w
def PV {g:TGD}{tb:TSD}{j:ItD}(ds:G0 D)(W:G6->SD->HD->Prop)
 (hj: ∀i Â h',W i Â h'->j h'=some ds)(w0:W 0 σ h1)(done: ∀Â h',W ds.length Â h'->E.nx Â h')
 (turn: ∀i d Â h',ds[i]? =some d->W i Â h'->g d Â h' λà h2=>tb (Nxt E λā h4=>i+1<=ds.length/\W (i+1) ā h4) à h2):
 ∃ (n:G6) (W:G6->SD->HD->Prop),W 0 σ h1/\ ∀i Â h',W i Â h'-> ∃ds,j h'=some ds/\ds.length<=n/\(ds.length<=i->E.nx Â h')/\
  ∀d,ds[i]? =some d->g d Â h' λà h2=>tb {E with nx:=λā h3=> ∃h4,Sub h4 h3/\W (i+1) ā h4,ct:=λā h3=> ∃h4,Sub h4 h3/\W (i+1) ā h4,bk:=E.nx} à h2:=by
 refine⟨ds.length,λi Â h'=>i<=ds.length/\W i Â h',⟨N9 _,w0⟩,?_⟩;rintro i Â h' ⟨hi,w⟩;refine⟨ds,hj i Â h' w,P6 _,λhl=> ?_,λd hd=>turn i d Â h' hd w⟩;have:i=ds.length:=by omega
 subst this;exact done _ _ w
def BD {i:G6}{js:G0 G6}{ta:TAD}{Q:KD}(n:G6)(W:G6->G0 D->HD->Prop)(hn:n<=1000)(ht: ∀R:G0 D->HD->Prop,R [.int (n:P1)] h1->ta σ h R)
 (w0:W 0 [] h1)(wl: ∀k ys h',W k ys h'->ys.length=k)(turn: ∀k ys h',k<n->W k ys h'->te ((jR js σ).set i (some (.int (k:P1)))) h' λy h4=> ∃h5,Sub h5 h4/\(k+1<=n/\W (k+1) (ys++ [y]) h5))
 (done: ∀ys h',W n ys h'-> ∀p,h' p=none->Q (.lst p) (zK h' p ys)):vY (bN i) js (iR1 ta) vX te σ h Q:=by
 refine ht _ ⟨(n:P1),rfl,by omega,by omega,n,λk ys h'=>k<=n/\W k ys h',⟨N9 _,w0⟩,?_⟩;rintro k ys h' ⟨hk,w⟩;refine⟨by rw [wl k ys h' w];exact T8 (zb (by omega)),_,rfl,by simp,λhl p hp=> ?_,λd hd=>⟨_,rfl,?_⟩⟩
 ·have:k=n:=by simp at hl;omega
  subst this;exact done ys h' w p hp
 ·obtain⟨hi',e⟩:=VJ hd;subst e;unfold vX;dsimp only;rw [R9 rfl];exact turn k ys h' (by omega) w
end L2
namespace L2
open PySem PySem.Spec PyProof.Rows PySem.SeqAt
mutual
def Ķ (h:HD):D->V8->Prop
 |d,.none=>d= .non
 |d,.bool b=>d= .bl b
 |d,.int i=>d= .int i
 |d,.str x=>d= .str x
 |d,.tuple ps=> ∃ds,d= .tup ds/\ġ h ds ps
 |d,.list ps=> ∃a ds,d= .lst a/\h a=some ds/\ġ h ds ps
 |_,.dict _=>False
def ġ (h:HD):G0 D->G0 V8->Prop
 |ds,[]=>ds= []
 |ds,p::ps=> ∃d r,ds=d::r/\Ķ h d p/\ġ h r ps
end
section
variable {X:Cx}{À:G0 (P2×Obj)}{σ:St}{H:Hp}{s:G5}{h:HD}
mutual
theorem ww (I:Inv X À σ H s)(rh:È X.K h H): ∀ {p:V8} {d:D} {v:V} {u:G2},Ķ h d p->É X.K H d v->RelV v u-> ∃as,Reads s.heap u p as
 | .none,d,v,u,t,r,ru=>by cases (show d= .non from t);cases (show v= .non from r);cases (show u= .none from ru);exact⟨[],.none⟩
 | .bool b,d,v,u,t,r,ru=>by cases (show d= .bl b from t);cases (show v= .bl b from r);cases (show u= .bool b from ru);exact⟨[],.bool b⟩
 | .int i,d,v,u,t,r,ru=>by cases (show d= .int i from t);cases (show v= .int i from r);obtain⟨k,rfl⟩:=(show ∃t,u=mR i t from ru);exact⟨[],.int i k⟩
 | .str x,d,v,u,t,r,ru=>by cases (show d= .str x from t);cases (show v= .str x from r);obtain⟨k,rfl⟩:=(show ∃t,u=sC x t from ru);exact⟨[],.str x k⟩
 | .tuple ps,d,v,u,t,r,ru=>by
  obtain⟨ds,e,ts⟩:=(show ∃ds,d= .tup ds/\ġ h ds ps from t);subst e;obtain⟨a,vs,e,hH,rs⟩:=(show ∃a vs,v= .ref a/\H a=some (.tup vs)/\Á X.K H ds vs from r);subst e;cases (show u= .ref a from ru);obtain⟨its,rv,ht,_⟩:=I.tuple (ö.of hH);obtain⟨o,ho,hc,n,hd⟩:=ht;obtain⟨as,q⟩:=ı I rh ts rs rv;exact⟨as,.tuple ho hc hd q⟩
 | .list ps,d,v,u,t,r,ru=>by
  obtain⟨a,ds,e,ha,ts⟩:=(show ∃a ds,d= .lst a/\h a=some ds/\ġ h ds ps from t);subst e;obtain⟨vs,hH,rs⟩:=rh a ds ha;have e:v= .ref a:=r.1;subst e;cases (show u= .ref a from ru);obtain⟨its,rv,pl,_⟩:=I.list (è.of hH);obtain⟨o,ho,hc,n,hd⟩:=pl.isList;obtain⟨as,q⟩:=ı I rh ts rs rv;exact⟨a::as,.list ho hc hd q⟩
 | .dict _,_,_,_,t,_,_=>(show False from t).elim
theorem ı (I:Inv X À σ H s)(rh:È X.K h H): ∀ {ps:G0 V8} {ds:G0 D} {vs:G0 V} {us:G0 G2},ġ h ds ps->Á X.K H ds vs->Ç vs us-> ∃as,ReadsAll s.heap us ps as
 | [],ds,vs,us,t,r,rv=>by
  cases (show ds= [] from t);cases (show vs= [] from r);cases rv;exact⟨[],.nil⟩
 |p::ps,ds,vs,us,t,r,rv=>by
  obtain⟨d,dr,e,t1,t2⟩:=(show ∃d r,ds=d::r/\Ķ h d p/\ġ h r ps from t);subst e;obtain⟨v,vr,e,r1,r2⟩:=(show ∃v r,vs=v::r/\É X.K H d v/\Á X.K H dr r from r);subst e;cases rv with
  |cons ru rt=>
   obtain⟨as,q1⟩:=ww I rh t1 r1 ru;obtain⟨bs,q2⟩:=ı I rh t2 r2 rt;exact⟨as++bs,.cons q1 q2⟩
end
end
def eqE:RD2:=λx y h Q=>match x,y with
 | .int i,.int j=>Q (.bl (decide (i=j))) h
 | .bl i,.bl j=>Q (.bl (decide (i=j))) h
 | .str i,.str j=>Q (.bl (decide (i=j))) h
 |x,y=> ∃p q,Ķ h x p/\Ķ h y q/\shaped p=true/\shaped q=true/\Q (.bl (K5 p q)) h
def neE:RD2:=λx y h Q=>match x,y with
 | .int i,.int j=>Q (.bl (!decide (i=j))) h
 | .bl i,.bl j=>Q (.bl (!decide (i=j))) h
 | .str i,.str j=>Q (.bl (!decide (i=j))) h
 |x,y=> ∃p q,Ķ h x p/\Ķ h y q/\shaped p=true/\shaped q=true/\Q (.bl (!K5 p q)) h
section
variable {X:Cx}
def eqG:RD2:=λx y h Q=> ∃p q,Ķ h x p/\Ķ h y q/\shaped p=true/\shaped q=true/\Q (.bl (K5 p q)) h
def neG:RD2:=λx y h Q=> ∃p q,Ķ h x p/\Ķ h y q/\shaped p=true/\shaped q=true/\Q (.bl (!K5 p q)) h
def Ee (hu:X.A.units+64<cLine):ñ X (B9 .Eq) eqG:=by
 intro À s σ H x y v u Q I rx ry h;obtain⟨dx,dy,h,Qd,r1,r2,rh,⟨p,q,t1,t2,s1,s2,qq⟩,post⟩:=h;obtain⟨as,a1⟩:=ww I rh t1 r1 rx;obtain⟨bs,b1⟩:=ww I rh t2 r2 ry;exact compareEq_shaped a1 b1 s1 s2 hu ⟨.bl _,H,I,rfl,post (.bl _) _ _ _ (.refl H) rh rfl qq⟩
def Ef (hu:X.A.units+64<cLine):ñ X (B9 .NotEq) neG:=by
 intro À s σ H x y v u Q I rx ry h;obtain⟨dx,dy,h,Qd,r1,r2,rh,⟨p,q,t1,t2,s1,s2,qq⟩,post⟩:=h;obtain⟨as,a1⟩:=ww I rh t1 r1 rx;obtain⟨bs,b1⟩:=ww I rh t2 r2 ry;exact compareNe_shaped a1 b1 s1 s2 hu ⟨.bl _,H,I,rfl,post (.bl _) _ _ _ (.refl H) rh rfl qq⟩
def ñ.or' {f:G2->G2->Sem G2}{r r' r2:RD2}(h:ñ X f r)(h':ñ X f r')(i: ∀x y hh Q,r2 x y hh Q->r x y hh Q\/r' x y hh Q):ñ X f r2:=λÀ s σ H x y v u Q I rx ry ⟨dx,dy,hd,Qd,r1,r2',rh,q,p⟩=>
 (i dx dy hd Qd q).elim (λz=>h À s σ H x y v u Q I rx ry ⟨dx,dy,hd,Qd,r1,r2',rh,z,p⟩) λz=>h' À s σ H x y v u Q I rx ry ⟨dx,dy,hd,Qd,r1,r2',rh,z,p⟩
def PX (hu:X.A.units+64<cLine):ñ X (B9 .Eq) eqE:=ĉ.or' (Ee hu) λx y h Q q=>by
 unfold eqE at q;split at q
 ·exact .inl q
 ·exact .inl q
 ·exact .inl q
 ·exact .inr q
def BE (hu:X.A.units+64<cLine):ñ X (B9 .NotEq) neE:=ņ.or' (Ef hu) λx y h Q q=>by
 unfold neE at q;split at q
 ·exact .inl q
 ·exact .inl q
 ·exact .inl q
 ·exact .inr q
noncomputable def isN:D->N4
 | .non=>true
 |_=>false
def isV (neg:N4):RD2:=λx y h Q=>match y with
 | .non=>Q (.bl (neg !=isN x)) h
 | .bl c=>match x with
  | .bl b=>Q (.bl (neg !=(b==c))) h
  | .non=>Q (.bl neg) h
  |_=>False
 |_=>False
def PY {K:G7}{H:Hp}{d:D}{v:V}(r:É K H d v):decide (v=V.non)=isN d:=by
 cases d with
 |non=>cases (show v= .non from r);rfl
 |bl b=>cases (show v= .bl b from r);rfl
 |int b=>cases (show v= .int b from r);rfl
 |str b=>cases (show v= .str b from r);rfl
 |tup ds=>obtain⟨a,vs,e,_⟩:=(show ∃a vs,v= .ref a/\H a=some (.tup vs)/\Á K H ds vs from r);subst e;rfl
 |lst a=>cases (show v= .ref a from r.1);rfl
 |dic x i=>obtain⟨a,e,_⟩:=(show ∃a,v= .ref a/\H a=some (.dK [(dN x,V.int i)]) from r);subst e;rfl
 |dct a=>cases (show v= .ref a from r);rfl
 |scr ns=>obtain⟨a,e,_⟩:=(show ∃a,v= .ref a/\Χ K H a ns from r);subst e;rfl
 |exc C=>obtain⟨x,o,vs,e,_⟩:=(show ∃x o vs,v= .ref x/\H x=some (.frz o (.own 0))/\o.cls= .ref C/\o.data= .fields vs from r);subst e;rfl
 |fn a=>cases (show v= .ref a from r.1);rfl
 |exf C fs=>obtain⟨x,o,vs,e,_⟩:=(show ∃x o vs,v= .ref x/\H x=some (.frz o (.own 0))/\o.cls= .ref C/\o.data= .fields vs/\Μ H o.dict fs from r);subst e;rfl
def TY:ñ X (B9 .Is) (isV false):=by
 intro À s σ H x y v u Q I rx ry h;obtain⟨dx,dy,h,Qd,r1,r2,rh,q,post⟩:=h;cases dy with
 |non=>
  have e:y= .non:=r2;subst e;refine OX À s σ H x .non v u Q I rx ry ⟨rfl,?_⟩;rw [PY r1];have q':Qd (.bl (isN dx)) h:=by simpa [isV] using q
  exact post (.bl _) _ _ _ (.refl H) rh rfl q'
 |bl c=>
  have e:y= .bl c:=r2;subst e;cases (show u= .bool c from ry);cases dx<;>first
   |exact False.elim q
   |skip
  ·have e:x= .non:=r1;subst e;cases (show v= .none from rx);exact uN (by rfl) ⟨.bl false,H,I,rfl,post (.bl false) _ _ _ (.refl H) rh rfl q⟩
  ·rename_i b;have e:x= .bl b:=r1;subst e;cases (show v= .bool b from rx);have eb:(fV b==fV c)=(b==c):=by cases b<;>cases c<;>rfl
   refine uN (by rfl) ⟨.bl (b==c),H,I,by rw [eb];rfl,post (.bl (b==c)) _ _ _ (.refl H) rh rfl ?_⟩;simpa [isV] using q
 |_=>exact False.elim q
def Qe:ñ X (B9 .IsNot) (isV true):=by
 intro À s σ H x y v u Q I rx ry h;obtain⟨dx,dy,h,Qd,r1,r2,rh,q,post⟩:=h;cases dy with
 |non=>
  have e:y= .non:=r2;subst e;refine CA À s σ H x .non v u Q I rx ry ⟨rfl,?_⟩;rw [PY r1];have q':Qd (.bl (!isN dx)) h:=by simpa [isV] using q
  exact post (.bl _) _ _ _ (.refl H) rh rfl q'
 |bl c=>
  have e:y= .bl c:=r2;subst e;cases (show u= .bool c from ry);cases dx<;>first
   |exact False.elim q
   |skip
  ·have e:x= .non:=r1;subst e;cases (show v= .none from rx);exact rD (by rfl) ⟨.bl true,H,I,rfl,post (.bl true) _ _ _ (.refl H) rh rfl q⟩
  ·rename_i b;have e:x= .bl b:=r1;subst e;cases (show v= .bool b from rx);have eb:(!(fV b==fV c))= !(b==c):=by cases b<;>cases c<;>rfl
   refine rD (by rfl) ⟨.bl (!(b==c)),H,I,by rw [eb];rfl,post (.bl (!(b==c))) _ _ _ (.refl H) rh rfl ?_⟩;simpa [isV] using q
 |_=>exact False.elim q
end
end L2
namespace HT
open PySem PySem.Spec PyProof.Rows
section
variable {prog:T7}{w:C1}{A:N7}{E:G2->G5->Prop}{s:G5}
def PZ (k:P1){vs:G0 G2}{ns:G0 P1}(hi:iZ vs ns)(j:G6)(h:j<ns.length): ∃t,vs[j]? =some (.int ns[j] t):=by
 induction hi generalizing j with
 |nil=>simp at h
 |cons n t r ih=>
  cases j with
  |zero=>exact⟨t,rfl⟩
  |succ j=>obtain⟨u,e⟩:=ih j (by simpa using h);exact⟨u,by simpa using e⟩
end
end HT
namespace L2
open PySem PySem.Spec PyProof.Rows
theorem VL: ∀ {ns:G0 P1} {us:G0 G2},Ç (ns.map V.int) us->iZ us ns
 | [],_,r=>by cases r;exact .nil
 |n::ns,_,r=>by
  cases r with
  |cons r t=>obtain⟨k,rfl⟩:=r;exact .cons n k (VL t)
theorem zr {K:G7}{H:Hp}: ∀ {ns:G0 P1} {vs:G0 V},Á K H (ns.map D.int) vs->vs=ns.map V.int
 | [],_,h=>h
 |n::ns,vs,h=>by
  obtain⟨v,r,e,h1,h2⟩:=(show ∃v r,vs=v::r/\É K H (.int n) v/\Á K H (ns.map D.int) r from h);rw [e,zr h2,(show v= .int n from h1)];rfl
theorem WH (ns:G0 P1): ∀k,k<=ns.length->G0B (λi=>ns.getD i 0) k=(ns.take k).sum
 |0,_=>by simp [G0B]
 |k+1,h=>by
  have hk:k<ns.length:=by omega
  rw [G0B,WH ns k (by omega),C4,G1 hk,tM,D2,G1 hk];simp
variable {X:Cx}
def Yo (hc:X.calm=true):â X (.builtin "sum") (λxs H Q=> ∃ (a:P2) (ns:G0 P1),xs= [.ref a]/\è X.K H a (ns.map V.int)/\Q (.int ns.sum) H):=by
 intro À s σ H xs us Q I r h;obtain⟨a,ns,rfl,hS,q⟩:=h;obtain⟨u,rfl,ru⟩:=Zp r;cases ru;obtain⟨its,rv,pl,hz⟩:=I.list hS;have hl:=pl.isList;have hlt:a<s.heap.objs.size:=by obtain⟨_,e,_⟩:=hl;exact D9 e
 have hi:=VL rv;have hn:its.length=ns.length:=hi.length;refine call_sum_walkAnyS (aJ hl ?_);refine⟨s.heap.objs.size,_,_,_,_,_,_,λi=>ns.getD i 0,rfl,(nM (A:=X.A.in1) (show X.A.in1.handled=none from I.ok.hd hc) s.heap.objs.size a (M7 hlt) its.toArray).toS,⟨⟨_,S6 _ rfl,rfl,rfl⟩,hl.push _⟩,?_,?_,λs' t' hm=> ?_⟩
 ·intro b hb;simp only [R7,F5,or_false] at hb;show b<(s.heap.push _).objs.size;rw [dG];rcases hb with e|e
  ·rw [e];exact J7 _
  ·rw [e];exact c9 hlt
 ·intro i v hP;have e:its[i]? =some v:=by simpa using hP
  have ō:i<ns.length:=by rw [<-hn];exact(P7.mp e).1
  obtain⟨t,e2⟩:=HT.PZ 0 hi i ō;rw [e] at e2;cases e2;refine⟨t,?_⟩;show mR ns[i] t=mR (ns.getD i 0) t;rw [D2,G1 ō];rfl
 ·have e:G0B (λi=>ns.getD i 0) its.toArray.size=ns.sum:=by
   rw [R4,hn,WH ns _ (P6 _),U3]
  rw [e];obtain⟨h',g',d',tk',o'⟩:=s';obtain⟨m1,m2,m3,m4,_⟩:=hm;simp only at m1 m2 m3 m4;subst m2 m3 m4;refine⟨.int ns.sum,H,I.kept (t':=tk') (λb o e=>m1 b o (λz=> ?_) (G9 _ e)),⟨_,rfl⟩,q⟩;rw [G8.mp z] at e;exact absurd (D9 e) (B8 _)
def TZ:RDn:=λds h Q=> ∃ (a:P2) (ns:G0 P1),ds= [.lst a]/\h a=some (ns.map D.int)/\Q (.int ns.sum) (VC h a)
def Da (hc:X.calm=true):vc X (.builtin "sum") TZ:=(Yo hc).imp λxs H Q ⟨ds,h,Qd,r,rh,⟨a,ns,e,hd,q⟩,p⟩=>by
 subst e;obtain⟨v,e,r1⟩:=jH r;obtain⟨vs,hH,r2⟩:=rh a _ hd;have e1:v= .ref a:=r1.1;rw [zr r2] at hH;subst e e1;exact⟨a,ns,rfl,è.of hH,p (.int _) _ _ _ (.refl H) (rh.sub (Sub.drop h a)) rfl q⟩
def Km (to ti te:TED):TED:=λσ h Q=>to σ h λx h1=> ∃a,x= .lst a/\ti σ h1 λi h2=>te σ h2 λy h3=> ∃ (k:G6) (xs:G0 D),i= .int (k:P1)/\k<=1000/\h3 a=some xs/\xs.length<sizeLine/\Q .non (zK h3 a (xs.take k++y::xs.drop k))
def Db:MtM X "list.insert" (λx vs H Q=> ∃ (l:P2) (xs:G0 V) (k:G6) (y:V),x= .ref l/\vs= [.int (k:P1),y]/\H l=some (.lst xs)/\k<=1000/\xs.length<sizeLine/\Q .non (upd H l (.lst (xs.take k++y::xs.drop k)))):=by
 intro À s σ H x vs v us Q I rx rv h;obtain⟨l,xs,k,y,rfl,rfl,hH,hk,hz,q⟩:=h;cases rx;obtain⟨u,w',rfl,⟨t,rfl⟩,ry⟩:=MN rv;obtain⟨z,its,n,r,hl,e⟩:=I.lstM hH;have X0G: ¬ (!j7 (k:P1))=true:=by rw [uJ (by omega) (by omega)];exact D6
 have hsz:its.toArray.size<=sizeLine:=by rw [R4];omega
 generalize har:its.toArray=ar at e hsz;obtain⟨kk,hkk⟩: ∃kk:P1,kk=(k:P1):=⟨_,rfl⟩;rw [<-hkk] at X0G ⊢;refine j6 F.slot_list_insert ⟨_,e,rfl⟩ F.entry_list_insert (F.args_list_insert_3 _ _ _) (AutoListH.list_insert_list_int_val_1 l ar n kk t w' X0G hsz) ⟨e,?_⟩;subst har hkk;refine⟨.non,_,I.lset (its':=its.take k++w'::its.drop k) hH e ?_ ((r.take k).append (.cons ry (r.drop k))) ?_,rfl,q⟩
 ·have hk0: ¬ ((k:P1)<0):=by omega
  simp only [hk0,oU,W7,R4];have e1:its.take (min k its.length)=its.take k:=by
   by_cases hh:k<=its.length
   ·rw [U0 hh]
   ·rw [mW (by omega),U3,T9 (by omega)]
  have e2:its.drop (min k its.length)=its.drop k:=by
   by_cases hh:k<=its.length
   ·rw [U0 hh]
   ·rw [mW (by omega),List.drop_length,List.drop_of_length_le (by omega)]
  have e3:(its.drop k).take (its.length-min k its.length)=its.drop k:=T9 (by rw [C0];omega);apply Array.ext';simp only [O2,V0,List.extract_toArray,U6,lB,rE];rw [e1,e2,e3,D5];rfl
 ·rw [P3,R3,T5,C0];omega
section
variable {X:Cx}{o e i:N3}{to te ti:TED}{apos Ï:Pos}
def kJ (ho:QE X o to)(hi:QE X i ti)(he:QE X e te)(hbase:bV o "insert" X.env (K0 o X.env)=K0 o X.env:=by rfl)
 (hfew:((U8 Ï (S5 [i,e] X.env)).all (λx=> !x.1)&&(j5 Ï (dF [] X.env)).all (λx=>x.1.isSome)&&decide ([i,e].length+([]:G0 cJ).length+(if ([]:G0 cJ).isEmpty then 0 else 1)<30))=true:=by rfl)
 (hline:(apos.endLine==Ï.line)=true:=by rfl)(hs:S5 [i,e] X.env=(false,K0 i X.env)::S5 [e] X.env:=by rfl)(hs2:S5 [e] X.env=(false,K0 e X.env)::S5 [] X.env:=by rfl)(hplain:(U8 Ï (S5 [e] X.env)).any (·.1)=false:=by rfl):
 QE X (.Call (.Attribute o "insert" apos) [i,e] [] Ï) (Km to ti te):=
 (MS cA xF xG Db ho (wQ hi (wQ he Č hs2) hs) hbase hfew hline hs hplain).imp
  λσ H Q ⟨Æ,h,Qd,rs,rh,t,p⟩=>LE.bind rs rh t λd v h1 H1 k1 Ù Ê r1 ⟨a,e,q⟩=>by
   subst e;obtain⟨e1,vs,hH⟩:=(show v= .ref a/\ ∃vs,H1 a=some (.lst vs) from r1);subst e1;refine⟨.inl ⟨rfl,vs,è.of hH⟩,?_⟩;refine LE.bind Ù Ê q λdi vi h2 H2 k2 ĩ ê r2 q2=>LE.bind ĩ ê q2 λy u h3 H3 k3 ű Ď r3 ⟨k,xs,ei,hk,hx,hz,q3⟩=> ?_
   subst ei;have ev:vi= .int (k:P1):=r2;obtain⟨ws,hW,r4⟩:=Ď a xs hx;refine⟨a,ws,k,u,rfl,by rw [ev],hW,hk,by rw [<-r4.length];exact hz,p .non _ _ _ (k1.trans (k2.trans (k3.trans (.put hW)))) (Ď.put hW ((r4.take k).append (.cons r3 (r4.drop k)))) rfl q3⟩
end
structure JE (X:Cx)(e:N3)(t:TED):Prop where
 to:QE X e t
structure JT (X:Cx)(e:N3)(t:TTD):Prop where
 to:QT X e t
structure JW (X:Cx)(e:N3)(t:TTD):Prop where
 to:QW X e t
structure JA (X:Cx)(e:G0 N3)(t:TAD):Prop where
 to:QA X e t
structure JS (X:Cx)(e:Q2)(t:TSD):Prop where
 to:QS X e t
structure Ū (X:Cx)(e:G0 Q2)(t:TSD):Prop where
 to:QSs X e t
structure JG (X:Cx)(e:N3)(t:TGD):Prop where
 to:QG X e t
structure JI (X:Cx)(tg e:N3)(t:TID):Prop where
 to:QI X tg e t
structure JO (X:Cx)(e:D4 N3)(t:TOD):Prop where
 to:QO X e t
section
variable {X:Cx}{a b c e:N3}{es rest:G0 N3}{ta tb tc te:TED}{t u:TAD}{tt tu:TTD}{pos:Pos}{f r r':RD2}
def jv (i:G6){x:Str}(hN:X.N[i]? =some x:=by rfl)(hv:Vis X.env.scope x:=by first|exact Q7 rfl|exact aT (Q7 rfl)|exact aT (aT rfl))(hd:(x==("__debug__" :Str))=false:=by decide)(hcd:(x==("__classdict__" :Str))=false:=by decide):JE X (.Name x pos) (MT i):=⟨qv (i:=i) (hN:=hN) (hv:=hv) (hd:=hd) (hcd:=hcd)⟩
def jD {i:P1}{j:G6}:JE X (.Constant (.int i) j pos) (dC (.int i)):=⟨Kf⟩
def Ν {i:N4}{j:G6}:JE X (.Constant (.bool i) j pos) (dC (.bl i)):=⟨qbl⟩
def Eg {j:G6}:JE X (.Constant .none j pos) (dC .non):=⟨KP⟩
def FD {x:Str}{i:P1}{tk:Tok}(hg:Gl X x)(hm:X.mg x=some (.int i tk))(hd:(x==("__debug__" :Str))=false:=by decide):JE X (.Name x pos) (dC (.int i)):=⟨Tr (hg:=hg) (hm:=hm) (hd:=hd)⟩
def þ {op:qV}(ho:ñ X (Q5 op) f)(ha:JE X a ta)(hb:JE X b tb):JE X (.BinOp a op b pos) (œ f ta tb):=⟨qop (ho:=ho) (ha:=ha.to) (hb:=hb.to)⟩
def Kn {op:l9}(ho:ñ X (B9 op) f)(ha:JE X a ta)(hb:JE X b tb)(hm:aA op b=false):JE X (.Compare a [op] [b] pos) (œ f ta tb):=⟨KQ (ho:=ho) (ha:=ha.to) (hb:=hb.to) (hm:=hm)⟩
def Gm {op:l9}(ho:ñ X (B9 op) f)(ha:JE X a ta)(hb:JE X b tb)(hm:aA op b=false):JT X (.Compare a [op] [b] pos) (vV (œ f ta tb)):=⟨Tt (ho:=ho) (ha:=ha.to) (hb:=hb.to) (hm:=hm)⟩
def Eh {op İ:l9}(ho:ñ X (B9 op) r)(ho':ñ X (B9 İ) r')(ha:JE X a ta)(hb:JE X b tb)(hc:JE X c tc)(hm:mS [op,İ] [b,c]=false:=by with_unfolding_all rfl):JE X (.Compare a [op,İ] [b,c] pos) (ZL r r' ta tb tc):=⟨Ax (ho:=ho) (ho':=ho') (ha:=ha.to) (hb:=hb.to) (hc:=hc.to) (hm:=hm)⟩
def UX {op İ:l9}(ho:ñ X (B9 op) r)(ho':ñ X (B9 İ) r')(ha:JE X a ta)(hb:JE X b tb)(hc:JE X c tc)(hm:mS [op,İ] [b,c]=false:=by with_unfolding_all rfl):JT X (.Compare a [op,İ] [b,c] pos) (vV (ZL r r' ta tb tc)):=⟨Fa (ho:=ho) (ho':=ho') (ha:=ha.to) (hb:=hb.to) (hc:=hc.to) (hm:=hm)⟩
def yq (ha:JE X a ta)(he: ∀whole,isTrue a X.env whole=(do let v <-whole;fO a.pos;Z8 [v] (m8 v)):=by intro _;rfl):JT X a (vV ta):=⟨Tu (ha:=ha.to) (he:=he)⟩
def Ei (ha:JT X a tt):JW X (.BoolOp .And [a] pos) tt:=⟨Tv (ha:=ha.to)⟩
def Nd (ha:JT X a tt):JW X (.BoolOp .Or [a] pos) tt:=⟨KR (ha:=ha.to)⟩
def Ej (ha:JT X a tt)(hb:JW X (.BoolOp .And (b::rest) pos) tu):JW X (.BoolOp .And (a::b::rest) pos) (CW tt tu):=⟨Tw (ha:=ha.to) (hb:=hb.to)⟩
def Dc (ha:JT X a tt)(hb:JW X (.BoolOp .Or (b::rest) pos) tu):JW X (.BoolOp .Or (a::b::rest) pos) (An tt tu):=⟨KS (ha:=ha.to) (hb:=hb.to)⟩
def wI (ha:JT X a tt):JT X (.UnaryOp .Not a pos) (Gh tt):=⟨Tx (ha:=ha.to)⟩
def Ng {op:BoolOp}(ha:JE X a ta):JE X (.BoolOp op [a] pos) ta:=⟨KT (ha:=ha.to)⟩
def FE (ha:JE X a ta)(hb:JE X (.BoolOp .And (b::rest) pos) tb):JE X (.BoolOp .And (a::b::rest) pos) (Px ta tb):=⟨KU (ha:=ha.to) (hb:=hb.to)⟩
def jor (ha:JE X a ta)(hb:JE X (.BoolOp .Or (b::rest) pos) tb):JE X (.BoolOp .Or (a::b::rest) pos) (Tn ta tb):=⟨qor (ha:=ha.to) (hb:=hb.to)⟩
def Ko (ha:JE X a ta):JE X (.UnaryOp .Not a pos) (Py ta):=⟨KW (ha:=ha.to)⟩
def jif {c:N3}(hc:JT X c tt)(ha:JE X a ta)(hb:JE X b tb):JE X (.IfExp c a b pos) (dIf tt ta tb):=⟨qif (hc:=hc.to) (ha:=ha.to) (hb:=hb.to)⟩
def wJ:JA X [] WF:=⟨Ay⟩
def Zz {k:G6}(h:JA X es t):JE X (.Tuple es k pos) (Tl t):=⟨KY (h:=h.to)⟩
def Zr (h:JA X es t):JE X (.List es pos) (SH t):=⟨KZ (h:=h.to)⟩
end
section
variable {X:Cx}{st:Q2}{sts:G0 Q2}{t u:TSD}{e:N3}{te:TED}{pos:Pos}
def De:Ū X [] UT:=⟨AE⟩
def jO (h1:JS X st t)(h2:Ū X sts u):Ū X (st::sts) (vh t u):=⟨Fg (h1:=h1.to) (h2:=h2.to)⟩
def ze (h1:JS X st t):Ū X [st] t:=⟨AF (h1:=h1.to)⟩
def JB (he:JE X e te)(hs:X7 e none pos.line X.env=pure false:=by rfl):JS X (.Expr e pos) (Fc te):=⟨TC (he:=he.to) (hs:=hs)⟩
def wF (he:JE X e te):JS X (.Return (some e) pos) (MV te):=⟨ka (he:=he.to)⟩
def Ha {c:N3}{a b:G0 Q2}{tc:TTD}(hc:JT X c tc)(ha:Ū X a t)(hb:Ū X b u):JS X (.If c a b pos) (MW tc t u):=⟨kf (hc:=hc.to) (ha:=ha.to) (hb:=hb.to)⟩
variable {i:G6}{x:Str}
def kK {pos':Pos}(hN:X.N.Nodup)(hi:X.N[i]? =some x)(hx:Loc X.env.scope x)(he:JE X e te)(hs:X7 e (some (.Name x pos')) pos.line X.env=pure false:=by rfl)(hf:X.fn x=true\/X.env.scope.names.lookup x=some .local:=by first|exact .inl rfl|exact .inr rfl|assumption):JS X (.Assign [.Name x pos'] e pos) (PB i te):=⟨kg (hN:=hN) (hi:=hi) (hx:=hx) (he:=he.to) (hs:=hs) (hf:=hf)⟩
def FF (hN:X.N.Nodup)(hi:X.N[i]? =some x)(hx:Loc X.env.scope x)(hf:X.fn x=true\/X.env.scope.names.lookup x=some .local:=by first|exact .inl rfl|exact .inr rfl|assumption):JG X (.Name x pos) (gN i):=⟨Fh (hN:=hN) (hi:=hi) (hx:=hx) (hf:=hf)⟩
def WI {j:G6}{y:Str}{p1 p2:Pos}{k:G6}(hc:X.calm=true)(hN:X.N.Nodup)(hi:X.N[i]? =some x)(hj:X.N[j]? =some y)(hx:Loc X.env.scope x)(hy:Loc X.env.scope y)(hf:X.fn x=true\/X.env.scope.names.lookup x=some .local:=by first|exact .inl rfl|exact .inr rfl|assumption)(hf2:X.fn y=true\/X.env.scope.names.lookup y=some .local:=by first|exact .inl rfl|exact .inr rfl|assumption):JG X (.Tuple [.Name x p1,.Name y p2] k pos) (gT2 i j):=⟨AG (hc:=hc) (hN:=hN) (hi:=hi) (hj:=hj) (hx:=hx) (hy:=hy) (hf:=hf) (hf2:=hf2)⟩
def BF {tg:N3}{g:TGD}(he:JE X e te)(hg:JG X tg g)(hs:e6 [tg] e pos.line X.env=pure false:=by rfl)(hsw:e7 [tg] e X.env=pure none:=by rfl)(h1:(fX [tg] X.env).map (·.2)= [dY tg X.env]:=by rfl):JS X (.Assign [tg] e pos) (Ty te g):=⟨kh (he:=he.to) (hg:=hg.to) (hs:=hs) (hsw:=hsw) (h1:=h1)⟩
def Hb {j:G6}{y:Str}{a b:N3}{ta:TAD}{px py pt:Pos}{kt k2 μ}(hc:X.calm=true)(hN:X.N.Nodup)(hi:X.N[i]? =some x)(hj:X.N[j]? =some y)(hij:i≠j)(hx:X.env.scope.names.lookup x=some .local)(hy:X.env.scope.names.lookup y=some .local)(ha:JA X [a,b] ta)(hw:e7 [.Tuple [.Name x px,.Name y py] kt pt] (.Tuple [a,b] k2 μ) X.env=pure (some [x,y]))(hs:e6 [.Tuple [.Name x px,.Name y py] kt pt] (.Tuple [a,b] k2 μ) pos.line X.env=pure false:=by rfl):JS X (.Assign [.Tuple [.Name x px,.Name y py] kt pt] (.Tuple [a,b] k2 μ) pos) (Tz i j ta):=⟨ki (hc:=hc) (hN:=hN) (hi:=hi) (hj:=hj) (hij:=hij) (hx:=hx) (hy:=hy) (ha:=ha.to) (hw:=hw) (hs:=hs)⟩
end
section
variable {X:Cx}{tg e iter elt:N3}{te:TED}{ti:TID}{g:TGD}{tb:TSD}{tt:TTD}{pos:Pos}{ta:TAD}{scope:Y0}{js:G0 G6}{ifs:G0 N3}
def FG (he:JE X e te):JI X tg e (iL te):=⟨Fl (he:=he.to)⟩
def Hc {p:Pos}{a:N3}(hg:Gl X "range")(hm:X.mg "range" =none)(ha:JA X [a] ta)(hs:S5 [a] X.env= [(false,K0 a X.env)]:=by rfl):JI X tg (.Call (.Name "range" p) [a] [] pos) (iR1 ta):=⟨TF (hg:=hg) (hm:=hm) (ha:=ha.to) (hs:=hs)⟩
def Gn {body:G0 Q2}(hp:pN (S0 X.prog X.w) X.A X.env X.xe)(hc:X.calm=true)(hi:JI X tg iter ti)(hg:JG X tg g)(hb:Ū X body tb)(hs: ∀x,M9 iter X.env x=pure x:=by intro _;rfl):JS X (.For tg iter body [] pos) (AH ti g tb):=⟨kj (hp:=hp) (hc:=hc) (hi:=hi.to) (hg:=hg.to) (hb:=hb.to) (hs:=hs)⟩
def JC:ė X [] (LT X.K vX):=Fm
def UY {c:N3}(hc:JT X c tt):ė X [c] (LT X.K tt):=Fn (hc:=hc.to)
def jlc {i:G6}{x:Str}{p:Pos}(hc:X.calm=true)(S:Ì X scope js)(hi:JI X (.Name x p) iter ti)(hj:i∈js)(hN:X.N.Nodup)(hx:X.N[i]? =some x)(hl:scope.names.lookup x=some .local\/scope.names.lookup x=some .cell)(ht: ∀X',jh X scope X'->ė X' ifs (LT X'.K tt))(he: ∀X',jh X scope X'->JE X' elt te)(hs: ∀x,M9 iter X.env x=pure x:=by intro _;rfl):JE X (.ListComp elt [⟨.Name x p,iter,ifs,0⟩] scope pos) (vY (bN i) js ti tt te):=⟨qlc (hc:=hc) (S:=S) (hi:=hi.to) (hj:=hj) (hN:=hN) (hx:=hx) (hl:=hl) (ht:=ht) (he:=λX' hX=>(he X' hX).to) (hs:=hs)⟩
def Kp {i j:G6}{x y:Str}{p1 p2 p3:Pos}{k:G6}(hc:X.calm=true)(S:Ì X scope js)(hi:JI X (.Tuple [.Name x p1,.Name y p2] k p3) iter ti)(hj:i∈js)(hj2:j∈js)(hij:i≠j)(hN:X.N.Nodup)(hx:X.N[i]? =some x)(hy:X.N[j]? =some y)(hl:scope.names.lookup x=some .local\/scope.names.lookup x=some .cell)(hl2:scope.names.lookup y=some .local\/scope.names.lookup y=some .cell)(ht: ∀X',jh X scope X'->ė X' ifs (LT X'.K tt))(he: ∀X',jh X scope X'->JE X' elt te)(hs: ∀x,M9 iter X.env x=pure x:=by intro _;rfl):JE X (.ListComp elt [⟨.Tuple [.Name x p1,.Name y p2] k p3,iter,ifs,0⟩] scope pos) (vY (b2 i j) js ti tt te):=⟨km (hc:=hc) (S:=S) (hi:=hi.to) (hj:=hj) (hj2:=hj2) (hij:=hij) (hN:=hN) (hx:=hx) (hy:=hy) (hl:=hl) (hl2:=hl2) (ht:=ht) (he:=λX' hX=>(he X' hX).to) (hs:=hs)⟩
end
section
variable {X:Cx}{k:G6}{f:P2}{fd:C6}{ps:G0 Str}{Ī:RDn}{x:Str}{p pos:Pos}{e:N3}{es:G0 N3}{t:TAD}
def Hd (F:Ò X.prog X.w X.K X.mg X.base í k f fd ps (õ X.K Ī))(hr:á k X.A)(hg:Gl X x)(hm:X.mg x=some (.ref f))(hk:b7 X.K (.ref f)=true)(hb:Binds X.K fd ps [])(ha:JA X (e::es) t)(hdb:(x==("__debug__" :Str))=false:=by decide)(he:S5 (e::es) X.env=(false,K0 e X.env)::S5 es X.env:=by rfl)(hpl:(U8 pos (S5 es X.env)).any (·.1)=false:=by rfl):JE X (.Call (.Name x p) (e::es) [] pos) (Ĩ Ī t):=⟨TH (F:=F) (hr:=hr) (hg:=hg) (hm:=hm) (hk:=hk) (hb:=hb) (ha:=ha.to) (hdb:=hdb) (he:=he) (hpl:=hpl)⟩
def wj {id:W3}{r:RDn}(hc:vc X (.builtin id) r)(hg:Gl X x)(hm:X.mg x=none)(hv:V5 x=some (.builtin id))(ha:JA X (e::es) t)(hn:x≠ "__name__" :=by decide)(hdb:(x==("__debug__" :Str))=false:=by decide)(he:S5 (e::es) X.env=(false,K0 e X.env)::S5 es X.env:=by rfl)(hpl:(U8 pos (S5 es X.env)).any (·.1)=false:=by rfl):JE X (.Call (.Name x p) (e::es) [] pos) (Ĩ r t):=⟨AL (hc:=hc) (hg:=hg) (hm:=hm) (hv:=hv) (ha:=ha.to) (hn:=hn) (hdb:=hdb) (he:=he) (hpl:=hpl)⟩
def jI {T:W3}{r:RDn}(hc:vc X (.type T) r)(hg:Gl X x)(hm:X.mg x=none)(hv:V5 x=some (.type T))(ha:JA X (e::es) t)(hn:x≠ "__name__" :=by decide)(hdb:(x==("__debug__" :Str))=false:=by decide)(he:S5 (e::es) X.env=(false,K0 e X.env)::S5 es X.env:=by rfl)(hpl:(U8 pos (S5 es X.env)).any (·.1)=false:=by rfl):JE X (.Call (.Name x p) (e::es) [] pos) (Ĩ r t):=⟨Fp (hc:=hc) (hg:=hg) (hm:=hm) (hv:=hv) (ha:=ha.to) (hn:=hn) (hdb:=hdb) (he:=he) (hpl:=hpl)⟩
end
section
variable {X:Cx}{iter elt:N3}{te:TED}{ti:TID}{tt:TTD}{pos î:Pos}{scope:Y0}{js:G0 G6}{ifs:G0 N3}
def Ek {i k:G6}{x y:Str}{p py:Pos}(hc:X.calm=true)(hN:X.N.Nodup)(hk:X.N[k]? =some y)(hy:Loc X.env.scope y)(S:Ì X scope js)(hi:JI X (.Name x p) iter ti)(hj:i∈js)(hx:X.N[i]? =some x)(hl:scope.names.lookup x=some .local\/scope.names.lookup x=some .cell)(ht: ∀X',jh X scope X'->ė X' ifs (LT X'.K tt))(he: ∀X',jh X scope X'->JE X' elt te)(hsw:X7 (.ListComp elt [⟨.Name x p,iter,ifs,0⟩] scope pos) (some (.Name y py)) î.line X.env=pure true:=by rfl)(hf:X.fn y=true\/X.env.scope.names.lookup y=some .local:=by first|exact .inl rfl|exact .inr rfl|assumption)(hs: ∀x,M9 iter X.env x=pure x:=by intro _;rfl):JS X (.Assign [.Name y py] (.ListComp elt [⟨.Name x p,iter,ifs,0⟩] scope pos) î) (PB k (vY (bN i) js ti tt te)):=⟨AM (hc:=hc) (hN:=hN) (hk:=hk) (hy:=hy) (S:=S) (hi:=hi.to) (hj:=hj) (hx:=hx) (hl:=hl) (ht:=ht) (he:=λX' hX=>(he X' hX).to) (hsw:=hsw) (hf:=hf) (hs:=hs)⟩
def FH {i j k:G6}{x1 x2 y:Str}{p1 p2 p3 py:Pos}{kk:G6}(hc:X.calm=true)(hN:X.N.Nodup)(hk:X.N[k]? =some y)(hy:Loc X.env.scope y)(S:Ì X scope js)(hi:JI X (.Tuple [.Name x1 p1,.Name x2 p2] kk p3) iter ti)(hj:i∈js)(hj2:j∈js)(hij:i≠j)(hx:X.N[i]? =some x1)(hx2:X.N[j]? =some x2)(hl:scope.names.lookup x1=some .local\/scope.names.lookup x1=some .cell)(hl2:scope.names.lookup x2=some .local\/scope.names.lookup x2=some .cell)(ht: ∀X',jh X scope X'->ė X' ifs (LT X'.K tt))(he: ∀X',jh X scope X'->JE X' elt te)(hsw:X7 (.ListComp elt [⟨.Tuple [.Name x1 p1,.Name x2 p2] kk p3,iter,ifs,0⟩] scope pos) (some (.Name y py)) î.line X.env=pure true:=by rfl)(hf:X.fn y=true\/X.env.scope.names.lookup y=some .local:=by first|exact .inl rfl|exact .inr rfl|assumption)(hs: ∀x,M9 iter X.env x=pure x:=by intro _;rfl):JS X (.Assign [.Name y py] (.ListComp elt [⟨.Tuple [.Name x1 p1,.Name x2 p2] kk p3,iter,ifs,0⟩] scope pos) î) (PB k (vY (b2 i j) js ti tt te)):=⟨Fq (hc:=hc) (hN:=hN) (hk:=hk) (hy:=hy) (S:=S) (hi:=hi.to) (hj:=hj) (hj2:=hj2) (hij:=hij) (hx:=hx) (hx2:=hx2) (hl:=hl) (hl2:=hl2) (ht:=ht) (he:=λX' hX=>(he X' hX).to) (hsw:=hsw) (hf:=hf) (hs:=hs)⟩
end
section
variable {X:Cx}{iter å elt:N3}{te:TED}{ti Ŕ:TID}{tt ũ:TTD}{pos:Pos}{scope:Y0}{js:G0 G6}{ifs Ě:G0 N3}
def kM {i i':G6}{x y:Str}{p py:Pos}(hc:X.calm=true)(S:Ì X scope js)(hi:JI X (.Name x p) iter ti)(hj:i∈js)(hj':i'∈js)(hne:i≠i')(hN:X.N.Nodup)(hx:X.N[i]? =some x)(hy:X.N[i']? =some y)(hl:scope.names.lookup x=some .local\/scope.names.lookup x=some .cell)(hl':scope.names.lookup y=some .local\/scope.names.lookup y=some .cell)(ht: ∀X',jh X scope X'->ė X' ifs (LT X'.K tt))(hi': ∀X',jh X scope X'->JI X' (.Name y py) å Ŕ)(ht': ∀X',jh X scope X'->ė X' Ě (LT X'.K ũ))(he: ∀X',jh X scope X'->JE X' elt te)(hs: ∀x,M9 iter X.env x=pure x:=by intro _;rfl)(hs': ∀env x,M9 å env x=pure x:=by intro _ _;rfl):JE X (.ListComp elt [⟨.Name x p,iter,ifs,0⟩,⟨.Name y py,å,Ě,0⟩] scope pos) (Ol (bN i) js ti tt i' Ŕ ũ te):=⟨ko (hc:=hc) (S:=S) (hi:=hi.to) (hj:=hj) (hj':=hj') (hne:=hne) (hN:=hN) (hx:=hx) (hy:=hy) (hl:=hl) (hl':=hl') (ht:=ht) (hi':=λX' hX=>(hi' X' hX).to) (ht':=ht') (he:=λX' hX=>(he X' hX).to) (hs:=hs) (hs':=hs')⟩
end
section
variable {X:Cx}{a b e:N3}{ta tb te:TED}{pos p2:Pos}
def jix (ha:JE X a ta)(hb:JE X b tb)(hs:Yd b):JE X (.Subscript a b pos) (œ ixD ta tb):=⟨qix (ha:=ha.to) (hb:=hb.to) (hs:=hs)⟩
end
def Yp {a:N3}{ta:TED}{T:W3}{t:Str}{p p2 pos:Pos}(hT:T∈ ["tuple","int","bool","list","str"])(hg:Gl X "isinstance")(hm:X.mg "isinstance" =none)(hg2:Gl X t)(hm2:X.mg t=none)(hv:V5 t=some (.type T))(ha:JE X a ta)(hn:t≠ "__name__" :=by decide)(hd:(t==("__debug__" :Str))=false:=by decide)(h1:S5 [a,.Name t p2] X.env=(false,K0 a X.env)::S5 [.Name t p2] X.env:=by rfl)(h2:(U8 pos (S5 [.Name t p2] X.env)).any (·.1)=false:=by rfl):JE X (.Call (.Name "isinstance" p) [a,.Name t p2] [] pos) (dIs T ta):=⟨TR (hT:=hT) (hg:=hg) (hm:=hm) (hg2:=hg2) (hm2:=hm2) (hv:=hv) (ha:=ha.to) (hn:=hn) (hd:=hd) (h1:=h1) (h2:=h2)⟩
section
variable {X:Cx}{o e i:N3}{to te ti:TED}{apos Ï pos:Pos}
def BG (ho:JE X o to)(he:JE X e te)(hbase:bV o "append" X.env (K0 o X.env)=K0 o X.env:=by rfl)(hfew:((U8 Ï (S5 [e] X.env)).all (λx=> !x.1)&&(j5 Ï (dF [] X.env)).all (λx=>x.1.isSome)&&decide ([e].length+([]:G0 cJ).length+(if ([]:G0 cJ).isEmpty then 0 else 1)<30))=true:=by rfl)(hline:(apos.endLine==Ï.line)=true:=by rfl)(hs:S5 [e] X.env=(false,K0 e X.env)::S5 [] X.env:=by rfl)(hplain:(U8 Ï (S5 [] X.env)).any (·.1)=false:=by rfl):JE X (.Call (.Attribute o "append" apos) [e] [] Ï) (Kj to te):=⟨kH (ho:=ho.to) (he:=he.to) (hbase:=hbase) (hfew:=hfew) (hline:=hline) (hs:=hs) (hplain:=hplain)⟩
def Qf (ho:JE X o to)(hi:JE X i ti)(ha: ∀v,dY (.Subscript o i pos) X.env v=(do
 let ov <-Z8 [v] (K0 o X.env)
 let iv <-Z8 [v,ov] (K0 i X.env)
 fO pos
 Z8 [v,ov,iv] (tX ov iv v)
 G0J [v,ov,iv] []):=by intro _;rfl):JG X (.Subscript o i pos) (AV to ti):=⟨AW (ho:=ho.to) (hi:=hi.to) (ha:=ha)⟩
end
def jpt {e:N3}{t:TTD}(h:JW X e t):JT X e t:=⟨qpt (h:=h.to)⟩
def Df:JO X none PQ:=⟨Fz⟩
variable {te:TED}
def Yq {e:N3}(he:JE X e te):JO X (some e) (AX te):=⟨FA (he:=he.to)⟩
def Dg {e:N3}{lo hi:D4 N3}{tl th:TOD}{pos p2:Pos}(he:JE X e te)(hl:JO X lo tl)(hu:JO X hi th):JE X (.Subscript e (.Slice lo hi none p2) pos) (dSl te tl th):=⟨AY (he:=he.to) (hl:=hl.to) (hu:=hu.to)⟩
def Kq {a:N3}{ta:TED}{pos:Pos}(ha:JE X a ta):JE X (.UnaryOp .USub a pos) (dUn TW ta):=⟨Kl (ha:=ha.to)⟩
def za {tg e:N3}(he:JE X e te):JI X tg e (iS te):=⟨Ec (he:=he.to)⟩
def Dh {st:Q2}:JS X st BC:=⟨Ed⟩
def jac {e:N3}{es:G0 N3}{t:TAD}(ha:JE X e te)(hr:JA X es t)(h:zi e=true:=by rfl):JA X (e::es) (zA te t):=⟨qac (ha:=ha.to) (hr:=hr.to) (h:=h)⟩
section
variable {X:Cx}{o e i:N3}{to te ti:TED}{apos Ï:Pos}
def kO (ho:JE X o to)(hi:JE X i ti)(he:JE X e te)(hbase:bV o "insert" X.env (K0 o X.env)=K0 o X.env:=by rfl)(hfew:((U8 Ï (S5 [i,e] X.env)).all (λx=> !x.1)&&(j5 Ï (dF [] X.env)).all (λx=>x.1.isSome)&&decide ([i,e].length+([]:G0 cJ).length+(if ([]:G0 cJ).isEmpty then 0 else 1)<30))=true:=by rfl)(hline:(apos.endLine==Ï.line)=true:=by rfl)(hs:S5 [i,e] X.env=(false,K0 i X.env)::S5 [e] X.env:=by rfl)(hs2:S5 [e] X.env=(false,K0 e X.env)::S5 [] X.env:=by rfl)(hplain:(U8 Ï (S5 [e] X.env)).any (·.1)=false:=by rfl):JE X (.Call (.Attribute o "insert" apos) [i,e] [] Ï) (Km to ti te):=⟨kJ (ho:=ho.to) (hi:=hi.to) (he:=he.to) (hbase:=hbase) (hfew:=hfew) (hline:=hline) (hs:=hs) (hs2:=hs2) (hplain:=hplain)⟩
end
section
variable {P:T7}{w:C1}{K:G7}{mg:Str->D4 G2}{base:A7}
def ô.okJ {x qual:Str}{st:Q2}{f:P2}{fd:C6}{N ps:G0 Str}{k:G6}{Ī:RDn}(F:ô K x qual st f fd)(S:Ã N ps (je st))(len: ∀ds h Q,Ī ds h Q->ds.length=ps.length)
 (tb:TSD)(Ĕ: ∀ (ó:G2) (A:N7) (outer:G0 Env) (s:G5) (H:Hp) (E:XK),á k (A.deeper (i9 qual (je st) s.heap.objs.size f ó))->Ū (MO í P w K mg base N qual (je st) f ó A outer s H E).nox (zL st) tb)
 (read: ∀ds h Q,Ī ds h Q->tb (Mz Q) (wH N ds) h):Ò P w K mg base í (k+1) f fd ps (õ K Ī):=F.okD S len tb (λó A outer s H E hr=>(Ĕ ó A outer s H E hr).to) read
end
noncomputable def wx (r:G0 P1):D:= .tup (r.map D.int)
noncomputable def jp (T:G0 (G0 P1)):D:= .tup (T.map wx)
def wS (n:G6)(r:G0 P1):Prop:=r.length=n/\ ∀x∈r,0<=x/\x<=1000000
def ī (n:G6)(T:G0 (G0 P1)):Prop:=T.length=n/\ ∀r∈T,wS n r
structure Sq (n e:G6)(T:G0 (G0 P1)):Prop where
 len:T.length=n
 row: ∀r∈T,r.length=n
 nn: ∀r∈T,∀x∈r,0<=x
 bit: ∀r∈T,∀x∈r,x<2^e
variable {n:G6}{T:G0 (G0 P1)}
def ī.sq (g:ī n T):Sq n 20 T:=⟨g.1,λr hr=>(g.2 r hr).1,λr hr x hx=>((g.2 r hr).2 x hx).1,λr hr x hx=>qI ((g.2 r hr).2 x hx).2 (by decide)⟩
variable {e f:G6}
def Sq.mono (h:Sq n e T)(l:e<=f):Sq n f T:=⟨h.len,h.row,h.nn,λr hr x hx=>lC (h.bit r hr x hx) (by
 have:(2:G6)^e<=2^f:=iP (by decide) l;have h2:((2^e:G6):P1)<=((2^f:G6):P1):=by exact_mod_cast this
 simpa using h2)⟩
noncomputable def Ð (T:G0 (G0 P1))(i j:G6):P1:=(T.getD i []).getD j 0
noncomputable def Ľ (n:G6)(f:G6->G6->P1):G0 (G0 P1):=(P5 n).map λi=>(P5 n).map λj=>f i j
def ZO {i j:G6}{f:G6->G6->P1}(hi:i<n)(hj:j<n):Ð (Ľ n f) i j=f i j:=by
 unfold Ð Ľ;simp [D2,hi,hj]
def jT {α:Type}(xs:G0 α)(d:α):xs=(P5 xs.length).map λi=>xs.getD i d:=by
 apply List.ext_getElem (by simp);intro i h1 h2;simp [D2,h1]
def Sq.eq_mk (h:Sq n e T):T=Ľ n (Ð T):=by
 have h1:=jT T [];rw [h.len] at h1;unfold Ľ
 conv=>lhs;rw [h1]
 apply C7;intro i hi;have hi':i<T.length:=by rw [h.len];exact D1.mp hi
 have hr:(T.getD i []).length=n:=by
  rw [D2,G1 hi'];exact h.row _ (N0 hi')
 have h2:=jT (T.getD i []) 0;rw [hr] at h2;exact h2
def Nh {f g:G6->G6->P1}(h: ∀i j,i<n->j<n->f i j=g i j):Ľ n f=Ľ n g:=by
 unfold Ľ;apply C7;intro i hi;apply C7;intro j hj;exact h i j (D1.mp hi) (D1.mp hj)
def Sq.of_mk {f:G6->G6->P1}(h0: ∀i j,i<n->j<n->0<=f i j)(h1: ∀i j,i<n->j<n->f i j<2^e):Sq n e (Ľ n f):=by
 have key: ∀r∈Ľ n f,∃i,i<n/\r=(P5 n).map λj=>f i j:=λr hr=>by
  obtain⟨i,hi,e⟩:=R6.mp hr;exact⟨i,D1.mp hi,e.symm⟩
 refine⟨by simp [Ľ],λr hr=> ?_,λr hr x hx=> ?_,λr hr x hx=> ?_⟩
 ·obtain⟨i,_,e⟩:=key r hr;rw [e];simp
 ·obtain⟨i,hi,e⟩:=key r hr;rw [e] at hx;obtain⟨j,hj,e2⟩:=R6.mp hx;rw [<-e2];exact h0 i j hi (D1.mp hj)
 ·obtain⟨i,hi,e⟩:=key r hr;rw [e] at hx;obtain⟨j,hj,e2⟩:=R6.mp hx;rw [<-e2];exact h1 i j hi (D1.mp hj)
def Sq.ent_nn (h:Sq n e T){i j:G6}(hi:i<n)(hj:j<n):0<=Ð T i j/\Ð T i j<2^e:=by
 have hi':i<T.length:=by rw [h.len];exact hi
 have hr:T.getD i []=T[i]:=by rw [D2,G1 hi'];rfl
 have hm:T[i]∈T:=N0 hi';have hj':j<T[i].length:=by rw [h.row _ hm];exact hj
 have he:Ð T i j=T[i][j]:=by unfold Ð;rw [hr,D2,G1 hj'];rfl
 rw [he];exact⟨h.nn _ hm _ (N0 hj'),h.bit _ hm _ (N0 hj')⟩
variable {U:G0 (G0 P1)}
def Sq.ext (h:Sq n e T)(g:Sq n f U)(k: ∀i j,i<n->j<n->Ð T i j=Ð U i j):T=U:=by
 rw [h.eq_mk,g.eq_mk];exact Nh k
noncomputable def jX (n:G6)(f:G6->P1):P1:=((P5 n).map f).sum
def zX (f:G6->P1):jX 0 f=0:=rfl
def jF (n:G6)(f:G6->P1):jX (n+1) f=jX n f+f n:=by
 unfold jX;rw [cR,T4,tM];simp
def zj {f g:G6->P1}(h: ∀k,k<n->f k=g k):jX n f=jX n g:=by
 unfold jX;congr 1;apply C7;intro k hk;exact h k (D1.mp hk)
def Yr {f:G6->P1}(h: ∀k,k<n->0<=f k):0<=jX n f:=by
 induction n with
 |zero=>exact Int.le_refl _
 |succ n ih=>rw [jF];have:=ih λk hk=>h k (by omega);have:=h n (by omega);omega
def Ni {f:G6->P1}{b:P1}(h: ∀k,k<n->f k<=b):jX n f<=n*b:=by
 induction n with
 |zero=>simp [zX]
 |succ n ih=>
  rw [jF];have h1:=ih λk hk=>h k (by omega);have h2:=h n (by omega)
  have:((n+1:G6):P1)*b=(n:P1)*b+b:=by rw [tN,Int.add_mul];simp
  omega
def Di (n:G6)(f g:G6->P1):jX n (λk=>f k+g k)=jX n f+jX n g:=by
 induction n with
 |zero=>rfl
 |succ n ih=>rw [jF,jF,jF,ih];omega
def ZP (n:G6)(c:P1)(f:G6->P1):jX n (λk=>c*f k)=c*jX n f:=by
 induction n with
 |zero=>simp [zX]
 |succ n ih=>rw [jF,jF,ih,Int.mul_add]
def Go (n:G6)(c:P1)(f:G6->P1):jX n (λk=>f k*c)=jX n f*c:=by
 rw [rF,<-ZP];exact zj λk _=>rF _ _
def Gp (m n:G6)(f:G6->G6->P1):jX m (λi=>jX n (f i))=jX n (λj=>jX m λi=>f i j):=by
 induction m with
 |zero=>
  rw [zX]
  induction n with
  |zero=>rfl
  |succ n ih=>rw [jF,<-ih,zX];rfl
 |succ m ih=>
  rw [jF,ih,<-Di];exact zj λj _=>(jF m λi=>f i j).symm
def VM {f:G6->P1}{i:G6}(hi:i<n)(h: ∀k,k<n->k≠i->f k=0):jX n f=f i:=by
 induction n with
 |zero=>omega
 |succ n ih=>
  rw [jF]
  by_cases e:i=n
  ·subst e;have:jX i f=0:=by
    have:jX i f=jX i (λ_=>0*1):=zj λk hk=>by rw [h k (by omega) (by omega)];rfl
    rw [this,ZP];simp
   omega
  ·rw [ih (by omega) λk hk hne=>h k (by omega) hne,h n (by omega) (by omega)];omega
def Dj {f:G6->P1}(h: ∀k,k<n->0<=f k):0<jX n f↔ ∃k,k<n/\0<f k:=by
 induction n with
 |zero=>simp [zX]
 |succ n ih=>
  rw [jF];have h1:=Yr λk (hk:k<n)=>h k (by omega)
  have h2:=h n (by omega);have ih':=ih λk hk=>h k (by omega)
  constructor
  ·intro z
   by_cases q:0<f n
   ·exact⟨n,by omega,q⟩
   ·obtain⟨k,a,b⟩:=ih'.mp (by omega);exact⟨k,by omega,b⟩
  ·rintro ⟨k,a,b⟩
   by_cases q:k=n
   ·subst q;omega
   ·have:=ih'.mpr ⟨k,by omega,b⟩;omega
noncomputable def JD (n:G6)(T U:G0 (G0 P1)):G0 (G0 P1):=Ľ n λi j=>jX n λk=>Ð T i k*Ð U k j
def Sq.mul (h:Sq n e T)(g:Sq n f U)(hn:n<=8):Sq n (e+f+3) (JD n T U):=by
 have nn: ∀i j,i<n->j<n-> ∀k,k<n->0<=Ð T i k*Ð U k j:=λi j hi hj k hk=>oZ (h.ent_nn hi hk).1 (g.ent_nn hk hj).1
 refine Sq.of_mk (λi j hi hj=>Yr (nn i j hi hj)) λi j hi hj=> ?_
 have hle: ∀k,k<n->Ð T i k*Ð U k j<=2^e*2^f-1:=λk hk=>by
  have a:=h.ent_nn hi hk;have b:=g.ent_nn hk hj;have:Ð T i k*Ð U k j<2^e*2^f:=by
   have p:(0:P1)<2^f:=sW (by decide)
   calc Ð T i k*Ð U k j<=Ð T i k*2^f:=Int.mul_le_mul_of_nonneg_left (y4 b.2) a.1
    _<2^e*2^f:=Int.mul_lt_mul_of_pos_right a.2 p
  omega
 have s:=Ni hle;have p:(0:P1)<2^e*2^f:=IU (sW (by decide)) (sW (by decide));have e1:(2:P1)^(e+f+3)=8*(2^e*2^f):=by rw [IV,IV];rw [rF];rfl
 rw [e1];have hn':(n:P1)<=8:=by omega
 have:(n:P1)*(2^e*2^f-1)<=8*(2^e*2^f-1):=Int.mul_le_mul_of_nonneg_right hn' (by omega);omega
def yy {i j:G6}(hi:i<n)(hj:j<n):Ð (JD n T U) i j=jX n λk=>Ð T i k*Ð U k j:=ZO hi hj
noncomputable def Ys (n:G6):G0 (G0 P1):=Ľ n λi j=>if i=j then 1 else 0
def Sq.one (n:G6):Sq n 1 (Ys n):=Sq.of_mk (f:=λi j=>if i=j then 1 else 0) (λi j _ _=>by split<;>decide) λi j _ _=>by split<;>decide
def mul_assoc {g:G6}{V:G0 (G0 P1)}(hT:Sq n e T)(hU:Sq n f U)(hV:Sq n g V)(hn:n<=8):JD n (JD n T U) V=JD n T (JD n U V):=by
 refine((hT.mul hU hn).mul hV hn).ext (hT.mul (hU.mul hV hn) hn) λi j hi hj=> ?_
 rw [yy hi hj,yy hi hj];have e1:(jX n λk=>Ð (JD n T U) i k*Ð V k j)=jX n λk=>jX n λl=>Ð T i l*Ð U l k*Ð V k j:=
  zj λk hk=>by rw [yy hi hk,<-Go]
 have e2:(jX n λl=>Ð T i l*Ð (JD n U V) l j)=jX n λl=>jX n λk=>Ð T i l*(Ð U l k*Ð V k j):=
  zj λl hl=>by rw [yy hl hj,<-ZP]
 rw [e1,e2,Gp];exact zj λl _=>zj λk _=>Int.mul_assoc _ _ _
def Qg (hT:Sq n e T)(hn:n<=8):JD n (Ys n) T=T:=by
 refine((Sq.one n).mul hT hn).ext hT λi j hi hj=> ?_
 rw [yy hi hj,VM hi λk hk hne=>by rw [Ys,ZO hi hk,S4 (I0 hne)];simp];rw [Ys,ZO hi hi,R9 rfl];simp
def Nj (hT:Sq n e T)(hn:n<=8):JD n T (Ys n)=T:=by
 refine(hT.mul (Sq.one n) hn).ext hT λi j hi hj=> ?_
 rw [yy hi hj,VM hj λk hk hne=>by rw [Ys,ZO hk hj,S4 hne];simp];rw [Ys,ZO hj hj,R9 rfl];simp
noncomputable def GT (n:G6)(T:G0 (G0 P1)):G6->G0 (G0 P1)
 |0=>Ys n
 |k+1=>JD n (GT n T k) T
def Sq.pow (hT:Sq n e T)(hn:n<=8): ∀k,Sq n (k*(e+3)+1) (GT n T k)
 |0=>(Sq.one n).mono (by omega)
 |k+1=>((Sq.pow hT hn k).mul hT hn).mono (by rw [gJ];omega)
noncomputable def El (n:G6)(T:G0 (G0 P1)):G0 (G0 P1):=Ľ n λi j=>Ð T j i
noncomputable def yA (n:G6)(T:G0 (G0 P1)):G0 (G0 P1):=Ľ n λi j=>if Ð T i j=0 then 0 else 1
def Sq.turn (h:Sq n e T):Sq n e (El n T):=Sq.of_mk (λi j hi hj=>(h.ent_nn hj hi).1) λi j hi hj=>(h.ent_nn hj hi).2
def Sq.mark (T:G0 (G0 P1)):Sq n 1 (yA n T):=Sq.of_mk (f:=λi j=>if Ð T i j=0 then 0 else 1) (λi j _ _=>by split<;>decide) λi j _ _=>by split<;>decide
structure Ord (n:G6)(o:G0 G6):Prop where
 len:o.length=n
 all: ∀i,i<n->i∈o
noncomputable def jG (T:G0 (G0 P1)):N4:=T.all λr=>r.all λx=>decide (x≠0)
def FI (n:G6)(f:G6->G6->P1):jG (Ľ n f)=true↔ ∀i j,i<n->j<n->f i j≠0:=by
 unfold jG Ľ;simp only [cL,S8,D1,J3,aK];exact⟨λh i j hi hj=>h i hi j hj,λh i hi j hj=>h i j hi hj⟩
def MulOk (i j:P1):Prop:= ∃m n:G6,i.natAbs<2^m/\j.natAbs<2^n/\m+n<=134217728
def MulOk.ok {i j:P1}(h:MulOk i j):IntMulOk i j:=by
 obtain⟨m,n,a,b,c⟩:=h;exact .of_le (o3.mpr a) (o3.mpr b) c
def FJ:ø X (Q5 .Mult) (rI MulOk λi j=> .int (i*j)):=opI λ_ _ _ _ _ _ _ hc q=>mul_int q hc.ok
def kP:RD2:=λx y h Q=>match x,y with
 | .int i,.int j=>MulOk i j/\Q (.int (i*j)) h
 |_,_=>False
def Dk:ñ X (Q5 .Mult) kP:=Yh (gd:=λi j=> .int (i*j)) FJ (λ_ _ _=>rfl) λx y h Q q=>by
 cases x<;>cases y<;>first|exact False.elim q|exact⟨_,_,rfl,rfl,q.1,q.2⟩
def VN {x:P1}(h0:0<=x)(h1:x<2^e):x.natAbs<2^e:=by
 have:((2^e:G6):P1)=2^e:=by simp
 omega
def Qh {x y:P1}(hx:0<=x/\x<2^e)(hy:0<=y/\y<2^f)(h:e+f<=134217728):MulOk x y:=⟨e,f,VN hx.1 hx.2,VN hy.1 hy.2,h⟩
section
variable {α β:Type}{i i':G6}{js:G0 G6}{ti Ŕ:TID}{te:TED}{σ:SD}{h:HD}{Q:KD}{j:ItD}
def lcA (xs:G0 α)(c g:α->D)(hz:xs.length<=1000)(hj:j h=some (xs.map c))(ht: ∀R:ItD->HD->Prop,R j h->ti σ h R)
 (he: ∀x∈xs,∀Q':KD,Q' (g x) h->te ((jR js σ).set i (some (c x))) h Q')(hq: ∀p,h p=none->Q (.lst p) (zK h p (xs.map g))):vY (bN i) js ti vX te σ h Q:=by
 refine ht _ ⟨xs.length,λk ys h'=>h'=h/\ys=(xs.take k).map g,⟨rfl,by simp⟩,?_⟩;rintro k ys h' ⟨rfl,rfl⟩;refine⟨by simp only [G3,T5];exact T8 (zb (by omega)),xs.map c,hj,by simp,λhl p hp=> ?_,λd hd=>⟨_,rfl,?_⟩⟩
 ·rw [T9 (by simpa using hl)];exact hq p hp
 ·unfold vX;dsimp only;rw [R9 rfl];rw [P9] at hd;cases hx:xs[k]? with
  |none=>rw [hx] at hd;cases hd
  |some x=>
   rw [hx] at hd;cases hd;refine he x (P8 hx) _ ⟨h',Sub.refl _,rfl,?_⟩;rw [C4,hx];simp
def lcF (xs:G0 α)(c g:α->D)(p:α->N4){tt:TTD}(hz:xs.length<=1000)(hj:j h=some (xs.map c))(ht: ∀R:ItD->HD->Prop,R j h->ti σ h R)
 (hp: ∀x∈xs,∀Q':N4->HD->Prop,Q' (p x) h->tt ((jR js σ).set i (some (c x))) h Q')(he: ∀x∈xs,p x=true-> ∀Q':KD,Q' (g x) h->te ((jR js σ).set i (some (c x))) h Q')(hq: ∀a,h a=none->Q (.lst a) (zK h a ((xs.filter p).map g))):vY (bN i) js ti tt te σ h Q:=by
 refine ht _ ⟨xs.length,λk ys h'=>h'=h/\ys=((xs.take k).filter p).map g,⟨rfl,by simp⟩,?_⟩;rintro k ys h' ⟨rfl,rfl⟩;refine⟨?_,xs.map c,hj,by simp,λhl a ha=> ?_,λd hd=>⟨_,rfl,?_⟩⟩
 ·have:=Y7 p (xs.take k);simp only [G3,T5] at this ⊢;exact T8 (zb (by omega))
 ·rw [T9 (by simpa using hl)];exact hq a ha
 ·rw [P9] at hd;cases hx:xs[k]? with
  |none=>rw [hx] at hd;cases hd
  |some x=>
   rw [hx] at hd;cases hd;refine hp x (P8 hx) _ ?_;cases hb:p x with
   |true=>
    rw [R9 rfl];refine he x (P8 hx) hb _ ⟨h',Sub.refl _,rfl,?_⟩;rw [C4,hx];simp [hb]
   |false=>
    rw [S4 D6];refine⟨h',Sub.refl _,rfl,?_⟩;rw [C4,hx];simp [hb]
def lcB (xs:G0 α)(c:α->D)(ys:α->G0 β)(c':β->D)(g:α->β->D)(hz:(xs.flatMap ys).length<=1000)(hj:j h=some (xs.map c))(ht: ∀R:ItD->HD->Prop,R j h->ti σ h R)
 (hin: ∀x∈xs,∀R:ItD->HD->Prop,R (λ_=>some ((ys x).map c')) h->Ŕ ((jR js σ).set i (some (c x))) h R)
 (he: ∀x∈xs,∀y∈ys x,∀Q':KD,Q' (g x y) h->te (((jR js σ).set i (some (c x))).set i' (some (c' y))) h Q')(hq: ∀p,h p=none->Q (.lst p) (zK h p (xs.flatMap λx=>(ys x).map (g x)))):Ol (bN i) js ti vX i' Ŕ vX te σ h Q:=by
 have len: ∀l:G0 α,(l.flatMap λx=>(ys x).map (g x)).length=(l.flatMap ys).length:=λl=>by
  induction l with
  |nil=>rfl
  |cons x l ih=>simp [dA,ih]
 have lek: ∀k,((xs.take k).flatMap ys).length<=(xs.flatMap ys).length:=λk=>by
  conv=>rhs;rw [<-N5 k xs,dZ,P3]
  omega
 have X1s: ∀k x m,xs[k]? =some x->m<=(ys x).length->((xs.take k).flatMap ys).length+m<=(xs.flatMap ys).length:=λk x m hx hm=>by
  have:=lek (k+1);rw [C4,hx,dZ,P3] at this;simp at this;simp;omega
 refine ht _ ⟨xs.length,λk zs h'=>h'=h/\zs=(xs.take k).flatMap λx=>(ys x).map (g x),⟨rfl,by simp⟩,?_⟩;rintro k zs h' ⟨rfl,rfl⟩;refine⟨by rw [len];exact T8 (zb (R8 (lek k) hz)),xs.map c,hj,by simp,λhl p hp=> ?_,λd hd=>⟨_,rfl,?_⟩⟩
 ·rw [T9 (by simpa using hl)];exact hq p hp
 ·unfold vX;dsimp only;rw [R9 rfl];rw [P9] at hd;cases hx:xs[k]? with
  |none=>rw [hx] at hd;cases hd
  |some x=>
   rw [hx] at hd;cases hd;have xm:=P8 hx;refine hin x xm _ ⟨(ys x).length,λm zs h2=>h2=h'/\zs=((xs.take k).flatMap λx=>(ys x).map (g x))++((ys x).take m).map (g x),⟨rfl,by simp⟩,?_⟩;rintro m zs h2 ⟨rfl,rfl⟩;refine⟨?_,(ys x).map c',rfl,by simp,λhl=>⟨h2,Sub.refl _,rfl,?_⟩,λd hd=> ?_⟩
   ·rw [P3,len,G3,T5];have:=X1s k x (min m (ys x).length) hx (b8 _ _);exact T8 (zb (by omega))
   ·have hm:(ys x).take m=ys x:=T9 (by simpa using hl);rw [hm,C4,hx,dZ];simp
   ·rw [P9] at hd;cases hy:(ys x)[m]? with
    |none=>rw [hy] at hd;cases hd
    |some y=>
     rw [hy] at hd;cases hd
     first
      |rw [R9 rfl]
      |(dsimp only;rw [R9 rfl])
     refine he x xm y (P8 hy) _ ⟨h2,Sub.refl _,rfl,?_⟩;rw [C4,hy];simp
def GU (xs:G0 α)(c g:α->D)(hz:xs.length<=1000)(hj:j h=some (xs.map c))(ht: ∀R:ItD->HD->Prop,R j h->ti σ h R)
 (he: ∀x∈xs,∀Q':KD,Q' (g x) h->te ((jR js σ).set i (some (c x))) h Q')(hq:Q (.tup (xs.map g)) h):Ĩ Qb (zA (vY (bN i) js ti vX te) WF) σ h Q:=by
 show vY (bN i) js ti vX te σ h (λx h1=>Qb [x] h1 Q);exact lcA xs c g hz hj ht he λp hp=>(show ∃ys,zK h p (xs.map g) p=some ys/\Q (.tup ys) (VC (zK h p (xs.map g)) p) from ⟨_,jc,by rw [zZ hp];exact hq⟩)
def Kr (xs:G0 α)(c:α->D)(g:α->P1)(hz:xs.length<=1000)(hj:j h=some (xs.map c))(ht: ∀R:ItD->HD->Prop,R j h->ti σ h R)
 (he: ∀x∈xs,∀Q':KD,Q' (.int (g x)) h->te ((jR js σ).set i (some (c x))) h Q')(hq:Q (.int (xs.map g).sum) h):Ĩ TZ (zA (vY (bN i) js ti vX te) WF) σ h Q:=by
 show vY (bN i) js ti vX te σ h (λx h1=>TZ [x] h1 Q);exact lcA xs c (λx=> .int (g x)) hz hj ht he λp hp=>⟨p,xs.map g,rfl,by rw [jc,N8];rfl,by rw [zZ hp];exact hq⟩
def He (xs:G0 α)(c:α->D)(g:α->N4)(hz:xs.length<=1000)(hj:j h=some (xs.map c))(ht: ∀R:ItD->HD->Prop,R j h->ti σ h R)
 (he: ∀x∈xs,∀Q':KD,Q' (.bl (g x)) h->te ((jR js σ).set i (some (c x))) h Q')(hq:Q (.bl (xs.all g)) h):Ĩ Na (zA (vY (bN i) js ti vX te) WF) σ h Q:=by
 show vY (bN i) js ti vX te σ h (λx h1=>Na [x] h1 Q);exact lcA xs c (λx=> .bl (g x)) hz hj ht he λp hp=>⟨p,xs.map g,rfl,by rw [jc,N8];rfl,by rw [zZ hp,cL];exact hq⟩
def kQ (xs:G0 α)(c:α->D)(g:α->N4)(hz:xs.length<=1000)(hj:j h=some (xs.map c))(ht: ∀R:ItD->HD->Prop,R j h->ti σ h R)
 (he: ∀x∈xs,∀Q':KD,Q' (.bl (g x)) h->te ((jR js σ).set i (some (c x))) h Q')(hq:Q (.bl (xs.any g)) h):Ĩ TU (zA (vY (bN i) js ti vX te) WF) σ h Q:=by
 show vY (bN i) js ti vX te σ h (λx h1=>TU [x] h1 Q);exact lcA xs c (λx=> .bl (g x)) hz hj ht he λp hp=>⟨p,xs.map g,rfl,by rw [jc,N8];rfl,by rw [zZ hp,nK];exact hq⟩
def kT (xs:G0 α)(c:α->D)(ys:α->G0 β)(c':β->D)(g:α->β->N4)(hz:(xs.flatMap ys).length<=1000)(hj:j h=some (xs.map c))(ht: ∀R:ItD->HD->Prop,R j h->ti σ h R)
 (hin: ∀x∈xs,∀R:ItD->HD->Prop,R (λ_=>some ((ys x).map c')) h->Ŕ ((jR js σ).set i (some (c x))) h R)
 (he: ∀x∈xs,∀y∈ys x,∀Q':KD,Q' (.bl (g x y)) h->te (((jR js σ).set i (some (c x))).set i' (some (c' y))) h Q')(hq:Q (.bl (xs.all λx=>(ys x).all (g x))) h):Ĩ Na (zA (Ol (bN i) js ti vX i' Ŕ vX te) WF) σ h Q:=by
 show Ol (bN i) js ti vX i' Ŕ vX te σ h (λx h1=>Na [x] h1 Q);refine lcB xs c ys c' (λx y=> .bl (g x y)) hz hj ht hin he λp hp=> ?_
 ·have e:(xs.flatMap λx=>(ys x).map λy=>D.bl (g x y))=(xs.flatMap λx=>(ys x).map (g x)).map D.bl:=by
   clear hz hj ht hin he hq
   induction xs with
   |nil=>rfl
   |cons x l ih=>simp [dA,ih,N8]
  refine⟨p,xs.flatMap λx=>(ys x).map (g x),rfl,by rw [jc,e],?_⟩;rw [zZ hp];have e2:(xs.flatMap λx=>(ys x).map (g x)).all id=xs.all λx=>(ys x).all (g x):=by
   clear hz hj ht hin he hq e
   induction xs with
   |nil=>rfl
   |cons x l ih=>simp [dA,ih,cL]
  rw [e2];exact hq
end
end L2
namespace L2
open PySem PySem.Spec PyProof.Rows PySem.SeqAt
noncomputable def zM (o:G0 G6):D:= .tup (o.map λ(k:G6)=>D.int (k:P1))
def Ģ (n:G6)(o:G0 G6):Prop:=o.Perm (P5 n)
variable {n:G6}
def Ģ.ord {o:G0 G6}(h:Ģ n o):Ord n o:=⟨by rw [h.length_eq,R0],λi hi=>h.mem_iff.mpr (D1.mpr hi)⟩
def Ģ.insert {o:G0 G6}(h:Ģ n o)(k:G6):Ģ (n+1) (o.take k++n::o.drop k):=by
 unfold Ģ;rw [cR];refine mX.trans ?_;rw [N5];exact(G1d n h).trans (List.perm_append_singleton n _).symm
theorem VO (h:HD): ∀ns:G0 P1,ġ h (ns.map D.int) (ns.map lD)
 | []=>rfl
 |n::ns=>⟨_,_,rfl,rfl,VO h ns⟩
theorem vB: ∀ns:G0 P1,F8 (ns.map lD)=true
 | []=>rfl
 |n::ns=>by show (A5 (.int n)&&_)=true;rw [vB ns];rfl
theorem JF: ∀ns:G0 P1,L7 (ns.map lD)<=1
 | []=>by simp [L7]
 |n::ns=>by
  have:=JF ns;simp only [T6,L7,U4];omega
noncomputable def vd (r:G0 P1):V8:= .tuple (r.map .int)
noncomputable def Dl (T:G0 (G0 P1)):V8:= .tuple (T.map vd)
theorem VP (h:HD): ∀T:G0 (G0 P1),ġ h (T.map wx) (T.map vd)
 | []=>rfl
 |r::T=>⟨_,_,rfl,⟨_,rfl,VO h r⟩,VP h T⟩
def FK (h:HD)(T:G0 (G0 P1)):Ķ h (jp T) (Dl T):=⟨_,rfl,VP h T⟩
theorem vC: ∀T:G0 (G0 P1),F8 (T.map vd)=true
 | []=>rfl
 |r::T=>by
  show (A5 (vd r)&&_)=true;rw [vC T];have:A5 (vd r)=true:=by unfold vd;simp only [A5];exact vB r
  rw [this];rfl
theorem yZ: ∀T:G0 (G0 P1),L7 (T.map vd)<=3
 | []=>by simp [L7]
 |r::T=>by
  have:=yZ T;have h2:=JF r;simp only [T6,L7,U4,vd];omega
variable {e:G6}{T:G0 (G0 P1)}
def Dm (h:Sq n e T){i:G6}(hi:i<n):ć (T.map wx) (i:P1)=some (wx (T.getD i [])):=by
 have hi':i<T.length:=by rw [h.len];exact hi
 exact zY (by rw [P9,D2,G1 hi'];rfl)
def Sq.getRow (h:Sq n e T){i:G6}(hi:i<n):T.getD i []∈T:=by
 have hi':i<T.length:=by rw [h.len];exact hi
 rw [D2,G1 hi'];exact N0 hi'
def ZQ {r:G0 P1}(h:r.length=n){j:G6}(hj:j<n):ć (r.map D.int) (j:P1)=some (.int (r.getD j 0)):=by
 have hj':j<r.length:=by rw [h];exact hj
 exact zY (by rw [P9,D2,G1 hj'];rfl)
def BH (n:G6)(f:G6->G6->P1):D.tup ((P5 n).map λi=>D.tup ((P5 n).map λj=>D.int (f i j)))=jp (Ľ n f):=by
 unfold jp wx Ľ;rw [N8]
 congr 1
 apply C7;intro i _;simp [N8,gO]
def Do (T:G0 (G0 P1))(f:P1->P1):D.tup (T.map λr=>D.tup (r.map λx=>D.int (f x)))=jp (T.map λr=>r.map f):=by
 unfold jp wx;rw [N8]
 congr 1
 apply C7;intro r _;simp [N8,gO]
def Dp (h:Sq n e T):yA n T=T.map λr=>r.map λx=>if x≠0 then 1 else 0:=by
 conv=>rhs;rw [h.eq_mk]
 unfold yA Ľ;rw [N8];apply C7;intro i _;simp only [J3,N8];apply C7;intro j _;simp only [J3]
 by_cases z:Ð T i j=0
 ·rw [R9 z,S4 (by simpa using z)]
 ·rw [S4 z,R9 z]
def Nk (h:Sq n e T)(h6:n<=6):(T.flatMap λr=>r).length<=1000:=by
 have: ∀U:G0 (G0 P1),(∀r∈U,r.length=n)->(U.flatMap λr=>r).length=U.length*n:=λU=>by
  induction U with
  |nil=>intro _;simp
  |cons r U ih=>
   intro hU;rw [dA,P3,ih λr hr=>hU r (R1 _ hr),hU r P4,R3,gJ];omega
 rw [this T h.row,h.len];have:=uO h6 h6;omega
def Qi {U:G0 (G0 P1)}(h:Sq n e T):(T.map λr=>D.tup ((P5 n).map λj=>D.int (jX n λm=>r.getD m 0*Ð U m j)))=(JD n T U).map wx:=by
 conv=>lhs;rw [jT T [],h.len]
 unfold JD Ľ;rw [N8,N8];apply C7;intro i _;simp only [J3,wx,N8];rfl
theorem pow_add (h:Sq n e T)(hn:n<=8)(a:G6): ∀b,GT n T (a+b)=JD n (GT n T a) (GT n T b)
 |0=>by rw [show GT n T 0=Ys n from rfl,Nj (h.pow hn a) hn];rfl
 |b+1=>by
  show JD n (GT n T (a+b)) T=JD n (GT n T a) (JD n (GT n T b) T);rw [pow_add h hn a b,mul_assoc (h.pow hn a) (h.pow hn b) h hn]
def FL (h:Sq n e T)(hn:n<=8):GT n T 1=T:=Qg h hn
variable {i:G6}
def Qj {j:G6}(hi:i<n)(hj:j<n):Ð (yA n T) i j=if Ð T i j=0 then 0 else 1:=ZO hi hj
def Jb {j:G6}(hi:i<n)(hj:j<n):Ð (yA n T) i j=0↔Ð T i j=0:=by
 rw [Qj hi hj]
 by_cases z:Ð T i j=0
 ·rw [R9 z];simp [z]
 ·rw [S4 z];simp [z]
def zH {f j:G6}{U:G0 (G0 P1)}(h:Sq n e T)(g:Sq n f U)(hi:i<n)(hj:j<n):Ð (JD n T U) i j≠0↔ ∃k,k<n/\Ð T i k≠0/\Ð U k j≠0:=by
 rw [yy hi hj];have nn: ∀k,k<n->0<=Ð T i k*Ð U k j:=λk hk=>oZ (h.ent_nn hi hk).1 (g.ent_nn hk hj).1
 have s:=Yr nn;have p:=Dj nn;constructor
 ·intro z;obtain⟨k,hk,w⟩:=p.mp (by omega);refine⟨k,hk,λq=> ?_,λq=> ?_⟩
  ·rw [q] at w;simp at w
  ·rw [q] at w;simp at w
 ·rintro ⟨k,hk,a,b⟩ z;have c:=(h.ent_nn hi hk).1;have d:=(g.ent_nn hk hj).1;have:0<Ð T i k*Ð U k j:=IU (by omega) (by omega);have:=p.mpr ⟨k,hk,this⟩;omega
def Yt (h:Sq n e T):jG T=true↔ ∀i j,i<n->j<n->Ð T i j≠0:=by
 have h1:jG T=jG (Ľ n (Ð T)):=by rw [<-h.eq_mk]
 rw [h1,FI]
section
variable {prog:T7}{w:C1}{A:N7}{E:G2->G5->Prop}{s:G5}
def vD {Q:iE->G5->Prop}(hh:A.handled=none)(hE: ∀h' e,(∀b o,s.heap.get? b=some o->h'.get? b=some o)->(∃o,h'.get? e=some o/\o.cls= .type "StopIteration")->E (.ref e) {s with heap:=h'}):R5 (S0 prog w) A gP Q E s:=by
 obtain⟨hp,g,d,tk,os⟩:=s;unfold gP
 wp_walk
 unfold raiseNew;refine wpAny_bind (wpAny_handled ?_);rw [hh];exact wpAny_bind (P0 (wpAny_throw (hE _ _ (λb o q=>G9 _ (G9 _ q)) ⟨_,S6 _ rfl,rfl⟩)))
end
section
variable {X:Cx}{À:G0 (P2×Obj)}{σ:G0 (D4 V)}{H:Hp}{s:G5}{h':A7}
def Inv.turnL {t':G6}{ch:G0 P2}(I:Inv X À σ H s)(k: ∀b o,b ∉ ch->s.heap.get? b=some o->h'.get? b=some o)(hc: ∀b∈ch,UQ X À H b):Inv X À σ H {s with heap:=h',toks:=t'}:=by
 refine I.step (g':=s.gens) (d':=s.drawn) (ch:=ch) (λb hb=>let ⟨_,f1,_,f3,f4,f5⟩:=hc b hb;⟨f3,f1,f4,f5⟩) (λb o _ _ nb e _=>k b o nb e) (λb o _ _ nb e _=>⟨o.slots,k b o nb e⟩) (λ_ _ _ _ n=>n)
  (λb o nb e=>⟨o,k b o nb e⟩) (λ_ _ e=>e) (λ_ _ _ e=>e) (λb ps e=>⟨#[],by rw [e];simp⟩) (λm hm=> ?_) (λb u e=> ?_) I.bare
 ·obtain⟨o,es,ep,ho,r⟩:=hm;exact⟨o,es,ep,k _ o (λz=>(hc _ z).2.1 rfl) ho,r⟩
 ·refine(I.hok b u e).stay (λc v hb q=>k c v (λz=> ?_) q) (λ_ q=>q) λ_ _ q=>q
  have f:=(hc c z).1;rcases hb with w|w
  ·rw [w,e] at f;cases f
  ·rw [w] at f;cases f
def Inv.turnLaid {t':G6}{ch:G0 P2}{a:P2}{o:HO}(I:Inv X À σ H s)(k: ∀b u,b ∉ ch->s.heap.get? b=some u->h'.get? b=some u)(hc: ∀b∈ch,UQ X À H b)(hp:s.heap.objs.size<=a)
 (new:Ø X.prog X.w (upd H a o) h' a o):Inv X À σ (upd H a o) {s with heap:=h',toks:=t'}:=by
 have hn:=I.hok.fresh hp;refine I.step (g':=s.gens) (d':=s.drawn) (ch:=ch) (λb hb=>let ⟨_,f1,_,f3,f4,f5⟩:=hc b hb;⟨f3,f1,f4,f5⟩) (λb u _ _ nb e _=>k b u nb e) (λb u _ _ nb e _=>⟨u.slots,k b u nb e⟩)
  (λb u _ e n=>by rw [jj (M7 (B2 (D9 e) hp))];exact n) (λb u nb e=>⟨u,k b u nb e⟩) (λb xs q=>by rw [jj (ji q hn)];exact q) (λb u xs q=>by rw [jj (ji q hn)];exact q)
  (λb ps q=>⟨#[],by rw [jj (ji q hn),q];simp⟩) (λm hm=> ?_) (λb u e=> ?_) I.bare
 ·obtain⟨u,es,ep,ho,r⟩:=hm;exact⟨u,es,ep,k _ u (λz=>(hc _ z).2.1 rfl) ho,r⟩
 ·by_cases hb:b=a
  ·subst hb;rw [jt] at e;cases e;exact new
  ·rw [jj hb] at e;refine(I.hok b u e).stay (λc v hb q=>k c v (λz=> ?_) q) (λc q=>by rw [jj (ji q hn)];exact q) λc xs q=>by rw [jj (ji q hn)];exact q
   have f:=(hc c z).1;rcases hb with w|w
   ·rw [w,e] at f;cases f
   ·rw [w] at f;cases f
end
noncomputable def Yu (ds:G0 D):G0 D:=ds.zipIdx.map λp=> .tup [.int (p.2:P1),p.1]
def Yv {ds:G0 D}{d:D}(h:(Yu ds)[i]? =some d): ∃x,ds[i]? =some x/\d= .tup [.int (i:P1),x]:=by
 unfold Yu at h;rw [P9,List.getElem?_zipIdx] at h;cases q:ds[i]? with
 |none=>rw [q] at h;cases h
 |some x=>
  rw [q] at h;refine⟨x,rfl,?_⟩;have h':some (D.tup [.int ((0+i:G6):P1),x])=some d:=h;rw [E3] at h';exact(A2 h').symm
def vE (ds:G0 D):(Yu ds).length=ds.length:=by simp [Yu]
def Dq (c:TTD)(tb:TSD):TSD:=λD σ h=> ∃W:G6->SD->HD->Prop,(∃m,W m σ h)/\ ∀m Â h',W m Â h'->c Â h' λb h1=>
 if b=true then tb {D with nx:=λà h2=> ∃m' h3,m'<m/\Sub h3 h2/\W m' à h3,ct:=λà h2=> ∃m' h3,m'<m/\Sub h3 h2/\W m' à h3,bk:=D.nx} Â h1 else D.nx Â h1
def Nl {K:G7}{c:TTD}{tb:TSD}: ∀D σ H,LS K (Dq c tb) D σ H->Bw (LT K c) (LS K tb) D σ H:=λD σ H ⟨Æ,h,Dd,rs,rh,⟨W,⟨m0,w0⟩,turn⟩,nx,rt,bk,ct⟩=>by
 refine⟨λm Â H'=>Kept H H'/\ ∃Ü h',Ñ K H' Ü Â/\È K h' H'/\W m Ü h',⟨m0,.refl _,Æ,h,rs,rh,w0⟩,?_⟩;rintro m Â H' ⟨kp,Ü,h',rs',Ğ,w⟩;refine LT.bind rs' Ğ (turn m Ü h' w) λb h1 H1 k1 Ù Ê q1=> ?_
 cases b with
 |false=>
  rw [S4 D6] at q1 ⊢;exact nx _ _ _ _ (kp.trans k1) Ù Ê q1
 |true=>
  rw [R9 rfl] at q1 ⊢;have kk:Kept H H1:=kp.trans k1;refine⟨λà H2=>Kept H H2/\ ∃m',m'<m/\ ∃ï h2,Ñ K H2 ï à/\È K h2 H2/\W m' ï h2,λà H2 ⟨k2,m',hm,a,b,c,d,e⟩=>⟨m',hm,k2,a,b,c,d,e⟩,?_⟩;exact⟨Ü,h1,_,Ù,Ê,q1,λa b c d k4 Ű Ō ⟨m',h4,hm,sb,w4⟩=>⟨kk.trans k4,m',hm,a,h4,Ű,Ō.sub sb,w4⟩,jL rt kk,λa b c d k4 Ű Ō q4=>nx a b c d (kk.trans k4) Ű Ō q4,λa b c d k4 Ű Ō ⟨m',h4,hm,sb,w4⟩=>⟨kk.trans k4,m',hm,a,h4,Ű,Ō.sub sb,w4⟩⟩
section
variable {X:Cx}{pos:Pos}
def VQ {c:N3}{body:G0 Q2}{tc:TTD}{tb:TSD}(hp:pN (S0 X.prog X.w) X.A X.env X.xe)(hc:JT X c tc)(hb:Ū X body tb):JS X (.While c body [] pos) (Dq tc tb):=⟨(MG hp hc.to hb.to).imp Nl⟩
end
def Jc {c:TTD}{tb:TSD}{E:EndsD}{σ:SD}{h:HD}(W:G6->SD->HD->Prop)(m:G6)(w0:W m σ h)
 (turn: ∀m Â h',W m Â h'->c Â h' λb h1=>if b=true then tb {E with nx:=λà h2=> ∃m' h3,m'<m/\Sub h3 h2/\W m' à h3,ct:=λà h2=> ∃m' h3,m'<m/\Sub h3 h2/\W m' à h3,bk:=E.nx} Â h1 else E.nx Â h1):Dq c tb E σ h:=⟨W,⟨m,w0⟩,turn⟩
section
variable {prog:T7}{w:C1}{A:N7}{E:G2->G5->Prop}{s:G5}{z TI TO i1 i2:P2}
def UZ {T newId X0y:W3}{pos:G0 G2}{kw:G0 (Str×G2)}{Made:G2->G5->Prop}{Q:G2->G5->Prop}(ft:TypeCalled T newId X0y)(fits:xH T ⟨pos,kw⟩=pure ())
 (made:R5 (S0 prog w) A.in1 (call (.builtin newId) (.type T::pos) kw) Made E s)
 (begun: ∀o s₁,Made o s₁->s₁.TypeIs o T/\R5 (S0 prog w) A.in1 (rG o "__init__" pos kw) (λr s₂=>r=some .none/\Q o s₂) E s₁):
 R5 (S0 prog w) A (call (.type T) pos kw) Q E s:=by
 have f1:=ft.notType;have f2:=ft.canCreate;have f3:=ft.made;have f4:=ft.sub;obtain⟨_,_,f5⟩:=ft.mro;have first:=λ{Q':G2->G5->Prop} (k: ∀o s₁,Made o s₁->Q' o s₁)=>M5 (E':=E) made k λ_ _ z=>z
 refine qF (n9 (P0 ⟨Code.quiet_builtin _ (by decide +kernel),aQ F.entry_type_call ?_⟩));rw [Around.under_plain (weight_type_call_type T pos kw) (units_type_call_type T pos kw)]
 wp_walk using first
 intro o s₁ m;obtain⟨ty,X03⟩:=begun o s₁ m;refine wpAny_bind (cC (b:=true) ty f4 (wpAny_bind (O8 (M5 X03 (λr s₂ q=> ?_) λ_ _ z=>z))));obtain⟨rfl,q⟩:=q;exact P0 q
end
def inE (neg:N4):RD2:=λx y h Q=> ∃ (p:V8) (ps:G0 V8),Ķ h x p/\(Ķ h y (.list ps)\/Ķ h y (.tuple ps))/\p.canLay0=true/\F8 ps=true/\p.depth<=60/\Q (.bl (neg !=ps.any λz=>K5 z p)) h
section
variable {X:Cx}
def Yw (hu:X.A.units+64<cLine):ñ X (B9 .NotIn) (inE true):=by
 intro À s σ H x y v u Q I rx ry h;obtain⟨dx,dy,h,Qd,r1,r2,rh,⟨p,ps,t1,t2,c1,c2,c3,qq⟩,post⟩:=h;obtain⟨as,a1⟩:=ww I rh t1 r1 rx;have hu':X.A.units+1+min (L7 ps) p.depth<cLine:=by have:=b8 (L7 ps) p.depth;omega
 have q':Qd (.bl (!ps.any λz=>K5 z p)) h:=by simpa using qq
 rcases t2 with t2|t2
 ·obtain⟨bs,b1⟩:=ww I rh t2 r2 ry;exact notIn_list_reads b1 a1 c2 c1 hu' ⟨.bl _,H,I,rfl,post (.bl _) _ _ _ (.refl H) rh rfl q'⟩
 ·obtain⟨bs,b1⟩:=ww I rh t2 r2 ry;exact notIn_tuple_reads b1 a1 c2 c1 hu' ⟨.bl _,H,I,rfl,post (.bl _) _ _ _ (.refl H) rh rfl q'⟩
end
def Ks (i:G6)(f:P1->P1->P1)(te:TED):TSD:=λD σ h=> ∃x:P1,σ[i]? =some (some (.int x))/\te σ h λy h1=> ∃j:P1,y= .int j/\D.nx (σ.set i (some (.int (f x j)))) h1
def Em {K:G7}{f:P1->P1->P1}{te:TED}: ∀D σ H,LS K (Ks i f te) D σ H->HS i (LE K te) (ipI f) D σ H:=λD σ H ⟨Æ,h,Dd,rs,rh,⟨x,hx,q⟩,nx,rt,bk,ct⟩=>by
 obtain⟨v,e1,r1⟩:=rs.2 i _ hx;cases (show v= .int x from r1);exact⟨_,e1,LE.bind rs rh q λd u h1 H1 k1 Ù Ê r1 ⟨j,e,q1⟩=>by
  subst e;cases (show u= .int j from r1);exact⟨x,j,rfl,rfl,nx _ _ _ _ k1 (Ù.set (d:= .int (f x j)) rfl i) Ê q1⟩⟩
section
variable {X:Cx}{i:G6}{x:Str}{e:N3}{te:TED}{pos pos':Pos}
def FM (hN:X.N.Nodup)(hi:X.N[i]? =some x)(hx:Loc X.env.scope x)(he:JE X e te)(hf:X.fn x=true\/X.env.scope.names.lookup x=some .local:=by first|exact .inl rfl|exact .inr rfl|assumption):JS X (.AugAssign (.Name x pos') .Add e pos) (Ks i (λa b=>a+b) te):=⟨(OO hN hi hx he.to OP hf).imp Em⟩
end
end L2
namespace L2
open PySem PySem.Spec PyProof.Rows
section
variable {prog:T7}{w:C1}{A:N7}{E:G2->G5->Prop}{s:G5}
theorem Jd: ∀ {vs:G0 G2} {ns:G0 P1},iZ vs ns-> ∀ {i:G6} {v:G2},vs[i]? =some v-> ∃t,v= .int (ns.getD i 0) t/\i<ns.length
 |_,_,.nil,_,_,hv=>by simp at hv
 |_,_,.cons _ t _,0,_,hv=>⟨t,by simpa using hv.symm,by simp⟩
 |_,_,.cons _ _ r,i+1,_,hv=>by
  obtain⟨t,e,lt⟩:=Jd r (i:=i) (by simpa using hv);exact⟨t,by simpa using e,by simpa using lt⟩
def VR {l:P2}{o:Obj}(here:l<s.heap.objs.size): ∀b∈ [s.heap.objs.size,l],b<(s.heap.push o).objs.size:=λb hb=>by
 rw [dG];simp only [R7,F5,or_false] at hb;rcases hb with e|e<;>subst e
 ·exact J7 _
 ·exact c9 here
def VS {o:Obj}{h':A7}(k: ∀b u,b ∉ [s.heap.objs.size]->(s.heap.push o).get? b=some u->h'.get? b=some u): ∀b u,s.heap.get? b=some u->h'.get? b=some u:=λb u e=>
 k b u (λm=>absurd (D9 e) (by rw [G8.mp m];exact B8 _)) (G9 _ e)
end
section
variable {X:Cx}
def Dr (hc:X.calm=true):â X (.builtin "min") (λxs H Q=> ∃ (a:P2) (ns:G0 P1),xs= [.ref a]/\ns≠ []/\(è X.K H a (ns.map V.int)\/ö X.K H a (ns.map V.int))/\ ∀m∈ns,(∀x∈ns,m<=x)->Q (.int m) H):=by
 intro À s σ H xs us Q I r h;obtain⟨a,ns,rfl,hne,hS,q⟩:=h;obtain⟨u,rfl,ru⟩:=Zp r;cases ru;have fin: ∀ {its:G0 G2} (hi:iZ its ns) (v:G2) (h':A7) (tk:G6),its.toArray[argBest (λi j=>decide (ns.getD i 0<ns.getD j 0)) (its.toArray.size-1)]? =some v->(∀b o,s.heap.get? b=some o->h'.get? b=some o)->EP X À σ Q v {s with heap:=h',toks:=tk}:=λ{its} hi v h' tk hv kept=>by
  obtain⟨t,rfl,lt⟩:=Jd hi (show its[_]? =some v by simpa using hv);refine⟨.int _,H,I.kept kept,⟨t,rfl⟩,q _ (getD_mem lt) λx hx=> ?_⟩;obtain⟨j,hj,rfl⟩:=mem_getD hx;exact(argBest_lt (λi=>ns.getD i 0) (its.toArray.size-1)).2 j (by rw [R4,hi.length];omega)
 refine call_min_walk ?_;rcases hS with hS|hS
 ·obtain⟨its,rv,pl,_⟩:=I.list hS;have hi:=VL rv;obtain⟨o,e,r⟩:=id pl.isList;have W:=nM (prog:=X.prog) (w:=X.w) (A:=X.A.in1) (I.ok.hd hc) s.heap.objs.size a (M7 (D9 e)) its.toArray;exact aJ pl.isList ⟨_,_,_,_,_,_,_,rfl,W,⟨⟨_,S6 _ rfl,rfl,rfl⟩,⟨o,G9 _ e,r⟩⟩,VR (D9 e),by rw [R4,hi.length];exact eO.mpr hne,CmpOf.ints_lt (λi=>ns.getD i 0) (λi v hv=>(Jd hi (by simpa using hv)).imp λ_ z=>z.1),λv h' tk hv k=>fin hi v h' tk hv (VS k)⟩
 ·obtain⟨its,rv,pl,_⟩:=I.tuple hS;have hi:=VL rv;obtain⟨o,e,r⟩:=id pl;have W:=IW (prog:=X.prog) (w:=X.w) (A:=X.A.in1) (I.ok.hd hc) s.heap.objs.size a (M7 (D9 e)) its.toArray;exact lA (show s.heap.IsTuple a its.toArray from pl) ⟨_,_,_,_,_,_,_,rfl,W,⟨⟨_,S6 _ rfl,rfl,rfl⟩,⟨o,G9 _ e,r⟩⟩,VR (D9 e),by rw [R4,hi.length];exact eO.mpr hne,CmpOf.ints_lt (λi=>ns.getD i 0) (λi v hv=>(Jd hi (by simpa using hv)).imp λ_ z=>z.1),λv h' tk hv k=>fin hi v h' tk hv (VS k)⟩
def En (B:G0 P1->P1->Prop):RDn:=λds h Q=> ∃ (ns:G0 P1) (h':HD),ns≠ []/\Sub h' h/\(ds= [.tup (ns.map D.int)]\/ ∃a,ds= [.lst a]/\h a=some (ns.map D.int))/\ ∀m∈ns,B ns m->Q (.int m) h'
abbrev SK:RDn:=En λns m=> ∀x∈ns,m<=x
def Nm {B:G0 P1->P1->Prop}{f:G2}(c:â X f (λxs H Q=> ∃ (a:P2) (ns:G0 P1),xs= [.ref a]/\ns≠ []/\(è X.K H a (ns.map V.int)\/ö X.K H a (ns.map V.int))/\ ∀m∈ns,B ns m->Q (.int m) H)):vc X f (En B):=
 c.imp λxs H Q ⟨ds,h,Qd,r,rh,⟨ns,h',hne,hs,e,q⟩,p⟩=>by
  rcases e with e|⟨a,e,ha⟩
  ·subst e;obtain⟨v,e,r1⟩:=jH r;obtain⟨a,vs,e1,hH,r2⟩:=(show ∃a vs,v= .ref a/\H a=some (.tup vs)/\Á X.K H (ns.map D.int) vs from r1);rw [zr r2] at hH;subst e e1;exact⟨a,ns,rfl,hne,.inr (ö.of hH),λm m1 m2=>p (.int m) _ _ _ (.refl H) (rh.sub hs) rfl (q m m1 m2)⟩
  ·subst e;obtain⟨v,e,r1⟩:=jH r;obtain⟨vs,hH,r2⟩:=rh a _ ha;have e1:v= .ref a:=r1.1;rw [zr r2] at hH;subst e e1;exact⟨a,ns,rfl,hne,.inl (è.of hH),λm m1 m2=>p (.int m) _ _ _ (.refl H) (rh.sub hs) rfl (q m m1 m2)⟩
def Ds (hc:X.calm=true):vc X (.builtin "min") SK:=Nm (Dr hc)
end
def FN {r:G0 P1}{h:HD}{Q:KD}(hne:r≠ [])(q: ∀m∈r,(∀x∈r,m<=x)->Q (.int m) h):SK [wx r] h Q:=⟨r,h,hne,Sub.refl h,.inl rfl,q⟩
noncomputable def Zi (r:G0 P1):P1:=(r.min?).getD 0
def Dt {r:G0 P1}{m:P1}(h:m∈r)(l: ∀x∈r,m<=x):m=Zi r:=by
 unfold Zi;rw [oG.mpr ⟨h,l⟩];rfl
def WJ {r:G0 P1}(h:r≠ []):Zi r∈r/\ ∀x∈r,Zi r<=x:=by
 cases e:r.min? with
 |none=>exact absurd (List.min?_eq_none_iff.mp e) h
 |some m=>
  have:=oG.mp e;unfold Zi;rw [e];exact this
def Yx {n e:G6}{T:G0 (G0 P1)}(h:Sq n e T)(ne: ∀r∈T,r≠ []){m:P1}(m1:m∈T.map Zi)(m2: ∀x∈T.map Zi,m<=x):decide (m>0)=jG T:=by
 rw [aM,aK];unfold jG;simp only [S8,aK];constructor
 ·intro hm r hr x hx;have a:=m2 _ (R6.mpr ⟨r,hr,rfl⟩);have b:=(WJ (ne r hr)).2 x hx;omega
 ·intro z;obtain⟨r,hr,rfl⟩:=R6.mp m1;have a:=(WJ (ne r hr)).1;have b:=z r hr _ a;have c:=h.nn r hr _ a;omega
section
variable {α β:Type}{i i':G6}{js:G0 G6}{ti Ŕ:TID}{te:TED}{σ:SD}{h:HD}{Q:KD}{j:ItD}
def kU (xs:G0 α)(c:α->D)(g:α->P1)(hz:xs.length<=1000)(hj:j h=some (xs.map c))(ht: ∀R:ItD->HD->Prop,R j h->ti σ h R)
 (he: ∀x∈xs,∀Q':KD,Q' (.int (g x)) h->te ((jR js σ).set i (some (c x))) h Q')(hne:xs≠ [])(hq: ∀m∈xs.map g,(∀x∈xs.map g,m<=x)->Q (.int m) h):Ĩ SK (zA (vY (bN i) js ti vX te) WF) σ h Q:=by
 show vY (bN i) js ti vX te σ h (λx h1=>SK [x] h1 Q);exact lcA xs c (λx=> .int (g x)) hz hj ht he λp hp=>⟨xs.map g,h,λz=>hne (List.map_eq_nil_iff.mp z),Sub.newAt (Sub.refl h) hp,.inr ⟨p,rfl,by rw [jc,N8];rfl⟩,hq⟩
end
end L2
namespace L2
open PySem PySem.Spec PyProof.Rows PySem.SeqAt
def Nn {X:Cx}(hu:X.A.units+64<cLine):MtM X "list.index" (λx vs H Q=> ∃ (a:P2) (y:V) (dy:D) (h:HD) (p:V8) (ps:G0 V8) (j:G6) (z:V8),x= .ref a/\vs= [y]/\É X.K H dy y/\È X.K h H/\Ķ h (.lst a) (.list ps)/\Ķ h dy p/\p.canLay0=true/\F8 ps=true/\p.depth<=60/\j<1000000/\ps[j]? =some z/\K5 z p=true/\(∀m y,m<j->ps[m]? =some y->K5 y p=false)/\Q (.int (j:P1)) H):=by
 intro À s σ H x vs v us Q I rx rv h;obtain⟨a,y,dy,h,p,ps,j,z,rfl,rfl,rd,rh,t1,t2,c1,c2,c3,hj,hz,hit,hno,q⟩:=h;cases rx;obtain⟨u,rfl,ru⟩:=Zp rv;obtain⟨a',ds,ea,ha,ts⟩:=(show ∃a' ds,D.lst a= .lst a'/\h a'=some ds/\ġ h ds ps from t1);cases ea;obtain⟨ws,hH,_⟩:=rh a ds ha;obtain⟨as,r1⟩:=ww I rh t1 (show É X.K H (.lst a) (.ref a) from ⟨rfl,ws,hH⟩) (show RelV (.ref a) (.ref a) from rfl);obtain⟨bs,r2⟩:=ww I rh t2 rd ru;cases r1 with
 |list h1 h2 h3 h4=>
  rename_i o its n cs;have em:=readsAll_map ps _ _ c2 h4;have gm: ∀m (hm:m<its.size),ps[m]? =some (readOf s.heap its[m]):=λm hm=>by
   rw [<-em,P9,M8,Y6 hm];rfl
  have hlen:its.size=ps.length:=by rw [<-em,G3,D3]
  have hjs:j<its.size:=by rw [hlen];exact(P7.mp hz).1
  have hu':X.A.units+1+min (L7 ps) p.depth<cLine:=by have:=b8 (L7 ps) p.depth;omega
  obtain⟨oc,od,odt,Ŝ⟩:=o;simp only at h2 h3;subst h2 h3;refine j6 F.slot_list_index ⟨_,h1,rfl⟩ F.entry_list_index (F.args_list_index_2 _ _) (list_indexAt a its n od Ŝ u (λy=>K5 (readOf s.heap y) p) j hjs (by omega) ?_ ?_) ⟨h1,items_eqAt h4 r2 c2 c1 hu',?_⟩
  ·have:=gm j hjs;rw [hz] at this;injection this with this
   rw [<-this];exact hit
  ·intro m hm hmj;exact hno m _ hmj (gm m hm)
  ·exact⟨.int (j:P1),H,I.tok _,⟨_,rfl⟩,q⟩
def kZ (to te:TED):TED:=λσ h Q=>to σ h λx h1=> ∃a,x= .lst a/\te σ h1 λy h2=> ∃ (p:V8) (ps:G0 V8) (j:G6) (z:V8),Ķ h2 (.lst a) (.list ps)/\Ķ h2 y p/\p.canLay0=true/\F8 ps=true/\p.depth<=60/\j<1000000/\ps[j]? =some z/\K5 z p=true/\(∀m y,m<j->ps[m]? =some y->K5 y p=false)/\Q (.int (j:P1)) h2
section
variable {X:Cx}{o e i:N3}{to te ti:TED}{apos Ï:Pos}
def uc (hu : X.A.units + 64 < cLine) (ho : JE X o to) (he : JE X e te) (hbase : bV o "index" X.env (K0 o X.env) = K0 o X.env := by rfl)
    (hfew : ((U8 Ï (S5 [e] X.env)).all (fun x => !x.1) && (j5 Ï (dF [] X.env)).all (fun x => x.1.isSome) && decide ([e].length + ([] : G0 cJ).length + (if ([] : G0 cJ).isEmpty then 0 else 1) < 30)) = true := by rfl)
    (hline : (apos.endLine == Ï.line) = true := by rfl) (hs : S5 [e] X.env = (false, K0 e X.env) :: S5 [] X.env := by rfl) (hplain : (U8 Ï (S5 [] X.env)).any (·.1) = false := by rfl) :
    JE X (.Call (.Attribute o "index" apos) [e] [] Ï) (kZ to te) :=
  ⟨(MS cA xY xZ (Nn hu) ho.to (wQ he.to Č hs) hbase hfew hline hs hplain).imp
    fun σ H Q ⟨Æ, h, Qd, rs, rh, t, p⟩ => LE.bind rs rh t fun d v h1 H1 k1 Ù Ê r1 ⟨a, e, q⟩ => by
      subst e
      obtain ⟨e1, vs, hH⟩ := (show v = .ref a ∧ ∃ vs, H1 a = some (.lst vs) from r1)
      subst e1
      refine ⟨.inl ⟨rfl, vs, è.of hH⟩, ?_⟩
      refine LE.bind Ù Ê q fun y u h2 H2 k2 ĩ ê r2 ⟨pd, ps, j, z, t1, t2, c1, c2, c3, hj, hz, hit, hno, q2⟩ => ?_
      exact ⟨a, u, y, h2, pd, ps, j, z, rfl, rfl, r2, ê, t1, t2, c1, c2, c3, hj, hz, hit, hno, p (.int _) _ _ _ (k1.trans k2) ê rfl q2⟩⟩
end
section
variable {α:Type}{i i':G6}{js:G0 G6}{ti:TID}{te:TED}{σ:SD}{h:HD}{Q:KD}{j:ItD}
def Kt (xs:G0 α)(c c' g:α->D)(hz:xs.length<=1000)(hj:j h=some (xs.map λx=> .tup [c x,c' x]))(ht: ∀R:ItD->HD->Prop,R j h->ti σ h R)
 (he: ∀x∈xs,∀Q':KD,Q' (g x) h->te (((jR js σ).set i (some (c x))).set i' (some (c' x))) h Q')(hq: ∀p,h p=none->Q (.lst p) (zK h p (xs.map g))):vY (b2 i i') js ti vX te σ h Q:=by
 refine ht _ ⟨xs.length,λk ys h'=>h'=h/\ys=(xs.take k).map g,⟨rfl,by simp⟩,?_⟩;rintro k ys h' ⟨rfl,rfl⟩;refine⟨by simp only [G3,T5];exact T8 (zb (by omega)),_,hj,by simp,λhl p hp=> ?_,λd hd=> ?_⟩
 ·rw [T9 (by simpa using hl)];exact hq p hp
 ·rw [P9] at hd;cases hx:xs[k]? with
  |none=>rw [hx] at hd;cases hd
  |some x=>
   rw [hx] at hd;cases hd;refine⟨_,⟨_,_,rfl,rfl⟩,?_⟩;unfold vX;dsimp only;rw [R9 rfl];refine he x (P8 hx) _ ⟨h',Sub.refl _,rfl,?_⟩;rw [C4,hx];simp
end
def IsS (n:G6)(S:G0 G6):Prop:= ∃p:G6->N4,S=(P5 n).filter p
noncomputable def itF {α:Type}(f:α->α)(x:α):G6->α
 |0=>x
 |k+1=>f (itF f x k)
theorem wb {α:Type}[DecidableEq α]: ∀ {l m:G0 α},l.Nodup->(∀x∈l,x∈m)->l.length<=m.length
 | [],_,_,_=>N9 _
 |a::l,m,nd,h=>by
  have hm:=h a P4;have h2:l.length<=(m.erase a).length:=wb (E1.mp nd).2 λx hx=>by
   have hxa:x≠a:=λe=>(E1.mp nd).1 (e ▸ hx)
   exact(dH hxa).mpr (h x (R1 _ hx))
  rw [bX hm] at h2;have:=cM hm;simp only [R3];omega
def WK (r:G0 P1):(vd r).canLay0=true:=by unfold vd;simp only [A5];exact vB r
def Du (r:G0 P1):(vd r).depth<=2:=by unfold vd;simp only [U4];have:=JF r;omega
theorem WL: ∀a b:G0 P1,K9 (a.map lD) (b.map lD)=decide (a=b)
 | [],[]=>by simp [K9]
 | [],_::_=>by simp [K9]
 |_::_,[]=>by simp [K9]
 |x::a,y::b=>by
  show ((x==y)&&K9 (a.map .int) (b.map .int))=_;rw [WL a b,aM];simp
def FO (a b:G0 P1):K5 (vd a) (vd b)=decide (a=b):=WL a b
def Dv {α:Type}{f:G6->α}{L:G6}(h:1<=L):ć ((P5 L).map f) (-1)=some (f (L-1)):=by
 unfold ć ū;rw [G3,R0,S4 (by decide),R9 (by omega)];show ((P5 L).map f)[(-1+(L:P1)).toNat]? =_;rw [show (-1+(L:P1)).toNat=L-1 by omega,P9,J1 (by omega)];rfl
structure Enc {α:Type}[DecidableEq α](e:α->D)(p:α->V8):Prop where
 to: ∀ (h:HD) a,Ķ h (e a) (p a)
 lay: ∀a,(p a).canLay0=true
 dp: ∀a,(p a).depth<=60
 eq: ∀a b,K5 (p a) (p b)=decide (a=b)
section
variable {α:Type}[DecidableEq α]{e:α->D}{p:α->V8}
def Enc.tos (E:Enc e p)(h:HD): ∀as:G0 α,ġ h (as.map e) (as.map p)
 | []=>rfl
 |a::as=>⟨_,_,rfl,E.to h a,E.tos h as⟩
def Enc.lays (E:Enc e p): ∀as:G0 α,F8 (as.map p)=true
 | []=>rfl
 |a::as=>by show (A5 (p a)&&_)=true;rw [E.lays as,E.lay a];rfl
def BI (E:Enc e p){neg:N4}{x:α}{as:G0 α}{a:P2}{h:HD}{Q:KD}(ha:h a=some (as.map e))(q: ∀b:N4,(b=true↔x∈as)->Q (.bl (neg !=b)) h):inE neg (e x) (.lst a) h Q:=by
 refine⟨p x,as.map p,E.to h x,.inl ⟨a,_,rfl,ha,E.tos h as⟩,E.lay x,E.lays as,E.dp x,q _ ?_⟩;rw [nK,U5];constructor
 ·rintro ⟨y,hy,z⟩;have:y=x:=by simpa [J3,E.eq] using z
  rw [<-this];exact hy
 ·intro hi;exact⟨x,hi,by simp [J3,E.eq]⟩
def Eo (E:Enc e p){x:α}{as:G0 α}{a:P2}{h:HD}(ha:h a=some (as.map e))(hx:x∈as)(hl:as.length<=100000):
 ∃ (j:G6) (q:V8) (qs:G0 V8) (z:V8),as[j]? =some x/\Ķ h (.lst a) (.list qs)/\Ķ h (e x) q/\q.canLay0=true/\F8 qs=true/\q.depth<=60/\j<1000000/\qs[j]? =some z/\K5 z q=true/\(∀m y,m<j->qs[m]? =some y->K5 y q=false):=by
 have hj:=List.idxOf_lt_length_iff.mpr hx;have ex:as[as.idxOf x]? =some x:=by rw [G1 hj,List.getElem_idxOf hj]
 refine⟨as.idxOf x,p x,as.map p,p x,ex,⟨a,_,rfl,ha,E.tos h as⟩,E.to h x,E.lay x,E.lays as,E.dp x,by omega,?_,by rw [E.eq,S1 rfl],λm y hm hy=> ?_⟩
 ·rw [P9,ex];rfl
 ·rw [P9] at hy;have hml:m<as.length:=by omega
  rw [G1 hml] at hy;cases hy;rw [E.eq];have:=List.not_of_lt_findIdx (p:=(· ==x)) (xs:=as) hm;simpa using this
end
theorem wc: ∀a b:G0 (G0 P1),K9 (a.map vd) (b.map vd)=decide (a=b)
 | [],[]=>by simp [K9]
 | [],_::_=>by simp [K9]
 |_::_,[]=>by simp [K9]
 |x::a,y::b=>by
  show (K5 (vd x) (vd y)&&K9 (a.map vd) (b.map vd))=_;rw [wc a b,FO,aM];simp
def Ŏ:Enc jp Dl:=⟨FK,λT=>by unfold Dl;simp only [A5];exact vC T,λT=>by unfold Dl;simp only [U4];have:=yZ T;omega,wc⟩
noncomputable def ç (n:G6)(T:G0 (G0 P1))(M:G0 (G0 P1)):G0 (G0 P1):=yA n (JD n M T)
def RP (n:G6)(T:G0 (G0 P1))(k i j:G6):Prop:=Ð (GT n T k) i j≠0
section
variable {n e:G6}{T:G0 (G0 P1)}
def Dw (h:Sq n e T)(hn:n<=8)(a b:G6){i j:G6}(hi:i<n)(hj:j<n):RP n T (a+b) i j↔ ∃k,k<n/\RP n T a i k/\RP n T b k j:=by
 unfold RP;rw [pow_add h hn a b];exact zH (h.pow hn a) (h.pow hn b) hi hj
def Xa {i j:G6}(hi:i<n)(hj:j<n):RP n T 0 i j↔i=j:=by
 unfold RP;show Ð (Ys n) i j≠0↔_;unfold Ys;rw [ZO hi hj]
 by_cases z:i=j
 ·simp [z]
 ·simp [z]
theorem BJ (h:Sq n e T)(hn:n<=8): ∀ (m:G6) {i j:G6},i<n->j<n->RP n T m i j-> ∃v:G6->G6,v 0=i/\v m=j/\(∀t,t<=m->v t<n)/\ ∀t,t<m->RP n T 1 (v t) (v (t+1))
 |0,i,j,hi,hj,r=>by
  have:=(Xa hi hj).mp r;exact⟨λ_=>i,rfl,this,λ_ _=>hi,λt ht=>by omega⟩
 |m+1,i,j,hi,hj,r=>by
  obtain⟨k,hk,r1,r2⟩:=(Dw h hn m 1 hi hj).mp r;obtain⟨v,v0,vm,vl,vr⟩:=BJ h hn m hi hk r1;refine⟨λt=>if t<=m then v t else j,?_,?_,λt _=> ?_,λt ht=> ?_⟩
  ·simp [v0]
  ·show (if m+1<=m then v (m+1) else j)=j;rw [S4 (by omega)]
  ·show (if t<=m then v t else j)<n;split
   ·exact vl t (by assumption)
   ·exact hj
  ·show RP n T 1 (if t<=m then v t else j) (if t+1<=m then v (t+1) else j);rw [R9 (by omega)]
   by_cases z:t+1<=m
   ·rw [R9 z];exact vr t (by omega)
   ·rw [S4 z,show t=m by omega,vm];exact r2
theorem Yy (h:Sq n e T)(hn:n<=8){m:G6}{v:G6->G6}(vl: ∀t,t<=m->v t<n)(vr: ∀t,t<m->RP n T 1 (v t) (v (t+1)))(a:G6): ∀b,a+b<=m->RP n T b (v a) (v (a+b))
 |0,hb=>(Xa (vl a (by omega)) (vl a (by omega))).mpr rfl
 |b+1,hb=>(Dw h hn b 1 (vl a (by omega)) (vl _ hb)).mpr ⟨v (a+b),vl _ (by omega),Yy h hn vl vr a b (by omega),vr (a+b) (by omega)⟩
end
structure ă (n:G6)(h0 h:HD)(p R:P2)(rs:G0 P2):Prop where
 at_:h R=some (rs.map D.lst)
 len:rs.length=n
 nR:R ∉ rs
 fR:h0 R=none
 np:p ∉ rs
 nRp:R≠p
 row: ∀a∈rs,h0 a=none/\ ∃r,h a=some (r.map D.int)/\wS n r
section
variable {n:G6}{h0 h:HD}{p R:P2}{rs:G0 P2}
def ă.pen (g:ă n h0 h p R rs)(ds:G0 D):ă n h0 (zK h p ds) p R rs:=
 ⟨jf g.nRp g.at_,g.len,g.nR,g.fR,g.np,g.nRp,λa ha=>⟨(g.row a ha).1,let ⟨r,e,gr⟩:=(g.row a ha).2;⟨r,jf (λz=>g.np (z ▸ ha)) e,gr⟩⟩⟩
def ă.new (g:ă n h0 h p R rs){q:P2}(f:h q=none)(ds:G0 D):ă n h0 (zK h q ds) p R rs:=
 ⟨jd g.at_ f,g.len,g.nR,g.fR,g.np,g.nRp,λa ha=>⟨(g.row a ha).1,let ⟨r,e,gr⟩:=(g.row a ha).2;⟨r,jd e f,gr⟩⟩⟩
def ă.pick (g:ă n h0 h p R rs){i:G6}(hi:i<n): ∃a r,ć (rs.map D.lst) (i:P1)=some (.lst a)/\a∈rs/\h a=some (r.map D.int)/\wS n r/\h0 a=none/\a≠p:=by
 have hi':i<rs.length:=by rw [g.len];exact hi
 have hm:=N0 hi';obtain⟨f,r,e,gr⟩:=g.row _ hm;exact⟨rs[i],r,zY (by rw [P9,G1 hi'];rfl),hm,e,gr,f,λz=>g.np (z ▸ hm)⟩
def ă.set (g:ă n h0 h p R rs){a:P2}{r:G0 P1}(ha:a∈rs)(e:h a=some (r.map D.int))(gr:wS n r){j:G6}{v:P1}(v0:0<=v)(v1:v<=1000000):ă n h0 (zK h a ((r.map D.int).set j (.int v))) p R rs:=by
 refine⟨jf (λz=>g.nR (z ▸ ha)) g.at_,g.len,g.nR,g.fR,g.np,g.nRp,λb hb=>⟨(g.row b hb).1,?_⟩⟩
 by_cases z:b=a
 ·subst z;refine⟨r.set j v,by rw [jc,List.map_set],by rw [tG];exact gr.1,λx hx=> ?_⟩;rcases List.mem_or_eq_of_mem_set hx with y|y
  ·exact gr.2 x y
  ·subst y;exact⟨v0,v1⟩
 ·obtain⟨r',e',gr'⟩:=(g.row b hb).2;exact⟨r',jf z e',gr'⟩
def ă.tab (g:ă n h0 h p R rs): ∃T,ī n T/\(rs.map λa=>D.tup ((h a).getD []))=T.map wx:=by
 have key: ∀l:G0 P2,(∀a∈l,∃r,h a=some (r.map D.int)/\wS n r)-> ∃T:G0 (G0 P1),T.length=l.length/\(∀r∈T,wS n r)/\(l.map λa=>D.tup ((h a).getD []))=T.map wx:=by
  intro l
  induction l with
  |nil=>intro _;exact⟨[],rfl,by simp,rfl⟩
  |cons a l ih=>
   intro hl;obtain⟨T,a1,a2,a3⟩:=ih λb hb=>hl b (R1 _ hb)
   obtain⟨r,e,gr⟩:=hl a P4;refine⟨r::T,by simp [a1],λx hx=> ?_,?_⟩
   ·rcases R7.mp hx with z|z
    ·subst z;exact gr
    ·exact a2 x z
   ·rw [T6,T6,a3,e];rfl
 obtain⟨T,a1,a2,a3⟩:=key rs λa ha=>(g.row a ha).2
 exact⟨T,⟨by rw [a1,g.len],a2⟩,a3⟩
end
variable {n:G6}
def Xb {o:G0 G6}(ho:Ģ n o){i:G6}(hi:i<n): ∃k,k<n/\ć (o.map λ(k:G6)=>D.int (k:P1)) (i:P1)=some (.int (k:P1)):=by
 have hi':i<o.length:=by rw [ho.ord.len];exact hi
 refine⟨o[i],D1.mp (ho.mem_iff.mp (N0 hi')),zY (by rw [P9,G1 hi'];rfl)⟩
def No {o:G0 G6}(ho:Ģ n o)(hn:1<=n): ∃k,k<n/\ć (o.map λ(k:G6)=>D.int (k:P1)) (-1)=some (.int (k:P1)):=by
 have hl:=ho.ord.len;have hi':n-1<o.length:=by omega
 refine⟨o[n-1],D1.mp (ho.mem_iff.mp (N0 hi')),?_⟩;unfold ć ū;rw [G3,hl,S4 (by decide),R9 (by omega)];show (o.map λ(k:G6)=>D.int (k:P1))[(-1+(n:P1)).toNat]? =_;rw [show (-1+(n:P1)).toNat=n-1 by omega,P9,G1 hi'];rfl
def Dx {i:G6}(h:i<n):ū n (i:P1)=some i:=by
 unfold ū;simp;omega
def Gq {prog:T7}{w:C1}{A:N7}(hh:A.handled=none)(it t:P2)(items:S9 G2)(n:G6)(hn:items.size<=n):
 Draws prog w A it [it,t] n (λ_ _=>False) (λi h=>i=n/\h.IsListIter it t n/\h.IsList t items) where
 live:=λ_ _ st=>let ⟨o,ho,_⟩:=st.2.1;⟨o,ho⟩
 frame:=λ_ _ _ st hk=>⟨st.1,st.2.1.at λo e=>hk it (by simp) o e,st.2.2.at λo e=>hk t (by simp) o e⟩
 item:=λi s Q E hi st hQ=>absurd st.1 (M7 hi)
 done:=λs Q E st hE=>wpAny_nextOf_list_end hh st.2.1 st.2.2 (nN hn) hE
noncomputable def Hf (K:G7)(a:P2):It:=
 ⟨λi H=> ∃xs x,è K H a xs/\xs[i]? =some x,λi H x H'=> ∃p v,H p=none/\(∀xs,è K H a xs->xs[i]? =some v)/\x= .ref p/\H'=upd H p (.tup [.int i,v]),λi H=> ∃xs,è K H a xs/\xs.length<=i⟩
def Gr {P:T7}{w:C1}{K:G7}{es:G0 N3}{k:G6}{pos:Pos}(a it e:P2)(hei:e≠it)(hae:a≠e)(hai:a≠it):Θ P w K (.Tuple es k pos) (Hf K a) [e,it] e (λi h=>(∃old,IsEnum h e it i old)/\h.IsListIter it a i) where
 mem:=by simp
 obj:=λi h st b hb=>by
  rcases R7.mp hb with z|z
  ·subst z;obtain⟨old,q⟩:=st.1;exact⟨_,q,λv z=>by cases z⟩
  ·have z:=G8.mp z;subst z;obtain⟨o,q,c,d⟩:=st.2;exact⟨o,q,λv z=>by rw [d] at z;cases z⟩
 keep:=λi h h' st k=>⟨let ⟨old,q⟩:=st.1;⟨old,k e (by simp) _ q⟩,st.2.at λo q=>k it (by simp) o q⟩
 item:=by
  intro X hP hw hK hc i À s σ H E I hf st hg;subst hP hw hK;obtain⟨xs,x,hq,hx⟩:=hg;obtain⟨its,rv,p,hz⟩:=I.list hq;obtain⟨u,hu,ru⟩:=rv.get hx;have hi:i<its.toArray.size:=by have:=(P7.mp hu).1;simpa using this
  obtain⟨old,he⟩:=st.1;have X04:e<s.heap.objs.size:=D9 he;refine wpAny_pyNext_enum_itemD (Draws.list (prog:=X.prog) (w:=X.w) (A:=X.A.in1) (I.ok.hd hc) it a hai its.toArray) he ⟨st.2,p.isList⟩ hi hei (by simp [hei,I0 hae]) λx' h' tk Ĺ ho hs' hT hsz hk=> ?_
  have ex:x'=u:=A2 (Ĺ.symm.trans (show its.toArray[i]? =some u by simpa using hu));subst ex;refine⟨_,rfl,wpAny_letOwnedTupleGo_enum ho λh2 he2 hs2=> ?_⟩;have hn:H s.heap.objs.size=none:=I.hok.fresh (P6 _);have hT2:h2.get? s.heap.objs.size=some {cls:= .type "tuple",data:= .seq #[.int i tk,x']}:=(hs2.2 _ (V6 X04)).trans hT;refine⟨.ref s.heap.objs.size,upd H s.heap.objs.size (.tup [.int i,x]),?_,rfl,⟨_,x,hn,λys hy=>by rw [I.list_inj hy hq];exact hx,rfl,rfl⟩,⟨⟨x',by simpa using he2⟩,hs'.1.at λo y=>(hs2.2 it (I0 hei)).trans y⟩,λb hb=> ?_⟩
  ·refine I.turnLaid (h':=h2) (t':=tk+1) (ch:= [e,it]) (λb u hb q=> ?_) hf (P6 _) ⟨by show 2<=sizeLine;decide,[.int i tk,x'],.cons ⟨tk,rfl⟩ (.cons ru .nil),⟨_,hT2,rfl,rfl,_,rfl⟩⟩;have b1:b≠e:=λz=>hb (by simp [z])
   have b2:b≠it:=λz=>hb (by simp [z])
   exact(hs2.2 b b1).trans (hk b u b1 b2 q)
  ·have f:=(hf b hb).1;have:b≠s.heap.objs.size:=λz=>by
    rcases R7.mp hb with w|w
    ·rw [<-w,z] at X04;exact absurd X04 (B8 _)
    ·have w:=G8.mp w;obtain⟨o,ho',_⟩:=st.2;have:=D9 ho';rw [<-w,z] at this;exact absurd this (B8 _)
   rw [jj this];exact f
 done:=by
  intro X hP hw hK hc i À s σ H E I hf st hg;subst hP hw hK;obtain⟨xs,hq,hx⟩:=hg;obtain⟨its,rv,p,hz⟩:=I.list hq;obtain⟨old,he⟩:=st.1;have hl:=rv.length;refine wpAny_pyNext_enum_endD (Gq (prog:=X.prog) (w:=X.w) (A:=X.A.in1) (I.ok.hd hc) it a its.toArray i (by simp;omega)) he ⟨rfl,st.2,p.isList⟩ λh' Ĺ=>⟨rfl,I.turnL (t':=s.toks) (ch:= [it]) (λb o hb q=>Ĺ b o (λz=>hb (by simp [z])) q) λb hb=>hf b (R1 _ hb)⟩
 self:=λ_ _ _ _ _ st h=>let ⟨_,q⟩:=st.1;rH q h
section
variable {X:Cx}
def Ep (K:G7)(ta:TA):TI:=λσ H R=>ta σ H λvs H1=> ∃a,vs= [.ref a]/\(∃xs,è K H1 a xs)/\R (Hf K a) H1
def Np {es:G0 N3}{k:G6}{tp:Pos}{a:N3}{ta:TA}{p pos:Pos}(hg:Gl X "enumerate")(hm:X.mg "enumerate" =none)(ha:PA X [a] ta)(hs:S5 [a] X.env= [(false,K0 a X.env)]:=by rfl):
 PI X (.Tuple es k tp) (.Call (.Name "enumerate" p) [a] [] pos) (Ep X.K ta):=by
 intro À s σ H R I h;refine Call_ (Vs I hg hm (show V5 "enumerate" =some (.type "enumerate") by decide +kernel) (cZ (Ô (ha pos À s σ H _ I h) λus s1 ⟨vs,H1,I1,r1,q1⟩=> ?_) hs rfl));obtain⟨a,e,⟨xs,hq⟩,q⟩:=q1;subst e;cases r1 with
 |cons r rr=>
  cases rr;cases r;obtain⟨its,rv,p,hz⟩:=I1.list hq;have hlt:a<s1.heap.objs.size:=by obtain⟨o,ho,_⟩:=p.isList;exact D9 ho
  refine call_enumerate_list p.isList λh' he hit _ hk=> ?_
  refine rH he ?_;refine⟨s1.heap.objs.size+1,[s1.heap.objs.size+1,s1.heap.objs.size],_,_,H1,rfl,I1.kept (t':=s1.toks) hk,Gr a s1.heap.objs.size (s1.heap.objs.size+1) (V6 (J7 _)) (M7 (c9 hlt)) (M7 hlt),⟨⟨_,he⟩,hit⟩,λb hb=> ?_,q⟩;have hb':s1.heap.objs.size<=b:=by
   rcases R7.mp hb with w|w
   ·rw [w];exact Nat.le_succ _
   ·rw [G8.mp w];exact P6 _
  exact I1.fpOk hb' (I1.hok.fresh hb')
end
def iEL (ta:TAD):TID:=λσ h R=>ta σ h λxs h1=> ∃a,xs= [.lst a]/\R (λh=>(h a).map Yu) h1
section
variable {K:G7}
def Gs (H:Hp)(a:P2):Fi K H (λh=>(h a).map Yu) (Hf K a):=λH' h' k rh ds' e i=>by
 have e:(h' a).map Yu=some ds':=e;cases hd:h' a with
 |none=>rw [hd] at e;cases e
 |some ds=>
  rw [hd] at e;cases e;obtain⟨vs,hv',r'⟩:=rh a ds hd;refine⟨λd hd=> ?_,λhl=>⟨vs,è.of hv',by rw [<-r'.length,<-vE];exact hl⟩⟩;obtain⟨x,hx,ed⟩:=Yv hd;subst ed;obtain⟨v,e1,e2⟩:=r'.get hx;refine⟨⟨vs,v,è.of hv',e1⟩,λx' ļ ⟨p,v',hp,Ĺ,ex,eH⟩=> ?_⟩;subst ex eH;have ev:v'=v:=by have:=Ĺ vs (è.of hv');rw [e1] at this;exact(A2 this).symm
  subst ev;have k2:Kept H' (upd H' p (.tup [.int i,v'])):= .new hp;exact⟨k2,È.new rh hp,p,[.int i,v'],rfl,jt,_,_,rfl,rfl,_,_,rfl,e2.mono k2,rfl⟩
def Nq {ta:TAD}: ∀σ H R,LI K (iEL ta) σ H R->Ep K (LA K ta) σ H R:=λσ H R ⟨Æ,h,Rd,rs,rh,q,p⟩=>
 LA.bind rs rh q λds vs h1 H1 k1 Ù Ê r1 ⟨a,e,q1⟩=>by
  subst e;obtain⟨v,e,r2⟩:=jH r1;obtain⟨e',ws,hv⟩:=(show v= .ref a/\ ∃vs,H1 a=some (.lst vs) from r2);subst e';exact⟨a,e,⟨ws,è.of hv⟩,p _ _ _ _ k1 Ê (Gs H1 a) q1⟩
end
section
variable {X:Cx}
def ZA {es:G0 N3}{k:G6}{tp:Pos}{a:N3}{ta:TAD}{p pos:Pos}(hg:Gl X "enumerate")(hm:X.mg "enumerate" =none)(ha:JA X [a] ta)(hs:S5 [a] X.env= [(false,K0 a X.env)]:=by rfl):
 JI X (.Tuple es k tp) (.Call (.Name "enumerate" p) [a] [] pos) (iEL ta):=⟨(Np hg hm ha.to hs).imp Nq⟩
end
noncomputable def JH (n:G6)(Ts:G0 (G0 (G0 P1)))(M:G0 (G0 P1))(W:G0 G6):G0 (G0 P1):=W.foldl (λM i=>ç n (Ts.getD i []) M) M
structure Ä (n:G6)(Ts:G0 (G0 (G0 P1))):Prop where
 n1:1<=n
 n3:n<=3
 l1:1<=Ts.length
 l3:Ts.length<=3
 sq: ∀T∈Ts,Sq n 20 T
def Ä.get {Ts:G0 (G0 (G0 P1))}(h:Ä n Ts){i:G6}(hi:i<Ts.length):Sq n 20 (Ts.getD i []):=by
 rw [D2,G1 hi];exact h.sq _ (N0 hi)
def Xc {Ts:G0 (G0 (G0 P1))}(h:Ä n Ts){i:G6}(hi:i<Ts.length):ć (Ts.map jp) ((i:G6):P1)=some (jp (Ts.getD i [])):=
 zY (by rw [P9,D2,G1 hi];rfl)
section
variable {n:G6}{Ts:G0 (G0 (G0 P1))}
def Dy (M:G0 (G0 P1))(hM:Sq n 1 M): ∀W:G0 G6,Sq n 1 (JH n Ts M W):=λW=>by
 induction W generalizing M with
 |nil=>exact hM
 |cons i W ih=>exact ih _ (Sq.mark _)
def Xd (M:G0 (G0 P1))(V W:G0 G6):JH n Ts M (V++W)=JH n Ts (JH n Ts M V) W:=gQ
end
theorem JJ: ∀Ts:G0 (G0 (G0 P1)),L7 (Ts.map Dl)<=5
 | []=>by simp [L7]
 |T::Ts=>by
  have:=JJ Ts;have h2:=yZ T;simp only [T6,L7,U4,Dl];omega
def Xe (Ts:G0 (G0 (G0 P1))):shaped (.list (Ts.map Dl))=true:=by
 unfold shaped;have h1:A5 (.list (Ts.map Dl))=true:=by simp only [A5];exact Ŏ.lays Ts
 have h2:=JJ Ts;have h3:U4 (.list (Ts.map Dl))<=64:=by simp only [U4];omega
 rw [h1,S1 h3];rfl
end L2
set_option maxRecDepth 35000
namespace L2
open PySem PySem.Spec PyProof.Rows PySem.SeqAt
section
variable {α:Type}{i i':G6}{js:G0 G6}{ti:TID}{te:TED}{σ:SD}{h:HD}{Q:KD}{j:ItD}
def ud (xs:G0 α)(c c' g:α->D)(p:α->N4){tt:TTD}(hz:xs.length<=1000)(hj:j h=some (xs.map λx=> .tup [c x,c' x]))(ht: ∀R:ItD->HD->Prop,R j h->ti σ h R)
 (hp: ∀x∈xs,∀Q':N4->HD->Prop,Q' (p x) h->tt (((jR js σ).set i (some (c x))).set i' (some (c' x))) h Q')(he: ∀x∈xs,p x=true-> ∀Q':KD,Q' (g x) h->te (((jR js σ).set i (some (c x))).set i' (some (c' x))) h Q')(hq: ∀a,h a=none->Q (.lst a) (zK h a ((xs.filter p).map g))):vY (b2 i i') js ti tt te σ h Q:=by
 refine ht _ ⟨xs.length,λk ys h'=>h'=h/\ys=((xs.take k).filter p).map g,⟨rfl,by simp⟩,?_⟩;rintro k ys h' ⟨rfl,rfl⟩;refine⟨?_,_,hj,by simp,λhl a ha=> ?_,λd hd=> ?_⟩
 ·have:=Y7 p (xs.take k);simp only [G3,T5] at this ⊢;exact T8 (zb (by omega))
 ·rw [T9 (by simpa using hl)];exact hq a ha
 ·rw [P9] at hd;cases hx:xs[k]? with
  |none=>rw [hx] at hd;cases hd
  |some x=>
   rw [hx] at hd;cases hd;refine⟨_,⟨_,_,rfl,rfl⟩,?_⟩;refine hp x (P8 hx) _ ?_;cases hb:p x with
   |true=>
    rw [R9 rfl];refine he x (P8 hx) hb _ ⟨_,Sub.refl _,rfl,?_⟩;rw [C4,hx];simp [hb]
   |false=>
    rw [S4 (by decide)];refine⟨_,Sub.refl _,rfl,?_⟩;rw [C4,hx];simp [hb]
end
noncomputable def Hg (T:G0 (G0 P1))(n p:G6):G0 G6:=(P5 n).filter λj=>decide (Ð T p j>0)
noncomputable def cnt (T:G0 (G0 P1))(n o:G6):G6->G6->P1
 |0,p=>if p=o then 1 else 0
 |t+1,p=>((Hg T n p).map (cnt T n o t)).sum
section
variable {T:G0 (G0 P1)}{n o:G6}
noncomputable def ue (T:G0 (G0 P1))(n o t p:G6):G6:=(Hg T n p).findIdx λj=>decide (cnt T n o t j>0)
noncomputable def nxt (T:G0 (G0 P1))(n o t p:G6):G6:=(Hg T n p).getD (ue T n o t p) 0
noncomputable def gp (T:G0 (G0 P1))(n o k one:G6):G6->G6
 |0=>one
 |i+1=>nxt T n o (k-1-i) (gp T n o k one i)
end
def Nr {α:Type}{xs:G0 α}{x:α}(h1:1<=xs.length)(h:xs[xs.length-1]? =some x):ć xs (-1)=some x:=by
 unfold ć ū;rw [S4 (by decide),R9 (by omega)];show xs[(-1+(xs.length:P1)).toNat]? =_;rw [show (-1+(xs.length:P1)).toNat=xs.length-1 by omega];exact h
def Dz {α:Type}(xs:G0 α):VH xs none (some 1)=xs.take 1:=by
 unfold VH;have e1:HT.sIx xs.length 0 none=0:=rfl;have e2:HT.sIx xs.length xs.length (some 1)=min 1 xs.length:=rfl;rw [e1,e2,lB,rE];cases xs with
 |nil=>rfl
 |cons x xs=>simp
end L2
namespace L2
open PySem PySem.Spec PyProof.Rows PySem.W
structure RN where
 nm:Str
 fs:G0 (Str×P1)
instance:Coe Str RN:=⟨λc=>⟨c,[]⟩⟩
abbrev TXD:=SD->HD->(RN->HD->Prop)->Prop
abbrev RDx:=G0 D->HD->(RN->HD->Prop)->Prop
noncomputable abbrev N1:G0 Str:= ["_law_call","_law_found","_law_e","_law_word"]
end L2
namespace L2
open PySem PySem.Spec PyProof.Rows PySem.SeqAt
section
variable {n e:G6}{T:G0 (G0 P1)}
instance (k i j:G6):Decidable (RP n T k i j):=inferInstanceAs (Decidable (Ð (GT n T k) i j≠0))
end
end L2
namespace L2
open PySem PySem.Spec PyProof.Rows
def TrV (K:G7)(H:Hp):V->N4->Prop
 | .bl b,c=>c=b
 | .int i,c=>c=(i !=0)
 | .non,c=>c=false
 | .ref a,c=> ∃xs,è K H a xs/\c= !xs.isEmpty
 |_,_=>False
def TrD (h:HD):D->N4->Prop
 | .bl b,c=>c=b
 | .int i,c=>c=(i !=0)
 | .non,c=>c=false
 | .lst a,c=> ∃ds,h a=some ds/\c= !ds.isEmpty
 |_,_=>False
def TrD.to {K:G7}{H:Hp}{h:HD}{d:D}{v:V}{c:N4}(t:TrD h d c)(r:É K H d v)(rh:È K h H):TrV K H v c:=by
 cases d<;>try exact t.elim
 ·have e:v= .non:=r;subst e;exact t
 ·have e:v= .bl _:=r;subst e;exact t
 ·have e:v= .int _:=r;subst e;exact t
 ·obtain⟨e,_⟩:=r;subst e;obtain⟨ds,hd,e⟩:=t;obtain⟨vs,hv,r'⟩:=rh _ ds hd;refine⟨vs,è.of hv,?_⟩;rw [e];have:=r'.length;cases ds<;>cases vs<;>first|rfl|(simp at this)
section
variable {X:Cx}{À:G0 (P2×Obj)}{σ:St}{H:Hp}{s:G5}{E:G2->G5->Prop}
def Inv.trv {v:V}{u:G2}{c:N4}{Q:N4->G5->Prop}(I:Inv X À σ H s)(r:RelV v u)(t:TrV X.K H v c)(q: ∀s',Inv X À σ H s'->Q c s'):R5 (S0 X.prog X.w) X.A (m8 u) Q E s:=by
 cases v<;>try exact t.elim
 ·have e:u=i4:=r;subst e;have e:c=false:=t;subst e;exact truthy_none (q _ I)
 ·have e:u=fV _:=r;subst e;have e:c=_:=t;subst e;exact K1 (q _ I)
 ·obtain⟨t',e⟩:=r;subst e;have e:c=_:=t;subst e;exact truthy_int (q _ I)
 ·have e:u=K8 _:=r;subst e;obtain⟨xs,hx,e⟩:=t;obtain⟨its,rv,p,hz⟩:=I.list hx;have hl:=rv.length;have e2:c= !its.toArray.isEmpty:=by
   rw [e];cases xs<;>cases its<;>first|rfl|(simp at hl)
  refine wpAny_truthy_list p.isList ?_ ?_
  ·have:xs.length<=16777216:=R8 hz (by decide);simp only [R4];have e3:((2:P1)^63)=9223372036854775808:=by decide
   rw [e3];omega
  ·rw [<-e2];exact q _ (I.tok _)
end
section
variable {X:Cx}{a b:N3}{rest:G0 N3}{pos:Pos}
def Ku (K:G7)(t:TE):TT:=λσ H Q=>t σ H λx H1=> ∃c,TrV K H1 x c/\Q c H1
def Eq {e:N3}{t:TE}(h:PE X e t)(he: ∀whole,isTrue e X.env whole=(do let v <-whole;fO e.pos;Z8 [v] (m8 v)):=by intro _;rfl):PT X e (Ku X.K t):=by
 intro À s σ H Q I hw;refine qT (Ô (h À s σ H _ I hw) λv s1 ⟨x,H1,I1,r1,q1⟩=> ?_) (he _);obtain⟨c,t1,q⟩:=q1;exact I1.trv r1 t1 λs' I'=>⟨H1,I',q⟩
def Kv (t:TED):TTD:=λσ h Q=>t σ h λx h1=> ∃c,TrD h1 x c/\Q c h1
variable {K:G7}
def Er {t:TED}: ∀σ H Q,LT K (Kv t) σ H Q->Ku K (LE K t) σ H Q:=λσ H Q ⟨Æ,h,Qd,rs,rh,t,p⟩=>
 LE.bind rs rh t λd v h1 H1 k1 Ù Ê r1 ⟨k,e,q⟩=>⟨k,e.to r1 Ê,p k h1 H1 k1 Ê q⟩
def Es {ta:TED}(ha:JE X a ta)(he: ∀whole,isTrue a X.env whole=(do let v <-whole;fO a.pos;Z8 [v] (m8 v)):=by intro _;rfl):JT X a (Kv ta):=⟨(Eq ha.to he).imp Er⟩
end
end L2
namespace L2
open PySem PySem.Spec PyProof.Rows PySem.SeqAt
section
variable {n e:G6}{T:G0 (G0 P1)}
def Yz (h:Sq n e T)(hn:n<=8){a b i j k:G6}(hi:i<n)(hk:k<n)(hj:j<n)(x:RP n T a i k)(y:RP n T b k j):RP n T (a+b) i j:=(Dw h hn a b hi hj).mpr ⟨k,hk,x,y⟩
def DA (h:Sq n e T)(hn:n<=8){i j:G6}:RP n T 1 i j↔Ð T i j≠0:=by unfold RP;rw [FL h hn]
end
end L2
namespace HT
open PySem PySem.Spec PyProof.Rows
variable {j:G6}
theorem YA {xs:S9 G6}(r:xs.toList.Pairwise (· < ·)): ∀ (fuel lo hi:G6),hi-lo<=fuel->hi<=xs.size->lo<=hi->(∀i,i<lo-> ∀v,xs[i]? =some v->v<j)->(∀i,hi<=i-> ∀v,xs[i]? =some v->j<=v)->
 (∀i,i<gR xs j fuel lo hi-> ∀v,xs[i]? =some v->v<j)/\(∀i,gR xs j fuel lo hi<=i-> ∀v,xs[i]? =some v->j<=v)/\gR xs j fuel lo hi<=xs.size
 |0,lo,hi,f,hs,lh,a,b=>by
  have:lo=hi:=by omega
  subst this;exact⟨a,b,hs⟩
 |fuel+1,lo,hi,f,hs,lh,a,b=>by
  unfold gR
  by_cases c:lo<hi
  ·rw [R9 c];have hm:(lo+hi) / 2<xs.size:=by omega
   have mono: ∀ (i k u v:G6),i<=k->xs[i]? =some u->xs[k]? =some v->u<=v:=λi k u v ik e1 e2=>by
    rcases L5 i k with z|z
    ·have i1:=(O3.mp e1);have i2:=(O3.mp e2);obtain⟨h1,e1'⟩:=i1;obtain⟨h2,e2'⟩:=i2;have:=A4.mp r i k (by simpa using h1) (by simpa using h2) z;simp only [dI] at this;omega
    ·have:i=k:=by omega
     subst this;rw [e1] at e2;cases e2;exact P6 _
   have em:xs.getD ((lo+hi) / 2) j=xs[(lo+hi) / 2]:=by simp [uP,hm]
   dsimp only
   by_cases d:xs.getD ((lo+hi) / 2) j<j
   ·rw [R9 d];refine YA r fuel _ hi (by omega) hs (by omega) (λi hi' v hv=> ?_) b;have:=mono i ((lo+hi) / 2) v xs[(lo+hi) / 2] (by omega) hv (by simp [hm]);omega
   ·rw [S4 d];refine YA r fuel lo _ (by omega) (by omega) (by omega) a (λi hi' v hv=> ?_);have:=mono ((lo+hi) / 2) i xs[(lo+hi) / 2] v hi' (by simp [hm]) hv;omega
  ·rw [S4 c];have:lo=hi:=by omega
   subst this;exact⟨a,b,hs⟩
def Je {xs:S9 G6}(r:xs.toList.Pairwise (· < ·))(j:G6):(∀i,i<M6 xs j-> ∀v,xs[i]? =some v->v<j)/\(∀i,M6 xs j<=i-> ∀v,xs[i]? =some v->j<=v)/\M6 xs j<=xs.size:=
 YA r xs.size 0 xs.size (by omega) (P6 _) (N9 _) (λi h=>absurd h (U1 _)) (λi h v e=>by rw [nN h] at e;cases e)
def Xf {xs:S9 G6}(r:xs.toList.Pairwise (· < ·))(no:xs[M6 xs j]? ≠some j):(W8 xs (M6 xs j) j).toList.Pairwise (· < ·):=by
 obtain⟨a,b,hs⟩:=Je r j;rw [fE,B6,Z0];have low: ∀v∈xs.toList.take (M6 xs j),v<j:=λv hv=>by
  obtain⟨i,hi⟩:=bO hv;rw [qJ] at hi;split at hi
  ·rename_i c;exact a i c v (by simpa using hi)
  ·cases hi
 have high: ∀v∈xs.toList.drop (M6 xs j),j<v:=λv hv=>by
  obtain⟨i,hi⟩:=bO hv;rw [Z4] at hi;have hi':xs[M6 xs j+i]? =some v:=by simpa using hi
  have le:=b _ (W0 _ _) v hi';rcases L5 j v with z|z
  ·exact z
  ·have ev:v=j:=by omega
   subst ev;cases i with
   |zero=>exact(no hi').elim
   |succ i=>
    obtain⟨h1,e1⟩:=O3.mp hi';have h0:M6 xs v<xs.size:=by omega
    have le0:=b _ (P6 _) xs[M6 xs v] (by simp [h0]);have lt:=A4.mp r (M6 xs v) (M6 xs v+(i+1)) (by simpa using h0) (by simpa using h1) (by omega);simp only [dI] at lt;omega
 exact⟨r.sublist (U9 _ _),⟨high,r.sublist (V1 _ _)⟩,λu hu v hv=>by
  rcases R7.mp hv with e|e
  ·rw [e];exact low u hu
  ·exact W5 (low u hu) (high v e)⟩
structure Tab (L:N4)(n:G6)(t:N6):Prop where
 fits:t.fits n=true
 led:t.led=L
 dum:t.dummies= #[]
 rise:t.plain=true\/n<=1->t.place.toList.Pairwise (· < ·)
def Gt {t:N6}{n:G6}(h:t.fits n=true):t.place.size=n:=by
 simp only [xI,F4,beq_iff_eq] at h;exact h.1
def Gu {t:N6}(h:t.slot j= .empty):t.place[M6 t.place j]? ≠some j:=λe=>by
 unfold mM at h;dsimp only at h;rw [R9 (by rw [e];exact aW _)] at h;cases h
def WM {t:N6}(d:t.dummies= #[]):t.slot j≠ .dummy:=λh=>by
 unfold mM at h;dsimp only at h;split at h
 ·cases h
 ·rw [d] at h;have:nO #[] j=false:=by unfold nO;simp
  rw [this] at h;cases h
theorem YB (f:G6->D4 G6): ∀l:G0 G6,((l.filterMap λj=>(f j).map (j,·)).map (·.1)).Sublist l
 | []=> .slnil
 |j::l=>by
  rw [dX];cases e:(f j).map (j,·) with
  |none=>exact(YB f l).cons _
  |some q=>
   obtain⟨v,_,rfl⟩:=F6.mp e;exact(YB f l).cons₂ _
noncomputable abbrev yt (es:S9 (P1×G2))(ep:G6)(t:N6):Obj:= {cls:= .type "set",dict:=none,data:= .set es ep t,slots:= #[]}
noncomputable def Kw (e:P1×G2):P1:=match e.2 with
 | .int n _=>n
 |_=>0
structure X1t (L:N4)(es:S9 (P1×G2))(t:N6)(ns:G0 P1):Prop where
 tab:Tab L es.size t
 nums: ∀e∈es.toList,∃n tk,e=(G0I n,.int n tk)
 nd:(es.toList.map Kw).Nodup
 mem: ∀n,n∈es.toList.map Kw↔n∈ns
def ZR:plainId "set.update.loop" =true:=by decide +kernel
def VT:rJ table "set.update.loop" =some Builtin.«set.update.loop» :=sJ (by kernel_rfl)
def Wn:rJ table "set.__init__" =some Builtin.«set.__init__» :=sJ (by kernel_rfl)
noncomputable abbrev wK (w:C1):N4:= !(w.params.followText "set-order")
def Nt (L:N4):X1t L #[] (.fresh 0 0 L) []:=⟨⟨rfl,rfl,rfl,λ_=> .nil⟩,λe he=>by simp at he,by simp,λn=>by simp⟩
def vF:pQ (.type "set") (.type "set")=pure true:=by rw [cE];kernel_rfl
def VU:pQ (.type "list") (.type "set")=pure false:=by rw [cE];kernel_rfl
def VV:pQ (.type "list") (.type "frozenset")=pure false:=by rw [cE];kernel_rfl
def Xg:pQ (.type "tuple") (.type "set")=pure false:=by rw [cE];kernel_rfl
def Xh:pQ (.type "tuple") (.type "frozenset")=pure false:=by rw [cE];kernel_rfl
section
variable {prog:T7}{w:C1}{A:N7}{E:G2->G5->Prop}{s:G5}
def Nu {x:G2}{P:iE->G5->Prop}(h:P (.done (.ret (.ref s.heap.objs.size))) {s with heap:=s.heap.push (yt #[] 0 (.fresh 0 0 (wK w)))}):
 R5 (S0 prog w) A (Builtin.«set.__new__» ⟨[.type "set",x],[]⟩) P E s:=by
 have X1u:=vF;obtain⟨hp,g,d,tk,os⟩:=s;have told: ∀ {Q:tZ->G5->Prop} {E':G2->G5->Prop} {A':N7} {s':G5},Q ⟨prog,w.params⟩ s'->R5 (S0 prog w) A' ask Q E' s':=λq=>aV q
 wp_walk using told
 exact h
def YC {M:qS}{o x:G2}{Q:Unit->G5->Prop}(ty:s.TypeIs o "set")(q:Q () s):R5 M A (mY "set.__init__" ⟨[o,x],[]⟩) Q E s:=by
 have X1u:=vF;unfold mY;rw [kind_set_init,split_set_init,sig_set_init]
 wp_walk using u9 (n:= "set") (by decide),v6 (self:=o) rfl ty
 exact q
end
def Ý:Slot "set_iterator" "__next__" "set_iterator.__next__" :=
 .of (owner:= "set_iterator") (n:= "__next__") (by rw [tO,oH];kernel_rfl) (by decide +kernel) (by decide +kernel) (by decide +kernel) (.inl (by kernel_rfl)) (by rw [cE];kernel_rfl)
def YD:rJ table "set_iterator.__next__" =some Builtin.«set_iterator.__next__» :=entryFor_of_tree (by kernel_rfl)
def VW (a:G2):G0C "set_iterator.__next__" ⟨[a],[]⟩:=by unfold G0C;kernel_rfl
def Wo:rJ table "set.__iter__" =some Builtin.«frozenset.__iter__» :=uQ (id':= "frozenset.__iter__") (by kernel_rfl) rfl (by decide +kernel) (by kernel_rfl)
noncomputable abbrev Ų (first:G2)(i:G6)(a:P2)(n ep:G6):Obj:= {cls:= .type "set_iterator",data:= .fields #[first,Q0 i,.ref a,Q0 n,Q0 ep]}
inductive ľ (w:C1)(a:P2)(es:S9 (P1×G2))(ep:G6)(t:N6):G0 G2->(G2->G6->A7->Prop)->P2->Prop
 |text (b:w.params.followText "set-order" =true):ľ w a es ep t ((pickOrder (w.params.setOrder a ep) es).toList.map (·.2)) (λf _ _=>f=Q0 0) a
 |drawn (b:w.params.followText "set-order" =false) (d:t.plain=false) (two:1<es.size) (ord:G0 G6) (p:ord.Perm (P5 es.size)) (tp:P2):
  ľ w a es ep t (ord.map λj=>(es.getD j (0,.none)).2) (λf _ h=>f= .ref tp/\h.IsTuple tp (ord.map λj=>Q0 (j:G6)).toArray) tp
 |table (b:w.params.followText "set-order" =false) (d:t.plain=true\/es.size<=1):ľ w a es ep t (es.toList.map (·.2)) (λf i _=> ∃slot:G6,f=Q0 slot/\M6 t.place slot=i) a
section
variable {prog:T7}{w:C1}{A:N7}{E:G2->G5->Prop}{s:G5}{a I tp:P2}{es:S9 (P1×G2)}{ep n i:G6}{t:N6}{ns:G0 P1}{first:G2}
def DB {Q:G2->G5->Prop}(S:Tab (wK w) es.size t)(b:w.params.followText "set-order" =true)(ha:s.heap.get? a=some (yt es ep t))(hI:s.heap.get? I=some (Ų (Q0 0) i a es.size ep))(aI:a≠I)
 {x:G2}(hx:((pickOrder (w.params.setOrder a ep) es).toList.map (·.2))[i]? =some x)(q: ∀h',h'.get? I=some (Ų (Q0 0) (i+1) a es.size ep)->A8 I s.heap h'->Q x {s with heap:=h'}):
 R5 (S0 prog w) A (Builtin.«set_iterator.__next__» ⟨[.ref I],[]⟩) (λfin s'=> ∃v,fin= .done (.ret v)/\Q v s') E s:=by
 have told: ∀ {Q:tZ->G5->Prop} {E':G2->G5->Prop} {A':N7} {s':G5},Q ⟨prog,w.params⟩ s'->R5 (S0 prog w) A' ask Q E' s':=λq=>aV q
 have state:=λ{P:S9 (P1×G2)×G6×N6->G5->Prop} {E':G2->G5->Prop} {A':N7}=>E6 (prog:=prog) (w:=w) (A:=A') (E:=E') (Q:=P) (s:=s) ha rfl S.fits
 obtain⟨hp,g,d,tk,os⟩:=s;rw [P9] at hx;obtain⟨⟨k,x'⟩,hx1,rfl⟩:=F6.mp hx;have Ĺ:(pickOrder (w.params.setOrder a ep) es)[((i:G6):P1).toNat]? =some (k,x'):=by rw [W7,<-M8];exact hx1
 have z1:=L9 (iJ λv=>v.setIfInBounds 0 (Q0 ((G0Y 0:G6):P1))) hI rfl;have z2:=L9 (iJ λv=>v.setIfInBounds 1 (Q0 ((i:P1)+1))) z1 rfl;have fin:=q _ z2 ((A6 ..).trans (A6 ..))
 wp_walk using state,told
 rw [Ĺ]
 wp_walk
 exact⟨_,rfl,fin⟩
def Gv {Q:G2->G5->Prop}{ord:G0 G6}(S:Tab (wK w) es.size t)(ha:s.heap.get? a=some (yt es ep t))(hI:s.heap.get? I=some (Ų (.ref tp) i a es.size ep))(aI:a≠I)(ht:s.heap.IsTuple tp (ord.map λj=>Q0 (j:G6)).toArray)(p:ord.Perm (P5 es.size))
 {x:G2}(hx:(ord.map λj=>(es.getD j (0,.none)).2)[i]? =some x)(q: ∀h',h'.get? I=some (Ų (.ref tp) (i+1) a es.size ep)->A8 I s.heap h'->Q x {s with heap:=h'}):
 R5 (S0 prog w) A (Builtin.«set_iterator.__next__» ⟨[.ref I],[]⟩) (λfin s'=> ∃v,fin= .done (.ret v)/\Q v s') E s:=by
 have state:=λ{P:S9 (P1×G2)×G6×N6->G5->Prop} {E':G2->G5->Prop} {A':N7}=>E6 (prog:=prog) (w:=w) (A:=A') (E:=E') (Q:=P) (s:=s) ha rfl S.fits
 obtain⟨⟨oc,od,odt,Ŝ⟩,Ψ,hc,c,hd⟩:=ht;simp only at hc hd;subst hc hd;obtain⟨hp,g,d,tk,os⟩:=s;rw [P9] at hx;obtain⟨j,hj,rfl⟩:=F6.mp hx;have jlt:j<es.size:=D1.mp (p.mem_iff.mp (P8 hj));have hj':((ord.map λj=>Q0 (j:G6)).toArray)[((i:G6):P1).toNat]? =some (Q0 (j:G6)):=by simp [hj]
 have ej:es[((j:G6):P1).toNat]? =some (es.getD j (0,.none)):=by simp [jlt,uP]
 have z1:=L9 (iJ λv=>v.setIfInBounds 1 (Q0 ((i:P1)+1))) hI rfl;have fin:=q _ z1 (A6 ..)
 wp_walk using state
 rw [hj'];show R5 _ _ (setNextDrawn a ((j:G6):P1).toNat ((ep:G6):P1).toNat >>= _) _ _ _
 wp_walk using state
 rw [ej]
 wp_walk
 exact⟨_,rfl,fin⟩
def Gw {Q:G2->G5->Prop}{slot:G6}(S:Tab (wK w) es.size t)(b:w.params.followText "set-order" =false)(pl:t.plain=true\/es.size<=1)(ha:s.heap.get? a=some (yt es ep t))(hI:s.heap.get? I=some (Ų (Q0 slot) i a es.size ep))(aI:a≠I)(hs:M6 t.place slot=i)
 {x:G2}(hx:(es.toList.map (·.2))[i]? =some x)(q: ∀h' (ž:G6),M6 t.place ž=i+1->h'.get? I=some (Ų (Q0 ž) (i+1) a es.size ep)->A8 I s.heap h'->Q x {s with heap:=h'}):
 R5 (S0 prog w) A (Builtin.«set_iterator.__next__» ⟨[.ref I],[]⟩) (λfin s'=> ∃v,fin= .done (.ret v)/\Q v s') E s:=by
 have told: ∀ {Q:tZ->G5->Prop} {E':G2->G5->Prop} {A':N7} {s':G5},Q ⟨prog,w.params⟩ s'->R5 (S0 prog w) A' ask Q E' s':=λq=>aV q
 have state:=λ{P:S9 (P1×G2)×G6×N6->G5->Prop} {E':G2->G5->Prop} {A':N7}=>E6 (prog:=prog) (w:=w) (A:=A') (E:=E') (Q:=P) (s:=s) ha rfl S.fits
 have led:t.led=true:=by rw [S.led];show (!(w.params.followText "set-order"))=true;rw [b];rfl
 have nd:(!t.plain&&decide (es.size>1))=false:=by
  rcases pl with z|z
  ·rw [z];rfl
  ·rw [T3 (by omega),a8]
 obtain⟨hp,g,d,tk,os⟩:=s;rw [P9] at hx;obtain⟨⟨k,x'⟩,hx1,rfl⟩:=F6.mp hx;have lt:i<es.size:=by have:=(P7.mp hx1).1;simpa using this
 have ps:=Gt S.fits;have ltp:i<t.place.size:=by omega
 have ex:es[i]? =some (k,x'):=by rw [<-M8];exact hx1
 have Þ:t.place[i]? =some t.place[i]:=by simp [ltp]
 have rise:=S.rise pl;have next:M6 t.place (t.place[i]+1)=i+1:=by
  obtain⟨b1,b2,b3⟩:=Je rise (t.place[i]+1);have mono:=λ(u v:G6) (hu:u<t.place.size) (hv:v<t.place.size) (uv:u<v)=>A4.mp rise u v (by simpa using hu) (by simpa using hv) uv
  simp only [dI] at mono;rcases dB (M6 t.place (t.place[i]+1)) (i+1) with z|z|z
  ·have:=b2 i (by omega) _ Þ;omega
  ·exact z
  ·have h1:i+1<t.place.size:=by omega
   have:=b1 (i+1) z _ (by simp [h1]:t.place[i+1]? =some t.place[i+1]);have:=mono i (i+1) ltp h1 (by omega);omega
 have z1:=L9 (iJ λv=>v.setIfInBounds 0 (Q0 ((t.place[i]+1:G6):P1))) hI rfl;have z2:=L9 (iJ λv=>v.setIfInBounds 1 (Q0 ((i:P1)+1))) z1 rfl;have fin:=q _ _ next z2 ((A6 ..).trans (A6 ..))
 wp_walk using state,told
 split
 ·rename_i z;have z':(!t.plain&&decide (es.size>1))=true:=z;rw [nd] at z';cases z'
 wp_walk
 rw [show ((slot:G6):P1).toNat=slot from W7 _,hs,ex,Þ]
 wp_walk
 exact⟨_,rfl,fin⟩
def Gx {vals:G0 G2}{md:G2->G6->A7->Prop}{Q:iE->G5->Prop}(calm:A.handled=none)(S:Tab (wK w) es.size t)(M:ľ w a es ep t vals md tp)(ha:s.heap.get? a=some (yt es ep t))(hI:s.heap.get? I=some (Ų first i a es.size ep))(aI:a≠I)(hm:md first i s.heap)(hx:vals[i]? =none)
 (q: ∀h' e,(∀b o,b≠I->s.heap.get? b=some o->h'.get? b=some o)->(∃o,h'.get? e=some o/\o.cls= .type "StopIteration")->E (.ref e) {s with heap:=h'}):
 R5 (S0 prog w) A (Builtin.«set_iterator.__next__» ⟨[.ref I],[]⟩) Q E s:=by
 have told: ∀ {Q:tZ->G5->Prop} {E':G2->G5->Prop} {A':N7} {s':G5},Q ⟨prog,w.params⟩ s'->R5 (S0 prog w) A' ask Q E' s':=λq=>aV q
 have state:=λ{P:S9 (P1×G2)×G6×N6->G5->Prop} {E':G2->G5->Prop} {A':N7}=>E6 (prog:=prog) (w:=w) (A:=A') (E:=E') (Q:=P) (s:=s) ha rfl S.fits
 have stop:=λ{h1:A7} {Q':iE->G5->Prop} (same:A8 I s.heap h1)=>L2.vD (prog:=prog) (w:=w) (A:=A) (E:=E) (s:= {s with heap:=h1}) (Q:=Q') calm λh' e grown st=>q h' e (λb o nb x=>grown b o (same.extBut b o nb x)) st
 obtain⟨hp,g,d,tk,os⟩:=s;have put: ∀ {P:Unit->G5->Prop} {E':G2->G5->Prop} {k:G6} {v:G2} {h1:A7},k<5->A8 I hp h1->(∃fs:S9 G2,fs.size=5/\h1.get? I=some {cls:= .type "set_iterator",data:= .fields fs})->(∀h',A8 I hp h'->(∃fs:S9 G2,fs.size=5/\h'.get? I=some {cls:= .type "set_iterator",data:= .fields fs})->P () ⟨h',g,d,tk,os⟩)->R5 (S0 prog w) A (mZ (.ref I) k v) P E' ⟨h1,g,d,tk,os⟩:=λhk same ⟨fs,hfs,e⟩ q'=>qK (s:=⟨_,g,d,tk,os⟩) e (by omega) λh' z' X05=>q' h' (same.trans X05) ⟨_,by simpa using hfs,z'⟩
 cases M with
 |text b=>
  subst hm;have e:(pickOrder (w.params.setOrder a ep) es)[((i:G6):P1).toNat]? =none:=by
   rw [P9] at hx;rw [W7,<-M8];exact W9.mp hx
  wp_walk using state,told
  rw [e];show R5 _ _ (mZ (.ref I) 2 .none >>= _) _ _ _;exact wpAny_bind (put (by decide) (bM _ _) ⟨_,rfl,hI⟩ λh' same _=>stop same)
 |drawn b dp two ord p tp=>
  obtain⟨rfl,⟨oc,od,odt,Ŝ⟩,Ψ,hc,c,hd⟩:=hm;simp only at hc hd;subst hc hd;have e:((ord.map λj=>Q0 (j:G6)).toArray)[((i:G6):P1).toNat]? =none:=by
   rw [P9] at hx;simp [W9.mp hx]
  wp_walk using state
  rw [e];show R5 _ _ (mZ (.ref I) 0 (Q0 0) >>= λ_=>mZ (.ref I) 2 .none >>= _) _ _ _;exact wpAny_bind (put (by decide) (bM _ _) ⟨_,rfl,hI⟩ λh1 X06 X0z=>wpAny_bind (put (by decide) X06 X0z λh' same _=>stop same))
 |table b pl=>
  obtain⟨slot,rfl,hs⟩:=hm;have led:t.led=true:=by rw [S.led];show (!(w.params.followText "set-order"))=true;rw [b];rfl
  have nd:(!t.plain&&decide (es.size>1))=false:=by
   rcases pl with z|z
   ·rw [z];rfl
   ·rw [T3 (by omega),a8]
  have e:es[i]? =none:=by
   rw [P9] at hx;rw [<-M8];exact W9.mp hx
  wp_walk using state,told
  split
  ·rename_i z;have z':(!t.plain&&decide (es.size>1))=true:=z;rw [nd] at z';cases z'
  wp_walk
  rw [show ((slot:G6):P1).toNat=slot from W7 _,hs,e];show R5 _ _ (mZ (.ref I) 2 .none >>= _) _ _ _;exact wpAny_bind (put (by decide) (bM _ _) ⟨_,rfl,hI⟩ λh' same _=>stop same)
end
def YE:rJ table "set_iterator.__iter__" =some Builtin.«dict_keyiterator.__iter__» :=uQ (id':= "dict_keyiterator.__iter__") (by kernel_rfl) (by first|rfl|decide +kernel|(unfold String.splitOn;simp +decide [String.splitOnAux])) (by decide +kernel) (by kernel_rfl)
def Jf:Slot "set_iterator" "__iter__" "set_iterator.__iter__" := .of (owner:= "set_iterator") (n:= "__iter__") (by rw [tO,oH];kernel_rfl) (by decide +kernel) (by decide +kernel) (by decide +kernel) (.inl (by kernel_rfl)) (by rw [cE];kernel_rfl)
def VX (a:G2):G0C "set_iterator.__iter__" ⟨[a],[]⟩:=by unfold G0C;kernel_rfl
section
variable {prog:T7}{w:C1}{A:N7}{E:G2->G5->Prop}{s:G5}{a I tp:P2}{es:S9 (P1×G2)}{ep n i:G6}{t:N6}{ns:G0 P1}{first:G2}{vals:G0 G2}{md:G2->G6->A7->Prop}
def ľ.keep {f:G2}{h h':A7}(M:ľ w a es ep t vals md tp)(m:md f i h)(k: ∀o,h.get? tp=some o->h'.get? tp=some o):md f i h':=by
 cases M with
 |text b=>exact m
 |drawn b dp two ord p tp=>exact⟨m.1,m.2.at λo e=>k o e⟩
 |table b pl=>exact m
def DD {Q:D4 G2->G5->Prop}(ty:s.TypeIs (.ref I) "set_iterator")
 (h:R5 (S0 prog w) A.in1 (Builtin.«set_iterator.__next__» ⟨[.ref I],[]⟩) (λfin s'=> ∃v,fin= .done (.ret v)/\Q (some v) s') (λe s'=>s'.TypeIs e "StopIteration" /\Q none s') s):R5 (S0 prog w) A (m9 (.ref I)) Q E s:=
 wpAny_bind (fH (O6 (name:= "__next__") ty Ý (M5 (L6 Ý ty YD h (VW _)) (λ_ _ q=>P0 q) λe s' q=>wpAny_bind (cC (b:=true) q.1 o4 (P0 q.2)))))
def DE (calm:A.handled=none)(S:Tab (wK w) es.size t)(M:ľ w a es ep t vals md tp)(aI:a≠I)(tI:tp≠I):
 Walks prog w A I [I,a,tp] [I] vals.length (λi v=>vals[i]? =some v) (λi h=>h.get? a=some (yt es ep t)/\ ∃first,h.get? I=some (Ų first i a es.size ep)/\md first i h) where
 sub:=λb hb=>by simp only [G8] at hb;simp [hb]
 frame:=λi h h' ⟨ha,f,hI,m⟩ k=>⟨k a (by simp) _ ha,f,k I (by simp) _ hI,M.keep m λo e=>k tp (by simp) o e⟩
 item:=λi s Q E hi ⟨ha,f,hI,m⟩ q=>by
  have hx:vals[i]? =some vals[i]:=by simp [hi]
  refine DD ⟨_,hI,rfl⟩ ?_;have fin: ∀ {f':G2} h',md f' (i+1) s.heap->h'.get? I=some (Ų f' (i+1) a es.size ep)->A8 I s.heap h'->Q (some vals[i]) {s with heap:=h'}:=λh' m' e same=>
   q vals[i] h' s.toks hx ⟨same.extBut _ _ aI ha,_,e,M.keep m' λo x=>same.extBut _ _ tI x⟩ λb o nb x=>same.extBut _ _ (by simpa using nb) x
  cases M with
  |text b=>
   subst m;exact DB S b ha hI aI hx λh' e same=>fin h' rfl e same
  |drawn b dp two ord p tp=>
   obtain⟨rfl,ht⟩:=m;exact Gv S ha hI aI ht p hx λh' e same=>fin h' ⟨rfl,ht⟩ e same
  |table b pl=>
   obtain⟨slot,rfl,hs⟩:=m;exact Gw S b pl ha hI aI hs hx λh' ž hs' e same=>fin h' ⟨ž,rfl,hs'⟩ e same
 done:=λs Q E ⟨ha,f,hI,m⟩ q=>by
  refine DD ⟨_,hI,rfl⟩ (Gx calm S M ha hI aI m (by simp) λh' e kept ⟨o,ho,hc⟩=>⟨⟨o,ho,hc⟩,q h' s.toks λb ob nb x=>kept b ob (by simpa using nb) x⟩)
 self:=λi s Q E ⟨ha,f,hI,m⟩ q=>mE ⟨_,hI,rfl⟩ Jf (L6 Jf ⟨_,hI,rfl⟩ YE (P0 ⟨_,rfl,_,_,⟨_,hI,rfl⟩,Ý.lookup,q⟩) (VX _))
end
theorem JK {α:Type}: ∀ (l:G0 α) (i:G6) {x:α},l[i]? =some x->(x::l.eraseIdx i).Perm l
 | [],i,x,h=>by cases h
 |y::l,0,x,h=>by cases h;exact .refl _
 |y::l,i+1,x,h=>(G1e y x _).trans ((JK l i h).cons y)
theorem DF {α:Type}(next:G6->G6): ∀ (fuel k:G6) (left:G0 α) (out:S9 α),left.length=fuel->(pickOrder.go next fuel k left out).toList.Perm (out.toList++left)
 |0,k,left,out,h=>by
  rw [K4 h,J5];exact .refl _
 |fuel+1,k,left,out,h=>by
  unfold pickOrder.go;have lt:next k%left.length<left.length:=Z5 _ (by omega);have hx:left[next k%left.length]? =some left[next k%left.length]:=by simp [lt]
  rw [hx];refine(DF next fuel (k+1) _ _ (by rw [lE lt];omega)).trans ?_;rw [V0,D5];exact(JK left _ hx).append_left _
def DG {α:Type}(next:G6->G6)(xs:S9 α):(pickOrder next xs).toList.Perm xs.toList:=by
 have:=DF next xs.size 0 xs.toList #[] (by simp);rw [Array.toList_empty,E2] at this;exact this
section
variable {prog:T7}{w:C1}{A:N7}{E:G2->G5->Prop}{s:G5}{a I tp:P2}{es:S9 (P1×G2)}{ep n i:G6}{t:N6}{ns:G0 P1}{first:G2}{vals:G0 G2}{md:G2->G6->A7->Prop}
def ľ.perm (M:ľ w a es ep t vals md tp):vals.Perm (es.toList.map (·.2)):=by
 cases M with
 |text b=>exact(DG _ es).map _
 |drawn b dp two ord p tp=>
  refine(p.map _).trans ?_;have:(P5 es.size).map (λj=>(es.getD j (0,.none)).2)=es.toList.map (·.2):=by
   refine bP λj=> ?_
   rw [P9,P9]
   by_cases hj:j<es.size
   ·rw [J1 hj];simp [hj,uP]
   ·rw [L0 (by simpa using hj),L0 (by simpa using hj)];rfl
  rw [this]
 |table b pl=>exact .refl _
theorem Qk {α:Type}{Q:G0 α->G5->Prop}: ∀ (n:G6) (xs:G0 α) (s:G5),xs.length=n->(∀ys d,ys.Perm xs->Q ys {s with drawn:=d})->R5 (S0 prog w) A (drawOrder n xs) Q E s
 |0,xs,s,h,q=>by
  rw [K4 h] at q;exact P0 (q [] s.drawn (.refl _))
 |n+1,[],s,h,q=>by cases h
 |n+1,x::r,s,h,q=>by
  have X07: ∀ {P:G6->G5->Prop} {E':G2->G5->Prop},(∀i d,i<(x::r).length->P i {s with drawn:=d})->R5 (S0 prog w) A (choose .order (x::r).length) P E' s:=λp _ _ _=>⟨by simp,p _ _ (Z5 _ (by simp))⟩
  refine wpAny_bind (X07 λi d hi=> ?_);have hx:(x::r)[i]? =some (x::r)[i]:=by rw [G1 hi]
  rw [hx];refine wpAny_bind (Qk n _ {s with drawn:=d} (by rw [lE hi];simp at h ⊢;omega) λys d' p=>P0 (q _ d' ?_));exact(p.cons _).trans (JK _ _ hx)
def Nv {Q:G2->G5->Prop}(S:Tab (wK w) es.size t)(ha:s.heap.get? a=some (yt es ep t))(few:es.size<1000)
 (k: ∀h' d I tp vals md first,ľ w a es ep t vals md tp->(∀b o,s.heap.get? b=some o->h'.get? b=some o)->s.heap.objs.size<=I->tp≠I->(tp=a\/s.heap.objs.size<=tp)->tp<h'.objs.size->h'.get? I=some (Ų first 0 a es.size ep)->md first 0 h'->Q (.ref I) {s with heap:=h',drawn:=d}):
 R5 (S0 prog w) A (qD (.ref a)) Q E s:=by
 have ty:s.TypeIs (.ref a) "set" :=⟨_,ha,rfl⟩;have told: ∀ {Q:tZ->G5->Prop} {E':G2->G5->Prop} {A':N7} {s':G5},Q ⟨prog,w.params⟩ s'->R5 (S0 prog w) A' ask Q E' s':=λq=>aV q
 have state:=λ{P:S9 (P1×G2)×G6×N6->G5->Prop} {E':G2->G5->Prop} {A':N7} {s':G5} (e:s'.heap.get? a=some (yt es ep t))=>E6 (prog:=prog) (w:=w) (A:=A') (E:=E') (Q:=P) (s:=s') e rfl S.fits
 refine mE ty tP (L6 tP ty Wo ?_ (F.args_set_iter_1 _));have ŏ:=λ{P:S9 (P1×G2)×G6×N6->G5->Prop} {E':G2->G5->Prop} {A':N7}=>state (P:=P) (E':=E') (A':=A') (s':=s) ha
 cases b:w.params.followText "set-order" with
 |true=>
  wp_walk using ŏ,told
  have at_:(s.heap.push (Ų (Q0 0) 0 a es.size ep)).get? s.heap.objs.size=some (Ų (Q0 0) 0 a es.size ep):=S6 _ rfl;have nI:a≠s.heap.objs.size:=λz=>B8 _ (z ▸ D9 ha)
  refine⟨_,rfl,"set_iterator",_,⟨_,at_,rfl⟩,Ý.lookup,?_⟩;exact k _ s.drawn s.heap.objs.size a _ _ (Q0 0) (.text b) (λb o e=>G9 _ e) (P6 _) nI (.inl rfl) (D9 (G9 _ ha)) at_ rfl
 |false=>
  cases dd:(!t.plain&&decide (es.size>1)) with
  |false=>
   have pl:t.plain=true\/es.size<=1:=by
    cases hp:t.plain with
    |true=>exact .inl rfl
    |false=>rw [hp] at dd;have:=lF (show decide (es.size>1)=false from dd);exact .inr (by omega)
   have at_:(s.heap.push (Ų (Q0 0) 0 a es.size ep)).get? s.heap.objs.size=some (Ų (Q0 0) 0 a es.size ep):=S6 _ rfl;have nI:a≠s.heap.objs.size:=λz=>B8 _ (z ▸ D9 ha)
   have zero:M6 t.place 0=0:=by
    obtain⟨b1,_,b3⟩:=Je (S.rise pl) 0;rcases lG (M6 t.place 0) with z|z
    ·exact z
    ·have h0:0<t.place.size:=by omega
     exact absurd (b1 0 z _ (by simp [h0]:t.place[0]? =some t.place[0])) (U1 _)
   have fin:=k _ s.drawn s.heap.objs.size a _ _ (Q0 0) (.table b pl) (λb o e=>G9 _ e) (P6 _) nI (.inl rfl) (D9 (G9 _ ha)) at_ ⟨0,rfl,zero⟩
   wp_walk using ŏ,told
   split
   ·rename_i z;have z':(!w.params.followText "set-order" &&(!t.plain&&decide (es.size>1)))=true:=z;rw [b,dd] at z';cases z'
   wp_walk using ŏ
   exact⟨_,rfl,"set_iterator",_,⟨_,at_,rfl⟩,Ý.lookup,fin⟩
  |true=>
   have pf:t.plain=false/\1<es.size:=by
    rw [F4] at dd;exact⟨by simpa using dd.1,F9 dd.2⟩
   wp_walk using ŏ,told
   split
   rotate_left
   ·rename_i z;exact(z (show (!w.params.followText "set-order" &&(!t.plain&&decide (es.size>1)))=true by rw [b,dd];rfl)).elim
   refine wpAny_bind (Qk es.size (P5 es.size) s (by simp) λord d p=> ?_);have len:ord.length=es.size:=by rw [p.length_eq];simp
   have t0:(s.heap.push {cls:= .type "tuple",data:= .seq (ord.map λ(i:G6)=>Q0 i).toArray}).get? s.heap.objs.size=some {cls:= .type "tuple",data:= .seq (ord.map λ(i:G6)=>Q0 i).toArray}:=S6 _ rfl;refine wpAny_bind (uR ?_ (by rw [G3,len];exact R8 (T8 few) (by decide)));have ha1:(s.heap.push {cls:= .type "tuple",data:= .seq (ord.map λ(i:G6)=>Q0 i).toArray}).get? a=some (yt es ep t):=G9 _ ha;have X0A:=λ{P:S9 (P1×G2)×G6×N6->G5->Prop} {E':G2->G5->Prop} {A':N7}=>state (P:=P) (E':=E') (A':=A') (s':= {s with heap:=s.heap.push {cls:= .type "tuple",data:= .seq (ord.map λ(i:G6)=>Q0 i).toArray},drawn:=d}) ha1
   wp_walk using X0A
   have at_:=S6 (s.heap.push {cls:= .type "tuple",data:= .seq (ord.map λ(i:G6)=>Q0 i).toArray}) (o:=Ų (.ref s.heap.objs.size) 0 a es.size ep) rfl;have lt1:s.heap.objs.size<(s.heap.push {cls:= .type "tuple",data:= .seq (ord.map λ(i:G6)=>Q0 i).toArray}).objs.size:=D9 t0;refine⟨_,rfl,"set_iterator",_,⟨_,at_,rfl⟩,Ý.lookup,?_⟩;exact k _ d _ s.heap.objs.size _ _ (.ref s.heap.objs.size) (.drawn b pf.1 pf.2 ord p s.heap.objs.size) (λb o e=>G9 _ (G9 _ e)) (T8 lt1) (M7 lt1) (.inr (P6 _)) (D9 (G9 _ t0)) at_ ⟨rfl,⟨_,G9 _ t0,rfl,0,rfl⟩⟩
end
section
variable {prog:T7}{w:C1}{A:N7}{E:G2->G5->Prop}{s:G5}{a:P2}{es:S9 (P1×G2)}{ep:G6}{t:N6}{ns:G0 P1}
def Nw {Q:N4->G5->Prop}(ty:s.TypeIs (.ref a) "set")(q:Q false s):R5 (S0 prog w) A (i0 (.ref a)) Q E s:=by
 have parts:splitId "set.__len__" =some ("set","__len__"):=by decide +kernel
 have f2:=vF;unfold i0;refine wpAny_bind (Y2 ty F.slot_set_len.lookup ?_);dsimp only;rw [parts];dsimp only
 wp_walk
 exact q
def Et (s:G5)(es:S9 (P1×G2))(r:qE)(s':G5):Prop:=
 ∃h' d tk acc c,r= .ok (.ret (.ref s.heap.objs.size))/\s'= {s with heap:=h',drawn:=d,toks:=tk}/\h'.get? s.heap.objs.size=some {cls:= .type "list",dict:=none,data:= .seq acc c,slots:= #[]}/\(∀b o,s.heap.get? b=some o->h'.get? b=some o)/\acc.toList.Perm (es.toList.map (·.2))
def Gy (calm:A.handled=none)(S:Tab (wK w) es.size t)(ha:s.heap.get? a=some (yt es ep t))(few:es.size<1000):
 bJ (S0 prog w) A (.builtin "proto.collect" ⟨[.ref a],[]⟩) (Et s es) s:=by
 have nS:s.heap.objs.size≠a:=λz=>B8 _ (z ▸ D9 ha)
 have old: ∀ {b o o'},s.heap.get? b=some o->(s.heap.push o').get? b=some o:=λe=>G9 _ e
 refine aQ F.entry_proto_collect ?_
 wp_walk
 refine⟨iK rK _,aQ F.entry_list_iadd ?_⟩;rw [aC rK];have ha1:(s.heap.push {cls:= .type "list",data:= .seq #[]}).get? a=some (yt es ep t):=old ha;have hS:(s.heap.push {cls:= .type "list",data:= .seq #[]}).get? s.heap.objs.size=some {cls:= .type "list",data:= .seq #[]}:=S6 _ rfl;have ty:Shared.TypeIs {s with heap:=s.heap.push {cls:= .type "list",data:= .seq #[]}} (.ref a) "set" :=⟨_,ha1,rfl⟩;have other:mN (.ref s.heap.objs.size) (.ref a)=false:=by simp [mN,nS]
 have iter:=λ{P:G2->G5->Prop} {E':G2->G5->Prop} {A':N7}=>Nv (prog:=prog) (w:=w) (A:=A') (E:=E') (Q:=P) (s:= {s with heap:=s.heap.push {cls:= .type "list",data:= .seq #[]}}) S ha1 (by omega)
 show R5 _ A.in1 (t8 (.ref s.heap.objs.size) (.ref a) (.ref s.heap.objs.size)) _ _ _
 wp_walk using iter
 intro h1 d I tp vals md first M kept lo tI tpo tpl hI hm
 have ha2:h1.get? a=some (yt es ep t):=kept _ _ ha1;have hS2:h1.get? s.heap.objs.size=some {cls:= .type "list",data:= .seq #[]}:=kept _ _ hS;have ty2:Shared.TypeIs {s with heap:=h1,drawn:=d} (.ref a) "set" :=⟨_,ha2,rfl⟩;refine wpAny_bind (O8 (Nw ty2 ?_))
 wp_walk
 have lt:a<s.heap.objs.size:=D9 ha;have e1:(s.heap.push {cls:= .type "list",data:= .seq #[]}).objs.size=s.heap.objs.size+1:=dG ..;have lo':s.heap.objs.size+1<=I:=by rw [<-e1];exact lo
 have aI:a≠I:=λz=>by subst z;exact absurd lt (aP.mpr (rL lo'))
 have SI:s.heap.objs.size≠I:=M7 lo';have Stp:s.heap.objs.size≠tp:=by
  rcases tpo with z|z
  ·rw [z];exact nS
  ·exact M7 (B2 (by rw [e1];exact J7 _) z)
 have hS3:=L9 (aN λx=>x.push i4) hS2 rfl;have hS4:=L9 (aN λx=>x.pop) hS3 rfl;have same:A8 s.heap.objs.size h1 ((h1.update s.heap.objs.size (aN λx=>x.push i4)).update s.heap.objs.size (aN λx=>x.pop)):=(A6 ..).trans (A6 ..);have W:=DE (prog:=prog) (A:=A.in1) calm S M aI tI;refine⟨iK F.plain_extend_loop _,codeAny_extend_loopS W.toS ?_ s.heap.objs.size (by simp [SI,nS,Stp]) _ vals.length 0 _ #[] _ rfl (N9 _) ⟨same.extBut _ _ nS.symm ha2,first,same.extBut _ _ SI.symm hI,M.keep hm λo e=>same.extBut _ _ Stp.symm e⟩ hS4 (ItemsOf.nil _) λs' acc c' moved hS' items=> ?_⟩
 ·rw [M.perm.length_eq,G3,D3];exact R8 (T8 few) (by decide)
 have Ξ:acc.toList=vals:=by
  refine bP λi=> ?_
  rw [M8];cases e:acc[i]? with
  |some v=>exact(items.2 i v e).symm
  |none=>
   have:vals.length<=i:=by rw [<-items.1];exact Q8.mp e
   exact(L0 this).symm
 obtain⟨h',g',d',tk',os'⟩:=s';have mg:g'=s.gens:=moved.gens;have md':d'=d:=moved.drawn;have mo:os'=s.os:=moved.os;subst mg md' mo;refine⟨h',d',tk',acc,c',rfl,rfl,hS',λb o e=> ?_,by rw [Ξ];exact M.perm⟩;have lb:=D9 e;have nb:b≠s.heap.objs.size:=M7 lb;have nbI:b≠I:=λz=>by subst z;exact absurd lb (aP.mpr (rL lo'))
 exact moved.heap b o (by simp [nb,nbI]) (same.extBut _ _ nb (kept _ _ (old e)))
end
end HT
namespace L2
open PySem PySem.Spec PyProof.Rows PySem.SeqAt
def Inv.drew {X:Cx}{À:G0 (P2×Obj)}{σ:St}{H:Hp}{s:G5}(I:Inv X À σ H s)(d:Drawn):Inv X À σ H {s with drawn:=d}:=⟨I.ok,I.os,I.bare,I.base,I.loc,I.cell,I.free,I.freeC,I.pin,I.hok,I.len⟩
end L2
namespace L2
def IsS.ext {n:G6}{S S':G0 G6}(h:IsS n S)(h':IsS n S')(m: ∀j,j∈S↔j∈S'):S=S':=by
 obtain⟨p,rfl⟩:=h;obtain⟨q,rfl⟩:=h';refine mF λj hj=> ?_
 have:=m j;rw [B0,B0] at this;have e:p j=true↔q j=true:=⟨λz=>(this.mp ⟨hj,z⟩).2,λz=>(this.mpr ⟨hj,z⟩).2⟩;cases hp:p j<;>cases hq:q j<;>simp_all
inductive Made (L:G0 G6):G6->Prop
 |z:Made L 0
 |s {n l:G6}:Made L n->l∈L->Made L (n+l)
theorem Ql: ∀ (L:G0 G6) (g d:G6),d∣L.foldl uA g↔d∣g/\ ∀l∈L,d∣l
 | [],g,d=>by simp
 |x::L,g,d=>by
  show d∣L.foldl uA (uA g x)↔_;rw [Ql L,Nat.dvd_gcd_iff];simp only [R7,forall_eq_or_imp];exact⟨λ⟨⟨a,b⟩,c⟩=>⟨a,b,c⟩,λ⟨a,b,c⟩=>⟨⟨a,b⟩,c⟩⟩
end L2
namespace HT
open PySem PyProof.Rows
section
variable {prog:T7}{w:C1}{A:N7}{E:G2->G5->Prop}{σ α β:Type}{J:G5->Prop}
def Tm (prog:T7)(w:C1)(A:N7)(E:G2->G5->Prop)(J:G5->Prop){σ α:Type}(m:aD σ Sem α)(Q:α->σ->Prop)(st:σ):Prop:=
 ∀s,J s->R5 (S0 prog w) A (m.run st) (λr s'=>Q r.1 r.2/\J s') E s
def Tm.pure {a:α}{Q:α->σ->Prop}{st:σ}(h:Q a st):Tm prog w A E J (Pure.pure a:aD σ Sem α) Q st:=λs j=>by
 rw [StateT.run_pure];exact P0 ⟨h,j⟩
def Tm.bind {m:aD σ Sem α}{f:α->aD σ Sem β}{Q:β->σ->Prop}{st:σ}(h:Tm prog w A E J m (λa Å=>Tm prog w A E J (f a) Q Å) st):Tm prog w A E J (m >>= f) Q st:=λs j=>by
 rw [StateT.run_bind];exact wpAny_bind (M5 (h s j) (λr s' x=>x.1 s' x.2) λ_ _ e=>e)
def Tm.get {Q:σ->σ->Prop}{st:σ}(h:Q st st):Tm prog w A E J (MonadState.get:aD σ Sem σ) Q st:=λs j=>by
 show R5 _ _ ((StateT.get:aD σ Sem σ).run st) _ _ _;exact P0 ⟨h,j⟩
def Tm.mono {m:aD σ Sem α}{Q Q':α->σ->Prop}{st:σ}(h:Tm prog w A E J m Q st)(q: ∀a Å,Q a Å->Q' a Å):Tm prog w A E J m Q' st:=λs j=>
 M5 (h s j) (λr s' x=>⟨q _ _ x.1,x.2⟩) λ_ _ e=>e
def Tm.range' {f:G6->β->aD σ Sem (gC β)}(I:G6->β->σ->Prop){Q:β->σ->Prop}{b:G6}(step: ∀i c st,i<b->I i c st->Tm prog w A E J (f i c) (λr Å=>match r with| .done c'=>Q c' Å| .yield c'=>I (i+1) c' Å) st)(fin: ∀c st,I b c st->Q c st):
 ∀ (k i:G6) (c:β) (st:σ),i+k=b->I i c st->Tm prog w A E J (forIn (mG i k) c f) Q st
 |0,i,c,st,e,h=>by
  rw [List.range'_zero,List.forIn_nil];exact .pure (fin c st (by rw [<-e];exact h))
 |k+1,i,c,st,e,h=>by
  rw [List.range'_succ,cQ];refine .bind ((step i c st (by omega) h).mono λr Å x=> ?_);cases r with
  |done c'=>exact .pure x
  |yield c'=>exact Tm.range' I step fin k (i+1) c' Å (by omega) x
def Tm.range {f:G6->β->aD σ Sem (gC β)}(I:G6->β->σ->Prop){Q:β->σ->Prop}{a b:G6}{c:β}{st:σ}(hab:a<=b)(h:I a c st)(step: ∀i c st,i<b->I i c st->Tm prog w A E J (f i c) (λr Å=>match r with| .done c'=>Q c' Å| .yield c'=>I (i+1) c' Å) st)(fin: ∀c st,I b c st->Q c st):
 Tm prog w A E J (forIn [a:b] c f) Q st:=λs j=>by
 rw [Std.Legacy.Range.forIn_eq_forIn_range'];have e:([a:b]:Std.Legacy.Range).size=b-a:=by simp [Std.Legacy.Range.size]
 rw [e];exact Tm.range' I step fin (b-a) a c st (by omega) h s j
end
section
variable {prog:T7}{w:C1}{A:N7}{E:G2->G5->Prop}{J:G5->Prop}{κ:SortKind}{U:D7->Prop}{R:D7->D7->N4}
def YF (prog:T7)(w:C1)(A:N7)(J:G5->Prop)(κ:SortKind)(U:D7->Prop)(R:D7->D7->N4):Prop:=
 ∀x y,U x->U y-> ∀s,J s->R5 (S0 prog w) A (keyLt' κ x.1 y.1) (λb s'=>b=R x y/\J s') (λ_ _=>False) s
def Tm.lt {x y:D7}{st:C9}{Q:D4 N4->C9->Prop}(a:YF prog w A J κ U R)(k:kindOf st=κ)(hx:U x)(hy:U y)(q:Q (some (R x y)) st):Tm prog w A E J (lt' x y) Q st:=by
 rw [lt'_eq];refine .bind (.get ?_);rw [k];intro s j;rw [StateT.run_bind];refine wpAny_bind ?_;show R5 _ _ ((StateT.lift _:aD C9 Sem _).run st) _ _ _;rw [StateT.run_lift];refine wpAny_bind (fH (M5 (a x y hx hy s j) (λb s' x=> ?_) λ_ _ e=>e.elim));obtain⟨rfl,j'⟩:=x;exact P0 (Tm.pure (prog:=prog) (w:=w) (A:=A) (E:=E) (J:=J) q s' j')
def Tm.elem {arr:S9 D7}{i:G6}{x:D7}{st:C9}{Q:D7->C9->Prop}(e:arr[i]? =some x)(q:Q x st):Tm prog w A E J (elem' arr i) Q st:=by
 rw [elem'_eq,e];exact .pure q
def Eu {n lo hi:G6}{g:G6->N4}{st:C9}{f:G6->D4 (D4 G6)×G6×G6->aD C9 Sem (gC (D4 (D4 G6)×G6×G6))}(Ş: ∀i j,i<=j->j<n->g j=true->g i=true)
 (h1:lo<=hi)(h2:hi<=n)(a1: ∀i,i<lo->g i=true)(a2: ∀i,hi<=i->i<n->g i=false)
 (stop: ∀i l,Tm prog w A E J (f i (none,l,l)) (λr Å=>Å=st/\r= .done (none,l,l)) st)
 (step: ∀i l u,l<u->u<=n->Tm prog w A E J (f i (none,l,u)) (λr Å=>Å=st/\r=if g (l+(u-l) / 2)=true then .yield (none,l+(u-l) / 2+1,u) else .yield (none,l,l+(u-l) / 2)) st):
 Tm prog w A E J (forIn [0:n] (none,lo,hi) f) (λc Å=>Å=st/\c.1=none/\c.2.2<=n/\(∀i,i<c.2.2->g i=true)/\ ∀i,c.2.2<=i->i<n->g i=false) st:=by
 have no: ∀i j,i<=j->j<n->g i=false->g j=false:=λi j hij hj z=>by
  cases hb:g j with
  |false=>rfl
  |true=>rw [Ş i j hij hj hb] at z;cases z
 refine Tm.range (λi c Å=>Å=st/\c.1=none/\c.2.1<=c.2.2/\c.2.2<=n/\(∀i,i<c.2.1->g i=true)/\(∀i,c.2.2<=i->i<n->g i=false)/\c.2.2-c.2.1+i<=n) (N9 _) ⟨rfl,rfl,h1,h2,a1,a2,by dsimp only;omega⟩ ?_ ?_
 ·rintro i ⟨r,l,u⟩ _ hi ⟨rfl,hr,b1,b2,b3,b4,b5⟩;dsimp only at hr b1 b2 b3 b4 b5;subst hr
  by_cases z:l=u
  ·subst z;refine(stop i l).mono ?_;rintro _ _ ⟨rfl,rfl⟩;exact⟨rfl,rfl,b2,b3,b4⟩
  ·refine(step i l u (by omega) b2).mono ?_;rintro _ _ ⟨rfl,rfl⟩;cases hg:g (l+(u-l) / 2) with
   |true=>
    rw [R9 rfl];exact⟨rfl,rfl,by dsimp only;omega,b2,λj hj=>Ş j _ (by dsimp only at hj;omega) (by omega) hg,b4,by dsimp only;omega⟩
   |false=>
    rw [S4 (by decide)];exact⟨rfl,rfl,by dsimp only;omega,by dsimp only;omega,b3,λj hj hn=>no _ j hj hn hg,by dsimp only;omega⟩
 ·rintro ⟨r,l,u⟩ _ ⟨rfl,hr,b1,b2,b3,b4,b5⟩;dsimp only at hr b1 b2 b3 b4 b5 ⊢;exact⟨rfl,hr,b2,λj hj=>b3 j (by omega),b4⟩
noncomputable def gal:N4->D7->S9 D7->G6->G6->G6->aD C9 Sem (D4 G6):=sortPriv% PySem.Builtin.gallop
noncomputable def Ĭ (R:D7->D7->N4)(left:N4)(key:D7)(arr:S9 D7)(base i:G6):N4:=
 match arr[base+i]? with
 |some x=>if left=true then R x key else !R key x
 |none=>false
def DH {left:N4}{key:D7}{arr:S9 D7}{base n hint:G6}{st:C9}{Q:D4 G6->C9->Prop}(a:YF prog w A J κ U R)(k:kindOf st=κ)(uk:U key)(ua: ∀i,i<n-> ∃x,arr[base+i]? =some x/\U x)
 (Ş: ∀i j,i<=j->j<n->Ĭ R left key arr base j=true->Ĭ R left key arr base i=true)(hh:hint<n)
 (q: ∀m,m<=n->(∀i,i<m->Ĭ R left key arr base i=true)->(∀i,m<=i->i<n->Ĭ R left key arr base i=false)->Q (some m) st):Tm prog w A E J (gal left key arr base n hint) Q st:=by
 have ask: ∀i (Q':D4 N4->C9->Prop),i<n->Q' (some (Ĭ R left key arr base i)) st->Tm prog w A E J (do let x <-elem' arr (base+i);if left=true then lt' x key else do let b <-lt' key x;Pure.pure (b.map λz=> !z)) Q' st:=λi Q' hi q'=>by
  obtain⟨x,ex,ux⟩:=ua i hi;refine .bind (.elem ex ?_);unfold Ĭ at q';rw [ex] at q';cases left with
  |true=>exact .lt a k ux uk q'
  |false=>exact .bind (.lt a k uk ux (.pure q'))
 have no: ∀i j,i<=j->j<n->Ĭ R left key arr base i=false->Ĭ R left key arr base j=false:=λi j hij hj z=>by
  cases hb:Ĭ R left key arr base j with
  |false=>rfl
  |true=>rw [Ş i j hij hj hb] at z;cases z
 unfold gal;refine .bind (ask hint _ hh ?_);dsimp only;cases hb:Ĭ R left key arr base hint with
 |true=>
  rw [R9 rfl];refine .bind (Tm.mono (Tm.range (λi c Å=>Å=st/\c.1=none/\c.2.1<c.2.2/\hint+c.2.1<n/\Ĭ R left key arr base (hint+c.2.1)=true/\i+1<=c.2.2)
   (Q:=λc Å=>Å=st/\c.1=none/\c.2.1<c.2.2/\hint+c.2.1<n/\Ĭ R left key arr base (hint+c.2.1)=true/\(n-hint<=c.2.2\/Ĭ R left key arr base (hint+c.2.2)=false)) (N9 _) ⟨rfl,rfl,by decide,by omega,by simpa using hb,by decide⟩ ?_ ?_) ?_)
  ·rintro i ⟨r,lo,of⟩ _ hi ⟨rfl,hr,h1,h2,h3,h4⟩;dsimp only at hr h1 h2 h3 h4 ⊢;subst hr
   by_cases z:of>=n-hint
   ·rw [R9 z];exact .pure ⟨rfl,rfl,h1,h2,h3,.inl z⟩
   ·rw [S4 z];refine .bind (ask (hint+of) _ (by omega) ?_);dsimp only;cases hc:Ĭ R left key arr base (hint+of) with
    |true=>exact .pure ⟨rfl,rfl,by dsimp only;omega,by dsimp only;omega,hc,by dsimp only;omega⟩
    |false=>exact .pure ⟨rfl,rfl,h1,h2,h3,.inr hc⟩
  ·rintro ⟨r,lo,of⟩ _ ⟨rfl,hr,h1,h2,h3,h4⟩;exact⟨rfl,hr,h1,h2,h3,.inl (by dsimp only at h4 ⊢;omega)⟩
  ·rintro ⟨r,lo,of⟩ _ ⟨rfl,hr,h1,h2,h3,h4⟩;dsimp only at hr h1 h2 h3 h4 ⊢;subst hr;dsimp only;refine .bind (Tm.mono (Eu (g:=Ĭ R left key arr base) Ş (by omega) (by omega) (λi hi=>Ş i _ (by omega) h2 h3) (λi hi hn=> ?_) (λi l=> ?_) (λi l u hl hu=> ?_)) ?_)
   ·rcases h4 with z|z
    ·omega
    ·exact no (hint+of) i (by omega) hn z
   ·rw [R9 (P6 l)];exact .pure ⟨rfl,rfl⟩
   ·rw [S4 (show ¬l>=u by omega)];refine .bind (ask (l+(u-l) / 2) _ (by omega) ?_);dsimp only;cases Ĭ R left key arr base (l+(u-l) / 2)<;>exact .pure ⟨rfl,rfl⟩
   ·rintro ⟨r,l,u⟩ _ ⟨rfl,hr,b2,b3,b4⟩;dsimp only at hr b2 b3 b4 ⊢;subst hr;exact .pure (q u b2 b3 b4)
 |false=>
  rw [S4 (by decide)];refine .bind (Tm.mono (Tm.range (λi c Å=>Å=st/\c.1=none/\c.2.1<c.2.2/\c.2.1<=hint/\Ĭ R left key arr base (hint-c.2.1)=false/\i+1<=c.2.2)
   (Q:=λc Å=>Å=st/\c.1=none/\c.2.1<c.2.2/\c.2.1<=hint/\Ĭ R left key arr base (hint-c.2.1)=false/\(hint+1<=c.2.2\/Ĭ R left key arr base (hint-c.2.2)=true)) (N9 _) ⟨rfl,rfl,by decide,by dsimp only;omega,by simpa using hb,by decide⟩ ?_ ?_) ?_)
  ·rintro i ⟨r,lo,of⟩ _ hi ⟨rfl,hr,h1,h2,h3,h4⟩;dsimp only at hr h1 h2 h3 h4 ⊢;subst hr
   by_cases z:of>=hint+1
   ·rw [R9 z];exact .pure ⟨rfl,rfl,h1,h2,h3,.inl z⟩
   ·rw [S4 z];refine .bind (ask (hint-of) _ (by omega) ?_);dsimp only;cases hc:Ĭ R left key arr base (hint-of) with
    |false=>exact .pure ⟨rfl,rfl,by dsimp only;omega,by dsimp only;omega,hc,by dsimp only;omega⟩
    |true=>exact .pure ⟨rfl,rfl,h1,h2,h3,.inr hc⟩
  ·rintro ⟨r,lo,of⟩ _ ⟨rfl,hr,h1,h2,h3,h4⟩;exact⟨rfl,hr,h1,h2,h3,.inl (by dsimp only at h4 ⊢;omega)⟩
  ·rintro ⟨r,lo,of⟩ _ ⟨rfl,hr,h1,h2,h3,h4⟩;dsimp only at hr h1 h2 h3 h4 ⊢;subst hr;dsimp only;refine .bind (Tm.mono (Eu (g:=Ĭ R left key arr base) Ş (by omega) (by omega) (λi hi=> ?_) (λi hi hn=>no _ i hi hn h3) (λi l=> ?_) (λi l u hl hu=> ?_)) ?_)
   ·rcases h4 with z|z
    ·omega
    ·exact Ş i (hint-of) (by omega) (by omega) z
   ·rw [R9 (P6 l)];exact .pure ⟨rfl,rfl⟩
   ·rw [S4 (show ¬l>=u by omega)];refine .bind (ask (l+(u-l) / 2) _ (by omega) ?_);dsimp only;cases Ĭ R left key arr base (l+(u-l) / 2)<;>exact .pure ⟨rfl,rfl⟩
   ·rintro ⟨r,l,u⟩ _ ⟨rfl,hr,b2,b3,b4⟩;dsimp only at hr b2 b3 b4 ⊢;subst hr;exact .pure (q u b2 b3 b4)
end
section
variable {κ:Type}{U:κ->Prop}{R:κ->κ->N4}{al bl:G0 κ}
structure Õ (U:κ->Prop)(R:κ->κ->N4):Prop where
 asym: ∀x y,U x->U y->R x y=true->R y x=false
 neg: ∀x y z,U x->U y->U z->R x z=true->R x y=true\/R y z=true
def Õ.refl (o:Õ U R){x:κ}(u:U x):R x x=false:=by
 cases h:R x x with
 |false=>rfl
 |true=>have:=o.asym x x u u h;rw [h] at this;exact this
def Õ.trans (o:Õ U R){x y z:κ}(ux:U x)(uy:U y)(uz:U z)(a:R y x=false)(b:R z y=false):R z x=false:=by
 cases h:R z x with
 |false=>rfl
 |true=>
  rcases o.neg z y x uz uy ux h with z|z
  ·rw [b] at z;cases z
  ·rw [a] at z;cases z
abbrev Ö (R:κ->κ->N4)(l:G0 κ):Prop:=l.Pairwise λx y=>R y x=false
structure MI (R:κ->κ->N4)(al bl:G0 κ)(ia ib:G6)(out:G0 κ):Prop where
 perm:out.Perm (al.take ia++bl.take ib)
 srt:Ö R out
 ra: ∀x∈out,∀y∈al.drop ia,R y x=false
 rb: ∀x∈out,∀y∈bl.drop ib,R y x=false
def zf {l:G0 κ}{i:G6}{y:κ}(h:l[i]? =some y):l.drop i=y::l.drop (i+1):=by
 obtain⟨hi,e⟩:=P7.mp h;rw [List.drop_eq_getElem_cons hi,e]
def ZS {l:G0 κ}{i:G6}{y:κ}(h:l[i]? =some y):l.take (i+1)=l.take i++ [y]:=by
 rw [C4,h];rfl
def MI.start (al bl:G0 κ):MI R al bl 0 0 []:=⟨.refl _,.nil,λx hx=>(F5 hx).elim,λx hx=>(F5 hx).elim⟩
variable {ia ib:G6}
def MI.pushB {out:G0 κ}{y:κ}(m:MI R al bl ia ib out)(o:Õ U R)(ua: ∀x∈al,U x)(ub: ∀x∈bl,U x)(sa:Ö R al)(sb:Ö R bl)(hy:bl[ib]? =some y)(lt: ∀z,al[ia]? =some z->R y z=true):MI R al bl ia (ib+1) (out++ [y]):=by
 have dy:=zf hy;have uy:=ub y (P8 hy);have sdb:Ö R (bl.drop ib):=sb.sublist (V1 _ _);rw [dy] at sdb;refine⟨?_,?_,λx hx z hz=> ?_,λx hx z hz=> ?_⟩
 ·rw [ZS hy,<-D5];exact m.perm.append_right _
 ·refine B6.mpr ⟨m.srt,J8 _ _,λx hx z hz=> ?_⟩;rw [G8.mp hz];exact m.rb x hx y (by rw [dy];exact P4 ..)
 ·rcases D8.mp hx with w|w
  ·exact m.ra x w z hz
  ·rw [G8.mp w];cases e:al[ia]? with
   |none=>rw [E7 (lR.mp e)] at hz;cases hz
   |some a0=>
    have da:=zf e;have ua0:=ua a0 (P8 e);have sda:Ö R (al.drop ia):=sa.sublist (V1 _ _);rw [da] at sda hz;have l0:=o.asym y a0 uy ua0 (lt a0 e);rcases R7.mp hz with v|v
    ·rw [v];exact l0
    ·exact o.trans uy ua0 (ua z (O4 v)) l0 ((Z0.mp sda).1 z v)
 ·rcases D8.mp hx with w|w
  ·exact m.rb x w z (by rw [dy];exact R1 _ hz)
  ·rw [G8.mp w];exact(Z0.mp sdb).1 z hz
def MI.pushA {out:G0 κ}{y:κ}(m:MI R al bl ia ib out)(o:Õ U R)(ua: ∀x∈al,U x)(ub: ∀x∈bl,U x)(sa:Ö R al)(sb:Ö R bl)(hy:al[ia]? =some y)(ge: ∀z,bl[ib]? =some z->R z y=false):MI R al bl (ia+1) ib (out++ [y]):=by
 have dy:=zf hy;have uy:=ua y (P8 hy);have sda:Ö R (al.drop ia):=sa.sublist (V1 _ _);rw [dy] at sda;refine⟨?_,?_,λx hx z hz=> ?_,λx hx z hz=> ?_⟩
 ·rw [ZS hy];refine(m.perm.append_right [y]).trans ?_;rw [D5,D5];exact(cW).append_left _
 ·refine B6.mpr ⟨m.srt,J8 _ _,λx hx z hz=> ?_⟩;rw [G8.mp hz];exact m.ra x hx y (by rw [dy];exact P4 ..)
 ·rcases D8.mp hx with w|w
  ·exact m.ra x w z (by rw [dy];exact R1 _ hz)
  ·rw [G8.mp w];exact(Z0.mp sda).1 z hz
 ·rcases D8.mp hx with w|w
  ·exact m.rb x w z hz
  ·rw [G8.mp w];cases e:bl[ib]? with
   |none=>rw [E7 (lR.mp e)] at hz;cases hz
   |some b0=>
    have db:=zf e;have ub0:=ub b0 (P8 e);have sdb:Ö R (bl.drop ib):=sb.sublist (V1 _ _);rw [db] at sdb hz;have l0:=ge b0 e;rcases R7.mp hz with v|v
    ·rw [v];exact l0
    ·exact o.trans uy ub0 (ub z (O4 v)) l0 ((Z0.mp sdb).1 z v)
def MI.manyA (o:Õ U R)(ua: ∀x∈al,U x)(ub: ∀x∈bl,U x)(sa:Ö R al)(sb:Ö R bl): ∀ (k:G6) {ia:G6} {out:G0 κ},MI R al bl ia ib out->ia+k<=al.length->(∀i,i<k-> ∀y,al[ia+i]? =some y-> ∀z,bl[ib]? =some z->R z y=false)->MI R al bl (ia+k) ib (out++(al.drop ia).take k)
 |0,ia,out,m,_,_=>by rw [gS,J5];exact m
 |k+1,ia,out,m,hk,h=>by
  obtain⟨y,hy⟩: ∃y,al[ia]? =some y:=⟨_,G1 (by omega)⟩;have m1:=m.pushA o ua ub sa sb hy (h 0 (by omega) y hy);have:=MI.manyA o ua ub sa sb k m1 (by omega) (λi hi y hy=>h (i+1) (by omega) y (by rw [show ia+(i+1)=ia+1+i by omega];exact hy));rw [show ia+(k+1)=ia+1+k by omega,zf hy,pV,sK];exact this
def MI.manyB (o:Õ U R)(ua: ∀x∈al,U x)(ub: ∀x∈bl,U x)(sa:Ö R al)(sb:Ö R bl): ∀ (k:G6) {ib:G6} {out:G0 κ},MI R al bl ia ib out->ib+k<=bl.length->(∀i,i<k-> ∀y,bl[ib+i]? =some y-> ∀z,al[ia]? =some z->R y z=true)->MI R al bl ia (ib+k) (out++(bl.drop ib).take k)
 |0,ib,out,m,_,_=>by rw [gS,J5];exact m
 |k+1,ib,out,m,hk,h=>by
  obtain⟨y,hy⟩: ∃y,bl[ib]? =some y:=⟨_,G1 (by omega)⟩;have m1:=m.pushB o ua ub sa sb hy (h 0 (by omega) y hy);have:=MI.manyB o ua ub sa sb k m1 (by omega) (λi hi y hy=>h (i+1) (by omega) y (by rw [show ib+(i+1)=ib+1+i by omega];exact hy));rw [show ib+(k+1)=ib+1+k by omega,zf hy,pV,sK];exact this
def MI.all {out:G0 κ}(m:MI R al bl al.length bl.length out):out.Perm (al++bl)/\Ö R out:=by
 have:=m.perm;rw [U3,U3] at this;exact⟨this,m.srt⟩
def MI.done {out:G0 κ}(m:MI R al bl ia ib out)(o:Õ U R)(ua: ∀x∈al,U x)(ub: ∀x∈bl,U x)(sa:Ö R al)(sb:Ö R bl)(ha:ia<=al.length)(hb:ib<=bl.length)(h:ia=al.length\/ib=bl.length):(out++al.drop ia++bl.drop ib).Perm (al++bl)/\Ö R (out++al.drop ia++bl.drop ib):=by
 have m1:=MI.manyA o ua ub sa sb (al.length-ia) m (by omega) (λi hi y hy z hz=>by
  have:=(P7.mp hz).1;omega)
 rw [show ia+(al.length-ia)=al.length by omega,T9 (by rw [C0];exact P6 _)] at m1;have m2:=MI.manyB o ua ub sa sb (bl.length-ib) m1 (by omega) (λi hi y hy z hz=>by
  have:=(P7.mp hz).1;omega)
 rw [show ib+(bl.length-ib)=bl.length by omega,T9 (l:=bl.drop ib) (by rw [C0];exact P6 _)] at m2;exact m2.all
def MI.lastA {out:G0 κ}(m:MI R al bl ia ib out)(o:Õ U R)(ua: ∀x∈al,U x)(ub: ∀x∈bl,U x)(sa:Ö R al)(sb:Ö R bl)(ha:ia+1=al.length)(hb:ib<=bl.length)(h: ∀y∈bl,∀z,al[al.length-1]? =some z->R y z=true):(out++bl.drop ib++al.drop ia).Perm (al++bl)/\Ö R (out++bl.drop ib++al.drop ia):=by
 have m2:=MI.manyB o ua ub sa sb (bl.length-ib) m (by omega) (λi hi y hy z hz=>h y (P8 hy) z (by rw [<-ha];exact hz));rw [show ib+(bl.length-ib)=bl.length by omega,T9 (by rw [C0];exact P6 _)] at m2;have m1:=MI.manyA o ua ub sa sb (al.length-ia) m2 (by omega) (λi hi y hy z hz=>by
  have:=(P7.mp hz).1;omega)
 rw [show ia+(al.length-ia)=al.length by omega,T9 (l:=al.drop ia) (by rw [C0];exact P6 _)] at m1;exact m1.all
end
section
variable {prog:T7}{w:C1}{A:N7}{E:G2->G5->Prop}{J:G5->Prop}{κ:SortKind}{U:D7->Prop}{R:D7->D7->N4}
def Tm.rule {σ:Type}{x:W3}{Q:Unit->σ->Prop}{st:σ}(q:Q () st):Tm prog w A E J (liftM (PySem.rule x):aD σ Sem Unit) Q st:=λs j=>by
 show R5 _ _ ((StateT.lift _:aD σ Sem _).run st) _ _ _;rw [StateT.run_lift];exact wpAny_bind (iC (P0 ⟨q,j⟩))
def Tm.modify {σ:Type}{f:σ->σ}{Q:Unit->σ->Prop}{st:σ}(q:Q () (f st)):Tm prog w A E J (_root_.modify f:aD σ Sem PUnit) Q st:=λs j=>by
 rw [StateT.run_modify];exact P0 ⟨q,j⟩
noncomputable def mLo:S9 D7->S9 D7->aD C9 Sem (S9 D7):=sortPriv% PySem.Builtin.mergeLo
def ŕ (st Å:C9):Prop:=kindOf Å=kindOf st/\M1 Å=M1 st/\C3 Å=C3 st/\bQ Å=bQ st
def ŕ.refl (st:C9):ŕ st st:=⟨rfl,rfl,rfl,rfl⟩
def ZB (a:S9 D7)(i:G6):(a.extract i).toList=a.toList.drop i:=by
 rw [bR,U6];exact T9 (by simp)
def Qm (a:S9 D7)(i k:G6):(a.extract i (i+k)).toList=(a.toList.drop i).take k:=by
 rw [bR,U6,gD]
def ve (R:D7->D7->N4)(a b c:S9 D7):Prop:=c.toList.Perm (a.toList++b.toList)/\Ö R c.toList
structure Two (U:D7->Prop)(R:D7->D7->N4)(a b:S9 D7):Prop where
 o:Õ U R
 ua: ∀x∈a.toList,U x
 ub: ∀x∈b.toList,U x
 sa:Ö R a.toList
 sb:Ö R b.toList
 last: ∀y∈b.toList,∀z,a.toList[a.toList.length-1]? =some z->R y z=true
abbrev MA (R:D7->D7->N4)(a b:S9 D7)(ia ib:G6)(out:S9 D7):Prop:=MI R a.toList b.toList ia ib out.toList
section
variable {a b out:S9 D7}{ia ib:G6}
def MA.done (t:Two U R a b)(m:MA R a b ia ib out)(ha:ia<=a.size)(hb:ib<=b.size)(h:ia=a.size\/ib=b.size):ve R a b (out++a.extract ia++b.extract ib):=by
 have:=MI.done m t.o t.ua t.ub t.sa t.sb (by simpa using ha) (by simpa using hb) (by simpa using h);unfold ve;rw [O2,O2,ZB,ZB];exact this
def MA.lastA (t:Two U R a b)(m:MA R a b ia ib out)(ha:ia+1=a.size)(hb:ib<=b.size):ve R a b (out++b.extract ib++a.extract ia):=by
 have:=MI.lastA m t.o t.ua t.ub t.sa t.sb (by simpa using ha) (by simpa using hb) t.last;unfold ve;rw [O2,O2,ZB,ZB];exact this
def MA.pushB (t:Two U R a b){y:D7}(m:MA R a b ia ib out)(hy:b.toList[ib]? =some y)(lt: ∀z,a.toList[ia]? =some z->R y z=true):MA R a b ia (ib+1) (out.push y):=by
 have:=MI.pushB m t.o t.ua t.ub t.sa t.sb hy lt;show MI R _ _ _ _ (out.push y).toList;rw [V0];exact this
def MA.pushA (t:Two U R a b){y:D7}(m:MA R a b ia ib out)(hy:a.toList[ia]? =some y)(ge: ∀z,b.toList[ib]? =some z->R z y=false):MA R a b (ia+1) ib (out.push y):=by
 have:=MI.pushA m t.o t.ua t.ub t.sa t.sb hy ge;show MI R _ _ _ _ (out.push y).toList;rw [V0];exact this
def MA.manyA (t:Two U R a b)(m:MA R a b ia ib out)(k:G6)(hk:ia+k<=a.size)(h: ∀i,i<k-> ∀y,a.toList[ia+i]? =some y-> ∀z,b.toList[ib]? =some z->R z y=false):MA R a b (ia+k) ib (out++a.extract ia (ia+k)):=by
 have:=MI.manyA t.o t.ua t.ub t.sa t.sb k m (by simpa using hk) h;show MI R _ _ _ _ (out++a.extract ia (ia+k)).toList;rw [O2,Qm];exact this
def MA.manyB (t:Two U R a b)(m:MA R a b ia ib out)(k:G6)(hk:ib+k<=b.size)(h: ∀i,i<k-> ∀y,b.toList[ib+i]? =some y-> ∀z,a.toList[ia]? =some z->R y z=true):MA R a b ia (ib+k) (out++b.extract ib (ib+k)):=by
 have:=MI.manyB t.o t.ua t.ub t.sa t.sb k m (by simpa using hk) h;show MI R _ _ _ _ (out++b.extract ib (ib+k)).toList;rw [O2,Qm];exact this
end
variable {arr:S9 D7}{base:G6}
def ym {left:N4}{key x:D7}{i:G6}(h:arr.toList[base+i]? =some x):Ĭ R left key arr base i=if left=true then R x key else !R key x:=by
 unfold Ĭ;rw [<-M8,h]
def ZT {l:G0 D7}(s:Ö R l)(o:Õ U R)(u: ∀x∈l,U x){i j:G6}{x y:D7}(hij:i<=j)(hx:l[i]? =some x)(hy:l[j]? =some y):R y x=false:=by
 by_cases z:i=j
 ·subst z;rw [hx] at hy;injection hy with hy;subst hy
  exact o.refl (u x (P8 hx))
 ·obtain⟨h1,e1⟩:=P7.mp hx;obtain⟨h2,e2⟩:=P7.mp hy;have:=A4.mp s i j h1 h2 (by omega);rw [e1,e2] at this;exact this
def ZU {i:G6}(h:i<arr.size): ∃x,arr.toList[i]? =some x/\arr[i]? =some x:=⟨arr[i],by simp [h],by simp [h]⟩
def Kx {y:D7}{n hint:G6}{st:C9}{Q:D4 G6->C9->Prop}(ak:YF prog w A J κ U R)(kd:kindOf st=κ)(o:Õ U R)(u: ∀x∈arr.toList,U x)(s:Ö R arr.toList)(uy:U y)(hn:base+n<=arr.size)(hh:hint<n)
 (q: ∀k,k<=n->(∀i,i<k-> ∀x,arr.toList[base+i]? =some x->R y x=false)->(∀i,k<=i->i<n-> ∀x,arr.toList[base+i]? =some x->R y x=true)->Q (some k) st):Tm prog w A E J (gal false y arr base n hint) Q st:=by
 refine DH ak kd uy (λi hi=> ?_) (λi j hij hj h=> ?_) hh (λk k1 k2 k3=>q k k1 (λi hi x hx=> ?_) (λi h1 h2 x hx=> ?_))
 ·obtain⟨x,lx,ex⟩:=ZU (show base+i<arr.size by omega);exact⟨x,ex,u x (P8 lx)⟩
 ·obtain⟨x,lx,_⟩:=ZU (show base+i<arr.size by omega);obtain⟨z,lz,_⟩:=ZU (show base+j<arr.size by omega);rw [ym lz] at h;rw [ym lx];have hz:R y z=false:=by simpa using h
  have:=o.trans (u x (P8 lx)) (u z (P8 lz)) uy (ZT s o u (by omega) lx lz) hz;simp [this]
 ·have:=k2 i hi;rw [ym hx] at this;simpa using this
 ·have:=k3 i h1 h2;rw [ym hx] at this;simpa using this
def Ky {y:D7}{n hint:G6}{st:C9}{Q:D4 G6->C9->Prop}(ak:YF prog w A J κ U R)(kd:kindOf st=κ)(o:Õ U R)(u: ∀x∈arr.toList,U x)(s:Ö R arr.toList)(uy:U y)(hn:base+n<=arr.size)(hh:hint<n)
 (q: ∀k,k<=n->(∀i,i<k-> ∀x,arr.toList[base+i]? =some x->R x y=true)->(∀i,k<=i->i<n-> ∀x,arr.toList[base+i]? =some x->R x y=false)->Q (some k) st):Tm prog w A E J (gal true y arr base n hint) Q st:=by
 refine DH ak kd uy (λi hi=> ?_) (λi j hij hj h=> ?_) hh (λk k1 k2 k3=>q k k1 (λi hi x hx=> ?_) (λi h1 h2 x hx=> ?_))
 ·obtain⟨x,lx,ex⟩:=ZU (show base+i<arr.size by omega);exact⟨x,ex,u x (P8 lx)⟩
 ·obtain⟨x,lx,_⟩:=ZU (show base+i<arr.size by omega);obtain⟨z,lz,_⟩:=ZU (show base+j<arr.size by omega);rw [ym lz] at h;rw [ym lx];have hz:R z y=true:=by simpa using h
  rcases o.neg z x y (u z (P8 lz)) (u x (P8 lx)) uy hz with v|v
  ·rw [ZT s o u (by omega) lx lz] at v;cases v
  ·simp [v]
 ·have:=k2 i hi;rw [ym hx] at this;simpa using this
 ·have:=k3 i h1 h2;rw [ym hx] at this;simpa using this
section
variable {σ α β γ:Type}{c:Prop}[Decidable c]{t e:aD σ Sem α}{Q:α->σ->Prop}{st:σ}{x y:β}{z:γ}
def Tm.if2 (T:c->Tm prog w A E J t Q st)(F: ¬c->Tm prog w A E J e Q st):Tm prog w A E J (if c then t else e) Q st:=by
 split
 ·exact T ‹_›
 ·exact F ‹_›
def Tm.eq2 {x y:G6}(T:x=y->Tm prog w A E J t Q st)(F: ¬x=y->Tm prog w A E J e Q st):Tm prog w A E J (if (x==y)=true then t else e) Q st:=
 .if2 (λh=>T (eq_of_beq h)) λh=>F λg=>h (beq_iff_eq.mpr g)
def Tm.both {f:β->aD σ Sem α}(he:e=f y)(ht:t=f x)(H: ∀m,Tm prog w A E J (f m) Q st):Tm prog w A E J (if c then t else e) Q st:=by
 subst he ht;exact .if2 (λ_=>H _) λ_=>H _
def Tm.join {f:β->γ->aD σ Sem α}{I:β->γ->Prop}(he:e=f x z)(G: ∀m o,I m o->Tm prog w A E J (f m o) Q st)(T:c->(∀m o,I m o->Tm prog w A E J (f m o) Q st)->Tm prog w A E J t Q st)(F: ¬c->I x z):Tm prog w A E J (if c then t else e) Q st:=by
 subst he;exact .if2 (λh=>T h G) λh=>G _ _ (F h)
end
def SL {A B C D F:Type}{P:A×B×C×D×F->Prop}(h: ∀a b c d f,P (a,b,c,d,f)): ∀c,P c:=λc=>h c.1 c.2.1 c.2.2.1 c.2.2.2.1 c.2.2.2.2
def SM {A B C D F G:Type}{P:A×B×C×D×F×G->Prop}(h: ∀a b c d f g,P (a,b,c,d,f,g)): ∀c,P c:=λc=>h c.1 c.2.1 c.2.2.1 c.2.2.2.1 c.2.2.2.2.1 c.2.2.2.2.2
def SN {A B C D F G H:Type}{P:A×B×C×D×F×G×H->Prop}(h: ∀a b c d f g k,P (a,b,c,d,f,g,k)): ∀c,P c:=λc=>h c.1 c.2.1 c.2.2.1 c.2.2.2.1 c.2.2.2.2.1 c.2.2.2.2.2.1 c.2.2.2.2.2.2
def wz {a:S9 D7}(u: ∀x∈a.toList,U x){i:G6}(h:i<a.size){P:Prop}(q: ∀y,a[i]? =some y->a.toList[i]? =some y->U y->P):P:=q a[i] (by simp [h]) (by simp [h]) (u _ (by simp))
structure Ŗ (R:D7->D7->N4)(a b:S9 D7)(st Å:C9)(n:G6)(out:S9 D7)(ia ib:G6):Prop where
 g:ŕ st Å
 m:MA R a b ia ib out
 a:ia+1<a.size
 b:ib<b.size
 n:n<=ia+ib
def LoO (R:D7->D7->N4)(a b:S9 D7)(st Å:C9)(n:G6)(r:D4 (S9 D7))(out:S9 D7)(ia ib:G6):Prop:=ŕ st Å/\match r with|some c=>ve R a b c|none=>Ŗ R a b st Å n out ia ib
section
variable {a b out:S9 D7}{st Å:C9}{n k ia ib:G6}
def Ŗ.more (h:Ŗ R a b st Å n out ia ib)(l:k<=n):Ŗ R a b st Å k out ia ib:=⟨h.g,h.m,h.a,h.b,R8 l h.n⟩
def Ŗ.here (h:Ŗ R a b st Å n out ia ib):Ŗ R a b st Å (ia+ib) out ia ib:=⟨h.g,h.m,h.a,h.b,P6 _⟩
def Ŗ.at {s:C9}(h:Ŗ R a b st Å n out ia ib)(g:ŕ st s)(l:k<=n):Ŗ R a b st s k out ia ib:=⟨g,h.m,h.a,h.b,R8 l h.n⟩
def Ŗ.never {P:Prop}(h:Ŗ R a b st Å n out ia ib)(l:a.size+b.size<=n):P:=absurd (R8 l h.n) (Nat.not_le_of_lt (Nat.add_lt_add (X0 h.a) h.b))
end
def Ev {a b:S9 D7}{st:C9}{Q:S9 D7->C9->Prop}(ak:YF prog w A J κ U R)(kd:kindOf st=κ)(t:Two U R a b)
 (na:1<=a.size)(nb:1<=b.size)(first: ∀y z,b.toList[0]? =some y->a.toList[0]? =some z->R y z=true)
 (q: ∀c Å,ŕ st Å->ve R a b c->Q c Å):Tm prog w A E J (mLo a b) Q st:=by
 refine .bind (.rule (.bind (wz t.ub nb λb0 eb0 lb0 ub0=> .elem eb0 ?_)));have m0:MA R a b 0 1 #[b0]:=MA.pushB t (out:= #[]) (MI.start _ _) lb0 (λz hz=>first _ z lb0 hz);refine .eq2 (x:=1) (y:=b.size) (λz1=> .pure (q _ _ (ŕ.refl st) (MA.done t m0 (N9 _) nb (.inr z1)))) λz1=> .eq2 (x:=0+1) (y:=a.size) (λz2=> .pure (q _ _ (ŕ.refl st) (MA.lastA t m0 z2 nb))) λz2=> .bind (.get ?_)
 refine .bind (Tm.mono (Tm.range (λi c Å=>Ŗ R a b st Å (i+1) c.2.1 c.2.2.1 c.2.2.2.1)
  (Q:=λc Å=> ∃r,c.1=some r/\ŕ st Å/\ve R a b r) (N9 _) ⟨ŕ.refl st,m0,K6 na z2,K6 nb z1,P6 _⟩ ?_ ?_) ?_)
 ·intro i c st1 hi;revert c;refine SL λr out ia ib mg h=> ?_
  refine .bind (Tm.mono (Tm.range (λj c Å=>Ŗ R a b st Å (ia+ib+j) c.2.1 c.2.2.1 c.2.2.2.1)
   (Q:=λc Å=>LoO R a b st Å (ia+ib+1) c.1 c.2.1 c.2.2.1 c.2.2.2.1) (N9 _) h.here ?_ ?_) ?_)
  ·intro j c Ħ hj;revert c;refine SM λr out ja jb ac bc h=> ?_
   refine .bind (wz t.ub h.b λy ey ly uy=> .elem ey (.bind (wz t.ua (X0 h.a) λx ex lx ux=> .elem ex (.bind (.lt ak (h.g.1.trans kd) uy ux (.if2 (c:=R y x=true) (λhb=> .bind (.elem ey ?_)) λhb=> .bind (.elem ex ?_)))))))
   ·have m1:=MA.pushB t h.m ly (λz hz=>by rw [lx] at hz;injection hz with hz;rw [<-hz];exact hb);refine .eq2 (x:=jb+1) (y:=b.size) (λc1=> .pure ⟨h.g,MA.done t m1 (T8 (X0 h.a)) h.b (.inr c1)⟩) λc1=> ?_
    have d:Ŗ R a b st Ħ (ia+ib+(j+1)) (out.push y) ja (jb+1):=⟨h.g,m1,h.a,K6 (gU h.b) c1,iF h.n⟩;exact .if2 (λ_=> .pure ⟨h.g,d.more (eQ (bI _ _) _)⟩) λ_=> .pure d
   ·have m1:=MA.pushA t h.m lx (λz hz=>by rw [ly] at hz;injection hz with hz;rw [<-hz];exact V2.mpr hb);refine .eq2 (x:=ja+1+1) (y:=a.size) (λc1=> .pure ⟨h.g,MA.lastA t m1 c1 (T8 h.b)⟩) λc1=> ?_
    have d:Ŗ R a b st Ħ (ia+ib+(j+1)) (out.push x) (ja+1) jb:=⟨h.g,m1,K6 (gU h.a) c1,h.b,R8 (iF h.n) (J0 (rM _ _).symm)⟩;exact .if2 (λ_=> .pure ⟨h.g,d.more (eQ (bI _ _) _)⟩) λ_=> .pure d
  ·exact λc Ħ h=>h.never (bI _ _)
  ·intro c Ħ;revert c;refine SM λr out ja jb ac bc h'=> ?_
   cases r with
   |some r=>exact .pure ⟨r,rfl,h'⟩
   |none=>
   replace h':=h'.2
   refine .bind (.rule (.bind (Tm.mono (Tm.range (λj c Å=>Ŗ R a b st Å (ja+jb+j) c.2.1 c.2.2.1 c.2.2.2.1)
    (Q:=λc Å=>LoO R a b st Å (ja+jb) c.1 c.2.1 c.2.2.1 c.2.2.2.1) (N9 _) h'.here ?_ ?_) ?_)))
   ·clear h;intro j c Ħ hj;revert c;refine SN λr out pa pb mg ac bc h=> ?_
    refine wz t.ub h.b λy ey ly uy=> ?_
    have g2:0<a.size-pa:=rN (X0 h.a);have g1:pa+(a.size-pa)<=a.size:=J0 (J4 (T8 (X0 h.a)));refine Tm.both (y:=mg) (x:=mg-1) (by rfl) (by rfl) λmg=> ?_
    refine .bind (Tm.modify (.bind (.elem ey (.bind (Kx (base:=pa) (n:=a.size-pa) ak (h.g.1.trans kd) t.o t.ua t.sa uy g1 g2 λk k1 k2 k3=> ?_)))));refine Tm.join (I:=λo ia=>MA R a b ia pb o/\ia+1<a.size/\pa<=ia/\ ∀x,a.toList[ia]? =some x->R y x=true) (x:=out) (z:=pa) (by rfl) ?_ ?_ ?_
    ·refine λo qa i1=> ?_
     have M2:=MA.pushB t i1.1 ly i1.2.2.2;have p1:=X0 i1.2.1;refine .bind (.elem ey (.eq2 (x:=pb+1) (y:=b.size) (λc3=> .pure ⟨h.g,MA.done t M2 (T8 p1) (J0 c3) (.inr c3)⟩) λc3=> ?_));have c8:pb+1<b.size:=K6 (gU h.b) c3;have g2:=rN c8;refine .bind (wz t.ua p1 λx ex lx ux=> .elem ex (.bind (Ky (base:=pb+1) (n:=b.size-(pb+1)) ak (h.g.1.trans kd) t.o t.ub t.sb ux (J0 (J4 (T8 c8))) g2 λk' q1 q2 q3=> ?_)));dsimp only;generalize ep:pb+1=p2 at M2 q1 q2 q3 c8 g2 ⊢;generalize eo:o.push y=o2 at M2 ⊢;refine Tm.join (I:=λo ib=>MA R a b qa ib o/\ib<b.size/\p2<=ib/\ ∀x',b.toList[ib]? =some x'->R x' x=false) (x:=o2) (z:=p2) (by rfl) ?_ ?_ ?_
     ·refine λo qb i2=> ?_
      have M4:=MA.pushA t i2.1 lx i2.2.2.2;refine .bind (.elem ex (.eq2 (x:=qa+1+1) (y:=a.size) (λc5=> .pure ⟨h.g,MA.lastA t M4 c5 (T8 i2.2.1)⟩) λc5=> ?_));have n1:ja+jb+j<=pa+pb:=h.n;have n2:ja+jb+(j+1)<=qa+1+qb:=by have:=i1.2.2.1;have:=i2.2.2.1;omega
      have d:Ŗ R a b st Ħ (ja+jb+(j+1)) (o.push x) (qa+1) qb:=⟨h.g,M4,K6 (gU i1.2.1) c5,i2.2.1,n2⟩;exact .if2 (λ_=> .pure ⟨h.g,d.at h.g (W0 _ _)⟩) λ_=> .pure (d.at h.g (P6 _))
     ·intro kz' H;have g3:p2+k'<=b.size:=R8 (eQ q1 _) (J0 (J4 (T8 c8)));have M3:=MA.manyB t M2 k' g3 (λi hi y' hy z hz=>by rw [lx] at hz;injection hz with hz;rw [<-hz];exact q2 i hi y' hy);exact .eq2 (x:=p2+k') (y:=b.size) (λc4=> .pure ⟨h.g,MA.done t M3 (T8 p1) g3 (.inr c4)⟩) λc4=>H _ _ ⟨M3,K6 g3 c4,W0 _ _,λz hz=>q3 k' (P6 _) (by omega) z hz⟩
     ·exact λkz'=>⟨M2,c8,P6 _,λz hz=>q3 0 (iD kz') g2 z hz⟩
    ·intro kz H;have g3:pa+k<=a.size:=R8 (eQ k1 _) g1;have m1:=MA.manyA t h.m k g3 (λi hi x hx z hz=>by rw [ly] at hz;injection hz with hz;rw [<-hz];exact k2 i hi x hx);exact .eq2 (x:=pa+k+1) (y:=a.size) (λc1=> .pure ⟨h.g,MA.lastA t m1 c1 (T8 h.b)⟩) λc1=> .eq2 (x:=pa+k) (y:=a.size) (λc2=> .pure ⟨h.g,MA.done t m1 g3 (T8 h.b) (.inl c2)⟩) λc2=>H _ _ ⟨m1,K6 (K6 g3 c2) c1,W0 _ _,λx hx=>k3 k (P6 _) (by omega) x hx⟩
    ·exact λkz=>⟨h.m,h.a,P6 _,λx hx=>k3 0 (iD kz) g2 x hx⟩
   ·exact λc st3 h=>h.never (bI _ _)
   ·intro c st3;revert c;refine SN λr out pa pb mg ac bc h3=> ?_
    cases r with
    |some r=>exact .pure ⟨r,rfl,h3⟩
    |none=>exact .bind (Tm.modify (.pure (h3.2.at h3.1 (R8 (iF h.n) h'.n))))
 ·exact λc st1 h=>h.never (W0 _ _)
 ·intro c st1;revert c;refine SL λr out ia ib mg h=> ?_
  obtain⟨c,rfl,gl,wh⟩:=h;exact .pure (q c st1 gl wh)
end
section
variable {prog:T7}{w:C1}{A:N7}{E:G2->G5->Prop}{J:G5->Prop}{κ:SortKind}{U:D7->Prop}{R:D7->D7->N4}
noncomputable abbrev Flp (R:D7->D7->N4):D7->D7->N4:=λx y=>R y x
def Õ.flip (o:Õ U R):Õ U (Flp R):=⟨λx y ux uy h=>o.asym y x uy ux h,λx y z ux uy uz h=>(o.neg z y x uz uy ux h).symm⟩
variable {l:G0 D7}
def zh (s:Ö R l):Ö (Flp R) l.reverse:=g9.mpr s
def Qn (s:Ö (Flp R) l):Ö R l.reverse:=g9.mpr s
variable {n:G6}
def DI (h1:1<=n)(hn:n<=l.length):l.reverse[l.length-n]? =l[n-1]? :=by
 rw [cX (by omega)]
 congr 1;omega
def zT {z:D7}(hn:n<=l.length)(h:l.reverse[l.length-n]? =some z):1<=n/\l[n-1]? =some z:=by
 have:=(P7.mp h).1;rw [B7] at this;have n1:1<=n:=by omega
 exact⟨n1,by rw [<-DI n1 hn];exact h⟩
def Jg (l:G0 D7){n:G6}(hn:n<=l.length):l.reverse.drop (l.length-n)=(l.take n).reverse:=by
 rw [List.drop_reverse]
 congr 2;omega
def MH (R:D7->D7->N4)(a b:S9 D7)(na nb:G6)(out:S9 D7):Prop:=MI (Flp R) b.toList.reverse a.toList.reverse (b.toList.length-nb) (a.toList.length-na) out.toList
structure Ĳ (U:D7->Prop)(R:D7->D7->N4)(a b:S9 D7):Prop where
 o:Õ U R
 ua: ∀x∈a.toList,U x
 ub: ∀x∈b.toList,U x
 sa:Ö R a.toList
 sb:Ö R b.toList
 first: ∀z∈a.toList,∀y,b.toList[0]? =some y->R y z=true
section
variable {a b out:S9 D7}{na nb:G6}
def Ĳ.fa (t:Ĳ U R a b): ∀x∈a.toList.reverse,U x:=λx hx=>t.ua x (A9.mp hx)
def Ĳ.fb (t:Ĳ U R a b): ∀x∈b.toList.reverse,U x:=λx hx=>t.ub x (A9.mp hx)
def MH.start (a b:S9 D7):MH R a b a.toList.length b.toList.length #[]:=by
 unfold MH;rw [i3,i3];exact MI.start _ _
def MH.pushA (t:Ĳ U R a b){y:D7}(m:MH R a b na nb out)(h1:1<=na)(hn:na<=a.toList.length)(hb:nb<=b.toList.length)(hy:a.toList[na-1]? =some y)(lt: ∀z,1<=nb->b.toList[nb-1]? =some z->R z y=true):MH R a b (na-1) nb (out.push y):=by
 have:=MI.pushB m t.o.flip t.fb t.fa (zh t.sb) (zh t.sa) (by rw [DI h1 hn];exact hy) (λz hz=>lt z (zT hb hz).1 (zT hb hz).2);unfold MH;rw [V0,show a.toList.length-(na-1)=a.toList.length-na+1 by omega];exact this
def MH.pushB (t:Ĳ U R a b){y:D7}(m:MH R a b na nb out)(h1:1<=nb)(hn:nb<=b.toList.length)(ha:na<=a.toList.length)(hy:b.toList[nb-1]? =some y)(ge: ∀z,1<=na->a.toList[na-1]? =some z->R y z=false):MH R a b na (nb-1) (out.push y):=by
 have:=MI.pushA m t.o.flip t.fb t.fa (zh t.sb) (zh t.sa) (by rw [DI h1 hn];exact hy) (λz hz=>ge z (zT ha hz).1 (zT ha hz).2);unfold MH;rw [V0,show b.toList.length-(nb-1)=b.toList.length-nb+1 by omega];exact this
def Jh (a:S9 D7)(n:G6):(a.extract 0 n).toList=a.toList.take n:=by
 rw [bR,U6,lB,rE]
def MH.done (t:Ĳ U R a b)(m:MH R a b na nb out)(ha:na<=a.toList.length)(hb:nb<=b.toList.length)(h:na=0\/nb=0):ve R a b (a.extract 0 na++b.extract 0 nb++out.reverse):=by
 have:=MI.done m t.o.flip t.fb t.fa (zh t.sb) (zh t.sa) (by rw [B7];omega) (by rw [B7];omega) (by rw [B7,B7];omega);rw [Jg _ ha,Jg _ hb] at this;have e:(a.extract 0 na++b.extract 0 nb++out.reverse).toList=(out.toList++(b.toList.take nb).reverse++(a.toList.take na).reverse).reverse:=by
  rw [O2,O2,Jh,Jh,iQ];simp [D5]
 unfold ve;rw [e];refine⟨(X1 _).trans (this.1.trans ?_),Qn this.2⟩;exact(sL (X1 _) (X1 _)).trans cW
def MH.firstB (t:Ĳ U R a b)(m:MH R a b na nb out)(ha:na<=a.toList.length)(hb:nb=1)(hb':1<=b.toList.length):ve R a b (b.extract 0 nb++a.extract 0 na++out.reverse):=by
 subst hb;have:=MI.lastA m t.o.flip t.fb t.fa (zh t.sb) (zh t.sa) (by rw [B7];omega) (by rw [B7];omega) (λz hz y hy=>by
  rw [B7] at hy;have:=(zT hb' hy).2;exact t.first z (A9.mp hz) y (by simpa using this))
 rw [Jg _ ha,Jg _ hb'] at this;have e:(b.extract 0 1++a.extract 0 na++out.reverse).toList=(out.toList++(a.toList.take na).reverse++(b.toList.take 1).reverse).reverse:=by
  rw [O2,O2,Jh,Jh,iQ];simp [D5]
 unfold ve;rw [e];refine⟨(X1 _).trans (this.1.trans ?_),Qn this.2⟩;exact(sL (X1 _) (X1 _)).trans cW
def Qo (l:G0 D7){p n:G6}(h1:p<=n)(hn:n<=l.length):(l.reverse.drop (l.length-n)).take (n-p)=((l.drop p).take (n-p)).reverse:=by
 rw [Jg l hn,List.take_reverse,T5,o5,U0 hn,show n-(n-p)=p by omega]
def DJ (a:S9 D7){p n:G6}(h:p<=n):(a.extract p n).reverse.toList=((a.toList.drop p).take (n-p)).reverse:=by
 rw [iQ,bR,U6]
def MH.manyA (t:Ĳ U R a b)(m:MH R a b na nb out)(p:G6)(hp:p<=na)(hn:na<=a.toList.length)(hb:nb<=b.toList.length)(h: ∀i,p<=i->i<na-> ∀y,a.toList[i]? =some y-> ∀z,1<=nb->b.toList[nb-1]? =some z->R z y=true):MH R a b p nb (out++(a.extract p na).reverse):=by
 have:=MI.manyB t.o.flip t.fb t.fa (zh t.sb) (zh t.sa) (na-p) m (by rw [B7];omega) (λi hi y hy z hz=>by
  rw [cX (by omega)] at hy;exact h _ (by omega) (by omega) y hy z (zT hb hz).1 (zT hb hz).2)
 rw [Qo _ hp hn] at this;unfold MH;rw [O2,DJ _ hp,show a.toList.length-p=a.toList.length-na+(na-p) by omega];exact this
def MH.manyB (t:Ĳ U R a b)(m:MH R a b na nb out)(p:G6)(hp:p<=nb)(hn:nb<=b.toList.length)(ha:na<=a.toList.length)(h: ∀i,p<=i->i<nb-> ∀y,b.toList[i]? =some y-> ∀z,1<=na->a.toList[na-1]? =some z->R y z=false):MH R a b na p (out++(b.extract p nb).reverse):=by
 have:=MI.manyA t.o.flip t.fb t.fa (zh t.sb) (zh t.sa) (nb-p) m (by rw [B7];omega) (λi hi y hy z hz=>by
  rw [cX (by omega)] at hy;exact h _ (by omega) (by omega) y hy z (zT ha hz).1 (zT ha hz).2)
 rw [Qo _ hp hn] at this;unfold MH;rw [O2,DJ _ hp,show b.toList.length-p=b.toList.length-nb+(nb-p) by omega];exact this
end
noncomputable def mHi:S9 D7->S9 D7->aD C9 Sem (S9 D7):=sortPriv% PySem.Builtin.mergeHi
section
variable {arr:S9 D7}{y:D7}{n hint:G6}{st:C9}{Q:D4 G6->C9->Prop}
def Hh (ak:YF prog w A J κ U R)(kd:kindOf st=κ)(o:Õ U R)(u: ∀x∈arr.toList,U x)(s:Ö R arr.toList)(uy:U y)(hn:n<=arr.size)(hh:hint<n)
 (q: ∀k,k<=n->(∀i,i<k-> ∀x,arr.toList[i]? =some x->R y x=false)->(∀i,k<=i->i<n-> ∀x,arr.toList[i]? =some x->R y x=true)->Q (some k) st):Tm prog w A E J (gal false y arr 0 n hint) Q st:=
 Kx ak kd o u s uy (by rw [E3];exact hn) hh λk h k2 k3=>q k h (λi hi x hx=>k2 i hi x (by rw [E3];exact hx)) λi hi hj x hx=>k3 i hi hj x (by rw [E3];exact hx)
def Hi (ak:YF prog w A J κ U R)(kd:kindOf st=κ)(o:Õ U R)(u: ∀x∈arr.toList,U x)(s:Ö R arr.toList)(uy:U y)(hn:n<=arr.size)(hh:hint<n)
 (q: ∀k,k<=n->(∀i,i<k-> ∀x,arr.toList[i]? =some x->R x y=true)->(∀i,k<=i->i<n-> ∀x,arr.toList[i]? =some x->R x y=false)->Q (some k) st):Tm prog w A E J (gal true y arr 0 n hint) Q st:=
 Ky ak kd o u s uy (by rw [E3];exact hn) hh λk h k2 k3=>q k h (λi hi x hx=>k2 i hi x (by rw [E3];exact hx)) λi hi hj x hx=>k3 i hi hj x (by rw [E3];exact hx)
end
structure Ŀ (R:D7->D7->N4)(a b:S9 D7)(st Å:C9)(n N na nb:G6)(out:S9 D7):Prop where
 g:ŕ st Å
 m:MH R a b na nb out
 a':na<=a.size
 b':nb<=b.size
 a:1<=na
 b:2<=nb
 n:n+na+nb<=N
def HiO (R:D7->D7->N4)(a b:S9 D7)(st Å:C9)(n N:G6)(r:D4 (S9 D7))(na nb:G6)(out:S9 D7):Prop:=ŕ st Å/\match r with|some c=>ve R a b c|none=>Ŀ R a b st Å n N na nb out
section
variable {a b out:S9 D7}{st Å s:C9}{n N k M na nb:G6}
def Ŀ.at (h:Ŀ R a b st Å n N na nb out)(g:ŕ st s)(l:n+na+nb<=N->k+na+nb<=M):Ŀ R a b st s k M na nb out:=⟨g,h.m,h.a',h.b',h.a,h.b,l h.n⟩
def Ŀ.here (h:Ŀ R a b st Å n N na nb out):Ŀ R a b st Å 0 (na+nb) na nb out:=h.at h.g λ_=>by omega
def Ŀ.never {P:Prop}(h:Ŀ R a b st Å n N na nb out)(l:N<=n):P:=by have:=h.n;have:=h.a;omega
def Ŀ.le (h:Ŀ R a b st Å n N na nb out):na+nb<=a.size+b.size:=Nat.add_le_add h.a' h.b'
def Ŀ.a1 (h:Ŀ R a b st Å n N na nb out):na-1<a.size:=B2 (fZ h.a dJ) h.a'
def Ŀ.b1 (h:Ŀ R a b st Å n N na nb out):nb-1<b.size:=B2 (fZ (X0 h.b) dJ) h.b'
end
def BK (h:2<=n)(c: ¬n-1=1):2<=n-1:=by omega
def DK (c: ¬n-1=0):1<=n-1:=f6 c
def Ew {a b:S9 D7}{st:C9}{Q:S9 D7->C9->Prop}(ak:YF prog w A J κ U R)(kd:kindOf st=κ)(t:Ĳ U R a b)
 (na:1<=a.size)(nb:1<=b.size)(last: ∀y z,b.toList[b.size-1]? =some y->a.toList[a.size-1]? =some z->R y z=true)
 (q: ∀c Å,ŕ st Å->ve R a b c->Q c Å):Tm prog w A E J (mHi a b) Q st:=by
 refine .bind (.rule (.bind (wz t.ua (fZ na dJ) λa0 ea0 la0 ua0=> .elem ea0 ?_)));have m0:MH R a b (a.size-1) b.size #[a0]:=MH.pushA t (MH.start (R:=R) a b) na (P6 _) (P6 _) la0 (λz _ hz=>last z a0 hz la0);have n1:a.size-1<=a.size:=G0D _ _;refine .eq2 (x:=a.size-1) (y:=0) (λz1=> .pure (q _ _ (ŕ.refl st) (MH.done t m0 n1 (P6 _) (.inl z1)))) λz1=> .eq2 (x:=b.size) (y:=1) (λz2=> .pure (q _ _ (ŕ.refl st) (MH.firstB t m0 n1 z2 nb))) λz2=> .bind (.get ?_)
 refine .bind (Tm.mono (Tm.range (λi c Å=>Ŀ R a b st Å (i+1) (a.size+b.size) c.2.1 c.2.2.1 c.2.2.2.1)
  (Q:=λc Å=> ∃r,c.1=some r/\ŕ st Å/\ve R a b r) (N9 _) ⟨ŕ.refl st,m0,n1,P6 _,DK z1,by dsimp only;omega,by dsimp only;omega⟩ ?_ ?_) ?_)
 ·intro i c st1 hi;revert c;refine SL λr ia ib out mg h=> ?_
  refine .bind (Tm.mono (Tm.range (λj c Å=>Ŀ R a b st Å j (ia+ib) c.2.1 c.2.2.1 c.2.2.2.1)
   (Q:=λc Å=>HiO R a b st Å 1 (ia+ib) c.1 c.2.1 c.2.2.1 c.2.2.2.1) (N9 _) h.here ?_ ?_) ?_)
  ·intro j c Ħ hj;revert c;refine SM λr ja jb out ac bc h=> ?_
   refine .bind (wz t.ub h.b1 λy ey ly uy=> .elem ey (.bind (wz t.ua h.a1 λx ex lx ux=> .elem ex (.bind (.lt ak (h.g.1.trans kd) uy ux (.if2 (c:=R y x=true) (λhb=> .bind (.elem ex ?_)) λhb=> .bind (.elem ey ?_)))))))
   ·have m1:=MH.pushA t h.m h.a h.a' h.b' lx (λz _ hz=>by rw [ly] at hz;injection hz with hz;rw [<-hz];exact hb);refine .eq2 (x:=ja-1) (y:=0) (λc1=> .pure ⟨h.g,MH.done t m1 (T8 h.a1) h.b' (.inl c1)⟩) λc1=> ?_
    have d:Ŀ R a b st Ħ (j+1) (ia+ib) (ja-1) jb (out.push x):=⟨h.g,m1,T8 h.a1,h.b',DK c1,h.b,by have:j+ja+jb<=ia+ib:=h.n;have:1<=ja:=h.a;have:2<=jb:=h.b;omega⟩;exact .if2 (λ_=> .pure ⟨h.g,d.at h.g λ_=>by omega⟩) λ_=> .pure d
   ·have m1:=MH.pushB t h.m (T8 h.b) h.b' h.a' ly (λz _ hz=>by rw [lx] at hz;injection hz with hz;rw [<-hz];exact V2.mpr hb);refine .eq2 (x:=jb-1) (y:=1) (λc1=> .pure ⟨h.g,MH.firstB t m1 h.a' c1 nb⟩) λc1=> ?_
    have d:Ŀ R a b st Ħ (j+1) (ia+ib) ja (jb-1) (out.push y):=⟨h.g,m1,h.a',T8 h.b1,h.a,BK h.b c1,by have:j+ja+jb<=ia+ib:=h.n;have:1<=ja:=h.a;have:2<=jb:=h.b;omega⟩;exact .if2 (λ_=> .pure ⟨h.g,d.at h.g λ_=>by omega⟩) λ_=> .pure d
  ·exact λc Ħ h'=>h'.never h.le
  ·intro c Ħ;revert c;refine SM λr ja jb out ac bc h'=> ?_
   cases r with
   |some r=>exact .pure ⟨r,rfl,h'⟩
   |none=>
   replace h':=h'.2
   refine .bind (.rule (.bind (Tm.mono (Tm.range (λj c Å=>Ŀ R a b st Å j (ja+jb) c.2.1 c.2.2.1 c.2.2.2.1)
    (Q:=λc Å=>HiO R a b st Å 0 (ja+jb) c.1 c.2.1 c.2.2.1 c.2.2.2.1) (N9 _) h'.here ?_ ?_) ?_)))
   ·clear h;intro j c Ħ hj;revert c;refine SN λr pa pb out mg ac bc h=> ?_
    refine wz t.ub h.b1 λy ey ly uy=> ?_
    refine Tm.both (y:=mg) (x:=mg-1) (by rfl) (by rfl) λmg=> ?_
    refine .bind (Tm.modify (.bind (.elem ey (.bind (Hh (n:=pa) ak (h.g.1.trans kd) t.o t.ua t.sa uy h.a' (fZ h.a dJ) λk k1 k2 k3=> ?_)))));dsimp only;generalize eac:pa-k=ac;refine Tm.join (I:=λna o=>MH R a b na pb o/\1<=na/\na<=pa/\ ∀z,a.toList[na-1]? =some z->R y z=false) (x:=pa) (z:=out) (by rfl) ?_ ?_ ?_
    ·refine λqa o i1=> ?_
     have la:=R8 i1.2.2.1 h.a';have M2:=MH.pushB t i1.1 (T8 h.b) h.b' la ly (λz _ hz=>i1.2.2.2 z hz);refine .bind (.elem ey (.eq2 (x:=pb-1) (y:=1) (λc3=> .pure ⟨h.g,MH.firstB t M2 la c3 nb⟩) λc3=> ?_));have c8:=BK h.b c3;have lb:=T8 h.b1;have n1:j+pa+pb<=ja+jb:=h.n;have n2:pb=pb-1+1:=(Nat.sub_add_cancel (T8 h.b)).symm;refine .bind (wz t.ua (B2 (fZ i1.2.1 dJ) la) λx ex lx ux=> .elem ex (.bind (Hi (n:=pb-1) ak (h.g.1.trans kd) t.o t.ub t.sb ux lb (fZ (X0 c8) dJ) λk' q1 q2 q3=> ?_)));dsimp only;dsimp only at c8 lb;generalize ep:pb-1=p2 at M2 q1 q2 q3 c8 lb n2 ⊢;generalize eo:o.push y=o2 at M2 ⊢;generalize ebc:p2-k'=bc;refine Tm.join (I:=λnb o=>MH R a b qa nb o/\2<=nb/\nb<=p2/\ ∀z,b.toList[nb-1]? =some z->R z x=true) (x:=p2) (z:=o2) (by rfl) ?_ ?_ ?_
     ·refine λqb o i2=> ?_
      have lb':=R8 i2.2.2.1 lb;have M4:=MH.pushA t i2.1 i1.2.1 la lb' lx (λz _ hz=>i2.2.2.2 z hz);have la':=R8 (G0D qa 1) la;refine .bind (.elem ex (.eq2 (x:=qa-1) (y:=0) (λc5=> .pure ⟨h.g,MH.done t M4 la' lb' (.inl c5)⟩) λc5=> ?_));have n3:j+1+(qa-1)+qb<=ja+jb:=by have:=i1.2.1;have:=i1.2.2.1;have:=i2.2.2.1;omega
      have d:Ŀ R a b st Ħ (j+1) (ja+jb) (qa-1) qb (o.push x):=⟨h.g,M4,la',lb',DK c5,i2.2.1,n3⟩;exact .if2 (λ_=> .pure ⟨h.g,d.at h.g λ_=>by omega⟩) λ_=> .pure (d.at h.g id)
     ·intro kz' H;have M3:=MH.manyB t M2 k' q1 lb la (λi hi1 hi2 y' hy z hz1 hz=>by rw [lx] at hz;injection hz with hz;rw [<-hz];exact q3 i hi1 hi2 y' hy);exact .eq2 (x:=k') (y:=1) (λc4=> .pure ⟨h.g,MH.firstB t M3 la c4 nb⟩) λc4=> .eq2 (x:=k') (y:=0) (λc7=> .pure ⟨h.g,MH.done t M3 la (R8 q1 lb) (.inr c7)⟩) λc7=>H _ _ ⟨M3,by omega,q1,λz hz=>q2 (k'-1) (fZ (f6 c7) dJ) z hz⟩
     ·exact λkz'=>⟨M2,c8,P6 _,λz hz=>q2 (p2-1) (by omega) z hz⟩
    ·intro kz H;have m1:=MH.manyA t h.m k k1 h.a' h.b' (λi hi1 hi2 x hx z hz1 hz=>by rw [ly] at hz;injection hz with hz;rw [<-hz];exact k3 i hi1 hi2 x hx);exact .eq2 (x:=k) (y:=0) (λc1=> .pure ⟨h.g,MH.done t m1 (R8 k1 h.a') h.b' (.inl c1)⟩) λc1=>H _ _ ⟨m1,f6 c1,k1,λz hz=>k2 (k-1) (fZ (f6 c1) dJ) z hz⟩
    ·exact λkz=>⟨h.m,h.a,P6 _,λz hz=>k2 (pa-1) (by have:1<=pa:=h.a;omega) z hz⟩
   ·exact λc st3 h=>h.never h'.le
   ·intro c st3;revert c;refine SN λr pa pb out mg ac bc h3=> ?_
    cases r with
    |some r=>exact .pure ⟨r,rfl,h3⟩
    |none=>exact .bind (Tm.modify (.pure (h3.2.at h3.1 λl=>by have n1:i+1+ia+ib<=a.size+b.size:=h.n;have n2:1+ja+jb<=ia+ib:=h'.n;dsimp only at l ⊢;omega)))
 ·exact λc st1 h=>h.never (W0 _ _)
 ·intro c st1;revert c;refine SL λr ia ib out mg h=> ?_
  obtain⟨c,rfl,gl,wh⟩:=h;exact .pure (q c st1 gl wh)
end
section
variable {prog:T7}{w:C1}{A:N7}{E:G2->G5->Prop}{J:G5->Prop}{κ:SortKind}{U:D7->Prop}{R:D7->D7->N4}
noncomputable def Ú (l:G0 D7)(p n:G6):G0 D7:=(l.drop p).take n
variable {n:G6}
def WN {l:G0 D7}{p i:G6}(hi:i<n):(Ú l p n)[i]? =l[p+i]? :=by
 unfold Ú;rw [fB hi,Z4]
def ZV {l:G0 D7}{p:G6}(h:p+n<=l.length):(Ú l p n).length=n:=by
 unfold Ú;rw [T5,C0];omega
def Xi {l:G0 D7}{p:G6}{x:D7}(h:x∈Ú l p n):x∈l:=O4 (O5 h)
def Kz {left:N4}{arr:S9 D7}{y:D7}{base hint:G6}{st:C9}{Q:D4 G6->C9->Prop}(ak:YF prog w A J κ U R)(kd:kindOf st=κ)(o:Õ U R)(u: ∀x∈arr.toList,U x)(s:Ö R (Ú arr.toList base n))(uy:U y)(hn:base+n<=arr.size)(hh:hint<n)
 (q: ∀k,k<=n->(∀x∈(Ú arr.toList base n).take k,(if left=true then R x y else !R y x)=true)->(∀x∈(Ú arr.toList base n).drop k,(if left=true then R x y else !R y x)=false)->Q (some k) st):Tm prog w A E J (gal left y arr base n hint) Q st:=by
 have ln:arr.toList.length=arr.size:=by simp
 have sl:(Ú arr.toList base n).length=n:=ZV (by omega);have us: ∀x∈Ú arr.toList base n,U x:=λx hx=>u x (Xi hx)
 refine DH ak kd uy (λi hi=> ?_) (λi j hij hj h=> ?_) hh (λk k1 k2 k3=>q k k1 (λx hx=> ?_) (λx hx=> ?_))
 ·obtain⟨x,lx,ex⟩:=ZU (show base+i<arr.size by omega);exact⟨x,ex,u x (P8 lx)⟩
 ·obtain⟨x,lx,_⟩:=ZU (show base+i<arr.size by omega);obtain⟨z,lz,_⟩:=ZU (show base+j<arr.size by omega);have ux:=u x (P8 lx);have uz:=u z (P8 lz);have le:=ZT s o us hij (by rw [WN (by omega)];exact lx) (by rw [WN hj];exact lz);rw [ym lz] at h;rw [ym lx];cases left with
  |true=>
   have hz:R z y=true:=by simpa using h
   rcases o.neg z x y uz ux uy hz with v|v
   ·rw [le] at v;cases v
   ·simp [v]
  |false=>
   have hz:R y z=false:=by simpa using h
   have:=o.trans ux uz uy le hz;simp [this]
 ·obtain⟨i,hi,e⟩:=aR hx;rw [T5,sl] at hi;have lx:arr.toList[base+i]? =some x:=by
   rw [<-WN (n:=n) (by omega),G1 (by omega),<-e,rO]
  have:=k2 i (by omega);rw [ym lx] at this;exact this
 ·obtain⟨i,hi,e⟩:=aR hx;rw [C0,sl] at hi;have lx:arr.toList[base+(k+i)]? =some x:=by
   rw [<-WN (n:=n) (by omega),G1 (by omega),<-e,rP]
  have:=k3 (k+i) (by omega) (by omega);rw [ym lx] at this;exact this
theorem Qp: ∀ (m:G0 D7) (arr:S9 D7) (p d:G6),p+d+m.length<=arr.size->((m.zipIdx d).foldl (λ(c:S9 D7) (x:D7×G6)=>c.setIfInBounds (p+x.2) x.1) arr).toList=arr.toList.take (p+d)++m++arr.toList.drop (p+d+m.length)
 | [],arr,p,d,_=>by simp
 |x::m,arr,p,d,h=>by
  rw [R3] at h;rw [List.zipIdx_cons,n6];rw [Qp m _ p (d+1) (by rw [fI];omega)];have hl:arr.toList.length=arr.size:=by simp
  rw [lH];have e1:(arr.toList.set (p+d) x).take (p+(d+1))=arr.toList.take (p+d)++ [x]:=by
   rw [show p+(d+1)=p+d+1 by omega,C4,gH (by omega)];rw [List.take_set_of_le (P6 _)];rfl
  have e2:(arr.toList.set (p+d) x).drop (p+(d+1)+m.length)=arr.toList.drop (p+d+(m.length+1)):=by
   rw [List.drop_set_of_lt (by omega),show p+(d+1)+m.length=p+d+(m.length+1) by omega]
  rw [e1,e2,R3];simp [D5]
end
section
variable {prog:T7}{w:C1}{A:N7}{E:G2->G5->Prop}{J:G5->Prop}{κ:SortKind}{U:D7->Prop}{R:D7->D7->N4}
def Tm.set {σ:Type}{st Å:σ}{Q:PUnit->σ->Prop}(q:Q ⟨⟩ Å):Tm prog w A E J (MonadStateOf.set Å:aD σ Sem PUnit) Q st:=λs j=>by
 show R5 _ _ ((StateT.set Å:aD σ Sem PUnit).run st) _ _ _;exact P0 ⟨q,j⟩
def DL (a:S9 D7){p n:G6}(h:p<=n):(a.extract p n).toList=Ú a.toList p (n-p):=by
 rw [bR,U6];rfl
def DM (o:Õ U R){l:G0 D7}(u: ∀x∈l,U x)(s:Ö R l){z:D7}(hz:l[l.length-1]? =some z){x:D7}(hx:x∈l):R z x=false:=by
 obtain⟨i,hi,e⟩:=aR hx;exact ZT s o u (show i<=l.length-1 by omega) (by rw [G1 hi,e]) hz
def Qq (o:Õ U R){l:G0 D7}(u: ∀x∈l,U x)(s:Ö R l){z:D7}(hz:l[0]? =some z){x:D7}(hx:x∈l):R x z=false:=by
 obtain⟨i,hi,e⟩:=aR hx;exact ZT s o u (N9 _) hz (by rw [G1 hi,e])
def ZW (o:Õ U R){X Y c:G0 D7}{k k2:G6}{y0 x9:D7}(uX: ∀x∈X,U x)(uY: ∀x∈Y,U x)(sX:Ö R X)(sY:Ö R Y)(hy:Y[0]? =some y0)(hx:X[X.length-1]? =some x9)
 (f1: ∀x∈X.take k,R y0 x=false)(g2: ∀y∈Y.drop k2,R y x9=false)(hp:c.Perm (X.drop k++Y.take k2))(sc:Ö R c):(X.take k++c++Y.drop k2).Perm (X++Y)/\Ö R (X.take k++c++Y.drop k2):=by
 have uy0:=uY y0 (P8 hy);have ux9:=uX x9 (P8 hx);constructor
 ·have e:X++Y=X.take k++(X.drop k++Y.take k2)++Y.drop k2:=by
   rw [<-D5,N5,D5,N5]
  rw [e];exact(hp.append_left _).append_right _
 ·have inX: ∀x∈X.take k,∀z∈X.drop k,R z x=false:=λx hx z hz=>by
   have:Ö R (X.take k++X.drop k):=by rw [N5];exact sX
   exact(B6.mp this).2.2 x hx z hz
  have inY: ∀x∈Y.take k2,∀z∈Y.drop k2,R z x=false:=λx hx z hz=>by
   have:Ö R (Y.take k2++Y.drop k2):=by rw [N5];exact sY
   exact(B6.mp this).2.2 x hx z hz
  have xy: ∀x∈X.take k,∀y∈Y,R y x=false:=λx hx y Α=>o.trans (uX x (O5 hx)) uy0 (uY y Α) (f1 x hx) (Qq o uY sY hy Α)
  have yx: ∀x∈X,∀y∈Y.drop k2,R y x=false:=λx Ĺ y Α=>o.trans (uX x Ĺ) ux9 (uY y (O4 Α)) (DM o uX sX hx Ĺ) (g2 y Α)
  have xc: ∀x∈X.take k,∀z∈c,R z x=false:=λx hx z hz=>by
   rcases D8.mp (hp.mem_iff.mp hz) with v|v
   ·exact inX x hx z v
   ·exact xy x hx z (O5 v)
  refine B6.mpr ⟨B6.mpr ⟨sX.sublist (U9 _ _),sc,xc⟩,sY.sublist (V1 _ _),λx hx y hy=> ?_⟩;rcases D8.mp hx with v|v
  ·exact xy x v y (O4 hy)
  ·rcases D8.mp (hp.mem_iff.mp v) with v|v
   ·exact yx x (O4 v) y hy
   ·exact inY x v y hy
def VY (l:G0 D7){p n m:G6}:l=l.take p++(Ú l p n++Ú l (p+n) m)++l.drop (p+n+m):=by
 unfold Ú;have e1:(l.drop (p+n)).take m++l.drop (p+n+m)=l.drop (p+n):=by
  rw [show l.drop (p+n+m)=(l.drop (p+n)).drop m by rw [a9],N5]
 have e2:(l.drop p).take n++l.drop (p+n)=l.drop p:=by
  rw [show l.drop (p+n)=(l.drop p).drop n by rw [a9],N5]
 rw [D5,D5,e1,e2,N5]
def Ex {st:C9}{Q:N4->C9->Prop}{i sa na pw sb nb pw2:G6}(ak:YF prog w A J κ U R)(kd:kindOf st=κ)(o:Õ U R)(u: ∀x∈(M1 st).toList,U x)(p1:(C3 st)[i]? =some (sa,na,pw))(p2:(C3 st)[i+1]? =some (sb,nb,pw2))
 (hs:sa+na=sb)(n1:1<=na)(n2:1<=nb)(hz:sb+nb<=(M1 st).size)(s1:Ö R (Ú (M1 st).toList sa na))(s2:Ö R (Ú (M1 st).toList sb nb))(hf:bQ st=none)
 (q: ∀Å Z,kindOf Å=κ->bQ Å=none->C3 Å=((C3 st).setIfInBounds i (sa,na+nb,pw)).eraseIdxIfInBounds (i+1)->(M1 Å).toList=(M1 st).toList.take sa++Z++(M1 st).toList.drop (sb+nb)->Z.Perm (Ú (M1 st).toList sa na++Ú (M1 st).toList sb nb)->Ö R Z->Q true Å):
 Tm prog w A E J (IX i) Q st:=by
 have ln:(M1 st).toList.length=(M1 st).size:=by simp
 unfold IX;refine .bind (.get ?_);dsimp only;rw [p1,p2];dsimp only;refine .bind (Tm.set ?_);subst hs;have lX:(Ú (M1 st).toList sa na).length=na:=ZV (by omega);have lY:(Ú (M1 st).toList (sa+na) nb).length=nb:=ZV (by omega);have uX: ∀x∈Ú (M1 st).toList sa na,U x:=λx hx=>u x (Xi hx)
 have uY: ∀x∈Ú (M1 st).toList (sa+na) nb,U x:=λx hx=>u x (Xi hx)
 obtain⟨y0,ly0,ey0⟩:=ZU (arr:=M1 st) (show sa+na<(M1 st).size by omega);obtain⟨x9,lx9,ex9⟩:=ZU (arr:=M1 st) (show sa+(na-1)<(M1 st).size by omega);have hy:(Ú (M1 st).toList (sa+na) nb)[0]? =some y0:=by rw [WN (by omega)];exact ly0
 have hx:(Ú (M1 st).toList sa na)[(Ú (M1 st).toList sa na).length-1]? =some x9:=by rw [lX,WN (by omega)];exact lx9
 have uy0:=u y0 (P8 ly0);have ux9:=u x9 (P8 lx9);have c3:=VY (M1 st).toList (p:=sa) (n:=na) (m:=nb);have same: ∀ (Å:C9),M1 Å=M1 st-> ∀k k2,(∀x∈(Ú (M1 st).toList sa na).take k,R y0 x=false)->(∀y∈(Ú (M1 st).toList (sa+na) nb).drop k2,R y x9=false)->(na<=k\/k2=0)->Ö R (Ú (M1 st).toList sa na++Ú (M1 st).toList (sa+na) nb):=λÅ e k k2 f1 g2 h=>by
  have pl:(((Ú (M1 st).toList sa na).drop k++(Ú (M1 st).toList (sa+na) nb).take k2)).Perm ((Ú (M1 st).toList sa na).drop k++(Ú (M1 st).toList (sa+na) nb).take k2):= .refl _;have sc:Ö R ((Ú (M1 st).toList sa na).drop k++(Ú (M1 st).toList (sa+na) nb).take k2):=by
   rcases h with h|h
   ·rw [E7 (by omega),E2];exact s2.sublist (U9 _ _)
   ·rw [h,gS,J5];exact s1.sublist (V1 _ _)
  have:=(ZW o uX uY s1 s2 hy hx f1 g2 pl sc).2;rw [<-D5,N5,D5,N5] at this;exact this
 refine .bind (.elem ey0 (.bind (Kz (left:=false) ak kd o u s1 uy0 (show sa+na<=(M1 st).size by omega) (by omega) λk k1 f1 f2=> ?_)));have f1: ∀x∈(Ú (M1 st).toList sa na).take k,R y0 x=false:=λx hx=>by simpa using f1 x hx
 have f2: ∀x∈(Ú (M1 st).toList sa na).drop k,R y0 x=true:=λx hx=>by simpa using f2 x hx
 dsimp only
 by_cases z1:na-k=0
 ·rw [R9 (by simpa using z1)];refine .pure (q _ (Ú (M1 st).toList sa na++Ú (M1 st).toList (sa+na) nb) kd hf rfl c3 (.refl _) (same st rfl k nb f1 (λy hy=> ?_) (.inl (by omega))));rw [E7 (by omega)] at hy;cases hy
 rw [S4 (by simpa using z1)];refine .bind (.elem (show _=some x9 by rw [show sa+k+(na-k)-1=sa+(na-1) by omega];exact ex9) (.bind (Kz (left:=true) ak kd o u s2 ux9 (show sa+na+nb<=(M1 st).size by omega) (by omega) λk2 j1 g1 g2=> ?_)));have g1: ∀y∈(Ú (M1 st).toList (sa+na) nb).take k2,R y x9=true:=λx hx=>by simpa using g1 x hx
 have g2: ∀y∈(Ú (M1 st).toList (sa+na) nb).drop k2,R y x9=false:=λx hx=>by simpa using g2 x hx
 dsimp only
 by_cases z2:k2=0
 ·rw [R9 (by simpa using z2)];exact .pure (q _ _ kd hf rfl c3 (.refl _) (same st rfl k k2 f1 g2 (.inr z2)))
 rw [S4 (by simpa using z2)];have eX:((M1 st).extract (sa+k) (sa+na)).toList=(Ú (M1 st).toList sa na).drop k:=by
  rw [DL _ (by omega)];unfold Ú;rw [o5,a9,show sa+na-(sa+k)=na-k by omega]
 have eY:((M1 st).extract (sa+na) (sa+na+k2)).toList=(Ú (M1 st).toList (sa+na) nb).take k2:=by
  rw [DL _ (by omega)];unfold Ú;rw [o6,show sa+na+k2-(sa+na)=min k2 nb by omega]
 have sx:((M1 st).extract (sa+k) (sa+na)).size=na-k:=by rw [<-D3,eX,C0,lX]
 have sy:((M1 st).extract (sa+na) (sa+na+k2)).size=k2:=by rw [<-D3,eY,T5,lY];omega
 have hx2: ∀z,((Ú (M1 st).toList sa na).drop k)[((Ú (M1 st).toList sa na).drop k).length-1]? =some z->z=x9:=λz ķ=>by
  rw [C0,Z4,lX,show k+(na-k-1)=na-1 by omega] at ķ;rw [lX] at hx;rw [hx] at ķ;injection ķ with ķ;exact ķ.symm
 have hy2: ∀z,((Ú (M1 st).toList (sa+na) nb).take k2)[0]? =some z->z=y0:=λz ķ=>by
  rw [fB (by omega),hy] at ķ;injection ķ with ķ;exact ķ.symm
 have put: ∀c:S9 D7,ve R ((M1 st).extract (sa+k) (sa+na)) ((M1 st).extract (sa+na) (sa+na+k2)) c->(c.toList.zipIdx.foldl (λ(d:S9 D7) (x:D7×G6)=>d.setIfInBounds (sa+k+x.2) x.1) (M1 st)).toList=(M1 st).toList.take sa++((Ú (M1 st).toList sa na).take k++c.toList++(Ú (M1 st).toList (sa+na) nb).drop k2)++(M1 st).toList.drop (sa+na+nb):=λc wh=>by
  have lc:c.toList.length=na-k+k2:=by
   rw [wh.1.length_eq,P3,D3,D3,sx,sy]
  have:=Qp c.toList (M1 st) (sa+k) 0 (by omega);rw [this,lc,aB,show sa+k+(na-k+k2)=sa+na+k2 by omega];have e1:(M1 st).toList.take (sa+k)=(M1 st).toList.take sa++(Ú (M1 st).toList sa na).take k:=by
   unfold Ú;rw [o6,U0 k1,List.take_add]
  have e2:(M1 st).toList.drop (sa+na+k2)=(Ú (M1 st).toList (sa+na) nb).drop k2++(M1 st).toList.drop (sa+na+nb):=by
   unfold Ú;have h1:((M1 st).toList.drop (sa+na)).drop k2=(((M1 st).toList.drop (sa+na)).take nb++((M1 st).toList.drop (sa+na)).drop nb).drop k2:=by rw [N5]
   rw [aE (by rw [T5,C0];omega),a9,a9] at h1;exact h1
  rw [e1,e2];simp [D5]
 have jr: ∀c:S9 D7,ve R ((M1 st).extract (sa+k) (sa+na)) ((M1 st).extract (sa+na) (sa+na+k2)) c->_:=λc wh=>ZW o (c:=c.toList) uX uY s1 s2 hy hx f1 g2 (by have:=wh.1;rw [eX,eY] at this;exact this) wh.2
 by_cases z3:na-k<=k2
 ·rw [R9 z3];refine .bind (Ev ak kd ⟨o,λx hx=> ?_,λx hx=> ?_,?_,?_,λy hy z ķ=> ?_⟩ (by rw [sx];omega) (by rw [sy];omega) (λy z Α ķ=> ?_) λc Å gl wh=> .bind (Tm.modify (.bind (.get (.pure ?_)))))
  ·rw [eX] at hx;exact uX x (O4 hx)
  ·rw [eY] at hx;exact uY x (O5 hx)
  ·rw [eX];exact s1.sublist (V1 _ _)
  ·rw [eY];exact s2.sublist (U9 _ _)
  ·rw [eY] at hy;rw [eX] at ķ;rw [hx2 z ķ];exact g1 y hy
  ·rw [eY] at Α;rw [eX] at ķ;rw [hy2 y Α];exact f2 z (P8 ķ)
  ·have e:bQ Å=none:=gl.2.2.2.trans hf;show Q (bQ Å).isNone _;rw [e];refine q _ _ (gl.1.trans kd) e gl.2.2.1 ?_ (jr c wh).1 (jr c wh).2;have ea:M1 Å=M1 st:=gl.2.1;show (c.toList.zipIdx.foldl _ (M1 Å)).toList=_;rw [ea];exact put c wh
 ·rw [S4 z3];refine .bind (Ew ak kd ⟨o,λx hx=> ?_,λx hx=> ?_,?_,?_,λz ķ y Α=> ?_⟩ (by rw [sx];omega) (by rw [sy];omega) (λy z Α ķ=> ?_) λc Å gl wh=> .bind (Tm.modify (.bind (.get (.pure ?_)))))
  ·rw [eX] at hx;exact uX x (O4 hx)
  ·rw [eY] at hx;exact uY x (O5 hx)
  ·rw [eX];exact s1.sublist (V1 _ _)
  ·rw [eY];exact s2.sublist (U9 _ _)
  ·rw [eY] at Α;rw [eX] at ķ;rw [hy2 y Α];exact f2 z ķ
  ·rw [eY] at Α;rw [eX,sx] at ķ;have:=hx2 z (by rw [C0,lX];exact ķ);rw [this];exact g1 y (P8 Α)
  ·have e:bQ Å=none:=gl.2.2.2.trans hf;show Q (bQ Å).isNone _;rw [e];refine q _ _ (gl.1.trans kd) e gl.2.2.1 ?_ (jr c wh).1 (jr c wh).2;have ea:M1 Å=M1 st:=gl.2.1;show (c.toList.zipIdx.foldl _ (M1 Å)).toList=_;rw [ea];exact put c wh
end
section
variable {prog:T7}{w:C1}{A:N7}{E:G2->G5->Prop}{J:G5->Prop}{κ:SortKind}{U:D7->Prop}{R:D7->D7->N4}
def ß (st:C9)(P Z S:G0 D7):Prop:=(M1 st).toList=P++Z++S
def ş (st Å:C9):Prop:=kindOf Å=kindOf st/\C3 Å=C3 st/\bQ Å=bQ st/\gallopOf Å=gallopOf st
def ş.refl (st:C9):ş st st:=⟨rfl,rfl,rfl,rfl⟩
def Nx (xs:S9 D7)(P Z S:G0 D7)(h:xs.toList=P++Z++S):(mirror xs P.length (P.length+Z.length) ((P.length+Z.length-P.length) / 2)).toList=P++Z.reverse++S:=by
 have hl:xs.size=P.length+Z.length+S.length:=by rw [<-D3,h];simp [fJ]
 refine bP λk=> ?_
 rw [M8,getElem?_mirror_all (by omega)]
 by_cases c:P.length<=k/\k<P.length+Z.length
 ·rw [R9 c,<-M8,h,D5,D5];have e1:(P++(Z++S))[P.length+(P.length+Z.length)-1-k]? =Z[P.length+Z.length-1-k]? :=by
   rw [B1 (by omega),C5 (by omega)]
   congr 1;omega
  have e2:(P++(Z.reverse++S))[k]? =Z[P.length+Z.length-1-k]? :=by
   rw [B1 (by omega),C5 (by rw [B7];omega),cX (by omega)]
   congr 1;omega
  rw [e1,e2]
 ·rw [S4 c,<-M8,h,D5,D5]
  by_cases d:k<P.length
  ·rw [C5 d,C5 d]
  ·have e1:(P++(Z++S))[k]? =S[k-P.length-Z.length]? :=by
    rw [B1 (by omega),B1 (by omega)]
   have e2:(P++(Z.reverse++S))[k]? =S[k-P.length-Z.length]? :=by
    rw [B1 (by omega),B1 (by rw [B7];omega),B7]
   rw [e1,e2]
def Tm.rev {st:C9}{P Z S:G0 D7}{i j:G6}{Q:Unit->C9->Prop}(h:ß st P Z S)(hi:i=P.length)(hj:j=P.length+Z.length)(q: ∀Å,ş st Å->ß Å P Z.reverse S->Q () Å):Tm prog w A E J (xJ i j) Q st:=by
 rw [reverseSlice'_eq];subst hi hj;exact .modify (q _ ⟨rfl,rfl,rfl,rfl⟩ (Nx _ P Z S h))
def Tm.ltAt {st:C9}{x y:D7}{i j:G6}{Q:D4 N4->C9->Prop}(ak:YF prog w A J κ U R)(kd:kindOf st=κ)(hx:(M1 st).toList[i]? =some x)(hy:(M1 st).toList[j]? =some y)(ux:U x)(uy:U y)(q:Q (some (R x y)) st):Tm prog w A E J (ltAt' i j) Q st:=by
 rw [ltAt'_eq];exact .bind (.get (.bind (.elem (by rw [<-M8];exact hx) (.bind (.elem (by rw [<-M8];exact hy) (.lt ak kd ux uy q))))))
abbrev Dsc (R:D7->D7->N4)(l:G0 D7):Prop:=l.Pairwise λx y=>R x y=false
def FP {l:G0 D7}(d:Dsc R l):Ö R l.reverse:=g9.mpr d
def Ny (o:Õ U R){l:G0 D7}{x y:D7}(u: ∀z∈l++ [x],U z)(uy:U y)(s:Ö R (l++ [x]))(h:R y x=false):Ö R (l++ [x]++ [y]):=by
 refine B6.mpr ⟨s,J8 _ _,λz hz v hv=> ?_⟩;rw [G8.mp hv];have ux:=u x (by simp);rcases D8.mp hz with w|w
 ·exact o.trans (u z hz) ux uy ((B6.mp s).2.2 z w x (by simp)) h
 ·rw [G8.mp w];exact h
def Nz {l m:G0 D7}(s:Dsc R (l++m))(alike: ∀x∈m,∀y∈m,R x y=false):Dsc R (l++m.reverse):=by
 obtain⟨a,b,c⟩:=B6.mp s;refine B6.mpr ⟨a,?_,λx hx y hy=>c x hx y (A9.mp hy)⟩;rw [A4];intro i j hi hj _;exact alike _ (A9.mp (N0 hi)) _ (A9.mp (N0 hj))
end
section
variable {prog:T7}{w:C1}{A:N7}{E:G2->G5->Prop}{J:G5->Prop}{κ:SortKind}{U:D7->Prop}{R:D7->D7->N4}
def ş.trans {a b c:C9}(x:ş a b)(y:ş b c):ş a c:=⟨y.1.trans x.1,y.2.1.trans x.2.1,y.2.2.1.trans x.2.2.1,y.2.2.2.trans x.2.2.2⟩
variable {P Z:G0 D7}
def ß.rest {st:C9}{S:G0 D7}(h:ß st P Z S){i:G6}:(M1 st).toList[P.length+Z.length+i]? =S[i]? :=by
 rw [h,B1 (by rw [P3];omega),P3]
 congr 1;omega
def ß.end {st:C9}{W S:G0 D7}{x:D7}(h:ß st P (W++ [x]) S):(M1 st).toList[P.length+W.length]? =some x:=by
 rw [h,D5,B1 (by omega),D5,B1 (by omega)];simp
def WO {l:G0 D7}(h:1<=l.length): ∃W x,l=W++ [x]:=by
 rcases List.eq_nil_or_concat l with e|⟨W,x,e⟩
 ·subst e;simp at h
 ·exact⟨W,x,by rw [e,List.concat_eq_append]⟩
structure Ą (R:D7->D7->N4)(T Z1 Z2:G0 D7)(n:G6):Prop where
 len:(Z1++Z2).length=n
 perm:(Z1++Z2).Perm (T.take n)
 dsc:Dsc R (Z1++Z2)
 alike: ∀x∈Z2,∀y∈Z2,R x y=false
 ne:1<=Z2.length
variable {T:G0 D7}{n:G6}
def Ą.turn {Z1 Z2:G0 D7}(f:Ą R T Z1 Z2 n):Ą R T Z1 Z2.reverse n:=
 ⟨by have:=f.len;simp only [P3,B7] at this ⊢;exact this,((X1 Z2).append_left Z1).trans f.perm,Nz f.dsc f.alike,λx hx y hy=>f.alike x (A9.mp hx) y (A9.mp hy),by rw [B7];exact f.ne⟩
def Ą.mem {Z1 Z2:G0 D7}(f:Ą R T Z1 Z2 n){x:D7}(h:x∈Z1++Z2):x∈T:=O5 (f.perm.mem_iff.mp h)
def Ji {y:D7}(h:Z.Perm (T.take n))(hy:T[n]? =some y):(Z++ [y]).Perm (T.take (n+1)):=by
 rw [ZS hy];exact h.append_right _
def Ą.below (o:Õ U R){T Z1 Z2:G0 D7}{n:G6}{x y:D7}(u: ∀x∈T,U x)(f:Ą R T Z1 Z2 n)(hx:x∈Z2)(hy:T[n]? =some y)(h:R y x=true):Ą R T (Z1++Z2) [y] (n+1):=by
 have uy:=u y (P8 hy);have ux:=u x (f.mem (D8.mpr (.inr hx)));have xy:=o.asym y x uy ux h;refine⟨by rw [P3,f.len];rfl,Ji f.perm hy,?_,λa ha b hb=> ?_,by simp⟩
 ·refine B6.mpr ⟨f.dsc,J8 _ _,λz hz v hv=> ?_⟩;rw [G8.mp hv];have uz:=u z (f.mem hz);have zx:R z x=false:=by
   rcases D8.mp hz with w|w
   ·exact(B6.mp f.dsc).2.2 z w x hx
   ·exact f.alike z w x hx
  exact o.trans uy ux uz xy zx
 ·rw [G8.mp ha,G8.mp hb];exact o.refl uy
def Ą.like (o:Õ U R){T Z1 Z2:G0 D7}{n:G6}{x y:D7}(u: ∀x∈T,U x)(f:Ą R T Z1 Z2 n)(hx:x∈Z2)(hy:T[n]? =some y)(h:R y x=false)(h':R x y=false):Ą R T Z1 (Z2++ [y]) (n+1):=by
 have uy:=u y (P8 hy);have ux:=u x (f.mem (D8.mpr (.inr hx)));have zy: ∀z∈Z1++Z2,R z y=false:=λz hz=>by
  have uz:=u z (f.mem hz);have zx:R z x=false:=by
   rcases D8.mp hz with w|w
   ·exact(B6.mp f.dsc).2.2 z w x hx
   ·exact f.alike z w x hx
  exact o.trans uy ux uz h' zx
 have yz: ∀z∈Z2,R y z=false:=λz hz=>o.trans (u z (f.mem (D8.mpr (.inr hz)))) ux uy (f.alike x hx z hz) h
 refine⟨by rw [<-D5,P3,f.len];rfl,by rw [<-D5];exact Ji f.perm hy,?_,λa ha b hb=> ?_,by simp⟩
 ·rw [<-D5];refine B6.mpr ⟨f.dsc,J8 _ _,λz hz v hv=> ?_⟩;rw [G8.mp hv];exact zy z hz
 ·rcases D8.mp ha with p|p<;>rcases D8.mp hb with r|r
  ·exact f.alike a p b r
  ·rw [G8.mp r];exact zy a (D8.mpr (.inr p))
  ·rw [G8.mp p];exact yz b r
  ·rw [G8.mp p,G8.mp r];exact o.refl uy
def ß.more {st:C9}{m:G6}{y:D7}(L:ß st P Z (T.drop m))(hy:T[m]? =some y):ß st P (Z++ [y]) (T.drop (m+1)):=by
 unfold ß at L ⊢;rw [L,zf hy];simp
def ß.part {st:C9}{Z1 Z2 S:G0 D7}:ß st P (Z1++Z2) S↔ß st (P++Z1) Z2 S:=by
 unfold ß;simp only [D5]
def ß.two {st:C9}{m:G6}{y:D7}(L:ß st P Z (T.drop m))(lz:Z.length=m)(m1:1<=m)(hy:T[m]? =some y):(M1 st).toList[P.length+m]? =some y/\ ∃W x,Z=W++ [x]/\(M1 st).toList[P.length+m-1]? =some x:=by
 have a:=L.rest (i:=0);rw [Z4,lz,aB,aB,hy] at a;obtain⟨W,x,e⟩:=WO (l:=Z) (by omega);subst e;refine⟨a,W,x,rfl,?_⟩;rw [<-L.end]
 congr 1
 rw [P3,cV] at lz;omega
section
variable {σ ρ τ α:Type}{st:σ}
def Tm.rangeN {f:G6->D4 ρ×τ->aD σ Sem (gC (D4 ρ×τ))}(I:G6->τ->σ->Prop){Q:τ->σ->Prop}{Q':D4 ρ×τ->σ->Prop}{a b:G6}{c:τ}(hab:a<=b)(h:I a c st)(step: ∀i c st,i<b->I i c st->Tm prog w A E J (f i (none,c)) (λr Å=>match r with| .done c'=>c'.1=none/\Q c'.2 Å| .yield c'=>c'.1=none/\I (i+1) c'.2 Å) st)(fin: ∀c st,I b c st->Q c st)(q: ∀c st,Q c st->Q' (none,c) st):Tm prog w A E J (forIn [a:b] ((none:D4 ρ),c) f) Q' st:=by
 refine Tm.mono (Tm.range (λi c st=>c.1=none/\I i c.2 st) (Q:=λc st=>c.1=none/\Q c.2 st) hab ⟨rfl,h⟩ ?_ λc st h=>⟨h.1,fin _ _ h.2⟩) ?_
 ·rintro i ⟨_,c⟩ st hi ⟨rfl,h⟩;exact(step i c st hi h).mono λr Å x=>by cases r<;>exact x
 ·rintro ⟨_,c⟩ st ⟨rfl,h⟩;exact q c st h
def Tm.fork {c:Prop}[Decidable c]{t e:aD σ Sem α}{Q:α->σ->Prop}(I:σ->Prop)(G: ∀s,I s->Tm prog w A E J e Q s)(T:c->(∀s,I s->Tm prog w A E J e Q s)->Tm prog w A E J t Q st)(F: ¬c->I st):Tm prog w A E J (if c then t else e) Q st:=
 .if2 (λh=>T h G) λh=>G _ (F h)
end
section
variable {st:C9}{P T Z:G0 D7}{m:G6}
def DN {f:G6->D4 (D4 G6)×G6->aD C9 Sem (gC (D4 (D4 G6)×G6))}{G:G6->D4 N4->aD C9 Sem (gC (D4 (D4 G6)×G6))}{Q:D4 (D4 G6)×G6->C9->Prop}(ak:YF prog w A J κ U R)(kd:kindOf st=κ)(o:Õ U R)(u: ∀x∈T,U x)
 (hf: ∀i n,f i (none,n)=ltAt' (P.length+n) (P.length+n-1) >>= G n)(hG: ∀n,G n (some true)=Pure.pure (.done (none,n))/\G n (some false)=Pure.pure (.yield (none,n+1)))
 (m1:1<=m)(m2:m<=T.length)(L:ß st P Z (T.drop m))(p:Z.Perm (T.take m))(s:Ö R Z)
 (q: ∀n Z',1<=n->n<=T.length->ß st P Z' (T.drop n)->Z'.Perm (T.take n)->Ö R Z'->(∀y,T[n]? =some y-> ∃W x,Z'=W++ [x]/\R y x=true)->Q (none,n) st):Tm prog w A E J (forIn [m:T.length] ((none:D4 (D4 G6)),m) f) Q st:=by
 refine Tm.rangeN (λi c s=>s=st/\c=i/\1<=i/\ ∃Z,ß st P Z (T.drop i)/\Z.Perm (T.take i)/\Ö R Z) (Q:=λn s=>s=st/\Q (none,n) st) m2 ⟨rfl,rfl,m1,Z,L,p,s⟩ ?_ ?_ λc s h=>h.1 ▸ h.2
 ·rintro _ i _ hi ⟨rfl,rfl,i1,Z,L,p,s⟩;have hy:=G1 hi;obtain⟨ay,W,x,rfl,ax⟩:=L.two (by rw [p.length_eq,T5,U0 (T8 hi)]) i1 hy;have uy:=u _ (N0 hi);have uZ: ∀z∈W++ [x],U z:=λz hz=>u z (O5 (p.mem_iff.mp hz))
  rw [hf];refine .bind (.ltAt ak kd ay ax uy (uZ x (by simp)) ?_);cases hb:R T[i] x with
  |true=>
   rw [(hG _).1];exact .pure ⟨rfl,rfl,q i _ i1 (T8 hi) L p s λy h=>⟨W,x,rfl,by rw [hy] at h;injection h with h;rw [<-h];exact hb⟩⟩
  |false=>
   rw [(hG _).2];exact .pure ⟨rfl,rfl,rfl,iF (N9 _),_,L.more hy,Ji p hy,Ny o uZ uy s hb⟩
 ·rintro _ _ ⟨rfl,rfl,i1,Z,L,p,s⟩;exact⟨rfl,q _ Z i1 (P6 _) L p s λy h=>absurd (P7.mp h).1 (B8 _)⟩
end
def Š (R:D7->D7->N4)(P T:G0 D7)(st Å:C9)(n k:G6):Prop:=ş st Å/\ ∃Z1 Z2,ß Å P (Z1++Z2) (T.drop n)/\Ą R T Z1 Z2 n/\Z2.length=k+1
def Š.rev {st s2:C9}{k:G6}{Q:Unit->C9->Prop}(h:Š R P T st s2 n k)(q: ∀s3,Š R P T st s3 n k->Q () s3):Tm prog w A E J (xJ (P.length+n-(k+1)) (P.length+n)) Q s2:=by
 obtain⟨ar,Z1,Z2,L,F,l⟩:=h;have l12:=F.len;rw [P3] at l12;exact .rev (ß.part.mp L) (by rw [P3];omega) (by rw [P3];omega) λs3 ar3 L3=>q s3 ⟨ar.trans ar3,Z1,_,ß.part.mpr L3,F.turn,by rw [B7];exact l⟩
def NA {st:C9}{Q:D4 G6->C9->Prop}(ak:YF prog w A J κ U R)(kd:kindOf st=κ)(o:Õ U R)(u: ∀x∈T,U x)(h:ß st P [] T)(h1:1<=T.length)
 (q: ∀n Å Z,1<=n->n<=T.length->ş st Å->ß Å P Z (T.drop n)->Z.Perm (T.take n)->Ö R Z->Q (some n) Å):Tm prog w A E J (countRun' P.length T.length) Q st:=by
 refine .bind (DN (m:=1) (Z:=T.take 1) ak kd o u (by exact λi n=>rfl) (by exact λn=>⟨rfl,rfl⟩) (P6 _) h1 ?_ (.refl _) ?_ λn Z n1 n2 L p sr br=> ?_)
 ·unfold ß at h ⊢;rw [h,J5,D5,N5]
 ·match T,h1 with
  |x::r,_=>exact J8 _ _
 refine .eq2 (x:=n) (y:=T.length) (λz1=> .pure (q n _ _ n1 n2 (ş.refl _) L p sr)) λz1=> ?_
 have n3:n<T.length:=K6 n2 z1;have hy:=G1 n3;have uZ: ∀z∈Z,U z:=λz hz=>u z (O5 (p.mem_iff.mp hz))
 obtain⟨W,x,e,yx⟩:=br _ hy;have lz:Z.length=n:=by rw [p.length_eq,T5,U0 n2]
 have xin:x∈Z:=by rw [e];simp
 have xl:Z[Z.length-1]? =some x:=by rw [e];simp
 have F0:(∀p∈Z,∀r∈Z,R p r=false)->Ą R T [] Z n:=λal=>⟨lz,p,A4.mpr λi j hi hj _=>al _ (N0 hi) _ (N0 hj),al,by rw [lz];exact n1⟩
 refine Tm.fork (λs=>Š R P T st s (n+1) 0) ?_ ?_ ?_
 ·intro s1 F1;refine .bind (.rule (.bind (Tm.rangeN (λi c s=>c.1=i/\Š R P T st s c.1 c.2) (Q:=λc s=>c.1<=T.length/\Š R P T st s c.1 c.2) n3 ⟨rfl,F1⟩ ?_ (λc s h=>⟨J0 h.1,h.2⟩) ?_)))
  ·intro i c s2 hi h2;have hc:c.1<T.length:=by rw [h2.1];exact hi
   have hy:=G1 hc;have uy:=u _ (N0 hc);obtain⟨e1,ar2,Z1,Z2,L2,F2,l2⟩:=h2;have l12:=F2.len;obtain⟨ay,W,x,eW,ax⟩:=L2.two l12 (by rw [<-l12,P3,l2];exact bI _ _) hy;have xin:x∈Z2:=by
    obtain⟨V,v,e⟩:=WO F2.ne;have e':=congrArg List.getLast? eW;rw [e,<-D5,o7,o7] at e';injection e' with e'
    rw [e,<-e'];simp
   have ux:=u x (F2.mem (D8.mpr (.inr xin)));refine .bind (.ltAt ak (ar2.1.trans kd) ay ax uy ux (.if2 (c:=R _ x=true) (λhb=> ?_) λhb=> .bind (.ltAt ak (ar2.1.trans kd) ax ay ux uy (.if2 (c:=R x _=true) (λι=> .pure ⟨rfl,T8 hc,ar2,Z1,Z2,L2,F2,l2⟩) λι=> ?_))))
   ·refine Tm.fork (λs=>Š R P T st s (c.1+1) 0) (λs h=> .pure ⟨rfl,congrArg IY e1,h⟩) (λzq H=> .bind ?_) λzq=>⟨ar2,Z1++Z2,[T[c.1]],L2.more hy,F2.below o u xin hy hb,rfl⟩
    have X1v:=l12;rw [P3] at X1v;exact .rev (ß.part.mp L2) (by rw [P3];dsimp only;omega) (by rw [P3];dsimp only;omega) λs3 ar3 L3=>H s3 ⟨ar2.trans ar3,Z1++Z2.reverse,[T[c.1]],(ß.part.mpr L3).more hy,F2.turn.below o u (A9.mpr xin) hy hb,rfl⟩
   ·refine .pure ⟨rfl,congrArg IY e1,ar2,Z1,Z2++ [T[c.1]],?_,F2.like o u xin hy (V2.mpr hb) (V2.mpr ι),by rw [P3,l2];rfl⟩;rw [<-D5];exact L2.more hy
  ·intro c s2 h2;refine Tm.fork (λs=> ∃k,Š R P T st s c.1 k) ?_ (λzq H=> .bind (h2.2.rev λs h=>H s ⟨_,h⟩)) λzq=>⟨_,h2.2⟩
   intro s3 h3;obtain⟨k,ar3,Z1,Z2,L3,F3,l3⟩:=h3;have m1:1<=c.1:=by rw [<-F3.len,P3,l3];exact bI _ _
   exact .bind (.rev L3 rfl (by rw [F3.len]) λs4 ar4 L4=> .bind (DN ak ((ar3.trans ar4).1.trans kd) o u (by exact λi n=>rfl) (by exact λn=>⟨rfl,rfl⟩) m1 h2.1 L4 ((X1 _).trans F3.perm) (FP F3.dsc) λn Z n1 n2 L p sr _=> .pure (q n s4 Z n1 n2 (ar3.trans ar4) L p sr)))
 ·intro z2 H;obtain⟨x0,V,eV⟩: ∃x0 V,Z=x0::V:=by
   match Z,xin with
   |a::r,_=>exact⟨a,r,rfl⟩
  have ux:=uZ x xin;have ux0:=uZ x0 (by rw [eV];simp);have a0:(M1 st).toList[P.length]? =some x0:=by rw [L,eV];simp
  have a1:(M1 st).toList[P.length+n-1]? =some x:=by
   obtain⟨_,W',x',e',ax⟩:=L.two lz n1 hy;rw [e] at e';rw [ax,(List.append_inj' e' rfl).2 |> λh=>(List.cons.inj h).1]
  exact .bind (.ltAt ak kd a0 a1 ux0 ux (.if2 (c:=R x0 x=true) (λ_=> .pure (q n _ _ n1 n2 (ş.refl _) L p sr)) λhr0=> .bind (.rev L rfl (by rw [lz]) λs1 ar1 L1=>H s1 ⟨ar1,_,_,L1.more hy,Ą.below o u (Z1:= []) (Ą.turn (F0 λp hp r hr=>o.trans (uZ r hr) ux (uZ p hp) (DM o uZ sr xl hr) (V2.mpr λv=>(o.neg p x0 x (uZ p hp) ux0 ux v).elim (λv=>by rw [Qq o uZ sr (z:=x0) (by rw [eV];rfl) hp] at v;cases v) hr0))) (A9.mpr xin) hy yx,rfl⟩)))
 ·intro z2;have w0:W= []:=K4 (by rw [e,P3,cV] at lz;omega);have f: ∀z∈Z,z=x:=λz hz=>by rw [e,w0] at hz;exact G8.mp hz
  exact⟨ş.refl st,_,_,L.more hy,Ą.below o u (Z1:= []) (F0 λp hp r hr=>by rw [f p hp,f r hr];exact o.refl (uZ x xin)) xin hy yx,rfl⟩
end
section
variable {prog:T7}{w:C1}{A:N7}{E:G2->G5->Prop}{J:G5->Prop}{κ:SortKind}{U:D7->Prop}{R:D7->D7->N4}
def NB {B:S9 D7}{A R:G0 D7}{z y:D7}(h:B.toList=A++z::y::R):(B.swapIfInBounds (A.length+1) A.length).toList=A++y::z::R:=by
 obtain⟨l⟩:=B;cases h;have n:A.length<(A++z::y::R).length:=by rw [P3];exact Nat.lt_add_of_pos_right (cN _)
 have n1:A.length+1<(A++z::y::R).length:=by rw [P3];exact Nat.add_lt_add_left (sN (cN _)) _
 have a0:(A++z::y::R)[A.length]=z:=nP rfl rfl;have a1:(A++z::y::R)[A.length+1]=y:=nP (l₁:=A++ [z]) (l₂:=R) (by rw [D5];rfl) (by rw [P3];rfl);unfold Array.swapIfInBounds;refine(congrArg qU ((pR n1).trans (pR n))).trans ?_;rw [Array.toList_swap];show ((A++z::y::R).set (A.length+1) (A++z::y::R)[A.length]).set A.length (A++z::y::R)[A.length+1]=_;rw [a0,a1,oI _ _ (W0 A.length 1),oI _ _ (P6 _),i3,gD];rfl
theorem DO {xs:S9 D7}{y:D7}{S:G0 D7}: ∀ (Z A:G0 D7),xs.toList=A++(Z++y::S)->(bubble xs (A.length+Z.length) Z.length).toList=A++y::(Z++S)
 | [],A,h=>h
 |z::Z,A,h=>by
  have ih:=DO Z (A++ [z]) (by rw [h,D5];rfl);rw [P3,f7] at ih;rw [R3,bubble_succ,show A.length+(Z.length+1)-Z.length=A.length+1 from lI (n:=A.length+1) (m:=Z.length) ▸ by rw [f7];rfl];exact NB (ih.trans (by rw [D5];rfl))
def NC (xs:S9 D7)(P Z S:G0 D7)(y:D7)(l:G6)(hl:l<=Z.length)(h:xs.toList=P++Z++y::S):(bubble xs (P.length+Z.length) (Z.length-l)).toList=P++(Z.take l++ [y]++Z.drop l)++S:=by
 have e:=DO (xs:=xs) (y:=y) (S:=S) (Z.drop l) (P++Z.take l) (by rw [h,D5 P (Z.take l),<-D5 (Z.take l),N5,D5]);rw [P3,T5,C0,U0 hl,fJ,J4 hl] at e;rw [e];simp only [D5,Y9,E2]
def FQ (o:Õ U R){Z:G0 D7}{y:D7}{l:G6}(u: ∀z∈Z,U z)(uy:U y)(s:Ö R Z)(a: ∀z∈Z.take l,R y z=false)(b: ∀z∈Z.drop l,R y z=true):Ö R (Z.take l++ [y]++Z.drop l):=by
 have s':Ö R (Z.take l++Z.drop l):=by rw [N5];exact s
 obtain⟨s1,s2,s3⟩:=B6.mp s';refine B6.mpr ⟨B6.mpr ⟨s1,J8 _ _,λx hx z hz=> ?_⟩,s2,λx hx z hz=> ?_⟩
 ·rw [G8.mp hz];exact a x hx
 ·rcases D8.mp hx with v|v
  ·exact s3 x v z hz
  ·rw [G8.mp v];exact o.asym y z uy (u z (O4 hz)) (b z hz)
def Ey {st:C9}{Q:N4->C9->Prop}{P T Z:G0 D7}{n k:G6}(ak:YF prog w A J κ U R)(kd:kindOf st=κ)(o:Õ U R)(u: ∀x∈T,U x)(h:ß st P Z (T.drop k))(hp:Z.Perm (T.take k))(hs:Ö R Z)(k1:1<=k)(kn:k<=n)(hn:n<=T.length)
 (q: ∀Å Z',ş st Å->ß Å P Z' (T.drop n)->Z'.Perm (T.take n)->Ö R Z'->Q true Å):Tm prog w A E J (IZ P.length n k) Q st:=by
 unfold IZ;refine .bind (Tm.mono (Tm.range (λi c s1=>ş st s1/\c.1=none/\1<=i/\ ∃Z,ß s1 P Z (T.drop i)/\Z.Perm (T.take i)/\Ö R Z) (Q:=λc s1=>ş st s1/\c.1=none/\ ∃Z,ß s1 P Z (T.drop n)/\Z.Perm (T.take n)/\Ö R Z) (by omega) ⟨ş.refl st,rfl,by omega,Z,by rw [tQ k1];exact h,by rw [tQ k1];exact hp,hs⟩ ?_ ?_) ?_)
 ·rintro i ⟨r,c2⟩ s1 hi ⟨ar,hr,i1,Z,L,p,s⟩;dsimp only at hr ⊢;subst hr;obtain⟨y,hy⟩: ∃y,T[i]? =some y:=⟨_,G1 (by omega)⟩;have uy:=u y (P8 hy);have lz:Z.length=i:=by rw [p.length_eq,T5];omega
  have uZ: ∀z∈Z,U z:=λz hz=>u z (O5 (p.mem_iff.mp hz))
  have ay:(M1 s1).toList[P.length+i]? =some y:=by
   have:=L.rest (i:=0);rw [Z4,lz] at this;rw [aB] at this;rw [this];exact hy
  have az: ∀m,m<i-> ∃z,Z[m]? =some z/\(M1 s1).toList[P.length+m]? =some z:=λm hm=>by
   refine⟨Z[m],G1 (by omega),?_⟩;rw [L,D5,B1 (by omega),C5 (by omega),gD,G1 (by omega)]
  refine .bind (Tm.mono (Tm.range (λj c s2=>s2=s1/\c.1=none/\c.2.1<=c.2.2/\c.2.2<=i/\(∀z∈Z.take c.2.1,R y z=false)/\(∀z∈Z.drop c.2.2,R y z=true)/\c.2.2-c.2.1+j<=i) (Q:=λc s2=>s2=s1/\c.1=none/\c.2.1<=i/\(∀z∈Z.take c.2.1,R y z=false)/\(∀z∈Z.drop c.2.1,R y z=true)) (N9 _) ⟨rfl,rfl,N9 _,P6 _,λz hz=> ?_,λz hz=> ?_,by dsimp only;omega⟩ ?_ ?_) ?_)
  ·dsimp only at hz;rw [gS] at hz;cases hz
  ·dsimp only at hz;rw [E7 (by omega)] at hz;cases hz
  ·rintro j ⟨r,l,v⟩ _ hj ⟨rfl,hr,b1,b2,b3,b4,b5⟩;dsimp only at hr b1 b2 b3 b4 b5 ⊢;subst hr
   by_cases c1:l>=v
   ·rw [R9 c1];have:l=v:=by omega
    subst this;exact .pure ⟨rfl,rfl,b2,b3,b4⟩
   rw [S4 c1];obtain⟨z,hz,ez⟩:=az ((l+v) / 2) (by omega);have uz:=uZ z (P8 hz);refine .bind (.ltAt ak (ar.1.trans kd) ay ez uy uz ?_);dsimp only;cases hb:R y z with
   |true=>
    rw [R9 rfl];refine .pure ⟨rfl,rfl,by dsimp only;omega,by dsimp only;omega,b3,λx hx=> ?_,by dsimp only;omega⟩;dsimp only at hx;have zx:R x z=false:=by
     obtain⟨t,ht,e⟩:=aR hx;rw [C0] at ht;exact ZT s o uZ (show (l+v) / 2<=(l+v) / 2+t by omega) hz (by rw [G1 (by omega),<-e,rP])
    rcases o.neg y x z uy (uZ x (O4 hx)) uz hb with w|w
    ·exact w
    ·rw [zx] at w;cases w
   |false=>
    rw [S4 (by decide)];refine .pure ⟨rfl,rfl,by dsimp only;omega,b2,λx hx=> ?_,b4,by dsimp only;omega⟩;dsimp only at hx;have xz:R z x=false:=by
     obtain⟨t,ht,e⟩:=aR hx;rw [T5] at ht;exact ZT s o uZ (show t<=(l+v) / 2 by omega) (by rw [G1 (by omega),<-e,rO]) hz
    exact o.trans (uZ x (O5 hx)) uz uy xz hb
  ·rintro ⟨r,l,v⟩ _ ⟨rfl,hr,b1,b2,b3,b4,b5⟩;dsimp only at hr b1 b2 b3 b4 b5 ⊢;have:l=v:=by omega
   subst this;exact⟨rfl,hr,b2,b3,b4⟩
  ·rintro ⟨r,l,v⟩ s2 ⟨rfl,hr,b2,b3,b4⟩;dsimp only at hr b2 b3 b4 ⊢;subst hr;dsimp only;refine .bind ?_;show Tm prog w A E J (moveDown' (P.length+i) (P.length+l)) _ _;rw [moveDown'_eq];refine .modify (.pure ⟨ar.trans ⟨rfl,rfl,rfl,rfl⟩,rfl,by omega,Z.take l++ [y]++Z.drop l,?_,?_,FQ o uZ uy s b3 b4⟩)
   ·have:=NC (M1 s2) P Z (T.drop (i+1)) y l (by omega) (by rw [<-zf hy];exact L);rw [lz] at this;rw [show P.length+i-(P.length+l)=i-l by omega];exact this
   ·refine oA ?_ (Ji p hy);rw [D5];have e:Z++ [y]=Z.take l++(Z.drop l++ [y]):=by rw [<-D5,N5]
    rw [e];exact(cW).append_left _
 ·rintro ⟨r,c2⟩ s1 ⟨ar,hr,i1,Z,L,p,s⟩;exact⟨ar,hr,Z,L,p,s⟩
 ·rintro ⟨r,c2⟩ s1 ⟨ar,hr,Z,L,p,s⟩;dsimp only at hr ⊢;subst hr;exact .pure (q s1 Z ar L p s)
end
section
variable {prog:T7}{w:C1}{A:N7}{E:G2->G5->Prop}{J:G5->Prop}{κ:SortKind}{U:D7->Prop}{R:D7->D7->N4}
def ģ (R:D7->D7->N4)(l:G0 D7):G0 (G6×G6×G6)->G6->G6->Prop
 | [],s,e=>s=e
 |(p,n,_)::rest,s,e=>p=s/\1<=n/\Ö R (Ú l p n)/\ģ R l rest (s+n) e
variable {l:G0 D7}
def ģ.le: ∀ {pl:G0 (G6×G6×G6)} {s e:G6},ģ R l pl s e->s+pl.length<=e
 | [],s,e,h=>by cases h;simp
 |(p,n,_)::rest,s,e,⟨_,n1,_,h⟩=>by have:=ģ.le h;simp only [R3];omega
def ND {l':G0 D7}{p n e:G6}(h:l.take e=l'.take e)(he:p+n<=e):Ú l p n=Ú l' p n:=by
 have cut: ∀k:G0 D7,Ú k p n=Ú (k.take e) p n:=λk=>by
  unfold Ú;rw [o5,o6,U0 (by omega)]
 rw [cut l,cut l',h]
def ģ.same {l l':G0 D7}: ∀ {pl:G0 (G6×G6×G6)} {s e:G6},ģ R l pl s e->l.take e=l'.take e->ģ R l' pl s e
 | [],s,e,h,_=>h
 |(p,n,_)::rest,s,e,⟨a,b,c,d⟩,h=>by
  have:=d.le;exact⟨a,b,by rw [<-ND h (by omega)];exact c,d.same h⟩
def ģ.shift {l':G0 D7}: ∀ {pl:G0 (G6×G6×G6)} {s e:G6},ģ R l pl s e->l.drop s=l'.drop s->ģ R l' pl s e
 | [],s,e,h,_=>h
 |(p,n,_)::rest,s,e,⟨a,b,c,d⟩,h=>by
  subst a;refine⟨rfl,b,by unfold Ú at c ⊢;rw [<-h];exact c,d.shift ?_⟩;rw [<-a9,<-a9,h]
def ģ.append: ∀ {a b:G0 (G6×G6×G6)} {s e:G6},ģ R l (a++b) s e↔ ∃m,ģ R l a s m/\ģ R l b m e
 | [],b,s,e=>⟨λh=>⟨s,rfl,h⟩,λ⟨m,h,h'⟩=>by cases h;exact h'⟩
 |(p,n,w)::a,b,s,e=>by
  constructor
  ·rintro ⟨x,y,z,h⟩;obtain⟨m,h1,h2⟩:=ģ.append.mp h;exact⟨m,⟨x,y,z,h1⟩,h2⟩
  ·rintro ⟨m,⟨x,y,z,h1⟩,h2⟩;exact⟨x,y,z,ģ.append.mpr ⟨m,h1,h2⟩⟩
structure Bt (R:D7->D7->N4)(κ:SortKind)(l0:G0 D7)(lo:G6)(st:C9):Prop where
 kind:kindOf st=κ
 failed:bQ st=none
 perm:(M1 st).toList.Perm l0
 stk:ģ R (M1 st).toList (C3 st).toList 0 lo
variable {l0:G0 D7}{lo:G6}
def Bt.size {st:C9}(b:Bt R κ l0 lo st):(M1 st).size=l0.length:=by rw [<-D3,b.perm.length_eq]
def Bt.merge {st:C9}{Q:N4->C9->Prop}{i:G6}(ak:YF prog w A J κ U R)(o:Õ U R)(u: ∀x∈l0,U x)(b:Bt R κ l0 lo st)(hlo:lo<=l0.length)(hi:i+1<(C3 st).size)
 (q: ∀Å,Bt R κ l0 lo Å->(C3 Å).size+1=(C3 st).size->(M1 Å).toList.drop lo=(M1 st).toList.drop lo->Q true Å):Tm prog w A E J (IX i) Q st:=by
 have lp:(C3 st).toList.length=(C3 st).size:=by simp
 obtain⟨⟨sa,na,pw⟩,hx⟩: ∃x,(C3 st).toList[i]? =some x:=⟨_,G1 (by omega)⟩;obtain⟨⟨sb,nb,pw2⟩,hy⟩: ∃y,(C3 st).toList[i+1]? =some y:=⟨_,G1 (by omega)⟩;have e:(C3 st).toList=(C3 st).toList.take i++(sa,na,pw)::(sb,nb,pw2)::(C3 st).toList.drop (i+2):=by
  rw [<-zf hy,<-zf hx,N5]
 have stk:=b.stk;rw [e] at stk;obtain⟨m,k1,em,n1,s1,eb,n2,s2,k2⟩:=ģ.append.mp stk;subst em;subst eb;have le:=k2.le;have sz:=b.size;have hz:sa+na+nb<=(M1 st).size:=by omega
 have ln:(M1 st).toList.length=(M1 st).size:=by simp
 refine Ex ak b.kind o (λx hx=>u x (b.perm.mem_iff.mp hx)) (by rw [<-M8];exact hx) (by rw [<-M8];exact hy) rfl n1 n2 hz s1 s2 b.failed λÅ Z kd hf hp ha pz sz'=> ?_
 have hpl:(C3 Å).toList=(C3 st).toList.take i++(sa,na+nb,pw)::(C3 st).toList.drop (i+2):=by
  rw [hp,Array.eraseIdxIfInBounds_eq,pR (by rw [fI];exact hi),oJ,lH];generalize (C3 st).toList.drop (i+2)=B at e ⊢;have li:((C3 st).toList.take i).length=i:=by rw [T5];omega
  generalize (C3 st).toList.take i=A at e li ⊢;rw [e];subst li;simp [List.set_append,List.eraseIdx_append];intro z;omega
 have lZ:Z.length=na+nb:=by rw [pz.length_eq,P3,ZV (by omega),ZV (by omega)]
 have lt:((M1 st).toList.take sa).length=sa:=by rw [T5];omega
 refine q Å ⟨kd,hf,?_,?_⟩ ?_ ?_
 ·rw [ha];refine oA ?_ b.perm;have c3:=VY (M1 st).toList (p:=sa) (n:=na) (m:=nb);have pp:=(pz.append_left ((M1 st).toList.take sa)).append_right ((M1 st).toList.drop (sa+na+nb));rw [<-c3] at pp;exact pp
 ·rw [hpl,ha];refine ģ.append.mpr ⟨sa,k1.same ?_,rfl,by omega,?_,?_⟩
  ·rw [D5,aF (by omega),T9 (l:=(M1 st).toList.take sa) (by omega)]
  ·unfold Ú;rw [D5,aE (by omega),E7 (by omega),E2,aF (by omega),T9 (by omega)];exact sz'
  ·rw [<-fJ];refine k2.shift ?_;have:((M1 st).toList.take sa++Z).length=sa+na+nb:=by rw [P3,lt,lZ];omega
   rw [aE (by omega),E7 (as:=(M1 st).toList.take sa++Z) (by omega),E2]
 ·rw [<-D3,<-D3,hpl];have:(C3 st).toList.length=((C3 st).toList.take i++(sa,na,pw)::(sa+na,nb,pw2)::(C3 st).toList.drop (i+2)).length:=congrArg Y1 e;rw [this];simp only [P3,R3];omega
 ·rw [ha];have c1:((M1 st).toList.take sa++Z).length=sa+na+nb:=by rw [P3,lt,lZ];omega
  have c2:sa+na+nb<=lo:=by omega
  rw [List.drop_append,E7 (as:=(M1 st).toList.take sa++Z) (by omega),E2,a9,c1]
  congr 1;omega
def Bt.run {Z:G0 D7}{n:G6}{s1 s2:C9}(b:Bt R κ l0 lo s1)(hlo:lo<=l0.length)(ar:ş s1 s2)(L:ß s2 ((M1 s1).toList.take lo) Z (((M1 s1).toList.drop lo).drop n))(p:Z.Perm (((M1 s1).toList.drop lo).take n))(sr:Ö R Z)(hn:n<=l0.length-lo):Bt R κ l0 lo s2/\Ö R (Ú (M1 s2).toList lo n):=by
 have ln:(M1 s1).toList.length=l0.length:=b.perm.length_eq;have lP:((M1 s1).toList.take lo).length=lo:=by rw [T5];omega
 have lZ:Z.length=n:=by rw [p.length_eq,T5,C0];omega
 have e:(M1 s2).toList=(M1 s1).toList.take lo++Z++((M1 s1).toList.drop lo).drop n:=L;refine⟨⟨ar.1.trans b.kind,ar.2.2.1.trans b.failed,?_,?_⟩,?_⟩
 ·rw [e];refine oA ?_ b.perm;have pp:=(p.append_left ((M1 s1).toList.take lo)).append_right (((M1 s1).toList.drop lo).drop n);rw [D5 _ (((M1 s1).toList.drop lo).take n),N5,N5] at pp;exact pp
 ·rw [ar.2.1];refine b.stk.same ?_;rw [e,D5,aF (by omega),T9 (l:=(M1 s1).toList.take lo) (by omega)]
 ·rw [e];unfold Ú;rw [D5,aE (by omega),E7 (by omega),E2,aF (by omega),T9 (by omega)];exact sr
def Bt.push {n:G6}{s:C9}(b:Bt R κ l0 lo s)(n1:1<=n)(g:Ö R (Ú (M1 s).toList lo n)):Bt R κ l0 (lo+n) (G0E s ((C3 s).push (lo,n,0))):=by
 refine⟨b.kind,b.failed,b.perm,?_⟩;show ģ R (M1 s).toList ((C3 s).push (lo,n,0)).toList 0 (lo+n);rw [V0];exact ģ.append.mpr ⟨lo,b.stk,rfl,n1,g,rfl⟩
def ģ.mod {f:G6×G6×G6->G6×G6×G6}(hf: ∀x,(f x).1=x.1/\(f x).2.1=x.2.1): ∀ {pl:G0 (G6×G6×G6)} {k s e:G6},ģ R l pl s e->ģ R l (pl.modify k f) s e
 | [],k,s,e,h=>by rw [List.modify_nil];exact h
 |(p,n,w)::rest,0,s,e,⟨a,b,c,d⟩=>by
  rw [List.modify_zero_cons];have e1:=(hf (p,n,w)).1;have e2:=(hf (p,n,w)).2;generalize f (p,n,w)=x at e1 e2;obtain⟨p',n',w'⟩:=x;dsimp only at e1 e2;subst e1 e2;exact⟨a,b,c,d⟩
 |(p,n,w)::rest,k+1,s,e,⟨a,b,c,d⟩=>by
  rw [List.modify_succ_cons];exact⟨a,b,c,d.mod hf⟩
def Bt.mod {k:G6}{s:C9}{f:G6×G6×G6->G6×G6×G6}(b:Bt R κ l0 lo s)(hf: ∀x,(f x).1=x.1/\(f x).2.1=x.2.1):Bt R κ l0 lo (G0E s ((C3 s).modify k f)):=by
 refine⟨b.kind,b.failed,b.perm,?_⟩;show ģ R (M1 s).toList ((C3 s).modify k f).toList 0 lo;rw [Array.toList_modify];exact b.stk.mod hf
def NE (c:N4)(x:G6):(if c=true then x-1 else x)<=x:=by cases c<;>simp
def FR {st:C9}{Q:Unit->C9->Prop}(ak:YF prog w A J κ U R)(o:Õ U R)(u: ∀x∈l0,U x)(kd:kindOf st=κ)(hf:bQ st=none)(hp:C3 st= #[])(hl:(M1 st).toList=l0)
 (q: ∀Å,bQ Å=none->(M1 Å).toList.Perm l0->Ö R (M1 Å).toList->Q () Å):Tm prog w A E J sortRuns' Q st:=by
 have b0:Bt R κ l0 0 st:=⟨kd,hf,by rw [hl],by rw [hp];rfl⟩;rw [sortRuns'_eq];refine .bind (.get ?_);dsimp only;rw [b0.size];generalize minRun' l0.length l0.length 0=mr;refine .bind (Tm.mono (Tm.range (λi c s1=>c.1=none/\c.2<=l0.length/\i<=c.2/\Bt R κ l0 c.2 s1) (Q:=λc s1=>c.1=none/\Bt R κ l0 l0.length s1) (N9 _) ⟨rfl,N9 _,N9 _,b0⟩ ?_ ?_) ?_)
 ·rintro i ⟨r,lo⟩ s1 hi ⟨hr,h1,h2,b⟩;dsimp only at hr h1 h2 b ⊢;subst hr
  by_cases z1:lo>=l0.length
  ·rw [R9 z1];have:lo=l0.length:=by omega
   subst this;exact .pure ⟨rfl,b⟩
  rw [S4 z1];have ln:(M1 s1).toList.length=l0.length:=b.perm.length_eq;have lP:((M1 s1).toList.take lo).length=lo:=by rw [T5];omega
  have lT:((M1 s1).toList.drop lo).length=l0.length-lo:=by rw [C0,ln]
  have uT: ∀x∈(M1 s1).toList.drop lo,U x:=λx hx=>u x (b.perm.mem_iff.mp (O4 hx))
  have ct:=λ{Q}=>NA (prog:=prog) (w:=w) (A:=A) (E:=E) (J:=J) (Q:=Q) (st:=s1) (P:=(M1 s1).toList.take lo) (T:=(M1 s1).toList.drop lo) ak b.kind o uT (by unfold ß;rw [J5,N5]) (by omega)
  rw [lP,lT] at ct;refine .bind (ct λn s2 Z n1 n2 ar L p sr=> ?_);dsimp only
  by_cases z2:n<mr
  ·rw [R9 z2];have bn:=λ{Q}=>Ey (prog:=prog) (w:=w) (A:=A) (E:=E) (J:=J) (Q:=Q) (st:=s2) (P:=(M1 s1).toList.take lo) (T:=(M1 s1).toList.drop lo) (n:=min (l0.length-lo) mr) ak (ar.1.trans b.kind) o uT L p sr n1 (by omega) (by omega)
   rw [lP] at bn;refine .bind (.rule (.bind (bn λs3 Z3 ar3 L3 p3 sr3=> ?_)));obtain⟨B,G⟩:=b.run h1 (ar.trans ar3) L3 p3 sr3 (by omega);have N1:1<=min (l0.length-lo) mr:=by omega
   rw [S4 (by decide)];refine .bind (.get ?_);split
   ·refine .bind (Tm.mono (Tm.range (λj c s4=>c.1=none/\Bt R κ l0 lo s4/\Ö R (Ú (M1 s4).toList lo (min (l0.length-lo) mr))) (Q:=λc s4=>c.1=none/\Bt R κ l0 lo s4/\Ö R (Ú (M1 s4).toList lo (min (l0.length-lo) mr))) (N9 _) ⟨rfl,B,G⟩ ?_ (λ_ _ h=>h)) ?_)
    ·rintro j ⟨r,c⟩ s4 hj ⟨hr,B4,G4⟩;dsimp only at hr ⊢;subst hr;refine .bind (.get ?_);split
     ·rename_i X08 heq;split
      ·exact .pure ⟨rfl,B4,G4⟩
      ·have two:(C3 s4).size>1:=lS λz=>by rw [S4 z] at heq;cases heq
       refine .bind (Bt.merge ak o u B4 h1 (by omega) λs5 B5 _ dr=> ?_);refine .pure ⟨rfl,B5,?_⟩;unfold Ú at G4 ⊢;rw [dr];exact G4
     ·exact .pure ⟨rfl,B4,G4⟩
    ·rintro ⟨r,c⟩ s4 ⟨hr,B4,G4⟩;dsimp only at hr ⊢;subst hr;dsimp only;refine .bind (.modify (.bind (.modify (.pure ⟨rfl,?_,?_,Bt.push (Bt.mod B4 λx=>⟨rfl,rfl⟩) N1 G4⟩))))
     ·dsimp only;omega
     ·dsimp only;omega
   ·refine .bind (.modify (.pure ⟨rfl,?_,?_,Bt.push B N1 G⟩))
    ·dsimp only;omega
    ·dsimp only;omega
  ·rw [S4 z2];obtain⟨B,G⟩:=b.run h1 ar L p sr n2;have N1:=n1;refine .bind (.get ?_);split
   ·refine .bind (Tm.mono (Tm.range (λj c s4=>c.1=none/\Bt R κ l0 lo s4/\Ö R (Ú (M1 s4).toList lo (n))) (Q:=λc s4=>c.1=none/\Bt R κ l0 lo s4/\Ö R (Ú (M1 s4).toList lo (n))) (N9 _) ⟨rfl,B,G⟩ ?_ (λ_ _ h=>h)) ?_)
    ·rintro j ⟨r,c⟩ s4 hj ⟨hr,B4,G4⟩;dsimp only at hr ⊢;subst hr;refine .bind (.get ?_);split
     ·rename_i X08 heq;split
      ·exact .pure ⟨rfl,B4,G4⟩
      ·have two:(C3 s4).size>1:=lS λz=>by rw [S4 z] at heq;cases heq
       refine .bind (Bt.merge ak o u B4 h1 (by omega) λs5 B5 _ dr=> ?_);refine .pure ⟨rfl,B5,?_⟩;unfold Ú at G4 ⊢;rw [dr];exact G4
     ·exact .pure ⟨rfl,B4,G4⟩
    ·rintro ⟨r,c⟩ s4 ⟨hr,B4,G4⟩;dsimp only at hr ⊢;subst hr;dsimp only;refine .bind (.modify (.bind (.modify (.pure ⟨rfl,?_,?_,Bt.push (Bt.mod B4 λx=>⟨rfl,rfl⟩) N1 G4⟩))))
     ·dsimp only;omega
     ·dsimp only;omega
   ·refine .bind (.modify (.pure ⟨rfl,?_,?_,Bt.push B N1 G⟩))
    ·dsimp only;omega
    ·dsimp only;omega
 ·rintro ⟨r,lo⟩ s1 ⟨hr,h1,h2,b⟩;dsimp only at hr h1 h2 b;have:lo=l0.length:=by omega
  subst this;exact⟨hr,b⟩
 ·rintro ⟨r,lo⟩ s1 ⟨hr,b⟩;dsimp only at hr ⊢;subst hr;dsimp only;have le0:=b.stk.le;have lp0:(C3 s1).toList.length=(C3 s1).size:=by simp
  refine .bind (Tm.mono (Tm.range (λj c s4=>c.1=none/\Bt R κ l0 l0.length s4/\(C3 s4).size+j<=l0.length) (Q:=λc s4=>c.1=none/\Bt R κ l0 l0.length s4/\(C3 s4).size<=1) (N9 _) ⟨rfl,b,by omega⟩ ?_ (λc s4 ⟨x,y,z⟩=>⟨x,y,by omega⟩)) ?_)
  ·rintro j ⟨r,c⟩ s4 hj ⟨hr,B4,z4⟩;dsimp only at hr ⊢;subst hr;refine .bind (.get ?_)
   by_cases c1:(C3 s4).size<=1
   ·rw [R9 c1];exact .pure ⟨rfl,B4,c1⟩
   rw [S4 c1];refine .bind (Bt.merge ak o u B4 (P6 _) (Q6 (o8 (NE _ _) 1) (by omega)) λs5 B5 z5 _=> ?_);exact .pure ⟨rfl,B5,by omega⟩
  ·rintro ⟨r,c⟩ s4 ⟨hr,B4,z4⟩;dsimp only at hr ⊢;subst hr;refine .pure (q s4 B4.failed B4.perm ?_);have stk:=B4.stk;have ln:(M1 s4).toList.length=l0.length:=B4.perm.length_eq;have lp:(C3 s4).toList.length=(C3 s4).size:=by simp
   generalize (C3 s4).toList=pl at stk lp
   match pl,stk,lp with
   | [],e,_=>
    have:l0.length=0:=e.symm;have:(M1 s4).toList= []:=b9.mp (by omega);rw [this];exact .nil
   | [(p,n,_)],⟨e1,_,sr,e2⟩,_=>
    subst e1;have en:n=l0.length:=by have:0+n=l0.length:=e2;omega
    unfold Ú at sr;rw [lB,T9 (by omega)] at sr;exact sr
   |_::_::_,_,h=>simp only [R3] at h;omega
end
section
variable {prog:T7}{w:C1}{A:N7}{E:G2->G5->Prop}{s:G5}{κ:SortKind}{U:D7->Prop}{R:D7->D7->N4}
def Oo (s:G5)(a:P2)(h':A7):Prop:= ∀b o,b≠a->s.heap.get? b=some o->h'.get? b=some o
def Only (s:G5)(h':A7):G5->Prop:=λs'=> ∃tk,s'= {s with heap:=h',toks:=tk}
def NF {M:qS}{α β:Type}{c:Prop}[Decidable c]{m m':Sem α}{F:α->Sem β}{Q:β->G5->Prop}(h:R5 M A ((if c then m else m') >>= F) Q E s):R5 M A (if c then m >>= F else m' >>= F) Q E s:=by
 by_cases z:c
 ·rw [R9 z] at h ⊢;exact h
 ·rw [S4 z] at h ⊢;exact h
def JL (vs:G0 G2):(vs.toArray.zip vs.toArray).toList=vs.map λv=>(v,v):=by
 rw [Array.toList_zip];show vs.zip vs=_
 induction vs with
 |nil=>rfl
 |cons v vs ih=>rw [bE,ih,T6]
def FS {R:G2×G2->G2×G2->N4}: ∀l:G0 G2,l.length<2->Ö R (l.map λv=>(v,v))
 | [],_=>mD
 | [_],_=>J8 _ _
def NG {a:P2}{vs:G0 G2}{n:G6}{P:Fin->G5->Prop}(ho:s.heap.get? a=some (nQ "list" vs.toArray n))(hz:vs.length<=sizeLine)
 (hk:2<=vs.length-> ∀h',Oo s a h'->R5 (S0 prog w) A (uS vs.toArray) (λk s'=>k=κ/\Only s h' s') (λ_ _=>False) {s with heap:=h'})(ak: ∀h',Oo s a h'->YF prog w A (Only s h') κ U R)(o:Õ U R)(u: ∀v∈vs,U (v,v))
 (q: ∀ (out:G0 G2) (c tk:G6) (h':A7),Oo s a h'->h'.get? a=some (nQ "list" out.toArray c)->out.Perm vs->(out.map λv=>(v,v)).Pairwise (λx y=>R y x=false)->P (.done (.ret .none)) {s with heap:=h',toks:=tk}):
 R5 (S0 prog w) A (Builtin.«list.sort» ⟨[.ref a],[]⟩) P E s:=by
 have alt:=D9 ho;have sv:vs.toArray.size=vs.length:=R4 ..;rw [list_sort_plain];refine wpAny_bind (listItems_at ho rfl ?_);obtain⟨c1,ho1⟩: ∃c,(s.heap.update a (aN λ_=>(#[]:S9 G2))).get? a=some (nQ "list" #[] c):=⟨_,tR ho λ_=> #[]⟩;refine wpAny_bind (xK ho rfl ?_ (by rw [sv];exact hz) (N9 _));refine wpAny_bind (G0a ho1 rfl ?_);refine wpAny_bind (uR ?_ hz);refine wpAny_bind (xL ?_ (N9 _));refine O8 ?_;have past:Oo s a (((s.heap.update a (aN λ_=>(#[]:S9 G2))).push {cls:= .type "tuple",data:= .seq vs.toArray.toList.toArray}).push {cls:= .type "list",data:= .seq ([]:G0 G2).toArray}):=λb x ne e=>by
  refine G9 _ (G9 _ ?_);rw [pW _ _ _ _ ne];exact e
 have ho3:=G9 ({cls:= .type "list",data:= .seq ([]:G0 G2).toArray}:Obj) (G9 ({cls:= .type "tuple",data:= .seq vs.toArray.toList.toArray}:Obj) ho1);revert past ho3;generalize ((s.heap.update a (aN λ_=>(#[]:S9 G2))).push ({cls:= .type "tuple",data:= .seq vs.toArray.toList.toArray}:Obj)).push ({cls:= .type "list",data:= .seq ([]:G0 G2).toArray}:Obj)=H3;intro past ho3;have kd:R5 (S0 prog w) A (if vs.toArray.size<2 then pure general' else uS vs.toArray) (λk s0=>(2<=vs.length->k=κ)/\Only s H3 s0) (λ_ _=>False) {s with heap:=H3}:=by
  by_cases c:vs.toArray.size<2
  ·rw [R9 c];exact P0 ⟨λz=>by omega,s.toks,rfl⟩
  ·rw [S4 c];exact M5 (hk (by omega) H3 past) (λk s0 x=>⟨λ_=>x.1,x.2⟩) λ_ _ e=>e
 have rn: ∀k s0,(2<=vs.length->k=κ)->Only s H3 s0->R5 (S0 prog w) A ((if vs.toArray.size<2 then pure () else sortRuns':aD C9 Sem Unit).run (SortSt.mk' k (vs.toArray.zip vs.toArray) #[] 7 none)) (λr s'=>(bQ r.2=none/\(M1 r.2).toList.Perm (vs.map λv=>(v,v))/\Ö R (M1 r.2).toList)/\Only s H3 s') E s0:=by
  intro k s0 ek j
  by_cases c:vs.toArray.size<2
  ·rw [R9 c,StateT.run_pure];refine P0 ⟨⟨rfl,?_,?_⟩,j⟩
   ·show (vs.toArray.zip vs.toArray).toList.Perm _;rw [JL]
   ·show Ö R (vs.toArray.zip vs.toArray).toList;rw [JL];rw [sv] at c;exact FS vs c
  ·rw [S4 c];have ek:=ek (by omega);subst ek;refine FR (E:=E) (ak H3 past) o (l0:=vs.map λv=>(v,v)) (st:=SortSt.mk' k (vs.toArray.zip vs.toArray) #[] 7 none) (λx hx=> ?_) rfl rfl rfl (JL vs) (Q:=λ_ Å=>bQ Å=none/\(M1 Å).toList.Perm (vs.map λv=>(v,v))/\Ö R (M1 Å).toList) (λÅ a1 a2 a3=>⟨a1,a2,a3⟩) s0 j;obtain⟨v,hv,rfl⟩:=R6.mp hx;exact u v hv
 dsimp only;refine NF (wpAny_bind (M5 kd (λk s0 x=> ?_) λ_ _ e=>e.elim));refine wpAny_bind (M5 (rn k s0 x.1 x.2) ?_ λ_ _ e=>e);rintro ⟨⟨⟩,Å⟩ s1 ⟨⟨hf,hp,hs⟩,tk,rfl⟩;dsimp only;have eo:((M1 Å).map λx=>x.2)=((M1 Å).toList.map λx=>x.2).toArray:=by
  rw [<-sO,o9]
 have two:(M1 Å).toList=((M1 Å).toList.map λx=>x.2).map λv=>(v,v):=by
  rw [N8];refine(sZ _).symm.trans (C7 λx hx=> ?_);obtain⟨v,_,rfl⟩:=R6.mp (hp.mem_iff.mp hx);rfl
 have po:((M1 Å).toList.map λx=>x.2).Perm vs:=by
  have:=hp.map λx=>x.2
  rw [N8] at this;refine this.trans ?_;rw [show ((λx:D7=>x.2)∘λv:G2=>(v,v))=id from rfl,sZ]
 rw [two] at hs;rw [eo];generalize (M1 Å).toList.map (λx=>x.2)=out at hs po;obtain⟨c2,ho4⟩: ∃c,(H3.update a (aN λ_=>out.toArray)).get? a=some (nQ "list" out.toArray c):=⟨_,tR ho3 λ_=>out.toArray⟩;refine wpAny_bind (G0a (s:= {s with heap:=H3,toks:=tk}) ho3 rfl ?_);refine wpAny_bind (xK (s:= {s with heap:=H3,toks:=tk}) ho3 rfl ?_ (N9 _) (by rw [R4,po.length_eq];exact rQ hz));rw [hf];simp only [bne_self_eq_false,F7,oU];refine P0 (q out c2 tk _ (λb x ne e=> ?_) ho4 po hs);rw [pW _ _ _ _ ne];exact past b x ne e
abbrev VZ (h h':A7):Prop:= ∀b o,h.get? b=some o->h'.get? b=some o
end
theorem JM: ∀a b:G0 P1,zw a b=true->zw b a=false
 | [],[],h=>rfl
 | [],_::_,_=>rfl
 |_::_,[],h=>by cases h
 |x::xs,y::ys,h=>by
  unfold zw at h ⊢
  by_cases e:x=y
  ·subst e;rw [R9 rfl] at h ⊢;exact JM xs ys h
  ·rw [S4 e] at h;rw [S4 (I0 e)];have:=F9 h;exact T3 (by omega)
theorem Ua: ∀a b c:G0 P1,zw a c=true->zw a b=true\/zw b c=true
 | [],[],c,h=> .inr h
 | [],_::_,_,_=> .inl rfl
 |_::_,_,[],h=>by cases h
 |x::xs,[],z::zs,h=> .inr rfl
 |x::xs,y::ys,z::zs,h=>by
  unfold zw at h ⊢
  by_cases e:x=z
  ·subst e;rw [R9 rfl] at h
   by_cases f:x=y
   ·subst f;rw [R9 rfl,R9 rfl];exact Ua xs ys zs h
   ·rw [S4 f,S4 (I0 f)]
    by_cases g:x<y
    ·exact .inl (S1 g)
    ·exact .inr (S1 (by omega))
  ·rw [S4 e] at h;have lt:=F9 h
   by_cases f:x=y
   ·subst f;rw [S4 e];exact .inr h
   ·rw [S4 f]
    by_cases g:x<y
    ·exact .inl (S1 g)
    ·refine .inr ?_;rw [S4 (by omega)];exact S1 (by omega)
theorem ZX: ∀a b:G0 P1,zw a b=false->zw b a=false->a=b
 | [],[],_,_=>rfl
 | [],_::_,h,_=>by cases h
 |_::_,[],_,h=>by cases h
 |x::xs,y::ys,h,h'=>by
  unfold zw at h h'
  by_cases e:x=y
  ·subst e;rw [R9 rfl] at h h';rw [ZX xs ys h h']
  ·rw [S4 e] at h;rw [S4 (I0 e)] at h';have:=lF h;have:=lF h';omega
end HT
namespace L2
open PySem PySem.Spec PyProof.Rows PySem.SeqAt HT
theorem Ub {α β:Type}{f:α->β}: ∀ {out:G0 β} {l:G0 α},out.Perm (l.map f)-> ∃l':G0 α,l'.Perm l/\l'.map f=out
 | [],l,p=>by
  have e:=p.length_eq;rw [G3,O1] at e;exact⟨[],by rw [K4 e.symm],rfl⟩
 |x::out,l,p=>by
  obtain⟨y,hy,rfl⟩:=R6.mp (p.mem_iff.mp P4);obtain⟨l1,l2,rfl⟩:=List.append_of_mem hy;have p2:out.Perm ((l1++l2).map f):=by
   refine G0F (a:=f y) (p.trans ?_);rw [T4,T4,T6];exact mX
  obtain⟨l',a,b⟩:=Ub p2;exact⟨y::l',(a.cons y).trans mX.symm,by rw [T6,b]⟩
noncomputable abbrev tI (ns:G0 P1):D:= .tup (ns.map D.int)
noncomputable abbrev toI (S:G0 G6):G0 P1:=S.map λ(k:G6)=>(k:P1)
noncomputable def leS (a b:G0 G6):N4:= !HT.zw (toI b) (toI a)
noncomputable def Ez (l:G0 (G0 G6)):G0 (G0 G6):=l.mergeSort leS
def Gz (l:G0 (G0 G6)):(Ez l).Perm l:=List.mergeSort_perm _ _
end L2
namespace L2
open PySem PySem.Spec PyProof.Rows PySem.SeqAt
def uf {α:Type}(xs:G0 α)(a:G6)(h:a<=xs.length):VH xs (some (a:P1)) none=xs.drop a:=by
 have e: ¬((a:P1)<0):=by omega
 unfold VH HT.sIx;simp [e,U0 h];exact T9 (by simp)
def YG {h h':HD}{a:P2}(sb:Sub h h')(e:h' a=none):h a=none:=by
 cases z:h a with
 |none=>rfl
 |some ds=>rw [sb a ds z] at e;cases e
def Sub.over {h h':HD}{a:P2}{ds:G0 D}(sb:Sub h h')(e:h a=none):Sub h (zK h' a ds):=⟨λb xs k=>jf (λz=>by subst z;rw [e] at k;cases k) (sb b xs k),sb.dc⟩
noncomputable def wk (T:G0 (G0 P1)):G6->G6->G6->N4
 |0,i,j=>decide (i=j)|| !decide (Ð T i j=0)
 |b+1,i,j=>wk T b i j||(wk T b i b&&wk T b b j)
theorem Xj (T:G0 (G0 P1)): ∀b i,wk T b i i=true
 |0,i=>by unfold wk;rw [S1 rfl];rfl
 |b+1,i=>by unfold wk;rw [Xj T b i];rfl
def EA (T:G0 (G0 P1))(b i:G6):wk T (b+1) i b=wk T b i b:=by
 show (wk T b i b||(wk T b i b&&wk T b b b))=_;cases wk T b i b<;>rfl
def EB (T:G0 (G0 P1))(b j:G6):wk T (b+1) b j=wk T b b j:=by
 show (wk T b b j||(wk T b b b&&wk T b b j))=_;cases wk T b b j<;>cases wk T b b b<;>rfl
variable {T:G0 (G0 P1)}
def ĕ {b i j:G6}:wk T (b+1) i j=true↔wk T b i j=true\/(wk T b i b=true/\wk T b b j=true):=by
 show (wk T b i j||(wk T b i b&&wk T b b j))=true↔_;rw [Y3,F4]
theorem wT: ∀ {b i k j:G6},k<b->wk T b i k=true->wk T b k j=true->wk T b i j=true
 |b+1,i,k,j,hk,x,y=>by
  by_cases e:k=b
  ·subst e;rw [EA] at x;rw [EB] at y;exact ĕ.mpr (.inr ⟨x,y⟩)
  ·have lt:k<b:=by omega
   rcases ĕ.mp x with x|⟨x1,x2⟩
   ·rcases ĕ.mp y with y|⟨y1,y2⟩
    ·exact ĕ.mpr (.inl (wT lt x y))
    ·exact ĕ.mpr (.inr ⟨wT lt x y1,y2⟩)
   ·rcases ĕ.mp y with y|⟨y1,y2⟩
    ·exact ĕ.mpr (.inr ⟨x1,wT lt x2 y⟩)
    ·exact ĕ.mpr (.inr ⟨x1,y2⟩)
theorem ZC {P:G6->G6->Prop}(r: ∀i,P i i)(a: ∀i j,Ð T i j≠0->P i j)(t: ∀i k j,P i k->P k j->P i j): ∀ {b i j:G6},wk T b i j=true->P i j
 |0,i,j,h=>by
  have h:(decide (i=j)|| !decide (Ð T i j=0))=true:=h;rw [Y3] at h;rcases h with h|h
  ·rw [F9 h];exact r j
  ·exact a i j λz=>by rw [S1 z] at h;cases h
 |b+1,i,j,h=>by
  rcases ĕ.mp h with h|⟨h1,h2⟩
  ·exact ZC r a t h
  ·exact t _ _ _ (ZC r a t h1) (ZC r a t h2)
def FT {n e:G6}(h:Sq n e T)(i j:G6)(z:Ð T i j≠0):j<n:=by
 by_cases hj:j<n
 ·exact hj
 ·exfalso;apply z;unfold Ð
  by_cases hi:i<T.length
  ·have hr:=h.row (T.getD i []) (by rw [D2,G1 hi];exact N0 hi);rw [D2,L0 (by rw [hr];omega)];rfl
  ·rw [D2 (l:=T),L0 (by omega)];rfl
noncomputable def fW (T:G0 (G0 P1))(b i j x y:G6):N4:=if x<i\/(x=i/\y<j) then wk T (b+1) x y else wk T b x y
noncomputable def KA (g:G6->G6->N4)(w:G0 G6)(j:G6):N4:=g (w.getLastD 0) j&&(decide (w.headD 0<j)&& !decide (j∈w))
noncomputable def ug (g:G6->G6->N4)(n:G6)(w:G0 G6):G0 (G0 G6):=((P5 n).filter (KA g w)).map λj=>w++ [j]
noncomputable def lev (g:G6->G6->N4)(n:G6):G6->G0 (G0 G6)
 |0=>(P5 n).map λi=> [i]
 |t+1=>(lev g n t).flatMap (ug g n)
noncomputable def Hj (g:G6->G6->N4)(n:G6):G6->G0 (G0 G6)
 |0=> []
 |t+1=>Hj g n t++(lev g n t).filter λw=>g (w.getLastD 0) (w.headD 0)
noncomputable def KB (T:G0 (G0 P1))(i j:G6):N4:=decide (Ð T i j>0)
noncomputable def Qr (T:G0 (G0 P1))(n:G6):G0 (G0 G6):=Ez (Hj (KB T) n n)
def Ő {w:G0 G6}{t:G6}(h:w.length=t+1):ć (w.map λ(k:G6)=>D.int (k:P1)) (-1)=some (.int ((w.getLastD 0:G6):P1)):=by
 refine Nr (by rw [G3];omega) ?_;rw [G3,P9,dU,dW,G1 (by omega)];rfl
end L2
namespace HT
open PySem PySem.Spec PyProof.Rows PySem.SeqAt
open PySem.AutoSeq1 (wpAny_loadPart')
open PySem.MeetsSeq PySem.MeetsSeq2 PySem.MeetsSeq3
inductive Lx (prog:T7)(w:C1)(A:N7)(s:G5):G0 G2->G0 G2->N4->Prop
 |nn:Lx prog w A s [] [] false
 |nc (u:G2) (us:G0 G2):Lx prog w A s [] (u::us) true
 |cn (v:G2) (vs:G0 G2):Lx prog w A s (v::vs) [] false
 |same {v u:G2} {vs us:G0 G2} {b:N4} (e:EqAt A s v u true) (t:Lx prog w A s vs us b):Lx prog w A s (v::vs) (u::us) b
 |unlike {v u:G2} {vs us:G0 G2} {b:N4} (e:EqAt A s v u false) (t: ∀ (Q E:G2->G5->Prop),Q (.bool b) s->R5 (S0 prog w) A (pA .Lt v u) Q E s):Lx prog w A s (v::vs) (u::us) b
def Lx.short {prog:T7}{w:C1}{A:N7}{s:G5}{vs us:G0 G2}{b:N4}{m n:G6}(t:Lx prog w A s vs us b)(z:vs.zip us= [])(l:vs.length+n=us.length+m):b=decide (m<n):=by
 cases t with
 |nn=>rw [O1] at l;exact(T3 (by omega)).symm
 |nc u us=>rw [O1,R3] at l;exact(S1 (by omega)).symm
 |cn v vs=>rw [O1,R3] at l;exact(T3 (by omega)).symm
 |same e t=>rw [bE] at z;cases z
 |unlike e t=>rw [bE] at z;cases z
def Uc (l b:P2)(items Í:S9 G2)(n n2:G6)(dd Ź:D4 P2)(sl ź:S9 (D4 G2))(r:N4):
 Meets (Builtin.«tuple.__lt__» ⟨[.ref l,.ref b],[]⟩)
  (λA R s=>s.heap.get? l=some {cls:= .type "tuple",dict:=dd,data:= .seq items n,slots:=sl}/\s.heap.get? b=some {cls:= .type "tuple",dict:=Ź,data:= .seq Í n2,slots:=ź}/\
   (∀prog w,Lx prog w A.in1 s items.toList Í.toList r)/\R (.ok (.ret (.bool r))) s):=
 .of_wp λprog w A R s h=>by
  obtain⟨hp,g,d,tk,os⟩:=s;obtain⟨hl,hb,ht,h⟩:=h;have f2:=AutoSeq1.sub_tuple_tuple
  wp_walk using C8 hl,C8 hb,wpAny_forIn_list _ (λrest b s'=>b.1=none/\s'=⟨hp,g,d,tk,os⟩/\ ∃ (vs us:G0 G2),rest=vs.zip us/\Lx prog w A.in1 ⟨hp,g,d,tk,os⟩ vs us r/\vs.length+Í.size=us.length+items.size) _
  case turn=>
   rintro ⟨y,x⟩ rest b s' ⟨hb',rfl,vs,us,hz,t,hlen⟩;cases t with
   |nn=>cases hz
   |nc u us=>cases hz
   |cn v vs=>cases hz
   |same e t=>
    rw [bE] at hz;injection hz with hyx X0B
    injection hyx with hy hx
    subst hy hx;simp only [R3] at hlen;refine wpAny_bind (e prog w _ _ ?_)
    wp_walk
    exact⟨rfl,rfl,_,_,X0B,t,by omega⟩
   |unlike e t=>
    rw [bE] at hz;injection hz with hyx X0B
    injection hyx with hy hx
    subst hy hx;refine wpAny_bind (e prog w _ _ ?_);have hri:=λ{Q E:G2->G5->Prop}=>t Q E
    wp_walk using hri
    exact⟨_,rfl,by simpa using h⟩
  case fin=>
   rintro ⟨b1,b2⟩ s' ⟨hb',rfl,vs,us,hz,t,hlen⟩;simp only at hb';subst hb';have hv:=t.short hz.symm hlen;rw [hv] at h
   wp_walk
   exact⟨_,rfl,by simpa [sB] using h⟩
  case h=>
   exact⟨rfl,rfl,items.toList,Í.toList,rfl,ht prog w,by rw [D3,D3];omega⟩
def ZY {α:Type}{p vs:G0 α}{x:α}{items:S9 α}(e:items.toList=p++x::vs){i:G6}(l:p.length=i):items[((i:G6):P1).toNat]? =some x:=by
 rw [W7,<-M8,e,<-l];simp
def Ő {α:Type}{p:G0 α}{items:S9 α}(e:items.toList=p){i:G6}(l:p.length=i):items[((i:G6):P1).toNat]? =none:=by
 rw [W7,<-M8,e,<-l];simp
section
variable {prog:T7}{w:C1}{A:N7}{R:qE->G5->Prop}{s:G5}{l b:P2}{items Í:S9 G2}{n n2:G6}{dd Ź:D4 P2}{sl ź:S9 (D4 G2)}{r:N4}
def YH (hl:s.heap.get? l=some {cls:= .type "list",dict:=dd,data:= .seq items n,slots:=sl})(hb:s.heap.get? b=some {cls:= .type "list",dict:=Ź,data:= .seq Í n2,slots:=ź})(h:R (.ok (.ret (.bool r))) s):
 ∀ {vs us:G0 G2},Lx prog w A.in1 s vs us r-> ∀ (i:G6) (p q:G0 G2),items.toList=p++vs->Í.toList=q++us->p.length=i->q.length=i->
  R5 (S0 prog w) A.in1 (Builtin.«list.__eq__.loop» ⟨[.ref l,.ref b,Q0 i,Q0 0],[]⟩) (λfin s'=>match fin with| .done f=>R (.ok f) s'| .again c'=>c'.quiet=true/\bJ (S0 prog w) A c' R s') (λe s'=>R (.error e) s') s:=by
 intro vs us t;obtain⟨hp,g,d,tk,os⟩:=s
 induction t with
 |nn=>
  intro i p q e1 e2 l1 l2;rw [J5] at e1 e2;have z1:items.size=i:=by rw [<-D3,e1];exact l1
  have z2:Í.size=i:=by rw [<-D3,e2];exact l2
  wp_walk using C8 hl,C8 hb
  rw [Ő e1 l1]
  wp_walk using C8 hl,C8 hb
  show R (.ok (.ret (.bool (decide (items.size<Í.size))))) _;rw [z1,z2,show decide (i<i)=false from T3 (B8 _)];exact h
 |nc u us=>
  intro i p q e1 e2 l1 l2;rw [J5] at e1;have z1:items.size=i:=by rw [<-D3,e1];exact l1
  have z2:i<Í.size:=by rw [<-D3,e2,P3,l2,R3];omega
  wp_walk using C8 hl,C8 hb
  rw [Ő e1 l1]
  wp_walk using C8 hl,C8 hb
  show R (.ok (.ret (.bool (decide (items.size<Í.size))))) _;rw [z1,show decide (i<Í.size)=true from S1 z2];exact h
 |cn v vs=>
  intro i p q e1 e2 l1 l2;rw [J5] at e2;have z1:i<items.size:=by rw [<-D3,e1,P3,l1,R3];omega
  have z2:Í.size=i:=by rw [<-D3,e2];exact l2
  wp_walk using C8 hl,C8 hb
  rw [ZY e1 l1,Ő e2 l2]
  wp_walk using C8 hl,C8 hb
  show R (.ok (.ret (.bool (decide (items.size<Í.size))))) _;rw [z2,show decide (items.size<i)=false from T3 (by omega)];exact h
 | @same v u vs us b0 e t ih=>
  intro i p q e1 e2 l1 l2
  wp_walk using C8 hl,C8 hb
  rw [ZY e1 l1,ZY e2 l2];refine wpAny_bind (e prog w _ _ ?_)
  wp_walk
  rw [show ((i:P1)+1)=((i+1:G6):P1) by omega];exact⟨iK plain_eq_loop _,aQ entry_eq_loop (by
   rw [aC plain_eq_loop _];exact ih h (i+1) (p++ [v]) (q++ [u]) (by rw [e1,D5];rfl) (by rw [e2,D5];rfl) (by rw [P3,l1];rfl) (by rw [P3,l2];rfl))⟩
 | @unlike v u vs us b0 e t=>
  intro i p q e1 e2 l1 l2
  wp_walk using C8 hl,C8 hb
  rw [ZY e1 l1,ZY e2 l2];refine wpAny_bind (e prog w _ _ ?_);have hri:=λ{Q E:G2->G5->Prop}=>t Q E
  wp_walk using C8 hl,C8 hb
  rw [ZY e1 l1,ZY e2 l2]
  wp_walk using hri
  exact h
end
def Xk (l b:P2)(items Í:S9 G2)(n n2:G6)(dd Ź:D4 P2)(sl ź:S9 (D4 G2))(r:N4):
 Meets (Builtin.«list.__lt__» ⟨[.ref l,.ref b],[]⟩)
  (λA R s=>s.heap.get? l=some {cls:= .type "list",dict:=dd,data:= .seq items n,slots:=sl}/\s.heap.get? b=some {cls:= .type "list",dict:=Ź,data:= .seq Í n2,slots:=ź}/\
   (∀prog w,Lx prog w A.in1 s items.toList Í.toList r)/\R (.ok (.ret (.bool r))) s):=by
 intro prog w A R s h;obtain⟨hl,hb,ht,h⟩:=h;have f3:=AutoSeq1.sub_list_list;have fin:=YH (prog:=prog) (w:=w) (A:=A) hl hb h (ht prog w) 0 [] [] rfl rfl rfl rfl;obtain⟨hp,g,d,tk,os⟩:=s
 wp_walk using C8 hl,C8 hb
 exact⟨iK plain_eq_loop _,aQ entry_eq_loop (by
  rw [aC plain_eq_loop _];exact fin)⟩
end HT
namespace HT
open PySem PySem.Spec PyProof.Rows PySem.SeqAt
mutual
/-- may they be compared? -/
def alk:V8->V8->N4
 | .int _,.int _=>true
 | .tuple xs,.tuple ys=>alks xs ys
 | .list xs,.list ys=>alks xs ys
 |_,_=>false
def alks:G0 V8->G0 V8->N4
 |x::xs,y::ys=>alk x y&&alks xs ys
 |_,_=>true
end
mutual
def ltP:V8->V8->N4
 | .int i,.int j=>decide (i<j)
 | .tuple xs,.tuple ys=>ltPs xs ys
 | .list xs,.list ys=>ltPs xs ys
 |_,_=>false
def ltPs:G0 V8->G0 V8->N4
 | [],[]=>false
 | [],_::_=>true
 |_::_,[]=>false
 |x::xs,y::ys=>if K5 x y=true then ltPs xs ys else ltP x y
end
def FU {prog:T7}{w:C1}{A:N7}{E:G2->G5->Prop}{s:G5}{l b:P2}{o o2:Obj}{items Í:S9 G2}{n n2:G6}{r:N4}{Q:G2->G5->Prop}(e1:s.heap.get? l=some o)(c1:o.cls= .type "tuple")(d1:o.data= .seq items n)(e2:s.heap.get? b=some o2)(c2:o2.cls= .type "tuple")(d2:o2.data= .seq Í n2)
 (t: ∀prog w,Lx prog w A.in1 s items.toList Í.toList r)(hu:A.units<cLine)(q:Q (.bool r) s):R5 (S0 prog w) A (pA .Lt (.ref l) (.ref b)) Q E s:=by
 obtain⟨cls,dd,data,sl⟩:=o;obtain⟨X0S,Ź,G1a,ź⟩:=o2;simp only at c1 d1 c2 d2;subst c1 d1 c2 d2;have g:=Uc l b items Í n n2 dd Ź sl ź r;refine nU (op:= .Lt) ⟨_,e1,rfl⟩ ⟨_,e2,rfl⟩ IC y6 (x3 _ _) g ?_ hu;refine⟨e1,e2,t,?_⟩;exact And.intro (by intro x;cases x) q
def NH {prog:T7}{w:C1}{A:N7}{E:G2->G5->Prop}{s:G5}{l b:P2}{o o2:Obj}{items Í:S9 G2}{n n2:G6}{r:N4}{Q:G2->G5->Prop}(e1:s.heap.get? l=some o)(c1:o.cls= .type "list")(d1:o.data= .seq items n)(e2:s.heap.get? b=some o2)(c2:o2.cls= .type "list")(d2:o2.data= .seq Í n2)
 (t: ∀prog w,Lx prog w A.in1 s items.toList Í.toList r)(hu:A.units<cLine)(q:Q (.bool r) s):R5 (S0 prog w) A (pA .Lt (.ref l) (.ref b)) Q E s:=by
 obtain⟨cls,dd,data,sl⟩:=o;obtain⟨X0S,Ź,G1a,ź⟩:=o2;simp only at c1 d1 c2 d2;subst c1 d1 c2 d2;have g:=Xk l b items Í n n2 dd Ź sl ź r;refine nU (op:= .Lt) ⟨_,e1,rfl⟩ ⟨_,e2,rfl⟩ G0b IE (y8 _ _) g ?_ hu;refine⟨e1,e2,t,?_⟩;exact And.intro (by intro x;cases x) q
mutual
theorem Qs: ∀ (p q:V8) (A:N7) (s:G5) (v u:G2) (as bs:G0 P2),Reads s.heap v p as->Reads s.heap u q bs->p.canLay0=true->q.canLay0=true->alk p q=true->A.units+p.depth<cLine->
 ∀ (prog:T7) (w:C1) (Q E:G2->G5->Prop),Q (.bool (ltP p q)) s->R5 (S0 prog w) A (pA .Lt v u) Q E s
 | .int i,q,A,s,v,u,as,bs,rp,rq,c1,c2,al,hu,prog,w,Q,E,h=>by
  cases q with
  |int j=>
   cases rp;cases rq;exact(G0k h:R5 (S0 prog w) A (B9 .Lt (.int i _) (.int j _)) Q E s)
  |none=>cases al
  |bool _=>cases al
  |str _=>cases al
  |list _=>cases al
  |tuple _=>cases al
  |dict _=>cases al
 | .tuple xs,q,A,s,v,u,as,bs,rp,rq,c1,c2,al,hu,prog,w,Q,E,h=>by
  cases q with
  |tuple ys=>
   cases rp with
   |tuple e1 k1 d1 r1=>
    cases rq with
    |tuple e2 k2 d2 r2=>
     have c1':F8 xs=true:=by simpa only [A5] using c1
     have c2':F8 ys=true:=by simpa only [A5] using c2
     have du:A.units+(L7 xs+1)<cLine:=by simpa only [U4] using hu
     exact FU e1 k1 d1 e2 k2 d2 (λprog w=>ĳ xs ys A.in1 s _ _ _ _ r1 r2 c1' c2' al (by show A.units+1+_<_;omega) prog w) (by omega) h
  |none=>cases al
  |bool _=>cases al
  |str _=>cases al
  |list _=>cases al
  |int _=>cases al
  |dict _=>cases al
 | .none,q,A,s,v,u,as,bs,rp,rq,c1,c2,al,hu,prog,w,Q,E,h=>by cases al
 | .bool _,q,A,s,v,u,as,bs,rp,rq,c1,c2,al,hu,prog,w,Q,E,h=>by cases al
 | .str _,q,A,s,v,u,as,bs,rp,rq,c1,c2,al,hu,prog,w,Q,E,h=>by cases al
 | .list xs,q,A,s,v,u,as,bs,rp,rq,c1,c2,al,hu,prog,w,Q,E,h=>by
  cases q with
  |list ys=>
   cases rp with
   |list e1 k1 d1 r1=>
    cases rq with
    |list e2 k2 d2 r2=>
     have c1':F8 xs=true:=by simpa only [A5] using c1
     have c2':F8 ys=true:=by simpa only [A5] using c2
     have du:A.units+(L7 xs+1)<cLine:=by simpa only [U4] using hu
     exact NH e1 k1 d1 e2 k2 d2 (λprog w=>ĳ xs ys A.in1 s _ _ _ _ r1 r2 c1' c2' al (by show A.units+1+_<_;omega) prog w) (by omega) h
  |none=>cases al
  |bool _=>cases al
  |str _=>cases al
  |tuple _=>cases al
  |int _=>cases al
  |dict _=>cases al
 | .dict _,q,A,s,v,u,as,bs,rp,rq,c1,c2,al,hu,prog,w,Q,E,h=>by cases al
theorem ĳ: ∀ (xs ys:G0 V8) (A:N7) (s:G5) (vs us:G0 G2) (as bs:G0 P2),ReadsAll s.heap vs xs as->ReadsAll s.heap us ys bs->F8 xs=true->F8 ys=true->alks xs ys=true->A.units+L7 xs<cLine->
 ∀ (prog:T7) (w:C1),Lx prog w A s vs us (ltPs xs ys)
 | [],[],A,s,vs,us,as,bs,ra,rb,_,_,_,_,prog,w=>by
  cases ra;cases rb;exact .nn
 | [],y::ys,A,s,vs,us,as,bs,ra,rb,_,_,_,_,prog,w=>by
  cases ra;cases rb with
  |cons r rs=>exact .nc _ _
 |x::xs,[],A,s,vs,us,as,bs,ra,rb,_,_,_,_,prog,w=>by
  cases rb;cases ra with
  |cons r rs=>exact .cn _ _
 |x::xs,y::ys,A,s,vs,us,as,bs,ra,rb,c1,c2,al,hu,prog,w=>by
  cases ra with
  |cons r rs=>
   cases rb with
   |cons r' rs'=>
    have d1:x.canLay0=true/\F8 xs=true:=by simpa [F8] using c1
    have d2:y.canLay0=true/\F8 ys=true:=by simpa [F8] using c2
    have al':alk x y=true/\alks xs ys=true:=by simpa [alks] using al
    have dx:A.units+x.depth<cLine/\A.units+L7 xs<cLine:=by simp only [L7] at hu;omega
    have eq:=eqAt_reads x y A s _ _ _ _ r r' d1.1 d2.1 (by have:=tS x.depth y.depth;omega);unfold ltPs;cases e:K5 x y with
    |true=>
     rw [e] at eq;rw [R9 rfl];exact .same eq (ĳ xs ys A s _ _ _ _ rs rs' d1.2 d2.2 al'.2 dx.2 prog w)
    |false=>
     rw [e] at eq;rw [S4 D6];exact .unlike eq λQ E q=>Qs x y A s _ _ _ _ r r' d1.1 d2.1 al'.1 dx.1 prog w Q E q
end
end HT
namespace L2
open PySem PySem.Spec PyProof.Rows PySem.SeqAt HT
open Classical in
noncomputable def readOf (h:A7)(v:G2):V8:=if e: ∃p as,p.canLay0=true/\Reads h v p as then e.choose else .none
end L2
namespace L2
open PySem PySem.Spec PyProof.Rows PySem.SeqAt
noncomputable def zt:G0 (G0 P1)->G0 (G0 P1)->N4
 | [],[]=>false
 | [],_::_=>true
 |_::_,[]=>false
 |a::A,b::B=>if a=b then zt A B else HT.zw a b
theorem BL: ∀A:G0 (G0 P1),zt A A=false
 | []=>rfl
 |a::A=>by show (if a=a then zt A A else _)=false;rw [R9 rfl];exact BL A
def NI {a b c:G0 P1}(x:HT.zw a b=true)(y:HT.zw b c=true):HT.zw a c=true:=by
 rcases HT.Ua a c b x with z|z
 ·exact z
 ·rw [HT.JM _ _ y] at z;cases z
theorem YI: ∀ {A B C:G0 (G0 P1)},zt A B=true->zt B C=true->zt A C=true
 | [],[],_,x,_=>by cases x
 | [],_::_,[],_,y=>by cases y
 | [],_::_,_::_,_,_=>rfl
 |_::_,[],_,x,_=>by cases x
 |_::_,_::_,[],_,y=>by cases y
 |a::A,b::B,c::C,x,y=>by
  change (if a=b then zt A B else HT.zw a b)=true at x
  change (if b=c then zt B C else HT.zw b c)=true at y
  show (if a=c then zt A C else HT.zw a c)=true
  by_cases e1:a=b
  ·subst e1;rw [R9 rfl] at x
   by_cases e2:a=c
   ·rw [R9 e2] at y ⊢;exact YI x y
   ·rw [S4 e2] at y ⊢;exact y
  ·rw [S4 e1] at x
   by_cases e2:b=c
   ·subst e2;rw [S4 e1];exact x
   ·rw [S4 e2] at y;have z:=NI x y;have ne:a≠c:=λw=>by subst w;rw [HT.JM _ _ x] at y;cases y
    rw [S4 ne];exact z
theorem YJ: ∀A B:G0 (G0 P1),A=B\/zt A B=true\/zt B A=true
 | [],[]=> .inl rfl
 | [],_::_=> .inr (.inl rfl)
 |_::_,[]=> .inr (.inr rfl)
 |a::A,b::B=>by
  show _\/(if a=b then zt A B else HT.zw a b)=true\/(if b=a then zt B A else HT.zw b a)=true
  by_cases e:a=b
  ·subst e;rw [R9 rfl,R9 rfl];rcases YJ A B with z|z|z
   ·exact .inl (by rw [z])
   ·exact .inr (.inl z)
   ·exact .inr (.inr z)
  ·rw [S4 e,S4 (I0 e)];cases x:HT.zw a b with
   |true=>exact .inr (.inl rfl)
   |false=>
    cases y:HT.zw b a with
    |true=>exact .inr (.inr rfl)
    |false=>exact absurd (HT.ZX _ _ x y) e
def DP {A B:G0 (G0 P1)}(x:zt A B=true):zt B A=false:=by
 cases y:zt B A with
 |false=>rfl
 |true=>have:=YI x y;rw [BL] at this;cases this
theorem Qt: ∀a b:G0 P1,HT.ltPs (a.map .int) (b.map .int)=HT.zw a b
 | [],[]=>rfl
 | [],_::_=>rfl
 |_::_,[]=>rfl
 |x::a,y::b=>by
  show (if (x==y)=true then HT.ltPs (a.map .int) (b.map .int) else decide (x<y))=if x=y then HT.zw a b else decide (x<y)
  rw [Qt a b]
  by_cases c:x=y
  ·rw [R9 c,R9 (by simpa using c)]
  ·rw [S4 c,S4 (by simpa using c)]
theorem Qu: ∀a b:G0 P1,HT.alks (a.map .int) (b.map .int)=true
 | [],_=>by unfold HT.alks;rfl
 |_::_,[]=>rfl
 |x::a,y::b=>by
  show (true&&HT.alks (a.map .int) (b.map .int))=true;rw [Qu a b];rfl
end L2
namespace L2
open PySem PySem.Spec PyProof.Rows
noncomputable def s5:G6->G6
 |0=>0
 |d+1=>5*s5 d+1
theorem DQ: ∀d,4*s5 d+1=5^d
 |0=>rfl
 |d+1=>by have:=DQ d;rw [Q1];show 4*(5*s5 d+1)+1=_;omega
theorem BM (a:G6): ∀b,s5 (a+b)=5^b*s5 a+s5 b
 |0=>by show s5 a=1*s5 a+0;omega
 |b+1=>by
  show 5*s5 (a+b)+1=5^(b+1)*s5 a+(5*s5 b+1);rw [BM a b,Q1,gE,V7 (5^b) 5,fM];omega
theorem BN: ∀d,s5 d%2=d%2
 |0=>rfl
 |d+1=>by have:=BN d;show (5*s5 d+1)%2=_;omega
def EC (m:G6):s5 (2*m)=2*(s5 m*(2*s5 m+1)):=by
 rw [G0c,BM,<-DQ m];have:(4*s5 m+1)*s5 m+s5 m=2*(s5 m*(2*s5 m+1)):=by
  rw [tD,gE,gE];have e1:4*s5 m*s5 m=4*(s5 m*s5 m):=fM ..;have e2:s5 m*(2*s5 m)=2*(s5 m*s5 m):=by rw [Nat.mul_left_comm]
  rw [e1,e2];omega
 exact this
def BO (k x:G6):Nat.Coprime (2^k) (2*x+1):=by
 refine Nat.Coprime.pow_left k ?_;show uA 2 (2*x+1)=1;rw [Nat.gcd_rec,show (2*x+1)%2=1 by omega];rfl
theorem BP: ∀ (k d:G6),2^k∣s5 d->2^k∣d
 |0,d,_=>by rw [gV];exact Nat.one_dvd _
 |k+1,d,h=>by
  have ev:d%2=0:=by
   rw [<-BN d];exact nV (Nat.dvd_trans ⟨2^k,by rw [Q1,V7]⟩ h)
  obtain⟨m,rfl⟩: ∃m,d=2*m:=⟨d / 2,by omega⟩;rw [EC,Q1,V7] at h;have h1:2^k∣s5 m*(2*s5 m+1):=Nat.dvd_of_mul_dvd_mul_left (by decide) h;have h2:=BP k m ((BO k (s5 m)).dvd_of_dvd_mul_right h1);rw [Q1,V7];exact Nat.mul_dvd_mul_left 2 h2
noncomputable def f5 (N:G6):G6->G6->G6
 |0,a=>a
 |d+1,a=>(f5 N d a*5+1)%N
variable {N:G6}
theorem ED (a:G6): ∀d,f5 N d a%N=(5^d*a+s5 d)%N
 |0=>by show a%N=(1*a+0)%N;rw [Nat.one_mul,aB]
 |d+1=>by
  show (f5 N d a*5+1)%N%N=(5^(d+1)*a+(5*s5 d+1))%N;rw [G0d,pB,G0e,ED a d,<-G0e,<-pB,tD,Q1]
  congr 1
  have:5^d*a*5=5^d*5*a:=by rw [Nat.mul_right_comm]
  omega
def EE (hN:0<N){a:G6}(ha:a<N): ∀d,f5 N d a<N
 |0=>ha
 |d+1=>Z5 _ hN
theorem BQ (a:G6)(b:G6): ∀d,f5 N (b+d) a=f5 N d (f5 N b a)
 |0=>rfl
 |d+1=>by show (f5 N (b+d) a*5+1)%N=_;rw [BQ a b d];rfl
variable {k:G6}
def NJ {a d:G6}(ha:a<2^k)(d0:0<d)(hd:d<2^k):f5 (2^k) d a≠a:=λe=>by
 have e1:=ED (N:=2^k) a d;rw [e] at e1;have le:a<=5^d*a+s5 d:=R8 (Nat.le_mul_of_pos_left a (tE (by decide))) (W0 _ _);have dv:2^k∣5^d*a+s5 d-a:=gW (Nat.sub_mod_eq_zero_of_mod_eq e1.symm);have e2:5^d*a+s5 d-a=s5 d*(2*(2*a)+1):=by
  rw [<-DQ d,tD,gE];have:4*s5 d*a=s5 d*(2*(2*a)):=by
   rw [V7 4,fM];congr 1;omega
  omega
 rw [e2] at dv;have:=Nat.le_of_dvd d0 (BP k d ((BO k (2*a)).dvd_of_dvd_mul_right dv));omega
def FV {a:G6}(hN:N=2^k)(ha:a<N): ∀ {i j:G6},i<j->j<N->f5 N i a≠f5 N j a:=λ{i j} ij jN e=>by
 subst hN;have:=BQ (N:=2^k) a i (j-i);rw [J4 (T8 ij)] at this;exact NJ (EE (tE (by decide)) ha i) (by omega) (by omega) ((this.symm.trans e.symm))
def FW: ∀ {xs:G0 G6},xs.Nodup->(∀x∈xs,x<N)->N<=xs.length-> ∀e,e<N->e∈xs:=λ{xs} nd lt le e he=>by
 have p:(P5 N).length<=(xs.filter λx=>decide (x<N)).length:=by
  rw [R0,eU.mpr λx hx=>S1 (lt x hx)];exact le
 refine H0 λno=> ?_
 have key: ∀ (ys zs:G0 G6),ys.Nodup->(∀y∈ys,y∈zs)->ys.length<=zs.length:=by
  intro ys
  induction ys with
  |nil=>intro zs _ _;exact N9 _
  |cons y ys ih=>
   intro zs d s;obtain⟨d1,d2⟩:=E1.mp d;have hy:=s y P4;have:=ih (zs.erase y) d2 λx hx=>(dH (show x≠y from λq=>d1 (by rw [<-q];exact hx))).mpr (s x (R1 _ hx))
   rw [bX hy] at this;have:0<zs.length:=cM hy;rw [R3];omega
 have:=key (e::xs) (P5 N) (E1.mpr ⟨no,nd⟩) λy hy=>by
  rcases R7.mp hy with q|q
  ·rw [q];exact D1.mpr he
  ·exact D1.mpr (lt y q)
 rw [R3,R0] at this;omega
def BR {a e:G6}(hN:N=2^k)(ha:a<N)(he:e<N): ∃m,m<N/\f5 N m a=e:=by
 have nd:((P5 N).map λm=>f5 N m a).Nodup:=by
  rw [qL,X3];refine A4.mpr λi j hi hj ij=> ?_
  rw [f8,f8];rw [R0] at hj;exact FV hN ha ij hj
 have:=FW nd (λx hx=>by
  obtain⟨m,_,rfl⟩:=R6.mp hx;exact EE (by rw [hN];exact tE (by decide)) ha m) (by rw [G3,R0];exact P6 _) e he
 obtain⟨m,hm,e⟩:=R6.mp this;exact⟨m,D1.mp hm,e⟩
noncomputable def zp (t:N6):G6->V4->V4
 |0,p=>p
 |n+1,p=>zp t n (t.advance p)
theorem Jj (t:N6): ∀ (a b:G6) (p:V4),zp t (a+b) p=zp t b (zp t a p)
 |0,b,p=>by rw [E3];rfl
 |a+1,b,p=>by rw [f7];exact Jj t a b _
noncomputable def Xl (t:N6)(i q:G6)(d:D4 G6):V4:= {j:=i,more:=E5 t.mask i-i,i:=i,perturb:=q,dummy:=d}
theorem vG (t:N6): ∀ (m:G6) (p:V4),p.more=m->zp t (m+1) p=Xl t ((p.i*5+1+p.perturb / 32)%(t.mask+1)) (p.perturb / 32) p.dummy
 |0,p,e=>by
  show t.advance p=_;unfold aX;rw [S4 (by omega)];rfl
 |m+1,p,e=>by
  have a:t.advance p= {p with j:=p.j+1,more:=p.more-1}:=by unfold aX;rw [R9 (by omega)]
  show zp t (m+1) (t.advance p)=_;rw [a,vG t m _ (by show p.more-1=m;omega)]
def DR (mask i:G6):E5 mask i-i<=9:=by unfold E5;split<;>omega
noncomputable def Vr (N:G6)(b:G6):G6->G6
 |0=>b%N
 |L+1=>(Vr N b L*5+1+b / 32^(L+1))%N
theorem DS (t:N6)(h:P1): ∀L,∃n,n<=10*L/\zp t n (t.probeStart h)=Xl t (Vr (t.mask+1) (S7 h) L) (S7 h / 32^L) none
 |0=>⟨0,P6 _,by rw [gV,pE];rfl⟩
 |L+1=>by
  obtain⟨n,hn,e⟩:=DS t h L;have s:=DR t.mask (Vr (t.mask+1) (S7 h) L);refine⟨n+(E5 t.mask (Vr (t.mask+1) (S7 h) L)-Vr (t.mask+1) (S7 h) L+1),by omega,?_⟩;rw [Jj,e];refine(vG t _ (Xl t _ _ none) rfl).trans ?_;show Xl t ((Vr (t.mask+1) (S7 h) L*5+1+S7 h / 32^L / 32)%(t.mask+1)) (S7 h / 32^L / 32) none=_;rw [cO,<-Q1];rfl
def FX (h:P1):S7 h<2^64:=by unfold S7;omega
theorem YK (h:P1): ∀m,Vr N (S7 h) (13+m)=f5 N m (Vr N (S7 h) 13)
 |0=>rfl
 |m+1=>by
  show (Vr N (S7 h) (13+m)*5+1+S7 h / 32^(13+m+1))%N=(f5 N m (Vr N (S7 h) 13)*5+1)%N;rw [YK h m,Nat.div_eq_of_lt (B2 (FX h) ?_),aB];exact R8 (show 2^64<=32^13 by decide) (iP (by decide) (by omega))
variable {t:N6}
def NK (hN:t.mask+1=2^k)(h:P1){e:G6}(he:e<=t.mask): ∃n,n<10*E8 t.mask/\(zp t n (t.probeStart h)).j=e:=by
 obtain⟨m,hm,em⟩:=BR hN (a:=Vr (t.mask+1) (S7 h) 13) (Z5 _ (cN _)) (show e<t.mask+1 by omega);obtain⟨n,hn,en⟩:=DS t h (13+m);refine⟨n,by unfold E8;omega,?_⟩;rw [en,<-em,<-YK h m];rfl
def DT {P:G6->Prop}: ∀n,P n-> ∃m,m<=n/\P m/\ ∀k,k<m-> ¬P k:=λn=>by
 induction n using G6.strongRecOn with
 |ind n ih=>
  intro h;rcases G1n (∃k,k<n/\P k) with ⟨k,lt,pk⟩|no
  ·obtain⟨m,a,b,c⟩:=ih k lt pk;exact⟨m,by omega,b,c⟩
  ·exact⟨n,P6 _,h,λk lt pk=>no ⟨k,lt,pk⟩⟩
variable {h:P1}
theorem BS {f:G6->P1}(d:t.dummies= #[]): ∀ (n fuel:G6) (p:V4),n<fuel->t.slot (zp t n p).j= .empty->(∀k,k<n->t.slot (zp t k p).j≠ .empty)->p.dummy=none->
 (X4 t f h fuel p=some (.empty (zp t n p).j none)/\ ∀k,k<n-> ∀i,t.slot (zp t k p).j= .live i->f i≠h)\/
 (∃k i,k<n/\t.slot (zp t k p).j= .live i/\f i=h/\(∀k',k'<k-> ∀i',t.slot (zp t k' p).j= .live i'->f i'≠h)/\X4 t f h fuel p=some (.candidate (zp t k p).j i (zp t (k+1) p)))
 |_,0,_,lt,_,_,_=>absurd lt (U1 _)
 |0,fuel+1,p,_,he,_,hd=>by
  refine .inl ⟨?_,λk hk=>absurd hk (U1 _)⟩;have he:t.slot p.j= .empty:=he;unfold X4;rw [he,hd];rfl
 |n+1,fuel+1,p,lt,he,ne,hd=>by
  have h0:t.slot p.j≠ .empty:=ne 0 (cN _);cases hs:t.slot p.j with
  |empty=>exact absurd hs h0
  |dummy=>exact absurd hs (HT.WM d)
  |live i=>
   by_cases e:f i=h
   ·refine .inr ⟨0,i,cN _,hs,e,λk' hk=>absurd hk (U1 _),?_⟩;unfold X4;rw [hs];show (if (f i==h)=true then _ else _)=_;rw [R9 (by rw [e];exact aW h)];rfl
   ·have ad:(t.advance p).dummy=none:=by unfold aX;split<;>exact hd
    have step:X4 t f h (fuel+1) p=X4 t f h fuel (t.advance p):=by
     conv=>lhs;unfold X4
     rw [hs];show (if (f i==h)=true then _ else _)=_;rw [S4 (by simpa using e)]
    rcases BS d n fuel (t.advance p) (by omega) he (λk hk=>ne (k+1) (by omega)) ad with ⟨a,b⟩|⟨k,i',hk,a,b,c,g⟩
    ·refine .inl ⟨by rw [step];exact a,λk hk i2 hi=> ?_⟩;cases k with
     |zero=>rw [show t.slot (zp t 0 p).j= .live i from hs] at hi;cases hi;exact e
     |succ k=>exact b k (by omega) i2 hi
    ·refine .inr ⟨k+1,i',by omega,a,b,λk' hk' i2 hi=> ?_,by rw [step];exact g⟩;cases k' with
     |zero=>rw [show t.slot (zp t 0 p).j= .live i from hs] at hi;cases hi;exact e
     |succ k'=>exact c k' (by omega) i2 hi
def Xm (hN:t.mask+1=2^k)(h:P1){e:G6}(he:e<=t.mask)(em:t.slot e= .empty): ∃n,n<10*E8 t.mask/\t.slot (zp t n (t.probeStart h)).j= .empty/\ ∀m,m<n->t.slot (zp t m (t.probeStart h)).j≠ .empty:=by
 obtain⟨n,hn,ej⟩:=NK hN h he;obtain⟨m,a,b,c⟩:=DT (P:=λn=>t.slot (zp t n (t.probeStart h)).j= .empty) n (by rw [ej];exact em);exact⟨m,by omega,b,c⟩
def DU (r:t.place.toList.Pairwise (· < ·)){i j:G6}(h:t.place[i]? =some j):t.slot j= .live i:=by
 obtain⟨lo,hi,_⟩:=HT.Je r j;have e:M6 t.place j=i:=by
  rcases dB (M6 t.place j) i with z|z|z
  ·obtain⟨hlt,ev⟩:=O3.mp h;have hb:M6 t.place j<t.place.size:=by omega
   have a:=hi (M6 t.place j) (P6 _) t.place[M6 t.place j] (Y6 hb);have b:=A4.mp r (M6 t.place j) i (by simpa using hb) (by simpa using hlt) z;simp only [dI] at b;omega
  ·exact z
  ·exact absurd (lo i z j h) (B8 _)
 unfold mM;dsimp only;rw [e,h,R9 (aW _)]
def DV {i j:G6}(h:t.slot j= .live i):t.place[i]? =some j:=by
 unfold mM at h;dsimp only at h;split at h
 ·rename_i c;injection h with h
  subst h;exact eq_of_beq c
 ·split at h<;>cases h
def Jk (d:t.dummies= #[])(r:t.place.toList.Pairwise (· < ·)){j:G6}:t.slot j= .empty↔ ∀i:G6,t.place[i]? ≠some j:=by
 constructor
 ·intro h i e;rw [DU r e] at h;cases h
 ·intro h;cases e:t.slot j with
  |empty=>rfl
  |dummy=>exact absurd e (HT.WM d)
  |live i=>exact absurd (DV e) (h i)
variable {u:N6}
def NL (e:t.mask=u.mask)(p:V4):t.advance p=u.advance p:=by
 unfold aX;rw [e]
theorem yB (e:t.mask=u.mask): ∀ (n:G6) (p:V4),zp t n p=zp u n p
 |0,_=>rfl
 |n+1,p=>by show zp t n (t.advance p)=zp u n (u.advance p);rw [NL e,yB e n]
def va (e:t.mask=u.mask)(h:P1):t.probeStart h=u.probeStart h:=by
 unfold G0l;rw [e]
def Way (t:N6)(h:P1)(j:G6):Prop:= ∃n,(zp t n (t.probeStart h)).j=j/\ ∀m,m<n->t.slot (zp t m (t.probeStart h)).j≠ .empty
def Way.more (e:t.mask=u.mask)(f: ∀j,u.slot j= .empty->t.slot j= .empty){h:P1}{j:G6}(w:Way t h j):Way u h j:=by
 obtain⟨n,a,b⟩:=w;refine⟨n,by rw [<-va e,<-yB e];exact a,λm hm z=>b m hm ?_⟩;rw [<-va e,<-yB e] at z;exact f _ z
def BT {α:Type}(xs:G0 α)(x:α){p:G6}(hp:p<=xs.length)(i:G6):(xs.take p++x::xs.drop p)[i]? =if i<p then xs[i]? else if i=p then some x else xs[i-1]? :=by
 have tl:(xs.take p).length=p:=by rw [T5];omega
 by_cases a:i<p
 ·rw [R9 a,C5 (by omega),qJ,R9 a]
 ·rw [S4 a,B1 (by omega),tl]
  by_cases b:i=p
  ·rw [R9 b,b,i3];rfl
  ·rw [S4 b,show i-p=(i-p-1)+1 by omega,cF,Z4]
   congr 1;omega
structure Laid (t:N6)(hs:G0 P1):Prop where
 pow: ∃k,t.mask+1=2^k
 big:7<=t.mask
 dum:t.dummies= #[]
 rise:t.place.toList.Pairwise (· < ·)
 size:t.place.size=hs.length
 room:hs.length<=t.mask
 low: ∀ (i j:G6),t.place[i]? =some j->j<=t.mask
 way: ∀ (i:G6) (h:P1) (j:G6),hs[i]? =some h->t.place[i]? =some j->Way t h j
variable {hs:G0 P1}
def Laid.free (l:Laid t hs): ∃e,e<=t.mask/\t.slot e= .empty:=by
 refine H0 λno=> ?_
 have nd:t.place.toList.Nodup:=l.rise.imp λ{a b} z=>M7 z
 have all: ∀e,e<t.mask+1->e∈t.place.toList:=λe he=>by
  refine H0 λz=>no ⟨e,by omega,(Jk l.dum l.rise).mpr λi q=>z ?_⟩
  exact oR.mpr (Array.mem_of_getElem? q)
 have key: ∀ (ys zs:G0 G6),ys.Nodup->(∀y∈ys,y∈zs)->ys.length<=zs.length:=by
  intro ys
  induction ys with
  |nil=>intro zs _ _;exact N9 _
  |cons y ys ih=>
   intro zs d s;obtain⟨d1,d2⟩:=E1.mp d;have hy:=s y P4;have:=ih (zs.erase y) d2 λx hx=>(dH (show x≠y from λq=>d1 (by rw [<-q];exact hx))).mpr (s x (R1 _ hx))
   rw [bX hy] at this;have:0<zs.length:=cM hy;rw [R3];omega
 have:=key (P5 (t.mask+1)) t.place.toList m5 λy hy=>all y (D1.mp hy)
 rw [R0,D3,l.size] at this;have:=l.room;omega
def Laid.search (l:Laid t hs)(h:P1): ∃n,n<10*E8 t.mask/\t.slot (zp t n (t.probeStart h)).j= .empty/\(∀m,m<n->t.slot (zp t m (t.probeStart h)).j≠ .empty)/\ ∀i:G6,hs[i]? =some h-> ∃m,m<n/\t.slot (zp t m (t.probeStart h)).j= .live i:=by
 obtain⟨k,hk⟩:=l.pow;obtain⟨e,he,em⟩:=l.free;obtain⟨n,a,b,c⟩:=Xm hk h he em;refine⟨n,a,b,c,λi hi=> ?_⟩;obtain⟨j,hj⟩: ∃j,t.place[i]? =some j:=⟨t.place[i]'(by rw [l.size];exact(P7.mp hi).1),Y6 _⟩;obtain⟨m,x,y⟩:=l.way i h j hi hj;have lv:t.slot (zp t m (t.probeStart h)).j= .live i:=by rw [x];exact DU l.rise hj
 refine⟨m,?_,lv⟩;rcases dB m n with z|z|z
 ·exact z
 ·rw [z,b] at lv;cases lv
 ·exact absurd b (y n z)
def DW (t:N6)(j:G6):(t.put j).1.place.toList=t.place.toList.take (M6 t.place j)++j::t.place.toList.drop (M6 t.place j):=fE ..
def DY (d:t.dummies= #[])(j:G6):(t.put j).1.dummies= #[]:=by
 show (if nO t.dummies j then _ else t.dummies)= #[];rw [d,S4 (by simp [nO])]
def Laid.put (l:Laid t hs){h:P1}{j:G6}(em:t.slot j= .empty)(jm:j<=t.mask)(w:Way t h j)(room:hs.length+1<=t.mask):Laid (t.put j).1 (hs.take (t.put j).2++h::hs.drop (t.put j).2):=by
 have pe:(t.put j).2=M6 t.place j:=rfl;have me:t.mask=(t.put j).1.mask:=rfl;have pl:=DW t j;have hp:M6 t.place j<=t.place.size:=(HT.Je l.rise j).2.2;have hp1:M6 t.place j<=t.place.toList.length:=by rw [D3];exact hp
 have hp2:M6 t.place j<=hs.length:=by rw [<-l.size];exact hp
 have rise:(t.put j).1.place.toList.Pairwise (· < ·):=HT.Xf l.rise (HT.Gu em);have at1: ∀i:G6,(t.put j).1.place[i]? =if i<M6 t.place j then t.place[i]? else if i=M6 t.place j then some j else t.place[i-1]? :=λi=>by
  have:=BT t.place.toList j hp1 i;rw [<-pl] at this;simpa using this
 have sl: ∀x,(t.put j).1.slot x= .empty->t.slot x= .empty:=λx hx=>by
  rw [Jk (DY l.dum j) rise] at hx;rw [Jk l.dum l.rise];intro i e
  by_cases c:i<M6 t.place j
  ·exact hx i (by rw [at1,R9 c];exact e)
  ·exact hx (i+1) (by rw [at1,S4 (by omega),S4 (by omega)];exact e)
 rw [pe];refine⟨l.pow,l.big,DY l.dum j,rise,?_,?_,λi x hx=> ?_,λi g x hg hx=> ?_⟩
 ·rw [<-D3,pl];simp only [P3,R3,T5,C0,D3];have:=l.size;omega
 ·show _<=t.mask;simp only [P3,R3,T5,C0];omega
 ·rw [at1] at hx;split at hx
  ·exact l.low _ _ hx
  ·split at hx
   ·injection hx with hx;subst hx;exact jm
   ·exact l.low _ _ hx
 ·rw [at1] at hx;rw [BT hs h hp2] at hg
  by_cases c:i<M6 t.place j
  ·rw [R9 c] at hg hx;exact(l.way i g x hg hx).more me sl
  ·rw [S4 c] at hg hx
   by_cases b:i=M6 t.place j
   ·rw [R9 b] at hg hx;injection hg with hg;injection hx with hx
    subst hg hx;exact w.more me sl
   ·rw [S4 b] at hg hx;exact(l.way (i-1) g x hg hx).more me sl
def GA (a b:G6)(led:N4):Laid (.fresh a b led) []:=⟨⟨3,rfl⟩,P6 7,rfl,mD,rfl,N9 _,λi j h=>by simp [uU] at h,λi h j e=>by simp at e⟩
theorem BU (t:N6): ∀ (k i q m j:G6) (d:D4 G6),k<=m->zp t k ⟨j,m,i,q,d⟩=⟨j+k,m-k,i,q,d⟩
 |0,i,q,m,j,d,_=>rfl
 |k+1,i,q,m,j,d,h=>by
  have a:t.advance ⟨j,m,i,q,d⟩=⟨j+1,m-1,i,q,d⟩:=by unfold aX;rw [R9 (show m>0 by omega)]
  show zp t k (t.advance ⟨j,m,i,q,d⟩)=_;rw [a,BU t k i q (m-1) (j+1) d (by omega)]
  congr 1<;>omega
def Hk (t:N6)(E:G6->N4)(h:P1)(j:G6):Prop:= ∃n,(zp t n (t.probeStart h)).j=j/\ ∀m,m<n->E (zp t m (t.probeStart h)).j=false
variable {owner:S9 (D4 G6)}
theorem Qw: ∀ (fuel L n:G6) {j:G6},zp t n (t.probeStart h)=Xl t (Vr (t.mask+1) (S7 h) L) (S7 h / 32^L) none->(∀m,m<n->(owner.getD (zp t m (t.probeStart h)).j (some 0)).isNone=false)->
 E9 t.mask owner fuel (Vr (t.mask+1) (S7 h) L) (S7 h / 32^L)=some j->(owner.getD j (some 0)).isNone=true/\Hk t (λx=>(owner.getD x (some 0)).isNone) h j
 |0,_,_,_,_,_,e=>by cases e
 |fuel+1,L,n,j,hn,ne,e=>by
  unfold E9 at e;generalize hI:Vr (t.mask+1) (S7 h) L=I at hn e;have run: ∀k,k<=E5 t.mask I-I->(zp t (n+k) (t.probeStart h)).j=I+k:=λk hk=>by
   rw [Jj,hn];exact congrArg SetTable.Probe.j (BU t k I _ _ I none hk)
  have re:I<=E5 t.mask I:=by unfold E5;split<;>omega
  split at e
  ·rename_i k hk;injection e with e
   subst e;obtain⟨a,b,c⟩:=List.find?_range_eq_some.mp hk;have kl:=D1.mp b;refine⟨a,n+k,run k (by omega),λm hm=> ?_⟩;rcases L5 m n with z|z
   ·exact ne m z
   ·have:=c (m-n) (by omega);have r:=run (m-n) (by omega);rw [J4 z] at r;show (owner.getD (zp t m (t.probeStart h)).j (some 0)).isNone=false;rw [r];simpa using this
  ·rename_i hk;have none:=Z6.mp hk;have nx:=vG t _ (Xl t I (S7 h / 32^L) .none) rfl;refine Qw fuel (L+1) (n+(E5 t.mask I-I+1)) (j:=j) ?_ (λm hm=> ?_) ?_
   ·rw [Jj,hn];refine nx.trans ?_;show Xl t ((I*5+1+S7 h / 32^L / 32)%(t.mask+1)) (S7 h / 32^L / 32) .none=_;rw [cO,<-Q1,<-hI];rfl
   ·rcases L5 m n with z|z
    ·exact ne m z
    ·have:=none (m-n) (D1.mpr (by omega));have r:=run (m-n) (by omega);rw [J4 z] at r;rw [r];exact V2.mpr this
   ·rw [show xM t.mask I (S7 h / 32^L)=((I*5+1+S7 h / 32^L / 32)%(t.mask+1),S7 h / 32^L / 32) from rfl] at e;dsimp only at e;rw [cO,<-Q1,<-hI] at e;exact e
def DZ (hN:t.mask+1=2^k){e:G6}(he:e<=t.mask)(em:(owner.getD e (some 0)).isNone=true): ∃j,E9 t.mask owner (E8 t.mask) (S7 h%(t.mask+1)) (S7 h)=some j:=by
 obtain⟨m,hm,e1⟩:=BR hN (a:=Vr (t.mask+1) (S7 h) 13) (Z5 _ (cN _)) (show e<t.mask+1 by omega);rw [<-YK h m] at e1;have go: ∀ (fuel L:G6),(∃L',L<=L'/\L'<L+fuel/\Vr (t.mask+1) (S7 h) L'=e)-> ∃j,E9 t.mask owner fuel (Vr (t.mask+1) (S7 h) L) (S7 h / 32^L)=some j:=by
  intro fuel
  induction fuel with
  |zero=>rintro L ⟨L',a,b,_⟩;omega
  |succ fuel ih=>
   rintro L ⟨L',a,b,c⟩;unfold E9;generalize hI:Vr (t.mask+1) (S7 h) L=I;split
   ·rename_i k hk;exact⟨_,rfl⟩
   ·rename_i hk;have none:=Z6.mp hk;have ne:I≠e:=λz=>by
     have re:I<=E5 t.mask I:=by unfold E5;split<;>omega
     have:=none 0 (D1.mpr (by omega));rw [aB,z] at this;exact this em
    have lt:L+1<=L':=by
     rcases L5 L L' with z|z
     ·exact z
     ·have:L=L':=by omega
      subst this;exact absurd (hI.symm.trans c) ne
    obtain⟨j,hj⟩:=ih (L+1) ⟨L',lt,by omega,c⟩;refine⟨j,?_⟩;rw [show xM t.mask I (S7 h / 32^L)=((I*5+1+S7 h / 32^L / 32)%(t.mask+1),S7 h / 32^L / 32) from rfl];dsimp only;rw [cO,<-Q1,<-hI];exact hj
 have:=go (E8 t.mask) 0 ⟨13+m,N9 _,by unfold E8;omega,e1⟩;rw [gV,pE] at this;exact this
noncomputable def emO (owner:S9 (D4 G6))(x:G6):N4:=(owner.getD x (some 0)).isNone
def Ė {x:G6}:emO owner x=true↔owner[x]? =some none:=by
 unfold emO;rw [dD];cases owner[x]? with
 |none=>simp
 |some o=>cases o<;>simp
structure Own (t:N6)(hs:G0 P1)(owner:S9 (D4 G6))(k:G6):Prop where
 size:owner.size=t.mask+1
 lt: ∀x i:G6,owner[x]? =some (some i)->i<k
 inj: ∀x y i:G6,owner[x]? =some (some i)->owner[y]? =some (some i)->x=y
 all: ∀i,i<k-> ∃x:G6,owner[x]? =some (some i)
 way: ∀ (x i:G6) (h:P1),owner[x]? =some (some i)->hs[i]? =some h->Hk t (emO owner) h x
def Own.free (o:Own t hs owner k)(room:k<=t.mask): ∃e,e<=t.mask/\emO owner e=true:=by
 refine H0 λno=> ?_
 have got: ∀x,x<t.mask+1-> ∃i,owner[x]? =some (some i):=λx hx=>by
  have hs':x<owner.size:=by rw [o.size];exact hx
  cases e:owner[x]? with
  |none=>rw [Q8] at e;omega
  |some v=>
   cases v with
   |none=>exact absurd ⟨x,by omega,Ė.mpr e⟩ no
   |some i=>exact⟨i,rfl⟩
 have gi: ∀x,x<t.mask+1->owner[x]? =some (some (((owner[x]?).getD none).getD 0)):=λx hx=>by
  obtain⟨i,e⟩:=got x hx;rw [e];rfl
 have nd:((P5 (t.mask+1)).map λx=>((owner[x]?).getD none).getD 0).Nodup:=by
  rw [qL,X3];refine A4.mpr λa b ha hb ab e=> ?_
  rw [f8,f8] at e;rw [R0] at ha hb;have x1:=gi a ha;have x2:=gi b hb;rw [e] at x1;have:=o.inj a b _ x1 x2;omega
 have:=wb (m:=P5 k) nd λy hy=>by
  obtain⟨x,hx,rfl⟩:=R6.mp hy;exact D1.mpr (o.lt x _ (gi x (D1.mp hx)))
 rw [G3,R0,R0] at this;omega
variable {n:G6}
def Own.step (hN:t.mask+1=2^n)(o:Own t hs owner k)(room:k<=t.mask)(hk:hs[k]? =some h): ∃j,E9 t.mask owner (E8 t.mask) (S7 h%(t.mask+1)) (S7 h)=some j/\Own t hs (owner.setIfInBounds j (some k)) (k+1):=by
 obtain⟨e,he,em⟩:=o.free room;obtain⟨j,hj⟩:=DZ (h:=h) hN he em;have w:=Qw (t:=t) (owner:=owner) (h:=h) (E8 t.mask) 0 0 (j:=j) (by rw [gV,pE];rfl) (λm hm=>absurd hm (U1 _)) (by rw [gV,pE];exact hj);have jn:owner[j]? =some none:=Ė.mp w.1;have js:j<owner.size:=(O3.mp jn).1;have at1: ∀x:G6,(owner.setIfInBounds j (some k))[x]? =if j=x then some (some k) else owner[x]? :=λx=>by
  rw [Array.getElem?_setIfInBounds]
  by_cases c:j=x
  ·rw [R9 c,R9 c,R9 js]
  ·rw [S4 c,S4 c]
 have old: ∀x i:G6,(owner.setIfInBounds j (some k))[x]? =some (some i)->(x=j/\i=k)\/(x≠j/\owner[x]? =some (some i)):=λx i hx=>by
  rw [at1] at hx;split at hx
  ·rename_i c;injection hx with hx;injection hx with hx;exact .inl ⟨c.symm,hx.symm⟩
  ·rename_i c;exact .inr ⟨I0 c,hx⟩
 have emm: ∀x,emO owner x=false->emO (owner.setIfInBounds j (some k)) x=false:=λx hx=>by
  refine V2.mpr λz=> ?_
  rw [Ė,at1] at z;split at z
  ·cases z
  ·rw [Ė.mpr z] at hx;cases hx
 refine⟨j,hj,by rw [fI];exact o.size,λx i hx=> ?_,λx y i hx hy=> ?_,λi hi=> ?_,λx i g hx hg=> ?_⟩
 ·rcases old x i hx with ⟨_,e⟩|⟨_,e⟩
  ·omega
  ·have:=o.lt x i e;omega
 ·rcases old x i hx with ⟨a,b⟩|⟨a,b⟩<;>rcases old y i hy with ⟨c,d⟩|⟨c,d⟩
  ·rw [a,c]
  ·have:=o.lt y i d;omega
  ·have:=o.lt x i b;omega
  ·exact o.inj x y i b d
 ·by_cases c:i=k
  ·exact⟨j,by rw [at1,R9 rfl,c]⟩
  ·obtain⟨x,hx⟩:=o.all i (by omega);have ne: ¬j=x:=λz=>by rw [<-z,jn] at hx;cases hx
   exact⟨x,by rw [at1,S4 ne];exact hx⟩
 ·rcases old x i hx with ⟨a,b⟩|⟨a,b⟩
  ·rw [b,hk] at hg;injection hg with hg
   rw [a,<-hg];obtain⟨m,p,q⟩:=w.2;exact⟨m,p,λm' hm=>emm _ (q m' hm)⟩
  ·obtain⟨m,p,q⟩:=o.way x i g b hg;exact⟨m,p,λm' hm=>emm _ (q m' hm)⟩
def NM (t:N6)(hs:G0 P1):Own t hs (oB (t.mask+1) none) 0:=by
 have no: ∀x i:G6,(oB (t.mask+1) (none:D4 G6))[x]? ≠some (some i):=λx i e=>by
  rw [Array.getElem?_replicate] at e;split at e<;>cases e
 exact⟨Array.size_replicate,λx i e=>absurd e (no x i),λx y i e=>absurd e (no x i),λi hi=>absurd hi (U1 _),λx i h e=>absurd e (no x i)⟩
theorem Qx (hN:t.mask+1=2^n)(room:hs.length<=t.mask){F:D4 (S9 (D4 G6)×G6)->P1->D4 (S9 (D4 G6)×G6)}
 (hF: ∀owner k h j,E9 t.mask owner (E8 t.mask) (S7 h%(t.mask+1)) (S7 h)=some j->F (some (owner,k)) h=some (owner.setIfInBounds j (some k),k+1)): ∀ (rest:G0 P1) (k:G6) (owner:S9 (D4 G6)),Own t hs owner k->k<=hs.length->hs.drop k=rest-> ∃ő,rest.foldl F (some (owner,k))=some (ő,hs.length)/\Own t hs ő hs.length
 | [],k,owner,o,kl,e=>by
  have:k=hs.length:=by have:=List.drop_eq_nil_iff.mp e;omega
  subst this;exact⟨owner,rfl,o⟩
 |h::rest,k,owner,o,kl,e=>by
  have hk:hs[k]? =some h:=by
   have:(hs.drop k)[0]? =some h:=by rw [e];rfl
   rwa [Z4,aB] at this
  have lt:k<hs.length:=(P7.mp hk).1;obtain⟨j,hj,o'⟩:=o.step hN (by omega) hk;have e2:hs.drop (k+1)=rest:=by rw [<-List.tail_drop,e];rfl
  obtain⟨ő,a,b⟩:=Qx hN room hF rest (k+1) _ o' lt e2;exact⟨ő,by rw [n6,hF _ _ _ _ hj];exact a,b⟩
def NN (hN:t.mask+1=2^n)(room:hs.length<=t.mask){F:D4 (S9 (D4 G6)×G6)->P1->D4 (S9 (D4 G6)×G6)}
 (hF: ∀owner k h j,E9 t.mask owner (E8 t.mask) (S7 h%(t.mask+1)) (S7 h)=some j->F (some (owner,k)) h=some (owner.setIfInBounds j (some k),k+1)): ∃owner,(hs.foldl F (some (oB (t.mask+1) none,0))).map (·.1)=some owner/\Own t hs owner hs.length:=by
 obtain⟨owner,a,b⟩:=Qx hN room hF hs 0 _ (NM t hs) (N9 _) rfl;exact⟨owner,by rw [a];rfl,b⟩
def FY {hashes:S9 P1}(hN:t.mask+1=2^n)(room:hashes.size<=t.mask): ∃owner,rR t.mask hashes=some owner/\Own t hashes.toList owner hashes.toList.length:=by
 unfold rR;rw [<-Array.foldl_toList];refine NN hN (by rw [D3];exact room) λowner k h j hj=> ?_
 show (E9 t.mask owner _ _ _).bind _=_;rw [hj];rfl
theorem Xn: ∀ (n:G6) (p:V4),p.j+p.more<=t.mask->(zp t n p).j<=t.mask
 |0,p,h=>by show p.j<=t.mask;omega
 |n+1,p,h=>by
  refine Xn n (t.advance p) ?_;unfold aX;split
  ·show p.j+1+(p.more-1)<=t.mask;omega
  ·have:(p.i*5+1+p.perturb / 32)%(t.mask+1)<t.mask+1:=Z5 _ (cN _);show (p.i*5+1+p.perturb / 32)%(t.mask+1)+(E5 t.mask ((p.i*5+1+p.perturb / 32)%(t.mask+1))-(p.i*5+1+p.perturb / 32)%(t.mask+1))<=t.mask;unfold E5;split<;>omega
def Ud (t:N6)(h:P1):(t.probeStart h).j+(t.probeStart h).more<=t.mask:=by
 have:S7 h%(t.mask+1)<t.mask+1:=Z5 _ (cN _);show S7 h%(t.mask+1)+(E5 t.mask (S7 h%(t.mask+1))-S7 h%(t.mask+1))<=t.mask;unfold E5;split<;>omega
def EF {T0 T':N6}{E:G6->N4}{j:G6}(em:T0.mask=T'.mask)(f: ∀y,y<=T0.mask->E y=false->T'.slot y≠ .empty)(w:Hk T0 E h j):Way T' h j:=by
 obtain⟨n,a,b⟩:=w;refine⟨n,by rw [<-va em,<-yB em];exact a,λm hm=> ?_⟩;rw [<-va em,<-yB em];exact f _ (Xn m _ (Ud T0 h)) (b m hm)
def FZ {mask finger moves:G6}{led plain:N4}{hashes:S9 P1}(hN:mask+1=2^n)(h7:7<=mask)(room:hashes.size<=mask): ∃t' order,xN mask finger moves led plain hashes=some (t',order)/\t'.mask=mask/\t'.led=led/\t'.plain=plain/\order.toList.Perm (P5 hashes.size)/\Laid t' (order.toList.map λi=>hashes.toList.getD i 0):=by
 obtain⟨T0,hm⟩: ∃T0:N6,T0.mask=mask:=⟨{uU 0 0 true with mask:=mask},rfl⟩;subst hm;obtain⟨owner,ho,own⟩:=FY (t:=T0) (hashes:=hashes) hN room;unfold xN;rw [ho];refine⟨_,_,rfl,rfl,rfl,rfl,?_⟩;generalize hl:((P5 (T0.mask+1)).filterMap λj=>(owner.getD j none).map (j,·))=live;have osz:owner.size=T0.mask+1:=own.size;have mem: ∀x i:G6,(x,i)∈live↔owner[x]? =some (some i):=λx i=>by
  rw [<-hl,cH];constructor
  ·rintro ⟨j,hj,e⟩;rw [dD] at e;cases z:owner[j]? with
   |none=>rw [z] at e;cases e
   |some v=>
    rw [z] at e;cases v with
    |none=>cases e
    |some w=>cases e;exact z
  ·intro e;have lt:x<owner.size:=(O3.mp e).1;refine⟨x,D1.mpr (by omega),?_⟩;rw [dD,e];rfl
 have sub:(live.map (·.1)).Sublist (P5 (T0.mask+1)):=by rw [<-hl];exact HT.YB _ _
 have rise:(live.map (·.1)).Pairwise (· < ·):=G0.pairwise_lt_range.sublist sub;have nd:(live.map (·.2)).Nodup:=by
  rw [qL,X3];rw [X3] at rise;refine rise.imp_of_mem λ{a b} ha hb lt e=> ?_
  have:=own.inj a.1 b.1 a.2 ((mem _ _).mp ha) (by rw [e];exact(mem _ _).mp hb);omega
 have len0:hashes.toList.length=hashes.size:=D3;have pm:(live.map (·.2)).Perm (P5 hashes.size):=by
  refine(List.perm_ext_iff_of_nodup nd m5).mpr λi=> ?_
  rw [D1];constructor
  ·intro h;obtain⟨⟨x,i'⟩,a,rfl⟩:=R6.mp h;have:=own.lt x i' ((mem _ _).mp a);omega
  ·intro h;obtain⟨x,hx⟩:=own.all i (by omega);exact R6.mpr ⟨(x,i),(mem _ _).mpr hx,rfl⟩
 have ll:live.length=hashes.size:=by have:=pm.length_eq;rwa [G3,R0] at this
 refine⟨pm,⟨n,hN⟩,h7,rfl,rise,?_,?_,λi j hj=> ?_,λi h x hh hx=> ?_⟩
 ·simp
 ·show _<=T0.mask;simp only [G3];omega
 ·have hj:(live.map (·.1))[i]? =some j:=by simpa using hj
  have:=D1.mp (sub.subset (P8 hj));show j<=T0.mask;omega
 ·have hx:(live.map (·.1))[i]? =some x:=by simpa using hx
  have hh:((live.map (·.2)).map λi=>hashes.toList.getD i 0)[i]? =some h:=hh;rw [P9] at hx;obtain⟨⟨x',i'⟩,e1,e2⟩:=F6.mp hx;have e2:x'=x:=e2;subst e2;rw [P9,P9,e1] at hh;have hh:hashes.toList.getD i' 0=h:=by injection hh
  have ow:=(mem _ _).mp (P8 e1);have lt:=own.lt _ _ ow;have hg:hashes.toList[i']? =some h:=by
   rw [<-hh,D2,G1 lt];rfl
  refine EF (T0:=T0) rfl (λy hy hb z=> ?_) (own.way _ _ _ ow hg);rw [Jk rfl rise] at z;cases e:owner[y]? with
  |none=>rw [Q8] at e;omega
  |some v=>
   cases v with
   |none=>rw [Ė.mpr e] at hb;cases hb
   |some w=>
    obtain⟨i2,h2⟩:=bO (R6.mpr ⟨(y,w),(mem _ _).mpr e,rfl⟩:y∈live.map (·.1));exact z i2 (by simpa using h2)
def Laid.stands (l:Laid t hs):t.gaveWay=false:=by
 obtain⟨k,hk⟩:=l.pow;have b:=l.big;cases k with
 |zero=>rw [gV] at hk;omega
 |succ k=>
  rw [Q1] at hk;unfold G0Z;refine beq_false_of_ne ?_;omega
theorem Qy: ∀ (fuel k n:G6),3<=k-> ∃m,3<=m/\bF n fuel (2^k)=2^m/\(n<2^(k+fuel)->n<2^m)
 |0,k,n,h=>⟨k,h,rfl,λz=>z⟩
 |fuel+1,k,n,h=>by
  unfold bF
  by_cases c:2^k<=n
  ·rw [R9 c,<-Q1];obtain⟨m,a,b,d⟩:=Qy fuel (k+1) n (by omega);exact⟨m,a,b,λz=>d (by rw [f7,fJ];exact z)⟩
  ·rw [S4 c];exact⟨k,h,rfl,λ_=>by omega⟩
def above (h:n<2^67): ∃m,K7 n=2^m/\n<K7 n/\8<=K7 n:=by
 obtain⟨m,a,b,c⟩:=Qy 64 3 n (by decide);have b:K7 n=2^m:=b;refine⟨m,b,by rw [b];exact c h,?_⟩;rw [b];exact iP (show 0<2 by decide) a
end L2
namespace L2
open PySem PySem.Spec PyProof.Rows HT
variable {prog:T7}{w:C1}{A:N7}{E:G2->G5->Prop}{s:G5}{a:P2}{es:S9 (P1×G2)}{ep:G6}{t:N6}
def Laid.fits {hs:G0 P1}(l:Laid t hs){n:G6}(e:hs.length=n):t.fits n=true:=by
 have a:=l.size;have b:=l.room;have c:=l.dum;simp only [xI,xO,F4,beq_iff_eq,aK,c];simp;omega
def Qz (t:N6):t.sameMemory t.moves t.mask=some true:=by
 unfold G0m;rw [R9 (aW _)]
def QB {b:P2}{Q:N4->G5->Prop}(q:Q true s):R5 (S0 prog w) A (isSame (.ref b) (.ref b)) Q E s:=by
 unfold isSame;dsimp only;rw [R9 (aW _)];exact P0 q
variable {eqk:G6->N4}
def Xo {Q:SetFound->G5->Prop}{x:G2}{h:P1}{n:G6}(l:Laid t (es.toList.map (·.1)))(ho:s.heap.get? a=some (yt es ep t))
 (refs: ∀ (i:G6) (y:G2),es[i]? =some (h,y)-> ∃b,y= .ref b)
 (G1f: ∀Q':N4->G5->Prop,Q' false s->R5 (S0 prog w) A (dE x ((es.filter (·.1==h)).toList.map (·.2))) Q' E s)
 (cmp: ∀ (i:G6) (y:G2),es[i]? =some (h,y)-> ∀Q':N4->G5->Prop,Q' (eqk i) s->R5 (S0 prog w) A (Z8 [y] (eqBool y x)) Q' E s)
 (em:t.slot (zp t n (t.probeStart h)).j= .empty)(nb:n<10*E8 t.mask)(ne: ∀m,m<n->t.slot (zp t m (t.probeStart h)).j≠ .empty)
 (free:(∀m i,m<n->t.slot (zp t m (t.probeStart h)).j= .live i->(es[i]?.map (·.1)).getD 0=h->eqk i=false)->Q (.free (zp t n (t.probeStart h)).j false) s)
 (there: ∀ (i:G6) (y:G2),es[i]? =some (h,y)->eqk i=true->Q (.there none) s):
 ∀ (r k fuel:G6) (š:D4 V4),k+r=n->r<fuel->š.getD (t.probeStart h)=zp t k (t.probeStart h)->(∀m i,m<k->t.slot (zp t m (t.probeStart h)).j= .live i->(es[i]?.map (·.1)).getD 0=h->eqk i=false)->
  R5 (S0 prog w) A (xP a x h true fuel š) Q E s:=by
 intro r
 induction r using G6.strongRecOn with
 |ind r ih=>
 intro k fuel š kr rf st old;obtain⟨fuel,rfl⟩: ∃f,fuel=f+1:=⟨fuel-1,by omega⟩;have fit:t.fits es.size=true:=l.fits (by rw [G3,D3]);unfold xP;refine wpAny_bind (E6 ho rfl fit ?_);dsimp only;rw [l.stands];simp only [F7,↓reduceIte];have ad: ∀m,zp t m (zp t k (t.probeStart h))=zp t (k+m) (t.probeStart h):=λm=>(Jj t k m _).symm
 have dn: ∀ (m:G6) (p:V4),p.dummy=none->(zp t m p).dummy=none:=λm=>by
  induction m with
  |zero=>exact λp hp=>hp
  |succ m ihm=>exact λp hp=>ihm _ (by unfold aX;split<;>exact hp)
 have out:=BS (f:=λi=>(es[i]?.map (·.1)).getD 0) (h:=h) l.dum r (10*E8 t.mask) (zp t k (t.probeStart h)) (by omega) (by rw [ad,kr];exact em) (λm hm=>by rw [ad];exact ne _ (by omega)) (dn _ _ rfl);have e0:t.probe (λi=>(es[i]?.map (·.1)).getD 0) h (š.getD (t.probeStart h))=X4 t (λi=>(es[i]?.map (·.1)).getD 0) h (10*E8 t.mask) (zp t k (t.probeStart h)):=by rw [st];rfl
 rw [<-e0] at out;split
 ·rename_i met X0C;have X0C:t.probe (λi=>(es[i]?.map (·.1)).getD 0) h (š.getD (t.probeStart h))=some met:=X0C;rw [X0C] at out;rcases out with ⟨e,no⟩|⟨m,i,mr,sl,hi,no,e⟩
  ·injection e with e
   subst e;dsimp only;refine P0 ?_;rw [ad,kr];refine free λm i hm sl hi=> ?_
   rcases L5 m k with z|z
   ·exact old m i z sl hi
   ·refine absurd hi (no (m-k) (by omega) i ?_);rw [ad,J4 z];exact sl
  ·injection e with e
   subst e;dsimp only;obtain⟨y,ei⟩: ∃y,es[i]? =some (h,y):=by
    obtain⟨lt,_⟩:=O3.mp (DV sl);have sz:i<es.size:=by have:=l.size;rw [G3,D3] at this;omega
    rw [Y6 sz] at hi ⊢;have hi:es[i].1=h:=hi;exact⟨es[i].2,by rw [<-hi]⟩
   cases hl:t.led
   ·simp only [uV,↓reduceIte];refine wpAny_bind (G1f _ ?_);simp only [F7,↓reduceIte];rw [ei];dsimp only;refine wpAny_bind (cmp i y ei _ ?_);refine wpAny_bind (E6 ho rfl fit ?_);dsimp only;cases ek:eqk i with
    |true=>simp only [iM,↓reduceIte];exact P0 (there i y ei ek)
    |false=>
     simp only [a8,F7,↓reduceIte,Qz,sl,ei];obtain⟨b,rfl⟩:=refs i y ei;refine wpAny_bind (QB ?_);refine wpAny_bind (P0 ?_);simp only [↓reduceIte];refine ih (r-(m+1)) (by omega) (k+(m+1)) fuel (some _) (by omega) (by omega) (by show zp t (m+1) _=_;rw [ad]) (λm' i' ų ř hi'=> ?_);rcases L5 m' k with z|z
     ·exact old m' i' z ř hi'
     ·have e1:zp t m' (t.probeStart h)=zp t (m'-k) (zp t k (t.probeStart h)):=by rw [ad,J4 z]
      rw [e1] at ř;rcases L5 (m'-k) m with y|y
      ·exact absurd hi' (no (m'-k) y i' ř)
      ·have e2:m'-k=m:=by omega
       rw [e2,sl] at ř;injection ř with ř
       rw [<-ř];exact ek
   ·simp only [iN,F7,↓reduceIte];rw [ei];dsimp only;refine wpAny_bind (cmp i y ei _ ?_);refine wpAny_bind (E6 ho rfl fit ?_);dsimp only;cases ek:eqk i with
    |true=>simp only [iM,↓reduceIte];exact P0 (there i y ei ek)
    |false=>
     simp only [a8,F7,↓reduceIte,Qz,sl,ei];obtain⟨b,rfl⟩:=refs i y ei;refine wpAny_bind (QB ?_);refine wpAny_bind (P0 ?_);simp only [↓reduceIte];refine ih (r-(m+1)) (by omega) (k+(m+1)) fuel (some _) (by omega) (by omega) (by show zp t (m+1) _=_;rw [ad]) (λm' i' ų ř hi'=> ?_);rcases L5 m' k with z|z
     ·exact old m' i' z ř hi'
     ·have e1:zp t m' (t.probeStart h)=zp t (m'-k) (zp t k (t.probeStart h)):=by rw [ad,J4 z]
      rw [e1] at ř;rcases L5 (m'-k) m with y|y
      ·exact absurd hi' (no (m'-k) y i' ř)
      ·have e2:m'-k=m:=by omega
       rw [e2,sl] at ř;injection ř with ř
       rw [<-ř];exact ek
 ·rename_i X0C;rcases out with ⟨e,_⟩|⟨_,_,_,_,_,_,e⟩<;>exact(X0C _ e).elim
def GB {Q:SetFound->G5->Prop}{x:G2}{h:P1}(l:Laid t (es.toList.map (·.1)))(few:t.mask<=9000)(ho:s.heap.get? a=some (yt es ep t))
 (refs: ∀ (i:G6) (y:G2),es[i]? =some (h,y)-> ∃b,y= .ref b)
 (G1f: ∀Q':N4->G5->Prop,Q' false s->R5 (S0 prog w) A (dE x ((es.filter (·.1==h)).toList.map (·.2))) Q' E s)
 (cmp: ∀ (i:G6) (y:G2),es[i]? =some (h,y)-> ∀Q':N4->G5->Prop,Q' (eqk i) s->R5 (S0 prog w) A (Z8 [y] (eqBool y x)) Q' E s)
 (free: ∀j,(∀ (i:G6) (y:G2),es[i]? =some (h,y)->eqk i=false)->t.slot j= .empty->j<=t.mask->Way t h j->Q (.free j false) s)
 (there: ∀ (i:G6) (y:G2),es[i]? =some (h,y)->eqk i=true->Q (.there none) s):R5 (S0 prog w) A (setSearch a x h true) Q E s:=by
 obtain⟨n,nb,em,ne,met⟩:=l.search h;refine Xo l ho refs G1f cmp em nb ne (λal=>free _ (λi y e=> ?_) em (Xn n _ (Ud t h)) ⟨n,rfl,ne⟩) there n 0 100000 none (E3 n) (by unfold E8 at nb;omega) rfl (λm i hm=>absurd hm (U1 _));have e1:(es.toList.map (·.1))[i]? =some h:=by
  rw [P9,M8,e];rfl
 obtain⟨m,hm,sl⟩:=met i e1;exact al m i hm sl (by rw [e];rfl)
theorem Laid.plain {hs:G0 P1}(l:Laid t hs)(b:N4):Laid {t with plain:=b} hs:=
 ⟨l.pow,l.big,l.dum,l.rise,l.size,l.room,l.low,λi h j x y=>Way.more (t:=t) (u:= {t with plain:=b}) rfl (λ_ z=>z) (l.way i h j x y)⟩
def GC (es:S9 (P1×G2))(h:P1)(x:G2)(p:G6):(W8 es p (h,x)).toList.map (·.1)=(es.toList.map (·.1)).take p++h::(es.toList.map (·.1)).drop p:=by
 rw [fE,T4,T6,iH,iI]
theorem QC: ∀ (fuel k n:G6),bF n fuel (2^k)<=2^k\/bF n fuel (2^k)<=2*n
 |0,k,n=> .inl (P6 _)
 |fuel+1,k,n=>by
  unfold bF
  by_cases c:2^k<=n
  ·rw [R9 c,<-Q1];rcases QC fuel (k+1) n with z|z
   ·refine .inr (R8 z ?_);rw [Q1];omega
   ·exact .inr z
  ·rw [S4 c];exact .inl (P6 _)
def Xp {hashes:S9 P1}{w:G6}(hw:hashes.size<=w)(few:w<=40000):K7 w<=80008/\ ∃t' order,t.relaid hashes w=some (t',order)/\t'.led=t.led/\w<=t'.mask/\t'.mask<=2*w+8/\order.toList.Perm (P5 hashes.size)/\Laid t' (order.toList.map λi=>hashes.toList.getD i 0):=by
 obtain⟨m,a,b,c⟩:=above (n:=w) (by omega);have u:K7 w<=8\/K7 w<=2*w:=QC 64 3 w;refine⟨by omega,?_⟩;obtain⟨t',order,x,mk,y,z,p,q⟩:=FZ (mask:=K7 w-1) (finger:=t.finger) (moves:=t.movedTo (K7 w-1)) (led:=t.led) (plain:=t.plain) (hashes:=hashes) (n:=m) (by rw [<-a];omega) (by omega) (by omega);exact⟨t',order,x,y,by rw [mk];omega,by rw [mk];omega,p,q⟩
def Ra {Q:Unit->G5->Prop}{wd:G6}(l:Laid t (es.toList.map (·.1)))(ho:s.heap.get? a=some (yt es ep t))(hw:es.size<=wd)(few:wd<=40000)
 (k: ∀ã t' h',ã.toList.Perm es.toList->Laid t' (ã.toList.map (·.1))->t'.led=t.led->wd<=t'.mask->t'.mask<=2*wd+8->h'.get? a=some (yt ã (ep+1) t')->A8 a s.heap h'->Q () {s with heap:=h'}):R5 (S0 prog w) A (G0f a wd) Q E s:=by
 have fit:t.fits es.size=true:=l.fits (by rw [G3,D3]);obtain⟨up,t',order,er,ld,m1,m2,pm,l'⟩:=Xp (t:=t) (hashes:=es.map (·.1)) (w:=wd) (by rw [uW];exact hw) few;unfold G0f;refine wpAny_bind (E6 ho rfl fit ?_);dsimp only;rw [er];have sl: ¬K7 wd>sizeLine:=aP.mpr (R8 up (by decide));simp only [sl,↓reduceIte];have fe: ∀l:G0 G6,(∀i∈l,i<es.size)->l.filterMap (λi=>es[i]?)=l.map (λi=>es.toList.getD i (0,.none)):=λl=>by
  induction l with
  |nil=>exact λ_=>rfl
  |cons i l ih=>
   intro h;have hi:=h i P4;have e:es[i]? =some (es.toList.getD i (0,.none)):=by
    rw [D2,M8,Y6 hi];rfl
   rw [List.filterMap_cons_some e,T6,ih λx hx=>h x (R1 _ hx)]
 rw [uW] at pm;have lt: ∀i∈order.toList,i<es.size:=λi hi=>D1.mp (pm.mem_iff.mp hi)
 have e1:(order.filterMap (es[·]?)).toList=order.toList.map (λi=>es.toList.getD i (0,.none)):=by
  rw [Array.toList_filterMap];exact fe _ lt
 have e2:es.toList=(P5 es.size).map (λi=>es.toList.getD i (0,.none)):=by
  have:=jT es.toList (0,(.none:G2))
  rwa [D3] at this
 have pe:(order.filterMap (es[·]?)).toList.Perm es.toList:=by
  have:=pm.map (λi=>es.toList.getD i (0,.none));rw [<-e2] at this;rw [e1];exact this
 have sz:(order.filterMap (es[·]?)).size=es.size:=by have:=pe.length_eq;rwa [D3,D3] at this
 have hh:(order.filterMap (es[·]?)).toList.map (·.1)=order.toList.map λi=>(es.map (·.1)).toList.getD i 0:=by
  rw [e1,N8];refine C7 λi hi=> ?_
  show (es.toList.getD i (0,.none)).1=(es.map (·.1)).toList.getD i 0;have z:i<es.toList.length:=by rw [D3];exact lt i hi
  rw [sO,D2,D2,P9,G1 z];rfl
 rw [<-hh] at l';refine wpAny_bind ?_;show R5 _ _ (ite _ _ _) _ _ _;rw [S4 (by rw [sz];simp)];refine P0 ?_;dsimp only;exact rS (s:=s) ho rfl (k _ t' _ pe l' ld m1 m2 (L9 _ ho rfl) (A6 ..)) (by rw [sz];exact R8 (show es.size<=40000 by omega) (by decide))
def La {Q:N4->G5->Prop}{b:P2}{h:P1}{bv:N4}{fuel:G6}(l:Laid t (es.toList.map (·.1)))(few:t.mask<=9000)(lean:es.size*5<t.mask*3)(ho:s.heap.get? a=some (yt es ep t))
 (refs: ∀ (i:G6) (y:G2),es[i]? =some (h,y)-> ∃b,y= .ref b)
 (G1f: ∀Q':N4->G5->Prop,Q' false s->R5 (S0 prog w) A (dE (.ref b) ((es.filter (·.1==h)).toList.map (·.2))) Q' E s)
 (cmp: ∀ (i:G6) (y:G2),es[i]? =some (h,y)-> ∀Q':N4->G5->Prop,Q' (eqk i) s->R5 (S0 prog w) A (Z8 [y] (eqBool y (.ref b))) Q' E s)
 (byv: ∀Q':N4->G5->Prop,Q' bv s->R5 (S0 prog w) A (gF 8 (.ref b)) Q' E s)
 (new:(∀ (i:G6) (y:G2),es[i]? =some (h,y)->eqk i=false)-> ∀ã Þ t' h',ã.toList.Perm (es.push (h,.ref b)).toList->Laid t' (ã.toList.map (·.1))->t'.mask<=max t.mask (8*es.size+16)->ã.size*5<t'.mask*3->t'.led=t.led->h'.get? a=some (yt ã Þ t')->A8 a s.heap h'->Q true {s with heap:=h'})
 (there: ∀ (i:G6) (y:G2),es[i]? =some (h,y)->eqk i=true->Q false s):R5 (S0 prog w) A (pF a (.ref b) h (fuel+1)) Q E s:=by
 have fit:t.fits es.size=true:=l.fits (by rw [G3,D3]);have sz:(es.toList.map (·.1)).length=es.size:=by rw [G3,D3]
 unfold pF;refine wpAny_bind (E6 ho rfl fit ?_);dsimp only;rw [show byScan (.ref b) es=false from rfl];simp only [F7,↓reduceIte];refine wpAny_bind (GB (eqk:=eqk) l few ho refs G1f cmp (λj no em jm wy=> ?_) (λi y e ek=> ?_))
 ·dsimp only;refine wpAny_bind (E6 ho rfl fit ?_);dsimp only;have l1:=l.put em jm wy (by rw [sz];have:=l.big;omega);have l1:=(congrArg (Laid (t.put j).1) (GC es h (.ref b) (t.put j).2)).mpr l1;have z0:(W8 es (t.put j).2 (h,.ref b)).size=es.size+1:=by
   have:=(gY es (t.put j).2 (h,(.ref b:G2))).length_eq;rw [D3,D3,tT] at this;exact this
  have z1:(W8 es (t.put j).2 (h,.ref b)).size<=sizeLine:=by
   rw [z0];exact R8 (show es.size+1<=10000 by omega) (by decide)
  have rest: ∀t2:N6,Laid t2 ((W8 es (t.put j).2 (h,.ref b)).toList.map (·.1))->t2.led=t.led->t2.mask=t.mask->R5 (S0 prog w) A (do storeSet a (W8 es (t.put j).2 (h,.ref b)) t2;if (!false&&t2.tooFull)=true then (do G0f a (dL (es.size+1));pure true) else pure true) Q E s:=λt2 l2 ld mk=>by
   refine wpAny_bind (rS (s:=s) ho rfl ?_ z1);have o1:(s.heap.update a (Obj.putSet (W8 es (t.put j).2 (h,.ref b)) t2)).get? a=some (yt (W8 es (t.put j).2 (h,.ref b)) (ep+1) t2):=L9 _ ho rfl;cases tf:t2.tooFull with
   |true=>
    simp only [uV,iM,↓reduceIte];refine wpAny_bind (Ra (wd:=dL (es.size+1)) (ep:=ep+1) l2 o1 (by rw [z0];unfold dL;split<;>omega) (by unfold dL;split<;>omega) λã t' h' pe l' ld' m1 m2 o2 sb=> ?_);refine P0 (new no ã (ep+1+1) t' h' (pe.trans (gY ..)) l' ?_ ?_ (ld'.trans ld) o2 (G0G (A6 ..) sb))
    ·unfold dL at m2;split at m2<;>omega
    ·have:=pe.length_eq;rw [D3,D3,z0] at this;unfold dL at m1;split at m1<;>omega
   |false=>
   simp only [a8,F7,↓reduceIte];refine P0 (new no _ (ep+1) t2 _ (gY ..) l2 (by omega) ?_ ld (L9 _ ho rfl) (A6 ..));rw [z0];have s2:=l2.size;rw [G3,D3,z0] at s2;have: ¬ (t2.fill*5>=t2.mask*3):=by simpa [G00] using tf
   have f2:t2.fill=es.size+1:=by unfold xO;rw [l2.dum,s2];rfl
   omega
  cases hp:(t.put j).1.plain
  ·simp only [F7,↓reduceIte];refine wpAny_bind (P0 ?_);simp only [↓reduceIte];exact rest (t.put j).1 l1 rfl rfl
  ·simp only [↓reduceIte];refine wpAny_bind (byv _ ?_);cases bv
   ·simp only [F7,↓reduceIte];exact rest _ (l1.plain false) rfl rfl
   ·simp only [↓reduceIte];exact rest (t.put j).1 l1 rfl rfl
 ·exact P0 (there i y e ek)
end L2
namespace L2
open PySem PySem.Spec PyProof.Rows HT
def Rb (h h':A7):Prop:= ∀ (b:P2) (o:Obj),o.cls= .type "tuple" ->h.get? b=some o->h'.get? b=some o
theorem yC {α β:Type}{M:qS}{A:N7}{E:G2->G5->Prop}{s:G5}{f:α->β->Sem (gC β)}{r:β}{Q:β->G5->Prop}: ∀ (l:G0 α),(∀x∈l,∀Q':gC β->G5->Prop,Q' (.yield r) s->R5 M A (f x r) Q' E s)->Q r s->R5 M A (forIn l r f) Q E s
 | [],_,q=>P0 q
 |x::l,h,q=>by
  rw [cQ];exact wpAny_bind (h x (.head _) _ (yC l (λy hy=>h y (.tail _ hy)) q))
structure Ţ (prog:T7)(w:C1)(K:Type)[DecidableEq K] where
 is:A7->K->P2->Prop
 hash:K->P1
 inj: ∀ {h:A7} {x y:K} {a:P2},is h x a->is h y a->x=y
 keep: ∀ {h h':A7} {x:K} {a:P2},Rb h h'->is h x a->is h' x a
 hashed: ∀ {A:N7} {E:G2->G5->Prop} {s:G5} {x:K} {a:P2} {Q:P1->G5->Prop},A.units+8<cLine->is s.heap x a->(∀tk,Q (hash x) {s with toks:=tk})->R5 (S0 prog w) A (pyHash (.ref a)) Q E s
 same: ∀ {A:N7} {E:G2->G5->Prop} {s:G5} {x y:K} {a b:P2} {Q:N4->G5->Prop},A.units+8<cLine->is s.heap x a->is s.heap y b->Q (decide (x=y)) s->R5 (S0 prog w) A (eqBool (.ref a) (.ref b)) Q E s
 quiet: ∀ {A:N7} {E:G2->G5->Prop} {s:G5} {x:K} {a:P2} {Q:N4->G5->Prop},is s.heap x a->Q true s->R5 (S0 prog w) A (pS 8 (.ref a)) Q E s
 cls: ∀ {A:N7} {E:G2->G5->Prop} {s:G5} {x:K} {a:P2} {Q:N4->G5->Prop},is s.heap x a->Q false s->R5 (S0 prog w) A (aL 8 (.ref a)) Q E s
 byv: ∀ {A:N7} {E:G2->G5->Prop} {s:G5} {x:K} {a:P2} {Q:N4->G5->Prop},is s.heap x a->Q true s->R5 (S0 prog w) A (gF 8 (.ref a)) Q E s
section
variable {prog:T7}{w:C1}{A:N7}{E:G2->G5->Prop}{s:G5}{K:Type}[DecidableEq K]
def Lb (M:Ţ prog w K){x:K}{a:P2}{G0H:G0 G2}{Q:N4->G5->Prop}(hx:M.is s.heap x a)(hs: ∀y∈G0H,∃k b,y= .ref b/\M.is s.heap k b)(q:Q false s):R5 (S0 prog w) A (dE (.ref a) G0H) Q E s:=by
 unfold dE;refine wpAny_bind (yC G0H (λy hy Q' q'=> ?_) (P0 q));obtain⟨k,b,rfl,hk⟩:=hs y hy
 by_cases c:(a==b)=true
 ·simp only [c,Bool.true_or,↓reduceIte];exact P0 q'
 ·simp only [c,show u3 (.ref a)=false from rfl,oP,mI,F7,↓reduceIte];refine wpAny_bind (M.quiet hx (wpAny_bind (M.quiet hk (wpAny_bind (M.cls hx (wpAny_bind (M.cls hk ?_)))))));exact P0 q'
structure ą (M:Ţ prog w K)(L:N4)(is:K->P2->Prop)(f:P1×G2->K)(es:S9 (P1×G2))(t:N6)(ks:G0 K):Prop where
 laid:Laid t (es.toList.map (·.1))
 led:t.led=L
 lean:es.size*5<t.mask*3
 mask:t.mask<=8*es.size+16
 each: ∀e∈es.toList,e.1=M.hash (f e)/\ ∃b,e.2= .ref b/\is (f e) b
 nd:(es.toList.map f).Nodup
 mem: ∀k,k∈es.toList.map f↔k∈ks
theorem Jl: ∀ {xs ys:G0 K},xs.Nodup->(∀x∈xs,x∈ys)->xs.length<=ys.length
 | [],_,_,_=>N9 _
 |x::xs,ys,nd,h=>by
  obtain⟨n1,n2⟩:=E1.mp nd;have le:=Jl (ys:=ys.erase x) n2 λy hy=>(dH (λ(e:y=x)=>n1 (by rw [<-e];exact hy))).mpr (h y (.tail _ hy))
  rw [bX (h x (.head _))] at le;have pos:=cM (h x (.head _));rw [R3];omega
def ą.tab {M:Ţ prog w K}{L:N4}{is:K->P2->Prop}{f:P1×G2->K}{es:S9 (P1×G2)}{t:N6}{ks:G0 K}(S:ą M L is f es t ks):Tab L es.size t:=
 ⟨S.laid.fits (by rw [G3,D3]),S.led,S.laid.dum,λ_=>S.laid.rise⟩
def ą.imp {M:Ţ prog w K}{L:N4}{is is':K->P2->Prop}{f:P1×G2->K}{es:S9 (P1×G2)}{t:N6}{ks:G0 K}(S:ą M L is f es t ks)(h: ∀k b,is k b->is' k b):ą M L is' f es t ks:=
 ⟨S.laid,S.led,S.lean,S.mask,λe he=>by
  obtain⟨a,b,c,d⟩:=S.each e he;exact⟨a,b,c,h _ _ d⟩,S.nd,S.mem⟩
def Rc {M:Ţ prog w K}{L:N4}{is:K->P2->Prop}{f:P1×G2->K}{es:S9 (P1×G2)}{ep:G6}{t:N6}{ks:G0 K}{a b:P2}{k:K}{Q:N4->G5->Prop}(hu:A.units+8<cLine)(S:ą M L is f es t ks)(ho:s.heap.get? a=some (yt es ep t))(few:es.size<1000)(to: ∀k b,is k b->M.is s.heap k b)(hk:is k b)
 (q: ∀r f' ã Þ t' h' tk,ą M L is f' ã t' (k::ks)->h'.get? a=some (yt ã Þ t')->A8 a s.heap h'->Q r {s with heap:=h',toks:=tk}):R5 (S0 prog w) A (setAdd a (.ref b)) Q E s:=by
 refine O8 (wpAny_bind (M.hashed hu (to _ _ hk) λtk=>O8 ?_));show R5 _ _ (pF a (.ref b) (M.hash k) (99999+1)) _ _ _;have at_: ∀ (i:G6) (y:G2),es[i]? =some (M.hash k,y)->(M.hash k,y)∈es.toList:=λi y e=>by
  rw [<-M8] at e;exact P8 e
 refine La (s:= {s with toks:=tk}) (eqk:=λi=>match es[i]? with
  |some e=>decide (f e=k)
  |none=>false) (bv:=true) S.laid (R8 S.mask (by omega)) S.lean ho (λi y e=> ?_) (λQ' q'=> ?_) (λi y e Q' q'=> ?_) (λQ' q'=>M.byv (to _ _ hk) q') (λno ã Þ t' h' pe l' mk ln ld o' sb=> ?_) (λi y e ek=> ?_)
 ·obtain⟨_,c,d,_⟩:=S.each _ (at_ i y e);exact⟨c,d⟩
 ·refine Lb M (to _ _ hk) (λy hy=> ?_) q';obtain⟨e,he,rfl⟩:=R6.mp hy;obtain⟨_,c,d,i⟩:=S.each e (by rw [Array.toList_filter] at he;exact(B0.mp he).1);exact⟨_,c,d,to _ _ i⟩
 ·obtain⟨_,c,d,i'⟩:=S.each _ (at_ i y e);have d:y= .ref c:=d;subst d;simp only [e] at q';exact O8 (M.same hu (to _ _ i') (to _ _ hk) q')
 ·have kn:k ∉ ks:=λz=>by
   obtain⟨e,he,fe⟩:=R6.mp ((S.mem k).mpr z);obtain⟨i,hi⟩:=bO he;obtain⟨e1,e2⟩:=e;have h1:=(S.each _ he).1;rw [fe] at h1;have h1:e1=M.hash k:=h1;subst h1;have hi:es[i]? =some (M.hash k,e2):=by rw [<-M8];exact hi
   have:=no i e2 hi;simp only [hi,fe,G0g] at this;cases this
  have same: ∀e∈es.toList,(if e=(M.hash k,.ref b) then k else f e)=f e:=λe he=>by
   by_cases c:e=(M.hash k,.ref b)
   ·rw [R9 c];obtain⟨_,c',d,i⟩:=S.each e he;rw [c] at d;cases d;exact M.inj (to _ _ hk) (to _ _ i)
   ·rw [S4 c]
  have me:(es.toList.map λe=>if e=(M.hash k,.ref b) then k else f e)=es.toList.map f:=C7 same;have pk:=pe.map λe=>if e=(M.hash k,.ref b) then k else f e
  rw [V0,T4,me] at pk;have one:(rT (λe=>if e=(M.hash k,.ref b) then k else f e) [(M.hash k,.ref b)])= [k]:=by simp
  rw [one] at pk;have sz:ã.size=es.size+1:=by
   have:=pe.length_eq
   rwa [D3,D3,tT] at this
  refine q true (λe=>if e=(M.hash k,.ref b) then k else f e) ã Þ t' h' tk ⟨l',ld.trans S.led,ln,?_,λe he=> ?_,pk.nodup_iff.mpr ?_,λm=>pk.mem_iff.trans ?_⟩ o' sb
  ·have:=S.mask;rw [sz];omega
  ·have z:=pe.mem_iff.mp he;rw [V0] at z;rcases D8.mp z with z|z
   ·rw [same e z];exact S.each e z
   ·have z:=G8.mp z;subst z;rw [R9 rfl];exact⟨rfl,b,rfl,hk⟩
  ·rw [X5];refine⟨S.nd,by simp,λx hx y hy e=> ?_⟩;have:y=k:=by simpa using hy
   subst this;subst e;exact kn ((S.mem _).mp hx)
  ·rw [D8,S.mem m,G8,R7,or_comm]
 ·have hin:k∈ks:=by
   simp only [e,aK] at ek;rw [<-ek];exact(S.mem _).mp (bZ (at_ i y e))
  refine q false f es ep t s.heap tk ⟨S.laid,S.led,S.lean,S.mask,S.each,S.nd,λm=>(S.mem m).trans ?_⟩ ho (bM _ _)
  ·rw [R7];exact⟨.inr,λz=>z.elim (λe=>e ▸ hin) id⟩
end
section
variable {prog:T7}{w:C1}{A:N7}{E:G2->G5->Prop}{s:G5}
def Lc (n:G6){v:G2}(h:u3 v=true):aL n v=pure false:=by
 cases v<;>first|(cases h;done)|simp [aL]
def BV {n:P1}{v:G2}(h:(intKind prog w).is n v=true): ∃tk,v= .int n tk:=by
 cases v<;>simp [intKind,sS] at h;exact⟨_,by rw [h]⟩
def GD {ks:G0 P1}{vs:G0 G2}(h:ItemsAre (intKind prog w) ks vs): ∀v∈vs,∃n tk,v= .int n tk:=by
 induction h with
 |nil=>exact λv hv=>absurd hv F5
 |cons h1 _ ih=>
  intro v hv;rcases R7.mp hv with rfl|hv
  ·obtain⟨tk,e⟩:=BV h1;exact⟨_,tk,e⟩
  ·exact ih v hv
def Re (d:G6){x:G0 P1}{a:P2}{Q:N4->G5->Prop}:lJ (intKind prog w) s.heap x a->Q false s->R5 (S0 prog w) A (aL (d+1) (.ref a)) Q E s
 |⟨_,_,_,ho,hc,hd,hi⟩,q=>by
  unfold aL;refine wpAny_bind (iY (T:= "tuple") ⟨_,ho,hc⟩ ?_);simp only [aW,↓reduceIte,pure_bind,iN,F7];refine wpAny_bind (dM ho hd (wpAny_bind ?_));simp only [<-V9];refine yC _ (λv hv Q' q'=> ?_) (P0 q);rw [Lc d (hi.byValue v hv)];exact P0 q'
def Ld (d:G6)(m:P1)(tk:Tok):gF d (.int m tk)=pure true:=by cases d<;>rfl
def Rf (d:G6){x:G0 P1}{a:P2}{Q:N4->G5->Prop}:lJ (intKind prog w) s.heap x a->Q true s->R5 (S0 prog w) A (gF (d+1) (.ref a)) Q E s
 |⟨_,_,_,ho,hc,hd,hi⟩,q=>by
  unfold gF;refine wpAny_bind (Y2 (T:= "tuple") ⟨_,ho,hc⟩ F.slot_tuple_hash.lookup ?_);refine wpAny_bind (dM ho hd (wpAny_bind ?_));simp only [cB,<-V9];refine yC _ (λv hv Q' q'=> ?_) (P0 q);obtain⟨m,tk,rfl⟩:=GD hi v hv;rw [Ld];exact P0 q'
noncomputable def uh (prog:T7)(w:C1):Ţ prog w (G0 P1) where
 is:=λh x a=>lJ (intKind prog w) h x a
 hash:=X6 (intKind prog w)
 inj:=λhx hy=>hx.inj hy
 keep:=λk ⟨o,items,n,ho,hc,hd,hi⟩=>⟨o,items,n,k _ o hc ho,hc,hd,hi⟩
 hashed:=λhu hk q=>lK (by omega) hk (q _)
 same:=λhu hx hy q=>qM (by omega) hx hy q
 quiet:=λhk q=>wpAny_eqIsQuiet_tuple hk q
 cls:=λhk q=>Re 7 hk q
 byv:=λhk q=>Rf 7 hk q
end
end L2
namespace L2
open PySem PySem.Spec PyProof.Rows HT PySem.SeqAt
section
variable {prog:T7}{w:C1}{A:N7}{E:G2->G5->Prop}{a I:P2}{fp wr:G0 P2}{n:G6}{P:G6->G2->Prop}{St:G6->A7->Prop}{K:Type}[DecidableEq K]{M:Ţ prog w K}{L:N4}{is:K->P2->Prop}{key:G6->K}
theorem JN {R:qE->G5->Prop}(hu:A.units+16<cLine)(W:Walks prog w A.in1 I fp wr n P St)(num: ∀i v,P i v-> ∃b,v= .ref b/\is (key i) b)(na:a ∉ fp)(B:G0 K)(few:B.length<1000)(inB: ∀i,i<n->key i∈B)(nt: ∀i h,St i h-> ∀b∈wr,∀o,h.get? b=some o->o.cls≠ .type "tuple"):
 ∀ (k i:G6) (s:G5) (f:P1×G2->K) (es:S9 (P1×G2)) (ep:G6) (t:N6),i+k=n->St i s.heap->s.heap.get? a=some (yt es ep t)->(∀k b,is k b->M.is s.heap k b)->ą M L is f es t ((P5 i).map key).reverse->
  (∀h' tk f' ã Þ t',h'.get? a=some (yt ã Þ t')->ą M L is f' ã t' ((P5 n).map key).reverse->(∀b o,b≠a->b ∉ wr->s.heap.get? b=some o->h'.get? b=some o)->R (.ok (.ret .none)) {s with heap:=h',toks:=tk})->
  bJ (S0 prog w) A (.builtin "set.update.loop" ⟨[.ref a,.ref I],[]⟩) R s
 |0,i,s,f,es,ep,t,hk,st,ha,to,S,q=>by
  obtain rfl:i=n:=by omega
  refine aQ VT ?_;rw [aC ZR];exact wpAny_bind (W.done s _ _ st λh' tk kept=>P0 (q h' tk f es ep t (kept _ _ (λz=>na (W.sub _ z)) ha) S λb o _ nb e=>kept b o nb e))
 |k+1,i,s,f,es,ep,t,hk,st,ha,to,S,q=>by
  refine aQ VT ?_;rw [aC ZR];refine wpAny_bind (W.item i s _ _ (by omega) st λv h1 tk1 pv st1 X0j=> ?_);obtain⟨b,rfl,hb⟩:=num i v pv;have ha1:=X0j _ _ (λz=>na (W.sub _ z)) ha;have to1: ∀k b,is k b->M.is h1 k b:=λk b z=>M.keep (λc o hc e=>X0j c o (λm=>nt i _ st c m o e hc) e) (to k b z)
  refine wpAny_bind (O8 (Rc (s:= {s with heap:=h1,toks:=tk1}) (show A.units+1+8<cLine by omega) S ha1 (Q6 (by
   have:=Jl (ys:=B) S.nd λk hk=>by
    obtain⟨j,hj,rfl⟩:=R6.mp (A9.mp ((S.mem k).mp hk));exact inB j (by have:=D1.mp hj;omega)
   rwa [G3,D3] at this) few) to1 hb λr f2 es2 æ t2 h2 tk2 S2 ha2 X0k=>P0 ⟨iK ZR _,?_⟩))
  have S3:ą M L is f2 es2 t2 ((P5 (i+1)).map key).reverse:=by
   rw [cR,T4,List.reverse_append];exact S2
  have kep: ∀c o,o.cls= .type "tuple" ->h1.get? c=some o->h2.get? c=some o:=λc o hc e=>X0k.extBut _ _ (λz=>by
   subst z;rw [show h1.get? c=some (yt es ep t) from ha1] at e;cases e;exact absurd (show qC "set" =qC "tuple" from hc) (by decide)) e
  refine JN hu W num na B few inB nt k (i+1) {s with heap:=h2,toks:=tk2} f2 es2 æ t2 (by omega) (W.frame _ _ _ st1 λb hb o e=>X0k.extBut _ _ (λz=>na (z ▸ hb)) e) ha2 (λk b z=>M.keep kep (to1 k b z)) S3 λh' tk' f' ã Þ t' ha' S' X09=> ?_
  exact q h' tk' f' ã Þ t' ha' S' λb o ba bw e=>X09 b o ba bw (X0k.extBut _ _ ba (X0j b o bw e))
def QD (L:N4)(f:P1×G2->K):ą M L is f #[] (.fresh 0 0 L) []:=⟨GA 0 0 L,rfl,(by show 0*5<7*3;decide),(by show 7<=8*0+16;decide),λe he=>absurd he (by simp),by simp,λk=>by simp⟩
variable {s:G5}
def Rg {l:P2}{vs:G0 G2}{ep:G6}{T:W3}{Q:D4 G2->G5->Prop}(B:G0 K)(X0I:B.length<1000)(inB: ∀i,i<vs.length->key i∈B)(hu:A.units+32<cLine)(calm:A.handled=none)(hT:T= "list" \/T= "tuple")
 (hl: ∃o,s.heap.get? l=some o/\o.cls= .type T/\ ∃c,o.data= .seq vs.toArray c)(hM: ∀i v,vs[i]? =some v-> ∃b,v= .ref b/\is (key i) b)(to: ∀k b,is k b->M.is s.heap k b)(ha:s.heap.get? a=some (yt #[] ep (.fresh 0 0 (wK w))))(la:l≠a)
 (k: ∀h' tk f' ã Þ t',h'.get? a=some (yt ã Þ t')->ą M (wK w) is f' ã t' ((P5 vs.length).map key).reverse->(∀b o,b≠a->s.heap.get? b=some o->h'.get? b=some o)->Q (some .none) {s with heap:=h',toks:=tk}):
 R5 (S0 prog w) A (rG (.ref a) "__init__" [.ref l]) Q E s:=by
 have ty:s.TypeIs (.ref a) "set" :=⟨_,ha,rfl⟩;refine O6 ty F.called_set.init (qF (pG F.called_set.init.plain Wn (YC ty ?_)));have f1:=VU;have f2:=VV;have f3:=Xg;have f4:=Xh;obtain⟨⟨oc,od,odt,Ŝ⟩,Ψ,hc,c,hd⟩:=hl;simp only at hc hd;subst hc hd;have state:=λ{P:S9 (P1×G2)×G6×N6->G5->Prop} {E':G2->G5->Prop} {A':N7}=>E6 (prog:=prog) (w:=w) (A:=A') (E:=E') (Q:=P) (s:=s) ha rfl (Nt (wK w)).tab.fits
 have far:a≠s.heap.objs.size:=λz=>B8 _ (z ▸ D9 ha)
 have X1e:l≠s.heap.objs.size:=λz=>B8 _ (z ▸ D9 Ψ)
 have na:a ∉ [s.heap.objs.size,l]:=by simp [far,la.symm]
 have sv:vs.toArray.size=vs.length:=R4 ..;have fin: ∀ {o:Obj} h' tk f' ã Þ t',h'.get? a=some (yt ã Þ t')->ą M (wK w) is f' ã t' ((P5 vs.toArray.size).map key).reverse->(∀b ob,b≠a->b ∉ [s.heap.objs.size]->(s.heap.push o).get? b=some ob->h'.get? b=some ob)->Q (some .none) {s with heap:=h',toks:=tk}:=λh' tk f' ã Þ t' e S kept=>by
  rw [sv] at S;exact k h' tk f' ã Þ t' e S λb ob nb q=>kept b ob nb (λz=>B8 _ (G8.mp z ▸ D9 q)) (G9 _ q)
 have to1: ∀ (o:Obj) (k:K) (b:P2),is k b->M.is (s.heap.push o) k b:=λo k b z=>M.keep (λc ob hc e=>G9 _ e) (to k b z)
 rcases hT with rfl|rfl
 ·have tl:s.TypeIs (.ref l) "list" :=⟨_,Ψ,rfl⟩;have isl:s.heap.IsList l vs.toArray:=⟨_,Ψ,rfl,c,rfl⟩
  wp_walk using state,aJ isl
  refine JN (f:=λ_=>key 0) (M:=M) (is:=is) (key:=key) (show A.units+1+16<cLine by omega) (nM (prog:=prog) (w:=w) (A:=A.in1.in1) calm s.heap.objs.size l X1e vs.toArray) (λi v hv=>hM i v (by simpa using hv)) na B X0I (by rw [sv];exact inB) (λi h st b hb o e=> ?_) vs.toArray.size 0 _ #[] ep _ (E3 _) ⟨⟨_,S6 _ rfl,rfl,rfl⟩,⟨_,G9 _ Ψ,rfl,c,rfl⟩⟩ (G9 _ ha) (to1 _) (QD _ _) λh' tk f' ã Þ t' e S kept=>P0 (P0 (fin h' tk f' ã Þ t' e S kept))
  obtain⟨⟨o',e',c',_⟩,_⟩:=st;rw [G8.mp hb,e'] at e;cases e;rw [c'];decide
 ·have tl:s.TypeIs (.ref l) "tuple" :=⟨_,Ψ,rfl⟩;have isl:s.heap.IsTuple l vs.toArray:=⟨_,Ψ,rfl,c,rfl⟩
  wp_walk using state,lA isl
  refine JN (f:=λ_=>key 0) (M:=M) (is:=is) (key:=key) (show A.units+1+16<cLine by omega) (IW (prog:=prog) (w:=w) (A:=A.in1.in1) calm s.heap.objs.size l X1e vs.toArray) (λi v hv=>hM i v (by simpa using hv)) na B X0I (by rw [sv];exact inB) (λi h st b hb o e=> ?_) vs.toArray.size 0 _ #[] ep _ (E3 _) ⟨⟨_,S6 _ rfl,rfl,rfl⟩,⟨_,G9 _ Ψ,rfl,c,rfl⟩⟩ (G9 _ ha) (to1 _) (QD _ _) λh' tk f' ã Þ t' e S kept=>P0 (P0 (fin h' tk f' ã Þ t' e S kept))
  obtain⟨⟨o',e',c',_⟩,_⟩:=st;rw [G8.mp hb,e'] at e;cases e;rw [c'];decide
def Rh {l:P2}{vs:G0 G2}{T:W3}{Q:G2->G5->Prop}(B:G0 K)(X0I:B.length<1000)(inB: ∀i,i<vs.length->key i∈B)(hu:A.units+40<cLine)(calm:A.handled=none)(hT:T= "list" \/T= "tuple")
 (hl: ∃o,s.heap.get? l=some o/\o.cls= .type T/\ ∃c,o.data= .seq vs.toArray c)(hM: ∀i v,vs[i]? =some v-> ∃b,v= .ref b/\is (key i) b)(to: ∀k b,is k b->M.is s.heap k b)
 (k: ∀h' tk f' ã Þ t',h'.get? s.heap.objs.size=some (yt ã Þ t')->ą M (wK w) is f' ã t' ((P5 vs.length).map key).reverse->(∀b o,s.heap.get? b=some o->h'.get? b=some o)->Q (.ref s.heap.objs.size) {s with heap:=h',toks:=tk}):
 R5 (S0 prog w) A (call (.type "set") [.ref l]) Q E s:=by
 have fits:xH "set" ⟨[.ref l],[]⟩=pure ():=by kernel_rfl
 have X0l:mY "set.__new__" ⟨[.type "set",.ref l],[]⟩=pure ():=by kernel_rfl
 obtain⟨o,Ψ,r⟩:=hl;refine L2.UZ (Made:=λv s₁=>v= .ref s.heap.objs.size/\s₁= {s with heap:=s.heap.push (yt #[] 0 (.fresh 0 0 (wK w)))}) F.called_set fits
  (qF (pG F.called_set.plain F.entry_set_new (IT X0l (Nu ⟨rfl,rfl⟩)))) λv s₁ ⟨ev,es⟩=> ?_
 subst ev es;have at_:(s.heap.push (yt #[] 0 (.fresh 0 0 (wK w)))).get? s.heap.objs.size=some (yt #[] 0 (.fresh 0 0 (wK w))):=S6 _ rfl;refine⟨⟨_,at_,rfl⟩,Rg (s:= {s with heap:=s.heap.push (yt #[] 0 (.fresh 0 0 (wK w)))}) (M:=M) (is:=is) (key:=key) B X0I inB (show A.units+1+32<cLine by omega) calm hT ⟨o,G9 _ Ψ,r⟩ hM (λk b z=>M.keep (λc o hc e=>G9 _ e) (to k b z)) at_ (λz=>B8 _ (z ▸ D9 Ψ)) λh' tk f' ã Þ t' e S kept=>⟨rfl,k h' tk f' ã Þ t' e S λb ob q=>kept b ob (λz=>B8 _ (z ▸ D9 q)) (G9 _ q)⟩⟩
def Xq {es:S9 (P1×G2)}{ep:G6}{t:N6}{κ:G0 G2->SortKind}{U:D7->Prop}{R:D7->D7->N4}{Q:G2->G5->Prop}(calm:A.handled=none)(S:Tab (wK w) es.size t)(ha:s.heap.get? a=some (yt es ep t))(few:es.size<1000)(x: ∀e∈es.toList,U (e.2,e.2))
 (hk: ∀ (vs:G0 G2) (s0:G5) (h':A7),2<=vs.length->(∀v∈vs,U (v,v))->VZ s.heap h'->R5 (S0 prog w) A.in1.in1 (uS vs.toArray) (λk s'=>k=κ vs/\HT.Only s0 h' s') (λ_ _=>False) {s0 with heap:=h'})(ak: ∀ (vs:G0 G2) (s0:G5) (h':A7),VZ s.heap h'->YF prog w A.in1.in1 (HT.Only s0 h') (κ vs) U R)(o:Õ U R)
 (k: ∀ (h1 h':A7) d (tk c:G6) (out:G0 G2),VZ s.heap h1->VZ h1 h'->h'.get? h1.objs.size=some (nQ "list" out.toArray c)->out.Perm (es.toList.map (·.2))->out.Pairwise (λx y=>R (y,y) (x,x)=false)->
  Q (.ref h1.objs.size) {s with heap:=h',drawn:=d,toks:=tk}):R5 (S0 prog w) A (call (.builtin "sorted") [.ref a]) Q E s:=by
 refine Calls.call_function_entry kind_sorted plain_sorted entry_sorted (args_sorted1 _) (wpAny_bind (P0 (wpAny_bind (wpAny_bind (u4 (nB (Gy calm S ha few) λres s' listed=> ?_))))));obtain⟨h1,d,tk,acc,c0,rfl,rfl,made,kept,p⟩:=listed;refine wpAny_bind (G0q made (P0 ?_));have len:acc.toList.length=es.size:=by rw [p.length_eq,G3,D3]
 have hz:acc.toList.length<=sizeLine:=by rw [len];exact R8 (T8 few) (by decide)
 have fresh:(h1.push (nQ "list" acc.toList.toArray 0)).get? h1.objs.size=some (nQ "list" acc.toList.toArray 0):=S6 _ rfl;have kp: ∀h',Oo {s with heap:=h1.push (nQ "list" acc.toList.toArray 0),drawn:=d,toks:=tk} h1.objs.size h'->VZ h1 h':=λh' p b x e=>p b x (M7 (D9 e)) (G9 _ e)
 have ks: ∀h',Oo {s with heap:=h1.push (nQ "list" acc.toList.toArray 0),drawn:=d,toks:=tk} h1.objs.size h'->VZ s.heap h':=λh' p b x e=>kp h' p b x (kept b x e)
 have it: ∀v∈acc.toList,U (v,v):=λv hv=>by
  obtain⟨e,he,rfl⟩:=R6.mp (p.mem_iff.mp hv);exact x e he
 refine wpAny_bind (xL (wpAny_bind (O8 (L6 slot_list_sort ⟨_,fresh,rfl⟩ entry_list_sort (NG (s:= {s with heap:=h1.push (nQ "list" acc.toList.toArray 0),drawn:=d,toks:=tk}) (κ:=κ acc.toList) (U:=U) (R:=R) fresh hz
  (λh2 h' p=>hk _ _ h' h2 it (ks h' p)) (λh' p=>ak _ _ h' (ks h' p)) o it λout c tk' h' p' e1 e2 e3=>⟨_,rfl,?_⟩) (args_list_sort _)))) hz)
 refine P0 ⟨_,rfl,k h1 h' d tk' c out kept (kp h' p') e1 (e2.trans p) ?_⟩;rw [X3] at e3;exact e3
end
theorem WP {prog:T7}{w:C1}: ∀ {vs:G0 G2} {ns:G0 P1},iZ vs ns->ItemsAre (intKind prog w) ns vs
 |_,_,.nil=> .nil
 |_,_,.cons n t a=> .cons (by simp [intKind,sS]) (WP a)
def EG {X:Cx}{À:G0 (P2×Obj)}{σ:St}{H:Hp}{s:G5}(I:Inv X À σ H s)(k:G0 P1)(b:P2)(h:H b=some (.tup (k.map V.int))):(uh X.prog X.w).is s.heap k b:=by
 obtain⟨_,us,r2,o,e,c,_,n,d⟩:=I.hok b _ h;exact⟨o,us.toArray,n,e,c,d,WP (VL r2)⟩
end L2
namespace L2
open PySem PySem.Spec PyProof.Rows PySem.SeqAt HT
theorem BW {α:Type}{R:α->α->Prop}(no: ∀x y,R x y-> ¬R y x): ∀ {xs ys:G0 α},xs.Pairwise R->ys.Pairwise R->(∀a,a∈xs↔a∈ys)->xs=ys
 | [],[],_,_,_=>rfl
 | [],y::ys,_,_,m=>absurd ((m y).mpr P4) F5
 |x::xs,[],_,_,m=>absurd ((m x).mp P4) F5
 |x::xs,y::ys,px,py,m=>by
  obtain⟨p1,p2⟩:=Z0.mp px;obtain⟨q1,q2⟩:=Z0.mp py;have e:x=y:=by
   rcases R7.mp ((m x).mp P4) with e|e
   ·exact e
   rcases R7.mp ((m y).mpr P4) with e'|e'
   ·exact e'.symm
   exact absurd (p1 y e') (no _ _ (q1 x e))
  subst e;rw [BW no p2 q2 λa=>⟨λh=> ?_,λh=> ?_⟩]
  ·rcases R7.mp ((m a).mp (R1 _ h)) with e|e
   ·subst e;exact absurd (p1 _ h) (no _ _ (p1 _ h))
   ·exact e
  ·rcases R7.mp ((m a).mpr (R1 _ h)) with e|e
   ·subst e;exact absurd (q1 _ h) (no _ _ (q1 _ h))
   ·exact e
noncomputable def ĭ (T:G0 (G0 P1))(n p:G6):G0 G6:=(P5 n).filter λj=>wk T n p j&&wk T n j p
noncomputable def Op (T:G0 (G0 P1))(n:G6):G0 (G0 G6):=((P5 n).filter λp=>decide ((ĭ T n p).headD 0=p)).map (ĭ T n)
section
variable {T:G0 (G0 P1)}{n e:G6}
def EH (p:G6):IsS n (ĭ T n p):=⟨_,rfl⟩
variable {p:G6}
def ě {j:G6}:j∈ĭ T n p↔j<n/\wk T n p j=true/\wk T n j p=true:=by
 unfold ĭ;rw [B0,D1,F4]
def Ri (hp:p<n):p∈ĭ T n p:=ě.mpr ⟨hp,Xj T n p,Xj T n p⟩
def Le {q:G6}(hp:p<n)(h:q∈ĭ T n p):ĭ T n q=ĭ T n p:=by
 obtain⟨hq,h1,h2⟩:=ě.mp h;refine(EH q).ext (EH p) λj=> ?_
 rw [ě,ě];exact⟨λ⟨a,b,c⟩=>⟨a,wT hq h1 b,wT hq c h2⟩,λ⟨a,b,c⟩=>⟨a,wT hp h2 b,wT hp c h1⟩⟩
def Lg (hp:p<n): ∃r,ĭ T n p=(ĭ T n p).headD 0::r:=by
 cases h:ĭ T n p with
 |nil=>have:=Ri (T:=T) hp;rw [h] at this;cases this
 |cons x r=>exact⟨r,rfl⟩
def Lh (hp:p<n):(ĭ T n p).headD 0<n/\ĭ T n ((ĭ T n p).headD 0)=ĭ T n p:=by
 obtain⟨r,h⟩:=Lg (T:=T) hp;have m:(ĭ T n p).headD 0∈ĭ T n p:=by
  generalize (ĭ T n p).headD 0=x at h;rw [h];exact P4
 exact⟨(ě.mp m).1,Le hp m⟩
def Β {S:G0 G6}:S∈Op T n↔ ∃p,p<n/\S=ĭ T n p:=by
 unfold Op;rw [R6];constructor
 ·rintro ⟨p,hp,rfl⟩;exact⟨p,D1.mp (B0.mp hp).1,rfl⟩
 ·rintro ⟨p,hp,rfl⟩;obtain⟨a,b⟩:=Lh (T:=T) hp;exact⟨(ĭ T n p).headD 0,B0.mpr ⟨D1.mpr a,S1 (by rw [b])⟩,b⟩
end
end L2
namespace L2
open PySem PySem.Spec PyProof.Rows HT PySem.SeqAt
section
variable {prog:T7}{w:C1}{A:N7}{E:G2->G5->Prop}{s:G5}
inductive Î (prog:T7)(w:C1)(h:A7):G0 (G0 P1)->G0 G2->Prop
 |nil:Î prog w h [] []
 |cons {r:G0 P1} {b:P2} {T:G0 (G0 P1)} {vs:G0 G2}:lJ (intKind prog w) h r b->Î prog w h T vs->Î prog w h (r::T) (.ref b::vs)
variable {h:A7}
def Î.one: ∀ {T U:G0 (G0 P1)} {vs:G0 G2},Î prog w h T vs->Î prog w h U vs->T=U
 |_,_,_,.nil,.nil=>rfl
 |_,_,_,.cons a x,.cons b y=>by rw [a.inj b,x.one y]
def Î.keep {h':A7}(k:Rb h h'): ∀ {T:G0 (G0 P1)} {vs:G0 G2},Î prog w h T vs->Î prog w h' T vs
 |_,_,.nil=> .nil
 |_,_,.cons ⟨o,items,n,ho,hc,hd,hi⟩ x=> .cons ⟨o,items,n,k _ o hc ho,hc,hd,hi⟩ (x.keep k)
def Î.each: ∀ {T:G0 (G0 P1)} {vs:G0 G2},Î prog w h T vs-> ∀v∈vs,∃r b,v= .ref b/\lJ (intKind prog w) h r b
 |_,_,.nil,v,hv=>absurd hv F5
 |_,_,.cons a x,v,hv=>by
  rcases R7.mp hv with e|hv
  ·exact⟨_,_,e,a⟩
  ·exact x.each v hv
def Wp (prog:T7)(w:C1)(h:A7)(T:G0 (G0 P1))(a:P2):Prop:= ∃o items n,h.get? a=some o/\o.cls= .type "tuple" /\o.data= .seq items n/\Î prog w h T items.toList
noncomputable def GE (prog:T7)(w:C1)(T:G0 (G0 P1)):P1:=nJ (Y5 (T.map (X6 (intKind prog w))))
theorem Ue {Q:S9 P1->G5->Prop}(hu:A.units+4<cLine): ∀ {vs:G0 G2} {U:G0 (G0 P1)} (b:S9 P1) (s1:G5),s1.heap=s.heap->Î prog w s.heap U vs->(∀tk,Q (b++(U.map (X6 (intKind prog w))).toArray) {s1 with toks:=tk})->
 R5 (S0 prog w) A (forIn vs b λx r=>do let h <-pyHash x;pure (aO (r.push h))) Q E s1
 |_,_,b,s1,_,.nil,q=>P0 (by have:=q s1.toks;simpa using this)
 |_,_,b,s1,e1,.cons (r:=r) (T:=U) a x,q=>by
  rw [cQ];refine wpAny_bind (wpAny_bind (lK (by omega) (by rw [e1];exact a) (P0 ?_)));exact Ue hu (b.push (X6 (intKind prog w) r)) _ e1 x λtk=>by
   have:=q tk;rw [T6] at this;simpa using this
variable {T:G0 (G0 P1)}{a:P2}
def NO {Q:P1->G5->Prop}(hu:A.units+8<cLine)(hT:Wp prog w s.heap T a)(q: ∀tk,Q (GE prog w T) {s with toks:=tk}):R5 (S0 prog w) A (pyHash (.ref a)) Q E s:=by
 obtain⟨o,items,n,ho,hc,hd,hi⟩:=hT;have ty:s.TypeIs (.ref a) "tuple" :=⟨o,ho,hc⟩;have room:A.units<cLine:=by omega
 have slot:=λ{M:qS} {A':N7} {E':G2->G5->Prop} {P:D4 G2->G5->Prop}=>Y2 (M:=M) (A:=A') (E:=E') (Q:=P) ty F.slot_tuple_hash.lookup
 unfold pyHash pyHashByItsType;refine wpAny_bind (rV (.inr room) (wpAny_bind (slot ?_)));rw [S4 (by simp)];refine wpAny_bind (slot (wpAny_bind (cY ty gZ (L6 gZ ty qN ?_ (pX _)))));show R5 _ _ (aZ (.ref a) >>= _) _ _ s;refine wpAny_bind (qO ho hd (wpAny_bind ?_));rw [<-V9];refine Ue (A:=A.in1) (show A.units+1+4<cLine by omega) #[] s rfl hi λtk=> ?_
 have told:=q (tk+1);unfold GE nJ at told;show R5 _ _ (retInt (Y5 ((#[]:S9 P1)++(T.map (X6 (intKind prog w))).toArray).toList)) _ _ _;rw [show ((#[]:S9 P1)++(T.map (X6 (intKind prog w))).toArray).toList=T.map (X6 (intKind prog w)) by simp];refine iU ?_;show R5 _ _ (cG _) _ _ _;unfold cG;split
 ·rename_i c;rw [R9 c] at told;exact P0 told
 ·rename_i c;rw [S4 c] at told;exact wpAny_bind (iC (P0 told))
def Î.len: ∀ {T:G0 (G0 P1)} {vs:G0 G2},Î prog w h T vs->T.length=vs.length
 |_,_,.nil=>rfl
 |_,_,.cons _ x=>by rw [R3,R3,x.len]
def Rj (d:G6){x:G0 P1}{a:P2}{Q:N4->G5->Prop}:lJ (intKind prog w) s.heap x a->Q true s->R5 (S0 prog w) A (pS (d+1) (.ref a)) Q E s
 |⟨_,_,_,ho,hc,hd,hi⟩,q=>by
  unfold pS;refine wpAny_bind (Y2 (T:= "tuple") ⟨_,ho,hc⟩ F.slot_tuple_eq.lookup (wpAny_bind (cC (T:= "tuple") ⟨_,ho,hc⟩ oK ?_)));simp only [iN,F7,↓reduceIte];refine wpAny_bind (dM ho hd (wpAny_bind ?_));simp only [cB,<-V9];refine yC _ (λv hv Q' q'=> ?_) (P0 q);rw [eqIsQuiet_byValue d (hi.byValue v hv)];exact P0 q'
variable {Q:N4->G5->Prop}
def Uf:Wp prog w s.heap T a->Q true s->R5 (S0 prog w) A (pS 8 (.ref a)) Q E s
 |⟨_,_,_,ho,hc,hd,hi⟩,q=>by
  unfold pS;refine wpAny_bind (Y2 (T:= "tuple") ⟨_,ho,hc⟩ F.slot_tuple_eq.lookup (wpAny_bind (cC (T:= "tuple") ⟨_,ho,hc⟩ oK ?_)));simp only [iN,F7,↓reduceIte];refine wpAny_bind (dM ho hd (wpAny_bind ?_));simp only [cB,<-V9];refine yC _ (λv hv Q' q'=> ?_) (P0 q);obtain⟨r,b,rfl,hr⟩:=hi.each v hv;exact wpAny_bind (Rj 6 hr (P0 q'))
def Li:Wp prog w s.heap T a->Q false s->R5 (S0 prog w) A (aL 8 (.ref a)) Q E s
 |⟨_,_,_,ho,hc,hd,hi⟩,q=>by
  unfold aL;refine wpAny_bind (iY (T:= "tuple") ⟨_,ho,hc⟩ ?_);simp only [aW,↓reduceIte,pure_bind,iN,F7];refine wpAny_bind (dM ho hd (wpAny_bind ?_));simp only [<-V9];refine yC _ (λv hv Q' q'=> ?_) (P0 q);obtain⟨r,b,rfl,hr⟩:=hi.each v hv;exact wpAny_bind (Re 6 hr (P0 q'))
def Lj:Wp prog w s.heap T a->Q true s->R5 (S0 prog w) A (gF 8 (.ref a)) Q E s
 |⟨_,_,_,ho,hc,hd,hi⟩,q=>by
  unfold gF;refine wpAny_bind (Y2 (T:= "tuple") ⟨_,ho,hc⟩ F.slot_tuple_hash.lookup (wpAny_bind (dM ho hd (wpAny_bind ?_))));simp only [cB,<-V9];refine yC _ (λv hv Q' q'=> ?_) (P0 q);obtain⟨r,b,rfl,hr⟩:=hi.each v hv;exact wpAny_bind (Rf 6 hr (P0 q'))
theorem vb: ∀ {ks:G0 P1} {vs:G0 G2},ItemsAre (intKind prog w) ks vs->ReadsAll h vs (ks.map lD) []
 |_,_,.nil=> .nil
 |_,_,.cons a x=>by
  obtain⟨tk,rfl⟩:=BV a;exact .cons (as:= []) (bs:= []) (.int _ _) (vb x)
theorem JP: ∀ {T:G0 (G0 P1)} {vs:G0 G2},Î prog w h T vs->ReadsAll h vs (T.map vd) []
 |_,_,.nil=> .nil
 |_,_,.cons ⟨_,_,_,ho,hc,hd,hi⟩ x=> .cons (as:= []) (bs:= []) (.tuple ho hc hd (vb hi)) (JP x)
def Rk {U:G0 (G0 P1)}{b:P2}(hu:A.units+8<cLine)(hT:Wp prog w s.heap T a)(hU:Wp prog w s.heap U b)(q:Q (decide (T=U)) s):R5 (S0 prog w) A (eqBool (.ref a) (.ref b)) Q E s:=by
 obtain⟨_,_,_,ho,hc,hd,hi⟩:=hT;obtain⟨_,_,_,ho',ι,hd',hi'⟩:=hU;have lay: ∀V:G0 (G0 P1),A5 (.tuple (V.map vd))=true:=λV=>by simp only [A5];exact vC V
 have dep:U4 (.tuple (T.map vd))<=4:=by simp only [U4];have:=yZ T;omega
 refine eqBoolOverData prog w A E s _ _ _ _ _ _ Q (.tuple ho hc hd (JP hi)) (.tuple ho' ι hd' (JP hi')) (lay T) (lay U) (by have:=tS (U4 (.tuple (T.map vd))) (U4 (.tuple (U.map vd)));omega) ?_;show Q (K9 (T.map vd) (U.map vd)) s;rw [wc];exact q
noncomputable def Lk (prog:T7)(w:C1):Ţ prog w (G0 (G0 P1)) where
 is:=λh T a=>Wp prog w h T a
 hash:=GE prog w
 inj:=λ⟨_,_,_,ho,_,hd,hi⟩ ⟨_,_,_,ho',_,hd',hi'⟩=>by
  rw [ho] at ho';cases ho';rw [hd] at hd';cases hd';exact hi.one hi'
 keep:=λk ⟨o,items,n,ho,hc,hd,hi⟩=>⟨o,items,n,k _ o hc ho,hc,hd,hi.keep k⟩
 hashed:=λhu hk q=>NO hu hk q
 same:=λhu hx hy q=>Rk hu hx hy q
 quiet:=λhk q=>Uf hk q
 cls:=λhk q=>Li hk q
 byv:=λhk q=>Lj hk q
end
def Rl (H:Hp):G0 V->G0 (G0 P1)->Prop
 | [],[]=>True
 |v::vs,r::T=>(∃c,v= .ref c/\H c=some (.tup (r.map V.int)))/\Rl H vs T
 |_,_=>False
def WQ (H:Hp)(T:G0 (G0 P1))(b:P2):Prop:= ∃us,H b=some (.tup us)/\Rl H us T
def NP (prog:T7)(w:C1)(H:Hp)(o:Obj)(Ts:G0 (G0 (G0 P1))):Prop:= ∃es ep t f,o=yt es ep t/\ą (Lk prog w) (wK w) (WQ H) f es t Ts
variable {H:Hp}
theorem Rm {X:Cx}{À:G0 (P2×Obj)}{σ:St}{s:G5}(I:Inv X À σ H s): ∀ {vs:G0 V} {T:G0 (G0 P1)} {us:G0 G2},Rl H vs T->Ç vs us->Î X.prog X.w s.heap T us
 | [],[],_,_,.nil=> .nil
 |_::_,r::_,_,⟨⟨c,e,hc⟩,x⟩,.cons rv y=>by
  subst e;cases rv;exact .cons (EG I r c hc) (Rm I x y)
def vj {X:Cx}{À:G0 (P2×Obj)}{σ:St}{s:G5}(I:Inv X À σ H s)(T:G0 (G0 P1))(b:P2)(h:WQ H T b):(Lk X.prog X.w).is s.heap T b:=by
 obtain⟨us,hb,x⟩:=h;obtain⟨_,its,rv,o,e,c,_,n,d⟩:=I.hok b _ hb;exact⟨o,its.toArray,n,e,c,d,by rw [List.toList_toArray];exact Rm I x rv⟩
theorem Xr {K:G7}: ∀ {T:G0 (G0 P1)} {vs:G0 V},Á K H (T.map wx) vs->Rl H vs T
 | [],vs,r=>by
  have:vs= []:=r;subst this;exact bT
 |row::T,vs,r=>by
  obtain⟨v,us,e,r1,r2⟩:=(show ∃v r,vs=v::r/\É K H (wx row) v/\Á K H (T.map wx) r from r);obtain⟨a,ws,e4,hH,r4⟩:=(show ∃a vs,v= .ref a/\H a=some (.tup vs)/\Á K H (row.map D.int) vs from r1);rw [zr r4] at hH;subst e;exact⟨⟨a,e4,hH⟩,Xr r2⟩
theorem Rn {K:G7}: ∀ {Ts:G0 (G0 (G0 P1))} {vs:G0 V},Á K H (Ts.map jp) vs-> ∃ps:G0 (P2×G0 (G0 P1)),vs=ps.map (λp=>V.ref p.1)/\Ts=ps.map (·.2)/\ ∀p∈ps,WQ H p.2 p.1
 | [],vs,r=>⟨[],r,rfl,λp hp=>by cases hp⟩
 |T::Ts,vs,r=>by
  obtain⟨v,us,e,r1,r2⟩:=(show ∃v r,vs=v::r/\É K H (jp T) v/\Á K H (Ts.map jp) r from r);obtain⟨ps,e1,e2,e3⟩:=Rn r2;obtain⟨a,ws,e4,hH,r4⟩:=(show ∃a vs,v= .ref a/\H a=some (.tup vs)/\Á K H (T.map wx) vs from r1);exact⟨(a,T)::ps,by rw [e,e1,e4];rfl,by rw [e2];rfl,λp hp=>by
   rcases R7.mp hp with rfl|hp
   ·exact⟨ws,hH,Xr r4⟩
   ·exact e3 p hp⟩
end L2
namespace L2
open PySem PySem.Spec PyProof.Rows PySem.W
structure Ë (K:Frag)(x:Str)(st:Q2)(f:P2)(fd:C6):Prop where
 at_:nsIn K K3 x=some (some (.ref f))
 fn:ô K x x st f fd
variable {K:Frag}{h base:A7}{mg:Str->D4 G2}{x:Str}{st:Q2}{f:P2}{fd:C6}{P:T7}{w:C1}{n:G6}{ps:G0 Str}
def EI {oc:G2}{od an:D4 P2}{Ŝ:S9 (D4 G2)}{kV doc pm ó ct:G2}(a:nsIn K K3 x=some (some (.ref f)))(l:K.lookup f=some ⟨oc,od,.func (fnOf x x (yw st) (zL st) (je st) .none kV doc pm an ó ct),Ŝ⟩)
 (c:codeIn K ó x=true)(k:keepIn K (.ref f)=true):Ë K x st f (fnOf x x (yw st) (zL st) (je st) .none kV doc pm an ó ct):=⟨a,Aj l c k⟩
abbrev Hl (x:Str)(st:Q2)(ps:G0 Str):Prop:= ∀ (kV doc pm:G2) (an:D4 P2) (ó ct:G2) (us:G0 G2),us.length=ps.length->IN (fnOf x x (yw st) (zL st) (je st) .none kV doc pm an ó ct) ⟨us,[]⟩=pure (ps.zip us)
def Ë.nm (d:Ë K x st f fd)(X:K.In h)(G:h.Ns K3 mg):mg x=some (.ref f):=mg_of X G d.at_
variable {C:G0 G2->Prop}
def ln1 (g: ∀a,C [a]): ∀us:G0 G2,us.length=1->C us
 | [_],_=>g _
def ln2 (g: ∀a b,C [a,b]): ∀us:G0 G2,us.length=2->C us
 | [_,_],_=>g _ _
def ln3 (g: ∀a b c,C [a,b,c]): ∀us:G0 G2,us.length=3->C us
 | [_,_,_],_=>g _ _ _
def ln4 (g: ∀a b c d,C [a,b,c,d]): ∀us:G0 G2,us.length=4->C us
 | [_,_,_,_],_=>g _ _ _ _
def ln5 (g: ∀a b c d e,C [a,b,c,d,e]): ∀us:G0 G2,us.length=5->C us
 | [_,_,_,_,_],_=>g _ _ _ _ _
def Ë.cal {sp:RDn}(d:Ë K x st f fd)(l:OpenLaw)(w:C1)(base:A7)(X:K.In h)(G:h.Ns K3 mg)(ok:Ò l.prog w K mg base í n f fd ps (õ K sp))(b:Hl x st ps:=by first|exact λ_ _ _ _ _ _=>ln1 λ_=>rfl|exact λ_ _ _ _ _ _=>ln2 λ_ _=>rfl|exact λ_ _ _ _ _ _=>ln3 λ_ _ _=>rfl|exact λ_ _ _ _ _ _=>ln4 λ_ _ _ _=>rfl|exact λ_ _ _ _ _ _=>ln5 λ_ _ _ _ _=>rfl):jC l.prog w K mg base n x ps sp:=⟨_,_,ok,d.fn.binds b,d.fn.kp,d.nm X G⟩
noncomputable def zsB (K:Frag):N4:= ["len","max","min","divmod","all","any","repr","sum","sorted","int","tuple","list","set","bool","isinstance","range","zip","enumerate","reversed"].all λx=>nsIn K K3 (W4 x)==some none
def Hm (X:K.In h)(G:h.Ns K3 mg)(e:zsB K=true):Zs mg:=by
 unfold zsB at e;rw [S8] at e;have m:=λ(x:W3) hx=>mg_none_of X G (beq_iff_eq.mp (e x hx))
 exact⟨m "len" (by decide),m "max" (by decide),m "min" (by decide),m "divmod" (by decide),m "all" (by decide),m "any" (by decide),m "repr" (by decide),m "sum" (by decide),m "sorted" (by decide),m "int" (by decide),m "tuple" (by decide),m "list" (by decide),m "set" (by decide),m "bool" (by decide),m "isinstance" (by decide),m "range" (by decide),m "zip" (by decide),m "enumerate" (by decide),m "reversed" (by decide)⟩
end L2
namespace L2
open PySem PySem.Spec PyProof.Rows
def Sub.overC {h h':HD}{a:P2}{c:DC}(sb:Sub h h')(e:h.dc a=none):Sub h (Mx h' a c):=⟨sb.ls,λb xs z=>by
 rw [vy (λw=>by subst w;rw [e] at z;cases z)];exact sb.dc b xs z⟩
end L2
namespace L2
theorem Ro {g:G6->G6->N4}{n:G6}: ∀ {t:G6} {w:G0 G6},w.length=t+1->(∀i∈w,i<n)->w.Nodup->(∀i∈w,w.headD 0<=i)->(∀i x y,w[i]? =some x->w[i+1]? =some y->g x y=true)->w∈lev g n t
 |0,w,hl,lt,_,_,_=>by
  obtain⟨a,rfl⟩:=g4.mp hl;exact R6.mpr ⟨a,D1.mpr (lt a (by simp)),rfl⟩
 |t+1,w,hl,lt,nd,low,go=>by
  obtain⟨v,j,rfl⟩: ∃v j,w=v++ [j]:=⟨w.dropLast,w.getLast (by intro z;rw [z] at hl;cases hl),(cS _).symm⟩;have lv:v.length=t+1:=by rw [P3,cV] at hl;omega
  have hd:(v++ [j]).headD 0=v.headD 0:=by cases v with|nil=>cases lv|cons a r=>rfl
  have nv:=X5.mp nd;have jn:j ∉ v:=λz=>nv.2.2 j z j (by simp) rfl
  have hh:v.headD 0∈v:=by cases v with|nil=>cases lv|cons a r=>exact P4 ..
  rw [hd] at low;have mv:=Ro (g:=g) (n:=n) lv (λi hi=>lt i (N2 _ hi)) nv.1 (λi hi=>low i (N2 _ hi)) λi x y e1 e2=>go i x y (by rw [C5 (P7.mp e1).1];exact e1) (by rw [C5 (P7.mp e2).1];exact e2)
  refine dQ.mpr ⟨v,mv,R6.mpr ⟨j,B0.mpr ⟨D1.mpr (lt j (by simp)),?_⟩,rfl⟩⟩;have la:v[t]? =some (v.getLastD 0):=by rw [dU,dW,lv,lI,G1 (by omega)];rfl
  have g1:=go t _ j (by rw [C5 (by omega)];exact la) (by rw [B1 (by omega),lv,i3];rfl);have lj:=low j (by simp);have ne:v.headD 0≠j:=λz=>jn (z ▸ hh)
  unfold KA;rw [g1,S1 (show v.headD 0<j by omega),T3 jn];rfl
theorem Rp {g:G6->G6->N4}{n s:G6}{w:G0 G6}(h:w∈lev g n s)(b:g (w.getLastD 0) (w.headD 0)=true): ∀t,s<t->w∈Hj g n t
 |t+1,ht=>by
  rcases L5 s t with z|z
  ·exact N2 _ (Rp h b t z)
  ·have:t=s:=by omega
   subst this;exact D0 _ (B0.mpr ⟨h,b⟩)
def Xs {n:G6}{w:G0 G6}(nd:w.Nodup)(lt: ∀i∈w,i<n):w.length<=n:=by
 have:=Jl (ys:=P5 n) nd λx hx=>D1.mpr (lt x hx)
 rwa [R0] at this
section
variable {n e:G6}{T:G0 (G0 P1)}
def GF {w:G0 G6}(ne:w≠ [])(lt: ∀i∈w,i<n)(nd:w.Nodup)(low: ∀i∈w,w.headD 0<=i)(go: ∀i x y,w[i]? =some x->w[i+1]? =some y->Ð T x y>0)(back:Ð T (w.getLastD 0) (w.headD 0)>0):w∈Qr T n:=by
 obtain⟨t,ht⟩: ∃t,w.length=t+1:=⟨w.length-1,by have:=eO.mpr ne;omega⟩;have:=Xs nd lt;exact(Gz _).mem_iff.mpr (Rp (Ro (g:=KB T) ht lt nd low λi x y e1 e2=>S1 (go i x y e1 e2)) (S1 back) n (by omega))
def Rq (h:Sq n e T){i j:G6}(hi:i<n)(hj:j<n)(z:Ð T i j≠0):Ð T i j>0:=by have:=(h.ent_nn hi hj).1;omega
def GG (h:Sq n e T)(hn:n<=8){m:G6}(m1:1<=m){v:G6->G6}(vl: ∀t,v t<n)(per: ∀t,v (t+m)=v t)(inj: ∀a b,a<m->b<m->v a=v b->a=b)(st: ∀t,RP n T 1 (v t) (v (t+1))): ∃s,(P5 m).map (λt=>v (s+t))∈Qr T n:=by
 obtain⟨s,hs⟩: ∃s,∀t,v s<=v t:=by
  have key: ∀k,∃s,∀t,t<k+1->v s<=v t:=λk=>by
   induction k with
   |zero=>exact⟨0,λt ht=>by rw [show t=0 by omega];exact P6 _⟩
   |succ k ih=>
    obtain⟨s,hs⟩:=ih;rcases L5 (v (k+1)) (v s) with z|z
    ·exact⟨k+1,λt ht=>by
      rcases L5 t (k+1) with y|y
      ·have:=hs t y;omega
      ·rw [show t=k+1 by omega];exact P6 _⟩
    ·exact⟨s,λt ht=>by
      rcases L5 t (k+1) with y|y
      ·exact hs t y
      ·rw [show t=k+1 by omega];exact z⟩
  obtain⟨s,hs⟩:=key m;have red: ∀t,v t=v (t%m):=λt=>by
   have: ∀q r,v (r+q*m)=v r:=λq r=>by
    induction q with
    |zero=>rw [y9,aB]
    |succ q ih=>rw [gJ,<-fJ,per,ih]
   have e:=this (t / m) (t%m);rw [V7,tU] at e;exact e
  exact⟨s,λt=>by rw [red t];exact hs _ (by have:=Z5 t m1;omega)⟩
 have red: ∀t,v t=v (t%m):=λt=>by
  have: ∀q r,v (r+q*m)=v r:=λq r=>by
   induction q with
   |zero=>rw [y9,aB]
   |succ q ih=>rw [gJ,<-fJ,per,ih]
  have e:=this (t / m) (t%m);rw [V7,tU] at e;exact e
 have hd:((P5 m).map λt=>v (s+t)).headD 0=v s:=by
  obtain⟨k,rfl⟩: ∃k,m=k+1:=⟨m-1,by omega⟩;rw [gL];rfl
 refine⟨s,GF ?_ (λi hi=>by obtain⟨t,_,rfl⟩:=R6.mp hi;exact vl _) ?_ (λi hi=>by obtain⟨t,_,rfl⟩:=R6.mp hi;rw [hd];exact hs _) (λi x y e1 e2=> ?_) ?_⟩
 ·intro z;have:=congrArg Y1 z;rw [G3,R0] at this;simp at this;omega
 ·refine X3.mpr ((m5 (n:=m)).imp_of_mem λ{a b} ha hb ne z=> ?_);have ha:=D1.mp ha;have hb:=D1.mp hb;have z:v (s+a)=v (s+b):=z;rw [red (s+a),red (s+b)] at z;have:=inj _ _ (Z5 _ m1) (Z5 _ m1) z;refine ne ?_;have d1:=oC (s+a) m;have d2:=oC (s+b) m;rcases dB ((s+a) / m) ((s+b) / m) with c|c|c
  ·have:=pY m (show (s+a) / m+1<=(s+b) / m from c);rw [gE] at this;omega
  ·rw [c] at d1;omega
  ·have:=pY m (show (s+b) / m+1<=(s+a) / m from c);rw [gE] at this;omega
 ·have h1:=(P7.mp e2).1;rw [G3,R0] at h1;rw [P9,J1 (by omega)] at e1 e2;injection e1 with e1
  injection e2 with e2
  subst e1;subst e2;exact Rq h (vl _) (vl _) ((DA h hn).mp (st (s+i)))
 ·have la:((P5 m).map λt=>v (s+t)).getLastD 0=v (s+(m-1)):=by
   rw [dU,dW,G3,R0,P9,J1 (by omega)];rfl
  rw [hd,la];have:=st (s+(m-1));rw [show s+(m-1)+1=s+m by omega,per] at this;exact Rq h (vl _) (vl _) ((DA h hn).mp this)
noncomputable def Rr (T:G0 (G0 P1))(n:G6):G6:=((Qr T n).map Y1).foldl uA 0
def Rs {w:G0 G6}(hw:w∈Qr T n):Rr T n∣w.length:=((Ql _ 0 (Rr T n)).mp (Nat.dvd_refl _)).2 _ (bZ hw)
def Ug (h:Sq n e T)(hn:n<=8): ∀ (m:G6) {p:G6},p<n->RP n T m p p->Rr T n∣m:=by
 intro m
 induction m using G6.strongRecOn with
 |_ m ih=>
  intro p hp r;rcases lG m with z|m1
  ·rw [z];exact Nat.dvd_zero _
  obtain⟨v,v0,vm,vl,vr⟩:=BJ h hn m hp hp r
  by_cases c: ∃a b,a<b/\b<m/\v a=v b
  ·obtain⟨a,b,ab,bm,e1⟩:=c;have r1:=Yy h hn vl vr a (b-a) (by omega);rw [show a+(b-a)=b by omega,<-e1] at r1;have r2:=Yy h hn vl vr 0 a (by omega);rw [E3,v0] at r2;have r3:=Yy h hn vl vr b (m-b) (by omega);rw [show b+(m-b)=m by omega,vm,<-e1] at r3;have d1:=ih (b-a) (by omega) (vl a (by omega)) r1;have d2:=ih (a+(m-b)) (by omega) hp (Yz h hn hp (vl a (by omega)) hp r2 r3);have:=Nat.dvd_add d1 d2
   rwa [show b-a+(a+(m-b))=m by omega] at this
  ·obtain⟨s,hs⟩:=GG h hn (T:=T) (n:=n) m1 (v:=λt=>v (t%m)) (λt=>vl _ (by have:=Z5 t m1;omega)) (λt=>by show v ((t+m)%m)=_;rw [Nat.add_mod_right]) (λa b ha hb z=>by
    have z:v (a%m)=v (b%m):=z;rw [iG ha,iG hb] at z;rcases dB a b with y|y|y
    ·exact absurd ⟨a,b,y,hb,z⟩ c
    ·exact y
    ·exact absurd ⟨b,a,y,ha,z.symm⟩ c) (λt=>by
    show RP n T 1 (v (t%m)) (v ((t+1)%m));have lt:=Z5 t m1;have:=vr (t%m) lt;rcases L5 (t%m+1) m with z|z
    ·rw [show (t+1)%m=t%m+1 by rw [pB,iG (show 1<m by omega),iG z]];exact this
    ·have e2:(t+1)%m=0:=by
      rw [<-oC t m,show m*(t / m)+t%m+1=m*(t / m+1) by rw [gE];omega];exact Nat.mul_mod_right _ _
     rw [e2,v0,<-vm,show m=t%m+1 by omega];rw [show t%(t%m+1)=t%m by rw [show t%m+1=m by omega]];exact this)
   have:=Rs hs
   rwa [G3,R0] at this
def Hn (h:Sq n e T)(hn:n<=8){i j:G6}(hi:i<n)(w:wk T n i j=true):j<n/\ ∃k,RP n T k i j:=
 ZC (P:=λi j=>i<n->j<n/\ ∃k,RP n T k i j) (λi hi=>⟨hi,0,(Xa hi hi).mpr rfl⟩) (λi j z hi=>⟨FT h i j z,1,(DA h hn).mpr z⟩) (λi k j a b hi=>by
  obtain⟨hk,k1,r1⟩:=a hi;obtain⟨hj,k2,r2⟩:=b hk;exact⟨hj,k1+k2,Yz h hn hi hk hj r1 r2⟩) w hi
def Ll (h:Sq n e T)(hn:n<=8)(one:(Op T n).length=1){i j:G6}(hi:i<n)(hj:j<n): ∃k,RP n T k i j:=by
 obtain⟨S,e1⟩:=g4.mp one;have a:ĭ T n i∈Op T n:=Β.mpr ⟨i,hi,rfl⟩;have b:ĭ T n j∈Op T n:=Β.mpr ⟨j,hj,rfl⟩;rw [e1] at a b;have:j∈ĭ T n i:=by rw [G8.mp a,<-G8.mp b];exact Ri hj
 exact(Hn h hn hi (ě.mp this).2.1).2
end
end L2
set_option maxRecDepth 35000
namespace L2
section
variable {n e:G6}{T:G0 (G0 P1)}
def Lm {a l b d:G6}(h1:d∣a+b)(h2:d∣l+b):a%d=l%d:=by
 have key: ∀a l:G6,a<=l->d∣a+b->d∣l+b->a%d=l%d:=λa l c h1 h2=>by
  obtain⟨t,rfl⟩:=Nat.exists_eq_add_of_le c;have:d∣t:=(Nat.dvd_add_right h1).mp (by rw [show a+b+t=a+t+b by omega];exact h2);rw [pB,nV this,aB,G0d]
 rcases nX a l with c|c
 ·exact key a l c h1 h2
 ·exact(key l a c h2 h1).symm
def fit (h:Sq n e T)(hn:n<=8)(one:(Op T n).length=1){i j k l:G6}(hi:i<n)(hj:j<n)(a:RP n T k i j)(b:RP n T l i j):k%Rr T n=l%Rr T n:=by
 obtain⟨c,rc⟩:=Ll h hn one hj hi;exact Lm (Ug h hn _ hi (Yz h hn hi hj hi a rc)) (Ug h hn _ hi (Yz h hn hi hj hi b rc))
end
end L2
namespace L2
open PySem PySem.Spec PyProof.Rows
section
variable {n e:G6}{T U:G0 (G0 P1)}{S P:G0 G6}
noncomputable def inP (n:G6)(D:G0 G6):G0 G6:=(P5 n).filter λj=>decide (j∈D)
end
section
variable {X:Cx}{k i:G6}{ps N Pn:G0 Str}{Ī:RDn}{x:Str}{p pos pos':Pos}{e e2 e3 e4 iter elt:N3}{es ifs:G0 N3}{t:TAD}{te δ te3 te4:TED}{ti:TID}{tt:TTD}{scope sc:Y0}{c:N3}
def jk (C:jC X.prog X.w X.K X.mg X.base k x ps Ī)(hr:á k X.A)(ha:JA X (e::es) t)(hg:Gl X x:=by rfl)(hdb:(x==("__debug__" :Str))=false:=by decide)(he:S5 (e::es) X.env=(false,K0 e X.env)::S5 es X.env:=by rfl)(hpl:(U8 pos (S5 es X.env)).any (·.1)=false:=by rfl):JE X (.Call (.Name x p) (e::es) [] pos) (Ĩ Ī t):=by
 obtain⟨g,gd,F,hb,hk,hm⟩:=C;exact Hd F hr hg hm hk hb ha hdb he hpl
def j1 (a:JE X e te)(h:zi e=true:=by rfl):JA X [e] (zA te WF):=jac a wJ h
def j2 (a:JE X e te)(b:JE X e2 δ)(h:zi e=true:=by rfl)(h2:zi e2=true:=by rfl):JA X [e,e2] (zA te (zA δ WF)):=jac a (j1 b h2) h
def j3 (a:JE X e te)(b:JE X e2 δ)(c:JE X e3 te3)(h:zi e=true:=by rfl)(h2:zi e2=true:=by rfl)(h3:zi e3=true:=by rfl):JA X [e,e2,e3] (zA te (zA δ (zA te3 WF))):=jac a (j2 b c h2 h3) h
def j4 (a:JE X e te)(b:JE X e2 δ)(c:JE X e3 te3)(d:JE X e4 te4)(h:zi e=true:=by rfl)(h2:zi e2=true:=by rfl)(h3:zi e3=true:=by rfl)(h4:zi e4=true:=by rfl):JA X [e,e2,e3,e4] (zA te (zA δ (zA te3 (zA te4 WF)))):=jac a (j3 b c d h2 h3 h4) h
def Xt (Z:Zs X.mg)(a:JE X e te)(hg:Gl X "len" :=by rfl)(h:zi e=true:=by rfl)(he:S5 [e] X.env=(false,K0 e X.env)::S5 [] X.env:=by rfl)(hpl:(U8 pos (S5 [] X.env)).any (·.1)=false:=by rfl):JE X (.Call (.Name "len" p) [e] [] pos) (Ĩ On (zA te WF)):=wj AR hg Z.len PySem.boot_len (j1 a h) (by decide) (by decide) he hpl
def ë (i:G6)(S:Ã X.N Pn sc)(he:JE X e te)(hi:X.N[i]? =some x:=by rfl)(hx:Loc X.env.scope x:=by first|exact Q7 rfl|exact aT rfl)(hs:X7 e (some (.Name x pos')) pos.line X.env=pure false:=by rfl)(hf:X.fn x=true\/X.env.scope.names.lookup x=some .local:=by first|exact .inl rfl|exact .inr rfl|assumption):JS X (.Assign [.Name x pos'] e pos) (PB i te):=kK S.nd hi hx he hs hf
def jgn (i:G6)(S:Ã X.N Pn sc)(hi:X.N[i]? =some x:=by rfl)(hx:Loc X.env.scope x:=by first|exact Q7 rfl|exact aT rfl)(hf:X.fn x=true\/X.env.scope.names.lookup x=some .local:=by first|exact .inl rfl|exact .inr rfl|assumption):JG X (.Name x pos) (gN i):=FF S.nd hi hx hf
def jl1 (i:G6)(S:Ã X.N Pn sc)(hi:JI X (.Name x p) iter ti)(ht: ∀C s₀ H₀ ex,JT (wu X scope C s₀ H₀ ex) c tt)(he: ∀C s₀ H₀ ex,JE (wu X scope C s₀ H₀ ex) elt te)(hc:X.calm=true:=by rfl)(hB:Qc X.N X.env.scope.names scope [i]=true:=by rfl)(hx:X.N[i]? =some x:=by rfl)(hl:scope.names.lookup x=some .local\/scope.names.lookup x=some .cell:=by first|exact Q7 rfl|exact aT rfl)(hs: ∀x,M9 iter X.env x=pure x:=by intro _;rfl):JE X (.ListComp elt [⟨.Name x p,iter,[c],0⟩] scope pos) (vY (bN i) [i] ti tt te):=
 jlc hc (zo hB) hi (G8.mpr rfl) S.nd hx hl (λX' hX=>by obtain⟨C,s₀,H₀,ex,rfl⟩:=hX;exact UY (ht C s₀ H₀ ex)) (λX' hX=>by obtain⟨C,s₀,H₀,ex,rfl⟩:=hX;exact he C s₀ H₀ ex) hs
def Ĥ (i:G6)(S:Ã X.N Pn sc)(hi:JI X (.Name x p) iter ti)(he: ∀C s₀ H₀ ex,JE (wu X scope C s₀ H₀ ex) elt te)(hc:X.calm=true:=by rfl)(hB:Qc X.N X.env.scope.names scope [i]=true:=by rfl)(hx:X.N[i]? =some x:=by rfl)(hl:scope.names.lookup x=some .local\/scope.names.lookup x=some .cell:=by first|exact Q7 rfl|exact aT rfl)(hs: ∀x,M9 iter X.env x=pure x:=by intro _;rfl):JE X (.ListComp elt [⟨.Name x p,iter,[],0⟩] scope pos) (vY (bN i) [i] ti vX te):=
 jlc hc (zo hB) hi (G8.mpr rfl) S.nd hx hl (λX' hX=>JC) (λX' hX=>by obtain⟨C,s₀,H₀,ex,rfl⟩:=hX;exact he C s₀ H₀ ex) hs
def ď {N P:G0 Str}(a:sc.kind= .function:=by rfl)(b:sc.isCoroutine=false:=by rfl)(c:sc.isGenerator=false:=by rfl)(d:N.Nodup:=by decide +kernel)(e:N.take P.length=P:=by rfl)(f: ∀x∈P,sc.names.lookup x=some .local\/sc.names.lookup x=some .cell:=by decide +kernel)(g: ∀y∈sc.names,y.2≠ .free:=by decide +kernel):Ã N P sc:=⟨a,b,c,d,e,f,g⟩
def Ŵ {op:l9}{f:RD2}(ho:ñ X (B9 op) f)(ha:JE X e te)(hb:JE X e2 δ)(hm:aA op e2=false:=by exact By _):JE X (.Compare e [op] [e2] pos) (œ f te δ):=Kn ho ha hb hm
def ŵ {op:l9}{f:RD2}(ho:ñ X (B9 op) f)(ha:JE X e te)(hb:JE X e2 δ)(hm:aA op e2=false:=by exact By _):JT X (.Compare e [op] [e2] pos) (vV (œ f te δ)):=Gm ho ha hb hm
def ÿ (ha:JE X e te)(hb:JE X e2 δ)(hs:Yd e2:=by exact λ_ _=>rfl):JE X (.Subscript e e2 pos) (œ ixD te δ):=jix ha hb hs
def Ŷ {tg:N3}(Z:Zs X.mg)(ha:JE X e te)(hg:Gl X "range" :=by rfl)(h:zi e=true:=by rfl)(hs:S5 [e] X.env= [(false,K0 e X.env)]:=by rfl):JI X tg (.Call (.Name "range" p) [e] [] pos) (iR1 (zA te WF)):=Hc hg Z.range (j1 ha h) hs
end
section
variable {P:T7}{w:C1}{K:G7}{mg:Str->D4 G2}{base:A7}{x qual:Str}{st:Q2}{f:P2}{fd:C6}{N ps:G0 Str}{k:G6}
def ô.okM {Ī:RDn}(F:ô K x qual st f fd)(S:Ã N ps (je st)){tb:TSD}(Ĕ: ∀ {ó:G2} {A:N7} {outer:G0 Env} {s:G5} {H:Hp} {E:XK},á k (A.deeper (i9 qual (je st) s.heap.objs.size f ó))->Ū (MO í P w K mg base N qual (je st) f ó A outer s H E).nox (zL st) tb)
 (read: ∀ds h Q,Ī ds h Q->ds.length=ps.length/\tb (Mz Q) (wH N ds) h):Ò P w K mg base í (k+1) f fd ps (õ K Ī):=F.okJ S (λds h Q q=>(read ds h Q q).1) tb (λ_ _ _ _ _ _ hr=>Ĕ hr) λds h Q q=>(read ds h Q q).2
end
def wm {t u:TSD}{E:EndsD}{σ:SD}{h:HD}(σ1:SD)(first: ∀K:SD->HD->Prop,K σ1 h->t {E with nx:=K} σ h)(rest:u E σ1 h):vh t u E σ h:=first (u E) rest
def ε:0<=sizeLine:=by decide
def sz1:1<=sizeLine:=by decide
def Ň:2<=sizeLine:=by decide
def sz3:3<=sizeLine:=by decide
def sz4:4<=sizeLine:=by decide
def sz5:5<=sizeLine:=by decide
section
variable {X:Cx}{s0 s1 s2 s3 s4 s5 s6 s7:Q2}{t0 t1 t2 t3 t4 t5 t6 t7:TSD}{c:N3}{tc:TTD}{pos:Pos}
def ζ (a:JS X s0 t0)(b:JS X s1 t1):Ū X [s0,s1] (vh t0 t1):=(jO a (ze b))
def js3 (a:JS X s0 t0)(b:JS X s1 t1)(c:JS X s2 t2):Ū X [s0,s1,s2] (vh t0 (vh t1 t2)):=(jO a (jO b (ze c)))
def js4 (a:JS X s0 t0)(b:JS X s1 t1)(c:JS X s2 t2)(d:JS X s3 t3):Ū X [s0,s1,s2,s3] (vh t0 (vh t1 (vh t2 t3))):=(jO a (jO b (jO c (ze d))))
def js5 (a:JS X s0 t0)(b:JS X s1 t1)(c:JS X s2 t2)(d:JS X s3 t3)(e:JS X s4 t4):Ū X [s0,s1,s2,s3,s4] (vh t0 (vh t1 (vh t2 (vh t3 t4)))):=(jO a (jO b (jO c (jO d (ze e)))))
def js6 (a:JS X s0 t0)(b:JS X s1 t1)(c:JS X s2 t2)(d:JS X s3 t3)(e:JS X s4 t4)(f:JS X s5 t5):Ū X [s0,s1,s2,s3,s4,s5] (vh t0 (vh t1 (vh t2 (vh t3 (vh t4 t5))))):=(jO a (jO b (jO c (jO d (jO e (ze f))))))
def js8 (a:JS X s0 t0)(b:JS X s1 t1)(c:JS X s2 t2)(d:JS X s3 t3)(e:JS X s4 t4)(f:JS X s5 t5)(g:JS X s6 t6)(h:JS X s7 t7):Ū X [s0,s1,s2,s3,s4,s5,s6,s7] (vh t0 (vh t1 (vh t2 (vh t3 (vh t4 (vh t5 (vh t6 t7))))))):=(jO a (jO b (jO c (jO d (jO e (jO f (jO g (ze h))))))))
def WR (hc:JT X c tc)(h:JS X s0 t0):JS X (.If c [s0] [] pos) (MW tc t0 UT):=Ha hc (ze h) De
end
end L2
namespace L2
open PySem PySem.Spec PyProof.Rows HT
section
variable {X:Cx}
theorem wL {α β:Type}{R:α->β->Prop}: ∀ {xs:G0 α} {ys:G0 β} {i:G6} {x:α} {y:β},Paired R xs ys->xs[i]? =some x->ys[i]? =some y->R x y
 |_,_,0,_,_,.cons r _,e1,e2=>by simp at e1 e2;subst e1 e2;exact r
 |_,_,i+1,_,_,.cons _ t,e1,e2=>wL t (by simpa using e1) (by simpa using e2)
 |_,_,_,_,_,.nil,e1,_=>by cases e1
end
def Rt {prog:T7}{w:C1}{A:N7}{R:qE->G5->Prop}{s:G5}{e target iter:N3}{ifs:G0 N3}{depth:G6}{it acc:G2}{env:Env}{act:Sem Unit}(I:G6->G5->Prop)
 (hq:(Code.compLoop e depth it acc env).quiet=true)(hd:(S0 prog w).den (.compLoop e depth it acc env)=(iO e depth it acc env).onRaise (λx=>do xX x env;n8 x))(hA:A.under (.compLoop e depth it acc env)=A)
 (heq:iO e depth it acc env=vT iter target ifs it env act (.compLoop e depth it acc env))
 (turn: ∀n s,I n s->R5 (S0 prog w) A (m9 it) (λr s₁=>match r with
  |none=>R (.ok .next) s₁
  |some v=>R5 (S0 prog w) A (cP target it v) (λ_ s₁=>R5 (S0 prog w) A (dY target env v) (λ_ s₂=>
   R5 (S0 prog w) A (forIn ifs true λc r=>if r=true then do let ok <-x5 c env (K0 c env);pure (aO ok) else pure (aO r)) (λok s₃=>
    if ok=true then R5 (S0 prog w) A act (λ_ ς=> ∃m,m<n/\I m ς) (λ_ _=>False) s₃
    else ∃m,m<n/\I m s₃) (λ_ _=>False) s₂) (λ_ _=>False) s₁) (λ_ _=>False) s₁) (λ_ _=>False) s)
 (n:G6)(h:I n s):
 bJ (S0 prog w) A (.compLoop e depth it acc env) R s:=by
 refine x8 hq I (λn s hI=> ?_) n h;rw [hd,hA];refine IR ?_;rw [heq];unfold vT;refine wpAny_bind (Z9 (wpAny_bind (M5 (turn n s hI) (λr s₁ h₁=> ?_) λ_ _ h'=>h'.elim)));cases r with
 |none=>exact P0 h₁
 |some v=>
  refine wpAny_bind (M5 h₁ (λ_ s₁ h₁=> ?_) λ_ _ h'=>h'.elim);refine wpAny_bind (M5 h₁ (λ_ s₂ Ŭ=>wpAny_bind (M5 Ŭ (λok s₃ ŭ=> ?_) λ_ _ h'=>h'.elim)) λ_ _ h'=>h'.elim);cases ok with
  |false=>exact P0 ⟨rfl,ŭ⟩
  |true=>exact wpAny_bind (M5 ŭ (λ_ ς X0V=>P0 ⟨rfl,X0V⟩) λ_ _ h'=>h'.elim)
abbrev TMG (α:Type):=St->Hp->α->(α->Hp->Prop)->Prop
def EJ {α:Type}(X:Cx)(Acc:α->Obj->Prop)(D:P2)(act:Sem Unit)(t:TMG α):Prop:=
 ∀ (À:G0 (P2×Obj)) (s:G5) (σ:St) (H:Hp) (ys:α) (o:Obj) (Q:α->Hp->Prop),Inv X ([(D,o)]++À) σ H s->Acc ys o->D∈X.ex->(∀x c,X.env.cells.lookup x=some c->c≠D)->(∀p∈X.pn++À,p.1≠D)->t σ H ys Q->
  R5 (S0 X.prog X.w) X.A act (λ_ s'=> ∃ù o' H',Acc ù o'/\Inv X ([(D,o')]++À) σ H' s'/\Q ù H') (λ_ _=>False) s
def tCG {α : Type} (Acc : α → Obj → Prop) (ho : α → Obj → P2 → HO) (a0 : α) (js : G0 G6) (wi : TI) (g : TG) (tt : TT) (tm : TMG α) : TE := fun σ H Q => wi σ H fun J H1 =>
  ∃ W : G6 → G6 → α → Hp → Prop, (∃ m, W 0 m a0 H1) ∧ ∀ i m ys H, W i m ys H →
    ((J.stop i H ∧ ∀ p o, H p = none → Acc ys o → Q (.ref p) (upd H p (ho ys o p))) ∨
     (J.go i H ∧ ∀ x H', J.yld i H x H' → g x (zn js σ) H' fun à H2 => Agree (zn js σ) à ∧ tt à H2 fun b H3 =>
        if b = true then tm à H3 ys fun ù H4 => ∃ m', m' < m ∧ W (i + 1) m' ù H4 else ∃ m', m' < m ∧ W (i + 1) m' ys H3))
structure X0D (P:T7)(w:C1)(e:N3)(g:aU)(rest:G0 aU)(mk:Sem G2)(o0:Obj):Prop where
 cl:clausesOf e=g::rest
 quiet: ∀it acc env,(Code.compLoop e 0 it acc env).quiet=true
 den: ∀it acc env,(S0 P w).den (.compLoop e 0 it acc env)=(iO e 0 it acc env).onRaise (λx=>do xX x env;n8 x)
 under: ∀A it acc env,Around.under A (.compLoop e 0 it acc env)=A
 start: ∀ {A:N7} {R:qE->G5->Prop} {s:G5} {it acc env},bJ (S0 P w) A (.compLoop e 0 it acc env) R s->R5 (S0 P w) A (qD it) (λit' s'=>bJ (S0 P w) A (.compLoop e 0 it' acc env) R s') (notedBy (S0 P w) A env λx s'=>R (.error x) s') s->bJ (S0 P w) A (.compStart e 0 it acc env) R s
 live:o0.isFreed=false
 made: ∀ {A:N7} {Q:G2->G5->Prop} {E:G2->G5->Prop} {s:G5},Q (.ref s.heap.objs.size) {s with heap:=s.heap.push o0}->R5 (S0 P w) A mk Q E s
def EL {α:Type}{Acc:α->Obj->Prop}{ho:α->Obj->P2->HO}{a0:α}{mk:Sem G2}{o0:Obj}{X:Cx}{e iter tg:N3}{ifs:G0 N3}{rest:G0 aU}{scope:Y0}{X0X:Pos}{js:G0 G6}{wi:TI}{g:TG}{tt:TT}{tm:TMG α}{use:D4 (G2->Sem Unit)}{Qv:G2->G5->Prop}(hc:X.calm=true)(S:Ì X scope js)(hi:PI X tg iter wi)
 (ck:X0D X.prog X.w e ⟨tg,iter,ifs,0⟩ rest mk o0)(X1f:Acc a0 o0)(X0E: ∀a o,Acc a o-> ∀v,o.data≠ .cell v)(okO: ∀ {a o H h p},(p==aY)=false->Acc a o->h.get? p=some o->Ø X.prog X.w H h p (ho a o p))
 (hg: ∀X',jh X scope X'->PG X' tg g)(ht: ∀X',jh X scope X'->ė X' ifs tt)
 (act:Env->G2->Sem Unit)(ŝ: ∀it acc env,iO e 0 it acc env=vT iter tg ifs it env (act env acc) (.compLoop e 0 it acc env))(he: ∀X',jh X scope X'-> ∀D,EJ X' Acc D (act X'.env (.ref D)) tm)
 (hs: ∀x,M9 iter X.env x=pure x){À:G0 (P2×Obj)}{s:G5}{σ:St}{H:Hp}{Q:VK}(I:Inv X À σ H s)(h:tCG Acc ho a0 js wi g tt tm σ H Q)
 (fin: ∀ (D C:P2) (H':Hp) (s':G5) (m:Str->D4 G2),s'.heap.Ns C m->(∀h',A8 C s'.heap h'->Inv X À σ H' {s' with heap:=h'})->H' C=none->C≠X.env.locals->C ∉ X.fs->X.s₀.heap.objs.size<=C->(∀x c,X.env.cells.lookup x=some c->c≠C)->(∀p∈X.pn++À,p.1≠C)->
  Q (.ref D) H'->uL (S0 X.prog X.w) X.A X.xe use Qv (.ref D) C (.ok .next) s'):
 R5 (S0 X.prog X.w) X.A (mK e scope X.env X0X mk false (K0 iter X.env) use) Qv X.xe s:=by
 have υ:=vR (scope:=scope) (env:=X.env) (λp hp e=>I.ok.has p.1 (S.free p hp e));refine mL (use:=use) ck.cl hs υ S.kind S.locs (Ô (hi À s σ H _ I h) λv s1 h1=>Ô h1 λitv s2 h2=> ?_);obtain⟨it,fp,tn,J,H2,e,I2,T,Ħ,f2,W,⟨m0,w0⟩,turn⟩:=h2;subst e;refine ck.made (Zh (λh₁ ú č Û û=> ?_));dsimp only at ú č Û û ⊢;generalize hD:s2.heap.objs.size=D;generalize hH3:s2.heap.push o0=h3 at ú č Û û ⊢;have sz3:h3.objs.size=D+1:=by rw [<-hH3,dG,hD]
 have up3: ∀b o,s2.heap.get? b=some o->h3.get? b=some o:=λb o e=>hH3 ▸ G9 _ e
 have I3:Inv X À σ H2 {s2 with heap:=h3}:=I2.kept (t':=s2.toks) up3;have hD3:h3.get? D=some o0:=by rw [<-hH3,<-hD];exact S6 _ ck.live
 have fD:UQ X À H2 D:=I2.fpOk (by rw [hD];exact P6 _) (I2.hok.fresh (by rw [hD];exact P6 _));have obf: ∀b∈fp,∃o,s2.heap.get? b=some o/\ ∀v,o.data≠ .cell v:=T.obj _ _ Ħ;have ltf: ∀b∈fp,b<D:=λb hb=>by obtain⟨o,e,_⟩:=obf b hb;rw [<-hD];exact D9 e
 generalize hC:h3.objs.size=C at ú Û û ⊢;have CD:C=D+1:=hC.symm.trans sz3;have Λ: ∀b o,h3.get? b=some o->h₁.get? b=some o:=č;generalize hX:wu X scope C {s2 with heap:=h3} H2 (fp++ [D])=X';have iX:jh X scope X':=⟨C,_,_,_,hX.symm⟩;have hf: ∀b∈fp++ [D],UQ X À H2 b:=λb hb=>(D8.mp hb).elim (f2 b) λz=>by rw [G8.mp z];exact fD
 have cl: ∀x c,(jz X scope C).lookup x=some c->X.env.cells.lookup x=some c\/C<c:=λx c e=>by
  rcases jY S e with ⟨_,z⟩|⟨_,z⟩
  ·exact .inl z
  ·exact .inr (W6 (Û x c z).2)
 have olt: ∀x c,X.env.cells.lookup x=some c->c<C:=λx c e=>by obtain⟨v,q⟩:=I3.cell x c e;rw [<-hC];exact q.lt
 have ltb: ∀b∈fp++ [D],b<C:=λb hb=>(D8.mp hb).elim (λz=>by have:=ltf b z;rw [CD];exact c9 this) λz=>by rw [G8.mp z,CD];exact J7 _
 have okX:X'.Ok:=by
  subst hX;refine⟨I.ok.mod,S.kind,I.ok.glob,I.ok.blt,J0 hC,λx y c e1 e2=> ?_,λx hx=> ?_,λx c z e=> ?_,I.ok.hd,I.ok.frames,.inl rfl,λb hb=>⟨M7 (ltb b hb),λx c e=>(cl x c e).elim (λz=>(hf b hb).2.2.2.2.1 x c z) λz=>V6 (W5 (ltb b hb) z)⟩,
   I3.bs,R8 I.ok.bsz I3.sz,λb o e hb=> ?_,λb hb z=> ?_,I3.stack,I3.stkFree⟩
  ·rcases jY S e1 with ⟨_,z1⟩|⟨_,z1⟩<;>rcases jY S e2 with ⟨_,z2⟩|⟨_,z2⟩
   ·exact I.ok.inj x y c z1 z2
   ·exact absurd (W5 (olt x c z1) (W6 (Û y c z2).2)) (B8 _)
   ·exact absurd (W5 (olt y c z2) (W6 (Û x c z1).2)) (B8 _)
   ·exact qZ û z1 z2
  ·have own:scope.names.lookup x=some .cell-> ∃c,(jz X scope C).lookup x=some c:=λz=>by
    obtain⟨c,hc⟩:=vQ (sc:=scope) (n:=C+1) z;exact⟨c,by unfold jz;rw [jM,yW,hc]⟩
   have shr:scope.names.lookup x=some .free-> ∃c,(jz X scope C).lookup x=some c:=λz=>by
    have fm:=zm z;obtain⟨c,hc⟩:=I.ok.has x (S.free _ fm rfl);exact⟨c,wf S hc fm (by rw [z];decide)⟩
   rcases hx with hx|hx
   ·rcases jx (env:=X.env) hx with z|z
    ·exact own z
    ·exact shr z
   ·rcases jx (env:=X.env) hx with z|z<;>exact shr z
  ·have z':scope.names.lookup x=some .cell:=by
    have z2:(scope.names.lookup x==some V3)=true:=z;simpa using z2
   rcases jY S e with ⟨n,_⟩|⟨_,m⟩
   ·exact absurd z' n
   ·show h3.objs.size<=c;rw [hC];exact T8 (W6 (Û x c m).2)
  ·rcases (hf b hb).2.2.2.1 with z|z
   ·exact I.ok.noex b o e z
   ·exact absurd (B2 (D9 e) (R8 I.ok.bsz z)) (B8 _)
  ·rcases R7.mp (I.stkSub b z) with q|q
   ·exact(hf b hb).2.1 q
   ·exact(hf b hb).2.2.1 q
 -- Ũ X0g first state
 have I4:Inv X' [(D,o0)] (zn js σ) H2 {s2 with heap:=h₁}:=by
  subst hX;have hDC:D≠C:=by rw [CD];exact M7 (J7 _)
  refine⟨okX,rfl,I2.bare,Un.kept (λb u e=>Λ b u e),⟨_,ú,λi x v e1 e2 e3=> ?_⟩,λx c e=> ?_,I3.hok.fresh (J0 hC),λx c e=>(cl x c e).elim (λz=>I2.freeC x c z) (λz=>I3.hok.fresh (by rw [<-hC] at z;exact T8 z)),λp hp=> ?_,I3.hok.kept Λ,(Jx js σ).trans I2.len⟩
  ·have fr:scope.names.lookup x=some .free:=by
    rcases e3 with e3|e3|e3
    ·rcases jx (env:=X.env) e3 with z|z
     ·exact absurd e2 (jV js σ i v (S.js i x e1 (.inl z)))
     ·exact z
    ·rcases jx (env:=X.env) e3 with z|z
     ·exact absurd e2 (jV js σ i v (S.js i x e1 (.inr z)))
     ·exact z
    ·rcases jx (env:=X.env) e3 with z|z<;>exact z
   have fm:=zm fr;obtain⟨m,hm,hl⟩:=I2.loc;have vis:=S.free _ fm rfl;obtain⟨u,r,lk⟩:=hl i x v e1 (vS js σ i v e2) (.inr vis);have kd:(y3 scope X.env).names.lookup x=some .cell\/(y3 scope X.env).names.lookup x=some .free:=by
    rcases e3 with e3|e3|e3
    ·rcases jx (env:=X.env) e3 with z|z
     ·rw [fr] at z;cases z
     ·exfalso;have z2:=e3
      -- a X0h kind Ņ
      exact absurd e2 (jV js σ i v (S.js i x e1 (.inl (by
       have q: ∀ (l:G0 (Str×NameKind)),(l.map λ(n,k)=>if (k==E4&&X.env.scope.kind== .function&&X.env.kindOf n==some .cell) then (n,V3) else (n,k)).lookup x=some .local->l.lookup x=some .local:=by
        intro l
        induction l with
        |nil=>intro h;simp at h
        |cons p l ih=>
         obtain⟨n,k'⟩:=p;intro h;have h':IS x ((if (k'==E4&&X.env.scope.kind== .function&&X.env.kindOf n==some .cell)=true then (n,V3) else (n,k'))::(l.map λ(n,k)=>if (k==E4&&X.env.scope.kind== .function&&X.env.kindOf n==some .cell) then (n,V3) else (n,k)))=some .local:=h;rw [J6]
         by_cases hc:(k'==E4&&X.env.scope.kind== .function&&X.env.kindOf n==some .cell)=true
         ·rw [R9 hc,J6] at h';cases hx:x==n with
          |true=>rw [hx] at h';cases h'
          |false=>rw [hx] at h';exact ih h'
         ·rw [S4 hc,J6] at h';cases hx:x==n with
          |true=>rw [hx] at h';exact h'
          |false=>rw [hx] at h';exact ih h'
       exact q _ z2))))
    ·exact .inl e3
    ·exact .inr e3
   rcases lk with ⟨k,_⟩|⟨_,c,hc,Ĝ⟩
   ·have k':X.env.scope.names.lookup x=some .local:=k;rcases vis with z|z<;>(rw [k'] at z;cases z)
   ·refine⟨u,r,.inr ⟨kd,c,wf S hc fm (by rw [fr];decide),?_⟩⟩;obtain⟨o,ho,hd⟩:=Ĝ;exact⟨o,Λ _ _ (up3 _ _ ho),hd⟩
  ·rcases jY S e with ⟨_,z⟩|⟨_,z⟩
   ·obtain⟨v,o,ho,hd⟩:=I2.cell x c z;exact⟨v,o,Λ _ _ (up3 _ _ ho),hd⟩
   ·exact⟨none,(Û x c z).1⟩
  ·have Ů:p∈ [(D,o0)]:=hp;rcases G8.mp Ů with rfl
   refine⟨Λ _ _ hD3,fD.1,hDC,λz=> ?_,X0E _ _ X1f⟩;rcases R7.mp (I.stkSub D z) with q|q
   ·exact fD.2.1 q
   ·exact fD.2.2.1 q
 have st4:tn 0 h₁:=T.keep _ _ _ Ħ λb _ o e=>Λ _ _ (up3 _ _ e)
 have eA:X'.A=X.A:=by rw [<-hX];rfl
 have eP:X'.prog=X.prog:=by rw [<-hX];rfl
 have eW:X'.w=X.w:=by rw [<-hX];rfl
 have eK:X'.K=X.K:=by rw [<-hX];rfl
 have eC:X'.calm=true:=by rw [<-hX];exact hc
 have eV:X'.env=mV scope (jz X scope C) C X.env:=by rw [<-hX];rfl
 have eE:X'.xe=λ_ _=>False:=by rw [<-hX];rfl
 -- θ Ņ true of Ũ į objects
 have ċ: ∀ {us:Obj} {H':Hp},(∀b∈fp,H' b=none)-> ∀b∈fp,UQ X' [(D,us)] H' b:=λ{us H'} hn b hb=>by
  have q:=hf b (N2 _ hb);subst hX;refine⟨hn b hb,M7 (ltb b (N2 _ hb)),λz=> ?_,.inl (N2 _ hb),λx c e=>(cl x c e).elim (λz=>q.2.2.2.2.1 x c z) (λz=>V6 (W5 (ltb b (N2 _ hb)) z)),λp hp=> ?_⟩
  ·rcases R7.mp (I.stkSub b z) with r|r
   ·exact q.2.1 r
   ·exact q.2.2.1 r
  ·have Ů:p∈ [(D,us)]:=hp;rcases G8.mp Ů with rfl
   exact V6 (ltf b hb)
 have loop: ∀s₃:G5,s₃= {s2 with heap:=h₁}->
  bJ (S0 X.prog X.w) X.A (.compLoop e 0 (.ref it) (.ref D) (mV scope (jz X scope C) C X.env))
   (uL (S0 X.prog X.w) X.A X.xe use Qv (.ref D) C) s₃:=by
  rintro s₃ rfl;refine Rt (act:=act (mV scope (jz X scope C) C X.env) (.ref D)) (λn s'=> ∃i ys us H',Acc ys us/\Inv X' [(D,us)] (zn js σ) H' s'/\tn i s'.heap/\(∀b∈fp,H' b=none)/\W i n ys H') (ck.quiet _ _ _) (ck.den _ _ _) (ck.under _ _ _ _) (ŝ _ _ _) ?_ m0
   ⟨0,a0,o0,H2,X1f,I4,st4,λb hb=>(f2 b hb).1,w0⟩
  rintro n s5 ⟨i,ys,us,H5,Φ,I5,Υ,fr5,w5⟩;have tr:=turn i n ys H5 w5;rcases tr with ⟨stop,qn⟩|⟨go,step⟩
  ·have q:=T.done X' eP eW eK eC i _ s5 _ H5 (λ_ _=>False) I5 (ċ fr5) Υ stop;rw [eA] at q;refine M5 q (λr s6 ⟨hr,I6⟩=> ?_) λ_ _ z=>z
   subst hr;obtain⟨m6,hm6,_⟩:=I6.loc;rw [eV] at hm6;have zD:=I6.pin (D,us) (D0 _ P4);have HD:H5 D=none:=zD.2.1;have oD:s6.heap.get? D=some (us):=zD.1;have hDC:D≠C:=by rw [CD];exact M7 (J7 _)
   have HC:H5 C=none:=by have z:=I6.free;rw [eV] at z;exact z
   have B:=I6.base;have os6:s6.os=s2.os:=by have z:=I6.os;rw [<-hX] at z;exact z
   have Bu:Un (Ζ X.stack) (fp++ [D]) H2 H5 h3 s6.heap:=by rw [<-hX] at B;exact B
   have Τ: ∀b o,h3.get? b=some o->b≠C:=λb o e=>by rw [<-hC];exact M7 (D9 e)
   refine fin D C (upd H5 D (ho ys us D)) s6 m6 hm6 (λh' hs'=> ?_) (by rw [jj (I0 hDC)];exact HC) ?_ ?_ ?_ (λx c e=>M7 (olt x c e)) ?_ (qn D us HD Φ)
   ·have hk5:Ē X.prog X.w H5 h':=λb u e=>by
     have z:=I6.hok b u e;rw [eP,eW] at z;refine z.stay (λc v hc q=>hs'.extBut c v ?_ q) (λ_ q=>q) λ_ _ q=>q
     rcases hc with rfl|hc
     ·exact ji e HC
     ·exact ji hc HC
    refine I3.call' (ch:=fp++ [D]) os6 ⟨λb o e n hb hx=> ?_,λb o e n hb hx=> ?_,λb o e n hx=> ?_,λb o e hx=> ?_,λb xs e=> ?_,λb o u e=> ?_,λb ps e=> ?_⟩ (hk5.track HD ?_) I6.bare λb hb=> ?_
    ·exact hs'.extBut b o (Τ b o e) (Bu.keep b o e n hb hx)
    ·obtain⟨sl,q⟩:=Bu.slot b o e n hb hx;exact⟨sl,hs'.extBut b _ (Τ b o e) q⟩
    ·rw [jj λz=>hx (by rw [z];exact D0 _ P4)];exact Bu.free b o e n hx
    ·obtain⟨o',q⟩:=Bu.there b o e hx;exact⟨o',hs'.extBut b _ (Τ b o e) q⟩
    ·have z:=Bu.tups b xs e;rw [jj (ji z HD)];exact z
    ·have z:=Bu.frzs b o u e;rw [jj (ji z HD)];exact z
    ·obtain⟨more,z⟩:=Bu.tbls b ps e;exact⟨more,by rw [jj (ji z HD)];exact z⟩
    ·exact okO (beq_eq_false_iff_ne.mpr (by rw [<-hD];exact I0 (M7 I2.big))) Φ (hs'.extBut D _ hDC oD)
    ·have q:=hf b hb;exact⟨q.2.2.2.1,q.2.1,q.2.2.2.2.1,q.2.2.2.2.2⟩
   ·rw [<-hC];exact V6 I3.lt
   ·exact I3.nofs (J0 hC)
   ·rw [<-hC];exact I3.sz
   ·intro p hp;have:=(I3.pin p hp).1;rw [<-hC];exact M7 (D9 this)
  ·have q:=T.item X' eP eW eK eC i _ s5 _ H5 (λ_ _=>False) I5 (ċ fr5) Υ go;rw [eA] at q;refine M5 q (λr s6 ⟨u,hr,h6⟩=> ?_) λ_ _ z=>z
   subst hr;refine M5 h6 (λ_ s7 ⟨x,H7,I7,r7,y7,χ,fr7⟩=> ?_) λ_ _ z=>z
   have I7':=I7.pinned (ċ fr7) (T.obj _ _ χ);have q7:=hg X' iX _ s7 _ H7 x u _ I7' r7 (step x H7 y7);rw [eP,eW,eA,eV,eE] at q7;refine M5 q7 (λ_ s8 ⟨ψ,H8,I8,Ž,q8⟩=> ?_) λ_ _ z=>z
   have q9:=ht X' iX _ s8 ψ H8 _ I8 q8;rw [eP,eW,eA,eV,eE] at q9;refine M5 q9 (λok s9 ⟨H9,I9,q9⟩=> ?_) λ_ _ z=>z
   have ĝ: ∀ {Â:St} {H':Hp} {s':G5} {us:Obj},Inv X' ([(D,us)]++wG fp s7.heap) Â H' s'->tn (i+1) s'.heap/\ ∀b∈fp,H' b=none:=λ{Â H' s' us} I'=>
    ⟨T.keep _ _ _ χ λb hb o e=>(I'.pin (b,o) (D0 _ (D0 _ (zl hb e)))).1,λb hb=>by
     obtain⟨o,e,_⟩:=T.obj _ _ χ b hb;exact(I'.pin (b,o) (D0 _ (D0 _ (zl hb e)))).2.1⟩
   cases ok with
   |false=>
    have q9: ∃m',m'<n/\W (i+1) m' ys H9:=q9;obtain⟨m',hm,w9⟩:=q9;obtain⟨t9,f9⟩:=ĝ I9;exact⟨m',hm,i+1,ys,us,H9,Φ,(I9.unpinned).weak Ž.1.symm Ž.2,t9,f9,w9⟩
   |true=>
    have q9:tm ψ H9 ys λù H4=> ∃m',m'<n/\W (i+1) m' ù H4:=q9
    have DX:D∈X'.ex:=by rw [<-hX];exact D0 _ P4
    have pD: ∀p∈X'.pn++wG fp s7.heap,p.1≠D:=λp hp=>by
     have Ů:p∈wG fp s7.heap:=by rw [<-hX] at hp;simpa [wu] using hp
     exact M7 (ltf _ (vP Ů).1)
    have cD: ∀x c,X'.env.cells.lookup x=some c->c≠D:=λx c e=>by
     rw [eV] at e;exact(cl x c e).elim (λz=>fD.2.2.2.2.1 x c z) λz=>V6 (W5 (by rw [CD];exact J7 _) z)
    have q10:=he X' iX D _ s9 ψ H9 ys us _ I9 Φ DX cD pD q9;rw [eP,eW,eA,eV] at q10;show R5 _ _ (act _ _) _ _ s9;refine M5 q10 (λ_ s10 ⟨ù,ż,H10,ω,I10,m',hm,w10⟩=> ?_) λ_ _ z=>z
    obtain⟨t10,f10⟩:=ĝ I10;exact⟨m',hm,i+1,ù,ż,H10,ω,(I10.unpinned).weak Ž.1.symm Ž.2,t10,f10,w10⟩
 exact ck.start (loop _ rfl) (T.self X.A 0 _ _ _ st4 (loop _ rfl))
abbrev NQ:=P2×G0 (G0 P1)
def ui (P:T7)(w:C1)(ps:G0 NQ)(o:Obj):Prop:= ∃f es ep t,o=yt es ep t/\ą (Lk P w) (wK w) (λk b=>(b,k)∈ps) f es t (ps.map (·.2)).reverse
noncomputable abbrev EM (o:Obj):HO:= .frz o (.own 0)
def tab_of {K:G7}{H:Hp}{T:G0 (G0 P1)}{b:P2}(r:É K H (jp T) (.ref b)):WQ H T b:=by
 obtain⟨a,vs,e,hH,r1⟩:=(show ∃a vs,V.ref b= .ref a/\H a=some (.tup vs)/\Á K H (T.map wx) vs from r);cases e;exact⟨vs,hH,Xr r1⟩
def Uh {X:Cx}{k:G6}(hc:X.calm=true)(hr:á k X.A):â X (.type "set") (λxs H Q=> ∃ (a:P2) (ps:G0 NQ) (B:G0 (G0 (G0 P1))),xs= [.ref a]/\è X.K H a (ps.map λp=>V.ref p.1)/\B.length<1000/\(∀p∈ps,p.2∈B)/\(∀p∈ps,WQ H p.2 p.1)/\ ∀ (p:P2) (o:Obj),H p=none->ui X.prog X.w ps o->Q (.ref p) (upd H p (EM o))):=by
 intro À s σ H xs us Q I r h;obtain⟨a,ps,B,rfl,hS,few,inB,ht,q⟩:=h;obtain⟨u,rfl,ru⟩:=Zp r;cases ru;obtain⟨its,rv,pl,hz⟩:=I.list hS;have len:its.length=ps.length:=by have:=rv.length;rw [G3] at this;exact this.symm
 have at_: ∀i v,its[i]? =some v-> ∃b,v= .ref b/\(b,(ps.map (·.2)).getD i [])∈ps:=λi v e=>by
  have il:i<ps.length:=by rw [<-len];exact(P7.mp e).1
  have e1:(ps.map λp=>V.ref p.1)[i]? =some (.ref ps[i].1):=by rw [P9,G1 il];rfl
  have e2:=wL rv e1 e;refine⟨ps[i].1,e2,?_⟩;rw [D2,P9,G1 il];exact N0 il
 have rng:(P5 its.length).map (λi=>(ps.map (·.2)).getD i [])=ps.map (·.2):=by
  have:=jT (ps.map (·.2)) ([]:G0 (G0 P1));rw [G3] at this;rw [len];exact this.symm
 refine Rh (M:=Lk X.prog X.w) (is:=λk b=>(b,k)∈ps) B few (λi hi=>by
  have il:i<ps.length:=by rw [<-len];exact hi
  rw [D2,P9,G1 il];exact inB _ (N0 il)) (by have:=hr.un;omega) (I.ok.hd hc) (.inl rfl) pl.isList at_ (λk b z=>vj I k b (ht _ z)) λh' tk f es ep t e S kept=> ?_
 rw [rng] at S;exact⟨.ref _,_,I.laid (t':=tk) (o:=EM (yt es ep t)) kept (P6 _) ⟨e,⟨_,e⟩⟩,rfl,q _ _ (I.hok.fresh (P6 _)) ⟨f,es,ep,t,rfl,S⟩⟩
end L2
namespace L2
open PySem PySem.Spec PyProof.Rows HT PySem.SeqAt
section
variable {prog:T7}{w:C1}{A:N7}{E:G2->G5->Prop}{s:G5}
noncomputable def Zj (U:G0 (G0 P1)):G6:=(U.map λr=>r.length+1).sum
theorem WS {Q:S9 P1->G5->Prop}(hu:A.units+4<cLine): ∀ {vs:G0 G2} {U:G0 (G0 P1)} (b:S9 P1) (s1:G5),s1.heap=s.heap->Î prog w s.heap U vs->Q (b++(U.map (X6 (intKind prog w))).toArray) {s1 with toks:=s1.toks+Zj U}->
 R5 (S0 prog w) A (forIn vs b λx r=>do let h <-pyHash x;pure (aO (r.push h))) Q E s1
 |_,_,b,s1,_,.nil,q=>P0 (by simpa [Zj] using q)
 |_,_,b,s1,e1,.cons (r:=r) (T:=U) a x,q=>by
  rw [cQ];refine wpAny_bind (wpAny_bind (lK (by omega) (by rw [e1];exact a) (P0 ?_)));refine WS hu (b.push (X6 (intKind prog w) r)) _ e1 x ?_;have e:s1.toks+(r.length+1)+Zj U=s1.toks+Zj (r::U):=by unfold Zj;rw [T6,mO];omega
  rw [T6] at q;show Q _ {s1 with toks:=s1.toks+(r.length+1)+Zj U};rw [e];simpa using q
def Ru {T:G0 (G0 P1)}{a:P2}{Q:P1->G5->Prop}(hu:A.units+8<cLine)(hT:Wp prog w s.heap T a)(q:Q (GE prog w T) {s with toks:=s.toks+(Zj T+1)}):R5 (S0 prog w) A (pyHash (.ref a)) Q E s:=by
 obtain⟨o,items,n,ho,hc,hd,hi⟩:=hT;have ty:s.TypeIs (.ref a) "tuple" :=⟨o,ho,hc⟩;have room:A.units<cLine:=by omega
 have slot:=λ{M:qS} {A':N7} {E':G2->G5->Prop} {P:D4 G2->G5->Prop}=>Y2 (M:=M) (A:=A') (E:=E') (Q:=P) ty F.slot_tuple_hash.lookup
 unfold pyHash pyHashByItsType;refine wpAny_bind (rV (.inr room) (wpAny_bind (slot ?_)));rw [S4 (by simp)];refine wpAny_bind (slot (wpAny_bind (cY ty gZ (L6 gZ ty qN ?_ (pX _)))));show R5 _ _ (aZ (.ref a) >>= _) _ _ s;refine wpAny_bind (qO ho hd (wpAny_bind ?_));rw [<-V9];refine WS (A:=A.in1) (show A.units+1+4<cLine by omega) #[] s rfl hi ?_;have told:=q;unfold GE nJ at told;show R5 _ _ (retInt (Y5 ((#[]:S9 P1)++(T.map (X6 (intKind prog w))).toArray).toList)) _ _ _;rw [show ((#[]:S9 P1)++(T.map (X6 (intKind prog w))).toArray).toList=T.map (X6 (intKind prog w)) by simp];refine iU ?_;show R5 _ _ (cG _) _ _ _;unfold cG;split
 ·rename_i c;rw [R9 c] at told;exact P0 told
 ·rename_i c;rw [S4 c] at told;exact wpAny_bind (iC (P0 told))
def Î.past {h h':A7}{d:P2}{o:Obj}{es:S9 dP}{ep:G6}(hd:h.get? d=some o)(dd:o.data= .dict es ep)(hs:A8 d h h'): ∀ {T:G0 (G0 P1)} {vs:G0 G2},Î prog w h T vs->Î prog w h' T vs
 |_,_,.nil=> .nil
 |_,_,.cons a x=> .cons (a.keeps hd dd hs) (x.past hd dd hs)
noncomputable def MB (prog:T7)(w:C1):HeapKind prog w (G0 (G0 P1)) where
 is:=Wp prog w
 hash:=GE prog w
 draws:=λT=>Zj T+1
 room:=λA=>A.units+8<cLine
 inj:=λhx hy=>(Lk prog w).inj hx hy
 keeps:=λ⟨o',items,n,ho,hc,hdd,hi⟩ hd dd hs=>by
  refine⟨o',items,n,hs.extBut _ _ (λz=> ?_) ho,hc,hdd,hi.past hd dd hs⟩;rw [z,hd] at ho;cases ho;rw [dd] at hdd;cases hdd
 pyHash:=λhu hk q=>Ru hu hk q
 eqBool:=λhu hx hy q=>Rk hu hx hy q
 quiet:=λhk q=>Uf hk q
end
abbrev KT2:=G0 (G0 (G0 P1)×P2×V)
noncomputable def zk {α:Type}(kv:G0 (G0 (G0 P1)×α))(k:G0 (G0 P1)):D4 α:=(kv.find? λp=>decide (p.1=k)).map (·.2)
noncomputable def GV {α:Type}(kv:G0 (G0 (G0 P1)×α))(k:G0 (G0 P1))(d:α):G0 (G0 (G0 P1)×α):=if (zk kv k).isSome then kv.map (λp=>if p.1=k then (p.1,d) else p) else kv++ [(k,d)]
variable {T:G0 (G0 P1)}
def Zt {K:G7}{H:Hp}{b:P2}(r:É K H (jp T) (.ref b)):WQ H T b:=by
 obtain⟨ps,e1,e2,e3⟩:=Rn (K:=K) (H:=H) (Ts:= [T]) (vs:= [.ref b]) ⟨_,_,rfl,r,rfl⟩;cases ps with
 |nil=>cases e1
 |cons p ps=>
  injection e1 with e4 _
  injection e2 with e5 _
  injection e4 with e4
  rw [e5,e4];exact e3 p P4
abbrev yD (p:G0 (G0 P1)×P2×V)(q:G0 (G0 P1)×P2×G2):Prop:=p.1=q.1/\p.2.1=q.2.1/\RelV p.2.2 q.2.2
theorem jU: ∀ {xs:KT2} {ys:G0 (G0 (G0 P1)×P2×G2)},Paired yD xs ys->xs.map (·.1)=ys.map (·.1)/\xs.length=ys.length/\ ∀y∈ys,∃x∈xs,x.1=y.1/\x.2.1=y.2.1
 |_,_,.nil=>⟨rfl,rfl,λy hy=>by cases hy⟩
 |_,_,.cons (a:=x) (b:=y) r z=>by
  obtain⟨a,b,c⟩:=jU z;refine⟨by rw [T6,T6,a,r.1],by rw [R3,R3,b],λy' hy=> ?_⟩;rcases R7.mp hy with e|e
  ·rw [e];exact⟨_,P4,r.1,r.2.1⟩
  ·obtain⟨x',hx,p⟩:=c y' e;exact⟨x',R1 _ hx,p⟩
section
variable {K:G7}{H:Hp}{k:G0 (G0 P1)}
theorem wU: ∀ {kv:G0 (G0 (G0 P1)×D)} {xs:KT2} {ys:G0 (G0 (G0 P1)×P2×G2)},kv.map (·.1)=xs.map (·.1)->Á K H (kv.map (·.2)) (xs.map (·.2.2))->Paired yD xs ys->
 (∀d,zk kv k=some d-> ∃v p,gG ys k=some p/\É K H d v/\RelV v p.2)/\(zk kv k=none->gG ys k=none)
 | [],[],_,_,_,.nil=>⟨λ_ z=>(nomatch z),λ_=>rfl⟩
 |p::r,[],_,e,_,_=>by cases e
 | [],q::xs,_,e,_,_=>by cases e
 |p::r,q::xs,_,e,h,.cons (b:=y) r1 z=>by
  rw [T6,T6] at e;injection e with e1 e2
  obtain⟨v,t,z',h1,h2⟩:=(show ∃v t,q.2.2::xs.map (·.2.2)=v::t/\É K H p.2 v/\Á K H (r.map (·.2)) t from h);injection z' with z1 z2
  subst z1 z2;have ih:=wU e2 h2 z
  by_cases c:p.1=k
  ·have g:zk (p::r) k=some p.2:=by simp [zk,U2,c]
   have g': ∀Ĵ,gG (y::Ĵ) k=some y.2:=λĴ=>by
    have:y.1=k:=by rw [<-r1.1,<-e1,c]
    simp [gG,U2,this]
   rw [g];refine⟨λd hd=> ?_,λhd=>by cases hd⟩;injection hd with hd
   subst hd;exact⟨q.2.2,y.2,g' _,h1,r1.2.2⟩
  ·have g:zk (p::r) k=zk r k:=by simp [zk,U2,c]
   have g': ∀Ĵ,gG (y::Ĵ) k=gG Ĵ k:=λĴ=>by
    have: ¬y.1=k:=by rw [<-r1.1,<-e1];exact c
    simp [gG,U2,this]
   rw [g,g'];exact ih
end
section
variable {X:Cx}{À:G0 (P2×Obj)}{σ:St}{H:Hp}{s:G5}{a b:P2}{A:N7}{E:G2->G5->Prop}{T:G0 (G0 P1)}{xs Ĵ:KT2}
def Jm {ep:G6}(I:Inv X À σ H s)(hH:H a=some (Jy a ep xs))(ks: ∀x∈xs,WQ H x.1 x.2.1)(nd:(xs.map (·.1)).Nodup):(a==aY)=false/\xs.length<=sizeLine/\ ∃ys,Paired yD xs ys/\s.heap.DictOfH (MB X.prog X.w) a ys:=by
 obtain⟨⟨h1,h2,ys,pr,o,es,ho,ex,hd,he⟩,_,_⟩:=I.hok a _ hH;obtain⟨k1,k2,k3⟩:=jU pr;refine⟨h1,h2,ys,pr,o,es,ep,ho,ex,hd,he,λy hy=> ?_,by rw [<-k1];exact nd⟩;obtain⟨x,hx,e1,e2⟩:=k3 y hy;have:=vj I x.1 x.2.1 (ks x hx);rw [e1,e2] at this;exact this
def NR {ep:G6}{v:V}{r:G2}{Q:Unit->G5->Prop}(hu:A.units+9<cLine)(I:Inv X À σ H s)(hH:H a=some (Jy a ep xs))(ks: ∀x∈xs,WQ H x.1 x.2.1)(nd:(xs.map (·.1)).Nodup)(hT:WQ H T b)(st: ∀ys,Paired yD xs ys->Paired yD Ĵ (storedH ys T b r))(lz:Ĵ.length<=sizeLine)
 (h: ∀Þ s',Inv X À σ (upd H a (Jy a Þ Ĵ)) s'->Q () s'):R5 (S0 X.prog X.w) A (tX (.ref a) (.ref b) r) Q E s:=by
 obtain⟨h1,h2,ys,pr,dd⟩:=Jm I hH ks nd;refine wpAny_setItem_heap (knd:=MB X.prog X.w) (hsz:=by have:=(jU pr).2.1;omega) (show A.units+1+8<cLine by omega) (vj I T b hT) dd λh' dd' hs=> ?_
 obtain⟨q,es,ep,hq,e2,e3,e4,_,_⟩:=dd';refine h ep _ (Pt I (by rw [hH];exact bT) hs ⟨q,hq⟩ ⟨⟨h1,lz,_,st ys pr,q,es,hq,e2,e3,e4⟩,⟨q,hq⟩,λg1 g2 hg ke=> ?_⟩);obtain⟨a1,a2,ù,pr',o,ã,ho,ex,hd,he⟩:=hg;exact⟨a1,a2,ù,pr',o,ã,ke o ho,ex,hd,he⟩
end
def Ho:TE:=λ_ H Q=> ∀p,H p=none->Q (.ref p) (upd H p (Jy p 0 []))
def X0m {X:Cx}{pos:Pos}:PE X (.Dict [] [] pos) Ho:=λÀ s σ H Q I h=>
 wpAny_Dict_empty ⟨.ref s.heap.objs.size,_,I.laid (a:=s.heap.objs.size) (o:=Jy s.heap.objs.size 0 []) (t':=s.toks) (λ_ _ q=>G9 _ q) (P6 _) ⟨⟨beq_eq_false_iff_ne.mpr (I0 (M7 I.big)),N9 _,[],.nil,_,#[],S6 _ rfl,⟨rfl,rfl,rfl⟩,rfl,rfl⟩,⟨_,S6 _ rfl⟩,λg1 g2 ⟨a1,a2,ù,pr',o,ã,ho,ex,hd,he⟩ ke=>⟨a1,a2,ù,pr',o,ã,ke o ho,ex,hd,he⟩⟩,rfl,h _ (I.hok.fresh (P6 _))⟩
def EN:TED:=λ_ h Q=> ∀p,h.dc p=none->Q (.dct p) (Mx h p (.tk 0 []))
def ixT:RD2:=λx y h Q=> ∃a T ep kv d,x= .dct a/\y=jp T/\h.dc a=some (.tk ep kv)/\zk kv T=some d/\Q d h
def inT (neg:N4):RD2:=λx y h Q=> ∃a T ep kv,y= .dct a/\x=jp T/\h.dc a=some (.tk ep kv)/\Q (.bl (neg !=(zk kv T).isSome)) h
section
variable {X:Cx}
def BX {pos:Pos}:JE X (.Dict [] [] pos) EN:=⟨X0m.imp λσ H Q ⟨Æ,h,Qd,rs,rh,t,p⟩ q hq=>
 p (.dct q) (.ref q) _ _ (.new hq) (rh.newC (c:= .tk 0 []) hq ⟨[],jt,lM,rfl,λx hx=>(by cases hx),rfl⟩) rfl (t q (rh.freeC hq))⟩
def BY {n:G6}(hr:á n X.A):ñ X (B9 .In) (inT false):=λÀ s σ H x y v u Q I rx ry ⟨d,d2,h,Qd,r1,r2,rh,⟨a,T,ep,kv,e1,e2,e,q⟩,post⟩=>by
 subst e1 e2;cases (show y= .ref a from r2);cases (show u=K8 a from ry);obtain⟨xs,hH,nd,ek,tv,rv⟩:=(show ∃xs:KT2,_ from rh.dc a _ e);obtain⟨b,us,ex,_⟩:=(show ∃b vs,x= .ref b/\H b=some (.tup vs)/\Á X.K H (T.map wx) vs from r1);subst ex;cases (show v=K8 b from rx);obtain⟨h1,h2,ys,pr,dd⟩:=Jm I hH (λx hx=>Zt (tv x hx)) (by rw [<-ek];exact nd);refine wpAny_in_heap (knd:=MB X.prog X.w) (show X.A.units+1+8<cLine by have:=hr.un;omega) (vj I T b (Zt r1)) h1 dd ⟨.bl _,H,I.tok _,rfl,post (.bl _) _ _ _ (.refl H) rh ?_ q⟩;show V.bl (gG ys T).isSome= .bl (false !=(zk kv T).isSome);cases g:zk kv T with
 |none=>rw [(wU ek rv pr).2 g];rfl
 |some d=>obtain⟨_,_,hp,_⟩:=(wU ek rv pr).1 d g;rw [hp];rfl
def Rv {n:G6}(hr:á n X.A):ñ X (B9 .NotIn) (inT true):=λÀ s σ H x y v u Q I rx ry ⟨d,d2,h,Qd,r1,r2,rh,⟨a,T,ep,kv,e1,e2,e,q⟩,post⟩=>by
 subst e1 e2;cases (show y= .ref a from r2);cases (show u=K8 a from ry);obtain⟨xs,hH,nd,ek,tv,rv⟩:=(show ∃xs:KT2,_ from rh.dc a _ e);obtain⟨b,us,ex,_⟩:=(show ∃b vs,x= .ref b/\H b=some (.tup vs)/\Á X.K H (T.map wx) vs from r1);subst ex;cases (show v=K8 b from rx);obtain⟨h1,h2,ys,pr,dd⟩:=Jm I hH (λx hx=>Zt (tv x hx)) (by rw [<-ek];exact nd);refine wpAny_notIn_heap (knd:=MB X.prog X.w) (show X.A.units+1+8<cLine by have:=hr.un;omega) (vj I T b (Zt r1)) h1 dd ⟨.bl _,H,I.tok _,rfl,post (.bl _) _ _ _ (.refl H) rh ?_ q⟩;show V.bl (!(gG ys T).isSome)= .bl (true !=(zk kv T).isSome);cases g:zk kv T with
 |none=>rw [(wU ek rv pr).2 g];rfl
 |some d=>obtain⟨_,_,hp,_⟩:=(wU ek rv pr).1 d g;rw [hp];rfl
def Hq (td ty:TE):TE:=λσ H Q=>td σ H λx H1=>ty σ H1 λy H2=> ∃ (a b:P2) (T:G0 (G0 P1)) (ep:G6) (xs:KT2),x= .ref a/\y= .ref b/\H2 a=some (Jy a ep xs)/\(∀x∈xs,WQ H2 x.1 x.2.1)/\(xs.map (·.1)).Nodup/\WQ H2 T b/\ ∃v,(∀ys,Paired yD xs ys-> ∃p,gG ys T=some p/\RelV v p.2)/\Q v H2
def Ln {o i:N3}{td ty:TE}{pos:Pos}(hu:X.A.units+9<cLine)(ho:PE X o td)(hi:PE X i ty)(hs:Tj i):PE X (.Subscript o i pos) (Hq td ty):=by
 intro À s σ H Q I h;refine CO PySem.F.slot_dict_getitem.lookup hs (Ô (ho À s σ H _ I h) λu s1 ⟨x,H1,I1,rx,q1⟩=>Ô (hi À s1 σ H1 _ I1 q1) λiv s2 ⟨y,H2,I2,ry,a,b,T,ep,xs,ex,ey,hH,ks,nd,hT,v,g,q2⟩=> ?_);subst ex ey;obtain rfl:u=K8 a:=rx;obtain rfl:iv=K8 b:=ry;obtain⟨h1,h2,ys,pr,dd⟩:=Jm I2 hH ks nd;obtain⟨p,hp,rp⟩:=g ys pr;exact⟨dd.typeIs,wpAny_getItem_heap (knd:=MB X.prog X.w) (show X.A.units+1+8<cLine by omega) (vj I2 T b hT) dd hp ⟨v,H2,I2.tok _,rp,q2⟩⟩
def EO {k : G6} {a b : N3} {ta tb : TED} {pos : Pos} (hr : á k X.A) (ha : JE X a ta) (hb : JE X b tb) (hs : Tj b := by intro _ _; rfl) : JE X (.Subscript a b pos) (œ ixT ta tb) :=
  ⟨(Ln (by have := hr.un; omega) ha.to hb.to hs).imp fun σ H Q ⟨Æ, h, Qd, rs, rh, t, post⟩ => LE.bind rs rh t fun d v h1 H1 k1 Ù Ê r1 t1 => LE.bind Ù Ê t1 fun d2 v2 h2 H2 k2 ĩ ê r2 ⟨a, T, ep, kv, d3, e1, e2, e, g, q⟩ => by
    subst e1 e2
    cases (show v = .ref a from r1)
    obtain ⟨b, us, ex, _⟩ := (show ∃ b vs, v2 = .ref b ∧ H2 b = some (.tup vs) ∧ Á X.K H2 (T.map wx) vs from r2)
    subst ex
    obtain ⟨xs, hH, nd, ek, tv, rv⟩ := (show ∃ xs : KT2, _ from ê.dc a _ e)
    -- θ stands there, whatever Ũ heap holds
    have val : ∃ w, É X.K H2 d3 w ∧ ∀ ys, Paired yD xs ys → ∃ p, gG ys T = some p ∧ RelV w p.2 := by
      clear q hH nd tv e
      induction kv generalizing xs with
      | nil => cases g
      | cons p kv ih =>
        cases xs with
        | nil => cases ek
        | cons x xs =>
          rw [T6, T6] at ek
          injection ek with ek1 ek2
          obtain ⟨v0, t, z', w1, w2⟩ := (show ∃ v t, x.2.2 :: xs.map (·.2.2) = v :: t ∧ É X.K H2 p.2 v ∧ Á X.K H2 (kv.map (·.2)) t from rv)
          injection z' with z1 z2
          subst z1 z2
          by_cases c : p.1 = T
          · have : zk (p :: kv) T = some p.2 := by simp [zk, U2, c]
            rw [this] at g
            injection g with g
            subst g
            refine ⟨x.2.2, w1, fun ys pr => ?_⟩
            cases pr with
            | cons r z =>
              rename_i y ys
              have : y.1 = T := by rw [← r.1, ← ek1, c]
              exact ⟨y.2, by simp [gG, U2, this], r.2.2⟩
          · have : zk (p :: kv) T = zk kv T := by simp [zk, U2, c]
            rw [this] at g
            obtain ⟨w, rw_, all⟩ := ih g xs ek2 w2
            refine ⟨w, rw_, fun ys pr => ?_⟩
            cases pr with
            | cons r z =>
              rename_i y ys
              have : ¬ y.1 = T := by rw [← r.1, ← ek1]; exact c
              obtain ⟨p', hp, rp⟩ := all ys z
              exact ⟨p', by rw [show gG (y :: ys) T = gG ys T by simp [gG, U2, this]]; exact hp, rp⟩
    obtain ⟨w, rw_, all⟩ := val
    exact ⟨a, b, T, ep, xs, rfl, rfl, hH, fun x hx => Zt (tv x hx), by rw [← ek]; exact nd, Zt r2, w, all, post d3 w _ _ (k1.trans k2) ê rw_ q⟩⟩
end
noncomputable def BZ (xs:KT2)(T:G0 (G0 P1))(v:V):KT2:=xs.map λx=>if x.1=T then (x.1,x.2.1,v) else x
theorem ZZ {v:V}{u:G2}(rv:RelV v u): ∀ {xs:KT2} {ys:G0 (G0 (G0 P1)×P2×G2)},Paired yD xs ys->Paired yD (BZ xs T v) (ys.map (putAt T u))
 |_,_,.nil=> .nil
 |_,_,.cons (a:=x) (b:=y) r z=>by
  refine .cons ?_ (ZZ rv z);show yD (if x.1=T then (x.1,x.2.1,v) else x) (putAt T u y);unfold putAt
  by_cases c:x.1=T
  ·rw [R9 c,R9 (by rw [<-r.1];exact c)];exact⟨r.1,r.2.1,rv⟩
  ·rw [S4 c,S4 (by rw [<-r.1];exact c)];exact r
def Rw (xs:KT2)(T:G0 (G0 P1))(v:V):(BZ xs T v).map (·.1)=xs.map (·.1):=by
 unfold BZ;rw [N8];exact C7 λx _=>by show (if x.1=T then (x.1,x.2.1,v) else x).1=x.1;split<;>rfl
def NS {xs:KT2}{v:V}{x:G0 (G0 P1)×P2×V}(h:x∈BZ xs T v): ∃x0∈xs,x0.1=x.1/\x0.2.1=x.2.1:=by
 obtain⟨x0,m,rfl⟩:=R6.mp h;exact⟨x0,m,by split<;>exact⟨rfl,rfl⟩⟩
section
variable {K:G7}{H:Hp}{T:G0 (G0 P1)}{d:D}{v:V}
theorem Ui (rd:É K H d v): ∀ {kv:G0 (G0 (G0 P1)×D)} {xs:KT2},kv.map (·.1)=xs.map (·.1)->Á K H (kv.map (·.2)) (xs.map (·.2.2))->Á K H ((kv.map (λp=>if p.1=T then (p.1,d) else p)).map (·.2)) ((BZ xs T v).map (·.2.2))
 | [],[],_,_=>rfl
 |p::r,[],e,_=>by cases e
 | [],q::xs,e,_=>by cases e
 |p::r,q::xs,e,h=>by
  rw [T6,T6] at e;injection e with e1 e2
  obtain⟨v0,t,z',h1,h2⟩:=(show ∃v t,q.2.2::xs.map (·.2.2)=v::t/\É K H p.2 v/\Á K H (r.map (·.2)) t from h);injection z' with z1 z2
  subst z1 z2;refine⟨_,_,rfl,?_,Ui rd e2 h2⟩;show É K H (if p.1=T then (p.1,d) else p).2 (if q.1=T then (q.1,q.2.1,v) else q).2.2
  by_cases c:p.1=T
  ·rw [R9 c,R9 (e1 ▸ c)];exact rd
  ·rw [S4 c,S4 (e1 ▸ c)];exact h1
theorem JQ: ∀ {ds:G0 D} {vs:G0 V},Á K H ds vs->É K H d v->Á K H (ds++ [d]) (vs++ [v])
 | [],vs,r,rd=>by
  have:vs= []:=r;subst this;exact⟨_,_,rfl,rd,rfl⟩
 |d0::ds,vs,r,rd=>by
  obtain⟨v0,t,rfl,r1,r2⟩:=(show ∃v t,vs=v::t/\É K H d0 v/\Á K H ds t from r);exact⟨_,_,rfl,r1,JQ r2 rd⟩
end
def Xu {α:Type}{kv:G0 (G0 (G0 P1)×α)}(h:zk kv T=none):T ∉ kv.map (·.1):=λz=>by
 obtain⟨p,hp,e⟩:=R6.mp z;unfold zk at h;rw [W9,Z6] at h;exact h p hp (S1 e)
def Hr (td ty tv:TE):TS:=λD σ H=>tv σ H λv H1=>td σ H1 λx H2=>ty σ H2 λy H3=> ∃ (a b:P2) (T:G0 (G0 P1)) (ep:G6) (xs Ĵ:KT2),x= .ref a/\y= .ref b/\H3 a=some (Jy a ep xs)/\(∀x∈xs,WQ H3 x.1 x.2.1)/\(xs.map (·.1)).Nodup/\WQ H3 T b/\(∀ys u,Paired yD xs ys->RelV v u->Paired yD Ĵ (storedH ys T b u))/\Ĵ.length<=sizeLine/\ ∀Þ,D.nx σ (upd H3 a (Jy a Þ Ĵ))
section
variable {X:Cx}
def Lo {o i value:N3}{td ty tv:TE}{pos pos':Pos}(hu:X.A.units+9<cLine)(ho:PE X o td)(hi:PE X i ty)(hv:PE X value tv)(hs:X7 value (some (.Subscript o i pos')) pos.line X.env=pure false):PS X (.Assign [.Subscript o i pos'] value pos) (Hr td ty tv):=by
 intro À s σ H D I h;refine wpAny_Assign_Subscript (Ô (hv À s σ H _ I h) λr s1 ⟨v,H1,I1,rv,q1⟩=>Ô (ho À s1 σ H1 _ I1 q1) λu s2 ⟨x,H2,I2,rx,q2⟩=>Ô (hi À s2 σ H2 _ I2 q2) λiv s3 ⟨y,H3,I3,ry,a,b,T,ep,xs,Ĵ,ex,ey,hH,ks,nd,hT,st,lz,q3⟩=> ?_) hs;subst ex ey;obtain rfl:u=K8 a:=rx;obtain rfl:iv=K8 b:=ry;exact NR (v:=v) hu I3 hH ks nd hT (λys pr=>st ys r pr rv) lz λÞ s4 I4=>⟨σ,_,I4,q3 Þ⟩
def Hs (td ty tv:TED):TSD:=λE σ h=>tv σ h λv h1=>td σ h1 λx h2=>ty σ h2 λy h3=> ∃a T ep kv,x= .dct a/\y=jp T/\h3.dc a=some (.tk ep kv)/\kv.length<1000/\ ∀Þ,E.nx σ (Mx h3 a (.tk Þ (GV kv T v)))
def EQ {k : G6} {o i value : N3} {td ty tv : TED} {pos pos' : Pos} (hr : á k X.A) (ho : JE X o td) (hi : JE X i ty) (hv : JE X value tv) (hs : X7 value (some (.Subscript o i pos')) pos.line X.env = pure false := by rfl) : JS X (.Assign [.Subscript o i pos'] value pos) (Hs td ty tv) :=
  ⟨(Lo (by have := hr.un; omega) ho.to hi.to hv.to hs).imp fun D σ H ⟨Æ, h, Dd, rs, rh, t, nx, _⟩ => LE.bind rs rh t fun d v h1 H1 k1 Ù Ê r1 t1 => LE.bind Ù Ê t1 fun d2 v2 h2 H2 k2 ĩ ê r2 t2 => LE.bind ĩ ê t2 fun d3 v3 h3 H3 k3 ű Ď r3 ⟨a, T, ep0, kv, e1, e2, e, hl, q⟩ => by
    subst e1 e2
    cases (show v2 = .ref a from r2)
    obtain ⟨b, us, ex, _⟩ := (show ∃ b vs, v3 = .ref b ∧ H3 b = some (.tup vs) ∧ Á X.K H3 (T.map wx) vs from r3)
    subst ex
    obtain ⟨xs, hH, nd, ek, tv, rv⟩ := (show ∃ xs : KT2, _ from Ď.dc a _ e)
    have ob : ů (Jy a ep0 xs) := .inr ⟨_, rfl⟩
    have rd := (r1.mono k2).mono k3
    have len : xs.length = kv.length := by have := congrArg Y1 ek; simpa using this.symm
    have big : kv.length + 1 ≤ sizeLine := R8 hl (by decide)
    cases g : zk kv T with
    | some d0 =>
      have ep : GV kv T d = kv.map (fun p => if p.1 = T then (p.1, d) else p) := by unfold GV; rw [g]; rfl
      refine ⟨a, b, T, ep0, xs, BZ xs T v, rfl, rfl, hH, fun x hx => Zt (tv x hx), by rw [← ek]; exact nd, Zt r3, fun ys u pr ru => ?_, by unfold BZ; rw [G3, len]; omega, fun Þ => nx Æ _ σ _ (k1.trans (k2.trans (k3.trans (.putD hH ob)))) (ű.mono (.putD hH ob)) (Ď.putC (c := .tk Þ (GV kv T d)) hH ob ?_) (q Þ)⟩
      · obtain ⟨_, p, hp, _⟩ := (wU ek rv pr).1 d0 g
        rw [storedH_old hp]
        exact ZZ ru pr
      · rw [ep]
        refine ⟨BZ xs T v, jt, ?_, ?_, fun x hx => ?_, (Ui rd ek rv).mono (.putD hH ob)⟩
        · rw [N8, show kv.map ((·.1) ∘ fun p => if p.1 = T then (p.1, d) else p) = kv.map (·.1) from C7 fun p _ => by show (if p.1 = T then (p.1, d) else p).1 = p.1; split <;> rfl]
          exact nd
        · rw [Rw, ← ek, N8]
          exact C7 fun p _ => by show (if p.1 = T then (p.1, d) else p).1 = p.1; split <;> rfl
        · obtain ⟨x0, m, a1, a2⟩ := NS hx
          rw [← a1, ← a2]
          exact (tv x0 m).mono (.putD hH ob)
    | none =>
      have ep : GV kv T d = kv ++ [(T, d)] := by unfold GV; rw [g]; rfl
      refine ⟨a, b, T, ep0, xs, xs ++ [(T, b, v)], rfl, rfl, hH, fun x hx => Zt (tv x hx), by rw [← ek]; exact nd, Zt r3, fun ys u pr ru => ?_, by rw [P3, len]; exact big, fun Þ => nx Æ _ σ _ (k1.trans (k2.trans (k3.trans (.putD hH ob)))) (ű.mono (.putD hH ob)) (Ď.putC (c := .tk Þ (GV kv T d)) hH ob ?_) (q Þ)⟩
      · rw [G0h ((wU ek rv pr).2 g)]
        exact pr.snoc ⟨rfl, rfl, ru⟩
      · rw [ep]
        refine ⟨xs ++ [(T, b, v)], jt, ?_, by rw [T4, T4, ek]; rfl, fun x hx => ?_, ?_⟩
        · rw [T4]
          refine X5.mpr ⟨nd, by simp, fun x hx y hy z => ?_⟩
          rw [G8.mp hy] at z
          have z : x = T := z
          subst z
          exact Xu g hx
        · rcases D8.mp hx with m | m
          · exact (tv x m).mono (.putD hH ob)
          · rw [G8.mp m]
            exact r3.mono (.putD hH ob)
        · rw [T4, T4]
          exact (JQ rv rd).mono (.putD hH ob)⟩
end
end L2
namespace L2
open PySem PySem.Spec PyProof.Rows PySem.SeqAt
def uj (to te:TED):TED:=λσ h Q=>to σ h λx h1=> ∃a,x= .lst a/\te σ h1 λy h2=> ∃b xs ys,y= .lst b/\h2 a=some xs/\h2 b=some ys/\xs.length+ys.length<=sizeLine/\Q .non (zK h2 a (xs++ys))
theorem Uj {K:G7}{H:Hp}: ∀ {ds es:G0 D} {vs us:G0 V},Á K H ds vs->Á K H es us->Á K H (ds++es) (vs++us)
 | [],es,vs,us,r,r'=>by
  have:vs= []:=r;subst this;exact r'
 |d::ds,es,vs,us,r,r'=>by
  obtain⟨v,t,rfl,r1,r2⟩:=(show ∃v t,vs=v::t/\É K H d v/\Á K H ds t from r);exact⟨_,_,rfl,r1,Uj r2 r'⟩
section
variable {X:Cx}{o e:N3}{to te:TED}{apos Ï:Pos}
def ul (ho : JE X o to) (he : JE X e te) (hbase : bV o "extend" X.env (K0 o X.env) = K0 o X.env := by rfl)
    (hfew : ((U8 Ï (S5 [e] X.env)).all (fun x => !x.1) && (j5 Ï (dF [] X.env)).all (fun x => x.1.isSome) && decide ([e].length + ([] : G0 cJ).length + (if ([] : G0 cJ).isEmpty then 0 else 1) < 30)) = true := by rfl)
    (hline : (apos.endLine == Ï.line) = true := by rfl) (hs : S5 [e] X.env = (false, K0 e X.env) :: S5 [] X.env := by rfl) (hplain : (U8 Ï (S5 [] X.env)).any (·.1) = false := by rfl) :
    JE X (.Call (.Attribute o "extend" apos) [e] [] Ï) (uj to te) :=
  ⟨(MS cA xQ xR Pp ho.to (wQ he.to Č hs) hbase hfew hline hs hplain).imp
    fun σ H Q ⟨Æ, h, Qd, rs, rh, t, p⟩ => LE.bind rs rh t fun d v h1 H1 k1 Ù Ê r1 ⟨a, e, q⟩ => by
      subst e
      obtain ⟨e1, vs, hH⟩ := (show v = .ref a ∧ ∃ vs, H1 a = some (.lst vs) from r1)
      subst e1
      refine ⟨.inl ⟨rfl, vs, è.of hH⟩, ?_⟩
      refine LE.bind Ù Ê q fun y u h2 H2 k2 ĩ ê r2 ⟨b, xs, ys, ey, hx, hy, hz, q2⟩ => ?_
      subst ey
      obtain ⟨e2, _⟩ := (show u = .ref b ∧ ∃ vs, H2 b = some (.lst vs) from r2)
      subst e2
      obtain ⟨ws, hW, rW⟩ := ê a xs hx
      obtain ⟨zs, hZ, rZ⟩ := ê b ys hy
      exact ⟨a, b, ws, zs, rfl, rfl, hW, hZ, by rw [← rW.length, ← rZ.length]; exact hz, p .non _ _ _ ((k1.trans k2).trans (.put hW)) (ê.put hW (Uj rW rZ)) rfl q2⟩⟩
end
end L2
namespace L2
open PySem PySem.Spec PyProof.Rows HT
def vH {X:Cx}{À:G0 (P2×Obj)}{σ:St}{H:Hp}{s:G5}{a:P2}{ep:G6}{xs:KT2}(I:Inv X À σ H s)(hH:H a=some (Jy a ep xs)):(a==aY)=false/\ ∃ (sl:S9 (D4 G2)) (es:S9 dP) (ys:G0 (G0 (G0 P1)×P2×G2)),s.heap.get? a=some {cls:= .type "dict",dict:=none,data:= .dict es ep,slots:=sl}/\Paired yD xs ys/\es.toList=ys.map (λx=>⟨Yg x.1,.ref x.2.1,x.2.2⟩)/\es.size=xs.length:=by
 obtain⟨⟨h1,h2,ys,pr,⟨oc,od,odt,Ŝ⟩,es,ho,⟨c1,c2,c3⟩,hd,he⟩,_,_⟩:=I.hok a _ hH;simp only at c1 c2 hd;subst c1 c2 hd;refine⟨h1,Ŝ,es,ys,ho,pr,he,?_⟩;rw [<-D3,he,G3];exact(jU pr).2.1.symm
def Lp {X:Cx}{À:G0 (P2×Obj)}{σ:St}{s:G5}{xs Ĵ:KT2}{a:P2}{ep:G6}{H:Hp}(I:Inv X À σ H s)(e:H a=some (Jy a ep xs))(e':H a=some (Jy a ep Ĵ)){i:G6}{x:G0 (G0 P1)×P2×V}(hx:xs[i]? =some x): ∃T,Ĵ[i]? =some (T,x.2.1,x.2.2):=by
 obtain⟨_,_,es,ys,h1,pr,he,hn⟩:=vH I e;obtain⟨_,_,ã,ù,h1',pr',he',hn'⟩:=vH I e';rw [h1] at h1';cases h1';have il:i<ys.length:=by rw [<- (jU pr).2.1];exact(P7.mp hx).1
 have l':ù.length=ys.length:=by have:=congrArg Y1 (he.symm.trans he');simpa using this.symm
 have lx:i<Ĵ.length:=by rw [(jU pr').2.1,l'];exact il
 obtain⟨p1,p2,p3⟩:=wL pr hx (G1 il);obtain⟨q1,q2,q3⟩:=wL pr' (G1 lx) (G1 (by rw [l'];exact il));have z:=congrArg (λl=>l[i]?) (he.symm.trans he');simp only [P9,G1 il,G1 (show i<ù.length by rw [l'];exact il),fQ] at z;injection z with z
 injection z with z1 z2 z3
 injection z2 with z2
 refine⟨Ĵ[i].1,?_⟩;rw [G1 lx];have b:Ĵ[i].2.1=x.2.1:=by rw [q2,p2,z2]
 have u:Ĵ[i].2.2=x.2.2:=by rw [<-z3] at q3;exact q3.inj p3
 rw [<-b,<-u]
end L2
namespace L2
open PySem PySem.Spec PyProof.Rows PySem.SeqAt HT
def um (te:TED):TED:=λσ h Q=>te σ h λx h1=> ∃a xs,x= .lst a/\h1 a=some xs/\ ∀p,h1 p=none->Q (.lst p) (zK h1 p xs.reverse)
def uo {X:Cx}{e:N3}{te:TED}{pos p2 p3 p4:Pos}{j:G6}(he:JE X e te):JE X (.Subscript e (.Slice none none (some (.UnaryOp .USub (.Constant (.int 1) j p4) p3)) p2) pos) (um te):=⟨by
 intro À s σ H Q I h;obtain⟨Æ,h,Qd,rs,rh,t,p⟩:=h;refine qH (Ô (he.to À s σ H _ I (LE.bind rs rh t λd v h1 H1 k1 Ù Ê r1 q1=>(show ∃h1 d,Ñ X.K H1 Æ σ/\È X.K h1 H1/\É X.K H1 d v/\Kept H H1/\ ∃a xs,d= .lst a/\h1 a=some xs/\ ∀p,h1 p=none->Qd (.lst p) (zK h1 p xs.reverse) from ⟨h1,d,Ù,Ê,r1,k1,q1⟩))) λv s1 ⟨x,H1,I1,r1,h1,d,Ù,Ê,rd,k1,a,xs,ed,hx,q1⟩=> ?_);subst ed;have ex:x= .ref a:=rd.1;subst ex;cases r1;refine IP ?_;rw [p7];refine P0 (P0 ?_);rw [w6];have X1w:LE X.K (dUn TW (dC (.int 1))) σ H1 (λv H'=>v=V.int (-1)/\È X.K h1 H'/\Kept H1 H'):=
  ⟨Æ,h1,λd h'=>d= .int (-1)/\h'=h1,Ù,Ê,⟨rfl,rfl⟩,λd v h' H' k Ğ r' e=>by
   obtain⟨e1,e2⟩:=e;subst e1 e2;exact⟨r',Ğ,k⟩⟩
 refine Ô ((Kl (Kf (X:=X) (i:=1) (j:=j) (pos:=p4)) (pos:=p3)) À s1 σ H1 _ I1 X1w) λu s2 ⟨y,H2,I2,ry,ey,ê,k2⟩=> ?_
 subst ey;obtain⟨tk,rfl⟩:=ry;have I4:Inv X À σ H2 {s2 with heap:=s2.heap.push {cls:= .type "slice",data:= .fields #[.none,.none,.int (-1) tk]}}:=I2.kept (t':=s2.toks) λb ob q=>G9 _ q
 obtain⟨vs,hH,r3⟩:=ê a _ hx;obtain⟨its,r,ht,hz⟩:=I4.list (è.of hH);have hlen:its.toArray.size=vs.length:=by rw [R4];exact r.length.symm
 show R5 (S0 X.prog X.w) X.A (mH e (.Slice none none (some (.UnaryOp .USub (.Constant (.int 1) j p4) p3)) p2) (.ref a) (.ref s2.heap.objs.size)) (EP X À σ Q) X.xe {s2 with heap:=s2.heap.push {cls:= .type "slice",data:= .fields #[.none,.none,.int (-1) tk]}};refine IQ (ops:= [.ref a,.ref s2.heap.objs.size]) ht.isList.typeIs slot_list_getitem.lookup ?_ (by with_unfolding_all rfl);refine mJ (lo:=none) (hi:=none) (st:=some (-1)) ht.isList (Heap.IsSliceOf.new ..) .none .none (.int (-1) tk) (by intro z;injection z with z;omega) ?_ (by rw [hlen];exact hz);have hf:=I4.hok.fresh (P6 _);rw [G01];refine⟨.ref _,_,I4.laid (t':=s2.toks) (o:= .lst vs.reverse) (λb ob q=>G9 _ q) (P6 _) ⟨by rw [B7];exact hz,_,0,Ç.rev r,S6 _ rfl⟩,rfl,?_⟩;exact p (.lst _) _ _ _ (k1.trans (k2.trans (.new hf))) (ê.newL hf r3.rev) ⟨rfl,_,jt⟩ (q1 _ (ê.free hf))⟩
end L2
namespace L2
open PySem PySem.Spec PyProof.Rows
noncomputable def Uk {α:Type}(xs:G0 α):G6->G0 (G0 α)
 |0=> [[]]
 |k+1=>(Uk xs k).flatMap λr=>xs.map (· ::r)
variable {α:Type}
theorem wV {xs:G0 α}: ∀ {r:G0 α},(∀x∈r,x∈xs)->r∈Uk xs r.length
 | [],_=>G8.mpr rfl
 |x::r,h=>dQ.mpr ⟨r,wV λy hy=>h y (R1 _ hy),R6.mpr ⟨x,h x P4,rfl⟩⟩
theorem wW (xs:G0 α): ∀k,(Uk xs k).length=xs.length^k
 |0=>rfl
 |k+1=>by
  show ((Uk xs k).flatMap λr=>xs.map (· ::r)).length=_;rw [List.length_flatMap,show ((Uk xs k).map λr=>(xs.map (· ::r)).length)=(Uk xs k).map λ_=>xs.length from C7 λr _=>G3 _,List.map_const',List.sum_replicate_nat,wW xs k,Q1]
variable {n:G6}
def ER (n3:n<=3){l:G0 (G0 (G0 P1))}(nd:l.Nodup)(h: ∀M∈l,Sq n 1 M):l.length<=512:=by
 have:=wb (m:=Uk (Uk [(0:P1),1] n) n) nd λM hM=>by
  have s:=h M hM;have z:=wV (xs:=Uk [(0:P1),1] n) (r:=M) λr hr=>by
   have z:=wV (xs:= [(0:P1),1]) (r:=r) λx hx=>by
    have a:=s.nn r hr x hx;have b:x<2:=s.bit r hr x hx;rcases (show x=0\/x=1 by omega) with e|e<;>subst e<;>simp
   rw [s.row r hr] at z;exact z
  rw [s.len] at z;exact z
 rw [wW,wW] at this;rcases (show n=0\/n=1\/n=2\/n=3 by omega) with e|e|e|e<;>subst e<;>exact R8 this (by decide)
noncomputable def Ó (n:G6)(Ts:G0 (G0 (G0 P1))):G0 G6->G0 (G0 P1)
 | []=>Ys n
 |a::w=>JH n Ts (yA n (Ts.getD a [])) w
variable {Ts:G0 (G0 (G0 P1))}
def wX: ∀ {w:G0 G6} (_:w≠ []) (a:G6),Ó n Ts (w++ [a])=ç n (Ts.getD a []) (Ó n Ts w)
 | [],h,_=>absurd rfl h
 |b::w,_,a=>by
  show JH n Ts _ (w++ [a])=_;unfold JH;rw [gQ];rfl
def yE: ∀w:G0 G6,Sq n 1 (Ó n Ts w)
 | []=>Sq.one n
 |a::w=>Dy _ (Sq.mark _) w
abbrev Fnd:=G0 (G0 (G0 P1)×G0 G6)
noncomputable def ŀ (n:G6)(Ts:G0 (G0 (G0 P1)))(s:Fnd×G0 (G0 G6))(w:G0 G6):Fnd×G0 (G0 G6):=if (zk s.1 (Ó n Ts w)).isSome then s else (s.1++ [(Ó n Ts w,w)],s.2++(P5 Ts.length).map λa=>w++ [a])
noncomputable def Lq (n:G6)(Ts:G0 (G0 (G0 P1)))(s:Fnd×G0 (G0 G6)):Fnd×G0 (G0 G6):=s.2.foldl (ŀ n Ts) (s.1,[])
noncomputable def Ć (n:G6)(Ts:G0 (G0 (G0 P1))):G6->Fnd×G0 (G0 G6)
 |0=>([],(P5 Ts.length).map λa=> [a])
 |k+1=>Lq n Ts (Ć n Ts k)
noncomputable def ţ (n:G6)(Ts:G0 (G0 (G0 P1))):Fnd:=(Ć n Ts 1025).1
def UN (Ts:G0 (G0 (G0 P1)))(w:G0 G6):Prop:=w≠ []/\ ∀i∈w,i<Ts.length
structure Ο (n:G6)(Ts:G0 (G0 (G0 P1)))(k:G6)(s:Fnd×G0 (G0 G6)):Prop where
 nd:(s.1.map (·.1)).Nodup
 fd: ∀p∈s.1,p.1=Ó n Ts p.2/\UN Ts p.2/\p.2.length<=k
 fr: ∀w∈s.2,UN Ts w/\w.length=k+1
structure Mid (n:G6)(Ts:G0 (G0 (G0 P1)))(k f:G6)(s:Fnd×G0 (G0 G6)):Prop where
 nd:(s.1.map (·.1)).Nodup
 fd: ∀p∈s.1,p.1=Ó n Ts p.2/\UN Ts p.2/\p.2.length<=k+1
 fr: ∀w∈s.2,UN Ts w/\w.length=k+2
 le:f<=s.1.length
 gr:s.2.length<=3*(s.1.length-f)
section
variable {n k f:G6}{Ts:G0 (G0 (G0 P1))}{s:Fnd×G0 (G0 G6)}{w:G0 G6}
def QF (n3:n<=3)(nd:(s.1.map (·.1)).Nodup)(fd: ∀p∈s.1,p.1=Ó n Ts p.2):s.1.length<=512:=by
 have:=ER n3 nd λM hM=>by
  obtain⟨p,hp,rfl⟩:=R6.mp hM;rw [fd p hp];exact yE _
 rwa [G3] at this
def Mid.few (m:Mid n Ts k f s)(n3:n<=3):s.1.length<=512:=QF n3 m.nd λp hp=>(m.fd p hp).1
def Ο.few (m:Ο n Ts k s)(n3:n<=3):s.1.length<=512:=QF n3 m.nd λp hp=>(m.fd p hp).1
def JR (h:(zk s.1 (Ó n Ts w)).isSome=true):ŀ n Ts s w=s:=R9 h
def JU (h:(zk s.1 (Ó n Ts w)).isSome=false):ŀ n Ts s w=(s.1++ [(Ó n Ts w,w)],s.2++(P5 Ts.length).map λa=>w++ [a]):=S4 (by rw [h];exact D6)
def Mid.step (m:Mid n Ts k f s)(l3:Ts.length<=3)(hw:UN Ts w)(hl:w.length=k+1):Mid n Ts k f (ŀ n Ts s w):=by
 cases h:(zk s.1 (Ó n Ts w)).isSome with
 |true=>rw [JR h];exact m
 |false=>
  rw [JU h];have no:zk s.1 (Ó n Ts w)=none:=lQ.mp (by cases z:zk s.1 (Ó n Ts w) with
   |none=>rfl
   |some _=>rw [z] at h;cases h)
  refine⟨?_,λp hp=> ?_,λv hv=> ?_,?_,?_⟩
  ·show ((s.1++ [(Ó n Ts w,w)]).map (·.1)).Nodup;rw [T4];refine X5.mpr ⟨m.nd,by simp,λx hx y hy z=> ?_⟩;rw [G8.mp hy] at z;have z:x=Ó n Ts w:=z;rw [z] at hx;exact Xu no hx
  ·rcases D8.mp hp with z|z
   ·exact m.fd p z
   ·rw [G8.mp z];exact⟨rfl,hw,J0 hl⟩
  ·rcases D8.mp hv with z|z
   ·exact m.fr v z
   ·obtain⟨a,ha,rfl⟩:=R6.mp z;refine⟨⟨by simp,λi hi=> ?_⟩,by rw [P3,hl];rfl⟩;rcases D8.mp hi with z|z
    ·exact hw.2 i z
    ·rw [G8.mp z];exact D1.mp ha
  ·show f<=(s.1++ [(Ó n Ts w,w)]).length;rw [P3];have:=m.le;omega
  ·show (s.2++(P5 Ts.length).map λa=>w++ [a]).length<=3*((s.1++ [(Ó n Ts w,w)]).length-f);rw [P3,P3,G3,R0];have:=m.le;have:=m.gr;show _<=3*(s.1.length+1-f);omega
def Ο.mid (b:Ο n Ts k s):Mid n Ts k s.1.length (s.1,[]):=⟨b.nd,λp hp=>let ⟨x,y,z⟩:=b.fd p hp;⟨x,y,rQ z⟩,(λ_ h=>nomatch h),P6 _,N9 _⟩
def Ο.mids (b:Ο n Ts k s)(l3:Ts.length<=3): ∀i,Mid n Ts k s.1.length ((s.2.take i).foldl (ŀ n Ts) (s.1,[]))
 |0=>b.mid
 |i+1=>by
  by_cases h:i<s.2.length
  ·rw [u5,G1 h,gQ];exact(b.mids l3 i).step l3 (b.fr _ (N0 h)).1 (b.fr _ (N0 h)).2
  ·rw [T9 (by omega),<-T9 (iD h)];exact b.mids l3 i
def Ο.end_ (b:Ο n Ts k s)(l3:Ts.length<=3):Mid n Ts k s.1.length (Lq n Ts s):=by
 have:=b.mids l3 s.2.length
 rwa [U3] at this
def Mid.bin (m:Mid n Ts k f s):Ο n Ts (k+1) s:=⟨m.nd,m.fd,m.fr⟩
theorem yF (l3:Ts.length<=3): ∀k,Ο n Ts k (Ć n Ts k)
 |0=>⟨lM,(λ_ h=>nomatch h),λw hw=>by
  obtain⟨a,ha,rfl⟩:=R6.mp hw;exact⟨⟨by simp,λi hi=>by rw [G8.mp hi];exact D1.mp ha⟩,rfl⟩⟩
 |k+1=>((yF l3 k).end_ l3).bin
noncomputable def GH (s:Fnd×G0 (G0 G6)):G6:=2*(512-s.1.length)+(if s.2= [] then 0 else 1)
def QH (b:Ο n Ts k s)(n3:n<=3)(l3:Ts.length<=3)(h:s.2≠ []):GH (Lq n Ts s)<GH s:=by
 have m:=b.end_ l3;have:=m.few n3;have:=m.le;have g:=m.gr;unfold GH;rw [S4 h]
 by_cases e:(Lq n Ts s).1.length=s.1.length
 ·rw [e] at g ⊢;rw [R9 (K4 (by omega))];omega
 ·split<;>omega
theorem Ul (h:(Ć n Ts k).2= []): ∀j,Ć n Ts (k+j)=Ć n Ts k
 |0=>rfl
 |j+1=>by
  show Lq n Ts (Ć n Ts (k+j))=_;rw [Ul h j];unfold Lq;rw [h];show ((Ć n Ts k).1,[])=_;rw [<-h]
def Rx (h:(Ć n Ts k).2= [])(hk:k<=1025):(Ć n Ts k).1=ţ n Ts:=by
 unfold ţ;rw [<-Ul h (1025-k),show k+(1025-k)=1025 by omega]
def Um (l1:1<=Ts.length):0+GH (Ć n Ts 0)<=1025:=by
 unfold GH;show 0+(2*(512-0)+_)<=1025;split<;>omega
def yG (l3:Ts.length<=3):Ο n Ts 1025 (Ć n Ts 1025):=yF l3 _
end
theorem YL {β:Type}(f:α->β)(T:G0 (G0 P1)): ∀kv:G0 (G0 (G0 P1)×α),zk (kv.map λp=>(p.1,f p.2)) T=(zk kv T).map f
 | []=>rfl
 |p::kv=>by
  have ih:=YL f T kv;unfold zk at ih ⊢;rw [T6,U2,U2];dsimp only;cases decide (p.1=T) with
  |true=>rfl
  |false=>exact ih
def YM {α:Type}{kv:G0 (G0 (G0 P1)×α)}{T:G0 (G0 P1)}{d:α}(h:zk kv T=none):GV kv T d=kv++ [(T,d)]/\zk (GV kv T d) T=some d:=by
 have e:GV kv T d=kv++ [(T,d)]:=by unfold GV;rw [h];rfl
 refine⟨e,?_⟩;rw [e];unfold zk at h ⊢;rw [List.find?_append,W9.mp h];rw [Option.none_or,U2,S1 rfl];rfl
noncomputable def Ł (F:Fnd):G0 (G0 (G0 P1)×D):=F.map λp=>(p.1,zM p.2)
def Ry {F:Fnd}{T:G0 (G0 P1)}:(zk (Ł F) T).isSome=(zk F T).isSome:=by
 unfold Ł;rw [YL,rX]
def Lr {F:Fnd}{T:G0 (G0 P1)}{w:G0 G6}(h:(zk F T).isSome=false):GV (Ł F) T (zM w)=Ł (F++ [(T,w)]):=by
 have z:zk (Ł F) T=none:=by
  cases e:zk (Ł F) T with
  |none=>rfl
  |some _=>have:=Ry (F:=F) (T:=T);rw [e,h] at this;cases this
 rw [(YM z).1];unfold Ł;rw [T4];rfl
noncomputable def Ť (n:G6)(Ts:G0 (G0 (G0 P1)))(w:G0 G6):D:= .tup [zM w,jp (Ó n Ts w)]
def YN {n:G6}(g:G6->G0 (G0 P1)->G0 (G0 P1)):Yu ((P5 Ts.length).map λi=>jp (g i (Ts.getD i [])))=(P5 Ts.length).map λ(j:G6)=>D.tup [.int (j:P1),jp (g j (Ts.getD j []))]:=by
 apply bP;intro i
 by_cases hi:i<Ts.length
 ·have hi':i<(Yu ((P5 Ts.length).map λi=>jp (g i (Ts.getD i [])))).length:=by rw [vE,G3,R0];exact hi
  obtain⟨x,hx,ed⟩:=Yv (G1 hi');rw [G1 hi',ed];rw [P9,J1 hi] at hx ⊢;injection hx with hx
  rw [<-hx];rfl
 ·rw [L0 (by rw [vE,G3,R0];omega),L0 (by rw [G3,R0];omega)]
def WT (Ts:G0 (G0 (G0 P1))):Ts.map jp=(P5 Ts.length).map λi=>jp (Ts.getD i []):=by
 apply bP;intro i;rw [P9,P9]
 by_cases hi:i<Ts.length
 ·rw [J1 hi,G1 hi];show some (jp Ts[i])=some (jp (Ts.getD i []));rw [D2,G1 hi];rfl
 ·rw [L0 (by omega),L0 (by rw [R0];omega)];rfl
end L2
namespace L2
open PySem PySem.Spec PyProof.Rows HT PySem.SeqAt
def NT (r r':G0 P1):alk (vd r) (vd r')=true:=Qu r r'
section
variable {prog:T7}{w:C1}{A:N7}{E:G2->G5->Prop}{s:G5}
def IB (prog:T7)(w:C1)(h:A7)(v:G2)(T:G0 (G0 P1)):Prop:= ∃a,v= .ref a/\Wp prog w h T a/\T≠ []
def IB.keeps {h h':A7}{v:G2}{T:G0 (G0 P1)}(k:VZ h h'):IB prog w h v T->IB prog w h' v T
 |⟨a,e,t,n⟩=>⟨a,e,(Lk prog w).keep (λc o _ q=>k c o q) t,n⟩
open Classical in
noncomputable def Uo (prog:T7)(w:C1)(h:A7)(v:G2):G0 (G0 P1):=if e: ∃T,IB prog w h v T then e.choose else []
def IB.told {h:A7}{v:G2}{T:G0 (G0 P1)}(x:IB prog w h v T):Uo prog w h v=T:=by
 have e: ∃T,IB prog w h v T:=⟨T,x⟩;unfold Uo;rw [pR e];obtain⟨a,e1,t,_⟩:=e.choose_spec;obtain⟨b,e2,t2,_⟩:=x;rw [e1] at e2;cases e2;exact(Lk prog w).inj t t2
def NU {vs:G0 G2}(h2:2<=vs.length)(x: ∀v∈vs,∃T,IB prog w s.heap v T){Q:SortKind->G5->Prop}(q:Q (G0Q false) s):R5 (S0 prog w) A (uS vs.toArray) Q E s:=by
 have go: ∀l:G0 G2,(∀v∈l,v∈vs)-> ∃fs:G0 G2,G06 s.heap l fs/\fs.length=l.length/\ ∀f∈fs,∃b o,f= .ref b/\s.heap.get? b=some o/\o.cls= .type "tuple" :=by
  intro l
  induction l with
  |nil=>exact λ_=>⟨[],.nil,rfl,λf hf=>absurd hf F5⟩
  |cons v l ih=>
   intro sub;obtain⟨fs,e1,e2,e3⟩:=ih λu hu=>sub u (R1 _ hu)
   obtain⟨T,a,rfl,⟨o,its,n,ho,hc,hd,hi⟩,ne⟩:=x v (sub v P4);obtain⟨l⟩:=its;have hi:Î prog w s.heap T l:=hi;cases hi with
   |nil=>exact absurd rfl ne
   |cons ra rest=>
    rename_i r b T' vs';refine⟨.ref b::fs,.cons ho hc hd rfl e1,by rw [R3,R3,e2],λf hf=> ?_⟩;rcases R7.mp hf with rfl|hf
    ·obtain⟨o',_,_,q1,q2,_⟩:=ra;exact⟨b,o',rfl,q1,q2⟩
    ·exact e3 f hf
 obtain⟨fs,t,len,ty⟩:=go vs λ_ h=>h
 refine PySem.W.kat_kind (T:= .type "tuple") t (by omega) (λf hf=> ?_) rfl q;obtain⟨b,o,rfl,ho,hc⟩:=ty f hf;rw [<-hc];exact(PySem.W.Looks.ld ho).andThen .now
theorem QJ {fin:N4}{Q:N4->G5->Prop}(hu:A.units+16<cLine)(m n:G6)(ef:fin=decide (m<n)): ∀ {vs us:G0 G2} {T U:G0 (G0 P1)} (i:G6),Î prog w s.heap T vs->Î prog w s.heap U us->T.length+n=U.length+m->Q (zt T U) s->G1g prog w A false fin Q (vs.zip us) i s
 |_,_,_,_,i,.nil,.nil,l,q=>by
  subst ef;rw [rY];refine oE ?_;rw [T3 (by rw [O1] at l;omega)];exact q
 |_,_,_,_,i,.nil,.cons c y,l,q=>by
  subst ef;rw [rY];refine oE ?_;rw [S1 (by rw [O1,R3] at l;omega)];exact q
 |_,_,_,_,i,.cons a x,.nil,l,q=>by
  subst ef;rw [List.zip_nil_right];refine oE ?_;rw [T3 (by rw [O1,R3] at l;omega)];exact q
 |_,_,_,_,i,.cons (r:=r) (b:=b) (T:=T) a x,.cons (r:=r') (b:=b') (T:=U) c y,l,q=>by
  rw [bE];have q:Q (if r=r' then zt T U else HT.zw r r') s:=q;refine G02 (qM (by omega) a c ?_)
  by_cases z:r=r'
  ·rw [R9 z] at q;rw [S1 z];exact G07 (QJ hu m n ef (i+1) x y (by rw [R3,R3] at l;omega) q)
  ·rw [S4 z] at q;rw [T3 z];refine G1h (by
    rw [oP];refine G08 _ _ ?_;obtain⟨o,items,k,ho,hc,hd,hi⟩:=a;obtain⟨o',items',k',ho',ι,hd',hi'⟩:=c;refine Qs (vd r) (vd r') A s _ _ [] [] (.tuple ho hc hd (vb hi)) (.tuple ho' ι hd' (vb hi')) (WK r) (WK r') (NT r r') (by have:=Du r;omega) prog w _ _ ?_;rw [show ltP (vd r) (vd r')=HT.zw r r' from Qt r r'];exact q)
def NV (hu:A.units+16<cLine){h0 h':A7}(k:VZ h0 h'):YF prog w A (HT.Only s h') (G0Q false) (λx=> ∃T,IB prog w h0 x.1 T) (λx y=>zt (Uo prog w h0 x.1) (Uo prog w h0 y.1)):=by
 rintro ⟨x,x'⟩ ⟨y,y'⟩ ⟨T,tx⟩ ⟨U,ty⟩ s1 ⟨tk,rfl⟩;dsimp only at tx ty ⊢;have q:(zt T U=zt (Uo prog w h0 x) (Uo prog w h0 y)/\HT.Only s h' {s with heap:=h',toks:=tk}):=⟨by rw [tx.told,ty.told],tk,rfl⟩;obtain⟨a,rfl,⟨o,its,n,ho,hc,hd,hi⟩,_⟩:=tx.keeps k;obtain⟨b,rfl,⟨o2,ę,n2,ho2,hc2,hd2,hi2⟩,_⟩:=ty.keeps k;refine G1i ho hd ho2 hd2 (QJ (s:= {s with heap:=h',toks:=tk}) hu its.size ę.size rfl 0 hi hi2 ?_ q);have z1:T.length=its.size:=hi.len;have z2:U.length=ę.size:=hi2.len;omega
def Ls {U:D7->Prop}(key:G2->G0 (G0 P1)):Õ U (λx y=>zt (key x.1) (key y.1)):=⟨λx y _ _ h=>DP h,λx y z _ _ _ h=>by
 rcases YJ (key x.1) (key y.1) with e|e|e
 ·exact .inr (by rw [<-e];exact h)
 ·exact .inl e
 ·exact .inr (YI e h)⟩
end
noncomputable def Oq:G2->P2
 | .ref b=>b
 |_=>0
def Wq {X:Cx}{k:G6}(hc:X.calm=true)(hr:á k X.A):â X (.builtin "sorted") (λxs H Q=> ∃ (p:P2) (o:Obj) (Ts B:G0 (G0 (G0 P1))),xs= [.ref p]/\H p=some (EM o)/\NP X.prog X.w H o Ts/\B.length<1000/\(∀T∈Ts,T∈B/\T≠ [])/\
 ∀ (q:P2) (qs:G0 NQ),H q=none->(∀x∈qs,WQ H x.2 x.1)->(qs.map (·.2)).Pairwise (λx y=>zt x y=true)->(∀k,k∈qs.map (·.2)↔k∈Ts)->Q (.ref q) (upd H q (.lst (qs.map λp=>V.ref p.1)))):=by
 intro À s σ H xs us Q I r h;obtain⟨p,o,Ts,B,rfl,hp,⟨es,ep,t,f,rfl,S⟩,few,ht,q⟩:=h;obtain⟨u,rfl,ru⟩:=Zp r;cases ru;have hu:X.A.in1.in1.units+16<cLine:=by
  have:=hr.un;show X.A.units+1+1+16<cLine;omega
 have it: ∀e∈es.toList,IB X.prog X.w s.heap e.2 (f e)/\WQ H (f e) (Oq e.2)/\e.2= .ref (Oq e.2):=λe he=>by
  obtain⟨_,b,eb,hb⟩:=S.each e he;rw [eb];exact⟨⟨b,rfl,vj I _ _ hb,(ht _ ((S.mem _).mp (bZ he))).2⟩,hb,rfl⟩
 have sz:es.size<1000:=by
  have:=Jl (ys:=B) S.nd λk hk=>(ht k ((S.mem k).mp hk)).1
  rw [G3,D3] at this;omega
 refine Xq (κ:=λ_=>G0Q false) (U:=λx=> ∃T,IB X.prog X.w s.heap x.1 T) (R:=λx y=>zt (Uo X.prog X.w s.heap x.1) (Uo X.prog X.w s.heap y.1)) (I.ok.hd hc) S.tab (I.hok p _ hp).1 sz (λe he=>⟨_,(it e he).1⟩)
  (λvs s0 h' h2 x k=>NU (s:= {s0 with heap:=h'}) h2 (λv hv=>(x v hv).imp λT z=>z.keeps k) ⟨rfl,s0.toks,rfl⟩) (λvs s0 h' k=>NV hu k) (Ls _) λh1 h' d tk c out k1 k2 lies pm srt=> ?_
 obtain⟨zs,pz,rfl⟩:=Ub pm;have I1:=(I.kept (t':=s.toks) k1).drew d;have vv: ∀l:G0 (P1×G2),(∀z∈l,z∈es.toList)->Ç ((l.map λe=>((Oq e.2,f e):NQ)).map λp=>V.ref p.1) (l.map (·.2)):=λl=>by
  induction l with
  |nil=>exact λ_=> .nil
  |cons z l ih=>exact λsub=> .cons (it z (sub z P4)).2.2 (ih λy hy=>sub y (R1 _ hy))
 have m2:(zs.map λe=>((Oq e.2,f e):NQ)).map (·.2)=zs.map f:=by rw [N8];rfl
 refine⟨.ref _,_,I1.laid (t':=tk) (o:= .lst ((zs.map λe=>((Oq e.2,f e):NQ)).map λp=>V.ref p.1)) k2 (P6 _) ⟨?_,_,c,vv zs λz hm=>pz.mem_iff.mp hm,lies⟩,rfl,q _ (zs.map λe=>(Oq e.2,f e)) (I1.hok.fresh (P6 _)) (λx hx=> ?_) ?_ λk=> ?_⟩
 ·rw [G3,G3,pz.length_eq,D3];exact R8 (show es.size<=1000 by omega) (by decide)
 ·obtain⟨e,he,rfl⟩:=R6.mp hx;exact(it e (pz.mem_iff.mp he)).2.1
 ·rw [m2];have nd:(zs.map f).Nodup:=(pz.map f).nodup_iff.mpr S.nd;unfold qL at nd;rw [X3] at srt nd ⊢;refine(srt.and nd).imp_of_mem λ{y z} hy hz ⟨e,ne⟩=> ?_
  dsimp only at e;rw [(it y (pz.mem_iff.mp hy)).1.told,(it z (pz.mem_iff.mp hz)).1.told] at e;rcases YJ (f y) (f z) with w|w|w
  ·exact absurd w ne
  ·exact w
  ·rw [w] at e;cases e
 ·rw [m2];exact(pz.map f).mem_iff.trans (S.mem k)
def KC (ta:TAD):TED:=λσ h Q=>ta σ h λds h1=> ∃ (a:P2) (Ts B:G0 (G0 (G0 P1))),ds= [.lst a]/\h1 a=some (Ts.map jp)/\B.length<1000/\(∀T∈Ts,T∈B/\T≠ [])/\ ∀ (p:P2) (ks:G0 (G0 (G0 P1))),h1 p=none->ks.Pairwise (λx y=>zt x y=true)->(∀k,k∈ks↔k∈Ts)->Q (.lst p) (zK h1 p (ks.map jp))
variable {K:G7}{H:Hp}
theorem Rz: ∀ {Ts:G0 (G0 (G0 P1))} {ws:G0 V},Á K H (Ts.map jp) ws-> ∃ps:G0 NQ,ws=ps.map (λp=>V.ref p.1)/\Ts=ps.map (·.2)/\ ∀p∈ps,É K H (jp p.2) (.ref p.1)
 | [],ws,r=>by cases (show ws= [] from r);exact⟨[],rfl,rfl,λ_ z=>nomatch z⟩
 |T::Ts,ws,r=>by
  obtain⟨v,t,e,g1,g2⟩:=(show ∃v t,ws=v::t/\É K H (jp T) v/\Á K H (Ts.map jp) t from r);subst e;obtain⟨ps,rfl,rfl,hp⟩:=Rz g2;obtain⟨b,us,eb,_⟩:=(show ∃a vs,v= .ref a/\H a=some (.tup vs)/\_ from g1);subst eb;exact⟨(b,T)::ps,rfl,rfl,λp Ů=>(R7.mp Ů).elim (λz=>by rw [z];exact g1) (hp p)⟩
theorem Xv: ∀ {qs:G0 NQ},(∀x∈qs,É K H (jp x.2) (.ref x.1))->Á K H ((qs.map (·.2)).map jp) (qs.map λp=>V.ref p.1)
 | [],_=>rfl
 |q::qs,h=>⟨_,_,rfl,h q P4,Xv λx hx=>h x (R1 _ hx)⟩
theorem Wa: ∀ {T:G0 (G0 P1)} {vs:G0 V},Rl H vs T->Á K H (T.map wx) vs
 | [],[],_=>rfl
 |r::T,v::vs,⟨⟨c,e,hc⟩,x⟩=>⟨v,vs,rfl,⟨c,_,e,hc,yX r⟩,Wa x⟩
def GI {T:G0 (G0 P1)}{b:P2}:WQ H T b->É K H (jp T) (.ref b)
 |⟨us,hb,x⟩=>⟨b,us,rfl,hb,Wa x⟩
def KF {X : Cx} {k : G6} {a : N3} {ta : TAD} {p p2 pos X0J : Pos} (hr : á k X.A) (hc : X.calm = true) (hg : Gl X "sorted") (hm : X.mg "sorted" = none) (hg2 : Gl X "set") (hm2 : X.mg "set" = none) (ha : JA X [a] ta) (hs : S5 [a] X.env = [(false, K0 a X.env)] := by rfl)
    (h1 : S5 [.Call (.Name "set" p2) [a] [] X0J] X.env = (false, K0 (.Call (.Name "set" p2) [a] [] X0J) X.env) :: S5 [] X.env := by rfl) (h2 : (U8 pos (S5 [] X.env)).any (·.1) = false := by rfl) (h3 : (U8 X0J (S5 [] X.env)).any (·.1) = false := by rfl) :
    JE X (.Call (.Name "sorted" p) [.Call (.Name "set" p2) [a] [] X0J] [] pos) (KC ta) :=
  ⟨(Yc (Wq hc hr) hg hm (by decide +kernel) (wQ (Vz (Uh hc hr) hg2 hm2 (by decide +kernel) ha.to (by decide) (by decide) hs h3) Č h1) (by decide) (by decide) h1 h2).imp
    fun σ H Q ⟨Æ, h, Qd, rs, rh, t, post⟩ => LA.bind rs rh t fun ds vs h1 H1 k1 Ù Ê r1 ⟨a, Ts, B, e, hd, few, inB, q⟩ => by
      subst e
      obtain ⟨v, e, r2⟩ := jH r1
      obtain ⟨ws, hH, r3⟩ := Ê a _ hd
      have e1 : v = .ref a := r2.1
      subst e e1
      obtain ⟨ps, rfl, rfl, hp⟩ := Rz r3
      have inP : ∀ p ∈ ps, p.2 ∈ B ∧ p.2 ≠ [] := fun p h => inB _ (bZ h)
      refine ⟨a, ps, B, rfl, è.of hH, few, fun p h => (inP p h).1, fun p h => tab_of (hp p h), fun c o hcn acc => ?_⟩
      have kc : Kept H1 (upd H1 c (EM o)) := .new hcn
      obtain ⟨f, es, ep, t, eo, S⟩ := acc
      refine ⟨c, o, (ps.map (·.2)).reverse, B, rfl, jt, ⟨es, ep, t, f, eo, S.imp fun k b z => tab_of ((hp _ z).mono kc)⟩, few, fun T hT => ?_, fun l qs hl sub srt mem => ?_⟩
      · obtain ⟨p, Ů, rfl⟩ := R6.mp (A9.mp hT)
        exact inP p Ů
      have ê := Ê.new (o := EM o) hcn
      exact post (.lst l) (.ref l) _ _ (k1.trans (kc.trans (.new hl))) (ê.newL hl (Xv fun x hx => GI (sub x hx))) ⟨rfl, _, jt⟩ (q l (qs.map (·.2)) (ê.free hl) srt fun k => by rw [mem k, A9])⟩
end L2
namespace HT
open PySem PyProof.Rows
noncomputable def Wm {K α:Type}[DecidableEq K](kv:G0 (K×α))(k:K):G0 (K×α):=kv.filter λp=> !decide (p.1=k)
theorem Up {K α:Type}[DecidableEq K]{k:K}{p:α}: ∀ {xs:G0 (K×α)} {j:G6},(xs.map (·.1)).Nodup->xs[j]? =some (k,p)->xs.eraseIdx j=Wm xs k
 | [],_,_,h=>by cases h
 |x::xs,0,nd,h=>by
  injection h with h
  subst h;unfold Wm;rw [List.eraseIdx_cons_zero,J9 (by simp)];refine(eU.mpr λy hy=> ?_).symm;have ne:y.1≠k:=λz=>(E1.mp nd).1 (R6.mpr ⟨y,hy,z⟩)
  rw [T3 ne];rfl
 |x::xs,j+1,nd,h=>by
  rw [T6] at nd;have h:xs[j]? =some (k,p):=h;have ne:x.1≠k:=λz=>(E1.mp nd).1 (R6.mpr ⟨_,P8 h,z.symm⟩)
  rw [List.eraseIdx_cons_succ,Up (E1.mp nd).2 h];unfold Wm;rw [O7 (by rw [T3 ne];rfl)]
def RA {α β:Type}(f:α->β)(xs:G0 α)(j:G6):(xs.map f).eraseIdx j=(xs.eraseIdx j).map f:=by
 rw [g8,g8,T4,iH,iI]
section
variable {prog:T7}{w:C1}{K:Type}[DecidableEq K]{knd:HeapKind prog w K}{A:N7}{E:G2->G5->Prop}{s:G5}{d a:P2}{k:K}{xs:G0 (K×P2×G2)}
def RB {Q:D4 dP->G5->Prop}(hu:knd.room A)(Κ:knd.is s.heap k a)(hm:s.heap.DictOfH knd d xs)(hp:(gG xs k).isSome=true)(hsz:xs.length<=sizeLine)
 (q: ∀e h',h'.DictOfH knd d (Wm xs k)->A8 d s.heap h'->Q (some e) {s with heap:=h',toks:=s.toks+knd.draws k}):R5 (S0 prog w) A (Builtin.Dict.takeOut d (.ref a)) Q E s:=by
 obtain⟨o,es,ep,ho,hx,hd,he,his,nd⟩:=hm;have le:es.size=xs.length:=size_of_entries he;unfold Builtin.Dict.takeOut;refine O8 (wpAny_bind (knd.pyHash hu Κ (wpAny_bind (wpAny_dictFind_heap (s:= {s with toks:=s.toks+knd.draws k}) hu Κ ho hd he his nd (λno=> ?_) λj p hj=> ?_))))
 ·obtain⟨y,hy⟩:=fA.mp hp;unfold gG at hy;obtain⟨x,hx,_⟩:=F6.mp hy;obtain⟨j,hj⟩:=bO (U7 hx);have ek:x.1=k:=by have z:=cT hx;exact F9 z
  exact absurd (by rw [hj,<-ek]) (no j x.2)
 ·have jl:j<es.size:=by rw [le];exact(P7.mp hj).1
  refine wpAny_bind (r9 (s:= {s with toks:=s.toks+knd.draws k}) ho hd ?_);rw [entry_at he j,hj];refine wpAny_bind (wpAny_updateDictKeys (s:= {s with toks:=s.toks+knd.draws k}) ho hd (P0 (q _ _ ?_ (A6 ..))) (by omega) ?_)
  ·refine⟨_,_,ep+1,L9 _ ho (Obj.isFreed_of_dict (pH hd _)),hx.mapDictKeys _,pH hd _,?_,λx Ĺ=> ?_,?_⟩
   ·rw [<-Up nd hj];show (es.eraseIdxIfInBounds j).toList=_;unfold mP;rw [pR jl,oJ,he,RA]
   ·exact knd.keeps (his x (B0.mp Ĺ).1) ho hd (A6 ..)
   ·exact nd.sublist (G0.filter_sublist.map _)
  ·show (es.eraseIdxIfInBounds j).size<=_;unfold mP;rw [pR jl,Array.size_eraseIdx];omega
def NW {Q:Unit->G5->Prop}(hu:knd.room A.in1)(Κ:knd.is s.heap k a)(hm:s.heap.DictOfH knd d xs)(hp:(gG xs k).isSome=true)(hsz:xs.length<=sizeLine)
 (q: ∀h',h'.DictOfH knd d (Wm xs k)->A8 d s.heap h'->Q () {s with heap:=h',toks:=s.toks+knd.draws k}):R5 (S0 prog w) A (delItem (.ref d) (.ref a)) Q E s:=by
 have ty:=hm.typeIs;unfold delItem;refine O8 (wpAny_bind (mC ty (by decide) (wpAny_bind (O6 (name:=W4 "__delitem__") ty pZ (L6 pZ ty F.entry_dict_delitem ?_ (F.args_dict_delitem_2 _ _))))));unfold Builtin.«dict.__delitem__» Builtin.Dict.dictSlotArgs;refine wpAny_bind (wpAny_bind (iA ty (P0 ?_)));refine wpAny_bind (P0 (wpAny_bind (RB hu Κ hm hp hsz λe h' z1 z2=> ?_)));exact wpAny_bind (wpAny_letGo (P0 ⟨_,rfl,P0 (q h' z1 z2)⟩))
end
section
variable {prog:T7}{w:C1}{A:N7}{E:G2->G5->Prop}{s:G5}{d:P2}{dd:D4 P2}{es:S9 dP}{ep:G6}{sl:S9 (D4 G2)}
def NX {Q:G2->G5->Prop}(hd:s.heap.get? d=some {cls:= .type "dict",dict:=dd,data:= .dict es ep,slots:=sl})(lo:(d==aY)=false)(sm:es.size<=sizeLine)
 (q:Q (.int es.size (s.toks+1)) {s with toks:=s.toks+1+1}):R5 (S0 prog w) A (Builtin.«len» ⟨[.ref d],[]⟩) (λfin s'=> ∃r,fin= .done (.ret r)/\Q r s') E s:=by
 have ty:s.TypeIs (.ref d) "dict" :=⟨_,hd,rfl⟩;have big:(es.size:P1)<2^63:=qI (Int.ofNat_le.mpr sm) (by decide);unfold Builtin.«len»;refine wpAny_bind (m:=oneArg "len" _) (P0 (wpAny_bind (m:=rG (.ref d) (W4 "__len__")) (O6 (name:=W4 "__len__") ty tV (L6 tV ty F.entry_dict_len ?_ (F.args_dict_len_1 _)))));unfold Builtin.«dict.__len__» Builtin.Dict.dictSlotNone dictSize;refine wpAny_bind (wpAny_bind (iA ty (P0 ?_)));refine wpAny_bind (P0 (wpAny_bind (wpAny_bind (r9 hd rfl (P0 (wpAny_bind (wpAny_pendingCount_other lo (iU ?_))))))));show R5 _ _ _ _ _ {s with toks:=s.toks+1};dsimp only
 wp_walk
 rw [S4 (show ¬ ((es.size:P1)+((0:G6):P1)>=2^63) by omega)];exact iU (by simpa using q)
def GJ {Q:N4->G5->Prop}(hd:s.heap.get? d=some {cls:= .type "dict",dict:=dd,data:= .dict es ep,slots:=sl})(lo:(d==aY)=false)(sm:es.size<=sizeLine)
 (q:Q (!es.isEmpty) {s with toks:=s.toks+1+1}):R5 (S0 prog w) A (m8 (.ref d)) Q E s:=by
 have ty:s.TypeIs (.ref d) "dict" :=⟨_,hd,rfl⟩;have e:((es.size:P1) !=0)= !es.isEmpty:=by
  unfold xS
  by_cases c:es.size=0
  ·rw [c];rfl
  ·rw [T3 c,bne_iff_ne.mpr (by omega)];rfl
 have told:R5 (S0 prog w) A (runValue (.builtin "len" ⟨[.ref d],[]⟩)) (λr s'=>r= .int es.size (s.toks+1)/\s'= {s with toks:=s.toks+1+1}) E s:=
  u4 (aQ entry_len (by
   rw [aC plain_len _];exact M5 (NX (Q:=λr s'=>r= .int es.size (s.toks+1)/\s'= {s with toks:=s.toks+1+1}) hd lo sm ⟨rfl,rfl⟩) (λfin s' ⟨r,e1,z⟩=>by subst e1;exact z) λ_ _ z=>z))
 unfold m8;refine wpAny_bind (wpAny_callSpecial?_none (name:=W4 "__bool__") ty noBool_dict (wpAny_bind (Y2 (name:=W4 "__len__") ty F.slot_dict_len.lookup ?_)));exact wpAny_bind (M5 told (λr s' ⟨e1,e2⟩=>by subst e1 e2;exact P0 (e ▸ q)) λ_ _ z=>z)
def KIt (h:A7)(it d:P2)(i n ep:G6):Prop:=h.get? it=some {cls:= .type "dict_keyiterator",data:= .fields #[.ref d,.int i 0,.int n 0,.int ep 0]}
def Jn {it:P2}{i n:G6}{P:iE->G5->Prop}(hit:KIt s.heap it d i n ep)(hd:s.heap.get? d=some {cls:= .type "dict",dict:=dd,data:= .dict es ep,slots:=sl})(hn:es.size=n)
 (more: ∀ (e:dP) h',es[i]? =some e->KIt h' it d (i+1) n ep->A8 it s.heap h'->P (.done (.ret e.key)) {s with heap:=h'})
 (none_:es[i]? =none->R5 (S0 prog w) A (do mZ (.ref it) 0 .none;raiseNew (<-newExc (.type "StopIteration") [])) P E s):R5 (S0 prog w) A (Builtin.«dict_keyiterator.__next__» ⟨[.ref it],[]⟩) P E s:=by
 have hT:s.TypeIs (.ref it) "dict_keyiterator" :=⟨_,hit,rfl⟩;have tn:=λ{Q:W3->G5->Prop} {E':G2->G5->Prop} {A':N7} (h:Q "dict_keyiterator" s)=>wpAny_typeNameOfWhole_keyiter (prog:=prog) (w:=w) (A:=A') (E:=E') hT h
 obtain⟨hp,g,dr,tk,os⟩:=s
 wp_walk using tn
 rw [S4 (show ¬ ((i:P1)<0) by omega),W7];cases hx:es[i]? with
 |none=>exact wpAny_bind (wpAny_bind (tn (P0 (none_ hx))))
 |some e=>
  refine wpAny_bind (wpAny_bind (tn (P0 (wpAny_bind (oM hT ?_)))));show R5 _ _ (mZ (.ref it) 1 (Q0 ((i:P1)+1)) >>= _) _ _ _;refine wpAny_bind (qK hit (by simp) λh1 e1 s1=> ?_);have e2:KIt h1 it d (i+1) n ep:=by unfold KIt;rw [show ((i+1:G6):P1)=(i:P1)+1 by omega];simpa [Q0] using e1
  have T1:Shared.TypeIs ⟨h1,g,dr,tk,os⟩ (.ref it) "dict_keyiterator" :=⟨_,e2,rfl⟩;exact wpAny_bind (O8 (wpAny_bind (oM T1 (P0 (P0 (more e h1 hx e2 s1))))))
def WU {Q:G2->G5->Prop}(hd:s.heap.get? d=some {cls:= .type "dict",dict:=dd,data:= .dict es ep,slots:=sl})(lo:(d==aY)=false)
 (q:Q (.ref s.heap.objs.size) {s with heap:=s.heap.push {cls:= .type "dict_keyiterator",data:= .fields #[.ref d,.int 0 0,.int es.size 0,.int ep 0]}}):R5 (S0 prog w) A (qD (.ref d)) Q E s:=by
 have ty:s.TypeIs (.ref d) "dict" :=⟨_,hd,rfl⟩;refine mE ty sP (L6 sP ty F.entry_dict_iter ?_ (F.args_dict_iter_1 _));unfold Builtin.«dict.__iter__» Builtin.Dict.dictSlotNone Builtin.Dict.showsAll;refine wpAny_bind (wpAny_bind (iA ty (P0 ?_)));refine wpAny_bind (P0 ?_)
 wp_walk
 exact⟨_,rfl,"dict_keyiterator",_,⟨_,S6 _ rfl,rfl⟩,F.slot_dict_keyiterator_next.lookup,by simpa [Q0] using q⟩
end
end HT
namespace L2
open PySem PySem.Spec PyProof.Rows HT PySem.SeqAt
theorem Wb {T:G0 (G0 P1)}: ∀ {xs:KT2} {ys:G0 (G0 (G0 P1)×P2×G2)},Paired yD xs ys->Paired yD (Wm xs T) (Wm ys T)
 |_,_,.nil=> .nil
 |_,_,.cons (a:=x) (b:=y) r z=>by
  have ih:=Wb (T:=T) z;unfold Wm at ih ⊢
  by_cases c:x.1=T
  ·rw [J9 (by rw [S1 c];exact D6),J9 (by rw [S1 (r.1 ▸ c)];exact D6)];exact ih
  ·rw [O7 (by rw [T3 c];rfl),O7 (by rw [T3 (r.1 ▸ c)];rfl)];exact .cons r ih
def Ht (td ty:TE):TS:=λD σ H=>td σ H λx H2=>ty σ H2 λy H3=> ∃ (a b:P2) (T:G0 (G0 P1)) (ep:G6) (xs:KT2),x= .ref a/\y= .ref b/\H3 a=some (Jy a ep xs)/\(∀x∈xs,WQ H3 x.1 x.2.1)/\(xs.map (·.1)).Nodup/\WQ H3 T b/\T∈xs.map (·.1)/\ ∀Þ,D.nx σ (upd H3 a (Jy a Þ (Wm xs T)))
section
variable {X:Cx}
def Lt {o i:N3}{td ty:TE}{pos pos':Pos}(hu:X.A.units+9<cLine)(ho:PE X o td)(hi:PE X i ty):PS X (.Delete [.Subscript o i pos'] pos) (Ht td ty):=by
 intro À s σ H D I h;refine wpAny_Delete (wpAny_deleteEach_cons (wpAny_delete_Subscript (Ô (ho À s σ H _ I h) λu s2 ⟨x,H2,I2,rx,q2⟩=>Ô (hi À s2 σ H2 _ I2 q2) λiv s3 ⟨y,H3,I3,ry,a,b,T,ep,xs,ex,ey,hH,ks,nd,hT,mem,q3⟩=> ?_)));subst ex ey;obtain rfl:u=K8 a:=rx;obtain rfl:iv=K8 b:=ry;obtain⟨h1,h2,ys,pr,dd⟩:=Jm I3 hH ks nd;obtain⟨k1,k2,k3⟩:=jU pr;refine NW (knd:=MB X.prog X.w) (show X.A.units+1+8<cLine by omega) (vj I3 T b hT) dd ?_ (by omega) λh' dd' hs=>wpAny_deleteEach_nil ?_
 ·obtain⟨y,hy,e⟩:=R6.mp (k1 ▸ mem);unfold gG;rw [rX,List.find?_isSome];exact⟨y,hy,S1 e⟩
 ·obtain⟨q,es,Þ,hq,e2,e3,e4,_,_⟩:=dd';have lz:(Wm xs T).length<=sizeLine:=R8 (Y7 _ _) h2;refine⟨σ,_,Pt (ob:=Jy a Þ (Wm xs T)) I3 (by rw [hH];exact bT) hs ⟨q,hq⟩ ⟨⟨h1,lz,_,Wb pr,q,es,hq,e2,e3,e4⟩,⟨q,hq⟩,λg1 g2 hg ke=> ?_⟩,q3 Þ⟩;obtain⟨a1,a2,ù,pr',o,ã,ho,ex,hd,he⟩:=hg;exact⟨a1,a2,ù,pr',o,ã,ke o ho,ex,hd,he⟩
def Hu (td ty:TED):TSD:=λE σ h=>td σ h λx h2=>ty σ h2 λy h3=> ∃a T ep kv,x= .dct a/\y=jp T/\h3.dc a=some (.tk ep kv)/\T∈kv.map (·.1)/\ ∀Þ,E.nx σ (Mx h3 a (.tk Þ (Wm kv T)))
theorem Uq {α β:Type}{T:G0 (G0 P1)}: ∀ {kv:G0 (G0 (G0 P1)×α)} {xs:G0 (G0 (G0 P1)×β)},kv.map (·.1)=xs.map (·.1)->(Wm kv T).map (·.1)=(Wm xs T).map (·.1)
 | [],[],_=>rfl
 |p::r,[],e=>by cases e
 | [],q::xs,e=>by cases e
 |p::r,q::xs,e=>by
  rw [T6,T6] at e;injection e with e1 e2
  have ih:=Uq (T:=T) e2;unfold Wm at ih ⊢
  by_cases c:p.1=T
  ·rw [J9 (by rw [S1 c];exact D6),J9 (by rw [S1 (e1 ▸ c)];exact D6)];exact ih
  ·rw [O7 (by rw [T3 c];rfl),O7 (by rw [T3 (e1 ▸ c)];rfl),T6,T6,ih,e1]
theorem Ur {K:G7}{H:Hp}{T:G0 (G0 P1)}: ∀ {kv:G0 (G0 (G0 P1)×D)} {xs:KT2},kv.map (·.1)=xs.map (·.1)->Á K H (kv.map (·.2)) (xs.map (·.2.2))->Á K H ((Wm kv T).map (·.2)) ((Wm xs T).map (·.2.2))
 | [],[],_,_=>rfl
 |p::r,[],e,_=>by cases e
 | [],q::xs,e,_=>by cases e
 |p::r,q::xs,e,h=>by
  rw [T6,T6] at e;injection e with e1 e2
  obtain⟨v0,t,z',h1,h2⟩:=(show ∃v t,q.2.2::xs.map (·.2.2)=v::t/\É K H p.2 v/\Á K H (r.map (·.2)) t from h);injection z' with z1 z2
  subst z1 z2;have ih:=Ur (T:=T) e2 h2;unfold Wm at ih ⊢
  by_cases c:p.1=T
  ·rw [J9 (by rw [S1 c];exact D6),J9 (by rw [S1 (e1 ▸ c)];exact D6)];exact ih
  ·rw [O7 (by rw [T3 c];rfl),O7 (by rw [T3 (e1 ▸ c)];rfl)];exact⟨_,_,rfl,h1,ih⟩
def Hv {k : G6} {o i : N3} {td ty : TED} {pos pos' : Pos} (hr : á k X.A) (ho : JE X o td) (hi : JE X i ty) : JS X (.Delete [.Subscript o i pos'] pos) (Hu td ty) :=
  ⟨(Lt (by have := hr.un; omega) ho.to hi.to).imp fun D σ H ⟨Æ, h, Dd, rs, rh, t, nx, _⟩ => LE.bind rs rh t fun d2 v2 h2 H2 k2 ĩ ê r2 t2 => LE.bind ĩ ê t2 fun d3 v3 h3 H3 k3 ű Ď r3 ⟨a, T, ep0, kv, e1, e2, e, mem, q⟩ => by
    subst e1 e2
    cases (show v2 = .ref a from r2)
    obtain ⟨b, us, ex, _⟩ := (show ∃ b vs, v3 = .ref b ∧ H3 b = some (.tup vs) ∧ Á X.K H3 (T.map wx) vs from r3)
    subst ex
    obtain ⟨xs, hH, nd, ek, tv, rv⟩ := (show ∃ xs : KT2, _ from Ď.dc a _ e)
    have ob : ů (Jy a ep0 xs) := .inr ⟨_, rfl⟩
    refine ⟨a, b, T, ep0, xs, rfl, rfl, hH, fun x hx => Zt (tv x hx), by rw [← ek]; exact nd, Zt r3, by rw [← ek]; exact mem, fun Þ => nx Æ _ σ _ (k2.trans (k3.trans (.putD hH ob))) (ű.mono (.putD hH ob)) (Ď.putC (c := .tk Þ (Wm kv T)) hH ob ?_) (q Þ)⟩
    refine ⟨Wm xs T, jt, nd.sublist (G0.filter_sublist.map _), Uq ek, fun x hx => (tv x (B0.mp hx).1).mono (.putD hH ob), (Ur ek rv).mono (.putD hH ob)⟩⟩
def Hw (t:TE):TT:=λσ H Q=>t σ H λx H1=> ∃a ep xs,x= .ref a/\H1 a=some (Jy a ep xs)/\Q (!xs.isEmpty) H1
def Lu {e:N3}{t:TE}(h:PE X e t)(he: ∀whole,isTrue e X.env whole=(do let v <-whole;fO e.pos;Z8 [v] (m8 v)):=by intro _;rfl):PT X e (Hw t):=by
 intro À s σ H Q I hw;refine qT (Ô (h À s σ H _ I hw) λv s1 ⟨x,H1,I1,r1,a,ep,xs,ex,hH,q⟩=> ?_) (he _);subst ex;cases r1;obtain⟨lo,sl,es,ys,hd,pr,hes,hn⟩:=vH I1 hH;have sm:es.size<=sizeLine:=by rw [hn];exact(I1.hok a _ hH).1.2.1
 refine GJ hd lo sm ⟨H1,I1.tok _,?_⟩;have e:(!es.isEmpty)= !xs.isEmpty:=by
  unfold xS;rw [hn];cases xs<;>rfl
 rw [e];exact q
def Hx (t:TED):TTD:=λσ h Q=>t σ h λx h1=> ∃a ep kv,x= .dct a/\h1.dc a=some (.tk ep kv)/\Q (!kv.isEmpty) h1
def ES {ta : TED} (ha : JE X a ta) (he : ∀ whole, isTrue a X.env whole = (do let v ← whole; fO a.pos; Z8 [v] (m8 v)) := by intro _; rfl) : JT X a (Hx ta) :=
  ⟨(Lu ha.to he).imp fun σ H Q ⟨Æ, h, Qd, rs, rh, t, p⟩ => LE.bind rs rh t fun d v h1 H1 k1 Ù Ê r1 ⟨a, ep, kv, e, hc, q⟩ => by
    subst e
    cases (show v = .ref a from r1)
    obtain ⟨xs, hH, nd, ek, tv, rv⟩ := (show ∃ xs : KT2, _ from Ê.dc a _ hc)
    refine ⟨a, ep, xs, rfl, hH, ?_⟩
    have len : xs.length = kv.length := by have := congrArg Y1 ek; rw [G3, G3] at this; omega
    have e : (!xs.isEmpty) = !kv.isEmpty := by cases xs <;> cases kv <;> first | rfl | (simp at len)
    rw [e]
    exact p _ h1 H1 k1 Ê q⟩
end
noncomputable def Kyi (a : P2) (ep n : G6) : It :=
  ⟨fun i H => ∃ xs x, H a = some (Jy a ep xs) ∧ xs.length = n ∧ xs[i]? = some x,
   fun i H v H' => H' = H ∧ ∃ b, v = .ref b ∧ ∀ xs, H a = some (Jy a ep xs) → ∃ T u, xs[i]? = some (T, b, u),
   fun i H => ∃ xs, H a = some (Jy a ep xs) ∧ xs.length = n ∧ n ≤ i⟩
variable {tg:N3}
def RC {P:T7}{w:C1}{K:G7}(a it:P2)(ep n:G6):Θ P w K tg (Kyi a ep n) [it] it (λi h=>KIt h it a i n ep) where
 mem:=by simp
 obj:=λi h q b hb=>by rw [G8.mp hb];exact⟨_,q,λv z=>by cases z⟩
 keep:=λi h h' q k=>k it (by simp) _ q
 item:=by
  intro X hP hw hK hc i À s σ H E I hf hit hg;subst hP hw hK;obtain⟨xs,x,hH,hl,hx⟩:=hg;obtain⟨_,sl,es,ys,hd,pr,he,hn⟩:=vH I hH;have ty:s.TypeIs (.ref it) "dict_keyiterator" :=⟨_,hit,rfl⟩;obtain⟨f0,f1,f2,f3,f4,f5⟩:=hf it (by simp);have il:i<ys.length:=by rw [<- (jU pr).2.1];exact(P7.mp hx).1
  have hy:ys[i]? =some ys[i]:=G1 il;obtain⟨p1,p2,p3⟩:=wL pr hx hy;have ee:es[i]? =some ⟨Yg ys[i].1,.ref ys[i].2.1,ys[i].2.2⟩:=by rw [<-M8,he,P9,hy];rfl
  unfold m9;refine wpAny_bind (fH (O6 (name:=W4 "__next__") ty A3 (L6 A3 ty aG (Jn hit hd (hn.trans hl) (λe h' Ĺ it2 same=>⟨_,rfl,P0 ⟨_,rfl,?_⟩⟩) λz=>by rw [ee] at z;cases z) (Z7 _))));rw [ee] at Ĺ;injection Ĺ with Ĺ
  subst Ĺ;have I1:Inv X À σ H {s with heap:=h'}:=I.turned (t':=s.toks) (λb o hb e=>same.extBut b o hb e) f0 f1 f3 f4 f5;refine MJ (s:= {s with heap:=h'}) it2 rfl rfl (by decide) ⟨.ref x.2.1,H,I1,by rw [p2];rfl,⟨rfl,x.2.1,rfl,λĴ h2=> ?_⟩,it2,λb hb=>(hf b hb).1⟩;obtain⟨T,hT⟩:=Lp I hH h2 hx;exact⟨T,_,hT⟩
 done:=by
  intro X hP hw hK hc i À s σ H E I hf hit hg;subst hP hw hK;obtain⟨xs,hH,hl,hi⟩:=hg;obtain⟨_,sl,es,ys,hd,pr,he,hn⟩:=vH I hH;have ty:s.TypeIs (.ref it) "dict_keyiterator" :=⟨_,hit,rfl⟩;unfold m9;refine wpAny_bind (fH (O6 (name:=W4 "__next__") ty A3 (L6 A3 ty aG (Jn hit hd (hn.trans hl) (λe h' Ĺ _ _=>by have:=(O3.mp Ĺ).1;omega) λ_=>wpAny_bind (u6 hit rfl (by simp) (vD (s:= {s with heap:=_}) (I.ok.hd hc) λh' e grown stop=> ?_))) (Z7 _))));obtain⟨o,eo,co⟩:=stop;refine wpAny_bind (cC (T:= "StopIteration") (b:=true) ⟨o,eo,co⟩ o4 ?_);have kp: ∀b o,b ∉ [it]->s.heap.get? b=some o->h'.get? b=some o:=λb o hb q=>grown b o ((cI _ _ (λz=>hb (by simp [z]))).trans q)
  have I2:Inv X À σ H {s with heap:=h'}:=I.turnL (t':=s.toks) (ch:= [it]) kp hf;exact P0 ⟨rfl,I2⟩
 self:=λ_ _ _ _ _ q h=>pI ⟨_,q,rfl,rfl⟩ h
def uq (td:TE):TI:=λσ H R=>td σ H λx H1=> ∃a ep xs,x= .ref a/\H1 a=some (Jy a ep xs)/\R (Kyi a ep xs.length) H1
def Lv {X:Cx}{o:N3}{td:TE}(ho:PE X o td):PI X tg o (uq td):=by
 intro À s σ H R I h;refine Ô (ho À s σ H _ I h) λv s1 ⟨x,H1,I1,r1,a,ep,xs,ex,hH,q⟩=> ?_
 subst ex;cases r1;obtain⟨lo,sl,es,ys,hd,pr,he,hn⟩:=vH I1 hH;refine WU hd lo ?_;rw [hn];refine⟨_,[s1.heap.objs.size],_,_,H1,rfl,I1.kept (t':=s1.toks) (λb u e=>G9 _ e),RC a _ ep xs.length,S6 _ rfl,λb hb=> ?_,q⟩;rw [G8.mp hb];exact I1.fpOk (P6 _) (I1.hok.fresh (P6 _))
noncomputable def Xw (a:P2)(ep n:G6):ItD:=λh=>match h.dc a with
 |some (.tk e kv)=>if e=ep/\kv.length=n then some (kv.map λp=>jp p.1) else none
 |_=>none
def QK {h:HD}{a:P2}{ep:G6}{kv:G0 (G0 (G0 P1)×D)}(e:h.dc a=some (.tk ep kv)):Xw a ep kv.length h=some (kv.map λp=>jp p.1):=by
 unfold Xw;rw [e];exact R9 ⟨rfl,rfl⟩
def NY {h:HD}{a:P2}{ep n:G6}{ds:G0 D}(e:Xw a ep n h=some ds): ∃kv,h.dc a=some (.tk ep kv)/\kv.length=n/\ds=kv.map λp=>jp p.1:=by
 unfold Xw at e;split at e
 ·rename_i e' kv q
  by_cases c:e'=ep/\kv.length=n
  ·rw [R9 c] at e;exact⟨kv,by rw [q,c.1],c.2,(A2 e).symm⟩
  ·rw [S4 c] at e;cases e
 ·cases e
def RD {K:G7}{H:Hp}(a:P2)(ep n:G6):Fi K H (Xw a ep n) (Kyi a ep n):=λH' h' _ rh ds e i=>by
 obtain⟨kv,hc,hl,rfl⟩:=NY e;obtain⟨xs,hH,nd,ek,tv,rv⟩:=(show ∃xs:KT2,_ from rh.dc a _ hc);have len:xs.length=n:=by have:=congrArg Y1 ek;rw [G3,G3] at this;omega
 refine⟨λd hd=> ?_,λhi=>⟨xs,hH,len,by rw [G3] at hi;omega⟩⟩;rw [P9] at hd;obtain⟨p,hp,rfl⟩:=F6.mp hd;have il:i<xs.length:=by have:=(P7.mp hp).1;omega
 have hx:xs[i]? =some xs[i]:=G1 il;refine⟨⟨xs,xs[i],hH,len,hx⟩,λx ļ ⟨eH,b,ex,all⟩=> ?_⟩;subst ex eH;obtain⟨T,u,hT⟩:=all xs hH;have e1:T=p.1:=by
  have:=congrArg (λl=>l[i]?) ek;simp only [P9,hp,hT,fQ] at this;exact(A2 this).symm
 subst e1;exact⟨.refl _,rh,tv _ (P8 hT)⟩
def iKy (td:TED):TID:=λσ h R=>td σ h λx h1=> ∃a ep kv,x= .dct a/\h1.dc a=some (.tk ep kv)/\R (Xw a ep kv.length) h1
def RE {X : Cx} {o : N3} {td : TED} (ho : JE X o td) : JI X tg o (iKy td) :=
  ⟨(Lv ho.to).imp fun σ H R ⟨Æ, h, Rd, rs, rh, q, p⟩ => LE.bind rs rh q fun d v h1 H1 k1 Ù Ê r1 ⟨a, ep, kv, e, hc, q1⟩ => by
    subst e
    cases (show v = .ref a from r1)
    obtain ⟨xs, hH, nd, ek, tv, rv⟩ := (show ∃ xs : KT2, _ from Ê.dc a _ hc)
    have len : xs.length = kv.length := by have := congrArg Y1 ek; rw [G3, G3] at this; omega
    exact ⟨a, ep, xs, rfl, hH, by rw [len]; exact p _ _ _ _ k1 Ê (RD a ep kv.length) q1⟩⟩
def Hy (P:T7)(w:C1)(xs:KT2)(o:Obj):Prop:=xs.length<1000/\(xs.map (·.1)).Nodup/\ ∃es ep,∃ys:G0 (G0 (G0 P1)×P2×G2),o.ExactDict/\o.data= .dict es ep/\Paired yD xs ys/\es.toList=ys.map (G0n (MB P w))
noncomputable def hoD (xs:KT2)(o:Obj)(p:P2):HO:=match o.data with
 | .dict _ ep=>Jy p ep xs
 |_=> .own 0
noncomputable def Xx (kx vx:N3)(env:Env)(acc:G2):Sem Unit:=do
 let kv <-K0 kx env
 let vv <-Z8 [kv] (K0 vx env)
 match acc with
 | .ref d=>do
  fO {kx.pos with endLine:=vx.pos.endLine,endCol:=vx.pos.endCol}
  Z8 [kv,vv] (dictSet d kv vv)
 |_=>unsupported "internal:dictcomp"
def Lw (tk tv:TE):TMG KT2:=λσ H xs Q=>tk σ H λy H1=>tv σ H1 λv H2=> ∃b T,y= .ref b/\WQ H2 T b/\(∀x∈xs,WQ H2 x.1 x.2.1)/\T ∉ xs.map (·.1)/\xs.length<999/\Q (xs++ [(T,b,v)]) H2
def RF {X:Cx}{k:G6}{D:P2}{kx vx:N3}{tk tv:TE}(hr:á k X.A)(hx:X.xe=λ_ _=>False)(hk:PE X kx tk)(hv:PE X vx tv):EJ X (Hy X.prog X.w) D (Xx kx vx X.env (.ref D)) (Lw tk tv):=by
 rintro À s σ H xs o Q I ⟨few,nd,es,ep,ys,ox,od,pr,he⟩ DX cD pD h;have q:=hk _ s σ H _ I h;rw [hx] at q;unfold Xx;refine wpAny_bind (M5 q (λy s1 ⟨yv,H1,I1,r1,q1⟩=> ?_) λ_ _ z=>z);have q:=hv _ s1 σ H1 _ I1 q1;rw [hx] at q;refine wpAny_bind (O8 (M5 q (λv s2 ⟨vv,H2,I2,r2,b,T,e,hT,hks,no,lf,q2⟩=> ?_) λ_ _ z=>z));subst e;cases r1;have zD:=I2.pin (D,o) (D0 _ (N2 _ P4));have X0W:Inv X À σ H2 s2:=I2.pins_of λp hp=>I2.pin p (D0 _ (D0 _ hp))
 obtain⟨k1,k2,k3⟩:=jU pr;have dd:s2.heap.DictOfH (MB X.prog X.w) D ys:=⟨o,es,ep,zD.1,ox,od,he,λy hy=>by
  obtain⟨x,hx,e1,e2⟩:=k3 y hy;have:=vj I2 x.1 x.2.1 (hks x hx);rw [e1,e2] at this;exact this,by rw [<-k1];exact nd⟩
 have none_:gG ys T=none:=by
  unfold gG;rw [W9,Z6];intro y hy z;exact no (by rw [k1];exact R6.mpr ⟨y,hy,F9 z⟩)
 refine wpAny_bind (Z9 (O8 (wpAny_dictSet_heap (knd:=MB X.prog X.w) (hsz:=by rw [<-k2];exact R8 (T8 few) (by decide)) (by have:=hr.un;show X.A.units+8<cLine;omega) (vj I2 T b hT) dd λh' dd' sb=> ?_)));rw [G0h none_] at dd';obtain⟨o',ã,Þ,e',x',d',l',_,_⟩:=dd';have I11:Inv X À σ H2 {s2 with heap:=h',toks:=s2.toks+(MB X.prog X.w).draws T}:=X0W.turned (it:=D) (λb o hb e=>sb.extBut b o hb e) zD.2.1 zD.2.2.1 (.inl DX) cD pD;refine⟨xs++ [(T,b,vv)],o',H2,⟨by rw [P3];exact sN lf,?_,ã,Þ,_,x',d',pr.snoc ⟨rfl,rfl,r2⟩,l'⟩,I11.pins_of λp hp=> ?_,q2⟩
 ·rw [T4];refine X5.mpr ⟨nd,by simp,λx hx y hy z=> ?_⟩;rw [G8.mp hy] at z;have z:x=T:=z;exact no (z ▸ hx)
 ·rcases D8.mp hp with z|z
  ·rcases G8.mp z with rfl
   exact⟨e',zD.2.1,zD.2.2.1,zD.2.2.2.1,λv z=>by rw [d'] at z;cases z⟩
  ·exact I11.pin p (D0 _ z)
def RG {P:T7}{w:C1}{kx vx iter:N3}{ifs:G0 N3}{rest:G0 aU}{scope:Y0}{pos:Pos}:X0D P w (.DictComp kx vx (⟨tg,iter,ifs,0⟩::rest) scope pos) ⟨tg,iter,ifs,0⟩ rest G0R {cls:= .type "dict",data:= .dict #[]} where
 cl:=rfl
 quiet:=λ_ _ _=>rfl
 den:=λ_ _ _=>rfl
 under:=λ_ _ _ _=>rfl
 start:=λ{A R s it acc env} h0 h=>n9 (xA (by
  unfold compStart;show R5 (S0 P w) A (ask >>= _) _ _ s;exact wpAny_bind (aV (wpAny_ite (UM (λ_=>wpAny_bind (P0 (P0 ⟨rfl,h0⟩))) λ_=>wpAny_bind (iC (wpAny_bind (Z9 (wpAny_bind (M5 h (λ_ _ q=>P0 ⟨rfl,q⟩) λ_ _ q=>q))))))))))
 live:=rfl
 made:=λ{A Q E s} q=>by
  unfold G0R;exact aH q
def dDC (bind:D->SD->SD->Prop)(js:G0 G6)(ti:TID)(tt:TTD)(tk tv:TED):TED:=λσ h Q=>ti σ h λj h1=> ∃ (n:G6) (W:G6->G0 (G0 (G0 P1)×D)->HD->Prop),W 0 [] h1/\ ∀i kv h',W i kv h'->kv.length<999/\(kv.map (·.1)).Nodup/\
 ∃ds,j h'=some ds/\ds.length<=n/\(ds.length<=i-> ∀a ep,h'.dc a=none->Q (.dct a) (Mx h' a (.tk ep kv)))/\
  ∀d,ds[i]? =some d-> ∃à,bind d (jR js σ) à/\tt à h' λb h3=>if b=true then tk à h3 λy h4=>tv à h4 λv h5=> ∃T h6,y=jp T/\T ∉ kv.map (·.1)/\Sub h6 h5/\W (i+1) (kv++ [(T,v)]) h6 else ∃h5,Sub h5 h3/\W (i+1) kv h5
end L2
namespace HT
open PySem PyProof.Rows
section
variable {prog:T7}{w:C1}{A:N7}{E:G2->G5->Prop}{s:G5}{d:P2}{es:S9 dP}{ep:G6}{sl:S9 (D4 G2)}
noncomputable abbrev DOb (es:S9 dP)(ep:G6)(sl:S9 (D4 G2)):Obj:= {cls:= .type "dict",dict:=none,data:= .dict es ep,slots:=sl}
def RH (hh:A.handled=none)(I:P2)(ne:d≠I):Walks prog w A I [I,d] [I] es.size (λi v=> ∃e,es[i]? =some e/\v=e.key) (λi h=>KIt h I d i es.size ep/\h.get? d=some (DOb es ep sl)) where
 sub:=λb hb=>by simp at hb;simp [hb]
 frame:=λ_ _ _ st hk=>⟨hk I (by simp) _ st.1,hk d (by simp) _ st.2⟩
 item:=λi s Q E hi st hQ=>by
  have ty:s.TypeIs (.ref I) "dict_keyiterator" :=⟨_,st.1,rfl⟩;unfold m9;refine wpAny_bind (fH (O6 (name:=W4 "__next__") ty A3 (L6 A3 ty aG (Jn st.1 st.2 rfl (λe h' he it2 same=>⟨_,rfl,P0 ?_⟩) λz=>by have:=Q8.mp z;omega) (Z7 _))));exact hQ e.key h' s.toks ⟨e,he,rfl⟩ ⟨it2,same.extBut _ _ ne st.2⟩ λb o hb e=>same.extBut b o (λz=>hb (by simp [z])) e
 done:=λs Q E st hQ=>by
  have ty:s.TypeIs (.ref I) "dict_keyiterator" :=⟨_,st.1,rfl⟩;unfold m9;refine wpAny_bind (fH (O6 (name:=W4 "__next__") ty A3 (L6 A3 ty aG (Jn st.1 st.2 rfl (λe h' he _ _=>by have:=(O3.mp he).1;omega) λ_=>wpAny_bind (u6 st.1 rfl (by simp) (L2.vD (s:= {s with heap:=_}) hh λh' e grown stop=> ?_))) (Z7 _))));obtain⟨o,eo,co⟩:=stop;refine wpAny_bind (cC (T:= "StopIteration") (b:=true) ⟨o,eo,co⟩ o4 ?_);exact P0 (hQ h' s.toks λb o hb e=>grown b o ((cI _ _ (λz=>hb (by simp [z]))).trans e))
 self:=λ_ _ _ _ st h=>pI ⟨_,st.1,rfl,rfl⟩ h
def NZ (lo:(d==aY)=false):G1j prog w "dict" d d es.size (λi v=> ∃e,es[i]? =some e/\v=e.key) (λh=>h.get? d=some (DOb es ep sl)) where
 type:=λ_ hm=>⟨_,hm,rfl⟩
 there:=λ_ hm=>⟨D9 hm,D9 hm⟩
 keep:=λ_ _ hm hk=>hk d (.inl rfl) _ hm
 notList:=by decide
 notTuple:=by decide
 hint:=λ_ _ _ _ hm hq=>IF ⟨_,hm,rfl⟩ hq
 iter:=λ_ s hh hm=>⟨_,_,(λ_ _ hq=>WU hm lo hq),RH hh _ (M7 (D9 hm)),⟨S6 _ rfl,G9 _ hm⟩⟩
def Ba {acc:S9 G2}(it:ItemsOf (λi v=> ∃e,es[i]? =some e/\v=e.key) acc es.size):acc.toList=es.toList.map (·.key):=by
 refine bP λi=> ?_
 rw [M8,P9,M8];cases e:acc[i]? with
 |some v=>
  obtain⟨x,hx,rfl⟩:=it.2 i v e;rw [hx];rfl
 |none=>
  have:es.size<=i:=by rw [<-it.1];exact Q8.mp e
  rw [Q8.mpr this];rfl
end
end HT
namespace L2
open PySem PySem.Spec PyProof.Rows HT PySem.SeqAt
def Bb {X:Cx}{À:G0 (P2×Obj)}{σ:St}{H:Hp}{s:G5}{a:P2}{ep:G6}{xs:KT2}(I:Inv X À σ H s)(hH:H a=some (Jy a ep xs)):(a==aY)=false/\ ∃ (sl:S9 (D4 G2)) (es:S9 dP),s.heap.get? a=some (DOb es ep sl)/\es.toList.map (·.key)=xs.map (λx=>K8 x.2.1)/\es.size=xs.length:=by
 obtain⟨lo,sl,es,ys,hd,pr,he,hn⟩:=vH I hH;refine⟨lo,sl,es,hd,?_,hn⟩;rw [he,N8];have go: ∀ {xs:KT2} {ys:G0 (G0 (G0 P1)×P2×G2)},Paired yD xs ys->ys.map ((·.key)∘λx:G0 (G0 P1)×P2×G2=>(⟨Yg x.1,.ref x.2.1,x.2.2⟩:dP))=xs.map (λx=>K8 x.2.1):=λp=>by
  induction p with
  |nil=>rfl
  |cons r _ ih=>rw [T6,T6,ih,r.2.1];rfl
 exact go pr
end L2
namespace L2
open PySem PySem.Spec PyProof.Rows HT
variable {X:Cx}
def Hz {i:G6}{js:G0 G6}{ti:TID}{tt:TTD}{tk tv:TED}(hj:i∈js): ∀σ H Q,LE X.K (dDC (bN i) js ti tt tk tv) σ H Q->tCG (Hy X.prog X.w) hoD [] js (LI X.K ti) (wq i) (LT X.K tt) (Lw (LE X.K tk) (LE X.K tv)) σ H Q:=
 λσ H Q ⟨Æ,h,Qd,rs,rh,q,post⟩=>by
  refine⟨Æ,h,_,rs,rh,q,λj J h1 H1 k1 Ê jo ⟨n,W,w0,turn⟩=> ?_⟩;refine⟨λi m xs H'=>m=n-i/\Kept H1 H'/\ ∃h' kv,kv.map (·.1)=xs.map (·.1)/\Á X.K H' (kv.map (·.2)) (xs.map (·.2.2))/\(∀x∈xs,É X.K H' (jp x.1) (.ref x.2.1))/\È X.K h' H'/\W i kv h',⟨n-0,rfl,.refl _,h1,[],rfl,rfl,(λy hy=>nomatch hy),Ê,w0⟩,?_⟩;rintro i m xs H' ⟨rfl,kp,h',kv,ek,rv,ry,Ğ,w⟩;obtain⟨hz,nd,ds,ej,hn,stop,go⟩:=turn i _ h' w;have len:kv.length=xs.length:=by have:=congrArg Y1 ek;rwa [G3,G3] at this
  have jo':=jo H' h' kp Ğ ds ej i;have kk:Kept H H':=k1.trans kp
  by_cases hi:i<ds.length
  ·obtain⟨g1,y1⟩:=jo'.1 ds[i] (G1 hi);refine .inr ⟨g1,λx ļ y=> ?_⟩;obtain⟨k2,ê,r2⟩:=y1 x ļ y;obtain⟨ï,bd,q2⟩:=go ds[i] (G1 hi);refine Fk hj σ Æ ï ļ ds[i] x _ (((rs.mono (kk.trans k2))).clear js) r2 bd λà ag ĩ=>⟨ag,?_⟩
   refine LT.bind ĩ ê q2 λb h3 H3 k3 ű Ď q3=> ?_
   cases b with
   |true=>
    rw [R9 rfl] at q3 ⊢;refine LE.bind ű Ď q3 λd4 v4 h4 H4 k4 Ű Ō r4 q4=>LE.bind Ű Ō q4 λd5 v5 h5 H5 k5 rs5 rh5 r5 ⟨T,h6,ed,no,sb,w5⟩=> ?_
    subst ed;obtain⟨b,vs,eb,_⟩:=(show ∃a vs,v4= .ref a/\H4 a=some (.tup vs)/\_ from r4);subst eb;have kA:=k2.trans (k3.trans (k4.trans k5));have ry5: ∀x∈xs,É X.K H5 (jp x.1) (.ref x.2.1):=λy hy=>(ry y hy).mono kA
    refine⟨b,T,rfl,tab_of (r4.mono k5),λy hy=>tab_of (ry5 y hy),by rw [<-ek];exact no,by omega,n-(i+1),by omega,rfl,kp.trans kA,h6,kv++ [(T,d5)],by rw [T4,T4,ek];rfl,?_,λy hy=> ?_,rh5.sub sb,w5⟩
    ·rw [T4,T4];exact JQ (rv.mono kA) r5
    ·rcases D8.mp hy with z|z
     ·exact ry5 y z
     ·rw [G8.mp z];exact r4.mono k5
   |false=>
    rw [S4 D6] at q3 ⊢;obtain⟨h5,sb,w5⟩:=q3;exact⟨n-(i+1),by omega,rfl,kp.trans (k2.trans k3),h5,kv,ek,rv.mono (k2.trans k3),λy hy=>(ry y hy).mono (k2.trans k3),Ď.sub sb,w5⟩
  ·refine .inl ⟨jo'.2 (aP.mp hi),λp o hpn acc=> ?_⟩;obtain⟨few,nd2,es,ep,ys,ox,od,pr,he⟩:=acc;have eh:hoD xs o p=Jy p ep xs:=by unfold hoD;rw [od]
   rw [eh];have kn:Kept H' (upd H' p (Jy p ep xs)):= .new hpn;exact post (.dct p) (.ref p) _ _ (kk.trans kn) (Ğ.newC (c:= .tk ep kv) hpn ⟨xs,jt,nd,ek,λx hx=>(ry x hx).mono kn,rv.mono kn⟩) rfl (stop (aP.mp hi) p ep (Ğ.freeC hpn))
def Bc {k:G6}{kx vx iter tg:N3}{ifs:G0 N3}{scope:Y0}{pos pos' î:Pos}{x:Str}{js:G0 G6}{wi:TI}{g g':TG}{tt:TT}{tk tv:TE}(hr:á k X.A)(hc:X.calm=true)(S:Ì X scope js)(hi:PI X tg iter wi)
 (hg: ∀X',jh X scope X'->PG X' tg g)(ht: ∀X',jh X scope X'->ė X' ifs tt)(hk: ∀X',jh X scope X'->PE X' kx tk)(hv: ∀X',jh X scope X'->PE X' vx tv)
 (hg':PG X (.Name x pos') g')(hsw:X7 (.DictComp kx vx [⟨tg,iter,ifs,0⟩] scope pos) (some (.Name x pos')) î.line X.env=pure true)
 (hs: ∀x,M9 iter X.env x=pure x:=by intro _;rfl):PS X (.Assign [.Name x pos'] (.DictComp kx vx [⟨tg,iter,ifs,0⟩] scope pos) î) (MF (tCG (Hy X.prog X.w) hoD [] js wi g tt (Lw tk tv)) g'):=by
 intro À s σ H Dn I h;rw [oF _ _ _ _ hsw];refine wpAny_bind (Z9 (wpAny_bind ?_));show R5 _ X.A (do let _ <-mK (.DictComp kx vx [⟨tg,iter,ifs,0⟩] scope pos) scope X.env _ G0R false (K0 iter X.env) (some (dY (.Name x pos') X.env))) _ _ s;refine wpAny_bind (M5 (EL (ho:=hoD) (use:=some (dY (.Name x pos') X.env)) (Qv:=λ_ s'=>SP X À Dn .next s') hc S hi RG ⟨by decide,lM,#[],0,[],⟨rfl,rfl,rfl⟩,rfl,.nil,rfl⟩ (λa o ⟨_,_,_,_,_,_,e,_⟩ v z=>by rw [e] at z;cases z) (λ{a o H h p} lo ⟨few,nd,es,ep,ys,ox,od,pr,he⟩ e=>by
  unfold hoD;rw [od];exact⟨⟨lo,R8 (T8 few) (by decide),ys,pr,o,es,e,ox,od,he⟩,⟨_,e⟩,λh1 h2 ⟨a1,a2,ù,pr',o',ã,ho,ex,hd,he⟩ ke=>⟨a1,a2,ù,pr',o',ã,ke o' ho,ex,hd,he⟩⟩) hg ht (Xx kx vx) (λ_ _ _=>rfl) (λX' hX D=>by
   obtain⟨C,s₀,H₀,ex,e⟩:=hX;have z:=hk X' ⟨C,s₀,H₀,ex,e⟩;have z2:=hv X' ⟨C,s₀,H₀,ex,e⟩;subst e;exact RF (X:=wu X scope C s₀ H₀ ex) hr rfl z z2) hs I h ?_) (λ_ s' hq=>P0 (P0 hq)) λ_ _ e=>e)
 intro D C H' s' m hn hk HC nL nf sz X0i X0Y q;show R5 _ X.A (dY (.Name x pos') X.env (.ref D)) _ _ s';obtain⟨o,es,ep,ho,hd,hr⟩:=id hn;have I1:Inv X À σ H' s':=hk s'.heap (bM ..);have I2:Inv X (À++ [(C,o)]) σ H' s':=I1.pins_of λp hp=>by
  rcases D8.mp hp with z|z
  ·exact I1.pin p (D0 _ z)
  ·rcases G8.mp z with rfl
   exact⟨ho,HC,nL,nf,λv z=>by rw [hd] at z;cases z⟩
 refine M5 (hg' _ s' σ H' (.ref D) (.ref D) _ I2 rfl q) (λ_ s3 ⟨ā,H3,I3,q3⟩=> ?_) λ_ _ z=>z
 have pC:=I3.pin (C,o) (D0 _ (D0 _ P4));refine⟨m,hn.at' λo' e'=> ?_,λh' hs'=> ?_⟩
 ·rw [ho] at e';cases e';exact pC.1
 ·exact⟨ā,H3,(I3.unpinned).turned (t':=s3.toks) (it:=C) (λb o hb e=>hs'.extBut b o hb e) pC.2.1 nL (.inr sz) X0i X0Y,q3⟩
def ET {n i k : G6} {x y : Str} {p py pos î : Pos} {kx vx iter : N3} {ifs : G0 N3} {scope : Y0} {js : G0 G6} {ti : TID} {tt : TTD} {tk tv : TED} (hr : á n X.A) (hc : X.calm = true) (hN : X.N.Nodup) (hk : X.N[k]? = some y) (hy : Loc X.env.scope y) (S : Ì X scope js) (hi : JI X (.Name x p) iter ti) (hj : i ∈ js) (hx : X.N[i]? = some x) (hl : scope.names.lookup x = some .local ∨ scope.names.lookup x = some .cell)
    (ht : ∀ X', jh X scope X' → ė X' ifs (LT X'.K tt)) (hkx : ∀ X', jh X scope X' → JE X' kx tk) (hvx : ∀ X', jh X scope X' → JE X' vx tv)
    (hsw : X7 (.DictComp kx vx [⟨.Name x p, iter, ifs, 0⟩] scope pos) (some (.Name y py)) î.line X.env = pure true := by rfl) (hf : X.fn y = true ∨ X.env.scope.names.lookup y = some .local := by first | exact .inl rfl | exact .inr rfl | assumption) (hs : ∀ x, M9 iter X.env x = pure x := by intro _; rfl) :
    JS X (.Assign [.Name y py] (.DictComp kx vx [⟨.Name x p, iter, ifs, 0⟩] scope pos) î) (PB k (dDC (bN i) js ti tt tk tv)) :=
  ⟨(Bc (g := wq i) (tt := LT X.K tt) (tk := LE X.K tk) (tv := LE X.K tv) hr hc S hi.to (fun X' hX => by obtain ⟨C, s₀, H₀, ex, rfl⟩ := hX; exact zS hN hx hl) (fun X' hX => by have := ht X' hX; obtain ⟨C, s₀, H₀, ex, rfl⟩ := hX; exact this) (fun X' hX => by have := (hkx X' hX).to; obtain ⟨C, s₀, H₀, ex, rfl⟩ := hX; exact this) (fun X' hX => by have := (hvx X' hX).to; obtain ⟨C, s₀, H₀, ex, rfl⟩ := hX; exact this) (yu hN hk hy hf) hsw hs).imp
    fun D σ H h => by
      obtain ⟨Æ, hd, Qd, rs, rh, t, p⟩ := Qa (K := X.K) D σ H h
      exact Hz hj σ H _ ⟨Æ, hd, Qd, rs, rh, t, p⟩⟩
def Xy (hc:X.calm=true):â X (.type "list") (λxs H Q=> ∃ (a:P2) (ep:G6) (ks:KT2),xs= [.ref a]/\H a=some (Jy a ep ks)/\ks.length<1000/\ ∀q:P2,H q=none->Q (.ref q) (upd H q (.lst (ks.map λx=>V.ref x.2.1)))):=by
 intro À s σ H xs us Q I r h;obtain⟨a,ep,ks,rfl,hH,few,q⟩:=h;obtain⟨u,rfl,ru⟩:=Zp r;cases ru;obtain⟨lo,sl,es,hd,ek,en⟩:=Bb I hH;have sm:es.size<=sizeLine:=by rw [en];exact R8 (T8 few) (by decide)
 refine G03 (NZ (es:=es) (ep:=ep) (sl:=sl) lo) (I.ok.hd hc) hd sm λh1 tk acc c kept lies items=> ?_
 have ea:=Ba items;rw [ek] at ea;have vv: ∀l:KT2,Ç (l.map λx=>V.ref x.2.1) (l.map λx=>K8 x.2.1):=λl=>by
  induction l with
  |nil=>exact .nil
  |cons z l ih=>exact .cons rfl ih
 refine⟨.ref _,_,I.laid (t':=tk) (o:= .lst (ks.map λx=>V.ref x.2.1)) kept (P6 _) ⟨?_,_,c,vv ks,?_⟩,rfl,q _ (I.hok.fresh (P6 _))⟩
 ·rw [G3];exact R8 (T8 few) (by decide)
 ·rw [<-ea,o9];exact lies
def EU:RDn:=λds h Q=> ∃ (a:P2) (ep:G6) (kv:G0 (G0 (G0 P1)×D)),ds= [.dct a]/\h.dc a=some (.tk ep kv)/\kv.length<1000/\ ∀q:P2,h q=none->Q (.lst q) (zK h q (kv.map λp=>jp p.1))
def RI (hc:X.calm=true):vc X (.type "list") EU:=(Xy hc).imp λxs H Q ⟨ds,h,Qd,r,rh,⟨a,ep,kv,e,hd,few,q⟩,p⟩=>by
 subst e;obtain⟨v,e,r1⟩:=jH r;cases (show v= .ref a from r1);subst e;obtain⟨ks,hH,nd,ek,tv,rv⟩:=(show ∃xs:KT2,_ from rh.dc a _ hd);have len:ks.length=kv.length:=by have:=congrArg Y1 ek;rw [G3,G3] at this;omega
 refine⟨a,ep,ks,rfl,hH,by omega,λc hcn=> ?_⟩;have rl:=Xv (K:=X.K) (H:=H) (qs:=ks.map λx=>((x.2.1,x.1):NQ)) λx hx=>by
  obtain⟨y,hy,rfl⟩:=R6.mp hx;exact tv y hy
 rw [N8,N8,N8] at rl;have e2:kv.map (λp=>jp p.1)=ks.map λx=>jp x.1:=by
  have:=congrArg (rT jp) ek
  rwa [N8,N8] at this
 refine p (.lst c) _ _ _ (.new hcn) (rh.newL hcn (show Á X.K H (kv.map λp=>jp p.1) (ks.map λx=>V.ref x.2.1) from ?_)) ⟨rfl,_,jt⟩ (q c (rh.free hcn));rw [e2];exact rl
end L2
namespace L2
open PySem PySem.Spec PyProof.Rows
section
variable {n k:G6}{Ts:G0 (G0 (G0 P1))}{s t:Fnd×G0 (G0 G6)}{w:G0 G6}
theorem Ca {α β:Type}: ∀ {kv:G0 (α×β)} {p q:α×β},(kv.map (·.1)).Nodup->p∈kv->q∈kv->p.1=q.1->p=q
 |x::kv,p,q,nd,hp,hq,e=>by
  obtain⟨a,b⟩:=E1.mp nd;rcases R7.mp hp with u|u<;>rcases R7.mp hq with v|v
  ·rw [u,v]
  ·exact absurd (R6.mpr ⟨q,v,(e.symm.trans (congrArg Prod.fst u))⟩) a
  ·exact absurd (R6.mpr ⟨p,u,(e.trans (congrArg Prod.fst v))⟩) a
  ·exact Ca b u v e
def Bd {α:Type}{kv:G0 (G0 (G0 P1)×α)}{T:G0 (G0 P1)}(h:(zk kv T).isSome=true): ∃p∈kv,p.1=T:=by
 unfold zk at h;cases e:kv.find? λp=>decide (p.1=T) with
 |none=>rw [e] at h;cases h
 |some p=>exact⟨p,U7 e,F9 (cT (p:=λp:G0 (G0 P1)×α=>decide (p.1=T)) e)⟩
variable {p:G0 (G0 P1)×G0 G6}
def Be (h:p∈s.1):p∈(ŀ n Ts s w).1:=by
 cases z:(zk s.1 (Ó n Ts w)).isSome with
 |true=>rw [JR z];exact h
 |false=>rw [JU z];exact N2 _ h
def EV {v:G0 G6}(h:v∈s.2):v∈(ŀ n Ts s w).2:=by
 cases z:(zk s.1 (Ó n Ts w)).isSome with
 |true=>rw [JR z];exact h
 |false=>rw [JU z];exact N2 _ h
def Ly: ∃p∈(ŀ n Ts s w).1,p.1=Ó n Ts w:=by
 cases z:(zk s.1 (Ó n Ts w)).isSome with
 |true=>rw [JR z];exact Bd z
 |false=>rw [JU z];exact⟨_,D0 _ P4,rfl⟩
def Lz (h:p∈(ŀ n Ts s w).1):p∈s.1\/ ∀a<Ts.length,p.2++ [a]∈(ŀ n Ts s w).2:=by
 cases z:(zk s.1 (Ó n Ts w)).isSome with
 |true=>rw [JR z] at h;exact .inl h
 |false=>
  rw [JU z] at h ⊢;rcases D8.mp h with x|x
  ·exact .inl x
  ·rw [G8.mp x];exact .inr λa ha=>D0 _ (R6.mpr ⟨a,D1.mpr ha,rfl⟩)
theorem Wc: ∀ {ws:G0 (G0 G6)} {s:Fnd×G0 (G0 G6)},p∈s.1->p∈(ws.foldl (ŀ n Ts) s).1
 | [],_,h=>h
 |_::ws,_,h=>Wc (ws:=ws) (Be h)
theorem RJ {v:G0 G6}: ∀ {ws:G0 (G0 G6)} {s:Fnd×G0 (G0 G6)},v∈s.2->v∈(ws.foldl (ŀ n Ts) s).2
 | [],_,h=>h
 |_::ws,_,h=>RJ (ws:=ws) (EV h)
theorem QL: ∀ {ws:G0 (G0 G6)} {s:Fnd×G0 (G0 G6)},w∈ws-> ∃p∈(ws.foldl (ŀ n Ts) s).1,p.1=Ó n Ts w
 |v::ws,s,h=>by
  rcases R7.mp h with e|e
  ·obtain⟨p,hp,x⟩:=Ly (n:=n) (Ts:=Ts) (s:=s) (w:=w);exact⟨p,Wc (ws:=ws) (e ▸ hp),x⟩
  ·exact QL (ws:=ws) e
theorem QM: ∀ {ws:G0 (G0 G6)} {s:Fnd×G0 (G0 G6)},p∈(ws.foldl (ŀ n Ts) s).1->p∈s.1\/ ∀a<Ts.length,p.2++ [a]∈(ws.foldl (ŀ n Ts) s).2
 | [],_,h=> .inl h
 |v::ws,s,h=>by
  rcases QM (ws:=ws) h with x|x
  ·rcases Lz x with y|y
   ·exact .inl y
   ·exact .inr λa ha=>RJ (ws:=ws) (y a ha)
  ·exact .inr x
theorem YO (l3:Ts.length<=3): ∀k,(∀w,UN Ts w->w.length<=k-> ∃p∈(Ć n Ts k).1,p.1=Ó n Ts w/\p.2.length<=w.length)/\(∀p∈(Ć n Ts k).1,p.2.length=k-> ∀a<Ts.length,p.2++ [a]∈(Ć n Ts k).2)
 |0=>⟨λw hw h=>absurd (K4 (pJ.mp h)) hw.1,λ_ h=>nomatch h⟩
 |k+1=>by
  obtain⟨i1,i2⟩:=YO l3 k;have b:=yF (n:=n) l3 k;have b':=yF (n:=n) l3 (k+1);have kp: ∀p∈(Ć n Ts k).1,p∈(Ć n Ts (k+1)).1:=λp hp=>Wc (s:=((Ć n Ts k).1,[])) hp
  have gt: ∀w∈(Ć n Ts k).2,∃p∈(Ć n Ts (k+1)).1,p.1=Ó n Ts w:=λw hw=>QL hw
  refine⟨λw hw hl=> ?_,λp hp e a ha=> ?_⟩
  ·rcases L5 w.length (k+1) with c|c
   ·obtain⟨p,hp,x,y⟩:=i1 w hw (fT.mp c);exact⟨p,kp p hp,x,y⟩
   ·have el:w.length=k+1:=fU hl c;have fin: ∀v∈(Ć n Ts k).2,Ó n Ts v=Ó n Ts w-> ∃p∈(Ć n Ts (k+1)).1,p.1=Ó n Ts w/\p.2.length<=w.length:=λv hv e=>by
     obtain⟨p,hp,x⟩:=gt v hv;exact⟨p,hp,x.trans e,by rw [el];exact(b'.fd p hp).2.2⟩
    obtain⟨u,a,rfl⟩: ∃u a,w=u++ [a]:=⟨w.dropLast,w.getLast hw.1,(cS hw.1).symm⟩;have ha:a<Ts.length:=hw.2 a (D0 _ P4);rw [P3] at el;have lu:u.length=k:=Nat.succ.inj el
    by_cases c0:u= []
    ·subst c0;have k0:k=0:=lu.symm;subst k0;exact fin [a] (R6.mpr ⟨a,D1.mpr ha,rfl⟩) rfl
    ·obtain⟨p,hp,x,y⟩:=i1 u ⟨c0,λi hi=>hw.2 i (N2 _ hi)⟩ (J0 lu);obtain⟨f1,f2,f3⟩:=b.fd p hp;have em:Ó n Ts (p.2++ [a])=Ó n Ts (u++ [a]):=by rw [wX f2.1,wX c0,<-x,<-f1]
     by_cases c1:p.2.length=k
     ·exact fin _ (i2 p hp c1 a ha) em
     ·obtain⟨r,hr,x',y'⟩:=i1 (p.2++ [a]) ⟨by simp,λi hi=>by
       rcases D8.mp hi with z|z
       ·exact f2.2 i z
       ·rw [G8.mp z];exact ha⟩ (by rw [P3];show p.2.length+1<=k;omega)
      refine⟨r,kp r hr,x'.trans em,R8 y' ?_⟩;rw [P3,P3];exact o8 y _
  ·rcases QM (ws:=(Ć n Ts k).2) (s:=((Ć n Ts k).1,[])) hp with x|x
   ·exact absurd (b.fd p x).2.2 (by omega)
   ·exact x a ha
def LB (n3:n<=3)(l1:1<=Ts.length)(l3:Ts.length<=3):(Ć n Ts 1025).2= []:=by
 have key: ∀k,(Ć n Ts k).2= []\/k+GH (Ć n Ts k)<=1025:=λk=>by
  induction k with
  |zero=>exact .inr (Um l1)
  |succ k ih=>
   rcases ih with x|x
   ·exact .inl (by rw [Ul x 1];exact x)
   ·by_cases z:(Ć n Ts k).2= []
    ·exact .inl (by rw [Ul z 1];exact z)
    ·have:GH (Ć n Ts (k+1))<GH (Ć n Ts k):=QH (yF l3 k) n3 l3 z;exact .inr (by omega)
 rcases key 1025 with x|x
 ·exact x
 ·by_cases z:(Ć n Ts 1025).2= []
  ·exact z
  ·unfold GH at x;rw [S4 z] at x;omega
def Us (n3:n<=3)(l1:1<=Ts.length)(l3:Ts.length<=3)(hw:UN Ts w): ∃p∈ţ n Ts,p.1=Ó n Ts w/\p.2.length<=w.length:=by
 rcases nX w.length 1025 with c|c
 ·obtain⟨p,hp,x,y⟩:=(YO (n:=n) l3 w.length).1 w hw (P6 _);obtain⟨r,hr,x',y'⟩:=(YO (n:=n) l3 1025).1 p.2 ((yF l3 _).fd p hp).2.1 (R8 y c);exact⟨r,hr,x'.trans ((((yF l3 _).fd p hp).1).symm.trans x),R8 y' y⟩
 ·have e:=Ul (LB n3 l1 l3) (w.length-1025);rw [show 1025+(w.length-1025)=w.length by omega] at e;obtain⟨p,hp,x⟩:=(YO (n:=n) l3 w.length).1 w hw (P6 _);rw [e] at hp;exact⟨p,hp,x⟩
def RK (n3:n<=3)(l1:1<=Ts.length)(l3:Ts.length<=3){p:G0 (G0 P1)×G0 G6}(hp:p∈ţ n Ts)(hw:UN Ts w)(e:Ó n Ts w=p.1):p.2.length<=w.length:=by
 obtain⟨r,hr,x,y⟩:=Us (n:=n) n3 l1 l3 hw;have nd:=(yG (n:=n) l3).nd;have:r=p:=Ca nd hr hp (x.trans e);exact this ▸ y
end
noncomputable def Ă (m:G6):G0 G6:= [0,m%8,m / 8%8,m%8 ||| m / 8%8,m / 64,m%8 ||| m / 64,m / 8%8 ||| m / 64,m%8 ||| m / 8%8 ||| m / 64]
noncomputable def spK (m:G6):G6:=(Ă m).foldl (λk x=>k ||| 1 <<< x) 0
noncomputable def ł:G0 (G6×G6×G6):= [1].map (·,1,1)++ [3,5,9,17,33,65,129].map (·,7,8)++ [11,13,35,49,69,81,131,133,137,145,161,193].map (·,12,20)++ [15,51,85,153,165,169,195,201,225].map (·,18,38)++ [139,141,163,177,197,209].map (·,6,26)++ [143,171,173,179,185,203,205,213,217,227,229,233,241].map (·,6,44)++ [175,187,207,221,243,245].map (·,6,50)++ [255].map (·,6,56)
def EW:((P5 512).all λm=>(Ă m).all λx=>K2 (spK m ||| 1 <<< x) (spK m))=true:=by decide +kernel
def EX:((P5 512).all λm=>(Ă m).all λa=>(Ă m).all λb=>(Ă m).elem (a ||| b))=true:=by decide +kernel
def RL:((P5 512).all λm=>ł.any λe=>K2 e.1 (spK m))=true:=by decide +kernel
def LD:(ł.all λe=>dR ((P5 512).filter λm=>K2 (spK m) e.1).length e.2.1)=true:=by decide +kernel
def LF:(ł.all λe=>ł.all λf=> !K2 (f.1 ||| e.1) e.1||K2 f.1 e.1||dR (f.2.2+e.2.1) e.2.2)=true:=by decide +kernel
def EZ:(ł.all λe=>dR e.2.1 e.2.2)=true:=by decide +kernel
def LH:(ł.all λe=>dR e.2.2 56)=true:=by decide +kernel
def leC (N M:G6):Prop:=N%8∈Ă M/\N / 8%8∈Ă M/\N / 64∈Ă M
theorem RM {K:G6}: ∀ (l:G0 G6) (k:G6),(∀x∈l,K ||| 1 <<< x=K)->k ||| K=K->l.foldl (λk x=>k ||| 1 <<< x) k ||| K=K
 | [],_,_,h=>h
 |x::l,k,a,h=>RM l _ (λy hy=>a y (R1 _ hy)) (by rw [Nat.or_assoc,Nat.or_comm (1 <<< x),a x P4];exact h)
def leK {N M:G6}(hM:M<512)(h:leC N M):spK N ||| spK M=spK M:=by
 obtain⟨a,b,c⟩:=h;have cl:=λx hx y hy=>List.elem_iff.mp (S8.mp (S8.mp (S8.mp EX M (D1.mpr hM)) x hx) y hy)
 refine RM (Ă N) 0 (λx hx=> ?_) (Nat.zero_or _);have:x∈Ă M:=by
  simp only [Ă,R7,F5,or_false] at hx;rcases hx with e|e|e|e|e|e|e|e<;>subst e
  ·exact P4
  ·exact a
  ·exact b
  ·exact cl _ a _ b
  ·exact c
  ·exact cl _ a _ c
  ·exact cl _ b _ c
  ·exact cl _ (cl _ a _ b) _ c
 exact O9 (S8.mp (S8.mp EW M (D1.mpr hM)) x this)
def dnC:G0 G6->Prop
 |a::b::r=>leC b a/\dnC (b::r)
 |_=>True
def Cb {l:G0 G6}{k c w:G6}(he:(k,c,w)∈ł)(nd:l.Nodup)(lt: ∀x∈l,x<512):(l.filter λm=>K2 (spK m) k).length<=c:=
 R8 (wb (nd.filter _) λx hx=>B0.mpr ⟨D1.mpr (lt x (B0.mp hx).1),(B0.mp hx).2⟩) (O0 (S8.mp LD _ he))
theorem RO: ∀ (l:G0 G6) (a k c w:G6),dnC (a::l)->(a::l).Nodup->(∀x∈a::l,x<512)->(k,c,w)∈ł->k=spK a->(a::l).length+c<=((a::l).filter λm=>K2 (spK m) k).length+w
 | [],a,k,c,w,_,nd,lt,he,ek=>by
  have ha:K2 (spK a) k=true:=by rw [ek];exact g6 _
  have t:c<=w:=O0 (S8.mp EZ _ he);rw [O7 (p:=λm=>K2 (spK m) k) ha];show 1+c<=1+w;omega
 |b::l,a,k,c,w,dn,nd,lt,he,ek=>by
  have ha:K2 (spK a) k=true:=by rw [ek];exact g6 _
  rw [O7 (p:=λm=>K2 (spK m) k) ha];obtain⟨k',hk⟩: ∃e∈ł,K2 e.1 (spK b)=true:=U5.mp (S8.mp RL b (D1.mpr (lt b (by simp))));obtain⟨k',c',w'⟩:=k';obtain⟨he',eb⟩:=hk;have eb:k'=spK b:=O9 eb;have nd':=(E1.mp nd).2;have lt': ∀x∈b::l,x<512:=λx hx=>lt x (R1 _ hx)
  by_cases z:spK b=k
  ·have:=RO l b k c w dn.2 nd' lt' he z.symm;show (b::l).length+1+c<=((b::l).filter λm=>K2 (spK m) k).length+1+w;omega
  ·have ih:=RO l b k' c' w' dn.2 nd' lt' he' eb;have f:=Cb he' nd' lt';have low:=S8.mp (S8.mp LF _ he) _ he';have sub:k' ||| k=k:=by rw [eb,ek];exact leK (lt a (by simp)) dn.1
   have z1:K2 (k' ||| k) k=true:=by rw [sub];exact g6 _
   have z2:K2 k' k=false:=by
    cases y:K2 k' k with
    |false=>rfl
    |true=>exact absurd (eb ▸ O9 y) z
   have low:(!K2 (k' ||| k) k||K2 k' k||dR (w'+c) w)=true:=low;rw [z1,z2] at low;have low:=O0 low;show (b::l).length+1+c<=((b::l).filter λm=>K2 (spK m) k).length+1+w;omega
def Sa {l:G0 G6}(dn:dnC l)(nd:l.Nodup)(lt: ∀x∈l,x<512):l.length<=56:=by
 cases l with
 |nil=>exact N9 _
 |cons a l=>
  obtain⟨⟨k,c,w⟩,he,ek⟩: ∃e∈ł,K2 e.1 (spK a)=true:=U5.mp (S8.mp RL a (D1.mpr (lt a P4)));have:=RO l a k c w dn nd lt he (O9 ek);have f:=Cb he nd lt;have t:w<=56:=O0 (S8.mp LH _ he);omega
noncomputable def cb (x y z:N4):G6:=x.toNat+2*y.toNat+4*z.toNat
noncomputable def eB (M:G0 (G0 P1))(i j:G6):N4:=decide (Ð M i j≠0)
noncomputable def Γ (M:G0 (G0 P1))(j:G6):G6:=cb (eB M 0 j) (eB M 1 j) (eB M 2 j)
noncomputable def Œ (M:G0 (G0 P1)):G6:=Γ M 0+8*Γ M 1+64*Γ M 2
def LJ: ∀x y z,cb x y z<8:=by decide
def WV: ∀x y z x' y' z',cb x y z=cb x' y' z'->x=x'/\y=y'/\z=z':=by decide
def Ut: ∀x y z x' y' z',cb x y z ||| cb x' y' z'=cb (x||x') (y||y') (z||z'):=by decide
def zg (M:G0 (G0 P1)):Œ M<512/\Œ M%8=Γ M 0/\Œ M / 8%8=Γ M 1/\Œ M / 64=Γ M 2:=by
 have a:Γ M 0<8:=LJ _ _ _;have b:Γ M 1<8:=LJ _ _ _;have c:Γ M 2<8:=LJ _ _ _;unfold Œ;omega
variable {M:G0 (G0 P1)}
def LK {N:G0 (G0 P1)}(hM:Sq 3 1 M)(hN:Sq 3 1 N)(e:Œ M=Œ N):M=N:=by
 obtain⟨_,a,b,c⟩:=zg M;obtain⟨_,a',b',c'⟩:=zg N;rw [e] at a b c;have e0:=WV _ _ _ _ _ _ (a.symm.trans a');have e1:=WV _ _ _ _ _ _ (b.symm.trans b');have e2:=WV _ _ _ _ _ _ (c.symm.trans c');refine hM.ext hN λi j hi hj=> ?_
 have z:eB M i j=eB N i j:=by
  rcases (show i=0\/i=1\/i=2 by omega) with x|x|x<;>rcases (show j=0\/j=1\/j=2 by omega) with y|y|y<;>subst x<;>subst y
  ·exact e0.1
  ·exact e1.1
  ·exact e2.1
  ·exact e0.2.1
  ·exact e1.2.1
  ·exact e2.2.1
  ·exact e0.2.2
  ·exact e1.2.2
  ·exact e2.2.2
 have z:=decide_eq_decide.mp z;have p:=hM.ent_nn hi hj;have q:=hN.ent_nn hi hj;omega
def RQ {e:G6}{T:G0 (G0 P1)}(hM:Sq 3 1 M)(hT:Sq 3 e T){i j:G6}(hi:i<3)(hj:j<3):eB (ç 3 T M) i j=((eB M i 0&&eB T 0 j)||(eB M i 1&&eB T 1 j)||(eB M i 2&&eB T 2 j)):=by
 have a: ∀k,k<3->0<=Ð M i k*Ð T k j/\(Ð M i k*Ð T k j=0↔Ð M i k=0\/Ð T k j=0):=λk hk=>⟨oZ (hM.ent_nn hi hk).1 (hT.ent_nn hk hj).1,Int.mul_eq_zero⟩
 have s:Ð (JD 3 M T) i j=Ð M i 0*Ð T 0 j+Ð M i 1*Ð T 1 j+Ð M i 2*Ð T 2 j:=by
  rw [yy hi hj,jF,jF,jF,zX,Int.zero_add]
 obtain⟨a0,b0⟩:=a 0 (by omega);obtain⟨a1,b1⟩:=a 1 (by omega);obtain⟨a2,b2⟩:=a 2 (by omega);unfold eB ç;rw [Qj hi hj,s];generalize Ð M i 0*Ð T 0 j=p0 at a0 b0 ⊢;generalize Ð M i 1*Ð T 1 j=p1 at a1 b1 ⊢;generalize Ð M i 2*Ð T 2 j=p2 at a2 b2 ⊢;rw [<-iV,<-iV,<-iV,<-pK,<-pK];refine decide_eq_decide.mpr ?_
 by_cases z:p0+p1+p2=0
 ·rw [R9 z];omega
 ·rw [S4 z];omega
def Xz {e:G6}{T:G0 (G0 P1)}(hM:Sq 3 1 M)(hT:Sq 3 e T){j:G6}(hj:j<3):Γ (ç 3 T M) j∈Ă (Œ M):=by
 obtain⟨_,a,b,c⟩:=zg M;unfold Ă;rw [a,b,c];unfold Γ;rw [RQ hM hT (by omega) hj,RQ hM hT (by omega) hj,RQ hM hT (by omega) hj,Ut,Ut,Ut,Ut];generalize eB T 0 j=t0;generalize eB T 1 j=t1;generalize eB T 2 j=t2;cases t0<;>cases t1<;>cases t2<;>simp only [iM,a8,mI,xT]<;>simp [cb]
def Sb {e:G6}{T:G0 (G0 P1)}(hM:Sq 3 1 M)(hT:Sq 3 e T):leC (Œ (ç 3 T M)) (Œ M):=by
 obtain⟨_,a,b,c⟩:=zg (ç 3 T M);unfold leC;rw [a,b,c];exact⟨Xz hM hT (by omega),Xz hM hT (by omega),Xz hM hT (by omega)⟩
theorem Uu (f:G6->G6): ∀ (m s:G6),(∀i,s<=i->i+1<s+m->leC (f (i+1)) (f i))->dnC ((mG s m).map f)
 |0,_,_=>bT
 |1,_,_=>bT
 |m+2,s,h=>⟨h s (P6 _) (by omega),Uu f (m+1) (s+1) λi a b=>h i (by omega) (by omega)⟩
def RR {β:Type}(f:G6->β)(m:G6)(h: ∀i j,i<j->j<m->f i≠f j):((P5 m).map f).Nodup:=X3.mpr (G0.pairwise_lt_range.imp_of_mem λ{a b} _ hb lt=>h a b lt (D1.mp hb))
def HA {n:G6}(n2:n<=2){l:G0 (G0 (G0 P1))}(nd:l.Nodup)(h: ∀M∈l,Sq n 1 M):l.length<=16:=by
 have:=wb (m:=Uk (Uk [(0:P1),1] n) n) nd λM hM=>by
  have s:=h M hM;have z:=wV (xs:=Uk [(0:P1),1] n) (r:=M) λr hr=>by
   have z:=wV (xs:= [(0:P1),1]) (r:=r) λx hx=>by
    have a:=s.nn r hr x hx;have b:x<2:=s.bit r hr x hx;rcases (show x=0\/x=1 by omega) with e|e<;>subst e<;>simp
   rw [s.row r hr] at z;exact z
  rw [s.len] at z;exact z
 rw [wW,wW] at this;rcases (show n=0\/n=1\/n=2 by omega) with e|e|e<;>subst e<;>exact R8 this (by decide)
def XA {n:G6}{Ts:G0 (G0 (G0 P1))}: ∀ {u:G0 G6} (_:u≠ []) (v:G0 G6),Ó n Ts (u++v)=JH n Ts (Ó n Ts u) v
 | [],h,_=>absurd rfl h
 |b::u,_,v=>Xd _ u v
def RS {w:G0 G6}{i:G6}(h:i<w.length):w.take (i+1)=w.take i++ [w[i]]:=by rw [C4,G1 h];rfl
def LL {n:G6}{Ts:G0 (G0 (G0 P1))}(hT:Ä n Ts){p:G0 (G0 P1)×G0 G6}(hp:p∈ţ n Ts):p.2.length<=56:=by
 obtain⟨f1,⟨f2,f3⟩,_⟩:=(yG (n:=n) hT.l3).fd p hp;generalize hw:p.2=w at*
 have least:=λv a b=>hw ▸ RK (n:=n) hT.n3 hT.l1 hT.l3 hp (w:=v) a b
 have ne: ∀i,i<w.length->w.take (i+1)≠ []:=λi hi z=>by
  have:=congrArg Y1 z;rw [T5,U0 hi] at this;cases this
 have dist: ∀i j,i<j->j<w.length->Ó n Ts (w.take (i+1))≠Ó n Ts (w.take (j+1)):=λi j hij hj e=>by
  have a:Ó n Ts (w.take (i+1)++w.drop (j+1))=p.1:=by
   rw [XA (ne i (by omega)),e,<-XA (ne j hj),N5];exact f1.symm
  have:=least _ ⟨by simp [ne i (by omega)],λk hk=>by
   rcases D8.mp hk with z|z
   ·exact f3 k (O5 z)
   ·exact f3 k (O4 z)⟩ a
  rw [P3,T5,C0] at this;omega
 rcases (show n<=2\/n=3 by have:=hT.n3;omega) with c|c
 ·have:=HA c (RR (λi=>Ó n Ts (w.take (i+1))) w.length dist) λM hM=>by
   obtain⟨i,_,rfl⟩:=R6.mp hM;exact yE _
  rw [G3,R0] at this;omega
 ·subst c;have:=Sa (l:=(P5 w.length).map λi=>Œ (Ó 3 Ts (w.take (i+1)))) ?_ (RR _ _ λi j hij hj e=>dist i j hij hj (LK (yE _) (yE _) e)) λx hx=>by
   obtain⟨i,_,rfl⟩:=R6.mp hx;exact(zg _).1
  ·rwa [G3,R0] at this
  ·rw [pL];refine Uu _ _ 0 λi _ hi=> ?_
   have hi':i+1<w.length:=by omega
   rw [RS hi',wX (ne i (by omega))];have ha:=f3 _ (N0 hi');exact Sb (yE _) (hT.sq _ (by rw [D2,G1 ha];exact N0 ha))
noncomputable def Wd (n:G6)(Ts:G0 (G0 (G0 P1))):G0 (G0 (G0 P1)):=(ţ n Ts).map (·.1)
noncomputable def ť (n:G6)(Ts:G0 (G0 (G0 P1))):G6->G0 (G0 P1)->N4
 |0,M=> !jG M
 |k+1,M=> !jG M&&(P5 Ts.length).any λi=>ť n Ts k (ç n (Ts.getD i []) M)
noncomputable def η (n:G6)(Ts L:G0 (G0 (G0 P1)))(M:G0 (G0 P1)):N4:=(P5 Ts.length).any λi=>decide (ç n (Ts.getD i []) M∈L)
noncomputable def é (n:G6)(Ts:G0 (G0 (G0 P1))):G6->G0 (G0 (G0 P1))
 |0=>(Wd n Ts).filter λM=> !jG M
 |k+1=>(é n Ts k).filter (η n Ts (é n Ts k))
section
variable {n k r:G6}{Ts:G0 (G0 (G0 P1))}{M:G0 (G0 P1)}{w:G0 G6}
def XB (hT:Ä n Ts)(hw:UN Ts w):Ó n Ts w∈Wd n Ts:=by
 obtain⟨p,hp,e,_⟩:=Us (n:=n) hT.n3 hT.l1 hT.l3 hw;exact R6.mpr ⟨p,hp,e⟩
def YQ (hT:Ä n Ts)(h:M∈Wd n Ts): ∃w,UN Ts w/\M=Ó n Ts w:=by
 obtain⟨p,hp,rfl⟩:=R6.mp h;obtain⟨a,b,_⟩:=(yG (n:=n) hT.l3).fd p hp;exact⟨p.2,b,a⟩
def QN {i:G6}(hw:UN Ts w)(hi:i<Ts.length):UN Ts (w++ [i]):=⟨by simp,λj hj=>by
 rcases D8.mp hj with z|z
 ·exact hw.2 j z
 ·rw [G8.mp z];exact hi⟩
def Bf (hT:Ä n Ts)(h:M∈Wd n Ts){i:G6}(hi:i<Ts.length):ç n (Ts.getD i []) M∈Wd n Ts:=by
 obtain⟨w,hw,rfl⟩:=YQ hT h;rw [<-wX hw.1];exact XB hT (QN hw hi)
def YR: ∀ {k:G6} {M:G0 (G0 P1)},ť n Ts k M=true->jG M=false
 |0,M,h=>by cases z:jG M with
  |false=>rfl
  |true=>rw [show ť n Ts 0 M= !jG M from rfl,z] at h;cases h
 |k+1,M,h=>by cases z:jG M with
  |false=>rfl
  |true=>rw [show ť n Ts (k+1) M=(!jG M&&_) from rfl,z] at h;cases h
def ZD {i:G6}(hi:i<Ts.length)(f:jG M=false)(h:ť n Ts k (ç n (Ts.getD i []) M)=true):ť n Ts (k+1) M=true:=by
 show (!jG M&&_)=true;rw [f];exact U5.mpr ⟨i,D1.mpr hi,h⟩
def YS (h:ť n Ts (k+1) M=true): ∃i<Ts.length,ť n Ts k (ç n (Ts.getD i []) M)=true:=by
 obtain⟨i,hi,x⟩:=U5.mp (Bool.and_eq_true_iff.mp (show (!jG M&&_)=true from h)).2;exact⟨i,D1.mp hi,x⟩
theorem YT: ∀ {k:G6} {M:G0 (G0 P1)},ť n Ts (k+1) M=true->ť n Ts k M=true
 |0,M,h=>by rw [show ť n Ts 0 M= !jG M from rfl,YR h];rfl
 |k+1,M,h=>by
  obtain⟨i,hi,x⟩:=YS h;exact ZD hi (YR h) (YT x)
def Sc {j:G6}(hj:j<=k)(h:ť n Ts k M=true):ť n Ts j M=true:=by
 induction k with
 |zero=>rw [pJ.mp hj];exact h
 |succ k ih=>
  rcases L5 j (k+1) with c|c
  ·exact ih (fT.mp c) (YT h)
  ·rw [fU hj c];exact h
theorem vI (hT:Ä n Ts): ∀ {k:G6} {M:G0 (G0 P1)},M∈é n Ts k↔M∈Wd n Ts/\ť n Ts k M=true
 |0,M=>B0
 |k+1,M=>by
  show M∈(é n Ts k).filter _↔_;rw [B0,vI hT];constructor
  ·rintro ⟨⟨a,b⟩,c⟩;obtain⟨i,hi,x⟩:=U5.mp c;exact⟨a,ZD (D1.mp hi) (YR b) ((vI hT).mp (F9 x)).2⟩
  ·rintro ⟨a,b⟩;obtain⟨i,hi,x⟩:=YS b;exact⟨⟨a,YT b⟩,U5.mpr ⟨i,D1.mpr hi,S1 ((vI hT).mpr ⟨Bf hT a hi,x⟩)⟩⟩
def QP {e:G6}{T N:G0 (G0 P1)}(hM:Sq n 1 M)(hT:Sq n e T)(hN:Sq n 1 N)(f:jG M=true)(g:jG (ç n T M)=false):jG (ç n T N)=false:=by
 cases z:jG (ç n T N) with
 |false=>rfl
 |true=>
  have y:jG (ç n T M)=true:=(Yt (Sq.mark _)).mpr λi j hi hj q=>by
   have a:=(Yt (Sq.mark _)).mp z i j hi hj;obtain⟨k,hk,_,b⟩:=(zH hN hT hi hj).mp λq=>a ((Jb hi hj).mpr q)
   exact(zH hM hT hi hj).mpr ⟨k,hk,(Yt hM).mp f i k hi hk,b⟩ ((Jb hi hj).mp q)
  rw [y] at g;cases g
def LM (n:G6)(Ts:G0 (G0 (G0 P1))):Prop:= ∀i<Ts.length,∀M,Sq n 1 M->jG M=true->jG (ç n (Ts.getD i []) M)=true
def RT (hT:Ä n Ts){i:G6}(hi:i<Ts.length):Ó n Ts [i]=ç n (Ts.getD i []) (Ys n):=by
 show yA n (Ts.getD i [])=yA n (JD n (Ys n) (Ts.getD i []));rw [Qg (hT.get hi) (by have:=hT.n3;omega)]
def RU (hT:Ä n Ts)(h:é n Ts r= []):LM n Ts:=λi hi M hM f=>by
 cases g:jG (ç n (Ts.getD i []) M) with
 |true=>rfl
 |false=>
  exfalso;have no: ∀N,Sq n 1 N->jG (ç n (Ts.getD i []) N)=false:=λN hN=>QP hM (hT.get hi) hN f g
  have go: ∀k N,Sq n 1 N->ť n Ts k (ç n (Ts.getD i []) N)=true:=λk=>by
   induction k with
   |zero=>exact λN hN=>by show (!jG _)=true;rw [no N hN];rfl
   |succ k ih=>exact λN hN=>ZD hi (no N hN) (ih _ (Sq.mark _))
  have:Ó n Ts [i]∈é n Ts r:=(vI hT).mpr ⟨XB hT ⟨by simp,λj hj=>by rw [G8.mp hj];exact hi⟩,by rw [RT hT hi];exact go r _ (Sq.one n)⟩;rw [h] at this;cases this
theorem QQ (nc:LM n Ts): ∀ {v:G0 G6} {M:G0 (G0 P1)},(∀i∈v,i<Ts.length)->Sq n 1 M->jG M=true->jG (JH n Ts M v)=true
 | [],_,_,_,f=>f
 |i::v,M,hv,hM,f=>QQ nc (v:=v) (λj hj=>hv j (R1 _ hj)) (Sq.mark _) (nc i (hv i P4) M hM f)
theorem RV (nc:LM n Ts): ∀ {v:G0 G6} {M:G0 (G0 P1)},(∀i∈v,i<Ts.length)->Sq n 1 M->jG (JH n Ts M v)=false->ť n Ts v.length M=true
 | [],M,_,_,f=>by
  show (!jG M)=true;rw [show jG M=false from f];rfl
 |i::v,M,hv,hM,f=>by
  have hv': ∀j∈v,j<Ts.length:=λj hj=>hv j (R1 _ hj)
  refine ZD (hv i P4) ?_ (RV nc hv' (Sq.mark _) f);cases z:jG M with
  |false=>rfl
  |true=>
   rw [QQ nc hv hM z] at f;cases f
def Bg (hT:Ä n Ts)(h:é n Ts r= [])(hw:UN Ts w)(hl:r+1<=w.length):jG (Ó n Ts w)=true:=by
 cases z:jG (Ó n Ts w) with
 |true=>rfl
 |false=>
  exfalso;cases w with
  |nil=>exact hw.1 rfl
  |cons a v=>
   have ha:=hw.2 a P4;have c:=RV (RU hT h) (v:=v) (M:=Ó n Ts [a]) (λi hi=>hw.2 i (R1 _ hi)) (yE _) z;have:Ó n Ts [a]∈é n Ts r:=(vI hT).mpr ⟨XB hT ⟨by simp,λj hj=>by rw [G8.mp hj];exact ha⟩,Sc (by show r<=v.length;exact Nat.le_of_succ_le_succ hl) c⟩;rw [h] at this;cases this
def AfF (n:G6)(Ts:G0 (G0 (G0 P1))):D4 G6->Prop
 |none=> ∀k,é n Ts k≠ []
 |some m=> ∃r,m=r+1/\é n Ts r= []/\ ∀i<r,é n Ts i≠ []
def RW {j:G6}(hj:j<=k): ∀ {M},M∈é n Ts k->M∈é n Ts j:=by
 induction k with
 |zero=>rw [pJ.mp hj];exact λh=>h
 |succ k ih=>
  rcases L5 j (k+1) with c|c
  ·exact λh=>ih (fT.mp c) (B0.mp h).1
  ·rw [fU hj c];exact λh=>h
theorem QR (h:(é n Ts r).filter (λM=> !η n Ts (é n Ts r) M)= []): ∀j,é n Ts (r+j)=é n Ts r
 |0=>rfl
 |j+1=>by
  show (é n Ts (r+j)).filter (η n Ts (é n Ts (r+j)))=_;rw [QR h j,eU];intro M hM;have:=nZ.mp h M hM;cases z:η n Ts (é n Ts r) M with
  |true=>rfl
  |false=>rw [z] at this;exact absurd rfl this
end
def Cc {α:Type}(Ps:G0 (G0 (G0 P1)))(T:G0 (G0 P1))(c:α):(zk (Ps.map λM=>(M,c)) T).isSome=decide (T∈Ps):=by
 induction Ps with
 |nil=>rfl
 |cons M Ps ih=>
  by_cases z:M=T
  ·subst z;rw [S1 (P4)];show (zk ((M,c)::_) M).isSome=true;unfold zk;rw [List.find?_cons_of_pos (by exact S1 rfl)];rfl
  ·have:(zk ((M::Ps).map λM=>(M,c)) T)=zk (Ps.map λM=>(M,c)) T:=by
    show ((((M,c)::_).find? _).map _)=_;rw [List.find?_cons_of_neg (by exact λy=>z (F9 y))];rfl
   rw [this,ih];exact decide_eq_decide.mpr ⟨λh=>R1 _ h,λh=>(R7.mp h).resolve_left λy=>z y.symm⟩
end L2
namespace L2
section
variable {α:Type}{E F:α->α->Prop}{K:α->Prop}{x y z:α}{n B M P:G6}{π:α->α}
def ä (E:α->α->Prop):G6->α->α->Prop
 |0,x,y=>x=y
 |n+1,x,y=> ∃z,E x z/\ä E n z y
def ä.add: ∀ {a b:G6} {x y z:α},ä E a x y->ä E b y z->ä E (a+b) x z
 |0,b,x,y,z,h,g=>by rw [E3,show x=y from h];exact g
 |a+1,b,x,y,z,⟨u,e,h⟩,g=>by rw [rM];exact⟨u,e,ä.add h g⟩
def ä.split: ∀ {a b:G6} {x z:α},ä E (a+b) x z-> ∃y,ä E a x y/\ä E b y z
 |0,b,x,z,h=>⟨x,rfl,by rw [E3] at h;exact h⟩
 |a+1,b,x,z,h=>by
  rw [rM] at h;obtain⟨u,e,h⟩:=h;obtain⟨y,p,q⟩:=ä.split h;exact⟨y,⟨u,e,p⟩,q⟩
def ä.imp (i: ∀a b,E a b->F a b): ∀ {n:G6} {x y:α},ä E n x y->ä F n x y
 |0,_,_,h=>h
 |_+1,_,_,⟨z,e,h⟩=>⟨z,i _ _ e,ä.imp i h⟩
theorem ä.fn: ∀ {n:G6} {x y:α},ä E n x y-> ∃f:G6->α,f 0=x/\f n=y/\ ∀i,i<n->E (f i) (f (i+1))
 |0,x,y,h=>⟨λ_=>x,rfl,h,λi hi=>absurd hi (U1 i)⟩
 |n+1,x,y,⟨z,e,h⟩=>by
  obtain⟨f,f0,fn,g⟩:=ä.fn h;refine⟨λi=>match i with|0=>x|i+1=>f i,rfl,fn,λi hi=> ?_⟩
  match i,hi with
  |0,_=>show E x (f 0);rw [f0];exact e
  |i+1,hi=>exact g i (by omega)
def ä.of_fn {f:G6->α}: ∀ {n s:G6},(∀i,s<=i->i<s+n->E (f i) (f (i+1)))->ä E n (f s) (f (s+n))
 |0,_,_=>rfl
 |n+1,s,h=>by
  have:=ä.of_fn (n:=n) (s:=s+1) λi a b=>h i (by omega) (by omega)
  rw [show s+1+n=s+(n+1) by omega] at this;exact⟨_,h s (P6 s) (by omega),this⟩
def ä.loop {c:G6}(h:ä E c x x): ∀r,ä E (c*r) x x
 |0=>rfl
 |r+1=>by rw [g7];exact(ä.loop h r).add h
abbrev EK (E:α->α->Prop)(K:α->Prop):α->α->Prop:=λa b=>E a b/\K a/\K b
structure ŷ (E:α->α->Prop)(K:α->Prop)(B:G6)(π:α->α):Prop where
 inv: ∀x,K x->K (π x)/\π (π x)=x
 com: ∀x y,K x->K y->E x y->E (π x) (π y)
 rep: ∀f:G6->α,(∀i,i<=B->K (f i))-> ∃i j,i<j/\j<=B/\(f j=f i\/f j=π (f i))
 pos:1<=B
def twi (π:α->α)(s:N4)(x:α):α:=if s=true then π x else x
noncomputable def tq (π:α->α)(s:N4)(q:G6)(x:α):α:=twi π (s&&decide (q%2=1)) x
def Sd (h:ä (EK E K) (n+1) x y):K y:=by
 obtain⟨u,h,z,e,r⟩:=ä.split (a:=n) (b:=1) h;rw [<-show z=y from r];exact e.2.2
def ŷ.tw (k:ŷ E K B π): ∀ {n:G6} {x y:α},ä (EK E K) n x y->ä (EK E K) n (π x) (π y)
 |0,_,_,h=>by rw [show _=_ from h];rfl
 |_+1,_,_,⟨z,e,h⟩=>⟨π z,⟨k.com _ _ e.2.1 e.2.2 e.1,(k.inv _ e.2.1).1,(k.inv _ e.2.2).1⟩,k.tw h⟩
def ŷ.turn (k:ŷ E K B π)(w:ä (EK E K) B x y): ∃i d z u,i+d<=B/\1<=d/\ä (EK E K) i x z/\ä (EK E K) d z u/\ä (EK E K) (B-(i+d)) u y/\K z/\(u=z\/u=π z):=by
 obtain⟨f,f0,fn,g⟩:=w.fn;have hp:=k.pos;have fK: ∀i,i<=B->K (f i):=λi hi=>by
  rcases L5 i B with c|c
  ·exact(g i c).2.1
  ·have e:i=B-1+1:=by omega
   rw [e];exact(g (B-1) (by omega)).2.2
 obtain⟨i,j,h1,h2,e⟩:=k.rep f fK;refine⟨i,j-i,f i,f j,by omega,by omega,?_,?_,?_,fK i (by omega),e⟩
 ·have:=ä.of_fn (f:=f) (n:=i) (s:=0) (E:=EK E K) λa _ b=>g a (by omega)
  rw [E3,f0] at this;exact this
 ·have:=ä.of_fn (f:=f) (n:=j-i) (s:=i) (E:=EK E K) λa _ b=>g a (by omega)
  rw [show i+(j-i)=j by omega] at this;exact this
 ·have:=ä.of_fn (f:=f) (n:=B-j) (s:=j) (E:=EK E K) λa _ b=>g a (by omega)
  rw [show j+(B-j)=B by omega,fn] at this;rw [show i+(j-i)=j by omega];exact this
def ŷ.block (k:ŷ E K B π)(w:ä (EK E K) B x y): ∃d s,1<=d/\d<=B/\ä (EK E K) (B-d) x (twi π s y):=by
 obtain⟨i,d,z,u,h1,h2,a,b,c,kz,e⟩:=k.turn w;have el:i+(B-(i+d))=B-d:=by omega
 rcases e with rfl|rfl
 ·exact⟨d,false,h2,by omega,el ▸ a.add c⟩
 ·have:=k.tw c;rw [(k.inv z kz).2] at this;exact⟨d,true,h2,by omega,el ▸ a.add this⟩
def Se (h:π (π y)=y)(s:N4)(q:G6):twi π s (tq π s q y)=tq π s (q+1) y:=by
 cases s with
 |false=>rfl
 |true=>
  unfold tq twi;rcases Nat.mod_two_eq_zero_or_one q with c|c
  ·rw [show (q+1)%2=1 by omega,c];rfl
  ·rw [show (q+1)%2=0 by omega,c];show π (π y)=y;exact h
def ŷ.twt (k:ŷ E K B π)(s:N4){n:G6}{x y:α}(h:ä (EK E K) n x y):ä (EK E K) n (twi π s x) (twi π s y):=by
 cases s with
 |false=>exact h
 |true=>exact k.tw h
def ŷ.seq (k:ŷ E K B π): ∀ (M:G6) {x y:α},ä (EK E K) (B*M) x y-> ∃ts:G0 (G6×N4),ts.length=M/\(∀t∈ts,1<=t.1/\t.1<=B)/\ ∀t q,q<=ts.count t->t.1*q<=B*M/\ä (EK E K) (B*M-t.1*q) x (tq π t.2 q y)
 |0,x,y,h=>⟨[],rfl,λ_ h=>(nomatch h),λt q hq=>by
  have:q=0:=by simpa using hq
  subst this;refine⟨by simp,?_⟩;have e:tq π t.2 0 y=y:=by unfold tq;simp [twi]
  rw [e];simpa using h⟩
 |M+1,x,y,h=>by
  rw [g7,nH] at h;obtain⟨z,a,b⟩:=h.split;have ky:K y:=by
   have hp:=k.pos;obtain⟨m,hm⟩: ∃m,B+B*M=m+1:=⟨B+B*M-1,by omega⟩;rw [hm] at h;exact Sd h
  obtain⟨ts,l,r,c⟩:=k.seq M b;obtain⟨d,s,d1,d2,sh⟩:=k.block a;refine⟨(d,s)::ts,by rw [R3,l],λt ht=> ?_,λt q hq=> ?_⟩
  ·rcases R7.mp ht with e|e
   ·rw [e];exact⟨d1,d2⟩
   ·exact r t e
  ·rw [g7];rcases L5 (ts.count t) q with g|g
   ·have e:(d,s)=t:=by
     rw [List.count_cons] at hq
     by_cases e:(d,s)=t
     ·exact e
     ·rw [S4 (by simpa using e)] at hq;omega
    subst e;rw [pM] at hq;obtain⟨q',rfl⟩: ∃q',q=q'+1:=⟨q-1,by omega⟩;obtain⟨i1,i2⟩:=c (d,s) q' (by omega);have w:=sh.add (k.twt s i2);rw [Se (k.inv y ky).2] at w;dsimp only at i1 w ⊢;rw [g7];refine⟨by omega,?_⟩;rw [show B-d+(B*M-d*q')=B*M+B-(d*q'+d) by omega] at w;exact w
   ·obtain⟨i1,i2⟩:=c t q g;refine⟨by omega,?_⟩;have w:=a.add i2;rw [show B+(B*M-t.1*q)=B*M+B-t.1*q by omega] at w;exact w
theorem QU {β:Type}[BEq β][LawfulBEq β](a:β)(ts:G0 β): ∀ {l:G0 β},a∈l->(l.map λt=>ts.count t).sum+1<=(l.map λt=>(a::ts).count t).sum
 |b::l,h=>by
  have mono: ∀l:G0 β,(l.map λt=>ts.count t).sum<=(l.map λt=>(a::ts).count t).sum:=λl=>by
   induction l with
   |nil=>exact P6 _
   |cons c l ih=>
    simp only [T6,mO];have:ts.count c<=(a::ts).count c:=mQ;omega
  simp only [T6,mO];rcases R7.mp h with e|e
  ·subst e;have:=mono l;rw [pM];omega
  ·have:=QU a ts e;have:ts.count b<=(a::ts).count b:=mQ;omega
theorem WW {β:Type}[BEq β][LawfulBEq β]{l:G0 β}: ∀ {ts:G0 β},(∀t∈ts,t∈l)->ts.length<=(l.map λt=>ts.count t).sum
 | [],_=>N9 _
 |a::ts,h=>by
  have:=WW (ts:=ts) λt ht=>h t (R1 _ ht)
  have:=QU a ts (h a P4);rw [R3];omega
noncomputable def QV (B:G6):G0 (G6×N4):=(P5 B).flatMap λd=> [(d+1,false),(d+1,true)]
noncomputable def Bh (B P:G6):G6:=((QV B).map λt=>P / t.1).sum+1
def RX {t:G6×N4}(h:1<=t.1/\t.1<=B):t∈QV B:=by
 obtain⟨d,s⟩:=t;obtain⟨h1,h2⟩:=h;refine dQ.mpr ⟨d-1,D1.mpr (by dsimp only at*;omega),?_⟩;dsimp only at h1;rw [show d-1+1=d by omega];cases s<;>simp
def RY {ts:G0 (G6×N4)}(h: ∀t∈ts,1<=t.1/\t.1<=B)(hM:Bh B P<=ts.length): ∃t,1<=t.1/\t.1<=B/\P / t.1<=ts.count t:=by
 refine H0 λz=> ?_
 have lt: ∀t∈QV B,ts.count t<=P / t.1:=λt ht=>by
  obtain⟨d,hd,e⟩:=dQ.mp ht;have hd:=D1.mp hd;have:t.1=d+1:=by
   simp only [R7,F5,or_false] at e;rcases e with e|e<;>rw [e]
  exact H0 λc=>z ⟨t,by omega,by omega,by omega⟩
 have a:=WW (l:=QV B) λt ht=>RX (h t ht)
 have b: ∀l:G0 (G6×N4),(∀t∈l,ts.count t<=P / t.1)->(l.map λt=>ts.count t).sum<=(l.map λt=>P / t.1).sum:=λl=>by
  induction l with
  |nil=>exact λ_=>P6 _
  |cons c l ih=>
   intro q;simp only [T6,mO];have:=q c P4;have:=ih λt ht=>q t (R1 _ ht)
   omega
 have:=b _ lt;unfold Bh at hM;omega
def ŷ.less (k:ŷ E K B π)(hP: ∀d,1<=d->d<=B->P%(2*d)=0)(hM:Bh B P<=M)(w:ä (EK E K) (B*M) x y):P<=B*M/\ä (EK E K) (B*M-P) x y:=by
 obtain⟨ts,l,r,c⟩:=k.seq M w;obtain⟨t,t1,t2,q⟩:=RY r (by rw [l];exact hM);have hp:=hP t.1 t1 t2;obtain⟨m,hm⟩:=gW hp;have e1:P / t.1=2*m:=by rw [hm,show 2*t.1*m=t.1*(2*m) by rw [V7 2,fM]];exact Nat.mul_div_cancel_left _ (by omega)
 obtain⟨i1,i2⟩:=c t (2*m) (by rw [<-e1];exact q);have e2:t.1*(2*m)=P:=by rw [hm,V7 2 t.1,fM]
 have e3:tq π t.2 (2*m) y=y:=by unfold tq;rw [show 2*m%2=0 by omega];cases t.2<;>rfl
 rw [e2] at i1 i2;rw [e3] at i2;exact⟨i1,i2⟩
def ŷ.more (k:ŷ E K B π)(hP: ∀d,1<=d->d<=B->P%(2*d)=0)(hM:1<=M)(w:ä (EK E K) (B*M) x y):ä (EK E K) (B*M+P) x y:=by
 obtain⟨m,rfl⟩: ∃m,M=m+1:=⟨M-1,by omega⟩;rw [g7,nH] at w;obtain⟨v,a,b⟩:=w.split;obtain⟨i,d,z,u,h1,h2,p,q,r,kz,e⟩:=k.turn a;obtain⟨j,hj⟩:=gW (hP d h2 (by omega));have lp:ä (EK E K) P z z:=by
  rcases e with rfl|rfl
  ·have:=q.loop (2*j);rw [show d*(2*j)=P by rw [hj,V7 2 d,fM]] at this;exact this
  ·have t:=k.tw q;rw [(k.inv z kz).2] at t;have:=(q.add t).loop j;rw [show (d+d)*j=P by rw [hj,G0c]] at this;exact this
 have all:=(((p.add lp).add q).add r).add b;rw [show i+P+d+(B-(i+d))+B*m=B*(m+1)+P by rw [g7];omega] at all;exact all
def Ņ {β:Type}[DecidableEq β]{key:α->β}{Nf Lf:α->G6}(hk: ∀x y,key x=key y->Nf x=Nf y/\Lf x=Lf y)(down: ∀x y,E x y->key y=key x\/Nf y+Lf x<=Nf x)(low: ∀x,Lf x<=Nf x): ∀ (n:G6) {x y:α},ä E n x y->Nf x<=n-> ∃a b u v,ä E a x u/\ä (EK E λz=>key z=key u) (Lf u) u v/\ä E b v y/\a+Lf u+b=n:=λn=>by
 induction n using G6.strongRecOn with
 |ind n ih=>
  intro x y w hn;obtain⟨f,f0,fn,g⟩:=w.fn;have ll:=low x
  by_cases al: ∀i,i<=Lf x->key (f i)=key x
  ·refine⟨0,n-Lf x,x,f (Lf x),rfl,?_,?_,by omega⟩
   ·have:=ä.of_fn (f:=f) (n:=Lf x) (s:=0) (E:=EK E λz=>key z=key x) λa _ b=>⟨g a (by omega),al a (by omega),al (a+1) (by omega)⟩
    rw [E3,f0] at this;exact this
   ·have:=ä.of_fn (f:=f) (n:=n-Lf x) (s:=Lf x) (E:=E) λa _ b=>g a (by omega)
    rw [show Lf x+(n-Lf x)=n by omega,fn] at this;exact this
  ·obtain⟨i,hi,ne,lo⟩: ∃i,i<=Lf x/\key (f i)≠key x/\ ∀j,j<i->key (f j)=key x:=by
    have X1x: ∀m,(∃i,i<=m/\key (f i)≠key x)-> ∃i,i<=m/\key (f i)≠key x/\ ∀j,j<i->key (f j)=key x:=λm=>by
     induction m with
     |zero=>
      rintro ⟨i,hi,h⟩;exact⟨i,hi,h,λj hj=>by omega⟩
     |succ m ih2=>
      rintro ⟨i,hi,h⟩
      by_cases c: ∃i,i<=m/\key (f i)≠key x
      ·obtain⟨j,a,b⟩:=ih2 c;exact⟨j,by omega,b⟩
      ·refine⟨i,hi,h,λj hj=> ?_⟩;exact H0 λz=>c ⟨j,by omega,z⟩
    refine X1x (Lf x) (H0 λz=>al λi hi=>H0 λc=>z ⟨i,hi,c⟩)
   have i1:1<=i:=by
    rcases lG i with c|c
    ·subst c;rw [f0] at ne;exact absurd rfl ne
    ·exact c
   have kp:=lo (i-1) (by omega);have st:=g (i-1) (by omega);rw [show i-1+1=i by omega] at st;have hd:=(down _ _ st).resolve_left λz=>ne (z.trans kp)
   obtain⟨n1,n2⟩:=hk _ _ kp;rw [n1,n2] at hd;have wi:=ä.of_fn (f:=f) (n:=i) (s:=0) (E:=E) λa _ b=>g a (by omega)
   have wr:=ä.of_fn (f:=f) (n:=n-i) (s:=i) (E:=E) λa _ b=>g a (by omega)
   rw [E3,f0] at wi;rw [show i+(n-i)=n by omega,fn] at wr;obtain⟨a,b,u,v,p,q,r,e⟩:=ih (n-i) (by omega) wr (by omega);exact⟨i+a,b,u,v,wi.add p,q,r,by omega⟩
end
noncomputable def ĥ:G0 (G6×G6×G6×G6×G6):= [1].map (·,1,110881,273,110881)++ [3,5,9,17,33,65,129].map (·,7,2123360,273,2012479)++ [11,13,35,49,69,81,131,133,137,145,161,193].map (·,12,6252380,273,4129020)++ [15].map (·,9,9075473,10,2823093)++ [51].map (·,9,9075473,68,2823093)++ [85].map (·,9,9075473,160,2823093)++ [139,141,163,177,197,209].map (·,6,9075473,273,1629942)++ [153].map (·,9,9075473,196,2823093)++ [165].map (·,9,9075473,42,2823093)++ [169].map (·,9,9075473,161,2823093)++ [195].map (·,9,9075473,14,2823093)++ [201].map (·,9,9075473,84,2823093)++ [225].map (·,9,9075473,46,2823093)++ [143,171,173,179,185,203,205,213,217,227,229,233,241].map (·,6,10705415,273,1629942)++ [175,187,207,221,243,245].map (·,6,12335357,273,1629942)++ [255].map (·,6,13965299,273,1629942)
noncomputable def yr (x:G6):G6×G6×G6×G6×G6:=(ĥ.find? λe=>K2 e.1 (spK x)).getD (0,1,0,273,0)
noncomputable def sgm (a c:G6):G6:=(if c%2=1 then a%8 else 0) ||| (if c / 2%2=1 then a / 8%8 else 0) ||| (if c / 4%2=1 then a / 64 else 0)
noncomputable def ğ (a x:G6):G6:=sgm a (x%8)+8*sgm a (x / 8%8)+64*sgm a (x / 64)
noncomputable def stp (x t:G6):G6:=(Ă x).getD (t%8) 0+8*(Ă x).getD (t / 8%8) 0+64*(Ă x).getD (t / 64) 0
def Sf:((P5 512).all λm=>ĥ.any λe=>K2 e.1 (spK m))=true:=by decide +kernel
def Sg:(ĥ.all λe=>ĥ.all λf=> !K2 (f.1 ||| e.1) e.1||K2 f.1 e.1||dR (f.2.2.1+e.2.2.2.2) e.2.2.1)=true:=by decide +kernel
def LP:(ĥ.all λe=>dR 1 e.2.1&&dR e.2.1 12&&dR e.2.2.2.2 e.2.2.1&&K2 e.2.2.2.2 (e.2.1*Bh e.2.1 55440)&&dR e.2.2.1 13965299&&dR 1 (Bh e.2.1 55440))=true:=by decide +kernel
def Sh:(ĥ.all λe=>(P5 8).all λc=>Nat.blt (sgm e.2.2.2.1 c) 8&&(P5 8).all λd=>K2 (sgm e.2.2.2.1 (c ||| d)) (sgm e.2.2.2.1 c ||| sgm e.2.2.2.1 d))=true:=by decide +kernel
def LQ:(ĥ.all λe=>K2 (sgm e.2.2.2.1 0) 0)=true:=by decide +kernel
def Si:((P5 512).all λx=>K2 (spK (ğ (yr x).2.2.2.1 x)) (spK x)&&K2 (ğ (yr x).2.2.2.1 (ğ (yr x).2.2.2.1 x)) x)=true:=by decide +kernel
def Sj:(ĥ.all λe=>dR ((P5 512).filter λx=>K2 (spK x) e.1&&dR x (ğ e.2.2.2.1 x)).length e.2.1)=true:=by decide +kernel
def Sk: ∀d,1<=d->d<=12->55440%(2*d)=0:=λd h1 h2=>(by decide +kernel: ∀d,d<13->1<=d->55440%(2*d)=0) d (by omega) h1
variable {x:G6}
def JV (hx:x<512):yr x∈ĥ/\(yr x).1=spK x:=by
 have h:=S8.mp Sf x (D1.mpr hx);obtain⟨e,he,eb⟩:=U5.mp h;unfold yr;cases z:ĥ.find? λe=>K2 e.1 (spK x) with
 |none=>exact absurd eb (by simpa using Z6.mp z e he)
 |some f=>exact⟨U7 z,O9 (cT (p:=λe:G6×G6×G6×G6×G6=>K2 e.1 (spK x)) z)⟩
def RZ {y:G6}(h:spK x=spK y):yr x=yr y:=by unfold yr;rw [h]
structure X1y (e:G6×G6×G6×G6×G6):Prop where
 b1:1<=e.2.1
 b12:e.2.1<=12
 ln:e.2.2.2.2<=e.2.2.1
 lm:e.2.2.2.2=e.2.1*Bh e.2.1 55440
 nm:e.2.2.1<=13965299
 m1:1<=Bh e.2.1 55440
def Bi {e:G6×G6×G6×G6×G6}(h:e∈ĥ):X1y e:=by
 have:=S8.mp LP e h;simp only [F4] at this;obtain⟨⟨⟨⟨⟨a,b⟩,c⟩,d⟩,f⟩,g⟩:=this;exact⟨O0 a,O0 b,O0 c,O9 d,O0 f,O0 g⟩
structure X0K (a:G6):Prop where
 lt: ∀c,c<8->sgm a c<8
 or_: ∀c d,c<8->d<8->sgm a (c ||| d)=sgm a c ||| sgm a d
 zero:sgm a 0=0
def HB {e:G6×G6×G6×G6×G6}(h:e∈ĥ):X0K e.2.2.2.1:=by
 have q:=λc (hc:c<8)=>by
  have:=S8.mp (S8.mp Sh e h) c (D1.mpr hc);rw [F4] at this;exact this
 exact⟨λc hc=>by have:=(q c hc).1;exact O0 this,λc d hc hd=>O9 (S8.mp (q c hc).2 d (D1.mpr hd)),O9 (S8.mp LQ e h)⟩
variable {a:G6}
def or8 {b:G6}(ha:a<8)(hb:b<8):a ||| b<8:=Nat.or_lt_two_pow (n:=3) ha hb
def Sl {b c:G6}(ha:a<8)(hb:b<8)(hc:c<8):a+8*b+64*c<512/\(a+8*b+64*c)%8=a/\(a+8*b+64*c) / 8%8=b/\(a+8*b+64*c) / 64=c:=by omega
def Sm (hx:x<512): ∀c∈Ă x,c<8:=λc hc=>by
 have a:x%8<8:=by omega
 have b:x / 8%8<8:=by omega
 have d:x / 64<8:=by omega
 simp only [Ă,R7,F5,or_false] at hc;rcases hc with e|e|e|e|e|e|e|e<;>subst e
 ·decide
 ·exact a
 ·exact b
 ·exact or8 a b
 ·exact d
 ·exact or8 a d
 ·exact or8 b d
 ·exact or8 (or8 a b) d
def XC (hx:x<512)(m:G6):(Ă x).getD m 0<8:=by
 rw [D2];cases e:(Ă x)[m]? with
 |none=>decide
 |some c=>exact Sm hx c (P8 e)
def Uv (hx:x<512)(t:G6):stp x t<512/\stp x t%8=(Ă x).getD (t%8) 0/\stp x t / 8%8=(Ă x).getD (t / 8%8) 0/\stp x t / 64=(Ă x).getD (t / 64) 0:=Sl (XC hx _) (XC hx _) (XC hx _)
def XD (S:X0K a)(hx:x<512):ğ a x<512/\Ă (ğ a x)=(Ă x).map (sgm a):=by
 have h1:x%8<8:=by omega
 have h2:x / 8%8<8:=by omega
 have h3:x / 64<8:=by omega
 obtain⟨p,q,r,s⟩:=Sl (S.lt _ h1) (S.lt _ h2) (S.lt _ h3);refine⟨p,?_⟩;unfold Ă ğ;rw [q,r,s];simp only [T6,cK];rw [S.zero,S.or_ _ _ h1 h2,S.or_ _ _ h1 h3,S.or_ _ _ h2 h3,S.or_ _ _ (or8 h1 h2) h3,S.or_ _ _ h1 h2]
def LU (S:X0K a)(hx:x<512)(t:G6):ğ a (stp x t)=stp (ğ a x) t:=by
 obtain⟨_,p,q,r⟩:=Uv hx t;obtain⟨_,e⟩:=XD S hx;have g: ∀m,sgm a ((Ă x).getD m 0)=(Ă (ğ a x)).getD m 0:=λm=>by
  rw [e,D2,D2,P9];cases (Ă x)[m]? with
  |none=>exact S.zero
  |some c=>rfl
 unfold ğ;rw [p,q,r,g,g,g];rfl
def EY (G:G0 G6)(x y:Fin 512):Prop:= ∃t∈G,y.val=stp x.val t
noncomputable def piY (a:G6)(x:Fin 512):Fin 512:=if h:ğ a x.val<512 then ⟨ğ a x.val,h⟩ else x
def WX (S:X0K a)(x:Fin 512):(piY a x).val=ğ a x.val:=by unfold piY;rw [pR (XD S x.isLt).1]
def Sn (G:G0 G6)(u:Fin 512):ŷ (EY G) (λz=>spK z.val=spK u.val) (yr u.val).2.1 (piY (yr u.val).2.2.2.1):=by
 obtain⟨hm,hk⟩:=JV u.isLt;have S:=HB hm;have N:=Bi hm;have iv: ∀x:Fin 512,spK x.val=spK u.val->spK (ğ (yr u.val).2.2.2.1 x.val)=spK u.val/\ğ (yr u.val).2.2.2.1 (ğ (yr u.val).2.2.2.1 x.val)=x.val:=λx hx=>by
  have:=S8.mp Si x.val (D1.mpr x.isLt);rw [RZ hx,F4] at this;exact⟨(O9 this.1).trans hx,O9 this.2⟩
 refine⟨λx hx=>⟨by show spK (piY _ x).val=_;rw [WX S];exact(iv x hx).1,Fin.ext (by rw [WX S,WX S];exact(iv x hx).2)⟩,λx y _ _ ⟨t,ht,e⟩=>⟨t,ht,by rw [WX S,WX S,e];exact LU S x.isLt t⟩,λf hf=> ?_,N.b1⟩;refine H0 λz=> ?_
 have no: ∀i j,i<j->j<=(yr u.val).2.1->f j≠f i/\f j≠piY (yr u.val).2.2.2.1 (f i):=λi j a b=>⟨λc=>z ⟨i,j,a,b,.inl c⟩,λc=>z ⟨i,j,a,b,.inr c⟩⟩
 let r:G6->G6:=λi=>min (f i).val (ğ (yr u.val).2.2.2.1 (f i).val)
 have nd:((P5 ((yr u.val).2.1+1)).map r).Nodup:=RR r _ λi j a b e=>by
  obtain⟨n1,n2⟩:=no i j a (by omega);have i1:=(iv (f i) (hf i (by omega))).2;have j1:=(iv (f j) (hf j (by omega))).2;have m1:(f j).val≠(f i).val:=λc=>n1 (Fin.ext c)
  have m2:(f j).val≠ğ (yr u.val).2.2.2.1 (f i).val:=λc=>n2 (Fin.ext (by rw [WX S];exact c))
  have m3:ğ (yr u.val).2.2.2.1 (f j).val≠(f i).val:=λc=>m2 (by rw [<-c,j1])
  have m4:ğ (yr u.val).2.2.2.1 (f j).val≠ğ (yr u.val).2.2.2.1 (f i).val:=λc=>m1 (by rw [<-j1,c,i1])
  have e:min (f i).val (ğ (yr u.val).2.2.2.1 (f i).val)=min (f j).val (ğ (yr u.val).2.2.2.1 (f j).val):=e;omega
 have sub:=wb nd (m:=(P5 512).filter λx=>K2 (spK x) (yr u.val).1&&dR x (ğ (yr u.val).2.2.2.1 x)) λx hx=>by
  obtain⟨i,hi,rfl⟩:=R6.mp hx;have hi:=D1.mp hi;have k:=hf i (by omega);obtain⟨k2,i1⟩:=iv (f i) k;have l1:=(XD S (f i).isLt).1;have li:=(f i).isLt;show min _ _∈_;rw [B0,D1,F4];rcases nX (f i).val (ğ (yr u.val).2.2.2.1 (f i).val) with c|c
  ·rw [U0 c];exact⟨li,by rw [k,hk];exact g6 _,oN c⟩
  ·rw [mW c];exact⟨l1,by rw [k2,hk];exact g6 _,oN (by rw [i1];exact c)⟩
 have:=O0 (S8.mp Sj _ hm);rw [G3,R0] at sub;omega
def So {G:G0 G6}{x y:Fin 512}(h:EY G x y):spK y.val=spK x.val\/(yr y.val).2.2.1+(yr x.val).2.2.2.2<=(yr x.val).2.2.1:=by
 obtain⟨t,_,e⟩:=h;obtain⟨hm,hk⟩:=JV x.isLt;obtain⟨ų,hk'⟩:=JV y.isLt;have le:leC y.val x.val:=by
  obtain⟨_,p,q,r⟩:=Uv x.isLt t;have g: ∀m,(Ă x.val).getD m 0∈Ă x.val:=λm=>by
   rw [D2];cases z:(Ă x.val)[m]? with
   |none=>exact P4
   |some c=>exact P8 z
  unfold leC;rw [e,p,q,r];exact⟨g _,g _,g _⟩
 have o:=leK x.isLt le;have:=S8.mp (S8.mp Sg _ hm) _ ų;rw [hk,hk',o,Y3,Y3] at this;rcases this with (a|a)|a
 ·rw [g6] at a;cases a
 ·exact .inl (O9 a)
 ·exact .inr (O0 a)
def Cd {G:G0 G6}{n P:G6}{x y:Fin 512}(eP:P=55440)(w:ä (EY G) n x y)(hn:13965299<=n):ä (EY G) (n+P) x y/\P<=n/\ä (EY G) (n-P) x y:=by
 obtain⟨a,b,u,v,p,q,r,e⟩:=Ņ (key:=λz:Fin 512=>spK z.val) (Nf:=λz=>(yr z.val).2.2.1) (Lf:=λz=>(yr z.val).2.2.2.2) (λx y h=>by rw [RZ h];exact⟨rfl,rfl⟩) (λx y h=>So h) (λx=>(Bi (JV x.isLt).1).ln) n w (R8 (Bi (JV x.isLt).1).nm hn);have N:=Bi (JV u.isLt).1;have hP: ∀d,1<=d->d<=(yr u.val).2.1->P%(2*d)=0:=λd h1 h2=>by rw [eP];exact Sk d h1 (R8 h2 N.b12)
 have lm:=N.lm;have m1:=N.m1;rw [<-eP] at lm m1;rw [lm] at q e;have mo:=(Sn G u).more hP m1 q;obtain⟨l1,l2⟩:=(Sn G u).less hP (P6 _) q;have c1:=(p.add (mo.imp λ_ _ h=>h.1)).add r;have c2:=(p.add (l2.imp λ_ _ h=>h.1)).add r;rw [show a+((yr u.val).2.1*Bh (yr u.val).2.1 P+P)+b=n+P by omega] at c1;rw [show a+((yr u.val).2.1*Bh (yr u.val).2.1 P-P)+b=n-P by omega] at c2;exact⟨c1,by omega,c2⟩
end L2
namespace L2
open PySem PySem.Spec PyProof.Rows
variable {n e:G6}{M:G0 (G0 P1)}
def LV (h:Sq n e M){i j:G6}(o:n<=i\/n<=j):Ð M i j=0:=by
 unfold Ð;rw [D2,D2]
 by_cases c:i<n
 ·have hj:n<=j:=o.resolve_left (by omega);rw [G1 (show i<M.length by rw [h.len];exact c)];rw [cB,L0 (by rw [h.row _ (N0 _)];exact hj)];rfl
 ·rw [L0 (show M.length<=i by rw [h.len];omega)];rfl
def Zk (h:Sq n e M){i j:G6}(o:n<=i\/n<=j):eB M i j=false:=by unfold eB;rw [LV h o];rfl
def Ma {T:G0 (G0 P1)}(hM:Sq n 1 M)(hT:Sq n e T)(n3:n<=3)(i j:G6):eB (ç n T M) i j=((eB M i 0&&eB T 0 j)||(eB M i 1&&eB T 1 j)||(eB M i 2&&eB T 2 j)):=by
 have sm:Sq n 1 (ç n T M):=Sq.mark _
 by_cases o:n<=i\/n<=j
 ·rw [Zk sm o];rcases o with o|o
  ·rw [Zk hM (.inl o),Zk hM (.inl o),Zk hM (.inl o)];rfl
  ·rw [Zk hT (.inr o),Zk hT (.inr o),Zk hT (.inr o)];simp
 ·have hi:i<n:=by omega
  have hj:j<n:=by omega
  rw [aM,Y3,Y3,F4,F4,F4];have one:eB (ç n T M) i j=true↔ ∃k,k<n/\eB M i k=true/\eB T k j=true:=by
   unfold eB;rw [qP];refine⟨λq=> ?_,λ⟨k,hk,a,b⟩ q=> ?_⟩
   ·obtain⟨k,hk,a,b⟩:=(zH hM hT hi hj).mp λz=>q ((Jb hi hj).mpr z)
    exact⟨k,hk,S1 a,S1 b⟩
   ·exact(zH hM hT hi hj).mpr ⟨k,hk,F9 a,F9 b⟩ ((Jb hi hj).mp q)
  rw [one];refine⟨λ⟨k,hk,a,b⟩=> ?_,λq=> ?_⟩
  ·rcases (show k=0\/k=1\/k=2 by omega) with z|z|z<;>subst z
   ·exact .inl (.inl ⟨a,b⟩)
   ·exact .inl (.inr ⟨a,b⟩)
   ·exact .inr ⟨a,b⟩
  ·have lt: ∀k,eB M i k=true->k<n:=λk a=>by
    rcases L5 k n with c|c
    ·exact c
    ·rw [Zk hM (.inr c)] at a;cases a
   rcases q with (⟨a,b⟩|⟨a,b⟩)|⟨a,b⟩
   ·exact⟨_,lt _ a,a,b⟩
   ·exact⟨_,lt _ a,a,b⟩
   ·exact⟨_,lt _ a,a,b⟩
def XE {T:G0 (G0 P1)}(hM:Sq n 1 M)(hT:Sq n e T)(n3:n<=3)(j:G6):Γ (ç n T M) j=(Ă (Œ M)).getD (Γ T j) 0:=by
 obtain⟨_,a,b,c⟩:=zg M;unfold Ă;rw [a,b,c];unfold Γ;rw [Ma hM hT n3,Ma hM hT n3,Ma hM hT n3,Ut,Ut,Ut,Ut];generalize eB T 0 j=t0;generalize eB T 1 j=t1;generalize eB T 2 j=t2;cases t0<;>cases t1<;>cases t2<;>simp only [iM,a8,mI,xT]<;>rfl
def Mb {T:G0 (G0 P1)}(hM:Sq n 1 M)(hT:Sq n e T)(n3:n<=3):Œ (ç n T M)=stp (Œ M) (Œ T):=by
 obtain⟨_,a,b,c⟩:=zg T;unfold stp;rw [a,b,c,<-XE hM hT n3,<-XE hM hT n3,<-XE hM hT n3];rfl
def LW {N:G0 (G0 P1)}(hM:Sq n 1 M)(hN:Sq n 1 N)(n3:n<=3)(e:Œ M=Œ N):M=N:=by
 obtain⟨_,a,b,c⟩:=zg M;obtain⟨_,a',b',c'⟩:=zg N;rw [e] at a b c;have e0:=WV _ _ _ _ _ _ (a.symm.trans a');have e1:=WV _ _ _ _ _ _ (b.symm.trans b');have e2:=WV _ _ _ _ _ _ (c.symm.trans c');refine hM.ext hN λi j hi hj=> ?_
 have z:eB M i j=eB N i j:=by
  rcases (show i=0\/i=1\/i=2 by omega) with x|x|x<;>rcases (show j=0\/j=1\/j=2 by omega) with y|y|y<;>subst x<;>subst y
  ·exact e0.1
  ·exact e1.1
  ·exact e2.1
  ·exact e0.2.1
  ·exact e1.2.1
  ·exact e2.2.1
  ·exact e0.2.2
  ·exact e1.2.2
  ·exact e2.2.2
 have z:=decide_eq_decide.mp z;have p:=hM.ent_nn hi hj;have q:=hN.ent_nn hi hj;omega
section
variable {n k:G6}{Ts:G0 (G0 (G0 P1))}{M N:G0 (G0 P1)}
def đ (n:G6)(Ts:G0 (G0 (G0 P1)))(k:G6)(M:G0 (G0 P1)):Prop:= ∃w,UN Ts w/\w.length=k+1/\M=Ó n Ts w
def đ.sq (h:đ n Ts k M):Sq n 1 M:=by obtain⟨w,_,_,rfl⟩:=h;exact yE w
def WY (h:đ n Ts k M){a:G6}(ha:a<Ts.length):đ n Ts (k+1) (ç n (Ts.getD a []) M):=by
 obtain⟨w,hw,l,rfl⟩:=h;exact⟨w++ [a],QN hw ha,by rw [P3,l];rfl,(wX hw.1 a).symm⟩
def Jo (h:đ n Ts (k+1) M): ∃N a,đ n Ts k N/\a<Ts.length/\M=ç n (Ts.getD a []) N:=by
 obtain⟨w,hw,l,rfl⟩:=h;obtain⟨u,a,rfl⟩: ∃u a,w=u++ [a]:=⟨w.dropLast,w.getLast hw.1,(cS hw.1).symm⟩;rw [P3] at l;have lu:u.length=k+1:=Nat.succ.inj l;have u0:u≠ []:=λz=>by rw [z] at lu;cases lu
 exact⟨Ó n Ts u,a,⟨u,⟨u0,λi hi=>hw.2 i (N2 _ hi)⟩,lu,rfl⟩,hw.2 a (D0 _ P4),wX u0 a⟩
def ĵ:đ n Ts 0 M↔ ∃a<Ts.length,M=yA n (Ts.getD a []):=by
 refine⟨λ⟨w,hw,l,e⟩=> ?_,λ⟨a,ha,e⟩=>⟨[a],⟨by simp,λi hi=>by rw [G8.mp hi];exact ha⟩,rfl,e⟩⟩;obtain⟨a,rfl⟩:=g4.mp l;exact⟨a,hw.2 a P4,e⟩
theorem YU (hT:Ä n Ts): ∀k,∃M,đ n Ts k M
 |0=>⟨_,ĵ.mpr ⟨0,hT.l1,rfl⟩⟩
 |k+1=>let ⟨M,h⟩:=YU hT k;⟨_,WY h hT.l1⟩
noncomputable def cdF (M:G0 (G0 P1)):Fin 512:=⟨Œ M,(zg M).1⟩
noncomputable def cdG (Ts:G0 (G0 (G0 P1))):G0 G6:=(P5 Ts.length).map λa=>Œ (Ts.getD a [])
theorem Mc (hT:Ä n Ts): ∀ {k j:G6} {M:G0 (G0 P1)} {y:Fin 512},đ n Ts j M->ä (EY (cdG Ts)) k (cdF M) y-> ∃N,đ n Ts (j+k) N/\cdF N=y
 |0,j,M,y,h,w=>⟨M,h,w⟩
 |k+1,j,M,y,h,⟨z,⟨t,ht,e⟩,w⟩=>by
  obtain⟨a,ha,rfl⟩:=R6.mp ht;have ha:=D1.mp ha;have ez:z=cdF (ç n (Ts.getD a []) M):=Fin.ext (by rw [e];exact(Mb h.sq (hT.get ha) hT.n3).symm);subst ez;obtain⟨N,p,q⟩:=Mc hT (WY h ha) w;exact⟨N,by rw [show j+(k+1)=j+1+k by omega];exact p,q⟩
theorem XF (hT:Ä n Ts): ∀ {k:G6} {M:G0 (G0 P1)},đ n Ts k M-> ∃N,đ n Ts 0 N/\ä (EY (cdG Ts)) k (cdF N) (cdF M)
 |0,M,h=>⟨M,h,rfl⟩
 |k+1,M,h=>by
  obtain⟨N,a,hN,ha,rfl⟩:=Jo h;obtain⟨O,hO,w⟩:=XF hT hN;exact⟨O,hO,w.add (b:=1) ⟨_,⟨_,R6.mpr ⟨a,D1.mpr ha,rfl⟩,Mb hN.sq (hT.get ha) hT.n3⟩,rfl⟩⟩
def Md (hT:Ä n Ts){P:G6}(eP:P=55440)(hk:13965299<=k):đ n Ts k M↔đ n Ts (k+P) M:=by
 have back: ∀ {j:G6} {O:G0 (G0 P1)} {y:G0 (G0 P1)},đ n Ts 0 O->Sq n 1 y->ä (EY (cdG Ts)) j (cdF O) (cdF y)->đ n Ts j y:=λ{j O y} hO sy w=>by
  obtain⟨N,hN,e⟩:=Mc hT hO w;rw [E3] at hN;rw [<-LW hN.sq sy hT.n3 (congrArg Fin.val e)];exact hN
 refine⟨λh=> ?_,λh=> ?_⟩
 ·obtain⟨O,hO,w⟩:=XF hT h;exact back hO h.sq (Cd eP w hk).1
 ·obtain⟨O,hO,w⟩:=XF hT h;have:=(Cd eP w (R8 hk (W0 _ _))).2.2;rw [lI] at this;exact back hO h.sq this
def QX (n:G6)(Ts:G0 (G0 (G0 P1)))(k:G6):Prop:= ∀M,đ n Ts k M->jG M=true
def LX (hT:Ä n Ts)(h:QX n Ts k):QX n Ts (k+1):=λM hM=>by
 obtain⟨N,a,hN,ha,rfl⟩:=Jo hM;cases z:jG (ç n (Ts.getD a []) N) with
 |true=>rfl
 |false=>
  exfalso;have no: ∀O,Sq n 1 O->jG (ç n (Ts.getD a []) O)=false:=λO hO=>QP hN.sq (hT.get ha) hO (h N hN) z
  cases k with
  |zero=>
   have:=h _ (ĵ.mpr ⟨a,ha,rfl⟩);have q:=no _ (Sq.one n);rw [<-RT hT ha] at q;rw [show Ó n Ts [a]=yA n (Ts.getD a []) from rfl,this] at q;cases q
  |succ k=>
   obtain⟨O,hO⟩:=YU hT k;have:=h _ (WY hO ha);rw [no O hO.sq] at this;cases this
def LY (hT:Ä n Ts){j:G6}(h:QX n Ts k)(hj:k<=j):QX n Ts j:=by
 induction j with
 |zero=>rw [pJ.mp hj] at h;exact h
 |succ j ih=>
  rcases L5 k (j+1) with c|c
  ·exact LX hT (ih (fT.mp c))
  ·rw [fU hj c] at h;exact h
theorem QY: ∀ {r:G6} {M:G0 (G0 P1)},ť n Ts r M=true-> ∃v:G0 G6,v.length=r/\(∀i∈v,i<Ts.length)/\jG (JH n Ts M v)=false
 |0,M,h=>⟨[],rfl,λ_ z=>(nomatch z),by
  have h:(!jG M)=true:=h;show jG M=false;cases z:jG M with
  |false=>rfl
  |true=>rw [z] at h;cases h⟩
 |r+1,M,h=>by
  obtain⟨i,hi,x⟩:=YS h;obtain⟨v,l,lt,f⟩:=QY x;exact⟨i::v,by rw [R3,l],λj hj=>(R7.mp hj).elim (λz=>by rw [z];exact hi) (lt j),f⟩
def XG (hT:Ä n Ts){r:G6}:é n Ts r= []↔QX n Ts r:=by
 refine⟨λh M hM=> ?_,λh=> ?_⟩
 ·obtain⟨w,hw,l,rfl⟩:=hM;exact Bg hT h hw (J0 l.symm)
 ·refine H0 λz=> ?_
  obtain⟨M,hM⟩:=lU _ z;obtain⟨a,b⟩:=(vI hT).mp hM;obtain⟨w,hw,rfl⟩:=YQ hT a;obtain⟨v,l,lt,f⟩:=QY b;have hl:1<=w.length:=eO.mpr hw.1;have:=LY hT (j:=w.length+v.length-1) h (by omega) (Ó n Ts (w++v)) ⟨w++v,⟨by simp [hw.1],λi hi=>(D8.mp hi).elim (hw.2 i) (lt i)⟩,by rw [P3];omega,rfl⟩;rw [XA hw.1] at this;rw [this] at f;cases f
def LZ (hT:Ä n Ts){i:G6}(h:QX n Ts i)(lo: ∀j,j<i-> ¬QX n Ts j):AfF n Ts (some (i+1)):=⟨i,rfl,(XG hT).mpr h,λj hj e=>lo j hj ((XG hT).mp e)⟩
theorem YV {i j:G6}(h: ∀M,đ n Ts j M↔đ n Ts i M): ∀m M,đ n Ts (j+m) M↔đ n Ts (i+m) M
 |0,M=>h M
 |m+1,M=>⟨λx=>by
  obtain⟨N,a,hN,ha,rfl⟩:=Jo (k:=j+m) x;exact WY ((YV h m N).mp hN) ha,λx=>by
  obtain⟨N,a,hN,ha,rfl⟩:=Jo (k:=i+m) x;exact WY ((YV h m N).mpr hN) ha⟩
def HE (hT:Ä n Ts){i j:G6}(hj:j<i)(h: ∀M,đ n Ts j M↔đ n Ts i M)(lo: ∀l,l<i-> ¬QX n Ts l):AfF n Ts none:=λk e=>by
 have key: ∀k,¬QX n Ts k:=λk=>by
  induction k using G6.strongRecOn with
  |ind k ih=>
   intro a;rcases L5 k i with c|c
   ·exact lo k c a
   ·have:=YV h (k-i);rw [show i+(k-i)=k by omega] at this;exact ih (j+(k-i)) (by omega) λM hM=>a M ((this M).mp hM)
 exact key k ((XG hT).mp e)
end
end L2
namespace L2
open PySem PySem.Spec PyProof.Rows PySem.SeqAt
def GK {α:Type}[DecidableEq α]{e:α->D}{p:α->V8}(E:Enc e p)(a b:G0 α):K9 (a.map p) (b.map p)=decide (a=b):=by
 induction a generalizing b with
 |nil=>
  cases b with
  |nil=>rfl
  |cons y b=>exact(T3 (sQ y b).symm).symm
 |cons x a ih=>
  cases b with
  |nil=>exact(T3 (sQ x a)).symm
  |cons y b=>
   refine(show K9 ((x::a).map p) ((y::b).map p)=(K5 (p x) (p y)&&K9 (a.map p) (b.map p)) from rfl).trans ?_;rw [E.eq,ih b,<-iV];exact decide_eq_decide.mpr ⟨λh=>by rw [h.1,h.2],λh=>List.cons.inj h⟩
abbrev Tbs:=G0 (G0 (G0 P1))
noncomputable def hsP (hs:Tbs):V8:= .list (hs.map Dl)
def Ce (a b:Tbs):K5 (hsP a) (hsP b)=decide (a=b):=GK Ŏ a b
def Cf (a:Tbs):(hsP a).canLay0=true:=by unfold hsP;simp only [A5];exact Ŏ.lays a
def HF (a:Tbs):(hsP a).depth<=60:=by
 have:=JJ a;unfold hsP;simp only [U4];omega
def Δ (h:HD):G0 P2->G0 Tbs->Prop
 | [],[]=>True
 |a::as,s::ss=>h a=some (s.map jp)/\Δ h as ss
 |_,_=>False
variable {h:HD}
def Δ.tops: ∀ {as:G0 P2} {ss:G0 Tbs},Δ h as ss->ġ h (as.map D.lst) (ss.map hsP)
 | [],[],_=>rfl
 |a::as,s::ss,⟨k,t⟩=>⟨_,_,rfl,⟨a,_,rfl,k,Ŏ.tos h s⟩,t.tops⟩
 | [],_::_,t=>t.elim
 |_::_,[],t=>t.elim
def Δ.mono {h':HD}: ∀ {as:G0 P2} {ss:G0 Tbs},Δ h as ss->(∀a s,s∈ss->h a=some (s.map jp)->h' a=some (s.map jp))->Δ h' as ss
 | [],[],_,_=>trivial
 |a::as,s::ss,⟨k,t⟩,m=>⟨m a s P4 k,t.mono λb u hu=>m b u (R1 _ hu)⟩
 | [],_::_,t,_=>t.elim
 |_::_,[],t,_=>t.elim
def Δ.snoc {b:P2}{u:Tbs}(kb:h b=some (u.map jp)): ∀ {as:G0 P2} {ss:G0 Tbs},Δ h as ss->Δ h (as++ [b]) (ss++ [u])
 | [],[],_=>⟨kb,trivial⟩
 |a::as,s::ss,⟨k,t⟩=>⟨k,t.snoc kb⟩
 | [],_::_,t=>t.elim
 |_::_,[],t=>t.elim
def Δ.len: ∀ {as:G0 P2} {ss:G0 Tbs},Δ h as ss->as.length=ss.length
 | [],[],_=>rfl
 |a::as,s::ss,⟨_,t⟩=>congrArg IY t.len
 | [],_::_,t=>t.elim
 |_::_,[],t=>t.elim
def HG {X S:P2}{hs:Tbs}{as:G0 P2}{ss:G0 Tbs}(kX:h X=some (hs.map jp))(kS:h S=some (as.map D.lst))(T:Δ h as ss){Q:KD}(q: ∀b:N4,(b=true↔hs∈ss)->Q (.bl (true !=b)) h):inE true (.lst X) (.lst S) h Q:=by
 refine⟨hsP hs,ss.map hsP,⟨X,_,rfl,kX,Ŏ.tos h hs⟩,.inl ⟨S,_,rfl,kS,T.tops⟩,Cf hs,?_,HF hs,q _ ?_⟩
 ·clear T q
  induction ss with
  |nil=>rfl
  |cons s ss ih=>show (A5 (hsP s)&&_)=true;rw [ih,Cf];rfl
 ·rw [nK,U5];constructor
  ·rintro ⟨y,hy,z⟩;have:y=hs:=by simpa [J3,Ce] using z
   rw [<-this];exact hy
  ·exact λhi=>⟨hs,hi,by simp [J3,Ce]⟩
def Me {X S:P2}{hs:Tbs}{as:G0 P2}(ne:hs≠ [])(kX:h X=some (hs.map jp))(kS:h S=some (as.map D.lst)):X≠S:=λe=>by
 subst e;rw [kX] at kS;injection kS with kS
 match hs,as,ne,kS with
 | [],_,ne,_=>exact ne rfl
 |_::_,[],_,kS=>cases kS
 |T::_,a::_,_,kS=>injection kS with z _;cases z
def HH {n:G6}(n3:n<=3):(Uk (Uk [(0:P1),1] n) n).length<1000/\ ∀M,Sq n 1 M->M∈Uk (Uk [(0:P1),1] n) n:=by
 refine⟨?_,λM s=> ?_⟩
 ·rw [wW,wW];rcases (show n=0\/n=1\/n=2\/n=3 by omega) with e|e|e|e<;>subst e<;>decide
 ·have z:=wV (xs:=Uk [(0:P1),1] n) (r:=M) λr hr=>by
   have z:=wV (xs:= [(0:P1),1]) (r:=r) λx hx=>by
    have a:=s.nn r hr x hx;have b:x<2:=s.bit r hr x hx;rcases (show x=0\/x=1 by omega) with e|e<;>subst e<;>simp
   rw [s.row r hr] at z;exact z
  rw [s.len] at z;exact z
def Oa {b:D->SD->SD->Prop}{js:G0 G6}{ti:TID}{tt:TTD}{te:TED}{k:G6}{E:EndsD}{σ:SD}(x:vY b js ti tt te σ h λv h1=> ∃ (a:P2) (Ts B:Tbs),[v]= [.lst a]/\h1 a=some (Ts.map jp)/\B.length<1000/\(∀T∈Ts,T∈B/\T≠ [])/\ ∀ (p:P2) (ks:Tbs),h1 p=none->ks.Pairwise (λx y=>zt x y=true)->(∀k,k∈ks↔k∈Ts)->E.nx (σ.set k (some (.lst p))) (zK h1 p (ks.map jp))):PB k (KC (zA (vY b js ti tt te) WF)) E σ h:=x
section
variable {n:G6}{Ts:Tbs}
def Đ (n:G6)(Ts:Tbs)(k:G6)(hs:Tbs):Prop:=hs.Pairwise (λx y=>zt x y=true)/\ ∀M,M∈hs↔đ n Ts k M
def Cg (x y:G0 (G0 P1))(h:zt x y=true): ¬zt y x=true:=λz=>by rw [DP h] at z;cases z
variable {hs:Tbs}
def Đ.few {k:G6}(o:Đ n Ts k hs)(n3:n<=3):hs.length<=512:=
 ER n3 (o.1.imp λ{x y} l e=>by subst e;exact Cg x x l l) λM hM=>((o.2 M).mp hM).sq
def Đ.some {k:G6}(o:Đ n Ts k hs)(hT:Ä n Ts):hs≠ []:=λe=>by
 obtain⟨M,hM⟩:=YU hT k;have:=(o.2 M).mpr hM;rw [e] at this;cases this
def Đ.one {k j:G6}{us:Tbs}(o:Đ n Ts k hs)(u:Đ n Ts j us)(e: ∀M,đ n Ts k M↔đ n Ts j M):hs=us:=
 BW Cg o.1 u.1 λM=>(o.2 M).trans ((e M).trans (u.2 M).symm)
def Seen (n:G6)(Ts:Tbs)(i:G6)(ss:G0 Tbs):Prop:=ss.length=i/\ ∀j s,ss[j]? =some s->Đ n Ts j s
variable {i:G6}
def Seen.snoc {ss:G0 Tbs}(s:Seen n Ts i ss)(o:Đ n Ts i hs):Seen n Ts (i+1) (ss++ [hs]):=by
 refine⟨by rw [P3,s.1];rfl,λj u hu=> ?_⟩
 by_cases z:j<ss.length
 ·rw [C5 z] at hu;exact s.2 j u hu
 ·rw [B1 (by omega)] at hu;have:j-ss.length=0:=by
   have:=(P7.mp hu).1;simp only [R3,O1] at this;omega
  rw [this] at hu;cases hu;rw [show j=i by have:=s.1;omega];exact o
def HI {ss:G0 Tbs}(hT:Ä n Ts)(s:Seen n Ts i ss)(o:Đ n Ts i hs)(m:hs∈ss)(lo: ∀l,l<i-> ¬QX n Ts l):AfF n Ts none:=by
 obtain⟨j,hj⟩:=iB.mp m;have jl:=(P7.mp hj).1;have u:=s.2 j hs hj;exact HE hT (by have:=s.1;omega) (λM=>(u.2 M).symm.trans (o.2 M)) lo
def Ob {P:G6}{ss:G0 Tbs}(hT:Ä n Ts)(s:Seen n Ts i ss)(o:Đ n Ts i hs)(eP:P=55440)(hi:13965299+P<=i):hs∈ss:=by
 obtain⟨u,hu⟩: ∃u,ss[i-P]? =some u:=⟨_,G1 (by have:=s.1;omega)⟩;have x:=s.2 _ u hu;have y: ∀M,đ n Ts (i-P) M↔đ n Ts (i-P+P) M:=λM=>Md hT eP (by omega)
 have:hs=u:=o.one x λM=>by
  have:=y M;rw [show i-P+P=i by omega] at this;exact this.symm
 rw [this];exact P8 hu
def Ch (o:Đ n Ts i hs):(hs.all λM=>jG M)=true↔QX n Ts i:=by
 rw [S8];exact⟨λh M hM=>h M ((o.2 M).mpr hM),λh M hM=>h M ((o.2 M).mp hM)⟩
end
end L2
namespace My
open PySem L2
noncomputable def Ċ (i:G6):Q2:=PySem.Challenge.pw_firstpowers_k70_why_noughts_last.main.body.getD i (.Pass ⟨0,0,0,0⟩)
noncomputable abbrev JX:Q2:=Ċ 8
def XH:Ã ["thing"] ["thing"] (je JX):=ď
noncomputable abbrev wA:Q2:=Ċ 9
def yH:Ã ["thing","size","number"] ["thing","size"] (je wA):=ď
noncomputable abbrev zN:Q2:=Ċ 10
def wM:Ã ["thing","row"] ["thing"] (je zN):=ď
noncomputable abbrev yI:Q2:=Ċ 11
def YW:Ã ["thing"] ["thing"] (je yI):=ď
noncomputable abbrev wY:Q2:=Ċ 12
def vq:Ã ["thing","at","each"] ["thing"] (je wY):=ď
noncomputable abbrev yJ:Q2:=Ċ 14
def zu:Ã ["one","other","size","row","place","by"] ["one","other"] (je yJ):=ď
noncomputable abbrev Mf:Q2:=Ċ 16
def Mv:Ã ["table","row","number"] ["table"] (je Mf):=ď
noncomputable abbrev XI:Q2:=Ċ 17
def YX:Ã ["table","row","number"] ["table"] (je XI):=ď
noncomputable abbrev wZ:Q2:=Ċ 19
def Wr:Ã ["ahead","table"] ["ahead","table"] (je wZ):=ď
noncomputable abbrev zO:Q2:=Ċ 21
def jA:Ã ["tables","ways","nexts","fresh","later","way","each","at","table","behind"] ["tables"] (je zO):=ď
noncomputable abbrev We:Q2:=Ċ 22
def JY:Ã ["nexts","left","each","behind"] ["nexts","left"] (je We):=ď
noncomputable abbrev zd:Q2:=Ċ 23
def jw:Ã ["nexts","left","rounds","ends","each"] ["nexts"] (je zd):=ď
noncomputable abbrev wB:Q2:=Ċ 25
def jQ:Ã ["nexts","left","gone","way","now","at","behind"] ["nexts","left"] (je wB):=ď
noncomputable abbrev ya:Q2:=Ċ 26
def zE:Ã ["tables","ways","nexts","rounds","left","start","again"] ["tables"] (je ya):=ď
noncomputable abbrev vJ:Q2:=Ċ 28
def Uw:Ã ["_law_script","_law_k"] ["_law_script","_law_k"] (je vJ):=ď
noncomputable abbrev JZ:Q2:=Ċ 29
def Wf:Ã ["_law_cell_here","_law_left"] ["_law_cell_here"] (je JZ):=ď
noncomputable abbrev vK:Q2:=Ċ 30
def wo:Ã ["_law_pen_here","_law_many_here","_law_left","_law_found","_law_stir"] ["_law_pen_here","_law_many_here"] (je vK):=ď
noncomputable abbrev yK:Q2:=Ċ 31
def YY:Ã ["_law_thing"] ["_law_thing"] (je yK):=ď
noncomputable abbrev yL:Q2:=Ċ 32
def jE:Ã ["_law_pen_here","_law_size","_law_way","_law_often","_law_most","_law_rows","_law_one","_law_row","_law_other","_law_goes"] ["_law_pen_here","_law_size"] (je yL):=ď
noncomputable abbrev yM:Q2:=Ċ 33
def yb:Ã ["_law_pen_here","_law_many_here","_law_found","_law_what"] ["_law_pen_here","_law_many_here"] (je yM):=ď
noncomputable abbrev yN:Q2:=Ċ 34
def zc:Ã ["_law_one","_law_other","_law_size","_law_rows","_law_row","_law_place","_law_k"] ["_law_one","_law_other"] (je yN):=ď
noncomputable abbrev yc:Q2:=Ċ 35
def wC:Ã ["_law_table_here","_law_row","_law_number"] ["_law_table_here"] (je yc):=ď
noncomputable abbrev ye:Q2:=Ċ 36
def vk:Ã ["_law_table_here","_law_row"] ["_law_table_here"] (je ye):=ď
noncomputable abbrev zB:Q2:=Ċ 37
def jB:Ã ["_law_pen_here","_law_size","_law_order_here","_law_often","_law_rows","_law_at","_law_here","_law_there","_law_one","_law_other","_law_row"] ["_law_pen_here","_law_size"] (je zB):=ď
noncomputable abbrev vL:Q2:=Ċ 38
def jK:Ã ["_law_pen_here","_law_size","_law_many_here","_law_found","_law_turn","_law_table_here","_law_way","_law_place","_law_row"] ["_law_pen_here"] (je vL):=ď
noncomputable abbrev Za:Q2:=Ċ 39
def vM:Ã ["_law_here","_law_tables","_law_way","_law_at"] ["_law_here","_law_tables","_law_way"] (je Za):=ď
noncomputable abbrev we:Q2:=Ċ 40
def jy:Ã ["_law_tables","_law_here","_law_seen","_law_later","_law_one","_law_table_here"] ["_law_tables"] (je we):=ď
noncomputable abbrev zP:Q2:=Ċ 41
def wN:Ã ["_law_tables","_law_thing","_law_least","_law_at"] ["_law_tables","_law_thing","_law_least"] (je zP):=ď
noncomputable abbrev yO:Q2:=Ċ 42
def jP:Ã ["_law_tables","_law_thing","_law_size","_law_here","_law_seen","_law_one","_law_other"] ["_law_tables","_law_thing"] (je yO):=ď
noncomputable abbrev yP:Q2:=Ċ 43
def zU:Ã ["_law_tables","_law_due","_law_turn","_law_found"] ["_law_tables"] (je yP):=ď
noncomputable abbrev GL:Q2:=Ċ 44
def WZ:Ã ["_law_script","_law_some","_law_cell_here","_law_pen_here","_law_tables"] ["_law_script"] (je GL):=ď
section
variable {P:T7}{w:C1}{K:G7}{mg:Str->D4 G2}{base:A7}
/-- no def is asked of Ũ script's list: a X0o -/
noncomputable def Ci:D->N4
 | .int _=>true
 |_=>false
/-- a row of so many numbers from 0 on -/
noncomputable def SO:D->N4
 | .int i=>decide (0<=i)
 |_=>false
noncomputable def Cj (d:D)(k:P1):N4:=match d with
 | .tup ds=>decide ((ds.length:P1)=k)&&ds.all SO
 |_=>false
/-! every part has a kind X1g is told,and no tuple is long -/
mutual
def okD:D->N4
 | .scr _=>false| .exc _=>false| .fn _=>false| .dct _=>false| .exf _ _=>false
 | .tup ds=>decide (ds.length<=1000)&&Ŧ ds
 |_=>true
def Ŧ:G0 D->N4
 | []=>true
 |d::ds=>okD d&&Ŧ ds
end
theorem QZ: ∀ {ds:G0 D},Ŧ ds=true-> ∀d∈ds,okD d=true
 |d::ds,h,x,hx=>by
  have h':(okD d&&Ŧ ds)=true:=h;rw [F4] at h';rcases R7.mp hx with e|e
  ·subst e;exact h'.1
  ·exact QZ h'.2 x e
theorem Mg: ∀ {ds:G0 D},(∀d∈ds,okD d=true)->Ŧ ds=true
 | [],_=>rfl
 |d::ds,h=>by
  show (okD d&&Ŧ ds)=true;rw [h d P4,Mg λx hx=>h x (R1 _ hx)];rfl
def Mh {ds:G0 D}(h:okD (.tup ds)=true):ds.length<=1000/\ ∀d∈ds,okD d=true:=by
 have h':(decide (ds.length<=1000)&&Ŧ ds)=true:=h;rw [F4] at h';exact⟨F9 h'.1,QZ h'.2⟩
def Ck {ds:G0 D}(h:ds.length<=1000)(h2: ∀d∈ds,okD d=true):okD (.tup ds)=true:=by
 show (decide (ds.length<=1000)&&Ŧ ds)=true;rw [S1 h,Mg h2];rfl
def YZ {d:D}(h:okD d=true): ∃n,VF d=some n:=by
 cases d<;>first|exact⟨_,rfl⟩|cases h
/-- a table -/
noncomputable def Os:D->N4
 | .tup rs=>decide (1<=rs.length)&&decide (rs.length<=6)&&rs.all λr=>Cj r rs.length
 |_=>false
def yf:RDn:=λds h Q=> ∃d n,ds= [d]/\VF d=some n/\Q (.bl (Ci d)) h
variable {n:G6}{f:P2}{fd:C6}
def XJ (Z:Zs mg)(F:ô K "is_whole" "is_whole" JX f fd):Ò P w K mg base í (n+1) f fd ["thing"] (õ K yf):=by
 refine F.okM XH (λhr=>(ze (wF (FE (Yp (T:= "int") (by decide) rfl Z.isinstance rfl Z.int (by decide +kernel) (jv 0)) (Ng (Ko (Yp (T:= "bool") (by decide) rfl Z.isinstance rfl Z.bool (by decide +kernel) (jv 0)))))))) ?_;rintro ds h Q ⟨d,nm,rfl,hn,q⟩;refine⟨rfl,?_⟩;simp only [MV,Px,dIs,MT,wH,T6,cK,R3,O1,Y9,E2,W1,bS,D.bl.injEq,Py,Mz,cU,hn];cases d<;>cases hn<;>exact⟨h,Sub.refl h,q⟩
def yQ:RDn:=λds h Q=> ∃d k,ds= [d,.int k]/\okD d=true/\Q (.bl (Cj d k)) h
def Wg (Z:Zs mg)(F:ô K "is_table_row" "is_table_row" wA f fd)(GP:jC P w K mg base n "is_whole" ["thing"] yf):Ò P w K mg base í (n+1) f fd ["thing","size"] (õ K yQ):=by
 refine F.okM yH (λhr=>(ζ (WR (jpt (Dc (wI (yq (Yp (T:= "tuple") (by decide) rfl Z.isinstance rfl Z.tuple (by decide +kernel) (jv 0)))) (Nd (ŵ ņ (Xt Z (jv 0)) (jv 1))))) (wF Ν)) (wF (wj (WG rfl) rfl Z.all Y8 (j1 (Ĥ 2 yH (za (jv 0)) (λ_ _ _ _=>(FE (jk GP hr (j1 (jv 2))) (Ng (Ŵ Fv (jv 2) jD)))))))))) ?_;rintro ds h Q ⟨d,k,rfl,ok,q⟩;refine⟨rfl,?_⟩;obtain⟨nm,hn⟩:=YZ ok;simp only [vh,MW,An,Gh,vV,dIs,MT,wH,T6,cK,R3,O1,B3,Y9,E2,W1,bS,D.bl.injEq,MV,dC,Mz,UT,Ĩ,zA,WF,œ,On,cF,neD,cU,hn];cases d with
 |tup es=>
  cases hn;obtain⟨hl,ht⟩:=Mh ok;simp only [AT]
  by_cases hk:(es.length:P1)=k
  ·simp only [hk];simp;refine PP (ds:=es) (h1:=h) (j:=λ_=>some es) (λx=> .bl (SO x)) (T8 (zb hl)) rfl (λR r=>⟨.tup es,rfl,r⟩) (λd hd Q' q'=> ?_) (λp hp=> ?_)
   ·obtain⟨nn,hnn⟩:=YZ (ht d hd);refine⟨d,rfl,d,nn,rfl,hnn,Ci d,rfl,?_⟩;cases d with
    |int i=>exact XW ⟨.int i,rfl,q'⟩
    |_=>exact vt q'
   ·refine⟨p,es.map SO,rfl,by rw [jc];simp,h,?_,?_⟩
    ·rw [zZ hp];exact Sub.refl h
    ·simpa [Cj,hk,cL,gO] using q
  ·simp [hk];exact⟨h,Sub.refl h,by simpa [Cj,hk] using q⟩
 |_=>cases hn<;>exact⟨h,Sub.refl h,q⟩
def zC:RDn:=λds h Q=> ∃d,ds= [d]/\okD d=true/\Q (.bl (Os d)) h
def Zb (Z:Zs mg)(F:ô K "has_table_form" "has_table_form" zN f fd)(Wx:jC P w K mg base n "is_table_row" ["thing","size"] yQ)(vN: ∃tk,mg "MOST_ROWS" =some (.int 6 tk)):Ò P w K mg base í (n+1) f fd ["thing"] (õ K zC):=by
 obtain⟨tk_MOST_ROWS,ŧ⟩:=vN;refine F.okM wM (λhr=>(ζ (WR (jpt (Dc (wI (yq (Yp (T:= "tuple") (by decide) rfl Z.isinstance rfl Z.tuple (by decide +kernel) (jv 0)))) (Nd (wI (UX UU UU jD (Xt Z (jv 0)) (FD rfl ŧ)))))) (wF Ν)) (wF (wj (WG rfl) rfl Z.all Y8 (j1 (Ĥ 1 wM (za (jv 0)) (λ_ _ _ _=>(jk Wx hr (j2 (jv 1) (Xt Z (jv 0))))))))))) ?_;rintro ds h Q ⟨d,rfl,ok,q⟩;refine⟨rfl,?_⟩;obtain⟨nm,hn⟩:=YZ ok;simp only [vh,MW,An,Gh,vV,dIs,MT,wH,T6,cK,R3,O1,B3,Y9,E2,W1,bS,D.bl.injEq,MV,dC,Mz,UT,Ĩ,zA,WF,ZL,On,Bz,cU,hn];cases d with
 |tup es=>
  cases hn;obtain⟨hl,ht⟩:=Mh ok;simp only [AT]
  by_cases h1:1<=es.length
  ·by_cases h6:es.length<=6
   ·have h1':(1:P1)<=es.length:=by omega
    have h6':(es.length:P1)<=6:=by omega
    simp [h1',h6'];refine PP (ds:=es) (h1:=h) (j:=λ_=>some es) (λx=> .bl (Cj x es.length)) (T8 (zb hl)) rfl (λR r=>⟨.tup es,rfl,r⟩) (λd hd Q' q'=> ?_) (λp hp=> ?_)
    ·exact⟨d,rfl,.tup es,rfl,d,es.length,rfl,ht d hd,q'⟩
    ·refine⟨p,es.map λx=>Cj x es.length,rfl,by rw [jc];simp,h,?_,?_⟩
     ·rw [zZ hp];exact Sub.refl h
     ·simpa [Os,h1,h6,cL,gO] using q
   ·have h1':(1:P1)<=es.length:=by omega
    have h6': ¬ (es.length:P1)<=6:=by omega
    simp [h1',h6'];exact⟨h,Sub.refl h,by simpa [Os,h1,h6] using q⟩
  ·have h1': ¬ (1:P1)<=es.length:=by omega
   simp [h1'];exact⟨h,Sub.refl h,by simpa [Os,h1] using q⟩
 |_=>cases hn<;>exact⟨h,Sub.refl h,q⟩
def Oc {x:P1}(h:0<=x):SO (.int x)=true:=S1 h
variable {T:G0 (G0 P1)}
def Od {e:G6}(h:Sq n e T){r:G0 P1}(hr:r∈T):Cj (wx r) n=true:=by
 simp only [Cj,wx,G3,h.row r hr,G0g,xU,cL,S8,J3];intro x hx;exact Oc (h.nn r hr x hx)
def Mi {e:G6}(h:Sq n e T)(h1:1<=n)(h6:n<=6):Os (jp T)=true:=by
 simp only [Os,jp,G3,h.len,S1 h1,S1 h6,xU,cL,S8,J3];intro r hr;exact Od h hr
def Cl {e:G6}(h:Sq n e T)(h6:n<=6):okD (jp T)=true:=
 Ck (by rw [G3,h.len];omega) λd hd=>by
  obtain⟨r,hr,rfl⟩:=R6.mp hd;exact Ck (by rw [G3,h.row r hr];omega) λd hd=>by obtain⟨x,_,rfl⟩:=R6.mp hd;rfl
def yg:RDn:=λds h Q=> ∃T,∃n e:G6,ds= [jp T]/\Sq n e T/\1<=n/\n<=6/\Q .non h
def Va (Z:Zs mg)(F:ô K "want_table" "want_table" yI f fd)(zQ:jC P w K mg base n "has_table_form" ["thing"] zC):Ò P w K mg base í (n+1) f fd ["thing"] (õ K yg):=by
 refine F.okM YW (λhr=>(ze (WR (wI (yq (jk zQ hr (j1 (jv 0))))) Dh))) ?_;rintro ds h Q ⟨T,k,b,rfl,hT,h1,h6,q⟩;refine⟨rfl,?_⟩;refine⟨_,rfl,jp T,rfl,Cl hT h6,_,rfl,?_⟩;rw [Mi hT h1 h6];exact vt ⟨h,Sub.refl h,q⟩
def vn:RDn:=λds h Q=> ∃A Ts,∃n:G6,ds= [.lst A]/\h A=some (Ts.map jp)/\Ä n Ts/\Q .non h
def Ws (Z:Zs mg)(F:ô K "want_tables" "want_tables" wY f fd)(zQ:jC P w K mg base n "has_table_form" ["thing"] zC)(yj: ∃tk,mg "MOST_TABLES" =some (.int 3 tk))(jZ: ∃tk,mg "MOST_ROWS_OF_SEVERAL" =some (.int 3 tk)):Ò P w K mg base í (n+1) f fd ["thing"] (õ K vn):=by
 obtain⟨tk_MOST_TABLES,Ń⟩:=yj;obtain⟨tk_MOST_ROWS_OF_SEVERAL,ü⟩:=jZ;refine F.okM vq (λhr=>(ζ (WR (jpt (Dc (wI (yq (Yp (T:= "list") (by decide) rfl Z.isinstance rfl Z.list (by decide +kernel) (jv 0)))) (Nd (wI (UX UU UU jD (Xt Z (jv 0)) (FD rfl Ń)))))) Dh) (Gn L8 rfl (ZA rfl Z.enumerate (j1 (jv 0))) (WI (i:=1) (j:=2) rfl vq.nd rfl rfl (Q7 rfl) (Q7 rfl)) (ze (WR (jpt (Dc (wI (yq (jk zQ hr (j1 (jv 2))))) (Dc (ŵ Fu (Xt Z (jv 2)) (FD rfl ü)) (Nd (ŵ ņ (Xt Z (jv 2)) (Xt Z (ÿ (jv 0) jD))))))) Dh))))) ?_;rintro ds h Q ⟨A,Ts,n,rfl,kA,hT,q⟩;refine⟨rfl,?_⟩;have hlen:(((Ts.map jp).length:G6):P1)=(Ts.length:P1):=by rw [G3]
 have l1:=hT.l1;have l3:=hT.l3;refine wm [some (.lst A),none,none] (λC hC=> ?_) ?_
 ·refine⟨_,rfl,"list",rfl,_,rfl,vt ⟨_,rfl,_,kA,_,rfl,?_⟩⟩;rw [hlen];have e1:decide ((1:P1)<=(Ts.length:P1))=true:=S1 (by omega);have e2:decide ((Ts.length:P1)<=3)=true:=S1 (by omega);show if decide ((1:P1)<=(Ts.length:P1))=true then _ else _
  rw [e1];refine XW ⟨_,rfl,?_⟩;show if (!decide ((Ts.length:P1)<=3))=true then _ else _
  rw [e2];exact vt (hC)
 refine yY (h1:=h) (j:=λh=>(h A).map Yu) (Yu (Ts.map jp)) (λi Â h'=> ∃a b,Â= [some (.lst A),a,b]/\h=h') (λR r=>⟨_,rfl,A,rfl,r⟩) (λi Â h' ⟨_,_,_,e⟩=>by rw [<-e];show (h A).map Yu=_;rw [kA];rfl) ⟨none,none,rfl,rfl⟩ (λÂ h' ⟨_,_,_,e⟩=>⟨h,e ▸ Sub.refl h,q⟩) ?_;rintro i d _ _ hd ⟨a,b,rfl,rfl⟩;obtain⟨x,hx,rfl⟩:=Yv hd;have ō:i+1<=(Yu (Ts.map jp)).length:=(P7.mp hd).1;obtain⟨T,hTm,rfl⟩:=R6.mp (P8 hx);have sT:=hT.sq T hTm;have s0:=hT.get (i:=0) (by omega);have n1:=hT.n1;have n3:=hT.n3;have e0:=Xc hT (i:=0) (by omega);refine⟨_,_,rfl,_,rfl,jp T,rfl,Cl sT (by omega),?_⟩;rw [Mi sT n1 (by omega)];refine⟨_,rfl,vt ⟨_,rfl,_,rfl,?_⟩⟩;have g1:decide ((((T.map wx).length:G6):P1)>3)=false:=T3 (by rw [G3,sT.len];omega);show if decide ((((T.map wx).length:G6):P1)>3)=true then _ else _
 rw [g1];refine vt ⟨_,rfl,_,rfl,_,_,kA,e0,_,rfl,?_⟩;have g2:(!decide ((((T.map wx).length:G6):P1)=((((Ts.getD 0 []).map wx).length:G6):P1)))=false:=by rw [G3,G3,sT.len,s0.len];simp
 show if (!decide ((((T.map wx).length:G6):P1)=((((Ts.getD 0 []).map wx).length:G6):P1)))=true then _ else _
 rw [g2];exact vt ⟨_,Sub.refl _,ō,_,_,rfl,rfl⟩
def Jp:RDn:=λds h Q=> ∃T U,∃n e f:G6,ds= [jp T,jp U]/\Sq n e T/\Sq n f U/\e+f<=1000000/\n<=6/\Q (jp (JD n T U)) h
def Vb (Z:Zs mg)(F:ô K "multiplied" "multiplied" yJ f fd):Ò P w K mg base í (n+1) f fd ["one","other"] (õ K Jp):=by
 refine F.okM zu (λhr=>(ζ (ë 2 zu (Xt Z (jv 0))) (wF (jI jW rfl Z.tuple (by decide +kernel) (j1 (Ĥ 3 zu (za (jv 0)) (λ_ _ _ _=>(jI jW rfl Z.tuple (by decide +kernel) (j1 (Ĥ 4 zu (Ŷ Z (jv 2)) (λ_ _ _ _=>(wj (Da rfl) rfl Z.sum (by decide +kernel) (j1 (Ĥ 5 zu (Ŷ Z (jv 2)) (λ_ _ _ _=>(þ Dk (ÿ (jv 3) (jv 5)) (ÿ (ÿ (jv 1) (jv 5)) (jv 4)))))))))))))))))) ?_;rintro ds h Q ⟨T,U,k,b,f,rfl,hT,hU,hb,h6,q⟩;refine⟨rfl,?_⟩;refine jg (λÂ h'=>Â= [some (jp T),some (jp U),some (.int (k:P1)),none,none,none]/\h=h') (λC hC=>⟨_,rfl,hC _ _ ⟨by rw [G3,hT.len];rfl,rfl⟩⟩) ?_;rintro _ _ ⟨rfl,rfl⟩;refine GU T wx (λr=> .tup ((P5 k).map λj=> .int (jX k λm=>r.getD m 0*Ð U m j))) (by rw [hT.len];omega) rfl (λR r=>⟨_,rfl,r⟩) (λr hr Q' q'=> ?_) ⟨h,Sub.refl h,?_⟩
 ·refine GU (P5 k) (λj=> .int (j:P1)) (λj=> .int (jX k λm=>r.getD m 0*Ð U m j)) (by rw [R0];omega) rfl (λR rr=>⟨_,rfl,(k:P1),rfl,by omega,by omega,rr⟩) (λj hj Q'' ŗ=> ?_) q';refine Kr (P5 k) (λm=> .int (m:P1)) (λm=>r.getD m 0*Ð U m j) (by rw [R0];omega) rfl (λR rr=>⟨_,rfl,(k:P1),rfl,by omega,by omega,rr⟩) (λm hm Q3 q3=> ?_) ŗ;have ų:=D1.mp hm;have hj':=D1.mp hj;refine⟨_,rfl,_,rfl,_,ZQ (hT.row r hr) ų,_,rfl,_,rfl,_,Dm hU ų,_,rfl,_,ZQ (hU.row _ (Sq.getRow hU ų)) hj',?_,q3⟩;refine Qh (e:=b) (f:=f) ?_ (hU.ent_nn ų hj') (by omega);have hm2:m<r.length:=by rw [hT.row r hr];exact ų
  have e1:r.getD m 0=r[m]:=by rw [D2,G1 hm2];rfl
  rw [e1];exact⟨hT.nn r hr _ (N0 hm2),hT.bit r hr _ (N0 hm2)⟩
 ·rw [Qi hT];exact q
def Mj:RDn:=λds h Q=> ∃T,∃n e:G6,ds= [jp T]/\Sq n e T/\1<=n/\n<=6/\Q (.bl (jG T)) h
def Oe (Z:Zs mg)(F:ô K "full" "full" Mf f fd)(yU:jC P w K mg base n "want_table" ["thing"] yg):Ò P w K mg base í (n+1) f fd ["table"] (õ K Mj):=by
 refine F.okM Mv (λhr=>(ζ (JB (jk yU hr (j1 (jv 0)))) (wF (wj (WG rfl) rfl Z.all Y8 (j1 (kM (i:=1) (i':=2) (js:= [1,2]) rfl (zo (by rfl)) (za (jv 0)) (by decide) (by decide) (by decide) Mv.nd rfl rfl (by first|exact Q7 rfl|exact aT rfl) (by first|exact Q7 rfl|exact aT rfl) (λX' hX=>JC) (λX' hX=>by obtain⟨C,s₀,H₀,ex,rfl⟩:=hX;exact(za (jv 1))) (λX' hX=>JC) (λX' hX=>by obtain⟨C,s₀,H₀,ex,rfl⟩:=hX;exact(Ŵ ņ (jv 2) jD)))))))) ?_;rintro ds h Q ⟨T,k,b,rfl,hT,h1,h6,q⟩;refine⟨rfl,?_⟩;refine wm [some (jp T),none,none] (λC hC=>⟨_,rfl,T,k,b,rfl,hT,h1,h6,hC⟩) ?_;refine kT T wx (λr=>r) D.int (λ_ x=>decide (x≠0)) (Nk hT h6) rfl (λR r=>⟨_,rfl,r⟩) (λr hr R rr=>⟨_,rfl,rr⟩) (λr hr x hx Q' q'=>⟨_,rfl,?_⟩) ⟨h,Sub.refl h,q⟩;show Q' (.bl (!decide (x=0))) h;have e:(!decide (x=0))=decide (x≠0):=by simp
 rw [e];exact q'
def Vc:RDn:=λds h Q=> ∃T,∃n e:G6,ds= [jp T]/\Sq n e T/\1<=n/\n<=6/\Q (jp (yA n T)) h
def Bj (Z:Zs mg)(F:ô K "marks" "marks" XI f fd)(yU:jC P w K mg base n "want_table" ["thing"] yg):Ò P w K mg base í (n+1) f fd ["table"] (õ K Vc):=by
 refine F.okM YX (λhr=>(ζ (JB (jk yU hr (j1 (jv 0)))) (wF (jI jW rfl Z.tuple (by decide +kernel) (j1 (Ĥ 1 YX (za (jv 0)) (λ_ _ _ _=>(jI jW rfl Z.tuple (by decide +kernel) (j1 (Ĥ 2 YX (za (jv 1)) (λ_ _ _ _=>(jif (ŵ ņ (jv 2) jD) jD jD)))))))))))) ?_;rintro ds h Q ⟨T,k,b,rfl,hT,h1,h6,q⟩;refine⟨rfl,?_⟩;refine wm [some (jp T),none,none] (λC hC=>⟨_,rfl,T,k,b,rfl,hT,h1,h6,hC⟩) ?_;refine GU T wx (λr=> .tup (r.map λx=> .int (if x≠0 then 1 else 0))) (by rw [hT.len];omega) rfl (λR r=>⟨_,rfl,r⟩) (λr hr Q' q'=> ?_) ⟨h,Sub.refl h,?_⟩
 ·refine GU r D.int (λx=> .int (if x≠0 then 1 else 0)) (by rw [hT.row r hr];omega) rfl (λR r=>⟨_,rfl,r⟩) (λx hx Q'' ŗ=>⟨_,rfl,_,rfl,?_⟩) q'
  by_cases z:x=0
  ·subst z;exact vt ŗ
  ·have e:(!decide (x=0))=true:=by simp [z]
   rw [e];rw [R9 z] at ŗ;exact XW ŗ
 ·rw [Do,<-Dp hT];exact q
def vo:RDn:=λds h Q=> ∃M T,∃n e:G6,ds= [jp M,jp T]/\Sq n 1 M/\Sq n e T/\1<=n/\n<=6/\e<=1000/\Q (jp (ç n T M)) h
def Wt (Z:Zs mg)(F:ô K "marks_after" "marks_after" wZ f fd)(XR:jC P w K mg base n "marks" ["table"] Vc)(UF:jC P w K mg base n "multiplied" ["one","other"] Jp):Ò P w K mg base í (n+1) f fd ["ahead","table"] (õ K vo):=by
 refine F.okM Wr (λhr=>(ze (wF (jk XR hr (j1 (jk UF hr (j2 (jv 0) (jv 1)))))))) ?_;rintro ds h Q ⟨M,T,n,b,rfl,hM,hT,h1,h6,hb,q⟩;refine⟨rfl,?_⟩;exact⟨_,rfl,_,rfl,M,T,n,1,b,rfl,hM,hT,by omega,h6,JD n M T,n,_,rfl,hM.mul hT (by omega),h1,h6,h,Sub.refl h,q⟩
/-- θ comes next behind each of Ũ marks -/
noncomputable def nxD (n:G6)(Ts:G0 (G0 (G0 P1)))(M:G0 (G0 P1)):G0 D:=(P5 Ts.length).map λi=>jp (ç n (Ts.getD i []) M)
def Ā (n:G6)(Ts:G0 (G0 (G0 P1)))(F:Fnd)(L:D4 P2)(kv:G0 (G0 (G0 P1)×D))(h:HD):Prop:=kv.map (·.1)=F.map (·.1)/\ ∀p∈kv,∃X,p.2= .lst X/\h X=some (nxD n Ts p.1)/\some X≠L
variable {Ts:G0 (G0 (G0 P1))}{F:Fnd}{kv:G0 (G0 (G0 P1)×D)}{h:HD}
def Ā.len {L:D4 P2}(x:Ā n Ts F L kv h):kv.length=F.length:=by
 have:=congrArg Y1 x.1
 rwa [G3,G3] at this
theorem Ā.none {L:D4 P2}(x:Ā n Ts F L kv h)(g:(zk F T).isSome=false):zk kv T=none:=by
 have no:T ∉ F.map (·.1):=Xu (by cases z:zk F T with
  |none=>rfl
  |some _=>rw [z] at g;cases g)
 rw [<-x.1] at no;cases z:zk kv T with
 |none=>rfl
 |some d=>
  unfold zk at z;obtain⟨p,hp,_⟩:=F6.mp z;exact absurd (R6.mpr ⟨p,U7 hp,by have z:=cT hp;exact F9 z⟩) no
def Bk {w:G0 G6}(hw:w≠ [])(a:G6):Ť n Ts (w++ [a])= .tup [.tup ((w.map λ(k:G6)=>D.int (k:P1))++ [.int (a:P1)]),jp (ç n (Ts.getD a []) (Ó n Ts w))]:=by
 unfold Ť zM;rw [wX hw,T4];rfl
def Of {s:Fnd×G0 (G0 G6)}{w:G0 G6}:(s.2++(P5 Ts.length).map λa=>w++ [a]).map (Ť n Ts)=s.2.map (Ť n Ts)++(P5 Ts.length).map λa=>Ť n Ts (w++ [a]):=by
 rw [T4,N8];rfl
def Mk {s0:Fnd×G0 (G0 G6)}{ws:G0 (G0 G6)}{i:G6}{w:G0 G6}(e:ws[i]? =some w):(ws.take (i+1)).foldl (ŀ n Ts) s0=ŀ n Ts ((ws.take i).foldl (ŀ n Ts) s0) w:=by
 rw [u5,e,gQ];rfl
inductive WnW (n:G6)(Ts:G0 (G0 (G0 P1)))(h:HD)(A W N:P2)(m:G6)(Â:SD)(h':HD):Prop
 |mk (k:G6) (Fr:P2) (b4 b5 b6:D4 D) (ep æ:G6) (kv:G0 (G0 (G0 P1)×D)) (s:Fnd×G0 (G0 G6)) (z1:Â= [some (.lst A),some (.dct W),some (.dct N),some (.lst Fr),b4,b5,b6,none,none,none]) (z2:s=Ć n Ts k) (z3:h' A=some (Ts.map jp)) (z4:h'.dc W=some (.tk ep (Ł s.1))) (z5:h'.dc N=some (.tk æ kv)) (z6:Ā n Ts s.1 none kv h') (z7:h' Fr=some (s.2.map (Ť n Ts))) (z8:Sub h h') (z9:m=GH s) (z10:k+m<=1025):WnW n Ts h A W N m Â h'
inductive WnF (n:G6)(Ts:G0 (G0 (G0 P1)))(h:HD)(A W N Fr L:P2)(s:Fnd×G0 (G0 G6))(i:G6)(Â:SD)(h':HD):Prop
 |mk (b5 b6:D4 D) (ep æ:G6) (kv:G0 (G0 (G0 P1)×D)) (s':Fnd×G0 (G0 G6)) (z1:Â= [some (.lst A),some (.dct W),some (.dct N),some (.lst Fr),some (.lst L),b5,b6,none,none,none]) (z2:s'=(s.2.take i).foldl (ŀ n Ts) (s.1,[])) (z3:h' A=some (Ts.map jp)) (z4:h'.dc W=some (.tk ep (Ł s'.1))) (z5:h'.dc N=some (.tk æ kv)) (z6:Ā n Ts s'.1 (some L) kv h') (z7:h' Fr=some (s.2.map (Ť n Ts))) (z8:h' L=some (s'.2.map (Ť n Ts))) (z9:Sub h h'):WnF n Ts h A W N Fr L s i Â h'
inductive WnC (n:G6)(Ts:G0 (G0 (G0 P1)))(h:HD)(A W N Fr L:P2)(σ0:SD)(ks kn:Fnd)(æ:G6)(kv:G0 (G0 (G0 P1)×D))(s2 ls:G0 (G0 G6))(Â:SD)(h':HD):Prop
 |mk (ep:G6) (z1:Â=σ0) (z3:h' A=some (Ts.map jp)) (z4:h'.dc W=some (.tk ep (Ł ks))) (z5:h'.dc N=some (.tk æ kv)) (z6:Ā n Ts kn (some L) kv h') (z7:h' Fr=some (s2.map (Ť n Ts))) (z8:h' L=some (ls.map (Ť n Ts))) (z9:Sub h h'):WnC n Ts h A W N Fr L σ0 ks kn æ kv s2 ls Â h'
def wO:RDn:=λds h Q=> ∃A Ts,∃n:G6,ds= [.lst A]/\h A=some (Ts.map jp)/\Ä n Ts/\ ∀W N ep æ kv h',h'.dc W=some (.tk ep (Ł (ţ n Ts)))->h'.dc N=some (.tk æ kv)->Ā n Ts (ţ n Ts) none kv h'->Sub h h'->Q (.tup [.dct W,.dct N]) h'
def Zc (Z:Zs mg)(F:ô K "ways_and_nexts" "ways_and_nexts" zO f fd)(XR:jC P w K mg base n "marks" ["table"] Vc)(Vl:jC P w K mg base n "marks_after" ["ahead","table"] vo):Ò P w K mg base í (n+1) f fd ["tables"] (õ K wO):=by
 refine F.okM jA (λhr=>(js5 (ë 1 jA BX) (ë 2 jA BX) (FH (i:=7) (j:=8) (k:=3) (js:= [7,8]) rfl jA.nd rfl (Q7 rfl) (zo (by rfl)) (ZA rfl Z.enumerate (j1 (jv 0))) (by decide) (by decide) (by decide) rfl rfl (by first|exact Q7 rfl|exact aT rfl) (by first|exact Q7 rfl|exact aT rfl) (λX' hX=>JC) (λX' hX=>by obtain⟨C,s₀,H₀,ex,rfl⟩:=hX;exact(Zz (j2 (Zz (j1 (jv 7))) (jk XR hr (j1 (jv 8))))))) (VQ L8 (Es (jv 3)) (js3 (ë 4 jA (Zr wJ)) (Gn L8 rfl (za (jv 3)) (WI (i:=5) (j:=6) rfl jA.nd rfl rfl (by first|exact aT rfl|exact Q7 rfl) (by first|exact aT rfl|exact Q7 rfl)) (ze (Ha (Gm (Rv hr) (jv 6) (jv 1) (by with_unfolding_all rfl)) (js3 (EQ hr (jv 1) (jv 6) (jv 5)) (EQ hr (jv 2) (jv 6) (Ĥ 8 jA (za (jv 0)) (λ_ _ _ _=>(jk Vl hr (j2 (jv 6) (jv 8)))))) (JB (ul (jv 4) (Kp (i:=7) (j:=9) (js:= [7,9]) rfl (zo (by rfl)) (ZA rfl Z.enumerate (j1 (EO hr (jv 2) (jv 6)))) (by decide) (by decide) (by decide) jA.nd rfl rfl (by first|exact Q7 rfl|exact aT rfl) (by first|exact Q7 rfl|exact aT rfl) (λX' hX=>JC) (λX' hX=>by obtain⟨C,s₀,H₀,ex,rfl⟩:=hX;exact(Zz (j2 (þ wa (jv 5) (Zz (j1 (jv 7)))) (jv 9)))))))) De))) (ë 3 jA (jv 4)))) (wF (Zz (j2 (jv 1) (jv 2)))))) ?_;rintro ds h Q ⟨A,Ts,n,rfl,kA,hT,q⟩;refine⟨rfl,?_⟩;have n1:=hT.n1;have n3:=hT.n3;have l3:=hT.l3;have big: ∀x,x<=3000->x<=sizeLine:=λx hx=>R8 hx (by decide)
 refine jg (λÂ h'=> ∃W,Â= [some (.lst A),some (.dct W),none,none,none,none,none,none,none,none]/\h.dc W=none/\h' A=some (Ts.map jp)/\h'.dc W=some (.tk 0 [])/\Sub h h') (λC hC=>λW eW=>hC _ _ ⟨W,rfl,eW,kA,zG,.newC eW⟩) ?_;rintro _ h1 ⟨W,rfl,fW,kA1,kW,sb1⟩;refine jg (λÂ h'=> ∃N,Â= [some (.lst A),some (.dct W),some (.dct N),none,none,none,none,none,none,none]/\h.dc N=none/\N≠W/\h' A=some (Ts.map jp)/\h'.dc W=some (.tk 0 [])/\h'.dc N=some (.tk 0 [])/\Sub h h') (λC hC=>λN eN=> ?_) ?_
 ·have nW:N≠W:=λz=>by rw [z,kW] at eN;cases eN
  have fN:h.dc N=none:=by
   cases z:h.dc N with
   |none=>rfl
   |some c=>rw [sb1.dc N c z] at eN;cases eN
  exact hC _ _ ⟨N,rfl,fN,nW,kA1,(vy (I0 nW)).trans kW,zG,sb1.overC fN⟩
 clear kA1 kW sb1;rintro _ h2 ⟨N,rfl,fN,nW,kA2,kW,kN,Ε⟩;refine jg (λÂ h'=> ∃Fr,Â= [some (.lst A),some (.dct W),some (.dct N),some (.lst Fr),none,none,none,none,none,none]/\h' A=some (Ts.map jp)/\h'.dc W=some (.tk 0 [])/\h'.dc N=some (.tk 0 [])/\h' Fr=some ((Ć n Ts 0).2.map (Ť n Ts))/\Sub h h') (λC hC=>Kt (j:=λh=>(h A).map Yu) (P5 Ts.length) (λ(x:G6)=> .int (x:P1)) (λx=>jp (Ts.getD x [])) (λx=>Ť n Ts [x]) (by rw [R0];omega) ?_ (λR r=>⟨_,rfl,A,rfl,r⟩) (λx hx Q' q'=>⟨_,rfl,sz1,_,rfl,Ts.getD x [],n,20,rfl,hT.get (D1.mp hx),n1,by omega,Ň,q'⟩) λFr eF=>hC _ _ ⟨Fr,rfl,jd kA2 eF,kW,kN,?_,Ε.newAt eF⟩) ?_
 ·show (h2 A).map Yu=_;rw [kA2,fQ,WT,YN (n:=n) (λ_ T=>T)]
 ·rw [jc];show some _=some (((P5 Ts.length).map λa=> [a]).map (Ť n Ts));rw [N8];rfl
 clear kA2 kW kN Ε;rintro _ h3 ⟨Fr,rfl,kA3,kW,kN,kF,Ρ⟩;refine jg (λÂ h'=> ∃Fr b4 b5 b6 ep æ kv,Â= [some (.lst A),some (.dct W),some (.dct N),some (.lst Fr),b4,b5,b6,none,none,none]/\h'.dc W=some (.tk ep (Ł (ţ n Ts)))/\h'.dc N=some (.tk æ kv)/\Ā n Ts (ţ n Ts) none kv h'/\Sub h h') (λC hC=> ?_) ?_
 ·refine Jc (WnW n Ts h A W N) _ ⟨0,Fr,_,_,_,0,0,[],_,rfl,rfl,kA3,kW,kN,⟨rfl,(λ_ z=>nomatch z)⟩,kF,Ρ,rfl,Um hT.l1⟩ ?_;clear kA3 kW kN kF Ρ;rintro m _ h4 ⟨k,Fr,b4,b5,b6,ep,æ,kv,s,rfl,es,kA4,kW,kN,nx,kF,sb4,rfl,hk⟩;have bn:Ο n Ts k s:=es ▸ yF l3 k;refine⟨_,rfl,_,⟨_,kF,rfl⟩,?_⟩
  by_cases ez:s.2= []
  ·rw [ez];refine vt (hC _ _ ⟨Fr,b4,b5,b6,ep,æ,kv,rfl,?_,kN,?_,sb4⟩)
   ·rw [<-Rx (k:=k) (es ▸ ez) (by omega),<-es];exact kW
   ·rw [<-Rx (k:=k) (es ▸ ez) (by omega),<-es];exact nx
  rw [show (!(s.2.map (Ť n Ts)).isEmpty)=true from by
   cases z:s.2 with
   |nil=>exact absurd z ez
   |cons=>rfl]
  refine XW ?_;refine jg (λÂ h'=> ∃L,L≠A/\L≠Fr/\h L=none/\WnC n Ts h A W N Fr L [some (.lst A),some (.dct W),some (.dct N),some (.lst Fr),some (.lst L),b5,b6,none,none,none] s.1 s.1 æ kv s.2 [] Â h') (λC hC=>⟨ε,λL eL=>hC _ _ ⟨L,jq kA4 eL,jq kF eL,YG sb4 eL,ep,rfl,jd kA4 eL,kW,kN,⟨nx.1,λp hp=> ?_⟩,jd kF eL,jc,sb4.newAt eL⟩⟩) ?_
  ·obtain⟨X,e1,e2,_⟩:=nx.2 p hp;exact⟨X,e1,jd e2 eL,λz=>by injection z with z;exact jq e2 eL z.symm⟩
  clear kA4 kW kN nx kF sb4;rintro _ h5 ⟨L,nA,nF,fL,ep,rfl,kA5,kW,kN,nx,kF,kL,sb5⟩;refine jg (λÂ h'=> ∃b5 b6 ep æ kv s',Â= [some (.lst A),some (.dct W),some (.dct N),some (.lst Fr),some (.lst L),b5,b6,none,none,none]/\s'=Lq n Ts s/\h' A=some (Ts.map jp)/\h'.dc W=some (.tk ep (Ł s'.1))/\h'.dc N=some (.tk æ kv)/\Ā n Ts s'.1 none kv h'/\h' L=some (s'.2.map (Ť n Ts))/\Sub h h') (λC hC=> ?_) ?_
  ·refine yY (h1:=h5) (j:=λh=>h Fr) (s.2.map (Ť n Ts)) (WnF n Ts h A W N Fr L s) (λR r=>⟨_,rfl,r⟩) (λi Â h' ⟨_,_,_,_,_,_,_,_,_,_,_,_,z,_,_⟩=>z) ⟨b5,b6,ep,æ,kv,_,rfl,rfl,kA5,kW,kN,nx,kF,kL,sb5⟩ (λÂ h' ⟨b5,b6,ep,æ,kv,s',e,ã,a1,a2,a3,a4,_,a6,a7⟩=>hC _ _ ⟨b5,b6,ep,æ,kv,s',e,?_,a1,a2,a3,⟨a4.1,λp hp=>let ⟨X,e1,e2,_⟩:=a4.2 p hp;⟨X,e1,e2,λz=>nomatch z⟩⟩,a6,a7⟩) ?_
   ·rw [ã,G3,U3];rfl
   clear kA5 kW kN nx kF kL sb5;rintro i d _ h6 hd ⟨c5,c6,ep,æ,kv,s',rfl,ã,kA6,kW,kN,nx,kF,kL,sb6⟩;have ō:=(P7.mp hd).1;rw [P9] at hd;obtain⟨w,ew,rfl⟩:=F6.mp hd;obtain⟨hw,lw⟩:=bn.fr w (P8 ew);have md:Mid n Ts k s.1.length s':=ã ▸ bn.mids l3 i;have few:=md.few n3;have nxt:=md.step l3 hw lw;have k1025:k<=1025:=by omega
   have es2:(s.2.take (i+1)).foldl (ŀ n Ts) (s.1,[])=ŀ n Ts s' w:=by rw [Mk ew,<-ã]
   refine⟨_,_,rfl,?_⟩;refine⟨_,rfl,_,rfl,W,Ó n Ts w,ep,_,rfl,rfl,kW,_,rfl,?_⟩;show if (true !=(zk (Ł s'.1) (Ó n Ts w)).isSome)=true then _ else _
   rw [Ry];cases hg:(zk s'.1 (Ó n Ts w)).isSome with
   |true=>exact vt ⟨_,Sub.refl _,ō,_,_,ep,æ,kv,s',rfl,by rw [es2,JR hg],kA6,kW,kN,nx,kF,kL,sb6⟩
   |false=>
    have es3:=es2.trans (JU hg);refine XW ?_;refine jg (WnC n Ts h A W N Fr L [some (.lst A),some (.dct W),some (.dct N),some (.lst Fr),some (.lst L),some (zM w),some (jp (Ó n Ts w)),none,none,none] (s'.1++ [(Ó n Ts w,w)]) s'.1 æ kv s.2 s'.2) (λC hC=>⟨_,rfl,_,rfl,_,rfl,W,Ó n Ts w,ep,Ł s'.1,rfl,rfl,kW,by unfold Ł;rw [G3];omega,λÞ=>hC _ _ ⟨Þ,rfl,kA6,by rw [zG,Lr hg],(vy nW).trans kN,nx,kF,kL,sb6.overC fW⟩⟩) ?_;clear kA6 kW kN kF kL sb6;rintro _ h7 ⟨ep,rfl,kA7,kW,kN,nx,kF,kL,sb7⟩;refine jg (λÂ h'=> ∃X æ,h' X=some (nxD n Ts (Ó n Ts w))/\WnC n Ts h A W N Fr L [some (.lst A),some (.dct W),some (.dct N),some (.lst Fr),some (.lst L),some (zM w),some (jp (Ó n Ts w)),none,none,none] (s'.1++ [(Ó n Ts w,w)]) (s'.1++ [(Ó n Ts w,w)]) æ (kv++ [(Ó n Ts w,.lst X)]) s.2 s'.2 Â h') (λC hC=>lcA (j:=λh=>h A) (P5 Ts.length) (λx=>jp (Ts.getD x [])) (λx=>jp (ç n (Ts.getD x []) (Ó n Ts w))) (by rw [R0];omega) (by show h7 A=_;rw [kA7,WT]) (λR r=>⟨_,rfl,r⟩) (λx hx Q' q'=>⟨_,rfl,_,rfl,Ó n Ts w,Ts.getD x [],n,20,rfl,yE w,hT.get (D1.mp hx),n1,by omega,by decide,q'⟩) λX eX=>⟨_,rfl,_,rfl,N,Ó n Ts w,æ,kv,rfl,rfl,kN,by rw [nx.len];omega,λÞ=>hC _ _ ⟨X,Þ,jc,ep,rfl,jd kA7 eX,(vy (I0 nW)).trans kW,by rw [zG,(YM (nx.none hg)).1],⟨?_,λp hp=> ?_⟩,jd kF eX,jd kL eX,(sb7.newAt eX).overC fN⟩⟩) ?_
    ·rw [T4,T4,nx.1];rfl
    ·rcases D8.mp hp with z|z
     ·obtain⟨Y,e1,e2,e3⟩:=nx.2 p z;exact⟨Y,e1,jd e2 eX,e3⟩
     ·rw [G8.mp z];exact⟨X,rfl,jc,λz=>by injection z with z;exact jq kL eX z⟩
    have gt: ∀X,zk (kv++ [(Ó n Ts w,D.lst X)]) (Ó n Ts w)=some (.lst X):=λX=>by
     have z:=YM (d:=D.lst X) (nx.none hg);rw [<-z.1];exact z.2
    clear kA7 kW kN kF kL sb7 nx;rintro _ h8 ⟨X,æ,kX,ep,rfl,kA8,kW,kN,nx,kF,kL,sb8⟩;refine⟨_,rfl,L,rfl,Kt (j:=λh=>(h X).map Yu) (P5 Ts.length) (λ(x:G6)=> .int (x:P1)) (λx=>jp (ç n (Ts.getD x []) (Ó n Ts w))) (λx=>Ť n Ts (w++ [x])) (by rw [R0];omega) ?_ (λR r=>⟨_,rfl,_,rfl,N,Ó n Ts w,æ,_,.lst X,rfl,rfl,kN,gt X,X,rfl,r⟩) (λx hx Q' q'=>⟨_,rfl,_,rfl,sz1,?_,_,rfl,Ň,?_⟩) λY eY=>⟨Y,_,_,rfl,jd kL eY,jc,?_,_,Sub.refl _,ō,_,_,ep,æ,_,(s'.1++ [(Ó n Ts w,w)],s'.2++(P5 Ts.length).map λa=>w++ [a]),rfl,es3.symm,jf (I0 nA) (jd kA8 eY),kW,kN,⟨nx.1,λp hp=> ?_⟩,jf (I0 nF) (jd kF eY),by rw [jc,Of],(sb8.newAt eY).over fL⟩⟩
    ·show (h8 X).map Yu=_;rw [kX,fQ];exact congrArg some (YN (n:=n) λ_ T=>ç n T (Ó n Ts w))
    ·rw [G3];exact big _ (by simp only [R3,O1];omega)
    ·rw [Bk hw.1] at q';exact q'
    ·rw [G3,G3,R0];exact big _ (by have:=md.gr;omega)
    ·obtain⟨Z,e1,e2,e3⟩:=nx.2 p hp;exact⟨Z,e1,jf (λz=>e3 (congrArg some z)) (jd e2 eY),e3⟩
  clear kA5 kW kN nx kF kL sb5;rintro _ h6 ⟨c5,c6,ep,æ,kv,s',rfl,ã,kA6,kW,kN,nx,kL,sb6⟩;have ls:GH s'<GH s:=by rw [ã];exact QH bn n3 l3 ez
  exact⟨_,rfl,GH s',_,ls,Sub.refl _,k+1,L,_,_,_,ep,æ,kv,s',rfl,by rw [ã,es];rfl,kA6,kW,kN,nx,kL,sb6,rfl,by omega⟩
 clear kA3 kW kN kF Ρ;rintro _ h4 ⟨Fr,b4,b5,b6,ep,æ,kv,rfl,kW,kN,nx,sb4⟩;exact⟨_,rfl,_,rfl,Ň,h4,Sub.refl _,q W N ep æ kv h4 kW kN nx sb4⟩
def Sr (L:G0 (G0 (G0 P1))):(L.map λM=>(M,D.bl true)).map (λp=>jp p.1)=L.map jp:=by rw [N8];rfl
variable {M:G0 (G0 P1)}
def Cm (x:Ā n Ts F none kv h)(m:M∈F.map (·.1)): ∃X,zk kv M=some (.lst X)/\h X=some (nxD n Ts M):=by
 rw [<-x.1] at m;cases e:kv.find? λp=>decide (p.1=M) with
 |none=>
  obtain⟨p,hp,ep⟩:=R6.mp m;have:=Z6.mp e p hp;exact absurd (S1 ep) this
 |some p=>
  obtain⟨X,e1,e2,_⟩:=x.2 p (U7 e);have ek:p.1=M:=F9 (cT (p:=λp:G0 (G0 P1)×D=>decide (p.1=M)) e);exact⟨X,by unfold zk;rw [e];exact congrArg some e1,ek ▸ e2⟩
def Ya:RDn:=λds h Q=> ∃ (N Lf:P2) (Ts L:G0 (G0 (G0 P1))) (kv:G0 (G0 (G0 P1)×D)) (ep æ n:G6),ds= [.dct N,.dct Lf]/\Ä n Ts/\h.dc N=some (.tk æ kv)/\Ā n Ts (ţ n Ts) none kv h/\h.dc Lf=some (.tk ep (L.map λM=>(M,D.bl true)))/\(∀M∈L,M∈Wd n Ts)/\L.length<=512/\ ∀p,h p=none->Q (.lst p) (zK h p ((L.filter λM=> !η n Ts L M).map jp))
def GM (Z:Zs mg)(F:ô K "ends_of" "ends_of" We f fd):Ò P w K mg base í (n+1) f fd ["nexts","left"] (õ K Ya):=by
 refine F.okM JY (λhr=>(ze (wF (jl1 2 JY (RE (jv 1)) (λ_ _ _ _=>(wI (yq (wj (AU rfl) rfl Z.any (by decide +kernel) (j1 (Ĥ 3 JY (za (EO hr (jv 0) (jv 2))) (λ_ _ _ _=>(Kn (BY hr) (jv 3) (jv 1) (by with_unfolding_all rfl))))))))) (λ_ _ _ _=>(jv 2)))))) ?_;rintro ds h Q ⟨N,Lf,Ts,L,kv,ep,æ,n,rfl,hT,kN,nx,kL,sub,lL,q⟩;refine⟨rfl,?_⟩;have l3:=hT.l3;refine lcF (j:=Xw Lf ep (L.map λM=>(M,D.bl true)).length) L jp jp (λM=> !η n Ts L M) (by omega) (by rw [QK kL,Sr]) (λR r=>⟨_,rfl,Lf,ep,_,rfl,kL,r⟩) (λM hM Q' q'=> ?_) (λM hM _ Q' q'=>⟨_,rfl,q'⟩) (λp hp=>⟨_,Sub.refl _,q p hp⟩);obtain⟨X,gX,kX⟩:=Cm nx (sub M hM);exact kQ (j:=λh=>h X) (P5 Ts.length) (λi=>jp (ç n (Ts.getD i []) M)) (λi=>decide (ç n (Ts.getD i []) M∈L)) (by rw [R0];omega) kX (λR r=>⟨_,rfl,_,rfl,N,M,æ,kv,_,rfl,rfl,kN,gX,r⟩) (λi hi Q'' ŗ=>⟨_,rfl,_,rfl,Lf,_,ep,_,rfl,rfl,kL,by rw [Cc,u7];exact ŗ⟩) ⟨_,rfl,q'⟩
noncomputable def Į (n:G6)(Ts:G0 (G0 (G0 P1)))(k:G6):G0 (G0 (G0 P1)):=(é n Ts k).filter λM=> !η n Ts (é n Ts k) M
def XL {h':HD}(x:Ā n Ts F none kv h)(sb:Sub h h'):Ā n Ts F none kv h':=⟨x.1,λp hp=>let ⟨X,e1,e2,e3⟩:=x.2 p hp;⟨X,e1,sb _ _ e2,e3⟩⟩
def Bl (L:G0 (G0 (G0 P1)))(M:G0 (G0 P1)):HT.Wm (L.map λM=>(M,D.bl true)) M=(L.filter λN=> !decide (N=M)).map λM=>(M,D.bl true):=by
 unfold HT.Wm;rw [List.filter_map];rfl
noncomputable def Cn (E L:G0 (G0 (G0 P1)))(i:G6):G0 (G0 (G0 P1)):=L.filter λN=> !decide (N∈E.take i)
variable {L:G0 (G0 (G0 P1))}
def Bn {E:G0 (G0 (G0 P1))}:Cn E L 0=L:=eU.mpr λM _=>by rw [gS];exact congrArg (!·) (T3 λz=>nomatch z)
def Bo {E:G0 (G0 (G0 P1))}{i:G6}(e:E[i]? =some M):(Cn E L i).filter (λN=> !decide (N=M))=Cn E L (i+1):=by
 unfold Cn;rw [List.filter_filter];refine mF λN _=> ?_
 rw [C4,e];show (!decide (N=M)&& !decide (N∈E.take i))= !decide (N∈E.take i++ [M]);rw [<-Bool.not_or,<-pK];refine congrArg (!·) (decide_eq_decide.mpr ⟨λz=> ?_,λz=> ?_⟩)
 ·rcases z with z|z
  ·rw [z];exact D0 _ P4
  ·exact N2 _ z
 ·rcases D8.mp z with z|z
  ·exact .inr z
  ·exact .inl (G8.mp z)
theorem Co (l3:Ts.length<=3): ∀k,(é n Ts k).Nodup
 |0=>((yG (n:=n) l3).nd).filter _
 |k+1=>(Co l3 k).filter _
variable {k:G6}
def Vd (h:M∈é n Ts k):M∈Wd n Ts:=(B0.mp (RW (N9 k) h)).1
theorem Ve (n3:n<=3)(l3:Ts.length<=3): ∀k,(é n Ts k).length<=512
 |0=>R8 (Y7 _ _) (by unfold Wd;rw [G3];exact(yG (n:=n) l3).few n3)
 |k+1=>R8 (Y7 _ _) (Ve n3 l3 k)
def Og {i:G6}(l3:Ts.length<=3)(e:(Į n Ts k)[i]? =some M):M∈Cn (Į n Ts k) (é n Ts k) i:=by
 refine B0.mpr ⟨(B0.mp (P8 e)).1,?_⟩;have nd:(Į n Ts k).Nodup:=(Co l3 k).filter _;have il:=(P7.mp e).1;have t:(Į n Ts k).take (i+1)=(Į n Ts k).take i++ [M]:=by rw [C4,e];rfl
 have:=nd.sublist (U9 (i+1) _);rw [t] at this;rw [T3 λz=>(X5.mp this).2.2 _ z _ P4 rfl];rfl
def Oh:Cn (Į n Ts k) (é n Ts k) (Į n Ts k).length=é n Ts (k+1):=by
 unfold Cn;rw [U3];refine mF λM hM=> ?_
 cases z:η n Ts (é n Ts k) M with
 |true=>rw [T3 λy=>by have:=(B0.mp y).2;rw [z] at this;cases this];rfl
 |false=>
  have y:M∈Į n Ts k:=B0.mpr ⟨hM,by rw [z];rfl⟩;rw [S1 y];rfl
def Bp (h:Į n Ts k≠ []):(é n Ts (k+1)).length<(é n Ts k).length:=by
 obtain⟨M,hM⟩:=lU _ h;obtain⟨a,b⟩:=B0.mp hM;refine List.length_filter_lt_length_iff_exists.mpr ⟨M,a,λz=> ?_⟩;rw [z] at b;cases b
inductive RlW (n:G6)(Ts:G0 (G0 (G0 P1)))(h:HD)(N Lf:P2)(m:G6)(Â:SD)(h':HD):Prop
 |mk (r ep:G6) (E:P2) (b4:D4 D) (z1:Â= [some (.dct N),some (.dct Lf),some (.int ((r:G6):P1)),some (.lst E),b4]) (z2:h'.dc Lf=some (.tk ep ((é n Ts r).map λM=>(M,D.bl true)))) (z3:h' E=some ((Į n Ts r).map jp)) (z4: ∀i<r,Į n Ts i≠ []) (z5:Sub h h') (z6:m=(é n Ts r).length):RlW n Ts h N Lf m Â h'
inductive RlF (n:G6)(Ts:G0 (G0 (G0 P1)))(h:HD)(N Lf:P2)(E:P2)(r i:G6)(Â:SD)(h':HD):Prop
 |mk (ep:G6) (b4:D4 D) (z1:Â= [some (.dct N),some (.dct Lf),some (.int ((r:G6):P1)),some (.lst E),b4]) (z2:h'.dc Lf=some (.tk ep ((Cn (Į n Ts r) (é n Ts r) i).map λM=>(M,D.bl true)))) (z3:h' E=some ((Į n Ts r).map jp)) (z4:Sub h h'):RlF n Ts h N Lf E r i Â h'
def zI:RDn:=λds h Q=> ∃N Ts kv æ,∃n:G6,ds= [.dct N]/\Ä n Ts/\h.dc N=some (.tk æ kv)/\Ā n Ts (ţ n Ts) none kv h/\ ∀Lf r ep h',h'.dc Lf=some (.tk ep ((é n Ts r).map λM=>(M,D.bl true)))->Į n Ts r= []->(∀i<r,Į n Ts i≠ [])->Sub h h'->Q (.tup [.int ((r:G6):P1),.dct Lf]) h'
def yR (Z:Zs mg)(F:ô K "rounds_and_lasting" "rounds_and_lasting" zd f fd)(Sy:jC P w K mg base n "full" ["table"] Mj)(UE:jC P w K mg base n "ends_of" ["nexts","left"] Ya):Ò P w K mg base í (n+1) f fd ["nexts"] (õ K zI):=by
 refine F.okM jw (λhr=>(js5 (ET (i:=4) (k:=1) (js:= [4]) hr rfl jw.nd rfl (Q7 rfl) (zo (by rfl)) (RE (jv 0)) (by decide) rfl (by first|exact Q7 rfl|exact aT rfl) (λX' hX=>by obtain⟨C,s₀,H₀,ex,rfl⟩:=hX;exact UY (wI (yq (jk Sy hr (j1 (jv 4)))))) (λX' hX=>by obtain⟨C,s₀,H₀,ex,rfl⟩:=hX;exact(jv 4)) (λX' hX=>by obtain⟨C,s₀,H₀,ex,rfl⟩:=hX;exact Ν)) (ë 2 jw jD) (ë 3 jw (jk UE hr (j2 (jv 0) (jv 1)))) (VQ L8 (Es (jv 3)) (js3 (Gn L8 rfl (za (jv 3)) (jgn 4 jw) (ze (Hv hr (jv 1) (jv 4)))) (FM (i:=2) jw.nd rfl (Q7 rfl) jD) (ë 3 jw (jk UE hr (j2 (jv 0) (jv 1)))))) (wF (Zz (j2 (jv 2) (jv 1)))))) ?_;rintro ds h Q ⟨N,Ts,kv,æ,n,rfl,hT,kN,nx,q⟩;refine⟨rfl,?_⟩;have n1:=hT.n1;have n3:=hT.n3;have l3:=hT.l3;have kk:kv.map (λp=>jp p.1)=(Wd n Ts).map jp:=by
  have:=congrArg (rT jp) nx.1
  rwa [N8] at this
 have lk:(Wd n Ts).length<=512:=by unfold Wd;rw [G3];exact(yG (n:=n) l3).few n3
 have lkv:kv.length=(Wd n Ts).length:=by unfold Wd;rw [G3];exact nx.len
 have ndk:(Wd n Ts).Nodup:=(yG (n:=n) l3).nd;have ky: ∀l:G0 (G0 (G0 P1)),(l.map λM=>(M,D.bl true)).map (·.1)=l:=λl=>by rw [N8];exact sZ l
 refine jg (λÂ h'=> ∃Lf ep,Â= [some (.dct N),some (.dct Lf),none,none,none]/\h'.dc Lf=some (.tk ep ((é n Ts 0).map λM=>(M,D.bl true)))/\h.dc Lf=none/\Sub h h') (λC hC=>⟨_,rfl,N,æ,kv,rfl,kN,kv.length,λi kv' h'=>h=h'/\kv'=(((Wd n Ts).take i).filter λM=> !jG M).map λM=>(M,D.bl true),⟨rfl,rfl⟩,?_⟩) ?_
 ·rintro i kv' _ ⟨rfl,rfl⟩;refine⟨?_,?_,_,(QK kN).trans (congrArg some kk),?_,λhi P ep fP=>hC _ _ ⟨P,ep,rfl,?_,fP,.newC fP⟩,λd hd=> ?_⟩
  ·rw [G3];have a:=Y7 (λM=> !jG M) ((Wd n Ts).take i);have b:=List.length_take_le i (Wd n Ts);have c:((Wd n Ts).take i).length<=(Wd n Ts).length:=by rw [T5];exact b8 _ _
   omega
  ·rw [ky];exact(ndk.sublist (U9 _ _)).filter _
  ·rw [G3];exact J0 lkv.symm
  ·rw [G3] at hi;rw [T9 hi,zG];rfl
  ·rw [P9] at hd;obtain⟨M,hM,rfl⟩:=F6.mp hd;obtain⟨w,hw,eM⟩:=YQ hT (P8 hM);have sq:Sq n 1 M:=eM ▸ yE w;have st:(Wd n Ts).take (i+1)=(Wd n Ts).take i++ [M]:=by rw [C4,hM];rfl
   refine⟨_,rfl,_,rfl,M,n,1,rfl,sq,n1,by omega,_,rfl,?_⟩;cases z:jG M with
   |true=>
    refine⟨_,Sub.refl _,rfl,?_⟩;rw [st,qQ,J9 (by rw [z];exact D6),tW,J5]
   |false=>
    refine⟨_,rfl,M,_,rfl,?_,Sub.refl _,rfl,?_⟩
    ·rw [ky];have:=ndk.sublist (U9 (i+1) _);rw [st] at this;exact λy=>(X5.mp this).2.2 _ (B0.mp y).1 _ P4 rfl
    ·rw [st,qQ,O7 (by rw [z];rfl),tW,T4];rfl
 rintro _ h1 ⟨Lf,ep,rfl,kL,fL,sb⟩;refine wm [some (.dct N),some (.dct Lf),some (.int ((0:G6):P1)),none,none] (λC hC=>hC) ?_;refine jg (λÂ h'=> ∃E,Â= [some (.dct N),some (.dct Lf),some (.int ((0:G6):P1)),some (.lst E),none]/\h'.dc Lf=some (.tk ep ((é n Ts 0).map λM=>(M,D.bl true)))/\h' E=some ((Į n Ts 0).map jp)/\Sub h h') (λC hC=>⟨_,rfl,_,rfl,N,Lf,Ts,_,kv,ep,æ,n,rfl,hT,sb.dc _ _ kN,XL nx sb,kL,λM hM=>Vd hM,Ve n3 l3 0,λE eE=>hC _ _ ⟨E,rfl,kL,jc,sb.newAt eE⟩⟩) ?_;clear kL sb;rintro _ h2 ⟨E,rfl,kL,kE,sb⟩;refine jg (λÂ h'=> ∃r ep b3 b4,Â= [some (.dct N),some (.dct Lf),some (.int ((r:G6):P1)),b3,b4]/\h'.dc Lf=some (.tk ep ((é n Ts r).map λM=>(M,D.bl true)))/\Į n Ts r= []/\(∀i<r,Į n Ts i≠ [])/\Sub h h') (λC hC=> ?_) ?_
 ·refine Jc (RlW n Ts h N Lf) _ ⟨0,ep,E,_,rfl,kL,kE,(λ_ z=>absurd z (U1 _)),sb,rfl⟩ ?_;clear kL kE sb;rintro m _ h3 ⟨r,ep,E,b4,rfl,kL,kE,lo,sb,rfl⟩;refine⟨_,rfl,_,⟨_,kE,rfl⟩,?_⟩
  by_cases ez:Į n Ts r= []
  ·rw [ez];exact vt (hC _ _ ⟨r,ep,_,_,rfl,kL,ez,lo,sb⟩)
  rw [show (!((Į n Ts r).map jp).isEmpty)=true from by
   cases z:Į n Ts r with
   |nil=>exact absurd z ez
   |cons=>rfl]
  refine XW ?_;refine jg (λÂ h'=> ∃ep b4,Â= [some (.dct N),some (.dct Lf),some (.int ((r:G6):P1)),some (.lst E),b4]/\h'.dc Lf=some (.tk ep ((é n Ts (r+1)).map λM=>(M,D.bl true)))/\Sub h h') (λC hC=> ?_) ?_
  ·refine yY (h1:=h3) (j:=λh=>h E) ((Į n Ts r).map jp) (RlF n Ts h N Lf E r) (λR q'=>⟨_,rfl,q'⟩) (λi Â h' ⟨_,_,_,_,z,_⟩=>z) ⟨ep,b4,rfl,?_,kE,sb⟩ (λÂ h' ⟨ep,b4,e,a,_,c⟩=>hC _ _ ⟨ep,b4,e,?_,c⟩) ?_
   ·rw [kL,Bn]
   ·rw [a,G3,Oh]
   clear kL kE sb;rintro i d _ h4 hd ⟨ep,b4,rfl,kL,kE,sb⟩;have ō:=(P7.mp hd).1;rw [P9] at hd;obtain⟨M,eM,rfl⟩:=F6.mp hd;refine⟨_,rfl,_,rfl,Lf,M,ep,_,rfl,rfl,kL,by rw [ky];exact Og l3 eM,λÞ=>⟨_,Sub.refl _,ō,Þ,_,rfl,?_,kE,sb.overC fL⟩⟩;rw [zG,Bl,Bo eM]
  clear kL kE sb;rintro _ h4 ⟨ep,b4,rfl,kL,sb⟩;refine wm [some (.dct N),some (.dct Lf),some (.int ((r+1:G6):P1)),some (.lst E),b4] (λC hC=>⟨_,rfl,_,rfl,hC⟩) ?_;exact⟨_,rfl,_,rfl,N,Lf,Ts,_,kv,ep,æ,n,rfl,hT,sb.dc _ _ kN,XL nx sb,kL,λM hM=>Vd hM,Ve n3 l3 _,λE' eE=>⟨_,_,Bp ez,Sub.refl _,r+1,ep,E',b4,rfl,kL,jc,λi hi=>by
   rcases L5 i r with c|c
   ·exact lo i c
   ·rw [fU (fT.mp hi) c];exact ez,sb.newAt eE,rfl⟩⟩
 clear kL kE sb;rintro _ h3 ⟨r,ep,b3,b4,rfl,kL,ez,lo,sb⟩;exact⟨_,rfl,_,rfl,Ň,h3,Sub.refl _,q Lf r ep h3 kL ez lo sb⟩
noncomputable def Ml (n:G6)(Ts L:G0 (G0 (G0 P1)))(M:G0 (G0 P1)):G6:=((P5 Ts.length).filter λi=>decide (ç n (Ts.getD i []) M∈L)).headD 0
noncomputable def nxR (n:G6)(Ts L:G0 (G0 (G0 P1)))(M:G0 (G0 P1)):G0 (G0 P1):=ç n (Ts.getD (Ml n Ts L M) []) M
def Mm (h:η n Ts L M=true):((P5 Ts.length).filter λi=>decide (ç n (Ts.getD i []) M∈L))[0]? =some (Ml n Ts L M)/\Ml n Ts L M<Ts.length/\nxR n Ts L M∈L:=by
 obtain⟨i,hi,x⟩:=U5.mp h;have ne:i∈(P5 Ts.length).filter λi=>decide (ç n (Ts.getD i []) M∈L):=B0.mpr ⟨hi,x⟩
 unfold nxR Ml;cases e:(P5 Ts.length).filter λi=>decide (ç n (Ts.getD i []) M∈L) with
 |nil=>rw [e] at ne;cases ne
 |cons a r=>
  have ha:a∈(P5 Ts.length).filter λi=>decide (ç n (Ts.getD i []) M∈L):=by rw [e];exact P4
  obtain⟨u,v⟩:=B0.mp ha;exact⟨rfl,D1.mp u,F9 v⟩
theorem Cp (cl: ∀M∈L,η n Ts L M=true)(hM:M∈L): ∀k,itF (nxR n Ts L) M k∈L
 |0=>hM
 |k+1=>(Mm (cl _ (Cp cl hM k))).2.2
theorem Mn (j:G6): ∀k,JH n Ts (itF (nxR n Ts L) M j) ((mG j k).map λi=>Ml n Ts L (itF (nxR n Ts L) M i))=itF (nxR n Ts L) M (j+k)
 |0=>rfl
 |k+1=>by
  rw [List.range'_1_concat,T4,Xd,Mn j k];rfl
def GN (j k:G6):(P5 k).drop j=mG j (k-j):=by rw [pL,List.drop_range',E3,Nat.mul_one]
inductive RwW (n:G6)(Ts L:G0 (G0 (G0 P1)))(I:G6->G0 (G0 P1))(h:HD)(N Lf G Y:P2)(m:G6)(Â:SD)(h':HD):Prop
 |mk (k:G6) (b5 b6:D4 D) (z1:Â= [some (.dct N),some (.dct Lf),some (.lst G),some (.lst Y),some (jp (I k)),b5,b6]) (z2:h' G=some (((P5 k).map I).map jp)) (z3:h' Y=some ((P5 k).map λi=>D.int ((Ml n Ts L (I i):G6):P1))) (z4:Sub h h') (z5:((P5 k).map I).Nodup) (z6:m=513-k):RwW n Ts L I h N Lf G Y m Â h'
inductive RwP (n:G6)(Ts L:G0 (G0 (G0 P1)))(I:G6->G0 (G0 P1))(h:HD)(N Lf G Y:P2)(Â:SD)(h':HD):Prop
 |mk (k:G6) (b5 b6:D4 D) (z1:Â= [some (.dct N),some (.dct Lf),some (.lst G),some (.lst Y),some (jp (I k)),b5,b6]) (z2:h' G=some (((P5 k).map I).map jp)) (z3:h' Y=some ((P5 k).map λi=>D.int ((Ml n Ts L (I i):G6):P1))) (z4:Sub h h') (z5:I k∈(P5 k).map I) (z6:k<=512):RwP n Ts L I h N Lf G Y Â h'
inductive RwS (n:G6)(Ts L:G0 (G0 (G0 P1)))(I:G6->G0 (G0 P1))(h:HD)(N Lf G Y:P2)(k k1 k2:G6)(b5 b6:D4 D)(Â:SD)(h':HD):Prop
 |mk (z1:Â= [some (.dct N),some (.dct Lf),some (.lst G),some (.lst Y),some (jp (I k)),b5,b6]) (z2:h' G=some (((P5 k1).map I).map jp)) (z3:h' Y=some ((P5 k2).map λi=>D.int ((Ml n Ts L (I i):G6):P1))) (z4:Sub h h'):RwS n Ts L I h N Lf G Y k k1 k2 b5 b6 Â h'
def yS:RDn:=λds h Q=> ∃ (N Lf:P2) (Ts L:G0 (G0 (G0 P1))) (kv:G0 (G0 (G0 P1)×D)) (ep æ n:G6),ds= [.dct N,.dct Lf]/\Ä n Ts/\h.dc N=some (.tk æ kv)/\Ā n Ts (ţ n Ts) none kv h/\h.dc Lf=some (.tk ep (L.map λM=>(M,D.bl true)))/\(∀M∈L,M∈Wd n Ts)/\L≠ []/\L.length<=512/\(∀M∈L,η n Ts L M=true)/\ ∀M v h',M∈L->(∀i∈v,i<Ts.length)->1<=v.length->v.length<=512->JH n Ts M v=M->Sub h h'->Q (.tup [jp M,zM v]) h'
def Wh (Z:Zs mg)(F:ô K "round_within" "round_within" wB f fd):Ò P w K mg base í (n+1) f fd ["nexts","left"] (õ K yS):=by
 refine F.okM jQ (λhr=>(js5 (ë 2 jQ (Zr wJ)) (ë 3 jQ (Zr wJ)) (ë 4 jQ (ÿ (jI (RI rfl) rfl Z.list (by decide +kernel) (j1 (jv 1))) jD)) (VQ L8 (Gm (Yw hr.units) (jv 4) (jv 2) (by with_unfolding_all rfl)) (js3 (JB (BG (jv 2) (jv 4))) (JB (BG (jv 3) (ÿ (Kp (i:=5) (j:=6) (js:= [5,6]) rfl (zo (by rfl)) (ZA rfl Z.enumerate (j1 (EO hr (jv 0) (jv 4)))) (by decide) (by decide) (by decide) jQ.nd rfl rfl (by first|exact Q7 rfl|exact aT rfl) (by first|exact Q7 rfl|exact aT rfl) (λX' hX=>by obtain⟨C,s₀,H₀,ex,rfl⟩:=hX;exact UY (Gm (BY hr) (jv 6) (jv 1) (by with_unfolding_all rfl))) (λX' hX=>by obtain⟨C,s₀,H₀,ex,rfl⟩:=hX;exact(jv 5))) jD))) (ë 4 jQ (ÿ (EO hr (jv 0) (jv 4)) (ÿ (jv 3) (Kq jD)))))) (wF (Zz (j2 (jv 4) (jI ð rfl Z.tuple (by decide +kernel) (j1 (Dg (jv 3) (Yq (uc hr.units (jv 2) (jv 4))) Df)))))))) ?_;rintro ds h Q ⟨N,Lf,Ts,L,kv,ep,æ,n,rfl,hT,kN,nx,kL,sub,ne,lL,cl,q⟩;refine⟨rfl,?_⟩;have l3:=hT.l3;obtain⟨M0,r,eL⟩: ∃M0 r,L=M0::r:=by
  cases L with
  |nil=>exact absurd rfl ne
  |cons a r=>exact⟨a,r,rfl⟩
 have hM0:M0∈L:=by rw [eL];exact P4
 have at0:(L.map jp)[0]? =some (jp M0):=by rw [eL];rfl
 have mem:=Cp cl hM0;refine jg (λÂ h'=> ∃G,Â= [some (.dct N),some (.dct Lf),some (.lst G),none,none,none,none]/\h G=none/\h' G=some []/\Sub h h') (λC hC=>⟨ε,λG eG=>hC _ _ ⟨G,rfl,eG,jc,.new eG⟩⟩) ?_;rintro _ h1 ⟨G,rfl,fG,kG,sb⟩;refine jg (λÂ h'=> ∃Y,Â= [some (.dct N),some (.dct Lf),some (.lst G),some (.lst Y),none,none,none]/\h Y=none/\Y≠G/\h' G=some []/\h' Y=some []/\Sub h h') (λC hC=>⟨ε,λY eY=>hC _ _ ⟨Y,rfl,YG sb eY,jq kG eY,jd kG eY,jc,sb.newAt eY⟩⟩) ?_;clear kG sb;rintro _ h2 ⟨Y,rfl,fY,nY,kG,kY,sb⟩;refine jg (λÂ h'=>Â= [some (.dct N),some (.dct Lf),some (.lst G),some (.lst Y),some (jp M0),none,none]/\h' G=some []/\h' Y=some []/\Sub h h') (λC hC=>⟨_,rfl,Lf,ep,_,rfl,sb.dc _ _ kL,by rw [G3];omega,λp Þ=>⟨_,_,jc,by rw [Sr];exact zY (j:=0) at0,hC _ _ ⟨rfl,jd kG Þ,jd kY Þ,sb.newAt Þ⟩⟩⟩) ?_;clear kG kY sb;rintro _ h3 ⟨rfl,kG,kY,sb⟩;obtain⟨I,eI⟩: ∃I:G6->G0 (G0 P1),I=itF (nxR n Ts L) M0:=⟨_,rfl⟩;have mem: ∀k,I k∈L:=eI ▸ mem;have hI: ∀k,I (k+1)=nxR n Ts L (I k):=λk=>by rw [eI];rfl
 refine jg (RwP n Ts L I h N Lf G Y) (λC hC=> ?_) ?_
 ·refine Jc (RwW n Ts L I h N Lf G Y) _ ⟨0,_,_,by rw [eI];rfl,kG,kY,sb,lM,rfl⟩ ?_;clear kG kY sb;rintro m _ h4 ⟨k,b5,b6,rfl,kG,kY,sb,nd,rfl⟩;have lk:k<=512:=by
   have:=wb nd (m:=L) λx hx=>by
    obtain⟨i,_,rfl⟩:=R6.mp hx;exact mem i
   rw [G3,R0] at this;omega
  refine⟨_,rfl,_,rfl,BI Ŏ kG λbo hbo=>⟨_,rfl,UM (λc=> ?_) (λc=> ?_)⟩⟩
  rotate_left
  ·refine hC _ _ ⟨k,b5,b6,rfl,kG,kY,sb,hbo.mp ?_,lk⟩;cases bo with
   |true=>rfl
   |false=>exact absurd rfl c
  have hni:I k ∉ (P5 k).map I:=λz=>by rw [hbo.mpr z] at c;exact absurd c (by decide)
  refine jg (RwS n Ts L I h N Lf G Y k (k+1) k b5 b6) (λC2 ĸ=>⟨_,rfl,G,rfl,_,rfl,_,kG,?_,ĸ _ _ ⟨rfl,?_,jf nY kY,sb.over fG⟩⟩) ?_
  ·rw [G3,G3,R0];exact Q6 lk (by decide)
  ·rw [jc,cR,T4,T4];rfl
  clear kG kY sb;rintro _ h5 ⟨rfl,kG,kY,sb⟩;obtain⟨X1z,X1A,hopn⟩:=Mm (cl _ (mem k));obtain⟨X,gX,kX⟩:=Cm nx (sub _ (mem k));refine jg (RwS n Ts L I h N Lf G Y k (k+1) (k+1) b5 b6) (λC2 ĸ=>⟨_,rfl,Y,rfl,ud (j:=λh=>(h X).map Yu) (P5 Ts.length) (λ(x:G6)=> .int (x:P1)) (λx=>jp (ç n (Ts.getD x []) (I k))) (λ(x:G6)=> .int (x:P1)) (λi=>decide (ç n (Ts.getD i []) (I k)∈L)) (by rw [R0];omega) ?_ (λR r=>⟨_,rfl,_,rfl,N,I k,æ,kv,.lst X,rfl,rfl,sb.dc _ _ kN,gX,X,rfl,r⟩) (λx hx Q' q'=>⟨_,rfl,_,rfl,Lf,_,ep,_,rfl,rfl,sb.dc _ _ kL,by rw [Cc,u7];exact⟨_,rfl,q'⟩⟩) (λx hx _ Q' q'=>⟨_,rfl,q'⟩) λZ eZ=>⟨_,_,jc,zY (j:=0) (by rw [P9,X1z];rfl),_,jd kY eZ,?_,ĸ _ _ ⟨rfl,jf (I0 nY) (jd kG eZ),?_,(sb.newAt eZ).over fY⟩⟩⟩) ?_
  ·show (h5 X).map Yu=_;rw [sb _ _ kX,fQ];exact congrArg some (YN (n:=n) λ_ T=>ç n T (I k))
  ·rw [G3,R0];exact Q6 lk (by decide)
  ·rw [jc,cR,T4];rfl
  clear kG kY sb;rintro _ h6 ⟨rfl,kG,kY,sb⟩;refine⟨_,rfl,_,rfl,N,I k,æ,kv,.lst X,rfl,rfl,sb.dc _ _ kN,gX,_,rfl,_,_,kY,(show ć _ (-1)=some (D.int ((Ml n Ts L (I k):G6):P1)) from Dv (bI 1 k)),_,_,sb _ _ kX,zY (j:=Ml n Ts L (I k)) (by unfold nxD;rw [P9,J1 X1A];rfl),513-(k+1),_,by omega,Sub.refl _,k+1,_,_,by rw [hI];rfl,kG,kY,sb,?_,rfl⟩;rw [cR,T4,X5];exact⟨nd,by simp,λx hx y hy=>by rw [G8.mp (show y∈ [I k] from hy)];intro e;exact hni (e ▸ hx)⟩
 clear kG kY sb;rintro _ h4 ⟨k,b5,b6,rfl,kG,kY,sb,hin,lk⟩;obtain⟨J,pd,ps,zz,hat,t1,t2,c1,c2,c3,c4,c5,c6,c7⟩:=Eo Ŏ kG hin (by rw [G3,R0];omega);have hJ:J<k:=by
  have:=(P7.mp hat).1
  rwa [G3,R0] at this
 have eJ:I J=I k:=by
  rw [P9,J1 hJ] at hat;exact A2 hat
 refine⟨_,rfl,_,rfl,_,rfl,G,rfl,_,rfl,pd,ps,J,zz,t1,t2,c1,c2,c3,c4,c5,c6,c7,_,rfl,_,kY,λp Þ=>⟨_,jc,Ň,h4,.new Þ,?_⟩⟩;rw [uf _ J (by rw [G3,R0];omega),<-iI,GN];have led:=Mn (n:=n) (Ts:=Ts) (L:=L) (M:=M0) J (k-J);rw [<-eI,show J+(k-J)=k by omega,eJ] at led;have:=q (I k) ((mG J (k-J)).map λi=>Ml n Ts L (I i)) h4 (mem k) (λi hi=>by
  obtain⟨m,_,rfl⟩:=R6.mp hi;exact(Mm (cl _ (mem m))).2.1) (by rw [G3,qR];omega) (by rw [G3,qR];omega) led sb
 unfold zM at this;rw [N8] at this;exact this
structure X1a (n:G6)(Ts:G0 (G0 (G0 P1)))(u v:G0 G6):Prop where
 way:UN Ts u
 few:u.length<=56
 ok: ∀i∈v,i<Ts.length
 lo:1<=v.length
 hi:v.length<=512
 back:JH n Ts (Ó n Ts u) v=Ó n Ts u
 nf:jG (Ó n Ts u)=false
def KG (n:G6)(Ts:G0 (G0 (G0 P1)))(d:D):Prop:=(∃r,é n Ts r= []/\d= .non)\/((∀k,é n Ts k≠ [])/\ ∃u v,d= .tup [zM u,zM v]/\X1a n Ts u v)
def Ss (h:M∈F.map (·.1)): ∃p∈F,p.1=M/\zk (Ł F) M=some (zM p.2):=by
 cases e:F.find? λp=>decide (p.1=M) with
 |none=>
  obtain⟨p,hp,ep⟩:=R6.mp h;exact absurd (S1 ep) (Z6.mp e p hp)
 |some p=>
  refine⟨p,U7 e,F9 (cT (p:=λp:G0 (G0 P1)×G0 G6=>decide (p.1=M)) e),?_⟩;unfold Ł;rw [YL];unfold zk;rw [e];rfl
def Su {r:G6}{v:G0 G6}(hT:Ä n Ts)(ez:Į n Ts r= [])(hM:M∈é n Ts r)(hv: ∀i∈v,i<Ts.length)(lo:1<=v.length)(hi:v.length<=512)(led:JH n Ts M v=M): ∃u,zk (Ł (ţ n Ts)) M=some (zM u)/\X1a n Ts u v/\ ∀k,é n Ts k≠ []:=by
 obtain⟨p,hp,ep1,gp⟩:=Ss (Vd hM);obtain⟨f1,f2,_⟩:=(yG (n:=n) hT.l3).fd p hp;have eM:Ó n Ts p.2=M:=f1.symm.trans ep1;have nf:jG M=false:=YR ((vI hT).mp hM).2;refine⟨p.2,gp,⟨f2,LL hT hp,hv,lo,hi,by rw [eM];exact led,by rw [eM];exact nf⟩,λk e=> ?_⟩;rcases nX k r with c|c
 ·have:=RW c hM;rw [e] at this;cases this
 ·have:=QR ez (k-r);rw [show r+(k-r)=k by omega,e] at this;rw [<-this] at hM;cases hM
def vp:RDn:=λds h Q=> ∃A Ts,∃n:G6,ds= [.lst A]/\h A=some (Ts.map jp)/\Ä n Ts/\ ∀d,KG n Ts d->Q d h
def Wu (Z:Zs mg)(F:ô K "why_lasting" "why_lasting" ya f fd)(Vm:jC P w K mg base n "want_tables" ["thing"] vn)(Zv:jC P w K mg base n "ways_and_nexts" ["tables"] wO)(vf:jC P w K mg base n "rounds_and_lasting" ["nexts"] zI)(Wy:jC P w K mg base n "round_within" ["nexts","left"] yS):Ò P w K mg base í (n+1) f fd ["tables"] (õ K vp):=by
 refine F.okM zE (λhr=>(js6 (JB (jk Vm hr (j1 (jv 0)))) (BF (jk Zv hr (j1 (jv 0))) (WI (i:=1) (j:=2) rfl zE.nd rfl rfl (Q7 rfl) (Q7 rfl))) (BF (jk vf hr (j1 (jv 2))) (WI (i:=3) (j:=4) rfl zE.nd rfl rfl (Q7 rfl) (Q7 rfl))) (WR (wI (ES (jv 4))) (wF Eg)) (BF (jk Wy hr (j2 (jv 2) (jv 4))) (WI (i:=5) (j:=6) rfl zE.nd rfl rfl (Q7 rfl) (Q7 rfl))) (wF (Zz (j2 (EO hr (jv 1) (jv 5)) (jv 6)))))) ?_;rintro ds h Q ⟨A,Ts,n,rfl,kA,hT,q⟩;refine⟨rfl,?_⟩;refine wm [some (.lst A),none,none,none,none,none,none] (λC hC=>⟨_,rfl,A,Ts,n,rfl,kA,hT,hC⟩) ?_;refine jg (λÂ h'=> ∃W N ep0 æ kv,Â= [some (.lst A),some (.dct W),some (.dct N),none,none,none,none]/\h'.dc W=some (.tk ep0 (Ł (ţ n Ts)))/\h'.dc N=some (.tk æ kv)/\Ā n Ts (ţ n Ts) none kv h'/\Sub h h') (λC hC=>⟨_,rfl,A,Ts,n,rfl,kA,hT,λW N ep æ kv h' kW kN nx sb=>⟨_,_,rfl,hC _ _ ⟨W,N,ep,æ,kv,rfl,kW,kN,nx,sb⟩⟩⟩) ?_;rintro _ h1 ⟨W,N,ep0,æ,kv,rfl,kW,kN,nx,sb⟩;refine jg (λÂ h'=> ∃Lf r ep,Â= [some (.lst A),some (.dct W),some (.dct N),some (.int ((r:G6):P1)),some (.dct Lf),none,none]/\h'.dc Lf=some (.tk ep ((é n Ts r).map λM=>(M,D.bl true)))/\Į n Ts r= []/\Sub h h'/\Sub h1 h') (λC hC=>⟨_,rfl,N,Ts,kv,æ,n,rfl,hT,kN,nx,λLf r ep h' kL ez lo Ε=>⟨_,_,rfl,hC _ _ ⟨Lf,r,ep,rfl,kL,ez,sb.trans Ε,Ε⟩⟩⟩) ?_;clear sb;rintro _ h2 ⟨Lf,r,ep,rfl,kL,ez,sb,Ε⟩
 by_cases z:é n Ts r= []
 ·refine jg (λ_ _=>False) (λC hC=>⟨_,rfl,Lf,ep,_,rfl,kL,?_⟩) (λ_ _ z=>z.elim);rw [z];exact XW ⟨h,sb,q _ (.inl ⟨r,z,rfl⟩)⟩
 refine wm [some (.lst A),some (.dct W),some (.dct N),some (.int ((r:G6):P1)),some (.dct Lf),none,none] (λC hC=>⟨_,rfl,Lf,ep,_,rfl,kL,?_⟩) ?_
 ·rw [show (!((é n Ts r).map λM=>(M,D.bl true)).isEmpty)=true from by
   cases y:é n Ts r with
   |nil=>exact absurd y z
   |cons=>rfl]
  exact vt (hC)
 refine jg (λÂ h'=> ∃M v,Â= [some (.lst A),some (.dct W),some (.dct N),some (.int ((r:G6):P1)),some (.dct Lf),some (jp M),some (zM v)]/\h'.dc W=some (.tk ep0 (Ł (ţ n Ts)))/\M∈é n Ts r/\(∀i∈v,i<Ts.length)/\1<=v.length/\v.length<=512/\JH n Ts M v=M/\Sub h h') (λC hC=>⟨_,rfl,_,rfl,N,Lf,Ts,é n Ts r,kv,ep,æ,n,rfl,hT,Ε.dc _ _ kN,XL nx Ε,kL,λM hM=>Vd hM,z,Ve hT.n3 hT.l3 r,λM hM=> ?_,λM v h' hM hv lo hi led Ρ=>⟨_,_,rfl,hC _ _ ⟨M,v,rfl,Ρ.dc _ _ (Ε.dc _ _ kW),hM,hv,lo,hi,led,sb.trans Ρ⟩⟩⟩) ?_
 ·have:=nZ.mp ez M hM;cases y:η n Ts (é n Ts r) M with
  |true=>rfl
  |false=>rw [y] at this;exact absurd rfl this
 clear kL kN nx sb Ε;rintro _ h3 ⟨M,v,rfl,kW,hM,hv,lo,hi,led,sb⟩;obtain⟨u,gp,pw,all⟩:=Su hT ez hM hv lo hi led;exact⟨_,rfl,_,rfl,W,M,ep0,_,_,rfl,rfl,kW,gp,_,rfl,Ň,h,sb,q _ (.inr ⟨all,u,v,rfl,pw⟩)⟩
def Zl:RDn:=λds h Q=> ∃ns k,ds= [.scr ns,.int k]/\0<=k/\ ∀n,Q (.int n) h
def Ux (Z:Zs mg)(F:ô K "_law_cell" "_law_cell" vJ f fd):Ò P w K mg base í (n+1) f fd ["_law_script","_law_k"] (õ K Zl):=by
 refine F.okM Uw (λhr=>(ζ (WR (ŵ Ft (jv 1) (Xt Z (jv 0))) (wF (ÿ (jv 0) (jv 1)))) (wF jD))) ?_;rintro ds h Q ⟨ns,k,rfl,h0,q⟩;refine⟨rfl,?_⟩;simp only [vh,MW,vV,œ,MT,wH,T6,cK,R3,O1,Y9,E2,cF,W1,bS,Ĩ,zA,WF,On,Bz,D.bl.injEq,MV,ixD,Mz,cU,UT,dC];refine UM (λc=> ?_) (λ_=>⟨h,Sub.refl h,q 0⟩);have c':k<(ns.length:P1):=F9 c;have hk:k.toNat<ns.length:=by omega
 have ek:k=((k.toNat:G6):P1):=by omega
 have z:=zY (G1 hk);rw [<-ek] at z;exact⟨ns[k.toNat],z,h,Sub.refl h,q _⟩
def Wi:RDn:=λds h Q=> ∃c,ds= [.int c]/\ ∀p l fl,h p=none->0<=l->(fl=0\/fl=1)->Q (.lst p) (zK h p [.int l,.int fl])
def XM (Z:Zs mg)(F:ô K "_law_pen" "_law_pen" JZ f fd):Ò P w K mg base í (n+1) f fd ["_law_cell_here"] (õ K Wi):=by
 refine F.okM Wf (λhr=>(ζ (ë 1 Wf (wj (AS rfl) rfl Z.max (by decide +kernel) (j2 (jv 0) (þ PF jD (jv 0))))) (wF (Zr (j2 (jv 1) (jI VE rfl Z.int (by decide +kernel) (j1 (Ŵ Fv (jv 1) (þ BA jD jD))))))))) ?_;rintro ds h Q ⟨c,rfl,q⟩;refine⟨rfl,?_⟩;simp only [vh,PB,Ĩ,zA,MT,wH,T6,cK,R3,O1,B3,Y9,E2,W1,bS,œ,dC,Kg,WF,TN,MV,SH,List.set_cons_succ,List.set_cons_zero,cF,Ki,Bz,TL,Mz,cU];refine⟨⟨by decide,by decide,by decide⟩,by decide,λp hp=>⟨_,Sub.refl _,q p _ _ hp ?_ ?_⟩⟩
 ·split<;>omega
 ·split<;>simp<;>omega
def zJ:RDn:=λds h Q=> ∃p l fl m,ds= [.lst p,.int m]/\h p=some [.int l,.int fl]/\0<=l/\0<m/\m<1073741824/\ ∀r l',0<=r->r<m->0<=l'->Q (.int r) (zK h p [.int l',.int fl])
def Uy (Z:Zs mg)(F:ô K "_law_draw" "_law_draw" vK f fd):Ò P w K mg base í (n+1) f fd ["_law_pen_here","_law_many_here"] (õ K zJ):=by
 refine F.okM wo (λhr=>(js5 (Ha (ŵ ĉ (ÿ (jv 0) jD) jD) (js3 (BF (wj PK rfl Z.divmod (by decide +kernel) (j2 (ÿ (jv 0) jD) (jv 1))) (WI (i:=2) (j:=3) rfl wo.nd rfl rfl (Q7 rfl) (Q7 rfl))) (BF (jv 2) (Qf (jv 0) jD)) (wF (jv 3))) De) (ë 4 wo (þ Ja (þ Yn (þ wa (þ Ja (ÿ (jv 0) jD) jD) jD) jD) jD)) (ë 4 wo (þ Ja (þ wa (þ Yn (jv 4) (jv 4)) jD) jD)) (BF (þ Ja (þ wa (þ Yn (jv 4) jD) jD) jD) (Qf (jv 0) jD)) (wF (þ Ja (þ Fs (ÿ (jv 0) jD) jD) (jv 1))))) ?_;rintro ds h Q ⟨p,l,fl,m,rfl,hp,h0,hm,hm2,q⟩;refine⟨rfl,?_⟩;refine wm [some (.lst p),some (.int m),none,none,none] (λC hC=>⟨_,rfl,_,_,hp,rfl,?_⟩) ?_
 ·show ∃k,D.bl (decide (fl=1))= .bl k/\_;refine⟨_,rfl,UM (λ_=> ?_) λ_=>hC⟩;exact⟨_,rfl,_,_,hp,rfl,_,rfl,⟨hm,hm2⟩,_,_,rfl,_,rfl,_,rfl,p,0,_,0,rfl,rfl,hp,rfl,_,rfl,_,Sub.refl _,q (l%m) (l / m) (iW _ (IA hm)) (lN _ hm) (Int.ediv_nonneg h0 (y4 hm))⟩
 refine jg (λÂ h'=> ∃z:P1,Â= [some (.lst p),some (.int m),none,none,some (.int z)]/\(0<=z/\z<2147483629)/\h=h') (λC hC=>⟨_,rfl,_,_,hp,rfl,by decide,.inr ⟨by decide,by decide⟩,by decide,hC _ _ ⟨_,rfl,⟨iW _ (by decide),lN _ (by decide)⟩,rfl⟩⟩) ?_;rintro _ _ ⟨z,rfl,⟨z0,z1⟩,rfl⟩;refine jg (λÂ h'=> ∃y:P1,Â= [some (.lst p),some (.int m),none,none,some (.int y)]/\h=h') (λC hC=>⟨_,rfl,_,rfl,.inl ⟨lC (by decide) z0,Int.lt_trans z1 (by decide)⟩,by decide,hC _ _ ⟨_,rfl,rfl⟩⟩) ?_;rintro _ _ ⟨y,rfl,rfl⟩;refine jg (λÂ h'=> ∃x:P1,Â= [some (.lst p),some (.int m),none,none,some (.int y)]/\0<=x/\h'=zK h p [.int x,.int fl]) (λC hC=>⟨_,rfl,.inr ⟨by decide,by decide⟩,by decide,_,rfl,p,0,_,0,rfl,rfl,hp,rfl,hC _ _ ⟨_,rfl,iW _ (by decide),rfl⟩⟩) ?_;rintro _ _ ⟨x,rfl,x0,rfl⟩;exact⟨_,rfl,_,_,jc,rfl,⟨by decide,by decide⟩,_,rfl,hm,_,Sub.refl _,q (x / 32%m) x (iW _ (IA hm)) (lN _ hm) x0⟩
def Vf (Z:Zs mg)(F:ô K "_law_whole" "_law_whole" yK f fd):Ò P w K mg base í (n+1) f fd ["_law_thing"] (õ K yf):=by
 refine F.okM YY (λhr=>(ze (wF (FE (Yp (T:= "int") (by decide) rfl Z.isinstance rfl Z.int (by decide +kernel) (jv 0)) (Ng (Ko (Yp (T:= "bool") (by decide) rfl Z.isinstance rfl Z.bool (by decide +kernel) (jv 0)))))))) ?_;rintro ds h Q ⟨d,nm,rfl,hn,q⟩;refine⟨rfl,?_⟩;simp only [MV,Px,dIs,MT,wH,T6,cK,R3,O1,Y9,E2,W1,bS,D.bl.injEq,Py,Mz,cU,hn];cases d<;>cases hn<;>exact⟨h,Sub.refl h,q⟩
inductive LtG (k:G6)(h:HD)(p R S:P2)(fl way o m:P1)(i j:G6)(rows:G0 (G0 P1))(row:G0 P1)(Â:SD)(h':HD):Prop
 |mk (g:N4) (l6:P1) (z1:Â= [some (.lst p),some (.int (k:P1)),some (.int way),some (.int o),some (.int m),some (.lst R),some (.int (i:P1)),some (.lst S),some (.int (j:P1)),some (.bl g)]) (z2:0<=l6) (z3:h' p=some [.int l6,.int fl]) (z4:h' R=some (rows.map wx)) (z5:h' S=some (row.map D.int)) (z6:ò p h h'):LtG k h p R S fl way o m i j rows row Â h'
inductive LtJ (k:G6)(h:HD)(p R S:P2)(fl way o m:P1)(i:G6)(rows:G0 (G0 P1))(j:G6)(Â:SD)(h':HD):Prop
 |mk (c d:D4 D) (l5:P1) (row:G0 P1) (y:Â= [some (.lst p),some (.int (k:P1)),some (.int way),some (.int o),some (.int m),some (.lst R),some (.int (i:P1)),some (.lst S),c,d]) (z0:0<=l5) (z1:h' p=some [.int l5,.int fl]) (z2:h' R=some (rows.map wx)) (z3:h' S=some (row.map D.int)) (z4:ò p h h') (y1:row.length=j) (y2: ∀x∈row,0<=x/\x<=1000000):LtJ k h p R S fl way o m i rows j Â h'
inductive LtI (k:G6)(h:HD)(p R:P2)(fl way o m:P1)(i:G6)(Â:SD)(h':HD):Prop
 |mk (a b c d:D4 D) (l4:P1) (rows:G0 (G0 P1)) (y:Â= [some (.lst p),some (.int (k:P1)),some (.int way),some (.int o),some (.int m),some (.lst R),a,b,c,d]) (z0:0<=l4) (z1:h' p=some [.int l4,.int fl]) (z2:h' R=some (rows.map wx)) (z3:ò p h h') (y1:rows.length=i) (y2: ∀r∈rows,wS k r):LtI k h p R fl way o m i Â h'
def zV:RDn:=λds h Q=> ∃p l fl,∃k:G6,ds= [.lst p,.int (k:P1)]/\h p=some [.int l,.int fl]/\0<=l/\1<=k/\k<=6/\ ∀T l',ī k T->0<=l'->Q (jp T) (zK h p [.int l',.int fl])
def Vg (Z:Zs mg)(F:ô K "_law_table" "_law_table" yL f fd)(ju:jC P w K mg base n "_law_draw" ["_law_pen_here","_law_many_here"] zJ):Ò P w K mg base í (n+1) f fd ["_law_pen_here","_law_size"] (õ K zV):=by
 refine F.okM jE (λhr=>(js5 (Hb (i:=2) (j:=3) rfl jE.nd rfl rfl (by decide) rfl rfl (j2 (jk ju hr (j2 (jv 0) jD)) (ÿ (Zr (j3 jD jD jD)) (jk ju hr (j2 (jv 0) jD)))) rfl) (ë 4 jE (ÿ (Zr (j4 jD jD jD (þ BA jD jD))) (jk ju hr (j2 (jv 0) jD)))) (ë 5 jE (Zr wJ)) (Gn L8 rfl (Ŷ Z (jv 1)) (jgn 6 jE) (js3 (ë 7 jE (Zr wJ)) (Gn L8 rfl (Ŷ Z (jv 1)) (jgn 8 jE) (js5 (ë 9 jE (Ŵ ĉ (jk ju hr (j2 (jv 0) (jv 3))) jD)) (WR (ŵ Ft (jv 2) jD) (ë 9 jE (jor (Ŵ ĉ (jv 8) (þ Ja (þ wa (jv 6) jD) (jv 1))) (Ng (FE (jv 9) (Ng (Ŵ (PX hr.units) (jk ju hr (j2 (jv 0) jD)) (jv 2)))))))) (WR (ŵ ĉ (jv 2) jD) (ë 9 jE (jor (FE (jv 9) (Ng (Ŵ ĉ (þ Ja (þ PF (jv 8) (jv 6)) jD) jD))) (Ng (Ŵ (PX hr.units) (jv 8) (þ wa (jv 6) jD)))))) (WR (ŵ ĉ (jv 2) jD) (ë 9 jE (FE (jv 9) (Ng (Ŵ Fv (jv 8) (jv 6)))))) (JB (BG (jv 7) (þ Yn (jI VE rfl Z.int (by decide +kernel) (j1 (jv 9))) (þ wa jD (jk ju hr (j2 (jv 0) (jv 4))))))))) (JB (BG (jv 5) (jI ð rfl Z.tuple (by decide +kernel) (j1 (jv 7))))))) (wF (jI ð rfl Z.tuple (by decide +kernel) (j1 (jv 5)))))) ?_;rintro ds h Q ⟨p,l,fl,k,rfl,hp,h0,hk1,hk6,q⟩;refine⟨rfl,?_⟩;refine jg (λÂ h'=> ∃way o l2,Â= [some (.lst p),some (.int (k:P1)),some (.int way),some (.int o),none,none,none,none,none,none]/\0<o/\o<1000/\0<=l2/\h' p=some [.int l2,.int fl]/\ò p h h') (λC hC=>⟨_,rfl,p,l,fl,6,rfl,hp,h0,by decide,by decide,λway l1 w0 w1 l10=>⟨sz3,λp1 e1=>⟨_,rfl,p,l1,fl,3,rfl,jd jc e1,l10,by decide,by decide,λr l2 r0 r1 Ę=> ?_⟩⟩⟩) ?_
 ·obtain⟨Ř,ho,eo⟩:=ZM (xs:= [D.int 2,D.int 3,D.int 5]) r0 r1;obtain⟨o,e,o1,o2⟩: ∃o:P1,Ř= .int o/\0<o/\o<1000:=by
   simp only [R7,F5,or_false] at ho;rcases ho with e|e|e<;>exact⟨_,e,by decide,by decide⟩
  subst e;exact⟨_,_,jf (jq jc e1) jc,eo,_,_,rfl,hC _ _ ⟨way,o,l2,rfl,o1,o2,Ę,jc,((ò.upd).new e1).put⟩⟩
 rintro _ h1 ⟨way,o,l2,rfl,o1,o2,Ę,kA,bA⟩;refine jg (λÂ h'=> ∃m l3,Â= [some (.lst p),some (.int (k:P1)),some (.int way),some (.int o),some (.int m),none,none,none,none,none]/\0<m/\m<=1000000/\0<=l3/\h' p=some [.int l3,.int fl]/\ò p h h') (λC hC=>⟨⟨by decide,by decide,by decide⟩,sz4,λp1 e1=>⟨_,rfl,p,l2,fl,4,rfl,jd kA e1,Ę,by decide,by decide,λr l3 r0 r1 Ÿ=> ?_⟩⟩) ?_
 ·obtain⟨most,ho,eo⟩:=ZM (xs:= [D.int 1,D.int 1,D.int 3,D.int (10^G0Y 6)]) r0 r1;obtain⟨m,e,m1,m2⟩: ∃o:P1,most= .int o/\0<o/\o<=1000000:=by
   simp only [R7,F5,or_false] at ho;rcases ho with e|e|e|e<;>exact⟨_,e,by decide,by decide⟩
  subst e;exact⟨_,_,jf (jq kA e1) jc,eo,hC _ _ ⟨m,l3,rfl,m1,m2,Ÿ,jc,(bA.new e1).put⟩⟩
 clear kA bA;rintro _ h2 ⟨m,l3,rfl,m1,m2,Ÿ,kB,bB⟩;refine jg (λÂ h'=> ∃R,Â= [some (.lst p),some (.int (k:P1)),some (.int way),some (.int o),some (.int m),some (.lst R),none,none,none,none]/\R≠p/\h R=none/\h' R=some []/\h' p=some [.int l3,.int fl]/\ò p h h') (λC hC=>⟨ε,λR eR=>hC _ _ ⟨R,rfl,jq kB eR,ZN bB eR (jq kB eR),jc,jd kB eR,bB.new eR⟩⟩) ?_;clear kB bB;rintro _ h3 ⟨R,rfl,nR,fR,kR,kC,bC⟩;refine jg (LtI k h p R fl way o m k) (λC hC=> ?_) (λÂ h' ⟨a,b,c,d,l4,rows,e,l40,kD,kE,bD,ga,gb⟩=>by subst e;exact⟨_,rfl,_,kE,_,bD.sub kD,q rows l4 ⟨ga,gb⟩ l40⟩);refine Jz k (LtI k h p R fl way o m) (by omega) (λR' r=>⟨_,rfl,r⟩)
  ⟨none,none,none,none,l3,[],rfl,Ÿ,kC,kR,bC,rfl,λr hr=>nomatch hr⟩ (λÂ h' z=>hC _ _ z) ?_
 clear kC kR bC;rintro i _ h4 hi ⟨a,b,c,d,l4,rows,rfl,l40,kD,kE,bD,g1,g2⟩;refine jg (λÂ h'=> ∃S,Â= [some (.lst p),some (.int (k:P1)),some (.int way),some (.int o),some (.int m),some (.lst R),some (.int (i:P1)),some (.lst S),c,d]/\S≠p/\S≠R/\h S=none/\h' S=some []/\h' p=some [.int l4,.int fl]/\h' R=some (rows.map wx)/\ò p h h') (λC hC=>⟨ε,λS eS=>hC _ _ ⟨S,rfl,jq kD eS,jq kE eS,ZN bD eS (jq kD eS),jc,jd kD eS,jd kE eS,bD.new eS⟩⟩) ?_;clear kD kE bD;rintro _ h5 ⟨S,rfl,nS,nSR,fS,kS,kD,kE,bD⟩;refine jg (LtJ k h p R S fl way o m i rows k) (λC hC=> ?_) ?_
 rotate_left
 ·rintro _ h6 ⟨c,d,l5,row,rfl,l50,kD,kE,kF,bD,ga,gb⟩;refine⟨_,rfl,R,rfl,_,rfl,_,kF,_,kE,?_,_,Sub.refl _,by omega,_,_,_,_,l5,rows++ [row],rfl,l50,jf (I0 nR) kD,?_,bD.putNew fR,by rw [P3,g1];rfl,?_⟩
  ·rw [G3];exact Q6 (show rows.length<=1000 by omega) (by decide)
  ·rw [jc,T4];rfl
  ·intro r hr;rcases D8.mp hr with z|z
   ·exact g2 r z
   ·rw [G8.mp z];exact⟨ga,gb⟩
 refine Jz k (LtJ k h p R S fl way o m i rows) (by omega) (λR' r=>⟨_,rfl,r⟩)
  ⟨_,_,l4,[],rfl,l40,kD,kE,kS,bD,rfl,λr hr=>nomatch hr⟩ (λÂ h' z=>hC _ _ z) ?_
 clear kD kE kS bD;rintro j _ h6 hj ⟨c,d,l5,row,rfl,l50,kD,kE,kF,bD,g1',g2'⟩;refine jg (LtG k h p R S fl way o m i j rows row) (λC hC=>⟨_,rfl,_,rfl,p,l5,fl,o,rfl,kD,l50,o1,by omega,λr l6 r0 r1 Ġ=>hC _ _ ⟨_,l6,rfl,Ġ,jc,jf nR kE,jf nS kF,bD.put⟩⟩) ?_;clear kD kE kF bD;rintro _ _ ⟨g,l6,rfl,Ġ,kD,kE,kF,bD⟩;refine jg (LtG k h p R S fl way o m i j rows row) (λC hC=>⟨_,rfl,_,rfl,UM (λ_=>⟨_,rfl,_,rfl,_,rfl,by omega,_,rfl,UM (λ_=>hC _ _ ⟨_,l6,rfl,Ġ,kD,kE,kF,bD⟩) λ_=>⟨_,rfl,_,rfl,UM (λ_=>⟨_,rfl,p,l6,fl,2,rfl,kD,Ġ,by decide,by decide,λr l7 r0 r1 l70=>⟨_,rfl,hC _ _ ⟨_,l7,rfl,l70,jc,jf nR kE,jf nS kF,bD.put⟩⟩⟩) λ_=>hC _ _ ⟨_,l6,rfl,Ġ,kD,kE,kF,bD⟩⟩⟩) λ_=>hC _ _ ⟨_,l6,rfl,Ġ,kD,kE,kF,bD⟩⟩) ?_;clear kD kE kF bD;rintro _ _ ⟨g,l6,rfl,Ġ,kD,kE,kF,bD⟩;refine jg (LtG k h p R S fl way o m i j rows row) (λC hC=>⟨_,rfl,_,rfl,UM (λ_=>⟨_,rfl,_,rfl,UM (λ_=>⟨_,rfl,_,rfl,by decide,_,rfl,UM (λ_=>hC _ _ ⟨_,l6,rfl,Ġ,kD,kE,kF,bD⟩) λ_=>⟨_,rfl,_,rfl,hC _ _ ⟨_,l6,rfl,Ġ,kD,kE,kF,bD⟩⟩⟩) λ_=>⟨_,rfl,UM (λ_=>hC _ _ ⟨_,l6,rfl,Ġ,kD,kE,kF,bD⟩) λ_=>⟨_,rfl,_,rfl,hC _ _ ⟨_,l6,rfl,Ġ,kD,kE,kF,bD⟩⟩⟩⟩) λ_=>hC _ _ ⟨_,l6,rfl,Ġ,kD,kE,kF,bD⟩⟩) ?_;clear kD kE kF bD;rintro _ _ ⟨g,l6,rfl,Ġ,kD,kE,kF,bD⟩;refine jg (LtG k h p R S fl way o m i j rows row) (λC hC=>⟨_,rfl,_,rfl,UM (λ_=>⟨_,rfl,_,rfl,UM (λ_=>⟨_,rfl,_,rfl,hC _ _ ⟨_,l6,rfl,Ġ,kD,kE,kF,bD⟩⟩) λ_=>hC _ _ ⟨_,l6,rfl,Ġ,kD,kE,kF,bD⟩⟩) λ_=>hC _ _ ⟨_,l6,rfl,Ġ,kD,kE,kF,bD⟩⟩) ?_;clear kD kE kF bD;rintro _ _ ⟨g,l6,rfl,Ġ,kD,kE,kF,bD⟩;have gi: ∀x r:P1,0<=r->r<m->x=0\/x=1->ξ x (1+r)/\0<=x*(1+r)/\x*(1+r)<=1000000:=λx r r0 r1 hx=>by
  rcases hx with e|e<;>subst e
  ·exact⟨.inl ⟨by decide,by decide⟩,by omega,by omega⟩
  ·exact⟨.inl ⟨by decide,by decide⟩,by omega,by omega⟩
 refine⟨_,rfl,S,rfl,_,rfl,_,rfl,_,rfl,p,l6,fl,m,rfl,kD,Ġ,m1,by omega,λr l7 r0 r1 l70=> ?_⟩;have gg:=gi (if g=true then 1 else 0) r r0 r1 (by cases g<;>decide);refine⟨gg.1,_,jf nS kF,?_,_,Sub.refl _,by omega,_,_,l7,row++ [(if g=true then 1 else 0)*(1+r)],rfl,l70,jf (I0 nS) jc,jf (I0 nSR) (jf nR kE),?_,(bD.put).putNew fS,by rw [P3,g1'];rfl,?_⟩
 ·rw [G3];exact Q6 (show row.length<=1000 by omega) (by decide)
 ·rw [jc,T4];rfl
 ·intro x hx;rcases D8.mp hx with z|z
  ·exact g2' x z
  ·rw [G8.mp z];exact gg.2
def Jq:RDn:=λds h Q=> ∃p l fl,∃k:G6,ds= [.lst p,.int (k:P1)]/\h p=some [.int l,.int fl]/\0<=l/\k<=6/\ ∀o l',Ģ k o->0<=l'->Q (zM o) (zK h p [.int l',.int fl])
def Vh (Z:Zs mg)(F:ô K "_law_order" "_law_order" yM f fd)(ju:jC P w K mg base n "_law_draw" ["_law_pen_here","_law_many_here"] zJ):Ò P w K mg base í (n+1) f fd ["_law_pen_here","_law_many_here"] (õ K Jq):=by
 refine F.okM yb (λhr=>(js3 (ë 2 yb (Zr wJ)) (Gn L8 rfl (Ŷ Z (jv 1)) (jgn 3 yb) (ze (JB (kO (jv 2) (jk ju hr (j2 (jv 0) (þ wa (jv 3) jD))) (jv 3))))) (wF (jI ð rfl Z.tuple (by decide +kernel) (j1 (jv 2)))))) ?_;rintro ds h Q ⟨p,l,fl,k,rfl,hp,h0,hk,q⟩;refine⟨rfl,?_⟩;refine jg (λÂ h'=> ∃R,Â= [some (.lst p),some (.int (k:P1)),some (.lst R),none]/\R≠p/\h R=none/\h' R=some []/\h' p=some [.int l,.int fl]/\ò p h h') (λC hC=> ?_) ?_
 ·exact⟨ε,λR eR=>hC _ _ ⟨R,rfl,jq hp eR,eR,jc,jd hp eR,(ò.refl p h).new eR⟩⟩
 rintro Â h1 ⟨R,rfl,nR,fR,kR,kp,bt⟩;refine jg (λÂ h'=> ∃a l2 o,Â= [some (.lst p),some (.int (k:P1)),some (.lst R),a]/\0<=l2/\Ģ k o/\h' R=some (o.map λ(i:G6)=>D.int (i:P1))/\h' p=some [.int l2,.int fl]/\ò p h h') (λC hC=> ?_) ?_
 ·refine Jz k (λi Â h'=> ∃a l2 o,Â= [some (.lst p),some (.int (k:P1)),some (.lst R),a]/\0<=l2/\Ģ i o/\h' R=some (o.map λ(i:G6)=>D.int (i:P1))/\h' p=some [.int l2,.int fl]/\ò p h h') (by omega) (λR' r=>⟨_,rfl,r⟩) ⟨none,l,[],rfl,h0,G1m,kR,kp,bt⟩ (λÂ h' z=>hC _ _ z) ?_;rintro i _ h2 hi ⟨a,l2,o,rfl,Ę,ho,kR2,kp2,bt2⟩;refine⟨_,rfl,R,rfl,_,rfl,_,rfl,p,l2,fl,(i:P1)+1,rfl,kp2,Ę,by omega,by omega,λr l3 r0 r1 Ÿ=> ?_⟩;have lo:o.length=i:=ho.ord.len;refine⟨_,rfl,r.toNat,_,by rw [Int.toNat_of_nonneg r0],by omega,jf nR kR2,?_,_,Sub.refl _,by omega,_,l3,o.take r.toNat++i::o.drop r.toNat,rfl,Ÿ,ho.insert r.toNat,?_,jf (I0 nR) jc,(bt2.put).putNew fR⟩
  ·rw [G3];exact Q6 (show o.length<=1000 by omega) (by decide)
  ·rw [jc,T4,T6,iH,iI]
 rintro _ h3 ⟨a,l2,o,rfl,Ę,ho,kR3,kp3,bt3⟩;exact⟨_,rfl,_,kR3,_,bt3.sub kp3,q o l2 ho Ę⟩
def yh:RDn:=λds h Q=> ∃T U,∃n e f:G6,ds= [jp T,jp U]/\Sq n e T/\Sq n f U/\e+f<=1000000/\n<=6/\Q (jp (JD n T U)) h
def Vi (Z:Zs mg)(F:ô K "_law_times" "_law_times" yN f fd):Ò P w K mg base í (n+1) f fd ["_law_one","_law_other"] (õ K yh):=by
 refine F.okM zc (λhr=>(js4 (ë 2 zc (Xt Z (jv 0))) (ë 3 zc (Zr wJ)) (Gn L8 rfl (za (jv 0)) (jgn 4 zc) (ze (JB (BG (jv 3) (jI jW rfl Z.tuple (by decide +kernel) (j1 (Ĥ 5 zc (Ŷ Z (jv 2)) (λ_ _ _ _=>(wj (Da rfl) rfl Z.sum (by decide +kernel) (j1 (Ĥ 6 zc (Ŷ Z (jv 2)) (λ_ _ _ _=>(þ Dk (ÿ (jv 4) (jv 6)) (ÿ (ÿ (jv 1) (jv 6)) (jv 5))))))))))))))) (wF (jI ð rfl Z.tuple (by decide +kernel) (j1 (jv 3)))))) ?_;rintro ds h Q ⟨T,U,k,b,f,rfl,hT,hU,hb,h6,q⟩;refine⟨rfl,?_⟩;refine jg (λÂ h'=>Â= [some (jp T),some (jp U),some (.int (k:P1)),none,none,none,none]/\h=h') (λC hC=>⟨_,rfl,hC _ _ ⟨by rw [G3,hT.len];rfl,rfl⟩⟩) ?_;rintro _ _ ⟨rfl,rfl⟩;refine jg (λÂ h'=> ∃R,Â= [some (jp T),some (jp U),some (.int (k:P1)),some (.lst R),none,none,none]/\h R=none/\h' R=some []/\Sub h h') (λC hC=> ?_) ?_
 ·exact⟨ε,λR eR=>hC _ _ ⟨R,rfl,eR,jc,Sub.newAt (Sub.refl h) eR⟩⟩
 rintro _ h1 ⟨R,rfl,fR,kR,sb⟩;refine jg (λÂ h'=> ∃a b c,Â= [some (jp T),some (jp U),some (.int (k:P1)),some (.lst R),a,b,c]/\h' R=some ((JD k T U).map wx)/\Sub h h') (λC hC=> ?_) ?_
 ·refine yY (j:=λ_=>some (T.map wx)) (T.map wx) (λi Â h'=> ∃a b c,Â= [some (jp T),some (jp U),some (.int (k:P1)),some (.lst R),a,b,c]/\h' R=some ((T.take i).map λr=>D.tup ((P5 k).map λj=> .int (jX k λm=>r.getD m 0*Ð U m j)))/\Sub h h') (λR' r=>⟨_,rfl,r⟩) (λ_ _ _ _=>rfl) ⟨_,_,_,rfl,kR,sb⟩ ?_ ?_
  ·rintro Â h' ⟨a,b,c,e,kR2,Ε⟩;refine hC _ _ ⟨a,b,c,e,?_,Ε⟩;rw [G3,U3,Qi hT] at kR2;exact kR2
  rintro i d _ h2 hd ⟨a,b',c,rfl,kR2,Ε⟩;rw [P9] at hd;cases hx:T[i]? with
  |none=>rw [hx] at hd;cases hd
  |some r=>
   rw [hx] at hd;cases hd;have hr:=P8 hx;have ō:i<T.length:=(P7.mp hx).1;refine⟨_,rfl,R,rfl,?_⟩;refine GU (P5 k) (λj=> .int (j:P1)) (λj=> .int (jX k λm=>r.getD m 0*Ð U m j)) (by rw [R0];omega) rfl (λR rr=>⟨_,rfl,(k:P1),rfl,by omega,by omega,rr⟩) (λj hj Q'' ŗ=> ?_) ?_
   ·refine Kr (P5 k) (λm=> .int (m:P1)) (λm=>r.getD m 0*Ð U m j) (by rw [R0];omega) rfl (λR rr=>⟨_,rfl,(k:P1),rfl,by omega,by omega,rr⟩) (λm hm Q3 q3=> ?_) ŗ;have ų:=D1.mp hm;have hj':=D1.mp hj;refine⟨_,rfl,_,rfl,_,ZQ (hT.row r hr) ų,_,rfl,_,rfl,_,Dm hU ų,_,rfl,_,ZQ (hU.row _ (Sq.getRow hU ų)) hj',?_,q3⟩;refine Qh (e:=b) (f:=f) ?_ (hU.ent_nn ų hj') (by omega);have hm2:m<r.length:=by rw [hT.row r hr];exact ų
    have e1:r.getD m 0=r[m]:=by rw [D2,G1 hm2];rfl
    rw [e1];exact⟨hT.nn r hr _ (N0 hm2),hT.bit r hr _ (N0 hm2)⟩
   ·refine⟨_,kR2,?_,_,Sub.refl _,by rw [G3];omega,_,_,_,rfl,?_,?_⟩
    ·rw [G3,T5];exact Q6 (show min i T.length<=1000 by rw [hT.len];omega) (by decide)
    ·rw [jc,C4,hx,T4];rfl
    ·exact(Ε).over fR
 rintro _ h3 ⟨a,b,c,rfl,kR3,Ρ⟩;exact⟨_,rfl,_,kR3,_,Ρ,q⟩
def wD:RDn:=λds h Q=> ∃T,∃n e:G6,ds= [jp T]/\Sq n e T/\n<=6/\Q (jp (yA n T)) h
def Wv (Z:Zs mg)(F:ô K "_law_marked" "_law_marked" yc f fd):Ò P w K mg base í (n+1) f fd ["_law_table_here"] (õ K wD):=by
 refine F.okM wC (λhr=>(ze (wF (jI jW rfl Z.tuple (by decide +kernel) (j1 (Ĥ 1 wC (za (jv 0)) (λ_ _ _ _=>(jI jW rfl Z.tuple (by decide +kernel) (j1 (Ĥ 2 wC (za (jv 1)) (λ_ _ _ _=>(jI VE rfl Z.int (by decide +kernel) (j1 (Ŵ Fu (jv 2) jD)))))))))))))) ?_;rintro ds h Q ⟨T,k,b,rfl,hT,h6,q⟩;refine⟨rfl,?_⟩;refine GU T wx (λr=> .tup (r.map λx=> .int (if x≠0 then 1 else 0))) (by rw [hT.len];omega) rfl (λR r=>⟨_,rfl,r⟩) (λr hr Q' q'=> ?_) ⟨h,Sub.refl h,?_⟩
 ·refine GU r D.int (λx=> .int (if x≠0 then 1 else 0)) (by rw [hT.row r hr];omega) rfl (λR r=>⟨_,rfl,r⟩) (λx hx Q'' ŗ=>⟨_,rfl,?_⟩) q';show Q'' (.int (if decide (x>0)=true then 1 else 0)) h;have e:(if decide (x>0)=true then (1:P1) else 0)=if x≠0 then 1 else 0:=by
   have:=hT.nn r hr x hx
   by_cases z:x=0
   ·subst z;rfl
   ·rw [R9 z,R9 (S1 (by omega))]
  rw [e];exact ŗ
 ·rw [Do,<-Dp hT];exact q
def wE:RDn:=λds h Q=> ∃T,∃n e:G6,ds= [jp T]/\Sq n e T/\1<=n/\n<=6/\Q (.bl (jG T)) h
def Ww (Z:Zs mg)(F:ô K "_law_filled" "_law_filled" ye f fd):Ò P w K mg base í (n+1) f fd ["_law_table_here"] (õ K wE):=by
 refine F.okM vk (λhr=>(ze (wF (Ŵ Fu (wj (Ds rfl) rfl Z.min (by decide +kernel) (j1 (Ĥ 1 vk (za (jv 0)) (λ_ _ _ _=>(wj (Ds rfl) rfl Z.min (by decide +kernel) (j1 (jv 1))))))) jD)))) ?_;rintro ds h Q ⟨T,k,b,rfl,hT,h1,h6,q⟩;refine⟨rfl,?_⟩;have ne: ∀r∈T,r≠ []:=λr hr z=>by have:=hT.row r hr;rw [z] at this;simp at this;omega
 refine kU T wx Zi (by rw [hT.len];omega) rfl (λR r=>⟨_,rfl,r⟩) (λr hr Q' q'=>⟨_,rfl,FN (ne r hr) λm m1 m2=>by rw [Dt m1 m2];exact q'⟩) ?_ (λm m1 m2=>⟨h,Sub.refl h,?_⟩)
 ·intro z;have:=hT.len;rw [z] at this;simp at this;omega
 ·show Q (.bl (decide (m>0))) h;rw [Yx hT ne m1 m2];exact q
inductive GtA (k:G6)(h:HD)(p:P2)(fl:P1)(i:G6)(ys:G0 D)(h':HD):Prop
 |mk (rs:G0 P2) (l4:P1) (z0:ys=rs.map D.lst) (z1:rs.length=i) (z2:0<=l4) (z3:h' p=some [.int l4,.int fl]) (z4:ò p h h') (z5:p ∉ rs) (z6: ∀a∈rs,h a=none/\ ∃r,h' a=some (r.map D.int)/\wS k r):GtA k h p fl i ys h'
inductive GtB (k:G6)(h:HD)(p:P2)(fl:P1)(rs:G0 P2)(j:G6)(zs:G0 D)(h':HD):Prop
 |mk (r:G0 P1) (l5:P1) (z0:zs=r.map D.int) (z1:r.length=j) (z2:(∀x∈r,0<=x/\x<=1000000)) (z3:0<=l5) (z4:h' p=some [.int l5,.int fl]) (z5:ò p h h') (z6:(∀a∈rs,∃r,h' a=some (r.map D.int)/\wS k r)):GtB k h p fl rs j zs h'
inductive GtC (k:G6)(h:HD)(p R:P2)(fl Ř:P1)(o:G0 G6)(rs:G0 P2)(Â:SD)(h':HD):Prop
 |mk (a b c:D4 D) (l5:P1) (z0:Â= [some (.lst p),some (.int (k:P1)),some (zM o),some (.int Ř),some (.lst R),a,b,c,none,none,none]) (z1:0<=l5) (z2:h' p=some [.int l5,.int fl]) (z3:ò p h h') (z4:ă k h h' p R rs):GtC k h p R fl Ř o rs Â h'
def Jr (Z:Zs mg)(F:ô K "_law_good_table" "_law_good_table" zB f fd)(UB:jC P w K mg base n "_law_order" ["_law_pen_here","_law_many_here"] Jq)(ju:jC P w K mg base n "_law_draw" ["_law_pen_here","_law_many_here"] zJ):Ò P w K mg base í (n+1) f fd ["_law_pen_here","_law_size"] (õ K zV):=by
 refine F.okM jB (λhr=>(js6 (ë 2 jB (jk UB hr (j2 (jv 0) (jv 1)))) (ë 3 jB (ÿ (Zr (j3 jD jD jD)) (jk ju hr (j2 (jv 0) jD)))) (Ek (i:=8) (k:=4) (js:= [8]) rfl jB.nd rfl (Q7 rfl) (zo (by rfl)) (Ŷ Z (jv 1)) (by decide) rfl (by first|exact Q7 rfl|exact aT rfl) (λX' hX=>JC) (λX' hX=>by obtain⟨C,s₀,H₀,ex,rfl⟩:=hX;exact(Ĥ 9 jB (Ŷ Z (jv 1)) (λ_ _ _ _=>(jI VE rfl Z.int (by decide +kernel) (j1 (Ŵ ĉ (jk ju hr (j2 (jv 0) (jv 3))) jD))))))) (Gn L8 rfl (Ŷ Z (jv 1)) (jgn 5 jB) (ζ (Hb (i:=6) (j:=7) rfl jB.nd rfl rfl (by decide) rfl rfl (j2 (ÿ (jv 2) (jv 5)) (ÿ (jv 2) (þ Ja (þ wa (jv 5) jD) (jv 1)))) rfl) (BF (þ wa jD (jk ju hr (j2 (jv 0) jD))) (Qf (ÿ (jv 4) (jv 6)) (jv 7))))) (BF jD (Qf (ÿ (jv 4) (ÿ (jv 2) (Kq jD))) (ÿ (jv 2) (ÿ (Zr (j2 (þ Ja jD (jv 1)) (þ PF (jv 1) jD))) (jk ju hr (j2 (jv 0) jD)))))) (wF (jI jW rfl Z.tuple (by decide +kernel) (j1 (Ĥ 10 jB (za (jv 4)) (λ_ _ _ _=>(jI ð rfl Z.tuple (by decide +kernel) (j1 (jv 10)))))))))) ?_;rintro ds h Q ⟨p,l,fl,k,rfl,hp,h0,hk1,hk6,q⟩;refine⟨rfl,?_⟩;refine jg (λÂ h'=> ∃o l2,Â= [some (.lst p),some (.int (k:P1)),some (zM o),none,none,none,none,none,none,none,none]/\Ģ k o/\0<=l2/\h' p=some [.int l2,.int fl]/\ò p h h') (λC hC=>⟨_,rfl,_,rfl,p,l,fl,k,rfl,hp,h0,hk6,λo l2 ho Ę=>hC _ _ ⟨o,l2,rfl,ho,Ę,jc,ò.upd⟩⟩) ?_;rintro _ h1 ⟨o,l2,rfl,ho,Ę,kp,bt⟩;refine jg (λÂ h'=> ∃Ř l3,Â= [some (.lst p),some (.int (k:P1)),some (zM o),some (.int Ř),none,none,none,none,none,none,none]/\0<Ř/\Ř<1000/\0<=l3/\h' p=some [.int l3,.int fl]/\ò p h h') (λC hC=> ?_) ?_
 ·refine⟨sz3,λp1 e1=>⟨_,rfl,p,l2,fl,3,rfl,jd kp e1,Ę,by decide,by decide,λr l3 r0 r1 Ÿ=> ?_⟩⟩;obtain⟨Ř,ho',eo⟩:=ZM (xs:= [D.int 2,D.int 4,D.int 9]) r0 r1;refine⟨_,Ř,jf (jq kp e1) jc,eo,?_⟩;obtain⟨x,rfl,x1,x2⟩: ∃x:P1,Ř= .int x/\0<x/\x<1000:=by
   simp only [R7,F5,or_false] at ho';rcases ho' with e|e|e<;>exact⟨_,e,by decide,by decide⟩
  exact hC _ _ ⟨x,l3,rfl,x1,x2,Ÿ,jc,(bt.new e1).put⟩
 rintro _ h2 ⟨Ř,l3,rfl,of1,of2,Ÿ,kp,bt⟩;refine jg (λÂ h'=> ∃R rs l4,Â= [some (.lst p),some (.int (k:P1)),some (zM o),some (.int Ř),some (.lst R),none,none,none,none,none,none]/\0<=l4/\h' p=some [.int l4,.int fl]/\ò p h h'/\ă k h h' p R rs) (λC hC=> ?_) ?_
 ·refine BD (h1:=h2) k (GtA k h p fl) (by omega) (λR r=>⟨_,rfl,r⟩) ⟨[],l3,rfl,rfl,Ÿ,kp,bt,by simp,by simp⟩ (λi ys h' ⟨rs,l4,e,el,_,_,_,_,_⟩=>by rw [e,G3];exact el) ?_ ?_
  ·rintro i ys h3 hi ⟨rs,l4,rfl,lrs,l40,kp3,bt3,X0L,ň⟩;refine BD (h1:=h3) k (GtB k h p fl rs) (by omega) (λR r=>⟨_,rfl,r⟩) ⟨[],l4,rfl,rfl,by simp,l40,kp3,bt3,λa ha=>(ň a ha).2⟩ (λj zs h' ⟨r,l5,e,el,_,_,_,_,_⟩=>by rw [e,G3];exact el) ?_ ?_
   ·rintro j zs h4 hj ⟨r,l5,rfl,lr,gr,l50,kp4,bt4,X0n⟩;refine⟨_,rfl,_,rfl,p,l5,fl,Ř,rfl,kp4,l50,of1,by omega,λx l6 x0 x1' Ġ=> ?_⟩;refine⟨_,Sub.refl _,by omega,r++ [if decide (x=1)=true then 1 else 0],l6,by rw [T4];rfl,by rw [P3,lr];rfl,?_,Ġ,jc,bt4.put,λa ha=> ?_⟩
    ·intro y hy;rcases D8.mp hy with z|z
     ·exact gr y z
     ·rw [G8.mp z];split<;>omega
    ·obtain⟨r',e',g'⟩:=X0n a ha;exact⟨r',jf (λz=>X0L (z ▸ ha)) e',g'⟩
   ·rintro zs h4 ⟨r,l5,rfl,lr,gr,l50,kp4,bt4,X0n⟩ q4 e4;refine⟨_,Sub.refl _,by omega,rs++ [q4],l5,by rw [T4];rfl,by simp [lrs],l50,jd kp4 e4,bt4.new e4,?_,λa ha=> ?_⟩
    ·intro z;rcases D8.mp z with y|y
     ·exact X0L y
     ·exact jq kp4 e4 (G8.mp y).symm
    ·rcases D8.mp ha with z|z
     ·obtain⟨r',e',g'⟩:=X0n a z;exact⟨(ň a z).1,r',jd e' e4,g'⟩
     ·have:=G8.mp z;subst this;exact⟨ZN bt4 e4 (jq kp4 e4),r,jc,lr,gr⟩
  ·rintro ys h3 ⟨rs,l4,rfl,lrs,l40,kp3,bt3,X0L,ň⟩ R eR;refine hC _ _ ⟨R,rs,l4,rfl,l40,jd kp3 eR,bt3.new eR,⟨jc,lrs,?_,ZN bt3 eR (jq kp3 eR),X0L,jq kp3 eR,λa ha=>⟨(ň a ha).1,?_⟩⟩⟩
   ·intro hR;obtain⟨_,r,e',_⟩:=ň R hR;rw [e'] at eR;cases eR
   ·obtain⟨r,e',g'⟩:=(ň a ha).2;exact⟨r,jd e' eR,g'⟩
 rintro _ h3 ⟨R,rs,l4,rfl,l40,kp,bt,g⟩;refine jg (GtC k h p R fl Ř o rs) (λC hC=> ?_) ?_
 ·refine Jz k (λ_=>GtC k h p R fl Ř o rs) (by omega) (λR r=>⟨_,rfl,r⟩) ⟨none,none,none,l4,rfl,l40,kp,bt,g⟩ (λÂ h' z=>hC _ _ z) ?_;rintro i _ h4 hi ⟨a,b,c,l5,rfl,l50,kp,bt,g⟩;obtain⟨y1,hy1,ey1⟩:=Xb ho hi;obtain⟨y2,hy2,ey2⟩:=Xb ho (Z5 (i+1) (by omega:0<k));have em:((i:P1)+1)%(k:P1)=(((i+1)%k:G6):P1):=by rw [sR,tN];rfl
  rw [<-em] at ey2;refine wm [some (.lst p),some (.int (k:P1)),some (zM o),some (.int Ř),some (.lst R),some (.int (i:P1)),some (.int (y1:P1)),some (.int (y2:P1)),none,none,none] (λC2 ĸ=> ?_) ?_
  ·exact⟨_,rfl,_,rfl,_,ey1,_,rfl,_,rfl,_,rfl,(by omega:(0:P1)<(k:P1)),_,ey2,_,_,rfl,ĸ⟩
  refine⟨_,rfl,p,l5,fl,3,rfl,kp,l50,by decide,by decide,λr l6 r0 r1 Ġ=> ?_⟩;have g2:=g.pen [.int l6,.int fl];obtain⟨a',r',at',ha',er',gr',fa',na'⟩:=g2.pick hy1;exact⟨_,rfl,_,rfl,_,_,g2.at_,at',_,rfl,a',(y2:P1),_,y2,rfl,rfl,er',Dx (by rw [G3,gr'.1];exact hy2),_,Sub.refl _,by omega,_,_,_,l6,rfl,Ġ,jf (I0 na') jc,(bt.put).putNew fa',g2.set ha' er' gr' (by omega) (by omega)⟩
 rintro _ h5 ⟨a,b,c,l5,rfl,l50,kp,bt,g⟩;obtain⟨z1,hz1,ez1⟩:=No ho hk1;obtain⟨a1,r1,at1,ha1,er1,gr1,fa1,na1⟩:=g.pick hz1;refine jg (λÂ h'=> ∃l6,Â= [some (.lst p),some (.int (k:P1)),some (zM o),some (.int Ř),some (.lst R),a,b,c,none,none,none]/\0<=l6/\h' p=some [.int l6,.int fl]/\ò p h h'/\ă k h h' p R rs) (λC hC=> ?_) ?_
 ·refine⟨_,rfl,_,rfl,_,ez1,_,_,g.at_,at1,_,rfl,_,rfl,(by omega:(0:P1)<(k:P1)),_,rfl,Ň,λq1 e1=>⟨_,rfl,p,l5,fl,2,rfl,jd kp e1,l50,by decide,by decide,λr l6 r0 r1' Ġ=> ?_⟩⟩;obtain⟨d,hd,ed⟩:=ZM (xs:= [D.int ((1:P1)%(k:P1)),D.int ((k:P1)-1)]) r0 r1';obtain⟨w,rfl,hw⟩: ∃w:G6,d= .int (w:P1)/\w<k:=by
   simp only [R7,F5,or_false] at hd;rcases hd with e|e
   ·exact⟨1%k,by rw [e,sR];rfl,Z5 _ (by omega)⟩
   ·exact⟨k-1,by rw [e];congr 1;omega,by omega⟩
  obtain⟨w2,hw2,ew2⟩:=Xb ho hw;have g':=(g.new e1 [D.int ((1:P1)%(k:P1)),D.int ((k:P1)-1)]).pen [.int l6,.int fl];have her:zK (zK h5 q1 [D.int ((1:P1)%(k:P1)),D.int ((k:P1)-1)]) p [.int l6,.int fl] a1=some (r1.map D.int):=jf na1 (jd er1 e1);exact⟨_,_,jf (jq kp e1) jc,ed,_,ew2,a1,(w2:P1),_,w2,rfl,rfl,her,Dx (by rw [G3,gr1.1];exact hw2),hC _ _ ⟨l6,rfl,Ġ,jf (I0 na1) jc,((bt.new e1).put).putNew fa1,g'.set ha1 her gr1 (by decide) (by decide)⟩⟩
 rintro _ h6 ⟨l6,rfl,Ġ,kp,bt,g⟩;obtain⟨T,gT,eT⟩:=g.tab;refine GU (j:=λh=>h R) rs D.lst (λa=> .tup ((h6 a).getD [])) (by rw [g.len];omega) g.at_ (λR r=>⟨_,rfl,r⟩) (λa ha Q' q'=> ?_) ⟨_,bt.sub kp,?_⟩
 ·obtain⟨_,r,er,_⟩:=g.row a ha;rw [er] at q';exact⟨_,rfl,_,er,q'⟩
 ·rw [eT];exact q T l6 gT Ġ
inductive MyA (k m:G6)(h:HD)(p F:P2)(fl:P1)(i:G6)(Â:SD)(h':HD):Prop
 |mk (Ts:G0 (G0 (G0 P1))) (a b c:D4 D) (l2:P1) (z1:Â= [some (.lst p),some (.int (k:P1)),some (.int (m:P1)),some (.lst F),a,b,c,none,none]) (z2:h' F=some (Ts.map jp)) (z3:Ts.length=i) (z4: ∀T∈Ts,Sq k 20 T) (z5:0<=l2) (z6:h' p=some [.int l2,.int fl]) (z7:ò p h h'):MyA k m h p F fl i Â h'
inductive MyT (k m:G6)(h:HD)(p F:P2)(fl:P1)(Ts:G0 (G0 (G0 P1)))(i:G6)(c:D4 D)(Â:SD)(h':HD):Prop
 |mk (T:G0 (G0 P1)) (l2:P1) (z1:Â= [some (.lst p),some (.int (k:P1)),some (.int (m:P1)),some (.lst F),some (.int (i:P1)),some (jp T),c,none,none]) (z0:Sq k 20 T) (z2:h' F=some (Ts.map jp)) (z3:Ts.length=i) (z4: ∀T∈Ts,Sq k 20 T) (z5:0<=l2) (z6:h' p=some [.int l2,.int fl]) (z7:ò p h h'):MyT k m h p F fl Ts i c Â h'
def Zm:RDn:=λds h Q=> ∃p l fl,ds= [.lst p]/\h p=some [.int l,.int fl]/\0<=l/\ ∀F n Ts l' h',h F=none->h' F=some (Ts.map jp)->Ä n Ts->ò p h h'->h' p=some [.int l',.int fl]->0<=l'->Q (.lst F) h'
def Uz (Z:Zs mg)(F:ô K "_law_many" "_law_many" vL f fd)(ju:jC P w K mg base n "_law_draw" ["_law_pen_here","_law_many_here"] zJ)(UC:jC P w K mg base n "_law_table" ["_law_pen_here","_law_size"] zV)(Ze:jC P w K mg base n "_law_good_table" ["_law_pen_here","_law_size"] zV):Ò P w K mg base í (n+1) f fd ["_law_pen_here"] (õ K Zm):=by
 refine F.okM jK (λhr=>(js4 (Hb (i:=1) (j:=2) rfl jK.nd rfl rfl (by decide) rfl rfl (j2 (þ wa jD (ÿ (Zr (jac jD (by exact(j4 jD jD jD jD)))) (jk ju hr (j2 (jv 0) jD)))) (þ wa jD (jk ju hr (j2 (jv 0) jD)))) rfl) (ë 3 jK (Zr wJ)) (Gn L8 rfl (Ŷ Z (jv 2)) (jgn 4 jK) (js5 (ë 5 jK (jk UC hr (j2 (jv 0) (jv 1)))) (ë 6 jK (jk ju hr (j2 (jv 0) jD))) (WR (ŵ ĉ (jv 6) jD) (ë 5 jK (jk Ze hr (j2 (jv 0) (jv 1))))) (WR (jpt (Ej (ŵ ĉ (jv 6) jD) (Ei (ŵ (BE hr.units) (jv 3) (Zr wJ))))) (ë 5 jK (jI jW rfl Z.tuple (by decide +kernel) (j1 (Ĥ 7 jK (Ŷ Z (jv 1)) (λ_ _ _ _=>(jI jW rfl Z.tuple (by decide +kernel) (j1 (Ĥ 8 jK (za (ÿ (jv 3) jD)) (λ_ _ _ _=>(ÿ (jv 8) (jv 7)))))))))))) (JB (BG (jv 3) (jv 5))))) (wF (jv 3)))) ?_;rintro ds h Q ⟨p,l,fl,rfl,hp,h0,q⟩;refine⟨rfl,?_⟩;refine jg (λÂ h'=> ∃ (k m:G6) (l1:P1),Â= [some (.lst p),some (.int (k:P1)),some (.int (m:P1)),none,none,none,none,none,none]/\1<=k/\k<=3/\1<=m/\m<=3/\0<=l1/\h' p=some [.int l1,.int fl]/\ò p h h') (λC hC=> ?_) ?_
 ·refine⟨sz5,λp1 e1=>⟨_,rfl,p,l,fl,5,rfl,jd hp e1,h0,by decide,by decide,λr l1 r0 r1 l10=> ?_⟩⟩;obtain⟨d,hd,ed⟩:=ZM (xs:= [D.int 0,D.int 1,D.int 2,D.int 2,D.int 1]) r0 r1;obtain⟨x,rfl,x0,x2⟩: ∃x:P1,d= .int x/\0<=x/\x<=2:=by
   simp only [R7,F5,or_false] at hd;rcases hd with e|e|e|e|e<;>exact⟨_,e,by decide,by decide⟩
  refine⟨_,_,jf (jq hp e1) jc,ed,_,rfl,p,l1,fl,3,rfl,jc,l10,by decide,by decide,λy l2 y0 y1 Ę=> ?_⟩;obtain⟨k,hk,k1,k3⟩: ∃k:G6,1+x=(k:P1)/\1<=k/\k<=3:=⟨(1+x).toNat,by omega,by omega,by omega⟩;obtain⟨m,hm,m1,m3⟩: ∃m:G6,1+y=(m:P1)/\1<=m/\m<=3:=⟨(1+y).toNat,by omega,by omega,by omega⟩;exact⟨_,_,rfl,hC _ _ ⟨k,m,l2,by rw [<-hk,<-hm];rfl,k1,k3,m1,m3,Ę,jc,((ò.refl p h).new e1).put.put⟩⟩
 rintro _ h1 ⟨k,m,l1,rfl,k1,k3,m1,m3,l10,kp,bt⟩;refine jg (λÂ h'=> ∃F,Â= [some (.lst p),some (.int (k:P1)),some (.int (m:P1)),some (.lst F),none,none,none,none,none]/\h' F=some (([]:G0 (G0 (G0 P1))).map jp)/\h F=none/\F≠p/\h' p=some [.int l1,.int fl]/\ò p h h') (λC hC=>⟨ε,λF eF=>hC _ _ ⟨F,rfl,jc,ZN bt eF (jq kp eF),jq kp eF,jd kp eF,bt.new eF⟩⟩) ?_;rintro _ h2 ⟨F,rfl,kF,fF,nF,kp,bt⟩;refine jg (MyA k m h p F fl m) (λC hC=> ?_) ?_
 ·refine Jz m (MyA k m h p F fl) (by omega) (λR r=>⟨_,rfl,r⟩) ⟨[],none,none,none,l1,rfl,kF,rfl,by simp,l10,kp,bt⟩ (λÂ h' z=>hC _ _ z) ?_;rintro i _ h3 hi ⟨Ts,a,b,c,l2,rfl,kF,lT,sT,Ę,kp,bt⟩;refine jg (MyT k m h p F fl Ts i c) (λC2 ĸ=>⟨_,rfl,_,rfl,p,l2,fl,k,rfl,kp,Ę,k1,by omega,λT l3 gT Ÿ=>ĸ _ _ ⟨T,l3,rfl,gT.sq,jf nF kF,lT,sT,Ÿ,jc,bt.put⟩⟩) ?_;rintro _ h4 ⟨T,l2,rfl,hT,kF,lT,sT,Ę,kp,bt⟩;refine jg (λÂ h'=> ∃w l2,Â= [some (.lst p),some (.int (k:P1)),some (.int (m:P1)),some (.lst F),some (.int (i:P1)),some (jp T),some (.int w),none,none]/\h' F=some (Ts.map jp)/\Ts.length=i/\(∀T∈Ts,Sq k 20 T)/\0<=l2/\h' p=some [.int l2,.int fl]/\ò p h h') (λC2 ĸ=>⟨_,rfl,p,l2,fl,4,rfl,kp,Ę,by decide,by decide,λw l3 w0 w1 Ÿ=>ĸ _ _ ⟨w,l3,rfl,jf nF kF,lT,sT,Ÿ,jc,bt.put⟩⟩) ?_;rintro _ h5 ⟨w,l2,rfl,kF,lT,sT,Ę,kp,bt⟩;refine jg (MyT k m h p F fl Ts i (some (.int w))) (λC2 ĸ=>⟨_,rfl,_,rfl,UM (λ_=>⟨_,rfl,_,rfl,p,l2,fl,k,rfl,kp,Ę,k1,by omega,λT2 l3 gT Ÿ=>ĸ _ _ ⟨T2,l3,rfl,gT.sq,jf nF kF,lT,sT,Ÿ,jc,bt.put⟩⟩) (λ_=>ĸ _ _ ⟨T,l2,rfl,hT,kF,lT,sT,Ę,kp,bt⟩)⟩) ?_;rintro _ h6 ⟨T,l2,rfl,hT,kF,lT,sT,Ę,kp,bt⟩;refine jg (MyT k m h p F fl Ts i (some (.int w))) (λC2 ĸ=> ?_) ?_
  ·refine⟨_,rfl,_,rfl,UM (λ_=> ?_) (λ_=>vt (ĸ _ _ ⟨T,l2,rfl,hT,kF,lT,sT,Ę,kp,bt⟩))⟩;refine⟨_,rfl,ε,λp1 e1=> ?_⟩;refine⟨.list (Ts.map Dl),.list [],⟨_,_,rfl,jd kF e1,Ŏ.tos _ Ts⟩,⟨_,_,rfl,jc,rfl⟩,Xe Ts,rfl,_,rfl,?_⟩;cases Ts with
   |nil=>exact vt (ĸ _ _ ⟨T,l2,rfl,hT,jd kF e1,lT,sT,Ę,jd kp e1,bt.new e1⟩)
   |cons T0 Ts'=>
    have s0:=sT T0 P4;have kF':zK h6 p1 [] F=some ((T0::Ts').map jp):=jd kF e1;refine XW (GU (P5 k) (λj=> .int (j:P1)) (λj=> .tup (T0.map λr=> .int (r.getD j 0))) (by rw [R0];omega) rfl (λR r=>⟨_,rfl,(k:P1),rfl,by omega,by omega,r⟩) (λj hj Q' q'=> ?_) ?_)
    ·refine GU T0 wx (λr=> .int (r.getD j 0)) (by rw [s0.len];omega) rfl (λR r=>⟨_,rfl,_,_,kF',(zY (show ((T0::Ts').map jp)[0]? =some (jp T0) from rfl)),r⟩) (λr hr Q'' ŗ=>⟨_,rfl,_,rfl,_,ZQ (s0.row r hr) (D1.mp hj),ŗ⟩) q'
    ·have e1': ∀j,T0.map (λr=>D.int (r.getD j 0))=(P5 k).map λi=>D.int (Ð T0 i j):=λj=>by
      conv=>lhs;rw [jT T0 [],s0.len]
      rw [N8];rfl
     have e2:((P5 k).map λj=>D.tup (T0.map λr=> .int (r.getD j 0)))=(P5 k).map λj=>D.tup ((P5 k).map λi=>D.int (Ð T0 i j)):=C7 λj _=>by rw [e1']
     rw [e2,BH];exact ĸ _ _ ⟨El k T0,l2,rfl,s0.turn,kF',lT,sT,Ę,jd kp e1,bt.new e1⟩
  rintro _ h7 ⟨T,l2,rfl,hT,kF,lT,sT,Ę,kp,bt⟩;refine⟨_,rfl,F,rfl,_,rfl,_,kF,?_,_,Sub.refl _,by omega,Ts++ [T],_,_,_,l2,rfl,?_,by rw [P3,lT];rfl,?_,Ę,jf (I0 nF) kp,bt.putNew fF⟩
  ·rw [G3];exact zb (by omega)
  ·rw [jc,T4];rfl
  ·intro U hU;rcases D8.mp hU with z|z
   ·exact sT U z
   ·rw [G8.mp z];exact hT
 rintro _ h3 ⟨Ts,a,b,c,l2,rfl,kF,lT,sT,Ę,kp,bt⟩;exact⟨_,rfl,h3,Sub.refl _,q F k Ts l2 h3 fF kF ⟨k1,k3,by omega,by omega,sT⟩ bt kp Ę⟩
def Wj:RDn:=λds h Q=> ∃M A Ts W,∃n:G6,ds= [jp M,.lst A,zM W]/\Sq n 1 M/\h A=some (Ts.map jp)/\Ä n Ts/\(∀i∈W,i<Ts.length)/\W.length<=1300/\Q (jp (JH n Ts M W)) h
def XN (Z:Zs mg)(F:ô K "_law_led" "_law_led" Za f fd)(zW:jC P w K mg base n "_law_marked" ["_law_table_here"] wD)(yT:jC P w K mg base n "_law_times" ["_law_one","_law_other"] yh):Ò P w K mg base í (n+1) f fd ["_law_here","_law_tables","_law_way"] (õ K Wj):=by
 refine F.okM vM (λhr=>(ζ (Gn L8 rfl (za (jv 2)) (jgn 3 vM) (ze (ë 0 vM (jk zW hr (j1 (jk yT hr (j2 (jv 0) (ÿ (jv 1) (jv 3))))))))) (wF (jv 0)))) ?_;rintro ds h Q ⟨M,A,Ts,W,n,rfl,hM,kA,hT,hW,hl,q⟩;refine⟨rfl,?_⟩;have n1:=hT.n1;have n3:=hT.n3;refine jg (λÂ h'=> ∃a,Â= [some (jp (JH n Ts M W)),some (.lst A),some (zM W),a]/\h=h') (λC hC=> ?_) (λÂ h' ⟨a,e,eh⟩=>by subst e eh;exact⟨_,rfl,h,Sub.refl h,q⟩);refine yY (h1:=h) (j:=λ_=>some (W.map λ(k:G6)=>D.int (k:P1))) (W.map λ(k:G6)=>D.int (k:P1)) (λi Â h'=> ∃a,Â= [some (jp (JH n Ts M (W.take i))),some (.lst A),some (zM W),a]/\h=h') (λR r=>⟨_,rfl,r⟩) (λ_ _ _ _=>rfl) ⟨none,rfl,rfl⟩ (λÂ h' ⟨a,e,eh⟩=>hC _ _ ⟨a,by rw [e,G3,U3],eh⟩) ?_;rintro i d _ _ hd ⟨a,rfl,rfl⟩;have ō:=(P7.mp hd).1;rw [G3] at ō;rw [P9,G1 ō] at hd;injection hd with hd
 subst hd;have hw:=hW _ (N0 ō);have eT:JH n Ts M (W.take (i+1))=ç n (Ts.getD W[i] []) (JH n Ts M (W.take i)):=by
  rw [C4,G1 ō];exact Xd _ _ _
 have s1:=Dy (Ts:=Ts) M hM (W.take i);refine⟨_,rfl,_,rfl,_,rfl,_,_,kA,Xc hT hw,JH n Ts M (W.take i),Ts.getD W[i] [],n,1,20,rfl,s1,hT.get hw,by omega,by omega,JD n (JH n Ts M (W.take i)) (Ts.getD W[i] []),n,24,rfl,s1.mul (hT.get hw) (by omega),by omega,_,Sub.refl _,by rw [G3];omega,some (.int ((W[i]:G6):P1)),?_,rfl⟩;rw [eT];rfl
noncomputable def afD:D4 G6->D
 |none=> .non
 |some m=> .int ((m:G6):P1)
def Sv {te:TAD}{t u:TSD}{E:EndsD}{σ:SD}(x:Ĩ Na te σ h λd h2=> ∃k,d= .bl k/\if k=true then t E σ h2 else u E σ h2):MW (vV (Ĩ Na te)) t u E σ h:=x
noncomputable def nxT (n:G6)(Ts:Tbs)(M:G0 (G0 P1)):Tbs:=(P5 Ts.length).map λi=>ç n (Ts.getD i []) M
def Oi (n:G6)(Ts:Tbs)(M:G0 (G0 P1)):Ts.map (λT=>jp (ç n T M))=(nxT n Ts M).map jp:=by
 conv=>lhs;rw [jT Ts []]
 unfold nxT;rw [N8,N8];rfl
noncomputable def laL (n:G6)(Ts:Tbs)(hs:Tbs):Tbs:=hs.flatMap (nxT n Ts)
theorem Mo (n:G6)(Ts:Tbs): ∀hs:Tbs,(laL n Ts hs).length=hs.length*Ts.length
 | []=>by simp [laL]
 |M::hs=>by
  have:=Mo n Ts hs;unfold laL at this ⊢;rw [dA,P3,this,R3,gJ,nxT,G3,R0,nH]
def Mp {Ts hs:Tbs}(o:Đ n Ts k hs)(M:G0 (G0 P1)):M∈laL n Ts hs↔đ n Ts (k+1) M:=by
 unfold laL nxT;rw [dQ];constructor
 ·rintro ⟨N,hN,z⟩;obtain⟨a,ha,rfl⟩:=R6.mp z;exact WY ((o.2 N).mp hN) (D1.mp ha)
 ·intro z;obtain⟨N,a,hN,ha,rfl⟩:=Jo z;exact⟨N,(o.2 N).mpr hN,R6.mpr ⟨a,D1.mpr ha,rfl⟩⟩
def Mq {Ts:Tbs}(M:G0 (G0 P1)):M∈Ts.map (yA n)↔đ n Ts 0 M:=by
 rw [ĵ,R6];constructor
 ·rintro ⟨T,hT,rfl⟩;obtain⟨a,ha⟩:=iB.mp hT;exact⟨a,(P7.mp ha).1,by rw [D2,ha];rfl⟩
 ·rintro ⟨a,ha,rfl⟩;exact⟨Ts.getD a [],by rw [D2,G1 ha];exact N0 ha,rfl⟩
inductive AfW (n:G6)(Ts:Tbs)(h:HD)(A S:P2)(N m:G6)(Â:SD)(h':HD):Prop
 |mk (i:G6) (X:P2) (hs:Tbs) (as:G0 P2) (ss:G0 Tbs) (c3 c4:D4 D) (es:Â= [some (.lst A),some (.lst X),some (.lst S),c3,c4,none]) (o:Đ n Ts i hs) (kX:h' X=some (hs.map jp)) (sn:Seen n Ts i ss) (kS:h' S=some (as.map D.lst)) (tl:Δ h' as ss) (lo: ∀l,l<i-> ¬QX n Ts l) (sb:Sub h h') (hm:m+i=N):AfW n Ts h A S N m Â h'
def yn:RDn:=λds h Q=> ∃A Ts,∃n:G6,ds= [.lst A]/\h A=some (Ts.map jp)/\Ä n Ts/\ ∀o,AfF n Ts o->Q (afD o) h
def Zu (Z:Zs mg)(F:ô K "_law_all_from" "_law_all_from" we f fd)(zW:jC P w K mg base n "_law_marked" ["_law_table_here"] wD)(yi:jC P w K mg base n "_law_filled" ["_law_table_here"] wE)(yT:jC P w K mg base n "_law_times" ["_law_one","_law_other"] yh):Ò P w K mg base í (n+1) f fd ["_law_tables"] (õ K yn):=by
 refine F.okM jy (λhr=>(js4 (ë 1 jy (KF hr rfl rfl Z.sorted rfl Z.set (j1 (Ĥ 5 jy (za (jv 0)) (λ_ _ _ _=>(jk zW hr (j1 (jv 5)))))))) (ë 2 jy (Zr wJ)) (VQ L8 (Gm (Yw hr.units) (jv 1) (jv 2) (by with_unfolding_all rfl)) (js5 (WR (yq (wj (WG rfl) rfl Z.all Y8 (j1 (Ĥ 4 jy (za (jv 1)) (λ_ _ _ _=>(jk yi hr (j1 (jv 4)))))))) (wF (þ wa (Xt Z (jv 2)) jD))) (JB (BG (jv 2) (jv 1))) (ë 3 jy (Zr wJ)) (Gn L8 rfl (za (jv 1)) (jgn 4 jy) (ze (ë 3 jy (þ wa (jv 3) (Ĥ 5 jy (za (jv 0)) (λ_ _ _ _=>(jk zW hr (j1 (jk yT hr (j2 (jv 4) (jv 5))))))))))) (ë 1 jy (KF hr rfl rfl Z.sorted rfl Z.set (j1 (jv 3)))))) (wF Eg))) ?_;rintro ds h Q ⟨A,Ts,n,rfl,kA,hT,q⟩;refine⟨rfl,?_⟩;have n1:=hT.n1;have n3:=hT.n3;have l1:=hT.l1;have l3:=hT.l3;have B:=HH (n:=n) n3;have tn: ∀M,Sq n 1 M->M≠ []:=λM s e=>by have:=s.len;rw [e] at this;rw [<-this] at n1;exact absurd n1 (by decide)
 obtain⟨P,eP⟩: ∃P:G6,P=55440:=⟨_,rfl⟩;have Ċ:13965299+P<sizeLine:=by rw [eP];decide
 refine jg (λÂ h'=> ∃X hs,Â= [some (.lst A),some (.lst X),none,none,none,none]/\Đ n Ts 0 hs/\h' X=some (hs.map jp)/\Sub h h') (λC hC=>Oa ?_) ?_
 ·refine lcA (j:=λh=>h A) Ts jp (λT=>jp (yA n T)) (by omega) kA (λR r=>⟨_,rfl,r⟩) (λT hm Q' q'=>⟨_,rfl,T,n,20,rfl,hT.sq T hm,by omega,q'⟩) (λp hp=>⟨p,Ts.map (yA n),_,rfl,by rw [jc,N8];rfl,B.1,λT hm=> ?_,λX ks eX pw mem=>hC _ _ ⟨X,ks,rfl,⟨pw,λM=>(mem M).trans (Mq M)⟩,jc,((Sub.refl h).newAt hp).newAt eX⟩⟩);obtain⟨U,hU,rfl⟩:=R6.mp hm;exact⟨B.2 _ (Sq.mark U),tn _ (Sq.mark U)⟩
 rintro _ h1 ⟨X,hs,rfl,o,kX,sb⟩;refine jg (λÂ h'=> ∃S,Â= [some (.lst A),some (.lst X),some (.lst S),none,none,none]/\h' X=some (hs.map jp)/\h' S=some []/\Sub h h'/\h S=none) (λC hC=>⟨ε,λS eS=>hC _ _ ⟨S,rfl,jd kX eS,jc,sb.newAt eS,YG sb eS⟩⟩) ?_;clear kX sb;rintro _ h2 ⟨S,rfl,kX,kS,sb,fS⟩;refine jg (λÂ h'=>AfF n Ts none/\Sub h h') (λC hC=> ?_) ?_
 ·refine Jc (AfW n Ts h A S (13965299+P)) (13965299+P) ⟨0,X,hs,[],[],_,_,rfl,o,kX,⟨rfl,λj s z=>by cases z⟩,kS,trivial,λl z=>absurd z (U1 l),sb,rfl⟩ ?_;clear o kX kS sb;rintro m _ h3 ⟨i,X,hs,as,ss,c3,c4,rfl,o,kX,sn,kS,tl,lo,sb,hm⟩;refine⟨_,rfl,_,rfl,HG kX kS tl λb hb=>⟨_,rfl,UM (λc=> ?_) (λc=> ?_)⟩⟩
  rotate_left
  ·refine hC _ _ ⟨HI hT sn o (hb.mp ?_) lo,sb⟩;cases b with
   |true=>rfl
   |false=>exact absurd rfl c
  have new:hs ∉ ss:=λz=>by rw [hb.mpr z] at c;exact absurd c (by decide)
  have il:i<13965299+P:=Nat.lt_of_not_le λz=>new (Ob hT sn o eP z)
  have X1B:=o.few n3;refine jg (λÂ h'=>Â= [some (.lst A),some (.lst X),some (.lst S),c3,c4,none]/\h3=h'/\ ¬QX n Ts i) (λC hC=>Sv ?_) ?_
  ·refine He (j:=λh=>h X) hs jp jG (by omega) kX (λR r=>⟨_,rfl,r⟩) (λM hM Q' q'=>⟨_,rfl,M,n,1,rfl,((o.2 M).mp hM).sq,n1,by omega,q'⟩) ⟨_,rfl,?_⟩
   by_cases z:QX n Ts i
   ·rw [(Ch o).mpr z];have e:=q (some (i+1)) (LZ hT z lo);have ln:(as.map D.lst).length=i:=by rw [G3,tl.len,sn.1]
    exact XW ⟨_,rfl,_,kS,⟨h,sb,by rw [ln];exact e⟩⟩
   ·rw [V2.mpr λw=>z ((Ch o).mp w)];exact vt (hC _ _ ⟨rfl,rfl,z⟩)
  rintro _ _ ⟨rfl,rfl,na⟩;have aS: ∀Y Ms,h3 Y=some (rT jp Ms)->Ms≠ []->Y≠S:=λY Ms k ne=>Me ne k kS
  refine jg (λÂ h'=>Â= [some (.lst A),some (.lst X),some (.lst S),c3,c4,none]/\h' X=some (hs.map jp)/\h' S=some ((as++ [X]).map D.lst)/\Δ h' (as++ [X]) (ss++ [hs])/\Sub h h') (λC hC=>⟨_,rfl,S,rfl,_,rfl,_,kS,?_,hC _ _ ⟨rfl,?_,?_,?_,sb.over fS⟩⟩) ?_
  ·rw [G3,tl.len,sn.1];omega
  ·exact jf (aS X hs kX (o.some hT)) kX
  ·rw [jc,T4];rfl
  ·exact(tl.mono λa s hs' k=>jf (aS a s k (by
    obtain⟨j,hj⟩:=iB.mp hs';exact(sn.2 j s hj).some hT)) k).snoc (jf (aS X hs kX (o.some hT)) kX)
  clear aS kX kS tl sb;rintro _ h4 ⟨rfl,kX,kS,tl,sb⟩;refine jg (λÂ h'=> ∃Y,Â= [some (.lst A),some (.lst X),some (.lst S),some (.lst Y),c4,none]/\h' Y=some []/\Sub h4 h') (λC hC=>⟨ε,λY eY=>hC _ _ ⟨Y,rfl,jc,.new eY⟩⟩) ?_;rintro _ h5 ⟨Y,rfl,kY,s5⟩;refine jg (λÂ h'=> ∃c4 Y,Â= [some (.lst A),some (.lst X),some (.lst S),some (.lst Y),c4,none]/\h' Y=some ((laL n Ts hs).map jp)/\Sub h4 h') (λC hC=> ?_) ?_
  ·refine yY (h1:=h5) (j:=λh=>h X) (hs.map jp) (λj Â h'=> ∃c4 Y,Â= [some (.lst A),some (.lst X),some (.lst S),some (.lst Y),c4,none]/\h' Y=some ((laL n Ts (hs.take j)).map jp)/\Sub h4 h') (λR r=>⟨_,rfl,r⟩) (λj Â h' ⟨_,_,_,_,z⟩=>z _ _ kX) ⟨c4,Y,rfl,kY,s5⟩ (λÂ h' ⟨c4,Y,e,a1,a5⟩=>hC _ _ ⟨c4,Y,e,?_,a5⟩) ?_
   ·rw [a1,G3,U3]
   clear kY s5;rintro j d _ h6 hd ⟨c4,Y,rfl,kY,s6⟩;have ō:=(P7.mp hd).1;rw [P9] at hd;obtain⟨M,eM,rfl⟩:=F6.mp hd;have sM:Sq n 1 M:=((o.2 M).mp (P8 eM)).sq;have tk:laL n Ts (hs.take (j+1))=laL n Ts (hs.take j)++nxT n Ts M:=by
    rw [C4,eM];unfold laL;rw [dZ];simp
   refine⟨_,rfl,lcA (j:=λh=>h A) Ts jp (λT=>jp (ç n T M)) (by omega) (s6 _ _ (sb _ _ kA)) (λR r=>⟨_,rfl,r⟩) (λT hm Q' q'=>⟨_,rfl,_,rfl,M,T,n,1,20,rfl,sM,hT.sq T hm,by omega,by omega,JD n M T,n,_,rfl,sM.mul (hT.sq T hm) (by omega),by omega,q'⟩) (λZ eZ=>⟨_,_,jd kY eZ,jc,?_,λV eV=>⟨_,Sub.refl _,ō,_,V,rfl,?_,(s6.newAt eZ).newAt eV⟩⟩)⟩
   ·have:=Mo n Ts (hs.take j);have t:(hs.take j).length<=512:=R8 (List.length_take_le' _ _) X1B;have u:=uO t l3;rw [G3,G3];exact R8 (show _<=2000 by omega) (by decide)
   ·rw [jc,tk,T4,Oi]
  clear kY s5;rintro _ h6 ⟨c4,Y,rfl,kY,s6⟩;refine⟨_,rfl,Y,_,_,rfl,kY,B.1,λM hM=> ?_,λX2 ks e2 pw mem=>⟨m-1,_,by omega,Sub.refl _,i+1,X2,ks,as++ [X],ss++ [hs],_,_,rfl,⟨pw,λM=>(mem M).trans (Mp o M)⟩,jc,sn.snoc o,jd (s6 _ _ kS) e2,(tl.mono λa s _ k=>jd (s6 _ _ k) e2),λl hl=> ?_,(sb.trans s6).newAt e2,by omega⟩⟩
  ·have:=((Mp o M).mp hM).sq;exact⟨B.2 _ this,tn _ this⟩
  ·by_cases z:l=i
   ·subst z;exact na
   ·exact lo l (by omega)
 rintro _ h3 ⟨no,Ρ⟩;exact⟨h,Ρ,q none no⟩
def wP:RDn:=λds h Q=> ∃A,∃ (Ts:G0 (G0 (G0 P1))),∃W,∃lo:P1,ds= [.lst A,zM W,.int lo]/\h A=some (Ts.map jp)/\(∀i∈W,i<Ts.length)/\lo<=(W.length:P1)/\W.length<=600/\Q (.bl true) h
def Zd (Z:Zs mg)(F:ô K "_law_is_places" "_law_is_places" zP f fd)(UD:jC P w K mg base n "_law_whole" ["_law_thing"] yf):Ò P w K mg base í (n+1) f fd ["_law_tables","_law_thing","_law_least"] (õ K wP):=by
 refine F.okM wN (λhr=>(ζ (WR (jpt (Dc (wI (yq (Yp (T:= "tuple") (by decide) rfl Z.isinstance rfl Z.tuple (by decide +kernel) (jv 1)))) (Nd (wI (UX UU UU (jv 2) (Xt Z (jv 1)) jD))))) (wF Ν)) (wF (wj (WG rfl) rfl Z.all Y8 (j1 (Ĥ 3 wN (za (jv 1)) (λ_ _ _ _=>(FE (jk UD hr (j1 (jv 3))) (Ng (Eh UU Ft jD (jv 3) (Xt Z (jv 0)))))))))))) ?_;rintro ds h Q ⟨A,Ts,W,lo,rfl,kA,hW,h1,h6,q⟩;refine⟨rfl,?_⟩;have hlen:(((Ts.map jp).length:G6):P1)=(Ts.length:P1):=by rw [G3]
 refine wm [some (.lst A),some (zM W),some (.int lo),none] (λC hC=> ?_) ?_
 ·refine⟨_,rfl,"tuple",rfl,_,rfl,vt ⟨_,rfl,_,rfl,_,rfl,?_⟩⟩;show if decide (lo<=(((W.map λ(k:G6)=>D.int (k:P1)).length:G6):P1))=true then _ else _
  rw [G3,S1 h1];refine XW ⟨_,rfl,?_⟩;show if (!decide (((W.length:G6):P1)<=600))=true then _ else _
  rw [S1 (by omega)];exact vt (hC)
 refine He W (λ(k:G6)=> .int (k:P1)) (λ_=>true) (by omega) rfl (λR r=>⟨_,rfl,r⟩) (λi hi Q' q'=> ?_) ⟨h,Sub.refl h,by rw [show (W.all λ_=>true)=true from S8.mpr λ_ _=>rfl];exact q⟩;refine⟨_,rfl,.int (i:P1),_,rfl,rfl,_,rfl,XW ⟨_,rfl,_,rfl,?_⟩⟩;show if decide ((0:P1)<=(i:P1))=true then _ else _
 rw [S1 (by omega)];refine XW ⟨_,rfl,_,kA,?_⟩;show Q' (.bl (decide ((i:P1)<(((Ts.map jp).length:G6):P1)))) h;rw [hlen,S1 (by have:=hW i hi;omega)];exact q'
def Oj (hT:Ä n Ts){w:G0 G6}(hw:UN Ts w):JH n Ts (Ys n) w=Ó n Ts w:=by
 cases w with
 |nil=>rfl
 |cons a v=>
  show JH n Ts (ç n (Ts.getD a []) (Ys n)) v=JH n Ts (yA n (Ts.getD a [])) v;rw [<-RT hT (hw.2 a P4)];rfl
def Js:RDn:=λds h Q=> ∃A Ts u v,∃n:G6,ds= [.lst A,.tup [zM u,zM v]]/\h A=some (Ts.map jp)/\Ä n Ts/\X1a n Ts u v/\Q (.bl true) h
def Vj (Z:Zs mg)(F:ô K "_law_lasts" "_law_lasts" yO f fd)(yo:jC P w K mg base n "_law_is_places" ["_law_tables","_law_thing","_law_least"] wP)(Zf:jC P w K mg base n "_law_led" ["_law_here","_law_tables","_law_way"] Wj)(yi:jC P w K mg base n "_law_filled" ["_law_table_here"] wE):Ò P w K mg base í (n+1) f fd ["_law_tables","_law_thing"] (õ K Js):=by
 refine F.okM jP (λhr=>(js8 (WR (jpt (Dc (wI (yq (Yp (T:= "tuple") (by decide) rfl Z.isinstance rfl Z.tuple (by decide +kernel) (jv 1)))) (Nd (ŵ ņ (Xt Z (jv 1)) jD)))) (wF Ν)) (WR (jpt (Dc (wI (yq (jk yo hr (j3 (jv 0) (ÿ (jv 1) jD) jD)))) (Nd (wI (yq (jk yo hr (j3 (jv 0) (ÿ (jv 1) jD) jD))))))) (wF Ν)) (ë 2 jP (Xt Z (ÿ (jv 0) jD))) (ë 3 jP (jI jW rfl Z.tuple (by decide +kernel) (j1 (Ĥ 5 jP (Ŷ Z (jv 2)) (λ_ _ _ _=>(jI jW rfl Z.tuple (by decide +kernel) (j1 (Ĥ 6 jP (Ŷ Z (jv 2)) (λ_ _ _ _=>(jI VE rfl Z.int (by decide +kernel) (j1 (Ŵ (PX hr.units) (jv 5) (jv 6))))))))))))) (ë 3 jP (jk Zf hr (j3 (jk Zf hr (j3 (jv 3) (jv 0) (ÿ (jv 1) jD))) (jv 0) (ÿ (jv 1) jD)))) (ë 4 jP (Zr wJ)) (VQ L8 (Gm (Yw hr.units) (jv 3) (jv 4) (by with_unfolding_all rfl)) (js3 (WR (yq (jk yi hr (j1 (jv 3)))) (wF Ν)) (JB (BG (jv 4) (jv 3))) (ë 3 jP (jk Zf hr (j3 (jv 3) (jv 0) (ÿ (jv 1) jD)))))) (wF Ν))) ?_;rintro ds h Q ⟨A,Ts,u,v,n,rfl,kA,hT,pw,q⟩;refine⟨rfl,?_⟩;have n1:=hT.n1;have n3:=hT.n3;have l1:=hT.l1;have s0:=hT.get (i:=0) (by omega);have e0:=Xc hT (i:=0) (by omega);have few:=pw.few;have lo:=pw.lo;have hi:=pw.hi;have a0:ć [zM u,zM v] 0=some (zM u):=rfl;have a1:ć [zM u,zM v] 1=some (zM v):=rfl;refine wm [some (.lst A),some (.tup [zM u,zM v]),none,none,none,none,none] (λC hC=>⟨_,rfl,"tuple",rfl,_,rfl,vt ⟨_,rfl,_,rfl,vt (hC)⟩⟩) ?_;refine wm [some (.lst A),some (.tup [zM u,zM v]),none,none,none,none,none] (λC hC=>⟨_,rfl,_,rfl,_,a0,A,Ts,u,0,rfl,kA,pw.way.2,by omega,by omega,_,rfl,vt ⟨_,rfl,_,rfl,_,a1,A,Ts,v,1,rfl,kA,pw.ok,by omega,by omega,_,rfl,vt (hC)⟩⟩) ?_;refine jg (λÂ h'=>Â= [some (.lst A),some (.tup [zM u,zM v]),some (.int (n:P1)),none,none,none,none]/\h=h') (λC hC=>⟨_,rfl,_,_,kA,e0,hC _ _ ⟨by rw [G3,s0.len];rfl,rfl⟩⟩) ?_;rintro _ _ ⟨rfl,rfl⟩;refine wm [some (.lst A),some (.tup [zM u,zM v]),some (.int (n:P1)),some (jp (Ys n)),none,none,none] (λC hC=> ?_) ?_
 ·refine GU (P5 n) (λj=> .int (j:P1)) (λi=> .tup ((P5 n).map λj=> .int (if i=j then 1 else 0))) (by rw [R0];omega) rfl (λR r=>⟨_,rfl,(n:P1),rfl,by omega,by omega,r⟩) (λi hi Q' q'=> ?_) ?_
  ·refine GU (P5 n) (λj=> .int (j:P1)) (λj=> .int (if i=j then 1 else 0)) (by rw [R0];omega) rfl (λR rr=>⟨_,rfl,(n:P1),rfl,by omega,by omega,rr⟩) (λj hj Q'' ŗ=>⟨_,rfl,_,rfl,?_⟩) q';show Q'' (D.int (if decide ((i:P1)=(j:P1))=true then 1 else 0)) h
   by_cases z:i=j
   ·subst z;rw [R9 rfl] at ŗ;rw [S1 rfl];exact ŗ
   ·rw [S4 z] at ŗ;have:decide ((i:P1)=(j:P1))=false:=T3 (by omega);rw [this];exact ŗ
  ·rw [BH];exact hC
 refine jg (λÂ h'=>Â= [some (.lst A),some (.tup [zM u,zM v]),some (.int (n:P1)),some (jp (Ó n Ts u)),none,none,none]/\h=h') (λC hC=>⟨_,rfl,_,rfl,_,rfl,_,a0,Ys n,A,Ts,u,n,rfl,Sq.one n,kA,hT,pw.way.2,by omega,_,rfl,_,rfl,_,a1,JH n Ts (Ys n) u,A,Ts,v,n,rfl,Dy _ (Sq.one n) _,kA,hT,pw.ok,by omega,hC _ _ ⟨by rw [Oj hT pw.way,pw.back];rfl,rfl⟩⟩) ?_;rintro _ _ ⟨rfl,rfl⟩;refine jg (λÂ h'=> ∃S,Â= [some (.lst A),some (.tup [zM u,zM v]),some (.int (n:P1)),some (jp (Ó n Ts u)),some (.lst S),none,none]/\h S=none/\h' S=some []/\Sub h h') (λC hC=>⟨ε,λS eS=>hC _ _ ⟨S,rfl,eS,jc,.new eS⟩⟩) ?_;rintro _ h1 ⟨S,rfl,fS,kS,sb⟩;refine jg (λÂ h'=>Sub h h') (λC hC=> ?_) (λÂ h' sb=>⟨h,sb,q⟩);refine Jc (λm Â h'=> ∃l:Tbs,Â= [some (.lst A),some (.tup [zM u,zM v]),some (.int (n:P1)),some (jp (Ó n Ts u)),some (.lst S),none,none]/\h' S=some (l.map jp)/\Sub h h'/\(l= []/\m=1\/l= [Ó n Ts u]/\m=0)) 1 ⟨[],rfl,kS,sb,.inl ⟨rfl,rfl⟩⟩ ?_;clear kS sb;rintro m _ h2 ⟨l,rfl,kS,sb,c⟩;refine⟨_,rfl,_,rfl,BI Ŏ kS λbo hbo=>⟨_,rfl,?_⟩⟩;rcases c with ⟨rfl,rfl⟩|⟨rfl,rfl⟩
 ·have:bo=false:=V2.mpr λz=>by have:=hbo.mp z;cases this
  subst this;refine XW ?_;refine wm [some (.lst A),some (.tup [zM u,zM v]),some (.int (n:P1)),some (jp (Ó n Ts u)),some (.lst S),none,none] (λC2 ĸ=>⟨_,rfl,Ó n Ts u,n,1,rfl,yE u,n1,by omega,_,rfl,by rw [pw.nf];exact vt (ĸ)⟩) ?_;refine jg (λÂ h'=>Â= [some (.lst A),some (.tup [zM u,zM v]),some (.int (n:P1)),some (jp (Ó n Ts u)),some (.lst S),none,none]/\h' S=some ([Ó n Ts u].map jp)/\Sub h h') (λC2 ĸ=>⟨_,rfl,S,rfl,_,rfl,_,kS,(by show 0<sizeLine;decide),ĸ _ _ ⟨rfl,jc,sb.over fS⟩⟩) ?_;rintro _ h3 ⟨rfl,kS3,Ρ⟩;exact⟨_,rfl,_,rfl,_,rfl,_,a1,Ó n Ts u,A,Ts,v,n,rfl,yE u,Ρ A _ kA,hT,pw.ok,by omega,0,_,by decide,Sub.refl _,[Ó n Ts u],by rw [pw.back];rfl,kS3,Ρ,.inr ⟨rfl,rfl⟩⟩
 ·rw [hbo.mpr (G8.mpr rfl)];exact vt (hC _ _ sb)
def neB {a b:N4}{Q:KD}(e:a=b)(q:Q (.bl false) h):neE (.bl a) (.bl b) h Q:=by
 subst e;show Q (.bl (!decide (a=a))) h;rw [S1 rfl];exact q
def Jt:RDn:=λds h Q=> ∃A Ts,∃n:G6,ds= [.lst A]/\h A=some (Ts.map jp)/\Ä n Ts/\Q (.bl true) h
def Vk (Z:Zs mg)(F:ô K "_law_right" "_law_right" yP f fd)(Wk:jC P w K mg base n "_law_all_from" ["_law_tables"] yn)(Vn:jC P w K mg base n "why_lasting" ["tables"] vp)(UA:jC P w K mg base n "_law_lasts" ["_law_tables","_law_thing"] Js):Ò P w K mg base í (n+1) f fd ["_law_tables"] (õ K Jt):=by
 refine F.okM zU (λhr=>(js3 (ë 1 zU (jk Wk hr (j1 (jv 0)))) (Gn L8 rfl (Ŷ Z jD) (jgn 2 zU) (ζ (ë 3 zU (jk Vn hr (j1 (jv 0)))) (WR (jpt (Dc (ŵ (BE hr.units) (Ŵ TY (jv 3) Eg) (Ŵ Qe (jv 1) Eg)) (Nd (jpt (Ej (ŵ Qe (jv 3) Eg) (Ei (wI (yq (jk UA hr (j2 (jv 0) (jv 3))))))))))) (wF Ν)))) (wF Ν))) ?_;rintro ds h Q ⟨A,Ts,n,rfl,kA,hT,q⟩;refine⟨rfl,?_⟩;refine jg (λÂ h'=> ∃o,Â= [some (.lst A),some (afD o),none,none]/\AfF n Ts o/\h=h') (λC hC=>⟨_,rfl,A,Ts,n,rfl,kA,hT,λo ho=>hC _ _ ⟨o,rfl,ho,rfl⟩⟩) ?_;rintro _ _ ⟨o,rfl,ho,rfl⟩;refine jg (λÂ h'=>h=h') (λC hC=> ?_) (λÂ h' e=>by subst e;exact⟨h,Sub.refl h,q⟩);refine Jz (h1:=h) 2 (λi Â h'=> ∃b c,Â= [some (.lst A),some (afD o),b,c]/\h=h') (by decide) (λR r=>r) ⟨none,none,rfl,rfl⟩ (λÂ h' ⟨_,_,_,e⟩=>hC _ _ e) ?_;rintro i _ _ hi ⟨b,c,rfl,rfl⟩;refine jg (λÂ h'=> ∃d,Â= [some (.lst A),some (afD o),some (.int (i:P1)),some d]/\KG n Ts d/\h=h') (λC2 ĸ=>⟨_,rfl,A,Ts,n,rfl,kA,hT,λd wd=>ĸ _ _ ⟨d,rfl,wd,rfl⟩⟩) ?_;rintro _ _ ⟨d,rfl,wd,rfl⟩;rcases wd with ⟨r,z,e⟩|⟨al,u,v,e,pw⟩
 ·subst e;cases o with
  |none=>exact absurd z (ho r)
  |some m=>
   refine⟨_,rfl,_,rfl,?_⟩;dsimp only [dC,isV];refine neB rfl ?_;refine⟨_,rfl,vt ?_⟩;refine⟨_,rfl,_,rfl,?_⟩;exact vt ⟨_,Sub.refl _,by omega,_,_,rfl,rfl⟩
 ·subst e;cases o with
  |some m=>obtain⟨r,_,z,_⟩:=ho;exact absurd z (al r)
  |none=>
   refine⟨_,rfl,_,rfl,?_⟩;dsimp only [dC,isV];refine neB rfl ?_;refine⟨_,rfl,vt ?_⟩;refine⟨_,rfl,_,rfl,XW ?_⟩;exact⟨_,rfl,_,rfl,A,Ts,u,v,n,rfl,kA,hT,pw,_,rfl,vt ⟨_,Sub.refl _,by omega,_,_,rfl,rfl⟩⟩
def Bq {te:TAD}{t u:TSD}{E:EndsD}{σ:SD}(x:Ĩ Na te σ h λd h2=> ∃k,d= .bl k/\if (!k)=true then t E σ h2 else u E σ h2):MW (Gh (vV (Ĩ Na te))) t u E σ h:=x
noncomputable def sqB (n:G6)(Ts:Tbs):N4:=Ts.all λT=>decide (T.length=n)&&T.all λr=>decide (r.length=n)&&r.all λx=>decide (0<=x)&&decide (x<1000)
def Mr {Ts:Tbs}(h:sqB n Ts=true): ∀T∈Ts,Sq n 20 T:=λT hT=>by
 unfold sqB at h;simp only [S8,F4,qP] at h;obtain⟨l,g⟩:=h T hT;exact⟨l,λr hr=>(g r hr).1,λr hr x hx=>((g r hr).2 x hx).1,λr hr x hx=>lC ((g r hr).2 x hx).2 (by decide)⟩
def Br (h:Ä n Ts):Ä n (Ts.take 1):=⟨h.n1,h.n3,by rw [T5];exact Nat.le_min.mpr ⟨P6 _,h.l1⟩,by rw [T5];exact R8 (b8 _ _) h.l3,λT hT=>h.sq T (O5 hT)⟩
def Bs {Ts:Tbs}(h:Ä n Ts):Ä n Ts.reverse:=⟨h.n1,h.n3,by rw [B7];exact h.l1,by rw [B7];exact h.l3,λT hT=>h.sq T (A9.mp hT)⟩
def Sw (Z:Zs mg)(F:ô K "law" "law" GL f fd)(wn:jC P w K mg base n "_law_right" ["_law_tables"] Jt)(XO:jC P w K mg base n "_law_cell" ["_law_script","_law_k"] Zl)(GO:jC P w K mg base n "_law_pen" ["_law_cell_here"] Wi)(XQ:jC P w K mg base n "_law_many" ["_law_pen_here"] Zm):Ò P w K mg base í (n+1) f fd ["_law_script"] (õ K PR):=by
 refine F.okM WZ (λhr=>(js4 (ë 1 WZ (Zr (jac (Zr (j1 (Zz (j1 (Zz (j1 jD)))))) (by exact(j4 (Zr (j1 (Zz (j1 (Zz (j1 jD)))))) (Zr (j2 (Zz (j2 (Zz (j2 jD jD)) (Zz (j2 jD jD)))) (Zz (j2 (Zz (j2 jD jD)) (Zz (j2 jD jD)))))) (Zr (j1 (Zz (j2 (Zz (j2 jD jD)) (Zz (j2 jD jD)))))) (Zr (j1 (Zz (j2 (Zz (j2 jD jD)) (Zz (j2 jD jD))))))))))) (WR (wI (yq (wj (WG rfl) rfl Z.all Y8 (j1 (Ĥ 4 WZ (za (jv 1)) (λ_ _ _ _=>(jk wn hr (j1 (jv 4))))))))) (wF Ν)) (Gn L8 rfl (FG (þ wa (Zr (j1 (jk XO hr (j2 (jv 0) jD)))) (Dg (jv 0) (Yq jD) (Yq jD)))) (jgn 2 WZ) (js3 (ë 3 WZ (jk GO hr (j1 (jv 2)))) (ë 4 WZ (jk XQ hr (j1 (jv 3)))) (WR (jpt (Dc (wI (yq (jk wn hr (j1 (jv 4))))) (Dc (wI (yq (jk wn hr (j1 (Dg (jv 4) Df (Yq jD)))))) (Nd (wI (yq (jk wn hr (j1 (uo (jv 4)))))))))) (wF Ν)))) (wF Ν))) ?_;rintro ds h Q ⟨ns,rfl,hh,hns,q⟩;refine⟨rfl,?_⟩;refine jg (λÂ h'=> ∃as A1,Â= [some (.scr ns),some (.lst A1),none,none,none]/\h' A1=some (as.map D.lst)/\as.length<=5/\ ∀a∈as,∃Ts n,h' a=some (rT jp Ts)/\Ä n Ts) (λC hC=>⟨sz1,sz1,sz1,λa1 e1=>⟨sz1,sz1,sz1,λa2 e2=>⟨Ň,Ň,Ň,Ň,Ň,Ň,Ň,λa3 e3=>⟨Ň,Ň,Ň,sz1,λa4 e4=>⟨Ň,Ň,Ň,sz1,λa5 e5=>⟨sz5,λA0 e0=>hC _ _ ⟨[a1,a2,a3,a4,a5],A0,rfl,jc,P6 5,λa ha=> ?_⟩⟩⟩⟩⟩⟩⟩) ?_
 ·simp only [R7,F5,or_false] at ha;rcases ha with e|e|e|e|e<;>subst e
  ·exact⟨[[[0]]],1,(jd (jd (jd (jd (jd jc e2) e3) e4) e5) e0),⟨by decide,by decide,by decide,by decide,λT hT=>Mr (by decide +kernel) T hT⟩⟩
  ·exact⟨[[[1]]],1,(jd (jd (jd (jd jc e3) e4) e5) e0),⟨by decide,by decide,by decide,by decide,λT hT=>Mr (by decide +kernel) T hT⟩⟩
  ·exact⟨[[[0,1],[1,1]],[[1,1],[1,0]]],2,(jd (jd (jd jc e4) e5) e0),⟨by decide,by decide,by decide,by decide,λT hT=>Mr (by decide +kernel) T hT⟩⟩
  ·exact⟨[[[0,1],[1,0]]],2,(jd (jd jc e5) e0),⟨by decide,by decide,by decide,by decide,λT hT=>Mr (by decide +kernel) T hT⟩⟩
  ·exact⟨[[[1,1],[0,0]]],2,(jd jc e0),⟨by decide,by decide,by decide,by decide,λT hT=>Mr (by decide +kernel) T hT⟩⟩
 rintro _ h2 ⟨as,A1,rfl,kA1,l6,all⟩;refine jg (λÂ h'=> ∃b,Â= [some (.scr ns),some (.lst A1),none,none,b]) (λC hC=>Bq (He (j:=λh=>h A1) as D.lst (λ_=>true) (by omega) kA1 (λR r=>⟨_,rfl,r⟩) (λa ha Q' q'=>let ⟨Ts,n,k,hT⟩:=all a ha;⟨_,rfl,a,Ts,n,rfl,k,hT,q'⟩) ⟨_,rfl,?_⟩)) ?_
 ·rw [show (as.all λ_=>true)=true from S8.mpr λ_ _=>rfl];exact vt (hC _ _ ⟨_,rfl⟩)
 clear kA1 all;rintro _ h3 ⟨b,rfl⟩;refine jg (λÂ h'=>True) (λC hC=> ?_) (λÂ h3 hV=>⟨h3,Sub.refl _,q h3⟩);refine⟨_,rfl,ns,0,rfl,(by decide),λn0=>⟨sz1,λp1 e1=>⟨_,rfl,_,rfl,_,rfl,λp2 e2=>⟨_,_,jd jc e2,jc,?_,λp3 e3=>⟨p3,rfl,?_⟩⟩⟩⟩⟩
 ·have:(VH ns (some 1) (some 2)).length<=ns.length:=by unfold VH;rw [T5,C0];omega
  rw [G3];exact T8 (zb (by simp only [R3,O1];omega))
 generalize hcs:([D.int n0]++(VH ns (some 1) (some 2)).map D.int)=cs;have hint: ∀d∈cs,∃c,d= .int c:=λd hd=>by
  rw [<-hcs] at hd;rcases D8.mp hd with z|z
  ·exact⟨n0,G8.mp z⟩
  ·obtain⟨x,_,e⟩:=R6.mp z;exact⟨x,e.symm⟩
 refine PV cs (λi Â h'=> ∃a1 a2 a3 a4,Â= [some (.scr ns),a1,a2,a3,a4]/\h' p3=some cs) (λi Â h' ⟨_,_,_,_,_,k⟩=>k) ⟨_,_,_,_,rfl,jc⟩ (λÂ h' _=>hC _ _ bT) ?_;rintro i d _ h4 hi ⟨b1,b2,b3,b4,rfl,k3⟩;obtain⟨c,rfl⟩:=hint d (P8 hi);have ō:i<cs.length:=(P7.mp hi).1;show vh _ _ _ [some (.scr ns),b1,some (.int c),b3,b4] h4;refine jg (λÂ h'=> ∃p l fl,Â= [some (.scr ns),b1,some (.int c),some (.lst p),b4]/\h' p=some [.int l,.int fl]/\0<=l/\h' p3=some cs/\p3≠p) (λC hC=> ?_) ?_
 ·refine⟨_,rfl,c,rfl,λp l fl ep l0 _=>hC _ _ ⟨p,l,fl,rfl,jc,l0,jd k3 ep,I0 (jq k3 ep)⟩⟩
 rintro _ h5 ⟨p,l,fl,rfl,kp,l0,k3,n3⟩;refine jg (λÂ h'=> ∃F n Ts,Â= [some (.scr ns),b1,some (.int c),some (.lst p),some (.lst F)]/\h' F=some (Ts.map jp)/\Ä n Ts/\h' p3=some cs) (λC hC=>⟨_,rfl,p,l,fl,rfl,kp,l0,λF n Ts l' h' fF kF hT bt kp' l0'=>hC _ _ ⟨F,n,Ts,rfl,kF,hT,bt _ _ n3 k3⟩⟩) ?_;clear kp k3;rintro _ h6 ⟨F,n,Ts,rfl,kF,hT,k3⟩;refine⟨_,rfl,F,Ts,n,rfl,kF,hT,_,rfl,vt ⟨_,rfl,1,rfl,_,kF,λp8 e8=>⟨p8,Ts.take 1,n,rfl,?_,Br hT,_,rfl,vt ?_⟩⟩⟩
 ·rw [jc];exact congrArg some ((Dz _).trans iH.symm)
 exact⟨_,rfl,F,_,rfl,jd kF e8,λp9 e9=>⟨p9,Ts.reverse,n,rfl,by rw [jc,List.map_reverse],Bs hT,_,rfl,vt ⟨_,Sub.refl _,ō,_,_,_,_,rfl,jd (jd k3 e8) e9⟩⟩⟩
end
def Sx {l:tL}{w:C1}{K:G7}{h:A7}{mg:Str->D4 G2}{fa:P2}(X:K.In h)(G:h.Ns K3 mg)(hfa:mg "law" =some (.ref fa))
 (d0:Ë K "is_whole" JX fu0 eu0)
 (d1:Ë K "is_table_row" wA fu1 eu1)
 (d2:Ë K "has_table_form" zN fu2 eu2)
 (d3:Ë K "want_table" yI fu3 eu3)
 (d4:Ë K "want_tables" wY fu4 eu4)
 (d5:Ë K "multiplied" yJ fu5 eu5)
 (d6:Ë K "full" Mf fu6 eu6)
 (d7:Ë K "marks" XI fu7 eu7)
 (d8:Ë K "marks_after" wZ fu8 eu8)
 (d9:Ë K "ways_and_nexts" zO fu9 eu9)
 (d10:Ë K "ends_of" We fu10 eu10)
 (d11:Ë K "rounds_and_lasting" zd fu11 eu11)
 (d12:Ë K "round_within" wB fu12 eu12)
 (d13:Ë K "why_lasting" ya fu13 eu13)
 (d14:Ë K "_law_cell" vJ fu14 eu14)
 (d15:Ë K "_law_pen" JZ fu15 eu15)
 (d16:Ë K "_law_draw" vK fu16 eu16)
 (d17:Ë K "_law_whole" yK fu17 eu17)
 (d18:Ë K "_law_table" yL fu18 eu18)
 (d19:Ë K "_law_order" yM fu19 eu19)
 (d20:Ë K "_law_times" yN fu20 eu20)
 (d21:Ë K "_law_marked" yc fu21 eu21)
 (d22:Ë K "_law_filled" ye fu22 eu22)
 (d23:Ë K "_law_good_table" zB fu23 eu23)
 (d24:Ë K "_law_many" vL fu24 eu24)
 (d25:Ë K "_law_led" Za fu25 eu25)
 (d26:Ë K "_law_all_from" we fu26 eu26)
 (d27:Ë K "_law_is_places" zP fu27 eu27)
 (d28:Ë K "_law_lasts" yO fu28 eu28)
 (d29:Ë K "_law_right" yP fu29 eu29)
 (d30:Ë K "law" GL fu30 eu30)
 {tk0:Tok}(v0:sA K K3 "MOST_ROWS" =some (some (.int 6 tk0)))
 {tk1:Tok}(v1:sA K K3 "MOST_TABLES" =some (some (.int 3 tk1)))
 {tk2:Tok}(v2:sA K K3 "MOST_ROWS_OF_SEVERAL" =some (some (.int 3 tk2)))
 (z:zsB K=true)
 : ∃fd:C6,(∀ (s:G5) (v:G2),tY s fd ⟨[v],[]⟩ [("_law_script",v)])/\ ∀base:A7,K.In base->base.Ns K3 mg->Bm mg base->Ò l.prog w K mg base í 10 fa fd ["_law_script"] (õ K PR):=by
 have e:=hfa.symm.trans (d30.nm X G);cases e;have vN: ∃tk,mg "MOST_ROWS" =some (.int 6 tk):=⟨_,qB X G v0⟩;have yj: ∃tk,mg "MOST_TABLES" =some (.int 3 tk):=⟨_,qB X G v1⟩;have jZ: ∃tk,mg "MOST_ROWS_OF_SEVERAL" =some (.int 3 tk):=⟨_,qB X G v2⟩;have Z:=Hm X G z;obtain⟨_,_,kV,dc,pm,an,cd,ct,_,rfl,_⟩:=d30.fn.ex;refine⟨dO "law" "law" (yw GL) (zL GL) (je GL) .none kV dc pm an cd ct,λs v=> .of_eq rfl,λbase _ _ B=> ?_⟩;have GS:=λn=>d0.cal l w base X G (XJ (n:=n+0) Z d0.fn)
 have Wz:=λn=>d1.cal l w base X G (Wg (n:=n+1) Z d1.fn (GS (n+0)))
 have yp:=λn=>d2.cal l w base X G (Zb (n:=n+2) Z d2.fn (Wz (n+0)) vN)
 have Zo:=λn=>d3.cal l w base X G (Va (n:=n+3) Z d3.fn (yp (n+0)))
 have Vp:=λn=>d4.cal l w base X G (Ws (n:=n+3) Z d4.fn (yp (n+0)) yj jZ)
 have UL:=λn=>d5.cal l w base X G (Vb (n:=n+0) Z d5.fn)
 have Sz:=λn=>d6.cal l w base X G (Oe (n:=n+4) Z d6.fn (Zo (n+0)))
 have Mu:=λn=>d7.cal l w base X G (Bj (n:=n+4) Z d7.fn (Zo (n+0)))
 have Vo:=λn=>d8.cal l w base X G (Wt (n:=n+5) Z d8.fn (Mu (n+0)) (UL (n+4)))
 have Zx:=λn=>d9.cal l w base X G (Zc (n:=n+6) Z d9.fn (Mu (n+1)) (Vo (n+0)))
 have Mt:=λn=>d10.cal l w base X G (GM (n:=n+0) Z d10.fn)
 have vg:=λn=>d11.cal l w base X G (yR (n:=n+5) Z d11.fn (Sz (n+0)) (Mt (n+4)))
 have WA:=λn=>d12.cal l w base X G (Wh (n:=n+0) Z d12.fn)
 have Vq:=λn=>d13.cal l w base X G (Wu (n:=n+7) Z d13.fn (Vp (n+3)) (Zx (n+0)) (vg (n+1)) (WA (n+6)))
 have XS:=λn=>d14.cal l w base X G (Ux (n:=n+0) Z d14.fn)
 have GR:=λn=>d15.cal l w base X G (XM (n:=n+0) Z d15.fn)
 have yk:=λn=>d16.cal l w base X G (Uy (n:=n+0) Z d16.fn)
 have UK:=λn=>d17.cal l w base X G (Vf (n:=n+0) Z d17.fn)
 have UJ:=λn=>d18.cal l w base X G (Vg (n:=n+1) Z d18.fn (yk (n+0)))
 have UH:=λn=>d19.cal l w base X G (Vh (n:=n+1) Z d19.fn (yk (n+0)))
 have Zn:=λn=>d20.cal l w base X G (Vi (n:=n+0) Z d20.fn)
 have Jv:=λn=>d21.cal l w base X G (Wv (n:=n+0) Z d21.fn)
 have Ju:=λn=>d22.cal l w base X G (Ww (n:=n+0) Z d22.fn)
 have Zg:=λn=>d23.cal l w base X G (Jr (n:=n+2) Z d23.fn (UH (n+0)) (yk (n+1)))
 have XT:=λn=>d24.cal l w base X G (Uz (n:=n+3) Z d24.fn (yk (n+2)) (UJ (n+1)) (Zg (n+0)))
 have GQ:=λn=>d25.cal l w base X G (XN (n:=n+1) Z d25.fn (Jv (n+0)) (Zn (n+0)))
 have Wl:=λn=>d26.cal l w base X G (Zu (n:=n+1) Z d26.fn (Jv (n+0)) (Ju (n+0)) (Zn (n+0)))
 have Zw:=λn=>d27.cal l w base X G (Zd (n:=n+1) Z d27.fn (UK (n+0)))
 have UG:=λn=>d28.cal l w base X G (Vj (n:=n+2) Z d28.fn (Zw (n+0)) (GQ (n+0)) (Ju (n+1)))
 have UI:=λn=>d29.cal l w base X G (Vk (n:=n+8) Z d29.fn (Wl (n+6)) (Vq (n+0)) (UG (n+5)))
 exact Sw (n:=9) Z d30.fn (UI 0) (XS 8) (GR 8) (XT 5)
end My
namespace PySem.W.Fast
def tw16421237867250920713:=G6
def tw3876739125623018195:=G6
def tw3299116255465704432:=G6
def tw15931937101606722959:=G6
def tw15807372891256100434:=G6
def tw646956336273642866:=G6
def tw16138478092413105281:=G6
def tw3328986383162670088:=G6
def tw9960975273909174154:=G6
def tw4022799166217430301:=G6
def tw17581201567396209563:=G6
def tw14720511122600147511:=G6
def tw6747169781616856173:=G6
def tw8535110558079931982:=G6
def tw5758120195750078693:=G6
def tw13318621562106132421:=G6
def tw5476905978618934612:=G6
def tw3539500666647951586:=G6
def tw12549624843250749307:=G6
def tw10905736616889093645:=G6
def tw11901755673149843669:=G6
def tw4267769420571864737:=G6
def tw17233885086643449561:=G6
def tw13842787992714618060:=G6
def tw11714840051049643375:=G6
def tw3761809424950685556:=G6
def tw4775386670667076493:=G6
def tw10107732202499830709:=G6
def tw7480955529782603296:=G6
def tw11805122034882007874:=G6
def tw8386055083158778866:=G6
def tw7496399305356605252:=G6
def tw13058428854732403418:=G6
def tw17468118591046443692:=G6
def tw9583386099837759973:=G6
def tw10616186575529719409:=G6
def tw10139174287996424233:=G6
def tw5706890231101146893:=G6
def tw9916218492569508119:=G6
def tw5295310992327902246:=G6
def tw13871526341779952593:=G6
def tw9302127705494073508:=G6
def tw13577274224699167512:=G6
def tw7666622916263964620:=G6
def tw15765919680982200152:=G6
def tw12017110924336716209:=G6
def tw13014786304301016310:=G6
def tw11624035702596142343:=G6
def tw5469528770810397011:=G6
def tw15546240510886710485:=G6
def tw5422468008388311146:=G6
def tw7936606595991410786:=G6
def tw13139845551577327671:=G6
def tw14162421254774196495:=G6
def tw10981363599721484871:=G6
def tw9384021689737034242:=G6
def tw12183443519764284153:=G6
def tw16094881815615688116:=G6
def tw9485955600121644591:=G6
def tw15608530652804950067:=G6
def tw6120582222516529804:=G6
def tw6889433089595912415:=G6
def tw13036860818614373784:=G6
def tw17218990292897515546:=G6
def tw12504603074057815876:=G6
def tw9052536132784495075:=G6
def tw2419001915443633559:=G6
def tw2716475825469675542:=G6
def tw11675450897160914933:=G6
def tw5703946339621544416:=G6
def tw9453512051621730354:=G6
def tw4214194414059446964:=G6
def tw3634292846221834264:=G6
def tw6804456814373349208:=G6
def tw8942213744385104161:=G6
def tw5781545936682717426:=G6
def tw3629562893857582988:=G6
def tw3164864871482029700:=G6
def tw1718197418526585892:=G6
def tw3896735217705076155:=G6
def tw8028158922492656341:=G6
def tw13946288630485984505:=G6
def tw18070298182842515410:=G6
def tw2944423863128749338:=G6
def tw12693431510244430110:=G6
def tw14918145838390112973:=G6
def tw12302362835408567838:=G6
def tw15965689429872416598:=G6
def tw1792291357488280265:=G6
def tw4161789281690500274:=G6
def tw15635724055921316627:=G6
def tw17691201309357268064:=G6
def tw17207573654935372787:=G6
def tw10330008233939249342:=G6
def tw17806899907928053126:=G6
def tw4625600195696941302:=G6
def tw3911448599019137884:=G6
def tw674320097418261593:=G6
def tw458920727636598337:=G6
def tw1316544607553908541:=G6
def tw9295161553810615320:=G6
def tw15645402643028746571:=G6
def tw8339341193966440755:=G6
def tw11640491975767427282:=G6
def tw14963540896629137340:=G6
def tw7926387180585002617:=G6
end PySem.W.Fast
open PySem PySem.W PyProof.Rows
set_option maxRecDepth 100000 in
set_option maxHeartbeats 0 in
theorem PySem.Challenge.cw_firstpowers_k70_why_noughts_last_holds : PySem.Challenge.rw_firstpowers_k70_why_noughts_last.Holds := by
  w_on; o_law; k_head; (case hw => w_witness2)
  k_fill
  refine L2.Nc (l := PySem.Challenge.rw_firstpowers_k70_why_noughts_last) (k := 10) (x := "_law_script") rfl rfl ⟨rfl, by decide, by decide, rfl⟩ (fun w h Y => PySem.W.kIn_of Y) ?B ?F
  case B => intro w; kernel_rfl
  case F =>
    intro w mg fa h KX G hmg
    refine' My.Sx KX G hmg ?d0 ?d1 ?d2 ?d3 ?d4 ?d5 ?d6 ?d7 ?d8 ?d9 ?d10 ?d11 ?d12 ?d13 ?d14 ?d15 ?d16 ?d17 ?d18 ?d19 ?d20 ?d21 ?d22 ?d23 ?d24 ?d25 ?d26 ?d27 ?d28 ?d29 ?d30 ?v0 ?v1 ?v2 ?z
    case d0 | d1 | d2 | d3 | d4 | d5 | d6 | d7 | d8 | d9 | d10 | d11 | d12 | d13 | d14 | d15 | d16 | d17 | d18 | d19 | d20 | d21 | d22 | d23 | d24 | d25 | d26 | d27 | d28 | d29 | d30 => refine' L2.EI ?a ?l ?c ?k; (case a => k_is); (case l => k_is); (case c => k_is); (case k => k_is)
    case v0 | v1 | v2 => k_is
    case z => kernel_rfl
