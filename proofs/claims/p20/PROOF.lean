import PyProof.Rows.All
import Wide.All
import OpenK.AllK
import Wide.FinOn
import Lean
import PyProof.EqAt
import PyProof.EqKinds
import PyProof.TupleCall
import PyProof.Rows.TopTwo
import KE.KIsAll
import PyProof.ExcAttrAll.ValueError
import KE.KTryMore
import KE.KRevIter
import PyProof.SetRoads
import PySem.Challenge.RW_firstpowers_k20_ladders_of_pieces
set_option Elab.async false
set_option linter.all false
set_option maxRecDepth 100000
set_option maxHeartbeats 8000000
open _root_ renaming List->G0,Nat->G7,Option->P4,Int->D3,if_pos->R6,if_neg->R8,Array->S6,Bool->T5,decide_eq_true->M8,decide_eq_false->N6,of_decide_eq_true->J5,String->U2,decide_eq_true_iff->W6,beq_self_eq_true->W7,decide_eq_true_eq->X0,StateT->aC,exists_eq_left'->bU,if_true->fX,ForInStep->gK,decide_eq_false_iff_not->gL,of_decide_eq_false->lA,if_false->oI,bne_self_eq_false->qU,and_congr_right->tL,dif_pos->tU,exists_congr->ID,decide_true->KM,not_or->G0L
open PySem renaming Value->G1,Shared->G2,wpAny_pure->G8,Addr->G9,starEach->D7,wpAny->R3,model->R7,Program->R9,Around->T3,SetTable->T6,Expr->N0,World->N4,FuncData->N5,wpAny_mono->B1,Heap->B6,PyData->F8,wpAny_holding->L5,compareOp->L7,foldedSetIterable->O4,wpAny_setState_of->A0,rawInt->A1,codeAny_builtin->E2,wpAny_callSpecial?_slot->E4,wpAny_call_entry->E7,eval->J0,wpAny_truthy_bool->J4,mem_of_lookup->K0,backTo->K7,Stmt->K8,Scope->Q1,bootBuiltins->U8,cellsFrom->V0,wpAny_pyIter_list->V7,binaryOp->V9,plainId_quiet->W2,codeAny_call_builtin->W8,wpAny_pyIter_tuple->Y5,behindInMarks->Z4,wpAny_newObj_type->aF,attributeBase->aU,wpAny_execs_cons->aV,wpAny_call->aY,wpAny_Call_Name_kw->aZ,IsPair->bF,holding->bL,wpAny_passesOwn->bR,letOwnedTupleGo->bS,codeAny->bX,codeAny_mono->bY,swapsWith->cO,checkBuiltinCall->cR,isSubtype_type->cS,wpAny_execs_nil->dB,searchCouldBeSeen->dX,ofAClassStatement->dY,wpAny_newFunctionEnv_cells->eJ,Keyword->eT,Fin->eU,wpAny_askSetting->e8,swapsWithSole->fK,swappedStores->fL,assignEach->f7,call_meets->f8,richCompare->gF,sliceBounds->gI,keywordEach->gJ,richCompare_meets_room->gR,setAddHashedIn->g6,wpAny_seqItems->iA,codeAny_call_function->iH,wpAny_rule->iM,TriplesOk->iN,wpAny_attempt->iT,hashByValue->iY,assign->i5,wpAny_updateSeq->i8,Model->j0,builtinsNs->kK,closureFor->kX,wpAny_tryCatch->lD,wpAny_binaryOp_repeat_ref->lH,standAt->lN,wpAny_pyIter_slot->lS,wpAny_storeSet_of->l9,wpAny_standAt->mF,noFill_tuple_add->mN,backToKw->mO,codeAmong->mR,setField->mS,wpAny_isInstance->mT,hashInt->m5,IsPart->m7,wpAny_typeOf->m8,typeIs_int->nC,callSpecial?->nG,builtinLookup_eq_fast->n8,wpAny_loadName_local->oB,wpAny_bindName->oC,CmpOp->oE,Result->oH,wpAny_field->oJ,lookup_relabel_local->oM,wpAny_newTuple->oP,wpAny_updateSeq_pair->oQ,wpAny_of_eq->oR,wpAny_letGo->oZ,PassesOwn->o7,BindsTo->o8,Arguments->o9,getItem->pA,callerA->pB,isSubtype->pE,assignInOrder->pK,seq_tuple_add->pL,Comprehension->pM,wpAny_onRaise->pO,checkTypeCall->pP,wpAny_newList->pS,wpAny_Name->pU,wpAny_load->pV,wpAny_Assign_Name->qG,leaving->qK,name_of_addr->qL,codeAny_func->qM,concat_meets->qN,wpAny_sequenceKey->qO,seqIndex_neg->qP,wpAny_pyIter_enum->qT,entryFor->qV,wpAny_pyHash_int->q0,truthy->rD,pyNext->rE,wpAny_forIn_list->rH,stored->rL,seqSlot_of->rN,entryFor_of_fast->rP,sizeLine_eq->r6,bindL->r8,bindC->r9,seqIndex_of->sC,pushCells_keeps->sN,codeAny_of_tree->sQ,listText_mem_le->sS,typeLookup_type->sU,wpAny_specialOf->sW,Setting->tN,wpAny_Expr_any->tV,bindName->tW,bindArgs->tZ,newFunctionEnv->uD,compEnvC->uE,compTurn->uF,wpAny_setField->uI,isSubtype_stop->uK,boundAndCalled->uN,relayAll->uP,entryFor_alias->uQ,wpAny_runValue->uS,carriedByValue->u4,IsTupleKey->u5,intBits_le_64->v6,comprehension->w6,setSearchFrom->xM,lastMarks->xR,Within->xY,setItem->y3,pyIter->y4,typeOf->y6,argsOk->z6,callFunction->z7,interactive->IM,IsRangeIter->IN,Operator->IO,data2->IP,subscripted->IQ,setRelay->KL,typeIs_str->KW,PlainAttrs->KZ,call->G0a,reduceHash->G0b,seqRepeat?->G0c,IsEnum->G0d,TypeCalled->G0e,isInstance->G0f,layNew->G0g,release->G0m,Meets->G0s,Params->G0I,cellOf->G0J
open PySem.Heap renaming get?_push_of_some->G3,lt_size->P9,get?_push_size->R1,get?_update_self->B2,SameBut->L9,size_push->cP,get?_update_ne->fJ,get?_update_other->nB,ExtBut->sG
open PySem.W renaming Frag->G5,keepIn->Q4,kia_one->U6,fnOf->Z6,hideAll_none->bW,hideAll_get->cN,cellsFrom_some->cW,hideAll->fV,codeIn->gQ,of_hideAll->kJ,kitOne->kO,callWith_K->kQ,codeRec_of->kT,methodObj->lM,tabIn->mI,instObj->nN,kat_nil->nU,lookIn->oF,tabObj->oO,kitx_list->qI,kitx_dict->qJ,plainGet->rF,OpenLaw->sO,kat_one->tG,findIn->tY,CodeHd->uG,Looks->xJ,nsIn->IG,hideAll_size->IL,kas_first_eq->KG,kitx_float->KS,kitx_tuple->KT,ki_setBack->KY,hasDictIn->G0n,plainOver->G0o,specialIn->G0p,kitx_none->G0q,kitx_bool->G0r,eq_bytes->G0u,ne_bytes->G0v,kitx_int->G0w,kitx_str->G0x,kitx_own->G0y,ki_setAt->G0z,kat_cons->G0A,codeHdIn->G0D,takesIn->G0E,kat_yes->G0G,InstAt->G0H,tab_of->G0K,KatLex->G0N,kat_go->G0O,kat_no->G0P,kat_lt->G0R,mroIn->G0U,WalkO->G0V,mg_of->G0W
open List renaming length_map->G6,mem_singleton->P1,getElem?_eq_getElem->P2,getElem?_eq_some_iff->P5,mem_of_getElem?->P6,mem_cons_self->P7,length_append->P8,mem_cons_of_mem->D1,mem_cons->D2,append_assoc->D6,length_cons->D8,getElem?_map->D9,range->R4,size_toArray->R5,mem_map->S4,mem_range->S8,mem_append->T8,mem_append_right->M1,length_take->M5,getD_eq_getElem?_getD->M9,getElem?_append_right->N3,take_append_drop->N8,replicate->N9,length_range->B0,map_append->B3,pairwise_append->B7,getElem?_append_left->B8,length_nil->C0,take_of_length_le->C5,map_cons->C6,mem_filter->C8,not_mem_nil->F4,length_reverse->F7,length_drop->F9,all_eq_true->L0,nil_append->L6,map_map->O0,pairwise_iff_getElem->O3,append_nil->O6,getElem_mem->O9,map_congr_left->A4,drop_eq_nil_of_le->A6,mem_append_left->A7,mem_of_mem_drop->A9,mem_of_mem_take->E1,pairwise_singleton->E5,nodup_cons->E6,lookup_cons->E8,getElem?_eq_none->J9,mem_reverse->K4,take_add_one->K5,pairwise_map->K6,pairwise_cons->K9,cons_append->Q5,mem_map_of_mem->Q6,getElem?_cons_zero->U3,getElem?_set_ne->U4,range_succ->U7,getElem?_range->V6,drop_sublist->V8,length_erase_of_mem->W1,zip_cons_cons->W5,length_pos_of_mem->X1,reverse_perm->X5,filterMap_cons->X6,replicate_succ->X7,getElem_of_mem->X8,extract_eq_drop_take->Y1,length_filter_le->Y3,getElem?_drop->Y6,getElem?_take_of_lt->Z5,getElem?_of_mem->Z9,eq_nil_of_length_eq_zero->aB,drop_append_of_le_length->aD,take_append_of_le_length->aE,take_sublist->aG,length_eq_zero_iff->aH,getElem?_cons_succ->aL,getElem?_set_self->aO,mem_filterMap->aX,drop_drop->bI,filter_append->bK,drop_eq_getElem_cons->bQ,flatten_cons->bZ,map_nil->cA,mem_erase_of_ne->cH,nodup_append->cI,any_eq_true->cQ,mem_flatMap->cU,filter_cons_of_neg->cV,all_map->cZ,getElem_range->c9,of_mem_zip->dD,forIn_cons->dE,length_singleton->dO,perm_append_comm->dP,getElem?_reverse->dQ,getElem?_toArray->dR,length_eraseIdx_of_lt->eM,getElem?_zip_eq_some->fC,getLastD_eq_getLast?->fG,getLast?_eq_getElem?->fH,getElem?_replicate->gE,filter_cons_of_pos->gP,getElem?_set->gY,range_succ_eq_map->g4,ext_getElem?->g7,filter_eq_nil_iff->iD,eraseIdxIfInBounds_toArray->iG,pairwise_reverse->iI,mem_iff_getElem?->iJ,take_length->iQ,length->iU,map->iW,drop_eq_nil_iff->i4,length_pos_iff->j6,take_zero->lB,find?_eq_none->lE,getElem?_eq_none_iff->lK,zip_nil_left->lQ,filter_congr->mB,getElem_take->mC,mapM_toArray->mD,flatMap_cons->mE,any_cons->mH,all_toArray->mV,nodup_range->mX,length_eraseIdx_le->mY,Nodup->nH,getElem_of_append->nJ,length_eq_one_iff->nM,foldl_cons->nO,find?_cons->nX,length_zip->nY,length_replicate->nZ,set_append_right->n9,drop_zero->oU,drop_take->oV,take_take->oW,getLast?_concat->oX,map_id->oY,reverse_append->pG,take_succ_cons->pH,zip_nil_right->pW,getElem?_take->pY,set_cons_succ->qC,set_cons_zero->qD,any_eq_false->qH,getElem_drop->qZ,getElem_inj->rC,ext_getElem->rO,append_cons->rQ,perm_middle->rV,isEmpty_iff->rX,map_fst_zip->rY,find?_some->tK,filter_nil->tM,foldl->uA,forIn_nil->uJ,all_cons->w8,map_take->xC,map_drop->xD,any_map->y8
open Nat renaming le_refl->P3,le_trans->S0,lt_of_lt_of_le->S7,le_of_lt->T4,ne_of_lt->M0,zero_le->M7,lt_irrefl->N7,lt_or_ge->K1,add_sub_cancel'->K2,lt_of_le_of_ne->Q0,zero_add->Q9,lt_succ_self->V1,pow_succ->V2,le_of_eq->W3,lt_of_succ_lt->X4,lt_of_le_of_lt->Y4,le_add_right->Y7,ne_of_gt->Z0,add_zero->Z8,not_lt_zero->aN,mul_comm->aR,succ_pos->aT,mod_lt->bH,lt_trans->cB,pow_le_pow_right->cE,succ_le_succ->cT,not_lt->cY,div_div_eq_div_mul->dA,le_add_left->dH,min_eq_left->dI,add_assoc->dM,lt_trichotomy->dU,one_pos->eN,min_le_right->eO,add_le_add_left->fI,sub_lt->gB,pos_of_ne_zero->gC,add_right_comm->gD,add_sub_cancel_left->gM,mul_add->gO,succ_mul->gX,lt_of_succ_le->gZ,lt_succ_of_lt->g0,succ_le_of_lt->hZ,pow_zero->iB,mod_eq_of_lt->iR,sub_self->kG,add_mul->lV,le_of_not_lt->mQ,mod_eq_zero_of_dvd->nK,div_add_mod->nW,add_mod->o0,div_one->o6,mul_le_mul_left->pI,mul_assoc->pT,eq_zero_or_pos->pZ,add_sub_cancel->qA,le_of_succ_le->qX,sub_pos_of_lt->qY,log2_lt->sI,pow_pos->sJ,max_eq_left->tD,mod_add_div->tJ,gcd->tQ,zero_mul->IC,le_succ->IU,mod_mod->KI,mul_mod->KJ,sub_le->G0h,succ->G0M
open Array renaming length_toList->D0,getElem?_toList->M6,toList_append->L8,getElem?_eq_some_iff->O7,toList_push->U1,getElem?_eq_none_iff->X3,getElem?_eq_getElem->Y0,toList_extract->cK,getD_eq_getD_getElem?->dW,getElem_toList->eL,size_setIfInBounds->fU,toList_reverse->iZ,isEmpty_eq_false_iff->k6,forIn_toList->k8,toList_setIfInBounds->lC,getElem?_eq_none->nE,replicate->nV,mem_toList_iff->oG,toList->qE,isEmpty_iff->qR,toList_map->rS,getD->uO,size_map->u3
open PyProof.Rows renaming Keyed->R0,arrOf->T9,pendingOf->C4,SortSt->C9,envOfC->Q7,IntsAre->W9,slot_tuple_getitem->X9,callWith_type1->aQ,failedOf->cJ,boot_isinstance->dG,seqObj->hJ,lt_int->j5,AllBare->j7,assignInOrder_cons->kL,subscriptTail_builtinR->m9,boot_all->oA,entry_tuple_getitem->pF,args_tuple_getitem->pX,assignInOrder_nil->qF,callWith_builtin1->rG,IsTup->rZ,entry_list_sort->sZ,get?_update_seq->tE,oneTypeOnly'_eq->tF,slicePart_none->t8,slot_list_sort->uU,args_list_sort->uV,printed_name->u8,printed_star->u9,tupleItemsOf_->v7,subscriptTail->v8,reverseSlice'->xH,listUpdate_at->xI,isTrue_plain->xZ,plain_sorted->z9,entry_sorted->HX,args_sorted1->HY,listItems_at->HZ,kind_sorted->IY,mergeAt'->IZ,binarySort'->KA,keyKind'->KB,seqEpoch_at->KC,recsOf->KO,isTrue_and->KR,Subscript_->KU,setPending->G0i,oneLt'->G0Q,seen->G0S
open Bool renaming false_ne_true->S5,and_eq_true->H0,false_eq_true->A3,eq_iff_iff->Q3,eq_false_iff->aK,or_eq_true->bT,not_eq_true'->dS,and_false->g8,and_true->mJ,not_eq_true->mZ,or_eq_false_iff->oN,false_and->tX,not_false->u0,or_false->v9,not_true->xN,true_and->xQ
open PySem.SetTable renaming bits->S9,below->T7,runEnd->E9,turns->J6,sizeAbove->J8,Probe->U5,insertAt->X2,advance->Y8,orStandIn->Y9,grown->aA,has->eZ,toList_insertAt->fT,insertAt_perm->iC,layClean->l8,slot->mK,laid->pR,fresh->uW,fits->xG,leap->xK,fill->xL,probeStart->KP,sameMemory->KQ,freeSlot->G0t,gaveWay->G0B,tooFull->G0C,relaid->G0F
open PySem.PyData renaming depthAll->N2,canLayAll0->B9,eqv->C3,depth->E3,canLay0->K3,shownAll->W4,showableAll->bG,shown->cG,eqvAll->fQ,showable->fZ,int->gA,hasDictAll->lU,bool->sK,hasDict->uL,list->IV,str->G0l
open PySem.Heap.SameBut renaming update->C7,refl->cC,trans->G0k
open Option.some renaming inj->O5,injEq->aM
open PySem.Around renaming under_plainId->O8,frames_deeper->iV
open Option renaming map_eq_some_iff->A5,isSome_iff_exists->W0,map_eq_none_iff->g9,getD_none->rJ,getD_some->rM
open PySem.NameKind renaming free->A8,cell->cM
open PySem.PassesOwn renaming never->I0
open PySem.SetTable.layClean renaming free->J7
open Int renaming toNat_natCast->Q8,emod_nonneg->i9,toNat->kI,fdiv_eq_ediv_of_nonneg->kM,fmod_eq_emod_of_nonneg->kN,lt_of_lt_of_le->k7,emod_lt_of_pos->lG,mul_comm->qS,pow_pos->sD,mul_nonneg->uH,le_of_lt->y9,ne_of_gt->IF,mul_pos->IR,pow_add->IS
open PySem.SetTable.probe renaming go->U0
open Ne renaming symm->U9
open PySem.Builtin.SmallTypes renaming nextOf->V3,stopIteration->cF,ownedTupleIsFree->pN
open PySem.Value renaming type->V4,int->dJ,ref->dL,isInt->dZ,none->f6,bool->iK,str->mM,isStrOf->v5,float->IK
open PySem.Obj renaming mapSeq->V5,mapFields->Z7,putSet->iP
open Classical renaming byContradiction->Y2,em->kH
open PySem.F renaming plainAttrs_list->aJ,plain_min_loop->aW,slot_tuple_iterator_next->bE,slot_tuple_lt->dN,args_tuple_add_2->fM,args_tuple_lt_2->gG,entry_tuple_add->gH,entry_tuple_lt->gV,slot_tuple_add->gW,slot_int_rmul->i6,args_tuple_iterator_next_1->i7,entry_tuple_iterator_next->j8,slot_list_count->mU,entry_min_loop->mW,args_int_rmul_2->qQ,plain_list_iadd->qW,entry_int_rmul->rK,fills_int_mul->sM,slot_zip_next->sP,slot_zip_iter->sR,entry_set_new->sT,slot_set_iter->sV,excBase_ValueError->uM,args_list_count_2->u7,slot_list_append->xA,type_list_append->xB,entry_list_count->xF,slot_list_remove->xO,type_list_remove->xP,slot_list_index->xT,type_list_index->xU,type_list_count->xV,slot_list_clear->xW,type_list_clear->xX,called_set->z8,args_list_lt_2->IB,called_zip->IE,entry_bexc_ga->IH,entry_list_lt->II,args_bexc_ga->IX,slot_list_lt->KH
open Or renaming inl->aS,inr->cX
open PySem.MeetsSeq renaming plain_remove_loop->bJ,entry_remove_loop->lF
open PySem.SetTable.sizeAbove renaming go->bM
open PySem.Builtin.Slice renaming slicePlaces->bO,sliceAdjust->e9,sliceApplied->kU,slicePartIndex->sL,sliceFields->u6
open Sum renaming inr->bV,inl->lL
open PySem.Builtin.Tuple renaming tupleExact->cL,tupleCompareSizes->iF,tupleItemsOf->kW,tupleIsExact->kY,tupleTooMany->kZ,tupleHashOf->lI
open ForInStep renaming yield->dF
open True renaming intro->eI
open PySem.Str renaming ofString->eQ,empty->xS
open Decidable renaming byContradiction->fE
open PySem.Builtin.List renaming listTooLong->fN,listLengthHint->j9,listSameRef->mL,listExtendWith->tO,listFitsIndex->uC
open PySem.AutoSeq1 renaming wpAny_loadPart'->fO,sub_tuple_tuple->mG,list_clear_list_0->uB,sub_list_list->IA
open PyProof.Rows.LCg renaming lst->fY
open PySem.SetTable.below renaming go->g5
open PySem.Walks renaming list->iO,tuple->sH
open PySem.Calls renaming spliced_cons->kP,call_function_entry->lJ,spliced_nil->lO,callWith_builtin->nD,evalArgs_plain->oK,Constant_str->xE
open PySem.W.Looks renaming here->k9,of_pure->pQ,here->qB,ld->rT,ld->IW
open List.Pairwise renaming nil->lR,filter->KN
open Function renaming comp_def->lW,comp_apply->pJ
open List.Perm renaming trans->nQ,append->rR,swap->uR,append_left->IJ,cons_inv->G0j,refl->G0T
namespace L2
open PySem PySem.Spec PyProof.Rows
abbrev Key:=Sum D3 Str
def VE:Key->G1->T5
 | .inl k,v=>dZ k v
 | .inr x,v=>v5 x v
def TL (w:N4):Key->D3
 | .inl k=>m5 k
 | .inr x=>hashStr w x
theorem jH: ∀ {k:Key} {v:G1},VE k v=true->(∃i t,k=lL i/\v=dJ i t)\/(∃x t,k=bV x/\v=mM x t)
 | .inl i,v,h=>by
  obtain⟨t,e⟩:=Value.isInt_shape (k:=i) (v:=v) h;exact .inl ⟨i,t,rfl,e⟩
 | .inr x,v,h=>by
  obtain⟨t,e⟩:=Value.isStrOf_shape (x:=x) (v:=v) h;exact .inr ⟨x,t,rfl,e⟩
theorem Qz (i:D3)(t:Tok):VE (.inl i) (.int i t)=true:=by simp [VE,dZ]
theorem QB (x:Str)(t:Tok):VE (.inr x) (.str x t)=true:=by simp [VE,v5]
theorem FP (a b:D3):decide ((lL a:Key)=lL b)=(a==b):=by
 by_cases e:a=b
 ·subst e;simp
 ·have h: ¬ (lL a:Key)=lL b:=λq=>e (Sum.inl.inj q)
  rw [N6 h];exact(beq_eq_false_iff_ne.mpr e).symm
theorem FQ (a b:Str):decide ((bV a:Key)=bV b)=decide (a=b):=by
 by_cases e:a=b
 ·subst e;simp
 ·have h: ¬ (bV a:Key)=bV b:=λq=>e (Sum.inr.inj q)
  rw [N6 h,N6 e]
theorem FR (a:D3)(b:Str):decide ((lL a:Key)=bV b)=false:=N6 (λq=>nomatch q)
theorem FS (a:Str)(b:D3):decide ((bV a:Key)=lL b)=false:=N6 (λq=>nomatch q)
def wt (prog:R9)(w:N4):PySem.KeyKind prog w Key where
 is:=VE
 hash:=TL w
 inj:=λv a b ha hb=>by
  rcases jH ha with ⟨i,t,rfl,rfl⟩|⟨x,t,rfl,rfl⟩
  ·rcases jH hb with ⟨j,u,rfl,e⟩|⟨y,u,rfl,e⟩
   ·injection e with e1 _;rw [e1]
   ·exact nomatch e
  ·rcases jH hb with ⟨j,u,rfl,e⟩|⟨y,u,rfl,e⟩
   ·exact nomatch e
   ·injection e with e1 _;rw [e1]
 byValue:=λk v h=>by
  rcases jH h with ⟨i,t,rfl,rfl⟩|⟨x,t,rfl,rfl⟩<;>rfl
 pyHash:=λhv h=>by
  rcases jH hv with ⟨i,t,rfl,rfl⟩|⟨x,t,rfl,rfl⟩
  ·exact q0 h
  ·exact wpAny_pyHash_str h
 eqBool:=λhu hv h=>by
  rcases jH hu with ⟨i,t,rfl,rfl⟩|⟨x,t,rfl,rfl⟩
  ·rcases jH hv with ⟨j,u,rfl,rfl⟩|⟨y,u,rfl,rfl⟩
   ·rw [FP] at h;exact wpAny_eqBool_int h
   ·rw [FR] at h;exact SeqAt.EqAt.int_str i t y u _ _ _ _ h
  ·rcases jH hv with ⟨j,u,rfl,rfl⟩|⟨y,u,rfl,rfl⟩
   ·rw [FS] at h;exact SeqAt.EqAt.str_int x t j u _ _ _ _ h
   ·rw [FQ] at h;exact wpAny_eqBool_str h
 «strs» :=λk x t v h=>by
  rcases jH h with ⟨i,u,rfl,e⟩|⟨y,u,rfl,e⟩
  ·exact nomatch e
  ·injection e with e1 _
   subst e1;cases v<;>rfl
theorem VF (prog:R9)(w:N4)(i:D3)(t:Tok):(wt prog w).is (.inl i) (.int i t)=true:=Qz i t
theorem VG (prog:R9)(w:N4)(x:Str)(t:Tok):(wt prog w).is (.inr x) (.str x t)=true:=QB x t
inductive V where
 |non|bl (b:T5)|int (i:D3)|str (x:Str)|byt (b:S6 UInt8)|flt (b:UInt64)|ref (a:G9)|ty (n:U2)
 deriving DecidableEq
def RelV:V->G1->Prop
 | .non,u=>u=f6
 | .bl b,u=>u=iK b
 | .int i,u=> ∃t,u=dJ i t
 | .str x,u=> ∃t,u=mM x t
 | .byt b,u=> ∃t,u=Value.bytes b t
 | .flt b,u=> ∃t,u=IK b t
 | .ref a,u=>u=dL a
 | .ty n,u=>u=V4 n
abbrev Vals:G0 V->G0 G1->Prop:=Paired RelV
theorem Vals.length {xs:G0 V}{us:G0 G1}(r:Vals xs us):xs.length=us.length:=Paired.length r
theorem Vals.get: ∀ {xs:G0 V} {us:G0 G1} {i:G7} {x:V},Vals xs us->xs[i]? =some x-> ∃u,us[i]? =some u/\RelV x u
 |_,_,_,_,.nil,e=>by simp at e
 |_,_,0,_,.cons r _,e=>by simp at e;subst e;exact⟨_,rfl,r⟩
 |_,_,i+1,x,.cons _ t,e=>by
  obtain⟨u,h1,h2⟩:=Vals.get (i:=i) (x:=x) t (by simpa using e);exact⟨u,by simpa using h1,h2⟩
variable {u:G1}
theorem Vals.set {x:V}(r:RelV x u): ∀ {xs:G0 V} {us:G0 G1} (i:G7),Vals xs us->Vals (xs.set i x) (us.set i u)
 |_,_,_,.nil=> .nil
 |_,_,0,.cons _ t=> .cons r t
 |_,_,i+1,.cons q t=> .cons q (Vals.set r i t)
theorem Vals.append: ∀ {xs ys:G0 V} {us ws:G0 G1},Vals xs us->Vals ys ws->Vals (xs++ys) (us++ws)
 |_,_,_,_,.nil,s=>s
 |_,_,_,_,.cons r t,s=> .cons r (Vals.append t s)
theorem Vals.take: ∀ {xs:G0 V} {us:G0 G1} (n:G7),Vals xs us->Vals (xs.take n) (us.take n)
 |_,_,0,_=> .nil
 |_,_,_+1,.nil=> .nil
 |_,_,n+1,.cons r t=> .cons r (Vals.take n t)
theorem Vals.drop: ∀ {xs:G0 V} {us:G0 G1} (n:G7),Vals xs us->Vals (xs.drop n) (us.drop n)
 |_,_,0,r=>r
 |_,_,_+1,.nil=> .nil
 |_,_,n+1,.cons _ t=>Vals.drop n t
def Eg:P4 V->P4 G1->Prop
 |some v,some u=>RelV v u
 |none,none=>True
 |_,_=>False
def KV {κ:Type}:G0 (κ×V)->G0 (κ×G1)->Prop:=Paired λ(p:κ×V) (q:κ×G1)=>p.1=q.1/\RelV p.2 q.2
def kV:Key->V
 | .inl i=> .int i
 | .inr x=> .str x
inductive HO where
 /-- a list -/
 |lst (xs:G0 V)
 /-- a tuple (never changes) -/
 |tup (xs:G0 V)
 /-- a dict whose keys are ints and texts;one whose keys are tuples of ints and texts (the empty one is both) -/
 |dK (kvs:G0 (Key×V))|dT (kvs:G0 (G0 Key×V))
 /-- a set of ints: its members,its size -/
 |set (S:D3->T5) (n:G7)
 /-- an instance of the class at C,its dict at dx,its attributes -/
 |ins (C dx:G9) (fs:G0 (Str×V))
 /-- the dict of the instance at x -/
 |own (x:G9)
 /-- the dict of an exception -/
 |xd (fs:G0 (Str×V))
 /-- a bound method,f of x -/
 |met (f x:G9)
 /-- a range object lo,lo+1,.. below hi -/
 |rng (lo hi:D3)
 /-- a thing that is known to the object (the script;a dict while a loop walks it):read,never written while it is so -/
 |frz (o:Obj) (u:HO)
 /-- a code object's table -/
 |tbl (ps:S6 G1)
 /-- any other thing,by what is true of its one object (a def of one's own: SetO a S n:=HO.ext λh=> ..) -/
 |ext (φ:B6->Prop)
abbrev Hp:=G9->P4 HO
def upd (H:Hp)(a:G9)(o:HO):Hp:=λb=>if b=a then some o else H b
variable {H:Hp}{a:G9}{o:HO}
theorem jh:upd H a o a=some o:=by unfold upd;rw [R6 rfl]
variable {b:G9}
theorem jf (h:b≠a):upd H a o b=H b:=by unfold upd;rw [R8 h]
theorem Xx {u:HO}(h:H a=some o)(h':H b=some u)(d:o≠u):a≠b:=by
 intro e;subst e;rw [h] at h';exact d (O5 h')
theorem jg (h:H a=some o)(h':H b=none):a≠b:=by
 intro e;subst e;rw [h] at h';cases h'
def IsTupN (h:B6)(a:G9)(items:S6 G1):Prop:= ∃o,h.get? a=some o/\o.cls= .type "tuple" /\o.dict=none/\ ∃n,o.data= .seq items n
theorem IsTupN.tup {h:B6}{a:G9}{items:S6 G1}(x:IsTupN h a items):rZ h a items:=let ⟨o,e,c,_,n,d⟩:=x;⟨o,e,c,n,d⟩
theorem IsTupN.new (h:B6)(items:S6 G1):IsTupN (h.push {cls:= .type "tuple",data:= .seq items}) h.objs.size items:=⟨_,R1 _ rfl,rfl,rfl,_,rfl⟩
section
variable (P:R9)(w:N4)
def ObjOk (H:Hp)(h:B6)(a:G9):HO->Prop
 | .lst xs=>xs.length<=sizeLine/\ ∃ (its:G0 G1) (n:G7),Vals xs its/\h.get? a=some {cls:= .type "list",data:= .seq its.toArray n}
 | .tup xs=>xs.length<=sizeLine/\ ∃its:G0 G1,Vals xs its/\IsTupN h a its.toArray
 | .dK kvs=>kvs.length<=sizeLine/\(a==sysModules)=false/\ ∃vs,KV kvs vs/\h.DictOf (wt P w) a vs
 | .dT kvs=>kvs.length<=sizeLine/\(a==sysModules)=false/\ ∃xs:G0 (G0 Key×G9×G1),
  Paired (λ(p:G0 Key×V) (q:G0 Key×G9×G1)=>p.1=q.1/\H q.2.1=some (.tup (p.1.map kV))/\RelV p.2 q.2.2) kvs xs/\
  ∃o es ep,h.get? a=some o/\o.ExactDict/\o.data= .dict es ep/\es.toList=xs.map (entryOfKey (tupleKind (wt P w)))/\(xs.map (·.1)).Nodup
 | .set S n=>h.SetOf (intKind P w) a S n
 | .ins C dx fs=>H dx=some (.own a)/\fs.length<=1000/\dx≠a/\h.get? a=some (nN C dx)/\
  ∃mA,h.Ns1 dx mA/\(∀f,Eg (fs.lookup f) (mA f))/\xY mA (fs.map (·.1))
 | .own _=> ∃o,h.get? a=some o
 | .xd fs=> ∃mA,h.Ns1 a mA/\ ∀f,Eg (fs.lookup f) (mA f)
 | .rng lo hi=> ∃t u v,h.get? a=some {cls:= .type "range",data:= .fields #[.int lo t,.int hi u,.int 1 v]}
 | .frz o u=>h.get? a=some o/\ObjOk H h a u
 | .tbl ps=>h.get? a=some {cls:= .none,data:= .fields ps}
 | .met f x=>h.get? a=some (lM (.ref f) (.ref x))
 | .ext φ=>φ h/\(∃o,h.get? a=some o)/\ ∀h1 h2:B6,φ h1->(∀o,h1.get? a=some o->h2.get? a=some o)->φ h2
def HOk (H:Hp)(h:B6):Prop:= ∀a o,H a=some o->ObjOk P w H h a o
end
section
variable {P:R9}{w:N4}{H H':Hp}{h h':B6}{a:G9}{o:HO}
theorem ObjOk.lt (x:ObjOk P w H h a o):a<h.objs.size:=by
 cases o with
 |lst xs=>obtain⟨_,_,_,_,e⟩:=x;exact P9 e
 |tup xs=>obtain⟨_,_,_,p⟩:=x;exact p.tup.lt
 |dK kvs=>obtain⟨_,_,_,_,o,_,_,e,_⟩:=x;exact P9 e
 |dT kvs=>obtain⟨_,_,_,_,o,_,_,e,_⟩:=x;exact P9 e
 |set S n=>obtain⟨o,_,_,_,e,_⟩:=x;exact P9 e
 |ins C dx fs=>obtain⟨_,_,_,e,_⟩:=x;exact P9 e
 |own y=>obtain⟨_,e⟩:=x;exact P9 e
 |xd fs=>obtain⟨_,⟨_,_,_,e,_⟩,_⟩:=x;exact P9 e
 |rng lo hi=>obtain⟨_,_,_,e⟩:=x;exact P9 e
 |frz ob u=>obtain⟨e,_⟩:=x;exact P9 e
 |tbl ps=>exact P9 (show h.get? a=some _ from x)
 |met f y=>exact P9 (show h.get? a=some _ from x)
 |ext φ=>obtain⟨_,⟨_,e⟩,_⟩:=x;exact P9 e
theorem Paired.mapP {α β:Type}{F G:α->β->Prop}: ∀ {l₁:G0 α} {l₂:G0 β},Paired F l₁ l₂->(∀a b,F a b->G a b)->Paired G l₁ l₂
 |_,_,.nil,_=> .nil
 |_,_,.cons r t,f=> .cons (f _ _ r) (Paired.mapP t f)
theorem ObjOk.stay (x:ObjOk P w H h a o)(k: ∀b u,(b=a\/H b=some (.own a))->h.get? b=some u->h'.get? b=some u)
 (ho: ∀b,H b=some (.own a)->H' b=some (.own a))(ht: ∀b xs,H b=some (.tup xs)->H' b=some (.tup xs)):ObjOk P w H' h' a o:=by
 induction o with
 |lst xs=>obtain⟨z,its,n,r,e⟩:=x;exact⟨z,its,n,r,k _ _ (.inl rfl) e⟩
 |tup xs=>obtain⟨z,its,r,ob,e,c⟩:=x;exact⟨z,its,r,ob,k _ _ (.inl rfl) e,c⟩
 |dK kvs=>obtain⟨z,y,vs,r,ob,es,ep,e,c⟩:=x;exact⟨z,y,vs,r,ob,es,ep,k _ _ (.inl rfl) e,c⟩
 |dT kvs=>
  obtain⟨z,y,xs,r,ob,es,ep,e,c⟩:=x;exact⟨z,y,xs,Paired.mapP r λp q z=>⟨z.1,ht _ _ z.2.1,z.2.2⟩,ob,es,ep,k _ _ (.inl rfl) e,c⟩
 |set S n=>obtain⟨ob,es,ep,t,e,c⟩:=x;exact⟨ob,es,ep,t,k _ _ (.inl rfl) e,c⟩
 |ins C dx fs=>
  obtain⟨d,z,ne,e,mA,⟨od,es,ep,e2,c⟩,r⟩:=x;exact⟨ho _ d,z,ne,k _ _ (.inl rfl) e,mA,⟨od,es,ep,k _ _ (.inr d) e2,c⟩,r⟩
 |own y=>obtain⟨ob,e⟩:=x;exact⟨ob,k _ _ (.inl rfl) e⟩
 |xd fs=>obtain⟨mA,⟨od,es,ep,e,c⟩,r⟩:=x;exact⟨mA,⟨od,es,ep,k _ _ (.inl rfl) e,c⟩,r⟩
 |rng lo hi=>obtain⟨t,u,v,e⟩:=x;exact⟨t,u,v,k _ _ (.inl rfl) e⟩
 |frz ob u ih=>obtain⟨e,q⟩:=x;exact⟨k _ _ (.inl rfl) e,ih q⟩
 |tbl ps=>
  have e:h.get? a=some {cls:= .none,data:= .fields ps}:=x;show h'.get? a=some {cls:= .none,data:= .fields ps};exact k a _ (.inl rfl) e
 |met f y=>
  have e:h.get? a=some (lM (.ref f) (.ref y)):=x;show h'.get? a=some (lM (.ref f) (.ref y));exact k a _ (.inl rfl) e
 |ext φ=>obtain⟨p,⟨o,e⟩,st⟩:=x;exact⟨st _ _ p λo q=>k _ _ (.inl rfl) q,⟨o,k _ _ (.inl rfl) e⟩,st⟩
theorem HOk.lt (x:HOk P w H h)(e:H a=some o):a<h.objs.size:=(x a o e).lt
theorem HOk.fresh (x:HOk P w H h)(e:h.objs.size<=a):H a=none:=by
 cases q:H a with
 |none=>rfl
 |some u=>exact absurd (S7 (x.lt q) e) (N7 _)
theorem HOk.kept (x:HOk P w H h)(k: ∀b u,h.get? b=some u->h'.get? b=some u):HOk P w H h':=λa o e=>
 (x a o e).stay (λb u _ q=>k b u q) (λ_ q=>q) λ_ _ q=>q
theorem HOk.laid (x:HOk P w H h)(k: ∀b u,h.get? b=some u->h'.get? b=some u)(hp:h.objs.size<=a)(new:ObjOk P w (upd H a o) h' a o):HOk P w (upd H a o) h':=λb u e=>by
 have hn:=x.fresh hp
 by_cases hb:b=a
 ·subst hb;rw [jh] at e;cases e;exact new
 ·rw [jf hb] at e;exact(x b u e).stay (λc v _ q=>k c v q) (λc q=>by rw [jf (jg q hn)];exact q) λc xs q=>by rw [jf (jg q hn)];exact q
end
def Rd (H:Hp)(a:G9)(u:HO):Prop:=H a=some u\/ ∃o,H a=some (.frz o u)
variable {P:R9}{w:N4}{h:B6}
theorem Rd.ok {u:HO}(r:Rd H a u)(x:HOk P w H h):ObjOk P w H h a u:=by
 rcases r with r|⟨o,r⟩
 ·exact x a u r
 ·obtain⟨_,q⟩:=x a _ r;exact q
def Mut:P4 HO->Prop
 |some (.lst _)=>True
 |some (.dK _)=>True
 |some (.dT _)=>True
 |some (.set _ _)=>True
 |some (.ins _ _ _)=>True
 |some (.ext _)=>True
 |_=>False
section
variable {P:R9}{w:N4}{H:Hp}{h h':B6}{x e:G9}{o':HO}
theorem HOk.write (ok:HOk P w H h)(mu:Mut (H x))(he:e=x\/H e=some (.own x))(k: ∀b u,b≠e->h.get? b=some u->h'.get? b=some u)(heo: ∃u,h'.get? e=some u)
 (new:ObjOk P w (upd H x o') h' x o'):HOk P w (upd H x o') h':=λb u q=>by
 have nown: ∀c y,H c=some (.own y)->c≠x:=λc y r z=>by subst z;rw [r] at mu;exact mu
 have ntup: ∀c xs,H c=some (.tup xs)->c≠x:=λc xs r z=>by subst z;rw [r] at mu;exact mu
 by_cases hb:b=x
 ·subst hb;rw [jh] at q;cases q;exact new
 ·rw [jf hb] at q
  by_cases hbe:b=e
  ·have q':H b=some (.own x):=by
    rcases he with z|z
    ·exact absurd (hbe.trans z) hb
    ·rw [hbe];exact z
   rw [q] at q';cases q';obtain⟨v,hv⟩:=heo;exact⟨v,by rw [hbe];exact hv⟩
  ·refine(ok b u q).stay (λc v hc r=>k c v ?_ r) (λc r=>by rw [jf (nown c b r)];exact r) λc xs r=>by rw [jf (ntup c xs r)];exact r
   rcases hc with rfl|hc
   ·exact hbe
   ·rintro rfl;rcases he with z|z
    ·exact nown c b hc z
    ·rw [hc] at z;cases z;exact hb rfl
end
structure Un (fs ex:G0 G9)(H H':Hp)(h h':B6):Prop where
 keep: ∀b o,h.get? b=some o->H b=none->b ∉ fs->b ∉ ex->h'.get? b=some o
 slot: ∀b o,h.get? b=some o->H b=none->b∈fs->b ∉ ex-> ∃sl,h'.get? b=some {o with slots:=sl}
 free: ∀b o,h.get? b=some o->H b=none->b ∉ ex->H' b=none
 there: ∀b o,h.get? b=some o->b ∉ ex-> ∃o',h'.get? b=some o'
 tups: ∀b xs,H b=some (.tup xs)->H' b=some (.tup xs)
 frzs: ∀b o u,H b=some (.frz o u)->H' b=some (.frz o u)
 tbls: ∀b ps,H b=some (.tbl ps)-> ∃more,H' b=some (.tbl (ps++more))
section
variable {fs fs' ex ex':G0 G9}{H H1 H2:Hp}{h h1 h2 h':B6}{a x e:G9}{o:HO}
theorem Un.any (u:Un fs ex H H1 h h1){b:G9}{ob:Obj}(q:h.get? b=some ob)(n:H b=none)(hx:b ∉ ex): ∃sl,h1.get? b=some {ob with slots:=sl}:=by
 by_cases hb:b∈fs
 ·exact u.slot b ob q n hb hx
 ·exact⟨ob.slots,u.keep b ob q n hb hx⟩
theorem Un.kept (k: ∀b u,h.get? b=some u->h'.get? b=some u):Un fs ex H H h h':=
 ⟨λb ob q _ _ _=>k b ob q,λb ob q _ _ _=>⟨ob.slots,k b ob q⟩,λ_ _ _ n _=>n,λb ob q _=>⟨ob,k b ob q⟩,λ_ _ q=>q,λ_ _ _ q=>q,λ_ ps q=>⟨#[],by rw [q];simp⟩⟩
theorem Un.refl:Un fs ex H H h h:=Un.kept λ_ _ q=>q
theorem Un.laid (k: ∀b u,h.get? b=some u->h'.get? b=some u)(hp:h.objs.size<=a)(hn:H a=none):Un fs ex H (upd H a o) h h' where
 keep:=λb u q _ _ _=>k b u q
 slot:=λb u q _ _ _=>⟨u.slots,k b u q⟩
 free:=λb u q n _=>by rw [jf (M0 (S7 (P9 q) hp))];exact n
 there:=λb u q _=>⟨u,k b u q⟩
 tups:=λb xs q=>by rw [jf (jg q hn)];exact q
 frzs:=λb u xs q=>by rw [jf (jg q hn)];exact q
 tbls:=λb ps q=>⟨#[],by rw [jf (jg q hn),q];simp⟩
theorem Un.write (mu:Mut (H x))(he:e=x\/H e=some (.own x))(k: ∀b u,b≠e->h.get? b=some u->h'.get? b=some u)(heo: ∃u,h'.get? e=some u):Un fs ex H (upd H x o) h h':=by
 have hx: ∀b,H b=none->b≠x:=λb n z=>by subst z;rw [n] at mu;exact mu
 have hb: ∀b,H b=none->b≠e:=λb n z=>by
  subst z;rcases he with r|r
  ·exact hx b n r
  ·rw [n] at r;cases r
 have hm: ∀b u,H b=some u-> ¬Mut (some u)->b≠x:=λb u q nm z=>by subst z;rw [q] at mu;exact nm mu
 refine⟨λb u q n _ _=>k b u (hb b n) q,λb u q n _ _=>⟨u.slots,k b u (hb b n) q⟩,λb u q n _=>by rw [jf (hx b n)];exact n,λb u q _=> ?_,
  λb xs q=>by rw [jf (hm b _ q λz=>z)];exact q,λb u xs q=>by rw [jf (hm b _ q λz=>z)];exact q,λb ps q=>⟨#[],by rw [jf (hm b _ q λz=>z),q];simp⟩⟩
 by_cases hbe:b=e
 ·subst hbe;exact heo
 ·exact⟨u,k b u hbe q⟩
end
def trk (h:B6)(H:Hp):G0 G9:=(R4 h.objs.size).filter λa=>(H a).isSome
def Re (h:B6)(H:Hp):B6:=fV h (trk h H)
theorem QC (h:B6)(H:Hp):(Re h H).objs.size=h.objs.size:=IL _ _
theorem WB {o:Obj}(e:h.get? b=some o)(n:H b=none):(Re h H).get? b=some o:=
 cN _ e λhm=>by
  have q:(H b).isSome=true:=(C8.mp hm).2;rw [n] at q;simp at q
theorem NV {o:Obj}(e:(Re h H).get? b=some o):h.get? b=some o/\H b=none:=by
 have e':h.get? b=some o:=kJ (trk h H) e;refine⟨e',?_⟩;cases q:H b with
 |none=>rfl
 |some x=>
  have hm:b∈trk h H:=C8.mpr ⟨S8.mpr (P9 e'),by simp [q]⟩;have z:(Re h H).get? b=none:=bW (trk h H) hm;rw [z] at e;cases e
def NW (g h:B6)(L:G9):G0 (G9×Obj):=(R4 h.objs.size).filterMap λa=>if a=L\/(g.get? a).isSome=true then none else (h.get? a).map λo=>(a,o)
def rest (g h:B6)(L d:G9):G0 (G9×Obj):=(NW g h L).filter λp=>decide (p.1≠d)
structure Mod (K:G5)(mg:Str->P4 G1)(base:B6):Prop where
 kin:K.In base
 glob:base.Ns mainGlobals mg
 blt: ∃mb,base.Ns kK mb/\ ∀x:Str,x≠ "__name__" ->mb x=U8 x
 nolimit:base.NoLimit
structure Cx where
 prog:R9
 w:N4
 K:G5
 mg:Str->P4 G1
 base:B6
 A:T3
 N:G0 Str
 s₀:G2
 H₀:Hp
 env:Env
 outer:G0 Env
 stack:G0 Env
 ex:G0 G9
 fn:Str->T5
 calm:T5
 pn:G0 (G9×Obj)
 xe:G1->G2->Prop
def frs (l:G0 Env):G0 G9:=l.filterMap (·.frame)
abbrev Cx.fs (X:Cx):G0 G9:=frs X.outer
def Vis (sc:Q1)(x:Str):Prop:=sc.names.lookup x=some .local\/sc.names.lookup x=some .cell\/sc.names.lookup x=some .free
def Loc (sc:Q1)(x:Str):Prop:=sc.names.lookup x=some .local\/sc.names.lookup x=some .cell
def TN (env:Env)(h:B6)(m:Str->P4 G1)(x:Str)(u:G1):Prop:=
 (env.kindOf x=some .local/\m x=some u)\/((env.kindOf x=some .cell\/env.kindOf x=some .free)/\ ∃c,env.cells.lookup x=some c/\h.IsCell c (some u))
structure Cx.Ok (X:Cx):Prop where
 mod:Mod X.K X.mg X.base
 kind:X.env.scope.kind= .function
 glob:X.env.globals=mainGlobals
 blt:X.env.builtins=kK
 above:X.s₀.heap.objs.size<=X.env.locals
 inj: ∀x y c,X.env.cells.lookup x=some c->X.env.cells.lookup y=some c->x=y
 has: ∀x,(X.env.kindOf x=some .cell\/X.env.kindOf x=some .free)-> ∃c,X.env.cells.lookup x=some c
 cab: ∀x c,X.fn x=true->X.env.cells.lookup x=some c->X.s₀.heap.objs.size<=c
 hd:X.calm=true->X.A.handled=none
 frames:X.A.frames=some X.stack
 stk:X.stack=X.outer\/(X.stack=X.env::X.outer/\X.env.frame=some X.env.locals)
 exf: ∀b∈X.ex,b≠X.env.locals/\ ∀x c,X.env.cells.lookup x=some c->c≠b
 bs: ∀b o,X.base.get? b=some o->X.s₀.heap.get? b=some o/\X.H₀ b=none
 bsz:X.base.objs.size<=X.s₀.heap.objs.size
 noex: ∀b o,X.base.get? b=some o->b ∉ X.ex
 exfs: ∀b∈X.ex,b ∉ X.fs
 funs:X.s₀.heap.FunFrames X.base X.outer
 frf: ∀b∈X.fs,X.H₀ b=none
structure Inv (X:Cx)(pins:G0 (G9×Obj))(σ:G0 (P4 V))(H:Hp)(s:G2):Prop where
 ok:X.Ok
 os:s.os=X.s₀.os
 bare:j7 s.gens
 base:Un X.fs X.ex X.H₀ H X.s₀.heap s.heap
 loc: ∃m,s.heap.Ns X.env.locals m/\ ∀ (i:G7) (x:Str) (v:V),X.N[i]? =some x->σ[i]? =some (some v)->Vis X.env.scope x-> ∃u,RelV v u/\TN X.env s.heap m x u
 cell: ∀x c,X.env.cells.lookup x=some c-> ∃v,s.heap.IsCell c v
 free:H X.env.locals=none
 freeC: ∀x c,X.env.cells.lookup x=some c->H c=none
 pin: ∀p∈X.pn++pins,s.heap.get? p.1=some p.2/\H p.1=none/\p.1≠X.env.locals/\p.1 ∉ X.fs/\ ∀v,p.2.data≠ .cell v
 hok:HOk X.prog X.w H s.heap
 len:σ.length=X.N.length
section
variable {X:Cx}{pins:G0 (G9×Obj)}{σ:G0 (P4 V)}{H H':Hp}{s:G2}{h':B6}
theorem Cx.Ok.nofr (ok:X.Ok){b:G9}{o:Obj}(e:X.base.get? b=some o):b ∉ X.fs:=λhb=>by
 have:=(ok.funs.mem hb).1;rw [e] at this;cases this
theorem Inv.bs (I:Inv X pins σ H s): ∀b o,X.base.get? b=some o->s.heap.get? b=some o/\H b=none:=λb o e=>
 ⟨I.base.keep b o (I.ok.bs b o e).1 (I.ok.bs b o e).2 (I.ok.nofr e) (I.ok.noex b o e),I.base.free b o (I.ok.bs b o e).1 (I.ok.bs b o e).2 (I.ok.noex b o e)⟩
theorem Inv.bk (I:Inv X pins σ H s): ∀b o,X.base.get? b=some o->s.heap.get? b=some o:=λb o e=>(I.bs b o e).1
theorem Inv.mod (I:Inv X pins σ H s):Mod X.K X.mg X.base:=I.ok.mod
theorem Inv.kIn (I:Inv X pins σ H s):X.K.In s.heap:=I.ok.mod.kin.keeps I.bk
theorem Inv.lt (I:Inv X pins σ H s):X.env.locals<s.heap.objs.size:=let ⟨_,hn,_⟩:=I.loc;hn.lt
theorem Inv.sz (I:Inv X pins σ H s):X.s₀.heap.objs.size<=s.heap.objs.size:=S0 I.ok.above (T4 I.lt)
theorem Inv.nofs (I:Inv X pins σ H s){a:G9}(h:s.heap.objs.size<=a):a ∉ X.fs:=λhb=>by
 obtain⟨_,o,ho,_⟩:=I.ok.funs.mem hb;exact absurd (S7 (P9 ho) (S0 I.sz h)) (N7 _)
theorem Inv.cne (I:Inv X pins σ H s): ∀x c,X.env.cells.lookup x=some c->c≠X.env.locals:=λx c e z=>by
 obtain⟨v,o,ho,hd⟩:=I.cell x c e;obtain⟨m,⟨o',es,ep,ho',hd',_⟩,_⟩:=I.loc;rw [z,ho'] at ho;cases ho;rw [hd'] at hd;cases hd
theorem Inv.funs (I:Inv X pins σ H s):s.heap.FunFrames X.base X.outer:=by
 have all: ∀ (l:G0 Env),(∀b∈frs l,b∈X.fs)->X.s₀.heap.FunFrames X.base l->s.heap.FunFrames X.base l:=by
  intro l
  induction l with
  |nil=>intro _ _;trivial
  |cons env r ih=>
   intro hs hl;obtain⟨hk,⟨L,o,hf,hn,ho,hd⟩,hr⟩:=hl;have hL:L∈X.fs:=hs L (by unfold frs;rw [X6,hf];exact P7);obtain⟨sl,e⟩:=I.base.slot L o ho (I.ok.frf L hL) hL λz=>I.ok.exfs L z hL
   exact⟨hk,⟨L,_,hf,hn,e,hd⟩,ih (λb hb=>hs b (by unfold frs;rw [X6,hf];exact D1 _ hb)) hr⟩
 exact all X.outer (λ_ hb=>hb) I.ok.funs
theorem Inv.stack (I:Inv X pins σ H s):s.heap.FunFrames X.base X.stack:=by
 rcases I.ok.stk with e|⟨e,hf⟩
 ·rw [e];exact I.funs
 ·rw [e];obtain⟨m,hn,_⟩:=I.loc;refine .cons (by rw [I.ok.kind];decide) hf hn ?_ I.funs;exact Heap.get?_none_of_le (S0 I.ok.bsz I.ok.above)
theorem Inv.stkSub (I:Inv X pins σ H s): ∀b∈frs X.stack,b∈X.env.locals::X.fs:=λb hb=>by
 rcases I.ok.stk with e|⟨e,hf⟩
 ·rw [e] at hb;exact D1 _ hb
 ·rw [e] at hb;unfold frs at hb;rw [X6,hf] at hb;exact hb
theorem Inv.stkFree (I:Inv X pins σ H s): ∀b∈frs X.stack,H b=none:=λb hb=>by
 rcases D2.mp (I.stkSub b hb) with e|hb
 ·rw [e];exact I.free
 ·obtain⟨_,o,ho,_⟩:=I.ok.funs.mem hb;exact I.base.free b o ho (I.ok.frf b hb) λz=>I.ok.exfs b z hb
variable {t':G7}
theorem Inv.step {g':S6 GenState}{d':Drawn}{ch:G0 G9}(I:Inv X pins σ H s)
 (hch: ∀b∈ch,(b∈X.ex\/X.s₀.heap.objs.size<=b)/\b≠X.env.locals/\(∀x c,X.env.cells.lookup x=some c->c≠b)/\ ∀p∈X.pn++pins,p.1≠b)
 (keep: ∀b o,b≠X.env.locals->b ∉ X.fs->b ∉ ch->s.heap.get? b=some o->H b=none->h'.get? b=some o)
 (slot: ∀b o,b≠X.env.locals->b∈X.fs->b ∉ ch->s.heap.get? b=some o->H b=none-> ∃sl,h'.get? b=some {o with slots:=sl})(free: ∀b o,b ∉ ch->s.heap.get? b=some o->H b=none->H' b=none)
 (there: ∀b o,b ∉ ch->s.heap.get? b=some o-> ∃o',h'.get? b=some o')
 (tups: ∀b xs,H b=some (.tup xs)->H' b=some (.tup xs))(frzs: ∀b o u,H b=some (.frz o u)->H' b=some (.frz o u))(tbls: ∀b ps,H b=some (.tbl ps)-> ∃more,H' b=some (.tbl (ps++more)))
 (ns: ∀m,s.heap.Ns X.env.locals m->h'.Ns X.env.locals m)(hok:HOk X.prog X.w H' h')(hg:j7 g'):
 Inv X pins σ H' {s with heap:=h',gens:=g',drawn:=d',toks:=t'}:=by
 have neL: ∀b o,X.s₀.heap.get? b=some o->b≠X.env.locals:=λb o e=>M0 (S7 (P9 e) I.ok.above)
 have neC: ∀b o,X.s₀.heap.get? b=some o->b ∉ X.ex->b ∉ ch:=λb o e hx hb=>by
  rcases (hch b hb).1 with z|z
  ·exact hx z
  ·exact absurd (S7 (P9 e) z) (N7 _)
 have cellK: ∀x c,X.env.cells.lookup x=some c-> ∀v,s.heap.IsCell c v->h'.IsCell c v:=λx c e v ⟨o,ho,hd⟩=>by
  have nch:c ∉ ch:=λz=>(hch c z).2.2.1 x c e rfl
  by_cases hc:c∈X.fs
  ·obtain⟨sl,q⟩:=slot c o (I.cne x c e) hc nch ho (I.freeC x c e);exact⟨_,q,hd⟩
  ·exact⟨o,keep c o (I.cne x c e) hc nch ho (I.freeC x c e),hd⟩
 refine⟨I.ok,I.os,hg,⟨λb o e n hb hx=> ?_,λb o e n hb hx=> ?_,λb o e n hx=> ?_,λb o e hx=> ?_,λb xs e=>tups b xs (I.base.tups b xs e),λb o xs e=>frzs b o xs (I.base.frzs b o xs e),λb ps e=> ?_⟩,?_,λx c e=> ?_,?_,λx c e=> ?_,λp hp=> ?_,hok,I.len⟩
 ·exact keep b o (neL b o e) hb (neC b o e hx) (I.base.keep b o e n hb hx) (I.base.free b o e n hx)
 ·obtain⟨sl,e1⟩:=I.base.slot b o e n hb hx;obtain⟨sl',e2⟩:=slot b _ (neL b o e) hb (neC b o e hx) e1 (I.base.free b o e n hx);exact⟨sl',e2⟩
 ·obtain⟨o',e1⟩:=I.base.there b o e hx;exact free b o' (neC b o e hx) e1 (I.base.free b o e n hx)
 ·obtain⟨o',e1⟩:=I.base.there b o e hx;exact there b o' (neC b o e hx) e1
 ·obtain⟨m1,e1⟩:=I.base.tbls b ps e;obtain⟨m2,e2⟩:=tbls b _ e1;exact⟨m1++m2,by rw [e2,Array.append_assoc]⟩
 ·obtain⟨m,hn,hl⟩:=I.loc;refine⟨m,ns m hn,λi x v e1 e2 e3=> ?_⟩;obtain⟨u,r,l⟩:=hl i x v e1 e2 e3;refine⟨u,r,?_⟩;rcases l with l|⟨k,c,e,z⟩
  ·exact .inl l
  ·exact .inr ⟨k,c,e,cellK x c e _ z⟩
 ·obtain⟨v,z⟩:=I.cell x c e;exact⟨v,cellK x c e v z⟩
 ·obtain⟨m,⟨o,_,_,ho,_⟩,_⟩:=I.loc;exact free _ o (λz=>(hch _ z).2.1 rfl) ho I.free
 ·obtain⟨v,o,ho,hd⟩:=I.cell x c e;exact free c o (λz=>(hch c z).2.2.1 x c e rfl) ho (I.freeC x c e)
 ·obtain⟨e,n,ne,nf,d⟩:=I.pin p hp;have nch:p.1 ∉ ch:=λz=>(hch p.1 z).2.2.2 p hp rfl
  exact⟨keep p.1 p.2 ne nf nch e n,free p.1 p.2 nch e n,ne,nf,d⟩
theorem Inv.un (I:Inv X pins σ H s)(u:Un X.fs [] H H' s.heap h')(hok:HOk X.prog X.w H' h'):Inv X pins σ H' {s with heap:=h',toks:=t'}:=by
 obtain⟨m,⟨o,es,ep,ho,r⟩,_⟩:=id I.loc;obtain⟨sl,hL⟩:=u.any ho I.free (by simp);exact I.step (g':=s.gens) (d':=s.drawn) (ch:= []) (λ_ z=>nomatch z) (λb o _ hb _ e n=>u.keep b o e n hb (by simp)) (λb o _ hb _ e n=>u.slot b o e n hb (by simp)) (λb o _ e n=>u.free b o e n (by simp)) (λb o _ e=>u.there b o e (by simp)) u.tups u.frzs u.tbls (λm' hm=>by
  obtain⟨o',es',ep',ho',r'⟩:=hm;rw [ho] at ho';cases ho';exact⟨_,es',ep',hL,r'⟩) hok I.bare
theorem Inv.call {g':S6 GenState}{d':Drawn}{ch:G0 G9}(I:Inv X pins σ H s)(u:Un (frs X.stack) ch H H' s.heap h')(hok:HOk X.prog X.w H' h')(hg:j7 g')
 (hch: ∀b∈ch,(b∈X.ex\/X.s₀.heap.objs.size<=b)/\b≠X.env.locals/\(∀x c,X.env.cells.lookup x=some c->c≠b)/\ ∀p∈X.pn++pins,p.1≠b):
 Inv X pins σ H' {s with heap:=h',gens:=g',drawn:=d',toks:=t'}:=by
 obtain⟨m,⟨o,es,ep,ho,r⟩,_⟩:=id I.loc;obtain⟨sl,hL⟩:=u.any ho I.free λz=>(hch _ z).2.1 rfl
 exact I.step (ch:=ch) hch (λb o hL hb hc e n=>u.keep b o e n (λz=>(D2.mp (I.stkSub b z)).elim hL hb) hc) (λb o _ _ hc e n=>u.any e n hc) (λb o hc e n=>u.free b o e n hc) (λb o hc e=>u.there b o e hc) u.tups u.frzs u.tbls (λm' hm=>by
  obtain⟨o',es',ep',ho',r'⟩:=hm;rw [ho] at ho';cases ho';exact⟨_,es',ep',hL,r'⟩) hok hg
theorem Inv.turned {it:G9}(I:Inv X pins σ H s)(k: ∀b o,b≠it->s.heap.get? b=some o->h'.get? b=some o)(hn:H it=none)(hL:it≠X.env.locals)
 (h1:it∈X.ex\/X.s₀.heap.objs.size<=it)(h2: ∀x c,X.env.cells.lookup x=some c->c≠it)(h3: ∀p∈X.pn++pins,p.1≠it):Inv X pins σ H {s with heap:=h',toks:=t'}:=by
 have nit: ∀b u,H b=some u->b≠it:=λb u e z=>by rw [z,hn] at e;cases e
 refine I.step (g':=s.gens) (d':=s.drawn) (ch:= [it]) (λb hb=> ?_) (λb o _ _ hc e _=>k b o (λz=>hc (by simp [z])) e) (λb o _ _ hc e _=>⟨o.slots,k b o (λz=>hc (by simp [z])) e⟩) (λ_ _ _ _ n=>n)
  (λb o hc e=>⟨o,k b o (λz=>hc (by simp [z])) e⟩) (λ_ _ e=>e) (λ_ _ _ e=>e) (λb ps e=>⟨#[],by rw [e];simp⟩) (λm hm=> ?_) (λb u e=> ?_) I.bare
 ·have e:b=it:=by simpa using hb
  subst e;exact⟨h1,hL,h2,h3⟩
 ·obtain⟨o,es,ep,ho,r⟩:=hm;exact⟨o,es,ep,k _ o (U9 hL) ho,r⟩
 ·refine(I.hok b u e).stay (λc v hc q=>k c v ?_ q) (λ_ q=>q) λ_ _ q=>q
  rcases hc with z|z
  ·rw [z];exact nit b u e
  ·exact nit c _ z
theorem Inv.tok (I:Inv X pins σ H s)(t:G7):Inv X pins σ H {s with toks:=t}:=I.un (h':=s.heap) (t':=t) Un.refl I.hok
theorem Inv.kept (I:Inv X pins σ H s)(k: ∀b u,s.heap.get? b=some u->h'.get? b=some u):Inv X pins σ H {s with heap:=h',toks:=t'}:=I.un (Un.kept k) (I.hok.kept k)
theorem Inv.laid {a:G9}{o:HO}(I:Inv X pins σ H s)(k: ∀b u,s.heap.get? b=some u->h'.get? b=some u)(hp:s.heap.objs.size<=a)(new:ObjOk X.prog X.w (upd H a o) h' a o):
 Inv X pins σ (upd H a o) {s with heap:=h',toks:=t'}:=I.un (Un.laid k hp (I.hok.fresh hp)) (I.hok.laid k hp new)
theorem Inv.write {x e:G9}{o:HO}(I:Inv X pins σ H s)(mu:Mut (H x))(he:e=x\/H e=some (.own x))(k: ∀b u,b≠e->s.heap.get? b=some u->h'.get? b=some u)(heo: ∃u,h'.get? e=some u)
 (new:ObjOk X.prog X.w (upd H x o) h' x o):Inv X pins σ (upd H x o) {s with heap:=h',toks:=t'}:=I.un (Un.write mu he k heo) (I.hok.write mu he k heo new)
theorem Inv.weak {σ':G0 (P4 V)}(I:Inv X pins σ H s)(hl:σ'.length=σ.length)(w: ∀ (i:G7) v,σ'[i]? =some (some v)->σ[i]? =some (some v)):Inv X pins σ' H s:=
 ⟨I.ok,I.os,I.bare,I.base,let ⟨m,hn,hl'⟩:=I.loc;⟨m,hn,λi x v e1 e2 e3=>hl' i x v e1 (w i v e2) e3⟩,I.cell,I.free,I.freeC,I.pin,I.hok,hl.trans I.len⟩
theorem Inv.pins_of {pins':G0 (G9×Obj)}(I:Inv X pins σ H s)(h: ∀p∈pins',s.heap.get? p.1=some p.2/\H p.1=none/\p.1≠X.env.locals/\p.1 ∉ X.fs/\ ∀v,p.2.data≠ .cell v):Inv X pins' σ H s:=
 ⟨I.ok,I.os,I.bare,I.base,I.loc,I.cell,I.free,I.freeC,λp hp=>(T8.mp hp).elim (λz=>I.pin p (A7 _ z)) (h p),I.hok,I.len⟩
theorem WC {N:G0 Str}(hN:N.Nodup){i j:G7}{x:Str}(a:N[i]? =some x)(b:N[j]? =some x):i=j:=by
 obtain⟨h1,e1⟩:=P5.mp a;obtain⟨h2,e2⟩:=P5.mp b;exact(rC hN).mp (e1.trans e2.symm)
theorem QD {M:j0}{A:T3}{E:G1->G2->Prop}{i:G7}{x:Str}{v:V}{u:G1}{Q:Unit->G2->Prop}(I:Inv X pins σ H s)(hN:X.N.Nodup)(hi:X.N[i]? =some x)(hx:Loc X.env.scope x)(r:RelV v u)
 (h: ∀s',Inv X pins (σ.set i (some v)) H s'->(∃a,L9 a s.heap s'.heap/\(a=X.env.locals\/X.env.cells.lookup x=some a))->Q () s')(hf:X.fn x=true\/X.env.scope.names.lookup x=some .local:=by first|exact .inl rfl|exact .inr rfl|assumption):R3 M A (storeName X.env x u) Q E s:=by
 obtain⟨m,hn,hl⟩:=id I.loc;have hcls:(X.env.scope.kind== .class||(X.env.scope.kind== .module&&X.env.locals !=X.env.globals))=false:=by rw [I.ok.kind];rfl
 have hiσ:i<σ.length:=by rw [I.len];exact(P5.mp hi).1
 have cne:=I.cne;have tracked: ∀ {a:G9} {h':B6},(∃o,s.heap.get? a=some o/\H a=none)->L9 a s.heap h'->HOk X.prog X.w H h':=λ{a h'} ha hs b ob e=>by
  obtain⟨_,_,hfree⟩:=ha;refine(I.hok b ob e).stay (λc w' hc q=>(hs.2 c ?_).trans q) (λ_ q=>q) λ_ _ q=>q
  rintro rfl;rcases hc with rfl|hc
  ·rw [hfree] at e;cases e
  ·rw [hfree] at hc;cases hc
 rcases hx with hk|hk
 ·refine wpAny_storeName_local hk hn (λh' hn' hs=> ?_) hcls;obtain⟨oL,_,_,hoL,_⟩:=id hn;refine h _ ⟨I.ok,I.os,I.bare,⟨λb o e n hb hx=> ?_,λb o e n hb hx=> ?_,I.base.free,λb o e hx=> ?_,I.base.tups,I.base.frzs,I.base.tbls⟩,⟨_,hn',λj y v' e1 e2 e3=> ?_⟩,λy c e=> ?_,I.free,I.freeC,λp hp=> ?_,tracked ⟨oL,hoL,I.free⟩ hs,by simpa using I.len⟩ ⟨_,hs,.inl rfl⟩
  ·exact(hs.2 b (M0 (S7 (P9 e) I.ok.above))).trans (I.base.keep b o e n hb hx)
  ·obtain⟨sl,e1⟩:=I.base.slot b o e n hb hx;exact⟨sl,(hs.2 b (M0 (S7 (P9 e) I.ok.above))).trans e1⟩
  ·obtain⟨o',e1⟩:=I.base.there b o e hx;exact⟨o',(hs.2 b (M0 (S7 (P9 e) I.ok.above))).trans e1⟩
  ·by_cases hj:j=i
   ·subst hj;rw [hi] at e1;cases e1;rw [aO hiσ] at e2;cases e2;exact⟨u,r,.inl ⟨hk,by simp⟩⟩
   ·rw [U4 (U9 hj)] at e2;obtain⟨u',r',q⟩:=hl j y v' e1 e2 e3;refine⟨u',r',?_⟩;rcases q with ⟨k,e⟩|⟨k,c,e,z⟩
    ·refine .inl ⟨k,?_⟩;have:y≠x:=λe=>hj (WC hN e1 (e ▸ hi))
     simp [this,e]
    ·exact .inr ⟨k,c,e,z.sameBut hs (cne y c e)⟩
  ·obtain⟨w',z⟩:=I.cell y c e;exact⟨w',z.sameBut hs (cne y c e)⟩
  ·obtain⟨e,n,ne,nf,d⟩:=I.pin p hp;exact⟨(hs.2 p.1 ne).trans e,n,ne,nf,d⟩
 ·have hfn:X.fn x=true:=by
   rcases hf with z|z
   ·exact z
   ·rw [z] at hk;cases hk
  obtain⟨c,hc⟩:=I.ok.has x (.inl hk);obtain⟨w',z⟩:=I.cell x c hc;refine wpAny_storeName_cell I.ok.kind hk hc z (λh' hc' hs=> ?_);obtain⟨oc,hoc,hocd⟩:=id z;refine h {s with heap:=h'} ⟨I.ok,I.os,I.bare,⟨λb o e n hb hx=> ?_,λb o e n hb hx=> ?_,I.base.free,λb o e hx=> ?_,I.base.tups,I.base.frzs,I.base.tbls⟩,⟨m,hn.sameBut hs (U9 (cne x c hc)),λj y v' e1 e2 e3=> ?_⟩,λy c' e=> ?_,I.free,I.freeC,λp hp=> ?_,tracked ⟨oc,hoc,I.freeC x c hc⟩ hs,by simpa using I.len⟩ ⟨c,hs,.inr hc⟩
  ·exact(hs.2 b (M0 (S7 (P9 e) (I.ok.cab x c hfn hc)))).trans (I.base.keep b o e n hb hx)
  ·obtain⟨sl,e1⟩:=I.base.slot b o e n hb hx;exact⟨sl,(hs.2 b (M0 (S7 (P9 e) (I.ok.cab x c hfn hc)))).trans e1⟩
  ·obtain⟨o',e1⟩:=I.base.there b o e hx;exact⟨o',(hs.2 b (M0 (S7 (P9 e) (I.ok.cab x c hfn hc)))).trans e1⟩
  ·by_cases hj:j=i
   ·subst hj;rw [hi] at e1;cases e1;rw [aO hiσ] at e2;cases e2;exact⟨u,r,.inr ⟨.inl hk,c,hc,hc'⟩⟩
   ·rw [U4 (U9 hj)] at e2;obtain⟨u',r',q⟩:=hl j y v' e1 e2 e3;refine⟨u',r',?_⟩;rcases q with q|⟨k,c',e,z'⟩
    ·exact .inl q
    ·refine .inr ⟨k,c',e,z'.sameBut hs ?_⟩;rintro rfl;exact hj (WC hN e1 (I.ok.inj _ _ _ e hc ▸ hi))
  ·by_cases hcc:c'=c
   ·subst hcc;exact⟨_,hc'⟩
   ·obtain⟨w2,z2⟩:=I.cell y c' e;exact⟨w2,z2.sameBut hs hcc⟩
  ·obtain⟨e,n,ne,nf,d⟩:=I.pin p hp;refine⟨(hs.2 p.1 ?_).trans e,n,ne,nf,d⟩;intro q;rw [q,hoc] at e;have q':oc=p.2:=O5 e;exact d w' (by rw [<-q'];exact hocd)
theorem wM {M:j0}{A:T3}{E:G1->G2->Prop}{i:G7}{x:Str}{v:V}{u:G1}{Q:Unit->G2->Prop}(I:Inv X pins σ H s)(hN:X.N.Nodup)(hi:X.N[i]? =some x)(hx:Loc X.env.scope x)(r:RelV v u)
 (h: ∀s',Inv X pins (σ.set i (some v)) H s'->Q () s')(hf:X.fn x=true\/X.env.scope.names.lookup x=some .local:=by first|exact .inl rfl|exact .inr rfl|assumption):R3 M A (storeName X.env x u) Q E s:=
 QD I hN hi hx r (λs' I' _=>h s' I') hf
theorem Inv.call' {s':G2}{ch:G0 G9}(I:Inv X pins σ H s)(ho:s'.os=s.os)(u:Un (frs X.stack) ch H H' s.heap s'.heap)(hok:HOk X.prog X.w H' s'.heap)(hg:j7 s'.gens)
 (hch: ∀b∈ch,(b∈X.ex\/X.s₀.heap.objs.size<=b)/\b≠X.env.locals/\(∀x c,X.env.cells.lookup x=some c->c≠b)/\ ∀p∈X.pn++pins,p.1≠b):Inv X pins σ H' s':=by
 obtain⟨h',g',d',t',o'⟩:=s';have e:o'=s.os:=ho;subst e;exact I.call (g':=g') (t':=t') (d':=d') u hok hg hch
end
abbrev XK:=G1->P4 G9->Hp->Prop
abbrev St:=G0 (P4 V)
abbrev VK:=V->Hp->Prop
abbrev TE:=St->Hp->VK->Prop
abbrev TT:=St->Hp->(T5->Hp->Prop)->Prop
abbrev TA:=St->Hp->(G0 V->Hp->Prop)->Prop
structure Ends where
 nx:St->Hp->Prop
 rt:VK
 bk:St->Hp->Prop:=λ_ _=>False
 ct:St->Hp->Prop:=λ_ _=>False
abbrev TS:=Ends->St->Hp->Prop
def EP (X:Cx)(pins:G0 (G9×Obj))(σ:St)(Q:VK)(u:G1)(s':G2):Prop:= ∃v H',Inv X pins σ H' s'/\RelV v u/\Q v H'
def TP (X:Cx)(pins:G0 (G9×Obj))(σ:St)(Q:T5->Hp->Prop)(b:T5)(s':G2):Prop:= ∃H',Inv X pins σ H' s'/\Q b H'
def AP (X:Cx)(pins:G0 (G9×Obj))(σ:St)(Q:G0 V->Hp->Prop)(us:G0 G1)(s':G2):Prop:= ∃vs H',Inv X pins σ H' s'/\Vals vs us/\Q vs H'
def SP (X:Cx)(pins:G0 (G9×Obj))(D:Ends)(f:Flow)(s':G2):Prop:=
 match f with
 | .next=> ∃σ' H',Inv X pins σ' H' s'/\D.nx σ' H'
 | .brk=> ∃σ' H',Inv X pins σ' H' s'/\D.bk σ' H'
 | .cont=> ∃σ' H',Inv X pins σ' H' s'/\D.ct σ' H'
 | .ret u=> ∃v σ' H',Inv X pins σ' H' s'/\RelV v u/\D.rt v H'
def PE (X:Cx)(e:N0)(t:TE):Prop:=
 ∀ (pins:G0 (G9×Obj)) (s:G2) (σ:St) (H:Hp) (Q:VK),Inv X pins σ H s->t σ H Q->R3 (R7 X.prog X.w) X.A (J0 e X.env) (EP X pins σ Q) X.xe s
def PT (X:Cx)(e:N0)(t:TT):Prop:=
 ∀ (pins:G0 (G9×Obj)) (s:G2) (σ:St) (H:Hp) (Q:T5->Hp->Prop),Inv X pins σ H s->t σ H Q->R3 (R7 X.prog X.w) X.A (isTrue e X.env (J0 e X.env)) (TP X pins σ Q) X.xe s
def PW (X:Cx)(e:N0)(t:TT):Prop:=
 ∀ (whole:Sem G1) (pins:G0 (G9×Obj)) (s:G2) (σ:St) (H:Hp) (Q:T5->Hp->Prop),Inv X pins σ H s->t σ H Q->R3 (R7 X.prog X.w) X.A (isTrue e X.env whole) (TP X pins σ Q) X.xe s
variable {X:Cx}
theorem PW.pt {e:N0}{t:TT}(h:PW X e t):PT X e t:=h _
def PA (X:Cx)(es:G0 N0)(t:TA):Prop:=
 ∀ (pos:Pos) (pins:G0 (G9×Obj)) (s:G2) (σ:St) (H:Hp) (Q:G0 V->Hp->Prop),Inv X pins σ H s->t σ H Q->R3 (R7 X.prog X.w) X.A (spliced (K7 pos (D7 es X.env))) (AP X pins σ Q) X.xe s
def PS (X:Cx)(st:K8)(t:TS):Prop:=
 ∀ (pins:G0 (G9×Obj)) (s:G2) (σ:St) (H:Hp) (D:Ends),Inv X pins σ H s->t D σ H->R3 (R7 X.prog X.w) X.A (exec st X.env) (SP X pins D) X.xe s
def PSs (X:Cx)(st:G0 K8)(t:TS):Prop:=
 ∀ (pins:G0 (G9×Obj)) (s:G2) (σ:St) (H:Hp) (D:Ends),Inv X pins σ H s->t D σ H->R3 (R7 X.prog X.w) X.A (execs st X.env) (SP X pins D) X.xe s
variable {A:T3}{s:G2}
theorem thn {α:Type}{t:Sem α}{Q Q':α->G2->Prop}{M:j0}{E:G1->G2->Prop}(h:R3 M A t Q E s)(hQ: ∀a s,Q a s->Q' a s):R3 M A t Q' E s:=B1 h hQ λ_ _ x=>x
section
variable {X:Cx}
def Eh (i:G7):TE:=λσ H Q=> ∃v,σ[i]? =some (some v)/\Q v H
def tC (v:V):TE:=λ_ H Q=>Q v H
variable {x:Str}
theorem Nb {i:G7}{pos:Pos}(hN:X.N[i]? =some x)(hv:Vis X.env.scope x)(hd:(x==("__debug__" :Str))=false:=by decide)(hcd:(x==("__classdict__" :Str))=false:=by decide):PE X (.Name x pos) (Eh i):=by
 intro pins s σ H Q I h;obtain⟨v,e,h⟩:=h;obtain⟨m,hn,hl⟩:=I.loc;obtain⟨u,r,l⟩:=hl i x v hN e hv;have fin:EP X pins σ Q u s:=⟨v,H,I,r,h⟩;rcases l with ⟨hk,hm⟩|⟨hk,c,hc,hcell⟩
 ·exact pU (oB I.ok.kind hk hn hm fin) hd
 ·rcases hk with hk|hk
  ·exact pU (wpAny_loadName_cell I.ok.kind hk hc hcell fin) hd
  ·exact pU (wpAny_loadName_free I.ok.kind hk hc hcell fin hcd) hd
theorem pe_int {i j pos}:PE X (.Constant (.int i) j pos) (tC (.int i)):=λ_ _ _ H _ I h=>wpAny_Constant_int ⟨.int i,H,I.tok _,⟨_,rfl⟩,h⟩
theorem pe_bl {b j pos}:PE X (.Constant (.bool b) j pos) (tC (.bl b)):=λ_ _ _ H _ I h=>Constant_bool ⟨.bl b,H,I,rfl,h⟩
theorem pe_non {j pos}:PE X (.Constant .none j pos) (tC .non):=λ_ _ _ H _ I h=>Constant_none ⟨.non,H,I,rfl,h⟩
theorem pe_str {x j pos}:PE X (.Constant (.str x) j pos) (tC (.str x)):=λ_ _ _ H _ I h=>Calls.Constant_str ⟨.str x,H,I.tok _,⟨_,rfl⟩,h⟩
def Gl (X:Cx)(x:Str):Prop:=X.env.kindOf x=some .globalImplicit
variable {u:G1}
theorem vM {E:G1->G2->Prop}{pins:G0 (G9×Obj)}{s:G2}{σ:St}{H:Hp}{pos:Pos}{Q:G1->G2->Prop}(I:Inv X pins σ H s)(hg:Gl X x)(hm:X.mg x=some u)(h:Q u s)
 (hd:(x==("__debug__" :Str))=false:=by decide):R3 (R7 X.prog X.w) X.A (J0 (.Name x pos) X.env) Q E s:=
 Calls.Name_function_global I.ok.kind hg (Calls.loadGlobal_global (by rw [I.ok.glob];exact I.mod.glob.keeps I.bk) hm h) hd
theorem ZY {E:G1->G2->Prop}{pins:G0 (G9×Obj)}{s:G2}{σ:St}{H:Hp}{pos:Pos}{Q:G1->G2->Prop}(I:Inv X pins σ H s)(hg:Gl X x)(hm:X.mg x=none)(hv:U8 x=some u)(h:Q u s)
 (hn:x≠ "__name__" :=by decide)(hd:(x==("__debug__" :Str))=false:=by decide):R3 (R7 X.prog X.w) X.A (J0 (.Name x pos) X.env) Q E s:=by
 obtain⟨mb,h1,h2⟩:=I.mod.blt;exact Calls.Name_function_global I.ok.kind hg (Calls.loadGlobal_builtin (by rw [I.ok.glob];exact I.mod.glob.keeps I.bk) hm (by rw [I.ok.blt];exact h1.keeps I.bk) ((h2 x hn).trans hv) h) hd
theorem QF {v:V}{pos:Pos}(hg:Gl X x)(hm:X.mg x=some u)(r:RelV v u)(hd:(x==("__debug__" :Str))=false:=by decide):PE X (.Name x pos) (tC v):=
 λ_ _ _ H _ I h=>vM I hg hm ⟨v,H,I,r,h⟩ hd
theorem QH {v:V}{pos:Pos}(hg:Gl X x)(hm:X.mg x=none)(hv:U8 x=some u)(r:RelV v u)(hn:x≠ "__name__" :=by decide)(hd:(x==("__debug__" :Str))=false:=by decide):PE X (.Name x pos) (tC v):=
 λ_ _ _ H _ I h=>ZY I hg hm hv ⟨v,H,I,r,h⟩ hn hd
variable {a b:N0}{ta tb:TE}{pos:Pos}
def tB (t:TE):TT:=λσ H Q=>t σ H λx H1=> ∃c,x= .bl c/\Q c H1
theorem FT {e:N0}{t:TE}(h:PE X e t)(he: ∀whole,isTrue e X.env whole=(do let v <-whole;lN e.pos;bL [v] (rD v)):=by intro _;rfl):PT X e (tB t):=by
 intro pins s σ H Q I hw;refine xZ (thn (h pins s σ H _ I hw) λv s1 ⟨x,H1,I1,r1,q1⟩=> ?_) (he _);obtain⟨d,rfl,q⟩:=q1;cases r1;exact J4 ⟨H1,I1,q⟩
variable {tA tB':TT}{rest:G0 N0}
def SS (t u:TT):TT:=λσ H Q=>t σ H λc H1=>if c=true then u σ H1 Q else Q false H1
def tOr (t u:TT):TT:=λσ H Q=>t σ H λc H1=>if c=true then Q true H1 else u σ H1 Q
def ST (t:TT):TT:=λσ H Q=>t σ H λc H1=>Q (!c) H1
theorem NX (ha:PT X a tA):PW X (.BoolOp .And [a] pos) tA:=by
 intro wh pins s σ H Q I h;refine KR (thn (ha pins s σ H Q I h) λc s1 e=> ?_);cases c with
 |true=>exact isTrue_and_nil e
 |false=>exact e
theorem FU (ha:PT X a tA):PW X (.BoolOp .Or [a] pos) tA:=by
 intro wh pins s σ H Q I h;refine isTrue_or (thn (ha pins s σ H Q I h) λc s1 e=> ?_);cases c with
 |false=>exact isTrue_or_nil e
 |true=>exact e
theorem FV (ha:PT X a tA)(hb:PW X (.BoolOp .And (b::rest) pos) tB'):PW X (.BoolOp .And (a::b::rest) pos) (SS tA tB'):=by
 intro wh pins s σ H Q I h;refine KR (thn (ha pins s σ H _ I h) λc s1 ⟨H1,I1,q1⟩=> ?_);cases c with
 |true=>exact hb wh pins s1 σ H1 Q I1 q1
 |false=>exact⟨H1,I1,q1⟩
theorem Ei (ha:PT X a tA)(hb:PW X (.BoolOp .Or (b::rest) pos) tB'):PW X (.BoolOp .Or (a::b::rest) pos) (tOr tA tB'):=by
 intro wh pins s σ H Q I h;refine isTrue_or (thn (ha pins s σ H _ I h) λc s1 ⟨H1,I1,q1⟩=> ?_);cases c with
 |true=>exact⟨H1,I1,q1⟩
 |false=>exact hb wh pins s1 σ H1 Q I1 q1
theorem FW (ha:PT X a tA):PT X (.UnaryOp .Not a pos) (ST tA):=by
 intro pins s σ H Q I h;exact isTrue_not (ha pins s σ H (λc H1=>Q (!c) H1) I h)
def FX (ta tb:TE):TE:=λσ H Q=>ta σ H λx H1=> ∃c,x= .bl c/\if c=true then tb σ H1 Q else Q (.bl false) H1
def SU (ta tb:TE):TE:=λσ H Q=>ta σ H λx H1=> ∃c,x= .bl c/\if c=true then Q (.bl true) H1 else tb σ H1 Q
def FY (ta:TE):TE:=λσ H Q=>ta σ H λx H1=> ∃c,x= .bl c/\Q (.bl (!c)) H1
theorem FZ {op}{t:TE}(h:PE X a t):PE X (.BoolOp op [a] pos) t:=λpins s σ H Q I hw=>BoolOp_one (h pins s σ H Q I hw)
theorem La (ha:PE X a ta)(hb:PE X (.BoolOp .And (b::rest) pos) tb):PE X (.BoolOp .And (a::b::rest) pos) (FX ta tb):=by
 intro pins s σ H Q I h;refine BoolOp_and (thn (ha pins s σ H _ I h) λv s1 ⟨x,H1,I1,r1,q1⟩=> ?_);obtain⟨c,rfl,q1⟩:=q1;cases r1;refine J4 ?_;cases c with
 |true=>exact hb pins s1 σ H1 Q I1 q1
 |false=>exact⟨.bl false,H1,I1,rfl,q1⟩
theorem Ej (ha:PE X a ta)(hb:PE X (.BoolOp .Or (b::rest) pos) tb):PE X (.BoolOp .Or (a::b::rest) pos) (SU ta tb):=by
 intro pins s σ H Q I h;refine BoolOp_or (thn (ha pins s σ H _ I h) λv s1 ⟨x,H1,I1,r1,q1⟩=> ?_);obtain⟨c,rfl,q1⟩:=q1;cases r1;refine J4 ?_;cases c with
 |false=>exact hb pins s1 σ H1 Q I1 q1
 |true=>exact⟨.bl true,H1,I1,rfl,q1⟩
theorem Lb (ha:PE X a ta):PE X (.UnaryOp .Not a pos) (FY ta):=by
 intro pins s σ H Q I h;refine UnaryOp_ (thn (ha pins s σ H _ I h) λv s1 ⟨x,H1,I1,r1,q1⟩=> ?_);obtain⟨c,rfl,q1⟩:=q1;cases r1;exact not_of (J4 ⟨.bl (!c),H1,I1,rfl,q1⟩)
end
def SqL (K:G5)(H:Hp)(a:G9)(xs:G0 V):Prop:=
 Rd H a (.lst xs)\/
  ∃ (o:Obj) (its:S6 G1) (n:G7),K.lookup a=some o/\o.cls= .type "list" /\o.dict=none/\o.data= .seq its n/\its.size<=sizeLine/\Vals xs its.toList
def SqT (K:G5)(H:Hp)(a:G9)(xs:G0 V):Prop:=
 Rd H a (.tup xs)\/
  ∃ (o:Obj) (its:S6 G1) (n:G7),K.lookup a=some o/\o.cls= .type "tuple" /\o.data= .seq its n/\its.size<=sizeLine/\Vals xs its.toList
def TQ:G1->P4 V
 | .none=>some .non
 | .bool b=>some (.bl b)
 | .int i _=>some (.int i)
 | .str x _=>some (.str x)
 | .bytes b _=>some (.byt b)
 | .float b _=>some (.flt b)
 | .ref a=>some (.ref a)
 | .type n=>some (.ty n)
 |_=>none
theorem RelV.abs {x:V}(r:RelV x u):TQ u=some x:=by
 cases x with
 |non=>cases r;rfl
 |bl _=>cases r;rfl
 |int _=>obtain⟨t,rfl⟩:=r;rfl
 |str _=>obtain⟨t,rfl⟩:=r;rfl
 |byt _=>obtain⟨t,rfl⟩:=r;rfl
 |flt _=>obtain⟨t,rfl⟩:=r;rfl
 |ref _=>cases r;rfl
 |ty _=>cases r;rfl
theorem RelV.inj {x y:V}(r:RelV x u)(q:RelV y u):x=y:=O5 (r.abs.symm.trans q.abs)
theorem Vals.inj: ∀ {xs ys:G0 V} {us:G0 G1},Vals xs us->Vals ys us->xs=ys
 |_,_,_,.nil,.nil=>rfl
 |_,_,_,.cons r t,.cons r' t'=>by rw [r.inj r',Vals.inj t t']
section
variable {X:Cx}{pins:G0 (G9×Obj)}{σ:St}{H:Hp}{s:G2}{a:G9}{xs ys:G0 V}
theorem SqL.of {K:G5}(h:H a=some (.lst xs)):SqL K H a xs:= .inl (.inl h)
theorem SqT.of {K:G5}(h:H a=some (.tup xs)):SqT K H a xs:= .inl (.inl h)
theorem Inv.list (I:Inv X pins σ H s)(h:SqL X.K H a xs): ∃its:G0 G1,Vals xs its/\PlainL s.heap a its.toArray/\xs.length<=sizeLine:=by
 rcases h with h|⟨o,its,n,hk,hc,hd,hs,hz,r⟩
 ·obtain⟨z,its,n,r,e⟩:=h.ok I.hok;exact⟨its,r,⟨_,n,e,rfl,rfl,rfl⟩,z⟩
 ·refine⟨its.toList,r,⟨o,n,I.kIn a o hk,hc,hd,by simpa using hs⟩,?_⟩;have e:=r.length;simp only [D0] at e;omega
theorem Inv.tuple (I:Inv X pins σ H s)(h:SqT X.K H a xs): ∃its:G0 G1,Vals xs its/\rZ s.heap a its.toArray/\xs.length<=sizeLine:=by
 rcases h with h|⟨o,its,n,hk,hc,hs,hz,r⟩
 ·obtain⟨z,its,r,p⟩:=h.ok I.hok;exact⟨its,r,p.tup,z⟩
 ·refine⟨its.toList,r,⟨o,I.kIn a o hk,hc,n,by simpa using hs⟩,?_⟩;have e:=r.length;simp only [D0] at e;omega
theorem Inv.list_inj (I:Inv X pins σ H s)(h:SqL X.K H a xs)(h':SqL X.K H a ys):xs=ys:=by
 obtain⟨its,r,⟨o,n,e,_,_,d⟩,_⟩:=I.list h;obtain⟨its',r',⟨o',n',e',_,_,d'⟩,_⟩:=I.list h';rw [e] at e';cases e';rw [d] at d';injection d' with d1 _
 have:its=its':=by simpa using congrArg qE d1
 subst this;exact r.inj r'
theorem Inv.tuple_inj (I:Inv X pins σ H s)(h:SqT X.K H a xs)(h':SqT X.K H a ys):xs=ys:=by
 obtain⟨its,r,⟨o,e,_,n,d⟩,_⟩:=I.tuple h;obtain⟨its',r',⟨o',e',_,n',d'⟩,_⟩:=I.tuple h';rw [e] at e';cases e';rw [d] at d';injection d' with d1 _
 have:its=its':=by simpa using congrArg qE d1
 subst this;exact r.inj r'
end
abbrev Cx.wish (X:Cx)(E:G1->G2->Prop):Cx:= {X with xe:=E}
abbrev Cx.nox (X:Cx):Cx:=X.wish λ_ _=>False
theorem Cx.Ok.wish (ok:X.Ok)(E:G1->G2->Prop):(X.wish E).Ok:=
 ⟨ok.mod,ok.kind,ok.glob,ok.blt,ok.above,ok.inj,ok.has,ok.cab,ok.hd,ok.frames,ok.stk,ok.exf,ok.bs,ok.bsz,ok.noex,ok.exfs,ok.funs,ok.frf⟩
theorem Cx.Ok.unwish {E:G1->G2->Prop}(ok:(X.wish E).Ok):X.Ok:=
 ⟨ok.mod,ok.kind,ok.glob,ok.blt,ok.above,ok.inj,ok.has,ok.cab,ok.hd,ok.frames,ok.stk,ok.exf,ok.bs,ok.bsz,ok.noex,ok.exfs,ok.funs,ok.frf⟩
section
variable {X:Cx}{pins:G0 (G9×Obj)}{σ:St}{H:Hp}{s:G2}{E:G1->G2->Prop}
theorem Inv.wish (I:Inv X pins σ H s)(E:G1->G2->Prop):Inv (X.wish E) pins σ H s:=⟨I.ok.wish E,I.os,I.bare,I.base,I.loc,I.cell,I.free,I.freeC,I.pin,I.hok,I.len⟩
theorem Inv.unwish (I:Inv (X.wish E) pins σ H s):Inv X pins σ H s:=⟨I.ok.unwish,I.os,I.bare,I.base,I.loc,I.cell,I.free,I.freeC,I.pin,I.hok,I.len⟩
theorem SP.unwish {D:Ends}{f:Flow}{s':G2}(h:SP (X.wish E) pins D f s'):SP X pins D f s':=by
 cases f with
 |next=>obtain⟨σ',H',I,q⟩:=h;exact⟨σ',H',I.unwish,q⟩
 |brk=>obtain⟨σ',H',I,q⟩:=h;exact⟨σ',H',I.unwish,q⟩
 |cont=>obtain⟨σ',H',I,q⟩:=h;exact⟨σ',H',I.unwish,q⟩
 |ret u=>obtain⟨v,σ',H',I,r,q⟩:=h;exact⟨v,σ',H',I.unwish,r,q⟩
theorem PSs.nox {st:G0 K8}{t:TS}(h:PSs X.nox st t):PSs X st t:=λpins s σ H D I hw=>
 B1 (h pins s σ H D (I.wish _) hw) (λ_ _ q=>q.unwish) λ_ _ z=>False.elim z
end
section
variable {X:Cx}{st:K8}{rest:G0 K8}{t u:TS}{e:N0}{te:TE}{pos:Pos}
def Lc:TS:=λD σ H=>D.nx σ H
def SV (t u:TS):TS:=λD σ H=>t {D with nx:=u D} σ H
theorem pss_nil:PSs X [] Lc:=λ_ _ σ H _ I h=>dB ⟨σ,H,I,h⟩
theorem Rf (h1:PS X st t)(h2:PSs X rest u):PSs X (st::rest) (SV t u):=by
 intro pins s σ H D I h;refine aV (thn (h1 pins s σ H {D with nx:=u D} I h) λf s1 q=> ?_);cases f with
 |next=>
  obtain⟨σ',H',I',q⟩:=q;exact h2 pins s1 σ' H' D I' q
 |ret v=>exact q
 |brk=>exact q
 |cont=>exact q
theorem NY (h1:PS X st t):PSs X [st] t:=by
 intro pins s σ H D I h;refine aV (thn (h1 pins s σ H D I h) λf s1 q=> ?_);cases f with
 |next=>exact dB q
 |ret v=>exact q
 |brk=>exact q
 |cont=>exact q
theorem Inv.quiet {pins:G0 (G9×Obj)}{σ:St}{H:Hp}{s:G2}(I:Inv X pins σ H s):IM X.env=false:=by simp [IM,I.ok.kind]
def Ld (te:TE):TS:=λD σ H=>te σ H λ_ H1=>D.nx σ H1
theorem NZ (he:PE X e te)(hs:cO e none pos.line X.env=pure false:=by rfl):PS X (.Expr e pos) (Ld te):=by
 intro pins s σ H D I h;exact tV (thn (he pins s σ H _ I h) λv s1 ⟨x,H1,I1,r1,q1⟩=>⟨σ,H1,I1,q1⟩) I.quiet hs
def SW (te:TE):TS:=λD σ H=>te σ H D.rt
theorem Le (he:PE X e te):PS X (.Return (some e) pos) (SW te):=by
 intro pins s σ H D I h;exact wpAny_Return_some (thn (he pins s σ H _ I h) λv s1 ⟨x,H1,I1,r1,q1⟩=>⟨x,σ,H1,I1,r1,q1⟩)
def SX (c:TT)(t u:TS):TS:=λD σ H=>c σ H λb H1=>if b=true then t D σ H1 else u D σ H1
theorem Ek {c:N0}{a b:G0 K8}{tc:TT}(hc:PT X c tc)(ha:PSs X a t)(hb:PSs X b u):PS X (.If c a b pos) (SX tc t u):=by
 intro pins s σ H D I h;refine wpAny_If (thn (hc pins s σ H _ I h) λd s1 ⟨H1,I1,q1⟩=> ?_);cases d with
 |true=>exact ha pins s1 σ H1 D I1 q1
 |false=>exact hb pins s1 σ H1 D I1 q1
end
abbrev TG:=V->St->Hp->(St->Hp->Prop)->Prop
abbrev TGs:=G0 V->St->Hp->(St->Hp->Prop)->Prop
def PG (X:Cx)(target:N0)(t:TG):Prop:=
 ∀ (pins:G0 (G9×Obj)) (s:G2) (σ:St) (H:Hp) (v:V) (u:G1) (Q:St->Hp->Prop),Inv X pins σ H s->RelV v u->t v σ H Q->
  R3 (R7 X.prog X.w) X.A (i5 target X.env u) (λ_ s'=> ∃σ' H',Inv X pins σ' H' s'/\Q σ' H') X.xe s
def PGs (X:Cx)(ts:G0 N0)(t:TGs):Prop:=
 ∀ (pins:G0 (G9×Obj)) (s:G2) (σ:St) (H:Hp) (vs:G0 V) (us:G0 G1) (Q:St->Hp->Prop),Inv X pins σ H s->Vals vs us->t vs σ H Q->
  R3 (R7 X.prog X.w) X.A (pK ((f7 ts X.env).map (·.2)) us) (λ_ s'=> ∃σ' H',Inv X pins σ' H' s'/\Q σ' H') X.xe s
abbrev El:=V->V->V->Hp->(Hp->Prop)->Prop
def SY (X:Cx)(t:El):Prop:=
 ∀ (pins:G0 (G9×Obj)) (s:G2) (σ:St) (H:Hp) (o i v:V) (ov iv u:G1) (Q:Hp->Prop),Inv X pins σ H s->RelV o ov->RelV i iv->RelV v u->t o i v H Q->
  R3 (R7 X.prog X.w) X.A (y3 ov iv u) (λ_ s'=> ∃H',Inv X pins σ H' s'/\Q H') X.xe s
section
variable {X:Cx}{pos:Pos}
def Jo (i:G7):TG:=λv σ H Q=>Q (σ.set i (some v)) H
theorem vN {i:G7}{x:Str}(hN:X.N.Nodup)(hi:X.N[i]? =some x)(hx:Loc X.env.scope x)(hf:X.fn x=true\/X.env.scope.names.lookup x=some .local:=by first|exact .inl rfl|exact .inr rfl|assumption):PG X (.Name x pos) (Jo i):=by
 intro pins s σ H v u Q I r h;exact wpAny_assign_Name (wM I hN hi hx r (λs' I'=>⟨_,H,I',h⟩) hf)
def Em:TGs:=λvs σ H Q=>vs= []/\Q σ H
def QJ (t:TG)(u:TGs):TGs:=λvs σ H Q=> ∃v r,vs=v::r/\t v σ H λσ' H'=>u r σ' H' Q
theorem QK:PGs X [] Em:=by
 intro pins s σ H vs us Q I r h;obtain⟨e,h⟩:=h;subst e;cases r;exact qF ⟨σ,H,I,h⟩
theorem Ju {e:N0}{es:G0 N0}{t:TG}{u:TGs}(h1:PG X e t)(h2:PGs X es u)
 (hs:(f7 (e::es) X.env).map (·.2)=i5 e X.env::(f7 es X.env).map (·.2):=by rfl):PGs X (e::es) (QJ t u):=by
 intro pins s σ H vs us Q I r h;obtain⟨v,vr,e1,h⟩:=h;subst e1;cases r with
 |cons r rr=>
  rw [hs];refine kL (thn (h1 pins s σ H _ _ _ I r h) λ_ s1 ⟨σ1,H1,I1,q1⟩=> ?_);exact h2 pins s1 σ1 H1 _ _ Q I1 rr q1
def En (K:G5)(n:G7)(t:TGs):TG:=λv σ H Q=> ∃a xs,v= .ref a/\SqT K H a xs/\xs.length=n/\t xs σ H Q
theorem Nc {es:G0 N0}{k:G7}{t:TGs}{n:G7}(hc:X.calm=true)(h:PGs X es t)
 (hn:(f7 es X.env).length=n:=by rfl)(hst:(f7 es X.env).findIdx? (·.1)=none:=by rfl):PG X (.Tuple es k pos) (En X.K n t):=by
 intro pins s σ H v u Q I r hw;obtain⟨a,xs,e1,hq,hl,hw⟩:=hw;subst e1;cases r;obtain⟨its,rv,ht,hz⟩:=I.tuple hq;refine assign_Tuple_tuple (I.ok.hd hc) ht (by simp [hn,<-hl,rv.length]) hst λh' hx=> ?_
 have I1:Inv X pins σ H {s with heap:=h'}:=I.kept (t':=s.toks) λb o e=>hx b o (M0 (P9 e)) e
 exact h pins _ σ H xs _ Q I1 (by simpa using rv) hw
def TR (to ti:TE)(t:El):TG:=λv σ H Q=>to σ H λo H1=>ti σ H1 λi H2=>t o i v H2 λH3=>Q σ H3
theorem Lf {o i:N0}{to ti:TE}{t:El}(ho:PE X o to)(hi:PE X i ti)(hs:SY X t)
 (ha: ∀v,i5 (.Subscript o i pos) X.env v=(do
  let ov <-bL [v] (J0 o X.env)
  let iv <-bL [v,ov] (J0 i X.env)
  lN pos
  bL [v,ov,iv] (y3 ov iv v)
  G0m [v,ov,iv] []):=by intro _;rfl):PG X (.Subscript o i pos) (TR to ti t):=by
 intro pins s σ H v u Q I r h;rw [ha];refine wpAny_bind (L5 (thn (ho pins s σ H _ I h) λov s1 ⟨x,H1,I1,r1,q1⟩=> ?_));refine wpAny_bind (L5 (thn (hi pins s1 σ H1 _ I1 q1) λiv s2 ⟨y,H2,I2,r2,q2⟩=> ?_));refine wpAny_bind (mF (wpAny_bind (L5 (thn (hs pins s2 σ H2 x y v ov iv u _ I2 r1 r2 r q2) λ_ s3 ⟨H3,I3,q3⟩=> ?_))));exact wpAny_release ⟨σ,H3,I3,q3⟩
def Ba (te:TE)(g:TG):TS:=λD σ H=>te σ H λx H1=>g x σ H1 D.nx
theorem Lg {tg e:N0}{te:TE}{g:TG}(he:PE X e te)(hg:PG X tg g)(hs:fK [tg] e pos.line X.env=pure false:=by rfl)(hw:fL [tg] e X.env=pure none:=by rfl)
 (h1:(f7 [tg] X.env).map (·.2)= [i5 tg X.env]:=by rfl):PS X (.Assign [tg] e pos) (Ba te g):=by
 intro pins s σ H D I h;refine wpAny_Assign_stores (thn (he pins s σ H _ I h) λv s1 ⟨x,H1,I1,r1,q1⟩=> ?_) hs hw;rw [h1];exact thn (hg pins s1 σ H1 x v _ I1 r1 q1) λ_ s2 q=>q
theorem Lh {i:G7}{x:Str}{e:N0}{te:TE}{pos':Pos}(hN:X.N.Nodup)(hi:X.N[i]? =some x)(hx:Loc X.env.scope x)(he:PE X e te)(hs:cO e (some (.Name x pos')) pos.line X.env=pure false:=by rfl)(hf:X.fn x=true\/X.env.scope.names.lookup x=some .local:=by first|exact .inl rfl|exact .inr rfl|assumption):
 PS X (.Assign [.Name x pos'] e pos) (Ba te (Jo i)):=by
 intro pins s σ H D I h;refine qG (thn (he pins s σ H _ I h) λv s1 ⟨y,H1,I1,r1,q1⟩=> ?_) hs;exact wM I1 hN hi hx r1 (λs2 I2=>⟨_,H1,I2,q1⟩) hf
def SZ (i j:G7)(ta:TA):TS:=λD σ H=>ta σ H λvs H1=> ∃v w,vs= [v,w]/\D.nx ((σ.set i (some v)).set j (some w)) H1
theorem Li {i j:G7}{x y:Str}{a b:N0}{ta:TA}{px py pt:Pos}{kt k2 pt2}(hc:X.calm=true)(hN:X.N.Nodup)(hi:X.N[i]? =some x)(hj:X.N[j]? =some y)(hij:i≠j)
 (hx:X.env.scope.names.lookup x=some .local)(hy:X.env.scope.names.lookup y=some .local)(ha:PA X [a,b] ta)
 (hw:fL [.Tuple [.Name x px,.Name y py] kt pt] (.Tuple [a,b] k2 pt2) X.env=pure (some [x,y]))
 (hs:fK [.Tuple [.Name x px,.Name y py] kt pt] (.Tuple [a,b] k2 pt2) pos.line X.env=pure false:=by rfl):
 PS X (.Assign [.Tuple [.Name x px,.Name y py] kt pt] (.Tuple [a,b] k2 pt2) pos) (SZ i j ta):=by
 intro pins s σ H D I h;rw [exec_Assign_arm];refine wpAny_bind (mF ?_);rw [hs];refine wpAny_bind (G8 ?_);rw [R8 (by decide)];refine wpAny_bind (Tuple_ (thn (ha _ pins s σ H _ I h) λus s1 ⟨vs,H1,I1,r1,q1⟩=> ?_));obtain⟨v,w,e1,q1⟩:=q1;subst e1;obtain⟨u1,u2,rfl,rv,rw'⟩: ∃u1 u2,us= [u1,u2]/\RelV v u1/\RelV w u2:=by
  cases r1 with
  |cons p q=>
   cases q with
   |cons p' q'=>
    cases q';exact⟨_,_,rfl,p,p'⟩
 refine aF ?_ (by show 2<=sizeLine;decide);have I2:Inv X pins σ H1 {s1 with heap:=s1.heap.push {cls:= .type "tuple",data:= .seq [u1,u2].toArray}}:=I1.kept (t':=s1.toks) λb o e=>G3 _ e
 rw [hw];refine wpAny_bind (G8 ?_);show R3 (R7 X.prog X.w) X.A (do rule "assign.swapped-stores";let items <-unpackItems (.ref s1.heap.objs.size) 2 none;pK [λv=>tW X.env y v,λv=>tW X.env x v] items.reverse;pure Flow.next) _ _ _;refine wpAny_bind (iM (wpAny_bind (unpackItems_tuple (items:= #[u1,u2]) (I.ok.hd hc) (IsTup.new s1.heap _) λh' hx'=> ?_)));have I3:=I2.kept (h':=h') (t':=s1.toks) λb o e=>hx' b o (M0 (P9 e)) e
 show R3 _ _ (pK [λv=>tW X.env y v,λv=>tW X.env x v] [u2,u1] >>= λ_=>pure Flow.next) _ _ _;refine wpAny_bind (kL (oC (wM I3 hN hj (.inl hy) rw' (λs2 I4=> ?_) (.inr hy))));refine kL (oC (wM I4 hN hi (.inl hx) rv (λs3 I5=>qF (G8 ?_)) (.inr hx)));rw [List.set_comm _ _ (U9 hij)] at I5;exact⟨_,H1,I5,q1⟩
def Nd (c:TT)(tb:TS):TS:=λD σ H=> ∃W:G7->St->Hp->Prop,(∃m,W m σ H)/\ ∀m σ H,W m σ H->
 c σ H λb H1=>if b=true then ∃N:St->Hp->Prop,(∀σ' H',N σ' H'-> ∃m',m'<m/\W m' σ' H')/\tb {D with nx:=N,ct:=N,bk:=D.nx} σ H1 else D.nx σ H1
theorem Rg {c:N0}{body:G0 K8}{tc:TT}{tb:TS}(hp:o7 (R7 X.prog X.w) X.A X.env X.xe)(hc:PT X c tc)(hb:PSs X body tb):PS X (.While c body [] pos) (Nd tc tb):=by
 intro pins s σ H D I h;obtain⟨W,⟨m0,w0⟩,turn⟩:=h;refine wpAny_While (codeAny_whileLoop (λn s'=> ∃σ' H',Inv X pins σ' H' s'/\W n σ' H') ?_ m0 ⟨σ,H,I,w0⟩);rintro n s1 ⟨σ1,H1,I1,w1⟩;refine bR hp (thn (hc pins s1 σ1 H1 _ I1 (turn n σ1 H1 w1)) λb s2 ⟨H2,I2,q2⟩=> ?_);cases b with
 |true=>
  obtain⟨N,hN,q2⟩:=q2;rw [R6 rfl];refine bR hp (thn (hb pins s2 σ1 H2 _ I2 q2) λf s3 q3=> ?_);cases f with
  |next=>
   obtain⟨σ3,H3,I3,n3⟩:=q3;obtain⟨m',hm,w3⟩:=hN σ3 H3 n3;exact⟨m',hm,σ3,H3,I3,w3⟩
  |cont=>
   obtain⟨σ3,H3,I3,n3⟩:=q3;obtain⟨m',hm,w3⟩:=hN σ3 H3 n3;exact⟨m',hm,σ3,H3,I3,w3⟩
  |brk=>exact q3
  |ret v=>exact q3
 |false=>
  rw [R8 S5];exact dB ⟨σ1,H2,I2,q2⟩
end
structure It where
 go:G7->Hp->Prop
 yld:G7->Hp->V->Hp->Prop
 stop:G7->Hp->Prop
def QL (X:Cx)(pins:G0 (G9×Obj))(H:Hp)(b:G9):Prop:=
 H b=none/\b≠X.env.locals/\b ∉ X.fs/\(b∈X.ex\/X.s₀.heap.objs.size<=b)/\(∀x c,X.env.cells.lookup x=some c->c≠b)/\ ∀p∈X.pn++pins,p.1≠b
theorem Inv.fpOk {pins:G0 (G9×Obj)}{σ:St}{H':Hp}(I:Inv X pins σ H s)(hb:s.heap.objs.size<=b)(hn:H' b=none):QL X pins H' b:=by
 refine⟨hn,Z0 (S7 I.lt hb),I.nofs hb,.inr (S0 I.sz hb),λx c e z=> ?_,λp hp z=> ?_⟩
 ·obtain⟨v,q⟩:=I.cell x c e;exact absurd (S7 q.lt (by rw [z];exact hb)) (N7 _)
 ·exact absurd (S7 (P9 (I.pin p hp).1) (by rw [z];exact hb)) (N7 _)
structure Turn (P:R9)(w:N4)(K:G5)(tg:N0)(J:It)(fp:G0 G9)(it:G9)(tn:G7->B6->Prop):Prop where
 mem:it∈fp
 obj: ∀i h,tn i h-> ∀b∈fp,∃o,h.get? b=some o/\ ∀v,o.data≠ .cell v
 keep: ∀i h h',tn i h->(∀b∈fp,∀o,h.get? b=some o->h'.get? b=some o)->tn i h'
 item: ∀ (X:Cx),X.prog=P->X.w=w->X.K=K->X.calm=true-> ∀ (i:G7) (pins:G0 (G9×Obj)) (s:G2) (σ:St) (H:Hp) (E:G1->G2->Prop),Inv X pins σ H s->(∀b∈fp,QL X pins H b)->tn i s.heap->J.go i H->
  R3 (R7 P w) X.A (rE (.ref it)) (λr s1=> ∃u,r=some u/\
   R3 (R7 P w) X.A (bS tg (.ref it) u) (λ_ s2=> ∃x H',Inv X pins σ H' s2/\RelV x u/\J.yld i H x H'/\tn (i+1) s2.heap/\ ∀b∈fp,H' b=none) E s1) E s
 done: ∀ (X:Cx),X.prog=P->X.w=w->X.K=K->X.calm=true-> ∀ (i:G7) (pins:G0 (G9×Obj)) (s:G2) (σ:St) (H:Hp) (E:G1->G2->Prop),Inv X pins σ H s->(∀b∈fp,QL X pins H b)->tn i s.heap->J.stop i H->
  R3 (R7 P w) X.A (rE (.ref it)) (λr s1=>r=none/\Inv X pins σ H s1) E s
 self: ∀ (A:T3) (i:G7) (s:G2) (Q:G1->G2->Prop) (E:G1->G2->Prop),tn i s.heap->Q (.ref it) s->R3 (R7 P w) A (y4 (.ref it)) Q E s
abbrev TI:=St->Hp->(It->Hp->Prop)->Prop
def PIE (X:Cx)(pins:G0 (G9×Obj))(σ:St)(tg:N0)(R:It->Hp->Prop)(itv:G1)(s2:G2):Prop:=
 ∃ (it:G9) (fp:G0 G9) (tn:G7->B6->Prop) (J:It) (H':Hp),itv= .ref it/\Inv X pins σ H' s2/\Turn X.prog X.w X.K tg J fp it tn/\tn 0 s2.heap/\(∀b∈fp,QL X pins H' b)/\R J H'
def PI (X:Cx)(tg iter:N0)(wi:TI):Prop:=
 ∀ (pins:G0 (G9×Obj)) (s:G2) (σ:St) (H:Hp) (R:It->Hp->Prop),Inv X pins σ H s->wi σ H R->
  R3 (R7 X.prog X.w) X.A (J0 iter X.env) (λv s1=>R3 (R7 X.prog X.w) X.A (y4 v) (PIE X pins σ tg R) X.xe s1) X.xe s
variable {tg:N0}
theorem Bb {M : j0} {E : G1 → G2 → Prop} {it : G9} {o : Obj} {n : U2} {vs : S6 G1} {Q : Unit → G2 → Prop} (ho : s.heap.get? it = some o) (hc : o.cls = .type n) (hd : o.data = .fields vs)
    (hn : ["enumerate", "zip", "dict_itemiterator", "dict_reverseitemiterator", "odict_iterator", "itertools.zip_longest", "itertools.pairwise"].contains n = false) (hQ : Q () s) : R3 M A (bS tg (.ref it) u) Q E s := by
  unfold bS
  cases tg <;> first
    | exact G8 hQ
    | (cases u <;> first
        | exact G8 hQ
        | (refine wpAny_bind (pV ho ?_)
           rw [hc, hd]
           show R3 M A (if (["enumerate", "zip", "dict_itemiterator", "dict_reverseitemiterator", "odict_iterator", "itertools.zip_longest", "itertools.pairwise"].contains n && vs[0]? == some (A1 _)) = true then _ else _) Q E s
           rw [R8 (by intro h; rw [hn, tX] at h; cases h)]
           exact G8 hQ))
def Itl (K:G5)(a:G9):It:=
 ⟨λi H=> ∃xs x,SqL K H a xs/\xs[i]? =some x,λi H x H'=>H'=H/\ ∀xs,SqL K H a xs->xs[i]? =some x,λi H=> ∃xs,SqL K H a xs/\xs.length<=i⟩
def Itt (K:G5)(a:G9):It:=
 ⟨λi H=> ∃xs x,SqT K H a xs/\xs[i]? =some x,λi H x H'=>H'=H/\ ∀xs,SqT K H a xs->xs[i]? =some x,λi H=> ∃xs,SqT K H a xs/\xs.length<=i⟩
def Itr (lo:D3)(n:G7):It:=⟨λi _=>i<n,λi H x H'=>H'=H/\x= .int (lo+i),λi _=>n<=i⟩
variable {K:G5}
theorem Yp (a it:G9):Turn P w K tg (Itl K a) [it] it (λi h=>h.IsListIter it a i) where
 mem:=by simp
 obj:=λi h st b hb=>by
  have e:b=it:=by simpa using hb
  subst e;obtain⟨o,e,c,d⟩:=st;exact⟨o,e,λv z=>by rw [d] at z;cases z⟩
 keep:=λi h h' st k=>st.at λo e=>k it (by simp) o e
 item:=by
  intro X hP hw hK hc i pins s σ H E I hf st hg;subst hP hw hK;obtain⟨xs,x,hq,hx⟩:=hg;obtain⟨its,rv,p,hz⟩:=I.list hq;obtain⟨u,hu,ru⟩:=rv.get hx;obtain⟨f0,f1,f2,f3,f4,f5⟩:=hf it (by simp);refine wpAny_pyNext_list_item st p.isList (x:=u) (by simpa using hu) λh' st' sb=> ?_
  have I1:Inv X pins σ H {s with heap:=h'}:=I.turned (t':=s.toks) (λb o hb e=>(sb.2 b hb).trans e) f0 f1 f3 f4 f5;obtain⟨o,e,c,d⟩:=id st';exact⟨u,rfl,Bb (s:= {s with heap:=h'}) e c d (by decide) ⟨x,H,I1,ru,⟨rfl,λys hy=>by rw [I.list_inj hy hq];exact hx⟩,st',λb hb=>(hf b hb).1⟩⟩
 done:=by
  intro X hP hw hK hc i pins s σ H E I hf st hg;subst hP hw hK;obtain⟨xs,hq,hx⟩:=hg;obtain⟨its,rv,p,hz⟩:=I.list hq;obtain⟨f0,f1,f2,f3,f4,f5⟩:=hf it (by simp);have hl:=rv.length;exact wpAny_pyNext_list_end (I.ok.hd hc) st p.isList (by simp;omega) λh' eb=>⟨rfl,I.turned (t':=s.toks) (λb o hb e=>eb b o hb e) f0 f1 f3 f4 f5⟩
 self:=λ_ _ _ _ _ st h=>wpAny_pyIter_listiter st h
theorem Xy (a it:G9):Turn P w K tg (Itt K a) [it] it (λi h=>h.IsTupleIter it a i) where
 mem:=by simp
 obj:=λi h st b hb=>by
  have e:b=it:=by simpa using hb
  subst e;obtain⟨o,e,c,d⟩:=st;exact⟨o,e,λv z=>by rw [d] at z;cases z⟩
 keep:=λi h h' st k=>st.at λo e=>k it (by simp) o e
 item:=by
  intro X hP hw hK hc i pins s σ H E I hf st hg;subst hP hw hK;obtain⟨xs,x,hq,hx⟩:=hg;obtain⟨its,rv,p,hz⟩:=I.tuple hq;obtain⟨u,hu,ru⟩:=rv.get hx;obtain⟨f0,f1,f2,f3,f4,f5⟩:=hf it (by simp);refine wpAny_pyNext_tuple_item st (show s.heap.IsTuple a its.toArray from p) (x:=u) (by simpa using hu) λh' st' sb=> ?_
  have I1:Inv X pins σ H {s with heap:=h'}:=I.turned (t':=s.toks) (λb o hb e=>(sb.2 b hb).trans e) f0 f1 f3 f4 f5;obtain⟨o,e,c,d⟩:=id st';exact⟨u,rfl,Bb (s:= {s with heap:=h'}) e c d (by decide) ⟨x,H,I1,ru,⟨rfl,λys hy=>by rw [I.tuple_inj hy hq];exact hx⟩,st',λb hb=>(hf b hb).1⟩⟩
 done:=by
  intro X hP hw hK hc i pins s σ H E I hf st hg;subst hP hw hK;obtain⟨xs,hq,hx⟩:=hg;obtain⟨its,rv,p,hz⟩:=I.tuple hq;obtain⟨f0,f1,f2,f3,f4,f5⟩:=hf it (by simp);have hl:=rv.length;exact wpAny_pyNext_tuple_end (I.ok.hd hc) st (show s.heap.IsTuple a its.toArray from p) (by simp;omega) λh' eb=>⟨rfl,I.turned (t':=s.toks) (λb o hb e=>eb b o hb e) f0 f1 f3 f4 f5⟩
 self:=λ_ _ _ _ _ st h=>wpAny_pyIter_tupleiter st h
theorem Xz (it:G9)(lo:D3)(n:G7):Turn P w K tg (Itr lo n) [it] it (λi h=>IN h it (lo+(i:G7)*1) ((n:D3)-(i:G7)) 1) where
 mem:=by simp
 obj:=λi h st b hb=>by
  have e:b=it:=by simpa using hb
  subst e;exact⟨_,st,λv z=>by
   have z':Data.fields _=Data.cell v:=z;cases z'⟩
 keep:=λi h h' st k=>k it (by simp) _ st
 item:=by
  intro X hP hw hK hc i pins s σ H E I hf st hg;subst hP hw hK;obtain⟨f0,f1,f2,f3,f4,f5⟩:=hf it (by simp);have W:=Walks.range (prog:=X.prog) (w:=X.w) (I.ok.hd hc) it lo 1 n;refine W.item i s _ _ hg st λv h' tk hv st' kk=> ?_
  obtain⟨t,rfl⟩:=hv;have I1:Inv X pins σ H {s with heap:=h',toks:=tk}:=I.turned (λb o hb e=>kk b o (by simpa using hb) e) f0 f1 f3 f4 f5;refine⟨_,rfl,Bb (s:= {s with heap:=h',toks:=tk}) (n:= "range_iterator") st' rfl rfl (by decide) ⟨.int (lo+i),H,I1,⟨t,?_⟩,⟨rfl,rfl⟩,st',λb hb=>(hf b hb).1⟩⟩;rw [Int.mul_one]
 done:=by
  intro X hP hw hK hc i pins s σ H E I hf st hg;subst hP hw hK;obtain⟨f0,f1,f2,f3,f4,f5⟩:=hf it (by simp);exact wpAny_pyNext_range_end (I.ok.hd hc) st (by have:n<=i:=hg;omega) λh' eb=>⟨rfl,I.turned (t':=s.toks) (λb o hb e=>eb b o hb e) f0 f1 f3 f4 f5⟩
 self:=λ_ _ _ _ _ st h=>wpAny_pyIter_rangeiter st h
section
variable {X:Cx}{tg:N0}
def Lj (K:G5)(tl:TE):TI:=λσ H R=>tl σ H λx H1=> ∃a,x= .ref a/\(∃xs,SqL K H1 a xs)/\R (Itl K a) H1
theorem Bc {l:N0}{tl:TE}(hl:PE X l tl):PI X tg l (Lj X.K tl):=by
 intro pins s σ H R I h;refine thn (hl pins s σ H _ I h) λv s1 ⟨x,H1,I1,r1,q1⟩=> ?_
 obtain⟨a,e,⟨xs,hq⟩,q⟩:=q1;subst e;cases r1;obtain⟨its,rv,p,hz⟩:=I1.list hq;refine V7 p.isList ?_;refine⟨s1.heap.objs.size,[s1.heap.objs.size],_,_,H1,rfl,I1.kept (t':=s1.toks) λb o e=>G3 _ e,Yp a _,⟨_,R1 _ rfl,rfl,rfl⟩,λb hb=> ?_,q⟩;have e:b=s1.heap.objs.size:=by simpa using hb
 subst e;exact I1.fpOk (P3 _) (I1.hok.fresh (P3 _))
variable {pins:G0 (G9×Obj)}
theorem Rh {σ:St}{H:Hp}{s:G2}{R:It->Hp->Prop}{E:G1->G2->Prop}{lo hi:D3}{t u v:Tok}{tk:G7}(I:Inv X pins σ H s)(h1: -(2^62)<=lo)(h2:lo<2^62)(h3: -(2^62)<=hi)(h4:hi<2^62)
 (q:R (Itr lo (hi-lo).toNat) H):R3 (R7 X.prog X.w) X.A (y4 (.ref s.heap.objs.size)) (PIE X pins σ tg R) E {s with heap:=s.heap.push {cls:= .type "range",data:= .fields #[.int lo t,.int hi u,.int 1 v]},toks:=tk}:=by
 refine wpAny_pyIter_range (IsRange.new ..) (small_one h1 h2 h3 h4) ?_;have I1:Inv X pins σ H {s with heap:=s.heap.push {cls:= .type "range",data:= .fields #[.int lo t,.int hi u,.int 1 v]},toks:=tk}:=I.kept λb o e=>G3 _ e
 refine⟨(s.heap.push {cls:= .type "range",data:= .fields #[.int lo t,.int hi u,.int 1 v]}).objs.size,[(s.heap.push {cls:= .type "range",data:= .fields #[.int lo t,.int hi u,.int 1 v]}).objs.size],_,_,H,rfl,
  I1.kept (t':=tk) λb o e=>G3 _ e,Xz _ lo (hi-lo).toNat,?_,λb hb=> ?_,q⟩
 ·have e1:lo+((0:G7):D3)*1=lo:=by simp
  have e2:(((hi-lo).toNat:G7):D3)-((0:G7):D3)=Builtin.Range.rangeSize lo hi 1:=by rw [rangeSize_one];split<;>omega
  show IN _ _ (lo+((0:G7):D3)*1) ((((hi-lo).toNat:G7):D3)-((0:G7):D3)) 1;rw [e1,e2];exact R1 _ rfl
 ·have e:b=(s.heap.push {cls:= .type "range",data:= .fields #[.int lo t,.int hi u,.int 1 v]}).objs.size:=by simpa using hb
  subst e;exact I1.fpOk (P3 _) (I1.hok.fresh (P3 _))
def Lk (ta:TA):TI:=λσ H R=>ta σ H λvs H1=> ∃j:D3,vs= [.int j]/\ -(2^62)<=j/\j<2^62/\R (Itr 0 j.toNat) H1
theorem QM {a:N0}{ta:TA}{p pos:Pos}(hg:Gl X "range")(hm:X.mg "range" =none)(ha:PA X [a] ta)(hs:D7 [a] X.env= [(false,J0 a X.env)]:=by rfl):PI X tg (.Call (.Name "range" p) [a] [] pos) (Lk ta):=by
 intro pins s σ H R I h;refine Call_ (ZY I hg hm boot_range (aQ (thn (ha pos pins s σ H _ I h) λus s1 ⟨vs,H1,I1,r1,q1⟩=> ?_) hs rfl));obtain⟨j,e,q1,q2,q⟩:=q1;subst e;cases r1 with
 |cons r rr=>
  cases rr;obtain⟨t,rfl⟩:=r;exact call_range_1 (Rh I1 (by omega) (by omega) q1 q2 (by simpa using q))
def Ta (wi:TI)(g:TG)(tb:TS):TS:=λD σ H=>wi σ H λJ H1=> ∃W:G7->G7->St->Hp->Prop,(∃m,W 0 m σ H1)/\ ∀i m σ H,W i m σ H->
 (J.stop i H/\D.nx σ H)\/(J.go i H/\ ∃N:St->Hp->Prop,(∀σ' H',N σ' H'-> ∃m',m'<m/\W (i+1) m' σ' H')/\ ∀x H',J.yld i H x H'->g x σ H' λσ2 H2=>tb {D with nx:=N,ct:=N,bk:=D.nx} σ2 H2)
def JH (fp:G0 G9)(h:B6):G0 (G9×Obj):=fp.filterMap λb=>(h.get? b).map λo=>(b,o)
theorem yq {fp:G0 G9}{h:B6}{b:G9}{o:Obj}(hb:b∈fp)(e:h.get? b=some o):(b,o)∈JH fp h:=aX.mpr ⟨b,hb,by rw [e];rfl⟩
theorem Yq {fp:G0 G9}{h:B6}{p:G9×Obj}(hp:p∈JH fp h):p.1∈fp/\h.get? p.1=some p.2:=by
 obtain⟨b,hb,e⟩:=aX.mp hp;cases q:h.get? b with
 |none=>rw [q] at e;cases e
 |some o=>
  rw [q] at e;have e':(b,o)=p:=O5 e;subst e';exact⟨hb,q⟩
theorem Inv.pinned {σ:St}{H:Hp}{s:G2}{fp:G0 G9}(I:Inv X pins σ H s)(hf: ∀b∈fp,QL X pins H b)(ho: ∀b∈fp,∃o,s.heap.get? b=some o/\ ∀v,o.data≠ .cell v):Inv X (pins++JH fp s.heap) σ H s:=
 I.pins_of λp hp=>(T8.mp hp).elim (λz=>I.pin p (M1 _ z)) λz=>by
  obtain⟨hb,e⟩:=Yq z;obtain⟨f0,f1,f2,_⟩:=hf p.1 hb;obtain⟨o,e',d⟩:=ho p.1 hb;rw [e] at e';cases e';exact⟨e,f0,f1,f2,d⟩
theorem Inv.unpinned {pl:G0 (G9×Obj)}{σ:St}{H:Hp}{s:G2}(I:Inv X (pins++pl) σ H s):Inv X pins σ H s:=I.pins_of λp hp=>I.pin p (M1 _ (A7 _ hp))
theorem Ll {iter:N0}{body:G0 K8}{wi:TI}{g:TG}{tb:TS}{pos:Pos}(hp:o7 (R7 X.prog X.w) X.A X.env X.xe)(hc:X.calm=true)(hi:PI X tg iter wi)(hg:PG X tg g)(hb:PSs X body tb)
 (hs: ∀x,O4 iter X.env x=pure x:=by intro _;rfl):PS X (.For tg iter body [] pos) (Ta wi g tb):=by
 intro pins s σ H D I h;refine wpAny_For (thn (hi pins s σ H _ I h) λv s1 h1=>thn h1 λitv s2 h2=> ?_) hs;obtain⟨it,fp,tn,J,H2,e,I2,T,st2,f2,W,⟨m0,w0⟩,turn⟩:=h2;subst e
 -- what stays true of the iterator's objects through the loop
 have stat: ∀ {H':Hp},(∀b∈fp,H' b=none)-> ∀b∈fp,QL X pins H' b:=λhn b hb=>⟨hn b hb,(f2 b hb).2⟩
 refine codeAny_forLoop_any (λn s'=> ∃i σ' H',Inv X pins σ' H' s'/\tn i s'.heap/\(∀b∈fp,H' b=none)/\W i n σ' H') ?_ m0 ⟨0,σ,H2,I2,st2,λb hb=>(f2 b hb).1,w0⟩;rintro n s3 ⟨i,σ3,H3,I3,st3,fr3,w3⟩;rcases turn i n σ3 H3 w3 with ⟨stop,qn⟩|⟨go,N,hN,step⟩
 ·refine bR hp (thn (T.done X rfl rfl rfl hc i pins s3 σ3 H3 X.xe I3 (stat fr3) st3 stop) λr s4 ⟨hr,I4⟩=> ?_);subst hr;exact dB ⟨σ3,H3,I4,qn⟩
 ·refine bR hp (thn (T.item X rfl rfl rfl hc i pins s3 σ3 H3 X.xe I3 (stat fr3) st3 go) λr s4 ⟨u,hr,h4⟩=> ?_);subst hr;refine bR hp (thn h4 λ_ s5 ⟨x,H5,I5,r5,y5,st5,fr5⟩=> ?_);have I5':=I5.pinned (stat fr5) (T.obj _ _ st5);refine bR hp (thn (hg _ s5 σ3 H5 x u _ I5' r5 (step x H5 y5)) λ_ s6 ⟨σ6,H6,I6,q6⟩=> ?_);refine bR hp (thn (hb _ s6 σ6 H6 _ I6 q6) λf s7 q7=> ?_);have again: ∀ {σ7:St} {H7:Hp},Inv X (pins++JH fp s5.heap) σ7 H7 s7->N σ7 H7-> ∃m,m<n/\ ∃i σ' H',Inv X pins σ' H' s7/\tn i s7.heap/\(∀b∈fp,H' b=none)/\W i m σ' H':=λ{σ7 H7} I7 n7=>by
   obtain⟨m',hm,w7⟩:=hN σ7 H7 n7;refine⟨m',hm,i+1,σ7,H7,I7.unpinned,T.keep _ _ _ st5 λb hb o e=>(I7.pin (b,o) (M1 _ (M1 _ (yq hb e)))).1,λb hb=> ?_,w7⟩;obtain⟨o,e,d⟩:=T.obj _ _ st5 b hb;exact(I7.pin (b,o) (M1 _ (M1 _ (yq hb e)))).2.1
  cases f with
  |next=>obtain⟨σ7,H7,I7,n7⟩:=q7;exact again I7 n7
  |cont=>obtain⟨σ7,H7,I7,n7⟩:=q7;exact again I7 n7
  |brk=>obtain⟨σ7,H7,I7,q7⟩:=q7;exact⟨σ7,H7,I7.unpinned,q7⟩
  |ret v=>obtain⟨x7,σ7,H7,I7,r7,q7⟩:=q7;exact⟨x7,σ7,H7,I7.unpinned,r7,q7⟩
end
abbrev R2:=V->V->Hp->VK->Prop
def OpR (X:Cx)(f:G1->G1->Sem G1)(r:R2):Prop:=
 ∀ (pins:G0 (G9×Obj)) (s:G2) (σ:St) (H:Hp) (x y:V) (v u:G1) (Q:VK),Inv X pins σ H s->RelV x v->RelV y u->r x y H Q->
  R3 (R7 X.prog X.w) X.A (f v u) (EP X pins σ Q) X.xe s
def UnR (X:Cx)(f:G1->Sem G1)(r:V->Hp->VK->Prop):Prop:=
 ∀ (pins:G0 (G9×Obj)) (s:G2) (σ:St) (H:Hp) (x:V) (v:G1) (Q:VK),Inv X pins σ H s->RelV x v->r x H Q->
  R3 (R7 X.prog X.w) X.A (f v) (EP X pins σ Q) X.xe s
def CallR (X:Cx)(f:G1)(r:G0 V->Hp->VK->Prop):Prop:=
 ∀ (pins:G0 (G9×Obj)) (s:G2) (σ:St) (H:Hp) (xs:G0 V) (us:G0 G1) (Q:VK),Inv X pins σ H s->Vals xs us->r xs H Q->
  R3 (R7 X.prog X.w) X.A (call f us) (EP X pins σ Q) X.xe s
def tOp (r:R2)(ta tb:TE):TE:=λσ H Q=>ta σ H λx H1=>tb σ H1 λy H2=>r x y H2 Q
def tUn (r:V->Hp->VK->Prop)(ta:TE):TE:=λσ H Q=>ta σ H λx H1=>r x H1 Q
def rI (C:D3->D3->Prop)(g:D3->D3->V):R2:=λx y H Q=> ∃i j,x= .int i/\y= .int j/\C i j/\Q (g i j) H
def rI0 (g:D3->D3->V):R2:=λx y H Q=> ∃i j,x= .int i/\y= .int j/\Q (g i j) H
def rU (g:D3->V):V->Hp->VK->Prop:=λx H Q=> ∃i,x= .int i/\Q (g i) H
section
variable {X:Cx}{a b c:N0}{ta tb tc:TE}{pos:Pos}
theorem Eo (ha:PE X a ta)(hb:PE X b tb){pins:G0 (G9×Obj)}{s:G2}{σ:St}{H:Hp}{R:V->V->Hp->Prop}(I:Inv X pins σ H s)
 (h:ta σ H λx H1=>tb σ H1 λy H2=>R x y H2){Q:G1->G2->Prop}{f:G1->G1->Sem G1}
 (hf: ∀v u s2 x y H2,Inv X pins σ H2 s2->RelV x v->RelV y u->R x y H2->R3 (R7 X.prog X.w) X.A (f v u) Q X.xe s2):
 R3 (R7 X.prog X.w) X.A (J0 a X.env) (λv s₁=>R3 (R7 X.prog X.w) X.A (J0 b X.env) (λu s₂=>R3 (R7 X.prog X.w) X.A (f v u) Q X.xe s₂) X.xe s₁) X.xe s:=by
 refine thn (ha pins s σ H _ I h) λv s1 ⟨x,H1,I1,r1,q1⟩=> ?_
 refine thn (hb pins s1 σ H1 _ I1 q1) λu s2 ⟨y,H2,I2,r2,q2⟩=> ?_
 exact hf v u s2 x y H2 I2 r1 r2 q2
theorem Ep {op:IO}{r:R2}(ho:OpR X (V9 op) r)(ha:PE X a ta)(hb:PE X b tb):PE X (.BinOp a op b pos) (tOp r ta tb):=by
 intro pins s σ H Q I h;exact wpAny_BinOp (Eo ha hb I h λv u s2 x y H2 I2 rx ry q=>ho pins s2 σ H2 x y v u Q I2 rx ry q)
theorem Eq {op:UnaryOp}{r:V->Hp->VK->Prop}(ho:UnR X (unaryOp op) r)(ha:PE X a ta):PE X (.UnaryOp op a pos) (tUn r ta):=by
 intro pins s σ H Q I h;exact UnaryOp_ (thn (ha pins s σ H _ I h) λv s1 ⟨x,H1,I1,r1,q1⟩=>ho pins s1 σ H1 x v Q I1 r1 q1)
theorem opI {f:G1->G1->Sem G1}{C:D3->D3->Prop}{g:D3->D3->D3}
 (rule: ∀ (i j:D3) (t u:Tok) (s:G2) (Q:G1->G2->Prop) (E:G1->G2->Prop),C i j->Q (.int (g i j) s.toks) {s with toks:=s.toks+1}->R3 (R7 X.prog X.w) X.A (f (.int i t) (.int j u)) Q E s):
 OpR X f (rI C λi j=> .int (g i j)):=by
 intro pins s σ H x y v u Q I rx ry h;obtain⟨i,j,rfl,rfl,hc,q⟩:=h;obtain⟨t,rfl⟩:=rx;obtain⟨t',rfl⟩:=ry;exact rule i j t t' s _ _ hc ⟨.int (g i j),H,I.tok _,⟨_,rfl⟩,q⟩
theorem Tb {f:G1->G1->Sem G1}{g:D3->D3->D3}
 (rule: ∀ (i j:D3) (t u:Tok) (s:G2) (Q:G1->G2->Prop) (E:G1->G2->Prop),Q (.int (g i j) s.toks) {s with toks:=s.toks+1}->R3 (R7 X.prog X.w) X.A (f (.int i t) (.int j u)) Q E s):
 OpR X f (rI0 λi j=> .int (g i j)):=by
 intro pins s σ H x y v u Q I rx ry h;obtain⟨i,j,rfl,rfl,q⟩:=h;obtain⟨t,rfl⟩:=rx;obtain⟨t',rfl⟩:=ry;exact rule i j t t' s _ _ ⟨.int (g i j),H,I.tok _,⟨_,rfl⟩,q⟩
theorem AZ {f:G1->G1->Sem G1}{g:D3->D3->T5}
 (rule: ∀ (i j:D3) (t u:Tok) (s:G2) (Q:G1->G2->Prop) (E:G1->G2->Prop),Q (.bool (g i j)) s->R3 (R7 X.prog X.w) X.A (f (.int i t) (.int j u)) Q E s):
 OpR X f (rI0 λi j=> .bl (g i j)):=by
 intro pins s σ H x y v u Q I rx ry h;obtain⟨i,j,rfl,rfl,q⟩:=h;obtain⟨t,rfl⟩:=rx;obtain⟨t',rfl⟩:=ry;exact rule i j t t' s _ _ ⟨.bl (g i j),H,I,rfl,q⟩
def Tc (i j:D3):Prop:=0<j/\j<1073741824
def Td (i j:D3):Prop:=0<=j/\j<=1000000/\i.natAbs<2^64
def CMul (i j:D3):Prop:=(-(2^64)<i/\i<2^64)\/(-(2^64)<j/\j<2^64)
theorem CMul.ok {i j:D3}(h:CMul i j):IntMulOk i j:=by
 rcases h with ⟨h1,h2⟩|⟨h1,h2⟩
 ·exact .of_left (v6 h1 h2)
 ·exact .of_right (v6 h1 h2)
theorem op_add:OpR X (V9 .Add) (rI0 λi j=> .int (i+j)):=Tb λ_ _ _ _ _ _ _ q=>add_int q
theorem Lm:OpR X (V9 .Sub) (rI0 λi j=> .int (i-j)):=Tb λ_ _ _ _ _ _ _ q=>sub_int q
theorem op_mul:OpR X (V9 .Mult) (rI CMul λi j=> .int (i*j)):=opI λ_ _ _ _ _ _ _ hc q=>mul_int q hc.ok
theorem Bd:OpR X (V9 .FloorDiv) (rI Tc λi j=> .int (i / j)):=opI λi j _ _ _ _ _ hc q=>by
 have h1:(0:D3)<j:=hc.1;have h2:j<1073741824:=hc.2;exact floordiv_int (by omega) (by rw [kM i (by omega)];exact q) (.inl (PyProof.noPylong_small (by omega)))
theorem Ln:OpR X (V9 .Mod) (rI (λ_ j=>0<j) λi j=> .int (i%j)):=opI λi j _ _ _ _ _ hc q=>by
 have h1:(0:D3)<j:=hc;exact mod_int' (by omega) (by rw [kN i (by omega)];exact q)
theorem Lo:OpR X (V9 .Pow) (rI Td λi j=> .int (i^j.toNat)):=opI λ_ _ _ _ _ _ _ hc q=>pow_int_small hc.1 hc.2.1 hc.2.2 q
theorem unI {f:G1->Sem G1}{g:D3->D3}
 (rule: ∀ (i:D3) (t:Tok) (s:G2) (Q:G1->G2->Prop) (E:G1->G2->Prop),Q (.int (g i) s.toks) {s with toks:=s.toks+1}->R3 (R7 X.prog X.w) X.A (f (.int i t)) Q E s):
 UnR X f (rU λi=> .int (g i)):=by
 intro pins s σ H x v Q I rx h;obtain⟨i,rfl,q⟩:=h;obtain⟨t,rfl⟩:=rx;exact rule i t s _ _ ⟨.int (g i),H,I.tok _,⟨_,rfl⟩,q⟩
theorem Lp:UnR X (unaryOp .USub) (rU λi=> .int (-i)):=unI λ_ _ _ _ _ q=>neg_int q
end
def Te:V->V->T5
 | .non,.non=>true| .non,.int _=>true| .int _,.non=>true| .non,.bl _=>true| .bl _,.non=>true| .non,.str _=>true| .str _,.non=>true
 | .int _,.int _=>true| .bl _,.bl _=>true| .str _,.str _=>true| .byt _,.byt _=>true
 | .int _,.str _=>true| .str _,.int _=>true| .bl _,.str _=>true| .str _,.bl _=>true
 |_,_=>false
def rEq:R2:=λx y H Q=>Te x y=true/\Q (.bl (decide (x=y))) H
def rNe:R2:=λx y H Q=>Te x y=true/\Q (.bl (!decide (x=y))) H
theorem QN {i j:D3}:decide (V.int i=V.int j)=(i==j):=by
 rw [Q3];simp
theorem Nf {i j:T5}:decide (V.bl i=V.bl j)=(i==j):=by
 rw [Q3];simp
theorem QP {i j:Str}:decide (V.str i=V.str j)=(i==j):=by
 rw [Q3];simp
theorem QQ {i j:S6 UInt8}:decide (V.byt i=V.byt j)=(i.toList==j.toList):=by
 rw [Q3];cases i;cases j;simp
section
variable {X:Cx}{a b c:N0}{ta tb tc:TE}{pos:Pos}
theorem jD {pins:G0 (G9×Obj)}{σ:St}{H:Hp}{s:G2}{Q:VK}{k k':T5}(I:Inv X pins σ H s)(q:Q (.bl k) H)(e:k=k'):EP X pins σ Q (.bool k') s:=by
 subst e;exact⟨.bl k,H,I,rfl,q⟩
theorem op_eq:OpR X (L7 .Eq) rEq:=by
 intro pins s σ H x y v u Q I rx ry h;obtain⟨hs,q⟩:=h;cases x with
 |non=>
  cases rx;cases y with
  |non=>cases ry;exact PySem.EqNone.eq_none_none (jD I q (by simp))
  |bl j=>cases ry;exact PySem.EqNone.eq_none_bool (jD I q (by simp))
  |int j=>obtain⟨t',rfl⟩:=ry;exact PySem.EqNone.eq_none_int (jD I q (by simp))
  |str j=>obtain⟨t',rfl⟩:=ry;exact PySem.EqNone.eq_none_str (jD I q (by simp))
  |_=>exact absurd (show false=true from hs) S5
 |bl i=>
  cases rx;cases y with
  |non=>cases ry;exact PySem.EqNone.eq_bool_none (jD I q (by simp))
  |bl j=>cases ry;exact eq_bool (jD I q Nf)
  |str j=>obtain⟨t',rfl⟩:=ry;exact PySem.EqMixed.eq_bool_str (jD I q (by simp))
  |_=>exact absurd (show false=true from hs) S5
 |int i=>
  obtain⟨t,rfl⟩:=rx;cases y with
  |non=>cases ry;exact PySem.EqNone.eq_int_none (jD I q (by simp))
  |int j=>obtain⟨t',rfl⟩:=ry;exact eq_int (jD I q QN)
  |str j=>obtain⟨t',rfl⟩:=ry;exact PySem.EqMixed.eq_int_str (jD I q (by simp))
  |_=>exact absurd (show false=true from hs) S5
 |str i=>
  obtain⟨t,rfl⟩:=rx;cases y with
  |non=>cases ry;exact PySem.EqNone.eq_str_none (jD I q (by simp))
  |bl j=>cases ry;exact PySem.EqMixed.eq_str_bool (jD I q (by simp))
  |int j=>obtain⟨t',rfl⟩:=ry;exact PySem.EqMixed.eq_str_int (jD I q (by simp))
  |str j=>obtain⟨t',rfl⟩:=ry;exact eq_str (jD I q QP)
  |_=>exact absurd (show false=true from hs) S5
 |byt i=>
  obtain⟨t,rfl⟩:=rx;cases y with
  |byt j=>obtain⟨t',rfl⟩:=ry;exact G0u (jD I q QQ)
  |_=>exact absurd (show false=true from hs) S5
 |_=>cases y<;>exact absurd (show false=true from hs) S5
theorem op_ne:OpR X (L7 .NotEq) rNe:=by
 intro pins s σ H x y v u Q I rx ry h;obtain⟨hs,q⟩:=h;cases x with
 |non=>
  cases rx;cases y with
  |non=>cases ry;exact PySem.EqNone.ne_none_none (jD I q (by simp))
  |bl j=>cases ry;exact PySem.EqNone.ne_none_bool (jD I q (by simp))
  |int j=>obtain⟨t',rfl⟩:=ry;exact PySem.EqNone.ne_none_int (jD I q (by simp))
  |str j=>obtain⟨t',rfl⟩:=ry;exact PySem.EqNone.ne_none_str (jD I q (by simp))
  |_=>exact absurd (show false=true from hs) S5
 |bl i=>
  cases rx;cases y with
  |non=>cases ry;exact PySem.EqNone.ne_bool_none (jD I q (by simp))
  |bl j=>cases ry;exact ne_bool (jD I q (congrArg not Nf))
  |str j=>obtain⟨t',rfl⟩:=ry;exact PySem.EqMixed.ne_bool_str (jD I q (by simp))
  |_=>exact absurd (show false=true from hs) S5
 |int i=>
  obtain⟨t,rfl⟩:=rx;cases y with
  |non=>cases ry;exact PySem.EqNone.ne_int_none (jD I q (by simp))
  |int j=>obtain⟨t',rfl⟩:=ry;exact ne_int (jD I q (congrArg not QN))
  |str j=>obtain⟨t',rfl⟩:=ry;exact PySem.EqMixed.ne_int_str (jD I q (by simp))
  |_=>exact absurd (show false=true from hs) S5
 |str i=>
  obtain⟨t,rfl⟩:=rx;cases y with
  |non=>cases ry;exact PySem.EqNone.ne_str_none (jD I q (by simp))
  |bl j=>cases ry;exact PySem.EqMixed.ne_str_bool (jD I q (by simp))
  |int j=>obtain⟨t',rfl⟩:=ry;exact PySem.EqMixed.ne_str_int (jD I q (by simp))
  |str j=>obtain⟨t',rfl⟩:=ry;exact ne_str (jD I q (congrArg not QP))
  |_=>exact absurd (show false=true from hs) S5
 |byt i=>
  obtain⟨t,rfl⟩:=rx;cases y with
  |byt j=>obtain⟨t',rfl⟩:=ry;exact G0v (jD I q (congrArg not QQ))
  |_=>exact absurd (show false=true from hs) S5
 |_=>cases y<;>exact absurd (show false=true from hs) S5
theorem Er:OpR X (L7 .Lt) (rI0 λi j=> .bl (decide (i<j))):=AZ λ_ _ _ _ _ _ _ q=>lt_int q
theorem Es:OpR X (L7 .LtE) (rI0 λi j=> .bl (decide (i<=j))):=AZ λ_ _ _ _ _ _ _ q=>le_int q
theorem Et:OpR X (L7 .Gt) (rI0 λi j=> .bl (decide (j<i))):=AZ λ_ _ _ _ _ _ _ q=>gt_int q
theorem Eu:OpR X (L7 .GtE) (rI0 λi j=> .bl (decide (j<=i))):=AZ λ_ _ _ _ _ _ _ q=>ge_int q
variable {r:R2}
theorem OpR.or {f:G1->G1->Sem G1}{r':R2}(h:OpR X f r)(h':OpR X f r'):OpR X f (λx y H Q=>r x y H Q\/r' x y H Q):=by
 intro pins s σ H x y v u Q I rx ry q;rcases q with q|q
 ·exact h pins s σ H x y v u Q I rx ry q
 ·exact h' pins s σ H x y v u Q I rx ry q
theorem QR (b:N0){op:oE}(h:op≠ .In:=by decide)(h2:op≠ .NotIn:=by decide):Z4 op b=false:=by
 have e1:(op==CmpOp.In)=false:=by cases op<;>first|rfl|exact absurd rfl h
 have e2:(op==CmpOp.NotIn)=false:=by cases op<;>first|rfl|exact absurd rfl h2
 cases b<;>simp [Z4,e1,e2]
theorem Be {op:oE}(ho:OpR X (L7 op) r)(ha:PE X a ta)(hb:PE X b tb)(hm:Z4 op b=false):PE X (.Compare a [op] [b] pos) (tOp r ta tb):=by
 intro pins s σ H Q I h;exact wpAny_Compare1 (Eo ha hb I h λv u s2 x y H2 I2 rx ry q=>ho pins s2 σ H2 x y v u Q I2 rx ry q) hm
def Bf (t:TE):TT:=λσ H Q=>t σ H λx H'=> ∃k,x= .bl k/\Q k H'
theorem Bg {op:oE}(ho:OpR X (L7 op) r)(ha:PE X a ta)(hb:PE X b tb)(hm:Z4 op b=false):PT X (.Compare a [op] [b] pos) (Bf (tOp r ta tb)):=by
 intro pins s σ H Q I h;refine wpAny_isTrue_Compare1 (thn (ha pins s σ H _ I h) λv s1 ⟨x,H1,I1,r1,q1⟩=>thn (hb pins s1 σ H1 _ I1 q1) λu s2 ⟨y,H2,I2,r2,q2⟩=>
  thn (ho pins s2 σ H2 x y v u _ I2 r1 r2 q2) λc s3 ⟨z,H3,I3,r3,k,e,q3⟩=> ?_) hm
 subst e;cases r3;exact J4 ⟨H3,I3,q3⟩
def Ng (r r':R2)(ta tb tc:TE):TE:=λσ H Q=>ta σ H λx H1=>tb σ H1 λy H2=>r x y H2 λz H3=> ∃k,z= .bl k/\
 (if k=true then tc σ H3 λw' H4=>r' y w' H4 Q else Q (.bl false) H3)
theorem Ri {op op':oE}{r':R2}(ho:OpR X (L7 op) r)(ho':OpR X (L7 op') r')(ha:PE X a ta)(hb:PE X b tb)(hc:PE X c tc)
 (hm:xR [op,op'] [b,c]=false:=by with_unfolding_all rfl):PT X (.Compare a [op,op'] [b,c] pos) (Bf (Ng r r' ta tb tc)):=by
 intro pins s σ H Q I h;refine isTrue_chain (thn (ha pins s σ H _ I h) λv s1 ⟨x,H1,I1,r1,q1⟩=>test_link (thn (hb pins s1 σ H1 _ I1 q1) λu s2 ⟨y,H2,I2,r2,q2⟩=>
  thn (ho pins s2 σ H2 x y v u _ I2 r1 r2 q2) λd s3 ⟨z,H3,I3,r3,k,e,q3⟩=> ?_)) hm
 subst e;cases r3;refine J4 ?_;cases k with
 |false=>
  obtain⟨k',e',q'⟩:=q3;cases e';exact ite_ff ⟨H3,I3,q'⟩
 |true=>
  refine ite_tt (test_last (thn (hc pins s3 σ H3 _ I3 q3) λw' s4 ⟨z',H4,I4,r4,q4⟩=>thn (ho' pins s4 σ H4 y z' u w' _ I4 r2 r4 q4) λd' s5 ⟨z2,H5,I5,r5,k2,e2,q5⟩=> ?_));subst e2;cases r5;exact J4 ⟨H5,I5,q5⟩
theorem Yr:(sizeLine:G7)<2^63:=by rw [r6];decide
theorem yb {x:V}{us:G0 G1}(r:Vals [x] us): ∃u,us= [u]/\RelV x u:=by
 cases r with
 |cons r1 r2=>cases r2;exact⟨_,rfl,r1⟩
theorem QU {x y:V}{us:G0 G1}(r:Vals [x,y] us): ∃u w',us= [u,w']/\RelV x u/\RelV y w':=by
 cases r with
 |cons r1 r2=>
  cases r2 with
  |cons r3 r4=>cases r4;exact⟨_,_,rfl,r1,r3⟩
theorem QV (hc:X.calm=true):CallR X (.builtin "max") (λxs H Q=> ∃i j,xs= [.int i,.int j]/\Q (.int (if j>i then j else i)) H):=by
 intro pins s σ H xs us Q I r h;obtain⟨i,j,rfl,q⟩:=h;obtain⟨u,w',rfl,⟨t,rfl⟩,⟨t',rfl⟩⟩:=QU r;refine max_two_ints (I.ok.hd hc) λh' tk k=>⟨_,H,I.kept k,?_,q⟩
 by_cases hj:j>i
 ·rw [R6 hj,R6 hj];exact⟨_,rfl⟩
 ·rw [R8 hj,R8 hj];exact⟨_,rfl⟩
theorem QX (hc:X.calm=true):CallR X (.builtin "min") (λxs H Q=> ∃i j,xs= [.int i,.int j]/\Q (.int (if j<i then j else i)) H):=by
 intro pins s σ H xs us Q I r h;obtain⟨i,j,rfl,q⟩:=h;obtain⟨u,w',rfl,⟨t,rfl⟩,⟨t',rfl⟩⟩:=QU r;refine min_two_ints (I.ok.hd hc) λh' tk k=>⟨_,H,I.kept k,?_,q⟩
 by_cases hj:j<i
 ·rw [R6 hj,R6 hj];exact⟨_,rfl⟩
 ·rw [R8 hj,R8 hj];exact⟨_,rfl⟩
theorem call_int1:CallR X (.type "int") (λxs H Q=>(∃i,xs= [.int i]/\Q (.int i) H)\/ ∃k,xs= [.bl k]/\Q (.int (if k then 1 else 0)) H):=by
 intro pins s σ H xs us Q I r h;rcases h with ⟨i,rfl,q⟩|⟨k,rfl,q⟩
 ·obtain⟨u,rfl,t,rfl⟩:=yb r;exact call_int_int ⟨.int i,H,I,⟨_,rfl⟩,q⟩
 ·obtain⟨u,rfl,r1⟩:=yb r;cases r1;exact call_int_bool ⟨.int (if k then 1 else 0),H,I.tok _,⟨_,rfl⟩,q⟩
end
structure ObjM (h:B6)(x dx C:G9)(mA:Str->P4 G1):Prop where
 obj:h.get? x=some (nN C dx)
 ns:h.Ns1 dx mA
 ne:dx≠x
theorem QY {dx:G9}{mA:Str->P4 G1}(n:h.Ns1 dx mA): ∃od,h.get? dx=some od/\ ∀name,oF name od=some (mA name):=by
 obtain⟨o,es,ep,ho,hd,hk,_,hm⟩:=n;refine⟨o,ho,λname=> ?_⟩;have e:=hm name;unfold nsFind findBy at e;rw [<-Array.find?_toList] at e;unfold oF;rw [hd];dsimp only;split
 ·rename_i y q;rw [q] at e;exact congrArg some e
 ·rename_i q;rw [q] at e;have a:es.toList.any (·.refKey)=false:=by
   rw [qH];intro y hy;obtain⟨z,t,hkey⟩:=hk y (oG.mp hy);simp [DictEntry.refKey,hkey]
  have a': ¬es.toList.any (·.refKey)=true:=by rw [a];exact S5
  rw [R8 a'];exact congrArg some e
theorem ObjM.look {x dx C:G9}{mA:Str->P4 G1}(I:ObjM h x dx C mA): ∃od,G0H h x (nN C dx) C (some od)/\ ∀name,oF name od=some (mA name):=
 let ⟨od,ho,hl⟩:=QY I.ns
 ⟨od,⟨I.obj,rfl,rfl,ho⟩,hl⟩
section
variable {P:R9}{w:N4}{H H':Hp}{h h':B6}{a C dx:G9}{fs fs':G0 (Str×V)}
theorem Bh (hok:HOk P w H h)(e:H a=some (.ins C dx fs)): ∃mA,ObjM h a dx C mA/\(∀f,Eg (fs.lookup f) (mA f))/\xY mA (fs.map (·.1))/\fs.length<=1000/\H dx=some (.own a):=by
 obtain⟨d,z,ne,ob,mA,n,r,q⟩:=(show ObjOk P w H h a (.ins C dx fs) from hok a _ e);exact⟨mA,⟨ob,n,ne⟩,r,q,z,d⟩
end
structure Cls (K:G5)(C:G9):Prop where
 pg:rF K C xS=true
 hd:G0n K C=true
 po:G0o K C=true
 sa:tY K (.ref C) "__setattr__" =some (some (.builtin "object.__setattr__"))
theorem Cls.get {C:G9}(c:Cls K C)(f:Str):rF K C f=true:=c.pg
section
variable {X:Cx}{pins:G0 (G9×Obj)}{σ:St}{H:Hp}{s:G2}{A:T3}{E:G1->G2->Prop}{Q:G1->G2->Prop}{c:G1}{b:T5}
inductive TyOf (K:G5)(H:Hp):V->G1->Prop where
 |non:TyOf K H .non (.type "NoneType")
 |bl (x:T5):TyOf K H (.bl x) (.type "bool")
 |int (i:D3):TyOf K H (.int i) (.type "int")
 |str (x:Str):TyOf K H (.str x) (.type "str")
 |flt (x:UInt64):TyOf K H (.flt x) (.type "float")
 |lst {a:G9} {xs:G0 V} (e:H a=some (.lst xs)):TyOf K H (.ref a) (.type "list")
 |frz {a:G9} {o:Obj} {xs:G0 V} (e:H a=some (.frz o (.lst xs))):TyOf K H (.ref a) (.type "list")
 |tup {a:G9} {xs:G0 V} (e:H a=some (.tup xs)):TyOf K H (.ref a) (.type "tuple")
 |dK {a:G9} {kvs:G0 (Key×V)} (e:H a=some (.dK kvs)):TyOf K H (.ref a) (.type "dict")
 |dT {a:G9} {kvs:G0 (G0 Key×V)} (e:H a=some (.dT kvs)):TyOf K H (.ref a) (.type "dict")
 |ins {a C dx:G9} {fs:G0 (Str×V)} (e:H a=some (.ins C dx fs)) (cl:Cls K C) (ha:tY K (.ref C) "__class__" =some (some (.builtin "object.__class__")))
  (hn:G0p K (.builtin "object.__class__") "__get__" =some (some (.builtin "getset_descriptor.__get__"))) (htk:G0E K (.builtin "object.__class__")=some true)
  (hm:G0U K C (.type "object")=some true):TyOf K H (.ref a) (.ref C)
theorem QZ {x:V}{u t:G1}(I:Inv X pins σ H s)(rx:RelV x u)(ty:TyOf X.K H x t)(e:kO X.K t c=some b)(h: ∀tk,Q (.bool b) {s with toks:=tk}):
 R3 (R7 X.prog X.w) A (call (.builtin "isinstance") [u,c]) Q E s:=by
 cases ty with
 |non=>cases (show u=f6 from rx);exact U6 G0q I.kIn eI e (λz=>nomatch z) h
 |bl y=>cases (show u=iK y from rx);exact U6 G0r I.kIn eI e (λz=>nomatch z) h
 |int i=>obtain⟨t,q⟩:=(show ∃t,u=dJ i t from rx);cases q;exact U6 G0w I.kIn eI e (λz=>nomatch z) h
 |str y=>obtain⟨t,q⟩:=(show ∃t,u=mM y t from rx);cases q;exact U6 G0x I.kIn eI e (λz=>nomatch z) h
 |flt y=>obtain⟨t,q⟩:=(show ∃t,u=IK y t from rx);cases q;exact U6 KS I.kIn eI e (λz=>nomatch z) h
 | @lst a xs ea=>
  cases (show u=dL a from rx);obtain⟨_,_,n,_,h1⟩:=(show ObjOk X.prog X.w H s.heap a (.lst xs) from I.hok a _ ea);exact U6 qI I.kIn ⟨_,h1,rfl⟩ e (λz=>nomatch z) h
 | @frz a ob xs ea=>
  cases (show u=dL a from rx);obtain⟨_,_,_,n,_,h1⟩:=(show ObjOk X.prog X.w H s.heap a (.frz ob (.lst xs)) from I.hok a _ ea);exact U6 qI I.kIn ⟨_,h1,rfl⟩ e (λz=>nomatch z) h
 | @tup a xs ea=>
  cases (show u=dL a from rx);obtain⟨_,_,_,p⟩:=(show ObjOk X.prog X.w H s.heap a (.tup xs) from I.hok a _ ea);obtain⟨o,h1,h2,_⟩:=p;exact U6 KT I.kIn ⟨o,h1,h2⟩ e (λz=>nomatch z) h
 | @dK a kvs ea=>
  cases (show u=dL a from rx);obtain⟨_,_,vs,_,p⟩:=(show ObjOk X.prog X.w H s.heap a (.dK kvs) from I.hok a _ ea);obtain⟨o,es,ep,h1,h2,_⟩:=p;exact U6 qJ I.kIn ⟨o,h1,h2.1⟩ e (λz=>nomatch z) h
 | @dT a kvs ea=>
  cases (show u=dL a from rx);obtain⟨_,_,xs,_,o,es,ep,h1,h2,_⟩:=(show ObjOk X.prog X.w H s.heap a (.dT kvs) from I.hok a _ ea);exact U6 qJ I.kIn ⟨o,h1,h2.1⟩ e (λz=>nomatch z) h
 | @ins a C dx fs ea cl ha hn htk hm=>
  cases (show u=dL a from rx);obtain⟨mA,O,_⟩:=Bh I.hok ea;obtain⟨od,J,_⟩:=O.look;exact U6 (G0y (cl.get _) cl.hd ha hn htk hm) I.kIn J e (λz=>nomatch z) h
end
structure Room (k:G7)(A:T3):Prop where
 hd:A.handled=none
 dp:A.depth+3*k+5<recursionLimit
 un:A.units+16*k+200<cLine
 gd:A.guards=some []
variable {k:G7}
theorem Room.mono {j:G7}(r:Room k A)(h:j<=k):Room j A:=⟨r.hd,by have:=r.dp;omega,by have:=r.un;omega,r.gd⟩
theorem Room.deeper (r:Room (k+1) A)(env:Env):Room k (A.deeper env):=
 ⟨r.hd,by have:=r.dp;show A.depth+1+3*k+5<_;omega,by have:=r.un;show A.units+3+16*k+200<_;omega,r.gd⟩
theorem Room.depth (r:Room k A):A.depth<recursionLimit:=by have:=r.dp;omega
theorem Room.units (r:Room k A):A.units+64<cLine:=by have:=r.un;omega
def Ev:TA:=λ_ H Q=>Q [] H
def Rj (ta:TE)(tr:TA):TA:=λσ H Q=>ta σ H λx H1=>tr σ H1 λxs H2=>Q (x::xs) H2
section
variable {X:Cx}{e:N0}{es:G0 N0}{te:TE}{t:TA}{pos:Pos}
theorem pa_nil:PA X [] Ev:=λ_ _ _ _ H Q I h=>lO ⟨[],H,I,.nil,h⟩
theorem zA (ha:PE X e te)(hr:PA X es t)(hs:D7 (e::es) X.env=(false,J0 e X.env)::D7 es X.env:=by rfl):PA X (e::es) (Rj te t):=by
 intro pos pins s σ H Q I h;rw [hs];show R3 _ _ (spliced ((false,J0 e X.env)::K7 pos (D7 es X.env))) _ _ s;refine kP (thn (ha pins s σ H _ I h) λu s1 ⟨x,H1,I1,r1,q1⟩=> ?_);exact thn (hr pos pins s1 σ H1 _ I1 q1) λus s2 ⟨xs,H2,I2,r2,q2⟩=>⟨x::xs,H2,I2,.cons r1 r2,q2⟩
def Tf (t:TA):TE:=λσ H Q=>t σ H λxs H1=>xs.length<=sizeLine/\ ∀p,H1 p=none->Q (.ref p) (upd H1 p (.tup xs))
def Tg (t:TA):TE:=λσ H Q=>t σ H λxs H1=>xs.length<=sizeLine/\ ∀p,H1 p=none->Q (.ref p) (upd H1 p (.lst xs))
theorem Lq {x1}(h:PA X es t):PE X (.Tuple es x1 pos) (Tf t):=by
 intro pins s σ H Q I hq;refine wpAny_Tuple_spliced (thn (h pos pins s σ H _ I hq) λus s1 ⟨xs,H1,I1,r,z,q⟩=>⟨by rw [<-r.length];exact z,?_⟩);have hf:H1 s1.heap.objs.size=none:=I1.hok.fresh (P3 _);refine⟨.ref s1.heap.objs.size,upd H1 s1.heap.objs.size (.tup xs),I1.laid (t':=s1.toks) (λb u e=>G3 _ e) (P3 _) ?_,rfl,q _ hf⟩;exact⟨z,us,r,IsTupN.new _ _⟩
theorem Lr (h:PA X es t):PE X (.List es pos) (Tg t):=by
 intro pins s σ H Q I hq;refine wpAny_List_spliced (thn (h pos pins s σ H _ I hq) λus s1 ⟨xs,H1,I1,r,z,q⟩=>⟨by rw [<-r.length];exact z,?_⟩);have hf:H1 s1.heap.objs.size=none:=I1.hok.fresh (P3 _);refine⟨.ref s1.heap.objs.size,upd H1 s1.heap.objs.size (.lst xs),I1.laid (t':=s1.toks) (λb u e=>G3 _ e) (P3 _) ?_,rfl,q _ hf⟩;exact⟨z,us,0,r,R1 _ rfl⟩
end
abbrev Sp:=G0 V->Hp->VK->XK->Prop
abbrev CXT:=G0 Env->Hp->G2->XK->G1->G2->Prop
structure Env0 (P:R9)(w:N4)(K:G5)(mg:Str->P4 G1)(base:B6)(A:T3)(outer:G0 Env)(s:G2)(H:Hp):Prop where
 frames:A.frames=some outer
 mod:Mod K mg base
 bs: ∀b o,base.get? b=some o->s.heap.get? b=some o/\H b=none
 bsz:base.objs.size<=s.heap.objs.size
 funs:s.heap.FunFrames base outer
 frf: ∀b∈frs outer,H b=none
 hok:HOk P w H s.heap
 bare:j7 s.gens
def CE (outer:G0 Env)(P:R9)(w:N4)(H:Hp)(s:G2)(Q:VK)(u:G1)(s':G2):Prop:=
 ∃v H',s'.os=s.os/\j7 s'.gens/\Un (frs outer) [] H H' s.heap s'.heap/\HOk P w H' s'.heap/\RelV v u/\Q v H'
def CR (CX:CXT)(outer:G0 Env)(P:R9)(w:N4)(H:Hp)(s:G2)(Q:VK)(E:XK)(r:oH)(s':G2):Prop:=
 match r with
 | .ok (.ret u)=>CE outer P w H s Q u s'
 | .ok _=>False
 | .error e=>CX outer H s E e s'
structure FnOk (P:R9)(w:N4)(K:G5)(mg:Str->P4 G1)(base:B6)(CX:CXT)(k:G7)(f:G9)(fd:N5)(ps:G0 Str)(sp:Sp):Prop where
 len: ∀vs H Q E,sp vs H Q E->vs.length=ps.length
 run: ∀ (A:T3) (outer:G0 Env) (s:G2) (H:Hp) (args:Args) (us:G0 G1) (vs:G0 V) (Q:VK) (E:XK),Room k A->Env0 P w K mg base A outer s H->o8 s fd args (ps.zip us)->Vals vs us->sp vs H Q E->
  bX (R7 P w) A (.call (.ref f) args) (CR CX outer P w H s Q E) s
section
variable {X:Cx}{pins:G0 (G9×Obj)}{σ:St}{H:Hp}{s s':G2}
theorem Inv.env0 (I:Inv X pins σ H s):Env0 X.prog X.w X.K X.mg X.base X.A X.stack s H:=
 ⟨I.ok.frames,I.ok.mod,I.bs,S0 I.ok.bsz I.sz,I.stack,I.stkFree,I.hok,I.bare⟩
theorem Inv.after {Q:VK}{u:G1}(I:Inv X pins σ H s)(h:CE X.stack X.prog X.w H s Q u s'):EP X pins σ Q u s':=by
 obtain⟨v,H',os,bare,un,hok,r,q⟩:=h;obtain⟨hh,g,d,t,os'⟩:=s';obtain rfl:os'=s.os:=os;exact⟨v,H',I.call (h':=hh) (g':=g) (d':=d) (t':=t) (ch:= []) un hok bare (λb z=>absurd z (by simp)),r,q⟩
end
def Bi (sp:Sp)(dvs:G0 V)(E:XK)(t:TA):TE:=λσ H Q=>t σ H λvs H1=>sp (vs++dvs) H1 Q E
def Binds (K:G5)(fd:N5)(ps:G0 Str)(ds:G0 G1):Prop:=
 ∀ (s:G2) (us:G0 G1),K.In s.heap->(us++ds).length=ps.length->o8 s fd ⟨us,[]⟩ (ps.zip (us++ds))
theorem Binds.all {fd:N5}{ps:G0 Str}(h: ∀us:G0 G1,us.length=ps.length->tZ fd ⟨us,[]⟩=pure (ps.zip us)):Binds K fd ps []:=λs us _ hl=>by
 rw [O6] at hl ⊢;exact .of_eq (h us hl)
def JJ (CX:CXT)(X:Cx)(E:XK):Prop:= ∀ (pins:G0 (G9×Obj)) (σ:St) (H:Hp) (s:G2) (e:G1) (s':G2),Inv X pins σ H s->CX X.stack H s E e s'->X.xe e s'
section
variable {X:Cx}{CX:CXT}{k:G7}{f C:G9}{fd:N5}{ps:G0 Str}{sp:Sp}{dvs:G0 V}{ds:G0 G1}{E:XK}{x m:Str}{p pos apos:Pos}{e o:N0}{es:G0 N0}{ta:TE}{t:TA}
theorem Lt {pins:G0 (G9×Obj)}{σ:St}{H:Hp}{s:G2}{Q:VK}{us:G0 G1}{vs:G0 V}(F:FnOk X.prog X.w X.K X.mg X.base CX k f fd ps sp)(hr:Room k X.A)(hb:Binds X.K fd ps ds)(hd:Vals dvs ds)(hx:JJ CX X E)
 (I:Inv X pins σ H s)(r:Vals vs us)(h:sp (vs++dvs) H Q E):R3 (R7 X.prog X.w) X.A (call (.ref f) us) (EP X pins σ Q) X.xe s:=by
 have r2:Vals (vs++dvs) (us++ds):=r.append hd;have hl:(us++ds).length=ps.length:=by rw [<-r2.length];exact F.len _ _ _ _ h
 refine aY (bY (F.run X.A X.stack s H ⟨us,[]⟩ (us++ds) (vs++dvs) Q E hr I.env0 (hb s us I.kIn hl) r2 h) λr s' hq=> ?_);cases r with
 |error e=>exact hx pins σ H s e s' I hq
 |ok fl=>
  cases fl with
  |ret u=>exact I.after hq
  |next=>exact False.elim hq
  |brk=>exact False.elim hq
  |cont=>exact False.elim hq
theorem Ga (F:FnOk X.prog X.w X.K X.mg X.base CX k f fd ps sp)(hr:Room k X.A)(hg:Gl X x)(hm:X.mg x=some (.ref f))(hk:Q4 X.K (.ref f)=true)(hb:Binds X.K fd ps ds)(hd:Vals dvs ds)(hx:JJ CX X E)
 (ha:PA X (e::es) t)(hdb:(x==("__debug__" :Str))=false:=by decide)(he:D7 (e::es) X.env=(false,J0 e X.env)::D7 es X.env:=by rfl)(hpl:(K7 pos (D7 es X.env)).any (·.1)=false:=by rfl):
 PE X (.Call (.Name x p) (e::es) [] pos) (Bi sp dvs E t):=by
 intro pins s σ H Q I h;refine aZ (vM I hg hm ?_ hdb);refine kQ (h₀:=X.base) I.ok.mod.kin hk (thn (ha pos pins s σ H _ I h) λus s1 ⟨vs,H1,I1,r,q⟩=>⟨I1.kIn,?_⟩) he hpl;exact Lt F hr hb hd hx I1 r q
end
structure FnScope (N P:G0 Str)(sc:Q1):Prop where
 kind:sc.kind= .function
 co:sc.isCoroutine=false
 gen:sc.isGenerator=false
 nd:N.Nodup
 pre:N.take P.length=P
 par: ∀x∈P,sc.names.lookup x=some .local\/sc.names.lookup x=some .cell
 nofree: ∀y∈sc.names,y.2≠ .free
variable {kindOf:Str->P4 NameKind}{x:Str}
theorem Ys: ∀ {binds:G0 (Str×G1)} {m:Str->P4 G1},(∀v,(x,v) ∉ binds)->r8 kindOf binds m x=m x
 | [],_,_=>rfl
 |(n,v)::r,m,h=>by
  unfold r8;rw [Ys λw hw=>h w (D1 _ hw)];split
  ·have:x≠n:=by rintro rfl;exact h v P7
   simp [this]
  ·rfl
theorem Yt: ∀ {binds:G0 (Str×G1)} {m:Str->P4 G1},(∀v,(x,v) ∉ binds)->r9 kindOf binds m x=m x
 | [],_,_=>rfl
 |(n,v)::r,m,h=>by
  unfold r9;rw [Yt λw hw=>h w (D1 _ hw)];split
  ·rfl
  ·have:x≠n:=by rintro rfl;exact h v P7
   simp [this]
theorem JK {v:G1}: ∀ {P:G0 Str} {vs:G0 G1} {i:G7} {m:Str->P4 G1},P.Nodup->P[i]? =some x->vs[i]? =some v->kindOf x=some .local->
 r8 kindOf (P.zip vs) m x=some v
 | [],_,_,_,_,h,_,_=>by simp at h
 |_::_,[],_,_,_,_,h,_=>by simp at h
 |p::P,w::vs,0,m,nd,h1,h2,hk=>by
  simp at h1 h2;subst h1;subst h2;show r8 kindOf ((p,w)::P.zip vs) m p=_;unfold r8;rw [Ys λv hv=>(E6.mp nd).1 (dD hv).1,R6 hk];simp
 |p::P,w::vs,i+1,m,nd,h1,h2,hk=>by
  show r8 kindOf ((p,w)::P.zip vs) m x=_;unfold r8;exact JK (i:=i) (E6.mp nd).2 (by simpa using h1) (by simpa using h2) hk
theorem JL {v:G1}: ∀ {P:G0 Str} {vs:G0 G1} {i:G7} {m:Str->P4 G1},P.Nodup->P[i]? =some x->vs[i]? =some v->kindOf x≠some .local->
 r9 kindOf (P.zip vs) m x=some v
 | [],_,_,_,_,h,_,_=>by simp at h
 |_::_,[],_,_,_,_,h,_=>by simp at h
 |p::P,w::vs,0,m,nd,h1,h2,hk=>by
  simp at h1 h2;subst h1;subst h2;show r9 kindOf ((p,w)::P.zip vs) m p=_;unfold r9;rw [Yt λv hv=>(E6.mp nd).1 (dD hv).1,R8 hk];simp
 |p::P,w::vs,i+1,m,nd,h1,h2,hk=>by
  show r9 kindOf ((p,w)::P.zip vs) m x=_;unfold r9;exact JL (i:=i) (E6.mp nd).2 (by simpa using h1) (by simpa using h2) hk
def start (N:G0 Str)(vs:G0 V):St:=vs.map some++N9 (N.length-vs.length) none
def ZN (CX:CXT)(P:R9)(w:N4)(K:G5)(mg:Str->P4 G1)(base:B6)(N:G0 Str)(qual:Str)(scope:Q1)(f:G9)(cd:G1)(A:T3)(outer:G0 Env)(s:G2)(H:Hp)(E:XK):Cx where
 prog:=P
 w:=w
 K:=K
 mg:=mg
 base:=base
 A:=A.deeper (Q7 qual scope s.heap.objs.size f cd)
 N:=N
 s₀:=s
 H₀:=H
 env:=Q7 qual scope s.heap.objs.size f cd
 outer:=outer
 stack:=Q7 qual scope s.heap.objs.size f cd::outer
 ex:= []
 calm:=true
 fn:=λ_=>true
 pn:= []
 xe:=λe s'=>R3 (R7 P w) (A.deeper (Q7 qual scope s.heap.objs.size f cd)) (qK (Q7 qual scope s.heap.objs.size f cd) e) (λ_ s''=>CX outer H s E e s'') (λe' s''=>CX outer H s E e' s'') s'
theorem yr {sc:Q1}{n:G7}(h:sc.names.lookup x=some .cell): ∃c,(V0 n sc.names []).lookup x=some c:=by
 have q:=cW sc.names n [] (.inl h);exact W0.mp q
theorem Yu {CX:CXT}{mg:Str->P4 G1}{base:B6}{N ps:G0 Str}{qual:Str}{scope:Q1}{f:G9}{cd:G1}{outer:G0 Env}{s1:G2}{E:XK}{us:G0 G1}{vs:G0 V}
 (S:FnScope N ps scope)(hd:A.handled=none)(e0:Env0 P w K mg base A outer s H)(hl:vs.length=ps.length)(r:Vals vs us)
 (x:InCallC s s.heap.objs.size (r8 (Q7 qual scope s.heap.objs.size f cd).kindOf (ps.zip us) λ_=>none) (V0 (s.heap.objs.size+1) scope.names []) (r9 (Q7 qual scope s.heap.objs.size f cd).kindOf (ps.zip us) λ_=>none) s1):
 Inv (ZN CX P w K mg base N qual scope f cd A outer s H E) [] (start N vs) H s1:=by
 have hpl:ps.length<=N.length:=by have:=congrArg iU S.pre;rw [M5] at this;omega
 obtain⟨h1,tk,rfl,hk⟩:=x.done;have noA: ∀b:G9,b ∉ (ZN CX P w K mg base N qual scope f cd A outer s H E).ex:=λb z=>absurd (show b∈([]:G0 G9) from z) (by simp)
 refine⟨⟨e0.mod,S.kind,rfl,rfl,P3 _,λy z c h1 h2=> ?_,λy hy=> ?_,λy c _ h=> ?_,λ_=>hd,iV e0.frames,.inr ⟨rfl,rfl⟩,λb z=>absurd z (noA b),e0.bs,e0.bsz,λb _ _=>noA b,λb z=>absurd z (noA b),e0.funs,e0.frf⟩,
  rfl,e0.bare,Un.kept hk,⟨_,x.toInCall.ns,λi y v h1 h2 h3=> ?_⟩,λy c h=>⟨_,x.cell y c h⟩,e0.hok.fresh (P3 _),λy c h=> ?_,λp hp=>absurd (show p∈([]:G0 (G9×Obj)) from hp) (by simp),e0.hok.kept hk,?_⟩
 ·exact qL x.apart (K0 h1) (K0 h2)
 ·have hy:scope.names.lookup y=some .cell\/scope.names.lookup y=some .free:=hy;rcases hy with hy|hy
  ·exact yr hy
  ·exact absurd rfl (S.nofree _ (K0 hy))
 ·exact T4 (x.above y c (K0 h))
 ·have hi:i<vs.length:=by
   unfold start at h2
   by_cases hi:i<vs.length
   ·exact hi
   ·rw [N3 (by simpa using hi)] at h2;rw [gE] at h2;split at h2<;>cases h2
  have ha:vs[i]? =some v:=by
   unfold start at h2;rw [B8 (by simpa using hi),D9] at h2;cases e:vs[i]? with
   |none=>rw [e] at h2;cases h2
   |some a=>rw [e] at h2;cases h2;rfl
  obtain⟨u,hu,rv⟩:=r.get ha;have hp:ps[i]? =some y:=by
   rw [<-S.pre,Z5 (by omega)];exact h1
  have ndP:ps.Nodup:=by rw [<-S.pre];exact S.nd.sublist (aG _ _)
  refine⟨u,rv,?_⟩;rcases S.par y (P6 hp) with k|k
  ·exact .inl ⟨k,JK ndP hp hu k⟩
  ·obtain⟨c,e⟩:=yr (n:=s.heap.objs.size+1) k;refine .inr ⟨.inl k,c,e,?_⟩;have q:=x.cell y c e;rw [JL ndP hp hu (by show scope.names.lookup y≠_;rw [k];decide)] at q;exact q
 ·exact e0.hok.fresh (T4 (x.above y c (K0 h)))
 ·unfold start;show _=N.length;rw [P8,G6,nZ];omega
theorem Bj {CX:CXT}{mg:Str->P4 G1}{base:B6}{f:G9}{name qual:Str}{params:o9}{body:G0 K8}{scope:Q1}{dV kV doc pm cdv ct oc:G1}{an od:P4 G9}{osl:S6 (P4 G1)}{N ps:G0 Str}{sp:Sp}(lk:K.lookup f=some ⟨oc,od,.func (Z6 name qual params body scope dV kV doc pm an cdv ct),osl⟩)(hcd:gQ K cdv qual=true)(S:FnScope N ps scope)
 (len: ∀vs H Q E,sp vs H Q E->vs.length=ps.length)
 (hbody: ∀ (A:T3) (outer:G0 Env) (s:G2) (H:Hp) (vs:G0 V) (Q:VK) (E:XK),Room k (A.deeper (Q7 qual scope s.heap.objs.size f cdv))->sp vs H Q E->
  ∃t,PSs (ZN CX P w K mg base N qual scope f cdv A outer s H E) body t/\t {nx:=λ_ H'=>Q .non H',rt:=Q} (start N vs) H):
 FnOk P w K mg base CX (k+1) f (Z6 name qual params body scope dV kV doc pm an cdv ct) ps sp:=by
 refine⟨len,λA outer s H args us vs Q E hr e0 hb r hsp=> ?_⟩;have hl:=len _ _ _ _ hsp;have KX:K.In s.heap:=e0.mod.kin.keeps λb o e=>(e0.bs b o e).1
 have lim:s.heap.NoLimit:=e0.mod.nolimit.keeps λb o e=>(e0.bs b o e).1
 have hkind: ∀y∈ps.zip us,scope.names.lookup y.1=some .local\/(scope.names.lookup y.1=some .cell/\((V0 (s.heap.objs.size+1) scope.names []).lookup y.1).isSome=true):=λ⟨n,v⟩ hy=>by
  rcases S.par n (dD hy).1 with q|q
  ·exact .inl q
  ·exact .inr ⟨q,cW _ _ _ (.inl q)⟩
 refine iH hr.depth (KX _ _ lk) rfl S.co S.gen rfl (kT KX hcd) (hb _ _ _ _ ?_);refine eJ S.kind hkind λenv he s1 x=> ?_
 subst he;refine⟨lim.keeps x.toInCall.keep,qM ?_⟩;obtain⟨t,ht,hq⟩:=hbody A outer s H vs Q E (hr.deeper _) hsp;have I:Inv (ZN CX P w K mg base N qual scope f cdv A outer s H E) [] (start N vs) H s1:=Yu S hr.hd e0 hl r x;refine B1 (ht [] s1 (start N vs) H _ I hq) (λfl s' hs=> ?_) λe s' hs=>hs
 have fin: ∀ {σ':St} {H':Hp} {v:V} {u:G1},Inv (ZN CX P w K mg base N qual scope f cdv A outer s H E) [] σ' H' s'->RelV v u->Q v H'->CE outer P w H s Q u s':=
  λ{σ' H' v u} J rv q=>⟨v,H',J.os,J.bare,J.base,J.hok,rv,q⟩
 cases fl with
 |ret u=>
  obtain⟨v,σ',H',J,rv,q⟩:=hs;exact fin J rv q
 |next=>
  obtain⟨σ',H',J,q⟩:=hs;exact fin (v:=V.non) (u:=f6) J rfl q
 |brk=>
  obtain⟨_,_,_,q⟩:=hs;exact False.elim q
 |cont=>
  obtain⟨_,_,_,q⟩:=hs;exact False.elim q
section
variable {X:Cx}{x:Str}{p pos:Pos}{e:N0}{es:G0 N0}{t:TA}{id T:U2}{r:G0 V->Hp->VK->Prop}
def tCB (r:G0 V->Hp->VK->Prop)(t:TA):TE:=λσ H Q=>t σ H λvs H1=>r vs H1 Q
theorem yt (hc:CallR X (.builtin id) r)(hg:Gl X x)(hm:X.mg x=none)(hv:U8 x=some (.builtin id))(ha:PA X (e::es) t)(hn:x≠ "__name__" :=by decide)(hdb:(x==("__debug__" :Str))=false:=by decide)
 (he:D7 (e::es) X.env=(false,J0 e X.env)::D7 es X.env:=by rfl)(hpl:(K7 pos (D7 es X.env)).any (·.1)=false:=by rfl):PE X (.Call (.Name x p) (e::es) [] pos) (tCB r t):=by
 intro pins s σ H Q I h;refine aZ (ZY I hg hm hv ?_ hn hdb);exact rG (thn (ha pos pins s σ H _ I h) λus s1 ⟨vs,H1,I1,r1,q1⟩=>hc pins s1 σ H1 vs us Q I1 r1 q1) he hpl
theorem JM (hc:CallR X (.type T) r)(hg:Gl X x)(hm:X.mg x=none)(hv:U8 x=some (.type T))(ha:PA X (e::es) t)(hn:x≠ "__name__" :=by decide)(hdb:(x==("__debug__" :Str))=false:=by decide)
 (he:D7 (e::es) X.env=(false,J0 e X.env)::D7 es X.env:=by rfl)(hpl:(K7 pos (D7 es X.env)).any (·.1)=false:=by rfl):PE X (.Call (.Name x p) (e::es) [] pos) (tCB r t):=by
 intro pins s σ H Q I h;refine aZ (ZY I hg hm hv ?_ hn hdb);exact aQ (thn (ha pos pins s σ H _ I h) λus s1 ⟨vs,H1,I1,r1,q1⟩=>hc pins s1 σ H1 vs us Q I1 r1 q1) he hpl
end
end L2
namespace HT
open PySem PyProof.Rows
def ju:G0 D3->G0 D3->T5
 | [],[]=>false
 | [],_::_=>true
 |_::_,[]=>false
 |x::xs,y::ys=>if x=y then ju xs ys else decide (x<y)
theorem vO (x y:D3)(xs ys:G0 D3):ju (x::xs) (y::ys)=if x=y then ju xs ys else decide (x<y):=rfl
theorem WD:ju [] []=false:=rfl
theorem ZO (y:D3)(ys:G0 D3):ju [] (y::ys)=true:=rfl
theorem ZP (x:D3)(xs:G0 D3):ju (x::xs) []=false:=rfl
theorem Uy (A:T3)(s:G2)(a:D3)(t:Tok)(c:D3)(u:Tok): ∃e,SeqAt.EqAt A s (.int a t) (.int c u) e/\(e=true↔a=c):=
 ⟨(a==c),SeqAt.EqAt.int_int a t c u,by simp⟩
theorem Rk (A:T3)(s:G2)(a:D3)(t:Tok)(c:D3)(u:Tok)(prog:R9)(w:N4)(E:G1->G2->Prop)(Q:G1->G2->Prop)(h:Q (.bool (decide (a<c))) s):
 R3 (R7 prog w) A (gF .Lt (.int a t) (.int c u)) Q E s:=
 (j5 h:R3 (R7 prog w) A (L7 .Lt (.int a t) (.int c u)) Q E s)
section
open PySem.SeqAt
open PySem.AutoSeq1 (wpAny_loadPart')
open PySem.MeetsSeq PySem.MeetsSeq2 PySem.MeetsSeq3
theorem vj (l b:G9)(items items2:S6 G1)(n n2:G7)(dd dd2:P4 G9)(sl sl2:S6 (P4 G1))(ns ms:G0 D3)(hi:W9 items.toList ns)(hj:W9 items2.toList ms):
 G0s (Builtin.«tuple.__lt__» ⟨[.ref l,.ref b],[]⟩)
  (λ_ R s=>s.heap.get? l=some {cls:= .type "tuple",dict:=dd,data:= .seq items n,slots:=sl}/\s.heap.get? b=some {cls:= .type "tuple",dict:=dd2,data:= .seq items2 n2,slots:=sl2}/\
   R (.ok (.ret (.bool (ju ns ms)))) s):=
 .of_wp λprog w A R s h=>by
  obtain⟨hp,g,d,tk,os⟩:=s;obtain⟨hl,hb,h⟩:=h;have f2:=mG;have z1:items.size=ns.length:=by rw [<-hi.length];simp
  have z2:items2.size=ms.length:=by rw [<-hj.length];simp
  wp_walk using wpAny_loadPart' hl,wpAny_loadPart' hb,rH _ (λrest b s'=>b.1=none/\s'=⟨hp,g,d,tk,os⟩/\ ∃ (vs ws:G0 G1) (ns' ms':G0 D3),rest=vs.zip ws/\
   W9 vs ns'/\W9 ws ms'/\ns'.length+items2.size=ms'.length+items.size/\R (.ok (.ret (.bool (ju ns' ms')))) ⟨hp,g,d,tk,os⟩) _
  case turn=>
   rintro ⟨y,x⟩ rest b s' ⟨hb',rfl,vs,ws,ns',ms',hz,hvi,hwi,hlen,hR⟩;cases hvi with
   |nil=>rw [lQ] at hz;cases hz
   |cons a t hvi'=>
    cases hwi with
    |nil=>rw [pW] at hz;cases hz
    |cons c u hwi'=>
     rw [W5] at hz;injection hz with hyx hrest
     injection hyx with hy hx
     subst hy hx;rw [vO] at hR;simp only [D8] at hlen;obtain⟨e,he,hiff⟩:=Uy A.in1 ⟨hp,g,d,tk,os⟩ a t c u;refine wpAny_bind (he prog w _ _ ?_);cases e with
     |true=>
      rw [R6 (hiff.mp rfl)] at hR
      wp_walk
      exact⟨rfl,rfl,_,_,_,_,hrest,hvi',hwi',by omega,hR⟩
     |false=>
      rw [R8 (λq=>absurd (hiff.mpr q) S5)] at hR;have hri:=Rk A.in1 ⟨hp,g,d,tk,os⟩ a t c u prog w
      wp_walk using hri
      exact⟨_,rfl,by simpa using hR⟩
  case fin=>
   rintro ⟨b1,b2⟩ s' ⟨hb',rfl,vs,ws,ns',ms',hz,hvi,hwi,hlen,hR⟩;simp only at hb';subst hb';have hv:ju ns' ms'=decide (items.size<items2.size):=by
    cases hvi with
    |nil=>
     cases hwi with
     |nil=>
      simp only [C0] at hlen;rw [WD];exact(N6 (by omega)).symm
     |cons c u hw=>
      simp only [C0,D8] at hlen;rw [ZO];exact(M8 (by omega)).symm
    |cons a t hv=>
     cases hwi with
     |nil=>
      simp only [C0,D8] at hlen;rw [ZP];exact(N6 (by omega)).symm
     |cons c u hw=>
      rw [W5] at hz;cases hz
   rw [hv] at hR
   wp_walk
   exact⟨_,rfl,by simpa [iF] using hR⟩
  case h=>
   exact⟨rfl,rfl,items.toList,items2.toList,ns,ms,rfl,hi,hj,by omega,h⟩
end
section
variable {prog:R9}{w:N4}{A:T3}{E:G1->G2->Prop}{s:G2}
theorem XA {l b:G9}{items items2:S6 G1}{ns ms:G0 D3}{Q:G1->G2->Prop}(hl:rZ s.heap l items)(hb:rZ s.heap b items2)(hi:W9 items.toList ns)(hj:W9 items2.toList ms)
 (hu:A.units<cLine)(h:Q (.bool (ju ns ms)) s):R3 (R7 prog w) A (L7 .Lt (.ref l) (.ref b)) Q E s:=by
 obtain⟨⟨cls,dd,data,sl⟩,ho,hc,n,hd⟩:=id hl;obtain⟨⟨cls2,dd2,IP,sl2⟩,ho2,hc2,n2,hd2⟩:=id hb;simp only at hc hd hc2 hd2;subst hc hd hc2 hd2;exact gR (op:= .Lt) ⟨_,ho,rfl⟩ ⟨_,ho2,rfl⟩ dN gV (gG _ _) (vj l b items items2 n n2 dd dd2 sl sl2 ns ms hi hj)
  ⟨ho,ho2,show iK (ju ns ms)≠Value.notImplemented/\Q (.bool (ju ns ms)) s from ⟨(λx=>nomatch x),h⟩⟩ hu
theorem Bk {t b:G9}{vs ws:G0 G1}{Q:G1->G2->Prop}(ht:rZ s.heap t vs.toArray)(hb:rZ s.heap b ws.toArray)(hv:vs≠ [])
 (h1:ws= []->Q (.ref t) s)(h2:ws≠ []->Q (.ref s.heap.objs.size) {s with heap:=s.heap.push {cls:= .type "tuple",data:= .seq (vs++ws).toArray}})
 (hsz:vs.length+ws.length<=sizeLine):R3 (R7 prog w) A (V9 .Add (.ref t) (.ref b)) Q E s:=by
 obtain⟨⟨cls,dd,data,sl⟩,ho,hc,n,hd⟩:=id ht;obtain⟨⟨cls2,dd2,IP,sl2⟩,ho2,hc2,n2,hd2⟩:=id hb;simp only at hc hd hc2 hd2;subst hc hd hc2 hd2;have e:vs.toArray++ws.toArray=(vs++ws).toArray:=by simp
 by_cases hw:ws= []
 ·exact qN ⟨_,ho,rfl⟩ ⟨_,ho2,rfl⟩ mN pL gW gH (fM _ _)
   (tuple_addW1 t b vs.toArray ws.toArray n n2 dd dd2 sl sl2 (by simpa using hv) (by simp [hw])) ⟨ho,ho2,h1 hw⟩
 ·refine qN ⟨_,ho,rfl⟩ ⟨_,ho2,rfl⟩ mN pL gW gH (fM _ _)
   (tuple_addW2 t b vs.toArray ws.toArray n n2 dd dd2 sl sl2 (by simpa using hv) (by simpa using hw) (by rw [R5,R5];exact hsz)) ⟨ho,ho2,?_⟩
  rw [e];exact h2 hw
def sIx (n d:G7):P4 D3->G7
 |none=>d
 |some v=>if v<0 then (v+(n:D3)).toNat else min v.toNat n
theorem Lu (n d:G7)(hd:d<=n)(o:P4 D3):sIx n d o<=n:=by
 cases o with
 |none=>exact hd
 |some v=>
  show (if v<0 then (v+(n:D3)).toNat else min v.toNat n)<=n
  by_cases hv:v<0
  ·rw [R6 hv];omega
  ·rw [R8 hv];exact eO _ _
theorem Gb (v:D3)(n d:G7):(if v<0 then max (v+(n:D3)) 0 else min v (n:D3))=((sIx n d (some v):G7):D3):=by
 show (if v<0 then max (v+(n:D3)) 0 else min v (n:D3))=(((if v<0 then (v+(n:D3)).toNat else min v.toNat n):G7):D3)
 by_cases hv:v<0
 ·simp only [R6 hv];omega
 ·simp only [R8 hv];omega
theorem XB (lo hi:P4 D3)(n:G7):e9 lo hi 1 (n:D3)=(((sIx n 0 lo:G7):D3),((sIx n n hi:G7):D3)):=by
 have h1: ¬ ((1:D3)<0):=by omega
 unfold e9;simp only [h1,oI];refine Prod.ext ?_ ?_
 ·cases lo with
  |none=>rfl
  |some v=>exact Gb v n 0
 ·cases hi with
  |none=>rfl
  |some v=>exact Gb v n n
theorem XC (i j:G7):bO (i:D3) (j:D3) 1=j-i:=by
 unfold bO;have h1:(1:D3)>0:=by omega
 simp only [h1,fX,Int.ediv_one];split<;>omega
theorem ZZ {v:G1}{o:P4 D3}{Q:P4 D3->G2->Prop}(p:m7 v o)(h:Q o s):R3 (R7 prog w) A (sL v) Q E s:=by
 cases p with
 |none=>exact t8 h
 |int i t=>exact slicePart_int h
theorem wU {sl:G9}{vl vu:G1}{lo hi:P4 D3}{n:G7}{Q:D3×D3×G7->G2->Prop}(hs:s.heap.IsSliceOf sl vl vu .none)(pl:m7 vl lo)(pu:m7 vu hi)
 (h:Q (((sIx n 0 lo:G7):D3),1,sIx n n hi-sIx n 0 lo) s):R3 (R7 prog w) A (kU (.ref sl) (pure (n:D3))) Q E s:=by
 obtain⟨os,hos,hcs,hds⟩:=id hs;unfold kU u6;refine wpAny_bind (wpAny_bind (oJ hos hds (x:=vl) rfl (wpAny_bind (oJ hos hds (x:=vu) rfl (wpAny_bind (oJ hos hds (x:= .none) rfl (G8 ?_)))))));refine wpAny_bind (t8 ?_);show R3 _ _ (if ((1:D3)==0)=true then _ else _) _ _ s;rw [R8 (by decide)];refine wpAny_bind (ZZ pl (wpAny_bind (ZZ pu (wpAny_bind (G8 ?_)))));show R3 _ _ (match e9 lo hi 1 (n:D3) with|(lo,hi)=>pure (lo,(1:D3),bO lo hi 1)) _ _ s;rw [XB lo hi n];show R3 _ _ (pure (((sIx n 0 lo:G7):D3),(1:D3),bO ((sIx n 0 lo:G7):D3) ((sIx n n hi:G7):D3) 1)) _ _ s;rw [XC];exact G8 h
theorem Rl (xs:S6 G1)(i k:G7):((R4 k).filterMap λ(m:G7)=>xs[((i:D3)+(m:D3)*1).toNat]?).toArray=((xs.toList.drop i).take k).toArray:=by
 have e:(λ(m:G7)=>xs[((i:D3)+(m:D3)*1).toNat]?)=λm=>xs[i+m]? :=by
  funext m
  have:((i:D3)+(m:D3)*1).toNat=i+m:=by omega
  rw [this]
 rw [e];have:=pick_run xs i k;rw [List.filterMap_map] at this;have e2:((λx=>xs[x]?)∘λx=>i+x)=λm=>xs[i+m]? :=rfl
 rw [e2] at this;rw [this]
theorem vP {t sl:G9}{items:S6 G1}{vl vu:G1}{lo hi:P4 D3}{Q:G1->G2->Prop}(ht:rZ s.heap t items)(hs:s.heap.IsSliceOf sl vl vu .none)(pl:m7 vl lo)(pu:m7 vu hi)
 (hw: ¬ (sIx items.size 0 lo=0/\sIx items.size items.size hi=items.size))
 (h:Q (.ref s.heap.objs.size) {s with heap:=s.heap.push {cls:= .type "tuple",data:= .seq ((items.toList.drop (sIx items.size 0 lo)).take (sIx items.size items.size hi-sIx items.size 0 lo)).toArray}})
 (hsz:items.size<=sizeLine):R3 (R7 prog w) A (pA (.ref t) (.ref sl)) Q E s:=by
 have htake:sizeOk (.seq ((items.toList.drop (sIx items.size 0 lo)).take (sIx items.size items.size hi-sIx items.size 0 lo)).toArray):=by
  show ((items.toList.drop (sIx items.size 0 lo)).take (sIx items.size items.size hi-sIx items.size 0 lo)).toArray.size<=sizeLine;rw [R5,M5,F9,D0];omega
 have hj:sIx items.size items.size hi<=items.size:=Lu _ _ (P3 _) hi;obtain⟨os,hos,hcs,hds⟩:=id hs;have hTs:s.TypeIs (.ref sl) "slice" :=⟨os,hos,hcs⟩;unfold pA
 try with_reducible refine L5 ?_
 first|refine wpAny_bind (G8 ?_)|skip
 refine wpAny_bind (qO ht.typeIs (by decide) ?_);refine wpAny_bind (E4 (name:=eQ "__getitem__") ht.typeIs X9
  (E7 X9 ht.typeIs pF ?_ (pX _ _)))
 show R3 _ _ (kW (.ref t) >>= _) _ _ s;refine wpAny_bind (v7 ht ?_);refine wpAny_bind (m8 hTs ?_);rw [R6 (by decide)];refine wpAny_bind (wU hs pl pu ?_);have hno: ¬ ((((sIx items.size 0 lo:G7):D3)==0&&(1:D3)==1&&(sIx items.size items.size hi-sIx items.size 0 lo)==items.size)=true):=by
  intro q;rw [H0,H0] at q;have q1:((sIx items.size 0 lo:G7):D3)=0:=eq_of_beq q.1.1;have q2:sIx items.size items.size hi-sIx items.size 0 lo=items.size:=eq_of_beq q.2;exact hw ⟨by omega,by omega⟩
 show R3 _ _ (if (((sIx items.size 0 lo:G7):D3)==0&&(1:D3)==1&&(sIx items.size items.size hi-sIx items.size 0 lo)==items.size)=true then _ else _) _ _ s;rw [R8 hno,Rl]
 first
  |exact wpAny_bind (m:=cL _) (aF (G8 ⟨_,rfl,G8 h⟩) htake)
  |exact wpAny_bind (m:=cL _) (aF (wpAny_bind (G8 (G8 ⟨_,rfl,G8 h⟩))) htake)
  |exact wpAny_bind (wpAny_bind (m:=cL _) (aF (G8 (G8 ⟨_,rfl,G8 h⟩)) htake))
  |exact wpAny_bind (wpAny_bind (m:=cL _) (aF (G8 ⟨_,rfl,G8 h⟩) htake))
end
end HT
namespace L2
open PySem PySem.Spec PyProof.Rows
abbrev TO:=St->Hp->(P4 D3->Hp->Prop)->Prop
def PO (X:Cx)(e:P4 N0)(t:TO):Prop:=
 ∀ (pins:G0 (G9×Obj)) (s:G2) (σ:St) (H:Hp) (Q:P4 D3->Hp->Prop),Inv X pins σ H s->t σ H Q->
  R3 (R7 X.prog X.w) X.A (evalPart e X.env) (λu s'=> ∃o H',Inv X pins σ H' s'/\m7 u o/\Q o H') X.xe s
def Ew (t:TE):TO:=λσ H Q=>t σ H λx H1=> ∃i,x= .int i/\Q (some i) H1
section
variable {X:Cx}{e:N0}{te:TE}{lo hi:P4 N0}{tl th:TO}{pos p2:Pos}
theorem Bl (h:PE X e te):PO X (some e) (Ew te):=by
 intro pins s σ H Q I hw;rw [evalPart_some];refine thn (h pins s σ H _ I hw) λu s1 ⟨x,H1,I1,r1,q1⟩=> ?_
 obtain⟨i,rfl,q⟩:=q1;obtain⟨t,rfl⟩:=r1;exact⟨some i,H1,I1,.int i t,q⟩
def SlR (X:Cx)(r:V->P4 D3->P4 D3->Hp->VK->Prop):Prop:=
 ∀ (pins:G0 (G9×Obj)) (s:G2) (σ:St) (H:Hp) (x:V) (v vl vu:G1) (lo hi:P4 D3) (sl:G9) (Q:VK),Inv X pins σ H s->RelV x v->s.heap.IsSliceOf sl vl vu .none->m7 vl lo->m7 vu hi->r x lo hi H Q->
  ∃T id,typeLookup (.type T) "__getitem__" =pure (some (.builtin id))/\s.TypeIs v T/\R3 (R7 X.prog X.w) X.A (pA v (.ref sl)) (EP X pins σ Q) X.xe s
theorem SlR.or {r r':V->P4 D3->P4 D3->Hp->VK->Prop}(h:SlR X r)(h':SlR X r'):SlR X (λx lo hi H Q=>r x lo hi H Q\/r' x lo hi H Q):=by
 intro pins s σ H x v vl vu lo hi sl Q I rx hs pl pu q;rcases q with q|q
 ·exact h pins s σ H x v vl vu lo hi sl Q I rx hs pl pu q
 ·exact h' pins s σ H x v vl vu lo hi sl Q I rx hs pl pu q
def tSl (r:V->P4 D3->P4 D3->Hp->VK->Prop)(te:TE)(tl th:TO):TE:=λσ H Q=>te σ H λx H1=>tl σ H1 λl H2=>th σ H2 λu H3=>r x l u H3 Q
theorem Rm {r:V->P4 D3->P4 D3->Hp->VK->Prop}(hr:SlR X r)(he:PE X e te)(hl:PO X lo tl)(hu:PO X hi th):PE X (.Subscript e (.Slice lo hi none p2) pos) (tSl r te tl th):=by
 intro pins s σ H Q I h;refine KU (thn (he pins s σ H _ I h) λv s1 ⟨x,H1,I1,r1,q1⟩=> ?_);refine wpAny_Slice (thn (hl pins s1 σ H1 _ I1 q1) λvl s2 ⟨l,H2,I2,pl,q2⟩=>thn (hu pins s2 σ H2 _ I2 q2) λvu s3 ⟨u,H3,I3,pu,q3⟩=> ?_);rw [evalPart_none];refine G8 ?_;have I4:Inv X pins σ H3 {s3 with heap:=s3.heap.push {cls:= .type "slice",data:= .fields #[vl,vu,.none]}}:=I3.kept (t':=s3.toks) λb ob q=>G3 _ q
 obtain⟨T,id,hT,ht,hg⟩:=hr pins {s3 with heap:=s3.heap.push {cls:= .type "slice",data:= .fields #[vl,vu,.none]}} σ H3 x v vl vu l u s3.heap.objs.size Q I4 r1 (Heap.IsSliceOf.new ..) pl pu q3;show R3 (R7 X.prog X.w) X.A (v8 e (.Slice lo hi none p2) v (.ref s3.heap.objs.size)) (EP X pins σ Q) X.xe {s3 with heap:=s3.heap.push {cls:= .type "slice",data:= .fields #[vl,vu,.none]}};exact tail_any (ops:= [.ref s3.heap.objs.size,v]) ht hT hg (by with_unfolding_all rfl)
def DZ (xs:G0 V)(lo hi:P4 D3):G0 V:=(xs.drop (HT.sIx xs.length 0 lo)).take (HT.sIx xs.length xs.length hi-HT.sIx xs.length 0 lo)
theorem JN (xs:G0 V)(lo hi:P4 D3):(DZ xs lo hi).length<=xs.length:=by
 unfold DZ;rw [M5,F9];omega
def TU (K:G5):V->P4 D3->P4 D3->Hp->VK->Prop:=λx lo hi H Q=> ∃a xs,x= .ref a/\SqT K H a xs/\
 ¬ (HT.sIx xs.length 0 lo=0/\HT.sIx xs.length xs.length hi=xs.length)/\ ∀p,H p=none->Q (.ref p) (upd H p (.tup (DZ xs lo hi)))
theorem sl_tup:SlR X (TU X.K):=by
 intro pins s σ H x v vl vu lo hi sl Q I rx hs pl pu h;obtain⟨a,xs,rfl,hx,hw,q⟩:=h;cases rx;obtain⟨its,r,ht,hz⟩:=I.tuple hx;have hlen:its.toArray.size=xs.length:=by rw [R5];exact r.length.symm
 refine⟨"tuple",_,PyProof.Rows.slot_tuple_getitem.lookup,ht.typeIs,?_⟩;refine HT.vP ht hs pl pu (by rw [hlen];exact hw) ?_ (by rw [hlen];exact hz);rw [hlen];refine⟨.ref s.heap.objs.size,_,I.laid (t':=s.toks) (o:= .tup (DZ xs lo hi)) (λb ob q=>G3 _ q) (P3 _) ?_,rfl,q _ (I.hok.fresh (P3 _))⟩;exact⟨S0 (JN xs lo hi) hz,_,(r.drop (HT.sIx xs.length 0 lo)).take (HT.sIx xs.length xs.length hi-HT.sIx xs.length 0 lo),IsTupN.new _ _⟩
def Ey (K:G5):R2:=λx y H Q=> ∃a b xs ys,x= .ref a/\y= .ref b/\SqT K H a xs/\SqT K H b ys/\xs≠ []/\xs.length+ys.length<=sizeLine/\
 (ys= []->Q (.ref a) H)/\(ys≠ []-> ∀p,H p=none->Q (.ref p) (upd H p (.tup (xs++ys))))
theorem Vals.nil_iff {xs:G0 V}{us:G0 G1}(r:Vals xs us):us= []↔xs= []:=by
 cases r with
 |nil=>simp
 |cons _ _=>simp
theorem op_catT:OpR X (V9 .Add) (Ey X.K):=by
 intro pins s σ H x y v u Q I rx ry h;obtain⟨a,b,xs,ys,rfl,rfl,ha,hb,hx,hz,q1,q2⟩:=h;cases rx;cases ry;obtain⟨its,r1,p1,_⟩:=I.tuple ha;obtain⟨its2,r2,p2,_⟩:=I.tuple hb;refine HT.Bk p1 p2 (λz=>hx (r1.nil_iff.mp z)) (λz=>⟨.ref a,H,I,rfl,q1 (r2.nil_iff.mp z)⟩) (λz=> ?_) (by rw [<-r1.length,<-r2.length];exact hz);refine⟨.ref s.heap.objs.size,_,I.laid (t':=s.toks) (o:= .tup (xs++ys)) (λb ob q=>G3 _ q) (P3 _) ?_,rfl,q2 (λw=>z (r2.nil_iff.mpr w)) _ (I.hok.fresh (P3 _))⟩;exact⟨by rw [P8];exact hz,_,r1.append r2,IsTupN.new _ _⟩
end
def ixN (n:G7)(i:D3):P4 G7:=if 0<=i then (if i<n then some i.toNat else none) else if-(n:D3)<=i then some (i+n).toNat else none
def atI {α:Type}(xs:G0 α)(i:D3):P4 α:=(ixN xs.length i).bind λj=>xs[j]?
theorem Gc {n:G7}{i:D3}{j:G7}(h:ixN n i=some j):seqIndex? i n=some j/\j<n/\ -(n:D3)<=i/\i<n:=by
 unfold ixN at h
 by_cases h0:0<=i
 ·rw [R6 h0] at h
  by_cases h1:i<n
  ·rw [R6 h1] at h;have e:i.toNat=j:=O5 h;exact⟨by rw [sC h0 h1,e],by omega,by omega,h1⟩
  ·rw [R8 h1] at h;cases h
 ·rw [R8 h0] at h
  by_cases h1: -(n:D3)<=i
  ·rw [R6 h1] at h;have e:(i+n).toNat=j:=O5 h;exact⟨by rw [qP (by omega) h1,e],by omega,h1,by omega⟩
  ·rw [R8 h1] at h;cases h
theorem VH {α:Type}{xs:G0 α}{i:D3}{v:α}(h:atI xs i=some v): ∃j,seqIndex? i xs.length=some j/\xs[j]? =some v/\j<xs.length/\ -(xs.length:D3)<=i/\i<xs.length:=by
 unfold atI at h;cases e:ixN xs.length i with
 |none=>rw [e] at h;cases h
 |some j=>
  rw [e] at h;obtain⟨h1,h2,h3,h4⟩:=Gc e;exact⟨j,h1,h,h2,h3,h4⟩
theorem wu {α:Type}{xs:G0 α}{j:G7}{v:α}(h:xs[j]? =some v):atI xs (j:D3)=some v:=by
 have hj:j<xs.length:=(P5.mp h).1;have e:ixN xs.length (j:D3)=some j:=by
  unfold ixN;rw [R6 (by omega),R6 (by omega)];simp
 unfold atI;rw [e];exact h
def WE (b:N0):Prop:= ∀o i,IQ b false o i=operate [o,i] (pA o i)
def IxR (X:Cx)(r:R2):Prop:=
 ∀ (value slice:N0) (pins:G0 (G9×Obj)) (s:G2) (σ:St) (H:Hp) (x y:V) (v u:G1) (Q:VK),Inv X pins σ H s->RelV x v->RelV y u->r x y H Q->
  IQ slice false v u=operate [v,u] (pA v u)->R3 (R7 X.prog X.w) X.A (v8 value slice v u) (EP X pins σ Q) X.xe s
def MtR (X:Cx)(id:U2)(r:V->G0 V->Hp->VK->Prop):Prop:=
 ∀ (pins:G0 (G9×Obj)) (s:G2) (σ:St) (H:Hp) (x:V) (xs:G0 V) (v:G1) (us:G0 G1) (Q:VK),Inv X pins σ H s->RelV x v->Vals xs us->r x xs H Q->
  R3 (R7 X.prog X.w) X.A (call (.builtin id) (v::us)) (EP X pins σ Q) X.xe s
section
variable {X:Cx}{a b:N0}{ta tb:TE}{pos:Pos}
theorem IxR.or {r r':R2}(h:IxR X r)(h':IxR X r'):IxR X (λx y H Q=>r x y H Q\/r' x y H Q):=by
 intro value slice pins s σ H x y v u Q I rx ry q hs;rcases q with q|q
 ·exact h value slice pins s σ H x y v u Q I rx ry q hs
 ·exact h' value slice pins s σ H x y v u Q I rx ry q hs
theorem Ez {r:R2}(hr:IxR X r)(ha:PE X a ta)(hb:PE X b tb)(hs:WE b):PE X (.Subscript a b pos) (tOp r ta tb):=by
 intro pins s σ H Q I h;exact KU (Eo ha hb I h λv u s2 x y H2 I2 rx ry q=>hr a b pins s2 σ H2 x y v u Q I2 rx ry q (hs _ _))
def Th (K:G5):R2:=λx y H Q=> ∃p xs i v,x= .ref p/\y= .int i/\SqL K H p xs/\atI xs i=some v/\Q v H
def Ti (K:G5):R2:=λx y H Q=> ∃p xs i v,x= .ref p/\y= .int i/\SqT K H p xs/\atI xs i=some v/\Q v H
def Tj:R2:=λx y H Q=> ∃z i c,x= .str z/\y= .int i/\z.length<=sizeLine/\atI z.cps.toList i=some c/\Q (.str ⟨#[c]⟩) H
theorem ix_list:IxR X (Th X.K):=by
 intro value slice pins s σ H x y v u Q I rx ry h hs;obtain⟨p,xs,i,z,rfl,rfl,hq,he,q⟩:=h;cases rx;obtain⟨t,rfl⟩:=ry;obtain⟨its,r,pl,hz⟩:=I.list hq;obtain⟨j,h1,h2,h3,h4,h5⟩:=VH he;obtain⟨w,ew,rw'⟩:=r.get h2;have hl:=r.length;have hn:=Yr;have fin:EP X pins σ Q w s:=⟨z,H,I,rw',q⟩
 by_cases h0:0<=i
 ·have hj:i.toNat=j:=by
   rw [sC h0 h5] at h1;exact O5 h1
  exact item_listR pl.isList h0 (by omega) (by rw [hj];simpa using ew) fin hs
 ·have hj:(i+(its.toArray.size:D3)).toNat=j:=by
   rw [qP (by omega) h4] at h1;rw [R5,<-hl];exact O5 h1
  exact m9 (x:=w) pl.isList.typeIs slot_list_getitem.lookup
   (wpAny_getItem_list_neg (Q:=λr s'=>r=w/\EP X pins σ Q r s') pl.isList (by omega) (by rw [R5]<;>omega) (by omega) (by rw [hj];simpa using ew) ⟨rfl,fin⟩) hs
theorem ix_tup:IxR X (Ti X.K):=by
 intro value slice pins s σ H x y v u Q I rx ry h hs;obtain⟨p,xs,i,z,rfl,rfl,hq,he,q⟩:=h;cases rx;obtain⟨t,rfl⟩:=ry;obtain⟨its,r,pl,hz⟩:=I.tuple hq;obtain⟨j,h1,h2,h3,h4,h5⟩:=VH he;obtain⟨w,ew,rw'⟩:=r.get h2;have hl:=r.length;have hn:=Yr;have fin:EP X pins σ Q w s:=⟨z,H,I,rw',q⟩;exact m9 (x:=w) pl.typeIs slot_tuple_getitem.lookup
  (getItem_tuple (j:=j) (Q:=λr s'=>r=w/\EP X pins σ Q r s') pl (by omega) (by omega) (by rw [R5,<-hl];exact h1) (by simpa using ew) ⟨rfl,fin⟩) hs
theorem Lv:IxR X Tj:=by
 intro value slice pins s σ H x y v u Q I rx ry h hs;obtain⟨z,i,c,rfl,rfl,hz,he,q⟩:=h;obtain⟨t,rfl⟩:=rx;obtain⟨t',rfl⟩:=ry;obtain⟨j,h1,h2,h3,h4,h5⟩:=VH he;have hl:z.cps.toList.length=z.length:=by simp [Str.length]
 rw [hl] at h1 h4 h5;have hn:=Yr;exact tail_any (KW s z t) slot_str_getitem.lookup (getItem_str (c:=c) (by
  have e1:decide (i< -(2^63:D3))=false:=N6 (by omega);have e2:decide (i>=2^63)=false:=N6 (by omega);rw [e1,e2,v9]) (by rw [h1];simpa using h2) ⟨.str ⟨#[c]⟩,H,I.tok _,⟨_,rfl⟩,q⟩) hs
def rIx (K:G5):R2:=λx y H Q=>Th K x y H Q\/Ti K x y H Q\/Tj x y H Q
theorem Lw:IxR X (rIx X.K):=ix_list.or (ix_tup.or Lv)
theorem XD (its:G0 G1)(n j:G7)(u:G1):V5 (·.setIfInBounds j u) {cls:= .type "list",data:= .seq its.toArray n}= {cls:= .type "list",data:= .seq (its.set j u).toArray n}:=by
 simp [V5]
theorem Inv.lst {pins:G0 (G9×Obj)}{σ:St}{H:Hp}{s:G2}{p:G9}{xs:G0 V}(I:Inv X pins σ H s)(h:H p=some (.lst xs)):
 ∃ (its:G0 G1) (n:G7),Vals xs its/\s.heap.get? p=some {cls:= .type "list",data:= .seq its.toArray n}/\xs.length<=sizeLine:=by
 obtain⟨z,its,n,r,e⟩:=I.hok p _ h;exact⟨its,n,r,e,z⟩
theorem Inv.lstUpd {pins:G0 (G9×Obj)}{σ:St}{H:Hp}{s:G2}{p:G9}{xs ys:G0 V}{its its':G0 G1}{n n':G7}{f:Obj->Obj}(I:Inv X pins σ H s)(h:H p=some (.lst xs))
 (ho:s.heap.get? p=some {cls:= .type "list",data:= .seq its.toArray n})(hf:f {cls:= .type "list",data:= .seq its.toArray n}= {cls:= .type "list",data:= .seq its'.toArray n'})(r:Vals ys its')(hz:ys.length<=sizeLine)(t:G7):
 Inv X pins σ (upd H p (.lst ys)) {s with heap:=s.heap.update p f,toks:=t}:=by
 have e:(s.heap.update p f).get? p=some {cls:= .type "list",data:= .seq its'.toArray n'}:=by
  rw [B2 f ho (by rw [hf]<;>rfl),hf]
 refine I.write (x:=p) (e:=p) (by rw [h];trivial) (.inl rfl) (λb u hb q=>(nB _ _ (U9 hb)).trans q) ⟨_,e⟩ ?_;exact⟨hz,its',n',r,e⟩
def EA:V->V->V->Hp->(Hp->Prop)->Prop:=λo i v H Q=> ∃p xs k j,o= .ref p/\i= .int k/\H p=some (.lst xs)/\ixN xs.length k=some j/\Q (upd H p (.lst (xs.set j v)))
theorem Rn:SY X EA:=by
 intro pins s σ H o i v ov iv u Q I ro ri rv h;obtain⟨p,xs,k,j,rfl,rfl,hp,hj,q⟩:=h;cases ro;obtain⟨t,rfl⟩:=ri;obtain⟨its,n,r,ho,hz⟩:=I.lst hp;obtain⟨h1,h2,h3,h4⟩:=Gc hj;have hl:=r.length;have hn:=Yr;have I':Inv X pins σ (upd H p (.lst (xs.set j v))) {s with heap:=s.heap.update p (V5 (·.setIfInBounds j u))}:=
  I.lstUpd hp ho (XD its n j u) (r.set rv j) (by rw [List.length_set];exact hz) s.toks
 by_cases h0:0<=k
 ·have hk:k.toNat=j:=by
   rw [sC h0 h4] at h1;exact O5 h1
  exact G0z ho h0 (by omega) (by rw [R5,<-hl];exact h4) (by rw [hk];exact⟨_,I',q⟩)
 ·have hk:(k+(its.toArray.size:D3)).toNat=j:=by
   rw [qP (by omega) h3] at h1;rw [R5,<-hl];exact O5 h1
  exact KY ho (by omega) (by rw [R5,<-hl];exact h3) (by omega) (by rw [hk];exact⟨_,I',q⟩)
theorem Yv (lo hi:P4 D3)(n:G7):(gI lo hi none n).1=((HT.sIx n 0 lo:G7):D3)/\(gI lo hi none n).2.1=((HT.sIx n n hi:G7):D3)/\(gI lo hi none n).2.2=1:=by
 refine⟨?_,?_,rfl⟩
 ·cases lo with
  |none=>simp [gI,HT.sIx]
  |some i=>
   simp only [gI,HT.sIx,rJ,show (1:D3)>0 by decide,fX]
   by_cases h:i<0
   ·simp only [h,fX]<;>omega
   ·simp only [h,oI]<;>omega
 ·cases hi with
  |none=>simp [gI,HT.sIx]
  |some i=>
   simp only [gI,HT.sIx,rJ,show (1:D3)>0 by decide,fX]
   by_cases h:i<0
   ·simp only [h,fX]<;>omega
   ·simp only [h,oI]<;>omega
theorem WF (its:G0 G1)(lo hi:P4 D3):slicePick its.toArray lo hi none=((its.drop (HT.sIx its.length 0 lo)).take (HT.sIx its.length its.length hi-HT.sIx its.length 0 lo)).toArray:=by
 obtain⟨h1,h2,h3⟩:=Yv lo hi its.toArray.size;unfold slicePick;rw [h1,h2,h3];simp only [sliceRange_one,pick_run,R5]<;>rfl
def TV (K:G5):V->P4 D3->P4 D3->Hp->VK->Prop:=λx lo hi H Q=> ∃a xs,x= .ref a/\SqL K H a xs/\ ∀p,H p=none->Q (.ref p) (upd H p (.lst (DZ xs lo hi)))
theorem Bn:SlR X (TV X.K):=by
 intro pins s σ H x v vl vu lo hi sl Q I rx hs pl pu h;obtain⟨a,xs,rfl,hx,q⟩:=h;cases rx;obtain⟨its,r,ht,hz⟩:=I.list hx;have hlen:=r.length;refine⟨"list",_,slot_list_getitem.lookup,ht.isList.typeIs,?_⟩;refine wpAny_getItem_list_slice ht.isList hs pl pu .none (by simp) ?_ (by rw [R5]<;>omega);rw [WF,<-hlen];refine⟨.ref s.heap.objs.size,_,I.laid (t':=s.toks) (o:= .lst (DZ xs lo hi)) (λb ob q=>G3 _ q) (P3 _) ?_,rfl,q _ (I.hok.fresh (P3 _))⟩;exact⟨S0 (JN xs lo hi) hz,_,0,(r.drop (HT.sIx xs.length 0 lo)).take (HT.sIx xs.length xs.length hi-HT.sIx xs.length 0 lo),R1 _ rfl⟩
theorem call_len_seq:CallR X (.builtin "len") (λxs H Q=> ∃p ys,xs= [.ref p]/\(SqL X.K H p ys\/SqT X.K H p ys)/\Q (.int ys.length) H):=by
 intro pins s σ H xs us Q I r h;obtain⟨p,ys,rfl,hq,q⟩:=h;obtain⟨u,rfl,rx⟩:=yb r;cases rx;have hn:=Yr;rcases hq with hq|hq
 ·obtain⟨its,r',pl,hz⟩:=I.list hq;have hlen:=r'.length;exact Calls.call_len_list pl.isList (by simp only [R5]<;>omega) ⟨.int ys.length,H,I.tok _,⟨s.toks+1,by rw [R5,hlen]⟩,q⟩
 ·obtain⟨its,r',pl,hz⟩:=I.tuple hq;have hlen:=r'.length;exact len_tuple pl (by simp only [R5]<;>omega) ⟨.int ys.length,H,I.tok _,⟨s.toks+1,by rw [R5,hlen]⟩,q⟩
theorem call_tuple_of:CallR X (.type "tuple") (λxs H Q=> ∃p ys,xs= [.ref p]/\((SqL X.K H p ys/\ ∀l,H l=none->Q (.ref l) (upd H l (.tup ys)))\/(SqT X.K H p ys/\Q (.ref p) H))):=by
 intro pins s σ H xs us Q I r h;obtain⟨p,ys,rfl,h⟩:=h;obtain⟨u,rfl,rx⟩:=yb r;cases rx;rcases h with ⟨hq,q⟩|⟨hq,q⟩
 ·obtain⟨its,r',pl,hz⟩:=I.list hq;have hlen:=r'.length;refine call_tuple_list pl.isList (λh' kp=> ?_) (by simp only [R5]<;>omega);have I1:Inv X pins σ H {s with heap:=h'}:=I.kept (t':=s.toks) kp;have I2:Inv X pins σ (upd H h'.objs.size (.tup ys)) {s with heap:=h'.push {cls:= .type "tuple",data:= .seq its.toArray}}:=
   I1.laid (t':=s.toks) (λb o e=>G3 _ e) (P3 _) (show ObjOk X.prog X.w _ _ _ (.tup ys) from ⟨hz,its,r',IsTupN.new _ _⟩)
  exact⟨.ref h'.objs.size,_,I2,rfl,q _ (I1.hok.fresh (P3 _))⟩
 ·obtain⟨its,r',pl,hz⟩:=I.tuple hq;exact call_tuple_same pl ⟨.ref p,H,I,rfl,q⟩
def tyV (K:G5)(T:U2)(x:V)(H:Hp):Prop:=match x with
 | .str _=>T= "str"
 | .int _=>T= "int"
 | .ref p=>(T= "list" /\ ∃xs,SqL K H p xs)\/(T= "tuple" /\ ∃o,K.lookup p=some o/\o.cls= .type "tuple" /\o.dict=none)\/
  (T= "dict" /\((∃kvs,H p=some (.dK kvs))\/ ∃kvs,H p=some (.dT kvs)))\/(T= "set" /\ ∃S n,H p=some (.set S n))
 |_=>False
theorem Nh {pins:G0 (G9×Obj)}{σ:St}{H:Hp}{s:G2}{T:U2}{x:V}{v:G1}(I:Inv X pins σ H s)(r:RelV x v)(ty:tyV X.K T x H):
 s.TypeIs v T/\ ∀a,v= .ref a-> ∃ob,s.heap.get? a=some ob/\ob.dict=none:=by
 cases x with
 |str z=>
  obtain⟨t,rfl⟩:=r;cases (show T= "str" from ty);exact⟨KW s z t,λ_ e=>nomatch e⟩
 |int i=>
  obtain⟨t,rfl⟩:=r;cases (show T= "int" from ty);exact⟨nC s i t,λ_ e=>nomatch e⟩
 |ref p=>
  cases r;rcases ty with ⟨rfl,xs,hq⟩|⟨rfl,o,hk,hc,hd⟩|⟨rfl,hk⟩|⟨rfl,S,n,hk⟩
  ·obtain⟨its,_,pl,_⟩:=I.list hq;refine⟨pl.isList.typeIs,λa e=> ?_⟩;cases e;obtain⟨o,n,e,c,hd,_⟩:=pl;exact⟨o,e,hd⟩
  ·refine⟨⟨o,I.kIn p o hk,hc⟩,λa e=> ?_⟩;cases e;exact⟨o,I.kIn _ o hk,hd⟩
  ·have z: ∃o,s.heap.get? p=some o/\o.ExactDict:=by
    rcases hk with ⟨kvs,hk⟩|⟨kvs,hk⟩
    ·obtain⟨_,_,_,_,o,_,_,e,ex,_⟩:=I.hok p _ hk;exact⟨o,e,ex⟩
    ·obtain⟨_,_,_,_,o,_,_,e,ex,_⟩:=I.hok p _ hk;exact⟨o,e,ex⟩
   obtain⟨o,e,ex⟩:=z;refine⟨⟨o,e,ex.1⟩,λa e2=> ?_⟩;cases e2;exact⟨o,e,ex.2.1⟩
  ·obtain⟨o,_,_,_,e,ex,_⟩:=I.hok p _ hk;refine⟨⟨o,e,ex.1⟩,λa e2=> ?_⟩;cases e2;exact⟨o,e,ex.2.1⟩
 |_=>exact False.elim ty
def TW (K:G5)(T:U2)(r:V->G0 V->Hp->VK->Prop)(to:TE):TE:=λσ H Q=>to σ H λx H1=>tyV K T x H1/\r x [] H1 Q
def tBM (K:G5)(T:U2)(r:V->G0 V->Hp->VK->Prop)(to:TE)(t:TA):TE:=λσ H Q=>to σ H λx H1=>tyV K T x H1/\t σ H1 λxs H2=>r x xs H2 Q
variable {o e:N0}{es:G0 N0}{to:TE}{t:TA}{name:Str}{apos cpos:Pos}{T id:U2}{r:V->G0 V->Hp->VK->Prop}
theorem Ly (pa:KZ T)(slot:Slot T name id)(hty:y6 (.builtin id)=pure (.type "method_descriptor"))(hm:MtR X id r)(ho:PE X o to)
 (hbase:aU o name X.env (J0 o X.env)=J0 o X.env:=by rfl)(hline:(apos.endLine==cpos.line)=true:=by rfl):PE X (.Call (.Attribute o name apos) [] [] cpos) (TW X.K T r to):=by
 intro pins s σ H Q I h;refine wpAny_Call_method0_late hbase hline (thn (ho pins s σ H _ I h) λv s1 ⟨x,H1,I1,r1,ty,q1⟩=> ?_);obtain⟨h1,h2⟩:=Nh I1 r1 ty;exact⟨T,id,pa,slot,hty,h1,h2,nD rfl (PySem.evalArgs_none (hm pins s1 σ H1 x [] v [] Q I1 r1 .nil q1))⟩
theorem Ro (pa:KZ T)(slot:Slot T name id)(hty:y6 (.builtin id)=pure (.type "method_descriptor"))(hm:MtR X id r)(ho:PE X o to)(ha:PA X (e::es) t)
 (hbase:aU o name X.env (J0 o X.env)=J0 o X.env:=by rfl)
 (hfew:((K7 cpos (D7 (e::es) X.env)).all (λx=> !x.1)&&(mO cpos (gJ [] X.env)).all (λx=>x.1.isSome)
  &&decide ((e::es).length+([]:G0 eT).length+(if ([]:G0 eT).isEmpty then 0 else 1)<30))=true:=by rfl)
 (hline:(apos.endLine==cpos.line)=true:=by rfl)(hs:D7 (e::es) X.env=(false,J0 e X.env)::D7 es X.env:=by rfl)(hplain:(K7 cpos (D7 es X.env)).any (·.1)=false:=by rfl):
 PE X (.Call (.Attribute o name apos) (e::es) [] cpos) (tBM X.K T r to t):=by
 intro pins s σ H Q I h;refine wpAny_Call_method_late hbase hfew hline rfl (thn (ho pins s σ H _ I h) λv s1 ⟨x,H1,I1,r1,ty,q1⟩=> ?_);obtain⟨h1,h2⟩:=Nh I1 r1 ty;refine⟨T,id,pa,slot,hty,h1,h2,?_⟩;have hA:=ha cpos pins s1 σ H1 _ I1 q1;rw [hs] at hA ⊢;refine nD (by show (false||(K7 cpos (D7 es X.env)).any (·.1))=false;rw [hplain]<;>rfl) (oK ?_);exact thn hA λus s2 ⟨vs,H2,I2,r2,q2⟩=>hm pins s2 σ H2 x vs v us Q I2 r1 r2 q2
end
def MtM (X:Cx)(id:U2)(r:V->G0 V->Hp->VK->Prop):Prop:=
 ∀ (pins:G0 (G9×Obj)) (s:G2) (σ:St) (H:Hp) (x:V) (xs:G0 V) (v:G1) (us:G0 G1) (Q:VK),Inv X pins σ H s->RelV x v->Vals xs us->r x xs H Q->
  R3 (R7 X.prog X.w) X.A (call (.builtin id) (v::us)) (EP X pins σ Q) X.xe s
theorem Vals.one: ∀ {x:V} {us:G0 G1},Vals [x] us-> ∃u,us= [u]/\RelV x u
 |_,_,.cons r .nil=>⟨_,rfl,r⟩
theorem Vals.zero: ∀ {us:G0 G1},Vals [] us->us= []
 |_,.nil=>rfl
theorem Vals.eraseIdx: ∀ {xs:G0 V} {us:G0 G1} (i:G7),Vals xs us->Vals (xs.eraseIdx i) (us.eraseIdx i)
 |_,_,_,.nil=> .nil
 |_,_,0,.cons _ t=>t
 |_,_,i+1,.cons r t=> .cons r (Vals.eraseIdx i t)
theorem Vals.rep {xs:G0 V}{us:G0 G1}(h:Vals xs us): ∀k:G7,Vals (N9 k xs).flatten (N9 k us).flatten
 |0=> .nil
 |k+1=>by
  rw [X7,X7,bZ,bZ];exact Vals.append h (Vals.rep h k)
theorem JP (its:G0 G1): ∀ (k:G7) (acc:G0 G1),
 uA (λx1 x2=>x1++x2) acc.toArray (N9 k its.toArray)=(acc++(N9 k its).flatten).toArray
 |0,acc=>by simp
 |k+1,acc=>by
  have e:acc.toArray++its.toArray=(acc++its).toArray:=by simp
  have e2:(acc++its)++(N9 k its).flatten=acc++(N9 (k+1) its).flatten:=by
   rw [X7,bZ,D6]
  rw [<-e2,<-JP its k (acc++its),<-e,X7,nO]
section
variable {X:Cx}{pins:G0 (G9×Obj)}{σ:St}{H:Hp}{s:G2}{l b:G9}{xs ys zs:G0 V}
theorem Inv.lset {its its':G0 G1}{n:G7}{f:S6 G1->S6 G1}{t':G7}(I:Inv X pins σ H s)(hH:H l=some (.lst xs))
 (e:s.heap.get? l=some {cls:= .type "list",data:= .seq its.toArray n})(hf:f its.toArray=its'.toArray)(hv:Vals ys its')(hz:ys.length<=sizeLine):
 Inv X pins σ (upd H l (.lst ys)) {s with heap:=s.heap.update l (V5 f),toks:=t'}:=by
 have q:=PySem.IsL.update e f;rw [hf] at q;refine I.write (x:=l) (e:=l) (by rw [hH];exact trivial) (.inl rfl) (λb' u hb hu=>(nB s.heap (V5 f) (U9 hb)).trans hu) ⟨_,q⟩ ?_;exact⟨hz,its',_,hv,q⟩
theorem Inv.lnew {its:G0 G1}{t':G7}(I:Inv X pins σ H s)(hv:Vals ys its)(hz:ys.length<=sizeLine):
 Inv X pins σ (upd H s.heap.objs.size (.lst ys)) {s with heap:=s.heap.push {cls:= .type "list",data:= .seq its.toArray},toks:=t'}:=
 I.laid (λ_ _ q=>G3 _ q) (P3 _) ⟨hz,its,0,hv,R1 _ rfl⟩
theorem Inv.fresh (I:Inv X pins σ H s):H s.heap.objs.size=none:=I.hok.fresh (P3 _)
theorem Inv.lstM (I:Inv X pins σ H s)(hH:H l=some (.lst xs)):xs.length<=sizeLine/\ ∃ (its:G0 G1) (n:G7),Vals xs its/\xs.length=its.length/\s.heap.get? l=some {cls:= .type "list",data:= .seq its.toArray n}:=by
 obtain⟨z,its,n,r,e⟩:=I.hok l _ hH;exact⟨z,its,n,r,r.length,e⟩
theorem Rp {n:G7}(h:n<=sizeLine):fN n=false:=by
 unfold fN;exact N6 (by omega)
end
section
variable {X:Cx}
def Bo:V->G0 V->Hp->VK->Prop:=λx vs H Q=> ∃l xs y,x= .ref l/\vs= [y]/\H l=some (.lst xs)/\xs.length<sizeLine/\Q .non (upd H l (.lst (xs++ [y])))
theorem Gd:MtM X "list.append" Bo:=by
 intro pins s σ H x vs v us Q I rx rv h;obtain⟨l,xs,y,rfl,rfl,hH,hz,q⟩:=h;cases rx;obtain⟨u,rfl,ru⟩:=rv.one;obtain⟨z,its,n,r,hl,e⟩:=I.lstM hH;refine f8 F.slot_list_append ⟨_,e,rfl⟩ F.entry_list_append (F.args_list_append_2 _ _) (PySem.list_append l its.toArray n u (by rw [R5];omega)) ⟨e,?_⟩;refine⟨.non,_,I.lset (its':=its++ [u]) hH e (by simp) (r.append (.cons ru .nil)) ?_,rfl,q⟩;rw [P8,dO];omega
def Lz:V->G0 V->Hp->VK->Prop:=λx vs H Q=> ∃l xs,x= .ref l/\vs= []/\H l=some (.lst xs)/\Q .non (upd H l (.lst []))
theorem Rq:MtM X "list.clear" Lz:=by
 intro pins s σ H x vs v us Q I rx rv h;obtain⟨l,xs,rfl,rfl,hH,q⟩:=h;cases rx;have hus:=rv.zero;subst hus;obtain⟨z,its,n,r,hl,e⟩:=I.lstM hH;refine f8 F.slot_list_clear ⟨_,e,rfl⟩ F.entry_list_clear (F.args_list_clear_1 _) (uB l its.toArray n (by rw [R5];omega)) ⟨e,?_⟩;exact⟨.non,_,I.lset (its':= []) (ys:= []) hH e rfl .nil (M7 _),rfl,q⟩
def TY:R2:=λx y H Q=> ∃l b xs zs,x= .ref l/\y= .ref b/\H l=some (.lst xs)/\H b=some (.lst zs)/\xs.length+zs.length<=sizeLine/\ ∀p,H p=none->Q (.ref p) (upd H p (.lst (xs++zs)))
theorem LB:OpR X (V9 .Add) TY:=by
 intro pins s σ H x y v u Q I rx ry h;obtain⟨l,b,xs,zs,rfl,rfl,hH,hB,hz,q⟩:=h;cases rx;cases ry;obtain⟨z,its,n,r,hl,e⟩:=I.lstM hH;obtain⟨z2,its2,n2,r2,hl2,e2⟩:=I.lstM hB;refine PySem.P.add_list e e2 ?_ (by rw [R5,R5];omega);have ea:its.toArray++its2.toArray=(its++its2).toArray:=by simp
 rw [ea];exact⟨.ref _,_,I.lnew (t':=s.toks) (r.append r2) (by rw [P8];omega),rfl,q _ I.fresh⟩
def TZ:R2:=λx y H Q=> ∃l k xs,x= .ref l/\y= .int k/\H l=some (.lst xs)/\ -(2^63)<=k/\k<2^63/\xs.length*k.toNat<=sizeLine/\
 ∀p,H p=none->Q (.ref p) (upd H p (.lst (N9 k.toNat xs).flatten))
theorem VI {α:Type}(xs:G0 α)(k:G7):(N9 k xs).flatten.length=k*xs.length:=by
 induction k with
 |zero=>simp
 |succ k ih=>rw [X7,bZ,P8,ih,gX,Nat.add_comm]
theorem LD:OpR X (V9 .Mult) TZ:=by
 intro pins s σ H x y v u Q I rx ry h;obtain⟨l,k,xs,rfl,rfl,hH,h1,h2,hz,q⟩:=h;cases rx;obtain⟨t,rfl⟩:=ry;obtain⟨z,its,n,r,hl,e⟩:=I.lstM hH;have hlen:its.toArray.size*k.toNat<=sizeLine:=by rw [R5,<-hl];exact hz
 have hcap: ¬its.toArray.size*k.toNat>(2^63-1) / 8:=by
  have:(sizeLine:G7)<=(2^63-1) / 8:=by decide
  omega
 have hfit: ¬ (!uC k)=true:=by
  rw [fitsIndex_both h1 h2];exact S5
 have hlong: ¬fN (its.toArray.size*k.toNat)=true:=by
  rw [Rp hlen];exact S5
 have hnew:uA (λx1 x2=>x1++x2) #[] (N9 (if its.toArray.isEmpty=true then 0 else k.toNat) its.toArray)=(N9 k.toNat its).flatten.toArray:=by
  have f0: ∀m:G7,uA (λx1 x2=>x1++x2) #[] (N9 m its.toArray)=(N9 m its).flatten.toArray:=λm=>by
   have:=JP its m [];rw [L6] at this;exact this
  rw [f0];cases its with
  |nil=>simp
  |cons a r'=>rw [R8 (by simp)]
 refine lH (T:= "list") (U:= "int") (by decide) ⟨_,e,rfl⟩ (λs'=>nC s' k t) noFill_list_mul sM i6 repeat_list F.slot_int_index.lookup
  (f8 i6 (nC s k t) rK (qQ _ _) (int___rmul___int_list k t l its.toArray n)
   ⟨e,rfl,⟨_,e,rfl⟩,f8 F.slot_list_mul ⟨_,e,rfl⟩ F.entry_list_mul (F.args_list_mul_2 _ _) (AutoListH.list___mul___list_int_3 l its.toArray n k t hfit hcap hlong) ⟨e,?_⟩⟩)
 rw [hnew];exact⟨.ref _,_,I.lnew (t':=s.toks) (r.rep k.toNat) (by rw [VI,aR];exact hz),rfl,q _ I.fresh⟩
end
end L2
namespace Att
open PySem PySem.W PySem.Calls PyProof.Rows
theorem JQ {P:G0I}{h:B6}: ∀ (ns:G0 D3) (vs:G0 G1),WellAll P h vs (ns.map WData.int)->W9 vs ns:=by
 intro ns
 induction ns with
 |nil=>
  intro vs w;rw [cA] at w;cases w;exact .nil
 |cons n ns ih=>
  intro vs w;rw [C6] at w;cases w with
  |cons a b=>
   cases a;exact .cons _ _ (ih _ b)
theorem Ge {l:OpenLaw}{n:G7}(hn:l.most=some n){P:G0I}{h:B6}{args:G0 WData}{vals:G0 G1}
 (hpre:l.row.toRowW.claim.pre args=true)(hwl:WellAll P h vals args):
 ∃a vs ns,vals= [dL a]/\args= [WData.list (ns.map WData.int)]/\h.get? a=some {cls:= .type "list",data:= .seq vs.toArray}/\W9 vs ns/\ns.length<=n:=by
 have hsh:WShape.hasAll [] args [.list .int]=true:=(pre_splitW hpre).1;have hc:l.pre.holds [] {args:=args}=true:=(pre_splitW hpre).2;obtain⟨d,r,rfl,h1,h2⟩:=hasAllW_cons hsh;obtain rfl:=hasAllW_nil h2;obtain⟨xs,rfl,h3⟩:=hasW_list h1;obtain⟨ns,rfl⟩:=items_int h3;have hlen:ns.length<=n:=by
  unfold OpenLaw.pre at hc;have h4:(WTm.not (.lt (.lit (.int (n:D3))) (.len (.arg 0)))).holds [] {args:= [.list (ns.map .int)]}=true:=by
   have h4:=(holds_andW hc).1;rw [hn] at h4;exact h4
  have h5:=condW_of h4 (w_not (w_lt w_lit (w_len_list (w_arg rfl))));rw [G6] at h5;refine mQ λq=> ?_
  have q':(n:D3)<((ns.length:G7):D3):=by omega
  first
   |(rw [M8 q'] at h5;exact absurd h5 (by decide))
   |(simp at h5;omega)
 cases hwl with
 |cons w1 w2=>
  cases w2;cases w1 with
  |list ho hall=>exact⟨_,_,ns,rfl,rfl,ho,JQ ns _ hall,hlen⟩
theorem Gf (l:OpenLaw)(args:G0 WData):l.row.toRowW.claim.post args (.bool true) args=true:=
 postW_of (r:=l.row.toRowW) (X:=(true==true))
  (show WShape.has [] (.bool true) .bool=true by first|rfl|decide|simp [WShape.has,WShape.arms,WShape.armsAll])
  (show (WTm.eq .res (.lit (.bool true))).value [] {args:=args,res:=some (.bool true),after:=args}=some (.bool (true==true)) from w_eq_bool (w_res rfl) w_lit) rfl
theorem attach_call {l:OpenLaw}{n:G7}{q:R9}{loose:G0 Str}{XP:(Str->P4 G1)->B6->Prop}{YP:N4->B6->Prop}{d:DefRec}
 (hn:l.most=some n)(hdf:d.params.defaults= [])
 (call: ∀ (w:N4) (s₀ s₁:G2) (mg mb:Str->P4 G1) (fa:G9) (o:Obj) (pm cd doc:G1) (a:G9) (vs:G0 G1) (ns:G0 D3),
  Ground q loose [] XP w s₀ mg mb s₁.heap->YP w s₁.heap->
  s₁.heap.get? fa=some o->o.data= .func (docDef d.name d.params d.body d.scope pm cd doc)->s₁.heap.CodeRec cd d.name->mg d.name=some (.ref fa)->
  s₁.heap.get? a=some {cls:= .type "list",data:= .seq vs.toArray}->W9 vs ns->ns.length<=n->s₁.gens= #[]->
  bX (R7 l.prog w) pB (.call (.ref fa) ⟨[.ref a],[]⟩) (λr s'=>r= .ok (.ret (.bool true))/\OldK s₁.heap s'.heap/\s'.os=s₁.os/\j7 s'.gens) s₁):
 WalkO q loose XP YP l.row.toRowW d [] (λf vs=>G0a f vs):=by
 intro w s₀ s₁ mg mb G Y fa o pm cd doc dV kV ho hd hcd hD hmg hg args vals as hpre hlay hrd hwl hlo;obtain rfl:dV= .none:=Dflts.none hD hdf;obtain rfl:kV= .none:=Dflts.noKw hD;obtain⟨a,vs,ns,rfl,rfl,hobj,hints,hlen⟩:=Ge hn hpre hwl;refine enter_call (bY (call w s₀ s₁ mg mb fa o pm cd doc a vs ns G Y ho (fd_plain hd) hcd hmg hobj hints hlen hg) λr s' hq=> ?_);obtain⟨rfl,h2,h3,h4⟩:=hq;exact⟨.inl ⟨.bool true,.bool true,[],rfl,λ_=>rfl,.bool true,Gf l _,λ_=>⟨lR,λ_ hm=>(nomatch hm)⟩⟩,h2,h3,h4⟩
end Att
namespace L2
open PySem PySem.Spec PyProof.Rows
theorem Yw: ∀ {vs:G0 G1} {ns:G0 D3},W9 vs ns->Vals (ns.map V.int) vs
 |_,_,.nil=> .nil
 |_,_,.cons n t h=> .cons ⟨t,rfl⟩ (Yw h)
def Only (H:Hp):Prop:= ∀b,H b=none\/ ∃o xs,H b=some (.frz o (.lst xs))
def yc (s:K8):o9:=match s with
 | .FunctionDef _ a _ _ _ _ _ _ _ _=>a
 |_=> {posonlyargs:= [],args:= [],vararg:=none,kwonlyargs:= [],kw_defaults:= [],kwarg:=none,defaults:= []}
def jK (s:K8):G0 K8:=match s with
 | .FunctionDef _ _ b _ _ _ _ _ _ _=>b
 |_=> []
def jd (s:K8):Q1:=match s with
 | .FunctionDef _ _ _ _ _ _ sc _ _ _=>sc
 |_=> {kind:= .function,names:= [],isGenerator:=false,isCoroutine:=false}
abbrev CX0:CXT:=λ_ _ _ _ _ _=>False
abbrev E0:XK:=λ_ _ _=>False
variable {X:Cx}
theorem Bp:JJ CX0 X E0:=λ_ _ _ _ _ _ _ h=>h.elim
structure Fun (K:G5)(x qual:Str)(st:K8)(f:G9)(fd:N5):Prop where
 ex: ∃ (oc:G1) (od:P4 G9) (kV doc pm:G1) (an:P4 G9) (cdv ct:G1) (osl:S6 (P4 G1)),
  fd=Z6 x qual (yc st) (jK st) (jd st) .none kV doc pm an cdv ct/\K.lookup f=some ⟨oc,od,.func fd,osl⟩/\gQ K cdv qual=true
 kp:Q4 K (.ref f)=true
section
variable {P:R9}{w:N4}{K:G5}{mg:Str->P4 G1}{base:B6}
variable {qual:Str}
theorem Fun.ok {x:Str}{st:K8}{f:G9}{fd:N5}{N ps:G0 Str}{k:G7}{sp:Sp}(F:Fun K x qual st f fd)(S:FnScope N ps (jd st))(len: ∀vs H Q E,sp vs H Q E->vs.length=ps.length)
 (hbody: ∀ (cdv:G1) (A:T3) (outer:G0 Env) (s:G2) (H:Hp) (vs:G0 V) (Q:VK) (E:XK),Room k (A.deeper (Q7 qual (jd st) s.heap.objs.size f cdv))->sp vs H Q E->
  ∃t,PSs (ZN CX0 P w K mg base N qual (jd st) f cdv A outer s H E).nox (jK st) t/\t {nx:=λ_ H'=>Q .non H',rt:=Q} (start N vs) H):FnOk P w K mg base CX0 (k+1) f fd ps sp:=by
 obtain⟨oc,od,kV,doc,pm,an,cdv,ct,osl,rfl,lk,hcd⟩:=F.ex;refine Bj lk hcd S len λA outer s H vs Q E hr hsp=> ?_
 obtain⟨t,h,q⟩:=hbody cdv A outer s H vs Q E hr hsp;exact⟨t,h.nox,q⟩
theorem Fun.binds {x:Str}{st:K8}{f:G9}{fd:N5}{ps:G0 Str}(F:Fun K x qual st f fd)
 (h: ∀ (kV doc pm:G1) (an:P4 G9) (cdv ct:G1) (us:G0 G1),us.length=ps.length->tZ (Z6 x qual (yc st) (jK st) (jd st) .none kV doc pm an cdv ct) ⟨us,[]⟩=pure (ps.zip us)):Binds K fd ps []:=by
 obtain⟨oc,od,kV,doc,pm,an,cdv,ct,osl,rfl,lk,hcd⟩:=F.ex;exact .all (h kV doc pm an cdv ct)
theorem LF {x:Str}{st:K8}{f:G9}{oc:G1}{od an:P4 G9}{osl:S6 (P4 G1)}{kV doc pm cdv ct:G1}(l:K.lookup f=some ⟨oc,od,.func (Z6 x qual (yc st) (jK st) (jd st) .none kV doc pm an cdv ct),osl⟩)
 (c:gQ K cdv qual=true)(k:Q4 K (.ref f)=true):Fun K x qual st f (Z6 x qual (yc st) (jK st) (jd st) .none kV doc pm an cdv ct):=⟨⟨oc,od,kV,doc,pm,an,cdv,ct,osl,rfl,l,c⟩,k⟩
end
theorem jz {n:G7}(h:n<=1000):n<sizeLine:=Y4 h (by decide)
section
variable {X:Cx}
theorem pv (i:G7){x:Str}{pos:Pos}(hN:X.N[i]? =some x:=by rfl)(hv:Vis X.env.scope x:=by first|exact aS rfl|exact cX (aS rfl)|exact cX (cX rfl))(hd:(x==("__debug__" :Str))=false:=by decide)
 (hcd:(x==("__classdict__" :Str))=false:=by decide):PE X (.Name x pos) (Eh i):=Nb hN hv hd hcd
end
theorem Ym {A B:Prop}(h:B):if false=true then A else B:=by
 rw [R8 S5];exact h
theorem FI {A B:Prop}(h:A):if true=true then A else B:=by
 rw [R6 rfl];exact h
theorem Vz {c A B:Prop}[Decidable c](h1:c->A)(h2: ¬c->B):if c then A else B:=by
 by_cases h:c
 ·rw [R6 h];exact h1 h
 ·rw [R8 h];exact h2 h
section
variable {κ:Type}[DecidableEq κ]
def Ni (kvs:G0 (κ×V))(k:κ)(v:V):G0 (κ×V):=
 if (kvs.any λkv=>decide (kv.1=k))=true then kvs.map (λkv=>if kv.1=k then (kv.1,v) else kv) else kvs++ [(k,v)]
theorem VJ (kvs:G0 (κ×V))(k:κ)(v:V):(Ni kvs k v).length<=kvs.length+1:=by
 unfold Ni;split
 ·rw [G6];omega
 ·rw [P8,D8,C0];omega
theorem KV.any {kvs:G0 (κ×V)}{vs:G0 (κ×G1)}(r:KV kvs vs)(k:κ):(kvs.any λkv=>decide (kv.1=k))=vs.any λkv=>decide (kv.1=k):=by
 unfold KV at r
 induction r with
 |nil=>rfl
 |cons h t ih=>rw [mH,mH,ih,h.1]
theorem KV.repl {kvs:G0 (κ×V)}{vs:G0 (κ×G1)}(r:KV kvs vs)(k:κ){y:V}{u:G1}(ry:RelV y u):
 KV (kvs.map λkv=>if kv.1=k then (kv.1,y) else kv) (vs.map λkv=>if kv.1=k then (kv.1,u) else kv):=by
 unfold KV at r ⊢
 induction r with
 |nil=>exact .nil
 | @cons p q ps qs h t ih=>
  rw [C6,C6];refine .cons ?_ ih;obtain⟨h1,h2⟩:=h
  by_cases e:p.1=k
  ·rw [R6 e,R6 (h1.symm.trans e)];exact⟨h1,ry⟩
  ·rw [R8 e,R8 (λz=>e (h1.trans z))];exact⟨h1,h2⟩
theorem KV.put {kvs:G0 (κ×V)}{vs:G0 (κ×G1)}(r:KV kvs vs)(k:κ){y:V}{u:G1}(ry:RelV y u):KV (Ni kvs k y) (rL vs k u):=by
 unfold Ni rL;rw [r.any k]
 by_cases e:(vs.any λkv=>decide (kv.1=k))=true
 ·rw [R6 e,R6 e];exact r.repl k ry
 ·rw [R8 e,R8 e];exact Paired.snoc r ⟨rfl,ry⟩
end
variable {P:R9}{w:N4}
theorem EB {k:Key}{u:G1}(r:RelV (kV k) u):(wt P w).is k u=true:=by
 cases k with
 |inl i=>obtain⟨t,e⟩:=(show ∃t,u=dJ i t from r);subst e;exact VF P w i t
 |inr x=>obtain⟨t,e⟩:=(show ∃t,u=mM x t from r);subst e;exact VG P w x t
section
variable {P:R9}{w:N4}{H:Hp}{h:B6}{a:G9}
theorem EC {u:HO}(ok:HOk P w H h)(e:Rd H a u):ObjOk P w H h a u:=e.ok ok
theorem ED {kvs:G0 (Key×V)}(ok:HOk P w H h)(e:Rd H a (.dK kvs)):kvs.length<=sizeLine/\(a==sysModules)=false/\ ∃vs,KV kvs vs/\h.DictOf (wt P w) a vs:=
 show ObjOk P w H h a (.dK kvs) from EC ok e
theorem EF {kvs:G0 (Key×V)}(ok:HOk P w H h)(e:H a=some (.dK kvs)):kvs.length<=sizeLine/\(a==sysModules)=false/\ ∃vs,KV kvs vs/\h.DictOf (wt P w) a vs:=ED ok (.inl e)
end
section
variable {X:Cx}{pins:G0 (G9×Obj)}{σ:St}{H:Hp}{s:G2}{a:G9}{y v:V}{u r:G1}{o:P4 V}{A:T3}{E:G1->G2->Prop}
theorem Inv.big (I:Inv X pins σ H s):sysModules<s.heap.objs.size:=by
 have h:mainGlobals<s.heap.objs.size:=(I.mod.glob.keeps I.bk).lt;exact cB (by decide) h
theorem Bq {h':B6}{t':G7}{ob:HO}(I:Inv X pins σ H s)(mu:Mut (H a))(hs:L9 a s.heap h')(he: ∃q,h'.get? a=some q)(new:ObjOk X.prog X.w (upd H a ob) h' a ob):
 Inv X pins σ (upd H a ob) {s with heap:=h',toks:=t'}:=
 I.write (x:=a) (e:=a) mu (.inl rfl) (λb q hb z=>(hs.2 b hb).trans z) he new
theorem LH {P:R9}{w:N4}{H':Hp}{h':B6}{kvs:G0 (Key×V)}{vs:G0 (Key×G1)}(z:kvs.length<=sizeLine)(hd:(a==sysModules)=false)(rel:KV kvs vs)(dd:h'.DictOf (wt P w) a vs):
 ObjOk P w H' h' a (.dK kvs):=⟨z,hd,vs,rel,dd⟩
end
theorem Rr {H:Hp}(h:B6)(hb:sysModules<h.objs.size):ObjOk P w H (h.push {cls:= .type "dict",data:= .dict #[]}) h.objs.size (.dK []):=
 ⟨M7 _,beq_eq_false_iff_ne.mpr (U9 (M0 hb)),[],.nil,Heap.DictOf.new h⟩
def Gg:G0 (TE×TE)->St->Hp->(G0 (V×V)->Hp->Prop)->Prop
 | [],_,H,Q=>Q [] H
 |(tk,tv)::r,σ,H,Q=>tk σ H λx H1=>tv σ H1 λy H2=>Gg r σ H2 λps H3=>Q ((x,y)::ps) H3
abbrev VV:G0 (V×V)->G0 (G1×G1)->Prop:=Paired λp q=>RelV p.1 q.1/\RelV p.2 q.2
def PPs (X:Cx)(pos:Pos)(keys:G0 (P4 N0))(values:G0 N0)(trs:G0 (TE×TE)):Prop:=
 ∀ (pins:G0 (G9×Obj)) (s:G2) (σ:St) (H:Hp) (Q:G0 (V×V)->Hp->Prop),Inv X pins σ H s->Gg trs σ H Q->
  R3 (R7 X.prog X.w) X.A (evalPairs (pairTrees keys values X.env pos)) (λvs s'=> ∃ps H',Inv X pins σ H' s'/\VV ps vs/\Q ps H') X.xe s
variable {pos:Pos}
theorem Br:PPs X pos [] [] []:=λpins s σ H Q I h=>pairTrees_nil_walk ⟨[],H,I,.nil,h⟩
theorem Rt {k v:N0}{ks:G0 (P4 N0)}{vs:G0 N0}{tk tv:TE}{trs:G0 (TE×TE)}(hk:PE X k tk)(hv:PE X v tv)(hr:PPs X pos ks vs trs):
 PPs X pos (some k::ks) (v::vs) ((tk,tv)::trs):=λpins s σ H Q I h=>
 pairTrees_cons_walk (thn (hk pins s σ H _ I h) λu s1 ⟨x,H1,I1,rx,q1⟩=>thn (hv pins s1 σ H1 _ I1 q1) λw2 s2 ⟨y,H2,I2,ry,q2⟩=>
  thn (hr pins s2 σ H2 _ I2 q2) λws s3 ⟨ps,H3,I3,rel,q3⟩=>⟨(x,y)::ps,H3,I3,.cons ⟨rx,ry⟩ rel,q3⟩)
def Yx (kvs more:G0 (Key×V)):G0 (Key×V):=more.foldl (λacc kv=>Ni acc kv.1 kv.2) kvs
theorem KV.merge: ∀ {more:G0 (Key×V)} {rs:G0 (Key×G1)} {kvs:G0 (Key×V)} {vs:G0 (Key×G1)},KV more rs->KV kvs vs->KV (Yx kvs more) (merged vs rs):=by
 intro more rs kvs vs r;unfold KV at r
 induction r generalizing kvs vs with
 |nil=>intro q;exact q
 | @cons p q ps qs h t ih=>
  intro r0;have e:KV (Ni kvs p.1 p.2) (rL vs q.1 q.2):=by
   have:=r0.put p.1 h.2;rw [<-h.1];exact this
  exact ih e
theorem vk: ∀ (more kvs:G0 (Key×V)),(Yx kvs more).length<=kvs.length+more.length
 | [],kvs=>by show kvs.length<=kvs.length+0;omega
 |p::r,kvs=>by
  have h1:=vk r (Ni kvs p.1 p.2);have h2:=VJ kvs p.1 p.2;show (Yx (Ni kvs p.1 p.2) r).length<=_;rw [D8];omega
theorem Wa {P:R9}{w:N4}: ∀ {kvs:G0 (Key×V)} {ws:G0 (G1×G1)},VV (kvs.map λkv=>(kV kv.1,kv.2)) ws-> ∃rs,Carries (wt P w) ws rs/\KV kvs rs
 | [],_,r=>by rw [cA] at r;cases r;exact⟨[],eI,.nil⟩
 |p::kvs,_,r=>by
  rw [C6] at r;cases r with
  | @cons a b as bs h t=>
   obtain⟨rs,c,q⟩:=Wa (P:=P) (w:=w) t;obtain⟨b1,b2⟩:=b;exact⟨(p.1,b2)::rs,⟨EB h.1,rfl,c⟩,.cons ⟨rfl,h.2⟩ q⟩
def EG (trs:G0 (TE×TE)):TE:=λσ H Q=> ∀p,H p=none->Gg trs σ (upd H p (.dK [])) λps H2=>H2 p=some (.dK [])/\ ∃kvs:G0 (Key×V),ps=kvs.map (λkv=>(kV kv.1,kv.2))/\kvs.length<=15/\Q (.ref p) (upd H2 p (.dK (Yx [] kvs)))
theorem Bv {keys:G0 (P4 N0)}{values:G0 N0}{trs:G0 (TE×TE)}(h:PPs X pos keys values trs)(hall:keys.all (·.isSome)=true)(hl:keys.length=values.length)(h0:keys≠ [])
 (h15:keys.length<=15):PE X (.Dict keys values pos) (EG trs):=by
 intro pins s σ H Q I q;have hn:=I.hok.fresh (P3 s.heap.objs.size);have I1:=I.laid (a:=s.heap.objs.size) (o:= .dK []) (h':=s.heap.push {cls:= .type "dict",data:= .dict #[]}) (t':=s.toks) (λ_ _ q=>G3 _ q) (P3 _) (Rr s.heap I.big);refine wpAny_Dict_walk (knd:=wt X.prog X.w) hall hl h0 h15 (thn (h pins _ σ _ _ I1 (q _ hn)) λws s2 ⟨ps,H2,I2,rel,e,kvs,ep,lk,q2⟩=> ?_);subst ep;obtain⟨rs,c,rk⟩:=Wa (P:=X.prog) (w:=X.w) rel;obtain⟨z,hd,vs0,r0,dd⟩:=EF I2.hok e;cases r0;refine⟨rs,c,dd,λh' dd' hs=>⟨.ref s.heap.objs.size,_,?_,rfl,q2⟩⟩;have hz:(Yx [] kvs).length<=sizeLine:=by
  have h1:=vk kvs [];rw [C0] at h1;rw [r6];omega
 have he: ∃q,h'.get? s.heap.objs.size=some q:=let ⟨q,_,_,hq,_⟩:=dd';⟨q,hq⟩;exact Bq I2 (by rw [e];exact eI) hs he (LH hz hd (rk.merge .nil) dd')
structure M2 (X:Cx)(o:N0)(m:Str)(apos:Pos)(e f:N0)(cpos:Pos):Prop where
 base:aU o m X.env (J0 o X.env)=J0 o X.env
 few:((K7 cpos (D7 [e,f] X.env)).all (λx=> !x.1)&&(mO cpos (gJ [] X.env)).all (λx=>x.1.isSome)
  &&decide (([e,f]:G0 N0).length+([]:G0 eT).length+(if ([]:G0 eT).isEmpty then 0 else 1)<30))=true
 line:(apos.endLine==cpos.line)=true
 trees:K7 cpos (D7 [e,f] X.env)= [(false,J0 e X.env),(false,J0 f X.env)]
def wv (names:G0 (Str×NameKind))(env:Env)(cs:G0 (Str×G9)):G0 (Str×G9):=
 names.foldl (λcs p=>if p.2= .free then (match env.cells.lookup p.1 with|some c=>(p.1,c)::cs|none=>cs) else cs) cs
theorem zK (p:Str×NameKind)(l:G0 (Str×NameKind))(env:Env)(cs:G0 (Str×G9)):
 wv (p::l) env cs=wv l env (if p.2= .free then (match env.cells.lookup p.1 with|some c=>(p.1,c)::cs|none=>cs) else cs):=rfl
variable {env:Env}
theorem JR {f:Str×NameKind->G0 (Str×G9)->Sem (gK (G0 (Str×G9)))}
 (h1: ∀p cs,p.2≠ .free->f p cs=pure (.yield cs))(h2: ∀p cs c,p.2= .free->env.cells.lookup p.1=some c->f p cs=pure (.yield ((p.1,c)::cs))):
 ∀ (l:G0 (Str×NameKind)) (cs:G0 (Str×G9)),(∀p∈l,p.2= .free-> ∃c,env.cells.lookup p.1=some c)->forIn l cs f=pure (wv l env cs)
 | [],cs,_=>rfl
 |p::l,cs,h=>by
  have ih:=JR h1 h2 l
  by_cases hp:p.2= .free
  ·obtain⟨c,hc⟩:=h p P7 hp;rw [dE,h2 p cs c hp hc,pure_bind];show forIn l ((p.1,c)::cs) f=_;rw [ih _ λq hq=>h q (D1 _ hq),zK,R6 hp,hc]
  ·rw [dE,h1 p cs hp,pure_bind];show forIn l cs f=_;rw [ih _ λq hq=>h q (D1 _ hq),zK,R8 hp]
variable {scope:Q1}
theorem WG (h: ∀p∈scope.names,p.2= .free-> ∃c,env.cells.lookup p.1=some c):kX scope env=pure (wv scope.names env []):=by
 simp only [kX];rw [JR (env:=env) (λp cs hp=> ?_) (λp cs c hp hc=> ?_) _ _ h]
 ·rfl
 ·obtain⟨n,k⟩:=p;have hb:(k==A8)=false:=by simpa using hp
  simp only [hb,A3,oI]
 ·obtain⟨n,k⟩:=p;have hb:(k==A8)=true:=by simpa using hp
  have hc':env.cells.lookup n=some c:=hc;simp only [hb,fX,G0J,hc',pure_bind]
theorem JU: ∀ (l:G0 (Str×NameKind)) (cs:G0 (Str×G9)),(∀p∈cs,env.cells.lookup p.1=some p.2)-> ∀p∈wv l env cs,env.cells.lookup p.1=some p.2
 | [],cs,h,p,hp=>h p hp
 |q::l,cs,h,p,hp=>by
  rw [zK] at hp;refine JU l _ (λr hr=> ?_) p hp
  by_cases hq:q.2= .free
  ·rw [R6 hq] at hr;cases e:env.cells.lookup q.1 with
   |none=>rw [e] at hr;exact h r hr
   |some c=>
    rw [e] at hr;rcases D2.mp hr with rfl|hr
    ·exact e
    ·exact h r hr
  ·rw [R8 hq] at hr;exact h r hr
theorem JV: ∀ (l:G0 (Str×NameKind)) (cs:G0 (Str×G9)),∀p∈cs,p∈wv l env cs
 | [],cs,p,hp=>hp
 |q::l,cs,p,hp=>by
  rw [zK];refine JV l _ p ?_
  by_cases hq:q.2= .free
  ·rw [R6 hq];cases e:env.cells.lookup q.1 with
   |none=>exact hp
   |some c=>exact D1 _ hp
  ·rw [R8 hq];exact hp
variable {x:Str}
theorem JY {c:G9}(hc:env.cells.lookup x=some c): ∀ (l:G0 (Str×NameKind)) (cs:G0 (Str×G9)),(x,A8)∈l->(x,c)∈wv l env cs
 |q::l,cs,h=>by
  rw [zK];rcases D2.mp h with e|h
  ·subst e;rw [R6 rfl,hc];exact JV l _ _ P7
  ·exact JY hc l _ h
theorem zY {α:Type}: ∀ {l:G0 (Str×α)} {x:Str} {c:α},l.lookup x=some c->(x,c)∈l
 | [],_,_,h=>by simp at h
 |(n,k)::r,x,c,h=>by
  rw [E8] at h;cases hx:x==n with
  |true=>
   rw [hx] at h;have e:x=n:=eq_of_beq hx;cases h;subst e;exact P7
  |false=>rw [hx] at h;exact D1 _ (zY h)
theorem Wb {α:Type}: ∀ {l:G0 (Str×α)} {x:Str} {c:α},(x,c)∈l-> ∃c',l.lookup x=some c'
 |(n,k)::r,x,c,h=>by
  rw [E8];cases hx:x==n with
  |true=>exact⟨_,rfl⟩
  |false=>
   rcases D2.mp h with e|h
   ·cases e;simp at hx
   ·exact Wb h
theorem Wc {l:G0 (Str×NameKind)}{c:G9}(h:(wv l env []).lookup x=some c):env.cells.lookup x=some c:=
 JU l [] (λ_ z=>nomatch z) (x,c) (zY h)
theorem Gh {l:G0 (Str×NameKind)}{c:G9}(hc:env.cells.lookup x=some c)(h:(x,A8)∈l):(wv l env []).lookup x=some c:=by
 obtain⟨c',e⟩:=Wb (JY hc l [] h);have:=Wc e;rw [hc] at this;cases this;exact e
theorem wN {κ:Type}{f:Str×κ->Str×κ}{g:Str->κ->κ}(hf: ∀n k,f (n,k)=(n,g n k))(x:Str): ∀l:G0 (Str×κ),(l.map f).lookup x=(l.lookup x).map (g x)
 | []=>rfl
 |(n,k)::r=>by
  rw [C6,hf,E8,E8,wN hf x r];cases same:x==n with
  |false=>rfl
  |true=>rw [eq_of_beq same];rfl
theorem jL {names:G0 (Str×NameKind)}{k:NameKind}(found:
 (names.map λ(n,k)=>if (k==A8&&env.scope.kind== .function&&env.kindOf n==some .cell) then (n,cM) else (n,k)).lookup x=some k):
  names.lookup x=some k\/names.lookup x=some .free:=by
 rw [wN (g:=λn k=>if (k==A8&&env.scope.kind== .function&&env.kindOf n==some .cell) then .cell else k) (λn k=>by dsimp only;split<;>rfl)] at found;obtain⟨k0,was,now⟩:=A5.mp found;split at now
 ·rename_i c;simp only [H0,beq_iff_eq] at c;exact .inr (by rw [was,c.1.1])
 ·exact .inl (by rw [was,now])
theorem zT: ∀ (names:G0 (Str×NameKind)) (n:G7) (acc:G0 (Str×G9)) (p:Str×G9),p∈V0 n names acc->p∈acc\/(n<=p.2/\(p.1,cM)∈names)
 | [],_,_,_,h=> .inl h
 |(x,k)::r,n,acc,p,h=>by
  unfold V0 at h;split at h
  ·rename_i hk;rcases zT r (n+1) _ p h with z|⟨z1,z2⟩
   ·rcases D2.mp z with e|z
    ·subst e;have:k= .cell:=by simpa using hk
     subst this;exact .inr ⟨P3 _,P7⟩
    ·exact .inl z
   ·exact .inr ⟨by omega,D1 _ z2⟩
  ·rcases zT r n acc p h with z|⟨z1,z2⟩
   ·exact .inl z
   ·exact .inr ⟨z1,D1 _ z2⟩
theorem jI: ∀ (names:G0 (Str×NameKind)) (n:G7) (acc:G0 (Str×G9)),V0 n names acc=V0 n names []++acc
 | [],_,_=>rfl
 |(x,k)::r,n,acc=>by
  unfold V0;split
  ·rw [jI r (n+1) ((x,n)::acc),jI r (n+1) [(x,n)],D6];rfl
  ·exact jI r n acc
theorem vQ {α:Type}(l l':G0 (Str×α))(x:Str):(l++l').lookup x=(match l.lookup x with|some c=>some c|none=>l'.lookup x):=by
 induction l with
 |nil=>rfl
 |cons p l ih=>
  obtain⟨n,c⟩:=p;rw [Q5,E8,E8];cases x==n with
  |true=>rfl
  |false=>exact ih
theorem yH {names:G0 (Str×NameKind)}(here:names.lookup x=some .cell):
 (names.map λ(n,k)=>if (k==A8&&env.scope.kind== .function&&env.kindOf n==some .cell) then (n,cM) else (n,k)).lookup x=some .cell:=by
 rw [wN (g:=λn k=>if (k==A8&&env.scope.kind== .function&&env.kindOf n==some .cell) then .cell else k) (λn k=>by dsimp only;split<;>rfl),here];simp
section
variable {M:j0}{A:T3}{E:G1->G2->Prop}{s:G2}
theorem XE (h:B6)(names:G0 (Str×NameKind)):(∀n c,(n,c)∈V0 h.objs.size names []->(pushCells h names).IsCell c none/\h.objs.size<=c)/\(V0 h.objs.size names []).Pairwise λx y=>x.2≠y.2:=
 have laid:=cellsFrom_ok names h h.objs.size [] ⟨by simp,.nil⟩ (P3 _)
 ⟨laid.empty,laid.apart⟩
theorem Yy {scope:Q1}{globals:G9}{closure:G0 (Str×G9)}{qual:Str}{func:P4 G9}{code:G1}{outer:Env}{builtins:G9}{Q:Env->G2->Prop}
 (hQ: ∀h',h'.Ns s.heap.objs.size (λ_=>none)->(∀b o,s.heap.get? b=some o->h'.get? b=some o)->(∀n c,(n,c)∈V0 (s.heap.objs.size+1) scope.names []->h'.IsCell c none/\s.heap.objs.size+1<=c)->
  ((V0 (s.heap.objs.size+1) scope.names []).Pairwise λx y=>x.2≠y.2)->
  Q (newEnv scope s.heap.objs.size globals (V0 (s.heap.objs.size+1) scope.names closure) qual func code (some outer) builtins) {s with heap:=h'}):
 R3 M A (uD scope globals closure [] qual func code (some outer) builtins) Q E s:=by
 have names:=XE (s.heap.push {cls:= .type "dict",data:= .dict #[]}) scope.names;have first:(s.heap.push {cls:= .type "dict",data:= .dict #[]}).objs.size=s.heap.objs.size+1:=cP ..
 rw [first] at names;unfold uD;refine wpAny_bind (wpAny_alloc (wpAny_bind (wpAny_layCells _ (λn k cs=>rfl) _ _ _ _ ?_)));simp only [Option.isSome_some,fX];rw [first];exact wpAny_bind (G8 (G8 (hQ _ ((Heap.Ns.new _ _).keeps (sN _ _)) (λb o here=>sN _ _ b o (G3 _ here)) names.1 names.2)))
end
def jE (X:Cx)(scope:Q1)(C:G9):G0 (Str×G9):=V0 (C+1) scope.names (wv scope.names X.env [])
def yI (X:Cx)(scope:Q1)(C:G9)(s₀:G2)(H₀:Hp)(ex:G0 G9):Cx:=
 {X with s₀:=s₀,H₀:=H₀,env:=uE scope (jE X scope C) C X.env,outer:=X.stack,ex:=ex,fn:=λx=>scope.names.lookup x==some .cell,pn:= [],xe:=λ_ _=>False}
def jx (X:Cx)(scope:Q1)(X':Cx):Prop:= ∃C s₀ H₀ ex,X'=yI X scope C s₀ H₀ ex
structure BlockOk (X:Cx)(scope:Q1)(js:G0 G7):Prop where
 kind:scope.kind= .function
 locs: ∀p∈scope.names,p.2= .local->scope.names.lookup p.1=some .local
 cels: ∀p∈scope.names,p.2= .cell->scope.names.lookup p.1=some .cell
 free: ∀p∈scope.names,p.2= .free->X.env.scope.names.lookup p.1=some .cell\/X.env.scope.names.lookup p.1=some .free
 js: ∀ (i:G7) (x:Str),X.N[i]? =some x->(scope.names.lookup x=some .local\/scope.names.lookup x=some .cell)->i∈js
variable {js:G0 G7}
theorem wD (S:BlockOk X scope js){C:G9}{x:Str}{c:G9}(h:(jE X scope C).lookup x=some c):
 (scope.names.lookup x≠some .cell/\X.env.cells.lookup x=some c)\/(scope.names.lookup x=some .cell/\(x,c)∈V0 (C+1) scope.names []):=by
 unfold jE at h;rw [jI,vQ] at h;cases e:(V0 (C+1) scope.names []).lookup x with
 |some d=>
  rw [e] at h;cases h;have m:=zY e;rcases zT _ _ _ _ m with z|⟨_,z⟩
  ·exact absurd z (by simp)
  ·exact .inr ⟨S.cels _ z rfl,m⟩
 |none=>
  rw [e] at h;refine .inl ⟨λz=> ?_,Wc h⟩;obtain⟨d,hd⟩:=yr (sc:=scope) (n:=C+1) z;rw [e] at hd;cases hd
theorem Jg (S:BlockOk X scope js){C:G9}{x:Str}{c:G9}(hc:X.env.cells.lookup x=some c)(h:(x,A8)∈scope.names)(hn:scope.names.lookup x≠some .cell):(jE X scope C).lookup x=some c:=by
 unfold jE;rw [jI,vQ];cases e:(V0 (C+1) scope.names []).lookup x with
 |some d=>
  rcases zT _ _ _ _ (zY e) with z|⟨_,z⟩
  ·exact absurd z (by simp)
  ·exact absurd (S.cels _ z rfl) hn
 |none=>exact Gh hc h
def wE:G0 G7->St->St
 | [],σ=>σ
 |j::js,σ=>wE js (σ.set j none)
theorem Wd: ∀ (js:G0 G7) (σ:St),(wE js σ).length=σ.length
 | [],_=>rfl
 |j::js,σ=>by rw [wE,Wd js];simp
theorem JZ: ∀ (js:G0 G7) (σ:St) (i:G7) (v:V),(wE js σ)[i]? =some (some v)->σ[i]? =some (some v)
 | [],_,_,_,h=>h
 |j::js,σ,i,v,h=>by
  have h1:=JZ js _ i v h
  by_cases e:i=j
  ·subst e;rw [gY] at h1;simp at h1
  ·rwa [U4 (U9 e)] at h1
theorem zZ: ∀ (js:G0 G7) (σ:St) (i:G7) (v:V),i∈js-> ¬ (wE js σ)[i]? =some (some v)
 |j::js,σ,i,v,hm,h=>by
  rcases D2.mp hm with rfl|hm
  ·have h1:=JZ js _ i v h;rw [gY] at h1;simp at h1
  ·exact zZ js _ i v hm h
theorem HOk.track {H:Hp}{h:B6}{a:G9}{o:HO}(x:HOk P w H h)(hn:H a=none)(new:ObjOk P w (upd H a o) h a o):HOk P w (upd H a o) h:=λb u e=>by
 by_cases hb:b=a
 ·subst hb;rw [jh] at e;cases e;exact new
 ·rw [jf hb] at e;exact(x b u e).stay (λc v _ q=>q) (λc q=>by rw [jf (jg q hn)];exact q) λc xs q=>by rw [jf (jg q hn)];exact q
def Agree (σ σ':St):Prop:=σ'.length=σ.length/\ ∀ (i:G7) (v:V),σ[i]? =some (some v)->σ'[i]? =some (some v)
theorem Agree.set {σ:St}{j:G7}(v:V)(h: ∀u,¬σ[j]? =some (some u)):Agree σ (σ.set j (some v)):=⟨by simp,λi u q=>by
 by_cases e:j=i
 ·subst e;exact absurd q (h u)
 ·rw [U4 e];exact q⟩
theorem Agree.trans {a b c:St}(x:Agree a b)(y:Agree b c):Agree a c:=⟨y.1.trans x.1,λi v h=>y.2 i v (x.2 i v h)⟩
def PTs (X:Cx)(ifs:G0 N0)(t:TT):Prop:=
 ∀ (pins:G0 (G9×Obj)) (s:G2) (σ:St) (H:Hp) (Q:T5->Hp->Prop),Inv X pins σ H s->t σ H Q->
  R3 (R7 X.prog X.w) X.A (forIn ifs true λc r=>if r=true then do let ok <-isTrue c X.env (J0 c X.env);pure (dF ok) else pure (dF r)) (TP X pins σ Q) X.xe s
def Tk:TT:=λ_ H Q=>Q true H
theorem Bw:PTs X [] Tk:=λ_ _ _ H _ I h=>wpAny_tests_nil ⟨H,I,h⟩
theorem Bx {c:N0}{t:TT}(hc:PT X c t):PTs X [c] t:=λpins s σ H Q I h=>wpAny_tests_one (hc pins s σ H Q I h)
def Uz (iter target:N0)(ifs:G0 N0)(it:G1)(env:Env)(act:Sem Unit)(nxt:Code):Sem eU:=do
 lN iter.pos
 match <-rE it with
 |none=>pure (.done .next)
 |some v=>
  bS target it v
  i5 target env v
  let mut ok:=true
  for c in ifs do
   if ok then ok <-isTrue c env (J0 c env)
  if ok then act
  again nxt
variable {elt iter:N0}{ifs:G0 N0}
theorem Ru {prog:R9}{A:T3}{R:oH->G2->Prop}{s:G2}{target:N0}{gens:G0 pM}{depth:G7}{it acc:G1}{act:Sem Unit}(I:G7->G2->Prop)
 (heq:uF (.ListComp elt gens scope pos) depth it acc env=Uz iter target ifs it env act (.compLoop (.ListComp elt gens scope pos) depth it acc env))
 (turn: ∀n s,I n s->R3 (R7 prog w) A (rE it) (λr s₁=>match r with
  |none=>R (.ok .next) s₁
  |some v=>R3 (R7 prog w) A (bS target it v) (λ_ s₁=>R3 (R7 prog w) A (i5 target env v) (λ_ s₂=>
   R3 (R7 prog w) A (forIn ifs true λc r=>if r=true then do let ok <-PySem.isTrue c env (J0 c env);pure (dF ok) else pure (dF r)) (λok s₃=>
    if ok=true then R3 (R7 prog w) A act (λ_ s₅=> ∃m,m<n/\I m s₅) (λ_ _=>False) s₃
    else ∃m,m<n/\I m s₃) (λ_ _=>False) s₂) (λ_ _=>False) s₁) (λ_ _=>False) s₁) (λ_ _=>False) s)
 (n:G7)(h:I n s):
 bX (R7 prog w) A (.compLoop (.ListComp elt gens scope pos) depth it acc env) R s:=by
 refine codeAny_loop rfl I (λn s hI=> ?_) n h;show R3 _ A ((uF (.ListComp elt gens scope pos) depth it acc env).onRaise (λx=>do noteFrame x env;theTreesLotGoes x)) _ _ s;refine wpAny_noted ?_;rw [heq];unfold Uz;refine wpAny_bind (mF (wpAny_bind (B1 (turn n s hI) (λr s₁ h₁=> ?_) λ_ _ h'=>h'.elim)));cases r with
 |none=>exact G8 h₁
 |some v=>
  refine wpAny_bind (B1 h₁ (λ_ s₁ h₁=> ?_) λ_ _ h'=>h'.elim);refine wpAny_bind (B1 h₁ (λ_ s₂ h₂=>wpAny_bind (B1 h₂ (λok s₃ h₃=> ?_) λ_ _ h'=>h'.elim)) λ_ _ h'=>h'.elim);cases ok with
  |false=>exact G8 ⟨rfl,h₃⟩
  |true=>exact wpAny_bind (B1 h₃ (λ_ s₅ h₅=>G8 ⟨rfl,h₅⟩) λ_ _ h'=>h'.elim)
abbrev TM:=St->Hp->G0 V->(G0 V->Hp->Prop)->Prop
def EH (X:Cx)(D:G9)(act:Sem Unit)(t:TM):Prop:=
 ∀ (pins:G0 (G9×Obj)) (s:G2) (σ:St) (H:Hp) (ys:G0 V) (us:G0 G1) (Q:G0 V->Hp->Prop),Inv X ([(D,fY us)]++pins) σ H s->Vals ys us->ys.length<=sizeLine->D∈X.ex->(∀x c,X.env.cells.lookup x=some c->c≠D)->(∀p∈X.pn++pins,p.1≠D)->t σ H ys Q->
  R3 (R7 X.prog X.w) X.A act (λ_ s'=> ∃ys' us' H',Vals ys' us'/\Inv X ([(D,fY us')]++pins) σ H' s'/\Q ys' H') (λ_ _=>False) s
def Tl (te:TE):TM:=λσ H ys Q=>te σ H λy H1=>Q (ys++ [y]) H1
def UA (elt:N0)(env:Env)(acc:G1):Sem Unit:=do let _ <-call (.builtin "list.append") [acc,<-J0 elt env]
theorem UB {D:G9}{te:TE}(hx:X.xe=λ_ _=>False)(he:PE X elt te):EH X D (UA elt X.env (.ref D)) (Tl te):=by
 intro pins s σ H ys us Q I hv hz DX cD pD h;have q:=he _ s σ H _ I h;rw [hx] at q;unfold UA;refine wpAny_bind (B1 q (λy s1 ⟨yv,H1,I1,r1,q1⟩=> ?_) λ_ _ z=>z);have zD:=I1.pin (D,fY us) (M1 _ (A7 _ P7));refine wpAny_bind (append_at (its:=us.toArray) (n:=us.length) zD.1 (λh11 hs11 hD11=>G8 ?_) (by rw [R5,<-hv.length];exact hz));have I10u:Inv X pins σ H1 s1:=I1.pins_of λp hp=>I1.pin p (M1 _ (M1 _ hp))
 have I11:Inv X pins σ H1 {s1 with heap:=h11}:=I10u.turned (t':=s1.toks) (it:=D) (λb o hb e=>hs11.extBut b o hb e) zD.2.1 zD.2.2.1 (.inl DX) cD pD;have eD:h11.get? D=some (fY (us++ [y])):=by rw [hD11];exact congrArg some (LCg.lst_snoc us y)
 refine⟨ys++ [yv],us++ [y],H1,hv.append (.cons r1 .nil),I11.pins_of λp hp=> ?_,q1⟩;rcases T8.mp hp with z|z
 ·rcases P1.mp z with rfl
  exact⟨eD,zD.2.1,zD.2.2.1,zD.2.2.2.1,λv z=>by cases z⟩
 ·exact I11.pin p (M1 _ z)
def EI (js : G0 G7) (wi : TI) (g : TG) (tt : TT) (tm : TM) : TE := fun σ H Q => wi σ H fun J H1 =>
  ∃ W : G7 → G7 → G0 V → Hp → Prop, (∃ m, W 0 m [] H1) ∧ ∀ i m ys H, W i m ys H → ys.length ≤ sizeLine ∧
    ((J.stop i H ∧ ∀ p, H p = none → Q (.ref p) (upd H p (.lst ys))) ∨
     (J.go i H ∧ ∀ x H', J.yld i H x H' → g x (wE js σ) H' fun σ2 H2 => Agree (wE js σ) σ2 ∧ tt σ2 H2 fun b H3 =>
        if b = true then tm σ2 H3 ys fun ys' H4 => ∃ m', m' < m ∧ W (i + 1) m' ys' H4 else ∃ m', m' < m ∧ W (i + 1) m' ys H3))
def tLC (js:G0 G7)(wi:TI)(g:TG)(tt:TT)(te:TE):TE:=EI js wi g tt (Tl te)
variable {tg:N0}{wi:TI}{g:TG}{tt:TT}
theorem Nj {e:N0}{rest:G0 pM}{pos0:Pos}{tm:TM}{use:P4 (G1->Sem Unit)}{Qv:G1->G2->Prop}(hc:X.calm=true)(S:BlockOk X scope js)(hi:PI X tg iter wi)
 (he0:e= .ListComp elt (⟨tg,iter,ifs,0⟩::rest) scope pos)
 (hg: ∀X',jx X scope X'->PG X' tg g)(ht: ∀X',jx X scope X'->PTs X' ifs tt)
 (act:Env->G1->Sem Unit)(hturn: ∀it acc env,uF e 0 it acc env=Uz iter tg ifs it env (act env acc) (.compLoop e 0 it acc env))(he: ∀X',jx X scope X'-> ∀D,EH X' D (act X'.env (.ref D)) tm)
 (hs: ∀x,O4 iter X.env x=pure x){pins:G0 (G9×Obj)}{s:G2}{σ:St}{H:Hp}{Q:VK}(I:Inv X pins σ H s)(h:EI js wi g tt tm σ H Q)
 (fin: ∀ (D C:G9) (H':Hp) (s':G2) (m:Str->P4 G1),s'.heap.Ns C m->(∀h',L9 C s'.heap h'->Inv X pins σ H' {s' with heap:=h'})->H' C=none->C≠X.env.locals->C ∉ X.fs->X.s₀.heap.objs.size<=C->(∀x c,X.env.cells.lookup x=some c->c≠C)->(∀p∈X.pn++pins,p.1≠C)->
  Q (.ref D) H'->compPost (R7 X.prog X.w) X.A X.xe use Qv (.ref D) C (.ok .next) s'):
 R3 (R7 X.prog X.w) X.A (w6 e scope X.env pos0 (newList []) false (J0 iter X.env) use) Qv X.xe s:=by
 have hclos:=WG (scope:=scope) (env:=X.env) (λp hp e=>I.ok.has p.1 (S.free p hp e));subst he0;refine wpAny_comprehension_free (use:=use) rfl hs hclos S.kind S.locs (thn (hi pins s σ H _ I h) λv s1 h1=>thn h1 λitv s2 h2=> ?_);obtain⟨it,fp,tn,J,H2,e,I2,T,st2,f2,W,⟨m0,w0⟩,turn⟩:=h2;subst e;refine aF (Yy (λh₁ hns₁ hkp₁ hcl₁ hap₁=> ?_));dsimp only at hns₁ hkp₁ hcl₁ hap₁ ⊢;generalize hD:s2.heap.objs.size=D;generalize hH3:s2.heap.push {cls:= .type "list",dict:=none,data:= .seq ([]:G0 G1).toArray}=h3 at hns₁ hkp₁ hcl₁ hap₁ ⊢;have sz3:h3.objs.size=D+1:=by rw [<-hH3,cP,hD]
 have up3: ∀b o,s2.heap.get? b=some o->h3.get? b=some o:=λb o e=>hH3 ▸ G3 _ e
 have I3:Inv X pins σ H2 {s2 with heap:=h3}:=I2.kept (t':=s2.toks) up3;have hD3:h3.get? D=some (fY []):=by rw [<-hH3,<-hD];exact R1 _ rfl
 have fD:QL X pins H2 D:=I2.fpOk (by rw [hD];exact P3 _) (I2.hok.fresh (by rw [hD];exact P3 _));have obf: ∀b∈fp,∃o,s2.heap.get? b=some o/\ ∀v,o.data≠ .cell v:=T.obj _ _ st2;have ltf: ∀b∈fp,b<D:=λb hb=>by obtain⟨o,e,_⟩:=obf b hb;rw [<-hD];exact P9 e
 generalize hC:h3.objs.size=C at hns₁ hcl₁ hap₁ ⊢;have CD:C=D+1:=hC.symm.trans sz3;have upC: ∀b o,h3.get? b=some o->h₁.get? b=some o:=hkp₁;generalize hX:yI X scope C {s2 with heap:=h3} H2 (fp++ [D])=X';have iX:jx X scope X':=⟨C,_,_,_,hX.symm⟩;have hf: ∀b∈fp++ [D],QL X pins H2 b:=λb hb=>(T8.mp hb).elim (f2 b) λz=>by rw [P1.mp z];exact fD
 have cl: ∀x c,(jE X scope C).lookup x=some c->X.env.cells.lookup x=some c\/C<c:=λx c e=>by
  rcases wD S e with ⟨_,z⟩|⟨_,z⟩
  ·exact .inl z
  ·exact .inr (gZ (hcl₁ x c z).2)
 have olt: ∀x c,X.env.cells.lookup x=some c->c<C:=λx c e=>by obtain⟨v,q⟩:=I3.cell x c e;rw [<-hC];exact q.lt
 have ltb: ∀b∈fp++ [D],b<C:=λb hb=>(T8.mp hb).elim (λz=>by have:=ltf b z;rw [CD];exact g0 this) λz=>by rw [P1.mp z,CD];exact V1 _
 have okX:X'.Ok:=by
  subst hX;refine⟨I.ok.mod,S.kind,I.ok.glob,I.ok.blt,W3 hC,λx y c e1 e2=> ?_,λx hx=> ?_,λx c z e=> ?_,I.ok.hd,I.ok.frames,.inl rfl,λb hb=>⟨M0 (ltb b hb),λx c e=>(cl x c e).elim (λz=>(hf b hb).2.2.2.2.1 x c z) λz=>Z0 (cB (ltb b hb) z)⟩,
   I3.bs,S0 I.ok.bsz I3.sz,λb o e hb=> ?_,λb hb z=> ?_,I3.stack,I3.stkFree⟩
  ·rcases wD S e1 with ⟨_,z1⟩|⟨_,z1⟩<;>rcases wD S e2 with ⟨_,z2⟩|⟨_,z2⟩
   ·exact I.ok.inj x y c z1 z2
   ·exact absurd (cB (olt x c z1) (gZ (hcl₁ y c z2).2)) (N7 _)
   ·exact absurd (cB (olt y c z2) (gZ (hcl₁ x c z1).2)) (N7 _)
   ·exact qL hap₁ z1 z2
  ·have own:scope.names.lookup x=some .cell-> ∃c,(jE X scope C).lookup x=some c:=λz=>by
    obtain⟨c,hc⟩:=yr (sc:=scope) (n:=C+1) z;exact⟨c,by unfold jE;rw [jI,vQ,hc]⟩
   have shr:scope.names.lookup x=some .free-> ∃c,(jE X scope C).lookup x=some c:=λz=>by
    have fm:=zY z;obtain⟨c,hc⟩:=I.ok.has x (S.free _ fm rfl);exact⟨c,Jg S hc fm (by rw [z];decide)⟩
   rcases hx with hx|hx
   ·rcases jL (env:=X.env) hx with z|z
    ·exact own z
    ·exact shr z
   ·rcases jL (env:=X.env) hx with z|z<;>exact shr z
  ·have z':scope.names.lookup x=some .cell:=by
    have z2:(scope.names.lookup x==some cM)=true:=z;simpa using z2
   rcases wD S e with ⟨n,_⟩|⟨_,m⟩
   ·exact absurd z' n
   ·show h3.objs.size<=c;rw [hC];exact T4 (gZ (hcl₁ x c m).2)
  ·rcases (hf b hb).2.2.2.1 with z|z
   ·exact I.ok.noex b o e z
   ·exact absurd (S7 (P9 e) (S0 I.ok.bsz z)) (N7 _)
  ·rcases D2.mp (I.stkSub b z) with q|q
   ·exact(hf b hb).2.1 q
   ·exact(hf b hb).2.2.1 q
 -- the block's first state
 have I4:Inv X' [(D,fY [])] (wE js σ) H2 {s2 with heap:=h₁}:=by
  subst hX;have hDC:D≠C:=by rw [CD];exact M0 (V1 _)
  refine⟨okX,rfl,I2.bare,Un.kept (λb u e=>upC b u e),⟨_,hns₁,λi x v e1 e2 e3=> ?_⟩,λx c e=> ?_,I3.hok.fresh (W3 hC),λx c e=>(cl x c e).elim (λz=>I2.freeC x c z) (λz=>I3.hok.fresh (by rw [<-hC] at z;exact T4 z)),λp hp=> ?_,I3.hok.kept upC,(Wd js σ).trans I2.len⟩
  ·have fr:scope.names.lookup x=some .free:=by
    rcases e3 with e3|e3|e3
    ·rcases jL (env:=X.env) e3 with z|z
     ·exact absurd e2 (zZ js σ i v (S.js i x e1 (.inl z)))
     ·exact z
    ·rcases jL (env:=X.env) e3 with z|z
     ·exact absurd e2 (zZ js σ i v (S.js i x e1 (.inr z)))
     ·exact z
    ·rcases jL (env:=X.env) e3 with z|z<;>exact z
   have fm:=zY fr;obtain⟨m,hm,hl⟩:=I2.loc;have vis:=S.free _ fm rfl;obtain⟨u,r,lk⟩:=hl i x v e1 (JZ js σ i v e2) (.inr vis);have kd:(relabel scope X.env).names.lookup x=some .cell\/(relabel scope X.env).names.lookup x=some .free:=by
    rcases e3 with e3|e3|e3
    ·rcases jL (env:=X.env) e3 with z|z
     ·rw [fr] at z;cases z
     ·exfalso;have z2:=e3
      -- a local's kind stays
      exact absurd e2 (zZ js σ i v (S.js i x e1 (.inl (by
       have q: ∀ (l:G0 (Str×NameKind)),(l.map λ(n,k)=>if (k==A8&&X.env.scope.kind== .function&&X.env.kindOf n==some .cell) then (n,cM) else (n,k)).lookup x=some .local->l.lookup x=some .local:=by
        intro l
        induction l with
        |nil=>intro h;simp at h
        |cons p l ih=>
         obtain⟨n,k'⟩:=p;intro h;have h':List.lookup x ((if (k'==A8&&X.env.scope.kind== .function&&X.env.kindOf n==some .cell)=true then (n,cM) else (n,k'))::(l.map λ(n,k)=>if (k==A8&&X.env.scope.kind== .function&&X.env.kindOf n==some .cell) then (n,cM) else (n,k)))=some .local:=h;rw [E8]
         by_cases hc:(k'==A8&&X.env.scope.kind== .function&&X.env.kindOf n==some .cell)=true
         ·rw [R6 hc,E8] at h';cases hx:x==n with
          |true=>rw [hx] at h';cases h'
          |false=>rw [hx] at h';exact ih h'
         ·rw [R8 hc,E8] at h';cases hx:x==n with
          |true=>rw [hx] at h';exact h'
          |false=>rw [hx] at h';exact ih h'
       exact q _ z2))))
    ·exact .inl e3
    ·exact .inr e3
   rcases lk with ⟨k,_⟩|⟨_,c,hc,hcell⟩
   ·have k':X.env.scope.names.lookup x=some .local:=k;rcases vis with z|z<;>(rw [k'] at z;cases z)
   ·refine⟨u,r,.inr ⟨kd,c,Jg S hc fm (by rw [fr];decide),?_⟩⟩;obtain⟨o,ho,hd⟩:=hcell;exact⟨o,upC _ _ (up3 _ _ ho),hd⟩
  ·rcases wD S e with ⟨_,z⟩|⟨_,z⟩
   ·obtain⟨v,o,ho,hd⟩:=I2.cell x c z;exact⟨v,o,upC _ _ (up3 _ _ ho),hd⟩
   ·exact⟨none,(hcl₁ x c z).1⟩
  ·have hp':p∈ [(D,fY [])]:=hp;rcases P1.mp hp' with rfl
   refine⟨upC _ _ hD3,fD.1,hDC,λz=> ?_,λv z=>by cases z⟩;rcases D2.mp (I.stkSub D z) with q|q
   ·exact fD.2.1 q
   ·exact fD.2.2.1 q
 have st4:tn 0 h₁:=T.keep _ _ _ st2 λb _ o e=>upC _ _ (up3 _ _ e)
 have eA:X'.A=X.A:=by rw [<-hX];rfl
 have eP:X'.prog=X.prog:=by rw [<-hX];rfl
 have eW:X'.w=X.w:=by rw [<-hX];rfl
 have eK:X'.K=X.K:=by rw [<-hX];rfl
 have eC:X'.calm=true:=by rw [<-hX];exact hc
 have eV:X'.env=uE scope (jE X scope C) C X.env:=by rw [<-hX];rfl
 have eE:X'.xe=λ_ _=>False:=by rw [<-hX];rfl
 -- what stays true of the iterator's objects
 have stat: ∀ {us:G0 G1} {H':Hp},(∀b∈fp,H' b=none)-> ∀b∈fp,QL X' [(D,fY us)] H' b:=λ{us H'} hn b hb=>by
  have q:=hf b (A7 _ hb);subst hX;refine⟨hn b hb,M0 (ltb b (A7 _ hb)),λz=> ?_,.inl (A7 _ hb),λx c e=>(cl x c e).elim (λz=>q.2.2.2.2.1 x c z) (λz=>Z0 (cB (ltb b (A7 _ hb)) z)),λp hp=> ?_⟩
  ·rcases D2.mp (I.stkSub b z) with r|r
   ·exact q.2.1 r
   ·exact q.2.2.1 r
  ·have hp':p∈ [(D,fY us)]:=hp;rcases P1.mp hp' with rfl
   exact Z0 (ltf b hb)
 have loop: ∀s₃:G2,s₃= {s2 with heap:=h₁}->
  bX (R7 X.prog X.w) X.A (.compLoop (.ListComp elt (⟨tg,iter,ifs,0⟩::rest) scope pos) 0 (.ref it) (.ref D) (uE scope (jE X scope C) C X.env))
   (compPost (R7 X.prog X.w) X.A X.xe use Qv (.ref D) C) s₃:=by
  rintro s₃ rfl;refine Ru (act:=act (uE scope (jE X scope C) C X.env) (.ref D)) (λn s'=> ∃i ys us H',Vals ys us/\Inv X' [(D,fY us)] (wE js σ) H' s'/\tn i s'.heap/\(∀b∈fp,H' b=none)/\W i n ys H') (hturn _ _ _) ?_ m0
   ⟨0,[],[],H2,.nil,I4,st4,λb hb=>(f2 b hb).1,w0⟩
  rintro n s5 ⟨i,ys,us,H5,hv5,I5,st5,fr5,w5⟩;obtain⟨hz,tr⟩:=turn i n ys H5 w5;rcases tr with ⟨stop,qn⟩|⟨go,step⟩
  ·have q:=T.done X' eP eW eK eC i _ s5 _ H5 (λ_ _=>False) I5 (stat fr5) st5 stop;rw [eA] at q;refine B1 q (λr s6 ⟨hr,I6⟩=> ?_) λ_ _ z=>z
   subst hr;obtain⟨m6,hm6,_⟩:=I6.loc;rw [eV] at hm6;have zD:=I6.pin (D,fY us) (M1 _ P7);have HD:H5 D=none:=zD.2.1;have oD:s6.heap.get? D=some (fY us):=zD.1;have hDC:D≠C:=by rw [CD];exact M0 (V1 _)
   have HC:H5 C=none:=by have z:=I6.free;rw [eV] at z;exact z
   have B:=I6.base;have os6:s6.os=s2.os:=by have z:=I6.os;rw [<-hX] at z;exact z
   have Bu:Un (frs X.stack) (fp++ [D]) H2 H5 h3 s6.heap:=by rw [<-hX] at B;exact B
   have neC: ∀b o,h3.get? b=some o->b≠C:=λb o e=>by rw [<-hC];exact M0 (P9 e)
   refine fin D C (upd H5 D (.lst ys)) s6 m6 hm6 (λh' hs'=> ?_) (by rw [jf (U9 hDC)];exact HC) ?_ ?_ ?_ (λx c e=>M0 (olt x c e)) ?_ (qn D HD)
   ·have hk5:HOk X.prog X.w H5 h':=λb u e=>by
     have z:=I6.hok b u e;rw [eP,eW] at z;refine z.stay (λc v hc q=>hs'.extBut c v ?_ q) (λ_ q=>q) λ_ _ q=>q
     rcases hc with rfl|hc
     ·exact jg e HC
     ·exact jg hc HC
    refine I3.call' (ch:=fp++ [D]) os6 ⟨λb o e n hb hx=> ?_,λb o e n hb hx=> ?_,λb o e n hx=> ?_,λb o e hx=> ?_,λb xs e=> ?_,λb o u e=> ?_,λb ps e=> ?_⟩ (hk5.track HD ?_) I6.bare λb hb=> ?_
    ·exact hs'.extBut b o (neC b o e) (Bu.keep b o e n hb hx)
    ·obtain⟨sl,q⟩:=Bu.slot b o e n hb hx;exact⟨sl,hs'.extBut b _ (neC b o e) q⟩
    ·rw [jf λz=>hx (by rw [z];exact M1 _ P7)];exact Bu.free b o e n hx
    ·obtain⟨o',q⟩:=Bu.there b o e hx;exact⟨o',hs'.extBut b _ (neC b o e) q⟩
    ·have z:=Bu.tups b xs e;rw [jf (jg z HD)];exact z
    ·have z:=Bu.frzs b o u e;rw [jf (jg z HD)];exact z
    ·obtain⟨more,z⟩:=Bu.tbls b ps e;exact⟨more,by rw [jf (jg z HD)];exact z⟩
    ·exact⟨hz,us,us.length,hv5,hs'.extBut D _ hDC oD⟩
    ·have q:=hf b hb;exact⟨q.2.2.2.1,q.2.1,q.2.2.2.2.1,q.2.2.2.2.2⟩
   ·rw [<-hC];exact Z0 I3.lt
   ·exact I3.nofs (W3 hC)
   ·rw [<-hC];exact I3.sz
   ·intro p hp;have:=(I3.pin p hp).1;rw [<-hC];exact M0 (P9 this)
  ·have q:=T.item X' eP eW eK eC i _ s5 _ H5 (λ_ _=>False) I5 (stat fr5) st5 go;rw [eA] at q;refine B1 q (λr s6 ⟨u,hr,h6⟩=> ?_) λ_ _ z=>z
   subst hr;refine B1 h6 (λ_ s7 ⟨x,H7,I7,r7,y7,st7,fr7⟩=> ?_) λ_ _ z=>z
   have I7':=I7.pinned (stat fr7) (T.obj _ _ st7);have q7:=hg X' iX _ s7 _ H7 x u _ I7' r7 (step x H7 y7);rw [eP,eW,eA,eV,eE] at q7;refine B1 q7 (λ_ s8 ⟨σ8,H8,I8,ag8,q8⟩=> ?_) λ_ _ z=>z
   have q9:=ht X' iX _ s8 σ8 H8 _ I8 q8;rw [eP,eW,eA,eV,eE] at q9;refine B1 q9 (λok s9 ⟨H9,I9,q9⟩=> ?_) λ_ _ z=>z
   have keepT: ∀ {σ':St} {H':Hp} {s':G2} {us:G0 G1},Inv X' ([(D,fY us)]++JH fp s7.heap) σ' H' s'->tn (i+1) s'.heap/\ ∀b∈fp,H' b=none:=λ{σ' H' s' us} I'=>
    ⟨T.keep _ _ _ st7 λb hb o e=>(I'.pin (b,o) (M1 _ (M1 _ (yq hb e)))).1,λb hb=>by
     obtain⟨o,e,_⟩:=T.obj _ _ st7 b hb;exact(I'.pin (b,o) (M1 _ (M1 _ (yq hb e)))).2.1⟩
   cases ok with
   |false=>
    have q9: ∃m',m'<n/\W (i+1) m' ys H9:=q9;obtain⟨m',hm,w9⟩:=q9;obtain⟨t9,f9⟩:=keepT I9;exact⟨m',hm,i+1,ys,us,H9,hv5,(I9.unpinned).weak ag8.1.symm ag8.2,t9,f9,w9⟩
   |true=>
    have q9:tm σ8 H9 ys λys' H4=> ∃m',m'<n/\W (i+1) m' ys' H4:=q9
    have DX:D∈X'.ex:=by rw [<-hX];exact M1 _ P7
    have pD: ∀p∈X'.pn++JH fp s7.heap,p.1≠D:=λp hp=>by
     have hp':p∈JH fp s7.heap:=by rw [<-hX] at hp;simpa [yI] using hp
     exact M0 (ltf _ (Yq hp').1)
    have cD: ∀x c,X'.env.cells.lookup x=some c->c≠D:=λx c e=>by
     rw [eV] at e;exact(cl x c e).elim (λz=>fD.2.2.2.2.1 x c z) λz=>Z0 (cB (by rw [CD];exact V1 _) z)
    have q10:=he X' iX D _ s9 σ8 H9 ys us _ I9 hv5 hz DX cD pD q9;rw [eP,eW,eA,eV] at q10;show R3 _ _ (act _ _) _ _ s9;refine B1 q10 (λ_ s10 ⟨ys',us',H10,hv10,I10,m',hm,w10⟩=> ?_) λ_ _ z=>z
    obtain⟨t10,f10⟩:=keepT I10;exact⟨m',hm,i+1,ys',us',H10,hv10,(I10.unpinned).weak ag8.1.symm ag8.2,t10,f10,w10⟩
 exact codeAny_compStart_list (loop _ rfl) (T.self X.A 0 _ _ _ st4 (loop _ rfl))
theorem LJ {te:TE}(hc:X.calm=true)(S:BlockOk X scope js)(hi:PI X tg iter wi)
 (hg: ∀X',jx X scope X'->PG X' tg g)(ht: ∀X',jx X scope X'->PTs X' ifs tt)(he: ∀X',jx X scope X'->PE X' elt te)
 (hs: ∀x,O4 iter X.env x=pure x:=by intro _;rfl):PE X (.ListComp elt [⟨tg,iter,ifs,0⟩] scope pos) (tLC js wi g tt te):=by
 intro pins s σ H Q I h;rw [eval_ListComp];exact Nj (use:=none) hc S hi rfl hg ht (UA elt) (λ_ _ _=>rfl) (λX' hX D=>UB (by obtain⟨_,_,_,_,rfl⟩:=hX;rfl) (he X' hX)) hs I h
  λD C H' s' m hn hk _ _ _ _ _ _ q=>⟨m,hn,λh' hs'=>⟨.ref D,H',hk h' hs',rfl,q⟩⟩
theorem By {e:N0}{rest:G0 pM}{pos' spos:Pos}{g':TG}{tm:TM}(hc:X.calm=true)(S:BlockOk X scope js)(hi:PI X tg iter wi)
 (he0:e= .ListComp elt (⟨tg,iter,ifs,0⟩::rest) scope pos)(hg: ∀X',jx X scope X'->PG X' tg g)(ht: ∀X',jx X scope X'->PTs X' ifs tt)
 (act:Env->G1->Sem Unit)(hturn: ∀it acc env,uF e 0 it acc env=Uz iter tg ifs it env (act env acc) (.compLoop e 0 it acc env))(he: ∀X',jx X scope X'-> ∀D,EH X' D (act X'.env (.ref D)) tm)
 (hg':PG X (.Name x pos') g')(hsw:cO e (some (.Name x pos')) spos.line X.env=pure true)
 (hs: ∀x,O4 iter X.env x=pure x):PS X (.Assign [.Name x pos'] e spos) (Ba (EI js wi g tt tm) g'):=by
 intro pins s σ H Dn I h;rw [exec_Assign_Name_used _ _ _ _ hsw];refine wpAny_bind (mF (wpAny_bind ?_));subst he0;rw [arm_evalThenUse_ListComp];show R3 _ X.A (do let _ <-w6 (.ListComp elt (⟨tg,iter,ifs,0⟩::rest) scope pos) scope X.env _ (newList []) false (J0 iter X.env) (some (i5 (.Name x pos') X.env))) _ _ s;refine wpAny_bind (B1 (Nj (use:=some (i5 (.Name x pos') X.env)) (Qv:=λ_ s'=>SP X pins Dn .next s') hc S hi rfl hg ht act hturn he hs I h ?_) (λ_ s' hq=>G8 (G8 hq)) λ_ _ e=>e);intro D C H' s' m hn hk HC nL nf sz ncell npin q;show R3 _ X.A (i5 (.Name x pos') X.env (.ref D)) _ _ s';obtain⟨o,es,ep,ho,hd,hr⟩:=id hn;have I1:Inv X pins σ H' s':=hk s'.heap (cC ..);have I2:Inv X (pins++ [(C,o)]) σ H' s':=I1.pins_of λp hp=>by
  rcases T8.mp hp with z|z
  ·exact I1.pin p (M1 _ z)
  ·rcases P1.mp z with rfl
   exact⟨ho,HC,nL,nf,λv z=>by rw [hd] at z;cases z⟩
 refine B1 (hg' _ s' σ H' (.ref D) (.ref D) _ I2 rfl q) (λ_ s3 ⟨σ3,H3,I3,q3⟩=> ?_) λ_ _ z=>z
 have pC:=I3.pin (C,o) (M1 _ (M1 _ P7));refine⟨m,hn.at' λo' e'=> ?_,λh' hs'=> ?_⟩
 ·rw [ho] at e';cases e';exact pC.1
 ·exact⟨σ3,H3,(I3.unpinned).turned (t':=s3.toks) (it:=C) (λb o hb e=>hs'.extBut b o hb e) pC.2.1 nL (.inr sz) ncell npin,q3⟩
theorem Rv {pos' spos:Pos}{g':TG}{te:TE}(hc:X.calm=true)(S:BlockOk X scope js)(hi:PI X tg iter wi)
 (hg: ∀X',jx X scope X'->PG X' tg g)(ht: ∀X',jx X scope X'->PTs X' ifs tt)(he: ∀X',jx X scope X'->PE X' elt te)
 (hg':PG X (.Name x pos') g')(hsw:cO (.ListComp elt [⟨tg,iter,ifs,0⟩] scope pos) (some (.Name x pos')) spos.line X.env=pure true)
 (hs: ∀x,O4 iter X.env x=pure x:=by intro _;rfl):PS X (.Assign [.Name x pos'] (.ListComp elt [⟨tg,iter,ifs,0⟩] scope pos) spos) (Ba (tLC js wi g tt te) g'):=
 By hc S hi rfl hg ht (UA elt) (λ_ _ _=>rfl) (λX' hX D=>UB (by obtain⟨_,_,_,_,rfl⟩:=hX;rfl) (he X' hX)) hg' hsw hs
inductive D where
 |non|bl (b:T5)|int (i:D3)|str (x:Str)|tup (ds:G0 D)|lst (a:G9)|dic (x:Str) (i:D3)|dct (a:G9)|scr (ns:G0 D3)|exc (C:G9)|fn (a:G9)
def Scr (K:G5)(H:Hp)(a:G9)(ns:G0 D3):Prop:=
 (∃o,H a=some (.frz o (.lst (ns.map V.int))))\/
  ∃ (o:Obj) (its:S6 G1) (n:G7),K.lookup a=some o/\o.cls= .type "list" /\o.dict=none/\o.data= .seq its n/\its.size<=sizeLine/\Vals (ns.map V.int) its.toList
theorem Scr.sq {K:G5}{H:Hp}{a:G9}{ns:G0 D3}(h:Scr K H a ns):SqL K H a (ns.map V.int):=h.elim (λz=> .inl (.inr z)) .inr
mutual
def RelD (K:G5)(H:Hp):D->V->Prop
 | .non,v=>v= .non
 | .bl b,v=>v= .bl b
 | .int i,v=>v= .int i
 | .str x,v=>v= .str x
 | .tup ds,v=> ∃a vs,v= .ref a/\H a=some (.tup vs)/\RelDs K H ds vs
 | .lst a,v=>v= .ref a/\ ∃vs,H a=some (.lst vs)
 | .dic x i,v=> ∃a,v= .ref a/\H a=some (.dK [(bV x,V.int i)])
 | .dct a,v=>v= .ref a
 | .scr ns,v=> ∃a,v= .ref a/\Scr K H a ns
 | .exc C,v=> ∃x o vs,v= .ref x/\H x=some (.frz o (.own 0))/\o.cls= .ref C/\o.data= .fields vs
 | .fn a,v=>v= .ref a/\Q4 K (.ref a)=true
def RelDs (K:G5)(H:Hp):G0 D->G0 V->Prop
 | [],vs=>vs= []
 |d::ds,vs=> ∃v r,vs=v::r/\RelD K H d v/\RelDs K H ds r
end
structure Kept (H H':Hp):Prop where
 tup: ∀a xs,H a=some (.tup xs)->H' a=some (.tup xs)
 lst: ∀a xs,H a=some (.lst xs)-> ∃ys,H' a=some (.lst ys)
 dic: ∀a x i,H a=some (.dK [(bV x,V.int i)])->H' a=some (.dK [(bV x,V.int i)])
 frz: ∀a o u,H a=some (.frz o u)->H' a=some (.frz o u)
theorem Kept.refl (H:Hp):Kept H H:=⟨λ_ _ h=>h,λ_ xs h=>⟨xs,h⟩,λ_ _ _ h=>h,λ_ _ _ h=>h⟩
theorem Kept.trans {A B C:Hp}(x:Kept A B)(y:Kept B C):Kept A C:=
 ⟨λa xs h=>y.tup a xs (x.tup a xs h),λa xs h=>let ⟨_,e⟩:=x.lst a xs h;y.lst a _ e,λa k i h=>y.dic a k i (x.dic a k i h),λa o u h=>y.frz a o u (x.frz a o u h)⟩
theorem Kept.new {H:Hp}{p:G9}{o:HO}(h:H p=none):Kept H (upd H p o):=
 ⟨λa xs e=>by rw [jf (jg e h)];exact e,λa xs e=>⟨xs,by rw [jf (jg e h)];exact e⟩,λa k i e=>by rw [jf (jg e h)];exact e,λa o u e=>by rw [jf (jg e h)];exact e⟩
theorem Kept.put {H:Hp}{p:G9}{xs ys:G0 V}(h:H p=some (.lst xs)):Kept H (upd H p (.lst ys)):=
 ⟨λa zs e=>by rw [jf (Xx e h (by intro z;cases z))];exact e,λa zs e=>by
  by_cases q:a=p
  ·subst q;exact⟨ys,jh⟩
  ·exact⟨zs,by rw [jf q];exact e⟩,
  λa k i e=>by rw [jf (Xx e h (by intro z;cases z))];exact e,λa o u e=>by rw [jf (Xx e h (by intro z;cases z))];exact e⟩
def DObj (o:HO):Prop:=(∃kvs:G0 (D3×V),o= .dK (kvs.map λp=>((lL p.1:Key),p.2)))\/ ∃φ,o= .ext φ
theorem DObj.no {o:HO}(d:DObj o):(∀xs,o≠ .tup xs)/\(∀xs,o≠ .lst xs)/\(∀x i,o≠ .dK [(bV x,V.int i)])/\(∀p u,o≠ .frz p u)/\ ∀ps,o≠ .tbl ps:=by
 rcases d with ⟨kvs,rfl⟩|⟨φ,rfl⟩
 ·refine⟨λ_ z=>(nomatch z),λ_ z=>(nomatch z),λx i z=> ?_,λ_ _ z=>(nomatch z),λ_ z=>(nomatch z)⟩;injection z with z
  cases kvs with
  |nil=>cases z
  |cons p r=>injection z with z _;injection z with z _;cases z
 ·exact⟨λ_ z=>(nomatch z),λ_ z=>(nomatch z),λ_ _ z=>(nomatch z),λ_ _ z=>(nomatch z),λ_ z=>(nomatch z)⟩
mutual
theorem RelD.mono {K:G5}{H H':Hp}(k:Kept H H'): ∀ {d:D} {v:V},RelD K H d v->RelD K H' d v
 | .non,_,h=>h
 | .bl _,_,h=>h
 | .int _,_,h=>h
 | .str _,_,h=>h
 | .tup ds,v,h=>by
  obtain⟨a,vs,e,h1,h2⟩:=(show ∃a vs,v= .ref a/\H a=some (.tup vs)/\RelDs K H ds vs from h);exact⟨a,vs,e,k.tup _ _ h1,RelDs.mono k h2⟩
 | .lst a,v,h=>by
  obtain⟨e,vs,h1⟩:=(show v= .ref a/\ ∃vs,H a=some (.lst vs) from h);exact⟨e,k.lst _ _ h1⟩
 | .dic x i,v,h=>by
  obtain⟨a,e,h1⟩:=(show ∃a,v= .ref a/\H a=some (.dK [(bV x,V.int i)]) from h);exact⟨a,e,k.dic _ _ _ h1⟩
 | .dct a,v,h=>h
 | .scr ns,v,h=>by
  obtain⟨a,e,h1⟩:=(show ∃a,v= .ref a/\Scr K H a ns from h);exact⟨a,e,h1.elim (λ⟨o,z⟩=> .inl ⟨o,k.frz _ _ _ z⟩) .inr⟩
 | .exc C,v,h=>by
  obtain⟨x,o,vs,e,h1,r⟩:=(show ∃x o vs,v= .ref x/\H x=some (.frz o (.own 0))/\o.cls= .ref C/\o.data= .fields vs from h);exact⟨x,o,vs,e,k.frz _ _ _ h1,r⟩
 | .fn a,v,h=>h
theorem RelDs.mono {K:G5}{H H':Hp}(k:Kept H H'): ∀ {ds:G0 D} {vs:G0 V},RelDs K H ds vs->RelDs K H' ds vs
 | [],_,h=>h
 |d::ds,vs,h=>by
  obtain⟨v,r,e,h1,h2⟩:=(show ∃v r,vs=v::r/\RelD K H d v/\RelDs K H ds r from h);exact⟨v,r,e,RelD.mono k h1,RelDs.mono k h2⟩
end
section
variable {K:G5}{H:Hp}
theorem RelDs.nil:RelDs K H [] []:=rfl
theorem RelDs.cons {d:D}{v:V}{ds:G0 D}{vs:G0 V}(h:RelD K H d v)(t:RelDs K H ds vs):RelDs K H (d::ds) (v::vs):=⟨v,vs,rfl,h,t⟩
theorem RelDs.length: ∀ {ds:G0 D} {vs:G0 V},RelDs K H ds vs->ds.length=vs.length
 | [],_,h=>by cases (show _= [] from h);rfl
 |d::ds,vs,h=>by
  obtain⟨v,r,e,_,h2⟩:=(show ∃v r,vs=v::r/\RelD K H d v/\RelDs K H ds r from h);subst e;simp [RelDs.length h2]
theorem RelDs.append: ∀ {ds es:G0 D} {vs us:G0 V},RelDs K H ds vs->RelDs K H es us->RelDs K H (ds++es) (vs++us)
 | [],_,_,_,h,g=>by cases (show _= [] from h);exact g
 |d::ds,es,vs,us,h,g=>by
  obtain⟨v,r,e,h1,h2⟩:=(show ∃v r,vs=v::r/\RelD K H d v/\RelDs K H ds r from h);subst e;exact .cons h1 (RelDs.append h2 g)
theorem RelDs.get: ∀ {ds:G0 D} {vs:G0 V} {i:G7} {d:D},RelDs K H ds vs->ds[i]? =some d-> ∃v,vs[i]? =some v/\RelD K H d v
 |d'::ds,vs,i,d,h,e=>by
  obtain⟨v,r,q,h1,h2⟩:=(show ∃v r,vs=v::r/\RelD K H d' v/\RelDs K H ds r from h);subst q;cases i with
  |zero=>simp at e;subst e;exact⟨v,rfl,h1⟩
  |succ i=>
   obtain⟨u,q1,q2⟩:=RelDs.get h2 (i:=i) (d:=d) (by simpa using e);exact⟨u,by simpa using q1,q2⟩
theorem RelDs.take (n:G7): ∀ {ds:G0 D} {vs:G0 V},RelDs K H ds vs->RelDs K H (ds.take n) (vs.take n):=by
 induction n with
 |zero=>intro ds vs _;exact(rfl:RelDs K H [] [])
 |succ n ih=>
  intro ds vs h;cases ds with
  |nil=>cases (show vs= [] from h);exact .nil
  |cons d ds=>
   obtain⟨v,r,e,h1,h2⟩:=(show ∃v r,vs=v::r/\RelD K H d v/\RelDs K H ds r from h);subst e;exact .cons h1 (ih h2)
theorem RelDs.drop (n:G7): ∀ {ds:G0 D} {vs:G0 V},RelDs K H ds vs->RelDs K H (ds.drop n) (vs.drop n):=by
 induction n with
 |zero=>intro ds vs h;exact h
 |succ n ih=>
  intro ds vs h;cases ds with
  |nil=>cases (show vs= [] from h);exact .nil
  |cons d ds=>
   obtain⟨v,r,e,h1,h2⟩:=(show ∃v r,vs=v::r/\RelD K H d v/\RelDs K H ds r from h);subst e;exact ih h2
theorem RelDs.set {d:D}{v:V}(q:RelD K H d v): ∀ {ds:G0 D} {vs:G0 V} (i:G7),RelDs K H ds vs->RelDs K H (ds.set i d) (vs.set i v)
 | [],_,_,h=>by cases (show _= [] from h);exact .nil
 |e::ds,vs,i,h=>by
  obtain⟨u,r,z,h1,h2⟩:=(show ∃u r,vs=u::r/\RelD K H e u/\RelDs K H ds r from h);subst z;cases i with
  |zero=>exact .cons q h2
  |succ i=>exact .cons h1 (RelDs.set q i h2)
theorem wF: ∀ns:G0 D3,RelDs K H (ns.map D.int) (ns.map V.int)
 | []=> .nil
 |n::ns=> .cons rfl (wF ns)
end
inductive DC where
 |ik (kv:G0 (D3×D))
 |tk (ep:G7) (kv:G0 (G0 (G0 D3)×D))
structure HD where
 ls:G9->P4 (G0 D)
 dc:G9->P4 DC
instance:CoeFun HD λ_=>G9->P4 (G0 D):=⟨HD.ls⟩
def zR (h:HD)(a:G9)(ds:G0 D):HD:=⟨λb=>if b=a then some ds else h b,h.dc⟩
def Yz (h:HD)(a:G9):HD:=⟨λb=>if b=a then none else h b,h.dc⟩
theorem jc {h:HD}{a:G9}{ds:G0 D}:zR h a ds a=some ds:=R6 rfl
theorem wb {h:HD}{a b:G9}{ds:G0 D}(e:b≠a):zR h a ds b=h b:=R8 e
theorem wG {h:HD}{a:G9}{ds:G0 D}(e:h a=none):Yz (zR h a ds) a=h:=by
 obtain⟨l,d⟩:=h;refine congrArg (HD.mk · d) ?_
 funext b
 show (if b=a then none else if b=a then some ds else l b)=l b
 by_cases q:b=a
 ·subst q;rw [R6 rfl];exact e.symm
 ·rw [R8 q,R8 q]
def LN:G0 Str:= ["law","_law_right","_law_words","_law_other_words","_law_many_right","_law_all","_law_told_row","_law_all_right","_law_desk_right","_law_signs_right","_law_lists_right","_law_text_right"]
def TabK (K:G5)(P:G9):Prop:= ∃x∈LN,∃c,mI K x=some (c,P)
def CodesOk (H:Hp)(ps:S6 G1):Prop:=iN ps.toList/\ ∀pos cv,mR pos ps.toList=some cv-> ∃ (c:G9) (o:Obj) (vs:S6 G1) (q:Str) (t:Tok),cv= .ref c/\H c=some (.frz o (.own 0))/\o.data= .fields vs/\vs[1]? =some (.str q t)
def CTabs (K:G5)(H:Hp):Prop:= ∀P,TabK K P-> ∃ps,H P=some (.tbl ps)/\CodesOk H ps
theorem CodesOk.mono {H H':Hp}{ps:S6 G1}(k: ∀a o u,H a=some (.frz o u)->H' a=some (.frz o u))(c:CodesOk H ps):CodesOk H' ps:=
 ⟨c.1,λpos cv e=>let ⟨c',o,vs,q,t,e1,e2,r⟩:=c.2 pos cv e;⟨c',o,vs,q,t,e1,k _ _ _ e2,r⟩⟩
theorem CTabs.mono {K:G5}{H H':Hp}(x:CTabs K H)(k: ∀a o u,H a=some (.frz o u)->H' a=some (.frz o u))(kt: ∀a ps,H a=some (.tbl ps)->H' a=some (.tbl ps)):CTabs K H':=λP hP=>
 let ⟨ps,e,c⟩:=x P hP;⟨ps,kt _ _ e,c.mono k⟩
theorem CTabs.new {K:G5}{H:Hp}{p:G9}{o:HO}(x:CTabs K H)(e:H p=none):CTabs K (upd H p o):=
 x.mono (λa o' u h=>by rw [jf (jg h e)];exact h) λa ps h=>by rw [jf (jg h e)];exact h
theorem CTabs.put {K:G5}{H:Hp}{p:G9}{o:HO}{xs:G0 V}(x:CTabs K H)(e:H p=some (.lst xs)):CTabs K (upd H p o):=
 x.mono (λa o' u h=>by rw [jf (Xx h e (by intro z;cases z))];exact h) λa ps h=>by rw [jf (Xx h e (by intro z;cases z))];exact h
def Bz (T:G0 (G0 D3)):D3:=G0b (lI (T.map λr=>G0b (lI (r.map m5))))
def Ha (a:G9)(ep:G7)(xs:G0 (G0 (G0 D3)×G9×V)):HO:= .ext λh=>(a==sysModules)=false/\xs.length<=sizeLine/\ ∃ys:G0 (G0 (G0 D3)×G9×G1),Paired (λp q=>p.1=q.1/\p.2.1=q.2.1/\RelV p.2.2 q.2.2) xs ys/\
 ∃o es,h.get? a=some o/\o.ExactDict/\o.data= .dict es ep/\es.toList=ys.map λx=>⟨Bz x.1,.ref x.2.1,x.2.2⟩
def DRel (K:G5)(H:Hp)(a:G9):DC->Prop
 | .ik kv=> ∃kvs:G0 (D3×V),H a=some (.dK (kvs.map λp=>((lL p.1:Key),p.2)))/\kv.map (·.1)=kvs.map (·.1)/\RelDs K H (kv.map (·.2)) (kvs.map (·.2))
 | .tk ep kv=> ∃xs:G0 (G0 (G0 D3)×G9×V),H a=some (Ha a ep xs)/\(kv.map (·.1)).Nodup/\kv.map (·.1)=xs.map (·.1)/\(∀x∈xs,RelD K H (.tup (x.1.map λr=> .tup (r.map D.int))) (.ref x.2.1))/\RelDs K H (kv.map (·.2)) (xs.map (·.2.2))
theorem DRel.obj {K:G5}{H:Hp}{a:G9}: ∀ {c:DC},DRel K H a c-> ∃o,H a=some o/\DObj o
 | .ik _,⟨kvs,e,_⟩=>⟨_,e,.inl ⟨kvs,rfl⟩⟩
 | .tk _ _,⟨xs,e,_⟩=>⟨_,e,.inr ⟨_,rfl⟩⟩
theorem DRel.mono {K:G5}{H H':Hp}{a:G9}(k:Kept H H')(z: ∀o,H a=some o->H' a=some o): ∀ {c:DC},DRel K H a c->DRel K H' a c
 | .ik _,⟨kvs,e,q,r⟩=>⟨kvs,z _ e,q,r.mono k⟩
 | .tk _ _,⟨xs,e,n,q,t,r⟩=>⟨xs,z _ e,n,q,λx hx=>(t x hx).mono k,r.mono k⟩
structure RelH (K:G5)(h:HD)(H:Hp):Prop where
 ls: ∀a ds,h a=some ds-> ∃vs,H a=some (.lst vs)/\RelDs K H ds vs
 tb:CTabs K H
 dc: ∀a c,h.dc a=some c->DRel K H a c
instance {K:G5}{h:HD}{H:Hp}:CoeFun (RelH K h H) λ_=> ∀a ds,h a=some ds-> ∃vs,H a=some (.lst vs)/\RelDs K H ds vs:=⟨RelH.ls⟩
structure Sub (h h':HD):Prop where
 ls: ∀a ds,h a=some ds->h' a=some ds
 dc: ∀a c,h.dc a=some c->h'.dc a=some c
instance {h h':HD}:CoeFun (Sub h h') λ_=> ∀a ds,h a=some ds->h' a=some ds:=⟨Sub.ls⟩
theorem Sub.refl (h:HD):Sub h h:=⟨λ_ _ e=>e,λ_ _ e=>e⟩
theorem Sub.trans {a b c:HD}(x:Sub a b)(y:Sub b c):Sub a c:=⟨λd ds e=>y d ds (x d ds e),λd ds e=>y.dc d ds (x.dc d ds e)⟩
theorem Sub.drop (h:HD)(a:G9):Sub (Yz h a) h:=⟨λb ds e=>by
 have e:(if b=a then none else h b)=some ds:=e;split at e
 ·cases e
 ·exact e,λ_ _ e=>e⟩
theorem Sub.new {h:HD}{p:G9}{ds:G0 D}(e:h p=none):Sub h (zR h p ds):=⟨λa es q=>(by
 rw [wb];exact q;intro z;subst z;rw [e] at q;cases q),λ_ _ e=>e⟩
section
variable {K:G5}{h h':HD}{H:Hp}
theorem RelH.sub (r:RelH K h H)(s:Sub h' h):RelH K h' H:=⟨λa ds e=>r a ds (s a ds e),r.tb,λa c e=>r.dc a c (s.dc a c e)⟩
theorem RelH.free (r:RelH K h H){p:G9}(e:H p=none):h p=none:=by
 cases q:h p with
 |none=>rfl
 |some ds=>obtain⟨vs,z,_⟩:=r p ds q;rw [e] at z;cases z
theorem RelH.dcN (r:RelH K h H){p:G9}{o:HO}(e:H p=none): ∀a c,h.dc a=some c->DRel K (upd H p o) a c:=λa c q=>
 (r.dc a c q).mono (.new e) λu z=>by rw [jf (jg z e)];exact z
theorem RelH.new (r:RelH K h H){p:G9}{o:HO}(e:H p=none):RelH K h (upd H p o):=⟨λa ds q=>by
 obtain⟨vs,z,w⟩:=r a ds q;exact⟨vs,by rw [jf (jg z e)];exact z,w.mono (.new e)⟩,r.tb.new e,r.dcN e⟩
theorem RelH.newL (r:RelH K h H){p:G9}{ds:G0 D}{vs:G0 V}(e:H p=none)(q:RelDs K H ds vs):RelH K (zR h p ds) (upd H p (.lst vs)):=⟨λa es z=>by
 by_cases w:a=p
 ·subst w;rw [jc] at z;cases z;exact⟨vs,jh,q.mono (.new e)⟩
 ·rw [wb w] at z;obtain⟨us,z1,z2⟩:=r a es z;exact⟨us,by rw [jf w];exact z1,z2.mono (.new e)⟩,r.tb.new e,r.dcN e⟩
theorem RelH.put (r:RelH K h H){p:G9}{ds:G0 D}{vs us:G0 V}(e:H p=some (.lst us))(q:RelDs K H ds vs):RelH K (zR h p ds) (upd H p (.lst vs)):=⟨λa es z=>by
 by_cases w:a=p
 ·subst w;rw [jc] at z;cases z;exact⟨vs,jh,q.mono (.put e)⟩
 ·rw [wb w] at z;obtain⟨us,z1,z2⟩:=r a es z;exact⟨us,by rw [jf w];exact z1,z2.mono (.put e)⟩,r.tb.put e,λa c z=>(r.dc a c z).mono (.put e) λo w=>by
   obtain⟨u,w',d⟩:=(r.dc a c z).obj;rw [jf (Xx w' e (d.no.2.1 _))];exact w⟩
end
abbrev SD:=G0 (P4 D)
def RelS (K:G5)(H:Hp)(σd:SD)(σ:St):Prop:=σd.length=σ.length/\ ∀ (i:G7) (d:D),σd[i]? =some (some d)-> ∃v,σ[i]? =some (some v)/\RelD K H d v
theorem RelS.mono {K:G5}{H H':Hp}{σd:SD}{σ:St}(r:RelS K H σd σ)(k:Kept H H'):RelS K H' σd σ:=⟨r.1,λi d e=>let ⟨v,a,b⟩:=r.2 i d e;⟨v,a,b.mono k⟩⟩
theorem RelS.set {K:G5}{H:Hp}{σd:SD}{σ:St}{d:D}{v:V}(r:RelS K H σd σ)(q:RelD K H d v)(i:G7):RelS K H (σd.set i (some d)) (σ.set i (some v)):=⟨by simp [r.1],λj e h=>by
 by_cases z:i=j
 ·subst z;rw [gY] at h ⊢
  by_cases hl:i<σd.length
  ·rw [R6 rfl,R6 hl] at h;rw [R6 rfl,R6 (by rw [<-r.1];exact hl)];cases h;exact⟨v,rfl,q⟩
  ·rw [R6 rfl,R8 hl] at h;cases h
 ·rw [U4 z] at h ⊢;exact r.2 j e h⟩
theorem RelS.clear1 {K:G5}{H:Hp}{σd:SD}{σ:St}(r:RelS K H σd σ)(i:G7):RelS K H (σd.set i none) (σ.set i none):=⟨by simp [r.1],λj e h=>by
 by_cases z:i=j
 ·subst z;rw [gY] at h;split at h
  ·split at h<;>cases h
  ·contradiction
 ·rw [U4 z] at h ⊢;exact r.2 j e h⟩
def zi:G0 G7->SD->SD
 | [],σ=>σ
 |j::js,σ=>zi js (σ.set j none)
theorem RelS.clear {K:G5}{H:Hp}: ∀ (js:G0 G7) {σd:SD} {σ:St},RelS K H σd σ->RelS K H (zi js σd) (wE js σ)
 | [],_,_,r=>r
 |j::js,_,_,r=>RelS.clear js (r.clear1 j)
abbrev KD:=D->HD->Prop
abbrev TED:=SD->HD->KD->Prop
abbrev TTD:=SD->HD->(T5->HD->Prop)->Prop
abbrev TAD:=SD->HD->(G0 D->HD->Prop)->Prop
abbrev RD2:=D->D->HD->KD->Prop
abbrev RDn:=G0 D->HD->KD->Prop
structure EndsD where
 nx:SD->HD->Prop
 rt:KD
 bk:SD->HD->Prop:=λ_ _=>False
 ct:SD->HD->Prop:=λ_ _=>False
abbrev TSD:=EndsD->SD->HD->Prop
abbrev TGD:=D->SD->HD->(SD->HD->Prop)->Prop
def Nk (K:G5)(H:Hp)(Qd:KD)(Q:VK):Prop:= ∀d v h' H',Kept H H'->RelH K h' H'->RelD K H' d v->Qd d h'->Q v H'
def LE (K:G5)(t:TED):TE:=λσ H Q=> ∃σd h Qd,RelS K H σd σ/\RelH K h H/\t σd h Qd/\Nk K H Qd Q
def LT (K:G5)(t:TTD):TT:=λσ H Q=> ∃σd h Qd,RelS K H σd σ/\RelH K h H/\t σd h Qd/\ ∀b h' H',Kept H H'->RelH K h' H'->Qd b h'->Q b H'
def LA (K:G5)(t:TAD):TA:=λσ H Q=> ∃σd h Qd,RelS K H σd σ/\RelH K h H/\t σd h Qd/\ ∀ds vs h' H',Kept H H'->RelH K h' H'->RelDs K H' ds vs->Qd ds h'->Q vs H'
def LR (K:G5)(f:RD2):R2:=λx y H Q=> ∃dx dy h Qd,RelD K H dx x/\RelD K H dy y/\RelH K h H/\f dx dy h Qd/\Nk K H Qd Q
def LC (K:G5)(f:RDn):G0 V->Hp->VK->Prop:=λxs H Q=> ∃ds h Qd,RelDs K H ds xs/\RelH K h H/\f ds h Qd/\Nk K H Qd Q
def LG (K:G5)(g:TGD):TG:=λv σ H Q=> ∃d σd h Qd,RelD K H d v/\RelS K H σd σ/\RelH K h H/\g d σd h Qd/\ ∀σd' h' σ' H',Kept H H'->RelS K H' σd' σ'->RelH K h' H'->Qd σd' h'->Q σ' H'
def LS (K:G5)(t:TSD):TS:=λD₀ σ H=> ∃σd h Dd,RelS K H σd σ/\RelH K h H/\t Dd σd h/\
 (∀σd' h' σ' H',Kept H H'->RelS K H' σd' σ'->RelH K h' H'->Dd.nx σd' h'->D₀.nx σ' H')/\Nk K H Dd.rt D₀.rt/\
 (∀σd' h' σ' H',Kept H H'->RelS K H' σd' σ'->RelH K h' H'->Dd.bk σd' h'->D₀.bk σ' H')/\(∀σd' h' σ' H',Kept H H'->RelS K H' σd' σ'->RelH K h' H'->Dd.ct σd' h'->D₀.ct σ' H')
theorem PE.imp {X:Cx}{e:N0}{t t':TE}(h:PE X e t)(i: ∀σ H Q,t' σ H Q->t σ H Q):PE X e t':=λpins s σ H Q I q=>h pins s σ H Q I (i σ H Q q)
theorem PT.imp {X:Cx}{e:N0}{t t':TT}(h:PT X e t)(i: ∀σ H Q,t' σ H Q->t σ H Q):PT X e t':=λpins s σ H Q I q=>h pins s σ H Q I (i σ H Q q)
theorem PW.imp {X:Cx}{e:N0}{t t':TT}(h:PW X e t)(i: ∀σ H Q,t' σ H Q->t σ H Q):PW X e t':=λwh pins s σ H Q I q=>h wh pins s σ H Q I (i σ H Q q)
theorem PA.imp {X:Cx}{e:G0 N0}{t t':TA}(h:PA X e t)(i: ∀σ H Q,t' σ H Q->t σ H Q):PA X e t':=λpos pins s σ H Q I q=>h pos pins s σ H Q I (i σ H Q q)
theorem PS.imp {X:Cx}{e:K8}{t t':TS}(h:PS X e t)(i: ∀D σ H,t' D σ H->t D σ H):PS X e t':=λpins s σ H D I q=>h pins s σ H D I (i D σ H q)
theorem PSs.imp {X:Cx}{e:G0 K8}{t t':TS}(h:PSs X e t)(i: ∀D σ H,t' D σ H->t D σ H):PSs X e t':=λpins s σ H D I q=>h pins s σ H D I (i D σ H q)
theorem PG.imp {X:Cx}{e:N0}{t t':TG}(h:PG X e t)(i: ∀v σ H Q,t' v σ H Q->t v σ H Q):PG X e t':=λpins s σ H v u Q I r q=>h pins s σ H v u Q I r (i v σ H Q q)
theorem OpR.imp {X:Cx}{f:G1->G1->Sem G1}{r r':R2}(h:OpR X f r)(i: ∀x y H Q,r' x y H Q->r x y H Q):OpR X f r':=λpins s σ H x y v u Q I a b q=>h pins s σ H x y v u Q I a b (i x y H Q q)
theorem CallR.imp {X:Cx}{f:G1}{r r':G0 V->Hp->VK->Prop}(h:CallR X f r)(i: ∀xs H Q,r' xs H Q->r xs H Q):CallR X f r':=λpins s σ H xs us Q I a q=>h pins s σ H xs us Q I a (i xs H Q q)
def Gi (i:G7):TED:=λσ h Q=> ∃d,σ[i]? =some (some d)/\Q d h
def dC (d:D):TED:=λ_ h Q=>Q d h
def dOp (f:RD2)(ta tb:TED):TED:=λσ h Q=>ta σ h λx h1=>tb σ h1 λy h2=>f x y h2 Q
def We:TAD:=λ_ h Q=>Q [] h
def zw (ta:TED)(tr:TAD):TAD:=λσ h Q=>ta σ h λx h1=>tr σ h1 λxs h2=>Q (x::xs) h2
def LK (t:TAD):TED:=λσ h Q=>t σ h λds h1=>ds.length<=sizeLine/\Q (.tup ds) h1
def FJ (t:TAD):TED:=λσ h Q=>t σ h λds h1=>ds.length<=sizeLine/\ ∀p,h1 p=none->Q (.lst p) (zR h1 p ds)
def dCB (r:RDn)(t:TAD):TED:=λσ h Q=>t σ h λds h1=>r ds h1 Q
def vR (t:TED):TTD:=λσ h Q=>t σ h λx h1=> ∃k,x= .bl k/\Q k h1
def YA (r r':RD2)(ta tb tc:TED):TED:=λσ h Q=>ta σ h λx h1=>tb σ h1 λy h2=>r x y h2 λz h3=> ∃k,z= .bl k/\
 (if k=true then tc σ h3 λw h4=>r' y w h4 Q else Q (.bl false) h3)
def BB (t u:TTD):TTD:=λσ h Q=>t σ h λc h1=>if c=true then u σ h1 Q else Q false h1
def LL (t u:TTD):TTD:=λσ h Q=>t σ h λc h1=>if c=true then Q true h1 else u σ h1 Q
def Gj (t:TTD):TTD:=λσ h Q=>t σ h λc h1=>Q (!c) h1
def Rw (ta tb:TED):TED:=λσ h Q=>ta σ h λx h1=> ∃c,x= .bl c/\if c=true then tb σ h1 Q else Q (.bl false) h1
def EJ (ta tb:TED):TED:=λσ h Q=>ta σ h λx h1=> ∃c,x= .bl c/\if c=true then Q (.bl true) h1 else tb σ h1 Q
def Gk (ta:TED):TED:=λσ h Q=>ta σ h λx h1=> ∃c,x= .bl c/\Q (.bl (!c)) h1
section
variable {K:G5}
theorem LM (i:G7): ∀σ H Q,LE K (Gi i) σ H Q->Eh i σ H Q:=λσ H Q ⟨σd,h,Qd,rs,rh,⟨d,e,q⟩,p⟩=>let ⟨v,e1,e2⟩:=rs.2 i d e;⟨v,e1,p d v h H (.refl H) rh e2 q⟩
theorem LP {d:D}{v:V}(r: ∀H,RelD K H d v): ∀σ H Q,LE K (dC d) σ H Q->tC v σ H Q:=λσ H Q ⟨σd,h,Qd,rs,rh,q,p⟩=>p d v h H (.refl H) rh (r H) q
variable {H:Hp}
theorem jB {H1:Hp}{Qd:KD}{Q:VK}(p:Nk K H Qd Q)(k:Kept H H1):Nk K H1 Qd Q:=λd v h' H' k'=>p d v h' H' (k.trans k')
variable {ta:TED}
theorem LE.bind {σ:St}{σd:SD}{h:HD}{kd:KD}{k:VK}(rs:RelS K H σd σ)(rh:RelH K h H)(t:ta σd h kd)(f: ∀d v h' H',Kept H H'->RelS K H' σd σ->RelH K h' H'->RelD K H' d v->kd d h'->k v H'):LE K ta σ H k:=
 ⟨σd,h,kd,rs,rh,t,λd v h' H' kp r1 r2 q=>f d v h' H' kp (rs.mono kp) r1 r2 q⟩
theorem LT.bind {ta:TTD}{σ:St}{σd:SD}{h:HD}{kd:T5->HD->Prop}{k:T5->Hp->Prop}(rs:RelS K H σd σ)(rh:RelH K h H)(t:ta σd h kd)(f: ∀b h' H',Kept H H'->RelS K H' σd σ->RelH K h' H'->kd b h'->k b H'):LT K ta σ H k:=
 ⟨σd,h,kd,rs,rh,t,λb h' H' kp r1 q=>f b h' H' kp (rs.mono kp) r1 q⟩
theorem LA.bind {ta:TAD}{σ:St}{σd:SD}{h:HD}{kd:G0 D->HD->Prop}{k:G0 V->Hp->Prop}(rs:RelS K H σd σ)(rh:RelH K h H)(t:ta σd h kd)(f: ∀ds vs h' H',Kept H H'->RelS K H' σd σ->RelH K h' H'->RelDs K H' ds vs->kd ds h'->k vs H'):LA K ta σ H k:=
 ⟨σd,h,kd,rs,rh,t,λd v h' H' kp r1 r2 q=>f d v h' H' kp (rs.mono kp) r1 r2 q⟩
variable {tb:TED}
theorem BC {f:RD2}: ∀σ H Q,LE K (dOp f ta tb) σ H Q->tOp (LR K f) (LE K ta) (LE K tb) σ H Q:=λσ H Q ⟨σd,h,Qd,rs,rh,t,p⟩=>
 LE.bind rs rh t λd v h1 H1 k1 rs1 rh1 r1 t1=>LE.bind rs1 rh1 t1 λd2 v2 h2 H2 k2 rs2 rh2 r2 t2=>⟨d,d2,h2,Qd,r1.mono k2,r2,rh2,t2,jB p (k1.trans k2)⟩
theorem LQ: ∀σ H Q,LA K We σ H Q->Ev σ H Q:=λσ H Q ⟨σd,h,Qd,rs,rh,t,p⟩=>p [] [] h H (.refl H) rh rfl t
theorem BD {tr:TAD}: ∀σ H Q,LA K (zw ta tr) σ H Q->Rj (LE K ta) (LA K tr) σ H Q:=λσ H Q ⟨σd,h,Qd,rs,rh,t,p⟩=>
 LE.bind rs rh t λd v h1 H1 k1 rs1 rh1 r1 t1=>LA.bind rs1 rh1 t1 λds vs h2 H2 k2 rs2 rh2 r2 t2=>p _ _ h2 H2 (k1.trans k2) rh2 (.cons (r1.mono k2) r2) t2
theorem LU {t:TAD}: ∀σ H Q,LE K (LK t) σ H Q->Tf (LA K t) σ H Q:=λσ H Q ⟨σd,h,Qd,rs,rh,t,p⟩=>
 LA.bind rs rh t λds vs h1 H1 k1 rs1 rh1 r1 ⟨z,q⟩=>⟨by rw [<-r1.length];exact z,λa ha=>p (.tup ds) (.ref a) h1 _ (k1.trans (.new ha)) (rh1.new ha) ⟨a,vs,rfl,jh,r1.mono (.new ha)⟩ q⟩
theorem LV {t:TAD}: ∀σ H Q,LE K (FJ t) σ H Q->Tg (LA K t) σ H Q:=λσ H Q ⟨σd,h,Qd,rs,rh,t,p⟩=>
 LA.bind rs rh t λds vs h1 H1 k1 rs1 rh1 r1 ⟨z,q⟩=>⟨by rw [<-r1.length];exact z,λa ha=>p (.lst a) (.ref a) _ _ (k1.trans (.new ha)) (rh1.newL ha r1) ⟨rfl,vs,jh⟩ (q a (rh1.free ha))⟩
theorem LW {r:RDn}{t:TAD}: ∀σ H Q,LE K (dCB r t) σ H Q->tCB (LC K r) (LA K t) σ H Q:=λσ H Q ⟨σd,h,Qd,rs,rh,t,p⟩=>
 LA.bind rs rh t λds vs h1 H1 k1 rs1 rh1 r1 q=>⟨ds,h1,Qd,r1,rh1,q,jB p k1⟩
theorem Gm {t:TED}: ∀σ H Q,LT K (vR t) σ H Q->Bf (LE K t) σ H Q:=λσ H Q ⟨σd,h,Qd,rs,rh,t,p⟩=>
 LE.bind rs rh t λd v h1 H1 k1 rs1 rh1 r1 ⟨k,e,q⟩=>by subst e;exact⟨k,r1,p k h1 H1 k1 rh1 q⟩
theorem Rx {t:TED}: ∀σ H Q,LT K (vR t) σ H Q->tB (LE K t) σ H Q:=λσ H Q ⟨σd,h,Qd,rs,rh,t,p⟩=>
 LE.bind rs rh t λd v h1 H1 k1 rs1 rh1 r1 ⟨k,e,q⟩=>by subst e;exact⟨k,r1,p k h1 H1 k1 rh1 q⟩
theorem Ry {r r':RD2}{tc:TED}: ∀σ H Q,LE K (YA r r' ta tb tc) σ H Q->Ng (LR K r) (LR K r') (LE K ta) (LE K tb) (LE K tc) σ H Q:=λσ H Q ⟨σd,h,Qd,rs,rh,t,p⟩=>
 LE.bind rs rh t λd v h1 H1 k1 rs1 rh1 r1 t1=>LE.bind rs1 rh1 t1 λd2 v2 h2 H2 k2 rs2 rh2 r2 t2=>⟨d,d2,h2,_,r1.mono k2,r2,rh2,t2,λd3 v3 h3 H3 k3 rh3 r3 ⟨k,e,q⟩=>by
  subst e;refine⟨k,r3,?_⟩;cases k with
  |true=>
   rw [R6 rfl] at q ⊢;exact LE.bind (rs2.mono k3) rh3 q λd4 v4 h4 H4 k4 rs4 rh4 r4 t4=>⟨d2,d4,h4,Qd,(r2.mono k3).mono k4,r4,rh4,t4,jB p (k1.trans (k2.trans (k3.trans k4)))⟩
  |false=>
   rw [R8 S5] at q ⊢;exact p (.bl false) _ h3 H3 (k1.trans (k2.trans k3)) rh3 rfl q⟩
theorem LX {t u:TTD}: ∀σ H Q,LT K (BB t u) σ H Q->SS (LT K t) (LT K u) σ H Q:=λσ H Q ⟨σd,h,Qd,rs,rh,t,p⟩=>
 LT.bind rs rh t λb h1 H1 k1 rs1 rh1 q=>by
  cases b with
  |true=>rw [R6 rfl] at q ⊢;exact⟨σd,h1,Qd,rs1,rh1,q,λb h' H' k=>p b h' H' (k1.trans k)⟩
  |false=>rw [R8 S5] at q ⊢;exact p _ _ _ k1 rh1 q
theorem EK {t u:TTD}: ∀σ H Q,LT K (LL t u) σ H Q->tOr (LT K t) (LT K u) σ H Q:=λσ H Q ⟨σd,h,Qd,rs,rh,t,p⟩=>
 LT.bind rs rh t λb h1 H1 k1 rs1 rh1 q=>by
  cases b with
  |true=>rw [R6 rfl] at q ⊢;exact p _ _ _ k1 rh1 q
  |false=>rw [R8 S5] at q ⊢;exact⟨σd,h1,Qd,rs1,rh1,q,λb h' H' k=>p b h' H' (k1.trans k)⟩
theorem LY {t:TTD}: ∀σ H Q,LT K (Gj t) σ H Q->ST (LT K t) σ H Q:=λσ H Q ⟨σd,h,Qd,rs,rh,t,p⟩=>
 LT.bind rs rh t λb h1 H1 k1 rs1 rh1 q=>p _ _ _ k1 rh1 q
theorem LZ: ∀σ H Q,LE K (Rw ta tb) σ H Q->FX (LE K ta) (LE K tb) σ H Q:=λσ H Q ⟨σd,h,Qd,rs,rh,t,p⟩=>
 LE.bind rs rh t λd v h1 H1 k1 rs1 rh1 r1 ⟨c,e,q⟩=>by
  subst e;refine⟨c,r1,?_⟩;cases c with
  |true=>rw [R6 rfl] at q ⊢;exact⟨σd,h1,Qd,rs1,rh1,q,jB p k1⟩
  |false=>rw [R8 S5] at q ⊢;exact p (.bl false) _ _ _ k1 rh1 rfl q
theorem EL: ∀σ H Q,LE K (EJ ta tb) σ H Q->SU (LE K ta) (LE K tb) σ H Q:=λσ H Q ⟨σd,h,Qd,rs,rh,t,p⟩=>
 LE.bind rs rh t λd v h1 H1 k1 rs1 rh1 r1 ⟨c,e,q⟩=>by
  subst e;refine⟨c,r1,?_⟩;cases c with
  |true=>rw [R6 rfl] at q ⊢;exact p (.bl true) _ _ _ k1 rh1 rfl q
  |false=>rw [R8 S5] at q ⊢;exact⟨σd,h1,Qd,rs1,rh1,q,jB p k1⟩
theorem Oa: ∀σ H Q,LE K (Gk ta) σ H Q->FY (LE K ta) σ H Q:=λσ H Q ⟨σd,h,Qd,rs,rh,t,p⟩=>
 LE.bind rs rh t λd v h1 H1 k1 rs1 rh1 r1 ⟨c,e,q⟩=>by subst e;exact⟨c,r1,p (.bl (!c)) _ _ _ k1 rh1 rfl q⟩
end
abbrev QE (X:Cx)(e:N0)(t:TED):Prop:=PE X e (LE X.K t)
abbrev QT (X:Cx)(e:N0)(t:TTD):Prop:=PT X e (LT X.K t)
abbrev QW (X:Cx)(e:N0)(t:TTD):Prop:=PW X e (LT X.K t)
abbrev QA (X:Cx)(es:G0 N0)(t:TAD):Prop:=PA X es (LA X.K t)
abbrev QS (X:Cx)(s:K8)(t:TSD):Prop:=PS X s (LS X.K t)
abbrev QSs (X:Cx)(s:G0 K8)(t:TSD):Prop:=PSs X s (LS X.K t)
abbrev QG (X:Cx)(e:N0)(t:TGD):Prop:=PG X e (LG X.K t)
abbrev OpQ (X:Cx)(f:G1->G1->Sem G1)(r:RD2):Prop:=OpR X f (LR X.K r)
abbrev wZ (X:Cx)(f:G1)(r:RDn):Prop:=CallR X f (LC X.K r)
section
variable {X:Cx}{a b c e:N0}{es rest:G0 N0}{ta tb tc te:TED}{t u:TAD}{tt tu:TTD}{pos:Pos}{f r r':RD2}
theorem qv (i:G7){x:Str}(hN:X.N[i]? =some x:=by rfl)(hv:Vis X.env.scope x:=by first|exact aS rfl|exact cX (aS rfl)|exact cX (cX rfl))(hd:(x==("__debug__" :Str))=false:=by decide)
 (hcd:(x==("__classdict__" :Str))=false:=by decide):QE X (.Name x pos) (Gi i):=(Nb hN hv hd hcd).imp (LM i)
variable {j:G7}
theorem Hb {i:D3}:QE X (.Constant (.int i) j pos) (dC (.int i)):=pe_int.imp (LP λ_=>rfl)
theorem qbl {i:T5}:QE X (.Constant (.bool i) j pos) (dC (.bl i)):=pe_bl.imp (LP λ_=>rfl)
theorem Hc:QE X (.Constant .none j pos) (dC .non):=pe_non.imp (LP λ_=>rfl)
theorem Hd {x:Str}:QE X (.Constant (.str x) j pos) (dC (.str x)):=pe_str.imp (LP λ_=>rfl)
theorem EM {x:Str}{i:D3}{tk:Tok}(hg:Gl X x)(hm:X.mg x=some (.int i tk))(hd:(x==("__debug__" :Str))=false:=by decide):QE X (.Name x pos) (dC (.int i)):=
 (QF (v:= .int i) hg hm ⟨tk,rfl⟩ hd).imp (LP λ_=>rfl)
theorem qop {op:IO}(ho:OpQ X (V9 op) f)(ha:QE X a ta)(hb:QE X b tb):QE X (.BinOp a op b pos) (dOp f ta tb):=(Ep ho ha hb).imp BC
theorem He {op:oE}(ho:OpQ X (L7 op) f)(ha:QE X a ta)(hb:QE X b tb)(hm:Z4 op b=false):QE X (.Compare a [op] [b] pos) (dOp f ta tb):=(Be ho ha hb hm).imp BC
theorem EN {op:oE}(ho:OpQ X (L7 op) f)(ha:QE X a ta)(hb:QE X b tb)(hm:Z4 op b=false):QT X (.Compare a [op] [b] pos) (vR (dOp f ta tb)):=
 (Bg ho ha hb hm).imp λσ H Q h=>by
  obtain⟨σd,h,Qd,rs,rh,t,p⟩:=Gm (t:=dOp f ta tb) σ H Q h;exact BC σ H _ ⟨σd,h,Qd,rs,rh,t,p⟩
theorem BE {op op':oE}(ho:OpQ X (L7 op) r)(ho':OpQ X (L7 op') r')(ha:QE X a ta)(hb:QE X b tb)(hc:QE X c tc)(hm:xR [op,op'] [b,c]=false:=by with_unfolding_all rfl):
 QT X (.Compare a [op,op'] [b,c] pos) (vR (YA r r' ta tb tc)):=(Ri ho ho' ha hb hc hm).imp λσ H Q h=>by
 obtain⟨σd,h,Qd,rs,rh,t,p⟩:=Gm (t:=YA r r' ta tb tc) σ H Q h;exact Ry σ H _ ⟨σd,h,Qd,rs,rh,t,p⟩
theorem EO (ha:QE X a ta)(he: ∀whole,isTrue a X.env whole=(do let v <-whole;lN a.pos;bL [v] (rD v)):=by intro _;rfl):QT X a (vR ta):=(FT ha he).imp Rx
theorem EQ (ha:QT X a tt):QW X (.BoolOp .And [a] pos) tt:=NX ha
theorem Hf (ha:QT X a tt):QW X (.BoolOp .Or [a] pos) tt:=FU ha
theorem ER (ha:QT X a tt)(hb:QW X (.BoolOp .And (b::rest) pos) tu):QW X (.BoolOp .And (a::b::rest) pos) (BB tt tu):=(FV ha hb).imp LX
theorem Hg (ha:QT X a tt)(hb:QW X (.BoolOp .Or (b::rest) pos) tu):QW X (.BoolOp .Or (a::b::rest) pos) (LL tt tu):=(Ei ha hb).imp EK
theorem ES (ha:QT X a tt):QT X (.UnaryOp .Not a pos) (Gj tt):=(FW ha).imp LY
theorem Hh {op:BoolOp}(ha:QE X a ta):QE X (.BoolOp op [a] pos) ta:=FZ ha
theorem Hi (ha:QE X a ta)(hb:QE X (.BoolOp .And (b::rest) pos) tb):QE X (.BoolOp .And (a::b::rest) pos) (Rw ta tb):=(La ha hb).imp LZ
theorem qor (ha:QE X a ta)(hb:QE X (.BoolOp .Or (b::rest) pos) tb):QE X (.BoolOp .Or (a::b::rest) pos) (EJ ta tb):=(Ej ha hb).imp EL
theorem Hj (ha:QE X a ta):QE X (.UnaryOp .Not a pos) (Gk ta):=(Lb ha).imp Oa
theorem Ob:QA X [] We:=pa_nil.imp LQ
theorem BF (ha:QE X e te)(hr:QA X es t)(hs:D7 (e::es) X.env=(false,J0 e X.env)::D7 es X.env:=by rfl):QA X (e::es) (zw te t):=(zA ha hr hs).imp BD
theorem Hk {k:G7}(h:QA X es t):QE X (.Tuple es k pos) (LK t):=(Lq h).imp LU
theorem Hl (h:QA X es t):QE X (.List es pos) (FJ t):=(Lr h).imp LV
end
def VL:TSD:=λD σ h=>D.nx σ h
def wO (t u:TSD):TSD:=λD σ h=>t {D with nx:=u D} σ h
def BG (te:TED):TSD:=λD σ h=>te σ h λ_ h1=>D.nx σ h1
def Qy (te:TED):TSD:=λD σ h=>te σ h D.rt
def BH (c:TTD)(t u:TSD):TSD:=λD σ h=>c σ h λb h1=>if b=true then t D σ h1 else u D σ h1
def RA (i:G7)(te:TED):TSD:=λD σ h=>te σ h λd h1=>D.nx (σ.set i (some d)) h1
def ET (te:TED)(g:TGD):TSD:=λD σ h=>te σ h λx h1=>g x σ h1 D.nx
def EU (i j:G7)(ta:TAD):TSD:=λD σ h=>ta σ h λds h1=> ∃v w,ds= [v,w]/\D.nx ((σ.set i (some v)).set j (some w)) h1
def gN (i:G7):TGD:=λd σ h Q=>Q (σ.set i (some d)) h
def gT2 (i j:G7):TGD:=λd σ h Q=> ∃x y,d= .tup [x,y]/\Q ((σ.set i (some x)).set j (some y)) h
section
variable {K:G5}
theorem LS.of {t:TSD}{D₀:Ends}{σ:St}{H:Hp}{σd:SD}{h:HD}{Dd:EndsD}(rs:RelS K H σd σ)(rh:RelH K h H)(q:t Dd σd h)
 (nx: ∀σd' h' σ' H',Kept H H'->RelS K H' σd' σ'->RelH K h' H'->Dd.nx σd' h'->D₀.nx σ' H')(rt:Nk K H Dd.rt D₀.rt)
 (bk: ∀σd' h' σ' H',Kept H H'->RelS K H' σd' σ'->RelH K h' H'->Dd.bk σd' h'->D₀.bk σ' H')(ct: ∀σd' h' σ' H',Kept H H'->RelS K H' σd' σ'->RelH K h' H'->Dd.ct σd' h'->D₀.ct σ' H'):LS K t D₀ σ H:=⟨σd,h,Dd,rs,rh,q,nx,rt,bk,ct⟩
theorem BI: ∀D σ H,LS K VL D σ H->Lc D σ H:=λD σ H ⟨σd,h,Dd,rs,rh,q,nx,_⟩=>nx σd h σ H (.refl H) rs rh q
theorem Oc {t u:TSD}: ∀D σ H,LS K (wO t u) D σ H->SV (LS K t) (LS K u) D σ H:=λD σ H ⟨σd,h,Dd,rs,rh,q,nx,rt,bk,ct⟩=>
 LS.of rs rh q (λσd' h' σ' H' k rs' rh' q'=>⟨σd',h',Dd,rs',rh',q',λa b c d k'=>nx a b c d (k.trans k'),jB rt k,λa b c d k'=>bk a b c d (k.trans k'),λa b c d k'=>ct a b c d (k.trans k')⟩) rt bk ct
variable {te:TED}
theorem BJ: ∀D σ H,LS K (BG te) D σ H->Ld (LE K te) D σ H:=λD σ H ⟨σd,h,Dd,rs,rh,q,nx,rt,bk,ct⟩=>
 LE.bind rs rh q λd v h1 H1 k1 rs1 rh1 r1 q1=>nx _ _ _ _ k1 rs1 rh1 q1
theorem Od: ∀D σ H,LS K (Qy te) D σ H->SW (LE K te) D σ H:=λD σ H ⟨σd,h,Dd,rs,rh,q,nx,rt,bk,ct⟩=>⟨σd,h,Dd.rt,rs,rh,q,rt⟩
theorem EV {c:TTD}{t u:TSD}: ∀D σ H,LS K (BH c t u) D σ H->SX (LT K c) (LS K t) (LS K u) D σ H:=λD σ H ⟨σd,h,Dd,rs,rh,q,nx,rt,bk,ct⟩=>
 LT.bind rs rh q λb h1 H1 k rs1 rh1 q1=>by
  cases b with
  |true=>rw [R6 rfl] at q1 ⊢;exact⟨σd,h1,Dd,rs1,rh1,q1,λa b c d k'=>nx a b c d (k.trans k'),jB rt k,λa b c d k'=>bk a b c d (k.trans k'),λa b c d k'=>ct a b c d (k.trans k')⟩
  |false=>rw [R8 S5] at q1 ⊢;exact⟨σd,h1,Dd,rs1,rh1,q1,λa b c d k'=>nx a b c d (k.trans k'),jB rt k,λa b c d k'=>bk a b c d (k.trans k'),λa b c d k'=>ct a b c d (k.trans k')⟩
theorem Nl {i:G7}: ∀D σ H,LS K (RA i te) D σ H->Ba (LE K te) (Jo i) D σ H:=λD σ H ⟨σd,h,Dd,rs,rh,q,nx,rt,bk,ct⟩=>
 LE.bind rs rh q λd v h1 H1 k1 rs1 rh1 r1 q1=>nx _ _ _ _ k1 (rs1.set r1 i) rh1 q1
theorem Oe {g:TGD}: ∀D σ H,LS K (ET te g) D σ H->Ba (LE K te) (LG K g) D σ H:=λD σ H ⟨σd,h,Dd,rs,rh,q,nx,rt,bk,ct⟩=>
 LE.bind rs rh q λd v h1 H1 k1 rs1 rh1 r1 q1=>⟨d,σd,h1,_,r1,rs1,rh1,q1,λa b c e k'=>nx a b c e (k1.trans k')⟩
theorem Of {i j:G7}{ta:TAD}: ∀D σ H,LS K (EU i j ta) D σ H->SZ i j (LA K ta) D σ H:=λD σ H ⟨σd,h,Dd,rs,rh,q,nx,rt,bk,ct⟩=>
 LA.bind rs rh q λds vs h1 H1 k1 rs1 rh1 r1 ⟨x,y,e,q1⟩=>by
  subst e;obtain⟨v,r,e,r2,r3⟩:=(show ∃v r,vs=v::r/\RelD K H1 x v/\RelDs K H1 [y] r from r1);obtain⟨w,r',e',r4,r5⟩:=(show ∃v r',r=v::r'/\RelD K H1 y v/\RelDs K H1 [] r' from r3);cases (show r'= [] from r5);subst e' e;exact⟨v,w,rfl,nx _ _ _ _ k1 ((rs1.set r2 i).set r4 j) rh1 q1⟩
theorem BK (i:G7): ∀v σ H Q,LG K (gN i) v σ H Q->Jo i v σ H Q:=λv σ H Q ⟨d,σd,h,Qd,r,rs,rh,q,p⟩=>p _ _ _ _ (.refl H) (rs.set r i) rh q
theorem ye {H:Hp}{x y:D}{vs:G0 V}(r:RelDs K H [x,y] vs): ∃v w,vs= [v,w]/\RelD K H x v/\RelD K H y w:=by
 obtain⟨v,r1,e,r2,r3⟩:=(show ∃v r,vs=v::r/\RelD K H x v/\RelDs K H [y] r from r);obtain⟨w,z,e',r4,r5⟩:=(show ∃v z,r1=v::z/\RelD K H y v/\RelDs K H [] z from r3);cases (show z= [] from r5);subst e' e;exact⟨v,w,rfl,r2,r4⟩
theorem jp {H:Hp}{x:D}{vs:G0 V}(r:RelDs K H [x] vs): ∃v,vs= [v]/\RelD K H x v:=by
 obtain⟨v,r1,e,r2,r3⟩:=(show ∃v r,vs=v::r/\RelD K H x v/\RelDs K H [] r from r);cases (show r1= [] from r3);exact⟨v,e,r2⟩
theorem Og (i j:G7): ∀v σ H Q,LG K (gT2 i j) v σ H Q->En K 2 (QJ (Jo i) (QJ (Jo j) Em)) v σ H Q:=λv σ H Q ⟨d,σd,h,Qd,r,rs,rh,⟨x,y,e,q⟩,p⟩=>by
 subst e;obtain⟨a,vs,e,hH,r1⟩:=(show ∃a vs,v= .ref a/\H a=some (.tup vs)/\RelDs K H [x,y] vs from r);obtain⟨v1,v2,e1,r2,r3⟩:=ye r1;subst e e1;exact⟨a,[v1,v2],rfl,SqT.of hH,rfl,v1,[v2],rfl,v2,[],rfl,rfl,p _ _ _ _ (.refl H) ((rs.set r2 i).set r3 j) rh q⟩
end
section
variable {X:Cx}{st:K8}{sts:G0 K8}{t u:TSD}{e:N0}{te:TED}{pos:Pos}
theorem Oh:QSs X [] VL:=pss_nil.imp BI
theorem BL (h1:QS X st t)(h2:QSs X sts u):QSs X (st::sts) (wO t u):=(Rf h1 h2).imp Oc
theorem Oi (h1:QS X st t):QSs X [st] t:=NY h1
theorem EW (he:QE X e te)(hs:cO e none pos.line X.env=pure false:=by rfl):QS X (.Expr e pos) (BG te):=(NZ he hs).imp BJ
theorem Hm (he:QE X e te):QS X (.Return (some e) pos) (Qy te):=(Le he).imp Od
theorem Hn {c:N0}{a b:G0 K8}{tc:TTD}(hc:QT X c tc)(ha:QSs X a t)(hb:QSs X b u):QS X (.If c a b pos) (BH tc t u):=(Ek hc ha hb).imp EV
variable {i:G7}{x:Str}
theorem Ho {pos':Pos}(hN:X.N.Nodup)(hi:X.N[i]? =some x)(hx:Loc X.env.scope x)(he:QE X e te)(hs:cO e (some (.Name x pos')) pos.line X.env=pure false:=by rfl)
 (hf:X.fn x=true\/X.env.scope.names.lookup x=some .local:=by first|exact .inl rfl|exact .inr rfl|assumption):QS X (.Assign [.Name x pos'] e pos) (RA i te):=(Lh hN hi hx he hs hf).imp Nl
theorem BM (hN:X.N.Nodup)(hi:X.N[i]? =some x)(hx:Loc X.env.scope x)(hf:X.fn x=true\/X.env.scope.names.lookup x=some .local:=by first|exact .inl rfl|exact .inr rfl|assumption):QG X (.Name x pos) (gN i):=
 (vN hN hi hx hf).imp (BK i)
theorem Oj {j:G7}{y:Str}{p1 p2:Pos}{k:G7}(hc:X.calm=true)(hN:X.N.Nodup)(hi:X.N[i]? =some x)(hj:X.N[j]? =some y)(hx:Loc X.env.scope x)(hy:Loc X.env.scope y)
 (hf:X.fn x=true\/X.env.scope.names.lookup x=some .local:=by first|exact .inl rfl|exact .inr rfl|assumption)(hf2:X.fn y=true\/X.env.scope.names.lookup y=some .local:=by first|exact .inl rfl|exact .inr rfl|assumption):
 QG X (.Tuple [.Name x p1,.Name y p2] k pos) (gT2 i j):=(Nc hc (Ju (vN hN hi hx hf) (Ju (vN hN hj hy hf2) QK))).imp (Og i j)
theorem Hq {tg:N0}{g:TGD}(he:QE X e te)(hg:QG X tg g)(hs:fK [tg] e pos.line X.env=pure false:=by rfl)(hsw:fL [tg] e X.env=pure none:=by rfl)
 (h1:(f7 [tg] X.env).map (·.2)= [i5 tg X.env]:=by rfl):QS X (.Assign [tg] e pos) (ET te g):=(Lg he hg hs hsw h1).imp Oe
theorem Hr {j:G7}{y:Str}{a b:N0}{ta:TAD}{px py pt:Pos}{kt k2 pt2}(hc:X.calm=true)(hN:X.N.Nodup)(hi:X.N[i]? =some x)(hj:X.N[j]? =some y)(hij:i≠j)
 (hx:X.env.scope.names.lookup x=some .local)(hy:X.env.scope.names.lookup y=some .local)(ha:QA X [a,b] ta)
 (hw:fL [.Tuple [.Name x px,.Name y py] kt pt] (.Tuple [a,b] k2 pt2) X.env=pure (some [x,y]))
 (hs:fK [.Tuple [.Name x px,.Name y py] kt pt] (.Tuple [a,b] k2 pt2) pos.line X.env=pure false:=by rfl):
 QS X (.Assign [.Tuple [.Name x px,.Name y py] kt pt] (.Tuple [a,b] k2 pt2) pos) (EU i j ta):=(Li hc hN hi hj hij hx hy ha hw hs).imp Of
end
abbrev ItD:=HD->P4 (G0 D)
def BN (K:G5)(H:Hp)(j:ItD)(J:It):Prop:= ∀H' h',Kept H H'->RelH K h' H'-> ∀ds,j h'=some ds-> ∀i:G7,
 (∀d,ds[i]? =some d->J.go i H'/\ ∀x H'',J.yld i H' x H''->Kept H' H''/\RelH K h' H''/\RelD K H'' d x)/\(ds.length<=i->J.stop i H')
abbrev TID:=SD->HD->(ItD->HD->Prop)->Prop
def LI (K:G5)(t:TID):TI:=λσ H R=> ∃σd h Rd,RelS K H σd σ/\RelH K h H/\t σd h Rd/\ ∀j J h' H',Kept H H'->RelH K h' H'->BN K H' j J->Rd j h'->R J H'
abbrev QI (X:Cx)(tg iter:N0)(t:TID):Prop:=PI X tg iter (LI X.K t)
theorem PI.imp {X:Cx}{tg e:N0}{t t':TI}(h:PI X tg e t)(i: ∀σ H R,t' σ H R->t σ H R):PI X tg e t':=λpins s σ H R I q=>h pins s σ H R I (i σ H R q)
def iL (te:TED):TID:=λσ h R=>te σ h λx h1=> ∃a,x= .lst a/\R (λh=>h a) h1
def iR1 (ta:TAD):TID:=λσ h R=>ta σ h λds h1=> ∃n:D3,ds= [.int n]/\ -(2^62)<=n/\n<2^62/\R (λ_=>some ((R4 n.toNat).map λ(k:G7)=>D.int (k:D3))) h1
section
variable {K:G5}
theorem YB (H:Hp)(a:G9):BN K H (λh=>h a) (Itl K a):=λH' h' k rh ds e i=>by
 obtain⟨vs,hv,r⟩:=rh a ds e;refine⟨λd hd=> ?_,λhl=>⟨vs,SqL.of hv,by rw [<-r.length];exact hl⟩⟩;obtain⟨v,e1,e2⟩:=r.get hd;refine⟨⟨vs,v,SqL.of hv,e1⟩,λx H'' ⟨eH,hx⟩=> ?_⟩;subst eH;have:=hx vs (SqL.of hv);rw [e1] at this;cases this;exact⟨.refl _,rh,e2⟩
theorem RB {H:Hp}{a:G9}{vs:G0 V}{ds:G0 D}(hv:H a=some (.tup vs))(r:RelDs K H ds vs):BN K H (λ_=>some ds) (Itt K a):=λH' h' k rh ds' e i=>by
 cases e;have hv':=k.tup _ _ hv;have r':=r.mono k;refine⟨λd hd=> ?_,λhl=>⟨vs,SqT.of hv',by rw [<-r.length];exact hl⟩⟩;obtain⟨v,e1,e2⟩:=r'.get hd;refine⟨⟨vs,v,SqT.of hv',e1⟩,λx H'' ⟨eH,hx⟩=> ?_⟩;subst eH;have:=hx vs (SqT.of hv');rw [e1] at this;cases this;exact⟨.refl _,rh,e2⟩
theorem XF (H:Hp)(lo:D3)(n:G7)(ds:G0 D)(hd:ds=(R4 n).map λ(k:G7)=>D.int (lo+(k:D3))):BN K H (λ_=>some ds) (Itr lo n):=λH' h' k rh ds' e i=>by
 cases e;subst hd;refine⟨λd hd=> ?_,λhl=>(show n<=i by simpa using hl)⟩;rw [D9] at hd;have hi:i<n:=by
  by_cases z:i<n
  ·exact z
  ·rw [J9 (by simpa using z)] at hd;cases hd
 rw [V6 hi] at hd;cases hd;refine⟨hi,λx H'' ⟨eH,hx⟩=> ?_⟩;subst eH hx;exact⟨.refl _,rh,rfl⟩
theorem BO {te:TED}: ∀σ H R,LI K (iL te) σ H R->Lj K (LE K te) σ H R:=λσ H R ⟨σd,h,Rd,rs,rh,q,p⟩=>
 LE.bind rs rh q λd v h1 H1 k1 rs1 rh1 r1 ⟨a,e,q1⟩=>by
  subst e;obtain⟨e,vs,hv⟩:=(show v= .ref a/\ ∃vs,H1 a=some (.lst vs) from r1);exact⟨a,e,⟨vs,SqL.of hv⟩,p _ _ _ _ k1 rh1 (YB H1 a) q1⟩
theorem EX {ta:TAD}: ∀σ H R,LI K (iR1 ta) σ H R->Lk (LA K ta) σ H R:=λσ H R ⟨σd,h,Rd,rs,rh,q,p⟩=>
 LA.bind rs rh q λds vs h1 H1 k1 rs1 rh1 r1 ⟨n,e,b1,b2,q1⟩=>by
  subst e;obtain⟨v,e,r2⟩:=jp r1;cases (show v= .int n from r2);exact⟨n,e,b1,b2,p _ _ _ _ k1 rh1 (XF H1 0 n.toNat _ (by simp)) q1⟩
end
def Ol (ti:TID)(g:TGD)(tb:TSD):TSD:=λD σ h=>ti σ h λj h1=> ∃ (n:G7) (W:G7->SD->HD->Prop),W 0 σ h1/\ ∀i σ' h',W i σ' h'-> ∃ds,j h'=some ds/\ds.length<=n/\(ds.length<=i->D.nx σ' h')/\
 ∀d,ds[i]? =some d->g d σ' h' λσ2 h2=>tb {D with nx:=λσ3 h3=> ∃h4,Sub h4 h3/\W (i+1) σ3 h4,ct:=λσ3 h3=> ∃h4,Sub h4 h3/\W (i+1) σ3 h4,bk:=D.nx} σ2 h2
theorem Om {K:G5}{ti:TID}{g:TGD}{tb:TSD}: ∀D σ H,LS K (Ol ti g tb) D σ H->Ta (LI K ti) (LG K g) (LS K tb) D σ H:=λD σ H ⟨σd,h,Dd,rs,rh,q,nx,rt,bk,ct⟩=>by
 refine⟨σd,h,_,rs,rh,q,λj J h1 H1 k1 rh1 jo ⟨n,W,w0,turn⟩=> ?_⟩;refine⟨λi m σ' H'=>m=n-i/\Kept H1 H'/\ ∃σd' h',RelS K H' σd' σ'/\RelH K h' H'/\W i σd' h',⟨n-0,rfl,.refl _,σd,h1,rs.mono k1,rh1,w0⟩,?_⟩;rintro i m σ' H' ⟨rfl,kp,σd',h',rs',rh',w⟩;obtain⟨ds,ej,hn,stop,go⟩:=turn i σd' h' w;have jo':=jo H' h' kp rh' ds ej i
 by_cases hi:i<ds.length
 ·obtain⟨g1,y1⟩:=jo'.1 ds[i] (P2 hi);refine .inr ⟨g1,λσ2 H2=>Kept H1 H2/\ ∃σd2 h2,RelS K H2 σd2 σ2/\RelH K h2 H2/\W (i+1) σd2 h2,λσ2 H2 ⟨k2,a,b,c,d,e⟩=>⟨n-(i+1),by omega,rfl,k2,a,b,c,d,e⟩,λx H'' y=> ?_⟩;obtain⟨k2,rh2,r2⟩:=y1 x H'' y;refine⟨ds[i],σd',h',_,r2,rs'.mono k2,rh2,go ds[i] (P2 hi),λσd3 h3 σ3 H3 k3 rs3 rh3 q3=> ?_⟩;have kk:Kept H H3:=k1.trans (kp.trans (k2.trans k3));have kk1:Kept H1 H3:=kp.trans (k2.trans k3);exact⟨σd3,h3,_,rs3,rh3,q3,λa b c d k4 rs4 rh4 ⟨h4,sb,w4⟩=>⟨kk1.trans k4,a,h4,rs4,rh4.sub sb,w4⟩,jB rt kk,λa b c d k4 rs4 rh4 q4=>nx a b c d (kk.trans k4) rs4 rh4 q4,λa b c d k4 rs4 rh4 ⟨h4,sb,w4⟩=>⟨kk1.trans k4,a,h4,rs4,rh4.sub sb,w4⟩⟩
 ·exact .inl ⟨jo'.2 (cY.mp hi),nx _ _ _ _ (k1.trans kp) rs' rh' (stop (cY.mp hi))⟩
def UC:TTD:=λ_ h Q=>Q true h
def yJ (bind:D->SD->SD->Prop)(js:G0 G7)(ti:TID)(tt:TTD)(te:TED):TED:=λσ h Q=>ti σ h λj h1=> ∃ (n:G7) (W:G7->G0 D->HD->Prop),W 0 [] h1/\ ∀i ys h',W i ys h'->ys.length<=sizeLine/\
 ∃ds,j h'=some ds/\ds.length<=n/\(ds.length<=i-> ∀p,h' p=none->Q (.lst p) (zR h' p ys))/\
  ∀d,ds[i]? =some d-> ∃σ2,bind d (zi js σ) σ2/\tt σ2 h' λb h3=>if b=true then te σ2 h3 λy h4=> ∃h5,Sub h5 h4/\W (i+1) (ys++ [y]) h5 else ∃h5,Sub h5 h3/\W (i+1) ys h5
def bN (i:G7):D->SD->SD->Prop:=λd σ σ2=>σ2=σ.set i (some d)
def b2 (i j:G7):D->SD->SD->Prop:=λd σ σ2=> ∃x y,d= .tup [x,y]/\σ2=(σ.set i (some x)).set j (some y)
theorem On {K:G5}: ∀σ H Q,LT K UC σ H Q->Tk σ H Q:=λσ H Q ⟨σd,h,Qd,rs,rh,q,p⟩=>p true h H (.refl H) rh q
def Gn (K:G5)(js:G0 G7)(bind:D->SD->SD->Prop)(g:TG):Prop:= ∀ (σ:St) (σd σd2:SD) (H:Hp) (d:D) (v:V) (Q:St->Hp->Prop),RelS K H (zi js σd) (wE js σ)->RelD K H d v->bind d (zi js σd) σd2->
 (∀σ2,Agree (wE js σ) σ2->RelS K H σd2 σ2->Q σ2 H)->g v (wE js σ) H Q
theorem Oo {K:G5}{js:G0 G7}{i:G7}(hi:i∈js):Gn K js (bN i) (Jo i):=λσ σd σd2 H d v Q rs r b q=>by
 cases (show σd2=_ from b);exact q _ (.set v λu=>zZ js σ i u hi) (rs.set r i)
theorem EY {K:G5}{js:G0 G7}{i j:G7}(hi:i∈js)(hj:j∈js)(hij:i≠j):Gn K js (b2 i j) (En K 2 (QJ (Jo i) (QJ (Jo j) Em))):=λσ σd σd2 H d v Q rs r b q=>by
 obtain⟨x,y,e,e2⟩:=b;subst e e2;obtain⟨a,vs,e,hH,r1⟩:=(show ∃a vs,v= .ref a/\H a=some (.tup vs)/\RelDs K H [x,y] vs from r);obtain⟨v1,v2,e1,r2,r3⟩:=ye r1;subst e e1;refine⟨a,[v1,v2],rfl,SqT.of hH,rfl,v1,[v2],rfl,v2,[],rfl,rfl,q _ (.trans (.set v1 λu=>zZ js σ i u hi) (.set v2 λu z=> ?_)) ((rs.set r2 i).set r3 j)⟩;rw [U4 hij] at z;exact zZ js σ j u hj z
theorem BP {K:G5}{bind:D->SD->SD->Prop}{js:G0 G7}{ti:TID}{tt:TTD}{te:TED}{g:TG}(hb:Gn K js bind g): ∀σ H Q,LE K (yJ bind js ti tt te) σ H Q->tLC js (LI K ti) g (LT K tt) (LE K te) σ H Q:=
 λσ H Q ⟨σd,h,Qd,rs,rh,q,p⟩=>by
  refine⟨σd,h,_,rs,rh,q,λj J h1 H1 k1 rh1 jo ⟨n,W,w0,turn⟩=> ?_⟩;refine⟨λi m ys H'=>m=n-i/\Kept H1 H'/\ ∃ds h',RelDs K H' ds ys/\RelH K h' H'/\W i ds h',⟨n-0,rfl,.refl _,[],h1,rfl,rh1,w0⟩,?_⟩;rintro i m ys H' ⟨rfl,kp,yd,h',ry,rh',w⟩;obtain⟨hz,ds,ej,hn,stop,go⟩:=turn i yd h' w;refine⟨by rw [<-ry.length];exact hz,?_⟩;have jo':=jo H' h' kp rh' ds ej i;have kk:Kept H H':=k1.trans kp
  by_cases hi:i<ds.length
  ·obtain⟨g1,y1⟩:=jo'.1 ds[i] (P2 hi);refine .inr ⟨g1,λx H'' y=> ?_⟩;obtain⟨k2,rh2,r2⟩:=y1 x H'' y;obtain⟨σd2,bd,q2⟩:=go ds[i] (P2 hi);refine hb σ σd σd2 H'' ds[i] x _ (((rs.mono (kk.trans k2))).clear js) r2 bd λσ2 ag rs2=>⟨ag,?_⟩
   refine LT.bind rs2 rh2 q2 λb h3 H3 k3 rs3 rh3 q3=> ?_
   cases b with
   |true=>
    rw [R6 rfl] at q3 ⊢;refine LE.bind rs3 rh3 q3 λd4 v4 h4 H4 k4 rs4 rh4 r4 ⟨h5,sb,w5⟩=>⟨n-(i+1),by omega,rfl,kp.trans (k2.trans (k3.trans k4)),yd++ [d4],h5,(ry.mono (k2.trans (k3.trans k4))).append (.cons r4 .nil),rh4.sub sb,w5⟩
   |false=>
    rw [R8 S5] at q3 ⊢;obtain⟨h5,sb,w5⟩:=q3;exact⟨n-(i+1),by omega,rfl,kp.trans (k2.trans k3),yd,h5,ry.mono (k2.trans k3),rh3.sub sb,w5⟩
  ·refine .inl ⟨jo'.2 (cY.mp hi),λa ha=>p (.lst a) (.ref a) _ _ (kk.trans (.new ha)) (rh'.newL ha ry) ⟨rfl,ys,jh⟩ (stop (cY.mp hi) a (rh'.free ha))⟩
theorem Jv {X:Cx}{scope:Q1}{C:G9}{s₀:G2}{H₀:Hp}{ex:G0 G9}{i:G7}{x:Str}{p:Pos}(hN:X.N.Nodup)(hx:X.N[i]? =some x)(hl:scope.names.lookup x=some .local\/scope.names.lookup x=some .cell):
 PG (yI X scope C s₀ H₀ ex) (.Name x p) (Jo i):=by
 rcases hl with z|z
 ·exact vN hN hx (.inl (oM z)) (.inr (oM z))
 ·exact vN hN hx (.inr (yH z)) (.inl (by show (scope.names.lookup x==some cM)=true;rw [z];rfl))
section
variable {X:Cx}{tg e iter elt:N0}{te:TED}{ti:TID}{g:TGD}{tb:TSD}{tt:TTD}{pos:Pos}{ta:TAD}{scope:Q1}{js:G0 G7}{ifs:G0 N0}
theorem BQ (he:QE X e te):QI X tg e (iL te):=(Bc he).imp BO
theorem EZ {p:Pos}{a:N0}(hg:Gl X "range")(hm:X.mg "range" =none)(ha:QA X [a] ta)(hs:D7 [a] X.env= [(false,J0 a X.env)]:=by rfl):QI X tg (.Call (.Name "range" p) [a] [] pos) (iR1 ta):=(QM hg hm ha hs).imp EX
theorem Hs {body:G0 K8}(hp:o7 (R7 X.prog X.w) X.A X.env X.xe)(hc:X.calm=true)(hi:QI X tg iter ti)(hg:QG X tg g)(hb:QSs X body tb)(hs: ∀x,O4 iter X.env x=pure x:=by intro _;rfl):
 QS X (.For tg iter body [] pos) (Ol ti g tb):=(Ll hp hc hi hg hb hs).imp Om
theorem BR:PTs X [] (LT X.K UC):=λpins s σ H Q I h=>Bw pins s σ H Q I (On σ H Q h)
theorem BS {c:N0}(hc:QT X c tt):PTs X [c] (LT X.K tt):=Bx hc
theorem qlc {i:G7}{x:Str}{p:Pos}(hc:X.calm=true)(S:BlockOk X scope js)(hi:QI X (.Name x p) iter ti)(hj:i∈js)(hN:X.N.Nodup)(hx:X.N[i]? =some x)(hl:scope.names.lookup x=some .local\/scope.names.lookup x=some .cell)
 (ht: ∀X',jx X scope X'->PTs X' ifs (LT X'.K tt))(he: ∀X',jx X scope X'->QE X' elt te)(hs: ∀x,O4 iter X.env x=pure x:=by intro _;rfl):
 QE X (.ListComp elt [⟨.Name x p,iter,ifs,0⟩] scope pos) (yJ (bN i) js ti tt te):=
 (LJ hc S hi (λX' hX=>by obtain⟨C,s₀,H₀,ex,rfl⟩:=hX;exact Jv hN hx hl) (λX' hX=>by have:=ht X' hX;obtain⟨C,s₀,H₀,ex,rfl⟩:=hX;exact this)
  (λX' hX=>by have:=he X' hX;obtain⟨C,s₀,H₀,ex,rfl⟩:=hX;exact this) hs).imp (BP (Oo hj))
theorem Ht {i j:G7}{x y:Str}{p1 p2 p3:Pos}{k:G7}(hc:X.calm=true)(S:BlockOk X scope js)(hi:QI X (.Tuple [.Name x p1,.Name y p2] k p3) iter ti)(hj:i∈js)(hj2:j∈js)(hij:i≠j)(hN:X.N.Nodup)(hx:X.N[i]? =some x)(hy:X.N[j]? =some y)
 (hl:scope.names.lookup x=some .local\/scope.names.lookup x=some .cell)(hl2:scope.names.lookup y=some .local\/scope.names.lookup y=some .cell)
 (ht: ∀X',jx X scope X'->PTs X' ifs (LT X'.K tt))(he: ∀X',jx X scope X'->QE X' elt te)(hs: ∀x,O4 iter X.env x=pure x:=by intro _;rfl):
 QE X (.ListComp elt [⟨.Tuple [.Name x p1,.Name y p2] k p3,iter,ifs,0⟩] scope pos) (yJ (b2 i j) js ti tt te):=
 (LJ hc S hi (λX' hX=>by
  obtain⟨C,s₀,H₀,ex,rfl⟩:=hX;exact Nc hc (Ju (Jv hN hx hl) (Ju (Jv hN hy hl2) QK))) (λX' hX=>by have:=ht X' hX;obtain⟨C,s₀,H₀,ex,rfl⟩:=hX;exact this)
  (λX' hX=>by have:=he X' hX;obtain⟨C,s₀,H₀,ex,rfl⟩:=hX;exact this) hs).imp (BP (EY hj hj2 hij))
end
def LSp (K:G5)(spd:RDn):Sp:=λvs H Q _=>LC K spd vs H Q
theorem Go {K:G5}{spd:RDn}{t:TAD}{E:XK}: ∀σ H Q,LE K (dCB spd t) σ H Q->Bi (LSp K spd) [] E (LA K t) σ H Q:=λσ H Q ⟨σd,h,Qd,rs,rh,t,p⟩=>
 LA.bind rs rh t λds vs h1 H1 k1 rs1 rh1 r1 q=>by rw [O6];exact⟨ds,h1,Qd,r1,rh1,q,jB p k1⟩
section
variable {X:Cx}{k:G7}{f:G9}{fd:N5}{ps:G0 Str}{spd:RDn}{x:Str}{p pos:Pos}{e:N0}{es:G0 N0}{t:TAD}
theorem Sa (F:FnOk X.prog X.w X.K X.mg X.base CX0 k f fd ps (LSp X.K spd))(hr:Room k X.A)(hg:Gl X x)(hm:X.mg x=some (.ref f))(hk:Q4 X.K (.ref f)=true)(hb:Binds X.K fd ps [])
 (ha:QA X (e::es) t)(hdb:(x==("__debug__" :Str))=false:=by decide)(he:D7 (e::es) X.env=(false,J0 e X.env)::D7 es X.env:=by rfl)(hpl:(K7 pos (D7 es X.env)).any (·.1)=false:=by rfl):
 QE X (.Call (.Name x p) (e::es) [] pos) (dCB spd t):=(Ga F hr hg hm hk hb .nil Bp ha hdb he hpl).imp Go
theorem Op {id:U2}{r:RDn}(hc:wZ X (.builtin id) r)(hg:Gl X x)(hm:X.mg x=none)(hv:U8 x=some (.builtin id))(ha:QA X (e::es) t)(hn:x≠ "__name__" :=by decide)(hdb:(x==("__debug__" :Str))=false:=by decide)
 (he:D7 (e::es) X.env=(false,J0 e X.env)::D7 es X.env:=by rfl)(hpl:(K7 pos (D7 es X.env)).any (·.1)=false:=by rfl):QE X (.Call (.Name x p) (e::es) [] pos) (dCB r t):=(yt hc hg hm hv ha hn hdb he hpl).imp LW
theorem BT {T:U2}{r:RDn}(hc:wZ X (.type T) r)(hg:Gl X x)(hm:X.mg x=none)(hv:U8 x=some (.type T))(ha:QA X (e::es) t)(hn:x≠ "__name__" :=by decide)(hdb:(x==("__debug__" :Str))=false:=by decide)
 (he:D7 (e::es) X.env=(false,J0 e X.env)::D7 es X.env:=by rfl)(hpl:(K7 pos (D7 es X.env)).any (·.1)=false:=by rfl):QE X (.Call (.Name x p) (e::es) [] pos) (dCB r t):=(JM hc hg hm hv ha hn hdb he hpl).imp LW
end
def jU (N:G0 Str)(ds:G0 D):SD:=ds.map some++N9 (N.length-ds.length) none
theorem yu {K:G5}{H:Hp}{N:G0 Str}{ds:G0 D}{vs:G0 V}(r:RelDs K H ds vs):RelS K H (jU N ds) (start N vs):=by
 have hl:=r.length;refine⟨by unfold jU start;simp [hl],λi d e=> ?_⟩;unfold jU at e;unfold start
 by_cases hi:i<ds.length
 ·rw [B8 (by simpa using hi),D9] at e;cases q:ds[i]? with
  |none=>rw [q] at e;cases e
  |some d'=>
   rw [q] at e;cases e;obtain⟨v,e1,e2⟩:=r.get q;exact⟨v,by rw [B8 (by simpa [<-hl] using hi),D9,e1];rfl,e2⟩
 ·rw [N3 (by simpa using hi),gE] at e;split at e<;>cases e
def VA (Q:KD):EndsD:= {nx:=λ_ h=> ∃h',Sub h' h/\Q .non h',rt:=λd h=> ∃h',Sub h' h/\Q d h'}
section
variable {P:R9}{w:N4}{K:G5}{mg:Str->P4 G1}{base:B6}
theorem Fun.okD {x qual:Str}{st:K8}{f:G9}{fd:N5}{N ps:G0 Str}{k:G7}{spd:RDn}(F:Fun K x qual st f fd)(S:FnScope N ps (jd st))(len: ∀ds h Q,spd ds h Q->ds.length=ps.length)
 (tb:TSD)(hbody: ∀ (cdv:G1) (A:T3) (outer:G0 Env) (s:G2) (H:Hp) (E:XK),Room k (A.deeper (Q7 qual (jd st) s.heap.objs.size f cdv))->QSs (ZN CX0 P w K mg base N qual (jd st) f cdv A outer s H E).nox (jK st) tb)
 (read: ∀ds h Q,spd ds h Q->tb (VA Q) (jU N ds) h):FnOk P w K mg base CX0 (k+1) f fd ps (LSp K spd):=by
 refine F.ok S (λvs H Q E h=> ?_) (λcdv A outer s H vs Q E hr h=> ?_)
 ·obtain⟨ds,h,Qd,r,rh,q,p⟩:=h;rw [<-r.length];exact len _ _ _ q
 ·obtain⟨ds,h,Qd,r,rh,q,p⟩:=h;refine⟨_,hbody cdv A outer s H E hr,jU N ds,h,VA Qd,yu r,rh,read ds h Qd q,λσd' h' σ' H' k rs' rh' ⟨h2,sb,q'⟩=>p .non .non h2 H' k (rh'.sub sb) rfl q',λd v h' H' k rh' r' ⟨h2,sb,q'⟩=>p d v h2 H' k (rh'.sub sb) r' q',λ_ _ _ _ _ _ _ z=>z.elim,λ_ _ _ _ _ _ _ z=>z.elim⟩
end
section
variable {X:Cx}{iter elt:N0}{te:TED}{ti:TID}{tt:TTD}{pos spos:Pos}{scope:Q1}{js:G0 G7}{ifs:G0 N0}
theorem Oq {i k:G7}{x y:Str}{p py:Pos}(hc:X.calm=true)(hN:X.N.Nodup)(hk:X.N[k]? =some y)(hy:Loc X.env.scope y)(S:BlockOk X scope js)(hi:QI X (.Name x p) iter ti)(hj:i∈js)(hx:X.N[i]? =some x)(hl:scope.names.lookup x=some .local\/scope.names.lookup x=some .cell)
 (ht: ∀X',jx X scope X'->PTs X' ifs (LT X'.K tt))(he: ∀X',jx X scope X'->QE X' elt te)
 (hsw:cO (.ListComp elt [⟨.Name x p,iter,ifs,0⟩] scope pos) (some (.Name y py)) spos.line X.env=pure true:=by rfl)
 (hf:X.fn y=true\/X.env.scope.names.lookup y=some .local:=by first|exact .inl rfl|exact .inr rfl|assumption)(hs: ∀x,O4 iter X.env x=pure x:=by intro _;rfl):
 QS X (.Assign [.Name y py] (.ListComp elt [⟨.Name x p,iter,ifs,0⟩] scope pos) spos) (RA k (yJ (bN i) js ti tt te)):=by
 have base:PS X (.Assign [.Name y py] (.ListComp elt [⟨.Name x p,iter,ifs,0⟩] scope pos) spos) (Ba (tLC js (LI X.K ti) (Jo i) (LT X.K tt) (LE X.K te)) (Jo k)):=
  Rv hc S hi (λX' hX=>by obtain⟨C,s₀,H₀,ex,rfl⟩:=hX;exact Jv hN hx hl) (λX' hX=>by have:=ht X' hX;obtain⟨C,s₀,H₀,ex,rfl⟩:=hX;exact this)
   (λX' hX=>by have:=he X' hX;obtain⟨C,s₀,H₀,ex,rfl⟩:=hX;exact this) (vN hN hk hy hf) hsw hs
 exact base.imp λD σ H h=>by
  obtain⟨σd,hd,Qd,rs,rh,t,p⟩:=Nl (K:=X.K) D σ H h;exact BP (Oo hj) σ H _ ⟨σd,hd,Qd,rs,rh,t,p⟩
end
def Tn:RD2:=λx y h Q=>match x,y with
 | .int i,.int j=>Q (.int (i+j)) h
 | .tup a,.tup b=>a.length+b.length<=sizeLine/\Q (.tup (a++b)) h
 | .lst a,.lst b=> ∃xs ys,h a=some xs/\h b=some ys/\xs.length+ys.length<=sizeLine/\ ∀p,h p=none->Q (.lst p) (zR h p (xs++ys))
 |_,_=>False
def To:RD2:=λx y h Q=>match x,y with
 | .int i,.int j=>Q (.int (i-j)) h
 |_,_=>False
def Tp:RD2:=λx y h Q=>match x,y with
 | .int i,.int j=>CMul i j/\Q (.int (i*j)) h
 | .lst a,.int k=> ∃xs,h a=some xs/\ -(2^63)<=k/\k<2^63/\xs.length*k.toNat<=sizeLine/\ ∀p,h p=none->Q (.lst p) (zR h p (N9 k.toNat xs).flatten)
 |_,_=>False
def Hu:RD2:=λx y h Q=>match x,y with
 | .int i,.int j=>0<j/\Q (.int (i%j)) h
 |_,_=>False
def Sb:RD2:=λx y h Q=>match x,y with
 | .int i,.int j=>Tc i j/\Q (.int (i / j)) h
 |_,_=>False
def Tq:RD2:=λx y h Q=>match x,y with
 | .int i,.int j=>Td i j/\Q (.int (i^j.toNat)) h
 |_,_=>False
def Nm (p:D3->D3->T5):RD2:=λx y h Q=>match x,y with
 | .int i,.int j=>Q (.bl (p i j)) h
 |_,_=>False
def eqD:RD2:=λx y h Q=>match x,y with
 | .int i,.int j=>Q (.bl (decide (i=j))) h
 | .bl i,.bl j=>Q (.bl (decide (i=j))) h
 | .str i,.str j=>Q (.bl (decide (i=j))) h
 |_,_=>False
def neD:RD2:=λx y h Q=>match x,y with
 | .int i,.int j=>Q (.bl (!decide (i=j))) h
 | .bl i,.bl j=>Q (.bl (!decide (i=j))) h
 | .str i,.str j=>Q (.bl (!decide (i=j))) h
 |_,_=>False
section
variable {X:Cx}
theorem VM {f:G1->G1->Sem G1}{C:D3->D3->Prop}{g:D3->D3->V}{gd:D3->D3->D}{r:RD2}(ho:OpR X f (rI C g))(hg: ∀i j H,RelD X.K H (gd i j) (g i j))
 (hr: ∀x y h Q,r x y h Q-> ∃i j,x= .int i/\y= .int j/\C i j/\Q (gd i j) h):OpQ X f r:=ho.imp λx y H Q ⟨dx,dy,h,Qd,rx,ry,rh,q,p⟩=>by
 obtain⟨i,j,e1,e2,c,q'⟩:=hr dx dy h Qd q;subst e1 e2;exact⟨i,j,rx,ry,c,p _ _ _ _ (.refl H) rh (hg i j H) q'⟩
theorem vn {f:G1->G1->Sem G1}{g:D3->D3->V}{gd:D3->D3->D}{r:RD2}(ho:OpR X f (rI0 g))(hg: ∀i j H,RelD X.K H (gd i j) (g i j))
 (hr: ∀x y h Q,r x y h Q-> ∃i j,x= .int i/\y= .int j/\Q (gd i j) h):OpQ X f r:=ho.imp λx y H Q ⟨dx,dy,h,Qd,rx,ry,rh,q,p⟩=>by
 obtain⟨i,j,e1,e2,q'⟩:=hr dx dy h Qd q;subst e1 e2;exact⟨i,j,rx,ry,p _ _ _ _ (.refl H) rh (hg i j H) q'⟩
theorem Nn:OpQ X (V9 .Sub) To:=vn (gd:=λi j=> .int (i-j)) Lm (λ_ _ _=>rfl) λx y h Q q=>by
 cases x<;>cases y<;>first|exact False.elim q|exact⟨_,_,rfl,rfl,q⟩
theorem Za:OpQ X (V9 .Mod) Hu:=VM (gd:=λi j=> .int (i%j)) Ln (λ_ _ _=>rfl) λx y h Q q=>by
 cases x<;>cases y<;>first|exact False.elim q|exact⟨_,_,rfl,rfl,q.1,q.2⟩
theorem BU:OpQ X (V9 .FloorDiv) Sb:=VM (gd:=λi j=> .int (i / j)) Bd (λ_ _ _=>rfl) λx y h Q q=>by
 cases x<;>cases y<;>first|exact False.elim q|exact⟨_,_,rfl,rfl,q.1,q.2⟩
theorem No:OpQ X (V9 .Pow) Tq:=VM (gd:=λi j=> .int (i^j.toNat)) Lo (λ_ _ _=>rfl) λx y h Q q=>by
 cases x<;>cases y<;>first|exact False.elim q|exact⟨_,_,rfl,rfl,q.1,q.2⟩
theorem WH {p:D3->D3->T5}: ∀x y h Q,Nm p x y h Q-> ∃i j,x= .int i/\y= .int j/\Q (.bl (p i j)) h:=λx y h Q q=>by
 cases x<;>cases y<;>first|exact False.elim q|exact⟨_,_,rfl,rfl,q⟩
theorem Os:OpQ X (L7 .Lt) (Nm λi j=>decide (i<j)):=vn (gd:=λi j=> .bl (decide (i<j))) Er (λ_ _ _=>rfl) WH
theorem Ot:OpQ X (L7 .LtE) (Nm λi j=>decide (i<=j)):=vn (gd:=λi j=> .bl (decide (i<=j))) Es (λ_ _ _=>rfl) WH
theorem Sc:OpQ X (L7 .Gt) (Nm λi j=>decide (j<i)):=vn (gd:=λi j=> .bl (decide (j<i))) Et (λ_ _ _=>rfl) WH
theorem BV:OpQ X (L7 .GtE) (Nm λi j=>decide (j<=i)):=vn (gd:=λi j=> .bl (decide (j<=i))) Eu (λ_ _ _=>rfl) WH
theorem FK {α:Type}[DecidableEq α]{f:α->V}(hf: ∀a b,f a=f b->a=b)(a b:α):decide (f a=f b)=decide (a=b):=by
 by_cases h:a=b
 ·subst h;simp
 ·rw [N6 h,N6 (λe=>h (hf a b e))]
theorem oq_eq:OpQ X (L7 .Eq) eqD:=op_eq.imp λx y H Q ⟨dx,dy,h,Qd,rx,ry,rh,q,p⟩=>by
 cases dx<;>cases dy<;>first
  |exact False.elim q
  |(cases (show x= .int _ from rx);cases (show y= .int _ from ry);refine⟨rfl,p _ _ _ _ (.refl H) rh ?_ q⟩;rw [FK (f:=V.int) (λa b e=>by cases e;rfl)];rfl)
  |(cases (show x= .bl _ from rx);cases (show y= .bl _ from ry);refine⟨rfl,p _ _ _ _ (.refl H) rh ?_ q⟩;rw [FK (f:=V.bl) (λa b e=>by cases e;rfl)];rfl)
  |(cases (show x= .str _ from rx);cases (show y= .str _ from ry);refine⟨rfl,p _ _ _ _ (.refl H) rh ?_ q⟩;rw [FK (f:=V.str) (λa b e=>by cases e;rfl)];rfl)
theorem oq_ne:OpQ X (L7 .NotEq) neD:=op_ne.imp λx y H Q ⟨dx,dy,h,Qd,rx,ry,rh,q,p⟩=>by
 cases dx<;>cases dy<;>first
  |exact False.elim q
  |(cases (show x= .int _ from rx);cases (show y= .int _ from ry);refine⟨rfl,p _ _ _ _ (.refl H) rh ?_ q⟩;rw [FK (f:=V.int) (λa b e=>by cases e;rfl)];rfl)
  |(cases (show x= .bl _ from rx);cases (show y= .bl _ from ry);refine⟨rfl,p _ _ _ _ (.refl H) rh ?_ q⟩;rw [FK (f:=V.bl) (λa b e=>by cases e;rfl)];rfl)
  |(cases (show x= .str _ from rx);cases (show y= .str _ from ry);refine⟨rfl,p _ _ _ _ (.refl H) rh ?_ q⟩;rw [FK (f:=V.str) (λa b e=>by cases e;rfl)];rfl)
def Ou (K:G5):R2:=λx y H Q=> ∃a b xs ys,x= .ref a/\y= .ref b/\SqT K H a xs/\SqT K H b ys/\xs= []/\Q (.ref b) H
theorem op_catT0:OpR X (V9 .Add) (Ou X.K):=by
 intro pins s σ H x y v u Q I rx ry h;obtain⟨a,b,xs,ys,rfl,rfl,ha,hb,hx,q⟩:=h;cases rx;cases ry;obtain⟨its,r1,p1,_⟩:=I.tuple ha;obtain⟨its2,r2,p2,_⟩:=I.tuple hb;have hv:its= []:=r1.nil_iff.mpr hx;obtain⟨⟨cls,dd,data,sl⟩,ho,hc,n,hd⟩:=id p1;obtain⟨⟨cls2,dd2,IP,sl2⟩,ho2,hc2,n2,hd2⟩:=id p2;simp only at hc hd hc2 hd2;subst hc hd hc2 hd2;exact qN ⟨_,ho,rfl⟩ ⟨_,ho2,rfl⟩ mN pL gW gH (fM _ _)
  (tuple_addW0 a b its.toArray its2.toArray n n2 dd dd2 sl sl2 (by simp [hv])) ⟨ho,ho2,.ref b,H,I,rfl,q⟩
theorem zS:OpQ X (V9 .Add) Tn:=(op_add.or (op_catT.or (op_catT0.or LB))).imp λx y H Q ⟨dx,dy,h,Qd,rx,ry,rh,q,p⟩=>by
 cases dx<;>cases dy<;>first
  |exact False.elim q
  |skip
 ·exact .inl ⟨_,_,rx,ry,p (.int _) _ _ _ (.refl H) rh rfl q⟩
 ·rename_i ds es;obtain⟨a,vs,e1,h1,r1⟩:=(show ∃a vs,x= .ref a/\H a=some (.tup vs)/\RelDs X.K H ds vs from rx);obtain⟨b,us,e2,h2,r2⟩:=(show ∃a vs,y= .ref a/\H a=some (.tup vs)/\RelDs X.K H es vs from ry);subst e1 e2;obtain⟨hz,q⟩:=q
  by_cases hv:vs= []
  ·subst hv;have e:ds= []:=aH.mp r1.length;subst e;exact .inr (.inr (.inl ⟨a,b,[],us,rfl,rfl,SqT.of h1,SqT.of h2,rfl,p (.tup es) _ _ _ (.refl H) rh ⟨b,us,rfl,h2,r2⟩ q⟩))
  ·refine .inr (.inl ⟨a,b,vs,us,rfl,rfl,SqT.of h1,SqT.of h2,hv,by rw [<-r1.length,<-r2.length];exact hz,λe=> ?_,λ_ c hc=> ?_⟩)
   ·subst e;have e:es= []:=aH.mp r2.length;subst e;rw [O6] at q;exact p (.tup ds) _ _ _ (.refl H) rh ⟨a,vs,rfl,h1,r1⟩ q
   ·exact p (.tup (ds++es)) _ _ _ (.new hc) (rh.new hc) ⟨c,vs++us,rfl,jh,(r1.append r2).mono (.new hc)⟩ q
 ·rename_i a b;obtain⟨xs,ys,h1,h2,hz,q⟩:=q;obtain⟨vs,e1,r1⟩:=rh a xs h1;obtain⟨us,e2,r2⟩:=rh b ys h2;refine .inr (.inr (.inr ⟨a,b,vs,us,rx.1,ry.1,e1,e2,by rw [<-r1.length,<-r2.length];exact hz,λc hc=> ?_⟩));exact p (.lst c) _ _ _ (.new hc) (rh.newL hc (r1.append r2)) ⟨rfl,_,jh⟩ (q c (rh.free hc))
theorem RelDs.flat {K:G5}{H:Hp}{ds:G0 D}{vs:G0 V}(r:RelDs K H ds vs): ∀k:G7,RelDs K H (N9 k ds).flatten (N9 k vs).flatten
 |0=>by simp;exact .nil
 |k+1=>by rw [X7,X7,bZ,bZ];exact r.append (RelDs.flat r k)
theorem oq_mul:OpQ X (V9 .Mult) Tp:=(op_mul.or LD).imp λx y H Q ⟨dx,dy,h,Qd,rx,ry,rh,q,p⟩=>by
 cases dx<;>cases dy<;>first
  |exact False.elim q
  |skip
 ·exact .inl ⟨_,_,rx,ry,q.1,p (.int _) _ _ _ (.refl H) rh rfl q.2⟩
 ·obtain⟨xs,h1,b1,b2,hz,q⟩:=q;obtain⟨vs,e1,r1⟩:=rh _ xs h1;refine .inr ⟨_,_,vs,rx.1,ry,e1,b1,b2,by rw [<-r1.length];exact hz,λc hc=> ?_⟩;exact p (.lst c) _ _ _ (.new hc) (rh.newL hc (r1.flat _)) ⟨rfl,_,jh⟩ (q c (rh.free hc))
end
def ixD:RD2:=λx y h Q=>match x,y with
 | .tup ds,.int i=> ∃d,atI ds i=some d/\Q d h
 | .lst a,.int i=> ∃ds d,h a=some ds/\atI ds i=some d/\Q d h
 | .scr ns,.int i=> ∃n,atI ns i=some n/\Q (.int n) h
 |_,_=>False
theorem Gp {K:G5}{H:Hp}{ds:G0 D}{vs:G0 V}(r:RelDs K H ds vs){i:D3}{d:D}(e:atI ds i=some d): ∃v,atI vs i=some v/\RelD K H d v:=by
 unfold atI at e ⊢;rw [<-r.length];cases q:ixN ds.length i with
 |none=>rw [q] at e;cases e
 |some j=>rw [q] at e;exact r.get e
theorem BW {α β:Type}(f:α->β){xs:G0 α}{i:D3}{x:α}(e:atI xs i=some x):atI (xs.map f) i=some (f x):=by
 unfold atI at e ⊢;rw [G6];cases q:ixN xs.length i with
 |none=>rw [q] at e;cases e
 |some j=>
  rw [q] at e;show (xs.map f)[j]? =_;rw [D9,(show xs[j]? =some x from e)];rfl
section
variable {X:Cx}{a b e:N0}{ta tb te:TED}{pos p2:Pos}
theorem Sd: ∀σ H Q,LE X.K (dOp ixD ta tb) σ H Q->tOp (rIx X.K) (LE X.K ta) (LE X.K tb) σ H Q:=λσ H Q ⟨σd,h,Qd,rs,rh,t,p⟩=>
 LE.bind rs rh t λdx x h1 H1 k1 rs1 rh1 r1 t1=>LE.bind rs1 rh1 t1 λdy y h2 H2 k2 rs2 rh2 ry q=>by
  have rx:=r1.mono k2;have kk:=k1.trans k2;cases dx<;>cases dy<;>first
   |exact False.elim q
   |skip
  ·rename_i ds i;obtain⟨d,e,q⟩:=q;obtain⟨a,vs,e1,hH,r⟩:=(show ∃a vs,x= .ref a/\H2 a=some (.tup vs)/\RelDs X.K H2 ds vs from rx);obtain⟨v,e2,rv⟩:=Gp r e;exact .inr (.inl ⟨a,vs,i,v,e1,ry,SqT.of hH,e2,p _ _ _ _ kk rh2 rv q⟩)
  ·rename_i a i;obtain⟨ds,d,hd,e,q⟩:=q;obtain⟨vs,hH,r⟩:=rh2 a ds hd;obtain⟨v,e2,rv⟩:=Gp r e;exact .inl ⟨a,vs,i,v,rx.1,ry,SqL.of hH,e2,p _ _ _ _ kk rh2 rv q⟩
  ·rename_i ns i;obtain⟨n,e,q⟩:=q;obtain⟨a,e1,hS⟩:=(show ∃a,x= .ref a/\Scr X.K H2 a ns from rx);exact .inl ⟨a,_,i,.int n,e1,ry,hS.sq,BW V.int e,p (.int n) _ _ _ kk rh2 rfl q⟩
theorem qix (ha:QE X a ta)(hb:QE X b tb)(hs:WE b):QE X (.Subscript a b pos) (dOp ixD ta tb):=(Ez Lw ha hb hs).imp Sd
end
def FL:RDn:=λds h Q=>match ds with
 | [.tup xs]=>Q (.int xs.length) h
 | [.lst a]=> ∃xs,h a=some xs/\Q (.int xs.length) h
 | [.scr ns]=>Q (.int ns.length) h
 |_=>False
def Se:RDn:=λds h Q=>match ds with
 | [.int i]=>Q (.int i) h
 | [.bl k]=>Q (.int (if k then 1 else 0)) h
 |_=>False
def Sf:RDn:=λds h Q=>match ds with
 | [.int i,.int j]=>Q (.int (if j>i then j else i)) h
 |_=>False
def Np:RDn:=λds h Q=>match ds with
 | [.tup xs]=>Q (.tup xs) h
 | [.lst a]=> ∃xs,h a=some xs/\Q (.tup xs) h
 |_=>False
def Jh:RDn:=λds h Q=>match ds with
 | [.lst a]=> ∃xs,h a=some xs/\Q (.tup xs) (Yz h a)
 |_=>False
section
variable {X:Cx}
theorem Ov:wZ X (.builtin "len") FL:=call_len_seq.imp λxs H Q ⟨ds,h,Qd,r,rh,q,p⟩=>by
 unfold FL at q;split at q
 ·rename_i es;obtain⟨v,e,r1⟩:=jp r;obtain⟨a,vs,e1,hH,r2⟩:=(show ∃a vs,v= .ref a/\H a=some (.tup vs)/\RelDs X.K H es vs from r1);subst e e1;exact⟨a,vs,rfl,.inr (SqT.of hH),by rw [<-r2.length];exact p (.int _) _ _ _ (.refl H) rh rfl q⟩
 ·rename_i a;obtain⟨es,hd,q⟩:=q;obtain⟨v,e,r1⟩:=jp r;obtain⟨vs,hH,r2⟩:=rh a es hd;have e1:v= .ref a:=r1.1;subst e e1;exact⟨a,vs,rfl,.inl (SqL.of hH),by rw [<-r2.length];exact p (.int _) _ _ _ (.refl H) rh rfl q⟩
 ·rename_i ns;obtain⟨v,e,r1⟩:=jp r;obtain⟨a,e1,hS⟩:=(show ∃a,v= .ref a/\Scr X.K H a ns from r1);subst e e1;exact⟨a,_,rfl,.inl hS.sq,by rw [G6];exact p (.int _) _ _ _ (.refl H) rh rfl q⟩
 ·exact q.elim
theorem Gq:wZ X (.type "int") Se:=call_int1.imp λxs H Q ⟨ds,h,Qd,r,rh,q,p⟩=>by
 unfold Se at q;split at q
 ·rename_i i;obtain⟨v,e,r1⟩:=jp r;cases (show v= .int i from r1);exact .inl ⟨i,e,p (.int i) _ _ _ (.refl H) rh rfl q⟩
 ·rename_i k;obtain⟨v,e,r1⟩:=jp r;cases (show v= .bl k from r1);exact .inr ⟨k,e,p (.int _) _ _ _ (.refl H) rh rfl q⟩
 ·exact q.elim
theorem Ow (hc:X.calm=true):wZ X (.builtin "max") Sf:=(QV hc).imp λxs H Q ⟨ds,h,Qd,r,rh,q,p⟩=>by
 unfold Sf at q;split at q
 ·rename_i i j;obtain⟨v,w,e,r1,r2⟩:=ye r;cases (show v= .int i from r1);cases (show w= .int j from r2);exact⟨i,j,e,p (.int _) _ _ _ (.refl H) rh rfl q⟩
 ·exact q.elim
theorem cq_tuple:wZ X (.type "tuple") Np:=call_tuple_of.imp λxs H Q ⟨ds,h,Qd,r,rh,q,p⟩=>by
 unfold Np at q;split at q
 ·rename_i es;obtain⟨v,e,r1⟩:=jp r;obtain⟨a,vs,e1,hH,r2⟩:=(show ∃a vs,v= .ref a/\H a=some (.tup vs)/\RelDs X.K H es vs from r1);subst e e1;exact⟨a,vs,rfl,.inr ⟨SqT.of hH,p (.tup es) _ _ _ (.refl H) rh ⟨a,vs,rfl,hH,r2⟩ q⟩⟩
 ·rename_i a;obtain⟨es,hd,q⟩:=q;obtain⟨v,e,r1⟩:=jp r;obtain⟨vs,hH,r2⟩:=rh a es hd;have e1:v= .ref a:=r1.1;subst e e1;exact⟨a,vs,rfl,.inl ⟨SqL.of hH,λc hc=>p (.tup es) _ _ _ (.new hc) (rh.new hc) ⟨c,vs,rfl,jh,r2.mono (.new hc)⟩ q⟩⟩
 ·exact q.elim
theorem vo:wZ X (.type "tuple") Jh:=cq_tuple.imp λxs H Q ⟨ds,h,Qd,r,rh,q,p⟩=>by
 unfold Jh at q;split at q
 ·rename_i a;obtain⟨es,hd,q⟩:=q;exact⟨[.lst a],h,λd h'=>Qd d (Yz h' a),r,rh,⟨es,hd,q⟩,λd v h' H' k rh' rd q'=>p d v _ H' k (rh'.sub (Sub.drop h' a)) rd q'⟩
 ·exact q.elim
end
def YC:D->P4 U2
 | .non=>some "NoneType" | .bl _=>some "bool" | .int _=>some "int" | .str _=>some "str" | .tup _=>some "tuple" | .lst _=>some "list" | .dic _ _=>some "dict" | .dct _=>none| .scr _=>none| .exc _=>none| .fn _=>none
def Ox (T:U2)(n:U2):T5:=n==T||(T== "int" &&n== "bool")
theorem RC {K:G5}{H:Hp}{d:D}{v:V}{n:U2}(r:RelD K H d v)(e:YC d=some n):TyOf K H v (.type n):=by
 cases d with
 |non=>cases (show v= .non from r);cases e;exact .non
 |bl b=>cases (show v= .bl b from r);cases e;exact .bl b
 |int i=>cases (show v= .int i from r);cases e;exact .int i
 |str x=>cases (show v= .str x from r);cases e;exact .str x
 |tup ds=>
  obtain⟨a,vs,e1,hH,_⟩:=(show ∃a vs,v= .ref a/\H a=some (.tup vs)/\RelDs K H ds vs from r);subst e1;cases e;exact .tup hH
 |lst a=>
  obtain⟨e1,vs,hH⟩:=(show v= .ref a/\ ∃vs,H a=some (.lst vs) from r);subst e1;cases e;exact .lst hH
 |dic x i=>
  obtain⟨a,e1,hH⟩:=(show ∃a,v= .ref a/\H a=some (.dK [(bV x,V.int i)]) from r);subst e1;cases e;exact .dK hH
 |dct a=>cases e
 |scr ns=>cases e
 |exc C=>cases e
 |fn a=>cases e
def BX:G0 U2:= ["NoneType","bool","int","str","tuple","list","dict"]
theorem XG {d:D}{n:U2}(e:YC d=some n):n∈BX:=by
 cases d<;>cases e<;>decide
def Sg (K:G5):Prop:= ∀n∈BX,∀T∈ ["tuple","int","bool","list","str"],kO K (.type n) (.type T)=some (Ox T n)
theorem BY (K:G5):Sg K:=by
 intro n hn T hT;simp only [BX,D2,F4,or_false] at hn hT;rcases hn with rfl|rfl|rfl|rfl|rfl|rfl|rfl<;>rcases hT with rfl|rfl|rfl|rfl|rfl<;>with_unfolding_all rfl
theorem Gr {X:Cx}(T:U2):CallR X (.builtin "isinstance") (λxs H Q=> ∃x t b,xs= [x,.ty T]/\TyOf X.K H x t/\kO X.K t (.type T)=some b/\Q (.bl b) H):=by
 intro pins s σ H xs us Q I r h;obtain⟨x,t,b,rfl,ty,e,q⟩:=h;obtain⟨u,w',rfl,rx,rt⟩:=QU r;cases (show w'=V4 T from rt);exact QZ I rx ty e λtk=>⟨.bl b,H,I.tok tk,rfl,q⟩
def dIs (T:U2)(ta:TED):TED:=λσ h Q=>ta σ h λx h1=> ∃n,YC x=some n/\Q (.bl (Ox T n)) h1
theorem Sh {X:Cx}{a:N0}{ta:TED}{T:U2}{t:Str}{p p2 pos:Pos}(hT:T∈ ["tuple","int","bool","list","str"])(hg:Gl X "isinstance")(hm:X.mg "isinstance" =none)(hg2:Gl X t)(hm2:X.mg t=none)(hv:U8 t=some (.type T))(ha:QE X a ta)
 (hn:t≠ "__name__" :=by decide)(hd:(t==("__debug__" :Str))=false:=by decide)
 (h1:D7 [a,.Name t p2] X.env=(false,J0 a X.env)::D7 [.Name t p2] X.env:=by rfl)(h2:(K7 pos (D7 [.Name t p2] X.env)).any (·.1)=false:=by rfl):
 QE X (.Call (.Name "isinstance" p) [a,.Name t p2] [] pos) (dIs T ta):=
 (yt (Gr T) hg hm dG (zA ha (zA (QH (v:= .ty T) hg2 hm2 hv rfl hn hd) pa_nil (by rfl)) h1) (by decide) (by decide) h1 h2).imp
  λσ H Q ⟨σd,h,Qd,rs,rh,t,p⟩=>LE.bind rs rh t λd v h1 H1 k1 rs1 rh1 r1 ⟨n,e,q⟩=>⟨v,.type n,Ox T n,rfl,RC r1 e,BY _ n (XG e) T hT,p (.bl _) _ _ _ k1 rh1 rfl q⟩
theorem Gs (bs:G0 T5):(R4 bs.length).all (λi=>bs.getD i false)=bs.all id:=by
 induction bs with
 |nil=>rfl
 |cons b bs ih=>
  rw [D8,g4,w8,cZ,w8];show (b&&_)=(b&&bs.all id);rw [<-ih];rfl
theorem Gt (bs:G0 T5):(R4 bs.length).any (λi=>bs.getD i false)=bs.any id:=by
 induction bs with
 |nil=>rfl
 |cons b bs ih=>
  rw [D8,g4,mH,y8,mH];show (b||_)=(b||bs.any id);rw [<-ih];rfl
theorem YD {bs:G0 T5}{its:G0 G1}(r:Vals (bs.map V.bl) its){i:G7}{v:G1}(e:its[i]? =some v):v= .bool (bs.getD i false):=by
 have hl:=r.length;rw [G6] at hl;have hi:i<its.length:=(P5.mp e).1;have hb:(bs.map V.bl)[i]? =some (.bl bs[i]):=by rw [D9,P2 (by omega)];rfl
 obtain⟨u,e1,r1⟩:=r.get hb;rw [e] at e1;cases e1;rw [M9,P2 (by omega)];exact r1
section
variable {X:Cx}
theorem WI (hc:X.calm=true):CallR X (.builtin "all") (λxs H Q=> ∃ (a:G9) (bs:G0 T5),xs= [.ref a]/\SqL X.K H a (bs.map V.bl)/\Q (.bl (bs.all id)) H):=by
 intro pins s σ H xs us Q I r h;obtain⟨a,bs,rfl,hS,q⟩:=h;obtain⟨u,rfl,ru⟩:=yb r;cases ru;obtain⟨its,rv,pl,hz⟩:=I.list hS;have hl:=pl.isList;have hlt:a<s.heap.objs.size:=by obtain⟨_,e,_⟩:=hl;exact P9 e
 refine call_all_walk (V7 hl ?_);refine⟨s.heap.objs.size,_,_,_,_,_,λi=>bs.getD i false,rfl,iO (A:=X.A.in1) (show X.A.in1.handled=none from I.ok.hd hc) s.heap.objs.size a (M0 hlt) its.toArray,⟨⟨_,R1 _ rfl,rfl,rfl⟩,hl.push _⟩,?_,λh' tk hk=> ?_⟩
 ·intro i v s' Q' E' hP hQ;have e:its[i]? =some v:=by simpa using hP
  rw [YD rv e];exact J4 hQ
 ·have hn:its.toArray.size=bs.length:=by rw [R5,<-rv.length,G6]
  rw [hn,Gs];exact⟨.bl _,H,I.kept (t':=tk) (λb o e=>hk b o (λz=>by rw [P1.mp z] at e;exact absurd (P9 e) (N7 _)) (G3 _ e)),rfl,q⟩
theorem WJ (hc:X.calm=true):CallR X (.builtin "any") (λxs H Q=> ∃ (a:G9) (bs:G0 T5),xs= [.ref a]/\SqL X.K H a (bs.map V.bl)/\Q (.bl (bs.any id)) H):=by
 intro pins s σ H xs us Q I r h;obtain⟨a,bs,rfl,hS,q⟩:=h;obtain⟨u,rfl,ru⟩:=yb r;cases ru;obtain⟨its,rv,pl,hz⟩:=I.list hS;have hl:=pl.isList;have hlt:a<s.heap.objs.size:=by obtain⟨_,e,_⟩:=hl;exact P9 e
 refine call_any_walk (V7 hl ?_);refine⟨s.heap.objs.size,_,_,_,_,_,λi=>bs.getD i false,rfl,iO (A:=X.A.in1) (show X.A.in1.handled=none from I.ok.hd hc) s.heap.objs.size a (M0 hlt) its.toArray,⟨⟨_,R1 _ rfl,rfl,rfl⟩,hl.push _⟩,?_,λh' tk hk=> ?_⟩
 ·intro i v s' Q' E' hP hQ;have e:its[i]? =some v:=by simpa using hP
  rw [YD rv e];exact J4 hQ
 ·have hn:its.toArray.size=bs.length:=by rw [R5,<-rv.length,G6]
  rw [hn,Gt];exact⟨.bl _,H,I.kept (t':=tk) (λb o e=>hk b o (λz=>by rw [P1.mp z] at e;exact absurd (P9 e) (N7 _)) (G3 _ e)),rfl,q⟩
theorem yK {K:G5}{H:Hp}: ∀ {bs:G0 T5} {vs:G0 V},RelDs K H (bs.map D.bl) vs->vs=bs.map V.bl
 | [],_,h=>h
 |b::bs,vs,h=>by
  obtain⟨v,r,e,h1,h2⟩:=(show ∃v r,vs=v::r/\RelD K H (.bl b) v/\RelDs K H (bs.map D.bl) r from h);rw [e,yK h2,(show v= .bl b from h1)];rfl
def Hv:RDn:=λds h Q=> ∃ (a:G9) (bs:G0 T5),ds= [.lst a]/\h a=some (bs.map D.bl)/\Q (.bl (bs.all id)) (Yz h a)
def Si:RDn:=λds h Q=> ∃ (a:G9) (bs:G0 T5),ds= [.lst a]/\h a=some (bs.map D.bl)/\Q (.bl (bs.any id)) (Yz h a)
theorem Nq (hc:X.calm=true):wZ X (.builtin "all") Hv:=(WI hc).imp λxs H Q ⟨ds,h,Qd,r,rh,⟨a,bs,e,hd,q⟩,p⟩=>by
 subst e;obtain⟨v,e,r1⟩:=jp r;obtain⟨vs,hH,r2⟩:=rh a _ hd;have e1:v= .ref a:=r1.1;rw [yK r2] at hH;subst e e1;exact⟨a,bs,rfl,SqL.of hH,p (.bl _) _ _ _ (.refl H) (rh.sub (Sub.drop h a)) rfl q⟩
theorem Oy (hc:X.calm=true):wZ X (.builtin "any") Si:=(WJ hc).imp λxs H Q ⟨ds,h,Qd,r,rh,⟨a,bs,e,hd,q⟩,p⟩=>by
 subst e;obtain⟨v,e,r1⟩:=jp r;obtain⟨vs,hH,r2⟩:=rh a _ hd;have e1:v= .ref a:=r1.1;rw [yK r2] at hH;subst e e1;exact⟨a,bs,rfl,SqL.of hH,p (.bl _) _ _ _ (.refl H) (rh.sub (Sub.drop h a)) rfl q⟩
end
def Tr (to:TED)(te:TED):TED:=λσ h Q=>to σ h λx h1=> ∃a,x= .lst a/\te σ h1 λy h2=> ∃xs,h2 a=some xs/\xs.length<sizeLine/\Q .non (zR h2 a (xs++ [y]))
section
variable {X:Cx}{o e i:N0}{to te ti:TED}{apos cpos pos:Pos}
theorem Hw (ho:QE X o to)(he:QE X e te)(hbase:aU o "append" X.env (J0 o X.env)=J0 o X.env:=by rfl)
 (hfew:((K7 cpos (D7 [e] X.env)).all (λx=> !x.1)&&(mO cpos (gJ [] X.env)).all (λx=>x.1.isSome)&&decide ([e].length+([]:G0 eT).length+(if ([]:G0 eT).isEmpty then 0 else 1)<30))=true:=by rfl)
 (hline:(apos.endLine==cpos.line)=true:=by rfl)(hs:D7 [e] X.env=(false,J0 e X.env)::D7 [] X.env:=by rfl)(hplain:(K7 cpos (D7 [] X.env)).any (·.1)=false:=by rfl):
 QE X (.Call (.Attribute o "append" apos) [e] [] cpos) (Tr to te):=
 (Ro aJ xA xB Gd ho (zA he pa_nil hs) hbase hfew hline hs hplain).imp
  λσ H Q ⟨σd,h,Qd,rs,rh,t,p⟩=>LE.bind rs rh t λd v h1 H1 k1 rs1 rh1 r1 ⟨a,e,q⟩=>by
   subst e;obtain⟨e1,vs,hH⟩:=(show v= .ref a/\ ∃vs,H1 a=some (.lst vs) from r1);subst e1;refine⟨.inl ⟨rfl,vs,SqL.of hH⟩,?_⟩;refine LE.bind rs1 rh1 q λy u h2 H2 k2 rs2 rh2 r2 ⟨xs,hx,hz,q2⟩=> ?_
   obtain⟨ws,hW,r3⟩:=rh2 a xs hx;refine⟨a,ws,u,rfl,rfl,hW,by rw [<-r3.length];exact hz,p .non _ _ _ (k1.trans (k2.trans (.put hW))) (rh2.put hW (r3.append (.cons r2 .nil))) rfl q2⟩
def Oz (to ti:TED):TGD:=λd σ h Q=>to σ h λo h1=>ti σ h1 λi h2=> ∃a k xs j,o= .lst a/\i= .int k/\h2 a=some xs/\ixN xs.length k=some j/\Q σ (zR h2 a (xs.set j d))
theorem OA (ho:QE X o to)(hi:QE X i ti)
 (ha: ∀v,i5 (.Subscript o i pos) X.env v=(do
  let ov <-bL [v] (J0 o X.env)
  let iv <-bL [v,ov] (J0 i X.env)
  lN pos
  bL [v,ov,iv] (y3 ov iv v)
  G0m [v,ov,iv] []):=by intro _;rfl):QG X (.Subscript o i pos) (Oz to ti):=
 (Lf ho hi Rn ha).imp λv σ H Q ⟨d,σd,h,Qd,r,rs,rh,q,p⟩=>
  LE.bind rs rh q λd1 v1 h1 H1 k1 rs1 rh1 r1 q1=>LE.bind rs1 rh1 q1 λd2 v2 h2 H2 k2 rs2 rh2 r2 ⟨a,k,xs,j,e1,e2,hx,hj,q2⟩=>by
   subst e1 e2;have e3:v1= .ref a:=(r1.mono k2).1;obtain⟨ws,hW,r3⟩:=rh2 a xs hx;refine⟨a,ws,k,j,e3,r2,hW,by rw [<-r3.length];exact hj,p _ _ _ _ (k1.trans (k2.trans (.put hW))) (rs2.mono (.put hW)) (rh2.put hW (RelDs.set ((r.mono k1).mono k2) j r3)) q2⟩
end
def UD (N:G0 Str)(sc:G0 (Str×NameKind))(scope:Q1)(js:G0 G7):T5:=
 scope.kind== .function&&scope.names.all (λp=>p.2 != .cell||scope.names.lookup p.1==some .cell)&&scope.names.all (λp=>p.2 != .local||scope.names.lookup p.1==some .local)&&
 scope.names.all (λp=>p.2 != .free||sc.lookup p.1==some .cell||sc.lookup p.1==some .free)&&
 (R4 N.length).all λi=>(scope.names.lookup (N.getD i xS) !=some .local&&scope.names.lookup (N.getD i xS) !=some .cell)||js.contains i
theorem zB {X:Cx}{scope:Q1}{js:G0 G7}(h:UD X.N X.env.scope.names scope js=true):BlockOk X scope js:=by
 unfold UD at h;simp only [H0] at h;obtain⟨⟨⟨⟨h1,h2⟩,h3⟩,h4⟩,h5⟩:=h;refine⟨eq_of_beq h1,λp hp e=> ?_,λp hp e=> ?_,λp hp e=> ?_,λi x e1 e2=> ?_⟩
 ·have:=L0.mp h3 p hp;rw [e] at this;simpa using this
 ·have:=L0.mp h2 p hp;rw [e] at this;simpa using this
 ·have:=L0.mp h4 p hp;rw [e] at this;simpa using this
 ·have hi:i<X.N.length:=(P5.mp e1).1;have:=L0.mp h5 i (S8.mpr hi);rw [M9,e1,rM] at this;rcases e2 with e2|e2<;>(rw [e2] at this;simpa using this)
theorem qpt {X:Cx}{e:N0}{t:TTD}(h:QW X e t):QT X e t:=h.pt
theorem Gu {i:G7}{js:G0 G7}{ti:TID}{te:TED}{σ:SD}{h h1:HD}{Q:KD}{ds:G0 D}{j:ItD}(f:D->D)(hz:ds.length<=sizeLine)(hj:j h1=some ds)
 (ht: ∀R:ItD->HD->Prop,R j h1->ti σ h R)(he: ∀d∈ds,∀Q':KD,Q' (f d) h1->te ((zi js σ).set i (some d)) h1 Q')(hq: ∀p,h1 p=none->Q (.lst p) (zR h1 p (ds.map f))):yJ (bN i) js ti UC te σ h Q:=by
 refine ht _ ⟨ds.length,λk ys h'=>h'=h1/\ys=(ds.take k).map f,⟨rfl,by simp⟩,?_⟩;rintro k ys h' ⟨rfl,rfl⟩;refine⟨by simp only [G6,M5];omega,ds,hj,P3 _,λhl p hp=> ?_,λd hd=>⟨_,rfl,?_⟩⟩
 ·rw [C5 hl];exact hq p hp
 ·unfold UC;dsimp only;rw [R6 rfl];refine he d (P6 hd) _ ⟨h',Sub.refl _,rfl,?_⟩;rw [K5,hd];simp
end L2
namespace HT
open PySem PySem.Spec PyProof.Rows
section
variable {prog:R9}{w:N4}{A:T3}{E:G1->G2->Prop}{s:G2}
theorem yL {t sl:G9}{items:S6 G1}{vl vu:G1}{lo hi:P4 D3}{Q:G1->G2->Prop}(ht:rZ s.heap t items)(hs:s.heap.IsSliceOf sl vl vu .none)(pl:m7 vl lo)(pu:m7 vu hi)
 (hw:sIx items.size 0 lo=0/\sIx items.size items.size hi=items.size)(h:Q (.ref t) s):R3 (R7 prog w) A (pA (.ref t) (.ref sl)) Q E s:=by
 obtain⟨os,hos,hcs,hds⟩:=id hs;have hTs:s.TypeIs (.ref sl) "slice" :=⟨os,hos,hcs⟩;unfold pA
 try with_reducible refine L5 ?_
 first|refine wpAny_bind (G8 ?_)|skip
 refine wpAny_bind (qO ht.typeIs (by decide) ?_);refine wpAny_bind (E4 (name:=eQ "__getitem__") ht.typeIs X9
  (E7 X9 ht.typeIs pF ?_ (pX _ _)))
 show R3 _ _ (kW (.ref t) >>= _) _ _ s;refine wpAny_bind (v7 ht ?_);refine wpAny_bind (m8 hTs ?_);rw [R6 (by decide)];refine wpAny_bind (wU hs pl pu ?_);have hyes:((((sIx items.size 0 lo:G7):D3)==0&&(1:D3)==1&&(sIx items.size items.size hi-sIx items.size 0 lo)==items.size)=true):=by
  rw [hw.1,hw.2];simp
 show R3 _ _ (if (((sIx items.size 0 lo:G7):D3)==0&&(1:D3)==1&&(sIx items.size items.size hi-sIx items.size 0 lo)==items.size)=true then _ else _) _ _ s;rw [R6 hyes];refine wpAny_bind (m:=kY (.ref t)) ?_;unfold kY;refine wpAny_bind (m8 ht.typeIs (G8 ?_));rw [R6 (by decide)];exact wpAny_bind (iM (G8 ⟨_,rfl,G8 h⟩))
end
end HT
namespace L2
open PySem PySem.Spec PyProof.Rows
def Hx (K:G5):V->P4 D3->P4 D3->Hp->VK->Prop:=λx lo hi H Q=> ∃a xs,x= .ref a/\SqT K H a xs/\(HT.sIx xs.length 0 lo=0/\HT.sIx xs.length xs.length hi=xs.length)/\Q (.ref a) H
variable {X:Cx}
theorem sl_whole:SlR X (Hx X.K):=by
 intro pins s σ H x v vl vu lo hi sl Q I rx hs pl pu h;obtain⟨a,xs,rfl,hx,hw,q⟩:=h;cases rx;obtain⟨its,r,ht,hz⟩:=I.tuple hx;have hlen:its.toArray.size=xs.length:=by rw [R5];exact r.length.symm
 refine⟨"tuple",_,PyProof.Rows.slot_tuple_getitem.lookup,ht.typeIs,?_⟩;exact HT.yL ht hs pl pu (by rw [hlen];exact hw) ⟨.ref a,H,I,rfl,q⟩
def XH {α:Type}(xs:G0 α)(lo hi:P4 D3):G0 α:=(xs.drop (HT.sIx xs.length 0 lo)).take (HT.sIx xs.length xs.length hi-HT.sIx xs.length 0 lo)
abbrev TOD:=SD->HD->(P4 D3->HD->Prop)->Prop
def OB (t:TED):TOD:=λσ h Q=>t σ h λx h1=> ∃i,x= .int i/\Q (some i) h1
def LO (K:G5)(t:TOD):TO:=λσ H Q=> ∃σd h Qd,RelS K H σd σ/\RelH K h H/\t σd h Qd/\ ∀o h' H',Kept H H'->RelH K h' H'->Qd o h'->Q o H'
theorem LO.bind {K:G5}{ta:TOD}{σ:St}{H:Hp}{σd:SD}{h:HD}{kd:P4 D3->HD->Prop}{k:P4 D3->Hp->Prop}(rs:RelS K H σd σ)(rh:RelH K h H)(t:ta σd h kd)(f: ∀o h' H',Kept H H'->RelS K H' σd σ->RelH K h' H'->kd o h'->k o H'):LO K ta σ H k:=
 ⟨σd,h,kd,rs,rh,t,λo h' H' kp r1 q=>f o h' H' kp (rs.mono kp) r1 q⟩
theorem PO.imp {e:P4 N0}{t t':TO}(h:PO X e t)(i: ∀σ H Q,t' σ H Q->t σ H Q):PO X e t':=λpins s σ H Q I q=>h pins s σ H Q I (i σ H Q q)
abbrev QO (X:Cx)(e:P4 N0)(t:TOD):Prop:=PO X e (LO X.K t)
theorem BZ {e:N0}{te:TED}(he:QE X e te):QO X (some e) (OB te):=(Bl he).imp λσ H Q ⟨σd,h,Qd,rs,rh,q,p⟩=>
 LE.bind rs rh q λd v h1 H1 k1 rs1 rh1 r1 ⟨i,e,q1⟩=>by subst e;exact⟨i,r1,p _ _ _ k1 rh1 q1⟩
def slD:D->P4 D3->P4 D3->HD->KD->Prop:=λx lo hi h Q=>match x with
 | .tup ds=>Q (.tup (XH ds lo hi)) h
 | .scr ns=> ∀p,h p=none->Q (.lst p) (zR h p ((XH ns lo hi).map D.int))
 | .lst a=> ∃ds,h a=some ds/\ ∀p,h p=none->Q (.lst p) (zR h p (XH ds lo hi))
 |_=>False
def dSl (te:TED)(tl th:TOD):TED:=λσ h Q=>te σ h λx h1=>tl σ h1 λl h2=>th σ h2 λu h3=>slD x l u h3 Q
theorem WK {K:G5}{H:Hp}{ds:G0 D}{vs:G0 V}(r:RelDs K H ds vs)(lo hi:P4 D3):RelDs K H (XH ds lo hi) (DZ vs lo hi):=by
 unfold XH DZ;rw [r.length];exact(r.drop _).take _
theorem Ca {α β:Type}(f:α->β)(xs:G0 α)(lo hi:P4 D3):XH (xs.map f) lo hi=(XH xs lo hi).map f:=by
 unfold XH;rw [G6,xC,xD]
theorem OC {e:N0}{te:TED}{lo hi:P4 N0}{tl th:TOD}{pos p2:Pos}(he:QE X e te)(hl:QO X lo tl)(hu:QO X hi th):QE X (.Subscript e (.Slice lo hi none p2) pos) (dSl te tl th):=
 (Rm (sl_tup.or (sl_whole.or Bn)) he hl hu).imp λσ H Q ⟨σd,h,Qd,rs,rh,q,p⟩=>
  LE.bind rs rh q λd v h1 H1 k1 rs1 rh1 r1 q1=>LO.bind rs1 rh1 q1 λl h2 H2 k2 rs2 rh2 q2=>LO.bind rs2 rh2 q2 λu h3 H3 k3 rs3 rh3 q3=>by
   have rv:=(r1.mono k2).mono k3;have kk:=k1.trans (k2.trans k3);cases d<;>first
    |exact False.elim q3
    |skip
   ·rename_i ds;obtain⟨a,vs,e1,hH,r⟩:=(show ∃a vs,v= .ref a/\H3 a=some (.tup vs)/\RelDs X.K H3 ds vs from rv)
    by_cases hw:HT.sIx vs.length 0 l=0/\HT.sIx vs.length vs.length u=vs.length
    ·refine .inr (.inl ⟨a,vs,e1,SqT.of hH,hw,p (.tup (XH ds l u)) _ _ _ kk rh3 ⟨a,vs,rfl,hH,?_⟩ q3⟩);have z:=WK r l u;have e:DZ vs l u=vs:=by unfold DZ;rw [hw.1,hw.2];simp
     rwa [e] at z
    ·exact .inl ⟨a,vs,e1,SqT.of hH,hw,λc hc=>p (.tup (XH ds l u)) _ _ _ (kk.trans (.new hc)) (rh3.new hc) ⟨c,_,rfl,jh,(WK r l u).mono (.new hc)⟩ q3⟩
   ·rename_i a;obtain⟨ds,hd,q3⟩:=q3;obtain⟨vs,hH,r⟩:=rh3 a ds hd;exact .inr (.inr ⟨a,vs,rv.1,SqL.of hH,λc hc=>p (.lst c) _ _ _ (kk.trans (.new hc)) (rh3.newL hc (WK r l u)) ⟨rfl,_,jh⟩ (q3 c (rh3.free hc))⟩)
   ·rename_i ns;obtain⟨a,e1,hS⟩:=(show ∃a,v= .ref a/\Scr X.K H3 a ns from rv);refine .inr (.inr ⟨a,_,e1,hS.sq,λc hc=>p (.lst c) _ _ _ (kk.trans (.new hc)) (rh3.newL hc ?_) ⟨rfl,_,jh⟩ (q3 c (rh3.free hc))⟩);have z:=WK (wF (K:=X.K) (H:=H3) ns) l u
    rwa [Ca] at z
end L2
namespace HT
open PySem PySem.Spec PyProof.Rows
open Sem (wp)
open Builtin
theorem Jp:fillsNumberSlot (.type "tuple") "mul" =pure false:=
 PySem.fillsNumberSlot_seq (id:= "tuple.__mul__") (r:=some (.builtin "tuple.__rmul__")) F.slot_tuple_mul.lookup (by decide +kernel) F.slot_tuple_rmul.lookup (by decide +kernel)
theorem YE:G0c (.type "tuple")=pure (some (.builtin "tuple.__mul__")):=by
 unfold G0c;rw [rN (T:= "tuple") (name:= "__mul__") (id:= "tuple.__mul__") F.slot_tuple_mul.lookup (by decide +kernel),rN (T:= "tuple") (name:= "__rmul__") (id:= "tuple.__rmul__") F.slot_tuple_rmul.lookup (by decide +kernel)];rfl
section
variable {prog:R9}{w:N4}{A:T3}{E:G1->G2->Prop}{s:G2}
theorem WL {k:D3}{t:Tok}{l:G9}{o:Obj}{its:S6 G1}{n:G7}{P:eU->G2->Prop}(at_:s.heap.get? l=some o)(tup:o.cls= .type "tuple")(dat:o.data= .seq its n)(h:P (.done (.ret .notImplemented)) s):R3 (R7 prog w) A (Builtin.«int.__rmul__» ⟨[.int k t,.ref l],[]⟩) P E s:=by
 obtain⟨c,dd,dt,sl⟩:=o;cases tup;cases dat;obtain⟨hp,g,d,tk,os⟩:=s
 wp_walk
 exact h
theorem VN {l:G9}{its:S6 G1}{n:G7}{x:D3}{u:Tok}{dd:P4 G9}{sl:S6 (P4 G1)}{P:eU->G2->Prop}(at_:s.heap.get? l=some {cls:= .type "tuple",dict:=dd,data:= .seq its n,slots:=sl})(fits: -(2^63)<=x/\x<2^63)
 (same:(its.isEmpty||x==1)=true->P (.done (.ret (.ref l))) s)
 (gone:(its.isEmpty||x==1)=false->(decide (x<=0)||its.isEmpty)=true->P (.done (.ret (.ref s.heap.objs.size))) {s with heap:=s.heap.push {cls:= .type "tuple",data:= .seq #[]}})
 (more:(its.isEmpty||x==1)=false->(decide (x<=0)||its.isEmpty)=false-> ¬ (its.size:D3)*x>(2^63-1) / 8/\kZ ((its.size:D3)*x)=false/\((N9 x.toNat its).foldl (· ++ ·) #[]).size<=sizeLine/\
  P (.done (.ret (.ref s.heap.objs.size))) {s with heap:=s.heap.push {cls:= .type "tuple",data:= .seq ((N9 x.toNat its).foldl (· ++ ·) #[])}}):
 R3 (R7 prog w) A (Builtin.«tuple.__mul__» ⟨[.ref l,.int x u],[]⟩) P E s:=by
 obtain⟨hp,g,d,tk,os⟩:=s
 wp_walk
 rw [R8 (by simp only [bT,X0];omega)]
 wp_walk
 cases c1:(its.isEmpty||x==1) with
 |true=>
  rw [R6 rfl]
  wp_walk
  exact same c1
 |false=>
  rw [R8 S5];cases c2:(decide (x<=0)||its.isEmpty) with
  |true=>
   rw [R6 rfl]
   wp_walk
   exact gone c1 c2
  |false=>
   obtain⟨m1,m2,m3,m4⟩:=more c1 c2;rw [R8 S5];dsimp only;rw [R8 m1,m2,R8 S5]
   wp_walk
   exact m4
end
end HT
namespace L2
open PySem PySem.Spec PyProof.Rows
def Sj (K:G5):R2:=λx y H Q=> ∃ (a:G9) (k:D3) (xs:G0 V),x= .ref a/\y= .int k/\SqT K H a xs/\ -(2^63)<=k/\k<2^63/\xs.length*k.toNat<=sizeLine/\
 ((xs= []\/k=1)->Q (.ref a) H)/\(¬ (xs= []\/k=1)-> ∀p,H p=none->Q (.ref p) (upd H p (.tup (N9 k.toNat xs).flatten)))
theorem Jw {l:G0 G1}:l.toArray= #[]↔l= []:=by cases l<;>simp
variable {X:Cx}
theorem Cb:OpR X (V9 .Mult) (Sj X.K):=by
 intro pins s σ H x y v u Q I rx ry h;obtain⟨a,k,xs,rfl,rfl,hH,h1,h2,hz,q1,q2⟩:=h;cases rx;obtain⟨t,rfl⟩:=ry;obtain⟨its,r,ht,_⟩:=I.tuple hH;obtain⟨⟨cls,dd,data,sl⟩,ho,hc,n,hd⟩:=id ht;simp only at hc hd;subst hc hd;have hl:=r.length;have hnew:(N9 k.toNat its.toArray).foldl (· ++ ·) #[]=(N9 k.toNat its).flatten.toArray:=by
  have:=JP its k.toNat [];rw [L6] at this;exact this
 have few:its.length*k.toNat<=sizeLine:=by rw [<-hl];exact hz
 have free:=I.hok.fresh (P3 _);refine lH (T:= "tuple") (U:= "int") (by decide) ⟨_,ho,rfl⟩ (λs'=>nC s' k t) HT.Jp sM i6 HT.YE F.slot_int_index.lookup
  (E7 i6 (nC s k t) rK (HT.WL ho rfl rfl ⟨_,rfl,rfl,⟨_,ho,rfl⟩,E7 F.slot_tuple_mul ⟨_,ho,rfl⟩ F.entry_tuple_mul (HT.VN ho ⟨h1,h2⟩ (λc=> ?_) (λc c0=> ?_) (λc c0=> ?_)) (F.args_tuple_mul_2 _ _)⟩) (qQ _ _))
 ·refine⟨_,rfl,.ref a,H,I,rfl,q1 ?_⟩;simp only [bT,beq_iff_eq,qR,Jw] at c;exact c.imp (λe=>r.nil_iff.mp e) id
 ·simp only [oN,beq_eq_false_iff_ne,k6,ne_eq,Jw] at c;have k0:k.toNat=0:=by
   simp only [bT,X0,qR,Jw] at c0;have:=c0.resolve_right c.1;omega
  have last:=q2 (λz=>z.elim (λe=>c.1 (r.nil_iff.mpr e)) c.2) _ free;rw [k0] at last;exact⟨_,rfl,.ref s.heap.objs.size,_,I.laid (t':=s.toks) (o:= .tup []) (λb ob q=>G3 _ q) (P3 _) ⟨by decide,[],.nil,IsTupN.new _ _⟩,rfl,last⟩
 ·simp only [oN,beq_eq_false_iff_ne,k6,ne_eq,Jw,gL] at c c0;have em:((its.toArray.size:G7):D3)*k=((its.length*k.toNat:G7):D3):=by rw [Int.natCast_mul,R5,show ((k.toNat:G7):D3)=k by omega]
  have cap:(sizeLine:G7)<=(2^63-1) / 8:=by decide
  rw [em,hnew];refine⟨by omega,by unfold kZ;exact N6 (by omega),by rw [R5,VI,aR];exact few,_,rfl,.ref s.heap.objs.size,_,I.laid (t':=s.toks) (o:= .tup (N9 k.toNat xs).flatten) (λb ob q=>G3 _ q) (P3 _) ⟨by rw [VI,aR];exact hz,_,r.rep k.toNat,IsTupN.new _ _⟩,rfl,q2 (λz=>z.elim (λe=>c.1 (r.nil_iff.mpr e)) c.2) _ free⟩
def Sk:RD2:=λx y h Q=>match x,y with
 | .tup ds,.int k=> -(2^63)<=k/\k<2^63/\ds.length*k.toNat<=sizeLine/\Q (.tup (N9 k.toNat ds).flatten) h
 |x,y=>Tp x y h Q
theorem yM:OpQ X (V9 .Mult) Sk:=(oq_mul.or Cb).imp λx y H Q ⟨dx,dy,h,Qd,rx,ry,rh,q,p⟩=>by
 by_cases ht: ∃ds k,dx= .tup ds/\dy= .int k
 ·obtain⟨ds,k,e1,e2⟩:=ht;subst e1 e2;obtain⟨b1,b2,hz,q⟩:=q;obtain⟨a,vs,e,hH,r⟩:=(show ∃a vs,x= .ref a/\H a=some (.tup vs)/\RelDs X.K H ds vs from rx);refine .inr ⟨a,k,vs,e,ry,SqT.of hH,b1,b2,by rw [<-r.length];exact hz,λhs=> ?_,λ_ c hc=>p (.tup _) _ _ _ (.new hc) (rh.new hc) ⟨c,_,rfl,jh,(r.flat _).mono (.new hc)⟩ q⟩;refine p (.tup _) _ _ _ (.refl H) rh ⟨a,vs,rfl,hH,?_⟩ q;rcases hs with e0|e1
  ·subst e0;have:ds= []:=aH.mp r.length;subst this;simpa using r
  ·subst e1;simpa using r
 ·refine .inl ⟨dx,dy,h,Qd,rx,ry,rh,?_,p⟩;unfold Sk at q;split at q
  ·exact absurd ⟨_,_,rfl,rfl⟩ ht
  ·exact q
def Sl:D->HD->KD->Prop:=λx h Q=>match x with
 | .int i=>Q (.int (-i)) h
 |_=>False
def dUn (f:D->HD->KD->Prop)(ta:TED):TED:=λσ h Q=>ta σ h λx h1=>f x h1 Q
theorem Hy {a:N0}{ta:TED}{pos:Pos}(ha:QE X a ta):QE X (.UnaryOp .USub a pos) (dUn Sl ta):=
 (Eq Lp ha).imp λσ H Q ⟨σd,h,Qd,rs,rh,t,p⟩=>LE.bind rs rh t λd v h1 H1 k1 rs1 rh1 r1 q=>by
  cases d<;>first
   |exact False.elim q
   |exact⟨_,r1,p (.int _) _ _ _ k1 rh1 rfl q⟩
def UE (x:Str)(i:D3):TED:=λ_ h Q=>Q (.dic x i) h
variable {p:G9}
theorem RD {H:Hp}{a b:HO}:upd (upd H p a) p b=upd H p b:=by
 funext q;unfold upd;split<;>rfl
variable {x:Str}
theorem OD {i:D3}{j k:G7}{pos p1 p2:Pos}:QE X (.Dict [some (.Constant (.str x) j p1)] [.Constant (.int i) k p2] pos) (UE x i):=by
 have h0:PPs X pos [some (.Constant (.str x) j p1)] [.Constant (.int i) k p2] [(tC (.str x),tC (.int i))]:=Rt pe_str pe_int Br;refine PE.imp (Bv h0 rfl rfl (by simp) (by simp)) ?_;rintro σ H Q ⟨σd,h,Qd,rs,rh,t,p⟩ q hq;show upd H q (.dK []) q=some (.dK [])/\_;refine⟨jh,[((bV x:Key),V.int i)],rfl,by simp,?_⟩;rw [RD];exact p (.dic x i) (.ref q) h _ (.new hq) (rh.new hq) ⟨q,rfl,jh⟩ t
def VO:G0 (P4 N0)->G0 N0->P4 (Str×D3)
 | [some (.Constant (.str x) _ _)],[.Constant (.int i) _ _]=>some (x,i)
 |_,_=>none
theorem OE {ks:G0 (P4 N0)}{vs:G0 N0}{pos:Pos}{i:D3}(h:VO ks vs=some (x,i):=by rfl):QE X (.Dict ks vs pos) (UE x i):=by
 unfold VO at h;split at h
 ·cases h;exact OD
 ·cases h
def OF (K:G5)(tl:TE):TI:=λσ H R=>tl σ H λx H1=> ∃a,x= .ref a/\((∃xs,SqL K H1 a xs/\R (Itl K a) H1)\/ ∃xs,SqT K H1 a xs/\R (Itt K a) H1)
theorem OG {tg l:N0}{tl:TE}(hl:PE X l tl):PI X tg l (OF X.K tl):=by
 intro pins s σ H R I h;refine thn (hl pins s σ H _ I h) λv s1 ⟨x,H1,I1,r1,q1⟩=> ?_
 obtain⟨a,e,q⟩:=q1;subst e;cases r1;rcases q with ⟨xs,hq,q⟩|⟨xs,hq,q⟩
 ·obtain⟨its,rv,p,hz⟩:=I1.list hq;refine V7 p.isList ?_;refine⟨s1.heap.objs.size,[s1.heap.objs.size],_,_,H1,rfl,I1.kept (t':=s1.toks) λb o e=>G3 _ e,Yp a _,⟨_,R1 _ rfl,rfl,rfl⟩,λb hb=> ?_,q⟩;have e:b=s1.heap.objs.size:=by simpa using hb
  subst e;exact I1.fpOk (P3 _) (I1.hok.fresh (P3 _))
 ·obtain⟨its,rv,p,hz⟩:=I1.tuple hq;refine Y5 (show s1.heap.IsTuple a its.toArray from p) ?_;refine⟨s1.heap.objs.size,[s1.heap.objs.size],_,_,H1,rfl,I1.kept (t':=s1.toks) λb o e=>G3 _ e,Xy a _,⟨_,R1 _ rfl,rfl,rfl⟩,λb hb=> ?_,q⟩;have e:b=s1.heap.objs.size:=by simpa using hb
  subst e;exact I1.fpOk (P3 _) (I1.hok.fresh (P3 _))
def iS (te:TED):TID:=λσ h R=>te σ h λx h1=>match x with
 | .lst a=>R (λh=>h a) h1
 | .tup ds=>R (λ_=>some ds) h1
 | .scr ns=>R (λ_=>some (ns.map D.int)) h1
 |_=>False
variable {K:G5}
theorem RE {H:Hp}{a:G9}{ns:G0 D3}(hs:Scr K H a ns):BN K H (λ_=>some (ns.map D.int)) (Itl K a):=λH' h' k rh ds' e i=>by
 cases e;have hs':Scr K H' a ns:=hs.elim (λ⟨o,z⟩=> .inl ⟨o,k.frz _ _ _ z⟩) .inr;refine⟨λd hd=> ?_,λhl=>⟨_,hs'.sq,by simpa using hl⟩⟩;obtain⟨v,e1,e2⟩:=(wF (K:=K) (H:=H') ns).get hd;refine⟨⟨_,v,hs'.sq,e1⟩,λx H'' ⟨eH,hx⟩=> ?_⟩;subst eH;have:=hx _ hs'.sq;rw [e1] at this;cases this;exact⟨.refl _,rh,e2⟩
variable {te:TED}
theorem OH: ∀σ H R,LI K (iS te) σ H R->OF K (LE K te) σ H R:=λσ H R ⟨σd,h,Rd,rs,rh,q,p⟩=>
 LE.bind rs rh q λd v h1 H1 k1 rs1 rh1 r1 q1=>by
  cases d<;>first
   |exact False.elim q1
   |skip
  ·rename_i ds;obtain⟨a,vs,e,hv,r⟩:=(show ∃a vs,v= .ref a/\H1 a=some (.tup vs)/\RelDs K H1 ds vs from r1);exact⟨a,e,.inr ⟨vs,SqT.of hv,p _ _ _ _ k1 rh1 (RB hv r) q1⟩⟩
  ·rename_i a;obtain⟨e,vs,hv⟩:=(show v= .ref a/\ ∃vs,H1 a=some (.lst vs) from r1);exact⟨a,e,.inl ⟨vs,SqL.of hv,p _ _ _ _ k1 rh1 (YB H1 a) q1⟩⟩
  ·rename_i ns;obtain⟨a,e,hS⟩:=(show ∃a,v= .ref a/\Scr K H1 a ns from r1);exact⟨a,e,.inl ⟨_,hS.sq,p _ _ _ _ k1 rh1 (RE hS) q1⟩⟩
theorem OJ {tg e:N0}(he:QE X e te):QI X tg e (iS te):=(OG he).imp OH
def Nr:TSD:=λ_ _ _=>False
theorem OK {st:K8}:QS X st Nr:=λ_ _ _ _ _ _ ⟨_,_,_,_,_,z,_⟩=>z.elim
structure Zs (mg:Str->P4 G1):Prop where
 len:mg "len" =none
 max:mg "max" =none
 min:mg "min" =none
 divmod:mg "divmod" =none
 all:mg "all" =none
 any:mg "any" =none
 repr:mg "repr" =none
 sum:mg "sum" =none
 sorted:mg "sorted" =none
 int:mg "int" =none
 tuple:mg "tuple" =none
 list:mg "list" =none
 set:mg "set" =none
 bool:mg "bool" =none
 isinstance:mg "isinstance" =none
 range:mg "range" =none
 zip:mg "zip" =none
 enumerate:mg "enumerate" =none
 reversed:mg "reversed" =none
def jw (P:R9)(w:N4)(K:G5)(mg:Str->P4 G1)(base:B6)(n:G7)(x:Str)(ps:G0 Str)(sp:RDn):Prop:=
 ∃ (g:G9) (gd:N5),FnOk P w K mg base CX0 n g gd ps (LSp K sp)/\Binds K gd ps []/\Q4 K (.ref g)=true/\mg x=some (.ref g)
def Gv:RDn:=λds h Q=> ∃ns,ds= [.scr ns]/\(∀a,h a=none)/\ns.length<=63/\ ∀h',Q (.bl true) h'
def Bm (mg:Str->P4 G1)(base:B6):Prop:= ∃bm ob,mg "__builtins__" =some (.ref bm)/\bm≠kK/\base.get? bm=some ob/\ob.cls= .type "module" /\ob.dict=some kK/\ob.data= .plain
def wj (K:G5):G0 (G9×G9):=LN.filterMap (mI K)
theorem TabK.mem {P:G9}(h:TabK K P): ∃c,(c,P)∈wj K:=let ⟨x,hx,c,e⟩:=h;⟨c,aX.mpr ⟨x,hx,e⟩⟩
theorem Gw {P:R9}{w:N4}{mg mb:Str->P4 G1}{k:G7}{fa a:G9}{fd:N5}{s₁:G2}{vs:G0 G1}{ns:G0 D3}
 (KX:K.In s₁.heap)(hns:s₁.heap.Ns mainGlobals mg)(hb:s₁.heap.Ns kK mb)(hbb: ∀x:Str,x≠ "__name__" ->mb x=U8 x)(hlim:s₁.heap.NoLimit)(hg:s₁.gens= #[])
 (ha:s₁.heap.get? a=some {cls:= .type "list",data:= .seq vs.toArray})(hi:W9 vs ns)(hl:ns.length<=63)(hr:Room k pB)
 (hbm:Bm mg s₁.heap)(F: ∀base:B6,K.In base->base.Ns mainGlobals mg->Bm mg base->FnOk P w K mg base CX0 k fa fd [x] (LSp K Gv))(hbind: ∀ (s:G2) (u:G1),o8 s fd ⟨[u],[]⟩ [(x,u)])
 (hT: ∀p∈wj K,uG s₁.heap p.1 p.2/\s₁.heap.get? p.2=some (oO #[])/\K.lookup p.2=none):
 bX (R7 P w) pB (.call (.ref fa) ⟨[.ref a],[]⟩) (λr s'=>r= .ok (.ret (.bool true))/\OldK s₁.heap s'.heap/\s'.os=s₁.os/\j7 s'.gens) s₁:=by
 have rv:=Yw hi;have lenV:=hi.length;have hz:ns.length<=sizeLine:=S0 hl (by decide);have hT': ∀b,b∈(wj K).map (·.2)-> ∃c,uG s₁.heap c b/\s₁.heap.get? b=some (oO #[])/\K.lookup b=none:=λb hb=>by
  obtain⟨p,hp,rfl⟩:=S4.mp hb;exact⟨p.1,hT p hp⟩
 have core: ∀H:Hp,Scr K H a ns->HOk P w H s₁.heap->(∀b u,H b=some u->(b=a/\K.lookup a=none/\ ∃o xs,u= .frz o (.lst xs))\/(b∈(wj K).map (·.2)/\u= .tbl #[]))->(∀b,b∈(wj K).map (·.2)->H b=some (.tbl #[]))->
  bX (R7 P w) pB (.call (.ref fa) ⟨[.ref a],[]⟩) (λr s'=>r= .ok (.ret (.bool true))/\OldK s₁.heap s'.heap/\s'.os=s₁.os/\j7 s'.gens) s₁:=by
  intro H hS hok hA hTt;have noA: ∀ {b:G9} {o:Obj} {es:S6 DictEntry} {ep:G7},s₁.heap.get? b=some o->o.data= .dict es ep->H b=none:=λ{b o es ep} e d=>by
   cases q:H b with
   |none=>rfl
   |some u=>
    rcases hA b u q with ⟨rfl,_,_⟩|⟨z,_⟩
    ·rw [ha] at e;cases e;have d':Data.seq vs.toArray _=Data.dict es ep:=d;cases d'
    ·obtain⟨c,_,e2,_⟩:=hT' b z;rw [e2] at e;cases e;have d':Data.fields _=Data.dict es ep:=d;cases d'
  have nsK: ∀ {b:G9} {m:Str->P4 G1},s₁.heap.Ns b m->(Re s₁.heap H).Ns b m:=λ{b m} ⟨o,es,ep,e,d,r⟩=>⟨o,es,ep,WB e (noA e d),d,r⟩
  have hKb:K.In (Re s₁.heap H):=λb o e=>WB (KX b o e) (by
   cases q:H b with
   |none=>rfl
   |some u=>
    rcases hA b u q with ⟨rfl,z,_⟩|⟨z,_⟩
    ·rw [z] at e;cases e
    ·obtain⟨c,_,_,z2⟩:=hT' b z;rw [z2] at e;cases e)
  have hM:Mod K mg (Re s₁.heap H):=⟨hKb,nsK hns,⟨mb,nsK hb,hbb⟩,let ⟨mc,h1,h2⟩:=hlim;⟨mc,nsK h1,h2⟩⟩;have e0:Env0 P w K mg (Re s₁.heap H) pB [] s₁ H:=⟨rfl,hM,λb o e=>NV e,W3 (QC _ _),trivial,λb hb=>absurd (show b∈([]:G0 G9) from hb) (by simp),hok,.of_eq hg⟩;have hsp:LSp K Gv [.ref a] H (λv _=>v= .bl true) (λ_ _ _=>False):=by
   refine⟨[.scr ns],⟨λ_=>none,λ_=>none⟩,λd _=>d= .bl true,⟨.ref a,[],rfl,⟨a,rfl,hS⟩,rfl⟩,⟨λb ds e=>(by cases e),λp hp=> ?_,λb c e=>(by cases e)⟩,⟨ns,rfl,λ_=>rfl,hl,λ_=>rfl⟩,?_⟩
   ·obtain⟨c,hc⟩:=hp.mem;exact⟨#[],hTt p (Q6 (f:=(·.2)) hc),trivial,λpos cv e=>(by cases e)⟩
   ·intro d v h' H' _ _ r e;subst e;exact r
  have hBm:Bm mg (Re s₁.heap H):=by
   obtain⟨bm,ob,b1,b2,b3,b4,r⟩:=hbm;refine⟨bm,ob,b1,b2,WB b3 ?_,b4,r⟩;cases q:H bm with
   |none=>rfl
   |some u=>
    rcases hA bm u q with ⟨rfl,_,_⟩|⟨z,_⟩
    ·rw [ha] at b3;cases b3;exact absurd (Value.type.inj b4) (by decide)
    ·obtain⟨c,_,e2,_⟩:=hT' bm z;rw [e2] at b3;cases b3;cases b4
  refine bY ((F _ hKb (nsK hns) hBm).run pB [] s₁ H ⟨[.ref a],[]⟩ [.ref a] [.ref a] _ _ hr e0 (hbind s₁ (.ref a)) (.cons rfl .nil) hsp) λr s' h=> ?_
  cases r with
  |error e=>exact False.elim h
  |ok fl=>
   cases fl with
   |next=>exact False.elim h
   |brk=>exact False.elim h
   |cont=>exact False.elim h
   |ret u=>
    obtain⟨v,H',os,bare,un,hok',r',q⟩:=h;have q':v= .bl true:=q;subst q';obtain rfl:u=iK true:=r';have one: ∀b o,s₁.heap.get? b=some o->s'.heap.get? b=some o\/(b∈(wj K).map (·.2)/\ ∃more,s'.heap.get? b=some (oO more)):=λb o e=>by
     cases q:H b with
     |none=>exact .inl (un.keep b o e q (by intro z;exact absurd (show b∈([]:G0 G9) from z) (by simp)) (by simp))
     |some u=>
      rcases hA b u q with ⟨rfl,_,ob,xs,rfl⟩|⟨z,rfl⟩
      ·have z2:=un.frzs _ ob _ q;obtain⟨e1,_⟩:=hok _ _ q;obtain⟨e2,_⟩:=hok' _ _ z2;rw [e] at e1;cases e1;exact .inl e2
      ·obtain⟨more,z2⟩:=un.tbls b _ q;exact .inr ⟨z,_,(show s'.heap.get? b=some _ from hok' b _ z2)⟩
    refine⟨rfl,⟨λb o e=> ?_,λb o e=> ?_⟩,os,bare⟩
    ·rcases one b o e with z|⟨z,more,z2⟩
     ·exact .inl z
     ·obtain⟨c,hc,e2,_⟩:=hT' b z;rw [e] at e2;cases e2;refine .inr (.inl ⟨(hc.tab e).isCodeTable,rfl,#[],more,rfl,?_⟩);rw [z2];simp
    ·rcases one b o e with z|⟨z,more,z2⟩
     ·exact⟨_,z⟩
     ·exact⟨_,z2⟩
 have nT:a ∉ (wj K).map (·.2):=λz=>by
  obtain⟨c,_,e2,_⟩:=hT' a z;rw [ha] at e2;cases e2
 have okT: ∀ {H:Hp} (b:G9),b∈(wj K).map (·.2)->ObjOk P w H s₁.heap b (.tbl #[]):=λb hb=>let ⟨_,_,e,_⟩:=hT' b hb;e
 cases hk:K.lookup a with
 |some o=>
  have e:=KX a o hk;rw [ha] at e;cases e;refine core (λb=>if b∈(wj K).map (·.2) then some (.tbl #[]) else none) (.inr ⟨_,vs.toArray,_,hk,rfl,rfl,rfl,by rw [R5,lenV];exact hz,by simpa using rv⟩) (λb u z=> ?_) (λb u z=> ?_) λb hb=>R6 hb
  ·by_cases hb:b∈(wj K).map (·.2)
   ·have z':=(R6 hb).symm.trans z;cases z';exact okT b hb
   ·have z':=(R8 hb).symm.trans z;cases z'
  ·by_cases hb:b∈(wj K).map (·.2)
   ·have z':=(R6 hb).symm.trans z;cases z';exact .inr ⟨hb,rfl⟩
   ·have z':=(R8 hb).symm.trans z;cases z'
 |none=>
  refine core (λb=>if b=a then some (.frz {cls:= .type "list",data:= .seq vs.toArray} (.lst (ns.map V.int))) else if b∈(wj K).map (·.2) then some (.tbl #[]) else none) (.inl ⟨{cls:= .type "list",data:= .seq vs.toArray},R6 rfl⟩) (λb u z=> ?_) (λb u z=> ?_) λb hb=> ?_
  ·by_cases hb:b=a
   ·have z':=(R6 hb).symm.trans z;cases z';subst hb;exact⟨ha,by rw [G6];exact hz,vs,_,rv,ha⟩
   ·have z':=(R8 hb).symm.trans z
    by_cases hb2:b∈(wj K).map (·.2)
    ·have z2:=(R6 hb2).symm.trans z';cases z2;exact okT b hb2
    ·have z2:=(R8 hb2).symm.trans z';cases z2
  ·by_cases hb:b=a
   ·have z':=(R6 hb).symm.trans z;cases z';exact .inl ⟨hb,hk,_,_,rfl⟩
   ·have z':=(R8 hb).symm.trans z
    by_cases hb2:b∈(wj K).map (·.2)
    ·have z2:=(R6 hb2).symm.trans z';cases z2;exact .inr ⟨hb2,rfl⟩
    ·have z2:=(R8 hb2).symm.trans z';cases z2
  ·have:b≠a:=λz=>nT (z ▸ hb)
   show (if b=a then _ else _)=_;rw [R8 this,R6 hb]
def Sm (q:R9)(K:G5):T5:=LN.all λx=>match mI K x with
 |some p=>(K.lookup p.2).isNone&&((KO q).find? (λe=>e.name==x)).isSome
 |none=>true
theorem RF {l:sO}{k:G7}{q:R9}{loose:G0 Str}{XP:(Str->P4 G1)->B6->Prop}{YP:N4->B6->Prop}{d:DefRec}{K:G0I->G5}(hn:l.most=some 63)(hdf:d.params.defaults= [])(hr:Room k pB)
 (hY: ∀ (w:N4) (h:B6),YP w h->(K w.params).In h)(hB: ∀w:N4,Sm q (K w.params)=true)
 (F: ∀ (w:N4) (mg:Str->P4 G1) (fa:G9) (h:B6),(K w.params).In h->h.Ns mainGlobals mg->mg d.name=some (.ref fa)->
  ∃fd:N5,(∀ (s:G2) (u:G1),o8 s fd ⟨[u],[]⟩ [(x,u)])/\ ∀base:B6,(K w.params).In base->base.Ns mainGlobals mg->Bm mg base->FnOk l.prog w (K w.params) mg base CX0 k fa fd [x] (LSp (K w.params) Gv)):
 G0V q loose XP YP l.row.toRowW d [] (λf vs=>G0a f vs):=by
 refine Att.attach_call hn hdf λw s₀ s₁ mg mb fa o pm cd doc a vs ns G Y ho hd hcd hmg hobj hints hlen hg=> ?_
 have KX:=hY w _ Y;obtain⟨fd,hb,hF⟩:=F w mg fa _ KX G.T.g hmg;refine Gw KX G.T.g G.T.b G.T.builtins G.T.nolimit hg hobj hints hlen hr G.T.bmain hF hb λp hp=> ?_
 obtain⟨x,hx,e⟩:=aX.mp hp;have z:=L0.mp (hB w) x hx;rw [e] at z;simp only [H0,Option.isNone_iff_eq_none] at z;obtain⟨dd,hdd⟩:=W0.mp z.2;have t:=G0K (c:=p.1) (P:=p.2) G.T KX hdd e;exact⟨t.1,t.2,z.1⟩
def zf:N0->T5
 | .Starred .. =>false
 |_=>true
theorem VP {e:N0}{es:G0 N0}{env:Env}(h:zf e=true):D7 (e::es) env=(false,J0 e env)::D7 es env:=by
 cases e<;>first|rfl|cases h
theorem qac {e:N0}{es:G0 N0}{t:TAD}(ha:QE X e te)(hr:QA X es t)(h:zf e=true:=by rfl):QA X (e::es) (zw te t):=BF ha hr (VP h)
theorem WM {α:Type}{xs:G0 α}{i:D3}(h0:0<=i)(h1:i<xs.length): ∃x∈xs,atI xs i=some x:=by
 have hk:i.toNat<xs.length:=by omega
 have ek:i=((i.toNat:G7):D3):=by omega
 have z:=wu (P2 hk);rw [<-ek] at z;exact⟨xs[i.toNat],O9 hk,z⟩
variable {h h':HD}{L:G0 D}
theorem Sub.both (s:Sub h h'):Sub (zR h p L) (zR h' p L):=⟨λa ds e=>(by
 by_cases q:a=p
 ·subst q;rw [jc] at e ⊢;exact e
 ·rw [wb q] at e ⊢;exact s a ds e),s.dc⟩
theorem Sub.newAt (s:Sub h h')(e:h' p=none):Sub h (zR h' p L):=s.trans (.new e)
structure But (p:G9)(h h':HD):Prop where
 ls: ∀a ds,a≠p->h a=some ds->h' a=some ds
 dc: ∀a c,h.dc a=some c->h'.dc a=some c
instance {p:G9}{h h':HD}:CoeFun (But p h h') λ_=> ∀a ds,a≠p->h a=some ds->h' a=some ds:=⟨But.ls⟩
theorem But.refl (p:G9)(h:HD):But p h h:=⟨λ_ _ _ e=>e,λ_ _ e=>e⟩
variable {q:G9}
theorem But.new (s:But p h h')(e:h' q=none):But p h (zR h' q L):=⟨λa ds n z=>(by
 have:=s a ds n z;rw [wb (λw=>by subst w;rw [e] at this;cases this)];exact this),s.dc⟩
theorem But.put (s:But p h h'):But p h (zR h' p L):=⟨λa ds n z=>(by rw [wb n];exact s a ds n z),s.dc⟩
theorem But.putNew (s:But p h h')(e:h q=none):But p h (zR h' q L):=⟨λa ds n z=>(by
 rw [wb (λw=>by subst w;rw [e] at z;cases z)];exact s a ds n z),s.dc⟩
theorem But.sub (s:But p h h')(e:h' p=some L):Sub (zR h p L) h':=⟨λa ds z=>(by
 by_cases q:a=p
 ·subst q;rw [jc] at z;cases z;exact e
 ·rw [wb q] at z;exact s a ds q z),s.dc⟩
theorem But.upd:But p h (zR h p L):=⟨λa ds n z=>(by rw [wb n];exact z),λ_ _ e=>e⟩
theorem jF (e:h p=some L)(f:h q=none):q≠p:=λz=>by subst z;rw [e] at f;cases f
theorem je {M:G0 D}(e:h p=some L)(f:h q=none):zR h q M p=some L:=by rw [wb (λz=>by subst z;rw [e] at f;cases f)];exact e
theorem jj {a b:G9}{M:G0 D}(n:b≠a)(e:h b=some M):zR h a L b=some M:=by rw [wb n];exact e
theorem Zb {n:G7}{i:G7}{d:D}(h:((R4 n).map λ(k:G7)=>D.int (k:D3))[i]? =some d):i<n/\d= .int i:=by
 rw [D9] at h
 by_cases hi:i<n
 ·rw [V6 hi] at h;cases h;exact⟨hi,rfl⟩
 ·rw [J9 (by simpa using hi)] at h;cases h
variable {E:EndsD}{σ:SD}
theorem ji {t u:TSD}(V:SD->HD->Prop)(first: ∀K:SD->HD->Prop,(∀σ' h',V σ' h'->K σ' h')->t {E with nx:=K} σ h)(rest: ∀σ' h',V σ' h'->u E σ' h'):wO t u E σ h:=first (u E) rest
theorem Gx (b:But p h h')(e:h' q=none)(n:q≠p):h q=none:=by
 cases z:h q with
 |none=>rfl
 |some ds=>rw [b q ds n z] at e;cases e
def Nxt (E:EndsD)(V:SD->HD->Prop):EndsD:= {E with nx:=λσ3 h3=> ∃h4,Sub h4 h3/\V σ3 h4,ct:=λσ3 h3=> ∃h4,Sub h4 h3/\V σ3 h4,bk:=E.nx}
variable {h1:HD}
theorem ww {ta:TAD}{g:TGD}{tb:TSD}(n:G7)(W:G7->SD->HD->Prop)(hn:n<1000000)
 (ht: ∀R:G0 D->HD->Prop,R [.int (n:D3)] h1->ta σ h R)(w0:W 0 σ h1)(done: ∀σ' h',W n σ' h'->E.nx σ' h')
 (turn: ∀i σ' h',i<n->W i σ' h'->g (.int (i:D3)) σ' h' λσ2 h2=>tb (Nxt E λσ3 h4=>i+1<=n/\W (i+1) σ3 h4) σ2 h2):Ol (iR1 ta) g tb E σ h:=by
 refine ht _ ⟨(n:D3),rfl,by omega,by omega,n,λi σ' h'=>i<=n/\W i σ' h',⟨M7 _,w0⟩,?_⟩;rintro i σ' h' ⟨hi,w⟩;refine⟨_,rfl,by simp,λhl=> ?_,λd hd=> ?_⟩
 ·have:i=n:=by simp at hl;omega
  subst this;exact done _ _ w
 ·obtain⟨hi',e⟩:=Zb hd;have hi2:i<n:=by omega
  subst e;exact turn i σ' h' hi2 w
theorem UF {ti:TID}{g:TGD}{tb:TSD}{j:ItD}(ds:G0 D)(W:G7->SD->HD->Prop)
 (ht: ∀R:ItD->HD->Prop,R j h1->ti σ h R)(hj: ∀i σ' h',W i σ' h'->j h'=some ds)(w0:W 0 σ h1)(done: ∀σ' h',W ds.length σ' h'->E.nx σ' h')
 (turn: ∀i d σ' h',ds[i]? =some d->W i σ' h'->g d σ' h' λσ2 h2=>tb (Nxt E λσ3 h4=>i+1<=ds.length/\W (i+1) σ3 h4) σ2 h2):Ol ti g tb E σ h:=by
 refine ht _ ⟨ds.length,λi σ' h'=>i<=ds.length/\W i σ' h',⟨M7 _,w0⟩,?_⟩;rintro i σ' h' ⟨hi,w⟩;refine⟨ds,hj i σ' h' w,P3 _,λhl=> ?_,λd hd=>turn i d σ' h' hd w⟩;have:i=ds.length:=by omega
 subst this;exact done _ _ w
theorem Gy {g:TGD}{tb:TSD}{j:ItD}(ds:G0 D)(W:G7->SD->HD->Prop)
 (hj: ∀i σ' h',W i σ' h'->j h'=some ds)(w0:W 0 σ h1)(done: ∀σ' h',W ds.length σ' h'->E.nx σ' h')
 (turn: ∀i d σ' h',ds[i]? =some d->W i σ' h'->g d σ' h' λσ2 h2=>tb (Nxt E λσ3 h4=>i+1<=ds.length/\W (i+1) σ3 h4) σ2 h2):
 ∃ (n:G7) (W:G7->SD->HD->Prop),W 0 σ h1/\ ∀i σ' h',W i σ' h'-> ∃ds,j h'=some ds/\ds.length<=n/\(ds.length<=i->E.nx σ' h')/\
  ∀d,ds[i]? =some d->g d σ' h' λσ2 h2=>tb {E with nx:=λσ3 h3=> ∃h4,Sub h4 h3/\W (i+1) σ3 h4,ct:=λσ3 h3=> ∃h4,Sub h4 h3/\W (i+1) σ3 h4,bk:=E.nx} σ2 h2:=by
 refine⟨ds.length,λi σ' h'=>i<=ds.length/\W i σ' h',⟨M7 _,w0⟩,?_⟩;rintro i σ' h' ⟨hi,w⟩;refine⟨ds,hj i σ' h' w,P3 _,λhl=> ?_,λd hd=>turn i d σ' h' hd w⟩;have:i=ds.length:=by omega
 subst this;exact done _ _ w
theorem Nt {i:G7}{js:G0 G7}{ta:TAD}{Q:KD}(n:G7)(W:G7->G0 D->HD->Prop)(hn:n<=1000)(ht: ∀R:G0 D->HD->Prop,R [.int (n:D3)] h1->ta σ h R)
 (w0:W 0 [] h1)(wl: ∀k ys h',W k ys h'->ys.length=k)(turn: ∀k ys h',k<n->W k ys h'->te ((zi js σ).set i (some (.int (k:D3)))) h' λy h4=> ∃h5,Sub h5 h4/\(k+1<=n/\W (k+1) (ys++ [y]) h5))
 (done: ∀ys h',W n ys h'-> ∀p,h' p=none->Q (.lst p) (zR h' p ys)):yJ (bN i) js (iR1 ta) UC te σ h Q:=by
 refine ht _ ⟨(n:D3),rfl,by omega,by omega,n,λk ys h'=>k<=n/\W k ys h',⟨M7 _,w0⟩,?_⟩;rintro k ys h' ⟨hk,w⟩;refine⟨by rw [wl k ys h' w];exact T4 (jz (by omega)),_,rfl,by simp,λhl p hp=> ?_,λd hd=>⟨_,rfl,?_⟩⟩
 ·have:k=n:=by simp at hl;omega
  subst this;exact done ys h' w p hp
 ·obtain⟨hi',e⟩:=Zb hd;subst e;unfold UC;dsimp only;rw [R6 rfl];exact turn k ys h' (by omega) w
end L2
namespace L2
open PySem PySem.Spec PyProof.Rows PySem.SeqAt
mutual
def ToP (h:HD):D->F8->Prop
 |d,.none=>d= .non
 |d,.bool b=>d= .bl b
 |d,.int i=>d= .int i
 |d,.str x=>d= .str x
 |d,.tuple ps=> ∃ds,d= .tup ds/\ToPs h ds ps
 |d,.list ps=> ∃a ds,d= .lst a/\h a=some ds/\ToPs h ds ps
 |_,.dict _=>False
def ToPs (h:HD):G0 D->G0 F8->Prop
 |ds,[]=>ds= []
 |ds,p::ps=> ∃d r,ds=d::r/\ToP h d p/\ToPs h r ps
end
section
variable {X:Cx}{pins:G0 (G9×Obj)}{σ:St}{H:Hp}{s:G2}{h:HD}
mutual
theorem jM (I:Inv X pins σ H s)(rh:RelH X.K h H): ∀ {p:F8} {d:D} {v:V} {u:G1},ToP h d p->RelD X.K H d v->RelV v u-> ∃as,Reads s.heap u p as
 | .none,d,v,u,t,r,ru=>by cases (show d= .non from t);cases (show v= .non from r);cases (show u= .none from ru);exact⟨[],.none⟩
 | .bool b,d,v,u,t,r,ru=>by cases (show d= .bl b from t);cases (show v= .bl b from r);cases (show u= .bool b from ru);exact⟨[],.bool b⟩
 | .int i,d,v,u,t,r,ru=>by cases (show d= .int i from t);cases (show v= .int i from r);obtain⟨k,rfl⟩:=(show ∃t,u=dJ i t from ru);exact⟨[],.int i k⟩
 | .str x,d,v,u,t,r,ru=>by cases (show d= .str x from t);cases (show v= .str x from r);obtain⟨k,rfl⟩:=(show ∃t,u=mM x t from ru);exact⟨[],.str x k⟩
 | .tuple ps,d,v,u,t,r,ru=>by
  obtain⟨ds,e,ts⟩:=(show ∃ds,d= .tup ds/\ToPs h ds ps from t);subst e;obtain⟨a,vs,e,hH,rs⟩:=(show ∃a vs,v= .ref a/\H a=some (.tup vs)/\RelDs X.K H ds vs from r);subst e;cases (show u= .ref a from ru);obtain⟨its,rv,ht,_⟩:=I.tuple (SqT.of hH);obtain⟨o,ho,hc,n,hd⟩:=ht;obtain⟨as,q⟩:=reads_Ds I rh ts rs rv;exact⟨as,.tuple ho hc hd q⟩
 | .list ps,d,v,u,t,r,ru=>by
  obtain⟨a,ds,e,ha,ts⟩:=(show ∃a ds,d= .lst a/\h a=some ds/\ToPs h ds ps from t);subst e;obtain⟨vs,hH,rs⟩:=rh a ds ha;have e:v= .ref a:=r.1;subst e;cases (show u= .ref a from ru);obtain⟨its,rv,pl,_⟩:=I.list (SqL.of hH);obtain⟨o,ho,hc,n,hd⟩:=pl.isList;obtain⟨as,q⟩:=reads_Ds I rh ts rs rv;exact⟨a::as,.list ho hc hd q⟩
 | .dict _,_,_,_,t,_,_=>(show False from t).elim
theorem reads_Ds (I:Inv X pins σ H s)(rh:RelH X.K h H): ∀ {ps:G0 F8} {ds:G0 D} {vs:G0 V} {us:G0 G1},ToPs h ds ps->RelDs X.K H ds vs->Vals vs us-> ∃as,ReadsAll s.heap us ps as
 | [],ds,vs,us,t,r,rv=>by
  cases (show ds= [] from t);cases (show vs= [] from r);cases rv;exact⟨[],.nil⟩
 |p::ps,ds,vs,us,t,r,rv=>by
  obtain⟨d,dr,e,t1,t2⟩:=(show ∃d r,ds=d::r/\ToP h d p/\ToPs h r ps from t);subst e;obtain⟨v,vr,e,r1,r2⟩:=(show ∃v r,vs=v::r/\RelD X.K H d v/\RelDs X.K H dr r from r);subst e;cases rv with
  |cons ru rt=>
   obtain⟨as,q1⟩:=jM I rh t1 r1 ru;obtain⟨bs,q2⟩:=reads_Ds I rh t2 r2 rt;exact⟨as++bs,.cons q1 q2⟩
end
end
def eqE:RD2:=λx y h Q=>match x,y with
 | .int i,.int j=>Q (.bl (decide (i=j))) h
 | .bl i,.bl j=>Q (.bl (decide (i=j))) h
 | .str i,.str j=>Q (.bl (decide (i=j))) h
 |x,y=> ∃p q,ToP h x p/\ToP h y q/\shaped p=true/\shaped q=true/\Q (.bl (C3 p q)) h
def neE:RD2:=λx y h Q=>match x,y with
 | .int i,.int j=>Q (.bl (!decide (i=j))) h
 | .bl i,.bl j=>Q (.bl (!decide (i=j))) h
 | .str i,.str j=>Q (.bl (!decide (i=j))) h
 |x,y=> ∃p q,ToP h x p/\ToP h y q/\shaped p=true/\shaped q=true/\Q (.bl (!C3 p q)) h
section
variable {X:Cx}
def eqG:RD2:=λx y h Q=> ∃p q,ToP h x p/\ToP h y q/\shaped p=true/\shaped q=true/\Q (.bl (C3 p q)) h
def neG:RD2:=λx y h Q=> ∃p q,ToP h x p/\ToP h y q/\shaped p=true/\shaped q=true/\Q (.bl (!C3 p q)) h
theorem OL (hu:X.A.units+64<cLine):OpQ X (L7 .Eq) eqG:=by
 intro pins s σ H x y v u Q I rx ry h;obtain⟨dx,dy,h,Qd,r1,r2,rh,⟨p,q,t1,t2,s1,s2,qq⟩,post⟩:=h;obtain⟨as,a1⟩:=jM I rh t1 r1 rx;obtain⟨bs,b1⟩:=jM I rh t2 r2 ry;exact compareEq_shaped a1 b1 s1 s2 hu ⟨.bl _,H,I,rfl,post (.bl _) _ _ _ (.refl H) rh rfl qq⟩
theorem OM (hu:X.A.units+64<cLine):OpQ X (L7 .NotEq) neG:=by
 intro pins s σ H x y v u Q I rx ry h;obtain⟨dx,dy,h,Qd,r1,r2,rh,⟨p,q,t1,t2,s1,s2,qq⟩,post⟩:=h;obtain⟨as,a1⟩:=jM I rh t1 r1 rx;obtain⟨bs,b1⟩:=jM I rh t2 r2 ry;exact compareNe_shaped a1 b1 s1 s2 hu ⟨.bl _,H,I,rfl,post (.bl _) _ _ _ (.refl H) rh rfl qq⟩
theorem OpQ.or' {f:G1->G1->Sem G1}{r r' r2:RD2}(h:OpQ X f r)(h':OpQ X f r')(i: ∀x y hh Q,r2 x y hh Q->r x y hh Q\/r' x y hh Q):OpQ X f r2:=λpins s σ H x y v u Q I rx ry ⟨dx,dy,hd,Qd,r1,r2',rh,q,p⟩=>
 (i dx dy hd Qd q).elim (λz=>h pins s σ H x y v u Q I rx ry ⟨dx,dy,hd,Qd,r1,r2',rh,z,p⟩) λz=>h' pins s σ H x y v u Q I rx ry ⟨dx,dy,hd,Qd,r1,r2',rh,z,p⟩
theorem Zc (hu:X.A.units+64<cLine):OpQ X (L7 .Eq) eqE:=oq_eq.or' (OL hu) λx y h Q q=>by
 unfold eqE at q;split at q
 ·exact .inl q
 ·exact .inl q
 ·exact .inl q
 ·exact .inr q
theorem UG (hu:X.A.units+64<cLine):OpQ X (L7 .NotEq) neE:=oq_ne.or' (OM hu) λx y h Q q=>by
 unfold neE at q;split at q
 ·exact .inl q
 ·exact .inl q
 ·exact .inl q
 ·exact .inr q
end
end L2
namespace L2
open PySem PySem.Spec PyProof.Rows
theorem Zd: ∀ {ns:G0 D3} {us:G0 G1},Vals (ns.map V.int) us->W9 us ns
 | [],_,r=>by cases r;exact .nil
 |n::ns,_,r=>by
  cases r with
  |cons r t=>obtain⟨k,rfl⟩:=r;exact .cons n k (Zd t)
theorem YF: ∀ {ns:G0 D3} {us:G0 G1},W9 us ns->Vals (ns.map V.int) us
 |_,_,.nil=> .nil
 |_,_,.cons n t r=> .cons ⟨t,rfl⟩ (YF r)
theorem jS {K:G5}{H:Hp}: ∀ {ns:G0 D3} {vs:G0 V},RelDs K H (ns.map D.int) vs->vs=ns.map V.int
 | [],_,h=>h
 |n::ns,vs,h=>by
  obtain⟨v,r,e,h1,h2⟩:=(show ∃v r,vs=v::r/\RelD K H (.int n) v/\RelDs K H (ns.map D.int) r from h);rw [e,jS h2,(show v= .int n from h1)];rfl
structure JE (X:Cx)(e:N0)(t:TED):Prop where
 to:QE X e t
structure JT (X:Cx)(e:N0)(t:TTD):Prop where
 to:QT X e t
structure JW (X:Cx)(e:N0)(t:TTD):Prop where
 to:QW X e t
structure JA (X:Cx)(e:G0 N0)(t:TAD):Prop where
 to:QA X e t
structure JS (X:Cx)(e:K8)(t:TSD):Prop where
 to:QS X e t
structure JSs (X:Cx)(e:G0 K8)(t:TSD):Prop where
 to:QSs X e t
structure JG (X:Cx)(e:N0)(t:TGD):Prop where
 to:QG X e t
structure JI (X:Cx)(tg e:N0)(t:TID):Prop where
 to:QI X tg e t
structure JO (X:Cx)(e:P4 N0)(t:TOD):Prop where
 to:QO X e t
section
variable {X:Cx}{a b c e:N0}{es rest:G0 N0}{ta tb tc te:TED}{t u:TAD}{tt tu:TTD}{pos:Pos}{f r r':RD2}
theorem jv (i:G7){x:Str}(hN:X.N[i]? =some x:=by rfl)(hv:Vis X.env.scope x:=by first|exact aS rfl|exact cX (aS rfl)|exact cX (cX rfl))(hd:(x==("__debug__" :Str))=false:=by decide)(hcd:(x==("__classdict__" :Str))=false:=by decide):JE X (.Name x pos) (Gi i):=⟨qv (i:=i) (hN:=hN) (hv:=hv) (hd:=hd) (hcd:=hcd)⟩
variable {j:G7}
theorem jC {i:D3}:JE X (.Constant (.int i) j pos) (dC (.int i)):=⟨Hb⟩
theorem jbl {i:T5}:JE X (.Constant (.bool i) j pos) (dC (.bl i)):=⟨qbl⟩
theorem Ts:JE X (.Constant .none j pos) (dC .non):=⟨Hc⟩
theorem Wf {x:Str}:JE X (.Constant (.str x) j pos) (dC (.str x)):=⟨Hd⟩
theorem Sn {x:Str}{i:D3}{tk:Tok}(hg:Gl X x)(hm:X.mg x=some (.int i tk))(hd:(x==("__debug__" :Str))=false:=by decide):JE X (.Name x pos) (dC (.int i)):=⟨EM (hg:=hg) (hm:=hm) (hd:=hd)⟩
theorem jop {op:IO}(ho:OpQ X (V9 op) f)(ha:JE X a ta)(hb:JE X b tb):JE X (.BinOp a op b pos) (dOp f ta tb):=⟨qop (ho:=ho) (ha:=ha.to) (hb:=hb.to)⟩
theorem Hz {op:oE}(ho:OpQ X (L7 op) f)(ha:JE X a ta)(hb:JE X b tb)(hm:Z4 op b=false):JE X (.Compare a [op] [b] pos) (dOp f ta tb):=⟨He (ho:=ho) (ha:=ha.to) (hb:=hb.to) (hm:=hm)⟩
theorem Gz {op:oE}(ho:OpQ X (L7 op) f)(ha:JE X a ta)(hb:JE X b tb)(hm:Z4 op b=false):JT X (.Compare a [op] [b] pos) (vR (dOp f ta tb)):=⟨EN (ho:=ho) (ha:=ha.to) (hb:=hb.to) (hm:=hm)⟩
theorem Cc {op op':oE}(ho:OpQ X (L7 op) r)(ho':OpQ X (L7 op') r')(ha:JE X a ta)(hb:JE X b tb)(hc:JE X c tc)(hm:xR [op,op'] [b,c]=false:=by with_unfolding_all rfl):JT X (.Compare a [op,op'] [b,c] pos) (vR (YA r r' ta tb tc)):=⟨BE (ho:=ho) (ho':=ho') (ha:=ha.to) (hb:=hb.to) (hc:=hc.to) (hm:=hm)⟩
theorem yy (ha:JE X a ta)(he: ∀whole,isTrue a X.env whole=(do let v <-whole;lN a.pos;bL [v] (rD v)):=by intro _;rfl):JT X a (vR ta):=⟨EO (ha:=ha.to) (he:=he)⟩
theorem ON (ha:JT X a tt):JW X (.BoolOp .And [a] pos) tt:=⟨EQ (ha:=ha.to)⟩
theorem OO (ha:JT X a tt):JW X (.BoolOp .Or [a] pos) tt:=⟨Hf (ha:=ha.to)⟩
theorem OP (ha:JT X a tt)(hb:JW X (.BoolOp .And (b::rest) pos) tu):JW X (.BoolOp .And (a::b::rest) pos) (BB tt tu):=⟨ER (ha:=ha.to) (hb:=hb.to)⟩
theorem FM (ha:JT X a tt)(hb:JW X (.BoolOp .Or (b::rest) pos) tu):JW X (.BoolOp .Or (a::b::rest) pos) (LL tt tu):=⟨Hg (ha:=ha.to) (hb:=hb.to)⟩
theorem Jq (ha:JT X a tt):JT X (.UnaryOp .Not a pos) (Gj tt):=⟨ES (ha:=ha.to)⟩
theorem RG {op:BoolOp}(ha:JE X a ta):JE X (.BoolOp op [a] pos) ta:=⟨Hh (ha:=ha.to)⟩
theorem OQ (ha:JE X a ta)(hb:JE X (.BoolOp .And (b::rest) pos) tb):JE X (.BoolOp .And (a::b::rest) pos) (Rw ta tb):=⟨Hi (ha:=ha.to) (hb:=hb.to)⟩
theorem jor (ha:JE X a ta)(hb:JE X (.BoolOp .Or (b::rest) pos) tb):JE X (.BoolOp .Or (a::b::rest) pos) (EJ ta tb):=⟨qor (ha:=ha.to) (hb:=hb.to)⟩
theorem Tt (ha:JE X a ta):JE X (.UnaryOp .Not a pos) (Gk ta):=⟨Hj (ha:=ha.to)⟩
theorem zk:JA X [] We:=⟨Ob⟩
theorem ya {k:G7}(h:JA X es t):JE X (.Tuple es k pos) (LK t):=⟨Hk (h:=h.to)⟩
theorem yC (h:JA X es t):JE X (.List es pos) (FJ t):=⟨Hl (h:=h.to)⟩
end
section
variable {X:Cx}{st:K8}{sts:G0 K8}{t u:TSD}{e:N0}{te:TED}{pos:Pos}
theorem UH:JSs X [] VL:=⟨Oh⟩
theorem jq (h1:JS X st t)(h2:JSs X sts u):JSs X (st::sts) (wO t u):=⟨BL (h1:=h1.to) (h2:=h2.to)⟩
theorem jV (h1:JS X st t):JSs X [st] t:=⟨Oi (h1:=h1.to)⟩
theorem ZQ (he:JE X e te)(hs:cO e none pos.line X.env=pure false:=by rfl):JS X (.Expr e pos) (BG te):=⟨EW (he:=he.to) (hs:=hs)⟩
theorem yA (he:JE X e te):JS X (.Return (some e) pos) (Qy te):=⟨Hm (he:=he.to)⟩
theorem Ea {c:N0}{a b:G0 K8}{tc:TTD}(hc:JT X c tc)(ha:JSs X a t)(hb:JSs X b u):JS X (.If c a b pos) (BH tc t u):=⟨Hn (hc:=hc.to) (ha:=ha.to) (hb:=hb.to)⟩
variable {i:G7}{x:Str}
theorem Tu {pos':Pos}(hN:X.N.Nodup)(hi:X.N[i]? =some x)(hx:Loc X.env.scope x)(he:JE X e te)(hs:cO e (some (.Name x pos')) pos.line X.env=pure false:=by rfl)(hf:X.fn x=true\/X.env.scope.names.lookup x=some .local:=by first|exact .inl rfl|exact .inr rfl|assumption):JS X (.Assign [.Name x pos'] e pos) (RA i te):=⟨Ho (hN:=hN) (hi:=hi) (hx:=hx) (he:=he.to) (hs:=hs) (hf:=hf)⟩
theorem Cd (hN:X.N.Nodup)(hi:X.N[i]? =some x)(hx:Loc X.env.scope x)(hf:X.fn x=true\/X.env.scope.names.lookup x=some .local:=by first|exact .inl rfl|exact .inr rfl|assumption):JG X (.Name x pos) (gN i):=⟨BM (hN:=hN) (hi:=hi) (hx:=hx) (hf:=hf)⟩
theorem Nu {j:G7}{y:Str}{p1 p2:Pos}{k:G7}(hc:X.calm=true)(hN:X.N.Nodup)(hi:X.N[i]? =some x)(hj:X.N[j]? =some y)(hx:Loc X.env.scope x)(hy:Loc X.env.scope y)(hf:X.fn x=true\/X.env.scope.names.lookup x=some .local:=by first|exact .inl rfl|exact .inr rfl|assumption)(hf2:X.fn y=true\/X.env.scope.names.lookup y=some .local:=by first|exact .inl rfl|exact .inr rfl|assumption):JG X (.Tuple [.Name x p1,.Name y p2] k pos) (gT2 i j):=⟨Oj (hc:=hc) (hN:=hN) (hi:=hi) (hj:=hj) (hx:=hx) (hy:=hy) (hf:=hf) (hf2:=hf2)⟩
theorem Eb {tg:N0}{g:TGD}(he:JE X e te)(hg:JG X tg g)(hs:fK [tg] e pos.line X.env=pure false:=by rfl)(hsw:fL [tg] e X.env=pure none:=by rfl)(h1:(f7 [tg] X.env).map (·.2)= [i5 tg X.env]:=by rfl):JS X (.Assign [tg] e pos) (ET te g):=⟨Hq (he:=he.to) (hg:=hg.to) (hs:=hs) (hsw:=hsw) (h1:=h1)⟩
theorem HA {j:G7}{y:Str}{a b:N0}{ta:TAD}{px py pt:Pos}{kt k2 pt2}(hc:X.calm=true)(hN:X.N.Nodup)(hi:X.N[i]? =some x)(hj:X.N[j]? =some y)(hij:i≠j)(hx:X.env.scope.names.lookup x=some .local)(hy:X.env.scope.names.lookup y=some .local)(ha:JA X [a,b] ta)(hw:fL [.Tuple [.Name x px,.Name y py] kt pt] (.Tuple [a,b] k2 pt2) X.env=pure (some [x,y]))(hs:fK [.Tuple [.Name x px,.Name y py] kt pt] (.Tuple [a,b] k2 pt2) pos.line X.env=pure false:=by rfl):JS X (.Assign [.Tuple [.Name x px,.Name y py] kt pt] (.Tuple [a,b] k2 pt2) pos) (EU i j ta):=⟨Hr (hc:=hc) (hN:=hN) (hi:=hi) (hj:=hj) (hij:=hij) (hx:=hx) (hy:=hy) (ha:=ha.to) (hw:=hw) (hs:=hs)⟩
end
section
variable {X:Cx}{tg e iter elt:N0}{te:TED}{ti:TID}{g:TGD}{tb:TSD}{tt:TTD}{pos:Pos}{ta:TAD}{scope:Q1}{js:G0 G7}{ifs:G0 N0}
theorem Ce (he:JE X e te):JI X tg e (iL te):=⟨BQ (he:=he.to)⟩
theorem So {p:Pos}{a:N0}(hg:Gl X "range")(hm:X.mg "range" =none)(ha:JA X [a] ta)(hs:D7 [a] X.env= [(false,J0 a X.env)]:=by rfl):JI X tg (.Call (.Name "range" p) [a] [] pos) (iR1 ta):=⟨EZ (hg:=hg) (hm:=hm) (ha:=ha.to) (hs:=hs)⟩
theorem XI {body:G0 K8}(hp:o7 (R7 X.prog X.w) X.A X.env X.xe)(hc:X.calm=true)(hi:JI X tg iter ti)(hg:JG X tg g)(hb:JSs X body tb)(hs: ∀x,O4 iter X.env x=pure x:=by intro _;rfl):JS X (.For tg iter body [] pos) (Ol ti g tb):=⟨Hs (hp:=hp) (hc:=hc) (hi:=hi.to) (hg:=hg.to) (hb:=hb.to) (hs:=hs)⟩
theorem WN:PTs X [] (LT X.K UC):=BR
theorem VQ {c:N0}(hc:JT X c tt):PTs X [c] (LT X.K tt):=BS (hc:=hc.to)
theorem jlc {i:G7}{x:Str}{p:Pos}(hc:X.calm=true)(S:BlockOk X scope js)(hi:JI X (.Name x p) iter ti)(hj:i∈js)(hN:X.N.Nodup)(hx:X.N[i]? =some x)(hl:scope.names.lookup x=some .local\/scope.names.lookup x=some .cell)(ht: ∀X',jx X scope X'->PTs X' ifs (LT X'.K tt))(he: ∀X',jx X scope X'->JE X' elt te)(hs: ∀x,O4 iter X.env x=pure x:=by intro _;rfl):JE X (.ListComp elt [⟨.Name x p,iter,ifs,0⟩] scope pos) (yJ (bN i) js ti tt te):=⟨qlc (hc:=hc) (S:=S) (hi:=hi.to) (hj:=hj) (hN:=hN) (hx:=hx) (hl:=hl) (ht:=ht) (he:=λX' hX=>(he X' hX).to) (hs:=hs)⟩
theorem HB {i j:G7}{x y:Str}{p1 p2 p3:Pos}{k:G7}(hc:X.calm=true)(S:BlockOk X scope js)(hi:JI X (.Tuple [.Name x p1,.Name y p2] k p3) iter ti)(hj:i∈js)(hj2:j∈js)(hij:i≠j)(hN:X.N.Nodup)(hx:X.N[i]? =some x)(hy:X.N[j]? =some y)(hl:scope.names.lookup x=some .local\/scope.names.lookup x=some .cell)(hl2:scope.names.lookup y=some .local\/scope.names.lookup y=some .cell)(ht: ∀X',jx X scope X'->PTs X' ifs (LT X'.K tt))(he: ∀X',jx X scope X'->JE X' elt te)(hs: ∀x,O4 iter X.env x=pure x:=by intro _;rfl):JE X (.ListComp elt [⟨.Tuple [.Name x p1,.Name y p2] k p3,iter,ifs,0⟩] scope pos) (yJ (b2 i j) js ti tt te):=⟨Ht (hc:=hc) (S:=S) (hi:=hi.to) (hj:=hj) (hj2:=hj2) (hij:=hij) (hN:=hN) (hx:=hx) (hy:=hy) (hl:=hl) (hl2:=hl2) (ht:=ht) (he:=λX' hX=>(he X' hX).to) (hs:=hs)⟩
end
section
variable {X:Cx}{k:G7}{f:G9}{fd:N5}{ps:G0 Str}{spd:RDn}{x:Str}{p pos:Pos}{e:N0}{es:G0 N0}{t:TAD}
theorem Sr (F:FnOk X.prog X.w X.K X.mg X.base CX0 k f fd ps (LSp X.K spd))(hr:Room k X.A)(hg:Gl X x)(hm:X.mg x=some (.ref f))(hk:Q4 X.K (.ref f)=true)(hb:Binds X.K fd ps [])(ha:JA X (e::es) t)(hdb:(x==("__debug__" :Str))=false:=by decide)(he:D7 (e::es) X.env=(false,J0 e X.env)::D7 es X.env:=by rfl)(hpl:(K7 pos (D7 es X.env)).any (·.1)=false:=by rfl):JE X (.Call (.Name x p) (e::es) [] pos) (dCB spd t):=⟨Sa (F:=F) (hr:=hr) (hg:=hg) (hm:=hm) (hk:=hk) (hb:=hb) (ha:=ha.to) (hdb:=hdb) (he:=he) (hpl:=hpl)⟩
theorem yf {id:U2}{r:RDn}(hc:wZ X (.builtin id) r)(hg:Gl X x)(hm:X.mg x=none)(hv:U8 x=some (.builtin id))(ha:JA X (e::es) t)(hn:x≠ "__name__" :=by decide)(hdb:(x==("__debug__" :Str))=false:=by decide)(he:D7 (e::es) X.env=(false,J0 e X.env)::D7 es X.env:=by rfl)(hpl:(K7 pos (D7 es X.env)).any (·.1)=false:=by rfl):JE X (.Call (.Name x p) (e::es) [] pos) (dCB r t):=⟨Op (hc:=hc) (hg:=hg) (hm:=hm) (hv:=hv) (ha:=ha.to) (hn:=hn) (hdb:=hdb) (he:=he) (hpl:=hpl)⟩
theorem wc {T:U2}{r:RDn}(hc:wZ X (.type T) r)(hg:Gl X x)(hm:X.mg x=none)(hv:U8 x=some (.type T))(ha:JA X (e::es) t)(hn:x≠ "__name__" :=by decide)(hdb:(x==("__debug__" :Str))=false:=by decide)(he:D7 (e::es) X.env=(false,J0 e X.env)::D7 es X.env:=by rfl)(hpl:(K7 pos (D7 es X.env)).any (·.1)=false:=by rfl):JE X (.Call (.Name x p) (e::es) [] pos) (dCB r t):=⟨BT (hc:=hc) (hg:=hg) (hm:=hm) (hv:=hv) (ha:=ha.to) (hn:=hn) (hdb:=hdb) (he:=he) (hpl:=hpl)⟩
end
section
variable {X:Cx}{iter elt:N0}{te:TED}{ti:TID}{tt:TTD}{pos spos:Pos}{scope:Q1}{js:G0 G7}{ifs:G0 N0}
theorem UI {i k:G7}{x y:Str}{p py:Pos}(hc:X.calm=true)(hN:X.N.Nodup)(hk:X.N[k]? =some y)(hy:Loc X.env.scope y)(S:BlockOk X scope js)(hi:JI X (.Name x p) iter ti)(hj:i∈js)(hx:X.N[i]? =some x)(hl:scope.names.lookup x=some .local\/scope.names.lookup x=some .cell)(ht: ∀X',jx X scope X'->PTs X' ifs (LT X'.K tt))(he: ∀X',jx X scope X'->JE X' elt te)(hsw:cO (.ListComp elt [⟨.Name x p,iter,ifs,0⟩] scope pos) (some (.Name y py)) spos.line X.env=pure true:=by rfl)(hf:X.fn y=true\/X.env.scope.names.lookup y=some .local:=by first|exact .inl rfl|exact .inr rfl|assumption)(hs: ∀x,O4 iter X.env x=pure x:=by intro _;rfl):JS X (.Assign [.Name y py] (.ListComp elt [⟨.Name x p,iter,ifs,0⟩] scope pos) spos) (RA k (yJ (bN i) js ti tt te)):=⟨Oq (hc:=hc) (hN:=hN) (hk:=hk) (hy:=hy) (S:=S) (hi:=hi.to) (hj:=hj) (hx:=hx) (hl:=hl) (ht:=ht) (he:=λX' hX=>(he X' hX).to) (hsw:=hsw) (hf:=hf) (hs:=hs)⟩
end
section
variable {X:Cx}{a b e:N0}{ta tb te:TED}{pos p2:Pos}
theorem jix (ha:JE X a ta)(hb:JE X b tb)(hs:WE b):JE X (.Subscript a b pos) (dOp ixD ta tb):=⟨qix (ha:=ha.to) (hb:=hb.to) (hs:=hs)⟩
end
variable {X:Cx}{pos:Pos}
theorem RH {a:N0}{ta:TED}{T:U2}{t:Str}{p p2:Pos}(hT:T∈ ["tuple","int","bool","list","str"])(hg:Gl X "isinstance")(hm:X.mg "isinstance" =none)(hg2:Gl X t)(hm2:X.mg t=none)(hv:U8 t=some (.type T))(ha:JE X a ta)(hn:t≠ "__name__" :=by decide)(hd:(t==("__debug__" :Str))=false:=by decide)(h1:D7 [a,.Name t p2] X.env=(false,J0 a X.env)::D7 [.Name t p2] X.env:=by rfl)(h2:(K7 pos (D7 [.Name t p2] X.env)).any (·.1)=false:=by rfl):JE X (.Call (.Name "isinstance" p) [a,.Name t p2] [] pos) (dIs T ta):=⟨Sh (hT:=hT) (hg:=hg) (hm:=hm) (hg2:=hg2) (hm2:=hm2) (hv:=hv) (ha:=ha.to) (hn:=hn) (hd:=hd) (h1:=h1) (h2:=h2)⟩
section
variable {X:Cx}{o e i:N0}{to te ti:TED}{apos cpos pos:Pos}
theorem Cf (ho:JE X o to)(he:JE X e te)(hbase:aU o "append" X.env (J0 o X.env)=J0 o X.env:=by rfl)(hfew:((K7 cpos (D7 [e] X.env)).all (λx=> !x.1)&&(mO cpos (gJ [] X.env)).all (λx=>x.1.isSome)&&decide ([e].length+([]:G0 eT).length+(if ([]:G0 eT).isEmpty then 0 else 1)<30))=true:=by rfl)(hline:(apos.endLine==cpos.line)=true:=by rfl)(hs:D7 [e] X.env=(false,J0 e X.env)::D7 [] X.env:=by rfl)(hplain:(K7 cpos (D7 [] X.env)).any (·.1)=false:=by rfl):JE X (.Call (.Attribute o "append" apos) [e] [] cpos) (Tr to te):=⟨Hw (ho:=ho.to) (he:=he.to) (hbase:=hbase) (hfew:=hfew) (hline:=hline) (hs:=hs) (hplain:=hplain)⟩
theorem GA (ho:JE X o to)(hi:JE X i ti)(ha: ∀v,i5 (.Subscript o i pos) X.env v=(do
 let ov <-bL [v] (J0 o X.env)
 let iv <-bL [v,ov] (J0 i X.env)
 lN pos
 bL [v,ov,iv] (y3 ov iv v)
 G0m [v,ov,iv] []):=by intro _;rfl):JG X (.Subscript o i pos) (Oz to ti):=⟨OA (ho:=ho.to) (hi:=hi.to) (ha:=ha)⟩
end
theorem jpt {e:N0}{t:TTD}(h:JW X e t):JT X e t:=⟨qpt (h:=h.to)⟩
variable {te:TED}
theorem GC {e:N0}(he:JE X e te):JO X (some e) (OB te):=⟨BZ (he:=he.to)⟩
theorem OR {e:N0}{lo hi:P4 N0}{tl th:TOD}{p2:Pos}(he:JE X e te)(hl:JO X lo tl)(hu:JO X hi th):JE X (.Subscript e (.Slice lo hi none p2) pos) (dSl te tl th):=⟨OC (he:=he.to) (hl:=hl.to) (hu:=hu.to)⟩
theorem HE {a:N0}{ta:TED}(ha:JE X a ta):JE X (.UnaryOp .USub a pos) (dUn Sl ta):=⟨Hy (ha:=ha.to)⟩
theorem OS {ks:G0 (P4 N0)}{vs:G0 N0}{x:Str}{i:D3}(h:VO ks vs=some (x,i):=by rfl):JE X (.Dict ks vs pos) (UE x i):=⟨OE (h:=h)⟩
theorem yg {tg e:N0}(he:JE X e te):JI X tg e (iS te):=⟨OJ (he:=he.to)⟩
theorem GD {st:K8}:JS X st Nr:=⟨OK⟩
theorem jac {e:N0}{es:G0 N0}{t:TAD}(ha:JE X e te)(hr:JA X es t)(h:zf e=true:=by rfl):JA X (e::es) (zw te t):=⟨qac (ha:=ha.to) (hr:=hr.to) (h:=h)⟩
section
variable {P:R9}{w:N4}{K:G5}{mg:Str->P4 G1}{base:B6}
theorem Fun.okJ {x qual:Str}{st:K8}{f:G9}{fd:N5}{N ps:G0 Str}{k:G7}{spd:RDn}(F:Fun K x qual st f fd)(S:FnScope N ps (jd st))(len: ∀ds h Q,spd ds h Q->ds.length=ps.length)
 (tb:TSD)(hbody: ∀ (cdv:G1) (A:T3) (outer:G0 Env) (s:G2) (H:Hp) (E:XK),Room k (A.deeper (Q7 qual (jd st) s.heap.objs.size f cdv))->JSs (ZN CX0 P w K mg base N qual (jd st) f cdv A outer s H E).nox (jK st) tb)
 (read: ∀ds h Q,spd ds h Q->tb (VA Q) (jU N ds) h):FnOk P w K mg base CX0 (k+1) f fd ps (LSp K spd):=F.okD S len tb (λcdv A outer s H E hr=>(hbody cdv A outer s H E hr).to) read
end
def Jr (r:G0 D3):D:= .tup (r.map D.int)
def zC (T:G0 (G0 D3)):D:= .tup (T.map Jr)
def VR (n:G7)(r:G0 D3):Prop:=r.length=n/\ ∀x∈r,0<=x/\x<=1000000
def GoodTab (n:G7)(T:G0 (G0 D3)):Prop:=T.length=n/\ ∀r∈T,VR n r
structure Sq (n e:G7)(T:G0 (G0 D3)):Prop where
 len:T.length=n
 row: ∀r∈T,r.length=n
 nn: ∀r∈T,∀x∈r,0<=x
 bit: ∀r∈T,∀x∈r,x<2^e
variable {n:G7}{T:G0 (G0 D3)}
theorem GoodTab.sq (g:GoodTab n T):Sq n 20 T:=⟨g.1,λr hr=>(g.2 r hr).1,λr hr x hx=>((g.2 r hr).2 x hx).1,λr hr x hx=>Int.lt_of_le_of_lt ((g.2 r hr).2 x hx).2 (by decide)⟩
variable {e:G7}
theorem Sq.mono {f:G7}(h:Sq n e T)(l:e<=f):Sq n f T:=⟨h.len,h.row,h.nn,λr hr x hx=>k7 (h.bit r hr x hx) (by
 have:(2:G7)^e<=2^f:=cE (by decide) l;have h2:((2^e:G7):D3)<=((2^f:G7):D3):=by exact_mod_cast this
 simpa using h2)⟩
def ent (T:G0 (G0 D3))(i j:G7):D3:=(T.getD i []).getD j 0
def mkT (n:G7)(f:G7->G7->D3):G0 (G0 D3):=(R4 n).map λi=>(R4 n).map λj=>f i j
theorem Wg {i j:G7}{f:G7->G7->D3}(hi:i<n)(hj:j<n):ent (mkT n f) i j=f i j:=by
 unfold ent mkT;simp [M9,hi,hj]
theorem zU {α:Type}(xs:G0 α)(d:α):xs=(R4 xs.length).map λi=>xs.getD i d:=by
 apply rO (by simp);intro i h1 h2;simp [M9,h1]
theorem Sq.eq_mk (h:Sq n e T):T=mkT n (ent T):=by
 have h1:=zU T [];rw [h.len] at h1;unfold mkT
 conv=>lhs;rw [h1]
 apply A4;intro i hi;have hi':i<T.length:=by rw [h.len];exact S8.mp hi
 have hr:(T.getD i []).length=n:=by
  rw [M9,P2 hi'];exact h.row _ (O9 hi')
 have h2:=zU (T.getD i []) 0;rw [hr] at h2;exact h2
theorem RI {f g:G7->G7->D3}(h: ∀i j,i<n->j<n->f i j=g i j):mkT n f=mkT n g:=by
 unfold mkT;apply A4;intro i hi;apply A4;intro j hj;exact h i j (S8.mp hi) (S8.mp hj)
theorem Sq.of_mk {f:G7->G7->D3}(h0: ∀i j,i<n->j<n->0<=f i j)(h1: ∀i j,i<n->j<n->f i j<2^e):Sq n e (mkT n f):=by
 have key: ∀r∈mkT n f,∃i,i<n/\r=(R4 n).map λj=>f i j:=λr hr=>by
  obtain⟨i,hi,e⟩:=S4.mp hr;exact⟨i,S8.mp hi,e.symm⟩
 refine⟨by simp [mkT],λr hr=> ?_,λr hr x hx=> ?_,λr hr x hx=> ?_⟩
 ·obtain⟨i,_,e⟩:=key r hr;rw [e];simp
 ·obtain⟨i,hi,e⟩:=key r hr;rw [e] at hx;obtain⟨j,hj,e2⟩:=S4.mp hx;rw [<-e2];exact h0 i j hi (S8.mp hj)
 ·obtain⟨i,hi,e⟩:=key r hr;rw [e] at hx;obtain⟨j,hj,e2⟩:=S4.mp hx;rw [<-e2];exact h1 i j hi (S8.mp hj)
theorem Sq.ent_nn (h:Sq n e T){i j:G7}(hi:i<n)(hj:j<n):0<=ent T i j/\ent T i j<2^e:=by
 have hi':i<T.length:=by rw [h.len];exact hi
 have hr:T.getD i []=T[i]:=by rw [M9,P2 hi'];rfl
 have hm:T[i]∈T:=O9 hi';have hj':j<T[i].length:=by rw [h.row _ hm];exact hj
 have he:ent T i j=T[i][j]:=by unfold ent;rw [hr,M9,P2 hj'];rfl
 rw [he];exact⟨h.nn _ hm _ (O9 hj'),h.bit _ hm _ (O9 hj')⟩
variable {U:G0 (G0 D3)}
theorem Sq.ext {f:G7}(h:Sq n e T)(g:Sq n f U)(k: ∀i j,i<n->j<n->ent T i j=ent U i j):T=U:=by
 rw [h.eq_mk,g.eq_mk];exact RI k
def jO (n:G7)(f:G7->D3):D3:=((R4 n).map f).sum
theorem wH (f:G7->D3):jO 0 f=0:=rfl
theorem jG (n:G7)(f:G7->D3):jO (n+1) f=jO n f+f n:=by
 unfold jO;rw [U7,B3,List.sum_append];simp
variable {f:G7->D3}
theorem zg {g:G7->D3}(h: ∀k,k<n->f k=g k):jO n f=jO n g:=by
 unfold jO;congr 1;apply A4;intro k hk;exact h k (S8.mp hk)
theorem WO (h: ∀k,k<n->0<=f k):0<=jO n f:=by
 induction n with
 |zero=>exact Int.le_refl _
 |succ n ih=>rw [jG];have:=ih λk hk=>h k (by omega);have:=h n (by omega);omega
theorem RJ {b:D3}(h: ∀k,k<n->f k<=b):jO n f<=n*b:=by
 induction n with
 |zero=>simp [wH]
 |succ n ih=>
  rw [jG];have h1:=ih λk hk=>h k (by omega);have h2:=h n (by omega)
  have:((n+1:G7):D3)*b=(n:D3)*b+b:=by rw [Int.natCast_add,Int.add_mul];simp
  omega
theorem GE (n:G7)(f g:G7->D3):jO n (λk=>f k+g k)=jO n f+jO n g:=by
 induction n with
 |zero=>rfl
 |succ n ih=>rw [jG,jG,jG,ih];omega
theorem Ze (n:G7)(c:D3)(f:G7->D3):jO n (λk=>c*f k)=c*jO n f:=by
 induction n with
 |zero=>simp [wH]
 |succ n ih=>rw [jG,jG,ih,Int.mul_add]
theorem XJ (n:G7)(c:D3)(f:G7->D3):jO n (λk=>f k*c)=jO n f*c:=by
 rw [qS,<-Ze];exact zg λk _=>qS _ _
theorem XL (m n:G7)(f:G7->G7->D3):jO m (λi=>jO n (f i))=jO n (λj=>jO m λi=>f i j):=by
 induction m with
 |zero=>
  rw [wH]
  induction n with
  |zero=>rfl
  |succ n ih=>rw [jG,<-ih,wH];rfl
 |succ m ih=>
  rw [jG,ih,<-GE];exact zg λj _=>(jG m λi=>f i j).symm
theorem YG {i:G7}(hi:i<n)(h: ∀k,k<n->k≠i->f k=0):jO n f=f i:=by
 induction n with
 |zero=>omega
 |succ n ih=>
  rw [jG]
  by_cases e:i=n
  ·subst e;have:jO i f=0:=by
    have:jO i f=jO i (λ_=>0*1):=zg λk hk=>by rw [h k (by omega) (by omega)];rfl
    rw [this,Ze];simp
   omega
  ·rw [ih (by omega) λk hk hne=>h k (by omega) hne,h n (by omega) (by omega)];omega
theorem GF (h: ∀k,k<n->0<=f k):0<jO n f↔ ∃k,k<n/\0<f k:=by
 induction n with
 |zero=>simp [wH]
 |succ n ih=>
  rw [jG];have h1:=WO λk (hk:k<n)=>h k (by omega)
  have h2:=h n (by omega);have ih':=ih λk hk=>h k (by omega)
  constructor
  ·intro z
   by_cases q:0<f n
   ·exact⟨n,by omega,q⟩
   ·obtain⟨k,a,b⟩:=ih'.mp (by omega);exact⟨k,by omega,b⟩
  ·rintro ⟨k,a,b⟩
   by_cases q:k=n
   ·subst q;omega
   ·have:=ih'.mpr ⟨k,by omega,b⟩;omega
def VB (n:G7)(T U:G0 (G0 D3)):G0 (G0 D3):=mkT n λi j=>jO n λk=>ent T i k*ent U k j
theorem Sq.mul {f:G7}(h:Sq n e T)(g:Sq n f U)(hn:n<=8):Sq n (e+f+3) (VB n T U):=by
 have nn: ∀i j,i<n->j<n-> ∀k,k<n->0<=ent T i k*ent U k j:=λi j hi hj k hk=>uH (h.ent_nn hi hk).1 (g.ent_nn hk hj).1
 refine Sq.of_mk (λi j hi hj=>WO (nn i j hi hj)) λi j hi hj=> ?_
 have hle: ∀k,k<n->ent T i k*ent U k j<=2^e*2^f-1:=λk hk=>by
  have a:=h.ent_nn hi hk;have b:=g.ent_nn hk hj;have:ent T i k*ent U k j<2^e*2^f:=by
   have p:(0:D3)<2^f:=sD (by decide)
   calc ent T i k*ent U k j<=ent T i k*2^f:=Int.mul_le_mul_of_nonneg_left (y9 b.2) a.1
    _<2^e*2^f:=Int.mul_lt_mul_of_pos_right a.2 p
  omega
 have s:=RJ hle;have p:(0:D3)<2^e*2^f:=IR (sD (by decide)) (sD (by decide));have e1:(2:D3)^(e+f+3)=8*(2^e*2^f):=by rw [IS,IS];rw [qS];rfl
 rw [e1];have hn':(n:D3)<=8:=by omega
 have:(n:D3)*(2^e*2^f-1)<=8*(2^e*2^f-1):=Int.mul_le_mul_of_nonneg_right hn' (by omega);omega
theorem yN {i j:G7}(hi:i<n)(hj:j<n):ent (VB n T U) i j=jO n λk=>ent T i k*ent U k j:=Wg hi hj
def GH (n:G7):G0 (G0 D3):=mkT n λi j=>if i=j then 1 else 0
theorem Sq.one (n:G7):Sq n 1 (GH n):=Sq.of_mk (f:=λi j=>if i=j then 1 else 0) (λi j _ _=>by split<;>decide) λi j _ _=>by split<;>decide
theorem mul_assoc {f g:G7}{V:G0 (G0 D3)}(hT:Sq n e T)(hU:Sq n f U)(hV:Sq n g V)(hn:n<=8):VB n (VB n T U) V=VB n T (VB n U V):=by
 refine((hT.mul hU hn).mul hV hn).ext (hT.mul (hU.mul hV hn) hn) λi j hi hj=> ?_
 rw [yN hi hj,yN hi hj];have e1:(jO n λk=>ent (VB n T U) i k*ent V k j)=jO n λk=>jO n λl=>ent T i l*ent U l k*ent V k j:=
  zg λk hk=>by rw [yN hi hk,<-XJ]
 have e2:(jO n λl=>ent T i l*ent (VB n U V) l j)=jO n λl=>jO n λk=>ent T i l*(ent U l k*ent V k j):=
  zg λl hl=>by rw [yN hl hj,<-Ze]
 rw [e1,e2,XL];exact zg λl _=>zg λk _=>Int.mul_assoc _ _ _
theorem RK (hT:Sq n e T)(hn:n<=8):VB n (GH n) T=T:=by
 refine((Sq.one n).mul hT hn).ext hT λi j hi hj=> ?_
 rw [yN hi hj,YG hi λk hk hne=>by rw [GH,Wg hi hk,R8 (U9 hne)];simp];rw [GH,Wg hi hi,R6 rfl];simp
theorem RL (hT:Sq n e T)(hn:n<=8):VB n T (GH n)=T:=by
 refine(hT.mul (Sq.one n) hn).ext hT λi j hi hj=> ?_
 rw [yN hi hj,YG hj λk hk hne=>by rw [GH,Wg hk hj,R8 hne];simp];rw [GH,Wg hj hj,R6 rfl];simp
def XM (n:G7)(T:G0 (G0 D3)):G7->G0 (G0 D3)
 |0=>GH n
 |k+1=>VB n (XM n T k) T
theorem Sq.pow (hT:Sq n e T)(hn:n<=8): ∀k,Sq n (k*(e+3)+1) (XM n T k)
 |0=>(Sq.one n).mono (by omega)
 |k+1=>((Sq.pow hT hn k).mul hT hn).mono (by rw [gX];omega)
def Su (n:G7)(T:G0 (G0 D3)):G0 (G0 D3):=mkT n λi j=>if ent T i j=0 then 0 else 1
theorem Zf {x:D3}(h0:0<=x)(h1:x<2^e):x.natAbs<2^e:=by
 have:((2^e:G7):D3)=2^e:=by simp
 omega
section
variable {α β:Type}{i i':G7}{js:G0 G7}{ti ti':TID}{te:TED}{σ:SD}{h:HD}{Q:KD}{j:ItD}
theorem lcA (xs:G0 α)(c g:α->D)(hz:xs.length<=1000)(hj:j h=some (xs.map c))(ht: ∀R:ItD->HD->Prop,R j h->ti σ h R)
 (he: ∀x∈xs,∀Q':KD,Q' (g x) h->te ((zi js σ).set i (some (c x))) h Q')(hq: ∀p,h p=none->Q (.lst p) (zR h p (xs.map g))):yJ (bN i) js ti UC te σ h Q:=by
 refine ht _ ⟨xs.length,λk ys h'=>h'=h/\ys=(xs.take k).map g,⟨rfl,by simp⟩,?_⟩;rintro k ys h' ⟨rfl,rfl⟩;refine⟨by simp only [G6,M5];exact T4 (jz (by omega)),xs.map c,hj,by simp,λhl p hp=> ?_,λd hd=>⟨_,rfl,?_⟩⟩
 ·rw [C5 (by simpa using hl)];exact hq p hp
 ·unfold UC;dsimp only;rw [R6 rfl];rw [D9] at hd;cases hx:xs[k]? with
  |none=>rw [hx] at hd;cases hd
  |some x=>
   rw [hx] at hd;cases hd;refine he x (P6 hx) _ ⟨h',Sub.refl _,rfl,?_⟩;rw [K5,hx];simp
theorem lcF (xs:G0 α)(c g:α->D)(p:α->T5){tt:TTD}(hz:xs.length<=1000)(hj:j h=some (xs.map c))(ht: ∀R:ItD->HD->Prop,R j h->ti σ h R)
 (hp: ∀x∈xs,∀Q':T5->HD->Prop,Q' (p x) h->tt ((zi js σ).set i (some (c x))) h Q')(he: ∀x∈xs,p x=true-> ∀Q':KD,Q' (g x) h->te ((zi js σ).set i (some (c x))) h Q')(hq: ∀a,h a=none->Q (.lst a) (zR h a ((xs.filter p).map g))):yJ (bN i) js ti tt te σ h Q:=by
 refine ht _ ⟨xs.length,λk ys h'=>h'=h/\ys=((xs.take k).filter p).map g,⟨rfl,by simp⟩,?_⟩;rintro k ys h' ⟨rfl,rfl⟩;refine⟨?_,xs.map c,hj,by simp,λhl a ha=> ?_,λd hd=>⟨_,rfl,?_⟩⟩
 ·have:=Y3 p (xs.take k);simp only [G6,M5] at this ⊢;exact T4 (jz (by omega))
 ·rw [C5 (by simpa using hl)];exact hq a ha
 ·rw [D9] at hd;cases hx:xs[k]? with
  |none=>rw [hx] at hd;cases hd
  |some x=>
   rw [hx] at hd;cases hd;refine hp x (P6 hx) _ ?_;cases hb:p x with
   |true=>
    rw [R6 rfl];refine he x (P6 hx) hb _ ⟨h',Sub.refl _,rfl,?_⟩;rw [K5,hx];simp [hb]
   |false=>
    rw [R8 S5];refine⟨h',Sub.refl _,rfl,?_⟩;rw [K5,hx];simp [hb]
theorem OT (xs:G0 α)(c g:α->D)(p:α->T5){tt:TTD}(hz:xs.length<=1000)(hj:j h=some (xs.map c))(ht: ∀R:ItD->HD->Prop,R j h->ti σ h R)
 (hp: ∀x∈xs,∀Q':T5->HD->Prop,Q' (p x) h->tt ((zi js σ).set i (some (c x))) h Q')(he: ∀x∈xs,p x=true-> ∀Q':KD,Q' (g x) h->te ((zi js σ).set i (some (c x))) h Q')(hq:Q (.tup ((xs.filter p).map g)) h):dCB Jh (zw (yJ (bN i) js ti tt te) We) σ h Q:=by
 show yJ (bN i) js ti tt te σ h (λx h1=>Jh [x] h1 Q);exact lcF xs c g p hz hj ht hp he λa ha=>(show ∃ys,zR h a ((xs.filter p).map g) a=some ys/\Q (.tup ys) (Yz (zR h a ((xs.filter p).map g)) a) from ⟨_,jc,by rw [wG ha];exact hq⟩)
end
end L2
namespace L2
open PySem PySem.Spec PyProof.Rows PySem.SeqAt
def Sv (j:ItD):TID:=λ_ h R=>R j h
theorem RM {b:D->SD->SD->Prop}{js:G0 G7}{ti:TID}{tt:TTD}{te:TED}{σ:SD}{h:HD}{Q:KD}(x:ti σ h λj h1=>yJ b js (Sv j) tt te σ h1 Q):yJ b js ti tt te σ h Q:=x
def jR (o:G0 G7):D:= .tup (o.map λ(k:G7)=>D.int (k:D3))
def vS (o:G0 G7):G0 D3:=o.map λ(k:G7)=>(k:D3)
theorem Cg (o:G0 G7):jR o= .tup ((vS o).map D.int):=by unfold jR vS;rw [O0];rfl
theorem Zg (h:HD): ∀ns:G0 D3,ToPs h (ns.map D.int) (ns.map gA)
 | []=>rfl
 |n::ns=>⟨_,_,rfl,rfl,Zg h ns⟩
theorem yO: ∀ns:G0 D3,B9 (ns.map gA)=true
 | []=>rfl
 |n::ns=>by show (K3 (.int n)&&_)=true;rw [yO ns];rfl
theorem vT: ∀ns:G0 D3,N2 (ns.map gA)<=1
 | []=>by simp [N2]
 |n::ns=>by
  have:=vT ns;simp only [C6,N2,E3];omega
theorem VS (ns:G0 D3):shaped (.list (ns.map .int))=true:=by
 unfold shaped;have h1:K3 (.list (ns.map .int))=true:=by simp only [K3];exact yO ns
 have h2:=vT ns;have h3:E3 (.list (ns.map .int))<=64:=by simp only [E3];omega
 rw [h1,M8 h3];rfl
def RN (r:G0 D3):F8:= .tuple (r.map .int)
def Tv (T:G0 (G0 D3)):F8:= .tuple (T.map RN)
variable {n e:G7}{T:G0 (G0 D3)}
theorem GI (h:Sq n e T){i:G7}(hi:i<n):atI (T.map Jr) (i:D3)=some (Jr (T.getD i [])):=by
 have hi':i<T.length:=by rw [h.len];exact hi
 exact wu (by rw [D9,M9,P2 hi'];rfl)
theorem Sq.getRow (h:Sq n e T){i:G7}(hi:i<n):T.getD i []∈T:=by
 have hi':i<T.length:=by rw [h.len];exact hi
 rw [M9,P2 hi'];exact O9 hi'
theorem GJ {r:G0 D3}(h:r.length=n){j:G7}(hj:j<n):atI (r.map D.int) (j:D3)=some (.int (r.getD j 0)):=by
 have hj':j<r.length:=by rw [h];exact hj
 exact wu (by rw [D9,M9,P2 hj'];rfl)
theorem pow_add (h:Sq n e T)(hn:n<=8)(a:G7): ∀b,XM n T (a+b)=VB n (XM n T a) (XM n T b)
 |0=>by rw [show XM n T 0=GH n from rfl,RL (h.pow hn a) hn];rfl
 |b+1=>by
  show VB n (XM n T (a+b)) T=VB n (XM n T a) (VB n (XM n T b) T);rw [pow_add h hn a b,mul_assoc (h.pow hn a) (h.pow hn b) h hn]
theorem Ch (h:Sq n e T)(hn:n<=8):XM n T 1=T:=RK h hn
theorem YH {f i j:G7}{U:G0 (G0 D3)}(h:Sq n e T)(g:Sq n f U)(hi:i<n)(hj:j<n):ent (VB n T U) i j≠0↔ ∃k,k<n/\ent T i k≠0/\ent U k j≠0:=by
 rw [yN hi hj];have nn: ∀k,k<n->0<=ent T i k*ent U k j:=λk hk=>uH (h.ent_nn hi hk).1 (g.ent_nn hk hj).1
 have s:=WO nn;have p:=GF nn;constructor
 ·intro z;obtain⟨k,hk,w⟩:=p.mp (by omega);refine⟨k,hk,λq=> ?_,λq=> ?_⟩
  ·rw [q] at w;simp at w
  ·rw [q] at w;simp at w
 ·rintro ⟨k,hk,a,b⟩ z;have c:=(h.ent_nn hi hk).1;have d:=(g.ent_nn hk hj).1;have:0<ent T i k*ent U k j:=IR (by omega) (by omega);have:=p.mpr ⟨k,hk,this⟩;omega
section
variable {prog:R9}{w:N4}{A:T3}{E:G1->G2->Prop}{s:G2}
variable {items:S6 G1}
theorem GK {it t:G9}{i n:G7}{d1 d2:P4 G9}{s1 s2:S6 (P4 G1)}{P:eU->G2->Prop}(a1:s.heap.get? it=some {cls:= .type "tuple_iterator",dict:=d1,data:= .fields #[.ref t,.int i 0],slots:=s1})(a2:s.heap.get? t=some {cls:= .type "tuple",dict:=d2,data:= .seq items n,slots:=s2})
 (more: ∀x h',items[i]? =some x->h'.IsTupleIter it t (i+1)->L9 it s.heap h'->P (.done (.ret x)) {s with heap:=h'})
 (none_:items[i]? =none->R3 (R7 prog w) A (do mS (.ref it) 0 .none;cF) P E s):R3 (R7 prog w) A (Builtin.«tuple_iterator.__next__» ⟨[.ref it],[]⟩) P E s:=by
 obtain⟨hp,g,d,tk,os⟩:=s
 wp_walk
 rw [Q8];cases hx:items[i]? with
 |none=>exact wpAny_bind (iM (none_ hx))
 |some x=>
  refine wpAny_bind (uI a1 rfl (by simp) (G8 (more x _ hx ⟨_,B2 _ a1 ?_,rfl,?_⟩ (C7 ..))))
  ·rfl
  ·simp [Z7,A1]
theorem Zh {Q:eU->G2->Prop}(hh:A.handled=none)(hE: ∀h' e,(∀b o,s.heap.get? b=some o->h'.get? b=some o)->(∃o,h'.get? e=some o/\o.cls= .type "StopIteration")->E (.ref e) {s with heap:=h'}):R3 (R7 prog w) A cF Q E s:=by
 obtain⟨hp,g,d,tk,os⟩:=s;unfold cF
 wp_walk
 unfold raiseNew;refine wpAny_bind (wpAny_handled ?_);rw [hh];exact wpAny_bind (G8 (wpAny_throw (hE _ _ (λb o q=>G3 _ (G3 _ q)) ⟨_,R1 _ rfl,rfl⟩)))
theorem Wh {it t:G9}{i:G7}{x:G1}{Q:G1->G2->Prop}(hit:s.heap.IsTupleIter it t i)(ht:s.heap.IsTuple t items)(hx:items[i]? =some x)
 (hQ: ∀h',h'.IsTupleIter it t (i+1)->L9 it s.heap h'->Q x {s with heap:=h'}):R3 (R7 prog w) A (V3 (.ref it)) Q E s:=by
 obtain⟨⟨c,d1,dt,s1⟩,ho,rfl,rfl⟩:=id hit;obtain⟨⟨c2,d2,dt2,s2⟩,hol,rfl,nl,rfl⟩:=ht;exact wpAny_bind (E4 hit.typeIs bE (E7 bE hit.typeIs j8 (GK ho hol (λy h' e b1 b2=>⟨y,rfl,G8 (by rw [hx] at e;cases e;exact hQ h' b1 b2)⟩) λe=>by rw [hx] at e;cases e) (i7 _)))
theorem wx {it t:G9}{i:G7}{Q:G1->G2->Prop}(hh:A.handled=none)(hit:s.heap.IsTupleIter it t i)(ht:s.heap.IsTuple t items)(hx:items[i]? =none)
 (hE: ∀h' e,sG it s.heap h'->(∃o,h'.get? e=some o/\o.cls= .type "StopIteration")->E (.ref e) {s with heap:=h'}):R3 (R7 prog w) A (V3 (.ref it)) Q E s:=by
 obtain⟨⟨c,d1,dt,s1⟩,ho,rfl,rfl⟩:=id hit;obtain⟨⟨c2,d2,dt2,s2⟩,hol,rfl,nl,rfl⟩:=ht;refine wpAny_bind (E4 hit.typeIs bE (E7 bE hit.typeIs j8 (GK ho hol (λy h' e b1 b2=>by rw [hx] at e;cases e) λ_=>wpAny_bind (uI ho rfl (by simp) ?_)) (i7 _)));exact Zh (s:= {s with heap:=_}) hh λh' e grown stop=>hE h' e (λb o ne q=>grown b o ((C7 ..).extBut b o ne q)) stop
end
variable {prog:R9}{w:N4}
theorem GL {A:T3}(hh:A.handled=none)(it t:G9)(hne:t≠it)(items:S6 G1):
 Draws prog w A it [it,t] items.size (λi v=>items[i]? =some v) (λi h=>h.IsTupleIter it t i/\h.IsTuple t items) where
 live:=λ_ _ st=>let ⟨o,ho,_⟩:=st.1;⟨o,ho⟩
 frame:=λ_ _ _ st hk=>⟨st.1.at λo e=>hk it (by simp) o e,st.2.at λo e=>hk t (by simp) o e⟩
 item:=λi s Q E hi st hQ=>Wh st.1 st.2 (x:=items[i]) (by simp [hi]) λh' hit' hs'=>hQ _ h' s.toks (by simp [hi]) ⟨hit',st.2.extBut hs'.extBut hne⟩ hs'
 done:=λs Q E st hE=>wx hh st.1 st.2 (by simp) hE
theorem GM {A:T3}(hh:A.handled=none)(it t:G9)(items:S6 G1)(n:G7)(hn:items.size<=n):
 Draws prog w A it [it,t] n (λ_ _=>False) (λi h=>i=n/\h.IsTupleIter it t n/\h.IsTuple t items) where
 live:=λ_ _ st=>let ⟨o,ho,_⟩:=st.2.1;⟨o,ho⟩
 frame:=λ_ _ _ st hk=>⟨st.1,st.2.1.at λo e=>hk it (by simp) o e,st.2.2.at λo e=>hk t (by simp) o e⟩
 item:=λi s Q E hi st hQ=>absurd st.1 (M0 hi)
 done:=λs Q E st hE=>wx hh st.2.1 st.2.2 (nE hn) hE
section
variable {prog:R9}{w:N4}{A:T3}{E:G1->G2->Prop}{s:G2}
theorem GN {l:G9}{its:S6 G1}{P:eU->G2->Prop}(at_:s.heap.IsTuple l its)
 (h: ∀h',G0d h' (s.heap.objs.size+1) s.heap.objs.size 0 .none->h'.IsTupleIter s.heap.objs.size l 0->(∀b o,s.heap.get? b=some o->h'.get? b=some o)->P (.done (.ret (.ref (s.heap.objs.size+1)))) {s with heap:=h'}):
 R3 (R7 prog w) A (Builtin.«enumerate.__new__» ⟨[.type "enumerate",.ref l],[]⟩) P E s:=by
 have fine:=sub_enumerate;obtain⟨⟨c,dd,dt,sl⟩,there,rfl,n,rfl⟩:=id at_;obtain⟨hp,g,d,tk,os⟩:=s;have size: ∀o,(hp.push o).objs.size=hp.objs.size+1:=λo=>cP ..
 have made:=R1 (hp.push {cls:= .type "tuple_iterator",data:= .fields #[.ref l,.int 0 0]}) (o:= {cls:= .type "enumerate",data:= .fields #[.none,.bool false,.ref hp.objs.size,A1 0,.none,.none]}) rfl;have fin:=h _ (by rw [<-size];exact made) ⟨_,G3 _ (R1 _ rfl),rfl,rfl⟩ λb o old=>G3 _ (G3 _ old)
 rw [<-size {cls:= .type "tuple_iterator",data:= .fields #[.ref l,.int 0 0]}] at fin
 wp_walk using fO there
 refine wpAny_stack_any λcalls=>G8 ?_
 split
 case h_1 c _ _ _ _ _=>cases c==V4 "enumerate" <;>(wp_walk using fO there,Y5 at_;exact fin)
 case h_2=>wp_walk using fO there,Y5 at_;exact fin
theorem WP {l:G9}{items:S6 G1}{Q:G1->G2->Prop}(hL:s.heap.IsTuple l items)
 (h: ∀h',G0d h' (s.heap.objs.size+1) s.heap.objs.size 0 .none->h'.IsTupleIter s.heap.objs.size l 0->(∀b o,s.heap.get? b=some o->h'.get? b=some o)->Q (.ref (s.heap.objs.size+1)) {s with heap:=h'}):
 R3 (R7 prog w) A (call (.type "enumerate") [.ref l]) Q E s:=
 callType_new F.called_enumerate (by decide) (F.typeCall_enumerate_1 _) (F.newCall_enumerate_1 _) (λ_=>F.args_object_init_2 _ _) F.entry_enumerate_new
  (S:=λ_ R s=>s.heap.IsTuple l items/\ ∀h',G0d h' (s.heap.objs.size+1) s.heap.objs.size 0 .none->h'.IsTupleIter s.heap.objs.size l 0->(∀b o,s.heap.get? b=some o->h'.get? b=some o)->R (.ok (.ret (.ref (s.heap.objs.size+1)))) {s with heap:=h'})
  (.of_wp λ_ _ _ _ _ ⟨tup,k⟩=>GN tup λh' e i old=>⟨_,rfl,k h' e i old⟩) ⟨hL,λh' e i old=>⟨⟨_,e,rfl⟩,h h' e i old⟩⟩
end
section
variable {X:Cx}{pins:G0 (G9×Obj)}{σ:G0 (P4 V)}{H:Hp}{s:G2}{h':B6}
theorem Inv.turnL {t':G7}{ch:G0 G9}(I:Inv X pins σ H s)(k: ∀b o,b ∉ ch->s.heap.get? b=some o->h'.get? b=some o)(hc: ∀b∈ch,QL X pins H b):Inv X pins σ H {s with heap:=h',toks:=t'}:=by
 refine I.step (g':=s.gens) (d':=s.drawn) (ch:=ch) (λb hb=>let ⟨_,f1,_,f3,f4,f5⟩:=hc b hb;⟨f3,f1,f4,f5⟩) (λb o _ _ nb e _=>k b o nb e) (λb o _ _ nb e _=>⟨o.slots,k b o nb e⟩) (λ_ _ _ _ n=>n)
  (λb o nb e=>⟨o,k b o nb e⟩) (λ_ _ e=>e) (λ_ _ _ e=>e) (λb ps e=>⟨#[],by rw [e];simp⟩) (λm hm=> ?_) (λb u e=> ?_) I.bare
 ·obtain⟨o,es,ep,ho,r⟩:=hm;exact⟨o,es,ep,k _ o (λz=>(hc _ z).2.1 rfl) ho,r⟩
 ·refine(I.hok b u e).stay (λc v hb q=>k c v (λz=> ?_) q) (λ_ q=>q) λ_ _ q=>q
  have f:=(hc c z).1;rcases hb with w|w
  ·rw [w,e] at f;cases f
  ·rw [w] at f;cases f
theorem Inv.turnLaid {t':G7}{ch:G0 G9}{a:G9}{o:HO}(I:Inv X pins σ H s)(k: ∀b u,b ∉ ch->s.heap.get? b=some u->h'.get? b=some u)(hc: ∀b∈ch,QL X pins H b)(hp:s.heap.objs.size<=a)
 (new:ObjOk X.prog X.w (upd H a o) h' a o):Inv X pins σ (upd H a o) {s with heap:=h',toks:=t'}:=by
 have hn:=I.hok.fresh hp;refine I.step (g':=s.gens) (d':=s.drawn) (ch:=ch) (λb hb=>let ⟨_,f1,_,f3,f4,f5⟩:=hc b hb;⟨f3,f1,f4,f5⟩) (λb u _ _ nb e _=>k b u nb e) (λb u _ _ nb e _=>⟨u.slots,k b u nb e⟩)
  (λb u _ e n=>by rw [jf (M0 (S7 (P9 e) hp))];exact n) (λb u nb e=>⟨u,k b u nb e⟩) (λb xs q=>by rw [jf (jg q hn)];exact q) (λb u xs q=>by rw [jf (jg q hn)];exact q)
  (λb ps q=>⟨#[],by rw [jf (jg q hn),q];simp⟩) (λm hm=> ?_) (λb u e=> ?_) I.bare
 ·obtain⟨u,es,ep,ho,r⟩:=hm;exact⟨u,es,ep,k _ u (λz=>(hc _ z).2.1 rfl) ho,r⟩
 ·by_cases hb:b=a
  ·subst hb;rw [jh] at e;cases e;exact new
  ·rw [jf hb] at e;refine(I.hok b u e).stay (λc v hb q=>k c v (λz=> ?_) q) (λc q=>by rw [jf (jg q hn)];exact q) λc xs q=>by rw [jf (jg q hn)];exact q
   have f:=(hc c z).1;rcases hb with w|w
   ·rw [w,e] at f;cases f
   ·rw [w] at f;cases f
end
def Ite (K:G5)(a:G9):It:=
 ⟨λi H=> ∃xs x,SqT K H a xs/\xs[i]? =some x,λi H x H'=> ∃p v,H p=none/\(∀xs,SqT K H a xs->xs[i]? =some v)/\x= .ref p/\H'=upd H p (.tup [.int i,v]),λi H=> ∃xs,SqT K H a xs/\xs.length<=i⟩
theorem GO {P:R9}{K:G5}{es:G0 N0}{k:G7}{pos:Pos}(a it e:G9)(hei:e≠it)(hae:a≠e)(hai:a≠it):Turn P w K (.Tuple es k pos) (Ite K a) [e,it] e (λi h=>(∃old,G0d h e it i old)/\h.IsTupleIter it a i) where
 mem:=by simp
 obj:=λi h st b hb=>by
  rcases D2.mp hb with z|z
  ·subst z;obtain⟨old,q⟩:=st.1;exact⟨_,q,λv z=>by cases z⟩
  ·have z:=P1.mp z;subst z;obtain⟨o,q,c,d⟩:=st.2;exact⟨o,q,λv z=>by rw [d] at z;cases z⟩
 keep:=λi h h' st k=>⟨let ⟨old,q⟩:=st.1;⟨old,k e (by simp) _ q⟩,st.2.at λo q=>k it (by simp) o q⟩
 item:=by
  intro X hP hw hK hc i pins s σ H E I hf st hg;subst hP hw hK;obtain⟨xs,x,hq,hx⟩:=hg;obtain⟨its,rv,p,hz⟩:=I.tuple hq;obtain⟨u,hu,ru⟩:=rv.get hx;have hi:i<its.toArray.size:=by have:=(P5.mp hu).1;simpa using this
  obtain⟨old,he⟩:=st.1;have helt:e<s.heap.objs.size:=P9 he;refine wpAny_pyNext_enum_itemD (GL (prog:=X.prog) (w:=X.w) (A:=X.A.in1) (I.ok.hd hc) it a hai its.toArray) he ⟨st.2,p⟩ hi hei (by simp [hei,U9 hae]) λx' h' tk hx' ho hs' hT hsz hk=> ?_
  have ex:x'=u:=O5 (hx'.symm.trans (show its.toArray[i]? =some u by simpa using hu));subst ex;refine⟨_,rfl,wpAny_letOwnedTupleGo_enum ho λh2 he2 hs2=> ?_⟩;have hn:H s.heap.objs.size=none:=I.hok.fresh (P3 _);have hT2:h2.get? s.heap.objs.size=some {cls:= .type "tuple",data:= .seq #[.int i tk,x']}:=(hs2.2 _ (Z0 helt)).trans hT;refine⟨.ref s.heap.objs.size,upd H s.heap.objs.size (.tup [.int i,x]),?_,rfl,⟨_,x,hn,λys hy=>by rw [I.tuple_inj hy hq];exact hx,rfl,rfl⟩,⟨⟨x',by simpa using he2⟩,hs'.1.at λo y=>(hs2.2 it (U9 hei)).trans y⟩,λb hb=> ?_⟩
  ·refine I.turnLaid (h':=h2) (t':=tk+1) (ch:= [e,it]) (λb u hb q=> ?_) hf (P3 _) ⟨by show 2<=sizeLine;decide,[.int i tk,x'],.cons ⟨tk,rfl⟩ (.cons ru .nil),⟨_,hT2,rfl,rfl,_,rfl⟩⟩;have b1:b≠e:=λz=>hb (by simp [z])
   have b2:b≠it:=λz=>hb (by simp [z])
   exact(hs2.2 b b1).trans (hk b u b1 b2 q)
  ·have f:=(hf b hb).1;have:b≠s.heap.objs.size:=λz=>by
    rcases D2.mp hb with w|w
    ·rw [<-w,z] at helt;exact absurd helt (N7 _)
    ·have w:=P1.mp w;obtain⟨o,ho',_⟩:=st.2;have:=P9 ho';rw [<-w,z] at this;exact absurd this (N7 _)
   rw [jf this];exact f
 done:=by
  intro X hP hw hK hc i pins s σ H E I hf st hg;subst hP hw hK;obtain⟨xs,hq,hx⟩:=hg;obtain⟨its,rv,p,hz⟩:=I.tuple hq;obtain⟨old,he⟩:=st.1;have hl:=rv.length;refine wpAny_pyNext_enum_endD (GM (prog:=X.prog) (w:=X.w) (A:=X.A.in1) (I.ok.hd hc) it a its.toArray i (by simp;omega)) he ⟨rfl,st.2,p⟩ λh' hx'=>⟨rfl,I.turnL (t':=s.toks) (ch:= [it]) (λb o hb q=>hx' b o (λz=>hb (by simp [z])) q) λb hb=>hf b (D1 _ hb)⟩
 self:=λ_ _ _ _ _ st h=>let ⟨_,q⟩:=st.1;qT q h
section
variable {X:Cx}
def Tw (K:G5)(ta:TA):TI:=λσ H R=>ta σ H λvs H1=> ∃a,vs= [.ref a]/\(∃xs,SqT K H1 a xs)/\R (Ite K a) H1
theorem Ci {es:G0 N0}{k:G7}{tp:Pos}{a:N0}{ta:TA}{p pos:Pos}(hg:Gl X "enumerate")(hm:X.mg "enumerate" =none)(ha:PA X [a] ta)(hs:D7 [a] X.env= [(false,J0 a X.env)]:=by rfl):
 PI X (.Tuple es k tp) (.Call (.Name "enumerate" p) [a] [] pos) (Tw X.K ta):=by
 intro pins s σ H R I h;refine Call_ (ZY I hg hm (show U8 "enumerate" =some (.type "enumerate") by decide +kernel) (aQ (thn (ha pos pins s σ H _ I h) λus s1 ⟨vs,H1,I1,r1,q1⟩=> ?_) hs rfl));obtain⟨a,e,⟨xs,hq⟩,q⟩:=q1;subst e;cases r1 with
 |cons r rr=>
  cases rr;cases r;obtain⟨its,rv,p,hz⟩:=I1.tuple hq;have hlt:a<s1.heap.objs.size:=by obtain⟨o,ho,_⟩:=p;exact P9 ho
  refine WP (show s1.heap.IsTuple a its.toArray from p) λh' he hit hk=> ?_
  refine qT he ?_;refine⟨s1.heap.objs.size+1,[s1.heap.objs.size+1,s1.heap.objs.size],_,_,H1,rfl,I1.kept (t':=s1.toks) hk,GO a s1.heap.objs.size (s1.heap.objs.size+1) (Z0 (V1 _)) (M0 (g0 hlt)) (M0 hlt),⟨⟨_,he⟩,hit⟩,λb hb=> ?_,q⟩;have hb':s1.heap.objs.size<=b:=by
   rcases D2.mp hb with w|w
   ·rw [w];exact IU _
   ·rw [P1.mp w];exact P3 _
  exact I1.fpOk hb' (I1.hok.fresh hb')
end
def Nv (ds:G0 D):G0 D:=ds.zipIdx.map λp=> .tup [.int (p.2:D3),p.1]
def iE (ta:TAD):TID:=λσ h R=>ta σ h λxs h1=> ∃ds,xs= [.tup ds]/\R (λ_=>some (Nv ds)) h1
theorem UJ {ds:G0 D}{i:G7}{d:D}(h:(Nv ds)[i]? =some d): ∃x,ds[i]? =some x/\d= .tup [.int (i:D3),x]:=by
 unfold Nv at h;rw [D9,List.getElem?_zipIdx] at h;cases q:ds[i]? with
 |none=>rw [q] at h;cases h
 |some x=>
  rw [q] at h;refine⟨x,rfl,?_⟩;have h':some (D.tup [.int ((0+i:G7):D3),x])=some d:=h;rw [Q9] at h';exact(O5 h').symm
theorem yP (ds:G0 D):(Nv ds).length=ds.length:=by simp [Nv]
section
variable {K:G5}
theorem GP {H:Hp}{a:G9}{vs:G0 V}{ds:G0 D}(hv:H a=some (.tup vs))(r:RelDs K H ds vs):BN K H (λ_=>some (Nv ds)) (Ite K a):=λH' h' k rh ds' e i=>by
 cases e;have hv':=k.tup _ _ hv;have r':=r.mono k;refine⟨λd hd=> ?_,λhl=>⟨vs,SqT.of hv',by rw [<-r.length,<-yP];exact hl⟩⟩;obtain⟨x,hx,ed⟩:=UJ hd;subst ed;obtain⟨v,e1,e2⟩:=r'.get hx;refine⟨⟨vs,v,SqT.of hv',e1⟩,λx' H'' ⟨p,v',hp,hx',ex,eH⟩=> ?_⟩;subst ex eH;have ev:v'=v:=by have:=hx' vs (SqT.of hv');rw [e1] at this;exact(O5 this).symm
 subst ev;have k2:Kept H' (upd H' p (.tup [.int i,v'])):= .new hp;exact⟨k2,RelH.new rh hp,p,[.int i,v'],rfl,jh,_,_,rfl,rfl,_,_,rfl,e2.mono k2,rfl⟩
theorem Cj {ta:TAD}: ∀σ H R,LI K (iE ta) σ H R->Tw K (LA K ta) σ H R:=λσ H R ⟨σd,h,Rd,rs,rh,q,p⟩=>
 LA.bind rs rh q λds vs h1 H1 k1 rs1 rh1 r1 ⟨es,e,q1⟩=>by
  subst e;obtain⟨v,e,r2⟩:=jp r1;obtain⟨a,ws,e',hv,r⟩:=(show ∃a vs,v= .ref a/\H1 a=some (.tup vs)/\RelDs K H1 es vs from r2);subst e';exact⟨a,e,⟨ws,SqT.of hv⟩,p _ _ _ _ k1 rh1 (GP hv r) q1⟩
end
section
variable {X:Cx}
theorem Ck {es:G0 N0}{k:G7}{tp:Pos}{a:N0}{ta:TAD}{p pos:Pos}(hg:Gl X "enumerate")(hm:X.mg "enumerate" =none)(ha:JA X [a] ta)(hs:D7 [a] X.env= [(false,J0 a X.env)]:=by rfl):
 JI X (.Tuple es k tp) (.Call (.Name "enumerate" p) [a] [] pos) (iE ta):=⟨(Ci hg hm ha.to hs).imp Cj⟩
end
def GQ (c:TTD)(tb:TSD):TSD:=λD σ h=> ∃W:G7->SD->HD->Prop,(∃m,W m σ h)/\ ∀m σ' h',W m σ' h'->c σ' h' λb h1=>
 if b=true then tb {D with nx:=λσ2 h2=> ∃m' h3,m'<m/\Sub h3 h2/\W m' σ2 h3,ct:=λσ2 h2=> ∃m' h3,m'<m/\Sub h3 h2/\W m' σ2 h3,bk:=D.nx} σ' h1 else D.nx σ' h1
theorem RO {K:G5}{c:TTD}{tb:TSD}: ∀D σ H,LS K (GQ c tb) D σ H->Nd (LT K c) (LS K tb) D σ H:=λD σ H ⟨σd,h,Dd,rs,rh,⟨W,⟨m0,w0⟩,turn⟩,nx,rt,bk,ct⟩=>by
 refine⟨λm σ' H'=>Kept H H'/\ ∃σd' h',RelS K H' σd' σ'/\RelH K h' H'/\W m σd' h',⟨m0,.refl _,σd,h,rs,rh,w0⟩,?_⟩;rintro m σ' H' ⟨kp,σd',h',rs',rh',w⟩;refine LT.bind rs' rh' (turn m σd' h' w) λb h1 H1 k1 rs1 rh1 q1=> ?_
 cases b with
 |false=>
  rw [R8 S5] at q1 ⊢;exact nx _ _ _ _ (kp.trans k1) rs1 rh1 q1
 |true=>
  rw [R6 rfl] at q1 ⊢;have kk:Kept H H1:=kp.trans k1;refine⟨λσ2 H2=>Kept H H2/\ ∃m',m'<m/\ ∃σd2 h2,RelS K H2 σd2 σ2/\RelH K h2 H2/\W m' σd2 h2,λσ2 H2 ⟨k2,m',hm,a,b,c,d,e⟩=>⟨m',hm,k2,a,b,c,d,e⟩,?_⟩;exact⟨σd',h1,_,rs1,rh1,q1,λa b c d k4 rs4 rh4 ⟨m',h4,hm,sb,w4⟩=>⟨kk.trans k4,m',hm,a,h4,rs4,rh4.sub sb,w4⟩,jB rt kk,λa b c d k4 rs4 rh4 q4=>nx a b c d (kk.trans k4) rs4 rh4 q4,λa b c d k4 rs4 rh4 ⟨m',h4,hm,sb,w4⟩=>⟨kk.trans k4,m',hm,a,h4,rs4,rh4.sub sb,w4⟩⟩
section
variable {X:Cx}{pos:Pos}
theorem OU {c:N0}{body:G0 K8}{tc:TTD}{tb:TSD}(hp:o7 (R7 X.prog X.w) X.A X.env X.xe)(hc:JT X c tc)(hb:JSs X body tb):JS X (.While c body [] pos) (GQ tc tb):=⟨(Rg hp hc.to hb.to).imp RO⟩
end
theorem RQ {c:TTD}{tb:TSD}{E:EndsD}{σ:SD}{h:HD}(W:G7->SD->HD->Prop)(m:G7)(w0:W m σ h)
 (turn: ∀m σ' h',W m σ' h'->c σ' h' λb h1=>if b=true then tb {E with nx:=λσ2 h2=> ∃m' h3,m'<m/\Sub h3 h2/\W m' σ2 h3,ct:=λσ2 h2=> ∃m' h3,m'<m/\Sub h3 h2/\W m' σ2 h3,bk:=E.nx} σ' h1 else E.nx σ' h1):GQ c tb E σ h:=⟨W,⟨m,w0⟩,turn⟩
def Off (W:G0 G9)(h h':B6):Prop:=h'.objs.size=h.objs.size/\ ∀b o,b ∉ W->h.get? b=some o->h'.get? b=some o
theorem Off.refl (W:G0 G9)(h:B6):Off W h h:=⟨rfl,λ_ _ _ e=>e⟩
theorem Off.of {c:G9}{W:G0 G9}{h h':B6}(x:L9 c h h')(m:c∈W):Off W h h':=⟨x.1,λb o n e=>x.extBut b o (λq=>n (q ▸ m)) e⟩
theorem Off.trans {W:G0 G9}{h h' h'':B6}(x:Off W h h')(y:Off W h' h''):Off W h h'':=⟨y.1.trans x.1,λb o n e=>y.2 b o n (x.2 b o n e)⟩
abbrev GR (f0:G1)(b1:T5)(TI TO:G9):Obj:= {cls:= .type "zip",dict:=none,data:= .fields #[f0,.bool b1,.bool false,.ref TI,.ref TO],slots:= #[]}
def ZipAt (h:B6)(z TI TO:G9):Prop:= ∃f0 b1,h.get? z=some (GR f0 b1 TI TO)/\(f0= .none\/ ∃a t,f0= .int a t)
theorem ZipAt.off {h h':B6}{z TI TO:G9}{W:G0 G9}(Z:ZipAt h z TI TO)(o:Off W h h')(n:z ∉ W):ZipAt h' z TI TO:=let ⟨f,b,e,q⟩:=Z;⟨f,b,o.2 _ _ n e,q⟩
section
variable {prog:R9}{w:N4}{A:T3}{E:G1->G2->Prop}{s:G2}{z TI TO i1 i2:G9}
theorem RR {Q:T5->G2->Prop}(Z:ZipAt s.heap z TI TO)(k: ∀b h',ZipAt h' z TI TO->Off [z] s.heap h'->Q b {s with heap:=h'}):R3 (R7 prog w) A (pN (.ref z)) Q E s:=by
 obtain⟨f0,b1,hz,hf⟩:=id Z;have stay:=λb=>k b s.heap Z (Off.refl _ _)
 rcases hf with rfl|⟨a,t,rfl⟩
 ·wp_walk
  exact stay true
 ·have read: ∀ {P:P4 Obj->G2->Prop} {E':G1->G2->Prop},P (s.heap.get? a.toNat) s->R3 (R7 prog w) A (loadIfAlive a.toNat) P E' s:=λp _ _ _=>p
  wp_walk using read
  cases s.heap.get? a.toNat with
  |none=>exact G8 (stay true)
  |some o=>
   wp_walk
   cases b1 with
   |true=>exact G8 (stay false)
   |false=>exact wpAny_bind <| wpAny_setField_rec hz (by simp) λh' z' same=>G8 (k false h' ⟨_,_,z',.inr ⟨a,t,rfl⟩⟩ (.of same (by simp)))
structure ZApart (z TI TO i1 i2:G9):Prop where
 z1:z≠i1
 z2:z≠i2
 zO:z≠TO
 zI:z≠TI
 O1:TO≠i1
 O2:TO≠i2
 OI:TO≠TI
 I1:TI≠i1
 I2:TI≠i2
abbrev OV (z:G9)(h:B6)(E:G1->G2->Prop):G1->G2->Prop:=λe s'=>(∀o,h.get? z=some o->s'.heap.get? z=some o)/\ ∀h',sG z s'.heap h'->E e {s' with heap:=h'}
theorem GT {Q:G1->G2->Prop}(ap:ZApart z TI TO i1 i2)(Z:ZipAt s.heap z TI TO)(hTI:bF s.heap TI (.ref i1) (.ref i2))(hTO: ∃a b,bF s.heap TO a b)
 (go: ∀h₁,Off [z] s.heap h₁->(∃o,h₁.get? z=some o/\o.cls= .type "zip")->R3 (R7 prog w) A (V3 (.ref i1)) (λx s₁=>Off [i1] h₁ s₁.heap/\ ∀h₂,Off [TO] s₁.heap h₂->
  R3 (R7 prog w) A (V3 (.ref i2)) (λy s₂=>Off [i2] h₂ s₂.heap/\ ∀h₃,(∀b o,b ∉ [z,TO]->s₂.heap.get? b=some o->h₃.get? b=some o)->bF h₃ s₂.heap.objs.size x y->
   ZipAt h₃ z TI TO->bF h₃ TI (.ref i1) (.ref i2)->(∃a b,bF h₃ TO a b)->Q (.ref s₂.heap.objs.size) {s₂ with heap:=h₃}) (OV z h₂ E) {s₁ with heap:=h₂}) (OV z h₁ E) {s with heap:=h₁}):
 R3 (R7 prog w) A (Builtin.«zip.__next__» ⟨[.ref z],[]⟩) (λfin s'=> ∃v,fin= .done (.ret v)/\Q v s') E s:=by
 obtain⟨f0,b1,hz,hf⟩:=id Z;have ask:=λ{P:T5->G2->Prop} {E':G1->G2->Prop} (k: ∀b h',ZipAt h' z TI TO->Off [z] s.heap h'->P b {s with heap:=h'})=>RR (prog:=prog) (w:=w) (A:=A) (E:=E') Z k
 wp_walk using ask
 intro b h₀ Z₀ off₀;have I₀:=off₀.2 _ _ (by simp [ap.zI.symm]) hTI;obtain⟨a',b',O₀⟩: ∃a b,bF h₀ TO a b:=let ⟨a,b,e⟩:=hTO;⟨a,b,off₀.2 _ _ (by simp [ap.zO.symm]) e⟩;cases b with
 |false=>
  have d1:=go h₀ off₀ (let ⟨_,_,e,_⟩:=Z₀;⟨_,e,rfl⟩);rw [R8 (by decide)];refine wpAny_bind ?_;rw [<-k8];simp only [dE,uJ];refine wpAny_bind (wpAny_bind (L5 ?_));refine wpAny_bind (m:=V3 (.ref i1)) (B1 d1 (λx s₁ d=>G8 (G8 ?_)) λe s' f=>f.2 s'.heap λ_ _ _ e=>e);obtain⟨o1,d2⟩:=d;refine wpAny_bind (wpAny_bind (L5 ?_));refine wpAny_bind (m:=V3 (.ref i2)) (B1 (d2 s₁.heap (.refl _ _)) (λy s₂ d=>G8 (G8 (G8 ?_))) λe s' f=>f.2 s'.heap λ_ _ _ e=>e);obtain⟨o2,fin⟩:=d;show R3 _ _ (newTuple [x,y] >>= _) _ _ _;have n1: ∀ {b},b≠i1->b ∉ [i1]:=λh=>by simpa using h
  have n2: ∀ {b},b≠i2->b ∉ [i2]:=λh=>by simpa using h
  have Z₂:=(Z₀.off o1 (n1 ap.z1)).off o2 (n2 ap.z2);have keep: ∀ {b o},b≠i1->b≠i2->h₀.get? b=some o->(s₂.heap.push {cls:= .type "tuple",data:= .seq #[x,y]}).get? b=some o:=λq1 q2 e=>G3 _ (o2.2 _ _ (n2 q2) (o1.2 _ _ (n1 q1) e))
  refine wpAny_bind (oP (G8 ⟨_,rfl,fin _ (λb o _ e=>G3 _ e) (R1 _ rfl) ?_ (keep ap.I1 ap.I2 I₀) ⟨_,_,keep ap.O1 ap.O2 O₀⟩⟩));exact let ⟨f,b,e,q⟩:=Z₂;⟨f,b,G3 _ e,q⟩
 |true=>
  obtain⟨f0',b1',hz₀,_⟩:=Z₀;have note:=λ{P:Unit->G2->Prop} {E':G1->G2->Prop} (k: ∀h',h'.get? z=some (GR .ellipsis b1' TI TO)->L9 z h₀ h'->P () {s with heap:=h'})=>
   wpAny_setField_rec (prog:=prog) (w:=w) (A:=A) (E:=E') (s:= {s with heap:=h₀}) (k:=0) (x:= .ellipsis) hz₀ (by simp) k
  wp_walk using note
  intro h₁ z₁ same₁;have off₁:Off [z] s.heap h₁:=off₀.trans (.of same₁ (by simp));have O₁:=same₁.extBut _ _ ap.zO.symm O₀;have I₁:=same₁.extBut _ _ ap.zI.symm I₀;have fell: ∀ {h:B6} {e:G1} {s':G2},h.get? z=some (GR .ellipsis b1' TI TO)->OV z h E e s'->R3 (R7 prog w) A (mS (.ref z) 0 .none) (λ_ s''=>E e s'') E s':=λhz' f=>
   wpAny_setField_rec (f.1 _ hz') (by simp) λh' _ same=>f.2 h' same.extBut
  have draw:=λ{P:G1->G2->Prop} {E':G1->G2->Prop} (k: ∀x s₁,_->P x s₁) (f: ∀e s',OV z h₁ E e s'->E' e s')=>B1 (go h₁ off₁ ⟨_,z₁,rfl⟩) k f
  wp_walk using pO,draw
  case f=>exact λe s' f=>fell z₁ f
  intro x s₁ ⟨o1,go2⟩;have z₂:=o1.2 _ _ (by simp [ap.z1]) z₁;have O₂:bF s₁.heap TO a' b':=o1.2 _ _ (by simp [ap.O1]) O₁;have I₂:=o1.2 _ _ (by simp [ap.I1]) I₁;have lay:=λ{P:Unit->G2->Prop} {E':G1->G2->Prop}=>oQ (prog:=prog) (w:=w) (A:=A) (E:=E') (s:=s₁) (k:=0) (x:=x) (Q:=P) O₂
  wp_walk using lay
  intro h₂ O₃ same₂
  replace O₃:bF h₂ TO x b':=O₃
  have z₃:=same₂.extBut _ _ ap.zO z₂;have I₃:=same₂.extBut _ _ ap.OI.symm I₂;have draw2:=λ{P:G1->G2->Prop} {E':G1->G2->Prop} (k: ∀y s₂,_->P y s₂) (f: ∀e s',OV z h₂ E e s'->E' e s')=>B1 (go2 h₂ (.of same₂ (by simp))) k f
  wp_walk using pO,draw2
  case f=>exact λe s' f=>fell z₃ f
  intro y s₂ ⟨o2,fin⟩;have z₄:=o2.2 _ _ (by simp [ap.z2]) z₃;have O₄:bF s₂.heap TO x b':=o2.2 _ _ (by simp [ap.O2]) O₃;have I₄:=o2.2 _ _ (by simp [ap.I2]) I₃;have lay2:=λ{P:Unit->G2->Prop} {E':G1->G2->Prop}=>oQ (prog:=prog) (w:=w) (A:=A) (E:=E') (s:=s₂) (k:=1) (x:=y) (Q:=P) O₄
  wp_walk using lay2
  intro h₄ O₅ same₃
  replace O₅:bF h₄ TO x y:=O₅
  have z₅:=same₃.extBut _ _ ap.zO z₄;have I₅:=same₃.extBut _ _ ap.OI.symm I₄
  wp_walk
  have size:h₄.objs.size=s₂.heap.objs.size:=same₃.1;have zp:=G3 {cls:= .type "tuple",data:= .seq #[x,y]} z₅;have zu:=B2 (Z7 λv=>v.setIfInBounds 0 (A1 h₄.objs.size)) zp rfl;have zu':=B2 (Z7 λv=>v.setIfInBounds 1 (iK false)) zu rfl;have away: ∀ {b o},b≠z->(h₄.push {cls:= .type "tuple",data:= .seq #[x,y]}).get? b=some o->
   (((h₄.push {cls:= .type "tuple",data:= .seq #[x,y]}).update z (Z7 λv=>v.setIfInBounds 0 (A1 h₄.objs.size))).update z (Z7 λv=>v.setIfInBounds 1 (iK false))).get? b=some o:=λn e=>
   (C7 ..).extBut _ _ n ((C7 ..).extBut _ _ n e)
  have new:=away (b:=h₄.objs.size) (λq=>N7 _ (q ▸ P9 z₅)) (R1 _ rfl);refine⟨_,rfl,?_⟩;have done:=fin _ (λb o n e=>away (λq=>n (by simp [q])) (G3 _ (same₃.extBut _ _ (λq=>n (by simp [q])) e))) (size ▸ new) ⟨_,_,zu',.inr ⟨_,_,rfl⟩⟩ (away ap.zI.symm (G3 _ I₅)) ⟨_,_,away ap.zO.symm (G3 _ O₅)⟩;rw [<-size] at done;exact done
theorem Cl {tg : N0} {v : G1} {Q : Unit → G2 → Prop} (Z : ZipAt s.heap z TI TO) (k : ∀ h', ZipAt h' z TI TO → Off [z] s.heap h' → Q () { s with heap := h' }) : R3 (R7 prog w) A (bS tg (.ref z) v) Q E s := by
  obtain ⟨f0, b1, hz, hf⟩ := id Z
  have stay := k s.heap Z (.refl _ _)
  have gone : R3 (R7 prog w) A (updateField z 0 .none) Q E s := wpAny_setField_rec (k := 0) (x := .none) hz (by simp) fun h' z' same => k h' ⟨_, _, z', .inl rfl⟩ (.of same (by simp))
  unfold bS
  cases tg <;> first
    | exact G8 stay
    | (cases v <;> wp_walk <;> first
        | exact stay
        | (split
           · exact wpAny_bind (iM gone)
           · exact G8 stay))
theorem RS {Q:P4 G1->G2->Prop}(Z:ZipAt s.heap z TI TO)
 (h:R3 (R7 prog w) A.in1 (Builtin.«zip.__next__» ⟨[.ref z],[]⟩) (λfin s'=> ∃v,fin= .done (.ret v)/\Q (some v) s') (λe s'=>s'.TypeIs e "StopIteration" /\Q none s') s):R3 (R7 prog w) A (rE (.ref z)) Q E s:=by
 obtain⟨_,_,hz,_⟩:=Z;have ty:s.TypeIs (.ref z) "zip" :=⟨_,hz,rfl⟩;have asked:=E7 sP ty F.entry_zip_next h (F.args_zip_next_1 _);exact wpAny_bind (iT (E4 (name:= "__next__") ty sP (B1 asked (λ_ _ q=>G8 q) λe s' q=>wpAny_bind (mT (b:=true) q.1 uK (G8 q.2)))))
theorem yQ {T newId initId:U2}{pos:G0 G1}{kw:G0 (Str×G1)}{Made:G1->G2->Prop}{Q:G1->G2->Prop}(ft:G0e T newId initId)(fits:pP T ⟨pos,kw⟩=pure ())
 (made:R3 (R7 prog w) A.in1 (call (.builtin newId) (.type T::pos) kw) Made E s)
 (begun: ∀o s₁,Made o s₁->s₁.TypeIs o T/\R3 (R7 prog w) A.in1 (nG o "__init__" pos kw) (λr s₂=>r=some .none/\Q o s₂) E s₁):
 R3 (R7 prog w) A (call (.type T) pos kw) Q E s:=by
 have f1:=ft.notType;have f2:=ft.canCreate;have f3:=ft.made;have f4:=ft.sub;obtain⟨_,_,f5⟩:=ft.mro;have first:=λ{Q':G1->G2->Prop} (k: ∀o s₁,Made o s₁->Q' o s₁)=>B1 (E':=E) made k λ_ _ z=>z
 refine aY (sQ (G8 ⟨Code.quiet_builtin _ (by decide +kernel),E2 F.entry_type_call ?_⟩));rw [Around.under_plain (weight_type_call_type T pos kw) (units_type_call_type T pos kw)]
 wp_walk using first
 intro o s₁ m;obtain⟨ty,then_⟩:=begun o s₁ m;refine wpAny_bind (mT (b:=true) ty f4 (wpAny_bind (L5 (B1 then_ (λr s₂ q=> ?_) λ_ _ z=>z))));obtain⟨rfl,q⟩:=q;exact G8 q
theorem YI {T newId:U2}{o:G1}{pos:G0 G1}{kw:G0 (Str×G1)}{Q:P4 G1->G2->Prop}(ft:G0e T newId "object.__init__")(other:(some newId !=some "object.__new__")=true)(ty:s.TypeIs o T)
 (fits:z6 "object.__init__" ⟨o::pos,kw⟩)(q:Q (some .none) s):R3 (R7 prog w) A (nG o "__init__" pos kw) Q E s:=by
 have f1:=ft.init.lookup;have f2:=ft.made;refine E4 ty ft.init (wpAny_call_entry_kw ft.init ty F.entry_object_init ?_ fits);cases e:(!pos.isEmpty|| !kw.isEmpty)<;>(wp_walk;exact⟨_,rfl,q⟩)
end
theorem XN (n:G7):ZApart (n+4) (n+2) (n+3) n (n+1):=by
 have d: ∀ {i j:G7},i≠j->n+i≠n+j:=λh q=>h (Nat.add_left_cancel q)
 exact⟨d (j:=0) (by decide),d (by decide),d (by decide),d (by decide),d (j:=0) (by decide),d (by decide),d (by decide),d (j:=0) (by decide),d (by decide)⟩
theorem YJ {c:G7}(h:c<n):c ∉ [n+4,n+3,n,n+1]:=by
 simp only [D2,F4,or_false,G0L];omega
theorem RU {c:G7}(h:c∈ [n+4,n+2,n+3,n,n+1]):n<=c:=by
 simp only [D2,F4,or_false] at h;omega
theorem UK {A:T3}{E:G1->G2->Prop}{s:G2}{z TI TO:G9}{Q:G1->G2->Prop}(Z:ZipAt s.heap z TI TO)(h:Q (.ref z) s):R3 (R7 prog w) A (y4 (.ref z)) Q E s:=by
 obtain⟨_,_,hz,_⟩:=Z;have ty:s.TypeIs (.ref z) "zip" :=⟨_,hz,rfl⟩;exact lS ty sR (E7 sR ty F.entry_zip_iter (G8 ⟨_,rfl,_,_,ty,F.slot_zip_next.lookup,h⟩) (F.args_zip_iter_1 _))
def Cm (ds es:G0 D):G0 D:=(ds.zip es).map λp=> .tup [p.1,p.2]
theorem RV {ds es:G0 D}{i:G7}{d:D}(h:(Cm ds es)[i]? =some d): ∃x y,ds[i]? =some x/\es[i]? =some y/\d= .tup [x,y]:=by
 unfold Cm at h;rw [D9] at h;cases q:(ds.zip es)[i]? with
 |none=>rw [q] at h;cases h
 |some p=>
  rw [q] at h;obtain⟨x,y⟩:=p;rw [fC] at q;exact⟨x,y,q.1,q.2,(O5 h).symm⟩
def inE (neg:T5):RD2:=λx y h Q=> ∃ (p:F8) (ps:G0 F8),ToP h x p/\(ToP h y (.list ps)\/ToP h y (.tuple ps))/\p.canLay0=true/\B9 ps=true/\p.depth<=60/\Q (.bl (neg !=ps.any λz=>C3 z p)) h
section
variable {X:Cx}
theorem Cn (hu:X.A.units+64<cLine):OpQ X (L7 .In) (inE false):=by
 intro pins s σ H x y v u Q I rx ry h;obtain⟨dx,dy,h,Qd,r1,r2,rh,⟨p,ps,t1,t2,c1,c2,c3,qq⟩,post⟩:=h;obtain⟨as,a1⟩:=jM I rh t1 r1 rx;have hu':X.A.units+1+min (N2 ps) p.depth<cLine:=by have:=eO (N2 ps) p.depth;omega
 have q':Qd (.bl (ps.any λz=>C3 z p)) h:=by simpa using qq
 rcases t2 with t2|t2
 ·obtain⟨bs,b1⟩:=jM I rh t2 r2 ry;exact in_list_reads b1 a1 c2 c1 hu' ⟨.bl _,H,I,rfl,post (.bl _) _ _ _ (.refl H) rh rfl q'⟩
 ·obtain⟨bs,b1⟩:=jM I rh t2 r2 ry;exact in_tuple_reads b1 a1 c2 c1 hu' ⟨.bl _,H,I,rfl,post (.bl _) _ _ _ (.refl H) rh rfl q'⟩
end
end L2
namespace L2
open PySem PySem.Spec PyProof.Rows
section
variable {prog:R9}{w:N4}{A:T3}{E:G1->G2->Prop}{s:G2}
theorem yh: ∀ {vs:G0 G1} {ns:G0 D3},W9 vs ns-> ∀ {i:G7} {v:G1},vs[i]? =some v-> ∃t,v= .int (ns.getD i 0) t/\i<ns.length
 |_,_,.nil,_,_,hv=>by simp at hv
 |_,_,.cons _ t _,0,_,hv=>⟨t,by simpa using hv.symm,by simp⟩
 |_,_,.cons _ _ r,i+1,_,hv=>by
  obtain⟨t,e,lt⟩:=yh r (i:=i) (by simpa using hv);exact⟨t,by simpa using e,by simpa using lt⟩
theorem YK {l:G9}{o:Obj}(here:l<s.heap.objs.size): ∀b∈ [s.heap.objs.size,l],b<(s.heap.push o).objs.size:=λb hb=>by
 rw [cP];simp only [D2,F4,or_false] at hb;rcases hb with e|e<;>subst e
 ·exact V1 _
 ·exact g0 here
theorem YL {o:Obj}{h':B6}(k: ∀b u,b ∉ [s.heap.objs.size]->(s.heap.push o).get? b=some u->h'.get? b=some u): ∀b u,s.heap.get? b=some u->h'.get? b=some u:=λb u e=>
 k b u (λm=>absurd (P9 e) (by rw [P1.mp m];exact N7 _)) (G3 _ e)
end
section
variable {X:Cx}
theorem GV (hc:X.calm=true):CallR X (.builtin "max") (λxs H Q=> ∃ (a:G9) (ns:G0 D3),xs= [.ref a]/\ns≠ []/\(SqL X.K H a (ns.map V.int)\/SqT X.K H a (ns.map V.int))/\ ∀m∈ns,(∀x∈ns,x<=m)->Q (.int m) H):=by
 intro pins s σ H xs us Q I r h;obtain⟨a,ns,rfl,hne,hS,q⟩:=h;obtain⟨u,rfl,ru⟩:=yb r;cases ru;have fin: ∀ {its:G0 G1} (hi:W9 its ns) (v:G1) (h':B6) (tk:G7),its.toArray[argBest (λi j=>decide (ns.getD i 0>ns.getD j 0)) (its.toArray.size-1)]? =some v->(∀b o,s.heap.get? b=some o->h'.get? b=some o)->EP X pins σ Q v {s with heap:=h',toks:=tk}:=λ{its} hi v h' tk hv kept=>by
  obtain⟨t,rfl,lt⟩:=yh hi (show its[_]? =some v by simpa using hv);refine⟨.int _,H,I.kept kept,⟨t,rfl⟩,q _ (getD_mem lt) λx hx=> ?_⟩;obtain⟨j,hj,rfl⟩:=mem_getD hx;exact(argBest_gt (λi=>ns.getD i 0) (its.toArray.size-1)).2 j (by rw [R5,hi.length];omega)
 refine call_max_walk ?_;rcases hS with hS|hS
 ·obtain⟨its,rv,pl,_⟩:=I.list hS;have hi:=Zd rv;obtain⟨o,e,r⟩:=id pl.isList;have W:=iO (prog:=X.prog) (w:=X.w) (A:=X.A.in1) (I.ok.hd hc) s.heap.objs.size a (M0 (P9 e)) its.toArray;exact V7 pl.isList ⟨_,_,_,_,_,_,_,rfl,W,⟨⟨_,R1 _ rfl,rfl,rfl⟩,⟨o,G3 _ e,r⟩⟩,YK (P9 e),by rw [R5,hi.length];exact j6.mpr hne,CmpOf.ints_gt (λi=>ns.getD i 0) (λi v hv=>(yh hi (by simpa using hv)).imp λ_ z=>z.1),λv h' tk hv k=>fin hi v h' tk hv (YL k)⟩
 ·obtain⟨its,rv,pl,_⟩:=I.tuple hS;have hi:=Zd rv;obtain⟨o,e,r⟩:=id pl;have W:=sH (prog:=X.prog) (w:=X.w) (A:=X.A.in1) (I.ok.hd hc) s.heap.objs.size a (M0 (P9 e)) its.toArray;exact Y5 (show s.heap.IsTuple a its.toArray from pl) ⟨_,_,_,_,_,_,_,rfl,W,⟨⟨_,R1 _ rfl,rfl,rfl⟩,⟨o,G3 _ e,r⟩⟩,YK (P9 e),by rw [R5,hi.length];exact j6.mpr hne,CmpOf.ints_gt (λi=>ns.getD i 0) (λi v hv=>(yh hi (by simpa using hv)).imp λ_ z=>z.1),λv h' tk hv k=>fin hi v h' tk hv (YL k)⟩
def OW (B:G0 D3->D3->Prop):RDn:=λds h Q=> ∃ (ns:G0 D3) (h':HD),ns≠ []/\Sub h' h/\(ds= [.tup (ns.map D.int)]\/ ∃a,ds= [.lst a]/\h a=some (ns.map D.int))/\ ∀m∈ns,B ns m->Q (.int m) h'
abbrev HF:RDn:=OW λns m=> ∀x∈ns,x<=m
theorem RW {B:G0 D3->D3->Prop}{f:G1}(c:CallR X f (λxs H Q=> ∃ (a:G9) (ns:G0 D3),xs= [.ref a]/\ns≠ []/\(SqL X.K H a (ns.map V.int)\/SqT X.K H a (ns.map V.int))/\ ∀m∈ns,B ns m->Q (.int m) H)):wZ X f (OW B):=
 c.imp λxs H Q ⟨ds,h,Qd,r,rh,⟨ns,h',hne,hs,e,q⟩,p⟩=>by
  rcases e with e|⟨a,e,ha⟩
  ·subst e;obtain⟨v,e,r1⟩:=jp r;obtain⟨a,vs,e1,hH,r2⟩:=(show ∃a vs,v= .ref a/\H a=some (.tup vs)/\RelDs X.K H (ns.map D.int) vs from r1);rw [jS r2] at hH;subst e e1;exact⟨a,ns,rfl,hne,.inr (SqT.of hH),λm m1 m2=>p (.int m) _ _ _ (.refl H) (rh.sub hs) rfl (q m m1 m2)⟩
  ·subst e;obtain⟨v,e,r1⟩:=jp r;obtain⟨vs,hH,r2⟩:=rh a _ ha;have e1:v= .ref a:=r1.1;rw [jS r2] at hH;subst e e1;exact⟨a,ns,rfl,hne,.inl (SqL.of hH),λm m1 m2=>p (.int m) _ _ _ (.refl H) (rh.sub hs) rfl (q m m1 m2)⟩
theorem Co (hc:X.calm=true):wZ X (.builtin "max") HF:=RW (GV hc)
end
structure ShowOk (p:F8):Prop where
 sh:p.showable=true
 dp:p.depth<=60
 ln:p.shown.length<=sizeLine
mutual
theorem vU {h:HD}: ∀ {p:F8} {d:D},ToP h d p->p.hasDict=false
 | .none,_,_=>rfl
 | .bool _,_,_=>rfl
 | .int _,_,_=>rfl
 | .str _,_,_=>rfl
 | .tuple ps,d,t=>by
  obtain⟨ds,_,ts⟩:=(show ∃ds,d= .tup ds/\ToPs h ds ps from t);simpa only [uL] using noDict_ToPs ts
 | .list ps,d,t=>by
  obtain⟨a,ds,_,_,ts⟩:=(show ∃a ds,d= .lst a/\h a=some ds/\ToPs h ds ps from t);simpa only [uL] using noDict_ToPs ts
 | .dict _,_,t=>(show False from t).elim
theorem noDict_ToPs {h:HD}: ∀ {ps:G0 F8} {ds:G0 D},ToPs h ds ps->lU ps=false
 | [],_,_=>rfl
 |p::ps,ds,t=>by
  obtain⟨d,r,_,t1,t2⟩:=(show ∃d r,ds=d::r/\ToP h d p/\ToPs h r ps from t);simp only [lU,vU t1,noDict_ToPs t2,Bool.or_self]
end
def OX:RDn:=λds h Q=> ∃d p,ds= [d]/\ToP h d p/\ShowOk p/\Q (.str p.shown) h
theorem RX {X:Cx}{k:G7}(hr:Room k X.A):wZ X (.builtin "repr") OX:=by
 intro pins s σ H xs us Q I r h;obtain⟨ds,h,Qd,rs,rh,⟨d,p,e,t,so,q⟩,post⟩:=h;subst e;obtain⟨v,e,r1⟩:=jp rs;subst e;obtain⟨u,rfl,ru⟩:=yb r;have fin: ∀t',EP X pins σ Q (.str p.shown t') {s with toks:=s.toks+1}:=λt'=>⟨.str p.shown,H,I.tok _,⟨_,rfl⟩,post (.str _) _ _ _ (.refl H) rh rfl q⟩
 have fin0: ∀t',EP X pins σ Q (.str p.shown t') s:=λt'=>⟨.str p.shown,H,I,⟨_,rfl⟩,post (.str _) _ _ _ (.refl H) rh rfl q⟩
 have big: ∀a,u= .ref a->R3 (R7 X.prog X.w) X.A (call (.builtin "repr") [.ref a]) (EP X pins σ Q) X.xe s:=λa e=>by
  obtain⟨as,rd⟩:=jM I rh t r1 ru;subst e;exact repr_of_reads' rd so.sh (PyData.noDict_hsm (vU t)) hr.gd (by have:=hr.units;have:=so.dp;omega) (λ_ _ e=>e)
   (λh' u' tk hk=>⟨.str p.shown,H,I.kept hk,⟨_,rfl⟩,post (.str _) _ _ _ (.refl H) rh rfl q⟩) so.ln
 cases p with
 |none=>
  cases (show d= .non from t);cases (show v= .non from r1);cases (show u= .none from ru);exact PySem.P.repr_of_none (fin _)
 |bool b=>
  cases (show d= .bl b from t);cases (show v= .bl b from r1);cases (show u= .bool b from ru);exact PySem.P.repr_of_bool (fin _)
 |int i=>
  cases (show d= .int i from t);cases (show v= .int i from r1);obtain⟨k,rfl⟩:=(show ∃t,u=dJ i t from ru);exact PySem.P.repr_of_int (by simpa [fZ] using so.sh) (fin _)
 |str x=>
  cases (show d= .str x from t);cases (show v= .str x from r1);obtain⟨k,rfl⟩:=(show ∃t,u=mM x t from ru);exact PySem.P.repr_of_str (fin _) so.ln
 |tuple ps=>
  obtain⟨ds,e,ts⟩:=(show ∃ds,d= .tup ds/\ToPs h ds ps from t);subst e;obtain⟨a,vs,e,hH,rs⟩:=(show ∃a vs,v= .ref a/\H a=some (.tup vs)/\RelDs X.K H ds vs from r1);subst e;cases (show u= .ref a from ru);exact big a rfl
 |list ps=>
  obtain⟨a,ds,e,ha,ts⟩:=(show ∃a ds,d= .lst a/\h a=some ds/\ToPs h ds ps from t);subst e;have e:v= .ref a:=r1.1;subst e;cases (show u= .ref a from ru);exact big a rfl
 |dict _=>exact(show False from t).elim
theorem GW {x:D3}{e:G7}(h0:0<=x)(h1:x<2^e)(he:e<=1919):x.natAbs.log2<1920:=by
 have h2:x.natAbs<2^e:=Zf h0 h1
 by_cases z:x.natAbs=0
 ·rw [z];decide
 ·have h3:=sI z |>.mpr (S7 h2 (cE (by decide) (show e<=1920 by omega)));exact h3
theorem wz: ∀ {ps:G0 F8},(∀p∈ps,p.showable=true)->bG ps=true
 | [],_=>rfl
 |p::ps,h=>by
  simp only [bG,h p P7,wz λx hx=>h x (D1 _ hx),Bool.and_self]
theorem zL: ∀ps:G0 F8,W4 ps=ps.map cG
 | []=>rfl
 |p::ps=>by simp only [W4,C6,zL ps]
theorem yR {k:G7}: ∀ {ps:G0 F8},(∀p∈ps,p.depth<=k)->N2 ps<=k
 | [],_=>by simp [N2]
 |p::ps,h=>by
  simp only [N2];have:=h p P7;have:=yR λx hx=>h x (D1 _ hx)
  omega
theorem GX {b:G7}: ∀ {l:G0 G7},(∀x∈l,x<=b)->l.sum<=b*l.length
 | [],_=>by simp
 |x::l,h=>by
  have h1:=h x P7;have h2:=GX λy hy=>h y (D1 _ hy)
  simp only [List.sum_cons,D8,Nat.mul_succ];omega
structure ShowB (p:F8)(k b:G7):Prop where
 sh:p.showable=true
 dp:p.depth<=k
 ln:p.shown.length<=b
theorem ShowB.ok {p:F8}{k b:G7}(h:ShowB p k b)(hk:k<=60)(hb:b<=16777216):ShowOk p:=⟨h.sh,S0 h.dp hk,S0 h.ln hb⟩
theorem ShowB.mono {p:F8}{k b k' b':G7}(h:ShowB p k b)(hk:k<=k')(hb:b<=b'):ShowB p k' b':=⟨h.sh,S0 h.dp hk,S0 h.ln hb⟩
theorem GY {x:D3}{e:G7}(h0:0<=x)(h1:x<2^e)(he:e<=1919):ShowB (.int x) 0 (e+2):=by
 refine⟨by simpa [fZ] using GW h0 h1 he,by simp [E3],?_⟩;show (eQ (toString x)).length<=e+2;rw [PySem.ofString_length];have h2:x.natAbs<2^e:=Zf h0 h1;refine int_text_length_le (by omega) ?_
 by_cases z:x.natAbs=0
 ·rw [z];exact aT _
 ·exact(sI z).mpr (S7 h2 (cE (by decide) (by omega)))
theorem ShowB.tup {ps:G0 F8}{k b:G7}(h: ∀p∈ps,ShowB p k b):ShowB (.tuple ps) (k+1) ((b+2)*ps.length+3):=by
 refine⟨?_,?_,?_⟩
 ·simpa only [fZ] using wz λp hp=>(h p hp).sh
 ·simp only [E3];have:=yR λp hp=>(h p hp).dp;omega
 ·simp only [cG];have h1:=tupleText_len_le (W4 ps);rw [zL,G6,O0] at h1;have h2:((ps.map ((λx=>x.length)∘cG))).sum<=b*ps.length:=by
   have:=GX (b:=b) (l:=ps.map ((λx:Str=>x.length)∘cG)) (λx hx=>by obtain⟨p,hp,e⟩:=S4.mp hx;rw [<-e];exact(h p hp).ln);rw [G6] at this;exact this
  rw [zL,lV];omega
theorem ShowB.lst {ps:G0 F8}{k b:G7}(h: ∀p∈ps,ShowB p k b):ShowB (.list ps) (k+1) ((b+2)*ps.length+3):=by
 refine⟨?_,?_,?_⟩
 ·simpa only [fZ] using wz λp hp=>(h p hp).sh
 ·simp only [E3];have:=yR λp hp=>(h p hp).dp;omega
 ·simp only [cG];have h1:=listText_len_le (W4 ps);rw [zL,G6,O0] at h1;have h2:((ps.map ((λx=>x.length)∘cG))).sum<=b*ps.length:=by
   have:=GX (b:=b) (l:=ps.map ((λx:Str=>x.length)∘cG)) (λx hx=>by obtain⟨p,hp,e⟩:=S4.mp hx;rw [<-e];exact(h p hp).ln);rw [G6] at this;exact this
  rw [zL,lV];omega
theorem GZ {r:G0 D3}{e:G7}(h0: ∀x∈r,0<=x)(h1: ∀x∈r,x<2^e)(he:e<=1919):ShowB (.tuple (r.map .int)) 1 ((e+4)*r.length+3):=by
 have:=ShowB.tup (ps:=r.map gA) (k:=0) (b:=e+2) λp hp=>by obtain⟨x,hx,e⟩:=S4.mp hp;rw [<-e];exact GY (h0 x hx) (h1 x hx) he
 rw [G6] at this;exact this
def Nw:RDn:=λds h Q=> ∃x y p,ds= [x,y]/\ToP h x p/\ToP h y p/\ShowOk p/\Q (.bl true) h
end L2
namespace L2
open PySem PySem.Spec PyProof.Rows PySem.SeqAt
variable {X:Cx}
theorem RY (hu:X.A.units+64<cLine):MtM X "list.index" (λx vs H Q=> ∃ (a:G9) (y:V) (dy:D) (h:HD) (p:F8) (ps:G0 F8) (j:G7) (z:F8),x= .ref a/\vs= [y]/\RelD X.K H dy y/\RelH X.K h H/\ToP h (.lst a) (.list ps)/\ToP h dy p/\p.canLay0=true/\B9 ps=true/\p.depth<=60/\j<1000000/\ps[j]? =some z/\C3 z p=true/\(∀m y,m<j->ps[m]? =some y->C3 y p=false)/\Q (.int (j:D3)) H):=by
 intro pins s σ H x vs v us Q I rx rv h;obtain⟨a,y,dy,h,p,ps,j,z,rfl,rfl,rd,rh,t1,t2,c1,c2,c3,hj,hz,hit,hno,q⟩:=h;cases rx;obtain⟨u,rfl,ru⟩:=yb rv;obtain⟨a',ds,ea,ha,ts⟩:=(show ∃a' ds,D.lst a= .lst a'/\h a'=some ds/\ToPs h ds ps from t1);cases ea;obtain⟨ws,hH,_⟩:=rh a ds ha;obtain⟨as,r1⟩:=jM I rh t1 (show RelD X.K H (.lst a) (.ref a) from ⟨rfl,ws,hH⟩) (show RelV (.ref a) (.ref a) from rfl);obtain⟨bs,r2⟩:=jM I rh t2 rd ru;cases r1 with
 |list h1 h2 h3 h4=>
  rename_i o its n cs;have em:=readsAll_map ps _ _ c2 h4;have gm: ∀m (hm:m<its.size),ps[m]? =some (readOf s.heap its[m]):=λm hm=>by
   rw [<-em,D9,M6,Y0 hm];rfl
  have hlen:its.size=ps.length:=by rw [<-em,G6,D0]
  have hjs:j<its.size:=by rw [hlen];exact(P5.mp hz).1
  have hu':X.A.units+1+min (N2 ps) p.depth<cLine:=by have:=eO (N2 ps) p.depth;omega
  obtain⟨oc,od,odt,osl⟩:=o;simp only at h2 h3;subst h2 h3;refine f8 F.slot_list_index ⟨_,h1,rfl⟩ F.entry_list_index (F.args_list_index_2 _ _) (list_indexAt a its n od osl u (λy=>C3 (readOf s.heap y) p) j hjs (by omega) ?_ ?_) ⟨h1,items_eqAt h4 r2 c2 c1 hu',?_⟩
  ·have:=gm j hjs;rw [hz] at this;injection this with this
   rw [<-this];exact hit
  ·intro m hm hmj;exact hno m _ hmj (gm m hm)
  ·exact⟨.int (j:D3),H,I.tok _,⟨_,rfl⟩,q⟩
def HG (to te:TED):TED:=λσ h Q=>to σ h λx h1=> ∃a,x= .lst a/\te σ h1 λy h2=> ∃ (p:F8) (ps:G0 F8) (j:G7) (z:F8),ToP h2 (.lst a) (.list ps)/\ToP h2 y p/\p.canLay0=true/\B9 ps=true/\p.depth<=60/\j<1000000/\ps[j]? =some z/\C3 z p=true/\(∀m y,m<j->ps[m]? =some y->C3 y p=false)/\Q (.int (j:D3)) h2
section
variable {X:Cx}{o e i:N0}{to te ti:TED}{apos cpos:Pos}
theorem HH (hu : X.A.units + 64 < cLine) (ho : JE X o to) (he : JE X e te) (hbase : aU o "index" X.env (J0 o X.env) = J0 o X.env := by rfl)
    (hfew : ((K7 cpos (D7 [e] X.env)).all (fun x => !x.1) && (mO cpos (gJ [] X.env)).all (fun x => x.1.isSome) && decide ([e].length + ([] : G0 eT).length + (if ([] : G0 eT).isEmpty then 0 else 1) < 30)) = true := by rfl)
    (hline : (apos.endLine == cpos.line) = true := by rfl) (hs : D7 [e] X.env = (false, J0 e X.env) :: D7 [] X.env := by rfl) (hplain : (K7 cpos (D7 [] X.env)).any (·.1) = false := by rfl) :
    JE X (.Call (.Attribute o "index" apos) [e] [] cpos) (HG to te) :=
  ⟨(Ro aJ xT xU (RY hu) ho.to (zA he.to pa_nil hs) hbase hfew hline hs hplain).imp
    fun σ H Q ⟨σd, h, Qd, rs, rh, t, p⟩ => LE.bind rs rh t fun d v h1 H1 k1 rs1 rh1 r1 ⟨a, e, q⟩ => by
      subst e
      obtain ⟨e1, vs, hH⟩ := (show v = .ref a ∧ ∃ vs, H1 a = some (.lst vs) from r1)
      subst e1
      refine ⟨.inl ⟨rfl, vs, SqL.of hH⟩, ?_⟩
      refine LE.bind rs1 rh1 q fun y u h2 H2 k2 rs2 rh2 r2 ⟨pd, ps, j, z, t1, t2, c1, c2, c3, hj, hz, hit, hno, q2⟩ => ?_
      exact ⟨a, u, y, h2, pd, ps, j, z, rfl, rfl, r2, rh2, t1, t2, c1, c2, c3, hj, hz, hit, hno, p (.int _) _ _ _ (k1.trans k2) rh2 rfl q2⟩⟩
end
variable {i:G7}
theorem Cp {js:G0 G7}{ta:TAD}{tt:TTD}{te:TED}{σ:SD}{h h1:HD}{Q:KD}(n:G7)(W:G7->G0 D->HD->Prop)(hn:n<=1000)(ht: ∀R:G0 D->HD->Prop,R [.int (n:D3)] h1->ta σ h R)
 (w0:W 0 [] h1)(wl: ∀k ys h',W k ys h'->ys.length<=k)(turn: ∀k ys h',k<n->W k ys h'->tt ((zi js σ).set i (some (.int (k:D3)))) h' λb h3=>if b=true then te ((zi js σ).set i (some (.int (k:D3)))) h3 λy h4=> ∃h5,Sub h5 h4/\(k+1<=n/\W (k+1) (ys++ [y]) h5) else ∃h5,Sub h5 h3/\(k+1<=n/\W (k+1) ys h5))
 (done: ∀ys h',W n ys h'-> ∀p,h' p=none->Q (.lst p) (zR h' p ys)):yJ (bN i) js (iR1 ta) tt te σ h Q:=by
 refine ht _ ⟨(n:D3),rfl,by omega,by omega,n,λk ys h'=>k<=n/\W k ys h',⟨M7 _,w0⟩,?_⟩;rintro k ys h' ⟨hk,w⟩;refine⟨S0 (wl k ys h' w) (T4 (jz (by omega))),_,rfl,by simp,λhl p hp=> ?_,λd hd=>⟨_,rfl,?_⟩⟩
 ·have:k=n:=by simp at hl;omega
  subst this;exact done _ _ w p hp
 ·obtain⟨hi',e⟩:=Zb hd;have hk2:k<n:=by omega
  subst e;exact turn k ys h' hk2 w
section
variable {α:Type}{i i':G7}{js:G0 G7}{ti:TID}{te:TED}{σ:SD}{h:HD}{Q:KD}{j:ItD}
theorem HI (xs:G0 α)(c c' g:α->D)(hz:xs.length<=1000)(hj:j h=some (xs.map λx=> .tup [c x,c' x]))(ht: ∀R:ItD->HD->Prop,R j h->ti σ h R)
 (he: ∀x∈xs,∀Q':KD,Q' (g x) h->te (((zi js σ).set i (some (c x))).set i' (some (c' x))) h Q')(hq: ∀p,h p=none->Q (.lst p) (zR h p (xs.map g))):yJ (b2 i i') js ti UC te σ h Q:=by
 refine ht _ ⟨xs.length,λk ys h'=>h'=h/\ys=(xs.take k).map g,⟨rfl,by simp⟩,?_⟩;rintro k ys h' ⟨rfl,rfl⟩;refine⟨by simp only [G6,M5];exact T4 (jz (by omega)),_,hj,by simp,λhl p hp=> ?_,λd hd=> ?_⟩
 ·rw [C5 (by simpa using hl)];exact hq p hp
 ·rw [D9] at hd;cases hx:xs[k]? with
  |none=>rw [hx] at hd;cases hd
  |some x=>
   rw [hx] at hd;cases hd;refine⟨_,⟨_,_,rfl,rfl⟩,?_⟩;unfold UC;dsimp only;rw [R6 rfl];refine he x (P6 hx) _ ⟨h',Sub.refl _,rfl,?_⟩;rw [K5,hx];simp
end
def IsS (n:G7)(S:G0 G7):Prop:= ∃p:G7->T5,S=(R4 n).filter p
variable {n:G7}{S:G0 G7}
theorem IsS.lt (h:IsS n S){i:G7}(hi:i∈S):i<n:=by
 obtain⟨p,rfl⟩:=h;exact S8.mp (C8.mp hi).1
theorem IsS.len (h:IsS n S):S.length<=n:=by
 obtain⟨p,rfl⟩:=h;have:=Y3 p (R4 n)
 rwa [B0] at this
theorem IsS.rise (h:IsS n S):S.Pairwise (· < ·):=by
 obtain⟨p,rfl⟩:=h;exact G0.pairwise_lt_range.filter p
def Zi (n:G7)(T:G0 (G0 D3))(S:G0 G7):G0 G7:=(R4 n).filter λj=>S.any λi=>decide (ent T i j≠0)
theorem IsS.step (T:G0 (G0 D3))(S:G0 G7):IsS n (Zi n T S):=⟨_,rfl⟩
def itF {α:Type}(f:α->α)(x:α):G7->α
 |0=>x
 |k+1=>f (itF f x k)
theorem YM {α:Type}[DecidableEq α]: ∀ {l m:G0 α},l.Nodup->(∀x∈l,x∈m)->l.length<=m.length
 | [],_,_,_=>M7 _
 |a::l,m,nd,h=>by
  have hm:=h a P7;have h2:l.length<=(m.erase a).length:=YM (E6.mp nd).2 λx hx=>by
   have hxa:x≠a:=λe=>(E6.mp nd).1 (e ▸ hx)
   exact(cH hxa).mpr (h x (D1 _ hx))
  rw [W1 hm] at h2;have:=X1 hm;simp only [D8];omega
def wC (S:G0 G7):F8:=RN (vS S)
theorem Zj (h:HD)(S:G0 G7):ToP h (jR S) (wC S):=by rw [Cg];exact⟨_,rfl,Zg h _⟩
theorem YN (h:HD): ∀Ss:G0 (G0 G7),ToPs h (Ss.map jR) (Ss.map wC)
 | []=>rfl
 |S::Ss=>⟨_,_,rfl,Zj h S,YN h Ss⟩
theorem Wi (r:G0 D3):(RN r).canLay0=true:=by unfold RN;simp only [K3];exact yO r
theorem Zk (r:G0 D3):(RN r).depth<=2:=by unfold RN;simp only [E3];have:=vT r;omega
theorem Wj: ∀a b:G0 D3,fQ (a.map gA) (b.map gA)=decide (a=b)
 | [],[]=>by simp [fQ]
 | [],_::_=>by simp [fQ]
 |_::_,[]=>by simp [fQ]
 |x::a,y::b=>by
  show ((x==y)&&fQ (a.map .int) (b.map .int))=_;rw [Wj a b,Q3];simp
theorem Cq (a b:G0 D3):C3 (RN a) (RN b)=decide (a=b):=Wj a b
theorem Pa {a b:G0 G7}(h:vS a=vS b):a=b:=by
 have:=congrArg (iW kI) h;unfold vS at this;simpa [O0,lW] using this
theorem Pb (a b:G0 G7):C3 (wC a) (wC b)=decide (a=b):=by
 unfold wC;rw [Cq,Q3,X0,X0];exact⟨Pa,λe=>by rw [e]⟩
theorem Wk (r:G0 D3):shaped (RN r)=true:=by
 unfold shaped;rw [Wi,M8 (by have:=Zk r;omega)];rfl
theorem Cr {α:Type}{f:G7->α}{L:G7}(h:i<L):atI ((R4 L).map f) (i:D3)=some (f i):=
 wu (by rw [D9,V6 h];rfl)
theorem XO {e:G7}{T:G0 (G0 D3)}(hT:Sq n e T)(hS:IsS n S){j:G7}(hj:j<n){m:D3}(m1:m∈0::S.map λi=>ent T i j)(m2: ∀x∈0::S.map λi=>ent T i j,x<=m):decide (m>0)=S.any λi=>decide (ent T i j≠0):=by
 rw [Q3,X0,cQ];constructor
 ·intro z;rcases D2.mp m1 with e|e
  ·omega
  ·obtain⟨i,hi,rfl⟩:=S4.mp e;exact⟨i,hi,M8 (by omega)⟩
 ·rintro ⟨i,hi,z⟩;have z':=J5 z;have a:=(hT.ent_nn (hS.lt hi) hj).1;have b:=m2 _ (D1 _ (S4.mpr ⟨i,hi,rfl⟩));omega
theorem RZ {js:G0 G7}{ta:TAD}{tt:TTD}{te:TED}{σ:SD}{h h1:HD}{Q:KD}(n:G7)(W:G7->G0 D->HD->Prop)(hn:n<=1000)(ht: ∀R:G0 D->HD->Prop,R [.int (n:D3)] h1->ta σ h R)
 (w0:W 0 [] h1)(wl: ∀k ys h',W k ys h'->ys.length<=k)(turn: ∀k ys h',k<n->W k ys h'->tt ((zi js σ).set i (some (.int (k:D3)))) h' λb h3=>if b=true then te ((zi js σ).set i (some (.int (k:D3)))) h3 λy h4=> ∃h5,Sub h5 h4/\(k+1<=n/\W (k+1) (ys++ [y]) h5) else ∃h5,Sub h5 h3/\(k+1<=n/\W (k+1) ys h5))
 (done: ∀ys h',W n ys h'->Q (.tup ys) h'):dCB Jh (zw (yJ (bN i) js (iR1 ta) tt te) We) σ h Q:=by
 show yJ (bN i) js (iR1 ta) tt te σ h (λx h1=>Jh [x] h1 Q);exact Cp n W hn ht w0 wl turn λys h' w p hp=>(show ∃zs,zR h' p ys p=some zs/\Q (.tup zs) (Yz (zR h' p ys) p) from ⟨_,jc,by rw [wG hp];exact done ys h' w⟩)
structure Enc {α:Type}[DecidableEq α](e:α->D)(p:α->F8):Prop where
 to: ∀ (h:HD) a,ToP h (e a) (p a)
 lay: ∀a,(p a).canLay0=true
 dp: ∀a,(p a).depth<=60
 eq: ∀a b,C3 (p a) (p b)=decide (a=b)
section
variable {α:Type}[DecidableEq α]{e:α->D}{p:α->F8}
theorem Enc.tos (E:Enc e p)(h:HD): ∀as:G0 α,ToPs h (as.map e) (as.map p)
 | []=>rfl
 |a::as=>⟨_,_,rfl,E.to h a,E.tos h as⟩
theorem Enc.lays (E:Enc e p): ∀as:G0 α,B9 (as.map p)=true
 | []=>rfl
 |a::as=>by show (K3 (p a)&&_)=true;rw [E.lays as,E.lay a];rfl
theorem OY (E:Enc e p){x:α}{as:G0 α}{a:G9}{h:HD}(ha:h a=some (as.map e))(hx:x∈as)(hl:as.length<=100000):
 ∃ (j:G7) (q:F8) (qs:G0 F8) (z:F8),as[j]? =some x/\ToP h (.lst a) (.list qs)/\ToP h (e x) q/\q.canLay0=true/\B9 qs=true/\q.depth<=60/\j<1000000/\qs[j]? =some z/\C3 z q=true/\(∀m y,m<j->qs[m]? =some y->C3 y q=false):=by
 have hj:=List.idxOf_lt_length_iff.mpr hx;have ex:as[as.idxOf x]? =some x:=by rw [P2 hj,List.getElem_idxOf hj]
 refine⟨as.idxOf x,p x,as.map p,p x,ex,⟨a,_,rfl,ha,E.tos h as⟩,E.to h x,E.lay x,E.lays as,E.dp x,by omega,?_,by rw [E.eq,M8 rfl],λm y hm hy=> ?_⟩
 ·rw [D9,ex];rfl
 ·rw [D9] at hy;have hml:m<as.length:=by omega
  rw [P2 hml] at hy;cases hy;rw [E.eq];have:=List.not_of_lt_findIdx (p:=(· ==x)) (xs:=as) hm;simpa using this
end
def RP (n:G7)(T:G0 (G0 D3))(k i j:G7):Prop:=ent (XM n T k) i j≠0
section
variable {n e:G7}{T:G0 (G0 D3)}
theorem YO (h:Sq n e T)(hn:n<=8)(a b:G7){i j:G7}(hi:i<n)(hj:j<n):RP n T (a+b) i j↔ ∃k,k<n/\RP n T a i k/\RP n T b k j:=by
 unfold RP;rw [pow_add h hn a b];exact YH (h.pow hn a) (h.pow hn b) hi hj
theorem Zl {i j:G7}(hi:i<n)(hj:j<n):RP n T 0 i j↔i=j:=by
 unfold RP;show ent (GH n) i j≠0↔_;unfold GH;rw [Wg hi hj]
 by_cases z:i=j
 ·simp [z]
 ·simp [z]
theorem Nx (h:Sq n e T)(hn:n<=8): ∀ (m:G7) {i j:G7},i<n->j<n->RP n T m i j-> ∃v:G7->G7,v 0=i/\v m=j/\(∀t,t<=m->v t<n)/\ ∀t,t<m->RP n T 1 (v t) (v (t+1))
 |0,i,j,hi,hj,r=>by
  have:=(Zl hi hj).mp r;exact⟨λ_=>i,rfl,this,λ_ _=>hi,λt ht=>by omega⟩
 |m+1,i,j,hi,hj,r=>by
  obtain⟨k,hk,r1,r2⟩:=(YO h hn m 1 hi hj).mp r;obtain⟨v,v0,vm,vl,vr⟩:=Nx h hn m hi hk r1;refine⟨λt=>if t<=m then v t else j,?_,?_,λt _=> ?_,λt ht=> ?_⟩
  ·simp [v0]
  ·show (if m+1<=m then v (m+1) else j)=j;rw [R8 (by omega)]
  ·show (if t<=m then v t else j)<n;split
   ·exact vl t (by assumption)
   ·exact hj
  ·show RP n T 1 (if t<=m then v t else j) (if t+1<=m then v (t+1) else j);rw [R6 (by omega)]
   by_cases z:t+1<=m
   ·rw [R6 z];exact vr t (by omega)
   ·rw [R8 z,show t=m by omega,vm];exact r2
theorem WQ (h:Sq n e T)(hn:n<=8){m:G7}{v:G7->G7}(vl: ∀t,t<=m->v t<n)(vr: ∀t,t<m->RP n T 1 (v t) (v (t+1)))(a:G7): ∀b,a+b<=m->RP n T b (v a) (v (a+b))
 |0,hb=>(Zl (vl a (by omega)) (vl a (by omega))).mpr rfl
 |b+1,hb=>(YO h hn b 1 (vl a (by omega)) (vl _ hb)).mpr ⟨v (a+b),vl _ (by omega),WQ h hn vl vr a b (by omega),vr (a+b) (by omega)⟩
def tot (n:G7)(T:G0 (G0 D3))(k:G7):D3:=jO n λi=>jO n λj=>ent (Su n (XM n T k)) i j
end
theorem Cs (h:i<n):ixN n (i:D3)=some i:=by
 unfold ixN;simp;omega
theorem call_divmodB:CallR X (.builtin "divmod") (λxs H Q=> ∃i j,xs= [.int i,.int j]/\(0<j/\j<2^200)/\ ∀p,H p=none->Q (.ref p) (upd H p (.tup [.int (i / j),.int (i%j)]))):=by
 intro pins s σ H xs us Q I r h;obtain⟨i,j,rfl,⟨h1,h2⟩,q⟩:=h;obtain⟨u,w',rfl,⟨t,rfl⟩,⟨t',rfl⟩⟩:=QU r;refine divmod_int (by omega) ?_ (.inl (PyProof.noPylong_of_log2 ?_))
 ·rw [kM i (by omega),kN i (by omega)];have hn:H s.heap.objs.size=none:=I.hok.fresh (P3 _);refine⟨.ref s.heap.objs.size,_,?_,rfl,q _ hn⟩;refine I.laid (λb o e=>G3 _ e) (P3 _) ⟨by simp only [D8,C0];rw [r6];decide,[.int (i / j) s.toks,.int (i%j) (s.toks+1)],.cons ⟨_,rfl⟩ (.cons ⟨_,rfl⟩ .nil),?_⟩;exact⟨_,R1 s.heap rfl,rfl,rfl,0,rfl⟩
 ·have h3:j.natAbs<2^200:=Zf (by omega) h2;have h4:=(sI (by omega:j.natAbs≠0)).mpr h3;omega
def Ct:RDn:=λds h Q=> ∃i j:D3,ds= [.int i,.int j]/\(0<j/\j<2^200)/\Q (.tup [.int (i / j),.int (i%j)]) h
theorem XQ:wZ X (.builtin "divmod") Ct:=call_divmodB.imp λxs H Q ⟨ds,h,Qd,r,rh,⟨i,j,e,c,q⟩,p⟩=>by
 subst e;obtain⟨v,w,e,r1,r2⟩:=ye r;cases (show v= .int i from r1);cases (show w= .int j from r2);exact⟨i,j,e,c,λa ha=>p (.tup [.int (i / j),.int (i%j)]) _ _ _ (.new ha) (rh.new ha) ⟨a,_,rfl,jh,.cons rfl (.cons rfl .nil)⟩ q⟩
def VC (x:Str)(i:D3):F8:= .dict [(.str x,.int i)]
theorem Pc {pins:G0 (G9×Obj)}{σ:St}{H:Hp}{s:G2}{x:Str}{i:D3}{v:V}{u:G1}(I:Inv X pins σ H s)(r:RelD X.K H (.dic x i) v)(ru:RelV v u): ∃a,Reads s.heap u (VC x i) [a]/\a≠sysModules:=by
 obtain⟨a,e,hH⟩:=(show ∃a,v= .ref a/\H a=some (.dK [(bV x,V.int i)]) from r);subst e;cases (show u= .ref a from ru);obtain⟨-,hy,vs,kv,o,es,ep,hg,ex,hd,-,pr,-⟩:=(show ObjOk X.prog X.w H s.heap a (.dK [(bV x,V.int i)]) from I.hok a _ hH);cases kv with
 |cons q t=>
  cases t;generalize hes:es.toList=es' at pr;cases pr with
  |cons k1 k2 k3=>
   cases k3;rename_i b e;obtain⟨q1,q2⟩:=q;obtain⟨t,ht⟩:=(show ∃t,b.2=dJ i t from q2);have k1':VE (bV x) e.key=true:=by
    rw [show (bV x:Key)=b.1 from q1];exact k1
   rcases jH k1' with ⟨_,_,z,_⟩|⟨y,t2,z,hk⟩
   ·cases z
   ·cases z;refine⟨a,?_,beq_eq_false_iff_ne.mp hy⟩;refine Reads.dict (as:= []) (bs:= []) hg ex.1 hd ?_ ?_
    ·rw [hes];show ReadsAll s.heap [e.key] [.str x] [];rw [hk];exact .cons (.str x t2) .nil
    ·rw [hes];show ReadsAll s.heap [e.val] [.int i] [];rw [k2,ht];exact .cons (.int i t) .nil
def Sw:RDn:=λds h Q=>OX ds h Q\/ ∃a d x i p,ds= [.lst a]/\h a=some [d,.dic x i]/\ToP h d p/\ShowOk (.list [p,VC x i])/\Q (.str (IV [p,VC x i]).shown) h
theorem UL {k:G7}(hr:Room k X.A):wZ X (.builtin "repr") Sw:=by
 intro pins s σ H xs us Q I r h;obtain⟨ds,h,Qd,rs,rh,q,post⟩:=h;rcases q with q|⟨a,d,x,i,p,e,ha,t,so,q⟩
 ·exact RX hr pins s σ H xs us Q I r ⟨ds,h,Qd,rs,rh,q,post⟩
 subst e;obtain⟨v,e,r1⟩:=jp rs;subst e;obtain⟨u,rfl,ru⟩:=yb r;obtain⟨vs,hH,rd⟩:=rh a _ ha;have e:v= .ref a:=r1.1;subst e;cases (show u= .ref a from ru);obtain⟨its,rv,pl,_⟩:=I.list (SqL.of hH);obtain⟨o,ho,hc,n,hd⟩:=pl.isList;obtain⟨v1,vr,e,rd1,rd'⟩:=(show ∃v r,vs=v::r/\RelD X.K H d v/\RelDs X.K H [.dic x i] r from rd);subst e;obtain⟨v2,e,rd2⟩:=jp rd';subst e;cases rv with
 |cons ru1 rt=>
  cases rt with
  |cons ru2 rt2=>
   cases rt2;rename_i u1 u2;obtain⟨as1,q1⟩:=jM I rh t rd1 ru1;obtain⟨a2,q2,n2⟩:=Pc I rd2 ru2;have hall:ReadsAll s.heap [u1,u2] [p,VC x i] (as1++([a2]++ [])):= .cons q1 (.cons q2 .nil);have hs:=so.sh;have hz':(listText (W4 [p,VC x i])).length<=sizeLine:=by simpa only [cG] using so.ln
   have hsa:bG [p,VC x i]=true:=by simpa [fZ] using hs
   have hs1:bG [p]=true/\bG [VC x i]=true:=by
    simp only [bG,mJ,H0] at hsa ⊢;exact hsa
   obtain⟨b1,hb1,k1⟩:=ReprAllK.of_readsAll (prog:=X.prog) (w:=X.w) (.cons q1 .nil) hs1.1 (λhx=>by simp [lU,vU t] at hx) (λt ht=>S0 (sS (ts:=W4 [p,VC x i]) (by simp only [W4,P1] at ht ⊢;rw [ht];exact P7)) hz');obtain⟨b2,hb2,k2⟩:=ReprAllK.of_readsAll (prog:=X.prog) (w:=X.w) (.cons q2 .nil) hs1.2 (λ_ hm=>by simp at hm;exact n2 hm.symm) (λt ht=>S0 (sS (ts:=W4 [p,VC x i]) (by simp only [W4,P1] at ht ⊢;rw [ht];exact D1 _ P7)) hz');have d1:N2 [p]<=N2 [p,VC x i]:=by simp only [N2];omega
   have d2:N2 [VC x i]<=N2 [p,VC x i]:=by simp only [N2];omega
   have hb:ReadAtMost s.heap (N2 [p,VC x i]) (b1++b2):=(hb1.mono d1).append (hb2.mono d2);have hk:ReprAllK X.prog X.w (b1++b2) s.heap (N2 [p,VC x i]) [u1,u2] (W4 [p,VC x i]):=by
    cases k1.more_le (λb hb=>A7 b2 hb) d1 with
    |cons a1 _=>
     cases k2.more_le (λb hb=>M1 b1 hb) d2 with
     |cons a2 _=>exact .cons a1 (.cons a2 .nil)
   have hna:a ∉ b1++b2:=not_mem_of_deeper (.list ho hc hd hall) (by simp only [E3];omega) hb;have hdp:=so.dp;have hun:=hr.units;simp only [E3] at hdp;refine call_repr_slot (by omega) ⟨o,ho,hc⟩ F.slot_list_repr.toG ?_;exact call_list_reprK ho hc hd hna (by simpa using hk.length_eq) (λi y e=>hk.item i y (by simpa using e)) hr.gd (λb _=>Clear.nil b) (by show X.A.units+1+_<cLine;omega) (λ_ _ e=>e)
    (λh' u' tk hk=>⟨_,_,rfl,⟨.str (IV [p,VC x i]).shown,H,I.kept hk,⟨u',by simp only [cG]⟩,post (.str _) _ _ _ (.refl H) rh rfl q⟩⟩) hz'
end L2
set_option maxRecDepth 35000
namespace L2
open PySem PySem.Spec PyProof.Rows PySem.SeqAt
def Sx (T:G0 (G0 D3))(n p:G7):G0 G7:=(R4 n).filter λj=>decide (ent T p j>0)
def cnt (T:G0 (G0 D3))(n o:G7):G7->G7->D3
 |0,p=>if p=o then 1 else 0
 |t+1,p=>((Sx T n p).map (cnt T n o t)).sum
section
variable {T:G0 (G0 D3)}{n o:G7}
def HJ (T:G0 (G0 D3))(n o t p:G7):G7:=(Sx T n p).findIdx λj=>decide (cnt T n o t j>0)
def nxt (T:G0 (G0 D3))(n o t p:G7):G7:=(Sx T n p).getD (HJ T n o t p) 0
end
theorem Ma {α:Type}{xs:G0 α}{x:α}(h1:1<=xs.length)(h:xs[xs.length-1]? =some x):atI xs (-1)=some x:=by
 unfold atI ixN;rw [R8 (by decide),R6 (by omega)];show xs[(-1+(xs.length:D3)).toNat]? =_;rw [show (-1+(xs.length:D3)).toNat=xs.length-1 by omega];exact h
end L2
namespace L2
open PySem PySem.Spec PyProof.Rows
theorem ObjOk.there {P:R9}{w:N4}{H:Hp}{h:B6}{a:G9}{o:HO}(x:ObjOk P w H h a o): ∃u,h.get? a=some u:=by
 cases o with
 |lst xs=>obtain⟨_,_,_,_,e⟩:=x;exact⟨_,e⟩
 |tup xs=>obtain⟨_,_,_,p⟩:=x;obtain⟨o,e,_⟩:=p;exact⟨_,e⟩
 |dK kvs=>obtain⟨_,_,_,_,o,_,_,e,_⟩:=x;exact⟨_,e⟩
 |dT kvs=>obtain⟨_,_,_,_,o,_,_,e,_⟩:=x;exact⟨_,e⟩
 |set S n=>obtain⟨o,_,_,_,e,_⟩:=x;exact⟨_,e⟩
 |ins C dx fs=>obtain⟨_,_,_,e,_⟩:=x;exact⟨_,e⟩
 |own y=>obtain⟨_,e⟩:=x;exact⟨_,e⟩
 |xd fs=>obtain⟨_,⟨_,_,_,e,_⟩,_⟩:=x;exact⟨_,e⟩
 |rng lo hi=>obtain⟨_,_,_,e⟩:=x;exact⟨_,e⟩
 |frz ob u=>obtain⟨e,_⟩:=x;exact⟨_,e⟩
 |tbl ps=>exact⟨_,(show h.get? a=some _ from x)⟩
 |met f y=>exact⟨_,(show h.get? a=some _ from x)⟩
 |ext φ=>obtain⟨_,⟨_,e⟩,_⟩:=x;exact⟨_,e⟩
theorem zc {h b b':B6}: ∀ {l:G0 Env},h.FunFrames b l->(∀a∈frs l,b'.get? a=none)->h.FunFrames b' l
 | [],_,_=>trivial
 |env::r,⟨hk,⟨L,o,hf,_,ho,hd⟩,hr⟩,n=>by
  refine⟨hk,⟨L,o,hf,n L ?_,ho,hd⟩,zc hr λa ha=>n a ?_⟩
  ·unfold frs;rw [X6,hf];exact .head _
  ·unfold frs;rw [X6,hf];exact .tail _ ha
structure Fly (h0:B6)(H:Hp)(h:B6)(x C:G9):Prop where
 ex: ∃ (oe:Obj) (vs:S6 G1) (a0:G1) (T:G9) (oT:Obj) (ts:S6 G1),h.get? x=some oe/\oe.cls= .ref C/\oe.data= .fields vs/\vs[0]? =some a0/\vs[1]? =some (.ref T)/\T≠x/\
  h.get? T=some oT/\oT.data= .fields ts/\ts[3]? =some .none/\H T=none/\h0.get? T=none
 nx:H x=none
 n0:h0.get? x=none
def CXR (P:R9)(w:N4):CXT:=λouter H s E e s'=> ∃x C H',e= .ref x/\s'.os=s.os/\j7 s'.gens/\Un (frs outer) [] H H' s.heap s'.heap/\HOk P w H' s'.heap/\Fly s.heap H' s'.heap x C/\E (.ref C) none H'
structure Rz0 (X:Cx):Prop where
 stk:X.stack=X.env::X.outer
 fr:X.env.frame=some X.env.locals
 ex:X.ex= []
structure Rz (X:Cx)(E:XK):Prop extends Rz0 X where
 xe: ∀e s',R3 (R7 X.prog X.w) X.A (qK X.env e) (λ_ s''=>CXR X.prog X.w X.outer X.H₀ X.s₀ E e s'') (λe' s''=>CXR X.prog X.w X.outer X.H₀ X.s₀ E e' s'') s'->X.xe e s'
section
variable {X:Cx}{pins:G0 (G9×Obj)}{σ:St}{H:Hp}{s:G2}{E:XK}{x C:G9}
theorem Pd (I:Inv X pins σ H s)(Z:Rz0 X){ys:G0 G9}(hy: ∀y∈ys,H y=none/\X.s₀.heap.get? y=none){h':B6}
 (kb: ∀b o,s.heap.get? b=some o->b ∉ ys->b ∉ frs (X.env::X.outer)->h'.get? b=some o)
 (up: ∀b o,s.heap.get? b=some o->b∈frs (X.env::X.outer)-> ∃sl,h'.get? b=some {o with slots:=sl}):
 Un X.fs [] X.H₀ H X.s₀.heap h'/\HOk X.prog X.w H h'/\
  ∀T oT ts,h'.get? T=some oT->oT.data= .fields ts->(∀o,s.heap.get? T=some o->T∈ys\/T∈frs (X.env::X.outer))->H T=none/\X.s₀.heap.get? T=none:=by
 have nex: ∀b,b ∉ X.ex:=λb=>by rw [Z.ex];simp
 have neL: ∀b o,X.s₀.heap.get? b=some o->b≠X.env.locals:=λb o e=>M0 (S7 (P9 e) I.ok.above)
 have mem: ∀b,b∈frs (X.env::X.outer)↔b=X.env.locals\/b∈X.fs:=λb=>by
  show b∈List.filterMap _ _↔_;rw [X6,Z.fr];exact D2
 have nys: ∀b o,X.s₀.heap.get? b=some o->b ∉ ys:=λb o e z=>by rw [(hy b z).2] at e;cases e
 have trf: ∀b u,H b=some u->b ∉ ys/\b ∉ frs (X.env::X.outer):=λb u e=>by
  refine⟨λz=> ?_,λz=> ?_⟩
  ·rw [(hy b z).1] at e;cases e
  ·have:=I.stkFree b (by rw [Z.stk];exact z);rw [this] at e;cases e
 refine⟨⟨λb o e n hb hx=> ?_,λb o e n hb hx=> ?_,λb o e n hx=>I.base.free b o e n (nex b),λb o e hx=> ?_,I.base.tups,I.base.frzs,I.base.tbls⟩,λa o e=> ?_,λT oT ts hT hd hn=>⟨?_,?_⟩⟩
 ·exact kb b o (I.base.keep b o e n hb (nex b)) (nys b o e) λz=>((mem b).mp z).elim (neL b o e) hb
 ·obtain⟨sl,e1⟩:=I.base.slot b o e n hb (nex b);obtain⟨sl',e2⟩:=up b _ e1 ((mem b).mpr (.inr hb));exact⟨sl',e2⟩
 ·obtain⟨o',e1⟩:=I.base.there b o e (nex b)
  by_cases hb:b∈frs (X.env::X.outer)
  ·obtain⟨sl,e2⟩:=up b o' e1 hb;exact⟨_,e2⟩
  ·exact⟨_,kb b o' e1 (nys b o e) hb⟩
 ·refine(I.hok a o e).stay (λb u hb q=> ?_) (λ_ q=>q) λ_ _ q=>q
  rcases hb with rfl|hb
  ·exact kb b u q (trf b _ e).1 (trf b _ e).2
  ·exact kb b u q (trf b _ hb).1 (trf b _ hb).2
 ·cases q:H T with
  |none=>rfl
  |some u=>
   obtain⟨o,e⟩:=(I.hok T u q).there;exact absurd (hn o e) λz=>z.elim (trf T u q).1 (trf T u q).2
 ·cases q:X.s₀.heap.get? T with
  |none=>rfl
  |some o=>
   exfalso;obtain⟨o',e1⟩:=I.base.there T o q (nex T);rcases hn o' e1 with z|z
   ·exact nys T o q z
   ·rcases (mem T).mp z with z'|z'
    ·exact neL T o q z'
    ·obtain⟨_,o2,e2,nd⟩:=(show s.heap.FunFrames X.base (X.env::X.outer) from Z.stk ▸ I.stack).mem z;obtain⟨sl,e3⟩:=up T o2 e2 z;rw [hT] at e3;cases e3;exact nd ts hd
theorem Pe {Q:Unit->G2->Prop}{M:j0}{EE:G1->G2->Prop}(I:Inv X pins σ H s)(Z:Rz X E)(fl:Fly X.s₀.heap H s.heap x C)
 (k: ∀h',Un X.fs [] X.H₀ H X.s₀.heap h'->HOk X.prog X.w H h'->Fly X.s₀.heap H h' x C->Q () {s with heap:=h'}):R3 M X.A (qK X.env (.ref x)) Q EE s:=by
 obtain⟨oe,vs,a0,T,oT,ts,he,hc,hd,h0,h1,hTx,hT,hTd,h3,hHT,h0T⟩:=fl.ex;have hfr:X.A.frames=some (X.env::X.outer):=by rw [I.ok.frames,Z.stk]
 have stk:s.heap.FunFrames X.base (X.env::X.outer):=Z.stk ▸ I.stack;have ff:s.heap.FunFrames (fV s.heap (x::T::frs (X.env::X.outer))) (X.env::X.outer):=zc stk λa ha=>bW _ (.tail _ (.tail _ ha))
 refine wpAny_leaves_onW (base:=fV s.heap (x::T::frs (X.env::X.outer))) (cls:= .ref C) (a0:=a0) hfr Z.fr
  ⟨λb o e=>kJ _ e,bW _ (.head _),ff,oe,vs,T,oT,ts,he,⟨hc,h0⟩,hd,h1,bW _ (.tail _ (.head _)),hTx,hT,hTd,h3⟩ λh' hfl' hup=> ?_
 obtain⟨st,_,_,oe',vs',T',oT',ts',he',⟨hc',h0'⟩,hd',h1',hTB,hTx',hT',hTd',h3'⟩:=hfl';obtain⟨r1,r2,r3⟩:=Pd (ys:= [x,T]) (h':=h') I Z.toRz0 (λy hy=>by
  rcases D2.mp hy with rfl|hy
  ·exact⟨fl.nx,fl.n0⟩
  ·rcases D2.mp hy with rfl|hy
   ·exact⟨hHT,h0T⟩
   ·cases hy) (λb o e n1 n2=>st b o (cN _ e λz=>by
    rcases D2.mp z with rfl|z
    ·exact n1 (.head _)
    ·rcases D2.mp z with rfl|z
     ·exact n1 (.tail _ (.head _))
     ·exact n2 z)) λb o e hb=>by
  obtain⟨_,o2,e2,nd⟩:=stk.mem hb;rw [e] at e2;cases e2;exact hup b o e nd
 obtain⟨q1,q2⟩:=r3 T' oT' ts' hT' hTd' λo e=>by
  by_cases z:T'∈frs (X.env::X.outer)
  ·exact .inr z
  ·refine .inl ?_
   by_cases z1:T'=x
   ·rw [z1];exact .head _
   ·by_cases z2:T'=T
    ·rw [z2];exact .tail _ (.head _)
    ·rw [cN _ e (by simp only [D2,G0L];exact⟨z1,z2,z⟩)] at hTB;cases hTB
 exact k h' r1 r2 ⟨⟨oe',vs',a0,T',oT',ts',he',hc',hd',h0',h1',hTx',hT',hTd',h3',q1,q2⟩,fl.nx,fl.n0⟩
theorem XR {Q:Unit->G2->Prop}{M:j0}{EE:G1->G2->Prop}{h1:B6}{args:G0 G1}(I:Inv X pins σ H s)(Z:Rz X E)(hm:Heap.MadeExcOf s.heap h1 x (.ref C) args)
 (k: ∀h',Un X.fs [] X.H₀ H X.s₀.heap h'->HOk X.prog X.w H h'->Fly X.s₀.heap H h' x C->Q () {s with heap:=h'}):R3 M X.A (qK X.env (.ref x)) Q EE {s with heap:=h1}:=by
 have hfr:X.A.frames=some (X.env::X.outer):=by rw [I.ok.frames,Z.stk]
 have stk:s.heap.FunFrames X.base (X.env::X.outer):=Z.stk ▸ I.stack;have ff:s.heap.FunFrames (fV s.heap (frs (X.env::X.outer))) (X.env::X.outer):=zc stk λa ha=>bW _ ha
 refine wpAny_leaves_madeW (base:=fV s.heap (frs (X.env::X.outer))) (h:=s.heap) (s:= {s with heap:=h1}) hfr Z.fr (λb o e=>kJ _ e) ff hm λh' t hfl' _ _ hup=> ?_
 obtain⟨st,_,_,oe',vs',T',oT',ts',he',⟨hc',h0'⟩,hd',h1',hTB,hTx',hT',hTd',h3'⟩:=hfl';obtain⟨r1,r2,r3⟩:=Pd (ys:= []) (h':=h') I Z.toRz0 (λy hy=>nomatch hy) (λb o e _ n2=>st b o (cN _ e n2)) λb o e hb=>by
  obtain⟨_,o2,e2,nd⟩:=stk.mem hb;rw [e] at e2;cases e2;exact hup b o (hm.keeps b o e) nd
 obtain⟨q1,q2⟩:=r3 T' oT' ts' hT' hTd' λo e=>by
  by_cases z:T'∈frs (X.env::X.outer)
  ·exact .inr z
  ·rw [cN _ e z] at hTB;cases hTB
 obtain⟨p1,p2⟩:=r3 x oe' vs' he' hd' λo e=>by rw [hm.new] at e;cases e
 exact k h' r1 r2 ⟨⟨oe',vs',_,T',oT',ts',he',hc',hd',h0',h1',hTx',hT',hTd',h3',q1,q2⟩,p1,p2⟩
theorem Sy (Z:Rz X E):JJ (CXR X.prog X.w) X E:=by
 intro pins σ H s e s' I ⟨x,C,H',he,os,bare,un,hok,fl,q⟩;subst he;obtain⟨hh,g,d,t,os'⟩:=s';obtain rfl:os'=s.os:=os;have I':=I.call (h':=hh) (g':=g) (d':=d) (t':=t) (ch:= []) un hok bare (λb z=>absurd z (by simp));have nex: ∀b,b ∉ X.ex:=λb=>by rw [Z.ex];simp
 have f0: ∀b,s.heap.get? b=none->X.s₀.heap.get? b=none:=λb n=>by
  cases q:X.s₀.heap.get? b with
  |none=>rfl
  |some o=>obtain⟨o',e⟩:=I.base.there b o q (nex b);rw [n] at e;cases e
 have fl':Fly X.s₀.heap H' hh x C:=by
  obtain⟨⟨oe,vs,a0,T,oT,ts,a1,a2,a3,a4,a5,a6,a7,a8,a9,a10,a11⟩,nx,n0⟩:=fl;exact⟨⟨oe,vs,a0,T,oT,ts,a1,a2,a3,a4,a5,a6,a7,a8,a9,a10,f0 _ a11⟩,nx,f0 _ n0⟩
 exact Z.xe _ _ (Pe I' Z fl' λh' u hk f=>⟨x,C,H',rfl,I'.os,I'.bare,u,hk,f,q⟩)
end
end L2
namespace L2
open PySem PySem.Spec PyProof.Rows PySem.W
def Js (cells:G0 (Str×G9)):G0 (Str×NameKind)->G0 (Str×G9)->G0 (Str×G9)
 | [],cs=>cs
 |(n,k)::r,cs=>Js cells r (if k== .free then (match cells.lookup n with|some c=>(n,c)::cs|none=>cs) else cs)
theorem wP {env:Env}: ∀ (names:G0 (Str×NameKind)) (cs:G0 (Str×G9)),(∀n,(n,A8)∈names-> ∃c,env.cells.lookup n=some c)->
 (forIn names cs (λ(x:Str×NameKind) (r:G0 (Str×G9))=>do
  let (name,kind):=x
  if kind== .free then
   let c <-G0J env name
   pure (dF ((name,c)::r))
  else pure (dF r)):Sem (G0 (Str×G9)))=pure (Js env.cells names cs)
 | [],cs,_=>rfl
 |(n,k)::r,cs,h=>by
  rw [dE]
  by_cases hk:(k==A8)=true
  ·have hk':k= .free:=eq_of_beq hk;subst hk';obtain⟨c,hc⟩:=h n (.head _);unfold Js;simp only [W7,fX,G0J,hc,pure_bind];exact wP r _ λn hn=>h n (.tail _ hn)
  ·unfold Js;simp only [hk,oI,pure_bind];exact wP r _ λn hn=>h n (.tail _ hn)
variable {scope:Q1}
theorem Zm {env:Env}(h: ∀n,(n,A8)∈scope.names-> ∃c,env.cells.lookup n=some c):kX scope env=pure (Js env.cells scope.names []):=by
 have:=wP (env:=env) scope.names [] h;unfold kX
 first
  |exact this
  |simpa using this
theorem wI {cells:G0 (Str×G9)}: ∀ (names:G0 (Str×NameKind)) (cs:G0 (Str×G9)),(∀x c,cs.lookup x=some c->cells.lookup x=some c)-> ∀x c,(Js cells names cs).lookup x=some c->cells.lookup x=some c
 | [],_,h,x,c,e=>h x c e
 |(n,k)::r,cs,h,x,c,e=>by
  unfold Js at e;refine wI r _ (λy d hy=> ?_) x c e;split at hy
  ·split at hy
   ·rename_i c' hc';rw [E8] at hy
    by_cases q:(y==n)=true
    ·rw [q] at hy;cases hy;rw [eq_of_beq q];exact hc'
    ·simp only [q] at hy;exact h y d hy
   ·exact h y d hy
  ·exact h y d hy
theorem Zn {cells:G0 (Str×G9)}: ∀ (names:G0 (Str×NameKind)) (cs:G0 (Str×G9)) (x:Str),((x,A8)∈names/\(∃c,cells.lookup x=some c)\/ ∃c,cs.lookup x=some c)-> ∃c,(Js cells names cs).lookup x=some c
 | [],_,x,h=>h.elim (λz=>nomatch z.1) id
 |(n,k)::r,cs,x,h=>by
  unfold Js;refine Zn r _ x ?_;rcases h with ⟨hm,c,hc⟩|⟨c,hc⟩
  ·rcases D2.mp hm with q|q
   ·cases q;right;simp only [W7,fX,hc];exact⟨c,by simp⟩
   ·exact .inl ⟨q,c,hc⟩
  ·right;split
   ·split
    ·rename_i c' hc'
     by_cases q:(x==n)=true
     ·exact⟨c',by rw [E8,q]⟩
     ·exact⟨c,by rw [E8];simp only [q];exact hc⟩
    ·exact⟨c,hc⟩
   ·exact⟨c,hc⟩
structure LamOk (sc:Q1):Prop where
 kind:sc.kind= .function
 co:sc.isCoroutine=false
 gen:sc.isGenerator=false
 nocell: ∀y∈sc.names,y.2≠ .cell/\y.2≠ .local
def ZR:o9:= {posonlyargs:= [],args:= [],vararg:=none,kwonlyargs:= [],kw_defaults:= [],kwarg:=none,defaults:= []}
theorem YQ {a0 b0:G7}{c:G1}: ∀l:G0 G1,iN l->iN (l++ [A1 a0,A1 b0,c]):=by
 intro l h
 fun_induction iN l with
 |case1=>simp [iN,A1]
 |case2 a t b u x rest ih=>simp only [Q5,iN];exact ih h
 |case3 l h1 h2=>exact h.elim
theorem XS {p:Pos}{a0 b0:G7}{c cv:G1}: ∀l:G0 G1,iN l->mR p (l++ [A1 a0,A1 b0,c])=some cv->mR p l=some cv\/cv=c:=by
 intro l h e
 fun_induction iN l with
 |case1=>
  right;simp only [L6,mR,A1] at e;split at e
  ·exact(O5 e).symm
  ·cases e
 |case2 a t b u x rest ih=>
  simp only [Q5,mR] at e ⊢;split at e
  ·rename_i hc;left;rw [R6 hc];exact e
  ·rename_i hc;rw [R8 hc];exact ih h e
 |case3 l h1 h2=>exact h.elim
def CodeF (H:Hp)(cv:G1)(q:Str):Prop:= ∃ (c:G9) (o:Obj) (vs:S6 G1) (t:Tok),cv= .ref c/\H c=some (.frz o (.own 0))/\o.data= .fields vs/\vs[1]? =some (.str q t)
variable {w:N4}{H:Hp}{q:Str}
theorem CodeF.rec {P:R9}{h:B6}{cv:G1}(x:CodeF H cv q)(ok:HOk P w H h):h.CodeRec cv q:=let ⟨c,o,vs,t,e,e2,r⟩:=x;⟨c,o,vs,t,e,(ok c _ e2).1,r⟩
section
variable {X:Cx}{pins:G0 (G9×Obj)}{σ:St}{H:Hp}{s:G2}
theorem Mb {M:j0}{A:T3}{E:G1->G2->Prop}{Q:G1->G2->Prop}{body:N0}{scope:Q1}{pos:Pos}{c P:G9}{ps:S6 G1}{clos:G0 (Str×G9)}(I:Inv X pins σ H s)(B:Bm X.mg X.base)
 (hcode:X.env.code= .ref c)(hc:codeHdIn X.K c P=true)(hP:H P=some (.tbl ps))(hps:CodesOk H ps)(hcl:kX scope X.env=pure clos)
 (k: ∀ (f:G9) (q qual:Str) (pm cv ctv:G1) (H':Hp) (h':B6) (tk:Tok),Inv X pins σ H' {s with heap:=h',toks:=tk}->Kept H H'->(∀a o,H a=some o->(∀ps',o≠ .tbl ps')->H' a=some o)->
  (∀a ps',H a=some (.tbl ps')->a≠P->H' a=some (.tbl ps'))->(∃ps',H' P=some (.tbl ps')/\CodesOk H' ps')->
  h'.get? f=some {cls:= .type "function",data:= .func (kla_fn "<lambda>" qual ZR body scope clos pm cv ctv)}->CodeF H' cv q->H' f=none->(∀x d,X.env.cells.lookup x=some d->d≠f)->f≠X.env.locals->f ∉ X.fs->Q (.ref f) {s with heap:=h',toks:=tk}):
 R3 M A (J0 (.Lambda ZR body scope pos) X.env) Q E s:=by
 have hPg:s.heap.get? P=some (tabObj ps):=I.hok P _ hP;have C:CodeHd s.heap c P:=codeHd_of_K I.kIn hc;have hgs:s.heap.Ns mainGlobals X.mg:=I.mod.glob.keeps I.bk;obtain⟨bm,ob,b1,b2,b3,b4,b5,b6⟩:=B;have bb:=I.bs _ _ b3;have hgP:mainGlobals≠P:=λq=>by
  obtain⟨o,es,ep,e,hd,_⟩:=hgs;rw [q,hPg] at e;cases e;cases hd
 have hbP:bm≠P:=λq=>by rw [q,hP] at bb;cases bb.2
 have hbG:bm≠mainGlobals:=λq=>by
  obtain⟨o,es,ep,e,hd,_⟩:=hgs;rw [q,e] at bb;cases bb.1;rw [hd] at b6;cases b6
 have BA:s.heap.BuiltinsAt X.mg P:=⟨bm,ob,b1,b2,hbG,hbP,bb.1,b4,b5,b6⟩;have away: ∀f,s.heap.objs.size<=f->(∀x d,X.env.cells.lookup x=some d->d≠f)/\f≠X.env.locals/\f ∉ X.fs:=λf hf=>⟨λx d e z=>by
  obtain⟨v,o,ho,_⟩:=I.cell x d e;exact absurd (S7 (P9 ho) (z ▸ hf)) (N7 _),λz=>absurd (S7 I.lt (z ▸ hf)) (N7 _),I.nofs hf⟩
 refine kla_eval rfl ?_;cases hf:mR pos ps.toList with
 |none=>
  refine kla_makeFunction (mg:=X.mg) hcl I.ok.glob hgs hcode C hPg hps.1 hf hgP BA λc' ctv h' tk hx hge hlt hrec htb=> ?_
  have hP':P<s.heap.objs.size:=P9 hPg;have hcP:c'≠P:=Z0 (S7 hP' hge);have hcn:H c'=none:=I.hok.fresh hge;obtain⟨c₂,oc,vs,t,e2,hoc,hd,hv⟩:=hrec;cases e2;have szle:s.heap.objs.size<=h'.objs.size:=T4 (Y4 hge hlt);have kp: ∀ (o2:Obj) b o,b≠P->s.heap.get? b=some o->(h'.push o2).get? b=some o:=λo2 b o nb e=>G3 _ (hx b o nb e)
  have hnP: ∀b u,H b=some u->(∀ps',u≠ .tbl ps')->b≠P:=λb u e n z=>by rw [z,hP] at e;cases e;exact n _ rfl
  have look: ∀b,b≠P->b≠c'->upd (upd H c' (.frz oc (.own 0))) P (.tbl (ps++ #[A1 pos.line,A1 pos.col,.ref c'])) b=H b:=λb n1 n2=>by rw [jf n1,jf n2]
  have ncs: ∀b u,H b=some u->b≠c':=λb u e z=>by rw [z,hcn] at e;cases e
  have frzs: ∀b o u,H b=some (.frz o u)->upd (upd H c' (.frz oc (.own 0))) P (.tbl (ps++ #[A1 pos.line,A1 pos.col,.ref c'])) b=some (.frz o u):=λb o u e=>by
   rw [look b (hnP b _ e (by intro _ z;cases z)) (ncs b _ e)];exact e
  refine k h'.objs.size (X.env.qual++ "<lambda>") (X.env.qual++ "<lambda>") _ (.ref c') ctv (upd (upd H c' (.frz oc (.own 0))) P (.tbl (ps++ #[A1 pos.line,A1 pos.col,.ref c']))) _ tk ?_ ?_ ?_ ?_ ?_ (R1 _ rfl) ⟨c',oc,vs,t,rfl,by rw [jf hcP,jh],hd,hv⟩ ?_ (away _ szle).1 (away _ szle).2.1 (away _ szle).2.2
  ·refine I.un (t':=tk) ⟨λb o e n hb hx'=>kp _ b o (λz=>by rw [z,hP] at n;cases n) e,λb o e n hb hx'=>⟨o.slots,kp _ b o (λz=>by rw [z,hP] at n;cases n) e⟩,λb o e n hx'=> ?_,λb o e hx'=> ?_,λb xs e=> ?_,frzs,λb ps' e=> ?_⟩ λa o e=> ?_
   ·rw [look b (λz=>by rw [z,hP] at n;cases n) (M0 (S7 (P9 e) hge))];exact n
   ·by_cases z:b=P
    ·rw [z];exact⟨_,G3 _ htb⟩
    ·exact⟨_,kp _ b o z e⟩
   ·rw [look b (hnP b _ e (by intro _ z;cases z)) (ncs b _ e)];exact e
   ·by_cases z:b=P
    ·subst z;rw [hP] at e;cases e;exact⟨_,jh⟩
    ·exact⟨#[],by rw [look b z (ncs b _ e),e];simp⟩
   ·by_cases z:a=P
    ·subst z;rw [jh] at e;cases e;exact G3 _ htb
    ·rw [jf z] at e
     by_cases z2:a=c'
     ·subst z2;rw [jh] at e;cases e;exact⟨G3 _ hoc,⟨oc,G3 _ hoc⟩⟩
     ·rw [jf z2] at e;refine(I.hok a o e).stay (λb u hb q=> ?_) (λb q=> ?_) λb xs q=> ?_
      ·rcases hb with rfl|hb
       ·exact kp _ b u z q
       ·exact kp _ b u (hnP b _ hb (by intro _ z;cases z)) q
      ·rw [look b (hnP b _ q (by intro _ z;cases z)) (ncs b _ q)];exact q
      ·rw [look b (hnP b _ q (by intro _ z;cases z)) (ncs b _ q)];exact q
  ·refine⟨λa xs e=> ?_,λa xs e=>⟨xs,?_⟩,λa kk i e=> ?_,frzs⟩<;>(rw [look a (hnP a _ e (by intro _ z;cases z)) (ncs a _ e)];exact e)
  ·intro a o e n;rw [look a (hnP a _ e n) (ncs a _ e)];exact e
  ·intro a ps' e n;rw [look a n (ncs a _ e)];exact e
  ·refine⟨_,jh,?_,λp cv e=> ?_⟩
   ·simp only [L8];exact YQ _ hps.1
   ·simp only [L8] at e;rcases XS ps.toList hps.1 e with e|e
    ·obtain⟨c1,o,vs',q',t',e1,e2,r⟩:=hps.2 p cv e;exact⟨c1,o,vs',q',t',e1,frzs _ _ _ e2,r⟩
    ·exact⟨c',oc,vs,_,t,e,by rw [jf hcP,jh],hd,hv⟩
  ·have:H h'.objs.size=none:=I.hok.fresh szle;rw [look _ (Z0 (S7 hP' szle)) (Z0 hlt)];exact this
 |some cv=>
  obtain⟨c1,o,vs,q,t,rfl,e2,hd,hv⟩:=hps.2 pos cv hf;obtain⟨ho,_⟩:=I.hok c1 _ e2;refine kla_makeFunctionHit (mg:=X.mg) hcl I.ok.glob hgs hcode C hPg hps.1 hf BA λctv h' tk hk hsz=> ?_
  exact k h'.objs.size q (X.env.qual++ "<lambda>") _ (.ref c1) ctv H _ tk (I.kept (t':=tk) λb u e=>G3 _ (hk b u e)) (.refl H) (λ_ _ e _=>e) (λ_ _ e _=>e) ⟨ps,hP,hps⟩ (R1 _ rfl) ⟨c1,o,vs,t,rfl,e2,hd,hv⟩
   (I.hok.fresh hsz) (away _ hsz).1 (away _ hsz).2.1 (away _ hsz).2.2
end
structure Cap (N:G0 Str)(σ:St)(sc:Q1)(cl:G0 (Str×G9))(h:B6)(H:Hp):Prop where
 len:σ.length=N.length
 inj: ∀x y c,cl.lookup x=some c->cl.lookup y=some c->x=y
 has: ∀x,sc.names.lookup x=some .free-> ∃c,cl.lookup x=some c
 cell: ∀x c,cl.lookup x=some c->(∃v,h.IsCell c v)/\H c=none
 loc: ∀ (i:G7) (x:Str) (v:V),N[i]? =some x->σ[i]? =some (some v)->sc.names.lookup x=some .free-> ∃u c,RelV v u/\cl.lookup x=some c/\h.IsCell c (some u)
theorem we {α β:Type}[BEq α][LawfulBEq α]: ∀ {l:G0 (α×β)} {x:α} {y:β},l.lookup x=some y->(x,y)∈l
 | [],_,_,h=>by cases h
 |(a,b)::r,x,y,h=>by
  rw [E8] at h
  by_cases q:(x==a)=true
  ·rw [q] at h;cases h;rw [eq_of_beq q];exact .head _
  ·simp only [q] at h;exact .tail _ (we h)
def Pf (sc:Q1)(env:Env):Prop:= ∀n,(n,A8)∈sc.names->env.kindOf n=some .cell\/env.kindOf n=some .free
variable {σ:St}{s:G2}
theorem Cap.of {X:Cx}{pins:G0 (G9×Obj)}{sc:Q1}(I:Inv X pins σ H s)(hf:Pf sc X.env):Cap X.N σ sc (Js X.env.cells sc.names []) s.heap H where
 len:=I.len
 inj:=λx y c h1 h2=>I.ok.inj x y c (wI _ _ (λ_ _ z=>by cases z) _ _ h1) (wI _ _ (λ_ _ z=>by cases z) _ _ h2)
 has:=λx h=>Zn _ _ _ (.inl ⟨we h,I.ok.has x (hf x (we h))⟩)
 cell:=λx c h=>⟨I.cell x c (wI _ _ (λ_ _ z=>by cases z) _ _ h),I.freeC x c (wI _ _ (λ_ _ z=>by cases z) _ _ h)⟩
 loc:=λi x v h1 h2 h3=>by
  obtain⟨m,hn,hl⟩:=I.loc;have hk:=hf x (we h3);obtain⟨u,r,l⟩:=hl i x v h1 h2 (.inr hk);obtain⟨c,hc⟩:=Zn (cells:=X.env.cells) sc.names [] x (.inl ⟨we h3,I.ok.has x hk⟩);refine⟨u,c,r,hc,?_⟩;have hc':=wI _ _ (λ_ _ z=>by cases z) _ _ hc;rcases l with ⟨k,_⟩|⟨_,c2,e,z⟩
  ·rcases hk with k2|k2<;>(rw [k] at k2;cases k2)
  ·rw [hc'] at e;cases e;exact z
variable {cl:G0 (Str×G9)}
theorem Cap.step {N:G0 Str}{sc:Q1}{h h':B6}{H':Hp}{fs:G0 G9}(C:Cap N σ sc cl h H)(u:Un fs [] H H' h h'):Cap N σ sc cl h' H':=by
 have k: ∀x c v,cl.lookup x=some c->h.IsCell c v->h'.IsCell c v:=λx c v e ⟨o,ho,hd⟩=>by
  obtain⟨sl,q⟩:=u.any ho (C.cell x c e).2 (by simp);exact⟨_,q,hd⟩
 exact⟨C.len,C.inj,C.has,λx c e=>by
  obtain⟨⟨v,z⟩,n⟩:=C.cell x c e;obtain⟨o,ho,_⟩:=id z;exact⟨⟨v,k x c v e z⟩,u.free c o ho n (by simp)⟩,λi x v h1 h2 h3=>let ⟨uu,c,r,e,z⟩:=C.loc i x v h1 h2 h3;⟨uu,c,r,e,k x c _ e z⟩⟩
def cxL (CX:CXT)(P:R9)(w:N4)(K:G5)(mg:Str->P4 G1)(base:B6)(N:G0 Str)(q:Str)(scope:Q1)(f:G9)(cd:G1)(cl:G0 (Str×G9))(A:T3)(outer:G0 Env)(s:G2)(H:Hp)(E:XK):Cx where
 prog:=P
 w:=w
 K:=K
 mg:=mg
 base:=base
 A:=A.deeper (envX q scope s.heap.objs.size f cd cl)
 N:=N
 s₀:=s
 H₀:=H
 env:=envX q scope s.heap.objs.size f cd cl
 outer:=outer
 stack:=envX q scope s.heap.objs.size f cd cl::outer
 ex:= []
 calm:=true
 fn:=λ_=>false
 pn:= []
 xe:=λe s'=>R3 (R7 P w) (A.deeper (envX q scope s.heap.objs.size f cd cl)) (qK (envX q scope s.heap.objs.size f cd cl) e) (λ_ s''=>CX outer H s E e s'') (λe' s''=>CX outer H s E e' s'') s'
variable {mg:Str->P4 G1}{base:B6}
theorem Cu {CX:CXT}{P:R9}{K:G5}{N:G0 Str}{f:G9}{cd:G1}{A:T3}{outer:G0 Env}{E:XK}{h₁:B6}{tk:Tok}
 (L:LamOk scope)(hd:A.handled=none)(e0:Env0 P w K mg base A outer s H)(C:Cap N σ scope cl s.heap H)(hns:h₁.Ns s.heap.objs.size (λ_=>none))(hk: ∀b o,s.heap.get? b=some o->h₁.get? b=some o):
 Inv (cxL CX P w K mg base N q scope f cd cl A outer s H E) [] σ H {s with heap:=h₁,toks:=tk}:=by
 have noA: ∀b:G9,b ∉ (cxL CX P w K mg base N q scope f cd cl A outer s H E).ex:=λb z=>absurd (show b∈([]:G0 G9) from z) (by simp)
 have nofr: ∀y,scope.names.lookup y=some .cell\/scope.names.lookup y=some .free->scope.names.lookup y=some .free:=λy hy=>hy.elim (λz=>absurd rfl (L.nocell _ (we z)).1) id
 refine⟨⟨e0.mod,L.kind,rfl,rfl,P3 _,λy z c h1 h2=>C.inj y z c h1 h2,λy hy=>C.has y (nofr y hy),λy c z=>(by cases z),λ_=>hd,iV e0.frames,.inr ⟨rfl,rfl⟩,λb z=>absurd z (noA b),e0.bs,e0.bsz,λb _ _=>noA b,λb z=>absurd z (noA b),e0.funs,e0.frf⟩,
  rfl,e0.bare,Un.kept hk,⟨_,hns,λi y v h1 h2 h3=> ?_⟩,λy c h=> ?_,e0.hok.fresh (P3 _),λy c h=>(C.cell y c h).2,λp hp=>absurd (show p∈([]:G0 (G9×Obj)) from hp) (by simp),e0.hok.kept hk,C.len⟩
 ·have h3':scope.names.lookup y=some .free:=by
   rcases h3 with z|z
   ·exact absurd rfl (L.nocell _ (we z)).2
   ·exact nofr y z
  obtain⟨u,c,r,e,o,ho,hd'⟩:=C.loc i y v h1 h2 h3';exact⟨u,r,.inr ⟨.inr h3',c,e,o,hk _ _ ho,hd'⟩⟩
 ·obtain⟨⟨v,o,ho,hd'⟩,_⟩:=C.cell y c h;exact⟨v,o,hk _ _ ho,hd'⟩
theorem Pg {prog:R9}{A:T3}{R:oH->G2->Prop}{f:G9}{o:Obj}{qual:Str}{body:N0}{pm cd ctv:G1}(L:LamOk scope)(deep:A.depth<recursionLimit)
 (there:s.heap.get? f=some o)(lam:o.data= .func (kla_fn "<lambda>" qual ZR body scope cl pm cd ctv))(named:s.heap.CodeRec cd q)(lim:s.heap.NoLimit)
 (go: ∀h₁,h₁.Ns s.heap.objs.size (λ_=>none)->(∀b o,s.heap.get? b=some o->h₁.get? b=some o)->
  bX (R7 prog w) A (.expr body (envX q scope s.heap.objs.size f cd cl)) R {s with heap:=h₁,toks:=s.toks+0}):
 bX (R7 prog w) A (.call (.ref f) ⟨[],[]⟩) R s:=by
 obtain⟨c,oc,vs,t,rfl,hoc,hdc,hq⟩:=named;obtain⟨h,g,d,tk,os⟩:=s;have frame:=λ{A':T3} {Q:Env->G2->Prop} {E:G1->G2->Prop} (k: ∀h₁,_->_->Q _ _)=>wpAny_newFunctionEnv (M:=R7 prog w) (A:=A') (s:=⟨h,g,d,tk,os⟩) (E:=E) (scope:=scope) (globals:=mainGlobals) (closure:=cl) (binds:= []) (qual:=q++ ".<locals>.") (func:=some f) (code:= .ref c) (around:=none) (builtins:=kK) (Q:=Q) (λx hx=>(L.nocell x hx).1) (λx hx=>nomatch hx) k L.kind
 refine sQ ?_;show R3 _ A.in1 (callAny (.ref f) ⟨[],[]⟩) _ _ _
 wp_walk using pV there
 rw [lam];have nothing:tZ (kla_fn "<lambda>" qual ZR body scope cl pm (.ref c) ctv) ⟨[],[]⟩=pure []:=rfl;show R3 _ _ (z7 f (kla_fn "<lambda>" qual ZR body scope cl pm (.ref c) ctv) ⟨[],[]⟩) _ _ _;unfold z7;rw [nothing];show R3 _ _ (field (.ref c) 1 >>= _) _ _ _;refine wpAny_bind (oJ hoc hdc hq ?_)
 repeat refine wpAny_bind (G8 ?_)
 refine wpAny_bind (frame λh₁ empty same=>wpAny_bind (wpAny_enterFrame (lim.fresh _ same) deep ?_));simp only [kla_fn,L.co,L.gen];exact G8 ⟨rfl,go h₁ empty λb o old=>same.extBut _ _ (λz=>absurd (P9 old) (by rw [z];exact N7 _)) (G3 _ old)⟩
theorem Cv {CX:CXT}{P:R9}{K:G5}{N:G0 Str}{qual:Str}{f:G9}{cd pm ctv:G1}{A:T3}{outer:G0 Env}{E:XK}{o:Obj}{body:N0}{t:TE}{Q:VK}{k:G7}
 (L:LamOk scope)(hr:Room (k+1) A)(e0:Env0 P w K mg base A outer s H)(C:Cap N σ scope cl s.heap H)(ho:s.heap.get? f=some o)(hd:o.data= .func (kla_fn "<lambda>" qual ZR body scope cl pm cd ctv))(hc:CodeF H cd q)
 (hb:PE (cxL CX P w K mg base N q scope f cd cl A outer s H E) body t)(ht:t σ H Q):bX (R7 P w) A (.call (.ref f) ⟨[],[]⟩) (CR CX outer P w H s Q E) s:=by
 have lim:s.heap.NoLimit:=e0.mod.nolimit.keeps λb o e=>(e0.bs b o e).1
 refine Pg L hr.depth ho hd (hc.rec e0.hok) lim λh₁ hns hk₁=> ?_
 have I:=Cu (CX:=CX) (q:=q) (f:=f) (cd:=cd) (E:=E) (tk:=s.toks+0) L hr.hd e0 C hns hk₁;refine kla_codeExpr (B1 (hb [] _ σ H Q I ht) (λv s' hs=> ?_) λ_ _ y=>y);obtain⟨v',H',J,rv,q'⟩:=hs;exact⟨v',H',J.os,J.bare,J.base,J.hok,rv,q'⟩
abbrev TXD:=SD->HD->(Str->HD->Prop)->Prop
def WX (X:Cx)(E:XK)(H:Hp)(R:Str->HD->Prop):Prop:= ∀c C h' H',Kept H H'->RelH X.K h' H'->X.mg c=some (.ref C)->R c h'->E (.ref C) none H'
theorem WX.mono {X:Cx}{E:XK}{H':Hp}{R:Str->HD->Prop}(w:WX X E H R)(k:Kept H H'):WX X E H' R:=λc C h2 H2 k2=>w c C h2 H2 (k.trans k2)
structure JX (X:Cx)(sts:G0 K8)(t:TXD):Prop where
 to: ∀ (E:XK),Rz X E-> ∀ (pins:G0 (G9×Obj)) (s:G2) (σ:St) (H:Hp) (σd:SD) (h:HD) (R:Str->HD->Prop),Inv X pins σ H s->RelS X.K H σd σ->RelH X.K h H->t σd h R->WX X E H R->
  R3 (R7 X.prog X.w) X.A (execs sts X.env) (λ_ _=>False) X.xe s
structure JXE (X:Cx)(e:N0)(t:TXD):Prop where
 to: ∀ (E:XK),Rz X E-> ∀ (pins:G0 (G9×Obj)) (s:G2) (σ:St) (H:Hp) (σd:SD) (h:HD) (R:Str->HD->Prop),Inv X pins σ H s->RelS X.K H σd σ->RelH X.K h H->t σd h R->WX X E H R->
  R3 (R7 X.prog X.w) X.A (J0 e X.env) (λ_ _=>False) X.xe s
def xIf (t:TTD)(u:TXD):TXD:=λσ h R=>t σ h λk h'=>k=true/\u σ h' R
def xRz (c:Str):TXD:=λ_ h R=>R c h
abbrev RDx:=G0 D->HD->(Str->HD->Prop)->Prop
def OZ (spr:RDx)(t:TAD):TXD:=λσ h R=>t σ h λds h1=>spr ds h1 R
def Ny (mg:Str->P4 G1)(K:G5)(spr:RDx):Sp:=λvs H _ E=> ∃ds h R,RelDs K H ds vs/\RelH K h H/\spr ds h R/\ ∀c C h' H',Kept H H'->RelH K h' H'->mg c=some (.ref C)->R c h'->E (.ref C) none H'
def bmV:G0 G1:= [.type "ValueError",.type "Exception",.type "BaseException",.type "object"]
theorem Mc {K:Frag}(P:R9)(M:Mod K mg base): ∃loose mb,TopRead P loose mg mb base:=by
 obtain⟨mb,laid,boot⟩:=M.blt;obtain⟨o,es,ep,at_,isd,texts,finds⟩:=id M.glob;refine⟨es.toList.filterMap λe=>match e.key with| .str n _=>some n|_=>none,mb,M.glob,laid,M.nolimit,boot,λx _ out _ _ _=> ?_⟩;rw [<-finds x];cases hit:nsFind es x with
 |none=>rfl
 |some v=>
  refine absurd ?_ out;unfold nsFind findBy at hit;obtain⟨e,hf,_⟩:=A5.mp hit;have isx:e.key.isStr x=true:=Array.find?_some (p:=λ(e:DictEntry)=>e.key.isStr x) hf;have mem:=Array.mem_of_find?_eq_some hf;obtain⟨n,t,ek⟩:=texts e mem;rw [ek] at isx;have nx:n=x:=by simpa [Value.isStr] using isx
  exact aX.mpr ⟨e,by simpa using mem,by rw [ek,nx]⟩
def OwnX (K:G5)(mg:Str->P4 G1)(c:Str):Prop:= ∃C,mg c=some (.ref C)/\nsIn K mainGlobals c=some (some (.ref C))/\excIn K C bmV "ValueError.__new__" =true
theorem OwnX.at {K:Frag}{h:B6}{c:Str}(P:R9)(O:OwnX K mg c)(M:Mod K mg base)(kept: ∀b o,base.get? b=some o->h.get? b=some o): ∃C,mg c=some (.ref C)/\OwnCls c C bmV "ValueError.__new__" mg h:=
 let ⟨C,hm,hn,hx⟩:=O
 let ⟨_,_,T⟩:=Mc P M
 ⟨C,hm,(own_of_in M.kin T hn hx).keeps kept⟩
section
variable {X:Cx}{c:N0}{e:N0}{es:G0 N0}{st:K8}{a b rest:G0 K8}{t:TSD}{tt:TTD}{u:TXD}{ta:TAD}{pos p:Pos}
theorem Sz (hc:JT X c tt)(ha:JX X a u):JX X (.If c a b pos::rest) (xIf tt u):=⟨λE Z pins s σ H σd h R I rs rh ht w=>by
 refine aV (B1 (wpAny_If (Q:=λ_ _=>False) (thn (hc.to pins s σ H (λk H'=>k=true/\ ∃h',Kept H H'/\RelS X.K H' σd σ/\RelH X.K h' H'/\u σd h' R) I
  ⟨σd,h,_,rs,rh,ht,λk h' H' kp rh' q=>⟨q.1,h',kp,rs.mono kp,rh',q.2⟩⟩) λd s1 q=> ?_)) (λ_ _ z=>z.elim) λ_ _ z=>z)
 obtain⟨H',I',rfl,h',kp,rs',rh',q⟩:=q;exact ha.to E Z pins s1 σ H' σd h' R I' rs' rh' q (w.mono kp)⟩
theorem Cw (he:JXE X e u)(hs:cO e none pos.line X.env=pure false:=by rfl):JX X (.Expr e pos::rest) u:=⟨λE Z pins s σ H σd h R I rs rh ht w=>
 aV (tV (B1 (he.to E Z pins s σ H σd h R I rs rh ht w) (λ_ _ z=>z.elim) λ_ _ z=>z) I.quiet hs)⟩
theorem Md {x:Str}{np cpos p2:Pos}{m:Str}{j:G7}(hg:Gl X x)(O:OwnX X.K X.mg x)(hcalm:X.calm=true)(hd:(x==("__debug__" :Str))=false:=by decide)
 (he:D7 [Expr.Constant (.str m) j p2] X.env=(false,J0 (.Constant (.str m) j p2) X.env)::D7 [] X.env:=by rfl):
 JX X (.Raise (some (.Call (.Name x np) [.Constant (.str m) j p2] [] cpos)) none pos::rest) (xRz x):=⟨λE Z pins s σ H σd h R I rs rh ht w=>by
 obtain⟨C,hm,own⟩:=O.at X.prog I.mod I.bk;refine aV (B1 (?_:R3 _ _ _ (λ_ _=>False) _ _) (λ_ _ z=>z.elim) λ_ _ z=>z);obtain⟨_,_,_,_,_,_,_,_,_,_,_,_,_,_,_,_,_,isC,laid,noInit,tail⟩:=own.obj;refine' wpAny_Raise_call_subT uM (tail.hasType PySem.F.excBase_ValueError.hasBase) (I.ok.hd hcalm) (by rw [he];rfl) noInit (vM I hg hm ⟨rfl,?_⟩ hd)
 rotate_right 1
 rw [he];refine oK (kP (xE (k:=j) (pos:=p2) (lO ⟨rfl,(by show 1<=sizeLine;decide),isC,laid,tail,λh' e hme=> ?_⟩)));refine Z.xe _ _ (XR (s:= {s with toks:=s.toks+1}) (I.tok _) Z hme λh2 un hok fl=> ?_);exact⟨e,C,H,rfl,I.os,I.bare,un,hok,fl,w x C h H (.refl H) rh hm ht⟩⟩
theorem Cy {k:G7}{f:G9}{fd:N5}{ps:G0 Str}{spr:RDx}{x:Str}(F:FnOk X.prog X.w X.K X.mg X.base (CXR X.prog X.w) k f fd ps (Ny X.mg X.K spr))(hr:Room k X.A)(hg:Gl X x)(hm:X.mg x=some (.ref f))(hk:Q4 X.K (.ref f)=true)(hb:Binds X.K fd ps [])
 (ha:JA X (e::es) ta)(hdb:(x==("__debug__" :Str))=false:=by decide)(he:D7 (e::es) X.env=(false,J0 e X.env)::D7 es X.env:=by rfl)(hpl:(K7 pos (D7 es X.env)).any (·.1)=false:=by rfl):
 JXE X (.Call (.Name x p) (e::es) [] pos) (OZ spr ta):=⟨λE Z pins s σ H σd h R I rs rh ht w=>by
 refine thn (Ga F hr hg hm hk hb .nil (Sy Z) ha.to hdb he hpl pins s σ H (λ_ _=>False) I
  ⟨σd,h,_,rs,rh,ht,λds vs h' H' kp rh' r q=>by show Ny X.mg X.K spr (vs++ []) H' (λ_ _=>False) E;rw [O6];exact⟨ds,h',R,r,rh',q,λc C h2 H2 k2=>w c C h2 H2 (kp.trans k2)⟩⟩) λ_ _ ⟨_,_,_,_,z⟩=>z⟩
end
section
variable {P:R9}{w:N4}{K:G5}{mg:Str->P4 G1}{base:B6}
theorem Cz {N:G0 Str}{qual:Str}{scope:Q1}{f:G9}{cd:G1}{A:T3}{outer:G0 Env}{s:G2}{H:Hp}{E:XK}:Rz (ZN (CXR P w) P w K mg base N qual scope f cd A outer s H E) E:=⟨⟨rfl,rfl,rfl⟩,λ_ _ h=>h⟩
theorem Aa {N:G0 Str}{q:Str}{scope:Q1}{f:G9}{cd:G1}{cl:G0 (Str×G9)}{A:T3}{outer:G0 Env}{s:G2}{H:Hp}{E:XK}:Rz (cxL (CXR P w) P w K mg base N q scope f cd cl A outer s H E) E:=⟨⟨rfl,rfl,rfl⟩,λ_ _ h=>h⟩
theorem Fun.okX {x qual:Str}{st:K8}{f:G9}{fd:N5}{N ps:G0 Str}{k:G7}{spr:RDx}(F:Fun K x qual st f fd)(S:FnScope N ps (jd st))(len: ∀ds h R,spr ds h R->ds.length=ps.length)
 (tb:TXD)(hbody: ∀ (cdv:G1) (A:T3) (outer:G0 Env) (s:G2) (H:Hp) (E:XK),Room k (A.deeper (Q7 qual (jd st) s.heap.objs.size f cdv))->JX (ZN (CXR P w) P w K mg base N qual (jd st) f cdv A outer s H E) (jK st) tb)
 (read: ∀ds h R,spr ds h R->tb (jU N ds) h R):FnOk P w K mg base (CXR P w) (k+1) f fd ps (Ny mg K spr):=by
 obtain⟨oc,od,kV,doc,pm,an,cdv,ct,osl,rfl,lk,hcd⟩:=F.ex;refine Bj lk hcd S (λvs H Q E h=> ?_) λA outer s H vs Q E hr hsp=> ?_
 ·obtain⟨ds,h,R,r,rh,q,p⟩:=h;rw [<-r.length];exact len _ _ _ q
 ·obtain⟨ds,h,R,r,rh,q,p⟩:=hsp;refine⟨λ_ σ H'=>σ=start N vs/\H'=H,λpins s' σ H' D I ⟨e1,e2⟩=> ?_,rfl,rfl⟩;subst e1;subst e2;exact B1 ((hbody cdv A outer s H' E hr).to E Cz pins s' _ H' (jU N ds) h R I (yu r) rh (read ds h R q) p) (λ_ _ z=>z.elim) λ_ _ z=>z
end
def WR (P:R9)(w:N4)(K:G5)(mg:Str->P4 G1)(base:B6)(n:G7)(x:Str)(ps:G0 Str)(spr:RDx):Prop:=
 ∃ (g:G9) (gd:N5),FnOk P w K mg base (CXR P w) n g gd ps (Ny mg K spr)/\Binds K gd ps []/\Q4 K (.ref g)=true/\mg x=some (.ref g)
end L2
namespace L2
open PySem PySem.Spec PyProof.Rows
structure RoomU (k:G7)(A:T3):Prop where
 dp:A.depth+3*k+5<recursionLimit
 un:A.units+16*k+200<cLine
 gd:A.guards=some []
variable {k:G7}{A:T3}
theorem Room.u (r:Room k A):RoomU k A:=⟨r.dp,r.un,r.gd⟩
theorem RoomU.deeper (r:RoomU (k+1) A)(env:Env):RoomU k (A.deeper env):=
 ⟨by have:=r.dp;show A.depth+1+3*k+5<_;omega,by have:=r.un;show A.units+3+16*k+200<_;omega,r.gd⟩
theorem RoomU.depth (r:RoomU k A):A.depth<recursionLimit:=by have:=r.dp;omega
theorem RoomU.units (r:RoomU k A):A.units+64<cLine:=by have:=r.un;omega
structure FnOkU (P:R9)(w:N4)(K:G5)(mg:Str->P4 G1)(base:B6)(CX:CXT)(k:G7)(f:G9)(fd:N5)(ps:G0 Str)(sp:Sp):Prop where
 len: ∀vs H Q E,sp vs H Q E->vs.length=ps.length
 run: ∀ (A:T3) (outer:G0 Env) (s:G2) (H:Hp) (args:Args) (us:G0 G1) (vs:G0 V) (Q:VK) (E:XK),RoomU k A->Env0 P w K mg base A outer s H->o8 s fd args (ps.zip us)->Vals vs us->sp vs H Q E->
  bX (R7 P w) A (.call (.ref f) args) (CR CX outer P w H s Q E) s
section
variable {X:Cx}{CX:CXT}{k:G7}{f C:G9}{fd:N5}{ps:G0 Str}{sp:Sp}{dvs:G0 V}{ds:G0 G1}{E:XK}{x m:Str}{p pos apos:Pos}{e o:N0}{es:G0 N0}{ta:TE}{t:TA}
theorem CA {pins:G0 (G9×Obj)}{σ:St}{H:Hp}{s:G2}{Q:VK}{us:G0 G1}{vs:G0 V}(F:FnOkU X.prog X.w X.K X.mg X.base CX k f fd ps sp)(hr:RoomU k X.A)(hb:Binds X.K fd ps ds)(hd:Vals dvs ds)(hx:JJ CX X E)
 (I:Inv X pins σ H s)(r:Vals vs us)(h:sp (vs++dvs) H Q E):R3 (R7 X.prog X.w) X.A (call (.ref f) us) (EP X pins σ Q) X.xe s:=by
 have r2:Vals (vs++dvs) (us++ds):=r.append hd;have hl:(us++ds).length=ps.length:=by rw [<-r2.length];exact F.len _ _ _ _ h
 refine aY (bY (F.run X.A X.stack s H ⟨us,[]⟩ (us++ds) (vs++dvs) Q E hr I.env0 (hb s us I.kIn hl) r2 h) λr s' hq=> ?_);cases r with
 |error e=>exact hx pins σ H s e s' I hq
 |ok fl=>
  cases fl with
  |ret u=>exact I.after hq
  |next=>exact False.elim hq
  |brk=>exact False.elim hq
  |cont=>exact False.elim hq
theorem Me (F:FnOkU X.prog X.w X.K X.mg X.base CX k f fd ps sp)(hr:RoomU k X.A)(hg:Gl X x)(hm:X.mg x=some (.ref f))(hk:Q4 X.K (.ref f)=true)(hb:Binds X.K fd ps ds)(hd:Vals dvs ds)(hx:JJ CX X E)
 (ha:PA X (e::es) t)(hdb:(x==("__debug__" :Str))=false:=by decide)(he:D7 (e::es) X.env=(false,J0 e X.env)::D7 es X.env:=by rfl)(hpl:(K7 pos (D7 es X.env)).any (·.1)=false:=by rfl):
 PE X (.Call (.Name x p) (e::es) [] pos) (Bi sp dvs E t):=by
 intro pins s σ H Q I h;refine aZ (vM I hg hm ?_ hdb);refine kQ (h₀:=X.base) I.ok.mod.kin hk (thn (ha pos pins s σ H _ I h) λus s1 ⟨vs,H1,I1,r,q⟩=>⟨I1.kIn,?_⟩) he hpl;exact CA F hr hb hd hx I1 r q
end
def YR (CX:CXT)(P:R9)(w:N4)(K:G5)(mg:Str->P4 G1)(base:B6)(N:G0 Str)(qual:Str)(scope:Q1)(f:G9)(cd:G1)(A:T3)(outer:G0 Env)(s:G2)(H:Hp)(E:XK):Cx where
 prog:=P
 w:=w
 K:=K
 mg:=mg
 base:=base
 A:=A.deeper (Q7 qual scope s.heap.objs.size f cd)
 N:=N
 s₀:=s
 H₀:=H
 env:=Q7 qual scope s.heap.objs.size f cd
 outer:=outer
 stack:=Q7 qual scope s.heap.objs.size f cd::outer
 ex:= []
 calm:=false
 fn:=λ_=>true
 pn:= []
 xe:=λe s'=>R3 (R7 P w) (A.deeper (Q7 qual scope s.heap.objs.size f cd)) (qK (Q7 qual scope s.heap.objs.size f cd) e) (λ_ s''=>CX outer H s E e s'') (λe' s''=>CX outer H s E e' s'') s'
variable {base:B6}{qual:Str}{scope:Q1}
theorem XT {CX:CXT}{P:R9}{w:N4}{K:G5}{mg:Str->P4 G1}{N ps:G0 Str}{f:G9}{cd:G1}{outer:G0 Env}{s s1:G2}{H:Hp}{E:XK}{us:G0 G1}{vs:G0 V}
 (S:FnScope N ps scope)(e0:Env0 P w K mg base A outer s H)(hl:vs.length=ps.length)(r:Vals vs us)
 (x:InCallC s s.heap.objs.size (r8 (Q7 qual scope s.heap.objs.size f cd).kindOf (ps.zip us) λ_=>none) (V0 (s.heap.objs.size+1) scope.names []) (r9 (Q7 qual scope s.heap.objs.size f cd).kindOf (ps.zip us) λ_=>none) s1):
 Inv (YR CX P w K mg base N qual scope f cd A outer s H E) [] (start N vs) H s1:=by
 have hpl:ps.length<=N.length:=by have:=congrArg iU S.pre;rw [M5] at this;omega
 obtain⟨h1,tk,rfl,hk⟩:=x.done;have noA: ∀b:G9,b ∉ (YR CX P w K mg base N qual scope f cd A outer s H E).ex:=λb z=>absurd (show b∈([]:G0 G9) from z) (by simp)
 refine⟨⟨e0.mod,S.kind,rfl,rfl,P3 _,λy z c h1 h2=> ?_,λy hy=> ?_,λy c _ h=> ?_,λz=>(by cases z),iV e0.frames,.inr ⟨rfl,rfl⟩,λb z=>absurd z (noA b),e0.bs,e0.bsz,λb _ _=>noA b,λb z=>absurd z (noA b),e0.funs,e0.frf⟩,
  rfl,e0.bare,Un.kept hk,⟨_,x.toInCall.ns,λi y v h1 h2 h3=> ?_⟩,λy c h=>⟨_,x.cell y c h⟩,e0.hok.fresh (P3 _),λy c h=> ?_,λp hp=>absurd (show p∈([]:G0 (G9×Obj)) from hp) (by simp),e0.hok.kept hk,?_⟩
 ·exact qL x.apart (K0 h1) (K0 h2)
 ·have hy:scope.names.lookup y=some .cell\/scope.names.lookup y=some .free:=hy;rcases hy with hy|hy
  ·exact yr hy
  ·exact absurd rfl (S.nofree _ (K0 hy))
 ·exact T4 (x.above y c (K0 h))
 ·have hi:i<vs.length:=by
   unfold start at h2
   by_cases hi:i<vs.length
   ·exact hi
   ·rw [N3 (by simpa using hi)] at h2;rw [gE] at h2;split at h2<;>cases h2
  have ha:vs[i]? =some v:=by
   unfold start at h2;rw [B8 (by simpa using hi),D9] at h2;cases e:vs[i]? with
   |none=>rw [e] at h2;cases h2
   |some a=>rw [e] at h2;cases h2;rfl
  obtain⟨u,hu,rv⟩:=r.get ha;have hp:ps[i]? =some y:=by
   rw [<-S.pre,Z5 (by omega)];exact h1
  have ndP:ps.Nodup:=by rw [<-S.pre];exact S.nd.sublist (aG _ _)
  refine⟨u,rv,?_⟩;rcases S.par y (P6 hp) with k|k
  ·exact .inl ⟨k,JK ndP hp hu k⟩
  ·obtain⟨c,e⟩:=yr (n:=s.heap.objs.size+1) k;refine .inr ⟨.inl k,c,e,?_⟩;have q:=x.cell y c e;rw [JL ndP hp hu (by show scope.names.lookup y≠_;rw [k];decide)] at q;exact q
 ·exact e0.hok.fresh (T4 (x.above y c (K0 h)))
 ·unfold start;show _=N.length;rw [P8,G6,nZ];omega
theorem Ab {CX:CXT}{P:R9}{w:N4}{K:G5}{mg:Str->P4 G1}{f:G9}{name:Str}{params:o9}{body:G0 K8}{dV kV doc pm cdv ct oc:G1}{an od:P4 G9}{osl:S6 (P4 G1)}{N ps:G0 Str}{sp:Sp}(lk:K.lookup f=some ⟨oc,od,.func (Z6 name qual params body scope dV kV doc pm an cdv ct),osl⟩)(hcd:gQ K cdv qual=true)(S:FnScope N ps scope)
 (len: ∀vs H Q E,sp vs H Q E->vs.length=ps.length)
 (hbody: ∀ (A:T3) (outer:G0 Env) (s:G2) (H:Hp) (vs:G0 V) (Q:VK) (E:XK),RoomU k (A.deeper (Q7 qual scope s.heap.objs.size f cdv))->sp vs H Q E->
  ∃t,PSs (YR CX P w K mg base N qual scope f cdv A outer s H E) body t/\t {nx:=λ_ H'=>Q .non H',rt:=Q} (start N vs) H):
 FnOkU P w K mg base CX (k+1) f (Z6 name qual params body scope dV kV doc pm an cdv ct) ps sp:=by
 refine⟨len,λA outer s H args us vs Q E hr e0 hb r hsp=> ?_⟩;have hl:=len _ _ _ _ hsp;have KX:K.In s.heap:=e0.mod.kin.keeps λb o e=>(e0.bs b o e).1
 have lim:s.heap.NoLimit:=e0.mod.nolimit.keeps λb o e=>(e0.bs b o e).1
 have hkind: ∀y∈ps.zip us,scope.names.lookup y.1=some .local\/(scope.names.lookup y.1=some .cell/\((V0 (s.heap.objs.size+1) scope.names []).lookup y.1).isSome=true):=λ⟨n,v⟩ hy=>by
  rcases S.par n (dD hy).1 with q|q
  ·exact .inl q
  ·exact .inr ⟨q,cW _ _ _ (.inl q)⟩
 refine iH hr.depth (KX _ _ lk) rfl S.co S.gen rfl (kT KX hcd) (hb _ _ _ _ ?_);refine eJ S.kind hkind λenv he s1 x=> ?_
 subst he;refine⟨lim.keeps x.toInCall.keep,qM ?_⟩;obtain⟨t,ht,hq⟩:=hbody A outer s H vs Q E (hr.deeper _) hsp;have I:Inv (YR CX P w K mg base N qual scope f cdv A outer s H E) [] (start N vs) H s1:=XT S e0 hl r x;refine B1 (ht [] s1 (start N vs) H _ I hq) (λfl s' hs=> ?_) λe s' hs=>hs
 have fin: ∀ {σ':St} {H':Hp} {v:V} {u:G1},Inv (YR CX P w K mg base N qual scope f cdv A outer s H E) [] σ' H' s'->RelV v u->Q v H'->CE outer P w H s Q u s':=
  λ{σ' H' v u} J rv q=>⟨v,H',J.os,J.bare,J.base,J.hok,rv,q⟩
 cases fl with
 |ret u=>
  obtain⟨v,σ',H',J,rv,q⟩:=hs;exact fin J rv q
 |next=>
  obtain⟨σ',H',J,q⟩:=hs;exact fin (v:=V.non) (u:=f6) J rfl q
 |brk=>
  obtain⟨_,_,_,q⟩:=hs;exact False.elim q
 |cont=>
  obtain⟨_,_,_,q⟩:=hs;exact False.elim q
section
variable {P:R9}{w:N4}{K:G5}{mg:Str->P4 G1}{base:B6}
variable {qual:Str}
theorem Fun.okU {x:Str}{st:K8}{f:G9}{fd:N5}{N ps:G0 Str}{k:G7}{sp:Sp}(F:Fun K x qual st f fd)(S:FnScope N ps (jd st))(len: ∀vs H Q E,sp vs H Q E->vs.length=ps.length)
 (hbody: ∀ (cdv:G1) (A:T3) (outer:G0 Env) (s:G2) (H:Hp) (vs:G0 V) (Q:VK) (E:XK),RoomU k (A.deeper (Q7 qual (jd st) s.heap.objs.size f cdv))->sp vs H Q E->
  ∃t,PSs (YR CX0 P w K mg base N qual (jd st) f cdv A outer s H E).nox (jK st) t/\t {nx:=λ_ H'=>Q .non H',rt:=Q} (start N vs) H):FnOkU P w K mg base CX0 (k+1) f fd ps sp:=by
 obtain⟨oc,od,kV,doc,pm,an,cdv,ct,osl,rfl,lk,hcd⟩:=F.ex;refine Ab lk hcd S len λA outer s H vs Q E hr hsp=> ?_
 obtain⟨t,h,q⟩:=hbody cdv A outer s H vs Q E hr hsp;exact⟨t,h.nox,q⟩
theorem Fun.okDU {x:Str}{st:K8}{f:G9}{fd:N5}{N ps:G0 Str}{k:G7}{spd:RDn}(F:Fun K x qual st f fd)(S:FnScope N ps (jd st))(len: ∀ds h Q,spd ds h Q->ds.length=ps.length)
 (tb:TSD)(hbody: ∀ (cdv:G1) (A:T3) (outer:G0 Env) (s:G2) (H:Hp) (E:XK),RoomU k (A.deeper (Q7 qual (jd st) s.heap.objs.size f cdv))->QSs (YR CX0 P w K mg base N qual (jd st) f cdv A outer s H E).nox (jK st) tb)
 (read: ∀ds h Q,spd ds h Q->tb (VA Q) (jU N ds) h):FnOkU P w K mg base CX0 (k+1) f fd ps (LSp K spd):=by
 refine F.okU S (λvs H Q E h=> ?_) (λcdv A outer s H vs Q E hr h=> ?_)
 ·obtain⟨ds,h,Qd,r,rh,q,p⟩:=h;rw [<-r.length];exact len _ _ _ q
 ·obtain⟨ds,h,Qd,r,rh,q,p⟩:=h;refine⟨_,hbody cdv A outer s H E hr,jU N ds,h,VA Qd,yu r,rh,read ds h Qd q,λσd' h' σ' H' k rs' rh' ⟨h2,sb,q'⟩=>p .non .non h2 H' k (rh'.sub sb) rfl q',λd v h' H' k rh' r' ⟨h2,sb,q'⟩=>p d v h2 H' k (rh'.sub sb) r' q',λ_ _ _ _ _ _ _ z=>z.elim,λ_ _ _ _ _ _ _ z=>z.elim⟩
theorem Fun.okJU {x:Str}{st:K8}{f:G9}{fd:N5}{N ps:G0 Str}{k:G7}{spd:RDn}(F:Fun K x qual st f fd)(S:FnScope N ps (jd st))(len: ∀ds h Q,spd ds h Q->ds.length=ps.length)
 (tb:TSD)(hbody: ∀ (cdv:G1) (A:T3) (outer:G0 Env) (s:G2) (H:Hp) (E:XK),RoomU k (A.deeper (Q7 qual (jd st) s.heap.objs.size f cdv))->JSs (YR CX0 P w K mg base N qual (jd st) f cdv A outer s H E).nox (jK st) tb)
 (read: ∀ds h Q,spd ds h Q->tb (VA Q) (jU N ds) h):FnOkU P w K mg base CX0 (k+1) f fd ps (LSp K spd):=F.okDU S len tb (λcdv A outer s H E hr=>(hbody cdv A outer s H E hr).to) read
end
structure FnOkS (P:R9)(w:N4)(K:G5)(mg:Str->P4 G1)(base:B6)(CX:CXT)(k:G7)(f:G9)(fd:N5)(ps:G0 Str)(sp:G2->Sp):Prop where
 len: ∀s vs H Q E,sp s vs H Q E->vs.length=ps.length
 run: ∀ (A:T3) (outer:G0 Env) (s:G2) (H:Hp) (args:Args) (us:G0 G1) (vs:G0 V) (Q:VK) (E:XK),Room k A->Env0 P w K mg base A outer s H->o8 s fd args (ps.zip us)->Vals vs us->sp s vs H Q E->
  bX (R7 P w) A (.call (.ref f) args) (CR CX outer P w H s Q E) s
section
variable {X:Cx}{CX:CXT}{k:G7}{f C:G9}{fd:N5}{ps:G0 Str}{sp:Sp}{dvs:G0 V}{ds:G0 G1}{E:XK}{x m:Str}{p pos apos:Pos}{e o:N0}{es:G0 N0}{ta:TE}{t:TA}
theorem CB {pins:G0 (G9×Obj)}{σ:St}{H:Hp}{s:G2}{Q:VK}{us:G0 G1}{vs:G0 V}{sp:G2->Sp}(F:FnOkS X.prog X.w X.K X.mg X.base CX k f fd ps sp)(hr:Room k X.A)(hb:Binds X.K fd ps ds)(hd:Vals dvs ds)(hx:JJ CX X E)
 (I:Inv X pins σ H s)(r:Vals vs us)(h:sp s (vs++dvs) H Q E):R3 (R7 X.prog X.w) X.A (call (.ref f) us) (EP X pins σ Q) X.xe s:=by
 have r2:Vals (vs++dvs) (us++ds):=r.append hd;have hl:(us++ds).length=ps.length:=by rw [<-r2.length];exact F.len _ _ _ _ _ h
 refine aY (bY (F.run X.A X.stack s H ⟨us,[]⟩ (us++ds) (vs++dvs) Q E hr I.env0 (hb s us I.kIn hl) r2 h) λr s' hq=> ?_);cases r with
 |error e=>exact hx pins σ H s e s' I hq
 |ok fl=>
  cases fl with
  |ret u=>exact I.after hq
  |next=>exact False.elim hq
  |brk=>exact False.elim hq
  |cont=>exact False.elim hq
end
theorem Ac {CX:CXT}{P:R9}{w:N4}{K:G5}{mg:Str->P4 G1}{f:G9}{name:Str}{params:o9}{body:G0 K8}{dV kV doc pm cdv ct oc:G1}{an od:P4 G9}{osl:S6 (P4 G1)}{N ps:G0 Str}{sp:G2->Sp}(lk:K.lookup f=some ⟨oc,od,.func (Z6 name qual params body scope dV kV doc pm an cdv ct),osl⟩)(hcd:gQ K cdv qual=true)(S:FnScope N ps scope)
 (len: ∀s vs H Q E,sp s vs H Q E->vs.length=ps.length)
 (hbody: ∀ (A:T3) (outer:G0 Env) (s:G2) (H:Hp) (vs:G0 V) (Q:VK) (E:XK),Room k (A.deeper (Q7 qual scope s.heap.objs.size f cdv))->sp s vs H Q E->
  ∀s1,Inv (ZN CX P w K mg base N qual scope f cdv A outer s H E) [] (start N vs) H s1->R3 (R7 P w) (A.deeper (Q7 qual scope s.heap.objs.size f cdv)) (execs body (Q7 qual scope s.heap.objs.size f cdv)) (SP (ZN CX P w K mg base N qual scope f cdv A outer s H E) [] {nx:=λ_ H'=>Q .non H',rt:=Q}) (ZN CX P w K mg base N qual scope f cdv A outer s H E).xe s1):
 FnOkS P w K mg base CX (k+1) f (Z6 name qual params body scope dV kV doc pm an cdv ct) ps sp:=by
 refine⟨len,λA outer s H args us vs Q E hr e0 hb r hsp=> ?_⟩;have hl:=len _ _ _ _ _ hsp;have KX:K.In s.heap:=e0.mod.kin.keeps λb o e=>(e0.bs b o e).1
 have lim:s.heap.NoLimit:=e0.mod.nolimit.keeps λb o e=>(e0.bs b o e).1
 have hkind: ∀y∈ps.zip us,scope.names.lookup y.1=some .local\/(scope.names.lookup y.1=some .cell/\((V0 (s.heap.objs.size+1) scope.names []).lookup y.1).isSome=true):=λ⟨n,v⟩ hy=>by
  rcases S.par n (dD hy).1 with q|q
  ·exact .inl q
  ·exact .inr ⟨q,cW _ _ _ (.inl q)⟩
 refine iH hr.depth (KX _ _ lk) rfl S.co S.gen rfl (kT KX hcd) (hb _ _ _ _ ?_);refine eJ S.kind hkind λenv he s1 x=> ?_
 subst he;refine⟨lim.keeps x.toInCall.keep,qM ?_⟩;have ht:=hbody A outer s H vs Q E (hr.deeper _) hsp;have I:Inv (ZN CX P w K mg base N qual scope f cdv A outer s H E) [] (start N vs) H s1:=Yu S hr.hd e0 hl r x;refine B1 (ht s1 I) (λfl s' hs=> ?_) λe s' hs=>hs
 have fin: ∀ {σ':St} {H':Hp} {v:V} {u:G1},Inv (ZN CX P w K mg base N qual scope f cdv A outer s H E) [] σ' H' s'->RelV v u->Q v H'->CE outer P w H s Q u s':=
  λ{σ' H' v u} J rv q=>⟨v,H',J.os,J.bare,J.base,J.hok,rv,q⟩
 cases fl with
 |ret u=>
  obtain⟨v,σ',H',J,rv,q⟩:=hs;exact fin J rv q
 |next=>
  obtain⟨σ',H',J,q⟩:=hs;exact fin (v:=V.non) (u:=f6) J rfl q
 |brk=>
  obtain⟨_,_,_,q⟩:=hs;exact False.elim q
 |cont=>
  obtain⟨_,_,_,q⟩:=hs;exact False.elim q
section
variable {X:Cx}{k:G7}{f:G9}{fd:N5}{ps:G0 Str}{spd:RDn}{x:Str}{p pos:Pos}{e:N0}{es:G0 N0}{t:TAD}
theorem Ad (F:FnOkU X.prog X.w X.K X.mg X.base CX0 k f fd ps (LSp X.K spd))(hr:RoomU k X.A)(hg:Gl X x)(hm:X.mg x=some (.ref f))(hk:Q4 X.K (.ref f)=true)(hb:Binds X.K fd ps [])
 (ha:JA X (e::es) t)(hdb:(x==("__debug__" :Str))=false:=by decide)(he:D7 (e::es) X.env=(false,J0 e X.env)::D7 es X.env:=by rfl)(hpl:(K7 pos (D7 es X.env)).any (·.1)=false:=by rfl):
 JE X (.Call (.Name x p) (e::es) [] pos) (dCB spd t):=⟨(Me F hr hg hm hk hb .nil Bp ha.to hdb he hpl).imp Go⟩
end
def Ph (P:R9)(w:N4)(K:G5)(mg:Str->P4 G1)(base:B6)(n:G7)(x:Str)(ps:G0 Str)(sp:RDn):Prop:=
 ∃ (g:G9) (gd:N5),FnOkU P w K mg base CX0 n g gd ps (LSp K sp)/\Binds K gd ps []/\Q4 K (.ref g)=true/\mg x=some (.ref g)
end L2
namespace L2
open PySem PySem.Spec PyProof.Rows PySem.W PySem.Calls PySem.Builtin PySem.Builtin.ObjectAttr PySem.Builtin.Getset_descriptor
section
variable {prog:R9}{w:N4}{A:T3}{E:G1->G2->Prop}{s:G2}{K:Frag}{x D:G9}
structure ExcK (K:Frag)(D:G9):Prop where
 cls:(clsIn K D).isSome=true
 ga:findIn K (.ref D) "__getattribute__" =some (some (.builtin "BaseException.__getattribute__"))
 hk:findIn K (.ref D) "__getattr__" =some none
 ca:findIn K (.ref D) "__class__" =some (some (.builtin "object.__class__"))
 gt:specialIn K (.builtin "object.__class__") "__get__" =some (some (.builtin "getset_descriptor.__get__"))
 tk:takesIn K (.builtin "object.__class__")=some true
 ob:mroIn K D (.type "object")=some true
 be:mroIn K D (.type "BaseException")=some true
def ExcAt (x D:G9)(h:B6):Prop:= ∃o,h.get? x=some o/\o.cls= .ref D
theorem ExcAt.type {M:j0}{h:B6}(I:ExcAt x D h):Looks M h (y6 (.ref x)) (.ref D):=let ⟨o,h1,h2⟩:=I;h2 ▸ (IW h1).andThen .now
theorem XU {tp:G1}{R:oH->G2->Prop}(X:K.In s.heap)(I:ExcAt x D s.heap)(ob:mroIn K D (.type "object")=some true)
 (h:R (.ok (.ret (.ref D))) s):bX (R7 prog w) A (.call (.builtin "getset_descriptor.__get__") ⟨[.builtin "object.__class__",.ref x,tp],[]⟩) R s:=by
 obtain⟨hp,g,dr,t,os⟩:=s;have known:Looks (R7 prog w) hp (G0f (.ref x) (.type "object")) true:=I.type.andThen (looks_mroIn X ob);have passed:Looks (R7 prog w) hp (descrCheckInstance (.builtin "object.__class__") (.ref x)) ():=
  Looks.andThen (a:=(("__class__" :Str),V4 "object")) (pQ (congrArg (λp:U2×U2=>(pure (eQ p.2,V4 p.1):Sem (Str×G1))) KF.owner_class)) (known.andThen .now)
 have shown:Looks (R7 prog w) hp (shownTypeOf (.ref x)) (.ref D):=I.type.andThen .now;have asked:=KF.slot_gs.check (R7 prog w) A.in1 (λe s'=>R (.error e) s') ⟨hp,g,dr,t,os⟩ (.builtin "object.__class__") [.ref x,tp] [];refine W8 KF.slot_gs.plain KF.entry_gs (asked _ KF.type_class (KF.args_gs _ _ _) ?_);show R3 _ _ (descrGetArgs _ >>= _) _ _ _;rw [dga_obj];refine wpAny_bind (G8 (wpAny_bind (passed.at (G8 ⟨Code.quiet_builtin _ (by decide +kernel),E2 KF.entry_class ?_⟩))));exact wpAny_bind (shown.at (G8 h))
theorem Mf {M:j0}{h:B6}(X:K.In h)(Z:ExcK K D):Looks M h (find (.ref x) (.ref D) "__class__") (.bind (.builtin "getset_descriptor.__get__") (.builtin "object.__class__")):=by
 have L1:=looks_findIn (M:=M) X Z.ca;have L2:Looks M h (getOf (some (.builtin "object.__class__"))) (some (.builtin "getset_descriptor.__get__")):=looks_specialIn X Z.gt;have L3:=looks_takesIn (M:=M) X Z.tk;exact L1.andThen (L2.andThen ((show Looks M h (dataDescriptor? (some (.builtin "object.__class__")) (some (.builtin "getset_descriptor.__get__"))) (some (.builtin "getset_descriptor.__get__",.builtin "object.__class__")) from L3.andThen .now).andThen (Looks.tag .now)))
theorem CC {M:j0}{h:B6}(X:K.In h)(I:ExcAt x D h)(Z:ExcK K D)(n:G1):Looks M h (cR "BaseException.__getattribute__" ⟨[.ref x,n],[]⟩) ():=by
 have known:Looks M h (G0f (.ref x) (.type "BaseException")) true:=I.type.andThen (looks_mroIn X Z.be);have fits:=IX (.ref x) n;unfold cR;rw [show builtinKind "BaseException.__getattribute__" =some .slot by decide +kernel,show splitId "BaseException.__getattribute__" =some ("BaseException","__getattribute__") by decide +kernel];exact known.andThen (pQ fits)
theorem ZS {tk:Tok}{R:oH->G2->Prop}(X:K.In s.heap)(I:ExcAt x D s.heap)(Z:ExcK K D)(h:R (.ok (.ret (.ref D))) s):
 bX (R7 prog w) A (.call (.builtin "BaseException.__getattribute__") ⟨[.ref x,.str "__class__" tk],[]⟩) R s:=
 W8 PySem.F.attr_ValueError.ga.plain IH (k9 (CC X I Z _) (wpAny_bind (G8 (wpAny_bind (G8 (wpAny_bind (k9 I.type (wpAny_bind (k9 (Mf X Z) (wpAny_bind (L5 (aY (XU X I Z.ob (G8 h))))))))))))))
theorem XV {Q:P4 G1->G2->Prop}(X:K.In s.heap)(I:ExcAt x D s.heap)(Z:ExcK K D)(h:Q (some (.ref D)) {s with toks:=s.toks+1}):R3 (R7 prog w) A (getAttr? (.ref x) "__class__") Q E s:=by
 have byReader:=PySem.F.attr_ValueError.ga.bind (.ref x);have asked: ∀ {A':T3} {P:G1->G2->Prop} {E':G1->G2->Prop},P (.ref D) {s with toks:=s.toks+1}->R3 (R7 prog w) A' (uN (.builtin "BaseException.__getattribute__") (.ref x) (.str "__class__" s.toks)) P E' {s with toks:=s.toks+1}:=λp=>by
  unfold uN;rw [byReader];exact wpAny_bind (G8 (aY (ZS (s:= {s with toks:=s.toks+1}) X I Z p)))
 have own: ∀ {A':T3} {P:G1->G2->Prop} {E':G1->G2->Prop},P (.ref D) {s with toks:=s.toks+1}->R3 (R7 prog w) A' (getAttrByItsOwn (.ref x) (.str "__class__" s.toks) (.ref D) (.builtin "BaseException.__getattribute__") false false) P E' {s with toks:=s.toks+1}:=λp=>
  wpAny_bind (k9 (s:= {s with toks:=s.toks+1}) (looks_findIn X Z.hk) (wpAny_bind (iT (L5 (asked (G8 p))))))
 exact wpAny_bind (wpAny_mkText (wpAny_bind (iT (L5 (wpAny_bind (k9 (s:= {s with toks:=s.toks+1}) I.type (wpAny_bind (k9 (s:= {s with toks:=s.toks+1}) (looks_findIn X Z.ga) (own (G8 h))))))))))
theorem Mg (Z:ExcK K D):KitX K (.ref x) (.ref D) (ExcAt x D):=by
 have isClass: ∀ {h:B6},K.In h-> ∃o c,h.get? D=some o/\o.data= .cls c:=λX=>by
  obtain⟨c,hc⟩:=W0.mp Z.cls;revert hc;unfold clsIn;split
  ·rename_i ho;exact λ_=>⟨_,_,X _ _ ho,rfl⟩
  ·exact λz=>nomatch z
 refine⟨λ_ _ _ I=>I.type,λM h X _=> ?_,λh tp dd its n sl X htp=> ?_,λX I k=>XV X I Z k⟩
 ·obtain⟨o,c,ho,hd⟩:=isClass X;exact(IW ho).andThen (pQ (by rw [hd]))
 ·obtain⟨o,c,ho,hd⟩:=isClass X;cases hq:(dL D==dL tp) with
  |false=>rfl
  |true=>
   cases (beq_iff_eq.mp hq);rw [htp] at ho;cases ho;cases hd
end
end L2
namespace L2
open PySem PySem.Spec PyProof.Rows PySem.SeqAt PySem.W
theorem Mh {X:Cx}(hu:X.A.units+64<cLine):MtM X "list.count" (λx vs H Q=> ∃ (a:G9) (y:V) (dy:D) (h:HD) (p:F8) (ps:G0 F8),x= .ref a/\vs= [y]/\RelD X.K H dy y/\RelH X.K h H/\ToP h (.lst a) (.list ps)/\ToP h dy p/\p.canLay0=true/\B9 ps=true/\p.depth<=60/\Q (.int ((ps.countP λz=>C3 z p:G7):D3)) H):=by
 intro pins s σ H x vs v us Q I rx rv h;obtain⟨a,y,dy,h,p,ps,rfl,rfl,rd,rh,t1,t2,c1,c2,c3,q⟩:=h;cases rx;obtain⟨u,rfl,ru⟩:=yb rv;obtain⟨a',ds,ea,ha,ts⟩:=(show ∃a' ds,D.lst a= .lst a'/\h a'=some ds/\ToPs h ds ps from t1);cases ea;obtain⟨ws,hH,_⟩:=rh a ds ha;obtain⟨as,r1⟩:=jM I rh t1 (show RelD X.K H (.lst a) (.ref a) from ⟨rfl,ws,hH⟩) (show RelV (.ref a) (.ref a) from rfl);obtain⟨bs,r2⟩:=jM I rh t2 rd ru;cases r1 with
 |list h1 h2 h3 h4=>
  rename_i o its n cs;have em:=readsAll_map ps _ _ c2 h4;have hu':X.A.units+1+min (N2 ps) p.depth<cLine:=by have:=eO (N2 ps) p.depth;omega
  obtain⟨oc,od,odt,osl⟩:=o;simp only at h2 h3;subst h2 h3;refine f8 mU ⟨_,h1,rfl⟩ xF (u7 _ _) (list_countAt a its n od osl u (λy=>C3 (readOf s.heap y) p)) ⟨h1,items_eqAt h4 r2 c2 c1 hu',?_⟩;have e:its.toList.countP (λy=>C3 (readOf s.heap y) p)=ps.countP λz=>C3 z p:=by
   rw [<-em,List.countP_map];rfl
  exact⟨.int _,H,I.tok _,⟨_,by rw [e]⟩,q⟩
def HK (to te:TED):TED:=λσ h Q=>to σ h λx h1=> ∃a,x= .lst a/\te σ h1 λy h2=> ∃ (p:F8) (ps:G0 F8),ToP h2 (.lst a) (.list ps)/\ToP h2 y p/\p.canLay0=true/\B9 ps=true/\p.depth<=60/\Q (.int ((ps.countP λz=>C3 z p:G7):D3)) h2
section
variable {X:Cx}{o e i:N0}{to te ti:TED}{apos cpos:Pos}
theorem HL (hu : X.A.units + 64 < cLine) (ho : JE X o to) (he : JE X e te) (hbase : aU o "count" X.env (J0 o X.env) = J0 o X.env := by rfl)
    (hfew : ((K7 cpos (D7 [e] X.env)).all (fun x => !x.1) && (mO cpos (gJ [] X.env)).all (fun x => x.1.isSome) && decide ([e].length + ([] : G0 eT).length + (if ([] : G0 eT).isEmpty then 0 else 1) < 30)) = true := by rfl)
    (hline : (apos.endLine == cpos.line) = true := by rfl) (hs : D7 [e] X.env = (false, J0 e X.env) :: D7 [] X.env := by rfl) (hplain : (K7 cpos (D7 [] X.env)).any (·.1) = false := by rfl) :
    JE X (.Call (.Attribute o "count" apos) [e] [] cpos) (HK to te) :=
  ⟨(Ro aJ mU xV (Mh hu) ho.to (zA he.to pa_nil hs) hbase hfew hline hs hplain).imp
    fun σ H Q ⟨σd, h, Qd, rs, rh, t, p⟩ => LE.bind rs rh t fun d v h1 H1 k1 rs1 rh1 r1 ⟨a, e, q⟩ => by
      subst e
      obtain ⟨e1, vs, hH⟩ := (show v = .ref a ∧ ∃ vs, H1 a = some (.lst vs) from r1)
      subst e1
      refine ⟨.inl ⟨rfl, vs, SqL.of hH⟩, ?_⟩
      refine LE.bind rs1 rh1 q fun y u h2 H2 k2 rs2 rh2 r2 ⟨pd, ps, t1, t2, c1, c2, c3, q2⟩ => ?_
      exact ⟨a, u, y, h2, pd, ps, rfl, rfl, r2, rh2, t1, t2, c1, c2, c3, p (.int _) _ _ _ (k1.trans k2) rh2 rfl q2⟩⟩
end
def SA (K:Frag)(c:G1)(ta:TED):TED:=λσ h Q=>ta σ h λx h1=> ∃C b,x= .exc C/\ExcK K C/\kitOne K (.ref C) c=some b/\Q (.bl b) h1
theorem Wl {X:Cx}{v:V}{c:G1}(rc: ∀u,RelV v u->u=c):CallR X (.builtin "isinstance") (λxs H Q=> ∃x C o b,xs= [.ref x,v]/\H x=some (.frz o (.own 0))/\o.cls= .ref C/\ExcK X.K C/\kitOne X.K (.ref C) c=some b/\Q (.bl b) H):=by
 intro pins s σ H xs us Q I r h;obtain⟨x,C,o,b,rfl,hx,hc,Z,e,q⟩:=h;obtain⟨u,w',rfl,rx,rt⟩:=QU r;cases rx;cases rc _ rt;exact kia_one (Mg Z) I.kIn ⟨o,(I.hok x _ hx).1,hc⟩ e (λz=>nomatch z) λtk=>⟨.bl b,H,I.tok tk,rfl,q⟩
section
variable {X:Cx}{a:N0}{ta:TED}{t:Str}{p p2 pos:Pos}
theorem Pi {v:V}{c:G1}: ∀σ H Q,LE X.K (SA X.K c ta) σ H Q->tCB (λxs H Q=> ∃x C o b,xs= [.ref x,v]/\H x=some (.frz o (.own 0))/\o.cls= .ref C/\ExcK X.K C/\kitOne X.K (.ref C) c=some b/\Q (.bl b) H) (Rj (LE X.K ta) (Rj (tC v) Ev)) σ H Q:=
 λσ H Q ⟨σd,h,Qd,rs,rh,t,p⟩=>LE.bind rs rh t λd u h1 H1 k1 rs1 rh1 r1 ⟨C,b,e,Z,k,q⟩=>by
  subst e;obtain⟨x,o,vs,e1,hx,hc,_⟩:=(show ∃x o vs,u= .ref x/\H1 x=some (.frz o (.own 0))/\o.cls= .ref C/\o.data= .fields vs from r1);subst e1;exact⟨x,C,o,b,rfl,hx,hc,Z,k,p (.bl b) _ _ _ k1 rh1 rfl q⟩
theorem XW {KK:Frag}{D:G9}(hg:Gl X "isinstance")(hm:X.mg "isinstance" =none)(hg2:Gl X t)(hm2:X.mg t=some (.ref D))(ha:JE X a ta)(hd:(t==("__debug__" :Str))=false:=by decide)
 (h1:D7 [a,.Name t p2] X.env=(false,J0 a X.env)::D7 [.Name t p2] X.env:=by rfl)(h2:(K7 pos (D7 [.Name t p2] X.env)).any (·.1)=false:=by rfl)(hK:X.K=KK:=by rfl):
 JE X (.Call (.Name "isinstance" p) [a,.Name t p2] [] pos) (SA KK (.ref D) ta):=
 hK ▸ ⟨(yt (Wl (v:= .ref D) λu r=>r) hg hm dG (zA ha.to (zA (QF (v:= .ref D) hg2 hm2 rfl hd) pa_nil (by rfl)) h1) (by decide) (by decide) h1 h2).imp Pi⟩
theorem HM {KK:Frag}{T:U2}(hg:Gl X "isinstance")(hm:X.mg "isinstance" =none)(hg2:Gl X t)(hm2:X.mg t=none)(hv:U8 t=some (.type T))(ha:JE X a ta)(hn:t≠ "__name__" :=by decide)(hd:(t==("__debug__" :Str))=false:=by decide)
 (h1:D7 [a,.Name t p2] X.env=(false,J0 a X.env)::D7 [.Name t p2] X.env:=by rfl)(h2:(K7 pos (D7 [.Name t p2] X.env)).any (·.1)=false:=by rfl)(hK:X.K=KK:=by rfl):
 JE X (.Call (.Name "isinstance" p) [a,.Name t p2] [] pos) (SA KK (.type T) ta):=
 hK ▸ ⟨(yt (Wl (v:= .ty T) λu r=>r) hg hm dG (zA ha.to (zA (QH (v:= .ty T) hg2 hm2 hv rfl hn hd) pa_nil (by rfl)) h1) (by decide) (by decide) h1 h2).imp Pi⟩
end
end L2
namespace L2
open PySem PySem.Spec PyProof.Rows PySem.W
section
variable {X:Cx}{σ:St}{H:Hp}{s:G2}{x C:G9}
theorem Inv.relaid {B h':B6}{T:G9}{a0:G1}(I:Inv X [] σ H s)(Z:Rz0 X)(hpn:X.pn= [])(hx:H x=none/\X.s₀.heap.get? x=none)(hT:H T=none/\X.s₀.heap.get? T=none)
 (hB:B=hideAll s.heap (x::T::frs (X.env::X.outer)))(fl:Heap.FlyingW B (X.env::X.outer) x (.ref C) a0 h')(up:s.heap.UpToSlots h'):Inv X [] σ H {s with heap:=h'}/\Fly X.s₀.heap H h' x C:=by
 subst hB;have stk:s.heap.FunFrames X.base (X.env::X.outer):=Z.stk ▸ I.stack;obtain⟨st,_,_,oe',vs',T',oT',ts',he',⟨hc',h0'⟩,hd',h1',hTB,hTx',hT',hTd',h3'⟩:=fl;obtain⟨r1,r2,r3⟩:=Pd (ys:= [x,T]) (h':=h') I Z (λy hy=>by
  rcases D2.mp hy with rfl|hy
  ·exact hx
  ·rcases D2.mp hy with rfl|hy
   ·exact hT
   ·cases hy) (λb o e n1 n2=>st b o (hideAll_get _ e λz=>by
    rcases D2.mp z with rfl|z
    ·exact n1 (.head _)
    ·rcases D2.mp z with rfl|z
     ·exact n1 (.tail _ (.head _))
     ·exact n2 z)) λb o e hb=>by
  obtain⟨_,o2,e2,nd⟩:=stk.mem hb;rw [e] at e2;cases e2;exact up b o e nd
 obtain⟨q1,q2⟩:=r3 T' oT' ts' hT' hTd' λo e=>by
  by_cases z:T'∈frs (X.env::X.outer)
  ·exact .inr z
  ·refine .inl ?_
   by_cases z1:T'=x
   ·rw [z1];exact .head _
   ·by_cases z2:T'=T
    ·rw [z2];exact .tail _ (.head _)
    ·rw [hideAll_get _ e (by simp only [D2,G0L];exact⟨z1,z2,z⟩)] at hTB;cases hTB
 have cellK: ∀c v,s.heap.IsCell c v->h'.IsCell c v:=λc v ⟨o,ho,hd⟩=>by
  obtain⟨sl,e⟩:=up c o ho λws q=>by rw [hd] at q;cases q
  exact⟨_,e,hd⟩
 refine⟨⟨I.ok,I.os,I.bare,by rw [Z.ex];exact r1,?_,λy c e=> ?_,I.free,I.freeC,λp hp=> ?_,r2,I.len⟩,⟨⟨oe',vs',a0,T',oT',ts',he',hc',hd',h0',h1',hTx',hT',hTd',h3',q1,q2⟩,hx.1,hx.2⟩⟩
 ·obtain⟨m,hn,hl⟩:=I.loc;refine⟨m,up.ns hn,λi y v e1 e2 e3=> ?_⟩;obtain⟨u,r,l⟩:=hl i y v e1 e2 e3;exact⟨u,r,l.imp id λ⟨k,c,e,z⟩=>⟨k,c,e,cellK c _ z⟩⟩
 ·obtain⟨v,z⟩:=I.cell y c e;exact⟨v,cellK c v z⟩
 ·rw [hpn] at hp;cases hp
theorem Inv.track {oe:Obj}{vs:S6 G1}(I:Inv X [] σ H s)(hpn:X.pn= [])(hn:H x=none)(h0:X.s₀.heap.get? x=none)(hx:s.heap.get? x=some oe)(hd:oe.data= .fields vs):Inv X [] σ (upd H x (.frz oe (.own 0))) s:=by
 have ne: ∀b u,H b=some u->b≠x:=λb u e z=>by rw [z,hn] at e;cases e
 have ne0: ∀b o,X.s₀.heap.get? b=some o->b≠x:=λb o e z=>by rw [z,h0] at e;cases e
 have cn: ∀y c,X.env.cells.lookup y=some c->c≠x:=λy c e z=>by
  obtain⟨v,o,ho,hc⟩:=I.cell y c e;rw [z,hx] at ho;cases ho;rw [hd] at hc;cases hc
 refine⟨I.ok,I.os,I.bare,⟨I.base.keep,I.base.slot,λb o e n hx=> ?_,I.base.there,λb xs e=> ?_,λb o u e=> ?_,λb ps e=> ?_⟩,I.loc,I.cell,?_,λy c e=> ?_,λp hp=> ?_,λa o e=> ?_,I.len⟩
 ·rw [jf (ne0 b o e)];exact I.base.free b o e n hx
 ·have:=I.base.tups b xs e;rw [jf (ne b _ this)];exact this
 ·have:=I.base.frzs b o u e;rw [jf (ne b _ this)];exact this
 ·obtain⟨more,this⟩:=I.base.tbls b ps e;exact⟨more,by rw [jf (ne b _ this)];exact this⟩
 ·rw [jf (λz=> ?_)]
  ·exact I.free
  ·obtain⟨m,⟨o,es,ep,e,d,_⟩,_⟩:=I.loc;rw [z,hx] at e;cases e;rw [hd] at d;cases d
 ·rw [jf (cn y c e)];exact I.freeC y c e
 ·rw [hpn] at hp;cases hp
 ·by_cases z:a=x
  ·subst z;rw [jh] at e;cases e;exact⟨hx,⟨oe,hx⟩⟩
  ·rw [jf z] at e;exact(I.hok a o e).stay (λ_ _ _ q=>q) (λb q=>by rw [jf (ne b _ q)];exact q) λb xs q=>by rw [jf (ne b _ q)];exact q
theorem Pj {M:j0}{A:T3}{E:G1->G2->Prop}{i:G7}{y:Str}{v:V}{Q:Unit->G2->Prop}(I:Inv X [] σ H s)(hpn:X.pn= [])(hN:X.N.Nodup)(hi:X.N[i]? =some y)(hk:X.env.scope.names.lookup y=some .local)(hv:σ[i]? =some (some v))
 (h: ∀s',Inv X [] (σ.set i none) H s'->Q () s'):R3 M A (unbindName X.env y) Q E s:=by
 obtain⟨m,hn,hl⟩:=id I.loc;have hcls:(X.env.scope.kind== .class||(X.env.scope.kind== .module&&X.env.locals !=X.env.globals))=false:=by rw [I.ok.kind];rfl
 have hiσ:i<σ.length:=by rw [I.len];exact(P5.mp hi).1
 obtain⟨u,r,l⟩:=hl i y v hi hv (.inl hk);have hm:m y=some u:=by
  rcases l with ⟨_,e⟩|⟨k,_⟩
  ·exact e
  ·rcases k with k|k<;>(have k':X.env.scope.names.lookup y=_:=k;rw [hk] at k';cases k')
 refine wpAny_unbindName_local hk hn hm hcls λh' u' hn' hs=> ?_
 obtain⟨oL,_,_,hoL,_⟩:=id hn;have cne:=I.cne;refine h _ ⟨I.ok,I.os,I.bare,⟨λb o e n hb hx=> ?_,λb o e n hb hx=> ?_,I.base.free,λb o e hx=> ?_,I.base.tups,I.base.frzs,I.base.tbls⟩,⟨_,hn',λj z v' e1 e2 e3=> ?_⟩,λz c e=> ?_,I.free,I.freeC,λp hp=> ?_,λb ob e=> ?_,by simpa using I.len⟩
 ·exact(hs.2 b (M0 (S7 (P9 e) I.ok.above))).trans (I.base.keep b o e n hb hx)
 ·obtain⟨sl,e1⟩:=I.base.slot b o e n hb hx;exact⟨sl,(hs.2 b (M0 (S7 (P9 e) I.ok.above))).trans e1⟩
 ·obtain⟨o',e1⟩:=I.base.there b o e hx;exact⟨o',(hs.2 b (M0 (S7 (P9 e) I.ok.above))).trans e1⟩
 ·by_cases hj:j=i
  ·subst hj;rw [aO hiσ] at e2;cases e2
  ·rw [U4 (U9 hj)] at e2;obtain⟨u2,r',q⟩:=hl j z v' e1 e2 e3;refine⟨u2,r',?_⟩;rcases q with ⟨k,e⟩|⟨k,c,e,q⟩
   ·refine .inl ⟨k,?_⟩;have:z≠y:=λe=>hj (WC hN e1 (e ▸ hi))
    simp [this,e]
   ·exact .inr ⟨k,c,e,q.sameBut hs (cne z c e)⟩
 ·obtain⟨w',q⟩:=I.cell z c e;exact⟨w',q.sameBut hs (cne z c e)⟩
 ·rw [hpn] at hp;cases hp
 ·refine(I.hok b ob e).stay (λc w' hc q=>(hs.2 c ?_).trans q) (λ_ q=>q) λ_ _ q=>q
  rintro rfl;rcases hc with rfl|hc
  ·rw [I.free] at e;cases e
  ·rw [I.free] at hc;cases hc
end
def cxH (X:Cx)(x:G9):Cx:= {X with A:=X.A.mark (some (.ref x)),calm:=false,xe:=λ_ _=>False}
section
variable {X:Cx}{pins:G0 (G9×Obj)}{σ:St}{H:Hp}{s:G2}{x C:G9}
theorem Inv.suite (I:Inv X pins σ H s)(x:G9):Inv (cxH X x) pins σ H s:=
 ⟨⟨I.ok.mod,I.ok.kind,I.ok.glob,I.ok.blt,I.ok.above,I.ok.inj,I.ok.has,I.ok.cab,λz=>(by cases z),I.ok.frames,I.ok.stk,I.ok.exf,I.ok.bs,I.ok.bsz,I.ok.noex,I.ok.exfs,I.ok.funs,I.ok.frf⟩,I.os,I.bare,I.base,I.loc,I.cell,I.free,I.freeC,I.pin,I.hok,I.len⟩
theorem Inv.unsuite (I:Inv (cxH X x) pins σ H s)(ok:X.Ok):Inv X pins σ H s:=⟨ok,I.os,I.bare,I.base,I.loc,I.cell,I.free,I.freeC,I.pin,I.hok,I.len⟩
theorem Mi {E:G1->G2->Prop}{n:Str}{i:G7}{PE:G9}{b0:K8}{suite:G0 K8}{t:TS}{D:Ends}{np pos:Pos}(Z:Rz0 X)(hpn:X.pn= [])(hN:X.N.Nodup)(hi:X.N[i]? =some n)(hl:X.env.scope.names.lookup n=some .local)
 (hg:Gl X "PowerError")(hm:X.mg "PowerError" =some (.ref PE))(hex:exmOne X.K (.ref C) (.ref PE)=some true)(I:Inv X [] σ H s)(fl:Fly X.s₀.heap H s.heap x C)(hs:PSs (cxH X x) (b0::suite) t)
 (ht: ∀oe vs,oe.cls= .ref C->oe.data= .fields vs->t {nx:=λ_ _=>False,rt:=D.rt} (σ.set i (some (.ref x))) (upd H x (.frz oe (.own 0)))):
 R3 (R7 X.prog X.w) X.A (noteFrame (.ref x) X.env) (λ_ s₂=>R3 (R7 X.prog X.w) X.A (setFlight (.ref x) none) (λ_ s₃=>R3 (R7 X.prog X.w) X.A (handleBy (.ref x) X.env [.ExceptHandler (some (.Name "PowerError" np)) (some n) (b0::suite) pos]) (SP X [] D) E s₃) E s₂) E s:=by
 obtain⟨oe0,vs0,a0,T,oT,ts,he,hc,hd,h0,h1,hTx,hT,hTd,h3,hHT,h0T⟩:=fl.ex;have hfr:X.A.frames=some (X.env::X.outer):=by rw [I.ok.frames,Z.stk]
 have stk:s.heap.FunFrames X.base (X.env::X.outer):=Z.stk ▸ I.stack;have ff:s.heap.FunFrames (hideAll s.heap (x::T::frs (X.env::X.outer))) (X.env::X.outer):=zc stk λa ha=>hideAll_none _ (.tail _ (.tail _ ha))
 refine wpAny_looks_onW (base:=hideAll s.heap (x::T::frs (X.env::X.outer))) (cls:= .ref C) (a0:=a0) hfr Z.fr
  ⟨λb o e=>of_hideAll _ e,hideAll_none _ (.head _),ff,oe0,vs0,T,oT,ts,he,⟨hc,h0⟩,hd,h1,hideAll_none _ (.tail _ (.head _)),hTx,hT,hTd,h3⟩ λh₄ hheld₄ hup₄=> ?_
 refine wpAny_landsW hheld₄ λh₅ hfl₅ hup₅=> ?_
 obtain⟨I5,F5⟩:=I.relaid Z hpn ⟨fl.nx,fl.n0⟩ ⟨hHT,h0T⟩ rfl hfl₅ (hup₄.trans hup₅);refine wpAny_handleBy_cons (codeAny_handlers_test (vM (X:=cxH X x) (I5.suite x) hg hm ?_)) (by intro q;cases q);have at5:ExcAt x C h₅:=let ⟨oe,_,_,_,_,_,e,c,_⟩:=F5.ex;⟨oe,e,c⟩;refine(exm_one (M:=R7 X.prog X.w) (h:=h₅) I5.kIn at5.type hex).here ?_;refine codeAny_handlers_suite_as ?_;refine lands_againW hfl₅ λh₆ hfl₆ hup₆=> ?_
 obtain⟨I6,F6⟩:=I.relaid Z hpn ⟨fl.nx,fl.n0⟩ ⟨hHT,h0T⟩ rfl hfl₆ (hup₄.trans (hup₅.trans hup₆));obtain⟨oe,vs,_,_,_,_,e6,c6,d6,_⟩:=F6.ex;have I7:=I6.track hpn F6.nx F6.n0 e6 d6;refine wM I7 hN hi (.inl hl) (v:= .ref x) rfl (λs8 I8=> ?_) (.inr hl);refine B1 (hs [] s8 _ _ _ (I8.suite x) (ht oe vs c6 d6)) (λf s9 q=> ?_) λ_ _ z=>z.elim
 cases f with
 |next=>obtain⟨_,_,_,z⟩:=q;exact z.elim
 |brk=>obtain⟨_,_,_,z⟩:=q;exact z.elim
 |cont=>obtain⟨_,_,_,z⟩:=q;exact z.elim
 |ret u=>
  obtain⟨v,σ',H3,J,rv,qq⟩:=q;have J1:Inv X [] σ' H3 s9:=J.unsuite I.ok;refine wpAny_bind (oC (wM J1 hN hi (.inl hl) (v:= .non) rfl (λs10 J2=> ?_) (.inr hl)));unfold unbindBehindTheSuite;have hlt:i<σ'.length:=by rw [J1.len];exact(P5.mp hi).1
  exact pO (Pj J2 hpn hN hi hl (v:= .non) (by rw [aO hlt]) λs11 J3=>⟨v,_,H3,J3,rv,qq⟩)
end
def CW:G0 (Str×Str):= [("NoTable","table"),("NoPlace","place"),("NoNumber","number"),("NoOrder","order"),("NoSet","set"),("NoWalk","walk"),("NoLengths","lengths"),("NoWay","way"),("Apart","apart"),("NoRow","row")]
def CN:G0 Str:= ["NoTable","NoPlace","NoNumber","NoOrder","NoSet","NoWalk","NoLengths","NoWay","Apart","NoRow"]
def vp (c:Str):Str:=(CW.lookup c).getD "other"
def UM (P:R9)(w:N4)(K:G5)(mg:Str->P4 G1)(base:B6)(n:G7):G2->Sp:=λs vs H Q _=>
 ∃ (f:G9) (o:Obj) (qual:Str) (pm cv ctv:G1) (cl:G0 (Str×G9)) (q:Str) (N:G0 Str) (σ:St) (scope:Q1) (body:N0) (h:HD) (Qd:KD),vs= [.ref f]/\s.heap.get? f=some o/\o.data= .func (kla_fn "<lambda>" qual ZR body scope cl pm cv ctv)/\CodeF H cv q/\H f=none/\LamOk scope/\Cap N σ scope cl s.heap H/\RelH K h H/\Nk K H Qd Q/\
 ((∃QT:VK,(∀ (A':T3) (outer':G0 Env) (s':G2) (E':XK),Room n (A'.deeper (envX q scope s'.heap.objs.size f cv cl))-> ∃t,PE (cxL CX0 P w K mg base N q scope f cv cl A' outer' s' H E') body t/\t σ H QT)/\
  ∀v H',QT v H'-> ∃d h',Kept H H'/\RelH K h' H'/\RelD K H' d v/\Qd (.tup [.str "told",d]) h')\/
  (∃RT:G9->Hp->Prop,(∀ (A':T3) (outer':G0 Env) (s':G2),Room n (A'.deeper (envX q scope s'.heap.objs.size f cv cl))-> ∀pins s2,Inv (cxL (CXR P w) P w K mg base N q scope f cv cl A' outer' s' H (λc _ H'=> ∃C,c= .ref C/\RT C H')) pins σ H s2->
   R3 (R7 P w) (A'.deeper (envX q scope s'.heap.objs.size f cv cl)) (J0 body (envX q scope s'.heap.objs.size f cv cl)) (λ_ _=>False) (cxL (CXR P w) P w K mg base N q scope f cv cl A' outer' s' H (λc _ H'=> ∃C,c= .ref C/\RT C H')).xe s2)/\
   ∀C H',RT C H'-> ∃c h',mg c=some (.ref C)/\c∈CN/\Kept H H'/\RelH K h' H'/\Qd (.tup [.str (vp c)]) h'))
abbrev N1:G0 Str:= ["_law_call","_law_found","_law_e","_law_word"]
theorem RoomU.mark {k:G7}{A:T3}{v:P4 G1}(r:RoomU k A):RoomU k (A.mark v):=⟨r.dp,r.un,r.gd⟩
theorem Pk {M:j0}{f:G9}(h:B6)(X: ∃o fd,h.get? f=some o/\o.data= .func fd): ∃k,(k=Keeper.frame\/k=Keeper.machine\/k=Keeper.boundFrame)/\Looks M h (keeperOf (.ref f)) k:=by
 obtain⟨o,fd,e,d⟩:=X;refine⟨.frame,.inl rfl,(IW (part:=none) e).andThen ?_⟩;rw [d];exact .now
theorem CF {P:R9}{w:N4}{K:G5}{mg:Str->P4 G1}{base:B6}{st:K8}{fs:G9}{fds:N5}{n:G7}{pe:G9}{p1 p2 p3 p4 p5 p6 p7 p8 p9 p10 p11:Pos}{j k:G7}{b0:K8}{suite:G0 K8}
 (F:Fun K "_law_said" "_law_said" st fs fds)(S:FnScope N1 ["_law_call"] (jd st))
 (hb:jK st= [.Try [.Assign [.Name "_law_found" p1] (.Call (.Name "_law_call" p2) [] [] p3) p4] [.ExceptHandler (some (.Name "PowerError" p5)) (some "_law_e") (b0::suite) p6] [] [] p7,.Return (some (.Tuple [.Constant (.str "told") j p8,.Name "_law_found" p9] k p10)) p11])
 (l0:(jd st).names.lookup ("_law_call" :Str)=some .local)(l1:(jd st).names.lookup ("_law_found" :Str)=some .local)(l2:(jd st).names.lookup ("_law_e" :Str)=some .local)(lp:(jd st).names.lookup ("PowerError" :Str)=some .globalImplicit)
 (hm:mg "PowerError" =some (.ref pe))(hex: ∀c∈CN,∀C,mg c=some (.ref C)->exmOne K (.ref C) (.ref pe)=some true)(tS:TSD)
 (hsuite: ∀ (cdv:G1) (A:T3) (outer:G0 Env) (s:G2) (H:Hp) (E:XK) (x:G9),RoomU n ((A.deeper (Q7 "_law_said" (jd st) s.heap.objs.size fs cdv)).mark (some (.ref x)))->JSs (cxH (ZN CX0 P w K mg base N1 "_law_said" (jd st) fs cdv A outer s H E) x) (b0::suite) tS)
 (hread: ∀c∈CN,∀ (C:G9) (h:HD) (Qd:KD),mg c=some (.ref C)->Qd (.tup [.str (vp c)]) h->tS {nx:=λ_ _=>False,rt:=λd h'=> ∃h2,Sub h2 h'/\Qd d h2} [none,none,some (.exc C),none] h):
 FnOkS P w K mg base CX0 (n+2) fs fds ["_law_call"] (UM P w K mg base n):=by
 obtain⟨oc,od,kV,doc,pm,an,cdv,ct,osl,rfl,lk,hcd⟩:=F.ex;refine Ac lk hcd S (λs vs H Q E h=> ?_) λA outer s H vs Q E hr hsp s1 I=> ?_
 ·obtain⟨f,_,_,_,_,_,_,_,_,_,_,_,_,_,rfl,_⟩:=h;rfl
 obtain⟨f,o,qual,pmv,cv,ctv,cl,q,N,σ,scope,body,h,Qd,rfl,ho,hod,hcf,hHf,L,C,rh,post,alt⟩:=hsp;have un:=I.base;obtain⟨sl,ho1⟩:=un.any ho hHf (by intro z;cases z);have C1:Cap N σ scope cl s1.heap H:=C.step un;have hr0:Room (n+1) (A.deeper (Q7 "_law_said" (jd st) s.heap.objs.size fs cdv)):=hr;rw [hb];have callee: ∀ {CX:CXT} {E':XK} {QT:VK} {t:TE} {Q2:G1->G2->Prop} {EE:G1->G2->Prop},PE (cxL CX P w K mg base N q scope f cv cl (A.deeper (Q7 "_law_said" (jd st) s.heap.objs.size fs cdv)) (Q7 "_law_said" (jd st) s.heap.objs.size fs cdv::outer) s1 H E') body t->t σ H QT->
  (∀r s2,CR CX (Q7 "_law_said" (jd st) s.heap.objs.size fs cdv::outer) P w H s1 QT E' r s2->match r with| .ok (.ret v)=>Q2 v s2| .ok _=>False| .error e=>EE e s2)->
  R3 (R7 P w) (A.deeper (Q7 "_law_said" (jd st) s.heap.objs.size fs cdv)) (J0 (.Call (.Name "_law_call" p2) [] [] p3) (Q7 "_law_said" (jd st) s.heap.objs.size fs cdv)) Q2 EE s1:=by
  intro CX E' QT t Q2 EE hbt ht hk;refine aZ ?_;obtain⟨m,hn,hl⟩:=I.loc;obtain⟨u,ru,l⟩:=hl 0 "_law_call" (.ref f) rfl rfl (.inl l0);cases ru;have hmm:m "_law_call" =some (.ref f):=by
   rcases l with ⟨_,e⟩|⟨kk,_⟩
   ·exact e
   ·rcases kk with kk|kk<;>(have k':(jd st).names.lookup ("_law_call" :Str)=_:=kk;rw [l0] at k';cases k')
  refine pU (oB S.kind l0 hn hmm ?_) (by decide);refine callWith_of (P:=λh=> ∃o fd,h.get? f=some o/\o.data= .func fd) rfl Pk (evalArgs_nil3 ⟨⟨_,_,ho1,hod⟩,?_⟩);exact aY (bY (Cv (CX:=CX) (k:=n) L hr0 I.env0 C1 ho1 hod hcf hbt ht) hk)
 refine aV (wpAny_Try_except ?_);refine aV (qG ?_ rfl);rcases alt with ⟨QT,hT,hQ⟩|⟨RT,hR,hQ⟩
 ·obtain⟨t,hbt,ht⟩:=hT (A.deeper (Q7 "_law_said" (jd st) s.heap.objs.size fs cdv)) (Q7 "_law_said" (jd st) s.heap.objs.size fs cdv::outer) s1 E0 (hr0.deeper _);refine callee hbt ht λr s2 hq=> ?_
  cases r with
  |error e=>exact False.elim hq
  |ok fl=>
   cases fl with
   |next=>exact False.elim hq
   |brk=>exact False.elim hq
   |cont=>exact False.elim hq
   |ret u=>
    obtain⟨v,H',I2,rv,qt⟩:=I.after hq;obtain⟨d,h',kp,rh',rd,qd⟩:=hQ v H' qt;refine wM I2 (i:=1) (x:= "_law_found") S.nd rfl (.inl l1) rv (λs3 I3=> ?_) (.inr l1);refine dB (dB ?_);have hret:JSs (ZN CX0 P w K mg base N1 "_law_said" (jd st) fs cdv A outer s H E) [.Return (some (.Tuple [.Constant (.str "told") j p8,.Name "_law_found" p9] k p10)) p11] (Qy (LK (zw (dC (.str "told")) (zw (Gi 1) We)))):=
     jV (yA (ya (jac Wf (jac (jv 1 rfl (.inl l1)) zk))))
    exact hret.to [] s3 _ H' _ I3 ⟨[none,some d,none,none],h',{nx:=λ_ _=>False,rt:=Qd},⟨rfl,λi d' e=>by
     match i,e with
     |0,e=>cases e
     |1,e=>cases e;exact⟨v,rfl,rd⟩
     |2,e=>cases e
     |3,e=>cases e
     |i+4,e=>simp at e⟩,rh',⟨_,rfl,(by show 2<=sizeLine;decide),qd⟩,λ_ _ _ _ _ _ _ z=>z.elim,jB post kp,λ_ _ _ _ _ _ _ z=>z.elim,λ_ _ _ _ _ _ _ z=>z.elim⟩
 ·refine callee (CX:=CXR P w) (E':=λc _ H'=> ∃C,c= .ref C/\RT C H') (QT:=λ_ _=>False) (t:=λσ' H' _=>σ'=σ/\H'=H)
   (λpins s2 σ' H' Q' I' ⟨e1,e2⟩=> ?_) ⟨rfl,rfl⟩ λr s2 hq=> ?_
  ·subst e1;subst e2;exact B1 (hR _ _ s1 (hr0.deeper _) pins s2 I') (λ_ _ z=>z.elim) λ_ _ z=>z
  cases r with
  |ok fl=>
   cases fl with
   |next=>exact False.elim hq
   |brk=>exact False.elim hq
   |cont=>exact False.elim hq
   |ret u=>obtain⟨_,_,_,_,_,_,_,z⟩:=hq;exact z.elim
  |error e=>
   obtain⟨x,C',H',rfl,os,bare,un2,hok,fl,C2,eC,rt⟩:=hq;cases eC;obtain⟨c,h',hmc,hcn,kp,rh',qd⟩:=hQ C' H' rt;have I2:=I.call' (ch:= []) os un2 hok bare (λb z=>absurd z (by simp));have f0: ∀b,s1.heap.get? b=none->s.heap.get? b=none:=λb nb=>by
    cases qq:s.heap.get? b with
    |none=>rfl
    |some o=>obtain⟨o',e⟩:=I.base.there b o qq (by intro z;cases z);rw [nb] at e;cases e
   have fl':Fly s.heap H' s2.heap x C':=by
    obtain⟨⟨oe,vs,a0,T,oT,ts,a1,a2,a3,a4,a5,a6,a7,a8,a9,a10,a11⟩,nx,n0⟩:=fl;exact⟨⟨oe,vs,a0,T,oT,ts,a1,a2,a3,a4,a5,a6,a7,a8,a9,a10,f0 _ a11⟩,nx,f0 _ n0⟩
   have hsu:=hsuite cdv A outer s H E x (RoomU.mark ((hr0.mono (IU n)).u));refine B1 (Mi (X:=ZN CX0 P w K mg base N1 "_law_said" (jd st) fs cdv A outer s H E) (σ:=start N1 [V.ref f]) (i:=2) (n:= "_law_e") (C:=C') (t:=LS K tS) (D:= {nx:=λ_ _=>False,rt:=Q}) ⟨rfl,rfl,rfl⟩ rfl S.nd rfl l2 lp hm (hex c hcn C' hmc) I2 fl' hsu.to λoe vs hc hd=> ?_) (λ_ s3 h3=>B1 h3 (λ_ s4 h4=>B1 h4 (λfl s5 h5=> ?_) λ_ _ z=>z) λ_ _ z=>z) λ_ _ z=>z
   ·refine⟨[none,none,some (.exc C'),none],h',_,⟨rfl,λi d' e=> ?_⟩,rh'.new fl'.nx,hread c hcn C' h' Qd hmc qd,λ_ _ _ _ _ _ _ z=>z.elim,λd v h2 H2 k2 rh2 rd ⟨h3,sb,q3⟩=>post d v h3 H2 ((kp.trans (.new fl'.nx)).trans k2) (rh2.sub sb) rd q3,λ_ _ _ _ _ _ _ z=>z.elim,λ_ _ _ _ _ _ _ z=>z.elim⟩
    match i,e with
    |0,e=>cases e
    |1,e=>cases e
    |3,e=>cases e
    |i+4,e=>simp at e
    |2,e=>cases e;exact⟨.ref x,rfl,x,oe,vs,rfl,jh,hc,hd⟩
   ·cases fl with
    |next=>obtain⟨_,_,_,z⟩:=h5;exact z.elim
    |brk=>obtain⟨_,_,_,z⟩:=h5;exact z.elim
    |cont=>obtain⟨_,_,_,z⟩:=h5;exact z.elim
    |ret u=>exact h5
def SB (tT:TED)(tR:TXD):TED:=λσ h Q=>tT σ h (λd h'=>Q (.tup [.str "told",d]) h')\/tR σ h (λc h'=>c∈CN/\Q (.tup [.str (vp c)]) h')
def dNo:TED:=λ_ _ _=>False
theorem jno {X:Cx}{e:N0}:JE X e dNo:=⟨λ_ _ _ _ _ _ ⟨_,_,_,_,_,z,_⟩=>z.elim⟩
def Tx (sc:Q1):T5:=sc.kind== .function&& !sc.isCoroutine&& !sc.isGenerator&&sc.names.all λy=>y.2 != .cell&&y.2 != .local
theorem Ae {sc:Q1}(hk:sc.kind= .function)(h:Tx sc=true):LamOk sc:=by
 unfold Tx at h;simp only [H0,dS,L0,bne_iff_ne,ne_eq] at h;exact⟨hk,h.1.1.2,h.1.2,λy hy=>h.2 y hy⟩
def Af (sc sc':Q1):T5:=sc.names.all λy=>y.2 != .free||(sc'.names.lookup y.1==some .cell||sc'.names.lookup y.1==some .free)
theorem CG {sc:Q1}{env:Env}(h:Af sc env.scope=true):Pf sc env:=λn hn=>by
 have:=L0.mp h _ hn;simp only [qU,Bool.false_or,bT,beq_iff_eq] at this;exact this
theorem SC {X:Cx}{n:G7}{fs:G9}{fds:N5}{scope:Q1}{body:N0}{lpos p pos:Pos}{tT:TED}{tR:TXD}{c P:G9}
 (F:FnOkS X.prog X.w X.K X.mg X.base CX0 (n+2) fs fds ["_law_call"] (UM X.prog X.w X.K X.mg X.base n))(hr:Room (n+2) X.A)(hg:Gl X "_law_said")(hm:X.mg "_law_said" =some (.ref fs))(hk:keepIn X.K (.ref fs)=true)(hb:Binds X.K fds ["_law_call"] [])
 (B:Bm X.mg X.base)(hcode:X.env.code= .ref c)(hc:codeHdIn X.K c P=true)(hTK:TabK X.K P)(L:LamOk scope)(hfr:Pf scope X.env)
 (hT: ∀ (q:Str) (cv:G1) (cl:G0 (Str×G9)) (f:G9) (A:T3) (outer:G0 Env) (s:G2) (H:Hp) (E:XK),Room n (A.deeper (envX q scope s.heap.objs.size f cv cl))->JE (cxL CX0 X.prog X.w X.K X.mg X.base X.N q scope f cv cl A outer s H E) body tT)
 (hR: ∀ (q:Str) (cv:G1) (cl:G0 (Str×G9)) (f:G9) (A:T3) (outer:G0 Env) (s:G2) (H:Hp) (E:XK),Room n (A.deeper (envX q scope s.heap.objs.size f cv cl))->JXE (cxL (CXR X.prog X.w) X.prog X.w X.K X.mg X.base X.N q scope f cv cl A outer s H E) body tR)
 (he:D7 [Expr.Lambda ZR body scope lpos] X.env=(false,J0 (.Lambda ZR body scope lpos) X.env)::D7 [] X.env:=by rfl)(hpl:(K7 pos (D7 [] X.env)).any (·.1)=false:=by rfl):
 JE X (.Call (.Name "_law_said" p) [.Lambda ZR body scope lpos] [] pos) (SB tT tR):=⟨λpins s σ H Q I ⟨σd,h,Qd,rs,rh,alt,post⟩=>by
 refine aZ (vM I hg hm ?_ (by decide));refine kQ (h₀:=X.base) I.ok.mod.kin hk ?_ he hpl;rw [he];obtain⟨ps,hP,hps⟩:=rh.tb P hTK;have hcl:kX scope X.env=pure (Js X.env.cells scope.names []):=Zm λn hn=>I.ok.has n (hfr n hn)
 refine kP (Mb I B hcode hc hP hps hcl λf q qual pm cv ctv H1 h1 tk I1 kp lsts tbls Tv hf hcf hHf _ _ _=>lO ⟨I1.kIn,?_⟩);have rh1:RelH X.K h H1:=⟨λa ds e=>by
  obtain⟨vs,e1,e2⟩:=rh a ds e;exact⟨vs,lsts _ _ e1 (by intro _ z;cases z),e2.mono kp⟩,λP' hP'=>by
  by_cases z:P'=P
  ·subst z;exact Tv
  ·obtain⟨ps',e1,e2⟩:=rh.tb P' hP';exact⟨ps',tbls _ _ e1 z,e2.mono kp.frz⟩,λa c e=>(rh.dc a c e).mono kp λo w=>by
  obtain⟨u,w',d⟩:=(rh.dc a c e).obj;rw [w] at w';cases w';exact lsts _ _ w d.no.2.2.2.2⟩
 have rs1:RelS X.K H1 σd σ:=rs.mono kp;refine CB (us:= [.ref f]) (vs:= [.ref f]) (dvs:= []) (ds:= []) (E:=E0) F hr hb .nil Bp I1 (.cons rfl .nil) ?_;refine⟨f,_,qual,pm,cv,ctv,Js X.env.cells scope.names [],q,X.N,σ,scope,body,h,Qd,rfl,hf,rfl,hcf,hHf,L,Cap.of I1 hfr,rh1,jB post kp,?_⟩;rcases alt with t|t
 ·refine .inl ⟨λv H'=> ∃d h',Kept H1 H'/\RelH X.K h' H'/\RelD X.K H' d v/\Qd (.tup [.str "told",d]) h',λA' outer' s' E' hr'=>⟨_,(hT q cv _ f A' outer' s' H1 E' hr').to,σd,h,_,rs1,rh1,t,λd v h' H' k r1 r2 q=>⟨d,h',k,r1,r2,q⟩⟩,λv H' q=>q⟩
 ·refine .inr ⟨λC H'=> ∃c h',X.mg c=some (.ref C)/\c∈CN/\Kept H1 H'/\RelH X.K h' H'/\Qd (.tup [.str (vp c)]) h',λA' outer' s' hr' pins2 s2 I2=> ?_,λC H' q=>q⟩;exact(hR q cv _ f A' outer' s' H1 _ hr').to _ Aa pins2 s2 σ H1 σd h _ I2 rs1 rh1 t λc C h' H' k rh' hmc ⟨hcn,qq⟩=>⟨C,rfl,c,h',hmc,hcn,k,rh',qq⟩⟩
variable {K:Frag}{x:Str}
theorem Mj {f c P:G9}{oc:G1}{od:P4 G9}{fd:N5}{osl:S6 (P4 G1)}(a:nsIn K mainGlobals x=some (some (.ref f)))(l:K.lookup f=some ⟨oc,od,.func fd,osl⟩)(t:tabIn K x=some (c,P)):fd.code= .ref c:=by
 unfold tabIn at t;rw [a] at t;simp only [l] at t;split at t
 ·rename_i c' hc';split at t
  ·split at t
   ·cases t;exact hc'
   ·cases t
  ·cases t
 ·cases t
def CN13:G0 Str:= ["NoTable","NoPlace","NoNumber","NoOrder","NoSet","NoWalk","NoLengths","NoWay","Apart","NoRow","NoTables","NoText","TooGreat"]
def adr (K:Frag)(x:Str):P4 G9:=match nsIn K mainGlobals x with
 |some (some (.ref a))=>some a
 |_=>none
def Mk (K:Frag)(C:G9):T5:=(clsIn K C).isSome&&findIn K (.ref C) "__getattribute__" ==some (some (.builtin "BaseException.__getattribute__"))&&findIn K (.ref C) "__getattr__" ==some none
 &&findIn K (.ref C) "__class__" ==some (some (.builtin "object.__class__"))&&specialIn K (.builtin "object.__class__") "__get__" ==some (some (.builtin "getset_descriptor.__get__"))
 &&takesIn K (.builtin "object.__class__")==some true&&mroIn K C (.type "object")==some true&&mroIn K C (.type "BaseException")==some true
theorem CH {C:G9}(h:Mk K C=true):ExcK K C:=by
 unfold Mk at h;simp only [H0,beq_iff_eq] at h;obtain⟨⟨⟨⟨⟨⟨⟨a,b⟩,c⟩,d⟩,e⟩,f⟩,g⟩,i⟩:=h;exact⟨a,b,c,d,e,f,g,i⟩
def Nz (K:Frag)(c:Str):T5:=match adr K c,adr K "PowerError" with
 |some C,some pe=>excIn K C bmV "ValueError.__new__" &&Mk K C&&kitOne K (.ref C) (.type "ValueError")==some true&&exmOne K (.ref C) (.ref pe)==some true&&CN13.all λd=>match adr K d with
  |some D=>kitOne K (.ref C) (.ref D)==some (c==d)
  |none=>false
 |_,_=>false
def SE (K:Frag):T5:=CN.all (Nz K)&&CN13.all (λd=>(adr K d).isSome)&&(adr K "PowerError").isSome&&nsIn K mainGlobals "ValueError" ==some none
structure Exc (K:Frag)(mg:Str->P4 G1):Prop where
 own: ∀c∈CN,OwnX K mg c
 ek: ∀c∈CN,∀C,mg c=some (.ref C)->ExcK K C
 kit: ∀c∈CN,∀d∈CN13,∀C D,mg c=some (.ref C)->mg d=some (.ref D)->kitOne K (.ref C) (.ref D)=some (c==d)
 val: ∀c∈CN,∀C,mg c=some (.ref C)->kitOne K (.ref C) (.type "ValueError")=some true
 pe: ∃pe,mg "PowerError" =some (.ref pe)/\ ∀c∈CN,∀C,mg c=some (.ref C)->exmOne K (.ref C) (.ref pe)=some true
 cls: ∀d∈CN13,∃D,mg d=some (.ref D)
 ve:mg "ValueError" =none
theorem UN {h:B6}{mg:Str->P4 G1}{a:G9}(X:K.In h)(G:h.Ns mainGlobals mg)(e:adr K x=some a):mg x=some (.ref a):=by
 unfold adr at e;split at e
 ·rename_i q;cases e;exact mg_of X G q
 ·cases e
theorem Ag {a:G9}(e:adr K x=some a):nsIn K mainGlobals x=some (some (.ref a)):=by
 unfold adr at e;split at e
 ·rename_i q;cases e;exact q
 ·cases e
theorem Ah {h:B6}{mg:Str->P4 G1}(X:K.In h)(G:h.Ns mainGlobals mg)(e:SE K=true):Exc K mg:=by
 unfold SE at e;simp only [H0,L0,beq_iff_eq] at e;obtain⟨⟨⟨e1,e2⟩,e3⟩,e4⟩:=e;obtain⟨pe,hpe⟩:=W0.mp e3;have A: ∀c∈CN,∃C,adr K c=some C/\mg c=some (.ref C)/\excIn K C bmV "ValueError.__new__" =true/\Mk K C=true/\kitOne K (.ref C) (.type "ValueError")=some true/\exmOne K (.ref C) (.ref pe)=some true/\ ∀d∈CN13,∀D,adr K d=some D->kitOne K (.ref C) (.ref D)=some (c==d):=λc hc=>by
  have q:=e1 c hc;unfold Nz at q;rw [hpe] at q;split at q
  ·rename_i C pe' h1 h2;cases h2;simp only [H0,L0,beq_iff_eq] at q;obtain⟨⟨⟨⟨q1,q2⟩,q3⟩,q4⟩,q5⟩:=q;refine⟨C,h1,UN X G h1,q1,q2,q3,q4,λd hd D hD=> ?_⟩;have:=q5 d hd;rw [hD] at this;simpa using this
  ·cases q
 have same: ∀ {c:Str} {C C':G9},mg c=some (.ref C)->mg c=some (.ref C')->C=C':=λa b=>by rw [a] at b;cases b;rfl
 refine⟨λc hc=> ?_,λc hc C h=> ?_,λc hc d hd C D h1 h2=> ?_,λc hc C h=> ?_,⟨pe,UN X G hpe,λc hc C h=> ?_⟩,λd hd=> ?_,mg_none_of X G e4⟩
 ·obtain⟨C,a,m,q,_⟩:=A c hc;exact⟨C,m,Ag a,q⟩
 ·obtain⟨C',_,m,_,q,_⟩:=A c hc;cases same h m;exact CH q
 ·obtain⟨C',_,m,_,_,_,_,q⟩:=A c hc;cases same h1 m;obtain⟨D',hD⟩:=W0.mp (e2 d hd);cases same h2 (UN X G hD);exact q d hd D hD
 ·obtain⟨C',_,m,_,_,q,_⟩:=A c hc;cases same h m;exact q
 ·obtain⟨C',_,m,_,_,_,q,_⟩:=A c hc;cases same h m;exact q
 ·obtain⟨D',hD⟩:=W0.mp (e2 d hd);exact⟨D',UN X G hD⟩
section
variable {P:R9}{w:N4}{K:G5}{mg:Str->P4 G1}{base:B6}
theorem Fun.okJL {x qual:Str}{st:K8}{f c Pt:G9}{fd:N5}{N ps:G0 Str}{k:G7}{spd:RDn}(F:Fun K x qual st f fd)(a:nsIn K mainGlobals x=some (some (.ref f)))(T:tabIn K x=some (c,Pt))(S:FnScope N ps (jd st))(len: ∀ds h Q,spd ds h Q->ds.length=ps.length)
 (tb:TSD)(hbody: ∀ (A:T3) (outer:G0 Env) (s:G2) (H:Hp) (E:XK),Room k (A.deeper (Q7 qual (jd st) s.heap.objs.size f (.ref c)))->JSs (ZN CX0 P w K mg base N qual (jd st) f (.ref c) A outer s H E).nox (jK st) tb)
 (read: ∀ds h Q,spd ds h Q->tb (VA Q) (jU N ds) h):FnOk P w K mg base CX0 (k+1) f fd ps (LSp K spd):=by
 obtain⟨oc,od,kV,doc,pm,an,cdv,ct,osl,rfl,lk,hcd⟩:=F.ex;have e:cdv= .ref c:=Mj a lk T;subst e;refine Bj lk hcd S (λvs H Q E h=> ?_) λA outer s H vs Q E hr h=> ?_
 ·obtain⟨ds,h,Qd,r,rh,q,p⟩:=h;rw [<-r.length];exact len _ _ _ q
 ·obtain⟨ds,h,Qd,r,rh,q,p⟩:=h;refine⟨_,((hbody A outer s H E hr).to).nox,jU N ds,h,VA Qd,yu r,rh,read ds h Qd q,λσd' h' σ' H' k rs' rh' ⟨h2,sb,q'⟩=>p .non .non h2 H' k (rh'.sub sb) rfl q',λd v h' H' k rh' r' ⟨h2,sb,q'⟩=>p d v h2 H' k (rh'.sub sb) r' q',λ_ _ _ _ _ _ _ z=>z.elim,λ_ _ _ _ _ _ _ z=>z.elim⟩
end
def Ai (P:R9)(w:N4)(K:G5)(mg:Str->P4 G1)(base:B6)(n:G7):Prop:=
 ∃ (g:G9) (gd:N5),FnOkS P w K mg base CX0 (n+2) g gd ["_law_call"] (UM P w K mg base n)/\Binds K gd ["_law_call"] []/\Q4 K (.ref g)=true/\mg "_law_said" =some (.ref g)
def CI (K:Frag)(x:Str):T5:=match tabIn K x with
 |some p=>codeHdIn K p.1 p.2
 |none=>false
theorem CJ (h:CI K x=true): ∃c P,tabIn K x=some (c,P)/\codeHdIn K c P=true:=by
 unfold CI at h;split at h
 ·rename_i p e;exact⟨p.1,p.2,e,h⟩
 ·cases h
def Pl (mg:Str->P4 G1):RDn:=λds h Q=> ∃c C,ds= [.exc C]/\c∈CN/\mg c=some (.ref C)/\ ∀h',Sub h h'->Q (.str (vp c)) h'
end L2
namespace L2
open PySem PySem.Spec PyProof.Rows PySem.SeqAt
section
variable {n e:G7}{T:G0 (G0 D3)}
instance (k i j:G7):Decidable (RP n T k i j):=inferInstanceAs (Decidable (ent (XM n T k) i j≠0))
end
end L2
namespace L2
open PySem PySem.Spec PyProof.Rows
def TrV (K:G5)(H:Hp):V->T5->Prop
 | .bl b,c=>c=b
 | .int i,c=>c=(i !=0)
 | .non,c=>c=false
 | .ref a,c=> ∃xs,SqL K H a xs/\c= !xs.isEmpty
 |_,_=>False
def TrD (h:HD):D->T5->Prop
 | .bl b,c=>c=b
 | .int i,c=>c=(i !=0)
 | .non,c=>c=false
 | .lst a,c=> ∃ds,h a=some ds/\c= !ds.isEmpty
 |_,_=>False
theorem TrD.to {K:G5}{H:Hp}{h:HD}{d:D}{v:V}{c:T5}(t:TrD h d c)(r:RelD K H d v)(rh:RelH K h H):TrV K H v c:=by
 cases d<;>try exact t.elim
 ·have e:v= .non:=r;subst e;exact t
 ·have e:v= .bl _:=r;subst e;exact t
 ·have e:v= .int _:=r;subst e;exact t
 ·obtain⟨e,_⟩:=r;subst e;obtain⟨ds,hd,e⟩:=t;obtain⟨vs,hv,r'⟩:=rh _ ds hd;refine⟨vs,SqL.of hv,?_⟩;rw [e];have:=r'.length;cases ds<;>cases vs<;>first|rfl|(simp at this)
section
variable {X:Cx}{pins:G0 (G9×Obj)}{σ:St}{H:Hp}{s:G2}{E:G1->G2->Prop}
theorem Inv.trv {v:V}{u:G1}{c:T5}{Q:T5->G2->Prop}(I:Inv X pins σ H s)(r:RelV v u)(t:TrV X.K H v c)(q: ∀s',Inv X pins σ H s'->Q c s'):R3 (R7 X.prog X.w) X.A (rD u) Q E s:=by
 cases v<;>try exact t.elim
 ·have e:u=f6:=r;subst e;have e:c=false:=t;subst e;exact truthy_none (q _ I)
 ·have e:u=iK _:=r;subst e;have e:c=_:=t;subst e;exact J4 (q _ I)
 ·obtain⟨t',e⟩:=r;subst e;have e:c=_:=t;subst e;exact truthy_int (q _ I)
 ·have e:u=dL _:=r;subst e;obtain⟨xs,hx,e⟩:=t;obtain⟨its,rv,p,hz⟩:=I.list hx;have hl:=rv.length;have e2:c= !its.toArray.isEmpty:=by
   rw [e];cases xs<;>cases its<;>first|rfl|(simp at hl)
  refine wpAny_truthy_list p.isList ?_ ?_
  ·have:xs.length<=16777216:=S0 hz (by decide);simp only [R5];have e3:((2:D3)^63)=9223372036854775808:=by decide
   rw [e3];omega
  ·rw [<-e2];exact q _ (I.tok _)
end
section
variable {X:Cx}{a b:N0}{rest:G0 N0}{pos:Pos}
def Ty (K:G5)(t:TE):TT:=λσ H Q=>t σ H λx H1=> ∃c,TrV K H1 x c/\Q c H1
theorem Aj {e:N0}{t:TE}(h:PE X e t)(he: ∀whole,isTrue e X.env whole=(do let v <-whole;lN e.pos;bL [v] (rD v)):=by intro _;rfl):PT X e (Ty X.K t):=by
 intro pins s σ H Q I hw;refine xZ (thn (h pins s σ H _ I hw) λv s1 ⟨x,H1,I1,r1,q1⟩=> ?_) (he _);obtain⟨c,t1,q⟩:=q1;exact I1.trv r1 t1 λs' I'=>⟨H1,I',q⟩
def Tz (t:TED):TTD:=λσ h Q=>t σ h λx h1=> ∃c,TrD h1 x c/\Q c h1
variable {K:G5}
theorem Ak {t:TED}: ∀σ H Q,LT K (Tz t) σ H Q->Ty K (LE K t) σ H Q:=λσ H Q ⟨σd,h,Qd,rs,rh,t,p⟩=>
 LE.bind rs rh t λd v h1 H1 k1 rs1 rh1 r1 ⟨k,e,q⟩=>⟨k,e.to r1 rh1,p k h1 H1 k1 rh1 q⟩
theorem SF {ta:TED}(ha:JE X a ta)(he: ∀whole,isTrue a X.env whole=(do let v <-whole;lN a.pos;bL [v] (rD v)):=by intro _;rfl):JT X a (Tz ta):=⟨(Aj ha.to he).imp Ak⟩
end
end L2
namespace L2
open PySem PySem.Spec PyProof.Rows PySem.SeqAt
section
variable {n e:G7}{T:G0 (G0 D3)}
theorem WS (h:Sq n e T)(hn:n<=8){a b i j k:G7}(hi:i<n)(hk:k<n)(hj:j<n)(x:RP n T a i k)(y:RP n T b k j):RP n T (a+b) i j:=(YO h hn a b hi hj).mpr ⟨k,hk,x,y⟩
theorem YS (h:Sq n e T)(hn:n<=8){i j:G7}:RP n T 1 i j↔ent T i j≠0:=by unfold RP;rw [Ch h hn]
end
end L2
namespace HT
open PySem PySem.Spec PyProof.Rows
variable {j:G7}
theorem WT {xs:S6 G7}(r:xs.toList.Pairwise (· < ·)): ∀ (fuel lo hi:G7),hi-lo<=fuel->hi<=xs.size->lo<=hi->(∀i,i<lo-> ∀v,xs[i]? =some v->v<j)->(∀i,hi<=i-> ∀v,xs[i]? =some v->j<=v)->
 (∀i,i<g5 xs j fuel lo hi-> ∀v,xs[i]? =some v->v<j)/\(∀i,g5 xs j fuel lo hi<=i-> ∀v,xs[i]? =some v->j<=v)/\g5 xs j fuel lo hi<=xs.size
 |0,lo,hi,f,hs,lh,a,b=>by
  have:lo=hi:=by omega
  subst this;exact⟨a,b,hs⟩
 |fuel+1,lo,hi,f,hs,lh,a,b=>by
  unfold g5
  by_cases c:lo<hi
  ·rw [R6 c];have hm:(lo+hi) / 2<xs.size:=by omega
   have mono: ∀ (i k u v:G7),i<=k->xs[i]? =some u->xs[k]? =some v->u<=v:=λi k u v ik e1 e2=>by
    rcases K1 i k with z|z
    ·have i1:=(O7.mp e1);have i2:=(O7.mp e2);obtain⟨h1,e1'⟩:=i1;obtain⟨h2,e2'⟩:=i2;have:=O3.mp r i k (by simpa using h1) (by simpa using h2) z;simp only [eL] at this;omega
    ·have:i=k:=by omega
     subst this;rw [e1] at e2;cases e2;exact P3 _
   have em:xs.getD ((lo+hi) / 2) j=xs[(lo+hi) / 2]:=by simp [uO,hm]
   dsimp only
   by_cases d:xs.getD ((lo+hi) / 2) j<j
   ·rw [R6 d];refine WT r fuel _ hi (by omega) hs (by omega) (λi hi' v hv=> ?_) b;have:=mono i ((lo+hi) / 2) v xs[(lo+hi) / 2] (by omega) hv (by simp [hm]);omega
   ·rw [R8 d];refine WT r fuel lo _ (by omega) (by omega) (by omega) a (λi hi' v hv=> ?_);have:=mono ((lo+hi) / 2) i xs[(lo+hi) / 2] v hi' (by simp [hm]) hv;omega
  ·rw [R8 c];have:lo=hi:=by omega
   subst this;exact⟨a,b,hs⟩
theorem vq {xs:S6 G7}(r:xs.toList.Pairwise (· < ·))(j:G7):(∀i,i<T7 xs j-> ∀v,xs[i]? =some v->v<j)/\(∀i,T7 xs j<=i-> ∀v,xs[i]? =some v->j<=v)/\T7 xs j<=xs.size:=
 WT r xs.size 0 xs.size (by omega) (P3 _) (M7 _) (λi h=>absurd h (aN _)) (λi h v e=>by rw [nE h] at e;cases e)
theorem Zo {xs:S6 G7}(r:xs.toList.Pairwise (· < ·))(no:xs[T7 xs j]? ≠some j):(X2 xs (T7 xs j) j).toList.Pairwise (· < ·):=by
 obtain⟨a,b,hs⟩:=vq r j;rw [fT,B7,K9];have low: ∀v∈xs.toList.take (T7 xs j),v<j:=λv hv=>by
  obtain⟨i,hi⟩:=Z9 hv;rw [pY] at hi;split at hi
  ·rename_i c;exact a i c v (by simpa using hi)
  ·cases hi
 have high: ∀v∈xs.toList.drop (T7 xs j),j<v:=λv hv=>by
  obtain⟨i,hi⟩:=Z9 hv;rw [Y6] at hi;have hi':xs[T7 xs j+i]? =some v:=by simpa using hi
  have le:=b _ (Y7 _ _) v hi';rcases K1 j v with z|z
  ·exact z
  ·have ev:v=j:=by omega
   subst ev;cases i with
   |zero=>exact(no hi').elim
   |succ i=>
    obtain⟨h1,e1⟩:=O7.mp hi';have h0:T7 xs v<xs.size:=by omega
    have le0:=b _ (P3 _) xs[T7 xs v] (by simp [h0]);have lt:=O3.mp r (T7 xs v) (T7 xs v+(i+1)) (by simpa using h0) (by simpa using h1) (by omega);simp only [eL] at lt;omega
 exact⟨r.sublist (aG _ _),⟨high,r.sublist (V8 _ _)⟩,λu hu v hv=>by
  rcases D2.mp hv with e|e
  ·rw [e];exact low u hu
  ·exact cB (low u hu) (high v e)⟩
structure Tab (L:T5)(n:G7)(t:T6):Prop where
 fits:t.fits n=true
 led:t.led=L
 dum:t.dummies= #[]
 rise:t.plain=true\/n<=1->t.place.toList.Pairwise (· < ·)
theorem Ml {xs:G0 G7}(h:xs.length<=1):xs.Pairwise (· < ·):=by
 match xs,h with
 | [],_=>exact .nil
 | [x],_=>exact E5 _ _
variable {t:T6}
theorem Wm {n:G7}(h:t.fits n=true):t.place.size=n:=by
 simp only [xG,H0,beq_iff_eq] at h;exact h.1
variable {L:T5}
theorem Tab.mk' {n:G7}(f:t.fits n=true)(l:t.led=L)(d:t.dummies= #[])(r:t.plain=true->t.place.toList.Pairwise (· < ·)):Tab L n t:=
 ⟨f,l,d,λh=>h.elim r λz=>Ml (by have:=Wm f;simpa [this] using z)⟩
theorem Wn (h:t.slot j= .empty):t.place[T7 t.place j]? ≠some j:=λe=>by
 unfold mK at h;dsimp only at h;rw [R6 (by rw [e];exact W7 _)] at h;cases h
theorem vV (d:t.dummies= #[]):t.slot j≠ .dummy:=λh=>by
 unfold mK at h;dsimp only at h;split at h
 ·cases h
 ·rw [d] at h;have:eZ #[] j=false:=by unfold eZ;simp
  rw [this] at h;cases h
theorem Zp {f:G7->D3}{h:D3}(d:t.dummies= #[]): ∀ (fuel:G7) (p:U5) {j:G7} {dm:P4 G7},p.dummy=none->U0 t f h fuel p=some (.empty j dm)->t.slot j= .empty/\dm=none
 |0,p,j,dm,_,e=>by cases e
 |fuel+1,p,j,dm,hp,e=>by
  unfold U0 at e;have adv:(t.advance p).dummy=none:=by
   unfold Y8;split
   ·exact hp
   ·exact hp
  split at e
  ·rename_i hs;injection e with e;injection e with e1 e2;subst e1;exact⟨hs,by rw [<-e2];exact hp⟩
  ·rename_i hs;exact(vV d hs).elim
  ·split at e
   ·cases e
   ·exact Zp d fuel _ adv e
variable {es:S6 (D3×G1)}
theorem XX (T:Tab L es.size t)(h:D3)(x:G1):Tab L (G0g t es h x).1.size (G0g t es h x).2.1:=by
 have fit:=layNew_fits t es h x;revert fit;unfold G0g;cases e:t.freeSlot h with
 |none=>intro fit;exact .mk' fit T.led rfl λz=>by cases z
 |some q=>
  obtain⟨slot,wd⟩:=q;intro fit;have ne:t.place[T7 t.place slot]? ≠some slot:=by
   unfold G0t at e;split at e
   ·rename_i j dm hp;obtain⟨he,hd⟩:=Zp T.dum _ _ rfl hp;injection e with e;injection e with e1 e2
    subst hd;rw [<-e1];exact Wn he
   ·cases e
  refine .mk' fit ?_ ?_ ?_
  ·show (Y9 _ _).led=L;unfold Y9;split
   ·exact T.led
   ·exact T.led
  ·show (Y9 _ _).dummies= #[];unfold Y9;split
   ·show (if eZ t.dummies slot then _ else t.dummies)= #[];rw [T.dum];have:eZ #[] slot=false:=by unfold eZ;simp
    rw [this];rfl
   ·rfl
  ·show (Y9 _ _).plain=true->(Y9 _ _).place.toList.Pairwise (· < ·);unfold Y9;split
   ·intro z;exact Zo (T.rise (.inl z)) ne
   ·intro z;cases z
theorem Jx (f:G7->P4 G7): ∀l:G0 G7,((l.filterMap λj=>(f j).map (j,·)).map (·.1)).Sublist l
 | []=> .slnil
 |j::l=>by
  rw [X6];cases e:(f j).map (j,·) with
  |none=>exact(Jx f l).cons _
  |some q=>
   obtain⟨v,_,rfl⟩:=A5.mp e;exact(Jx f l).cons₂ _
theorem YT (T:Tab L es.size t)(wanted:G7):Tab L (uP t es wanted).1.size (uP t es wanted).2.1:=by
 have fit:=relayAll_fits t es wanted;revert fit;unfold uP;cases e:t.relaid (es.map (·.1)) wanted with
 |none=>intro fit;exact .mk' fit T.led rfl λz=>by cases z
 |some q=>
  obtain⟨t',order⟩:=q;dsimp only;split
  ·intro fit;unfold G0F pR at e;cases ho:l8 (J8 wanted-1) (es.map (·.1)) with
   |none=>rw [ho] at e;cases e
   |some owner=>
    rw [ho] at e;injection e with e;injection e with e1 e2
    subst e1;refine .mk' fit T.led rfl λ_=> ?_
    show List.Pairwise (· < ·) (iW _ _).toArray.toList;rw [List.toList_toArray];exact G0.pairwise_lt_range.sublist (Jx (λj=>owner.getD j none) _)
  ·intro fit;exact .mk' fit T.led rfl λz=>by cases z
abbrev zE (es:S6 (D3×G1))(ep:G7)(t:T6):Obj:= {cls:= .type "set",dict:=none,data:= .set es ep t,slots:= #[]}
def Mm (e:D3×G1):D3:=match e.2 with
 | .int n _=>n
 |_=>0
structure SetI (L:T5)(es:S6 (D3×G1))(t:T6)(ns:G0 D3):Prop where
 tab:Tab L es.size t
 nums: ∀e∈es.toList,∃n tk,e=(m5 n,.int n tk)
 nd:(es.toList.map Mm).Nodup
 mem: ∀n,n∈es.toList.map Mm↔n∈ns
theorem Jy: ∀ {xs ys:G0 D3},xs.Nodup->(∀x∈xs,x∈ys)->xs.length<=ys.length
 | [],_,_,_=>M7 _
 |x::xs,ys,nd,h=>by
  have hx:=h x (.head _);obtain⟨n1,n2⟩:=E6.mp nd;have:=Jy (ys:=ys.erase x) n2 λy hy=>(cH (λ(e:y=x)=>n1 (by rw [<-e];exact hy))).mpr (h y (.tail _ hy))
  rw [W1 hx] at this;have:=X1 hx;rw [D8];omega
variable {ns:G0 D3}
theorem SetI.size (S:SetI L es t ns):es.size<=ns.length:=by
 have h:=Jy S.nd λn hn=>(S.mem n).mp hn
 simpa using h
theorem SetI.els (S:SetI L es t ns)(prog:R9)(w:N4):ElemsOf (intKind prog w) es.toList:=λe he=>by
 obtain⟨n,tk,rfl⟩:=S.nums e he;exact⟨⟨n,by simp [intKind,dZ],rfl⟩,rfl⟩
theorem SetI.perm {es':S6 (D3×G1)}{t':T6}(S:SetI L es t ns)(p:es'.toList.Perm es.toList)(T:Tab L es'.size t'):SetI L es' t' ns:=
 ⟨T,λe he=>S.nums e (p.mem_iff.mp he),(p.map Mm).nodup_iff.mpr S.nd,λn=>((p.map Mm).mem_iff).trans (S.mem n)⟩
theorem SetI.push {es':S6 (D3×G1)}{t':T6}{n:D3}{tk:Tok}(S:SetI L es t ns)(hn:n ∉ ns)(p:es'.toList.Perm (es.push (m5 n,.int n tk)).toList)(T:Tab L es'.size t'):SetI L es' t' (n::ns):=by
 have pk:=p.map Mm;rw [U1,B3] at pk;refine⟨T,λe he=> ?_,pk.nodup_iff.mpr ?_,λm=>(pk.mem_iff).trans ?_⟩
 ·have:=p.mem_iff.mp he;rw [U1] at this;rcases T8.mp this with z|z
  ·exact S.nums e z
  ·exact⟨n,tk,P1.mp z⟩
 ·rw [cI];refine⟨S.nd,by simp,λx hx y hy e=> ?_⟩;have:y=n:=by simpa [Mm] using hy
  subst this;subst e;exact hn ((S.mem _).mp hx)
 ·rw [T8,S.mem m];simp [Mm,or_comm]
section
variable {prog:R9}{w:N4}{A:T3}{E:G1->G2->Prop}{s:G2}{a:G9}{L:T5}{es:S6 (D3×G1)}{ep:G7}{t:T6}{ns:G0 D3}{n:D3}{tk:Tok}
theorem Pm {Q:T5->G2->Prop}(S:SetI L es t ns)(ho:s.heap.get? a=some (zE es ep t))(few:ns.length<1000)
 (k: ∀b es' ep' t' h',SetI L es' t' (n::ns)->h'.get? a=some (zE es' ep' t')->L9 a s.heap h'->Q b {s with heap:=h',toks:=s.toks+1}):R3 (R7 prog w) A (setAdd a (.int n tk)) Q E s:=by
 have sz:=S.size;have is:(intKind prog w).is n (.int n tk)=true:=by simp [intKind,dZ]
 have scan:byScan (.int n tk) es=true:=byScan_of (knd:=intKind prog w) rfl (Y4 sz (cB few (by decide))) (S.els prog w);refine L5 (wpAny_bind (q0 (L5 ?_)));show R3 _ _ (g6 a (.int n tk) (m5 n) (99999+1)) _ _ _;unfold g6;refine wpAny_bind (A0 (s:= {s with toks:=s.toks+1}) ho rfl S.tab.fits ?_);dsimp only;rw [R6 scan];refine wpAny_bind ?_;unfold setAddByScan;refine wpAny_bind (iM (wpAny_bind (wpAny_setScan_of (s:= {s with toks:=s.toks+1}) (knd:=intKind prog w) is ho rfl S.tab.fits (S.els prog w) ?_)));have none_iff:es.toList.findIdx? (λe=>(intKind prog w).is n e.2)=none↔n ∉ ns:=by
  rw [List.findIdx?_eq_none_iff,<-S.mem n];constructor
  ·intro z hn;obtain⟨e,he,ek⟩:=S4.mp hn;obtain⟨m,tk',rfl⟩:=S.nums e he;have:m=n:=ek;subst this;have:=z _ he;simp [intKind,dZ] at this
  ·intro z e he;obtain⟨m,tk',rfl⟩:=S.nums e he;have:m≠n:=λq=>z (S4.mpr ⟨_,he,q⟩)
   simp [intKind,dZ,this]
 cases hf:es.toList.findIdx? (λe=>(intKind prog w).is n e.2) with
 |some j=>
  have hin:n∈ns:=fE λz=>by rw [none_iff.mpr z] at hf;cases hf
  refine G8 (G8 (k false es ep t s.heap ⟨S.tab,S.nums,S.nd,λm=>(S.mem m).trans ?_⟩ ho (cC _ _)));constructor
  ·exact λz=> .tail _ z
  ·intro z;rcases D2.mp z with e|e
   ·rw [e];exact hin
   ·exact e
 |none=>
  have hn:=none_iff.mp hf;have p1:=layNew_perm t es (m5 n) (.int n tk);have T1:=XX S.tab (m5 n) (.int n tk);cases hl:G0g t es (m5 n) (.int n tk) with
  |mk es1 r1=>
   obtain⟨t1,wd,gave⟩:=r1;rw [hl] at p1 T1;have S1:=S.push hn p1 T1;have z1:es1.size<=sizeLine:=S0 S1.size (S0 (show (n::ns).length<=1000 by simp;omega) (by decide));have hb:iY 8 (.int n tk)=pure true:=rfl;have put:=λ{P:Unit->G2->Prop} {E':G1->G2->Prop} (k': ∀h',h'.get? a=some (zE es1 (ep+1) t1)->L9 a s.heap h'->P () {s with heap:=h',toks:=s.toks+1})=>
    l9 (prog:=prog) (w:=w) (A:=A) (E:=E') (s:= {s with toks:=s.toks+1}) (es':=es1) (t':=t1) ho rfl (k' _ (B2 _ ho rfl) (C7 ..)) z1
   have p2:=relayAll_perm t1 es1 (aA es1.size);have T2:=YT (es:=es1) S1.tab (aA es1.size);cases hr:uP t1 es1 (aA es1.size) with
   |mk es2 r2=>
    obtain⟨t2,gave2⟩:=r2;rw [hr] at p2 T2;have S2:=S1.perm p2 T2;have z2:es2.size<=sizeLine:=S0 S2.size (S0 (show (n::ns).length<=1000 by simp;omega) (by decide));have e1:(s.heap.update a (iP es1 t1)).get? a=some (zE es1 (ep+1) t1):=B2 _ ho rfl;have same1:L9 a s.heap (s.heap.update a (iP es1 t1)):=C7 ..;have ho':({s with toks:=s.toks+1}:G2).heap.get? a=some (zE es ep t):=ho;have big:(es1.size>sizeLine)=False:=eq_false (cY.mpr z1);have big2:(es2.size>sizeLine)=False:=eq_false (cY.mpr z2);cases gave<;>cases hp:t1.plain<;>wp_walk
    all_goals
     simp only [↓reduceIte,hr];cases hc:(!wd&&t1.tooFull) with
     |false=>exact G8 (G8 (k true es1 (ep+1) t1 _ S1 e1 same1))
     |true=>
      have e2:((s.heap.update a (iP es1 t1)).update a (iP es2 t2)).get? a=some (zE es2 (ep+1+1) t2):=B2 _ e1 rfl;have same2:L9 a s.heap ((s.heap.update a (iP es1 t1)).update a (iP es2 t2)):=same1.trans (C7 ..);have fin:=k true es2 (ep+1+1) t2 _ S2 e2 same2;simp only [↓reduceIte];cases gave2<;>wp_walk
      all_goals exact fin
end
theorem wJ:plainId "set.update.loop" =true:=by decide +kernel
theorem vt:qV table "set.update.loop" =some Builtin.«set.update.loop» :=rP (by kernel_rfl)
section
variable {prog:R9}{w:N4}{A:T3}{E:G1->G2->Prop}{a I:G9}{L:T5}{fp wr:G0 G9}{n:G7}{P:G7->G1->Prop}{St:G7->B6->Prop}{f:G7->D3}
theorem vW {R:oH->G2->Prop}(W:Walks prog w A.in1 I fp wr n P St)(num: ∀i v,P i v-> ∃tk,v= .int (f i) tk)(na:a ∉ fp)(few:n<1000):
 ∀ (k i:G7) (s:G2) (es:S6 (D3×G1)) (ep:G7) (t:T6),i+k=n->St i s.heap->s.heap.get? a=some (zE es ep t)->SetI L es t ((R4 i).map f).reverse->
  (∀h' tk es' ep' t',h'.get? a=some (zE es' ep' t')->SetI L es' t' ((R4 n).map f).reverse->(∀b o,b≠a->b ∉ wr->s.heap.get? b=some o->h'.get? b=some o)->R (.ok (.ret .none)) {s with heap:=h',toks:=tk})->
  bX (R7 prog w) A (.builtin "set.update.loop" ⟨[.ref a,.ref I],[]⟩) R s
 |0,i,s,es,ep,t,hk,st,ha,S,q=>by
  have e:i=n:=by omega
  subst e;refine E2 vt ?_;rw [O8 wJ];refine wpAny_bind (W.done s _ _ st λh' tk kept=>G8 ?_);exact q h' tk es ep t (kept _ _ (λz=>na (W.sub _ z)) ha) S λb o _ nb e=>kept b o nb e
 |k+1,i,s,es,ep,t,hk,st,ha,S,q=>by
  refine E2 vt ?_;rw [O8 wJ];refine wpAny_bind (W.item i s _ _ (by omega) st λv h1 tk1 pv st1 kept1=> ?_);obtain⟨tk,rfl⟩:=num i v pv;have ha1:=kept1 _ _ (λz=>na (W.sub _ z)) ha;refine wpAny_bind (L5 (Pm (s:= {s with heap:=h1,toks:=tk1}) S ha1 (by simp;omega) λb es2 ep2 t2 h2 S2 ha2 same2=>G8 ⟨W2 wJ _,?_⟩));have S3:SetI L es2 t2 ((R4 (i+1)).map f).reverse:=by
   rw [U7,B3,pG];exact S2
  refine vW W num na few k (i+1) {s with heap:=h2,toks:=tk1+1} es2 ep2 t2 (by omega) (W.frame _ _ _ st1 λb hb o e=>same2.extBut _ _ (λz=>na (z ▸ hb)) e) ha2 S3 λh' tk' es' ep' t' ha' S' kept'=> ?_
  exact q h' tk' es' ep' t' ha' S' λb o ba bw e=>kept' b o ba bw (same2.extBut _ _ ba (kept1 b o bw e))
end
theorem yD:qV table "set.__init__" =some Builtin.«set.__init__» :=rP (by kernel_rfl)
abbrev jW (w:N4):T5:= !(w.params.followText "set-order")
theorem Jz (L:T5):SetI L #[] (.fresh 0 0 L) []:=⟨⟨rfl,rfl,rfl,λ_=> .nil⟩,λe he=>by simp at he,by simp,λn=>by simp⟩
theorem yS:pE (.type "set") (.type "set")=pure true:=by rw [cS];kernel_rfl
theorem Ji:pE (.type "list") (.type "set")=pure false:=by rw [cS];kernel_rfl
theorem Jj:pE (.type "list") (.type "frozenset")=pure false:=by rw [cS];kernel_rfl
theorem Zq:pE (.type "tuple") (.type "set")=pure false:=by rw [cS];kernel_rfl
theorem Zr:pE (.type "tuple") (.type "frozenset")=pure false:=by rw [cS];kernel_rfl
section
variable {prog:R9}{w:N4}{A:T3}{E:G1->G2->Prop}{s:G2}
theorem UO {x:G1}{P:eU->G2->Prop}(h:P (.done (.ret (.ref s.heap.objs.size))) {s with heap:=s.heap.push (zE #[] 0 (.fresh 0 0 (jW w)))}):
 R3 (R7 prog w) A (Builtin.«set.__new__» ⟨[.type "set",x],[]⟩) P E s:=by
 have fine:=yS;obtain⟨hp,g,d,tk,os⟩:=s;have told: ∀ {Q:tN->G2->Prop} {E':G1->G2->Prop} {A':T3} {s':G2},Q ⟨prog,w.params⟩ s'->R3 (R7 prog w) A' ask Q E' s':=λq=>e8 q
 wp_walk using told
 exact h
theorem vw {M:j0}{o x:G1}{Q:Unit->G2->Prop}(ty:s.TypeIs o "set")(q:Q () s):R3 M A (cR "set.__init__" ⟨[o,x],[]⟩) Q E s:=by
 have fine:=yS;unfold cR;rw [kind_set_init,split_set_init,sig_set_init]
 wp_walk using u8 (n:= "set") (by decide),u9 (self:=o) rfl ty
 exact q
theorem Po {l a:G9}{vs:G0 G1}{ns:G0 D3}{T:U2}{ep:G7}{Q:P4 G1->G2->Prop}(calm:A.handled=none)(hT:T= "list" \/T= "tuple")
 (hl: ∃o,s.heap.get? l=some o/\o.cls= .type T/\ ∃c,o.data= .seq vs.toArray c)(hI:W9 vs ns)(few:ns.length<1000)(ha:s.heap.get? a=some (zE #[] ep (.fresh 0 0 (jW w))))(la:l≠a)
 (k: ∀h' tk es' ep' t',h'.get? a=some (zE es' ep' t')->SetI (jW w) es' t' ns.reverse->(∀b o,b≠a->s.heap.get? b=some o->h'.get? b=some o)->Q (some .none) {s with heap:=h',toks:=tk}):
 R3 (R7 prog w) A (nG (.ref a) "__init__" [.ref l]) Q E s:=by
 have ty:s.TypeIs (.ref a) "set" :=⟨_,ha,rfl⟩;refine E4 ty F.called_set.init (aY (W8 F.called_set.init.plain yD (vw ty ?_)));have f1:=Ji;have f2:=Jj;have f3:=Zq;have f4:=Zr;obtain⟨⟨oc,od,odt,osl⟩,hol,hc,c,hd⟩:=hl;simp only at hc hd;subst hc hd;have state:=λ{P:S6 (D3×G1)×G7×T6->G2->Prop} {E':G1->G2->Prop} {A':T3}=>A0 (prog:=prog) (w:=w) (A:=A') (E:=E') (Q:=P) (s:=s) ha rfl (Jz (jW w)).tab.fits
 have pick: ∀ (i:G7) (v:G1),vs.toArray[i]? =some v-> ∃tk,v=dJ (ns.getD i 0) tk:=λi v hv=>(L2.yh hI (by simpa using hv)).imp λ_ z=>z.1
 have len:vs.toArray.size=ns.length:=by rw [R5,hI.length]
 have rng:(R4 ns.length).map (λi=>ns.getD i 0)=ns:=by
  refine g7 λi=> ?_
  rw [D9]
  by_cases hi:i<ns.length
  ·rw [V6 hi,P2 hi];simp [hi]
  ·rw [J9 (by simpa using hi),J9 (by simpa using hi)];rfl
 have far:a≠s.heap.objs.size:=λz=>N7 _ (z ▸ P9 ha)
 have lfar:l≠s.heap.objs.size:=λz=>N7 _ (z ▸ P9 hol)
 have na:a ∉ [s.heap.objs.size,l]:=by simp [far,la.symm]
 have fin: ∀ {o:Obj} h' tk es' ep' t',h'.get? a=some (zE es' ep' t')->SetI (jW w) es' t' ((R4 vs.toArray.size).map λi=>ns.getD i 0).reverse->(∀b ob,b≠a->b ∉ [s.heap.objs.size]->(s.heap.push o).get? b=some ob->h'.get? b=some ob)->Q (some .none) {s with heap:=h',toks:=tk}:=λh' tk es' ep' t' e S kept=>by
  rw [len,rng] at S;exact k h' tk es' ep' t' e S λb ob nb q=>kept b ob nb (λz=>N7 _ (P1.mp z ▸ P9 q)) (G3 _ q)
 rcases hT with rfl|rfl
 ·have tl:s.TypeIs (.ref l) "list" :=⟨_,hol,rfl⟩;have isl:s.heap.IsList l vs.toArray:=⟨_,hol,rfl,c,rfl⟩
  wp_walk using state,V7 isl
  have W:=iO (prog:=prog) (w:=w) (A:=A.in1.in1) calm s.heap.objs.size l lfar vs.toArray;refine vW W pick na (by rw [len];exact few) vs.toArray.size 0 _ #[] ep _ (Q9 _) ⟨⟨_,R1 _ rfl,rfl,rfl⟩,⟨_,G3 _ hol,rfl,c,rfl⟩⟩ (G3 _ ha) (Jz _) λh' tk es' ep' t' e S kept=> ?_
  exact G8 (G8 (fin h' tk es' ep' t' e S kept))
 ·have tl:s.TypeIs (.ref l) "tuple" :=⟨_,hol,rfl⟩;have isl:s.heap.IsTuple l vs.toArray:=⟨_,hol,rfl,c,rfl⟩
  wp_walk using state,Y5 isl
  have W:=sH (prog:=prog) (w:=w) (A:=A.in1.in1) calm s.heap.objs.size l lfar vs.toArray;refine vW W pick na (by rw [len];exact few) vs.toArray.size 0 _ #[] ep _ (Q9 _) ⟨⟨_,R1 _ rfl,rfl,rfl⟩,⟨_,G3 _ hol,rfl,c,rfl⟩⟩ (G3 _ ha) (Jz _) λh' tk es' ep' t' e S kept=> ?_
  exact G8 (G8 (fin h' tk es' ep' t' e S kept))
theorem UP {l:G9}{vs:G0 G1}{ns:G0 D3}{T:U2}{Q:G1->G2->Prop}(calm:A.handled=none)(hT:T= "list" \/T= "tuple")
 (hl: ∃o,s.heap.get? l=some o/\o.cls= .type T/\ ∃c,o.data= .seq vs.toArray c)(hI:W9 vs ns)(few:ns.length<1000)
 (k: ∀h' tk es' ep' t',h'.get? s.heap.objs.size=some (zE es' ep' t')->SetI (jW w) es' t' ns.reverse->(∀b o,s.heap.get? b=some o->h'.get? b=some o)->Q (.ref s.heap.objs.size) {s with heap:=h',toks:=tk}):
 R3 (R7 prog w) A (call (.type "set") [.ref l]) Q E s:=by
 have fits:pP "set" ⟨[.ref l],[]⟩=pure ():=by kernel_rfl
 have newFits:cR "set.__new__" ⟨[.type "set",.ref l],[]⟩=pure ():=by kernel_rfl
 obtain⟨o,hol,r⟩:=hl;refine L2.yQ (Made:=λv s₁=>v= .ref s.heap.objs.size/\s₁= {s with heap:=s.heap.push (zE #[] 0 (.fresh 0 0 (jW w)))}) z8 fits
  (aY (W8 F.called_set.plain sT (oR newFits (UO ⟨rfl,rfl⟩)))) λv s₁ ⟨ev,es⟩=> ?_
 subst ev es;have at_:(s.heap.push (zE #[] 0 (.fresh 0 0 (jW w)))).get? s.heap.objs.size=some (zE #[] 0 (.fresh 0 0 (jW w))):=R1 _ rfl;refine⟨⟨_,at_,rfl⟩,Po (s:= {s with heap:=s.heap.push (zE #[] 0 (.fresh 0 0 (jW w)))}) calm hT ⟨o,G3 _ hol,r⟩ hI few at_ (λz=>N7 _ (z ▸ P9 hol)) λh' tk es' ep' t' e S kept=>⟨rfl,k h' tk es' ep' t' e S λb ob q=>kept b ob (λz=>N7 _ (z ▸ P9 q)) (G3 _ q)⟩⟩
end
theorem slot_si_next:Slot "set_iterator" "__next__" "set_iterator.__next__" :=
 .of (owner:= "set_iterator") (n:= "__next__") (by rw [sU,n8];kernel_rfl) (by decide +kernel) (by decide +kernel) (by decide +kernel) (.inl (by kernel_rfl)) (by rw [cS];kernel_rfl)
theorem WU:qV table "set_iterator.__next__" =some Builtin.«set_iterator.__next__» :=entryFor_of_tree (by kernel_rfl)
theorem YU (a:G1):z6 "set_iterator.__next__" ⟨[a],[]⟩:=by unfold z6;kernel_rfl
theorem ZT:qV table "set.__iter__" =some Builtin.«frozenset.__iter__» :=uQ (id':= "frozenset.__iter__") (by kernel_rfl) rfl (by decide +kernel) (by kernel_rfl)
abbrev itO (first:G1)(i:G7)(a:G9)(n ep:G7):Obj:= {cls:= .type "set_iterator",data:= .fields #[first,A1 i,.ref a,A1 n,A1 ep]}
inductive Mode (w:N4)(a:G9)(es:S6 (D3×G1))(ep:G7)(t:T6):G0 G1->(G1->G7->B6->Prop)->G9->Prop
 |text (b:w.params.followText "set-order" =true):Mode w a es ep t ((pickOrder (w.params.setOrder a ep) es).toList.map (·.2)) (λf _ _=>f=A1 0) a
 |drawn (b:w.params.followText "set-order" =false) (d:t.plain=false) (two:1<es.size) (ord:G0 G7) (p:ord.Perm (R4 es.size)) (tp:G9):
  Mode w a es ep t (ord.map λj=>(es.getD j (0,.none)).2) (λf _ h=>f= .ref tp/\h.IsTuple tp (ord.map λj=>A1 (j:G7)).toArray) tp
 |table (b:w.params.followText "set-order" =false) (d:t.plain=true\/es.size<=1):Mode w a es ep t (es.toList.map (·.2)) (λf i _=> ∃slot:G7,f=A1 slot/\T7 t.place slot=i) a
section
variable {prog:R9}{w:N4}{A:T3}{E:G1->G2->Prop}{s:G2}{a I tp:G9}{es:S6 (D3×G1)}{ep n i:G7}{t:T6}{ns:G0 D3}{first:G1}
theorem Pp {Q:G1->G2->Prop}(S:Tab (jW w) es.size t)(b:w.params.followText "set-order" =true)(ha:s.heap.get? a=some (zE es ep t))(hI:s.heap.get? I=some (itO (A1 0) i a es.size ep))(aI:a≠I)
 {x:G1}(hx:((pickOrder (w.params.setOrder a ep) es).toList.map (·.2))[i]? =some x)(q: ∀h',h'.get? I=some (itO (A1 0) (i+1) a es.size ep)->L9 I s.heap h'->Q x {s with heap:=h'}):
 R3 (R7 prog w) A (Builtin.«set_iterator.__next__» ⟨[.ref I],[]⟩) (λfin s'=> ∃v,fin= .done (.ret v)/\Q v s') E s:=by
 have told: ∀ {Q:tN->G2->Prop} {E':G1->G2->Prop} {A':T3} {s':G2},Q ⟨prog,w.params⟩ s'->R3 (R7 prog w) A' ask Q E' s':=λq=>e8 q
 have state:=λ{P:S6 (D3×G1)×G7×T6->G2->Prop} {E':G1->G2->Prop} {A':T3}=>A0 (prog:=prog) (w:=w) (A:=A') (E:=E') (Q:=P) (s:=s) ha rfl S.fits
 obtain⟨hp,g,d,tk,os⟩:=s;rw [D9] at hx;obtain⟨⟨k,x'⟩,hx1,rfl⟩:=A5.mp hx;have hx':(pickOrder (w.params.setOrder a ep) es)[((i:G7):D3).toNat]? =some (k,x'):=by rw [Q8,<-M6];exact hx1
 have z1:=B2 (Z7 λv=>v.setIfInBounds 0 (A1 ((kI 0:G7):D3))) hI rfl;have z2:=B2 (Z7 λv=>v.setIfInBounds 1 (A1 ((i:D3)+1))) z1 rfl;have fin:=q _ z2 ((C7 ..).trans (C7 ..))
 wp_walk using state,told
 rw [hx']
 wp_walk
 exact⟨_,rfl,fin⟩
theorem XY {Q:G1->G2->Prop}{ord:G0 G7}(S:Tab (jW w) es.size t)(ha:s.heap.get? a=some (zE es ep t))(hI:s.heap.get? I=some (itO (.ref tp) i a es.size ep))(aI:a≠I)(ht:s.heap.IsTuple tp (ord.map λj=>A1 (j:G7)).toArray)(p:ord.Perm (R4 es.size))
 {x:G1}(hx:(ord.map λj=>(es.getD j (0,.none)).2)[i]? =some x)(q: ∀h',h'.get? I=some (itO (.ref tp) (i+1) a es.size ep)->L9 I s.heap h'->Q x {s with heap:=h'}):
 R3 (R7 prog w) A (Builtin.«set_iterator.__next__» ⟨[.ref I],[]⟩) (λfin s'=> ∃v,fin= .done (.ret v)/\Q v s') E s:=by
 have state:=λ{P:S6 (D3×G1)×G7×T6->G2->Prop} {E':G1->G2->Prop} {A':T3}=>A0 (prog:=prog) (w:=w) (A:=A') (E:=E') (Q:=P) (s:=s) ha rfl S.fits
 obtain⟨⟨oc,od,odt,osl⟩,hol,hc,c,hd⟩:=ht;simp only at hc hd;subst hc hd;obtain⟨hp,g,d,tk,os⟩:=s;rw [D9] at hx;obtain⟨j,hj,rfl⟩:=A5.mp hx;have jlt:j<es.size:=S8.mp (p.mem_iff.mp (P6 hj));have hj':((ord.map λj=>A1 (j:G7)).toArray)[((i:G7):D3).toNat]? =some (A1 (j:G7)):=by simp [hj]
 have ej:es[((j:G7):D3).toNat]? =some (es.getD j (0,.none)):=by simp [jlt,uO]
 have z1:=B2 (Z7 λv=>v.setIfInBounds 1 (A1 ((i:D3)+1))) hI rfl;have fin:=q _ z1 (C7 ..)
 wp_walk using state
 rw [hj'];show R3 _ _ (setNextDrawn a ((j:G7):D3).toNat ((ep:G7):D3).toNat >>= _) _ _ _
 wp_walk using state
 rw [ej]
 wp_walk
 exact⟨_,rfl,fin⟩
theorem XZ {Q:G1->G2->Prop}{slot:G7}(S:Tab (jW w) es.size t)(b:w.params.followText "set-order" =false)(pl:t.plain=true\/es.size<=1)(ha:s.heap.get? a=some (zE es ep t))(hI:s.heap.get? I=some (itO (A1 slot) i a es.size ep))(aI:a≠I)(hs:T7 t.place slot=i)
 {x:G1}(hx:(es.toList.map (·.2))[i]? =some x)(q: ∀h' (slot':G7),T7 t.place slot'=i+1->h'.get? I=some (itO (A1 slot') (i+1) a es.size ep)->L9 I s.heap h'->Q x {s with heap:=h'}):
 R3 (R7 prog w) A (Builtin.«set_iterator.__next__» ⟨[.ref I],[]⟩) (λfin s'=> ∃v,fin= .done (.ret v)/\Q v s') E s:=by
 have told: ∀ {Q:tN->G2->Prop} {E':G1->G2->Prop} {A':T3} {s':G2},Q ⟨prog,w.params⟩ s'->R3 (R7 prog w) A' ask Q E' s':=λq=>e8 q
 have state:=λ{P:S6 (D3×G1)×G7×T6->G2->Prop} {E':G1->G2->Prop} {A':T3}=>A0 (prog:=prog) (w:=w) (A:=A') (E:=E') (Q:=P) (s:=s) ha rfl S.fits
 have led:t.led=true:=by rw [S.led];show (!(w.params.followText "set-order"))=true;rw [b];rfl
 have nd:(!t.plain&&decide (es.size>1))=false:=by
  rcases pl with z|z
  ·rw [z];rfl
  ·rw [N6 (by omega),g8]
 obtain⟨hp,g,d,tk,os⟩:=s;rw [D9] at hx;obtain⟨⟨k,x'⟩,hx1,rfl⟩:=A5.mp hx;have lt:i<es.size:=by have:=(P5.mp hx1).1;simpa using this
 have ps:=Wm S.fits;have ltp:i<t.place.size:=by omega
 have ex:es[i]? =some (k,x'):=by rw [<-M6];exact hx1
 have ep':t.place[i]? =some t.place[i]:=by simp [ltp]
 have rise:=S.rise pl;have next:T7 t.place (t.place[i]+1)=i+1:=by
  obtain⟨b1,b2,b3⟩:=vq rise (t.place[i]+1);have mono:=λ(u v:G7) (hu:u<t.place.size) (hv:v<t.place.size) (uv:u<v)=>O3.mp rise u v (by simpa using hu) (by simpa using hv) uv
  simp only [eL] at mono;rcases dU (T7 t.place (t.place[i]+1)) (i+1) with z|z|z
  ·have:=b2 i (by omega) _ ep';omega
  ·exact z
  ·have h1:i+1<t.place.size:=by omega
   have:=b1 (i+1) z _ (by simp [h1]:t.place[i+1]? =some t.place[i+1]);have:=mono i (i+1) ltp h1 (by omega);omega
 have z1:=B2 (Z7 λv=>v.setIfInBounds 0 (A1 ((t.place[i]+1:G7):D3))) hI rfl;have z2:=B2 (Z7 λv=>v.setIfInBounds 1 (A1 ((i:D3)+1))) z1 rfl;have fin:=q _ _ next z2 ((C7 ..).trans (C7 ..))
 wp_walk using state,told
 split
 ·rename_i z;have z':(!t.plain&&decide (es.size>1))=true:=z;rw [nd] at z';cases z'
 wp_walk
 rw [show ((slot:G7):D3).toNat=slot from Q8 _,hs,ex,ep']
 wp_walk
 exact⟨_,rfl,fin⟩
theorem Qa {vals:G0 G1}{md:G1->G7->B6->Prop}{Q:eU->G2->Prop}(calm:A.handled=none)(S:Tab (jW w) es.size t)(M:Mode w a es ep t vals md tp)(ha:s.heap.get? a=some (zE es ep t))(hI:s.heap.get? I=some (itO first i a es.size ep))(aI:a≠I)(hm:md first i s.heap)(hx:vals[i]? =none)
 (q: ∀h' e,(∀b o,b≠I->s.heap.get? b=some o->h'.get? b=some o)->(∃o,h'.get? e=some o/\o.cls= .type "StopIteration")->E (.ref e) {s with heap:=h'}):
 R3 (R7 prog w) A (Builtin.«set_iterator.__next__» ⟨[.ref I],[]⟩) Q E s:=by
 have told: ∀ {Q:tN->G2->Prop} {E':G1->G2->Prop} {A':T3} {s':G2},Q ⟨prog,w.params⟩ s'->R3 (R7 prog w) A' ask Q E' s':=λq=>e8 q
 have state:=λ{P:S6 (D3×G1)×G7×T6->G2->Prop} {E':G1->G2->Prop} {A':T3}=>A0 (prog:=prog) (w:=w) (A:=A') (E:=E') (Q:=P) (s:=s) ha rfl S.fits
 have stop:=λ{h1:B6} {Q':eU->G2->Prop} (same:L9 I s.heap h1)=>L2.Zh (prog:=prog) (w:=w) (A:=A) (E:=E) (s:= {s with heap:=h1}) (Q:=Q') calm λh' e grown st=>q h' e (λb o nb x=>grown b o (same.extBut b o nb x)) st
 obtain⟨hp,g,d,tk,os⟩:=s;have put: ∀ {P:Unit->G2->Prop} {E':G1->G2->Prop} {k:G7} {v:G1} {h1:B6},k<5->L9 I hp h1->(∃fs:S6 G1,fs.size=5/\h1.get? I=some {cls:= .type "set_iterator",data:= .fields fs})->(∀h',L9 I hp h'->(∃fs:S6 G1,fs.size=5/\h'.get? I=some {cls:= .type "set_iterator",data:= .fields fs})->P () ⟨h',g,d,tk,os⟩)->R3 (R7 prog w) A (mS (.ref I) k v) P E' ⟨h1,g,d,tk,os⟩:=λhk same ⟨fs,hfs,e⟩ q'=>wpAny_setField_rec (s:=⟨_,g,d,tk,os⟩) e (by omega) λh' z' same'=>q' h' (same.trans same') ⟨_,by simpa using hfs,z'⟩
 cases M with
 |text b=>
  subst hm;have e:(pickOrder (w.params.setOrder a ep) es)[((i:G7):D3).toNat]? =none:=by
   rw [D9] at hx;rw [Q8,<-M6];exact g9.mp hx
  wp_walk using state,told
  rw [e];show R3 _ _ (mS (.ref I) 2 .none >>= _) _ _ _;exact wpAny_bind (put (by decide) (cC _ _) ⟨_,rfl,hI⟩ λh' same _=>stop same)
 |drawn b dp two ord p tp=>
  obtain⟨rfl,⟨oc,od,odt,osl⟩,hol,hc,c,hd⟩:=hm;simp only at hc hd;subst hc hd;have e:((ord.map λj=>A1 (j:G7)).toArray)[((i:G7):D3).toNat]? =none:=by
   rw [D9] at hx;simp [g9.mp hx]
  wp_walk using state
  rw [e];show R3 _ _ (mS (.ref I) 0 (A1 0) >>= λ_=>mS (.ref I) 2 .none >>= _) _ _ _;exact wpAny_bind (put (by decide) (cC _ _) ⟨_,rfl,hI⟩ λh1 same1 there1=>wpAny_bind (put (by decide) same1 there1 λh' same _=>stop same))
 |table b pl=>
  obtain⟨slot,rfl,hs⟩:=hm;have led:t.led=true:=by rw [S.led];show (!(w.params.followText "set-order"))=true;rw [b];rfl
  have nd:(!t.plain&&decide (es.size>1))=false:=by
   rcases pl with z|z
   ·rw [z];rfl
   ·rw [N6 (by omega),g8]
  have e:es[i]? =none:=by
   rw [D9] at hx;rw [<-M6];exact g9.mp hx
  wp_walk using state,told
  split
  ·rename_i z;have z':(!t.plain&&decide (es.size>1))=true:=z;rw [nd] at z';cases z'
  wp_walk
  rw [show ((slot:G7):D3).toNat=slot from Q8 _,hs,e];show R3 _ _ (mS (.ref I) 2 .none >>= _) _ _ _;exact wpAny_bind (put (by decide) (cC _ _) ⟨_,rfl,hI⟩ λh' same _=>stop same)
end
theorem WV:qV table "set_iterator.__iter__" =some Builtin.«dict_keyiterator.__iter__» :=uQ (id':= "dict_keyiterator.__iter__") (by kernel_rfl) (by first|rfl|decide +kernel|(unfold String.splitOn;simp +decide [String.splitOnAux])) (by decide +kernel) (by kernel_rfl)
theorem vx:Slot "set_iterator" "__iter__" "set_iterator.__iter__" := .of (owner:= "set_iterator") (n:= "__iter__") (by rw [sU,n8];kernel_rfl) (by decide +kernel) (by decide +kernel) (by decide +kernel) (.inl (by kernel_rfl)) (by rw [cS];kernel_rfl)
theorem YV (a:G1):z6 "set_iterator.__iter__" ⟨[a],[]⟩:=by unfold z6;kernel_rfl
section
variable {prog:R9}{w:N4}{A:T3}{E:G1->G2->Prop}{s:G2}{a I tp:G9}{es:S6 (D3×G1)}{ep n i:G7}{t:T6}{ns:G0 D3}{first:G1}{vals:G0 G1}{md:G1->G7->B6->Prop}
theorem Mode.keep {f:G1}{h h':B6}(M:Mode w a es ep t vals md tp)(m:md f i h)(k: ∀o,h.get? tp=some o->h'.get? tp=some o):md f i h':=by
 cases M with
 |text b=>exact m
 |drawn b dp two ord p tp=>exact⟨m.1,m.2.at λo e=>k o e⟩
 |table b pl=>exact m
theorem Pq {Q:P4 G1->G2->Prop}(ty:s.TypeIs (.ref I) "set_iterator")
 (h:R3 (R7 prog w) A.in1 (Builtin.«set_iterator.__next__» ⟨[.ref I],[]⟩) (λfin s'=> ∃v,fin= .done (.ret v)/\Q (some v) s') (λe s'=>s'.TypeIs e "StopIteration" /\Q none s') s):R3 (R7 prog w) A (rE (.ref I)) Q E s:=
 wpAny_bind (iT (E4 (name:= "__next__") ty slot_si_next (B1 (E7 slot_si_next ty WU h (YU _)) (λ_ _ q=>G8 q) λe s' q=>wpAny_bind (mT (b:=true) q.1 uK (G8 q.2)))))
theorem Pr (calm:A.handled=none)(S:Tab (jW w) es.size t)(M:Mode w a es ep t vals md tp)(aI:a≠I)(tI:tp≠I):
 Walks prog w A I [I,a,tp] [I] vals.length (λi v=>vals[i]? =some v) (λi h=>h.get? a=some (zE es ep t)/\ ∃first,h.get? I=some (itO first i a es.size ep)/\md first i h) where
 sub:=λb hb=>by simp only [P1] at hb;simp [hb]
 frame:=λi h h' ⟨ha,f,hI,m⟩ k=>⟨k a (by simp) _ ha,f,k I (by simp) _ hI,M.keep m λo e=>k tp (by simp) o e⟩
 item:=λi s Q E hi ⟨ha,f,hI,m⟩ q=>by
  have hx:vals[i]? =some vals[i]:=by simp [hi]
  refine Pq ⟨_,hI,rfl⟩ ?_;have fin: ∀ {f':G1} h',md f' (i+1) s.heap->h'.get? I=some (itO f' (i+1) a es.size ep)->L9 I s.heap h'->Q (some vals[i]) {s with heap:=h'}:=λh' m' e same=>
   q vals[i] h' s.toks hx ⟨same.extBut _ _ aI ha,_,e,M.keep m' λo x=>same.extBut _ _ tI x⟩ λb o nb x=>same.extBut _ _ (by simpa using nb) x
  cases M with
  |text b=>
   subst m;exact Pp S b ha hI aI hx λh' e same=>fin h' rfl e same
  |drawn b dp two ord p tp=>
   obtain⟨rfl,ht⟩:=m;exact XY S ha hI aI ht p hx λh' e same=>fin h' ⟨rfl,ht⟩ e same
  |table b pl=>
   obtain⟨slot,rfl,hs⟩:=m;exact XZ S b pl ha hI aI hs hx λh' slot' hs' e same=>fin h' ⟨slot',rfl,hs'⟩ e same
 done:=λs Q E ⟨ha,f,hI,m⟩ q=>by
  refine Pq ⟨_,hI,rfl⟩ (Qa calm S M ha hI aI m (by simp) λh' e kept ⟨o,ho,hc⟩=>⟨⟨o,ho,hc⟩,q h' s.toks λb ob nb x=>kept b ob (by simpa using nb) x⟩)
 self:=λi s Q E ⟨ha,f,hI,m⟩ q=>lS ⟨_,hI,rfl⟩ vx (E7 vx ⟨_,hI,rfl⟩ WV (G8 ⟨_,rfl,_,_,⟨_,hI,rfl⟩,slot_si_next.lookup,q⟩) (YV _))
end
theorem vX {α:Type}: ∀ (l:G0 α) (i:G7) {x:α},l[i]? =some x->(x::l.eraseIdx i).Perm l
 | [],i,x,h=>by cases h
 |y::l,0,x,h=>by cases h;exact .refl _
 |y::l,i+1,x,h=>(uR y x _).trans ((vX l i h).cons y)
theorem Ps {α:Type}(next:G7->G7): ∀ (fuel k:G7) (left:G0 α) (out:S6 α),left.length=fuel->(pickOrder.go next fuel k left out).toList.Perm (out.toList++left)
 |0,k,left,out,h=>by
  rw [aB h,O6];exact .refl _
 |fuel+1,k,left,out,h=>by
  unfold pickOrder.go;have lt:next k%left.length<left.length:=bH _ (by omega);have hx:left[next k%left.length]? =some left[next k%left.length]:=by simp [lt]
  rw [hx];refine(Ps next fuel (k+1) _ _ (by rw [eM lt];omega)).trans ?_;rw [U1,D6];exact(vX left _ hx).append_left _
theorem Pu {α:Type}(next:G7->G7)(xs:S6 α):(pickOrder next xs).toList.Perm xs.toList:=by
 have:=Ps next xs.size 0 xs.toList #[] (by simp);rw [Array.toList_empty,L6] at this;exact this
section
variable {prog:R9}{w:N4}{A:T3}{E:G1->G2->Prop}{s:G2}{a I tp:G9}{es:S6 (D3×G1)}{ep n i:G7}{t:T6}{ns:G0 D3}{first:G1}{vals:G0 G1}{md:G1->G7->B6->Prop}
theorem Mode.perm (M:Mode w a es ep t vals md tp):vals.Perm (es.toList.map (·.2)):=by
 cases M with
 |text b=>exact(Pu _ es).map _
 |drawn b dp two ord p tp=>
  refine(p.map _).trans ?_;have:(R4 es.size).map (λj=>(es.getD j (0,.none)).2)=es.toList.map (·.2):=by
   refine g7 λj=> ?_
   rw [D9,D9]
   by_cases hj:j<es.size
   ·rw [V6 hj];simp [hj,uO]
   ·rw [J9 (by simpa using hj),J9 (by simpa using hj)];rfl
  rw [this]
 |table b pl=>exact .refl _
theorem UQ {α:Type}{Q:G0 α->G2->Prop}: ∀ (n:G7) (xs:G0 α) (s:G2),xs.length=n->(∀ys d,ys.Perm xs->Q ys {s with drawn:=d})->R3 (R7 prog w) A (drawOrder n xs) Q E s
 |0,xs,s,h,q=>by
  rw [aB h] at q;exact G8 (q [] s.drawn (.refl _))
 |n+1,[],s,h,q=>by cases h
 |n+1,x::r,s,h,q=>by
  have pickd: ∀ {P:G7->G2->Prop} {E':G1->G2->Prop},(∀i d,i<(x::r).length->P i {s with drawn:=d})->R3 (R7 prog w) A (choose .order (x::r).length) P E' s:=λp _ _ _=>⟨by simp,p _ _ (bH _ (by simp))⟩
  refine wpAny_bind (pickd λi d hi=> ?_);have hx:(x::r)[i]? =some (x::r)[i]:=by rw [P2 hi]
  rw [hx];refine wpAny_bind (UQ n _ {s with drawn:=d} (by rw [eM hi];simp at h ⊢;omega) λys d' p=>G8 (q _ d' ?_));exact(p.cons _).trans (vX _ _ hx)
theorem Mn {Q:G1->G2->Prop}(S:Tab (jW w) es.size t)(ha:s.heap.get? a=some (zE es ep t))(few:es.size<1000)
 (k: ∀h' d I tp vals md first,Mode w a es ep t vals md tp->(∀b o,s.heap.get? b=some o->h'.get? b=some o)->s.heap.objs.size<=I->tp≠I->(tp=a\/s.heap.objs.size<=tp)->tp<h'.objs.size->h'.get? I=some (itO first 0 a es.size ep)->md first 0 h'->Q (.ref I) {s with heap:=h',drawn:=d}):
 R3 (R7 prog w) A (y4 (.ref a)) Q E s:=by
 have ty:s.TypeIs (.ref a) "set" :=⟨_,ha,rfl⟩;have told: ∀ {Q:tN->G2->Prop} {E':G1->G2->Prop} {A':T3} {s':G2},Q ⟨prog,w.params⟩ s'->R3 (R7 prog w) A' ask Q E' s':=λq=>e8 q
 have state:=λ{P:S6 (D3×G1)×G7×T6->G2->Prop} {E':G1->G2->Prop} {A':T3} {s':G2} (e:s'.heap.get? a=some (zE es ep t))=>A0 (prog:=prog) (w:=w) (A:=A') (E:=E') (Q:=P) (s:=s') e rfl S.fits
 refine lS ty sV (E7 sV ty ZT ?_ (F.args_set_iter_1 _));have state0:=λ{P:S6 (D3×G1)×G7×T6->G2->Prop} {E':G1->G2->Prop} {A':T3}=>state (P:=P) (E':=E') (A':=A') (s':=s) ha
 cases b:w.params.followText "set-order" with
 |true=>
  wp_walk using state0,told
  have at_:(s.heap.push (itO (A1 0) 0 a es.size ep)).get? s.heap.objs.size=some (itO (A1 0) 0 a es.size ep):=R1 _ rfl;have nI:a≠s.heap.objs.size:=λz=>N7 _ (z ▸ P9 ha)
  refine⟨_,rfl,"set_iterator",_,⟨_,at_,rfl⟩,slot_si_next.lookup,?_⟩;exact k _ s.drawn s.heap.objs.size a _ _ (A1 0) (.text b) (λb o e=>G3 _ e) (P3 _) nI (.inl rfl) (P9 (G3 _ ha)) at_ rfl
 |false=>
  cases dd:(!t.plain&&decide (es.size>1)) with
  |false=>
   have pl:t.plain=true\/es.size<=1:=by
    cases hp:t.plain with
    |true=>exact .inl rfl
    |false=>rw [hp] at dd;have:=lA (show decide (es.size>1)=false from dd);exact .inr (by omega)
   have at_:(s.heap.push (itO (A1 0) 0 a es.size ep)).get? s.heap.objs.size=some (itO (A1 0) 0 a es.size ep):=R1 _ rfl;have nI:a≠s.heap.objs.size:=λz=>N7 _ (z ▸ P9 ha)
   have zero:T7 t.place 0=0:=by
    obtain⟨b1,_,b3⟩:=vq (S.rise pl) 0;rcases pZ (T7 t.place 0) with z|z
    ·exact z
    ·have h0:0<t.place.size:=by omega
     exact absurd (b1 0 z _ (by simp [h0]:t.place[0]? =some t.place[0])) (aN _)
   have fin:=k _ s.drawn s.heap.objs.size a _ _ (A1 0) (.table b pl) (λb o e=>G3 _ e) (P3 _) nI (.inl rfl) (P9 (G3 _ ha)) at_ ⟨0,rfl,zero⟩
   wp_walk using state0,told
   split
   ·rename_i z;have z':(!w.params.followText "set-order" &&(!t.plain&&decide (es.size>1)))=true:=z;rw [b,dd] at z';cases z'
   wp_walk using state0
   exact⟨_,rfl,"set_iterator",_,⟨_,at_,rfl⟩,slot_si_next.lookup,fin⟩
  |true=>
   have pf:t.plain=false/\1<es.size:=by
    rw [H0] at dd;exact⟨by simpa using dd.1,J5 dd.2⟩
   wp_walk using state0,told
   split
   rotate_left
   ·rename_i z;exact(z (show (!w.params.followText "set-order" &&(!t.plain&&decide (es.size>1)))=true by rw [b,dd];rfl)).elim
   refine wpAny_bind (UQ es.size (R4 es.size) s (by simp) λord d p=> ?_);have len:ord.length=es.size:=by rw [p.length_eq];simp
   have t0:(s.heap.push {cls:= .type "tuple",data:= .seq (ord.map λ(i:G7)=>A1 i).toArray}).get? s.heap.objs.size=some {cls:= .type "tuple",data:= .seq (ord.map λ(i:G7)=>A1 i).toArray}:=R1 _ rfl;refine wpAny_bind (oP ?_ (by rw [G6,len];exact S0 (T4 few) (by decide)));have ha1:(s.heap.push {cls:= .type "tuple",data:= .seq (ord.map λ(i:G7)=>A1 i).toArray}).get? a=some (zE es ep t):=G3 _ ha;have state1:=λ{P:S6 (D3×G1)×G7×T6->G2->Prop} {E':G1->G2->Prop} {A':T3}=>state (P:=P) (E':=E') (A':=A') (s':= {s with heap:=s.heap.push {cls:= .type "tuple",data:= .seq (ord.map λ(i:G7)=>A1 i).toArray},drawn:=d}) ha1
   wp_walk using state1
   have at_:=R1 (s.heap.push {cls:= .type "tuple",data:= .seq (ord.map λ(i:G7)=>A1 i).toArray}) (o:=itO (.ref s.heap.objs.size) 0 a es.size ep) rfl;have lt1:s.heap.objs.size<(s.heap.push {cls:= .type "tuple",data:= .seq (ord.map λ(i:G7)=>A1 i).toArray}).objs.size:=P9 t0;refine⟨_,rfl,"set_iterator",_,⟨_,at_,rfl⟩,slot_si_next.lookup,?_⟩;exact k _ d _ s.heap.objs.size _ _ (.ref s.heap.objs.size) (.drawn b pf.1 pf.2 ord p s.heap.objs.size) (λb o e=>G3 _ (G3 _ e)) (T4 lt1) (M0 lt1) (.inr (P3 _)) (P9 (G3 _ t0)) at_ ⟨rfl,⟨_,G3 _ t0,rfl,0,rfl⟩⟩
end
section
variable {prog:R9}{w:N4}{A:T3}{E:G1->G2->Prop}{s:G2}{a:G9}{es:S6 (D3×G1)}{ep:G7}{t:T6}{ns:G0 D3}
theorem Mo {Q:T5->G2->Prop}(ty:s.TypeIs (.ref a) "set")(q:Q false s):R3 (R7 prog w) A (j9 (.ref a)) Q E s:=by
 have parts:splitId "set.__len__" =some ("set","__len__"):=by decide +kernel
 have f2:=yS;unfold j9;refine wpAny_bind (sW ty F.slot_set_len.lookup ?_);dsimp only;rw [parts];dsimp only
 wp_walk
 exact q
def Al (s:G2)(es:S6 (D3×G1))(r:oH)(s':G2):Prop:=
 ∃h' d tk acc c,r= .ok (.ret (.ref s.heap.objs.size))/\s'= {s with heap:=h',drawn:=d,toks:=tk}/\h'.get? s.heap.objs.size=some {cls:= .type "list",dict:=none,data:= .seq acc c,slots:= #[]}/\(∀b o,s.heap.get? b=some o->h'.get? b=some o)/\acc.toList.Perm (es.toList.map (·.2))
theorem Wo (calm:A.handled=none)(S:Tab (jW w) es.size t)(ha:s.heap.get? a=some (zE es ep t))(few:es.size<1000):
 bX (R7 prog w) A (.builtin "proto.collect" ⟨[.ref a],[]⟩) (Al s es) s:=by
 have nS:s.heap.objs.size≠a:=λz=>N7 _ (z ▸ P9 ha)
 have old: ∀ {b o o'},s.heap.get? b=some o->(s.heap.push o').get? b=some o:=λe=>G3 _ e
 refine E2 F.entry_proto_collect ?_
 wp_walk
 refine⟨W2 qW _,E2 F.entry_list_iadd ?_⟩;rw [O8 qW];have ha1:(s.heap.push {cls:= .type "list",data:= .seq #[]}).get? a=some (zE es ep t):=old ha;have hS:(s.heap.push {cls:= .type "list",data:= .seq #[]}).get? s.heap.objs.size=some {cls:= .type "list",data:= .seq #[]}:=R1 _ rfl;have ty:Shared.TypeIs {s with heap:=s.heap.push {cls:= .type "list",data:= .seq #[]}} (.ref a) "set" :=⟨_,ha1,rfl⟩;have other:mL (.ref s.heap.objs.size) (.ref a)=false:=by simp [mL,nS]
 have iter:=λ{P:G1->G2->Prop} {E':G1->G2->Prop} {A':T3}=>Mn (prog:=prog) (w:=w) (A:=A') (E:=E') (Q:=P) (s:= {s with heap:=s.heap.push {cls:= .type "list",data:= .seq #[]}}) S ha1 (by omega)
 show R3 _ A.in1 (tO (.ref s.heap.objs.size) (.ref a) (.ref s.heap.objs.size)) _ _ _
 wp_walk using iter
 intro h1 d I tp vals md first M kept lo tI tpo tpl hI hm
 have ha2:h1.get? a=some (zE es ep t):=kept _ _ ha1;have hS2:h1.get? s.heap.objs.size=some {cls:= .type "list",data:= .seq #[]}:=kept _ _ hS;have ty2:Shared.TypeIs {s with heap:=h1,drawn:=d} (.ref a) "set" :=⟨_,ha2,rfl⟩;refine wpAny_bind (L5 (Mo ty2 ?_))
 wp_walk
 have lt:a<s.heap.objs.size:=P9 ha;have e1:(s.heap.push {cls:= .type "list",data:= .seq #[]}).objs.size=s.heap.objs.size+1:=cP ..;have lo':s.heap.objs.size+1<=I:=by rw [<-e1];exact lo
 have aI:a≠I:=λz=>by subst z;exact absurd lt (cY.mpr (qX lo'))
 have SI:s.heap.objs.size≠I:=M0 lo';have Stp:s.heap.objs.size≠tp:=by
  rcases tpo with z|z
  ·rw [z];exact nS
  ·exact M0 (S7 (by rw [e1];exact V1 _) z)
 have hS3:=B2 (V5 λx=>x.push f6) hS2 rfl;have hS4:=B2 (V5 λx=>x.pop) hS3 rfl;have same:L9 s.heap.objs.size h1 ((h1.update s.heap.objs.size (V5 λx=>x.push f6)).update s.heap.objs.size (V5 λx=>x.pop)):=(C7 ..).trans (C7 ..);have W:=Pr (prog:=prog) (A:=A.in1) calm S M aI tI;refine⟨W2 F.plain_extend_loop _,codeAny_extend_loopS W.toS ?_ s.heap.objs.size (by simp [SI,nS,Stp]) _ vals.length 0 _ #[] _ rfl (M7 _) ⟨same.extBut _ _ nS.symm ha2,first,same.extBut _ _ SI.symm hI,M.keep hm λo e=>same.extBut _ _ Stp.symm e⟩ hS4 (ItemsOf.nil _) λs' acc c' moved hS' items=> ?_⟩
 ·rw [M.perm.length_eq,G6,D0];exact S0 (T4 few) (by decide)
 have same_vals:acc.toList=vals:=by
  refine g7 λi=> ?_
  rw [M6];cases e:acc[i]? with
  |some v=>exact(items.2 i v e).symm
  |none=>
   have:vals.length<=i:=by rw [<-items.1];exact X3.mp e
   exact(J9 this).symm
 obtain⟨h',g',d',tk',os'⟩:=s';have mg:g'=s.gens:=moved.gens;have md':d'=d:=moved.drawn;have mo:os'=s.os:=moved.os;subst mg md' mo;refine⟨h',d',tk',acc,c',rfl,rfl,hS',λb o e=> ?_,by rw [same_vals];exact M.perm⟩;have lb:=P9 e;have nb:b≠s.heap.objs.size:=M0 lb;have nbI:b≠I:=λz=>by subst z;exact absurd lb (cY.mpr (qX lo'))
 exact moved.heap b o (by simp [nb,nbI]) (same.extBut _ _ nb (kept _ _ (old e)))
theorem VT (S:SetI (jW w) es t ns){vs:G0 G1}(p:vs.Perm (es.toList.map (·.2))): ∃ks,W9 vs ks/\ks.Nodup/\ ∀n,n∈ks↔n∈ns:=by
 have isint: ∀v∈vs,∃n t,v=dJ n t:=λv hv=>by
  obtain⟨e,he,rfl⟩:=S4.mp (p.mem_iff.mp hv);obtain⟨n,tk,rfl⟩:=S.nums e he;exact⟨n,tk,rfl⟩
 have hI:=intsAre_map vs isint;have pk:(vs.map numOf).Perm (es.toList.map Mm):=by
  refine(p.map numOf).trans ?_;rw [O0];have:es.toList.map (numOf∘λx=>x.2)=es.toList.map Mm:=A4 λe he=>by
   obtain⟨n,tk,rfl⟩:=S.nums e he;rfl
  rw [this]
 exact⟨_,hI,pk.nodup_iff.mpr S.nd,λn=>pk.mem_iff.trans (S.mem n)⟩
theorem Qb {Q:G1->G2->Prop}(calm:A.handled=none)(S:SetI (jW w) es t ns)(ha:s.heap.get? a=some (zE es ep t))(few:ns.length<64)
 (k: ∀ (h1 h':B6) d tk (out:S6 G1) (ks:G0 D3) (c:G7),(∀b o,s.heap.get? b=some o->h1.get? b=some o)->(∀b o,h1.get? b=some o->h'.get? b=some o)->h'.get? h1.objs.size=some (hJ "list" out c)->W9 out.toList ks->ks.Pairwise (· < ·)->(∀n,n∈ks↔n∈ns)->
  Q (.ref h1.objs.size) {s with heap:=h',drawn:=d,toks:=tk}):R3 (R7 prog w) A (call (.builtin "sorted") [.ref a]) Q E s:=by
 refine lJ IY z9 HX (HY _) (wpAny_bind (G8 (wpAny_bind (wpAny_bind (uS (bY (Wo calm S.tab ha (Y4 S.size (by omega))) λres s' listed=> ?_))))));obtain⟨h1,d,tk,acc,c0,rfl,rfl,made,kept,p⟩:=listed;refine wpAny_bind (pV made (G8 ?_));obtain⟨ks,hI,nd,mem⟩:=VT S p;have lk:ks.length<=ns.length:=Jy nd λn hn=>(mem n).mp hn
 have len:acc.toList.length=ks.length:=hI.length;have few':acc.toList.length<64:=by omega
 have fresh:(h1.push (hJ "list" acc.toList.toArray 0)).get? h1.objs.size=some (hJ "list" acc.toList.toArray 0):=R1 _ rfl;refine wpAny_bind (pS (wpAny_bind (L5 (E7 uU ⟨_,fresh,rfl⟩ sZ (list_sort_tree fresh hI few' λout ns' i1 i2 i3=>⟨_,rfl,?_⟩) (uV _)))) (S0 (T4 few') (by decide)));obtain⟨c,lies⟩:=sortedHeap_at (vs:=acc.toList) (out:=out) fresh;refine G8 ⟨_,rfl,k h1 _ d tk out ns' c kept (λb ob e=> ?_) lies i1 ?_ λn=>(i2.mem_iff).trans (mem n)⟩
 ·have lt:=P9 e;rw [sortedHeap_old (M0 lt) (by rw [size_push'];exact g0 lt)];exact G3 _ e
 ·have nd':ns'.Nodup:=i2.nodup_iff.mpr nd;unfold nH at nd';exact(i3.and nd').imp λ⟨x,y⟩=>by omega
end
end HT
namespace L2
open PySem PySem.Spec PyProof.Rows PySem.SeqAt
variable {X:Cx}
theorem Inv.drew {pins:G0 (G9×Obj)}{σ:St}{H:Hp}{s:G2}(I:Inv X pins σ H s)(d:Drawn):Inv X pins σ H {s with drawn:=d}:=⟨I.ok,I.os,I.bare,I.base,I.loc,I.cell,I.free,I.freeC,I.pin,I.hok,I.len⟩
def UR (w:N4)(o:Obj)(ns:G0 D3):Prop:= ∃es ep t,o=HT.zE es ep t/\HT.SetI (HT.jW w) es t ns
theorem Pv (hc:X.calm=true):CallR X (.type "set") (λxs H Q=> ∃ (a:G9) (ns:G0 D3),xs= [.ref a]/\(SqL X.K H a (ns.map V.int)\/SqT X.K H a (ns.map V.int))/\ns.length<64/\ ∀ (p:G9) (o:Obj),H p=none->UR X.w o ns.reverse->Q (.ref p) (upd H p (.frz o (.own 0)))):=by
 intro pins s σ H xs us Q I r h;obtain⟨a,ns,rfl,hS,few,q⟩:=h;obtain⟨u,rfl,ru⟩:=yb r;cases ru;have fin: ∀h' tk es ep t,h'.get? s.heap.objs.size=some (HT.zE es ep t)->HT.SetI (HT.jW X.w) es t ns.reverse->(∀b o,s.heap.get? b=some o->h'.get? b=some o)->EP X pins σ Q (.ref s.heap.objs.size) {s with heap:=h',toks:=tk}:=λh' tk es ep t e S kept=>
  ⟨.ref _,_,I.laid (t':=tk) (o:= .frz (HT.zE es ep t) (.own 0)) kept (P3 _) ⟨e,⟨_,e⟩⟩,rfl,q _ _ (I.hok.fresh (P3 _)) ⟨es,ep,t,rfl,S⟩⟩
 rcases hS with hS|hS
 ·obtain⟨its,rv,pl,hz⟩:=I.list hS;have hi:=Zd rv;obtain⟨o,e1,e2,c,e3⟩:=pl.isList;exact HT.UP (I.ok.hd hc) (.inl rfl) ⟨o,e1,e2,c,e3⟩ hi (by omega) fin
 ·obtain⟨its,rv,pl,hz⟩:=I.tuple hS;have hi:=Zd rv;obtain⟨o,e1,e2,c,e3⟩:=pl;exact HT.UP (I.ok.hd hc) (.inr rfl) ⟨o,e1,e2,c,e3⟩ hi (by omega) fin
theorem YW (hc:X.calm=true):CallR X (.builtin "sorted") (λxs H Q=> ∃ (p:G9) (o:Obj) (ns:G0 D3),xs= [.ref p]/\H p=some (.frz o (.own 0))/\UR X.w o ns/\ns.length<64/\ ∀ (q:G9) (ks:G0 D3),H q=none->ks.Pairwise (· < ·)->(∀n,n∈ks↔n∈ns)->Q (.ref q) (upd H q (.lst (ks.map V.int)))):=by
 intro pins s σ H xs us Q I r h;obtain⟨p,o,ns,rfl,hp,⟨es,ep,t,rfl,S⟩,few,q⟩:=h;obtain⟨u,rfl,ru⟩:=yb r;cases ru;refine HT.Qb (I.ok.hd hc) S (I.hok p _ hp).1 few λh1 h' d tk out ks c k1 k2 lies a1 a2 a3=> ?_
 have I1:=(I.kept (t':=s.toks) k1).drew d;have lk:ks.length<=ns.length:=HT.Jy (a2.imp λz=>by omega) λn hn=>(a3 n).mp hn
 refine⟨.ref _,_,I1.laid (t':=tk) (o:= .lst (ks.map V.int)) k2 (P3 _) ⟨?_,out.toList,c,YF a1,lies⟩,rfl,q _ ks (I1.hok.fresh (P3 _)) a2 a3⟩;rw [G6];exact S0 lk (S0 (T4 few) (by decide))
def dSS (ta:TAD):TED:=λσ h Q=>ta σ h λds h1=> ∃ns:G0 D3,(ds= [.tup (ns.map D.int)]\/ ∃a,ds= [.lst a]/\h1 a=some (ns.map D.int))/\ns.length<64/\ ∀ (p:G9) (ks:G0 D3),h1 p=none->ks.Pairwise (· < ·)->(∀n,n∈ks↔n∈ns)->Q (.lst p) (zR h1 p (ks.map D.int))
theorem jss {a : N0} {ta : TAD} {p p2 pos pos2 : Pos} (hc : X.calm = true) (hg : Gl X "sorted") (hm : X.mg "sorted" = none) (hg2 : Gl X "set") (hm2 : X.mg "set" = none) (ha : JA X [a] ta) (hs : D7 [a] X.env = [(false, J0 a X.env)] := by rfl)
    (h1 : D7 [.Call (.Name "set" p2) [a] [] pos2] X.env = (false, J0 (.Call (.Name "set" p2) [a] [] pos2) X.env) :: D7 [] X.env := by rfl) (h2 : (K7 pos (D7 [] X.env)).any (·.1) = false := by rfl) (h3 : (K7 pos2 (D7 [] X.env)).any (·.1) = false := by rfl) :
    JE X (.Call (.Name "sorted" p) [.Call (.Name "set" p2) [a] [] pos2] [] pos) (dSS ta) :=
  ⟨(yt (YW hc) hg hm (by decide +kernel) (zA (JM (Pv hc) hg2 hm2 (by decide +kernel) ha.to (by decide) (by decide) hs h3) pa_nil h1) (by decide) (by decide) h1 h2).imp
    fun σ H Q ⟨σd, h, Qd, rs, rh, t, post⟩ => LA.bind rs rh t fun ds vs h1 H1 k1 rs1 rh1 r1 ⟨ns, hd, few, q⟩ => by
      have fin : ∀ c o, H1 c = none → UR X.w o ns.reverse → ∃ (p : G9) (o' : Obj) (ms : G0 D3), [V.ref c] = [.ref p] ∧ upd H1 c (.frz o (.own 0)) p = some (.frz o' (.own 0)) ∧ UR X.w o' ms ∧ ms.length < 64 ∧ ∀ (l : G9) (ks : G0 D3), upd H1 c (.frz o (.own 0)) l = none → ks.Pairwise (· < ·) → (∀ n, n ∈ ks ↔ n ∈ ms) → Q (.ref l) (upd (upd H1 c (.frz o (.own 0))) l (.lst (ks.map V.int))) := fun c o hcn S =>
        ⟨c, o, ns.reverse, rfl, jh, S, by simpa using few, fun l ks hl a b => by
          have rh2 := rh1.new (o := .frz o (.own 0)) hcn
          exact post (.lst l) (.ref l) _ _ (k1.trans ((Kept.new hcn).trans (.new hl))) (rh2.newL hl (wF ks)) ⟨rfl, _, jh⟩ (q l ks (rh2.free hl) a fun n => by rw [b n, K4])⟩
      rcases hd with e | ⟨a, e, ha⟩
      · subst e
        obtain ⟨v, e, r2⟩ := jp r1
        obtain ⟨a, ws, e1, hH, r3⟩ := (show ∃ a vs, v = .ref a ∧ H1 a = some (.tup vs) ∧ RelDs X.K H1 (ns.map D.int) vs from r2)
        rw [jS r3] at hH
        subst e e1
        exact ⟨a, ns, rfl, .inr (SqT.of hH), few, fin⟩
      · subst e
        obtain ⟨v, e, r2⟩ := jp r1
        obtain ⟨ws, hH, r3⟩ := rh1 a _ ha
        have e1 : v = .ref a := r2.1
        rw [jS r3] at hH
        subst e e1
        exact ⟨a, ns, rfl, .inl (SqL.of hH), few, fin⟩⟩
end L2
namespace L2
theorem IsS.ext {n:G7}{S S':G0 G7}(h:IsS n S)(h':IsS n S')(m: ∀j,j∈S↔j∈S'):S=S':=by
 obtain⟨p,rfl⟩:=h;obtain⟨q,rfl⟩:=h';refine mB λj hj=> ?_
 have:=m j;rw [C8,C8] at this;have e:p j=true↔q j=true:=⟨λz=>(this.mp ⟨hj,z⟩).2,λz=>(this.mpr ⟨hj,z⟩).2⟩;cases hp:p j<;>cases hq:q j<;>simp_all
def unS (n:G7)(A B:G0 G7):G0 G7:=(R4 n).filter λj=>decide (j∈A)||decide (j∈B)
theorem NA (n:G7)(A B:G0 G7):IsS n (unS n A B):=⟨_,rfl⟩
theorem VU {n:G7}{A B:G0 G7}(hA:IsS n A)(hB:IsS n B)(j:G7):j∈unS n A B↔j∈A\/j∈B:=by
 unfold unS;rw [C8,S8];simp only [bT,X0];exact⟨λz=>z.2,λz=>⟨z.elim hA.lt hB.lt,z⟩⟩
theorem US: ∀ {xs ys:G0 D3},xs.Pairwise (· < ·)->ys.Pairwise (· < ·)->(∀n,n∈xs↔n∈ys)->xs=ys
 | [],[],_,_,_=>rfl
 | [],y::ys,_,_,m=>by have:=(m y).mpr (.head _);cases this
 |x::xs,[],_,_,m=>by have:=(m x).mp (.head _);cases this
 |x::xs,y::ys,hx,hy,m=>by
  obtain⟨hx1,hx2⟩:=K9.mp hx;obtain⟨hy1,hy2⟩:=K9.mp hy;have a:x=y:=by
   rcases D2.mp ((m x).mp (.head _)) with z|z
   ·exact z
   ·rcases D2.mp ((m y).mpr (.head _)) with w|w
    ·exact w.symm
    ·have:=hy1 x z;have:=hx1 y w;omega
  subst a;refine congrArg _ (US hx2 hy2 λn=> ?_);constructor
  ·intro z;rcases D2.mp ((m n).mp (.tail _ z)) with w|w
   ·have:=hx1 n z;omega
   ·exact w
  ·intro z;rcases D2.mp ((m n).mpr (.tail _ z)) with w|w
   ·have:=hy1 n z;omega
   ·exact w
theorem CK {n:G7}{A B:G0 G7}(hA:IsS n A)(hB:IsS n B){ks:G0 D3}(r:ks.Pairwise (· < ·))(m: ∀x,x∈ks↔x∈(A++B).map λ(j:G7)=>(j:D3)):ks=(unS n A B).map λ(j:G7)=>(j:D3):=by
 refine US r ?_ λx=> ?_
 ·rw [K6];exact(NA n A B).rise.imp λz=>by omega
 ·rw [m x,S4,S4];constructor
  ·rintro ⟨j,hj,e⟩;exact⟨j,(VU hA hB j).mpr (T8.mp hj),e⟩
  ·rintro ⟨j,hj,e⟩;exact⟨j,T8.mpr ((VU hA hB j).mp hj),e⟩
inductive Made (L:G0 G7):G7->Prop
 |z:Made L 0
 |s {n l:G7}:Made L n->l∈L->Made L (n+l)
theorem UT: ∀ (L:G0 G7) (g d:G7),d∣L.foldl tQ g↔d∣g/\ ∀l∈L,d∣l
 | [],g,d=>by simp
 |x::L,g,d=>by
  show d∣L.foldl tQ (tQ g x)↔_;rw [UT L,Nat.dvd_gcd_iff];simp only [D2,forall_eq_or_imp];exact⟨λ⟨⟨a,b⟩,c⟩=>⟨a,b,c⟩,λ⟨a,b,c⟩=>⟨⟨a,b⟩,c⟩⟩
end L2
namespace HT
open PySem PyProof.Rows
section
variable {prog:R9}{w:N4}{A:T3}{E:G1->G2->Prop}{σ α β:Type}{J:G2->Prop}
def Tm (prog:R9)(w:N4)(A:T3)(E:G1->G2->Prop)(J:G2->Prop){σ α:Type}(m:aC σ Sem α)(Q:α->σ->Prop)(st:σ):Prop:=
 ∀s,J s->R3 (R7 prog w) A (m.run st) (λr s'=>Q r.1 r.2/\J s') E s
theorem Tm.pure {a:α}{Q:α->σ->Prop}{st:σ}(h:Q a st):Tm prog w A E J (Pure.pure a:aC σ Sem α) Q st:=λs j=>by
 rw [StateT.run_pure];exact G8 ⟨h,j⟩
theorem Tm.bind {m:aC σ Sem α}{f:α->aC σ Sem β}{Q:β->σ->Prop}{st:σ}(h:Tm prog w A E J m (λa st'=>Tm prog w A E J (f a) Q st') st):Tm prog w A E J (m >>= f) Q st:=λs j=>by
 rw [StateT.run_bind];exact wpAny_bind (B1 (h s j) (λr s' x=>x.1 s' x.2) λ_ _ e=>e)
theorem Tm.get {Q:σ->σ->Prop}{st:σ}(h:Q st st):Tm prog w A E J (MonadState.get:aC σ Sem σ) Q st:=λs j=>by
 show R3 _ _ ((StateT.get:aC σ Sem σ).run st) _ _ _;exact G8 ⟨h,j⟩
theorem Tm.mono {m:aC σ Sem α}{Q Q':α->σ->Prop}{st:σ}(h:Tm prog w A E J m Q st)(q: ∀a st',Q a st'->Q' a st'):Tm prog w A E J m Q' st:=λs j=>
 B1 (h s j) (λr s' x=>⟨q _ _ x.1,x.2⟩) λ_ _ e=>e
theorem Tm.range' {f:G7->β->aC σ Sem (gK β)}(I:G7->β->σ->Prop){Q:β->σ->Prop}{b:G7}(step: ∀i c st,i<b->I i c st->Tm prog w A E J (f i c) (λr st'=>match r with| .done c'=>Q c' st'| .yield c'=>I (i+1) c' st') st)(fin: ∀c st,I b c st->Q c st):
 ∀ (k i:G7) (c:β) (st:σ),i+k=b->I i c st->Tm prog w A E J (forIn (List.range' i k) c f) Q st
 |0,i,c,st,e,h=>by
  rw [List.range'_zero,uJ];exact .pure (fin c st (by rw [<-e];exact h))
 |k+1,i,c,st,e,h=>by
  rw [List.range'_succ,dE];refine .bind ((step i c st (by omega) h).mono λr st' x=> ?_);cases r with
  |done c'=>exact .pure x
  |yield c'=>exact Tm.range' I step fin k (i+1) c' st' (by omega) x
theorem Tm.range {f:G7->β->aC σ Sem (gK β)}(I:G7->β->σ->Prop){Q:β->σ->Prop}{a b:G7}{c:β}{st:σ}(hab:a<=b)(h:I a c st)(step: ∀i c st,i<b->I i c st->Tm prog w A E J (f i c) (λr st'=>match r with| .done c'=>Q c' st'| .yield c'=>I (i+1) c' st') st)(fin: ∀c st,I b c st->Q c st):
 Tm prog w A E J (forIn [a:b] c f) Q st:=λs j=>by
 rw [Std.Legacy.Range.forIn_eq_forIn_range'];have e:([a:b]:Std.Legacy.Range).size=b-a:=by simp [Std.Legacy.Range.size]
 rw [e];exact Tm.range' I step fin (b-a) a c st (by omega) h s j
end
section
variable {prog:R9}{w:N4}{A:T3}{E:G1->G2->Prop}{J:G2->Prop}{κ:SortKind}{U:R0->Prop}{R:R0->R0->T5}
def Yn (prog:R9)(w:N4)(A:T3)(J:G2->Prop)(κ:SortKind)(U:R0->Prop)(R:R0->R0->T5):Prop:=
 ∀x y,U x->U y-> ∀s,J s->R3 (R7 prog w) A (keyLt' κ x.1 y.1) (λb s'=>b=R x y/\J s') (λ_ _=>False) s
theorem Tm.lt {x y:R0}{st:C9}{Q:P4 T5->C9->Prop}(a:Yn prog w A J κ U R)(k:kindOf st=κ)(hx:U x)(hy:U y)(q:Q (some (R x y)) st):Tm prog w A E J (lt' x y) Q st:=by
 rw [lt'_eq];refine .bind (.get ?_);rw [k];intro s j;rw [StateT.run_bind];refine wpAny_bind ?_;show R3 _ _ ((StateT.lift _:aC C9 Sem _).run st) _ _ _;rw [StateT.run_lift];refine wpAny_bind (iT (B1 (a x y hx hy s j) (λb s' x=> ?_) λ_ _ e=>e.elim));obtain⟨rfl,j'⟩:=x;exact G8 (Tm.pure (prog:=prog) (w:=w) (A:=A) (E:=E) (J:=J) q s' j')
theorem Tm.elem {arr:S6 R0}{i:G7}{x:R0}{st:C9}{Q:R0->C9->Prop}(e:arr[i]? =some x)(q:Q x st):Tm prog w A E J (elem' arr i) Q st:=by
 rw [elem'_eq,e];exact .pure q
theorem Am {n lo hi:G7}{g:G7->T5}{st:C9}{f:G7->P4 (P4 G7)×G7×G7->aC C9 Sem (gK (P4 (P4 G7)×G7×G7))}(anti: ∀i j,i<=j->j<n->g j=true->g i=true)
 (h1:lo<=hi)(h2:hi<=n)(a1: ∀i,i<lo->g i=true)(a2: ∀i,hi<=i->i<n->g i=false)
 (stop: ∀i l,Tm prog w A E J (f i (none,l,l)) (λr st'=>st'=st/\r= .done (none,l,l)) st)
 (step: ∀i l u,l<u->u<=n->Tm prog w A E J (f i (none,l,u)) (λr st'=>st'=st/\r=if g (l+(u-l) / 2)=true then .yield (none,l+(u-l) / 2+1,u) else .yield (none,l,l+(u-l) / 2)) st):
 Tm prog w A E J (forIn [0:n] (none,lo,hi) f) (λc st'=>st'=st/\c.1=none/\c.2.2<=n/\(∀i,i<c.2.2->g i=true)/\ ∀i,c.2.2<=i->i<n->g i=false) st:=by
 have no: ∀i j,i<=j->j<n->g i=false->g j=false:=λi j hij hj z=>by
  cases hb:g j with
  |false=>rfl
  |true=>rw [anti i j hij hj hb] at z;cases z
 refine Tm.range (λi c st'=>st'=st/\c.1=none/\c.2.1<=c.2.2/\c.2.2<=n/\(∀i,i<c.2.1->g i=true)/\(∀i,c.2.2<=i->i<n->g i=false)/\c.2.2-c.2.1+i<=n) (M7 _) ⟨rfl,rfl,h1,h2,a1,a2,by dsimp only;omega⟩ ?_ ?_
 ·rintro i ⟨r,l,u⟩ _ hi ⟨rfl,hr,b1,b2,b3,b4,b5⟩;dsimp only at hr b1 b2 b3 b4 b5;subst hr
  by_cases z:l=u
  ·subst z;refine(stop i l).mono ?_;rintro _ _ ⟨rfl,rfl⟩;exact⟨rfl,rfl,b2,b3,b4⟩
  ·refine(step i l u (by omega) b2).mono ?_;rintro _ _ ⟨rfl,rfl⟩;cases hg:g (l+(u-l) / 2) with
   |true=>
    rw [R6 rfl];exact⟨rfl,rfl,by dsimp only;omega,b2,λj hj=>anti j _ (by dsimp only at hj;omega) (by omega) hg,b4,by dsimp only;omega⟩
   |false=>
    rw [R8 (by decide)];exact⟨rfl,rfl,by dsimp only;omega,by dsimp only;omega,b3,λj hj hn=>no _ j hj hn hg,by dsimp only;omega⟩
 ·rintro ⟨r,l,u⟩ _ ⟨rfl,hr,b1,b2,b3,b4,b5⟩;dsimp only at hr b1 b2 b3 b4 b5 ⊢;exact⟨rfl,hr,b2,λj hj=>b3 j (by omega),b4⟩
def gal:T5->R0->S6 R0->G7->G7->G7->aC C9 Sem (P4 G7):=sortPriv% PySem.Builtin.gallop
def byd (R:R0->R0->T5)(left:T5)(key:R0)(arr:S6 R0)(base i:G7):T5:=
 match arr[base+i]? with
 |some x=>if left=true then R x key else !R key x
 |none=>false
theorem Pw {left:T5}{key:R0}{arr:S6 R0}{base n hint:G7}{st:C9}{Q:P4 G7->C9->Prop}(a:Yn prog w A J κ U R)(k:kindOf st=κ)(uk:U key)(ua: ∀i,i<n-> ∃x,arr[base+i]? =some x/\U x)
 (anti: ∀i j,i<=j->j<n->byd R left key arr base j=true->byd R left key arr base i=true)(hh:hint<n)
 (q: ∀m,m<=n->(∀i,i<m->byd R left key arr base i=true)->(∀i,m<=i->i<n->byd R left key arr base i=false)->Q (some m) st):Tm prog w A E J (gal left key arr base n hint) Q st:=by
 have ask: ∀i (Q':P4 T5->C9->Prop),i<n->Q' (some (byd R left key arr base i)) st->Tm prog w A E J (do let x <-elem' arr (base+i);if left=true then lt' x key else do let b <-lt' key x;Pure.pure (b.map λz=> !z)) Q' st:=λi Q' hi q'=>by
  obtain⟨x,ex,ux⟩:=ua i hi;refine .bind (.elem ex ?_);unfold byd at q';rw [ex] at q';cases left with
  |true=>exact .lt a k ux uk q'
  |false=>exact .bind (.lt a k uk ux (.pure q'))
 have no: ∀i j,i<=j->j<n->byd R left key arr base i=false->byd R left key arr base j=false:=λi j hij hj z=>by
  cases hb:byd R left key arr base j with
  |false=>rfl
  |true=>rw [anti i j hij hj hb] at z;cases z
 unfold gal;refine .bind (ask hint _ hh ?_);dsimp only;cases hb:byd R left key arr base hint with
 |true=>
  rw [R6 rfl];refine .bind (Tm.mono (Tm.range (λi c st'=>st'=st/\c.1=none/\c.2.1<c.2.2/\hint+c.2.1<n/\byd R left key arr base (hint+c.2.1)=true/\i+1<=c.2.2)
   (Q:=λc st'=>st'=st/\c.1=none/\c.2.1<c.2.2/\hint+c.2.1<n/\byd R left key arr base (hint+c.2.1)=true/\(n-hint<=c.2.2\/byd R left key arr base (hint+c.2.2)=false)) (M7 _) ⟨rfl,rfl,by decide,by omega,by simpa using hb,by decide⟩ ?_ ?_) ?_)
  ·rintro i ⟨r,lo,of⟩ _ hi ⟨rfl,hr,h1,h2,h3,h4⟩;dsimp only at hr h1 h2 h3 h4 ⊢;subst hr
   by_cases z:of>=n-hint
   ·rw [R6 z];exact .pure ⟨rfl,rfl,h1,h2,h3,.inl z⟩
   ·rw [R8 z];refine .bind (ask (hint+of) _ (by omega) ?_);dsimp only;cases hc:byd R left key arr base (hint+of) with
    |true=>exact .pure ⟨rfl,rfl,by dsimp only;omega,by dsimp only;omega,hc,by dsimp only;omega⟩
    |false=>exact .pure ⟨rfl,rfl,h1,h2,h3,.inr hc⟩
  ·rintro ⟨r,lo,of⟩ _ ⟨rfl,hr,h1,h2,h3,h4⟩;exact⟨rfl,hr,h1,h2,h3,.inl (by dsimp only at h4 ⊢;omega)⟩
  ·rintro ⟨r,lo,of⟩ _ ⟨rfl,hr,h1,h2,h3,h4⟩;dsimp only at hr h1 h2 h3 h4 ⊢;subst hr;dsimp only;refine .bind (Tm.mono (Am (g:=byd R left key arr base) anti (by omega) (by omega) (λi hi=>anti i _ (by omega) h2 h3) (λi hi hn=> ?_) (λi l=> ?_) (λi l u hl hu=> ?_)) ?_)
   ·rcases h4 with z|z
    ·omega
    ·exact no (hint+of) i (by omega) hn z
   ·rw [R6 (P3 l)];exact .pure ⟨rfl,rfl⟩
   ·rw [R8 (show ¬l>=u by omega)];refine .bind (ask (l+(u-l) / 2) _ (by omega) ?_);dsimp only;cases byd R left key arr base (l+(u-l) / 2)<;>exact .pure ⟨rfl,rfl⟩
   ·rintro ⟨r,l,u⟩ _ ⟨rfl,hr,b2,b3,b4⟩;dsimp only at hr b2 b3 b4 ⊢;subst hr;exact .pure (q u b2 b3 b4)
 |false=>
  rw [R8 (by decide)];refine .bind (Tm.mono (Tm.range (λi c st'=>st'=st/\c.1=none/\c.2.1<c.2.2/\c.2.1<=hint/\byd R left key arr base (hint-c.2.1)=false/\i+1<=c.2.2)
   (Q:=λc st'=>st'=st/\c.1=none/\c.2.1<c.2.2/\c.2.1<=hint/\byd R left key arr base (hint-c.2.1)=false/\(hint+1<=c.2.2\/byd R left key arr base (hint-c.2.2)=true)) (M7 _) ⟨rfl,rfl,by decide,by dsimp only;omega,by simpa using hb,by decide⟩ ?_ ?_) ?_)
  ·rintro i ⟨r,lo,of⟩ _ hi ⟨rfl,hr,h1,h2,h3,h4⟩;dsimp only at hr h1 h2 h3 h4 ⊢;subst hr
   by_cases z:of>=hint+1
   ·rw [R6 z];exact .pure ⟨rfl,rfl,h1,h2,h3,.inl z⟩
   ·rw [R8 z];refine .bind (ask (hint-of) _ (by omega) ?_);dsimp only;cases hc:byd R left key arr base (hint-of) with
    |false=>exact .pure ⟨rfl,rfl,by dsimp only;omega,by dsimp only;omega,hc,by dsimp only;omega⟩
    |true=>exact .pure ⟨rfl,rfl,h1,h2,h3,.inr hc⟩
  ·rintro ⟨r,lo,of⟩ _ ⟨rfl,hr,h1,h2,h3,h4⟩;exact⟨rfl,hr,h1,h2,h3,.inl (by dsimp only at h4 ⊢;omega)⟩
  ·rintro ⟨r,lo,of⟩ _ ⟨rfl,hr,h1,h2,h3,h4⟩;dsimp only at hr h1 h2 h3 h4 ⊢;subst hr;dsimp only;refine .bind (Tm.mono (Am (g:=byd R left key arr base) anti (by omega) (by omega) (λi hi=> ?_) (λi hi hn=>no _ i hi hn h3) (λi l=> ?_) (λi l u hl hu=> ?_)) ?_)
   ·rcases h4 with z|z
    ·omega
    ·exact anti i (hint-of) (by omega) (by omega) z
   ·rw [R6 (P3 l)];exact .pure ⟨rfl,rfl⟩
   ·rw [R8 (show ¬l>=u by omega)];refine .bind (ask (l+(u-l) / 2) _ (by omega) ?_);dsimp only;cases byd R left key arr base (l+(u-l) / 2)<;>exact .pure ⟨rfl,rfl⟩
   ·rintro ⟨r,l,u⟩ _ ⟨rfl,hr,b2,b3,b4⟩;dsimp only at hr b2 b3 b4 ⊢;subst hr;exact .pure (q u b2 b3 b4)
end
section
variable {κ:Type}{U:κ->Prop}{R:κ->κ->T5}{al bl:G0 κ}
structure Ordd (U:κ->Prop)(R:κ->κ->T5):Prop where
 asym: ∀x y,U x->U y->R x y=true->R y x=false
 neg: ∀x y z,U x->U y->U z->R x z=true->R x y=true\/R y z=true
theorem Ordd.refl (o:Ordd U R){x:κ}(u:U x):R x x=false:=by
 cases h:R x x with
 |false=>rfl
 |true=>have:=o.asym x x u u h;rw [h] at this;exact this
theorem Ordd.trans (o:Ordd U R){x y z:κ}(ux:U x)(uy:U y)(uz:U z)(a:R y x=false)(b:R z y=false):R z x=false:=by
 cases h:R z x with
 |false=>rfl
 |true=>
  rcases o.neg z y x uz uy ux h with z|z
  ·rw [b] at z;cases z
  ·rw [a] at z;cases z
abbrev Srt (R:κ->κ->T5)(l:G0 κ):Prop:=l.Pairwise λx y=>R y x=false
structure MI (R:κ->κ->T5)(al bl:G0 κ)(ia ib:G7)(out:G0 κ):Prop where
 perm:out.Perm (al.take ia++bl.take ib)
 srt:Srt R out
 ra: ∀x∈out,∀y∈al.drop ia,R y x=false
 rb: ∀x∈out,∀y∈bl.drop ib,R y x=false
theorem jX {l:G0 κ}{i:G7}{y:κ}(h:l[i]? =some y):l.drop i=y::l.drop (i+1):=by
 obtain⟨hi,e⟩:=P5.mp h;rw [bQ hi,e]
theorem Zt {l:G0 κ}{i:G7}{y:κ}(h:l[i]? =some y):l.take (i+1)=l.take i++ [y]:=by
 rw [K5,h];rfl
theorem MI.start (al bl:G0 κ):MI R al bl 0 0 []:=⟨.refl _,.nil,λx hx=>(F4 hx).elim,λx hx=>(F4 hx).elim⟩
variable {ia ib:G7}
theorem MI.pushB {out:G0 κ}{y:κ}(m:MI R al bl ia ib out)(o:Ordd U R)(ua: ∀x∈al,U x)(ub: ∀x∈bl,U x)(sa:Srt R al)(sb:Srt R bl)(hy:bl[ib]? =some y)(lt: ∀z,al[ia]? =some z->R y z=true):MI R al bl ia (ib+1) (out++ [y]):=by
 have dy:=jX hy;have uy:=ub y (P6 hy);have sdb:Srt R (bl.drop ib):=sb.sublist (V8 _ _);rw [dy] at sdb;refine⟨?_,?_,λx hx z hz=> ?_,λx hx z hz=> ?_⟩
 ·rw [Zt hy,<-D6];exact m.perm.append_right _
 ·refine B7.mpr ⟨m.srt,E5 _ _,λx hx z hz=> ?_⟩;rw [P1.mp hz];exact m.rb x hx y (by rw [dy];exact P7 ..)
 ·rcases T8.mp hx with w|w
  ·exact m.ra x w z hz
  ·rw [P1.mp w];cases e:al[ia]? with
   |none=>rw [A6 (lK.mp e)] at hz;cases hz
   |some a0=>
    have da:=jX e;have ua0:=ua a0 (P6 e);have sda:Srt R (al.drop ia):=sa.sublist (V8 _ _);rw [da] at sda hz;have l0:=o.asym y a0 uy ua0 (lt a0 e);rcases D2.mp hz with v|v
    ·rw [v];exact l0
    ·exact o.trans uy ua0 (ua z (A9 v)) l0 ((K9.mp sda).1 z v)
 ·rcases T8.mp hx with w|w
  ·exact m.rb x w z (by rw [dy];exact D1 _ hz)
  ·rw [P1.mp w];exact(K9.mp sdb).1 z hz
theorem MI.pushA {out:G0 κ}{y:κ}(m:MI R al bl ia ib out)(o:Ordd U R)(ua: ∀x∈al,U x)(ub: ∀x∈bl,U x)(sa:Srt R al)(sb:Srt R bl)(hy:al[ia]? =some y)(ge: ∀z,bl[ib]? =some z->R z y=false):MI R al bl (ia+1) ib (out++ [y]):=by
 have dy:=jX hy;have uy:=ua y (P6 hy);have sda:Srt R (al.drop ia):=sa.sublist (V8 _ _);rw [dy] at sda;refine⟨?_,?_,λx hx z hz=> ?_,λx hx z hz=> ?_⟩
 ·rw [Zt hy];refine(m.perm.append_right [y]).trans ?_;rw [D6,D6];exact(dP).append_left _
 ·refine B7.mpr ⟨m.srt,E5 _ _,λx hx z hz=> ?_⟩;rw [P1.mp hz];exact m.ra x hx y (by rw [dy];exact P7 ..)
 ·rcases T8.mp hx with w|w
  ·exact m.ra x w z (by rw [dy];exact D1 _ hz)
  ·rw [P1.mp w];exact(K9.mp sda).1 z hz
 ·rcases T8.mp hx with w|w
  ·exact m.rb x w z hz
  ·rw [P1.mp w];cases e:bl[ib]? with
   |none=>rw [A6 (lK.mp e)] at hz;cases hz
   |some b0=>
    have db:=jX e;have ub0:=ub b0 (P6 e);have sdb:Srt R (bl.drop ib):=sb.sublist (V8 _ _);rw [db] at sdb hz;have l0:=ge b0 e;rcases D2.mp hz with v|v
    ·rw [v];exact l0
    ·exact o.trans uy ub0 (ub z (A9 v)) l0 ((K9.mp sdb).1 z v)
theorem MI.manyA (o:Ordd U R)(ua: ∀x∈al,U x)(ub: ∀x∈bl,U x)(sa:Srt R al)(sb:Srt R bl): ∀ (k:G7) {ia:G7} {out:G0 κ},MI R al bl ia ib out->ia+k<=al.length->(∀i,i<k-> ∀y,al[ia+i]? =some y-> ∀z,bl[ib]? =some z->R z y=false)->MI R al bl (ia+k) ib (out++(al.drop ia).take k)
 |0,ia,out,m,_,_=>by rw [lB,O6];exact m
 |k+1,ia,out,m,hk,h=>by
  obtain⟨y,hy⟩: ∃y,al[ia]? =some y:=⟨_,P2 (by omega)⟩;have m1:=m.pushA o ua ub sa sb hy (h 0 (by omega) y hy);have:=MI.manyA o ua ub sa sb k m1 (by omega) (λi hi y hy=>h (i+1) (by omega) y (by rw [show ia+(i+1)=ia+1+i by omega];exact hy));rw [show ia+(k+1)=ia+1+k by omega,jX hy,pH,rQ];exact this
theorem MI.manyB (o:Ordd U R)(ua: ∀x∈al,U x)(ub: ∀x∈bl,U x)(sa:Srt R al)(sb:Srt R bl): ∀ (k:G7) {ib:G7} {out:G0 κ},MI R al bl ia ib out->ib+k<=bl.length->(∀i,i<k-> ∀y,bl[ib+i]? =some y-> ∀z,al[ia]? =some z->R y z=true)->MI R al bl ia (ib+k) (out++(bl.drop ib).take k)
 |0,ib,out,m,_,_=>by rw [lB,O6];exact m
 |k+1,ib,out,m,hk,h=>by
  obtain⟨y,hy⟩: ∃y,bl[ib]? =some y:=⟨_,P2 (by omega)⟩;have m1:=m.pushB o ua ub sa sb hy (h 0 (by omega) y hy);have:=MI.manyB o ua ub sa sb k m1 (by omega) (λi hi y hy=>h (i+1) (by omega) y (by rw [show ib+(i+1)=ib+1+i by omega];exact hy));rw [show ib+(k+1)=ib+1+k by omega,jX hy,pH,rQ];exact this
theorem MI.all {out:G0 κ}(m:MI R al bl al.length bl.length out):out.Perm (al++bl)/\Srt R out:=by
 have:=m.perm;rw [iQ,iQ] at this;exact⟨this,m.srt⟩
theorem MI.done {out:G0 κ}(m:MI R al bl ia ib out)(o:Ordd U R)(ua: ∀x∈al,U x)(ub: ∀x∈bl,U x)(sa:Srt R al)(sb:Srt R bl)(ha:ia<=al.length)(hb:ib<=bl.length)(h:ia=al.length\/ib=bl.length):(out++al.drop ia++bl.drop ib).Perm (al++bl)/\Srt R (out++al.drop ia++bl.drop ib):=by
 have m1:=MI.manyA o ua ub sa sb (al.length-ia) m (by omega) (λi hi y hy z hz=>by
  have:=(P5.mp hz).1;omega)
 rw [show ia+(al.length-ia)=al.length by omega,C5 (by rw [F9];exact P3 _)] at m1;have m2:=MI.manyB o ua ub sa sb (bl.length-ib) m1 (by omega) (λi hi y hy z hz=>by
  have:=(P5.mp hz).1;omega)
 rw [show ib+(bl.length-ib)=bl.length by omega,C5 (l:=bl.drop ib) (by rw [F9];exact P3 _)] at m2;exact m2.all
theorem MI.lastA {out:G0 κ}(m:MI R al bl ia ib out)(o:Ordd U R)(ua: ∀x∈al,U x)(ub: ∀x∈bl,U x)(sa:Srt R al)(sb:Srt R bl)(ha:ia+1=al.length)(hb:ib<=bl.length)(h: ∀y∈bl,∀z,al[al.length-1]? =some z->R y z=true):(out++bl.drop ib++al.drop ia).Perm (al++bl)/\Srt R (out++bl.drop ib++al.drop ia):=by
 have m2:=MI.manyB o ua ub sa sb (bl.length-ib) m (by omega) (λi hi y hy z hz=>h y (P6 hy) z (by rw [<-ha];exact hz));rw [show ib+(bl.length-ib)=bl.length by omega,C5 (by rw [F9];exact P3 _)] at m2;have m1:=MI.manyA o ua ub sa sb (al.length-ia) m2 (by omega) (λi hi y hy z hz=>by
  have:=(P5.mp hz).1;omega)
 rw [show ia+(al.length-ia)=al.length by omega,C5 (l:=al.drop ia) (by rw [F9];exact P3 _)] at m1;exact m1.all
end
section
variable {prog:R9}{w:N4}{A:T3}{E:G1->G2->Prop}{J:G2->Prop}{κ:SortKind}{U:R0->Prop}{R:R0->R0->T5}
theorem Tm.rule {σ:Type}{x:U2}{Q:Unit->σ->Prop}{st:σ}(q:Q () st):Tm prog w A E J (liftM (PySem.rule x):aC σ Sem Unit) Q st:=λs j=>by
 show R3 _ _ ((StateT.lift _:aC σ Sem _).run st) _ _ _;rw [StateT.run_lift];exact wpAny_bind (iM (G8 ⟨q,j⟩))
theorem Tm.modify {σ:Type}{f:σ->σ}{Q:Unit->σ->Prop}{st:σ}(q:Q () (f st)):Tm prog w A E J (_root_.modify f:aC σ Sem PUnit) Q st:=λs j=>by
 rw [StateT.run_modify];exact G8 ⟨q,j⟩
def mLo:S6 R0->S6 R0->aC C9 Sem (S6 R0):=sortPriv% PySem.Builtin.mergeLo
def Gal (st st':C9):Prop:=kindOf st'=kindOf st/\T9 st'=T9 st/\C4 st'=C4 st/\cJ st'=cJ st
theorem Gal.refl (st:C9):Gal st st:=⟨rfl,rfl,rfl,rfl⟩
theorem JB (a:S6 R0)(i:G7):(a.extract i).toList=a.toList.drop i:=by
 rw [cK,Y1];exact C5 (by simp)
theorem UU (a:S6 R0)(i k:G7):(a.extract i (i+k)).toList=(a.toList.drop i).take k:=by
 rw [cK,Y1,gM]
def yB (R:R0->R0->T5)(a b c:S6 R0):Prop:=c.toList.Perm (a.toList++b.toList)/\Srt R c.toList
structure Two (U:R0->Prop)(R:R0->R0->T5)(a b:S6 R0):Prop where
 o:Ordd U R
 ua: ∀x∈a.toList,U x
 ub: ∀x∈b.toList,U x
 sa:Srt R a.toList
 sb:Srt R b.toList
 last: ∀y∈b.toList,∀z,a.toList[a.toList.length-1]? =some z->R y z=true
abbrev MA (R:R0->R0->T5)(a b:S6 R0)(ia ib:G7)(out:S6 R0):Prop:=MI R a.toList b.toList ia ib out.toList
section
variable {a b out:S6 R0}{ia ib:G7}
theorem MA.done (t:Two U R a b)(m:MA R a b ia ib out)(ha:ia<=a.size)(hb:ib<=b.size)(h:ia=a.size\/ib=b.size):yB R a b (out++a.extract ia++b.extract ib):=by
 have:=MI.done m t.o t.ua t.ub t.sa t.sb (by simpa using ha) (by simpa using hb) (by simpa using h);unfold yB;rw [L8,L8,JB,JB];exact this
theorem MA.lastA (t:Two U R a b)(m:MA R a b ia ib out)(ha:ia+1=a.size)(hb:ib<=b.size):yB R a b (out++b.extract ib++a.extract ia):=by
 have:=MI.lastA m t.o t.ua t.ub t.sa t.sb (by simpa using ha) (by simpa using hb) t.last;unfold yB;rw [L8,L8,JB,JB];exact this
theorem MA.pushB (t:Two U R a b){y:R0}(m:MA R a b ia ib out)(hy:b.toList[ib]? =some y)(lt: ∀z,a.toList[ia]? =some z->R y z=true):MA R a b ia (ib+1) (out.push y):=by
 have:=MI.pushB m t.o t.ua t.ub t.sa t.sb hy lt;show MI R _ _ _ _ (out.push y).toList;rw [U1];exact this
theorem MA.pushA (t:Two U R a b){y:R0}(m:MA R a b ia ib out)(hy:a.toList[ia]? =some y)(ge: ∀z,b.toList[ib]? =some z->R z y=false):MA R a b (ia+1) ib (out.push y):=by
 have:=MI.pushA m t.o t.ua t.ub t.sa t.sb hy ge;show MI R _ _ _ _ (out.push y).toList;rw [U1];exact this
theorem MA.manyA (t:Two U R a b)(m:MA R a b ia ib out)(k:G7)(hk:ia+k<=a.size)(h: ∀i,i<k-> ∀y,a.toList[ia+i]? =some y-> ∀z,b.toList[ib]? =some z->R z y=false):MA R a b (ia+k) ib (out++a.extract ia (ia+k)):=by
 have:=MI.manyA t.o t.ua t.ub t.sa t.sb k m (by simpa using hk) h;show MI R _ _ _ _ (out++a.extract ia (ia+k)).toList;rw [L8,UU];exact this
theorem MA.manyB (t:Two U R a b)(m:MA R a b ia ib out)(k:G7)(hk:ib+k<=b.size)(h: ∀i,i<k-> ∀y,b.toList[ib+i]? =some y-> ∀z,a.toList[ia]? =some z->R y z=true):MA R a b ia (ib+k) (out++b.extract ib (ib+k)):=by
 have:=MI.manyB t.o t.ua t.ub t.sa t.sb k m (by simpa using hk) h;show MI R _ _ _ _ (out++b.extract ib (ib+k)).toList;rw [L8,UU];exact this
end
variable {arr:S6 R0}{base:G7}
theorem wV {left:T5}{key x:R0}{i:G7}(h:arr.toList[base+i]? =some x):byd R left key arr base i=if left=true then R x key else !R key x:=by
 unfold byd;rw [<-M6,h]
theorem Zu {l:G0 R0}(s:Srt R l)(o:Ordd U R)(u: ∀x∈l,U x){i j:G7}{x y:R0}(hij:i<=j)(hx:l[i]? =some x)(hy:l[j]? =some y):R y x=false:=by
 by_cases z:i=j
 ·subst z;rw [hx] at hy;injection hy with hy;subst hy
  exact o.refl (u x (P6 hx))
 ·obtain⟨h1,e1⟩:=P5.mp hx;obtain⟨h2,e2⟩:=P5.mp hy;have:=O3.mp s i j h1 h2 (by omega);rw [e1,e2] at this;exact this
theorem Zv {i:G7}(h:i<arr.size): ∃x,arr.toList[i]? =some x/\arr[i]? =some x:=⟨arr[i],by simp [h],by simp [h]⟩
theorem TB {y:R0}{n hint:G7}{st:C9}{Q:P4 G7->C9->Prop}(ak:Yn prog w A J κ U R)(kd:kindOf st=κ)(o:Ordd U R)(u: ∀x∈arr.toList,U x)(s:Srt R arr.toList)(uy:U y)(hn:base+n<=arr.size)(hh:hint<n)
 (q: ∀k,k<=n->(∀i,i<k-> ∀x,arr.toList[base+i]? =some x->R y x=false)->(∀i,k<=i->i<n-> ∀x,arr.toList[base+i]? =some x->R y x=true)->Q (some k) st):Tm prog w A E J (gal false y arr base n hint) Q st:=by
 refine Pw ak kd uy (λi hi=> ?_) (λi j hij hj h=> ?_) hh (λk k1 k2 k3=>q k k1 (λi hi x hx=> ?_) (λi h1 h2 x hx=> ?_))
 ·obtain⟨x,lx,ex⟩:=Zv (show base+i<arr.size by omega);exact⟨x,ex,u x (P6 lx)⟩
 ·obtain⟨x,lx,_⟩:=Zv (show base+i<arr.size by omega);obtain⟨z,lz,_⟩:=Zv (show base+j<arr.size by omega);rw [wV lz] at h;rw [wV lx];have hz:R y z=false:=by simpa using h
  have:=o.trans (u x (P6 lx)) (u z (P6 lz)) uy (Zu s o u (by omega) lx lz) hz;simp [this]
 ·have:=k2 i hi;rw [wV hx] at this;simpa using this
 ·have:=k3 i h1 h2;rw [wV hx] at this;simpa using this
theorem TC {y:R0}{n hint:G7}{st:C9}{Q:P4 G7->C9->Prop}(ak:Yn prog w A J κ U R)(kd:kindOf st=κ)(o:Ordd U R)(u: ∀x∈arr.toList,U x)(s:Srt R arr.toList)(uy:U y)(hn:base+n<=arr.size)(hh:hint<n)
 (q: ∀k,k<=n->(∀i,i<k-> ∀x,arr.toList[base+i]? =some x->R x y=true)->(∀i,k<=i->i<n-> ∀x,arr.toList[base+i]? =some x->R x y=false)->Q (some k) st):Tm prog w A E J (gal true y arr base n hint) Q st:=by
 refine Pw ak kd uy (λi hi=> ?_) (λi j hij hj h=> ?_) hh (λk k1 k2 k3=>q k k1 (λi hi x hx=> ?_) (λi h1 h2 x hx=> ?_))
 ·obtain⟨x,lx,ex⟩:=Zv (show base+i<arr.size by omega);exact⟨x,ex,u x (P6 lx)⟩
 ·obtain⟨x,lx,_⟩:=Zv (show base+i<arr.size by omega);obtain⟨z,lz,_⟩:=Zv (show base+j<arr.size by omega);rw [wV lz] at h;rw [wV lx];have hz:R z y=true:=by simpa using h
  rcases o.neg z x y (u z (P6 lz)) (u x (P6 lx)) uy hz with v|v
  ·rw [Zu s o u (by omega) lx lz] at v;cases v
  ·simp [v]
 ·have:=k2 i hi;rw [wV hx] at this;simpa using this
 ·have:=k3 i h1 h2;rw [wV hx] at this;simpa using this
section
variable {σ α β γ:Type}{c:Prop}[Decidable c]{t e:aC σ Sem α}{Q:α->σ->Prop}{st:σ}{x y:β}{z:γ}
theorem Tm.if2 (T:c->Tm prog w A E J t Q st)(F: ¬c->Tm prog w A E J e Q st):Tm prog w A E J (if c then t else e) Q st:=by
 split
 ·exact T ‹_›
 ·exact F ‹_›
theorem Tm.eq2 {x y:G7}(T:x=y->Tm prog w A E J t Q st)(F: ¬x=y->Tm prog w A E J e Q st):Tm prog w A E J (if (x==y)=true then t else e) Q st:=
 .if2 (λh=>T (eq_of_beq h)) λh=>F λg=>h (beq_iff_eq.mpr g)
theorem Tm.both {f:β->aC σ Sem α}(he:e=f y)(ht:t=f x)(H: ∀m,Tm prog w A E J (f m) Q st):Tm prog w A E J (if c then t else e) Q st:=by
 subst he ht;exact .if2 (λ_=>H _) λ_=>H _
theorem Tm.join {f:β->γ->aC σ Sem α}{I:β->γ->Prop}(he:e=f x z)(G: ∀m o,I m o->Tm prog w A E J (f m o) Q st)(T:c->(∀m o,I m o->Tm prog w A E J (f m o) Q st)->Tm prog w A E J t Q st)(F: ¬c->I x z):Tm prog w A E J (if c then t else e) Q st:=by
 subst he;exact .if2 (λh=>T h G) λh=>G _ _ (F h)
end
theorem Ec {A B C D F:Type}{P:A×B×C×D×F->Prop}(h: ∀a b c d f,P (a,b,c,d,f)): ∀c,P c:=λc=>h c.1 c.2.1 c.2.2.1 c.2.2.2.1 c.2.2.2.2
theorem Ed {A B C D F G:Type}{P:A×B×C×D×F×G->Prop}(h: ∀a b c d f g,P (a,b,c,d,f,g)): ∀c,P c:=λc=>h c.1 c.2.1 c.2.2.1 c.2.2.2.1 c.2.2.2.2.1 c.2.2.2.2.2
theorem Ee {A B C D F G H:Type}{P:A×B×C×D×F×G×H->Prop}(h: ∀a b c d f g k,P (a,b,c,d,f,g,k)): ∀c,P c:=λc=>h c.1 c.2.1 c.2.2.1 c.2.2.2.1 c.2.2.2.2.1 c.2.2.2.2.2.1 c.2.2.2.2.2.2
theorem wA {a:S6 R0}(u: ∀x∈a.toList,U x){i:G7}(h:i<a.size){P:Prop}(q: ∀y,a[i]? =some y->a.toList[i]? =some y->U y->P):P:=q a[i] (by simp [h]) (by simp [h]) (u _ (by simp))
structure LoI (R:R0->R0->T5)(a b:S6 R0)(st st':C9)(n:G7)(out:S6 R0)(ia ib:G7):Prop where
 g:Gal st st'
 m:MA R a b ia ib out
 a:ia+1<a.size
 b:ib<b.size
 n:n<=ia+ib
def LoO (R:R0->R0->T5)(a b:S6 R0)(st st':C9)(n:G7)(r:P4 (S6 R0))(out:S6 R0)(ia ib:G7):Prop:=Gal st st'/\match r with|some c=>yB R a b c|none=>LoI R a b st st' n out ia ib
section
variable {a b out:S6 R0}{st st':C9}{n k ia ib:G7}
theorem LoI.more (h:LoI R a b st st' n out ia ib)(l:k<=n):LoI R a b st st' k out ia ib:=⟨h.g,h.m,h.a,h.b,S0 l h.n⟩
theorem LoI.here (h:LoI R a b st st' n out ia ib):LoI R a b st st' (ia+ib) out ia ib:=⟨h.g,h.m,h.a,h.b,P3 _⟩
theorem LoI.at {s:C9}(h:LoI R a b st st' n out ia ib)(g:Gal st s)(l:k<=n):LoI R a b st s k out ia ib:=⟨g,h.m,h.a,h.b,S0 l h.n⟩
theorem LoI.never {P:Prop}(h:LoI R a b st st' n out ia ib)(l:a.size+b.size<=n):P:=absurd (S0 l h.n) (Nat.not_le_of_lt (Nat.add_lt_add (X4 h.a) h.b))
end
theorem An {a b:S6 R0}{st:C9}{Q:S6 R0->C9->Prop}(ak:Yn prog w A J κ U R)(kd:kindOf st=κ)(t:Two U R a b)
 (na:1<=a.size)(nb:1<=b.size)(first: ∀y z,b.toList[0]? =some y->a.toList[0]? =some z->R y z=true)
 (q: ∀c st',Gal st st'->yB R a b c->Q c st'):Tm prog w A E J (mLo a b) Q st:=by
 refine .bind (.rule (.bind (wA t.ub nb λb0 eb0 lb0 ub0=> .elem eb0 ?_)));have m0:MA R a b 0 1 #[b0]:=MA.pushB t (out:= #[]) (MI.start _ _) lb0 (λz hz=>first _ z lb0 hz);refine .eq2 (x:=1) (y:=b.size) (λz1=> .pure (q _ _ (Gal.refl st) (MA.done t m0 (M7 _) nb (.inr z1)))) λz1=> .eq2 (x:=0+1) (y:=a.size) (λz2=> .pure (q _ _ (Gal.refl st) (MA.lastA t m0 z2 nb))) λz2=> .bind (.get ?_)
 refine .bind (Tm.mono (Tm.range (λi c st'=>LoI R a b st st' (i+1) c.2.1 c.2.2.1 c.2.2.2.1)
  (Q:=λc st'=> ∃r,c.1=some r/\Gal st st'/\yB R a b r) (M7 _) ⟨Gal.refl st,m0,Q0 na z2,Q0 nb z1,P3 _⟩ ?_ ?_) ?_)
 ·intro i c st1 hi;revert c;refine Ec λr out ia ib mg h=> ?_
  refine .bind (Tm.mono (Tm.range (λj c st'=>LoI R a b st st' (ia+ib+j) c.2.1 c.2.2.1 c.2.2.2.1)
   (Q:=λc st'=>LoO R a b st st' (ia+ib+1) c.1 c.2.1 c.2.2.1 c.2.2.2.1) (M7 _) h.here ?_ ?_) ?_)
  ·intro j c st2 hj;revert c;refine Ed λr out ja jb ac bc h=> ?_
   refine .bind (wA t.ub h.b λy ey ly uy=> .elem ey (.bind (wA t.ua (X4 h.a) λx ex lx ux=> .elem ex (.bind (.lt ak (h.g.1.trans kd) uy ux (.if2 (c:=R y x=true) (λhb=> .bind (.elem ey ?_)) λhb=> .bind (.elem ex ?_)))))))
   ·have m1:=MA.pushB t h.m ly (λz hz=>by rw [lx] at hz;injection hz with hz;rw [<-hz];exact hb);refine .eq2 (x:=jb+1) (y:=b.size) (λc1=> .pure ⟨h.g,MA.done t m1 (T4 (X4 h.a)) h.b (.inr c1)⟩) λc1=> ?_
    have d:LoI R a b st st2 (ia+ib+(j+1)) (out.push y) ja (jb+1):=⟨h.g,m1,h.a,Q0 (hZ h.b) c1,cT h.n⟩;exact .if2 (λ_=> .pure ⟨h.g,d.more (fI (dH _ _) _)⟩) λ_=> .pure d
   ·have m1:=MA.pushA t h.m lx (λz hz=>by rw [ly] at hz;injection hz with hz;rw [<-hz];exact aK.mpr hb);refine .eq2 (x:=ja+1+1) (y:=a.size) (λc1=> .pure ⟨h.g,MA.lastA t m1 c1 (T4 h.b)⟩) λc1=> ?_
    have d:LoI R a b st st2 (ia+ib+(j+1)) (out.push x) (ja+1) jb:=⟨h.g,m1,Q0 (hZ h.a) c1,h.b,S0 (cT h.n) (W3 (Nat.succ_add _ _).symm)⟩;exact .if2 (λ_=> .pure ⟨h.g,d.more (fI (dH _ _) _)⟩) λ_=> .pure d
  ·exact λc st2 h=>h.never (dH _ _)
  ·intro c st2;revert c;refine Ed λr out ja jb ac bc h'=> ?_
   cases r with
   |some r=>exact .pure ⟨r,rfl,h'⟩
   |none=>
   replace h':=h'.2
   refine .bind (.rule (.bind (Tm.mono (Tm.range (λj c st'=>LoI R a b st st' (ja+jb+j) c.2.1 c.2.2.1 c.2.2.2.1)
    (Q:=λc st'=>LoO R a b st st' (ja+jb) c.1 c.2.1 c.2.2.1 c.2.2.2.1) (M7 _) h'.here ?_ ?_) ?_)))
   ·clear h;intro j c st2 hj;revert c;refine Ee λr out pa pb mg ac bc h=> ?_
    refine wA t.ub h.b λy ey ly uy=> ?_
    have g2:0<a.size-pa:=qY (X4 h.a);have g1:pa+(a.size-pa)<=a.size:=W3 (K2 (T4 (X4 h.a)));refine Tm.both (y:=mg) (x:=mg-1) (by rfl) (by rfl) λmg=> ?_
    refine .bind (Tm.modify (.bind (.elem ey (.bind (TB (base:=pa) (n:=a.size-pa) ak (h.g.1.trans kd) t.o t.ua t.sa uy g1 g2 λk k1 k2 k3=> ?_)))));refine Tm.join (I:=λo ia=>MA R a b ia pb o/\ia+1<a.size/\pa<=ia/\ ∀x,a.toList[ia]? =some x->R y x=true) (x:=out) (z:=pa) (by rfl) ?_ ?_ ?_
    ·refine λo qa i1=> ?_
     have M2:=MA.pushB t i1.1 ly i1.2.2.2;have p1:=X4 i1.2.1;refine .bind (.elem ey (.eq2 (x:=pb+1) (y:=b.size) (λc3=> .pure ⟨h.g,MA.done t M2 (T4 p1) (W3 c3) (.inr c3)⟩) λc3=> ?_));have c8:pb+1<b.size:=Q0 (hZ h.b) c3;have g2:=qY c8;refine .bind (wA t.ua p1 λx ex lx ux=> .elem ex (.bind (TC (base:=pb+1) (n:=b.size-(pb+1)) ak (h.g.1.trans kd) t.o t.ub t.sb ux (W3 (K2 (T4 c8))) g2 λk' q1 q2 q3=> ?_)));dsimp only;generalize ep:pb+1=p2 at M2 q1 q2 q3 c8 g2 ⊢;generalize eo:o.push y=o2 at M2 ⊢;refine Tm.join (I:=λo ib=>MA R a b qa ib o/\ib<b.size/\p2<=ib/\ ∀x',b.toList[ib]? =some x'->R x' x=false) (x:=o2) (z:=p2) (by rfl) ?_ ?_ ?_
     ·refine λo qb i2=> ?_
      have M4:=MA.pushA t i2.1 lx i2.2.2.2;refine .bind (.elem ex (.eq2 (x:=qa+1+1) (y:=a.size) (λc5=> .pure ⟨h.g,MA.lastA t M4 c5 (T4 i2.2.1)⟩) λc5=> ?_));have n1:ja+jb+j<=pa+pb:=h.n;have n2:ja+jb+(j+1)<=qa+1+qb:=by have:=i1.2.2.1;have:=i2.2.2.1;omega
      have d:LoI R a b st st2 (ja+jb+(j+1)) (o.push x) (qa+1) qb:=⟨h.g,M4,Q0 (hZ i1.2.1) c5,i2.2.1,n2⟩;exact .if2 (λ_=> .pure ⟨h.g,d.at h.g (Y7 _ _)⟩) λ_=> .pure (d.at h.g (P3 _))
     ·intro kz' H;have g3:p2+k'<=b.size:=S0 (fI q1 _) (W3 (K2 (T4 c8)));have M3:=MA.manyB t M2 k' g3 (λi hi y' hy z hz=>by rw [lx] at hz;injection hz with hz;rw [<-hz];exact q2 i hi y' hy);exact .eq2 (x:=p2+k') (y:=b.size) (λc4=> .pure ⟨h.g,MA.done t M3 (T4 p1) g3 (.inr c4)⟩) λc4=>H _ _ ⟨M3,Q0 g3 c4,Y7 _ _,λz hz=>q3 k' (P3 _) (by omega) z hz⟩
     ·exact λkz'=>⟨M2,c8,P3 _,λz hz=>q3 0 (mQ kz') g2 z hz⟩
    ·intro kz H;have g3:pa+k<=a.size:=S0 (fI k1 _) g1;have m1:=MA.manyA t h.m k g3 (λi hi x hx z hz=>by rw [ly] at hz;injection hz with hz;rw [<-hz];exact k2 i hi x hx);exact .eq2 (x:=pa+k+1) (y:=a.size) (λc1=> .pure ⟨h.g,MA.lastA t m1 c1 (T4 h.b)⟩) λc1=> .eq2 (x:=pa+k) (y:=a.size) (λc2=> .pure ⟨h.g,MA.done t m1 g3 (T4 h.b) (.inl c2)⟩) λc2=>H _ _ ⟨m1,Q0 (Q0 g3 c2) c1,Y7 _ _,λx hx=>k3 k (P3 _) (by omega) x hx⟩
    ·exact λkz=>⟨h.m,h.a,P3 _,λx hx=>k3 0 (mQ kz) g2 x hx⟩
   ·exact λc st3 h=>h.never (dH _ _)
   ·intro c st3;revert c;refine Ee λr out pa pb mg ac bc h3=> ?_
    cases r with
    |some r=>exact .pure ⟨r,rfl,h3⟩
    |none=>exact .bind (Tm.modify (.pure (h3.2.at h3.1 (S0 (cT h.n) h'.n))))
 ·exact λc st1 h=>h.never (Y7 _ _)
 ·intro c st1;revert c;refine Ec λr out ia ib mg h=> ?_
  obtain⟨c,rfl,gl,wh⟩:=h;exact .pure (q c st1 gl wh)
end
section
variable {prog:R9}{w:N4}{A:T3}{E:G1->G2->Prop}{J:G2->Prop}{κ:SortKind}{U:R0->Prop}{R:R0->R0->T5}
abbrev Flp (R:R0->R0->T5):R0->R0->T5:=λx y=>R y x
theorem Ordd.flip (o:Ordd U R):Ordd U (Flp R):=⟨λx y ux uy h=>o.asym y x uy ux h,λx y z ux uy uz h=>(o.neg z y x uz uy ux h).symm⟩
variable {l:G0 R0}
theorem zd (s:Srt R l):Srt (Flp R) l.reverse:=iI.mpr s
theorem UV (s:Srt (Flp R) l):Srt R l.reverse:=iI.mpr s
variable {n:G7}
theorem Px (h1:1<=n)(hn:n<=l.length):l.reverse[l.length-n]? =l[n-1]? :=by
 rw [dQ (by omega)]
 congr 1;omega
theorem zV {z:R0}(hn:n<=l.length)(h:l.reverse[l.length-n]? =some z):1<=n/\l[n-1]? =some z:=by
 have:=(P5.mp h).1;rw [F7] at this;have n1:1<=n:=by omega
 exact⟨n1,by rw [<-Px n1 hn];exact h⟩
theorem vy (l:G0 R0){n:G7}(hn:n<=l.length):l.reverse.drop (l.length-n)=(l.take n).reverse:=by
 rw [List.drop_reverse]
 congr 2;omega
def MH (R:R0->R0->T5)(a b:S6 R0)(na nb:G7)(out:S6 R0):Prop:=MI (Flp R) b.toList.reverse a.toList.reverse (b.toList.length-nb) (a.toList.length-na) out.toList
structure TwoH (U:R0->Prop)(R:R0->R0->T5)(a b:S6 R0):Prop where
 o:Ordd U R
 ua: ∀x∈a.toList,U x
 ub: ∀x∈b.toList,U x
 sa:Srt R a.toList
 sb:Srt R b.toList
 first: ∀z∈a.toList,∀y,b.toList[0]? =some y->R y z=true
section
variable {a b out:S6 R0}{na nb:G7}
theorem TwoH.fa (t:TwoH U R a b): ∀x∈a.toList.reverse,U x:=λx hx=>t.ua x (K4.mp hx)
theorem TwoH.fb (t:TwoH U R a b): ∀x∈b.toList.reverse,U x:=λx hx=>t.ub x (K4.mp hx)
theorem MH.start (a b:S6 R0):MH R a b a.toList.length b.toList.length #[]:=by
 unfold MH;rw [kG,kG];exact MI.start _ _
theorem MH.pushA (t:TwoH U R a b){y:R0}(m:MH R a b na nb out)(h1:1<=na)(hn:na<=a.toList.length)(hb:nb<=b.toList.length)(hy:a.toList[na-1]? =some y)(lt: ∀z,1<=nb->b.toList[nb-1]? =some z->R z y=true):MH R a b (na-1) nb (out.push y):=by
 have:=MI.pushB m t.o.flip t.fb t.fa (zd t.sb) (zd t.sa) (by rw [Px h1 hn];exact hy) (λz hz=>lt z (zV hb hz).1 (zV hb hz).2);unfold MH;rw [U1,show a.toList.length-(na-1)=a.toList.length-na+1 by omega];exact this
theorem MH.pushB (t:TwoH U R a b){y:R0}(m:MH R a b na nb out)(h1:1<=nb)(hn:nb<=b.toList.length)(ha:na<=a.toList.length)(hy:b.toList[nb-1]? =some y)(ge: ∀z,1<=na->a.toList[na-1]? =some z->R y z=false):MH R a b na (nb-1) (out.push y):=by
 have:=MI.pushA m t.o.flip t.fb t.fa (zd t.sb) (zd t.sa) (by rw [Px h1 hn];exact hy) (λz hz=>ge z (zV ha hz).1 (zV ha hz).2);unfold MH;rw [U1,show b.toList.length-(nb-1)=b.toList.length-nb+1 by omega];exact this
theorem vz (a:S6 R0)(n:G7):(a.extract 0 n).toList=a.toList.take n:=by
 rw [cK,Y1,oU,Nat.sub_zero]
theorem MH.done (t:TwoH U R a b)(m:MH R a b na nb out)(ha:na<=a.toList.length)(hb:nb<=b.toList.length)(h:na=0\/nb=0):yB R a b (a.extract 0 na++b.extract 0 nb++out.reverse):=by
 have:=MI.done m t.o.flip t.fb t.fa (zd t.sb) (zd t.sa) (by rw [F7];omega) (by rw [F7];omega) (by rw [F7,F7];omega);rw [vy _ ha,vy _ hb] at this;have e:(a.extract 0 na++b.extract 0 nb++out.reverse).toList=(out.toList++(b.toList.take nb).reverse++(a.toList.take na).reverse).reverse:=by
  rw [L8,L8,vz,vz,iZ];simp [D6]
 unfold yB;rw [e];refine⟨(X5 _).trans (this.1.trans ?_),UV this.2⟩;exact(rR (X5 _) (X5 _)).trans dP
theorem MH.firstB (t:TwoH U R a b)(m:MH R a b na nb out)(ha:na<=a.toList.length)(hb:nb=1)(hb':1<=b.toList.length):yB R a b (b.extract 0 nb++a.extract 0 na++out.reverse):=by
 subst hb;have:=MI.lastA m t.o.flip t.fb t.fa (zd t.sb) (zd t.sa) (by rw [F7];omega) (by rw [F7];omega) (λz hz y hy=>by
  rw [F7] at hy;have:=(zV hb' hy).2;exact t.first z (K4.mp hz) y (by simpa using this))
 rw [vy _ ha,vy _ hb'] at this;have e:(b.extract 0 1++a.extract 0 na++out.reverse).toList=(out.toList++(a.toList.take na).reverse++(b.toList.take 1).reverse).reverse:=by
  rw [L8,L8,vz,vz,iZ];simp [D6]
 unfold yB;rw [e];refine⟨(X5 _).trans (this.1.trans ?_),UV this.2⟩;exact(rR (X5 _) (X5 _)).trans dP
theorem UW (l:G0 R0){p n:G7}(h1:p<=n)(hn:n<=l.length):(l.reverse.drop (l.length-n)).take (n-p)=((l.drop p).take (n-p)).reverse:=by
 rw [vy l hn,List.take_reverse,M5,oV,dI hn,show n-(n-p)=p by omega]
theorem Py (a:S6 R0){p n:G7}(h:p<=n):(a.extract p n).reverse.toList=((a.toList.drop p).take (n-p)).reverse:=by
 rw [iZ,cK,Y1]
theorem MH.manyA (t:TwoH U R a b)(m:MH R a b na nb out)(p:G7)(hp:p<=na)(hn:na<=a.toList.length)(hb:nb<=b.toList.length)(h: ∀i,p<=i->i<na-> ∀y,a.toList[i]? =some y-> ∀z,1<=nb->b.toList[nb-1]? =some z->R z y=true):MH R a b p nb (out++(a.extract p na).reverse):=by
 have:=MI.manyB t.o.flip t.fb t.fa (zd t.sb) (zd t.sa) (na-p) m (by rw [F7];omega) (λi hi y hy z hz=>by
  rw [dQ (by omega)] at hy;exact h _ (by omega) (by omega) y hy z (zV hb hz).1 (zV hb hz).2)
 rw [UW _ hp hn] at this;unfold MH;rw [L8,Py _ hp,show a.toList.length-p=a.toList.length-na+(na-p) by omega];exact this
theorem MH.manyB (t:TwoH U R a b)(m:MH R a b na nb out)(p:G7)(hp:p<=nb)(hn:nb<=b.toList.length)(ha:na<=a.toList.length)(h: ∀i,p<=i->i<nb-> ∀y,b.toList[i]? =some y-> ∀z,1<=na->a.toList[na-1]? =some z->R y z=false):MH R a b na p (out++(b.extract p nb).reverse):=by
 have:=MI.manyA t.o.flip t.fb t.fa (zd t.sb) (zd t.sa) (nb-p) m (by rw [F7];omega) (λi hi y hy z hz=>by
  rw [dQ (by omega)] at hy;exact h _ (by omega) (by omega) y hy z (zV ha hz).1 (zV ha hz).2)
 rw [UW _ hp hn] at this;unfold MH;rw [L8,Py _ hp,show b.toList.length-p=b.toList.length-nb+(nb-p) by omega];exact this
end
def mHi:S6 R0->S6 R0->aC C9 Sem (S6 R0):=sortPriv% PySem.Builtin.mergeHi
section
variable {arr:S6 R0}{y:R0}{n hint:G7}{st:C9}{Q:P4 G7->C9->Prop}
theorem SG (ak:Yn prog w A J κ U R)(kd:kindOf st=κ)(o:Ordd U R)(u: ∀x∈arr.toList,U x)(s:Srt R arr.toList)(uy:U y)(hn:n<=arr.size)(hh:hint<n)
 (q: ∀k,k<=n->(∀i,i<k-> ∀x,arr.toList[i]? =some x->R y x=false)->(∀i,k<=i->i<n-> ∀x,arr.toList[i]? =some x->R y x=true)->Q (some k) st):Tm prog w A E J (gal false y arr 0 n hint) Q st:=
 TB ak kd o u s uy (by rw [Q9];exact hn) hh λk h k2 k3=>q k h (λi hi x hx=>k2 i hi x (by rw [Q9];exact hx)) λi hi hj x hx=>k3 i hi hj x (by rw [Q9];exact hx)
theorem SH (ak:Yn prog w A J κ U R)(kd:kindOf st=κ)(o:Ordd U R)(u: ∀x∈arr.toList,U x)(s:Srt R arr.toList)(uy:U y)(hn:n<=arr.size)(hh:hint<n)
 (q: ∀k,k<=n->(∀i,i<k-> ∀x,arr.toList[i]? =some x->R x y=true)->(∀i,k<=i->i<n-> ∀x,arr.toList[i]? =some x->R x y=false)->Q (some k) st):Tm prog w A E J (gal true y arr 0 n hint) Q st:=
 TC ak kd o u s uy (by rw [Q9];exact hn) hh λk h k2 k3=>q k h (λi hi x hx=>k2 i hi x (by rw [Q9];exact hx)) λi hi hj x hx=>k3 i hi hj x (by rw [Q9];exact hx)
end
structure HiI (R:R0->R0->T5)(a b:S6 R0)(st st':C9)(n N na nb:G7)(out:S6 R0):Prop where
 g:Gal st st'
 m:MH R a b na nb out
 a':na<=a.size
 b':nb<=b.size
 a:1<=na
 b:2<=nb
 n:n+na+nb<=N
def HiO (R:R0->R0->T5)(a b:S6 R0)(st st':C9)(n N:G7)(r:P4 (S6 R0))(na nb:G7)(out:S6 R0):Prop:=Gal st st'/\match r with|some c=>yB R a b c|none=>HiI R a b st st' n N na nb out
section
variable {a b out:S6 R0}{st st' s:C9}{n N k M na nb:G7}
theorem HiI.at (h:HiI R a b st st' n N na nb out)(g:Gal st s)(l:n+na+nb<=N->k+na+nb<=M):HiI R a b st s k M na nb out:=⟨g,h.m,h.a',h.b',h.a,h.b,l h.n⟩
theorem HiI.here (h:HiI R a b st st' n N na nb out):HiI R a b st st' 0 (na+nb) na nb out:=h.at h.g λ_=>by omega
theorem HiI.never {P:Prop}(h:HiI R a b st st' n N na nb out)(l:N<=n):P:=by have:=h.n;have:=h.a;omega
theorem HiI.le (h:HiI R a b st st' n N na nb out):na+nb<=a.size+b.size:=Nat.add_le_add h.a' h.b'
theorem HiI.a1 (h:HiI R a b st st' n N na nb out):na-1<a.size:=S7 (gB h.a eN) h.a'
theorem HiI.b1 (h:HiI R a b st st' n N na nb out):nb-1<b.size:=S7 (gB (X4 h.b) eN) h.b'
end
theorem NB (h:2<=n)(c: ¬n-1=1):2<=n-1:=by omega
theorem Pz (c: ¬n-1=0):1<=n-1:=gC c
theorem Ao {a b:S6 R0}{st:C9}{Q:S6 R0->C9->Prop}(ak:Yn prog w A J κ U R)(kd:kindOf st=κ)(t:TwoH U R a b)
 (na:1<=a.size)(nb:1<=b.size)(last: ∀y z,b.toList[b.size-1]? =some y->a.toList[a.size-1]? =some z->R y z=true)
 (q: ∀c st',Gal st st'->yB R a b c->Q c st'):Tm prog w A E J (mHi a b) Q st:=by
 refine .bind (.rule (.bind (wA t.ua (gB na eN) λa0 ea0 la0 ua0=> .elem ea0 ?_)));have m0:MH R a b (a.size-1) b.size #[a0]:=MH.pushA t (MH.start (R:=R) a b) na (P3 _) (P3 _) la0 (λz _ hz=>last z a0 hz la0);have n1:a.size-1<=a.size:=G0h _ _;refine .eq2 (x:=a.size-1) (y:=0) (λz1=> .pure (q _ _ (Gal.refl st) (MH.done t m0 n1 (P3 _) (.inl z1)))) λz1=> .eq2 (x:=b.size) (y:=1) (λz2=> .pure (q _ _ (Gal.refl st) (MH.firstB t m0 n1 z2 nb))) λz2=> .bind (.get ?_)
 refine .bind (Tm.mono (Tm.range (λi c st'=>HiI R a b st st' (i+1) (a.size+b.size) c.2.1 c.2.2.1 c.2.2.2.1)
  (Q:=λc st'=> ∃r,c.1=some r/\Gal st st'/\yB R a b r) (M7 _) ⟨Gal.refl st,m0,n1,P3 _,Pz z1,by dsimp only;omega,by dsimp only;omega⟩ ?_ ?_) ?_)
 ·intro i c st1 hi;revert c;refine Ec λr ia ib out mg h=> ?_
  refine .bind (Tm.mono (Tm.range (λj c st'=>HiI R a b st st' j (ia+ib) c.2.1 c.2.2.1 c.2.2.2.1)
   (Q:=λc st'=>HiO R a b st st' 1 (ia+ib) c.1 c.2.1 c.2.2.1 c.2.2.2.1) (M7 _) h.here ?_ ?_) ?_)
  ·intro j c st2 hj;revert c;refine Ed λr ja jb out ac bc h=> ?_
   refine .bind (wA t.ub h.b1 λy ey ly uy=> .elem ey (.bind (wA t.ua h.a1 λx ex lx ux=> .elem ex (.bind (.lt ak (h.g.1.trans kd) uy ux (.if2 (c:=R y x=true) (λhb=> .bind (.elem ex ?_)) λhb=> .bind (.elem ey ?_)))))))
   ·have m1:=MH.pushA t h.m h.a h.a' h.b' lx (λz _ hz=>by rw [ly] at hz;injection hz with hz;rw [<-hz];exact hb);refine .eq2 (x:=ja-1) (y:=0) (λc1=> .pure ⟨h.g,MH.done t m1 (T4 h.a1) h.b' (.inl c1)⟩) λc1=> ?_
    have d:HiI R a b st st2 (j+1) (ia+ib) (ja-1) jb (out.push x):=⟨h.g,m1,T4 h.a1,h.b',Pz c1,h.b,by have:j+ja+jb<=ia+ib:=h.n;have:1<=ja:=h.a;have:2<=jb:=h.b;omega⟩;exact .if2 (λ_=> .pure ⟨h.g,d.at h.g λ_=>by omega⟩) λ_=> .pure d
   ·have m1:=MH.pushB t h.m (T4 h.b) h.b' h.a' ly (λz _ hz=>by rw [lx] at hz;injection hz with hz;rw [<-hz];exact aK.mpr hb);refine .eq2 (x:=jb-1) (y:=1) (λc1=> .pure ⟨h.g,MH.firstB t m1 h.a' c1 nb⟩) λc1=> ?_
    have d:HiI R a b st st2 (j+1) (ia+ib) ja (jb-1) (out.push y):=⟨h.g,m1,h.a',T4 h.b1,h.a,NB h.b c1,by have:j+ja+jb<=ia+ib:=h.n;have:1<=ja:=h.a;have:2<=jb:=h.b;omega⟩;exact .if2 (λ_=> .pure ⟨h.g,d.at h.g λ_=>by omega⟩) λ_=> .pure d
  ·exact λc st2 h'=>h'.never h.le
  ·intro c st2;revert c;refine Ed λr ja jb out ac bc h'=> ?_
   cases r with
   |some r=>exact .pure ⟨r,rfl,h'⟩
   |none=>
   replace h':=h'.2
   refine .bind (.rule (.bind (Tm.mono (Tm.range (λj c st'=>HiI R a b st st' j (ja+jb) c.2.1 c.2.2.1 c.2.2.2.1)
    (Q:=λc st'=>HiO R a b st st' 0 (ja+jb) c.1 c.2.1 c.2.2.1 c.2.2.2.1) (M7 _) h'.here ?_ ?_) ?_)))
   ·clear h;intro j c st2 hj;revert c;refine Ee λr pa pb out mg ac bc h=> ?_
    refine wA t.ub h.b1 λy ey ly uy=> ?_
    refine Tm.both (y:=mg) (x:=mg-1) (by rfl) (by rfl) λmg=> ?_
    refine .bind (Tm.modify (.bind (.elem ey (.bind (SG (n:=pa) ak (h.g.1.trans kd) t.o t.ua t.sa uy h.a' (gB h.a eN) λk k1 k2 k3=> ?_)))));dsimp only;generalize eac:pa-k=ac;refine Tm.join (I:=λna o=>MH R a b na pb o/\1<=na/\na<=pa/\ ∀z,a.toList[na-1]? =some z->R y z=false) (x:=pa) (z:=out) (by rfl) ?_ ?_ ?_
    ·refine λqa o i1=> ?_
     have la:=S0 i1.2.2.1 h.a';have M2:=MH.pushB t i1.1 (T4 h.b) h.b' la ly (λz _ hz=>i1.2.2.2 z hz);refine .bind (.elem ey (.eq2 (x:=pb-1) (y:=1) (λc3=> .pure ⟨h.g,MH.firstB t M2 la c3 nb⟩) λc3=> ?_));have c8:=NB h.b c3;have lb:=T4 h.b1;have n1:j+pa+pb<=ja+jb:=h.n;have n2:pb=pb-1+1:=(Nat.sub_add_cancel (T4 h.b)).symm;refine .bind (wA t.ua (S7 (gB i1.2.1 eN) la) λx ex lx ux=> .elem ex (.bind (SH (n:=pb-1) ak (h.g.1.trans kd) t.o t.ub t.sb ux lb (gB (X4 c8) eN) λk' q1 q2 q3=> ?_)));dsimp only;dsimp only at c8 lb;generalize ep:pb-1=p2 at M2 q1 q2 q3 c8 lb n2 ⊢;generalize eo:o.push y=o2 at M2 ⊢;generalize ebc:p2-k'=bc;refine Tm.join (I:=λnb o=>MH R a b qa nb o/\2<=nb/\nb<=p2/\ ∀z,b.toList[nb-1]? =some z->R z x=true) (x:=p2) (z:=o2) (by rfl) ?_ ?_ ?_
     ·refine λqb o i2=> ?_
      have lb':=S0 i2.2.2.1 lb;have M4:=MH.pushA t i2.1 i1.2.1 la lb' lx (λz _ hz=>i2.2.2.2 z hz);have la':=S0 (G0h qa 1) la;refine .bind (.elem ex (.eq2 (x:=qa-1) (y:=0) (λc5=> .pure ⟨h.g,MH.done t M4 la' lb' (.inl c5)⟩) λc5=> ?_));have n3:j+1+(qa-1)+qb<=ja+jb:=by have:=i1.2.1;have:=i1.2.2.1;have:=i2.2.2.1;omega
      have d:HiI R a b st st2 (j+1) (ja+jb) (qa-1) qb (o.push x):=⟨h.g,M4,la',lb',Pz c5,i2.2.1,n3⟩;exact .if2 (λ_=> .pure ⟨h.g,d.at h.g λ_=>by omega⟩) λ_=> .pure (d.at h.g id)
     ·intro kz' H;have M3:=MH.manyB t M2 k' q1 lb la (λi hi1 hi2 y' hy z hz1 hz=>by rw [lx] at hz;injection hz with hz;rw [<-hz];exact q3 i hi1 hi2 y' hy);exact .eq2 (x:=k') (y:=1) (λc4=> .pure ⟨h.g,MH.firstB t M3 la c4 nb⟩) λc4=> .eq2 (x:=k') (y:=0) (λc7=> .pure ⟨h.g,MH.done t M3 la (S0 q1 lb) (.inr c7)⟩) λc7=>H _ _ ⟨M3,by omega,q1,λz hz=>q2 (k'-1) (gB (gC c7) eN) z hz⟩
     ·exact λkz'=>⟨M2,c8,P3 _,λz hz=>q2 (p2-1) (by omega) z hz⟩
    ·intro kz H;have m1:=MH.manyA t h.m k k1 h.a' h.b' (λi hi1 hi2 x hx z hz1 hz=>by rw [ly] at hz;injection hz with hz;rw [<-hz];exact k3 i hi1 hi2 x hx);exact .eq2 (x:=k) (y:=0) (λc1=> .pure ⟨h.g,MH.done t m1 (S0 k1 h.a') h.b' (.inl c1)⟩) λc1=>H _ _ ⟨m1,gC c1,k1,λz hz=>k2 (k-1) (gB (gC c1) eN) z hz⟩
    ·exact λkz=>⟨h.m,h.a,P3 _,λz hz=>k2 (pa-1) (by have:1<=pa:=h.a;omega) z hz⟩
   ·exact λc st3 h=>h.never h'.le
   ·intro c st3;revert c;refine Ee λr pa pb out mg ac bc h3=> ?_
    cases r with
    |some r=>exact .pure ⟨r,rfl,h3⟩
    |none=>exact .bind (Tm.modify (.pure (h3.2.at h3.1 λl=>by have n1:i+1+ia+ib<=a.size+b.size:=h.n;have n2:1+ja+jb<=ia+ib:=h'.n;dsimp only at l ⊢;omega)))
 ·exact λc st1 h=>h.never (Y7 _ _)
 ·intro c st1;revert c;refine Ec λr ia ib out mg h=> ?_
  obtain⟨c,rfl,gl,wh⟩:=h;exact .pure (q c st1 gl wh)
end
section
variable {prog:R9}{w:N4}{A:T3}{E:G1->G2->Prop}{J:G2->Prop}{κ:SortKind}{U:R0->Prop}{R:R0->R0->T5}
def seg (l:G0 R0)(p n:G7):G0 R0:=(l.drop p).take n
variable {n:G7}
theorem Wp {l:G0 R0}{p i:G7}(hi:i<n):(seg l p n)[i]? =l[p+i]? :=by
 unfold seg;rw [Z5 hi,Y6]
theorem Zw {l:G0 R0}{p:G7}(h:p+n<=l.length):(seg l p n).length=n:=by
 unfold seg;rw [M5,F9];omega
theorem VW {l:G0 R0}{p:G7}{x:R0}(h:x∈seg l p n):x∈l:=A9 (E1 h)
theorem TD {left:T5}{arr:S6 R0}{y:R0}{base hint:G7}{st:C9}{Q:P4 G7->C9->Prop}(ak:Yn prog w A J κ U R)(kd:kindOf st=κ)(o:Ordd U R)(u: ∀x∈arr.toList,U x)(s:Srt R (seg arr.toList base n))(uy:U y)(hn:base+n<=arr.size)(hh:hint<n)
 (q: ∀k,k<=n->(∀x∈(seg arr.toList base n).take k,(if left=true then R x y else !R y x)=true)->(∀x∈(seg arr.toList base n).drop k,(if left=true then R x y else !R y x)=false)->Q (some k) st):Tm prog w A E J (gal left y arr base n hint) Q st:=by
 have ln:arr.toList.length=arr.size:=by simp
 have sl:(seg arr.toList base n).length=n:=Zw (by omega);have us: ∀x∈seg arr.toList base n,U x:=λx hx=>u x (VW hx)
 refine Pw ak kd uy (λi hi=> ?_) (λi j hij hj h=> ?_) hh (λk k1 k2 k3=>q k k1 (λx hx=> ?_) (λx hx=> ?_))
 ·obtain⟨x,lx,ex⟩:=Zv (show base+i<arr.size by omega);exact⟨x,ex,u x (P6 lx)⟩
 ·obtain⟨x,lx,_⟩:=Zv (show base+i<arr.size by omega);obtain⟨z,lz,_⟩:=Zv (show base+j<arr.size by omega);have ux:=u x (P6 lx);have uz:=u z (P6 lz);have le:=Zu s o us hij (by rw [Wp (by omega)];exact lx) (by rw [Wp hj];exact lz);rw [wV lz] at h;rw [wV lx];cases left with
  |true=>
   have hz:R z y=true:=by simpa using h
   rcases o.neg z x y uz ux uy hz with v|v
   ·rw [le] at v;cases v
   ·simp [v]
  |false=>
   have hz:R y z=false:=by simpa using h
   have:=o.trans ux uz uy le hz;simp [this]
 ·obtain⟨i,hi,e⟩:=X8 hx;rw [M5,sl] at hi;have lx:arr.toList[base+i]? =some x:=by
   rw [<-Wp (n:=n) (by omega),P2 (by omega),<-e,mC]
  have:=k2 i (by omega);rw [wV lx] at this;exact this
 ·obtain⟨i,hi,e⟩:=X8 hx;rw [F9,sl] at hi;have lx:arr.toList[base+(k+i)]? =some x:=by
   rw [<-Wp (n:=n) (by omega),P2 (by omega),<-e,qZ]
  have:=k3 (k+i) (by omega) (by omega);rw [wV lx] at this;exact this
theorem UX: ∀ (m:G0 R0) (arr:S6 R0) (p d:G7),p+d+m.length<=arr.size->((m.zipIdx d).foldl (λ(c:S6 R0) (x:R0×G7)=>c.setIfInBounds (p+x.2) x.1) arr).toList=arr.toList.take (p+d)++m++arr.toList.drop (p+d+m.length)
 | [],arr,p,d,_=>by simp
 |x::m,arr,p,d,h=>by
  rw [D8] at h;rw [List.zipIdx_cons,nO];rw [UX m _ p (d+1) (by rw [fU];omega)];have hl:arr.toList.length=arr.size:=by simp
  rw [lC];have e1:(arr.toList.set (p+d) x).take (p+(d+1))=arr.toList.take (p+d)++ [x]:=by
   rw [show p+(d+1)=p+d+1 by omega,K5,aO (by omega)];rw [List.take_set_of_le (P3 _)];rfl
  have e2:(arr.toList.set (p+d) x).drop (p+(d+1)+m.length)=arr.toList.drop (p+d+(m.length+1)):=by
   rw [List.drop_set_of_lt (by omega),show p+(d+1)+m.length=p+d+(m.length+1) by omega]
  rw [e1,e2,D8];simp [D6]
end
section
variable {prog:R9}{w:N4}{A:T3}{E:G1->G2->Prop}{J:G2->Prop}{κ:SortKind}{U:R0->Prop}{R:R0->R0->T5}
theorem Tm.set {σ:Type}{st st':σ}{Q:PUnit->σ->Prop}(q:Q ⟨⟩ st'):Tm prog w A E J (MonadStateOf.set st':aC σ Sem PUnit) Q st:=λs j=>by
 show R3 _ _ ((StateT.set st':aC σ Sem PUnit).run st) _ _ _;exact G8 ⟨q,j⟩
theorem PB (a:S6 R0){p n:G7}(h:p<=n):(a.extract p n).toList=seg a.toList p (n-p):=by
 rw [cK,Y1];rfl
theorem PC (o:Ordd U R){l:G0 R0}(u: ∀x∈l,U x)(s:Srt R l){z:R0}(hz:l[l.length-1]? =some z){x:R0}(hx:x∈l):R z x=false:=by
 obtain⟨i,hi,e⟩:=X8 hx;exact Zu s o u (show i<=l.length-1 by omega) (by rw [P2 hi,e]) hz
theorem UY (o:Ordd U R){l:G0 R0}(u: ∀x∈l,U x)(s:Srt R l){z:R0}(hz:l[0]? =some z){x:R0}(hx:x∈l):R x z=false:=by
 obtain⟨i,hi,e⟩:=X8 hx;exact Zu s o u (M7 _) hz (by rw [P2 hi,e])
theorem Zx (o:Ordd U R){X Y c:G0 R0}{k k2:G7}{y0 x9:R0}(uX: ∀x∈X,U x)(uY: ∀x∈Y,U x)(sX:Srt R X)(sY:Srt R Y)(hy:Y[0]? =some y0)(hx:X[X.length-1]? =some x9)
 (f1: ∀x∈X.take k,R y0 x=false)(g2: ∀y∈Y.drop k2,R y x9=false)(hp:c.Perm (X.drop k++Y.take k2))(sc:Srt R c):(X.take k++c++Y.drop k2).Perm (X++Y)/\Srt R (X.take k++c++Y.drop k2):=by
 have uy0:=uY y0 (P6 hy);have ux9:=uX x9 (P6 hx);constructor
 ·have e:X++Y=X.take k++(X.drop k++Y.take k2)++Y.drop k2:=by
   rw [<-D6,N8,D6,N8]
  rw [e];exact(hp.append_left _).append_right _
 ·have inX: ∀x∈X.take k,∀z∈X.drop k,R z x=false:=λx hx z hz=>by
   have:Srt R (X.take k++X.drop k):=by rw [N8];exact sX
   exact(B7.mp this).2.2 x hx z hz
  have inY: ∀x∈Y.take k2,∀z∈Y.drop k2,R z x=false:=λx hx z hz=>by
   have:Srt R (Y.take k2++Y.drop k2):=by rw [N8];exact sY
   exact(B7.mp this).2.2 x hx z hz
  have xy: ∀x∈X.take k,∀y∈Y,R y x=false:=λx hx y hy'=>o.trans (uX x (E1 hx)) uy0 (uY y hy') (f1 x hx) (UY o uY sY hy hy')
  have yx: ∀x∈X,∀y∈Y.drop k2,R y x=false:=λx hx' y hy'=>o.trans (uX x hx') ux9 (uY y (A9 hy')) (PC o uX sX hx hx') (g2 y hy')
  have xc: ∀x∈X.take k,∀z∈c,R z x=false:=λx hx z hz=>by
   rcases T8.mp (hp.mem_iff.mp hz) with v|v
   ·exact inX x hx z v
   ·exact xy x hx z (E1 v)
  refine B7.mpr ⟨B7.mpr ⟨sX.sublist (aG _ _),sc,xc⟩,sY.sublist (V8 _ _),λx hx y hy=> ?_⟩;rcases T8.mp hx with v|v
  ·exact xy x v y (A9 hy)
  ·rcases T8.mp (hp.mem_iff.mp v) with v|v
   ·exact yx x (A9 v) y hy
   ·exact inY x v y hy
theorem YX (l:G0 R0){p n m:G7}:l=l.take p++(seg l p n++seg l (p+n) m)++l.drop (p+n+m):=by
 unfold seg;have e1:(l.drop (p+n)).take m++l.drop (p+n+m)=l.drop (p+n):=by
  rw [show l.drop (p+n+m)=(l.drop (p+n)).drop m by rw [bI],N8]
 have e2:(l.drop p).take n++l.drop (p+n)=l.drop p:=by
  rw [show l.drop (p+n)=(l.drop p).drop n by rw [bI],N8]
 rw [D6,D6,e1,e2,N8]
theorem Ap {st:C9}{Q:T5->C9->Prop}{i sa na pw sb nb pw2:G7}(ak:Yn prog w A J κ U R)(kd:kindOf st=κ)(o:Ordd U R)(u: ∀x∈(T9 st).toList,U x)(p1:(C4 st)[i]? =some (sa,na,pw))(p2:(C4 st)[i+1]? =some (sb,nb,pw2))
 (hs:sa+na=sb)(n1:1<=na)(n2:1<=nb)(hz:sb+nb<=(T9 st).size)(s1:Srt R (seg (T9 st).toList sa na))(s2:Srt R (seg (T9 st).toList sb nb))(hf:cJ st=none)
 (q: ∀st' Z,kindOf st'=κ->cJ st'=none->C4 st'=((C4 st).setIfInBounds i (sa,na+nb,pw)).eraseIdxIfInBounds (i+1)->(T9 st').toList=(T9 st).toList.take sa++Z++(T9 st).toList.drop (sb+nb)->Z.Perm (seg (T9 st).toList sa na++seg (T9 st).toList sb nb)->Srt R Z->Q true st'):
 Tm prog w A E J (IZ i) Q st:=by
 have ln:(T9 st).toList.length=(T9 st).size:=by simp
 unfold IZ;refine .bind (.get ?_);dsimp only;rw [p1,p2];dsimp only;refine .bind (Tm.set ?_);subst hs;have lX:(seg (T9 st).toList sa na).length=na:=Zw (by omega);have lY:(seg (T9 st).toList (sa+na) nb).length=nb:=Zw (by omega);have uX: ∀x∈seg (T9 st).toList sa na,U x:=λx hx=>u x (VW hx)
 have uY: ∀x∈seg (T9 st).toList (sa+na) nb,U x:=λx hx=>u x (VW hx)
 obtain⟨y0,ly0,ey0⟩:=Zv (arr:=T9 st) (show sa+na<(T9 st).size by omega);obtain⟨x9,lx9,ex9⟩:=Zv (arr:=T9 st) (show sa+(na-1)<(T9 st).size by omega);have hy:(seg (T9 st).toList (sa+na) nb)[0]? =some y0:=by rw [Wp (by omega)];exact ly0
 have hx:(seg (T9 st).toList sa na)[(seg (T9 st).toList sa na).length-1]? =some x9:=by rw [lX,Wp (by omega)];exact lx9
 have uy0:=u y0 (P6 ly0);have ux9:=u x9 (P6 lx9);have c3:=YX (T9 st).toList (p:=sa) (n:=na) (m:=nb);have same: ∀ (st':C9),T9 st'=T9 st-> ∀k k2,(∀x∈(seg (T9 st).toList sa na).take k,R y0 x=false)->(∀y∈(seg (T9 st).toList (sa+na) nb).drop k2,R y x9=false)->(na<=k\/k2=0)->Srt R (seg (T9 st).toList sa na++seg (T9 st).toList (sa+na) nb):=λst' e k k2 f1 g2 h=>by
  have pl:(((seg (T9 st).toList sa na).drop k++(seg (T9 st).toList (sa+na) nb).take k2)).Perm ((seg (T9 st).toList sa na).drop k++(seg (T9 st).toList (sa+na) nb).take k2):= .refl _;have sc:Srt R ((seg (T9 st).toList sa na).drop k++(seg (T9 st).toList (sa+na) nb).take k2):=by
   rcases h with h|h
   ·rw [A6 (by omega),L6];exact s2.sublist (aG _ _)
   ·rw [h,lB,O6];exact s1.sublist (V8 _ _)
  have:=(Zx o uX uY s1 s2 hy hx f1 g2 pl sc).2;rw [<-D6,N8,D6,N8] at this;exact this
 refine .bind (.elem ey0 (.bind (TD (left:=false) ak kd o u s1 uy0 (show sa+na<=(T9 st).size by omega) (by omega) λk k1 f1 f2=> ?_)));have f1: ∀x∈(seg (T9 st).toList sa na).take k,R y0 x=false:=λx hx=>by simpa using f1 x hx
 have f2: ∀x∈(seg (T9 st).toList sa na).drop k,R y0 x=true:=λx hx=>by simpa using f2 x hx
 dsimp only
 by_cases z1:na-k=0
 ·rw [R6 (by simpa using z1)];refine .pure (q _ (seg (T9 st).toList sa na++seg (T9 st).toList (sa+na) nb) kd hf rfl c3 (.refl _) (same st rfl k nb f1 (λy hy=> ?_) (.inl (by omega))));rw [A6 (by omega)] at hy;cases hy
 rw [R8 (by simpa using z1)];refine .bind (.elem (show _=some x9 by rw [show sa+k+(na-k)-1=sa+(na-1) by omega];exact ex9) (.bind (TD (left:=true) ak kd o u s2 ux9 (show sa+na+nb<=(T9 st).size by omega) (by omega) λk2 j1 g1 g2=> ?_)));have g1: ∀y∈(seg (T9 st).toList (sa+na) nb).take k2,R y x9=true:=λx hx=>by simpa using g1 x hx
 have g2: ∀y∈(seg (T9 st).toList (sa+na) nb).drop k2,R y x9=false:=λx hx=>by simpa using g2 x hx
 dsimp only
 by_cases z2:k2=0
 ·rw [R6 (by simpa using z2)];exact .pure (q _ _ kd hf rfl c3 (.refl _) (same st rfl k k2 f1 g2 (.inr z2)))
 rw [R8 (by simpa using z2)];have eX:((T9 st).extract (sa+k) (sa+na)).toList=(seg (T9 st).toList sa na).drop k:=by
  rw [PB _ (by omega)];unfold seg;rw [oV,bI,show sa+na-(sa+k)=na-k by omega]
 have eY:((T9 st).extract (sa+na) (sa+na+k2)).toList=(seg (T9 st).toList (sa+na) nb).take k2:=by
  rw [PB _ (by omega)];unfold seg;rw [oW,show sa+na+k2-(sa+na)=min k2 nb by omega]
 have sx:((T9 st).extract (sa+k) (sa+na)).size=na-k:=by rw [<-D0,eX,F9,lX]
 have sy:((T9 st).extract (sa+na) (sa+na+k2)).size=k2:=by rw [<-D0,eY,M5,lY];omega
 have hx2: ∀z,((seg (T9 st).toList sa na).drop k)[((seg (T9 st).toList sa na).drop k).length-1]? =some z->z=x9:=λz hz'=>by
  rw [F9,Y6,lX,show k+(na-k-1)=na-1 by omega] at hz';rw [lX] at hx;rw [hx] at hz';injection hz' with hz';exact hz'.symm
 have hy2: ∀z,((seg (T9 st).toList (sa+na) nb).take k2)[0]? =some z->z=y0:=λz hz'=>by
  rw [Z5 (by omega),hy] at hz';injection hz' with hz';exact hz'.symm
 have put: ∀c:S6 R0,yB R ((T9 st).extract (sa+k) (sa+na)) ((T9 st).extract (sa+na) (sa+na+k2)) c->(c.toList.zipIdx.foldl (λ(d:S6 R0) (x:R0×G7)=>d.setIfInBounds (sa+k+x.2) x.1) (T9 st)).toList=(T9 st).toList.take sa++((seg (T9 st).toList sa na).take k++c.toList++(seg (T9 st).toList (sa+na) nb).drop k2)++(T9 st).toList.drop (sa+na+nb):=λc wh=>by
  have lc:c.toList.length=na-k+k2:=by
   rw [wh.1.length_eq,P8,D0,D0,sx,sy]
  have:=UX c.toList (T9 st) (sa+k) 0 (by omega);rw [this,lc,Z8,show sa+k+(na-k+k2)=sa+na+k2 by omega];have e1:(T9 st).toList.take (sa+k)=(T9 st).toList.take sa++(seg (T9 st).toList sa na).take k:=by
   unfold seg;rw [oW,dI k1,List.take_add]
  have e2:(T9 st).toList.drop (sa+na+k2)=(seg (T9 st).toList (sa+na) nb).drop k2++(T9 st).toList.drop (sa+na+nb):=by
   unfold seg;have h1:((T9 st).toList.drop (sa+na)).drop k2=(((T9 st).toList.drop (sa+na)).take nb++((T9 st).toList.drop (sa+na)).drop nb).drop k2:=by rw [N8]
   rw [aD (by rw [M5,F9];omega),bI,bI] at h1;exact h1
  rw [e1,e2];simp [D6]
 have jr: ∀c:S6 R0,yB R ((T9 st).extract (sa+k) (sa+na)) ((T9 st).extract (sa+na) (sa+na+k2)) c->_:=λc wh=>Zx o (c:=c.toList) uX uY s1 s2 hy hx f1 g2 (by have:=wh.1;rw [eX,eY] at this;exact this) wh.2
 by_cases z3:na-k<=k2
 ·rw [R6 z3];refine .bind (An ak kd ⟨o,λx hx=> ?_,λx hx=> ?_,?_,?_,λy hy z hz'=> ?_⟩ (by rw [sx];omega) (by rw [sy];omega) (λy z hy' hz'=> ?_) λc st' gl wh=> .bind (Tm.modify (.bind (.get (.pure ?_)))))
  ·rw [eX] at hx;exact uX x (A9 hx)
  ·rw [eY] at hx;exact uY x (E1 hx)
  ·rw [eX];exact s1.sublist (V8 _ _)
  ·rw [eY];exact s2.sublist (aG _ _)
  ·rw [eY] at hy;rw [eX] at hz';rw [hx2 z hz'];exact g1 y hy
  ·rw [eY] at hy';rw [eX] at hz';rw [hy2 y hy'];exact f2 z (P6 hz')
  ·have e:cJ st'=none:=gl.2.2.2.trans hf;show Q (cJ st').isNone _;rw [e];refine q _ _ (gl.1.trans kd) e gl.2.2.1 ?_ (jr c wh).1 (jr c wh).2;have ea:T9 st'=T9 st:=gl.2.1;show (c.toList.zipIdx.foldl _ (T9 st')).toList=_;rw [ea];exact put c wh
 ·rw [R8 z3];refine .bind (Ao ak kd ⟨o,λx hx=> ?_,λx hx=> ?_,?_,?_,λz hz' y hy'=> ?_⟩ (by rw [sx];omega) (by rw [sy];omega) (λy z hy' hz'=> ?_) λc st' gl wh=> .bind (Tm.modify (.bind (.get (.pure ?_)))))
  ·rw [eX] at hx;exact uX x (A9 hx)
  ·rw [eY] at hx;exact uY x (E1 hx)
  ·rw [eX];exact s1.sublist (V8 _ _)
  ·rw [eY];exact s2.sublist (aG _ _)
  ·rw [eY] at hy';rw [eX] at hz';rw [hy2 y hy'];exact f2 z hz'
  ·rw [eY] at hy';rw [eX,sx] at hz';have:=hx2 z (by rw [F9,lX];exact hz');rw [this];exact g1 y (P6 hy')
  ·have e:cJ st'=none:=gl.2.2.2.trans hf;show Q (cJ st').isNone _;rw [e];refine q _ _ (gl.1.trans kd) e gl.2.2.1 ?_ (jr c wh).1 (jr c wh).2;have ea:T9 st'=T9 st:=gl.2.1;show (c.toList.zipIdx.foldl _ (T9 st')).toList=_;rw [ea];exact put c wh
end
section
variable {prog:R9}{w:N4}{A:T3}{E:G1->G2->Prop}{J:G2->Prop}{κ:SortKind}{U:R0->Prop}{R:R0->R0->T5}
def Lies (st:C9)(P Z S:G0 R0):Prop:=(T9 st).toList=P++Z++S
def Arr (st st':C9):Prop:=kindOf st'=kindOf st/\C4 st'=C4 st/\cJ st'=cJ st/\gallopOf st'=gallopOf st
theorem Arr.refl (st:C9):Arr st st:=⟨rfl,rfl,rfl,rfl⟩
theorem Mp (xs:S6 R0)(P Z S:G0 R0)(h:xs.toList=P++Z++S):(mirror xs P.length (P.length+Z.length) ((P.length+Z.length-P.length) / 2)).toList=P++Z.reverse++S:=by
 have hl:xs.size=P.length+Z.length+S.length:=by rw [<-D0,h];simp [dM]
 refine g7 λk=> ?_
 rw [M6,getElem?_mirror_all (by omega)]
 by_cases c:P.length<=k/\k<P.length+Z.length
 ·rw [R6 c,<-M6,h,D6,D6];have e1:(P++(Z++S))[P.length+(P.length+Z.length)-1-k]? =Z[P.length+Z.length-1-k]? :=by
   rw [N3 (by omega),B8 (by omega)]
   congr 1;omega
  have e2:(P++(Z.reverse++S))[k]? =Z[P.length+Z.length-1-k]? :=by
   rw [N3 (by omega),B8 (by rw [F7];omega),dQ (by omega)]
   congr 1;omega
  rw [e1,e2]
 ·rw [R8 c,<-M6,h,D6,D6]
  by_cases d:k<P.length
  ·rw [B8 d,B8 d]
  ·have e1:(P++(Z++S))[k]? =S[k-P.length-Z.length]? :=by
    rw [N3 (by omega),N3 (by omega)]
   have e2:(P++(Z.reverse++S))[k]? =S[k-P.length-Z.length]? :=by
    rw [N3 (by omega),N3 (by rw [F7];omega),F7]
   rw [e1,e2]
theorem Tm.rev {st:C9}{P Z S:G0 R0}{i j:G7}{Q:Unit->C9->Prop}(h:Lies st P Z S)(hi:i=P.length)(hj:j=P.length+Z.length)(q: ∀st',Arr st st'->Lies st' P Z.reverse S->Q () st'):Tm prog w A E J (xH i j) Q st:=by
 rw [reverseSlice'_eq];subst hi hj;exact .modify (q _ ⟨rfl,rfl,rfl,rfl⟩ (Mp _ P Z S h))
theorem Tm.ltAt {st:C9}{x y:R0}{i j:G7}{Q:P4 T5->C9->Prop}(ak:Yn prog w A J κ U R)(kd:kindOf st=κ)(hx:(T9 st).toList[i]? =some x)(hy:(T9 st).toList[j]? =some y)(ux:U x)(uy:U y)(q:Q (some (R x y)) st):Tm prog w A E J (ltAt' i j) Q st:=by
 rw [ltAt'_eq];exact .bind (.get (.bind (.elem (by rw [<-M6];exact hx) (.bind (.elem (by rw [<-M6];exact hy) (.lt ak kd ux uy q))))))
abbrev Dsc (R:R0->R0->T5)(l:G0 R0):Prop:=l.Pairwise λx y=>R x y=false
theorem CL {l:G0 R0}(d:Dsc R l):Srt R l.reverse:=iI.mpr d
theorem Mq (o:Ordd U R){l:G0 R0}{x y:R0}(u: ∀z∈l++ [x],U z)(uy:U y)(s:Srt R (l++ [x]))(h:R y x=false):Srt R (l++ [x]++ [y]):=by
 refine B7.mpr ⟨s,E5 _ _,λz hz v hv=> ?_⟩;rw [P1.mp hv];have ux:=u x (by simp);rcases T8.mp hz with w|w
 ·exact o.trans (u z hz) ux uy ((B7.mp s).2.2 z w x (by simp)) h
 ·rw [P1.mp w];exact h
theorem Mr {l m:G0 R0}(s:Dsc R (l++m))(alike: ∀x∈m,∀y∈m,R x y=false):Dsc R (l++m.reverse):=by
 obtain⟨a,b,c⟩:=B7.mp s;refine B7.mpr ⟨a,?_,λx hx y hy=>c x hx y (K4.mp hy)⟩;rw [O3];intro i j hi hj _;exact alike _ (K4.mp (O9 hi)) _ (K4.mp (O9 hj))
end
section
variable {prog:R9}{w:N4}{A:T3}{E:G1->G2->Prop}{J:G2->Prop}{κ:SortKind}{U:R0->Prop}{R:R0->R0->T5}
theorem Arr.trans {a b c:C9}(x:Arr a b)(y:Arr b c):Arr a c:=⟨y.1.trans x.1,y.2.1.trans x.2.1,y.2.2.1.trans x.2.2.1,y.2.2.2.trans x.2.2.2⟩
variable {P Z:G0 R0}
theorem Lies.rest {st:C9}{S:G0 R0}(h:Lies st P Z S){i:G7}:(T9 st).toList[P.length+Z.length+i]? =S[i]? :=by
 rw [h,N3 (by rw [P8];omega),P8]
 congr 1;omega
theorem Lies.end {st:C9}{W S:G0 R0}{x:R0}(h:Lies st P (W++ [x]) S):(T9 st).toList[P.length+W.length]? =some x:=by
 rw [h,D6,N3 (by omega),D6,N3 (by omega)];simp
theorem Wq {l:G0 R0}(h:1<=l.length): ∃W x,l=W++ [x]:=by
 rcases List.eq_nil_or_concat l with e|⟨W,x,e⟩
 ·subst e;simp at h
 ·exact⟨W,x,by rw [e,List.concat_eq_append]⟩
structure Fall (R:R0->R0->T5)(T Z1 Z2:G0 R0)(n:G7):Prop where
 len:(Z1++Z2).length=n
 perm:(Z1++Z2).Perm (T.take n)
 dsc:Dsc R (Z1++Z2)
 alike: ∀x∈Z2,∀y∈Z2,R x y=false
 ne:1<=Z2.length
variable {T:G0 R0}{n:G7}
theorem Fall.turn {Z1 Z2:G0 R0}(f:Fall R T Z1 Z2 n):Fall R T Z1 Z2.reverse n:=
 ⟨by have:=f.len;simp only [P8,F7] at this ⊢;exact this,((X5 Z2).append_left Z1).trans f.perm,Mr f.dsc f.alike,λx hx y hy=>f.alike x (K4.mp hx) y (K4.mp hy),by rw [F7];exact f.ne⟩
theorem Fall.mem {Z1 Z2:G0 R0}(f:Fall R T Z1 Z2 n){x:R0}(h:x∈Z1++Z2):x∈T:=E1 (f.perm.mem_iff.mp h)
theorem vA {y:R0}(h:Z.Perm (T.take n))(hy:T[n]? =some y):(Z++ [y]).Perm (T.take (n+1)):=by
 rw [Zt hy];exact h.append_right _
theorem Fall.below (o:Ordd U R){T Z1 Z2:G0 R0}{n:G7}{x y:R0}(u: ∀x∈T,U x)(f:Fall R T Z1 Z2 n)(hx:x∈Z2)(hy:T[n]? =some y)(h:R y x=true):Fall R T (Z1++Z2) [y] (n+1):=by
 have uy:=u y (P6 hy);have ux:=u x (f.mem (T8.mpr (.inr hx)));have xy:=o.asym y x uy ux h;refine⟨by rw [P8,f.len];rfl,vA f.perm hy,?_,λa ha b hb=> ?_,by simp⟩
 ·refine B7.mpr ⟨f.dsc,E5 _ _,λz hz v hv=> ?_⟩;rw [P1.mp hv];have uz:=u z (f.mem hz);have zx:R z x=false:=by
   rcases T8.mp hz with w|w
   ·exact(B7.mp f.dsc).2.2 z w x hx
   ·exact f.alike z w x hx
  exact o.trans uy ux uz xy zx
 ·rw [P1.mp ha,P1.mp hb];exact o.refl uy
theorem Fall.like (o:Ordd U R){T Z1 Z2:G0 R0}{n:G7}{x y:R0}(u: ∀x∈T,U x)(f:Fall R T Z1 Z2 n)(hx:x∈Z2)(hy:T[n]? =some y)(h:R y x=false)(h':R x y=false):Fall R T Z1 (Z2++ [y]) (n+1):=by
 have uy:=u y (P6 hy);have ux:=u x (f.mem (T8.mpr (.inr hx)));have zy: ∀z∈Z1++Z2,R z y=false:=λz hz=>by
  have uz:=u z (f.mem hz);have zx:R z x=false:=by
   rcases T8.mp hz with w|w
   ·exact(B7.mp f.dsc).2.2 z w x hx
   ·exact f.alike z w x hx
  exact o.trans uy ux uz h' zx
 have yz: ∀z∈Z2,R y z=false:=λz hz=>o.trans (u z (f.mem (T8.mpr (.inr hz)))) ux uy (f.alike x hx z hz) h
 refine⟨by rw [<-D6,P8,f.len];rfl,by rw [<-D6];exact vA f.perm hy,?_,λa ha b hb=> ?_,by simp⟩
 ·rw [<-D6];refine B7.mpr ⟨f.dsc,E5 _ _,λz hz v hv=> ?_⟩;rw [P1.mp hv];exact zy z hz
 ·rcases T8.mp ha with p|p<;>rcases T8.mp hb with r|r
  ·exact f.alike a p b r
  ·rw [P1.mp r];exact zy a (T8.mpr (.inr p))
  ·rw [P1.mp p];exact yz b r
  ·rw [P1.mp p,P1.mp r];exact o.refl uy
theorem Lies.more {st:C9}{m:G7}{y:R0}(L:Lies st P Z (T.drop m))(hy:T[m]? =some y):Lies st P (Z++ [y]) (T.drop (m+1)):=by
 unfold Lies at L ⊢;rw [L,jX hy];simp
theorem Lies.part {st:C9}{Z1 Z2 S:G0 R0}:Lies st P (Z1++Z2) S↔Lies st (P++Z1) Z2 S:=by
 unfold Lies;simp only [D6]
theorem Lies.two {st:C9}{m:G7}{y:R0}(L:Lies st P Z (T.drop m))(lz:Z.length=m)(m1:1<=m)(hy:T[m]? =some y):(T9 st).toList[P.length+m]? =some y/\ ∃W x,Z=W++ [x]/\(T9 st).toList[P.length+m-1]? =some x:=by
 have a:=L.rest (i:=0);rw [Y6,lz,Z8,Z8,hy] at a;obtain⟨W,x,e⟩:=Wq (l:=Z) (by omega);subst e;refine⟨a,W,x,rfl,?_⟩;rw [<-L.end]
 congr 1
 rw [P8,dO] at lz;omega
section
variable {σ ρ τ α:Type}{st:σ}
theorem Tm.rangeN {f:G7->P4 ρ×τ->aC σ Sem (gK (P4 ρ×τ))}(I:G7->τ->σ->Prop){Q:τ->σ->Prop}{Q':P4 ρ×τ->σ->Prop}{a b:G7}{c:τ}(hab:a<=b)(h:I a c st)(step: ∀i c st,i<b->I i c st->Tm prog w A E J (f i (none,c)) (λr st'=>match r with| .done c'=>c'.1=none/\Q c'.2 st'| .yield c'=>c'.1=none/\I (i+1) c'.2 st') st)(fin: ∀c st,I b c st->Q c st)(q: ∀c st,Q c st->Q' (none,c) st):Tm prog w A E J (forIn [a:b] ((none:P4 ρ),c) f) Q' st:=by
 refine Tm.mono (Tm.range (λi c st=>c.1=none/\I i c.2 st) (Q:=λc st=>c.1=none/\Q c.2 st) hab ⟨rfl,h⟩ ?_ λc st h=>⟨h.1,fin _ _ h.2⟩) ?_
 ·rintro i ⟨_,c⟩ st hi ⟨rfl,h⟩;exact(step i c st hi h).mono λr st' x=>by cases r<;>exact x
 ·rintro ⟨_,c⟩ st ⟨rfl,h⟩;exact q c st h
theorem Tm.fork {c:Prop}[Decidable c]{t e:aC σ Sem α}{Q:α->σ->Prop}(I:σ->Prop)(G: ∀s,I s->Tm prog w A E J e Q s)(T:c->(∀s,I s->Tm prog w A E J e Q s)->Tm prog w A E J t Q st)(F: ¬c->I st):Tm prog w A E J (if c then t else e) Q st:=
 .if2 (λh=>T h G) λh=>G _ (F h)
end
section
variable {st:C9}{P T Z:G0 R0}{m:G7}
theorem PD {f:G7->P4 (P4 G7)×G7->aC C9 Sem (gK (P4 (P4 G7)×G7))}{G:G7->P4 T5->aC C9 Sem (gK (P4 (P4 G7)×G7))}{Q:P4 (P4 G7)×G7->C9->Prop}(ak:Yn prog w A J κ U R)(kd:kindOf st=κ)(o:Ordd U R)(u: ∀x∈T,U x)
 (hf: ∀i n,f i (none,n)=ltAt' (P.length+n) (P.length+n-1) >>= G n)(hG: ∀n,G n (some true)=Pure.pure (.done (none,n))/\G n (some false)=Pure.pure (.yield (none,n+1)))
 (m1:1<=m)(m2:m<=T.length)(L:Lies st P Z (T.drop m))(p:Z.Perm (T.take m))(s:Srt R Z)
 (q: ∀n Z',1<=n->n<=T.length->Lies st P Z' (T.drop n)->Z'.Perm (T.take n)->Srt R Z'->(∀y,T[n]? =some y-> ∃W x,Z'=W++ [x]/\R y x=true)->Q (none,n) st):Tm prog w A E J (forIn [m:T.length] ((none:P4 (P4 G7)),m) f) Q st:=by
 refine Tm.rangeN (λi c s=>s=st/\c=i/\1<=i/\ ∃Z,Lies st P Z (T.drop i)/\Z.Perm (T.take i)/\Srt R Z) (Q:=λn s=>s=st/\Q (none,n) st) m2 ⟨rfl,rfl,m1,Z,L,p,s⟩ ?_ ?_ λc s h=>h.1 ▸ h.2
 ·rintro _ i _ hi ⟨rfl,rfl,i1,Z,L,p,s⟩;have hy:=P2 hi;obtain⟨ay,W,x,rfl,ax⟩:=L.two (by rw [p.length_eq,M5,dI (T4 hi)]) i1 hy;have uy:=u _ (O9 hi);have uZ: ∀z∈W++ [x],U z:=λz hz=>u z (E1 (p.mem_iff.mp hz))
  rw [hf];refine .bind (.ltAt ak kd ay ax uy (uZ x (by simp)) ?_);cases hb:R T[i] x with
  |true=>
   rw [(hG _).1];exact .pure ⟨rfl,rfl,q i _ i1 (T4 hi) L p s λy h=>⟨W,x,rfl,by rw [hy] at h;injection h with h;rw [<-h];exact hb⟩⟩
  |false=>
   rw [(hG _).2];exact .pure ⟨rfl,rfl,rfl,cT (M7 _),_,L.more hy,vA p hy,Mq o uZ uy s hb⟩
 ·rintro _ _ ⟨rfl,rfl,i1,Z,L,p,s⟩;exact⟨rfl,q _ Z i1 (P3 _) L p s λy h=>absurd (P5.mp h).1 (N7 _)⟩
end
def Fell (R:R0->R0->T5)(P T:G0 R0)(st st':C9)(n k:G7):Prop:=Arr st st'/\ ∃Z1 Z2,Lies st' P (Z1++Z2) (T.drop n)/\Fall R T Z1 Z2 n/\Z2.length=k+1
theorem Fell.rev {st s2:C9}{k:G7}{Q:Unit->C9->Prop}(h:Fell R P T st s2 n k)(q: ∀s3,Fell R P T st s3 n k->Q () s3):Tm prog w A E J (xH (P.length+n-(k+1)) (P.length+n)) Q s2:=by
 obtain⟨ar,Z1,Z2,L,F,l⟩:=h;have l12:=F.len;rw [P8] at l12;exact .rev (Lies.part.mp L) (by rw [P8];omega) (by rw [P8];omega) λs3 ar3 L3=>q s3 ⟨ar.trans ar3,Z1,_,Lies.part.mpr L3,F.turn,by rw [F7];exact l⟩
theorem Ms {st:C9}{Q:P4 G7->C9->Prop}(ak:Yn prog w A J κ U R)(kd:kindOf st=κ)(o:Ordd U R)(u: ∀x∈T,U x)(h:Lies st P [] T)(h1:1<=T.length)
 (q: ∀n st' Z,1<=n->n<=T.length->Arr st st'->Lies st' P Z (T.drop n)->Z.Perm (T.take n)->Srt R Z->Q (some n) st'):Tm prog w A E J (countRun' P.length T.length) Q st:=by
 refine .bind (PD (m:=1) (Z:=T.take 1) ak kd o u (by exact λi n=>rfl) (by exact λn=>⟨rfl,rfl⟩) (P3 _) h1 ?_ (.refl _) ?_ λn Z n1 n2 L p sr br=> ?_)
 ·unfold Lies at h ⊢;rw [h,O6,D6,N8]
 ·match T,h1 with
  |x::r,_=>exact E5 _ _
 refine .eq2 (x:=n) (y:=T.length) (λz1=> .pure (q n _ _ n1 n2 (Arr.refl _) L p sr)) λz1=> ?_
 have n3:n<T.length:=Q0 n2 z1;have hy:=P2 n3;have uZ: ∀z∈Z,U z:=λz hz=>u z (E1 (p.mem_iff.mp hz))
 obtain⟨W,x,e,yx⟩:=br _ hy;have lz:Z.length=n:=by rw [p.length_eq,M5,dI n2]
 have xin:x∈Z:=by rw [e];simp
 have xl:Z[Z.length-1]? =some x:=by rw [e];simp
 have F0:(∀p∈Z,∀r∈Z,R p r=false)->Fall R T [] Z n:=λal=>⟨lz,p,O3.mpr λi j hi hj _=>al _ (O9 hi) _ (O9 hj),al,by rw [lz];exact n1⟩
 refine Tm.fork (λs=>Fell R P T st s (n+1) 0) ?_ ?_ ?_
 ·intro s1 F1;refine .bind (.rule (.bind (Tm.rangeN (λi c s=>c.1=i/\Fell R P T st s c.1 c.2) (Q:=λc s=>c.1<=T.length/\Fell R P T st s c.1 c.2) n3 ⟨rfl,F1⟩ ?_ (λc s h=>⟨W3 h.1,h.2⟩) ?_)))
  ·intro i c s2 hi h2;have hc:c.1<T.length:=by rw [h2.1];exact hi
   have hy:=P2 hc;have uy:=u _ (O9 hc);obtain⟨e1,ar2,Z1,Z2,L2,F2,l2⟩:=h2;have l12:=F2.len;obtain⟨ay,W,x,eW,ax⟩:=L2.two l12 (by rw [<-l12,P8,l2];exact dH _ _) hy;have xin:x∈Z2:=by
    obtain⟨V,v,e⟩:=Wq F2.ne;have e':=congrArg List.getLast? eW;rw [e,<-D6,oX,oX] at e';injection e' with e'
    rw [e,<-e'];simp
   have ux:=u x (F2.mem (T8.mpr (.inr xin)));refine .bind (.ltAt ak (ar2.1.trans kd) ay ax uy ux (.if2 (c:=R _ x=true) (λhb=> ?_) λhb=> .bind (.ltAt ak (ar2.1.trans kd) ax ay ux uy (.if2 (c:=R x _=true) (λhc'=> .pure ⟨rfl,T4 hc,ar2,Z1,Z2,L2,F2,l2⟩) λhc'=> ?_))))
   ·refine Tm.fork (λs=>Fell R P T st s (c.1+1) 0) (λs h=> .pure ⟨rfl,congrArg G0M e1,h⟩) (λzq H=> .bind ?_) λzq=>⟨ar2,Z1++Z2,[T[c.1]],L2.more hy,F2.below o u xin hy hb,rfl⟩
    have l12':=l12;rw [P8] at l12';exact .rev (Lies.part.mp L2) (by rw [P8];dsimp only;omega) (by rw [P8];dsimp only;omega) λs3 ar3 L3=>H s3 ⟨ar2.trans ar3,Z1++Z2.reverse,[T[c.1]],(Lies.part.mpr L3).more hy,F2.turn.below o u (K4.mpr xin) hy hb,rfl⟩
   ·refine .pure ⟨rfl,congrArg G0M e1,ar2,Z1,Z2++ [T[c.1]],?_,F2.like o u xin hy (aK.mpr hb) (aK.mpr hc'),by rw [P8,l2];rfl⟩;rw [<-D6];exact L2.more hy
  ·intro c s2 h2;refine Tm.fork (λs=> ∃k,Fell R P T st s c.1 k) ?_ (λzq H=> .bind (h2.2.rev λs h=>H s ⟨_,h⟩)) λzq=>⟨_,h2.2⟩
   intro s3 h3;obtain⟨k,ar3,Z1,Z2,L3,F3,l3⟩:=h3;have m1:1<=c.1:=by rw [<-F3.len,P8,l3];exact dH _ _
   exact .bind (.rev L3 rfl (by rw [F3.len]) λs4 ar4 L4=> .bind (PD ak ((ar3.trans ar4).1.trans kd) o u (by exact λi n=>rfl) (by exact λn=>⟨rfl,rfl⟩) m1 h2.1 L4 ((X5 _).trans F3.perm) (CL F3.dsc) λn Z n1 n2 L p sr _=> .pure (q n s4 Z n1 n2 (ar3.trans ar4) L p sr)))
 ·intro z2 H;obtain⟨x0,V,eV⟩: ∃x0 V,Z=x0::V:=by
   match Z,xin with
   |a::r,_=>exact⟨a,r,rfl⟩
  have ux:=uZ x xin;have ux0:=uZ x0 (by rw [eV];simp);have a0:(T9 st).toList[P.length]? =some x0:=by rw [L,eV];simp
  have a1:(T9 st).toList[P.length+n-1]? =some x:=by
   obtain⟨_,W',x',e',ax⟩:=L.two lz n1 hy;rw [e] at e';rw [ax,(List.append_inj' e' rfl).2 |> λh=>(List.cons.inj h).1]
  exact .bind (.ltAt ak kd a0 a1 ux0 ux (.if2 (c:=R x0 x=true) (λ_=> .pure (q n _ _ n1 n2 (Arr.refl _) L p sr)) λhr0=> .bind (.rev L rfl (by rw [lz]) λs1 ar1 L1=>H s1 ⟨ar1,_,_,L1.more hy,Fall.below o u (Z1:= []) (Fall.turn (F0 λp hp r hr=>o.trans (uZ r hr) ux (uZ p hp) (PC o uZ sr xl hr) (aK.mpr λv=>(o.neg p x0 x (uZ p hp) ux0 ux v).elim (λv=>by rw [UY o uZ sr (z:=x0) (by rw [eV];rfl) hp] at v;cases v) hr0))) (K4.mpr xin) hy yx,rfl⟩)))
 ·intro z2;have w0:W= []:=aB (by rw [e,P8,dO] at lz;omega);have f: ∀z∈Z,z=x:=λz hz=>by rw [e,w0] at hz;exact P1.mp hz
  exact⟨Arr.refl st,_,_,L.more hy,Fall.below o u (Z1:= []) (F0 λp hp r hr=>by rw [f p hp,f r hr];exact o.refl (uZ x xin)) xin hy yx,rfl⟩
end
section
variable {prog:R9}{w:N4}{A:T3}{E:G1->G2->Prop}{J:G2->Prop}{κ:SortKind}{U:R0->Prop}{R:R0->R0->T5}
theorem Mt {B:S6 R0}{A R:G0 R0}{z y:R0}(h:B.toList=A++z::y::R):(B.swapIfInBounds (A.length+1) A.length).toList=A++y::z::R:=by
 obtain⟨l⟩:=B;cases h;have n:A.length<(A++z::y::R).length:=by rw [P8];exact Nat.lt_add_of_pos_right (aT _)
 have n1:A.length+1<(A++z::y::R).length:=by rw [P8];exact Nat.add_lt_add_left (Nat.succ_lt_succ (aT _)) _
 have a0:(A++z::y::R)[A.length]=z:=nJ rfl rfl;have a1:(A++z::y::R)[A.length+1]=y:=nJ (l₁:=A++ [z]) (l₂:=R) (by rw [D6];rfl) (by rw [P8];rfl);unfold Array.swapIfInBounds;refine(congrArg qE ((tU n1).trans (tU n))).trans ?_;rw [Array.toList_swap];show ((A++z::y::R).set (A.length+1) (A++z::y::R)[A.length]).set A.length (A++z::y::R)[A.length+1]=_;rw [a0,a1,n9 _ _ (Y7 A.length 1),n9 _ _ (P3 _),kG,gM];rfl
theorem PF {xs:S6 R0}{y:R0}{S:G0 R0}: ∀ (Z A:G0 R0),xs.toList=A++(Z++y::S)->(bubble xs (A.length+Z.length) Z.length).toList=A++y::(Z++S)
 | [],A,h=>h
 |z::Z,A,h=>by
  have ih:=PF Z (A++ [z]) (by rw [h,D6];rfl);rw [P8,gD] at ih;rw [D8,bubble_succ,show A.length+(Z.length+1)-Z.length=A.length+1 from qA (n:=A.length+1) (m:=Z.length) ▸ by rw [gD];rfl];exact Mt (ih.trans (by rw [D6];rfl))
theorem Mu (xs:S6 R0)(P Z S:G0 R0)(y:R0)(l:G7)(hl:l<=Z.length)(h:xs.toList=P++Z++y::S):(bubble xs (P.length+Z.length) (Z.length-l)).toList=P++(Z.take l++ [y]++Z.drop l)++S:=by
 have e:=PF (xs:=xs) (y:=y) (S:=S) (Z.drop l) (P++Z.take l) (by rw [h,D6 P (Z.take l),<-D6 (Z.take l),N8,D6]);rw [P8,M5,F9,dI hl,dM,K2 hl] at e;rw [e];simp only [D6,Q5,L6]
theorem CM (o:Ordd U R){Z:G0 R0}{y:R0}{l:G7}(u: ∀z∈Z,U z)(uy:U y)(s:Srt R Z)(a: ∀z∈Z.take l,R y z=false)(b: ∀z∈Z.drop l,R y z=true):Srt R (Z.take l++ [y]++Z.drop l):=by
 have s':Srt R (Z.take l++Z.drop l):=by rw [N8];exact s
 obtain⟨s1,s2,s3⟩:=B7.mp s';refine B7.mpr ⟨B7.mpr ⟨s1,E5 _ _,λx hx z hz=> ?_⟩,s2,λx hx z hz=> ?_⟩
 ·rw [P1.mp hz];exact a x hx
 ·rcases T8.mp hx with v|v
  ·exact s3 x v z hz
  ·rw [P1.mp v];exact o.asym y z uy (u z (A9 hz)) (b z hz)
theorem Aq {st:C9}{Q:T5->C9->Prop}{P T Z:G0 R0}{n k:G7}(ak:Yn prog w A J κ U R)(kd:kindOf st=κ)(o:Ordd U R)(u: ∀x∈T,U x)(h:Lies st P Z (T.drop k))(hp:Z.Perm (T.take k))(hs:Srt R Z)(k1:1<=k)(kn:k<=n)(hn:n<=T.length)
 (q: ∀st' Z',Arr st st'->Lies st' P Z' (T.drop n)->Z'.Perm (T.take n)->Srt R Z'->Q true st'):Tm prog w A E J (KA P.length n k) Q st:=by
 unfold KA;refine .bind (Tm.mono (Tm.range (λi c s1=>Arr st s1/\c.1=none/\1<=i/\ ∃Z,Lies s1 P Z (T.drop i)/\Z.Perm (T.take i)/\Srt R Z) (Q:=λc s1=>Arr st s1/\c.1=none/\ ∃Z,Lies s1 P Z (T.drop n)/\Z.Perm (T.take n)/\Srt R Z) (by omega) ⟨Arr.refl st,rfl,by omega,Z,by rw [tD k1];exact h,by rw [tD k1];exact hp,hs⟩ ?_ ?_) ?_)
 ·rintro i ⟨r,c2⟩ s1 hi ⟨ar,hr,i1,Z,L,p,s⟩;dsimp only at hr ⊢;subst hr;obtain⟨y,hy⟩: ∃y,T[i]? =some y:=⟨_,P2 (by omega)⟩;have uy:=u y (P6 hy);have lz:Z.length=i:=by rw [p.length_eq,M5];omega
  have uZ: ∀z∈Z,U z:=λz hz=>u z (E1 (p.mem_iff.mp hz))
  have ay:(T9 s1).toList[P.length+i]? =some y:=by
   have:=L.rest (i:=0);rw [Y6,lz] at this;rw [Z8] at this;rw [this];exact hy
  have az: ∀m,m<i-> ∃z,Z[m]? =some z/\(T9 s1).toList[P.length+m]? =some z:=λm hm=>by
   refine⟨Z[m],P2 (by omega),?_⟩;rw [L,D6,N3 (by omega),B8 (by omega),gM,P2 (by omega)]
  refine .bind (Tm.mono (Tm.range (λj c s2=>s2=s1/\c.1=none/\c.2.1<=c.2.2/\c.2.2<=i/\(∀z∈Z.take c.2.1,R y z=false)/\(∀z∈Z.drop c.2.2,R y z=true)/\c.2.2-c.2.1+j<=i) (Q:=λc s2=>s2=s1/\c.1=none/\c.2.1<=i/\(∀z∈Z.take c.2.1,R y z=false)/\(∀z∈Z.drop c.2.1,R y z=true)) (M7 _) ⟨rfl,rfl,M7 _,P3 _,λz hz=> ?_,λz hz=> ?_,by dsimp only;omega⟩ ?_ ?_) ?_)
  ·dsimp only at hz;rw [lB] at hz;cases hz
  ·dsimp only at hz;rw [A6 (by omega)] at hz;cases hz
  ·rintro j ⟨r,l,v⟩ _ hj ⟨rfl,hr,b1,b2,b3,b4,b5⟩;dsimp only at hr b1 b2 b3 b4 b5 ⊢;subst hr
   by_cases c1:l>=v
   ·rw [R6 c1];have:l=v:=by omega
    subst this;exact .pure ⟨rfl,rfl,b2,b3,b4⟩
   rw [R8 c1];obtain⟨z,hz,ez⟩:=az ((l+v) / 2) (by omega);have uz:=uZ z (P6 hz);refine .bind (.ltAt ak (ar.1.trans kd) ay ez uy uz ?_);dsimp only;cases hb:R y z with
   |true=>
    rw [R6 rfl];refine .pure ⟨rfl,rfl,by dsimp only;omega,by dsimp only;omega,b3,λx hx=> ?_,by dsimp only;omega⟩;dsimp only at hx;have zx:R x z=false:=by
     obtain⟨t,ht,e⟩:=X8 hx;rw [F9] at ht;exact Zu s o uZ (show (l+v) / 2<=(l+v) / 2+t by omega) hz (by rw [P2 (by omega),<-e,qZ])
    rcases o.neg y x z uy (uZ x (A9 hx)) uz hb with w|w
    ·exact w
    ·rw [zx] at w;cases w
   |false=>
    rw [R8 (by decide)];refine .pure ⟨rfl,rfl,by dsimp only;omega,b2,λx hx=> ?_,b4,by dsimp only;omega⟩;dsimp only at hx;have xz:R z x=false:=by
     obtain⟨t,ht,e⟩:=X8 hx;rw [M5] at ht;exact Zu s o uZ (show t<=(l+v) / 2 by omega) (by rw [P2 (by omega),<-e,mC]) hz
    exact o.trans (uZ x (E1 hx)) uz uy xz hb
  ·rintro ⟨r,l,v⟩ _ ⟨rfl,hr,b1,b2,b3,b4,b5⟩;dsimp only at hr b1 b2 b3 b4 b5 ⊢;have:l=v:=by omega
   subst this;exact⟨rfl,hr,b2,b3,b4⟩
  ·rintro ⟨r,l,v⟩ s2 ⟨rfl,hr,b2,b3,b4⟩;dsimp only at hr b2 b3 b4 ⊢;subst hr;dsimp only;refine .bind ?_;show Tm prog w A E J (moveDown' (P.length+i) (P.length+l)) _ _;rw [moveDown'_eq];refine .modify (.pure ⟨ar.trans ⟨rfl,rfl,rfl,rfl⟩,rfl,by omega,Z.take l++ [y]++Z.drop l,?_,?_,CM o uZ uy s b3 b4⟩)
   ·have:=Mu (T9 s2) P Z (T.drop (i+1)) y l (by omega) (by rw [<-jX hy];exact L);rw [lz] at this;rw [show P.length+i-(P.length+l)=i-l by omega];exact this
   ·refine nQ ?_ (vA p hy);rw [D6];have e:Z++ [y]=Z.take l++(Z.drop l++ [y]):=by rw [<-D6,N8]
    rw [e];exact(dP).append_left _
 ·rintro ⟨r,c2⟩ s1 ⟨ar,hr,i1,Z,L,p,s⟩;exact⟨ar,hr,Z,L,p,s⟩
 ·rintro ⟨r,c2⟩ s1 ⟨ar,hr,Z,L,p,s⟩;dsimp only at hr ⊢;subst hr;exact .pure (q s1 Z ar L p s)
end
section
variable {prog:R9}{w:N4}{A:T3}{E:G1->G2->Prop}{J:G2->Prop}{κ:SortKind}{U:R0->Prop}{R:R0->R0->T5}
def Stk (R:R0->R0->T5)(l:G0 R0):G0 (G7×G7×G7)->G7->G7->Prop
 | [],s,e=>s=e
 |(p,n,_)::rest,s,e=>p=s/\1<=n/\Srt R (seg l p n)/\Stk R l rest (s+n) e
variable {l:G0 R0}
theorem Stk.le: ∀ {pl:G0 (G7×G7×G7)} {s e:G7},Stk R l pl s e->s+pl.length<=e
 | [],s,e,h=>by cases h;simp
 |(p,n,_)::rest,s,e,⟨_,n1,_,h⟩=>by have:=Stk.le h;simp only [D8];omega
theorem Mv {l':G0 R0}{p n e:G7}(h:l.take e=l'.take e)(he:p+n<=e):seg l p n=seg l' p n:=by
 have cut: ∀k:G0 R0,seg k p n=seg (k.take e) p n:=λk=>by
  unfold seg;rw [oV,oW,dI (by omega)]
 rw [cut l,cut l',h]
theorem Stk.same {l l':G0 R0}: ∀ {pl:G0 (G7×G7×G7)} {s e:G7},Stk R l pl s e->l.take e=l'.take e->Stk R l' pl s e
 | [],s,e,h,_=>h
 |(p,n,_)::rest,s,e,⟨a,b,c,d⟩,h=>by
  have:=d.le;exact⟨a,b,by rw [<-Mv h (by omega)];exact c,d.same h⟩
theorem Stk.shift {l':G0 R0}: ∀ {pl:G0 (G7×G7×G7)} {s e:G7},Stk R l pl s e->l.drop s=l'.drop s->Stk R l' pl s e
 | [],s,e,h,_=>h
 |(p,n,_)::rest,s,e,⟨a,b,c,d⟩,h=>by
  subst a;refine⟨rfl,b,by unfold seg at c ⊢;rw [<-h];exact c,d.shift ?_⟩;rw [<-bI,<-bI,h]
theorem Stk.append: ∀ {a b:G0 (G7×G7×G7)} {s e:G7},Stk R l (a++b) s e↔ ∃m,Stk R l a s m/\Stk R l b m e
 | [],b,s,e=>⟨λh=>⟨s,rfl,h⟩,λ⟨m,h,h'⟩=>by cases h;exact h'⟩
 |(p,n,w)::a,b,s,e=>by
  constructor
  ·rintro ⟨x,y,z,h⟩;obtain⟨m,h1,h2⟩:=Stk.append.mp h;exact⟨m,⟨x,y,z,h1⟩,h2⟩
  ·rintro ⟨m,⟨x,y,z,h1⟩,h2⟩;exact⟨x,y,z,Stk.append.mpr ⟨m,h1,h2⟩⟩
structure Bt (R:R0->R0->T5)(κ:SortKind)(l0:G0 R0)(lo:G7)(st:C9):Prop where
 kind:kindOf st=κ
 failed:cJ st=none
 perm:(T9 st).toList.Perm l0
 stk:Stk R (T9 st).toList (C4 st).toList 0 lo
variable {l0:G0 R0}{lo:G7}
theorem Bt.size {st:C9}(b:Bt R κ l0 lo st):(T9 st).size=l0.length:=by rw [<-D0,b.perm.length_eq]
theorem Bt.merge {st:C9}{Q:T5->C9->Prop}{i:G7}(ak:Yn prog w A J κ U R)(o:Ordd U R)(u: ∀x∈l0,U x)(b:Bt R κ l0 lo st)(hlo:lo<=l0.length)(hi:i+1<(C4 st).size)
 (q: ∀st',Bt R κ l0 lo st'->(C4 st').size+1=(C4 st).size->(T9 st').toList.drop lo=(T9 st).toList.drop lo->Q true st'):Tm prog w A E J (IZ i) Q st:=by
 have lp:(C4 st).toList.length=(C4 st).size:=by simp
 obtain⟨⟨sa,na,pw⟩,hx⟩: ∃x,(C4 st).toList[i]? =some x:=⟨_,P2 (by omega)⟩;obtain⟨⟨sb,nb,pw2⟩,hy⟩: ∃y,(C4 st).toList[i+1]? =some y:=⟨_,P2 (by omega)⟩;have e:(C4 st).toList=(C4 st).toList.take i++(sa,na,pw)::(sb,nb,pw2)::(C4 st).toList.drop (i+2):=by
  rw [<-jX hy,<-jX hx,N8]
 have stk:=b.stk;rw [e] at stk;obtain⟨m,k1,em,n1,s1,eb,n2,s2,k2⟩:=Stk.append.mp stk;subst em;subst eb;have le:=k2.le;have sz:=b.size;have hz:sa+na+nb<=(T9 st).size:=by omega
 have ln:(T9 st).toList.length=(T9 st).size:=by simp
 refine Ap ak b.kind o (λx hx=>u x (b.perm.mem_iff.mp hx)) (by rw [<-M6];exact hx) (by rw [<-M6];exact hy) rfl n1 n2 hz s1 s2 b.failed λst' Z kd hf hp ha pz sz'=> ?_
 have hpl:(C4 st').toList=(C4 st).toList.take i++(sa,na+nb,pw)::(C4 st).toList.drop (i+2):=by
  rw [hp,Array.eraseIdxIfInBounds_eq,tU (by rw [fU];exact hi),Array.toList_eraseIdx,lC];generalize (C4 st).toList.drop (i+2)=B at e ⊢;have li:((C4 st).toList.take i).length=i:=by rw [M5];omega
  generalize (C4 st).toList.take i=A at e li ⊢;rw [e];subst li;simp [List.set_append,List.eraseIdx_append];intro z;omega
 have lZ:Z.length=na+nb:=by rw [pz.length_eq,P8,Zw (by omega),Zw (by omega)]
 have lt:((T9 st).toList.take sa).length=sa:=by rw [M5];omega
 refine q st' ⟨kd,hf,?_,?_⟩ ?_ ?_
 ·rw [ha];refine nQ ?_ b.perm;have c3:=YX (T9 st).toList (p:=sa) (n:=na) (m:=nb);have pp:=(pz.append_left ((T9 st).toList.take sa)).append_right ((T9 st).toList.drop (sa+na+nb));rw [<-c3] at pp;exact pp
 ·rw [hpl,ha];refine Stk.append.mpr ⟨sa,k1.same ?_,rfl,by omega,?_,?_⟩
  ·rw [D6,aE (by omega),C5 (l:=(T9 st).toList.take sa) (by omega)]
  ·unfold seg;rw [D6,aD (by omega),A6 (by omega),L6,aE (by omega),C5 (by omega)];exact sz'
  ·rw [<-dM];refine k2.shift ?_;have:((T9 st).toList.take sa++Z).length=sa+na+nb:=by rw [P8,lt,lZ];omega
   rw [aD (by omega),A6 (as:=(T9 st).toList.take sa++Z) (by omega),L6]
 ·rw [<-D0,<-D0,hpl];have:(C4 st).toList.length=((C4 st).toList.take i++(sa,na,pw)::(sa+na,nb,pw2)::(C4 st).toList.drop (i+2)).length:=congrArg iU e;rw [this];simp only [P8,D8];omega
 ·rw [ha];have c1:((T9 st).toList.take sa++Z).length=sa+na+nb:=by rw [P8,lt,lZ];omega
  have c2:sa+na+nb<=lo:=by omega
  rw [List.drop_append,A6 (as:=(T9 st).toList.take sa++Z) (by omega),L6,bI,c1]
  congr 1;omega
theorem Bt.run {Z:G0 R0}{n:G7}{s1 s2:C9}(b:Bt R κ l0 lo s1)(hlo:lo<=l0.length)(ar:Arr s1 s2)(L:Lies s2 ((T9 s1).toList.take lo) Z (((T9 s1).toList.drop lo).drop n))(p:Z.Perm (((T9 s1).toList.drop lo).take n))(sr:Srt R Z)(hn:n<=l0.length-lo):Bt R κ l0 lo s2/\Srt R (seg (T9 s2).toList lo n):=by
 have ln:(T9 s1).toList.length=l0.length:=b.perm.length_eq;have lP:((T9 s1).toList.take lo).length=lo:=by rw [M5];omega
 have lZ:Z.length=n:=by rw [p.length_eq,M5,F9];omega
 have e:(T9 s2).toList=(T9 s1).toList.take lo++Z++((T9 s1).toList.drop lo).drop n:=L;refine⟨⟨ar.1.trans b.kind,ar.2.2.1.trans b.failed,?_,?_⟩,?_⟩
 ·rw [e];refine nQ ?_ b.perm;have pp:=(p.append_left ((T9 s1).toList.take lo)).append_right (((T9 s1).toList.drop lo).drop n);rw [D6 _ (((T9 s1).toList.drop lo).take n),N8,N8] at pp;exact pp
 ·rw [ar.2.1];refine b.stk.same ?_;rw [e,D6,aE (by omega),C5 (l:=(T9 s1).toList.take lo) (by omega)]
 ·rw [e];unfold seg;rw [D6,aD (by omega),A6 (by omega),L6,aE (by omega),C5 (by omega)];exact sr
theorem Bt.push {n:G7}{s:C9}(b:Bt R κ l0 lo s)(n1:1<=n)(g:Srt R (seg (T9 s).toList lo n)):Bt R κ l0 (lo+n) (G0i s ((C4 s).push (lo,n,0))):=by
 refine⟨b.kind,b.failed,b.perm,?_⟩;show Stk R (T9 s).toList ((C4 s).push (lo,n,0)).toList 0 (lo+n);rw [U1];exact Stk.append.mpr ⟨lo,b.stk,rfl,n1,g,rfl⟩
theorem Stk.mod {f:G7×G7×G7->G7×G7×G7}(hf: ∀x,(f x).1=x.1/\(f x).2.1=x.2.1): ∀ {pl:G0 (G7×G7×G7)} {k s e:G7},Stk R l pl s e->Stk R l (pl.modify k f) s e
 | [],k,s,e,h=>by rw [List.modify_nil];exact h
 |(p,n,w)::rest,0,s,e,⟨a,b,c,d⟩=>by
  rw [List.modify_zero_cons];have e1:=(hf (p,n,w)).1;have e2:=(hf (p,n,w)).2;generalize f (p,n,w)=x at e1 e2;obtain⟨p',n',w'⟩:=x;dsimp only at e1 e2;subst e1 e2;exact⟨a,b,c,d⟩
 |(p,n,w)::rest,k+1,s,e,⟨a,b,c,d⟩=>by
  rw [List.modify_succ_cons];exact⟨a,b,c,d.mod hf⟩
theorem Bt.mod {k:G7}{s:C9}{f:G7×G7×G7->G7×G7×G7}(b:Bt R κ l0 lo s)(hf: ∀x,(f x).1=x.1/\(f x).2.1=x.2.1):Bt R κ l0 lo (G0i s ((C4 s).modify k f)):=by
 refine⟨b.kind,b.failed,b.perm,?_⟩;show Stk R (T9 s).toList ((C4 s).modify k f).toList 0 lo;rw [Array.toList_modify];exact b.stk.mod hf
theorem Mw (c:T5)(x:G7):(if c=true then x-1 else x)<=x:=by cases c<;>simp
theorem CO {st:C9}{Q:Unit->C9->Prop}(ak:Yn prog w A J κ U R)(o:Ordd U R)(u: ∀x∈l0,U x)(kd:kindOf st=κ)(hf:cJ st=none)(hp:C4 st= #[])(hl:(T9 st).toList=l0)
 (q: ∀st',cJ st'=none->(T9 st').toList.Perm l0->Srt R (T9 st').toList->Q () st'):Tm prog w A E J sortRuns' Q st:=by
 have b0:Bt R κ l0 0 st:=⟨kd,hf,by rw [hl],by rw [hp];rfl⟩;rw [sortRuns'_eq];refine .bind (.get ?_);dsimp only;rw [b0.size];generalize minRun' l0.length l0.length 0=mr;refine .bind (Tm.mono (Tm.range (λi c s1=>c.1=none/\c.2<=l0.length/\i<=c.2/\Bt R κ l0 c.2 s1) (Q:=λc s1=>c.1=none/\Bt R κ l0 l0.length s1) (M7 _) ⟨rfl,M7 _,M7 _,b0⟩ ?_ ?_) ?_)
 ·rintro i ⟨r,lo⟩ s1 hi ⟨hr,h1,h2,b⟩;dsimp only at hr h1 h2 b ⊢;subst hr
  by_cases z1:lo>=l0.length
  ·rw [R6 z1];have:lo=l0.length:=by omega
   subst this;exact .pure ⟨rfl,b⟩
  rw [R8 z1];have ln:(T9 s1).toList.length=l0.length:=b.perm.length_eq;have lP:((T9 s1).toList.take lo).length=lo:=by rw [M5];omega
  have lT:((T9 s1).toList.drop lo).length=l0.length-lo:=by rw [F9,ln]
  have uT: ∀x∈(T9 s1).toList.drop lo,U x:=λx hx=>u x (b.perm.mem_iff.mp (A9 hx))
  have ct:=λ{Q}=>Ms (prog:=prog) (w:=w) (A:=A) (E:=E) (J:=J) (Q:=Q) (st:=s1) (P:=(T9 s1).toList.take lo) (T:=(T9 s1).toList.drop lo) ak b.kind o uT (by unfold Lies;rw [O6,N8]) (by omega)
  rw [lP,lT] at ct;refine .bind (ct λn s2 Z n1 n2 ar L p sr=> ?_);dsimp only
  by_cases z2:n<mr
  ·rw [R6 z2];have bn:=λ{Q}=>Aq (prog:=prog) (w:=w) (A:=A) (E:=E) (J:=J) (Q:=Q) (st:=s2) (P:=(T9 s1).toList.take lo) (T:=(T9 s1).toList.drop lo) (n:=min (l0.length-lo) mr) ak (ar.1.trans b.kind) o uT L p sr n1 (by omega) (by omega)
   rw [lP] at bn;refine .bind (.rule (.bind (bn λs3 Z3 ar3 L3 p3 sr3=> ?_)));obtain⟨B,G⟩:=b.run h1 (ar.trans ar3) L3 p3 sr3 (by omega);have N1:1<=min (l0.length-lo) mr:=by omega
   rw [R8 (by decide)];refine .bind (.get ?_);split
   ·refine .bind (Tm.mono (Tm.range (λj c s4=>c.1=none/\Bt R κ l0 lo s4/\Srt R (seg (T9 s4).toList lo (min (l0.length-lo) mr))) (Q:=λc s4=>c.1=none/\Bt R κ l0 lo s4/\Srt R (seg (T9 s4).toList lo (min (l0.length-lo) mr))) (M7 _) ⟨rfl,B,G⟩ ?_ (λ_ _ h=>h)) ?_)
    ·rintro j ⟨r,c⟩ s4 hj ⟨hr,B4,G4⟩;dsimp only at hr ⊢;subst hr;refine .bind (.get ?_);split
     ·rename_i older heq;split
      ·exact .pure ⟨rfl,B4,G4⟩
      ·have two:(C4 s4).size>1:=fE λz=>by rw [R8 z] at heq;cases heq
       refine .bind (Bt.merge ak o u B4 h1 (by omega) λs5 B5 _ dr=> ?_);refine .pure ⟨rfl,B5,?_⟩;unfold seg at G4 ⊢;rw [dr];exact G4
     ·exact .pure ⟨rfl,B4,G4⟩
    ·rintro ⟨r,c⟩ s4 ⟨hr,B4,G4⟩;dsimp only at hr ⊢;subst hr;dsimp only;refine .bind (.modify (.bind (.modify (.pure ⟨rfl,?_,?_,Bt.push (Bt.mod B4 λx=>⟨rfl,rfl⟩) N1 G4⟩))))
     ·dsimp only;omega
     ·dsimp only;omega
   ·refine .bind (.modify (.pure ⟨rfl,?_,?_,Bt.push B N1 G⟩))
    ·dsimp only;omega
    ·dsimp only;omega
  ·rw [R8 z2];obtain⟨B,G⟩:=b.run h1 ar L p sr n2;have N1:=n1;refine .bind (.get ?_);split
   ·refine .bind (Tm.mono (Tm.range (λj c s4=>c.1=none/\Bt R κ l0 lo s4/\Srt R (seg (T9 s4).toList lo (n))) (Q:=λc s4=>c.1=none/\Bt R κ l0 lo s4/\Srt R (seg (T9 s4).toList lo (n))) (M7 _) ⟨rfl,B,G⟩ ?_ (λ_ _ h=>h)) ?_)
    ·rintro j ⟨r,c⟩ s4 hj ⟨hr,B4,G4⟩;dsimp only at hr ⊢;subst hr;refine .bind (.get ?_);split
     ·rename_i older heq;split
      ·exact .pure ⟨rfl,B4,G4⟩
      ·have two:(C4 s4).size>1:=fE λz=>by rw [R8 z] at heq;cases heq
       refine .bind (Bt.merge ak o u B4 h1 (by omega) λs5 B5 _ dr=> ?_);refine .pure ⟨rfl,B5,?_⟩;unfold seg at G4 ⊢;rw [dr];exact G4
     ·exact .pure ⟨rfl,B4,G4⟩
    ·rintro ⟨r,c⟩ s4 ⟨hr,B4,G4⟩;dsimp only at hr ⊢;subst hr;dsimp only;refine .bind (.modify (.bind (.modify (.pure ⟨rfl,?_,?_,Bt.push (Bt.mod B4 λx=>⟨rfl,rfl⟩) N1 G4⟩))))
     ·dsimp only;omega
     ·dsimp only;omega
   ·refine .bind (.modify (.pure ⟨rfl,?_,?_,Bt.push B N1 G⟩))
    ·dsimp only;omega
    ·dsimp only;omega
 ·rintro ⟨r,lo⟩ s1 ⟨hr,h1,h2,b⟩;dsimp only at hr h1 h2 b;have:lo=l0.length:=by omega
  subst this;exact⟨hr,b⟩
 ·rintro ⟨r,lo⟩ s1 ⟨hr,b⟩;dsimp only at hr ⊢;subst hr;dsimp only;have le0:=b.stk.le;have lp0:(C4 s1).toList.length=(C4 s1).size:=by simp
  refine .bind (Tm.mono (Tm.range (λj c s4=>c.1=none/\Bt R κ l0 l0.length s4/\(C4 s4).size+j<=l0.length) (Q:=λc s4=>c.1=none/\Bt R κ l0 l0.length s4/\(C4 s4).size<=1) (M7 _) ⟨rfl,b,by omega⟩ ?_ (λc s4 ⟨x,y,z⟩=>⟨x,y,by omega⟩)) ?_)
  ·rintro j ⟨r,c⟩ s4 hj ⟨hr,B4,z4⟩;dsimp only at hr ⊢;subst hr;refine .bind (.get ?_)
   by_cases c1:(C4 s4).size<=1
   ·rw [R6 c1];exact .pure ⟨rfl,B4,c1⟩
   rw [R8 c1];refine .bind (Bt.merge ak o u B4 (P3 _) (Y4 (Nat.add_le_add_right (Mw _ _) 1) (by omega)) λs5 B5 z5 _=> ?_);exact .pure ⟨rfl,B5,by omega⟩
  ·rintro ⟨r,c⟩ s4 ⟨hr,B4,z4⟩;dsimp only at hr ⊢;subst hr;refine .pure (q s4 B4.failed B4.perm ?_);have stk:=B4.stk;have ln:(T9 s4).toList.length=l0.length:=B4.perm.length_eq;have lp:(C4 s4).toList.length=(C4 s4).size:=by simp
   generalize (C4 s4).toList=pl at stk lp
   match pl,stk,lp with
   | [],e,_=>
    have:l0.length=0:=e.symm;have:(T9 s4).toList= []:=aH.mp (by omega);rw [this];exact .nil
   | [(p,n,_)],⟨e1,_,sr,e2⟩,_=>
    subst e1;have en:n=l0.length:=by have:0+n=l0.length:=e2;omega
    unfold seg at sr;rw [oU,C5 (by omega)] at sr;exact sr
   |_::_::_,_,h=>simp only [D8] at h;omega
end
section
variable {prog:R9}{w:N4}{A:T3}{E:G1->G2->Prop}{s:G2}{κ:SortKind}{U:R0->Prop}{R:R0->R0->T5}
def FN (s:G2)(a:G9)(h':B6):Prop:= ∀b o,b≠a->s.heap.get? b=some o->h'.get? b=some o
def Only (s:G2)(h':B6):G2->Prop:=λs'=> ∃tk,s'= {s with heap:=h',toks:=tk}
theorem Mx {M:j0}{α β:Type}{c:Prop}[Decidable c]{m m':Sem α}{F:α->Sem β}{Q:β->G2->Prop}(h:R3 M A ((if c then m else m') >>= F) Q E s):R3 M A (if c then m >>= F else m' >>= F) Q E s:=by
 by_cases z:c
 ·rw [R6 z] at h ⊢;exact h
 ·rw [R8 z] at h ⊢;exact h
theorem vY (vs:G0 G1):(vs.toArray.zip vs.toArray).toList=vs.map λv=>(v,v):=by
 rw [Array.toList_zip];show vs.zip vs=_
 induction vs with
 |nil=>rfl
 |cons v vs ih=>rw [W5,ih,C6]
theorem CP {R:G1×G1->G1×G1->T5}: ∀l:G0 G1,l.length<2->Srt R (l.map λv=>(v,v))
 | [],_=>lR
 | [_],_=>E5 _ _
theorem Mz {a:G9}{vs:G0 G1}{n:G7}{P:Fin->G2->Prop}(ho:s.heap.get? a=some (hJ "list" vs.toArray n))(hz:vs.length<=sizeLine)
 (hk:2<=vs.length-> ∀h',FN s a h'->R3 (R7 prog w) A (KB vs.toArray) (λk s'=>k=κ/\Only s h' s') (λ_ _=>False) {s with heap:=h'})(ak: ∀h',FN s a h'->Yn prog w A (Only s h') κ U R)(o:Ordd U R)(u: ∀v∈vs,U (v,v))
 (q: ∀ (out:G0 G1) (c tk:G7) (h':B6),FN s a h'->h'.get? a=some (hJ "list" out.toArray c)->out.Perm vs->(out.map λv=>(v,v)).Pairwise (λx y=>R y x=false)->P (.done (.ret .none)) {s with heap:=h',toks:=tk}):
 R3 (R7 prog w) A (Builtin.«list.sort» ⟨[.ref a],[]⟩) P E s:=by
 have alt:=P9 ho;have sv:vs.toArray.size=vs.length:=R5 ..;rw [list_sort_plain];refine wpAny_bind (HZ ho rfl ?_);obtain⟨c1,ho1⟩: ∃c,(s.heap.update a (V5 λ_=>(#[]:S6 G1))).get? a=some (hJ "list" #[] c):=⟨_,tE ho λ_=> #[]⟩;refine wpAny_bind (xI ho rfl ?_ (by rw [sv];exact hz) (M7 _));refine wpAny_bind (KC ho1 rfl ?_);refine wpAny_bind (oP ?_ hz);refine wpAny_bind (pS ?_ (M7 _));refine L5 ?_;have past:FN s a (((s.heap.update a (V5 λ_=>(#[]:S6 G1))).push {cls:= .type "tuple",data:= .seq vs.toArray.toList.toArray}).push {cls:= .type "list",data:= .seq ([]:G0 G1).toArray}):=λb x ne e=>by
  refine G3 _ (G3 _ ?_);rw [fJ _ _ _ _ ne];exact e
 have ho3:=G3 ({cls:= .type "list",data:= .seq ([]:G0 G1).toArray}:Obj) (G3 ({cls:= .type "tuple",data:= .seq vs.toArray.toList.toArray}:Obj) ho1);revert past ho3;generalize ((s.heap.update a (V5 λ_=>(#[]:S6 G1))).push ({cls:= .type "tuple",data:= .seq vs.toArray.toList.toArray}:Obj)).push ({cls:= .type "list",data:= .seq ([]:G0 G1).toArray}:Obj)=H3;intro past ho3;have kd:R3 (R7 prog w) A (if vs.toArray.size<2 then pure general' else KB vs.toArray) (λk s0=>(2<=vs.length->k=κ)/\Only s H3 s0) (λ_ _=>False) {s with heap:=H3}:=by
  by_cases c:vs.toArray.size<2
  ·rw [R6 c];exact G8 ⟨λz=>by omega,s.toks,rfl⟩
  ·rw [R8 c];exact B1 (hk (by omega) H3 past) (λk s0 x=>⟨λ_=>x.1,x.2⟩) λ_ _ e=>e
 have rn: ∀k s0,(2<=vs.length->k=κ)->Only s H3 s0->R3 (R7 prog w) A ((if vs.toArray.size<2 then pure () else sortRuns':aC C9 Sem Unit).run (SortSt.mk' k (vs.toArray.zip vs.toArray) #[] 7 none)) (λr s'=>(cJ r.2=none/\(T9 r.2).toList.Perm (vs.map λv=>(v,v))/\Srt R (T9 r.2).toList)/\Only s H3 s') E s0:=by
  intro k s0 ek j
  by_cases c:vs.toArray.size<2
  ·rw [R6 c,StateT.run_pure];refine G8 ⟨⟨rfl,?_,?_⟩,j⟩
   ·show (vs.toArray.zip vs.toArray).toList.Perm _;rw [vY]
   ·show Srt R (vs.toArray.zip vs.toArray).toList;rw [vY];rw [sv] at c;exact CP vs c
  ·rw [R8 c];have ek:=ek (by omega);subst ek;refine CO (E:=E) (ak H3 past) o (l0:=vs.map λv=>(v,v)) (st:=SortSt.mk' k (vs.toArray.zip vs.toArray) #[] 7 none) (λx hx=> ?_) rfl rfl rfl (vY vs) (Q:=λ_ st'=>cJ st'=none/\(T9 st').toList.Perm (vs.map λv=>(v,v))/\Srt R (T9 st').toList) (λst' a1 a2 a3=>⟨a1,a2,a3⟩) s0 j;obtain⟨v,hv,rfl⟩:=S4.mp hx;exact u v hv
 dsimp only;refine Mx (wpAny_bind (B1 kd (λk s0 x=> ?_) λ_ _ e=>e.elim));refine wpAny_bind (B1 (rn k s0 x.1 x.2) ?_ λ_ _ e=>e);rintro ⟨⟨⟩,st'⟩ s1 ⟨⟨hf,hp,hs⟩,tk,rfl⟩;dsimp only;have eo:((T9 st').map λx=>x.2)=((T9 st').toList.map λx=>x.2).toArray:=by
  rw [<-rS,Array.toArray_toList]
 have two:(T9 st').toList=((T9 st').toList.map λx=>x.2).map λv=>(v,v):=by
  rw [O0];refine(oY _).symm.trans (A4 λx hx=> ?_);obtain⟨v,_,rfl⟩:=S4.mp (hp.mem_iff.mp hx);rfl
 have po:((T9 st').toList.map λx=>x.2).Perm vs:=by
  have:=hp.map λx=>x.2
  rw [O0] at this;refine this.trans ?_;rw [show ((λx:R0=>x.2)∘λv:G1=>(v,v))=id from rfl,oY]
 rw [two] at hs;rw [eo];generalize (T9 st').toList.map (λx=>x.2)=out at hs po;obtain⟨c2,ho4⟩: ∃c,(H3.update a (V5 λ_=>out.toArray)).get? a=some (hJ "list" out.toArray c):=⟨_,tE ho3 λ_=>out.toArray⟩;refine wpAny_bind (KC (s:= {s with heap:=H3,toks:=tk}) ho3 rfl ?_);refine wpAny_bind (xI (s:= {s with heap:=H3,toks:=tk}) ho3 rfl ?_ (M7 _) (by rw [R5,po.length_eq];exact Nat.le_succ_of_le hz));rw [hf];simp only [qU,A3,oI];refine G8 (q out c2 tk _ (λb x ne e=> ?_) ho4 po hs);rw [fJ _ _ _ _ ne];exact past b x ne e
abbrev vZ (h h':B6):Prop:= ∀b o,h.get? b=some o->h'.get? b=some o
end
theorem wK: ∀a b:G0 D3,ju a b=true->ju b a=false
 | [],[],h=>rfl
 | [],_::_,_=>rfl
 |_::_,[],h=>by cases h
 |x::xs,y::ys,h=>by
  unfold ju at h ⊢
  by_cases e:x=y
  ·subst e;rw [R6 rfl] at h ⊢;exact wK xs ys h
  ·rw [R8 e] at h;rw [R8 (U9 e)];have:=J5 h;exact N6 (by omega)
theorem YY: ∀a b c:G0 D3,ju a c=true->ju a b=true\/ju b c=true
 | [],[],c,h=> .inr h
 | [],_::_,_,_=> .inl rfl
 |_::_,_,[],h=>by cases h
 |x::xs,[],z::zs,h=> .inr rfl
 |x::xs,y::ys,z::zs,h=>by
  unfold ju at h ⊢
  by_cases e:x=z
  ·subst e;rw [R6 rfl] at h
   by_cases f:x=y
   ·subst f;rw [R6 rfl,R6 rfl];exact YY xs ys zs h
   ·rw [R8 f,R8 (U9 f)]
    by_cases g:x<y
    ·exact .inl (M8 g)
    ·exact .inr (M8 (by omega))
  ·rw [R8 e] at h;have lt:=J5 h
   by_cases f:x=y
   ·subst f;rw [R8 e];exact .inr h
   ·rw [R8 f]
    by_cases g:x<y
    ·exact .inl (M8 g)
    ·refine .inr ?_;rw [R8 (by omega)];exact M8 (by omega)
theorem yT: ∀a b:G0 D3,ju a b=false->ju b a=false->a=b
 | [],[],_,_=>rfl
 | [],_::_,h,_=>by cases h
 |_::_,[],_,h=>by cases h
 |x::xs,y::ys,h,h'=>by
  unfold ju at h h'
  by_cases e:x=y
  ·subst e;rw [R6 rfl] at h h';rw [yT xs ys h h']
  ·rw [R8 e] at h;rw [R8 (U9 e)] at h';have:=lA h;have:=lA h';omega
theorem PH {U:R0->Prop}(key:G1->G0 D3):Ordd U (λx y=>ju (key x.1) (key y.1)):=⟨λx y _ _ h=>wK _ _ h,λx y z _ _ _ h=>YY _ _ _ h⟩
def IT (h:B6)(v:G1)(ns:G0 D3):Prop:= ∃a its,v= .ref a/\rZ h a its/\W9 its.toList ns
theorem IT.keeps {h h':B6}{v:G1}{ns:G0 D3}(x:IT h v ns)(k:vZ h h'):IT h' v ns:=let ⟨a,its,e,t,i⟩:=x;⟨a,its,e,t.keeps k,i⟩
theorem UZ: ∀ {vs:G0 G1} {ns ms:G0 D3},W9 vs ns->W9 vs ms->ns=ms
 |_,_,_,.nil,.nil=>rfl
 |_,_,_,.cons n t a,.cons _ _ b=>by rw [UZ a b]
theorem IT.one {h:B6}{v:G1}{ns ms:G0 D3}(x:IT h v ns)(y:IT h v ms):ns=ms:=by
 obtain⟨a,its,rfl,⟨o,e,c,n,d⟩,i⟩:=x;obtain⟨a',its',e2,⟨o',e',c',n',d'⟩,i'⟩:=y;cases e2;rw [e] at e';cases e';rw [d] at d';cases d';exact UZ i i'
open Classical in
noncomputable def jY (h:B6)(v:G1):G0 D3:=if e: ∃ns,IT h v ns then e.choose else []
theorem IT.nums {h:B6}{v:G1}{ns:G0 D3}(x:IT h v ns):jY h v=ns:=by
 have e: ∃ns,IT h v ns:=⟨ns,x⟩;unfold jY;rw [tU e];exact e.choose_spec.one x
section
variable {prog:R9}{w:N4}{A:T3}{E:G1->G2->Prop}{s:G2}
theorem vB {α β:Type}{M:j0}{f:α->Sem β}(r:α->β): ∀ (l:G0 α) {Q:G0 β->G2->Prop},(∀v∈l,∀Q':β->G2->Prop,Q' (r v) s->R3 M A (f v) Q' E s)->Q (l.map r) s->R3 M A (l.mapM f) Q E s
 | [],_,_,q=>by
  rw [List.mapM_nil];exact G8 q
 |v::l,Q,hf,q=>by
  rw [List.mapM_cons];refine wpAny_bind (hf v P7 _ (wpAny_bind ?_));exact vB r l (λu hu=>hf u (D1 _ hu)) (G8 q)
def zh (h:B6):G1->P4 G1
 | .ref a=>match h.get? a with
  |some o=>match o.data with
   | .seq xs _=>xs[0]?
   |_=>none
  |none=>none
 |_=>none
variable {v:G1}{ns:G0 D3}
theorem MB {Q:P4 G1->G2->Prop}(x:IT s.heap v ns)(q:Q (zh s.heap v) s):R3 (R7 prog w) A (firstOfTuple' v) Q E s:=by
 obtain⟨a,its,rfl,⟨o,e,c,n,d⟩,i⟩:=x;have fe:zh s.heap (.ref a)=its[0]? :=by
  unfold zh;dsimp only;rw [e];dsimp only;rw [d]
 rw [KG];refine wpAny_bind (qB (show xJ (R7 prog w) s.heap (y6 (.ref a)) o.cls from (rT e).andThen .now) ?_);rw [c,R8 (by decide)];refine wpAny_bind (HZ e d (G8 ?_));rw [<-fe];exact q
variable {h:B6}
theorem Qc (x:IT h v []):zh h v=none:=by
 obtain⟨a,its,rfl,⟨o,e,c,n,d⟩,i⟩:=x;unfold zh;dsimp only;rw [e];dsimp only;rw [d];dsimp only;obtain⟨l⟩:=its;cases i;rfl
theorem Wr {n:D3}(x:IT h v (n::ns)): ∃t,zh h v=some (.int n t):=by
 obtain⟨a,its,rfl,⟨o,e,c,k,d⟩,i⟩:=x;obtain⟨l⟩:=its;cases i with
 |cons _ t i=>exact⟨t,by unfold zh;dsimp only;rw [e];dsimp only;rw [d];rfl⟩
theorem MC (x:IT h v ns):(zh h v).isSome= !ns.isEmpty:=by
 cases ns with
 |nil=>rw [Qc x];rfl
 |cons n ns=>obtain⟨t,e⟩:=Wr x;rw [e];rfl
noncomputable def PJ (h:B6)(vs:G0 G1):SortKind:=
 if (vs.all λv=> !(jY h v).isEmpty)=true then tuples' true else if ((vs[0]?.map λv=> !(jY h v).isEmpty)=some true) then general' else oneType'
theorem PK {vs:G0 G1}(h2:2<=vs.length)(x: ∀v∈vs,∃ns,IT h v ns){Q:SortKind->G2->Prop}(e:vZ h s.heap)(q:Q (PJ h vs) s):R3 (R7 prog w) A (KB vs.toArray) Q E s:=by
 have fr: ∀v∈vs,(zh s.heap v).isSome= !(jY h v).isEmpty:=λv hv=>by
  obtain⟨ns,t⟩:=x v hv;rw [t.nums,MC (t.keeps e)]
 rw [keyKind'_eq,mD,map_eq_pure_bind];refine wpAny_bind (wpAny_bind (vB (zh s.heap) vs (λv hv Q' q'=> ?_) (G8 ?_)))
 ·obtain⟨ns,t⟩:=x v hv;exact MB (t.keeps e) q'
 have all_:((vs.map (zh s.heap)).toArray.all λo=>o.isSome)=vs.all λv=> !(jY h v).isEmpty:=by
  rw [mV,cZ];rw [Q3,L0,L0];exact⟨λz v hv=>by rw [<-fr v hv];exact z v hv,λz v hv=>by show (zh s.heap v).isSome=true;rw [fr v hv];exact z v hv⟩
 rw [all_];unfold PJ at q
 by_cases a1:(vs.all λv=> !(jY h v).isEmpty)=true
 ·rw [R6 a1] at q;rw [R6 a1];refine wpAny_bind (iM ?_);obtain⟨fs,efs,nums,ne⟩: ∃fs:G0 G1,vs.map (zh s.heap)=fs.map some/\(∀f∈fs,∃n t,f=dJ n t)/\fs.length=vs.length:=by
   have go: ∀l:G0 G1,(∀v∈l,v∈vs)-> ∃fs:G0 G1,l.map (zh s.heap)=fs.map some/\(∀f∈fs,∃n t,f=dJ n t)/\fs.length=l.length:=by
    intro l
    induction l with
    |nil=>exact λ_=>⟨[],rfl,λf hf=>absurd hf F4,rfl⟩
    |cons v l ih=>
     intro sub;obtain⟨fs,e1,e2,e3⟩:=ih λu hu=>sub u (D1 _ hu)
     have hv:=sub v P7;obtain⟨ns,t⟩:=x v hv;have ne:=L0.mp a1 v hv;rw [t.nums] at ne;cases ns with
     |nil=>cases ne
     |cons n ns=>
      obtain⟨tk,ef⟩:=Wr (t.keeps e);refine⟨.int n tk::fs,by rw [C6,C6,ef,e1],λf hf=> ?_,by rw [D8,D8,e3]⟩;rcases D2.mp hf with rfl|hf
      ·exact⟨n,tk,rfl⟩
      ·exact e2 f hf
   exact go vs λ_ hv=>hv
  rw [efs];have fm:((fs.map some).toArray.filterMap id)=fs.toArray:=by simp
  rw [fm,tF,mD,map_eq_pure_bind];refine wpAny_bind (wpAny_bind (wpAny_bind (vB (λ_=>V4 "int") fs (λf hf Q' q'=> ?_) (G8 ?_))))
  ·obtain⟨n,t,rfl⟩:=nums f hf;exact G8 q'
  ·match fs,ne with
   | [],ne=>rw [C0] at ne;omega
   |f::fs,_=>
    have h0:(iW (λ_=>V4 "int") (f::fs)).toArray[0]? =some (V4 "int"):=by simp
    have h1:((iW (λ_=>V4 "int") (f::fs)).toArray.all λy=>y==V4 "int")=true:=by
     rw [mV,cZ,L0];exact λ_ _=>rfl
    rw [h0];simp only [h1,fX];exact G8 (G8 q)
 rw [R8 a1] at q;rw [R8 a1]
 match vs,h2,x,fr,q with
 |v::vs,h2,x,fr,q=>
  have h0:((iW (zh s.heap) (v::vs)).toArray[0]?.bind id).isSome= !(jY h v).isEmpty:=by
   rw [<-fr v P7];simp
  rw [h0];have h0':(((v::vs)[0]?.map λv=> !(jY h v).isEmpty)=some true)↔(!(jY h v).isEmpty)=true:=by simp
  by_cases a2:(!(jY h v).isEmpty)=true
  ·rw [R6 (h0'.mpr a2)] at q;rw [R6 a2];exact G8 q
  rw [R8 λz=>a2 (h0'.mp z)] at q;rw [R8 a2];rw [tF,mD,map_eq_pure_bind];refine wpAny_bind (wpAny_bind (wpAny_bind (vB (λ_=>V4 "tuple") (v::vs) (λf hf Q' q'=> ?_) (G8 ?_))))
  ·obtain⟨ns,t⟩:=x f hf;obtain⟨a,its,rfl,⟨o,e1,c,n,d⟩,i⟩:=t.keeps e;refine qB (show xJ (R7 prog w) s.heap (y6 (.ref a)) o.cls from (rT e1).andThen .now) ?_;rw [c];exact q'
  ·have h3:(iW (λ_=>V4 "tuple") (v::vs)).toArray[0]? =some (V4 "tuple"):=by simp
   have h1:((iW (λ_=>V4 "tuple") (v::vs)).toArray.all λy=>y==V4 "tuple")=true:=by
    rw [mV,cZ,L0];exact λ_ _=>rfl
   rw [h3];simp only [h1,fX];exact G8 (G8 q)
theorem Xa {fin:T5}{Q:T5->G2->Prop}{m n:G7}(ef:fin=decide (m<n)): ∀ {vs us:G0 G1} {ns ms:G0 D3} (i:G7),W9 vs ns->W9 us ms->ns.length+n=ms.length+m->Q (ju ns ms) s->G0N prog w A true fin Q (vs.zip us) i s
 |_,_,_,_,i,.nil,.nil,l,q=>by
  subst ef;rw [lQ];refine nU ?_;rw [N6 (by rw [C0] at l;omega)];exact q
 |_,_,_,_,i,.nil,.cons c u y,l,q=>by
  subst ef;rw [lQ];refine nU ?_;rw [M8 (by rw [C0,D8] at l;omega)];exact q
 |_,_,_,_,i,.cons a t x,.nil,l,q=>by
  subst ef;rw [pW];refine nU ?_;rw [N6 (by rw [C0,D8] at l;omega)];exact q
 |_,_,_,_,i,.cons a t x,.cons c u y,l,q=>by
  rw [W5];rw [vO] at q;obtain⟨e,he,hiff⟩:=Uy A s a t c u;refine G0A (he prog w _ _ ?_);refine G0O (λz=>G0G ?_) λz=>G0P ?_
  ·rw [R6 (hiff.mp z)] at q;exact Xa ef (i+1) x y (by rw [D8,D8] at l;omega) q
  ·rw [R8 λz'=>by rw [hiff.mpr z'] at z;cases z] at q;cases (true&&i==0) with
   |true=>exact oneLt_int q
   |false=>exact tG _ _ (j5 q)
theorem Ar {u:G1}{ms:G0 D3}{Q:T5->G2->Prop}(hu:A.units<cLine)(x:IT s.heap v ns)(y:IT s.heap u ms)(q:Q (ju ns ms) s):R3 (R7 prog w) A (G0Q true v u) Q E s:=by
 obtain⟨a,its,rfl,⟨⟨cls,dd,data,sl⟩,e1,c,n,d⟩,i⟩:=x;obtain⟨b,its2,rfl,⟨⟨cls2,dd2,IP,sl2⟩,e2,c2,n2,d2⟩,i2⟩:=y;simp only at c d c2 d2;subst c d c2 d2;rw [oneLt'_eq];simp only [fX];refine wpAny_bind (wpAny_cRoomFor hu (wpAny_bind (wpAny_callSpecialIfBound?_slot ⟨_,e1,rfl⟩ dN (f8 dN ⟨_,e1,rfl⟩ gV (gG _ _) (vj a b its its2 n n2 dd dd2 sl sl2 ns ms i i2) ⟨e1,e2,?_⟩))));exact J4 q
theorem Au {u:G1}{ms:G0 D3}{Q:T5->G2->Prop}(hu:A.units<cLine)(x:IT s.heap v ns)(y:IT s.heap u ms)(q:Q (ju ns ms) s):R3 (R7 prog w) A (G0Q false v u) Q E s:=by
 obtain⟨a,its,rfl,t,i⟩:=x;obtain⟨b,its2,rfl,t2,i2⟩:=y;exact tG _ _ (XA t t2 i i2 hu q)
theorem PL {vs:G0 G1}(hu:A.units<cLine){h':B6}(k:vZ s.heap h'):Yn prog w A (Only s h') (PJ s.heap vs) (λx=> ∃ns,IT s.heap x.1 ns) (λx y=>ju (jY s.heap x.1) (jY s.heap y.1)):=by
 rintro ⟨x,x'⟩ ⟨y,y'⟩ ⟨ns,tx⟩ ⟨ms,ty⟩ s1 ⟨tk,rfl⟩;dsimp only at tx ty ⊢;have q:(ju ns ms=ju (jY s.heap x) (jY s.heap y)/\Only s h' {s with heap:=h',toks:=tk}):=⟨by rw [tx.nums,ty.nums],tk,rfl⟩;have kx:=tx.keeps k;have ky:=ty.keeps k;unfold PJ
 by_cases a1:(vs.all λv=> !(jY s.heap v).isEmpty)=true
 ·rw [R6 a1];obtain⟨a,its,rfl,⟨o,e1,c,n,d⟩,i⟩:=kx;obtain⟨b,its2,rfl,⟨o2,e2,c2,n2,d2⟩,i2⟩:=ky;refine G0R e1 d e2 d2 (Xa rfl 0 i i2 ?_ q);have z1:=i.length;have z2:=i2.length;rw [D0] at z1 z2;omega
 rw [R8 a1]
 by_cases a2:(vs[0]?.map λv=> !(jY s.heap v).isEmpty)=some true
 ·rw [R6 a2];show R3 _ _ (G0Q false x y) _ _ _;exact Au hu kx ky q
 ·rw [R8 a2,keyLt'_oneType];exact Ar hu kx ky q
end
end HT
namespace L2
open PySem PySem.Spec PyProof.Rows PySem.SeqAt HT
theorem YZ {α β:Type}{f:α->β}: ∀ {out:G0 β} {l:G0 α},out.Perm (l.map f)-> ∃l':G0 α,l'.Perm l/\l'.map f=out
 | [],l,p=>by
  have e:=p.length_eq;rw [G6,C0] at e;exact⟨[],by rw [aB e.symm],rfl⟩
 |x::out,l,p=>by
  obtain⟨y,hy,rfl⟩:=S4.mp (p.mem_iff.mp P7);obtain⟨l1,l2,rfl⟩:=List.append_of_mem hy;have p2:out.Perm ((l1++l2).map f):=by
   refine G0j (a:=f y) (p.trans ?_);rw [B3,B3,C6];exact rV
  obtain⟨l',a,b⟩:=YZ p2;exact⟨y::l',(a.cons y).trans rV.symm,by rw [C6,b]⟩
def Av (H:Hp)(v:V)(ns:G0 D3):Prop:= ∃a,v= .ref a/\H a=some (.tup (ns.map V.int))
abbrev tI (ns:G0 D3):D:= .tup (ns.map D.int)
theorem PM {K:G5}{H:Hp}: ∀ {nss:G0 (G0 D3)} {vs:G0 V},RelDs K H (nss.map tI) vs-> ∃ps:G0 (V×G0 D3),vs=ps.map (·.1)/\nss=ps.map (·.2)/\ ∀p∈ps,Av H p.1 p.2
 | [],vs,r=>⟨[],r,rfl,λp hp=>by cases hp⟩
 |ns::nss,vs,r=>by
  obtain⟨v,us,e,r1,r2⟩:=(show ∃v r,vs=v::r/\RelD K H (tI ns) v/\RelDs K H (nss.map tI) r from r);obtain⟨ps,e1,e2,e3⟩:=PM r2;obtain⟨a,ws,e4,hH,r4⟩:=(show ∃a vs,v= .ref a/\H a=some (.tup vs)/\RelDs K H (ns.map D.int) vs from r1);rw [jS r4] at hH;exact⟨(v,ns)::ps,by rw [e,e1];rfl,by rw [e2];rfl,λp hp=>by
   rcases D2.mp hp with rfl|hp
   ·exact⟨a,e4,hH⟩
   ·exact e3 p hp⟩
theorem PN {K:G5}{H:Hp}: ∀ {ps:G0 (V×G0 D3)},(∀p∈ps,Av H p.1 p.2)->RelDs K H ((ps.map (·.2)).map tI) (ps.map (·.1))
 | [],_=> .nil
 |p::ps,h=> .cons (by
  obtain⟨a,e,hH⟩:=h p P7;exact⟨a,_,e,hH,wF _⟩) (PN λq hq=>h q (D1 _ hq))
abbrev toI (S:G0 G7):G0 D3:=S.map λ(k:G7)=>(k:D3)
theorem CQ {S S':G0 G7}(h:toI S=toI S'):S=S':=by
 have:=congrArg (iW kI) h;rw [O0,O0] at this;have e:(kI∘λ(k:G7)=>(k:D3))=id:=by funext k;exact Q8 k
 rw [e,oY,oY] at this;exact this
theorem NC (S:G0 G7):tI (toI S)=jR S:=by
 show D.tup _=D.tup _;rw [O0];rfl
def leS (a b:G0 G7):T5:= !HT.ju (toI b) (toI a)
theorem PP (a b:G0 G7):(leS a b||leS b a)=true:=by
 unfold leS;cases e:HT.ju (toI b) (toI a) with
 |false=>rfl
 |true=>rw [wK _ _ e];rfl
theorem MD {a b:G0 G7}(h:leS a b=true)(h':leS b a=true):a=b:=by
 unfold leS at*
 refine CQ (yT _ _ ?_ ?_)
 ·cases e:HT.ju (toI a) (toI b) with
  |false=>rfl
  |true=>rw [e] at h';cases h'
 ·cases e:HT.ju (toI b) (toI a) with
  |false=>rfl
  |true=>rw [e] at h;cases h
def Aw (l:G0 (G0 G7)):G0 (G0 G7):=l.mergeSort leS
theorem Qe (l:G0 (G0 G7)):(Aw l).Perm l:=List.mergeSort_perm _ _
end L2
namespace L2
open PySem PySem.Spec PyProof.Rows PySem.SeqAt
def HN (to:TED):TED:=λσ h Q=>to σ h λx h1=> ∃ (a:G9) (xs:G0 D),x= .lst a/\h1 a=some xs/\Q .non (zR h1 a [])
section
variable {X:Cx}{o:N0}{to:TED}{apos cpos:Pos}
theorem HP (ho : JE X o to) (hbase : aU o "clear" X.env (J0 o X.env) = J0 o X.env := by rfl) (hline : (apos.endLine == cpos.line) = true := by rfl) : JE X (.Call (.Attribute o "clear" apos) [] [] cpos) (HN to) :=
  ⟨(Ly aJ xW xX Rq ho.to hbase hline).imp
    fun σ H Q ⟨σd, h, Qd, rs, rh, t, p⟩ => LE.bind rs rh t fun d v h1 H1 k1 rs1 rh1 r1 ⟨a, xs, e, hx, q⟩ => by
      subst e
      obtain ⟨e1, vs, hH⟩ := (show v = .ref a ∧ ∃ vs, H1 a = some (.lst vs) from r1)
      subst e1
      exact ⟨.inl ⟨rfl, vs, SqL.of hH⟩, a, vs, rfl, rfl, hH, p .non _ _ _ (k1.trans (.put hH)) (rh1.put hH .nil) rfl q⟩⟩
end
theorem Xb: ∀l:G0 D3,B9 (l.map gA)=true
 | []=>rfl
 |x::l=>by show (K3 (.int x)&&_)=true;rw [Xb l];rfl
variable {S:G0 G7}{h:HD}
theorem CT {neg:T5}{x:G7}{Q:KD}(q: ∀b:T5,(b=true↔x∈S)->Q (.bl (neg !=b)) h):inE neg (.int (x:D3)) (jR S) h Q:=by
 refine⟨.int x,(vS S).map gA,rfl,.inr (Zj h S),rfl,Xb _,(by show (0:G7)<=60;decide),q _ ?_⟩;rw [cQ];constructor
 ·rintro ⟨z,hz,e⟩;obtain⟨m,hm,rfl⟩:=S4.mp hz;obtain⟨y,hy,rfl⟩:=S4.mp (show m∈S.map λ(k:G7)=>(k:D3) from hm);have:(y:D3)=x:=by simpa [C3] using e
  have:y=x:=by omega
  exact this ▸ hy
 ·intro z;exact⟨.int x,S4.mpr ⟨_,S4.mpr ⟨x,z,rfl⟩,rfl⟩,by simp [C3]⟩
theorem PQ {x:G7}{Q:KD}(q:Q (.bl (decide (x∈S))) h):inE false (.int (x:D3)) (jR S) h Q:=CT λbo hb=>by
 have:(false !=bo)=decide (x∈S):=by
  cases bo with
  |true=>rw [M8 (hb.mp rfl)];rfl
  |false=>rw [N6 λz=>by have:=hb.mpr z;cases this];rfl
 rw [this];exact q
def CV (n:G7)(T:G0 (G0 D3))(S:G0 G7):T5:=(Zi n T S).all λj=>decide (j∈S)
variable {n:G7}{T:G0 (G0 D3)}
theorem PR:(Zi n T S).length<=n:=(IsS.step T S).len
theorem PU (h6:n<=6)(hS:IsS n S):ShowB (wC S) 1 100:=by
 have l:=hS.len;have lt: ∀x∈vS S,0<=x/\x<2^10:=λx hx=>by
  obtain⟨k,hk,rfl⟩:=S4.mp hx;have:=hS.lt hk;exact⟨by omega,k7 (show ((k:G7):D3)<6 by omega) (by decide)⟩
 refine(GZ (r:=vS S) (e:=10) (λx hx=>(lt x hx).1) (λx hx=>(lt x hx).2) (by decide)).mono (P3 _) ?_;unfold vS;rw [G6];omega
theorem CY (h6:n<=6){P:G0 (G0 G7)}(hP: ∀S∈P,IsS n S)(hl:P.length<=64):ShowOk (.list (P.map wC)):=by
 refine(ShowB.lst (k:=1) (b:=100) (ps:=P.map wC) λp hp=> ?_).ok (by decide) ?_
 ·obtain⟨S,hS,rfl⟩:=S4.mp hp;exact PU h6 (hP S hS)
 ·rw [G6];omega
theorem JC {A:G9}{P:G0 (G0 G7)}(k:h A=some (P.map jR)):ToP h (.lst A) (.list (P.map wC)):=⟨A,_,rfl,k,YN h P⟩
theorem wm {h':HD}{a:G9}(sb:Sub h h')(e:h' a=none):h a=none:=by
 cases z:h a with
 |none=>rfl
 |some ds=>rw [sb a ds z] at e;cases e
theorem Sub.over {h':HD}{a:G9}{ds:G0 D}(sb:Sub h h')(e:h a=none):Sub h (zR h' a ds):=⟨λb xs k=>jj (λz=>by subst z;rw [e] at k;cases k) (sb b xs k),sb.dc⟩
structure GB (n:G7)(h0 h:HD)(R:G9)(rs:G0 G9)(f:G7->G7->T5):Prop where
 at_:h R=some (rs.map D.lst)
 len:rs.length=n
 nR:R ∉ rs
 nd:rs.Nodup
 sb:Sub h0 h
 row: ∀i a,rs[i]? =some a->h0 a=none/\h a=some ((R4 n).map λj=>D.bl (f i j))
section
variable {n:G7}{h0 h:HD}{R:G9}{rs:G0 G9}{f g:G7->G7->T5}
theorem GB.put (G:GB n h0 h R rs f){i j:G7}{a:G9}{v:T5}(ha:rs[i]? =some a):GB n h0 (zR h a (((R4 n).map λj=>D.bl (f i j)).set j (.bl v))) R rs (λx y=>if x=i/\y=j then v else f x y):=by
 have hm:=P6 ha;have il:=(P5.mp ha).1;refine⟨jj (λz=>G.nR (z ▸ hm)) G.at_,G.len,G.nR,G.nd,G.sb.over (G.row i a ha).1,λx b hb=>⟨(G.row x b hb).1,?_⟩⟩
 by_cases z:x=i
 ·subst z;have eb:b=a:=by rw [ha] at hb;injection hb with hb;exact hb.symm
  subst eb;rw [jc];refine congrArg some (rO (by simp) λm h1 h2=> ?_);rw [List.getElem_set];simp only [List.getElem_map,c9]
  by_cases e:j=m
  ·subst e;simp
  ·rw [R8 e,R8 λw=>e w.2.symm]
 ·have ne:b≠a:=λw=>z ((List.getElem?_inj (P5.mp hb).1 G.nd).mp (hb.trans (by rw [w];exact ha.symm)))
  rw [jj ne (G.row x b hb).2];exact congrArg some (A4 λy _=>by rw [R8 λw=>z w.1])
theorem GB.pick (G:GB n h0 h R rs f){i:G7}(hi:i<n): ∃a,rs[i]? =some a/\atI (rs.map D.lst) (i:D3)=some (.lst a)/\h a=some ((R4 n).map λj=>D.bl (f i j)):=by
 have hi':i<rs.length:=by rw [G.len];exact hi
 exact⟨rs[i],P2 hi',wu (by rw [D9,P2 hi'];rfl),(G.row i _ (P2 hi')).2⟩
theorem GB.as (G:GB n h0 h R rs f)(e: ∀i j,i<n->j<n->f i j=g i j):GB n h0 h R rs g:=
 ⟨G.at_,G.len,G.nR,G.nd,G.sb,λi a ha=>⟨(G.row i a ha).1,by
  have hi:i<n:=by rw [<-G.len];exact(P5.mp ha).1
  rw [(G.row i a ha).2];exact congrArg some (A4 λj hj=>by rw [e i j hi (S8.mp hj)])⟩⟩
theorem GB.up (G:GB n h0 h R rs f){h':HD}(s:Sub h h'):GB n h0 h' R rs f:=⟨s _ _ G.at_,G.len,G.nR,G.nd,G.sb.trans s,λi a ha=>⟨(G.row i a ha).1,s _ _ (G.row i a ha).2⟩⟩
end
variable {j:G7}
theorem Va {f:G7->T5}(hj:j<n):atI ((R4 n).map λj=>D.bl (f j)) (j:D3)=some (.bl (f j)):=Cr hj
def wk (T:G0 (G0 D3)):G7->G7->G7->T5
 |0,i,j=>decide (i=j)|| !decide (ent T i j=0)
 |b+1,i,j=>wk T b i j||(wk T b i b&&wk T b b j)
theorem yU (T:G0 (G0 D3)): ∀b i,wk T b i i=true
 |0,i=>by unfold wk;rw [M8 rfl];rfl
 |b+1,i=>by unfold wk;rw [yU T b i];rfl
theorem ND (T:G0 (G0 D3))(b i:G7):wk T (b+1) i b=wk T b i b:=by
 show (wk T b i b||(wk T b i b&&wk T b b b))=_;cases wk T b i b<;>rfl
theorem NE (T:G0 (G0 D3))(b j:G7):wk T (b+1) b j=wk T b b j:=by
 show (wk T b b j||(wk T b b b&&wk T b b j))=_;cases wk T b b j<;>cases wk T b b b<;>rfl
variable {i:G7}
theorem JD (h:ent T i j≠0): ∀b,wk T b i j=true
 |0=>by unfold wk;rw [N6 h];simp
 |b+1=>by unfold wk;rw [JD h b];rfl
theorem wk_by {b:G7}:wk T (b+1) i j=true↔wk T b i j=true\/(wk T b i b=true/\wk T b b j=true):=by
 show (wk T b i j||(wk T b i b&&wk T b b j))=true↔_;rw [bT,H0]
theorem jT: ∀ {b i k j:G7},k<b->wk T b i k=true->wk T b k j=true->wk T b i j=true
 |b+1,i,k,j,hk,x,y=>by
  by_cases e:k=b
  ·subst e;rw [ND] at x;rw [NE] at y;exact wk_by.mpr (.inr ⟨x,y⟩)
  ·have lt:k<b:=by omega
   rcases wk_by.mp x with x|⟨x1,x2⟩
   ·rcases wk_by.mp y with y|⟨y1,y2⟩
    ·exact wk_by.mpr (.inl (jT lt x y))
    ·exact wk_by.mpr (.inr ⟨jT lt x y1,y2⟩)
   ·rcases wk_by.mp y with y|⟨y1,y2⟩
    ·exact wk_by.mpr (.inr ⟨x1,jT lt x2 y⟩)
    ·exact wk_by.mpr (.inr ⟨x1,y2⟩)
theorem vC {P:G7->G7->Prop}(r: ∀i,P i i)(a: ∀i j,ent T i j≠0->P i j)(t: ∀i k j,P i k->P k j->P i j): ∀ {b i j:G7},wk T b i j=true->P i j
 |0,i,j,h=>by
  have h:(decide (i=j)|| !decide (ent T i j=0))=true:=h;rw [bT] at h;rcases h with h|h
  ·rw [J5 h];exact r j
  ·exact a i j λz=>by rw [M8 z] at h;cases h
 |b+1,i,j,h=>by
  rcases wk_by.mp h with h|⟨h1,h2⟩
  ·exact vC r a t h
  ·exact t _ _ _ (vC r a t h1) (vC r a t h2)
def clS (n:G7)(T:G0 (G0 D3))(S:G0 G7):G0 G7:=(R4 n).filter λj=>S.any λi=>wk T n i j
theorem PV (n:G7)(T:G0 (G0 D3))(S:G0 G7):IsS n (clS n T S):=⟨_,rfl⟩
theorem mem_cl:j∈clS n T S↔j<n/\ ∃i∈S,wk T n i j=true:=by
 unfold clS;rw [C8,S8,cQ]
theorem Ax (hS:IsS n S){j:G7}(hj:j∈S):j∈clS n T S:=mem_cl.mpr ⟨hS.lt hj,j,hj,yU T n j⟩
theorem mem_stepS:j∈Zi n T S↔j<n/\ ∃i∈S,ent T i j≠0:=by
 unfold Zi;rw [C8,S8,cQ];exact⟨λ⟨a,i,hi,z⟩=>⟨a,i,hi,by simpa using z⟩,λ⟨a,i,hi,z⟩=>⟨a,i,hi,by simpa using z⟩⟩
theorem shut_iff:CV n T S=true↔ ∀i∈S,∀j,j<n->ent T i j≠0->j∈S:=by
 unfold CV;rw [L0];constructor
 ·intro h i hi j hj e;exact J5 (h j (mem_stepS.mpr ⟨hj,i,hi,e⟩))
 ·intro h j hj;obtain⟨a,i,hi,e⟩:=mem_stepS.mp hj;exact M8 (h i hi j a e)
theorem SJ {U:G0 G7}(hU:CV n T U=true)(out: ∀i j,ent T i j≠0->j<n)(sub: ∀i∈S,i∈U){j:G7}(hj:j∈clS n T S):j∈U:=by
 obtain⟨_,s,hs,w⟩:=mem_cl.mp hj;exact vC (P:=λi j=>i∈U->j∈U) (λ_ x=>x) (λi j e x=>shut_iff.mp hU i x j (out i j e) e) (λi k j x y z=>y (x z)) w (sub s hs)
theorem PX {e:G7}(h:Sq n e T)(i j:G7)(z:ent T i j≠0):j<n:=by
 by_cases hj:j<n
 ·exact hj
 ·exfalso;apply z;unfold ent
  by_cases hi:i<T.length
  ·have hr:=h.row (T.getD i []) (by rw [M9,P2 hi];exact O9 hi);rw [M9,J9 (by rw [hr];omega)];rfl
  ·rw [M9 (l:=T),J9 (by omega)];rfl
def fW (T:G0 (G0 D3))(b i j x y:G7):T5:=if x<i\/(x=i/\y<j) then wk T (b+1) x y else wk T b x y
theorem Ay (T:G0 (G0 D3))(b i j x:G7):fW T b i j x b=wk T b x b:=by
 unfold fW;rw [ND]
 by_cases c:x<i\/(x=i/\b<j)
 ·rw [R6 c]
 ·rw [R8 c]
theorem Az (T:G0 (G0 D3))(b i j y:G7):fW T b i j b y=wk T b b y:=by
 unfold fW;rw [NE]
 by_cases c:b<i\/(b=i/\y<j)
 ·rw [R6 c]
 ·rw [R8 c]
theorem AA {b:G7}(h1:wk T b i b=true)(h2:wk T b b j=true)(x y:G7):(if x=i/\y=j then true else fW T b i j x y)=fW T b i (j+1) x y:=by
 by_cases e:x=i/\y=j
 ·obtain⟨rfl,rfl⟩:=e;unfold fW;rw [R6 ⟨rfl,rfl⟩,R6 (.inr ⟨rfl,V1 _⟩)];exact(wk_by.mpr (.inr ⟨h1,h2⟩)).symm
 ·rw [R8 e];unfold fW
  by_cases c:x<i\/(x=i/\y<j)
  ·rw [R6 c,R6 (by omega)]
  ·rw [R8 c,R8 (by omega)]
theorem PY {b:G7}(h: ¬ (wk T b i b=true/\wk T b b j=true))(x y:G7):fW T b i j x y=fW T b i (j+1) x y:=by
 unfold fW
 by_cases c:x<i\/(x=i/\y<j)
 ·rw [R6 c,R6 (by omega)]
 ·rw [R8 c]
  by_cases e:x=i/\y=j
  ·obtain⟨rfl,rfl⟩:=e;rw [R6 (by omega),Q3,wk_by];exact⟨.inl,λz=>z.resolve_right h⟩
  ·rw [R8 (by omega)]
theorem CZ (T:G0 (G0 D3))(b i x y:G7)(hy:y<n):fW T b i n x y=fW T b (i+1) 0 x y:=by
 unfold fW
 by_cases c:x<i\/(x=i/\y<n)
 ·rw [R6 c,R6 (by omega)]
 ·rw [R8 c,R8 (by omega)]
theorem AB (T:G0 (G0 D3))(b x y:G7)(hx:x<n):fW T b n 0 x y=wk T (b+1) x y:=by
 unfold fW;rw [R6 (.inl hx)]
theorem Fa (T:G0 (G0 D3))(b x y:G7):wk T b x y=fW T b 0 0 x y:=by
 unfold fW;rw [R8 (by omega)]
def TF (g:G7->G7->T5)(w:G0 G7)(j:G7):T5:=g (w.getLastD 0) j&&(decide (w.headD 0<j)&& !decide (j∈w))
def HQ (g:G7->G7->T5)(n:G7)(w:G0 G7):G0 (G0 G7):=((R4 n).filter (TF g w)).map λj=>w++ [j]
def lev (g:G7->G7->T5)(n:G7):G7->G0 (G0 G7)
 |0=>(R4 n).map λi=> [i]
 |t+1=>(lev g n t).flatMap (HQ g n)
def SK (g:G7->G7->T5)(n:G7):G7->G0 (G0 G7)
 |0=> []
 |t+1=>SK g n t++(lev g n t).filter λw=>g (w.getLastD 0) (w.headD 0)
def TH (T:G0 (G0 D3))(i j:G7):T5:=decide (ent T i j>0)
def Xc (T:G0 (G0 D3))(n:G7):G0 (G0 G7):=Aw (SK (TH T) n n)
theorem at_end {w:G0 G7}{t:G7}(h:w.length=t+1):atI (w.map λ(k:G7)=>D.int (k:D3)) (-1)=some (.int ((w.getLastD 0:G7):D3)):=by
 refine Ma (by rw [G6];omega) ?_;rw [G6,D9,fG,fH,P2 (by omega)];rfl
theorem encO:Enc jR wC:=⟨Zj,λS=>Wi _,λS=>S0 (Zk _) (by decide),Pb⟩
theorem Ja: ∀P:G0 (G0 G7),N2 (P.map wC)<=3
 | []=>by simp [N2]
 |S::P=>by
  have:=Ja P;have h2:E3 (wC S)<=2:=Zk _;simp only [C6,N2];omega
theorem VX (P:G0 (G0 G7)):shaped (.list (P.map wC))=true:=by
 unfold shaped;have h1:K3 (.list (P.map wC))=true:=by simp only [K3];exact encO.lays P
 have h2:=Ja P;have h3:E3 (.list (P.map wC))<=64:=by simp only [E3];omega
 rw [h1,M8 h3];rfl
theorem VY {A B:G9}{P:G0 (G0 G7)}{Q:KD}(k:h A=some (P.map jR))(k':h B=some [])(q:Q (.bl P.isEmpty) h):eqE (.lst A) (.lst B) h Q:=by
 refine⟨.list (P.map wC),.list [],JC k,⟨B,_,rfl,k',rfl⟩,VX P,by decide +kernel,?_⟩;cases P with
 |nil=>exact q
 |cons S P=>exact q
end L2
namespace HT
open PySem PySem.Spec PyProof.Rows
def yV (lt:G1->G1->T5):G1->G0 G1->G1
 |b,[]=>b
 |b,v::r=>yV lt (if lt v b=true then v else b) r
section
variable {prog:R9}{w:N4}{A:T3}{E:G1->G2->Prop}{s:G2}{h0:B6}{l I S:G9}{vs:G0 G1}{lt:G1->G1->T5}
def TJ (prog:R9)(w:N4)(A:T3)(h0:B6)(vs:G0 G1)(lt:G1->G1->T5):Prop:=
 ∀v∈vs,∀u∈vs,∀ (s:G2) (E Q:G1->G2->Prop),vZ h0 s.heap->Q (.bool (lt v u)) s->R3 (R7 prog w) A (gF .Lt v u) Q E s
structure At (h0:B6)(l I S:G9)(vs:G0 G1)(i:G7)(st:S6 G1)(h:B6):Prop where
 kept:vZ h0 h
 it:h.IsListIter I l i
 lst:h.IsList l vs.toArray
 store: ∃c,h.get? S=some (hJ "list" st c)
theorem At.put {i:G7}{st st':S6 G1}{h:B6}(x:At h0 l I S vs i st h)(nI:S≠I)(nl:S≠l)(n0:h0.get? S=none):At h0 l I S vs i st' (h.update S (V5 λ_=>st')):=by
 obtain⟨c,e⟩:=x.store;have other: ∀b o,b≠S->h.get? b=some o->(h.update S (V5 λ_=>st')).get? b=some o:=λb o ne z=>(fJ _ _ _ _ ne).trans z
 exact⟨λb o z=>other b o (λq=>by rw [q,n0] at z;cases z) (x.kept b o z),x.it.at λo z=>other I o (U9 nI) z,x.lst.at λo z=>other l o (U9 nl) z,⟨_,B2 _ e rfl⟩⟩
theorem At.step {i j:G7}{st:S6 G1}{h h':B6}(x:At h0 l I S vs i st h)(k: ∀b o,b ∉ [I]->h.get? b=some o->h'.get? b=some o)(nI:S≠I)(n0:h0.get? I=none)(y:h'.IsListIter I l j)(z:h'.IsList l vs.toArray):At h0 l I S vs j st h':=
 ⟨λb o e=>k b o (λq=>by rw [P1.mp q,n0] at e;cases e) (x.kept b o e),y,z,let ⟨c,e⟩:=x.store;⟨c,k S _ (λq=>nI (P1.mp q)) e⟩⟩
theorem ME (calm:A.in1.handled=none)(nlI:l≠I)(nI:S≠I)(nl:S≠l)(nS:h0.get? S=none)(nI0:h0.get? I=none)(cmp:TJ prog w A.in1 h0 vs lt): ∀ (r:G0 G1) (i:G7) (vb:G1) (h:B6) (tk:G7),vs.drop i=r->i<=vs.length->vb∈vs->At h0 l I S vs i #[vb,vb] h->
 bX (R7 prog w) A (.builtin "min.loop" ⟨[.ref I,.none,.ref S],[]⟩) (λres s'=>res= .ok (.ret (yV lt vb r))/\ ∃h' tk',s'= {s with heap:=h',toks:=tk'}/\vZ h0 h') {s with heap:=h,toks:=tk}:=by
 have W:=iO (prog:=prog) (w:=w) calm I l nlI vs.toArray;have again:(toString "min" ++toString ".loop" :U2)= "min.loop" :=by decide
 intro r
 induction r with
 |nil=>
  intro i vb h tk dr il mb x;have ei:i=vs.toArray.size:=by
   rw [R5];exact Nat.le_antisymm il (i4.mp dr)
  obtain⟨c,e⟩:=x.store;refine E2 mW ?_;rw [O8 aW];refine wpAny_bind (iA e rfl (wpAny_bind (lD (W.done _ _ _ ⟨by rw [<-ei];exact x.it,x.lst⟩ λh' tk' k=> ?_))));have keep:vZ h0 h':=λb o z=>k b o (λq=>by rw [P1.mp q,nI0] at z;cases z) (x.kept b o z)
  refine wpAny_bind (i8 (k S _ (λq=>nI (P1.mp q)) e) rfl (wpAny_bind (oZ (G8 ⟨rfl,_,tk',rfl,λb o z=> ?_⟩))));exact(fJ _ _ _ _ λq=>by rw [q,nS] at z;cases z).trans (keep b o z)
 |cons v r ih=>
  intro i vb h tk dr il mb x;obtain⟨c,e⟩:=x.store;have hi:i<vs.length:=by
   rcases K1 i vs.length with z|z
   ·exact z
   ·rw [i4.mpr z] at dr;cases dr
  have dr':vs[i]=v/\vs.drop (i+1)=r:=by
   rw [bQ hi] at dr;injection dr with a b
   exact⟨a,b⟩
  refine E2 mW ?_;rw [O8 aW];refine wpAny_bind (iA e rfl (wpAny_bind (lD (W.item i _ _ _ (by rw [R5];exact hi) ⟨x.it,x.lst⟩ λu h' tk' pu st' k=> ?_))));have eu:u=v:=by
   rw [dR,P2 hi,dr'.1] at pu;injection pu with pu
   exact pu.symm
  subst eu;have mu:u∈vs:=dr'.1 ▸ O9 hi;have y:=At.step x k nI nI0 st'.1 st'.2;have e':h'.get? S=some (hJ "list" #[vb,vb] c):=k S _ (λq=>nI (P1.mp q)) e;refine wpAny_bind (G8 ?_);have ans: ∀F:T5->Sem Fin,∀ (P:Fin->G2->Prop) (E:G1->G2->Prop) (H:G1->Sem T5),R3 (R7 prog w) A.in1 (F (lt u vb)) P E {s with heap:=h',toks:=tk'}->R3 (R7 prog w) A.in1 (tryCatch (bL [u,u] (do let a <-gF .Lt u vb;let yes <-bL [a] (rD a);letGo [a];pure yes)) H >>= F) P E {s with heap:=h',toks:=tk'}:=λF P E H q=>
   wpAny_bind (lD (L5 (wpAny_bind (cmp u mu vb mb _ _ _ y.kept (wpAny_bind (L5 (J4 (wpAny_bind (oZ (G8 q))))))))))
  refine ans _ _ _ _ ?_;cases c1:lt u vb with
  |true=>
   have z:=At.put (st':= #[u,u]) y nI nl nS;refine wpAny_bind (i8 e' rfl (wpAny_bind (oZ ?_)));have nx:=ih (i+1) u _ tk' dr'.2 hi mu z;rw [again];refine G8 ⟨W2 aW _,?_⟩;unfold yV;rw [R6 c1];exact nx
  |false=>
   refine wpAny_bind (oZ ?_);have nx:=ih (i+1) vb _ tk' dr'.2 hi mb y;rw [again];refine G8 ⟨W2 aW _,?_⟩;unfold yV;rw [R8 (by rw [c1];exact S5)];exact nx
theorem Xd {h:B6}{b:G9}(z:h.objs.size<=b):h.get? b=none:=by
 cases e:h.get? b with
 |none=>rfl
 |some o=>exact absurd (P9 e) (cY.mpr z)
theorem MF {v0:G1}{r:G0 G1}{Q:G1->G2->Prop}(calm:A.in1.handled=none)(hl:s.heap.IsList l vs.toArray)(ev:vs=v0::r)(cmp:TJ prog w A.in1 s.heap vs lt)
 (q: ∀h' tk,vZ s.heap h'->Q (yV lt v0 r) {s with heap:=h',toks:=tk}):R3 (R7 prog w) A (call (.builtin "min") [.ref l]) Q E s:=by
 have again:(toString "min" ++toString ".loop" :U2)= "min.loop" :=by decide
 obtain⟨ol,el,rl⟩:=id hl;have ll:=P9 el;refine call_function_tree F.kind_min F.plain_min F.entry_min (F.args_min1 _) (wpAny_bind (oR (show Builtin.Builtins.bindParams "min" ["key","default"] 0 ⟨[],[]⟩=pure [none,none] from rfl) (wpAny_bind (G8 (wpAny_bind (V7 hl (wpAny_bind (aF ?_))))))));rw [again];refine G8 ⟨W2 aW _,?_⟩;have big:s.heap.objs.size<(s.heap.push {cls:= .type "list_iterator",data:= .fields #[.ref l,.int 0 0]}).objs.size:=by rw [cP];exact V1 _
 have it1:(s.heap.push {cls:= .type "list_iterator",data:= .fields #[.ref l,.int 0 0]}).IsListIter s.heap.objs.size l 0:=⟨_,R1 _ rfl,rfl,rfl⟩;have k1:vZ s.heap (s.heap.push {cls:= .type "list_iterator",data:= .fields #[.ref l,.int 0 0]}):=λb o e=>G3 _ e
 revert big it1 k1;generalize s.heap.push {cls:= .type "list_iterator",data:= .fields #[.ref l,.int 0 0]}=H1;intro big it1 k1;have x:At s.heap l s.heap.objs.size H1.objs.size vs 0 #[] (H1.push {cls:= .type "list",data:= .seq #[]}):=
  ⟨λb o e=>G3 _ (k1 b o e),it1.at λo e=>G3 _ e,hl.at λo e=>G3 _ (k1 _ _ e),0,R1 _ rfl⟩
 have nlI:l≠s.heap.objs.size:=M0 ll;have nI:H1.objs.size≠s.heap.objs.size:=(M0 big).symm;have nl:H1.objs.size≠l:=(M0 (cB ll big)).symm;have n1:s.heap.get? s.heap.objs.size=none:=Xd (P3 _);have n2:s.heap.get? H1.objs.size=none:=Xd (T4 big);obtain⟨c,e⟩:=x.store;have W:=iO (prog:=prog) (w:=w) calm s.heap.objs.size l nlI vs.toArray;have m0:v0∈vs:=by rw [ev];exact P7
 refine E2 mW ?_;rw [O8 aW];refine wpAny_bind (iA e rfl (wpAny_bind (lD (W.item 0 _ _ _ (by rw [ev];exact aT _) ⟨x.it,x.lst⟩ λu h' tk' pu st' k=> ?_))));have eu:u=v0:=by
  rw [dR,ev] at pu;injection pu with pu
  exact pu.symm
 subst eu;have y:=At.step x k nI n1 st'.1 st'.2;refine wpAny_bind (G8 ?_);refine wpAny_bind (i8 (k _ _ (λz=>nI (P1.mp z)) e) rfl ?_);rw [again];refine G8 ⟨W2 aW _,bY (ME (s:=s) calm nlI nI nl n2 n1 cmp r 1 u _ tk' (by rw [ev];rfl) (by rw [ev];exact cT (M7 _)) m0 (At.put (st':= #[u,u]) y nI nl n2)) λres s' z=> ?_⟩;obtain⟨rfl,h2,tk2,rfl,k2⟩:=z;exact q h2 tk2 k2
end
end HT
namespace HT
open PySem PySem.Spec PyProof.Rows PySem.SeqAt
open PySem.AutoSeq1 (wpAny_loadPart')
open PySem.MeetsSeq PySem.MeetsSeq2 PySem.MeetsSeq3
inductive Lx (prog:R9)(w:N4)(A:T3)(s:G2):G0 G1->G0 G1->T5->Prop
 |nn:Lx prog w A s [] [] false
 |nc (u:G1) (us:G0 G1):Lx prog w A s [] (u::us) true
 |cn (v:G1) (vs:G0 G1):Lx prog w A s (v::vs) [] false
 |same {v u:G1} {vs us:G0 G1} {b:T5} (e:EqAt A s v u true) (t:Lx prog w A s vs us b):Lx prog w A s (v::vs) (u::us) b
 |unlike {v u:G1} {vs us:G0 G1} {b:T5} (e:EqAt A s v u false) (t: ∀ (Q E:G1->G2->Prop),Q (.bool b) s->R3 (R7 prog w) A (gF .Lt v u) Q E s):Lx prog w A s (v::vs) (u::us) b
theorem Lx.short {prog:R9}{w:N4}{A:T3}{s:G2}{vs us:G0 G1}{b:T5}{m n:G7}(t:Lx prog w A s vs us b)(z:vs.zip us= [])(l:vs.length+n=us.length+m):b=decide (m<n):=by
 cases t with
 |nn=>rw [C0] at l;exact(N6 (by omega)).symm
 |nc u us=>rw [C0,D8] at l;exact(M8 (by omega)).symm
 |cn v vs=>rw [C0,D8] at l;exact(N6 (by omega)).symm
 |same e t=>rw [W5] at z;cases z
 |unlike e t=>rw [W5] at z;cases z
theorem Vb (l b:G9)(items items2:S6 G1)(n n2:G7)(dd dd2:P4 G9)(sl sl2:S6 (P4 G1))(r:T5):
 G0s (Builtin.«tuple.__lt__» ⟨[.ref l,.ref b],[]⟩)
  (λA R s=>s.heap.get? l=some {cls:= .type "tuple",dict:=dd,data:= .seq items n,slots:=sl}/\s.heap.get? b=some {cls:= .type "tuple",dict:=dd2,data:= .seq items2 n2,slots:=sl2}/\
   (∀prog w,Lx prog w A.in1 s items.toList items2.toList r)/\R (.ok (.ret (.bool r))) s):=
 .of_wp λprog w A R s h=>by
  obtain⟨hp,g,d,tk,os⟩:=s;obtain⟨hl,hb,ht,h⟩:=h;have f2:=mG
  wp_walk using wpAny_loadPart' hl,wpAny_loadPart' hb,rH _ (λrest b s'=>b.1=none/\s'=⟨hp,g,d,tk,os⟩/\ ∃ (vs us:G0 G1),rest=vs.zip us/\Lx prog w A.in1 ⟨hp,g,d,tk,os⟩ vs us r/\vs.length+items2.size=us.length+items.size) _
  case turn=>
   rintro ⟨y,x⟩ rest b s' ⟨hb',rfl,vs,us,hz,t,hlen⟩;cases t with
   |nn=>cases hz
   |nc u us=>cases hz
   |cn v vs=>cases hz
   |same e t=>
    rw [W5] at hz;injection hz with hyx hrest
    injection hyx with hy hx
    subst hy hx;simp only [D8] at hlen;refine wpAny_bind (e prog w _ _ ?_)
    wp_walk
    exact⟨rfl,rfl,_,_,hrest,t,by omega⟩
   |unlike e t=>
    rw [W5] at hz;injection hz with hyx hrest
    injection hyx with hy hx
    subst hy hx;refine wpAny_bind (e prog w _ _ ?_);have hri:=λ{Q E:G1->G2->Prop}=>t Q E
    wp_walk using hri
    exact⟨_,rfl,by simpa using h⟩
  case fin=>
   rintro ⟨b1,b2⟩ s' ⟨hb',rfl,vs,us,hz,t,hlen⟩;simp only at hb';subst hb';have hv:=t.short hz.symm hlen;rw [hv] at h
   wp_walk
   exact⟨_,rfl,by simpa [iF] using h⟩
  case h=>
   exact⟨rfl,rfl,items.toList,items2.toList,rfl,ht prog w,by rw [D0,D0];omega⟩
theorem Zy {α:Type}{p vs:G0 α}{x:α}{items:S6 α}(e:items.toList=p++x::vs){i:G7}(l:p.length=i):items[((i:G7):D3).toNat]? =some x:=by
 rw [Q8,<-M6,e,<-l];simp
theorem at_end {α:Type}{p:G0 α}{items:S6 α}(e:items.toList=p){i:G7}(l:p.length=i):items[((i:G7):D3).toNat]? =none:=by
 rw [Q8,<-M6,e,<-l];simp
section
variable {prog:R9}{w:N4}{A:T3}{R:oH->G2->Prop}{s:G2}{l b:G9}{items items2:S6 G1}{n n2:G7}{dd dd2:P4 G9}{sl sl2:S6 (P4 G1)}{r:T5}
theorem WW (hl:s.heap.get? l=some {cls:= .type "list",dict:=dd,data:= .seq items n,slots:=sl})(hb:s.heap.get? b=some {cls:= .type "list",dict:=dd2,data:= .seq items2 n2,slots:=sl2})(h:R (.ok (.ret (.bool r))) s):
 ∀ {vs us:G0 G1},Lx prog w A.in1 s vs us r-> ∀ (i:G7) (p q:G0 G1),items.toList=p++vs->items2.toList=q++us->p.length=i->q.length=i->
  R3 (R7 prog w) A.in1 (Builtin.«list.__eq__.loop» ⟨[.ref l,.ref b,A1 i,A1 0],[]⟩) (λfin s'=>match fin with| .done f=>R (.ok f) s'| .again c'=>c'.quiet=true/\bX (R7 prog w) A c' R s') (λe s'=>R (.error e) s') s:=by
 intro vs us t;obtain⟨hp,g,d,tk,os⟩:=s
 induction t with
 |nn=>
  intro i p q e1 e2 l1 l2;rw [O6] at e1 e2;have z1:items.size=i:=by rw [<-D0,e1];exact l1
  have z2:items2.size=i:=by rw [<-D0,e2];exact l2
  wp_walk using wpAny_loadPart' hl,wpAny_loadPart' hb
  rw [at_end e1 l1]
  wp_walk using wpAny_loadPart' hl,wpAny_loadPart' hb
  show R (.ok (.ret (.bool (decide (items.size<items2.size))))) _;rw [z1,z2,show decide (i<i)=false from N6 (N7 _)];exact h
 |nc u us=>
  intro i p q e1 e2 l1 l2;rw [O6] at e1;have z1:items.size=i:=by rw [<-D0,e1];exact l1
  have z2:i<items2.size:=by rw [<-D0,e2,P8,l2,D8];omega
  wp_walk using wpAny_loadPart' hl,wpAny_loadPart' hb
  rw [at_end e1 l1]
  wp_walk using wpAny_loadPart' hl,wpAny_loadPart' hb
  show R (.ok (.ret (.bool (decide (items.size<items2.size))))) _;rw [z1,show decide (i<items2.size)=true from M8 z2];exact h
 |cn v vs=>
  intro i p q e1 e2 l1 l2;rw [O6] at e2;have z1:i<items.size:=by rw [<-D0,e1,P8,l1,D8];omega
  have z2:items2.size=i:=by rw [<-D0,e2];exact l2
  wp_walk using wpAny_loadPart' hl,wpAny_loadPart' hb
  rw [Zy e1 l1,at_end e2 l2]
  wp_walk using wpAny_loadPart' hl,wpAny_loadPart' hb
  show R (.ok (.ret (.bool (decide (items.size<items2.size))))) _;rw [z2,show decide (items.size<i)=false from N6 (by omega)];exact h
 | @same v u vs us b0 e t ih=>
  intro i p q e1 e2 l1 l2
  wp_walk using wpAny_loadPart' hl,wpAny_loadPart' hb
  rw [Zy e1 l1,Zy e2 l2];refine wpAny_bind (e prog w _ _ ?_)
  wp_walk
  rw [show ((i:D3)+1)=((i+1:G7):D3) by omega];exact⟨W2 plain_eq_loop _,E2 entry_eq_loop (by
   rw [O8 plain_eq_loop _];exact ih h (i+1) (p++ [v]) (q++ [u]) (by rw [e1,D6];rfl) (by rw [e2,D6];rfl) (by rw [P8,l1];rfl) (by rw [P8,l2];rfl))⟩
 | @unlike v u vs us b0 e t=>
  intro i p q e1 e2 l1 l2
  wp_walk using wpAny_loadPart' hl,wpAny_loadPart' hb
  rw [Zy e1 l1,Zy e2 l2];refine wpAny_bind (e prog w _ _ ?_);have hri:=λ{Q E:G1->G2->Prop}=>t Q E
  wp_walk using wpAny_loadPart' hl,wpAny_loadPart' hb
  rw [Zy e1 l1,Zy e2 l2]
  wp_walk using hri
  exact h
end
theorem VZ (l b:G9)(items items2:S6 G1)(n n2:G7)(dd dd2:P4 G9)(sl sl2:S6 (P4 G1))(r:T5):
 G0s (Builtin.«list.__lt__» ⟨[.ref l,.ref b],[]⟩)
  (λA R s=>s.heap.get? l=some {cls:= .type "list",dict:=dd,data:= .seq items n,slots:=sl}/\s.heap.get? b=some {cls:= .type "list",dict:=dd2,data:= .seq items2 n2,slots:=sl2}/\
   (∀prog w,Lx prog w A.in1 s items.toList items2.toList r)/\R (.ok (.ret (.bool r))) s):=by
 intro prog w A R s h;obtain⟨hl,hb,ht,h⟩:=h;have f3:=IA;have fin:=WW (prog:=prog) (w:=w) (A:=A) hl hb h (ht prog w) 0 [] [] rfl rfl rfl rfl;obtain⟨hp,g,d,tk,os⟩:=s
 wp_walk using wpAny_loadPart' hl,wpAny_loadPart' hb
 exact⟨W2 plain_eq_loop _,E2 entry_eq_loop (by
  rw [O8 plain_eq_loop _];exact fin)⟩
end HT
namespace HT
open PySem PySem.Spec PyProof.Rows PySem.SeqAt
mutual
/-- may they be compared? -/
def alk:F8->F8->T5
 | .int _,.int _=>true
 | .tuple xs,.tuple ys=>alks xs ys
 | .list xs,.list ys=>alks xs ys
 |_,_=>false
def alks:G0 F8->G0 F8->T5
 |x::xs,y::ys=>alk x y&&alks xs ys
 |_,_=>true
end
mutual
def ltP:F8->F8->T5
 | .int i,.int j=>decide (i<j)
 | .tuple xs,.tuple ys=>ltPs xs ys
 | .list xs,.list ys=>ltPs xs ys
 |_,_=>false
def ltPs:G0 F8->G0 F8->T5
 | [],[]=>false
 | [],_::_=>true
 |_::_,[]=>false
 |x::xs,y::ys=>if C3 x y=true then ltPs xs ys else ltP x y
end
theorem Fb {prog:R9}{w:N4}{A:T3}{E:G1->G2->Prop}{s:G2}{l b:G9}{o o2:Obj}{items items2:S6 G1}{n n2:G7}{r:T5}{Q:G1->G2->Prop}(e1:s.heap.get? l=some o)(c1:o.cls= .type "tuple")(d1:o.data= .seq items n)(e2:s.heap.get? b=some o2)(c2:o2.cls= .type "tuple")(d2:o2.data= .seq items2 n2)
 (t: ∀prog w,Lx prog w A.in1 s items.toList items2.toList r)(hu:A.units<cLine)(q:Q (.bool r) s):R3 (R7 prog w) A (gF .Lt (.ref l) (.ref b)) Q E s:=by
 obtain⟨cls,dd,data,sl⟩:=o;obtain⟨cls2,dd2,IP,sl2⟩:=o2;simp only at c1 d1 c2 d2;subst c1 d1 c2 d2;have g:=Vb l b items items2 n n2 dd dd2 sl sl2 r;refine gR (op:= .Lt) ⟨_,e1,rfl⟩ ⟨_,e2,rfl⟩ dN gV (gG _ _) g ?_ hu;refine⟨e1,e2,t,?_⟩;exact And.intro (by intro x;cases x) q
theorem MG {prog:R9}{w:N4}{A:T3}{E:G1->G2->Prop}{s:G2}{l b:G9}{o o2:Obj}{items items2:S6 G1}{n n2:G7}{r:T5}{Q:G1->G2->Prop}(e1:s.heap.get? l=some o)(c1:o.cls= .type "list")(d1:o.data= .seq items n)(e2:s.heap.get? b=some o2)(c2:o2.cls= .type "list")(d2:o2.data= .seq items2 n2)
 (t: ∀prog w,Lx prog w A.in1 s items.toList items2.toList r)(hu:A.units<cLine)(q:Q (.bool r) s):R3 (R7 prog w) A (gF .Lt (.ref l) (.ref b)) Q E s:=by
 obtain⟨cls,dd,data,sl⟩:=o;obtain⟨cls2,dd2,IP,sl2⟩:=o2;simp only at c1 d1 c2 d2;subst c1 d1 c2 d2;have g:=VZ l b items items2 n n2 dd dd2 sl sl2 r;refine gR (op:= .Lt) ⟨_,e1,rfl⟩ ⟨_,e2,rfl⟩ KH II (IB _ _) g ?_ hu;refine⟨e1,e2,t,?_⟩;exact And.intro (by intro x;cases x) q
mutual
theorem Xe: ∀ (p q:F8) (A:T3) (s:G2) (v u:G1) (as bs:G0 G9),Reads s.heap v p as->Reads s.heap u q bs->p.canLay0=true->q.canLay0=true->alk p q=true->A.units+p.depth<cLine->
 ∀ (prog:R9) (w:N4) (Q E:G1->G2->Prop),Q (.bool (ltP p q)) s->R3 (R7 prog w) A (gF .Lt v u) Q E s
 | .int i,q,A,s,v,u,as,bs,rp,rq,c1,c2,al,hu,prog,w,Q,E,h=>by
  cases q with
  |int j=>
   cases rp;cases rq;exact(j5 h:R3 (R7 prog w) A (L7 .Lt (.int i _) (.int j _)) Q E s)
  |none=>cases al
  |bool _=>cases al
  |str _=>cases al
  |list _=>cases al
  |tuple _=>cases al
  |dict _=>cases al
 | .tuple xs,q,A,s,v,u,as,bs,rp,rq,c1,c2,al,hu,prog,w,Q,E,h=>by
  cases q with
  |tuple ys=>
   cases rp with
   |tuple e1 k1 d1 r1=>
    cases rq with
    |tuple e2 k2 d2 r2=>
     have c1':B9 xs=true:=by simpa only [K3] using c1
     have c2':B9 ys=true:=by simpa only [K3] using c2
     have du:A.units+(N2 xs+1)<cLine:=by simpa only [E3] using hu
     exact Fb e1 k1 d1 e2 k2 d2 (λprog w=>lx_reads xs ys A.in1 s _ _ _ _ r1 r2 c1' c2' al (by show A.units+1+_<_;omega) prog w) (by omega) h
  |none=>cases al
  |bool _=>cases al
  |str _=>cases al
  |list _=>cases al
  |int _=>cases al
  |dict _=>cases al
 | .none,q,A,s,v,u,as,bs,rp,rq,c1,c2,al,hu,prog,w,Q,E,h=>by cases al
 | .bool _,q,A,s,v,u,as,bs,rp,rq,c1,c2,al,hu,prog,w,Q,E,h=>by cases al
 | .str _,q,A,s,v,u,as,bs,rp,rq,c1,c2,al,hu,prog,w,Q,E,h=>by cases al
 | .list xs,q,A,s,v,u,as,bs,rp,rq,c1,c2,al,hu,prog,w,Q,E,h=>by
  cases q with
  |list ys=>
   cases rp with
   |list e1 k1 d1 r1=>
    cases rq with
    |list e2 k2 d2 r2=>
     have c1':B9 xs=true:=by simpa only [K3] using c1
     have c2':B9 ys=true:=by simpa only [K3] using c2
     have du:A.units+(N2 xs+1)<cLine:=by simpa only [E3] using hu
     exact MG e1 k1 d1 e2 k2 d2 (λprog w=>lx_reads xs ys A.in1 s _ _ _ _ r1 r2 c1' c2' al (by show A.units+1+_<_;omega) prog w) (by omega) h
  |none=>cases al
  |bool _=>cases al
  |str _=>cases al
  |tuple _=>cases al
  |int _=>cases al
  |dict _=>cases al
 | .dict _,q,A,s,v,u,as,bs,rp,rq,c1,c2,al,hu,prog,w,Q,E,h=>by cases al
theorem lx_reads: ∀ (xs ys:G0 F8) (A:T3) (s:G2) (vs us:G0 G1) (as bs:G0 G9),ReadsAll s.heap vs xs as->ReadsAll s.heap us ys bs->B9 xs=true->B9 ys=true->alks xs ys=true->A.units+N2 xs<cLine->
 ∀ (prog:R9) (w:N4),Lx prog w A s vs us (ltPs xs ys)
 | [],[],A,s,vs,us,as,bs,ra,rb,_,_,_,_,prog,w=>by
  cases ra;cases rb;exact .nn
 | [],y::ys,A,s,vs,us,as,bs,ra,rb,_,_,_,_,prog,w=>by
  cases ra;cases rb with
  |cons r rs=>exact .nc _ _
 |x::xs,[],A,s,vs,us,as,bs,ra,rb,_,_,_,_,prog,w=>by
  cases rb;cases ra with
  |cons r rs=>exact .cn _ _
 |x::xs,y::ys,A,s,vs,us,as,bs,ra,rb,c1,c2,al,hu,prog,w=>by
  cases ra with
  |cons r rs=>
   cases rb with
   |cons r' rs'=>
    have d1:x.canLay0=true/\B9 xs=true:=by simpa [B9] using c1
    have d2:y.canLay0=true/\B9 ys=true:=by simpa [B9] using c2
    have al':alk x y=true/\alks xs ys=true:=by simpa [alks] using al
    have dx:A.units+x.depth<cLine/\A.units+N2 xs<cLine:=by simp only [N2] at hu;omega
    have eq:=eqAt_reads x y A s _ _ _ _ r r' d1.1 d2.1 (by have:=Nat.min_le_left x.depth y.depth;omega);unfold ltPs;cases e:C3 x y with
    |true=>
     rw [e] at eq;rw [R6 rfl];exact .same eq (lx_reads xs ys A s _ _ _ _ rs rs' d1.2 d2.2 al'.2 dx.2 prog w)
    |false=>
     rw [e] at eq;rw [R8 S5];exact .unlike eq λQ E q=>Xe x y A s _ _ _ _ r r' d1.1 d2.1 al'.1 dx.1 prog w Q E q
end
end HT
namespace L2
open PySem PySem.Spec PyProof.Rows PySem.SeqAt HT
theorem Xf {K:G5}{H:Hp}: ∀ {xs:G0 (D×F8)} {vs:G0 V} {us:G0 G1},RelDs K H (xs.map (·.1)) vs->Vals vs us-> ∃zs:G0 (G1×V×(D×F8)),us=zs.map (·.1)/\vs=zs.map (·.2.1)/\xs=zs.map (·.2.2)/\ ∀z∈zs,RelV z.2.1 z.1/\RelD K H z.2.2.1 z.2.1
 | [],vs,us,r,q=>by
  have e:vs= []:=r;subst e;cases q;exact⟨[],rfl,rfl,rfl,λz hz=>absurd hz F4⟩
 |x::xs,vs,us,r,q=>by
  obtain⟨v,vs',e,r1,r2⟩:=(show ∃v r,vs=v::r/\RelD K H x.1 v/\RelDs K H (xs.map (·.1)) r from r);subst e;cases q with
  |cons q1 q2=>
   obtain⟨zs,e1,e2,e3,g⟩:=Xf r2 q2;refine⟨(_,v,x)::zs,by rw [C6,<-e1],by rw [C6,<-e2],by rw [C6,<-e3],λz hz=> ?_⟩;rcases D2.mp hz with rfl|hz
   ·exact⟨q1,r1⟩
   ·exact g z hz
open Classical in
noncomputable def readOf (h:B6)(v:G1):F8:=if e: ∃p as,p.canLay0=true/\Reads h v p as then e.choose else .none
theorem PZ {h:B6}{v:G1}{p:F8}{as:G0 G9}(c:p.canLay0=true)(r:Reads h v p as):readOf h v=p:=by
 have e: ∃p as,p.canLay0=true/\Reads h v p as:=⟨p,as,c,r⟩;unfold readOf;rw [tU e];obtain⟨as',c',r'⟩:=e.choose_spec;exact Reads.unique _ _ v _ _ c' r' r
theorem yi {lt:G1->G1->T5}{zs:G0 (G1×V×(D×F8))}{m:D×F8}(hlt: ∀z∈zs,∀y∈zs,lt z.1 y.1=ltP z.2.2.2 y.2.2.2)(low: ∀z∈zs,z.2.2=m\/(ltP m.2 z.2.2.2=true/\ltP z.2.2.2 m.2=false))(self:ltP m.2 m.2=false):
 ∀ (zr:G0 (G1×V×(D×F8))) (zb:G1×V×(D×F8)),(∀z∈zb::zr,z∈zs)->(∃z∈zb::zr,z.2.2=m)-> ∃z∈zs,yV lt zb.1 (zr.map (·.1))=z.1/\z.2.2=m
 | [],zb,sub,⟨z,hz,e⟩=>by
  rw [P1.mp hz] at e;exact⟨zb,sub zb P7,rfl,e⟩
 |z1::zr,zb,sub,hm=>by
  have mb:=sub zb P7;have m1:=sub z1 (D1 _ P7);have subr: ∀z∈zr,z∈zs:=λz hz=>sub z (D1 _ (D1 _ hz))
  have two: ∀y,y∈zs-> ∀z∈y::zr,z∈zs:=λy hy z hz=>by
   rcases D2.mp hz with rfl|hz
   ·exact hy
   ·exact subr z hz
  show ∃z∈zs,yV lt (if lt z1.1 zb.1=true then z1.1 else zb.1) (zr.map (·.1))=z.1/\_;rw [hlt z1 m1 zb mb]
  by_cases cb:zb.2.2=m
  ·have no:ltP z1.2.2.2 zb.2.2.2=false:=by
    rw [cb];rcases low z1 m1 with e|e
    ·rw [e];exact self
    ·exact e.2
   rw [R8 (by rw [no];exact S5)];exact yi hlt low self zr zb (two zb mb) ⟨zb,P7,cb⟩
  ·by_cases c1:z1.2.2=m
   ·have yes:ltP z1.2.2.2 zb.2.2.2=true:=by
     rw [c1];rcases low zb mb with e|e
     ·exact absurd e cb
     ·exact e.1
    rw [R6 yes];exact yi hlt low self zr z1 (two z1 m1) ⟨z1,P7,c1⟩
   ·have hr: ∃z∈zr,z.2.2=m:=by
     obtain⟨z,hz,e⟩:=hm;rcases D2.mp hz with rfl|hz
     ·exact absurd e cb
     ·rcases D2.mp hz with rfl|hz
      ·exact absurd e c1
      ·exact⟨z,hz,e⟩
    obtain⟨z,hz,e⟩:=hr
    by_cases c:ltP z1.2.2.2 zb.2.2.2=true
    ·rw [R6 c];exact yi hlt low self zr z1 (two z1 m1) ⟨z,D1 _ hz,e⟩
    ·rw [R8 c];exact yi hlt low self zr zb (two zb mb) ⟨z,D1 _ hz,e⟩
def TK:RDn:=λds h Q=> ∃ (a:G9) (xs:G0 (D×F8)) (m:D×F8),ds= [.lst a]/\h a=some (xs.map (·.1))/\(∀x∈xs,ToP h x.1 x.2/\x.2.canLay0=true/\x.2.depth<=60/\ ∀y∈xs,alk x.2 y.2=true)/\m∈xs/\(∀x∈xs,x=m\/(ltP m.2 x.2=true/\ltP x.2 m.2=false))/\ltP m.2 m.2=false/\Q m.1 h
theorem Fc {X:Cx}{k:G7}(hc:X.calm=true)(hr:Room k X.A):wZ X (.builtin "min") TK:=by
 intro pins s σ H xs us Q I r h;obtain⟨ds,h,Qd,rd,rh,⟨a,xs,m,e,ha,g,hm,low,self,q⟩,post⟩:=h;subst e;obtain⟨v,e,r1⟩:=jp rd;obtain⟨vs,hH,r2⟩:=rh a _ ha;have e1:v= .ref a:=r1.1;subst e e1;obtain⟨u,rfl,ru⟩:=yb r;cases ru;obtain⟨its,rv,pl,hz⟩:=I.list (SqL.of hH);obtain⟨zs,rfl,rfl,rfl,gz⟩:=Xf r2 rv;have rz: ∀z∈zs,∃as,Reads s.heap z.1 z.2.2.2 as:=λz hz=>jM I rh (g _ (Q6 hz)).1 (gz z hz).2 (gz z hz).1
 have pz: ∀z∈zs,readOf s.heap z.1=z.2.2.2:=λz hz=>by
  obtain⟨as,r⟩:=rz z hz;exact PZ (g _ (Q6 hz)).2.1 r
 obtain⟨z0,zr,ez⟩: ∃z0 zr,zs=z0::zr:=by
  cases zs with
  |nil=>cases hm
  |cons z0 zr=>exact⟨z0,zr,rfl⟩
 have hu:=hr.un;refine HT.MF (lt:=λv u=>ltP (readOf s.heap v) (readOf s.heap u)) (v0:=z0.1) (r:=zr.map (·.1)) (I.ok.hd hc) pl.isList (by rw [ez];rfl) (λv hv u hu' s' E Q' kp q'=> ?_) λh' tk kp=> ?_
 ·obtain⟨z,hz,rfl⟩:=S4.mp hv;obtain⟨y,hy,rfl⟩:=S4.mp hu';obtain⟨as,ra⟩:=rz z hz;obtain⟨bs,rb⟩:=rz y hy;have g1:=g _ (Q6 hz);have g2:=g _ (Q6 hy);dsimp only at q';rw [pz z hz,pz y hy] at q';exact Xe _ _ _ s' _ _ _ _ (PyProof.Rows.Reads.keeps kp ra) (PyProof.Rows.Reads.keeps kp rb) g1.2.1 g2.2.1 (g1.2.2.2 _ (Q6 hy)) (by show X.A.units+1+_<_;have:=g1.2.2.1;omega) _ _ _ _ q'
 ·obtain⟨z,hz,el,em⟩:=yi (lt:=λv u=>ltP (readOf s.heap v) (readOf s.heap u)) (m:=m) (λz hz y hy=>by rw [pz z hz,pz y hy]) (λz hz=>low _ (Q6 hz)) self zr z0 (λz hz=>by rw [ez];exact hz) (by
   obtain⟨z,hz,e⟩:=S4.mp hm;exact⟨z,by rw [<-ez];exact hz,e⟩)
  rw [el];exact⟨z.2.1,H,I.kept kp,(gz z hz).1,post m.1 _ _ _ (.refl H) rh (by rw [<-em];exact(gz z hz).2) q⟩
end L2
namespace L2
open PySem PySem.Spec PyProof.Rows
theorem MJ {P:R9}{w:N4}{K:G5}{mg:Str->P4 G1}{base:B6}{k:G7}{f:G9}{fd:N5}{ps:G0 Str}{sp:RDn}(no: ∀ds h Q,sp ds h Q->False):FnOk P w K mg base CX0 k f fd ps (LSp K sp):=
 ⟨λvs H Q E ⟨ds,h,Qd,_,_,z,_⟩=>(no ds h Qd z).elim,λA outer s H args us vs Q E _ _ _ _ ⟨ds,h,Qd,_,_,z,_⟩=>(no ds h Qd z).elim⟩
end L2
namespace L2
open PySem PySem.Spec PyProof.Rows PySem.SeqAt
theorem Xg: ∀a b:G0 D3,HT.ltPs (a.map .int) (b.map .int)=HT.ju a b
 | [],[]=>rfl
 | [],_::_=>rfl
 |_::_,[]=>rfl
 |x::a,y::b=>by
  show (if (x==y)=true then HT.ltPs (a.map .int) (b.map .int) else decide (x<y))=if x=y then HT.ju a b else decide (x<y)
  rw [Xg a b]
  by_cases c:x=y
  ·rw [R6 c,R6 (by simpa using c)]
  ·rw [R8 c,R8 (by simpa using c)]
theorem Xh: ∀a b:G0 D3,HT.alks (a.map .int) (b.map .int)=true
 | [],_=>by unfold HT.alks;rfl
 |_::_,[]=>rfl
 |x::a,y::b=>by
  show (true&&HT.alks (a.map .int) (b.map .int))=true;rw [Xh a b];rfl
def HR:RDn:=λds h Q=>(∃i j:D3,ds= [.int i,.int j]/\Q (.int (if j<i then j else i)) h)\/TK ds h Q
theorem Da {X:Cx}{k:G7}(hc:X.calm=true)(hr:Room k X.A):wZ X (.builtin "min") HR:=by
 intro pins s σ H xs us Q I r h;obtain⟨ds,h,Qd,rd,rh,z,post⟩:=h;rcases z with ⟨i,j,rfl,z⟩|z
 ·refine QX hc pins s σ H xs us Q I r ⟨i,j,?_,post (.int (if j<i then j else i)) _ _ _ (.refl H) rh rfl z⟩;obtain⟨v,vr,e,r1,r2⟩:=(show ∃v r,xs=v::r/\RelD X.K H (.int i) v/\RelDs X.K H [.int j] r from rd);obtain⟨w,e2,r3⟩:=jp r2;rw [e,e2,show v= .int i from r1,show w= .int j from r3]
 ·exact Fc hc hr pins s σ H xs us Q I r ⟨ds,h,Qd,rd,rh,z,post⟩
section
variable {α:Type}{i:G7}{js:G0 G7}{ti:TID}{te:TED}{σ:SD}{h:HD}{Q:KD}
theorem Fd {h1:HD}{j:ItD}(ds:G0 D)(W:G7->G0 D->HD->Prop)(hn:ds.length<=1000)(ht: ∀R:ItD->HD->Prop,R j h1->ti σ h R)(hj: ∀k ys h',W k ys h'->j h'=some ds)
 (w0:W 0 [] h1)(wl: ∀k ys h',W k ys h'->ys.length<=k)(turn: ∀k d ys h',ds[k]? =some d->W k ys h'->te ((zi js σ).set i (some d)) h' λy h4=> ∃h5,Sub h5 h4/\(k+1<=ds.length/\W (k+1) (ys++ [y]) h5))
 (done: ∀ys h',W ds.length ys h'-> ∀p,h' p=none->Q (.lst p) (zR h' p ys)):yJ (bN i) js ti UC te σ h Q:=by
 refine ht _ ⟨ds.length,λk ys h'=>k<=ds.length/\W k ys h',⟨M7 _,w0⟩,?_⟩;rintro k ys h' ⟨hk,w⟩;refine⟨S0 (wl k ys h' w) (T4 (jz (by omega))),ds,hj k ys h' w,P3 _,λhl p hp=> ?_,λd hd=>⟨_,rfl,?_⟩⟩
 ·have:k=ds.length:=by omega
  subst this;exact done ys h' w p hp
 ·unfold UC;dsimp only;rw [R6 rfl];exact turn k d ys h' hd w
end
end L2
namespace L2
open PySem PySem.Spec PyProof.Rows
def s5:G7->G7
 |0=>0
 |d+1=>5*s5 d+1
theorem Db: ∀d,4*s5 d+1=5^d
 |0=>rfl
 |d+1=>by have:=Db d;rw [V2];show 4*(5*s5 d+1)+1=_;omega
theorem NF (a:G7): ∀b,s5 (a+b)=5^b*s5 a+s5 b
 |0=>by show s5 a=1*s5 a+0;omega
 |b+1=>by
  show 5*s5 (a+b)+1=5^(b+1)*s5 a+(5*s5 b+1);rw [NF a b,V2,gO,aR (5^b) 5,pT];omega
theorem NG: ∀d,s5 d%2=d%2
 |0=>rfl
 |d+1=>by have:=NG d;show (5*s5 d+1)%2=_;omega
theorem AC (m:G7):s5 (2*m)=2*(s5 m*(2*s5 m+1)):=by
 rw [Nat.two_mul,NF,<-Db m];have:(4*s5 m+1)*s5 m+s5 m=2*(s5 m*(2*s5 m+1)):=by
  rw [lV,gO,gO];have e1:4*s5 m*s5 m=4*(s5 m*s5 m):=pT ..;have e2:s5 m*(2*s5 m)=2*(s5 m*s5 m):=by rw [Nat.mul_left_comm]
  rw [e1,e2];omega
 exact this
theorem NH (k x:G7):Nat.Coprime (2^k) (2*x+1):=by
 refine Nat.Coprime.pow_left k ?_;show tQ 2 (2*x+1)=1;rw [Nat.gcd_rec,show (2*x+1)%2=1 by omega];rfl
theorem NI: ∀ (k d:G7),2^k∣s5 d->2^k∣d
 |0,d,_=>by rw [iB];exact Nat.one_dvd _
 |k+1,d,h=>by
  have ev:d%2=0:=by
   rw [<-NG d];exact nK (Nat.dvd_trans ⟨2^k,by rw [V2,aR]⟩ h)
  obtain⟨m,rfl⟩: ∃m,d=2*m:=⟨d / 2,by omega⟩;rw [AC,V2,aR] at h;have h1:2^k∣s5 m*(2*s5 m+1):=Nat.dvd_of_mul_dvd_mul_left (by decide) h;have h2:=NI k m ((NH k (s5 m)).dvd_of_dvd_mul_right h1);rw [V2,aR];exact Nat.mul_dvd_mul_left 2 h2
def f5 (N:G7):G7->G7->G7
 |0,a=>a
 |d+1,a=>(f5 N d a*5+1)%N
variable {N:G7}
theorem AD (a:G7): ∀d,f5 N d a%N=(5^d*a+s5 d)%N
 |0=>by show a%N=(1*a+0)%N;rw [Nat.one_mul,Z8]
 |d+1=>by
  show (f5 N d a*5+1)%N%N=(5^(d+1)*a+(5*s5 d+1))%N;rw [KI,o0,KJ,AD a d,<-KJ,<-o0,lV,V2]
  congr 1
  have:5^d*a*5=5^d*5*a:=by rw [Nat.mul_right_comm]
  omega
theorem AE (hN:0<N){a:G7}(ha:a<N): ∀d,f5 N d a<N
 |0=>ha
 |d+1=>bH _ hN
theorem NJ (a:G7)(b:G7): ∀d,f5 N (b+d) a=f5 N d (f5 N b a)
 |0=>rfl
 |d+1=>by show (f5 N (b+d) a*5+1)%N=_;rw [NJ a b d];rfl
variable {k:G7}
theorem MK {a d:G7}(ha:a<2^k)(d0:0<d)(hd:d<2^k):f5 (2^k) d a≠a:=λe=>by
 have e1:=AD (N:=2^k) a d;rw [e] at e1;have le:a<=5^d*a+s5 d:=S0 (Nat.le_mul_of_pos_left a (sJ (by decide))) (Y7 _ _);have dv:2^k∣5^d*a+s5 d-a:=Nat.dvd_of_mod_eq_zero (Nat.sub_mod_eq_zero_of_mod_eq e1.symm);have e2:5^d*a+s5 d-a=s5 d*(2*(2*a)+1):=by
  rw [<-Db d,lV,gO];have:4*s5 d*a=s5 d*(2*(2*a)):=by
   rw [aR 4,pT];congr 1;omega
  omega
 rw [e2] at dv;have:=Nat.le_of_dvd d0 (NI k d ((NH k (2*a)).dvd_of_dvd_mul_right dv));omega
theorem Fe {a:G7}(hN:N=2^k)(ha:a<N): ∀ {i j:G7},i<j->j<N->f5 N i a≠f5 N j a:=λ{i j} ij jN e=>by
 subst hN;have:=NJ (N:=2^k) a i (j-i);rw [K2 (T4 ij)] at this;exact MK (AE (sJ (by decide)) ha i) (by omega) (by omega) ((this.symm.trans e.symm))
theorem Ff: ∀ {xs:G0 G7},xs.Nodup->(∀x∈xs,x<N)->N<=xs.length-> ∀e,e<N->e∈xs:=λ{xs} nd lt le e he=>by
 have p:(R4 N).length<=(xs.filter λx=>decide (x<N)).length:=by
  rw [B0,List.filter_eq_self.mpr λx hx=>M8 (lt x hx)];exact le
 refine Y2 λno=> ?_
 have key: ∀ (ys zs:G0 G7),ys.Nodup->(∀y∈ys,y∈zs)->ys.length<=zs.length:=by
  intro ys
  induction ys with
  |nil=>intro zs _ _;exact M7 _
  |cons y ys ih=>
   intro zs d s;obtain⟨d1,d2⟩:=E6.mp d;have hy:=s y P7;have:=ih (zs.erase y) d2 λx hx=>(cH (show x≠y from λq=>d1 (by rw [<-q];exact hx))).mpr (s x (D1 _ hx))
   rw [W1 hy] at this;have:0<zs.length:=X1 hy;rw [D8];omega
 have:=key (e::xs) (R4 N) (E6.mpr ⟨no,nd⟩) λy hy=>by
  rcases D2.mp hy with q|q
  ·rw [q];exact S8.mpr he
  ·exact S8.mpr (lt y q)
 rw [D8,B0] at this;omega
theorem NK {a e:G7}(hN:N=2^k)(ha:a<N)(he:e<N): ∃m,m<N/\f5 N m a=e:=by
 have nd:((R4 N).map λm=>f5 N m a).Nodup:=by
  rw [nH,K6];refine O3.mpr λi j hi hj ij=> ?_
  rw [c9,c9];rw [B0] at hj;exact Fe hN ha ij hj
 have:=Ff nd (λx hx=>by
  obtain⟨m,_,rfl⟩:=S4.mp hx;exact AE (by rw [hN];exact sJ (by decide)) ha m) (by rw [G6,B0];exact P3 _) e he
 obtain⟨m,hm,e⟩:=S4.mp this;exact⟨m,S8.mp hm,e⟩
def zt (t:T6):G7->U5->U5
 |0,p=>p
 |n+1,p=>zt t n (t.advance p)
theorem vD (t:T6): ∀ (a b:G7) (p:U5),zt t (a+b) p=zt t b (zt t a p)
 |0,b,p=>by rw [Q9];rfl
 |a+1,b,p=>by rw [gD];exact vD t a b _
def Ua (t:T6)(i q:G7)(d:P4 G7):U5:= {j:=i,more:=E9 t.mask i-i,i:=i,perturb:=q,dummy:=d}
theorem yW (t:T6): ∀ (m:G7) (p:U5),p.more=m->zt t (m+1) p=Ua t ((p.i*5+1+p.perturb / 32)%(t.mask+1)) (p.perturb / 32) p.dummy
 |0,p,e=>by
  show t.advance p=_;unfold Y8;rw [R8 (by omega)];rfl
 |m+1,p,e=>by
  have a:t.advance p= {p with j:=p.j+1,more:=p.more-1}:=by unfold Y8;rw [R6 (by omega)]
  show zt t (m+1) (t.advance p)=_;rw [a,yW t m _ (by show p.more-1=m;omega)]
theorem Dc (mask i:G7):E9 mask i-i<=9:=by unfold E9;split<;>omega
def Yo (N:G7)(b:G7):G7->G7
 |0=>b%N
 |L+1=>(Yo N b L*5+1+b / 32^(L+1))%N
theorem De (t:T6)(h:D3): ∀L,∃n,n<=10*L/\zt t n (t.probeStart h)=Ua t (Yo (t.mask+1) (S9 h) L) (S9 h / 32^L) none
 |0=>⟨0,P3 _,by rw [iB,o6];rfl⟩
 |L+1=>by
  obtain⟨n,hn,e⟩:=De t h L;have s:=Dc t.mask (Yo (t.mask+1) (S9 h) L);refine⟨n+(E9 t.mask (Yo (t.mask+1) (S9 h) L)-Yo (t.mask+1) (S9 h) L+1),by omega,?_⟩;rw [vD,e];refine(yW t _ (Ua t _ _ none) rfl).trans ?_;show Ua t ((Yo (t.mask+1) (S9 h) L*5+1+S9 h / 32^L / 32)%(t.mask+1)) (S9 h / 32^L / 32) none=_;rw [dA,<-V2];rfl
theorem Fg (h:D3):S9 h<2^64:=by unfold S9;omega
theorem WY (h:D3): ∀m,Yo N (S9 h) (13+m)=f5 N m (Yo N (S9 h) 13)
 |0=>rfl
 |m+1=>by
  show (Yo N (S9 h) (13+m)*5+1+S9 h / 32^(13+m+1))%N=(f5 N m (Yo N (S9 h) 13)*5+1)%N;rw [WY h m,Nat.div_eq_of_lt (S7 (Fg h) ?_),Z8];exact S0 (show 2^64<=32^13 by decide) (cE (by decide) (by omega))
variable {t:T6}
theorem ML (hN:t.mask+1=2^k)(h:D3){e:G7}(he:e<=t.mask): ∃n,n<10*J6 t.mask/\(zt t n (t.probeStart h)).j=e:=by
 obtain⟨m,hm,em⟩:=NK hN (a:=Yo (t.mask+1) (S9 h) 13) (bH _ (aT _)) (show e<t.mask+1 by omega);obtain⟨n,hn,en⟩:=De t h (13+m);refine⟨n,by unfold J6;omega,?_⟩;rw [en,<-em,<-WY h m];rfl
theorem Df {P:G7->Prop}: ∀n,P n-> ∃m,m<=n/\P m/\ ∀k,k<m-> ¬P k:=λn=>by
 induction n using G7.strongRecOn with
 |ind n ih=>
  intro h;rcases kH (∃k,k<n/\P k) with ⟨k,lt,pk⟩|no
  ·obtain⟨m,a,b,c⟩:=ih k lt pk;exact⟨m,by omega,b,c⟩
  ·exact⟨n,P3 _,h,λk lt pk=>no ⟨k,lt,pk⟩⟩
variable {h:D3}
theorem NL {f:G7->D3}(d:t.dummies= #[]): ∀ (n fuel:G7) (p:U5),n<fuel->t.slot (zt t n p).j= .empty->(∀k,k<n->t.slot (zt t k p).j≠ .empty)->p.dummy=none->
 (U0 t f h fuel p=some (.empty (zt t n p).j none)/\ ∀k,k<n-> ∀i,t.slot (zt t k p).j= .live i->f i≠h)\/
 (∃k i,k<n/\t.slot (zt t k p).j= .live i/\f i=h/\(∀k',k'<k-> ∀i',t.slot (zt t k' p).j= .live i'->f i'≠h)/\U0 t f h fuel p=some (.candidate (zt t k p).j i (zt t (k+1) p)))
 |_,0,_,lt,_,_,_=>absurd lt (aN _)
 |0,fuel+1,p,_,he,_,hd=>by
  refine .inl ⟨?_,λk hk=>absurd hk (aN _)⟩;have he:t.slot p.j= .empty:=he;unfold U0;rw [he,hd];rfl
 |n+1,fuel+1,p,lt,he,ne,hd=>by
  have h0:t.slot p.j≠ .empty:=ne 0 (aT _);cases hs:t.slot p.j with
  |empty=>exact absurd hs h0
  |dummy=>exact absurd hs (HT.vV d)
  |live i=>
   by_cases e:f i=h
   ·refine .inr ⟨0,i,aT _,hs,e,λk' hk=>absurd hk (aN _),?_⟩;unfold U0;rw [hs];show (if (f i==h)=true then _ else _)=_;rw [R6 (by rw [e];exact W7 h)];rfl
   ·have ad:(t.advance p).dummy=none:=by unfold Y8;split<;>exact hd
    have step:U0 t f h (fuel+1) p=U0 t f h fuel (t.advance p):=by
     conv=>lhs;unfold U0
     rw [hs];show (if (f i==h)=true then _ else _)=_;rw [R8 (by simpa using e)]
    rcases NL d n fuel (t.advance p) (by omega) he (λk hk=>ne (k+1) (by omega)) ad with ⟨a,b⟩|⟨k,i',hk,a,b,c,g⟩
    ·refine .inl ⟨by rw [step];exact a,λk hk i2 hi=> ?_⟩;cases k with
     |zero=>rw [show t.slot (zt t 0 p).j= .live i from hs] at hi;cases hi;exact e
     |succ k=>exact b k (by omega) i2 hi
    ·refine .inr ⟨k+1,i',by omega,a,b,λk' hk' i2 hi=> ?_,by rw [step];exact g⟩;cases k' with
     |zero=>rw [show t.slot (zt t 0 p).j= .live i from hs] at hi;cases hi;exact e
     |succ k'=>exact c k' (by omega) i2 hi
theorem Ub (hN:t.mask+1=2^k)(h:D3){e:G7}(he:e<=t.mask)(em:t.slot e= .empty): ∃n,n<10*J6 t.mask/\t.slot (zt t n (t.probeStart h)).j= .empty/\ ∀m,m<n->t.slot (zt t m (t.probeStart h)).j≠ .empty:=by
 obtain⟨n,hn,ej⟩:=ML hN h he;obtain⟨m,a,b,c⟩:=Df (P:=λn=>t.slot (zt t n (t.probeStart h)).j= .empty) n (by rw [ej];exact em);exact⟨m,by omega,b,c⟩
theorem Dg (r:t.place.toList.Pairwise (· < ·)){i j:G7}(h:t.place[i]? =some j):t.slot j= .live i:=by
 obtain⟨lo,hi,_⟩:=HT.vq r j;have e:T7 t.place j=i:=by
  rcases dU (T7 t.place j) i with z|z|z
  ·obtain⟨hlt,ev⟩:=O7.mp h;have hb:T7 t.place j<t.place.size:=by omega
   have a:=hi (T7 t.place j) (P3 _) t.place[T7 t.place j] (Y0 hb);have b:=O3.mp r (T7 t.place j) i (by simpa using hb) (by simpa using hlt) z;simp only [eL] at b;omega
  ·exact z
  ·exact absurd (lo i z j h) (N7 _)
 unfold mK;dsimp only;rw [e,h,R6 (W7 _)]
theorem Dh {i j:G7}(h:t.slot j= .live i):t.place[i]? =some j:=by
 unfold mK at h;dsimp only at h;split at h
 ·rename_i c;injection h with h
  subst h;exact eq_of_beq c
 ·split at h<;>cases h
theorem vE (d:t.dummies= #[])(r:t.place.toList.Pairwise (· < ·)){j:G7}:t.slot j= .empty↔ ∀i:G7,t.place[i]? ≠some j:=by
 constructor
 ·intro h i e;rw [Dg r e] at h;cases h
 ·intro h;cases e:t.slot j with
  |empty=>rfl
  |dummy=>exact absurd e (HT.vV d)
  |live i=>exact absurd (Dh e) (h i)
variable {u:T6}
theorem MM (e:t.mask=u.mask)(p:U5):t.advance p=u.advance p:=by
 unfold Y8;rw [e]
theorem yj (e:t.mask=u.mask): ∀ (n:G7) (p:U5),zt t n p=zt u n p
 |0,_=>rfl
 |n+1,p=>by show zt t n (t.advance p)=zt u n (u.advance p);rw [MM e,yj e n]
theorem yw (e:t.mask=u.mask)(h:D3):t.probeStart h=u.probeStart h:=by
 unfold KP;rw [e]
def Way (t:T6)(h:D3)(j:G7):Prop:= ∃n,(zt t n (t.probeStart h)).j=j/\ ∀m,m<n->t.slot (zt t m (t.probeStart h)).j≠ .empty
theorem Way.more (e:t.mask=u.mask)(f: ∀j,u.slot j= .empty->t.slot j= .empty){h:D3}{j:G7}(w:Way t h j):Way u h j:=by
 obtain⟨n,a,b⟩:=w;refine⟨n,by rw [<-yw e,<-yj e];exact a,λm hm z=>b m hm ?_⟩;rw [<-yw e,<-yj e] at z;exact f _ z
theorem NM {α:Type}(xs:G0 α)(x:α){p:G7}(hp:p<=xs.length)(i:G7):(xs.take p++x::xs.drop p)[i]? =if i<p then xs[i]? else if i=p then some x else xs[i-1]? :=by
 have tl:(xs.take p).length=p:=by rw [M5];omega
 by_cases a:i<p
 ·rw [R6 a,B8 (by omega),pY,R6 a]
 ·rw [R8 a,N3 (by omega),tl]
  by_cases b:i=p
  ·rw [R6 b,b,kG];rfl
  ·rw [R8 b,show i-p=(i-p-1)+1 by omega,aL,Y6]
   congr 1;omega
structure Laid (t:T6)(hs:G0 D3):Prop where
 pow: ∃k,t.mask+1=2^k
 big:7<=t.mask
 dum:t.dummies= #[]
 rise:t.place.toList.Pairwise (· < ·)
 size:t.place.size=hs.length
 room:hs.length<=t.mask
 low: ∀ (i j:G7),t.place[i]? =some j->j<=t.mask
 way: ∀ (i:G7) (h:D3) (j:G7),hs[i]? =some h->t.place[i]? =some j->Way t h j
variable {hs:G0 D3}
theorem Laid.free (l:Laid t hs): ∃e,e<=t.mask/\t.slot e= .empty:=by
 refine Y2 λno=> ?_
 have nd:t.place.toList.Nodup:=l.rise.imp λ{a b} z=>M0 z
 have all: ∀e,e<t.mask+1->e∈t.place.toList:=λe he=>by
  refine Y2 λz=>no ⟨e,by omega,(vE l.dum l.rise).mpr λi q=>z ?_⟩
  exact oG.mpr (Array.mem_of_getElem? q)
 have key: ∀ (ys zs:G0 G7),ys.Nodup->(∀y∈ys,y∈zs)->ys.length<=zs.length:=by
  intro ys
  induction ys with
  |nil=>intro zs _ _;exact M7 _
  |cons y ys ih=>
   intro zs d s;obtain⟨d1,d2⟩:=E6.mp d;have hy:=s y P7;have:=ih (zs.erase y) d2 λx hx=>(cH (show x≠y from λq=>d1 (by rw [<-q];exact hx))).mpr (s x (D1 _ hx))
   rw [W1 hy] at this;have:0<zs.length:=X1 hy;rw [D8];omega
 have:=key (R4 (t.mask+1)) t.place.toList mX λy hy=>all y (S8.mp hy)
 rw [B0,D0,l.size] at this;have:=l.room;omega
theorem Laid.search (l:Laid t hs)(h:D3): ∃n,n<10*J6 t.mask/\t.slot (zt t n (t.probeStart h)).j= .empty/\(∀m,m<n->t.slot (zt t m (t.probeStart h)).j≠ .empty)/\ ∀i:G7,hs[i]? =some h-> ∃m,m<n/\t.slot (zt t m (t.probeStart h)).j= .live i:=by
 obtain⟨k,hk⟩:=l.pow;obtain⟨e,he,em⟩:=l.free;obtain⟨n,a,b,c⟩:=Ub hk h he em;refine⟨n,a,b,c,λi hi=> ?_⟩;obtain⟨j,hj⟩: ∃j,t.place[i]? =some j:=⟨t.place[i]'(by rw [l.size];exact(P5.mp hi).1),Y0 _⟩;obtain⟨m,x,y⟩:=l.way i h j hi hj;have lv:t.slot (zt t m (t.probeStart h)).j= .live i:=by rw [x];exact Dg l.rise hj
 refine⟨m,?_,lv⟩;rcases dU m n with z|z|z
 ·exact z
 ·rw [z,b] at lv;cases lv
 ·exact absurd b (y n z)
theorem Di (t:T6)(j:G7):(t.put j).1.place.toList=t.place.toList.take (T7 t.place j)++j::t.place.toList.drop (T7 t.place j):=fT ..
theorem Dj (d:t.dummies= #[])(j:G7):(t.put j).1.dummies= #[]:=by
 show (if eZ t.dummies j then _ else t.dummies)= #[];rw [d,R8 (by simp [eZ])]
theorem Laid.put (l:Laid t hs){h:D3}{j:G7}(em:t.slot j= .empty)(jm:j<=t.mask)(w:Way t h j)(room:hs.length+1<=t.mask):Laid (t.put j).1 (hs.take (t.put j).2++h::hs.drop (t.put j).2):=by
 have pe:(t.put j).2=T7 t.place j:=rfl;have me:t.mask=(t.put j).1.mask:=rfl;have pl:=Di t j;have hp:T7 t.place j<=t.place.size:=(HT.vq l.rise j).2.2;have hp1:T7 t.place j<=t.place.toList.length:=by rw [D0];exact hp
 have hp2:T7 t.place j<=hs.length:=by rw [<-l.size];exact hp
 have rise:(t.put j).1.place.toList.Pairwise (· < ·):=HT.Zo l.rise (HT.Wn em);have at1: ∀i:G7,(t.put j).1.place[i]? =if i<T7 t.place j then t.place[i]? else if i=T7 t.place j then some j else t.place[i-1]? :=λi=>by
  have:=NM t.place.toList j hp1 i;rw [<-pl] at this;simpa using this
 have sl: ∀x,(t.put j).1.slot x= .empty->t.slot x= .empty:=λx hx=>by
  rw [vE (Dj l.dum j) rise] at hx;rw [vE l.dum l.rise];intro i e
  by_cases c:i<T7 t.place j
  ·exact hx i (by rw [at1,R6 c];exact e)
  ·exact hx (i+1) (by rw [at1,R8 (by omega),R8 (by omega)];exact e)
 rw [pe];refine⟨l.pow,l.big,Dj l.dum j,rise,?_,?_,λi x hx=> ?_,λi g x hg hx=> ?_⟩
 ·rw [<-D0,pl];simp only [P8,D8,M5,F9,D0];have:=l.size;omega
 ·show _<=t.mask;simp only [P8,D8,M5,F9];omega
 ·rw [at1] at hx;split at hx
  ·exact l.low _ _ hx
  ·split at hx
   ·injection hx with hx;subst hx;exact jm
   ·exact l.low _ _ hx
 ·rw [at1] at hx;rw [NM hs h hp2] at hg
  by_cases c:i<T7 t.place j
  ·rw [R6 c] at hg hx;exact(l.way i g x hg hx).more me sl
  ·rw [R8 c] at hg hx
   by_cases b:i=T7 t.place j
   ·rw [R6 b] at hg hx;injection hg with hg;injection hx with hx
    subst hg hx;exact w.more me sl
   ·rw [R8 b] at hg hx;exact(l.way (i-1) g x hg hx).more me sl
theorem Qf (a b:G7)(led:T5):Laid (.fresh a b led) []:=⟨⟨3,rfl⟩,P3 7,rfl,lR,rfl,M7 _,λi j h=>by simp [uW] at h,λi h j e=>by simp at e⟩
theorem NN (t:T6): ∀ (k i q m j:G7) (d:P4 G7),k<=m->zt t k ⟨j,m,i,q,d⟩=⟨j+k,m-k,i,q,d⟩
 |0,i,q,m,j,d,_=>rfl
 |k+1,i,q,m,j,d,h=>by
  have a:t.advance ⟨j,m,i,q,d⟩=⟨j+1,m-1,i,q,d⟩:=by unfold Y8;rw [R6 (show m>0 by omega)]
  show zt t k (t.advance ⟨j,m,i,q,d⟩)=_;rw [a,NN t k i q (m-1) (j+1) d (by omega)]
  congr 1<;>omega
def SL (t:T6)(E:G7->T5)(h:D3)(j:G7):Prop:= ∃n,(zt t n (t.probeStart h)).j=j/\ ∀m,m<n->E (zt t m (t.probeStart h)).j=false
variable {owner:S6 (P4 G7)}
theorem Xi: ∀ (fuel L n:G7) {j:G7},zt t n (t.probeStart h)=Ua t (Yo (t.mask+1) (S9 h) L) (S9 h / 32^L) none->(∀m,m<n->(owner.getD (zt t m (t.probeStart h)).j (some 0)).isNone=false)->
 J7 t.mask owner fuel (Yo (t.mask+1) (S9 h) L) (S9 h / 32^L)=some j->(owner.getD j (some 0)).isNone=true/\SL t (λx=>(owner.getD x (some 0)).isNone) h j
 |0,_,_,_,_,_,e=>by cases e
 |fuel+1,L,n,j,hn,ne,e=>by
  unfold J7 at e;generalize hI:Yo (t.mask+1) (S9 h) L=I at hn e;have run: ∀k,k<=E9 t.mask I-I->(zt t (n+k) (t.probeStart h)).j=I+k:=λk hk=>by
   rw [vD,hn];exact congrArg SetTable.Probe.j (NN t k I _ _ I none hk)
  have re:I<=E9 t.mask I:=by unfold E9;split<;>omega
  split at e
  ·rename_i k hk;injection e with e
   subst e;obtain⟨a,b,c⟩:=List.find?_range_eq_some.mp hk;have kl:=S8.mp b;refine⟨a,n+k,run k (by omega),λm hm=> ?_⟩;rcases K1 m n with z|z
   ·exact ne m z
   ·have:=c (m-n) (by omega);have r:=run (m-n) (by omega);rw [K2 z] at r;show (owner.getD (zt t m (t.probeStart h)).j (some 0)).isNone=false;rw [r];simpa using this
  ·rename_i hk;have none:=lE.mp hk;have nx:=yW t _ (Ua t I (S9 h / 32^L) .none) rfl;refine Xi fuel (L+1) (n+(E9 t.mask I-I+1)) (j:=j) ?_ (λm hm=> ?_) ?_
   ·rw [vD,hn];refine nx.trans ?_;show Ua t ((I*5+1+S9 h / 32^L / 32)%(t.mask+1)) (S9 h / 32^L / 32) .none=_;rw [dA,<-V2,<-hI];rfl
   ·rcases K1 m n with z|z
    ·exact ne m z
    ·have:=none (m-n) (S8.mpr (by omega));have r:=run (m-n) (by omega);rw [K2 z] at r;rw [r];exact aK.mpr this
   ·rw [show xK t.mask I (S9 h / 32^L)=((I*5+1+S9 h / 32^L / 32)%(t.mask+1),S9 h / 32^L / 32) from rfl] at e;dsimp only at e;rw [dA,<-V2,<-hI] at e;exact e
theorem Dk (hN:t.mask+1=2^k){e:G7}(he:e<=t.mask)(em:(owner.getD e (some 0)).isNone=true): ∃j,J7 t.mask owner (J6 t.mask) (S9 h%(t.mask+1)) (S9 h)=some j:=by
 obtain⟨m,hm,e1⟩:=NK hN (a:=Yo (t.mask+1) (S9 h) 13) (bH _ (aT _)) (show e<t.mask+1 by omega);rw [<-WY h m] at e1;have go: ∀ (fuel L:G7),(∃L',L<=L'/\L'<L+fuel/\Yo (t.mask+1) (S9 h) L'=e)-> ∃j,J7 t.mask owner fuel (Yo (t.mask+1) (S9 h) L) (S9 h / 32^L)=some j:=by
  intro fuel
  induction fuel with
  |zero=>rintro L ⟨L',a,b,_⟩;omega
  |succ fuel ih=>
   rintro L ⟨L',a,b,c⟩;unfold J7;generalize hI:Yo (t.mask+1) (S9 h) L=I;split
   ·rename_i k hk;exact⟨_,rfl⟩
   ·rename_i hk;have none:=lE.mp hk;have ne:I≠e:=λz=>by
     have re:I<=E9 t.mask I:=by unfold E9;split<;>omega
     have:=none 0 (S8.mpr (by omega));rw [Z8,z] at this;exact this em
    have lt:L+1<=L':=by
     rcases K1 L L' with z|z
     ·exact z
     ·have:L=L':=by omega
      subst this;exact absurd (hI.symm.trans c) ne
    obtain⟨j,hj⟩:=ih (L+1) ⟨L',lt,by omega,c⟩;refine⟨j,?_⟩;rw [show xK t.mask I (S9 h / 32^L)=((I*5+1+S9 h / 32^L / 32)%(t.mask+1),S9 h / 32^L / 32) from rfl];dsimp only;rw [dA,<-V2,<-hI];exact hj
 have:=go (J6 t.mask) 0 ⟨13+m,M7 _,by unfold J6;omega,e1⟩;rw [iB,o6] at this;exact this
def emO (owner:S6 (P4 G7))(x:G7):T5:=(owner.getD x (some 0)).isNone
theorem emO_iff {x:G7}:emO owner x=true↔owner[x]? =some none:=by
 unfold emO;rw [dW];cases owner[x]? with
 |none=>simp
 |some o=>cases o<;>simp
structure Own (t:T6)(hs:G0 D3)(owner:S6 (P4 G7))(k:G7):Prop where
 size:owner.size=t.mask+1
 lt: ∀x i:G7,owner[x]? =some (some i)->i<k
 inj: ∀x y i:G7,owner[x]? =some (some i)->owner[y]? =some (some i)->x=y
 all: ∀i,i<k-> ∃x:G7,owner[x]? =some (some i)
 way: ∀ (x i:G7) (h:D3),owner[x]? =some (some i)->hs[i]? =some h->SL t (emO owner) h x
theorem Own.free (o:Own t hs owner k)(room:k<=t.mask): ∃e,e<=t.mask/\emO owner e=true:=by
 refine Y2 λno=> ?_
 have got: ∀x,x<t.mask+1-> ∃i,owner[x]? =some (some i):=λx hx=>by
  have hs':x<owner.size:=by rw [o.size];exact hx
  cases e:owner[x]? with
  |none=>rw [X3] at e;omega
  |some v=>
   cases v with
   |none=>exact absurd ⟨x,by omega,emO_iff.mpr e⟩ no
   |some i=>exact⟨i,rfl⟩
 have gi: ∀x,x<t.mask+1->owner[x]? =some (some (((owner[x]?).getD none).getD 0)):=λx hx=>by
  obtain⟨i,e⟩:=got x hx;rw [e];rfl
 have nd:((R4 (t.mask+1)).map λx=>((owner[x]?).getD none).getD 0).Nodup:=by
  rw [nH,K6];refine O3.mpr λa b ha hb ab e=> ?_
  rw [c9,c9] at e;rw [B0] at ha hb;have x1:=gi a ha;have x2:=gi b hb;rw [e] at x1;have:=o.inj a b _ x1 x2;omega
 have:=YM (m:=R4 k) nd λy hy=>by
  obtain⟨x,hx,rfl⟩:=S4.mp hy;exact S8.mpr (o.lt x _ (gi x (S8.mp hx)))
 rw [G6,B0,B0] at this;omega
variable {n:G7}
theorem Own.step (hN:t.mask+1=2^n)(o:Own t hs owner k)(room:k<=t.mask)(hk:hs[k]? =some h): ∃j,J7 t.mask owner (J6 t.mask) (S9 h%(t.mask+1)) (S9 h)=some j/\Own t hs (owner.setIfInBounds j (some k)) (k+1):=by
 obtain⟨e,he,em⟩:=o.free room;obtain⟨j,hj⟩:=Dk (h:=h) hN he em;have w:=Xi (t:=t) (owner:=owner) (h:=h) (J6 t.mask) 0 0 (j:=j) (by rw [iB,o6];rfl) (λm hm=>absurd hm (aN _)) (by rw [iB,o6];exact hj);have jn:owner[j]? =some none:=emO_iff.mp w.1;have js:j<owner.size:=(O7.mp jn).1;have at1: ∀x:G7,(owner.setIfInBounds j (some k))[x]? =if j=x then some (some k) else owner[x]? :=λx=>by
  rw [Array.getElem?_setIfInBounds]
  by_cases c:j=x
  ·rw [R6 c,R6 c,R6 js]
  ·rw [R8 c,R8 c]
 have old: ∀x i:G7,(owner.setIfInBounds j (some k))[x]? =some (some i)->(x=j/\i=k)\/(x≠j/\owner[x]? =some (some i)):=λx i hx=>by
  rw [at1] at hx;split at hx
  ·rename_i c;injection hx with hx;injection hx with hx;exact .inl ⟨c.symm,hx.symm⟩
  ·rename_i c;exact .inr ⟨U9 c,hx⟩
 have emm: ∀x,emO owner x=false->emO (owner.setIfInBounds j (some k)) x=false:=λx hx=>by
  refine aK.mpr λz=> ?_
  rw [emO_iff,at1] at z;split at z
  ·cases z
  ·rw [emO_iff.mpr z] at hx;cases hx
 refine⟨j,hj,by rw [fU];exact o.size,λx i hx=> ?_,λx y i hx hy=> ?_,λi hi=> ?_,λx i g hx hg=> ?_⟩
 ·rcases old x i hx with ⟨_,e⟩|⟨_,e⟩
  ·omega
  ·have:=o.lt x i e;omega
 ·rcases old x i hx with ⟨a,b⟩|⟨a,b⟩<;>rcases old y i hy with ⟨c,d⟩|⟨c,d⟩
  ·rw [a,c]
  ·have:=o.lt y i d;omega
  ·have:=o.lt x i b;omega
  ·exact o.inj x y i b d
 ·by_cases c:i=k
  ·exact⟨j,by rw [at1,R6 rfl,c]⟩
  ·obtain⟨x,hx⟩:=o.all i (by omega);have ne: ¬j=x:=λz=>by rw [<-z,jn] at hx;cases hx
   exact⟨x,by rw [at1,R8 ne];exact hx⟩
 ·rcases old x i hx with ⟨a,b⟩|⟨a,b⟩
  ·rw [b,hk] at hg;injection hg with hg
   rw [a,<-hg];obtain⟨m,p,q⟩:=w.2;exact⟨m,p,λm' hm=>emm _ (q m' hm)⟩
  ·obtain⟨m,p,q⟩:=o.way x i g b hg;exact⟨m,p,λm' hm=>emm _ (q m' hm)⟩
theorem MN (t:T6)(hs:G0 D3):Own t hs (nV (t.mask+1) none) 0:=by
 have no: ∀x i:G7,(nV (t.mask+1) (none:P4 G7))[x]? ≠some (some i):=λx i e=>by
  rw [Array.getElem?_replicate] at e;split at e<;>cases e
 exact⟨Array.size_replicate,λx i e=>absurd e (no x i),λx y i e=>absurd e (no x i),λi hi=>absurd hi (aN _),λx i h e=>absurd e (no x i)⟩
theorem Xj (hN:t.mask+1=2^n)(room:hs.length<=t.mask){F:P4 (S6 (P4 G7)×G7)->D3->P4 (S6 (P4 G7)×G7)}
 (hF: ∀owner k h j,J7 t.mask owner (J6 t.mask) (S9 h%(t.mask+1)) (S9 h)=some j->F (some (owner,k)) h=some (owner.setIfInBounds j (some k),k+1)): ∀ (rest:G0 D3) (k:G7) (owner:S6 (P4 G7)),Own t hs owner k->k<=hs.length->hs.drop k=rest-> ∃owner',rest.foldl F (some (owner,k))=some (owner',hs.length)/\Own t hs owner' hs.length
 | [],k,owner,o,kl,e=>by
  have:k=hs.length:=by have:=i4.mp e;omega
  subst this;exact⟨owner,rfl,o⟩
 |h::rest,k,owner,o,kl,e=>by
  have hk:hs[k]? =some h:=by
   have:(hs.drop k)[0]? =some h:=by rw [e];rfl
   rwa [Y6,Z8] at this
  have lt:k<hs.length:=(P5.mp hk).1;obtain⟨j,hj,o'⟩:=o.step hN (by omega) hk;have e2:hs.drop (k+1)=rest:=by rw [<-List.tail_drop,e];rfl
  obtain⟨owner',a,b⟩:=Xj hN room hF rest (k+1) _ o' lt e2;exact⟨owner',by rw [nO,hF _ _ _ _ hj];exact a,b⟩
theorem MO (hN:t.mask+1=2^n)(room:hs.length<=t.mask){F:P4 (S6 (P4 G7)×G7)->D3->P4 (S6 (P4 G7)×G7)}
 (hF: ∀owner k h j,J7 t.mask owner (J6 t.mask) (S9 h%(t.mask+1)) (S9 h)=some j->F (some (owner,k)) h=some (owner.setIfInBounds j (some k),k+1)): ∃owner,(hs.foldl F (some (nV (t.mask+1) none,0))).map (·.1)=some owner/\Own t hs owner hs.length:=by
 obtain⟨owner,a,b⟩:=Xj hN room hF hs 0 _ (MN t hs) (M7 _) rfl;exact⟨owner,by rw [a];rfl,b⟩
theorem Fh {hashes:S6 D3}(hN:t.mask+1=2^n)(room:hashes.size<=t.mask): ∃owner,l8 t.mask hashes=some owner/\Own t hashes.toList owner hashes.toList.length:=by
 unfold l8;rw [<-Array.foldl_toList];refine MO hN (by rw [D0];exact room) λowner k h j hj=> ?_
 show (J7 t.mask owner _ _ _).bind _=_;rw [hj];rfl
theorem Uc: ∀ (n:G7) (p:U5),p.j+p.more<=t.mask->(zt t n p).j<=t.mask
 |0,p,h=>by show p.j<=t.mask;omega
 |n+1,p,h=>by
  refine Uc n (t.advance p) ?_;unfold Y8;split
  ·show p.j+1+(p.more-1)<=t.mask;omega
  ·have:(p.i*5+1+p.perturb / 32)%(t.mask+1)<t.mask+1:=bH _ (aT _);show (p.i*5+1+p.perturb / 32)%(t.mask+1)+(E9 t.mask ((p.i*5+1+p.perturb / 32)%(t.mask+1))-(p.i*5+1+p.perturb / 32)%(t.mask+1))<=t.mask;unfold E9;split<;>omega
theorem Vc (t:T6)(h:D3):(t.probeStart h).j+(t.probeStart h).more<=t.mask:=by
 have:S9 h%(t.mask+1)<t.mask+1:=bH _ (aT _);show S9 h%(t.mask+1)+(E9 t.mask (S9 h%(t.mask+1))-S9 h%(t.mask+1))<=t.mask;unfold E9;split<;>omega
theorem AF {T0 T':T6}{E:G7->T5}{j:G7}(em:T0.mask=T'.mask)(f: ∀y,y<=T0.mask->E y=false->T'.slot y≠ .empty)(w:SL T0 E h j):Way T' h j:=by
 obtain⟨n,a,b⟩:=w;refine⟨n,by rw [<-yw em,<-yj em];exact a,λm hm=> ?_⟩;rw [<-yw em,<-yj em];exact f _ (Uc m _ (Vc T0 h)) (b m hm)
theorem Fi {mask finger moves:G7}{led plain:T5}{hashes:S6 D3}(hN:mask+1=2^n)(h7:7<=mask)(room:hashes.size<=mask): ∃t' order,pR mask finger moves led plain hashes=some (t',order)/\t'.mask=mask/\t'.led=led/\t'.plain=plain/\order.toList.Perm (R4 hashes.size)/\Laid t' (order.toList.map λi=>hashes.toList.getD i 0):=by
 obtain⟨T0,hm⟩: ∃T0:T6,T0.mask=mask:=⟨{uW 0 0 true with mask:=mask},rfl⟩;subst hm;obtain⟨owner,ho,own⟩:=Fh (t:=T0) (hashes:=hashes) hN room;unfold pR;rw [ho];refine⟨_,_,rfl,rfl,rfl,rfl,?_⟩;generalize hl:((R4 (T0.mask+1)).filterMap λj=>(owner.getD j none).map (j,·))=live;have osz:owner.size=T0.mask+1:=own.size;have mem: ∀x i:G7,(x,i)∈live↔owner[x]? =some (some i):=λx i=>by
  rw [<-hl,aX];constructor
  ·rintro ⟨j,hj,e⟩;rw [dW] at e;cases z:owner[j]? with
   |none=>rw [z] at e;cases e
   |some v=>
    rw [z] at e;cases v with
    |none=>cases e
    |some w=>cases e;exact z
  ·intro e;have lt:x<owner.size:=(O7.mp e).1;refine⟨x,S8.mpr (by omega),?_⟩;rw [dW,e];rfl
 have sub:(live.map (·.1)).Sublist (R4 (T0.mask+1)):=by rw [<-hl];exact HT.Jx _ _
 have rise:(live.map (·.1)).Pairwise (· < ·):=G0.pairwise_lt_range.sublist sub;have nd:(live.map (·.2)).Nodup:=by
  rw [nH,K6];rw [K6] at rise;refine rise.imp_of_mem λ{a b} ha hb lt e=> ?_
  have:=own.inj a.1 b.1 a.2 ((mem _ _).mp ha) (by rw [e];exact(mem _ _).mp hb);omega
 have len0:hashes.toList.length=hashes.size:=D0;have pm:(live.map (·.2)).Perm (R4 hashes.size):=by
  refine(List.perm_ext_iff_of_nodup nd mX).mpr λi=> ?_
  rw [S8];constructor
  ·intro h;obtain⟨⟨x,i'⟩,a,rfl⟩:=S4.mp h;have:=own.lt x i' ((mem _ _).mp a);omega
  ·intro h;obtain⟨x,hx⟩:=own.all i (by omega);exact S4.mpr ⟨(x,i),(mem _ _).mpr hx,rfl⟩
 have ll:live.length=hashes.size:=by have:=pm.length_eq;rwa [G6,B0] at this
 refine⟨pm,⟨n,hN⟩,h7,rfl,rise,?_,?_,λi j hj=> ?_,λi h x hh hx=> ?_⟩
 ·simp
 ·show _<=T0.mask;simp only [G6];omega
 ·have hj:(live.map (·.1))[i]? =some j:=by simpa using hj
  have:=S8.mp (sub.subset (P6 hj));show j<=T0.mask;omega
 ·have hx:(live.map (·.1))[i]? =some x:=by simpa using hx
  have hh:((live.map (·.2)).map λi=>hashes.toList.getD i 0)[i]? =some h:=hh;rw [D9] at hx;obtain⟨⟨x',i'⟩,e1,e2⟩:=A5.mp hx;have e2:x'=x:=e2;subst e2;rw [D9,D9,e1] at hh;have hh:hashes.toList.getD i' 0=h:=by injection hh
  have ow:=(mem _ _).mp (P6 e1);have lt:=own.lt _ _ ow;have hg:hashes.toList[i']? =some h:=by
   rw [<-hh,M9,P2 lt];rfl
  refine AF (T0:=T0) rfl (λy hy hb z=> ?_) (own.way _ _ _ ow hg);rw [vE rfl rise] at z;cases e:owner[y]? with
  |none=>rw [X3] at e;omega
  |some v=>
   cases v with
   |none=>rw [emO_iff.mpr e] at hb;cases hb
   |some w=>
    obtain⟨i2,h2⟩:=Z9 (S4.mpr ⟨(y,w),(mem _ _).mpr e,rfl⟩:y∈live.map (·.1));exact z i2 (by simpa using h2)
theorem Laid.stands (l:Laid t hs):t.gaveWay=false:=by
 obtain⟨k,hk⟩:=l.pow;have b:=l.big;cases k with
 |zero=>rw [iB] at hk;omega
 |succ k=>
  rw [V2] at hk;unfold G0B;refine beq_false_of_ne ?_;omega
theorem Xk: ∀ (fuel k n:G7),3<=k-> ∃m,3<=m/\bM n fuel (2^k)=2^m/\(n<2^(k+fuel)->n<2^m)
 |0,k,n,h=>⟨k,h,rfl,λz=>z⟩
 |fuel+1,k,n,h=>by
  unfold bM
  by_cases c:2^k<=n
  ·rw [R6 c,<-V2];obtain⟨m,a,b,d⟩:=Xk fuel (k+1) n (by omega);exact⟨m,a,b,λz=>d (by rw [gD,dM];exact z)⟩
  ·rw [R8 c];exact⟨k,h,rfl,λ_=>by omega⟩
theorem above (h:n<2^67): ∃m,J8 n=2^m/\n<J8 n/\8<=J8 n:=by
 obtain⟨m,a,b,c⟩:=Xk 64 3 n (by decide);have b:J8 n=2^m:=b;refine⟨m,b,by rw [b];exact c h,?_⟩;rw [b];exact cE (show 0<2 by decide) a
end L2
namespace L2
open PySem PySem.Spec PyProof.Rows HT
variable {prog:R9}{w:N4}{A:T3}{E:G1->G2->Prop}{s:G2}{a:G9}{es:S6 (D3×G1)}{ep:G7}{t:T6}
theorem Laid.fits {hs:G0 D3}(l:Laid t hs){n:G7}(e:hs.length=n):t.fits n=true:=by
 have a:=l.size;have b:=l.room;have c:=l.dum;simp only [xG,xL,H0,beq_iff_eq,X0,c];simp;omega
theorem Xl (t:T6):t.sameMemory t.moves t.mask=some true:=by
 unfold KQ;rw [R6 (W7 _)]
theorem Xm {b:G9}{Q:T5->G2->Prop}(q:Q true s):R3 (R7 prog w) A (isSame (.ref b) (.ref b)) Q E s:=by
 unfold isSame;dsimp only;rw [R6 (W7 _)];exact G8 q
variable {eqk:G7->T5}
theorem Ud {Q:SetFound->G2->Prop}{x:G1}{h:D3}{n:G7}(l:Laid t (es.toList.map (·.1)))(ho:s.heap.get? a=some (zE es ep t))
 (refs: ∀ (i:G7) (y:G1),es[i]? =some (h,y)-> ∃b,y= .ref b)
 (G0S: ∀Q':T5->G2->Prop,Q' false s->R3 (R7 prog w) A (dX x ((es.filter (·.1==h)).toList.map (·.2))) Q' E s)
 (cmp: ∀ (i:G7) (y:G1),es[i]? =some (h,y)-> ∀Q':T5->G2->Prop,Q' (eqk i) s->R3 (R7 prog w) A (bL [y] (eqBool y x)) Q' E s)
 (em:t.slot (zt t n (t.probeStart h)).j= .empty)(nb:n<10*J6 t.mask)(ne: ∀m,m<n->t.slot (zt t m (t.probeStart h)).j≠ .empty)
 (free:(∀m i,m<n->t.slot (zt t m (t.probeStart h)).j= .live i->(es[i]?.map (·.1)).getD 0=h->eqk i=false)->Q (.free (zt t n (t.probeStart h)).j false) s)
 (there: ∀ (i:G7) (y:G1),es[i]? =some (h,y)->eqk i=true->Q (.there none) s):
 ∀ (r k fuel:G7) (stand:P4 U5),k+r=n->r<fuel->stand.getD (t.probeStart h)=zt t k (t.probeStart h)->(∀m i,m<k->t.slot (zt t m (t.probeStart h)).j= .live i->(es[i]?.map (·.1)).getD 0=h->eqk i=false)->
  R3 (R7 prog w) A (xM a x h true fuel stand) Q E s:=by
 intro r
 induction r using G7.strongRecOn with
 |ind r ih=>
 intro k fuel stand kr rf st old;obtain⟨fuel,rfl⟩: ∃f,fuel=f+1:=⟨fuel-1,by omega⟩;have fit:t.fits es.size=true:=l.fits (by rw [G6,D0]);unfold xM;refine wpAny_bind (A0 ho rfl fit ?_);dsimp only;rw [l.stands];simp only [A3,↓reduceIte];have ad: ∀m,zt t m (zt t k (t.probeStart h))=zt t (k+m) (t.probeStart h):=λm=>(vD t k m _).symm
 have dn: ∀ (m:G7) (p:U5),p.dummy=none->(zt t m p).dummy=none:=λm=>by
  induction m with
  |zero=>exact λp hp=>hp
  |succ m ihm=>exact λp hp=>ihm _ (by unfold Y8;split<;>exact hp)
 have out:=NL (f:=λi=>(es[i]?.map (·.1)).getD 0) (h:=h) l.dum r (10*J6 t.mask) (zt t k (t.probeStart h)) (by omega) (by rw [ad,kr];exact em) (λm hm=>by rw [ad];exact ne _ (by omega)) (dn _ _ rfl);have e0:t.probe (λi=>(es[i]?.map (·.1)).getD 0) h (stand.getD (t.probeStart h))=U0 t (λi=>(es[i]?.map (·.1)).getD 0) h (10*J6 t.mask) (zt t k (t.probeStart h)):=by rw [st];rfl
 rw [<-e0] at out;split
 ·rename_i met hmet;have hmet:t.probe (λi=>(es[i]?.map (·.1)).getD 0) h (stand.getD (t.probeStart h))=some met:=hmet;rw [hmet] at out;rcases out with ⟨e,no⟩|⟨m,i,mr,sl,hi,no,e⟩
  ·injection e with e
   subst e;dsimp only;refine G8 ?_;rw [ad,kr];refine free λm i hm sl hi=> ?_
   rcases K1 m k with z|z
   ·exact old m i z sl hi
   ·refine absurd hi (no (m-k) (by omega) i ?_);rw [ad,K2 z];exact sl
  ·injection e with e
   subst e;dsimp only;obtain⟨y,ei⟩: ∃y,es[i]? =some (h,y):=by
    obtain⟨lt,_⟩:=O7.mp (Dh sl);have sz:i<es.size:=by have:=l.size;rw [G6,D0] at this;omega
    rw [Y0 sz] at hi ⊢;have hi:es[i].1=h:=hi;exact⟨es[i].2,by rw [<-hi]⟩
   cases hl:t.led
   ·simp only [u0,↓reduceIte];refine wpAny_bind (G0S _ ?_);simp only [A3,↓reduceIte];rw [ei];dsimp only;refine wpAny_bind (cmp i y ei _ ?_);refine wpAny_bind (A0 ho rfl fit ?_);dsimp only;cases ek:eqk i with
    |true=>simp only [mJ,↓reduceIte];exact G8 (there i y ei ek)
    |false=>
     simp only [g8,A3,↓reduceIte,Xl,sl,ei];obtain⟨b,rfl⟩:=refs i y ei;refine wpAny_bind (Xm ?_);refine wpAny_bind (G8 ?_);simp only [↓reduceIte];refine ih (r-(m+1)) (by omega) (k+(m+1)) fuel (some _) (by omega) (by omega) (by show zt t (m+1) _=_;rw [ad]) (λm' i' hm' sl' hi'=> ?_);rcases K1 m' k with z|z
     ·exact old m' i' z sl' hi'
     ·have e1:zt t m' (t.probeStart h)=zt t (m'-k) (zt t k (t.probeStart h)):=by rw [ad,K2 z]
      rw [e1] at sl';rcases K1 (m'-k) m with y|y
      ·exact absurd hi' (no (m'-k) y i' sl')
      ·have e2:m'-k=m:=by omega
       rw [e2,sl] at sl';injection sl' with sl'
       rw [<-sl'];exact ek
   ·simp only [xN,A3,↓reduceIte];rw [ei];dsimp only;refine wpAny_bind (cmp i y ei _ ?_);refine wpAny_bind (A0 ho rfl fit ?_);dsimp only;cases ek:eqk i with
    |true=>simp only [mJ,↓reduceIte];exact G8 (there i y ei ek)
    |false=>
     simp only [g8,A3,↓reduceIte,Xl,sl,ei];obtain⟨b,rfl⟩:=refs i y ei;refine wpAny_bind (Xm ?_);refine wpAny_bind (G8 ?_);simp only [↓reduceIte];refine ih (r-(m+1)) (by omega) (k+(m+1)) fuel (some _) (by omega) (by omega) (by show zt t (m+1) _=_;rw [ad]) (λm' i' hm' sl' hi'=> ?_);rcases K1 m' k with z|z
     ·exact old m' i' z sl' hi'
     ·have e1:zt t m' (t.probeStart h)=zt t (m'-k) (zt t k (t.probeStart h)):=by rw [ad,K2 z]
      rw [e1] at sl';rcases K1 (m'-k) m with y|y
      ·exact absurd hi' (no (m'-k) y i' sl')
      ·have e2:m'-k=m:=by omega
       rw [e2,sl] at sl';injection sl' with sl'
       rw [<-sl'];exact ek
 ·rename_i hmet;rcases out with ⟨e,_⟩|⟨_,_,_,_,_,_,e⟩<;>exact(hmet _ e).elim
theorem Qg {Q:SetFound->G2->Prop}{x:G1}{h:D3}(l:Laid t (es.toList.map (·.1)))(few:t.mask<=9000)(ho:s.heap.get? a=some (zE es ep t))
 (refs: ∀ (i:G7) (y:G1),es[i]? =some (h,y)-> ∃b,y= .ref b)
 (G0S: ∀Q':T5->G2->Prop,Q' false s->R3 (R7 prog w) A (dX x ((es.filter (·.1==h)).toList.map (·.2))) Q' E s)
 (cmp: ∀ (i:G7) (y:G1),es[i]? =some (h,y)-> ∀Q':T5->G2->Prop,Q' (eqk i) s->R3 (R7 prog w) A (bL [y] (eqBool y x)) Q' E s)
 (free: ∀j,(∀ (i:G7) (y:G1),es[i]? =some (h,y)->eqk i=false)->t.slot j= .empty->j<=t.mask->Way t h j->Q (.free j false) s)
 (there: ∀ (i:G7) (y:G1),es[i]? =some (h,y)->eqk i=true->Q (.there none) s):R3 (R7 prog w) A (setSearch a x h true) Q E s:=by
 obtain⟨n,nb,em,ne,met⟩:=l.search h;refine Ud l ho refs G0S cmp em nb ne (λal=>free _ (λi y e=> ?_) em (Uc n _ (Vc t h)) ⟨n,rfl,ne⟩) there n 0 100000 none (Q9 n) (by unfold J6 at nb;omega) rfl (λm i hm=>absurd hm (aN _));have e1:(es.toList.map (·.1))[i]? =some h:=by
  rw [D9,M6,e];rfl
 obtain⟨m,hm,sl⟩:=met i e1;exact al m i hm sl (by rw [e];rfl)
theorem Laid.plain {hs:G0 D3}(l:Laid t hs)(b:T5):Laid {t with plain:=b} hs:=
 ⟨l.pow,l.big,l.dum,l.rise,l.size,l.room,l.low,λi h j x y=>Way.more (t:=t) (u:= {t with plain:=b}) rfl (λ_ z=>z) (l.way i h j x y)⟩
theorem Qh (es:S6 (D3×G1))(h:D3)(x:G1)(p:G7):(X2 es p (h,x)).toList.map (·.1)=(es.toList.map (·.1)).take p++h::(es.toList.map (·.1)).drop p:=by
 rw [fT,B3,C6,xC,xD]
theorem Xn: ∀ (fuel k n:G7),bM n fuel (2^k)<=2^k\/bM n fuel (2^k)<=2*n
 |0,k,n=> .inl (P3 _)
 |fuel+1,k,n=>by
  unfold bM
  by_cases c:2^k<=n
  ·rw [R6 c,<-V2];rcases Xn fuel (k+1) n with z|z
   ·refine .inr (S0 z ?_);rw [V2];omega
   ·exact .inr z
  ·rw [R8 c];exact .inl (P3 _)
theorem Ue {hashes:S6 D3}{w:G7}(hw:hashes.size<=w)(few:w<=40000):J8 w<=80008/\ ∃t' order,t.relaid hashes w=some (t',order)/\t'.led=t.led/\w<=t'.mask/\t'.mask<=2*w+8/\order.toList.Perm (R4 hashes.size)/\Laid t' (order.toList.map λi=>hashes.toList.getD i 0):=by
 obtain⟨m,a,b,c⟩:=above (n:=w) (by omega);have u:J8 w<=8\/J8 w<=2*w:=Xn 64 3 w;refine⟨by omega,?_⟩;obtain⟨t',order,x,mk,y,z,p,q⟩:=Fi (mask:=J8 w-1) (finger:=t.finger) (moves:=t.movedTo (J8 w-1)) (led:=t.led) (plain:=t.plain) (hashes:=hashes) (n:=m) (by rw [<-a];omega) (by omega) (by omega);exact⟨t',order,x,y,by rw [mk];omega,by rw [mk];omega,p,q⟩
theorem Dl {Q:Unit->G2->Prop}{wd:G7}(l:Laid t (es.toList.map (·.1)))(ho:s.heap.get? a=some (zE es ep t))(hw:es.size<=wd)(few:wd<=40000)
 (k: ∀es' t' h',es'.toList.Perm es.toList->Laid t' (es'.toList.map (·.1))->t'.led=t.led->wd<=t'.mask->t'.mask<=2*wd+8->h'.get? a=some (zE es' (ep+1) t')->L9 a s.heap h'->Q () {s with heap:=h'}):R3 (R7 prog w) A (KL a wd) Q E s:=by
 have fit:t.fits es.size=true:=l.fits (by rw [G6,D0]);obtain⟨up,t',order,er,ld,m1,m2,pm,l'⟩:=Ue (t:=t) (hashes:=es.map (·.1)) (w:=wd) (by rw [u3];exact hw) few;unfold KL;refine wpAny_bind (A0 ho rfl fit ?_);dsimp only;rw [er];have sl: ¬J8 wd>sizeLine:=cY.mpr (S0 up (by decide));simp only [sl,↓reduceIte];have fe: ∀l:G0 G7,(∀i∈l,i<es.size)->l.filterMap (λi=>es[i]?)=l.map (λi=>es.toList.getD i (0,.none)):=λl=>by
  induction l with
  |nil=>exact λ_=>rfl
  |cons i l ih=>
   intro h;have hi:=h i P7;have e:es[i]? =some (es.toList.getD i (0,.none)):=by
    rw [M9,M6,Y0 hi];rfl
   rw [List.filterMap_cons_some e,C6,ih λx hx=>h x (D1 _ hx)]
 rw [u3] at pm;have lt: ∀i∈order.toList,i<es.size:=λi hi=>S8.mp (pm.mem_iff.mp hi)
 have e1:(order.filterMap (es[·]?)).toList=order.toList.map (λi=>es.toList.getD i (0,.none)):=by
  rw [Array.toList_filterMap];exact fe _ lt
 have e2:es.toList=(R4 es.size).map (λi=>es.toList.getD i (0,.none)):=by
  have:=zU es.toList (0,(.none:G1))
  rwa [D0] at this
 have pe:(order.filterMap (es[·]?)).toList.Perm es.toList:=by
  have:=pm.map (λi=>es.toList.getD i (0,.none));rw [<-e2] at this;rw [e1];exact this
 have sz:(order.filterMap (es[·]?)).size=es.size:=by have:=pe.length_eq;rwa [D0,D0] at this
 have hh:(order.filterMap (es[·]?)).toList.map (·.1)=order.toList.map λi=>(es.map (·.1)).toList.getD i 0:=by
  rw [e1,O0];refine A4 λi hi=> ?_
  show (es.toList.getD i (0,.none)).1=(es.map (·.1)).toList.getD i 0;have z:i<es.toList.length:=by rw [D0];exact lt i hi
  rw [rS,M9,M9,D9,P2 z];rfl
 rw [<-hh] at l';refine wpAny_bind ?_;show R3 _ _ (ite _ _ _) _ _ _;rw [R8 (by rw [sz];simp)];refine G8 ?_;dsimp only;exact l9 (s:=s) ho rfl (k _ t' _ pe l' ld m1 m2 (B2 _ ho rfl) (C7 ..)) (by rw [sz];exact S0 (show es.size<=40000 by omega) (by decide))
theorem Fj {Q:T5->G2->Prop}{b:G9}{h:D3}{bv:T5}{fuel:G7}(l:Laid t (es.toList.map (·.1)))(few:t.mask<=9000)(lean:es.size*5<t.mask*3)(ho:s.heap.get? a=some (zE es ep t))
 (refs: ∀ (i:G7) (y:G1),es[i]? =some (h,y)-> ∃b,y= .ref b)
 (G0S: ∀Q':T5->G2->Prop,Q' false s->R3 (R7 prog w) A (dX (.ref b) ((es.filter (·.1==h)).toList.map (·.2))) Q' E s)
 (cmp: ∀ (i:G7) (y:G1),es[i]? =some (h,y)-> ∀Q':T5->G2->Prop,Q' (eqk i) s->R3 (R7 prog w) A (bL [y] (eqBool y (.ref b))) Q' E s)
 (byv: ∀Q':T5->G2->Prop,Q' bv s->R3 (R7 prog w) A (iY 8 (.ref b)) Q' E s)
 (new:(∀ (i:G7) (y:G1),es[i]? =some (h,y)->eqk i=false)-> ∀es' ep' t' h',es'.toList.Perm (es.push (h,.ref b)).toList->Laid t' (es'.toList.map (·.1))->t'.mask<=max t.mask (8*es.size+16)->es'.size*5<t'.mask*3->t'.led=t.led->h'.get? a=some (zE es' ep' t')->L9 a s.heap h'->Q true {s with heap:=h'})
 (there: ∀ (i:G7) (y:G1),es[i]? =some (h,y)->eqk i=true->Q false s):R3 (R7 prog w) A (g6 a (.ref b) h (fuel+1)) Q E s:=by
 have fit:t.fits es.size=true:=l.fits (by rw [G6,D0]);have sz:(es.toList.map (·.1)).length=es.size:=by rw [G6,D0]
 unfold g6;refine wpAny_bind (A0 ho rfl fit ?_);dsimp only;rw [show byScan (.ref b) es=false from rfl];simp only [A3,↓reduceIte];refine wpAny_bind (Qg (eqk:=eqk) l few ho refs G0S cmp (λj no em jm wy=> ?_) (λi y e ek=> ?_))
 ·dsimp only;refine wpAny_bind (A0 ho rfl fit ?_);dsimp only;have l1:=l.put em jm wy (by rw [sz];have:=l.big;omega);have l1:=(congrArg (Laid (t.put j).1) (Qh es h (.ref b) (t.put j).2)).mpr l1;have z0:(X2 es (t.put j).2 (h,.ref b)).size=es.size+1:=by
   have:=(iC es (t.put j).2 (h,(.ref b:G1))).length_eq;rw [D0,D0,Array.size_push] at this;exact this
  have z1:(X2 es (t.put j).2 (h,.ref b)).size<=sizeLine:=by
   rw [z0];exact S0 (show es.size+1<=10000 by omega) (by decide)
  have rest: ∀t2:T6,Laid t2 ((X2 es (t.put j).2 (h,.ref b)).toList.map (·.1))->t2.led=t.led->t2.mask=t.mask->R3 (R7 prog w) A (do storeSet a (X2 es (t.put j).2 (h,.ref b)) t2;if (!false&&t2.tooFull)=true then (do KL a (aA (es.size+1));pure true) else pure true) Q E s:=λt2 l2 ld mk=>by
   refine wpAny_bind (l9 (s:=s) ho rfl ?_ z1);have o1:(s.heap.update a (iP (X2 es (t.put j).2 (h,.ref b)) t2)).get? a=some (zE (X2 es (t.put j).2 (h,.ref b)) (ep+1) t2):=B2 _ ho rfl;cases tf:t2.tooFull with
   |true=>
    simp only [u0,mJ,↓reduceIte];refine wpAny_bind (Dl (wd:=aA (es.size+1)) (ep:=ep+1) l2 o1 (by rw [z0];unfold aA;split<;>omega) (by unfold aA;split<;>omega) λes' t' h' pe l' ld' m1 m2 o2 sb=> ?_);refine G8 (new no es' (ep+1+1) t' h' (pe.trans (iC ..)) l' ?_ ?_ (ld'.trans ld) o2 (G0k (C7 ..) sb))
    ·unfold aA at m2;split at m2<;>omega
    ·have:=pe.length_eq;rw [D0,D0,z0] at this;unfold aA at m1;split at m1<;>omega
   |false=>
   simp only [g8,A3,↓reduceIte];refine G8 (new no _ (ep+1) t2 _ (iC ..) l2 (by omega) ?_ ld (B2 _ ho rfl) (C7 ..));rw [z0];have s2:=l2.size;rw [G6,D0,z0] at s2;have: ¬ (t2.fill*5>=t2.mask*3):=by simpa [G0C] using tf
   have f2:t2.fill=es.size+1:=by unfold xL;rw [l2.dum,s2];rfl
   omega
  cases hp:(t.put j).1.plain
  ·simp only [A3,↓reduceIte];refine wpAny_bind (G8 ?_);simp only [↓reduceIte];exact rest (t.put j).1 l1 rfl rfl
  ·simp only [↓reduceIte];refine wpAny_bind (byv _ ?_);cases bv
   ·simp only [A3,↓reduceIte];exact rest _ (l1.plain false) rfl rfl
   ·simp only [↓reduceIte];exact rest (t.put j).1 l1 rfl rfl
 ·exact G8 (there i y e ek)
end L2
namespace L2
open PySem PySem.Spec PyProof.Rows HT
def Fk (h h':B6):Prop:= ∀ (b:G9) (o:Obj),o.cls= .type "tuple" ->h.get? b=some o->h'.get? b=some o
theorem WZ {α β:Type}{M:j0}{A:T3}{E:G1->G2->Prop}{s:G2}{f:α->β->Sem (gK β)}{r:β}{Q:β->G2->Prop}: ∀ (l:G0 α),(∀x∈l,∀Q':gK β->G2->Prop,Q' (.yield r) s->R3 M A (f x r) Q' E s)->Q r s->R3 M A (forIn l r f) Q E s
 | [],_,q=>G8 q
 |x::l,h,q=>by
  rw [dE];exact wpAny_bind (h x (.head _) _ (WZ l (λy hy=>h y (.tail _ hy)) q))
structure MemK (prog:R9)(w:N4)(K:Type)[DecidableEq K] where
 is:B6->K->G9->Prop
 hash:K->D3
 inj: ∀ {h:B6} {x y:K} {a:G9},is h x a->is h y a->x=y
 keep: ∀ {h h':B6} {x:K} {a:G9},Fk h h'->is h x a->is h' x a
 hashed: ∀ {A:T3} {E:G1->G2->Prop} {s:G2} {x:K} {a:G9} {Q:D3->G2->Prop},A.units+8<cLine->is s.heap x a->(∀tk,Q (hash x) {s with toks:=tk})->R3 (R7 prog w) A (pyHash (.ref a)) Q E s
 same: ∀ {A:T3} {E:G1->G2->Prop} {s:G2} {x y:K} {a b:G9} {Q:T5->G2->Prop},A.units+8<cLine->is s.heap x a->is s.heap y b->Q (decide (x=y)) s->R3 (R7 prog w) A (eqBool (.ref a) (.ref b)) Q E s
 quiet: ∀ {A:T3} {E:G1->G2->Prop} {s:G2} {x:K} {a:G9} {Q:T5->G2->Prop},is s.heap x a->Q true s->R3 (R7 prog w) A (eqIsQuiet 8 (.ref a)) Q E s
 cls: ∀ {A:T3} {E:G1->G2->Prop} {s:G2} {x:K} {a:G9} {Q:T5->G2->Prop},is s.heap x a->Q false s->R3 (R7 prog w) A (dY 8 (.ref a)) Q E s
 byv: ∀ {A:T3} {E:G1->G2->Prop} {s:G2} {x:K} {a:G9} {Q:T5->G2->Prop},is s.heap x a->Q true s->R3 (R7 prog w) A (iY 8 (.ref a)) Q E s
section
variable {prog:R9}{w:N4}{A:T3}{E:G1->G2->Prop}{s:G2}{K:Type}[DecidableEq K]
theorem Fl (M:MemK prog w K){x:K}{a:G9}{rL:G0 G1}{Q:T5->G2->Prop}(hx:M.is s.heap x a)(hs: ∀y∈rL,∃k b,y= .ref b/\M.is s.heap k b)(q:Q false s):R3 (R7 prog w) A (dX (.ref a) rL) Q E s:=by
 unfold dX;refine wpAny_bind (WZ rL (λy hy Q' q'=> ?_) (G8 q));obtain⟨k,b,rfl,hk⟩:=hs y hy
 by_cases c:(a==b)=true
 ·simp only [c,Bool.true_or,↓reduceIte];exact G8 q'
 ·simp only [c,show u4 (.ref a)=false from rfl,tX,v9,A3,↓reduceIte];refine wpAny_bind (M.quiet hx (wpAny_bind (M.quiet hk (wpAny_bind (M.cls hx (wpAny_bind (M.cls hk ?_)))))));exact G8 q'
structure SetT (M:MemK prog w K)(L:T5)(is:K->G9->Prop)(f:D3×G1->K)(es:S6 (D3×G1))(t:T6)(ks:G0 K):Prop where
 laid:Laid t (es.toList.map (·.1))
 led:t.led=L
 lean:es.size*5<t.mask*3
 mask:t.mask<=8*ks.length+16
 each: ∀e∈es.toList,e.1=M.hash (f e)/\ ∃b,e.2= .ref b/\is (f e) b
 nd:(es.toList.map f).Nodup
 mem: ∀k,k∈es.toList.map f↔k∈ks
theorem vF: ∀ {xs ys:G0 K},xs.Nodup->(∀x∈xs,x∈ys)->xs.length<=ys.length
 | [],_,_,_=>M7 _
 |x::xs,ys,nd,h=>by
  obtain⟨n1,n2⟩:=E6.mp nd;have le:=vF (ys:=ys.erase x) n2 λy hy=>(cH (λ(e:y=x)=>n1 (by rw [<-e];exact hy))).mpr (h y (.tail _ hy))
  rw [W1 (h x (.head _))] at le;have pos:=X1 (h x (.head _));rw [D8];omega
variable {L:T5}{is:K->G9->Prop}{f:D3×G1->K}{es:S6 (D3×G1)}{t:T6}{ks:G0 K}
theorem SetT.size {M:MemK prog w K}(S:SetT M L is f es t ks):es.size<=ks.length:=by
 have:=vF S.nd λk hk=>(S.mem k).mp hk
 rwa [G6,D0] at this
theorem SetT.tab {M:MemK prog w K}(S:SetT M L is f es t ks):Tab L es.size t:=
 ⟨S.laid.fits (by rw [G6,D0]),S.led,S.laid.dum,λ_=>S.laid.rise⟩
theorem SetT.imp {M:MemK prog w K}{is':K->G9->Prop}(S:SetT M L is f es t ks)(h: ∀k b,is k b->is' k b):SetT M L is' f es t ks:=
 ⟨S.laid,S.led,S.lean,S.mask,λe he=>by
  obtain⟨a,b,c,d⟩:=S.each e he;exact⟨a,b,c,h _ _ d⟩,S.nd,S.mem⟩
theorem Dm {M:MemK prog w K}{ep:G7}{a b:G9}{k:K}{Q:T5->G2->Prop}(hu:A.units+8<cLine)(S:SetT M L is f es t ks)(ho:s.heap.get? a=some (zE es ep t))(few:ks.length<1000)(to: ∀k b,is k b->M.is s.heap k b)(hk:is k b)
 (q: ∀r f' es' ep' t' h' tk,SetT M L is f' es' t' (k::ks)->h'.get? a=some (zE es' ep' t')->L9 a s.heap h'->Q r {s with heap:=h',toks:=tk}):R3 (R7 prog w) A (setAdd a (.ref b)) Q E s:=by
 refine L5 (wpAny_bind (M.hashed hu (to _ _ hk) λtk=>L5 ?_));show R3 _ _ (g6 a (.ref b) (M.hash k) (99999+1)) _ _ _;have at_: ∀ (i:G7) (y:G1),es[i]? =some (M.hash k,y)->(M.hash k,y)∈es.toList:=λi y e=>by
  rw [<-M6] at e;exact P6 e
 refine Fj (s:= {s with toks:=tk}) (eqk:=λi=>match es[i]? with
  |some e=>decide (f e=k)
  |none=>false) (bv:=true) S.laid (S0 S.mask (by omega)) S.lean ho (λi y e=> ?_) (λQ' q'=> ?_) (λi y e Q' q'=> ?_) (λQ' q'=>M.byv (to _ _ hk) q') (λno es' ep' t' h' pe l' mk ln ld o' sb=> ?_) (λi y e ek=> ?_)
 ·obtain⟨_,c,d,_⟩:=S.each _ (at_ i y e);exact⟨c,d⟩
 ·refine Fl M (to _ _ hk) (λy hy=> ?_) q';obtain⟨e,he,rfl⟩:=S4.mp hy;obtain⟨_,c,d,i⟩:=S.each e (by rw [Array.toList_filter] at he;exact(C8.mp he).1);exact⟨_,c,d,to _ _ i⟩
 ·obtain⟨_,c,d,i'⟩:=S.each _ (at_ i y e);have d:y= .ref c:=d;subst d;simp only [e] at q';exact L5 (M.same hu (to _ _ i') (to _ _ hk) q')
 ·have kn:k ∉ ks:=λz=>by
   obtain⟨e,he,fe⟩:=S4.mp ((S.mem k).mpr z);obtain⟨i,hi⟩:=Z9 he;obtain⟨e1,e2⟩:=e;have h1:=(S.each _ he).1;rw [fe] at h1;have h1:e1=M.hash k:=h1;subst h1;have hi:es[i]? =some (M.hash k,e2):=by rw [<-M6];exact hi
   have:=no i e2 hi;simp only [hi,fe,KM] at this;cases this
  have same: ∀e∈es.toList,(if e=(M.hash k,.ref b) then k else f e)=f e:=λe he=>by
   by_cases c:e=(M.hash k,.ref b)
   ·rw [R6 c];obtain⟨_,c',d,i⟩:=S.each e he;rw [c] at d;cases d;exact M.inj (to _ _ hk) (to _ _ i)
   ·rw [R8 c]
  have me:(es.toList.map λe=>if e=(M.hash k,.ref b) then k else f e)=es.toList.map f:=A4 same;have pk:=pe.map λe=>if e=(M.hash k,.ref b) then k else f e
  rw [U1,B3,me] at pk;have one:(iW (λe=>if e=(M.hash k,.ref b) then k else f e) [(M.hash k,.ref b)])= [k]:=by simp
  rw [one] at pk;have sz:=S.size;refine q true (λe=>if e=(M.hash k,.ref b) then k else f e) es' ep' t' h' tk ⟨l',ld.trans S.led,ln,?_,λe he=> ?_,pk.nodup_iff.mpr ?_,λm=>pk.mem_iff.trans ?_⟩ o' sb
  ·have:=S.mask;rw [D8];omega
  ·have z:=pe.mem_iff.mp he;rw [U1] at z;rcases T8.mp z with z|z
   ·rw [same e z];exact S.each e z
   ·have z:=P1.mp z;subst z;rw [R6 rfl];exact⟨rfl,b,rfl,hk⟩
  ·rw [cI];refine⟨S.nd,by simp,λx hx y hy e=> ?_⟩;have:y=k:=by simpa using hy
   subst this;subst e;exact kn ((S.mem _).mp hx)
  ·rw [T8,S.mem m,P1,D2,or_comm]
 ·have hin:k∈ks:=by
   simp only [e,X0] at ek;rw [<-ek];exact(S.mem _).mp (Q6 (at_ i y e))
  refine q false f es ep t s.heap tk ⟨S.laid,S.led,S.lean,?_,S.each,S.nd,λm=>(S.mem m).trans ?_⟩ ho (cC _ _)
  ·have:=S.mask;rw [D8];omega
  ·rw [D2];exact⟨.inr,λz=>z.elim (λe=>e ▸ hin) id⟩
end
section
variable {prog:R9}{w:N4}{A:T3}{E:G1->G2->Prop}{s:G2}
theorem Fm (n:G7){v:G1}(h:u4 v=true):dY n v=pure false:=by
 cases v<;>first|(cases h;done)|simp [dY]
theorem AG {n:D3}{v:G1}(h:(intKind prog w).is n v=true): ∃tk,v= .int n tk:=by
 cases v<;>simp [intKind,dZ] at h;exact⟨_,by rw [h]⟩
theorem Qi {ks:G0 D3}{vs:G0 G1}(h:ItemsAre (intKind prog w) ks vs): ∀v∈vs,∃n tk,v= .int n tk:=by
 induction h with
 |nil=>exact λv hv=>absurd hv F4
 |cons h1 _ ih=>
  intro v hv;rcases D2.mp hv with rfl|hv
  ·obtain⟨tk,e⟩:=AG h1;exact⟨_,tk,e⟩
  ·exact ih v hv
theorem Fn (d:G7){x:G0 D3}{a:G9}{Q:T5->G2->Prop}:u5 (intKind prog w) s.heap x a->Q false s->R3 (R7 prog w) A (dY (d+1) (.ref a)) Q E s
 |⟨_,_,_,ho,hc,hd,hi⟩,q=>by
  unfold dY;refine wpAny_bind (m8 (T:= "tuple") ⟨_,ho,hc⟩ ?_);simp only [W7,↓reduceIte,pure_bind,xN,A3];refine wpAny_bind (iA ho hd (wpAny_bind ?_));simp only [<-k8];refine WZ _ (λv hv Q' q'=> ?_) (G8 q);rw [Fm d (hi.byValue v hv)];exact G8 q'
theorem Fo (d:G7)(m:D3)(tk:Tok):iY d (.int m tk)=pure true:=by cases d<;>rfl
theorem Fp (d:G7){x:G0 D3}{a:G9}{Q:T5->G2->Prop}:u5 (intKind prog w) s.heap x a->Q true s->R3 (R7 prog w) A (iY (d+1) (.ref a)) Q E s
 |⟨_,_,_,ho,hc,hd,hi⟩,q=>by
  unfold iY;refine wpAny_bind (sW (T:= "tuple") ⟨_,ho,hc⟩ F.slot_tuple_hash.lookup ?_);refine wpAny_bind (iA ho hd (wpAny_bind ?_));simp only [rM,<-k8];refine WZ _ (λv hv Q' q'=> ?_) (G8 q);obtain⟨m,tk,rfl⟩:=Qi hi v hv;rw [Fo];exact G8 q'
def SM (prog:R9)(w:N4):MemK prog w (G0 D3) where
 is:=λh x a=>u5 (intKind prog w) h x a
 hash:=tupleKeyHash (intKind prog w)
 inj:=λhx hy=>hx.inj hy
 keep:=λk ⟨o,items,n,ho,hc,hd,hi⟩=>⟨o,items,n,k _ o hc ho,hc,hd,hi⟩
 hashed:=λhu hk q=>wpAny_pyHash_tuple (by omega) hk (q _)
 same:=λhu hx hy q=>wpAny_eqBool_tuple (by omega) hx hy q
 quiet:=λhk q=>wpAny_eqIsQuiet_tuple hk q
 cls:=λhk q=>Fn 7 hk q
 byv:=λhk q=>Fp 7 hk q
end
end L2
namespace L2
open PySem PySem.Spec PyProof.Rows HT PySem.SeqAt
section
variable {prog:R9}{w:N4}{A:T3}{E:G1->G2->Prop}{a I:G9}{fp wr:G0 G9}{n:G7}{P:G7->G1->Prop}{St:G7->B6->Prop}{K:Type}[DecidableEq K]{M:MemK prog w K}{L:T5}{is:K->G9->Prop}{key:G7->K}
theorem Jb {R:oH->G2->Prop}(hu:A.units+16<cLine)(W:Walks prog w A.in1 I fp wr n P St)(num: ∀i v,P i v-> ∃b,v= .ref b/\is (key i) b)(na:a ∉ fp)(few:n<1000)(nt: ∀i h,St i h-> ∀b∈wr,∀o,h.get? b=some o->o.cls≠ .type "tuple"):
 ∀ (k i:G7) (s:G2) (f:D3×G1->K) (es:S6 (D3×G1)) (ep:G7) (t:T6),i+k=n->St i s.heap->s.heap.get? a=some (zE es ep t)->(∀k b,is k b->M.is s.heap k b)->SetT M L is f es t ((R4 i).map key).reverse->
  (∀h' tk f' es' ep' t',h'.get? a=some (zE es' ep' t')->SetT M L is f' es' t' ((R4 n).map key).reverse->(∀b o,b≠a->b ∉ wr->s.heap.get? b=some o->h'.get? b=some o)->R (.ok (.ret .none)) {s with heap:=h',toks:=tk})->
  bX (R7 prog w) A (.builtin "set.update.loop" ⟨[.ref a,.ref I],[]⟩) R s
 |0,i,s,f,es,ep,t,hk,st,ha,to,S,q=>by
  obtain rfl:i=n:=by omega
  refine E2 vt ?_;rw [O8 wJ];exact wpAny_bind (W.done s _ _ st λh' tk kept=>G8 (q h' tk f es ep t (kept _ _ (λz=>na (W.sub _ z)) ha) S λb o _ nb e=>kept b o nb e))
 |k+1,i,s,f,es,ep,t,hk,st,ha,to,S,q=>by
  refine E2 vt ?_;rw [O8 wJ];refine wpAny_bind (W.item i s _ _ (by omega) st λv h1 tk1 pv st1 kept1=> ?_);obtain⟨b,rfl,hb⟩:=num i v pv;have ha1:=kept1 _ _ (λz=>na (W.sub _ z)) ha;have to1: ∀k b,is k b->M.is h1 k b:=λk b z=>M.keep (λc o hc e=>kept1 c o (λm=>nt i _ st c m o e hc) e) (to k b z)
  refine wpAny_bind (L5 (Dm (s:= {s with heap:=h1,toks:=tk1}) (show A.units+1+8<cLine by omega) S ha1 (by simp;omega) to1 hb λr f2 es2 ep2 t2 h2 tk2 S2 ha2 same2=>G8 ⟨W2 wJ _,?_⟩));have S3:SetT M L is f2 es2 t2 ((R4 (i+1)).map key).reverse:=by
   rw [U7,B3,pG];exact S2
  have kep: ∀c o,o.cls= .type "tuple" ->h1.get? c=some o->h2.get? c=some o:=λc o hc e=>same2.extBut _ _ (λz=>by
   subst z;rw [show h1.get? c=some (zE es ep t) from ha1] at e;cases e;exact absurd (show V4 "set" =V4 "tuple" from hc) (by decide)) e
  refine Jb hu W num na few nt k (i+1) {s with heap:=h2,toks:=tk2} f2 es2 ep2 t2 (by omega) (W.frame _ _ _ st1 λb hb o e=>same2.extBut _ _ (λz=>na (z ▸ hb)) e) ha2 (λk b z=>M.keep kep (to1 k b z)) S3 λh' tk' f' es' ep' t' ha' S' kept'=> ?_
  exact q h' tk' f' es' ep' t' ha' S' λb o ba bw e=>kept' b o ba bw (same2.extBut _ _ ba (kept1 b o bw e))
theorem Xo (L:T5)(f:D3×G1->K):SetT M L is f #[] (.fresh 0 0 L) []:=⟨Qf 0 0 L,rfl,(by show 0*5<7*3;decide),(by show 7<=8*0+16;decide),λe he=>absurd he (by simp),by simp,λk=>by simp⟩
variable {s:G2}
theorem Do {l:G9}{vs:G0 G1}{ep:G7}{T:U2}{Q:P4 G1->G2->Prop}(hu:A.units+32<cLine)(calm:A.handled=none)(hT:T= "list" \/T= "tuple")
 (hl: ∃o,s.heap.get? l=some o/\o.cls= .type T/\ ∃c,o.data= .seq vs.toArray c)(hM: ∀i v,vs[i]? =some v-> ∃b,v= .ref b/\is (key i) b)(to: ∀k b,is k b->M.is s.heap k b)(few:vs.length<1000)(ha:s.heap.get? a=some (zE #[] ep (.fresh 0 0 (jW w))))(la:l≠a)
 (k: ∀h' tk f' es' ep' t',h'.get? a=some (zE es' ep' t')->SetT M (jW w) is f' es' t' ((R4 vs.length).map key).reverse->(∀b o,b≠a->s.heap.get? b=some o->h'.get? b=some o)->Q (some .none) {s with heap:=h',toks:=tk}):
 R3 (R7 prog w) A (nG (.ref a) "__init__" [.ref l]) Q E s:=by
 have ty:s.TypeIs (.ref a) "set" :=⟨_,ha,rfl⟩;refine E4 ty F.called_set.init (aY (W8 F.called_set.init.plain yD (vw ty ?_)));have f1:=Ji;have f2:=Jj;have f3:=Zq;have f4:=Zr;obtain⟨⟨oc,od,odt,osl⟩,hol,hc,c,hd⟩:=hl;simp only at hc hd;subst hc hd;have state:=λ{P:S6 (D3×G1)×G7×T6->G2->Prop} {E':G1->G2->Prop} {A':T3}=>A0 (prog:=prog) (w:=w) (A:=A') (E:=E') (Q:=P) (s:=s) ha rfl (Jz (jW w)).tab.fits
 have far:a≠s.heap.objs.size:=λz=>N7 _ (z ▸ P9 ha)
 have lfar:l≠s.heap.objs.size:=λz=>N7 _ (z ▸ P9 hol)
 have na:a ∉ [s.heap.objs.size,l]:=by simp [far,la.symm]
 have sv:vs.toArray.size=vs.length:=R5 ..;have fin: ∀ {o:Obj} h' tk f' es' ep' t',h'.get? a=some (zE es' ep' t')->SetT M (jW w) is f' es' t' ((R4 vs.toArray.size).map key).reverse->(∀b ob,b≠a->b ∉ [s.heap.objs.size]->(s.heap.push o).get? b=some ob->h'.get? b=some ob)->Q (some .none) {s with heap:=h',toks:=tk}:=λh' tk f' es' ep' t' e S kept=>by
  rw [sv] at S;exact k h' tk f' es' ep' t' e S λb ob nb q=>kept b ob nb (λz=>N7 _ (P1.mp z ▸ P9 q)) (G3 _ q)
 have to1: ∀ (o:Obj) (k:K) (b:G9),is k b->M.is (s.heap.push o) k b:=λo k b z=>M.keep (λc ob hc e=>G3 _ e) (to k b z)
 rcases hT with rfl|rfl
 ·have tl:s.TypeIs (.ref l) "list" :=⟨_,hol,rfl⟩;have isl:s.heap.IsList l vs.toArray:=⟨_,hol,rfl,c,rfl⟩
  wp_walk using state,V7 isl
  refine Jb (f:=λ_=>key 0) (M:=M) (is:=is) (key:=key) (show A.units+1+16<cLine by omega) (iO (prog:=prog) (w:=w) (A:=A.in1.in1) calm s.heap.objs.size l lfar vs.toArray) (λi v hv=>hM i v (by simpa using hv)) na (by rw [sv];exact few) (λi h st b hb o e=> ?_) vs.toArray.size 0 _ #[] ep _ (Q9 _) ⟨⟨_,R1 _ rfl,rfl,rfl⟩,⟨_,G3 _ hol,rfl,c,rfl⟩⟩ (G3 _ ha) (to1 _) (Xo _ _) λh' tk f' es' ep' t' e S kept=>G8 (G8 (fin h' tk f' es' ep' t' e S kept))
  obtain⟨⟨o',e',c',_⟩,_⟩:=st;rw [P1.mp hb,e'] at e;cases e;rw [c'];decide
 ·have tl:s.TypeIs (.ref l) "tuple" :=⟨_,hol,rfl⟩;have isl:s.heap.IsTuple l vs.toArray:=⟨_,hol,rfl,c,rfl⟩
  wp_walk using state,Y5 isl
  refine Jb (f:=λ_=>key 0) (M:=M) (is:=is) (key:=key) (show A.units+1+16<cLine by omega) (sH (prog:=prog) (w:=w) (A:=A.in1.in1) calm s.heap.objs.size l lfar vs.toArray) (λi v hv=>hM i v (by simpa using hv)) na (by rw [sv];exact few) (λi h st b hb o e=> ?_) vs.toArray.size 0 _ #[] ep _ (Q9 _) ⟨⟨_,R1 _ rfl,rfl,rfl⟩,⟨_,G3 _ hol,rfl,c,rfl⟩⟩ (G3 _ ha) (to1 _) (Xo _ _) λh' tk f' es' ep' t' e S kept=>G8 (G8 (fin h' tk f' es' ep' t' e S kept))
  obtain⟨⟨o',e',c',_⟩,_⟩:=st;rw [P1.mp hb,e'] at e;cases e;rw [c'];decide
theorem MP {l:G9}{vs:G0 G1}{T:U2}{Q:G1->G2->Prop}(hu:A.units+40<cLine)(calm:A.handled=none)(hT:T= "list" \/T= "tuple")
 (hl: ∃o,s.heap.get? l=some o/\o.cls= .type T/\ ∃c,o.data= .seq vs.toArray c)(hM: ∀i v,vs[i]? =some v-> ∃b,v= .ref b/\is (key i) b)(to: ∀k b,is k b->M.is s.heap k b)(few:vs.length<1000)
 (k: ∀h' tk f' es' ep' t',h'.get? s.heap.objs.size=some (zE es' ep' t')->SetT M (jW w) is f' es' t' ((R4 vs.length).map key).reverse->(∀b o,s.heap.get? b=some o->h'.get? b=some o)->Q (.ref s.heap.objs.size) {s with heap:=h',toks:=tk}):
 R3 (R7 prog w) A (call (.type "set") [.ref l]) Q E s:=by
 have fits:pP "set" ⟨[.ref l],[]⟩=pure ():=by kernel_rfl
 have newFits:cR "set.__new__" ⟨[.type "set",.ref l],[]⟩=pure ():=by kernel_rfl
 obtain⟨o,hol,r⟩:=hl;refine L2.yQ (Made:=λv s₁=>v= .ref s.heap.objs.size/\s₁= {s with heap:=s.heap.push (zE #[] 0 (.fresh 0 0 (jW w)))}) z8 fits
  (aY (W8 F.called_set.plain sT (oR newFits (UO ⟨rfl,rfl⟩)))) λv s₁ ⟨ev,es⟩=> ?_
 subst ev es;have at_:(s.heap.push (zE #[] 0 (.fresh 0 0 (jW w)))).get? s.heap.objs.size=some (zE #[] 0 (.fresh 0 0 (jW w))):=R1 _ rfl;refine⟨⟨_,at_,rfl⟩,Do (s:= {s with heap:=s.heap.push (zE #[] 0 (.fresh 0 0 (jW w)))}) (M:=M) (is:=is) (key:=key) (show A.units+1+32<cLine by omega) calm hT ⟨o,G3 _ hol,r⟩ hM (λk b z=>M.keep (λc o hc e=>G3 _ e) (to k b z)) few at_ (λz=>N7 _ (z ▸ P9 hol)) λh' tk f' es' ep' t' e S kept=>⟨rfl,k h' tk f' es' ep' t' e S λb ob q=>kept b ob (λz=>N7 _ (z ▸ P9 q)) (G3 _ q)⟩⟩
theorem Uf {es:S6 (D3×G1)}{ep:G7}{t:T6}{Q:G1->G2->Prop}(hu:A.in1.in1.units<cLine)(calm:A.handled=none)(S:Tab (jW w) es.size t)(ha:s.heap.get? a=some (zE es ep t))(few:es.size<1000)(x: ∀e∈es.toList,∃ns,IT s.heap e.2 ns)
 (k: ∀ (h1 h':B6) d (tk c:G7) (out:G0 G1),vZ s.heap h1->vZ h1 h'->h'.get? h1.objs.size=some (hJ "list" out.toArray c)->out.Perm (es.toList.map (·.2))->out.Pairwise (λx y=>HT.ju (jY s.heap y) (jY s.heap x)=false)->
  Q (.ref h1.objs.size) {s with heap:=h',drawn:=d,toks:=tk}):R3 (R7 prog w) A (call (.builtin "sorted") [.ref a]) Q E s:=by
 refine lJ IY z9 HX (HY _) (wpAny_bind (G8 (wpAny_bind (wpAny_bind (uS (bY (Wo calm S ha few) λres s' listed=> ?_))))));obtain⟨h1,d,tk,acc,c0,rfl,rfl,made,kept,p⟩:=listed;refine wpAny_bind (pV made (G8 ?_));have len:acc.toList.length=es.size:=by rw [p.length_eq,G6,D0]
 have hz:acc.toList.length<=sizeLine:=by rw [len];exact S0 (T4 few) (by decide)
 have fresh:(h1.push (hJ "list" acc.toList.toArray 0)).get? h1.objs.size=some (hJ "list" acc.toList.toArray 0):=R1 _ rfl;have kp: ∀h',FN {s with heap:=h1.push (hJ "list" acc.toList.toArray 0),drawn:=d,toks:=tk} h1.objs.size h'->vZ h1 h':=λh' p b x e=>p b x (M0 (P9 e)) (G3 _ e)
 have ks: ∀h',FN {s with heap:=h1.push (hJ "list" acc.toList.toArray 0),drawn:=d,toks:=tk} h1.objs.size h'->vZ s.heap h':=λh' p b x e=>kp h' p b x (kept b x e)
 have it: ∀v∈acc.toList,∃ns,IT s.heap v ns:=λv hv=>by
  obtain⟨e,he,rfl⟩:=S4.mp (p.mem_iff.mp hv);exact x e he
 refine wpAny_bind (pS (wpAny_bind (L5 (E7 uU ⟨_,fresh,rfl⟩ sZ (Mz (s:= {s with heap:=h1.push (hJ "list" acc.toList.toArray 0),drawn:=d,toks:=tk}) (κ:=PJ s.heap acc.toList) (U:=λx=> ∃ns,IT s.heap x.1 ns) (R:=λx y=>HT.ju (jY s.heap x.1) (jY s.heap y.1)) fresh hz
  (λh2 h' p=>PK (s:= {s with heap:=h',drawn:=d,toks:=tk}) h2 it (ks h' p) ⟨rfl,tk,rfl⟩) (λh' p=>PL (s:= {s with drawn:=d}) hu (ks h' p)) (PH _) it λout c tk' h' p' e1 e2 e3=>⟨_,rfl,?_⟩) (uV _)))) hz)
 refine G8 ⟨_,rfl,k h1 h' d tk' c out kept (kp h' p') e1 (e2.trans p) ?_⟩;rw [K6] at e3;exact e3
end
theorem Ws {prog:R9}{w:N4}: ∀ {vs:G0 G1} {ns:G0 D3},W9 vs ns->ItemsAre (intKind prog w) ns vs
 |_,_,.nil=> .nil
 |_,_,.cons n t a=> .cons (by simp [intKind,dZ]) (Ws a)
def NO (prog:R9)(w:N4)(H:Hp)(o:Obj)(ks:G0 (G0 D3)):Prop:= ∃es ep t f,o=zE es ep t/\SetT (SM prog w) (jW w) (λk b=>H b=some (.tup (k.map V.int))) f es t ks
variable {X:Cx}
theorem AH {pins:G0 (G9×Obj)}{σ:St}{H:Hp}{s:G2}(I:Inv X pins σ H s)(k:G0 D3)(b:G9)(h:H b=some (.tup (k.map V.int))):(SM X.prog X.w).is s.heap k b:=by
 obtain⟨_,us,r2,o,e,c,_,n,d⟩:=I.hok b _ h;exact⟨o,us.toArray,n,e,c,d,Ws (Zd r2)⟩
theorem AI {pins:G0 (G9×Obj)}{σ:St}{H:Hp}{s:G2}(I:Inv X pins σ H s)(k:G0 D3)(b:G9)(h:H b=some (.tup (k.map V.int))):IT s.heap (.ref b) k:=by
 obtain⟨_,us,r2,p⟩:=I.hok b _ h;exact⟨b,us.toArray,rfl,p.tup,Zd r2⟩
theorem Dp {k:G7}(hc:X.calm=true)(hr:Room k X.A):CallR X (.type "set") (λxs H Q=> ∃ (a:G9) (ps:G0 (V×G0 D3)),xs= [.ref a]/\SqL X.K H a (ps.map (·.1))/\ps.length<1000/\(∀p∈ps,Av H p.1 p.2)/\ ∀ (p:G9) (o:Obj),H p=none->NO X.prog X.w H o (ps.map (·.2)).reverse->Q (.ref p) (upd H p (.frz o (.own 0)))):=by
 intro pins s σ H xs us Q I r h;obtain⟨a,ps,rfl,hS,few,ht,q⟩:=h;obtain⟨u,rfl,ru⟩:=yb r;cases ru;obtain⟨its,rv,pl,hz⟩:=I.list hS;have len:its.length=ps.length:=by have:=rv.length;rw [G6] at this;exact this.symm
 have hu:X.A.units+40<cLine:=by have:=hr.un;omega
 have at_: ∀i v,its[i]? =some v-> ∃b,v= .ref b/\H b=some (.tup (((ps.map (·.2)).getD i []).map V.int)):=by
  clear hS q few hz pl len
  induction ps generalizing its with
  |nil=>cases rv;exact λi v e=>by cases e
  |cons p ps ih=>
   rw [C6] at rv;cases rv with
   |cons r1 r2=>
    intro i v e;cases i with
    |zero=>
     obtain⟨b,eb,hb⟩:=ht p P7;rw [eb] at r1;cases e;exact⟨b,r1,hb⟩
    |succ i=>exact ih (λp hp=>ht p (D1 _ hp)) _ r2 i v e
 have rng:(R4 its.length).map (λi=>(ps.map (·.2)).getD i [])=ps.map (·.2):=by
  have:=zU (ps.map (·.2)) ([]:G0 D3);rw [G6] at this;rw [len];exact this.symm
 refine MP (M:=SM X.prog X.w) (is:=λk b=>H b=some (.tup (k.map V.int))) hu (I.ok.hd hc) (.inl rfl) pl.isList at_ (AH I) (by omega) λh' tk f es ep t e S kept=> ?_
 rw [rng] at S;exact⟨.ref _,_,I.laid (t':=tk) (o:= .frz (zE es ep t) (.own 0)) kept (P3 _) ⟨e,⟨_,e⟩⟩,rfl,q _ _ (I.hok.fresh (P3 _)) ⟨es,ep,t,f,rfl,S⟩⟩
def FO:G1->V
 | .ref b=> .ref b
 |_=> .int 0
theorem Qj {x y:G0 D3}(h:HT.ju y x=false)(ne:x≠y):HT.ju x y=true:=by
 cases e:HT.ju x y with
 |true=>rfl
 |false=>exact absurd (yT _ _ e h) ne
theorem Ya {k:G7}(hc:X.calm=true)(hr:Room k X.A):CallR X (.builtin "sorted") (λxs H Q=> ∃ (p:G9) (o:Obj) (ks:G0 (G0 D3)),xs= [.ref p]/\H p=some (.frz o (.own 0))/\NO X.prog X.w H o ks/\ks.length<1000/\ ∀ (q:G9) (ps:G0 (V×G0 D3)),H q=none->(∀x∈ps,Av H x.1 x.2)->(ps.map (·.2)).Pairwise (λx y=>HT.ju x y=true)->(∀k,k∈ps.map (·.2)↔k∈ks)->Q (.ref q) (upd H q (.lst (ps.map (·.1))))):=by
 intro pins s σ H xs us Q I r h;obtain⟨p,o,ks,rfl,hp,⟨es,ep,t,f,rfl,S⟩,few,q⟩:=h;obtain⟨u,rfl,ru⟩:=yb r;cases ru;have hu:X.A.in1.in1.units<cLine:=by
  have:=hr.un;show X.A.units+1+1<cLine;omega
 have it: ∀e∈es.toList,IT s.heap e.2 (f e)/\Av H (FO e.2) (f e)/\RelV (FO e.2) e.2:=λe he=>by
  obtain⟨_,b,eb,hb⟩:=S.each e he;rw [eb];exact⟨AI I _ _ hb,⟨b,rfl,hb⟩,rfl⟩
 have sz:=S.size;refine Uf hu (I.ok.hd hc) S.tab (I.hok p _ hp).1 (by omega) (λe he=>⟨_,(it e he).1⟩) λh1 h' d tk c out k1 k2 lies pm srt=> ?_
 obtain⟨zs,pz,rfl⟩:=YZ pm;have I1:=(I.kept (t':=s.toks) k1).drew d;have vv: ∀l:G0 (D3×G1),(∀z∈l,z∈es.toList)->Vals ((l.map λe=>(FO e.2,f e)).map (·.1)) (l.map (·.2)):=λl=>by
  induction l with
  |nil=>exact λ_=> .nil
  |cons z l ih=>exact λsub=> .cons (it z (sub z P7)).2.2 (ih λy hy=>sub y (D1 _ hy))
 have m2:(zs.map λe=>(FO e.2,f e)).map (·.2)=zs.map f:=by rw [O0];rfl
 refine⟨.ref _,_,I1.laid (t':=tk) (o:= .lst ((zs.map λe=>(FO e.2,f e)).map (·.1))) k2 (P3 _) ⟨?_,_,c,vv zs λz hm=>pz.mem_iff.mp hm,lies⟩,rfl,q _ (zs.map λe=>(FO e.2,f e)) (I1.hok.fresh (P3 _)) (λx hx=> ?_) ?_ λk=> ?_⟩
 ·rw [G6,G6,pz.length_eq,D0];exact S0 (show es.size<=1000 by omega) (by decide)
 ·obtain⟨e,he,rfl⟩:=S4.mp hx;exact(it e (pz.mem_iff.mp he)).2.1
 ·rw [m2];have nd:(zs.map f).Nodup:=(pz.map f).nodup_iff.mpr S.nd;unfold nH at nd;rw [K6] at srt nd ⊢;refine(srt.and nd).imp_of_mem λ{y z} hy hz ⟨e,ne⟩=> ?_
  rw [(it y (pz.mem_iff.mp hy)).1.nums,(it z (pz.mem_iff.mp hz)).1.nums] at e;exact Qj e ne
 ·rw [m2];exact(pz.map f).mem_iff.trans (S.mem k)
def dST (ta:TAD):TED:=λσ h Q=>ta σ h λds h1=> ∃ (a:G9) (nss:G0 (G0 D3)),ds= [.lst a]/\h1 a=some (nss.map tI)/\nss.length<1000/\ ∀ (p:G9) (kss:G0 (G0 D3)),h1 p=none->kss.Pairwise (λx y=>HT.ju x y=true)->(∀k,k∈kss↔k∈nss)->Q (.lst p) (zR h1 p (kss.map tI))
theorem jst {k : G7} {a : N0} {ta : TAD} {p p2 pos pos2 : Pos} (hr : Room k X.A) (hc : X.calm = true) (hg : Gl X "sorted") (hm : X.mg "sorted" = none) (hg2 : Gl X "set") (hm2 : X.mg "set" = none) (ha : JA X [a] ta) (hs : D7 [a] X.env = [(false, J0 a X.env)] := by rfl)
    (h1 : D7 [.Call (.Name "set" p2) [a] [] pos2] X.env = (false, J0 (.Call (.Name "set" p2) [a] [] pos2) X.env) :: D7 [] X.env := by rfl) (h2 : (K7 pos (D7 [] X.env)).any (·.1) = false := by rfl) (h3 : (K7 pos2 (D7 [] X.env)).any (·.1) = false := by rfl) :
    JE X (.Call (.Name "sorted" p) [.Call (.Name "set" p2) [a] [] pos2] [] pos) (dST ta) :=
  ⟨(yt (Ya hc hr) hg hm (by decide +kernel) (zA (JM (Dp hc hr) hg2 hm2 (by decide +kernel) ha.to (by decide) (by decide) hs h3) pa_nil h1) (by decide) (by decide) h1 h2).imp
    fun σ H Q ⟨σd, h, Qd, rs, rh, t, post⟩ => LA.bind rs rh t fun ds vs h1 H1 k1 rs1 rh1 r1 ⟨a, nss, e, hd, few, q⟩ => by
      subst e
      obtain ⟨v, e, r2⟩ := jp r1
      obtain ⟨ws, hH, r3⟩ := rh1 a _ hd
      have e1 : v = .ref a := r2.1
      subst e e1
      obtain ⟨ps, rfl, rfl, ht⟩ := PM r3
      rw [G6] at few
      refine ⟨a, ps, rfl, SqL.of hH, few, ht, fun c o hcn S => ?_⟩
      have rh2 := rh1.new (o := .frz o (.own 0)) hcn
      have up : ∀ {b : G9} {ob : _}, H1 b = some ob → upd H1 c (.frz o (.own 0)) b = some ob := fun {b ob} e => by
        rw [jf (fun z => by subst z; rw [hcn] at e; cases e)]; exact e
      obtain ⟨es, ep, t, f, eo, S⟩ := S
      refine ⟨c, o, (ps.map (·.2)).reverse, rfl, jh, ⟨es, ep, t, f, eo, S.imp fun k b z => up z⟩, by simpa using few, fun l ps' hl ht' srt mem => ?_⟩
      exact post (.lst l) (.ref l) _ _ (k1.trans ((Kept.new hcn).trans (.new hl))) (rh2.newL hl (PN ht')) ⟨rfl, _, jh⟩ (q l (ps'.map (·.2)) (rh2.free hl) srt fun k => by rw [mem k, K4])⟩
end L2
namespace L2
open PySem PySem.Spec PyProof.Rows PySem.SeqAt HT
theorem NP {α:Type}{R:α->α->Prop}(no: ∀x y,R x y-> ¬R y x): ∀ {xs ys:G0 α},xs.Pairwise R->ys.Pairwise R->(∀a,a∈xs↔a∈ys)->xs=ys
 | [],[],_,_,_=>rfl
 | [],y::ys,_,_,m=>absurd ((m y).mpr P7) F4
 |x::xs,[],_,_,m=>absurd ((m x).mp P7) F4
 |x::xs,y::ys,px,py,m=>by
  obtain⟨p1,p2⟩:=K9.mp px;obtain⟨q1,q2⟩:=K9.mp py;have e:x=y:=by
   rcases D2.mp ((m x).mp P7) with e|e
   ·exact e
   rcases D2.mp ((m y).mpr P7) with e'|e'
   ·exact e'.symm
   exact absurd (p1 y e') (no _ _ (q1 x e))
  subst e;rw [NP no p2 q2 λa=>⟨λh=> ?_,λh=> ?_⟩]
  ·rcases D2.mp ((m a).mp (D1 _ h)) with e|e
   ·subst e;exact absurd (p1 _ h) (no _ _ (p1 _ h))
   ·exact e
  ·rcases D2.mp ((m a).mpr (D1 _ h)) with e|e
   ·subst e;exact absurd (q1 _ h) (no _ _ (q1 _ h))
   ·exact e
theorem AJ (x y:G0 D3)(h:HT.ju x y=true): ¬HT.ju y x=true:=λz=>by rw [wK _ _ h] at z;cases z
def pcS (T:G0 (G0 D3))(n p:G7):G0 G7:=(R4 n).filter λj=>wk T n p j&&wk T n j p
def ze (T:G0 (G0 D3))(n:G7):G0 (G0 G7):=((R4 n).filter λp=>decide ((pcS T n p).headD 0=p)).map (pcS T n)
section
variable {T:G0 (G0 D3)}{n e:G7}
theorem MQ (p:G7):IsS n (pcS T n p):=⟨_,rfl⟩
variable {p:G7}
theorem mem_pc {j:G7}:j∈pcS T n p↔j<n/\wk T n p j=true/\wk T n j p=true:=by
 unfold pcS;rw [C8,S8,H0]
theorem Ug (hp:p<n):p∈pcS T n p:=mem_pc.mpr ⟨hp,yU T n p,yU T n p⟩
theorem Dq {q:G7}(hp:p<n)(h:q∈pcS T n p):pcS T n q=pcS T n p:=by
 obtain⟨hq,h1,h2⟩:=mem_pc.mp h;refine(MQ q).ext (MQ p) λj=> ?_
 rw [mem_pc,mem_pc];exact⟨λ⟨a,b,c⟩=>⟨a,jT hq h1 b,jT hq c h2⟩,λ⟨a,b,c⟩=>⟨a,jT hp h2 b,jT hp c h1⟩⟩
theorem Zz (hp:p<n): ∃r,pcS T n p=(pcS T n p).headD 0::r:=by
 cases h:pcS T n p with
 |nil=>have:=Ug (T:=T) hp;rw [h] at this;cases this
 |cons x r=>exact⟨r,rfl⟩
theorem Dr (hp:p<n):(pcS T n p).headD 0<n/\pcS T n ((pcS T n p).headD 0)=pcS T n p:=by
 obtain⟨r,h⟩:=Zz (T:=T) hp;have m:(pcS T n p).headD 0∈pcS T n p:=by
  generalize (pcS T n p).headD 0=x at h;rw [h];exact P7
 exact⟨(mem_pc.mp m).1,Dq hp m⟩
variable {S:G0 G7}
theorem mem_pcs:S∈ze T n↔ ∃p,p<n/\S=pcS T n p:=by
 unfold ze;rw [S4];constructor
 ·rintro ⟨p,hp,rfl⟩;exact⟨p,S8.mp (C8.mp hp).1,rfl⟩
 ·rintro ⟨p,hp,rfl⟩;obtain⟨a,b⟩:=Dr (T:=T) hp;exact⟨(pcS T n p).headD 0,C8.mpr ⟨S8.mpr a,M8 (by rw [b])⟩,b⟩
theorem Xp: ∀S∈ze T n,IsS n S:=λS hS=>by
 obtain⟨p,_,rfl⟩:=mem_pcs.mp hS;exact MQ p
theorem Ds:(ze T n).length<=n:=by
 unfold ze;rw [G6];exact S0 (Y3 _ _) (by rw [B0];exact P3 _)
theorem pcs_rise:(ze T n).Pairwise λx y=>HT.ju (toI x) (toI y)=true:=by
 unfold ze;rw [K6];refine(KN _ List.pairwise_lt_range).imp_of_mem λ{p q} hp hq lt=> ?_
 obtain⟨p1,p2⟩:=C8.mp hp;obtain⟨q1,q2⟩:=C8.mp hq;obtain⟨r,e1⟩:=Zz (T:=T) (S8.mp p1);obtain⟨r',e2⟩:=Zz (T:=T) (S8.mp q1);rw [J5 p2] at e1;rw [J5 q2] at e2;rw [e1,e2];show HT.ju ((p:D3)::toI r) ((q:D3)::toI r')=true;rw [vO,R8 (by omega)];exact M8 (by omega)
def upS (n:G7)(T:G0 (G0 D3))(S:G0 G7):G0 G7:=unS n S (Zi n T S)
theorem AK (S:G0 G7):IsS n (upS n T S):=NA n _ _
theorem wQ (h:IsS n S): ∀k,IsS n (itF (upS n T) S k)
 |0=>h
 |k+1=>AK _
theorem Vd (h:IsS n S){j:G7}:j∈upS n T S↔j∈S\/j∈Zi n T S:=VU h (IsS.step T S) j
theorem Dt (h:IsS n S)(ne:upS n T S≠S):S.length+1<=(upS n T S).length:=by
 rcases K1 S.length (upS n T S).length with z|z
 ·exact z
 ·exfalso;refine ne (h.ext (AK S) λj=>⟨λhj=>(Vd h).mpr (.inl hj),λhj=> ?_⟩).symm;rcases kH (j∈S) with c|c
  ·exact c
  ·exfalso;have nd:(j::S).Nodup:=E6.mpr ⟨c,h.rise.imp λz=>M0 z⟩;have:=vF nd (ys:=upS n T S) λx hx=>by
    rcases D2.mp hx with rfl|hx
    ·exact hj
    ·exact(Vd h).mpr (.inl hx)
   rw [D8] at this;omega
theorem Ve (h:IsS n S): ∀k,upS n T (itF (upS n T) S k)=itF (upS n T) S k\/S.length+k+1<=(itF (upS n T) S (k+1)).length
 |0=>by
  rcases kH (upS n T S=S) with z|z
  ·exact .inl z
  ·exact .inr (Dt h z)
 |k+1=>by
  rcases Ve h k with z|z
  ·refine .inl ?_;show upS n T (upS n T (itF (upS n T) S k))=upS n T (itF (upS n T) S k);rw [z,z]
  ·rcases kH (upS n T (itF (upS n T) S (k+1))=itF (upS n T) S (k+1)) with y|y
   ·exact .inl y
   ·have m:=Dt (wQ h (k+1)) y;refine .inr ?_;show _<=(upS n T (itF (upS n T) S (k+1))).length;omega
theorem Fq (hT:Sq n e T){S:G0 G7}(h:IsS n S):itF (upS n T) S n=clS n T S:=by
 have st:upS n T (itF (upS n T) S n)=itF (upS n T) S n:=by
  rcases Ve (T:=T) h n with z|z
  ·exact z
  ·have:=(wQ (T:=T) h (n+1)).len;omega
 have inn: ∀k,∀j∈itF (upS n T) S k,j∈clS n T S:=λk=>by
  induction k with
  |zero=>exact λj hj=>Ax h hj
  |succ k ih=>
   intro j hj;rcases (Vd (wQ h k)).mp hj with z|z
   ·exact ih j z
   ·obtain⟨hj,i,hi,a⟩:=mem_stepS.mp z;obtain⟨hi',q,hq,wq⟩:=mem_cl.mp (ih i hi);exact mem_cl.mpr ⟨hj,q,hq,jT hi' wq (JD a n)⟩
 have sub: ∀k,∀j∈S,j∈itF (upS n T) S k:=λk=>by
  induction k with
  |zero=>exact λj hj=>hj
  |succ k ih=>exact λj hj=>(Vd (wQ h k)).mpr (.inl (ih j hj))
 refine(wQ h n).ext (PV n T S) λj=>⟨inn n j,λhj=> ?_⟩
 refine SJ (shut_iff.mpr λi hi j hj a=> ?_) (PX hT) (sub n) hj;rw [<-st];exact(Vd (wQ h n)).mpr (.inr (mem_stepS.mpr ⟨hj,i,hi,a⟩))
theorem Du {j:G7}:j∈clS n T [p]↔j<n/\wk T n p j=true:=by
 rw [mem_cl];exact⟨λ⟨a,i,hi,b⟩=>⟨a,by rw [P1.mp hi] at b;exact b⟩,λ⟨a,b⟩=>⟨a,p,P1.mpr rfl,b⟩⟩
theorem AL (hp:p<n):(clS n T [p]).filter (λi=>decide (p∈clS n T [i]))=pcS T n p:=by
 have is:IsS n ((clS n T [p]).filter (λi=>decide (p∈clS n T [i]))):=by
  unfold clS;rw [List.filter_filter];exact⟨_,rfl⟩
 refine is.ext (MQ p) λj=> ?_
 rw [C8,mem_pc,Du,W6,Du];exact⟨λ⟨⟨a,b⟩,_,c⟩=>⟨a,b,c⟩,λ⟨a,b,c⟩=>⟨⟨a,b⟩,hp,c⟩⟩
theorem Qk {kss:G0 (G0 D3)}(r:kss.Pairwise λx y=>HT.ju x y=true)(m: ∀k,k∈kss↔k∈(R4 n).map λp=>toI (pcS T n p)):kss=(ze T n).map toI:=by
 refine NP AJ r (by rw [K6];exact pcs_rise) λk=> ?_
 rw [m k,S4,S4];constructor
 ·rintro ⟨p,hp,rfl⟩;exact⟨_,mem_pcs.mpr ⟨p,S8.mp hp,rfl⟩,rfl⟩
 ·rintro ⟨S,hS,rfl⟩;obtain⟨p,hp,rfl⟩:=mem_pcs.mp hS;exact⟨p,S8.mpr hp,rfl⟩
end
end L2
namespace L2
open PySem PySem.Spec PyProof.Rows PySem.W
structure DefIn (K:Frag)(x:Str)(st:K8)(f:G9)(fd:N5):Prop where
 at_:nsIn K mainGlobals x=some (some (.ref f))
 fn:Fun K x x st f fd
variable {K:Frag}{h base:B6}{mg:Str->P4 G1}{x:Str}{st:K8}{f:G9}{fd:N5}{P:R9}{w:N4}{n:G7}{ps:G0 Str}
theorem AM {oc:G1}{od an:P4 G9}{osl:S6 (P4 G1)}{kV doc pm cdv ct:G1}(a:nsIn K mainGlobals x=some (some (.ref f)))(l:K.lookup f=some ⟨oc,od,.func (fnOf x x (yc st) (jK st) (jd st) .none kV doc pm an cdv ct),osl⟩)
 (c:codeIn K cdv x=true)(k:keepIn K (.ref f)=true):DefIn K x st f (fnOf x x (yc st) (jK st) (jd st) .none kV doc pm an cdv ct):=⟨a,LF l c k⟩
abbrev AN (x:Str)(st:K8)(ps:G0 Str):Prop:= ∀ (kV doc pm:G1) (an:P4 G9) (cdv ct:G1) (us:G0 G1),us.length=ps.length->tZ (fnOf x x (yc st) (jK st) (jd st) .none kV doc pm an cdv ct) ⟨us,[]⟩=pure (ps.zip us)
theorem DefIn.nm (d:DefIn K x st f fd)(X:K.In h)(G:h.Ns mainGlobals mg):mg x=some (.ref f):=mg_of X G d.at_
variable {C:G0 G1->Prop}
theorem ln1 (g: ∀a,C [a]): ∀us:G0 G1,us.length=1->C us
 | [_],_=>g _
theorem ln2 (g: ∀a b,C [a,b]): ∀us:G0 G1,us.length=2->C us
 | [_,_],_=>g _ _
theorem ln3 (g: ∀a b c,C [a,b,c]): ∀us:G0 G1,us.length=3->C us
 | [_,_,_],_=>g _ _ _
theorem ln4 (g: ∀a b c d,C [a,b,c,d]): ∀us:G0 G1,us.length=4->C us
 | [_,_,_,_],_=>g _ _ _ _
theorem ln5 (g: ∀a b c d e,C [a,b,c,d,e]): ∀us:G0 G1,us.length=5->C us
 | [_,_,_,_,_],_=>g _ _ _ _ _
theorem DefIn.cal {sp:RDn}(d:DefIn K x st f fd)(l:OpenLaw)(w:N4)(base:B6)(X:K.In h)(G:h.Ns mainGlobals mg)(ok:FnOk l.prog w K mg base CX0 n f fd ps (LSp K sp))(b:AN x st ps:=by first|exact λ_ _ _ _ _ _=>ln1 λ_=>rfl|exact λ_ _ _ _ _ _=>ln2 λ_ _=>rfl|exact λ_ _ _ _ _ _=>ln3 λ_ _ _=>rfl|exact λ_ _ _ _ _ _=>ln4 λ_ _ _ _=>rfl|exact λ_ _ _ _ _ _=>ln5 λ_ _ _ _ _=>rfl):jw l.prog w K mg base n x ps sp:=⟨_,_,ok,d.fn.binds b,d.fn.kp,d.nm X G⟩
theorem DefIn.rai {sp:RDx}(d:DefIn K x st f fd)(l:OpenLaw)(w:N4)(base:B6)(X:K.In h)(G:h.Ns mainGlobals mg)(ok:FnOk l.prog w K mg base (CXR l.prog w) n f fd ps (Ny mg K sp))(b:AN x st ps:=by first|exact λ_ _ _ _ _ _=>ln1 λ_=>rfl|exact λ_ _ _ _ _ _=>ln2 λ_ _=>rfl|exact λ_ _ _ _ _ _=>ln3 λ_ _ _=>rfl|exact λ_ _ _ _ _ _=>ln4 λ_ _ _ _=>rfl|exact λ_ _ _ _ _ _=>ln5 λ_ _ _ _ _=>rfl):WR l.prog w K mg base n x ps sp:=⟨_,_,ok,d.fn.binds b,d.fn.kp,d.nm X G⟩
def zsB (K:Frag):T5:= ["len","max","min","divmod","all","any","repr","sum","sorted","int","tuple","list","set","bool","isinstance","range","zip","enumerate","reversed"].all λx=>nsIn K mainGlobals (eQ x)==some none
theorem SN (X:K.In h)(G:h.Ns mainGlobals mg)(e:zsB K=true):Zs mg:=by
 unfold zsB at e;rw [L0] at e;have m:=λ(x:U2) hx=>mg_none_of X G (beq_iff_eq.mp (e x hx))
 exact⟨m "len" (by decide),m "max" (by decide),m "min" (by decide),m "divmod" (by decide),m "all" (by decide),m "any" (by decide),m "repr" (by decide),m "sum" (by decide),m "sorted" (by decide),m "int" (by decide),m "tuple" (by decide),m "list" (by decide),m "set" (by decide),m "bool" (by decide),m "isinstance" (by decide),m "range" (by decide),m "zip" (by decide),m "enumerate" (by decide),m "reversed" (by decide)⟩
end L2
namespace L2
theorem Dv {g:G7->G7->T5}{n:G7}: ∀ {t:G7} {w:G0 G7},w.length=t+1->(∀i∈w,i<n)->w.Nodup->(∀i∈w,w.headD 0<=i)->(∀i x y,w[i]? =some x->w[i+1]? =some y->g x y=true)->w∈lev g n t
 |0,w,hl,lt,_,_,_=>by
  obtain⟨a,rfl⟩:=nM.mp hl;exact S4.mpr ⟨a,S8.mpr (lt a (by simp)),rfl⟩
 |t+1,w,hl,lt,nd,low,go=>by
  obtain⟨v,j,rfl⟩: ∃v j,w=v++ [j]:=⟨w.dropLast,w.getLast (by intro z;rw [z] at hl;cases hl),(List.dropLast_concat_getLast _).symm⟩;have lv:v.length=t+1:=by rw [P8,dO] at hl;omega
  have hd:(v++ [j]).headD 0=v.headD 0:=by cases v with|nil=>cases lv|cons a r=>rfl
  have nv:=cI.mp nd;have jn:j ∉ v:=λz=>nv.2.2 j z j (by simp) rfl
  have hh:v.headD 0∈v:=by cases v with|nil=>cases lv|cons a r=>exact P7 ..
  rw [hd] at low;have mv:=Dv (g:=g) (n:=n) lv (λi hi=>lt i (A7 _ hi)) nv.1 (λi hi=>low i (A7 _ hi)) λi x y e1 e2=>go i x y (by rw [B8 (P5.mp e1).1];exact e1) (by rw [B8 (P5.mp e2).1];exact e2)
  refine cU.mpr ⟨v,mv,S4.mpr ⟨j,C8.mpr ⟨S8.mpr (lt j (by simp)),?_⟩,rfl⟩⟩;have la:v[t]? =some (v.getLastD 0):=by rw [fG,fH,lv,qA,P2 (by omega)];rfl
  have g1:=go t _ j (by rw [B8 (by omega)];exact la) (by rw [N3 (by omega),lv,kG];rfl);have lj:=low j (by simp);have ne:v.headD 0≠j:=λz=>jn (z ▸ hh)
  unfold TF;rw [g1,M8 (show v.headD 0<j by omega),N6 jn];rfl
theorem Dw {g:G7->G7->T5}{n s:G7}{w:G0 G7}(h:w∈lev g n s)(b:g (w.getLastD 0) (w.headD 0)=true): ∀t,s<t->w∈SK g n t
 |t+1,ht=>by
  rcases K1 s t with z|z
  ·exact A7 _ (Dw h b t z)
  ·have:t=s:=by omega
   subst this;exact M1 _ (C8.mpr ⟨h,b⟩)
theorem Uh {n:G7}{w:G0 G7}(nd:w.Nodup)(lt: ∀i∈w,i<n):w.length<=n:=by
 have:=vF (ys:=R4 n) nd λx hx=>S8.mpr (lt x hx)
 rwa [B0] at this
section
variable {n e:G7}{T:G0 (G0 D3)}
theorem Ql {w:G0 G7}(ne:w≠ [])(lt: ∀i∈w,i<n)(nd:w.Nodup)(low: ∀i∈w,w.headD 0<=i)(go: ∀i x y,w[i]? =some x->w[i+1]? =some y->ent T x y>0)(back:ent T (w.getLastD 0) (w.headD 0)>0):w∈Xc T n:=by
 obtain⟨t,ht⟩: ∃t,w.length=t+1:=⟨w.length-1,by have:=j6.mpr ne;omega⟩;have:=Uh nd lt;exact(Qe _).mem_iff.mpr (Dw (Dv (g:=TH T) ht lt nd low λi x y e1 e2=>M8 (go i x y e1 e2)) (M8 back) n (by omega))
theorem Dx (h:Sq n e T){i j:G7}(hi:i<n)(hj:j<n)(z:ent T i j≠0):ent T i j>0:=by have:=(h.ent_nn hi hj).1;omega
theorem Qm (h:Sq n e T)(hn:n<=8){m:G7}(m1:1<=m){v:G7->G7}(vl: ∀t,v t<n)(per: ∀t,v (t+m)=v t)(inj: ∀a b,a<m->b<m->v a=v b->a=b)(st: ∀t,RP n T 1 (v t) (v (t+1))): ∃s,(R4 m).map (λt=>v (s+t))∈Xc T n:=by
 obtain⟨s,hs⟩: ∃s,∀t,v s<=v t:=by
  have key: ∀k,∃s,∀t,t<k+1->v s<=v t:=λk=>by
   induction k with
   |zero=>exact⟨0,λt ht=>by rw [show t=0 by omega];exact P3 _⟩
   |succ k ih=>
    obtain⟨s,hs⟩:=ih;rcases K1 (v (k+1)) (v s) with z|z
    ·exact⟨k+1,λt ht=>by
      rcases K1 t (k+1) with y|y
      ·have:=hs t y;omega
      ·rw [show t=k+1 by omega];exact P3 _⟩
    ·exact⟨s,λt ht=>by
      rcases K1 t (k+1) with y|y
      ·exact hs t y
      ·rw [show t=k+1 by omega];exact z⟩
  obtain⟨s,hs⟩:=key m;have red: ∀t,v t=v (t%m):=λt=>by
   have: ∀q r,v (r+q*m)=v r:=λq r=>by
    induction q with
    |zero=>rw [IC,Z8]
    |succ q ih=>rw [gX,<-dM,per,ih]
   have e:=this (t / m) (t%m);rw [aR,tJ] at e;exact e
  exact⟨s,λt=>by rw [red t];exact hs _ (by have:=bH t m1;omega)⟩
 have red: ∀t,v t=v (t%m):=λt=>by
  have: ∀q r,v (r+q*m)=v r:=λq r=>by
   induction q with
   |zero=>rw [IC,Z8]
   |succ q ih=>rw [gX,<-dM,per,ih]
  have e:=this (t / m) (t%m);rw [aR,tJ] at e;exact e
 have hd:((R4 m).map λt=>v (s+t)).headD 0=v s:=by
  obtain⟨k,rfl⟩: ∃k,m=k+1:=⟨m-1,by omega⟩;rw [g4];rfl
 refine⟨s,Ql ?_ (λi hi=>by obtain⟨t,_,rfl⟩:=S4.mp hi;exact vl _) ?_ (λi hi=>by obtain⟨t,_,rfl⟩:=S4.mp hi;rw [hd];exact hs _) (λi x y e1 e2=> ?_) ?_⟩
 ·intro z;have:=congrArg iU z;rw [G6,B0] at this;simp at this;omega
 ·refine K6.mpr ((mX (n:=m)).imp_of_mem λ{a b} ha hb ne z=> ?_);have ha:=S8.mp ha;have hb:=S8.mp hb;have z:v (s+a)=v (s+b):=z;rw [red (s+a),red (s+b)] at z;have:=inj _ _ (bH _ m1) (bH _ m1) z;refine ne ?_;have d1:=nW (s+a) m;have d2:=nW (s+b) m;rcases dU ((s+a) / m) ((s+b) / m) with c|c|c
  ·have:=pI m (show (s+a) / m+1<=(s+b) / m from c);rw [gO] at this;omega
  ·rw [c] at d1;omega
  ·have:=pI m (show (s+b) / m+1<=(s+a) / m from c);rw [gO] at this;omega
 ·have h1:=(P5.mp e2).1;rw [G6,B0] at h1;rw [D9,V6 (by omega)] at e1 e2;injection e1 with e1
  injection e2 with e2
  subst e1;subst e2;exact Dx h (vl _) (vl _) ((YS h hn).mp (st (s+i)))
 ·have la:((R4 m).map λt=>v (s+t)).getLastD 0=v (s+(m-1)):=by
   rw [fG,fH,G6,B0,D9,V6 (by omega)];rfl
  rw [hd,la];have:=st (s+(m-1));rw [show s+(m-1)+1=s+m by omega,per] at this;exact Dx h (vl _) (vl _) ((YS h hn).mp this)
def Dy (T:G0 (G0 D3))(n:G7):G7:=((Xc T n).map iU).foldl tQ 0
theorem Dz {w:G0 G7}(hw:w∈Xc T n):Dy T n∣w.length:=((UT _ 0 (Dy T n)).mp (Nat.dvd_refl _)).2 _ (Q6 hw)
theorem Vf (h:Sq n e T)(hn:n<=8): ∀ (m:G7) {p:G7},p<n->RP n T m p p->Dy T n∣m:=by
 intro m
 induction m using G7.strongRecOn with
 |_ m ih=>
  intro p hp r;rcases pZ m with z|m1
  ·rw [z];exact Nat.dvd_zero _
  obtain⟨v,v0,vm,vl,vr⟩:=Nx h hn m hp hp r
  by_cases c: ∃a b,a<b/\b<m/\v a=v b
  ·obtain⟨a,b,ab,bm,e1⟩:=c;have r1:=WQ h hn vl vr a (b-a) (by omega);rw [show a+(b-a)=b by omega,<-e1] at r1;have r2:=WQ h hn vl vr 0 a (by omega);rw [Q9,v0] at r2;have r3:=WQ h hn vl vr b (m-b) (by omega);rw [show b+(m-b)=m by omega,vm,<-e1] at r3;have d1:=ih (b-a) (by omega) (vl a (by omega)) r1;have d2:=ih (a+(m-b)) (by omega) hp (WS h hn hp (vl a (by omega)) hp r2 r3);have:=Nat.dvd_add d1 d2
   rwa [show b-a+(a+(m-b))=m by omega] at this
  ·obtain⟨s,hs⟩:=Qm h hn (T:=T) (n:=n) m1 (v:=λt=>v (t%m)) (λt=>vl _ (by have:=bH t m1;omega)) (λt=>by show v ((t+m)%m)=_;rw [Nat.add_mod_right]) (λa b ha hb z=>by
    have z:v (a%m)=v (b%m):=z;rw [iR ha,iR hb] at z;rcases dU a b with y|y|y
    ·exact absurd ⟨a,b,y,hb,z⟩ c
    ·exact y
    ·exact absurd ⟨b,a,y,ha,z.symm⟩ c) (λt=>by
    show RP n T 1 (v (t%m)) (v ((t+1)%m));have lt:=bH t m1;have:=vr (t%m) lt;rcases K1 (t%m+1) m with z|z
    ·rw [show (t+1)%m=t%m+1 by rw [o0,iR (show 1<m by omega),iR z]];exact this
    ·have e2:(t+1)%m=0:=by
      rw [<-nW t m,show m*(t / m)+t%m+1=m*(t / m+1) by rw [gO];omega];exact Nat.mul_mod_right _ _
     rw [e2,v0,<-vm,show m=t%m+1 by omega];rw [show t%(t%m+1)=t%m by rw [show t%m+1=m by omega]];exact this)
   have:=Dz hs
   rwa [G6,B0] at this
theorem AO (h:Sq n e T)(hn:n<=8){i j:G7}(hi:i<n)(w:wk T n i j=true):j<n/\ ∃k,RP n T k i j:=
 vC (P:=λi j=>i<n->j<n/\ ∃k,RP n T k i j) (λi hi=>⟨hi,0,(Zl hi hi).mpr rfl⟩) (λi j z hi=>⟨PX h i j z,1,(YS h hn).mpr z⟩) (λi k j a b hi=>by
  obtain⟨hk,k1,r1⟩:=a hi;obtain⟨hj,k2,r2⟩:=b hk;exact⟨hj,k1+k2,WS h hn hi hk hj r1 r2⟩) w hi
theorem AQ (h:Sq n e T)(hn:n<=8): ∀ (k:G7) {i j:G7},i<n->j<n->RP n T k i j->wk T n i j=true
 |0,i,j,hi,hj,r=>by rw [(Zl hi hj).mp r];exact yU T n j
 |k+1,i,j,hi,hj,r=>by
  obtain⟨x,hx,a,b⟩:=(YO h hn k 1 hi hj).mp r;exact jT hx (AQ h hn k hi hx a) (JD ((YS h hn).mp b) n)
theorem Fr (h:Sq n e T)(hn:n<=8)(one:(ze T n).length=1){i j:G7}(hi:i<n)(hj:j<n): ∃k,RP n T k i j:=by
 obtain⟨S,e1⟩:=nM.mp one;have a:pcS T n i∈ze T n:=mem_pcs.mpr ⟨i,hi,rfl⟩;have b:pcS T n j∈ze T n:=mem_pcs.mpr ⟨j,hj,rfl⟩;rw [e1] at a b;have:j∈pcS T n i:=by rw [P1.mp a,<-P1.mp b];exact Ug hj
 exact(AO h hn hi (mem_pc.mp this).2.1).2
end
end L2
set_option maxRecDepth 35000
namespace L2
section
variable {n e:G7}{T:G0 (G0 D3)}
theorem Fs {a l b d:G7}(h1:d∣a+b)(h2:d∣l+b):a%d=l%d:=by
 have key: ∀a l:G7,a<=l->d∣a+b->d∣l+b->a%d=l%d:=λa l c h1 h2=>by
  obtain⟨t,rfl⟩:=Nat.exists_eq_add_of_le c;have:d∣t:=(Nat.dvd_add_right h1).mp (by rw [show a+b+t=a+t+b by omega];exact h2);rw [o0,nK this,Z8,KI]
 rcases Nat.le_total a l with c|c
 ·exact key a l c h1 h2
 ·exact(key l a c h2 h1).symm
theorem fit (h:Sq n e T)(hn:n<=8)(one:(ze T n).length=1){i j k l:G7}(hi:i<n)(hj:j<n)(a:RP n T k i j)(b:RP n T l i j):k%Dy T n=l%Dy T n:=by
 obtain⟨c,rc⟩:=Fr h hn one hj hi;exact Fs (Vf h hn _ hi (WS h hn hi hj hi a rc)) (Vf h hn _ hi (WS h hn hi hj hi b rc))
end
end L2
namespace L2
open PySem PySem.Spec PyProof.Rows PySem.SeqAt
theorem DA {its:G0 G1}{i:G7}{x:G1}{r:G0 G1}(h:its.drop i=x::r):i<its.length/\its[i]? =some x/\x∈its/\its.drop (i+1)=r:=by
 have hi:i<its.length:=Nat.lt_of_not_le λz=>by rw [A6 z] at h;cases h
 have e:=bQ hi;rw [h] at e;injection e with e1 e2
 exact⟨hi,by rw [P2 hi,e1],by rw [e1];exact O9 hi,e2.symm⟩
theorem Ft (l:G9)(u:G1)(e:G1->T5)(its:G0 G1)(n:G7){y:G1}{rest:G0 G1}(ey:e y=true)(hz:its.length<=sizeLine):
 ∀ (bad:G0 G1) (i:G7),its.drop i=bad++y::rest->(∀x∈bad,e x=false)->G0s (Builtin.«list.remove.loop» ⟨[.ref l,u,A1 (i:D3)],[]⟩)
  (λA R s=>s.heap.get? l=some {cls:= .type "list",data:= .seq its.toArray n}/\(∀x∈its,EqAt A.in1 s x u (e x))/\R (.ok (.ret .none)) {s with heap:=s.heap.update l (V5 λxs=>xs.eraseIdxIfInBounds (i+bad.length))}):=by
 intro bad
 induction bad with
 |nil=>
  rintro i hd-prog w A R ⟨hp,g,d,tk,os⟩ ⟨hl,he,h⟩;obtain⟨hi,gi,mi,_⟩:=DA hd;have at_:its.toArray[((i:G7):D3).toNat]? =some y:=by rw [Q8,<-M6];exact gi
  wp_walk using wpAny_loadPart' hl
  rw [at_];refine wpAny_bind (he y mi prog w _ _ ?_);rw [ey];have small:its.toArray.size<=sizeLine:=by rw [R5];exact hz
  have less:(its.toArray.eraseIdxIfInBounds i).size<=sizeLine+1:=by
   rw [iG,R5];have:=mY its i;omega
  wp_walk using (i8 hl rfl (hz:=small) (_hz':=less)),wpAny_loadPart' hl
  exact h
 |cons b bad ih=>
  rintro i hd no prog w A R ⟨hp,g,d,tk,os⟩ ⟨hl,he,h⟩;obtain⟨hi,gi,mi,hd'⟩:=DA hd;have at_:its.toArray[((i:G7):D3).toNat]? =some b:=by rw [Q8,<-M6];exact gi
  wp_walk using wpAny_loadPart' hl
  rw [at_];refine wpAny_bind (he b mi prog w _ _ ?_);rw [no b P7]
  wp_walk
  refine⟨W2 bJ _,E2 lF ?_⟩;rw [O8 bJ _,show ((i:D3)+1)=((i+1:G7):D3) from rfl];refine ih (i+1) hd' (λx hx=>no x (D1 _ hx)) prog w A R _ ⟨hl,he,?_⟩;rw [show i+1+bad.length=i+(b::bad).length by rw [D8];omega];exact h
theorem Fu (l:G9)(u:G1)(e:G1->T5)(its:G0 G1)(n:G7){y:G1}{bad rest:G0 G1}(ey:e y=true)(hz:its.length<=sizeLine)(hd:its=bad++y::rest)(no: ∀x∈bad,e x=false):G0s (Builtin.«list.remove» ⟨[.ref l,u],[]⟩)
 (λA R s=>s.heap.get? l=some {cls:= .type "list",data:= .seq its.toArray n}/\(∀x∈its,EqAt A.in1 s x u (e x))/\R (.ok (.ret .none)) {s with heap:=s.heap.update l (V5 λxs=>xs.eraseIdxIfInBounds bad.length)}):=by
 rintro prog w A R ⟨hp,g,d,tk,os⟩ ⟨hl,he,h⟩
 wp_walk using wpAny_loadPart' hl
 refine⟨W2 bJ _,E2 lF ?_⟩;rw [O8 bJ _];refine Ft l u e its n ey hz bad 0 (by rw [oU];exact hd) no prog w A R _ ⟨hl,he,?_⟩;rw [Q9];exact h
theorem DB {X:Cx}(hu:X.A.units+64<cLine):MtM X "list.remove" (λx vs H Q=> ∃ (a:G9) (y:V) (dy:D) (h:HD) (p:F8) (ps:G0 F8) (ws:G0 V) (j:G7) (z:F8),x= .ref a/\vs= [y]/\RelD X.K H dy y/\RelH X.K h H/\ToP h (.lst a) (.list ps)/\ToP h dy p/\p.canLay0=true/\B9 ps=true/\p.depth<=60/\ps[j]? =some z/\C3 z p=true/\(∀m y,m<j->ps[m]? =some y->C3 y p=false)/\H a=some (.lst ws)/\Q .non (upd H a (.lst (ws.eraseIdx j)))):=by
 intro pins s σ H x vs v us Q I rx rv h;obtain⟨a,y,dy,h,p,ps,ws,j,z,rfl,rfl,rd,rh,t1,t2,c1,c2,c3,hz,hit,hno,hH,q⟩:=h;cases rx;obtain⟨u,rfl,ru⟩:=yb rv;obtain⟨as,r1⟩:=jM I rh t1 (show RelD X.K H (.lst a) (.ref a) from ⟨rfl,ws,hH⟩) (show RelV (.ref a) (.ref a) from rfl);obtain⟨bs,r2⟩:=jM I rh t2 rd ru;obtain⟨sz,its,n,r,hl,e⟩:=I.lstM hH;cases r1 with
 |list h1 h2 h3 h4=>
  rename_i o jts n' cs;have eo:=h1.symm.trans e;injection eo with eo
  subst eo;have ej:jts=its.toArray:=by
   have h3:(.seq its.toArray n:Data)= .seq jts n':=h3;injection h3 with h3
   exact h3.symm
  subst ej;have em:=readsAll_map ps _ _ c2 h4;have gm: ∀m,ps[m]? =(its[m]?).map (SeqAt.readOf s.heap):=λm=>by rw [<-em,D9]
  have hu':X.A.units+1+min (N2 ps) p.depth<cLine:=by have:=eO (N2 ps) p.depth;omega
  rw [gm] at hz;obtain⟨w,hw,ez⟩:=A5.mp hz;obtain⟨hj,ew⟩:=P5.mp hw;have cut:its=its.take j++w::its.drop (j+1):=by
   conv=>lhs;rw [<-N8 j its,bQ hj,ew]
  have len:(its.take j).length=j:=by rw [M5];omega
  refine f8 F.slot_list_remove ⟨_,e,rfl⟩ F.entry_list_remove (F.args_list_remove_2 _ _) (Fu a u (λy=>C3 (SeqAt.readOf s.heap y) p) its n (y:=w) (by rw [ez];exact hit) (by omega) cut λx hx=> ?_) ⟨e,λx hx=>items_eqAt h4 r2 c2 c1 hu' x (by simpa using hx),?_⟩
  ·obtain⟨m,hm,rfl⟩:=X8 hx;rw [len] at hm;refine hno m _ hm ?_;rw [gm,P2 (by omega),mC];rfl
  ·rw [len];exact⟨.non,_,I.lset (its':=its.eraseIdx j) hH e (by rw [iG]) (r.eraseIdx j) (by have:=mY ws j;omega),rfl,q⟩
def HS (to te:TED):TED:=λσ h Q=>to σ h λx h1=> ∃a,x= .lst a/\te σ h1 λy h2=> ∃ (p:F8) (ps:G0 F8) (ds:G0 D) (j:G7) (z:F8),ToP h2 (.lst a) (.list ps)/\ToP h2 y p/\p.canLay0=true/\B9 ps=true/\p.depth<=60/\ps[j]? =some z/\C3 z p=true/\(∀m y,m<j->ps[m]? =some y->C3 y p=false)/\h2 a=some ds/\Q .non (zR h2 a (ds.eraseIdx j))
section
variable {X:Cx}{o e i:N0}{to te ti:TED}{apos cpos:Pos}
theorem ZA {K:G5}{H:Hp}: ∀ {ds:G0 D} {vs:G0 V} (j:G7),RelDs K H ds vs->RelDs K H (ds.eraseIdx j) (vs.eraseIdx j)
 | [],vs,j,r=>by
  have:vs= []:=r;subst this;exact r
 |d::ds,vs,j,r=>by
  obtain⟨v,t,rfl,r1,r2⟩:=(show ∃v t,vs=v::t/\RelD K H d v/\RelDs K H ds t from r);cases j with
  |zero=>exact r2
  |succ j=>exact⟨v,t.eraseIdx j,rfl,r1,ZA j r2⟩
theorem HU (hu : X.A.units + 64 < cLine) (ho : JE X o to) (he : JE X e te) (hbase : aU o "remove" X.env (J0 o X.env) = J0 o X.env := by rfl)
    (hfew : ((K7 cpos (D7 [e] X.env)).all (fun x => !x.1) && (mO cpos (gJ [] X.env)).all (fun x => x.1.isSome) && decide ([e].length + ([] : G0 eT).length + (if ([] : G0 eT).isEmpty then 0 else 1) < 30)) = true := by rfl)
    (hline : (apos.endLine == cpos.line) = true := by rfl) (hs : D7 [e] X.env = (false, J0 e X.env) :: D7 [] X.env := by rfl) (hplain : (K7 cpos (D7 [] X.env)).any (·.1) = false := by rfl) :
    JE X (.Call (.Attribute o "remove" apos) [e] [] cpos) (HS to te) :=
  ⟨(Ro aJ xO xP (DB hu) ho.to (zA he.to pa_nil hs) hbase hfew hline hs hplain).imp
    fun σ H Q ⟨σd, h, Qd, rs, rh, t, p⟩ => LE.bind rs rh t fun d v h1 H1 k1 rs1 rh1 r1 ⟨a, e, q⟩ => by
      subst e
      obtain ⟨e1, vs, hH⟩ := (show v = .ref a ∧ ∃ vs, H1 a = some (.lst vs) from r1)
      subst e1
      refine ⟨.inl ⟨rfl, vs, SqL.of hH⟩, ?_⟩
      refine LE.bind rs1 rh1 q fun y u h2 H2 k2 rs2 rh2 r2 ⟨pd, ps, ds, j, z, t1, t2, c1, c2, c3, hz, hit, hno, hd, q2⟩ => ?_
      obtain ⟨ws, hW, rW⟩ := rh2 a ds hd
      exact ⟨a, u, y, h2, pd, ps, ws, j, z, rfl, rfl, r2, rh2, t1, t2, c1, c2, c3, hz, hit, hno, hW, p .non _ _ _ ((k1.trans k2).trans (.put hW)) (rh2.put hW (ZA j rW)) rfl q2⟩⟩
end
end L2
namespace L2
open PySem PySem.Spec PyProof.Rows
section
variable {n e:G7}{T U:G0 (G0 D3)}{S P:G0 G7}
def frB (T:G0 (G0 D3))(n:G7)(P:G0 G7)(Ls:G0 (G0 G7)):T5:= !((Ls.filter λo=> !decide (o=P)).any λo=>wk T n (o.headD 0) (P.headD 0))
theorem fr_iff {Ls:G0 (G0 G7)}:frB T n P Ls=true↔ ∀o∈Ls,o≠P->wk T n (o.headD 0) (P.headD 0)=false:=by
 unfold frB;rw [dS,qH];constructor
 ·intro h o ho ne;have:=h o (C8.mpr ⟨ho,by rw [N6 ne];rfl⟩);cases z:wk T n (o.headD 0) (P.headD 0) with
  |false=>rfl
  |true=>exact absurd z this
 ·intro h o ho z;obtain⟨ho,ne⟩:=C8.mp ho;have:=h o ho (λe=>by rw [M8 e] at ne;cases ne);rw [this] at z;cases z
theorem zJ {P:G0 G7}(hP:P∈ze T n):P.headD 0<n/\pcS T n (P.headD 0)=P:=by
 obtain⟨p,hp,rfl⟩:=mem_pcs.mp hP;exact Dr hp
theorem Xq {P P':G0 G7}(hP:P∈ze T n)(hP':P'∈ze T n)(a:wk T n (P.headD 0) (P'.headD 0)=true)(b:wk T n (P'.headD 0) (P.headD 0)=true):P=P':=by
 obtain⟨h1,e1⟩:=zJ hP;obtain⟨h2,e2⟩:=zJ hP';rw [<-e1,<-e2];exact(Dq h1 (mem_pc.mpr ⟨h2,a,b⟩)).symm
theorem NQ {α:Type}(r:α->α->Prop)(ir: ∀x,¬r x x)(tr: ∀x y z,r x y->r y z->r x z): ∀l:G0 α,l≠ []-> ∃m∈l,∀o∈l,¬r o m
 | [],h=>absurd rfl h
 | [x],_=>⟨x,P1.mpr rfl,λo ho=>by rw [P1.mp ho];exact ir x⟩
 |x::y::l,_=>by
  obtain⟨m,hm,lo⟩:=NQ r ir tr (y::l) (by simp)
  by_cases z:r x m
  ·refine⟨x,P7,λo ho w=> ?_⟩;rcases D2.mp ho with e|e
   ·rw [e] at w;exact ir x w
   ·exact lo o e (tr _ _ _ w z)
  ·refine⟨m,D1 _ hm,λo ho w=> ?_⟩;rcases D2.mp ho with e|e
   ·rw [e] at w;exact z w
   ·exact lo o e w
theorem AR {Ls:G0 (G0 G7)}(sub: ∀P∈Ls,P∈ze T n)(ne:Ls≠ []): ∃P∈Ls,frB T n P Ls=true:=by
 obtain⟨m,hm,lo⟩:=NQ (λ(x y: {P:G0 G7 // P∈ze T n})=>x≠y/\wk T n (x.1.headD 0) (y.1.headD 0)=true) (λx h=>h.1 rfl) (λx y z a b=>⟨λe=>by
  subst e;exact a.1 (Subtype.ext (Xq x.2 y.2 a.2 b.2)),jT (zJ y.2).1 a.2 b.2⟩) (Ls.attach.map λ(x: {x // x∈Ls})=>(⟨x.1,sub x.1 x.2⟩: {P:G0 G7 // P∈ze T n})) (λz=>ne (by have:=congrArg iU z;rw [G6,List.length_attach] at this;exact aH.mp this))
 obtain⟨x,hx,rfl⟩:=S4.mp hm;refine⟨x.1,x.2,fr_iff.mpr λo ho no=> ?_⟩;cases z:wk T n (o.headD 0) (x.1.headD 0) with
 |false=>rfl
 |true=>exact absurd ⟨λe=>no (congrArg Subtype.val e),z⟩ (lo ⟨o,sub o ho⟩ (S4.mpr ⟨⟨o,ho⟩,List.mem_attach _ _,rfl⟩))
theorem vG:(ze T n).Nodup:=pcs_rise.imp λ{a b} h e=>by
 rw [e] at h;have:=PP b b;unfold leS at this;rw [h] at this;cases this
end
section
variable {X:Cx}{k i:G7}{ps N Pn:G0 Str}{spd:RDn}{x:Str}{p pos pos':Pos}{e e2 e3 e4 iter elt:N0}{es ifs:G0 N0}{t:TAD}{te te2 te3 te4:TED}{ti:TID}{tt:TTD}{scope sc:Q1}{c:N0}
theorem jk (C:jw X.prog X.w X.K X.mg X.base k x ps spd)(hr:Room k X.A)(ha:JA X (e::es) t)(hg:Gl X x:=by rfl)(hdb:(x==("__debug__" :Str))=false:=by decide)(he:D7 (e::es) X.env=(false,J0 e X.env)::D7 es X.env:=by rfl)(hpl:(K7 pos (D7 es X.env)).any (·.1)=false:=by rfl):JE X (.Call (.Name x p) (e::es) [] pos) (dCB spd t):=by
 obtain⟨g,gd,F,hb,hk,hm⟩:=C;exact Sr F hr hg hm hk hb ha hdb he hpl
theorem jxk {spr:RDx}(C:WR X.prog X.w X.K X.mg X.base k x ps spr)(hr:Room k X.A)(ha:JA X (e::es) t)(hg:Gl X x:=by rfl)(hdb:(x==("__debug__" :Str))=false:=by decide)(he:D7 (e::es) X.env=(false,J0 e X.env)::D7 es X.env:=by rfl)(hpl:(K7 pos (D7 es X.env)).any (·.1)=false:=by rfl):JXE X (.Call (.Name x p) (e::es) [] pos) (OZ spr t):=by
 obtain⟨g,gd,F,hb,hk,hm⟩:=C;exact Cy F hr hg hm hk hb ha hdb he hpl
theorem j1 (a:JE X e te)(h:zf e=true:=by rfl):JA X [e] (zw te We):=jac a zk h
theorem j2 (a:JE X e te)(b:JE X e2 te2)(h:zf e=true:=by rfl)(h2:zf e2=true:=by rfl):JA X [e,e2] (zw te (zw te2 We)):=jac a (j1 b h2) h
theorem j3 (a:JE X e te)(b:JE X e2 te2)(c:JE X e3 te3)(h:zf e=true:=by rfl)(h2:zf e2=true:=by rfl)(h3:zf e3=true:=by rfl):JA X [e,e2,e3] (zw te (zw te2 (zw te3 We))):=jac a (j2 b c h2 h3) h
theorem j4 (a:JE X e te)(b:JE X e2 te2)(c:JE X e3 te3)(d:JE X e4 te4)(h:zf e=true:=by rfl)(h2:zf e2=true:=by rfl)(h3:zf e3=true:=by rfl)(h4:zf e4=true:=by rfl):JA X [e,e2,e3,e4] (zw te (zw te2 (zw te3 (zw te4 We)))):=jac a (j3 b c d h2 h3 h4) h
theorem Ra (Z:Zs X.mg)(a:JE X e te)(hg:Gl X "len" :=by rfl)(h:zf e=true:=by rfl)(he:D7 [e] X.env=(false,J0 e X.env)::D7 [] X.env:=by rfl)(hpl:(K7 pos (D7 [] X.env)).any (·.1)=false:=by rfl):JE X (.Call (.Name "len" p) [e] [] pos) (dCB FL (zw te We)):=yf Ov hg Z.len PySem.boot_len (j1 a h) (by decide) (by decide) he hpl
theorem jse (i:G7)(S:FnScope X.N Pn sc)(he:JE X e te)(hi:X.N[i]? =some x:=by rfl)(hx:Loc X.env.scope x:=by first|exact aS rfl|exact cX rfl)(hs:cO e (some (.Name x pos')) pos.line X.env=pure false:=by rfl)(hf:X.fn x=true\/X.env.scope.names.lookup x=some .local:=by first|exact .inl rfl|exact .inr rfl|assumption):JS X (.Assign [.Name x pos'] e pos) (RA i te):=Tu S.nd hi hx he hs hf
theorem jgn (i:G7)(S:FnScope X.N Pn sc)(hi:X.N[i]? =some x:=by rfl)(hx:Loc X.env.scope x:=by first|exact aS rfl|exact cX rfl)(hf:X.fn x=true\/X.env.scope.names.lookup x=some .local:=by first|exact .inl rfl|exact .inr rfl|assumption):JG X (.Name x pos) (gN i):=Cd S.nd hi hx hf
theorem jl1 (i:G7)(S:FnScope X.N Pn sc)(hi:JI X (.Name x p) iter ti)(ht: ∀C s₀ H₀ ex,JT (yI X scope C s₀ H₀ ex) c tt)(he: ∀C s₀ H₀ ex,JE (yI X scope C s₀ H₀ ex) elt te)(hc:X.calm=true:=by rfl)(hB:UD X.N X.env.scope.names scope [i]=true:=by rfl)(hx:X.N[i]? =some x:=by rfl)(hl:scope.names.lookup x=some .local\/scope.names.lookup x=some .cell:=by first|exact aS rfl|exact cX rfl)(hs: ∀x,O4 iter X.env x=pure x:=by intro _;rfl):JE X (.ListComp elt [⟨.Name x p,iter,[c],0⟩] scope pos) (yJ (bN i) [i] ti tt te):=
 jlc hc (zB hB) hi (P1.mpr rfl) S.nd hx hl (λX' hX=>by obtain⟨C,s₀,H₀,ex,rfl⟩:=hX;exact VQ (ht C s₀ H₀ ex)) (λX' hX=>by obtain⟨C,s₀,H₀,ex,rfl⟩:=hX;exact he C s₀ H₀ ex) hs
theorem jl0 (i:G7)(S:FnScope X.N Pn sc)(hi:JI X (.Name x p) iter ti)(he: ∀C s₀ H₀ ex,JE (yI X scope C s₀ H₀ ex) elt te)(hc:X.calm=true:=by rfl)(hB:UD X.N X.env.scope.names scope [i]=true:=by rfl)(hx:X.N[i]? =some x:=by rfl)(hl:scope.names.lookup x=some .local\/scope.names.lookup x=some .cell:=by first|exact aS rfl|exact cX rfl)(hs: ∀x,O4 iter X.env x=pure x:=by intro _;rfl):JE X (.ListComp elt [⟨.Name x p,iter,[],0⟩] scope pos) (yJ (bN i) [i] ti UC te):=
 jlc hc (zB hB) hi (P1.mpr rfl) S.nd hx hl (λX' hX=>WN) (λX' hX=>by obtain⟨C,s₀,H₀,ex,rfl⟩:=hX;exact he C s₀ H₀ ex) hs
theorem fsc {N P:G0 Str}(a:sc.kind= .function:=by rfl)(b:sc.isCoroutine=false:=by rfl)(c:sc.isGenerator=false:=by rfl)(d:N.Nodup:=by decide +kernel)(e:N.take P.length=P:=by rfl)(f: ∀x∈P,sc.names.lookup x=some .local\/sc.names.lookup x=some .cell:=by decide +kernel)(g: ∀y∈sc.names,y.2≠ .free:=by decide +kernel):FnScope N P sc:=⟨a,b,c,d,e,f,g⟩
theorem jc1 {op:oE}{f:RD2}(ho:OpQ X (L7 op) f)(ha:JE X e te)(hb:JE X e2 te2)(hm:Z4 op e2=false:=by exact QR _):JE X (.Compare e [op] [e2] pos) (dOp f te te2):=Hz ho ha hb hm
theorem jt1 {op:oE}{f:RD2}(ho:OpQ X (L7 op) f)(ha:JE X e te)(hb:JE X e2 te2)(hm:Z4 op e2=false:=by exact QR _):JT X (.Compare e [op] [e2] pos) (vR (dOp f te te2)):=Gz ho ha hb hm
theorem ji1 (ha:JE X e te)(hb:JE X e2 te2)(hs:WE e2:=by exact λ_ _=>rfl):JE X (.Subscript e e2 pos) (dOp ixD te te2):=jix ha hb hs
theorem jrg {tg:N0}(Z:Zs X.mg)(ha:JE X e te)(hg:Gl X "range" :=by rfl)(h:zf e=true:=by rfl)(hs:D7 [e] X.env= [(false,J0 e X.env)]:=by rfl):JI X tg (.Call (.Name "range" p) [e] [] pos) (iR1 (zw te We)):=So hg Z.range (j1 ha h) hs
end
section
variable {P:R9}{w:N4}{K:G5}{mg:Str->P4 G1}{base:B6}{x qual:Str}{st:K8}{f:G9}{fd:N5}{N ps:G0 Str}{k:G7}
theorem Fun.okM {spd:RDn}(F:Fun K x qual st f fd)(S:FnScope N ps (jd st)){tb:TSD}(hbody: ∀ {cdv:G1} {A:T3} {outer:G0 Env} {s:G2} {H:Hp} {E:XK},Room k (A.deeper (Q7 qual (jd st) s.heap.objs.size f cdv))->JSs (ZN CX0 P w K mg base N qual (jd st) f cdv A outer s H E).nox (jK st) tb)
 (read: ∀ds h Q,spd ds h Q->ds.length=ps.length/\tb (VA Q) (jU N ds) h):FnOk P w K mg base CX0 (k+1) f fd ps (LSp K spd):=F.okJ S (λds h Q q=>(read ds h Q q).1) tb (λ_ _ _ _ _ _ hr=>hbody hr) λds h Q q=>(read ds h Q q).2
theorem Fun.okMX {spr:RDx}(F:Fun K x qual st f fd)(S:FnScope N ps (jd st)){tb:TXD}(hbody: ∀ {cdv:G1} {A:T3} {outer:G0 Env} {s:G2} {H:Hp} {E:XK},Room k (A.deeper (Q7 qual (jd st) s.heap.objs.size f cdv))->JX (ZN (CXR P w) P w K mg base N qual (jd st) f cdv A outer s H E) (jK st) tb)
 (read: ∀ds h R,spr ds h R->ds.length=ps.length/\tb (jU N ds) h R):FnOk P w K mg base (CXR P w) (k+1) f fd ps (Ny mg K spr):=F.okX S (λds h Q q=>(read ds h Q q).1) tb (λ_ _ _ _ _ _ hr=>hbody hr) λds h Q q=>(read ds h Q q).2
end
theorem Vg {t u:TSD}{E:EndsD}{σ:SD}{h:HD}(σ1:SD)(first: ∀K:SD->HD->Prop,K σ1 h->t {E with nx:=K} σ h)(rest:u E σ1 h):wO t u E σ h:=first (u E) rest
theorem sz0:0<=sizeLine:=by decide
theorem sz1:1<=sizeLine:=by decide
theorem sz2:2<=sizeLine:=by decide
theorem sz3:3<=sizeLine:=by decide
theorem sz4:4<=sizeLine:=by decide
section
variable {X:Cx}{s0 s1 s2 s3 s4 s5 s6 s7:K8}{t0 t1 t2 t3 t4 t5 t6 t7:TSD}{c:N0}{tc:TTD}{pos:Pos}
theorem js2 (a:JS X s0 t0)(b:JS X s1 t1):JSs X [s0,s1] (wO t0 t1):=(jq a (jV b))
theorem js3 (a:JS X s0 t0)(b:JS X s1 t1)(c:JS X s2 t2):JSs X [s0,s1,s2] (wO t0 (wO t1 t2)):=(jq a (jq b (jV c)))
theorem js4 (a:JS X s0 t0)(b:JS X s1 t1)(c:JS X s2 t2)(d:JS X s3 t3):JSs X [s0,s1,s2,s3] (wO t0 (wO t1 (wO t2 t3))):=(jq a (jq b (jq c (jV d))))
theorem js5 (a:JS X s0 t0)(b:JS X s1 t1)(c:JS X s2 t2)(d:JS X s3 t3)(e:JS X s4 t4):JSs X [s0,s1,s2,s3,s4] (wO t0 (wO t1 (wO t2 (wO t3 t4)))):=(jq a (jq b (jq c (jq d (jV e)))))
theorem js6 (a:JS X s0 t0)(b:JS X s1 t1)(c:JS X s2 t2)(d:JS X s3 t3)(e:JS X s4 t4)(f:JS X s5 t5):JSs X [s0,s1,s2,s3,s4,s5] (wO t0 (wO t1 (wO t2 (wO t3 (wO t4 t5))))):=(jq a (jq b (jq c (jq d (jq e (jV f))))))
theorem js7 (a:JS X s0 t0)(b:JS X s1 t1)(c:JS X s2 t2)(d:JS X s3 t3)(e:JS X s4 t4)(f:JS X s5 t5)(g:JS X s6 t6):JSs X [s0,s1,s2,s3,s4,s5,s6] (wO t0 (wO t1 (wO t2 (wO t3 (wO t4 (wO t5 t6)))))):=(jq a (jq b (jq c (jq d (jq e (jq f (jV g)))))))
theorem js8 (a:JS X s0 t0)(b:JS X s1 t1)(c:JS X s2 t2)(d:JS X s3 t3)(e:JS X s4 t4)(f:JS X s5 t5)(g:JS X s6 t6)(h:JS X s7 t7):JSs X [s0,s1,s2,s3,s4,s5,s6,s7] (wO t0 (wO t1 (wO t2 (wO t3 (wO t4 (wO t5 (wO t6 t7))))))):=(jq a (jq b (jq c (jq d (jq e (jq f (jq g (jV h))))))))
theorem VD (hc:JT X c tc)(h:JS X s0 t0):JS X (.If c [s0] [] pos) (BH tc t0 VL):=Ea hc (jV h) UH
end
end L2
namespace L2
section
variable {α:Type}[DecidableEq α]
def DD (lt:α->α->T5):G0 α->G0 α->T5
 | [],[]=>false
 | [],_::_=>true
 |_::_,[]=>false
 |a::as,b::bs=>if a=b then DD lt as bs else lt a b
theorem DE (lt:α->α->T5): ∀l:G0 α,DD lt l l=false
 | []=>rfl
 |a::l=>by unfold DD;rw [R6 rfl];exact DE lt l
theorem Xr {lt:α->α->T5}{p:α->Prop}(tot: ∀a b,p a->p b->a≠b->lt a b=true\/lt b a=true): ∀ {l m:G0 α},(∀x∈l,p x)->(∀x∈m,p x)->l≠m->DD lt l m=true\/DD lt m l=true
 | [],[],_,_,h=>absurd rfl h
 | [],_::_,_,_,_=> .inl rfl
 |_::_,[],_,_,_=> .inr rfl
 |a::l,b::m,hl,hm,h=>by
  unfold DD
  by_cases e:a=b
  ·subst e;rw [R6 rfl,R6 rfl];exact Xr tot (λx hx=>hl x (D1 _ hx)) (λx hx=>hm x (D1 _ hx)) λz=>h (by rw [z])
  ·rw [R8 e,R8 (U9 e)];exact tot a b (hl a P7) (hm b P7) e
def but (p:α)(l:G0 α):G0 α:=l.filter λo=> !decide (o=p)
theorem mem_but {p x:α}{l:G0 α}:x∈but p l↔x∈l/\x≠p:=by
 unfold but;rw [C8,dS,gL]
theorem ZB {p:α}{l:G0 α}(h:p∈l)(nd:l.Nodup):(but p l).length+1=l.length:=by
 have e:but p l=l.erase p:=by
  unfold but;rw [nd.erase_eq_filter];exact mB λx _=>by by_cases c:x=p<;>simp [c,bne]
 rw [e,W1 h];have:=X1 h;omega
def zv (fr:α->G0 α->T5):G7->G0 α->G0 (G0 α)
 |0,_=> [[]]
 |k+1,l=>l.flatMap λp=>if fr p l then (zv fr k (but p l)).map (p:: ·) else []
def Rb (fr:α->G0 α->T5):G7->G0 α->G0 α
 |0,_=> []
 |k+1,l=>match l.find? (fr · l) with
  |none=> []
  |some p=>p::Rb fr k (but p l)
theorem Xs {fr:α->G0 α->T5}: ∀ {k:G7} {l r:G0 α},r∈zv fr k l-> ∀x∈r,x∈l
 |0,l,r,h,x,hx=>by
  rw [P1.mp h] at hx;cases hx
 |k+1,l,r,h,x,hx=>by
  obtain⟨p,hp,h⟩:=cU.mp h;cases z:fr p l with
  |false=>rw [z] at h;cases h
  |true=>
   rw [z] at h;obtain⟨q,hq,rfl⟩:=S4.mp h;rcases D2.mp hx with e|e
   ·rw [e];exact hp
   ·exact(mem_but.mp (Xs hq x e)).1
theorem NR {fr:α->G0 α->T5}{G:G0 α->Prop}(ex: ∀l,G l->l≠ []-> ∃p∈l,fr p l=true)(on: ∀l p,G l->p∈l->fr p l=true->G (but p l)): ∀ {k:G7} {l:G0 α},G l->l.Nodup->l.length=k->Rb fr k l∈zv fr k l
 |0,l,_,_,_=>P1.mpr rfl
 |k+1,l,g,nd,hk=>by
  obtain⟨p,hp,f⟩:=ex l g (λz=>by rw [z] at hk;cases hk);unfold Rb zv;cases z:l.find? (fr · l) with
  |none=>exact absurd f (by rw [mZ];have:=lE.mp z p hp;rw [mZ] at this;exact this)
  |some q=>
   have fq:fr q l=true:=by have:=tK z;exact this
   have mq:q∈l:=List.mem_of_find?_eq_some z;refine cU.mpr ⟨q,mq,?_⟩;rw [R6 fq];have:=ZB mq nd;exact S4.mpr ⟨_,NR ex on (on l q g mq fq) (nd.filter _) (by omega),rfl⟩
theorem Wt {f:α->T5}{lt:α->α->T5}: ∀ {l:G0 α} {q p:α},l.Pairwise (λa b=>lt a b=true)->l.find? f=some q->p∈l->f p=true->p=q\/lt q p=true
 | [],_,_,_,h,_,_=>by cases h
 |a::l,q,p,s,h,hp,fp=>by
  rw [K9] at s;rw [nX] at h;cases z:f a with
  |true=>
   rw [z] at h;injection h with h;subst h
   rcases D2.mp hp with e|e
   ·exact .inl e
   ·exact .inr (s.1 p e)
  |false=>
   rw [z] at h;rcases D2.mp hp with e|e
   ·rw [e,z] at fp;cases fp
   ·exact Wt s.2 h e fp
theorem ZC {fr:α->G0 α->T5}{lt:α->α->T5}(as: ∀a b,lt a b=true->lt b a=false): ∀ {k:G7} {l r:G0 α},l.Pairwise (λa b=>lt a b=true)->r∈zv fr k l->DD lt r (Rb fr k l)=false
 |0,l,r,_,h=>by rw [P1.mp h];rfl
 |k+1,l,r,s,h=>by
  obtain⟨p,hp,h⟩:=cU.mp h;cases z:fr p l with
  |false=>rw [z] at h;cases h
  |true=>
   rw [z] at h;obtain⟨q,hq,rfl⟩:=S4.mp h;unfold Rb;cases y:l.find? (fr · l) with
   |none=>rfl
   |some m=>
    show DD lt (p::q) (m::_)=false;unfold DD;rcases Wt s y hp z with e|e
    ·subst e;rw [R6 rfl];exact ZC as (s.filter _) hq
    ·by_cases e':p=m
     ·subst e';rw [R6 rfl];exact ZC as (s.filter _) hq
     ·rw [R8 e'];exact as _ _ e
end
end L2
namespace L2
open PySem PySem.Spec PyProof.Rows
section
variable {n e:G7}{T:G0 (G0 D3)}{P o:G0 G7}
theorem AS (h:Sq n e T)(hn:n<=8){S:G0 G7}{i:G7}(hi:i<n)(no:i ∉ S): ∀ (k:G7) {j:G7},j<n->j∈S->RP n T k i j-> ∃a b,a<n/\b<n/\b∈S/\a ∉ S/\ent T a b≠0/\wk T n i a=true
 |0,j,hj,js,r=>absurd ((Zl hi hj).mp r ▸ js) no
 |k+1,j,hj,js,r=>by
  obtain⟨m,hm,r1,r2⟩:=(YO h hn k 1 hi hj).mp r
  by_cases z:m∈S
  ·exact AS h hn hi no k hm z r1
  ·exact⟨m,j,hm,hj,js,z,(YS h hn).mp r2,AQ h hn k hi hm r1⟩
def arB (T:G0 (G0 D3))(o P:G0 G7):T5:=o.any λi=>P.any λj=> !decide (ent T i j=0)
theorem ar_iff:arB T o P=true↔ ∃i∈o,∃j∈P,ent T i j≠0:=by
 unfold arB;rw [cQ];refine ID λi=>tL λ_=> ?_
 rw [cQ];refine ID λj=>tL λ_=> ?_
 rw [dS,gL]
def frA (T:G0 (G0 D3))(P:G0 G7)(Ls:G0 (G0 G7)):T5:=((but P Ls).filter λo=>arB T o P).isEmpty
structure Left (T:G0 (G0 D3))(n:G7)(Ls:G0 (G0 G7)):Prop where
 sub: ∀P∈Ls,P∈ze T n
 on: ∀P∈Ls,∀Q∈ze T n,wk T n (P.headD 0) (Q.headD 0)=true->Q∈Ls
theorem Xt:Left T n (ze T n):=⟨λ_ h=>h,λ_ _ _ h _=>h⟩
theorem DF {Ls:G0 (G0 G7)}(g:Left T n Ls)(fr:frB T n P Ls=true):Left T n (but P Ls):=
 ⟨λQ hQ=>g.sub Q (mem_but.mp hQ).1,λO hO Q hQ w=>by
  obtain⟨hO,ne⟩:=mem_but.mp hO;refine mem_but.mpr ⟨g.on O hO Q hQ w,λz=> ?_⟩;rw [z,fr_iff.mp fr O hO ne] at w;cases w⟩
theorem DG {i:G7}(hP:P∈ze T n)(hi:i<n):i∈P↔wk T n (P.headD 0) i=true/\wk T n i (P.headD 0)=true:=by
 obtain⟨h1,e1⟩:=zJ hP;constructor
 ·intro z;rw [<-e1] at z;exact(mem_pc.mp z).2
 ·intro z;rw [<-e1];exact mem_pc.mpr ⟨hi,z⟩
theorem MR (hP:P∈ze T n):P.headD 0∈P:=(DG hP (zJ hP).1).mpr ⟨yU T n _,yU T n _⟩
theorem Ui (h:Sq n e T)(hn:n<=8){Ls:G0 (G0 G7)}(g:Left T n Ls)(hP:P∈Ls):frA T P Ls=frB T n P Ls:=by
 have pp:=g.sub P hP;obtain⟨h1,e1⟩:=zJ pp;rw [Q3,fr_iff];unfold frA;rw [rX,iD];constructor
 ·intro z o ho ne;have oo:=g.sub o ho;obtain⟨h2,e2⟩:=zJ oo;cases w:wk T n (o.headD 0) (P.headD 0) with
  |false=>rfl
  |true=>
   exfalso;obtain⟨_,k,r⟩:=AO h hn h2 w;have no:o.headD 0 ∉ P:=λi=>ne (Xq oo pp w ((DG pp h2).mp i).1)
   obtain⟨a,b,ha,hb,bP,aP,ar,wa⟩:=AS h hn h2 no k h1 (MR pp) r;have qq:pcS T n a∈ze T n:=mem_pcs.mpr ⟨a,ha,rfl⟩;obtain⟨h3,e3⟩:=zJ qq;have aq:a∈pcS T n a:=Ug ha;have wq:wk T n a ((pcS T n a).headD 0)=true:=((DG qq ha).mp aq).2;have ql:pcS T n a∈Ls:=g.on o ho _ qq (jT ha wa wq);have nq:pcS T n a≠P:=λz=>aP (z ▸ aq)
   exact z _ (mem_but.mpr ⟨ql,nq⟩) (ar_iff.mpr ⟨a,aq,b,bP,ar⟩)
 ·intro z o ho;obtain⟨ho,ne⟩:=mem_but.mp ho;have oo:=g.sub o ho;obtain⟨h2,e2⟩:=zJ oo;intro ar;obtain⟨i,io,j,jP,ar⟩:=ar_iff.mp ar;have hi:i<n:=(Xp o oo).lt io;have hj:j<n:=(Xp P pp).lt jP;have:=z o ho ne;rw [jT hj (jT hi ((DG oo hi).mp io).1 (JD ar n)) ((DG pp hj).mp jP).2] at this;cases this
theorem Vh {α:Type}{f g:α->T5}: ∀ {l:G0 α},(∀x∈l,f x=g x)->l.find? f=l.find? g
 | [],_=>rfl
 |a::l,h=>by rw [nX,nX,h a P7,Vh λx hx=>h x (D1 _ hx)]
def Vi (T:G0 (G0 D3))(n:G7)(k:G7)(Ls:G0 (G0 G7)):G0 (G0 G7):=Rb (λP l=>frB T n P l) k Ls
theorem Xu (h:Sq n e T)(hn:n<=8): ∀ {k:G7} {Ls:G0 (G0 G7)},Left T n Ls->Rb (λP l=>frA T P l) k Ls=Vi T n k Ls
 |0,_,_=>rfl
 |k+1,Ls,g=>by
  unfold Vi Rb;have:Ls.find? (λP=>frA T P Ls)=Ls.find? (λP=>frB T n P Ls):=Vh λP hP=>Ui h hn g hP
  rw [this];cases z:Ls.find? (λP=>frB T n P Ls) with
  |none=>rfl
  |some m=>
   have fm:frB T n m Ls=true:=by have:=tK z;exact this
   show m::_=m::_;rw [Xu h hn (DF g fm)];rfl
theorem Vj (a b:G0 G7)(ne:a≠b):HT.ju (toI a) (toI b)=true\/HT.ju (toI b) (toI a)=true:=by
 cases x:HT.ju (toI a) (toI b) with
 |true=>exact .inl rfl
 |false=>
  cases y:HT.ju (toI b) (toI a) with
  |true=>exact .inr rfl
  |false=>exact absurd (MD (by unfold leS;rw [y];rfl) (by unfold leS;rw [x];rfl)) ne
theorem MS {k:G7}{Ls r:G0 (G0 G7)}{P:G0 G7}(eF:Ls.filter (λP=>frB T n P Ls)=P::r):Vi T n (k+1) Ls=P::Vi T n k (but P Ls):=by
 have:Ls.find? (λP=>frB T n P Ls)=some P:=by rw [<-List.head?_filter,eF];rfl
 unfold Vi;rw [Rb,this]
theorem DH {Ls:G0 (G0 G7)}{j:G7}(nd:Ls.Nodup)(hj:Ls[j]? =some P):Ls.eraseIdx j=but P Ls:=by
 obtain⟨hl,ej⟩:=P5.mp hj;unfold but;have:Ls.filter (λo=> !decide (o=P))=Ls.erase P:=by
  rw [nd.erase_eq_filter];exact mB λx _=>by by_cases c:x=P<;>simp [c,bne]
 rw [this,List.erase_eq_eraseIdx];have ix:Ls.idxOf? P=some j:=by
  rw [List.idxOf?,List.findIdx?_eq_some_iff_getElem];refine⟨hl,by rw [ej];exact W7 P,λi hi z=> ?_⟩;have e2:=eq_of_beq z;rw [<-ej] at e2;exact O3.mp nd i j (by omega) hl hi e2
 rw [ix]
end
section
variable {α β:Type}{i i':G7}{js:G0 G7}{ti ti':TID}{te:TED}{σ:SD}{h:HD}{Q:KD}{j:ItD}
theorem HV (xs:G0 α)(c g:α->D)(p:α->T5){tt:TTD}(hz:xs.length<=1000)(hj:j h=some (xs.map c))(ht: ∀R:ItD->HD->Prop,R j h->ti σ h R)
 (hp: ∀x∈xs,∀Q':T5->HD->Prop,(∀h3,Sub h h3->Q' (p x) h3)->tt ((zi js σ).set i (some (c x))) h Q')(he: ∀x∈xs,p x=true-> ∀h3,Sub h h3-> ∀Q':KD,Q' (g x) h3->te ((zi js σ).set i (some (c x))) h3 Q')(hq: ∀a,h a=none->Q (.lst a) (zR h a ((xs.filter p).map g))):yJ (bN i) js ti tt te σ h Q:=by
 refine ht _ ⟨xs.length,λk ys h'=>h'=h/\ys=((xs.take k).filter p).map g,⟨rfl,by simp⟩,?_⟩;rintro k ys h' ⟨rfl,rfl⟩;refine⟨?_,xs.map c,hj,by simp,λhl a ha=> ?_,λd hd=>⟨_,rfl,?_⟩⟩
 ·have:=Y3 p (xs.take k);simp only [G6,M5] at this ⊢;exact T4 (jz (by omega))
 ·rw [C5 (by simpa using hl)];exact hq a ha
 rw [D9] at hd;cases hx:xs[k]? with
 |none=>rw [hx] at hd;cases hd
 |some x=>
  rw [hx] at hd;cases hd;refine hp x (P6 hx) _ λh3 s3=> ?_
  cases hb:p x with
  |true=>
   rw [R6 rfl];refine he x (P6 hx) hb h3 s3 _ ⟨h',s3,rfl,?_⟩;rw [K5,hx];simp [hb]
  |false=>
   rw [R8 S5];refine⟨h',s3,rfl,?_⟩;rw [K5,hx];simp [hb]
end
def fac:G7->G7
 |0=>1
 |k+1=>(k+1)*fac k
variable {h:HD}
theorem Fv {A B:G9}{S:G0 G7}{Q:KD}(k:h A=some (S.map λ(k:G7)=>D.int (k:D3)))(k':h B=some [])(q:Q (.bl (!S.isEmpty)) h):neE (.lst A) (.lst B) h Q:=by
 refine⟨.list ((vS S).map .int),.list [],⟨A,_,rfl,k,?_⟩,⟨B,_,rfl,k',rfl⟩,VS _,by decide +kernel,?_⟩
 ·have:=Zg h (vS S);unfold vS at this ⊢;rw [O0 (f:=λ(k:G7)=>(k:D3)) (g:=D.int)] at this;exact this
 ·cases S with
  |nil=>exact q
  |cons x S=>exact q
variable {α:Type}
theorem Yb [DecidableEq α]{fr:α->G0 α->T5}: ∀ {k:G7} {l:G0 α},l.Nodup->l.length=k->(zv fr k l).length<=fac k
 |0,_,_,_=>P3 _
 |k+1,l,nd,hk=>by
  have one: ∀p∈l,(if fr p l then (zv fr k (but p l)).map (p:: ·) else []).length<=fac k:=λp hp=>by
   by_cases z:fr p l=true
   ·rw [R6 z,G6];exact Yb (nd.filter _) (by have:=ZB hp nd;omega)
   ·rw [R8 z];exact M7 _
  have all: ∀m:G0 α,(∀p∈m,p∈l)->(m.flatMap λp=>if fr p l then (zv fr k (but p l)).map (p:: ·) else []).length<=m.length*fac k:=λm=>by
   induction m with
   |nil=>intro _;exact M7 _
   |cons a m ih=>
    intro hm;have x:=one a (hm a P7);have y:=ih λp hp=>hm p (D1 _ hp)
    rw [mE,P8,D8,gX];omega
  have:=all l λp hp=>hp
  rw [hk] at this;exact this
theorem DI: ∀ {m:G7},m<=4->fac m<=24
 |0,_=>by decide
 |1,_=>by decide
 |2,_=>by decide
 |3,_=>by decide
 |4,_=>by decide
 |m+5,h=>by omega
theorem ZD [DecidableEq α]{fr:α->G0 α->T5}: ∀ {k:G7} {l r:G0 α},r∈zv fr k l->r.length<=k
 |0,l,r,h=>by rw [P1.mp h];exact P3 _
 |k+1,l,r,h=>by
  obtain⟨p,hp,h⟩:=cU.mp h;cases z:fr p l with
  |false=>rw [z] at h;cases h
  |true=>
   rw [z] at h;obtain⟨q,hq,rfl⟩:=S4.mp h;exact cT (ZD hq)
theorem Xv {β:Type}{f:α->G0 β}{c:G7}: ∀ {l:G0 α},(∀p∈l,(f p).length<=c)->(l.flatMap f).length<=l.length*c
 | [],_=>M7 _
 |a::l,h=>by
  have x:=h a P7;have y:=Xv (l:=l) λp hp=>h p (D1 _ hp)
  rw [mE,P8,D8,gX];omega
theorem Fw [DecidableEq α]{fr:α->G0 α->T5}{m:G7}{l:G0 α}{p:α}(nd:l.Nodup)(hm:l.length=m+1)(m4:m<=4)(hp:p∈l):(if fr p l then (zv fr m (but p l)).map (p:: ·) else []).length<=24:=by
 by_cases z:fr p l=true
 ·rw [R6 z,G6];exact S0 (Yb (nd.filter _) (by have:=ZB hp nd;omega)) (DI m4)
 ·rw [R8 z];exact M7 _
theorem MT {n:G7}{T:G0 (G0 D3)}{o P:G0 G7}(lt: ∀j∈P,j<n):(!((Zi n T o).filter λj=>decide (j∈P)).isEmpty)=arB T o P:=by
 rw [Q3,ar_iff,dS,<-mZ,rX,iD];constructor
 ·intro z;refine Y2 λno=>z λj hj w=>no ?_
  obtain⟨_,i,hi,ar⟩:=mem_stepS.mp hj;exact⟨i,hi,j,J5 w,ar⟩
 ·rintro ⟨i,hi,j,hj,ar⟩ z;exact z j (mem_stepS.mpr ⟨lt j hj,i,hi,ar⟩) (M8 hj)
def RwAt (h:HD):G0 G9->G0 (G0 (G0 G7))->Prop
 | [],[]=>True
 |a::as,r::rs=>h a=some (r.map jR)/\RwAt h as rs
 |_,_=>False
theorem RwAt.sub {h':HD}(s:Sub h h'): ∀ {as:G0 G9} {rs:G0 (G0 (G0 G7))},RwAt h as rs->RwAt h' as rs
 | [],[],_=>trivial
 |a::as,r::rs,x=>⟨s _ _ x.1,x.2.sub s⟩
theorem RwAt.app: ∀ {as as':G0 G9} {rs rs':G0 (G0 (G0 G7))},RwAt h as rs->RwAt h as' rs'->RwAt h (as++as') (rs++rs')
 | [],_,[],_,_,y=>y
 |a::as,_,r::rs,_,x,y=>⟨x.1,x.2.app y⟩
theorem RwAt.len: ∀ {as:G0 G9} {rs:G0 (G0 (G0 G7))},RwAt h as rs->as.length=rs.length
 | [],[],_=>rfl
 |a::as,r::rs,x=>congrArg (· +1) x.2.len
theorem RwAt.at_: ∀ {as:G0 G9} {rs:G0 (G0 (G0 G7))} {k:G7} {a:G9},RwAt h as rs->as[k]? =some a-> ∃r,rs[k]? =some r/\h a=some (r.map jR)
 |a::as,r::rs,0,_,x,e=>by
  injection e with e;subst e;exact⟨r,rfl,x.1⟩
 |a::as,r::rs,k+1,_,x,e=>x.2.at_ e
end L2
namespace L2
open PySem PySem.Spec PyProof.Rows PySem.SeqAt
section
variable {prog:R9}{w:N4}{A:T3}{E:G1->G2->Prop}{s:G2}
theorem DJ {l1 l2:G9}{xs ys:S6 G1}{P:eU->G2->Prop}(t1:s.heap.IsList l1 xs)(t2:s.heap.IsTuple l2 ys)
 (h: ∀h' n,n=s.heap.objs.size->ZipAt h' (n+4) (n+2) (n+3)->bF h' (n+2) (.ref n) (.ref (n+1))->(∃a b,bF h' (n+3) a b)->h'.IsListIter n l1 0->h'.IsTupleIter (n+1) l2 0->
  (∀b o,s.heap.get? b=some o->h'.get? b=some o)->P (.done (.ret (.ref (n+4)))) {s with heap:=h'}):
 R3 (R7 prog w) A (Builtin.«zip.__new__» ⟨[.type "zip",.ref l1,.ref l2],[]⟩) P E s:=by
 have fine:=sub_zip;obtain⟨hp,g,d,tk,os⟩:=s;have first:Heap.IsList (Shared.heap ⟨hp,g,d,tk,os⟩) l1 xs:=t1
 have second: ∀o,Heap.IsTuple (Shared.heap ⟨hp.push o,g,d,tk,os⟩) l2 ys:=λo=>Heap.IsTuple.push t2 o
 wp_walk using V7 first,Y5 (second _)
 have size: ∀ (q:B6) o,(q.push o).objs.size=q.objs.size+1:=λq o=>cP ..
 have n2: ∀o1 o2,((hp.push o1).push o2).objs.size=hp.objs.size+2:=λ_ _=>by rw [size,size]
 have n3: ∀o1 o2 o3,(((hp.push o1).push o2).push o3).objs.size=hp.objs.size+3:=λ_ _ _=>by rw [size,n2]
 have n4: ∀o1 o2 o3 o4,((((hp.push o1).push o2).push o3).push o4).objs.size=hp.objs.size+4:=λ_ _ _ _=>by rw [size,n3]
 have up: ∀ {q:B6} {b o} o',q.get? b=some o->(q.push o').get? b=some o:=λo' e=>G3 o' e
 show P (.done (.ret (.ref (Heap.objs (((((hp.push _).push _).push _).push _))).size))) _;rw [n4];have at1:=R1 (hp.push {cls:= .type "list_iterator",data:= .fields #[.ref l1,.int 0 0]}) (o:= {cls:= .type "tuple_iterator",data:= .fields #[.ref l2,.int 0 0]}) rfl;rw [size] at at1;have top: ∀ (q:B6) (o:Obj) (m:G7),q.objs.size=m->o.isFreed=false->(q.push o).get? m=some o:=λq o m e f=>e ▸ R1 q f
 refine h _ hp.objs.size rfl ⟨.none,false,(top _ _ _ (n4 ..) rfl).trans ?_,.inl rfl⟩ ((up _ (up _ (top _ _ _ (n2 ..) rfl))).trans ?_) ⟨.none,.none,up _ (top _ _ _ (n3 ..) rfl)⟩ ⟨_,up _ (up _ (up _ (up _ (R1 _ rfl)))),rfl,rfl⟩ ⟨_,up _ (up _ (up _ at1)),rfl,rfl⟩ λb o e=>up _ (up _ (up _ (up _ (up _ e))))
 ·simp only [size,dM];rfl
 ·simp only [size];rfl
theorem Yc {l1 l2:G9}{xs ys:S6 G1}{Q:G1->G2->Prop}(t1:s.heap.IsList l1 xs)(t2:s.heap.IsTuple l2 ys)
 (h: ∀h' n,n=s.heap.objs.size->ZipAt h' (n+4) (n+2) (n+3)->bF h' (n+2) (.ref n) (.ref (n+1))->(∃a b,bF h' (n+3) a b)->h'.IsListIter n l1 0->h'.IsTupleIter (n+1) l2 0->
  (∀b o,s.heap.get? b=some o->h'.get? b=some o)->Q (.ref (n+4)) {s with heap:=h'}):R3 (R7 prog w) A (call (.type "zip") [.ref l1,.ref l2]) Q E s:=
 yQ (Made:=λo s₁=>s₁.TypeIs o "zip" /\Q o s₁) IE (F.typeCall_zip_2 _ _)
  (aY (W8 F.called_zip.plain F.entry_zip_new (oR (F.newCall_zip_2 _ _) (DJ t1 t2 λh' n en zp i o a b k=>⟨let ⟨_,_,e,_⟩:=zp;⟨_,e,rfl⟩,h h' n en zp i o a b k⟩))))
  λ_ _ ⟨ty,q⟩=>⟨ty,YI IE (by decide) ty (F.args_object_init_3 _ _ _) ⟨rfl,q⟩⟩
end
def SO (K : G5) (a b : G9) : It :=
  ⟨fun i H => ∃ xs ys x y, SqL K H a xs ∧ SqT K H b ys ∧ xs[i]? = some x ∧ ys[i]? = some y,
   fun i H x H' => ∃ p v u, H p = none ∧ (∀ xs, SqL K H a xs → xs[i]? = some v) ∧ (∀ ys, SqT K H b ys → ys[i]? = some u) ∧ x = .ref p ∧ H' = upd H p (.tup [v, u]),
   fun i H => ∃ xs ys, SqL K H a xs ∧ SqT K H b ys ∧ (xs.length ≤ i ∨ ys.length ≤ i)⟩
theorem Wu {prog:R9}{w:N4}{A:T3}{Q:P4 G1->G2->Prop}{E:G1->G2->Prop}{s:G2}{z TI TO i1 i2 l1 l2:G9}{i:G7}{xs ys:S6 G1}(calm:A.handled=none)(ap:ZApart z TI TO i1 i2)(n1:l1 ∉ [z,TO,i1,i2])(n2:l2 ∉ [z,TO,i1,i2])(i12:i1≠i2)
 (Z:ZipAt s.heap z TI TO)(hTI:bF s.heap TI (.ref i1) (.ref i2))(hTO: ∃a b,bF s.heap TO a b)(t1:s.heap.IsList l1 xs)(t2:s.heap.IsTuple l2 ys)(at1:s.heap.IsListIter i1 l1 i)(at2:s.heap.IsTupleIter i2 l2 i)
 (pair: ∀x y h' tk,xs[i]? =some x->ys[i]? =some y->(∀b o,b ∉ [z,TO,i1,i2]->s.heap.get? b=some o->h'.get? b=some o)->bF h' s.heap.objs.size x y->ZipAt h' z TI TO->bF h' TI (.ref i1) (.ref i2)->(∃a b,bF h' TO a b)->
  h'.IsListIter i1 l1 (i+1)->h'.IsTupleIter i2 l2 (i+1)->Q (some (.ref s.heap.objs.size)) {s with heap:=h',toks:=tk})
 (ended:(xs.size<=i\/ys.size<=i)-> ∀h' tk,(∀b o,b ∉ [z,TO,i1,i2]->s.heap.get? b=some o->h'.get? b=some o)->Q none {s with heap:=h',toks:=tk}):R3 (R7 prog w) A (rE (.ref z)) Q E s:=by
 have sub: ∀ {b:G9} {W:G0 G9},b ∉ [z,TO,i1,i2]->(∀c∈W,c∈ [z,TO,i1,i2])->b ∉ W:=λn m q=>n (m _ q)
 have z': ∀c∈ [z],c∈ [z,TO,i1,i2]:=by simp
 have o': ∀c∈ [TO],c∈ [z,TO,i1,i2]:=by simp
 have a': ∀c∈ [i1],c∈ [z,TO,i1,i2]:=by simp
 have b': ∀c∈ [i2],c∈ [z,TO,i1,i2]:=by simp
 have zo: ∀c∈ [z,TO],c∈ [z,TO,i1,i2]:=by simp
 refine RS Z (GT ap Z hTI hTO λh₁ off₁ isz=> ?_);have u1:h₁.IsList l1 xs:=t1.at λo e=>off₁.2 _ _ (sub n1 z') e
 have v1:h₁.IsListIter i1 l1 i:=at1.at λo e=>off₁.2 _ _ (by simp [ap.z1.symm]) e
 have stop: ∀ {h h':B6} {it e:G9},z≠it->sG it h h'->(∃o,h.get? z=some o/\o.cls= .type "zip")->(∃o,h'.get? e=some o/\o.cls= .type "StopIteration")->e≠z:=λnz x ⟨o,e1,c1⟩ ⟨o2,e2,c2⟩ q=>by
  subst q;rw [x _ _ nz e1] at e2;cases e2;rw [c1] at c2;simp at c2
 cases hx:xs[i]? with
 |none=>
  refine wpAny_nextOf_list_end (s:= {s with heap:=h₁}) calm v1 u1 hx λh' e grown st=>⟨λo q=>grown _ _ ap.z1 q,λh2 k=>⟨?_,ended (.inl (X3.mp hx)) _ _ λb o n q=>k _ _ (λy=>sub n z' (by simp [y])) (grown _ _ (λy=>sub n a' (by simp [y])) (off₁.2 _ _ (sub n z') q))⟩⟩
  have ne:=stop ap.z1 grown isz st;obtain⟨o,q,c⟩:=st;exact⟨o,k _ _ ne q,c⟩
 |some x=>
  refine wpAny_nextOf_list_item (s:= {s with heap:=h₁}) v1 u1 hx λh1' w1 same₁=>⟨.of same₁ (by simp),λh₂ off₂=> ?_⟩
  have all: ∀ {b o},b ∉ [z,TO,i1,i2]->s.heap.get? b=some o->h₂.get? b=some o:=λn e=>off₂.2 _ _ (sub n o') (same₁.extBut _ _ (λy=>sub n a' (by simp [y])) (off₁.2 _ _ (sub n z') e))
  have u2:h₂.IsTuple l2 ys:=t2.at λo e=>all n2 e
  have v2:h₂.IsTupleIter i2 l2 i:=at2.at λo e=>off₂.2 _ _ (by simp [ap.O2.symm]) (same₁.extBut _ _ i12.symm (off₁.2 _ _ (by simp [ap.z2.symm]) e))
  have w2:h₂.IsListIter i1 l1 (i+1):=w1.at λo e=>off₂.2 _ _ (by simp [ap.O1.symm]) e
  have isz2: ∃o,h₂.get? z=some o/\o.cls= .type "zip" :=let ⟨o,e,c⟩:=isz;⟨o,off₂.2 _ _ (by simp [ap.zO]) (same₁.extBut _ _ ap.z1 e),c⟩;cases hy:ys[i]? with
  |none=>
   refine wx (s:= {s with heap:=h₂}) calm v2 u2 hy λh' e grown st=>⟨λo q=>grown _ _ ap.z2 q,λh3 k=>⟨?_,ended (.inr (X3.mp hy)) _ _ λb o n q=>k _ _ (λy=>sub n z' (by simp [y])) (grown _ _ (λy=>sub n b' (by simp [y])) (all n q))⟩⟩
   have ne:=stop ap.z2 grown isz2 st;obtain⟨o,q,c⟩:=st;exact⟨o,k _ _ ne q,c⟩
  |some y=>
   refine Wh (s:= {s with heap:=h₂}) v2 u2 hy λh2' w3 same₂=>⟨.of same₂ (by simp),λh₃ kept new zip its out=> ?_⟩
   have size:h2'.objs.size=s.heap.objs.size:=by rw [same₂.1,off₂.1,same₁.1,off₁.1]
   have done:=pair x y h₃ s.toks hx hy (λb o n e=>kept _ _ (sub n zo) (same₂.extBut _ _ (λy=>sub n b' (by simp [y])) (all n e))) (size ▸ new) zip its out
    (w2.at λo e=>kept _ _ (by simp [ap.z1.symm,ap.O1.symm]) (same₂.extBut _ _ i12 e)) (w3.at λo e=>kept _ _ (by simp [ap.z2.symm,ap.O2.symm]) e)
   rw [<-size] at done;exact done
theorem DK {P:R9}{w:N4}{K:G5}(tg:N0)(l1 l2 z TI TO i1 i2:G9)(ap:ZApart z TI TO i1 i2)(n1:l1 ∉ [z,TO,i1,i2])(n2:l2 ∉ [z,TO,i1,i2])(i12:i1≠i2):
 Turn P w K tg (SO K l1 l2) [z,TI,TO,i1,i2] z (λi h=>ZipAt h z TI TO/\bF h TI (.ref i1) (.ref i2)/\(∃a b,bF h TO a b)/\h.IsListIter i1 l1 i/\h.IsTupleIter i2 l2 i):=by
 have inW: ∀ {b:G9},b ∉ [z,TI,TO,i1,i2]->b ∉ [z,TO,i1,i2]:=λn q=>n (by simp only [D2] at q ⊢;rcases q with q|q|q|q|q<;>simp [q] at*)
 have there: ∀ {i:G7} {h:B6},(ZipAt h z TI TO/\bF h TI (.ref i1) (.ref i2)/\(∃a b,bF h TO a b)/\h.IsListIter i1 l1 i/\h.IsTupleIter i2 l2 i)-> ∀b∈ [z,TI,TO,i1,i2],∃o,h.get? b=some o/\ ∀v,o.data≠ .cell v:=λ⟨⟨_,_,a1,_⟩,a2,⟨_,_,a3⟩,⟨o4,a4,_,d4⟩,⟨o5,a5,_,d5⟩⟩ b hb=>by
  simp only [D2,F4,or_false] at hb;rcases hb with e|e|e|e|e<;>subst e
  ·exact⟨_,a1,λv z=>by cases z⟩
  ·exact⟨_,a2,λv z=>by cases z⟩
  ·exact⟨_,a3,λv z=>by cases z⟩
  ·exact⟨o4,a4,λv z=>by rw [d4] at z;cases z⟩
  ·exact⟨o5,a5,λv z=>by rw [d5] at z;cases z⟩
 refine⟨by simp,λi h st=>there st,λi h h' ⟨⟨f,b,a1,qf⟩,a2,⟨x,y,a3⟩,a4,a5⟩ q=>⟨⟨f,b,q z (by simp) _ a1,qf⟩,q TI (by simp) _ a2,⟨x,y,q TO (by simp) _ a3⟩,a4.at λo e=>q i1 (by simp) o e,a5.at λo e=>q i2 (by simp) o e⟩,?_,?_,λ_ _ _ _ _ st h=>UK st.1 h⟩
 ·intro X hP hw hK hc i pins s σ H E I hf st hg;subst hP hw hK;obtain⟨xs,ys,x,y,hq,hq2,hx,hy⟩:=hg;obtain⟨its,rv,p,_⟩:=I.list hq;obtain⟨jts,rw',p2,_⟩:=I.tuple hq2;obtain⟨u,hu,ru⟩:=rv.get hx;obtain⟨v,hv,rv'⟩:=rw'.get hy;obtain⟨a1,a2,a3,a4,a5⟩:=id st;have lt: ∀b∈ [z,TI,TO,i1,i2],b≠s.heap.objs.size:=λb hb=>let ⟨_,e,_⟩:=there st b hb;M0 (P9 e)
  have l1':i<its.toArray.size:=by have:=(P5.mp hu).1;simpa using this
  have l2':i<jts.toArray.size:=by have:=(P5.mp hv).1;simpa using this
  refine Wu (I.ok.hd hc) ap n1 n2 i12 a1 a2 a3 p.isList p2 a4 a5 (λx' y' h' tk hx' hy' kept new zip it out w1 w2=>⟨_,rfl,?_⟩) λends=>absurd ends (by omega)
  have ex:x'=u:=by simp only [dR] at hx';rw [hu] at hx';cases hx';rfl
  have ey:y'=v:=by simp only [dR] at hy';rw [hv] at hy';cases hy';rfl
  subst ex ey;refine Cl (s:= {s with heap:=h',toks:=tk}) zip λh2 zip2 off=> ?_
  have hn:H s.heap.objs.size=none:=I.hok.fresh (P3 _);have nz: ∀ {b},b≠z->b ∉ [z]:=λh=>by simpa using h
  have T2:bF h2 s.heap.objs.size x' y':=off.2 _ _ (nz (lt z (by simp)).symm) new;refine⟨.ref s.heap.objs.size,upd H s.heap.objs.size (.tup [x,y]),?_,rfl,⟨_,x,y,hn,λws hw=>by rw [I.list_inj hw hq];exact hx,λws hw=>by rw [I.tuple_inj hw hq2];exact hy,rfl,rfl⟩,
   ⟨zip2,off.2 _ _ (nz ap.zI.symm) it,let ⟨a,b,e⟩:=out;⟨a,b,off.2 _ _ (nz ap.zO.symm) e⟩,w1.at λo e=>off.2 _ _ (nz ap.z1.symm) e,w2.at λo e=>off.2 _ _ (nz ap.z2.symm) e⟩,λb hb=> ?_⟩
  ·refine I.turnLaid (h':=h2) (t':=tk) (ch:= [z,TI,TO,i1,i2]) (λb u hb q=>off.2 _ _ (λy=>inW hb (by simp only [P1] at y;simp [y])) (kept b u (inW hb) q)) hf (P3 _) ⟨by show 2<=sizeLine;decide,[x',y'],.cons ru (.cons rv' .nil),⟨_,T2,rfl,rfl,_,rfl⟩⟩
  ·rw [jf (lt b hb)];exact(hf b hb).1
 ·intro X hP hw hK hc i pins s σ H E I hf st hg;subst hP hw hK;obtain⟨xs,ys,hq,hq2,hl⟩:=hg;obtain⟨its,rv,p,_⟩:=I.list hq;obtain⟨jts,rw',p2,_⟩:=I.tuple hq2;have e1:=rv.length;have e2:=rw'.length;obtain⟨a1,a2,a3,a4,a5⟩:=id st;refine Wu (I.ok.hd hc) ap n1 n2 i12 a1 a2 a3 p.isList p2 a4 a5 (λx' y' h' tk hx' hy' _ _ _ _ _ _ _=> ?_) λ_ h' tk kept=>⟨rfl,I.turnL (ch:= [z,TI,TO,i1,i2]) (λb o hb q=>kept b o (inW hb) q) hf⟩
  have b1:=(O7.mp hx').1;have b2:=(O7.mp hy').1;simp only [R5] at b1 b2;omega
section
variable {X:Cx}
def AT (K:G5)(ta:TA):TI:=λσ H R=>ta σ H λvs H1=> ∃a b,vs= [.ref a,.ref b]/\(∃xs,SqL K H1 a xs)/\(∃ys,SqT K H1 b ys)/\R (SO K a b) H1
theorem Fx {tg:N0}{a b:N0}{ta:TA}{p pos:Pos}(hg:Gl X "zip")(hm:X.mg "zip" =none)(ha:PA X [a,b] ta)(hs:D7 [a,b] X.env= [(false,J0 a X.env),(false,J0 b X.env)]:=by rfl)(hs2:D7 [b] X.env= [(false,J0 b X.env)]:=by rfl):
 PI X tg (.Call (.Name "zip" p) [a,b] [] pos) (AT X.K ta):=by
 intro pins s σ H R I h;refine Call_ (ZY I hg hm boot_zip (aQ (thn (ha pos pins s σ H _ I h) λus s1 ⟨vs,H1,I1,r1,q1⟩=> ?_) (by rw [hs,hs2]) (by rw [hs2];rfl)));obtain⟨a,b,e,⟨xs,hq⟩,⟨ys,hq2⟩,q⟩:=q1;subst e;cases r1 with
 |cons r rr=>
  cases rr with
  |cons r' rr=>
   cases rr;cases r;cases r';obtain⟨its,rv,p,_⟩:=I1.list hq;obtain⟨jts,rw',p2,_⟩:=I1.tuple hq2;have la:a<s1.heap.objs.size:=by obtain⟨o,ho,_⟩:=p.isList;exact P9 ho
   have lb:b<s1.heap.objs.size:=by obtain⟨o,ho,_⟩:=p2;exact P9 ho
   refine Yc (show s1.heap.IsList a its.toArray from p.isList) (show s1.heap.IsTuple b jts.toArray from p2) λh' n en z1 z2 z3 z4 z5 hk=> ?_
   subst en;refine UK z1 ⟨s1.heap.objs.size+4,[s1.heap.objs.size+4,s1.heap.objs.size+2,s1.heap.objs.size+3,s1.heap.objs.size,s1.heap.objs.size+1],_,_,H1,rfl,I1.kept (t':=s1.toks) hk,
    DK _ a b _ _ _ _ _ (XN _) (YJ la) (YJ lb) (M0 (V1 _)),⟨z1,z2,z3,z4,z5⟩,λc hc=> ?_,q⟩
   have hb':s1.heap.objs.size<=c:=RU hc;exact I1.fpOk hb' (I1.hok.fresh hb')
end
def iZL (ta:TAD):TID:=λσ h R=>ta σ h λxs h1=> ∃a es,xs= [.lst a,.tup es]/\R (λh=>(h a).map λds=>Cm ds es) h1
section
variable {K:G5}
theorem DL {H:Hp}{a b:G9}{us:G0 V}{es:G0 D}(hu:H b=some (.tup us))(ru:RelDs K H es us):BN K H (λh=>(h a).map λds=>Cm ds es) (SO K a b):=λH' h' k rh ds' e i=>by
 have e:(h' a).map (λds=>Cm ds es)=some ds':=e;cases hd:h' a with
 |none=>rw [hd] at e;cases e
 |some ds=>
  rw [hd] at e;cases e;obtain⟨vs,hv',r'⟩:=rh a ds hd;have hu':=k.tup _ _ hu;have ru':=ru.mono k;refine⟨λd hd=> ?_,λhl=>⟨vs,us,SqL.of hv',SqT.of hu',?_⟩⟩
  ·obtain⟨x,y,hx,hy,ed⟩:=RV hd;subst ed;obtain⟨v,e1,e2⟩:=r'.get hx;obtain⟨u,e3,e4⟩:=ru'.get hy;refine⟨⟨vs,us,v,u,SqL.of hv',SqT.of hu',e1,e3⟩,λx' H'' ⟨p,v',u',hp,hx',hy',ex,eH⟩=> ?_⟩;subst ex eH;have ev:v'=v:=by have:=hx' vs (SqL.of hv');rw [e1] at this;exact(O5 this).symm
   have eu:u'=u:=by have:=hy' us (SqT.of hu');rw [e3] at this;exact(O5 this).symm
   subst ev eu;have k2:Kept H' (upd H' p (.tup [v',u'])):= .new hp;exact⟨k2,RelH.new rh hp,p,[v',u'],rfl,jh,_,_,rfl,e2.mono k2,_,_,rfl,e4.mono k2,rfl⟩
  ·have l1:=r'.length;have l2:=ru.length;unfold Cm at hl;rw [G6,nY] at hl;omega
theorem Fy {ta:TAD}: ∀σ H R,LI K (iZL ta) σ H R->AT K (LA K ta) σ H R:=λσ H R ⟨σd,h,Rd,rs,rh,q,p⟩=>
 LA.bind rs rh q λds vs h1 H1 k1 rs1 rh1 r1 ⟨a,fs,e,q1⟩=>by
  subst e;obtain⟨v,w,e,r2,r3⟩:=ye r1;obtain⟨e',ws,hv⟩:=(show v= .ref a/\ ∃vs,H1 a=some (.lst vs) from r2);obtain⟨b,us,e'',hu,r'⟩:=(show ∃a vs,w= .ref a/\H1 a=some (.tup vs)/\RelDs K H1 fs vs from r3);subst e' e'';exact⟨a,b,e,⟨ws,SqL.of hv⟩,⟨us,SqT.of hu⟩,p _ _ _ _ k1 rh1 (DL hu r') q1⟩
end
section
variable {X:Cx}
theorem Fz {tg:N0}{a b:N0}{ta:TAD}{p pos:Pos}(hg:Gl X "zip")(hm:X.mg "zip" =none)(ha:JA X [a,b] ta)(hs:D7 [a,b] X.env= [(false,J0 a X.env),(false,J0 b X.env)]:=by rfl)(hs2:D7 [b] X.env= [(false,J0 b X.env)]:=by rfl):
 JI X tg (.Call (.Name "zip" p) [a,b] [] pos) (iZL ta):=⟨(Fx hg hm ha.to hs hs2).imp Fy⟩
end
end L2
namespace L2
open PySem PySem.Spec PyProof.Rows
theorem Wv {α:Type}[DecidableEq α]{fr:α->G0 α->T5}: ∀ {k:G7} {l:G0 α},l.Nodup->(zv fr k l).Nodup
 |0,_,_=>by unfold zv;simp
 |k+1,l,nd=>by
  have key: ∀m:G0 α,m.Nodup->(m.flatMap λp=>if fr p l then (zv fr k (but p l)).map (p:: ·) else []).Nodup:=λm=>by
   induction m with
   |nil=>intro _;simp
   |cons p m ih=>
    intro nd2;obtain⟨n1,n2⟩:=E6.mp nd2;rw [mE,cI];refine⟨?_,ih n2,λr hr s hs e=> ?_⟩
    ·cases z:fr p l with
     |false=>simp
     |true=>
      simp only [fX];exact K6.mpr ((Wv (nd.filter _)).imp λ{a b} ne w=>ne (by injection w))
    ·have hd: ∀q r,r∈(if fr q l then (zv fr k (but q l)).map (q:: ·) else [])->r.head? =some q:=λq r hr=>by
      cases z:fr q l with
      |false=>rw [z] at hr;cases hr
      |true=>
       rw [z] at hr;obtain⟨t,_,rfl⟩:=S4.mp hr;rfl
     obtain⟨q,hq,hs⟩:=cU.mp hs;have e1:=hd p r hr;have e2:=hd q s hs;rw [<-e,e1] at e2;injection e2 with e2
     exact n1 (e2 ▸ hq)
  exact key l nd
section
variable {n e:G7}{T:G0 (G0 D3)}
abbrev lxS:G0 (G0 G7)->G0 (G0 G7)->T5:=DD λa b=>HT.ju (toI a) (toI b)
theorem FA (h:Sq n e T)(hn:n<=8):Vi T n (ze T n).length (ze T n)∈zv (λP l=>frA T P l) (ze T n).length (ze T n)/\ ∀r∈zv (λP l=>frA T P l) (ze T n).length (ze T n),r=Vi T n (ze T n).length (ze T n)\/(lxS (Vi T n (ze T n).length (ze T n)) r=true/\lxS r (Vi T n (ze T n).length (ze T n))=false):=by
 rw [<-Xu h hn Xt];refine⟨NR (G:=Left T n) (λl g ne=> ?_) (λl p g hp f=> ?_) Xt vG rfl,λr hr=> ?_⟩
 ·obtain⟨P,hP,f⟩:=AR g.sub ne;exact⟨P,hP,by rw [Ui h hn g hP];exact f⟩
 ·exact DF g (by rw [<-Ui h hn g hp];exact f)
 ·have lo:=ZC (λa b z=>HT.wK _ _ z) pcs_rise hr;rcases kH (r=Rb (λP l=>frA T P l) (ze T n).length (ze T n)) with z|z
  ·exact .inl z
  ·refine .inr ⟨?_,lo⟩;rcases Xr (p:=λ_=>True) (λa b _ _ ne=>Vj a b ne) (λ_ _=>trivial) (λ_ _=>trivial) z with w|w
   ·rw [show DD (λa b=>HT.ju (toI a) (toI b)) r _=false from lo] at w;cases w
   ·exact w
end
theorem FB (a b:G0 G7):HT.ltP (wC a) (wC b)=HT.ju (toI a) (toI b):=by
 have e: ∀c:G0 G7,wC c= .tuple ((toI c).map .int):=λc=>rfl
 rw [e,e];exact Xg _ _
theorem MU (a b:G0 G7):C3 (wC a) (wC b)=decide (a=b):=encO.eq a b
theorem vH: ∀r s:G0 (G0 G7),HT.ltPs (r.map wC) (s.map wC)=lxS r s
 | [],[]=>rfl
 | [],_::_=>rfl
 |_::_,[]=>rfl
 |a::r,b::s=>by
  show (if C3 (wC a) (wC b)=true then HT.ltPs (r.map wC) (s.map wC) else HT.ltP (wC a) (wC b))=if a=b then lxS r s else _
  rw [MU,vH r s,FB]
  by_cases z:a=b
  ·rw [R6 (M8 z),R6 z]
  ·rw [R8 (by rw [N6 z];exact S5),R8 z]
theorem FC (a b:G0 G7):HT.alk (wC a) (wC b)=true:=by
 have e: ∀c:G0 G7,wC c= .tuple ((toI c).map .int):=λc=>rfl
 rw [e,e];exact Xh _ _
theorem Ww: ∀r s:G0 (G0 G7),HT.alks (r.map wC) (s.map wC)=true
 | [],s=>by unfold HT.alks;rfl
 |_::_,[]=>by unfold HT.alks;rfl
 |a::r,b::s=>by
  show (HT.alk (wC a) (wC b)&&HT.alks (r.map wC) (s.map wC))=true;rw [FC,Ww r s];rfl
def rwP (r:G0 (G0 G7)):F8:= .list (r.map wC)
theorem DM {h:HD}{A:G9}{As:G0 G9}{rs:G0 (G0 (G0 G7))}{m:G0 (G0 G7)}(kA:h A=some (As.map D.lst))(ra:RwAt h As rs)(nd:rs.Nodup)(hm:m∈rs)(low: ∀r∈rs,r=m\/(lxS m r=true/\lxS r m=false)):
 ∃ (a:G9) (ys:G0 (D×F8)),h a=some (m.map jR)/\h A=some (ys.map (·.1))/\(∀x∈ys,ToP h x.1 x.2/\x.2.canLay0=true/\x.2.depth<=60/\ ∀y∈ys,HT.alk x.2 y.2=true)/\(D.lst a,rwP m)∈ys/\(∀x∈ys,x=(D.lst a,rwP m)\/(HT.ltP (rwP m) x.2=true/\HT.ltP x.2 (rwP m)=false))/\HT.ltP (rwP m) (rwP m)=false:=by
 have la:=ra.len;have each: ∀z∈As.zip rs,h z.1=some (z.2.map jR)/\z.2∈rs:=λz hz=>by
  obtain⟨j,hj⟩:=iJ.mp hz;have e1:As[j]? =some z.1:=by have:=congrArg (λl=>l[j]?) (rY (W3 la));simp only [D9,hj] at this;exact this.symm
  have e2:rs[j]? =some z.2:=by have:=congrArg (λl=>l[j]?) (List.map_snd_zip (W3 la.symm));simp only [D9,hj] at this;exact this.symm
  obtain⟨r,er,ka⟩:=ra.at_ e1;rw [e2] at er;injection er with er;subst er
  exact⟨ka,P6 e2⟩
 obtain⟨j,hj⟩:=iJ.mp hm;have jl:j<As.length:=by rw [la];exact(P5.mp hj).1
 obtain⟨r0,er,ka⟩:=ra.at_ (P2 jl);rw [hj] at er;injection er with er;subst er
 have zj:(As.zip rs)[j]? =some (As[j],m):=by
  rw [fC];exact⟨P2 jl,hj⟩
 have one: ∀z∈As.zip rs,z.2=m->z=(As[j],m):=λz hz e=>by
  obtain⟨k,hk⟩:=iJ.mp hz;obtain⟨e1,e2⟩:=fC.mp hk;rw [e] at e2;have:k=j:=by
   obtain⟨h1,g1⟩:=P5.mp e2;obtain⟨h2,g2⟩:=P5.mp hj;exact(rC nd).mp (g1.trans g2.symm)
  subst this;rw [zj] at hk;injection hk with hk;exact hk.symm
 refine⟨As[j],(As.zip rs).map λz=>(D.lst z.1,rwP z.2),ka,?_,λx hx=> ?_,S4.mpr ⟨_,P6 zj,rfl⟩,λx hx=> ?_,?_⟩
 ·rw [kA,O0,show ((λx:D×F8=>x.1)∘λz:G9×G0 (G0 G7)=>(D.lst z.1,rwP z.2))=D.lst∘λz=>z.1 from rfl,<-O0,rY (W3 la)]
 ·obtain⟨z,hz,rfl⟩:=S4.mp hx;refine⟨JC (each z hz).1,by show K3 (.list (z.2.map wC))=true;simp only [K3];exact encO.lays _,by show E3 (.list (z.2.map wC))<=60;have:=Ja z.2;simp only [E3];omega,λy hy=> ?_⟩;obtain⟨u,hu,rfl⟩:=S4.mp hy;exact Ww _ _
 ·obtain⟨z,hz,rfl⟩:=S4.mp hx;rcases low z.2 (each z hz).2 with e|⟨e1,e2⟩
  ·exact .inl (by rw [one z hz e])
  ·exact .inr ⟨(vH _ _).trans e1,(vH _ _).trans e2⟩
 ·exact(vH m m).trans (DE _ m)
end L2
namespace My
open PySem L2
def top (i:G7):K8:=PySem.Challenge.pw_firstpowers_k20_ladders_of_pieces.main.body.getD i (.Pass ⟨0,0,0,0⟩)
abbrev Jc:K8:=top 17
theorem Uj:FnScope ["thing"] ["thing"] (jd Jc):=fsc
abbrev wB:K8:=top 18
theorem yk:FnScope ["thing","size","number"] ["thing","size"] (jd wB):=fsc
abbrev zP:K8:=top 19
theorem wL:FnScope ["thing","row"] ["thing"] (jd zP):=fsc
abbrev wn:K8:=top 20
theorem vI:FnScope ["thing"] ["thing"] (jd wn):=fsc
abbrev ZE:K8:=top 22
theorem zH:FnScope ["table","size","come","by","one","other"] ["table"] (jd ZE):=fsc
abbrev yX:K8:=top 23
theorem zl:FnScope ["come","size","told","place","piece","other"] ["come"] (jd yX):=fsc
abbrev ZF:K8:=top 24
theorem Wx:FnScope ["piece","left","come","other"] ["piece","left","come"] (jd ZF):=fsc
abbrev JF:K8:=top 25
theorem wf:FnScope ["table","come","left","told","piece","each"] ["table"] (jd JF):=fsc
abbrev yY:K8:=top 27
theorem Vk:FnScope ["_law_script","_law_k"] ["_law_script","_law_k"] (jd yY):=fsc
abbrev Jd:K8:=top 28
theorem ZG:FnScope ["_law_cell_here","_law_left"] ["_law_cell_here"] (jd Jd):=fsc
abbrev yZ:K8:=top 29
theorem wo:FnScope ["_law_pen_here","_law_many","_law_left","_law_found","_law_stir"] ["_law_pen_here","_law_many"] (jd yZ):=fsc
abbrev va:K8:=top 31
theorem zm:FnScope ["_law_e","_law_seen","_law_words"] ["_law_e"] (jd va):=fsc
abbrev vc:K8:=top 32
theorem Jn:FnScope ["_law_call","_law_found","_law_e","_law_word"] ["_law_call"] (jd vc):=fsc
abbrev vd:K8:=top 33
theorem Vl:FnScope ["_law_found","_law_due"] ["_law_found","_law_due"] (jd vd):=fsc
abbrev vf:K8:=top 34
theorem Vm:FnScope ["_law_pen_here"] ["_law_pen_here"] (jd vf):=fsc
abbrev yl:K8:=top 35
theorem jt:FnScope ["_law_pen_here","_law_size_here","_law_way","_law_often","_law_most","_law_rows_here","_law_one","_law_row","_law_other","_law_goes"] ["_law_pen_here","_law_size_here"] (jd yl):=fsc
abbrev ym:K8:=top 36
theorem zW:FnScope ["_law_table_here","_law_some","_law_size_here","_law_place","_law_one"] ["_law_table_here","_law_some"] (jd ym):=fsc
abbrev wg:K8:=top 37
theorem wW:FnScope ["_law_pen_here","_law_some"] ["_law_pen_here"] (jd wg):=fsc
abbrev Je:K8:=top 38
theorem zF:FnScope ["_law_table_here","_law_found","_law_place","_law_some","_law_turn"] ["_law_table_here"] (jd Je):=fsc
abbrev wR:K8:=top 39
theorem jZ:FnScope ["_law_table_here","_law_far_here","_law_found","_law_place","_law_one"] ["_law_table_here"] (jd wR):=fsc
abbrev vg:K8:=top 40
theorem jJ:FnScope ["_law_pieces_here","_law_table_here","_law_found","_law_piece","_law_left","_law_ahead","_law_one","_law_place","_law_row"] ["_law_pieces_here","_law_table_here"] (jd vg):=fsc
abbrev yn:K8:=top 41
theorem zX:FnScope ["_law_table_here","_law_due","_law_turn","_law_found"] ["_law_table_here"] (jd yn):=fsc
abbrev Uk:K8:=top 42
theorem yG:FnScope ["_law_script","_law_cell_here","_law_pen_here","_law_size_here","_law_table_here","_law_thin","_law_one","_law_row","_law_stays","_law_none","_law_other","_law_stay","_law_number"] ["_law_script"] (jd Uk):=fsc
section
variable {P:R9}{w:N4}{K:G5}{mg:Str->P4 G1}{base:B6}
/-- no def is asked of the script's list: a thing -/
def NS:D->T5
 | .int _=>true
 |_=>false
/-- a row of so many numbers from 0 on -/
def Ef:D->T5
 | .int i=>decide (0<=i)
 |_=>false
def NT (d:D)(k:D3):T5:=match d with
 | .tup ds=>decide ((ds.length:D3)=k)&&ds.all Ef
 |_=>false
/-! every part has a kind that is told,and no tuple is long -/
mutual
def okD:D->T5
 | .scr _=>false| .exc _=>false| .fn _=>false| .dct _=>false
 | .tup ds=>decide (ds.length<=1000)&&okDs ds
 |_=>true
def okDs:G0 D->T5
 | []=>true
 |d::ds=>okD d&&okDs ds
end
theorem Yd: ∀ {ds:G0 D},okDs ds=true-> ∀d∈ds,okD d=true
 |d::ds,h,x,hx=>by
  have h':(okD d&&okDs ds)=true:=h;rw [H0] at h';rcases D2.mp hx with e|e
  ·subst e;exact h'.1
  ·exact Yd h'.2 x e
theorem DN: ∀ {ds:G0 D},(∀d∈ds,okD d=true)->okDs ds=true
 | [],_=>rfl
 |d::ds,h=>by
  show (okD d&&okDs ds)=true;rw [h d P7,DN λx hx=>h x (D1 _ hx)];rfl
theorem DO {ds:G0 D}(h:okD (.tup ds)=true):ds.length<=1000/\ ∀d∈ds,okD d=true:=by
 have h':(decide (ds.length<=1000)&&okDs ds)=true:=h;rw [H0] at h';exact⟨J5 h'.1,Yd h'.2⟩
theorem NU {ds:G0 D}(h:ds.length<=1000)(h2: ∀d∈ds,okD d=true):okD (.tup ds)=true:=by
 show (decide (ds.length<=1000)&&okDs ds)=true;rw [M8 h,DN h2];rfl
theorem Ye {d:D}(h:okD d=true): ∃n,YC d=some n:=by
 cases d<;>first|exact⟨_,rfl⟩|cases h
/-- a table -/
def Rc:D->T5
 | .tup rs=>decide (1<=rs.length)&&decide (rs.length<=6)&&rs.all λr=>NT r rs.length
 |_=>false
def ZH:RDn:=λds h Q=> ∃d n,ds= [d]/\YC d=some n/\Q (.bl (NS d)) h
variable {n:G7}{f:G9}{fd:N5}
theorem Ul (Z:Zs mg)(F:Fun K "is_whole" "is_whole" Jc f fd):FnOk P w K mg base CX0 (n+1) f fd ["thing"] (LSp K ZH):=by
 refine F.okM Uj (λhr=>(jV (yA (OQ (RH (T:= "int") (by decide) rfl Z.isinstance rfl Z.int (by decide +kernel) (jv 0)) (RG (Tt (RH (T:= "bool") (by decide) rfl Z.isinstance rfl Z.bool (by decide +kernel) (jv 0)))))))) ?_;rintro ds h Q ⟨d,nm,rfl,hn,q⟩;refine⟨rfl,?_⟩;simp only [Qy,Rw,dIs,Gi,jU,C6,cA,D8,C0,Q5,L6,U3,aM,D.bl.injEq,Gk,VA,bU,hn];cases d<;>cases hn<;>exact⟨h,Sub.refl h,q⟩
def yo:RDn:=λds h Q=> ∃d k,ds= [d,.int k]/\okD d=true/\Q (.bl (NT d k)) h
theorem ZI (Z:Zs mg)(F:Fun K "is_table_row" "is_table_row" wB f fd)(Qt:jw P w K mg base n "is_whole" ["thing"] ZH):FnOk P w K mg base CX0 (n+1) f fd ["thing","size"] (LSp K yo):=by
 refine F.okM yk (λhr=>(js2 (VD (jpt (FM (Jq (yy (RH (T:= "tuple") (by decide) rfl Z.isinstance rfl Z.tuple (by decide +kernel) (jv 0)))) (OO (jt1 oq_ne (Ra Z (jv 0)) (jv 1))))) (yA jbl)) (yA (yf (Nq rfl) rfl Z.all oA (j1 (jl0 2 yk (yg (jv 0)) (λ_ _ _ _=>(OQ (jk Qt hr (j1 (jv 2))) (RG (jc1 BV (jv 2) jC)))))))))) ?_;rintro ds h Q ⟨d,k,rfl,ok,q⟩;refine⟨rfl,?_⟩;obtain⟨nm,hn⟩:=Ye ok;simp only [wO,BH,LL,Gj,vR,dIs,Gi,jU,C6,cA,D8,C0,N9,Q5,L6,U3,aM,D.bl.injEq,Qy,dC,VA,VL,dCB,zw,We,dOp,FL,aL,neD,bU,hn];cases d with
 |tup es=>
  cases hn;obtain⟨hl,ht⟩:=DO ok;simp only [Ox]
  by_cases hk:(es.length:D3)=k
  ·simp only [hk];simp;refine Gu (ds:=es) (h1:=h) (j:=λ_=>some es) (λx=> .bl (Ef x)) (T4 (jz hl)) rfl (λR r=>⟨.tup es,rfl,r⟩) (λd hd Q' q'=> ?_) (λp hp=> ?_)
   ·obtain⟨nn,hnn⟩:=Ye (ht d hd);refine⟨d,rfl,d,nn,rfl,hnn,NS d,rfl,?_⟩;cases d with
    |int i=>exact FI ⟨.int i,rfl,q'⟩
    |_=>exact Ym q'
   ·refine⟨p,es.map Ef,rfl,by rw [jc];simp,h,?_,?_⟩
    ·rw [wG hp];exact Sub.refl h
    ·simpa [NT,hk,cZ,lW] using q
  ·simp [hk];exact⟨h,Sub.refl h,by simpa [NT,hk] using q⟩
 |_=>cases hn<;>exact⟨h,Sub.refl h,q⟩
def zG:RDn:=λds h Q=> ∃d,ds= [d]/\okD d=true/\Q (.bl (Rc d)) h
theorem Jf (Z:Zs mg)(F:Fun K "has_table_form" "has_table_form" zP f fd)(ZW:jw P w K mg base n "is_table_row" ["thing","size"] yo)(vi: ∃tk,mg "MOST_ROWS" =some (.int 6 tk)):FnOk P w K mg base CX0 (n+1) f fd ["thing"] (LSp K zG):=by
 obtain⟨tk_MOST_ROWS,m_MOST_ROWS⟩:=vi;refine F.okM wL (λhr=>(js2 (VD (jpt (FM (Jq (yy (RH (T:= "tuple") (by decide) rfl Z.isinstance rfl Z.tuple (by decide +kernel) (jv 0)))) (OO (Jq (Cc Ot Ot jC (Ra Z (jv 0)) (Sn rfl m_MOST_ROWS)))))) (yA jbl)) (yA (yf (Nq rfl) rfl Z.all oA (j1 (jl0 1 wL (yg (jv 0)) (λ_ _ _ _=>(jk ZW hr (j2 (jv 1) (Ra Z (jv 0))))))))))) ?_;rintro ds h Q ⟨d,rfl,ok,q⟩;refine⟨rfl,?_⟩;obtain⟨nm,hn⟩:=Ye ok;simp only [wO,BH,LL,Gj,vR,dIs,Gi,jU,C6,cA,D8,C0,N9,Q5,L6,U3,aM,D.bl.injEq,Qy,dC,VA,VL,dCB,zw,We,YA,FL,Nm,bU,hn];cases d with
 |tup es=>
  cases hn;obtain⟨hl,ht⟩:=DO ok;simp only [Ox]
  by_cases h1:1<=es.length
  ·by_cases h6:es.length<=6
   ·have h1':(1:D3)<=es.length:=by omega
    have h6':(es.length:D3)<=6:=by omega
    simp [h1',h6'];refine Gu (ds:=es) (h1:=h) (j:=λ_=>some es) (λx=> .bl (NT x es.length)) (T4 (jz hl)) rfl (λR r=>⟨.tup es,rfl,r⟩) (λd hd Q' q'=> ?_) (λp hp=> ?_)
    ·exact⟨d,rfl,.tup es,rfl,d,es.length,rfl,ht d hd,q'⟩
    ·refine⟨p,es.map λx=>NT x es.length,rfl,by rw [jc];simp,h,?_,?_⟩
     ·rw [wG hp];exact Sub.refl h
     ·simpa [Rc,h1,h6,cZ,lW] using q
   ·have h1':(1:D3)<=es.length:=by omega
    have h6': ¬ (es.length:D3)<=6:=by omega
    simp [h1',h6'];exact⟨h,Sub.refl h,by simpa [Rc,h1,h6] using q⟩
  ·have h1': ¬ (1:D3)<=es.length:=by omega
   simp [h1'];exact⟨h,Sub.refl h,by simpa [Rc,h1] using q⟩
 |_=>cases hn<;>exact⟨h,Sub.refl h,q⟩
theorem FD {x:D3}(h:0<=x):Ef (.int x)=true:=M8 h
theorem FE {e:G7}{T:G0 (G0 D3)}(h:Sq n e T){r:G0 D3}(hr:r∈T):NT (Jr r) n=true:=by
 simp only [NT,Jr,G6,h.row r hr,KM,xQ,cZ,L0,pJ];intro x hx;exact FD (h.nn r hr x hx)
theorem FF {e:G7}{T:G0 (G0 D3)}(h:Sq n e T)(h1:1<=n)(h6:n<=6):Rc (zC T)=true:=by
 simp only [Rc,zC,G6,h.len,M8 h1,M8 h6,xQ,cZ,L0,pJ];intro r hr;exact FE h hr
theorem AU {e:G7}{T:G0 (G0 D3)}(h:Sq n e T)(h6:n<=6):okD (zC T)=true:=
 NU (by rw [G6,h.len];omega) λd hd=>by
  obtain⟨r,hr,rfl⟩:=S4.mp hd;exact NU (by rw [G6,h.row r hr];omega) λd hd=>by obtain⟨x,_,rfl⟩:=S4.mp hd;rfl
def vJ:RDn:=λds h Q=> ∃T,∃n e:G7,ds= [zC T]/\Sq n e T/\1<=n/\n<=6/\Q .non h
theorem Yf (Z:Zs mg)(F:Fun K "want_table" "want_table" wn f fd)(zQ:jw P w K mg base n "has_table_form" ["thing"] zG):FnOk P w K mg base CX0 (n+1) f fd ["thing"] (LSp K vJ):=by
 refine F.okM vI (λhr=>(jV (VD (Jq (yy (jk zQ hr (j1 (jv 0))))) GD))) ?_;rintro ds h Q ⟨T,k,b,rfl,hT,h1,h6,q⟩;refine⟨rfl,?_⟩;refine⟨_,rfl,zC T,rfl,AU hT h6,_,rfl,?_⟩;rw [FF hT h1 h6];exact Ym ⟨h,Sub.refl h,q⟩
def yE:RDx:=λds h R=> ∃d,ds= [d]/\okD d=true/\Rc d=false/\R "NoTable" h
theorem ZU (Z:Zs mg)(Ex:Exc K mg)(F:Fun K "want_table" "want_table" wn f fd)(zQ:jw P w K mg base n "has_table_form" ["thing"] zG):FnOk P w K mg base (CXR P w) (n+1) f fd ["thing"] (Ny mg K yE):=by
 refine F.okMX vI (λhr=>(Sz (Jq (yy (jk zQ hr (j1 (jv 0))))) (Md rfl (Ex.own "NoTable" (by decide)) rfl))) ?_;rintro ds h R ⟨d,rfl,ok,bad,q⟩;refine⟨rfl,?_⟩;refine⟨_,rfl,d,rfl,ok,_,rfl,?_⟩;rw [bad];exact⟨rfl,q⟩
def Wy:RDn:=λds h Q=> ∃T,∃n e:G7,ds= [zC T]/\Sq n e T/\n<=6/\ ∀R rs h',GB n h h' R rs (wk T n)->Q (.lst R) h'
theorem Qn (Z:Zs mg)(F:Fun K "reaches" "reaches" ZE f fd):FnOk P w K mg base CX0 (n+1) f fd ["table"] (LSp K Wy):=by
 refine F.okM zH (λhr=>(js4 (jse 1 zH (Ra Z (jv 0))) (UI (i:=4) (k:=2) (js:= [4]) rfl zH.nd rfl (aS rfl) (zB (by rfl)) (jrg Z (jv 1)) (by decide) rfl (by first|exact aS rfl|exact cX rfl) (λX' hX=>WN) (λX' hX=>by obtain⟨C,s₀,H₀,ex,rfl⟩:=hX;exact(jl0 5 zH (jrg Z (jv 1)) (λ_ _ _ _=>(jor (jc1 (Zc hr.units) (jv 4) (jv 5)) (RG (jc1 oq_ne (ji1 (ji1 (jv 0) (jv 4)) (jv 5)) jC))))))) (XI I0 rfl (jrg Z (jv 1)) (jgn 3 zH) (jV (XI I0 rfl (jrg Z (jv 1)) (jgn 4 zH) (jV (XI I0 rfl (jrg Z (jv 1)) (jgn 5 zH) (jV (VD (jpt (OP (yy (ji1 (ji1 (jv 2) (jv 4)) (jv 3))) (ON (yy (ji1 (ji1 (jv 2) (jv 3)) (jv 5)))))) (Eb jbl (GA (ji1 (jv 2) (jv 4)) (jv 5)))))))))) (yA (jv 2)))) ?_;rintro ds h Q ⟨T,n,b,rfl,hT,h6,q⟩;refine⟨rfl,?_⟩;refine ji (λσ' h'=>σ'= [some (zC T),some (.int (n:D3)),none,none,none,none]/\h=h') (λC hC=>⟨_,rfl,hC _ _ ⟨by rw [G6,hT.len];rfl,rfl⟩⟩) ?_;rintro _ _ ⟨rfl,rfl⟩;refine ji (λσ' h'=> ∃R rs u v w,σ'= [some (zC T),some (.int (n:D3)),some (.lst R),u,v,w]/\GB n h h' R rs (wk T 0)) (λC hC=> ?_) ?_
 ·refine Nt (h1:=h) n (λi ys h'=> ∃rs,ys=rs.map D.lst/\rs.length=i/\Sub h h'/\rs.Nodup/\ ∀m a,rs[m]? =some a->h a=none/\h' a=some ((R4 n).map λj=>D.bl (wk T 0 m j))) (by omega) (λR r=>⟨_,rfl,r⟩) ⟨[],rfl,rfl,Sub.refl h,List.nodup_nil,by simp⟩ (λi ys h' ⟨rs,e,el,_⟩=>by rw [e,G6];exact el) ?_ ?_
  ·rintro i ys h3 hi ⟨rs,rfl,lrs,sb3,nd3,rows3⟩;refine lcA (R4 n) (λj=> .int (j:D3)) (λj=> .bl (wk T 0 i j)) (by rw [B0];omega) rfl (λR r=>⟨_,rfl,(n:D3),rfl,by omega,by omega,r⟩) (λj hj Q' q'=>⟨_,rfl,_,rfl,_,rfl,?_⟩) (λp5 e5=> ?_)
   ·have hj:=S8.mp hj;have q':Q' (.bl (decide (i=j)|| !decide (ent T i j=0))) h3:=q';have ed:decide ((i:D3)=(j:D3))=decide (i=j):=by rw [Q3,W6,W6];omega
    rw [ed]
    by_cases c:i=j
    ·rw [M8 c] at q' ⊢;exact FI q'
    ·rw [N6 c] at q' ⊢;exact Ym ⟨_,rfl,_,rfl,_,GI hT hi,_,rfl,_,GJ (hT.row _ (Sq.getRow hT hi)) hj,q'⟩
   ·refine⟨_,Sub.refl _,by omega,rs++ [p5],by rw [B3];rfl,by rw [P8,lrs];rfl,Sub.newAt sb3 e5,?_,λm a ha=> ?_⟩
    ·rw [cI];refine⟨nd3,by simp,λa ha b hb z=> ?_⟩;rw [P1.mp hb] at z;subst z;obtain⟨m,hm⟩:=Z9 ha;rw [(rows3 m _ hm).2] at e5;cases e5
    ·by_cases hm:m<rs.length
     ·rw [B8 hm] at ha;exact⟨(rows3 m a ha).1,je (rows3 m a ha).2 e5⟩
     ·rw [N3 (by omega)] at ha;have em:m-rs.length=0:=by
       have:=(P5.mp ha).1;simp at this;omega
      rw [em] at ha;have ea:p5=a:=by simpa using ha
      subst ea;have:m=i:=by omega
      subst this;exact⟨wm sb3 e5,jc⟩
  ·rintro ys h3 ⟨rs,rfl,lrs,sb3,nd3,rows3⟩ R eR;refine hC _ _ ⟨R,rs,_,_,_,rfl,jc,lrs,λhR=> ?_,nd3,Sub.newAt sb3 eR,λi a ha=>⟨(rows3 i a ha).1,je (rows3 i a ha).2 eR⟩⟩;obtain⟨m,hm⟩:=Z9 hR;rw [(rows3 m _ hm).2] at eR;cases eR
 rintro _ h3 ⟨R,rs,u,v,w,rfl,G⟩;refine ji (λσ' h'=> ∃u v w,σ'= [some (zC T),some (.int (n:D3)),some (.lst R),u,v,w]/\GB n h h' R rs (wk T n)) (λC hC=> ?_) ?_
 ·refine ww n (λk σ' h'=> ∃u v w,σ'= [some (zC T),some (.int (n:D3)),some (.lst R),u,v,w]/\GB n h h' R rs (wk T k)) (by omega) (λR r=>⟨_,rfl,r⟩) ⟨u,v,w,rfl,G⟩ (λσ' h' z=>hC _ _ z) ?_;clear G;rintro k _ h4 hk ⟨u,v,w,rfl,G⟩;refine ww n (λi σ' h'=> ∃v w,σ'= [some (zC T),some (.int (n:D3)),some (.lst R),some (.int (k:D3)),v,w]/\GB n h h' R rs (fW T k i 0)) (by omega) (λR r=>⟨_,rfl,r⟩) ⟨v,w,rfl,G.as λx y _ _=>Fa T k x y⟩ (λσ' h' ⟨v,w,e,G⟩=>⟨_,Sub.refl _,by omega,_,v,w,e,G.as λx y hx _=>AB T k x y hx⟩) ?_;clear G;rintro i _ h5 hi ⟨v,w,rfl,G⟩;refine ww n (λj σ' h'=> ∃w,σ'= [some (zC T),some (.int (n:D3)),some (.lst R),some (.int (k:D3)),some (.int (i:D3)),w]/\GB n h h' R rs (fW T k i j)) (by omega) (λR r=>⟨_,rfl,r⟩) ⟨w,rfl,G⟩ (λσ' h' ⟨w,e,G⟩=>⟨_,Sub.refl _,by omega,_,w,e,G.as λx y _ hy=>CZ T k i x y hy⟩) ?_;clear G;rintro j _ h6' hj ⟨w,rfl,G⟩;obtain⟨a,ha,a1,a2⟩:=G.pick hi;obtain⟨c,hc,c1,c2⟩:=G.pick hk;refine⟨_,rfl,_,rfl,_,_,G.at_,a1,_,rfl,_,_,a2,Va hk,_,rfl,?_⟩;rw [Ay];refine Vz (λz1=> ?_) λz1=> ?_
  ·refine⟨_,rfl,_,rfl,_,_,G.at_,c1,_,rfl,_,_,c2,Va hj,_,rfl,?_⟩;rw [Az];refine Vz (λz2=> ?_) λz2=> ?_
   ·exact⟨_,rfl,_,rfl,_,_,G.at_,a1,_,rfl,a,(j:D3),_,j,rfl,rfl,a2,Cs (by rw [G6,B0];exact hj),_,Sub.refl _,by omega,_,rfl,(G.put ha).as λx y _ _=>AA z1 z2 x y⟩
   ·exact⟨_,Sub.refl _,by omega,_,rfl,G.as λx y _ _=>PY (λz=>z2 z.2) x y⟩
  ·exact⟨_,Sub.refl _,by omega,_,rfl,G.as λx y _ _=>PY (λz=>z1 z.1) x y⟩
 rintro _ h4 ⟨u,v,w,rfl,G⟩;exact⟨_,rfl,_,Sub.refl _,q R rs h4 G⟩
def Jk:RDn:=λds h Q=> ∃R rs h0 T,∃n:G7,ds= [.lst R]/\GB n h0 h R rs (wk T n)/\n<=6/\ ∀A h',h A=none->h' A=some ((ze T n).map jR)->Sub h h'->Q (.lst A) h'
theorem Vn (Z:Zs mg)(F:Fun K "pieces_by" "pieces_by" yX f fd):FnOk P w K mg base CX0 (n+1) f fd ["come"] (LSp K Jk):=by
 refine F.okM zl (λhr=>(js4 (jse 1 zl (Ra Z (jv 0))) (jse 2 zl (yC zk)) (XI I0 rfl (jrg Z (jv 1)) (jgn 3 zl) (js2 (jse 4 zl (wc vo rfl Z.tuple (by decide +kernel) (j1 (jl1 5 zl (jrg Z (jv 1)) (λ_ _ _ _=>(jpt (OP (yy (ji1 (ji1 (jv 0) (jv 3)) (jv 5))) (ON (yy (ji1 (ji1 (jv 0) (jv 5)) (jv 3))))))) (λ_ _ _ _=>(jv 5)))))) (VD (jt1 (Zc hr.units) (ji1 (jv 4) jC) (jv 3)) (ZQ (Cf (jv 2) (jv 4)))))) (yA (jv 2)))) ?_;rintro ds h Q ⟨R,rs,h0,T,n,rfl,G,h6,q⟩;refine⟨rfl,?_⟩;refine ji (λσ' h'=>σ'= [some (.lst R),some (.int (n:D3)),none,none,none,none]/\h=h') (λC hC=> ?_) ?_
 ·exact⟨_,rfl,_,G.at_,hC _ _ ⟨by rw [G6,G.len];rfl,rfl⟩⟩
 rintro _ _ ⟨rfl,rfl⟩;refine ji (λσ' h'=> ∃A,σ'= [some (.lst R),some (.int (n:D3)),some (.lst A),none,none,none]/\h A=none/\Sub h h'/\h' A=some []) (λC hC=>⟨sz0,λA eA=>hC _ _ ⟨A,rfl,eA,Sub.newAt (Sub.refl h) eA,jc⟩⟩) ?_;rintro _ h1 ⟨A,rfl,nA,sb,kA⟩;refine ji (λσ' h'=> ∃u v w,σ'= [some (.lst R),some (.int (n:D3)),some (.lst A),u,v,w]/\Sub h h'/\h' A=some ((ze T n).map jR)) (λC hC=> ?_) ?_
 ·refine ww n (λk σ' h'=> ∃u v w,σ'= [some (.lst R),some (.int (n:D3)),some (.lst A),u,v,w]/\Sub h h'/\h' A=some (((((R4 k).filter (λp=>decide ((pcS T n p).headD 0=p))).map (pcS T n))).map jR)) (by omega) (λR r=>⟨_,rfl,r⟩) ⟨_,_,_,rfl,sb,kA⟩ (λσ' h' z=>hC _ _ z) ?_;clear sb kA;rintro k _ h2 hk ⟨u,v,w,rfl,sb,kA⟩;have GG:=G.up sb;obtain⟨a,ha,a1,a2⟩:=GG.pick hk;refine ji (λσ' h'=> ∃w,σ'= [some (.lst R),some (.int (n:D3)),some (.lst A),some (.int (k:D3)),some (jR (pcS T n k)),w]/\h2=h') (λC hC=> ?_) ?_
  ·refine RZ n (λj ys h'=>h'=h2/\ys=((R4 j).filter λi=>wk T n k i&&wk T n i k).map λ(i:G7)=>D.int (i:D3)) (by omega) (λR r=>⟨_,rfl,r⟩) ⟨rfl,rfl⟩ (λj ys h' w=> ?_) (λj ys h' hj w=> ?_) (λys h' w=> ?_)
   ·rw [w.2,G6];exact S0 (Y3 _ _) (by rw [B0];exact P3 _)
   ·obtain⟨rfl,rfl⟩:=w;obtain⟨c,hc,c1,c2⟩:=GG.pick hj;refine⟨_,rfl,_,rfl,_,_,GG.at_,a1,_,rfl,_,_,a2,Va hj,_,rfl,Vz (λz1=> ?_) λz1=> ?_⟩
    ·refine⟨_,rfl,_,rfl,_,_,GG.at_,c1,_,rfl,_,_,c2,Va hk,_,rfl,Vz (λz2=> ?_) λz2=> ?_⟩
     ·refine⟨_,rfl,_,Sub.refl _,by omega,rfl,?_⟩;rw [U7,bK,B3,gP (by rw [z1,z2];rfl)];rfl
     ·refine⟨_,Sub.refl _,by omega,rfl,?_⟩;rw [U7,bK,B3,cV (by rw [H0];exact λz=>z2 z.2)];simp
    ·refine⟨_,Sub.refl _,by omega,rfl,?_⟩;rw [U7,bK,B3,cV (by rw [H0];exact λz=>z1 z.1)];simp
   ·obtain⟨rfl,rfl⟩:=w;exact hC _ _ ⟨_,rfl,rfl⟩
  rintro _ _ ⟨w',rfl,rfl⟩;obtain⟨r,er⟩:=Zz (T:=T) hk;have a0:((pcS T n k).map λ(i:G7)=>D.int (i:D3))[0]? =some (.int (((pcS T n k).headD 0:G7):D3)):=by
   cases z:pcS T n k with
   |nil=>rw [z] at er;cases er
   |cons x r=>rfl
  refine⟨_,rfl,_,wu (j:=0) a0,_,rfl,?_⟩;show ∃k_1,D.bl (decide ((((pcS T n k).headD 0:G7):D3)=(k:D3)))= .bl k_1/\_;refine⟨_,rfl,Vz (λz=> ?_) λz=> ?_⟩
  ·have z:(pcS T n k).headD 0=k:=by have:=J5 z;omega
   refine⟨_,rfl,A,rfl,_,rfl,_,kA,?_,_,Sub.refl _,by omega,_,_,_,rfl,sb.over nA,?_⟩
   ·rw [G6,G6];exact jz (S0 (Y3 _ _) (by rw [B0];omega))
   ·rw [jc,U7,bK,gP (by rw [W6];exact z),tM,B3,B3];rfl
  ·have z: ¬ (pcS T n k).headD 0=k:=λe=>z (M8 (by omega))
   refine⟨_,Sub.refl _,by omega,_,_,_,rfl,sb,?_⟩;rw [kA,U7,bK,cV (by rw [W6];exact z),tM,O6]
 rintro _ h4 ⟨u,v,w,rfl,sb4,k4⟩;exact⟨_,rfl,_,Sub.refl _,q A h4 nA k4 sb4⟩
variable {b:D->SD->SD->Prop}{js:G0 G7}{ti:TID}{tt:TTD}{te:TED}{σ:SD}{h:HD}
theorem MV {E:EndsD}(x:yJ b js ti tt te σ h λv h1=>Si [v] h1 λy h2=> ∃c,y= .bl c/\E.rt (.bl (!c)) h2):Qy (Gk (dCB Si (zw (yJ b js ti tt te) We))) E σ h:=x
theorem DP {P:G0 G7}(h:P≠ []):atI (P.map λ(k:G7)=>D.int (k:D3)) 0=some (.int ((P.headD 0:G7):D3)):=by
 refine wu (j:=0) ?_;cases P with
 |nil=>exact absurd rfl h
 |cons x r=>rfl
theorem DQ {a b:G0 G7}{Q:KD}(q:Q (.bl (!decide (a=b))) h):neE (jR a) (jR b) h Q:=⟨_,_,Zj h a,Zj h b,Wk _,Wk _,by rw [Pb];exact q⟩
def Wz:RDn:=λds h Q=> ∃P A R rs h0 T,∃Ls:G0 (G0 G7),∃n:G7,ds= [jR P,.lst A,.lst R]/\GB n h0 h R rs (wk T n)/\n<=6/\h A=some (Ls.map jR)/\Ls.length<=6/\(∀o∈Ls,o≠ []/\o.headD 0<n)/\P≠ []/\P.headD 0<n/\Q (.bl (frB T n P Ls)) h
theorem Qo (Z:Zs mg)(F:Fun K "is_free" "is_free" ZF f fd):FnOk P w K mg base CX0 (n+1) f fd ["piece","left","come"] (LSp K Wz):=by
 refine F.okM Wx (λhr=>(jV (yA (Tt (yf (Oy rfl) rfl Z.any (by decide +kernel) (j1 (jl1 3 Wx (yg (jv 1)) (λ_ _ _ _=>(jt1 (UG hr.units) (jv 3) (jv 0))) (λ_ _ _ _=>(ji1 (ji1 (jv 2) (ji1 (jv 3) jC)) (ji1 (jv 0) jC)))))))))) ?_;rintro ds h Q ⟨P,A,R,rs,h0,T,Ls,n,rfl,G,h6,kA,l6,lo,p0,pn,q⟩;refine⟨rfl,?_⟩;have at_: ∀o∈Ls,∃a,atI (rs.map D.lst) ((o.headD 0:G7):D3)=some (.lst a)/\h a=some ((R4 n).map λj=>D.bl (wk T n (o.headD 0) j)):=λo ho=>by
  obtain⟨a,_,a1,a2⟩:=G.pick (lo o ho).2;exact⟨a,a1,a2⟩
 refine MV (lcF (j:=λh=>h A) Ls jR (λo=> .bl (wk T n (o.headD 0) (P.headD 0))) (λo=> !decide (o=P)) (by omega) kA (λR r=>⟨_,rfl,r⟩) (λo ho Q' q'=>⟨_,rfl,_,rfl,DQ ⟨_,rfl,q'⟩⟩) (λo ho _ Q' q'=> ?_) λB eB=> ?_)
 ·obtain⟨a,a1,a2⟩:=at_ o ho;exact⟨_,rfl,_,rfl,_,DP (lo o ho).1,_,_,G.at_,a1,_,rfl,_,DP p0,_,_,a2,Va pn,q'⟩
 ·refine⟨B,(Ls.filter λo=> !decide (o=P)).map λo=>wk T n (o.headD 0) (P.headD 0),rfl,by rw [jc,O0];rfl,_,rfl,?_⟩;rw [wG eB,y8];exact⟨h,Sub.refl h,q⟩
theorem Xw {α:Type}: ∀ {l:G0 α} {j:G7} (h:j<l.length),(l[j]::l.eraseIdx j).Perm l
 |x::l,0,_=>G0T _
 |x::l,j+1,h=>(uR x _ _).trans ((Xw (l:=l) (j:=j) (by simpa using h)).cons x)
theorem DR {α β:Type}(f:α->β): ∀ (l:G0 α) (j:G7),(l.map f).eraseIdx j=(l.eraseIdx j).map f
 | [],j=>rfl
 |x::l,0=>rfl
 |x::l,j+1=>by show f x::(l.map f).eraseIdx j=_;rw [DR f l j];rfl
theorem MW {k:G7}{i0:D3}{E:EndsD}(x:yJ b js ti tt te σ h λv h1=>ixD v (.int i0) h1 λd h2=>E.nx (σ.set k (some d)) h2):RA k (dOp ixD (yJ b js ti tt te) (dC (.int i0))) E σ h:=x
def Vo:RDn:=λds h Q=> ∃T,∃n e:G7,ds= [zC T]/\Sq n e T/\1<=n/\n<=6/\ ∀A R h',h A=none->R=Vi T n (ze T n).length (ze T n)->h' A=some (R.map jR)->Sub h h'->Q (.lst A) h'
theorem DS (Z:Zs mg)(F:Fun K "ladder" "ladder" JF f fd)(Vu:jw P w K mg base n "want_table" ["thing"] vJ)(DV:jw P w K mg base n "reaches" ["table"] Wy)(Us:jw P w K mg base n "pieces_by" ["come"] Jk)(DU:jw P w K mg base n "is_free" ["piece","left","come"] Wz):FnOk P w K mg base CX0 (n+1) f fd ["table"] (LSp K Vo):=by
 refine F.okM wf (λhr=>(js6 (ZQ (jk Vu hr (j1 (jv 0)))) (jse 1 wf (jk DV hr (j1 (jv 0)))) (jse 2 wf (jk Us hr (j1 (jv 1)))) (jse 3 wf (yC zk)) (OU I0 (SF (jv 2)) (js3 (jse 4 wf (ji1 (jl1 5 wf (yg (jv 2)) (λ_ _ _ _=>(yy (jk DU hr (j3 (jv 5) (jv 2) (jv 1))))) (λ_ _ _ _=>(jv 5))) jC)) (ZQ (Cf (jv 3) (jv 4))) (ZQ (HU hr.units (jv 2) (jv 4))))) (yA (jv 3)))) ?_;rintro ds h Q ⟨T,n,b,rfl,hT,h1,h6,q⟩;refine⟨rfl,?_⟩;have h8:n<=8:=by omega
 refine Vg [some (zC T),none,none,none,none,none] (λC hC=>⟨_,rfl,T,n,b,rfl,hT,h1,h6,hC⟩) ?_;refine ji (λσ' h'=> ∃R rs,σ'= [some (zC T),some (.lst R),none,none,none,none]/\GB n h h' R rs (wk T n)) (λC hC=>⟨_,rfl,T,n,b,rfl,hT,h6,λR rs h' G=>hC _ _ ⟨R,rs,rfl,G⟩⟩) ?_;rintro _ h2 ⟨R,rs,rfl,G⟩;refine ji (λσ' h'=> ∃A,σ'= [some (zC T),some (.lst R),some (.lst A),none,none,none]/\h2 A=none/\h' A=some ((ze T n).map jR)/\Sub h2 h') (λC hC=>⟨_,rfl,R,rs,h,T,n,rfl,G,h6,λA h' fA kA sb=>hC _ _ ⟨A,rfl,fA,kA,sb⟩⟩) ?_;rintro _ h3 ⟨A,rfl,fA,kA0,sb0⟩;refine ji (λσ' h'=> ∃B,σ'= [some (zC T),some (.lst R),some (.lst A),some (.lst B),none,none]/\h3 B=none/\h' B=some []/\h' A=some ((ze T n).map jR)/\Sub h2 h') (λC hC=>⟨sz0,λB eB=>hC _ _ ⟨B,rfl,eB,jc,je kA0 eB,sb0.newAt eB⟩⟩) ?_;rintro _ h4 ⟨B,rfl,fB,kB,kA,sb⟩;have fB2:h2 B=none:=wm sb0 fB;have nAB:A≠B:=λz=>by
  rw [<-z] at fB;rw [kA0] at fB;cases fB
 have fB1:h B=none:=wm G.sb fB2;refine ji (λσ' h'=> ∃Rs x,σ'= [some (zC T),some (.lst R),some (.lst A),some (.lst B),x,none]/\h' B=some (Rs.map jR)/\Rs=Vi T n (ze T n).length (ze T n)/\Sub h2 h') (λC hC=> ?_) ?_
 ·refine RQ (λm σ' h'=> ∃ (Ls Rs:G0 (G0 G7)) (x:P4 D),σ'= [some (zC T),some (.lst R),some (.lst A),some (.lst B),x,none]/\m=Ls.length/\h' A=some (Ls.map jR)/\h' B=some (Rs.map jR)/\(Rs++Ls).Perm (ze T n)/\Vi T n (ze T n).length (ze T n)=Rs++Vi T n Ls.length Ls/\Sub h2 h') (ze T n).length ⟨_,[],none,rfl,rfl,kA,kB,by rw [L6],by rw [L6],sb⟩ ?_;clear kA kB sb;rintro m _ h5 ⟨Ls,Rs,x4,rfl,rfl,kA,kB,pm,gr,sb⟩;have GG:=G.up sb;refine⟨_,rfl,!(Ls.map jR).isEmpty,⟨_,kA,rfl⟩,?_⟩
  by_cases z:Ls= []
  ·subst z;rw [O6] at pm;exact Ym (hC _ _ ⟨Rs,x4,rfl,kB,by rw [gr];exact(O6 Rs).symm,sb⟩)
  have ee:(!(Ls.map jR).isEmpty)=true:=by cases Ls with|nil=>exact absurd rfl z|cons=>rfl
  rw [ee];refine FI ?_;have sub: ∀P∈Ls,P∈ze T n:=λP hP=>pm.mem_iff.mp (M1 _ hP)
  have nd:Ls.Nodup:=(cI.mp (pm.nodup_iff.mpr vG)).2.1;have ln:=pm.length_eq;rw [P8] at ln;have pl:=Ds (T:=T) (n:=n);have good: ∀o∈Ls,o≠ []/\o.headD 0<n:=λo ho=>by
   refine⟨λw=> ?_,(zJ (sub o ho)).1⟩;obtain⟨p,hp,ep⟩:=mem_pcs.mp (sub o ho);obtain⟨r,er⟩:=Zz (T:=T) hp;rw [<-ep,w] at er;cases er
  obtain⟨P0,hP0,fP0⟩:=AR sub z;obtain⟨P,r,eF⟩: ∃P r,Ls.filter (λP=>frB T n P Ls)=P::r:=by
   cases w:Ls.filter (λP=>frB T n P Ls) with
   |nil=>
    have:=(C8 (p:=λP=>frB T n P Ls)).mpr ⟨hP0,fP0⟩;rw [w] at this;cases this
   |cons P r=>exact⟨P,r,rfl⟩
  have mP:P∈Ls.filter (λP=>frB T n P Ls):=by rw [eF];exact P7
  obtain⟨hP,fP⟩:=C8.mp mP;have fP:=fr_iff.mp fP;refine ji (λσ' h'=>σ'= [some (zC T),some (.lst R),some (.lst A),some (.lst B),some (jR P),none]/\h' A=some (Ls.map jR)/\h' B=some (Rs.map jR)/\Sub h2 h') (λC hC=>MW ?_) ?_
  ·refine lcF (j:=λh=>h A) Ls jR jR (λP=>frB T n P Ls) (by omega) kA (λR r=>⟨_,rfl,r⟩) (λX hX Q' q'=>⟨_,rfl,_,rfl,_,rfl,X,A,R,rs,h,T,Ls,n,rfl,GG,h6,kA,by omega,good,(good X hX).1,(good X hX).2,_,rfl,q'⟩) (λX hX _ Q' q'=>⟨_,rfl,q'⟩) (λY eY=>⟨_,_,jc,?_,hC _ _ ⟨rfl,je kA eY,je kB eY,sb.newAt eY⟩⟩);rw [eF];exact wu (j:=0) rfl
  clear kA kB sb GG;rintro _ h6' ⟨rfl,kA,kB,sb⟩;refine ji (λσ' h'=>σ'= [some (zC T),some (.lst R),some (.lst A),some (.lst B),some (jR P),none]/\h' A=some (Ls.map jR)/\h' B=some ((Rs++ [P]).map jR)/\Sub h2 h') (λC hC=>⟨_,rfl,B,rfl,_,rfl,_,kB,?_,hC _ _ ⟨rfl,jj nAB kA,?_,sb.over fB2⟩⟩) ?_
  ·rw [G6];exact S7 (show Rs.length<100 by omega) (by decide)
  ·rw [jc,B3];rfl
  clear kA kB sb;rintro _ h7 ⟨rfl,kA,kB,sb⟩;obtain⟨j,pq,qs,zz,ej,t1,t2,c1,c2,c3,_,hz,hit,hno⟩:=OY encO kA hP (by omega);obtain⟨hj,ejj⟩:=P5.mp ej;have pe:(P::Ls.eraseIdx j).Perm Ls:=by rw [<-ejj];exact Xw hj
  have nP:P ∉ Ls.eraseIdx j:=(E6.mp (pe.nodup_iff.mpr nd)).1;have inL: ∀y∈Ls.eraseIdx j,y∈Ls:=λy hy=>pe.mem_iff.mp (D1 _ hy)
  refine⟨_,rfl,A,rfl,_,rfl,pq,qs,_,j,zz,t1,t2,c1,c2,c3,hz,hit,hno,kA,(Ls.eraseIdx j).length,_,?_,Sub.refl _,Ls.eraseIdx j,Rs++ [P],_,rfl,rfl,?_,jj (U9 nAB) kB,?_,?_,sb.over fA⟩
  ·rw [eM hj];omega
  ·rw [jc,DR]
  ·rw [D6];exact(IJ Rs pe).trans pm
  ·rw [gr,DH nd ej,D6];have hk:=ZB hP nd;rw [<-hk,MS eF];rfl
 rintro _ h5 ⟨Rs,x,rfl,kB',lad,sb'⟩;exact⟨_,rfl,h5,Sub.refl _,q B Rs h5 fB1 lad kB' (G.sb.trans sb')⟩
def WA:RDx:=λds h R=> ∃d,ds= [d]/\okD d=true/\Rc d=false/\R "NoTable" h
theorem Qp (Z:Zs mg)(Ex:Exc K mg)(F:Fun K "ladder" "ladder" JF f fd)(CR_want_table:WR P w K mg base n "want_table" ["thing"] yE):FnOk P w K mg base (CXR P w) (n+1) f fd ["table"] (Ny mg K WA):=by
 refine F.okMX wf (λhr=>(Cw (jxk CR_want_table hr (j1 (jv 0))))) ?_;rintro ds h R ⟨d,rfl,ok,bad,q⟩;refine⟨rfl,?_⟩;exact⟨_,rfl,d,rfl,ok,bad,q⟩
def Jl:RDn:=λds h Q=> ∃ns k,ds= [.scr ns,.int k]/\0<=k/\ ∀n,Q (.int n) h
theorem Vp (Z:Zs mg)(F:Fun K "_law_cell" "_law_cell" yY f fd):FnOk P w K mg base CX0 (n+1) f fd ["_law_script","_law_k"] (LSp K Jl):=by
 refine F.okM Vk (λhr=>(js2 (VD (jt1 Os (jv 1) (Ra Z (jv 0))) (yA (ji1 (jv 0) (jv 1)))) (yA jC))) ?_;rintro ds h Q ⟨ns,k,rfl,h0,q⟩;refine⟨rfl,?_⟩;simp only [wO,BH,vR,dOp,Gi,jU,C6,cA,D8,C0,Q5,L6,aL,U3,aM,dCB,zw,We,FL,Nm,D.bl.injEq,Qy,ixD,VA,bU,VL,dC];refine Vz (λc=> ?_) (λ_=>⟨h,Sub.refl h,q 0⟩);have c':k<(ns.length:D3):=J5 c;have hk:k.toNat<ns.length:=by omega
 have ek:k=((k.toNat:G7):D3):=by omega
 have z:=wu (P2 hk);rw [<-ek] at z;exact⟨ns[k.toNat],z,h,Sub.refl h,q _⟩
def ZJ:RDn:=λds h Q=> ∃c,ds= [.int c]/\ ∀p l fl,h p=none->0<=l->(fl=0\/fl=1)->Q (.lst p) (zR h p [.int l,.int fl])
theorem Um (Z:Zs mg)(F:Fun K "_law_pen" "_law_pen" Jd f fd):FnOk P w K mg base CX0 (n+1) f fd ["_law_cell_here"] (LSp K ZJ):=by
 refine F.okM ZG (λhr=>(js2 (jse 1 ZG (yf (Ow rfl) rfl Z.max (by decide +kernel) (j2 (jv 0) (jop Nn jC (jv 0))))) (yA (yC (j2 (jv 1) (wc Gq rfl Z.int (by decide +kernel) (j1 (jc1 BV (jv 1) (jop No jC jC))))))))) ?_;rintro ds h Q ⟨c,rfl,q⟩;refine⟨rfl,?_⟩;simp only [wO,RA,dCB,zw,Gi,jU,C6,cA,D8,C0,N9,Q5,L6,U3,aM,dOp,dC,To,We,Sf,Qy,FJ,qC,qD,aL,Tq,Nm,Se,VA,bU];refine⟨⟨by decide,by decide,by decide⟩,by decide,λp hp=>⟨_,Sub.refl _,q p _ _ hp ?_ ?_⟩⟩
 ·split<;>omega
 ·split<;>simp<;>omega
def zM:RDn:=λds h Q=> ∃p l fl m,ds= [.lst p,.int m]/\h p=some [.int l,.int fl]/\0<=l/\0<m/\m<2^200/\ ∀r l',0<=r->r<m->0<=l'->Q (.int r) (zR h p [.int l',.int fl])
theorem Vq (Z:Zs mg)(F:Fun K "_law_draw" "_law_draw" yZ f fd):FnOk P w K mg base CX0 (n+1) f fd ["_law_pen_here","_law_many"] (LSp K zM):=by
 refine F.okM wo (λhr=>(js5 (Ea (jt1 oq_eq (ji1 (jv 0) jC) jC) (js3 (Eb (yf XQ rfl Z.divmod (by decide +kernel) (j2 (ji1 (jv 0) jC) (jv 1))) (Nu (i:=2) (j:=3) rfl wo.nd rfl rfl (aS rfl) (aS rfl))) (Eb (jv 2) (GA (jv 0) jC)) (yA (jv 3))) UH) (jse 4 wo (jop Za (jop yM (jop zS (jop Za (ji1 (jv 0) jC) jC) jC) jC) jC)) (jse 4 wo (jop Za (jop zS (jop yM (jv 4) (jv 4)) jC) jC)) (Eb (jop Za (jop zS (jop yM (jv 4) jC) jC) jC) (GA (jv 0) jC)) (yA (jop Za (jop BU (ji1 (jv 0) jC) jC) (jv 1))))) ?_;rintro ds h Q ⟨p,l,fl,m,rfl,hp,h0,hm,hm2,q⟩;refine⟨rfl,?_⟩;refine Vg [some (.lst p),some (.int m),none,none,none] (λC hC=>⟨_,rfl,_,_,hp,rfl,?_⟩) ?_
 ·show ∃k,D.bl (decide (fl=1))= .bl k/\_;refine⟨_,rfl,Vz (λ_=> ?_) λ_=>hC⟩;exact⟨_,rfl,_,_,hp,rfl,_,rfl,_,_,rfl,⟨hm,hm2⟩,_,_,rfl,_,rfl,_,rfl,p,0,_,0,rfl,rfl,hp,rfl,_,rfl,_,Sub.refl _,q (l%m) (l / m) (i9 _ (IF hm)) (lG _ hm) (Int.ediv_nonneg h0 (y9 hm))⟩
 refine ji (λσ' h'=> ∃z:D3,σ'= [some (.lst p),some (.int m),none,none,some (.int z)]/\(0<=z/\z<2147483629)/\h=h') (λC hC=>⟨_,rfl,_,_,hp,rfl,by decide,.inr ⟨by decide,by decide⟩,by decide,hC _ _ ⟨_,rfl,⟨i9 _ (by decide),lG _ (by decide)⟩,rfl⟩⟩) ?_;rintro _ _ ⟨z,rfl,⟨z0,z1⟩,rfl⟩;refine ji (λσ' h'=> ∃y:D3,σ'= [some (.lst p),some (.int m),none,none,some (.int y)]/\h=h') (λC hC=>⟨_,rfl,_,rfl,.inl ⟨k7 (by decide) z0,Int.lt_trans z1 (by decide)⟩,by decide,hC _ _ ⟨_,rfl,rfl⟩⟩) ?_;rintro _ _ ⟨y,rfl,rfl⟩;refine ji (λσ' h'=> ∃x:D3,σ'= [some (.lst p),some (.int m),none,none,some (.int y)]/\0<=x/\h'=zR h p [.int x,.int fl]) (λC hC=>⟨_,rfl,.inr ⟨by decide,by decide⟩,by decide,_,rfl,p,0,_,0,rfl,rfl,hp,rfl,hC _ _ ⟨_,rfl,i9 _ (by decide),rfl⟩⟩) ?_;rintro _ _ ⟨x,rfl,x0,rfl⟩;exact⟨_,rfl,_,_,jc,rfl,⟨by decide,by decide⟩,_,rfl,hm,_,Sub.refl _,q (x / 32%m) x (i9 _ (IF hm)) (lG _ hm) x0⟩
def Qq (c:Str)(n:G7):G0 D:=((CN13.map λd=>c==d).take n).map D.bl
def MX (c:Str):G0 F8:=(CN13.map λd=>c==d).map sK
def wordsD:G0 D:=(["table","place","number","order","set","walk","lengths","way","apart","row","tables","text","great"]:G0 Str).map D.str
theorem DT: ∀bs:G0 T5,ToPs h (bs.map D.bl) (bs.map sK)
 | []=>rfl
 |b::bs=>⟨_,_,rfl,rfl,DT bs⟩
theorem za {l:G0 T5}{j:G7}(h:(l.take j).all (!·)=true){m:G7}{y:F8}(hm:m<j)(e:(l.map sK)[m]? =some y):C3 y (.bool true)=false:=by
 rw [D9] at e;obtain⟨b,e1,rfl⟩:=A5.mp e;have:=L0.mp h b (P6 (i:=m) (by rw [Z5 hm];exact e1));cases b with
 |true=>cases this
 |false=>rfl
theorem SQ {c:Str}(hc:c∈CN): ∃j:G7,j<10/\(MX c)[j]? =some (.bool true)/\(∀m y,m<j->(MX c)[m]? =some y->C3 y (.bool true)=false)/\atI wordsD (j:D3)=some (D.str (vp c))/\((MX c).countP λz=>C3 z (.bool true))=1:=by
 simp only [CN,D2,F4,or_false] at hc;rcases hc with rfl|rfl|rfl|rfl|rfl|rfl|rfl|rfl|rfl|rfl
 ·exact⟨0,by decide,rfl,λm y=>za rfl,rfl,rfl⟩
 ·exact⟨1,by decide,rfl,λm y=>za rfl,rfl,rfl⟩
 ·exact⟨2,by decide,rfl,λm y=>za rfl,rfl,rfl⟩
 ·exact⟨3,by decide,rfl,λm y=>za rfl,rfl,rfl⟩
 ·exact⟨4,by decide,rfl,λm y=>za rfl,rfl,rfl⟩
 ·exact⟨5,by decide,rfl,λm y=>za rfl,rfl,rfl⟩
 ·exact⟨6,by decide,rfl,λm y=>za rfl,rfl,rfl⟩
 ·exact⟨7,by decide,rfl,λm y=>za rfl,rfl,rfl⟩
 ·exact⟨8,by decide,rfl,λm y=>za rfl,rfl,rfl⟩
 ·exact⟨9,by decide,rfl,λm y=>za rfl,rfl,rfl⟩
theorem Yg (Z:Zs mg)(Ex:Exc K mg)(F:Fun K "_law_kind" "_law_kind" va f fd):FnOkU P w K mg base CX0 (n+1) f fd ["_law_e"] (LSp K (Pl mg)):=by
 obtain⟨D_NoOrder,m_NoOrder⟩:=Ex.cls "NoOrder" (by decide);obtain⟨D_NoNumber,m_NoNumber⟩:=Ex.cls "NoNumber" (by decide);obtain⟨D_NoPlace,m_NoPlace⟩:=Ex.cls "NoPlace" (by decide);obtain⟨D_NoTable,m_NoTable⟩:=Ex.cls "NoTable" (by decide);obtain⟨D_NoLengths,m_NoLengths⟩:=Ex.cls "NoLengths" (by decide);obtain⟨D_NoWalk,m_NoWalk⟩:=Ex.cls "NoWalk" (by decide);obtain⟨D_NoSet,m_NoSet⟩:=Ex.cls "NoSet" (by decide);obtain⟨D_NoRow,m_NoRow⟩:=Ex.cls "NoRow" (by decide);obtain⟨D_Apart,m_Apart⟩:=Ex.cls "Apart" (by decide);obtain⟨D_NoWay,m_NoWay⟩:=Ex.cls "NoWay" (by decide);obtain⟨D_TooGreat,m_TooGreat⟩:=Ex.cls "TooGreat" (by decide);obtain⟨D_NoText,m_NoText⟩:=Ex.cls "NoText" (by decide);obtain⟨D_NoTables,m_NoTables⟩:=Ex.cls "NoTables" (by decide);refine F.okJU zm (λds h Q q=>by obtain⟨c,C,e,hc,hm,q⟩:=q;subst e;rfl) _ (λcdv A outer s H E hr=>(js7 (jse 1 zm (yC (j4 (XW rfl Z.isinstance rfl m_NoTable (jv 0)) (XW rfl Z.isinstance rfl m_NoPlace (jv 0)) (XW rfl Z.isinstance rfl m_NoNumber (jv 0)) (XW rfl Z.isinstance rfl m_NoOrder (jv 0))))) (jse 1 zm (jop zS (jv 1) (yC (j3 (XW rfl Z.isinstance rfl m_NoSet (jv 0)) (XW rfl Z.isinstance rfl m_NoWalk (jv 0)) (XW rfl Z.isinstance rfl m_NoLengths (jv 0)))))) (jse 1 zm (jop zS (jv 1) (yC (j3 (XW rfl Z.isinstance rfl m_NoWay (jv 0)) (XW rfl Z.isinstance rfl m_Apart (jv 0)) (XW rfl Z.isinstance rfl m_NoRow (jv 0)))))) (jse 1 zm (jop zS (jv 1) (yC (j3 (XW rfl Z.isinstance rfl m_NoTables (jv 0)) (XW rfl Z.isinstance rfl m_NoText (jv 0)) (XW rfl Z.isinstance rfl m_TooGreat (jv 0)))))) (VD (jpt (FM (Jq (yy (HM (T:= "ValueError") rfl Z.isinstance rfl Ex.ve (by decide +kernel) (jv 0)))) (OO (jt1 oq_ne (HL hr.units (jv 1) jbl) jC)))) (yA Wf)) (jse 2 zm (yC (jac Wf (by exact(jac Wf (by exact(jac Wf (by exact(jac Wf (by exact(jac Wf (by exact(jac Wf (by exact(j4 Wf Wf Wf Wf))))))))))))))) (yA (ji1 (jop zS (jv 2) (yC (j3 Wf Wf Wf))) (HH hr.units (jv 1) jbl))))) ?_;intro ds h Q q;obtain⟨c,C,e,hc,hm,q⟩:=q;subst e;have kit: ∀d∈CN13,∀D,mg d=some (.ref D)->kO K (.ref C) (.ref D)=some (c==d):=λd hd D hD=>Ex.kit c hc d hd C D hm hD
 have ek:=Ex.ek c hc C hm;have kv:=Ex.val c hc C hm;refine ji (λσ' h'=> ∃p,σ'= [some (.exc C),some (.lst p),none]/\Sub h h'/\h' p=some (Qq c 4)) (λC2 hC=>⟨_,rfl,C,_,rfl,ek,kit _ (by decide) _ m_NoTable,_,rfl,C,_,rfl,ek,kit _ (by decide) _ m_NoPlace,_,rfl,C,_,rfl,ek,kit _ (by decide) _ m_NoNumber,_,rfl,C,_,rfl,ek,kit _ (by decide) _ m_NoOrder,sz4,λp e=>hC _ _ ⟨p,rfl,Sub.newAt (Sub.refl h) e,jc⟩⟩) ?_;rintro _ h1 ⟨p,rfl,sb,k1⟩;refine ji (λσ' h'=> ∃p,σ'= [some (.exc C),some (.lst p),none]/\Sub h h'/\h' p=some (Qq c 7)) (λC2 hC=>⟨_,rfl,_,rfl,C,_,rfl,ek,kit _ (by decide) _ m_NoSet,_,rfl,C,_,rfl,ek,kit _ (by decide) _ m_NoWalk,_,rfl,C,_,rfl,ek,kit _ (by decide) _ m_NoLengths,sz3,λp2 e2=>⟨_,_,je k1 e2,jc,(by show 7<=sizeLine;decide),λp3 e3=>hC _ _ ⟨p3,rfl,Sub.newAt (Sub.newAt sb e2) e3,jc⟩⟩⟩) ?_;rintro _ h1 ⟨p,rfl,sb,k1⟩;refine ji (λσ' h'=> ∃p,σ'= [some (.exc C),some (.lst p),none]/\Sub h h'/\h' p=some (Qq c 10)) (λC2 hC=>⟨_,rfl,_,rfl,C,_,rfl,ek,kit _ (by decide) _ m_NoWay,_,rfl,C,_,rfl,ek,kit _ (by decide) _ m_Apart,_,rfl,C,_,rfl,ek,kit _ (by decide) _ m_NoRow,sz3,λp2 e2=>⟨_,_,je k1 e2,jc,(by show 10<=sizeLine;decide),λp3 e3=>hC _ _ ⟨p3,rfl,Sub.newAt (Sub.newAt sb e2) e3,jc⟩⟩⟩) ?_;rintro _ h1 ⟨p,rfl,sb,k1⟩;refine ji (λσ' h'=> ∃p,σ'= [some (.exc C),some (.lst p),none]/\Sub h h'/\h' p=some (Qq c 13)) (λC2 hC=>⟨_,rfl,_,rfl,C,_,rfl,ek,kit _ (by decide) _ m_NoTables,_,rfl,C,_,rfl,ek,kit _ (by decide) _ m_NoText,_,rfl,C,_,rfl,ek,kit _ (by decide) _ m_TooGreat,sz3,λp2 e2=>⟨_,_,je k1 e2,jc,(by show 13<=sizeLine;decide),λp3 e3=>hC _ _ ⟨p3,rfl,Sub.newAt (Sub.newAt sb e2) e3,jc⟩⟩⟩) ?_;rintro _ h1 ⟨p,rfl,sb,k1⟩;have hpG: ∀h':HD,h' p=some (Qq c 13)->ToP h' (.lst p) (.list (MX c)):=λh' k=>⟨p,_,rfl,k,DT _⟩
 obtain⟨j,hj,hz,hno,hw,hcnt⟩:=SQ hc;refine Vg [some (.exc C),some (.lst p),none] (λC2 hC=>⟨_,rfl,C,_,rfl,ek,kv,_,rfl,Ym ⟨_,rfl,p,rfl,.bool true,_,hpG h1 k1,rfl,rfl,rfl,by simp [E3],_,rfl,?_⟩⟩) ?_
 ·rw [hcnt];exact Ym (hC)
 refine ji (λσ' h'=> ∃w,σ'= [some (.exc C),some (.lst p),some (.lst w)]/\Sub h1 h'/\h' p=some (Qq c 13)/\h' w=some (wordsD.take 10)) (λC2 hC=>⟨(by show 10<=sizeLine;decide),λw e=>hC _ _ ⟨w,rfl,Sub.newAt (Sub.refl h1) e,je k1 e,jc⟩⟩) ?_;rintro _ h2 ⟨w,rfl,sb2,kp2,kw⟩;exact⟨_,rfl,sz3,λp4 e4=>⟨_,_,je kw e4,jc,(by show 13<=sizeLine;decide),λp5 e5=>⟨_,rfl,p,rfl,.bool true,_,j,_,hpG _ (je (je kp2 e4) e5),rfl,rfl,rfl,by simp [E3],by omega,hz,rfl,hno,_,_,jc,hw,_,Sub.refl _,q _ (Sub.newAt (Sub.newAt (sb.trans sb2) e4) e5)⟩⟩⟩
theorem FG (Z:Zs mg)(Ex:Exc K mg)(F:Fun K "_law_said" "_law_said" vc f fd)(CU:Ph P w K mg base n "_law_kind" ["_law_e"] (Pl mg)):FnOkS P w K mg base CX0 (n+2) f fd ["_law_call"] (UM P w K mg base n):=by
 obtain⟨gU,gdU,GU,bGU,kGU,mGU⟩:=CU;obtain⟨pe,hpe,hex⟩:=Ex.pe;refine CF F Jn rfl rfl rfl rfl rfl hpe hex _ (λcdv A outer s H E x hr=>jq (Tu (i:=3) Jn.nd rfl (aS rfl) (Ad GU hr rfl mGU kGU bGU (jac (jv 2) zk))) (jq (Ea (Gz (Cn hr.units) (jv 3) (ya (jac Wf (jac Wf zk))) (by with_unfolding_all rfl)) (jV GD) UH) (jq (Ea (Gz oq_eq (jv 3) Wf (QR _)) (jV GD) UH) (jV (yA (ya (jac (jv 3) zk))))))) ?_;intro c hc C h Qd hm q;refine⟨_,rfl,c,C,rfl,hc,hm,λh' sb=> ?_⟩;refine⟨_,rfl,(by show 2<=sizeLine;decide),.str (vp c),[.str "tables",.str "text"],rfl,.inr ⟨_,rfl,⟨_,_,rfl,rfl,_,_,rfl,rfl,rfl⟩⟩,?_,by decide +kernel,by simp [E3],_,rfl,?_⟩
 ·simp only [CN,D2,F4,or_false] at hc;rcases hc with rfl|rfl|rfl|rfl|rfl|rfl|rfl|rfl|rfl|rfl<;>decide +kernel
 have e1:((false !=List.any [G0l "tables",G0l "text"] λz=>C3 z (.str (vp c))))=false:=by
  simp only [CN,D2,F4,or_false] at hc;rcases hc with rfl|rfl|rfl|rfl|rfl|rfl|rfl|rfl|rfl|rfl<;>rfl
 rw [e1];refine Ym ⟨_,rfl,_,rfl,?_⟩;have e2:decide (vp c= "great")=false:=by
  simp only [CN,D2,F4,or_false] at hc;rcases hc with rfl|rfl|rfl|rfl|rfl|rfl|rfl|rfl|rfl|rfl<;>rfl
 rw [e2];exact Ym ⟨_,rfl,(by show 1<=sizeLine;decide),h,sb,q⟩
theorem Vr (Z:Zs mg)(F:Fun K "_law_same" "_law_same" vd f fd):FnOk P w K mg base CX0 (n+1) f fd ["_law_found","_law_due"] (LSp K Nw):=by
 refine F.okM Vl (λhr=>(jV (yA (jc1 oq_eq (yf (UL hr) rfl Z.repr (by decide +kernel) (j1 (jv 0))) (yf (UL hr) rfl Z.repr (by decide +kernel) (j1 (jv 1))))))) ?_;rintro ds h Q ⟨x,y,pd,rfl,t1,t2,so,q⟩;refine⟨rfl,?_⟩;refine⟨_,rfl,.inl ⟨x,pd,rfl,t1,so,_,rfl,.inl ⟨y,pd,rfl,t2,so,h,Sub.refl h,?_⟩⟩⟩;rw [M8 rfl];exact q
def Jm:RDn:=λds h Q=> ∃p l fl,ds= [.lst p]/\h p=some [.int l,.int fl]/\0<=l/\ ∀ (k:G7) l',1<=k->k<=6->0<=l'->Q (.int (k:D3)) (zR h p [.int l',.int fl])
theorem Vs (Z:Zs mg)(F:Fun K "_law_size" "_law_size" vf f fd)(jy:jw P w K mg base n "_law_draw" ["_law_pen_here","_law_many"] zM):FnOk P w K mg base CX0 (n+1) f fd ["_law_pen_here"] (LSp K Jm):=by
 refine F.okM Vm (λhr=>(jV (yA (ji1 (yC (jac jC (by exact(jac jC (by exact(jac jC (by exact(jac jC (by exact(jac jC (by exact(jac jC (by exact(jac jC (by exact(jac jC (by exact(j4 jC jC jC jC)))))))))))))))))) (jk jy hr (j2 (jv 0) jC)))))) ?_;rintro ds h Q ⟨p,l,fl,rfl,hp,h0,q⟩;refine⟨rfl,?_⟩;simp only [Qy,dOp,FJ,zw,dC,We,D8,C0,dCB,Gi,jU,C6,cA,Q5,L6,U3,aM,ixD,VA,bU];refine⟨by decide,λp1 e1=>⟨p,l,fl,12,rfl,je hp e1,h0,by decide,by decide,λr l' r0 r1 l0=> ?_⟩⟩;obtain⟨d,hd,ed⟩:=WM (xs:= [D.int 1,D.int 2,D.int 3,D.int 4,D.int 5,D.int 3,D.int 4,D.int 2,D.int 6,D.int 5,D.int 4,D.int 3]) r0 r1;refine⟨_,d,jj (jF hp e1) jc,ed,_,Sub.both (Sub.newAt (Sub.refl h) e1),?_⟩;have q': ∀k:G7,1<=k->k<=6->Q (.int (k:D3)) (zR h p [.int l',.int fl]):=λk a b=>q k l' a b l0
 simp only [D2,F4,or_false] at hd;rcases hd with e|e|e|e|e|e|e|e|e|e|e|e<;>subst e
 ·exact q' 1 (by decide) (by decide)
 ·exact q' 2 (by decide) (by decide)
 ·exact q' 3 (by decide) (by decide)
 ·exact q' 4 (by decide) (by decide)
 ·exact q' 5 (by decide) (by decide)
 ·exact q' 3 (by decide) (by decide)
 ·exact q' 4 (by decide) (by decide)
 ·exact q' 2 (by decide) (by decide)
 ·exact q' 6 (by decide) (by decide)
 ·exact q' 5 (by decide) (by decide)
 ·exact q' 4 (by decide) (by decide)
 ·exact q' 3 (by decide) (by decide)
def vK:RDn:=λds h Q=> ∃p l fl,∃k:G7,ds= [.lst p,.int (k:D3)]/\h p=some [.int l,.int fl]/\0<=l/\1<=k/\k<=6/\ ∀T l',GoodTab k T->0<=l'->Q (zC T) (zR h p [.int l',.int fl])
theorem Yh (Z:Zs mg)(F:Fun K "_law_table" "_law_table" yl f fd)(jy:jw P w K mg base n "_law_draw" ["_law_pen_here","_law_many"] zM):FnOk P w K mg base CX0 (n+1) f fd ["_law_pen_here","_law_size_here"] (LSp K vK):=by
 refine F.okM jt (λhr=>(js5 (HA (i:=2) (j:=3) rfl jt.nd rfl rfl (by decide) rfl rfl (j2 (jk jy hr (j2 (jv 0) jC)) (ji1 (yC (j3 jC jC jC)) (jk jy hr (j2 (jv 0) jC)))) rfl) (jse 4 jt (ji1 (yC (j4 jC jC jC (jop No jC jC))) (jk jy hr (j2 (jv 0) jC)))) (jse 5 jt (yC zk)) (XI I0 rfl (jrg Z (jv 1)) (jgn 6 jt) (js3 (jse 7 jt (yC zk)) (XI I0 rfl (jrg Z (jv 1)) (jgn 8 jt) (js5 (jse 9 jt (jc1 oq_eq (jk jy hr (j2 (jv 0) (jv 3))) jC)) (VD (jt1 Os (jv 2) jC) (jse 9 jt (jor (jc1 oq_eq (jv 8) (jop Za (jop zS (jv 6) jC) (jv 1))) (RG (OQ (jv 9) (RG (jc1 (Zc hr.units) (jk jy hr (j2 (jv 0) jC)) (jv 2)))))))) (VD (jt1 oq_eq (jv 2) jC) (jse 9 jt (jor (OQ (jv 9) (RG (jc1 oq_eq (jop Za (jop Nn (jv 8) (jv 6)) jC) jC))) (RG (jc1 (Zc hr.units) (jv 8) (jop zS (jv 6) jC)))))) (VD (jt1 oq_eq (jv 2) jC) (jse 9 jt (OQ (jv 9) (RG (jc1 BV (jv 8) (jv 6)))))) (ZQ (Cf (jv 7) (jop yM (wc Gq rfl Z.int (by decide +kernel) (j1 (jv 9))) (jop zS jC (jk jy hr (j2 (jv 0) (jv 4))))))))) (ZQ (Cf (jv 5) (wc cq_tuple rfl Z.tuple (by decide +kernel) (j1 (jv 7))))))) (yA (wc cq_tuple rfl Z.tuple (by decide +kernel) (j1 (jv 5)))))) ?_;rintro ds h Q ⟨p,l,fl,k,rfl,hp,h0,hk1,hk6,q⟩;refine⟨rfl,?_⟩;refine ji (λσ' h'=> ∃way o l2,σ'= [some (.lst p),some (.int (k:D3)),some (.int way),some (.int o),none,none,none,none,none,none]/\0<o/\o<1000/\0<=l2/\h' p=some [.int l2,.int fl]/\But p h h') (λC hC=>⟨_,rfl,p,l,fl,6,rfl,hp,h0,by decide,by decide,λway l1 w0 w1 l10=>⟨sz3,λp1 e1=>⟨_,rfl,p,l1,fl,3,rfl,je jc e1,l10,by decide,by decide,λr l2 r0 r1 l20=> ?_⟩⟩⟩) ?_
 ·obtain⟨oft,ho,eo⟩:=WM (xs:= [D.int 2,D.int 3,D.int 5]) r0 r1;obtain⟨o,e,o1,o2⟩: ∃o:D3,oft= .int o/\0<o/\o<1000:=by
   simp only [D2,F4,or_false] at ho;rcases ho with e|e|e<;>exact⟨_,e,by decide,by decide⟩
  subst e;exact⟨_,_,jj (jF jc e1) jc,eo,_,_,rfl,hC _ _ ⟨way,o,l2,rfl,o1,o2,l20,jc,((But.upd).new e1).put⟩⟩
 rintro _ h1 ⟨way,o,l2,rfl,o1,o2,l20,kA,bA⟩;refine ji (λσ' h'=> ∃m l3,σ'= [some (.lst p),some (.int (k:D3)),some (.int way),some (.int o),some (.int m),none,none,none,none,none]/\0<m/\m<=1000000/\0<=l3/\h' p=some [.int l3,.int fl]/\But p h h') (λC hC=>⟨⟨by decide,by decide,by decide⟩,sz4,λp1 e1=>⟨_,rfl,p,l2,fl,4,rfl,je kA e1,l20,by decide,by decide,λr l3 r0 r1 l30=> ?_⟩⟩) ?_
 ·obtain⟨most,ho,eo⟩:=WM (xs:= [D.int 1,D.int 1,D.int 3,D.int (10^kI 6)]) r0 r1;obtain⟨m,e,m1,m2⟩: ∃o:D3,most= .int o/\0<o/\o<=1000000:=by
   simp only [D2,F4,or_false] at ho;rcases ho with e|e|e|e<;>exact⟨_,e,by decide,by decide⟩
  subst e;exact⟨_,_,jj (jF kA e1) jc,eo,hC _ _ ⟨m,l3,rfl,m1,m2,l30,jc,(bA.new e1).put⟩⟩
 clear kA bA;rintro _ h2 ⟨m,l3,rfl,m1,m2,l30,kB,bB⟩;refine ji (λσ' h'=> ∃R,σ'= [some (.lst p),some (.int (k:D3)),some (.int way),some (.int o),some (.int m),some (.lst R),none,none,none,none]/\R≠p/\h R=none/\h' R=some []/\h' p=some [.int l3,.int fl]/\But p h h') (λC hC=>⟨sz0,λR eR=>hC _ _ ⟨R,rfl,jF kB eR,Gx bB eR (jF kB eR),jc,je kB eR,bB.new eR⟩⟩) ?_;clear kB bB;rintro _ h3 ⟨R,rfl,nR,fR,kR,kC,bC⟩;refine ji (λσ' h'=> ∃a b c d l4 rows,σ'= [some (.lst p),some (.int (k:D3)),some (.int way),some (.int o),some (.int m),some (.lst R),a,b,c,d]/\0<=l4/\h' p=some [.int l4,.int fl]/\h' R=some (rows.map Jr)/\But p h h'/\GoodTab k rows) (λC hC=> ?_) (λσ' h' ⟨a,b,c,d,l4,rows,e,l40,kD,kE,bD,g⟩=>by subst e;exact⟨_,rfl,_,kE,_,bD.sub kD,q rows l4 g l40⟩);refine ww k (λi σ' h'=> ∃a b c d l4 rows,σ'= [some (.lst p),some (.int (k:D3)),some (.int way),some (.int o),some (.int m),some (.lst R),a,b,c,d]/\0<=l4/\h' p=some [.int l4,.int fl]/\h' R=some (rows.map Jr)/\But p h h'/\rows.length=i/\ ∀r∈rows,VR k r) (by omega) (λR' r=>⟨_,rfl,r⟩)
  ⟨none,none,none,none,l3,[],rfl,l30,kC,kR,bC,rfl,λr hr=>nomatch hr⟩ (λσ' h' z=>hC _ _ z) ?_
 clear kC kR bC;rintro i _ h4 hi ⟨a,b,c,d,l4,rows,rfl,l40,kD,kE,bD,g1,g2⟩;refine ji (λσ' h'=> ∃S,σ'= [some (.lst p),some (.int (k:D3)),some (.int way),some (.int o),some (.int m),some (.lst R),some (.int (i:D3)),some (.lst S),c,d]/\S≠p/\S≠R/\h S=none/\h' S=some []/\h' p=some [.int l4,.int fl]/\h' R=some (rows.map Jr)/\But p h h') (λC hC=>⟨sz0,λS eS=>hC _ _ ⟨S,rfl,jF kD eS,jF kE eS,Gx bD eS (jF kD eS),jc,je kD eS,je kE eS,bD.new eS⟩⟩) ?_;clear kD kE bD;rintro _ h5 ⟨S,rfl,nS,nSR,fS,kS,kD,kE,bD⟩;refine ji (λσ' h'=> ∃c d l5 row,σ'= [some (.lst p),some (.int (k:D3)),some (.int way),some (.int o),some (.int m),some (.lst R),some (.int (i:D3)),some (.lst S),c,d]/\0<=l5/\h' p=some [.int l5,.int fl]/\h' R=some (rows.map Jr)/\h' S=some (row.map D.int)/\But p h h'/\VR k row) (λC hC=> ?_) ?_
 rotate_left
 ·rintro _ h6 ⟨c,d,l5,row,rfl,l50,kD,kE,kF,bD,g⟩;refine⟨_,rfl,R,rfl,_,rfl,_,kF,_,kE,?_,_,Sub.refl _,by omega,_,_,_,_,l5,rows++ [row],rfl,l50,jj (U9 nR) kD,?_,bD.putNew fR,by rw [P8,g1];rfl,?_⟩
  ·rw [G6];exact Y4 (show rows.length<=1000 by omega) (by decide)
  ·rw [jc,B3];rfl
  ·intro r hr;rcases T8.mp hr with z|z
   ·exact g2 r z
   ·rw [P1.mp z];exact g
 refine ww k (λj σ' h'=> ∃c d l5 row,σ'= [some (.lst p),some (.int (k:D3)),some (.int way),some (.int o),some (.int m),some (.lst R),some (.int (i:D3)),some (.lst S),c,d]/\0<=l5/\h' p=some [.int l5,.int fl]/\h' R=some (rows.map Jr)/\h' S=some (row.map D.int)/\But p h h'/\row.length=j/\ ∀x∈row,0<=x/\x<=1000000) (by omega) (λR' r=>⟨_,rfl,r⟩)
  ⟨_,_,l4,[],rfl,l40,kD,kE,kS,bD,rfl,λr hr=>nomatch hr⟩ (λσ' h' z=>hC _ _ z) ?_
 clear kD kE kS bD;rintro j _ h6 hj ⟨c,d,l5,row,rfl,l50,kD,kE,kF,bD,g1',g2'⟩;refine ji (λσ' h'=> ∃ (g:T5) (l6:D3),σ'= [some (.lst p),some (.int (k:D3)),some (.int way),some (.int o),some (.int m),some (.lst R),some (.int (i:D3)),some (.lst S),some (.int (j:D3)),some (.bl g)]/\0<=l6/\h' p=some [.int l6,.int fl]/\h' R=some (rows.map Jr)/\h' S=some (row.map D.int)/\But p h h') (λC hC=>⟨_,rfl,_,rfl,p,l5,fl,o,rfl,kD,l50,o1,by omega,λr l6 r0 r1 l60=>hC _ _ ⟨_,l6,rfl,l60,jc,jj nR kE,jj nS kF,bD.put⟩⟩) ?_;clear kD kE kF bD;rintro _ _ ⟨g,l6,rfl,l60,kD,kE,kF,bD⟩;refine ji (λσ' h'=> ∃ (g:T5) (l6:D3),σ'= [some (.lst p),some (.int (k:D3)),some (.int way),some (.int o),some (.int m),some (.lst R),some (.int (i:D3)),some (.lst S),some (.int (j:D3)),some (.bl g)]/\0<=l6/\h' p=some [.int l6,.int fl]/\h' R=some (rows.map Jr)/\h' S=some (row.map D.int)/\But p h h') (λC hC=>⟨_,rfl,_,rfl,Vz (λ_=>⟨_,rfl,_,rfl,_,rfl,by omega,_,rfl,Vz (λ_=>hC _ _ ⟨_,l6,rfl,l60,kD,kE,kF,bD⟩) λ_=>⟨_,rfl,_,rfl,Vz (λ_=>⟨_,rfl,p,l6,fl,2,rfl,kD,l60,by decide,by decide,λr l7 r0 r1 l70=>⟨_,rfl,hC _ _ ⟨_,l7,rfl,l70,jc,jj nR kE,jj nS kF,bD.put⟩⟩⟩) λ_=>hC _ _ ⟨_,l6,rfl,l60,kD,kE,kF,bD⟩⟩⟩) λ_=>hC _ _ ⟨_,l6,rfl,l60,kD,kE,kF,bD⟩⟩) ?_;clear kD kE kF bD;rintro _ _ ⟨g,l6,rfl,l60,kD,kE,kF,bD⟩;refine ji (λσ' h'=> ∃ (g:T5) (l6:D3),σ'= [some (.lst p),some (.int (k:D3)),some (.int way),some (.int o),some (.int m),some (.lst R),some (.int (i:D3)),some (.lst S),some (.int (j:D3)),some (.bl g)]/\0<=l6/\h' p=some [.int l6,.int fl]/\h' R=some (rows.map Jr)/\h' S=some (row.map D.int)/\But p h h') (λC hC=>⟨_,rfl,_,rfl,Vz (λ_=>⟨_,rfl,_,rfl,Vz (λ_=>⟨_,rfl,_,rfl,by decide,_,rfl,Vz (λ_=>hC _ _ ⟨_,l6,rfl,l60,kD,kE,kF,bD⟩) λ_=>⟨_,rfl,_,rfl,hC _ _ ⟨_,l6,rfl,l60,kD,kE,kF,bD⟩⟩⟩) λ_=>⟨_,rfl,Vz (λ_=>hC _ _ ⟨_,l6,rfl,l60,kD,kE,kF,bD⟩) λ_=>⟨_,rfl,_,rfl,hC _ _ ⟨_,l6,rfl,l60,kD,kE,kF,bD⟩⟩⟩⟩) λ_=>hC _ _ ⟨_,l6,rfl,l60,kD,kE,kF,bD⟩⟩) ?_;clear kD kE kF bD;rintro _ _ ⟨g,l6,rfl,l60,kD,kE,kF,bD⟩;refine ji (λσ' h'=> ∃ (g:T5) (l6:D3),σ'= [some (.lst p),some (.int (k:D3)),some (.int way),some (.int o),some (.int m),some (.lst R),some (.int (i:D3)),some (.lst S),some (.int (j:D3)),some (.bl g)]/\0<=l6/\h' p=some [.int l6,.int fl]/\h' R=some (rows.map Jr)/\h' S=some (row.map D.int)/\But p h h') (λC hC=>⟨_,rfl,_,rfl,Vz (λ_=>⟨_,rfl,_,rfl,Vz (λ_=>⟨_,rfl,_,rfl,hC _ _ ⟨_,l6,rfl,l60,kD,kE,kF,bD⟩⟩) λ_=>hC _ _ ⟨_,l6,rfl,l60,kD,kE,kF,bD⟩⟩) λ_=>hC _ _ ⟨_,l6,rfl,l60,kD,kE,kF,bD⟩⟩) ?_;clear kD kE kF bD;rintro _ _ ⟨g,l6,rfl,l60,kD,kE,kF,bD⟩;have gi: ∀x r:D3,0<=r->r<m->x=0\/x=1->CMul x (1+r)/\0<=x*(1+r)/\x*(1+r)<=1000000:=λx r r0 r1 hx=>by
  rcases hx with e|e<;>subst e
  ·exact⟨.inl ⟨by decide,by decide⟩,by omega,by omega⟩
  ·exact⟨.inl ⟨by decide,by decide⟩,by omega,by omega⟩
 refine⟨_,rfl,S,rfl,_,rfl,_,rfl,_,rfl,p,l6,fl,m,rfl,kD,l60,m1,by omega,λr l7 r0 r1 l70=> ?_⟩;have gg:=gi (if g=true then 1 else 0) r r0 r1 (by cases g<;>decide);refine⟨gg.1,_,jj nS kF,?_,_,Sub.refl _,by omega,_,_,l7,row++ [(if g=true then 1 else 0)*(1+r)],rfl,l70,jj (U9 nS) jc,jj (U9 nSR) (jj nR kE),?_,(bD.put).putNew fS,by rw [P8,g1'];rfl,?_⟩
 ·rw [G6];exact Y4 (show row.length<=1000 by omega) (by decide)
 ·rw [jc,B3];rfl
 ·intro x hx;rcases T8.mp hx with z|z
  ·exact g2' x z
  ·rw [P1.mp z];exact gg.2
def wS:RDn:=λds h Q=> ∃T S,∃n e:G7,ds= [zC T,jR S]/\Sq n e T/\IsS n S/\n<=6/\Q (jR (Zi n T S)) h
theorem Yi (Z:Zs mg)(F:Fun K "_law_after" "_law_after" ym f fd):FnOk P w K mg base CX0 (n+1) f fd ["_law_table_here","_law_some"] (LSp K wS):=by
 refine F.okM zW (λhr=>(js2 (jse 2 zW (Ra Z (jv 0))) (yA (wc vo rfl Z.tuple (by decide +kernel) (j1 (jl1 3 zW (jrg Z (jv 2)) (λ_ _ _ _=>(jt1 Sc (yf (Co rfl) rfl Z.max (by decide +kernel) (j1 (jop zS (yC (j1 jC)) (jl0 4 zW (yg (jv 1)) (λ_ _ _ _=>(ji1 (ji1 (jv 0) (jv 4)) (jv 3))))))) jC)) (λ_ _ _ _=>(jv 3)))))))) ?_;rintro ds h Q ⟨T,S,k,b,rfl,hT,hS,h6,q⟩;refine⟨rfl,?_⟩;have hlen:=hS.len;refine ji (λσ' h'=>σ'= [some (zC T),some (jR S),some (.int (k:D3)),none,none]/\h=h') (λC hC=>⟨_,rfl,hC _ _ ⟨by rw [G6,hT.len];rfl,rfl⟩⟩) ?_;rintro _ _ ⟨rfl,rfl⟩;refine OT (R4 k) (λj=> .int (j:D3)) (λj=> .int (j:D3)) (λj=>S.any λi=>decide (ent T i j≠0)) (by rw [B0];omega) rfl (λR r=>⟨_,rfl,(k:D3),rfl,by omega,by omega,r⟩) (λj hj Q' q'=> ?_) (λj hj hp Q' q'=>⟨_,rfl,q'⟩) ⟨h,Sub.refl h,q⟩;refine⟨sz1,λp1 e1=> ?_⟩;refine lcA S (λi=> .int (i:D3)) (λi=> .int (ent T i j)) (by omega) rfl (λR r=>⟨_,rfl,r⟩) (λi hi Q'' q''=> ?_) (λp2 e2=> ?_)
 ·have hi':=hS.lt hi;exact⟨_,rfl,_,rfl,_,GI hT hi',_,rfl,_,GJ (hT.row _ (Sq.getRow hT hi')) (S8.mp hj),q''⟩
 ·refine⟨_,_,je jc e2,jc,?_,λp3 e3=> ?_⟩
  ·simp only [G6,D8,C0];exact T4 (jz (by omega))
  refine⟨0::S.map (λi=>ent T i j),h,by simp,Sub.newAt (Sub.newAt (Sub.newAt (Sub.refl h) e1) e2) e3,.inr ⟨p3,rfl,?_⟩,λm m1 m2=>⟨_,rfl,?_⟩⟩
  ·rw [jc,C6,O0];rfl
  ·show Q' (decide (m>0)) h;rw [XO hT hS (S8.mp hj) m1 m2];exact q'
def wX:RDn:=λds h Q=> ∃p l fl,ds= [.lst p]/\h p=some [.int l,.int fl]/\0<=l/\ ∀d l' h',okD d=true->Rc d=false->But p h h'->h' p=some [.int l',.int fl]->0<=l'->Q d h'
theorem Jt (Z:Zs mg)(F:Fun K "_law_no_table" "_law_no_table" wg f fd)(jy:jw P w K mg base n "_law_draw" ["_law_pen_here","_law_many"] zM):FnOk P w K mg base CX0 (n+1) f fd ["_law_pen_here"] (LSp K wX):=by
 refine F.okM wW (λhr=>(js2 (jse 1 wW (yC (jac Ts (by exact(jac jC (by exact(jac (ya zk) (by exact(jac (yC zk) (by exact(jac (ya (j1 jC)) (by exact(jac (ya (j1 (ya zk))) (by exact(jac (ya (j2 (ya (j1 jC)) (ya (j1 jC)))) (by exact(jac (ya (j1 (ya (j2 jC jC)))) (by exact(jac (ya (j1 (ya (j1 (HE jC))))) (by exact(j4 (ya (j1 (ya (j1 jbl)))) (yC (j1 (yC (j1 jC)))) (ya (j1 (ya (j1 Ts)))) Wf))))))))))))))))))))) (yA (ji1 (jop zS (jv 1) (yC (jac (ya (j1 (ya (j1 jbl)))) (by exact(j4 (jop yM (ya (j1 (jop yM (ya (j1 jC)) jC))) jC) (ya (j1 (yC (j1 jC)))) (ya (j1 (ya (j1 (ya (j1 jC)))))) OS))))) (jk jy hr (j2 (jv 0) jC)))))) ?_;rintro ds h Q ⟨p,l,fl,rfl,hp,h0,q⟩;refine⟨rfl,?_⟩;simp only [wO,RA,FJ,zw,dC,LK,We,C0,D8,dUn,Sl,Qy,dOp,Gi,jU,C6,cA,N9,Q5,L6,qC,qD,aL,U3,aM,Sk,UE,Tn,dCB,ixD,bU,VA]
 repeat (first|intro _|refine⟨by decide,?_⟩|refine⟨⟨by decide,by decide,by decide⟩,?_⟩)
 rename_i p1 e1 p2 e2 p3 e3 p4 e4 p5 e5 p6 e6;have k1:=je (M:= []) hp e1;have k2:=je (M:= [.int 1]) k1 e2;have k3:=je (M:= [.lst p2]) k2 e3;refine⟨_,_,je (je jc e5) e6,jc,by simp only [D8,C0];decide,λp7 e7=> ?_⟩;refine⟨p,l,fl,18,rfl,je (je (je (je k3 e4) e5) e6) e7,h0,by decide,by decide,λr l' r0 r1 l0=> ?_⟩;obtain⟨d,hd,ed⟩:=WM (xs:= [D.non,D.int 0,D.tup [],D.lst p1,D.tup [D.int 0],D.tup [D.tup []],D.tup [D.tup [D.int 1],D.tup [D.int 1]],D.tup [D.tup [D.int 0,D.int 1]],D.tup [D.tup [D.int (-1)]],D.tup [D.tup [D.bl true]],D.lst p3,D.tup [D.tup [D.non]],D.str (eQ "1")]++ [D.tup [D.tup [D.bl false]],D.tup (N9 (kI 7) [D.tup (N9 (kI 7) [D.int 0]).flatten]).flatten,D.tup [D.lst p5],D.tup [D.tup [D.tup [D.int 0]]],D.dic (eQ "a") 1]) r0 r1;refine⟨_,d,jj (jF (je (je (je k3 e4) e5) e6) e7) jc,ed,_,Sub.refl _,q d l' _ (Yd ?_ d hd) ?_ (((((((But.refl p h).new e1).new e2).new e3).new e4).new e5).new e6 |>.new e7).put jc l0⟩
 ·rfl
 ·simp only [T8,D2,F4,or_false] at hd;rcases hd with (e|e|e|e|e|e|e|e|e|e|e|e|e)|e|e|e|e|e<;>subst e<;>rfl
theorem SR {i:G7}(hi:i<n):IsS n [i]:=by
 refine⟨λj=>decide (j=i),?_⟩;have e:(R4 n).filter (λj=>decide (j=i))= [i]:=by
  induction n with
  |zero=>omega
  |succ n ih=>
   rw [U7,bK]
   by_cases z:i<n
   ·rw [ih z,cV (by rw [W6];omega)];rfl
   ·have e:i=n:=by omega
    subst e;rw [iD.mpr λj hj=>by have:=S8.mp hj;rw [W6];omega,gP (by rw [W6])];rfl
 exact e.symm
def ZK:RDn:=λds h Q=> ∃T,∃n e:G7,ds= [zC T]/\Sq n e T/\n<=6/\ ∀A h',h A=none->h' A=some ((R4 n).map λp=>jR (clS n T [p]))->Sub h h'->Q (.lst A) h'
theorem Uo (Z:Zs mg)(F:Fun K "_law_far" "_law_far" Je f fd)(yp:jw P w K mg base n "_law_after" ["_law_table_here","_law_some"] wS):FnOk P w K mg base CX0 (n+1) f fd ["_law_table_here"] (LSp K ZK):=by
 refine F.okM zF (λhr=>(js3 (jse 1 zF (yC zk)) (XI I0 rfl (jrg Z (Ra Z (jv 0))) (jgn 2 zF) (js3 (jse 3 zF (ya (j1 (jv 2)))) (XI I0 rfl (jrg Z (Ra Z (jv 0))) (jgn 4 zF) (jV (jse 3 zF (wc cq_tuple rfl Z.tuple (by decide +kernel) (j1 (jss rfl rfl Z.sorted rfl Z.set (j1 (jop zS (jv 3) (jk yp hr (j2 (jv 0) (jv 3))))))))))) (ZQ (Cf (jv 1) (jv 3))))) (yA (jv 1)))) ?_;rintro ds h Q ⟨T,n,b,rfl,hT,h6,q⟩;refine⟨rfl,?_⟩;have two: ∀X Y:G0 G7,(X.map λ(k:G7)=>D.int (k:D3))++(Y.map λ(k:G7)=>D.int (k:D3))=((X++Y).map λ(j:G7)=>(j:D3)).map D.int:=λX Y=>by rw [O0,B3];rfl
 refine ji (λσ' h'=> ∃A,σ'= [some (zC T),some (.lst A),none,none,none]/\h A=none/\Sub h h'/\h' A=some []) (λC hC=>⟨sz0,λA eA=>hC _ _ ⟨A,rfl,eA,Sub.newAt (Sub.refl h) eA,jc⟩⟩) ?_;rintro _ h1 ⟨A,rfl,nA,sb,kA⟩;refine ji (λσ' h'=> ∃u v w,σ'= [some (zC T),some (.lst A),u,v,w]/\Sub h h'/\h' A=some ((R4 n).map λp=>jR (clS n T [p]))) (λC hC=> ?_) ?_
 ·refine ww n (λk σ' h'=> ∃u v w,σ'= [some (zC T),some (.lst A),u,v,w]/\Sub h h'/\h' A=some ((R4 k).map λp=>jR (clS n T [p]))) (by omega) (λR r=>⟨_,rfl,by show R [.int (((T.map Jr).length:G7):D3)] _;rw [G6,hT.len];exact r⟩) ⟨_,_,_,rfl,sb,kA⟩ (λσ' h' z=>hC _ _ z) ?_;clear sb kA;rintro k _ h2 hk ⟨u,v,w,rfl,sb,kA⟩;refine Vg [some (zC T),some (.lst A),some (.int (k:D3)),some (jR [k]),w] (λC hC=>⟨_,rfl,sz1,hC⟩) ?_;have iS:=SR hk;refine ji (λσ' h'=> ∃w,σ'= [some (zC T),some (.lst A),some (.int (k:D3)),some (jR (clS n T [k])),w]/\Sub h h'/\h' A=some ((R4 k).map λp=>jR (clS n T [p]))) (λC hC=> ?_) ?_
  ·refine ww n (λi σ' h'=> ∃w,σ'= [some (zC T),some (.lst A),some (.int (k:D3)),some (jR (itF (upS n T) [k] i)),w]/\Sub h h'/\h' A=some ((R4 k).map λp=>jR (clS n T [p]))) (by omega) (λR r=>⟨_,rfl,by show R [.int (((T.map Jr).length:G7):D3)] _;rw [G6,hT.len];exact r⟩) ⟨_,rfl,sb,kA⟩ (λσ' h' ⟨w,e,s,z⟩=>hC _ _ ⟨w,by rw [e,Fq hT iS],s,z⟩) ?_;clear sb kA;rintro i _ h3 hi ⟨w,rfl,sb,kA⟩;have hS:=wQ (T:=T) iS i;have hS':=IsS.step (n:=n) T (itF (upS n T) [k] i);have l1:=hS.len;have l2:=hS'.len;refine⟨_,rfl,_,rfl,_,rfl,T,itF (upS n T) [k] i,n,b,rfl,hT,hS,h6,?_,_,.inl (congrArg (λx=> [D.tup x]) (two _ _)),?_,λp ks hp r m=>⟨_,jc,?_⟩⟩
   ·rw [G6,G6];exact T4 (jz (by omega))
   ·rw [G6,P8];omega
   ·rw [CK hS hS' r m];exact⟨_,Sub.refl _,by omega,_,by rw [O0];rfl,sb.newAt hp,je kA hp⟩
  clear sb kA;rintro _ h4 ⟨w,rfl,sb,kA⟩;refine⟨_,rfl,A,rfl,_,rfl,_,kA,?_,_,Sub.refl _,by omega,_,_,_,rfl,sb.over nA,?_⟩
  ·rw [G6,B0];exact jz (by omega)
  ·rw [jc,U7,B3];rfl
 rintro _ h4 ⟨u,v,w,rfl,sb4,k4⟩;exact⟨_,rfl,_,Sub.refl _,q A h4 nA k4 sb4⟩
def yF:RDn:=λds h Q=> ∃T,∃n e:G7,ds= [zC T]/\Sq n e T/\n<=6/\ ∀A h',h A=none->h' A=some ((ze T n).map jR)->Sub h h'->Q (.lst A) h'
theorem ZV (Z:Zs mg)(F:Fun K "_law_pieces" "_law_pieces" wR f fd)(Qr:jw P w K mg base n "_law_far" ["_law_table_here"] ZK):FnOk P w K mg base CX0 (n+1) f fd ["_law_table_here"] (LSp K yF):=by
 refine F.okM jZ (λhr=>(js4 (jse 1 jZ (jk Qr hr (j1 (jv 0)))) (jse 2 jZ (yC zk)) (XI I0 rfl (jrg Z (Ra Z (jv 0))) (jgn 3 jZ) (jV (ZQ (Cf (jv 2) (wc vo rfl Z.tuple (by decide +kernel) (j1 (jl1 4 jZ (yg (ji1 (jv 1) (jv 3))) (λ_ _ _ _=>(Gz (Cn hr.units) (jv 3) (ji1 (jv 1) (jv 4)) (by with_unfolding_all rfl))) (λ_ _ _ _=>(jv 4))))))))) (yA (jst hr rfl rfl Z.sorted rfl Z.set (j1 (jv 2)))))) ?_;rintro ds h Q ⟨T,n,b,rfl,hT,h6,q⟩;refine⟨rfl,?_⟩;refine ji (λσ' h'=> ∃F,σ'= [some (zC T),some (.lst F),none,none,none]/\Sub h h'/\h' F=some ((R4 n).map λp=>jR (clS n T [p]))) (λC hC=>⟨_,rfl,T,n,b,rfl,hT,h6,λF h' nF kF sb=>hC _ _ ⟨F,rfl,sb,kF⟩⟩) ?_;rintro _ h1 ⟨F,rfl,sb,kF⟩;refine ji (λσ' h'=> ∃A,σ'= [some (zC T),some (.lst F),some (.lst A),none,none]/\h1 A=none/\Sub h1 h'/\h' A=some []) (λC hC=>⟨sz0,λA eA=>hC _ _ ⟨A,rfl,eA,Sub.newAt (Sub.refl h1) eA,jc⟩⟩) ?_;rintro _ h2 ⟨A,rfl,nA,sb2,kA⟩;have atF: ∀k,k<n->atI ((R4 n).map λp=>jR (clS n T [p])) (k:D3)=some (jR (clS n T [k])):=λk hk=>wu (by rw [D9,V6 hk];rfl)
 refine ji (λσ' h'=> ∃u v,σ'= [some (zC T),some (.lst F),some (.lst A),u,v]/\Sub h1 h'/\h' A=some ((R4 n).map λp=>jR (pcS T n p))) (λC hC=> ?_) ?_
 ·refine ww n (λk σ' h'=> ∃u v,σ'= [some (zC T),some (.lst F),some (.lst A),u,v]/\Sub h1 h'/\h' A=some ((R4 k).map λp=>jR (pcS T n p))) (by omega) (λR r=>⟨_,rfl,by show R [.int (((T.map Jr).length:G7):D3)] _;rw [G6,hT.len];exact r⟩) ⟨_,_,rfl,sb2,kA⟩ (λσ' h' z=>hC _ _ z) ?_;clear sb2 kA;rintro k _ h3 hk ⟨u,v,rfl,sb2,kA⟩;have kF3:=sb2 _ _ kF;refine⟨_,rfl,A,rfl,OT (j:=λ_=>some ((clS n T [k]).map λ(i:G7)=>D.int (i:D3))) (clS n T [k]) (λ(i:G7)=> .int (i:D3)) (λ(i:G7)=> .int (i:D3)) (λi=>decide (k∈clS n T [i])) (by have:=(PV n T [k]).len;omega) rfl (λR r=>⟨_,rfl,_,rfl,_,_,kF3,atF k hk,r⟩) (λi hi Q' q'=>⟨_,rfl,_,rfl,_,rfl,_,_,kF3,atF i ((PV n T [k]).lt hi),PQ ⟨_,rfl,q'⟩⟩) (λi hi z Q' q'=>⟨_,rfl,q'⟩) ?_⟩;rw [AL hk];refine⟨_,kA,?_,_,Sub.refl _,by omega,_,_,rfl,sb2.over nA,?_⟩
  ·rw [G6,B0];exact jz (by omega)
  ·rw [jc,U7,B3];rfl
 rintro _ h4 ⟨u,v,rfl,sb4,k4⟩;refine⟨_,rfl,A,(R4 n).map (λp=>toI (pcS T n p)),rfl,?_,by rw [G6,B0];omega,λp kss hp r m=>⟨_,Sub.refl _,q p _ ?_ ?_ ?_⟩⟩
 ·rw [k4,O0];exact congrArg some (A4 λS _=>(NC _).symm)
 ·exact wm sb (wm sb4 hp)
 ·rw [jc,Qk r m,O0];exact congrArg some (A4 λS _=>NC S)
 ·exact(((sb).trans sb4).newAt hp)
theorem AV {t2:TED}{Q':T5->HD->Prop}(x:yJ b js ti tt te σ h λv h1=>t2 σ h1 λw h2=>neE v w h2 λy h3=> ∃k,y= .bl k/\Q' k h3):vR (dOp neE (yJ b js ti tt te) t2) σ h Q':=x
def jA:G7->RDn
 |0=>λ_ _ _=>False
 |k+1=>λds h Q=> ∃B T,∃Ls:G0 (G0 G7),∃n e:G7,ds= [.lst B,zC T]/\h B=some (Ls.map jR)/\Ls.length<=k/\Ls.length<=5/\Sq n e T/\n<=6/\(∀P∈Ls,IsS n P)/\Ls.Nodup/\ ∀A As h',h A=none->h' A=some (As.map D.lst)->RwAt h' As (zv (λP l=>frA T P l) Ls.length Ls)->Sub h h'->Q (.lst A) h'
theorem zn {k:G7}(Z:Zs mg)(F:Fun K "_law_rows" "_law_rows" vg f fd)(yp:jw P w K mg base n "_law_after" ["_law_table_here","_law_some"] wS)(vh:jw P w K mg base n "_law_rows" ["_law_pieces_here","_law_table_here"] (jA k)):FnOk P w K mg base CX0 (n+1) f fd ["_law_pieces_here","_law_table_here"] (LSp K (jA (k+1))):=by
 refine F.okM jJ (λhr=>(js4 (VD (jt1 (Zc hr.units) (jv 0) (yC zk)) (yA (yC (j1 (yC zk))))) (jse 2 jJ (yC zk)) (XI I0 rfl (yg (jv 0)) (jgn 3 jJ) (js3 (UI (i:=6) (k:=4) (js:= [6]) rfl jJ.nd rfl (aS rfl) (zB (by rfl)) (yg (jv 0)) (by decide) rfl (by first|exact aS rfl|exact cX rfl) (λX' hX=>by obtain⟨C,s₀,H₀,ex,rfl⟩:=hX;exact VQ (jt1 (UG hr.units) (jv 6) (jv 3))) (λX' hX=>by obtain⟨C,s₀,H₀,ex,rfl⟩:=hX;exact(jv 6))) (UI (i:=6) (k:=5) (js:= [6]) rfl jJ.nd rfl (aS rfl) (zB (by rfl)) (yg (jv 4)) (by decide) rfl (by first|exact aS rfl|exact cX rfl) (λX' hX=>by obtain⟨C,s₀,H₀,ex,rfl⟩:=hX;exact VQ (jt1 (UG hr.units) (jl1 7 jJ (yg (jk yp hr (j2 (jv 1) (jv 6)))) (λ_ _ _ _=>(Gz (Cn hr.units) (jv 7) (jv 3) (by with_unfolding_all rfl))) (λ_ _ _ _=>(jv 7))) (yC zk))) (λX' hX=>by obtain⟨C,s₀,H₀,ex,rfl⟩:=hX;exact(jv 6))) (VD (jt1 (Zc hr.units) (jv 5) (yC zk)) (jse 2 jJ (jop zS (jv 2) (jl0 8 jJ (yg (jk vh hr (j2 (jv 4) (jv 1)))) (λ_ _ _ _=>(jop zS (yC (j1 (jv 3))) (jv 8))))))))) (yA (jv 2)))) ?_;rintro ds h Q ⟨B,T,Ls,n,b,rfl,kB,hk,h5,hT,h6,hS,nd,q⟩;refine⟨rfl,?_⟩
 by_cases z:Ls= []
 ·subst z;refine ji (λ_ _=>False) (λC hC=>⟨_,rfl,sz0,λE eE=>VY (P:= []) (je kB eE) jc ⟨_,rfl,FI ⟨sz0,λa ea=>⟨sz1,λA eA=>⟨_,Sub.refl _,q A [a] _ (wm (Sub.newAt (Sub.new eE) ea) eA) jc ⟨je jc eA,trivial⟩ (Sub.newAt (Sub.newAt (Sub.new eE) ea) eA)⟩⟩⟩⟩⟩) (λ_ _ z=>z.elim)
 obtain⟨m,hm⟩: ∃m,Ls.length=m+1:=⟨Ls.length-1,by cases Ls with|nil=>exact absurd rfl z|cons=>simp⟩;obtain⟨k,rfl⟩: ∃k',k=k'+1:=⟨k-1,by omega⟩;have rw_:zv (λP l=>frA T P l) Ls.length Ls=Ls.flatMap (λp=>if frA T p Ls then (zv (λP l=>frA T P l) m (but p Ls)).map (p:: ·) else []):=by rw [hm];rfl
 refine ji (λσ' h'=>σ'= [some (.lst B),some (zC T),none,none,none,none,none,none,none]/\Sub h h') (λC hC=>⟨_,rfl,sz0,λE eE=>VY (je kB eE) jc ⟨_,rfl,?_⟩⟩) ?_
 ·rw [show Ls.isEmpty=false from by cases Ls with|nil=>exact absurd rfl z|cons=>rfl];exact Ym (hC _ _ ⟨rfl,Sub.new eE⟩)
 rintro _ h1 ⟨rfl,sb1⟩;refine ji (λσ' h'=> ∃A,σ'= [some (.lst B),some (zC T),some (.lst A),none,none,none,none,none,none]/\h A=none/\h' A=some []/\Sub h h') (λC hC=>⟨sz0,λA eA=>hC _ _ ⟨A,rfl,wm sb1 eA,jc,sb1.newAt eA⟩⟩) ?_;rintro _ h2 ⟨A,rfl,fA,kA,sb⟩;refine ji (λσ' h'=> ∃A As x3 x4 x5 x6 x7 x8,σ'= [some (.lst B),some (zC T),some (.lst A),x3,x4,x5,x6,x7,x8]/\h A=none/\h' A=some (As.map D.lst)/\RwAt h' As (Ls.flatMap (λp=>if frA T p Ls then (zv (λP l=>frA T P l) m (but p Ls)).map (p:: ·) else []))/\Sub h h') (λC hC=> ?_) ?_
 ·refine UF (h1:=h2) (j:=λh=>h B) (Ls.map jR) (λi σ' h'=> ∃A As x3 x4 x5 x6 x7 x8,σ'= [some (.lst B),some (zC T),some (.lst A),x3,x4,x5,x6,x7,x8]/\h A=none/\h' A=some (As.map D.lst)/\RwAt h' As ((Ls.take i).flatMap (λp=>if frA T p Ls then (zv (λP l=>frA T P l) m (but p Ls)).map (p:: ·) else []))/\Sub h h') (λR r=>⟨_,rfl,r⟩) (λi σ' h' ⟨_,_,_,_,_,_,_,_,_,_,_,_,s⟩=>s _ _ kB) ⟨A,[],none,none,none,none,none,none,rfl,fA,kA,trivial,sb⟩ (λσ' h' w=>hC _ _ (by rw [G6,iQ] at w;exact w)) ?_;clear kA sb fA;rintro i d _ h3 hd ⟨A,As,x3,x4,x5,x6,x7,x8,rfl,fA,kA,rA,sb⟩;rw [D9] at hd;cases hx:Ls[i]? with
  |none=>rw [hx] at hd;cases hd
  |some P=>
  rw [hx] at hd;cases hd;have hP:=P6 hx;have hi:i<Ls.length:=(P5.mp hx).1;have tk:(Ls.take (i+1)).flatMap (λp=>if frA T p Ls then (zv (λP l=>frA T P l) m (but p Ls)).map (p:: ·) else [])=(Ls.take i).flatMap (λp=>if frA T p Ls then (zv (λP l=>frA T P l) m (but p Ls)).map (p:: ·) else [])++(if frA T P Ls then (zv (λP l=>frA T P l) m (but P Ls)).map (P:: ·) else []):=by
   rw [K5,hx,List.flatMap_append];simp
  have bl:=ZB hP nd;refine ji (λσ' h'=> ∃D4,σ'= [some (.lst B),some (zC T),some (.lst A),some (jR P),some (.lst D4),x5,x6,x7,x8]/\h' D4=some ((but P Ls).map jR)/\h' A=some (As.map D.lst)/\RwAt h' As ((Ls.take i).flatMap (λp=>if frA T p Ls then (zv (λP l=>frA T P l) m (but p Ls)).map (p:: ·) else []))/\Sub h h') (λC hC=> ?_) ?_
  ·exact lcF (j:=λh=>h B) Ls jR jR (λo=> !decide (o=P)) (by omega) (sb _ _ kB) (λR r=>⟨_,rfl,r⟩) (λo ho Q' q'=>⟨_,rfl,_,rfl,DQ ⟨_,rfl,q'⟩⟩) (λo ho _ Q' q'=>⟨_,rfl,q'⟩) (λD4 e4=>hC _ _ ⟨D4,rfl,jc,je kA e4,rA.sub (Sub.new e4),sb.newAt e4⟩)
  clear kA rA sb;rintro _ h4 ⟨D4,rfl,k4,kA,rA,sb⟩;refine ji (λσ' h'=> ∃D5,σ'= [some (.lst B),some (zC T),some (.lst A),some (jR P),some (.lst D4),some (.lst D5),x6,x7,x8]/\h' D5=some (((but P Ls).filter λo=>arB T o P).map jR)/\h' D4=some ((but P Ls).map jR)/\h' A=some (As.map D.lst)/\RwAt h' As ((Ls.take i).flatMap (λp=>if frA T p Ls then (zv (λP l=>frA T P l) m (but p Ls)).map (p:: ·) else []))/\Sub h h') (λC hC=> ?_) ?_
  ·refine HV (j:=λh=>h D4) (but P Ls) jR jR (λo=>arB T o P) (by omega) k4 (λR r=>⟨_,rfl,r⟩) (λo ho Q' q'=> ?_) (λo ho _ h5 s5 Q' q'=>⟨_,rfl,q'⟩) (λD5 e5=>hC _ _ ⟨D5,rfl,jc,je k4 e5,je kA e5,rA.sub (Sub.new e5),sb.newAt e5⟩);have oS:=hS o (mem_but.mp ho).1;refine AV (lcF (j:=λ_=>some ((Zi n T o).map λ(j:G7)=>D.int (j:D3))) (Zi n T o) (λ(j:G7)=>D.int (j:D3)) (λ(j:G7)=>D.int (j:D3)) (λj=>decide (j∈P)) (S0 PR (by omega)) rfl (λR r=>⟨_,rfl,_,rfl,T,o,n,b,rfl,hT,oS,h6,r⟩) (λj hj Q'' q''=>⟨_,rfl,_,rfl,PQ ⟨_,rfl,q''⟩⟩) (λj hj _ Q'' q''=>⟨_,rfl,q''⟩) (λF eF=>⟨sz0,λG eG=>Fv (je jc eG) jc ⟨_,rfl,?_⟩⟩));rw [MT λj hj=>(hS P hP).lt hj];exact q' _ (Sub.newAt (Sub.new eF) eG)
  clear kA rA sb k4;rintro _ h5' ⟨D5,rfl,k5,k4,kA,rA,sb⟩;refine⟨_,rfl,sz0,λE eE=>VY (je k5 eE) jc ⟨_,rfl,?_⟩⟩;cases fz:frA T P Ls with
  |false=>
   rw [show ((but P Ls).filter λo=>arB T o P).isEmpty=false from fz];refine Ym ⟨_,Sub.refl _,by rw [G6];exact hi,A,As,_,_,_,_,_,_,rfl,fA,je kA eE,?_,sb.newAt eE⟩;rw [tk,fz,R8 S5,O6];exact rA.sub (Sub.new eE)
  |true=>
   rw [show ((but P Ls).filter λo=>arB T o P).isEmpty=true from fz];refine FI ⟨_,rfl,RM ⟨_,rfl,_,rfl,D4,T,but P Ls,n,b,rfl,je k4 eE,by omega,by omega,hT,h6,λP' hP'=>hS P' (mem_but.mp hP').1,nd.filter _,λA2 As2 h6' fA2 kA2 r2 s2=> ?_⟩⟩;have bm:(but P Ls).length=m:=by omega
   rw [bm] at r2;have rf:=Yb (fr:=λP l=>frA T P l) (nd.filter λo=> !decide (o=P)) (show (but P Ls).length=m from bm);have fm:=DI (m:=m) (by omega);have ml:=r2.len;have few:(zv (λP l=>frA T P l) m (but P Ls)).length<=24:=S0 rf fm;refine Fd (h1:=h6') (j:=λh=>h A2) (As2.map D.lst) (λkk ys h'=> ∃Bs:G0 G9,ys=Bs.map D.lst/\RwAt h' Bs (((zv (λP l=>frA T P l) m (but P Ls)).take kk).map (P:: ·))/\Sub h6' h') (by rw [G6];omega) (λR r=>r) (λkk ys h' ⟨_,_,_,s⟩=>s _ _ kA2) ⟨[],rfl,trivial,Sub.refl _⟩ ?_ ?_ ?_
   ·rintro kk _ h' ⟨Bs,rfl,rB,s'⟩;have:=rB.len;rw [G6,M5] at this;rw [G6];omega
   ·rintro kk d _ h' hd ⟨Bs,rfl,rB,s'⟩;rw [D9] at hd;cases ea:As2[kk]? with
    |none=>rw [ea] at hd;cases hd
    |some a=>
    rw [ea] at hd;cases hd;obtain⟨r,er,ka⟩:=(r2.sub s').at_ ea;have rl:=ZD (P6 er);have kl:kk<As2.length:=(P5.mp ea).1;refine⟨_,rfl,sz1,λp1 e1=>⟨_,rfl,_,_,jc,je ka e1,?_,λp2 e2=>⟨_,Sub.refl _,by rw [G6];exact kl,Bs++ [p2],by rw [B3];rfl,?_,s'.trans (Sub.newAt (Sub.new e1) e2)⟩⟩⟩
    ·rw [G6];exact S0 (show 1+r.length<=5 by omega) (by decide)
    ·rw [K5,er,B3];exact(rB.sub (Sub.newAt (Sub.new e1) e2)).app ⟨jc,trivial⟩
   ·rintro _ h' ⟨Bs,rfl,rB,s'⟩ p hp;have sE:Sub h6' (zR h' p (Bs.map D.lst)):=s'.newAt hp;have kA':(zR h' p (Bs.map D.lst)) A=some (As.map D.lst):=sE _ _ (s2 _ _ (je kA eE));rw [G6,ml,iQ] at rB;have bl2:=rB.len;have al:=rA.len;refine⟨_,_,kA',jc,?_,λp3 e3=>⟨_,Sub.refl _,by rw [G6];exact hi,p3,As++Bs,_,_,_,_,_,_,rfl,wm (((sb.newAt eE).trans s2).trans sE) e3,by rw [jc,B3],?_,(((sb.newAt eE).trans s2).trans sE).newAt e3⟩⟩
    ·have ff:=Xv (l:=Ls.take i) (f:=(λp=>if frA T p Ls then (zv (λP l=>frA T P l) m (but p Ls)).map (p:: ·) else [])) (c:=24) λp hp=>Fw (fr:=λP l=>frA T P l) nd hm (by omega) (E1 hp)
     rw [M5] at ff;rw [G6] at bl2;rw [G6,G6];exact S0 (show As.length+Bs.length<=144 by omega) (by decide)
    ·rw [tk,fz,R6 rfl];exact(rA.sub ((((Sub.new eE).trans s2).trans sE).newAt e3)).app (rB.sub ((Sub.new hp).newAt e3))
 rintro _ h3 ⟨A,As,x3,x4,x5,x6,x7,x8,rfl,fA,kA,rA,sb⟩;exact⟨_,rfl,_,Sub.refl _,q A As _ fA kA (by rw [rw_];exact rA) sb⟩
def vL:RDn:=λds h Q=> ∃T,∃n e:G7,ds= [zC T]/\Sq n e T/\1<=n/\n<=5/\ ∀h',Sub h h'->Q (.bl true) h'
theorem Yj (Z:Zs mg)(F:Fun K "_law_right" "_law_right" yn f fd)(vh:jw P w K mg base n "_law_rows" ["_law_pieces_here","_law_table_here"] (jA 6))(Yk:jw P w K mg base n "_law_pieces" ["_law_table_here"] yF)(MY:jw P w K mg base n "ladder" ["table"] Vo)(Uq:jw P w K mg base n "_law_same" ["_law_found","_law_due"] Nw):FnOk P w K mg base CX0 (n+1) f fd ["_law_table_here"] (LSp K vL):=by
 refine F.okM zX (λhr=>(js3 (jse 1 zX (yf (Da rfl hr) rfl Z.min (by decide +kernel) (j1 (jk vh hr (j2 (jk Yk hr (j1 (jv 0))) (jv 0)))))) (XI I0 rfl (jrg Z jC) (jgn 2 zX) (js3 (jse 3 zX (jk MY hr (j1 (jv 0)))) (VD (Jq (yy (jk Uq hr (j2 (jv 3) (jv 1))))) (yA jbl)) (ZQ (HP (jv 3))))) (yA jbl))) ?_;rintro ds h Q ⟨T,n,b,rfl,hT,h1,h5,q⟩;refine⟨rfl,?_⟩;have h6:n<=6:=by omega
 have pl:=Ds (T:=T) (n:=n);obtain⟨lm,low⟩:=FA hT (show n<=8 by omega);have ll:=ZD lm;have so:ShowOk (.list ((Vi T n (ze T n).length (ze T n)).map wC)):=CY h6 (λS hS=>Xp S (Xs lm S hS)) (by omega);refine ji (λσ' h'=> ∃a,σ'= [some (zC T),some (.lst a),none,none]/\h' a=some ((Vi T n (ze T n).length (ze T n)).map jR)/\Sub h h') (λC hC=>⟨_,rfl,T,n,b,rfl,hT,h6,λB h1 fB kB sB=>⟨_,rfl,B,T,ze T n,n,b,rfl,kB,(show (ze T n).length<=5 by omega),(show (ze T n).length<=5 by omega),hT,h6,Xp,vG,λA As h2 fA kA ra sA=> ?_⟩⟩) ?_
 ·obtain⟨a,ys,ka,kA2,w1,w2,w3,w4⟩:=DM kA ra (Wv vG) lm low;exact .inr ⟨A,ys,_,rfl,kA2,w1,w2,w3,w4,hC _ _ ⟨a,rfl,ka,sB.trans sA⟩⟩
 rintro _ h2 ⟨a,rfl,ka,sb⟩;refine ji (λσ' h'=>Sub h h') (λC hC=> ?_) (λ_ h' sb=>⟨_,Sub.refl _,q _ sb⟩);refine ww 2 (λi σ' h'=> ∃x y,σ'= [some (zC T),some (.lst a),x,y]/\h' a=some ((Vi T n (ze T n).length (ze T n)).map jR)/\Sub h h') (by decide) (λR r=>r) ⟨_,_,rfl,ka,sb⟩ (λσ' h' ⟨_,_,_,_,s⟩=>hC _ _ s) ?_;clear ka sb;rintro i _ h3 hi ⟨x,y,rfl,ka,sb⟩;refine ji (λσ' h'=> ∃F,σ'= [some (zC T),some (.lst a),some (.int (i:D3)),some (.lst F)]/\h3 F=none/\h' F=some ((Vi T n (ze T n).length (ze T n)).map jR)/\Sub h3 h') (λC hC=>⟨_,rfl,T,n,b,rfl,hT,h1,h6,λF R h' fF eR kF sF=>hC _ _ ⟨F,rfl,fF,by rw [kF,eR],sF⟩⟩) ?_;rintro _ h4 ⟨F,rfl,fF,kF,sF⟩;refine Vg [some (zC T),some (.lst a),some (.int (i:D3)),some (.lst F)] (λC hC=>⟨_,rfl,_,rfl,_,_,_,rfl,JC kF,JC (sF _ _ ka),so,_,rfl,Ym (hC)⟩) ?_;exact⟨_,rfl,F,_,rfl,kF,_,Sub.refl _,by omega,_,_,rfl,sF.over fF _ _ ka,sb.trans (sF.over fF)⟩
theorem HW {w:Str}{Q:KD}(q:Q (.bl false) h)(hs:SeqAt.shaped (.tuple [.str w])=true:=by decide +kernel):neE (.tup [.str w]) (.tup [.str w]) h Q:=by
 refine⟨.tuple [.str w],.tuple [.str w],⟨_,rfl,_,_,rfl,rfl,rfl⟩,⟨_,rfl,_,_,rfl,rfl,rfl⟩,hs,hs,?_⟩;have e:C3 (.tuple [.str w]) (.tuple [.str w])=true:=by simp [C3,fQ]
 rw [e];exact q
theorem FH {Q:KD}(x:yJ b js ti tt te σ h λv h1=>Jh [v] h1 Q):dCB Jh (zw (yJ b js ti tt te) We) σ h Q:=x
theorem AW (Z:Zs mg)(B:Bm mg base)(a:IG K mainGlobals "law" =some (some (.ref f)))(TX: ∃c P,mI K "law" =some (c,P)/\G0D K c P=true)(F:Fun K "law" "law" Uk f fd)(zN:jw P w K mg base (n+2) "_law_right" ["_law_table_here"] vL)(Up:jw P w K mg base (n+2) "_law_cell" ["_law_script","_law_k"] Jl)(Qs:jw P w K mg base (n+2) "_law_pen" ["_law_cell_here"] ZJ)(Ur:jw P w K mg base (n+2) "_law_size" ["_law_pen_here"] Jm)(Vt:jw P w K mg base (n+2) "_law_table" ["_law_pen_here","_law_size_here"] vK)(jy:jw P w K mg base (n+2) "_law_draw" ["_law_pen_here","_law_many"] zM)(ZL:jw P w K mg base (n+2) "_law_no_table" ["_law_pen_here"] wX)(CR_ladder:WR P w K mg base n "ladder" ["table"] WA)(CS:Ai P w K mg base n):FnOk P w K mg base CX0 ((n+2)+1) f fd ["_law_script"] (LSp K Gv):=by
 obtain⟨gS,gdS,GS,bGS,kGS,mGS⟩:=CS;obtain⟨tc,tP,T,tH⟩:=TX;have hTK:TabK K tP:=⟨"law",by decide,tc,T⟩;refine F.okJL a T yG (λds h Q q=>by obtain⟨ns,e,hh,hns,q⟩:=q;subst e;rfl) _ (λA outer s H E hr=>(js3 (VD (jpt (FM (Jq (yy (jk zN hr (j1 (ya (j1 (ya (j1 jC)))))))) (FM (Jq (yy (jk zN hr (j1 (ya (j2 (ya (j2 jC jC)) (ya (j2 jC jC)))))))) (OO (Jq (yy (jk zN hr (j1 (ya (j2 (ya (j2 jC jC)) (ya (j2 jC jC)))))))))))) (yA jbl)) (XI I0 rfl (Ce (jop zS (yC (j1 (jk Up hr (j2 (jv 0) jC)))) (OR (jv 0) (GC jC) (GC jC)))) (jgn 1 yG) (js8 (jse 2 yG (jk Qs hr (j1 (jv 1)))) (jse 3 yG (yf (Da rfl hr) rfl Z.min (by decide +kernel) (j2 jC (jk Ur hr (j1 (jv 2)))))) (jse 4 yG (jk Vt hr (j2 (jv 2) (jv 3)))) (jse 5 yG (yC zk)) (XI I0 rfl (Ck rfl Z.enumerate (j1 (jv 4))) (Nu (i:=6) (j:=7) rfl yG.nd rfl rfl (by first|exact cX rfl|exact aS rfl) (aS rfl)) (js2 (UI (i:=10) (k:=8) (js:= [10]) rfl yG.nd rfl (aS rfl) (zB (by rfl)) (jrg Z (jv 3)) (by decide) rfl (by first|exact aS rfl|exact cX rfl) (λX' hX=>WN) (λX' hX=>by obtain⟨C,s₀,H₀,ex,rfl⟩:=hX;exact(jor (jc1 (Zc hr.units) (jv 10) (jv 6)) (RG (jc1 oq_eq (jk jy hr (j2 (jv 2) jC)) jC))))) (ZQ (Cf (jv 5) (wc vo rfl Z.tuple (by decide +kernel) (j1 (HB (i:=11) (j:=12) (js:= [11,12]) rfl (zB (by rfl)) (Fz rfl Z.zip (j2 (jv 8) (jv 7))) (by decide) (by decide) (by decide) yG.nd rfl rfl (by first|exact aS rfl|exact cX rfl) (by first|exact aS rfl|exact cX rfl) (λX' hX=>WN) (λX' hX=>by obtain⟨C,s₀,H₀,ex,rfl⟩:=hX;exact(jop yM (jv 12) (wc Gq rfl Z.int (by decide +kernel) (j1 (jv 11)))))))))))) (VD (jpt (FM (Jq (yy (jk zN hr (j1 (jv 4))))) (OO (Jq (yy (jk zN hr (j1 (wc cq_tuple rfl Z.tuple (by decide +kernel) (j1 (jv 5)))))))))) (yA jbl)) (jse 9 yG (jk ZL hr (j1 (jv 2)))) (VD (jt1 (UG hr.units) (SC GS hr rfl mGS kGS bGS B rfl tH hTK (Ae rfl (by decide +kernel)) (CG (by show Af _ (jd Uk)=true;decide +kernel)) (λ_ _ _ _ _ _ _ _ _ hr=>jno) (λ_ _ _ _ _ _ _ _ _ hr=>(jxk CR_ladder hr (j1 (jv 9))))) (ya (j1 Wf))) (yA jbl)))) (yA jbl))) ?_;intro ds h Q q;obtain⟨ns,e,hh,hns,q⟩:=q;subst e;have hA:Sq 1 3 [[(0:D3)]]:=⟨by decide,by decide,by decide,by decide⟩;have hB:Sq 2 3 [[(0:D3),0],[1,0]]:=⟨by decide,by decide,by decide,by decide⟩;have hD:Sq 2 3 [[(1:D3),1],[1,1]]:=⟨by decide,by decide,by decide,by decide⟩;have mn5: ∀n:G7,(if (n:D3)<5 then (n:D3) else 5)=((min n 5:G7):D3):=λn=>by split<;>omega
 refine ji (λσ' h'=>σ'= [some (.scr ns),none,none,none,none,none,none,none,none,none,none,none,none]/\True) (λC hC=>⟨sz1,sz1,[[0]],1,3,rfl,hA,by decide,by decide,λh' sb=>⟨_,rfl,Ym ⟨sz2,sz2,sz2,[[0,0],[1,0]],2,3,rfl,hB,by decide,by decide,λh' sb=>⟨_,rfl,Ym ⟨sz2,sz2,sz2,[[1,1],[1,1]],2,3,rfl,hD,by decide,by decide,λh' sb=>⟨_,rfl,Ym (hC _ _ ⟨rfl,eI⟩)⟩⟩⟩⟩⟩⟩) ?_;rintro _ h ⟨rfl,_⟩;refine ji (λσ' h'=>True) (λC hC=> ?_) (λσ' h3 hV=>⟨h3,Sub.refl _,q h3⟩);refine⟨_,rfl,ns,0,rfl,(by decide),λn0=>⟨sz1,λp1 e1=>⟨_,rfl,_,rfl,_,rfl,λp2 e2=>⟨_,_,je jc e2,jc,?_,λp3 e3=>⟨p3,rfl,?_⟩⟩⟩⟩⟩
 ·have:(XH ns (some 1) (some 6)).length<=ns.length:=by unfold XH;rw [M5,F9];omega
  rw [G6];exact T4 (jz (by simp only [D8,C0];omega))
 generalize hcs:([D.int n0]++(XH ns (some 1) (some 6)).map D.int)=cs;have hint: ∀d∈cs,∃c,d= .int c:=λd hd=>by
  rw [<-hcs] at hd;rcases T8.mp hd with z|z
  ·exact⟨n0,P1.mp z⟩
  ·obtain⟨x,_,e⟩:=S4.mp z;exact⟨x,e.symm⟩
 refine Gy cs (λi σ' h'=> ∃a1 a2 a3 a4 a5 a6 a7 a8 a9 a10 a11 a12,σ'= [some (.scr ns),a1,a2,a3,a4,a5,a6,a7,a8,a9,a10,a11,a12]/\h' p3=some cs) (λi σ' h' ⟨_,_,_,_,_,_,_,_,_,_,_,_,_,k⟩=>k) ⟨_,_,_,_,_,_,_,_,_,_,_,_,rfl,jc⟩ (λσ' h' _=>hC _ _ eI) ?_;rintro i d _ h4 hi ⟨b1,b2,b3,b4,b5,b6,b7,b8,b9,b10,b11,b12,rfl,k3⟩;obtain⟨c,rfl⟩:=hint d (P6 hi);have hil:i<cs.length:=(P5.mp hi).1;show wO _ _ _ [some (.scr ns),some (.int c),b2,b3,b4,b5,b6,b7,b8,b9,b10,b11,b12] h4;refine ji (λσ' h'=> ∃p l fl,σ'= [some (.scr ns),some (.int c),some (.lst p),b3,b4,b5,b6,b7,b8,b9,b10,b11,b12]/\h' p=some [.int l,.int fl]/\0<=l/\h' p3=some cs/\p3≠p) (λC hC=> ?_) ?_
 ·refine⟨_,rfl,c,rfl,λp l fl ep l0 _=>hC _ _ ⟨p,l,fl,rfl,jc,l0,je k3 ep,U9 (jF k3 ep)⟩⟩
 rintro _ h5 ⟨p,l,fl,rfl,kp,l0,k3,n3⟩;refine ji (λσ' h'=> ∃ (n:G7) (l2:D3),σ'= [some (.scr ns),some (.int c),some (.lst p),some (.int (n:D3)),b4,b5,b6,b7,b8,b9,b10,b11,b12]/\1<=n/\n<=5/\h' p=some [.int l2,.int fl]/\0<=l2/\h' p3=some cs) (λC hC=>⟨_,rfl,p,l,fl,rfl,kp,l0,λn l2 n1 n6 l20=> .inl ⟨5,(n:D3),rfl,hC _ _ ⟨min n 5,l2,by rw [mn5 n];rfl,by omega,by omega,jc,l20,jj n3 k3⟩⟩⟩) ?_;clear kp l0 k3 mn5;rintro _ h6 ⟨n,l2,rfl,n1,n5,kp,l20,k3⟩;refine ji (λσ' h'=> ∃ (T:G0 (G0 D3)) (l2:D3),σ'= [some (.scr ns),some (.int c),some (.lst p),some (.int (n:D3)),some (zC T),b5,b6,b7,b8,b9,b10,b11,b12]/\Sq n 20 T/\h' p=some [.int l2,.int fl]/\0<=l2/\h' p3=some cs) (λC hC=>⟨_,rfl,_,rfl,p,l2,fl,n,rfl,kp,l20,n1,by omega,λT l3 gT l30=>hC _ _ ⟨T,l3,rfl,gT.sq,jc,l30,jj n3 k3⟩⟩) ?_;clear kp l20 k3;rintro _ h7 ⟨T,l2,rfl,hT,kp,l20,k3⟩;refine ji (λσ' h'=> ∃A,σ'= [some (.scr ns),some (.int c),some (.lst p),some (.int (n:D3)),some (zC T),some (.lst A),b6,b7,b8,b9,b10,b11,b12]/\A≠p/\A≠p3/\h' A=some []/\h' p=some [.int l2,.int fl]/\0<=l2/\h' p3=some cs) (λC hC=>⟨sz0,λA eA=>hC _ _ ⟨A,rfl,jF kp eA,jF k3 eA,jc,je kp eA,l20,je k3 eA⟩⟩) ?_;clear kp l20 k3;rintro _ h8 ⟨A,rfl,nA,nA3,kA,kp,l20,k3⟩;refine ji (λσ' h'=> ∃rows:G0 (G0 D3),∃b6 b7 b8 b10 b11 b12 l2,σ'= [some (.scr ns),some (.int c),some (.lst p),some (.int (n:D3)),some (zC T),some (.lst A),b6,b7,b8,b9,b10,b11,b12]/\Sq n 20 rows/\h' A=some (rows.map Jr)/\h' p=some [.int l2,.int fl]/\0<=l2/\h' p3=some cs) (λC hC=> ?_) ?_
 ·refine UF (h1:=h8) (j:=λ_=>some (Nv (T.map Jr))) (Nv (T.map Jr)) (λi σ' h'=> ∃rows:G0 (G0 D3),∃b6 b7 b8 b10 b11 b12 l2,σ'= [some (.scr ns),some (.int c),some (.lst p),some (.int (n:D3)),some (zC T),some (.lst A),b6,b7,b8,b9,b10,b11,b12]/\rows.length=i/\(∀r∈rows,r.length=n/\ ∀x∈r,0<=x/\x<2^20)/\h' A=some (rows.map Jr)/\h' p=some [.int l2,.int fl]/\0<=l2/\h' p3=some cs) (λR r=>⟨_,rfl,_,rfl,r⟩) (λ_ _ _ _=>rfl) ⟨[],_,_,_,_,_,_,l2,rfl,rfl,(λr hr=>nomatch hr),kA,kp,l20,k3⟩ (λσ' h' ⟨rows,c6,c7,c8,c10,c11,c12,l2,e,rl,rg,kA,st⟩=>hC _ _ ⟨rows,_,_,_,_,_,_,l2,e,⟨by rw [rl,yP,G6,hT.len],λr hr=>(rg r hr).1,λr hr x hx=>((rg r hr).2 x hx).1,λr hr x hx=>((rg r hr).2 x hx).2⟩,kA,st⟩) ?_;clear kA kp l20 k3;rintro j d _ h9 hd ⟨rows,c6,c7,c8,c10,c11,c12,l2,rfl,rl,rg,kA,kp,l20,k3⟩;have hjl:=(P5.mp hd).1;obtain⟨x,hx,rfl⟩:=UJ hd;rw [D9] at hx;obtain⟨r,er,rfl⟩:=A5.mp hx;have hr:=P6 er;have jn:j<n:=by rw [yP,G6,hT.len] at hjl;exact hjl
  refine⟨_,_,rfl,?_⟩;refine ji (λσ' h'=> ∃S,∃bs:G0 T5,∃b10 b11 b12 l2,σ'= [some (.scr ns),some (.int c),some (.lst p),some (.int (n:D3)),some (zC T),some (.lst A),some (.int (j:D3)),some (Jr r),some (.lst S),b9,b10,b11,b12]/\bs.length=n/\h' S=some (bs.map D.bl)/\h' A=some (rows.map Jr)/\h' p=some [.int l2,.int fl]/\0<=l2/\h' p3=some cs) (λC hC=> ?_) ?_
  ·refine Nt n (λk ys h'=> ∃ (bs:G0 T5) (l2:D3),ys=bs.map D.bl/\bs.length=k/\h' A=some (rows.map Jr)/\h' p=some [.int l2,.int fl]/\0<=l2/\h' p3=some cs) (by omega) (λR r=>⟨_,rfl,r⟩) ⟨[],l2,rfl,rfl,kA,kp,l20,k3⟩ (λk ys h' ⟨bs,_,e,l,_⟩=>by rw [e,G6,l]) (λk ys h' hk ⟨bs,l2,e,l,kA,kp,l20,k3⟩=> ?_) (λys h' ⟨bs,l2,e,l,kA,kp,l20,k3⟩ S eS=>hC _ _ ⟨S,bs,_,_,_,l2,rfl,l,by rw [jc,e],je kA eS,je kp eS,l20,je k3 eS⟩);subst e;refine⟨_,rfl,_,rfl,_,rfl,?_⟩;cases ez:decide ((k:D3)=(j:D3)) with
   |true=>exact FI ⟨_,Sub.refl _,by omega,bs++ [true],l2,by rw [B3];rfl,by rw [P8,l];rfl,kA,kp,l20,k3⟩
   |false=>exact Ym ⟨_,rfl,p,l2,fl,3,rfl,kp,l20,by decide,by decide,λr0 l3 _ _ l30=>⟨_,Sub.refl _,by omega,bs++ [decide (r0=0)],l3,by rw [B3];rfl,by rw [P8,l];rfl,jj nA kA,jc,l30,jj n3 k3⟩⟩
  clear kA kp l20 k3;rintro _ h10 ⟨S,bs,b10,b11,b12,l2,rfl,bl,kS,kA,kp,l20,k3⟩;refine⟨_,rfl,A,rfl,FH (HI (j:=λh=>(h S).map λds=>Cm ds (r.map D.int)) (bs.zip r) (λq=> .bl q.1) (λq=> .int q.2) (λq=> .int (q.2*(if q.1 then 1 else 0))) (by rw [nY];omega) ?_ (λR rr=>⟨_,rfl,_,rfl,S,r.map D.int,rfl,rr⟩) (λq hq Q' q'=>⟨_,rfl,_,rfl,.inr ?_,q'⟩) (λF eF=>⟨_,jc,?_⟩))⟩
  ·show (h10 S).map _=_;rw [kS];refine congrArg some ?_;show ((bs.map D.bl).zip (r.map D.int)).map (λp=>D.tup [p.1,p.2])=_;rw [List.zip_map,O0];rfl
  ·cases q.1<;>decide
  rw [wG eF];refine⟨_,kA,by rw [G6];exact jz (by omega),_,Sub.refl _,hjl,rows++ [((bs.zip r).map λq=>q.2*(if q.1 then 1 else 0))],_,_,_,_,_,_,l2,rfl,by rw [P8,rl];rfl,λr' hr'=> ?_,?_,jj (U9 nA) kp,l20,jj (U9 nA3) k3⟩
  ·rcases T8.mp hr' with z|z
   ·exact rg r' z
   ·rw [P1.mp z];refine⟨by rw [G6,nY,bl,hT.row r hr,Nat.min_self],λx hx=> ?_⟩;obtain⟨⟨u,v⟩,hz,rfl⟩:=S4.mp hx;have hv:=(dD hz).2;have v0:=hT.nn r hr v hv;have v1:=hT.bit r hr v hv;cases u
    ·show 0<=v*0/\v*0<_;omega
    ·show 0<=v*1/\v*1<_;omega
  ·rw [jc,B3];refine congrArg (λz=>some (rows.map Jr++ [z])) ?_;show D.tup _=D.tup _;rw [O0];rfl
 clear kA kp l20 k3;rintro _ h9 ⟨rows,b6,b7,b8,b10,b11,b12,l2,rfl,hR,kA,kp,l20,k3⟩;refine ji (λσ' h'=>σ'= [some (.scr ns),some (.int c),some (.lst p),some (.int (n:D3)),some (zC T),some (.lst A),b6,b7,b8,b9,b10,b11,b12]/\h' p=some [.int l2,.int fl]/\0<=l2/\h' p3=some cs) (λC hC=>⟨_,rfl,T,n,20,rfl,hT,n1,n5,λh' sb=>⟨_,rfl,Ym ⟨_,rfl,_,sb _ _ kA,rows,n,20,rfl,hR,n1,n5,λh'' sb2=>⟨_,rfl,Ym (hC _ _ ⟨rfl,sb2 _ _ (sb _ _ kp),l20,sb2 _ _ (sb _ _ k3)⟩)⟩⟩⟩⟩) ?_;clear kA kp k3;rintro _ h10 ⟨rfl,kp,l20,k3⟩;refine ji (λσ' h'=> ∃dd,σ'= [some (.scr ns),some (.int c),some (.lst p),some (.int (n:D3)),some (zC T),some (.lst A),b6,b7,b8,some dd,b10,b11,b12]/\okD dd=true/\Rc dd=false/\h' p3=some cs) (λC hC=>⟨_,rfl,p,l2,fl,rfl,kp,l20,λd l3 h' ok bad bt kp2 l30=>hC _ _ ⟨d,rfl,ok,bad,bt p3 cs n3 k3⟩⟩) ?_;clear kp l20 k3;rintro _ h11 ⟨dd,rfl,okd,badd,k3⟩;exact .inr ⟨_,rfl,dd,rfl,okd,badd,by decide,sz1,HW ⟨_,rfl,Ym ⟨_,Sub.refl _,hil,_,_,_,_,_,_,_,_,_,_,_,_,rfl,k3⟩⟩⟩
end
theorem AX {l:sO}{w:N4}{K:G5}{h:B6}{mg:Str->P4 G1}{fa:G9}(X:K.In h)(G:h.Ns mainGlobals mg)(hfa:mg "law" =some (.ref fa))
 (d0:DefIn K "is_whole" Jc fu0 eu0)
 (d1:DefIn K "is_table_row" wB fu1 eu1)
 (d2:DefIn K "has_table_form" zP fu2 eu2)
 (d3:DefIn K "want_table" wn fu3 eu3)
 (d4:DefIn K "reaches" ZE fu4 eu4)
 (d5:DefIn K "pieces_by" yX fu5 eu5)
 (d6:DefIn K "is_free" ZF fu6 eu6)
 (d7:DefIn K "ladder" JF fu7 eu7)
 (d8:DefIn K "_law_cell" yY fu8 eu8)
 (d9:DefIn K "_law_pen" Jd fu9 eu9)
 (d10:DefIn K "_law_draw" yZ fu10 eu10)
 (d11:DefIn K "_law_kind" va fu11 eu11)
 (d12:DefIn K "_law_said" vc fu12 eu12)
 (d13:DefIn K "_law_same" vd fu13 eu13)
 (d14:DefIn K "_law_size" vf fu14 eu14)
 (d15:DefIn K "_law_table" yl fu15 eu15)
 (d16:DefIn K "_law_after" ym fu16 eu16)
 (d17:DefIn K "_law_no_table" wg fu17 eu17)
 (d18:DefIn K "_law_far" Je fu18 eu18)
 (d19:DefIn K "_law_pieces" wR fu19 eu19)
 (d20:DefIn K "_law_rows" vg fu20 eu20)
 (d21:DefIn K "_law_right" yn fu21 eu21)
 (d22:DefIn K "law" Uk fu22 eu22)
 {tk0:Tok}(v0:IG K mainGlobals "MOST_ROWS" =some (some (.int 6 tk0)))
 (z:zsB K=true)
 (ex:SE K=true)
 (tb0:CI K "law" =true)
 : ∃fd:N5,(∀ (s:G2) (v:G1),o8 s fd ⟨[v],[]⟩ [("_law_script",v)])/\ ∀base:B6,K.In base->base.Ns mainGlobals mg->Bm mg base->FnOk l.prog w K mg base CX0 9 fa fd ["_law_script"] (LSp K Gv):=by
 have e:=hfa.symm.trans (d22.nm X G);cases e;have vi: ∃tk,mg "MOST_ROWS" =some (.int 6 tk):=⟨_,G0W X G v0⟩;have Z:=SN X G z;have Ex:Exc K mg:=Ah X G ex;have AY:=CJ tb0;obtain⟨_,_,kV,dc,pm,an,cd,ct,_,rfl,_⟩:=d22.fn.ex;refine⟨Z6 "law" "law" (yc Uk) (jK Uk) (jd Uk) .none kV dc pm an cd ct,λs v=> .of_eq rfl,λbase _ _ B=> ?_⟩;have Qx:=λn=>d0.cal l w base X G (Ul (n:=n+0) Z d0.fn)
 have ZX:=λn=>d1.cal l w base X G (ZI (n:=n+1) Z d1.fn (Qx (n+0)))
 have wY:=λn=>d2.cal l w base X G (Jf (n:=n+2) Z d2.fn (ZX (n+0)) vi)
 have Vx:=λn=>d3.cal l w base X G (Yf (n:=n+3) Z d3.fn (wY (n+0)))
 have Vy:=λn=>d3.rai l w base X G (ZU (n:=n+3) Z Ex d3.fn (wY (n+0)))
 have DY:=λn=>d4.cal l w base X G (Qn (n:=n+0) Z d4.fn)
 have Ux:=λn=>d5.cal l w base X G (Vn (n:=n+0) Z d5.fn)
 have DW:=λn=>d6.cal l w base X G (Qo (n:=n+0) Z d6.fn)
 have MZ:=λn=>d7.cal l w base X G (DS (n:=n+4) Z d7.fn (Vx (n+0)) (DY (n+3)) (Ux (n+3)) (DW (n+3)))
 have Na:=λn=>d7.rai l w base X G (Qp (n:=n+4) Z Ex d7.fn (Vy (n+0)))
 have Ut:=λn=>d8.cal l w base X G (Vp (n:=n+0) Z d8.fn)
 have Qw:=λn=>d9.cal l w base X G (Um (n:=n+0) Z d9.fn)
 have wT:=λn=>d10.cal l w base X G (Vq (n:=n+0) Z d10.fn)
 have u_kind: ∀n,Ph l.prog w K mg base (n+1) "_law_kind" ["_law_e"] (Pl mg):=λn=>⟨_,_,Yg (n:=n) Z Ex d11.fn,d11.fn.binds (ps:= ["_law_e"]) λ_ _ _ _ _ _ us hl=>match us,hl with| [_],_=>rfl,d11.fn.kp,d11.nm X G⟩
 have s_said: ∀n,Ai l.prog w K mg base (n+1):=λn=>⟨_,_,FG (n:=n+1) Z Ex d12.fn (u_kind n),d12.fn.binds (ps:= ["_law_call"]) λ_ _ _ _ _ _ us hl=>match us,hl with| [_],_=>rfl,d12.fn.kp,d12.nm X G⟩
 have Uv:=λn=>d13.cal l w base X G (Vr (n:=n+0) Z d13.fn)
 have Uw:=λn=>d14.cal l w base X G (Vs (n:=n+1) Z d14.fn (wT (n+0)))
 have Vw:=λn=>d15.cal l w base X G (Yh (n:=n+1) Z d15.fn (wT (n+0)))
 have jQ:=λn=>d16.cal l w base X G (Yi (n:=n+0) Z d16.fn)
 have ZM:=λn=>d17.cal l w base X G (Jt (n:=n+1) Z d17.fn (wT (n+0)))
 have Qu:=λn=>d18.cal l w base X G (Uo (n:=n+1) Z d18.fn (jQ (n+0)))
 have Yl:=λn=>d19.cal l w base X G (ZV (n:=n+2) Z d19.fn (Qu (n+0)))
 have e__law_rows0: ∀n,jw l.prog w K mg base (n+1) "_law_rows" ["_law_pieces_here","_law_table_here"] (jA 0):=λn=>d20.cal l w base X G (MJ λ_ _ _ z=>z)
 have e__law_rows1: ∀n,jw l.prog w K mg base (n+2) "_law_rows" ["_law_pieces_here","_law_table_here"] (jA 1):=λn=>d20.cal l w base X G (zn (n:=n+1) (k:=0) Z d20.fn (jQ (n+0)) (e__law_rows0 n))
 have e__law_rows2: ∀n,jw l.prog w K mg base (n+3) "_law_rows" ["_law_pieces_here","_law_table_here"] (jA 2):=λn=>d20.cal l w base X G (zn (n:=n+2) (k:=1) Z d20.fn (jQ (n+1)) (e__law_rows1 n))
 have e__law_rows3: ∀n,jw l.prog w K mg base (n+4) "_law_rows" ["_law_pieces_here","_law_table_here"] (jA 3):=λn=>d20.cal l w base X G (zn (n:=n+3) (k:=2) Z d20.fn (jQ (n+2)) (e__law_rows2 n))
 have e__law_rows4: ∀n,jw l.prog w K mg base (n+5) "_law_rows" ["_law_pieces_here","_law_table_here"] (jA 4):=λn=>d20.cal l w base X G (zn (n:=n+4) (k:=3) Z d20.fn (jQ (n+3)) (e__law_rows3 n))
 have e__law_rows5: ∀n,jw l.prog w K mg base (n+6) "_law_rows" ["_law_pieces_here","_law_table_here"] (jA 5):=λn=>d20.cal l w base X G (zn (n:=n+5) (k:=4) Z d20.fn (jQ (n+4)) (e__law_rows4 n))
 have e__law_rows6: ∀n,jw l.prog w K mg base (n+7) "_law_rows" ["_law_pieces_here","_law_table_here"] (jA 6):=λn=>d20.cal l w base X G (zn (n:=n+6) (k:=5) Z d20.fn (jQ (n+5)) (e__law_rows5 n))
 have Uu:=e__law_rows6;have Vv:=λn=>d21.cal l w base X G (Yj (n:=n+7) Z d21.fn (Uu (n+0)) (Yl (n+4)) (MZ (n+2)) (Uv (n+6)))
 exact AW (n:=6) Z B d22.at_ AY d22.fn (Vv 0) (Ut 7) (Qw 7) (Uw 6) (Vw 6) (wT 7) (ZM 6) (Na 1) (s_said 5)
end My
namespace PySem.W.Fast
def tw8390321452597471090:=()
def tw16590231384578978460:=()
def tw17950130707638039360:=()
def tw850837435492078064:=()
def tw2964134984687589441:=()
def tw1412875801066140602:=()
def tw8727412472048287521:=()
def tw659606923887427236:=()
def tw13300420085278626913:=()
def tw5425236368429883936:=()
def tw16768821003451347117:=()
def tw10952895186564061693:=()
def tw7484491129855793747:=()
def tw15338651256716310131:=()
def tw16341925591918627241:=()
def tw6292849845839685476:=()
def tw6461531437444545185:=()
def tw8335241549300030588:=()
def tw18193976735566441261:=()
def tw2964322343373295170:=()
def tw6991195956290922817:=()
def tw16341092170230839633:=()
def tw7783620513076633196:=()
def tw14368971537122478042:=()
def tw2647582560601935275:=()
def tw14972163413726155555:=()
def tw8526069788494175995:=()
def tw7675821570221178128:=()
def tw4752938436774293295:=()
def tw10619572503155817809:=()
def tw2522284212359671093:=()
def tw7821564276108846556:=()
def tw12922240598128383001:=()
def tw4230689467010652098:=()
def tw18352925702911446546:=()
def tw7489663229476189415:=()
def tw2343154398597459776:=()
def tw15928889811088788304:=()
def tw9957500090708480704:=()
def tw4746533278671819744:=()
def tw16304845801121939398:=()
def tw1182664937381843182:=()
def tw9471840854654284574:=()
def tw677869479401251500:=()
def tw15094800076046761773:=()
def tw1340046871518743303:=()
def tw3812713770265245549:=()
def tw4138186591651497003:=()
def tw11835054847560296765:=()
def tw1794512962276071600:=()
def tw16510080890730068572:=()
def tw15598089252460418559:=()
def tw4801697747088415112:=()
def tw6882406337243337508:=()
def tw11073247097845191047:=()
def tw15738980743743619145:=()
def tw1753825376651782985:=()
def tw6767954153656128674:=()
def tw8837730167368084541:=()
def tw7417241082032858562:=()
def tw8457743720698662075:=()
def tw16558831763008394552:=()
def tw5558737897054710447:=()
def tw13977239697695667764:=()
def tw2589295821658713505:=()
def tw13346515192875059534:=()
def tw809086975726555701:=()
def tw1851027313183877944:=()
def tw2605676792065614625:=()
def tw352856976396687688:=()
def tw5920517069421601459:=()
def tw2672519669331214433:=()
def tw8132609343414119501:=()
def tw430035621306259063:=()
def tw14513158187097176259:=()
def tw12684599885496561390:=()
def tw13922036887566145595:=()
def tw17004426480314749519:=()
def tw7608292189014423458:=()
def tw11272100257286126418:=()
def tw13601662510789780771:=()
def tw17551550071970525895:=()
def tw12420772298384370554:=()
def tw13644626065115668970:=()
def tw3651776586439517101:=()
def tw11881143532380068253:=()
def tw751043041032422754:=()
def tw14724619252598810167:=()
def tw2580780194596185305:=()
def tw8751071672972249762:=()
def tw5754396330841725414:=()
def tw1509164621988286472:=()
def tw3152370548227424739:=()
def tw3728308756477448336:=()
def tw17130435696499230043:=()
def tw3244831623344159800:=()
def tw4969196237589953000:=()
def tw2739942545412388856:=()
def tw10155704014369109151:=()
def tw10144115015874368646:=()
def tw17434275097270037933:=()
def tw4841347523142835582:=()
def tw15988077278897370769:=()
def tw14474125343234365447:=()
def tw8411083909515413996:=()
def tw4647154541802446548:=()
def tw18430231562287955175:=()
def tw17937408662038157590:=()
def tw4839253134098447625:=()
def tw100478568636816379:=()
def tw11962223828756342294:=()
def tw14255492055827003211:=()
def tw521222920178584824:=()
def tw16430772326090542284:=()
def tw2433997231555032135:=()
def tw7765191351495342807:=()
def tw10014080432822302580:=()
def tw15261478144760823540:=()
def tw5145738079518817098:=()
def tw8085884985132907844:=()
def tw2180985985135940907:=()
def tw6011234540919205818:=()
def tw5486387415005458963:=()
def tw5879137600134438419:=()
def tw13668990555650222179:=()
def tw4906236954670266522:=()
def tw2952833020024130977:=()
def tw16718077203771929148:=()
def tw5603599719390194785:=()
def tw5694929974840658476:=()
def tw9337240539182220290:=()
def tw18063391356097221193:=()
def tw6499514318927771127:=()
def tw10603275427117522371:=()
def tw15862796310930218560:=()
def tw2142473350340240272:=()
def tw11229313566069220277:=()
def tw8513392460562478857:=()
def tw16435986847868681619:=()
def tw3522323813820335302:=()
def tw5866713599957354340:=()
def tw5669195946986286999:=()
def tw8437163290114764680:=()
def tw4467474545151821823:=()
def tw6383318916671660948:=()
def tw8761228389878848866:=()
def tw10753265217658406535:=()
def tw18403033836221180480:=()
def tw13458385295890830095:=()
def tw15182883651385513389:=()
def tw15802859441754268375:=()
def tw7934400675612570395:=()
def tw5016674999264056193:=()
def tw16127443474567188362:=()
def tw9734254681569473512:=()
def tw8738132691719230250:=()
def tw12325416978010038723:=()
def tw14114857429207754081:=()
def tw2498268363621093817:=()
def tw6308516578275442689:=()
def tw6822674547425740593:=()
def tw12704151033488888553:=()
def tw14173639804071136240:=()
def tw6479513418602830412:=()
def tw7577211635290648243:=()
def tw7280326104179461424:=()
def tw1493054154829916741:=()
def tw958798384117426120:=()
def tw18406128552092232391:=()
def tw7246742882721911768:=()
def tw18423689656561363801:=()
def tw16985034608498037036:=()
def tw8284490001904770767:=()
def tw1725723689933852539:=()
def tw5138709328800167286:=()
def tw210791162095016323:=()
def tw12200798891634055228:=()
def tw9231108289554573920:=()
def tw4407451591328386113:=()
def tw17457759018339477831:=()
def tw9369487025478678300:=()
def tw3359374749625252801:=()
def tw14522987765221661255:=()
def tw16221920493744523030:=()
def tw9786758636564282135:=()
def tw11025781132707861639:=()
def tw12306412257167041550:=()
def tw6669849495681668578:=()
def tw17521184207657920964:=()
def tw795230168176228549:=()
def tw74625586022644693:=()
def tw9811594283607031846:=()
def tw16798349379595957595:=()
def tw1971157219122690935:=()
def tw5782723489017575735:=()
def tw12812001321222521004:=()
def tw9395001576504523650:=()
def tw9126181626750572944:=()
def tw2823693410526425929:=()
def tw150562435905152569:=()
def tw10349363126401762899:=()
def tw12338260814475500588:=()
def tw17374340656344736982:=()
def tw11253202569462627836:=()
def tw16638972951365212456:=()
def tw7571725133036164119:=()
def tw14696198596809633617:=()
def tw6104430377154969804:=()
def tw15682437414889466111:=()
def tw15725481212055932907:=()
def tw7752251584022346172:=()
def tw15437390997355678633:=()
def tw7784178068595410617:=()
def tw2003184640346579048:=()
def tw12577421865529567785:=()
def tw1353755269939547111:=()
def tw6493399552488405493:=()
def tw11541297219035005292:=()
def tw6002088879560891478:=()
def tw12066510536095032362:=()
def tw10074337431474528497:=()
def tw11092329428312907667:=()
def tw5677280258132184999:=()
def tw1706553777303780489:=()
def tw9284759841740819251:=()
def tw10621507112370078957:=()
def tw11257299803812859081:=()
def tw13094729960263160680:=()
def tw10972776500175283708:=()
def tw9535019091950458655:=()
def tw2055684950894481732:=()
def tw16379530270471622242:=()
def tw17613802057926006515:=()
def tw16676007012067456978:=()
def tw1903388960237100362:=()
def tw123701813792478936:=()
def tw8553799220640069946:=()
def tw2331339156678275596:=()
def tw15922645772167456922:=()
def tw2207907684472475733:=()
def tw5068065024464511934:=()
def tw16872065671651185881:=()
def tw17605715915366297720:=()
def tw2412910835590344919:=()
def tw6742780457148318646:=()
def tw11872623894370613638:=()
def tw14658020057669098305:=()
def tw6929564531043661269:=()
def tw1709776705273211381:=()
def tw16797493245584385052:=()
def tw13034307458394498353:=()
def tw1949512471277472935:=()
def tw15170968432471585214:=()
def tw15936697609778162888:=()
def tw9179924092918452162:=()
def tw3688142830398606230:=()
def tw11310748047217016493:=()
def tw9017275761629638478:=()
def tw18317466685434886295:=()
def tw4008743334121704735:=()
end PySem.W.Fast
open PySem PySem.W PyProof.Rows
set_option maxRecDepth 100000 in
set_option maxHeartbeats 0 in
theorem PySem.Challenge.cw_firstpowers_k20_ladders_of_pieces_holds : PySem.Challenge.rw_firstpowers_k20_ladders_of_pieces.Holds := by
  w_on; o_law; k_head; (case hw => w_witness2)
  k_fill
  refine L2.RF (l := PySem.Challenge.rw_firstpowers_k20_ladders_of_pieces) (k := 9) (x := "_law_script") rfl rfl ⟨rfl, by decide, by decide, rfl⟩ (fun w h Y => PySem.W.km_in_of Y) ?B ?F
  case B => intro w; kernel_rfl
  case F =>
    intro w mg fa h KX G hmg
    refine' My.AX KX G hmg ?d0 ?d1 ?d2 ?d3 ?d4 ?d5 ?d6 ?d7 ?d8 ?d9 ?d10 ?d11 ?d12 ?d13 ?d14 ?d15 ?d16 ?d17 ?d18 ?d19 ?d20 ?d21 ?d22 ?v0 ?z ?ex ?tb0
    case d0 | d1 | d2 | d3 | d4 | d5 | d6 | d7 | d8 | d9 | d10 | d11 | d12 | d13 | d14 | d15 | d16 | d17 | d18 | d19 | d20 | d21 | d22 => refine' L2.AM ?a ?l ?c ?k; (case a => k_is); (case l => k_is); (case c => k_is); (case k => k_is)
    case v0 => k_is
    case z | ex | tb0 => kernel_rfl
