import PyProof.Rows.All
import Wide.All
import OpenK.AllK
import Wide.FinOn
import Lean
import PyProof.EqAt
import PyProof.EqKinds
import PyProof.TupleCall
import PyProof.Rows.TopTwo
import KE.KIsAll
import PyProof.ExcAttrAll.ValueError
import KE.KTryMore
import KE.KRevIter
import PyProof.SetRoads
import PyProof.InstStoreFacts
import PySem.Challenge.RW_firstpowers_k63_sizes_refused
set_option Elab.async false
set_option linter.all false
set_option maxRecDepth 100000
set_option maxHeartbeats 8000000
open _root_ renaming List->G0,Nat->G8,Option->P0,Int->P2,if_pos->R1,if_neg->R3,decide_eq_true->S1,decide_eq_false->T3,Array->M1,Bool->N0,String->B2,exists_eq_left'->C6,beq_self_eq_true->K4,decide_eq_true_eq->U1,of_decide_eq_true->U2,if_false->gC,of_decide_eq_false->gX,if_true->iC,bne_self_eq_false->iH,decide_eq_false_iff_not->i5,ForInStep->uL,decide_true->xX,not_or->IE
open PySem renaming Value->G1,Shared->G2,Addr->G5,wpAny_pure->G7,starEach->P5,wpAny->D1,model->D3,Program->D5,FuncData->R4,Around->R6,wpAny_mono->R7,Expr->S6,World->T5,SetTable->T7,foldedSetIterable->T8,Heap->M4,compareOp->N3,wpAny_loadPart'->N5,wpAny_holding->B5,PyData->C4,Stmt->C5,eval->C8,wpAny_call_entry->F4,backTo->F7,rawInt->F8,Scope->H0,mem_of_lookup->L4,wpAny_newObj_type->A3,wpAny_setState_of->A4,wpAny_truthy_bool->E7,codeAny->E8,binaryOp->J6,bootBuiltins->K1,wpAny_execs_cons->K2,cellsFrom->K3,attributeBase->K6,swapsWith->Q4,wpAny_standAt->Q5,wpAny_Call_Name_kw->V3,behindInMarks->V7,wpAny_seqItems->W1,ofAClassStatement->W4,codeAny_builtin->W8,codeAny_mono->X5,Comprehension->X8,wpAny_askSetting->X9,sysModules->Y2,builtinLookup_eq_fast->Y9,wpAny_passesOwn->Z5,holding->Z6,codeAny_call_builtin->aA,plainId_quiet->aD,wpAny_isSubtype_exc->aE,wpAny_callSpecial?_slot->aG,Keyword->aN,wpAny_execs_nil->aS,letOwnedTupleGo->aT,wpAny_specialOf->aW,wpAny_pyIter_list->aY,searchCouldBeSeen->bH,wpAny_newFunctionEnv_cells->bK,keywordEach->bL,checkBuiltinCall->bW,tupleKeyHash->bZ,Model->cC,swapsWithSole->cE,swappedStores->cF,typeLookup_type->cO,assignEach->cQ,wpAny_field->cW,sliceBounds->cX,Fin->cY,hashByValue->dA,wpAny_typeOf->dG,plainObj_wpAny_Assign_Attribute->dR,codeAny_call_function->dS,assign->dY,wpAny_call->dZ,typeLookup->eG,TriplesOk->eI,wpAny_newList->eQ,sizeLine_eq->eZ,compTurn->fC,richCompare->fG,codeAny_of_tree->fK,builtinsNs->fX,backToKw->gG,closureFor->gH,setField->gL,isInstance->gO,wpAny_tryCatch->gY,IsTupleKey->gZ,refuseLoop_ref->g6,wpAny_binaryOp_repeat_ref->g9,standAt->hO,wpAny_Assign_Name->hZ,CmpOp->iA,getItem->iD,wpAny_sequenceKey->iE,comprehension->iM,wpAny_comprehension_free->iN,lastMarks->iU,noFill_tuple_add->iV,compEnvC->iZ,noteFrame->i0,codeAmong->i4,wpAny_isInstance->i7,Within->j7,wpAny_rule->j8,Result->j9,leaving->k9,name_of_addr->lA,IsPart->lB,typeIs_int->lD,wpAny_Call_method_late->lE,call_meets->lF,richCompare_meets_room->lN,theTreesLotGoes->lR,wpAny_updateSeq->lU,wpAny_mroOf_exc->lX,isSubtype_tuple_tuple->mC,wpAny_loadName_local->mE,wpAny_bindName->mF,lookup_relabel_local->mJ,intBits_le_iff->mP,isSubtype_type->mS,wpAny_newTuple->mT,wpAny_letGo->mU,setAddHashedIn->mX,excClassObj->mZ,PassesOwn->m7,BindsTo->m8,Arguments->m9,callerA->nA,eqIsQuiet->nB,assignInOrder->nH,seq_tuple_add->nJ,evalPart_none->nK,frameOf->nO,wpAny_attempt->nQ,wpAny_Name->nZ,wpAny_List_spliced->n8,tupleKind_room_in1->oB,reduceHash->oC,wpAny_pyHash_tuple->oN,wpAny_classOwn_exc->oO,bindArgs->oW,codeAny_func->oX,concat_meets->oY,seqIndex_neg->oZ,valueAt->o4,call_meetsIn->o5,wpAny_pyIter_enum->pB,entryPlaceOf->pE,wpAny_pyIter_slot->pF,wpAny_storeSet_of->pL,callSpecial?->pO,setAttr->pP,wpAny_eqBool_int->pR,pyIter->pS,stored->pX,seqSlot_of->pY,wpAny_forIn_list->pZ,argsOk->qE,lookupAlong_cons->qH,pastItsLine_dict->qI,bindL->qM,bindC->qN,seqIndex_of->qO,pushCells_keeps->qX,setItem->rK,Setting->rL,wpAny_Expr_any->rP,bindName->rQ,pyNext->rR,wpAny_load->rS,call->rY,atKey->rZ,newFunctionEnv->r9,compPost->sA,wpAny_is_plain->sC,behindIsImport->sG,boundAndCalled->sI,entryFor_alias->sK,carriedByValue->sP,rangeSize_one->sU,intBits_le_64->sV,evalPart_some->sX,call_list_seq->sZ,eval_ListComp->tE,wpAny_notedAt->tF,setSearchFrom->tZ,typeLookup_eq->uJ,setFlight->uO,spliced->uS,call_range_1->uU,isTrue->uY,codeAny_loop->uZ,relabel->u0,callFunction->u4,wpAny_nsSet1->v5,interactive->xC,IsRangeIter->xD,Operator->xE,wpAny_Slice->xH,subscripted->xJ,wpAny_noted->xK,wpAny_of_eq->xM,readyFrames->xQ,entryFor->xS,setRelay->xW,truthy->y8,typeIs_str->z7,PlainAttrs->z9,seqRepeat?->IA,preSum->IB,newObjAsIs->IC,StoreFacts->IG,release->IH,getAttr->IK,splitId->IQ,findBy->G0c,data2->G0e,typeOf->G0f,Params->G0g,cellOf->G0h,newSet->G0m
open PySem.W renaming Frag->G3,keepIn->E2,kia_one->J7,hideAll_none->Q1,hideAll_get->U5,hideAll->U9,fnOf->V8,cellsFrom_some->aL,of_hideAll->cP,callWith_K->cR,codeIn->dE,tabIn->eO,nsIn->fV,kitOne->gA,codeRec_of->gB,methodObj->hG,instObj->lQ,lookIn->mH,tabObj->mL,mg_of->nX,kitx_list->oS,kitx_dict->oU,plainGet->pT,codeHdIn->qK,OpenLaw->qY,findIn->rT,CodeHd->sB,hideAll_size->xB,kdx_collect->y6,kitx_float->z5,kitx_tuple->z6,ki_setBack->z8,hasDictIn->II,plainOver->IJ,specialIn->IL,kitx_none->IM,kitx_bool->IN,krv_range->IP,eq_bytes->IR,ne_bytes->IS,kitx_int->IT,kitx_str->IU,kitx_own->IV,ki_setAt->IW,kat_cons->IZ,takesIn->G0a,krv_all->G0b,InstAt->G0d,tab_of->G0i,kat_lt->G0n,kat_go->G0o,kat_no->G0p,mroIn->G0r,WalkO->G0s
open PySem.Heap renaming get?_push_of_some->G4,lt_size->D0,get?_push_size->S4,get?_update_self->B1,SameBut->A5,get?_update_ne->X1,get?_update_other->X6,size_push->aH,get?_none_of_le->bJ,get?_push_at->iJ,FlyingW->lL,MadeExcOf->sH
open PySem.Str renaming ofString->G6,empty->uK
open List renaming length_map->G9,mem_cons_self->P3,mem_singleton->P4,mem_append_right->P6,range->P7,getElem?_eq_getElem->P8,mem_cons->P9,length_cons->D4,getElem?_map->D6,mem_cons_of_mem->D7,length_append->D9,getElem?_eq_some_iff->R0,size_toArray->R9,mem_map->S2,getD_eq_getElem?_getD->S3,mem_range->S5,replicate->S7,length_range->T1,map_cons->T2,mem_append->T4,mem_append_left->T6,getElem?_cons_zero->M0,mem_of_getElem?->M3,length_nil->M7,all_eq_true->M8,not_mem_nil->N6,map_map->N7,map_congr_left->B3,getElem?_cons_succ->B8,take_add_one->C0,lookup_cons->C3,cons_append->C9,nil_append->F0,mem_map_of_mem->F1,length_take->F3,contains_iff_mem->F9,getElem?_append_left->L5,map_append->L8,take_of_length_le->O2,nodup_cons->O9,getElem_mem->A1,mem_filter->E1,flatMap_append->E3,getElem?_eq_none->E6,map_nil->E9,flatMap_cons->J0,getElem?_set_ne->J5,pairwise_iff_getElem->K5,set_cons_succ->K9,set_cons_zero->Q0,getElem?_append_right->Q7,filterMap_cons->U6,replicate_succ->U7,append_nil->V0,append_assoc->W3,find?_cons->W5,getElem?_range->X0,mem_filterMap->Y3,flatten_cons->Z7,pairwise_map->Z9,length_erase_of_mem->aC,length_drop->aF,getElem?_set_self->aK,all_map->aO,length_pos_of_mem->aQ,mem_erase_of_ne->bO,getElem?_of_mem->bQ,getLastD_eq_getLast?->b8,getLast?_eq_getElem?->b9,length_reverse->cB,getElem?_take_of_lt->cG,idxOf_lt_length_iff->cJ,of_mem_zip->cL,forIn_cons->cN,zip_cons_cons->cS,getElem_range->cT,getElem?_replicate->cU,length_eq_zero_iff->cZ,getElem?_set->dH,reverse_cons->dI,take_append_drop->dW,nodup_range->eJ,mem_flatMap->eL,length->e8,eq_nil_of_length_eq_zero->fE,drop_eq_nil_iff->fH,getElem?_drop->gR,length_eraseIdx_of_lt->gV,take_sublist->iB,mem_reverse->j5,range_succ_eq_map->lH,length_eq_one_iff->lP,length_replicate->lY,length_singleton->lZ,getElem?_toArray->l9,length_filter_le->mB,map_eq_nil_iff->nG,any_cons->nN,filterMap_map->n9,getElem_idxOf->oE,getElem?_take->oH,find?_eq_none->oM,ext_getElem?->pG,nodup_append->pM,range'_succ->qA,take_length->qB,any_eq_true->qC,map_flatMap->qJ,foldl_cons->qV,sum_append->qZ,idxOf_cons->rB,foldl->rW,Nodup->sL,all_cons->tG,map_take->tL,map_drop->tM,toArray->v6,lookup->xL,map->G0l,any->G0q
open Nat renaming le_refl->P1,ne_of_lt->R5,lt_of_lt_of_le->S0,le_trans->T9,le_of_lt->M5,lt_irrefl->N8,zero_le->L0,lt_succ_self->A0,ne_of_gt->A6,lt_trans->A7,lt_or_ge->A8,pow_succ->J4,lt_of_succ_le->Q9,not_lt->U0,min_le_right->V4,pow_le_pow_right->V9,not_lt_zero->W9,add_sub_cancel'->X2,mul_comm->X7,lt_of_le_of_lt->Y6,mod_lt->Y7,div_div_eq_div_mul->aR,lt_succ_of_lt->aZ,lt_trichotomy->bF,succ_mul->bT,le_of_eq->bU,succ_pos->bX,add_zero->bY,mul_add->c9,pow_zero->dP,mod_eq_of_lt->eM,mul_le_mul_left->fO,le_succ->iF,zero_add->lI,mod_eq_zero_of_dvd->lO,div_add_mod->lW,add_mul->mQ,add_mod->mV,div_one->mW,mul_assoc->nU,add_assoc->nV,eq_zero_or_pos->oJ,add_right_comm->oK,le_of_succ_le->pI,le_add_right->qD,succ_le_succ->qF,log2_lt->qR,pow_pos->qS,le_antisymm->rE,min_le_left->rF,mod_add_div->rH,gcd->rN,mul_le_mul->sF,sub_self->u7,zero_mul->u8,mod_mod->xU,mul_mod->xV
open Array renaming length_toList->D2,getElem?_toList->B9,getElem?_eq_some_iff->A2,getElem?_eq_getElem->V2,forIn_toList->V5,getD_eq_getD_getElem?->bG,getElem_toList->bP,getElem?_eq_none_iff->bR,isEmpty_eq_false_iff->gK,toList_push->iI,toList_map->i9,getElem?_eq_none->lK,replicate->lV,mem_toList_iff->mI,toList_append->nF,find?_toList->n5,isEmpty_iff->o6,toList_inj->qG,size_push->rG,getD->sJ,size_map->sO,toList->uT
open Bool renaming false_ne_true->D8,and_eq_true->S9,false_eq_true->N9,or_eq_true->W7,eq_iff_iff->aU,and_false->dN,not_true->eU,true_and->eY,not_eq_true'->iG,false_and->mG,or_eq_false_iff->mK,and_true->nW,eq_false_iff->pJ,not_false->sN,or_false->sY,false_or->tD,true_or->uX
open PySem.SetTable renaming bits->R8,below->S8,runEnd->L9,turns->O4,sizeAbove->A9,Probe->K8,insertAt->U3,advance->Y1,grown->bS,toList_insertAt->cK,insertAt_perm->dQ,slot->iP,has->lM,layClean->pK,fresh->sM,fits->tV,leap->tW,laid->tX,fill->tY,probeStart->x8,sameMemory->x9,gaveWay->IX,tooFull->IY
open PySem.PyData renaming canLayAll0->M6,eqv->M9,depthAll->N4,eqvAll->B7,canLay0->C7,depth->O3,str->Y8,int->aP,shown->lJ,shownAll->lT,showableAll->oG,bool->qT,showable->rC
open PySem.Value renaming ref->B0,none->bI,int->dX,builtin->eX,bool->j6,isInt->mD,str->m5,type->nY,isInt_shape->oP,isStrOf->sT,float->xA
open Option.some renaming injEq->B4,inj->L7
open PySem.NameKind renaming free->B6,cell->K7
open Option renaming isSome_iff_exists->F2,map_eq_some_iff->O1,getD_some->bV,map_eq_none_iff->dO,isSome_some->oA,getD_none->pV
open PySem.Builtin.Slice renaming slicePlaces->L6,sliceAdjust->V1,sliceApplied->Y5,sliceFields->g8,slicePartIndex->qU
open Ne renaming symm->O0
open PySem.SetTable.layClean renaming free->O5
open PySem.Builtin.Tuple renaming tupleExact->O6,tupleItemsOf->Q8,tupleHashOf->Z2,tupleIsExact->gI,tupleTooMany->gJ,tupleCompareSizes->pQ
open PyProof.Rows renaming slot_tuple_getitem->O7,envOfC->E4,callWith_type1->X4,boot_all->Z1,seqObj->aJ,boot_isinstance->aV,IntsAre->cM,get?_update_seq->fL,entry_tuple_getitem->fN,AllBare->fQ,assignInOrder_cons->fZ,slicePart_none->gE,args_tuple_getitem->gF,tupleItemsOf_->iK,listUpdate_at->iR,subscriptTail_builtinR->lC,entry_list_sort->lS,slot_list_sort->mM,args_list_sort->mO,seqEpoch_at->mY,pairsOf->nE,subscriptTail->nM,assignInOrder_nil->oQ,plain_sorted->o7,entry_sorted->o8,args_sorted1->o9,callWith_builtin1->pU,IsTup->qL,kind_sorted->qP,list_sort_plain->rJ,Subscript_->rV,slicePart_int->sW,listItems_at->u9,tail_any->xI,recsOf->xY,lt_int->xZ,boot_range->y9,seen->G0k
open PySem.Heap.SameBut renaming update->O8,refl->bE,trans->IF
open PySem.Obj renaming mapSeq->E5,mapFields->eT
open ForInStep renaming yield->J8,done->G0j
open PySem.PassesOwn renaming never->J9
open Sum renaming inl->K0,inr->aX
open True renaming intro->Q6
open PySem.SetTable.probe renaming go->U4
open Function renaming comp_apply->U8,comp_def->dJ
open PySem.Builtin.ObjectAttr renaming storeInDict->V6,storeInOwnDict->dB,newKeyGuard->eN
open PySem.Around renaming under_plainId->W0,frames_deeper->e9,under->fT
open Or renaming inl->W6,inr->cA
open PySem.Manifest renaming signature?->X3
open PySem.F renaming plain_min_loop->Y0,args_tuple_add_2->cH,entry_tuple_add->cV,plainAttrs_list->c8,slot_tuple_add->dF,slot_dict_get->dU,slot_int_rmul->fJ,excBase_ValueError->gM,slot_tuple_index->iO,store_ValueError->iT,args_dict_get_3->iW,plainAttrs_dict->iY,slot_list_count->i6,entry_min_loop->i8,slot_dict_items->j0,entry_dict_get->lG,entry_bexc_ga->l8,args_bexc_ga->mR,args_int_rmul_2->o3,plain_list_iadd->pH,slot_tuple_hash->pN,entry_int_rmul->pW,fills_int_mul->qW,slot_set_iter->rD,attrBase_ValueError->rO,args_tuple_index_2->sD,entry_tuple_index->sQ,args_list_count_2->sR,args_dict_items_1->sS,slot_list_append->tJ,type_list_append->tK,plainAttrs_tuple->tN,type_tuple_index->tO,entry_list_count->tU,entry_dict_items->t8,slot_list_index->uM,type_list_index->uN,type_list_count->uP,args_tuple_lt_2->uQ,type_dict_items->uR,entry_tuple_lt->u5,args_list_lt_2->u6,type_dict_get->v9,slot_tuple_lt->w6,entry_list_lt->w8,slot_list_lt->xT
open PySem.Calls renaming spliced_cons->Y4,callWith_builtin->aM,evalArgs_plain->bM,call_function_entry->b7,spliced_nil->dD,Name_function_global->fY,Constant_str->tQ
open PySem.SetTable.sizeAbove renaming go->Z0
open PySem.Sem renaming wp->Z3,wp_mono->xP
open Classical renaming byContradiction->Z4,em->G0t
open PyProof.Rows.LCg renaming lst->Z8
open Int renaming toNat_natCast->aB,emod_nonneg->fM,toNat->fW,fdiv_eq_ediv_of_nonneg->f7,fmod_eq_emod_of_nonneg->f8,emod_lt_of_pos->g7,lt_of_lt_of_le->oF,mul_comm->pA,pow_pos->qQ,mul_nonneg->sE,ediv_one->uW,le_of_lt->u3,ne_of_gt->v7,mul_pos->xN,pow_add->xO
open PySem.Builtin.List renaming listTooLong->cI,listLengthHint->fU,listSameRef->iQ,listExtendWith->rM,listFitsIndex->rX
open PySem.Builtin.SmallTypes renaming stopIteration->dL
open PySem.SetTable.below renaming go->dM
open PySem.EntryCells renaming newEntry->fP
open PySem.Code renaming quiet_builtin->gP,call->nC,isFrame->oV,compLoop->uI,isGuard->uV,frames->xF,guards->xG
open PySem.W.Looks renaming here->gQ,of_pure->nP,ld->xR
namespace L2
open PySem PySem.Spec PyProof.Rows
abbrev Key:=Sum P2 Str
def GR:Key->G1->N0
 | .inl k,v=>mD k v
 | .inr x,v=>sT x v
def KU (w:T5):Key->P2
 | .inl k=>hashInt k
 | .inr x=>hashStr w x
theorem jV: ∀ {k:Key} {v:G1},GR k v=true->(∃i t,k=K0 i/\v=dX i t)\/(∃x t,k=aX x/\v=m5 x t)
 | .inl i,v,h=>by
  obtain⟨t,e⟩:=oP (k:=i) (v:=v) h;exact .inl ⟨i,t,rfl,e⟩
 | .inr x,v,h=>by
  obtain⟨t,e⟩:=Value.isStrOf_shape (x:=x) (v:=v) h;exact .inr ⟨x,t,rfl,e⟩
theorem Dv (i:P2)(t:Tok):GR (.inl i) (.int i t)=true:=by simp [GR,mD]
theorem Dw (x:Str)(t:Tok):GR (.inr x) (.str x t)=true:=by simp [GR,sT]
theorem OX (a b:P2):decide ((K0 a:Key)=K0 b)=(a==b):=by
 by_cases e:a=b
 ·subst e;simp
 ·have h: ¬ (K0 a:Key)=K0 b:=λq=>e (Sum.inl.inj q)
  rw [T3 h];exact(beq_eq_false_iff_ne.mpr e).symm
theorem OY (a b:Str):decide ((aX a:Key)=aX b)=decide (a=b):=by
 by_cases e:a=b
 ·subst e;simp
 ·have h: ¬ (aX a:Key)=aX b:=λq=>e (Sum.inr.inj q)
  rw [T3 h,T3 e]
theorem OZ (a:P2)(b:Str):decide ((K0 a:Key)=aX b)=false:=T3 (λq=>nomatch q)
theorem Aa (a:Str)(b:P2):decide ((aX a:Key)=K0 b)=false:=T3 (λq=>nomatch q)
def jQ (prog:D5)(w:T5):PySem.KeyKind prog w Key where
 is:=GR
 hash:=KU w
 inj:=λv a b ha hb=>by
  rcases jV ha with ⟨i,t,rfl,rfl⟩|⟨x,t,rfl,rfl⟩
  ·rcases jV hb with ⟨j,u,rfl,e⟩|⟨y,u,rfl,e⟩
   ·injection e with e1 _;rw [e1]
   ·exact nomatch e
  ·rcases jV hb with ⟨j,u,rfl,e⟩|⟨y,u,rfl,e⟩
   ·exact nomatch e
   ·injection e with e1 _;rw [e1]
 byValue:=λk v h=>by
  rcases jV h with ⟨i,t,rfl,rfl⟩|⟨x,t,rfl,rfl⟩<;>rfl
 pyHash:=λhv h=>by
  rcases jV hv with ⟨i,t,rfl,rfl⟩|⟨x,t,rfl,rfl⟩
  ·exact wpAny_pyHash_int h
  ·exact wpAny_pyHash_str h
 eqBool:=λhu hv h=>by
  rcases jV hu with ⟨i,t,rfl,rfl⟩|⟨x,t,rfl,rfl⟩
  ·rcases jV hv with ⟨j,u,rfl,rfl⟩|⟨y,u,rfl,rfl⟩
   ·rw [OX] at h;exact pR h
   ·rw [OZ] at h;exact SeqAt.EqAt.int_str i t y u _ _ _ _ h
  ·rcases jV hv with ⟨j,u,rfl,rfl⟩|⟨y,u,rfl,rfl⟩
   ·rw [Aa] at h;exact SeqAt.EqAt.str_int x t j u _ _ _ _ h
   ·rw [OY] at h;exact wpAny_eqBool_str h
 «strs» :=λk x t v h=>by
  rcases jV h with ⟨i,u,rfl,e⟩|⟨y,u,rfl,e⟩
  ·exact nomatch e
  ·injection e with e1 _
   subst e1;cases v<;>rfl
theorem XR (prog:D5)(w:T5)(i:P2)(t:Tok):(jQ prog w).is (.inl i) (.int i t)=true:=Dv i t
theorem XS (prog:D5)(w:T5)(x:Str)(t:Tok):(jQ prog w).is (.inr x) (.str x t)=true:=Dw x t
inductive V where
 |non|bl (b:N0)|int (i:P2)|str (x:Str)|byt (b:M1 UInt8)|flt (b:UInt64)|ref (a:G5)|ty (n:B2)
 deriving DecidableEq
def RelV:V->G1->Prop
 | .non,u=>u=bI
 | .bl b,u=>u=j6 b
 | .int i,u=> ∃t,u=dX i t
 | .str x,u=> ∃t,u=m5 x t
 | .byt b,u=> ∃t,u=Value.bytes b t
 | .flt b,u=> ∃t,u=xA b t
 | .ref a,u=>u=B0 a
 | .ty n,u=>u=nY n
abbrev Vals:G0 V->G0 G1->Prop:=Paired RelV
variable {us:G0 G1}
theorem Vals.length {xs:G0 V}(r:Vals xs us):xs.length=us.length:=Paired.length r
theorem Vals.get: ∀ {xs:G0 V} {us:G0 G1} {i:G8} {x:V},Vals xs us->xs[i]? =some x-> ∃u,us[i]? =some u/\RelV x u
 |_,_,_,_,.nil,e=>by simp at e
 |_,_,0,_,.cons r _,e=>by simp at e;subst e;exact⟨_,rfl,r⟩
 |_,_,i+1,x,.cons _ t,e=>by
  obtain⟨u,h1,h2⟩:=Vals.get (i:=i) (x:=x) t (by simpa using e);exact⟨u,by simpa using h1,h2⟩
variable {u:G1}
theorem Vals.set {x:V}(r:RelV x u): ∀ {xs:G0 V} {us:G0 G1} (i:G8),Vals xs us->Vals (xs.set i x) (us.set i u)
 |_,_,_,.nil=> .nil
 |_,_,0,.cons _ t=> .cons r t
 |_,_,i+1,.cons q t=> .cons q (Vals.set r i t)
theorem Vals.append: ∀ {xs ys:G0 V} {us ws:G0 G1},Vals xs us->Vals ys ws->Vals (xs++ys) (us++ws)
 |_,_,_,_,.nil,s=>s
 |_,_,_,_,.cons r t,s=> .cons r (Vals.append t s)
theorem Vals.take: ∀ {xs:G0 V} {us:G0 G1} (n:G8),Vals xs us->Vals (xs.take n) (us.take n)
 |_,_,0,_=> .nil
 |_,_,_+1,.nil=> .nil
 |_,_,n+1,.cons r t=> .cons r (Vals.take n t)
theorem Vals.drop: ∀ {xs:G0 V} {us:G0 G1} (n:G8),Vals xs us->Vals (xs.drop n) (us.drop n)
 |_,_,0,r=>r
 |_,_,_+1,.nil=> .nil
 |_,_,n+1,.cons _ t=>Vals.drop n t
def RelO:P0 V->P0 G1->Prop
 |some v,some u=>RelV v u
 |none,none=>True
 |_,_=>False
def KV {κ:Type}:G0 (κ×V)->G0 (κ×G1)->Prop:=Paired λ(p:κ×V) (q:κ×G1)=>p.1=q.1/\RelV p.2 q.2
def kV:Key->V
 | .inl i=> .int i
 | .inr x=> .str x
inductive HO where
 /-- a list -/
 |lst (xs:G0 V)
 /-- a tuple (never changes) -/
 |tup (xs:G0 V)
 /-- a dict whose keys are ints and texts;one whose keys are tuples of ints and texts (the empty one is both) -/
 |dK (kvs:G0 (Key×V))|dT (kvs:G0 (G0 Key×V))
 /-- a set of ints: its members,its size -/
 |set (S:P2->N0) (n:G8)
 /-- an instance of the class at C,its dict at dx,its attributes -/
 |ins (C dx:G5) (fs:G0 (Str×V))
 /-- the dict of the instance at x -/
 |own (x:G5)
 /-- the dict of an exception -/
 |xd (fs:G0 (Str×V))
 /-- a bound method,f of x -/
 |met (f x:G5)
 /-- a range object lo,lo+1,.. below hi -/
 |rng (lo hi:P2)
 /-- a thing that is known to the object (the script;a dict while a loop walks it):read,never written while it is so -/
 |frz (o:Obj) (u:HO)
 /-- a code object's table -/
 |tbl (ps:M1 G1)
 /-- any other thing,by what is true of its one object (a def of one's own: SetO a S n:=HO.ext λh=> ..) -/
 |ext (φ:M4->Prop)
abbrev Hp:=G5->P0 HO
def upd (H:Hp)(a:G5)(o:HO):Hp:=λb=>if b=a then some o else H b
variable {H:Hp}{a:G5}{o:HO}
theorem je:upd H a o a=some o:=by unfold upd;rw [R1 rfl]
variable {b:G5}
theorem jd (h:b≠a):upd H a o b=H b:=by unfold upd;rw [R3 h]
theorem Dx {u:HO}:upd (upd H a o) a u=upd H a u:=by
 funext b;unfold upd;split<;>rfl
theorem XT {u:HO}(h:H a=some o)(h':H b=some u)(d:o≠u):a≠b:=by
 intro e;subst e;rw [h] at h';exact d (L7 h')
theorem jf (h:H a=some o)(h':H b=none):a≠b:=by
 intro e;subst e;rw [h] at h';cases h'
def IsTupN (h:M4)(a:G5)(items:M1 G1):Prop:= ∃o,h.get? a=some o/\o.cls= .type "tuple" /\o.dict=none/\ ∃n,o.data= .seq items n
theorem IsTupN.tup {h:M4}{a:G5}{items:M1 G1}(x:IsTupN h a items):qL h a items:=let ⟨o,e,c,_,n,d⟩:=x;⟨o,e,c,n,d⟩
theorem IsTupN.new (h:M4)(items:M1 G1):IsTupN (h.push {cls:= .type "tuple",data:= .seq items}) h.objs.size items:=⟨_,S4 _ rfl,rfl,rfl,_,rfl⟩
section
variable (P:D5)(w:T5)
def ObjOk (H:Hp)(h:M4)(a:G5):HO->Prop
 | .lst xs=>xs.length<=sizeLine/\ ∃ (its:G0 G1) (n:G8),Vals xs its/\h.get? a=some {cls:= .type "list",data:= .seq its.toArray n}
 | .tup xs=>xs.length<=sizeLine/\ ∃its:G0 G1,Vals xs its/\IsTupN h a its.toArray
 | .dK kvs=>kvs.length<=sizeLine/\(a==Y2)=false/\ ∃vs,KV kvs vs/\h.DictOf (jQ P w) a vs
 | .dT kvs=>kvs.length<=sizeLine/\(a==Y2)=false/\ ∃xs:G0 (G0 Key×G5×G1),
  Paired (λ(p:G0 Key×V) (q:G0 Key×G5×G1)=>p.1=q.1/\H q.2.1=some (.tup (p.1.map kV))/\RelV p.2 q.2.2) kvs xs/\
  ∃o es ep,h.get? a=some o/\o.ExactDict/\o.data= .dict es ep/\es.toList=xs.map (entryOfKey (tupleKind (jQ P w)))/\(xs.map (·.1)).Nodup
 | .set S n=>h.SetOf (intKind P w) a S n
 | .ins C dx fs=>H dx=some (.own a)/\fs.length<=1000/\dx≠a/\h.get? a=some (lQ C dx)/\
  ∃mA,h.Ns1 dx mA/\(∀f,RelO (fs.lookup f) (mA f))/\j7 mA (fs.map (·.1))
 | .own _=> ∃o,h.get? a=some o
 | .xd fs=> ∃mA,h.Ns1 a mA/\ ∀f,RelO (fs.lookup f) (mA f)
 | .rng lo hi=> ∃t u v,h.get? a=some {cls:= .type "range",data:= .fields #[.int lo t,.int hi u,.int 1 v]}
 | .frz o u=>h.get? a=some o/\ObjOk H h a u
 | .tbl ps=>h.get? a=some {cls:= .none,data:= .fields ps}
 | .met f x=>h.get? a=some (hG (.ref f) (.ref x))
 | .ext φ=>φ h/\(∃o,h.get? a=some o)/\ ∀h1 h2:M4,φ h1->(∀o,h1.get? a=some o->h2.get? a=some o)->φ h2
def HOk (H:Hp)(h:M4):Prop:= ∀a o,H a=some o->ObjOk P w H h a o
end
section
variable {P:D5}{w:T5}{H H':Hp}{h h':M4}{a:G5}{o:HO}
theorem ObjOk.lt (x:ObjOk P w H h a o):a<h.objs.size:=by
 cases o with
 |lst xs=>obtain⟨_,_,_,_,e⟩:=x;exact D0 e
 |tup xs=>obtain⟨_,_,_,p⟩:=x;exact p.tup.lt
 |dK kvs=>obtain⟨_,_,_,_,o,_,_,e,_⟩:=x;exact D0 e
 |dT kvs=>obtain⟨_,_,_,_,o,_,_,e,_⟩:=x;exact D0 e
 |set S n=>obtain⟨o,_,_,_,e,_⟩:=x;exact D0 e
 |ins C dx fs=>obtain⟨_,_,_,e,_⟩:=x;exact D0 e
 |own y=>obtain⟨_,e⟩:=x;exact D0 e
 |xd fs=>obtain⟨_,⟨_,_,_,e,_⟩,_⟩:=x;exact D0 e
 |rng lo hi=>obtain⟨_,_,_,e⟩:=x;exact D0 e
 |frz ob u=>obtain⟨e,_⟩:=x;exact D0 e
 |tbl ps=>exact D0 (show h.get? a=some _ from x)
 |met f y=>exact D0 (show h.get? a=some _ from x)
 |ext φ=>obtain⟨_,⟨_,e⟩,_⟩:=x;exact D0 e
theorem Paired.mapP {α β:Type}{F G:α->β->Prop}: ∀ {l₁:G0 α} {l₂:G0 β},Paired F l₁ l₂->(∀a b,F a b->G a b)->Paired G l₁ l₂
 |_,_,.nil,_=> .nil
 |_,_,.cons r t,f=> .cons (f _ _ r) (Paired.mapP t f)
theorem ObjOk.stay (x:ObjOk P w H h a o)(k: ∀b u,(b=a\/H b=some (.own a))->h.get? b=some u->h'.get? b=some u)
 (ho: ∀b,H b=some (.own a)->H' b=some (.own a))(ht: ∀b xs,H b=some (.tup xs)->H' b=some (.tup xs)):ObjOk P w H' h' a o:=by
 induction o with
 |lst xs=>obtain⟨z,its,n,r,e⟩:=x;exact⟨z,its,n,r,k _ _ (.inl rfl) e⟩
 |tup xs=>obtain⟨z,its,r,ob,e,c⟩:=x;exact⟨z,its,r,ob,k _ _ (.inl rfl) e,c⟩
 |dK kvs=>obtain⟨z,y,vs,r,ob,es,ep,e,c⟩:=x;exact⟨z,y,vs,r,ob,es,ep,k _ _ (.inl rfl) e,c⟩
 |dT kvs=>
  obtain⟨z,y,xs,r,ob,es,ep,e,c⟩:=x;exact⟨z,y,xs,Paired.mapP r λp q z=>⟨z.1,ht _ _ z.2.1,z.2.2⟩,ob,es,ep,k _ _ (.inl rfl) e,c⟩
 |set S n=>obtain⟨ob,es,ep,t,e,c⟩:=x;exact⟨ob,es,ep,t,k _ _ (.inl rfl) e,c⟩
 |ins C dx fs=>
  obtain⟨d,z,ne,e,mA,⟨od,es,ep,e2,c⟩,r⟩:=x;exact⟨ho _ d,z,ne,k _ _ (.inl rfl) e,mA,⟨od,es,ep,k _ _ (.inr d) e2,c⟩,r⟩
 |own y=>obtain⟨ob,e⟩:=x;exact⟨ob,k _ _ (.inl rfl) e⟩
 |xd fs=>obtain⟨mA,⟨od,es,ep,e,c⟩,r⟩:=x;exact⟨mA,⟨od,es,ep,k _ _ (.inl rfl) e,c⟩,r⟩
 |rng lo hi=>obtain⟨t,u,v,e⟩:=x;exact⟨t,u,v,k _ _ (.inl rfl) e⟩
 |frz ob u ih=>obtain⟨e,q⟩:=x;exact⟨k _ _ (.inl rfl) e,ih q⟩
 |tbl ps=>
  have e:h.get? a=some {cls:= .none,data:= .fields ps}:=x;show h'.get? a=some {cls:= .none,data:= .fields ps};exact k a _ (.inl rfl) e
 |met f y=>
  have e:h.get? a=some (hG (.ref f) (.ref y)):=x;show h'.get? a=some (hG (.ref f) (.ref y));exact k a _ (.inl rfl) e
 |ext φ=>obtain⟨p,⟨o,e⟩,st⟩:=x;exact⟨st _ _ p λo q=>k _ _ (.inl rfl) q,⟨o,k _ _ (.inl rfl) e⟩,st⟩
theorem HOk.lt (x:HOk P w H h)(e:H a=some o):a<h.objs.size:=(x a o e).lt
theorem HOk.fresh (x:HOk P w H h)(e:h.objs.size<=a):H a=none:=by
 cases q:H a with
 |none=>rfl
 |some u=>exact absurd (S0 (x.lt q) e) (N8 _)
theorem HOk.kept (x:HOk P w H h)(k: ∀b u,h.get? b=some u->h'.get? b=some u):HOk P w H h':=λa o e=>
 (x a o e).stay (λb u _ q=>k b u q) (λ_ q=>q) λ_ _ q=>q
theorem HOk.laid (x:HOk P w H h)(k: ∀b u,h.get? b=some u->h'.get? b=some u)(hp:h.objs.size<=a)(new:ObjOk P w (upd H a o) h' a o):HOk P w (upd H a o) h':=λb u e=>by
 have hn:=x.fresh hp
 by_cases hb:b=a
 ·subst hb;rw [je] at e;cases e;exact new
 ·rw [jd hb] at e;exact(x b u e).stay (λc v _ q=>k c v q) (λc q=>by rw [jd (jf q hn)];exact q) λc xs q=>by rw [jd (jf q hn)];exact q
end
def Rd (H:Hp)(a:G5)(u:HO):Prop:=H a=some u\/ ∃o,H a=some (.frz o u)
variable {P:D5}{w:T5}{h:M4}
theorem Rd.ok {u:HO}(r:Rd H a u)(x:HOk P w H h):ObjOk P w H h a u:=by
 rcases r with r|⟨o,r⟩
 ·exact x a u r
 ·obtain⟨_,q⟩:=x a _ r;exact q
def Mut:P0 HO->Prop
 |some (.lst _)=>True
 |some (.dK _)=>True
 |some (.dT _)=>True
 |some (.set _ _)=>True
 |some (.ins _ _ _)=>True
 |some (.ext _)=>True
 |_=>False
section
variable {P:D5}{w:T5}{H:Hp}{h h':M4}{x e:G5}{o':HO}
theorem HOk.write (ok:HOk P w H h)(mu:Mut (H x))(he:e=x\/H e=some (.own x))(k: ∀b u,b≠e->h.get? b=some u->h'.get? b=some u)(heo: ∃u,h'.get? e=some u)
 (new:ObjOk P w (upd H x o') h' x o'):HOk P w (upd H x o') h':=λb u q=>by
 have nown: ∀c y,H c=some (.own y)->c≠x:=λc y r z=>by subst z;rw [r] at mu;exact mu
 have ntup: ∀c xs,H c=some (.tup xs)->c≠x:=λc xs r z=>by subst z;rw [r] at mu;exact mu
 by_cases hb:b=x
 ·subst hb;rw [je] at q;cases q;exact new
 ·rw [jd hb] at q
  by_cases hbe:b=e
  ·have q':H b=some (.own x):=by
    rcases he with z|z
    ·exact absurd (hbe.trans z) hb
    ·rw [hbe];exact z
   rw [q] at q';cases q';obtain⟨v,hv⟩:=heo;exact⟨v,by rw [hbe];exact hv⟩
  ·refine(ok b u q).stay (λc v hc r=>k c v ?_ r) (λc r=>by rw [jd (nown c b r)];exact r) λc xs r=>by rw [jd (ntup c xs r)];exact r
   rcases hc with rfl|hc
   ·exact hbe
   ·rintro rfl;rcases he with z|z
    ·exact nown c b hc z
    ·rw [hc] at z;cases z;exact hb rfl
end
structure Un (fs ex:G0 G5)(H H':Hp)(h h':M4):Prop where
 keep: ∀b o,h.get? b=some o->H b=none->b ∉ fs->b ∉ ex->h'.get? b=some o
 slot: ∀b o,h.get? b=some o->H b=none->b∈fs->b ∉ ex-> ∃sl,h'.get? b=some {o with slots:=sl}
 free: ∀b o,h.get? b=some o->H b=none->b ∉ ex->H' b=none
 there: ∀b o,h.get? b=some o->b ∉ ex-> ∃o',h'.get? b=some o'
 tups: ∀b xs,H b=some (.tup xs)->H' b=some (.tup xs)
 frzs: ∀b o u,H b=some (.frz o u)->H' b=some (.frz o u)
 tbls: ∀b ps,H b=some (.tbl ps)-> ∃more,H' b=some (.tbl (ps++more))
section
variable {fs fs' ex ex':G0 G5}{H H1 H2:Hp}{h h1 h2 h':M4}{a x e:G5}{o:HO}
theorem Un.any (u:Un fs ex H H1 h h1){b:G5}{ob:Obj}(q:h.get? b=some ob)(n:H b=none)(hx:b ∉ ex): ∃sl,h1.get? b=some {ob with slots:=sl}:=by
 by_cases hb:b∈fs
 ·exact u.slot b ob q n hb hx
 ·exact⟨ob.slots,u.keep b ob q n hb hx⟩
theorem Un.kept (k: ∀b u,h.get? b=some u->h'.get? b=some u):Un fs ex H H h h':=
 ⟨λb ob q _ _ _=>k b ob q,λb ob q _ _ _=>⟨ob.slots,k b ob q⟩,λ_ _ _ n _=>n,λb ob q _=>⟨ob,k b ob q⟩,λ_ _ q=>q,λ_ _ _ q=>q,λ_ ps q=>⟨#[],by rw [q];simp⟩⟩
theorem Un.refl:Un fs ex H H h h:=Un.kept λ_ _ q=>q
theorem Un.laid (k: ∀b u,h.get? b=some u->h'.get? b=some u)(hp:h.objs.size<=a)(hn:H a=none):Un fs ex H (upd H a o) h h' where
 keep:=λb u q _ _ _=>k b u q
 slot:=λb u q _ _ _=>⟨u.slots,k b u q⟩
 free:=λb u q n _=>by rw [jd (R5 (S0 (D0 q) hp))];exact n
 there:=λb u q _=>⟨u,k b u q⟩
 tups:=λb xs q=>by rw [jd (jf q hn)];exact q
 frzs:=λb u xs q=>by rw [jd (jf q hn)];exact q
 tbls:=λb ps q=>⟨#[],by rw [jd (jf q hn),q];simp⟩
theorem Un.write (mu:Mut (H x))(he:e=x\/H e=some (.own x))(k: ∀b u,b≠e->h.get? b=some u->h'.get? b=some u)(heo: ∃u,h'.get? e=some u):Un fs ex H (upd H x o) h h':=by
 have hx: ∀b,H b=none->b≠x:=λb n z=>by subst z;rw [n] at mu;exact mu
 have hb: ∀b,H b=none->b≠e:=λb n z=>by
  subst z;rcases he with r|r
  ·exact hx b n r
  ·rw [n] at r;cases r
 have hm: ∀b u,H b=some u-> ¬Mut (some u)->b≠x:=λb u q nm z=>by subst z;rw [q] at mu;exact nm mu
 refine⟨λb u q n _ _=>k b u (hb b n) q,λb u q n _ _=>⟨u.slots,k b u (hb b n) q⟩,λb u q n _=>by rw [jd (hx b n)];exact n,λb u q _=> ?_,
  λb xs q=>by rw [jd (hm b _ q λz=>z)];exact q,λb u xs q=>by rw [jd (hm b _ q λz=>z)];exact q,λb ps q=>⟨#[],by rw [jd (hm b _ q λz=>z),q];simp⟩⟩
 by_cases hbe:b=e
 ·subst hbe;exact heo
 ·exact⟨u,k b u hbe q⟩
end
def trk (h:M4)(H:Hp):G0 G5:=(P7 h.objs.size).filter λa=>(H a).isSome
def Nj (h:M4)(H:Hp):M4:=U9 h (trk h H)
theorem Dy (h:M4)(H:Hp):(Nj h H).objs.size=h.objs.size:=xB _ _
theorem Vf {o:Obj}(e:h.get? b=some o)(n:H b=none):(Nj h H).get? b=some o:=
 U5 _ e λhm=>by
  have q:(H b).isSome=true:=(E1.mp hm).2;rw [n] at q;simp at q
theorem Fe {o:Obj}(e:(Nj h H).get? b=some o):h.get? b=some o/\H b=none:=by
 have e':h.get? b=some o:=cP (trk h H) e;refine⟨e',?_⟩;cases q:H b with
 |none=>rfl
 |some x=>
  have hm:b∈trk h H:=E1.mpr ⟨S5.mpr (D0 e'),by simp [q]⟩;have z:(Nj h H).get? b=none:=Q1 (trk h H) hm;rw [z] at e;cases e
def Ff (g h:M4)(L:G5):G0 (G5×Obj):=(P7 h.objs.size).filterMap λa=>if a=L\/(g.get? a).isSome=true then none else (h.get? a).map λo=>(a,o)
def rest (g h:M4)(L d:G5):G0 (G5×Obj):=(Ff g h L).filter λp=>decide (p.1≠d)
structure Mod (K:G3)(mg:Str->P0 G1)(base:M4):Prop where
 kin:K.In base
 glob:base.Ns mainGlobals mg
 blt: ∃mb,base.Ns fX mb/\ ∀x:Str,x≠ "__name__" ->mb x=K1 x
 nolimit:base.NoLimit
structure Cx where
 prog:D5
 w:T5
 K:G3
 mg:Str->P0 G1
 base:M4
 A:R6
 N:G0 Str
 s₀:G2
 H₀:Hp
 env:Env
 outer:G0 Env
 stack:G0 Env
 ex:G0 G5
 fn:Str->N0
 calm:N0
 pn:G0 (G5×Obj)
 xe:G1->G2->Prop
def frs (l:G0 Env):G0 G5:=l.filterMap (·.frame)
abbrev Cx.fs (X:Cx):G0 G5:=frs X.outer
def Vis (sc:H0)(x:Str):Prop:=sc.names.lookup x=some .local\/sc.names.lookup x=some .cell\/sc.names.lookup x=some .free
def Loc (sc:H0)(x:Str):Prop:=sc.names.lookup x=some .local\/sc.names.lookup x=some .cell
def KW (env:Env)(h:M4)(m:Str->P0 G1)(x:Str)(u:G1):Prop:=
 (env.kindOf x=some .local/\m x=some u)\/((env.kindOf x=some .cell\/env.kindOf x=some .free)/\ ∃c,env.cells.lookup x=some c/\h.IsCell c (some u))
structure Cx.Ok (X:Cx):Prop where
 mod:Mod X.K X.mg X.base
 kind:X.env.scope.kind= .function
 glob:X.env.globals=mainGlobals
 blt:X.env.builtins=fX
 above:X.s₀.heap.objs.size<=X.env.locals
 inj: ∀x y c,X.env.cells.lookup x=some c->X.env.cells.lookup y=some c->x=y
 has: ∀x,(X.env.kindOf x=some .cell\/X.env.kindOf x=some .free)-> ∃c,X.env.cells.lookup x=some c
 cab: ∀x c,X.fn x=true->X.env.cells.lookup x=some c->X.s₀.heap.objs.size<=c
 hd:X.calm=true->X.A.handled=none
 frames:X.A.frames=some X.stack
 stk:X.stack=X.outer\/(X.stack=X.env::X.outer/\X.env.frame=some X.env.locals)
 exf: ∀b∈X.ex,b≠X.env.locals/\ ∀x c,X.env.cells.lookup x=some c->c≠b
 bs: ∀b o,X.base.get? b=some o->X.s₀.heap.get? b=some o/\X.H₀ b=none
 bsz:X.base.objs.size<=X.s₀.heap.objs.size
 noex: ∀b o,X.base.get? b=some o->b ∉ X.ex
 exfs: ∀b∈X.ex,b ∉ X.fs
 funs:X.s₀.heap.FunFrames X.base X.outer
 frf: ∀b∈X.fs,X.H₀ b=none
structure Inv (X:Cx)(pins:G0 (G5×Obj))(σ:G0 (P0 V))(H:Hp)(s:G2):Prop where
 ok:X.Ok
 os:s.os=X.s₀.os
 bare:fQ s.gens
 base:Un X.fs X.ex X.H₀ H X.s₀.heap s.heap
 loc: ∃m,s.heap.Ns X.env.locals m/\ ∀ (i:G8) (x:Str) (v:V),X.N[i]? =some x->σ[i]? =some (some v)->Vis X.env.scope x-> ∃u,RelV v u/\KW X.env s.heap m x u
 cell: ∀x c,X.env.cells.lookup x=some c-> ∃v,s.heap.IsCell c v
 free:H X.env.locals=none
 freeC: ∀x c,X.env.cells.lookup x=some c->H c=none
 pin: ∀p∈X.pn++pins,s.heap.get? p.1=some p.2/\H p.1=none/\p.1≠X.env.locals/\p.1 ∉ X.fs/\ ∀v,p.2.data≠ .cell v
 hok:HOk X.prog X.w H s.heap
 len:σ.length=X.N.length
section
variable {X:Cx}{pins:G0 (G5×Obj)}{σ:G0 (P0 V)}{H H':Hp}{s:G2}{h':M4}
theorem Cx.Ok.nofr (ok:X.Ok){b:G5}{o:Obj}(e:X.base.get? b=some o):b ∉ X.fs:=λhb=>by
 have:=(ok.funs.mem hb).1;rw [e] at this;cases this
theorem Inv.bs (I:Inv X pins σ H s): ∀b o,X.base.get? b=some o->s.heap.get? b=some o/\H b=none:=λb o e=>
 ⟨I.base.keep b o (I.ok.bs b o e).1 (I.ok.bs b o e).2 (I.ok.nofr e) (I.ok.noex b o e),I.base.free b o (I.ok.bs b o e).1 (I.ok.bs b o e).2 (I.ok.noex b o e)⟩
theorem Inv.bk (I:Inv X pins σ H s): ∀b o,X.base.get? b=some o->s.heap.get? b=some o:=λb o e=>(I.bs b o e).1
theorem Inv.mod (I:Inv X pins σ H s):Mod X.K X.mg X.base:=I.ok.mod
theorem Inv.kIn (I:Inv X pins σ H s):X.K.In s.heap:=I.ok.mod.kin.keeps I.bk
theorem Inv.lt (I:Inv X pins σ H s):X.env.locals<s.heap.objs.size:=let ⟨_,hn,_⟩:=I.loc;hn.lt
theorem Inv.sz (I:Inv X pins σ H s):X.s₀.heap.objs.size<=s.heap.objs.size:=T9 I.ok.above (M5 I.lt)
theorem Inv.nofs (I:Inv X pins σ H s){a:G5}(h:s.heap.objs.size<=a):a ∉ X.fs:=λhb=>by
 obtain⟨_,o,ho,_⟩:=I.ok.funs.mem hb;exact absurd (S0 (D0 ho) (T9 I.sz h)) (N8 _)
theorem Inv.cne (I:Inv X pins σ H s): ∀x c,X.env.cells.lookup x=some c->c≠X.env.locals:=λx c e z=>by
 obtain⟨v,o,ho,hd⟩:=I.cell x c e;obtain⟨m,⟨o',es,ep,ho',hd',_⟩,_⟩:=I.loc;rw [z,ho'] at ho;cases ho;rw [hd'] at hd;cases hd
theorem Inv.funs (I:Inv X pins σ H s):s.heap.FunFrames X.base X.outer:=by
 have all: ∀ (l:G0 Env),(∀b∈frs l,b∈X.fs)->X.s₀.heap.FunFrames X.base l->s.heap.FunFrames X.base l:=by
  intro l
  induction l with
  |nil=>intro _ _;trivial
  |cons env r ih=>
   intro hs hl;obtain⟨hk,⟨L,o,hf,hn,ho,hd⟩,hr⟩:=hl;have hL:L∈X.fs:=hs L (by unfold frs;rw [U6,hf];exact P3);obtain⟨sl,e⟩:=I.base.slot L o ho (I.ok.frf L hL) hL λz=>I.ok.exfs L z hL
   exact⟨hk,⟨L,_,hf,hn,e,hd⟩,ih (λb hb=>hs b (by unfold frs;rw [U6,hf];exact D7 _ hb)) hr⟩
 exact all X.outer (λ_ hb=>hb) I.ok.funs
theorem Inv.stack (I:Inv X pins σ H s):s.heap.FunFrames X.base X.stack:=by
 rcases I.ok.stk with e|⟨e,hf⟩
 ·rw [e];exact I.funs
 ·rw [e];obtain⟨m,hn,_⟩:=I.loc;refine .cons (by rw [I.ok.kind];decide) hf hn ?_ I.funs;exact bJ (T9 I.ok.bsz I.ok.above)
theorem Inv.stkSub (I:Inv X pins σ H s): ∀b∈frs X.stack,b∈X.env.locals::X.fs:=λb hb=>by
 rcases I.ok.stk with e|⟨e,hf⟩
 ·rw [e] at hb;exact D7 _ hb
 ·rw [e] at hb;unfold frs at hb;rw [U6,hf] at hb;exact hb
theorem Inv.stkFree (I:Inv X pins σ H s): ∀b∈frs X.stack,H b=none:=λb hb=>by
 rcases P9.mp (I.stkSub b hb) with e|hb
 ·rw [e];exact I.free
 ·obtain⟨_,o,ho,_⟩:=I.ok.funs.mem hb;exact I.base.free b o ho (I.ok.frf b hb) λz=>I.ok.exfs b z hb
variable {t':G8}
theorem Inv.step {g':M1 GenState}{d':Drawn}{ch:G0 G5}(I:Inv X pins σ H s)
 (hch: ∀b∈ch,(b∈X.ex\/X.s₀.heap.objs.size<=b)/\b≠X.env.locals/\(∀x c,X.env.cells.lookup x=some c->c≠b)/\ ∀p∈X.pn++pins,p.1≠b)
 (keep: ∀b o,b≠X.env.locals->b ∉ X.fs->b ∉ ch->s.heap.get? b=some o->H b=none->h'.get? b=some o)
 (slot: ∀b o,b≠X.env.locals->b∈X.fs->b ∉ ch->s.heap.get? b=some o->H b=none-> ∃sl,h'.get? b=some {o with slots:=sl})(free: ∀b o,b ∉ ch->s.heap.get? b=some o->H b=none->H' b=none)
 (there: ∀b o,b ∉ ch->s.heap.get? b=some o-> ∃o',h'.get? b=some o')
 (tups: ∀b xs,H b=some (.tup xs)->H' b=some (.tup xs))(frzs: ∀b o u,H b=some (.frz o u)->H' b=some (.frz o u))(tbls: ∀b ps,H b=some (.tbl ps)-> ∃more,H' b=some (.tbl (ps++more)))
 (ns: ∀m,s.heap.Ns X.env.locals m->h'.Ns X.env.locals m)(hok:HOk X.prog X.w H' h')(hg:fQ g'):
 Inv X pins σ H' {s with heap:=h',gens:=g',drawn:=d',toks:=t'}:=by
 have neL: ∀b o,X.s₀.heap.get? b=some o->b≠X.env.locals:=λb o e=>R5 (S0 (D0 e) I.ok.above)
 have neC: ∀b o,X.s₀.heap.get? b=some o->b ∉ X.ex->b ∉ ch:=λb o e hx hb=>by
  rcases (hch b hb).1 with z|z
  ·exact hx z
  ·exact absurd (S0 (D0 e) z) (N8 _)
 have cellK: ∀x c,X.env.cells.lookup x=some c-> ∀v,s.heap.IsCell c v->h'.IsCell c v:=λx c e v ⟨o,ho,hd⟩=>by
  have nch:c ∉ ch:=λz=>(hch c z).2.2.1 x c e rfl
  by_cases hc:c∈X.fs
  ·obtain⟨sl,q⟩:=slot c o (I.cne x c e) hc nch ho (I.freeC x c e);exact⟨_,q,hd⟩
  ·exact⟨o,keep c o (I.cne x c e) hc nch ho (I.freeC x c e),hd⟩
 refine⟨I.ok,I.os,hg,⟨λb o e n hb hx=> ?_,λb o e n hb hx=> ?_,λb o e n hx=> ?_,λb o e hx=> ?_,λb xs e=>tups b xs (I.base.tups b xs e),λb o xs e=>frzs b o xs (I.base.frzs b o xs e),λb ps e=> ?_⟩,?_,λx c e=> ?_,?_,λx c e=> ?_,λp hp=> ?_,hok,I.len⟩
 ·exact keep b o (neL b o e) hb (neC b o e hx) (I.base.keep b o e n hb hx) (I.base.free b o e n hx)
 ·obtain⟨sl,e1⟩:=I.base.slot b o e n hb hx;obtain⟨sl',e2⟩:=slot b _ (neL b o e) hb (neC b o e hx) e1 (I.base.free b o e n hx);exact⟨sl',e2⟩
 ·obtain⟨o',e1⟩:=I.base.there b o e hx;exact free b o' (neC b o e hx) e1 (I.base.free b o e n hx)
 ·obtain⟨o',e1⟩:=I.base.there b o e hx;exact there b o' (neC b o e hx) e1
 ·obtain⟨m1,e1⟩:=I.base.tbls b ps e;obtain⟨m2,e2⟩:=tbls b _ e1;exact⟨m1++m2,by rw [e2,Array.append_assoc]⟩
 ·obtain⟨m,hn,hl⟩:=I.loc;refine⟨m,ns m hn,λi x v e1 e2 e3=> ?_⟩;obtain⟨u,r,l⟩:=hl i x v e1 e2 e3;refine⟨u,r,?_⟩;rcases l with l|⟨k,c,e,z⟩
  ·exact .inl l
  ·exact .inr ⟨k,c,e,cellK x c e _ z⟩
 ·obtain⟨v,z⟩:=I.cell x c e;exact⟨v,cellK x c e v z⟩
 ·obtain⟨m,⟨o,_,_,ho,_⟩,_⟩:=I.loc;exact free _ o (λz=>(hch _ z).2.1 rfl) ho I.free
 ·obtain⟨v,o,ho,hd⟩:=I.cell x c e;exact free c o (λz=>(hch c z).2.2.1 x c e rfl) ho (I.freeC x c e)
 ·obtain⟨e,n,ne,nf,d⟩:=I.pin p hp;have nch:p.1 ∉ ch:=λz=>(hch p.1 z).2.2.2 p hp rfl
  exact⟨keep p.1 p.2 ne nf nch e n,free p.1 p.2 nch e n,ne,nf,d⟩
theorem Inv.un (I:Inv X pins σ H s)(u:Un X.fs [] H H' s.heap h')(hok:HOk X.prog X.w H' h'):Inv X pins σ H' {s with heap:=h',toks:=t'}:=by
 obtain⟨m,⟨o,es,ep,ho,r⟩,_⟩:=id I.loc;obtain⟨sl,hL⟩:=u.any ho I.free (by simp);exact I.step (g':=s.gens) (d':=s.drawn) (ch:= []) (λ_ z=>nomatch z) (λb o _ hb _ e n=>u.keep b o e n hb (by simp)) (λb o _ hb _ e n=>u.slot b o e n hb (by simp)) (λb o _ e n=>u.free b o e n (by simp)) (λb o _ e=>u.there b o e (by simp)) u.tups u.frzs u.tbls (λm' hm=>by
  obtain⟨o',es',ep',ho',r'⟩:=hm;rw [ho] at ho';cases ho';exact⟨_,es',ep',hL,r'⟩) hok I.bare
theorem Inv.call {g':M1 GenState}{d':Drawn}{ch:G0 G5}(I:Inv X pins σ H s)(u:Un (frs X.stack) ch H H' s.heap h')(hok:HOk X.prog X.w H' h')(hg:fQ g')
 (hch: ∀b∈ch,(b∈X.ex\/X.s₀.heap.objs.size<=b)/\b≠X.env.locals/\(∀x c,X.env.cells.lookup x=some c->c≠b)/\ ∀p∈X.pn++pins,p.1≠b):
 Inv X pins σ H' {s with heap:=h',gens:=g',drawn:=d',toks:=t'}:=by
 obtain⟨m,⟨o,es,ep,ho,r⟩,_⟩:=id I.loc;obtain⟨sl,hL⟩:=u.any ho I.free λz=>(hch _ z).2.1 rfl
 exact I.step (ch:=ch) hch (λb o hL hb hc e n=>u.keep b o e n (λz=>(P9.mp (I.stkSub b z)).elim hL hb) hc) (λb o _ _ hc e n=>u.any e n hc) (λb o hc e n=>u.free b o e n hc) (λb o hc e=>u.there b o e hc) u.tups u.frzs u.tbls (λm' hm=>by
  obtain⟨o',es',ep',ho',r'⟩:=hm;rw [ho] at ho';cases ho';exact⟨_,es',ep',hL,r'⟩) hok hg
theorem Inv.turned {it:G5}(I:Inv X pins σ H s)(k: ∀b o,b≠it->s.heap.get? b=some o->h'.get? b=some o)(hn:H it=none)(hL:it≠X.env.locals)
 (h1:it∈X.ex\/X.s₀.heap.objs.size<=it)(h2: ∀x c,X.env.cells.lookup x=some c->c≠it)(h3: ∀p∈X.pn++pins,p.1≠it):Inv X pins σ H {s with heap:=h',toks:=t'}:=by
 have nit: ∀b u,H b=some u->b≠it:=λb u e z=>by rw [z,hn] at e;cases e
 refine I.step (g':=s.gens) (d':=s.drawn) (ch:= [it]) (λb hb=> ?_) (λb o _ _ hc e _=>k b o (λz=>hc (by simp [z])) e) (λb o _ _ hc e _=>⟨o.slots,k b o (λz=>hc (by simp [z])) e⟩) (λ_ _ _ _ n=>n)
  (λb o hc e=>⟨o,k b o (λz=>hc (by simp [z])) e⟩) (λ_ _ e=>e) (λ_ _ _ e=>e) (λb ps e=>⟨#[],by rw [e];simp⟩) (λm hm=> ?_) (λb u e=> ?_) I.bare
 ·have e:b=it:=by simpa using hb
  subst e;exact⟨h1,hL,h2,h3⟩
 ·obtain⟨o,es,ep,ho,r⟩:=hm;exact⟨o,es,ep,k _ o (O0 hL) ho,r⟩
 ·refine(I.hok b u e).stay (λc v hc q=>k c v ?_ q) (λ_ q=>q) λ_ _ q=>q
  rcases hc with z|z
  ·rw [z];exact nit b u e
  ·exact nit c _ z
theorem Inv.tok (I:Inv X pins σ H s)(t:G8):Inv X pins σ H {s with toks:=t}:=I.un (h':=s.heap) (t':=t) Un.refl I.hok
theorem Inv.kept (I:Inv X pins σ H s)(k: ∀b u,s.heap.get? b=some u->h'.get? b=some u):Inv X pins σ H {s with heap:=h',toks:=t'}:=I.un (Un.kept k) (I.hok.kept k)
theorem Inv.laid {a:G5}{o:HO}(I:Inv X pins σ H s)(k: ∀b u,s.heap.get? b=some u->h'.get? b=some u)(hp:s.heap.objs.size<=a)(new:ObjOk X.prog X.w (upd H a o) h' a o):
 Inv X pins σ (upd H a o) {s with heap:=h',toks:=t'}:=I.un (Un.laid k hp (I.hok.fresh hp)) (I.hok.laid k hp new)
theorem Inv.write {x e:G5}{o:HO}(I:Inv X pins σ H s)(mu:Mut (H x))(he:e=x\/H e=some (.own x))(k: ∀b u,b≠e->s.heap.get? b=some u->h'.get? b=some u)(heo: ∃u,h'.get? e=some u)
 (new:ObjOk X.prog X.w (upd H x o) h' x o):Inv X pins σ (upd H x o) {s with heap:=h',toks:=t'}:=I.un (Un.write mu he k heo) (I.hok.write mu he k heo new)
theorem Inv.weak {σ':G0 (P0 V)}(I:Inv X pins σ H s)(hl:σ'.length=σ.length)(w: ∀ (i:G8) v,σ'[i]? =some (some v)->σ[i]? =some (some v)):Inv X pins σ' H s:=
 ⟨I.ok,I.os,I.bare,I.base,let ⟨m,hn,hl'⟩:=I.loc;⟨m,hn,λi x v e1 e2 e3=>hl' i x v e1 (w i v e2) e3⟩,I.cell,I.free,I.freeC,I.pin,I.hok,hl.trans I.len⟩
theorem Inv.pins_of {pins':G0 (G5×Obj)}(I:Inv X pins σ H s)(h: ∀p∈pins',s.heap.get? p.1=some p.2/\H p.1=none/\p.1≠X.env.locals/\p.1 ∉ X.fs/\ ∀v,p.2.data≠ .cell v):Inv X pins' σ H s:=
 ⟨I.ok,I.os,I.bare,I.base,I.loc,I.cell,I.free,I.freeC,λp hp=>(T4.mp hp).elim (λz=>I.pin p (T6 _ z)) (h p),I.hok,I.len⟩
theorem Vg {N:G0 Str}(hN:N.Nodup){i j:G8}{x:Str}(a:N[i]? =some x)(b:N[j]? =some x):i=j:=by
 obtain⟨h1,e1⟩:=R0.mp a;obtain⟨h2,e2⟩:=R0.mp b;exact(List.getElem_inj hN).mp (e1.trans e2.symm)
theorem Dz {M:cC}{A:R6}{E:G1->G2->Prop}{i:G8}{x:Str}{v:V}{u:G1}{Q:Unit->G2->Prop}(I:Inv X pins σ H s)(hN:X.N.Nodup)(hi:X.N[i]? =some x)(hx:Loc X.env.scope x)(r:RelV v u)
 (h: ∀s',Inv X pins (σ.set i (some v)) H s'->(∃a,A5 a s.heap s'.heap/\(a=X.env.locals\/X.env.cells.lookup x=some a))->Q () s')(hf:X.fn x=true\/X.env.scope.names.lookup x=some .local:=by first|exact .inl rfl|exact .inr rfl|assumption):D1 M A (storeName X.env x u) Q E s:=by
 obtain⟨m,hn,hl⟩:=id I.loc;have hcls:(X.env.scope.kind== .class||(X.env.scope.kind== .module&&X.env.locals !=X.env.globals))=false:=by rw [I.ok.kind];rfl
 have hiσ:i<σ.length:=by rw [I.len];exact(R0.mp hi).1
 have cne:=I.cne;have tracked: ∀ {a:G5} {h':M4},(∃o,s.heap.get? a=some o/\H a=none)->A5 a s.heap h'->HOk X.prog X.w H h':=λ{a h'} ha hs b ob e=>by
  obtain⟨_,_,hfree⟩:=ha;refine(I.hok b ob e).stay (λc w' hc q=>(hs.2 c ?_).trans q) (λ_ q=>q) λ_ _ q=>q
  rintro rfl;rcases hc with rfl|hc
  ·rw [hfree] at e;cases e
  ·rw [hfree] at hc;cases hc
 rcases hx with hk|hk
 ·refine wpAny_storeName_local hk hn (λh' hn' hs=> ?_) hcls;obtain⟨oL,_,_,hoL,_⟩:=id hn;refine h _ ⟨I.ok,I.os,I.bare,⟨λb o e n hb hx=> ?_,λb o e n hb hx=> ?_,I.base.free,λb o e hx=> ?_,I.base.tups,I.base.frzs,I.base.tbls⟩,⟨_,hn',λj y v' e1 e2 e3=> ?_⟩,λy c e=> ?_,I.free,I.freeC,λp hp=> ?_,tracked ⟨oL,hoL,I.free⟩ hs,by simpa using I.len⟩ ⟨_,hs,.inl rfl⟩
  ·exact(hs.2 b (R5 (S0 (D0 e) I.ok.above))).trans (I.base.keep b o e n hb hx)
  ·obtain⟨sl,e1⟩:=I.base.slot b o e n hb hx;exact⟨sl,(hs.2 b (R5 (S0 (D0 e) I.ok.above))).trans e1⟩
  ·obtain⟨o',e1⟩:=I.base.there b o e hx;exact⟨o',(hs.2 b (R5 (S0 (D0 e) I.ok.above))).trans e1⟩
  ·by_cases hj:j=i
   ·subst hj;rw [hi] at e1;cases e1;rw [aK hiσ] at e2;cases e2;exact⟨u,r,.inl ⟨hk,by simp⟩⟩
   ·rw [J5 (O0 hj)] at e2;obtain⟨u',r',q⟩:=hl j y v' e1 e2 e3;refine⟨u',r',?_⟩;rcases q with ⟨k,e⟩|⟨k,c,e,z⟩
    ·refine .inl ⟨k,?_⟩;have:y≠x:=λe=>hj (Vg hN e1 (e ▸ hi))
     simp [this,e]
    ·exact .inr ⟨k,c,e,z.sameBut hs (cne y c e)⟩
  ·obtain⟨w',z⟩:=I.cell y c e;exact⟨w',z.sameBut hs (cne y c e)⟩
  ·obtain⟨e,n,ne,nf,d⟩:=I.pin p hp;exact⟨(hs.2 p.1 ne).trans e,n,ne,nf,d⟩
 ·have hfn:X.fn x=true:=by
   rcases hf with z|z
   ·exact z
   ·rw [z] at hk;cases hk
  obtain⟨c,hc⟩:=I.ok.has x (.inl hk);obtain⟨w',z⟩:=I.cell x c hc;refine wpAny_storeName_cell I.ok.kind hk hc z (λh' hc' hs=> ?_);obtain⟨oc,hoc,hocd⟩:=id z;refine h {s with heap:=h'} ⟨I.ok,I.os,I.bare,⟨λb o e n hb hx=> ?_,λb o e n hb hx=> ?_,I.base.free,λb o e hx=> ?_,I.base.tups,I.base.frzs,I.base.tbls⟩,⟨m,hn.sameBut hs (O0 (cne x c hc)),λj y v' e1 e2 e3=> ?_⟩,λy c' e=> ?_,I.free,I.freeC,λp hp=> ?_,tracked ⟨oc,hoc,I.freeC x c hc⟩ hs,by simpa using I.len⟩ ⟨c,hs,.inr hc⟩
  ·exact(hs.2 b (R5 (S0 (D0 e) (I.ok.cab x c hfn hc)))).trans (I.base.keep b o e n hb hx)
  ·obtain⟨sl,e1⟩:=I.base.slot b o e n hb hx;exact⟨sl,(hs.2 b (R5 (S0 (D0 e) (I.ok.cab x c hfn hc)))).trans e1⟩
  ·obtain⟨o',e1⟩:=I.base.there b o e hx;exact⟨o',(hs.2 b (R5 (S0 (D0 e) (I.ok.cab x c hfn hc)))).trans e1⟩
  ·by_cases hj:j=i
   ·subst hj;rw [hi] at e1;cases e1;rw [aK hiσ] at e2;cases e2;exact⟨u,r,.inr ⟨.inl hk,c,hc,hc'⟩⟩
   ·rw [J5 (O0 hj)] at e2;obtain⟨u',r',q⟩:=hl j y v' e1 e2 e3;refine⟨u',r',?_⟩;rcases q with q|⟨k,c',e,z'⟩
    ·exact .inl q
    ·refine .inr ⟨k,c',e,z'.sameBut hs ?_⟩;rintro rfl;exact hj (Vg hN e1 (I.ok.inj _ _ _ e hc ▸ hi))
  ·by_cases hcc:c'=c
   ·subst hcc;exact⟨_,hc'⟩
   ·obtain⟨w2,z2⟩:=I.cell y c' e;exact⟨w2,z2.sameBut hs hcc⟩
  ·obtain⟨e,n,ne,nf,d⟩:=I.pin p hp;refine⟨(hs.2 p.1 ?_).trans e,n,ne,nf,d⟩;intro q;rw [q,hoc] at e;have q':oc=p.2:=L7 e;exact d w' (by rw [<-q'];exact hocd)
theorem yu {M:cC}{A:R6}{E:G1->G2->Prop}{i:G8}{x:Str}{v:V}{u:G1}{Q:Unit->G2->Prop}(I:Inv X pins σ H s)(hN:X.N.Nodup)(hi:X.N[i]? =some x)(hx:Loc X.env.scope x)(r:RelV v u)
 (h: ∀s',Inv X pins (σ.set i (some v)) H s'->Q () s')(hf:X.fn x=true\/X.env.scope.names.lookup x=some .local:=by first|exact .inl rfl|exact .inr rfl|assumption):D1 M A (storeName X.env x u) Q E s:=
 Dz I hN hi hx r (λs' I' _=>h s' I') hf
theorem Inv.call' {s':G2}{ch:G0 G5}(I:Inv X pins σ H s)(ho:s'.os=s.os)(u:Un (frs X.stack) ch H H' s.heap s'.heap)(hok:HOk X.prog X.w H' s'.heap)(hg:fQ s'.gens)
 (hch: ∀b∈ch,(b∈X.ex\/X.s₀.heap.objs.size<=b)/\b≠X.env.locals/\(∀x c,X.env.cells.lookup x=some c->c≠b)/\ ∀p∈X.pn++pins,p.1≠b):Inv X pins σ H' s':=by
 obtain⟨h',g',d',t',o'⟩:=s';have e:o'=s.os:=ho;subst e;exact I.call (g':=g') (t':=t') (d':=d') u hok hg hch
end
abbrev XK:=G1->P0 G5->Hp->Prop
abbrev St:=G0 (P0 V)
abbrev VK:=V->Hp->Prop
abbrev TE:=St->Hp->VK->Prop
abbrev TT:=St->Hp->(N0->Hp->Prop)->Prop
abbrev TA:=St->Hp->(G0 V->Hp->Prop)->Prop
structure Ends where
 nx:St->Hp->Prop
 rt:VK
 bk:St->Hp->Prop:=λ_ _=>False
 ct:St->Hp->Prop:=λ_ _=>False
abbrev TS:=Ends->St->Hp->Prop
def EP (X:Cx)(pins:G0 (G5×Obj))(σ:St)(Q:VK)(u:G1)(s':G2):Prop:= ∃v H',Inv X pins σ H' s'/\RelV v u/\Q v H'
def TP (X:Cx)(pins:G0 (G5×Obj))(σ:St)(Q:N0->Hp->Prop)(b:N0)(s':G2):Prop:= ∃H',Inv X pins σ H' s'/\Q b H'
def AP (X:Cx)(pins:G0 (G5×Obj))(σ:St)(Q:G0 V->Hp->Prop)(us:G0 G1)(s':G2):Prop:= ∃vs H',Inv X pins σ H' s'/\Vals vs us/\Q vs H'
def SP (X:Cx)(pins:G0 (G5×Obj))(D:Ends)(f:Flow)(s':G2):Prop:=
 match f with
 | .next=> ∃σ' H',Inv X pins σ' H' s'/\D.nx σ' H'
 | .brk=> ∃σ' H',Inv X pins σ' H' s'/\D.bk σ' H'
 | .cont=> ∃σ' H',Inv X pins σ' H' s'/\D.ct σ' H'
 | .ret u=> ∃v σ' H',Inv X pins σ' H' s'/\RelV v u/\D.rt v H'
def PE (X:Cx)(e:S6)(t:TE):Prop:=
 ∀ (pins:G0 (G5×Obj)) (s:G2) (σ:St) (H:Hp) (Q:VK),Inv X pins σ H s->t σ H Q->D1 (D3 X.prog X.w) X.A (C8 e X.env) (EP X pins σ Q) X.xe s
def PT (X:Cx)(e:S6)(t:TT):Prop:=
 ∀ (pins:G0 (G5×Obj)) (s:G2) (σ:St) (H:Hp) (Q:N0->Hp->Prop),Inv X pins σ H s->t σ H Q->D1 (D3 X.prog X.w) X.A (isTrue e X.env (C8 e X.env)) (TP X pins σ Q) X.xe s
def PW (X:Cx)(e:S6)(t:TT):Prop:=
 ∀ (whole:Sem G1) (pins:G0 (G5×Obj)) (s:G2) (σ:St) (H:Hp) (Q:N0->Hp->Prop),Inv X pins σ H s->t σ H Q->D1 (D3 X.prog X.w) X.A (isTrue e X.env whole) (TP X pins σ Q) X.xe s
variable {X:Cx}
theorem PW.pt {e:S6}{t:TT}(h:PW X e t):PT X e t:=h _
def PA (X:Cx)(es:G0 S6)(t:TA):Prop:=
 ∀ (pos:Pos) (pins:G0 (G5×Obj)) (s:G2) (σ:St) (H:Hp) (Q:G0 V->Hp->Prop),Inv X pins σ H s->t σ H Q->D1 (D3 X.prog X.w) X.A (uS (F7 pos (P5 es X.env))) (AP X pins σ Q) X.xe s
def PS (X:Cx)(st:C5)(t:TS):Prop:=
 ∀ (pins:G0 (G5×Obj)) (s:G2) (σ:St) (H:Hp) (D:Ends),Inv X pins σ H s->t D σ H->D1 (D3 X.prog X.w) X.A (exec st X.env) (SP X pins D) X.xe s
def PSs (X:Cx)(st:G0 C5)(t:TS):Prop:=
 ∀ (pins:G0 (G5×Obj)) (s:G2) (σ:St) (H:Hp) (D:Ends),Inv X pins σ H s->t D σ H->D1 (D3 X.prog X.w) X.A (execs st X.env) (SP X pins D) X.xe s
variable {A:R6}{s:G2}
theorem thn {α:Type}{t:Sem α}{Q Q':α->G2->Prop}{M:cC}{E:G1->G2->Prop}(h:D1 M A t Q E s)(hQ: ∀a s,Q a s->Q' a s):D1 M A t Q' E s:=R7 h hQ λ_ _ x=>x
section
variable {X:Cx}
def Ka (i:G8):TE:=λσ H Q=> ∃v,σ[i]? =some (some v)/\Q v H
def tC (v:V):TE:=λ_ H Q=>Q v H
variable {x:Str}
theorem Uq {i:G8}{pos:Pos}(hN:X.N[i]? =some x)(hv:Vis X.env.scope x)(hd:(x==("__debug__" :Str))=false:=by decide)(hcd:(x==("__classdict__" :Str))=false:=by decide):PE X (.Name x pos) (Ka i):=by
 intro pins s σ H Q I h;obtain⟨v,e,h⟩:=h;obtain⟨m,hn,hl⟩:=I.loc;obtain⟨u,r,l⟩:=hl i x v hN e hv;have fin:EP X pins σ Q u s:=⟨v,H,I,r,h⟩;rcases l with ⟨hk,hm⟩|⟨hk,c,hc,hcell⟩
 ·exact nZ (mE I.ok.kind hk hn hm fin) hd
 ·rcases hk with hk|hk
  ·exact nZ (wpAny_loadName_cell I.ok.kind hk hc hcell fin) hd
  ·exact nZ (wpAny_loadName_free I.ok.kind hk hc hcell fin hcd) hd
theorem pe_int {i j pos}:PE X (.Constant (.int i) j pos) (tC (.int i)):=λ_ _ _ H _ I h=>wpAny_Constant_int ⟨.int i,H,I.tok _,⟨_,rfl⟩,h⟩
theorem pe_bl {b j pos}:PE X (.Constant (.bool b) j pos) (tC (.bl b)):=λ_ _ _ H _ I h=>Constant_bool ⟨.bl b,H,I,rfl,h⟩
theorem pe_non {j pos}:PE X (.Constant .none j pos) (tC .non):=λ_ _ _ H _ I h=>Constant_none ⟨.non,H,I,rfl,h⟩
theorem pe_str {x j pos}:PE X (.Constant (.str x) j pos) (tC (.str x)):=λ_ _ _ H _ I h=>Calls.Constant_str ⟨.str x,H,I.tok _,⟨_,rfl⟩,h⟩
def Gl (X:Cx)(x:Str):Prop:=X.env.kindOf x=some .globalImplicit
variable {u:G1}
theorem vP {E:G1->G2->Prop}{pins:G0 (G5×Obj)}{s:G2}{σ:St}{H:Hp}{pos:Pos}{Q:G1->G2->Prop}(I:Inv X pins σ H s)(hg:Gl X x)(hm:X.mg x=some u)(h:Q u s)
 (hd:(x==("__debug__" :Str))=false:=by decide):D1 (D3 X.prog X.w) X.A (C8 (.Name x pos) X.env) Q E s:=
 fY I.ok.kind hg (Calls.loadGlobal_global (by rw [I.ok.glob];exact I.mod.glob.keeps I.bk) hm h) hd
theorem YJ {E:G1->G2->Prop}{pins:G0 (G5×Obj)}{s:G2}{σ:St}{H:Hp}{pos:Pos}{Q:G1->G2->Prop}(I:Inv X pins σ H s)(hg:Gl X x)(hm:X.mg x=none)(hv:K1 x=some u)(h:Q u s)
 (hn:x≠ "__name__" :=by decide)(hd:(x==("__debug__" :Str))=false:=by decide):D1 (D3 X.prog X.w) X.A (C8 (.Name x pos) X.env) Q E s:=by
 obtain⟨mb,h1,h2⟩:=I.mod.blt;exact fY I.ok.kind hg (Calls.loadGlobal_builtin (by rw [I.ok.glob];exact I.mod.glob.keeps I.bk) hm (by rw [I.ok.blt];exact h1.keeps I.bk) ((h2 x hn).trans hv) h) hd
theorem DA {v:V}{pos:Pos}(hg:Gl X x)(hm:X.mg x=some u)(r:RelV v u)(hd:(x==("__debug__" :Str))=false:=by decide):PE X (.Name x pos) (tC v):=
 λ_ _ _ H _ I h=>vP I hg hm ⟨v,H,I,r,h⟩ hd
theorem DB {v:V}{pos:Pos}(hg:Gl X x)(hm:X.mg x=none)(hv:K1 x=some u)(r:RelV v u)(hn:x≠ "__name__" :=by decide)(hd:(x==("__debug__" :Str))=false:=by decide):PE X (.Name x pos) (tC v):=
 λ_ _ _ H _ I h=>YJ I hg hm hv ⟨v,H,I,r,h⟩ hn hd
variable {a b:S6}{ta tb:TE}{pos:Pos}
def tB (t:TE):TT:=λσ H Q=>t σ H λx H1=> ∃c,x= .bl c/\Q c H1
theorem Ab {e:S6}{t:TE}(h:PE X e t)(he: ∀whole,isTrue e X.env whole=(do let v <-whole;hO e.pos;Z6 [v] (y8 v)):=by intro _;rfl):PT X e (tB t):=by
 intro pins s σ H Q I hw;refine isTrue_plain (thn (h pins s σ H _ I hw) λv s1 ⟨x,H1,I1,r1,q1⟩=> ?_) (he _);obtain⟨d,rfl,q⟩:=q1;cases r1;exact E7 ⟨H1,I1,q⟩
variable {tA tB':TT}{rest:G0 S6}
def tOr (t u:TT):TT:=λσ H Q=>t σ H λc H1=>if c=true then Q true H1 else u σ H1 Q
def Kb (t:TT):TT:=λσ H Q=>t σ H λc H1=>Q (!c) H1
theorem Ac (ha:PT X a tA):PW X (.BoolOp .Or [a] pos) tA:=by
 intro wh pins s σ H Q I h;refine isTrue_or (thn (ha pins s σ H Q I h) λc s1 e=> ?_);cases c with
 |false=>exact isTrue_or_nil e
 |true=>exact e
theorem Tl (ha:PT X a tA)(hb:PW X (.BoolOp .Or (b::rest) pos) tB'):PW X (.BoolOp .Or (a::b::rest) pos) (tOr tA tB'):=by
 intro wh pins s σ H Q I h;refine isTrue_or (thn (ha pins s σ H _ I h) λc s1 ⟨H1,I1,q1⟩=> ?_);cases c with
 |true=>exact⟨H1,I1,q1⟩
 |false=>exact hb wh pins s1 σ H1 Q I1 q1
theorem Ad (ha:PT X a tA):PT X (.UnaryOp .Not a pos) (Kb tA):=by
 intro pins s σ H Q I h;exact isTrue_not (ha pins s σ H (λc H1=>Q (!c) H1) I h)
def Ae (ta tb:TE):TE:=λσ H Q=>ta σ H λx H1=> ∃c,x= .bl c/\if c=true then tb σ H1 Q else Q (.bl false) H1
def Kc (ta tb:TE):TE:=λσ H Q=>ta σ H λx H1=> ∃c,x= .bl c/\if c=true then Q (.bl true) H1 else tb σ H1 Q
def Af (ta:TE):TE:=λσ H Q=>ta σ H λx H1=> ∃c,x= .bl c/\Q (.bl (!c)) H1
theorem Ag {op}{t:TE}(h:PE X a t):PE X (.BoolOp op [a] pos) t:=λpins s σ H Q I hw=>BoolOp_one (h pins s σ H Q I hw)
theorem Ah (ha:PE X a ta)(hb:PE X (.BoolOp .And (b::rest) pos) tb):PE X (.BoolOp .And (a::b::rest) pos) (Ae ta tb):=by
 intro pins s σ H Q I h;refine BoolOp_and (thn (ha pins s σ H _ I h) λv s1 ⟨x,H1,I1,r1,q1⟩=> ?_);obtain⟨c,rfl,q1⟩:=q1;cases r1;refine E7 ?_;cases c with
 |true=>exact hb pins s1 σ H1 Q I1 q1
 |false=>exact⟨.bl false,H1,I1,rfl,q1⟩
theorem Tm (ha:PE X a ta)(hb:PE X (.BoolOp .Or (b::rest) pos) tb):PE X (.BoolOp .Or (a::b::rest) pos) (Kc ta tb):=by
 intro pins s σ H Q I h;refine BoolOp_or (thn (ha pins s σ H _ I h) λv s1 ⟨x,H1,I1,r1,q1⟩=> ?_);obtain⟨c,rfl,q1⟩:=q1;cases r1;refine E7 ?_;cases c with
 |false=>exact hb pins s1 σ H1 Q I1 q1
 |true=>exact⟨.bl true,H1,I1,rfl,q1⟩
theorem Ai (ha:PE X a ta):PE X (.UnaryOp .Not a pos) (Af ta):=by
 intro pins s σ H Q I h;refine UnaryOp_ (thn (ha pins s σ H _ I h) λv s1 ⟨x,H1,I1,r1,q1⟩=> ?_);obtain⟨c,rfl,q1⟩:=q1;cases r1;exact not_of (E7 ⟨.bl (!c),H1,I1,rfl,q1⟩)
def tIf (t:TT)(ta tb:TE):TE:=λσ H Q=>t σ H λc H1=>if c=true then ta σ H1 Q else tb σ H1 Q
theorem Nk {c:S6}(hc:PT X c tA)(ha:PE X a ta)(hb:PE X b tb):PE X (.IfExp c a b pos) (tIf tA ta tb):=by
 intro pins s σ H Q I h;refine wpAny_IfExp (thn (hc pins s σ H _ I h) λd s1 ⟨H1,I1,q1⟩=> ?_);cases d with
 |true=>exact ha pins s1 σ H1 Q I1 q1
 |false=>exact hb pins s1 σ H1 Q I1 q1
end
def SqL (K:G3)(H:Hp)(a:G5)(xs:G0 V):Prop:=
 Rd H a (.lst xs)\/
  ∃ (o:Obj) (its:M1 G1) (n:G8),K.lookup a=some o/\o.cls= .type "list" /\o.dict=none/\o.data= .seq its n/\its.size<=sizeLine/\Vals xs its.toList
def SqT (K:G3)(H:Hp)(a:G5)(xs:G0 V):Prop:=
 Rd H a (.tup xs)\/
  ∃ (o:Obj) (its:M1 G1) (n:G8),K.lookup a=some o/\o.cls= .type "tuple" /\o.data= .seq its n/\its.size<=sizeLine/\Vals xs its.toList
def KY:G1->P0 V
 | .none=>some .non
 | .bool b=>some (.bl b)
 | .int i _=>some (.int i)
 | .str x _=>some (.str x)
 | .bytes b _=>some (.byt b)
 | .float b _=>some (.flt b)
 | .ref a=>some (.ref a)
 | .type n=>some (.ty n)
 |_=>none
theorem RelV.abs {x:V}(r:RelV x u):KY u=some x:=by
 cases x with
 |non=>cases r;rfl
 |bl _=>cases r;rfl
 |int _=>obtain⟨t,rfl⟩:=r;rfl
 |str _=>obtain⟨t,rfl⟩:=r;rfl
 |byt _=>obtain⟨t,rfl⟩:=r;rfl
 |flt _=>obtain⟨t,rfl⟩:=r;rfl
 |ref _=>cases r;rfl
 |ty _=>cases r;rfl
theorem RelV.inj {x y:V}(r:RelV x u)(q:RelV y u):x=y:=L7 (r.abs.symm.trans q.abs)
theorem Vals.inj: ∀ {xs ys:G0 V} {us:G0 G1},Vals xs us->Vals ys us->xs=ys
 |_,_,_,.nil,.nil=>rfl
 |_,_,_,.cons r t,.cons r' t'=>by rw [r.inj r',Vals.inj t t']
section
variable {X:Cx}{pins:G0 (G5×Obj)}{σ:St}{H:Hp}{s:G2}{a:G5}{xs ys:G0 V}
theorem SqL.of {K:G3}(h:H a=some (.lst xs)):SqL K H a xs:= .inl (.inl h)
theorem SqT.of {K:G3}(h:H a=some (.tup xs)):SqT K H a xs:= .inl (.inl h)
theorem Inv.list (I:Inv X pins σ H s)(h:SqL X.K H a xs): ∃its:G0 G1,Vals xs its/\PlainL s.heap a its.toArray/\xs.length<=sizeLine:=by
 rcases h with h|⟨o,its,n,hk,hc,hd,hs,hz,r⟩
 ·obtain⟨z,its,n,r,e⟩:=h.ok I.hok;exact⟨its,r,⟨_,n,e,rfl,rfl,rfl⟩,z⟩
 ·refine⟨its.toList,r,⟨o,n,I.kIn a o hk,hc,hd,by simpa using hs⟩,?_⟩;have e:=r.length;simp only [D2] at e;omega
theorem Inv.tuple (I:Inv X pins σ H s)(h:SqT X.K H a xs): ∃its:G0 G1,Vals xs its/\qL s.heap a its.toArray/\xs.length<=sizeLine:=by
 rcases h with h|⟨o,its,n,hk,hc,hs,hz,r⟩
 ·obtain⟨z,its,r,p⟩:=h.ok I.hok;exact⟨its,r,p.tup,z⟩
 ·refine⟨its.toList,r,⟨o,I.kIn a o hk,hc,n,by simpa using hs⟩,?_⟩;have e:=r.length;simp only [D2] at e;omega
theorem Inv.list_inj (I:Inv X pins σ H s)(h:SqL X.K H a xs)(h':SqL X.K H a ys):xs=ys:=by
 obtain⟨its,r,⟨o,n,e,_,_,d⟩,_⟩:=I.list h;obtain⟨its',r',⟨o',n',e',_,_,d'⟩,_⟩:=I.list h';rw [e] at e';cases e';rw [d] at d';injection d' with d1 _
 have:its=its':=by simpa using congrArg uT d1
 subst this;exact r.inj r'
theorem Inv.tuple_inj (I:Inv X pins σ H s)(h:SqT X.K H a xs)(h':SqT X.K H a ys):xs=ys:=by
 obtain⟨its,r,⟨o,e,_,n,d⟩,_⟩:=I.tuple h;obtain⟨its',r',⟨o',e',_,n',d'⟩,_⟩:=I.tuple h';rw [e] at e';cases e';rw [d] at d';injection d' with d1 _
 have:its=its':=by simpa using congrArg uT d1
 subst this;exact r.inj r'
end
abbrev Cx.wish (X:Cx)(E:G1->G2->Prop):Cx:= {X with xe:=E}
abbrev Cx.nox (X:Cx):Cx:=X.wish λ_ _=>False
theorem Cx.Ok.wish (ok:X.Ok)(E:G1->G2->Prop):(X.wish E).Ok:=
 ⟨ok.mod,ok.kind,ok.glob,ok.blt,ok.above,ok.inj,ok.has,ok.cab,ok.hd,ok.frames,ok.stk,ok.exf,ok.bs,ok.bsz,ok.noex,ok.exfs,ok.funs,ok.frf⟩
theorem Cx.Ok.unwish {E:G1->G2->Prop}(ok:(X.wish E).Ok):X.Ok:=
 ⟨ok.mod,ok.kind,ok.glob,ok.blt,ok.above,ok.inj,ok.has,ok.cab,ok.hd,ok.frames,ok.stk,ok.exf,ok.bs,ok.bsz,ok.noex,ok.exfs,ok.funs,ok.frf⟩
section
variable {X:Cx}{pins:G0 (G5×Obj)}{σ:St}{H:Hp}{s:G2}{E:G1->G2->Prop}
theorem Inv.wish (I:Inv X pins σ H s)(E:G1->G2->Prop):Inv (X.wish E) pins σ H s:=⟨I.ok.wish E,I.os,I.bare,I.base,I.loc,I.cell,I.free,I.freeC,I.pin,I.hok,I.len⟩
theorem Inv.unwish (I:Inv (X.wish E) pins σ H s):Inv X pins σ H s:=⟨I.ok.unwish,I.os,I.bare,I.base,I.loc,I.cell,I.free,I.freeC,I.pin,I.hok,I.len⟩
theorem SP.unwish {D:Ends}{f:Flow}{s':G2}(h:SP (X.wish E) pins D f s'):SP X pins D f s':=by
 cases f with
 |next=>obtain⟨σ',H',I,q⟩:=h;exact⟨σ',H',I.unwish,q⟩
 |brk=>obtain⟨σ',H',I,q⟩:=h;exact⟨σ',H',I.unwish,q⟩
 |cont=>obtain⟨σ',H',I,q⟩:=h;exact⟨σ',H',I.unwish,q⟩
 |ret u=>obtain⟨v,σ',H',I,r,q⟩:=h;exact⟨v,σ',H',I.unwish,r,q⟩
theorem PSs.nox {st:G0 C5}{t:TS}(h:PSs X.nox st t):PSs X st t:=λpins s σ H D I hw=>
 R7 (h pins s σ H D (I.wish _) hw) (λ_ _ q=>q.unwish) λ_ _ z=>False.elim z
end
section
variable {X:Cx}{st:C5}{rest:G0 C5}{t u:TS}{e:S6}{te:TE}{pos:Pos}
def Aj:TS:=λD σ H=>D.nx σ H
def Kd (t u:TS):TS:=λD σ H=>t {D with nx:=u D} σ H
theorem pss_nil:PSs X [] Aj:=λ_ _ σ H _ I h=>aS ⟨σ,H,I,h⟩
theorem Ge (h1:PS X st t)(h2:PSs X rest u):PSs X (st::rest) (Kd t u):=by
 intro pins s σ H D I h;refine K2 (thn (h1 pins s σ H {D with nx:=u D} I h) λf s1 q=> ?_);cases f with
 |next=>
  obtain⟨σ',H',I',q⟩:=q;exact h2 pins s1 σ' H' D I' q
 |ret v=>exact q
 |brk=>exact q
 |cont=>exact q
theorem DD (h1:PS X st t):PSs X [st] t:=by
 intro pins s σ H D I h;refine K2 (thn (h1 pins s σ H D I h) λf s1 q=> ?_);cases f with
 |next=>exact aS q
 |ret v=>exact q
 |brk=>exact q
 |cont=>exact q
theorem Inv.quiet {pins:G0 (G5×Obj)}{σ:St}{H:Hp}{s:G2}(I:Inv X pins σ H s):xC X.env=false:=by simp [xC,I.ok.kind]
def Ak (te:TE):TS:=λD σ H=>te σ H λ_ H1=>D.nx σ H1
theorem Fg (he:PE X e te)(hs:Q4 e none pos.line X.env=pure false:=by rfl):PS X (.Expr e pos) (Ak te):=by
 intro pins s σ H D I h;exact rP (thn (he pins s σ H _ I h) λv s1 ⟨x,H1,I1,r1,q1⟩=>⟨σ,H1,I1,q1⟩) I.quiet hs
def Ke (te:TE):TS:=λD σ H=>te σ H D.rt
theorem Al (he:PE X e te):PS X (.Return (some e) pos) (Ke te):=by
 intro pins s σ H D I h;exact wpAny_Return_some (thn (he pins s σ H _ I h) λv s1 ⟨x,H1,I1,r1,q1⟩=>⟨x,σ,H1,I1,r1,q1⟩)
def Kf (c:TT)(t u:TS):TS:=λD σ H=>c σ H λb H1=>if b=true then t D σ H1 else u D σ H1
theorem Tn {c:S6}{a b:G0 C5}{tc:TT}(hc:PT X c tc)(ha:PSs X a t)(hb:PSs X b u):PS X (.If c a b pos) (Kf tc t u):=by
 intro pins s σ H D I h;refine wpAny_If (thn (hc pins s σ H _ I h) λd s1 ⟨H1,I1,q1⟩=> ?_);cases d with
 |true=>exact ha pins s1 σ H1 D I1 q1
 |false=>exact hb pins s1 σ H1 D I1 q1
end
abbrev TG:=V->St->Hp->(St->Hp->Prop)->Prop
abbrev TGs:=G0 V->St->Hp->(St->Hp->Prop)->Prop
def PG (X:Cx)(target:S6)(t:TG):Prop:=
 ∀ (pins:G0 (G5×Obj)) (s:G2) (σ:St) (H:Hp) (v:V) (u:G1) (Q:St->Hp->Prop),Inv X pins σ H s->RelV v u->t v σ H Q->
  D1 (D3 X.prog X.w) X.A (dY target X.env u) (λ_ s'=> ∃σ' H',Inv X pins σ' H' s'/\Q σ' H') X.xe s
def PGs (X:Cx)(ts:G0 S6)(t:TGs):Prop:=
 ∀ (pins:G0 (G5×Obj)) (s:G2) (σ:St) (H:Hp) (vs:G0 V) (us:G0 G1) (Q:St->Hp->Prop),Inv X pins σ H s->Vals vs us->t vs σ H Q->
  D1 (D3 X.prog X.w) X.A (nH ((cQ ts X.env).map (·.2)) us) (λ_ s'=> ∃σ' H',Inv X pins σ' H' s'/\Q σ' H') X.xe s
abbrev To:=V->V->V->Hp->(Hp->Prop)->Prop
def Kg (X:Cx)(t:To):Prop:=
 ∀ (pins:G0 (G5×Obj)) (s:G2) (σ:St) (H:Hp) (o i v:V) (ov iv u:G1) (Q:Hp->Prop),Inv X pins σ H s->RelV o ov->RelV i iv->RelV v u->t o i v H Q->
  D1 (D3 X.prog X.w) X.A (rK ov iv u) (λ_ s'=> ∃H',Inv X pins σ H' s'/\Q H') X.xe s
section
variable {X:Cx}{pos:Pos}
def yw (i:G8):TG:=λv σ H Q=>Q (σ.set i (some v)) H
theorem vQ {i:G8}{x:Str}(hN:X.N.Nodup)(hi:X.N[i]? =some x)(hx:Loc X.env.scope x)(hf:X.fn x=true\/X.env.scope.names.lookup x=some .local:=by first|exact .inl rfl|exact .inr rfl|assumption):PG X (.Name x pos) (yw i):=by
 intro pins s σ H v u Q I r h;exact wpAny_assign_Name (yu I hN hi hx r (λs' I'=>⟨_,H,I',h⟩) hf)
def Kh:TGs:=λvs σ H Q=>vs= []/\Q σ H
def Fh (t:TG)(u:TGs):TGs:=λvs σ H Q=> ∃v r,vs=v::r/\t v σ H λσ' H'=>u r σ' H' Q
theorem Fi:PGs X [] Kh:=by
 intro pins s σ H vs us Q I r h;obtain⟨e,h⟩:=h;subst e;cases r;exact oQ ⟨σ,H,I,h⟩
theorem Gf {e:S6}{es:G0 S6}{t:TG}{u:TGs}(h1:PG X e t)(h2:PGs X es u)
 (hs:(cQ (e::es) X.env).map (·.2)=dY e X.env::(cQ es X.env).map (·.2):=by rfl):PGs X (e::es) (Fh t u):=by
 intro pins s σ H vs us Q I r h;obtain⟨v,vr,e1,h⟩:=h;subst e1;cases r with
 |cons r rr=>
  rw [hs];refine fZ (thn (h1 pins s σ H _ _ _ I r h) λ_ s1 ⟨σ1,H1,I1,q1⟩=> ?_);exact h2 pins s1 σ1 H1 _ _ Q I1 rr q1
def Ki (K:G3)(n:G8)(t:TGs):TG:=λv σ H Q=> ∃a xs,v= .ref a/\SqT K H a xs/\xs.length=n/\t xs σ H Q
theorem Am {es:G0 S6}{k:G8}{t:TGs}{n:G8}(hc:X.calm=true)(h:PGs X es t)
 (hn:(cQ es X.env).length=n:=by rfl)(hst:(cQ es X.env).findIdx? (·.1)=none:=by rfl):PG X (.Tuple es k pos) (Ki X.K n t):=by
 intro pins s σ H v u Q I r hw;obtain⟨a,xs,e1,hq,hl,hw⟩:=hw;subst e1;cases r;obtain⟨its,rv,ht,hz⟩:=I.tuple hq;refine assign_Tuple_tuple (I.ok.hd hc) ht (by simp [hn,<-hl,rv.length]) hst λh' hx=> ?_
 have I1:Inv X pins σ H {s with heap:=h'}:=I.kept (t':=s.toks) λb o e=>hx b o (R5 (D0 e)) e
 exact h pins _ σ H xs _ Q I1 (by simpa using rv) hw
def KZ (to ti:TE)(t:To):TG:=λv σ H Q=>to σ H λo H1=>ti σ H1 λi H2=>t o i v H2 λH3=>Q σ H3
theorem An {o i:S6}{to ti:TE}{t:To}(ho:PE X o to)(hi:PE X i ti)(hs:Kg X t)
 (ha: ∀v,dY (.Subscript o i pos) X.env v=(do
  let ov <-Z6 [v] (C8 o X.env)
  let iv <-Z6 [v,ov] (C8 i X.env)
  hO pos
  Z6 [v,ov,iv] (rK ov iv v)
  IH [v,ov,iv] []):=by intro _;rfl):PG X (.Subscript o i pos) (KZ to ti t):=by
 intro pins s σ H v u Q I r h;rw [ha];refine wpAny_bind (B5 (thn (ho pins s σ H _ I h) λov s1 ⟨x,H1,I1,r1,q1⟩=> ?_));refine wpAny_bind (B5 (thn (hi pins s1 σ H1 _ I1 q1) λiv s2 ⟨y,H2,I2,r2,q2⟩=> ?_));refine wpAny_bind (Q5 (wpAny_bind (B5 (thn (hs pins s2 σ H2 x y v ov iv u _ I2 r1 r2 r q2) λ_ s3 ⟨H3,I3,q3⟩=> ?_))));exact wpAny_release ⟨σ,H3,I3,q3⟩
def Cf (te:TE)(g:TG):TS:=λD σ H=>te σ H λx H1=>g x σ H1 D.nx
theorem Ao {tg e:S6}{te:TE}{g:TG}(he:PE X e te)(hg:PG X tg g)(hs:cE [tg] e pos.line X.env=pure false:=by rfl)(hw:cF [tg] e X.env=pure none:=by rfl)
 (h1:(cQ [tg] X.env).map (·.2)= [dY tg X.env]:=by rfl):PS X (.Assign [tg] e pos) (Cf te g):=by
 intro pins s σ H D I h;refine wpAny_Assign_stores (thn (he pins s σ H _ I h) λv s1 ⟨x,H1,I1,r1,q1⟩=> ?_) hs hw;rw [h1];exact thn (hg pins s1 σ H1 x v _ I1 r1 q1) λ_ s2 q=>q
theorem Ap {i:G8}{x:Str}{e:S6}{te:TE}{pos':Pos}(hN:X.N.Nodup)(hi:X.N[i]? =some x)(hx:Loc X.env.scope x)(he:PE X e te)(hs:Q4 e (some (.Name x pos')) pos.line X.env=pure false:=by rfl)(hf:X.fn x=true\/X.env.scope.names.lookup x=some .local:=by first|exact .inl rfl|exact .inr rfl|assumption):
 PS X (.Assign [.Name x pos'] e pos) (Cf te (yw i)):=by
 intro pins s σ H D I h;refine hZ (thn (he pins s σ H _ I h) λv s1 ⟨y,H1,I1,r1,q1⟩=> ?_) hs;exact yu I1 hN hi hx r1 (λs2 I2=>⟨_,H1,I2,q1⟩) hf
def Kj (i j:G8)(ta:TA):TS:=λD σ H=>ta σ H λvs H1=> ∃v w,vs= [v,w]/\D.nx ((σ.set i (some v)).set j (some w)) H1
theorem Aq {i j:G8}{x y:Str}{a b:S6}{ta:TA}{px py pt:Pos}{kt k2 pt2}(hc:X.calm=true)(hN:X.N.Nodup)(hi:X.N[i]? =some x)(hj:X.N[j]? =some y)(hij:i≠j)
 (hx:X.env.scope.names.lookup x=some .local)(hy:X.env.scope.names.lookup y=some .local)(ha:PA X [a,b] ta)
 (hw:cF [.Tuple [.Name x px,.Name y py] kt pt] (.Tuple [a,b] k2 pt2) X.env=pure (some [x,y]))
 (hs:cE [.Tuple [.Name x px,.Name y py] kt pt] (.Tuple [a,b] k2 pt2) pos.line X.env=pure false:=by rfl):
 PS X (.Assign [.Tuple [.Name x px,.Name y py] kt pt] (.Tuple [a,b] k2 pt2) pos) (Kj i j ta):=by
 intro pins s σ H D I h;rw [exec_Assign_arm];refine wpAny_bind (Q5 ?_);rw [hs];refine wpAny_bind (G7 ?_);rw [R3 (by decide)];refine wpAny_bind (Tuple_ (thn (ha _ pins s σ H _ I h) λus s1 ⟨vs,H1,I1,r1,q1⟩=> ?_));obtain⟨v,w,e1,q1⟩:=q1;subst e1;obtain⟨u1,u2,rfl,rv,rw'⟩: ∃u1 u2,us= [u1,u2]/\RelV v u1/\RelV w u2:=by
  cases r1 with
  |cons p q=>
   cases q with
   |cons p' q'=>
    cases q';exact⟨_,_,rfl,p,p'⟩
 refine A3 ?_ (by show 2<=sizeLine;decide);have I2:Inv X pins σ H1 {s1 with heap:=s1.heap.push {cls:= .type "tuple",data:= .seq [u1,u2].toArray}}:=I1.kept (t':=s1.toks) λb o e=>G4 _ e
 rw [hw];refine wpAny_bind (G7 ?_);show D1 (D3 X.prog X.w) X.A (do rule "assign.swapped-stores";let items <-unpackItems (.ref s1.heap.objs.size) 2 none;nH [λv=>rQ X.env y v,λv=>rQ X.env x v] items.reverse;pure Flow.next) _ _ _;refine wpAny_bind (j8 (wpAny_bind (unpackItems_tuple (items:= #[u1,u2]) (I.ok.hd hc) (IsTup.new s1.heap _) λh' hx'=> ?_)));have I3:=I2.kept (h':=h') (t':=s1.toks) λb o e=>hx' b o (R5 (D0 e)) e
 show D1 _ _ (nH [λv=>rQ X.env y v,λv=>rQ X.env x v] [u2,u1] >>= λ_=>pure Flow.next) _ _ _;refine wpAny_bind (fZ (mF (yu I3 hN hj (.inl hy) rw' (λs2 I4=> ?_) (.inr hy))));refine fZ (mF (yu I4 hN hi (.inl hx) rv (λs3 I5=>oQ (G7 ?_)) (.inr hx)));rw [List.set_comm _ _ (O0 hij)] at I5;exact⟨_,H1,I5,q1⟩
def Cg (c:TT)(tb:TS):TS:=λD σ H=> ∃W:G8->St->Hp->Prop,(∃m,W m σ H)/\ ∀m σ H,W m σ H->
 c σ H λb H1=>if b=true then ∃N:St->Hp->Prop,(∀σ' H',N σ' H'-> ∃m',m'<m/\W m' σ' H')/\tb {D with nx:=N,ct:=N,bk:=D.nx} σ H1 else D.nx σ H1
theorem Nl {c:S6}{body:G0 C5}{tc:TT}{tb:TS}(hp:m7 (D3 X.prog X.w) X.A X.env X.xe)(hc:PT X c tc)(hb:PSs X body tb):PS X (.While c body [] pos) (Cg tc tb):=by
 intro pins s σ H D I h;obtain⟨W,⟨m0,w0⟩,turn⟩:=h;refine wpAny_While (codeAny_whileLoop (λn s'=> ∃σ' H',Inv X pins σ' H' s'/\W n σ' H') ?_ m0 ⟨σ,H,I,w0⟩);rintro n s1 ⟨σ1,H1,I1,w1⟩;refine Z5 hp (thn (hc pins s1 σ1 H1 _ I1 (turn n σ1 H1 w1)) λb s2 ⟨H2,I2,q2⟩=> ?_);cases b with
 |true=>
  obtain⟨N,hN,q2⟩:=q2;rw [R1 rfl];refine Z5 hp (thn (hb pins s2 σ1 H2 _ I2 q2) λf s3 q3=> ?_);cases f with
  |next=>
   obtain⟨σ3,H3,I3,n3⟩:=q3;obtain⟨m',hm,w3⟩:=hN σ3 H3 n3;exact⟨m',hm,σ3,H3,I3,w3⟩
  |cont=>
   obtain⟨σ3,H3,I3,n3⟩:=q3;obtain⟨m',hm,w3⟩:=hN σ3 H3 n3;exact⟨m',hm,σ3,H3,I3,w3⟩
  |brk=>exact q3
  |ret v=>exact q3
 |false=>
  rw [R3 D8];exact aS ⟨σ1,H2,I2,q2⟩
end
structure It where
 go:G8->Hp->Prop
 yld:G8->Hp->V->Hp->Prop
 stop:G8->Hp->Prop
def XU (X:Cx)(pins:G0 (G5×Obj))(H:Hp)(b:G5):Prop:=
 H b=none/\b≠X.env.locals/\b ∉ X.fs/\(b∈X.ex\/X.s₀.heap.objs.size<=b)/\(∀x c,X.env.cells.lookup x=some c->c≠b)/\ ∀p∈X.pn++pins,p.1≠b
theorem Inv.fpOk {pins:G0 (G5×Obj)}{σ:St}{H':Hp}(I:Inv X pins σ H s)(hb:s.heap.objs.size<=b)(hn:H' b=none):XU X pins H' b:=by
 refine⟨hn,A6 (S0 I.lt hb),I.nofs hb,.inr (T9 I.sz hb),λx c e z=> ?_,λp hp z=> ?_⟩
 ·obtain⟨v,q⟩:=I.cell x c e;exact absurd (S0 q.lt (by rw [z];exact hb)) (N8 _)
 ·exact absurd (S0 (D0 (I.pin p hp).1) (by rw [z];exact hb)) (N8 _)
structure Turn (P:D5)(w:T5)(K:G3)(tg:S6)(J:It)(fp:G0 G5)(it:G5)(tn:G8->M4->Prop):Prop where
 mem:it∈fp
 obj: ∀i h,tn i h-> ∀b∈fp,∃o,h.get? b=some o/\ ∀v,o.data≠ .cell v
 keep: ∀i h h',tn i h->(∀b∈fp,∀o,h.get? b=some o->h'.get? b=some o)->tn i h'
 item: ∀ (X:Cx),X.prog=P->X.w=w->X.K=K->X.calm=true-> ∀ (i:G8) (pins:G0 (G5×Obj)) (s:G2) (σ:St) (H:Hp) (E:G1->G2->Prop),Inv X pins σ H s->(∀b∈fp,XU X pins H b)->tn i s.heap->J.go i H->
  D1 (D3 P w) X.A (rR (.ref it)) (λr s1=> ∃u,r=some u/\
   D1 (D3 P w) X.A (aT tg (.ref it) u) (λ_ s2=> ∃x H',Inv X pins σ H' s2/\RelV x u/\J.yld i H x H'/\tn (i+1) s2.heap/\ ∀b∈fp,H' b=none) E s1) E s
 done: ∀ (X:Cx),X.prog=P->X.w=w->X.K=K->X.calm=true-> ∀ (i:G8) (pins:G0 (G5×Obj)) (s:G2) (σ:St) (H:Hp) (E:G1->G2->Prop),Inv X pins σ H s->(∀b∈fp,XU X pins H b)->tn i s.heap->J.stop i H->
  D1 (D3 P w) X.A (rR (.ref it)) (λr s1=>r=none/\Inv X pins σ H s1) E s
 self: ∀ (A:R6) (i:G8) (s:G2) (Q:G1->G2->Prop) (E:G1->G2->Prop),tn i s.heap->Q (.ref it) s->D1 (D3 P w) A (pS (.ref it)) Q E s
abbrev TI:=St->Hp->(It->Hp->Prop)->Prop
def PIE (X:Cx)(pins:G0 (G5×Obj))(σ:St)(tg:S6)(R:It->Hp->Prop)(itv:G1)(s2:G2):Prop:=
 ∃ (it:G5) (fp:G0 G5) (tn:G8->M4->Prop) (J:It) (H':Hp),itv= .ref it/\Inv X pins σ H' s2/\Turn X.prog X.w X.K tg J fp it tn/\tn 0 s2.heap/\(∀b∈fp,XU X pins H' b)/\R J H'
def PI (X:Cx)(tg iter:S6)(wi:TI):Prop:=
 ∀ (pins:G0 (G5×Obj)) (s:G2) (σ:St) (H:Hp) (R:It->Hp->Prop),Inv X pins σ H s->wi σ H R->
  D1 (D3 X.prog X.w) X.A (C8 iter X.env) (λv s1=>D1 (D3 X.prog X.w) X.A (pS v) (PIE X pins σ tg R) X.xe s1) X.xe s
variable {tg:S6}
theorem Fj {M : cC} {E : G1 → G2 → Prop} {it : G5} {o : Obj} {n : B2} {vs : M1 G1} {Q : Unit → G2 → Prop} (ho : s.heap.get? it = some o) (hc : o.cls = .type n) (hd : o.data = .fields vs)
    (hn : ["enumerate", "zip", "dict_itemiterator", "dict_reverseitemiterator", "odict_iterator", "itertools.zip_longest", "itertools.pairwise"].contains n = false) (hQ : Q () s) : D1 M A (aT tg (.ref it) u) Q E s := by
  unfold aT
  cases tg <;> first
    | exact G7 hQ
    | (cases u <;> first
        | exact G7 hQ
        | (refine wpAny_bind (rS ho ?_)
           rw [hc, hd]
           show D1 M A (if (["enumerate", "zip", "dict_itemiterator", "dict_reverseitemiterator", "odict_iterator", "itertools.zip_longest", "itertools.pairwise"].contains n && vs[0]? == some (F8 _)) = true then _ else _) Q E s
           rw [R3 (by intro h; rw [hn, mG] at h; cases h)]
           exact G7 hQ))
def Itl (K:G3)(a:G5):It:=
 ⟨λi H=> ∃xs x,SqL K H a xs/\xs[i]? =some x,λi H x H'=>H'=H/\ ∀xs,SqL K H a xs->xs[i]? =some x,λi H=> ∃xs,SqL K H a xs/\xs.length<=i⟩
def Itt (K:G3)(a:G5):It:=
 ⟨λi H=> ∃xs x,SqT K H a xs/\xs[i]? =some x,λi H x H'=>H'=H/\ ∀xs,SqT K H a xs->xs[i]? =some x,λi H=> ∃xs,SqT K H a xs/\xs.length<=i⟩
def Itr (lo:P2)(n:G8):It:=⟨λi _=>i<n,λi H x H'=>H'=H/\x= .int (lo+i),λi _=>n<=i⟩
variable {K:G3}
theorem Ur (a it:G5):Turn P w K tg (Itl K a) [it] it (λi h=>h.IsListIter it a i) where
 mem:=by simp
 obj:=λi h st b hb=>by
  have e:b=it:=by simpa using hb
  subst e;obtain⟨o,e,c,d⟩:=st;exact⟨o,e,λv z=>by rw [d] at z;cases z⟩
 keep:=λi h h' st k=>st.at λo e=>k it (by simp) o e
 item:=by
  intro X hP hw hK hc i pins s σ H E I hf st hg;subst hP hw hK;obtain⟨xs,x,hq,hx⟩:=hg;obtain⟨its,rv,p,hz⟩:=I.list hq;obtain⟨u,hu,ru⟩:=rv.get hx;obtain⟨f0,f1,f2,f3,f4,f5⟩:=hf it (by simp);refine wpAny_pyNext_list_item st p.isList (x:=u) (by simpa using hu) λh' st' sb=> ?_
  have I1:Inv X pins σ H {s with heap:=h'}:=I.turned (t':=s.toks) (λb o hb e=>(sb.2 b hb).trans e) f0 f1 f3 f4 f5;obtain⟨o,e,c,d⟩:=id st';exact⟨u,rfl,Fj (s:= {s with heap:=h'}) e c d (by decide) ⟨x,H,I1,ru,⟨rfl,λys hy=>by rw [I.list_inj hy hq];exact hx⟩,st',λb hb=>(hf b hb).1⟩⟩
 done:=by
  intro X hP hw hK hc i pins s σ H E I hf st hg;subst hP hw hK;obtain⟨xs,hq,hx⟩:=hg;obtain⟨its,rv,p,hz⟩:=I.list hq;obtain⟨f0,f1,f2,f3,f4,f5⟩:=hf it (by simp);have hl:=rv.length;exact wpAny_pyNext_list_end (I.ok.hd hc) st p.isList (by simp;omega) λh' eb=>⟨rfl,I.turned (t':=s.toks) (λb o hb e=>eb b o hb e) f0 f1 f3 f4 f5⟩
 self:=λ_ _ _ _ _ st h=>wpAny_pyIter_listiter st h
theorem GT (a it:G5):Turn P w K tg (Itt K a) [it] it (λi h=>h.IsTupleIter it a i) where
 mem:=by simp
 obj:=λi h st b hb=>by
  have e:b=it:=by simpa using hb
  subst e;obtain⟨o,e,c,d⟩:=st;exact⟨o,e,λv z=>by rw [d] at z;cases z⟩
 keep:=λi h h' st k=>st.at λo e=>k it (by simp) o e
 item:=by
  intro X hP hw hK hc i pins s σ H E I hf st hg;subst hP hw hK;obtain⟨xs,x,hq,hx⟩:=hg;obtain⟨its,rv,p,hz⟩:=I.tuple hq;obtain⟨u,hu,ru⟩:=rv.get hx;obtain⟨f0,f1,f2,f3,f4,f5⟩:=hf it (by simp);refine wpAny_pyNext_tuple_item st (show s.heap.IsTuple a its.toArray from p) (x:=u) (by simpa using hu) λh' st' sb=> ?_
  have I1:Inv X pins σ H {s with heap:=h'}:=I.turned (t':=s.toks) (λb o hb e=>(sb.2 b hb).trans e) f0 f1 f3 f4 f5;obtain⟨o,e,c,d⟩:=id st';exact⟨u,rfl,Fj (s:= {s with heap:=h'}) e c d (by decide) ⟨x,H,I1,ru,⟨rfl,λys hy=>by rw [I.tuple_inj hy hq];exact hx⟩,st',λb hb=>(hf b hb).1⟩⟩
 done:=by
  intro X hP hw hK hc i pins s σ H E I hf st hg;subst hP hw hK;obtain⟨xs,hq,hx⟩:=hg;obtain⟨its,rv,p,hz⟩:=I.tuple hq;obtain⟨f0,f1,f2,f3,f4,f5⟩:=hf it (by simp);have hl:=rv.length;exact wpAny_pyNext_tuple_end (I.ok.hd hc) st (show s.heap.IsTuple a its.toArray from p) (by simp;omega) λh' eb=>⟨rfl,I.turned (t':=s.toks) (λb o hb e=>eb b o hb e) f0 f1 f3 f4 f5⟩
 self:=λ_ _ _ _ _ st h=>wpAny_pyIter_tupleiter st h
theorem GV (it:G5)(lo:P2)(n:G8):Turn P w K tg (Itr lo n) [it] it (λi h=>xD h it (lo+(i:G8)*1) ((n:P2)-(i:G8)) 1) where
 mem:=by simp
 obj:=λi h st b hb=>by
  have e:b=it:=by simpa using hb
  subst e;exact⟨_,st,λv z=>by
   have z':Data.fields _=Data.cell v:=z;cases z'⟩
 keep:=λi h h' st k=>k it (by simp) _ st
 item:=by
  intro X hP hw hK hc i pins s σ H E I hf st hg;subst hP hw hK;obtain⟨f0,f1,f2,f3,f4,f5⟩:=hf it (by simp);have W:=Walks.range (prog:=X.prog) (w:=X.w) (I.ok.hd hc) it lo 1 n;refine W.item i s _ _ hg st λv h' tk hv st' kk=> ?_
  obtain⟨t,rfl⟩:=hv;have I1:Inv X pins σ H {s with heap:=h',toks:=tk}:=I.turned (λb o hb e=>kk b o (by simpa using hb) e) f0 f1 f3 f4 f5;refine⟨_,rfl,Fj (s:= {s with heap:=h',toks:=tk}) (n:= "range_iterator") st' rfl rfl (by decide) ⟨.int (lo+i),H,I1,⟨t,?_⟩,⟨rfl,rfl⟩,st',λb hb=>(hf b hb).1⟩⟩;rw [Int.mul_one]
 done:=by
  intro X hP hw hK hc i pins s σ H E I hf st hg;subst hP hw hK;obtain⟨f0,f1,f2,f3,f4,f5⟩:=hf it (by simp);exact wpAny_pyNext_range_end (I.ok.hd hc) st (by have:n<=i:=hg;omega) λh' eb=>⟨rfl,I.turned (t':=s.toks) (λb o hb e=>eb b o hb e) f0 f1 f3 f4 f5⟩
 self:=λ_ _ _ _ _ st h=>wpAny_pyIter_rangeiter st h
section
variable {X:Cx}{tg:S6}
def Ar (K:G3)(tl:TE):TI:=λσ H R=>tl σ H λx H1=> ∃a,x= .ref a/\(∃xs,SqL K H1 a xs)/\R (Itl K a) H1
theorem Fk {l:S6}{tl:TE}(hl:PE X l tl):PI X tg l (Ar X.K tl):=by
 intro pins s σ H R I h;refine thn (hl pins s σ H _ I h) λv s1 ⟨x,H1,I1,r1,q1⟩=> ?_
 obtain⟨a,e,⟨xs,hq⟩,q⟩:=q1;subst e;cases r1;obtain⟨its,rv,p,hz⟩:=I1.list hq;refine aY p.isList ?_;refine⟨s1.heap.objs.size,[s1.heap.objs.size],_,_,H1,rfl,I1.kept (t':=s1.toks) λb o e=>G4 _ e,Ur a _,⟨_,S4 _ rfl,rfl,rfl⟩,λb hb=> ?_,q⟩;have e:b=s1.heap.objs.size:=by simpa using hb
 subst e;exact I1.fpOk (P1 _) (I1.hok.fresh (P1 _))
variable {pins:G0 (G5×Obj)}
theorem Nm {σ:St}{H:Hp}{s:G2}{R:It->Hp->Prop}{E:G1->G2->Prop}{lo hi:P2}{t u v:Tok}{tk:G8}(I:Inv X pins σ H s)(h1: -(2^62)<=lo)(h2:lo<2^62)(h3: -(2^62)<=hi)(h4:hi<2^62)
 (q:R (Itr lo (hi-lo).toNat) H):D1 (D3 X.prog X.w) X.A (pS (.ref s.heap.objs.size)) (PIE X pins σ tg R) E {s with heap:=s.heap.push {cls:= .type "range",data:= .fields #[.int lo t,.int hi u,.int 1 v]},toks:=tk}:=by
 refine wpAny_pyIter_range (IsRange.new ..) (small_one h1 h2 h3 h4) ?_;have I1:Inv X pins σ H {s with heap:=s.heap.push {cls:= .type "range",data:= .fields #[.int lo t,.int hi u,.int 1 v]},toks:=tk}:=I.kept λb o e=>G4 _ e
 refine⟨(s.heap.push {cls:= .type "range",data:= .fields #[.int lo t,.int hi u,.int 1 v]}).objs.size,[(s.heap.push {cls:= .type "range",data:= .fields #[.int lo t,.int hi u,.int 1 v]}).objs.size],_,_,H,rfl,
  I1.kept (t':=tk) λb o e=>G4 _ e,GV _ lo (hi-lo).toNat,?_,λb hb=> ?_,q⟩
 ·have e1:lo+((0:G8):P2)*1=lo:=by simp
  have e2:(((hi-lo).toNat:G8):P2)-((0:G8):P2)=Builtin.Range.rangeSize lo hi 1:=by rw [sU];split<;>omega
  show xD _ _ (lo+((0:G8):P2)*1) ((((hi-lo).toNat:G8):P2)-((0:G8):P2)) 1;rw [e1,e2];exact S4 _ rfl
 ·have e:b=(s.heap.push {cls:= .type "range",data:= .fields #[.int lo t,.int hi u,.int 1 v]}).objs.size:=by simpa using hb
  subst e;exact I1.fpOk (P1 _) (I1.hok.fresh (P1 _))
def As (ta:TA):TI:=λσ H R=>ta σ H λvs H1=> ∃j:P2,vs= [.int j]/\ -(2^62)<=j/\j<2^62/\R (Itr 0 j.toNat) H1
theorem DE {a:S6}{ta:TA}{p pos:Pos}(hg:Gl X "range")(hm:X.mg "range" =none)(ha:PA X [a] ta)(hs:P5 [a] X.env= [(false,C8 a X.env)]:=by rfl):PI X tg (.Call (.Name "range" p) [a] [] pos) (As ta):=by
 intro pins s σ H R I h;refine Call_ (YJ I hg hm y9 (X4 (thn (ha pos pins s σ H _ I h) λus s1 ⟨vs,H1,I1,r1,q1⟩=> ?_) hs rfl));obtain⟨j,e,q1,q2,q⟩:=q1;subst e;cases r1 with
 |cons r rr=>
  cases rr;obtain⟨t,rfl⟩:=r;exact uU (Nm I1 (by omega) (by omega) q1 q2 (by simpa using q))
def Kk (wi:TI)(g:TG)(tb:TS):TS:=λD σ H=>wi σ H λJ H1=> ∃W:G8->G8->St->Hp->Prop,(∃m,W 0 m σ H1)/\ ∀i m σ H,W i m σ H->
 (J.stop i H/\D.nx σ H)\/(J.go i H/\ ∃N:St->Hp->Prop,(∀σ' H',N σ' H'-> ∃m',m'<m/\W (i+1) m' σ' H')/\ ∀x H',J.yld i H x H'->g x σ H' λσ2 H2=>tb {D with nx:=N,ct:=N,bk:=D.nx} σ2 H2)
def yj (fp:G0 G5)(h:M4):G0 (G5×Obj):=fp.filterMap λb=>(h.get? b).map λo=>(b,o)
theorem zy {fp:G0 G5}{h:M4}{b:G5}{o:Obj}(hb:b∈fp)(e:h.get? b=some o):(b,o)∈yj fp h:=Y3.mpr ⟨b,hb,by rw [e];rfl⟩
theorem Jn {fp:G0 G5}{h:M4}{p:G5×Obj}(hp:p∈yj fp h):p.1∈fp/\h.get? p.1=some p.2:=by
 obtain⟨b,hb,e⟩:=Y3.mp hp;cases q:h.get? b with
 |none=>rw [q] at e;cases e
 |some o=>
  rw [q] at e;have e':(b,o)=p:=L7 e;subst e';exact⟨hb,q⟩
theorem Inv.pinned {σ:St}{H:Hp}{s:G2}{fp:G0 G5}(I:Inv X pins σ H s)(hf: ∀b∈fp,XU X pins H b)(ho: ∀b∈fp,∃o,s.heap.get? b=some o/\ ∀v,o.data≠ .cell v):Inv X (pins++yj fp s.heap) σ H s:=
 I.pins_of λp hp=>(T4.mp hp).elim (λz=>I.pin p (P6 _ z)) λz=>by
  obtain⟨hb,e⟩:=Jn z;obtain⟨f0,f1,f2,_⟩:=hf p.1 hb;obtain⟨o,e',d⟩:=ho p.1 hb;rw [e] at e';cases e';exact⟨e,f0,f1,f2,d⟩
theorem Inv.unpinned {pl:G0 (G5×Obj)}{σ:St}{H:Hp}{s:G2}(I:Inv X (pins++pl) σ H s):Inv X pins σ H s:=I.pins_of λp hp=>I.pin p (P6 _ (T6 _ hp))
theorem Au {iter:S6}{body:G0 C5}{wi:TI}{g:TG}{tb:TS}{pos:Pos}(hp:m7 (D3 X.prog X.w) X.A X.env X.xe)(hc:X.calm=true)(hi:PI X tg iter wi)(hg:PG X tg g)(hb:PSs X body tb)
 (hs: ∀x,T8 iter X.env x=pure x:=by intro _;rfl):PS X (.For tg iter body [] pos) (Kk wi g tb):=by
 intro pins s σ H D I h;refine wpAny_For (thn (hi pins s σ H _ I h) λv s1 h1=>thn h1 λitv s2 h2=> ?_) hs;obtain⟨it,fp,tn,J,H2,e,I2,T,st2,f2,W,⟨m0,w0⟩,turn⟩:=h2;subst e
 -- what stays true of the iterator's objects through the loop
 have stat: ∀ {H':Hp},(∀b∈fp,H' b=none)-> ∀b∈fp,XU X pins H' b:=λhn b hb=>⟨hn b hb,(f2 b hb).2⟩
 refine codeAny_forLoop_any (λn s'=> ∃i σ' H',Inv X pins σ' H' s'/\tn i s'.heap/\(∀b∈fp,H' b=none)/\W i n σ' H') ?_ m0 ⟨0,σ,H2,I2,st2,λb hb=>(f2 b hb).1,w0⟩;rintro n s3 ⟨i,σ3,H3,I3,st3,fr3,w3⟩;rcases turn i n σ3 H3 w3 with ⟨stop,qn⟩|⟨go,N,hN,step⟩
 ·refine Z5 hp (thn (T.done X rfl rfl rfl hc i pins s3 σ3 H3 X.xe I3 (stat fr3) st3 stop) λr s4 ⟨hr,I4⟩=> ?_);subst hr;exact aS ⟨σ3,H3,I4,qn⟩
 ·refine Z5 hp (thn (T.item X rfl rfl rfl hc i pins s3 σ3 H3 X.xe I3 (stat fr3) st3 go) λr s4 ⟨u,hr,h4⟩=> ?_);subst hr;refine Z5 hp (thn h4 λ_ s5 ⟨x,H5,I5,r5,y5,st5,fr5⟩=> ?_);have I5':=I5.pinned (stat fr5) (T.obj _ _ st5);refine Z5 hp (thn (hg _ s5 σ3 H5 x u _ I5' r5 (step x H5 y5)) λ_ s6 ⟨σ6,H6,I6,q6⟩=> ?_);refine Z5 hp (thn (hb _ s6 σ6 H6 _ I6 q6) λf s7 q7=> ?_);have again: ∀ {σ7:St} {H7:Hp},Inv X (pins++yj fp s5.heap) σ7 H7 s7->N σ7 H7-> ∃m,m<n/\ ∃i σ' H',Inv X pins σ' H' s7/\tn i s7.heap/\(∀b∈fp,H' b=none)/\W i m σ' H':=λ{σ7 H7} I7 n7=>by
   obtain⟨m',hm,w7⟩:=hN σ7 H7 n7;refine⟨m',hm,i+1,σ7,H7,I7.unpinned,T.keep _ _ _ st5 λb hb o e=>(I7.pin (b,o) (P6 _ (P6 _ (zy hb e)))).1,λb hb=> ?_,w7⟩;obtain⟨o,e,d⟩:=T.obj _ _ st5 b hb;exact(I7.pin (b,o) (P6 _ (P6 _ (zy hb e)))).2.1
  cases f with
  |next=>obtain⟨σ7,H7,I7,n7⟩:=q7;exact again I7 n7
  |cont=>obtain⟨σ7,H7,I7,n7⟩:=q7;exact again I7 n7
  |brk=>obtain⟨σ7,H7,I7,q7⟩:=q7;exact⟨σ7,H7,I7.unpinned,q7⟩
  |ret v=>obtain⟨x7,σ7,H7,I7,r7,q7⟩:=q7;exact⟨x7,σ7,H7,I7.unpinned,r7,q7⟩
end
abbrev R2:=V->V->Hp->VK->Prop
def OpR (X:Cx)(f:G1->G1->Sem G1)(r:R2):Prop:=
 ∀ (pins:G0 (G5×Obj)) (s:G2) (σ:St) (H:Hp) (x y:V) (v u:G1) (Q:VK),Inv X pins σ H s->RelV x v->RelV y u->r x y H Q->
  D1 (D3 X.prog X.w) X.A (f v u) (EP X pins σ Q) X.xe s
def UnR (X:Cx)(f:G1->Sem G1)(r:V->Hp->VK->Prop):Prop:=
 ∀ (pins:G0 (G5×Obj)) (s:G2) (σ:St) (H:Hp) (x:V) (v:G1) (Q:VK),Inv X pins σ H s->RelV x v->r x H Q->
  D1 (D3 X.prog X.w) X.A (f v) (EP X pins σ Q) X.xe s
def CallR (X:Cx)(f:G1)(r:G0 V->Hp->VK->Prop):Prop:=
 ∀ (pins:G0 (G5×Obj)) (s:G2) (σ:St) (H:Hp) (xs:G0 V) (us:G0 G1) (Q:VK),Inv X pins σ H s->Vals xs us->r xs H Q->
  D1 (D3 X.prog X.w) X.A (call f us) (EP X pins σ Q) X.xe s
def tOp (r:R2)(ta tb:TE):TE:=λσ H Q=>ta σ H λx H1=>tb σ H1 λy H2=>r x y H2 Q
def tUn (r:V->Hp->VK->Prop)(ta:TE):TE:=λσ H Q=>ta σ H λx H1=>r x H1 Q
def rI (C:P2->P2->Prop)(g:P2->P2->V):R2:=λx y H Q=> ∃i j,x= .int i/\y= .int j/\C i j/\Q (g i j) H
def rI0 (g:P2->P2->V):R2:=λx y H Q=> ∃i j,x= .int i/\y= .int j/\Q (g i j) H
def rU (g:P2->V):V->Hp->VK->Prop:=λx H Q=> ∃i,x= .int i/\Q (g i) H
section
variable {X:Cx}{a b c:S6}{ta tb tc:TE}{pos:Pos}
theorem Tp (ha:PE X a ta)(hb:PE X b tb){pins:G0 (G5×Obj)}{s:G2}{σ:St}{H:Hp}{R:V->V->Hp->Prop}(I:Inv X pins σ H s)
 (h:ta σ H λx H1=>tb σ H1 λy H2=>R x y H2){Q:G1->G2->Prop}{f:G1->G1->Sem G1}
 (hf: ∀v u s2 x y H2,Inv X pins σ H2 s2->RelV x v->RelV y u->R x y H2->D1 (D3 X.prog X.w) X.A (f v u) Q X.xe s2):
 D1 (D3 X.prog X.w) X.A (C8 a X.env) (λv s₁=>D1 (D3 X.prog X.w) X.A (C8 b X.env) (λu s₂=>D1 (D3 X.prog X.w) X.A (f v u) Q X.xe s₂) X.xe s₁) X.xe s:=by
 refine thn (ha pins s σ H _ I h) λv s1 ⟨x,H1,I1,r1,q1⟩=> ?_
 refine thn (hb pins s1 σ H1 _ I1 q1) λu s2 ⟨y,H2,I2,r2,q2⟩=> ?_
 exact hf v u s2 x y H2 I2 r1 r2 q2
theorem Tq {op:xE}{r:R2}(ho:OpR X (J6 op) r)(ha:PE X a ta)(hb:PE X b tb):PE X (.BinOp a op b pos) (tOp r ta tb):=by
 intro pins s σ H Q I h;exact wpAny_BinOp (Tp ha hb I h λv u s2 x y H2 I2 rx ry q=>ho pins s2 σ H2 x y v u Q I2 rx ry q)
theorem Tr {op:UnaryOp}{r:V->Hp->VK->Prop}(ho:UnR X (unaryOp op) r)(ha:PE X a ta):PE X (.UnaryOp op a pos) (tUn r ta):=by
 intro pins s σ H Q I h;exact UnaryOp_ (thn (ha pins s σ H _ I h) λv s1 ⟨x,H1,I1,r1,q1⟩=>ho pins s1 σ H1 x v Q I1 r1 q1)
theorem opI {f:G1->G1->Sem G1}{C:P2->P2->Prop}{g:P2->P2->P2}
 (rule: ∀ (i j:P2) (t u:Tok) (s:G2) (Q:G1->G2->Prop) (E:G1->G2->Prop),C i j->Q (.int (g i j) s.toks) {s with toks:=s.toks+1}->D1 (D3 X.prog X.w) X.A (f (.int i t) (.int j u)) Q E s):
 OpR X f (rI C λi j=> .int (g i j)):=by
 intro pins s σ H x y v u Q I rx ry h;obtain⟨i,j,rfl,rfl,hc,q⟩:=h;obtain⟨t,rfl⟩:=rx;obtain⟨t',rfl⟩:=ry;exact rule i j t t' s _ _ hc ⟨.int (g i j),H,I.tok _,⟨_,rfl⟩,q⟩
theorem Kl {f:G1->G1->Sem G1}{g:P2->P2->P2}
 (rule: ∀ (i j:P2) (t u:Tok) (s:G2) (Q:G1->G2->Prop) (E:G1->G2->Prop),Q (.int (g i j) s.toks) {s with toks:=s.toks+1}->D1 (D3 X.prog X.w) X.A (f (.int i t) (.int j u)) Q E s):
 OpR X f (rI0 λi j=> .int (g i j)):=by
 intro pins s σ H x y v u Q I rx ry h;obtain⟨i,j,rfl,rfl,q⟩:=h;obtain⟨t,rfl⟩:=rx;obtain⟨t',rfl⟩:=ry;exact rule i j t t' s _ _ ⟨.int (g i j),H,I.tok _,⟨_,rfl⟩,q⟩
theorem Tb {f:G1->G1->Sem G1}{g:P2->P2->N0}
 (rule: ∀ (i j:P2) (t u:Tok) (s:G2) (Q:G1->G2->Prop) (E:G1->G2->Prop),Q (.bool (g i j)) s->D1 (D3 X.prog X.w) X.A (f (.int i t) (.int j u)) Q E s):
 OpR X f (rI0 λi j=> .bl (g i j)):=by
 intro pins s σ H x y v u Q I rx ry h;obtain⟨i,j,rfl,rfl,q⟩:=h;obtain⟨t,rfl⟩:=rx;obtain⟨t',rfl⟩:=ry;exact rule i j t t' s _ _ ⟨.bl (g i j),H,I,rfl,q⟩
def Km (i j:P2):Prop:=0<j/\j<1073741824
def Kn (i j:P2):Prop:=0<=j/\j<=1000000/\i.natAbs<2^64
def CMul (i j:P2):Prop:=(-(2^64)<i/\i<2^64)\/(-(2^64)<j/\j<2^64)
theorem CMul.ok {i j:P2}(h:CMul i j):IntMulOk i j:=by
 rcases h with ⟨h1,h2⟩|⟨h1,h2⟩
 ·exact .of_left (sV h1 h2)
 ·exact .of_right (sV h1 h2)
theorem op_add:OpR X (J6 .Add) (rI0 λi j=> .int (i+j)):=Kl λ_ _ _ _ _ _ _ q=>add_int q
theorem Av:OpR X (J6 .Sub) (rI0 λi j=> .int (i-j)):=Kl λ_ _ _ _ _ _ _ q=>sub_int q
theorem op_mul:OpR X (J6 .Mult) (rI CMul λi j=> .int (i*j)):=opI λ_ _ _ _ _ _ _ hc q=>mul_int q hc.ok
theorem Fl:OpR X (J6 .FloorDiv) (rI Km λi j=> .int (i / j)):=opI λi j _ _ _ _ _ hc q=>by
 have h1:(0:P2)<j:=hc.1;have h2:j<1073741824:=hc.2;exact floordiv_int (by omega) (by rw [f7 i (by omega)];exact q) (.inl (PyProof.noPylong_small (by omega)))
theorem Aw:OpR X (J6 .Mod) (rI (λ_ j=>0<j) λi j=> .int (i%j)):=opI λi j _ _ _ _ _ hc q=>by
 have h1:(0:P2)<j:=hc;exact mod_int' (by omega) (by rw [f8 i (by omega)];exact q)
theorem Ax:OpR X (J6 .Pow) (rI Kn λi j=> .int (i^j.toNat)):=opI λ_ _ _ _ _ _ _ hc q=>pow_int_small hc.1 hc.2.1 hc.2.2 q
theorem unI {f:G1->Sem G1}{g:P2->P2}
 (rule: ∀ (i:P2) (t:Tok) (s:G2) (Q:G1->G2->Prop) (E:G1->G2->Prop),Q (.int (g i) s.toks) {s with toks:=s.toks+1}->D1 (D3 X.prog X.w) X.A (f (.int i t)) Q E s):
 UnR X f (rU λi=> .int (g i)):=by
 intro pins s σ H x v Q I rx h;obtain⟨i,rfl,q⟩:=h;obtain⟨t,rfl⟩:=rx;exact rule i t s _ _ ⟨.int (g i),H,I.tok _,⟨_,rfl⟩,q⟩
theorem Ay:UnR X (unaryOp .USub) (rU λi=> .int (-i)):=unI λ_ _ _ _ _ q=>neg_int q
end
def Ko:V->V->N0
 | .non,.non=>true| .non,.int _=>true| .int _,.non=>true| .non,.bl _=>true| .bl _,.non=>true| .non,.str _=>true| .str _,.non=>true
 | .int _,.int _=>true| .bl _,.bl _=>true| .str _,.str _=>true| .byt _,.byt _=>true
 | .int _,.str _=>true| .str _,.int _=>true| .bl _,.str _=>true| .str _,.bl _=>true
 |_,_=>false
def rEq:R2:=λx y H Q=>Ko x y=true/\Q (.bl (decide (x=y))) H
def rNe:R2:=λx y H Q=>Ko x y=true/\Q (.bl (!decide (x=y))) H
theorem DF {i j:P2}:decide (V.int i=V.int j)=(i==j):=by
 rw [aU];simp
theorem Ch {i j:N0}:decide (V.bl i=V.bl j)=(i==j):=by
 rw [aU];simp
theorem DG {i j:Str}:decide (V.str i=V.str j)=(i==j):=by
 rw [aU];simp
theorem DH {i j:M1 UInt8}:decide (V.byt i=V.byt j)=(i.toList==j.toList):=by
 rw [aU];cases i;cases j;simp
section
variable {X:Cx}{a b c:S6}{ta tb tc:TE}{pos:Pos}
theorem jI {pins:G0 (G5×Obj)}{σ:St}{H:Hp}{s:G2}{Q:VK}{k k':N0}(I:Inv X pins σ H s)(q:Q (.bl k) H)(e:k=k'):EP X pins σ Q (.bool k') s:=by
 subst e;exact⟨.bl k,H,I,rfl,q⟩
theorem op_eq:OpR X (N3 .Eq) rEq:=by
 intro pins s σ H x y v u Q I rx ry h;obtain⟨hs,q⟩:=h;cases x with
 |non=>
  cases rx;cases y with
  |non=>cases ry;exact PySem.EqNone.eq_none_none (jI I q (by simp))
  |bl j=>cases ry;exact PySem.EqNone.eq_none_bool (jI I q (by simp))
  |int j=>obtain⟨t',rfl⟩:=ry;exact PySem.EqNone.eq_none_int (jI I q (by simp))
  |str j=>obtain⟨t',rfl⟩:=ry;exact PySem.EqNone.eq_none_str (jI I q (by simp))
  |_=>exact absurd (show false=true from hs) D8
 |bl i=>
  cases rx;cases y with
  |non=>cases ry;exact PySem.EqNone.eq_bool_none (jI I q (by simp))
  |bl j=>cases ry;exact eq_bool (jI I q Ch)
  |str j=>obtain⟨t',rfl⟩:=ry;exact PySem.EqMixed.eq_bool_str (jI I q (by simp))
  |_=>exact absurd (show false=true from hs) D8
 |int i=>
  obtain⟨t,rfl⟩:=rx;cases y with
  |non=>cases ry;exact PySem.EqNone.eq_int_none (jI I q (by simp))
  |int j=>obtain⟨t',rfl⟩:=ry;exact eq_int (jI I q DF)
  |str j=>obtain⟨t',rfl⟩:=ry;exact PySem.EqMixed.eq_int_str (jI I q (by simp))
  |_=>exact absurd (show false=true from hs) D8
 |str i=>
  obtain⟨t,rfl⟩:=rx;cases y with
  |non=>cases ry;exact PySem.EqNone.eq_str_none (jI I q (by simp))
  |bl j=>cases ry;exact PySem.EqMixed.eq_str_bool (jI I q (by simp))
  |int j=>obtain⟨t',rfl⟩:=ry;exact PySem.EqMixed.eq_str_int (jI I q (by simp))
  |str j=>obtain⟨t',rfl⟩:=ry;exact eq_str (jI I q DG)
  |_=>exact absurd (show false=true from hs) D8
 |byt i=>
  obtain⟨t,rfl⟩:=rx;cases y with
  |byt j=>obtain⟨t',rfl⟩:=ry;exact IR (jI I q DH)
  |_=>exact absurd (show false=true from hs) D8
 |_=>cases y<;>exact absurd (show false=true from hs) D8
theorem op_ne:OpR X (N3 .NotEq) rNe:=by
 intro pins s σ H x y v u Q I rx ry h;obtain⟨hs,q⟩:=h;cases x with
 |non=>
  cases rx;cases y with
  |non=>cases ry;exact PySem.EqNone.ne_none_none (jI I q (by simp))
  |bl j=>cases ry;exact PySem.EqNone.ne_none_bool (jI I q (by simp))
  |int j=>obtain⟨t',rfl⟩:=ry;exact PySem.EqNone.ne_none_int (jI I q (by simp))
  |str j=>obtain⟨t',rfl⟩:=ry;exact PySem.EqNone.ne_none_str (jI I q (by simp))
  |_=>exact absurd (show false=true from hs) D8
 |bl i=>
  cases rx;cases y with
  |non=>cases ry;exact PySem.EqNone.ne_bool_none (jI I q (by simp))
  |bl j=>cases ry;exact ne_bool (jI I q (congrArg not Ch))
  |str j=>obtain⟨t',rfl⟩:=ry;exact PySem.EqMixed.ne_bool_str (jI I q (by simp))
  |_=>exact absurd (show false=true from hs) D8
 |int i=>
  obtain⟨t,rfl⟩:=rx;cases y with
  |non=>cases ry;exact PySem.EqNone.ne_int_none (jI I q (by simp))
  |int j=>obtain⟨t',rfl⟩:=ry;exact ne_int (jI I q (congrArg not DF))
  |str j=>obtain⟨t',rfl⟩:=ry;exact PySem.EqMixed.ne_int_str (jI I q (by simp))
  |_=>exact absurd (show false=true from hs) D8
 |str i=>
  obtain⟨t,rfl⟩:=rx;cases y with
  |non=>cases ry;exact PySem.EqNone.ne_str_none (jI I q (by simp))
  |bl j=>cases ry;exact PySem.EqMixed.ne_str_bool (jI I q (by simp))
  |int j=>obtain⟨t',rfl⟩:=ry;exact PySem.EqMixed.ne_str_int (jI I q (by simp))
  |str j=>obtain⟨t',rfl⟩:=ry;exact ne_str (jI I q (congrArg not DG))
  |_=>exact absurd (show false=true from hs) D8
 |byt i=>
  obtain⟨t,rfl⟩:=rx;cases y with
  |byt j=>obtain⟨t',rfl⟩:=ry;exact IS (jI I q (congrArg not DH))
  |_=>exact absurd (show false=true from hs) D8
 |_=>cases y<;>exact absurd (show false=true from hs) D8
theorem Ts:OpR X (N3 .Lt) (rI0 λi j=> .bl (decide (i<j))):=Tb λ_ _ _ _ _ _ _ q=>lt_int q
theorem Tt:OpR X (N3 .LtE) (rI0 λi j=> .bl (decide (i<=j))):=Tb λ_ _ _ _ _ _ _ q=>le_int q
theorem Tu:OpR X (N3 .Gt) (rI0 λi j=> .bl (decide (j<i))):=Tb λ_ _ _ _ _ _ _ q=>gt_int q
theorem Tv:OpR X (N3 .GtE) (rI0 λi j=> .bl (decide (j<=i))):=Tb λ_ _ _ _ _ _ _ q=>ge_int q
theorem Az:OpR X (N3 .Is) (λx y H Q=>y= .non/\Q (.bl (decide (x= .non))) H):=by
 intro pins s σ H x y v u Q I rx ry h;obtain⟨rfl,q⟩:=h;cases ry;refine is_none_gen (jI I q ?_);cases x<;>first
  |(cases rx;rfl)
  |(obtain⟨t,rfl⟩:=rx;rfl)
variable {r:R2}
theorem OpR.or {f:G1->G1->Sem G1}{r':R2}(h:OpR X f r)(h':OpR X f r'):OpR X f (λx y H Q=>r x y H Q\/r' x y H Q):=by
 intro pins s σ H x y v u Q I rx ry q;rcases q with q|q
 ·exact h pins s σ H x y v u Q I rx ry q
 ·exact h' pins s σ H x y v u Q I rx ry q
theorem DI (b:S6){op:iA}(h:op≠ .In:=by decide)(h2:op≠ .NotIn:=by decide):V7 op b=false:=by
 have e1:(op==CmpOp.In)=false:=by cases op<;>first|rfl|exact absurd rfl h
 have e2:(op==CmpOp.NotIn)=false:=by cases op<;>first|rfl|exact absurd rfl h2
 cases b<;>simp [V7,e1,e2]
theorem Fm {op:iA}(ho:OpR X (N3 op) r)(ha:PE X a ta)(hb:PE X b tb)(hm:V7 op b=false):PE X (.Compare a [op] [b] pos) (tOp r ta tb):=by
 intro pins s σ H Q I h;exact wpAny_Compare1 (Tp ha hb I h λv u s2 x y H2 I2 rx ry q=>ho pins s2 σ H2 x y v u Q I2 rx ry q) hm
def Fn (t:TE):TT:=λσ H Q=>t σ H λx H'=> ∃k,x= .bl k/\Q k H'
theorem Fo {op:iA}(ho:OpR X (N3 op) r)(ha:PE X a ta)(hb:PE X b tb)(hm:V7 op b=false):PT X (.Compare a [op] [b] pos) (Fn (tOp r ta tb)):=by
 intro pins s σ H Q I h;refine wpAny_isTrue_Compare1 (thn (ha pins s σ H _ I h) λv s1 ⟨x,H1,I1,r1,q1⟩=>thn (hb pins s1 σ H1 _ I1 q1) λu s2 ⟨y,H2,I2,r2,q2⟩=>
  thn (ho pins s2 σ H2 x y v u _ I2 r1 r2 q2) λc s3 ⟨z,H3,I3,r3,k,e,q3⟩=> ?_) hm
 subst e;cases r3;exact E7 ⟨H3,I3,q3⟩
def DJ (r r':R2)(ta tb tc:TE):TE:=λσ H Q=>ta σ H λx H1=>tb σ H1 λy H2=>r x y H2 λz H3=> ∃k,z= .bl k/\
 (if k=true then tc σ H3 λw' H4=>r' y w' H4 Q else Q (.bl false) H3)
theorem Nn {op op':iA}{r':R2}(ho:OpR X (N3 op) r)(ho':OpR X (N3 op') r')(ha:PE X a ta)(hb:PE X b tb)(hc:PE X c tc)
 (hm:iU [op,op'] [b,c]=false:=by with_unfolding_all rfl):PE X (.Compare a [op,op'] [b,c] pos) (DJ r r' ta tb tc):=by
 intro pins s σ H Q I h;refine Compare_chain (thn (ha pins s σ H _ I h) λv s1 ⟨x,H1,I1,r1,q1⟩=>chain_link (thn (hb pins s1 σ H1 _ I1 q1) λu s2 ⟨y,H2,I2,r2,q2⟩=>
  thn (ho pins s2 σ H2 x y v u _ I2 r1 r2 q2) λd s3 ⟨z,H3,I3,r3,k,e,q3⟩=> ?_)) hm
 subst e;cases r3;refine E7 ?_;cases k with
 |false=>exact ite_ff ⟨.bl false,H3,I3,rfl,q3⟩
 |true=>exact ite_tt (chain_last (thn (hc pins s3 σ H3 _ I3 q3) λw' s4 ⟨z',H4,I4,r4,q4⟩=>ho' pins s4 σ H4 y z' u w' Q I4 r2 r4 q4))
theorem No {op op':iA}{r':R2}(ho:OpR X (N3 op) r)(ho':OpR X (N3 op') r')(ha:PE X a ta)(hb:PE X b tb)(hc:PE X c tc)
 (hm:iU [op,op'] [b,c]=false:=by with_unfolding_all rfl):PT X (.Compare a [op,op'] [b,c] pos) (Fn (DJ r r' ta tb tc)):=by
 intro pins s σ H Q I h;refine isTrue_chain (thn (ha pins s σ H _ I h) λv s1 ⟨x,H1,I1,r1,q1⟩=>test_link (thn (hb pins s1 σ H1 _ I1 q1) λu s2 ⟨y,H2,I2,r2,q2⟩=>
  thn (ho pins s2 σ H2 x y v u _ I2 r1 r2 q2) λd s3 ⟨z,H3,I3,r3,k,e,q3⟩=> ?_)) hm
 subst e;cases r3;refine E7 ?_;cases k with
 |false=>
  obtain⟨k',e',q'⟩:=q3;cases e';exact ite_ff ⟨H3,I3,q'⟩
 |true=>
  refine ite_tt (test_last (thn (hc pins s3 σ H3 _ I3 q3) λw' s4 ⟨z',H4,I4,r4,q4⟩=>thn (ho' pins s4 σ H4 y z' u w' _ I4 r2 r4 q4) λd' s5 ⟨z2,H5,I5,r5,k2,e2,q5⟩=> ?_));subst e2;cases r5;exact E7 ⟨H5,I5,q5⟩
theorem Us:(sizeLine:G8)<2^63:=by rw [eZ];decide
theorem vD {x:V}{us:G0 G1}(r:Vals [x] us): ∃u,us= [u]/\RelV x u:=by
 cases r with
 |cons r1 r2=>cases r2;exact⟨_,rfl,r1⟩
theorem DK {x y:V}{us:G0 G1}(r:Vals [x,y] us): ∃u w',us= [u,w']/\RelV x u/\RelV y w':=by
 cases r with
 |cons r1 r2=>
  cases r2 with
  |cons r3 r4=>cases r4;exact⟨_,_,rfl,r1,r3⟩
theorem DL (hc:X.calm=true):CallR X (.builtin "max") (λxs H Q=> ∃i j,xs= [.int i,.int j]/\Q (.int (if j>i then j else i)) H):=by
 intro pins s σ H xs us Q I r h;obtain⟨i,j,rfl,q⟩:=h;obtain⟨u,w',rfl,⟨t,rfl⟩,⟨t',rfl⟩⟩:=DK r;refine max_two_ints (I.ok.hd hc) λh' tk k=>⟨_,H,I.kept k,?_,q⟩
 by_cases hj:j>i
 ·rw [R1 hj,R1 hj];exact⟨_,rfl⟩
 ·rw [R3 hj,R3 hj];exact⟨_,rfl⟩
theorem DM (hc:X.calm=true):CallR X (.builtin "min") (λxs H Q=> ∃i j,xs= [.int i,.int j]/\Q (.int (if j<i then j else i)) H):=by
 intro pins s σ H xs us Q I r h;obtain⟨i,j,rfl,q⟩:=h;obtain⟨u,w',rfl,⟨t,rfl⟩,⟨t',rfl⟩⟩:=DK r;refine min_two_ints (I.ok.hd hc) λh' tk k=>⟨_,H,I.kept k,?_,q⟩
 by_cases hj:j<i
 ·rw [R1 hj,R1 hj];exact⟨_,rfl⟩
 ·rw [R3 hj,R3 hj];exact⟨_,rfl⟩
theorem call_int1:CallR X (.type "int") (λxs H Q=>(∃i,xs= [.int i]/\Q (.int i) H)\/ ∃k,xs= [.bl k]/\Q (.int (if k then 1 else 0)) H):=by
 intro pins s σ H xs us Q I r h;rcases h with ⟨i,rfl,q⟩|⟨k,rfl,q⟩
 ·obtain⟨u,rfl,t,rfl⟩:=vD r;exact call_int_int ⟨.int i,H,I,⟨_,rfl⟩,q⟩
 ·obtain⟨u,rfl,r1⟩:=vD r;cases r1;exact call_int_bool ⟨.int (if k then 1 else 0),H,I.tok _,⟨_,rfl⟩,q⟩
end
structure ObjM (h:M4)(x dx C:G5)(mA:Str->P0 G1):Prop where
 obj:h.get? x=some (lQ C dx)
 ns:h.Ns1 dx mA
 ne:dx≠x
theorem DN {dx:G5}{mA:Str->P0 G1}(n:h.Ns1 dx mA): ∃od,h.get? dx=some od/\ ∀name,mH name od=some (mA name):=by
 obtain⟨o,es,ep,ho,hd,hk,_,hm⟩:=n;refine⟨o,ho,λname=> ?_⟩;have e:=hm name;unfold nsFind G0c at e;rw [<-n5] at e;unfold mH;rw [hd];dsimp only;split
 ·rename_i y q;rw [q] at e;exact congrArg some e
 ·rename_i q;rw [q] at e;have a:es.toList.any (·.refKey)=false:=by
   rw [List.any_eq_false];intro y hy;obtain⟨z,t,hkey⟩:=hk y (mI.mp hy);simp [DictEntry.refKey,hkey]
  have a': ¬es.toList.any (·.refKey)=true:=by rw [a];exact D8
  rw [R3 a'];exact congrArg some e
variable {C:G5}
theorem ObjM.look {x dx:G5}{mA:Str->P0 G1}(I:ObjM h x dx C mA): ∃od,G0d h x (lQ C dx) C (some od)/\ ∀name,mH name od=some (mA name):=
 let ⟨od,ho,hl⟩:=DN I.ns
 ⟨od,⟨I.obj,rfl,rfl,ho⟩,hl⟩
theorem RelO.some_of {v:V}{o:P0 G1}(r:RelO (some v) o): ∃u,o=some u/\RelV v u:=by
 cases o with
 |none=>exact(show False from r).elim
 |some u=>exact⟨u,rfl,r⟩
theorem RelO.none_of {o:P0 G1}(r:RelO none o):o=none:=by
 cases o with
 |none=>rfl
 |some u=>exact(show False from r).elim
section
variable {P:D5}{w:T5}{H H':Hp}{h h':M4}{a C dx:G5}{fs fs':G0 (Str×V)}
theorem Fp (hok:HOk P w H h)(e:H a=some (.ins C dx fs)): ∃mA,ObjM h a dx C mA/\(∀f,RelO (fs.lookup f) (mA f))/\j7 mA (fs.map (·.1))/\fs.length<=1000/\H dx=some (.own a):=by
 obtain⟨d,z,ne,ob,mA,n,r,q⟩:=(show ObjOk P w H h a (.ins C dx fs) from hok a _ e);exact⟨mA,⟨ob,n,ne⟩,r,q,z,d⟩
end
structure Cls (K:G3)(C:G5):Prop where
 pg:pT K C uK=true
 hd:II K C=true
 po:IJ K C=true
 sa:rT K (.ref C) "__setattr__" =some (some (.builtin "object.__setattr__"))
theorem Cls.get (c:Cls K C)(f:Str):pT K C f=true:=c.pg
section
variable {X:Cx}{pins:G0 (G5×Obj)}{σ:St}{H:Hp}{s:G2}{a C dx:G5}{fs:G0 (Str×V)}{f:Str}{v:V}{A:R6}{E:G1->G2->Prop}
theorem Fq {prog:D5}{w:T5}{env:Env}{e:S6}{f:Str}{pos:Pos}{s:G2}{Q:G1->G2->Prop}(hb:K6 e f env (C8 e env)=C8 e env)
 (h:D1 (D3 prog w) A (C8 e env) (λo s₁=>D1 (D3 prog w) A (IK o f true) Q E s₁) E s):D1 (D3 prog w) A (C8 (.Attribute e f pos) env) Q E s:=
 Attribute_any_ h (by rw [arm_eval_Attribute,hb])
end
section
variable {X:Cx}{pins:G0 (G5×Obj)}{σ:St}{H:Hp}{s:G2}{A:R6}{E:G1->G2->Prop}{Q:G1->G2->Prop}{c:G1}{b:N0}
inductive TyOf (K:G3)(H:Hp):V->G1->Prop where
 |non:TyOf K H .non (.type "NoneType")
 |bl (x:N0):TyOf K H (.bl x) (.type "bool")
 |int (i:P2):TyOf K H (.int i) (.type "int")
 |str (x:Str):TyOf K H (.str x) (.type "str")
 |flt (x:UInt64):TyOf K H (.flt x) (.type "float")
 |lst {a:G5} {xs:G0 V} (e:H a=some (.lst xs)):TyOf K H (.ref a) (.type "list")
 |frz {a:G5} {o:Obj} {xs:G0 V} (e:H a=some (.frz o (.lst xs))):TyOf K H (.ref a) (.type "list")
 |tup {a:G5} {xs:G0 V} (e:H a=some (.tup xs)):TyOf K H (.ref a) (.type "tuple")
 |dK {a:G5} {kvs:G0 (Key×V)} (e:H a=some (.dK kvs)):TyOf K H (.ref a) (.type "dict")
 |dT {a:G5} {kvs:G0 (G0 Key×V)} (e:H a=some (.dT kvs)):TyOf K H (.ref a) (.type "dict")
 |ins {a C dx:G5} {fs:G0 (Str×V)} (e:H a=some (.ins C dx fs)) (cl:Cls K C) (ha:rT K (.ref C) "__class__" =some (some (.builtin "object.__class__")))
  (hn:IL K (.builtin "object.__class__") "__get__" =some (some (.builtin "getset_descriptor.__get__"))) (htk:G0a K (.builtin "object.__class__")=some true)
  (hm:G0r K C (.type "object")=some true):TyOf K H (.ref a) (.ref C)
theorem DO {x:V}{u t:G1}(I:Inv X pins σ H s)(rx:RelV x u)(ty:TyOf X.K H x t)(e:gA X.K t c=some b)(h: ∀tk,Q (.bool b) {s with toks:=tk}):
 D1 (D3 X.prog X.w) A (call (.builtin "isinstance") [u,c]) Q E s:=by
 cases ty with
 |non=>cases (show u=bI from rx);exact J7 IM I.kIn Q6 e (λz=>nomatch z) h
 |bl y=>cases (show u=j6 y from rx);exact J7 IN I.kIn Q6 e (λz=>nomatch z) h
 |int i=>obtain⟨t,q⟩:=(show ∃t,u=dX i t from rx);cases q;exact J7 IT I.kIn Q6 e (λz=>nomatch z) h
 |str y=>obtain⟨t,q⟩:=(show ∃t,u=m5 y t from rx);cases q;exact J7 IU I.kIn Q6 e (λz=>nomatch z) h
 |flt y=>obtain⟨t,q⟩:=(show ∃t,u=xA y t from rx);cases q;exact J7 z5 I.kIn Q6 e (λz=>nomatch z) h
 | @lst a xs ea=>
  cases (show u=B0 a from rx);obtain⟨_,_,n,_,h1⟩:=(show ObjOk X.prog X.w H s.heap a (.lst xs) from I.hok a _ ea);exact J7 oS I.kIn ⟨_,h1,rfl⟩ e (λz=>nomatch z) h
 | @frz a ob xs ea=>
  cases (show u=B0 a from rx);obtain⟨_,_,_,n,_,h1⟩:=(show ObjOk X.prog X.w H s.heap a (.frz ob (.lst xs)) from I.hok a _ ea);exact J7 oS I.kIn ⟨_,h1,rfl⟩ e (λz=>nomatch z) h
 | @tup a xs ea=>
  cases (show u=B0 a from rx);obtain⟨_,_,_,p⟩:=(show ObjOk X.prog X.w H s.heap a (.tup xs) from I.hok a _ ea);obtain⟨o,h1,h2,_⟩:=p;exact J7 z6 I.kIn ⟨o,h1,h2⟩ e (λz=>nomatch z) h
 | @dK a kvs ea=>
  cases (show u=B0 a from rx);obtain⟨_,_,vs,_,p⟩:=(show ObjOk X.prog X.w H s.heap a (.dK kvs) from I.hok a _ ea);obtain⟨o,es,ep,h1,h2,_⟩:=p;exact J7 oU I.kIn ⟨o,h1,h2.1⟩ e (λz=>nomatch z) h
 | @dT a kvs ea=>
  cases (show u=B0 a from rx);obtain⟨_,_,xs,_,o,es,ep,h1,h2,_⟩:=(show ObjOk X.prog X.w H s.heap a (.dT kvs) from I.hok a _ ea);exact J7 oU I.kIn ⟨o,h1,h2.1⟩ e (λz=>nomatch z) h
 | @ins a C dx fs ea cl ha hn htk hm=>
  cases (show u=B0 a from rx);obtain⟨mA,O,_⟩:=Fp I.hok ea;obtain⟨od,J,_⟩:=O.look;exact J7 (IV (cl.get _) cl.hd ha hn htk hm) I.kIn J e (λz=>nomatch z) h
end
structure Room (k:G8)(A:R6):Prop where
 hd:A.handled=none
 dp:A.depth+3*k+5<recursionLimit
 un:A.units+16*k+200<cLine
 gd:A.guards=some []
variable {k:G8}
theorem Room.mono {j:G8}(r:Room k A)(h:j<=k):Room j A:=⟨r.hd,by have:=r.dp;omega,by have:=r.un;omega,r.gd⟩
theorem Room.deeper (r:Room (k+1) A)(env:Env):Room k (A.deeper env):=
 ⟨r.hd,by have:=r.dp;show A.depth+1+3*k+5<_;omega,by have:=r.un;show A.units+3+16*k+200<_;omega,r.gd⟩
theorem GX {kw:G0 (Str×G1)}:(A.under (.builtin "type.__call__" ⟨.ref C::us,kw⟩)).depth=A.depth+1:=by
 first|rfl|simp [fT,Code.weight,Code.isCreation,uV,Code.isCaller,xF,oV,guardIds]
theorem GY {kw:G0 (Str×G1)}:(A.under (.builtin "type.__call__" ⟨.ref C::us,kw⟩)).units=A.units+1:=by
 first|rfl|simp [fT,Code.cUnits,xF,oV]
theorem XV {kw:G0 (Str×G1)}:(A.under (.builtin "type.__call__" ⟨.ref C::us,kw⟩)).guards=A.guards:=by
 first|rfl|(have:xG (.builtin "type.__call__" ⟨.ref C::us,kw⟩)= []:=by (simp [xG,uV,guardIds]);simp [fT,this,PySem.pushGuards])
theorem Room.make (r:Room (k+1) A)(C:G5)(us:G0 G1)(kw:G0 (Str×G1)):Room k (A.under (.builtin "type.__call__" ⟨.ref C::us,kw⟩)):=
 ⟨r.hd,by have:=r.dp;rw [GX];omega,by have:=r.un;rw [GY];omega,by rw [XV];exact r.gd⟩
theorem Room.depth (r:Room k A):A.depth<recursionLimit:=by have:=r.dp;omega
theorem Room.units (r:Room k A):A.units+64<cLine:=by have:=r.un;omega
def Tw:TA:=λ_ H Q=>Q [] H
def Np (ta:TE)(tr:TA):TA:=λσ H Q=>ta σ H λx H1=>tr σ H1 λxs H2=>Q (x::xs) H2
section
variable {X:Cx}{e:S6}{es:G0 S6}{te:TE}{t:TA}{pos:Pos}
theorem pa_nil:PA X [] Tw:=λ_ _ _ _ H Q I h=>dD ⟨[],H,I,.nil,h⟩
theorem zS (ha:PE X e te)(hr:PA X es t)(hs:P5 (e::es) X.env=(false,C8 e X.env)::P5 es X.env:=by rfl):PA X (e::es) (Np te t):=by
 intro pos pins s σ H Q I h;rw [hs];show D1 _ _ (uS ((false,C8 e X.env)::F7 pos (P5 es X.env))) _ _ s;refine Y4 (thn (ha pins s σ H _ I h) λu s1 ⟨x,H1,I1,r1,q1⟩=> ?_);exact thn (hr pos pins s1 σ H1 _ I1 q1) λus s2 ⟨xs,H2,I2,r2,q2⟩=>⟨x::xs,H2,I2,.cons r1 r2,q2⟩
def Kp (t:TA):TE:=λσ H Q=>t σ H λxs H1=>xs.length<=sizeLine/\ ∀p,H1 p=none->Q (.ref p) (upd H1 p (.tup xs))
def Kq (t:TA):TE:=λσ H Q=>t σ H λxs H1=>xs.length<=sizeLine/\ ∀p,H1 p=none->Q (.ref p) (upd H1 p (.lst xs))
theorem AA {x1}(h:PA X es t):PE X (.Tuple es x1 pos) (Kp t):=by
 intro pins s σ H Q I hq;refine wpAny_Tuple_spliced (thn (h pos pins s σ H _ I hq) λus s1 ⟨xs,H1,I1,r,z,q⟩=>⟨by rw [<-r.length];exact z,?_⟩);have hf:H1 s1.heap.objs.size=none:=I1.hok.fresh (P1 _);refine⟨.ref s1.heap.objs.size,upd H1 s1.heap.objs.size (.tup xs),I1.laid (t':=s1.toks) (λb u e=>G4 _ e) (P1 _) ?_,rfl,q _ hf⟩;exact⟨z,us,r,IsTupN.new _ _⟩
theorem AB (h:PA X es t):PE X (.List es pos) (Kq t):=by
 intro pins s σ H Q I hq;refine n8 (thn (h pos pins s σ H _ I hq) λus s1 ⟨xs,H1,I1,r,z,q⟩=>⟨by rw [<-r.length];exact z,?_⟩);have hf:H1 s1.heap.objs.size=none:=I1.hok.fresh (P1 _);refine⟨.ref s1.heap.objs.size,upd H1 s1.heap.objs.size (.lst xs),I1.laid (t':=s1.toks) (λb u e=>G4 _ e) (P1 _) ?_,rfl,q _ hf⟩;exact⟨z,us,0,r,S4 _ rfl⟩
end
abbrev Sp:=G0 V->Hp->VK->XK->Prop
abbrev CXT:=G0 Env->Hp->G2->XK->G1->G2->Prop
structure Env0 (P:D5)(w:T5)(K:G3)(mg:Str->P0 G1)(base:M4)(A:R6)(outer:G0 Env)(s:G2)(H:Hp):Prop where
 frames:A.frames=some outer
 mod:Mod K mg base
 bs: ∀b o,base.get? b=some o->s.heap.get? b=some o/\H b=none
 bsz:base.objs.size<=s.heap.objs.size
 funs:s.heap.FunFrames base outer
 frf: ∀b∈frs outer,H b=none
 hok:HOk P w H s.heap
 bare:fQ s.gens
def CE (outer:G0 Env)(P:D5)(w:T5)(H:Hp)(s:G2)(Q:VK)(u:G1)(s':G2):Prop:=
 ∃v H',s'.os=s.os/\fQ s'.gens/\Un (frs outer) [] H H' s.heap s'.heap/\HOk P w H' s'.heap/\RelV v u/\Q v H'
def CR (CX:CXT)(outer:G0 Env)(P:D5)(w:T5)(H:Hp)(s:G2)(Q:VK)(E:XK)(r:j9)(s':G2):Prop:=
 match r with
 | .ok (.ret u)=>CE outer P w H s Q u s'
 | .ok _=>False
 | .error e=>CX outer H s E e s'
structure FnOk (P:D5)(w:T5)(K:G3)(mg:Str->P0 G1)(base:M4)(CX:CXT)(k:G8)(f:G5)(fd:R4)(ps:G0 Str)(sp:Sp):Prop where
 len: ∀vs H Q E,sp vs H Q E->vs.length=ps.length
 run: ∀ (A:R6) (outer:G0 Env) (s:G2) (H:Hp) (args:Args) (us:G0 G1) (vs:G0 V) (Q:VK) (E:XK),Room k A->Env0 P w K mg base A outer s H->m8 s fd args (ps.zip us)->Vals vs us->sp vs H Q E->
  E8 (D3 P w) A (.call (.ref f) args) (CR CX outer P w H s Q E) s
variable {base:M4}
theorem Env0.make {mg:Str->P0 G1}{outer:G0 Env}(e:Env0 P w K mg base A outer s H)(C:G5)(us:G0 G1)(kw:G0 (Str×G1)):
 Env0 P w K mg base (A.under (.builtin "type.__call__" ⟨.ref C::us,kw⟩)) outer s H:=⟨by first|exact e.frames|(simpa [fT,Code.envs,oV,pushEnvs] using e.frames),e.mod,e.bs,e.bsz,e.funs,e.frf,e.hok,e.bare⟩
section
variable {X:Cx}{pins:G0 (G5×Obj)}{σ:St}{H:Hp}{s s':G2}
theorem Inv.env0 (I:Inv X pins σ H s):Env0 X.prog X.w X.K X.mg X.base X.A X.stack s H:=
 ⟨I.ok.frames,I.ok.mod,I.bs,T9 I.ok.bsz I.sz,I.stack,I.stkFree,I.hok,I.bare⟩
theorem Inv.after {Q:VK}{u:G1}(I:Inv X pins σ H s)(h:CE X.stack X.prog X.w H s Q u s'):EP X pins σ Q u s':=by
 obtain⟨v,H',os,bare,un,hok,r,q⟩:=h;obtain⟨hh,g,d,t,os'⟩:=s';obtain rfl:os'=s.os:=os;exact⟨v,H',I.call (h':=hh) (g':=g) (d':=d) (t':=t) (ch:= []) un hok bare (λb z=>absurd z (by simp)),r,q⟩
end
def Fr (sp:Sp)(dvs:G0 V)(E:XK)(t:TA):TE:=λσ H Q=>t σ H λvs H1=>sp (vs++dvs) H1 Q E
def Binds (K:G3)(fd:R4)(ps:G0 Str)(ds:G0 G1):Prop:=
 ∀ (s:G2) (us:G0 G1),K.In s.heap->(us++ds).length=ps.length->m8 s fd ⟨us,[]⟩ (ps.zip (us++ds))
theorem Binds.all {fd:R4}{ps:G0 Str}(h: ∀us:G0 G1,us.length=ps.length->oW fd ⟨us,[]⟩=pure (ps.zip us)):Binds K fd ps []:=λs us _ hl=>by
 rw [V0] at hl ⊢;exact .of_eq (h us hl)
def Wm (CX:CXT)(X:Cx)(E:XK):Prop:= ∀ (pins:G0 (G5×Obj)) (σ:St) (H:Hp) (s:G2) (e:G1) (s':G2),Inv X pins σ H s->CX X.stack H s E e s'->X.xe e s'
section
variable {X:Cx}{CX:CXT}{k:G8}{f C:G5}{fd:R4}{ps:G0 Str}{sp:Sp}{dvs:G0 V}{ds:G0 G1}{E:XK}{x m:Str}{p pos apos:Pos}{e o:S6}{es:G0 S6}{ta:TE}{t:TA}
theorem AC {pins:G0 (G5×Obj)}{σ:St}{H:Hp}{s:G2}{Q:VK}{us:G0 G1}{vs:G0 V}(F:FnOk X.prog X.w X.K X.mg X.base CX k f fd ps sp)(hr:Room k X.A)(hb:Binds X.K fd ps ds)(hd:Vals dvs ds)(hx:Wm CX X E)
 (I:Inv X pins σ H s)(r:Vals vs us)(h:sp (vs++dvs) H Q E):D1 (D3 X.prog X.w) X.A (call (.ref f) us) (EP X pins σ Q) X.xe s:=by
 have r2:Vals (vs++dvs) (us++ds):=r.append hd;have hl:(us++ds).length=ps.length:=by rw [<-r2.length];exact F.len _ _ _ _ h
 refine dZ (X5 (F.run X.A X.stack s H ⟨us,[]⟩ (us++ds) (vs++dvs) Q E hr I.env0 (hb s us I.kIn hl) r2 h) λr s' hq=> ?_);cases r with
 |error e=>exact hx pins σ H s e s' I hq
 |ok fl=>
  cases fl with
  |ret u=>exact I.after hq
  |next=>exact False.elim hq
  |brk=>exact False.elim hq
  |cont=>exact False.elim hq
theorem DP (F:FnOk X.prog X.w X.K X.mg X.base CX k f fd ps sp)(hr:Room k X.A)(hg:Gl X x)(hm:X.mg x=some (.ref f))(hk:E2 X.K (.ref f)=true)(hb:Binds X.K fd ps ds)(hd:Vals dvs ds)(hx:Wm CX X E)
 (ha:PA X (e::es) t)(hdb:(x==("__debug__" :Str))=false:=by decide)(he:P5 (e::es) X.env=(false,C8 e X.env)::P5 es X.env:=by rfl)(hpl:(F7 pos (P5 es X.env)).any (·.1)=false:=by rfl):
 PE X (.Call (.Name x p) (e::es) [] pos) (Fr sp dvs E t):=by
 intro pins s σ H Q I h;refine V3 (vP I hg hm ?_ hdb);refine cR (h₀:=X.base) I.ok.mod.kin hk (thn (ha pos pins s σ H _ I h) λus s1 ⟨vs,H1,I1,r,q⟩=>⟨I1.kIn,?_⟩) he hpl;exact AC F hr hb hd hx I1 r q
end
structure FnScope (N P:G0 Str)(sc:H0):Prop where
 kind:sc.kind= .function
 co:sc.isCoroutine=false
 gen:sc.isGenerator=false
 nd:N.Nodup
 pre:N.take P.length=P
 par: ∀x∈P,sc.names.lookup x=some .local\/sc.names.lookup x=some .cell
 nofree: ∀y∈sc.names,y.2≠ .free
variable {kindOf:Str->P0 NameKind}{x:Str}
theorem Ut: ∀ {binds:G0 (Str×G1)} {m:Str->P0 G1},(∀v,(x,v) ∉ binds)->qM kindOf binds m x=m x
 | [],_,_=>rfl
 |(n,v)::r,m,h=>by
  unfold qM;rw [Ut λw hw=>h w (D7 _ hw)];split
  ·have:x≠n:=by rintro rfl;exact h v P3
   simp [this]
  ·rfl
theorem Uu: ∀ {binds:G0 (Str×G1)} {m:Str->P0 G1},(∀v,(x,v) ∉ binds)->qN kindOf binds m x=m x
 | [],_,_=>rfl
 |(n,v)::r,m,h=>by
  unfold qN;rw [Uu λw hw=>h w (D7 _ hw)];split
  ·rfl
  ·have:x≠n:=by rintro rfl;exact h v P3
   simp [this]
theorem Wn {v:G1}: ∀ {P:G0 Str} {vs:G0 G1} {i:G8} {m:Str->P0 G1},P.Nodup->P[i]? =some x->vs[i]? =some v->kindOf x=some .local->
 qM kindOf (P.zip vs) m x=some v
 | [],_,_,_,_,h,_,_=>by simp at h
 |_::_,[],_,_,_,_,h,_=>by simp at h
 |p::P,w::vs,0,m,nd,h1,h2,hk=>by
  simp at h1 h2;subst h1;subst h2;show qM kindOf ((p,w)::P.zip vs) m p=_;unfold qM;rw [Ut λv hv=>(O9.mp nd).1 (cL hv).1,R1 hk];simp
 |p::P,w::vs,i+1,m,nd,h1,h2,hk=>by
  show qM kindOf ((p,w)::P.zip vs) m x=_;unfold qM;exact Wn (i:=i) (O9.mp nd).2 (by simpa using h1) (by simpa using h2) hk
theorem Wo {v:G1}: ∀ {P:G0 Str} {vs:G0 G1} {i:G8} {m:Str->P0 G1},P.Nodup->P[i]? =some x->vs[i]? =some v->kindOf x≠some .local->
 qN kindOf (P.zip vs) m x=some v
 | [],_,_,_,_,h,_,_=>by simp at h
 |_::_,[],_,_,_,_,h,_=>by simp at h
 |p::P,w::vs,0,m,nd,h1,h2,hk=>by
  simp at h1 h2;subst h1;subst h2;show qN kindOf ((p,w)::P.zip vs) m p=_;unfold qN;rw [Uu λv hv=>(O9.mp nd).1 (cL hv).1,R3 hk];simp
 |p::P,w::vs,i+1,m,nd,h1,h2,hk=>by
  show qN kindOf ((p,w)::P.zip vs) m x=_;unfold qN;exact Wo (i:=i) (O9.mp nd).2 (by simpa using h1) (by simpa using h2) hk
def start (N:G0 Str)(vs:G0 V):St:=vs.map some++S7 (N.length-vs.length) none
def Yr (CX:CXT)(P:D5)(w:T5)(K:G3)(mg:Str->P0 G1)(base:M4)(N:G0 Str)(qual:Str)(scope:H0)(f:G5)(cd:G1)(A:R6)(outer:G0 Env)(s:G2)(H:Hp)(E:XK):Cx where
 prog:=P
 w:=w
 K:=K
 mg:=mg
 base:=base
 A:=A.deeper (E4 qual scope s.heap.objs.size f cd)
 N:=N
 s₀:=s
 H₀:=H
 env:=E4 qual scope s.heap.objs.size f cd
 outer:=outer
 stack:=E4 qual scope s.heap.objs.size f cd::outer
 ex:= []
 calm:=true
 fn:=λ_=>true
 pn:= []
 xe:=λe s'=>D1 (D3 P w) (A.deeper (E4 qual scope s.heap.objs.size f cd)) (k9 (E4 qual scope s.heap.objs.size f cd) e) (λ_ s''=>CX outer H s E e s'') (λe' s''=>CX outer H s E e' s'') s'
theorem yx {sc:H0}{n:G8}(h:sc.names.lookup x=some .cell): ∃c,(K3 n sc.names []).lookup x=some c:=by
 have q:=aL sc.names n [] (.inl h);exact F2.mp q
theorem Uv {CX:CXT}{mg:Str->P0 G1}{N ps:G0 Str}{qual:Str}{scope:H0}{f:G5}{cd:G1}{outer:G0 Env}{s1:G2}{E:XK}{vs:G0 V}
 (S:FnScope N ps scope)(hd:A.handled=none)(e0:Env0 P w K mg base A outer s H)(hl:vs.length=ps.length)(r:Vals vs us)
 (x:InCallC s s.heap.objs.size (qM (E4 qual scope s.heap.objs.size f cd).kindOf (ps.zip us) λ_=>none) (K3 (s.heap.objs.size+1) scope.names []) (qN (E4 qual scope s.heap.objs.size f cd).kindOf (ps.zip us) λ_=>none) s1):
 Inv (Yr CX P w K mg base N qual scope f cd A outer s H E) [] (start N vs) H s1:=by
 have hpl:ps.length<=N.length:=by have:=congrArg e8 S.pre;rw [F3] at this;omega
 obtain⟨h1,tk,rfl,hk⟩:=x.done;have noA: ∀b:G5,b ∉ (Yr CX P w K mg base N qual scope f cd A outer s H E).ex:=λb z=>absurd (show b∈([]:G0 G5) from z) (by simp)
 refine⟨⟨e0.mod,S.kind,rfl,rfl,P1 _,λy z c h1 h2=> ?_,λy hy=> ?_,λy c _ h=> ?_,λ_=>hd,e9 e0.frames,.inr ⟨rfl,rfl⟩,λb z=>absurd z (noA b),e0.bs,e0.bsz,λb _ _=>noA b,λb z=>absurd z (noA b),e0.funs,e0.frf⟩,
  rfl,e0.bare,Un.kept hk,⟨_,x.toInCall.ns,λi y v h1 h2 h3=> ?_⟩,λy c h=>⟨_,x.cell y c h⟩,e0.hok.fresh (P1 _),λy c h=> ?_,λp hp=>absurd (show p∈([]:G0 (G5×Obj)) from hp) (by simp),e0.hok.kept hk,?_⟩
 ·exact lA x.apart (L4 h1) (L4 h2)
 ·have hy:scope.names.lookup y=some .cell\/scope.names.lookup y=some .free:=hy;rcases hy with hy|hy
  ·exact yx hy
  ·exact absurd rfl (S.nofree _ (L4 hy))
 ·exact M5 (x.above y c (L4 h))
 ·have hi:i<vs.length:=by
   unfold start at h2
   by_cases hi:i<vs.length
   ·exact hi
   ·rw [Q7 (by simpa using hi)] at h2;rw [cU] at h2;split at h2<;>cases h2
  have ha:vs[i]? =some v:=by
   unfold start at h2;rw [L5 (by simpa using hi),D6] at h2;cases e:vs[i]? with
   |none=>rw [e] at h2;cases h2
   |some a=>rw [e] at h2;cases h2;rfl
  obtain⟨u,hu,rv⟩:=r.get ha;have hp:ps[i]? =some y:=by
   rw [<-S.pre,cG (by omega)];exact h1
  have ndP:ps.Nodup:=by rw [<-S.pre];exact S.nd.sublist (iB _ _)
  refine⟨u,rv,?_⟩;rcases S.par y (M3 hp) with k|k
  ·exact .inl ⟨k,Wn ndP hp hu k⟩
  ·obtain⟨c,e⟩:=yx (n:=s.heap.objs.size+1) k;refine .inr ⟨.inl k,c,e,?_⟩;have q:=x.cell y c e;rw [Wo ndP hp hu (by show scope.names.lookup y≠_;rw [k];decide)] at q;exact q
 ·exact e0.hok.fresh (M5 (x.above y c (L4 h)))
 ·unfold start;show _=N.length;rw [D9,G9,lY];omega
theorem Fs {CX:CXT}{mg:Str->P0 G1}{f:G5}{name qual:Str}{params:m9}{body:G0 C5}{scope:H0}{dV kV doc pm cdv ct oc:G1}{an od:P0 G5}{osl:M1 (P0 G1)}{N ps:G0 Str}{sp:Sp}(lk:K.lookup f=some ⟨oc,od,.func (V8 name qual params body scope dV kV doc pm an cdv ct),osl⟩)(hcd:dE K cdv qual=true)(S:FnScope N ps scope)
 (len: ∀vs H Q E,sp vs H Q E->vs.length=ps.length)
 (hbody: ∀ (A:R6) (outer:G0 Env) (s:G2) (H:Hp) (vs:G0 V) (Q:VK) (E:XK),Room k (A.deeper (E4 qual scope s.heap.objs.size f cdv))->sp vs H Q E->
  ∃t,PSs (Yr CX P w K mg base N qual scope f cdv A outer s H E) body t/\t {nx:=λ_ H'=>Q .non H',rt:=Q} (start N vs) H):
 FnOk P w K mg base CX (k+1) f (V8 name qual params body scope dV kV doc pm an cdv ct) ps sp:=by
 refine⟨len,λA outer s H args us vs Q E hr e0 hb r hsp=> ?_⟩;have hl:=len _ _ _ _ hsp;have KX:K.In s.heap:=e0.mod.kin.keeps λb o e=>(e0.bs b o e).1
 have lim:s.heap.NoLimit:=e0.mod.nolimit.keeps λb o e=>(e0.bs b o e).1
 have hkind: ∀y∈ps.zip us,scope.names.lookup y.1=some .local\/(scope.names.lookup y.1=some .cell/\((K3 (s.heap.objs.size+1) scope.names []).lookup y.1).isSome=true):=λ⟨n,v⟩ hy=>by
  rcases S.par n (cL hy).1 with q|q
  ·exact .inl q
  ·exact .inr ⟨q,aL _ _ _ (.inl q)⟩
 refine dS hr.depth (KX _ _ lk) rfl S.co S.gen rfl (gB KX hcd) (hb _ _ _ _ ?_);refine bK S.kind hkind λenv he s1 x=> ?_
 subst he;refine⟨lim.keeps x.toInCall.keep,oX ?_⟩;obtain⟨t,ht,hq⟩:=hbody A outer s H vs Q E (hr.deeper _) hsp;have I:Inv (Yr CX P w K mg base N qual scope f cdv A outer s H E) [] (start N vs) H s1:=Uv S hr.hd e0 hl r x;refine R7 (ht [] s1 (start N vs) H _ I hq) (λfl s' hs=> ?_) λe s' hs=>hs
 have fin: ∀ {σ':St} {H':Hp} {v:V} {u:G1},Inv (Yr CX P w K mg base N qual scope f cdv A outer s H E) [] σ' H' s'->RelV v u->Q v H'->CE outer P w H s Q u s':=
  λ{σ' H' v u} J rv q=>⟨v,H',J.os,J.bare,J.base,J.hok,rv,q⟩
 cases fl with
 |ret u=>
  obtain⟨v,σ',H',J,rv,q⟩:=hs;exact fin J rv q
 |next=>
  obtain⟨σ',H',J,q⟩:=hs;exact fin (v:=V.non) (u:=bI) J rfl q
 |brk=>
  obtain⟨_,_,_,q⟩:=hs;exact False.elim q
 |cont=>
  obtain⟨_,_,_,q⟩:=hs;exact False.elim q
section
variable {X:Cx}{x:Str}{p pos:Pos}{e:S6}{es:G0 S6}{t:TA}{id T:B2}{r:G0 V->Hp->VK->Prop}
def tCB (r:G0 V->Hp->VK->Prop)(t:TA):TE:=λσ H Q=>t σ H λvs H1=>r vs H1 Q
theorem vt (hc:CallR X (.builtin id) r)(hg:Gl X x)(hm:X.mg x=none)(hv:K1 x=some (.builtin id))(ha:PA X (e::es) t)(hn:x≠ "__name__" :=by decide)(hdb:(x==("__debug__" :Str))=false:=by decide)
 (he:P5 (e::es) X.env=(false,C8 e X.env)::P5 es X.env:=by rfl)(hpl:(F7 pos (P5 es X.env)).any (·.1)=false:=by rfl):PE X (.Call (.Name x p) (e::es) [] pos) (tCB r t):=by
 intro pins s σ H Q I h;refine V3 (YJ I hg hm hv ?_ hn hdb);exact pU (thn (ha pos pins s σ H _ I h) λus s1 ⟨vs,H1,I1,r1,q1⟩=>hc pins s1 σ H1 vs us Q I1 r1 q1) he hpl
theorem Uw (hc:CallR X (.type T) r)(hg:Gl X x)(hm:X.mg x=none)(hv:K1 x=some (.type T))(ha:PA X (e::es) t)(hn:x≠ "__name__" :=by decide)(hdb:(x==("__debug__" :Str))=false:=by decide)
 (he:P5 (e::es) X.env=(false,C8 e X.env)::P5 es X.env:=by rfl)(hpl:(F7 pos (P5 es X.env)).any (·.1)=false:=by rfl):PE X (.Call (.Name x p) (e::es) [] pos) (tCB r t):=by
 intro pins s σ H Q I h;refine V3 (YJ I hg hm hv ?_ hn hdb);exact X4 (thn (ha pos pins s σ H _ I h) λus s1 ⟨vs,H1,I1,r1,q1⟩=>hc pins s1 σ H1 vs us Q I1 r1 q1) he hpl
end
end L2
namespace HT
open PySem PyProof.Rows
def zZ:G0 P2->G0 P2->N0
 | [],[]=>false
 | [],_::_=>true
 |_::_,[]=>false
 |x::xs,y::ys=>if x=y then zZ xs ys else decide (x<y)
theorem Nq (A:R6)(s:G2)(a:P2)(t:Tok)(c:P2)(u:Tok): ∃e,SeqAt.EqAt A s (.int a t) (.int c u) e/\(e=true↔a=c):=
 ⟨(a==c),SeqAt.EqAt.int_int a t c u,by simp⟩
section
variable {prog:D5}{w:T5}{A:R6}{E:G1->G2->Prop}{s:G2}
theorem Ft {t b:G5}{vs ws:G0 G1}{Q:G1->G2->Prop}(ht:qL s.heap t vs.toArray)(hb:qL s.heap b ws.toArray)(hv:vs≠ [])
 (h1:ws= []->Q (.ref t) s)(h2:ws≠ []->Q (.ref s.heap.objs.size) {s with heap:=s.heap.push {cls:= .type "tuple",data:= .seq (vs++ws).toArray}})
 (hsz:vs.length+ws.length<=sizeLine):D1 (D3 prog w) A (J6 .Add (.ref t) (.ref b)) Q E s:=by
 obtain⟨⟨cls,dd,data,sl⟩,ho,hc,n,hd⟩:=id ht;obtain⟨⟨cls2,dd2,G0e,sl2⟩,ho2,hc2,n2,hd2⟩:=id hb;simp only at hc hd hc2 hd2;subst hc hd hc2 hd2;have e:vs.toArray++ws.toArray=(vs++ws).toArray:=by simp
 by_cases hw:ws= []
 ·exact oY ⟨_,ho,rfl⟩ ⟨_,ho2,rfl⟩ iV nJ dF cV (cH _ _)
   (tuple_addW1 t b vs.toArray ws.toArray n n2 dd dd2 sl sl2 (by simpa using hv) (by simp [hw])) ⟨ho,ho2,h1 hw⟩
 ·refine oY ⟨_,ho,rfl⟩ ⟨_,ho2,rfl⟩ iV nJ dF cV (cH _ _)
   (tuple_addW2 t b vs.toArray ws.toArray n n2 dd dd2 sl sl2 (by simpa using hv) (by simpa using hw) (by rw [R9,R9];exact hsz)) ⟨ho,ho2,?_⟩
  rw [e];exact h2 hw
def sIx (n d:G8):P0 P2->G8
 |none=>d
 |some v=>if v<0 then (v+(n:P2)).toNat else min v.toNat n
theorem AD (n d:G8)(hd:d<=n)(o:P0 P2):sIx n d o<=n:=by
 cases o with
 |none=>exact hd
 |some v=>
  show (if v<0 then (v+(n:P2)).toNat else min v.toNat n)<=n
  by_cases hv:v<0
  ·rw [R1 hv];omega
  ·rw [R3 hv];exact V4 _ _
theorem DQ (v:P2)(n d:G8):(if v<0 then max (v+(n:P2)) 0 else min v (n:P2))=((sIx n d (some v):G8):P2):=by
 show (if v<0 then max (v+(n:P2)) 0 else min v (n:P2))=(((if v<0 then (v+(n:P2)).toNat else min v.toNat n):G8):P2)
 by_cases hv:v<0
 ·simp only [R1 hv];omega
 ·simp only [R3 hv];omega
theorem GZ (lo hi:P0 P2)(n:G8):V1 lo hi 1 (n:P2)=(((sIx n 0 lo:G8):P2),((sIx n n hi:G8):P2)):=by
 have h1: ¬ ((1:P2)<0):=by omega
 unfold V1;simp only [h1,gC];refine Prod.ext ?_ ?_
 ·cases lo with
  |none=>rfl
  |some v=>exact DQ v n 0
 ·cases hi with
  |none=>rfl
  |some v=>exact DQ v n n
theorem Pa (i j:G8):L6 (i:P2) (j:P2) 1=j-i:=by
 unfold L6;have h1:(1:P2)>0:=by omega
 simp only [h1,iC,uW];split<;>omega
theorem YK {v:G1}{o:P0 P2}{Q:P0 P2->G2->Prop}(p:lB v o)(h:Q o s):D1 (D3 prog w) A (qU v) Q E s:=by
 cases p with
 |none=>exact gE h
 |int i t=>exact sW h
theorem yM {sl:G5}{vl vu:G1}{lo hi:P0 P2}{n:G8}{Q:P2×P2×G8->G2->Prop}(hs:s.heap.IsSliceOf sl vl vu .none)(pl:lB vl lo)(pu:lB vu hi)
 (h:Q (((sIx n 0 lo:G8):P2),1,sIx n n hi-sIx n 0 lo) s):D1 (D3 prog w) A (Y5 (.ref sl) (pure (n:P2))) Q E s:=by
 obtain⟨os,hos,hcs,hds⟩:=id hs;unfold Y5 g8;refine wpAny_bind (wpAny_bind (cW hos hds (x:=vl) rfl (wpAny_bind (cW hos hds (x:=vu) rfl (wpAny_bind (cW hos hds (x:= .none) rfl (G7 ?_)))))));refine wpAny_bind (gE ?_);show D1 _ _ (if ((1:P2)==0)=true then _ else _) _ _ s;rw [R3 (by decide)];refine wpAny_bind (YK pl (wpAny_bind (YK pu (wpAny_bind (G7 ?_)))));show D1 _ _ (match V1 lo hi 1 (n:P2) with|(lo,hi)=>pure (lo,(1:P2),L6 lo hi 1)) _ _ s;rw [GZ lo hi n];show D1 _ _ (pure (((sIx n 0 lo:G8):P2),(1:P2),L6 ((sIx n 0 lo:G8):P2) ((sIx n n hi:G8):P2) 1)) _ _ s;rw [Pa];exact G7 h
theorem Nr (xs:M1 G1)(i k:G8):((P7 k).filterMap λ(m:G8)=>xs[((i:P2)+(m:P2)*1).toNat]?).toArray=((xs.toList.drop i).take k).toArray:=by
 have e:(λ(m:G8)=>xs[((i:P2)+(m:P2)*1).toNat]?)=λm=>xs[i+m]? :=by
  funext m
  have:((i:P2)+(m:P2)*1).toNat=i+m:=by omega
  rw [this]
 rw [e];have:=pick_run xs i k;rw [n9] at this;have e2:((λx=>xs[x]?)∘λx=>i+x)=λm=>xs[i+m]? :=rfl
 rw [e2] at this;rw [this]
theorem Zm {t sl:G5}{items:M1 G1}{vl vu:G1}{lo hi:P0 P2}{Q:G1->G2->Prop}(ht:qL s.heap t items)(hs:s.heap.IsSliceOf sl vl vu .none)(pl:lB vl lo)(pu:lB vu hi)
 (hw: ¬ (sIx items.size 0 lo=0/\sIx items.size items.size hi=items.size))
 (h:Q (.ref s.heap.objs.size) {s with heap:=s.heap.push {cls:= .type "tuple",data:= .seq ((items.toList.drop (sIx items.size 0 lo)).take (sIx items.size items.size hi-sIx items.size 0 lo)).toArray}})
 (hsz:items.size<=sizeLine):D1 (D3 prog w) A (iD (.ref t) (.ref sl)) Q E s:=by
 have htake:sizeOk (.seq ((items.toList.drop (sIx items.size 0 lo)).take (sIx items.size items.size hi-sIx items.size 0 lo)).toArray):=by
  show ((items.toList.drop (sIx items.size 0 lo)).take (sIx items.size items.size hi-sIx items.size 0 lo)).toArray.size<=sizeLine;rw [R9,F3,aF,D2];omega
 have hj:sIx items.size items.size hi<=items.size:=AD _ _ (P1 _) hi;obtain⟨os,hos,hcs,hds⟩:=id hs;have hTs:s.TypeIs (.ref sl) "slice" :=⟨os,hos,hcs⟩;unfold iD
 try with_reducible refine B5 ?_
 first|refine wpAny_bind (G7 ?_)|skip
 refine wpAny_bind (iE ht.typeIs (by decide) ?_);refine wpAny_bind (aG (name:=G6 "__getitem__") ht.typeIs O7
  (F4 O7 ht.typeIs fN ?_ (gF _ _)))
 show D1 _ _ (Q8 (.ref t) >>= _) _ _ s;refine wpAny_bind (iK ht ?_);refine wpAny_bind (dG hTs ?_);rw [R1 (by decide)];refine wpAny_bind (yM hs pl pu ?_);have hno: ¬ ((((sIx items.size 0 lo:G8):P2)==0&&(1:P2)==1&&(sIx items.size items.size hi-sIx items.size 0 lo)==items.size)=true):=by
  intro q;rw [S9,S9] at q;have q1:((sIx items.size 0 lo:G8):P2)=0:=eq_of_beq q.1.1;have q2:sIx items.size items.size hi-sIx items.size 0 lo=items.size:=eq_of_beq q.2;exact hw ⟨by omega,by omega⟩
 show D1 _ _ (if (((sIx items.size 0 lo:G8):P2)==0&&(1:P2)==1&&(sIx items.size items.size hi-sIx items.size 0 lo)==items.size)=true then _ else _) _ _ s;rw [R3 hno,Nr]
 first
  |exact wpAny_bind (m:=O6 _) (A3 (G7 ⟨_,rfl,G7 h⟩) htake)
  |exact wpAny_bind (m:=O6 _) (A3 (wpAny_bind (G7 (G7 ⟨_,rfl,G7 h⟩))) htake)
  |exact wpAny_bind (wpAny_bind (m:=O6 _) (A3 (G7 (G7 ⟨_,rfl,G7 h⟩)) htake))
  |exact wpAny_bind (wpAny_bind (m:=O6 _) (A3 (G7 ⟨_,rfl,G7 h⟩) htake))
end
end HT
namespace L2
open PySem PySem.Spec PyProof.Rows
abbrev TO:=St->Hp->(P0 P2->Hp->Prop)->Prop
def PO (X:Cx)(e:P0 S6)(t:TO):Prop:=
 ∀ (pins:G0 (G5×Obj)) (s:G2) (σ:St) (H:Hp) (Q:P0 P2->Hp->Prop),Inv X pins σ H s->t σ H Q->
  D1 (D3 X.prog X.w) X.A (evalPart e X.env) (λu s'=> ∃o H',Inv X pins σ H' s'/\lB u o/\Q o H') X.xe s
def Fu:TO:=λ_ H Q=>Q none H
def Tx (t:TE):TO:=λσ H Q=>t σ H λx H1=> ∃i,x= .int i/\Q (some i) H1
section
variable {X:Cx}{e:S6}{te:TE}{lo hi:P0 S6}{tl th:TO}{pos p2:Pos}
theorem po_none:PO X none Fu:=by
 intro pins s σ H Q I h;rw [nK];exact G7 ⟨none,H,I,.none,h⟩
theorem Fv (h:PE X e te):PO X (some e) (Tx te):=by
 intro pins s σ H Q I hw;rw [sX];refine thn (h pins s σ H _ I hw) λu s1 ⟨x,H1,I1,r1,q1⟩=> ?_
 obtain⟨i,rfl,q⟩:=q1;obtain⟨t,rfl⟩:=r1;exact⟨some i,H1,I1,.int i t,q⟩
def SlR (X:Cx)(r:V->P0 P2->P0 P2->Hp->VK->Prop):Prop:=
 ∀ (pins:G0 (G5×Obj)) (s:G2) (σ:St) (H:Hp) (x:V) (v vl vu:G1) (lo hi:P0 P2) (sl:G5) (Q:VK),Inv X pins σ H s->RelV x v->s.heap.IsSliceOf sl vl vu .none->lB vl lo->lB vu hi->r x lo hi H Q->
  ∃T id,eG (.type T) "__getitem__" =pure (some (.builtin id))/\s.TypeIs v T/\D1 (D3 X.prog X.w) X.A (iD v (.ref sl)) (EP X pins σ Q) X.xe s
theorem SlR.or {r r':V->P0 P2->P0 P2->Hp->VK->Prop}(h:SlR X r)(h':SlR X r'):SlR X (λx lo hi H Q=>r x lo hi H Q\/r' x lo hi H Q):=by
 intro pins s σ H x v vl vu lo hi sl Q I rx hs pl pu q;rcases q with q|q
 ·exact h pins s σ H x v vl vu lo hi sl Q I rx hs pl pu q
 ·exact h' pins s σ H x v vl vu lo hi sl Q I rx hs pl pu q
def tSl (r:V->P0 P2->P0 P2->Hp->VK->Prop)(te:TE)(tl th:TO):TE:=λσ H Q=>te σ H λx H1=>tl σ H1 λl H2=>th σ H2 λu H3=>r x l u H3 Q
theorem Nt {r:V->P0 P2->P0 P2->Hp->VK->Prop}(hr:SlR X r)(he:PE X e te)(hl:PO X lo tl)(hu:PO X hi th):PE X (.Subscript e (.Slice lo hi none p2) pos) (tSl r te tl th):=by
 intro pins s σ H Q I h;refine rV (thn (he pins s σ H _ I h) λv s1 ⟨x,H1,I1,r1,q1⟩=> ?_);refine xH (thn (hl pins s1 σ H1 _ I1 q1) λvl s2 ⟨l,H2,I2,pl,q2⟩=>thn (hu pins s2 σ H2 _ I2 q2) λvu s3 ⟨u,H3,I3,pu,q3⟩=> ?_);rw [nK];refine G7 ?_;have I4:Inv X pins σ H3 {s3 with heap:=s3.heap.push {cls:= .type "slice",data:= .fields #[vl,vu,.none]}}:=I3.kept (t':=s3.toks) λb ob q=>G4 _ q
 obtain⟨T,id,hT,ht,hg⟩:=hr pins {s3 with heap:=s3.heap.push {cls:= .type "slice",data:= .fields #[vl,vu,.none]}} σ H3 x v vl vu l u s3.heap.objs.size Q I4 r1 (Heap.IsSliceOf.new ..) pl pu q3;show D1 (D3 X.prog X.w) X.A (nM e (.Slice lo hi none p2) v (.ref s3.heap.objs.size)) (EP X pins σ Q) X.xe {s3 with heap:=s3.heap.push {cls:= .type "slice",data:= .fields #[vl,vu,.none]}};exact xI (ops:= [.ref s3.heap.objs.size,v]) ht hT hg (by with_unfolding_all rfl)
def Ng (xs:G0 V)(lo hi:P0 P2):G0 V:=(xs.drop (HT.sIx xs.length 0 lo)).take (HT.sIx xs.length xs.length hi-HT.sIx xs.length 0 lo)
theorem Wp (xs:G0 V)(lo hi:P0 P2):(Ng xs lo hi).length<=xs.length:=by
 unfold Ng;rw [F3,aF];omega
def kf (K:G3):V->P0 P2->P0 P2->Hp->VK->Prop:=λx lo hi H Q=> ∃a xs,x= .ref a/\SqT K H a xs/\
 ¬ (HT.sIx xs.length 0 lo=0/\HT.sIx xs.length xs.length hi=xs.length)/\ ∀p,H p=none->Q (.ref p) (upd H p (.tup (Ng xs lo hi)))
theorem sl_tup:SlR X (kf X.K):=by
 intro pins s σ H x v vl vu lo hi sl Q I rx hs pl pu h;obtain⟨a,xs,rfl,hx,hw,q⟩:=h;cases rx;obtain⟨its,r,ht,hz⟩:=I.tuple hx;have hlen:its.toArray.size=xs.length:=by rw [R9];exact r.length.symm
 refine⟨"tuple",_,PyProof.Rows.slot_tuple_getitem.lookup,ht.typeIs,?_⟩;refine HT.Zm ht hs pl pu (by rw [hlen];exact hw) ?_ (by rw [hlen];exact hz);rw [hlen];refine⟨.ref s.heap.objs.size,_,I.laid (t':=s.toks) (o:= .tup (Ng xs lo hi)) (λb ob q=>G4 _ q) (P1 _) ?_,rfl,q _ (I.hok.fresh (P1 _))⟩;exact⟨T9 (Wp xs lo hi) hz,_,(r.drop (HT.sIx xs.length 0 lo)).take (HT.sIx xs.length xs.length hi-HT.sIx xs.length 0 lo),IsTupN.new _ _⟩
def Ty (K:G3):R2:=λx y H Q=> ∃a b xs ys,x= .ref a/\y= .ref b/\SqT K H a xs/\SqT K H b ys/\xs≠ []/\xs.length+ys.length<=sizeLine/\
 (ys= []->Q (.ref a) H)/\(ys≠ []-> ∀p,H p=none->Q (.ref p) (upd H p (.tup (xs++ys))))
theorem Vals.nil_iff {xs:G0 V}{us:G0 G1}(r:Vals xs us):us= []↔xs= []:=by
 cases r with
 |nil=>simp
 |cons _ _=>simp
theorem op_catT:OpR X (J6 .Add) (Ty X.K):=by
 intro pins s σ H x y v u Q I rx ry h;obtain⟨a,b,xs,ys,rfl,rfl,ha,hb,hx,hz,q1,q2⟩:=h;cases rx;cases ry;obtain⟨its,r1,p1,_⟩:=I.tuple ha;obtain⟨its2,r2,p2,_⟩:=I.tuple hb;refine HT.Ft p1 p2 (λz=>hx (r1.nil_iff.mp z)) (λz=>⟨.ref a,H,I,rfl,q1 (r2.nil_iff.mp z)⟩) (λz=> ?_) (by rw [<-r1.length,<-r2.length];exact hz);refine⟨.ref s.heap.objs.size,_,I.laid (t':=s.toks) (o:= .tup (xs++ys)) (λb ob q=>G4 _ q) (P1 _) ?_,rfl,q2 (λw=>z (r2.nil_iff.mpr w)) _ (I.hok.fresh (P1 _))⟩;exact⟨by rw [D9];exact hz,_,r1.append r2,IsTupN.new _ _⟩
end
def ixN (n:G8)(i:P2):P0 G8:=if 0<=i then (if i<n then some i.toNat else none) else if-(n:P2)<=i then some (i+n).toNat else none
def atI {α:Type}(xs:G0 α)(i:P2):P0 α:=(ixN xs.length i).bind λj=>xs[j]?
theorem DR {n:G8}{i:P2}{j:G8}(h:ixN n i=some j):seqIndex? i n=some j/\j<n/\ -(n:P2)<=i/\i<n:=by
 unfold ixN at h
 by_cases h0:0<=i
 ·rw [R1 h0] at h
  by_cases h1:i<n
  ·rw [R1 h1] at h;have e:i.toNat=j:=L7 h;exact⟨by rw [qO h0 h1,e],by omega,by omega,h1⟩
  ·rw [R3 h1] at h;cases h
 ·rw [R3 h0] at h
  by_cases h1: -(n:P2)<=i
  ·rw [R1 h1] at h;have e:(i+n).toNat=j:=L7 h;exact⟨by rw [oZ (by omega) h1,e],by omega,h1,by omega⟩
  ·rw [R3 h1] at h;cases h
theorem XW {α:Type}{xs:G0 α}{i:P2}{v:α}(h:atI xs i=some v): ∃j,seqIndex? i xs.length=some j/\xs[j]? =some v/\j<xs.length/\ -(xs.length:P2)<=i/\i<xs.length:=by
 unfold atI at h;cases e:ixN xs.length i with
 |none=>rw [e] at h;cases h
 |some j=>
  rw [e] at h;obtain⟨h1,h2,h3,h4⟩:=DR e;exact⟨j,h1,h,h2,h3,h4⟩
theorem Wq {α:Type}{xs:G0 α}{j:G8}{v:α}(h:xs[j]? =some v):atI xs (j:P2)=some v:=by
 have hj:j<xs.length:=(R0.mp h).1;have e:ixN xs.length (j:P2)=some j:=by
  unfold ixN;rw [R1 (by omega),R1 (by omega)];simp
 unfold atI;rw [e];exact h
def Vh (b:S6):Prop:= ∀o i,xJ b false o i=operate [o,i] (iD o i)
def IxR (X:Cx)(r:R2):Prop:=
 ∀ (value slice:S6) (pins:G0 (G5×Obj)) (s:G2) (σ:St) (H:Hp) (x y:V) (v u:G1) (Q:VK),Inv X pins σ H s->RelV x v->RelV y u->r x y H Q->
  xJ slice false v u=operate [v,u] (iD v u)->D1 (D3 X.prog X.w) X.A (nM value slice v u) (EP X pins σ Q) X.xe s
def MtR (X:Cx)(id:B2)(r:V->G0 V->Hp->VK->Prop):Prop:=
 ∀ (pins:G0 (G5×Obj)) (s:G2) (σ:St) (H:Hp) (x:V) (xs:G0 V) (v:G1) (us:G0 G1) (Q:VK),Inv X pins σ H s->RelV x v->Vals xs us->r x xs H Q->
  D1 (D3 X.prog X.w) X.A (call (.builtin id) (v::us)) (EP X pins σ Q) X.xe s
section
variable {X:Cx}{a b:S6}{ta tb:TE}{pos:Pos}
theorem IxR.or {r r':R2}(h:IxR X r)(h':IxR X r'):IxR X (λx y H Q=>r x y H Q\/r' x y H Q):=by
 intro value slice pins s σ H x y v u Q I rx ry q hs;rcases q with q|q
 ·exact h value slice pins s σ H x y v u Q I rx ry q hs
 ·exact h' value slice pins s σ H x y v u Q I rx ry q hs
theorem Tz {r:R2}(hr:IxR X r)(ha:PE X a ta)(hb:PE X b tb)(hs:Vh b):PE X (.Subscript a b pos) (tOp r ta tb):=by
 intro pins s σ H Q I h;exact rV (Tp ha hb I h λv u s2 x y H2 I2 rx ry q=>hr a b pins s2 σ H2 x y v u Q I2 rx ry q (hs _ _))
def Kr (K:G3):R2:=λx y H Q=> ∃p xs i v,x= .ref p/\y= .int i/\SqL K H p xs/\atI xs i=some v/\Q v H
def Ks (K:G3):R2:=λx y H Q=> ∃p xs i v,x= .ref p/\y= .int i/\SqT K H p xs/\atI xs i=some v/\Q v H
def Kt:R2:=λx y H Q=> ∃z i c,x= .str z/\y= .int i/\z.length<=sizeLine/\atI z.cps.toList i=some c/\Q (.str ⟨#[c]⟩) H
theorem ix_list:IxR X (Kr X.K):=by
 intro value slice pins s σ H x y v u Q I rx ry h hs;obtain⟨p,xs,i,z,rfl,rfl,hq,he,q⟩:=h;cases rx;obtain⟨t,rfl⟩:=ry;obtain⟨its,r,pl,hz⟩:=I.list hq;obtain⟨j,h1,h2,h3,h4,h5⟩:=XW he;obtain⟨w,ew,rw'⟩:=r.get h2;have hl:=r.length;have hn:=Us;have fin:EP X pins σ Q w s:=⟨z,H,I,rw',q⟩
 by_cases h0:0<=i
 ·have hj:i.toNat=j:=by
   rw [qO h0 h5] at h1;exact L7 h1
  exact item_listR pl.isList h0 (by omega) (by rw [hj];simpa using ew) fin hs
 ·have hj:(i+(its.toArray.size:P2)).toNat=j:=by
   rw [oZ (by omega) h4] at h1;rw [R9,<-hl];exact L7 h1
  exact lC (x:=w) pl.isList.typeIs slot_list_getitem.lookup
   (wpAny_getItem_list_neg (Q:=λr s'=>r=w/\EP X pins σ Q r s') pl.isList (by omega) (by rw [R9]<;>omega) (by omega) (by rw [hj];simpa using ew) ⟨rfl,fin⟩) hs
theorem ix_tup:IxR X (Ks X.K):=by
 intro value slice pins s σ H x y v u Q I rx ry h hs;obtain⟨p,xs,i,z,rfl,rfl,hq,he,q⟩:=h;cases rx;obtain⟨t,rfl⟩:=ry;obtain⟨its,r,pl,hz⟩:=I.tuple hq;obtain⟨j,h1,h2,h3,h4,h5⟩:=XW he;obtain⟨w,ew,rw'⟩:=r.get h2;have hl:=r.length;have hn:=Us;have fin:EP X pins σ Q w s:=⟨z,H,I,rw',q⟩;exact lC (x:=w) pl.typeIs slot_tuple_getitem.lookup
  (getItem_tuple (j:=j) (Q:=λr s'=>r=w/\EP X pins σ Q r s') pl (by omega) (by omega) (by rw [R9,<-hl];exact h1) (by simpa using ew) ⟨rfl,fin⟩) hs
theorem AE:IxR X Kt:=by
 intro value slice pins s σ H x y v u Q I rx ry h hs;obtain⟨z,i,c,rfl,rfl,hz,he,q⟩:=h;obtain⟨t,rfl⟩:=rx;obtain⟨t',rfl⟩:=ry;obtain⟨j,h1,h2,h3,h4,h5⟩:=XW he;have hl:z.cps.toList.length=z.length:=by simp [Str.length]
 rw [hl] at h1 h4 h5;have hn:=Us;exact xI (z7 s z t) slot_str_getitem.lookup (getItem_str (c:=c) (by
  have e1:decide (i< -(2^63:P2))=false:=T3 (by omega);have e2:decide (i>=2^63)=false:=T3 (by omega);rw [e1,e2,sY]) (by rw [h1];simpa using h2) ⟨.str ⟨#[c]⟩,H,I.tok _,⟨_,rfl⟩,q⟩) hs
def rIx (K:G3):R2:=λx y H Q=>Kr K x y H Q\/Ks K x y H Q\/Kt x y H Q
theorem AF:IxR X (rIx X.K):=ix_list.or (ix_tup.or AE)
theorem Pb (its:G0 G1)(n j:G8)(u:G1):E5 (·.setIfInBounds j u) {cls:= .type "list",data:= .seq its.toArray n}= {cls:= .type "list",data:= .seq (its.set j u).toArray n}:=by
 simp [E5]
theorem Inv.lst {pins:G0 (G5×Obj)}{σ:St}{H:Hp}{s:G2}{p:G5}{xs:G0 V}(I:Inv X pins σ H s)(h:H p=some (.lst xs)):
 ∃ (its:G0 G1) (n:G8),Vals xs its/\s.heap.get? p=some {cls:= .type "list",data:= .seq its.toArray n}/\xs.length<=sizeLine:=by
 obtain⟨z,its,n,r,e⟩:=I.hok p _ h;exact⟨its,n,r,e,z⟩
theorem Inv.lstUpd {pins:G0 (G5×Obj)}{σ:St}{H:Hp}{s:G2}{p:G5}{xs ys:G0 V}{its its':G0 G1}{n n':G8}{f:Obj->Obj}(I:Inv X pins σ H s)(h:H p=some (.lst xs))
 (ho:s.heap.get? p=some {cls:= .type "list",data:= .seq its.toArray n})(hf:f {cls:= .type "list",data:= .seq its.toArray n}= {cls:= .type "list",data:= .seq its'.toArray n'})(r:Vals ys its')(hz:ys.length<=sizeLine)(t:G8):
 Inv X pins σ (upd H p (.lst ys)) {s with heap:=s.heap.update p f,toks:=t}:=by
 have e:(s.heap.update p f).get? p=some {cls:= .type "list",data:= .seq its'.toArray n'}:=by
  rw [B1 f ho (by rw [hf]<;>rfl),hf]
 refine I.write (x:=p) (e:=p) (by rw [h];trivial) (.inl rfl) (λb u hb q=>(X6 _ _ (O0 hb)).trans q) ⟨_,e⟩ ?_;exact⟨hz,its',n',r,e⟩
def TB:V->V->V->Hp->(Hp->Prop)->Prop:=λo i v H Q=> ∃p xs k j,o= .ref p/\i= .int k/\H p=some (.lst xs)/\ixN xs.length k=some j/\Q (upd H p (.lst (xs.set j v)))
theorem Nu:Kg X TB:=by
 intro pins s σ H o i v ov iv u Q I ro ri rv h;obtain⟨p,xs,k,j,rfl,rfl,hp,hj,q⟩:=h;cases ro;obtain⟨t,rfl⟩:=ri;obtain⟨its,n,r,ho,hz⟩:=I.lst hp;obtain⟨h1,h2,h3,h4⟩:=DR hj;have hl:=r.length;have hn:=Us;have I':Inv X pins σ (upd H p (.lst (xs.set j v))) {s with heap:=s.heap.update p (E5 (·.setIfInBounds j u))}:=
  I.lstUpd hp ho (Pb its n j u) (r.set rv j) (by rw [List.length_set];exact hz) s.toks
 by_cases h0:0<=k
 ·have hk:k.toNat=j:=by
   rw [qO h0 h4] at h1;exact L7 h1
  exact IW ho h0 (by omega) (by rw [R9,<-hl];exact h4) (by rw [hk];exact⟨_,I',q⟩)
 ·have hk:(k+(its.toArray.size:P2)).toNat=j:=by
   rw [oZ (by omega) h3] at h1;rw [R9,<-hl];exact L7 h1
  exact z8 ho (by omega) (by rw [R9,<-hl];exact h3) (by omega) (by rw [hk];exact⟨_,I',q⟩)
theorem Ux (lo hi:P0 P2)(n:G8):(cX lo hi none n).1=((HT.sIx n 0 lo:G8):P2)/\(cX lo hi none n).2.1=((HT.sIx n n hi:G8):P2)/\(cX lo hi none n).2.2=1:=by
 refine⟨?_,?_,rfl⟩
 ·cases lo with
  |none=>simp [cX,HT.sIx]
  |some i=>
   simp only [cX,HT.sIx,pV,show (1:P2)>0 by decide,iC]
   by_cases h:i<0
   ·simp only [h,iC]<;>omega
   ·simp only [h,gC]<;>omega
 ·cases hi with
  |none=>simp [cX,HT.sIx]
  |some i=>
   simp only [cX,HT.sIx,pV,show (1:P2)>0 by decide,iC]
   by_cases h:i<0
   ·simp only [h,iC]<;>omega
   ·simp only [h,gC]<;>omega
theorem Vi (its:G0 G1)(lo hi:P0 P2):slicePick its.toArray lo hi none=((its.drop (HT.sIx its.length 0 lo)).take (HT.sIx its.length its.length hi-HT.sIx its.length 0 lo)).toArray:=by
 obtain⟨h1,h2,h3⟩:=Ux lo hi its.toArray.size;unfold slicePick;rw [h1,h2,h3];simp only [sliceRange_one,pick_run,R9]<;>rfl
def kg (K:G3):V->P0 P2->P0 P2->Hp->VK->Prop:=λx lo hi H Q=> ∃a xs,x= .ref a/\SqL K H a xs/\ ∀p,H p=none->Q (.ref p) (upd H p (.lst (Ng xs lo hi)))
theorem Fw:SlR X (kg X.K):=by
 intro pins s σ H x v vl vu lo hi sl Q I rx hs pl pu h;obtain⟨a,xs,rfl,hx,q⟩:=h;cases rx;obtain⟨its,r,ht,hz⟩:=I.list hx;have hlen:=r.length;refine⟨"list",_,slot_list_getitem.lookup,ht.isList.typeIs,?_⟩;refine wpAny_getItem_list_slice ht.isList hs pl pu .none (by simp) ?_ (by rw [R9]<;>omega);rw [Vi,<-hlen];refine⟨.ref s.heap.objs.size,_,I.laid (t':=s.toks) (o:= .lst (Ng xs lo hi)) (λb ob q=>G4 _ q) (P1 _) ?_,rfl,q _ (I.hok.fresh (P1 _))⟩;exact⟨T9 (Wp xs lo hi) hz,_,0,(r.drop (HT.sIx xs.length 0 lo)).take (HT.sIx xs.length xs.length hi-HT.sIx xs.length 0 lo),S4 _ rfl⟩
theorem call_len_seq:CallR X (.builtin "len") (λxs H Q=> ∃p ys,xs= [.ref p]/\(SqL X.K H p ys\/SqT X.K H p ys)/\Q (.int ys.length) H):=by
 intro pins s σ H xs us Q I r h;obtain⟨p,ys,rfl,hq,q⟩:=h;obtain⟨u,rfl,rx⟩:=vD r;cases rx;have hn:=Us;rcases hq with hq|hq
 ·obtain⟨its,r',pl,hz⟩:=I.list hq;have hlen:=r'.length;exact Calls.call_len_list pl.isList (by simp only [R9]<;>omega) ⟨.int ys.length,H,I.tok _,⟨s.toks+1,by rw [R9,hlen]⟩,q⟩
 ·obtain⟨its,r',pl,hz⟩:=I.tuple hq;have hlen:=r'.length;exact len_tuple pl (by simp only [R9]<;>omega) ⟨.int ys.length,H,I.tok _,⟨s.toks+1,by rw [R9,hlen]⟩,q⟩
theorem call_list_of:CallR X (.type "list") (λxs H Q=> ∃p ys,xs= [.ref p]/\(SqL X.K H p ys\/SqT X.K H p ys)/\ ∀l,H l=none->Q (.ref l) (upd H l (.lst ys))):=by
 intro pins s σ H xs us Q I r h;obtain⟨p,ys,rfl,hq,q⟩:=h;obtain⟨u,rfl,rx⟩:=vD r;cases rx;have fin: ∀ (its:G0 G1),Vals ys its->ys.length<=sizeLine-> ∀ (h':M4) (c':G8),(∀b o',s.heap.get? b=some o'->h'.get? b=some o')->
  h'.get? s.heap.objs.size=some {cls:= .type "list",dict:=none,data:= .seq its.toArray c',slots:= #[]}->EP X pins σ Q (.ref s.heap.objs.size) {s with heap:=h'}:=λits r' hz h' c' kp e=>
  ⟨.ref s.heap.objs.size,_,I.laid (t':=s.toks) kp (P1 _) (show ObjOk X.prog X.w _ h' _ (.lst ys) from ⟨hz,its,c',r',e⟩),rfl,q _ (I.hok.fresh (P1 _))⟩
 rcases hq with hq|hq
 ·obtain⟨its,r',pl,hz⟩:=I.list hq;have hlen:=r'.length;obtain⟨o,ho,hc,n,hd⟩:=pl.isList;exact sZ p (.inl rfl) ho hc hd (λh' c' kp e=>fin its r' hz h' c' kp e) (by simp only [R9]<;>omega)
 ·obtain⟨its,r',pl,hz⟩:=I.tuple hq;have hlen:=r'.length;obtain⟨o,ho,hc,n,hd⟩:=pl;exact sZ p (.inr rfl) ho hc hd (λh' c' kp e=>fin its r' hz h' c' kp e) (by simp only [R9]<;>omega)
theorem call_tuple_of:CallR X (.type "tuple") (λxs H Q=> ∃p ys,xs= [.ref p]/\((SqL X.K H p ys/\ ∀l,H l=none->Q (.ref l) (upd H l (.tup ys)))\/(SqT X.K H p ys/\Q (.ref p) H))):=by
 intro pins s σ H xs us Q I r h;obtain⟨p,ys,rfl,h⟩:=h;obtain⟨u,rfl,rx⟩:=vD r;cases rx;rcases h with ⟨hq,q⟩|⟨hq,q⟩
 ·obtain⟨its,r',pl,hz⟩:=I.list hq;have hlen:=r'.length;refine call_tuple_list pl.isList (λh' kp=> ?_) (by simp only [R9]<;>omega);have I1:Inv X pins σ H {s with heap:=h'}:=I.kept (t':=s.toks) kp;have I2:Inv X pins σ (upd H h'.objs.size (.tup ys)) {s with heap:=h'.push {cls:= .type "tuple",data:= .seq its.toArray}}:=
   I1.laid (t':=s.toks) (λb o e=>G4 _ e) (P1 _) (show ObjOk X.prog X.w _ _ _ (.tup ys) from ⟨hz,its,r',IsTupN.new _ _⟩)
  exact⟨.ref h'.objs.size,_,I2,rfl,q _ (I1.hok.fresh (P1 _))⟩
 ·obtain⟨its,r',pl,hz⟩:=I.tuple hq;exact call_tuple_same pl ⟨.ref p,H,I,rfl,q⟩
def tyV (K:G3)(T:B2)(x:V)(H:Hp):Prop:=match x with
 | .str _=>T= "str"
 | .int _=>T= "int"
 | .ref p=>(T= "list" /\ ∃xs,SqL K H p xs)\/(T= "tuple" /\ ∃o,K.lookup p=some o/\o.cls= .type "tuple" /\o.dict=none)\/
  (T= "dict" /\((∃kvs,H p=some (.dK kvs))\/ ∃kvs,H p=some (.dT kvs)))\/(T= "set" /\ ∃S n,H p=some (.set S n))
 |_=>False
theorem Ci {pins:G0 (G5×Obj)}{σ:St}{H:Hp}{s:G2}{T:B2}{x:V}{v:G1}(I:Inv X pins σ H s)(r:RelV x v)(ty:tyV X.K T x H):
 s.TypeIs v T/\ ∀a,v= .ref a-> ∃ob,s.heap.get? a=some ob/\ob.dict=none:=by
 cases x with
 |str z=>
  obtain⟨t,rfl⟩:=r;cases (show T= "str" from ty);exact⟨z7 s z t,λ_ e=>nomatch e⟩
 |int i=>
  obtain⟨t,rfl⟩:=r;cases (show T= "int" from ty);exact⟨lD s i t,λ_ e=>nomatch e⟩
 |ref p=>
  cases r;rcases ty with ⟨rfl,xs,hq⟩|⟨rfl,o,hk,hc,hd⟩|⟨rfl,hk⟩|⟨rfl,S,n,hk⟩
  ·obtain⟨its,_,pl,_⟩:=I.list hq;refine⟨pl.isList.typeIs,λa e=> ?_⟩;cases e;obtain⟨o,n,e,c,hd,_⟩:=pl;exact⟨o,e,hd⟩
  ·refine⟨⟨o,I.kIn p o hk,hc⟩,λa e=> ?_⟩;cases e;exact⟨o,I.kIn _ o hk,hd⟩
  ·have z: ∃o,s.heap.get? p=some o/\o.ExactDict:=by
    rcases hk with ⟨kvs,hk⟩|⟨kvs,hk⟩
    ·obtain⟨_,_,_,_,o,_,_,e,ex,_⟩:=I.hok p _ hk;exact⟨o,e,ex⟩
    ·obtain⟨_,_,_,_,o,_,_,e,ex,_⟩:=I.hok p _ hk;exact⟨o,e,ex⟩
   obtain⟨o,e,ex⟩:=z;refine⟨⟨o,e,ex.1⟩,λa e2=> ?_⟩;cases e2;exact⟨o,e,ex.2.1⟩
  ·obtain⟨o,_,_,_,e,ex,_⟩:=I.hok p _ hk;refine⟨⟨o,e,ex.1⟩,λa e2=> ?_⟩;cases e2;exact⟨o,e,ex.2.1⟩
 |_=>exact False.elim ty
def kh (K:G3)(T:B2)(r:V->G0 V->Hp->VK->Prop)(to:TE):TE:=λσ H Q=>to σ H λx H1=>tyV K T x H1/\r x [] H1 Q
def tBM (K:G3)(T:B2)(r:V->G0 V->Hp->VK->Prop)(to:TE)(t:TA):TE:=λσ H Q=>to σ H λx H1=>tyV K T x H1/\t σ H1 λxs H2=>r x xs H2 Q
variable {o e:S6}{es:G0 S6}{to:TE}{t:TA}{name:Str}{apos cpos:Pos}{T id:B2}{r:V->G0 V->Hp->VK->Prop}
theorem AG (pa:z9 T)(slot:Slot T name id)(hty:G0f (.builtin id)=pure (.type "method_descriptor"))(hm:MtR X id r)(ho:PE X o to)
 (hbase:K6 o name X.env (C8 o X.env)=C8 o X.env:=by rfl)(hline:(apos.endLine==cpos.line)=true:=by rfl):PE X (.Call (.Attribute o name apos) [] [] cpos) (kh X.K T r to):=by
 intro pins s σ H Q I h;refine wpAny_Call_method0_late hbase hline (thn (ho pins s σ H _ I h) λv s1 ⟨x,H1,I1,r1,ty,q1⟩=> ?_);obtain⟨h1,h2⟩:=Ci I1 r1 ty;exact⟨T,id,pa,slot,hty,h1,h2,aM rfl (PySem.evalArgs_none (hm pins s1 σ H1 x [] v [] Q I1 r1 .nil q1))⟩
theorem Fx (pa:z9 T)(slot:Slot T name id)(hty:G0f (.builtin id)=pure (.type "method_descriptor"))(hm:MtR X id r)(ho:PE X o to)(ha:PA X (e::es) t)
 (hbase:K6 o name X.env (C8 o X.env)=C8 o X.env:=by rfl)
 (hfew:((F7 cpos (P5 (e::es) X.env)).all (λx=> !x.1)&&(gG cpos (bL [] X.env)).all (λx=>x.1.isSome)
  &&decide ((e::es).length+([]:G0 aN).length+(if ([]:G0 aN).isEmpty then 0 else 1)<30))=true:=by rfl)
 (hline:(apos.endLine==cpos.line)=true:=by rfl)(hs:P5 (e::es) X.env=(false,C8 e X.env)::P5 es X.env:=by rfl)(hplain:(F7 cpos (P5 es X.env)).any (·.1)=false:=by rfl):
 PE X (.Call (.Attribute o name apos) (e::es) [] cpos) (tBM X.K T r to t):=by
 intro pins s σ H Q I h;refine lE hbase hfew hline rfl (thn (ho pins s σ H _ I h) λv s1 ⟨x,H1,I1,r1,ty,q1⟩=> ?_);obtain⟨h1,h2⟩:=Ci I1 r1 ty;refine⟨T,id,pa,slot,hty,h1,h2,?_⟩;have hA:=ha cpos pins s1 σ H1 _ I1 q1;rw [hs] at hA ⊢;refine aM (by show (false||(F7 cpos (P5 es X.env)).any (·.1))=false;rw [hplain]<;>rfl) (bM ?_);exact thn hA λus s2 ⟨vs,H2,I2,r2,q2⟩=>hm pins s2 σ H2 x vs v us Q I2 r1 r2 q2
end
def MtM (X:Cx)(id:B2)(r:V->G0 V->Hp->VK->Prop):Prop:=
 ∀ (pins:G0 (G5×Obj)) (s:G2) (σ:St) (H:Hp) (x:V) (xs:G0 V) (v:G1) (us:G0 G1) (Q:VK),Inv X pins σ H s->RelV x v->Vals xs us->r x xs H Q->
  D1 (D3 X.prog X.w) X.A (call (.builtin id) (v::us)) (EP X pins σ Q) X.xe s
theorem Vals.one: ∀ {x:V} {us:G0 G1},Vals [x] us-> ∃u,us= [u]/\RelV x u
 |_,_,.cons r .nil=>⟨_,rfl,r⟩
theorem Vals.zero: ∀ {us:G0 G1},Vals [] us->us= []
 |_,.nil=>rfl
theorem Vals.rep {xs:G0 V}{us:G0 G1}(h:Vals xs us): ∀k:G8,Vals (S7 k xs).flatten (S7 k us).flatten
 |0=> .nil
 |k+1=>by
  rw [U7,U7,Z7,Z7];exact Vals.append h (Vals.rep h k)
theorem Wr (its:G0 G1): ∀ (k:G8) (acc:G0 G1),
 rW (λx1 x2=>x1++x2) acc.toArray (S7 k its.toArray)=(acc++(S7 k its).flatten).toArray
 |0,acc=>by simp
 |k+1,acc=>by
  have e:acc.toArray++its.toArray=(acc++its).toArray:=by simp
  have e2:(acc++its)++(S7 k its).flatten=acc++(S7 (k+1) its).flatten:=by
   rw [U7,Z7,W3]
  rw [<-e2,<-Wr its k (acc++its),<-e,U7,qV]
section
variable {X:Cx}{pins:G0 (G5×Obj)}{σ:St}{H:Hp}{s:G2}{l b:G5}{xs ys zs:G0 V}
theorem Inv.lset {its its':G0 G1}{n:G8}{f:M1 G1->M1 G1}{t':G8}(I:Inv X pins σ H s)(hH:H l=some (.lst xs))
 (e:s.heap.get? l=some {cls:= .type "list",data:= .seq its.toArray n})(hf:f its.toArray=its'.toArray)(hv:Vals ys its')(hz:ys.length<=sizeLine):
 Inv X pins σ (upd H l (.lst ys)) {s with heap:=s.heap.update l (E5 f),toks:=t'}:=by
 have q:=PySem.IsL.update e f;rw [hf] at q;refine I.write (x:=l) (e:=l) (by rw [hH];exact trivial) (.inl rfl) (λb' u hb hu=>(X6 s.heap (E5 f) (O0 hb)).trans hu) ⟨_,q⟩ ?_;exact⟨hz,its',_,hv,q⟩
theorem Inv.lnew {its:G0 G1}{t':G8}(I:Inv X pins σ H s)(hv:Vals ys its)(hz:ys.length<=sizeLine):
 Inv X pins σ (upd H s.heap.objs.size (.lst ys)) {s with heap:=s.heap.push {cls:= .type "list",data:= .seq its.toArray},toks:=t'}:=
 I.laid (λ_ _ q=>G4 _ q) (P1 _) ⟨hz,its,0,hv,S4 _ rfl⟩
theorem Inv.fresh (I:Inv X pins σ H s):H s.heap.objs.size=none:=I.hok.fresh (P1 _)
theorem Inv.lstM (I:Inv X pins σ H s)(hH:H l=some (.lst xs)):xs.length<=sizeLine/\ ∃ (its:G0 G1) (n:G8),Vals xs its/\xs.length=its.length/\s.heap.get? l=some {cls:= .type "list",data:= .seq its.toArray n}:=by
 obtain⟨z,its,n,r,e⟩:=I.hok l _ hH;exact⟨z,its,n,r,r.length,e⟩
theorem Nv {n:G8}(h:n<=sizeLine):cI n=false:=by
 unfold cI;exact T3 (by omega)
end
section
variable {X:Cx}
def Fy:V->G0 V->Hp->VK->Prop:=λx vs H Q=> ∃l xs y,x= .ref l/\vs= [y]/\H l=some (.lst xs)/\xs.length<sizeLine/\Q .non (upd H l (.lst (xs++ [y])))
theorem DS:MtM X "list.append" Fy:=by
 intro pins s σ H x vs v us Q I rx rv h;obtain⟨l,xs,y,rfl,rfl,hH,hz,q⟩:=h;cases rx;obtain⟨u,rfl,ru⟩:=rv.one;obtain⟨z,its,n,r,hl,e⟩:=I.lstM hH;refine lF F.slot_list_append ⟨_,e,rfl⟩ F.entry_list_append (F.args_list_append_2 _ _) (PySem.list_append l its.toArray n u (by rw [R9];omega)) ⟨e,?_⟩;refine⟨.non,_,I.lset (its':=its++ [u]) hH e (by simp) (r.append (.cons ru .nil)) ?_,rfl,q⟩;rw [D9,lZ];omega
def ki:R2:=λx y H Q=> ∃l b xs zs,x= .ref l/\y= .ref b/\H l=some (.lst xs)/\H b=some (.lst zs)/\xs.length+zs.length<=sizeLine/\ ∀p,H p=none->Q (.ref p) (upd H p (.lst (xs++zs)))
theorem AH:OpR X (J6 .Add) ki:=by
 intro pins s σ H x y v u Q I rx ry h;obtain⟨l,b,xs,zs,rfl,rfl,hH,hB,hz,q⟩:=h;cases rx;cases ry;obtain⟨z,its,n,r,hl,e⟩:=I.lstM hH;obtain⟨z2,its2,n2,r2,hl2,e2⟩:=I.lstM hB;refine PySem.P.add_list e e2 ?_ (by rw [R9,R9];omega);have ea:its.toArray++its2.toArray=(its++its2).toArray:=by simp
 rw [ea];exact⟨.ref _,_,I.lnew (t':=s.toks) (r.append r2) (by rw [D9];omega),rfl,q _ I.fresh⟩
def kj:R2:=λx y H Q=> ∃l k xs,x= .ref l/\y= .int k/\H l=some (.lst xs)/\ -(2^63)<=k/\k<2^63/\xs.length*k.toNat<=sizeLine/\
 ∀p,H p=none->Q (.ref p) (upd H p (.lst (S7 k.toNat xs).flatten))
theorem XX {α:Type}(xs:G0 α)(k:G8):(S7 k xs).flatten.length=k*xs.length:=by
 induction k with
 |zero=>simp
 |succ k ih=>rw [U7,Z7,D9,ih,bT,Nat.add_comm]
theorem AI:OpR X (J6 .Mult) kj:=by
 intro pins s σ H x y v u Q I rx ry h;obtain⟨l,k,xs,rfl,rfl,hH,h1,h2,hz,q⟩:=h;cases rx;obtain⟨t,rfl⟩:=ry;obtain⟨z,its,n,r,hl,e⟩:=I.lstM hH;have hlen:its.toArray.size*k.toNat<=sizeLine:=by rw [R9,<-hl];exact hz
 have hcap: ¬its.toArray.size*k.toNat>(2^63-1) / 8:=by
  have:(sizeLine:G8)<=(2^63-1) / 8:=by decide
  omega
 have hfit: ¬ (!rX k)=true:=by
  rw [fitsIndex_both h1 h2];exact D8
 have hlong: ¬cI (its.toArray.size*k.toNat)=true:=by
  rw [Nv hlen];exact D8
 have hnew:rW (λx1 x2=>x1++x2) #[] (S7 (if its.toArray.isEmpty=true then 0 else k.toNat) its.toArray)=(S7 k.toNat its).flatten.toArray:=by
  have f0: ∀m:G8,rW (λx1 x2=>x1++x2) #[] (S7 m its.toArray)=(S7 m its).flatten.toArray:=λm=>by
   have:=Wr its m [];rw [F0] at this;exact this
  rw [f0];cases its with
  |nil=>simp
  |cons a r'=>rw [R3 (by simp)]
 refine g9 (T:= "list") (U:= "int") (by decide) ⟨_,e,rfl⟩ (λs'=>lD s' k t) noFill_list_mul qW fJ repeat_list F.slot_int_index.lookup
  (lF fJ (lD s k t) pW (o3 _ _) (int___rmul___int_list k t l its.toArray n)
   ⟨e,rfl,⟨_,e,rfl⟩,lF F.slot_list_mul ⟨_,e,rfl⟩ F.entry_list_mul (F.args_list_mul_2 _ _) (AutoListH.list___mul___list_int_3 l its.toArray n k t hfit hcap hlong) ⟨e,?_⟩⟩)
 rw [hnew];exact⟨.ref _,_,I.lnew (t':=s.toks) (r.rep k.toNat) (by rw [XX,X7];exact hz),rfl,q _ I.fresh⟩
end
end L2
namespace Att
open PySem PySem.W PySem.Calls PyProof.Rows
theorem Ws {P:G0g}{h:M4}: ∀ (ns:G0 P2) (vs:G0 G1),WellAll P h vs (ns.map WData.int)->cM vs ns:=by
 intro ns
 induction ns with
 |nil=>
  intro vs w;rw [E9] at w;cases w;exact .nil
 |cons n ns ih=>
  intro vs w;rw [T2] at w;cases w with
  |cons a b=>
   cases a;exact .cons _ _ (ih _ b)
theorem DT {l:OpenLaw}{n:G8}(hn:l.most=some n){P:G0g}{h:M4}{args:G0 WData}{vals:G0 G1}
 (hpre:l.row.toRowW.claim.pre args=true)(hwl:WellAll P h vals args):
 ∃a vs ns,vals= [B0 a]/\args= [WData.list (ns.map WData.int)]/\h.get? a=some {cls:= .type "list",data:= .seq vs.toArray}/\cM vs ns/\ns.length<=n:=by
 have hsh:WShape.hasAll [] args [.list .int]=true:=(pre_splitW hpre).1;have hc:l.pre.holds [] {args:=args}=true:=(pre_splitW hpre).2;obtain⟨d,r,rfl,h1,h2⟩:=hasAllW_cons hsh;obtain rfl:=hasAllW_nil h2;obtain⟨xs,rfl,h3⟩:=hasW_list h1;obtain⟨ns,rfl⟩:=items_int h3;have hlen:ns.length<=n:=by
  unfold OpenLaw.pre at hc;have h4:(WTm.not (.lt (.lit (.int (n:P2))) (.len (.arg 0)))).holds [] {args:= [.list (ns.map .int)]}=true:=by
   have h4:=(holds_andW hc).1;rw [hn] at h4;exact h4
  have h5:=condW_of h4 (w_not (w_lt w_lit (w_len_list (w_arg rfl))));rw [G9] at h5;refine Nat.le_of_not_lt λq=> ?_
  have q':(n:P2)<((ns.length:G8):P2):=by omega
  first
   |(rw [S1 q'] at h5;exact absurd h5 (by decide))
   |(simp at h5;omega)
 cases hwl with
 |cons w1 w2=>
  cases w2;cases w1 with
  |list ho hall=>exact⟨_,_,ns,rfl,rfl,ho,Ws ns _ hall,hlen⟩
theorem DU (l:OpenLaw)(args:G0 WData):l.row.toRowW.claim.post args (.bool true) args=true:=
 postW_of (r:=l.row.toRowW) (X:=(true==true))
  (show WShape.has [] (.bool true) .bool=true by first|rfl|decide|simp [WShape.has,WShape.arms,WShape.armsAll])
  (show (WTm.eq .res (.lit (.bool true))).value [] {args:=args,res:=some (.bool true),after:=args}=some (.bool (true==true)) from w_eq_bool (w_res rfl) w_lit) rfl
theorem attach_call {l:OpenLaw}{n:G8}{q:D5}{loose:G0 Str}{XP:(Str->P0 G1)->M4->Prop}{YP:T5->M4->Prop}{d:DefRec}
 (hn:l.most=some n)(hdf:d.params.defaults= [])
 (call: ∀ (w:T5) (s₀ s₁:G2) (mg mb:Str->P0 G1) (fa:G5) (o:Obj) (pm cd doc:G1) (a:G5) (vs:G0 G1) (ns:G0 P2),
  Ground q loose [] XP w s₀ mg mb s₁.heap->YP w s₁.heap->
  s₁.heap.get? fa=some o->o.data= .func (docDef d.name d.params d.body d.scope pm cd doc)->s₁.heap.CodeRec cd d.name->mg d.name=some (.ref fa)->
  s₁.heap.get? a=some {cls:= .type "list",data:= .seq vs.toArray}->cM vs ns->ns.length<=n->s₁.gens= #[]->
  E8 (D3 l.prog w) nA (.call (.ref fa) ⟨[.ref a],[]⟩) (λr s'=>r= .ok (.ret (.bool true))/\OldK s₁.heap s'.heap/\s'.os=s₁.os/\fQ s'.gens) s₁):
 WalkO q loose XP YP l.row.toRowW d [] (λf vs=>rY f vs):=by
 intro w s₀ s₁ mg mb G Y fa o pm cd doc dV kV ho hd hcd hD hmg hg args vals as hpre hlay hrd hwl hlo;obtain rfl:dV= .none:=Dflts.none hD hdf;obtain rfl:kV= .none:=Dflts.noKw hD;obtain⟨a,vs,ns,rfl,rfl,hobj,hints,hlen⟩:=DT hn hpre hwl;refine enter_call (X5 (call w s₀ s₁ mg mb fa o pm cd doc a vs ns G Y ho (fd_plain hd) hcd hmg hobj hints hlen hg) λr s' hq=> ?_);obtain⟨rfl,h2,h3,h4⟩:=hq;exact⟨.inl ⟨.bool true,.bool true,[],rfl,λ_=>rfl,.bool true,DU l _,λ_=>⟨List.Pairwise.nil,λ_ hm=>(nomatch hm)⟩⟩,h2,h3,h4⟩
end Att
namespace L2
open PySem PySem.Spec PyProof.Rows
theorem Uy: ∀ {vs:G0 G1} {ns:G0 P2},cM vs ns->Vals (ns.map V.int) vs
 |_,_,.nil=> .nil
 |_,_,.cons n t h=> .cons ⟨t,rfl⟩ (Uy h)
def Fz (s:C5)(j:G8):C5:=match s with
 | .ClassDef _ _ _ body _ _ _ _ _ _ _=>body.getD j (.Pass ⟨0,0,0,0⟩)
 |_=> .Pass ⟨0,0,0,0⟩
def wA (s:C5):m9:=match s with
 | .FunctionDef _ a _ _ _ _ _ _ _ _=>a
 |_=> {posonlyargs:= [],args:= [],vararg:=none,kwonlyargs:= [],kw_defaults:= [],kwarg:=none,defaults:= []}
def jJ (s:C5):G0 C5:=match s with
 | .FunctionDef _ _ b _ _ _ _ _ _ _=>b
 |_=> []
def jb (s:C5):H0:=match s with
 | .FunctionDef _ _ _ _ _ _ sc _ _ _=>sc
 |_=> {kind:= .function,names:= [],isGenerator:=false,isCoroutine:=false}
abbrev CX0:CXT:=λ_ _ _ _ _ _=>False
abbrev E0:XK:=λ_ _ _=>False
variable {X:Cx}
theorem FA:Wm CX0 X E0:=λ_ _ _ _ _ _ _ h=>h.elim
structure Fun (K:G3)(x qual:Str)(st:C5)(f:G5)(fd:R4):Prop where
 ex: ∃ (oc:G1) (od:P0 G5) (kV doc pm:G1) (an:P0 G5) (cdv ct:G1) (osl:M1 (P0 G1)),
  fd=V8 x qual (wA st) (jJ st) (jb st) .none kV doc pm an cdv ct/\K.lookup f=some ⟨oc,od,.func fd,osl⟩/\dE K cdv qual=true
 kp:E2 K (.ref f)=true
section
variable {P:D5}{w:T5}{K:G3}{mg:Str->P0 G1}{base:M4}
variable {qual:Str}
theorem Fun.ok {x:Str}{st:C5}{f:G5}{fd:R4}{N ps:G0 Str}{k:G8}{sp:Sp}(F:Fun K x qual st f fd)(S:FnScope N ps (jb st))(len: ∀vs H Q E,sp vs H Q E->vs.length=ps.length)
 (hbody: ∀ (cdv:G1) (A:R6) (outer:G0 Env) (s:G2) (H:Hp) (vs:G0 V) (Q:VK) (E:XK),Room k (A.deeper (E4 qual (jb st) s.heap.objs.size f cdv))->sp vs H Q E->
  ∃t,PSs (Yr CX0 P w K mg base N qual (jb st) f cdv A outer s H E).nox (jJ st) t/\t {nx:=λ_ H'=>Q .non H',rt:=Q} (start N vs) H):FnOk P w K mg base CX0 (k+1) f fd ps sp:=by
 obtain⟨oc,od,kV,doc,pm,an,cdv,ct,osl,rfl,lk,hcd⟩:=F.ex;refine Fs lk hcd S len λA outer s H vs Q E hr hsp=> ?_
 obtain⟨t,h,q⟩:=hbody cdv A outer s H vs Q E hr hsp;exact⟨t,h.nox,q⟩
theorem Fun.binds {x:Str}{st:C5}{f:G5}{fd:R4}{ps:G0 Str}(F:Fun K x qual st f fd)
 (h: ∀ (kV doc pm:G1) (an:P0 G5) (cdv ct:G1) (us:G0 G1),us.length=ps.length->oW (V8 x qual (wA st) (jJ st) (jb st) .none kV doc pm an cdv ct) ⟨us,[]⟩=pure (ps.zip us)):Binds K fd ps []:=by
 obtain⟨oc,od,kV,doc,pm,an,cdv,ct,osl,rfl,lk,hcd⟩:=F.ex;exact .all (h kV doc pm an cdv ct)
theorem Cj {x:Str}{st:C5}{f:G5}{oc:G1}{od an:P0 G5}{osl:M1 (P0 G1)}{kV doc pm cdv ct:G1}(l:K.lookup f=some ⟨oc,od,.func (V8 x qual (wA st) (jJ st) (jb st) .none kV doc pm an cdv ct),osl⟩)
 (c:dE K cdv qual=true)(k:E2 K (.ref f)=true):Fun K x qual st f (V8 x qual (wA st) (jJ st) (jb st) .none kV doc pm an cdv ct):=⟨⟨oc,od,kV,doc,pm,an,cdv,ct,osl,rfl,l,c⟩,k⟩
end
theorem jO {n:G8}(h:n<=1000):n<sizeLine:=Y6 h (by decide)
theorem vv {A B:Prop}(h:B):if false=true then A else B:=by
 rw [R3 D8];exact h
theorem Vj {A B:Prop}(h:A):if true=true then A else B:=by
 rw [R1 rfl];exact h
theorem Pc {c A B:Prop}[Decidable c](h1:c->A)(h2: ¬c->B):if c then A else B:=by
 by_cases h:c
 ·rw [R1 h];exact h1 h
 ·rw [R3 h];exact h2 h
section
variable {κ:Type}[DecidableEq κ]
def Uz (kvs:G0 (κ×V))(k:κ):P0 V:=(kvs.find? λkv=>decide (kv.1=k)).map (·.2)
def Vk (kvs:G0 (κ×V))(k:κ)(v:V):G0 (κ×V):=
 if (kvs.any λkv=>decide (kv.1=k))=true then kvs.map (λkv=>if kv.1=k then (kv.1,v) else kv) else kvs++ [(k,v)]
theorem Wd {p:κ×V}{r:G0 (κ×V)}{k:κ}(e:p.1=k):Uz (p::r) k=some p.2:=by simp [Uz,W5,e]
theorem We {p:κ×V}{r:G0 (κ×V)}{k:κ}(e: ¬p.1=k):Uz (p::r) k=Uz r k:=by simp [Uz,W5,e]
theorem Wf (k:κ): ∀kvs:G0 (κ×V),(kvs.any λkv=>decide (kv.1=k))=(Uz kvs k).isSome
 | []=>rfl
 |p::r=>by
  rw [nN]
  by_cases e:p.1=k
  ·simp only [Wd e,S1 e,uX,oA]
  ·rw [We e,T3 e,tD];exact Wf k r
theorem vR (kvs:G0 (κ×V))(k:κ)(v:V):(Vk kvs k v).length<=kvs.length+1:=by
 unfold Vk;split
 ·rw [G9];omega
 ·rw [D9,D4,M7];omega
theorem Nw {kvs:G0 (κ×V)}{k:κ}(v:V)(h:Uz kvs k=none):Vk kvs k v=kvs++ [(k,v)]:=by
 unfold Vk;rw [Wf,h];exact R3 (by decide)
theorem RelO.isSome_eq {o:P0 V}{u:P0 G1}(r:RelO o u):o.isSome=u.isSome:=by
 cases o with
 |none=>cases u with
  |none=>rfl
  |some _=>exact(show False from r).elim
 |some _=>cases u with
  |none=>exact(show False from r).elim
  |some _=>rfl
theorem RelO.getD {o:P0 V}{u:P0 G1}{d:V}{d':G1}(r:RelO o u)(rd:RelV d d'):RelV (o.getD d) (u.getD d'):=by
 cases o with
 |none=>cases u with
  |none=>exact rd
  |some _=>exact(show False from r).elim
 |some _=>cases u with
  |none=>exact(show False from r).elim
  |some _=>exact r
theorem KV.val {kvs:G0 (κ×V)}{vs:G0 (κ×G1)}(r:KV kvs vs)(k:κ):RelO (Uz kvs k) (o4 vs k):=by
 unfold KV at r
 induction r with
 |nil=>exact Q6
 | @cons p q ps qs h t ih=>
  obtain⟨h1,h2⟩:=h
  by_cases e:p.1=k
  ·have e':q.1=k:=h1.symm.trans e;have b:o4 (q::qs) k=some q.2:=by simp [o4,W5,e']
   rw [Wd e,b];exact h2
  ·have e': ¬q.1=k:=λz=>e (h1.trans z)
   have b:o4 (q::qs) k=o4 qs k:=by simp [o4,W5,e']
   rw [We e,b];exact ih
theorem KV.any {kvs:G0 (κ×V)}{vs:G0 (κ×G1)}(r:KV kvs vs)(k:κ):(kvs.any λkv=>decide (kv.1=k))=vs.any λkv=>decide (kv.1=k):=by
 unfold KV at r
 induction r with
 |nil=>rfl
 |cons h t ih=>rw [nN,nN,ih,h.1]
theorem KV.repl {kvs:G0 (κ×V)}{vs:G0 (κ×G1)}(r:KV kvs vs)(k:κ){y:V}{u:G1}(ry:RelV y u):
 KV (kvs.map λkv=>if kv.1=k then (kv.1,y) else kv) (vs.map λkv=>if kv.1=k then (kv.1,u) else kv):=by
 unfold KV at r ⊢
 induction r with
 |nil=>exact .nil
 | @cons p q ps qs h t ih=>
  rw [T2,T2];refine .cons ?_ ih;obtain⟨h1,h2⟩:=h
  by_cases e:p.1=k
  ·rw [R1 e,R1 (h1.symm.trans e)];exact⟨h1,ry⟩
  ·rw [R3 e,R3 (λz=>e (h1.trans z))];exact⟨h1,h2⟩
theorem KV.put {kvs:G0 (κ×V)}{vs:G0 (κ×G1)}(r:KV kvs vs)(k:κ){y:V}{u:G1}(ry:RelV y u):KV (Vk kvs k y) (pX vs k u):=by
 unfold Vk pX;rw [r.any k]
 by_cases e:(vs.any λkv=>decide (kv.1=k))=true
 ·rw [R1 e,R1 e];exact r.repl k ry
 ·rw [R3 e,R3 e];exact Paired.snoc r ⟨rfl,ry⟩
theorem KV.length {kvs:G0 (κ×V)}{vs:G0 (κ×G1)}(r:KV kvs vs):kvs.length=vs.length:=Paired.length r
end
variable {P:D5}{w:T5}
theorem Nx {k:Key}{u:G1}(r:RelV (kV k) u):(jQ P w).is k u=true:=by
 cases k with
 |inl i=>obtain⟨t,e⟩:=(show ∃t,u=dX i t from r);subst e;exact XR P w i t
 |inr x=>obtain⟨t,e⟩:=(show ∃t,u=m5 x t from r);subst e;exact XS P w x t
theorem UA: ∀ {ks:G0 Key} {us:G0 G1},Vals (ks.map kV) us->ItemsAre (jQ P w) ks us
 | [],_,r=>by rw [E9] at r;cases r;exact .nil
 |k::ks,_,r=>by
  rw [T2] at r;cases r with
  |cons h t=>exact .cons (Nx h) (UA t)
abbrev KT (H:Hp):G0 (G0 Key×V)->G0 (G0 Key×G5×G1)->Prop:=Paired λp q=>p.1=q.1/\H q.2.1=some (.tup (p.1.map kV))/\RelV p.2 q.2.2
variable {H:Hp}{kvs:G0 (G0 Key×V)}{xs:G0 (G0 Key×G5×G1)}
theorem KT.val (r:KT H kvs xs)(k:G0 Key):RelO (Uz kvs k) ((rZ xs k).map (·.2)):=by
 induction r with
 |nil=>exact Q6
 | @cons p q ps qs h t ih=>
  obtain⟨h1,_,h2⟩:=h
  by_cases e:p.1=k
  ·have e':q.1=k:=h1.symm.trans e;have b:rZ (q::qs) k=some q.2:=by simp [rZ,W5,e']
   rw [Wd e,b];exact h2
  ·have e': ¬q.1=k:=λz=>e (h1.trans z)
   have b:rZ (q::qs) k=rZ qs k:=by simp [rZ,W5,e']
   rw [We e,b];exact ih
theorem KT.repl (r:KT H kvs xs)(k:G0 Key){y:V}{u:G1}(ry:RelV y u):
 KT H (kvs.map λkv=>if kv.1=k then (kv.1,y) else kv) (xs.map (putAt k u)):=by
 induction r with
 |nil=>exact .nil
 | @cons p q ps qs h t ih=>
  rw [T2,T2];refine .cons ?_ ih;obtain⟨h1,h2,h3⟩:=h;unfold putAt
  by_cases e:p.1=k
  ·rw [R1 e,R1 (h1.symm.trans e)];exact⟨h1,h2,ry⟩
  ·rw [R3 e,R3 (λz=>e (h1.trans z))];exact⟨h1,h2,h3⟩
theorem KT.put (r:KT H kvs xs)(k:G0 Key){b:G5}{y:V}{u:G1}(hb:H b=some (.tup (k.map kV)))(ry:RelV y u):
 KT H (Vk kvs k y) (storedH xs k b u):=by
 have e:(kvs.any λkv=>decide (kv.1=k))=(rZ xs k).isSome:=by
  rw [Wf,(r.val k).isSome_eq,Option.isSome_map]
 unfold Vk storedH;rw [e]
 by_cases q:(rZ xs k).isSome=true
 ·rw [R1 q,R1 q];exact r.repl k ry
 ·rw [R3 q,R3 q];exact Paired.snoc r ⟨rfl,hb,ry⟩
variable {H':Hp}
theorem KT.keeps (r:KT H kvs xs)(ht: ∀b ys,H b=some (.tup ys)->H' b=some (.tup ys)):KT H' kvs xs:=
 Paired.mapP r λ_ _ z=>⟨z.1,ht _ _ z.2.1,z.2.2⟩
section
variable {P:D5}{w:T5}{H:Hp}{h:M4}{a:G5}
theorem AJ {u:HO}(ok:HOk P w H h)(e:Rd H a u):ObjOk P w H h a u:=e.ok ok
theorem FC {kvs:G0 (Key×V)}(ok:HOk P w H h)(e:Rd H a (.dK kvs)):kvs.length<=sizeLine/\(a==Y2)=false/\ ∃vs,KV kvs vs/\h.DictOf (jQ P w) a vs:=
 show ObjOk P w H h a (.dK kvs) from AJ ok e
theorem Ny {kvs:G0 (Key×V)}(ok:HOk P w H h)(e:H a=some (.dK kvs)):kvs.length<=sizeLine/\(a==Y2)=false/\ ∃vs,KV kvs vs/\h.DictOf (jQ P w) a vs:=FC ok (.inl e)
theorem DV {ks:G0 Key}(ok:HOk P w H h)(e:H a=some (.tup (ks.map kV))):(tupleKind (jQ P w)).is h ks a:=by
 obtain⟨_,its,r,o,h1,h2,_,n,h3⟩:=(show ObjOk P w H h a (.tup (ks.map kV)) from ok a _ e);exact⟨o,its.toArray,n,h1,h2,h3,by simpa using UA r⟩
theorem FD {kvs:G0 (G0 Key×V)}(ok:HOk P w H h)(e:Rd H a (.dT kvs)):kvs.length<=sizeLine/\(a==Y2)=false/\
 ∃xs,KT H kvs xs/\h.DictOfH (tupleKind (jQ P w)) a xs:=by
 obtain⟨z,y,xs,r,o,es,ep,h1,h2,h3,h4,h5⟩:=(show ObjOk P w H h a (.dT kvs) from AJ ok e);refine⟨z,y,xs,r,o,es,ep,h1,h2,h3,h4,λx hx=> ?_,h5⟩;have all: ∀ {l:G0 (G0 Key×V)} {m:G0 (G0 Key×G5×G1)},KT H l m-> ∀x∈m,(tupleKind (jQ P w)).is h x.1 x.2.1:=by
  intro l m q
  induction q with
  |nil=>intro x hx;exact nomatch hx
  | @cons p q ps qs hq t ih=>
   intro x hx;rcases P9.mp hx with e|hx
   ·subst e;exact DV ok (by rw [<-hq.1];exact hq.2.1)
   ·exact ih x hx
 exact all r x hx
theorem TC {kvs:G0 (G0 Key×V)}(ok:HOk P w H h)(e:H a=some (.dT kvs)):kvs.length<=sizeLine/\(a==Y2)=false/\
 ∃xs,KT H kvs xs/\h.DictOfH (tupleKind (jQ P w)) a xs:=FD ok (.inl e)
end
def DGet (H:Hp)(a:G5)(y:V)(r:P0 V):Prop:=
 (∃kvs k,Rd H a (.dK kvs)/\y=kV k/\r=Uz kvs k)\/ ∃kvs k b,Rd H a (.dT kvs)/\y= .ref b/\H b=some (.tup (k.map kV))/\r=Uz kvs k
def DPut (H:Hp)(a:G5)(y v:V)(H':Hp):Prop:=
 (∃kvs k,H a=some (.dK kvs)/\y=kV k/\kvs.length<sizeLine/\H'=upd H a (.dK (Vk kvs k v)))\/
 ∃kvs k b,H a=some (.dT kvs)/\y= .ref b/\H b=some (.tup (k.map kV))/\kvs.length<sizeLine/\H'=upd H a (.dT (Vk kvs k v))
variable {a:G5}
theorem DGet.k {kvs:G0 (Key×V)}{k:Key}(e:H a=some (.dK kvs)):DGet H a (kV k) (Uz kvs k):= .inl ⟨kvs,k,.inl e,rfl,rfl⟩
theorem DPut.k {kvs:G0 (Key×V)}{k:Key}{v:V}(e:H a=some (.dK kvs))(hl:kvs.length<sizeLine):DPut H a (kV k) v (upd H a (.dK (Vk kvs k v))):= .inl ⟨kvs,k,e,rfl,hl,rfl⟩
section
variable {X:Cx}{pins:G0 (G5×Obj)}{σ:St}{H:Hp}{s:G2}{a:G5}{y v:V}{u r:G1}{o:P0 V}{A:R6}{E:G1->G2->Prop}
theorem Inv.big (I:Inv X pins σ H s):Y2<s.heap.objs.size:=by
 have h:mainGlobals<s.heap.objs.size:=(I.mod.glob.keeps I.bk).lt;exact A7 (by decide) h
theorem XY {h':M4}{t':G8}{ob:HO}(I:Inv X pins σ H s)(mu:Mut (H a))(hs:A5 a s.heap h')(he: ∃q,h'.get? a=some q)(new:ObjOk X.prog X.w (upd H a ob) h' a ob):
 Inv X pins σ (upd H a ob) {s with heap:=h',toks:=t'}:=
 I.write (x:=a) (e:=a) mu (.inl rfl) (λb q hb z=>(hs.2 b hb).trans z) he new
theorem Ck {P:D5}{w:T5}{H':Hp}{h':M4}{kvs:G0 (Key×V)}{vs:G0 (Key×G1)}(z:kvs.length<=sizeLine)(hd:(a==Y2)=false)(rel:KV kvs vs)(dd:h'.DictOf (jQ P w) a vs):
 ObjOk P w H' h' a (.dK kvs):=⟨z,hd,vs,rel,dd⟩
theorem DW {H':Hp}{Q:Unit->G2->Prop}(hu:A.units+1<cLine)(I:Inv X pins σ H s)(g:DPut H a y v H')(ry:RelV y u)(rv:RelV v r)(h: ∀s',Inv X pins σ H' s'->Q () s'):
 D1 (D3 X.prog X.w) A (rK (.ref a) u r) Q E s:=by
 rcases g with ⟨kvs,k,e,ey,l,eH⟩|⟨kvs,k,b,e,ey,eb,l,eH⟩
 ·subst ey eH;obtain⟨z,hd,vs,rel,dd⟩:=Ny I.hok e;have hz:vs.length<=sizeLine:=by rw [<-rel.length];exact z
  have hl:(Vk kvs k v).length<=sizeLine:=by have:=vR kvs k v;omega
  refine wpAny_setItem_pairs (hsz:=hz) (Nx ry) dd λh' dd' hs=>h _ ?_
  have he: ∃q,h'.get? a=some q:=let ⟨q,_,_,hq,_⟩:=dd';⟨q,hq⟩;exact XY I (by rw [e];exact Q6) hs he (Ck hl hd (rel.put k rv) dd')
 ·subst ey eH;cases (show u=B0 b from ry);obtain⟨z,hd,xs,rel,dd⟩:=TC I.hok e;have hz:xs.length<=sizeLine:=by rw [<-Paired.length rel];exact z
  have hl:(Vk kvs k v).length<=sizeLine:=by have:=vR kvs k v;omega
  refine wpAny_setItem_heap (hsz:=hz) (oB hu) (DV I.hok eb) dd λh' dd' hs=>h _ ?_
  obtain⟨q,es,ep,hq,h2,h3,h4,_,h5⟩:=dd';refine XY I (by rw [e];exact Q6) hs ⟨q,hq⟩ ⟨hl,hd,_,(rel.put k eb rv).keeps λc ys ec=> ?_,q,es,ep,hq,h2,h3,h4,h5⟩;rw [jd (XT ec e (λz=>nomatch z))];exact ec
end
def TD (td ty tv:TE):TS:=λD σ H=>tv σ H λv H1=>td σ H1 λx H2=>ty σ H2 λy H3=> ∃a H4,x= .ref a/\DPut H3 a y v H4/\D.nx σ H4
section
variable {X:Cx}{o i e value:S6}{pos pos' tpos:Pos}{td ty tv:TE}
theorem FE (hu:X.A.units+1<cLine)(ho:PE X o td)(hi:PE X i ty)(hv:PE X value tv)(hs:Q4 value (some (.Subscript o i pos')) pos.line X.env=pure false):
 PS X (.Assign [.Subscript o i pos'] value pos) (TD td ty tv):=by
 intro pins s σ H D I h;refine wpAny_Assign_Subscript (thn (hv pins s σ H _ I h) λr s1 ⟨v,H1,I1,rv,q1⟩=>thn (ho pins s1 σ H1 _ I1 q1) λu s2 ⟨x,H2,I2,rx,q2⟩=>thn (hi pins s2 σ H2 _ I2 q2) λiv s3 ⟨y,H3,I3,ry,a,H4,ex,g,q3⟩=> ?_) hs;subst ex;obtain rfl:u=B0 a:=rx;exact DW hu I3 g ry rv λs4 I4=>⟨σ,H4,I4,q3⟩
end
theorem Gg (h:M4)(hb:Y2<h.objs.size):ObjOk P w H (h.push {cls:= .type "dict",data:= .dict #[]}) h.objs.size (.dK []):=
 ⟨L0 _,beq_eq_false_iff_ne.mpr (O0 (R5 hb)),[],.nil,Heap.DictOf.new h⟩
def AK:TE:=λ_ H Q=> ∀p,H p=none->Q (.ref p) (upd H p (.dK []))
section
variable {X:Cx}{pos:Pos}
theorem pe_dnewK:PE X (.Dict [] [] pos) AK:=λpins s σ H Q I h=>
 wpAny_Dict_empty ⟨.ref s.heap.objs.size,_,I.laid (a:=s.heap.objs.size) (o:= .dK []) (t':=s.toks) (λ_ _ q=>G4 _ q) (P1 _) (Gg s.heap I.big),rfl,h _ (I.hok.fresh (P1 _))⟩
end
def DY:G0 (TE×TE)->St->Hp->(G0 (V×V)->Hp->Prop)->Prop
 | [],_,H,Q=>Q [] H
 |(tk,tv)::r,σ,H,Q=>tk σ H λx H1=>tv σ H1 λy H2=>DY r σ H2 λps H3=>Q ((x,y)::ps) H3
abbrev VV:G0 (V×V)->G0 (G1×G1)->Prop:=Paired λp q=>RelV p.1 q.1/\RelV p.2 q.2
def PPs (X:Cx)(pos:Pos)(keys:G0 (P0 S6))(values:G0 S6)(trs:G0 (TE×TE)):Prop:=
 ∀ (pins:G0 (G5×Obj)) (s:G2) (σ:St) (H:Hp) (Q:G0 (V×V)->Hp->Prop),Inv X pins σ H s->DY trs σ H Q->
  D1 (D3 X.prog X.w) X.A (evalPairs (pairTrees keys values X.env pos)) (λvs s'=> ∃ps H',Inv X pins σ H' s'/\VV ps vs/\Q ps H') X.xe s
variable {pos:Pos}
theorem FF:PPs X pos [] [] []:=λpins s σ H Q I h=>pairTrees_nil_walk ⟨[],H,I,.nil,h⟩
theorem Nz {k v:S6}{ks:G0 (P0 S6)}{vs:G0 S6}{tk tv:TE}{trs:G0 (TE×TE)}(hk:PE X k tk)(hv:PE X v tv)(hr:PPs X pos ks vs trs):
 PPs X pos (some k::ks) (v::vs) ((tk,tv)::trs):=λpins s σ H Q I h=>
 pairTrees_cons_walk (thn (hk pins s σ H _ I h) λu s1 ⟨x,H1,I1,rx,q1⟩=>thn (hv pins s1 σ H1 _ I1 q1) λw2 s2 ⟨y,H2,I2,ry,q2⟩=>
  thn (hr pins s2 σ H2 _ I2 q2) λws s3 ⟨ps,H3,I3,rel,q3⟩=>⟨(x,y)::ps,H3,I3,.cons ⟨rx,ry⟩ rel,q3⟩)
def UB (kvs more:G0 (Key×V)):G0 (Key×V):=more.foldl (λacc kv=>Vk acc kv.1 kv.2) kvs
theorem KV.merge: ∀ {more:G0 (Key×V)} {rs:G0 (Key×G1)} {kvs:G0 (Key×V)} {vs:G0 (Key×G1)},KV more rs->KV kvs vs->KV (UB kvs more) (merged vs rs):=by
 intro more rs kvs vs r;unfold KV at r
 induction r generalizing kvs vs with
 |nil=>intro q;exact q
 | @cons p q ps qs h t ih=>
  intro r0;have e:KV (Vk kvs p.1 p.2) (pX vs q.1 q.2):=by
   have:=r0.put p.1 h.2;rw [<-h.1];exact this
  exact ih e
theorem Jo: ∀ (more kvs:G0 (Key×V)),(UB kvs more).length<=kvs.length+more.length
 | [],kvs=>by show kvs.length<=kvs.length+0;omega
 |p::r,kvs=>by
  have h1:=Jo r (Vk kvs p.1 p.2);have h2:=vR kvs p.1 p.2;show (UB (Vk kvs p.1 p.2) r).length<=_;rw [D4];omega
theorem YL {P:D5}{w:T5}: ∀ {kvs:G0 (Key×V)} {ws:G0 (G1×G1)},VV (kvs.map λkv=>(kV kv.1,kv.2)) ws-> ∃rs,Carries (jQ P w) ws rs/\KV kvs rs
 | [],_,r=>by rw [E9] at r;cases r;exact⟨[],Q6,.nil⟩
 |p::kvs,_,r=>by
  rw [T2] at r;cases r with
  | @cons a b as bs h t=>
   obtain⟨rs,c,q⟩:=YL (P:=P) (w:=w) t;obtain⟨b1,b2⟩:=b;exact⟨(p.1,b2)::rs,⟨Nx h.1,rfl,c⟩,.cons ⟨rfl,h.2⟩ q⟩
def TF (trs:G0 (TE×TE)):TE:=λσ H Q=> ∀p,H p=none->DY trs σ (upd H p (.dK [])) λps H2=>H2 p=some (.dK [])/\ ∃kvs:G0 (Key×V),ps=kvs.map (λkv=>(kV kv.1,kv.2))/\kvs.length<=15/\Q (.ref p) (upd H2 p (.dK (UB [] kvs)))
theorem FG {keys:G0 (P0 S6)}{values:G0 S6}{trs:G0 (TE×TE)}(h:PPs X pos keys values trs)(hall:keys.all (·.isSome)=true)(hl:keys.length=values.length)(h0:keys≠ [])
 (h15:keys.length<=15):PE X (.Dict keys values pos) (TF trs):=by
 intro pins s σ H Q I q;have hn:=I.hok.fresh (P1 s.heap.objs.size);have I1:=I.laid (a:=s.heap.objs.size) (o:= .dK []) (h':=s.heap.push {cls:= .type "dict",data:= .dict #[]}) (t':=s.toks) (λ_ _ q=>G4 _ q) (P1 _) (Gg s.heap I.big);refine wpAny_Dict_walk (knd:=jQ X.prog X.w) hall hl h0 h15 (thn (h pins _ σ _ _ I1 (q _ hn)) λws s2 ⟨ps,H2,I2,rel,e,kvs,ep,lk,q2⟩=> ?_);subst ep;obtain⟨rs,c,rk⟩:=YL (P:=X.prog) (w:=X.w) rel;obtain⟨z,hd,vs0,r0,dd⟩:=Ny I2.hok e;cases r0;refine⟨rs,c,dd,λh' dd' hs=>⟨.ref s.heap.objs.size,_,?_,rfl,q2⟩⟩;have hz:(UB [] kvs).length<=sizeLine:=by
  have h1:=Jo kvs [];rw [M7] at h1;rw [eZ];omega
 have he: ∃q,h'.get? s.heap.objs.size=some q:=let ⟨q,_,_,hq,_⟩:=dd';⟨q,hq⟩;exact XY I2 (by rw [e];exact Q6) hs he (Ck hz hd (rk.merge .nil) dd')
structure M2 (X:Cx)(o:S6)(m:Str)(apos:Pos)(e f:S6)(cpos:Pos):Prop where
 base:K6 o m X.env (C8 o X.env)=C8 o X.env
 few:((F7 cpos (P5 [e,f] X.env)).all (λx=> !x.1)&&(gG cpos (bL [] X.env)).all (λx=>x.1.isSome)
  &&decide (([e,f]:G0 S6).length+([]:G0 aN).length+(if ([]:G0 aN).isEmpty then 0 else 1)<30))=true
 line:(apos.endLine==cpos.line)=true
 trees:F7 cpos (P5 [e,f] X.env)= [(false,C8 e X.env),(false,C8 f X.env)]
def IsD (H:Hp)(a:G5):Prop:=(∃kvs,Rd H a (.dK kvs))\/ ∃kvs,Rd H a (.dT kvs)
variable {σ:St}
theorem AL {pins:G0 (G5×Obj)}{s:G2}(I:Inv X pins σ H s)(d:IsD H a):
 s.TypeIs (.ref a) "dict" /\(∀b,B0 a= .ref b-> ∃ob,s.heap.get? b=some ob/\ob.dict=none)/\(a==Y2)=false:=by
 rcases d with ⟨kvs,e⟩|⟨kvs,e⟩
 ·obtain⟨_,hd,vs,_,dd⟩:=FC I.hok e;refine⟨dd.typeIs,λb q=> ?_,hd⟩;cases q;obtain⟨ob,_,_,h1,h2,_⟩:=dd;exact⟨ob,h1,h2.2.1⟩
 ·obtain⟨_,hd,xs,_,dd⟩:=FD I.hok e;refine⟨dd.typeIs,λb q=> ?_,hd⟩;cases q;obtain⟨ob,_,_,h1,h2,_⟩:=dd;exact⟨ob,h1,h2.2.1⟩
section
variable {X:Cx}{pins:G0 (G5×Obj)}{σ:St}{H:Hp}{s:G2}{a:G5}{y d:V}{u r:G1}{o:P0 V}{A:R6}{E:G1->G2->Prop}
theorem AM {Q:G1->G2->Prop}(hu:A.units+1<cLine)(I:Inv X pins σ H s)(g:DGet H a y o)(ry:RelV y u)(rd:RelV d r)(h: ∀w' s',Inv X pins σ H s'->RelV (o.getD d) w'->Q w' s'):
 D1 (D3 X.prog X.w) A (call (.builtin "dict.get") [.ref a,u,r]) Q E s:=by
 rcases g with ⟨kvs,k,e,ey,l⟩|⟨kvs,k,b,e,ey,eb,l⟩
 ·subst ey;obtain⟨z,hd,vs,rel,dd⟩:=FC I.hok e;refine o5 dU dd.typeIs lG (iW _ _ _) (meets_dict_get_default (jQ X.prog X.w) a (Nx ry) hd r) ⟨_,dd.mapOf,h _ _ (I.tok _) ?_⟩;rw [l];exact(rel.val k).getD rd
 ·subst ey;cases (show u=B0 b from ry);obtain⟨z,hd,xs,rel,dd⟩:=FD I.hok e;refine o5 dU dd.typeIs lG (iW _ _ _) (meetsH_dict_get_default (tupleKind (jQ X.prog X.w)) a b hd r) ⟨oB hu,k,xs,DV I.hok eb,dd,h _ _ (I.tok _) ?_⟩;rw [l];exact(rel.val k).getD rd
end
def AN (td ty tx:TE):TE:=λσ H Q=>td σ H λx H1=> ∃a,x= .ref a/\IsD H1 a/\ty σ H1 λy H2=>tx σ H2 λz H3=> ∃o,DGet H3 a y o/\Q (o.getD z) H3
section
variable {X:Cx}{o e f:S6}{apos cpos:Pos}{td ty tx:TE}
theorem NA (hu:X.A.units+1<cLine)(ho:PE X o td)(he:PE X e ty)(hf:PE X f tx)(m:M2 X o "get" apos e f cpos):PE X (.Call (.Attribute o "get" apos) [e,f] [] cpos) (AN td ty tx):=by
 intro pins s σ H Q I h;refine wpAny_Call_method m.base m.few m.line iY dU v9 (thn (ho pins s σ H _ I h) λu s1 ⟨x,H1,I1,rx,a,ex,d,q1⟩=> ?_);subst ex;obtain rfl:u=B0 a:=rx;obtain⟨t1,t2,_⟩:=AL I1 d;refine⟨t1,t2,?_⟩;rw [m.trees];refine aM rfl (bM (Y4 (thn (he pins s1 σ H1 _ I1 q1) λiv s2 ⟨y,H2,I2,ry,q2⟩=>
  Y4 (thn (hf pins s2 σ H2 _ I2 q2) λfv s3 ⟨z,H3,I3,rz,ov,g,q3⟩=>dD ?_))))
 exact AM hu I3 g ry rz λw' s4 I4 rw'=>⟨_,H3,I4,rw',q3⟩
end
def yc (names:G0 (Str×NameKind))(env:Env)(cs:G0 (Str×G5)):G0 (Str×G5):=
 names.foldl (λcs p=>if p.2= .free then (match env.cells.lookup p.1 with|some c=>(p.1,c)::cs|none=>cs) else cs) cs
theorem wa (p:Str×NameKind)(l:G0 (Str×NameKind))(env:Env)(cs:G0 (Str×G5)):
 yc (p::l) env cs=yc l env (if p.2= .free then (match env.cells.lookup p.1 with|some c=>(p.1,c)::cs|none=>cs) else cs):=rfl
variable {env:Env}
theorem Wt {f:Str×NameKind->G0 (Str×G5)->Sem (uL (G0 (Str×G5)))}
 (h1: ∀p cs,p.2≠ .free->f p cs=pure (.yield cs))(h2: ∀p cs c,p.2= .free->env.cells.lookup p.1=some c->f p cs=pure (.yield ((p.1,c)::cs))):
 ∀ (l:G0 (Str×NameKind)) (cs:G0 (Str×G5)),(∀p∈l,p.2= .free-> ∃c,env.cells.lookup p.1=some c)->forIn l cs f=pure (yc l env cs)
 | [],cs,_=>rfl
 |p::l,cs,h=>by
  have ih:=Wt h1 h2 l
  by_cases hp:p.2= .free
  ·obtain⟨c,hc⟩:=h p P3 hp;rw [cN,h2 p cs c hp hc,pure_bind];show forIn l ((p.1,c)::cs) f=_;rw [ih _ λq hq=>h q (D7 _ hq),wa,R1 hp,hc]
  ·rw [cN,h1 p cs hp,pure_bind];show forIn l cs f=_;rw [ih _ λq hq=>h q (D7 _ hq),wa,R3 hp]
variable {scope:H0}
theorem Jp (h: ∀p∈scope.names,p.2= .free-> ∃c,env.cells.lookup p.1=some c):gH scope env=pure (yc scope.names env []):=by
 simp only [gH];rw [Wt (env:=env) (λp cs hp=> ?_) (λp cs c hp hc=> ?_) _ _ h]
 ·rfl
 ·obtain⟨n,k⟩:=p;have hb:(k==B6)=false:=by simpa using hp
  simp only [hb,N9,gC]
 ·obtain⟨n,k⟩:=p;have hb:(k==B6)=true:=by simpa using hp
  have hc':env.cells.lookup n=some c:=hc;simp only [hb,iC,G0h,hc',pure_bind]
theorem Wu: ∀ (l:G0 (Str×NameKind)) (cs:G0 (Str×G5)),(∀p∈cs,env.cells.lookup p.1=some p.2)-> ∀p∈yc l env cs,env.cells.lookup p.1=some p.2
 | [],cs,h,p,hp=>h p hp
 |q::l,cs,h,p,hp=>by
  rw [wa] at hp;refine Wu l _ (λr hr=> ?_) p hp
  by_cases hq:q.2= .free
  ·rw [R1 hq] at hr;cases e:env.cells.lookup q.1 with
   |none=>rw [e] at hr;exact h r hr
   |some c=>
    rw [e] at hr;rcases P9.mp hr with rfl|hr
    ·exact e
    ·exact h r hr
  ·rw [R3 hq] at hr;exact h r hr
theorem Wv: ∀ (l:G0 (Str×NameKind)) (cs:G0 (Str×G5)),∀p∈cs,p∈yc l env cs
 | [],cs,p,hp=>hp
 |q::l,cs,p,hp=>by
  rw [wa];refine Wv l _ p ?_
  by_cases hq:q.2= .free
  ·rw [R1 hq];cases e:env.cells.lookup q.1 with
   |none=>exact hp
   |some c=>exact D7 _ hp
  ·rw [R3 hq];exact hp
variable {x:Str}
theorem Ww {c:G5}(hc:env.cells.lookup x=some c): ∀ (l:G0 (Str×NameKind)) (cs:G0 (Str×G5)),(x,B6)∈l->(x,c)∈yc l env cs
 |q::l,cs,h=>by
  rw [wa];rcases P9.mp h with e|h
  ·subst e;rw [R1 rfl,hc];exact Wv l _ _ P3
  ·exact Ww hc l _ h
variable {α:Type}
theorem zA: ∀ {l:G0 (Str×α)} {x:Str} {c:α},l.lookup x=some c->(x,c)∈l
 | [],_,_,h=>by simp at h
 |(n,k)::r,x,c,h=>by
  rw [C3] at h;cases hx:x==n with
  |true=>
   rw [hx] at h;have e:x=n:=eq_of_beq hx;cases h;subst e;exact P3
  |false=>rw [hx] at h;exact D7 _ (zA h)
theorem YM: ∀ {l:G0 (Str×α)} {x:Str} {c:α},(x,c)∈l-> ∃c',l.lookup x=some c'
 |(n,k)::r,x,c,h=>by
  rw [C3];cases hx:x==n with
  |true=>exact⟨_,rfl⟩
  |false=>
   rcases P9.mp h with e|h
   ·cases e;simp at hx
   ·exact YM h
theorem YN {l:G0 (Str×NameKind)}{c:G5}(h:(yc l env []).lookup x=some c):env.cells.lookup x=some c:=
 Wu l [] (λ_ z=>nomatch z) (x,c) (zA h)
theorem DZ {l:G0 (Str×NameKind)}{c:G5}(hc:env.cells.lookup x=some c)(h:(x,B6)∈l):(yc l env []).lookup x=some c:=by
 obtain⟨c',e⟩:=YM (Ww hc l [] h);have:=YN e;rw [hc] at this;cases this;exact e
theorem yy {κ:Type}{f:Str×κ->Str×κ}{g:Str->κ->κ}(hf: ∀n k,f (n,k)=(n,g n k))(x:Str): ∀l:G0 (Str×κ),(l.map f).lookup x=(l.lookup x).map (g x)
 | []=>rfl
 |(n,k)::r=>by
  rw [T2,hf,C3,C3,yy hf x r];cases same:x==n with
  |false=>rfl
  |true=>rw [eq_of_beq same];rfl
theorem jt {names:G0 (Str×NameKind)}{k:NameKind}(found:
 (names.map λ(n,k)=>if (k==B6&&env.scope.kind== .function&&env.kindOf n==some .cell) then (n,K7) else (n,k)).lookup x=some k):
  names.lookup x=some k\/names.lookup x=some .free:=by
 rw [yy (g:=λn k=>if (k==B6&&env.scope.kind== .function&&env.kindOf n==some .cell) then .cell else k) (λn k=>by dsimp only;split<;>rfl)] at found;obtain⟨k0,was,now⟩:=O1.mp found;split at now
 ·rename_i c;simp only [S9,beq_iff_eq] at c;exact .inr (by rw [was,c.1.1])
 ·exact .inl (by rw [was,now])
theorem wn: ∀ (names:G0 (Str×NameKind)) (n:G8) (acc:G0 (Str×G5)) (p:Str×G5),p∈K3 n names acc->p∈acc\/(n<=p.2/\(p.1,K7)∈names)
 | [],_,_,_,h=> .inl h
 |(x,k)::r,n,acc,p,h=>by
  unfold K3 at h;split at h
  ·rename_i hk;rcases wn r (n+1) _ p h with z|⟨z1,z2⟩
   ·rcases P9.mp z with e|z
    ·subst e;have:k= .cell:=by simpa using hk
     subst this;exact .inr ⟨P1 _,P3⟩
    ·exact .inl z
   ·exact .inr ⟨by omega,D7 _ z2⟩
  ·rcases wn r n acc p h with z|⟨z1,z2⟩
   ·exact .inl z
   ·exact .inr ⟨z1,D7 _ z2⟩
theorem jK: ∀ (names:G0 (Str×NameKind)) (n:G8) (acc:G0 (Str×G5)),K3 n names acc=K3 n names []++acc
 | [],_,_=>rfl
 |(x,k)::r,n,acc=>by
  unfold K3;split
  ·rw [jK r (n+1) ((x,n)::acc),jK r (n+1) [(x,n)],W3];rfl
  ·exact jK r n acc
theorem vw (l l':G0 (Str×α))(x:Str):(l++l').lookup x=(match l.lookup x with|some c=>some c|none=>l'.lookup x):=by
 induction l with
 |nil=>rfl
 |cons p l ih=>
  obtain⟨n,c⟩:=p;rw [C9,C3,C3];cases x==n with
  |true=>rfl
  |false=>exact ih
theorem vS {names:G0 (Str×NameKind)}(here:names.lookup x=some .cell):
 (names.map λ(n,k)=>if (k==B6&&env.scope.kind== .function&&env.kindOf n==some .cell) then (n,K7) else (n,k)).lookup x=some .cell:=by
 rw [yy (g:=λn k=>if (k==B6&&env.scope.kind== .function&&env.kindOf n==some .cell) then .cell else k) (λn k=>by dsimp only;split<;>rfl),here];simp
section
variable {M:cC}{A:R6}{E:G1->G2->Prop}{s:G2}
theorem Pd (h:M4)(names:G0 (Str×NameKind)):(∀n c,(n,c)∈K3 h.objs.size names []->(pushCells h names).IsCell c none/\h.objs.size<=c)/\(K3 h.objs.size names []).Pairwise λx y=>x.2≠y.2:=
 have laid:=cellsFrom_ok names h h.objs.size [] ⟨by simp,.nil⟩ (P1 _)
 ⟨laid.empty,laid.apart⟩
theorem ZK {scope:H0}{globals:G5}{closure:G0 (Str×G5)}{qual:Str}{func:P0 G5}{code:G1}{outer:Env}{builtins:G5}{Q:Env->G2->Prop}
 (hQ: ∀h',h'.Ns s.heap.objs.size (λ_=>none)->(∀b o,s.heap.get? b=some o->h'.get? b=some o)->(∀n c,(n,c)∈K3 (s.heap.objs.size+1) scope.names []->h'.IsCell c none/\s.heap.objs.size+1<=c)->
  ((K3 (s.heap.objs.size+1) scope.names []).Pairwise λx y=>x.2≠y.2)->
  Q (newEnv scope s.heap.objs.size globals (K3 (s.heap.objs.size+1) scope.names closure) qual func code (some outer) builtins) {s with heap:=h'}):
 D1 M A (r9 scope globals closure [] qual func code (some outer) builtins) Q E s:=by
 have names:=Pd (s.heap.push {cls:= .type "dict",data:= .dict #[]}) scope.names;have first:(s.heap.push {cls:= .type "dict",data:= .dict #[]}).objs.size=s.heap.objs.size+1:=aH ..
 rw [first] at names;unfold r9;refine wpAny_bind (wpAny_alloc (wpAny_bind (wpAny_layCells _ (λn k cs=>rfl) _ _ _ _ ?_)));simp only [oA,iC];rw [first];exact wpAny_bind (G7 (G7 (hQ _ ((Heap.Ns.new _ _).keeps (qX _ _)) (λb o here=>qX _ _ b o (G4 _ here)) names.1 names.2)))
end
def ju (X:Cx)(scope:H0)(C:G5):G0 (Str×G5):=K3 (C+1) scope.names (yc scope.names X.env [])
def yU (X:Cx)(scope:H0)(C:G5)(s₀:G2)(H₀:Hp)(ex:G0 G5):Cx:=
 {X with s₀:=s₀,H₀:=H₀,env:=iZ scope (ju X scope C) C X.env,outer:=X.stack,ex:=ex,fn:=λx=>scope.names.lookup x==some .cell,pn:= [],xe:=λ_ _=>False}
def ji (X:Cx)(scope:H0)(X':Cx):Prop:= ∃C s₀ H₀ ex,X'=yU X scope C s₀ H₀ ex
structure BlockOk (X:Cx)(scope:H0)(js:G0 G8):Prop where
 kind:scope.kind= .function
 locs: ∀p∈scope.names,p.2= .local->scope.names.lookup p.1=some .local
 cels: ∀p∈scope.names,p.2= .cell->scope.names.lookup p.1=some .cell
 free: ∀p∈scope.names,p.2= .free->X.env.scope.names.lookup p.1=some .cell\/X.env.scope.names.lookup p.1=some .free
 js: ∀ (i:G8) (x:Str),X.N[i]? =some x->(scope.names.lookup x=some .local\/scope.names.lookup x=some .cell)->i∈js
variable {js:G0 G8}
theorem jZ (S:BlockOk X scope js){C:G5}{x:Str}{c:G5}(h:(ju X scope C).lookup x=some c):
 (scope.names.lookup x≠some .cell/\X.env.cells.lookup x=some c)\/(scope.names.lookup x=some .cell/\(x,c)∈K3 (C+1) scope.names []):=by
 unfold ju at h;rw [jK,vw] at h;cases e:(K3 (C+1) scope.names []).lookup x with
 |some d=>
  rw [e] at h;cases h;have m:=zA e;rcases wn _ _ _ _ m with z|⟨_,z⟩
  ·exact absurd z (by simp)
  ·exact .inr ⟨S.cels _ z rfl,m⟩
 |none=>
  rw [e] at h;refine .inl ⟨λz=> ?_,YN h⟩;obtain⟨d,hd⟩:=yx (sc:=scope) (n:=C+1) z;rw [e] at hd;cases hd
theorem wR (S:BlockOk X scope js){C:G5}{x:Str}{c:G5}(hc:X.env.cells.lookup x=some c)(h:(x,B6)∈scope.names)(hn:scope.names.lookup x≠some .cell):(ju X scope C).lookup x=some c:=by
 unfold ju;rw [jK,vw];cases e:(K3 (C+1) scope.names []).lookup x with
 |some d=>
  rcases wn _ _ _ _ (zA e) with z|⟨_,z⟩
  ·exact absurd z (by simp)
  ·exact absurd (S.cels _ z rfl) hn
 |none=>exact DZ hc h
def zB:G0 G8->St->St
 | [],σ=>σ
 |j::js,σ=>zB js (σ.set j none)
theorem Zn: ∀ (js:G0 G8) (σ:St),(zB js σ).length=σ.length
 | [],_=>rfl
 |j::js,σ=>by rw [zB,Zn js];simp
theorem Jq: ∀ (js:G0 G8) (σ:St) (i:G8) (v:V),(zB js σ)[i]? =some (some v)->σ[i]? =some (some v)
 | [],_,_,_,h=>h
 |j::js,σ,i,v,h=>by
  have h1:=Jq js _ i v h
  by_cases e:i=j
  ·subst e;rw [dH] at h1;simp at h1
  ·rwa [J5 (O0 e)] at h1
theorem zq: ∀ (js:G0 G8) (σ:St) (i:G8) (v:V),i∈js-> ¬ (zB js σ)[i]? =some (some v)
 |j::js,σ,i,v,hm,h=>by
  rcases P9.mp hm with rfl|hm
  ·have h1:=Jq js _ i v h;rw [dH] at h1;simp at h1
  ·exact zq js _ i v hm h
variable {o:HO}
theorem HOk.track {h:M4}(x:HOk P w H h)(hn:H a=none)(new:ObjOk P w (upd H a o) h a o):HOk P w (upd H a o) h:=λb u e=>by
 by_cases hb:b=a
 ·subst hb;rw [je] at e;cases e;exact new
 ·rw [jd hb] at e;exact(x b u e).stay (λc v _ q=>q) (λc q=>by rw [jd (jf q hn)];exact q) λc xs q=>by rw [jd (jf q hn)];exact q
def Agree (σ σ':St):Prop:=σ'.length=σ.length/\ ∀ (i:G8) (v:V),σ[i]? =some (some v)->σ'[i]? =some (some v)
theorem Agree.set {j:G8}(v:V)(h: ∀u,¬σ[j]? =some (some u)):Agree σ (σ.set j (some v)):=⟨by simp,λi u q=>by
 by_cases e:j=i
 ·subst e;exact absurd q (h u)
 ·rw [J5 e];exact q⟩
def PTs (X:Cx)(ifs:G0 S6)(t:TT):Prop:=
 ∀ (pins:G0 (G5×Obj)) (s:G2) (σ:St) (H:Hp) (Q:N0->Hp->Prop),Inv X pins σ H s->t σ H Q->
  D1 (D3 X.prog X.w) X.A (forIn ifs true λc r=>if r=true then do let ok <-isTrue c X.env (C8 c X.env);pure (J8 ok) else pure (J8 r)) (TP X pins σ Q) X.xe s
def Ku:TT:=λ_ H Q=>Q true H
theorem FH:PTs X [] Ku:=λ_ _ _ H _ I h=>wpAny_tests_nil ⟨H,I,h⟩
theorem FI {c:S6}{t:TT}(hc:PT X c t):PTs X [c] t:=λpins s σ H Q I h=>wpAny_tests_one (hc pins s σ H Q I h)
def Jr (iter target:S6)(ifs:G0 S6)(it:G1)(env:Env)(act:Sem Unit)(nxt:Code):Sem cY:=do
 hO iter.pos
 match <-rR it with
 |none=>pure (.done .next)
 |some v=>
  aT target it v
  dY target env v
  let mut ok:=true
  for c in ifs do
   if ok then ok <-isTrue c env (C8 c env)
  if ok then act
  again nxt
variable {elt iter:S6}{ifs:G0 S6}
theorem Gh {prog:D5}{A:R6}{R:j9->G2->Prop}{s:G2}{target:S6}{gens:G0 X8}{depth:G8}{it acc:G1}{act:Sem Unit}(I:G8->G2->Prop)
 (heq:fC (.ListComp elt gens scope pos) depth it acc env=Jr iter target ifs it env act (.compLoop (.ListComp elt gens scope pos) depth it acc env))
 (turn: ∀n s,I n s->D1 (D3 prog w) A (rR it) (λr s₁=>match r with
  |none=>R (.ok .next) s₁
  |some v=>D1 (D3 prog w) A (aT target it v) (λ_ s₁=>D1 (D3 prog w) A (dY target env v) (λ_ s₂=>
   D1 (D3 prog w) A (forIn ifs true λc r=>if r=true then do let ok <-uY c env (C8 c env);pure (J8 ok) else pure (J8 r)) (λok s₃=>
    if ok=true then D1 (D3 prog w) A act (λ_ s₅=> ∃m,m<n/\I m s₅) (λ_ _=>False) s₃
    else ∃m,m<n/\I m s₃) (λ_ _=>False) s₂) (λ_ _=>False) s₁) (λ_ _=>False) s₁) (λ_ _=>False) s)
 (n:G8)(h:I n s):
 E8 (D3 prog w) A (.compLoop (.ListComp elt gens scope pos) depth it acc env) R s:=by
 refine uZ rfl I (λn s hI=> ?_) n h;show D1 _ A ((fC (.ListComp elt gens scope pos) depth it acc env).onRaise (λx=>do i0 x env;lR x)) _ _ s;refine xK ?_;rw [heq];unfold Jr;refine wpAny_bind (Q5 (wpAny_bind (R7 (turn n s hI) (λr s₁ h₁=> ?_) λ_ _ h'=>h'.elim)));cases r with
 |none=>exact G7 h₁
 |some v=>
  refine wpAny_bind (R7 h₁ (λ_ s₁ h₁=> ?_) λ_ _ h'=>h'.elim);refine wpAny_bind (R7 h₁ (λ_ s₂ h₂=>wpAny_bind (R7 h₂ (λok s₃ h₃=> ?_) λ_ _ h'=>h'.elim)) λ_ _ h'=>h'.elim);cases ok with
  |false=>exact G7 ⟨rfl,h₃⟩
  |true=>exact wpAny_bind (R7 h₃ (λ_ s₅ h₅=>G7 ⟨rfl,h₅⟩) λ_ _ h'=>h'.elim)
abbrev TM:=St->Hp->G0 V->(G0 V->Hp->Prop)->Prop
def Tc (X:Cx)(D:G5)(act:Sem Unit)(t:TM):Prop:=
 ∀ (pins:G0 (G5×Obj)) (s:G2) (σ:St) (H:Hp) (ys:G0 V) (us:G0 G1) (Q:G0 V->Hp->Prop),Inv X ([(D,Z8 us)]++pins) σ H s->Vals ys us->ys.length<=sizeLine->D∈X.ex->(∀x c,X.env.cells.lookup x=some c->c≠D)->(∀p∈X.pn++pins,p.1≠D)->t σ H ys Q->
  D1 (D3 X.prog X.w) X.A act (λ_ s'=> ∃ys' us' H',Vals ys' us'/\Inv X ([(D,Z8 us')]++pins) σ H' s'/\Q ys' H') (λ_ _=>False) s
def AO (te:TE):TM:=λσ H ys Q=>te σ H λy H1=>Q (ys++ [y]) H1
def YO (elt:S6)(env:Env)(acc:G1):Sem Unit:=do let _ <-call (.builtin "list.append") [acc,<-C8 elt env]
variable {te:TE}
theorem Vl {D:G5}(hx:X.xe=λ_ _=>False)(he:PE X elt te):Tc X D (YO elt X.env (.ref D)) (AO te):=by
 intro pins s σ H ys us Q I hv hz DX cD pD h;have q:=he _ s σ H _ I h;rw [hx] at q;unfold YO;refine wpAny_bind (R7 q (λy s1 ⟨yv,H1,I1,r1,q1⟩=> ?_) λ_ _ z=>z);have zD:=I1.pin (D,Z8 us) (P6 _ (T6 _ P3));refine wpAny_bind (append_at (its:=us.toArray) (n:=us.length) zD.1 (λh11 hs11 hD11=>G7 ?_) (by rw [R9,<-hv.length];exact hz));have I10u:Inv X pins σ H1 s1:=I1.pins_of λp hp=>I1.pin p (P6 _ (P6 _ hp))
 have I11:Inv X pins σ H1 {s1 with heap:=h11}:=I10u.turned (t':=s1.toks) (it:=D) (λb o hb e=>hs11.extBut b o hb e) zD.2.1 zD.2.2.1 (.inl DX) cD pD;have eD:h11.get? D=some (Z8 (us++ [y])):=by rw [hD11];exact congrArg some (LCg.lst_snoc us y)
 refine⟨ys++ [yv],us++ [y],H1,hv.append (.cons r1 .nil),I11.pins_of λp hp=> ?_,q1⟩;rcases T4.mp hp with z|z
 ·rcases P4.mp z with rfl
  exact⟨eD,zD.2.1,zD.2.2.1,zD.2.2.2.1,λv z=>by cases z⟩
 ·exact I11.pin p (P6 _ z)
def Td (js : G0 G8) (wi : TI) (g : TG) (tt : TT) (tm : TM) : TE := fun σ H Q => wi σ H fun J H1 =>
  ∃ W : G8 → G8 → G0 V → Hp → Prop, (∃ m, W 0 m [] H1) ∧ ∀ i m ys H, W i m ys H → ys.length ≤ sizeLine ∧
    ((J.stop i H ∧ ∀ p, H p = none → Q (.ref p) (upd H p (.lst ys))) ∨
     (J.go i H ∧ ∀ x H', J.yld i H x H' → g x (zB js σ) H' fun σ2 H2 => Agree (zB js σ) σ2 ∧ tt σ2 H2 fun b H3 =>
        if b = true then tm σ2 H3 ys fun ys' H4 => ∃ m', m' < m ∧ W (i + 1) m' ys' H4 else ∃ m', m' < m ∧ W (i + 1) m' ys H3))
def tLC (js:G0 G8)(wi:TI)(g:TG)(tt:TT)(te:TE):TE:=Td js wi g tt (AO te)
variable {e tg:S6}{wi:TI}{g:TG}{tt:TT}
theorem Ra {rest:G0 X8}{pos0:Pos}{tm:TM}{use:P0 (G1->Sem Unit)}{Qv:G1->G2->Prop}(hc:X.calm=true)(S:BlockOk X scope js)(hi:PI X tg iter wi)
 (he0:e= .ListComp elt (⟨tg,iter,ifs,0⟩::rest) scope pos)
 (hg: ∀X',ji X scope X'->PG X' tg g)(ht: ∀X',ji X scope X'->PTs X' ifs tt)
 (act:Env->G1->Sem Unit)(hturn: ∀it acc env,fC e 0 it acc env=Jr iter tg ifs it env (act env acc) (.compLoop e 0 it acc env))(he: ∀X',ji X scope X'-> ∀D,Tc X' D (act X'.env (.ref D)) tm)
 (hs: ∀x,T8 iter X.env x=pure x){pins:G0 (G5×Obj)}{s:G2}{σ:St}{H:Hp}{Q:VK}(I:Inv X pins σ H s)(h:Td js wi g tt tm σ H Q)
 (fin: ∀ (D C:G5) (H':Hp) (s':G2) (m:Str->P0 G1),s'.heap.Ns C m->(∀h',A5 C s'.heap h'->Inv X pins σ H' {s' with heap:=h'})->H' C=none->C≠X.env.locals->C ∉ X.fs->X.s₀.heap.objs.size<=C->(∀x c,X.env.cells.lookup x=some c->c≠C)->(∀p∈X.pn++pins,p.1≠C)->
  Q (.ref D) H'->sA (D3 X.prog X.w) X.A X.xe use Qv (.ref D) C (.ok .next) s'):
 D1 (D3 X.prog X.w) X.A (iM e scope X.env pos0 (newList []) false (C8 iter X.env) use) Qv X.xe s:=by
 have hclos:=Jp (scope:=scope) (env:=X.env) (λp hp e=>I.ok.has p.1 (S.free p hp e));subst he0;refine iN (use:=use) rfl hs hclos S.kind S.locs (thn (hi pins s σ H _ I h) λv s1 h1=>thn h1 λitv s2 h2=> ?_);obtain⟨it,fp,tn,J,H2,e,I2,T,st2,f2,W,⟨m0,w0⟩,turn⟩:=h2;subst e;refine A3 (ZK (λh₁ hns₁ hkp₁ hcl₁ hap₁=> ?_));dsimp only at hns₁ hkp₁ hcl₁ hap₁ ⊢;generalize hD:s2.heap.objs.size=D;generalize hH3:s2.heap.push {cls:= .type "list",dict:=none,data:= .seq ([]:G0 G1).toArray}=h3 at hns₁ hkp₁ hcl₁ hap₁ ⊢;have sz3:h3.objs.size=D+1:=by rw [<-hH3,aH,hD]
 have up3: ∀b o,s2.heap.get? b=some o->h3.get? b=some o:=λb o e=>hH3 ▸ G4 _ e
 have I3:Inv X pins σ H2 {s2 with heap:=h3}:=I2.kept (t':=s2.toks) up3;have hD3:h3.get? D=some (Z8 []):=by rw [<-hH3,<-hD];exact S4 _ rfl
 have fD:XU X pins H2 D:=I2.fpOk (by rw [hD];exact P1 _) (I2.hok.fresh (by rw [hD];exact P1 _));have obf: ∀b∈fp,∃o,s2.heap.get? b=some o/\ ∀v,o.data≠ .cell v:=T.obj _ _ st2;have ltf: ∀b∈fp,b<D:=λb hb=>by obtain⟨o,e,_⟩:=obf b hb;rw [<-hD];exact D0 e
 generalize hC:h3.objs.size=C at hns₁ hcl₁ hap₁ ⊢;have CD:C=D+1:=hC.symm.trans sz3;have upC: ∀b o,h3.get? b=some o->h₁.get? b=some o:=hkp₁;generalize hX:yU X scope C {s2 with heap:=h3} H2 (fp++ [D])=X';have iX:ji X scope X':=⟨C,_,_,_,hX.symm⟩;have hf: ∀b∈fp++ [D],XU X pins H2 b:=λb hb=>(T4.mp hb).elim (f2 b) λz=>by rw [P4.mp z];exact fD
 have cl: ∀x c,(ju X scope C).lookup x=some c->X.env.cells.lookup x=some c\/C<c:=λx c e=>by
  rcases jZ S e with ⟨_,z⟩|⟨_,z⟩
  ·exact .inl z
  ·exact .inr (Q9 (hcl₁ x c z).2)
 have olt: ∀x c,X.env.cells.lookup x=some c->c<C:=λx c e=>by obtain⟨v,q⟩:=I3.cell x c e;rw [<-hC];exact q.lt
 have ltb: ∀b∈fp++ [D],b<C:=λb hb=>(T4.mp hb).elim (λz=>by have:=ltf b z;rw [CD];exact aZ this) λz=>by rw [P4.mp z,CD];exact A0 _
 have okX:X'.Ok:=by
  subst hX;refine⟨I.ok.mod,S.kind,I.ok.glob,I.ok.blt,bU hC,λx y c e1 e2=> ?_,λx hx=> ?_,λx c z e=> ?_,I.ok.hd,I.ok.frames,.inl rfl,λb hb=>⟨R5 (ltb b hb),λx c e=>(cl x c e).elim (λz=>(hf b hb).2.2.2.2.1 x c z) λz=>A6 (A7 (ltb b hb) z)⟩,
   I3.bs,T9 I.ok.bsz I3.sz,λb o e hb=> ?_,λb hb z=> ?_,I3.stack,I3.stkFree⟩
  ·rcases jZ S e1 with ⟨_,z1⟩|⟨_,z1⟩<;>rcases jZ S e2 with ⟨_,z2⟩|⟨_,z2⟩
   ·exact I.ok.inj x y c z1 z2
   ·exact absurd (A7 (olt x c z1) (Q9 (hcl₁ y c z2).2)) (N8 _)
   ·exact absurd (A7 (olt y c z2) (Q9 (hcl₁ x c z1).2)) (N8 _)
   ·exact lA hap₁ z1 z2
  ·have own:scope.names.lookup x=some .cell-> ∃c,(ju X scope C).lookup x=some c:=λz=>by
    obtain⟨c,hc⟩:=yx (sc:=scope) (n:=C+1) z;exact⟨c,by unfold ju;rw [jK,vw,hc]⟩
   have shr:scope.names.lookup x=some .free-> ∃c,(ju X scope C).lookup x=some c:=λz=>by
    have fm:=zA z;obtain⟨c,hc⟩:=I.ok.has x (S.free _ fm rfl);exact⟨c,wR S hc fm (by rw [z];decide)⟩
   rcases hx with hx|hx
   ·rcases jt (env:=X.env) hx with z|z
    ·exact own z
    ·exact shr z
   ·rcases jt (env:=X.env) hx with z|z<;>exact shr z
  ·have z':scope.names.lookup x=some .cell:=by
    have z2:(scope.names.lookup x==some K7)=true:=z;simpa using z2
   rcases jZ S e with ⟨n,_⟩|⟨_,m⟩
   ·exact absurd z' n
   ·show h3.objs.size<=c;rw [hC];exact M5 (Q9 (hcl₁ x c m).2)
  ·rcases (hf b hb).2.2.2.1 with z|z
   ·exact I.ok.noex b o e z
   ·exact absurd (S0 (D0 e) (T9 I.ok.bsz z)) (N8 _)
  ·rcases P9.mp (I.stkSub b z) with q|q
   ·exact(hf b hb).2.1 q
   ·exact(hf b hb).2.2.1 q
 -- the block's first state
 have I4:Inv X' [(D,Z8 [])] (zB js σ) H2 {s2 with heap:=h₁}:=by
  subst hX;have hDC:D≠C:=by rw [CD];exact R5 (A0 _)
  refine⟨okX,rfl,I2.bare,Un.kept (λb u e=>upC b u e),⟨_,hns₁,λi x v e1 e2 e3=> ?_⟩,λx c e=> ?_,I3.hok.fresh (bU hC),λx c e=>(cl x c e).elim (λz=>I2.freeC x c z) (λz=>I3.hok.fresh (by rw [<-hC] at z;exact M5 z)),λp hp=> ?_,I3.hok.kept upC,(Zn js σ).trans I2.len⟩
  ·have fr:scope.names.lookup x=some .free:=by
    rcases e3 with e3|e3|e3
    ·rcases jt (env:=X.env) e3 with z|z
     ·exact absurd e2 (zq js σ i v (S.js i x e1 (.inl z)))
     ·exact z
    ·rcases jt (env:=X.env) e3 with z|z
     ·exact absurd e2 (zq js σ i v (S.js i x e1 (.inr z)))
     ·exact z
    ·rcases jt (env:=X.env) e3 with z|z<;>exact z
   have fm:=zA fr;obtain⟨m,hm,hl⟩:=I2.loc;have vis:=S.free _ fm rfl;obtain⟨u,r,lk⟩:=hl i x v e1 (Jq js σ i v e2) (.inr vis);have kd:(u0 scope X.env).names.lookup x=some .cell\/(u0 scope X.env).names.lookup x=some .free:=by
    rcases e3 with e3|e3|e3
    ·rcases jt (env:=X.env) e3 with z|z
     ·rw [fr] at z;cases z
     ·exfalso;have z2:=e3
      -- a local's kind stays
      exact absurd e2 (zq js σ i v (S.js i x e1 (.inl (by
       have q: ∀ (l:G0 (Str×NameKind)),(l.map λ(n,k)=>if (k==B6&&X.env.scope.kind== .function&&X.env.kindOf n==some .cell) then (n,K7) else (n,k)).lookup x=some .local->l.lookup x=some .local:=by
        intro l
        induction l with
        |nil=>intro h;simp at h
        |cons p l ih=>
         obtain⟨n,k'⟩:=p;intro h;have h':xL x ((if (k'==B6&&X.env.scope.kind== .function&&X.env.kindOf n==some .cell)=true then (n,K7) else (n,k'))::(l.map λ(n,k)=>if (k==B6&&X.env.scope.kind== .function&&X.env.kindOf n==some .cell) then (n,K7) else (n,k)))=some .local:=h;rw [C3]
         by_cases hc:(k'==B6&&X.env.scope.kind== .function&&X.env.kindOf n==some .cell)=true
         ·rw [R1 hc,C3] at h';cases hx:x==n with
          |true=>rw [hx] at h';cases h'
          |false=>rw [hx] at h';exact ih h'
         ·rw [R3 hc,C3] at h';cases hx:x==n with
          |true=>rw [hx] at h';exact h'
          |false=>rw [hx] at h';exact ih h'
       exact q _ z2))))
    ·exact .inl e3
    ·exact .inr e3
   rcases lk with ⟨k,_⟩|⟨_,c,hc,hcell⟩
   ·have k':X.env.scope.names.lookup x=some .local:=k;rcases vis with z|z<;>(rw [k'] at z;cases z)
   ·refine⟨u,r,.inr ⟨kd,c,wR S hc fm (by rw [fr];decide),?_⟩⟩;obtain⟨o,ho,hd⟩:=hcell;exact⟨o,upC _ _ (up3 _ _ ho),hd⟩
  ·rcases jZ S e with ⟨_,z⟩|⟨_,z⟩
   ·obtain⟨v,o,ho,hd⟩:=I2.cell x c z;exact⟨v,o,upC _ _ (up3 _ _ ho),hd⟩
   ·exact⟨none,(hcl₁ x c z).1⟩
  ·have hp':p∈ [(D,Z8 [])]:=hp;rcases P4.mp hp' with rfl
   refine⟨upC _ _ hD3,fD.1,hDC,λz=> ?_,λv z=>by cases z⟩;rcases P9.mp (I.stkSub D z) with q|q
   ·exact fD.2.1 q
   ·exact fD.2.2.1 q
 have st4:tn 0 h₁:=T.keep _ _ _ st2 λb _ o e=>upC _ _ (up3 _ _ e)
 have eA:X'.A=X.A:=by rw [<-hX];rfl
 have eP:X'.prog=X.prog:=by rw [<-hX];rfl
 have eW:X'.w=X.w:=by rw [<-hX];rfl
 have eK:X'.K=X.K:=by rw [<-hX];rfl
 have eC:X'.calm=true:=by rw [<-hX];exact hc
 have eV:X'.env=iZ scope (ju X scope C) C X.env:=by rw [<-hX];rfl
 have eE:X'.xe=λ_ _=>False:=by rw [<-hX];rfl
 -- what stays true of the iterator's objects
 have stat: ∀ {us:G0 G1} {H':Hp},(∀b∈fp,H' b=none)-> ∀b∈fp,XU X' [(D,Z8 us)] H' b:=λ{us H'} hn b hb=>by
  have q:=hf b (T6 _ hb);subst hX;refine⟨hn b hb,R5 (ltb b (T6 _ hb)),λz=> ?_,.inl (T6 _ hb),λx c e=>(cl x c e).elim (λz=>q.2.2.2.2.1 x c z) (λz=>A6 (A7 (ltb b (T6 _ hb)) z)),λp hp=> ?_⟩
  ·rcases P9.mp (I.stkSub b z) with r|r
   ·exact q.2.1 r
   ·exact q.2.2.1 r
  ·have hp':p∈ [(D,Z8 us)]:=hp;rcases P4.mp hp' with rfl
   exact A6 (ltf b hb)
 have loop: ∀s₃:G2,s₃= {s2 with heap:=h₁}->
  E8 (D3 X.prog X.w) X.A (.compLoop (.ListComp elt (⟨tg,iter,ifs,0⟩::rest) scope pos) 0 (.ref it) (.ref D) (iZ scope (ju X scope C) C X.env))
   (sA (D3 X.prog X.w) X.A X.xe use Qv (.ref D) C) s₃:=by
  rintro s₃ rfl;refine Gh (act:=act (iZ scope (ju X scope C) C X.env) (.ref D)) (λn s'=> ∃i ys us H',Vals ys us/\Inv X' [(D,Z8 us)] (zB js σ) H' s'/\tn i s'.heap/\(∀b∈fp,H' b=none)/\W i n ys H') (hturn _ _ _) ?_ m0
   ⟨0,[],[],H2,.nil,I4,st4,λb hb=>(f2 b hb).1,w0⟩
  rintro n s5 ⟨i,ys,us,H5,hv5,I5,st5,fr5,w5⟩;obtain⟨hz,tr⟩:=turn i n ys H5 w5;rcases tr with ⟨stop,qn⟩|⟨go,step⟩
  ·have q:=T.done X' eP eW eK eC i _ s5 _ H5 (λ_ _=>False) I5 (stat fr5) st5 stop;rw [eA] at q;refine R7 q (λr s6 ⟨hr,I6⟩=> ?_) λ_ _ z=>z
   subst hr;obtain⟨m6,hm6,_⟩:=I6.loc;rw [eV] at hm6;have zD:=I6.pin (D,Z8 us) (P6 _ P3);have HD:H5 D=none:=zD.2.1;have oD:s6.heap.get? D=some (Z8 us):=zD.1;have hDC:D≠C:=by rw [CD];exact R5 (A0 _)
   have HC:H5 C=none:=by have z:=I6.free;rw [eV] at z;exact z
   have B:=I6.base;have os6:s6.os=s2.os:=by have z:=I6.os;rw [<-hX] at z;exact z
   have Bu:Un (frs X.stack) (fp++ [D]) H2 H5 h3 s6.heap:=by rw [<-hX] at B;exact B
   have neC: ∀b o,h3.get? b=some o->b≠C:=λb o e=>by rw [<-hC];exact R5 (D0 e)
   refine fin D C (upd H5 D (.lst ys)) s6 m6 hm6 (λh' hs'=> ?_) (by rw [jd (O0 hDC)];exact HC) ?_ ?_ ?_ (λx c e=>R5 (olt x c e)) ?_ (qn D HD)
   ·have hk5:HOk X.prog X.w H5 h':=λb u e=>by
     have z:=I6.hok b u e;rw [eP,eW] at z;refine z.stay (λc v hc q=>hs'.extBut c v ?_ q) (λ_ q=>q) λ_ _ q=>q
     rcases hc with rfl|hc
     ·exact jf e HC
     ·exact jf hc HC
    refine I3.call' (ch:=fp++ [D]) os6 ⟨λb o e n hb hx=> ?_,λb o e n hb hx=> ?_,λb o e n hx=> ?_,λb o e hx=> ?_,λb xs e=> ?_,λb o u e=> ?_,λb ps e=> ?_⟩ (hk5.track HD ?_) I6.bare λb hb=> ?_
    ·exact hs'.extBut b o (neC b o e) (Bu.keep b o e n hb hx)
    ·obtain⟨sl,q⟩:=Bu.slot b o e n hb hx;exact⟨sl,hs'.extBut b _ (neC b o e) q⟩
    ·rw [jd λz=>hx (by rw [z];exact P6 _ P3)];exact Bu.free b o e n hx
    ·obtain⟨o',q⟩:=Bu.there b o e hx;exact⟨o',hs'.extBut b _ (neC b o e) q⟩
    ·have z:=Bu.tups b xs e;rw [jd (jf z HD)];exact z
    ·have z:=Bu.frzs b o u e;rw [jd (jf z HD)];exact z
    ·obtain⟨more,z⟩:=Bu.tbls b ps e;exact⟨more,by rw [jd (jf z HD)];exact z⟩
    ·exact⟨hz,us,us.length,hv5,hs'.extBut D _ hDC oD⟩
    ·have q:=hf b hb;exact⟨q.2.2.2.1,q.2.1,q.2.2.2.2.1,q.2.2.2.2.2⟩
   ·rw [<-hC];exact A6 I3.lt
   ·exact I3.nofs (bU hC)
   ·rw [<-hC];exact I3.sz
   ·intro p hp;have:=(I3.pin p hp).1;rw [<-hC];exact R5 (D0 this)
  ·have q:=T.item X' eP eW eK eC i _ s5 _ H5 (λ_ _=>False) I5 (stat fr5) st5 go;rw [eA] at q;refine R7 q (λr s6 ⟨u,hr,h6⟩=> ?_) λ_ _ z=>z
   subst hr;refine R7 h6 (λ_ s7 ⟨x,H7,I7,r7,y7,st7,fr7⟩=> ?_) λ_ _ z=>z
   have I7':=I7.pinned (stat fr7) (T.obj _ _ st7);have q7:=hg X' iX _ s7 _ H7 x u _ I7' r7 (step x H7 y7);rw [eP,eW,eA,eV,eE] at q7;refine R7 q7 (λ_ s8 ⟨σ8,H8,I8,ag8,q8⟩=> ?_) λ_ _ z=>z
   have q9:=ht X' iX _ s8 σ8 H8 _ I8 q8;rw [eP,eW,eA,eV,eE] at q9;refine R7 q9 (λok s9 ⟨H9,I9,q9⟩=> ?_) λ_ _ z=>z
   have keepT: ∀ {σ':St} {H':Hp} {s':G2} {us:G0 G1},Inv X' ([(D,Z8 us)]++yj fp s7.heap) σ' H' s'->tn (i+1) s'.heap/\ ∀b∈fp,H' b=none:=λ{σ' H' s' us} I'=>
    ⟨T.keep _ _ _ st7 λb hb o e=>(I'.pin (b,o) (P6 _ (P6 _ (zy hb e)))).1,λb hb=>by
     obtain⟨o,e,_⟩:=T.obj _ _ st7 b hb;exact(I'.pin (b,o) (P6 _ (P6 _ (zy hb e)))).2.1⟩
   cases ok with
   |false=>
    have q9: ∃m',m'<n/\W (i+1) m' ys H9:=q9;obtain⟨m',hm,w9⟩:=q9;obtain⟨t9,f9⟩:=keepT I9;exact⟨m',hm,i+1,ys,us,H9,hv5,(I9.unpinned).weak ag8.1.symm ag8.2,t9,f9,w9⟩
   |true=>
    have q9:tm σ8 H9 ys λys' H4=> ∃m',m'<n/\W (i+1) m' ys' H4:=q9
    have DX:D∈X'.ex:=by rw [<-hX];exact P6 _ P3
    have pD: ∀p∈X'.pn++yj fp s7.heap,p.1≠D:=λp hp=>by
     have hp':p∈yj fp s7.heap:=by rw [<-hX] at hp;simpa [yU] using hp
     exact R5 (ltf _ (Jn hp').1)
    have cD: ∀x c,X'.env.cells.lookup x=some c->c≠D:=λx c e=>by
     rw [eV] at e;exact(cl x c e).elim (λz=>fD.2.2.2.2.1 x c z) λz=>A6 (A7 (by rw [CD];exact A0 _) z)
    have q10:=he X' iX D _ s9 σ8 H9 ys us _ I9 hv5 hz DX cD pD q9;rw [eP,eW,eA,eV] at q10;show D1 _ _ (act _ _) _ _ s9;refine R7 q10 (λ_ s10 ⟨ys',us',H10,hv10,I10,m',hm,w10⟩=> ?_) λ_ _ z=>z
    obtain⟨t10,f10⟩:=keepT I10;exact⟨m',hm,i+1,ys',us',H10,hv10,(I10.unpinned).weak ag8.1.symm ag8.2,t10,f10,w10⟩
 exact codeAny_compStart_list (loop _ rfl) (T.self X.A 0 _ _ _ st4 (loop _ rfl))
theorem TJ (hc:X.calm=true)(S:BlockOk X scope js)(hi:PI X tg iter wi)
 (hg: ∀X',ji X scope X'->PG X' tg g)(ht: ∀X',ji X scope X'->PTs X' ifs tt)(he: ∀X',ji X scope X'->PE X' elt te)
 (hs: ∀x,T8 iter X.env x=pure x:=by intro _;rfl):PE X (.ListComp elt [⟨tg,iter,ifs,0⟩] scope pos) (tLC js wi g tt te):=by
 intro pins s σ H Q I h;rw [tE];exact Ra (use:=none) hc S hi rfl hg ht (YO elt) (λ_ _ _=>rfl) (λX' hX D=>Vl (by obtain⟨_,_,_,_,rfl⟩:=hX;rfl) (he X' hX)) hs I h
  λD C H' s' m hn hk _ _ _ _ _ _ q=>⟨m,hn,λh' hs'=>⟨.ref D,H',hk h' hs',rfl,q⟩⟩
theorem Rb {rest:G0 X8}{pos' spos:Pos}{g':TG}{tm:TM}(hc:X.calm=true)(S:BlockOk X scope js)(hi:PI X tg iter wi)
 (he0:e= .ListComp elt (⟨tg,iter,ifs,0⟩::rest) scope pos)(hg: ∀X',ji X scope X'->PG X' tg g)(ht: ∀X',ji X scope X'->PTs X' ifs tt)
 (act:Env->G1->Sem Unit)(hturn: ∀it acc env,fC e 0 it acc env=Jr iter tg ifs it env (act env acc) (.compLoop e 0 it acc env))(he: ∀X',ji X scope X'-> ∀D,Tc X' D (act X'.env (.ref D)) tm)
 (hg':PG X (.Name x pos') g')(hsw:Q4 e (some (.Name x pos')) spos.line X.env=pure true)
 (hs: ∀x,T8 iter X.env x=pure x):PS X (.Assign [.Name x pos'] e spos) (Cf (Td js wi g tt tm) g'):=by
 intro pins s σ H Dn I h;rw [exec_Assign_Name_used _ _ _ _ hsw];refine wpAny_bind (Q5 (wpAny_bind ?_));subst he0;rw [arm_evalThenUse_ListComp];show D1 _ X.A (do let _ <-iM (.ListComp elt (⟨tg,iter,ifs,0⟩::rest) scope pos) scope X.env _ (newList []) false (C8 iter X.env) (some (dY (.Name x pos') X.env))) _ _ s;refine wpAny_bind (R7 (Ra (use:=some (dY (.Name x pos') X.env)) (Qv:=λ_ s'=>SP X pins Dn .next s') hc S hi rfl hg ht act hturn he hs I h ?_) (λ_ s' hq=>G7 (G7 hq)) λ_ _ e=>e);intro D C H' s' m hn hk HC nL nf sz ncell npin q;show D1 _ X.A (dY (.Name x pos') X.env (.ref D)) _ _ s';obtain⟨o,es,ep,ho,hd,hr⟩:=id hn;have I1:Inv X pins σ H' s':=hk s'.heap (bE ..);have I2:Inv X (pins++ [(C,o)]) σ H' s':=I1.pins_of λp hp=>by
  rcases T4.mp hp with z|z
  ·exact I1.pin p (P6 _ z)
  ·rcases P4.mp z with rfl
   exact⟨ho,HC,nL,nf,λv z=>by rw [hd] at z;cases z⟩
 refine R7 (hg' _ s' σ H' (.ref D) (.ref D) _ I2 rfl q) (λ_ s3 ⟨σ3,H3,I3,q3⟩=> ?_) λ_ _ z=>z
 have pC:=I3.pin (C,o) (P6 _ (P6 _ P3));refine⟨m,hn.at' λo' e'=> ?_,λh' hs'=> ?_⟩
 ·rw [ho] at e';cases e';exact pC.1
 ·exact⟨σ3,H3,(I3.unpinned).turned (t':=s3.toks) (it:=C) (λb o hb e=>hs'.extBut b o hb e) pC.2.1 nL (.inr sz) ncell npin,q3⟩
theorem NB {pos' spos:Pos}{g':TG}(hc:X.calm=true)(S:BlockOk X scope js)(hi:PI X tg iter wi)
 (hg: ∀X',ji X scope X'->PG X' tg g)(ht: ∀X',ji X scope X'->PTs X' ifs tt)(he: ∀X',ji X scope X'->PE X' elt te)
 (hg':PG X (.Name x pos') g')(hsw:Q4 (.ListComp elt [⟨tg,iter,ifs,0⟩] scope pos) (some (.Name x pos')) spos.line X.env=pure true)
 (hs: ∀x,T8 iter X.env x=pure x:=by intro _;rfl):PS X (.Assign [.Name x pos'] (.ListComp elt [⟨tg,iter,ifs,0⟩] scope pos) spos) (Cf (tLC js wi g tt te) g'):=
 Rb hc S hi rfl hg ht (YO elt) (λ_ _ _=>rfl) (λX' hX D=>Vl (by obtain⟨_,_,_,_,rfl⟩:=hX;rfl) (he X' hX)) hg' hsw hs
def Pe (e iter:S6)(env:Env)(acc:G1):Sem Unit:=do
 let x <-C8 iter env
 hO iter.pos
 let x <-T8 iter env x
 let _ <-runOwn (.compStart e 1 (<-Z6 [x] (pS x)) acc env) env
def mIn (wi : TI) (g : TG) (tt : TT) (tm : TM) : TM := fun σ H ys Q => wi σ H fun J H1 =>
  ∃ W : G8 → G8 → G0 V → Hp → Prop, (∃ m, W 0 m ys H1) ∧ ∀ i m ys H, W i m ys H → ys.length ≤ sizeLine ∧
    ((J.stop i H ∧ Q ys H) ∨
     (J.go i H ∧ ∀ x H', J.yld i H x H' → g x σ H' fun σ2 H2 => Agree σ σ2 ∧ tt σ2 H2 fun b H3 =>
        if b = true then tm σ2 H3 ys fun ys' H4 => ∃ m', m' < m ∧ W (i + 1) m' ys' H4 else ∃ m', m' < m ∧ W (i + 1) m' ys H3))
theorem Js {prog:D5}{A:R6}{R:j9->G2->Prop}{s:G2}{g0 g1:X8}{it acc:G1}(ha:g1.is_async=0)
 (h0:E8 (D3 prog w) A (.compLoop (.ListComp elt [g0,g1] scope pos) 1 it acc env) R s)
 (h:D1 (D3 prog w) A (pS it) (λit' s'=>E8 (D3 prog w) A (.compLoop (.ListComp elt [g0,g1] scope pos) 1 it' acc env) R s')
  (notedBy (D3 prog w) A env λx s'=>R (.error x) s') s):
 E8 (D3 prog w) A (.compStart (.ListComp elt [g0,g1] scope pos) 1 it acc env) R s:=by
 obtain⟨tg,iter,ifs,as⟩:=g1;cases (show as=0 from ha);refine fK (tF ?_);obtain⟨hp,g,d,tk,os⟩:=s;unfold compStart
 wp_walk
 refine X9 ?_;split
 ·exact G7 ⟨rfl,h0⟩
 ·exact wpAny_bind (j8 (wpAny_bind (Q5 (wpAny_bind (R7 h (λ_ _ on=>G7 ⟨rfl,on⟩) λ_ _ x=>x)))))
theorem Rc {D:G5}{g0:X8}(hc:X.calm=true)(hx:X.xe=λ_ _=>False)
 (hi:PI X tg iter wi)(hg:PG X tg g)(ht:PTs X ifs tt)(he:PE X elt te)(hs: ∀x,T8 iter X.env x=pure x):
 Tc X D (Pe (.ListComp elt [g0,⟨tg,iter,ifs,0⟩] scope pos) iter X.env (.ref D)) (mIn wi g tt (AO te)):=by
 intro pins s σ H ys us Q I hv hz DX cD pD h;have q:=hi _ s σ H _ I h;rw [hx] at q;unfold Pe;refine wpAny_bind (R7 q (λv s1 h1=>wpAny_bind (Q5 (wpAny_bind (xM (hs v) (wpAny_bind (B5 (R7 h1 (λitv s2 h2=> ?_) λ_ _ z=>z))))))) λ_ _ z=>z);obtain⟨it,fp,tn,J,H2,e,I2,T,st2,f2,W,⟨m0,w0⟩,turn⟩:=h2;subst e;refine wpAny_bind (wpAny_runOwn ?_);have neD: ∀b∈fp,b≠D:=λb hb=>by
  have z:=(f2 b hb).2.2.2.2.2 (D,Z8 us) (P6 _ (T6 _ P3));exact O0 z
 have stat: ∀ {us':G0 G1} {H':Hp},(∀b∈fp,H' b=none)-> ∀b∈fp,XU X ([(D,Z8 us')]++pins) H' b:=λ{us' H'} hn b hb=>by
  have q:=f2 b hb;refine⟨hn b hb,q.2.1,q.2.2.1,q.2.2.2.1,q.2.2.2.2.1,λp hp=> ?_⟩;rcases T4.mp hp with z|z
  ·exact q.2.2.2.2.2 p (T6 _ z)
  ·rcases T4.mp z with z|z
   ·rcases P4.mp z with rfl
    exact O0 (neD b hb)
   ·exact q.2.2.2.2.2 p (P6 _ (P6 _ z))
 have loop:E8 (D3 X.prog X.w) X.A (.compLoop (.ListComp elt [g0,⟨tg,iter,ifs,0⟩] scope pos) 1 (.ref it) (.ref D) X.env)
  (λr s'=>match r with| .ok f=>D1 (D3 X.prog X.w) X.A (pure ()) (λ_ s'=> ∃ys' us' H',Vals ys' us'/\Inv X ([(D,Z8 us')]++pins) σ H' s'/\Q ys' H') (λ_ _=>False) s'| .error e=>cameBackBy (D3 X.prog X.w) X.A X.env (λ_ _=>False) e s') s2:=by
  refine Gh (act:=YO elt X.env (.ref D)) (λn s'=> ∃i ys us H',Vals ys us/\Inv X ([(D,Z8 us)]++pins) σ H' s'/\tn i s'.heap/\(∀b∈fp,H' b=none)/\W i n ys H') rfl ?_ m0
   ⟨0,ys,us,H2,hv,I2,st2,λb hb=>(f2 b hb).1,w0⟩
  rintro n s5 ⟨i,ys,us,H5,hv5,I5,st5,fr5,w5⟩;obtain⟨hz,tr⟩:=turn i n ys H5 w5;rcases tr with ⟨stop,qn⟩|⟨go,step⟩
  ·refine R7 (T.done X rfl rfl rfl hc i _ s5 _ H5 (λ_ _=>False) I5 (stat fr5) st5 stop) (λr s6 ⟨hr,I6⟩=> ?_) λ_ _ z=>z
   subst hr;exact G7 ⟨ys,us,H5,hv5,I6,qn⟩
  ·refine R7 (T.item X rfl rfl rfl hc i _ s5 _ H5 (λ_ _=>False) I5 (stat fr5) st5 go) (λr s6 ⟨u,hr,h6⟩=> ?_) λ_ _ z=>z
   subst hr;refine R7 h6 (λ_ s7 ⟨x,H7,I7,r7,y7,st7,fr7⟩=> ?_) λ_ _ z=>z
   have I7':=I7.pinned (stat fr7) (T.obj _ _ st7);have q7:=hg _ s7 _ H7 x u _ I7' r7 (step x H7 y7);rw [hx] at q7;refine R7 q7 (λ_ s8 ⟨σ8,H8,I8,ag8,q8⟩=> ?_) λ_ _ z=>z
   have q9:=ht _ s8 σ8 H8 _ I8 q8;rw [hx] at q9;refine R7 q9 (λok s9 ⟨H9,I9,q9⟩=> ?_) λ_ _ z=>z
   have keepT: ∀ {σ':St} {H':Hp} {s':G2} {us:G0 G1},Inv X (([(D,Z8 us)]++pins)++yj fp s7.heap) σ' H' s'->tn (i+1) s'.heap/\ ∀b∈fp,H' b=none:=λ{σ' H' s' us} I'=>
    ⟨T.keep _ _ _ st7 λb hb o e=>(I'.pin (b,o) (P6 _ (P6 _ (zy hb e)))).1,λb hb=>by
     obtain⟨o,e,_⟩:=T.obj _ _ st7 b hb;exact(I'.pin (b,o) (P6 _ (P6 _ (zy hb e)))).2.1⟩
   cases ok with
   |false=>
    have q9: ∃m',m'<n/\W (i+1) m' ys H9:=q9;obtain⟨m',hm,w9⟩:=q9;obtain⟨t9,f9⟩:=keepT I9;exact⟨m',hm,i+1,ys,us,H9,hv5,(I9.unpinned).weak ag8.1.symm ag8.2,t9,f9,w9⟩
   |true=>
    have q9:AO te σ8 H9 ys λys' H4=> ∃m',m'<n/\W (i+1) m' ys' H4:=q9
    have pD': ∀p∈X.pn++(pins++yj fp s7.heap),p.1≠D:=λp hp=>by
     rcases T4.mp hp with z|z
     ·exact pD p (T6 _ z)
     ·rcases T4.mp z with z|z
      ·exact pD p (P6 _ z)
      ·exact neD _ (Jn z).1
    rw [W3] at I9;have q10:=Vl (D:=D) hx he (pins++yj fp s7.heap) s9 σ8 H9 ys us _ I9 hv5 hz DX cD pD' q9;show D1 _ _ (YO _ _ _) _ _ s9;refine R7 q10 (λ_ s10 ⟨ys',us',H10,hv10,I10,m',hm,w10⟩=> ?_) λ_ _ z=>z
    rw [<-W3] at I10;obtain⟨t10,f10⟩:=keepT I10;exact⟨m',hm,i+1,ys',us',H10,hv10,(I10.unpinned).weak ag8.1.symm ag8.2,t10,f10,w10⟩
 exact Js rfl loop (T.self X.A 0 _ _ _ st2 loop)
theorem Re (elt iter tg iter' tg':S6)(ifs ifs':G0 S6)(scope:H0)(pos:Pos)(it acc:G1)(env:Env):
 fC (.ListComp elt [⟨tg,iter,ifs,0⟩,⟨tg',iter',ifs',0⟩] scope pos) 0 it acc env=
  Jr iter tg ifs it env (Pe (.ListComp elt [⟨tg,iter,ifs,0⟩,⟨tg',iter',ifs',0⟩] scope pos) iter' env acc) (.compLoop (.ListComp elt [⟨tg,iter,ifs,0⟩,⟨tg',iter',ifs',0⟩] scope pos) 0 it acc env):=by
 unfold Jr Pe;simp only [bind_assoc,pure_bind];rfl
def Te (js:G0 G8)(wi:TI)(g:TG)(tt:TT)(wi':TI)(g':TG)(tt':TT)(te:TE):TE:=Td js wi g tt (mIn wi' g' tt' (AO te))
theorem AQ {iter' tg':S6}{ifs':G0 S6}{wi':TI}{g':TG}{tt':TT}(hc:X.calm=true)(S:BlockOk X scope js)(hi:PI X tg iter wi)
 (hg: ∀X',ji X scope X'->PG X' tg g)(ht: ∀X',ji X scope X'->PTs X' ifs tt)(hi': ∀X',ji X scope X'->PI X' tg' iter' wi')
 (hg': ∀X',ji X scope X'->PG X' tg' g')(ht': ∀X',ji X scope X'->PTs X' ifs' tt')(he: ∀X',ji X scope X'->PE X' elt te)
 (hs: ∀x,T8 iter X.env x=pure x:=by intro _;rfl)(hs': ∀env x,T8 iter' env x=pure x:=by intro _ _;rfl):
 PE X (.ListComp elt [⟨tg,iter,ifs,0⟩,⟨tg',iter',ifs',0⟩] scope pos) (Te js wi g tt wi' g' tt' te):=by
 intro pins s σ H Q I h;rw [tE];exact Ra (use:=none) hc S hi rfl hg ht (λenv acc=>Pe (.ListComp elt [⟨tg,iter,ifs,0⟩,⟨tg',iter',ifs',0⟩] scope pos) iter' env acc) (λ_ _ _=>Re ..)
  (λX' hX D=>Rc (by obtain⟨_,_,_,_,rfl⟩:=hX;exact hc) (by obtain⟨_,_,_,_,rfl⟩:=hX;rfl) (hi' X' hX) (hg' X' hX) (ht' X' hX) (he X' hX) (hs' _)) hs I h
  λD C H' s' m hn hk _ _ _ _ _ _ q=>⟨m,hn,λh' hs'=>⟨.ref D,H',hk h' hs',rfl,q⟩⟩
inductive D where
 |non|bl (b:N0)|int (i:P2)|str (x:Str)|tup (ds:G0 D)|lst (a:G5)|dic (x:Str) (i:P2)|dct (a:G5)|scr (ns:G0 P2)|exc (C:G5)|fn (a:G5)|exf (C:G5) (fs:G0 (Str×P2))
def Scr (K:G3)(H:Hp)(a:G5)(ns:G0 P2):Prop:=
 (∃o,H a=some (.frz o (.lst (ns.map V.int))))\/
  ∃ (o:Obj) (its:M1 G1) (n:G8),K.lookup a=some o/\o.cls= .type "list" /\o.dict=none/\o.data= .seq its n/\its.size<=sizeLine/\Vals (ns.map V.int) its.toList
variable {K:G3}
theorem Scr.sq {ns:G0 P2}(h:Scr K H a ns):SqL K H a (ns.map V.int):=h.elim (λz=> .inl (.inr z)) .inr
def FldH (H:Hp)(dx:P0 G5)(fs:G0 (Str×P2)):Prop:=fs= []\/ ∃D oD,dx=some D/\H D=some (.frz oD (.xd (fs.map λp=>(p.1,V.int p.2))))
mutual
def RelD (K:G3)(H:Hp):D->V->Prop
 | .non,v=>v= .non
 | .bl b,v=>v= .bl b
 | .int i,v=>v= .int i
 | .str x,v=>v= .str x
 | .tup ds,v=> ∃a vs,v= .ref a/\H a=some (.tup vs)/\RelDs K H ds vs
 | .lst a,v=>v= .ref a/\ ∃vs,H a=some (.lst vs)
 | .dic x i,v=> ∃a,v= .ref a/\H a=some (.dK [(aX x,V.int i)])
 | .dct a,v=>v= .ref a
 | .scr ns,v=> ∃a,v= .ref a/\Scr K H a ns
 | .exc C,v=> ∃x o vs,v= .ref x/\H x=some (.frz o (.own 0))/\o.cls= .ref C/\o.data= .fields vs
 | .fn a,v=>v= .ref a/\E2 K (.ref a)=true
 | .exf C fs,v=> ∃x o vs,v= .ref x/\H x=some (.frz o (.own 0))/\o.cls= .ref C/\o.data= .fields vs/\FldH H o.dict fs
def RelDs (K:G3)(H:Hp):G0 D->G0 V->Prop
 | [],vs=>vs= []
 |d::ds,vs=> ∃v r,vs=v::r/\RelD K H d v/\RelDs K H ds r
end
structure Kept (H H':Hp):Prop where
 tup: ∀a xs,H a=some (.tup xs)->H' a=some (.tup xs)
 lst: ∀a xs,H a=some (.lst xs)-> ∃ys,H' a=some (.lst ys)
 dic: ∀a x i,H a=some (.dK [(aX x,V.int i)])->H' a=some (.dK [(aX x,V.int i)])
 frz: ∀a o u,H a=some (.frz o u)->H' a=some (.frz o u)
theorem FldH.mono (k:Kept H H'){dx:P0 G5}{fs:G0 (Str×P2)}(f:FldH H dx fs):FldH H' dx fs:=f.imp id λ⟨D,oD,e,h⟩=>⟨D,oD,e,k.frz _ _ _ h⟩
theorem Kept.refl (H:Hp):Kept H H:=⟨λ_ _ h=>h,λ_ xs h=>⟨xs,h⟩,λ_ _ _ h=>h,λ_ _ _ h=>h⟩
theorem Kept.trans {A B C:Hp}(x:Kept A B)(y:Kept B C):Kept A C:=
 ⟨λa xs h=>y.tup a xs (x.tup a xs h),λa xs h=>let ⟨_,e⟩:=x.lst a xs h;y.lst a _ e,λa k i h=>y.dic a k i (x.dic a k i h),λa o u h=>y.frz a o u (x.frz a o u h)⟩
variable {p:G5}
theorem Kept.new (h:H p=none):Kept H (upd H p o):=
 ⟨λa xs e=>by rw [jd (jf e h)];exact e,λa xs e=>⟨xs,by rw [jd (jf e h)];exact e⟩,λa k i e=>by rw [jd (jf e h)];exact e,λa o u e=>by rw [jd (jf e h)];exact e⟩
theorem Kept.put {xs ys:G0 V}(h:H p=some (.lst xs)):Kept H (upd H p (.lst ys)):=
 ⟨λa zs e=>by rw [jd (XT e h (by intro z;cases z))];exact e,λa zs e=>by
  by_cases q:a=p
  ·subst q;exact⟨ys,je⟩
  ·exact⟨zs,by rw [jd q];exact e⟩,
  λa k i e=>by rw [jd (XT e h (by intro z;cases z))];exact e,λa o u e=>by rw [jd (XT e h (by intro z;cases z))];exact e⟩
def DObj (o:HO):Prop:=(∃kvs:G0 (P2×V),o= .dK (kvs.map λp=>((K0 p.1:Key),p.2)))\/ ∃φ,o= .ext φ
theorem DObj.no (d:DObj o):(∀xs,o≠ .tup xs)/\(∀xs,o≠ .lst xs)/\(∀x i,o≠ .dK [(aX x,V.int i)])/\(∀p u,o≠ .frz p u)/\ ∀ps,o≠ .tbl ps:=by
 rcases d with ⟨kvs,rfl⟩|⟨φ,rfl⟩
 ·refine⟨λ_ z=>(nomatch z),λ_ z=>(nomatch z),λx i z=> ?_,λ_ _ z=>(nomatch z),λ_ z=>(nomatch z)⟩;injection z with z
  cases kvs with
  |nil=>cases z
  |cons p r=>injection z with z _;injection z with z _;cases z
 ·exact⟨λ_ z=>(nomatch z),λ_ z=>(nomatch z),λ_ _ z=>(nomatch z),λ_ _ z=>(nomatch z),λ_ z=>(nomatch z)⟩
theorem Kept.putD {o':HO}(h:H p=some o)(d:DObj o):Kept H (upd H p o'):=by
 obtain⟨d1,d2,d3,d4,_⟩:=d.no;have ne: ∀ {a:G5} {u:HO},H a=some u->o≠u->a≠p:=λe n z=>by subst z;rw [h] at e;injection e with e;exact n e
 exact⟨λa xs e=>by rw [jd (ne e (d1 xs))];exact e,λa xs e=>⟨xs,by rw [jd (ne e (d2 xs))];exact e⟩,λa x i e=>by rw [jd (ne e (d3 x i))];exact e,λa q u e=>by rw [jd (ne e (d4 q u))];exact e⟩
mutual
theorem RelD.mono (k:Kept H H'): ∀ {d:D} {v:V},RelD K H d v->RelD K H' d v
 | .non,_,h=>h
 | .bl _,_,h=>h
 | .int _,_,h=>h
 | .str _,_,h=>h
 | .tup ds,v,h=>by
  obtain⟨a,vs,e,h1,h2⟩:=(show ∃a vs,v= .ref a/\H a=some (.tup vs)/\RelDs K H ds vs from h);exact⟨a,vs,e,k.tup _ _ h1,RelDs.mono k h2⟩
 | .lst a,v,h=>by
  obtain⟨e,vs,h1⟩:=(show v= .ref a/\ ∃vs,H a=some (.lst vs) from h);exact⟨e,k.lst _ _ h1⟩
 | .dic x i,v,h=>by
  obtain⟨a,e,h1⟩:=(show ∃a,v= .ref a/\H a=some (.dK [(aX x,V.int i)]) from h);exact⟨a,e,k.dic _ _ _ h1⟩
 | .dct a,v,h=>h
 | .scr ns,v,h=>by
  obtain⟨a,e,h1⟩:=(show ∃a,v= .ref a/\Scr K H a ns from h);exact⟨a,e,h1.elim (λ⟨o,z⟩=> .inl ⟨o,k.frz _ _ _ z⟩) .inr⟩
 | .exc C,v,h=>by
  obtain⟨x,o,vs,e,h1,r⟩:=(show ∃x o vs,v= .ref x/\H x=some (.frz o (.own 0))/\o.cls= .ref C/\o.data= .fields vs from h);exact⟨x,o,vs,e,k.frz _ _ _ h1,r⟩
 | .fn a,v,h=>h
 | .exf C fs,v,h=>by
  obtain⟨x,o,vs,e,h1,c,d,f⟩:=(show ∃x o vs,v= .ref x/\H x=some (.frz o (.own 0))/\o.cls= .ref C/\o.data= .fields vs/\FldH H o.dict fs from h);exact⟨x,o,vs,e,k.frz _ _ _ h1,c,d,f.mono k⟩
theorem RelDs.mono (k:Kept H H'): ∀ {ds:G0 D} {vs:G0 V},RelDs K H ds vs->RelDs K H' ds vs
 | [],_,h=>h
 |d::ds,vs,h=>by
  obtain⟨v,r,e,h1,h2⟩:=(show ∃v r,vs=v::r/\RelD K H d v/\RelDs K H ds r from h);exact⟨v,r,e,RelD.mono k h1,RelDs.mono k h2⟩
end
section
variable {K:G3}{H:Hp}
theorem RelDs.nil:RelDs K H [] []:=rfl
theorem RelDs.cons {d:D}{v:V}{ds:G0 D}{vs:G0 V}(h:RelD K H d v)(t:RelDs K H ds vs):RelDs K H (d::ds) (v::vs):=⟨v,vs,rfl,h,t⟩
theorem RelDs.length: ∀ {ds:G0 D} {vs:G0 V},RelDs K H ds vs->ds.length=vs.length
 | [],_,h=>by cases (show _= [] from h);rfl
 |d::ds,vs,h=>by
  obtain⟨v,r,e,_,h2⟩:=(show ∃v r,vs=v::r/\RelD K H d v/\RelDs K H ds r from h);subst e;simp [RelDs.length h2]
theorem RelDs.append: ∀ {ds es:G0 D} {vs us:G0 V},RelDs K H ds vs->RelDs K H es us->RelDs K H (ds++es) (vs++us)
 | [],_,_,_,h,g=>by cases (show _= [] from h);exact g
 |d::ds,es,vs,us,h,g=>by
  obtain⟨v,r,e,h1,h2⟩:=(show ∃v r,vs=v::r/\RelD K H d v/\RelDs K H ds r from h);subst e;exact .cons h1 (RelDs.append h2 g)
theorem RelDs.get: ∀ {ds:G0 D} {vs:G0 V} {i:G8} {d:D},RelDs K H ds vs->ds[i]? =some d-> ∃v,vs[i]? =some v/\RelD K H d v
 |d'::ds,vs,i,d,h,e=>by
  obtain⟨v,r,q,h1,h2⟩:=(show ∃v r,vs=v::r/\RelD K H d' v/\RelDs K H ds r from h);subst q;cases i with
  |zero=>simp at e;subst e;exact⟨v,rfl,h1⟩
  |succ i=>
   obtain⟨u,q1,q2⟩:=RelDs.get h2 (i:=i) (d:=d) (by simpa using e);exact⟨u,by simpa using q1,q2⟩
theorem RelDs.take (n:G8): ∀ {ds:G0 D} {vs:G0 V},RelDs K H ds vs->RelDs K H (ds.take n) (vs.take n):=by
 induction n with
 |zero=>intro ds vs _;exact(rfl:RelDs K H [] [])
 |succ n ih=>
  intro ds vs h;cases ds with
  |nil=>cases (show vs= [] from h);exact .nil
  |cons d ds=>
   obtain⟨v,r,e,h1,h2⟩:=(show ∃v r,vs=v::r/\RelD K H d v/\RelDs K H ds r from h);subst e;exact .cons h1 (ih h2)
theorem RelDs.drop (n:G8): ∀ {ds:G0 D} {vs:G0 V},RelDs K H ds vs->RelDs K H (ds.drop n) (vs.drop n):=by
 induction n with
 |zero=>intro ds vs h;exact h
 |succ n ih=>
  intro ds vs h;cases ds with
  |nil=>cases (show vs= [] from h);exact .nil
  |cons d ds=>
   obtain⟨v,r,e,h1,h2⟩:=(show ∃v r,vs=v::r/\RelD K H d v/\RelDs K H ds r from h);subst e;exact ih h2
theorem RelDs.set {d:D}{v:V}(q:RelD K H d v): ∀ {ds:G0 D} {vs:G0 V} (i:G8),RelDs K H ds vs->RelDs K H (ds.set i d) (vs.set i v)
 | [],_,_,h=>by cases (show _= [] from h);exact .nil
 |e::ds,vs,i,h=>by
  obtain⟨u,r,z,h1,h2⟩:=(show ∃u r,vs=u::r/\RelD K H e u/\RelDs K H ds r from h);subst z;cases i with
  |zero=>exact .cons q h2
  |succ i=>exact .cons h1 (RelDs.set q i h2)
theorem yk: ∀ns:G0 P2,RelDs K H (ns.map D.int) (ns.map V.int)
 | []=> .nil
 |n::ns=> .cons rfl (yk ns)
end
inductive DC where
 |ik (kv:G0 (P2×D))
 |tk (ep:G8) (kv:G0 (G0 (G0 P2)×D))
structure HD where
 ls:G5->P0 (G0 D)
 dc:G5->P0 DC
instance:CoeFun HD λ_=>G5->P0 (G0 D):=⟨HD.ls⟩
def wc (h:HD)(a:G5)(ds:G0 D):HD:=⟨λb=>if b=a then some ds else h b,h.dc⟩
def Vm (h:HD)(a:G5):HD:=⟨λb=>if b=a then none else h b,h.dc⟩
variable {h:HD}{ds:G0 D}
theorem ja:wc h a ds a=some ds:=R1 rfl
theorem wB {b:G5}(e:b≠a):wc h a ds b=h b:=R3 e
theorem wC (e:h a=none):Vm (wc h a ds) a=h:=by
 obtain⟨l,d⟩:=h;refine congrArg (HD.mk · d) ?_
 funext b
 show (if b=a then none else if b=a then some ds else l b)=l b
 by_cases q:b=a
 ·subst q;rw [R1 rfl];exact e.symm
 ·rw [R3 q,R3 q]
def LN:G0 Str:= ["law","_law_right","_law_words","_law_other_words","_law_many_right","_law_all","_law_told_row","_law_all_right","_law_desk_right","_law_signs_right","_law_lists_right","_law_text_right"]
def TabK (K:G3)(P:G5):Prop:= ∃x∈LN,∃c,eO K x=some (c,P)
def CodesOk (H:Hp)(ps:M1 G1):Prop:=eI ps.toList/\ ∀pos cv,i4 pos ps.toList=some cv-> ∃ (c:G5) (o:Obj) (vs:M1 G1) (q:Str) (t:Tok),cv= .ref c/\H c=some (.frz o (.own 0))/\o.data= .fields vs/\vs[1]? =some (.str q t)
def CTabs (K:G3)(H:Hp):Prop:= ∀P,TabK K P-> ∃ps,H P=some (.tbl ps)/\CodesOk H ps
theorem CodesOk.mono {ps:M1 G1}(k: ∀a o u,H a=some (.frz o u)->H' a=some (.frz o u))(c:CodesOk H ps):CodesOk H' ps:=
 ⟨c.1,λpos cv e=>let ⟨c',o,vs,q,t,e1,e2,r⟩:=c.2 pos cv e;⟨c',o,vs,q,t,e1,k _ _ _ e2,r⟩⟩
theorem CTabs.mono (x:CTabs K H)(k: ∀a o u,H a=some (.frz o u)->H' a=some (.frz o u))(kt: ∀a ps,H a=some (.tbl ps)->H' a=some (.tbl ps)):CTabs K H':=λP hP=>
 let ⟨ps,e,c⟩:=x P hP;⟨ps,kt _ _ e,c.mono k⟩
theorem CTabs.new (x:CTabs K H)(e:H p=none):CTabs K (upd H p o):=
 x.mono (λa o' u h=>by rw [jd (jf h e)];exact h) λa ps h=>by rw [jd (jf h e)];exact h
theorem CTabs.put {xs:G0 V}(x:CTabs K H)(e:H p=some (.lst xs)):CTabs K (upd H p o):=
 x.mono (λa o' u h=>by rw [jd (XT h e (by intro z;cases z))];exact h) λa ps h=>by rw [jd (XT h e (by intro z;cases z))];exact h
def FJ (T:G0 (G0 P2)):P2:=oC (Z2 (T.map λr=>oC (Z2 (r.map hashInt))))
def km (a:G5)(ep:G8)(xs:G0 (G0 (G0 P2)×G5×V)):HO:= .ext λh=>(a==Y2)=false/\xs.length<=sizeLine/\ ∃ys:G0 (G0 (G0 P2)×G5×G1),Paired (λp q=>p.1=q.1/\p.2.1=q.2.1/\RelV p.2.2 q.2.2) xs ys/\
 ∃o es,h.get? a=some o/\o.ExactDict/\o.data= .dict es ep/\es.toList=ys.map λx=>⟨FJ x.1,.ref x.2.1,x.2.2⟩
def DRel (K:G3)(H:Hp)(a:G5):DC->Prop
 | .ik kv=> ∃kvs:G0 (P2×V),H a=some (.dK (kvs.map λp=>((K0 p.1:Key),p.2)))/\kv.map (·.1)=kvs.map (·.1)/\RelDs K H (kv.map (·.2)) (kvs.map (·.2))
 | .tk ep kv=> ∃xs:G0 (G0 (G0 P2)×G5×V),H a=some (km a ep xs)/\(kv.map (·.1)).Nodup/\kv.map (·.1)=xs.map (·.1)/\(∀x∈xs,RelD K H (.tup (x.1.map λr=> .tup (r.map D.int))) (.ref x.2.1))/\RelDs K H (kv.map (·.2)) (xs.map (·.2.2))
theorem DRel.obj: ∀ {c:DC},DRel K H a c-> ∃o,H a=some o/\DObj o
 | .ik _,⟨kvs,e,_⟩=>⟨_,e,.inl ⟨kvs,rfl⟩⟩
 | .tk _ _,⟨xs,e,_⟩=>⟨_,e,.inr ⟨_,rfl⟩⟩
theorem DRel.mono (k:Kept H H')(z: ∀o,H a=some o->H' a=some o): ∀ {c:DC},DRel K H a c->DRel K H' a c
 | .ik _,⟨kvs,e,q,r⟩=>⟨kvs,z _ e,q,r.mono k⟩
 | .tk _ _,⟨xs,e,n,q,t,r⟩=>⟨xs,z _ e,n,q,λx hx=>(t x hx).mono k,r.mono k⟩
structure RelH (K:G3)(h:HD)(H:Hp):Prop where
 ls: ∀a ds,h a=some ds-> ∃vs,H a=some (.lst vs)/\RelDs K H ds vs
 tb:CTabs K H
 dc: ∀a c,h.dc a=some c->DRel K H a c
instance {K:G3}{h:HD}{H:Hp}:CoeFun (RelH K h H) λ_=> ∀a ds,h a=some ds-> ∃vs,H a=some (.lst vs)/\RelDs K H ds vs:=⟨RelH.ls⟩
structure Sub (h h':HD):Prop where
 ls: ∀a ds,h a=some ds->h' a=some ds
 dc: ∀a c,h.dc a=some c->h'.dc a=some c
instance {h h':HD}:CoeFun (Sub h h') λ_=> ∀a ds,h a=some ds->h' a=some ds:=⟨Sub.ls⟩
theorem Sub.refl (h:HD):Sub h h:=⟨λ_ _ e=>e,λ_ _ e=>e⟩
theorem Sub.trans {a b c:HD}(x:Sub a b)(y:Sub b c):Sub a c:=⟨λd ds e=>y d ds (x d ds e),λd ds e=>y.dc d ds (x.dc d ds e)⟩
theorem Sub.drop (h:HD)(a:G5):Sub (Vm h a) h:=⟨λb ds e=>by
 have e:(if b=a then none else h b)=some ds:=e;split at e
 ·cases e
 ·exact e,λ_ _ e=>e⟩
theorem Sub.new (e:h p=none):Sub h (wc h p ds):=⟨λa es q=>(by
 rw [wB];exact q;intro z;subst z;rw [e] at q;cases q),λ_ _ e=>e⟩
section
variable {K:G3}{h h':HD}{H:Hp}
theorem RelH.sub (r:RelH K h H)(s:Sub h' h):RelH K h' H:=⟨λa ds e=>r a ds (s a ds e),r.tb,λa c e=>r.dc a c (s.dc a c e)⟩
theorem RelH.free (r:RelH K h H){p:G5}(e:H p=none):h p=none:=by
 cases q:h p with
 |none=>rfl
 |some ds=>obtain⟨vs,z,_⟩:=r p ds q;rw [e] at z;cases z
theorem RelH.freeC (r:RelH K h H){p:G5}(e:H p=none):h.dc p=none:=by
 cases q:h.dc p with
 |none=>rfl
 |some c=>obtain⟨o,z,_⟩:=(r.dc p c q).obj;rw [e] at z;cases z
theorem RelH.dcN (r:RelH K h H){p:G5}{o:HO}(e:H p=none): ∀a c,h.dc a=some c->DRel K (upd H p o) a c:=λa c q=>
 (r.dc a c q).mono (.new e) λu z=>by rw [jd (jf z e)];exact z
theorem RelH.new (r:RelH K h H){p:G5}{o:HO}(e:H p=none):RelH K h (upd H p o):=⟨λa ds q=>by
 obtain⟨vs,z,w⟩:=r a ds q;exact⟨vs,by rw [jd (jf z e)];exact z,w.mono (.new e)⟩,r.tb.new e,r.dcN e⟩
theorem RelH.newL (r:RelH K h H){p:G5}{ds:G0 D}{vs:G0 V}(e:H p=none)(q:RelDs K H ds vs):RelH K (wc h p ds) (upd H p (.lst vs)):=⟨λa es z=>by
 by_cases w:a=p
 ·subst w;rw [ja] at z;cases z;exact⟨vs,je,q.mono (.new e)⟩
 ·rw [wB w] at z;obtain⟨us,z1,z2⟩:=r a es z;exact⟨us,by rw [jd w];exact z1,z2.mono (.new e)⟩,r.tb.new e,r.dcN e⟩
theorem RelH.put (r:RelH K h H){p:G5}{ds:G0 D}{vs us:G0 V}(e:H p=some (.lst us))(q:RelDs K H ds vs):RelH K (wc h p ds) (upd H p (.lst vs)):=⟨λa es z=>by
 by_cases w:a=p
 ·subst w;rw [ja] at z;cases z;exact⟨vs,je,q.mono (.put e)⟩
 ·rw [wB w] at z;obtain⟨us,z1,z2⟩:=r a es z;exact⟨us,by rw [jd w];exact z1,z2.mono (.put e)⟩,r.tb.put e,λa c z=>(r.dc a c z).mono (.put e) λo w=>by
   obtain⟨u,w',d⟩:=(r.dc a c z).obj;rw [jd (XT w' e (d.no.2.1 _))];exact w⟩
end
def Cl (h:HD)(p:G5)(c:DC):HD:=⟨h.ls,λb=>if b=p then some c else h.dc b⟩
theorem Jt {c:DC}:(Cl h p c).dc p=some c:=R1 rfl
theorem Vn {c:DC}(e:a≠p):(Cl h p c).dc a=h.dc a:=R3 e
theorem Sub.newC {c:DC}(e:h.dc p=none):Sub h (Cl h p c):=⟨λ_ _ e=>e,λa d q=>by
 rw [Vn];exact q;intro z;subst z;rw [e] at q;cases q⟩
section
variable {K:G3}{h:HD}{H:Hp}
theorem RelH.newC (r:RelH K h H){p:G5}{o:HO}{c:DC}(e:H p=none)(d:DRel K (upd H p o) p c):RelH K (Cl h p c) (upd H p o):=⟨(r.new e).ls,r.tb.new e,λa k z=>by
 by_cases w:a=p
 ·subst w;rw [Jt] at z;cases z;exact d
 ·rw [Vn w] at z;exact r.dcN e a k z⟩
theorem RelH.putC (r:RelH K h H){p:G5}{o o':HO}{c:DC}(e:H p=some o)(ob:DObj o)(d:DRel K (upd H p o') p c):RelH K (Cl h p c) (upd H p o'):=by
 obtain⟨d1,d2,d3,d4,d5⟩:=ob.no;have ne: ∀ {a:G5} {u:HO},H a=some u->o≠u->a≠p:=λq n z=>by subst z;rw [e] at q;injection q with q;exact n q
 refine⟨λa ds z=> ?_,r.tb.mono (λa q u z=>by rw [jd (ne z (d4 q u))];exact z) (λa ps z=>by rw [jd (ne z (d5 ps))];exact z),λa k z=> ?_⟩
 ·obtain⟨vs,z1,z2⟩:=r a ds z;exact⟨vs,by rw [jd (ne z1 (d2 vs))];exact z1,z2.mono (.putD e ob)⟩
 ·by_cases w:a=p
  ·subst w;rw [Jt] at z;cases z;exact d
  ·rw [Vn w] at z;exact(r.dc a k z).mono (.putD e ob) λu q=>by rw [jd w];exact q
end
abbrev SD:=G0 (P0 D)
def RelS (K:G3)(H:Hp)(σd:SD)(σ:St):Prop:=σd.length=σ.length/\ ∀ (i:G8) (d:D),σd[i]? =some (some d)-> ∃v,σ[i]? =some (some v)/\RelD K H d v
theorem RelS.mono {σd:SD}(r:RelS K H σd σ)(k:Kept H H'):RelS K H' σd σ:=⟨r.1,λi d e=>let ⟨v,a,b⟩:=r.2 i d e;⟨v,a,b.mono k⟩⟩
theorem RelS.set {σd:SD}{d:D}{v:V}(r:RelS K H σd σ)(q:RelD K H d v)(i:G8):RelS K H (σd.set i (some d)) (σ.set i (some v)):=⟨by simp [r.1],λj e h=>by
 by_cases z:i=j
 ·subst z;rw [dH] at h ⊢
  by_cases hl:i<σd.length
  ·rw [R1 rfl,R1 hl] at h;rw [R1 rfl,R1 (by rw [<-r.1];exact hl)];cases h;exact⟨v,rfl,q⟩
  ·rw [R1 rfl,R3 hl] at h;cases h
 ·rw [J5 z] at h ⊢;exact r.2 j e h⟩
theorem RelS.clear1 {σd:SD}(r:RelS K H σd σ)(i:G8):RelS K H (σd.set i none) (σ.set i none):=⟨by simp [r.1],λj e h=>by
 by_cases z:i=j
 ·subst z;rw [dH] at h;split at h
  ·split at h<;>cases h
  ·contradiction
 ·rw [J5 z] at h ⊢;exact r.2 j e h⟩
def ze:G0 G8->SD->SD
 | [],σ=>σ
 |j::js,σ=>ze js (σ.set j none)
theorem RelS.clear: ∀ (js:G0 G8) {σd:SD} {σ:St},RelS K H σd σ->RelS K H (ze js σd) (zB js σ)
 | [],_,_,r=>r
 |j::js,_,_,r=>RelS.clear js (r.clear1 j)
abbrev KD:=D->HD->Prop
abbrev TED:=SD->HD->KD->Prop
abbrev TTD:=SD->HD->(N0->HD->Prop)->Prop
abbrev TAD:=SD->HD->(G0 D->HD->Prop)->Prop
abbrev RD2:=D->D->HD->KD->Prop
abbrev RDn:=G0 D->HD->KD->Prop
structure EndsD where
 nx:SD->HD->Prop
 rt:KD
 bk:SD->HD->Prop:=λ_ _=>False
 ct:SD->HD->Prop:=λ_ _=>False
abbrev TSD:=EndsD->SD->HD->Prop
abbrev TGD:=D->SD->HD->(SD->HD->Prop)->Prop
def Cm (K:G3)(H:Hp)(Qd:KD)(Q:VK):Prop:= ∀d v h' H',Kept H H'->RelH K h' H'->RelD K H' d v->Qd d h'->Q v H'
def LE (K:G3)(t:TED):TE:=λσ H Q=> ∃σd h Qd,RelS K H σd σ/\RelH K h H/\t σd h Qd/\Cm K H Qd Q
def LT (K:G3)(t:TTD):TT:=λσ H Q=> ∃σd h Qd,RelS K H σd σ/\RelH K h H/\t σd h Qd/\ ∀b h' H',Kept H H'->RelH K h' H'->Qd b h'->Q b H'
def LA (K:G3)(t:TAD):TA:=λσ H Q=> ∃σd h Qd,RelS K H σd σ/\RelH K h H/\t σd h Qd/\ ∀ds vs h' H',Kept H H'->RelH K h' H'->RelDs K H' ds vs->Qd ds h'->Q vs H'
def LR (K:G3)(f:RD2):R2:=λx y H Q=> ∃dx dy h Qd,RelD K H dx x/\RelD K H dy y/\RelH K h H/\f dx dy h Qd/\Cm K H Qd Q
def LC (K:G3)(f:RDn):G0 V->Hp->VK->Prop:=λxs H Q=> ∃ds h Qd,RelDs K H ds xs/\RelH K h H/\f ds h Qd/\Cm K H Qd Q
def LG (K:G3)(g:TGD):TG:=λv σ H Q=> ∃d σd h Qd,RelD K H d v/\RelS K H σd σ/\RelH K h H/\g d σd h Qd/\ ∀σd' h' σ' H',Kept H H'->RelS K H' σd' σ'->RelH K h' H'->Qd σd' h'->Q σ' H'
def LS (K:G3)(t:TSD):TS:=λD₀ σ H=> ∃σd h Dd,RelS K H σd σ/\RelH K h H/\t Dd σd h/\
 (∀σd' h' σ' H',Kept H H'->RelS K H' σd' σ'->RelH K h' H'->Dd.nx σd' h'->D₀.nx σ' H')/\Cm K H Dd.rt D₀.rt/\
 (∀σd' h' σ' H',Kept H H'->RelS K H' σd' σ'->RelH K h' H'->Dd.bk σd' h'->D₀.bk σ' H')/\(∀σd' h' σ' H',Kept H H'->RelS K H' σd' σ'->RelH K h' H'->Dd.ct σd' h'->D₀.ct σ' H')
theorem PE.imp {t t':TE}(h:PE X e t)(i: ∀σ H Q,t' σ H Q->t σ H Q):PE X e t':=λpins s σ H Q I q=>h pins s σ H Q I (i σ H Q q)
theorem PT.imp {t t':TT}(h:PT X e t)(i: ∀σ H Q,t' σ H Q->t σ H Q):PT X e t':=λpins s σ H Q I q=>h pins s σ H Q I (i σ H Q q)
theorem PW.imp {t t':TT}(h:PW X e t)(i: ∀σ H Q,t' σ H Q->t σ H Q):PW X e t':=λwh pins s σ H Q I q=>h wh pins s σ H Q I (i σ H Q q)
theorem PA.imp {e:G0 S6}{t t':TA}(h:PA X e t)(i: ∀σ H Q,t' σ H Q->t σ H Q):PA X e t':=λpos pins s σ H Q I q=>h pos pins s σ H Q I (i σ H Q q)
theorem PS.imp {e:C5}{t t':TS}(h:PS X e t)(i: ∀D σ H,t' D σ H->t D σ H):PS X e t':=λpins s σ H D I q=>h pins s σ H D I (i D σ H q)
theorem PSs.imp {e:G0 C5}{t t':TS}(h:PSs X e t)(i: ∀D σ H,t' D σ H->t D σ H):PSs X e t':=λpins s σ H D I q=>h pins s σ H D I (i D σ H q)
theorem PG.imp {t t':TG}(h:PG X e t)(i: ∀v σ H Q,t' v σ H Q->t v σ H Q):PG X e t':=λpins s σ H v u Q I r q=>h pins s σ H v u Q I r (i v σ H Q q)
theorem OpR.imp {f:G1->G1->Sem G1}{r r':R2}(h:OpR X f r)(i: ∀x y H Q,r' x y H Q->r x y H Q):OpR X f r':=λpins s σ H x y v u Q I a b q=>h pins s σ H x y v u Q I a b (i x y H Q q)
theorem CallR.imp {f:G1}{r r':G0 V->Hp->VK->Prop}(h:CallR X f r)(i: ∀xs H Q,r' xs H Q->r xs H Q):CallR X f r':=λpins s σ H xs us Q I a q=>h pins s σ H xs us Q I a (i xs H Q q)
def Wg (i:G8):TED:=λσ h Q=> ∃d,σ[i]? =some (some d)/\Q d h
def dC (d:D):TED:=λ_ h Q=>Q d h
def dOp (f:RD2)(ta tb:TED):TED:=λσ h Q=>ta σ h λx h1=>tb σ h1 λy h2=>f x y h2 Q
def vE:TAD:=λ_ h Q=>Q [] h
def jP (ta:TED)(tr:TAD):TAD:=λσ h Q=>ta σ h λx h1=>tr σ h1 λxs h2=>Q (x::xs) h2
def Cn (t:TAD):TED:=λσ h Q=>t σ h λds h1=>ds.length<=sizeLine/\Q (.tup ds) h1
def NC (t:TAD):TED:=λσ h Q=>t σ h λds h1=>ds.length<=sizeLine/\ ∀p,h1 p=none->Q (.lst p) (wc h1 p ds)
def dCB (r:RDn)(t:TAD):TED:=λσ h Q=>t σ h λds h1=>r ds h1 Q
def yV (t:TED):TTD:=λσ h Q=>t σ h λx h1=> ∃k,x= .bl k/\Q k h1
def ZL (r r':RD2)(ta tb tc:TED):TED:=λσ h Q=>ta σ h λx h1=>tb σ h1 λy h2=>r x y h2 λz h3=> ∃k,z= .bl k/\
 (if k=true then tc σ h3 λw h4=>r' y w h4 Q else Q (.bl false) h3)
def FK (t u:TTD):TTD:=λσ h Q=>t σ h λc h1=>if c=true then Q true h1 else u σ h1 Q
def UC (t:TTD):TTD:=λσ h Q=>t σ h λc h1=>Q (!c) h1
def Pf (ta tb:TED):TED:=λσ h Q=>ta σ h λx h1=> ∃c,x= .bl c/\if c=true then tb σ h1 Q else Q (.bl false) h1
def TK (ta tb:TED):TED:=λσ h Q=>ta σ h λx h1=> ∃c,x= .bl c/\if c=true then Q (.bl true) h1 else tb σ h1 Q
def Pg (ta:TED):TED:=λσ h Q=>ta σ h λx h1=> ∃c,x= .bl c/\Q (.bl (!c)) h1
def dIf (t:TTD)(ta tb:TED):TED:=λσ h Q=>t σ h λc h1=>if c=true then ta σ h1 Q else tb σ h1 Q
section
variable {K:G3}
theorem AR (i:G8): ∀σ H Q,LE K (Wg i) σ H Q->Ka i σ H Q:=λσ H Q ⟨σd,h,Qd,rs,rh,⟨d,e,q⟩,p⟩=>let ⟨v,e1,e2⟩:=rs.2 i d e;⟨v,e1,p d v h H (.refl H) rh e2 q⟩
theorem AS {d:D}{v:V}(r: ∀H,RelD K H d v): ∀σ H Q,LE K (dC d) σ H Q->tC v σ H Q:=λσ H Q ⟨σd,h,Qd,rs,rh,q,p⟩=>p d v h H (.refl H) rh (r H) q
variable {H:Hp}
theorem jD {H1:Hp}{Qd:KD}{Q:VK}(p:Cm K H Qd Q)(k:Kept H H1):Cm K H1 Qd Q:=λd v h' H' k'=>p d v h' H' (k.trans k')
variable {ta:TED}
theorem LE.bind {σ:St}{σd:SD}{h:HD}{kd:KD}{k:VK}(rs:RelS K H σd σ)(rh:RelH K h H)(t:ta σd h kd)(f: ∀d v h' H',Kept H H'->RelS K H' σd σ->RelH K h' H'->RelD K H' d v->kd d h'->k v H'):LE K ta σ H k:=
 ⟨σd,h,kd,rs,rh,t,λd v h' H' kp r1 r2 q=>f d v h' H' kp (rs.mono kp) r1 r2 q⟩
theorem LT.bind {ta:TTD}{σ:St}{σd:SD}{h:HD}{kd:N0->HD->Prop}{k:N0->Hp->Prop}(rs:RelS K H σd σ)(rh:RelH K h H)(t:ta σd h kd)(f: ∀b h' H',Kept H H'->RelS K H' σd σ->RelH K h' H'->kd b h'->k b H'):LT K ta σ H k:=
 ⟨σd,h,kd,rs,rh,t,λb h' H' kp r1 q=>f b h' H' kp (rs.mono kp) r1 q⟩
theorem LA.bind {ta:TAD}{σ:St}{σd:SD}{h:HD}{kd:G0 D->HD->Prop}{k:G0 V->Hp->Prop}(rs:RelS K H σd σ)(rh:RelH K h H)(t:ta σd h kd)(f: ∀ds vs h' H',Kept H H'->RelS K H' σd σ->RelH K h' H'->RelDs K H' ds vs->kd ds h'->k vs H'):LA K ta σ H k:=
 ⟨σd,h,kd,rs,rh,t,λd v h' H' kp r1 r2 q=>f d v h' H' kp (rs.mono kp) r1 r2 q⟩
variable {tb:TED}
theorem FL {f:RD2}: ∀σ H Q,LE K (dOp f ta tb) σ H Q->tOp (LR K f) (LE K ta) (LE K tb) σ H Q:=λσ H Q ⟨σd,h,Qd,rs,rh,t,p⟩=>
 LE.bind rs rh t λd v h1 H1 k1 rs1 rh1 r1 t1=>LE.bind rs1 rh1 t1 λd2 v2 h2 H2 k2 rs2 rh2 r2 t2=>⟨d,d2,h2,Qd,r1.mono k2,r2,rh2,t2,jD p (k1.trans k2)⟩
theorem AT: ∀σ H Q,LA K vE σ H Q->Tw σ H Q:=λσ H Q ⟨σd,h,Qd,rs,rh,t,p⟩=>p [] [] h H (.refl H) rh rfl t
theorem FM {tr:TAD}: ∀σ H Q,LA K (jP ta tr) σ H Q->Np (LE K ta) (LA K tr) σ H Q:=λσ H Q ⟨σd,h,Qd,rs,rh,t,p⟩=>
 LE.bind rs rh t λd v h1 H1 k1 rs1 rh1 r1 t1=>LA.bind rs1 rh1 t1 λds vs h2 H2 k2 rs2 rh2 r2 t2=>p _ _ h2 H2 (k1.trans k2) rh2 (.cons (r1.mono k2) r2) t2
theorem AU {t:TAD}: ∀σ H Q,LE K (Cn t) σ H Q->Kp (LA K t) σ H Q:=λσ H Q ⟨σd,h,Qd,rs,rh,t,p⟩=>
 LA.bind rs rh t λds vs h1 H1 k1 rs1 rh1 r1 ⟨z,q⟩=>⟨by rw [<-r1.length];exact z,λa ha=>p (.tup ds) (.ref a) h1 _ (k1.trans (.new ha)) (rh1.new ha) ⟨a,vs,rfl,je,r1.mono (.new ha)⟩ q⟩
theorem AV {t:TAD}: ∀σ H Q,LE K (NC t) σ H Q->Kq (LA K t) σ H Q:=λσ H Q ⟨σd,h,Qd,rs,rh,t,p⟩=>
 LA.bind rs rh t λds vs h1 H1 k1 rs1 rh1 r1 ⟨z,q⟩=>⟨by rw [<-r1.length];exact z,λa ha=>p (.lst a) (.ref a) _ _ (k1.trans (.new ha)) (rh1.newL ha r1) ⟨rfl,vs,je⟩ (q a (rh1.free ha))⟩
theorem AW {r:RDn}{t:TAD}: ∀σ H Q,LE K (dCB r t) σ H Q->tCB (LC K r) (LA K t) σ H Q:=λσ H Q ⟨σd,h,Qd,rs,rh,t,p⟩=>
 LA.bind rs rh t λds vs h1 H1 k1 rs1 rh1 r1 q=>⟨ds,h1,Qd,r1,rh1,q,jD p k1⟩
theorem Rf {t:TED}: ∀σ H Q,LT K (yV t) σ H Q->Fn (LE K t) σ H Q:=λσ H Q ⟨σd,h,Qd,rs,rh,t,p⟩=>
 LE.bind rs rh t λd v h1 H1 k1 rs1 rh1 r1 ⟨k,e,q⟩=>by subst e;exact⟨k,r1,p k h1 H1 k1 rh1 q⟩
theorem ND {t:TED}: ∀σ H Q,LT K (yV t) σ H Q->tB (LE K t) σ H Q:=λσ H Q ⟨σd,h,Qd,rs,rh,t,p⟩=>
 LE.bind rs rh t λd v h1 H1 k1 rs1 rh1 r1 ⟨k,e,q⟩=>by subst e;exact⟨k,r1,p k h1 H1 k1 rh1 q⟩
theorem Gi {r r':RD2}{tc:TED}: ∀σ H Q,LE K (ZL r r' ta tb tc) σ H Q->DJ (LR K r) (LR K r') (LE K ta) (LE K tb) (LE K tc) σ H Q:=λσ H Q ⟨σd,h,Qd,rs,rh,t,p⟩=>
 LE.bind rs rh t λd v h1 H1 k1 rs1 rh1 r1 t1=>LE.bind rs1 rh1 t1 λd2 v2 h2 H2 k2 rs2 rh2 r2 t2=>⟨d,d2,h2,_,r1.mono k2,r2,rh2,t2,λd3 v3 h3 H3 k3 rh3 r3 ⟨k,e,q⟩=>by
  subst e;refine⟨k,r3,?_⟩;cases k with
  |true=>
   rw [R1 rfl] at q ⊢;exact LE.bind (rs2.mono k3) rh3 q λd4 v4 h4 H4 k4 rs4 rh4 r4 t4=>⟨d2,d4,h4,Qd,(r2.mono k3).mono k4,r4,rh4,t4,jD p (k1.trans (k2.trans (k3.trans k4)))⟩
  |false=>
   rw [R3 D8] at q ⊢;exact p (.bl false) _ h3 H3 (k1.trans (k2.trans k3)) rh3 rfl q⟩
theorem TL {t u:TTD}: ∀σ H Q,LT K (FK t u) σ H Q->tOr (LT K t) (LT K u) σ H Q:=λσ H Q ⟨σd,h,Qd,rs,rh,t,p⟩=>
 LT.bind rs rh t λb h1 H1 k1 rs1 rh1 q=>by
  cases b with
  |true=>rw [R1 rfl] at q ⊢;exact p _ _ _ k1 rh1 q
  |false=>rw [R3 D8] at q ⊢;exact⟨σd,h1,Qd,rs1,rh1,q,λb h' H' k=>p b h' H' (k1.trans k)⟩
theorem AX {t:TTD}: ∀σ H Q,LT K (UC t) σ H Q->Kb (LT K t) σ H Q:=λσ H Q ⟨σd,h,Qd,rs,rh,t,p⟩=>
 LT.bind rs rh t λb h1 H1 k1 rs1 rh1 q=>p _ _ _ k1 rh1 q
theorem AY: ∀σ H Q,LE K (Pf ta tb) σ H Q->Ae (LE K ta) (LE K tb) σ H Q:=λσ H Q ⟨σd,h,Qd,rs,rh,t,p⟩=>
 LE.bind rs rh t λd v h1 H1 k1 rs1 rh1 r1 ⟨c,e,q⟩=>by
  subst e;refine⟨c,r1,?_⟩;cases c with
  |true=>rw [R1 rfl] at q ⊢;exact⟨σd,h1,Qd,rs1,rh1,q,jD p k1⟩
  |false=>rw [R3 D8] at q ⊢;exact p (.bl false) _ _ _ k1 rh1 rfl q
theorem TN: ∀σ H Q,LE K (TK ta tb) σ H Q->Kc (LE K ta) (LE K tb) σ H Q:=λσ H Q ⟨σd,h,Qd,rs,rh,t,p⟩=>
 LE.bind rs rh t λd v h1 H1 k1 rs1 rh1 r1 ⟨c,e,q⟩=>by
  subst e;refine⟨c,r1,?_⟩;cases c with
  |true=>rw [R1 rfl] at q ⊢;exact p (.bl true) _ _ _ k1 rh1 rfl q
  |false=>rw [R3 D8] at q ⊢;exact⟨σd,h1,Qd,rs1,rh1,q,jD p k1⟩
theorem AZ: ∀σ H Q,LE K (Pg ta) σ H Q->Af (LE K ta) σ H Q:=λσ H Q ⟨σd,h,Qd,rs,rh,t,p⟩=>
 LE.bind rs rh t λd v h1 H1 k1 rs1 rh1 r1 ⟨c,e,q⟩=>by subst e;exact⟨c,r1,p (.bl (!c)) _ _ _ k1 rh1 rfl q⟩
theorem TQ {t:TTD}: ∀σ H Q,LE K (dIf t ta tb) σ H Q->tIf (LT K t) (LE K ta) (LE K tb) σ H Q:=λσ H Q ⟨σd,h,Qd,rs,rh,t,p⟩=>
 LT.bind rs rh t λb h1 H1 k1 rs1 rh1 q=>by
  cases b with
  |true=>rw [R1 rfl] at q ⊢;exact⟨σd,h1,Qd,rs1,rh1,q,jD p k1⟩
  |false=>rw [R3 D8] at q ⊢;exact⟨σd,h1,Qd,rs1,rh1,q,jD p k1⟩
end
abbrev QE (X:Cx)(e:S6)(t:TED):Prop:=PE X e (LE X.K t)
abbrev QT (X:Cx)(e:S6)(t:TTD):Prop:=PT X e (LT X.K t)
abbrev QW (X:Cx)(e:S6)(t:TTD):Prop:=PW X e (LT X.K t)
abbrev QA (X:Cx)(es:G0 S6)(t:TAD):Prop:=PA X es (LA X.K t)
abbrev QS (X:Cx)(s:C5)(t:TSD):Prop:=PS X s (LS X.K t)
abbrev QSs (X:Cx)(s:G0 C5)(t:TSD):Prop:=PSs X s (LS X.K t)
abbrev QG (X:Cx)(e:S6)(t:TGD):Prop:=PG X e (LG X.K t)
abbrev OpQ (X:Cx)(f:G1->G1->Sem G1)(r:RD2):Prop:=OpR X f (LR X.K r)
abbrev vF (X:Cx)(f:G1)(r:RDn):Prop:=CallR X f (LC X.K r)
section
variable {X:Cx}{a b c e:S6}{es rest:G0 S6}{ta tb tc te:TED}{t u:TAD}{tt tu:TTD}{pos:Pos}{f r r':RD2}
theorem qv (i:G8){x:Str}(hN:X.N[i]? =some x:=by rfl)(hv:Vis X.env.scope x:=by first|exact W6 rfl|exact cA (W6 rfl)|exact cA (cA rfl))(hd:(x==("__debug__" :Str))=false:=by decide)
 (hcd:(x==("__classdict__" :Str))=false:=by decide):QE X (.Name x pos) (Wg i):=(Uq hN hv hd hcd).imp (AR i)
variable {j:G8}
theorem Kv {i:P2}:QE X (.Constant (.int i) j pos) (dC (.int i)):=pe_int.imp (AS λ_=>rfl)
theorem qbl {i:N0}:QE X (.Constant (.bool i) j pos) (dC (.bl i)):=pe_bl.imp (AS λ_=>rfl)
theorem ku:QE X (.Constant .none j pos) (dC .non):=pe_non.imp (AS λ_=>rfl)
theorem ky {x:Str}:QE X (.Constant (.str x) j pos) (dC (.str x)):=pe_str.imp (AS λ_=>rfl)
theorem TR {x:Str}{i:P2}{tk:Tok}(hg:Gl X x)(hm:X.mg x=some (.int i tk))(hd:(x==("__debug__" :Str))=false:=by decide):QE X (.Name x pos) (dC (.int i)):=
 (DA (v:= .int i) hg hm ⟨tk,rfl⟩ hd).imp (AS λ_=>rfl)
theorem qop {op:xE}(ho:OpQ X (J6 op) f)(ha:QE X a ta)(hb:QE X b tb):QE X (.BinOp a op b pos) (dOp f ta tb):=(Tq ho ha hb).imp FL
theorem kz {op:iA}(ho:OpQ X (N3 op) f)(ha:QE X a ta)(hb:QE X b tb)(hm:V7 op b=false):QE X (.Compare a [op] [b] pos) (dOp f ta tb):=(Fm ho ha hb hm).imp FL
theorem TU {op:iA}(ho:OpQ X (N3 op) f)(ha:QE X a ta)(hb:QE X b tb)(hm:V7 op b=false):QT X (.Compare a [op] [b] pos) (yV (dOp f ta tb)):=
 (Fo ho ha hb hm).imp λσ H Q h=>by
  obtain⟨σd,h,Qd,rs,rh,t,p⟩:=Rf (t:=dOp f ta tb) σ H Q h;exact FL σ H _ ⟨σd,h,Qd,rs,rh,t,p⟩
theorem Ea {op op':iA}(ho:OpQ X (N3 op) r)(ho':OpQ X (N3 op') r')(ha:QE X a ta)(hb:QE X b tb)(hc:QE X c tc)(hm:iU [op,op'] [b,c]=false:=by with_unfolding_all rfl):
 QE X (.Compare a [op,op'] [b,c] pos) (ZL r r' ta tb tc):=(Nn ho ho' ha hb hc hm).imp Gi
theorem FN {op op':iA}(ho:OpQ X (N3 op) r)(ho':OpQ X (N3 op') r')(ha:QE X a ta)(hb:QE X b tb)(hc:QE X c tc)(hm:iU [op,op'] [b,c]=false:=by with_unfolding_all rfl):
 QT X (.Compare a [op,op'] [b,c] pos) (yV (ZL r r' ta tb tc)):=(No ho ho' ha hb hc hm).imp λσ H Q h=>by
 obtain⟨σd,h,Qd,rs,rh,t,p⟩:=Rf (t:=ZL r r' ta tb tc) σ H Q h;exact Gi σ H _ ⟨σd,h,Qd,rs,rh,t,p⟩
theorem TV (ha:QE X a ta)(he: ∀whole,isTrue a X.env whole=(do let v <-whole;hO a.pos;Z6 [v] (y8 v)):=by intro _;rfl):QT X a (yV ta):=(Ab ha he).imp ND
theorem kH (ha:QT X a tt):QW X (.BoolOp .Or [a] pos) tt:=Ac ha
theorem kI (ha:QT X a tt)(hb:QW X (.BoolOp .Or (b::rest) pos) tu):QW X (.BoolOp .Or (a::b::rest) pos) (FK tt tu):=(Tl ha hb).imp TL
theorem TW (ha:QT X a tt):QT X (.UnaryOp .Not a pos) (UC tt):=(Ad ha).imp AX
theorem kJ {op:BoolOp}(ha:QE X a ta):QE X (.BoolOp op [a] pos) ta:=Ag ha
theorem kK (ha:QE X a ta)(hb:QE X (.BoolOp .And (b::rest) pos) tb):QE X (.BoolOp .And (a::b::rest) pos) (Pf ta tb):=(Ah ha hb).imp AY
theorem qor (ha:QE X a ta)(hb:QE X (.BoolOp .Or (b::rest) pos) tb):QE X (.BoolOp .Or (a::b::rest) pos) (TK ta tb):=(Tm ha hb).imp TN
theorem kL (ha:QE X a ta):QE X (.UnaryOp .Not a pos) (Pg ta):=(Ai ha).imp AZ
theorem qif {c:S6}(hc:QT X c tt)(ha:QE X a ta)(hb:QE X b tb):QE X (.IfExp c a b pos) (dIf tt ta tb):=(Nk hc ha hb).imp TQ
theorem Co:QA X [] vE:=pa_nil.imp AT
theorem Rg (ha:QE X e te)(hr:QA X es t)(hs:P5 (e::es) X.env=(false,C8 e X.env)::P5 es X.env:=by rfl):QA X (e::es) (jP te t):=(zS ha hr hs).imp FM
theorem kM {k:G8}(h:QA X es t):QE X (.Tuple es k pos) (Cn t):=(AA h).imp AU
theorem kN (h:QA X es t):QE X (.List es pos) (NC t):=(AB h).imp AV
end
def Ys:TSD:=λD σ h=>D.nx σ h
def yR (t u:TSD):TSD:=λD σ h=>t {D with nx:=u D} σ h
def FO (te:TED):TSD:=λD σ h=>te σ h λ_ h1=>D.nx σ h1
def Vo (te:TED):TSD:=λD σ h=>te σ h D.rt
def Nh (c:TTD)(t u:TSD):TSD:=λD σ h=>c σ h λb h1=>if b=true then t D σ h1 else u D σ h1
def XZ (i:G8)(te:TED):TSD:=λD σ h=>te σ h λd h1=>D.nx (σ.set i (some d)) h1
def TY (te:TED)(g:TGD):TSD:=λD σ h=>te σ h λx h1=>g x σ h1 D.nx
def Tf (i j:G8)(ta:TAD):TSD:=λD σ h=>ta σ h λds h1=> ∃v w,ds= [v,w]/\D.nx ((σ.set i (some v)).set j (some w)) h1
def gN (i:G8):TGD:=λd σ h Q=>Q (σ.set i (some d)) h
def gT2 (i j:G8):TGD:=λd σ h Q=> ∃x y,d= .tup [x,y]/\Q ((σ.set i (some x)).set j (some y)) h
section
variable {K:G3}
theorem LS.of {t:TSD}{D₀:Ends}{σ:St}{H:Hp}{σd:SD}{h:HD}{Dd:EndsD}(rs:RelS K H σd σ)(rh:RelH K h H)(q:t Dd σd h)
 (nx: ∀σd' h' σ' H',Kept H H'->RelS K H' σd' σ'->RelH K h' H'->Dd.nx σd' h'->D₀.nx σ' H')(rt:Cm K H Dd.rt D₀.rt)
 (bk: ∀σd' h' σ' H',Kept H H'->RelS K H' σd' σ'->RelH K h' H'->Dd.bk σd' h'->D₀.bk σ' H')(ct: ∀σd' h' σ' H',Kept H H'->RelS K H' σd' σ'->RelH K h' H'->Dd.ct σd' h'->D₀.ct σ' H'):LS K t D₀ σ H:=⟨σd,h,Dd,rs,rh,q,nx,rt,bk,ct⟩
theorem FP: ∀D σ H,LS K Ys D σ H->Aj D σ H:=λD σ H ⟨σd,h,Dd,rs,rh,q,nx,_⟩=>nx σd h σ H (.refl H) rs rh q
theorem Eb {t u:TSD}: ∀D σ H,LS K (yR t u) D σ H->Kd (LS K t) (LS K u) D σ H:=λD σ H ⟨σd,h,Dd,rs,rh,q,nx,rt,bk,ct⟩=>
 LS.of rs rh q (λσd' h' σ' H' k rs' rh' q'=>⟨σd',h',Dd,rs',rh',q',λa b c d k'=>nx a b c d (k.trans k'),jD rt k,λa b c d k'=>bk a b c d (k.trans k'),λa b c d k'=>ct a b c d (k.trans k')⟩) rt bk ct
variable {te:TED}
theorem FQ: ∀D σ H,LS K (FO te) D σ H->Ak (LE K te) D σ H:=λD σ H ⟨σd,h,Dd,rs,rh,q,nx,rt,bk,ct⟩=>
 LE.bind rs rh q λd v h1 H1 k1 rs1 rh1 r1 q1=>nx _ _ _ _ k1 rs1 rh1 q1
theorem Ec: ∀D σ H,LS K (Vo te) D σ H->Ke (LE K te) D σ H:=λD σ H ⟨σd,h,Dd,rs,rh,q,nx,rt,bk,ct⟩=>⟨σd,h,Dd.rt,rs,rh,q,rt⟩
theorem TZ {c:TTD}{t u:TSD}: ∀D σ H,LS K (Nh c t u) D σ H->Kf (LT K c) (LS K t) (LS K u) D σ H:=λD σ H ⟨σd,h,Dd,rs,rh,q,nx,rt,bk,ct⟩=>
 LT.bind rs rh q λb h1 H1 k rs1 rh1 q1=>by
  cases b with
  |true=>rw [R1 rfl] at q1 ⊢;exact⟨σd,h1,Dd,rs1,rh1,q1,λa b c d k'=>nx a b c d (k.trans k'),jD rt k,λa b c d k'=>bk a b c d (k.trans k'),λa b c d k'=>ct a b c d (k.trans k')⟩
  |false=>rw [R3 D8] at q1 ⊢;exact⟨σd,h1,Dd,rs1,rh1,q1,λa b c d k'=>nx a b c d (k.trans k'),jD rt k,λa b c d k'=>bk a b c d (k.trans k'),λa b c d k'=>ct a b c d (k.trans k')⟩
theorem Rh {i:G8}: ∀D σ H,LS K (XZ i te) D σ H->Cf (LE K te) (yw i) D σ H:=λD σ H ⟨σd,h,Dd,rs,rh,q,nx,rt,bk,ct⟩=>
 LE.bind rs rh q λd v h1 H1 k1 rs1 rh1 r1 q1=>nx _ _ _ _ k1 (rs1.set r1 i) rh1 q1
theorem Ed {g:TGD}: ∀D σ H,LS K (TY te g) D σ H->Cf (LE K te) (LG K g) D σ H:=λD σ H ⟨σd,h,Dd,rs,rh,q,nx,rt,bk,ct⟩=>
 LE.bind rs rh q λd v h1 H1 k1 rs1 rh1 r1 q1=>⟨d,σd,h1,_,r1,rs1,rh1,q1,λa b c e k'=>nx a b c e (k1.trans k')⟩
theorem Ee {i j:G8}{ta:TAD}: ∀D σ H,LS K (Tf i j ta) D σ H->Kj i j (LA K ta) D σ H:=λD σ H ⟨σd,h,Dd,rs,rh,q,nx,rt,bk,ct⟩=>
 LA.bind rs rh q λds vs h1 H1 k1 rs1 rh1 r1 ⟨x,y,e,q1⟩=>by
  subst e;obtain⟨v,r,e,r2,r3⟩:=(show ∃v r,vs=v::r/\RelD K H1 x v/\RelDs K H1 [y] r from r1);obtain⟨w,r',e',r4,r5⟩:=(show ∃v r',r=v::r'/\RelD K H1 y v/\RelDs K H1 [] r' from r3);cases (show r'= [] from r5);subst e' e;exact⟨v,w,rfl,nx _ _ _ _ k1 ((rs1.set r2 i).set r4 j) rh1 q1⟩
theorem FR (i:G8): ∀v σ H Q,LG K (gN i) v σ H Q->yw i v σ H Q:=λv σ H Q ⟨d,σd,h,Qd,r,rs,rh,q,p⟩=>p _ _ _ _ (.refl H) (rs.set r i) rh q
theorem Wx {H:Hp}{x y:D}{vs:G0 V}(r:RelDs K H [x,y] vs): ∃v w,vs= [v,w]/\RelD K H x v/\RelD K H y w:=by
 obtain⟨v,r1,e,r2,r3⟩:=(show ∃v r,vs=v::r/\RelD K H x v/\RelDs K H [y] r from r);obtain⟨w,z,e',r4,r5⟩:=(show ∃v z,r1=v::z/\RelD K H y v/\RelDs K H [] z from r3);cases (show z= [] from r5);subst e' e;exact⟨v,w,rfl,r2,r4⟩
theorem jA {H:Hp}{x:D}{vs:G0 V}(r:RelDs K H [x] vs): ∃v,vs= [v]/\RelD K H x v:=by
 obtain⟨v,r1,e,r2,r3⟩:=(show ∃v r,vs=v::r/\RelD K H x v/\RelDs K H [] r from r);cases (show r1= [] from r3);exact⟨v,e,r2⟩
theorem Ef (i j:G8): ∀v σ H Q,LG K (gT2 i j) v σ H Q->Ki K 2 (Fh (yw i) (Fh (yw j) Kh)) v σ H Q:=λv σ H Q ⟨d,σd,h,Qd,r,rs,rh,⟨x,y,e,q⟩,p⟩=>by
 subst e;obtain⟨a,vs,e,hH,r1⟩:=(show ∃a vs,v= .ref a/\H a=some (.tup vs)/\RelDs K H [x,y] vs from r);obtain⟨v1,v2,e1,r2,r3⟩:=Wx r1;subst e e1;exact⟨a,[v1,v2],rfl,SqT.of hH,rfl,v1,[v2],rfl,v2,[],rfl,rfl,p _ _ _ _ (.refl H) ((rs.set r2 i).set r3 j) rh q⟩
end
section
variable {X:Cx}{st:C5}{sts:G0 C5}{t u:TSD}{e:S6}{te:TED}{pos:Pos}
theorem Eg:QSs X [] Ys:=pss_nil.imp FP
theorem FS (h1:QS X st t)(h2:QSs X sts u):QSs X (st::sts) (yR t u):=(Ge h1 h2).imp Eb
theorem Eh (h1:QS X st t):QSs X [st] t:=DD h1
theorem Ha (he:QE X e te)(hs:Q4 e none pos.line X.env=pure false:=by rfl):QS X (.Expr e pos) (FO te):=(Fg he hs).imp FQ
theorem kO (he:QE X e te):QS X (.Return (some e) pos) (Vo te):=(Al he).imp Ec
theorem kP {c:S6}{a b:G0 C5}{tc:TTD}(hc:QT X c tc)(ha:QSs X a t)(hb:QSs X b u):QS X (.If c a b pos) (Nh tc t u):=(Tn hc ha hb).imp TZ
variable {i:G8}{x:Str}
theorem kQ {pos':Pos}(hN:X.N.Nodup)(hi:X.N[i]? =some x)(hx:Loc X.env.scope x)(he:QE X e te)(hs:Q4 e (some (.Name x pos')) pos.line X.env=pure false:=by rfl)
 (hf:X.fn x=true\/X.env.scope.names.lookup x=some .local:=by first|exact .inl rfl|exact .inr rfl|assumption):QS X (.Assign [.Name x pos'] e pos) (XZ i te):=(Ap hN hi hx he hs hf).imp Rh
theorem FT (hN:X.N.Nodup)(hi:X.N[i]? =some x)(hx:Loc X.env.scope x)(hf:X.fn x=true\/X.env.scope.names.lookup x=some .local:=by first|exact .inl rfl|exact .inr rfl|assumption):QG X (.Name x pos) (gN i):=
 (vQ hN hi hx hf).imp (FR i)
theorem Ei {j:G8}{y:Str}{p1 p2:Pos}{k:G8}(hc:X.calm=true)(hN:X.N.Nodup)(hi:X.N[i]? =some x)(hj:X.N[j]? =some y)(hx:Loc X.env.scope x)(hy:Loc X.env.scope y)
 (hf:X.fn x=true\/X.env.scope.names.lookup x=some .local:=by first|exact .inl rfl|exact .inr rfl|assumption)(hf2:X.fn y=true\/X.env.scope.names.lookup y=some .local:=by first|exact .inl rfl|exact .inr rfl|assumption):
 QG X (.Tuple [.Name x p1,.Name y p2] k pos) (gT2 i j):=(Am hc (Gf (vQ hN hi hx hf) (Gf (vQ hN hj hy hf2) Fi))).imp (Ef i j)
theorem kT {tg:S6}{g:TGD}(he:QE X e te)(hg:QG X tg g)(hs:cE [tg] e pos.line X.env=pure false:=by rfl)(hsw:cF [tg] e X.env=pure none:=by rfl)
 (h1:(cQ [tg] X.env).map (·.2)= [dY tg X.env]:=by rfl):QS X (.Assign [tg] e pos) (TY te g):=(Ao he hg hs hsw h1).imp Ed
theorem kU {j:G8}{y:Str}{a b:S6}{ta:TAD}{px py pt:Pos}{kt k2 pt2}(hc:X.calm=true)(hN:X.N.Nodup)(hi:X.N[i]? =some x)(hj:X.N[j]? =some y)(hij:i≠j)
 (hx:X.env.scope.names.lookup x=some .local)(hy:X.env.scope.names.lookup y=some .local)(ha:QA X [a,b] ta)
 (hw:cF [.Tuple [.Name x px,.Name y py] kt pt] (.Tuple [a,b] k2 pt2) X.env=pure (some [x,y]))
 (hs:cE [.Tuple [.Name x px,.Name y py] kt pt] (.Tuple [a,b] k2 pt2) pos.line X.env=pure false:=by rfl):
 QS X (.Assign [.Tuple [.Name x px,.Name y py] kt pt] (.Tuple [a,b] k2 pt2) pos) (Tf i j ta):=(Aq hc hN hi hj hij hx hy ha hw hs).imp Ee
end
abbrev ItD:=HD->P0 (G0 D)
def OQ (K:G3)(H:Hp)(j:ItD)(J:It):Prop:= ∀H' h',Kept H H'->RelH K h' H'-> ∀ds,j h'=some ds-> ∀i:G8,
 (∀d,ds[i]? =some d->J.go i H'/\ ∀x H'',J.yld i H' x H''->Kept H' H''/\RelH K h' H''/\RelD K H'' d x)/\(ds.length<=i->J.stop i H')
abbrev TID:=SD->HD->(ItD->HD->Prop)->Prop
def LI (K:G3)(t:TID):TI:=λσ H R=> ∃σd h Rd,RelS K H σd σ/\RelH K h H/\t σd h Rd/\ ∀j J h' H',Kept H H'->RelH K h' H'->OQ K H' j J->Rd j h'->R J H'
abbrev QI (X:Cx)(tg iter:S6)(t:TID):Prop:=PI X tg iter (LI X.K t)
theorem PI.imp {t t':TI}(h:PI X tg e t)(i: ∀σ H R,t' σ H R->t σ H R):PI X tg e t':=λpins s σ H R I q=>h pins s σ H R I (i σ H R q)
def iL (te:TED):TID:=λσ h R=>te σ h λx h1=> ∃a,x= .lst a/\R (λh=>h a) h1
def iR1 (ta:TAD):TID:=λσ h R=>ta σ h λds h1=> ∃n:P2,ds= [.int n]/\ -(2^62)<=n/\n<2^62/\R (λ_=>some ((P7 n.toNat).map λ(k:G8)=>D.int (k:P2))) h1
section
variable {K:G3}
theorem UD (H:Hp)(a:G5):OQ K H (λh=>h a) (Itl K a):=λH' h' k rh ds e i=>by
 obtain⟨vs,hv,r⟩:=rh a ds e;refine⟨λd hd=> ?_,λhl=>⟨vs,SqL.of hv,by rw [<-r.length];exact hl⟩⟩;obtain⟨v,e1,e2⟩:=r.get hd;refine⟨⟨vs,v,SqL.of hv,e1⟩,λx H'' ⟨eH,hx⟩=> ?_⟩;subst eH;have:=hx vs (SqL.of hv);rw [e1] at this;cases this;exact⟨.refl _,rh,e2⟩
theorem NE {H:Hp}{a:G5}{vs:G0 V}{ds:G0 D}(hv:H a=some (.tup vs))(r:RelDs K H ds vs):OQ K H (λ_=>some ds) (Itt K a):=λH' h' k rh ds' e i=>by
 cases e;have hv':=k.tup _ _ hv;have r':=r.mono k;refine⟨λd hd=> ?_,λhl=>⟨vs,SqT.of hv',by rw [<-r.length];exact hl⟩⟩;obtain⟨v,e1,e2⟩:=r'.get hd;refine⟨⟨vs,v,SqT.of hv',e1⟩,λx H'' ⟨eH,hx⟩=> ?_⟩;subst eH;have:=hx vs (SqT.of hv');rw [e1] at this;cases this;exact⟨.refl _,rh,e2⟩
theorem Ph (H:Hp)(lo:P2)(n:G8)(ds:G0 D)(hd:ds=(P7 n).map λ(k:G8)=>D.int (lo+(k:P2))):OQ K H (λ_=>some ds) (Itr lo n):=λH' h' k rh ds' e i=>by
 cases e;subst hd;refine⟨λd hd=> ?_,λhl=>(show n<=i by simpa using hl)⟩;rw [D6] at hd;have hi:i<n:=by
  by_cases z:i<n
  ·exact z
  ·rw [E6 (by simpa using z)] at hd;cases hd
 rw [X0 hi] at hd;cases hd;refine⟨hi,λx H'' ⟨eH,hx⟩=> ?_⟩;subst eH hx;exact⟨.refl _,rh,rfl⟩
theorem FU {te:TED}: ∀σ H R,LI K (iL te) σ H R->Ar K (LE K te) σ H R:=λσ H R ⟨σd,h,Rd,rs,rh,q,p⟩=>
 LE.bind rs rh q λd v h1 H1 k1 rs1 rh1 r1 ⟨a,e,q1⟩=>by
  subst e;obtain⟨e,vs,hv⟩:=(show v= .ref a/\ ∃vs,H1 a=some (.lst vs) from r1);exact⟨a,e,⟨vs,SqL.of hv⟩,p _ _ _ _ k1 rh1 (UD H1 a) q1⟩
theorem Hb {ta:TAD}: ∀σ H R,LI K (iR1 ta) σ H R->As (LA K ta) σ H R:=λσ H R ⟨σd,h,Rd,rs,rh,q,p⟩=>
 LA.bind rs rh q λds vs h1 H1 k1 rs1 rh1 r1 ⟨n,e,b1,b2,q1⟩=>by
  subst e;obtain⟨v,e,r2⟩:=jA r1;cases (show v= .int n from r2);exact⟨n,e,b1,b2,p _ _ _ _ k1 rh1 (Ph H1 0 n.toNat _ (by simp)) q1⟩
end
def Ej (ti:TID)(g:TGD)(tb:TSD):TSD:=λD σ h=>ti σ h λj h1=> ∃ (n:G8) (W:G8->SD->HD->Prop),W 0 σ h1/\ ∀i σ' h',W i σ' h'-> ∃ds,j h'=some ds/\ds.length<=n/\(ds.length<=i->D.nx σ' h')/\
 ∀d,ds[i]? =some d->g d σ' h' λσ2 h2=>tb {D with nx:=λσ3 h3=> ∃h4,Sub h4 h3/\W (i+1) σ3 h4,ct:=λσ3 h3=> ∃h4,Sub h4 h3/\W (i+1) σ3 h4,bk:=D.nx} σ2 h2
variable {ti:TID}
theorem Ek {g:TGD}{tb:TSD}: ∀D σ H,LS K (Ej ti g tb) D σ H->Kk (LI K ti) (LG K g) (LS K tb) D σ H:=λD σ H ⟨σd,h,Dd,rs,rh,q,nx,rt,bk,ct⟩=>by
 refine⟨σd,h,_,rs,rh,q,λj J h1 H1 k1 rh1 jo ⟨n,W,w0,turn⟩=> ?_⟩;refine⟨λi m σ' H'=>m=n-i/\Kept H1 H'/\ ∃σd' h',RelS K H' σd' σ'/\RelH K h' H'/\W i σd' h',⟨n-0,rfl,.refl _,σd,h1,rs.mono k1,rh1,w0⟩,?_⟩;rintro i m σ' H' ⟨rfl,kp,σd',h',rs',rh',w⟩;obtain⟨ds,ej,hn,stop,go⟩:=turn i σd' h' w;have jo':=jo H' h' kp rh' ds ej i
 by_cases hi:i<ds.length
 ·obtain⟨g1,y1⟩:=jo'.1 ds[i] (P8 hi);refine .inr ⟨g1,λσ2 H2=>Kept H1 H2/\ ∃σd2 h2,RelS K H2 σd2 σ2/\RelH K h2 H2/\W (i+1) σd2 h2,λσ2 H2 ⟨k2,a,b,c,d,e⟩=>⟨n-(i+1),by omega,rfl,k2,a,b,c,d,e⟩,λx H'' y=> ?_⟩;obtain⟨k2,rh2,r2⟩:=y1 x H'' y;refine⟨ds[i],σd',h',_,r2,rs'.mono k2,rh2,go ds[i] (P8 hi),λσd3 h3 σ3 H3 k3 rs3 rh3 q3=> ?_⟩;have kk:Kept H H3:=k1.trans (kp.trans (k2.trans k3));have kk1:Kept H1 H3:=kp.trans (k2.trans k3);exact⟨σd3,h3,_,rs3,rh3,q3,λa b c d k4 rs4 rh4 ⟨h4,sb,w4⟩=>⟨kk1.trans k4,a,h4,rs4,rh4.sub sb,w4⟩,jD rt kk,λa b c d k4 rs4 rh4 q4=>nx a b c d (kk.trans k4) rs4 rh4 q4,λa b c d k4 rs4 rh4 ⟨h4,sb,w4⟩=>⟨kk1.trans k4,a,h4,rs4,rh4.sub sb,w4⟩⟩
 ·exact .inl ⟨jo'.2 (U0.mp hi),nx _ _ _ _ (k1.trans kp) rs' rh' (stop (U0.mp hi))⟩
def Zl:TTD:=λ_ h Q=>Q true h
def XQ (bind:D->SD->SD->Prop)(js:G0 G8)(ti:TID)(tt:TTD)(te:TED):TED:=λσ h Q=>ti σ h λj h1=> ∃ (n:G8) (W:G8->G0 D->HD->Prop),W 0 [] h1/\ ∀i ys h',W i ys h'->ys.length<=sizeLine/\
 ∃ds,j h'=some ds/\ds.length<=n/\(ds.length<=i-> ∀p,h' p=none->Q (.lst p) (wc h' p ys))/\
  ∀d,ds[i]? =some d-> ∃σ2,bind d (ze js σ) σ2/\tt σ2 h' λb h3=>if b=true then te σ2 h3 λy h4=> ∃h5,Sub h5 h4/\W (i+1) (ys++ [y]) h5 else ∃h5,Sub h5 h3/\W (i+1) ys h5
def bN (i:G8):D->SD->SD->Prop:=λd σ σ2=>σ2=σ.set i (some d)
def b2 (i j:G8):D->SD->SD->Prop:=λd σ σ2=> ∃x y,d= .tup [x,y]/\σ2=(σ.set i (some x)).set j (some y)
theorem El: ∀σ H Q,LT K Zl σ H Q->Ku σ H Q:=λσ H Q ⟨σd,h,Qd,rs,rh,q,p⟩=>p true h H (.refl H) rh q
def Cp (K:G3)(js:G0 G8)(bind:D->SD->SD->Prop)(g:TG):Prop:= ∀ (σ:St) (σd σd2:SD) (H:Hp) (d:D) (v:V) (Q:St->Hp->Prop),RelS K H (ze js σd) (zB js σ)->RelD K H d v->bind d (ze js σd) σd2->
 (∀σ2,Agree (zB js σ) σ2->RelS K H σd2 σ2->Q σ2 H)->g v (zB js σ) H Q
variable {i:G8}
theorem FV (hi:i∈js):Cp K js (bN i) (yw i):=λσ σd σd2 H d v Q rs r b q=>by
 cases (show σd2=_ from b);exact q _ (.set v λu=>zq js σ i u hi) (rs.set r i)
theorem Em {bind:D->SD->SD->Prop}{tt:TTD}{te:TED}(hb:Cp K js bind g): ∀σ H Q,LE K (XQ bind js ti tt te) σ H Q->tLC js (LI K ti) g (LT K tt) (LE K te) σ H Q:=
 λσ H Q ⟨σd,h,Qd,rs,rh,q,p⟩=>by
  refine⟨σd,h,_,rs,rh,q,λj J h1 H1 k1 rh1 jo ⟨n,W,w0,turn⟩=> ?_⟩;refine⟨λi m ys H'=>m=n-i/\Kept H1 H'/\ ∃ds h',RelDs K H' ds ys/\RelH K h' H'/\W i ds h',⟨n-0,rfl,.refl _,[],h1,rfl,rh1,w0⟩,?_⟩;rintro i m ys H' ⟨rfl,kp,yd,h',ry,rh',w⟩;obtain⟨hz,ds,ej,hn,stop,go⟩:=turn i yd h' w;refine⟨by rw [<-ry.length];exact hz,?_⟩;have jo':=jo H' h' kp rh' ds ej i;have kk:Kept H H':=k1.trans kp
  by_cases hi:i<ds.length
  ·obtain⟨g1,y1⟩:=jo'.1 ds[i] (P8 hi);refine .inr ⟨g1,λx H'' y=> ?_⟩;obtain⟨k2,rh2,r2⟩:=y1 x H'' y;obtain⟨σd2,bd,q2⟩:=go ds[i] (P8 hi);refine hb σ σd σd2 H'' ds[i] x _ (((rs.mono (kk.trans k2))).clear js) r2 bd λσ2 ag rs2=>⟨ag,?_⟩
   refine LT.bind rs2 rh2 q2 λb h3 H3 k3 rs3 rh3 q3=> ?_
   cases b with
   |true=>
    rw [R1 rfl] at q3 ⊢;refine LE.bind rs3 rh3 q3 λd4 v4 h4 H4 k4 rs4 rh4 r4 ⟨h5,sb,w5⟩=>⟨n-(i+1),by omega,rfl,kp.trans (k2.trans (k3.trans k4)),yd++ [d4],h5,(ry.mono (k2.trans (k3.trans k4))).append (.cons r4 .nil),rh4.sub sb,w5⟩
   |false=>
    rw [R3 D8] at q3 ⊢;obtain⟨h5,sb,w5⟩:=q3;exact⟨n-(i+1),by omega,rfl,kp.trans (k2.trans k3),yd,h5,ry.mono (k2.trans k3),rh3.sub sb,w5⟩
  ·refine .inl ⟨jo'.2 (U0.mp hi),λa ha=>p (.lst a) (.ref a) _ _ (kk.trans (.new ha)) (rh'.newL ha ry) ⟨rfl,ys,je⟩ (stop (U0.mp hi) a (rh'.free ha))⟩
theorem yz {C:G5}{s₀:G2}{H₀:Hp}{ex:G0 G5}{p:Pos}(hN:X.N.Nodup)(hx:X.N[i]? =some x)(hl:scope.names.lookup x=some .local\/scope.names.lookup x=some .cell):
 PG (yU X scope C s₀ H₀ ex) (.Name x p) (yw i):=by
 rcases hl with z|z
 ·exact vQ hN hx (.inl (mJ z)) (.inr (mJ z))
 ·exact vQ hN hx (.inr (vS z)) (.inl (by show (scope.names.lookup x==some K7)=true;rw [z];rfl))
section
variable {X:Cx}{tg e iter elt:S6}{te:TED}{ti:TID}{g:TGD}{tb:TSD}{tt:TTD}{pos:Pos}{ta:TAD}{scope:H0}{js:G0 G8}{ifs:G0 S6}
theorem FW (he:QE X e te):QI X tg e (iL te):=(Fk he).imp FU
theorem Hc {p:Pos}{a:S6}(hg:Gl X "range")(hm:X.mg "range" =none)(ha:QA X [a] ta)(hs:P5 [a] X.env= [(false,C8 a X.env)]:=by rfl):QI X tg (.Call (.Name "range" p) [a] [] pos) (iR1 ta):=(DE hg hm ha hs).imp Hb
theorem kW {body:G0 C5}(hp:m7 (D3 X.prog X.w) X.A X.env X.xe)(hc:X.calm=true)(hi:QI X tg iter ti)(hg:QG X tg g)(hb:QSs X body tb)(hs: ∀x,T8 iter X.env x=pure x:=by intro _;rfl):
 QS X (.For tg iter body [] pos) (Ej ti g tb):=(Au hp hc hi hg hb hs).imp Ek
theorem FX:PTs X [] (LT X.K Zl):=λpins s σ H Q I h=>FH pins s σ H Q I (El σ H Q h)
theorem FY {c:S6}(hc:QT X c tt):PTs X [c] (LT X.K tt):=FI hc
theorem qlc {i:G8}{x:Str}{p:Pos}(hc:X.calm=true)(S:BlockOk X scope js)(hi:QI X (.Name x p) iter ti)(hj:i∈js)(hN:X.N.Nodup)(hx:X.N[i]? =some x)(hl:scope.names.lookup x=some .local\/scope.names.lookup x=some .cell)
 (ht: ∀X',ji X scope X'->PTs X' ifs (LT X'.K tt))(he: ∀X',ji X scope X'->QE X' elt te)(hs: ∀x,T8 iter X.env x=pure x:=by intro _;rfl):
 QE X (.ListComp elt [⟨.Name x p,iter,ifs,0⟩] scope pos) (XQ (bN i) js ti tt te):=
 (TJ hc S hi (λX' hX=>by obtain⟨C,s₀,H₀,ex,rfl⟩:=hX;exact yz hN hx hl) (λX' hX=>by have:=ht X' hX;obtain⟨C,s₀,H₀,ex,rfl⟩:=hX;exact this)
  (λX' hX=>by have:=he X' hX;obtain⟨C,s₀,H₀,ex,rfl⟩:=hX;exact this) hs).imp (Em (FV hj))
end
def LSp (K:G3)(spd:RDn):Sp:=λvs H Q _=>LC K spd vs H Q
theorem Ri {spd:RDn}{t:TAD}{E:XK}: ∀σ H Q,LE K (dCB spd t) σ H Q->Fr (LSp K spd) [] E (LA K t) σ H Q:=λσ H Q ⟨σd,h,Qd,rs,rh,t,p⟩=>
 LA.bind rs rh t λds vs h1 H1 k1 rs1 rh1 r1 q=>by rw [V0];exact⟨ds,h1,Qd,r1,rh1,q,jD p k1⟩
section
variable {X:Cx}{k:G8}{f:G5}{fd:R4}{ps:G0 Str}{spd:RDn}{x:Str}{p pos:Pos}{e:S6}{es:G0 S6}{t:TAD}
theorem Hd (F:FnOk X.prog X.w X.K X.mg X.base CX0 k f fd ps (LSp X.K spd))(hr:Room k X.A)(hg:Gl X x)(hm:X.mg x=some (.ref f))(hk:E2 X.K (.ref f)=true)(hb:Binds X.K fd ps [])
 (ha:QA X (e::es) t)(hdb:(x==("__debug__" :Str))=false:=by decide)(he:P5 (e::es) X.env=(false,C8 e X.env)::P5 es X.env:=by rfl)(hpl:(F7 pos (P5 es X.env)).any (·.1)=false:=by rfl):
 QE X (.Call (.Name x p) (e::es) [] pos) (dCB spd t):=(DP F hr hg hm hk hb .nil FA ha hdb he hpl).imp Ri
theorem En {id:B2}{r:RDn}(hc:vF X (.builtin id) r)(hg:Gl X x)(hm:X.mg x=none)(hv:K1 x=some (.builtin id))(ha:QA X (e::es) t)(hn:x≠ "__name__" :=by decide)(hdb:(x==("__debug__" :Str))=false:=by decide)
 (he:P5 (e::es) X.env=(false,C8 e X.env)::P5 es X.env:=by rfl)(hpl:(F7 pos (P5 es X.env)).any (·.1)=false:=by rfl):QE X (.Call (.Name x p) (e::es) [] pos) (dCB r t):=(vt hc hg hm hv ha hn hdb he hpl).imp AW
theorem FZ {T:B2}{r:RDn}(hc:vF X (.type T) r)(hg:Gl X x)(hm:X.mg x=none)(hv:K1 x=some (.type T))(ha:QA X (e::es) t)(hn:x≠ "__name__" :=by decide)(hdb:(x==("__debug__" :Str))=false:=by decide)
 (he:P5 (e::es) X.env=(false,C8 e X.env)::P5 es X.env:=by rfl)(hpl:(F7 pos (P5 es X.env)).any (·.1)=false:=by rfl):QE X (.Call (.Name x p) (e::es) [] pos) (dCB r t):=(Uw hc hg hm hv ha hn hdb he hpl).imp AW
end
def jR (N:G0 Str)(ds:G0 D):SD:=ds.map some++S7 (N.length-ds.length) none
theorem vx {N:G0 Str}{vs:G0 V}(r:RelDs K H ds vs):RelS K H (jR N ds) (start N vs):=by
 have hl:=r.length;refine⟨by unfold jR start;simp [hl],λi d e=> ?_⟩;unfold jR at e;unfold start
 by_cases hi:i<ds.length
 ·rw [L5 (by simpa using hi),D6] at e;cases q:ds[i]? with
  |none=>rw [q] at e;cases e
  |some d'=>
   rw [q] at e;cases e;obtain⟨v,e1,e2⟩:=r.get q;exact⟨v,by rw [L5 (by simpa [<-hl] using hi),D6,e1];rfl,e2⟩
 ·rw [Q7 (by simpa using hi),cU] at e;split at e<;>cases e
def Wy (Q:KD):EndsD:= {nx:=λ_ h=> ∃h',Sub h' h/\Q .non h',rt:=λd h=> ∃h',Sub h' h/\Q d h'}
section
variable {P:D5}{w:T5}{K:G3}{mg:Str->P0 G1}{base:M4}
theorem Fun.okD {x qual:Str}{st:C5}{f:G5}{fd:R4}{N ps:G0 Str}{k:G8}{spd:RDn}(F:Fun K x qual st f fd)(S:FnScope N ps (jb st))(len: ∀ds h Q,spd ds h Q->ds.length=ps.length)
 (tb:TSD)(hbody: ∀ (cdv:G1) (A:R6) (outer:G0 Env) (s:G2) (H:Hp) (E:XK),Room k (A.deeper (E4 qual (jb st) s.heap.objs.size f cdv))->QSs (Yr CX0 P w K mg base N qual (jb st) f cdv A outer s H E).nox (jJ st) tb)
 (read: ∀ds h Q,spd ds h Q->tb (Wy Q) (jR N ds) h):FnOk P w K mg base CX0 (k+1) f fd ps (LSp K spd):=by
 refine F.ok S (λvs H Q E h=> ?_) (λcdv A outer s H vs Q E hr h=> ?_)
 ·obtain⟨ds,h,Qd,r,rh,q,p⟩:=h;rw [<-r.length];exact len _ _ _ q
 ·obtain⟨ds,h,Qd,r,rh,q,p⟩:=h;refine⟨_,hbody cdv A outer s H E hr,jR N ds,h,Wy Qd,vx r,rh,read ds h Qd q,λσd' h' σ' H' k rs' rh' ⟨h2,sb,q'⟩=>p .non .non h2 H' k (rh'.sub sb) rfl q',λd v h' H' k rh' r' ⟨h2,sb,q'⟩=>p d v h2 H' k (rh'.sub sb) r' q',λ_ _ _ _ _ _ _ z=>z.elim,λ_ _ _ _ _ _ _ z=>z.elim⟩
end
section
variable {X:Cx}{iter elt:S6}{te:TED}{ti:TID}{tt:TTD}{pos spos:Pos}{scope:H0}{js:G0 G8}{ifs:G0 S6}
theorem Eo {i k:G8}{x y:Str}{p py:Pos}(hc:X.calm=true)(hN:X.N.Nodup)(hk:X.N[k]? =some y)(hy:Loc X.env.scope y)(S:BlockOk X scope js)(hi:QI X (.Name x p) iter ti)(hj:i∈js)(hx:X.N[i]? =some x)(hl:scope.names.lookup x=some .local\/scope.names.lookup x=some .cell)
 (ht: ∀X',ji X scope X'->PTs X' ifs (LT X'.K tt))(he: ∀X',ji X scope X'->QE X' elt te)
 (hsw:Q4 (.ListComp elt [⟨.Name x p,iter,ifs,0⟩] scope pos) (some (.Name y py)) spos.line X.env=pure true:=by rfl)
 (hf:X.fn y=true\/X.env.scope.names.lookup y=some .local:=by first|exact .inl rfl|exact .inr rfl|assumption)(hs: ∀x,T8 iter X.env x=pure x:=by intro _;rfl):
 QS X (.Assign [.Name y py] (.ListComp elt [⟨.Name x p,iter,ifs,0⟩] scope pos) spos) (XZ k (XQ (bN i) js ti tt te)):=by
 have base:PS X (.Assign [.Name y py] (.ListComp elt [⟨.Name x p,iter,ifs,0⟩] scope pos) spos) (Cf (tLC js (LI X.K ti) (yw i) (LT X.K tt) (LE X.K te)) (yw k)):=
  NB hc S hi (λX' hX=>by obtain⟨C,s₀,H₀,ex,rfl⟩:=hX;exact yz hN hx hl) (λX' hX=>by have:=ht X' hX;obtain⟨C,s₀,H₀,ex,rfl⟩:=hX;exact this)
   (λX' hX=>by have:=he X' hX;obtain⟨C,s₀,H₀,ex,rfl⟩:=hX;exact this) (vQ hN hk hy hf) hsw hs
 exact base.imp λD σ H h=>by
  obtain⟨σd,hd,Qd,rs,rh,t,p⟩:=Rh (K:=X.K) D σ H h;exact Em (FV hj) σ H _ ⟨σd,hd,Qd,rs,rh,t,p⟩
end
def dIn (i':G8)(ti:TID)(tt:TTD)(te:TED)(V:G0 D->HD->Prop)(ys:G0 D):SD->HD->Prop:=λσ h=>ti σ h λj h1=> ∃ (n:G8) (W:G8->G0 D->HD->Prop),W 0 ys h1/\ ∀i ys h',W i ys h'->ys.length<=sizeLine/\
 ∃ds,j h'=some ds/\ds.length<=n/\(ds.length<=i->V ys h')/\
  ∀d,ds[i]? =some d->tt (σ.set i' (some d)) h' λb h3=>if b=true then te (σ.set i' (some d)) h3 λy h4=> ∃h5,Sub h5 h4/\W (i+1) (ys++ [y]) h5 else ∃h5,Sub h5 h3/\W (i+1) ys h5
def NF (bind:D->SD->SD->Prop)(js:G0 G8)(ti:TID)(tt:TTD)(i':G8)(ti':TID)(tt':TTD)(te:TED):TED:=λσ h Q=>ti σ h λj h1=> ∃ (n:G8) (W:G8->G0 D->HD->Prop),W 0 [] h1/\ ∀i ys h',W i ys h'->ys.length<=sizeLine/\
 ∃ds,j h'=some ds/\ds.length<=n/\(ds.length<=i-> ∀p,h' p=none->Q (.lst p) (wc h' p ys))/\
  ∀d,ds[i]? =some d-> ∃σ2,bind d (ze js σ) σ2/\tt σ2 h' λb h3=>if b=true then dIn i' ti' tt' te (λys' h6=> ∃h5,Sub h5 h6/\W (i+1) ys' h5) ys σ2 h3 else ∃h5,Sub h5 h3/\W (i+1) ys h5
def Rj (K:G3)(js:G0 G8)(i':G8)(bind:D->SD->SD->Prop)(g:TG):Prop:= ∀ (σ:St) (σd σd2:SD) (H:Hp) (d:D) (v:V) (Q:St->Hp->Prop),RelS K H (ze js σd) (zB js σ)->RelD K H d v->bind d (ze js σd) σd2->
 (∀σ2,Agree (zB js σ) σ2->(∀u,¬σ2[i']? =some (some u))->RelS K H σd2 σ2->Q σ2 H)->g v (zB js σ) H Q
theorem Cq {i':G8}(hi:i∈js)(hi':i'∈js)(hne:i≠i'):Rj K js i' (bN i) (yw i):=λσ σd σd2 H d v Q rs r b q=>by
 cases (show σd2=_ from b);refine q _ (.set v λu=>zq js σ i u hi) (λu z=> ?_) (rs.set r i);rw [J5 hne] at z;exact zq js σ i' u hi' z
theorem Cr {bind:D->SD->SD->Prop}{i':G8}{ti':TID}{tt tt':TTD}{te:TED}(hb:Rj K js i' bind g): ∀σ H Q,LE K (NF bind js ti tt i' ti' tt' te) σ H Q->Te js (LI K ti) g (LT K tt) (LI K ti') (yw i') (LT K tt') (LE K te) σ H Q:=
 λσ H Q ⟨σd,h,Qd,rs,rh,q,p⟩=>by
  refine⟨σd,h,_,rs,rh,q,λj J h1 H1 k1 rh1 jo ⟨n,W,w0,turn⟩=> ?_⟩;refine⟨λi m ys H'=>m=n-i/\Kept H1 H'/\ ∃ds h',RelDs K H' ds ys/\RelH K h' H'/\W i ds h',⟨n-0,rfl,.refl _,[],h1,rfl,rh1,w0⟩,?_⟩;rintro i m ys H' ⟨rfl,kp,yd,h',ry,rh',w⟩;obtain⟨hz,ds,ej,hn,stop,go⟩:=turn i yd h' w;refine⟨by rw [<-ry.length];exact hz,?_⟩;have jo':=jo H' h' kp rh' ds ej i;have kk:Kept H H':=k1.trans kp
  by_cases hi:i<ds.length
  ·obtain⟨g1,y1⟩:=jo'.1 ds[i] (P8 hi);refine .inr ⟨g1,λx H'' y=> ?_⟩;obtain⟨k2,rh2,r2⟩:=y1 x H'' y;obtain⟨σd2,bd,q2⟩:=go ds[i] (P8 hi);refine hb σ σd σd2 H'' ds[i] x _ (((rs.mono (kk.trans k2))).clear js) r2 bd λσ2 ag un rs2=>⟨ag,?_⟩
   refine LT.bind rs2 rh2 q2 λb h3 H3 k3 rs3 rh3 q3=> ?_
   cases b with
   |true=>
    rw [R1 rfl] at q3 ⊢
    -- the second clause
    refine⟨σd2,h3,_,rs3,rh3,q3,λj2 J2 h4 H4 k4 rh4 jo2 ⟨n2,W2,w20,turn2⟩=> ?_⟩;refine⟨λi2 m2 ys2 H5=>m2=n2-i2/\Kept H4 H5/\ ∃ds h5,RelDs K H5 ds ys2/\RelH K h5 H5/\W2 i2 ds h5,⟨n2-0,rfl,.refl _,yd,h4,ry.mono (k2.trans (k3.trans k4)),rh4,w20⟩,?_⟩;rintro i2 m2 ys2 H5 ⟨rfl,kp5,yd5,h5,ry5,rh5,w5⟩;obtain⟨hz5,ds5,ej5,hn5,stop5,go5⟩:=turn2 i2 yd5 h5 w5;refine⟨by rw [<-ry5.length];exact hz5,?_⟩;have jo5:=jo2 H5 h5 kp5 rh5 ds5 ej5 i2;have kk5:Kept H1 H5:=kp.trans (k2.trans (k3.trans (k4.trans kp5)))
    by_cases hi5:i2<ds5.length
    ·obtain⟨g5,y5⟩:=jo5.1 ds5[i2] (P8 hi5);refine .inr ⟨g5,λx6 H6 yy6=> ?_⟩;obtain⟨k6,rh6,r6⟩:=y5 x6 H6 yy6;refine⟨.set x6 un,?_⟩;have rs6:=(rs3.mono (k4.trans (kp5.trans k6))).set r6 i';refine LT.bind rs6 rh6 (go5 ds5[i2] (P8 hi5)) λb h7 H7 k7 rs7 rh7 q7=> ?_
     cases b with
     |true=>
      rw [R1 rfl] at q7 ⊢;exact LE.bind rs7 rh7 q7 λd8 v8 h8 H8 k8 rs8 rh8 r8 ⟨h9,sb,w9⟩=>⟨n2-(i2+1),by omega,rfl,kp5.trans (k6.trans (k7.trans k8)),yd5++ [d8],h9,(ry5.mono (k6.trans (k7.trans k8))).append (.cons r8 .nil),rh8.sub sb,w9⟩
     |false=>
      rw [R3 D8] at q7 ⊢;obtain⟨h9,sb,w9⟩:=q7;exact⟨n2-(i2+1),by omega,rfl,kp5.trans (k6.trans k7),yd5,h9,ry5.mono (k6.trans k7),rh7.sub sb,w9⟩
    ·obtain⟨h9,sb,w9⟩:=stop5 (U0.mp hi5);exact .inl ⟨jo5.2 (U0.mp hi5),n-(i+1),by omega,rfl,kk5,yd5,h9,ry5,rh5.sub sb,w9⟩
   |false=>
    rw [R3 D8] at q3 ⊢;obtain⟨h5,sb,w5⟩:=q3;exact⟨n-(i+1),by omega,rfl,kp.trans (k2.trans k3),yd,h5,ry.mono (k2.trans k3),rh3.sub sb,w5⟩
  ·refine .inl ⟨jo'.2 (U0.mp hi),λa ha=>p (.lst a) (.ref a) _ _ (kk.trans (.new ha)) (rh'.newL ha ry) ⟨rfl,ys,je⟩ (stop (U0.mp hi) a (rh'.free ha))⟩
section
variable {X:Cx}{iter iter' elt:S6}{te:TED}{ti ti':TID}{tt tt':TTD}{pos:Pos}{scope:H0}{js:G0 G8}{ifs ifs':G0 S6}
theorem kX {i i':G8}{x y:Str}{p py:Pos}(hc:X.calm=true)(S:BlockOk X scope js)(hi:QI X (.Name x p) iter ti)(hj:i∈js)(hj':i'∈js)(hne:i≠i')(hN:X.N.Nodup)(hx:X.N[i]? =some x)(hy:X.N[i']? =some y)
 (hl:scope.names.lookup x=some .local\/scope.names.lookup x=some .cell)(hl':scope.names.lookup y=some .local\/scope.names.lookup y=some .cell)
 (ht: ∀X',ji X scope X'->PTs X' ifs (LT X'.K tt))(hi': ∀X',ji X scope X'->QI X' (.Name y py) iter' ti')(ht': ∀X',ji X scope X'->PTs X' ifs' (LT X'.K tt'))(he: ∀X',ji X scope X'->QE X' elt te)
 (hs: ∀x,T8 iter X.env x=pure x:=by intro _;rfl)(hs': ∀env x,T8 iter' env x=pure x:=by intro _ _;rfl):
 QE X (.ListComp elt [⟨.Name x p,iter,ifs,0⟩,⟨.Name y py,iter',ifs',0⟩] scope pos) (NF (bN i) js ti tt i' ti' tt' te):=
 (show PE X _ (Te js (LI X.K ti) (yw i) (LT X.K tt) (LI X.K ti') (yw i') (LT X.K tt') (LE X.K te)) from AQ hc S hi (λX' hX=>by obtain⟨C,s₀,H₀,ex,rfl⟩:=hX;exact yz hN hx hl) (λX' hX=>by have:=ht X' hX;obtain⟨C,s₀,H₀,ex,rfl⟩:=hX;exact this) (λX' hX=>by have:=hi' X' hX;obtain⟨C,s₀,H₀,ex,rfl⟩:=hX;exact this)
  (λX' hX=>by obtain⟨C,s₀,H₀,ex,rfl⟩:=hX;exact yz hN hy hl') (λX' hX=>by have:=ht' X' hX;obtain⟨C,s₀,H₀,ex,rfl⟩:=hX;exact this)
  (λX' hX=>by have:=he X' hX;obtain⟨C,s₀,H₀,ex,rfl⟩:=hX;exact this) hs hs').imp (Cr (Cq hj hj' hne))
end
def He:RD2:=λx y h Q=>match x,y with
 | .int i,.int j=>Q (.int (i+j)) h
 | .tup a,.tup b=>a.length+b.length<=sizeLine/\Q (.tup (a++b)) h
 | .lst a,.lst b=> ∃xs ys,h a=some xs/\h b=some ys/\xs.length+ys.length<=sizeLine/\ ∀p,h p=none->Q (.lst p) (wc h p (xs++ys))
 |_,_=>False
def Kw:RD2:=λx y h Q=>match x,y with
 | .int i,.int j=>Q (.int (i-j)) h
 |_,_=>False
def Kx:RD2:=λx y h Q=>match x,y with
 | .int i,.int j=>CMul i j/\Q (.int (i*j)) h
 | .lst a,.int k=> ∃xs,h a=some xs/\ -(2^63)<=k/\k<2^63/\xs.length*k.toNat<=sizeLine/\ ∀p,h p=none->Q (.lst p) (wc h p (S7 k.toNat xs).flatten)
 |_,_=>False
def kY:RD2:=λx y h Q=>match x,y with
 | .int i,.int j=>0<j/\Q (.int (i%j)) h
 |_,_=>False
def Hf:RD2:=λx y h Q=>match x,y with
 | .int i,.int j=>Km i j/\Q (.int (i / j)) h
 |_,_=>False
def Tg:RD2:=λx y h Q=>match x,y with
 | .int i,.int j=>Kn i j/\Q (.int (i^j.toNat)) h
 |_,_=>False
def NG (p:P2->P2->N0):RD2:=λx y h Q=>match x,y with
 | .int i,.int j=>Q (.bl (p i j)) h
 |_,_=>False
def eqD:RD2:=λx y h Q=>match x,y with
 | .int i,.int j=>Q (.bl (decide (i=j))) h
 | .bl i,.bl j=>Q (.bl (decide (i=j))) h
 | .str i,.str j=>Q (.bl (decide (i=j))) h
 |_,_=>False
def neD:RD2:=λx y h Q=>match x,y with
 | .int i,.int j=>Q (.bl (!decide (i=j))) h
 | .bl i,.bl j=>Q (.bl (!decide (i=j))) h
 | .str i,.str j=>Q (.bl (!decide (i=j))) h
 |_,_=>False
section
variable {X:Cx}
theorem Vp {f:G1->G1->Sem G1}{C:P2->P2->Prop}{g:P2->P2->V}{gd:P2->P2->D}{r:RD2}(ho:OpR X f (rI C g))(hg: ∀i j H,RelD X.K H (gd i j) (g i j))
 (hr: ∀x y h Q,r x y h Q-> ∃i j,x= .int i/\y= .int j/\C i j/\Q (gd i j) h):OpQ X f r:=ho.imp λx y H Q ⟨dx,dy,h,Qd,rx,ry,rh,q,p⟩=>by
 obtain⟨i,j,e1,e2,c,q'⟩:=hr dx dy h Qd q;subst e1 e2;exact⟨i,j,rx,ry,c,p _ _ _ _ (.refl H) rh (hg i j H) q'⟩
theorem Ju {f:G1->G1->Sem G1}{g:P2->P2->V}{gd:P2->P2->D}{r:RD2}(ho:OpR X f (rI0 g))(hg: ∀i j H,RelD X.K H (gd i j) (g i j))
 (hr: ∀x y h Q,r x y h Q-> ∃i j,x= .int i/\y= .int j/\Q (gd i j) h):OpQ X f r:=ho.imp λx y H Q ⟨dx,dy,h,Qd,rx,ry,rh,q,p⟩=>by
 obtain⟨i,j,e1,e2,q'⟩:=hr dx dy h Qd q;subst e1 e2;exact⟨i,j,rx,ry,p _ _ _ _ (.refl H) rh (hg i j H) q'⟩
theorem YQ:OpQ X (J6 .Sub) Kw:=Ju (gd:=λi j=> .int (i-j)) Av (λ_ _ _=>rfl) λx y h Q q=>by
 cases x<;>first|exact False.elim q|(cases y<;>first|exact False.elim q|exact⟨_,_,rfl,rfl,q⟩)
theorem Wz:OpQ X (J6 .Mod) kY:=Vp (gd:=λi j=> .int (i%j)) Aw (λ_ _ _=>rfl) λx y h Q q=>by
 cases x<;>first|exact False.elim q|(cases y<;>first|exact False.elim q|exact⟨_,_,rfl,rfl,q.1,q.2⟩)
theorem La:OpQ X (J6 .FloorDiv) Hf:=Vp (gd:=λi j=> .int (i / j)) Fl (λ_ _ _=>rfl) λx y h Q q=>by
 cases x<;>first|exact False.elim q|(cases y<;>first|exact False.elim q|exact⟨_,_,rfl,rfl,q.1,q.2⟩)
theorem UE:OpQ X (J6 .Pow) Tg:=Vp (gd:=λi j=> .int (i^j.toNat)) Ax (λ_ _ _=>rfl) λx y h Q q=>by
 cases x<;>first|exact False.elim q|(cases y<;>first|exact False.elim q|exact⟨_,_,rfl,rfl,q.1,q.2⟩)
theorem Vq {p:P2->P2->N0}: ∀x y h Q,NG p x y h Q-> ∃i j,x= .int i/\y= .int j/\Q (.bl (p i j)) h:=λx y h Q q=>by
 cases x<;>first|exact False.elim q|(cases y<;>first|exact False.elim q|exact⟨_,_,rfl,rfl,q⟩)
theorem Lb:OpQ X (N3 .Lt) (NG λi j=>decide (i<j)):=Ju (gd:=λi j=> .bl (decide (i<j))) Ts (λ_ _ _=>rfl) Vq
theorem Pi:OpQ X (N3 .LtE) (NG λi j=>decide (i<=j)):=Ju (gd:=λi j=> .bl (decide (i<=j))) Tt (λ_ _ _=>rfl) Vq
theorem Lc:OpQ X (N3 .Gt) (NG λi j=>decide (j<i)):=Ju (gd:=λi j=> .bl (decide (j<i))) Tu (λ_ _ _=>rfl) Vq
theorem NH:OpQ X (N3 .GtE) (NG λi j=>decide (j<=i)):=Ju (gd:=λi j=> .bl (decide (j<=i))) Tv (λ_ _ _=>rfl) Vq
theorem OR {α:Type}[DecidableEq α]{f:α->V}(hf: ∀a b,f a=f b->a=b)(a b:α):decide (f a=f b)=decide (a=b):=by
 by_cases h:a=b
 ·subst h;simp
 ·rw [T3 h,T3 (λe=>h (hf a b e))]
theorem oq_eq:OpQ X (N3 .Eq) eqD:=op_eq.imp λx y H Q ⟨dx,dy,h,Qd,rx,ry,rh,q,p⟩=>by
 cases dx<;>first|exact False.elim q|(cases dy<;>first|exact False.elim q|skip)
 all_goals first
  |(cases (show x= .int _ from rx);cases (show y= .int _ from ry);refine⟨rfl,p _ _ _ _ (.refl H) rh ?_ q⟩;rw [OR (f:=V.int) (λa b e=>by cases e;rfl)];rfl)
  |(cases (show x= .bl _ from rx);cases (show y= .bl _ from ry);refine⟨rfl,p _ _ _ _ (.refl H) rh ?_ q⟩;rw [OR (f:=V.bl) (λa b e=>by cases e;rfl)];rfl)
  |(cases (show x= .str _ from rx);cases (show y= .str _ from ry);refine⟨rfl,p _ _ _ _ (.refl H) rh ?_ q⟩;rw [OR (f:=V.str) (λa b e=>by cases e;rfl)];rfl)
theorem oq_ne:OpQ X (N3 .NotEq) neD:=op_ne.imp λx y H Q ⟨dx,dy,h,Qd,rx,ry,rh,q,p⟩=>by
 cases dx<;>first|exact False.elim q|(cases dy<;>first|exact False.elim q|skip)
 all_goals first
  |(cases (show x= .int _ from rx);cases (show y= .int _ from ry);refine⟨rfl,p _ _ _ _ (.refl H) rh ?_ q⟩;rw [OR (f:=V.int) (λa b e=>by cases e;rfl)];rfl)
  |(cases (show x= .bl _ from rx);cases (show y= .bl _ from ry);refine⟨rfl,p _ _ _ _ (.refl H) rh ?_ q⟩;rw [OR (f:=V.bl) (λa b e=>by cases e;rfl)];rfl)
  |(cases (show x= .str _ from rx);cases (show y= .str _ from ry);refine⟨rfl,p _ _ _ _ (.refl H) rh ?_ q⟩;rw [OR (f:=V.str) (λa b e=>by cases e;rfl)];rfl)
def Ep (K:G3):R2:=λx y H Q=> ∃a b xs ys,x= .ref a/\y= .ref b/\SqT K H a xs/\SqT K H b ys/\xs= []/\Q (.ref b) H
theorem op_catT0:OpR X (J6 .Add) (Ep X.K):=by
 intro pins s σ H x y v u Q I rx ry h;obtain⟨a,b,xs,ys,rfl,rfl,ha,hb,hx,q⟩:=h;cases rx;cases ry;obtain⟨its,r1,p1,_⟩:=I.tuple ha;obtain⟨its2,r2,p2,_⟩:=I.tuple hb;have hv:its= []:=r1.nil_iff.mpr hx;obtain⟨⟨cls,dd,data,sl⟩,ho,hc,n,hd⟩:=id p1;obtain⟨⟨cls2,dd2,G0e,sl2⟩,ho2,hc2,n2,hd2⟩:=id p2;simp only at hc hd hc2 hd2;subst hc hd hc2 hd2;exact oY ⟨_,ho,rfl⟩ ⟨_,ho2,rfl⟩ iV nJ dF cV (cH _ _)
  (tuple_addW0 a b its.toArray its2.toArray n n2 dd dd2 sl sl2 (by simp [hv])) ⟨ho,ho2,.ref b,H,I,rfl,q⟩
theorem jE:OpQ X (J6 .Add) He:=(op_add.or (op_catT.or (op_catT0.or AH))).imp λx y H Q ⟨dx,dy,h,Qd,rx,ry,rh,q,p⟩=>by
 cases dx<;>first|exact False.elim q|(cases dy<;>first|exact False.elim q|skip)
 ·exact .inl ⟨_,_,rx,ry,p (.int _) _ _ _ (.refl H) rh rfl q⟩
 ·rename_i ds es;obtain⟨a,vs,e1,h1,r1⟩:=(show ∃a vs,x= .ref a/\H a=some (.tup vs)/\RelDs X.K H ds vs from rx);obtain⟨b,us,e2,h2,r2⟩:=(show ∃a vs,y= .ref a/\H a=some (.tup vs)/\RelDs X.K H es vs from ry);subst e1 e2;obtain⟨hz,q⟩:=q
  by_cases hv:vs= []
  ·subst hv;have e:ds= []:=cZ.mp r1.length;subst e;exact .inr (.inr (.inl ⟨a,b,[],us,rfl,rfl,SqT.of h1,SqT.of h2,rfl,p (.tup es) _ _ _ (.refl H) rh ⟨b,us,rfl,h2,r2⟩ q⟩))
  ·refine .inr (.inl ⟨a,b,vs,us,rfl,rfl,SqT.of h1,SqT.of h2,hv,by rw [<-r1.length,<-r2.length];exact hz,λe=> ?_,λ_ c hc=> ?_⟩)
   ·subst e;have e:es= []:=cZ.mp r2.length;subst e;rw [V0] at q;exact p (.tup ds) _ _ _ (.refl H) rh ⟨a,vs,rfl,h1,r1⟩ q
   ·exact p (.tup (ds++es)) _ _ _ (.new hc) (rh.new hc) ⟨c,vs++us,rfl,je,(r1.append r2).mono (.new hc)⟩ q
 ·rename_i a b;obtain⟨xs,ys,h1,h2,hz,q⟩:=q;obtain⟨vs,e1,r1⟩:=rh a xs h1;obtain⟨us,e2,r2⟩:=rh b ys h2;refine .inr (.inr (.inr ⟨a,b,vs,us,rx.1,ry.1,e1,e2,by rw [<-r1.length,<-r2.length];exact hz,λc hc=> ?_⟩));exact p (.lst c) _ _ _ (.new hc) (rh.newL hc (r1.append r2)) ⟨rfl,_,je⟩ (q c (rh.free hc))
theorem RelDs.flat {K:G3}{H:Hp}{ds:G0 D}{vs:G0 V}(r:RelDs K H ds vs): ∀k:G8,RelDs K H (S7 k ds).flatten (S7 k vs).flatten
 |0=>by simp;exact .nil
 |k+1=>by rw [U7,U7,Z7,Z7];exact r.append (RelDs.flat r k)
theorem oq_mul:OpQ X (J6 .Mult) Kx:=(op_mul.or AI).imp λx y H Q ⟨dx,dy,h,Qd,rx,ry,rh,q,p⟩=>by
 cases dx<;>first|exact False.elim q|(cases dy<;>first|exact False.elim q|skip)
 ·exact .inl ⟨_,_,rx,ry,q.1,p (.int _) _ _ _ (.refl H) rh rfl q.2⟩
 ·obtain⟨xs,h1,b1,b2,hz,q⟩:=q;obtain⟨vs,e1,r1⟩:=rh _ xs h1;refine .inr ⟨_,_,vs,rx.1,ry,e1,b1,b2,by rw [<-r1.length];exact hz,λc hc=> ?_⟩;exact p (.lst c) _ _ _ (.new hc) (rh.newL hc (r1.flat _)) ⟨rfl,_,je⟩ (q c (rh.free hc))
end
def ixD:RD2:=λx y h Q=>match x,y with
 | .tup ds,.int i=> ∃d,atI ds i=some d/\Q d h
 | .lst a,.int i=> ∃ds d,h a=some ds/\atI ds i=some d/\Q d h
 | .scr ns,.int i=> ∃n,atI ns i=some n/\Q (.int n) h
 |_,_=>False
theorem Rk {vs:G0 V}(r:RelDs K H ds vs){i:P2}{d:D}(e:atI ds i=some d): ∃v,atI vs i=some v/\RelD K H d v:=by
 unfold atI at e ⊢;rw [<-r.length];cases q:ixN ds.length i with
 |none=>rw [q] at e;cases e
 |some j=>rw [q] at e;exact r.get e
theorem Ld {β:Type}(f:α->β){xs:G0 α}{i:P2}{x:α}(e:atI xs i=some x):atI (xs.map f) i=some (f x):=by
 unfold atI at e ⊢;rw [G9];cases q:ixN xs.length i with
 |none=>rw [q] at e;cases e
 |some j=>
  rw [q] at e;show (xs.map f)[j]? =_;rw [D6,(show xs[j]? =some x from e)];rfl
section
variable {X:Cx}{a b e:S6}{ta tb te:TED}{pos p2:Pos}
theorem Hg: ∀σ H Q,LE X.K (dOp ixD ta tb) σ H Q->tOp (rIx X.K) (LE X.K ta) (LE X.K tb) σ H Q:=λσ H Q ⟨σd,h,Qd,rs,rh,t,p⟩=>
 LE.bind rs rh t λdx x h1 H1 k1 rs1 rh1 r1 t1=>LE.bind rs1 rh1 t1 λdy y h2 H2 k2 rs2 rh2 ry q=>by
  have rx:=r1.mono k2;have kk:=k1.trans k2;cases dx<;>first|exact False.elim q|(cases dy<;>first|exact False.elim q|skip)
  ·rename_i ds i;obtain⟨d,e,q⟩:=q;obtain⟨a,vs,e1,hH,r⟩:=(show ∃a vs,x= .ref a/\H2 a=some (.tup vs)/\RelDs X.K H2 ds vs from rx);obtain⟨v,e2,rv⟩:=Rk r e;exact .inr (.inl ⟨a,vs,i,v,e1,ry,SqT.of hH,e2,p _ _ _ _ kk rh2 rv q⟩)
  ·rename_i a i;obtain⟨ds,d,hd,e,q⟩:=q;obtain⟨vs,hH,r⟩:=rh2 a ds hd;obtain⟨v,e2,rv⟩:=Rk r e;exact .inl ⟨a,vs,i,v,rx.1,ry,SqL.of hH,e2,p _ _ _ _ kk rh2 rv q⟩
  ·rename_i ns i;obtain⟨n,e,q⟩:=q;obtain⟨a,e1,hS⟩:=(show ∃a,x= .ref a/\Scr X.K H2 a ns from rx);exact .inl ⟨a,_,i,.int n,e1,ry,hS.sq,Ld V.int e,p (.int n) _ _ _ kk rh2 rfl q⟩
theorem qix (ha:QE X a ta)(hb:QE X b tb)(hs:Vh b):QE X (.Subscript a b pos) (dOp ixD ta tb):=(Tz AF ha hb hs).imp Hg
end
def NI:RDn:=λds h Q=>match ds with
 | [.tup xs]=>Q (.int xs.length) h
 | [.lst a]=> ∃xs,h a=some xs/\Q (.int xs.length) h
 | [.scr ns]=>Q (.int ns.length) h
 |_=>False
def Hh:RDn:=λds h Q=>match ds with
 | [.int i]=>Q (.int i) h
 | [.bl k]=>Q (.int (if k then 1 else 0)) h
 |_=>False
def Hi:RDn:=λds h Q=>match ds with
 | [.int i,.int j]=>Q (.int (if j>i then j else i)) h
 |_=>False
def Cs:RDn:=λds h Q=>match ds with
 | [.tup xs]=>Q (.tup xs) h
 | [.lst a]=> ∃xs,h a=some xs/\Q (.tup xs) h
 |_=>False
def Gj:RDn:=λds h Q=>match ds with
 | [.lst a]=> ∃xs,h a=some xs/\Q (.tup xs) (Vm h a)
 |_=>False
def Eq:RDn:=λds h Q=>match ds with
 | [.tup xs]=> ∀p,h p=none->Q (.lst p) (wc h p xs)
 | [.lst a]=> ∃xs,h a=some xs/\ ∀p,h p=none->Q (.lst p) (wc h p xs)
 |_=>False
section
variable {X:Cx}
theorem Er:vF X (.builtin "len") NI:=call_len_seq.imp λxs H Q ⟨ds,h,Qd,r,rh,q,p⟩=>by
 unfold NI at q;split at q
 ·rename_i es;obtain⟨v,e,r1⟩:=jA r;obtain⟨a,vs,e1,hH,r2⟩:=(show ∃a vs,v= .ref a/\H a=some (.tup vs)/\RelDs X.K H es vs from r1);subst e e1;exact⟨a,vs,rfl,.inr (SqT.of hH),by rw [<-r2.length];exact p (.int _) _ _ _ (.refl H) rh rfl q⟩
 ·rename_i a;obtain⟨es,hd,q⟩:=q;obtain⟨v,e,r1⟩:=jA r;obtain⟨vs,hH,r2⟩:=rh a es hd;have e1:v= .ref a:=r1.1;subst e e1;exact⟨a,vs,rfl,.inl (SqL.of hH),by rw [<-r2.length];exact p (.int _) _ _ _ (.refl H) rh rfl q⟩
 ·rename_i ns;obtain⟨v,e,r1⟩:=jA r;obtain⟨a,e1,hS⟩:=(show ∃a,v= .ref a/\Scr X.K H a ns from r1);subst e e1;exact⟨a,_,rfl,.inl hS.sq,by rw [G9];exact p (.int _) _ _ _ (.refl H) rh rfl q⟩
 ·exact q.elim
theorem Rl:vF X (.type "int") Hh:=call_int1.imp λxs H Q ⟨ds,h,Qd,r,rh,q,p⟩=>by
 unfold Hh at q;split at q
 ·rename_i i;obtain⟨v,e,r1⟩:=jA r;cases (show v= .int i from r1);exact .inl ⟨i,e,p (.int i) _ _ _ (.refl H) rh rfl q⟩
 ·rename_i k;obtain⟨v,e,r1⟩:=jA r;cases (show v= .bl k from r1);exact .inr ⟨k,e,p (.int _) _ _ _ (.refl H) rh rfl q⟩
 ·exact q.elim
theorem Es (hc:X.calm=true):vF X (.builtin "max") Hi:=(DL hc).imp λxs H Q ⟨ds,h,Qd,r,rh,q,p⟩=>by
 unfold Hi at q;split at q
 ·rename_i i j;obtain⟨v,w,e,r1,r2⟩:=Wx r;cases (show v= .int i from r1);cases (show w= .int j from r2);exact⟨i,j,e,p (.int _) _ _ _ (.refl H) rh rfl q⟩
 ·exact q.elim
theorem cq_tuple:vF X (.type "tuple") Cs:=call_tuple_of.imp λxs H Q ⟨ds,h,Qd,r,rh,q,p⟩=>by
 unfold Cs at q;split at q
 ·rename_i es;obtain⟨v,e,r1⟩:=jA r;obtain⟨a,vs,e1,hH,r2⟩:=(show ∃a vs,v= .ref a/\H a=some (.tup vs)/\RelDs X.K H es vs from r1);subst e e1;exact⟨a,vs,rfl,.inr ⟨SqT.of hH,p (.tup es) _ _ _ (.refl H) rh ⟨a,vs,rfl,hH,r2⟩ q⟩⟩
 ·rename_i a;obtain⟨es,hd,q⟩:=q;obtain⟨v,e,r1⟩:=jA r;obtain⟨vs,hH,r2⟩:=rh a es hd;have e1:v= .ref a:=r1.1;subst e e1;exact⟨a,vs,rfl,.inl ⟨SqL.of hH,λc hc=>p (.tup es) _ _ _ (.new hc) (rh.new hc) ⟨c,vs,rfl,je,r2.mono (.new hc)⟩ q⟩⟩
 ·exact q.elim
theorem wb:vF X (.type "tuple") Gj:=cq_tuple.imp λxs H Q ⟨ds,h,Qd,r,rh,q,p⟩=>by
 unfold Gj at q;split at q
 ·rename_i a;obtain⟨es,hd,q⟩:=q;exact⟨[.lst a],h,λd h'=>Qd d (Vm h' a),r,rh,⟨es,hd,q⟩,λd v h' H' k rh' rd q'=>p d v _ H' k (rh'.sub (Sub.drop h' a)) rd q'⟩
 ·exact q.elim
theorem Rm:vF X (.type "list") Eq:=call_list_of.imp λxs H Q ⟨ds,h,Qd,r,rh,q,p⟩=>by
 unfold Eq at q;split at q
 ·rename_i es;obtain⟨v,e,r1⟩:=jA r;obtain⟨a,vs,e1,hH,r2⟩:=(show ∃a vs,v= .ref a/\H a=some (.tup vs)/\RelDs X.K H es vs from r1);subst e e1;exact⟨a,vs,rfl,.inr (SqT.of hH),λc hc=>p (.lst c) _ _ _ (.new hc) (rh.newL hc r2) ⟨rfl,_,je⟩ (q c (rh.free hc))⟩
 ·rename_i a;obtain⟨es,hd,q⟩:=q;obtain⟨v,e,r1⟩:=jA r;obtain⟨vs,hH,r2⟩:=rh a es hd;have e1:v= .ref a:=r1.1;subst e e1;exact⟨a,vs,rfl,.inl (SqL.of hH),λc hc=>p (.lst c) _ _ _ (.new hc) (rh.newL hc r2) ⟨rfl,_,je⟩ (q c (rh.free hc))⟩
 ·exact q.elim
end
def UF:D->P0 B2
 | .non=>some "NoneType" | .bl _=>some "bool" | .int _=>some "int" | .str _=>some "str" | .tup _=>some "tuple" | .lst _=>some "list" | .dic _ _=>some "dict" | .dct _=>none| .scr _=>none| .exc _=>none| .fn _=>none| .exf _ _=>none
def Le (T:B2)(n:B2):N0:=n==T||(T== "int" &&n== "bool")
theorem NJ {d:D}{v:V}{n:B2}(r:RelD K H d v)(e:UF d=some n):TyOf K H v (.type n):=by
 cases d with
 |non=>cases (show v= .non from r);cases e;exact .non
 |bl b=>cases (show v= .bl b from r);cases e;exact .bl b
 |int i=>cases (show v= .int i from r);cases e;exact .int i
 |str x=>cases (show v= .str x from r);cases e;exact .str x
 |tup ds=>
  obtain⟨a,vs,e1,hH,_⟩:=(show ∃a vs,v= .ref a/\H a=some (.tup vs)/\RelDs K H ds vs from r);subst e1;cases e;exact .tup hH
 |lst a=>
  obtain⟨e1,vs,hH⟩:=(show v= .ref a/\ ∃vs,H a=some (.lst vs) from r);subst e1;cases e;exact .lst hH
 |dic x i=>
  obtain⟨a,e1,hH⟩:=(show ∃a,v= .ref a/\H a=some (.dK [(aX x,V.int i)]) from r);subst e1;cases e;exact .dK hH
 |dct a=>cases e
 |scr ns=>cases e
 |exc C=>cases e
 |fn a=>cases e
 |exf C fs=>cases e
def Lf:G0 B2:= ["NoneType","bool","int","str","tuple","list","dict"]
theorem Pj {d:D}{n:B2}(e:UF d=some n):n∈Lf:=by
 cases d<;>cases e<;>decide
def Hj (K:G3):Prop:= ∀n∈Lf,∀T∈ ["tuple","int","bool","list","str"],gA K (.type n) (.type T)=some (Le T n)
theorem Lg (K:G3):Hj K:=by
 intro n hn T hT;simp only [Lf,P9,N6,or_false] at hn hT;rcases hn with rfl|rfl|rfl|rfl|rfl|rfl|rfl<;>rcases hT with rfl|rfl|rfl|rfl|rfl<;>with_unfolding_all rfl
theorem Rn (T:B2):CallR X (.builtin "isinstance") (λxs H Q=> ∃x t b,xs= [x,.ty T]/\TyOf X.K H x t/\gA X.K t (.type T)=some b/\Q (.bl b) H):=by
 intro pins s σ H xs us Q I r h;obtain⟨x,t,b,rfl,ty,e,q⟩:=h;obtain⟨u,w',rfl,rx,rt⟩:=DK r;cases (show w'=nY T from rt);exact DO I rx ty e λtk=>⟨.bl b,H,I.tok tk,rfl,q⟩
def dIs (T:B2)(ta:TED):TED:=λσ h Q=>ta σ h λx h1=> ∃n,UF x=some n/\Q (.bl (Le T n)) h1
theorem Hk {a:S6}{ta:TED}{T:B2}{t:Str}{p p2:Pos}(hT:T∈ ["tuple","int","bool","list","str"])(hg:Gl X "isinstance")(hm:X.mg "isinstance" =none)(hg2:Gl X t)(hm2:X.mg t=none)(hv:K1 t=some (.type T))(ha:QE X a ta)
 (hn:t≠ "__name__" :=by decide)(hd:(t==("__debug__" :Str))=false:=by decide)
 (h1:P5 [a,.Name t p2] X.env=(false,C8 a X.env)::P5 [.Name t p2] X.env:=by rfl)(h2:(F7 pos (P5 [.Name t p2] X.env)).any (·.1)=false:=by rfl):
 QE X (.Call (.Name "isinstance" p) [a,.Name t p2] [] pos) (dIs T ta):=
 (vt (Rn T) hg hm aV (zS ha (zS (DB (v:= .ty T) hg2 hm2 hv rfl hn hd) pa_nil (by rfl)) h1) (by decide) (by decide) h1 h2).imp
  λσ H Q ⟨σd,h,Qd,rs,rh,t,p⟩=>LE.bind rs rh t λd v h1 H1 k1 rs1 rh1 r1 ⟨n,e,q⟩=>⟨v,.type n,Le T n,rfl,NJ r1 e,Lg _ n (Pj e) T hT,p (.bl _) _ _ _ k1 rh1 rfl q⟩
theorem Ro (bs:G0 N0):(P7 bs.length).all (λi=>bs.getD i false)=bs.all id:=by
 induction bs with
 |nil=>rfl
 |cons b bs ih=>
  rw [D4,lH,tG,aO,tG];show (b&&_)=(b&&bs.all id);rw [<-ih];rfl
theorem Rp {bs:G0 N0}{its:G0 G1}(r:Vals (bs.map V.bl) its){i:G8}{v:G1}(e:its[i]? =some v):v= .bool (bs.getD i false):=by
 have hl:=r.length;rw [G9] at hl;have hi:i<its.length:=(R0.mp e).1;have hb:(bs.map V.bl)[i]? =some (.bl bs[i]):=by rw [D6,P8 (by omega)];rfl
 obtain⟨u,e1,r1⟩:=r.get hb;rw [e] at e1;cases e1;rw [S3,P8 (by omega)];exact r1
section
variable {X:Cx}
theorem Vr (hc:X.calm=true):CallR X (.builtin "all") (λxs H Q=> ∃ (a:G5) (bs:G0 N0),xs= [.ref a]/\SqL X.K H a (bs.map V.bl)/\Q (.bl (bs.all id)) H):=by
 intro pins s σ H xs us Q I r h;obtain⟨a,bs,rfl,hS,q⟩:=h;obtain⟨u,rfl,ru⟩:=vD r;cases ru;obtain⟨its,rv,pl,hz⟩:=I.list hS;have hl:=pl.isList;have hlt:a<s.heap.objs.size:=by obtain⟨_,e,_⟩:=hl;exact D0 e
 refine call_all_walk (aY hl ?_);refine⟨s.heap.objs.size,_,_,_,_,_,λi=>bs.getD i false,rfl,Walks.list (A:=X.A.in1) (show X.A.in1.handled=none from I.ok.hd hc) s.heap.objs.size a (R5 hlt) its.toArray,⟨⟨_,S4 _ rfl,rfl,rfl⟩,hl.push _⟩,?_,λh' tk hk=> ?_⟩
 ·intro i v s' Q' E' hP hQ;have e:its[i]? =some v:=by simpa using hP
  rw [Rp rv e];exact E7 hQ
 ·have hn:its.toArray.size=bs.length:=by rw [R9,<-rv.length,G9]
  rw [hn,Ro];exact⟨.bl _,H,I.kept (t':=tk) (λb o e=>hk b o (λz=>by rw [P4.mp z] at e;exact absurd (D0 e) (N8 _)) (G4 _ e)),rfl,q⟩
theorem WA {K:G3}{H:Hp}: ∀ {bs:G0 N0} {vs:G0 V},RelDs K H (bs.map D.bl) vs->vs=bs.map V.bl
 | [],_,h=>h
 |b::bs,vs,h=>by
  obtain⟨v,r,e,h1,h2⟩:=(show ∃v r,vs=v::r/\RelD K H (.bl b) v/\RelDs K H (bs.map D.bl) r from h);rw [e,WA h2,(show v= .bl b from h1)];rfl
def Et:RDn:=λds h Q=> ∃ (a:G5) (bs:G0 N0),ds= [.lst a]/\h a=some (bs.map D.bl)/\Q (.bl (bs.all id)) (Vm h a)
theorem UG (hc:X.calm=true):vF X (.builtin "all") Et:=(Vr hc).imp λxs H Q ⟨ds,h,Qd,r,rh,⟨a,bs,e,hd,q⟩,p⟩=>by
 subst e;obtain⟨v,e,r1⟩:=jA r;obtain⟨vs,hH,r2⟩:=rh a _ hd;have e1:v= .ref a:=r1.1;rw [WA r2] at hH;subst e e1;exact⟨a,bs,rfl,SqL.of hH,p (.bl _) _ _ _ (.refl H) (rh.sub (Sub.drop h a)) rfl q⟩
end
def Ky (to:TED)(te:TED):TED:=λσ h Q=>to σ h λx h1=> ∃a,x= .lst a/\te σ h1 λy h2=> ∃xs,h2 a=some xs/\xs.length<sizeLine/\Q .non (wc h2 a (xs++ [y]))
section
variable {X:Cx}{o e i:S6}{to te ti:TED}{apos cpos pos:Pos}
theorem kZ (ho:QE X o to)(he:QE X e te)(hbase:K6 o "append" X.env (C8 o X.env)=C8 o X.env:=by rfl)
 (hfew:((F7 cpos (P5 [e] X.env)).all (λx=> !x.1)&&(gG cpos (bL [] X.env)).all (λx=>x.1.isSome)&&decide ([e].length+([]:G0 aN).length+(if ([]:G0 aN).isEmpty then 0 else 1)<30))=true:=by rfl)
 (hline:(apos.endLine==cpos.line)=true:=by rfl)(hs:P5 [e] X.env=(false,C8 e X.env)::P5 [] X.env:=by rfl)(hplain:(F7 cpos (P5 [] X.env)).any (·.1)=false:=by rfl):
 QE X (.Call (.Attribute o "append" apos) [e] [] cpos) (Ky to te):=
 (Fx c8 tJ tK DS ho (zS he pa_nil hs) hbase hfew hline hs hplain).imp
  λσ H Q ⟨σd,h,Qd,rs,rh,t,p⟩=>LE.bind rs rh t λd v h1 H1 k1 rs1 rh1 r1 ⟨a,e,q⟩=>by
   subst e;obtain⟨e1,vs,hH⟩:=(show v= .ref a/\ ∃vs,H1 a=some (.lst vs) from r1);subst e1;refine⟨.inl ⟨rfl,vs,SqL.of hH⟩,?_⟩;refine LE.bind rs1 rh1 q λy u h2 H2 k2 rs2 rh2 r2 ⟨xs,hx,hz,q2⟩=> ?_
   obtain⟨ws,hW,r3⟩:=rh2 a xs hx;refine⟨a,ws,u,rfl,rfl,hW,by rw [<-r3.length];exact hz,p .non _ _ _ (k1.trans (k2.trans (.put hW))) (rh2.put hW (r3.append (.cons r2 .nil))) rfl q2⟩
def Eu (to ti:TED):TGD:=λd σ h Q=>to σ h λo h1=>ti σ h1 λi h2=> ∃a k xs j,o= .lst a/\i= .int k/\h2 a=some xs/\ixN xs.length k=some j/\Q σ (wc h2 a (xs.set j d))
theorem Ev (ho:QE X o to)(hi:QE X i ti)
 (ha: ∀v,dY (.Subscript o i pos) X.env v=(do
  let ov <-Z6 [v] (C8 o X.env)
  let iv <-Z6 [v,ov] (C8 i X.env)
  hO pos
  Z6 [v,ov,iv] (rK ov iv v)
  IH [v,ov,iv] []):=by intro _;rfl):QG X (.Subscript o i pos) (Eu to ti):=
 (An ho hi Nu ha).imp λv σ H Q ⟨d,σd,h,Qd,r,rs,rh,q,p⟩=>
  LE.bind rs rh q λd1 v1 h1 H1 k1 rs1 rh1 r1 q1=>LE.bind rs1 rh1 q1 λd2 v2 h2 H2 k2 rs2 rh2 r2 ⟨a,k,xs,j,e1,e2,hx,hj,q2⟩=>by
   subst e1 e2;have e3:v1= .ref a:=(r1.mono k2).1;obtain⟨ws,hW,r3⟩:=rh2 a xs hx;refine⟨a,ws,k,j,e3,r2,hW,by rw [<-r3.length];exact hj,p _ _ _ _ (k1.trans (k2.trans (.put hW))) (rs2.mono (.put hW)) (rh2.put hW (RelDs.set ((r.mono k1).mono k2) j r3)) q2⟩
end
def Rq (N:G0 Str)(sc:G0 (Str×NameKind))(scope:H0)(js:G0 G8):N0:=
 scope.kind== .function&&scope.names.all (λp=>p.2 != .cell||scope.names.lookup p.1==some .cell)&&scope.names.all (λp=>p.2 != .local||scope.names.lookup p.1==some .local)&&
 scope.names.all (λp=>p.2 != .free||sc.lookup p.1==some .cell||sc.lookup p.1==some .free)&&
 (P7 N.length).all λi=>(scope.names.lookup (N.getD i uK) !=some .local&&scope.names.lookup (N.getD i uK) !=some .cell)||js.contains i
theorem wz (h:Rq X.N X.env.scope.names scope js=true):BlockOk X scope js:=by
 unfold Rq at h;simp only [S9] at h;obtain⟨⟨⟨⟨h1,h2⟩,h3⟩,h4⟩,h5⟩:=h;refine⟨eq_of_beq h1,λp hp e=> ?_,λp hp e=> ?_,λp hp e=> ?_,λi x e1 e2=> ?_⟩
 ·have:=M8.mp h3 p hp;rw [e] at this;simpa using this
 ·have:=M8.mp h2 p hp;rw [e] at this;simpa using this
 ·have:=M8.mp h4 p hp;rw [e] at this;simpa using this
 ·have hi:i<X.N.length:=(R0.mp e1).1;have:=M8.mp h5 i (S5.mpr hi);rw [S3,e1,bV] at this;rcases e2 with e2|e2<;>(rw [e2] at this;simpa using this)
theorem qpt {t:TTD}(h:QW X e t):QT X e t:=h.pt
theorem Qa {te:TED}{σ:SD}{h1:HD}{Q:KD}{j:ItD}(f:D->D)(hz:ds.length<=sizeLine)(hj:j h1=some ds)
 (ht: ∀R:ItD->HD->Prop,R j h1->ti σ h R)(he: ∀d∈ds,∀Q':KD,Q' (f d) h1->te ((ze js σ).set i (some d)) h1 Q')(hq: ∀p,h1 p=none->Q (.lst p) (wc h1 p (ds.map f))):XQ (bN i) js ti Zl te σ h Q:=by
 refine ht _ ⟨ds.length,λk ys h'=>h'=h1/\ys=(ds.take k).map f,⟨rfl,by simp⟩,?_⟩;rintro k ys h' ⟨rfl,rfl⟩;refine⟨by simp only [G9,F3];omega,ds,hj,P1 _,λhl p hp=> ?_,λd hd=>⟨_,rfl,?_⟩⟩
 ·rw [O2 hl];exact hq p hp
 ·unfold Zl;dsimp only;rw [R1 rfl];refine he d (M3 hd) _ ⟨h',Sub.refl _,rfl,?_⟩;rw [C0,hd];simp
end L2
namespace HT
open PySem PySem.Spec PyProof.Rows
section
variable {prog:D5}{w:T5}{A:R6}{E:G1->G2->Prop}{s:G2}
theorem vT {t sl:G5}{items:M1 G1}{vl vu:G1}{lo hi:P0 P2}{Q:G1->G2->Prop}(ht:qL s.heap t items)(hs:s.heap.IsSliceOf sl vl vu .none)(pl:lB vl lo)(pu:lB vu hi)
 (hw:sIx items.size 0 lo=0/\sIx items.size items.size hi=items.size)(h:Q (.ref t) s):D1 (D3 prog w) A (iD (.ref t) (.ref sl)) Q E s:=by
 obtain⟨os,hos,hcs,hds⟩:=id hs;have hTs:s.TypeIs (.ref sl) "slice" :=⟨os,hos,hcs⟩;unfold iD
 try with_reducible refine B5 ?_
 first|refine wpAny_bind (G7 ?_)|skip
 refine wpAny_bind (iE ht.typeIs (by decide) ?_);refine wpAny_bind (aG (name:=G6 "__getitem__") ht.typeIs O7
  (F4 O7 ht.typeIs fN ?_ (gF _ _)))
 show D1 _ _ (Q8 (.ref t) >>= _) _ _ s;refine wpAny_bind (iK ht ?_);refine wpAny_bind (dG hTs ?_);rw [R1 (by decide)];refine wpAny_bind (yM hs pl pu ?_);have hyes:((((sIx items.size 0 lo:G8):P2)==0&&(1:P2)==1&&(sIx items.size items.size hi-sIx items.size 0 lo)==items.size)=true):=by
  rw [hw.1,hw.2];simp
 show D1 _ _ (if (((sIx items.size 0 lo:G8):P2)==0&&(1:P2)==1&&(sIx items.size items.size hi-sIx items.size 0 lo)==items.size)=true then _ else _) _ _ s;rw [R1 hyes];refine wpAny_bind (m:=gI (.ref t)) ?_;unfold gI;refine wpAny_bind (dG ht.typeIs (G7 ?_));rw [R1 (by decide)];exact wpAny_bind (j8 (G7 ⟨_,rfl,G7 h⟩))
end
end HT
namespace L2
open PySem PySem.Spec PyProof.Rows
def ua (K:G3):V->P0 P2->P0 P2->Hp->VK->Prop:=λx lo hi H Q=> ∃a xs,x= .ref a/\SqT K H a xs/\(HT.sIx xs.length 0 lo=0/\HT.sIx xs.length xs.length hi=xs.length)/\Q (.ref a) H
variable {X:Cx}
theorem sl_whole:SlR X (ua X.K):=by
 intro pins s σ H x v vl vu lo hi sl Q I rx hs pl pu h;obtain⟨a,xs,rfl,hx,hw,q⟩:=h;cases rx;obtain⟨its,r,ht,hz⟩:=I.tuple hx;have hlen:its.toArray.size=xs.length:=by rw [R9];exact r.length.symm
 refine⟨"tuple",_,PyProof.Rows.slot_tuple_getitem.lookup,ht.typeIs,?_⟩;exact HT.vT ht hs pl pu (by rw [hlen];exact hw) ⟨.ref a,H,I,rfl,q⟩
def UH {α:Type}(xs:G0 α)(lo hi:P0 P2):G0 α:=(xs.drop (HT.sIx xs.length 0 lo)).take (HT.sIx xs.length xs.length hi-HT.sIx xs.length 0 lo)
abbrev TOD:=SD->HD->(P0 P2->HD->Prop)->Prop
def Rr:TOD:=λ_ h Q=>Q none h
def Ew (t:TED):TOD:=λσ h Q=>t σ h λx h1=> ∃i,x= .int i/\Q (some i) h1
def LO (K:G3)(t:TOD):TO:=λσ H Q=> ∃σd h Qd,RelS K H σd σ/\RelH K h H/\t σd h Qd/\ ∀o h' H',Kept H H'->RelH K h' H'->Qd o h'->Q o H'
theorem LO.bind {K:G3}{ta:TOD}{σ:St}{H:Hp}{σd:SD}{h:HD}{kd:P0 P2->HD->Prop}{k:P0 P2->Hp->Prop}(rs:RelS K H σd σ)(rh:RelH K h H)(t:ta σd h kd)(f: ∀o h' H',Kept H H'->RelS K H' σd σ->RelH K h' H'->kd o h'->k o H'):LO K ta σ H k:=
 ⟨σd,h,kd,rs,rh,t,λo h' H' kp r1 q=>f o h' H' kp (rs.mono kp) r1 q⟩
theorem PO.imp {e:P0 S6}{t t':TO}(h:PO X e t)(i: ∀σ H Q,t' σ H Q->t σ H Q):PO X e t':=λpins s σ H Q I q=>h pins s σ H Q I (i σ H Q q)
abbrev QO (X:Cx)(e:P0 S6)(t:TOD):Prop:=PO X e (LO X.K t)
theorem Lh:QO X none Rr:=po_none.imp λσ H Q ⟨σd,h,Qd,rs,rh,q,p⟩=>p none h H (.refl H) rh q
theorem Li {e:S6}{te:TED}(he:QE X e te):QO X (some e) (Ew te):=(Fv he).imp λσ H Q ⟨σd,h,Qd,rs,rh,q,p⟩=>
 LE.bind rs rh q λd v h1 H1 k1 rs1 rh1 r1 ⟨i,e,q1⟩=>by subst e;exact⟨i,r1,p _ _ _ k1 rh1 q1⟩
def slD:D->P0 P2->P0 P2->HD->KD->Prop:=λx lo hi h Q=>match x with
 | .tup ds=>Q (.tup (UH ds lo hi)) h
 | .scr ns=> ∀p,h p=none->Q (.lst p) (wc h p ((UH ns lo hi).map D.int))
 | .lst a=> ∃ds,h a=some ds/\ ∀p,h p=none->Q (.lst p) (wc h p (UH ds lo hi))
 |_=>False
def dSl (te:TED)(tl th:TOD):TED:=λσ h Q=>te σ h λx h1=>tl σ h1 λl h2=>th σ h2 λu h3=>slD x l u h3 Q
theorem Vs {K:G3}{H:Hp}{ds:G0 D}{vs:G0 V}(r:RelDs K H ds vs)(lo hi:P0 P2):RelDs K H (UH ds lo hi) (Ng vs lo hi):=by
 unfold UH Ng;rw [r.length];exact(r.drop _).take _
theorem Lj {α β:Type}(f:α->β)(xs:G0 α)(lo hi:P0 P2):UH (xs.map f) lo hi=(UH xs lo hi).map f:=by
 unfold UH;rw [G9,tL,tM]
theorem Ey {e:S6}{te:TED}{lo hi:P0 S6}{tl th:TOD}{pos p2:Pos}(he:QE X e te)(hl:QO X lo tl)(hu:QO X hi th):QE X (.Subscript e (.Slice lo hi none p2) pos) (dSl te tl th):=
 (Nt (sl_tup.or (sl_whole.or Fw)) he hl hu).imp λσ H Q ⟨σd,h,Qd,rs,rh,q,p⟩=>
  LE.bind rs rh q λd v h1 H1 k1 rs1 rh1 r1 q1=>LO.bind rs1 rh1 q1 λl h2 H2 k2 rs2 rh2 q2=>LO.bind rs2 rh2 q2 λu h3 H3 k3 rs3 rh3 q3=>by
   have rv:=(r1.mono k2).mono k3;have kk:=k1.trans (k2.trans k3);cases d<;>first
    |exact False.elim q3
    |skip
   ·rename_i ds;obtain⟨a,vs,e1,hH,r⟩:=(show ∃a vs,v= .ref a/\H3 a=some (.tup vs)/\RelDs X.K H3 ds vs from rv)
    by_cases hw:HT.sIx vs.length 0 l=0/\HT.sIx vs.length vs.length u=vs.length
    ·refine .inr (.inl ⟨a,vs,e1,SqT.of hH,hw,p (.tup (UH ds l u)) _ _ _ kk rh3 ⟨a,vs,rfl,hH,?_⟩ q3⟩);have z:=Vs r l u;have e:Ng vs l u=vs:=by unfold Ng;rw [hw.1,hw.2];simp
     rwa [e] at z
    ·exact .inl ⟨a,vs,e1,SqT.of hH,hw,λc hc=>p (.tup (UH ds l u)) _ _ _ (kk.trans (.new hc)) (rh3.new hc) ⟨c,_,rfl,je,(Vs r l u).mono (.new hc)⟩ q3⟩
   ·rename_i a;obtain⟨ds,hd,q3⟩:=q3;obtain⟨vs,hH,r⟩:=rh3 a ds hd;exact .inr (.inr ⟨a,vs,rv.1,SqL.of hH,λc hc=>p (.lst c) _ _ _ (kk.trans (.new hc)) (rh3.newL hc (Vs r l u)) ⟨rfl,_,je⟩ (q3 c (rh3.free hc))⟩)
   ·rename_i ns;obtain⟨a,e1,hS⟩:=(show ∃a,v= .ref a/\Scr X.K H3 a ns from rv);refine .inr (.inr ⟨a,_,e1,hS.sq,λc hc=>p (.lst c) _ _ _ (kk.trans (.new hc)) (rh3.newL hc ?_) ⟨rfl,_,je⟩ (q3 c (rh3.free hc))⟩);have z:=Vs (yk (K:=X.K) (H:=H3) ns) l u
    rwa [Lj] at z
end L2
namespace HT
open PySem PySem.Spec PyProof.Rows
open Sem (wp)
open Builtin
theorem ZV:fillsNumberSlot (.type "tuple") "mul" =pure false:=
 PySem.fillsNumberSlot_seq (id:= "tuple.__mul__") (r:=some (.builtin "tuple.__rmul__")) F.slot_tuple_mul.lookup (by decide +kernel) F.slot_tuple_rmul.lookup (by decide +kernel)
theorem UI:IA (.type "tuple")=pure (some (.builtin "tuple.__mul__")):=by
 unfold IA;rw [pY (T:= "tuple") (name:= "__mul__") (id:= "tuple.__mul__") F.slot_tuple_mul.lookup (by decide +kernel),pY (T:= "tuple") (name:= "__rmul__") (id:= "tuple.__rmul__") F.slot_tuple_rmul.lookup (by decide +kernel)];rfl
section
variable {prog:D5}{w:T5}{A:R6}{E:G1->G2->Prop}{s:G2}
theorem Vt {k:P2}{t:Tok}{l:G5}{o:Obj}{its:M1 G1}{n:G8}{P:cY->G2->Prop}(at_:s.heap.get? l=some o)(tup:o.cls= .type "tuple")(dat:o.data= .seq its n)(h:P (.done (.ret .notImplemented)) s):D1 (D3 prog w) A (Builtin.«int.__rmul__» ⟨[.int k t,.ref l],[]⟩) P E s:=by
 obtain⟨c,dd,dt,sl⟩:=o;cases tup;cases dat;obtain⟨hp,g,d,tk,os⟩:=s
 wp_walk
 exact h
theorem Qb {l:G5}{its:M1 G1}{n:G8}{x:P2}{u:Tok}{dd:P0 G5}{sl:M1 (P0 G1)}{P:cY->G2->Prop}(at_:s.heap.get? l=some {cls:= .type "tuple",dict:=dd,data:= .seq its n,slots:=sl})(fits: -(2^63)<=x/\x<2^63)
 (same:(its.isEmpty||x==1)=true->P (.done (.ret (.ref l))) s)
 (gone:(its.isEmpty||x==1)=false->(decide (x<=0)||its.isEmpty)=true->P (.done (.ret (.ref s.heap.objs.size))) {s with heap:=s.heap.push {cls:= .type "tuple",data:= .seq #[]}})
 (more:(its.isEmpty||x==1)=false->(decide (x<=0)||its.isEmpty)=false-> ¬ (its.size:P2)*x>(2^63-1) / 8/\gJ ((its.size:P2)*x)=false/\((S7 x.toNat its).foldl (· ++ ·) #[]).size<=sizeLine/\
  P (.done (.ret (.ref s.heap.objs.size))) {s with heap:=s.heap.push {cls:= .type "tuple",data:= .seq ((S7 x.toNat its).foldl (· ++ ·) #[])}}):
 D1 (D3 prog w) A (Builtin.«tuple.__mul__» ⟨[.ref l,.int x u],[]⟩) P E s:=by
 obtain⟨hp,g,d,tk,os⟩:=s
 wp_walk
 rw [R3 (by simp only [W7,U1];omega)]
 wp_walk
 cases c1:(its.isEmpty||x==1) with
 |true=>
  rw [R1 rfl]
  wp_walk
  exact same c1
 |false=>
  rw [R3 D8];cases c2:(decide (x<=0)||its.isEmpty) with
  |true=>
   rw [R1 rfl]
   wp_walk
   exact gone c1 c2
  |false=>
   obtain⟨m1,m2,m3,m4⟩:=more c1 c2;rw [R3 D8];dsimp only;rw [R3 m1,m2,R3 D8]
   wp_walk
   exact m4
end
end HT
namespace L2
open PySem PySem.Spec PyProof.Rows
def Hl (K:G3):R2:=λx y H Q=> ∃ (a:G5) (k:P2) (xs:G0 V),x= .ref a/\y= .int k/\SqT K H a xs/\ -(2^63)<=k/\k<2^63/\xs.length*k.toNat<=sizeLine/\
 ((xs= []\/k=1)->Q (.ref a) H)/\(¬ (xs= []\/k=1)-> ∀p,H p=none->Q (.ref p) (upd H p (.tup (S7 k.toNat xs).flatten)))
theorem Wh {l:G0 G1}:l.toArray= #[]↔l= []:=by cases l<;>simp
theorem Lk {X:Cx}:OpR X (J6 .Mult) (Hl X.K):=by
 intro pins s σ H x y v u Q I rx ry h;obtain⟨a,k,xs,rfl,rfl,hH,h1,h2,hz,q1,q2⟩:=h;cases rx;obtain⟨t,rfl⟩:=ry;obtain⟨its,r,ht,_⟩:=I.tuple hH;obtain⟨⟨cls,dd,data,sl⟩,ho,hc,n,hd⟩:=id ht;simp only at hc hd;subst hc hd;have hl:=r.length;have hnew:(S7 k.toNat its.toArray).foldl (· ++ ·) #[]=(S7 k.toNat its).flatten.toArray:=by
  have:=Wr its k.toNat [];rw [F0] at this;exact this
 have few:its.length*k.toNat<=sizeLine:=by rw [<-hl];exact hz
 have free:=I.hok.fresh (P1 _);refine g9 (T:= "tuple") (U:= "int") (by decide) ⟨_,ho,rfl⟩ (λs'=>lD s' k t) HT.ZV qW fJ HT.UI F.slot_int_index.lookup
  (F4 fJ (lD s k t) pW (HT.Vt ho rfl rfl ⟨_,rfl,rfl,⟨_,ho,rfl⟩,F4 F.slot_tuple_mul ⟨_,ho,rfl⟩ F.entry_tuple_mul (HT.Qb ho ⟨h1,h2⟩ (λc=> ?_) (λc c0=> ?_) (λc c0=> ?_)) (F.args_tuple_mul_2 _ _)⟩) (o3 _ _))
 ·refine⟨_,rfl,.ref a,H,I,rfl,q1 ?_⟩;simp only [W7,beq_iff_eq,o6,Wh] at c;exact c.imp (λe=>r.nil_iff.mp e) id
 ·simp only [mK,beq_eq_false_iff_ne,gK,ne_eq,Wh] at c;have k0:k.toNat=0:=by
   simp only [W7,U1,o6,Wh] at c0;have:=c0.resolve_right c.1;omega
  have last:=q2 (λz=>z.elim (λe=>c.1 (r.nil_iff.mpr e)) c.2) _ free;rw [k0] at last;exact⟨_,rfl,.ref s.heap.objs.size,_,I.laid (t':=s.toks) (o:= .tup []) (λb ob q=>G4 _ q) (P1 _) ⟨by decide,[],.nil,IsTupN.new _ _⟩,rfl,last⟩
 ·simp only [mK,beq_eq_false_iff_ne,gK,ne_eq,Wh,i5] at c c0;have em:((its.toArray.size:G8):P2)*k=((its.length*k.toNat:G8):P2):=by rw [Int.natCast_mul,R9,show ((k.toNat:G8):P2)=k by omega]
  have cap:(sizeLine:G8)<=(2^63-1) / 8:=by decide
  rw [em,hnew];refine⟨by omega,by unfold gJ;exact T3 (by omega),by rw [R9,XX,X7];exact few,_,rfl,.ref s.heap.objs.size,_,I.laid (t':=s.toks) (o:= .tup (S7 k.toNat xs).flatten) (λb ob q=>G4 _ q) (P1 _) ⟨by rw [XX,X7];exact hz,_,r.rep k.toNat,IsTupN.new _ _⟩,rfl,q2 (λz=>z.elim (λe=>c.1 (r.nil_iff.mpr e)) c.2) _ free⟩
def Hm:RD2:=λx y h Q=>match x,y with
 | .tup ds,.int k=> -(2^63)<=k/\k<2^63/\ds.length*k.toNat<=sizeLine/\Q (.tup (S7 k.toNat ds).flatten) h
 |x,y=>Kx x y h Q
theorem zu {X:Cx}:OpQ X (J6 .Mult) Hm:=(oq_mul.or Lk).imp λx y H Q ⟨dx,dy,h,Qd,rx,ry,rh,q,p⟩=>by
 by_cases ht: ∃ds k,dx= .tup ds/\dy= .int k
 ·obtain⟨ds,k,e1,e2⟩:=ht;subst e1 e2;obtain⟨b1,b2,hz,q⟩:=q;obtain⟨a,vs,e,hH,r⟩:=(show ∃a vs,x= .ref a/\H a=some (.tup vs)/\RelDs X.K H ds vs from rx);refine .inr ⟨a,k,vs,e,ry,SqT.of hH,b1,b2,by rw [<-r.length];exact hz,λhs=> ?_,λ_ c hc=>p (.tup _) _ _ _ (.new hc) (rh.new hc) ⟨c,_,rfl,je,(r.flat _).mono (.new hc)⟩ q⟩;refine p (.tup _) _ _ _ (.refl H) rh ⟨a,vs,rfl,hH,?_⟩ q;rcases hs with e0|e1
  ·subst e0;have:ds= []:=cZ.mp r.length;subst this;simpa using r
  ·subst e1;simpa using r
 ·refine .inl ⟨dx,dy,h,Qd,rx,ry,rh,?_,p⟩;unfold Hm at q;split at q
  ·exact absurd ⟨_,_,rfl,rfl⟩ ht
  ·exact q
def OS:D->HD->KD->Prop:=λx h Q=>match x with
 | .int i=>Q (.int (-i)) h
 |_=>False
def dUn (f:D->HD->KD->Prop)(ta:TED):TED:=λσ h Q=>ta σ h λx h1=>f x h1 Q
theorem Kz {X:Cx}{a:S6}{ta:TED}{pos:Pos}(ha:QE X a ta):QE X (.UnaryOp .USub a pos) (dUn OS ta):=
 (Tr Ay ha).imp λσ H Q ⟨σd,h,Qd,rs,rh,t,p⟩=>LE.bind rs rh t λd v h1 H1 k1 rs1 rh1 r1 q=>by
  cases d<;>first
   |exact False.elim q
   |exact⟨_,r1,p (.int _) _ _ _ k1 rh1 rfl q⟩
end L2
namespace HT
open PySem PySem.Spec PyProof.Rows
section
variable {prog:D5}{w:T5}{A:R6}{E:G1->G2->Prop}{s:G2}
theorem Pk (n:G8):V1 none none (-1) (n:P2)=((n:P2)-1,-1):=rfl
theorem Pl (n:G8):L6 ((n:P2)-1) (-1) (-1)=n:=by
 unfold L6;have h1: ¬ ((-1:P2)>0):=by omega
 simp only [h1,gC,show (- -1:P2)=1 by decide,uW];split<;>omega
theorem NK (xs:M1 G1):((P7 xs.size).filterMap λ(k:G8)=>xs[((xs.size:P2)-1+(k:P2)*(-1)).toNat]?).toArray=xs.toList.reverse.toArray:=by
 have e:(λ(k:G8)=>xs[((xs.size:P2)-1+(k:P2)*(-1)).toNat]?)=(λk=>xs[xs.size-1-k]?):=by
  funext k
  have:((xs.size:P2)-1+(k:P2)*(-1)).toNat=xs.size-1-k:=by omega
  rw [this]
 rw [e];have h2:(P7 xs.size).filterMap (λk=>xs[xs.size-1-k]?)=((P7 xs.size).map (λk=>xs.size-1-k)).filterMap (xs[·]?):=by rw [n9];rfl
 rw [h2,IP,List.filterMap_reverse,G0b]
theorem Zo {t sl:G5}{items:M1 G1}{u:Tok}{Q:G1->G2->Prop}(ht:qL s.heap t items)(hs:s.heap.IsSliceOf sl .none .none (.int (-1) u))
 (h:Q (.ref s.heap.objs.size) {s with heap:=s.heap.push {cls:= .type "tuple",data:= .seq items.toList.reverse.toArray}})
 (hsz:items.size<=sizeLine):D1 (D3 prog w) A (iD (.ref t) (.ref sl)) Q E s:=by
 have htake:sizeOk (.seq items.toList.reverse.toArray):=by
  show items.toList.reverse.toArray.size<=sizeLine;rw [R9,cB,D2];exact hsz
 obtain⟨os,hos,hcs,hds⟩:=id hs;have hTs:s.TypeIs (.ref sl) "slice" :=⟨os,hos,hcs⟩;unfold iD
 try with_reducible refine B5 ?_
 first|refine wpAny_bind (G7 ?_)|skip
 refine wpAny_bind (iE ht.typeIs (by decide) ?_);refine wpAny_bind (aG (name:=G6 "__getitem__") ht.typeIs O7
  (F4 O7 ht.typeIs fN ?_ (gF _ _)))
 show D1 _ _ (Q8 (.ref t) >>= _) _ _ s;refine wpAny_bind (iK ht ?_);refine wpAny_bind (dG hTs ?_);rw [R1 (by decide)];have ap:D1 (D3 prog w) A.in1 (Y5 (.ref sl) (pure (items.size:P2))) (λr s'=>r=((items.size:P2)-1,-1,items.size)/\s'=s) (λ_ _=>False) s:=by
  unfold Y5 g8;refine wpAny_bind (wpAny_bind (cW hos hds (x:= .none) rfl (wpAny_bind (cW hos hds (x:= .none) rfl (wpAny_bind (cW hos hds (x:= .int (-1) u) rfl (G7 ?_)))))));refine wpAny_bind (sW ?_);show D1 _ _ (if ((-1:P2)==0)=true then _ else _) _ _ s;rw [R3 (by decide)];refine wpAny_bind (gE (wpAny_bind (gE (wpAny_bind (G7 ?_)))));show D1 _ _ (match V1 none none (-1) (items.size:P2) with|(lo,hi)=>pure (lo,(-1:P2),L6 lo hi (-1))) _ _ s;rw [Pk];show D1 _ _ (pure ((items.size:P2)-1,(-1:P2),L6 ((items.size:P2)-1) (-1) (-1))) _ _ s;rw [Pl];exact G7 ⟨rfl,rfl⟩
 refine wpAny_bind (R7 ap (λr s' e=> ?_) λ_ _ z=>z.elim);obtain⟨rfl,rfl⟩:=e;have hno: ¬ ((((items.size:P2)-1)==0&&(-1:P2)==1&&items.size==items.size)=true):=by
  rw [show ((-1:P2)==1)=false by decide];simp
 show D1 _ _ (if ((((items.size:P2)-1)==0&&(-1:P2)==1&&items.size==items.size)=true) then _ else _) _ _ s';rw [R3 hno,NK]
 first
  |exact wpAny_bind (m:=O6 _) (A3 (G7 ⟨_,rfl,G7 h⟩) htake)
  |exact wpAny_bind (m:=O6 _) (A3 (wpAny_bind (G7 (G7 ⟨_,rfl,G7 h⟩))) htake)
  |exact wpAny_bind (wpAny_bind (m:=O6 _) (A3 (G7 (G7 ⟨_,rfl,G7 h⟩)) htake))
  |exact wpAny_bind (wpAny_bind (m:=O6 _) (A3 (G7 ⟨_,rfl,G7 h⟩) htake))
end
end HT
namespace L2
open PySem PySem.Spec PyProof.Rows
def KA (te:TED):TED:=λσ h Q=>te σ h λx h1=> ∃ds,x= .tup ds/\Q (.tup ds.reverse) h1
theorem Vals.rev: ∀ {xs:G0 V} {us:G0 G1},Vals xs us->Vals xs.reverse us.reverse
 |_,_,.nil=> .nil
 |_,_,.cons r t=>by rw [dI,dI];exact(Vals.rev t).append (.cons r .nil)
variable {K:G3}
theorem RelDs.rev {H:Hp}: ∀ {ds:G0 D} {vs:G0 V},RelDs K H ds vs->RelDs K H ds.reverse vs.reverse
 | [],_,h=>by cases (show _= [] from h);exact .nil
 |d::ds,vs,h=>by
  obtain⟨v,r,e,h1,h2⟩:=(show ∃v r,vs=v::r/\RelD K H d v/\RelDs K H ds r from h);subst e;rw [dI,dI];exact(RelDs.rev h2).append (.cons h1 .nil)
variable {e:S6}{te:TED}
theorem ub {X:Cx}{pos p2 p3 p4:Pos}{j:G8}(he:QE X e te):QE X (.Subscript e (.Slice none none (some (.UnaryOp .USub (.Constant (.int 1) j p4) p3)) p2) pos) (KA te):=by
 intro pins s σ H Q I h;obtain⟨σd,h,Qd,rs,rh,t,p⟩:=h;refine rV (thn (he pins s σ H _ I (LE.bind rs rh t λd v h1 H1 k1 rs1 rh1 r1 q1=>(show ∃σd h1 d,RelS X.K H1 σd σ/\RelH X.K h1 H1/\RelD X.K H1 d v/\Kept H H1/\ ∃ds,d= .tup ds/\Qd (.tup ds.reverse) h1 from ⟨σd,h1,d,rs1,rh1,r1,k1,q1⟩))) λv s1 ⟨x,H1,I1,r1,q1⟩=> ?_);obtain⟨σd1,h1,d,rs1,rh1,rd,k1,ds,e1,q1⟩:=q1;subst e1;obtain⟨a,vs,e2,hH,r2⟩:=(show ∃a vs,x= .ref a/\H1 a=some (.tup vs)/\RelDs X.K H1 ds vs from rd);subst e2;cases r1;refine xH ?_;rw [nK];refine G7 ?_;refine G7 ?_;rw [sX];have hneg:LE X.K (dUn OS (dC (.int 1))) σ H1 (λv H'=>v=V.int (-1)/\RelH X.K h1 H'/\Kept H1 H'):=
  ⟨σd1,h1,λd h'=>d= .int (-1)/\h'=h1,rs1,rh1,⟨rfl,rfl⟩,λd v h' H' k rh' r' e=>by
   obtain⟨e1,e2⟩:=e;subst e1 e2;exact⟨r',rh',k⟩⟩
 refine thn ((Kz (Kv (X:=X) (i:=1) (j:=j) (pos:=p4)) (pos:=p3)) pins s1 σ H1 _ I1 hneg) λu s2 ⟨y,H2,I2,ry,ey,rh2,k2⟩=> ?_
 subst ey;obtain⟨tk,rfl⟩:=ry;have hH2:=k2.tup _ _ hH;have I4:Inv X pins σ H2 {s2 with heap:=s2.heap.push {cls:= .type "slice",data:= .fields #[.none,.none,.int (-1) tk]}}:=I2.kept (t':=s2.toks) λb ob q=>G4 _ q
 obtain⟨its,r,ht,hz⟩:=I4.tuple (SqT.of hH2);have hlen:its.toArray.size=vs.length:=by rw [R9];exact r.length.symm
 show D1 (D3 X.prog X.w) X.A (nM e (.Slice none none (some (.UnaryOp .USub (.Constant (.int 1) j p4) p3)) p2) (.ref a) (.ref s2.heap.objs.size)) (EP X pins σ Q) X.xe {s2 with heap:=s2.heap.push {cls:= .type "slice",data:= .fields #[.none,.none,.int (-1) tk]}};refine xI (ops:= [.ref a,.ref s2.heap.objs.size]) ht.typeIs PyProof.Rows.slot_tuple_getitem.lookup ?_ (by with_unfolding_all rfl);refine HT.Zo ht (Heap.IsSliceOf.new ..) ?_ (by rw [hlen];exact hz);have hf:=I4.hok.fresh (P1 _);refine⟨.ref _,_,I4.laid (t':=s2.toks) (o:= .tup vs.reverse) (λb ob q=>G4 _ q) (P1 _) ⟨by rw [cB];exact hz,_,Vals.rev r,IsTupN.new _ _⟩,rfl,?_⟩;exact p (.tup ds.reverse) _ _ _ (k1.trans (k2.trans (.new hf))) (rh2.new hf) ⟨_,_,rfl,je,((r2.mono k2).rev).mono (.new hf)⟩ q1
def UJ (x:Str)(i:P2):TED:=λ_ h Q=>Q (.dic x i) h
variable {p:G5}
theorem NL {H:Hp}{a b:HO}:upd (upd H p a) p b=upd H p b:=by
 funext q;unfold upd;split<;>rfl
variable {X:Cx}{x:Str}
theorem Ez {i:P2}{j k:G8}{pos p1 p2:Pos}:QE X (.Dict [some (.Constant (.str x) j p1)] [.Constant (.int i) k p2] pos) (UJ x i):=by
 have h0:PPs X pos [some (.Constant (.str x) j p1)] [.Constant (.int i) k p2] [(tC (.str x),tC (.int i))]:=Nz pe_str pe_int FF;refine PE.imp (FG h0 rfl rfl (by simp) (by simp)) ?_;rintro σ H Q ⟨σd,h,Qd,rs,rh,t,p⟩ q hq;show upd H q (.dK []) q=some (.dK [])/\_;refine⟨je,[((aX x:Key),V.int i)],rfl,by simp,?_⟩;rw [NL];exact p (.dic x i) (.ref q) h _ (.new hq) (rh.new hq) ⟨q,rfl,je⟩ t
def Qc:G0 (P0 S6)->G0 S6->P0 (Str×P2)
 | [some (.Constant (.str x) _ _)],[.Constant (.int i) _ _]=>some (x,i)
 |_,_=>none
theorem EA {ks:G0 (P0 S6)}{vs:G0 S6}{pos:Pos}{i:P2}(h:Qc ks vs=some (x,i):=by rfl):QE X (.Dict ks vs pos) (UJ x i):=by
 unfold Qc at h;split at h
 ·cases h;exact Ez
 ·cases h
def EB (K:G3)(tl:TE):TI:=λσ H R=>tl σ H λx H1=> ∃a,x= .ref a/\((∃xs,SqL K H1 a xs/\R (Itl K a) H1)\/ ∃xs,SqT K H1 a xs/\R (Itt K a) H1)
theorem EC {tg l:S6}{tl:TE}(hl:PE X l tl):PI X tg l (EB X.K tl):=by
 intro pins s σ H R I h;refine thn (hl pins s σ H _ I h) λv s1 ⟨x,H1,I1,r1,q1⟩=> ?_
 obtain⟨a,e,q⟩:=q1;subst e;cases r1;rcases q with ⟨xs,hq,q⟩|⟨xs,hq,q⟩
 ·obtain⟨its,rv,p,hz⟩:=I1.list hq;refine aY p.isList ?_;refine⟨s1.heap.objs.size,[s1.heap.objs.size],_,_,H1,rfl,I1.kept (t':=s1.toks) λb o e=>G4 _ e,Ur a _,⟨_,S4 _ rfl,rfl,rfl⟩,λb hb=> ?_,q⟩;have e:b=s1.heap.objs.size:=by simpa using hb
  subst e;exact I1.fpOk (P1 _) (I1.hok.fresh (P1 _))
 ·obtain⟨its,rv,p,hz⟩:=I1.tuple hq;refine wpAny_pyIter_tuple (show s1.heap.IsTuple a its.toArray from p) ?_;refine⟨s1.heap.objs.size,[s1.heap.objs.size],_,_,H1,rfl,I1.kept (t':=s1.toks) λb o e=>G4 _ e,GT a _,⟨_,S4 _ rfl,rfl,rfl⟩,λb hb=> ?_,q⟩;have e:b=s1.heap.objs.size:=by simpa using hb
  subst e;exact I1.fpOk (P1 _) (I1.hok.fresh (P1 _))
def iS (te:TED):TID:=λσ h R=>te σ h λx h1=>match x with
 | .lst a=>R (λh=>h a) h1
 | .tup ds=>R (λ_=>some ds) h1
 | .scr ns=>R (λ_=>some (ns.map D.int)) h1
 |_=>False
variable {a:G5}
theorem NM {H:Hp}{ns:G0 P2}(hs:Scr K H a ns):OQ K H (λ_=>some (ns.map D.int)) (Itl K a):=λH' h' k rh ds' e i=>by
 cases e;have hs':Scr K H' a ns:=hs.elim (λ⟨o,z⟩=> .inl ⟨o,k.frz _ _ _ z⟩) .inr;refine⟨λd hd=> ?_,λhl=>⟨_,hs'.sq,by simpa using hl⟩⟩;obtain⟨v,e1,e2⟩:=(yk (K:=K) (H:=H') ns).get hd;refine⟨⟨_,v,hs'.sq,e1⟩,λx H'' ⟨eH,hx⟩=> ?_⟩;subst eH;have:=hx _ hs'.sq;rw [e1] at this;cases this;exact⟨.refl _,rh,e2⟩
theorem ED: ∀σ H R,LI K (iS te) σ H R->EB K (LE K te) σ H R:=λσ H R ⟨σd,h,Rd,rs,rh,q,p⟩=>
 LE.bind rs rh q λd v h1 H1 k1 rs1 rh1 r1 q1=>by
  cases d<;>first
   |exact False.elim q1
   |skip
  ·rename_i ds;obtain⟨a,vs,e,hv,r⟩:=(show ∃a vs,v= .ref a/\H1 a=some (.tup vs)/\RelDs K H1 ds vs from r1);exact⟨a,e,.inr ⟨vs,SqT.of hv,p _ _ _ _ k1 rh1 (NE hv r) q1⟩⟩
  ·rename_i a;obtain⟨e,vs,hv⟩:=(show v= .ref a/\ ∃vs,H1 a=some (.lst vs) from r1);exact⟨a,e,.inl ⟨vs,SqL.of hv,p _ _ _ _ k1 rh1 (UD H1 a) q1⟩⟩
  ·rename_i ns;obtain⟨a,e,hS⟩:=(show ∃a,v= .ref a/\Scr K H1 a ns from r1);exact⟨a,e,.inl ⟨_,hS.sq,p _ _ _ _ k1 rh1 (NM hS) q1⟩⟩
theorem EF {tg:S6}(he:QE X e te):QI X tg e (iS te):=(EC he).imp ED
def Rs:TSD:=λ_ _ _=>False
theorem EG {st:C5}:QS X st Rs:=λ_ _ _ _ _ _ ⟨_,_,_,_,_,z,_⟩=>z.elim
structure Zs (mg:Str->P0 G1):Prop where
 len:mg "len" =none
 max:mg "max" =none
 min:mg "min" =none
 divmod:mg "divmod" =none
 all:mg "all" =none
 any:mg "any" =none
 repr:mg "repr" =none
 sum:mg "sum" =none
 sorted:mg "sorted" =none
 int:mg "int" =none
 tuple:mg "tuple" =none
 list:mg "list" =none
 set:mg "set" =none
 bool:mg "bool" =none
 isinstance:mg "isinstance" =none
 range:mg "range" =none
 zip:mg "zip" =none
 enumerate:mg "enumerate" =none
 reversed:mg "reversed" =none
def jh (P:D5)(w:T5)(K:G3)(mg:Str->P0 G1)(base:M4)(n:G8)(x:Str)(ps:G0 Str)(sp:RDn):Prop:=
 ∃ (g:G5) (gd:R4),FnOk P w K mg base CX0 n g gd ps (LSp K sp)/\Binds K gd ps []/\E2 K (.ref g)=true/\mg x=some (.ref g)
def Rt:RDn:=λds h Q=> ∃ns,ds= [.scr ns]/\(∀a,h a=none)/\ns.length<=63/\ ∀h',Q (.bl true) h'
def Bm (mg:Str->P0 G1)(base:M4):Prop:= ∃bm ob,mg "__builtins__" =some (.ref bm)/\bm≠fX/\base.get? bm=some ob/\ob.cls= .type "module" /\ob.dict=some fX/\ob.data= .plain
def wS (K:G3):G0 (G5×G5):=LN.filterMap (eO K)
theorem TabK.mem {P:G5}(h:TabK K P): ∃c,(c,P)∈wS K:=let ⟨x,hx,c,e⟩:=h;⟨c,Y3.mpr ⟨x,hx,e⟩⟩
theorem Ru {P:D5}{w:T5}{mg mb:Str->P0 G1}{k:G8}{fa:G5}{fd:R4}{s₁:G2}{vs:G0 G1}{ns:G0 P2}
 (KX:K.In s₁.heap)(hns:s₁.heap.Ns mainGlobals mg)(hb:s₁.heap.Ns fX mb)(hbb: ∀x:Str,x≠ "__name__" ->mb x=K1 x)(hlim:s₁.heap.NoLimit)(hg:s₁.gens= #[])
 (ha:s₁.heap.get? a=some {cls:= .type "list",data:= .seq vs.toArray})(hi:cM vs ns)(hl:ns.length<=63)(hr:Room k nA)
 (hbm:Bm mg s₁.heap)(F: ∀base:M4,K.In base->base.Ns mainGlobals mg->Bm mg base->FnOk P w K mg base CX0 k fa fd [x] (LSp K Rt))(hbind: ∀ (s:G2) (u:G1),m8 s fd ⟨[u],[]⟩ [(x,u)])
 (hT: ∀p∈wS K,sB s₁.heap p.1 p.2/\s₁.heap.get? p.2=some (mL #[])/\K.lookup p.2=none):
 E8 (D3 P w) nA (.call (.ref fa) ⟨[.ref a],[]⟩) (λr s'=>r= .ok (.ret (.bool true))/\OldK s₁.heap s'.heap/\s'.os=s₁.os/\fQ s'.gens) s₁:=by
 have rv:=Uy hi;have lenV:=hi.length;have hz:ns.length<=sizeLine:=T9 hl (by decide);have hT': ∀b,b∈(wS K).map (·.2)-> ∃c,sB s₁.heap c b/\s₁.heap.get? b=some (mL #[])/\K.lookup b=none:=λb hb=>by
  obtain⟨p,hp,rfl⟩:=S2.mp hb;exact⟨p.1,hT p hp⟩
 have core: ∀H:Hp,Scr K H a ns->HOk P w H s₁.heap->(∀b u,H b=some u->(b=a/\K.lookup a=none/\ ∃o xs,u= .frz o (.lst xs))\/(b∈(wS K).map (·.2)/\u= .tbl #[]))->(∀b,b∈(wS K).map (·.2)->H b=some (.tbl #[]))->
  E8 (D3 P w) nA (.call (.ref fa) ⟨[.ref a],[]⟩) (λr s'=>r= .ok (.ret (.bool true))/\OldK s₁.heap s'.heap/\s'.os=s₁.os/\fQ s'.gens) s₁:=by
  intro H hS hok hA hTt;have noA: ∀ {b:G5} {o:Obj} {es:M1 DictEntry} {ep:G8},s₁.heap.get? b=some o->o.data= .dict es ep->H b=none:=λ{b o es ep} e d=>by
   cases q:H b with
   |none=>rfl
   |some u=>
    rcases hA b u q with ⟨rfl,_,_⟩|⟨z,_⟩
    ·rw [ha] at e;cases e;have d':Data.seq vs.toArray _=Data.dict es ep:=d;cases d'
    ·obtain⟨c,_,e2,_⟩:=hT' b z;rw [e2] at e;cases e;have d':Data.fields _=Data.dict es ep:=d;cases d'
  have nsK: ∀ {b:G5} {m:Str->P0 G1},s₁.heap.Ns b m->(Nj s₁.heap H).Ns b m:=λ{b m} ⟨o,es,ep,e,d,r⟩=>⟨o,es,ep,Vf e (noA e d),d,r⟩
  have hKb:K.In (Nj s₁.heap H):=λb o e=>Vf (KX b o e) (by
   cases q:H b with
   |none=>rfl
   |some u=>
    rcases hA b u q with ⟨rfl,z,_⟩|⟨z,_⟩
    ·rw [z] at e;cases e
    ·obtain⟨c,_,_,z2⟩:=hT' b z;rw [z2] at e;cases e)
  have hM:Mod K mg (Nj s₁.heap H):=⟨hKb,nsK hns,⟨mb,nsK hb,hbb⟩,let ⟨mc,h1,h2⟩:=hlim;⟨mc,nsK h1,h2⟩⟩;have e0:Env0 P w K mg (Nj s₁.heap H) nA [] s₁ H:=⟨rfl,hM,λb o e=>Fe e,bU (Dy _ _),trivial,λb hb=>absurd (show b∈([]:G0 G5) from hb) (by simp),hok,.of_eq hg⟩;have hsp:LSp K Rt [.ref a] H (λv _=>v= .bl true) (λ_ _ _=>False):=by
   refine⟨[.scr ns],⟨λ_=>none,λ_=>none⟩,λd _=>d= .bl true,⟨.ref a,[],rfl,⟨a,rfl,hS⟩,rfl⟩,⟨λb ds e=>(by cases e),λp hp=> ?_,λb c e=>(by cases e)⟩,⟨ns,rfl,λ_=>rfl,hl,λ_=>rfl⟩,?_⟩
   ·obtain⟨c,hc⟩:=hp.mem;exact⟨#[],hTt p (F1 (f:=(·.2)) hc),trivial,λpos cv e=>(by cases e)⟩
   ·intro d v h' H' _ _ r e;subst e;exact r
  have hBm:Bm mg (Nj s₁.heap H):=by
   obtain⟨bm,ob,b1,b2,b3,b4,r⟩:=hbm;refine⟨bm,ob,b1,b2,Vf b3 ?_,b4,r⟩;cases q:H bm with
   |none=>rfl
   |some u=>
    rcases hA bm u q with ⟨rfl,_,_⟩|⟨z,_⟩
    ·rw [ha] at b3;cases b3;exact absurd (Value.type.inj b4) (by decide)
    ·obtain⟨c,_,e2,_⟩:=hT' bm z;rw [e2] at b3;cases b3;cases b4
  refine X5 ((F _ hKb (nsK hns) hBm).run nA [] s₁ H ⟨[.ref a],[]⟩ [.ref a] [.ref a] _ _ hr e0 (hbind s₁ (.ref a)) (.cons rfl .nil) hsp) λr s' h=> ?_
  cases r with
  |error e=>exact False.elim h
  |ok fl=>
   cases fl with
   |next=>exact False.elim h
   |brk=>exact False.elim h
   |cont=>exact False.elim h
   |ret u=>
    obtain⟨v,H',os,bare,un,hok',r',q⟩:=h;have q':v= .bl true:=q;subst q';obtain rfl:u=j6 true:=r';have one: ∀b o,s₁.heap.get? b=some o->s'.heap.get? b=some o\/(b∈(wS K).map (·.2)/\ ∃more,s'.heap.get? b=some (mL more)):=λb o e=>by
     cases q:H b with
     |none=>exact .inl (un.keep b o e q (by intro z;exact absurd (show b∈([]:G0 G5) from z) (by simp)) (by simp))
     |some u=>
      rcases hA b u q with ⟨rfl,_,ob,xs,rfl⟩|⟨z,rfl⟩
      ·have z2:=un.frzs _ ob _ q;obtain⟨e1,_⟩:=hok _ _ q;obtain⟨e2,_⟩:=hok' _ _ z2;rw [e] at e1;cases e1;exact .inl e2
      ·obtain⟨more,z2⟩:=un.tbls b _ q;exact .inr ⟨z,_,(show s'.heap.get? b=some _ from hok' b _ z2)⟩
    refine⟨rfl,⟨λb o e=> ?_,λb o e=> ?_⟩,os,bare⟩
    ·rcases one b o e with z|⟨z,more,z2⟩
     ·exact .inl z
     ·obtain⟨c,hc,e2,_⟩:=hT' b z;rw [e] at e2;cases e2;refine .inr (.inl ⟨(hc.tab e).isCodeTable,rfl,#[],more,rfl,?_⟩);rw [z2];simp
    ·rcases one b o e with z|⟨z,more,z2⟩
     ·exact⟨_,z⟩
     ·exact⟨_,z2⟩
 have nT:a ∉ (wS K).map (·.2):=λz=>by
  obtain⟨c,_,e2,_⟩:=hT' a z;rw [ha] at e2;cases e2
 have okT: ∀ {H:Hp} (b:G5),b∈(wS K).map (·.2)->ObjOk P w H s₁.heap b (.tbl #[]):=λb hb=>let ⟨_,_,e,_⟩:=hT' b hb;e
 cases hk:K.lookup a with
 |some o=>
  have e:=KX a o hk;rw [ha] at e;cases e;refine core (λb=>if b∈(wS K).map (·.2) then some (.tbl #[]) else none) (.inr ⟨_,vs.toArray,_,hk,rfl,rfl,rfl,by rw [R9,lenV];exact hz,by simpa using rv⟩) (λb u z=> ?_) (λb u z=> ?_) λb hb=>R1 hb
  ·by_cases hb:b∈(wS K).map (·.2)
   ·have z':=(R1 hb).symm.trans z;cases z';exact okT b hb
   ·have z':=(R3 hb).symm.trans z;cases z'
  ·by_cases hb:b∈(wS K).map (·.2)
   ·have z':=(R1 hb).symm.trans z;cases z';exact .inr ⟨hb,rfl⟩
   ·have z':=(R3 hb).symm.trans z;cases z'
 |none=>
  refine core (λb=>if b=a then some (.frz {cls:= .type "list",data:= .seq vs.toArray} (.lst (ns.map V.int))) else if b∈(wS K).map (·.2) then some (.tbl #[]) else none) (.inl ⟨{cls:= .type "list",data:= .seq vs.toArray},R1 rfl⟩) (λb u z=> ?_) (λb u z=> ?_) λb hb=> ?_
  ·by_cases hb:b=a
   ·have z':=(R1 hb).symm.trans z;cases z';subst hb;exact⟨ha,by rw [G9];exact hz,vs,_,rv,ha⟩
   ·have z':=(R3 hb).symm.trans z
    by_cases hb2:b∈(wS K).map (·.2)
    ·have z2:=(R1 hb2).symm.trans z';cases z2;exact okT b hb2
    ·have z2:=(R3 hb2).symm.trans z';cases z2
  ·by_cases hb:b=a
   ·have z':=(R1 hb).symm.trans z;cases z';exact .inl ⟨hb,hk,_,_,rfl⟩
   ·have z':=(R3 hb).symm.trans z
    by_cases hb2:b∈(wS K).map (·.2)
    ·have z2:=(R1 hb2).symm.trans z';cases z2;exact .inr ⟨hb2,rfl⟩
    ·have z2:=(R3 hb2).symm.trans z';cases z2
  ·have:b≠a:=λz=>nT (z ▸ hb)
   show (if b=a then _ else _)=_;rw [R3 this,R1 hb]
def Hn (q:D5)(K:G3):N0:=LN.all λx=>match eO K x with
 |some p=>(K.lookup p.2).isNone&&((xY q).find? (λe=>e.name==x)).isSome
 |none=>true
theorem NN {l:qY}{k:G8}{q:D5}{loose:G0 Str}{XP:(Str->P0 G1)->M4->Prop}{YP:T5->M4->Prop}{d:DefRec}{K:G0g->G3}(hn:l.most=some 63)(hdf:d.params.defaults= [])(hr:Room k nA)
 (hY: ∀ (w:T5) (h:M4),YP w h->(K w.params).In h)(hB: ∀w:T5,Hn q (K w.params)=true)
 (F: ∀ (w:T5) (mg:Str->P0 G1) (fa:G5) (h:M4),(K w.params).In h->h.Ns mainGlobals mg->mg d.name=some (.ref fa)->
  ∃fd:R4,(∀ (s:G2) (u:G1),m8 s fd ⟨[u],[]⟩ [(x,u)])/\ ∀base:M4,(K w.params).In base->base.Ns mainGlobals mg->Bm mg base->FnOk l.prog w (K w.params) mg base CX0 k fa fd [x] (LSp (K w.params) Rt)):
 G0s q loose XP YP l.row.toRowW d [] (λf vs=>rY f vs):=by
 refine Att.attach_call hn hdf λw s₀ s₁ mg mb fa o pm cd doc a vs ns G Y ho hd hcd hmg hobj hints hlen hg=> ?_
 have KX:=hY w _ Y;obtain⟨fd,hb,hF⟩:=F w mg fa _ KX G.T.g hmg;refine Ru KX G.T.g G.T.b G.T.builtins G.T.nolimit hg hobj hints hlen hr G.T.bmain hF hb λp hp=> ?_
 obtain⟨x,hx,e⟩:=Y3.mp hp;have z:=M8.mp (hB w) x hx;rw [e] at z;simp only [S9,Option.isNone_iff_eq_none] at z;obtain⟨dd,hdd⟩:=F2.mp z.2;have t:=G0i (c:=p.1) (P:=p.2) G.T KX hdd e;exact⟨t.1,t.2,z.1⟩
def zv:S6->N0
 | .Starred .. =>false
 |_=>true
theorem Qe {es:G0 S6}{env:Env}(h:zv e=true):P5 (e::es) env=(false,C8 e env)::P5 es env:=by
 cases e<;>first|rfl|cases h
theorem qac {es:G0 S6}{t:TAD}(ha:QE X e te)(hr:QA X es t)(h:zv e=true:=by rfl):QA X (e::es) (jP te t):=Rg ha hr (Qe h)
theorem ye {α:Type}{xs:G0 α}{i:P2}(h0:0<=i)(h1:i<xs.length): ∃x∈xs,atI xs i=some x:=by
 have hk:i.toNat<xs.length:=by omega
 have ek:i=((i.toNat:G8):P2):=by omega
 have z:=Wq (P8 hk);rw [<-ek] at z;exact⟨xs[i.toNat],A1 hk,z⟩
variable {h h':HD}{L:G0 D}
theorem Sub.both (s:Sub h h'):Sub (wc h p L) (wc h' p L):=⟨λa ds e=>(by
 by_cases q:a=p
 ·subst q;rw [ja] at e ⊢;exact e
 ·rw [wB q] at e ⊢;exact s a ds e),s.dc⟩
theorem Sub.newAt (s:Sub h h')(e:h' p=none):Sub h (wc h' p L):=s.trans (.new e)
structure But (p:G5)(h h':HD):Prop where
 ls: ∀a ds,a≠p->h a=some ds->h' a=some ds
 dc: ∀a c,h.dc a=some c->h'.dc a=some c
instance {p:G5}{h h':HD}:CoeFun (But p h h') λ_=> ∀a ds,a≠p->h a=some ds->h' a=some ds:=⟨But.ls⟩
theorem But.refl (p:G5)(h:HD):But p h h:=⟨λ_ _ _ e=>e,λ_ _ e=>e⟩
variable {q:G5}
theorem But.new (s:But p h h')(e:h' q=none):But p h (wc h' q L):=⟨λa ds n z=>(by
 have:=s a ds n z;rw [wB (λw=>by subst w;rw [e] at this;cases this)];exact this),s.dc⟩
theorem But.put (s:But p h h'):But p h (wc h' p L):=⟨λa ds n z=>(by rw [wB n];exact s a ds n z),s.dc⟩
theorem But.putNew (s:But p h h')(e:h q=none):But p h (wc h' q L):=⟨λa ds n z=>(by
 rw [wB (λw=>by subst w;rw [e] at z;cases z)];exact s a ds n z),s.dc⟩
theorem But.sub (s:But p h h')(e:h' p=some L):Sub (wc h p L) h':=⟨λa ds z=>(by
 by_cases q:a=p
 ·subst q;rw [ja] at z;cases z;exact e
 ·rw [wB q] at z;exact s a ds q z),s.dc⟩
theorem But.upd:But p h (wc h p L):=⟨λa ds n z=>(by rw [wB n];exact z),λ_ _ e=>e⟩
theorem jx (e:h p=some L)(f:h q=none):q≠p:=λz=>by subst z;rw [e] at f;cases f
theorem jc {M:G0 D}(e:h p=some L)(f:h q=none):wc h q M p=some L:=by rw [wB (λz=>by subst z;rw [e] at f;cases f)];exact e
theorem Ll {b:G5}(e:wc h a L b=none):b≠a:=λz=>by subst z;rw [ja] at e;cases e
theorem jl {b:G5}{M:G0 D}(n:b≠a)(e:h b=some M):wc h a L b=some M:=by rw [wB n];exact e
theorem Rv {n:G8}{i:G8}{d:D}(h:((P7 n).map λ(k:G8)=>D.int (k:P2))[i]? =some d):i<n/\d= .int i:=by
 rw [D6] at h
 by_cases hi:i<n
 ·rw [X0 hi] at h;cases h;exact⟨hi,rfl⟩
 ·rw [E6 (by simpa using hi)] at h;cases h
variable {E:EndsD}{σ:SD}
theorem jg {t u:TSD}(V:SD->HD->Prop)(first: ∀K:SD->HD->Prop,(∀σ' h',V σ' h'->K σ' h')->t {E with nx:=K} σ h)(rest: ∀σ' h',V σ' h'->u E σ' h'):yR t u E σ h:=first (u E) rest
theorem Rw (b:But p h h')(e:h' q=none)(n:q≠p):h q=none:=by
 cases z:h q with
 |none=>rfl
 |some ds=>rw [b q ds n z] at e;cases e
def Nxt (E:EndsD)(V:SD->HD->Prop):EndsD:= {E with nx:=λσ3 h3=> ∃h4,Sub h4 h3/\V σ3 h4,ct:=λσ3 h3=> ∃h4,Sub h4 h3/\V σ3 h4,bk:=E.nx}
theorem Vu {ta:TAD}{g:TGD}{tb:TSD}{h1:HD}(n:G8)(W:G8->SD->HD->Prop)(hn:n<1000000)
 (ht: ∀R:G0 D->HD->Prop,R [.int (n:P2)] h1->ta σ h R)(w0:W 0 σ h1)(done: ∀σ' h',W n σ' h'->E.nx σ' h')
 (turn: ∀i σ' h',i<n->W i σ' h'->g (.int (i:P2)) σ' h' λσ2 h2=>tb (Nxt E λσ3 h4=>i+1<=n/\W (i+1) σ3 h4) σ2 h2):Ej (iR1 ta) g tb E σ h:=by
 refine ht _ ⟨(n:P2),rfl,by omega,by omega,n,λi σ' h'=>i<=n/\W i σ' h',⟨L0 _,w0⟩,?_⟩;rintro i σ' h' ⟨hi,w⟩;refine⟨_,rfl,by simp,λhl=> ?_,λd hd=> ?_⟩
 ·have:i=n:=by simp at hl;omega
  subst this;exact done _ _ w
 ·obtain⟨hi',e⟩:=Rv hd;have hi2:i<n:=by omega
  subst e;exact turn i σ' h' hi2 w
theorem NO {ti:TID}{g:TGD}{tb:TSD}{h1:HD}{j:ItD}(ds:G0 D)(W:G8->SD->HD->Prop)
 (ht: ∀R:ItD->HD->Prop,R j h1->ti σ h R)(hj: ∀i σ' h',W i σ' h'->j h'=some ds)(w0:W 0 σ h1)(done: ∀σ' h',W ds.length σ' h'->E.nx σ' h')
 (turn: ∀i d σ' h',ds[i]? =some d->W i σ' h'->g d σ' h' λσ2 h2=>tb (Nxt E λσ3 h4=>i+1<=ds.length/\W (i+1) σ3 h4) σ2 h2):Ej ti g tb E σ h:=by
 refine ht _ ⟨ds.length,λi σ' h'=>i<=ds.length/\W i σ' h',⟨L0 _,w0⟩,?_⟩;rintro i σ' h' ⟨hi,w⟩;refine⟨ds,hj i σ' h' w,P1 _,λhl=> ?_,λd hd=>turn i d σ' h' hd w⟩;have:i=ds.length:=by omega
 subst this;exact done _ _ w
theorem yW {g:TGD}{tb:TSD}{h1:HD}{j:ItD}(ds:G0 D)(W:G8->SD->HD->Prop)
 (hj: ∀i σ' h',W i σ' h'->j h'=some ds)(w0:W 0 σ h1)(done: ∀σ' h',W ds.length σ' h'->E.nx σ' h')
 (turn: ∀i d σ' h',ds[i]? =some d->W i σ' h'->g d σ' h' λσ2 h2=>tb (Nxt E λσ3 h4=>i+1<=ds.length/\W (i+1) σ3 h4) σ2 h2):
 ∃ (n:G8) (W:G8->SD->HD->Prop),W 0 σ h1/\ ∀i σ' h',W i σ' h'-> ∃ds,j h'=some ds/\ds.length<=n/\(ds.length<=i->E.nx σ' h')/\
  ∀d,ds[i]? =some d->g d σ' h' λσ2 h2=>tb {E with nx:=λσ3 h3=> ∃h4,Sub h4 h3/\W (i+1) σ3 h4,ct:=λσ3 h3=> ∃h4,Sub h4 h3/\W (i+1) σ3 h4,bk:=E.nx} σ2 h2:=by
 refine⟨ds.length,λi σ' h'=>i<=ds.length/\W i σ' h',⟨L0 _,w0⟩,?_⟩;rintro i σ' h' ⟨hi,w⟩;refine⟨ds,hj i σ' h' w,P1 _,λhl=> ?_,λd hd=>turn i d σ' h' hd w⟩;have:i=ds.length:=by omega
 subst this;exact done _ _ w
end L2
namespace L2
open PySem PySem.Spec PyProof.Rows PySem.SeqAt
mutual
def ToP (h:HD):D->C4->Prop
 |d,.none=>d= .non
 |d,.bool b=>d= .bl b
 |d,.int i=>d= .int i
 |d,.str x=>d= .str x
 |d,.tuple ps=> ∃ds,d= .tup ds/\ToPs h ds ps
 |d,.list ps=> ∃a ds,d= .lst a/\h a=some ds/\ToPs h ds ps
 |_,.dict _=>False
def ToPs (h:HD):G0 D->G0 C4->Prop
 |ds,[]=>ds= []
 |ds,p::ps=> ∃d r,ds=d::r/\ToP h d p/\ToPs h r ps
end
section
variable {X:Cx}{pins:G0 (G5×Obj)}{σ:St}{H:Hp}{s:G2}{h:HD}
mutual
theorem zo (I:Inv X pins σ H s)(rh:RelH X.K h H): ∀ {p:C4} {d:D} {v:V} {u:G1},ToP h d p->RelD X.K H d v->RelV v u-> ∃as,Reads s.heap u p as
 | .none,d,v,u,t,r,ru=>by cases (show d= .non from t);cases (show v= .non from r);cases (show u= .none from ru);exact⟨[],.none⟩
 | .bool b,d,v,u,t,r,ru=>by cases (show d= .bl b from t);cases (show v= .bl b from r);cases (show u= .bool b from ru);exact⟨[],.bool b⟩
 | .int i,d,v,u,t,r,ru=>by cases (show d= .int i from t);cases (show v= .int i from r);obtain⟨k,rfl⟩:=(show ∃t,u=dX i t from ru);exact⟨[],.int i k⟩
 | .str x,d,v,u,t,r,ru=>by cases (show d= .str x from t);cases (show v= .str x from r);obtain⟨k,rfl⟩:=(show ∃t,u=m5 x t from ru);exact⟨[],.str x k⟩
 | .tuple ps,d,v,u,t,r,ru=>by
  obtain⟨ds,e,ts⟩:=(show ∃ds,d= .tup ds/\ToPs h ds ps from t);subst e;obtain⟨a,vs,e,hH,rs⟩:=(show ∃a vs,v= .ref a/\H a=some (.tup vs)/\RelDs X.K H ds vs from r);subst e;cases (show u= .ref a from ru);obtain⟨its,rv,ht,_⟩:=I.tuple (SqT.of hH);obtain⟨o,ho,hc,n,hd⟩:=ht;obtain⟨as,q⟩:=reads_Ds I rh ts rs rv;exact⟨as,.tuple ho hc hd q⟩
 | .list ps,d,v,u,t,r,ru=>by
  obtain⟨a,ds,e,ha,ts⟩:=(show ∃a ds,d= .lst a/\h a=some ds/\ToPs h ds ps from t);subst e;obtain⟨vs,hH,rs⟩:=rh a ds ha;have e:v= .ref a:=r.1;subst e;cases (show u= .ref a from ru);obtain⟨its,rv,pl,_⟩:=I.list (SqL.of hH);obtain⟨o,ho,hc,n,hd⟩:=pl.isList;obtain⟨as,q⟩:=reads_Ds I rh ts rs rv;exact⟨a::as,.list ho hc hd q⟩
 | .dict _,_,_,_,t,_,_=>(show False from t).elim
theorem reads_Ds (I:Inv X pins σ H s)(rh:RelH X.K h H): ∀ {ps:G0 C4} {ds:G0 D} {vs:G0 V} {us:G0 G1},ToPs h ds ps->RelDs X.K H ds vs->Vals vs us-> ∃as,ReadsAll s.heap us ps as
 | [],ds,vs,us,t,r,rv=>by
  cases (show ds= [] from t);cases (show vs= [] from r);cases rv;exact⟨[],.nil⟩
 |p::ps,ds,vs,us,t,r,rv=>by
  obtain⟨d,dr,e,t1,t2⟩:=(show ∃d r,ds=d::r/\ToP h d p/\ToPs h r ps from t);subst e;obtain⟨v,vr,e,r1,r2⟩:=(show ∃v r,vs=v::r/\RelD X.K H d v/\RelDs X.K H dr r from r);subst e;cases rv with
  |cons ru rt=>
   obtain⟨as,q1⟩:=zo I rh t1 r1 ru;obtain⟨bs,q2⟩:=reads_Ds I rh t2 r2 rt;exact⟨as++bs,.cons q1 q2⟩
end
end
def eqE:RD2:=λx y h Q=>match x,y with
 | .int i,.int j=>Q (.bl (decide (i=j))) h
 | .bl i,.bl j=>Q (.bl (decide (i=j))) h
 | .str i,.str j=>Q (.bl (decide (i=j))) h
 |x,y=> ∃p q,ToP h x p/\ToP h y q/\shaped p=true/\shaped q=true/\Q (.bl (M9 p q)) h
def neE:RD2:=λx y h Q=>match x,y with
 | .int i,.int j=>Q (.bl (!decide (i=j))) h
 | .bl i,.bl j=>Q (.bl (!decide (i=j))) h
 | .str i,.str j=>Q (.bl (!decide (i=j))) h
 |x,y=> ∃p q,ToP h x p/\ToP h y q/\shaped p=true/\shaped q=true/\Q (.bl (!M9 p q)) h
section
variable {X:Cx}
def eqG:RD2:=λx y h Q=> ∃p q,ToP h x p/\ToP h y q/\shaped p=true/\shaped q=true/\Q (.bl (M9 p q)) h
def neG:RD2:=λx y h Q=> ∃p q,ToP h x p/\ToP h y q/\shaped p=true/\shaped q=true/\Q (.bl (!M9 p q)) h
theorem EH (hu:X.A.units+64<cLine):OpQ X (N3 .Eq) eqG:=by
 intro pins s σ H x y v u Q I rx ry h;obtain⟨dx,dy,h,Qd,r1,r2,rh,⟨p,q,t1,t2,s1,s2,qq⟩,post⟩:=h;obtain⟨as,a1⟩:=zo I rh t1 r1 rx;obtain⟨bs,b1⟩:=zo I rh t2 r2 ry;exact compareEq_shaped a1 b1 s1 s2 hu ⟨.bl _,H,I,rfl,post (.bl _) _ _ _ (.refl H) rh rfl qq⟩
theorem EI (hu:X.A.units+64<cLine):OpQ X (N3 .NotEq) neG:=by
 intro pins s σ H x y v u Q I rx ry h;obtain⟨dx,dy,h,Qd,r1,r2,rh,⟨p,q,t1,t2,s1,s2,qq⟩,post⟩:=h;obtain⟨as,a1⟩:=zo I rh t1 r1 rx;obtain⟨bs,b1⟩:=zo I rh t2 r2 ry;exact compareNe_shaped a1 b1 s1 s2 hu ⟨.bl _,H,I,rfl,post (.bl _) _ _ _ (.refl H) rh rfl qq⟩
theorem OpQ.or' {f:G1->G1->Sem G1}{r r' r2:RD2}(h:OpQ X f r)(h':OpQ X f r')(i: ∀x y hh Q,r2 x y hh Q->r x y hh Q\/r' x y hh Q):OpQ X f r2:=λpins s σ H x y v u Q I rx ry ⟨dx,dy,hd,Qd,r1,r2',rh,q,p⟩=>
 (i dx dy hd Qd q).elim (λz=>h pins s σ H x y v u Q I rx ry ⟨dx,dy,hd,Qd,r1,r2',rh,z,p⟩) λz=>h' pins s σ H x y v u Q I rx ry ⟨dx,dy,hd,Qd,r1,r2',rh,z,p⟩
theorem UK (hu:X.A.units+64<cLine):OpQ X (N3 .Eq) eqE:=oq_eq.or' (EH hu) λx y h Q q=>by
 unfold eqE at q;split at q
 ·exact .inl q
 ·exact .inl q
 ·exact .inl q
 ·exact .inr q
theorem Jv (hu:X.A.units+64<cLine):OpQ X (N3 .NotEq) neE:=oq_ne.or' (EI hu) λx y h Q q=>by
 unfold neE at q;split at q
 ·exact .inl q
 ·exact .inl q
 ·exact .inl q
 ·exact .inr q
def isN:D->N0
 | .non=>true
 |_=>false
def isV (neg:N0):RD2:=λx y h Q=>match y with
 | .non=>Q (.bl (neg !=isN x)) h
 | .bl c=>match x with
  | .bl b=>Q (.bl (neg !=(b==c))) h
  | .non=>Q (.bl neg) h
  |_=>False
 |_=>False
theorem Lm {K:G3}{H:Hp}{d:D}{v:V}(r:RelD K H d v):decide (v=V.non)=isN d:=by
 cases d with
 |non=>cases (show v= .non from r);rfl
 |bl b=>cases (show v= .bl b from r);rfl
 |int b=>cases (show v= .int b from r);rfl
 |str b=>cases (show v= .str b from r);rfl
 |tup ds=>obtain⟨a,vs,e,_⟩:=(show ∃a vs,v= .ref a/\H a=some (.tup vs)/\RelDs K H ds vs from r);subst e;rfl
 |lst a=>cases (show v= .ref a from r.1);rfl
 |dic x i=>obtain⟨a,e,_⟩:=(show ∃a,v= .ref a/\H a=some (.dK [(aX x,V.int i)]) from r);subst e;rfl
 |dct a=>cases (show v= .ref a from r);rfl
 |scr ns=>obtain⟨a,e,_⟩:=(show ∃a,v= .ref a/\Scr K H a ns from r);subst e;rfl
 |exc C=>obtain⟨x,o,vs,e,_⟩:=(show ∃x o vs,v= .ref x/\H x=some (.frz o (.own 0))/\o.cls= .ref C/\o.data= .fields vs from r);subst e;rfl
 |fn a=>cases (show v= .ref a from r.1);rfl
 |exf C fs=>obtain⟨x,o,vs,e,_⟩:=(show ∃x o vs,v= .ref x/\H x=some (.frz o (.own 0))/\o.cls= .ref C/\o.data= .fields vs/\FldH H o.dict fs from r);subst e;rfl
theorem EJ:OpQ X (N3 .Is) (isV false):=by
 intro pins s σ H x y v u Q I rx ry h;obtain⟨dx,dy,h,Qd,r1,r2,rh,q,post⟩:=h;cases dy with
 |non=>
  have e:y= .non:=r2;subst e;refine Az pins s σ H x .non v u Q I rx ry ⟨rfl,?_⟩;rw [Lm r1];have q':Qd (.bl (isN dx)) h:=by simpa [isV] using q
  exact post (.bl _) _ _ _ (.refl H) rh rfl q'
 |bl c=>
  have e:y= .bl c:=r2;subst e;cases (show u= .bool c from ry);cases dx<;>first
   |exact False.elim q
   |skip
  ·have e:x= .non:=r1;subst e;cases (show v= .none from rx);exact sC (by rfl) ⟨.bl false,H,I,rfl,post (.bl false) _ _ _ (.refl H) rh rfl q⟩
  ·rename_i b;have e:x= .bl b:=r1;subst e;cases (show v= .bool b from rx);have eb:(j6 b==j6 c)=(b==c):=by cases b<;>cases c<;>rfl
   refine sC (by rfl) ⟨.bl (b==c),H,I,by rw [eb];rfl,post (.bl (b==c)) _ _ _ (.refl H) rh rfl ?_⟩;simpa [isV] using q
 |_=>exact False.elim q
end
end L2
namespace HT
open PySem PySem.Spec PyProof.Rows
section
variable {prog:D5}{w:T5}{A:R6}{E:G1->G2->Prop}{s:G2}
theorem UL (k:P2){vs:G0 G1}{ns:G0 P2}(hi:cM vs ns)(j:G8)(h:j<ns.length): ∃t,vs[j]? =some (.int ns[j] t):=by
 induction hi generalizing j with
 |nil=>simp at h
 |cons n t r ih=>
  cases j with
  |zero=>exact⟨t,rfl⟩
  |succ j=>obtain⟨u,e⟩:=ih j (by simpa using h);exact⟨u,by simpa using e⟩
theorem Qf {a:G5}{vs:G0 G1}{ns:G0 P2}{k:P2}{t:Tok}{Q:G1->G2->Prop}(ht:qL s.heap a vs.toArray)(hi:cM vs ns)(hk:k∈ns)(h:Q (.int (ns.idxOf k:G8) s.toks) {s with toks:=s.toks+1}):
 D1 (D3 prog w) A (call (.builtin "tuple.index") [.ref a,.int k t]) Q E s:=by
 refine F4 iO ht.typeIs sQ ?_ (sD _ _);unfold Builtin.«tuple.index»;have hj:ns.idxOf k<ns.length:=cJ.mpr hk;have hlen:=hi.length;show D1 _ _ (Q8 (.ref a) >>= _) _ _ s;refine wpAny_bind (iK ht ?_);have go:D1 (D3 prog w) A.in1 (forIn [0:min vs.toArray.size vs.toArray.size] ((none,()):P0 cY×Unit) λi __s=>
  match vs.toArray[i]? with
  |some y=>do
   let b <-eqBool y (.int k t)
   if b=true then do
    let r <-retInt ((i:G8):P2)
    pure (G0j (some r,()))
    else pure (J8 (none,()))
  |x=>pure (J8 (none,())))
  (λr s'=>r=(some (.done (.ret (.int (ns.idxOf k:G8) s.toks))),())/\s'= {s with toks:=s.toks+1}) E s:=by
  rw [Std.Legacy.Range.forIn_eq_forIn_range'];refine pZ _ (λrest b s'=>b=(none,())/\s'=s/\ ∃i,i<=ns.idxOf k/\rest=List.range' i (ns.length-i)) _ ?_ ?_ _ _ ⟨rfl,rfl,0,L0 _,?_⟩
  ·rintro x rest b s' ⟨rfl,rfl,i,hil,e⟩;have hin:i<ns.length:=by omega
   obtain⟨n,hn⟩: ∃n,ns.length-i=n+1:=⟨ns.length-i-1,by omega⟩;rw [hn,qA] at e;injection e with e1 e2
   subst e1 e2;obtain⟨u,hu⟩:=UL k hi x hin;have hu':vs.toArray[x]? =some (.int ns[x] u):=by simpa using hu
   rw [hu'];refine wpAny_bind (pR ?_)
   by_cases hx:x=ns.idxOf k
   ·have he:(ns[x]==k)=true:=by subst hx;simpa using oE hj
    rw [R1 he];subst hx;refine wpAny_bind ?_;exact wpAny_bind (wpAny_mkInt (G7 (G7 ⟨rfl,rfl⟩)))
   ·have hlt:x<ns.idxOf k:=by omega
    have he: ¬ (ns[x]==k)=true:=by rw [ne_of_lt_idxOf hlt hin];exact D8
    rw [R3 he];refine G7 ⟨rfl,rfl,x+1,hlt,?_⟩;have:n=ns.length-(x+1):=by omega
    rw [this]
  ·rintro b s' ⟨rfl,rfl,i,hil,e⟩;have hin:i<ns.length:=by omega
   obtain⟨n,hn⟩: ∃n,ns.length-i=n+1:=⟨ns.length-i-1,by omega⟩;rw [hn,qA] at e;cases e
  ·simp [hlen]
 refine wpAny_bind (G7 (wpAny_bind (G7 (wpAny_bind (R7 go (λr s' e=> ?_) λ_ _ e=>e)))));obtain⟨rfl,rfl⟩:=e;exact G7 ⟨_,rfl,h⟩
end
section
variable {prog:D5}{w:T5}{A:R6}{E:G1->G2->Prop}{s:G2}
theorem Pm {l:G5}{vs:G0 G1}{ns:G0 P2}{Q:G1->G2->Prop}(hl:qL s.heap l vs.toArray)(hI:cM vs ns)(h64:vs.length<64)
 (h: ∀ (h1 h':M4) (out:M1 G1) (ns':G0 P2) (c:G8),(∀b o,s.heap.get? b=some o->h1.get? b=some o)->(∀b o,h1.get? b=some o->h'.get? b=some o)->h'.get? h1.objs.size=some (aJ "list" out c)->
  cM out.toList ns'->ns'.Perm ns->ns'.Pairwise (· <= ·)->Q (.ref h1.objs.size) {s with heap:=h'}):D1 (D3 prog w) A (call (.builtin "sorted") [.ref l]) Q E s:=by
 have few:vs.length<=sizeLine:=M5 (A7 h64 (by decide));obtain⟨o,at_,cl,n,dat⟩:=hl;refine b7 qP o7 o8 (o9 _) (wpAny_bind (G7 (wpAny_bind (wpAny_collect_seq l (.inr rfl) at_ cl dat (λh1 grown=> ?_) (by simpa using few)))));have fresh:(h1.push (aJ "list" vs.toArray 0)).get? h1.objs.size=some (aJ "list" vs.toArray 0):=S4 _ rfl;refine wpAny_bind (eQ (wpAny_bind (B5 (F4 mM ⟨_,fresh,rfl⟩ lS (list_sort_tree fresh hI h64 λout ns' i1 i2 i3=>⟨_,rfl,?_⟩) (mO _)))) few);obtain⟨c,lies⟩:=sortedHeap_at (vs:=vs) (out:=out) fresh;refine G7 ⟨_,rfl,h h1 _ out ns' c grown (λb ob e=> ?_) lies i1 i2 i3⟩;have lt:=D0 e;rw [sortedHeap_old (R5 lt) (by rw [size_push'];exact aZ lt)];exact G4 _ e
end
end HT
namespace L2
open PySem PySem.Spec PyProof.Rows
theorem YR: ∀ {ns:G0 P2} {us:G0 G1},Vals (ns.map V.int) us->cM us ns
 | [],_,r=>by cases r;exact .nil
 |n::ns,_,r=>by
  cases r with
  |cons r t=>obtain⟨k,rfl⟩:=r;exact .cons n k (YR t)
theorem WB: ∀ {ns:G0 P2} {us:G0 G1},cM us ns->Vals (ns.map V.int) us
 |_,_,.nil=> .nil
 |_,_,.cons n t r=> .cons ⟨t,rfl⟩ (WB r)
theorem zj {K:G3}{H:Hp}: ∀ {ns:G0 P2} {vs:G0 V},RelDs K H (ns.map D.int) vs->vs=ns.map V.int
 | [],_,h=>h
 |n::ns,vs,h=>by
  obtain⟨v,r,e,h1,h2⟩:=(show ∃v r,vs=v::r/\RelD K H (.int n) v/\RelDs K H (ns.map D.int) r from h);rw [e,zj h2,(show v= .int n from h1)];rfl
theorem WC: ∀ {xs:G0 V} {us:G0 G1},xs.length=us.length->(∀ (i:G8) (x:V) (u:G1),xs[i]? =some x->us[i]? =some u->RelV x u)->Vals xs us
 | [],[],_,_=> .nil
 |x::xs,u::us,hl,h=> .cons (h 0 x u rfl rfl) (WC (by simpa using hl) λi y w e1 e2=>h (i+1) y w (by simpa using e1) (by simpa using e2))
 | [],_::_,hl,_=>by simp at hl
 |_::_,[],hl,_=>by simp at hl
theorem YS (ns:G0 P2): ∀k,k<=ns.length->IB (λi=>ns.getD i 0) k=(ns.take k).sum
 |0,_=>by simp [IB]
 |k+1,h=>by
  have hk:k<ns.length:=by omega
  rw [IB,YS ns k (by omega),C0,P8 hk,qZ,S3,P8 hk];simp
variable {X:Cx}
theorem Vv (hc:X.calm=true):CallR X (.builtin "sum") (λxs H Q=> ∃ (a:G5) (ns:G0 P2),xs= [.ref a]/\SqL X.K H a (ns.map V.int)/\Q (.int ns.sum) H):=by
 intro pins s σ H xs us Q I r h;obtain⟨a,ns,rfl,hS,q⟩:=h;obtain⟨u,rfl,ru⟩:=vD r;cases ru;obtain⟨its,rv,pl,hz⟩:=I.list hS;have hl:=pl.isList;have hlt:a<s.heap.objs.size:=by obtain⟨_,e,_⟩:=hl;exact D0 e
 have hi:=YR rv;have hn:its.length=ns.length:=hi.length;refine call_sum_walkAnyS (aY hl ?_);refine⟨s.heap.objs.size,_,_,_,_,_,_,λi=>ns.getD i 0,rfl,(Walks.list (A:=X.A.in1) (show X.A.in1.handled=none from I.ok.hd hc) s.heap.objs.size a (R5 hlt) its.toArray).toS,⟨⟨_,S4 _ rfl,rfl,rfl⟩,hl.push _⟩,?_,?_,λs' t' hm=> ?_⟩
 ·intro b hb;simp only [P9,N6,or_false] at hb;show b<(s.heap.push _).objs.size;rw [aH];rcases hb with e|e
  ·rw [e];exact A0 _
  ·rw [e];exact aZ hlt
 ·intro i v hP;have e:its[i]? =some v:=by simpa using hP
  have hil:i<ns.length:=by rw [<-hn];exact(R0.mp e).1
  obtain⟨t,e2⟩:=HT.UL 0 hi i hil;rw [e] at e2;cases e2;refine⟨t,?_⟩;show dX ns[i] t=dX (ns.getD i 0) t;rw [S3,P8 hil];rfl
 ·have e:IB (λi=>ns.getD i 0) its.toArray.size=ns.sum:=by
   rw [R9,hn,YS ns _ (P1 _),qB]
  rw [e];obtain⟨h',g',d',tk',o'⟩:=s';obtain⟨m1,m2,m3,m4,_⟩:=hm;simp only at m1 m2 m3 m4;subst m2 m3 m4;refine⟨.int ns.sum,H,I.kept (t':=tk') (λb o e=>m1 b o (λz=> ?_) (G4 _ e)),⟨_,rfl⟩,q⟩;rw [P4.mp z] at e;exact absurd (D0 e) (N8 _)
def Ho:RDn:=λds h Q=> ∃ (a:G5) (ns:G0 P2),ds= [.lst a]/\h a=some (ns.map D.int)/\Q (.int ns.sum) (Vm h a)
theorem Ln (hc:X.calm=true):vF X (.builtin "sum") Ho:=(Vv hc).imp λxs H Q ⟨ds,h,Qd,r,rh,⟨a,ns,e,hd,q⟩,p⟩=>by
 subst e;obtain⟨v,e,r1⟩:=jA r;obtain⟨vs,hH,r2⟩:=rh a _ hd;have e1:v= .ref a:=r1.1;rw [zj r2] at hH;subst e e1;exact⟨a,ns,rfl,SqL.of hH,p (.int _) _ _ _ (.refl H) (rh.sub (Sub.drop h a)) rfl q⟩
def Lo:RDn:=λds h Q=> ∃ns:G0 P2,(ds= [.tup (ns.map D.int)]\/ ∃a,ds= [.lst a]/\h a=some (ns.map D.int))/\ns.length<64/\ ∀ (p:G5) (ns':G0 P2),h p=none->ns'.Perm ns->ns'.Pairwise (· <= ·)->Q (.lst p) (wc h p (ns'.map D.int))
theorem call_sorted_ints:CallR X (.builtin "sorted") (λxs H Q=> ∃ (a:G5) (ns:G0 P2),xs= [.ref a]/\(SqL X.K H a (ns.map V.int)\/SqT X.K H a (ns.map V.int))/\ns.length<64/\ ∀ (p:G5) (ns':G0 P2),H p=none->ns'.Perm ns->ns'.Pairwise (· <= ·)->Q (.ref p) (upd H p (.lst (ns'.map V.int)))):=by
 intro pins s σ H xs us Q I r h;obtain⟨a,ns,rfl,hS,h64,q⟩:=h;obtain⟨u,rfl,ru⟩:=vD r;cases ru;have fin: ∀ (vs:G0 G1) (out:M1 G1) (ns':G0 P2),cM out.toList ns'->ns'.Perm ns->ns'.Pairwise (· <= ·)->EP X pins σ Q (.ref (s.heap.objs.size+1)) {s with heap:=sortedAll s.heap vs out}:=λvs out ns' a1 a2 a3=>by
  obtain⟨e,he⟩:=sortedAll_at s.heap vs out;have hf:H (s.heap.objs.size+1)=none:=I.hok.fresh (iF _);refine⟨.ref _,_,I.laid (t':=s.toks) (o:= .lst (ns'.map V.int)) (λb ob q=>sortedAll_old q) (iF _) ?_,rfl,q _ ns' hf a2 a3⟩;refine⟨?_,out.toList,e,WB a1,he⟩;rw [G9,a2.length_eq];exact M5 (A7 h64 (by decide))
 rcases hS with hS|hS
 ·obtain⟨its,rv,pl,hz⟩:=I.list hS;have hi:=YR rv;exact sorted_ints pl.isList hi (by rw [hi.length];exact h64) (fin its)
 ·obtain⟨its,rv,pl,hz⟩:=I.tuple hS;have hi:=YR rv;refine HT.Pm pl hi (by rw [hi.length];exact h64) λh1 h' out ns' c k1 k2 lies a1 a2 a3=> ?_
  have I1:=I.kept (t':=s.toks) k1;refine⟨.ref _,_,I1.laid (t':=s.toks) (o:= .lst (ns'.map V.int)) k2 (P1 _) ⟨?_,out.toList,c,WB a1,lies⟩,rfl,q _ ns' (I1.hok.fresh (P1 _)) a2 a3⟩;rw [G9,a2.length_eq];exact M5 (A7 h64 (by decide))
theorem Rx:vF X (.builtin "sorted") Lo:=call_sorted_ints.imp λxs H Q ⟨ds,h,Qd,r,rh,⟨ns,hd,h64,q⟩,p⟩=>by
 have fin: ∀ (c:G5) (ns':G0 P2),H c=none->ns'.Perm ns->ns'.Pairwise (· <= ·)->Q (.ref c) (upd H c (.lst (ns'.map V.int))):=λc ns' hc a b=>
  p (.lst c) _ _ _ (.new hc) (rh.newL hc (yk ns')) ⟨rfl,_,je⟩ (q c ns' (rh.free hc) a b)
 rcases hd with e|⟨a,e,ha⟩
 ·subst e;obtain⟨v,e,r1⟩:=jA r;obtain⟨a,vs,e1,hH,r2⟩:=(show ∃a vs,v= .ref a/\H a=some (.tup vs)/\RelDs X.K H (ns.map D.int) vs from r1);rw [zj r2] at hH;subst e e1;exact⟨a,ns,rfl,.inr (SqT.of hH),h64,fin⟩
 ·subst e;obtain⟨v,e,r1⟩:=jA r;obtain⟨vs,hH,r2⟩:=rh a _ ha;have e1:v= .ref a:=r1.1;rw [zj r2] at hH;subst e e1;exact⟨a,ns,rfl,.inl (SqL.of hH),h64,fin⟩
def KB (to te:TED):TED:=λσ h Q=>to σ h λx h1=> ∃ns:G0 P2,x= .tup (ns.map D.int)/\te σ h1 λy h2=> ∃k:P2,y= .int k/\k∈ns/\Q (.int (ns.idxOf k:G8)) h2
section
variable {X:Cx}{o e i:S6}{to te ti:TED}{apos cpos:Pos}
theorem uc (ho:QE X o to)(he:QE X e te)(hbase:K6 o "index" X.env (C8 o X.env)=C8 o X.env:=by rfl)
 (hfew:((F7 cpos (P5 [e] X.env)).all (λx=> !x.1)&&(gG cpos (bL [] X.env)).all (λx=>x.1.isSome)&&decide ([e].length+([]:G0 aN).length+(if ([]:G0 aN).isEmpty then 0 else 1)<30))=true:=by rfl)
 (hline:(apos.endLine==cpos.line)=true:=by rfl)(hs:P5 [e] X.env=(false,C8 e X.env)::P5 [] X.env:=by rfl)(hplain:(F7 cpos (P5 [] X.env)).any (·.1)=false:=by rfl):
 QE X (.Call (.Attribute o "index" apos) [e] [] cpos) (KB to te):=by
 intro pins s σ H Q I h;obtain⟨σd,h,Qd,rs,rh,t,p⟩:=h;have h1:LE X.K to σ H (λv H1=> ∃ (ns:G0 P2) (a:G5) (h1:HD),v= .ref a/\H1 a=some (.tup (ns.map V.int))/\RelH X.K h1 H1/\Kept H H1/\te σd h1 λy h2=> ∃k:P2,y= .int k/\k∈ns/\Qd (.int (ns.idxOf k:G8)) h2):=
  ⟨σd,h,_,rs,rh,t,λd v h' H' k rh' rd ⟨ns,e,q⟩=>by
   subst e;obtain⟨a,vs,e1,hH,r2⟩:=(show ∃a vs,v= .ref a/\H' a=some (.tup vs)/\RelDs X.K H' (ns.map D.int) vs from rd);rw [zj r2] at hH;exact⟨ns,a,h',e1,hH,rh',k,q⟩⟩
 refine lE hbase hfew hline rfl (thn (ho pins s σ H _ I h1) λv s1 ⟨x,H1,I1,r1,ns,a,h1,ex,hH,rh1,k1,q1⟩=> ?_);subst ex;cases (show v= .ref a from r1);obtain⟨z,its,rv,ob,g1,g2,g3,g4⟩:=(show ObjOk X.prog X.w H1 s1.heap a (.tup (ns.map V.int)) from I1.hok a _ hH);refine⟨"tuple","tuple.index",tN,iO,tO,⟨ob,g1,g2⟩,λb e=>by cases e;exact⟨ob,g1,g3⟩,?_⟩;have h2:LA X.K (jP te vE) σ H1 (λus H2=> ∃ (k:P2) (h2:HD),us= [.int k]/\k∈ns/\RelH X.K h2 H2/\Kept H1 H2/\Qd (.int (ns.idxOf k:G8)) h2):=
  ⟨σd,h1,λds h2=> ∃k:P2,ds= [.int k]/\k∈ns/\Qd (.int (ns.idxOf k:G8)) h2,rs.mono k1,rh1,by
   show te σd h1 λy h2=> ∃k:P2,[y]= [.int k]/\k∈ns/\Qd (.int (ns.idxOf k:G8)) h2
   have:(λy h2=> ∃k:P2,y=D.int k/\k∈ns/\Qd (.int (ns.idxOf k:G8)) h2)=λy h2=> ∃k:P2,[y]= [D.int k]/\k∈ns/\Qd (.int (ns.idxOf k:G8)) h2:=by
    funext y h2;simp
   rw [<-this];exact q1,λds vs h' H' k rh' rd ⟨kk,e,hm,q⟩=>by
   subst e;obtain⟨v,e,r2⟩:=jA rd;cases (show v= .int kk from r2);exact⟨kk,h',e,hm,rh',k,q⟩⟩
 have hA:=(Rg he Co hs:QA X [e] (jP te vE)) cpos pins s1 σ H1 _ I1 h2;rw [hs] at hA ⊢;refine aM (by show (false||(F7 cpos (P5 [] X.env)).any (·.1))=false;rw [hplain]<;>rfl) (bM ?_);refine thn hA λus s2 ⟨vs,H2,I2,r2,k,h2,ev,hm,rh2,k2,q2⟩=> ?_
 subst ev;obtain⟨u,rfl,ru⟩:=vD r2;obtain⟨tk,rfl⟩:=ru;obtain⟨its2,rv2,ht2,_⟩:=I2.tuple (SqT.of (k2.tup _ _ hH));exact HT.Qf ht2 (YR rv2) hm ⟨.int _,H2,I2.tok _,⟨_,rfl⟩,p (.int _) _ _ _ (k1.trans k2) rh2 rfl q2⟩
end
def EK (ta:TA):TE:=λσ H Q=>ta σ H λvs H1=> ∃j:P2,vs= [.int j]/\ ∀p,H1 p=none->Q (.ref p) (upd H1 p (.rng 0 j))
variable {a:S6}{p pos:Pos}
theorem NP {ta:TA}(hg:Gl X "range")(hm:X.mg "range" =none)(ha:PA X [a] ta)(hs:P5 [a] X.env= [(false,C8 a X.env)]:=by rfl):PE X (.Call (.Name "range" p) [a] [] pos) (EK ta):=by
 intro pins s σ H Q I h;refine Call_ (YJ I hg hm y9 (X4 (thn (ha pos pins s σ H _ I h) λus s1 ⟨vs,H1,I1,r1,q1⟩=> ?_) hs rfl));obtain⟨j,e,q⟩:=q1;subst e;obtain⟨u,rfl,ru⟩:=vD r1;obtain⟨t,rfl⟩:=ru;refine uU ⟨.ref s1.heap.objs.size,_,I1.laid (o:= .rng 0 j) (λb ob q=>G4 _ q) (P1 _) ?_,rfl,q _ (I1.hok.fresh (P1 _))⟩;exact⟨_,_,_,S4 _ rfl⟩
theorem Vw (hc:X.calm=true):CallR X (.type "list") (λxs H Q=> ∃ (p:G5) (n:G8),xs= [.ref p]/\H p=some (.rng 0 (n:P2))/\n<=1000/\ ∀l,H l=none->Q (.ref l) (upd H l (.lst ((P7 n).map λ(k:G8)=>V.int (k:P2))))):=by
 intro pins s σ H xs us Q I r h;obtain⟨p,n,rfl,hH,hn,q⟩:=h;obtain⟨u,rfl,ru⟩:=vD r;cases ru;obtain⟨t,u,v,e⟩:=(show ObjOk X.prog X.w H s.heap p (.rng 0 (n:P2)) from I.hok p _ hH);refine call_list_range (n:=n) (I.ok.hd hc) e (small_one (by decide) (by decide) (by omega) (by omega)) ?_ (T9 hn (by decide)) λh' tk acc c' kp e' hacc=> ?_
 ·rw [sU];try (split<;>omega)
 ·refine⟨.ref s.heap.objs.size,_,I.laid (t':=tk) (o:= .lst ((P7 n).map λ(k:G8)=>V.int (k:P2))) (λb ob q=>kp b ob q) (P1 _) ?_,rfl,q _ (I.hok.fresh (P1 _))⟩;obtain⟨hs,hit⟩:=hacc;refine⟨by rw [G9,T1];exact M5 (jO hn),acc.toList,c',?_,by simpa using e'⟩;refine WC (by simp [hs]) λi x u hx hu=> ?_
  rw [D6] at hx;have hi:i<n:=by
   by_cases z:i<n
   ·exact z
   ·rw [E6 (by simpa using z)] at hx;cases hx
  rw [X0 hi] at hx;cases hx;obtain⟨t,e⟩:=hit i u (by simpa using hu);exact⟨t,by rw [e];simp⟩
def EL (ta:TAD):TED:=λσ h Q=>ta σ h λds h1=> ∃n:G8,ds= [.int (n:P2)]/\n<=1000/\ ∀p,h1 p=none->Q (.lst p) (wc h1 p ((P7 n).map λ(k:G8)=>D.int (k:P2)))
theorem UM {K:G3}{H:Hp}(f:G8->P2): ∀l:G0 G8,RelDs K H (l.map λk=>D.int (f k)) (l.map λk=>V.int (f k))
 | []=> .nil
 |k::l=> .cons rfl (UM f l)
theorem Kept.drop2 {H:Hp}{p q:G5}{o o':HO}(hp:H p=none)(hq:upd H p o q=none):Kept H (upd (upd H p o) q o'):=(Kept.new hp).trans (.new hq)
variable {p2:Pos}
theorem Hq {ta:TAD}{pos2:Pos}(hc:X.calm=true)(hg:Gl X "list")(hm:X.mg "list" =none)(hg2:Gl X "range")(hm2:X.mg "range" =none)(ha:QA X [a] ta)(hs:P5 [a] X.env= [(false,C8 a X.env)]:=by rfl)
 (h1:P5 [.Call (.Name "range" p2) [a] [] pos2] X.env=(false,C8 (.Call (.Name "range" p2) [a] [] pos2) X.env)::P5 [] X.env:=by rfl)(h2:(F7 pos (P5 [] X.env)).any (·.1)=false:=by rfl):
 QE X (.Call (.Name "list" p) [.Call (.Name "range" p2) [a] [] pos2] [] pos) (EL ta):=
 (Uw (Vw hc) hg hm (by decide +kernel) (zS (NP hg2 hm2 ha hs) pa_nil h1) (by decide) (by decide) h1 h2).imp
  λσ H Q ⟨σd,h,Qd,rs,rh,t,post⟩=>LA.bind rs rh t λds vs h1 H1 k1 rs1 rh1 r1 ⟨n,e,hn,q⟩=>by
   subst e;obtain⟨v,e,r2⟩:=jA r1;cases (show v= .int (n:P2) from r2);refine⟨n,e,λc hcn=>⟨c,n,rfl,je,hn,λl hl=> ?_⟩⟩;have rh2:=(rh1.new (o:= .rng 0 (n:P2)) hcn);exact post (.lst l) (.ref l) _ _ (k1.trans (.drop2 hcn hl)) (rh2.newL hl (UM (λk=>(k:P2)) (P7 n))) ⟨rfl,_,je⟩ (q l (rh2.free hl))
structure JE (X:Cx)(e:S6)(t:TED):Prop where
 to:QE X e t
structure JT (X:Cx)(e:S6)(t:TTD):Prop where
 to:QT X e t
structure JW (X:Cx)(e:S6)(t:TTD):Prop where
 to:QW X e t
structure JA (X:Cx)(e:G0 S6)(t:TAD):Prop where
 to:QA X e t
structure JS (X:Cx)(e:C5)(t:TSD):Prop where
 to:QS X e t
structure JSs (X:Cx)(e:G0 C5)(t:TSD):Prop where
 to:QSs X e t
structure JG (X:Cx)(e:S6)(t:TGD):Prop where
 to:QG X e t
structure JI (X:Cx)(tg e:S6)(t:TID):Prop where
 to:QI X tg e t
structure JO (X:Cx)(e:P0 S6)(t:TOD):Prop where
 to:QO X e t
section
variable {X:Cx}{a b c e:S6}{es rest:G0 S6}{ta tb tc te:TED}{t u:TAD}{tt tu:TTD}{pos:Pos}{f r r':RD2}
theorem jv (i:G8){x:Str}(hN:X.N[i]? =some x:=by rfl)(hv:Vis X.env.scope x:=by first|exact W6 rfl|exact cA (W6 rfl)|exact cA (cA rfl))(hd:(x==("__debug__" :Str))=false:=by decide)(hcd:(x==("__classdict__" :Str))=false:=by decide):JE X (.Name x pos) (Wg i):=⟨qv (i:=i) (hN:=hN) (hv:=hv) (hd:=hd) (hcd:=hcd)⟩
variable {j:G8}
theorem jj {i:P2}:JE X (.Constant (.int i) j pos) (dC (.int i)):=⟨Kv⟩
theorem jbl {i:N0}:JE X (.Constant (.bool i) j pos) (dC (.bl i)):=⟨qbl⟩
theorem Po:JE X (.Constant .none j pos) (dC .non):=⟨ku⟩
theorem yS {x:Str}:JE X (.Constant (.str x) j pos) (dC (.str x)):=⟨ky⟩
theorem Zp {x:Str}{i:P2}{tk:Tok}(hg:Gl X x)(hm:X.mg x=some (.int i tk))(hd:(x==("__debug__" :Str))=false:=by decide):JE X (.Name x pos) (dC (.int i)):=⟨TR (hg:=hg) (hm:=hm) (hd:=hd)⟩
theorem jop {op:xE}(ho:OpQ X (J6 op) f)(ha:JE X a ta)(hb:JE X b tb):JE X (.BinOp a op b pos) (dOp f ta tb):=⟨qop (ho:=ho) (ha:=ha.to) (hb:=hb.to)⟩
theorem ud {op:iA}(ho:OpQ X (N3 op) f)(ha:JE X a ta)(hb:JE X b tb)(hm:V7 op b=false):JE X (.Compare a [op] [b] pos) (dOp f ta tb):=⟨kz (ho:=ho) (ha:=ha.to) (hb:=hb.to) (hm:=hm)⟩
theorem Ry {op:iA}(ho:OpQ X (N3 op) f)(ha:JE X a ta)(hb:JE X b tb)(hm:V7 op b=false):JT X (.Compare a [op] [b] pos) (yV (dOp f ta tb)):=⟨TU (ho:=ho) (ha:=ha.to) (hb:=hb.to) (hm:=hm)⟩
theorem EM {op op':iA}(ho:OpQ X (N3 op) r)(ho':OpQ X (N3 op') r')(ha:JE X a ta)(hb:JE X b tb)(hc:JE X c tc)(hm:iU [op,op'] [b,c]=false:=by with_unfolding_all rfl):JE X (.Compare a [op,op'] [b,c] pos) (ZL r r' ta tb tc):=⟨Ea (ho:=ho) (ho':=ho') (ha:=ha.to) (hb:=hb.to) (hc:=hc.to) (hm:=hm)⟩
theorem RA {op op':iA}(ho:OpQ X (N3 op) r)(ho':OpQ X (N3 op') r')(ha:JE X a ta)(hb:JE X b tb)(hc:JE X c tc)(hm:iU [op,op'] [b,c]=false:=by with_unfolding_all rfl):JT X (.Compare a [op,op'] [b,c] pos) (yV (ZL r r' ta tb tc)):=⟨FN (ho:=ho) (ho':=ho') (ha:=ha.to) (hb:=hb.to) (hc:=hc.to) (hm:=hm)⟩
theorem vG (ha:JE X a ta)(he: ∀whole,isTrue a X.env whole=(do let v <-whole;hO a.pos;Z6 [v] (y8 v)):=by intro _;rfl):JT X a (yV ta):=⟨TV (ha:=ha.to) (he:=he)⟩
theorem OT (ha:JT X a tt):JW X (.BoolOp .Or [a] pos) tt:=⟨kH (ha:=ha.to)⟩
theorem OU (ha:JT X a tt)(hb:JW X (.BoolOp .Or (b::rest) pos) tu):JW X (.BoolOp .Or (a::b::rest) pos) (FK tt tu):=⟨kI (ha:=ha.to) (hb:=hb.to)⟩
theorem Jw (ha:JT X a tt):JT X (.UnaryOp .Not a pos) (UC tt):=⟨TW (ha:=ha.to)⟩
theorem Pp {op:BoolOp}(ha:JE X a ta):JE X (.BoolOp op [a] pos) ta:=⟨kJ (ha:=ha.to)⟩
theorem RB (ha:JE X a ta)(hb:JE X (.BoolOp .And (b::rest) pos) tb):JE X (.BoolOp .And (a::b::rest) pos) (Pf ta tb):=⟨kK (ha:=ha.to) (hb:=hb.to)⟩
theorem jor (ha:JE X a ta)(hb:JE X (.BoolOp .Or (b::rest) pos) tb):JE X (.BoolOp .Or (a::b::rest) pos) (TK ta tb):=⟨qor (ha:=ha.to) (hb:=hb.to)⟩
theorem Hr (ha:JE X a ta):JE X (.UnaryOp .Not a pos) (Pg ta):=⟨kL (ha:=ha.to)⟩
theorem jif {c:S6}(hc:JT X c tt)(ha:JE X a ta)(hb:JE X b tb):JE X (.IfExp c a b pos) (dIf tt ta tb):=⟨qif (hc:=hc.to) (ha:=ha.to) (hb:=hb.to)⟩
theorem zn:JA X [] vE:=⟨Co⟩
theorem zQ {k:G8}(h:JA X es t):JE X (.Tuple es k pos) (Cn t):=⟨kM (h:=h.to)⟩
theorem wQ (h:JA X es t):JE X (.List es pos) (NC t):=⟨kN (h:=h.to)⟩
end
section
variable {X:Cx}{st:C5}{sts:G0 C5}{t u:TSD}{e:S6}{te:TED}{pos:Pos}
theorem UN:JSs X [] Ys:=⟨Eg⟩
theorem jF (h1:JS X st t)(h2:JSs X sts u):JSs X (st::sts) (yR t u):=⟨FS (h1:=h1.to) (h2:=h2.to)⟩
theorem jL (h1:JS X st t):JSs X [st] t:=⟨Eh (h1:=h1.to)⟩
theorem yA (he:JE X e te)(hs:Q4 e none pos.line X.env=pure false:=by rfl):JS X (.Expr e pos) (FO te):=⟨Ha (he:=he.to) (hs:=hs)⟩
theorem zO (he:JE X e te):JS X (.Return (some e) pos) (Vo te):=⟨kO (he:=he.to)⟩
theorem EN {c:S6}{a b:G0 C5}{tc:TTD}(hc:JT X c tc)(ha:JSs X a t)(hb:JSs X b u):JS X (.If c a b pos) (Nh tc t u):=⟨kP (hc:=hc.to) (ha:=ha.to) (hb:=hb.to)⟩
variable {i:G8}{x:Str}
theorem KC {pos':Pos}(hN:X.N.Nodup)(hi:X.N[i]? =some x)(hx:Loc X.env.scope x)(he:JE X e te)(hs:Q4 e (some (.Name x pos')) pos.line X.env=pure false:=by rfl)(hf:X.fn x=true\/X.env.scope.names.lookup x=some .local:=by first|exact .inl rfl|exact .inr rfl|assumption):JS X (.Assign [.Name x pos'] e pos) (XZ i te):=⟨kQ (hN:=hN) (hi:=hi) (hx:=hx) (he:=he.to) (hs:=hs) (hf:=hf)⟩
theorem Lp (hN:X.N.Nodup)(hi:X.N[i]? =some x)(hx:Loc X.env.scope x)(hf:X.fn x=true\/X.env.scope.names.lookup x=some .local:=by first|exact .inl rfl|exact .inr rfl|assumption):JG X (.Name x pos) (gN i):=⟨FT (hN:=hN) (hi:=hi) (hx:=hx) (hf:=hf)⟩
theorem Ct {j:G8}{y:Str}{p1 p2:Pos}{k:G8}(hc:X.calm=true)(hN:X.N.Nodup)(hi:X.N[i]? =some x)(hj:X.N[j]? =some y)(hx:Loc X.env.scope x)(hy:Loc X.env.scope y)(hf:X.fn x=true\/X.env.scope.names.lookup x=some .local:=by first|exact .inl rfl|exact .inr rfl|assumption)(hf2:X.fn y=true\/X.env.scope.names.lookup y=some .local:=by first|exact .inl rfl|exact .inr rfl|assumption):JG X (.Tuple [.Name x p1,.Name y p2] k pos) (gT2 i j):=⟨Ei (hc:=hc) (hN:=hN) (hi:=hi) (hj:=hj) (hx:=hx) (hy:=hy) (hf:=hf) (hf2:=hf2)⟩
theorem Hs {tg:S6}{g:TGD}(he:JE X e te)(hg:JG X tg g)(hs:cE [tg] e pos.line X.env=pure false:=by rfl)(hsw:cF [tg] e X.env=pure none:=by rfl)(h1:(cQ [tg] X.env).map (·.2)= [dY tg X.env]:=by rfl):JS X (.Assign [tg] e pos) (TY te g):=⟨kT (he:=he.to) (hg:=hg.to) (hs:=hs) (hsw:=hsw) (h1:=h1)⟩
theorem KG {j:G8}{y:Str}{a b:S6}{ta:TAD}{px py pt:Pos}{kt k2 pt2}(hc:X.calm=true)(hN:X.N.Nodup)(hi:X.N[i]? =some x)(hj:X.N[j]? =some y)(hij:i≠j)(hx:X.env.scope.names.lookup x=some .local)(hy:X.env.scope.names.lookup y=some .local)(ha:JA X [a,b] ta)(hw:cF [.Tuple [.Name x px,.Name y py] kt pt] (.Tuple [a,b] k2 pt2) X.env=pure (some [x,y]))(hs:cE [.Tuple [.Name x px,.Name y py] kt pt] (.Tuple [a,b] k2 pt2) pos.line X.env=pure false:=by rfl):JS X (.Assign [.Tuple [.Name x px,.Name y py] kt pt] (.Tuple [a,b] k2 pt2) pos) (Tf i j ta):=⟨kU (hc:=hc) (hN:=hN) (hi:=hi) (hj:=hj) (hij:=hij) (hx:=hx) (hy:=hy) (ha:=ha.to) (hw:=hw) (hs:=hs)⟩
end
section
variable {X:Cx}{tg e iter elt:S6}{te:TED}{ti:TID}{g:TGD}{tb:TSD}{tt:TTD}{pos:Pos}{ta:TAD}{scope:H0}{js:G0 G8}{ifs:G0 S6}
theorem Qg (he:JE X e te):JI X tg e (iL te):=⟨FW (he:=he.to)⟩
theorem Ht {p:Pos}{a:S6}(hg:Gl X "range")(hm:X.mg "range" =none)(ha:JA X [a] ta)(hs:P5 [a] X.env= [(false,C8 a X.env)]:=by rfl):JI X tg (.Call (.Name "range" p) [a] [] pos) (iR1 ta):=⟨Hc (hg:=hg) (hm:=hm) (ha:=ha.to) (hs:=hs)⟩
theorem Ni {body:G0 C5}(hp:m7 (D3 X.prog X.w) X.A X.env X.xe)(hc:X.calm=true)(hi:JI X tg iter ti)(hg:JG X tg g)(hb:JSs X body tb)(hs: ∀x,T8 iter X.env x=pure x:=by intro _;rfl):JS X (.For tg iter body [] pos) (Ej ti g tb):=⟨kW (hp:=hp) (hc:=hc) (hi:=hi.to) (hg:=hg.to) (hb:=hb.to) (hs:=hs)⟩
theorem vU:PTs X [] (LT X.K Zl):=FX
theorem RC {c:S6}(hc:JT X c tt):PTs X [c] (LT X.K tt):=FY (hc:=hc.to)
theorem jlc {i:G8}{x:Str}{p:Pos}(hc:X.calm=true)(S:BlockOk X scope js)(hi:JI X (.Name x p) iter ti)(hj:i∈js)(hN:X.N.Nodup)(hx:X.N[i]? =some x)(hl:scope.names.lookup x=some .local\/scope.names.lookup x=some .cell)(ht: ∀X',ji X scope X'->PTs X' ifs (LT X'.K tt))(he: ∀X',ji X scope X'->JE X' elt te)(hs: ∀x,T8 iter X.env x=pure x:=by intro _;rfl):JE X (.ListComp elt [⟨.Name x p,iter,ifs,0⟩] scope pos) (XQ (bN i) js ti tt te):=⟨qlc (hc:=hc) (S:=S) (hi:=hi.to) (hj:=hj) (hN:=hN) (hx:=hx) (hl:=hl) (ht:=ht) (he:=λX' hX=>(he X' hX).to) (hs:=hs)⟩
end
section
variable {X:Cx}{k:G8}{f:G5}{fd:R4}{ps:G0 Str}{spd:RDn}{x:Str}{p pos:Pos}{e:S6}{es:G0 S6}{t:TAD}
theorem Hu (F:FnOk X.prog X.w X.K X.mg X.base CX0 k f fd ps (LSp X.K spd))(hr:Room k X.A)(hg:Gl X x)(hm:X.mg x=some (.ref f))(hk:E2 X.K (.ref f)=true)(hb:Binds X.K fd ps [])(ha:JA X (e::es) t)(hdb:(x==("__debug__" :Str))=false:=by decide)(he:P5 (e::es) X.env=(false,C8 e X.env)::P5 es X.env:=by rfl)(hpl:(F7 pos (P5 es X.env)).any (·.1)=false:=by rfl):JE X (.Call (.Name x p) (e::es) [] pos) (dCB spd t):=⟨Hd (F:=F) (hr:=hr) (hg:=hg) (hm:=hm) (hk:=hk) (hb:=hb) (ha:=ha.to) (hdb:=hdb) (he:=he) (hpl:=hpl)⟩
theorem yX {id:B2}{r:RDn}(hc:vF X (.builtin id) r)(hg:Gl X x)(hm:X.mg x=none)(hv:K1 x=some (.builtin id))(ha:JA X (e::es) t)(hn:x≠ "__name__" :=by decide)(hdb:(x==("__debug__" :Str))=false:=by decide)(he:P5 (e::es) X.env=(false,C8 e X.env)::P5 es X.env:=by rfl)(hpl:(F7 pos (P5 es X.env)).any (·.1)=false:=by rfl):JE X (.Call (.Name x p) (e::es) [] pos) (dCB r t):=⟨En (hc:=hc) (hg:=hg) (hm:=hm) (hv:=hv) (ha:=ha.to) (hn:=hn) (hdb:=hdb) (he:=he) (hpl:=hpl)⟩
theorem zp {T:B2}{r:RDn}(hc:vF X (.type T) r)(hg:Gl X x)(hm:X.mg x=none)(hv:K1 x=some (.type T))(ha:JA X (e::es) t)(hn:x≠ "__name__" :=by decide)(hdb:(x==("__debug__" :Str))=false:=by decide)(he:P5 (e::es) X.env=(false,C8 e X.env)::P5 es X.env:=by rfl)(hpl:(F7 pos (P5 es X.env)).any (·.1)=false:=by rfl):JE X (.Call (.Name x p) (e::es) [] pos) (dCB r t):=⟨FZ (hc:=hc) (hg:=hg) (hm:=hm) (hv:=hv) (ha:=ha.to) (hn:=hn) (hdb:=hdb) (he:=he) (hpl:=hpl)⟩
end
section
variable {X:Cx}{iter elt:S6}{te:TED}{ti:TID}{tt:TTD}{pos spos:Pos}{scope:H0}{js:G0 G8}{ifs:G0 S6}
theorem EO {i k:G8}{x y:Str}{p py:Pos}(hc:X.calm=true)(hN:X.N.Nodup)(hk:X.N[k]? =some y)(hy:Loc X.env.scope y)(S:BlockOk X scope js)(hi:JI X (.Name x p) iter ti)(hj:i∈js)(hx:X.N[i]? =some x)(hl:scope.names.lookup x=some .local\/scope.names.lookup x=some .cell)(ht: ∀X',ji X scope X'->PTs X' ifs (LT X'.K tt))(he: ∀X',ji X scope X'->JE X' elt te)(hsw:Q4 (.ListComp elt [⟨.Name x p,iter,ifs,0⟩] scope pos) (some (.Name y py)) spos.line X.env=pure true:=by rfl)(hf:X.fn y=true\/X.env.scope.names.lookup y=some .local:=by first|exact .inl rfl|exact .inr rfl|assumption)(hs: ∀x,T8 iter X.env x=pure x:=by intro _;rfl):JS X (.Assign [.Name y py] (.ListComp elt [⟨.Name x p,iter,ifs,0⟩] scope pos) spos) (XZ k (XQ (bN i) js ti tt te)):=⟨Eo (hc:=hc) (hN:=hN) (hk:=hk) (hy:=hy) (S:=S) (hi:=hi.to) (hj:=hj) (hx:=hx) (hl:=hl) (ht:=ht) (he:=λX' hX=>(he X' hX).to) (hsw:=hsw) (hf:=hf) (hs:=hs)⟩
end
section
variable {X:Cx}{iter iter' elt:S6}{te:TED}{ti ti':TID}{tt tt':TTD}{pos:Pos}{scope:H0}{js:G0 G8}{ifs ifs':G0 S6}
theorem ue {i i':G8}{x y:Str}{p py:Pos}(hc:X.calm=true)(S:BlockOk X scope js)(hi:JI X (.Name x p) iter ti)(hj:i∈js)(hj':i'∈js)(hne:i≠i')(hN:X.N.Nodup)(hx:X.N[i]? =some x)(hy:X.N[i']? =some y)(hl:scope.names.lookup x=some .local\/scope.names.lookup x=some .cell)(hl':scope.names.lookup y=some .local\/scope.names.lookup y=some .cell)(ht: ∀X',ji X scope X'->PTs X' ifs (LT X'.K tt))(hi': ∀X',ji X scope X'->JI X' (.Name y py) iter' ti')(ht': ∀X',ji X scope X'->PTs X' ifs' (LT X'.K tt'))(he: ∀X',ji X scope X'->JE X' elt te)(hs: ∀x,T8 iter X.env x=pure x:=by intro _;rfl)(hs': ∀env x,T8 iter' env x=pure x:=by intro _ _;rfl):JE X (.ListComp elt [⟨.Name x p,iter,ifs,0⟩,⟨.Name y py,iter',ifs',0⟩] scope pos) (NF (bN i) js ti tt i' ti' tt' te):=⟨kX (hc:=hc) (S:=S) (hi:=hi.to) (hj:=hj) (hj':=hj') (hne:=hne) (hN:=hN) (hx:=hx) (hy:=hy) (hl:=hl) (hl':=hl') (ht:=ht) (hi':=λX' hX=>(hi' X' hX).to) (ht':=ht') (he:=λX' hX=>(he X' hX).to) (hs:=hs) (hs':=hs')⟩
end
section
variable {X:Cx}{a b e:S6}{ta tb te:TED}{pos p2:Pos}
theorem jix (ha:JE X a ta)(hb:JE X b tb)(hs:Vh b):JE X (.Subscript a b pos) (dOp ixD ta tb):=⟨qix (ha:=ha.to) (hb:=hb.to) (hs:=hs)⟩
end
theorem WD {ta:TED}{T:B2}{t:Str}(hT:T∈ ["tuple","int","bool","list","str"])(hg:Gl X "isinstance")(hm:X.mg "isinstance" =none)(hg2:Gl X t)(hm2:X.mg t=none)(hv:K1 t=some (.type T))(ha:JE X a ta)(hn:t≠ "__name__" :=by decide)(hd:(t==("__debug__" :Str))=false:=by decide)(h1:P5 [a,.Name t p2] X.env=(false,C8 a X.env)::P5 [.Name t p2] X.env:=by rfl)(h2:(F7 pos (P5 [.Name t p2] X.env)).any (·.1)=false:=by rfl):JE X (.Call (.Name "isinstance" p) [a,.Name t p2] [] pos) (dIs T ta):=⟨Hk (hT:=hT) (hg:=hg) (hm:=hm) (hg2:=hg2) (hm2:=hm2) (hv:=hv) (ha:=ha.to) (hn:=hn) (hd:=hd) (h1:=h1) (h2:=h2)⟩
section
variable {X:Cx}{o e i:S6}{to te ti:TED}{apos cpos pos:Pos}
theorem EQ (ho:JE X o to)(he:JE X e te)(hbase:K6 o "append" X.env (C8 o X.env)=C8 o X.env:=by rfl)(hfew:((F7 cpos (P5 [e] X.env)).all (λx=> !x.1)&&(gG cpos (bL [] X.env)).all (λx=>x.1.isSome)&&decide ([e].length+([]:G0 aN).length+(if ([]:G0 aN).isEmpty then 0 else 1)<30))=true:=by rfl)(hline:(apos.endLine==cpos.line)=true:=by rfl)(hs:P5 [e] X.env=(false,C8 e X.env)::P5 [] X.env:=by rfl)(hplain:(F7 cpos (P5 [] X.env)).any (·.1)=false:=by rfl):JE X (.Call (.Attribute o "append" apos) [e] [] cpos) (Ky to te):=⟨kZ (ho:=ho.to) (he:=he.to) (hbase:=hbase) (hfew:=hfew) (hline:=hline) (hs:=hs) (hplain:=hplain)⟩
theorem Cu (ho:JE X o to)(hi:JE X i ti)(ha: ∀v,dY (.Subscript o i pos) X.env v=(do
 let ov <-Z6 [v] (C8 o X.env)
 let iv <-Z6 [v,ov] (C8 i X.env)
 hO pos
 Z6 [v,ov,iv] (rK ov iv v)
 IH [v,ov,iv] []):=by intro _;rfl):JG X (.Subscript o i pos) (Eu to ti):=⟨Ev (ho:=ho.to) (hi:=hi.to) (ha:=ha)⟩
end
theorem jpt {e:S6}{t:TTD}(h:JW X e t):JT X e t:=⟨qpt (h:=h.to)⟩
theorem yB:JO X none Rr:=⟨Lh⟩
variable {te:TED}
theorem wD {e:S6}(he:JE X e te):JO X (some e) (Ew te):=⟨Li (he:=he.to)⟩
theorem vI {e:S6}{lo hi:P0 S6}{tl th:TOD}(he:JE X e te)(hl:JO X lo tl)(hu:JO X hi th):JE X (.Subscript e (.Slice lo hi none p2) pos) (dSl te tl th):=⟨Ey (he:=he.to) (hl:=hl.to) (hu:=hu.to)⟩
theorem ER {ta:TED}(ha:JE X a ta):JE X (.UnaryOp .USub a pos) (dUn OS ta):=⟨Kz (ha:=ha.to)⟩
theorem KH {e:S6}{p3 p4:Pos}{j:G8}(he:JE X e te):JE X (.Subscript e (.Slice none none (some (.UnaryOp .USub (.Constant (.int 1) j p4) p3)) p2) pos) (KA te):=⟨ub (he:=he.to)⟩
theorem Cv {ks:G0 (P0 S6)}{vs:G0 S6}{x:Str}{i:P2}(h:Qc ks vs=some (x,i):=by rfl):JE X (.Dict ks vs pos) (UJ x i):=⟨EA (h:=h)⟩
theorem zR {tg e:S6}(he:JE X e te):JI X tg e (iS te):=⟨EF (he:=he.to)⟩
theorem Gk {st:C5}:JS X st Rs:=⟨EG⟩
theorem jac {e:S6}{es:G0 S6}{t:TAD}(ha:JE X e te)(hr:JA X es t)(h:zv e=true:=by rfl):JA X (e::es) (jP te t):=⟨qac (ha:=ha.to) (hr:=hr.to) (h:=h)⟩
section
variable {X:Cx}{o e i:S6}{to te ti:TED}{apos cpos:Pos}
theorem uf (ho:JE X o to)(he:JE X e te)(hbase:K6 o "index" X.env (C8 o X.env)=C8 o X.env:=by rfl)(hfew:((F7 cpos (P5 [e] X.env)).all (λx=> !x.1)&&(gG cpos (bL [] X.env)).all (λx=>x.1.isSome)&&decide ([e].length+([]:G0 aN).length+(if ([]:G0 aN).isEmpty then 0 else 1)<30))=true:=by rfl)(hline:(apos.endLine==cpos.line)=true:=by rfl)(hs:P5 [e] X.env=(false,C8 e X.env)::P5 [] X.env:=by rfl)(hplain:(F7 cpos (P5 [] X.env)).any (·.1)=false:=by rfl):JE X (.Call (.Attribute o "index" apos) [e] [] cpos) (KB to te):=⟨uc (ho:=ho.to) (he:=he.to) (hbase:=hbase) (hfew:=hfew) (hline:=hline) (hs:=hs) (hplain:=hplain)⟩
end
theorem Hv {ta:TAD}{pos2:Pos}(hc:X.calm=true)(hg:Gl X "list")(hm:X.mg "list" =none)(hg2:Gl X "range")(hm2:X.mg "range" =none)(ha:JA X [a] ta)(hs:P5 [a] X.env= [(false,C8 a X.env)]:=by rfl)(h1:P5 [.Call (.Name "range" p2) [a] [] pos2] X.env=(false,C8 (.Call (.Name "range" p2) [a] [] pos2) X.env)::P5 [] X.env:=by rfl)(h2:(F7 pos (P5 [] X.env)).any (·.1)=false:=by rfl):JE X (.Call (.Name "list" p) [.Call (.Name "range" p2) [a] [] pos2] [] pos) (EL ta):=⟨Hq (hc:=hc) (hg:=hg) (hm:=hm) (hg2:=hg2) (hm2:=hm2) (ha:=ha.to) (hs:=hs) (h1:=h1) (h2:=h2)⟩
section
variable {P:D5}{w:T5}{K:G3}{mg:Str->P0 G1}{base:M4}
theorem Fun.okJ {x qual:Str}{st:C5}{f:G5}{fd:R4}{N ps:G0 Str}{k:G8}{spd:RDn}(F:Fun K x qual st f fd)(S:FnScope N ps (jb st))(len: ∀ds h Q,spd ds h Q->ds.length=ps.length)
 (tb:TSD)(hbody: ∀ (cdv:G1) (A:R6) (outer:G0 Env) (s:G2) (H:Hp) (E:XK),Room k (A.deeper (E4 qual (jb st) s.heap.objs.size f cdv))->JSs (Yr CX0 P w K mg base N qual (jb st) f cdv A outer s H E).nox (jJ st) tb)
 (read: ∀ds h Q,spd ds h Q->tb (Wy Q) (jR N ds) h):FnOk P w K mg base CX0 (k+1) f fd ps (LSp K spd):=F.okD S len tb (λcdv A outer s H E hr=>(hbody cdv A outer s H E hr).to) read
end
def wE (r:G0 P2):D:= .tup (r.map D.int)
def jG (T:G0 (G0 P2)):D:= .tup (T.map wE)
def WE (n:G8)(r:G0 P2):Prop:=r.length=n/\ ∀x∈r,0<=x/\x<=1000000
def GoodTab (n:G8)(T:G0 (G0 P2)):Prop:=T.length=n/\ ∀r∈T,WE n r
structure Sq (n e:G8)(T:G0 (G0 P2)):Prop where
 len:T.length=n
 row: ∀r∈T,r.length=n
 nn: ∀r∈T,∀x∈r,0<=x
 bit: ∀r∈T,∀x∈r,x<2^e
variable {n:G8}{T:G0 (G0 P2)}
theorem GoodTab.sq (g:GoodTab n T):Sq n 20 T:=⟨g.1,λr hr=>(g.2 r hr).1,λr hr x hx=>((g.2 r hr).2 x hx).1,λr hr x hx=>Int.lt_of_le_of_lt ((g.2 r hr).2 x hx).2 (by decide)⟩
variable {e f:G8}
theorem Sq.mono (h:Sq n e T)(l:e<=f):Sq n f T:=⟨h.len,h.row,h.nn,λr hr x hx=>oF (h.bit r hr x hx) (by
 have:(2:G8)^e<=2^f:=V9 (by decide) l;have h2:((2^e:G8):P2)<=((2^f:G8):P2):=by exact_mod_cast this
 simpa using h2)⟩
def ent (T:G0 (G0 P2))(i j:G8):P2:=(T.getD i []).getD j 0
def mkT (n:G8)(f:G8->G8->P2):G0 (G0 P2):=(P7 n).map λi=>(P7 n).map λj=>f i j
theorem YT {i j:G8}{f:G8->G8->P2}(hi:i<n)(hj:j<n):ent (mkT n f) i j=f i j:=by
 unfold ent mkT;simp [S3,hi,hj]
theorem wo {α:Type}(xs:G0 α)(d:α):xs=(P7 xs.length).map λi=>xs.getD i d:=by
 apply List.ext_getElem (by simp);intro i h1 h2;simp [S3,h1]
theorem Sq.eq_mk (h:Sq n e T):T=mkT n (ent T):=by
 have h1:=wo T [];rw [h.len] at h1;unfold mkT
 conv=>lhs;rw [h1]
 apply B3;intro i hi;have hi':i<T.length:=by rw [h.len];exact S5.mp hi
 have hr:(T.getD i []).length=n:=by
  rw [S3,P8 hi'];exact h.row _ (A1 hi')
 have h2:=wo (T.getD i []) 0;rw [hr] at h2;exact h2
theorem NQ {f g:G8->G8->P2}(h: ∀i j,i<n->j<n->f i j=g i j):mkT n f=mkT n g:=by
 unfold mkT;apply B3;intro i hi;apply B3;intro j hj;exact h i j (S5.mp hi) (S5.mp hj)
theorem Sq.of_mk {f:G8->G8->P2}(h0: ∀i j,i<n->j<n->0<=f i j)(h1: ∀i j,i<n->j<n->f i j<2^e):Sq n e (mkT n f):=by
 have key: ∀r∈mkT n f,∃i,i<n/\r=(P7 n).map λj=>f i j:=λr hr=>by
  obtain⟨i,hi,e⟩:=S2.mp hr;exact⟨i,S5.mp hi,e.symm⟩
 refine⟨by simp [mkT],λr hr=> ?_,λr hr x hx=> ?_,λr hr x hx=> ?_⟩
 ·obtain⟨i,_,e⟩:=key r hr;rw [e];simp
 ·obtain⟨i,hi,e⟩:=key r hr;rw [e] at hx;obtain⟨j,hj,e2⟩:=S2.mp hx;rw [<-e2];exact h0 i j hi (S5.mp hj)
 ·obtain⟨i,hi,e⟩:=key r hr;rw [e] at hx;obtain⟨j,hj,e2⟩:=S2.mp hx;rw [<-e2];exact h1 i j hi (S5.mp hj)
theorem Sq.ent_nn (h:Sq n e T){i j:G8}(hi:i<n)(hj:j<n):0<=ent T i j/\ent T i j<2^e:=by
 have hi':i<T.length:=by rw [h.len];exact hi
 have hr:T.getD i []=T[i]:=by rw [S3,P8 hi'];rfl
 have hm:T[i]∈T:=A1 hi';have hj':j<T[i].length:=by rw [h.row _ hm];exact hj
 have he:ent T i j=T[i][j]:=by unfold ent;rw [hr,S3,P8 hj'];rfl
 rw [he];exact⟨h.nn _ hm _ (A1 hj'),h.bit _ hm _ (A1 hj')⟩
variable {U:G0 (G0 P2)}
theorem Sq.ext (h:Sq n e T)(g:Sq n f U)(k: ∀i j,i<n->j<n->ent T i j=ent U i j):T=U:=by
 rw [h.eq_mk,g.eq_mk];exact NQ k
def zf (n:G8)(f:G8->P2):P2:=((P7 n).map f).sum
theorem yl (f:G8->P2):zf 0 f=0:=rfl
theorem jM (n:G8)(f:G8->P2):zf (n+1) f=zf n f+f n:=by
 unfold zf;rw [List.range_succ,L8,qZ];simp
theorem zw {f g:G8->P2}(h: ∀k,k<n->f k=g k):zf n f=zf n g:=by
 unfold zf;congr 1;apply B3;intro k hk;exact h k (S5.mp hk)
theorem Vx {f:G8->P2}(h: ∀k,k<n->0<=f k):0<=zf n f:=by
 induction n with
 |zero=>exact Int.le_refl _
 |succ n ih=>rw [jM];have:=ih λk hk=>h k (by omega);have:=h n (by omega);omega
theorem NR {f:G8->P2}{b:P2}(h: ∀k,k<n->f k<=b):zf n f<=n*b:=by
 induction n with
 |zero=>simp [yl]
 |succ n ih=>
  rw [jM];have h1:=ih λk hk=>h k (by omega);have h2:=h n (by omega)
  have:((n+1:G8):P2)*b=(n:P2)*b+b:=by rw [Int.natCast_add,Int.add_mul];simp
  omega
theorem RD (n:G8)(f g:G8->P2):zf n (λk=>f k+g k)=zf n f+zf n g:=by
 induction n with
 |zero=>rfl
 |succ n ih=>rw [jM,jM,jM,ih];omega
theorem WF (n:G8)(c:P2)(f:G8->P2):zf n (λk=>c*f k)=c*zf n f:=by
 induction n with
 |zero=>simp [yl]
 |succ n ih=>rw [jM,jM,ih,Int.mul_add]
theorem Pq (n:G8)(c:P2)(f:G8->P2):zf n (λk=>f k*c)=zf n f*c:=by
 rw [pA,<-WF];exact zw λk _=>pA _ _
theorem Pr (m n:G8)(f:G8->G8->P2):zf m (λi=>zf n (f i))=zf n (λj=>zf m λi=>f i j):=by
 induction m with
 |zero=>
  rw [yl]
  induction n with
  |zero=>rfl
  |succ n ih=>rw [jM,<-ih,yl];rfl
 |succ m ih=>
  rw [jM,ih,<-RD];exact zw λj _=>(jM m λi=>f i j).symm
theorem UO {f:G8->P2}{i:G8}(hi:i<n)(h: ∀k,k<n->k≠i->f k=0):zf n f=f i:=by
 induction n with
 |zero=>omega
 |succ n ih=>
  rw [jM]
  by_cases e:i=n
  ·subst e;have:zf i f=0:=by
    have:zf i f=zf i (λ_=>0*1):=zw λk hk=>by rw [h k (by omega) (by omega)];rfl
    rw [this,WF];simp
   omega
  ·rw [ih (by omega) λk hk hne=>h k (by omega) hne,h n (by omega) (by omega)];omega
theorem RE {f:G8->P2}(h: ∀k,k<n->0<=f k):0<zf n f↔ ∃k,k<n/\0<f k:=by
 induction n with
 |zero=>simp [yl]
 |succ n ih=>
  rw [jM];have h1:=Vx λk (hk:k<n)=>h k (by omega)
  have h2:=h n (by omega);have ih':=ih λk hk=>h k (by omega)
  constructor
  ·intro z
   by_cases q:0<f n
   ·exact⟨n,by omega,q⟩
   ·obtain⟨k,a,b⟩:=ih'.mp (by omega);exact⟨k,by omega,b⟩
  ·rintro ⟨k,a,b⟩
   by_cases q:k=n
   ·subst q;omega
   ·have:=ih'.mpr ⟨k,by omega,b⟩;omega
def Yt (n:G8)(T U:G0 (G0 P2)):G0 (G0 P2):=mkT n λi j=>zf n λk=>ent T i k*ent U k j
theorem Sq.mul (h:Sq n e T)(g:Sq n f U)(hn:n<=8):Sq n (e+f+3) (Yt n T U):=by
 have nn: ∀i j,i<n->j<n-> ∀k,k<n->0<=ent T i k*ent U k j:=λi j hi hj k hk=>sE (h.ent_nn hi hk).1 (g.ent_nn hk hj).1
 refine Sq.of_mk (λi j hi hj=>Vx (nn i j hi hj)) λi j hi hj=> ?_
 have hle: ∀k,k<n->ent T i k*ent U k j<=2^e*2^f-1:=λk hk=>by
  have a:=h.ent_nn hi hk;have b:=g.ent_nn hk hj;have:ent T i k*ent U k j<2^e*2^f:=by
   have p:(0:P2)<2^f:=qQ (by decide)
   calc ent T i k*ent U k j<=ent T i k*2^f:=Int.mul_le_mul_of_nonneg_left (u3 b.2) a.1
    _<2^e*2^f:=Int.mul_lt_mul_of_pos_right a.2 p
  omega
 have s:=NR hle;have p:(0:P2)<2^e*2^f:=xN (qQ (by decide)) (qQ (by decide));have e1:(2:P2)^(e+f+3)=8*(2^e*2^f):=by rw [xO,xO];rw [pA];rfl
 rw [e1];have hn':(n:P2)<=8:=by omega
 have:(n:P2)*(2^e*2^f-1)<=8*(2^e*2^f-1):=Int.mul_le_mul_of_nonneg_right hn' (by omega);omega
theorem vV {i j:G8}(hi:i<n)(hj:j<n):ent (Yt n T U) i j=zf n λk=>ent T i k*ent U k j:=YT hi hj
def RF (n:G8):G0 (G0 P2):=mkT n λi j=>if i=j then 1 else 0
theorem Sq.one (n:G8):Sq n 1 (RF n):=Sq.of_mk (f:=λi j=>if i=j then 1 else 0) (λi j _ _=>by split<;>decide) λi j _ _=>by split<;>decide
theorem mul_assoc {g:G8}{V:G0 (G0 P2)}(hT:Sq n e T)(hU:Sq n f U)(hV:Sq n g V)(hn:n<=8):Yt n (Yt n T U) V=Yt n T (Yt n U V):=by
 refine((hT.mul hU hn).mul hV hn).ext (hT.mul (hU.mul hV hn) hn) λi j hi hj=> ?_
 rw [vV hi hj,vV hi hj];have e1:(zf n λk=>ent (Yt n T U) i k*ent V k j)=zf n λk=>zf n λl=>ent T i l*ent U l k*ent V k j:=
  zw λk hk=>by rw [vV hi hk,<-Pq]
 have e2:(zf n λl=>ent T i l*ent (Yt n U V) l j)=zf n λl=>zf n λk=>ent T i l*(ent U l k*ent V k j):=
  zw λl hl=>by rw [vV hl hj,<-WF]
 rw [e1,e2,Pr];exact zw λl _=>zw λk _=>Int.mul_assoc _ _ _
theorem NS (hT:Sq n e T)(hn:n<=8):Yt n (RF n) T=T:=by
 refine((Sq.one n).mul hT hn).ext hT λi j hi hj=> ?_
 rw [vV hi hj,UO hi λk hk hne=>by rw [RF,YT hi hk,R3 (O0 hne)];simp];rw [RF,YT hi hi,R1 rfl];simp
theorem NT (hT:Sq n e T)(hn:n<=8):Yt n T (RF n)=T:=by
 refine(hT.mul (Sq.one n) hn).ext hT λi j hi hj=> ?_
 rw [vV hi hj,UO hj λk hk hne=>by rw [RF,YT hk hj,R3 hne];simp];rw [RF,YT hj hj,R1 rfl];simp
def Du (n:G8)(T:G0 (G0 P2)):G8->G0 (G0 P2)
 |0=>RF n
 |k+1=>Yt n (Du n T k) T
theorem Sq.pow (hT:Sq n e T)(hn:n<=8): ∀k,Sq n (k*(e+3)+1) (Du n T k)
 |0=>(Sq.one n).mono (by omega)
 |k+1=>((Sq.pow hT hn k).mul hT hn).mono (by rw [bT];omega)
def jS (n:G8)(T:G0 (G0 P2)):G0 (G0 P2):=mkT n λi j=>if ent T i j=0 then 0 else 1
def NU (n:G8)(o:G0 G8)(T:G0 (G0 P2)):G0 (G0 P2):=mkT n λi j=>ent T (o.idxOf i) (o.idxOf j)
theorem Sq.mark (T:G0 (G0 P2)):Sq n 1 (jS n T):=Sq.of_mk (f:=λi j=>if ent T i j=0 then 0 else 1) (λi j _ _=>by split<;>decide) λi j _ _=>by split<;>decide
structure Ord (n:G8)(o:G0 G8):Prop where
 len:o.length=n
 all: ∀i,i<n->i∈o
theorem Ord.lt {o:G0 G8}(h:Ord n o){i:G8}(hi:i<n):o.idxOf i<n:=by rw [<-h.len];exact cJ.mpr (h.all i hi)
def RG (T:G0 (G0 P2)):N0:=T.all λr=>r.all λx=>decide (x≠0)
def MulOk (i j:P2):Prop:= ∃m n:G8,i.natAbs<2^m/\j.natAbs<2^n/\m+n<=134217728
theorem MulOk.ok {i j:P2}(h:MulOk i j):IntMulOk i j:=by
 obtain⟨m,n,a,b,c⟩:=h;exact .of_le (mP.mpr a) (mP.mpr b) c
theorem Lq:OpR X (J6 .Mult) (rI MulOk λi j=> .int (i*j)):=opI λ_ _ _ _ _ _ _ hc q=>mul_int q hc.ok
def ug:RD2:=λx y h Q=>match x,y with
 | .int i,.int j=>MulOk i j/\Q (.int (i*j)) h
 |_,_=>False
theorem Lr:OpQ X (J6 .Mult) ug:=Vp (gd:=λi j=> .int (i*j)) Lq (λ_ _ _=>rfl) λx y h Q q=>by
 cases x<;>cases y<;>first|exact False.elim q|exact⟨_,_,rfl,rfl,q.1,q.2⟩
theorem WG {x:P2}(h0:0<=x)(h1:x<2^e):x.natAbs<2^e:=by
 have:((2^e:G8):P2)=2^e:=by simp
 omega
theorem NV {x y:P2}(hx:0<=x/\x<2^e)(hy:0<=y/\y<2^f)(h:e+f<=134217728):MulOk x y:=⟨e,f,WG hx.1 hx.2,WG hy.1 hy.2,h⟩
section
variable {α β:Type}{i i':G8}{js:G0 G8}{ti ti':TID}{te:TED}{σ:SD}{h:HD}{Q:KD}{j:ItD}
theorem lcA (xs:G0 α)(c g:α->D)(hz:xs.length<=1000)(hj:j h=some (xs.map c))(ht: ∀R:ItD->HD->Prop,R j h->ti σ h R)
 (he: ∀x∈xs,∀Q':KD,Q' (g x) h->te ((ze js σ).set i (some (c x))) h Q')(hq: ∀p,h p=none->Q (.lst p) (wc h p (xs.map g))):XQ (bN i) js ti Zl te σ h Q:=by
 refine ht _ ⟨xs.length,λk ys h'=>h'=h/\ys=(xs.take k).map g,⟨rfl,by simp⟩,?_⟩;rintro k ys h' ⟨rfl,rfl⟩;refine⟨by simp only [G9,F3];exact M5 (jO (by omega)),xs.map c,hj,by simp,λhl p hp=> ?_,λd hd=>⟨_,rfl,?_⟩⟩
 ·rw [O2 (by simpa using hl)];exact hq p hp
 ·unfold Zl;dsimp only;rw [R1 rfl];rw [D6] at hd;cases hx:xs[k]? with
  |none=>rw [hx] at hd;cases hd
  |some x=>
   rw [hx] at hd;cases hd;refine he x (M3 hx) _ ⟨h',Sub.refl _,rfl,?_⟩;rw [C0,hx];simp
theorem lcB (xs:G0 α)(c:α->D)(ys:α->G0 β)(c':β->D)(g:α->β->D)(hz:(xs.flatMap ys).length<=1000)(hj:j h=some (xs.map c))(ht: ∀R:ItD->HD->Prop,R j h->ti σ h R)
 (hin: ∀x∈xs,∀R:ItD->HD->Prop,R (λ_=>some ((ys x).map c')) h->ti' ((ze js σ).set i (some (c x))) h R)
 (he: ∀x∈xs,∀y∈ys x,∀Q':KD,Q' (g x y) h->te (((ze js σ).set i (some (c x))).set i' (some (c' y))) h Q')(hq: ∀p,h p=none->Q (.lst p) (wc h p (xs.flatMap λx=>(ys x).map (g x)))):NF (bN i) js ti Zl i' ti' Zl te σ h Q:=by
 have len: ∀l:G0 α,(l.flatMap λx=>(ys x).map (g x)).length=(l.flatMap ys).length:=λl=>by
  induction l with
  |nil=>rfl
  |cons x l ih=>simp [J0,ih]
 have lek: ∀k,((xs.take k).flatMap ys).length<=(xs.flatMap ys).length:=λk=>by
  conv=>rhs;rw [<-dW k xs,E3,D9]
  omega
 have lek1: ∀k x m,xs[k]? =some x->m<=(ys x).length->((xs.take k).flatMap ys).length+m<=(xs.flatMap ys).length:=λk x m hx hm=>by
  have:=lek (k+1);rw [C0,hx,E3,D9] at this;simp at this;simp;omega
 refine ht _ ⟨xs.length,λk zs h'=>h'=h/\zs=(xs.take k).flatMap λx=>(ys x).map (g x),⟨rfl,by simp⟩,?_⟩;rintro k zs h' ⟨rfl,rfl⟩;refine⟨by rw [len];exact M5 (jO (T9 (lek k) hz)),xs.map c,hj,by simp,λhl p hp=> ?_,λd hd=>⟨_,rfl,?_⟩⟩
 ·rw [O2 (by simpa using hl)];exact hq p hp
 ·unfold Zl;dsimp only;rw [R1 rfl];rw [D6] at hd;cases hx:xs[k]? with
  |none=>rw [hx] at hd;cases hd
  |some x=>
   rw [hx] at hd;cases hd;have xm:=M3 hx;refine hin x xm _ ⟨(ys x).length,λm zs h2=>h2=h'/\zs=((xs.take k).flatMap λx=>(ys x).map (g x))++((ys x).take m).map (g x),⟨rfl,by simp⟩,?_⟩;rintro m zs h2 ⟨rfl,rfl⟩;refine⟨?_,(ys x).map c',rfl,by simp,λhl=>⟨h2,Sub.refl _,rfl,?_⟩,λd hd=> ?_⟩
   ·rw [D9,len,G9,F3];have:=lek1 k x (min m (ys x).length) hx (V4 _ _);exact M5 (jO (by omega))
   ·have hm:(ys x).take m=ys x:=O2 (by simpa using hl);rw [hm,C0,hx,E3];simp
   ·rw [D6] at hd;cases hy:(ys x)[m]? with
    |none=>rw [hy] at hd;cases hd
    |some y=>
     rw [hy] at hd;cases hd
     first
      |rw [R1 rfl]
      |(dsimp only;rw [R1 rfl])
     refine he x xm y (M3 hy) _ ⟨h2,Sub.refl _,rfl,?_⟩;rw [C0,hy];simp
theorem Cw (xs:G0 α)(c g:α->D)(hz:xs.length<=1000)(hj:j h=some (xs.map c))(ht: ∀R:ItD->HD->Prop,R j h->ti σ h R)
 (he: ∀x∈xs,∀Q':KD,Q' (g x) h->te ((ze js σ).set i (some (c x))) h Q')(hq:Q (.tup (xs.map g)) h):dCB Gj (jP (XQ (bN i) js ti Zl te) vE) σ h Q:=by
 show XQ (bN i) js ti Zl te σ h (λx h1=>Gj [x] h1 Q);exact lcA xs c g hz hj ht he λp hp=>(show ∃ys,wc h p (xs.map g) p=some ys/\Q (.tup ys) (Vm (wc h p (xs.map g)) p) from ⟨_,ja,by rw [wC hp];exact hq⟩)
theorem uh (xs:G0 α)(c:α->D)(g:α->P2)(hz:xs.length<=1000)(hj:j h=some (xs.map c))(ht: ∀R:ItD->HD->Prop,R j h->ti σ h R)
 (he: ∀x∈xs,∀Q':KD,Q' (.int (g x)) h->te ((ze js σ).set i (some (c x))) h Q')(hq:Q (.int (xs.map g).sum) h):dCB Ho (jP (XQ (bN i) js ti Zl te) vE) σ h Q:=by
 show XQ (bN i) js ti Zl te σ h (λx h1=>Ho [x] h1 Q);exact lcA xs c (λx=> .int (g x)) hz hj ht he λp hp=>⟨p,xs.map g,rfl,by rw [ja,N7];rfl,by rw [wC hp];exact hq⟩
theorem ui (xs:G0 α)(c:α->D)(g:α->N0)(hz:xs.length<=1000)(hj:j h=some (xs.map c))(ht: ∀R:ItD->HD->Prop,R j h->ti σ h R)
 (he: ∀x∈xs,∀Q':KD,Q' (.bl (g x)) h->te ((ze js σ).set i (some (c x))) h Q')(hq:Q (.bl (xs.all g)) h):dCB Et (jP (XQ (bN i) js ti Zl te) vE) σ h Q:=by
 show XQ (bN i) js ti Zl te σ h (λx h1=>Et [x] h1 Q);exact lcA xs c (λx=> .bl (g x)) hz hj ht he λp hp=>⟨p,xs.map g,rfl,by rw [ja,N7];rfl,by rw [wC hp,aO];exact hq⟩
theorem uj (xs:G0 α)(c:α->D)(ys:α->G0 β)(c':β->D)(g:α->β->N0)(hz:(xs.flatMap ys).length<=1000)(hj:j h=some (xs.map c))(ht: ∀R:ItD->HD->Prop,R j h->ti σ h R)
 (hin: ∀x∈xs,∀R:ItD->HD->Prop,R (λ_=>some ((ys x).map c')) h->ti' ((ze js σ).set i (some (c x))) h R)
 (he: ∀x∈xs,∀y∈ys x,∀Q':KD,Q' (.bl (g x y)) h->te (((ze js σ).set i (some (c x))).set i' (some (c' y))) h Q')(hq:Q (.bl (xs.all λx=>(ys x).all (g x))) h):dCB Et (jP (NF (bN i) js ti Zl i' ti' Zl te) vE) σ h Q:=by
 show NF (bN i) js ti Zl i' ti' Zl te σ h (λx h1=>Et [x] h1 Q);refine lcB xs c ys c' (λx y=> .bl (g x y)) hz hj ht hin he λp hp=> ?_
 ·have e:(xs.flatMap λx=>(ys x).map λy=>D.bl (g x y))=(xs.flatMap λx=>(ys x).map (g x)).map D.bl:=by
   clear hz hj ht hin he hq
   induction xs with
   |nil=>rfl
   |cons x l ih=>simp [J0,ih,N7]
  refine⟨p,xs.flatMap λx=>(ys x).map (g x),rfl,by rw [ja,e],?_⟩;rw [wC hp];have e2:(xs.flatMap λx=>(ys x).map (g x)).all id=xs.all λx=>(ys x).all (g x):=by
   clear hz hj ht hin he hq e
   induction xs with
   |nil=>rfl
   |cons x l ih=>simp [J0,ih,aO]
  rw [e2];exact hq
end
end L2
namespace L2
open PySem PySem.Spec PyProof.Rows PySem.SeqAt
def vW (o:G0 G8):D:= .tup (o.map λ(k:G8)=>D.int (k:P2))
def Ordr (n:G8)(o:G0 G8):Prop:=o.Perm (P7 n)
variable {n:G8}
theorem Ordr.ord {o:G0 G8}(h:Ordr n o):Ord n o:=⟨by rw [h.length_eq,T1],λi hi=>h.mem_iff.mpr (S5.mpr hi)⟩
def zP (o:G0 G8):G0 P2:=o.map λ(k:G8)=>(k:P2)
theorem Vy (o:G0 G8):vW o= .tup ((zP o).map D.int):=by unfold vW zP;rw [N7];rfl
theorem NW (o:G0 G8)(i:G8):(zP o).idxOf (i:P2)=o.idxOf i:=by
 induction o with
 |nil=>rfl
 |cons a o ih=>
  show ((a:P2)::zP o).idxOf (i:P2)=_;rw [rB,rB,ih]
  by_cases e:a=i
  ·subst e;simp
  ·have e1:(a==i)=false:=by simpa using e
   have e2:((a:P2)==(i:P2))=false:=by simp;omega
   rw [e1,e2]
theorem NX {o:G0 G8}{i:G8}(h:i∈o):(i:P2)∈zP o:=S2.mpr ⟨i,h,rfl⟩
theorem UP: ∀n:G8,(zP (P7 n)).Pairwise (· <= ·):=λn=>by
 unfold zP;rw [Z9];exact G0.pairwise_le_range.imp λh=>by omega
theorem wF (h:HD): ∀ns:G0 P2,ToPs h (ns.map D.int) (ns.map aP)
 | []=>rfl
 |n::ns=>⟨_,_,rfl,rfl,wF h ns⟩
theorem vX: ∀ns:G0 P2,M6 (ns.map aP)=true
 | []=>rfl
 |n::ns=>by show (C7 (.int n)&&_)=true;rw [vX ns];rfl
theorem WH: ∀ns:G0 P2,B7 (ns.map aP) (ns.map aP)=true
 | []=>rfl
 |n::ns=>by show ((n==n)&&B7 _ _)=true;rw [WH ns];simp
theorem Zq: ∀ns:G0 P2,N4 (ns.map aP)<=1
 | []=>by simp [N4]
 |n::ns=>by
  have:=Zq ns;simp only [T2,N4,O3];omega
theorem yC (ns:G0 P2):shaped (.list (ns.map .int))=true:=by
 unfold shaped;have h1:C7 (.list (ns.map .int))=true:=by simp only [C7];exact vX ns
 have h2:=Zq ns;have h3:O3 (.list (ns.map .int))<=64:=by simp only [O3];omega
 rw [h1,S1 h3];rfl
def yT (r:G0 P2):C4:= .tuple (r.map .int)
def Uo (T:G0 (G0 P2)):C4:= .tuple (T.map yT)
theorem UQ (h:HD): ∀T:G0 (G0 P2),ToPs h (T.map wE) (T.map yT)
 | []=>rfl
 |r::T=>⟨_,_,rfl,⟨_,rfl,wF h r⟩,UQ h T⟩
theorem RH (h:HD)(T:G0 (G0 P2)):ToP h (jG T) (Uo T):=⟨_,rfl,UQ h T⟩
theorem yD: ∀T:G0 (G0 P2),M6 (T.map yT)=true
 | []=>rfl
 |r::T=>by
  show (C7 (yT r)&&_)=true;rw [yD T];have:C7 (yT r)=true:=by unfold yT;simp only [C7];exact vX r
  rw [this];rfl
theorem vy: ∀T:G0 (G0 P2),N4 (T.map yT)<=3
 | []=>by simp [N4]
 |r::T=>by
  have:=vy T;have h2:=Zq r;simp only [T2,N4,O3,yT];omega
variable {e:G8}{T:G0 (G0 P2)}
theorem RI (h:Sq n e T){i:G8}(hi:i<n):atI (T.map wE) (i:P2)=some (wE (T.getD i [])):=by
 have hi':i<T.length:=by rw [h.len];exact hi
 exact Wq (by rw [D6,S3,P8 hi'];rfl)
theorem Sq.getRow (h:Sq n e T){i:G8}(hi:i<n):T.getD i []∈T:=by
 have hi':i<T.length:=by rw [h.len];exact hi
 rw [S3,P8 hi'];exact A1 hi'
theorem Qh {r:G0 P2}(h:r.length=n){j:G8}(hj:j<n):atI (r.map D.int) (j:P2)=some (.int (r.getD j 0)):=by
 have hj':j<r.length:=by rw [h];exact hj
 exact Wq (by rw [D6,S3,P8 hj'];rfl)
theorem ES (n:G8)(f:G8->G8->P2):D.tup ((P7 n).map λi=>D.tup ((P7 n).map λj=>D.int (f i j)))=jG (mkT n f):=by
 unfold jG wE mkT;rw [N7]
 congr 1
 apply B3;intro i _;simp [N7,dJ]
theorem Ls (T:G0 (G0 P2))(f:P2->P2):D.tup (T.map λr=>D.tup (r.map λx=>D.int (f x)))=jG (T.map λr=>r.map f):=by
 unfold jG wE;rw [N7]
 congr 1
 apply B3;intro r _;simp [N7,dJ]
theorem Lt (h:Sq n e T):jS n T=T.map λr=>r.map λx=>if x≠0 then 1 else 0:=by
 conv=>rhs;rw [h.eq_mk]
 unfold jS mkT;rw [N7];apply B3;intro i _;simp only [U8,N7];apply B3;intro j _;simp only [U8]
 by_cases z:ent T i j=0
 ·rw [R1 z,R3 (by simpa using z)]
 ·rw [R3 z,R1 z]
theorem NY (h:Sq n e T)(h6:n<=6):(T.flatMap λr=>r).length<=1000:=by
 have: ∀U:G0 (G0 P2),(∀r∈U,r.length=n)->(U.flatMap λr=>r).length=U.length*n:=λU=>by
  induction U with
  |nil=>intro _;simp
  |cons r U ih=>
   intro hU;rw [J0,D9,ih λr hr=>hU r (D7 _ hr),hU r P3,D4,bT];omega
 rw [this T h.row,h.len];have:=sF h6 h6;omega
theorem NZ {U:G0 (G0 P2)}(h:Sq n e T):(T.map λr=>D.tup ((P7 n).map λj=>D.int (zf n λm=>r.getD m 0*ent U m j)))=(Yt n T U).map wE:=by
 conv=>lhs;rw [wo T [],h.len]
 unfold Yt mkT;rw [N7,N7];apply B3;intro i _;simp only [U8,wE,N7];rfl
theorem pow_add (h:Sq n e T)(hn:n<=8)(a:G8): ∀b,Du n T (a+b)=Yt n (Du n T a) (Du n T b)
 |0=>by rw [show Du n T 0=RF n from rfl,NT (h.pow hn a) hn];rfl
 |b+1=>by
  show Yt n (Du n T (a+b)) T=Yt n (Du n T a) (Yt n (Du n T b) T);rw [pow_add h hn a b,mul_assoc (h.pow hn a) (h.pow hn b) h hn]
theorem Lu (h:Sq n e T)(hn:n<=8):Du n T 1=T:=NS h hn
theorem Ordr.nodup {o:G0 G8}(h:Ordr n o):o.Nodup:=h.symm.nodup eJ
theorem UR {f i j:G8}{U:G0 (G0 P2)}(h:Sq n e T)(g:Sq n f U)(hi:i<n)(hj:j<n):ent (Yt n T U) i j≠0↔ ∃k,k<n/\ent T i k≠0/\ent U k j≠0:=by
 rw [vV hi hj];have nn: ∀k,k<n->0<=ent T i k*ent U k j:=λk hk=>sE (h.ent_nn hi hk).1 (g.ent_nn hk hj).1
 have s:=Vx nn;have p:=RE nn;constructor
 ·intro z;obtain⟨k,hk,w⟩:=p.mp (by omega);refine⟨k,hk,λq=> ?_,λq=> ?_⟩
  ·rw [q] at w;simp at w
  ·rw [q] at w;simp at w
 ·rintro ⟨k,hk,a,b⟩ z;have c:=(h.ent_nn hi hk).1;have d:=(g.ent_nn hk hj).1;have:0<ent T i k*ent U k j:=xN (by omega) (by omega);have:=p.mpr ⟨k,hk,this⟩;omega
section
variable {prog:D5}{w:T5}{A:R6}{E:G1->G2->Prop}{s:G2}
theorem Qi {Q:cY->G2->Prop}(hh:A.handled=none)(hE: ∀h' e,(∀b o,s.heap.get? b=some o->h'.get? b=some o)->(∃o,h'.get? e=some o/\o.cls= .type "StopIteration")->E (.ref e) {s with heap:=h'}):D1 (D3 prog w) A dL Q E s:=by
 obtain⟨hp,g,d,tk,os⟩:=s;unfold dL
 wp_walk
 unfold raiseNew;refine wpAny_bind (wpAny_handled ?_);rw [hh];exact wpAny_bind (G7 (wpAny_throw (hE _ _ (λb o q=>G4 _ (G4 _ q)) ⟨_,S4 _ rfl,rfl⟩)))
end
section
variable {X:Cx}{pins:G0 (G5×Obj)}{σ:G0 (P0 V)}{H:Hp}{s:G2}{h':M4}
theorem Inv.turnL {t':G8}{ch:G0 G5}(I:Inv X pins σ H s)(k: ∀b o,b ∉ ch->s.heap.get? b=some o->h'.get? b=some o)(hc: ∀b∈ch,XU X pins H b):Inv X pins σ H {s with heap:=h',toks:=t'}:=by
 refine I.step (g':=s.gens) (d':=s.drawn) (ch:=ch) (λb hb=>let ⟨_,f1,_,f3,f4,f5⟩:=hc b hb;⟨f3,f1,f4,f5⟩) (λb o _ _ nb e _=>k b o nb e) (λb o _ _ nb e _=>⟨o.slots,k b o nb e⟩) (λ_ _ _ _ n=>n)
  (λb o nb e=>⟨o,k b o nb e⟩) (λ_ _ e=>e) (λ_ _ _ e=>e) (λb ps e=>⟨#[],by rw [e];simp⟩) (λm hm=> ?_) (λb u e=> ?_) I.bare
 ·obtain⟨o,es,ep,ho,r⟩:=hm;exact⟨o,es,ep,k _ o (λz=>(hc _ z).2.1 rfl) ho,r⟩
 ·refine(I.hok b u e).stay (λc v hb q=>k c v (λz=> ?_) q) (λ_ q=>q) λ_ _ q=>q
  have f:=(hc c z).1;rcases hb with w|w
  ·rw [w,e] at f;cases f
  ·rw [w] at f;cases f
theorem Inv.turnLaid {t':G8}{ch:G0 G5}{a:G5}{o:HO}(I:Inv X pins σ H s)(k: ∀b u,b ∉ ch->s.heap.get? b=some u->h'.get? b=some u)(hc: ∀b∈ch,XU X pins H b)(hp:s.heap.objs.size<=a)
 (new:ObjOk X.prog X.w (upd H a o) h' a o):Inv X pins σ (upd H a o) {s with heap:=h',toks:=t'}:=by
 have hn:=I.hok.fresh hp;refine I.step (g':=s.gens) (d':=s.drawn) (ch:=ch) (λb hb=>let ⟨_,f1,_,f3,f4,f5⟩:=hc b hb;⟨f3,f1,f4,f5⟩) (λb u _ _ nb e _=>k b u nb e) (λb u _ _ nb e _=>⟨u.slots,k b u nb e⟩)
  (λb u _ e n=>by rw [jd (R5 (S0 (D0 e) hp))];exact n) (λb u nb e=>⟨u,k b u nb e⟩) (λb xs q=>by rw [jd (jf q hn)];exact q) (λb u xs q=>by rw [jd (jf q hn)];exact q)
  (λb ps q=>⟨#[],by rw [jd (jf q hn),q];simp⟩) (λm hm=> ?_) (λb u e=> ?_) I.bare
 ·obtain⟨u,es,ep,ho,r⟩:=hm;exact⟨u,es,ep,k _ u (λz=>(hc _ z).2.1 rfl) ho,r⟩
 ·by_cases hb:b=a
  ·subst hb;rw [je] at e;cases e;exact new
  ·rw [jd hb] at e;refine(I.hok b u e).stay (λc v hb q=>k c v (λz=> ?_) q) (λc q=>by rw [jd (jf q hn)];exact q) λc xs q=>by rw [jd (jf q hn)];exact q
   have f:=(hc c z).1;rcases hb with w|w
   ·rw [w,e] at f;cases f
   ·rw [w] at f;cases f
end
def RJ (ds:G0 D):G0 D:=ds.zipIdx.map λp=> .tup [.int (p.2:P2),p.1]
theorem Gm {ds:G0 D}{i:G8}{d:D}(h:(RJ ds)[i]? =some d): ∃x,ds[i]? =some x/\d= .tup [.int (i:P2),x]:=by
 unfold RJ at h;rw [D6,List.getElem?_zipIdx] at h;cases q:ds[i]? with
 |none=>rw [q] at h;cases h
 |some x=>
  rw [q] at h;refine⟨x,rfl,?_⟩;have h':some (D.tup [.int ((0+i:G8):P2),x])=some d:=h;rw [lI] at h';exact(L7 h').symm
theorem vY (ds:G0 D):(RJ ds).length=ds.length:=by simp [RJ]
def RK (c:TTD)(tb:TSD):TSD:=λD σ h=> ∃W:G8->SD->HD->Prop,(∃m,W m σ h)/\ ∀m σ' h',W m σ' h'->c σ' h' λb h1=>
 if b=true then tb {D with nx:=λσ2 h2=> ∃m' h3,m'<m/\Sub h3 h2/\W m' σ2 h3,ct:=λσ2 h2=> ∃m' h3,m'<m/\Sub h3 h2/\W m' σ2 h3,bk:=D.nx} σ' h1 else D.nx σ' h1
theorem Ba {K:G3}{c:TTD}{tb:TSD}: ∀D σ H,LS K (RK c tb) D σ H->Cg (LT K c) (LS K tb) D σ H:=λD σ H ⟨σd,h,Dd,rs,rh,⟨W,⟨m0,w0⟩,turn⟩,nx,rt,bk,ct⟩=>by
 refine⟨λm σ' H'=>Kept H H'/\ ∃σd' h',RelS K H' σd' σ'/\RelH K h' H'/\W m σd' h',⟨m0,.refl _,σd,h,rs,rh,w0⟩,?_⟩;rintro m σ' H' ⟨kp,σd',h',rs',rh',w⟩;refine LT.bind rs' rh' (turn m σd' h' w) λb h1 H1 k1 rs1 rh1 q1=> ?_
 cases b with
 |false=>
  rw [R3 D8] at q1 ⊢;exact nx _ _ _ _ (kp.trans k1) rs1 rh1 q1
 |true=>
  rw [R1 rfl] at q1 ⊢;have kk:Kept H H1:=kp.trans k1;refine⟨λσ2 H2=>Kept H H2/\ ∃m',m'<m/\ ∃σd2 h2,RelS K H2 σd2 σ2/\RelH K h2 H2/\W m' σd2 h2,λσ2 H2 ⟨k2,m',hm,a,b,c,d,e⟩=>⟨m',hm,k2,a,b,c,d,e⟩,?_⟩;exact⟨σd',h1,_,rs1,rh1,q1,λa b c d k4 rs4 rh4 ⟨m',h4,hm,sb,w4⟩=>⟨kk.trans k4,m',hm,a,h4,rs4,rh4.sub sb,w4⟩,jD rt kk,λa b c d k4 rs4 rh4 q4=>nx a b c d (kk.trans k4) rs4 rh4 q4,λa b c d k4 rs4 rh4 ⟨m',h4,hm,sb,w4⟩=>⟨kk.trans k4,m',hm,a,h4,rs4,rh4.sub sb,w4⟩⟩
section
variable {X:Cx}{pos:Pos}
theorem ET {c:S6}{body:G0 C5}{tc:TTD}{tb:TSD}(hp:m7 (D3 X.prog X.w) X.A X.env X.xe)(hc:JT X c tc)(hb:JSs X body tb):JS X (.While c body [] pos) (RK tc tb):=⟨(Nl hp hc.to hb.to).imp Ba⟩
end
theorem Bb {c:TTD}{tb:TSD}{E:EndsD}{σ:SD}{h:HD}(W:G8->SD->HD->Prop)(m:G8)(w0:W m σ h)
 (turn: ∀m σ' h',W m σ' h'->c σ' h' λb h1=>if b=true then tb {E with nx:=λσ2 h2=> ∃m' h3,m'<m/\Sub h3 h2/\W m' σ2 h3,ct:=λσ2 h2=> ∃m' h3,m'<m/\Sub h3 h2/\W m' σ2 h3,bk:=E.nx} σ' h1 else E.nx σ' h1):RK c tb E σ h:=⟨W,⟨m,w0⟩,turn⟩
def inE (neg:N0):RD2:=λx y h Q=> ∃ (p:C4) (ps:G0 C4),ToP h x p/\(ToP h y (.list ps)\/ToP h y (.tuple ps))/\p.canLay0=true/\M6 ps=true/\p.depth<=60/\Q (.bl (neg !=ps.any λz=>M9 z p)) h
section
variable {X:Cx}
theorem Hw (hu:X.A.units+64<cLine):OpQ X (N3 .In) (inE false):=by
 intro pins s σ H x y v u Q I rx ry h;obtain⟨dx,dy,h,Qd,r1,r2,rh,⟨p,ps,t1,t2,c1,c2,c3,qq⟩,post⟩:=h;obtain⟨as,a1⟩:=zo I rh t1 r1 rx;have hu':X.A.units+1+min (N4 ps) p.depth<cLine:=by have:=V4 (N4 ps) p.depth;omega
 have q':Qd (.bl (ps.any λz=>M9 z p)) h:=by simpa using qq
 rcases t2 with t2|t2
 ·obtain⟨bs,b1⟩:=zo I rh t2 r2 ry;exact in_list_reads b1 a1 c2 c1 hu' ⟨.bl _,H,I,rfl,post (.bl _) _ _ _ (.refl H) rh rfl q'⟩
 ·obtain⟨bs,b1⟩:=zo I rh t2 r2 ry;exact in_tuple_reads b1 a1 c2 c1 hu' ⟨.bl _,H,I,rfl,post (.bl _) _ _ _ (.refl H) rh rfl q'⟩
theorem Gn (hu:X.A.units+64<cLine):OpQ X (N3 .NotIn) (inE true):=by
 intro pins s σ H x y v u Q I rx ry h;obtain⟨dx,dy,h,Qd,r1,r2,rh,⟨p,ps,t1,t2,c1,c2,c3,qq⟩,post⟩:=h;obtain⟨as,a1⟩:=zo I rh t1 r1 rx;have hu':X.A.units+1+min (N4 ps) p.depth<cLine:=by have:=V4 (N4 ps) p.depth;omega
 have q':Qd (.bl (!ps.any λz=>M9 z p)) h:=by simpa using qq
 rcases t2 with t2|t2
 ·obtain⟨bs,b1⟩:=zo I rh t2 r2 ry;exact notIn_list_reads b1 a1 c2 c1 hu' ⟨.bl _,H,I,rfl,post (.bl _) _ _ _ (.refl H) rh rfl q'⟩
 ·obtain⟨bs,b1⟩:=zo I rh t2 r2 ry;exact notIn_tuple_reads b1 a1 c2 c1 hu' ⟨.bl _,H,I,rfl,post (.bl _) _ _ _ (.refl H) rh rfl q'⟩
end
end L2
namespace L2
open PySem PySem.Spec PyProof.Rows
theorem vJ: ∀ {ps:G0 C4},(∀p∈ps,p.showable=true)->oG ps=true
 | [],_=>rfl
 |p::ps,h=>by
  simp only [oG,h p P3,vJ λx hx=>h x (D7 _ hx),Bool.and_self]
theorem yY: ∀ps:G0 C4,lT ps=ps.map lJ
 | []=>rfl
 |p::ps=>by simp only [lT,T2,yY ps]
theorem WI {k:G8}: ∀ {ps:G0 C4},(∀p∈ps,p.depth<=k)->N4 ps<=k
 | [],_=>by simp [N4]
 |p::ps,h=>by
  simp only [N4];have:=h p P3;have:=WI λx hx=>h x (D7 _ hx)
  omega
theorem Cy {b:G8}: ∀ {l:G0 G8},(∀x∈l,x<=b)->l.sum<=b*l.length
 | [],_=>by simp
 |x::l,h=>by
  have h1:=h x P3;have h2:=Cy λy hy=>h y (D7 _ hy)
  simp only [List.sum_cons,D4,Nat.mul_succ];omega
structure ShowB (p:C4)(k b:G8):Prop where
 sh:p.showable=true
 dp:p.depth<=k
 ln:p.shown.length<=b
theorem ShowB.mono {p:C4}{k b k' b':G8}(h:ShowB p k b)(hk:k<=k')(hb:b<=b'):ShowB p k' b':=⟨h.sh,T9 h.dp hk,T9 h.ln hb⟩
theorem ShowB.tup {ps:G0 C4}{k b:G8}(h: ∀p∈ps,ShowB p k b):ShowB (.tuple ps) (k+1) ((b+2)*ps.length+3):=by
 refine⟨?_,?_,?_⟩
 ·simpa only [rC] using vJ λp hp=>(h p hp).sh
 ·simp only [O3];have:=WI λp hp=>(h p hp).dp;omega
 ·simp only [lJ];have h1:=tupleText_len_le (lT ps);rw [yY,G9,N7] at h1;have h2:((ps.map ((λx=>x.length)∘lJ))).sum<=b*ps.length:=by
   have:=Cy (b:=b) (l:=ps.map ((λx:Str=>x.length)∘lJ)) (λx hx=>by obtain⟨p,hp,e⟩:=S2.mp hx;rw [<-e];exact(h p hp).ln);rw [G9] at this;exact this
  rw [yY,mQ];omega
end L2
namespace L2
open PySem PySem.Spec PyProof.Rows PySem.SeqAt
theorem Bc {X:Cx}(hu:X.A.units+64<cLine):MtM X "list.index" (λx vs H Q=> ∃ (a:G5) (y:V) (dy:D) (h:HD) (p:C4) (ps:G0 C4) (j:G8) (z:C4),x= .ref a/\vs= [y]/\RelD X.K H dy y/\RelH X.K h H/\ToP h (.lst a) (.list ps)/\ToP h dy p/\p.canLay0=true/\M6 ps=true/\p.depth<=60/\j<1000000/\ps[j]? =some z/\M9 z p=true/\(∀m y,m<j->ps[m]? =some y->M9 y p=false)/\Q (.int (j:P2)) H):=by
 intro pins s σ H x vs v us Q I rx rv h;obtain⟨a,y,dy,h,p,ps,j,z,rfl,rfl,rd,rh,t1,t2,c1,c2,c3,hj,hz,hit,hno,q⟩:=h;cases rx;obtain⟨u,rfl,ru⟩:=vD rv;obtain⟨a',ds,ea,ha,ts⟩:=(show ∃a' ds,D.lst a= .lst a'/\h a'=some ds/\ToPs h ds ps from t1);cases ea;obtain⟨ws,hH,_⟩:=rh a ds ha;obtain⟨as,r1⟩:=zo I rh t1 (show RelD X.K H (.lst a) (.ref a) from ⟨rfl,ws,hH⟩) (show RelV (.ref a) (.ref a) from rfl);obtain⟨bs,r2⟩:=zo I rh t2 rd ru;cases r1 with
 |list h1 h2 h3 h4=>
  rename_i o its n cs;have em:=readsAll_map ps _ _ c2 h4;have gm: ∀m (hm:m<its.size),ps[m]? =some (readOf s.heap its[m]):=λm hm=>by
   rw [<-em,D6,B9,V2 hm];rfl
  have hlen:its.size=ps.length:=by rw [<-em,G9,D2]
  have hjs:j<its.size:=by rw [hlen];exact(R0.mp hz).1
  have hu':X.A.units+1+min (N4 ps) p.depth<cLine:=by have:=V4 (N4 ps) p.depth;omega
  obtain⟨oc,od,odt,osl⟩:=o;simp only at h2 h3;subst h2 h3;refine lF F.slot_list_index ⟨_,h1,rfl⟩ F.entry_list_index (F.args_list_index_2 _ _) (list_indexAt a its n od osl u (λy=>M9 (readOf s.heap y) p) j hjs (by omega) ?_ ?_) ⟨h1,items_eqAt h4 r2 c2 c1 hu',?_⟩
  ·have:=gm j hjs;rw [hz] at this;injection this with this
   rw [<-this];exact hit
  ·intro m hm hmj;exact hno m _ hmj (gm m hm)
  ·exact⟨.int (j:P2),H,I.tok _,⟨_,rfl⟩,q⟩
def uk (to te:TED):TED:=λσ h Q=>to σ h λx h1=> ∃a,x= .lst a/\te σ h1 λy h2=> ∃ (p:C4) (ps:G0 C4) (j:G8) (z:C4),ToP h2 (.lst a) (.list ps)/\ToP h2 y p/\p.canLay0=true/\M6 ps=true/\p.depth<=60/\j<1000000/\ps[j]? =some z/\M9 z p=true/\(∀m y,m<j->ps[m]? =some y->M9 y p=false)/\Q (.int (j:P2)) h2
section
variable {X:Cx}{o e i:S6}{to te ti:TED}{apos cpos:Pos}
theorem KI (hu : X.A.units + 64 < cLine) (ho : JE X o to) (he : JE X e te) (hbase : K6 o "index" X.env (C8 o X.env) = C8 o X.env := by rfl)
    (hfew : ((F7 cpos (P5 [e] X.env)).all (fun x => !x.1) && (gG cpos (bL [] X.env)).all (fun x => x.1.isSome) && decide ([e].length + ([] : G0 aN).length + (if ([] : G0 aN).isEmpty then 0 else 1) < 30)) = true := by rfl)
    (hline : (apos.endLine == cpos.line) = true := by rfl) (hs : P5 [e] X.env = (false, C8 e X.env) :: P5 [] X.env := by rfl) (hplain : (F7 cpos (P5 [] X.env)).any (·.1) = false := by rfl) :
    JE X (.Call (.Attribute o "index" apos) [e] [] cpos) (uk to te) :=
  ⟨(Fx c8 uM uN (Bc hu) ho.to (zS he.to pa_nil hs) hbase hfew hline hs hplain).imp
    fun σ H Q ⟨σd, h, Qd, rs, rh, t, p⟩ => LE.bind rs rh t fun d v h1 H1 k1 rs1 rh1 r1 ⟨a, e, q⟩ => by
      subst e
      obtain ⟨e1, vs, hH⟩ := (show v = .ref a ∧ ∃ vs, H1 a = some (.lst vs) from r1)
      subst e1
      refine ⟨.inl ⟨rfl, vs, SqL.of hH⟩, ?_⟩
      refine LE.bind rs1 rh1 q fun y u h2 H2 k2 rs2 rh2 r2 ⟨pd, ps, j, z, t1, t2, c1, c2, c3, hj, hz, hit, hno, q2⟩ => ?_
      exact ⟨a, u, y, h2, pd, ps, j, z, rfl, rfl, r2, rh2, t1, t2, c1, c2, c3, hj, hz, hit, hno, p (.int _) _ _ _ (k1.trans k2) rh2 rfl q2⟩⟩
end
def IsS (n:G8)(S:G0 G8):Prop:= ∃p:G8->N0,S=(P7 n).filter p
theorem US {α:Type}[DecidableEq α]: ∀ {l m:G0 α},l.Nodup->(∀x∈l,x∈m)->l.length<=m.length
 | [],_,_,_=>L0 _
 |a::l,m,nd,h=>by
  have hm:=h a P3;have h2:l.length<=(m.erase a).length:=US (O9.mp nd).2 λx hx=>by
   have hxa:x≠a:=λe=>(O9.mp nd).1 (e ▸ hx)
   exact(bO hxa).mpr (h x (D7 _ hx))
  rw [aC hm] at h2;have:=aQ hm;simp only [D4];omega
def ul (S:G0 G8):C4:=yT (zP S)
theorem Lv (h:HD)(S:G0 G8):ToP h (vW S) (ul S):=by rw [Vy];exact⟨_,rfl,wF h _⟩
theorem YU: ∀a b:G0 P2,B7 (a.map aP) (b.map aP)=decide (a=b)
 | [],[]=>by simp [B7]
 | [],_::_=>by simp [B7]
 |_::_,[]=>by simp [B7]
 |x::a,y::b=>by
  show ((x==y)&&B7 (a.map .int) (b.map .int))=_;rw [YU a b,aU];simp
theorem RL (a b:G0 P2):M9 (yT a) (yT b)=decide (a=b):=YU a b
structure Enc {α:Type}[DecidableEq α](e:α->D)(p:α->C4):Prop where
 to: ∀ (h:HD) a,ToP h (e a) (p a)
 lay: ∀a,(p a).canLay0=true
 dp: ∀a,(p a).depth<=60
 eq: ∀a b,M9 (p a) (p b)=decide (a=b)
section
variable {α:Type}[DecidableEq α]{e:α->D}{p:α->C4}
theorem Enc.tos (E:Enc e p)(h:HD): ∀as:G0 α,ToPs h (as.map e) (as.map p)
 | []=>rfl
 |a::as=>⟨_,_,rfl,E.to h a,E.tos h as⟩
theorem Enc.lays (E:Enc e p): ∀as:G0 α,M6 (as.map p)=true
 | []=>rfl
 |a::as=>by show (C7 (p a)&&_)=true;rw [E.lays as,E.lay a];rfl
theorem EU (E:Enc e p){neg:N0}{x:α}{as:G0 α}{a:G5}{h:HD}{Q:KD}(ha:h a=some (as.map e))(q: ∀b:N0,(b=true↔x∈as)->Q (.bl (neg !=b)) h):inE neg (e x) (.lst a) h Q:=by
 refine⟨p x,as.map p,E.to h x,.inl ⟨a,_,rfl,ha,E.tos h as⟩,E.lay x,E.lays as,E.dp x,q _ ?_⟩;rw [List.any_map,qC];constructor
 ·rintro ⟨y,hy,z⟩;have:y=x:=by simpa [U8,E.eq] using z
  rw [<-this];exact hy
 ·intro hi;exact⟨x,hi,by simp [U8,E.eq]⟩
theorem EV (E:Enc e p){x:α}{as:G0 α}{a:G5}{h:HD}(ha:h a=some (as.map e))(hx:x∈as)(hl:as.length<=100000):
 ∃ (j:G8) (q:C4) (qs:G0 C4) (z:C4),as[j]? =some x/\ToP h (.lst a) (.list qs)/\ToP h (e x) q/\q.canLay0=true/\M6 qs=true/\q.depth<=60/\j<1000000/\qs[j]? =some z/\M9 z q=true/\(∀m y,m<j->qs[m]? =some y->M9 y q=false):=by
 have hj:=cJ.mpr hx;have ex:as[as.idxOf x]? =some x:=by rw [P8 hj,oE hj]
 refine⟨as.idxOf x,p x,as.map p,p x,ex,⟨a,_,rfl,ha,E.tos h as⟩,E.to h x,E.lay x,E.lays as,E.dp x,by omega,?_,by rw [E.eq,S1 rfl],λm y hm hy=> ?_⟩
 ·rw [D6,ex];rfl
 ·rw [D6] at hy;have hml:m<as.length:=by omega
  rw [P8 hml] at hy;cases hy;rw [E.eq];have:=List.not_of_lt_findIdx (p:=(· ==x)) (xs:=as) hm;simpa using this
end
theorem wG: ∀a b:G0 (G0 P2),B7 (a.map yT) (b.map yT)=decide (a=b)
 | [],[]=>by simp [B7]
 | [],_::_=>by simp [B7]
 |_::_,[]=>by simp [B7]
 |x::a,y::b=>by
  show (M9 (yT x) (yT y)&&B7 (a.map yT) (b.map yT))=_;rw [wG a b,RL,aU];simp
theorem KJ:Enc jG Uo:=⟨RH,λT=>by unfold Uo;simp only [C7];exact yD T,λT=>by unfold Uo;simp only [O3];have:=vy T;omega,wG⟩
def mk1 (n:G8)(T:G0 (G0 P2))(M:G0 (G0 P2)):G0 (G0 P2):=jS n (Yt n M T)
def RP (n:G8)(T:G0 (G0 P2))(k i j:G8):Prop:=ent (Du n T k) i j≠0
section
variable {n e:G8}{T:G0 (G0 P2)}
theorem RM (h:Sq n e T)(hn:n<=8)(a b:G8){i j:G8}(hi:i<n)(hj:j<n):RP n T (a+b) i j↔ ∃k,k<n/\RP n T a i k/\RP n T b k j:=by
 unfold RP;rw [pow_add h hn a b];exact UR (h.pow hn a) (h.pow hn b) hi hj
theorem Qj {i j:G8}(hi:i<n)(hj:j<n):RP n T 0 i j↔i=j:=by
 unfold RP;show ent (RF n) i j≠0↔_;unfold RF;rw [YT hi hj]
 by_cases z:i=j
 ·simp [z]
 ·simp [z]
theorem Cz (h:Sq n e T)(hn:n<=8): ∀ (m:G8) {i j:G8},i<n->j<n->RP n T m i j-> ∃v:G8->G8,v 0=i/\v m=j/\(∀t,t<=m->v t<n)/\ ∀t,t<m->RP n T 1 (v t) (v (t+1))
 |0,i,j,hi,hj,r=>by
  have:=(Qj hi hj).mp r;exact⟨λ_=>i,rfl,this,λ_ _=>hi,λt ht=>by omega⟩
 |m+1,i,j,hi,hj,r=>by
  obtain⟨k,hk,r1,r2⟩:=(RM h hn m 1 hi hj).mp r;obtain⟨v,v0,vm,vl,vr⟩:=Cz h hn m hi hk r1;refine⟨λt=>if t<=m then v t else j,?_,?_,λt _=> ?_,λt ht=> ?_⟩
  ·simp [v0]
  ·show (if m+1<=m then v (m+1) else j)=j;rw [R3 (by omega)]
  ·show (if t<=m then v t else j)<n;split
   ·exact vl t (by assumption)
   ·exact hj
  ·show RP n T 1 (if t<=m then v t else j) (if t+1<=m then v (t+1) else j);rw [R1 (by omega)]
   by_cases z:t+1<=m
   ·rw [R1 z];exact vr t (by omega)
   ·rw [R3 z,show t=m by omega,vm];exact r2
theorem Vz (h:Sq n e T)(hn:n<=8){m:G8}{v:G8->G8}(vl: ∀t,t<=m->v t<n)(vr: ∀t,t<m->RP n T 1 (v t) (v (t+1)))(a:G8): ∀b,a+b<=m->RP n T b (v a) (v (a+b))
 |0,hb=>(Qj (vl a (by omega)) (vl a (by omega))).mpr rfl
 |b+1,hb=>(RM h hn b 1 (vl a (by omega)) (vl _ hb)).mpr ⟨v (a+b),vl _ (by omega),Vz h hn vl vr a b (by omega),vr (a+b) (by omega)⟩
end
theorem call_divmodB {X:Cx}:CallR X (.builtin "divmod") (λxs H Q=> ∃i j,xs= [.int i,.int j]/\(0<j/\j<2^200)/\ ∀p,H p=none->Q (.ref p) (upd H p (.tup [.int (i / j),.int (i%j)]))):=by
 intro pins s σ H xs us Q I r h;obtain⟨i,j,rfl,⟨h1,h2⟩,q⟩:=h;obtain⟨u,w',rfl,⟨t,rfl⟩,⟨t',rfl⟩⟩:=DK r;refine divmod_int (by omega) ?_ (.inl (PyProof.noPylong_of_log2 ?_))
 ·rw [f7 i (by omega),f8 i (by omega)];have hn:H s.heap.objs.size=none:=I.hok.fresh (P1 _);refine⟨.ref s.heap.objs.size,_,?_,rfl,q _ hn⟩;refine I.laid (λb o e=>G4 _ e) (P1 _) ⟨by simp only [D4,M7];rw [eZ];decide,[.int (i / j) s.toks,.int (i%j) (s.toks+1)],.cons ⟨_,rfl⟩ (.cons ⟨_,rfl⟩ .nil),?_⟩;exact⟨_,S4 s.heap rfl,rfl,rfl,0,rfl⟩
 ·have h3:j.natAbs<2^200:=WG (by omega) h2;have h4:=(qR (by omega:j.natAbs≠0)).mpr h3;omega
def Lw:RDn:=λds h Q=> ∃i j:P2,ds= [.int i,.int j]/\(0<j/\j<2^200)/\Q (.tup [.int (i / j),.int (i%j)]) h
theorem Ps {X:Cx}:vF X (.builtin "divmod") Lw:=call_divmodB.imp λxs H Q ⟨ds,h,Qd,r,rh,⟨i,j,e,c,q⟩,p⟩=>by
 subst e;obtain⟨v,w,e,r1,r2⟩:=Wx r;cases (show v= .int i from r1);cases (show w= .int j from r2);exact⟨i,j,e,c,λa ha=>p (.tup [.int (i / j),.int (i%j)]) _ _ _ (.new ha) (rh.new ha) ⟨a,_,rfl,je,.cons rfl (.cons rfl .nil)⟩ q⟩
theorem Pu {prog:D5}{w:T5}{A:R6}(hh:A.handled=none)(it t:G5)(items:M1 G1)(n:G8)(hn:items.size<=n):
 Draws prog w A it [it,t] n (λ_ _=>False) (λi h=>i=n/\h.IsListIter it t n/\h.IsList t items) where
 live:=λ_ _ st=>let ⟨o,ho,_⟩:=st.2.1;⟨o,ho⟩
 frame:=λ_ _ _ st hk=>⟨st.1,st.2.1.at λo e=>hk it (by simp) o e,st.2.2.at λo e=>hk t (by simp) o e⟩
 item:=λi s Q E hi st hQ=>absurd st.1 (R5 hi)
 done:=λs Q E st hE=>wpAny_nextOf_list_end hh st.2.1 st.2.2 (lK hn) hE
def Hx (K:G3)(a:G5):It:=
 ⟨λi H=> ∃xs x,SqL K H a xs/\xs[i]? =some x,λi H x H'=> ∃p v,H p=none/\(∀xs,SqL K H a xs->xs[i]? =some v)/\x= .ref p/\H'=upd H p (.tup [.int i,v]),λi H=> ∃xs,SqL K H a xs/\xs.length<=i⟩
theorem Pv {P:D5}{w:T5}{K:G3}{es:G0 S6}{k:G8}{pos:Pos}(a it e:G5)(hei:e≠it)(hae:a≠e)(hai:a≠it):Turn P w K (.Tuple es k pos) (Hx K a) [e,it] e (λi h=>(∃old,IsEnum h e it i old)/\h.IsListIter it a i) where
 mem:=by simp
 obj:=λi h st b hb=>by
  rcases P9.mp hb with z|z
  ·subst z;obtain⟨old,q⟩:=st.1;exact⟨_,q,λv z=>by cases z⟩
  ·have z:=P4.mp z;subst z;obtain⟨o,q,c,d⟩:=st.2;exact⟨o,q,λv z=>by rw [d] at z;cases z⟩
 keep:=λi h h' st k=>⟨let ⟨old,q⟩:=st.1;⟨old,k e (by simp) _ q⟩,st.2.at λo q=>k it (by simp) o q⟩
 item:=by
  intro X hP hw hK hc i pins s σ H E I hf st hg;subst hP hw hK;obtain⟨xs,x,hq,hx⟩:=hg;obtain⟨its,rv,p,hz⟩:=I.list hq;obtain⟨u,hu,ru⟩:=rv.get hx;have hi:i<its.toArray.size:=by have:=(R0.mp hu).1;simpa using this
  obtain⟨old,he⟩:=st.1;have helt:e<s.heap.objs.size:=D0 he;refine wpAny_pyNext_enum_itemD (Draws.list (prog:=X.prog) (w:=X.w) (A:=X.A.in1) (I.ok.hd hc) it a hai its.toArray) he ⟨st.2,p.isList⟩ hi hei (by simp [hei,O0 hae]) λx' h' tk hx' ho hs' hT hsz hk=> ?_
  have ex:x'=u:=L7 (hx'.symm.trans (show its.toArray[i]? =some u by simpa using hu));subst ex;refine⟨_,rfl,wpAny_letOwnedTupleGo_enum ho λh2 he2 hs2=> ?_⟩;have hn:H s.heap.objs.size=none:=I.hok.fresh (P1 _);have hT2:h2.get? s.heap.objs.size=some {cls:= .type "tuple",data:= .seq #[.int i tk,x']}:=(hs2.2 _ (A6 helt)).trans hT;refine⟨.ref s.heap.objs.size,upd H s.heap.objs.size (.tup [.int i,x]),?_,rfl,⟨_,x,hn,λys hy=>by rw [I.list_inj hy hq];exact hx,rfl,rfl⟩,⟨⟨x',by simpa using he2⟩,hs'.1.at λo y=>(hs2.2 it (O0 hei)).trans y⟩,λb hb=> ?_⟩
  ·refine I.turnLaid (h':=h2) (t':=tk+1) (ch:= [e,it]) (λb u hb q=> ?_) hf (P1 _) ⟨by show 2<=sizeLine;decide,[.int i tk,x'],.cons ⟨tk,rfl⟩ (.cons ru .nil),⟨_,hT2,rfl,rfl,_,rfl⟩⟩;have b1:b≠e:=λz=>hb (by simp [z])
   have b2:b≠it:=λz=>hb (by simp [z])
   exact(hs2.2 b b1).trans (hk b u b1 b2 q)
  ·have f:=(hf b hb).1;have:b≠s.heap.objs.size:=λz=>by
    rcases P9.mp hb with w|w
    ·rw [<-w,z] at helt;exact absurd helt (N8 _)
    ·have w:=P4.mp w;obtain⟨o,ho',_⟩:=st.2;have:=D0 ho';rw [<-w,z] at this;exact absurd this (N8 _)
   rw [jd this];exact f
 done:=by
  intro X hP hw hK hc i pins s σ H E I hf st hg;subst hP hw hK;obtain⟨xs,hq,hx⟩:=hg;obtain⟨its,rv,p,hz⟩:=I.list hq;obtain⟨old,he⟩:=st.1;have hl:=rv.length;refine wpAny_pyNext_enum_endD (Pu (prog:=X.prog) (w:=X.w) (A:=X.A.in1) (I.ok.hd hc) it a its.toArray i (by simp;omega)) he ⟨rfl,st.2,p.isList⟩ λh' hx'=>⟨rfl,I.turnL (t':=s.toks) (ch:= [it]) (λb o hb q=>hx' b o (λz=>hb (by simp [z])) q) λb hb=>hf b (D7 _ hb)⟩
 self:=λ_ _ _ _ _ st h=>let ⟨_,q⟩:=st.1;pB q h
section
variable {X:Cx}
def EW (K:G3)(ta:TA):TI:=λσ H R=>ta σ H λvs H1=> ∃a,vs= [.ref a]/\(∃xs,SqL K H1 a xs)/\R (Hx K a) H1
theorem Bd {es:G0 S6}{k:G8}{tp:Pos}{a:S6}{ta:TA}{p pos:Pos}(hg:Gl X "enumerate")(hm:X.mg "enumerate" =none)(ha:PA X [a] ta)(hs:P5 [a] X.env= [(false,C8 a X.env)]:=by rfl):
 PI X (.Tuple es k tp) (.Call (.Name "enumerate" p) [a] [] pos) (EW X.K ta):=by
 intro pins s σ H R I h;refine Call_ (YJ I hg hm (show K1 "enumerate" =some (.type "enumerate") by decide +kernel) (X4 (thn (ha pos pins s σ H _ I h) λus s1 ⟨vs,H1,I1,r1,q1⟩=> ?_) hs rfl));obtain⟨a,e,⟨xs,hq⟩,q⟩:=q1;subst e;cases r1 with
 |cons r rr=>
  cases rr;cases r;obtain⟨its,rv,p,hz⟩:=I1.list hq;have hlt:a<s1.heap.objs.size:=by obtain⟨o,ho,_⟩:=p.isList;exact D0 ho
  refine call_enumerate_list p.isList λh' he hit _ hk=> ?_
  refine pB he ?_;refine⟨s1.heap.objs.size+1,[s1.heap.objs.size+1,s1.heap.objs.size],_,_,H1,rfl,I1.kept (t':=s1.toks) hk,Pv a s1.heap.objs.size (s1.heap.objs.size+1) (A6 (A0 _)) (R5 (aZ hlt)) (R5 hlt),⟨⟨_,he⟩,hit⟩,λb hb=> ?_,q⟩;have hb':s1.heap.objs.size<=b:=by
   rcases P9.mp hb with w|w
   ·rw [w];exact iF _
   ·rw [P4.mp w];exact P1 _
  exact I1.fpOk hb' (I1.hok.fresh hb')
end
def iEL (ta:TAD):TID:=λσ h R=>ta σ h λxs h1=> ∃a,xs= [.lst a]/\R (λh=>(h a).map RJ) h1
section
variable {K:G3}
theorem Pw (H:Hp)(a:G5):OQ K H (λh=>(h a).map RJ) (Hx K a):=λH' h' k rh ds' e i=>by
 have e:(h' a).map RJ=some ds':=e;cases hd:h' a with
 |none=>rw [hd] at e;cases e
 |some ds=>
  rw [hd] at e;cases e;obtain⟨vs,hv',r'⟩:=rh a ds hd;refine⟨λd hd=> ?_,λhl=>⟨vs,SqL.of hv',by rw [<-r'.length,<-vY];exact hl⟩⟩;obtain⟨x,hx,ed⟩:=Gm hd;subst ed;obtain⟨v,e1,e2⟩:=r'.get hx;refine⟨⟨vs,v,SqL.of hv',e1⟩,λx' H'' ⟨p,v',hp,hx',ex,eH⟩=> ?_⟩;subst ex eH;have ev:v'=v:=by have:=hx' vs (SqL.of hv');rw [e1] at this;exact(L7 this).symm
  subst ev;have k2:Kept H' (upd H' p (.tup [.int i,v'])):= .new hp;exact⟨k2,RelH.new rh hp,p,[.int i,v'],rfl,je,_,_,rfl,rfl,_,_,rfl,e2.mono k2,rfl⟩
theorem Be {ta:TAD}: ∀σ H R,LI K (iEL ta) σ H R->EW K (LA K ta) σ H R:=λσ H R ⟨σd,h,Rd,rs,rh,q,p⟩=>
 LA.bind rs rh q λds vs h1 H1 k1 rs1 rh1 r1 ⟨a,e,q1⟩=>by
  subst e;obtain⟨v,e,r2⟩:=jA r1;obtain⟨e',ws,hv⟩:=(show v= .ref a/\ ∃vs,H1 a=some (.lst vs) from r2);subst e';exact⟨a,e,⟨ws,SqL.of hv⟩,p _ _ _ _ k1 rh1 (Pw H1 a) q1⟩
end
section
variable {X:Cx}
theorem Bf {es:G0 S6}{k:G8}{tp:Pos}{a:S6}{ta:TAD}{p pos:Pos}(hg:Gl X "enumerate")(hm:X.mg "enumerate" =none)(ha:JA X [a] ta)(hs:P5 [a] X.env= [(false,C8 a X.env)]:=by rfl):
 JI X (.Tuple es k tp) (.Call (.Name "enumerate" p) [a] [] pos) (iEL ta):=⟨(Bd hg hm ha.to hs).imp Be⟩
end
def zd (d:D)(a b:P2):N0:=match d with
 | .int x=>decide (a<=x)&&decide (x<=b)
 |_=>false
def VA (d:D)(m:P2):N0:=match d with
 | .tup es=>es.all λx=>zd x 0 (m-1)
 |_=>false
end L2
set_option maxRecDepth 35000
namespace L2
open PySem PySem.Spec PyProof.Rows PySem.SeqAt
def Sm (k b:G8)(d:D):Prop:= ∃p:C4,(∀h,ToP h d p)/\ShowB p k b/\p.canLay0=true
theorem Sm.mono {k b k' b':G8}{d:D}(h:Sm k b d)(hk:k<=k')(hb:b<=b'):Sm k' b' d:=let ⟨p,t,s,c⟩:=h;⟨p,t,s.mono hk hb,c⟩
theorem EX:Sm 0 200 .non:=⟨.none,λ_=>rfl,⟨rfl,by decide,by decide⟩,rfl⟩
theorem Hy (b:N0):Sm 0 200 (.bl b):=⟨.bool b,λ_=>rfl,by cases b<;>exact⟨rfl,by decide,by decide⟩,rfl⟩
theorem EY {i:P2}(h:i.natAbs<2^100):Sm 0 200 (.int i):=by
 refine⟨.int i,λ_=>rfl,⟨?_,by simp [O3],?_⟩,rfl⟩
 ·have:i.natAbs.log2<1920:=by
   by_cases z:i.natAbs=0
   ·rw [z];decide
   ·exact(qR z).mpr (S0 h (V9 (by decide) (by decide)))
  simpa [rC] using this
 ·show (G6 (toString i)).length<=200;rw [PySem.ofString_length];refine int_text_length_le (by decide) ?_
  by_cases z:i.natAbs=0
  ·rw [z];decide
  ·exact(qR z).mpr (S0 h (V9 (by decide) (by decide)))
theorem sms {k b:G8}: ∀ {ds:G0 D},(∀d∈ds,Sm k b d)-> ∃ps:G0 C4,ps.length=ds.length/\(∀h,ToPs h ds ps)/\(∀p∈ps,ShowB p k b)/\M6 ps=true
 | [],_=>⟨[],rfl,λ_=>rfl,by simp,rfl⟩
 |d::ds,h=>by
  obtain⟨p,t,s,c⟩:=h d P3;obtain⟨ps,l,ts,ss,cs⟩:=sms λx hx=>h x (D7 _ hx)
  refine⟨p::ps,by simp [l],λh=>⟨d,ds,rfl,t h,ts h⟩,λq hq=> ?_,by simp [M6,c,cs]⟩;rcases P9.mp hq with e|e
  ·rw [e];exact s
  ·exact ss q e
theorem Sm.tup {k b m:G8}{ds:G0 D}(h: ∀d∈ds,Sm k b d)(hm:ds.length<=m):Sm (k+1) ((b+2)*m+3) (.tup ds):=by
 obtain⟨ps,l,ts,ss,cs⟩:=sms h;refine⟨.tuple ps,λh=>⟨ds,rfl,ts h⟩,(ShowB.tup ss).mono (P1 _) ?_,by simpa only [C7] using cs⟩;have:=fO (b+2) (show ps.length<=m by omega);omega
def Th (h:HD)(d:D):Prop:=Sm 2 5000000 d\/(∃a ds,d= .lst a/\h a=some ds/\ds.length<=155/\ ∀x∈ds,Sm 1 35000 x)\/d= .dic (G6 "a") 1
theorem EZ {x:Str}(h:x=G6 "1" \/x=G6 "" \/x=G6 "0"):Sm 0 200 (.str x):=by
 rcases h with e|e|e<;>subst e<;>exact⟨.str _,λ_=>rfl,⟨by decide +kernel,by decide +kernel,by decide +kernel⟩,by decide +kernel⟩
def bnd:G8->G8
 |0=>200
 |k+1=>(bnd k+2)*155+3
theorem CA: ∀k,200<=bnd k
 |0=>P1 _
 |k+1=>by have:=CA k;show 200<=(bnd k+2)*155+3;omega
mutual
def smB:G8->D->N0
 |_,.non=>true
 |_,.bl _=>true
 |_,.int i=>decide (i.natAbs<2^100)
 |_,.str x=>decide (x=G6 "1")||decide (x=G6 "")||decide (x=G6 "0")
 |k+1,.tup ds=>decide (ds.length<=155)&&smBs k ds
 |_,_=>false
def smBs:G8->G0 D->N0
 |_,[]=>true
 |k,d::ds=>smB k d&&smBs k ds
end
theorem Go {k:G8}: ∀ {ds:G0 D},smBs k ds=true-> ∀d∈ds,smB k d=true
 |d::ds,h,x,hx=>by
  have h':(smB k d&&smBs k ds)=true:=h;rw [S9] at h';rcases P9.mp hx with e|e
  ·rw [e];exact h'.1
  ·exact Go h'.2 x e
def SmK (k:G8)(d:D):Prop:=Sm k (bnd k) d
theorem SmK.of0 {d:D}(h:Sm 0 200 d)(k:G8):SmK k d:=Sm.mono h (by omega) (CA k)
theorem SmK.tup {k:G8}{ds:G0 D}(h: ∀d∈ds,SmK k d)(hm:ds.length<=155):SmK (k+1) (.tup ds):=Sm.tup h hm
theorem RO: ∀ (k:G8) (d:D),smB k d=true->SmK k d
 |k,.non,_=>SmK.of0 EX k
 |k,.bl b,_=>SmK.of0 (Hy b) k
 |k,.int i,h=>SmK.of0 (EY (by cases k<;>exact U2 h)) k
 |k,.str x,h=>SmK.of0 (EZ (by
  have h':(decide (x=G6 "1")||decide (x=G6 "")||decide (x=G6 "0"))=true:=by cases k<;>exact h
  simp only [W7,U1] at h';rcases h' with (a|b)|c
  ·exact .inl a
  ·exact .inr (.inl b)
  ·exact .inr (.inr c))) k
 |0,.tup ds,h=>by cases h
 |k+1,.tup ds,h=>by
  have h':(decide (ds.length<=155)&&smBs k ds)=true:=h;rw [S9,U1] at h';exact SmK.tup (λd hd=>RO k d (Go h'.2 d hd)) h'.1
 |0,.lst _,h=>by cases h
 |_+1,.lst _,h=>by cases h
 |0,.dic _ _,h=>by cases h
 |_+1,.dic _ _,h=>by cases h
 |0,.dct _,h=>by cases h
 |_+1,.dct _,h=>by cases h
 |0,.scr _,h=>by cases h
 |_+1,.scr _,h=>by cases h
theorem SmK.th {h:HD}{d:D}(s:SmK 2 d):Th h d:= .inl (Sm.mono s (P1 _) (by decide))
theorem Th.lst {h:HD}{a:G5}{ds:G0 D}(ha:h a=some ds)(hl:ds.length<=155)(hs: ∀x∈ds,SmK 1 x):Th h (.lst a):= .inr (.inl ⟨a,ds,rfl,ha,hl,λx hx=>Sm.mono (hs x hx) (P1 _) (by decide)⟩)
theorem UT {h:HD}{p a:G5}{ds:G0 D}(n:a≠p)(e:h a=some ds):Vm h p a=some ds:=(R3 n).trans e
def Hz (T:G0 (G0 P2))(n p:G8):G0 G8:=(P7 n).filter λj=>decide (ent T p j>0)
def cnt (T:G0 (G0 P2))(n o:G8):G8->G8->P2
 |0,p=>if p=o then 1 else 0
 |t+1,p=>((Hz T n p).map (cnt T n o t)).sum
section
variable {T:G0 (G0 P2)}{n o:G8}
def um (T:G0 (G0 P2))(n o t p:G8):G8:=(Hz T n p).findIdx λj=>decide (cnt T n o t j>0)
def nxt (T:G0 (G0 P2))(n o t p:G8):G8:=(Hz T n p).getD (um T n o t p) 0
end
theorem Bg {α:Type}{xs:G0 α}{x:α}(h1:1<=xs.length)(h:xs[xs.length-1]? =some x):atI xs (-1)=some x:=by
 unfold atI ixN;rw [R3 (by decide),R1 (by omega)];show xs[(-1+(xs.length:P2)).toNat]? =_;rw [show (-1+(xs.length:P2)).toNat=xs.length-1 by omega];exact h
end L2
namespace HT
open PySem PySem.Spec PyProof.Rows
def Tame {α:Type}:Sem α->Prop
 | .pure _=>True
 | .raise _=>True
 | .unsupported _=>True
 | .finish _=>True
 | .rule _ k=>Tame (k ())
 | .at _ k=>Tame (k ())
 | .load _ _ k=> ∀o,Tame (k o)
 | .update _ _ f k=>(∀o,o.isFreed=false->(f o).isFreed=false/\(f o).dict=o.dict/\(f o).cls=o.cls/\((∀vs,o.data≠ .fields vs)->(f o).data=o.data))/\Tame (k ())
 | .alloc _ k=> ∀a,Tame (k a)
 | .loadIfAlive _ k=> ∀o,Tame (k o)
 | .point _ k=>Tame (k ())
 | .fresh k=> ∀t,Tame (k t)
 | .ask k=> ∀t,Tame (k t)
 | .choose _ _ k=> ∀t,Tame (k t)
 | .os _ _ k=> ∀t,Tame (k t)
 | .handled _ k=> ∀t,Tame (k t)
 | .genState _ k=> ∀t,Tame (k t)
 | .newGen _ k=> ∀t,Tame (k t)
 | .stack k=> ∀t,Tame (k t)
 | .thread k=> ∀t,Tame (k t)
 | .register _ _=>True
 |_=>False
variable {α:Type}
theorem Tame.bind {β:Type}{f:α->Sem β}(hf: ∀a,Tame (f a)): ∀ {t:Sem α},Tame t->Tame (t.bind f):=λ{t}=>by
 induction t with
 |pure a=>exact λ_=>hf a
 |raise e=>exact λh=>h
 |unsupported w=>exact λh=>h
 |finish e=>exact λh=>h
 |rule _ k ih=>exact λh=>ih () h
 | «at» _ k ih=>exact λh=>ih () h
 |load _ _ k ih=>exact λh o=>ih o (h o)
 |update _ _ g k ih=>exact λh=>⟨h.1,ih () h.2⟩
 |alloc _ k ih=>exact λh a=>ih a (h a)
 |loadIfAlive _ k ih=>exact λh o=>ih o (h o)
 |point _ k ih=>exact λh=>ih () h
 |fresh k ih=>exact λh t=>ih t (h t)
 |ask k ih=>exact λh t=>ih t (h t)
 |choose _ _ k ih=>exact λh t=>ih t (h t)
 |os _ _ k ih=>exact λh t=>ih t (h t)
 |handled _ k ih=>exact λh t=>ih t (h t)
 |genState _ k ih=>exact λh t=>ih t (h t)
 |newGen _ k ih=>exact λh t=>ih t (h t)
 |stack k ih=>exact λh t=>ih t (h t)
 |thread k ih=>exact λh t=>ih t (h t)
 |register=>exact λh=>h
 |call=>exact λh=>h.elim
 |resume=>exact λh=>h.elim
 | «yield» =>exact λh=>h.elim
 |fork=>exact λh=>h.elim
 |await=>exact λh=>h.elim
def Dk (h h':M4):Prop:= ∀b o,h.get? b=some o-> ∃o',h'.get? b=some o'/\o'.dict=o.dict/\o'.cls=o.cls/\((∀vs,o.data≠ .fields vs)->o'.data=o.data)
theorem Dk.refl (h:M4):Dk h h:=λ_ o e=>⟨o,e,rfl,rfl,λ_=>rfl⟩
theorem Dk.trans {a b c:M4}(x:Dk a b)(y:Dk b c):Dk a c:=λd o e=>
 let ⟨o1,e1,d1,c1,k1⟩:=x d o e
 let ⟨o2,e2,d2,c2,k2⟩:=y d o1 e1
 ⟨o2,e2,d2.trans d1,c2.trans c1,λn=>(k2 λvs z=>n vs ((k1 n).symm.trans z)).trans (k1 n)⟩
theorem Dk.push {h:M4}(o:Obj):Dk h (h.push o):=λ_ o' e=>⟨o',G4 _ e,rfl,rfl,λ_=>rfl⟩
theorem Dk.update {h:M4}{a:G5}{f:Obj->Obj}(hf: ∀o,o.isFreed=false->(f o).isFreed=false/\(f o).dict=o.dict/\(f o).cls=o.cls/\((∀vs,o.data≠ .fields vs)->(f o).data=o.data)):Dk h (h.update a f):=λb o e=>by
 by_cases z:b=a
 ·subst z;have:=hf o (Heap.get?_some_iff.mp e).2;exact⟨f o,B1 _ e this.1,this.2⟩
 ·exact⟨o,(X6 _ _ (O0 z)).trans e,rfl,rfl,λ_=>rfl⟩
theorem Tame.wp {M:cC}{Γ:PySem.Ctx}: ∀ {t:Sem α} {Q:α->Pos->G2->Prop} {E:G1->Pos->G2->Prop} {p:Pos} {s:G2},Tame t->Z3 M Γ t Q E p s->Z3 M Γ t (λa p' s'=>Q a p' s'/\Dk s.heap s'.heap) (λe p' s'=>E e p' s'/\Dk s.heap s'.heap) p s:=λ{t}=>by
 induction t with
 |pure a=>intro Q E p s _ q;unfold Z3 at q ⊢;exact⟨q,.refl _⟩
 |raise e=>intro Q E p s _ q;unfold Z3 at q ⊢;exact⟨q,.refl _⟩
 |unsupported w=>intro Q E p s _ q;unfold Z3 at q;exact q.elim
 |finish e=>intro Q E p s _ q;unfold Z3 at q;exact q.elim
 |rule _ k ih=>intro Q E p s h q;unfold Z3 at q ⊢;exact ih () h q
 | «at» _ k ih=>intro Q E p s h q;unfold Z3 at q ⊢;exact ih () h q
 |load _ _ k ih=>intro Q E p s h q;unfold Z3 at q ⊢;obtain⟨o,e,q⟩:=q;exact⟨o,e,ih o (h o) q⟩
 |update a _ g k ih=>
  intro Q E p s h q;unfold Z3 at q ⊢;refine⟨q.1,xP _ _ _ (λa p' s' z=>⟨z.1,(Dk.update h.1).trans z.2⟩) (λa p' s' z=>⟨z.1,(Dk.update h.1).trans z.2⟩) _ _ (ih () h.2 q.2)⟩
 |alloc o k ih=>
  intro Q E p s h q;unfold Z3 at q ⊢;exact xP _ _ _ (λa p' s' z=>⟨z.1,(Dk.push o).trans z.2⟩) (λa p' s' z=>⟨z.1,(Dk.push o).trans z.2⟩) _ _ (ih _ (h _) q)
 |loadIfAlive _ k ih=>intro Q E p s h q;unfold Z3 at q ⊢;exact ih _ (h _) q
 |point _ k ih=>intro Q E p s h q;unfold Z3 at q ⊢;exact ih () h q
 |fresh k ih=>intro Q E p s h q;unfold Z3 at q ⊢;exact ih _ (h _) q
 |ask k ih=>intro Q E p s h q;unfold Z3 at q ⊢;exact ih _ (h _) q
 |choose _ _ k ih=>intro Q E p s h q;unfold Z3 at q ⊢;exact⟨q.1,ih _ (h _) q.2⟩
 |os _ _ k ih=>intro Q E p s h q;unfold Z3 at q ⊢;exact ih _ (h _) q
 |handled _ k ih=>intro Q E p s h q;unfold Z3 at q ⊢;exact ih _ (h _) q
 |genState _ k ih=>intro Q E p s h q;unfold Z3 at q ⊢;obtain⟨o,e,q⟩:=q;exact⟨o,e,ih _ (h _) q⟩
 |newGen _ k ih=>intro Q E p s h q;unfold Z3 at q ⊢;exact ih _ (h _) q
 |stack k ih=>intro Q E p s h q;unfold Z3 at q ⊢;exact ih _ (h _) q
 |thread k ih=>intro Q E p s h q;unfold Z3 at q ⊢;exact ih _ (h _) q
 |register=>intro Q E p s h q;unfold Z3 at q;exact q.elim
 |call=>intro Q E p s h;exact h.elim
 |resume=>intro Q E p s h;exact h.elim
 | «yield» =>intro Q E p s h;exact h.elim
 |fork=>intro Q E p s h;exact h.elim
 |await=>intro Q E p s h;exact h.elim
theorem Tame.any {α:Type}{M:cC}{A:R6}{t:Sem α}{Q:α->G2->Prop}{E:G1->G2->Prop}{s:G2}(h:Tame t)(q:D1 M A t Q E s):D1 M A t (λa s'=>Q a s'/\Dk s.heap s'.heap) (λe s'=>E e s'/\Dk s.heap s'.heap) s:=λΓ p hΓ=>h.wp (q Γ p hΓ)
theorem WJ {M:cC}{A:R6}{t:Sem Unit}{Q:Unit->G2->Prop}{E:G1->G2->Prop}{s:G2}{P:M4->Prop}(ht:Tame t)(w:D1 M A t (λ_ s'=> ∃h',s'= {s with heap:=h'}/\P h') E s)(k: ∀h',P h'->Dk s.heap h'->Q () {s with heap:=h'}):D1 M A t Q E s:=
 R7 (ht.any w) (λ_ s' ⟨⟨h',e,p⟩,dk⟩=>by subst e;exact k h' p dk) λ_ _ z=>z.1
theorem jq {α β:Type}{t:Sem α}{f:α->Sem β}(h:Tame t)(hf: ∀a,Tame (f a)):Tame (t >>= f):=Tame.bind hf h
theorem Jx (a:G5):Tame (load a):=λ_=>trivial
theorem vz (v:G1)(i:G8):Tame (field v i):=by
 unfold field fieldsOf
 repeat (first|exact trivial|exact Jx _|assumption|(refine jq ?_ λ_=> ?_)|split|dsimp only)
theorem yE (v:G1)(i:G8)(x:G1):Tame (gL v i x):=by
 unfold gL updateField;split
 ·refine jq (Jx _) λo=> ?_
  split
  ·split
   ·refine⟨λo ho=> ?_,trivial⟩;obtain⟨c,d,t,sl⟩:=o;cases t<;>first|exact⟨ho,rfl,rfl,λ_=>rfl⟩|exact⟨ho,rfl,rfl,λn=>absurd rfl (n _)⟩
   ·exact trivial
  ·exact trivial
 ·exact trivial
theorem yf (e:G1)(f:P0 G5):Tame (uO e f):=by
 unfold uO;refine jq (vz _ _) λtb=> ?_
 split
 ·exact yE _ _ _
 ·exact trivial
theorem Zr:Tame stack:=λ_=>trivial
theorem Qk (env:Env)(outer:G0 Env):Tame (sG env outer):=by
 unfold sG;split
 ·exact trivial
 ·split
  ·exact trivial
  ·exact jq (vz _ _) λ_=>trivial
theorem RQ (env:Env)(i:N0)(outer:G0 Env):Tame (keptBack env i outer):=by
 unfold keptBack underTheClaimsCaller
 repeat (first|exact trivial|exact Zr|(refine jq ?_ λ_=> ?_)|split)
theorem YV: ∀l:G0 Env,Tame (xQ l)
 | []=>trivial
 |env::outer=>by
  unfold xQ;split
  ·refine jq (Jx _) λo=> ?_
   split
   ·exact trivial
   ·refine jq (Qk _ _) λi=>jq (RQ _ _ _) λb=>jq ?_ λ_=>YV outer
    exact⟨λo ho=>by obtain⟨c,d,t,sl⟩:=o;cases t<;>exact⟨ho,rfl,rfl,λ_=>rfl⟩,trivial⟩
  ·exact trivial
theorem UU (env:Env):Tame (nO env):=by
 unfold nO frameEnvs;refine jq (jq Zr λ_=>trivial) λl=>jq ?_ λf=> ?_
 ·unfold frameObject;split
  ·exact trivial
  ·exact jq (YV _) λ_=>trivial
 ·split<;>exact trivial
theorem Ql (c:G1)(t:Data)(d:P0 G5):Tame (newObj c t d):=by
 have jp:Tame (IC c t d):=by
  unfold IC;refine jq (λ_=>trivial) λa=> ?_
  dsimp only;split
  ·refine jq ?_ λb=> ?_
   ·unfold classHasDel;exact jq (Jx _) λo=>by split<;>exact trivial
   ·split
    ·exact jq trivial λ_=>trivial
    ·exact trivial
  ·exact trivial
 unfold newObj;dsimp only;split<;>(try split)<;>first|exact jp|exact trivial
theorem VB (a b c d e:G1)(l:G0 G1):Tame (fP a b c d e l):=by
 unfold fP newFields;exact Ql _ _ _
theorem Px (f:G5)(b:N0):Tame (pE f b):=by
 unfold pE;refine jq Zr λ_=> ?_
 split<;>exact trivial
theorem vK (e:G1)(env:Env):Tame (i0 e env):=by
 unfold i0;split
 ·refine jq (vz _ _) λhead=> ?_
  have jp: ∀f:G5,Tame (do gL e 1 (<-fP head (<-nO env) .none (F8 f) .none (<-pE f (head != .none)))):=λf=>jq (UU _) λ_=>jq (Px _ _) λ_=>jq (VB ..) λ_=>yE _ _ _
  dsimp only;split
  ·refine jq (vz _ _) λx=> ?_
   split
   ·exact trivial
   ·exact jq (yE _ _ _) λ_=>jp _
  ·exact jp _
 ·exact trivial
theorem ZM (env:Env)(e:G1):Tame (k9 env e):=jq (vK e env) λ_=>yf e none
end HT
namespace L2
open PySem PySem.Spec PyProof.Rows
theorem ObjOk.there {P:D5}{w:T5}{H:Hp}{h:M4}{a:G5}{o:HO}(x:ObjOk P w H h a o): ∃u,h.get? a=some u:=by
 cases o with
 |lst xs=>obtain⟨_,_,_,_,e⟩:=x;exact⟨_,e⟩
 |tup xs=>obtain⟨_,_,_,p⟩:=x;obtain⟨o,e,_⟩:=p;exact⟨_,e⟩
 |dK kvs=>obtain⟨_,_,_,_,o,_,_,e,_⟩:=x;exact⟨_,e⟩
 |dT kvs=>obtain⟨_,_,_,_,o,_,_,e,_⟩:=x;exact⟨_,e⟩
 |set S n=>obtain⟨o,_,_,_,e,_⟩:=x;exact⟨_,e⟩
 |ins C dx fs=>obtain⟨_,_,_,e,_⟩:=x;exact⟨_,e⟩
 |own y=>obtain⟨_,e⟩:=x;exact⟨_,e⟩
 |xd fs=>obtain⟨_,⟨_,_,_,e,_⟩,_⟩:=x;exact⟨_,e⟩
 |rng lo hi=>obtain⟨_,_,_,e⟩:=x;exact⟨_,e⟩
 |frz ob u=>obtain⟨e,_⟩:=x;exact⟨_,e⟩
 |tbl ps=>exact⟨_,(show h.get? a=some _ from x)⟩
 |met f y=>exact⟨_,(show h.get? a=some _ from x)⟩
 |ext φ=>obtain⟨_,⟨_,e⟩,_⟩:=x;exact⟨_,e⟩
theorem jY {h b b':M4}: ∀ {l:G0 Env},h.FunFrames b l->(∀a∈frs l,b'.get? a=none)->h.FunFrames b' l
 | [],_,_=>trivial
 |env::r,⟨hk,⟨L,o,hf,_,ho,hd⟩,hr⟩,n=>by
  refine⟨hk,⟨L,o,hf,n L ?_,ho,hd⟩,jY hr λa ha=>n a ?_⟩
  ·unfold frs;rw [U6,hf];exact .head _
  ·unfold frs;rw [U6,hf];exact .tail _ ha
structure Fly (h0:M4)(H:Hp)(h:M4)(x C:G5)(dx:P0 G5):Prop where
 ex: ∃ (oe:Obj) (vs:M1 G1) (a0:G1) (T:G5) (oT:Obj) (ts:M1 G1),h.get? x=some oe/\oe.cls= .ref C/\oe.data= .fields vs/\vs[0]? =some a0/\vs[1]? =some (.ref T)/\T≠x/\
  h.get? T=some oT/\oT.data= .fields ts/\ts[3]? =some .none/\H T=none/\h0.get? T=none
 nx:H x=none
 n0:h0.get? x=none
 dc:dx=none\/ ∃oe,h.get? x=some oe/\oe.dict=dx
def CXR (P:D5)(w:T5):CXT:=λouter H s E e s'=> ∃x C dx H',e= .ref x/\s'.os=s.os/\fQ s'.gens/\Un (frs outer) [] H H' s.heap s'.heap/\HOk P w H' s'.heap/\Fly s.heap H' s'.heap x C dx/\E (.ref C) dx H'
structure Rz0 (X:Cx):Prop where
 stk:X.stack=X.env::X.outer
 fr:X.env.frame=some X.env.locals
 ex:X.ex= []
structure Rz (X:Cx)(E:XK):Prop extends Rz0 X where
 xe: ∀e s',D1 (D3 X.prog X.w) X.A (k9 X.env e) (λ_ s''=>CXR X.prog X.w X.outer X.H₀ X.s₀ E e s'') (λe' s''=>CXR X.prog X.w X.outer X.H₀ X.s₀ E e' s'') s'->X.xe e s'
section
variable {X:Cx}{pins:G0 (G5×Obj)}{σ:St}{H:Hp}{s:G2}{E:XK}{x C:G5}{dx:P0 G5}
theorem Gp (I:Inv X pins σ H s)(Z:Rz0 X){ys:G0 G5}(hy: ∀y∈ys,H y=none/\X.s₀.heap.get? y=none){h':M4}
 (kb: ∀b o,s.heap.get? b=some o->b ∉ ys->b ∉ frs (X.env::X.outer)->h'.get? b=some o)
 (up: ∀b o,s.heap.get? b=some o->b∈frs (X.env::X.outer)-> ∃sl,h'.get? b=some {o with slots:=sl}):
 Un X.fs [] X.H₀ H X.s₀.heap h'/\HOk X.prog X.w H h'/\
  ∀T oT ts,h'.get? T=some oT->oT.data= .fields ts->(∀o,s.heap.get? T=some o->T∈ys\/T∈frs (X.env::X.outer))->H T=none/\X.s₀.heap.get? T=none:=by
 have nex: ∀b,b ∉ X.ex:=λb=>by rw [Z.ex];simp
 have neL: ∀b o,X.s₀.heap.get? b=some o->b≠X.env.locals:=λb o e=>R5 (S0 (D0 e) I.ok.above)
 have mem: ∀b,b∈frs (X.env::X.outer)↔b=X.env.locals\/b∈X.fs:=λb=>by
  show b∈List.filterMap _ _↔_;rw [U6,Z.fr];exact P9
 have nys: ∀b o,X.s₀.heap.get? b=some o->b ∉ ys:=λb o e z=>by rw [(hy b z).2] at e;cases e
 have trf: ∀b u,H b=some u->b ∉ ys/\b ∉ frs (X.env::X.outer):=λb u e=>by
  refine⟨λz=> ?_,λz=> ?_⟩
  ·rw [(hy b z).1] at e;cases e
  ·have:=I.stkFree b (by rw [Z.stk];exact z);rw [this] at e;cases e
 refine⟨⟨λb o e n hb hx=> ?_,λb o e n hb hx=> ?_,λb o e n hx=>I.base.free b o e n (nex b),λb o e hx=> ?_,I.base.tups,I.base.frzs,I.base.tbls⟩,λa o e=> ?_,λT oT ts hT hd hn=>⟨?_,?_⟩⟩
 ·exact kb b o (I.base.keep b o e n hb (nex b)) (nys b o e) λz=>((mem b).mp z).elim (neL b o e) hb
 ·obtain⟨sl,e1⟩:=I.base.slot b o e n hb (nex b);obtain⟨sl',e2⟩:=up b _ e1 ((mem b).mpr (.inr hb));exact⟨sl',e2⟩
 ·obtain⟨o',e1⟩:=I.base.there b o e (nex b)
  by_cases hb:b∈frs (X.env::X.outer)
  ·obtain⟨sl,e2⟩:=up b o' e1 hb;exact⟨_,e2⟩
  ·exact⟨_,kb b o' e1 (nys b o e) hb⟩
 ·refine(I.hok a o e).stay (λb u hb q=> ?_) (λ_ q=>q) λ_ _ q=>q
  rcases hb with rfl|hb
  ·exact kb b u q (trf b _ e).1 (trf b _ e).2
  ·exact kb b u q (trf b _ hb).1 (trf b _ hb).2
 ·cases q:H T with
  |none=>rfl
  |some u=>
   obtain⟨o,e⟩:=(I.hok T u q).there;exact absurd (hn o e) λz=>z.elim (trf T u q).1 (trf T u q).2
 ·cases q:X.s₀.heap.get? T with
  |none=>rfl
  |some o=>
   exfalso;obtain⟨o',e1⟩:=I.base.there T o q (nex T);rcases hn o' e1 with z|z
   ·exact nys T o q z
   ·rcases (mem T).mp z with z'|z'
    ·exact neL T o q z'
    ·obtain⟨_,o2,e2,nd⟩:=(show s.heap.FunFrames X.base (X.env::X.outer) from Z.stk ▸ I.stack).mem z;obtain⟨sl,e3⟩:=up T o2 e2 z;rw [hT] at e3;cases e3;exact nd ts hd
theorem RR {Q:Unit->G2->Prop}{M:cC}{EE:G1->G2->Prop}(I:Inv X pins σ H s)(Z:Rz X E)(fl:Fly X.s₀.heap H s.heap x C dx)
 (k: ∀h',Un X.fs [] X.H₀ H X.s₀.heap h'->HOk X.prog X.w H h'->Fly X.s₀.heap H h' x C dx->Q () {s with heap:=h'}):D1 M X.A (k9 X.env (.ref x)) Q EE s:=by
 obtain⟨oe,vs,a0,T,oT,ts,he,hc,hd,h0,h1,hTx,hT,hTd,h3,hHT,h0T⟩:=fl.ex;have hfr:X.A.frames=some (X.env::X.outer):=by rw [I.ok.frames,Z.stk]
 have stk:s.heap.FunFrames X.base (X.env::X.outer):=Z.stk ▸ I.stack;have ff:s.heap.FunFrames (U9 s.heap (x::T::frs (X.env::X.outer))) (X.env::X.outer):=jY stk λa ha=>Q1 _ (.tail _ (.tail _ ha))
 refine R7 ((HT.ZM X.env (.ref x)).any (wpAny_leaves_onW (base:=U9 s.heap (x::T::frs (X.env::X.outer))) (cls:= .ref C) (a0:=a0)
  (Q:=λ_ s'=> ∃h',s'= {s with heap:=h'}/\lL (U9 s.heap (x::T::frs (X.env::X.outer))) X.outer x (.ref C) a0 h'/\s.heap.UpToSlots h') (E:=EE) hfr Z.fr
  ⟨λb o e=>cP _ e,Q1 _ (.head _),ff,oe,vs,T,oT,ts,he,⟨hc,h0⟩,hd,h1,Q1 _ (.tail _ (.head _)),hTx,hT,hTd,h3⟩ λh' p q=>⟨h',rfl,p,q⟩)) (λ_ s' ⟨⟨h',e',hfl',hup⟩,dk⟩=> ?_) λ_ _ z=>z.1
 subst e';obtain⟨st,_,_,oe',vs',T',oT',ts',he',⟨hc',h0'⟩,hd',h1',hTB,hTx',hT',hTd',h3'⟩:=hfl';obtain⟨r1,r2,r3⟩:=Gp (ys:= [x,T]) (h':=h') I Z.toRz0 (λy hy=>by
  rcases P9.mp hy with rfl|hy
  ·exact⟨fl.nx,fl.n0⟩
  ·rcases P9.mp hy with rfl|hy
   ·exact⟨hHT,h0T⟩
   ·cases hy) (λb o e n1 n2=>st b o (U5 _ e λz=>by
    rcases P9.mp z with rfl|z
    ·exact n1 (.head _)
    ·rcases P9.mp z with rfl|z
     ·exact n1 (.tail _ (.head _))
     ·exact n2 z)) λb o e hb=>by
  obtain⟨_,o2,e2,nd⟩:=stk.mem hb;rw [e] at e2;cases e2;exact hup b o e nd
 obtain⟨q1,q2⟩:=r3 T' oT' ts' hT' hTd' λo e=>by
  by_cases z:T'∈frs (X.env::X.outer)
  ·exact .inr z
  ·refine .inl ?_
   by_cases z1:T'=x
   ·rw [z1];exact .head _
   ·by_cases z2:T'=T
    ·rw [z2];exact .tail _ (.head _)
    ·rw [U5 _ e (by simp only [P9,IE];exact⟨z1,z2,z⟩)] at hTB;cases hTB
 exact k h' r1 r2 ⟨⟨oe',vs',a0,T',oT',ts',he',hc',hd',h0',h1',hTx',hT',hTd',h3',q1,q2⟩,fl.nx,fl.n0,fl.dc.imp id λ⟨o,e,d⟩=>let ⟨o',e2,d2,_⟩:=dk x o e;⟨o',e2,d2.trans d⟩⟩
theorem Py {Q:Unit->G2->Prop}{M:cC}{EE:G1->G2->Prop}{h1:M4}{args:G0 G1}(I:Inv X pins σ H s)(Z:Rz X E)(hm:sH s.heap h1 x (.ref C) args)
 (k: ∀h',Un X.fs [] X.H₀ H X.s₀.heap h'->HOk X.prog X.w H h'->Fly X.s₀.heap H h' x C none->Q () {s with heap:=h'}):D1 M X.A (k9 X.env (.ref x)) Q EE {s with heap:=h1}:=by
 have hfr:X.A.frames=some (X.env::X.outer):=by rw [I.ok.frames,Z.stk]
 have stk:s.heap.FunFrames X.base (X.env::X.outer):=Z.stk ▸ I.stack;have ff:s.heap.FunFrames (U9 s.heap (frs (X.env::X.outer))) (X.env::X.outer):=jY stk λa ha=>Q1 _ ha
 refine wpAny_leaves_madeW (base:=U9 s.heap (frs (X.env::X.outer))) (h:=s.heap) (s:= {s with heap:=h1}) hfr Z.fr (λb o e=>cP _ e) ff hm λh' t hfl' _ _ hup=> ?_
 obtain⟨st,_,_,oe',vs',T',oT',ts',he',⟨hc',h0'⟩,hd',h1',hTB,hTx',hT',hTd',h3'⟩:=hfl';obtain⟨r1,r2,r3⟩:=Gp (ys:= []) (h':=h') I Z.toRz0 (λy hy=>nomatch hy) (λb o e _ n2=>st b o (U5 _ e n2)) λb o e hb=>by
  obtain⟨_,o2,e2,nd⟩:=stk.mem hb;rw [e] at e2;cases e2;exact hup b o (hm.keeps b o e) nd
 obtain⟨q1,q2⟩:=r3 T' oT' ts' hT' hTd' λo e=>by
  by_cases z:T'∈frs (X.env::X.outer)
  ·exact .inr z
  ·rw [U5 _ e z] at hTB;cases hTB
 obtain⟨p1,p2⟩:=r3 x oe' vs' he' hd' λo e=>by rw [hm.new] at e;cases e
 exact k h' r1 r2 ⟨⟨oe',vs',_,T',oT',ts',he',hc',hd',h0',h1',hTx',hT',hTd',h3',q1,q2⟩,p1,p2,.inl rfl⟩
theorem RS {Q:Unit->G2->Prop}{M:cC}{EE:G1->G2->Prop}{oe:Obj}{vs:M1 G1}{a0:G1}(I:Inv X pins σ H s)(Z:Rz X E)(hx:H x=none)(h0:X.s₀.heap.get? x=none)(he:s.heap.get? x=some oe)(hc:oe.cls= .ref C)(hd:oe.data= .fields vs)(h1:vs[1]? =some .none)(ha:vs[0]? =some a0)(hdx:oe.dict=dx)
 (k: ∀h',Un X.fs [] X.H₀ H X.s₀.heap h'->HOk X.prog X.w H h'->Fly X.s₀.heap H h' x C dx->Q () {s with heap:=h'}):D1 M X.A (k9 X.env (.ref x)) Q EE s:=by
 have hfr:X.A.frames=some (X.env::X.outer):=by rw [I.ok.frames,Z.stk]
 have stk:s.heap.FunFrames X.base (X.env::X.outer):=Z.stk ▸ I.stack;have ff:s.heap.FunFrames (U9 s.heap (x::frs (X.env::X.outer))) (X.env::X.outer):=jY stk λa ha=>Q1 _ (.tail _ ha)
 refine R7 ((HT.ZM X.env (.ref x)).any (wpAny_leaving_firstW (base:=U9 s.heap (x::frs (X.env::X.outer))) (a0:=a0)
  (Q:=λ_ s'=> ∃h',s'= {s with heap:=h'}/\Heap.LeftW (U9 s.heap (x::frs (X.env::X.outer))) (X.env::X.outer) x oe.cls a0 s.heap h') (E:=EE) hfr ff Z.fr he
  (λb o e=>cP _ e) (Q1 _ (.head _)) hd h1 ha λh' p=>⟨h',rfl,p⟩)) (λ_ s' ⟨⟨h',e',hl⟩,dk⟩=> ?_) λ_ _ z=>z.1
 subst e';obtain⟨st,⟨_,_,_⟩,⟨oe',vs',T',oT',ts',he',⟨hc',h0'⟩,hd',h1',hTB,hTx',hT',hTd',h3'⟩,hup⟩:=hl;obtain⟨r1,r2,r3⟩:=Gp (ys:= [x]) (h':=h') I Z.toRz0 (λy hy=>by
  rcases P9.mp hy with rfl|hy
  ·exact⟨hx,h0⟩
  ·cases hy) (λb o e n1 n2=>st b o (U5 _ e λz=>by
    rcases P9.mp z with rfl|z
    ·exact n1 (.head _)
    ·exact n2 z)) λb o e hb=>by
  obtain⟨_,o2,e2,nd⟩:=stk.mem hb;rw [e] at e2;cases e2;exact hup b o e nd
 obtain⟨q1,q2⟩:=r3 T' oT' ts' hT' hTd' λo e=>by
  by_cases z:T'∈frs (X.env::X.outer)
  ·exact .inr z
  ·refine .inl ?_
   by_cases z1:T'=x
   ·rw [z1];exact .head _
   ·rw [U5 _ e (by simp only [P9,IE];exact⟨z1,z⟩)] at hTB;cases hTB
 exact k h' r1 r2 ⟨⟨oe',vs',a0,T',oT',ts',he',hc'.trans hc,hd',h0',h1',hTx',hT',hTd',h3',q1,q2⟩,hx,h0,.inr (let ⟨o',e2,d2,_⟩:=dk x oe he;⟨o',e2,d2.trans hdx⟩)⟩
theorem HA (Z:Rz X E):Wm (CXR X.prog X.w) X E:=by
 intro pins σ H s e s' I ⟨x,C,dx,H',he,os,bare,un,hok,fl,q⟩;subst he;obtain⟨hh,g,d,t,os'⟩:=s';obtain rfl:os'=s.os:=os;have I':=I.call (h':=hh) (g':=g) (d':=d) (t':=t) (ch:= []) un hok bare (λb z=>absurd z (by simp));have nex: ∀b,b ∉ X.ex:=λb=>by rw [Z.ex];simp
 have f0: ∀b,s.heap.get? b=none->X.s₀.heap.get? b=none:=λb n=>by
  cases q:X.s₀.heap.get? b with
  |none=>rfl
  |some o=>obtain⟨o',e⟩:=I.base.there b o q (nex b);rw [n] at e;cases e
 have fl':Fly X.s₀.heap H' hh x C dx:=by
  obtain⟨⟨oe,vs,a0,T,oT,ts,a1,a2,a3,a4,a5,a6,a7,a8,a9,a10,a11⟩,nx,n0,dc⟩:=fl;exact⟨⟨oe,vs,a0,T,oT,ts,a1,a2,a3,a4,a5,a6,a7,a8,a9,a10,f0 _ a11⟩,nx,f0 _ n0,dc⟩
 exact Z.xe _ _ (RR I' Z fl' λh' u hk f=>⟨x,C,dx,H',rfl,I'.os,I'.bare,u,hk,f,q⟩)
end
end L2
namespace L2
open PySem PySem.Spec PyProof.Rows PySem.W
def ZW (cells:G0 (Str×G5)):G0 (Str×NameKind)->G0 (Str×G5)->G0 (Str×G5)
 | [],cs=>cs
 |(n,k)::r,cs=>ZW cells r (if k== .free then (match cells.lookup n with|some c=>(n,c)::cs|none=>cs) else cs)
theorem yF {env:Env}: ∀ (names:G0 (Str×NameKind)) (cs:G0 (Str×G5)),(∀n,(n,B6)∈names-> ∃c,env.cells.lookup n=some c)->
 (forIn names cs (λ(x:Str×NameKind) (r:G0 (Str×G5))=>do
  let (name,kind):=x
  if kind== .free then
   let c <-G0h env name
   pure (J8 ((name,c)::r))
  else pure (J8 r)):Sem (G0 (Str×G5)))=pure (ZW env.cells names cs)
 | [],cs,_=>rfl
 |(n,k)::r,cs,h=>by
  rw [cN]
  by_cases hk:(k==B6)=true
  ·have hk':k= .free:=eq_of_beq hk;subst hk';obtain⟨c,hc⟩:=h n (.head _);unfold ZW;simp only [K4,iC,G0h,hc,pure_bind];exact yF r _ λn hn=>h n (.tail _ hn)
  ·unfold ZW;simp only [hk,gC,pure_bind];exact yF r _ λn hn=>h n (.tail _ hn)
variable {scope:H0}
theorem WK {env:Env}(h: ∀n,(n,B6)∈scope.names-> ∃c,env.cells.lookup n=some c):gH scope env=pure (ZW env.cells scope.names []):=by
 have:=yF (env:=env) scope.names [] h;unfold gH
 first
  |exact this
  |simpa using this
theorem yn {cells:G0 (Str×G5)}: ∀ (names:G0 (Str×NameKind)) (cs:G0 (Str×G5)),(∀x c,cs.lookup x=some c->cells.lookup x=some c)-> ∀x c,(ZW cells names cs).lookup x=some c->cells.lookup x=some c
 | [],_,h,x,c,e=>h x c e
 |(n,k)::r,cs,h,x,c,e=>by
  unfold ZW at e;refine yn r _ (λy d hy=> ?_) x c e;split at hy
  ·split at hy
   ·rename_i c' hc';rw [C3] at hy
    by_cases q:(y==n)=true
    ·rw [q] at hy;cases hy;rw [eq_of_beq q];exact hc'
    ·simp only [q] at hy;exact h y d hy
   ·exact h y d hy
  ·exact h y d hy
theorem WL {cells:G0 (Str×G5)}: ∀ (names:G0 (Str×NameKind)) (cs:G0 (Str×G5)) (x:Str),((x,B6)∈names/\(∃c,cells.lookup x=some c)\/ ∃c,cs.lookup x=some c)-> ∃c,(ZW cells names cs).lookup x=some c
 | [],_,x,h=>h.elim (λz=>nomatch z.1) id
 |(n,k)::r,cs,x,h=>by
  unfold ZW;refine WL r _ x ?_;rcases h with ⟨hm,c,hc⟩|⟨c,hc⟩
  ·rcases P9.mp hm with q|q
   ·cases q;right;simp only [K4,iC,hc];exact⟨c,by simp⟩
   ·exact .inl ⟨q,c,hc⟩
  ·right;split
   ·split
    ·rename_i c' hc'
     by_cases q:(x==n)=true
     ·exact⟨c',by rw [C3,q]⟩
     ·exact⟨c,by rw [C3];simp only [q];exact hc⟩
    ·exact⟨c,hc⟩
   ·exact⟨c,hc⟩
structure LamOk (sc:H0):Prop where
 kind:sc.kind= .function
 co:sc.isCoroutine=false
 gen:sc.isGenerator=false
 nocell: ∀y∈sc.names,y.2≠ .cell/\y.2≠ .local
def Yu:m9:= {posonlyargs:= [],args:= [],vararg:=none,kwonlyargs:= [],kw_defaults:= [],kwarg:=none,defaults:= []}
theorem UV {a0 b0:G8}{c:G1}: ∀l:G0 G1,eI l->eI (l++ [F8 a0,F8 b0,c]):=by
 intro l h
 fun_induction eI l with
 |case1=>simp [eI,F8]
 |case2 a t b u x rest ih=>simp only [C9,eI];exact ih h
 |case3 l h1 h2=>exact h.elim
theorem Pz {p:Pos}{a0 b0:G8}{c cv:G1}: ∀l:G0 G1,eI l->i4 p (l++ [F8 a0,F8 b0,c])=some cv->i4 p l=some cv\/cv=c:=by
 intro l h e
 fun_induction eI l with
 |case1=>
  right;simp only [F0,i4,F8] at e;split at e
  ·exact(L7 e).symm
  ·cases e
 |case2 a t b u x rest ih=>
  simp only [C9,i4] at e ⊢;split at e
  ·rename_i hc;left;rw [R1 hc];exact e
  ·rename_i hc;rw [R3 hc];exact ih h e
 |case3 l h1 h2=>exact h.elim
def CodeF (H:Hp)(cv:G1)(q:Str):Prop:= ∃ (c:G5) (o:Obj) (vs:M1 G1) (t:Tok),cv= .ref c/\H c=some (.frz o (.own 0))/\o.data= .fields vs/\vs[1]? =some (.str q t)
variable {w:T5}{H:Hp}{q:Str}
theorem CodeF.rec {P:D5}{h:M4}{cv:G1}(x:CodeF H cv q)(ok:HOk P w H h):h.CodeRec cv q:=let ⟨c,o,vs,t,e,e2,r⟩:=x;⟨c,o,vs,t,e,(ok c _ e2).1,r⟩
section
variable {X:Cx}{pins:G0 (G5×Obj)}{σ:St}{H:Hp}{s:G2}
theorem Bh {M:cC}{A:R6}{E:G1->G2->Prop}{Q:G1->G2->Prop}{body:S6}{scope:H0}{pos:Pos}{c P:G5}{ps:M1 G1}{clos:G0 (Str×G5)}(I:Inv X pins σ H s)(B:Bm X.mg X.base)
 (hcode:X.env.code= .ref c)(hc:codeHdIn X.K c P=true)(hP:H P=some (.tbl ps))(hps:CodesOk H ps)(hcl:gH scope X.env=pure clos)
 (k: ∀ (f:G5) (q qual:Str) (pm cv ctv:G1) (H':Hp) (h':M4) (tk:Tok),Inv X pins σ H' {s with heap:=h',toks:=tk}->Kept H H'->(∀a o,H a=some o->(∀ps',o≠ .tbl ps')->H' a=some o)->
  (∀a ps',H a=some (.tbl ps')->a≠P->H' a=some (.tbl ps'))->(∃ps',H' P=some (.tbl ps')/\CodesOk H' ps')->
  h'.get? f=some {cls:= .type "function",data:= .func (kla_fn "<lambda>" qual Yu body scope clos pm cv ctv)}->CodeF H' cv q->H' f=none->(∀x d,X.env.cells.lookup x=some d->d≠f)->f≠X.env.locals->f ∉ X.fs->Q (.ref f) {s with heap:=h',toks:=tk}):
 D1 M A (C8 (.Lambda Yu body scope pos) X.env) Q E s:=by
 have hPg:s.heap.get? P=some (tabObj ps):=I.hok P _ hP;have C:CodeHd s.heap c P:=codeHd_of_K I.kIn hc;have hgs:s.heap.Ns mainGlobals X.mg:=I.mod.glob.keeps I.bk;obtain⟨bm,ob,b1,b2,b3,b4,b5,b6⟩:=B;have bb:=I.bs _ _ b3;have hgP:mainGlobals≠P:=λq=>by
  obtain⟨o,es,ep,e,hd,_⟩:=hgs;rw [q,hPg] at e;cases e;cases hd
 have hbP:bm≠P:=λq=>by rw [q,hP] at bb;cases bb.2
 have hbG:bm≠mainGlobals:=λq=>by
  obtain⟨o,es,ep,e,hd,_⟩:=hgs;rw [q,e] at bb;cases bb.1;rw [hd] at b6;cases b6
 have BA:s.heap.BuiltinsAt X.mg P:=⟨bm,ob,b1,b2,hbG,hbP,bb.1,b4,b5,b6⟩;have away: ∀f,s.heap.objs.size<=f->(∀x d,X.env.cells.lookup x=some d->d≠f)/\f≠X.env.locals/\f ∉ X.fs:=λf hf=>⟨λx d e z=>by
  obtain⟨v,o,ho,_⟩:=I.cell x d e;exact absurd (S0 (D0 ho) (z ▸ hf)) (N8 _),λz=>absurd (S0 I.lt (z ▸ hf)) (N8 _),I.nofs hf⟩
 refine kla_eval rfl ?_;cases hf:i4 pos ps.toList with
 |none=>
  refine kla_makeFunction (mg:=X.mg) hcl I.ok.glob hgs hcode C hPg hps.1 hf hgP BA λc' ctv h' tk hx hge hlt hrec htb=> ?_
  have hP':P<s.heap.objs.size:=D0 hPg;have hcP:c'≠P:=A6 (S0 hP' hge);have hcn:H c'=none:=I.hok.fresh hge;obtain⟨c₂,oc,vs,t,e2,hoc,hd,hv⟩:=hrec;cases e2;have szle:s.heap.objs.size<=h'.objs.size:=M5 (Y6 hge hlt);have kp: ∀ (o2:Obj) b o,b≠P->s.heap.get? b=some o->(h'.push o2).get? b=some o:=λo2 b o nb e=>G4 _ (hx b o nb e)
  have hnP: ∀b u,H b=some u->(∀ps',u≠ .tbl ps')->b≠P:=λb u e n z=>by rw [z,hP] at e;cases e;exact n _ rfl
  have look: ∀b,b≠P->b≠c'->upd (upd H c' (.frz oc (.own 0))) P (.tbl (ps++ #[F8 pos.line,F8 pos.col,.ref c'])) b=H b:=λb n1 n2=>by rw [jd n1,jd n2]
  have ncs: ∀b u,H b=some u->b≠c':=λb u e z=>by rw [z,hcn] at e;cases e
  have frzs: ∀b o u,H b=some (.frz o u)->upd (upd H c' (.frz oc (.own 0))) P (.tbl (ps++ #[F8 pos.line,F8 pos.col,.ref c'])) b=some (.frz o u):=λb o u e=>by
   rw [look b (hnP b _ e (by intro _ z;cases z)) (ncs b _ e)];exact e
  refine k h'.objs.size (X.env.qual++ "<lambda>") (X.env.qual++ "<lambda>") _ (.ref c') ctv (upd (upd H c' (.frz oc (.own 0))) P (.tbl (ps++ #[F8 pos.line,F8 pos.col,.ref c']))) _ tk ?_ ?_ ?_ ?_ ?_ (S4 _ rfl) ⟨c',oc,vs,t,rfl,by rw [jd hcP,je],hd,hv⟩ ?_ (away _ szle).1 (away _ szle).2.1 (away _ szle).2.2
  ·refine I.un (t':=tk) ⟨λb o e n hb hx'=>kp _ b o (λz=>by rw [z,hP] at n;cases n) e,λb o e n hb hx'=>⟨o.slots,kp _ b o (λz=>by rw [z,hP] at n;cases n) e⟩,λb o e n hx'=> ?_,λb o e hx'=> ?_,λb xs e=> ?_,frzs,λb ps' e=> ?_⟩ λa o e=> ?_
   ·rw [look b (λz=>by rw [z,hP] at n;cases n) (R5 (S0 (D0 e) hge))];exact n
   ·by_cases z:b=P
    ·rw [z];exact⟨_,G4 _ htb⟩
    ·exact⟨_,kp _ b o z e⟩
   ·rw [look b (hnP b _ e (by intro _ z;cases z)) (ncs b _ e)];exact e
   ·by_cases z:b=P
    ·subst z;rw [hP] at e;cases e;exact⟨_,je⟩
    ·exact⟨#[],by rw [look b z (ncs b _ e),e];simp⟩
   ·by_cases z:a=P
    ·subst z;rw [je] at e;cases e;exact G4 _ htb
    ·rw [jd z] at e
     by_cases z2:a=c'
     ·subst z2;rw [je] at e;cases e;exact⟨G4 _ hoc,⟨oc,G4 _ hoc⟩⟩
     ·rw [jd z2] at e;refine(I.hok a o e).stay (λb u hb q=> ?_) (λb q=> ?_) λb xs q=> ?_
      ·rcases hb with rfl|hb
       ·exact kp _ b u z q
       ·exact kp _ b u (hnP b _ hb (by intro _ z;cases z)) q
      ·rw [look b (hnP b _ q (by intro _ z;cases z)) (ncs b _ q)];exact q
      ·rw [look b (hnP b _ q (by intro _ z;cases z)) (ncs b _ q)];exact q
  ·refine⟨λa xs e=> ?_,λa xs e=>⟨xs,?_⟩,λa kk i e=> ?_,frzs⟩<;>(rw [look a (hnP a _ e (by intro _ z;cases z)) (ncs a _ e)];exact e)
  ·intro a o e n;rw [look a (hnP a _ e n) (ncs a _ e)];exact e
  ·intro a ps' e n;rw [look a n (ncs a _ e)];exact e
  ·refine⟨_,je,?_,λp cv e=> ?_⟩
   ·simp only [nF];exact UV _ hps.1
   ·simp only [nF] at e;rcases Pz ps.toList hps.1 e with e|e
    ·obtain⟨c1,o,vs',q',t',e1,e2,r⟩:=hps.2 p cv e;exact⟨c1,o,vs',q',t',e1,frzs _ _ _ e2,r⟩
    ·exact⟨c',oc,vs,_,t,e,by rw [jd hcP,je],hd,hv⟩
  ·have:H h'.objs.size=none:=I.hok.fresh szle;rw [look _ (A6 (S0 hP' szle)) (A6 hlt)];exact this
 |some cv=>
  obtain⟨c1,o,vs,q,t,rfl,e2,hd,hv⟩:=hps.2 pos cv hf;obtain⟨ho,_⟩:=I.hok c1 _ e2;refine kla_makeFunctionHit (mg:=X.mg) hcl I.ok.glob hgs hcode C hPg hps.1 hf BA λctv h' tk hk hsz=> ?_
  exact k h'.objs.size q (X.env.qual++ "<lambda>") _ (.ref c1) ctv H _ tk (I.kept (t':=tk) λb u e=>G4 _ (hk b u e)) (.refl H) (λ_ _ e _=>e) (λ_ _ e _=>e) ⟨ps,hP,hps⟩ (S4 _ rfl) ⟨c1,o,vs,t,rfl,e2,hd,hv⟩
   (I.hok.fresh hsz) (away _ hsz).1 (away _ hsz).2.1 (away _ hsz).2.2
end
structure Cap (N:G0 Str)(σ:St)(sc:H0)(cl:G0 (Str×G5))(h:M4)(H:Hp):Prop where
 len:σ.length=N.length
 inj: ∀x y c,cl.lookup x=some c->cl.lookup y=some c->x=y
 has: ∀x,sc.names.lookup x=some .free-> ∃c,cl.lookup x=some c
 cell: ∀x c,cl.lookup x=some c->(∃v,h.IsCell c v)/\H c=none
 loc: ∀ (i:G8) (x:Str) (v:V),N[i]? =some x->σ[i]? =some (some v)->sc.names.lookup x=some .free-> ∃u c,RelV v u/\cl.lookup x=some c/\h.IsCell c (some u)
theorem wH {α β:Type}[BEq α][LawfulBEq α]: ∀ {l:G0 (α×β)} {x:α} {y:β},l.lookup x=some y->(x,y)∈l
 | [],_,_,h=>by cases h
 |(a,b)::r,x,y,h=>by
  rw [C3] at h
  by_cases q:(x==a)=true
  ·rw [q] at h;cases h;rw [eq_of_beq q];exact .head _
  ·simp only [q] at h;exact .tail _ (wH h)
def RU (sc:H0)(env:Env):Prop:= ∀n,(n,B6)∈sc.names->env.kindOf n=some .cell\/env.kindOf n=some .free
variable {σ:St}{s:G2}
theorem Cap.of {X:Cx}{pins:G0 (G5×Obj)}{sc:H0}(I:Inv X pins σ H s)(hf:RU sc X.env):Cap X.N σ sc (ZW X.env.cells sc.names []) s.heap H where
 len:=I.len
 inj:=λx y c h1 h2=>I.ok.inj x y c (yn _ _ (λ_ _ z=>by cases z) _ _ h1) (yn _ _ (λ_ _ z=>by cases z) _ _ h2)
 has:=λx h=>WL _ _ _ (.inl ⟨wH h,I.ok.has x (hf x (wH h))⟩)
 cell:=λx c h=>⟨I.cell x c (yn _ _ (λ_ _ z=>by cases z) _ _ h),I.freeC x c (yn _ _ (λ_ _ z=>by cases z) _ _ h)⟩
 loc:=λi x v h1 h2 h3=>by
  obtain⟨m,hn,hl⟩:=I.loc;have hk:=hf x (wH h3);obtain⟨u,r,l⟩:=hl i x v h1 h2 (.inr hk);obtain⟨c,hc⟩:=WL (cells:=X.env.cells) sc.names [] x (.inl ⟨wH h3,I.ok.has x hk⟩);refine⟨u,c,r,hc,?_⟩;have hc':=yn _ _ (λ_ _ z=>by cases z) _ _ hc;rcases l with ⟨k,_⟩|⟨_,c2,e,z⟩
  ·rcases hk with k2|k2<;>(rw [k] at k2;cases k2)
  ·rw [hc'] at e;cases e;exact z
variable {cl:G0 (Str×G5)}
theorem Cap.step {N:G0 Str}{sc:H0}{h h':M4}{H':Hp}{fs:G0 G5}(C:Cap N σ sc cl h H)(u:Un fs [] H H' h h'):Cap N σ sc cl h' H':=by
 have k: ∀x c v,cl.lookup x=some c->h.IsCell c v->h'.IsCell c v:=λx c v e ⟨o,ho,hd⟩=>by
  obtain⟨sl,q⟩:=u.any ho (C.cell x c e).2 (by simp);exact⟨_,q,hd⟩
 exact⟨C.len,C.inj,C.has,λx c e=>by
  obtain⟨⟨v,z⟩,n⟩:=C.cell x c e;obtain⟨o,ho,_⟩:=id z;exact⟨⟨v,k x c v e z⟩,u.free c o ho n (by simp)⟩,λi x v h1 h2 h3=>let ⟨uu,c,r,e,z⟩:=C.loc i x v h1 h2 h3;⟨uu,c,r,e,k x c _ e z⟩⟩
def cxL (CX:CXT)(P:D5)(w:T5)(K:G3)(mg:Str->P0 G1)(base:M4)(N:G0 Str)(q:Str)(scope:H0)(f:G5)(cd:G1)(cl:G0 (Str×G5))(A:R6)(outer:G0 Env)(s:G2)(H:Hp)(E:XK):Cx where
 prog:=P
 w:=w
 K:=K
 mg:=mg
 base:=base
 A:=A.deeper (envX q scope s.heap.objs.size f cd cl)
 N:=N
 s₀:=s
 H₀:=H
 env:=envX q scope s.heap.objs.size f cd cl
 outer:=outer
 stack:=envX q scope s.heap.objs.size f cd cl::outer
 ex:= []
 calm:=true
 fn:=λ_=>false
 pn:= []
 xe:=λe s'=>D1 (D3 P w) (A.deeper (envX q scope s.heap.objs.size f cd cl)) (k9 (envX q scope s.heap.objs.size f cd cl) e) (λ_ s''=>CX outer H s E e s'') (λe' s''=>CX outer H s E e' s'') s'
variable {mg:Str->P0 G1}{base:M4}
theorem Ly {CX:CXT}{P:D5}{K:G3}{N:G0 Str}{f:G5}{cd:G1}{A:R6}{outer:G0 Env}{E:XK}{h₁:M4}{tk:Tok}
 (L:LamOk scope)(hd:A.handled=none)(e0:Env0 P w K mg base A outer s H)(C:Cap N σ scope cl s.heap H)(hns:h₁.Ns s.heap.objs.size (λ_=>none))(hk: ∀b o,s.heap.get? b=some o->h₁.get? b=some o):
 Inv (cxL CX P w K mg base N q scope f cd cl A outer s H E) [] σ H {s with heap:=h₁,toks:=tk}:=by
 have noA: ∀b:G5,b ∉ (cxL CX P w K mg base N q scope f cd cl A outer s H E).ex:=λb z=>absurd (show b∈([]:G0 G5) from z) (by simp)
 have nofr: ∀y,scope.names.lookup y=some .cell\/scope.names.lookup y=some .free->scope.names.lookup y=some .free:=λy hy=>hy.elim (λz=>absurd rfl (L.nocell _ (wH z)).1) id
 refine⟨⟨e0.mod,L.kind,rfl,rfl,P1 _,λy z c h1 h2=>C.inj y z c h1 h2,λy hy=>C.has y (nofr y hy),λy c z=>(by cases z),λ_=>hd,e9 e0.frames,.inr ⟨rfl,rfl⟩,λb z=>absurd z (noA b),e0.bs,e0.bsz,λb _ _=>noA b,λb z=>absurd z (noA b),e0.funs,e0.frf⟩,
  rfl,e0.bare,Un.kept hk,⟨_,hns,λi y v h1 h2 h3=> ?_⟩,λy c h=> ?_,e0.hok.fresh (P1 _),λy c h=>(C.cell y c h).2,λp hp=>absurd (show p∈([]:G0 (G5×Obj)) from hp) (by simp),e0.hok.kept hk,C.len⟩
 ·have h3':scope.names.lookup y=some .free:=by
   rcases h3 with z|z
   ·exact absurd rfl (L.nocell _ (wH z)).2
   ·exact nofr y z
  obtain⟨u,c,r,e,o,ho,hd'⟩:=C.loc i y v h1 h2 h3';exact⟨u,r,.inr ⟨.inr h3',c,e,o,hk _ _ ho,hd'⟩⟩
 ·obtain⟨⟨v,o,ho,hd'⟩,_⟩:=C.cell y c h;exact⟨v,o,hk _ _ ho,hd'⟩
theorem RV {prog:D5}{A:R6}{R:j9->G2->Prop}{f:G5}{o:Obj}{qual:Str}{body:S6}{pm cd ctv:G1}(L:LamOk scope)(deep:A.depth<recursionLimit)
 (there:s.heap.get? f=some o)(lam:o.data= .func (kla_fn "<lambda>" qual Yu body scope cl pm cd ctv))(named:s.heap.CodeRec cd q)(lim:s.heap.NoLimit)
 (go: ∀h₁,h₁.Ns s.heap.objs.size (λ_=>none)->(∀b o,s.heap.get? b=some o->h₁.get? b=some o)->
  E8 (D3 prog w) A (.expr body (envX q scope s.heap.objs.size f cd cl)) R {s with heap:=h₁,toks:=s.toks+0}):
 E8 (D3 prog w) A (.call (.ref f) ⟨[],[]⟩) R s:=by
 obtain⟨c,oc,vs,t,rfl,hoc,hdc,hq⟩:=named;obtain⟨h,g,d,tk,os⟩:=s;have frame:=λ{A':R6} {Q:Env->G2->Prop} {E:G1->G2->Prop} (k: ∀h₁,_->_->Q _ _)=>wpAny_newFunctionEnv (M:=D3 prog w) (A:=A') (s:=⟨h,g,d,tk,os⟩) (E:=E) (scope:=scope) (globals:=mainGlobals) (closure:=cl) (binds:= []) (qual:=q++ ".<locals>.") (func:=some f) (code:= .ref c) (around:=none) (builtins:=fX) (Q:=Q) (λx hx=>(L.nocell x hx).1) (λx hx=>nomatch hx) k L.kind
 refine fK ?_;show D1 _ A.in1 (callAny (.ref f) ⟨[],[]⟩) _ _ _
 wp_walk using rS there
 rw [lam];have nothing:oW (kla_fn "<lambda>" qual Yu body scope cl pm (.ref c) ctv) ⟨[],[]⟩=pure []:=rfl;show D1 _ _ (u4 f (kla_fn "<lambda>" qual Yu body scope cl pm (.ref c) ctv) ⟨[],[]⟩) _ _ _;unfold u4;rw [nothing];show D1 _ _ (field (.ref c) 1 >>= _) _ _ _;refine wpAny_bind (cW hoc hdc hq ?_)
 repeat refine wpAny_bind (G7 ?_)
 refine wpAny_bind (frame λh₁ empty same=>wpAny_bind (wpAny_enterFrame (lim.fresh _ same) deep ?_));simp only [kla_fn,L.co,L.gen];exact G7 ⟨rfl,go h₁ empty λb o old=>same.extBut _ _ (λz=>absurd (D0 old) (by rw [z];exact N8 _)) (G4 _ old)⟩
theorem Lz {CX:CXT}{P:D5}{K:G3}{N:G0 Str}{qual:Str}{f:G5}{cd pm ctv:G1}{A:R6}{outer:G0 Env}{E:XK}{o:Obj}{body:S6}{t:TE}{Q:VK}{k:G8}
 (L:LamOk scope)(hr:Room (k+1) A)(e0:Env0 P w K mg base A outer s H)(C:Cap N σ scope cl s.heap H)(ho:s.heap.get? f=some o)(hd:o.data= .func (kla_fn "<lambda>" qual Yu body scope cl pm cd ctv))(hc:CodeF H cd q)
 (hb:PE (cxL CX P w K mg base N q scope f cd cl A outer s H E) body t)(ht:t σ H Q):E8 (D3 P w) A (.call (.ref f) ⟨[],[]⟩) (CR CX outer P w H s Q E) s:=by
 have lim:s.heap.NoLimit:=e0.mod.nolimit.keeps λb o e=>(e0.bs b o e).1
 refine RV L hr.depth ho hd (hc.rec e0.hok) lim λh₁ hns hk₁=> ?_
 have I:=Ly (CX:=CX) (q:=q) (f:=f) (cd:=cd) (E:=E) (tk:=s.toks+0) L hr.hd e0 C hns hk₁;refine kla_codeExpr (R7 (hb [] _ σ H Q I ht) (λv s' hs=> ?_) λ_ _ y=>y);obtain⟨v',H',J,rv,q'⟩:=hs;exact⟨v',H',J.os,J.bare,J.base,J.hok,rv,q'⟩
structure RN where
 nm:Str
 fs:G0 (Str×P2)
instance:Coe Str RN:=⟨λc=>⟨c,[]⟩⟩
abbrev TXD:=SD->HD->(RN->HD->Prop)->Prop
def WX (X:Cx)(E:XK)(H:Hp)(R:RN->HD->Prop):Prop:= ∀ (c:RN) C dx h' H',Kept H H'->RelH X.K h' H'->X.mg c.nm=some (.ref C)->R c h'->FldH H' dx c.fs->E (.ref C) dx H'
theorem WX.mono {X:Cx}{E:XK}{H':Hp}{R:RN->HD->Prop}(w:WX X E H R)(k:Kept H H'):WX X E H' R:=λc C dx h2 H2 k2=>w c C dx h2 H2 (k.trans k2)
structure JX (X:Cx)(sts:G0 C5)(t:TXD):Prop where
 to: ∀ (E:XK),Rz X E-> ∀ (pins:G0 (G5×Obj)) (s:G2) (σ:St) (H:Hp) (σd:SD) (h:HD) (R:RN->HD->Prop),Inv X pins σ H s->RelS X.K H σd σ->RelH X.K h H->t σd h R->WX X E H R->
  D1 (D3 X.prog X.w) X.A (execs sts X.env) (λ_ _=>False) X.xe s
structure JXE (X:Cx)(e:S6)(t:TXD):Prop where
 to: ∀ (E:XK),Rz X E-> ∀ (pins:G0 (G5×Obj)) (s:G2) (σ:St) (H:Hp) (σd:SD) (h:HD) (R:RN->HD->Prop),Inv X pins σ H s->RelS X.K H σd σ->RelH X.K h H->t σd h R->WX X E H R->
  D1 (D3 X.prog X.w) X.A (C8 e X.env) (λ_ _=>False) X.xe s
theorem JS.nox {X:Cx}{st:C5}{t:TSD}(h:JS X.nox st t):JS X st t:=⟨λpins s σ H D I hw=>
 R7 (h.to pins s σ H D (I.wish _) hw) (λ_ _ q=>q.unwish) λ_ _ z=>False.elim z⟩
def uo (t:TSD)(u:TXD):TXD:=λσ h R=>t {nx:=λσ' h'=>u σ' h' R,rt:=λ_ _=>False} σ h
def xIf (t:TTD)(u:TXD):TXD:=λσ h R=>t σ h λk h'=>k=true/\u σ h' R
def xRz (c:Str):TXD:=λ_ h R=>R c h
abbrev RDx:=G0 D->HD->(RN->HD->Prop)->Prop
def Sa (spr:RDx)(t:TAD):TXD:=λσ h R=>t σ h λds h1=>spr ds h1 R
def Qm (mg:Str->P0 G1)(K:G3)(spr:RDx):Sp:=λvs H _ E=> ∃ds h R,RelDs K H ds vs/\RelH K h H/\spr ds h R/\ ∀ (c:RN) C dx h' H',Kept H H'->RelH K h' H'->mg c.nm=some (.ref C)->R c h'->FldH H' dx c.fs->E (.ref C) dx H'
def bmV:G0 G1:= [.type "ValueError",.type "Exception",.type "BaseException",.type "object"]
theorem Bi {K:Frag}(P:D5)(M:Mod K mg base): ∃loose mb,TopRead P loose mg mb base:=by
 obtain⟨mb,laid,boot⟩:=M.blt;obtain⟨o,es,ep,at_,isd,texts,finds⟩:=id M.glob;refine⟨es.toList.filterMap λe=>match e.key with| .str n _=>some n|_=>none,mb,M.glob,laid,M.nolimit,boot,λx _ out _ _ _=> ?_⟩;rw [<-finds x];cases hit:nsFind es x with
 |none=>rfl
 |some v=>
  refine absurd ?_ out;unfold nsFind G0c at hit;obtain⟨e,hf,_⟩:=O1.mp hit;have isx:e.key.isStr x=true:=Array.find?_some (p:=λ(e:DictEntry)=>e.key.isStr x) hf;have mem:=Array.mem_of_find?_eq_some hf;obtain⟨n,t,ek⟩:=texts e mem;rw [ek] at isx;have nx:n=x:=by simpa [Value.isStr] using isx
  exact Y3.mpr ⟨e,by simpa using mem,by rw [ek,nx]⟩
def OwnX (K:G3)(mg:Str->P0 G1)(c:Str):Prop:= ∃C,mg c=some (.ref C)/\nsIn K mainGlobals c=some (some (.ref C))/\excIn K C bmV "ValueError.__new__" =true
theorem OwnX.at {K:Frag}{h:M4}{c:Str}(P:D5)(O:OwnX K mg c)(M:Mod K mg base)(kept: ∀b o,base.get? b=some o->h.get? b=some o): ∃C,mg c=some (.ref C)/\OwnCls c C bmV "ValueError.__new__" mg h:=
 let ⟨C,hm,hn,hx⟩:=O
 let ⟨_,_,T⟩:=Bi P M
 ⟨C,hm,(own_of_in M.kin T hn hx).keeps kept⟩
section
variable {X:Cx}{c:S6}{e:S6}{es:G0 S6}{st:C5}{a b rest:G0 C5}{t:TSD}{tt:TTD}{u:TXD}{ta:TAD}{pos p:Pos}
theorem Zt (hs:JS X st t)(hr:JX X rest u):JX X (st::rest) (uo t u):=⟨λE Z pins s σ H σd h R I rs rh ht w=>by
 refine K2 (thn (hs.to pins s σ H {nx:=λσ' H'=> ∃σd' h',Kept H H'/\RelS X.K H' σd' σ'/\RelH X.K h' H'/\u σd' h' R,rt:=λ_ _=>False} I
  ⟨σd,h,_,rs,rh,ht,λσd' h' σ' H' k rs' rh' q=>⟨σd',h',k,rs',rh',q⟩,λ_ _ _ _ _ _ _ q=>q,λ_ _ _ _ _ _ _ q=>q,λ_ _ _ _ _ _ _ q=>q⟩) λf s1 q=> ?_)
 cases f with
 |next=>
  obtain⟨σ',H',I',σd',h',k,rs',rh',q⟩:=q;exact hr.to E Z pins s1 σ' H' σd' h' R I' rs' rh' q (w.mono k)
 |ret v=>obtain⟨_,_,_,_,_,q⟩:=q;exact q
 |brk=>obtain⟨_,_,_,q⟩:=q;exact q
 |cont=>obtain⟨_,_,_,q⟩:=q;exact q⟩
theorem Bj (hc:JT X c tt)(ha:JX X a u):JX X (.If c a b pos::rest) (xIf tt u):=⟨λE Z pins s σ H σd h R I rs rh ht w=>by
 refine K2 (R7 (wpAny_If (Q:=λ_ _=>False) (thn (hc.to pins s σ H (λk H'=>k=true/\ ∃h',Kept H H'/\RelS X.K H' σd σ/\RelH X.K h' H'/\u σd h' R) I
  ⟨σd,h,_,rs,rh,ht,λk h' H' kp rh' q=>⟨q.1,h',kp,rs.mono kp,rh',q.2⟩⟩) λd s1 q=> ?_)) (λ_ _ z=>z.elim) λ_ _ z=>z)
 obtain⟨H',I',rfl,h',kp,rs',rh',q⟩:=q;exact ha.to E Z pins s1 σ H' σd h' R I' rs' rh' q (w.mono kp)⟩
theorem vZ (he:JXE X e u)(hs:Q4 e none pos.line X.env=pure false:=by rfl):JX X (.Expr e pos::rest) u:=⟨λE Z pins s σ H σd h R I rs rh ht w=>
 K2 (rP (R7 (he.to E Z pins s σ H σd h R I rs rh ht w) (λ_ _ z=>z.elim) λ_ _ z=>z) I.quiet hs)⟩
theorem CB {x:Str}{pos':Pos}(he:JXE X e u)(hs:Q4 e (some (.Name x pos')) pos.line X.env=pure false:=by rfl):JX X (.Assign [.Name x pos'] e pos::rest) u:=⟨λE Z pins s σ H σd h R I rs rh ht w=>
 K2 (hZ (R7 (he.to E Z pins s σ H σd h R I rs rh ht w) (λ_ _ z=>z.elim) λ_ _ z=>z) hs)⟩
theorem VC {x:Str}{np cpos p2:Pos}{m:Str}{j:G8}(hg:Gl X x)(O:OwnX X.K X.mg x)(hcalm:X.calm=true)(hd:(x==("__debug__" :Str))=false:=by decide)
 (he:P5 [Expr.Constant (.str m) j p2] X.env=(false,C8 (.Constant (.str m) j p2) X.env)::P5 [] X.env:=by rfl):
 JX X (.Raise (some (.Call (.Name x np) [.Constant (.str m) j p2] [] cpos)) none pos::rest) (xRz x):=⟨λE Z pins s σ H σd h R I rs rh ht w=>by
 obtain⟨C,hm,own⟩:=O.at X.prog I.mod I.bk;refine K2 (R7 (?_:D1 _ _ _ (λ_ _=>False) _ _) (λ_ _ z=>z.elim) λ_ _ z=>z);obtain⟨_,_,_,_,_,_,_,_,_,_,_,_,_,_,_,_,_,isC,laid,noInit,tail⟩:=own.obj;refine' wpAny_Raise_call_subT gM (tail.hasType PySem.F.excBase_ValueError.hasBase) (I.ok.hd hcalm) (by rw [he];rfl) noInit (vP I hg hm ⟨rfl,?_⟩ hd)
 rotate_right 1
 rw [he];refine bM (Y4 (tQ (k:=j) (pos:=p2) (dD ⟨rfl,(by show 1<=sizeLine;decide),isC,laid,tail,λh' e hme=> ?_⟩)));refine Z.xe _ _ (Py (s:= {s with toks:=s.toks+1}) (I.tok _) Z hme λh2 un hok fl=> ?_);exact⟨e,C,none,H,rfl,I.os,I.bare,un,hok,fl,w x C none h H (.refl H) rh hm ht (.inl rfl)⟩⟩
theorem LB {k:G8}{f:G5}{fd:R4}{ps:G0 Str}{spr:RDx}{x:Str}(F:FnOk X.prog X.w X.K X.mg X.base (CXR X.prog X.w) k f fd ps (Qm X.mg X.K spr))(hr:Room k X.A)(hg:Gl X x)(hm:X.mg x=some (.ref f))(hk:E2 X.K (.ref f)=true)(hb:Binds X.K fd ps [])
 (ha:JA X (e::es) ta)(hdb:(x==("__debug__" :Str))=false:=by decide)(he:P5 (e::es) X.env=(false,C8 e X.env)::P5 es X.env:=by rfl)(hpl:(F7 pos (P5 es X.env)).any (·.1)=false:=by rfl):
 JXE X (.Call (.Name x p) (e::es) [] pos) (Sa spr ta):=⟨λE Z pins s σ H σd h R I rs rh ht w=>by
 refine thn (DP F hr hg hm hk hb .nil (HA Z) ha.to hdb he hpl pins s σ H (λ_ _=>False) I
  ⟨σd,h,_,rs,rh,ht,λds vs h' H' kp rh' r q=>by show Qm X.mg X.K spr (vs++ []) H' (λ_ _=>False) E;rw [V0];exact⟨ds,h',R,r,rh',q,λc C dx h2 H2 k2=>w c C dx h2 H2 (kp.trans k2)⟩⟩) λ_ _ ⟨_,_,_,_,z⟩=>z⟩
end
section
variable {P:D5}{w:T5}{K:G3}{mg:Str->P0 G1}{base:M4}
theorem LD {N:G0 Str}{qual:Str}{scope:H0}{f:G5}{cd:G1}{A:R6}{outer:G0 Env}{s:G2}{H:Hp}{E:XK}:Rz (Yr (CXR P w) P w K mg base N qual scope f cd A outer s H E) E:=⟨⟨rfl,rfl,rfl⟩,λ_ _ h=>h⟩
theorem Sb {N:G0 Str}{q:Str}{scope:H0}{f:G5}{cd:G1}{cl:G0 (Str×G5)}{A:R6}{outer:G0 Env}{s:G2}{H:Hp}{E:XK}:Rz (cxL (CXR P w) P w K mg base N q scope f cd cl A outer s H E) E:=⟨⟨rfl,rfl,rfl⟩,λ_ _ h=>h⟩
theorem Fun.okX {x qual:Str}{st:C5}{f:G5}{fd:R4}{N ps:G0 Str}{k:G8}{spr:RDx}(F:Fun K x qual st f fd)(S:FnScope N ps (jb st))(len: ∀ds h R,spr ds h R->ds.length=ps.length)
 (tb:TXD)(hbody: ∀ (cdv:G1) (A:R6) (outer:G0 Env) (s:G2) (H:Hp) (E:XK),Room k (A.deeper (E4 qual (jb st) s.heap.objs.size f cdv))->JX (Yr (CXR P w) P w K mg base N qual (jb st) f cdv A outer s H E) (jJ st) tb)
 (read: ∀ds h R,spr ds h R->tb (jR N ds) h R):FnOk P w K mg base (CXR P w) (k+1) f fd ps (Qm mg K spr):=by
 obtain⟨oc,od,kV,doc,pm,an,cdv,ct,osl,rfl,lk,hcd⟩:=F.ex;refine Fs lk hcd S (λvs H Q E h=> ?_) λA outer s H vs Q E hr hsp=> ?_
 ·obtain⟨ds,h,R,r,rh,q,p⟩:=h;rw [<-r.length];exact len _ _ _ q
 ·obtain⟨ds,h,R,r,rh,q,p⟩:=hsp;refine⟨λ_ σ H'=>σ=start N vs/\H'=H,λpins s' σ H' D I ⟨e1,e2⟩=> ?_,rfl,rfl⟩;subst e1;subst e2;exact R7 ((hbody cdv A outer s H' E hr).to E LD pins s' _ H' (jR N ds) h R I (vx r) rh (read ds h R q) p) (λ_ _ z=>z.elim) λ_ _ z=>z
end
def zg (P:D5)(w:T5)(K:G3)(mg:Str->P0 G1)(base:M4)(n:G8)(x:Str)(ps:G0 Str)(spr:RDx):Prop:=
 ∃ (g:G5) (gd:R4),FnOk P w K mg base (CXR P w) n g gd ps (Qm mg K spr)/\Binds K gd ps []/\E2 K (.ref g)=true/\mg x=some (.ref g)
end L2
namespace L2
open PySem PySem.Spec PyProof.Rows
structure RoomU (k:G8)(A:R6):Prop where
 dp:A.depth+3*k+5<recursionLimit
 un:A.units+16*k+200<cLine
 gd:A.guards=some []
variable {k:G8}{A:R6}
theorem Room.u (r:Room k A):RoomU k A:=⟨r.dp,r.un,r.gd⟩
theorem RoomU.deeper (r:RoomU (k+1) A)(env:Env):RoomU k (A.deeper env):=
 ⟨by have:=r.dp;show A.depth+1+3*k+5<_;omega,by have:=r.un;show A.units+3+16*k+200<_;omega,r.gd⟩
theorem RoomU.depth (r:RoomU k A):A.depth<recursionLimit:=by have:=r.dp;omega
theorem RoomU.units (r:RoomU k A):A.units+64<cLine:=by have:=r.un;omega
structure FnOkU (P:D5)(w:T5)(K:G3)(mg:Str->P0 G1)(base:M4)(CX:CXT)(k:G8)(f:G5)(fd:R4)(ps:G0 Str)(sp:Sp):Prop where
 len: ∀vs H Q E,sp vs H Q E->vs.length=ps.length
 run: ∀ (A:R6) (outer:G0 Env) (s:G2) (H:Hp) (args:Args) (us:G0 G1) (vs:G0 V) (Q:VK) (E:XK),RoomU k A->Env0 P w K mg base A outer s H->m8 s fd args (ps.zip us)->Vals vs us->sp vs H Q E->
  E8 (D3 P w) A (.call (.ref f) args) (CR CX outer P w H s Q E) s
section
variable {X:Cx}{CX:CXT}{k:G8}{f C:G5}{fd:R4}{ps:G0 Str}{sp:Sp}{dvs:G0 V}{ds:G0 G1}{E:XK}{x m:Str}{p pos apos:Pos}{e o:S6}{es:G0 S6}{ta:TE}{t:TA}
theorem LF {pins:G0 (G5×Obj)}{σ:St}{H:Hp}{s:G2}{Q:VK}{us:G0 G1}{vs:G0 V}(F:FnOkU X.prog X.w X.K X.mg X.base CX k f fd ps sp)(hr:RoomU k X.A)(hb:Binds X.K fd ps ds)(hd:Vals dvs ds)(hx:Wm CX X E)
 (I:Inv X pins σ H s)(r:Vals vs us)(h:sp (vs++dvs) H Q E):D1 (D3 X.prog X.w) X.A (call (.ref f) us) (EP X pins σ Q) X.xe s:=by
 have r2:Vals (vs++dvs) (us++ds):=r.append hd;have hl:(us++ds).length=ps.length:=by rw [<-r2.length];exact F.len _ _ _ _ h
 refine dZ (X5 (F.run X.A X.stack s H ⟨us,[]⟩ (us++ds) (vs++dvs) Q E hr I.env0 (hb s us I.kIn hl) r2 h) λr s' hq=> ?_);cases r with
 |error e=>exact hx pins σ H s e s' I hq
 |ok fl=>
  cases fl with
  |ret u=>exact I.after hq
  |next=>exact False.elim hq
  |brk=>exact False.elim hq
  |cont=>exact False.elim hq
theorem Bk (F:FnOkU X.prog X.w X.K X.mg X.base CX k f fd ps sp)(hr:RoomU k X.A)(hg:Gl X x)(hm:X.mg x=some (.ref f))(hk:E2 X.K (.ref f)=true)(hb:Binds X.K fd ps ds)(hd:Vals dvs ds)(hx:Wm CX X E)
 (ha:PA X (e::es) t)(hdb:(x==("__debug__" :Str))=false:=by decide)(he:P5 (e::es) X.env=(false,C8 e X.env)::P5 es X.env:=by rfl)(hpl:(F7 pos (P5 es X.env)).any (·.1)=false:=by rfl):
 PE X (.Call (.Name x p) (e::es) [] pos) (Fr sp dvs E t):=by
 intro pins s σ H Q I h;refine V3 (vP I hg hm ?_ hdb);refine cR (h₀:=X.base) I.ok.mod.kin hk (thn (ha pos pins s σ H _ I h) λus s1 ⟨vs,H1,I1,r,q⟩=>⟨I1.kIn,?_⟩) he hpl;exact LF F hr hb hd hx I1 r q
end
def UW (CX:CXT)(P:D5)(w:T5)(K:G3)(mg:Str->P0 G1)(base:M4)(N:G0 Str)(qual:Str)(scope:H0)(f:G5)(cd:G1)(A:R6)(outer:G0 Env)(s:G2)(H:Hp)(E:XK):Cx where
 prog:=P
 w:=w
 K:=K
 mg:=mg
 base:=base
 A:=A.deeper (E4 qual scope s.heap.objs.size f cd)
 N:=N
 s₀:=s
 H₀:=H
 env:=E4 qual scope s.heap.objs.size f cd
 outer:=outer
 stack:=E4 qual scope s.heap.objs.size f cd::outer
 ex:= []
 calm:=false
 fn:=λ_=>true
 pn:= []
 xe:=λe s'=>D1 (D3 P w) (A.deeper (E4 qual scope s.heap.objs.size f cd)) (k9 (E4 qual scope s.heap.objs.size f cd) e) (λ_ s''=>CX outer H s E e s'') (λe' s''=>CX outer H s E e' s'') s'
variable {base:M4}{qual:Str}{scope:H0}
theorem PB {CX:CXT}{P:D5}{w:T5}{K:G3}{mg:Str->P0 G1}{N ps:G0 Str}{f:G5}{cd:G1}{outer:G0 Env}{s s1:G2}{H:Hp}{E:XK}{us:G0 G1}{vs:G0 V}
 (S:FnScope N ps scope)(e0:Env0 P w K mg base A outer s H)(hl:vs.length=ps.length)(r:Vals vs us)
 (x:InCallC s s.heap.objs.size (qM (E4 qual scope s.heap.objs.size f cd).kindOf (ps.zip us) λ_=>none) (K3 (s.heap.objs.size+1) scope.names []) (qN (E4 qual scope s.heap.objs.size f cd).kindOf (ps.zip us) λ_=>none) s1):
 Inv (UW CX P w K mg base N qual scope f cd A outer s H E) [] (start N vs) H s1:=by
 have hpl:ps.length<=N.length:=by have:=congrArg e8 S.pre;rw [F3] at this;omega
 obtain⟨h1,tk,rfl,hk⟩:=x.done;have noA: ∀b:G5,b ∉ (UW CX P w K mg base N qual scope f cd A outer s H E).ex:=λb z=>absurd (show b∈([]:G0 G5) from z) (by simp)
 refine⟨⟨e0.mod,S.kind,rfl,rfl,P1 _,λy z c h1 h2=> ?_,λy hy=> ?_,λy c _ h=> ?_,λz=>(by cases z),e9 e0.frames,.inr ⟨rfl,rfl⟩,λb z=>absurd z (noA b),e0.bs,e0.bsz,λb _ _=>noA b,λb z=>absurd z (noA b),e0.funs,e0.frf⟩,
  rfl,e0.bare,Un.kept hk,⟨_,x.toInCall.ns,λi y v h1 h2 h3=> ?_⟩,λy c h=>⟨_,x.cell y c h⟩,e0.hok.fresh (P1 _),λy c h=> ?_,λp hp=>absurd (show p∈([]:G0 (G5×Obj)) from hp) (by simp),e0.hok.kept hk,?_⟩
 ·exact lA x.apart (L4 h1) (L4 h2)
 ·have hy:scope.names.lookup y=some .cell\/scope.names.lookup y=some .free:=hy;rcases hy with hy|hy
  ·exact yx hy
  ·exact absurd rfl (S.nofree _ (L4 hy))
 ·exact M5 (x.above y c (L4 h))
 ·have hi:i<vs.length:=by
   unfold start at h2
   by_cases hi:i<vs.length
   ·exact hi
   ·rw [Q7 (by simpa using hi)] at h2;rw [cU] at h2;split at h2<;>cases h2
  have ha:vs[i]? =some v:=by
   unfold start at h2;rw [L5 (by simpa using hi),D6] at h2;cases e:vs[i]? with
   |none=>rw [e] at h2;cases h2
   |some a=>rw [e] at h2;cases h2;rfl
  obtain⟨u,hu,rv⟩:=r.get ha;have hp:ps[i]? =some y:=by
   rw [<-S.pre,cG (by omega)];exact h1
  have ndP:ps.Nodup:=by rw [<-S.pre];exact S.nd.sublist (iB _ _)
  refine⟨u,rv,?_⟩;rcases S.par y (M3 hp) with k|k
  ·exact .inl ⟨k,Wn ndP hp hu k⟩
  ·obtain⟨c,e⟩:=yx (n:=s.heap.objs.size+1) k;refine .inr ⟨.inl k,c,e,?_⟩;have q:=x.cell y c e;rw [Wo ndP hp hu (by show scope.names.lookup y≠_;rw [k];decide)] at q;exact q
 ·exact e0.hok.fresh (M5 (x.above y c (L4 h)))
 ·unfold start;show _=N.length;rw [D9,G9,lY];omega
theorem Sc {CX:CXT}{P:D5}{w:T5}{K:G3}{mg:Str->P0 G1}{f:G5}{name:Str}{params:m9}{body:G0 C5}{dV kV doc pm cdv ct oc:G1}{an od:P0 G5}{osl:M1 (P0 G1)}{N ps:G0 Str}{sp:Sp}(lk:K.lookup f=some ⟨oc,od,.func (V8 name qual params body scope dV kV doc pm an cdv ct),osl⟩)(hcd:dE K cdv qual=true)(S:FnScope N ps scope)
 (len: ∀vs H Q E,sp vs H Q E->vs.length=ps.length)
 (hbody: ∀ (A:R6) (outer:G0 Env) (s:G2) (H:Hp) (vs:G0 V) (Q:VK) (E:XK),RoomU k (A.deeper (E4 qual scope s.heap.objs.size f cdv))->sp vs H Q E->
  ∃t,PSs (UW CX P w K mg base N qual scope f cdv A outer s H E) body t/\t {nx:=λ_ H'=>Q .non H',rt:=Q} (start N vs) H):
 FnOkU P w K mg base CX (k+1) f (V8 name qual params body scope dV kV doc pm an cdv ct) ps sp:=by
 refine⟨len,λA outer s H args us vs Q E hr e0 hb r hsp=> ?_⟩;have hl:=len _ _ _ _ hsp;have KX:K.In s.heap:=e0.mod.kin.keeps λb o e=>(e0.bs b o e).1
 have lim:s.heap.NoLimit:=e0.mod.nolimit.keeps λb o e=>(e0.bs b o e).1
 have hkind: ∀y∈ps.zip us,scope.names.lookup y.1=some .local\/(scope.names.lookup y.1=some .cell/\((K3 (s.heap.objs.size+1) scope.names []).lookup y.1).isSome=true):=λ⟨n,v⟩ hy=>by
  rcases S.par n (cL hy).1 with q|q
  ·exact .inl q
  ·exact .inr ⟨q,aL _ _ _ (.inl q)⟩
 refine dS hr.depth (KX _ _ lk) rfl S.co S.gen rfl (gB KX hcd) (hb _ _ _ _ ?_);refine bK S.kind hkind λenv he s1 x=> ?_
 subst he;refine⟨lim.keeps x.toInCall.keep,oX ?_⟩;obtain⟨t,ht,hq⟩:=hbody A outer s H vs Q E (hr.deeper _) hsp;have I:Inv (UW CX P w K mg base N qual scope f cdv A outer s H E) [] (start N vs) H s1:=PB S e0 hl r x;refine R7 (ht [] s1 (start N vs) H _ I hq) (λfl s' hs=> ?_) λe s' hs=>hs
 have fin: ∀ {σ':St} {H':Hp} {v:V} {u:G1},Inv (UW CX P w K mg base N qual scope f cdv A outer s H E) [] σ' H' s'->RelV v u->Q v H'->CE outer P w H s Q u s':=
  λ{σ' H' v u} J rv q=>⟨v,H',J.os,J.bare,J.base,J.hok,rv,q⟩
 cases fl with
 |ret u=>
  obtain⟨v,σ',H',J,rv,q⟩:=hs;exact fin J rv q
 |next=>
  obtain⟨σ',H',J,q⟩:=hs;exact fin (v:=V.non) (u:=bI) J rfl q
 |brk=>
  obtain⟨_,_,_,q⟩:=hs;exact False.elim q
 |cont=>
  obtain⟨_,_,_,q⟩:=hs;exact False.elim q
section
variable {P:D5}{w:T5}{K:G3}{mg:Str->P0 G1}{base:M4}
variable {qual:Str}
theorem Fun.okU {x:Str}{st:C5}{f:G5}{fd:R4}{N ps:G0 Str}{k:G8}{sp:Sp}(F:Fun K x qual st f fd)(S:FnScope N ps (jb st))(len: ∀vs H Q E,sp vs H Q E->vs.length=ps.length)
 (hbody: ∀ (cdv:G1) (A:R6) (outer:G0 Env) (s:G2) (H:Hp) (vs:G0 V) (Q:VK) (E:XK),RoomU k (A.deeper (E4 qual (jb st) s.heap.objs.size f cdv))->sp vs H Q E->
  ∃t,PSs (UW CX0 P w K mg base N qual (jb st) f cdv A outer s H E).nox (jJ st) t/\t {nx:=λ_ H'=>Q .non H',rt:=Q} (start N vs) H):FnOkU P w K mg base CX0 (k+1) f fd ps sp:=by
 obtain⟨oc,od,kV,doc,pm,an,cdv,ct,osl,rfl,lk,hcd⟩:=F.ex;refine Sc lk hcd S len λA outer s H vs Q E hr hsp=> ?_
 obtain⟨t,h,q⟩:=hbody cdv A outer s H vs Q E hr hsp;exact⟨t,h.nox,q⟩
theorem Fun.okDU {x:Str}{st:C5}{f:G5}{fd:R4}{N ps:G0 Str}{k:G8}{spd:RDn}(F:Fun K x qual st f fd)(S:FnScope N ps (jb st))(len: ∀ds h Q,spd ds h Q->ds.length=ps.length)
 (tb:TSD)(hbody: ∀ (cdv:G1) (A:R6) (outer:G0 Env) (s:G2) (H:Hp) (E:XK),RoomU k (A.deeper (E4 qual (jb st) s.heap.objs.size f cdv))->QSs (UW CX0 P w K mg base N qual (jb st) f cdv A outer s H E).nox (jJ st) tb)
 (read: ∀ds h Q,spd ds h Q->tb (Wy Q) (jR N ds) h):FnOkU P w K mg base CX0 (k+1) f fd ps (LSp K spd):=by
 refine F.okU S (λvs H Q E h=> ?_) (λcdv A outer s H vs Q E hr h=> ?_)
 ·obtain⟨ds,h,Qd,r,rh,q,p⟩:=h;rw [<-r.length];exact len _ _ _ q
 ·obtain⟨ds,h,Qd,r,rh,q,p⟩:=h;refine⟨_,hbody cdv A outer s H E hr,jR N ds,h,Wy Qd,vx r,rh,read ds h Qd q,λσd' h' σ' H' k rs' rh' ⟨h2,sb,q'⟩=>p .non .non h2 H' k (rh'.sub sb) rfl q',λd v h' H' k rh' r' ⟨h2,sb,q'⟩=>p d v h2 H' k (rh'.sub sb) r' q',λ_ _ _ _ _ _ _ z=>z.elim,λ_ _ _ _ _ _ _ z=>z.elim⟩
theorem Fun.okJU {x:Str}{st:C5}{f:G5}{fd:R4}{N ps:G0 Str}{k:G8}{spd:RDn}(F:Fun K x qual st f fd)(S:FnScope N ps (jb st))(len: ∀ds h Q,spd ds h Q->ds.length=ps.length)
 (tb:TSD)(hbody: ∀ (cdv:G1) (A:R6) (outer:G0 Env) (s:G2) (H:Hp) (E:XK),RoomU k (A.deeper (E4 qual (jb st) s.heap.objs.size f cdv))->JSs (UW CX0 P w K mg base N qual (jb st) f cdv A outer s H E).nox (jJ st) tb)
 (read: ∀ds h Q,spd ds h Q->tb (Wy Q) (jR N ds) h):FnOkU P w K mg base CX0 (k+1) f fd ps (LSp K spd):=F.okDU S len tb (λcdv A outer s H E hr=>(hbody cdv A outer s H E hr).to) read
end
structure FnOkS (P:D5)(w:T5)(K:G3)(mg:Str->P0 G1)(base:M4)(CX:CXT)(k:G8)(f:G5)(fd:R4)(ps:G0 Str)(sp:G2->Sp):Prop where
 len: ∀s vs H Q E,sp s vs H Q E->vs.length=ps.length
 run: ∀ (A:R6) (outer:G0 Env) (s:G2) (H:Hp) (args:Args) (us:G0 G1) (vs:G0 V) (Q:VK) (E:XK),Room k A->Env0 P w K mg base A outer s H->m8 s fd args (ps.zip us)->Vals vs us->sp s vs H Q E->
  E8 (D3 P w) A (.call (.ref f) args) (CR CX outer P w H s Q E) s
section
variable {X:Cx}{CX:CXT}{k:G8}{f C:G5}{fd:R4}{ps:G0 Str}{sp:Sp}{dvs:G0 V}{ds:G0 G1}{E:XK}{x m:Str}{p pos apos:Pos}{e o:S6}{es:G0 S6}{ta:TE}{t:TA}
theorem LH {pins:G0 (G5×Obj)}{σ:St}{H:Hp}{s:G2}{Q:VK}{us:G0 G1}{vs:G0 V}{sp:G2->Sp}(F:FnOkS X.prog X.w X.K X.mg X.base CX k f fd ps sp)(hr:Room k X.A)(hb:Binds X.K fd ps ds)(hd:Vals dvs ds)(hx:Wm CX X E)
 (I:Inv X pins σ H s)(r:Vals vs us)(h:sp s (vs++dvs) H Q E):D1 (D3 X.prog X.w) X.A (call (.ref f) us) (EP X pins σ Q) X.xe s:=by
 have r2:Vals (vs++dvs) (us++ds):=r.append hd;have hl:(us++ds).length=ps.length:=by rw [<-r2.length];exact F.len _ _ _ _ _ h
 refine dZ (X5 (F.run X.A X.stack s H ⟨us,[]⟩ (us++ds) (vs++dvs) Q E hr I.env0 (hb s us I.kIn hl) r2 h) λr s' hq=> ?_);cases r with
 |error e=>exact hx pins σ H s e s' I hq
 |ok fl=>
  cases fl with
  |ret u=>exact I.after hq
  |next=>exact False.elim hq
  |brk=>exact False.elim hq
  |cont=>exact False.elim hq
end
theorem Sd {CX:CXT}{P:D5}{w:T5}{K:G3}{mg:Str->P0 G1}{f:G5}{name:Str}{params:m9}{body:G0 C5}{dV kV doc pm cdv ct oc:G1}{an od:P0 G5}{osl:M1 (P0 G1)}{N ps:G0 Str}{sp:G2->Sp}(lk:K.lookup f=some ⟨oc,od,.func (V8 name qual params body scope dV kV doc pm an cdv ct),osl⟩)(hcd:dE K cdv qual=true)(S:FnScope N ps scope)
 (len: ∀s vs H Q E,sp s vs H Q E->vs.length=ps.length)
 (hbody: ∀ (A:R6) (outer:G0 Env) (s:G2) (H:Hp) (vs:G0 V) (Q:VK) (E:XK),Room k (A.deeper (E4 qual scope s.heap.objs.size f cdv))->sp s vs H Q E->
  ∀s1,Inv (Yr CX P w K mg base N qual scope f cdv A outer s H E) [] (start N vs) H s1->D1 (D3 P w) (A.deeper (E4 qual scope s.heap.objs.size f cdv)) (execs body (E4 qual scope s.heap.objs.size f cdv)) (SP (Yr CX P w K mg base N qual scope f cdv A outer s H E) [] {nx:=λ_ H'=>Q .non H',rt:=Q}) (Yr CX P w K mg base N qual scope f cdv A outer s H E).xe s1):
 FnOkS P w K mg base CX (k+1) f (V8 name qual params body scope dV kV doc pm an cdv ct) ps sp:=by
 refine⟨len,λA outer s H args us vs Q E hr e0 hb r hsp=> ?_⟩;have hl:=len _ _ _ _ _ hsp;have KX:K.In s.heap:=e0.mod.kin.keeps λb o e=>(e0.bs b o e).1
 have lim:s.heap.NoLimit:=e0.mod.nolimit.keeps λb o e=>(e0.bs b o e).1
 have hkind: ∀y∈ps.zip us,scope.names.lookup y.1=some .local\/(scope.names.lookup y.1=some .cell/\((K3 (s.heap.objs.size+1) scope.names []).lookup y.1).isSome=true):=λ⟨n,v⟩ hy=>by
  rcases S.par n (cL hy).1 with q|q
  ·exact .inl q
  ·exact .inr ⟨q,aL _ _ _ (.inl q)⟩
 refine dS hr.depth (KX _ _ lk) rfl S.co S.gen rfl (gB KX hcd) (hb _ _ _ _ ?_);refine bK S.kind hkind λenv he s1 x=> ?_
 subst he;refine⟨lim.keeps x.toInCall.keep,oX ?_⟩;have ht:=hbody A outer s H vs Q E (hr.deeper _) hsp;have I:Inv (Yr CX P w K mg base N qual scope f cdv A outer s H E) [] (start N vs) H s1:=Uv S hr.hd e0 hl r x;refine R7 (ht s1 I) (λfl s' hs=> ?_) λe s' hs=>hs
 have fin: ∀ {σ':St} {H':Hp} {v:V} {u:G1},Inv (Yr CX P w K mg base N qual scope f cdv A outer s H E) [] σ' H' s'->RelV v u->Q v H'->CE outer P w H s Q u s':=
  λ{σ' H' v u} J rv q=>⟨v,H',J.os,J.bare,J.base,J.hok,rv,q⟩
 cases fl with
 |ret u=>
  obtain⟨v,σ',H',J,rv,q⟩:=hs;exact fin J rv q
 |next=>
  obtain⟨σ',H',J,q⟩:=hs;exact fin (v:=V.non) (u:=bI) J rfl q
 |brk=>
  obtain⟨_,_,_,q⟩:=hs;exact False.elim q
 |cont=>
  obtain⟨_,_,_,q⟩:=hs;exact False.elim q
section
variable {X:Cx}{k:G8}{f:G5}{fd:R4}{ps:G0 Str}{spd:RDn}{x:Str}{p pos:Pos}{e:S6}{es:G0 S6}{t:TAD}
theorem Gq (F:FnOkU X.prog X.w X.K X.mg X.base CX0 k f fd ps (LSp X.K spd))(hr:RoomU k X.A)(hg:Gl X x)(hm:X.mg x=some (.ref f))(hk:E2 X.K (.ref f)=true)(hb:Binds X.K fd ps [])
 (ha:JA X (e::es) t)(hdb:(x==("__debug__" :Str))=false:=by decide)(he:P5 (e::es) X.env=(false,C8 e X.env)::P5 es X.env:=by rfl)(hpl:(F7 pos (P5 es X.env)).any (·.1)=false:=by rfl):
 JE X (.Call (.Name x p) (e::es) [] pos) (dCB spd t):=⟨(Bk F hr hg hm hk hb .nil FA ha.to hdb he hpl).imp Ri⟩
end
def VD (P:D5)(w:T5)(K:G3)(mg:Str->P0 G1)(base:M4)(n:G8)(x:Str)(ps:G0 Str)(sp:RDn):Prop:=
 ∃ (g:G5) (gd:R4),FnOkU P w K mg base CX0 n g gd ps (LSp K sp)/\Binds K gd ps []/\E2 K (.ref g)=true/\mg x=some (.ref g)
end L2
namespace L2
open PySem PySem.Spec PyProof.Rows PySem.W PySem.Calls PySem.Builtin PySem.Builtin.ObjectAttr PySem.Builtin.Getset_descriptor
section
variable {prog:D5}{w:T5}{A:R6}{E:G1->G2->Prop}{s:G2}{K:Frag}{x D:G5}
structure ExcK (K:Frag)(D:G5):Prop where
 cls:(clsIn K D).isSome=true
 ga:findIn K (.ref D) "__getattribute__" =some (some (.builtin "BaseException.__getattribute__"))
 hk:findIn K (.ref D) "__getattr__" =some none
 ca:findIn K (.ref D) "__class__" =some (some (.builtin "object.__class__"))
 gt:specialIn K (.builtin "object.__class__") "__get__" =some (some (.builtin "getset_descriptor.__get__"))
 tk:takesIn K (.builtin "object.__class__")=some true
 ob:mroIn K D (.type "object")=some true
 be:mroIn K D (.type "BaseException")=some true
def ExcAt (x D:G5)(h:M4):Prop:= ∃o,h.get? x=some o/\o.cls= .ref D
theorem ExcAt.type {M:cC}{h:M4}(I:ExcAt x D h):Looks M h (G0f (.ref x)) (.ref D):=let ⟨o,h1,h2⟩:=I;h2 ▸ (xR h1).andThen .now
theorem PC {tp:G1}{R:j9->G2->Prop}(X:K.In s.heap)(I:ExcAt x D s.heap)(ob:mroIn K D (.type "object")=some true)
 (h:R (.ok (.ret (.ref D))) s):E8 (D3 prog w) A (.call (.builtin "getset_descriptor.__get__") ⟨[.builtin "object.__class__",.ref x,tp],[]⟩) R s:=by
 obtain⟨hp,g,dr,t,os⟩:=s;have known:Looks (D3 prog w) hp (gO (.ref x) (.type "object")) true:=I.type.andThen (looks_mroIn X ob);have passed:Looks (D3 prog w) hp (descrCheckInstance (.builtin "object.__class__") (.ref x)) ():=
  Looks.andThen (a:=(("__class__" :Str),nY "object")) (nP (congrArg (λp:B2×B2=>(pure (G6 p.2,nY p.1):Sem (Str×G1))) KF.owner_class)) (known.andThen .now)
 have shown:Looks (D3 prog w) hp (shownTypeOf (.ref x)) (.ref D):=I.type.andThen .now;have asked:=KF.slot_gs.check (D3 prog w) A.in1 (λe s'=>R (.error e) s') ⟨hp,g,dr,t,os⟩ (.builtin "object.__class__") [.ref x,tp] [];refine aA KF.slot_gs.plain KF.entry_gs (asked _ KF.type_class (KF.args_gs _ _ _) ?_);show D1 _ _ (descrGetArgs _ >>= _) _ _ _;rw [dga_obj];refine wpAny_bind (G7 (wpAny_bind (passed.at (G7 ⟨gP _ (by decide +kernel),W8 KF.entry_class ?_⟩))));exact wpAny_bind (shown.at (G7 h))
theorem Bl {M:cC}{h:M4}(X:K.In h)(Z:ExcK K D):Looks M h (find (.ref x) (.ref D) "__class__") (.bind (.builtin "getset_descriptor.__get__") (.builtin "object.__class__")):=by
 have L1:=looks_findIn (M:=M) X Z.ca;have L2:Looks M h (getOf (some (.builtin "object.__class__"))) (some (.builtin "getset_descriptor.__get__")):=looks_specialIn X Z.gt;have L3:=looks_takesIn (M:=M) X Z.tk;exact L1.andThen (L2.andThen ((show Looks M h (dataDescriptor? (some (.builtin "object.__class__")) (some (.builtin "getset_descriptor.__get__"))) (some (.builtin "getset_descriptor.__get__",.builtin "object.__class__")) from L3.andThen .now).andThen (Looks.tag .now)))
theorem LJ {M:cC}{h:M4}(X:K.In h)(I:ExcAt x D h)(Z:ExcK K D)(n:G1):Looks M h (bW "BaseException.__getattribute__" ⟨[.ref x,n],[]⟩) ():=by
 have known:Looks M h (gO (.ref x) (.type "BaseException")) true:=I.type.andThen (looks_mroIn X Z.be);have fits:=mR (.ref x) n;unfold bW;rw [show builtinKind "BaseException.__getattribute__" =some .slot by decide +kernel,show IQ "BaseException.__getattribute__" =some ("BaseException","__getattribute__") by decide +kernel];exact known.andThen (nP fits)
theorem Yv {tk:Tok}{R:j9->G2->Prop}(X:K.In s.heap)(I:ExcAt x D s.heap)(Z:ExcK K D)(h:R (.ok (.ret (.ref D))) s):
 E8 (D3 prog w) A (.call (.builtin "BaseException.__getattribute__") ⟨[.ref x,.str "__class__" tk],[]⟩) R s:=
 aA PySem.F.attr_ValueError.ga.plain l8 (gQ (LJ X I Z _) (wpAny_bind (G7 (wpAny_bind (G7 (wpAny_bind (gQ I.type (wpAny_bind (gQ (Bl X Z) (wpAny_bind (B5 (dZ (PC X I Z.ob (G7 h))))))))))))))
theorem PD {Q:P0 G1->G2->Prop}(X:K.In s.heap)(I:ExcAt x D s.heap)(Z:ExcK K D)(h:Q (some (.ref D)) {s with toks:=s.toks+1}):D1 (D3 prog w) A (getAttr? (.ref x) "__class__") Q E s:=by
 have byReader:=PySem.F.attr_ValueError.ga.bind (.ref x);have asked: ∀ {A':R6} {P:G1->G2->Prop} {E':G1->G2->Prop},P (.ref D) {s with toks:=s.toks+1}->D1 (D3 prog w) A' (sI (.builtin "BaseException.__getattribute__") (.ref x) (.str "__class__" s.toks)) P E' {s with toks:=s.toks+1}:=λp=>by
  unfold sI;rw [byReader];exact wpAny_bind (G7 (dZ (Yv (s:= {s with toks:=s.toks+1}) X I Z p)))
 have own: ∀ {A':R6} {P:G1->G2->Prop} {E':G1->G2->Prop},P (.ref D) {s with toks:=s.toks+1}->D1 (D3 prog w) A' (getAttrByItsOwn (.ref x) (.str "__class__" s.toks) (.ref D) (.builtin "BaseException.__getattribute__") false false) P E' {s with toks:=s.toks+1}:=λp=>
  wpAny_bind (gQ (s:= {s with toks:=s.toks+1}) (looks_findIn X Z.hk) (wpAny_bind (nQ (B5 (asked (G7 p))))))
 exact wpAny_bind (wpAny_mkText (wpAny_bind (nQ (B5 (wpAny_bind (gQ (s:= {s with toks:=s.toks+1}) I.type (wpAny_bind (gQ (s:= {s with toks:=s.toks+1}) (looks_findIn X Z.ga) (own (G7 h))))))))))
theorem Bn (Z:ExcK K D):KitX K (.ref x) (.ref D) (ExcAt x D):=by
 have isClass: ∀ {h:M4},K.In h-> ∃o c,h.get? D=some o/\o.data= .cls c:=λX=>by
  obtain⟨c,hc⟩:=F2.mp Z.cls;revert hc;unfold clsIn;split
  ·rename_i ho;exact λ_=>⟨_,_,X _ _ ho,rfl⟩
  ·exact λz=>nomatch z
 refine⟨λ_ _ _ I=>I.type,λM h X _=> ?_,λh tp dd its n sl X htp=> ?_,λX I k=>PD X I Z k⟩
 ·obtain⟨o,c,ho,hd⟩:=isClass X;exact(xR ho).andThen (nP (by rw [hd]))
 ·obtain⟨o,c,ho,hd⟩:=isClass X;cases hq:(B0 D==B0 tp) with
  |false=>rfl
  |true=>
   cases (beq_iff_eq.mp hq);rw [htp] at ho;cases ho;cases hd
end
end L2
namespace L2
open PySem PySem.Spec PyProof.Rows PySem.SeqAt PySem.W
theorem Bo {X:Cx}(hu:X.A.units+64<cLine):MtM X "list.count" (λx vs H Q=> ∃ (a:G5) (y:V) (dy:D) (h:HD) (p:C4) (ps:G0 C4),x= .ref a/\vs= [y]/\RelD X.K H dy y/\RelH X.K h H/\ToP h (.lst a) (.list ps)/\ToP h dy p/\p.canLay0=true/\M6 ps=true/\p.depth<=60/\Q (.int ((ps.countP λz=>M9 z p:G8):P2)) H):=by
 intro pins s σ H x vs v us Q I rx rv h;obtain⟨a,y,dy,h,p,ps,rfl,rfl,rd,rh,t1,t2,c1,c2,c3,q⟩:=h;cases rx;obtain⟨u,rfl,ru⟩:=vD rv;obtain⟨a',ds,ea,ha,ts⟩:=(show ∃a' ds,D.lst a= .lst a'/\h a'=some ds/\ToPs h ds ps from t1);cases ea;obtain⟨ws,hH,_⟩:=rh a ds ha;obtain⟨as,r1⟩:=zo I rh t1 (show RelD X.K H (.lst a) (.ref a) from ⟨rfl,ws,hH⟩) (show RelV (.ref a) (.ref a) from rfl);obtain⟨bs,r2⟩:=zo I rh t2 rd ru;cases r1 with
 |list h1 h2 h3 h4=>
  rename_i o its n cs;have em:=readsAll_map ps _ _ c2 h4;have hu':X.A.units+1+min (N4 ps) p.depth<cLine:=by have:=V4 (N4 ps) p.depth;omega
  obtain⟨oc,od,odt,osl⟩:=o;simp only at h2 h3;subst h2 h3;refine lF i6 ⟨_,h1,rfl⟩ tU (sR _ _) (list_countAt a its n od osl u (λy=>M9 (readOf s.heap y) p)) ⟨h1,items_eqAt h4 r2 c2 c1 hu',?_⟩;have e:its.toList.countP (λy=>M9 (readOf s.heap y) p)=ps.countP λz=>M9 z p:=by
   rw [<-em,List.countP_map];rfl
  exact⟨.int _,H,I.tok _,⟨_,by rw [e]⟩,q⟩
def uq (to te:TED):TED:=λσ h Q=>to σ h λx h1=> ∃a,x= .lst a/\te σ h1 λy h2=> ∃ (p:C4) (ps:G0 C4),ToP h2 (.lst a) (.list ps)/\ToP h2 y p/\p.canLay0=true/\M6 ps=true/\p.depth<=60/\Q (.int ((ps.countP λz=>M9 z p:G8):P2)) h2
section
variable {X:Cx}{o e i:S6}{to te ti:TED}{apos cpos:Pos}
theorem ur (hu : X.A.units + 64 < cLine) (ho : JE X o to) (he : JE X e te) (hbase : K6 o "count" X.env (C8 o X.env) = C8 o X.env := by rfl)
    (hfew : ((F7 cpos (P5 [e] X.env)).all (fun x => !x.1) && (gG cpos (bL [] X.env)).all (fun x => x.1.isSome) && decide ([e].length + ([] : G0 aN).length + (if ([] : G0 aN).isEmpty then 0 else 1) < 30)) = true := by rfl)
    (hline : (apos.endLine == cpos.line) = true := by rfl) (hs : P5 [e] X.env = (false, C8 e X.env) :: P5 [] X.env := by rfl) (hplain : (F7 cpos (P5 [] X.env)).any (·.1) = false := by rfl) :
    JE X (.Call (.Attribute o "count" apos) [e] [] cpos) (uq to te) :=
  ⟨(Fx c8 i6 uP (Bo hu) ho.to (zS he.to pa_nil hs) hbase hfew hline hs hplain).imp
    fun σ H Q ⟨σd, h, Qd, rs, rh, t, p⟩ => LE.bind rs rh t fun d v h1 H1 k1 rs1 rh1 r1 ⟨a, e, q⟩ => by
      subst e
      obtain ⟨e1, vs, hH⟩ := (show v = .ref a ∧ ∃ vs, H1 a = some (.lst vs) from r1)
      subst e1
      refine ⟨.inl ⟨rfl, vs, SqL.of hH⟩, ?_⟩
      refine LE.bind rs1 rh1 q fun y u h2 H2 k2 rs2 rh2 r2 ⟨pd, ps, t1, t2, c1, c2, c3, q2⟩ => ?_
      exact ⟨a, u, y, h2, pd, ps, rfl, rfl, r2, rh2, t1, t2, c1, c2, c3, p (.int _) _ _ _ (k1.trans k2) rh2 rfl q2⟩⟩
end
theorem YW {X:Cx}{v:V}{c:G1}(rc: ∀u,RelV v u->u=c):CallR X (.builtin "isinstance") (λxs H Q=> ∃x C o b,xs= [.ref x,v]/\H x=some (.frz o (.own 0))/\o.cls= .ref C/\ExcK X.K C/\kitOne X.K (.ref C) c=some b/\Q (.bl b) H):=by
 intro pins s σ H xs us Q I r h;obtain⟨x,C,o,b,rfl,hx,hc,Z,e,q⟩:=h;obtain⟨u,w',rfl,rx,rt⟩:=DK r;cases rx;cases rc _ rt;exact kia_one (Bn Z) I.kIn ⟨o,(I.hok x _ hx).1,hc⟩ e (λz=>nomatch z) λtk=>⟨.bl b,H,I.tok tk,rfl,q⟩
end L2
namespace L2
open PySem PySem.Spec PyProof.Rows PySem.W
section
variable {X:Cx}{σ:St}{H:Hp}{s:G2}{x C:G5}{dx:P0 G5}
theorem Inv.relaid {B h':M4}{T:G5}{a0:G1}(I:Inv X [] σ H s)(Z:Rz0 X)(hpn:X.pn= [])(hx:H x=none/\X.s₀.heap.get? x=none)(hT:H T=none/\X.s₀.heap.get? T=none)
 (hB:B=hideAll s.heap (x::T::frs (X.env::X.outer)))(fl:lL B (X.env::X.outer) x (.ref C) a0 h')(up:s.heap.UpToSlots h')(dk:HT.Dk s.heap h')(hdx:dx=none\/ ∃oe,s.heap.get? x=some oe/\oe.dict=dx):Inv X [] σ H {s with heap:=h'}/\Fly X.s₀.heap H h' x C dx:=by
 subst hB;have stk:s.heap.FunFrames X.base (X.env::X.outer):=Z.stk ▸ I.stack;obtain⟨st,_,_,oe',vs',T',oT',ts',he',⟨hc',h0'⟩,hd',h1',hTB,hTx',hT',hTd',h3'⟩:=fl;obtain⟨r1,r2,r3⟩:=Gp (ys:= [x,T]) (h':=h') I Z (λy hy=>by
  rcases P9.mp hy with rfl|hy
  ·exact hx
  ·rcases P9.mp hy with rfl|hy
   ·exact hT
   ·cases hy) (λb o e n1 n2=>st b o (hideAll_get _ e λz=>by
    rcases P9.mp z with rfl|z
    ·exact n1 (.head _)
    ·rcases P9.mp z with rfl|z
     ·exact n1 (.tail _ (.head _))
     ·exact n2 z)) λb o e hb=>by
  obtain⟨_,o2,e2,nd⟩:=stk.mem hb;rw [e] at e2;cases e2;exact up b o e nd
 obtain⟨q1,q2⟩:=r3 T' oT' ts' hT' hTd' λo e=>by
  by_cases z:T'∈frs (X.env::X.outer)
  ·exact .inr z
  ·refine .inl ?_
   by_cases z1:T'=x
   ·rw [z1];exact .head _
   ·by_cases z2:T'=T
    ·rw [z2];exact .tail _ (.head _)
    ·rw [hideAll_get _ e (by simp only [P9,IE];exact⟨z1,z2,z⟩)] at hTB;cases hTB
 have cellK: ∀c v,s.heap.IsCell c v->h'.IsCell c v:=λc v ⟨o,ho,hd⟩=>by
  obtain⟨sl,e⟩:=up c o ho λws q=>by rw [hd] at q;cases q
  exact⟨_,e,hd⟩
 refine⟨⟨I.ok,I.os,I.bare,by rw [Z.ex];exact r1,?_,λy c e=> ?_,I.free,I.freeC,λp hp=> ?_,r2,I.len⟩,⟨⟨oe',vs',a0,T',oT',ts',he',hc',hd',h0',h1',hTx',hT',hTd',h3',q1,q2⟩,hx.1,hx.2,hdx.imp id λ⟨o,e,d⟩=>let ⟨o',e2,d2,_⟩:=dk x o e;⟨o',e2,d2.trans d⟩⟩⟩
 ·obtain⟨m,hn,hl⟩:=I.loc;refine⟨m,up.ns hn,λi y v e1 e2 e3=> ?_⟩;obtain⟨u,r,l⟩:=hl i y v e1 e2 e3;exact⟨u,r,l.imp id λ⟨k,c,e,z⟩=>⟨k,c,e,cellK c _ z⟩⟩
 ·obtain⟨v,z⟩:=I.cell y c e;exact⟨v,cellK c v z⟩
 ·rw [hpn] at hp;cases hp
theorem Inv.track {oe:Obj}{vs:M1 G1}(I:Inv X [] σ H s)(hpn:X.pn= [])(hn:H x=none)(h0:X.s₀.heap.get? x=none)(hx:s.heap.get? x=some oe)(hd:oe.data= .fields vs):Inv X [] σ (upd H x (.frz oe (.own 0))) s:=by
 have ne: ∀b u,H b=some u->b≠x:=λb u e z=>by rw [z,hn] at e;cases e
 have ne0: ∀b o,X.s₀.heap.get? b=some o->b≠x:=λb o e z=>by rw [z,h0] at e;cases e
 have cn: ∀y c,X.env.cells.lookup y=some c->c≠x:=λy c e z=>by
  obtain⟨v,o,ho,hc⟩:=I.cell y c e;rw [z,hx] at ho;cases ho;rw [hd] at hc;cases hc
 refine⟨I.ok,I.os,I.bare,⟨I.base.keep,I.base.slot,λb o e n hx=> ?_,I.base.there,λb xs e=> ?_,λb o u e=> ?_,λb ps e=> ?_⟩,I.loc,I.cell,?_,λy c e=> ?_,λp hp=> ?_,λa o e=> ?_,I.len⟩
 ·rw [jd (ne0 b o e)];exact I.base.free b o e n hx
 ·have:=I.base.tups b xs e;rw [jd (ne b _ this)];exact this
 ·have:=I.base.frzs b o u e;rw [jd (ne b _ this)];exact this
 ·obtain⟨more,this⟩:=I.base.tbls b ps e;exact⟨more,by rw [jd (ne b _ this)];exact this⟩
 ·rw [jd (λz=> ?_)]
  ·exact I.free
  ·obtain⟨m,⟨o,es,ep,e,d,_⟩,_⟩:=I.loc;rw [z,hx] at e;cases e;rw [hd] at d;cases d
 ·rw [jd (cn y c e)];exact I.freeC y c e
 ·rw [hpn] at hp;cases hp
 ·by_cases z:a=x
  ·subst z;rw [je] at e;cases e;exact⟨hx,⟨oe,hx⟩⟩
  ·rw [jd z] at e;exact(I.hok a o e).stay (λ_ _ _ q=>q) (λb q=>by rw [jd (ne b _ q)];exact q) λb xs q=>by rw [jd (ne b _ q)];exact q
theorem RX {M:cC}{A:R6}{E:G1->G2->Prop}{i:G8}{y:Str}{v:V}{Q:Unit->G2->Prop}(I:Inv X [] σ H s)(hpn:X.pn= [])(hN:X.N.Nodup)(hi:X.N[i]? =some y)(hk:X.env.scope.names.lookup y=some .local)(hv:σ[i]? =some (some v))
 (h: ∀s',Inv X [] (σ.set i none) H s'->Q () s'):D1 M A (unbindName X.env y) Q E s:=by
 obtain⟨m,hn,hl⟩:=id I.loc;have hcls:(X.env.scope.kind== .class||(X.env.scope.kind== .module&&X.env.locals !=X.env.globals))=false:=by rw [I.ok.kind];rfl
 have hiσ:i<σ.length:=by rw [I.len];exact(R0.mp hi).1
 obtain⟨u,r,l⟩:=hl i y v hi hv (.inl hk);have hm:m y=some u:=by
  rcases l with ⟨_,e⟩|⟨k,_⟩
  ·exact e
  ·rcases k with k|k<;>(have k':X.env.scope.names.lookup y=_:=k;rw [hk] at k';cases k')
 refine wpAny_unbindName_local hk hn hm hcls λh' u' hn' hs=> ?_
 obtain⟨oL,_,_,hoL,_⟩:=id hn;have cne:=I.cne;refine h _ ⟨I.ok,I.os,I.bare,⟨λb o e n hb hx=> ?_,λb o e n hb hx=> ?_,I.base.free,λb o e hx=> ?_,I.base.tups,I.base.frzs,I.base.tbls⟩,⟨_,hn',λj z v' e1 e2 e3=> ?_⟩,λz c e=> ?_,I.free,I.freeC,λp hp=> ?_,λb ob e=> ?_,by simpa using I.len⟩
 ·exact(hs.2 b (R5 (S0 (D0 e) I.ok.above))).trans (I.base.keep b o e n hb hx)
 ·obtain⟨sl,e1⟩:=I.base.slot b o e n hb hx;exact⟨sl,(hs.2 b (R5 (S0 (D0 e) I.ok.above))).trans e1⟩
 ·obtain⟨o',e1⟩:=I.base.there b o e hx;exact⟨o',(hs.2 b (R5 (S0 (D0 e) I.ok.above))).trans e1⟩
 ·by_cases hj:j=i
  ·subst hj;rw [aK hiσ] at e2;cases e2
  ·rw [J5 (O0 hj)] at e2;obtain⟨u2,r',q⟩:=hl j z v' e1 e2 e3;refine⟨u2,r',?_⟩;rcases q with ⟨k,e⟩|⟨k,c,e,q⟩
   ·refine .inl ⟨k,?_⟩;have:z≠y:=λe=>hj (Vg hN e1 (e ▸ hi))
    simp [this,e]
   ·exact .inr ⟨k,c,e,q.sameBut hs (cne z c e)⟩
 ·obtain⟨w',q⟩:=I.cell z c e;exact⟨w',q.sameBut hs (cne z c e)⟩
 ·rw [hpn] at hp;cases hp
 ·refine(I.hok b ob e).stay (λc w' hc q=>(hs.2 c ?_).trans q) (λ_ q=>q) λ_ _ q=>q
  rintro rfl;rcases hc with rfl|hc
  ·rw [I.free] at e;cases e
  ·rw [I.free] at hc;cases hc
end
def cxH (X:Cx)(x:G5):Cx:= {X with A:=X.A.mark (some (.ref x)),calm:=false,xe:=λ_ _=>False}
section
variable {X:Cx}{pins:G0 (G5×Obj)}{σ:St}{H:Hp}{s:G2}{x C:G5}{dx:P0 G5}
theorem Inv.suite (I:Inv X pins σ H s)(x:G5):Inv (cxH X x) pins σ H s:=
 ⟨⟨I.ok.mod,I.ok.kind,I.ok.glob,I.ok.blt,I.ok.above,I.ok.inj,I.ok.has,I.ok.cab,λz=>(by cases z),I.ok.frames,I.ok.stk,I.ok.exf,I.ok.bs,I.ok.bsz,I.ok.noex,I.ok.exfs,I.ok.funs,I.ok.frf⟩,I.os,I.bare,I.base,I.loc,I.cell,I.free,I.freeC,I.pin,I.hok,I.len⟩
theorem Inv.unsuite (I:Inv (cxH X x) pins σ H s)(ok:X.Ok):Inv X pins σ H s:=⟨ok,I.os,I.bare,I.base,I.loc,I.cell,I.free,I.freeC,I.pin,I.hok,I.len⟩
theorem Bp {E:G1->G2->Prop}{n:Str}{i:G8}{PE:G5}{b0:C5}{suite:G0 C5}{t:TS}{D:Ends}{np pos:Pos}(Z:Rz0 X)(hpn:X.pn= [])(hN:X.N.Nodup)(hi:X.N[i]? =some n)(hl:X.env.scope.names.lookup n=some .local)
 (hg:Gl X "PowerError")(hm:X.mg "PowerError" =some (.ref PE))(hex:exmOne X.K (.ref C) (.ref PE)=some true)(I:Inv X [] σ H s)(fl:Fly X.s₀.heap H s.heap x C dx)(hs:PSs (cxH X x) (b0::suite) t)
 (ht: ∀oe vs,oe.cls= .ref C->oe.data= .fields vs->(dx=none\/oe.dict=dx)->t {nx:=λ_ _=>False,rt:=D.rt} (σ.set i (some (.ref x))) (upd H x (.frz oe (.own 0)))):
 D1 (D3 X.prog X.w) X.A (i0 (.ref x) X.env) (λ_ s₂=>D1 (D3 X.prog X.w) X.A (uO (.ref x) none) (λ_ s₃=>D1 (D3 X.prog X.w) X.A (handleBy (.ref x) X.env [.ExceptHandler (some (.Name "PowerError" np)) (some n) (b0::suite) pos]) (SP X [] D) E s₃) E s₂) E s:=by
 obtain⟨oe0,vs0,a0,T,oT,ts,he,hc,hd,h0,h1,hTx,hT,hTd,h3,hHT,h0T⟩:=fl.ex;have hfr:X.A.frames=some (X.env::X.outer):=by rw [I.ok.frames,Z.stk]
 have stk:s.heap.FunFrames X.base (X.env::X.outer):=Z.stk ▸ I.stack;have ff:s.heap.FunFrames (hideAll s.heap (x::T::frs (X.env::X.outer))) (X.env::X.outer):=jY stk λa ha=>hideAll_none _ (.tail _ (.tail _ ha))
 refine HT.WJ (HT.vK _ _) (P:=λh'=>Heap.HeldW (hideAll s.heap (x::T::frs (X.env::X.outer))) (X.env::X.outer) x (.ref C) a0 X.env.locals h'/\s.heap.UpToSlots h') (wpAny_looks_onW (base:=hideAll s.heap (x::T::frs (X.env::X.outer))) (cls:= .ref C) (a0:=a0) hfr Z.fr
  ⟨λb o e=>of_hideAll _ e,hideAll_none _ (.head _),ff,oe0,vs0,T,oT,ts,he,⟨hc,h0⟩,hd,h1,hideAll_none _ (.tail _ (.head _)),hTx,hT,hTd,h3⟩ λh' p q=>⟨h',rfl,p,q⟩) λh₄ ⟨hheld₄,hup₄⟩ dk4=> ?_
 refine HT.WJ (HT.yf _ _) (P:=λh'=>lL (hideAll s.heap (x::T::frs (X.env::X.outer))) (X.env::X.outer) x (.ref C) a0 h'/\h₄.UpToSlots h') (wpAny_landsW hheld₄ λh' p q=>⟨h',rfl,p,q⟩) λh₅ ⟨hfl₅,hup₅⟩ dk5=> ?_
 obtain⟨I5,F5⟩:=I.relaid Z hpn ⟨fl.nx,fl.n0⟩ ⟨hHT,h0T⟩ rfl hfl₅ (hup₄.trans hup₅) (dk4.trans dk5) fl.dc;refine wpAny_handleBy_cons (codeAny_handlers_test (vP (X:=cxH X x) (I5.suite x) hg hm ?_)) (by intro q;cases q);have at5:ExcAt x C h₅:=let ⟨oe,_,_,_,_,_,e,c,_⟩:=F5.ex;⟨oe,e,c⟩;refine(exm_one (M:=D3 X.prog X.w) (h:=h₅) I5.kIn at5.type hex).here ?_;refine codeAny_handlers_suite_as ?_;refine HT.WJ (HT.yf _ _) (P:=λh'=>lL (hideAll s.heap (x::T::frs (X.env::X.outer))) (X.env::X.outer) x (.ref C) a0 h'/\h₅.UpToSlots h') (lands_againW hfl₅ λh' p q=>⟨h',rfl,p,q⟩) λh₆ ⟨hfl₆,hup₆⟩ dk6=> ?_
 obtain⟨I6,F6⟩:=I.relaid Z hpn ⟨fl.nx,fl.n0⟩ ⟨hHT,h0T⟩ rfl hfl₆ (hup₄.trans (hup₅.trans hup₆)) ((dk4.trans dk5).trans dk6) fl.dc;obtain⟨oe,vs,_,_,_,_,e6,c6,d6,_⟩:=F6.ex;have I7:=I6.track hpn F6.nx F6.n0 e6 d6;refine yu I7 hN hi (.inl hl) (v:= .ref x) rfl (λs8 I8=> ?_) (.inr hl);refine R7 (hs [] s8 _ _ _ (I8.suite x) (ht oe vs c6 d6 (F6.dc.imp id λ⟨o,e,d⟩=>by rw [e6] at e;cases e;exact d))) (λf s9 q=> ?_) λ_ _ z=>z.elim
 cases f with
 |next=>obtain⟨_,_,_,z⟩:=q;exact z.elim
 |brk=>obtain⟨_,_,_,z⟩:=q;exact z.elim
 |cont=>obtain⟨_,_,_,z⟩:=q;exact z.elim
 |ret u=>
  obtain⟨v,σ',H3,J,rv,qq⟩:=q;have J1:Inv X [] σ' H3 s9:=J.unsuite I.ok;refine wpAny_bind (mF (yu J1 hN hi (.inl hl) (v:= .non) rfl (λs10 J2=> ?_) (.inr hl)));unfold unbindBehindTheSuite;have hlt:i<σ'.length:=by rw [J1.len];exact(R0.mp hi).1
  exact wpAny_onRaise (RX J2 hpn hN hi hl (v:= .non) (by rw [aK hlt]) λs11 J3=>⟨v,_,H3,J3,rv,qq⟩)
end
def CW:G0 (Str×Str):= [("NoTable","table"),("NoPlace","place"),("NoNumber","number"),("NoOrder","order"),("NoSet","set"),("NoWalk","walk"),("NoLengths","lengths"),("NoWay","way"),("Apart","apart"),("NoRow","row")]
def CN:G0 Str:= ["NoTable","NoPlace","NoNumber","NoOrder","NoSet","NoWalk","NoLengths","NoWay","Apart","NoRow"]
abbrev N1:G0 Str:= ["_law_call","_law_found","_law_e","_law_word"]
theorem RoomU.mark {k:G8}{A:R6}{v:P0 G1}(r:RoomU k A):RoomU k (A.mark v):=⟨r.dp,r.un,r.gd⟩
theorem RY {M:cC}{f:G5}(h:M4)(X: ∃o fd,h.get? f=some o/\o.data= .func fd): ∃k,(k=Keeper.frame\/k=Keeper.machine\/k=Keeper.boundFrame)/\Looks M h (keeperOf (.ref f)) k:=by
 obtain⟨o,fd,e,d⟩:=X;refine⟨.frame,.inl rfl,(xR (part:=none) e).andThen ?_⟩;rw [d];exact .now
def dNo:TED:=λ_ _ _=>False
theorem jno {X:Cx}{e:S6}:JE X e dNo:=⟨λ_ _ _ _ _ _ ⟨_,_,_,_,_,z,_⟩=>z.elim⟩
def KL (sc:H0):N0:=sc.kind== .function&& !sc.isCoroutine&& !sc.isGenerator&&sc.names.all λy=>y.2 != .cell&&y.2 != .local
theorem Jy {sc:H0}(hk:sc.kind= .function)(h:KL sc=true):LamOk sc:=by
 unfold KL at h;simp only [S9,iG,M8,bne_iff_ne,ne_eq] at h;exact⟨hk,h.1.1.2,h.1.2,λy hy=>h.2 y hy⟩
def Yw (sc sc':H0):N0:=sc.names.all λy=>y.2 != .free||(sc'.names.lookup y.1==some .cell||sc'.names.lookup y.1==some .free)
theorem yG {sc:H0}{env:Env}(h:Yw sc env.scope=true):RU sc env:=λn hn=>by
 have:=M8.mp h _ hn;simp only [iH,tD,W7,beq_iff_eq] at this;exact this
variable {K:Frag}{x:Str}
theorem Bq {f c P:G5}{oc:G1}{od:P0 G5}{fd:R4}{osl:M1 (P0 G1)}(a:nsIn K mainGlobals x=some (some (.ref f)))(l:K.lookup f=some ⟨oc,od,.func fd,osl⟩)(t:tabIn K x=some (c,P)):fd.code= .ref c:=by
 unfold tabIn at t;rw [a] at t;simp only [l] at t;split at t
 ·rename_i c' hc';split at t
  ·split at t
   ·cases t;exact hc'
   ·cases t
  ·cases t
 ·cases t
def CN13:G0 Str:= ["NoTable","NoPlace","NoNumber","NoOrder","NoSet","NoWalk","NoLengths","NoWay","Apart","NoRow","NoTables","NoText","TooGreat"]
def adr (K:Frag)(x:Str):P0 G5:=match nsIn K mainGlobals x with
 |some (some (.ref a))=>some a
 |_=>none
def PF (K:Frag)(C:G5):N0:=(clsIn K C).isSome&&findIn K (.ref C) "__getattribute__" ==some (some (.builtin "BaseException.__getattribute__"))&&findIn K (.ref C) "__getattr__" ==some none
 &&findIn K (.ref C) "__class__" ==some (some (.builtin "object.__class__"))&&specialIn K (.builtin "object.__class__") "__get__" ==some (some (.builtin "getset_descriptor.__get__"))
 &&takesIn K (.builtin "object.__class__")==some true&&mroIn K C (.type "object")==some true&&mroIn K C (.type "BaseException")==some true
theorem RZ {C:G5}(h:PF K C=true):ExcK K C:=by
 unfold PF at h;simp only [S9,beq_iff_eq] at h;obtain⟨⟨⟨⟨⟨⟨⟨a,b⟩,c⟩,d⟩,e⟩,f⟩,g⟩,i⟩:=h;exact⟨a,b,c,d,e,f,g,i⟩
def CC (K:Frag)(c:Str):N0:=match adr K c,adr K "PowerError" with
 |some C,some pe=>excIn K C bmV "ValueError.__new__" &&PF K C&&kitOne K (.ref C) (.type "ValueError")==some true&&exmOne K (.ref C) (.ref pe)==some true&&CN13.all λd=>match adr K d with
  |some D=>kitOne K (.ref C) (.ref D)==some (c==d)
  |none=>false
 |_,_=>false
def Se (K:Frag):N0:=CN.all (CC K)&&CN13.all (λd=>(adr K d).isSome)&&(adr K "PowerError").isSome&&nsIn K mainGlobals "ValueError" ==some none
structure Exc (K:Frag)(mg:Str->P0 G1):Prop where
 own: ∀c∈CN,OwnX K mg c
 ek: ∀c∈CN,∀C,mg c=some (.ref C)->ExcK K C
 kit: ∀c∈CN,∀d∈CN13,∀C D,mg c=some (.ref C)->mg d=some (.ref D)->kitOne K (.ref C) (.ref D)=some (c==d)
 val: ∀c∈CN,∀C,mg c=some (.ref C)->kitOne K (.ref C) (.type "ValueError")=some true
 pe: ∃pe,mg "PowerError" =some (.ref pe)/\ ∀c∈CN,∀C,mg c=some (.ref C)->exmOne K (.ref C) (.ref pe)=some true
 cls: ∀d∈CN13,∃D,mg d=some (.ref D)
 ve:mg "ValueError" =none
theorem ZN {h:M4}{mg:Str->P0 G1}{a:G5}(X:K.In h)(G:h.Ns mainGlobals mg)(e:adr K x=some a):mg x=some (.ref a):=by
 unfold adr at e;split at e
 ·rename_i q;cases e;exact mg_of X G q
 ·cases e
theorem Sf {a:G5}(e:adr K x=some a):nsIn K mainGlobals x=some (some (.ref a)):=by
 unfold adr at e;split at e
 ·rename_i q;cases e;exact q
 ·cases e
theorem Sg {h:M4}{mg:Str->P0 G1}(X:K.In h)(G:h.Ns mainGlobals mg)(e:Se K=true):Exc K mg:=by
 unfold Se at e;simp only [S9,M8,beq_iff_eq] at e;obtain⟨⟨⟨e1,e2⟩,e3⟩,e4⟩:=e;obtain⟨pe,hpe⟩:=F2.mp e3;have A: ∀c∈CN,∃C,adr K c=some C/\mg c=some (.ref C)/\excIn K C bmV "ValueError.__new__" =true/\PF K C=true/\kitOne K (.ref C) (.type "ValueError")=some true/\exmOne K (.ref C) (.ref pe)=some true/\ ∀d∈CN13,∀D,adr K d=some D->kitOne K (.ref C) (.ref D)=some (c==d):=λc hc=>by
  have q:=e1 c hc;unfold CC at q;rw [hpe] at q;split at q
  ·rename_i C pe' h1 h2;cases h2;simp only [S9,M8,beq_iff_eq] at q;obtain⟨⟨⟨⟨q1,q2⟩,q3⟩,q4⟩,q5⟩:=q;refine⟨C,h1,ZN X G h1,q1,q2,q3,q4,λd hd D hD=> ?_⟩;have:=q5 d hd;rw [hD] at this;simpa using this
  ·cases q
 have same: ∀ {c:Str} {C C':G5},mg c=some (.ref C)->mg c=some (.ref C')->C=C':=λa b=>by rw [a] at b;cases b;rfl
 refine⟨λc hc=> ?_,λc hc C h=> ?_,λc hc d hd C D h1 h2=> ?_,λc hc C h=> ?_,⟨pe,ZN X G hpe,λc hc C h=> ?_⟩,λd hd=> ?_,mg_none_of X G e4⟩
 ·obtain⟨C,a,m,q,_⟩:=A c hc;exact⟨C,m,Sf a,q⟩
 ·obtain⟨C',_,m,_,q,_⟩:=A c hc;cases same h m;exact RZ q
 ·obtain⟨C',_,m,_,_,_,_,q⟩:=A c hc;cases same h1 m;obtain⟨D',hD⟩:=F2.mp (e2 d hd);cases same h2 (ZN X G hD);exact q d hd D hD
 ·obtain⟨C',_,m,_,_,q,_⟩:=A c hc;cases same h m;exact q
 ·obtain⟨C',_,m,_,_,_,q,_⟩:=A c hc;cases same h m;exact q
 ·obtain⟨D',hD⟩:=F2.mp (e2 d hd);exact⟨D',ZN X G hD⟩
def xOr (t u:TXD):TXD:=λσ h R=>t σ h R\/u σ h R
theorem Br {X:Cx}{sts:G0 C5}{t u:TXD}(a:JX X sts t)(b:JX X sts u):JX X sts (xOr t u):=⟨λE Z pins s σ H σd h R I rs rh ht w=>ht.elim (λq=>a.to E Z pins s σ H σd h R I rs rh q w) λq=>b.to E Z pins s σ H σd h R I rs rh q w⟩
section
variable {P:D5}{w:T5}{K:G3}{mg:Str->P0 G1}{base:M4}
theorem Fun.okJL {x qual:Str}{st:C5}{f c Pt:G5}{fd:R4}{N ps:G0 Str}{k:G8}{spd:RDn}(F:Fun K x qual st f fd)(a:nsIn K mainGlobals x=some (some (.ref f)))(T:tabIn K x=some (c,Pt))(S:FnScope N ps (jb st))(len: ∀ds h Q,spd ds h Q->ds.length=ps.length)
 (tb:TSD)(hbody: ∀ (A:R6) (outer:G0 Env) (s:G2) (H:Hp) (E:XK),Room k (A.deeper (E4 qual (jb st) s.heap.objs.size f (.ref c)))->JSs (Yr CX0 P w K mg base N qual (jb st) f (.ref c) A outer s H E).nox (jJ st) tb)
 (read: ∀ds h Q,spd ds h Q->tb (Wy Q) (jR N ds) h):FnOk P w K mg base CX0 (k+1) f fd ps (LSp K spd):=by
 obtain⟨oc,od,kV,doc,pm,an,cdv,ct,osl,rfl,lk,hcd⟩:=F.ex;have e:cdv= .ref c:=Bq a lk T;subst e;refine Fs lk hcd S (λvs H Q E h=> ?_) λA outer s H vs Q E hr h=> ?_
 ·obtain⟨ds,h,Qd,r,rh,q,p⟩:=h;rw [<-r.length];exact len _ _ _ q
 ·obtain⟨ds,h,Qd,r,rh,q,p⟩:=h;refine⟨_,((hbody A outer s H E hr).to).nox,jR N ds,h,Wy Qd,vx r,rh,read ds h Qd q,λσd' h' σ' H' k rs' rh' ⟨h2,sb,q'⟩=>p .non .non h2 H' k (rh'.sub sb) rfl q',λd v h' H' k rh' r' ⟨h2,sb,q'⟩=>p d v h2 H' k (rh'.sub sb) r' q',λ_ _ _ _ _ _ _ z=>z.elim,λ_ _ _ _ _ _ _ z=>z.elim⟩
end
def Bs (K:Frag)(x:Str):N0:=match tabIn K x with
 |some p=>codeHdIn K p.1 p.2
 |none=>false
theorem Ma (h:Bs K x=true): ∃c P,tabIn K x=some (c,P)/\codeHdIn K c P=true:=by
 unfold Bs at h;split at h
 ·rename_i p e;exact⟨p.1,p.2,e,h⟩
 ·cases h
end L2
namespace L2
open PySem PySem.Spec PyProof.Rows PySem.SeqAt
section
variable {n e:G8}{T:G0 (G0 P2)}
instance (k i j:G8):Decidable (RP n T k i j):=inferInstanceAs (Decidable (ent (Du n T k) i j≠0))
end
end L2
namespace L2
open PySem PySem.Spec PyProof.Rows PySem.W
section
variable {X:Cx}{e a b iter:S6}{es:G0 S6}{u:TXD}{pos p:Pos}{rest:G0 C5}
theorem Mb (he:JXE X e u)(hs:P5 (e::es) X.env=(false,C8 e X.env)::P5 es X.env)(E:XK)(Z:Rz X E)(pins:G0 (G5×Obj))(s:G2)(σ:St)(H:Hp)(σd:SD)(h:HD)(R:RN->HD->Prop)(I:Inv X pins σ H s)(rs:RelS X.K H σd σ)(rh:RelH X.K h H)(ht:u σd h R)(w:WX X E H R):
 D1 (D3 X.prog X.w) X.A (uS (F7 pos (P5 (e::es) X.env))) (λ_ _=>False) X.xe s:=by
 rw [hs];show D1 _ _ (uS ((false,C8 e X.env)::F7 pos (P5 es X.env))) _ _ s;exact Y4 (R7 (he.to E Z pins s σ H σd h R I rs rh ht w) (λ_ _ z=>z.elim) λ_ _ z=>z)
theorem LK (he:JXE X e u)(hs:P5 (e::es) X.env=(false,C8 e X.env)::P5 es X.env:=by rfl):JXE X (.List (e::es) pos) u:=⟨λE Z pins s σ H σd h R I rs rh ht w=>
 n8 (R7 (Mb he hs E Z pins s σ H σd h R I rs rh ht w) (λ_ _ z=>z.elim) λ_ _ z=>z)⟩
theorem Bt {sts:G0 C5}:JSs X sts Rs:=⟨λpins s σ H D I h=>by obtain⟨_,_,_,_,_,f,_⟩:=h;exact False.elim f⟩
end
end L2
namespace L2
open PySem PySem.Spec PyProof.Rows PySem.SeqAt
section
variable {n e:G8}{T:G0 (G0 P2)}
theorem VE (h:Sq n e T)(hn:n<=8){a b i j k:G8}(hi:i<n)(hk:k<n)(hj:j<n)(x:RP n T a i k)(y:RP n T b k j):RP n T (a+b) i j:=(RM h hn a b hi hj).mpr ⟨k,hk,x,y⟩
theorem Mc (h:Sq n e T)(hn:n<=8){i j:G8}:RP n T 1 i j↔ent T i j≠0:=by unfold RP;rw [Lu h hn]
end
end L2
namespace HT
open PySem PySem.Spec PyProof.Rows
variable {j:G8}
theorem VF {xs:M1 G8}(r:xs.toList.Pairwise (· < ·)): ∀ (fuel lo hi:G8),hi-lo<=fuel->hi<=xs.size->lo<=hi->(∀i,i<lo-> ∀v,xs[i]? =some v->v<j)->(∀i,hi<=i-> ∀v,xs[i]? =some v->j<=v)->
 (∀i,i<dM xs j fuel lo hi-> ∀v,xs[i]? =some v->v<j)/\(∀i,dM xs j fuel lo hi<=i-> ∀v,xs[i]? =some v->j<=v)/\dM xs j fuel lo hi<=xs.size
 |0,lo,hi,f,hs,lh,a,b=>by
  have:lo=hi:=by omega
  subst this;exact⟨a,b,hs⟩
 |fuel+1,lo,hi,f,hs,lh,a,b=>by
  unfold dM
  by_cases c:lo<hi
  ·rw [R1 c];have hm:(lo+hi) / 2<xs.size:=by omega
   have mono: ∀ (i k u v:G8),i<=k->xs[i]? =some u->xs[k]? =some v->u<=v:=λi k u v ik e1 e2=>by
    rcases A8 i k with z|z
    ·have i1:=(A2.mp e1);have i2:=(A2.mp e2);obtain⟨h1,e1'⟩:=i1;obtain⟨h2,e2'⟩:=i2;have:=K5.mp r i k (by simpa using h1) (by simpa using h2) z;simp only [bP] at this;omega
    ·have:i=k:=by omega
     subst this;rw [e1] at e2;cases e2;exact P1 _
   have em:xs.getD ((lo+hi) / 2) j=xs[(lo+hi) / 2]:=by simp [sJ,hm]
   dsimp only
   by_cases d:xs.getD ((lo+hi) / 2) j<j
   ·rw [R1 d];refine VF r fuel _ hi (by omega) hs (by omega) (λi hi' v hv=> ?_) b;have:=mono i ((lo+hi) / 2) v xs[(lo+hi) / 2] (by omega) hv (by simp [hm]);omega
   ·rw [R3 d];refine VF r fuel lo _ (by omega) (by omega) (by omega) a (λi hi' v hv=> ?_);have:=mono ((lo+hi) / 2) i xs[(lo+hi) / 2] v hi' (by simp [hm]) hv;omega
  ·rw [R3 c];have:lo=hi:=by omega
   subst this;exact⟨a,b,hs⟩
theorem Jz {xs:M1 G8}(r:xs.toList.Pairwise (· < ·))(j:G8):(∀i,i<S8 xs j-> ∀v,xs[i]? =some v->v<j)/\(∀i,S8 xs j<=i-> ∀v,xs[i]? =some v->j<=v)/\S8 xs j<=xs.size:=
 VF r xs.size 0 xs.size (by omega) (P1 _) (L0 _) (λi h=>absurd h (W9 _)) (λi h v e=>by rw [lK h] at e;cases e)
theorem Qn {xs:M1 G8}(r:xs.toList.Pairwise (· < ·))(no:xs[S8 xs j]? ≠some j):(U3 xs (S8 xs j) j).toList.Pairwise (· < ·):=by
 obtain⟨a,b,hs⟩:=Jz r j;rw [cK,List.pairwise_append,List.pairwise_cons];have low: ∀v∈xs.toList.take (S8 xs j),v<j:=λv hv=>by
  obtain⟨i,hi⟩:=bQ hv;rw [oH] at hi;split at hi
  ·rename_i c;exact a i c v (by simpa using hi)
  ·cases hi
 have high: ∀v∈xs.toList.drop (S8 xs j),j<v:=λv hv=>by
  obtain⟨i,hi⟩:=bQ hv;rw [gR] at hi;have hi':xs[S8 xs j+i]? =some v:=by simpa using hi
  have le:=b _ (qD _ _) v hi';rcases A8 j v with z|z
  ·exact z
  ·have ev:v=j:=by omega
   subst ev;cases i with
   |zero=>exact(no hi').elim
   |succ i=>
    obtain⟨h1,e1⟩:=A2.mp hi';have h0:S8 xs v<xs.size:=by omega
    have le0:=b _ (P1 _) xs[S8 xs v] (by simp [h0]);have lt:=K5.mp r (S8 xs v) (S8 xs v+(i+1)) (by simpa using h0) (by simpa using h1) (by omega);simp only [bP] at lt;omega
 exact⟨r.sublist (iB _ _),⟨high,r.sublist (List.drop_sublist _ _)⟩,λu hu v hv=>by
  rcases P9.mp hv with e|e
  ·rw [e];exact low u hu
  ·exact A7 (low u hu) (high v e)⟩
structure Tab (L:N0)(n:G8)(t:T7):Prop where
 fits:t.fits n=true
 led:t.led=L
 dum:t.dummies= #[]
 rise:t.plain=true\/n<=1->t.place.toList.Pairwise (· < ·)
theorem PH {t:T7}{n:G8}(h:t.fits n=true):t.place.size=n:=by
 simp only [tV,S9,beq_iff_eq] at h;exact h.1
theorem PJ {t:T7}(h:t.slot j= .empty):t.place[S8 t.place j]? ≠some j:=λe=>by
 unfold iP at h;dsimp only at h;rw [R1 (by rw [e];exact K4 _)] at h;cases h
theorem YX {t:T7}(d:t.dummies= #[]):t.slot j≠ .dummy:=λh=>by
 unfold iP at h;dsimp only at h;split at h
 ·cases h
 ·rw [d] at h;have:lM #[] j=false:=by unfold lM;simp
  rw [this] at h;cases h
theorem VG (f:G8->P0 G8): ∀l:G0 G8,((l.filterMap λj=>(f j).map (j,·)).map (·.1)).Sublist l
 | []=> .slnil
 |j::l=>by
  rw [U6];cases e:(f j).map (j,·) with
  |none=>exact(VG f l).cons _
  |some q=>
   obtain⟨v,_,rfl⟩:=O1.mp e;exact(VG f l).cons₂ _
abbrev Wi (es:M1 (P2×G1))(ep:G8)(t:T7):Obj:= {cls:= .type "set",dict:=none,data:= .set es ep t,slots:= #[]}
abbrev Yx (w:T5):N0:= !(w.params.followText "set-order")
theorem Qo:isSubtype (.type "set") (.type "set")=pure true:=by rw [mS];kernel_rfl
theorem slot_si_next:Slot "set_iterator" "__next__" "set_iterator.__next__" :=
 .of (owner:= "set_iterator") (n:= "__next__") (by rw [cO,Y9];kernel_rfl) (by decide +kernel) (by decide +kernel) (by decide +kernel) (.inl (by kernel_rfl)) (by rw [mS];kernel_rfl)
theorem VH:xS table "set_iterator.__next__" =some Builtin.«set_iterator.__next__» :=entryFor_of_tree (by kernel_rfl)
theorem UX (a:G1):qE "set_iterator.__next__" ⟨[a],[]⟩:=by unfold qE;kernel_rfl
theorem Yy:xS table "set.__iter__" =some Builtin.«frozenset.__iter__» :=sK (id':= "frozenset.__iter__") (by kernel_rfl) rfl (by decide +kernel) (by kernel_rfl)
abbrev itO (first:G1)(i:G8)(a:G5)(n ep:G8):Obj:= {cls:= .type "set_iterator",data:= .fields #[first,F8 i,.ref a,F8 n,F8 ep]}
inductive Mode (w:T5)(a:G5)(es:M1 (P2×G1))(ep:G8)(t:T7):G0 G1->(G1->G8->M4->Prop)->G5->Prop
 |text (b:w.params.followText "set-order" =true):Mode w a es ep t ((pickOrder (w.params.setOrder a ep) es).toList.map (·.2)) (λf _ _=>f=F8 0) a
 |drawn (b:w.params.followText "set-order" =false) (d:t.plain=false) (two:1<es.size) (ord:G0 G8) (p:ord.Perm (P7 es.size)) (tp:G5):
  Mode w a es ep t (ord.map λj=>(es.getD j (0,.none)).2) (λf _ h=>f= .ref tp/\h.IsTuple tp (ord.map λj=>F8 (j:G8)).toArray) tp
 |table (b:w.params.followText "set-order" =false) (d:t.plain=true\/es.size<=1):Mode w a es ep t (es.toList.map (·.2)) (λf i _=> ∃slot:G8,f=F8 slot/\S8 t.place slot=i) a
section
variable {prog:D5}{w:T5}{A:R6}{E:G1->G2->Prop}{s:G2}{a I tp:G5}{es:M1 (P2×G1)}{ep n i:G8}{t:T7}{ns:G0 P2}{first:G1}
theorem Md {Q:G1->G2->Prop}(S:Tab (Yx w) es.size t)(b:w.params.followText "set-order" =true)(ha:s.heap.get? a=some (Wi es ep t))(hI:s.heap.get? I=some (itO (F8 0) i a es.size ep))(aI:a≠I)
 {x:G1}(hx:((pickOrder (w.params.setOrder a ep) es).toList.map (·.2))[i]? =some x)(q: ∀h',h'.get? I=some (itO (F8 0) (i+1) a es.size ep)->A5 I s.heap h'->Q x {s with heap:=h'}):
 D1 (D3 prog w) A (Builtin.«set_iterator.__next__» ⟨[.ref I],[]⟩) (λfin s'=> ∃v,fin= .done (.ret v)/\Q v s') E s:=by
 have told: ∀ {Q:rL->G2->Prop} {E':G1->G2->Prop} {A':R6} {s':G2},Q ⟨prog,w.params⟩ s'->D1 (D3 prog w) A' ask Q E' s':=λq=>X9 q
 have state:=λ{P:M1 (P2×G1)×G8×T7->G2->Prop} {E':G1->G2->Prop} {A':R6}=>A4 (prog:=prog) (w:=w) (A:=A') (E:=E') (Q:=P) (s:=s) ha rfl S.fits
 obtain⟨hp,g,d,tk,os⟩:=s;rw [D6] at hx;obtain⟨⟨k,x'⟩,hx1,rfl⟩:=O1.mp hx;have hx':(pickOrder (w.params.setOrder a ep) es)[((i:G8):P2).toNat]? =some (k,x'):=by rw [aB,<-B9];exact hx1
 have z1:=B1 (eT λv=>v.setIfInBounds 0 (F8 ((fW 0:G8):P2))) hI rfl;have z2:=B1 (eT λv=>v.setIfInBounds 1 (F8 ((i:P2)+1))) z1 rfl;have fin:=q _ z2 ((O8 ..).trans (O8 ..))
 wp_walk using state,told
 rw [hx']
 wp_walk
 exact⟨_,rfl,fin⟩
theorem PK {Q:G1->G2->Prop}{ord:G0 G8}(S:Tab (Yx w) es.size t)(ha:s.heap.get? a=some (Wi es ep t))(hI:s.heap.get? I=some (itO (.ref tp) i a es.size ep))(aI:a≠I)(ht:s.heap.IsTuple tp (ord.map λj=>F8 (j:G8)).toArray)(p:ord.Perm (P7 es.size))
 {x:G1}(hx:(ord.map λj=>(es.getD j (0,.none)).2)[i]? =some x)(q: ∀h',h'.get? I=some (itO (.ref tp) (i+1) a es.size ep)->A5 I s.heap h'->Q x {s with heap:=h'}):
 D1 (D3 prog w) A (Builtin.«set_iterator.__next__» ⟨[.ref I],[]⟩) (λfin s'=> ∃v,fin= .done (.ret v)/\Q v s') E s:=by
 have state:=λ{P:M1 (P2×G1)×G8×T7->G2->Prop} {E':G1->G2->Prop} {A':R6}=>A4 (prog:=prog) (w:=w) (A:=A') (E:=E') (Q:=P) (s:=s) ha rfl S.fits
 obtain⟨⟨oc,od,odt,osl⟩,hol,hc,c,hd⟩:=ht;simp only at hc hd;subst hc hd;obtain⟨hp,g,d,tk,os⟩:=s;rw [D6] at hx;obtain⟨j,hj,rfl⟩:=O1.mp hx;have jlt:j<es.size:=S5.mp (p.mem_iff.mp (M3 hj));have hj':((ord.map λj=>F8 (j:G8)).toArray)[((i:G8):P2).toNat]? =some (F8 (j:G8)):=by simp [hj]
 have ej:es[((j:G8):P2).toNat]? =some (es.getD j (0,.none)):=by simp [jlt,sJ]
 have z1:=B1 (eT λv=>v.setIfInBounds 1 (F8 ((i:P2)+1))) hI rfl;have fin:=q _ z1 (O8 ..)
 wp_walk using state
 rw [hj'];show D1 _ _ (setNextDrawn a ((j:G8):P2).toNat ((ep:G8):P2).toNat >>= _) _ _ _
 wp_walk using state
 rw [ej]
 wp_walk
 exact⟨_,rfl,fin⟩
theorem PL {Q:G1->G2->Prop}{slot:G8}(S:Tab (Yx w) es.size t)(b:w.params.followText "set-order" =false)(pl:t.plain=true\/es.size<=1)(ha:s.heap.get? a=some (Wi es ep t))(hI:s.heap.get? I=some (itO (F8 slot) i a es.size ep))(aI:a≠I)(hs:S8 t.place slot=i)
 {x:G1}(hx:(es.toList.map (·.2))[i]? =some x)(q: ∀h' (slot':G8),S8 t.place slot'=i+1->h'.get? I=some (itO (F8 slot') (i+1) a es.size ep)->A5 I s.heap h'->Q x {s with heap:=h'}):
 D1 (D3 prog w) A (Builtin.«set_iterator.__next__» ⟨[.ref I],[]⟩) (λfin s'=> ∃v,fin= .done (.ret v)/\Q v s') E s:=by
 have told: ∀ {Q:rL->G2->Prop} {E':G1->G2->Prop} {A':R6} {s':G2},Q ⟨prog,w.params⟩ s'->D1 (D3 prog w) A' ask Q E' s':=λq=>X9 q
 have state:=λ{P:M1 (P2×G1)×G8×T7->G2->Prop} {E':G1->G2->Prop} {A':R6}=>A4 (prog:=prog) (w:=w) (A:=A') (E:=E') (Q:=P) (s:=s) ha rfl S.fits
 have led:t.led=true:=by rw [S.led];show (!(w.params.followText "set-order"))=true;rw [b];rfl
 have nd:(!t.plain&&decide (es.size>1))=false:=by
  rcases pl with z|z
  ·rw [z];rfl
  ·rw [T3 (by omega),dN]
 obtain⟨hp,g,d,tk,os⟩:=s;rw [D6] at hx;obtain⟨⟨k,x'⟩,hx1,rfl⟩:=O1.mp hx;have lt:i<es.size:=by have:=(R0.mp hx1).1;simpa using this
 have ps:=PH S.fits;have ltp:i<t.place.size:=by omega
 have ex:es[i]? =some (k,x'):=by rw [<-B9];exact hx1
 have ep':t.place[i]? =some t.place[i]:=by simp [ltp]
 have rise:=S.rise pl;have next:S8 t.place (t.place[i]+1)=i+1:=by
  obtain⟨b1,b2,b3⟩:=Jz rise (t.place[i]+1);have mono:=λ(u v:G8) (hu:u<t.place.size) (hv:v<t.place.size) (uv:u<v)=>K5.mp rise u v (by simpa using hu) (by simpa using hv) uv
  simp only [bP] at mono;rcases bF (S8 t.place (t.place[i]+1)) (i+1) with z|z|z
  ·have:=b2 i (by omega) _ ep';omega
  ·exact z
  ·have h1:i+1<t.place.size:=by omega
   have:=b1 (i+1) z _ (by simp [h1]:t.place[i+1]? =some t.place[i+1]);have:=mono i (i+1) ltp h1 (by omega);omega
 have z1:=B1 (eT λv=>v.setIfInBounds 0 (F8 ((t.place[i]+1:G8):P2))) hI rfl;have z2:=B1 (eT λv=>v.setIfInBounds 1 (F8 ((i:P2)+1))) z1 rfl;have fin:=q _ _ next z2 ((O8 ..).trans (O8 ..))
 wp_walk using state,told
 split
 ·rename_i z;have z':(!t.plain&&decide (es.size>1))=true:=z;rw [nd] at z';cases z'
 wp_walk
 rw [show ((slot:G8):P2).toNat=slot from aB _,hs,ex,ep']
 wp_walk
 exact⟨_,rfl,fin⟩
theorem PM {vals:G0 G1}{md:G1->G8->M4->Prop}{Q:cY->G2->Prop}(calm:A.handled=none)(S:Tab (Yx w) es.size t)(M:Mode w a es ep t vals md tp)(ha:s.heap.get? a=some (Wi es ep t))(hI:s.heap.get? I=some (itO first i a es.size ep))(aI:a≠I)(hm:md first i s.heap)(hx:vals[i]? =none)
 (q: ∀h' e,(∀b o,b≠I->s.heap.get? b=some o->h'.get? b=some o)->(∃o,h'.get? e=some o/\o.cls= .type "StopIteration")->E (.ref e) {s with heap:=h'}):
 D1 (D3 prog w) A (Builtin.«set_iterator.__next__» ⟨[.ref I],[]⟩) Q E s:=by
 have told: ∀ {Q:rL->G2->Prop} {E':G1->G2->Prop} {A':R6} {s':G2},Q ⟨prog,w.params⟩ s'->D1 (D3 prog w) A' ask Q E' s':=λq=>X9 q
 have state:=λ{P:M1 (P2×G1)×G8×T7->G2->Prop} {E':G1->G2->Prop} {A':R6}=>A4 (prog:=prog) (w:=w) (A:=A') (E:=E') (Q:=P) (s:=s) ha rfl S.fits
 have stop:=λ{h1:M4} {Q':cY->G2->Prop} (same:A5 I s.heap h1)=>L2.Qi (prog:=prog) (w:=w) (A:=A) (E:=E) (s:= {s with heap:=h1}) (Q:=Q') calm λh' e grown st=>q h' e (λb o nb x=>grown b o (same.extBut b o nb x)) st
 obtain⟨hp,g,d,tk,os⟩:=s;have put: ∀ {P:Unit->G2->Prop} {E':G1->G2->Prop} {k:G8} {v:G1} {h1:M4},k<5->A5 I hp h1->(∃fs:M1 G1,fs.size=5/\h1.get? I=some {cls:= .type "set_iterator",data:= .fields fs})->(∀h',A5 I hp h'->(∃fs:M1 G1,fs.size=5/\h'.get? I=some {cls:= .type "set_iterator",data:= .fields fs})->P () ⟨h',g,d,tk,os⟩)->D1 (D3 prog w) A (gL (.ref I) k v) P E' ⟨h1,g,d,tk,os⟩:=λhk same ⟨fs,hfs,e⟩ q'=>wpAny_setField_rec (s:=⟨_,g,d,tk,os⟩) e (by omega) λh' z' same'=>q' h' (same.trans same') ⟨_,by simpa using hfs,z'⟩
 cases M with
 |text b=>
  subst hm;have e:(pickOrder (w.params.setOrder a ep) es)[((i:G8):P2).toNat]? =none:=by
   rw [D6] at hx;rw [aB,<-B9];exact dO.mp hx
  wp_walk using state,told
  rw [e];show D1 _ _ (gL (.ref I) 2 .none >>= _) _ _ _;exact wpAny_bind (put (by decide) (bE _ _) ⟨_,rfl,hI⟩ λh' same _=>stop same)
 |drawn b dp two ord p tp=>
  obtain⟨rfl,⟨oc,od,odt,osl⟩,hol,hc,c,hd⟩:=hm;simp only at hc hd;subst hc hd;have e:((ord.map λj=>F8 (j:G8)).toArray)[((i:G8):P2).toNat]? =none:=by
   rw [D6] at hx;simp [dO.mp hx]
  wp_walk using state
  rw [e];show D1 _ _ (gL (.ref I) 0 (F8 0) >>= λ_=>gL (.ref I) 2 .none >>= _) _ _ _;exact wpAny_bind (put (by decide) (bE _ _) ⟨_,rfl,hI⟩ λh1 same1 there1=>wpAny_bind (put (by decide) same1 there1 λh' same _=>stop same))
 |table b pl=>
  obtain⟨slot,rfl,hs⟩:=hm;have led:t.led=true:=by rw [S.led];show (!(w.params.followText "set-order"))=true;rw [b];rfl
  have nd:(!t.plain&&decide (es.size>1))=false:=by
   rcases pl with z|z
   ·rw [z];rfl
   ·rw [T3 (by omega),dN]
  have e:es[i]? =none:=by
   rw [D6] at hx;rw [<-B9];exact dO.mp hx
  wp_walk using state,told
  split
  ·rename_i z;have z':(!t.plain&&decide (es.size>1))=true:=z;rw [nd] at z';cases z'
  wp_walk
  rw [show ((slot:G8):P2).toNat=slot from aB _,hs,e];show D1 _ _ (gL (.ref I) 2 .none >>= _) _ _ _;exact wpAny_bind (put (by decide) (bE _ _) ⟨_,rfl,hI⟩ λh' same _=>stop same)
end
theorem VI:xS table "set_iterator.__iter__" =some Builtin.«dict_keyiterator.__iter__» :=sK (id':= "dict_keyiterator.__iter__") (by kernel_rfl) (by first|rfl|decide +kernel|(unfold String.splitOn;simp +decide [String.splitOnAux])) (by decide +kernel) (by kernel_rfl)
theorem JB:Slot "set_iterator" "__iter__" "set_iterator.__iter__" := .of (owner:= "set_iterator") (n:= "__iter__") (by rw [cO,Y9];kernel_rfl) (by decide +kernel) (by decide +kernel) (by decide +kernel) (.inl (by kernel_rfl)) (by rw [mS];kernel_rfl)
theorem UY (a:G1):qE "set_iterator.__iter__" ⟨[a],[]⟩:=by unfold qE;kernel_rfl
section
variable {prog:D5}{w:T5}{A:R6}{E:G1->G2->Prop}{s:G2}{a I tp:G5}{es:M1 (P2×G1)}{ep n i:G8}{t:T7}{ns:G0 P2}{first:G1}{vals:G0 G1}{md:G1->G8->M4->Prop}
theorem Mode.keep {f:G1}{h h':M4}(M:Mode w a es ep t vals md tp)(m:md f i h)(k: ∀o,h.get? tp=some o->h'.get? tp=some o):md f i h':=by
 cases M with
 |text b=>exact m
 |drawn b dp two ord p tp=>exact⟨m.1,m.2.at λo e=>k o e⟩
 |table b pl=>exact m
theorem Me {Q:P0 G1->G2->Prop}(ty:s.TypeIs (.ref I) "set_iterator")
 (h:D1 (D3 prog w) A.in1 (Builtin.«set_iterator.__next__» ⟨[.ref I],[]⟩) (λfin s'=> ∃v,fin= .done (.ret v)/\Q (some v) s') (λe s'=>s'.TypeIs e "StopIteration" /\Q none s') s):D1 (D3 prog w) A (rR (.ref I)) Q E s:=
 wpAny_bind (nQ (aG (name:= "__next__") ty slot_si_next (R7 (F4 slot_si_next ty VH h (UX _)) (λ_ _ q=>G7 q) λe s' q=>wpAny_bind (i7 (b:=true) q.1 isSubtype_stop (G7 q.2)))))
theorem Mf (calm:A.handled=none)(S:Tab (Yx w) es.size t)(M:Mode w a es ep t vals md tp)(aI:a≠I)(tI:tp≠I):
 Walks prog w A I [I,a,tp] [I] vals.length (λi v=>vals[i]? =some v) (λi h=>h.get? a=some (Wi es ep t)/\ ∃first,h.get? I=some (itO first i a es.size ep)/\md first i h) where
 sub:=λb hb=>by simp only [P4] at hb;simp [hb]
 frame:=λi h h' ⟨ha,f,hI,m⟩ k=>⟨k a (by simp) _ ha,f,k I (by simp) _ hI,M.keep m λo e=>k tp (by simp) o e⟩
 item:=λi s Q E hi ⟨ha,f,hI,m⟩ q=>by
  have hx:vals[i]? =some vals[i]:=by simp [hi]
  refine Me ⟨_,hI,rfl⟩ ?_;have fin: ∀ {f':G1} h',md f' (i+1) s.heap->h'.get? I=some (itO f' (i+1) a es.size ep)->A5 I s.heap h'->Q (some vals[i]) {s with heap:=h'}:=λh' m' e same=>
   q vals[i] h' s.toks hx ⟨same.extBut _ _ aI ha,_,e,M.keep m' λo x=>same.extBut _ _ tI x⟩ λb o nb x=>same.extBut _ _ (by simpa using nb) x
  cases M with
  |text b=>
   subst m;exact Md S b ha hI aI hx λh' e same=>fin h' rfl e same
  |drawn b dp two ord p tp=>
   obtain⟨rfl,ht⟩:=m;exact PK S ha hI aI ht p hx λh' e same=>fin h' ⟨rfl,ht⟩ e same
  |table b pl=>
   obtain⟨slot,rfl,hs⟩:=m;exact PL S b pl ha hI aI hs hx λh' slot' hs' e same=>fin h' ⟨slot',rfl,hs'⟩ e same
 done:=λs Q E ⟨ha,f,hI,m⟩ q=>by
  refine Me ⟨_,hI,rfl⟩ (PM calm S M ha hI aI m (by simp) λh' e kept ⟨o,ho,hc⟩=>⟨⟨o,ho,hc⟩,q h' s.toks λb ob nb x=>kept b ob (by simpa using nb) x⟩)
 self:=λi s Q E ⟨ha,f,hI,m⟩ q=>pF ⟨_,hI,rfl⟩ JB (F4 JB ⟨_,hI,rfl⟩ VI (G7 ⟨_,rfl,_,_,⟨_,hI,rfl⟩,slot_si_next.lookup,q⟩) (UY _))
end
theorem Zu {α:Type}: ∀ (l:G0 α) (i:G8) {x:α},l[i]? =some x->(x::l.eraseIdx i).Perm l
 | [],i,x,h=>by cases h
 |y::l,0,x,h=>by cases h;exact .refl _
 |y::l,i+1,x,h=>(List.Perm.swap y x _).trans ((Zu l i h).cons y)
theorem Mg {α:Type}(next:G8->G8): ∀ (fuel k:G8) (left:G0 α) (out:M1 α),left.length=fuel->(pickOrder.go next fuel k left out).toList.Perm (out.toList++left)
 |0,k,left,out,h=>by
  rw [fE h,V0];exact .refl _
 |fuel+1,k,left,out,h=>by
  unfold pickOrder.go;have lt:next k%left.length<left.length:=Y7 _ (by omega);have hx:left[next k%left.length]? =some left[next k%left.length]:=by simp [lt]
  rw [hx];refine(Mg next fuel (k+1) _ _ (by rw [gV lt];omega)).trans ?_;rw [iI,W3];exact(Zu left _ hx).append_left _
theorem Mh {α:Type}(next:G8->G8)(xs:M1 α):(pickOrder next xs).toList.Perm xs.toList:=by
 have:=Mg next xs.size 0 xs.toList #[] (by simp);rw [Array.toList_empty,F0] at this;exact this
section
variable {prog:D5}{w:T5}{A:R6}{E:G1->G2->Prop}{s:G2}{a I tp:G5}{es:M1 (P2×G1)}{ep n i:G8}{t:T7}{ns:G0 P2}{first:G1}{vals:G0 G1}{md:G1->G8->M4->Prop}
theorem Mode.perm (M:Mode w a es ep t vals md tp):vals.Perm (es.toList.map (·.2)):=by
 cases M with
 |text b=>exact(Mh _ es).map _
 |drawn b dp two ord p tp=>
  refine(p.map _).trans ?_;have:(P7 es.size).map (λj=>(es.getD j (0,.none)).2)=es.toList.map (·.2):=by
   refine pG λj=> ?_
   rw [D6,D6]
   by_cases hj:j<es.size
   ·rw [X0 hj];simp [hj,sJ]
   ·rw [E6 (by simpa using hj),E6 (by simpa using hj)];rfl
  rw [this]
 |table b pl=>exact .refl _
theorem Gr {α:Type}{Q:G0 α->G2->Prop}: ∀ (n:G8) (xs:G0 α) (s:G2),xs.length=n->(∀ys d,ys.Perm xs->Q ys {s with drawn:=d})->D1 (D3 prog w) A (drawOrder n xs) Q E s
 |0,xs,s,h,q=>by
  rw [fE h] at q;exact G7 (q [] s.drawn (.refl _))
 |n+1,[],s,h,q=>by cases h
 |n+1,x::r,s,h,q=>by
  have pickd: ∀ {P:G8->G2->Prop} {E':G1->G2->Prop},(∀i d,i<(x::r).length->P i {s with drawn:=d})->D1 (D3 prog w) A (choose .order (x::r).length) P E' s:=λp _ _ _=>⟨by simp,p _ _ (Y7 _ (by simp))⟩
  refine wpAny_bind (pickd λi d hi=> ?_);have hx:(x::r)[i]? =some (x::r)[i]:=by rw [P8 hi]
  rw [hx];refine wpAny_bind (Gr n _ {s with drawn:=d} (by rw [gV hi];simp at h ⊢;omega) λys d' p=>G7 (q _ d' ?_));exact(p.cons _).trans (Zu _ _ hx)
theorem Bv {Q:G1->G2->Prop}(S:Tab (Yx w) es.size t)(ha:s.heap.get? a=some (Wi es ep t))(few:es.size<1000)
 (k: ∀h' d I tp vals md first,Mode w a es ep t vals md tp->(∀b o,s.heap.get? b=some o->h'.get? b=some o)->s.heap.objs.size<=I->tp≠I->(tp=a\/s.heap.objs.size<=tp)->tp<h'.objs.size->h'.get? I=some (itO first 0 a es.size ep)->md first 0 h'->Q (.ref I) {s with heap:=h',drawn:=d}):
 D1 (D3 prog w) A (pS (.ref a)) Q E s:=by
 have ty:s.TypeIs (.ref a) "set" :=⟨_,ha,rfl⟩;have told: ∀ {Q:rL->G2->Prop} {E':G1->G2->Prop} {A':R6} {s':G2},Q ⟨prog,w.params⟩ s'->D1 (D3 prog w) A' ask Q E' s':=λq=>X9 q
 have state:=λ{P:M1 (P2×G1)×G8×T7->G2->Prop} {E':G1->G2->Prop} {A':R6} {s':G2} (e:s'.heap.get? a=some (Wi es ep t))=>A4 (prog:=prog) (w:=w) (A:=A') (E:=E') (Q:=P) (s:=s') e rfl S.fits
 refine pF ty rD (F4 rD ty Yy ?_ (F.args_set_iter_1 _));have state0:=λ{P:M1 (P2×G1)×G8×T7->G2->Prop} {E':G1->G2->Prop} {A':R6}=>state (P:=P) (E':=E') (A':=A') (s':=s) ha
 cases b:w.params.followText "set-order" with
 |true=>
  wp_walk using state0,told
  have at_:(s.heap.push (itO (F8 0) 0 a es.size ep)).get? s.heap.objs.size=some (itO (F8 0) 0 a es.size ep):=S4 _ rfl;have nI:a≠s.heap.objs.size:=λz=>N8 _ (z ▸ D0 ha)
  refine⟨_,rfl,"set_iterator",_,⟨_,at_,rfl⟩,slot_si_next.lookup,?_⟩;exact k _ s.drawn s.heap.objs.size a _ _ (F8 0) (.text b) (λb o e=>G4 _ e) (P1 _) nI (.inl rfl) (D0 (G4 _ ha)) at_ rfl
 |false=>
  cases dd:(!t.plain&&decide (es.size>1)) with
  |false=>
   have pl:t.plain=true\/es.size<=1:=by
    cases hp:t.plain with
    |true=>exact .inl rfl
    |false=>rw [hp] at dd;have:=gX (show decide (es.size>1)=false from dd);exact .inr (by omega)
   have at_:(s.heap.push (itO (F8 0) 0 a es.size ep)).get? s.heap.objs.size=some (itO (F8 0) 0 a es.size ep):=S4 _ rfl;have nI:a≠s.heap.objs.size:=λz=>N8 _ (z ▸ D0 ha)
   have zero:S8 t.place 0=0:=by
    obtain⟨b1,_,b3⟩:=Jz (S.rise pl) 0;rcases oJ (S8 t.place 0) with z|z
    ·exact z
    ·have h0:0<t.place.size:=by omega
     exact absurd (b1 0 z _ (by simp [h0]:t.place[0]? =some t.place[0])) (W9 _)
   have fin:=k _ s.drawn s.heap.objs.size a _ _ (F8 0) (.table b pl) (λb o e=>G4 _ e) (P1 _) nI (.inl rfl) (D0 (G4 _ ha)) at_ ⟨0,rfl,zero⟩
   wp_walk using state0,told
   split
   ·rename_i z;have z':(!w.params.followText "set-order" &&(!t.plain&&decide (es.size>1)))=true:=z;rw [b,dd] at z';cases z'
   wp_walk using state0
   exact⟨_,rfl,"set_iterator",_,⟨_,at_,rfl⟩,slot_si_next.lookup,fin⟩
  |true=>
   have pf:t.plain=false/\1<es.size:=by
    rw [S9] at dd;exact⟨by simpa using dd.1,U2 dd.2⟩
   wp_walk using state0,told
   split
   rotate_left
   ·rename_i z;exact(z (show (!w.params.followText "set-order" &&(!t.plain&&decide (es.size>1)))=true by rw [b,dd];rfl)).elim
   refine wpAny_bind (Gr es.size (P7 es.size) s (by simp) λord d p=> ?_);have len:ord.length=es.size:=by rw [p.length_eq];simp
   have t0:(s.heap.push {cls:= .type "tuple",data:= .seq (ord.map λ(i:G8)=>F8 i).toArray}).get? s.heap.objs.size=some {cls:= .type "tuple",data:= .seq (ord.map λ(i:G8)=>F8 i).toArray}:=S4 _ rfl;refine wpAny_bind (mT ?_ (by rw [G9,len];exact T9 (M5 few) (by decide)));have ha1:(s.heap.push {cls:= .type "tuple",data:= .seq (ord.map λ(i:G8)=>F8 i).toArray}).get? a=some (Wi es ep t):=G4 _ ha;have state1:=λ{P:M1 (P2×G1)×G8×T7->G2->Prop} {E':G1->G2->Prop} {A':R6}=>state (P:=P) (E':=E') (A':=A') (s':= {s with heap:=s.heap.push {cls:= .type "tuple",data:= .seq (ord.map λ(i:G8)=>F8 i).toArray},drawn:=d}) ha1
   wp_walk using state1
   have at_:=S4 (s.heap.push {cls:= .type "tuple",data:= .seq (ord.map λ(i:G8)=>F8 i).toArray}) (o:=itO (.ref s.heap.objs.size) 0 a es.size ep) rfl;have lt1:s.heap.objs.size<(s.heap.push {cls:= .type "tuple",data:= .seq (ord.map λ(i:G8)=>F8 i).toArray}).objs.size:=D0 t0;refine⟨_,rfl,"set_iterator",_,⟨_,at_,rfl⟩,slot_si_next.lookup,?_⟩;exact k _ d _ s.heap.objs.size _ _ (.ref s.heap.objs.size) (.drawn b pf.1 pf.2 ord p s.heap.objs.size) (λb o e=>G4 _ (G4 _ e)) (M5 lt1) (R5 lt1) (.inr (P1 _)) (D0 (G4 _ t0)) at_ ⟨rfl,⟨_,G4 _ t0,rfl,0,rfl⟩⟩
end
section
variable {prog:D5}{w:T5}{A:R6}{E:G1->G2->Prop}{s:G2}{a:G5}{es:M1 (P2×G1)}{ep:G8}{t:T7}{ns:G0 P2}
theorem Bw {Q:N0->G2->Prop}(ty:s.TypeIs (.ref a) "set")(q:Q false s):D1 (D3 prog w) A (fU (.ref a)) Q E s:=by
 have parts:IQ "set.__len__" =some ("set","__len__"):=by decide +kernel
 have f2:=Qo;unfold fU;refine wpAny_bind (aW ty F.slot_set_len.lookup ?_);dsimp only;rw [parts];dsimp only
 wp_walk
 exact q
def Sh (s:G2)(es:M1 (P2×G1))(r:j9)(s':G2):Prop:=
 ∃h' d tk acc c,r= .ok (.ret (.ref s.heap.objs.size))/\s'= {s with heap:=h',drawn:=d,toks:=tk}/\h'.get? s.heap.objs.size=some {cls:= .type "list",dict:=none,data:= .seq acc c,slots:= #[]}/\(∀b o,s.heap.get? b=some o->h'.get? b=some o)/\acc.toList.Perm (es.toList.map (·.2))
theorem PN (calm:A.handled=none)(S:Tab (Yx w) es.size t)(ha:s.heap.get? a=some (Wi es ep t))(few:es.size<1000):
 E8 (D3 prog w) A (.builtin "proto.collect" ⟨[.ref a],[]⟩) (Sh s es) s:=by
 have nS:s.heap.objs.size≠a:=λz=>N8 _ (z ▸ D0 ha)
 have old: ∀ {b o o'},s.heap.get? b=some o->(s.heap.push o').get? b=some o:=λe=>G4 _ e
 refine W8 F.entry_proto_collect ?_
 wp_walk
 refine⟨aD pH _,W8 F.entry_list_iadd ?_⟩;rw [W0 pH];have ha1:(s.heap.push {cls:= .type "list",data:= .seq #[]}).get? a=some (Wi es ep t):=old ha;have hS:(s.heap.push {cls:= .type "list",data:= .seq #[]}).get? s.heap.objs.size=some {cls:= .type "list",data:= .seq #[]}:=S4 _ rfl;have ty:Shared.TypeIs {s with heap:=s.heap.push {cls:= .type "list",data:= .seq #[]}} (.ref a) "set" :=⟨_,ha1,rfl⟩;have other:iQ (.ref s.heap.objs.size) (.ref a)=false:=by simp [iQ,nS]
 have iter:=λ{P:G1->G2->Prop} {E':G1->G2->Prop} {A':R6}=>Bv (prog:=prog) (w:=w) (A:=A') (E:=E') (Q:=P) (s:= {s with heap:=s.heap.push {cls:= .type "list",data:= .seq #[]}}) S ha1 (by omega)
 show D1 _ A.in1 (rM (.ref s.heap.objs.size) (.ref a) (.ref s.heap.objs.size)) _ _ _
 wp_walk using iter
 intro h1 d I tp vals md first M kept lo tI tpo tpl hI hm
 have ha2:h1.get? a=some (Wi es ep t):=kept _ _ ha1;have hS2:h1.get? s.heap.objs.size=some {cls:= .type "list",data:= .seq #[]}:=kept _ _ hS;have ty2:Shared.TypeIs {s with heap:=h1,drawn:=d} (.ref a) "set" :=⟨_,ha2,rfl⟩;refine wpAny_bind (B5 (Bw ty2 ?_))
 wp_walk
 have lt:a<s.heap.objs.size:=D0 ha;have e1:(s.heap.push {cls:= .type "list",data:= .seq #[]}).objs.size=s.heap.objs.size+1:=aH ..;have lo':s.heap.objs.size+1<=I:=by rw [<-e1];exact lo
 have aI:a≠I:=λz=>by subst z;exact absurd lt (U0.mpr (pI lo'))
 have SI:s.heap.objs.size≠I:=R5 lo';have Stp:s.heap.objs.size≠tp:=by
  rcases tpo with z|z
  ·rw [z];exact nS
  ·exact R5 (S0 (by rw [e1];exact A0 _) z)
 have hS3:=B1 (E5 λx=>x.push bI) hS2 rfl;have hS4:=B1 (E5 λx=>x.pop) hS3 rfl;have same:A5 s.heap.objs.size h1 ((h1.update s.heap.objs.size (E5 λx=>x.push bI)).update s.heap.objs.size (E5 λx=>x.pop)):=(O8 ..).trans (O8 ..);have W:=Mf (prog:=prog) (A:=A.in1) calm S M aI tI;refine⟨aD F.plain_extend_loop _,codeAny_extend_loopS W.toS ?_ s.heap.objs.size (by simp [SI,nS,Stp]) _ vals.length 0 _ #[] _ rfl (L0 _) ⟨same.extBut _ _ nS.symm ha2,first,same.extBut _ _ SI.symm hI,M.keep hm λo e=>same.extBut _ _ Stp.symm e⟩ hS4 (ItemsOf.nil _) λs' acc c' moved hS' items=> ?_⟩
 ·rw [M.perm.length_eq,G9,D2];exact T9 (M5 few) (by decide)
 have same_vals:acc.toList=vals:=by
  refine pG λi=> ?_
  rw [B9];cases e:acc[i]? with
  |some v=>exact(items.2 i v e).symm
  |none=>
   have:vals.length<=i:=by rw [<-items.1];exact bR.mp e
   exact(E6 this).symm
 obtain⟨h',g',d',tk',os'⟩:=s';have mg:g'=s.gens:=moved.gens;have md':d'=d:=moved.drawn;have mo:os'=s.os:=moved.os;subst mg md' mo;refine⟨h',d',tk',acc,c',rfl,rfl,hS',λb o e=> ?_,by rw [same_vals];exact M.perm⟩;have lb:=D0 e;have nb:b≠s.heap.objs.size:=R5 lb;have nbI:b≠I:=λz=>by subst z;exact absurd lb (U0.mpr (pI lo'))
 exact moved.heap b o (by simp [nb,nbI]) (same.extBut _ _ nb (kept _ _ (old e)))
end
end HT
namespace L2
open PySem PySem.Spec PyProof.Rows PySem.SeqAt
theorem Inv.drew {X:Cx}{pins:G0 (G5×Obj)}{σ:St}{H:Hp}{s:G2}(I:Inv X pins σ H s)(d:Drawn):Inv X pins σ H {s with drawn:=d}:=⟨I.ok,I.os,I.bare,I.base,I.loc,I.cell,I.free,I.freeC,I.pin,I.hok,I.len⟩
end L2
namespace L2
theorem IsS.ext {n:G8}{S S':G0 G8}(h:IsS n S)(h':IsS n S')(m: ∀j,j∈S↔j∈S'):S=S':=by
 obtain⟨p,rfl⟩:=h;obtain⟨q,rfl⟩:=h';refine List.filter_congr λj hj=> ?_
 have:=m j;rw [E1,E1] at this;have e:p j=true↔q j=true:=⟨λz=>(this.mp ⟨hj,z⟩).2,λz=>(this.mpr ⟨hj,z⟩).2⟩;cases hp:p j<;>cases hq:q j<;>simp_all
theorem Gs: ∀ (L:G0 G8) (g d:G8),d∣L.foldl rN g↔d∣g/\ ∀l∈L,d∣l
 | [],g,d=>by simp
 |x::L,g,d=>by
  show d∣L.foldl rN (rN g x)↔_;rw [Gs L,Nat.dvd_gcd_iff];simp only [P9,forall_eq_or_imp];exact⟨λ⟨⟨a,b⟩,c⟩=>⟨a,b,c⟩,λ⟨a,b,c⟩=>⟨⟨a,b⟩,c⟩⟩
end L2
namespace HT
open PySem PyProof.Rows
section
variable {prog:D5}{w:T5}{A:R6}{E:G1->G2->Prop}{s:G2}{κ:SortKind}{U:Keyed->Prop}{R:Keyed->Keyed->N0}
def CF (s:G2)(a:G5)(h':M4):Prop:= ∀b o,b≠a->s.heap.get? b=some o->h'.get? b=some o
theorem Gt {M:cC}{α β:Type}{c:Prop}[Decidable c]{m m':Sem α}{F:α->Sem β}{Q:β->G2->Prop}(h:D1 M A ((if c then m else m') >>= F) Q E s):D1 M A (if c then m >>= F else m' >>= F) Q E s:=by
 by_cases z:c
 ·rw [R1 z] at h ⊢;exact h
 ·rw [R3 z] at h ⊢;exact h
abbrev UZ (h h':M4):Prop:= ∀b o,h.get? b=some o->h'.get? b=some o
end
theorem Zv: ∀a b:G0 P2,zZ a b=true->zZ b a=false
 | [],[],h=>rfl
 | [],_::_,_=>rfl
 |_::_,[],h=>by cases h
 |x::xs,y::ys,h=>by
  unfold zZ at h ⊢
  by_cases e:x=y
  ·subst e;rw [R1 rfl] at h ⊢;exact Zv xs ys h
  ·rw [R3 e] at h;rw [R3 (O0 e)];have:=U2 h;exact T3 (by omega)
theorem Xa: ∀a b c:G0 P2,zZ a c=true->zZ a b=true\/zZ b c=true
 | [],[],c,h=> .inr h
 | [],_::_,_,_=> .inl rfl
 |_::_,_,[],h=>by cases h
 |x::xs,[],z::zs,h=> .inr rfl
 |x::xs,y::ys,z::zs,h=>by
  unfold zZ at h ⊢
  by_cases e:x=z
  ·subst e;rw [R1 rfl] at h
   by_cases f:x=y
   ·subst f;rw [R1 rfl,R1 rfl];exact Xa xs ys zs h
   ·rw [R3 f,R3 (O0 f)]
    by_cases g:x<y
    ·exact .inl (S1 g)
    ·exact .inr (S1 (by omega))
  ·rw [R3 e] at h;have lt:=U2 h
   by_cases f:x=y
   ·subst f;rw [R3 e];exact .inr h
   ·rw [R3 f]
    by_cases g:x<y
    ·exact .inl (S1 g)
    ·refine .inr ?_;rw [R3 (by omega)];exact S1 (by omega)
theorem WM: ∀a b:G0 P2,zZ a b=false->zZ b a=false->a=b
 | [],[],_,_=>rfl
 | [],_::_,h,_=>by cases h
 |_::_,[],_,h=>by cases h
 |x::xs,y::ys,h,h'=>by
  unfold zZ at h h'
  by_cases e:x=y
  ·subst e;rw [R1 rfl] at h h';rw [WM xs ys h h']
  ·rw [R3 e] at h;rw [R3 (O0 e)] at h';have:=gX h;have:=gX h';omega
end HT
namespace L2
open PySem PySem.Spec PyProof.Rows PySem.SeqAt HT
def ut (H:Hp)(v:V)(ns:G0 P2):Prop:= ∃a,v= .ref a/\H a=some (.tup (ns.map V.int))
abbrev tI (ns:G0 P2):D:= .tup (ns.map D.int)
theorem Mi {K:G3}{H:Hp}: ∀ {ps:G0 (V×G0 P2)},(∀p∈ps,ut H p.1 p.2)->RelDs K H ((ps.map (·.2)).map tI) (ps.map (·.1))
 | [],_=> .nil
 |p::ps,h=> .cons (by
  obtain⟨a,e,hH⟩:=h p P3;exact⟨a,_,e,hH,yk _⟩) (Mi λq hq=>h q (D7 _ hq))
abbrev toI (S:G0 G8):G0 P2:=S.map λ(k:G8)=>(k:P2)
def leS (a b:G0 G8):N0:= !HT.zZ (toI b) (toI a)
def Si (l:G0 (G0 G8)):G0 (G0 G8):=l.mergeSort leS
theorem PP (l:G0 (G0 G8)):(Si l).Perm l:=List.mergeSort_perm _ _
end L2
namespace L2
open PySem PySem.Spec PyProof.Rows PySem.SeqAt
theorem Gu: ∀l:G0 P2,M6 (l.map aP)=true
 | []=>rfl
 |x::l=>by show (C7 (.int x)&&_)=true;rw [Gu l];rfl
variable {h:HD}
theorem LL {neg:N0}{x:G8}{S:G0 G8}{Q:KD}(q: ∀b:N0,(b=true↔x∈S)->Q (.bl (neg !=b)) h):inE neg (.int (x:P2)) (vW S) h Q:=by
 refine⟨.int x,(zP S).map aP,rfl,.inr (Lv h S),rfl,Gu _,(by show (0:G8)<=60;decide),q _ ?_⟩;rw [qC];constructor
 ·rintro ⟨z,hz,e⟩;obtain⟨m,hm,rfl⟩:=S2.mp hz;obtain⟨y,hy,rfl⟩:=S2.mp (show m∈S.map λ(k:G8)=>(k:P2) from hm);have:(y:P2)=x:=by simpa [M9] using e
  have:y=x:=by omega
  exact this ▸ hy
 ·intro z;exact⟨.int x,S2.mpr ⟨_,S2.mpr ⟨x,z,rfl⟩,rfl⟩,by simp [M9]⟩
theorem JC {h':HD}{a:G5}(sb:Sub h h')(e:h' a=none):h a=none:=by
 cases z:h a with
 |none=>rfl
 |some ds=>rw [sb a ds z] at e;cases e
theorem Sub.over {h':HD}{a:G5}{ds:G0 D}(sb:Sub h h')(e:h a=none):Sub h (wc h' a ds):=⟨λb xs k=>jl (λz=>by subst z;rw [e] at k;cases k) (sb b xs k),sb.dc⟩
theorem LM {x:G8}{S:G0 G8}{Q:KD}(q:Q (.bl (!decide (x∈S))) h):inE true (.int (x:P2)) (vW S) h Q:=LL λbo hb=>by
 have:(true !=bo)= !decide (x∈S):=by
  cases bo with
  |true=>rw [S1 (hb.mp rfl)];rfl
  |false=>rw [T3 λz=>by have:=hb.mpr z;cases this];rfl
 rw [this];exact q
def wk (T:G0 (G0 P2)):G8->G8->G8->N0
 |0,i,j=>decide (i=j)|| !decide (ent T i j=0)
 |b+1,i,j=>wk T b i j||(wk T b i b&&wk T b b j)
theorem Qp (T:G0 (G0 P2)): ∀b i,wk T b i i=true
 |0,i=>by unfold wk;rw [S1 rfl];rfl
 |b+1,i=>by unfold wk;rw [Qp T b i];rfl
theorem Sj (T:G0 (G0 P2))(b i:G8):wk T (b+1) i b=wk T b i b:=by
 show (wk T b i b||(wk T b i b&&wk T b b b))=_;cases wk T b i b<;>rfl
theorem Sk (T:G0 (G0 P2))(b j:G8):wk T (b+1) b j=wk T b b j:=by
 show (wk T b b j||(wk T b b b&&wk T b b j))=_;cases wk T b b j<;>cases wk T b b b<;>rfl
variable {T:G0 (G0 P2)}
theorem wk_by {b i j:G8}:wk T (b+1) i j=true↔wk T b i j=true\/(wk T b i b=true/\wk T b b j=true):=by
 show (wk T b i j||(wk T b i b&&wk T b b j))=true↔_;rw [W7,S9]
theorem yH: ∀ {b i k j:G8},k<b->wk T b i k=true->wk T b k j=true->wk T b i j=true
 |b+1,i,k,j,hk,x,y=>by
  by_cases e:k=b
  ·subst e;rw [Sj] at x;rw [Sk] at y;exact wk_by.mpr (.inr ⟨x,y⟩)
  ·have lt:k<b:=by omega
   rcases wk_by.mp x with x|⟨x1,x2⟩
   ·rcases wk_by.mp y with y|⟨y1,y2⟩
    ·exact wk_by.mpr (.inl (yH lt x y))
    ·exact wk_by.mpr (.inr ⟨yH lt x y1,y2⟩)
   ·rcases wk_by.mp y with y|⟨y1,y2⟩
    ·exact wk_by.mpr (.inr ⟨x1,yH lt x2 y⟩)
    ·exact wk_by.mpr (.inr ⟨x1,y2⟩)
theorem Wj {P:G8->G8->Prop}(r: ∀i,P i i)(a: ∀i j,ent T i j≠0->P i j)(t: ∀i k j,P i k->P k j->P i j): ∀ {b i j:G8},wk T b i j=true->P i j
 |0,i,j,h=>by
  have h:(decide (i=j)|| !decide (ent T i j=0))=true:=h;rw [W7] at h;rcases h with h|h
  ·rw [U2 h];exact r j
  ·exact a i j λz=>by rw [S1 z] at h;cases h
 |b+1,i,j,h=>by
  rcases wk_by.mp h with h|⟨h1,h2⟩
  ·exact Wj r a t h
  ·exact t _ _ _ (Wj r a t h1) (Wj r a t h2)
theorem LP {n e:G8}(h:Sq n e T)(i j:G8)(z:ent T i j≠0):j<n:=by
 by_cases hj:j<n
 ·exact hj
 ·exfalso;apply z;unfold ent
  by_cases hi:i<T.length
  ·have hr:=h.row (T.getD i []) (by rw [S3,P8 hi];exact A1 hi);rw [S3,E6 (by rw [hr];omega)];rfl
  ·rw [S3 (l:=T),E6 (by omega)];rfl
section
variable {X:Cx}{iter iter' elt:S6}{te:TED}{ti ti':TID}{tt tt':TTD}{pos spos:Pos}{scope:H0}{js:G0 G8}{ifs ifs':G0 S6}
theorem Mj {i i' k:G8}{x z y:Str}{p pz py:Pos}(hc:X.calm=true)(hN:X.N.Nodup)(hk:X.N[k]? =some y)(hy:Loc X.env.scope y)(S:BlockOk X scope js)(hi:JI X (.Name x p) iter ti)(hj:i∈js)(hj':i'∈js)(hne:i≠i')(hx:X.N[i]? =some x)(hz:X.N[i']? =some z)
 (hl:scope.names.lookup x=some .local\/scope.names.lookup x=some .cell)(hl':scope.names.lookup z=some .local\/scope.names.lookup z=some .cell)
 (ht: ∀X',ji X scope X'->PTs X' ifs (LT X'.K tt))(hi': ∀X',ji X scope X'->JI X' (.Name z pz) iter' ti')(ht': ∀X',ji X scope X'->PTs X' ifs' (LT X'.K tt'))(he: ∀X',ji X scope X'->JE X' elt te)
 (hsw:Q4 (.ListComp elt [⟨.Name x p,iter,ifs,0⟩,⟨.Name z pz,iter',ifs',0⟩] scope pos) (some (.Name y py)) spos.line X.env=pure true:=by rfl)
 (hf:X.fn y=true\/X.env.scope.names.lookup y=some .local:=by first|exact .inl rfl|exact .inr rfl|assumption)(hs: ∀x,T8 iter X.env x=pure x:=by intro _;rfl)(hs': ∀env x,T8 iter' env x=pure x:=by intro _ _;rfl):
 JS X (.Assign [.Name y py] (.ListComp elt [⟨.Name x p,iter,ifs,0⟩,⟨.Name z pz,iter',ifs',0⟩] scope pos) spos) (XZ k (NF (bN i) js ti tt i' ti' tt' te)):=by
 have base:PS X (.Assign [.Name y py] (.ListComp elt [⟨.Name x p,iter,ifs,0⟩,⟨.Name z pz,iter',ifs',0⟩] scope pos) spos) (Cf (Te js (LI X.K ti) (yw i) (LT X.K tt) (LI X.K ti') (yw i') (LT X.K tt') (LE X.K te)) (yw k)):=
  Rb hc S hi.to rfl (λX' hX=>by obtain⟨C,s₀,H₀,ex,rfl⟩:=hX;exact yz hN hx hl) (λX' hX=>by have:=ht X' hX;obtain⟨C,s₀,H₀,ex,rfl⟩:=hX;exact this)
   (λenv acc=>Pe (.ListComp elt [⟨.Name x p,iter,ifs,0⟩,⟨.Name z pz,iter',ifs',0⟩] scope pos) iter' env acc) (λ_ _ _=>Re ..)
   (λX' hX D=>by
    have a:=(hi' X' hX).to;have b:=ht' X' hX;have c:=(he X' hX).to;obtain⟨C,s₀,H₀,ex,rfl⟩:=hX;exact Rc (g:=yw i') hc rfl a (yz hN hz hl') b c (hs' _))
   (vQ hN hk hy hf) hsw hs
 exact⟨base.imp λD σ H h=>by
  obtain⟨σd,hd,Qd,rs,rh,t,p⟩:=Rh (K:=X.K) D σ H h;exact Cr (Cq hj hj' hne) σ H _ ⟨σd,hd,Qd,rs,rh,t,p⟩⟩
end
def KM (g:G8->G8->N0)(w:G0 G8)(j:G8):N0:=g (w.getLastD 0) j&&(decide (w.headD 0<j)&& !decide (j∈w))
def uw (g:G8->G8->N0)(n:G8)(w:G0 G8):G0 (G0 G8):=((P7 n).filter (KM g w)).map λj=>w++ [j]
def lev (g:G8->G8->N0)(n:G8):G8->G0 (G0 G8)
 |0=>(P7 n).map λi=> [i]
 |t+1=>(lev g n t).flatMap (uw g n)
def HB (g:G8->G8->N0)(n:G8):G8->G0 (G0 G8)
 |0=> []
 |t+1=>HB g n t++(lev g n t).filter λw=>g (w.getLastD 0) (w.headD 0)
def KN (T:G0 (G0 P2))(i j:G8):N0:=decide (ent T i j>0)
def Gv (T:G0 (G0 P2))(n:G8):G0 (G0 G8):=Si (HB (KN T) n n)
theorem at_end {w:G0 G8}{t:G8}(h:w.length=t+1):atI (w.map λ(k:G8)=>D.int (k:P2)) (-1)=some (.int ((w.getLastD 0:G8):P2)):=by
 refine Bg (by rw [G9];omega) ?_;rw [G9,D6,b8,b9,P8 (by omega)];rfl
end L2
namespace HT
open PySem PySem.Spec PyProof.Rows
def Ja (lt:G1->G1->N0):G1->G0 G1->G1
 |b,[]=>b
 |b,v::r=>Ja lt (if lt v b=true then v else b) r
section
variable {prog:D5}{w:T5}{A:R6}{E:G1->G2->Prop}{s:G2}{h0:M4}{l I S:G5}{vs:G0 G1}{lt:G1->G1->N0}
def KO (prog:D5)(w:T5)(A:R6)(h0:M4)(vs:G0 G1)(lt:G1->G1->N0):Prop:=
 ∀v∈vs,∀u∈vs,∀ (s:G2) (E Q:G1->G2->Prop),UZ h0 s.heap->Q (.bool (lt v u)) s->D1 (D3 prog w) A (fG .Lt v u) Q E s
structure At (h0:M4)(l I S:G5)(vs:G0 G1)(i:G8)(st:M1 G1)(h:M4):Prop where
 kept:UZ h0 h
 it:h.IsListIter I l i
 lst:h.IsList l vs.toArray
 store: ∃c,h.get? S=some (aJ "list" st c)
theorem At.put {i:G8}{st st':M1 G1}{h:M4}(x:At h0 l I S vs i st h)(nI:S≠I)(nl:S≠l)(n0:h0.get? S=none):At h0 l I S vs i st' (h.update S (E5 λ_=>st')):=by
 obtain⟨c,e⟩:=x.store;have other: ∀b o,b≠S->h.get? b=some o->(h.update S (E5 λ_=>st')).get? b=some o:=λb o ne z=>(X1 _ _ _ _ ne).trans z
 exact⟨λb o z=>other b o (λq=>by rw [q,n0] at z;cases z) (x.kept b o z),x.it.at λo z=>other I o (O0 nI) z,x.lst.at λo z=>other l o (O0 nl) z,⟨_,B1 _ e rfl⟩⟩
theorem At.step {i j:G8}{st:M1 G1}{h h':M4}(x:At h0 l I S vs i st h)(k: ∀b o,b ∉ [I]->h.get? b=some o->h'.get? b=some o)(nI:S≠I)(n0:h0.get? I=none)(y:h'.IsListIter I l j)(z:h'.IsList l vs.toArray):At h0 l I S vs j st h':=
 ⟨λb o e=>k b o (λq=>by rw [P4.mp q,n0] at e;cases e) (x.kept b o e),y,z,let ⟨c,e⟩:=x.store;⟨c,k S _ (λq=>nI (P4.mp q)) e⟩⟩
theorem Bx (calm:A.in1.handled=none)(nlI:l≠I)(nI:S≠I)(nl:S≠l)(nS:h0.get? S=none)(nI0:h0.get? I=none)(cmp:KO prog w A.in1 h0 vs lt): ∀ (r:G0 G1) (i:G8) (vb:G1) (h:M4) (tk:G8),vs.drop i=r->i<=vs.length->vb∈vs->At h0 l I S vs i #[vb,vb] h->
 E8 (D3 prog w) A (.builtin "min.loop" ⟨[.ref I,.none,.ref S],[]⟩) (λres s'=>res= .ok (.ret (Ja lt vb r))/\ ∃h' tk',s'= {s with heap:=h',toks:=tk'}/\UZ h0 h') {s with heap:=h,toks:=tk}:=by
 have W:=Walks.list (prog:=prog) (w:=w) calm I l nlI vs.toArray;have again:(toString "min" ++toString ".loop" :B2)= "min.loop" :=by decide
 intro r
 induction r with
 |nil=>
  intro i vb h tk dr il mb x;have ei:i=vs.toArray.size:=by
   rw [R9];exact rE il (fH.mp dr)
  obtain⟨c,e⟩:=x.store;refine W8 i8 ?_;rw [W0 Y0];refine wpAny_bind (W1 e rfl (wpAny_bind (gY (W.done _ _ _ ⟨by rw [<-ei];exact x.it,x.lst⟩ λh' tk' k=> ?_))));have keep:UZ h0 h':=λb o z=>k b o (λq=>by rw [P4.mp q,nI0] at z;cases z) (x.kept b o z)
  refine wpAny_bind (lU (k S _ (λq=>nI (P4.mp q)) e) rfl (wpAny_bind (mU (G7 ⟨rfl,_,tk',rfl,λb o z=> ?_⟩))));exact(X1 _ _ _ _ λq=>by rw [q,nS] at z;cases z).trans (keep b o z)
 |cons v r ih=>
  intro i vb h tk dr il mb x;obtain⟨c,e⟩:=x.store;have hi:i<vs.length:=by
   rcases A8 i vs.length with z|z
   ·exact z
   ·rw [fH.mpr z] at dr;cases dr
  have dr':vs[i]=v/\vs.drop (i+1)=r:=by
   rw [List.drop_eq_getElem_cons hi] at dr;injection dr with a b
   exact⟨a,b⟩
  refine W8 i8 ?_;rw [W0 Y0];refine wpAny_bind (W1 e rfl (wpAny_bind (gY (W.item i _ _ _ (by rw [R9];exact hi) ⟨x.it,x.lst⟩ λu h' tk' pu st' k=> ?_))));have eu:u=v:=by
   rw [l9,P8 hi,dr'.1] at pu;injection pu with pu
   exact pu.symm
  subst eu;have mu:u∈vs:=dr'.1 ▸ A1 hi;have y:=At.step x k nI nI0 st'.1 st'.2;have e':h'.get? S=some (aJ "list" #[vb,vb] c):=k S _ (λq=>nI (P4.mp q)) e;refine wpAny_bind (G7 ?_);have ans: ∀F:N0->Sem Fin,∀ (P:Fin->G2->Prop) (E:G1->G2->Prop) (H:G1->Sem N0),D1 (D3 prog w) A.in1 (F (lt u vb)) P E {s with heap:=h',toks:=tk'}->D1 (D3 prog w) A.in1 (tryCatch (Z6 [u,u] (do let a <-fG .Lt u vb;let yes <-Z6 [a] (y8 a);letGo [a];pure yes)) H >>= F) P E {s with heap:=h',toks:=tk'}:=λF P E H q=>
   wpAny_bind (gY (B5 (wpAny_bind (cmp u mu vb mb _ _ _ y.kept (wpAny_bind (B5 (E7 (wpAny_bind (mU (G7 q))))))))))
  refine ans _ _ _ _ ?_;cases c1:lt u vb with
  |true=>
   have z:=At.put (st':= #[u,u]) y nI nl nS;refine wpAny_bind (lU e' rfl (wpAny_bind (mU ?_)));have nx:=ih (i+1) u _ tk' dr'.2 hi mu z;rw [again];refine G7 ⟨aD Y0 _,?_⟩;unfold Ja;rw [R1 c1];exact nx
  |false=>
   refine wpAny_bind (mU ?_);have nx:=ih (i+1) vb _ tk' dr'.2 hi mb y;rw [again];refine G7 ⟨aD Y0 _,?_⟩;unfold Ja;rw [R3 (by rw [c1];exact D8)];exact nx
theorem Gw {h:M4}{b:G5}(z:h.objs.size<=b):h.get? b=none:=by
 cases e:h.get? b with
 |none=>rfl
 |some o=>exact absurd (D0 e) (U0.mpr z)
theorem By {v0:G1}{r:G0 G1}{Q:G1->G2->Prop}(calm:A.in1.handled=none)(hl:s.heap.IsList l vs.toArray)(ev:vs=v0::r)(cmp:KO prog w A.in1 s.heap vs lt)
 (q: ∀h' tk,UZ s.heap h'->Q (Ja lt v0 r) {s with heap:=h',toks:=tk}):D1 (D3 prog w) A (call (.builtin "min") [.ref l]) Q E s:=by
 have again:(toString "min" ++toString ".loop" :B2)= "min.loop" :=by decide
 obtain⟨ol,el,rl⟩:=id hl;have ll:=D0 el;refine call_function_tree F.kind_min F.plain_min F.entry_min (F.args_min1 _) (wpAny_bind (xM (show Builtin.Builtins.bindParams "min" ["key","default"] 0 ⟨[],[]⟩=pure [none,none] from rfl) (wpAny_bind (G7 (wpAny_bind (aY hl (wpAny_bind (A3 ?_))))))));rw [again];refine G7 ⟨aD Y0 _,?_⟩;have big:s.heap.objs.size<(s.heap.push {cls:= .type "list_iterator",data:= .fields #[.ref l,.int 0 0]}).objs.size:=by rw [aH];exact A0 _
 have it1:(s.heap.push {cls:= .type "list_iterator",data:= .fields #[.ref l,.int 0 0]}).IsListIter s.heap.objs.size l 0:=⟨_,S4 _ rfl,rfl,rfl⟩;have k1:UZ s.heap (s.heap.push {cls:= .type "list_iterator",data:= .fields #[.ref l,.int 0 0]}):=λb o e=>G4 _ e
 revert big it1 k1;generalize s.heap.push {cls:= .type "list_iterator",data:= .fields #[.ref l,.int 0 0]}=H1;intro big it1 k1;have x:At s.heap l s.heap.objs.size H1.objs.size vs 0 #[] (H1.push {cls:= .type "list",data:= .seq #[]}):=
  ⟨λb o e=>G4 _ (k1 b o e),it1.at λo e=>G4 _ e,hl.at λo e=>G4 _ (k1 _ _ e),0,S4 _ rfl⟩
 have nlI:l≠s.heap.objs.size:=R5 ll;have nI:H1.objs.size≠s.heap.objs.size:=(R5 big).symm;have nl:H1.objs.size≠l:=(R5 (A7 ll big)).symm;have n1:s.heap.get? s.heap.objs.size=none:=Gw (P1 _);have n2:s.heap.get? H1.objs.size=none:=Gw (M5 big);obtain⟨c,e⟩:=x.store;have W:=Walks.list (prog:=prog) (w:=w) calm s.heap.objs.size l nlI vs.toArray;have m0:v0∈vs:=by rw [ev];exact P3
 refine W8 i8 ?_;rw [W0 Y0];refine wpAny_bind (W1 e rfl (wpAny_bind (gY (W.item 0 _ _ _ (by rw [ev];exact bX _) ⟨x.it,x.lst⟩ λu h' tk' pu st' k=> ?_))));have eu:u=v0:=by
  rw [l9,ev] at pu;injection pu with pu
  exact pu.symm
 subst eu;have y:=At.step x k nI n1 st'.1 st'.2;refine wpAny_bind (G7 ?_);refine wpAny_bind (lU (k _ _ (λz=>nI (P4.mp z)) e) rfl ?_);rw [again];refine G7 ⟨aD Y0 _,X5 (Bx (s:=s) calm nlI nI nl n2 n1 cmp r 1 u _ tk' (by rw [ev];rfl) (by rw [ev];exact qF (L0 _)) m0 (At.put (st':= #[u,u]) y nI nl n2)) λres s' z=> ?_⟩;obtain⟨rfl,h2,tk2,rfl,k2⟩:=z;exact q h2 tk2 k2
end
end HT
namespace HT
open PySem PySem.Spec PyProof.Rows PySem.SeqAt
open PySem.AutoSeq1 (wpAny_loadPart')
open PySem.MeetsSeq PySem.MeetsSeq2 PySem.MeetsSeq3
inductive Lx (prog:D5)(w:T5)(A:R6)(s:G2):G0 G1->G0 G1->N0->Prop
 |nn:Lx prog w A s [] [] false
 |nc (u:G1) (us:G0 G1):Lx prog w A s [] (u::us) true
 |cn (v:G1) (vs:G0 G1):Lx prog w A s (v::vs) [] false
 |same {v u:G1} {vs us:G0 G1} {b:N0} (e:EqAt A s v u true) (t:Lx prog w A s vs us b):Lx prog w A s (v::vs) (u::us) b
 |unlike {v u:G1} {vs us:G0 G1} {b:N0} (e:EqAt A s v u false) (t: ∀ (Q E:G1->G2->Prop),Q (.bool b) s->D1 (D3 prog w) A (fG .Lt v u) Q E s):Lx prog w A s (v::vs) (u::us) b
theorem Lx.short {prog:D5}{w:T5}{A:R6}{s:G2}{vs us:G0 G1}{b:N0}{m n:G8}(t:Lx prog w A s vs us b)(z:vs.zip us= [])(l:vs.length+n=us.length+m):b=decide (m<n):=by
 cases t with
 |nn=>rw [M7] at l;exact(T3 (by omega)).symm
 |nc u us=>rw [M7,D4] at l;exact(S1 (by omega)).symm
 |cn v vs=>rw [M7,D4] at l;exact(T3 (by omega)).symm
 |same e t=>rw [cS] at z;cases z
 |unlike e t=>rw [cS] at z;cases z
theorem Xb (l b:G5)(items items2:M1 G1)(n n2:G8)(dd dd2:P0 G5)(sl sl2:M1 (P0 G1))(r:N0):
 Meets (Builtin.«tuple.__lt__» ⟨[.ref l,.ref b],[]⟩)
  (λA R s=>s.heap.get? l=some {cls:= .type "tuple",dict:=dd,data:= .seq items n,slots:=sl}/\s.heap.get? b=some {cls:= .type "tuple",dict:=dd2,data:= .seq items2 n2,slots:=sl2}/\
   (∀prog w,Lx prog w A.in1 s items.toList items2.toList r)/\R (.ok (.ret (.bool r))) s):=
 .of_wp λprog w A R s h=>by
  obtain⟨hp,g,d,tk,os⟩:=s;obtain⟨hl,hb,ht,h⟩:=h;have f2:=AutoSeq1.sub_tuple_tuple
  wp_walk using N5 hl,N5 hb,pZ _ (λrest b s'=>b.1=none/\s'=⟨hp,g,d,tk,os⟩/\ ∃ (vs us:G0 G1),rest=vs.zip us/\Lx prog w A.in1 ⟨hp,g,d,tk,os⟩ vs us r/\vs.length+items2.size=us.length+items.size) _
  case turn=>
   rintro ⟨y,x⟩ rest b s' ⟨hb',rfl,vs,us,hz,t,hlen⟩;cases t with
   |nn=>cases hz
   |nc u us=>cases hz
   |cn v vs=>cases hz
   |same e t=>
    rw [cS] at hz;injection hz with hyx hrest
    injection hyx with hy hx
    subst hy hx;simp only [D4] at hlen;refine wpAny_bind (e prog w _ _ ?_)
    wp_walk
    exact⟨rfl,rfl,_,_,hrest,t,by omega⟩
   |unlike e t=>
    rw [cS] at hz;injection hz with hyx hrest
    injection hyx with hy hx
    subst hy hx;refine wpAny_bind (e prog w _ _ ?_);have hri:=λ{Q E:G1->G2->Prop}=>t Q E
    wp_walk using hri
    exact⟨_,rfl,by simpa using h⟩
  case fin=>
   rintro ⟨b1,b2⟩ s' ⟨hb',rfl,vs,us,hz,t,hlen⟩;simp only at hb';subst hb';have hv:=t.short hz.symm hlen;rw [hv] at h
   wp_walk
   exact⟨_,rfl,by simpa [pQ] using h⟩
  case h=>
   exact⟨rfl,rfl,items.toList,items2.toList,rfl,ht prog w,by rw [D2,D2];omega⟩
theorem WN {α:Type}{p vs:G0 α}{x:α}{items:M1 α}(e:items.toList=p++x::vs){i:G8}(l:p.length=i):items[((i:G8):P2).toNat]? =some x:=by
 rw [aB,<-B9,e,<-l];simp
theorem at_end {α:Type}{p:G0 α}{items:M1 α}(e:items.toList=p){i:G8}(l:p.length=i):items[((i:G8):P2).toNat]? =none:=by
 rw [aB,<-B9,e,<-l];simp
section
variable {prog:D5}{w:T5}{A:R6}{R:j9->G2->Prop}{s:G2}{l b:G5}{items items2:M1 G1}{n n2:G8}{dd dd2:P0 G5}{sl sl2:M1 (P0 G1)}{r:N0}
theorem VJ (hl:s.heap.get? l=some {cls:= .type "list",dict:=dd,data:= .seq items n,slots:=sl})(hb:s.heap.get? b=some {cls:= .type "list",dict:=dd2,data:= .seq items2 n2,slots:=sl2})(h:R (.ok (.ret (.bool r))) s):
 ∀ {vs us:G0 G1},Lx prog w A.in1 s vs us r-> ∀ (i:G8) (p q:G0 G1),items.toList=p++vs->items2.toList=q++us->p.length=i->q.length=i->
  D1 (D3 prog w) A.in1 (Builtin.«list.__eq__.loop» ⟨[.ref l,.ref b,F8 i,F8 0],[]⟩) (λfin s'=>match fin with| .done f=>R (.ok f) s'| .again c'=>c'.quiet=true/\E8 (D3 prog w) A c' R s') (λe s'=>R (.error e) s') s:=by
 intro vs us t;obtain⟨hp,g,d,tk,os⟩:=s
 induction t with
 |nn=>
  intro i p q e1 e2 l1 l2;rw [V0] at e1 e2;have z1:items.size=i:=by rw [<-D2,e1];exact l1
  have z2:items2.size=i:=by rw [<-D2,e2];exact l2
  wp_walk using N5 hl,N5 hb
  rw [at_end e1 l1]
  wp_walk using N5 hl,N5 hb
  show R (.ok (.ret (.bool (decide (items.size<items2.size))))) _;rw [z1,z2,show decide (i<i)=false from T3 (N8 _)];exact h
 |nc u us=>
  intro i p q e1 e2 l1 l2;rw [V0] at e1;have z1:items.size=i:=by rw [<-D2,e1];exact l1
  have z2:i<items2.size:=by rw [<-D2,e2,D9,l2,D4];omega
  wp_walk using N5 hl,N5 hb
  rw [at_end e1 l1]
  wp_walk using N5 hl,N5 hb
  show R (.ok (.ret (.bool (decide (items.size<items2.size))))) _;rw [z1,show decide (i<items2.size)=true from S1 z2];exact h
 |cn v vs=>
  intro i p q e1 e2 l1 l2;rw [V0] at e2;have z1:i<items.size:=by rw [<-D2,e1,D9,l1,D4];omega
  have z2:items2.size=i:=by rw [<-D2,e2];exact l2
  wp_walk using N5 hl,N5 hb
  rw [WN e1 l1,at_end e2 l2]
  wp_walk using N5 hl,N5 hb
  show R (.ok (.ret (.bool (decide (items.size<items2.size))))) _;rw [z2,show decide (items.size<i)=false from T3 (by omega)];exact h
 | @same v u vs us b0 e t ih=>
  intro i p q e1 e2 l1 l2
  wp_walk using N5 hl,N5 hb
  rw [WN e1 l1,WN e2 l2];refine wpAny_bind (e prog w _ _ ?_)
  wp_walk
  rw [show ((i:P2)+1)=((i+1:G8):P2) by omega];exact⟨aD plain_eq_loop _,W8 entry_eq_loop (by
   rw [W0 plain_eq_loop _];exact ih h (i+1) (p++ [v]) (q++ [u]) (by rw [e1,W3];rfl) (by rw [e2,W3];rfl) (by rw [D9,l1];rfl) (by rw [D9,l2];rfl))⟩
 | @unlike v u vs us b0 e t=>
  intro i p q e1 e2 l1 l2
  wp_walk using N5 hl,N5 hb
  rw [WN e1 l1,WN e2 l2];refine wpAny_bind (e prog w _ _ ?_);have hri:=λ{Q E:G1->G2->Prop}=>t Q E
  wp_walk using N5 hl,N5 hb
  rw [WN e1 l1,WN e2 l2]
  wp_walk using hri
  exact h
end
theorem Qq (l b:G5)(items items2:M1 G1)(n n2:G8)(dd dd2:P0 G5)(sl sl2:M1 (P0 G1))(r:N0):
 Meets (Builtin.«list.__lt__» ⟨[.ref l,.ref b],[]⟩)
  (λA R s=>s.heap.get? l=some {cls:= .type "list",dict:=dd,data:= .seq items n,slots:=sl}/\s.heap.get? b=some {cls:= .type "list",dict:=dd2,data:= .seq items2 n2,slots:=sl2}/\
   (∀prog w,Lx prog w A.in1 s items.toList items2.toList r)/\R (.ok (.ret (.bool r))) s):=by
 intro prog w A R s h;obtain⟨hl,hb,ht,h⟩:=h;have f3:=AutoSeq1.sub_list_list;have fin:=VJ (prog:=prog) (w:=w) (A:=A) hl hb h (ht prog w) 0 [] [] rfl rfl rfl rfl;obtain⟨hp,g,d,tk,os⟩:=s
 wp_walk using N5 hl,N5 hb
 exact⟨aD plain_eq_loop _,W8 entry_eq_loop (by
  rw [W0 plain_eq_loop _];exact fin)⟩
end HT
namespace HT
open PySem PySem.Spec PyProof.Rows PySem.SeqAt
mutual
/-- may they be compared? -/
def alk:C4->C4->N0
 | .int _,.int _=>true
 | .tuple xs,.tuple ys=>alks xs ys
 | .list xs,.list ys=>alks xs ys
 |_,_=>false
def alks:G0 C4->G0 C4->N0
 |x::xs,y::ys=>alk x y&&alks xs ys
 |_,_=>true
end
mutual
def ltP:C4->C4->N0
 | .int i,.int j=>decide (i<j)
 | .tuple xs,.tuple ys=>ltPs xs ys
 | .list xs,.list ys=>ltPs xs ys
 |_,_=>false
def ltPs:G0 C4->G0 C4->N0
 | [],[]=>false
 | [],_::_=>true
 |_::_,[]=>false
 |x::xs,y::ys=>if M9 x y=true then ltPs xs ys else ltP x y
end
theorem LQ {prog:D5}{w:T5}{A:R6}{E:G1->G2->Prop}{s:G2}{l b:G5}{o o2:Obj}{items items2:M1 G1}{n n2:G8}{r:N0}{Q:G1->G2->Prop}(e1:s.heap.get? l=some o)(c1:o.cls= .type "tuple")(d1:o.data= .seq items n)(e2:s.heap.get? b=some o2)(c2:o2.cls= .type "tuple")(d2:o2.data= .seq items2 n2)
 (t: ∀prog w,Lx prog w A.in1 s items.toList items2.toList r)(hu:A.units<cLine)(q:Q (.bool r) s):D1 (D3 prog w) A (fG .Lt (.ref l) (.ref b)) Q E s:=by
 obtain⟨cls,dd,data,sl⟩:=o;obtain⟨cls2,dd2,G0e,sl2⟩:=o2;simp only at c1 d1 c2 d2;subst c1 d1 c2 d2;have g:=Xb l b items items2 n n2 dd dd2 sl sl2 r;refine lN (op:= .Lt) ⟨_,e1,rfl⟩ ⟨_,e2,rfl⟩ w6 u5 (uQ _ _) g ?_ hu;refine⟨e1,e2,t,?_⟩;exact And.intro (by intro x;cases x) q
theorem Bz {prog:D5}{w:T5}{A:R6}{E:G1->G2->Prop}{s:G2}{l b:G5}{o o2:Obj}{items items2:M1 G1}{n n2:G8}{r:N0}{Q:G1->G2->Prop}(e1:s.heap.get? l=some o)(c1:o.cls= .type "list")(d1:o.data= .seq items n)(e2:s.heap.get? b=some o2)(c2:o2.cls= .type "list")(d2:o2.data= .seq items2 n2)
 (t: ∀prog w,Lx prog w A.in1 s items.toList items2.toList r)(hu:A.units<cLine)(q:Q (.bool r) s):D1 (D3 prog w) A (fG .Lt (.ref l) (.ref b)) Q E s:=by
 obtain⟨cls,dd,data,sl⟩:=o;obtain⟨cls2,dd2,G0e,sl2⟩:=o2;simp only at c1 d1 c2 d2;subst c1 d1 c2 d2;have g:=Qq l b items items2 n n2 dd dd2 sl sl2 r;refine lN (op:= .Lt) ⟨_,e1,rfl⟩ ⟨_,e2,rfl⟩ xT w8 (u6 _ _) g ?_ hu;refine⟨e1,e2,t,?_⟩;exact And.intro (by intro x;cases x) q
mutual
theorem Gx: ∀ (p q:C4) (A:R6) (s:G2) (v u:G1) (as bs:G0 G5),Reads s.heap v p as->Reads s.heap u q bs->p.canLay0=true->q.canLay0=true->alk p q=true->A.units+p.depth<cLine->
 ∀ (prog:D5) (w:T5) (Q E:G1->G2->Prop),Q (.bool (ltP p q)) s->D1 (D3 prog w) A (fG .Lt v u) Q E s
 | .int i,q,A,s,v,u,as,bs,rp,rq,c1,c2,al,hu,prog,w,Q,E,h=>by
  cases q with
  |int j=>
   cases rp;cases rq;exact(xZ h:D1 (D3 prog w) A (N3 .Lt (.int i _) (.int j _)) Q E s)
  |none=>cases al
  |bool _=>cases al
  |str _=>cases al
  |list _=>cases al
  |tuple _=>cases al
  |dict _=>cases al
 | .tuple xs,q,A,s,v,u,as,bs,rp,rq,c1,c2,al,hu,prog,w,Q,E,h=>by
  cases q with
  |tuple ys=>
   cases rp with
   |tuple e1 k1 d1 r1=>
    cases rq with
    |tuple e2 k2 d2 r2=>
     have c1':M6 xs=true:=by simpa only [C7] using c1
     have c2':M6 ys=true:=by simpa only [C7] using c2
     have du:A.units+(N4 xs+1)<cLine:=by simpa only [O3] using hu
     exact LQ e1 k1 d1 e2 k2 d2 (λprog w=>lx_reads xs ys A.in1 s _ _ _ _ r1 r2 c1' c2' al (by show A.units+1+_<_;omega) prog w) (by omega) h
  |none=>cases al
  |bool _=>cases al
  |str _=>cases al
  |list _=>cases al
  |int _=>cases al
  |dict _=>cases al
 | .none,q,A,s,v,u,as,bs,rp,rq,c1,c2,al,hu,prog,w,Q,E,h=>by cases al
 | .bool _,q,A,s,v,u,as,bs,rp,rq,c1,c2,al,hu,prog,w,Q,E,h=>by cases al
 | .str _,q,A,s,v,u,as,bs,rp,rq,c1,c2,al,hu,prog,w,Q,E,h=>by cases al
 | .list xs,q,A,s,v,u,as,bs,rp,rq,c1,c2,al,hu,prog,w,Q,E,h=>by
  cases q with
  |list ys=>
   cases rp with
   |list e1 k1 d1 r1=>
    cases rq with
    |list e2 k2 d2 r2=>
     have c1':M6 xs=true:=by simpa only [C7] using c1
     have c2':M6 ys=true:=by simpa only [C7] using c2
     have du:A.units+(N4 xs+1)<cLine:=by simpa only [O3] using hu
     exact Bz e1 k1 d1 e2 k2 d2 (λprog w=>lx_reads xs ys A.in1 s _ _ _ _ r1 r2 c1' c2' al (by show A.units+1+_<_;omega) prog w) (by omega) h
  |none=>cases al
  |bool _=>cases al
  |str _=>cases al
  |tuple _=>cases al
  |int _=>cases al
  |dict _=>cases al
 | .dict _,q,A,s,v,u,as,bs,rp,rq,c1,c2,al,hu,prog,w,Q,E,h=>by cases al
theorem lx_reads: ∀ (xs ys:G0 C4) (A:R6) (s:G2) (vs us:G0 G1) (as bs:G0 G5),ReadsAll s.heap vs xs as->ReadsAll s.heap us ys bs->M6 xs=true->M6 ys=true->alks xs ys=true->A.units+N4 xs<cLine->
 ∀ (prog:D5) (w:T5),Lx prog w A s vs us (ltPs xs ys)
 | [],[],A,s,vs,us,as,bs,ra,rb,_,_,_,_,prog,w=>by
  cases ra;cases rb;exact .nn
 | [],y::ys,A,s,vs,us,as,bs,ra,rb,_,_,_,_,prog,w=>by
  cases ra;cases rb with
  |cons r rs=>exact .nc _ _
 |x::xs,[],A,s,vs,us,as,bs,ra,rb,_,_,_,_,prog,w=>by
  cases rb;cases ra with
  |cons r rs=>exact .cn _ _
 |x::xs,y::ys,A,s,vs,us,as,bs,ra,rb,c1,c2,al,hu,prog,w=>by
  cases ra with
  |cons r rs=>
   cases rb with
   |cons r' rs'=>
    have d1:x.canLay0=true/\M6 xs=true:=by simpa [M6] using c1
    have d2:y.canLay0=true/\M6 ys=true:=by simpa [M6] using c2
    have al':alk x y=true/\alks xs ys=true:=by simpa [alks] using al
    have dx:A.units+x.depth<cLine/\A.units+N4 xs<cLine:=by simp only [N4] at hu;omega
    have eq:=eqAt_reads x y A s _ _ _ _ r r' d1.1 d2.1 (by have:=rF x.depth y.depth;omega);unfold ltPs;cases e:M9 x y with
    |true=>
     rw [e] at eq;rw [R1 rfl];exact .same eq (lx_reads xs ys A s _ _ _ _ rs rs' d1.2 d2.2 al'.2 dx.2 prog w)
    |false=>
     rw [e] at eq;rw [R3 D8];exact .unlike eq λQ E q=>Gx x y A s _ _ _ _ r r' d1.1 d2.1 al'.1 dx.1 prog w Q E q
end
end HT
namespace L2
open PySem PySem.Spec PyProof.Rows PySem.SeqAt HT
theorem Gy {K:G3}{H:Hp}: ∀ {xs:G0 (D×C4)} {vs:G0 V} {us:G0 G1},RelDs K H (xs.map (·.1)) vs->Vals vs us-> ∃zs:G0 (G1×V×(D×C4)),us=zs.map (·.1)/\vs=zs.map (·.2.1)/\xs=zs.map (·.2.2)/\ ∀z∈zs,RelV z.2.1 z.1/\RelD K H z.2.2.1 z.2.1
 | [],vs,us,r,q=>by
  have e:vs= []:=r;subst e;cases q;exact⟨[],rfl,rfl,rfl,λz hz=>absurd hz N6⟩
 |x::xs,vs,us,r,q=>by
  obtain⟨v,vs',e,r1,r2⟩:=(show ∃v r,vs=v::r/\RelD K H x.1 v/\RelDs K H (xs.map (·.1)) r from r);subst e;cases q with
  |cons q1 q2=>
   obtain⟨zs,e1,e2,e3,g⟩:=Gy r2 q2;refine⟨(_,v,x)::zs,by rw [T2,<-e1],by rw [T2,<-e2],by rw [T2,<-e3],λz hz=> ?_⟩;rcases P9.mp hz with rfl|hz
   ·exact⟨q1,r1⟩
   ·exact g z hz
open Classical in
noncomputable def readOf (h:M4)(v:G1):C4:=if e: ∃p as,p.canLay0=true/\Reads h v p as then e.choose else .none
theorem Mk {h:M4}{v:G1}{p:C4}{as:G0 G5}(c:p.canLay0=true)(r:Reads h v p as):readOf h v=p:=by
 have e: ∃p as,p.canLay0=true/\Reads h v p as:=⟨p,as,c,r⟩;unfold readOf;rw [dif_pos e];obtain⟨as',c',r'⟩:=e.choose_spec;exact Reads.unique _ _ v _ _ c' r' r
theorem yZ {lt:G1->G1->N0}{zs:G0 (G1×V×(D×C4))}{m:D×C4}(hlt: ∀z∈zs,∀y∈zs,lt z.1 y.1=ltP z.2.2.2 y.2.2.2)(low: ∀z∈zs,z.2.2=m\/(ltP m.2 z.2.2.2=true/\ltP z.2.2.2 m.2=false))(self:ltP m.2 m.2=false):
 ∀ (zr:G0 (G1×V×(D×C4))) (zb:G1×V×(D×C4)),(∀z∈zb::zr,z∈zs)->(∃z∈zb::zr,z.2.2=m)-> ∃z∈zs,Ja lt zb.1 (zr.map (·.1))=z.1/\z.2.2=m
 | [],zb,sub,⟨z,hz,e⟩=>by
  rw [P4.mp hz] at e;exact⟨zb,sub zb P3,rfl,e⟩
 |z1::zr,zb,sub,hm=>by
  have mb:=sub zb P3;have m1:=sub z1 (D7 _ P3);have subr: ∀z∈zr,z∈zs:=λz hz=>sub z (D7 _ (D7 _ hz))
  have two: ∀y,y∈zs-> ∀z∈y::zr,z∈zs:=λy hy z hz=>by
   rcases P9.mp hz with rfl|hz
   ·exact hy
   ·exact subr z hz
  show ∃z∈zs,Ja lt (if lt z1.1 zb.1=true then z1.1 else zb.1) (zr.map (·.1))=z.1/\_;rw [hlt z1 m1 zb mb]
  by_cases cb:zb.2.2=m
  ·have no:ltP z1.2.2.2 zb.2.2.2=false:=by
    rw [cb];rcases low z1 m1 with e|e
    ·rw [e];exact self
    ·exact e.2
   rw [R3 (by rw [no];exact D8)];exact yZ hlt low self zr zb (two zb mb) ⟨zb,P3,cb⟩
  ·by_cases c1:z1.2.2=m
   ·have yes:ltP z1.2.2.2 zb.2.2.2=true:=by
     rw [c1];rcases low zb mb with e|e
     ·exact absurd e cb
     ·exact e.1
    rw [R1 yes];exact yZ hlt low self zr z1 (two z1 m1) ⟨z1,P3,c1⟩
   ·have hr: ∃z∈zr,z.2.2=m:=by
     obtain⟨z,hz,e⟩:=hm;rcases P9.mp hz with rfl|hz
     ·exact absurd e cb
     ·rcases P9.mp hz with rfl|hz
      ·exact absurd e c1
      ·exact⟨z,hz,e⟩
    obtain⟨z,hz,e⟩:=hr
    by_cases c:ltP z1.2.2.2 zb.2.2.2=true
    ·rw [R1 c];exact yZ hlt low self zr z1 (two z1 m1) ⟨z,D7 _ hz,e⟩
    ·rw [R3 c];exact yZ hlt low self zr zb (two zb mb) ⟨z,D7 _ hz,e⟩
def KP:RDn:=λds h Q=> ∃ (a:G5) (xs:G0 (D×C4)) (m:D×C4),ds= [.lst a]/\h a=some (xs.map (·.1))/\(∀x∈xs,ToP h x.1 x.2/\x.2.canLay0=true/\x.2.depth<=60/\ ∀y∈xs,alk x.2 y.2=true)/\m∈xs/\(∀x∈xs,x=m\/(ltP m.2 x.2=true/\ltP x.2 m.2=false))/\ltP m.2 m.2=false/\Q m.1 h
theorem LU {X:Cx}{k:G8}(hc:X.calm=true)(hr:Room k X.A):vF X (.builtin "min") KP:=by
 intro pins s σ H xs us Q I r h;obtain⟨ds,h,Qd,rd,rh,⟨a,xs,m,e,ha,g,hm,low,self,q⟩,post⟩:=h;subst e;obtain⟨v,e,r1⟩:=jA rd;obtain⟨vs,hH,r2⟩:=rh a _ ha;have e1:v= .ref a:=r1.1;subst e e1;obtain⟨u,rfl,ru⟩:=vD r;cases ru;obtain⟨its,rv,pl,hz⟩:=I.list (SqL.of hH);obtain⟨zs,rfl,rfl,rfl,gz⟩:=Gy r2 rv;have rz: ∀z∈zs,∃as,Reads s.heap z.1 z.2.2.2 as:=λz hz=>zo I rh (g _ (F1 hz)).1 (gz z hz).2 (gz z hz).1
 have pz: ∀z∈zs,readOf s.heap z.1=z.2.2.2:=λz hz=>by
  obtain⟨as,r⟩:=rz z hz;exact Mk (g _ (F1 hz)).2.1 r
 obtain⟨z0,zr,ez⟩: ∃z0 zr,zs=z0::zr:=by
  cases zs with
  |nil=>cases hm
  |cons z0 zr=>exact⟨z0,zr,rfl⟩
 have hu:=hr.un;refine HT.By (lt:=λv u=>ltP (readOf s.heap v) (readOf s.heap u)) (v0:=z0.1) (r:=zr.map (·.1)) (I.ok.hd hc) pl.isList (by rw [ez];rfl) (λv hv u hu' s' E Q' kp q'=> ?_) λh' tk kp=> ?_
 ·obtain⟨z,hz,rfl⟩:=S2.mp hv;obtain⟨y,hy,rfl⟩:=S2.mp hu';obtain⟨as,ra⟩:=rz z hz;obtain⟨bs,rb⟩:=rz y hy;have g1:=g _ (F1 hz);have g2:=g _ (F1 hy);dsimp only at q';rw [pz z hz,pz y hy] at q';exact Gx _ _ _ s' _ _ _ _ (PyProof.Rows.Reads.keeps kp ra) (PyProof.Rows.Reads.keeps kp rb) g1.2.1 g2.2.1 (g1.2.2.2 _ (F1 hy)) (by show X.A.units+1+_<_;have:=g1.2.2.1;omega) _ _ _ _ q'
 ·obtain⟨z,hz,el,em⟩:=yZ (lt:=λv u=>ltP (readOf s.heap v) (readOf s.heap u)) (m:=m) (λz hz y hy=>by rw [pz z hz,pz y hy]) (λz hz=>low _ (F1 hz)) self zr z0 (λz hz=>by rw [ez];exact hz) (by
   obtain⟨z,hz,e⟩:=S2.mp hm;exact⟨z,by rw [<-ez];exact hz,e⟩)
  rw [el];exact⟨z.2.1,H,I.kept kp,(gz z hz).1,post m.1 _ _ _ (.refl H) rh (by rw [<-em];exact(gz z hz).2) q⟩
end L2
namespace L2
open PySem PySem.Spec PyProof.Rows
theorem BB {P:D5}{w:T5}{K:G3}{mg:Str->P0 G1}{base:M4}{k:G8}{f:G5}{fd:R4}{ps:G0 Str}{sp:RDn}(no: ∀ds h Q,sp ds h Q->False):FnOk P w K mg base CX0 k f fd ps (LSp K sp):=
 ⟨λvs H Q E ⟨ds,h,Qd,_,_,z,_⟩=>(no ds h Qd z).elim,λA outer s H args us vs Q E _ _ _ _ ⟨ds,h,Qd,_,_,z,_⟩=>(no ds h Qd z).elim⟩
end L2
namespace L2
open PySem PySem.Spec PyProof.Rows PySem.SeqAt
def wq:G0 (G0 P2)->G0 (G0 P2)->N0
 | [],[]=>false
 | [],_::_=>true
 |_::_,[]=>false
 |a::A,b::B=>if a=b then wq A B else HT.zZ a b
theorem Ml: ∀A:G0 (G0 P2),wq A A=false
 | []=>rfl
 |a::A=>by show (if a=a then wq A A else _)=false;rw [R1 rfl];exact Ml A
theorem BC {a b c:G0 P2}(x:HT.zZ a b=true)(y:HT.zZ b c=true):HT.zZ a c=true:=by
 rcases HT.Xa a c b x with z|z
 ·exact z
 ·rw [HT.Zv _ _ y] at z;cases z
theorem VL: ∀ {A B C:G0 (G0 P2)},wq A B=true->wq B C=true->wq A C=true
 | [],[],_,x,_=>by cases x
 | [],_::_,[],_,y=>by cases y
 | [],_::_,_::_,_,_=>rfl
 |_::_,[],_,x,_=>by cases x
 |_::_,_::_,[],_,y=>by cases y
 |a::A,b::B,c::C,x,y=>by
  change (if a=b then wq A B else HT.zZ a b)=true at x
  change (if b=c then wq B C else HT.zZ b c)=true at y
  show (if a=c then wq A C else HT.zZ a c)=true
  by_cases e1:a=b
  ·subst e1;rw [R1 rfl] at x
   by_cases e2:a=c
   ·rw [R1 e2] at y ⊢;exact VL x y
   ·rw [R3 e2] at y ⊢;exact y
  ·rw [R3 e1] at x
   by_cases e2:b=c
   ·subst e2;rw [R3 e1];exact x
   ·rw [R3 e2] at y;have z:=BC x y;have ne:a≠c:=λw=>by subst w;rw [HT.Zv _ _ x] at y;cases y
    rw [R3 ne];exact z
theorem Gz: ∀A B:G0 (G0 P2),A=B\/wq A B=true\/wq B A=true
 | [],[]=> .inl rfl
 | [],_::_=> .inr (.inl rfl)
 |_::_,[]=> .inr (.inr rfl)
 |a::A,b::B=>by
  show _\/(if a=b then wq A B else HT.zZ a b)=true\/(if b=a then wq B A else HT.zZ b a)=true
  by_cases e:a=b
  ·subst e;rw [R1 rfl,R1 rfl];rcases Gz A B with z|z|z
   ·exact .inl (by rw [z])
   ·exact .inr (.inl z)
   ·exact .inr (.inr z)
  ·rw [R3 e,R3 (O0 e)];cases x:HT.zZ a b with
   |true=>exact .inr (.inl rfl)
   |false=>
    cases y:HT.zZ b a with
    |true=>exact .inr (.inr rfl)
    |false=>exact absurd (HT.WM _ _ x y) e
theorem Mm {A B:G0 (G0 P2)}(x:wq A B=true):wq B A=false:=by
 cases y:wq B A with
 |false=>rfl
 |true=>have:=VL x y;rw [Ml] at this;cases this
theorem GA: ∀ {xs:G0 (G0 (G0 P2))},xs≠ []-> ∃m∈xs,∀x∈xs,x=m\/wq m x=true
 | [],h=>absurd rfl h
 | [a],_=>⟨a,P4.mpr rfl,λx hx=> .inl (P4.mp hx)⟩
 |a::b::xs,_=>by
  obtain⟨m,hm,low⟩:=GA (xs:=b::xs) (λq=>by cases q);rcases Gz a m with e|e|e
  ·subst e;exact⟨a,P3,λx hx=>(P9.mp hx).elim .inl λz=>low x z⟩
  ·refine⟨a,P3,λx hx=>(P9.mp hx).elim .inl λz=> ?_⟩;rcases low x z with q|q
   ·subst q;exact .inr e
   ·exact .inr (VL e q)
  ·refine⟨m,D7 _ hm,λx hx=>(P9.mp hx).elim (λz=> ?_) λz=>low x z⟩;subst z;exact .inr e
theorem GB: ∀a b:G0 P2,HT.ltPs (a.map .int) (b.map .int)=HT.zZ a b
 | [],[]=>rfl
 | [],_::_=>rfl
 |_::_,[]=>rfl
 |x::a,y::b=>by
  show (if (x==y)=true then HT.ltPs (a.map .int) (b.map .int) else decide (x<y))=if x=y then HT.zZ a b else decide (x<y)
  rw [GB a b]
  by_cases c:x=y
  ·rw [R1 c,R1 (by simpa using c)]
  ·rw [R3 c,R3 (by simpa using c)]
theorem GC: ∀a b:G0 P2,HT.alks (a.map .int) (b.map .int)=true
 | [],_=>by unfold HT.alks;rfl
 |_::_,[]=>rfl
 |x::a,y::b=>by
  show (true&&HT.alks (a.map .int) (b.map .int))=true;rw [GC a b];rfl
theorem Xc: ∀A B:G0 (G0 P2),HT.ltPs (A.map yT) (B.map yT)=wq A B
 | [],[]=>rfl
 | [],_::_=>rfl
 |_::_,[]=>rfl
 |a::A,b::B=>by
  show (if M9 (yT a) (yT b)=true then HT.ltPs (A.map yT) (B.map yT) else HT.ltPs (a.map .int) (b.map .int))=if a=b then wq A B else HT.zZ a b
  rw [RL,Xc A B,GB]
  by_cases c:a=b
  ·rw [R1 (S1 c),R1 c]
  ·rw [R3 (by rw [T3 c];exact D8),R3 c]
theorem Qr (A B:G0 (G0 P2)):HT.ltP (Uo A) (Uo B)=wq A B:=Xc A B
theorem Xd: ∀A B:G0 (G0 P2),HT.alks (A.map yT) (B.map yT)=true
 | [],_=>by unfold HT.alks;rfl
 |_::_,[]=>rfl
 |a::A,b::B=>by
  show (HT.alks (a.map .int) (b.map .int)&&HT.alks (A.map yT) (B.map yT))=true;rw [GC,Xd A B];rfl
theorem LV (A B:G0 (G0 P2)):HT.alk (Uo A) (Uo B)=true:=Xd A B
def we (n:G8):G8->G0 (G0 G8)
 |0=> [[]]
 |k+1=>(we n k).flatMap λo=>((P7 n).filter λp=> !decide (p∈o)).map λp=>o++ [p]
variable {n:G8}
theorem Mn: ∀ {k:G8} {o:G0 G8},o∈we n k->o.length=k/\ ∀x∈o,x<n
 |0,o,h=>by rw [P4.mp h];exact⟨rfl,λx hx=>by cases hx⟩
 |k+1,o,h=>by
  obtain⟨p,hp,ho⟩:=eL.mp h;obtain⟨x,hx,rfl⟩:=S2.mp ho;obtain⟨a,b⟩:=Mn hp;refine⟨by rw [D9,a];rfl,λy hy=> ?_⟩;rcases T4.mp hy with z|z
  ·exact b y z
  ·rw [P4.mp z];exact S5.mp (E1.mp hx).1
theorem GD: ∀n,n<6-> ∀k,k<6->(we n k).length<=120:=by decide +kernel
theorem Mo: ∀n,n<6->((we n n).all λo=>o.isPerm (P7 n))=true:=by decide +kernel
theorem Xe (h5:n<=5){o:G0 G8}(h:o∈we n n):Ordr n o:=List.isPerm_iff.mp (M8.mp (Mo n (by omega)) o h)
theorem Xf {o:G0 G8}(d:o.Nodup)(lt: ∀x∈o,x<n): ∀k,k<=o.length->o.take k∈we n k
 |0,_=>by rw [List.take_zero];exact P4.mpr rfl
 |k+1,h=>by
  have hk:k<o.length:=h;refine eL.mpr ⟨o.take k,Xf d lt k (by omega),S2.mpr ⟨o[k],E1.mpr ⟨S5.mpr (lt _ (A1 hk)),?_⟩,by rw [C0,P8 hk];rfl⟩⟩;rw [iG,i5];intro z;obtain⟨j,hj,e⟩:=List.mem_take_iff_getElem.mp z;have a:=d.idxOf_getElem j (by omega);have b:=d.idxOf_getElem k hk;rw [e,b] at a;omega
theorem Xg {o:G0 G8}(h:Ordr n o):o∈we n n:=by
 have:=Xf h.nodup (λx hx=>S5.mp (h.mem_iff.mp hx)) n (by rw [h.ord.len];exact P1 _)
 rwa [O2 (by rw [h.ord.len];exact P1 _)] at this
def Orb (n:G8)(M x:G0 (G0 P2)):Prop:= ∃o,Ordr n o/\x=NU n o M
def Lst (n:G8)(M m:G0 (G0 P2)):Prop:=Orb n M m/\ ∀x,Orb n M x->x=m\/wq m x=true
theorem Lst.only {M m k:G0 (G0 P2)}(a:Lst n M m)(b:Lst n M k):m=k:=by
 rcases a.2 k b.1 with e|e
 ·exact e.symm
 ·rcases b.2 m a.1 with e'|e'
  ·exact e'
  ·rw [Mm e] at e';cases e'
theorem CG {e:G8}{M m:G0 (G0 P2)}(h5:n<=5)(hm:m∈(we n n).map λo=>NU n o M)(low: ∀x∈(we n n).map λo=>NU n o M,x=m\/wq m x=true):Lst n M m:=by
 obtain⟨o,ho,rfl⟩:=S2.mp hm;exact⟨⟨o,Xe h5 ho,rfl⟩,λx ⟨p,hp,e⟩=>low x (S2.mpr ⟨p,Xg hp,e.symm⟩)⟩
section
variable {α β:Type}{i i':G8}{js:G0 G8}{ti ti':TID}{te:TED}{σ:SD}{h:HD}{Q:KD}{j:ItD}
theorem ux {tt:TTD}(xs:G0 α)(c:α->D)(ys:α->G0 β)(c':β->D)(ok:α->β->N0)(g:α->β->D)(hz:(xs.flatMap ys).length<=1000)(hj:j h=some (xs.map c))(ht: ∀R:ItD->HD->Prop,R j h->ti σ h R)
 (hin: ∀x∈xs,∀R:ItD->HD->Prop,R (λ_=>some ((ys x).map c')) h->ti' ((ze js σ).set i (some (c x))) h R)
 (hp: ∀x∈xs,∀y∈ys x,∀Q':N0->HD->Prop,Q' (ok x y) h->tt (((ze js σ).set i (some (c x))).set i' (some (c' y))) h Q')
 (he: ∀x∈xs,∀y∈ys x,∀Q':KD,Q' (g x y) h->te (((ze js σ).set i (some (c x))).set i' (some (c' y))) h Q')(hq: ∀p,h p=none->Q (.lst p) (wc h p (xs.flatMap λx=>((ys x).filter (ok x)).map (g x)))):NF (bN i) js ti Zl i' ti' tt te σ h Q:=by
 have fl: ∀x k,(((ys x).take k).filter (ok x)).length<=(ys x).length:=λx k=>T9 (mB _ _) (by rw [F3];exact V4 _ _)
 have len: ∀l:G0 α,(l.flatMap λx=>((ys x).filter (ok x)).map (g x)).length<=(l.flatMap ys).length:=λl=>by
  induction l with
  |nil=>exact P1 _
  |cons x l ih=>
   rw [J0,J0,D9,D9,G9];have:=mB (ok x) (ys x);omega
 have lek: ∀k,((xs.take k).flatMap ys).length<=(xs.flatMap ys).length:=λk=>by
  conv=>rhs;rw [<-dW k xs,E3,D9]
  omega
 have lek1: ∀k x,xs[k]? =some x->((xs.take k).flatMap ys).length+(ys x).length<=(xs.flatMap ys).length:=λk x hx=>by
  have:=lek (k+1);rw [C0,hx,E3,D9] at this;simpa using this
 refine ht _ ⟨xs.length,λk zs h'=>h'=h/\zs=(xs.take k).flatMap λx=>((ys x).filter (ok x)).map (g x),⟨rfl,by simp⟩,?_⟩;rintro k zs h' ⟨rfl,rfl⟩;refine⟨M5 (jO (T9 (len _) (T9 (lek k) hz))),xs.map c,hj,by simp,λhl p hp=> ?_,λd hd=>⟨_,rfl,?_⟩⟩
 ·rw [O2 (by simpa using hl)];exact hq p hp
 ·unfold Zl;dsimp only;rw [R1 rfl];rw [D6] at hd;cases hx:xs[k]? with
  |none=>rw [hx] at hd;cases hd
  |some x=>
   rw [hx] at hd;cases hd;have xm:=M3 hx;have r1:=lek1 k x hx;refine hin x xm _ ⟨(ys x).length,λm zs h2=>h2=h'/\zs=((xs.take k).flatMap λx=>((ys x).filter (ok x)).map (g x))++(((ys x).take m).filter (ok x)).map (g x),⟨rfl,by simp⟩,?_⟩;rintro m zs h2 ⟨rfl,rfl⟩;refine⟨?_,(ys x).map c',rfl,by simp,λhl=>⟨h2,Sub.refl _,rfl,?_⟩,λd hd=> ?_⟩
   ·rw [D9,G9];have a:=len (xs.take k);have b:=fl x m;exact M5 (jO (by omega))
   ·have hm:(ys x).take m=ys x:=O2 (by simpa using hl);rw [hm,C0,hx,E3];simp
   ·rw [D6] at hd;cases hy:(ys x)[m]? with
    |none=>rw [hy] at hd;cases hd
    |some y=>
     rw [hy] at hd;cases hd;have ym:=M3 hy;refine hp x xm y ym _ ?_;cases e:ok x y with
     |true=>
      refine Vj (he x xm y ym _ ⟨h2,Sub.refl _,rfl,?_⟩);rw [C0,hy];simp [e]
     |false=>
      refine vv ⟨h2,Sub.refl _,rfl,?_⟩;rw [C0,hy];simp [e]
end
theorem BD {xs:G0 (G0 (G0 P2))}{m:G0 (G0 P2)}{A:G5}{h:HD}(hm:m∈xs)(low: ∀x∈xs,x=m\/wq m x=true)(kA:h A=some (xs.map jG)): ∃ys:G0 (D×C4),h A=some (ys.map (·.1))/\(∀x∈ys,ToP h x.1 x.2/\x.2.canLay0=true/\x.2.depth<=60/\ ∀y∈ys,HT.alk x.2 y.2=true)/\(jG m,Uo m)∈ys/\(∀x∈ys,x=(jG m,Uo m)\/(HT.ltP (Uo m) x.2=true/\HT.ltP x.2 (Uo m)=false))/\HT.ltP (Uo m) (Uo m)=false:=by
 refine⟨xs.map (λU=>(jG U,Uo U)),by rw [kA,N7];rfl,?_,S2.mpr ⟨_,hm,rfl⟩,?_,by rw [Qr];exact Ml m⟩
 ·intro x hx;obtain⟨U,hU,rfl⟩:=S2.mp hx;refine⟨RH _ U,?_,?_,λy hy=> ?_⟩
  ·show C7 (.tuple (U.map yT))=true;simp only [C7];exact yD U
  ·show O3 (.tuple (U.map yT))<=60;have:=vy U;simp only [O3];omega
  ·obtain⟨W,hW,rfl⟩:=S2.mp hy;exact LV U W
 ·intro x hx;obtain⟨U,hU,rfl⟩:=S2.mp hx;rcases low U hU with e|e
  ·exact .inl (by rw [e])
  ·exact .inr ⟨by rw [Qr];exact e,by rw [Qr];exact Mm e⟩
theorem Mp:we n n≠ []:=λz=>by
 have:=Xg (n:=n) (List.Perm.refl (P7 n));rw [z] at this;cases this
def HE:RDn:=λds h Q=>(∃i j:P2,ds= [.int i,.int j]/\Q (.int (if j<i then j else i)) h)\/KP ds h Q
theorem LW {X:Cx}{k:G8}(hc:X.calm=true)(hr:Room k X.A):vF X (.builtin "min") HE:=by
 intro pins s σ H xs us Q I r h;obtain⟨ds,h,Qd,rd,rh,z,post⟩:=h;rcases z with ⟨i,j,rfl,z⟩|z
 ·refine DM hc pins s σ H xs us Q I r ⟨i,j,?_,post (.int (if j<i then j else i)) _ _ _ (.refl H) rh rfl z⟩;obtain⟨v,vr,e,r1,r2⟩:=(show ∃v r,xs=v::r/\RelD X.K H (.int i) v/\RelDs X.K H [.int j] r from rd);obtain⟨w,e2,r3⟩:=jA r2;rw [e,e2,show v= .int i from r1,show w= .int j from r3]
 ·exact LU hc hr pins s σ H xs us Q I r ⟨ds,h,Qd,rd,rh,z,post⟩
section
variable {α:Type}{i:G8}{js:G0 G8}{ti:TID}{te:TED}{σ:SD}{h:HD}{Q:KD}
theorem Sl (xs:G0 α)(c g:α->D)(P:G5->HD->Prop)(hz:xs.length<=1000)(ht: ∀R:ItD->HD->Prop,(∀A h1,P A h1->R (λh=>h A) h1)->ti σ h R)(hP: ∀A h1,P A h1->h1 A=some (xs.map c))(he: ∀A h1,P A h1-> ∀x∈xs,∀Q':KD,Q' (g x) h1->te ((ze js σ).set i (some (c x))) h1 Q')(hq: ∀A h1,P A h1-> ∀p,h1 p=none->Q (.lst p) (wc h1 p (xs.map g))):XQ (bN i) js ti Zl te σ h Q:=
 ht _ λA h1 hp=>(lcA (ti:=λ_ h R=>R (λh=>h A) h) (j:=λh=>h A) xs c g hz (hP A h1 hp) (λR r=>r) (he A h1 hp) (hq A h1 hp):XQ (bN i) js (λ_ h R=>R (λh=>h A) h) Zl te σ h1 Q)
end
end L2
namespace L2
open PySem PySem.Spec PyProof.Rows
def s5:G8->G8
 |0=>0
 |d+1=>5*s5 d+1
theorem Mq: ∀d,4*s5 d+1=5^d
 |0=>rfl
 |d+1=>by have:=Mq d;rw [J4];show 4*(5*s5 d+1)+1=_;omega
theorem CH (a:G8): ∀b,s5 (a+b)=5^b*s5 a+s5 b
 |0=>by show s5 a=1*s5 a+0;omega
 |b+1=>by
  show 5*s5 (a+b)+1=5^(b+1)*s5 a+(5*s5 b+1);rw [CH a b,J4,c9,X7 (5^b) 5,nU];omega
theorem CI: ∀d,s5 d%2=d%2
 |0=>rfl
 |d+1=>by have:=CI d;show (5*s5 d+1)%2=_;omega
theorem Sn (m:G8):s5 (2*m)=2*(s5 m*(2*s5 m+1)):=by
 rw [Nat.two_mul,CH,<-Mq m];have:(4*s5 m+1)*s5 m+s5 m=2*(s5 m*(2*s5 m+1)):=by
  rw [mQ,c9,c9];have e1:4*s5 m*s5 m=4*(s5 m*s5 m):=nU ..;have e2:s5 m*(2*s5 m)=2*(s5 m*s5 m):=by rw [Nat.mul_left_comm]
  rw [e1,e2];omega
 exact this
theorem CJ (k x:G8):Nat.Coprime (2^k) (2*x+1):=by
 refine Nat.Coprime.pow_left k ?_;show rN 2 (2*x+1)=1;rw [Nat.gcd_rec,show (2*x+1)%2=1 by omega];rfl
theorem CK: ∀ (k d:G8),2^k∣s5 d->2^k∣d
 |0,d,_=>by rw [dP];exact Nat.one_dvd _
 |k+1,d,h=>by
  have ev:d%2=0:=by
   rw [<-CI d];exact lO (Nat.dvd_trans ⟨2^k,by rw [J4,X7]⟩ h)
  obtain⟨m,rfl⟩: ∃m,d=2*m:=⟨d / 2,by omega⟩;rw [Sn,J4,X7] at h;have h1:2^k∣s5 m*(2*s5 m+1):=Nat.dvd_of_mul_dvd_mul_left (by decide) h;have h2:=CK k m ((CJ k (s5 m)).dvd_of_dvd_mul_right h1);rw [J4,X7];exact Nat.mul_dvd_mul_left 2 h2
def f5 (N:G8):G8->G8->G8
 |0,a=>a
 |d+1,a=>(f5 N d a*5+1)%N
variable {N:G8}
theorem So (a:G8): ∀d,f5 N d a%N=(5^d*a+s5 d)%N
 |0=>by show a%N=(1*a+0)%N;rw [Nat.one_mul,bY]
 |d+1=>by
  show (f5 N d a*5+1)%N%N=(5^(d+1)*a+(5*s5 d+1))%N;rw [xU,mV,xV,So a d,<-xV,<-mV,mQ,J4]
  congr 1
  have:5^d*a*5=5^d*5*a:=by rw [Nat.mul_right_comm]
  omega
theorem Sr (hN:0<N){a:G8}(ha:a<N): ∀d,f5 N d a<N
 |0=>ha
 |d+1=>Y7 _ hN
theorem CL (a:G8)(b:G8): ∀d,f5 N (b+d) a=f5 N d (f5 N b a)
 |0=>rfl
 |d+1=>by show (f5 N (b+d) a*5+1)%N=_;rw [CL a b d];rfl
variable {k:G8}
theorem BE {a d:G8}(ha:a<2^k)(d0:0<d)(hd:d<2^k):f5 (2^k) d a≠a:=λe=>by
 have e1:=So (N:=2^k) a d;rw [e] at e1;have le:a<=5^d*a+s5 d:=T9 (Nat.le_mul_of_pos_left a (qS (by decide))) (qD _ _);have dv:2^k∣5^d*a+s5 d-a:=Nat.dvd_of_mod_eq_zero (Nat.sub_mod_eq_zero_of_mod_eq e1.symm);have e2:5^d*a+s5 d-a=s5 d*(2*(2*a)+1):=by
  rw [<-Mq d,mQ,c9];have:4*s5 d*a=s5 d*(2*(2*a)):=by
   rw [X7 4,nU];congr 1;omega
  omega
 rw [e2] at dv;have:=Nat.le_of_dvd d0 (CK k d ((CJ k (2*a)).dvd_of_dvd_mul_right dv));omega
theorem LX {a:G8}(hN:N=2^k)(ha:a<N): ∀ {i j:G8},i<j->j<N->f5 N i a≠f5 N j a:=λ{i j} ij jN e=>by
 subst hN;have:=CL (N:=2^k) a i (j-i);rw [X2 (M5 ij)] at this;exact BE (Sr (qS (by decide)) ha i) (by omega) (by omega) ((this.symm.trans e.symm))
theorem LY: ∀ {xs:G0 G8},xs.Nodup->(∀x∈xs,x<N)->N<=xs.length-> ∀e,e<N->e∈xs:=λ{xs} nd lt le e he=>by
 have p:(P7 N).length<=(xs.filter λx=>decide (x<N)).length:=by
  rw [T1,List.filter_eq_self.mpr λx hx=>S1 (lt x hx)];exact le
 refine Z4 λno=> ?_
 have key: ∀ (ys zs:G0 G8),ys.Nodup->(∀y∈ys,y∈zs)->ys.length<=zs.length:=by
  intro ys
  induction ys with
  |nil=>intro zs _ _;exact L0 _
  |cons y ys ih=>
   intro zs d s;obtain⟨d1,d2⟩:=O9.mp d;have hy:=s y P3;have:=ih (zs.erase y) d2 λx hx=>(bO (show x≠y from λq=>d1 (by rw [<-q];exact hx))).mpr (s x (D7 _ hx))
   rw [aC hy] at this;have:0<zs.length:=aQ hy;rw [D4];omega
 have:=key (e::xs) (P7 N) (O9.mpr ⟨no,nd⟩) λy hy=>by
  rcases P9.mp hy with q|q
  ·rw [q];exact S5.mpr he
  ·exact S5.mpr (lt y q)
 rw [D4,T1] at this;omega
theorem CM {a e:G8}(hN:N=2^k)(ha:a<N)(he:e<N): ∃m,m<N/\f5 N m a=e:=by
 have nd:((P7 N).map λm=>f5 N m a).Nodup:=by
  rw [sL,Z9];refine K5.mpr λi j hi hj ij=> ?_
  rw [cT,cT];rw [T1] at hj;exact LX hN ha ij hj
 have:=LY nd (λx hx=>by
  obtain⟨m,_,rfl⟩:=S2.mp hx;exact Sr (by rw [hN];exact qS (by decide)) ha m) (by rw [G9,T1];exact P1 _) e he
 obtain⟨m,hm,e⟩:=S2.mp this;exact⟨m,S5.mp hm,e⟩
def zG (t:T7):G8->K8->K8
 |0,p=>p
 |n+1,p=>zG t n (t.advance p)
theorem JD (t:T7): ∀ (a b:G8) (p:K8),zG t (a+b) p=zG t b (zG t a p)
 |0,b,p=>by rw [lI];rfl
 |a+1,b,p=>by rw [oK];exact JD t a b _
def Qs (t:T7)(i q:G8)(d:P0 G8):K8:= {j:=i,more:=L9 t.mask i-i,i:=i,perturb:=q,dummy:=d}
theorem Jb (t:T7): ∀ (m:G8) (p:K8),p.more=m->zG t (m+1) p=Qs t ((p.i*5+1+p.perturb / 32)%(t.mask+1)) (p.perturb / 32) p.dummy
 |0,p,e=>by
  show t.advance p=_;unfold Y1;rw [R3 (by omega)];rfl
 |m+1,p,e=>by
  have a:t.advance p= {p with j:=p.j+1,more:=p.more-1}:=by unfold Y1;rw [R1 (by omega)]
  show zG t (m+1) (t.advance p)=_;rw [a,Jb t m _ (by show p.more-1=m;omega)]
theorem Mr (mask i:G8):L9 mask i-i<=9:=by unfold L9;split<;>omega
def Up (N:G8)(b:G8):G8->G8
 |0=>b%N
 |L+1=>(Up N b L*5+1+b / 32^(L+1))%N
theorem Ms (t:T7)(h:P2): ∀L,∃n,n<=10*L/\zG t n (t.probeStart h)=Qs t (Up (t.mask+1) (R8 h) L) (R8 h / 32^L) none
 |0=>⟨0,P1 _,by rw [dP,mW];rfl⟩
 |L+1=>by
  obtain⟨n,hn,e⟩:=Ms t h L;have s:=Mr t.mask (Up (t.mask+1) (R8 h) L);refine⟨n+(L9 t.mask (Up (t.mask+1) (R8 h) L)-Up (t.mask+1) (R8 h) L+1),by omega,?_⟩;rw [JD,e];refine(Jb t _ (Qs t _ _ none) rfl).trans ?_;show Qs t ((Up (t.mask+1) (R8 h) L*5+1+R8 h / 32^L / 32)%(t.mask+1)) (R8 h / 32^L / 32) none=_;rw [aR,<-J4];rfl
theorem LZ (h:P2):R8 h<2^64:=by unfold R8;omega
theorem VM (h:P2): ∀m,Up N (R8 h) (13+m)=f5 N m (Up N (R8 h) 13)
 |0=>rfl
 |m+1=>by
  show (Up N (R8 h) (13+m)*5+1+R8 h / 32^(13+m+1))%N=(f5 N m (Up N (R8 h) 13)*5+1)%N;rw [VM h m,Nat.div_eq_of_lt (S0 (LZ h) ?_),bY];exact T9 (show 2^64<=32^13 by decide) (V9 (by decide) (by omega))
variable {t:T7}
theorem BF (hN:t.mask+1=2^k)(h:P2){e:G8}(he:e<=t.mask): ∃n,n<10*O4 t.mask/\(zG t n (t.probeStart h)).j=e:=by
 obtain⟨m,hm,em⟩:=CM hN (a:=Up (t.mask+1) (R8 h) 13) (Y7 _ (bX _)) (show e<t.mask+1 by omega);obtain⟨n,hn,en⟩:=Ms t h (13+m);refine⟨n,by unfold O4;omega,?_⟩;rw [en,<-em,<-VM h m];rfl
theorem Mt {P:G8->Prop}: ∀n,P n-> ∃m,m<=n/\P m/\ ∀k,k<m-> ¬P k:=λn=>by
 induction n using G8.strongRecOn with
 |ind n ih=>
  intro h;rcases G0t (∃k,k<n/\P k) with ⟨k,lt,pk⟩|no
  ·obtain⟨m,a,b,c⟩:=ih k lt pk;exact⟨m,by omega,b,c⟩
  ·exact⟨n,P1 _,h,λk lt pk=>no ⟨k,lt,pk⟩⟩
variable {h:P2}
theorem CO {f:G8->P2}(d:t.dummies= #[]): ∀ (n fuel:G8) (p:K8),n<fuel->t.slot (zG t n p).j= .empty->(∀k,k<n->t.slot (zG t k p).j≠ .empty)->p.dummy=none->
 (U4 t f h fuel p=some (.empty (zG t n p).j none)/\ ∀k,k<n-> ∀i,t.slot (zG t k p).j= .live i->f i≠h)\/
 (∃k i,k<n/\t.slot (zG t k p).j= .live i/\f i=h/\(∀k',k'<k-> ∀i',t.slot (zG t k' p).j= .live i'->f i'≠h)/\U4 t f h fuel p=some (.candidate (zG t k p).j i (zG t (k+1) p)))
 |_,0,_,lt,_,_,_=>absurd lt (W9 _)
 |0,fuel+1,p,_,he,_,hd=>by
  refine .inl ⟨?_,λk hk=>absurd hk (W9 _)⟩;have he:t.slot p.j= .empty:=he;unfold U4;rw [he,hd];rfl
 |n+1,fuel+1,p,lt,he,ne,hd=>by
  have h0:t.slot p.j≠ .empty:=ne 0 (bX _);cases hs:t.slot p.j with
  |empty=>exact absurd hs h0
  |dummy=>exact absurd hs (HT.YX d)
  |live i=>
   by_cases e:f i=h
   ·refine .inr ⟨0,i,bX _,hs,e,λk' hk=>absurd hk (W9 _),?_⟩;unfold U4;rw [hs];show (if (f i==h)=true then _ else _)=_;rw [R1 (by rw [e];exact K4 h)];rfl
   ·have ad:(t.advance p).dummy=none:=by unfold Y1;split<;>exact hd
    have step:U4 t f h (fuel+1) p=U4 t f h fuel (t.advance p):=by
     conv=>lhs;unfold U4
     rw [hs];show (if (f i==h)=true then _ else _)=_;rw [R3 (by simpa using e)]
    rcases CO d n fuel (t.advance p) (by omega) he (λk hk=>ne (k+1) (by omega)) ad with ⟨a,b⟩|⟨k,i',hk,a,b,c,g⟩
    ·refine .inl ⟨by rw [step];exact a,λk hk i2 hi=> ?_⟩;cases k with
     |zero=>rw [show t.slot (zG t 0 p).j= .live i from hs] at hi;cases hi;exact e
     |succ k=>exact b k (by omega) i2 hi
    ·refine .inr ⟨k+1,i',by omega,a,b,λk' hk' i2 hi=> ?_,by rw [step];exact g⟩;cases k' with
     |zero=>rw [show t.slot (zG t 0 p).j= .live i from hs] at hi;cases hi;exact e
     |succ k'=>exact c k' (by omega) i2 hi
theorem Qt (hN:t.mask+1=2^k)(h:P2){e:G8}(he:e<=t.mask)(em:t.slot e= .empty): ∃n,n<10*O4 t.mask/\t.slot (zG t n (t.probeStart h)).j= .empty/\ ∀m,m<n->t.slot (zG t m (t.probeStart h)).j≠ .empty:=by
 obtain⟨n,hn,ej⟩:=BF hN h he;obtain⟨m,a,b,c⟩:=Mt (P:=λn=>t.slot (zG t n (t.probeStart h)).j= .empty) n (by rw [ej];exact em);exact⟨m,by omega,b,c⟩
theorem Mu (r:t.place.toList.Pairwise (· < ·)){i j:G8}(h:t.place[i]? =some j):t.slot j= .live i:=by
 obtain⟨lo,hi,_⟩:=HT.Jz r j;have e:S8 t.place j=i:=by
  rcases bF (S8 t.place j) i with z|z|z
  ·obtain⟨hlt,ev⟩:=A2.mp h;have hb:S8 t.place j<t.place.size:=by omega
   have a:=hi (S8 t.place j) (P1 _) t.place[S8 t.place j] (V2 hb);have b:=K5.mp r (S8 t.place j) i (by simpa using hb) (by simpa using hlt) z;simp only [bP] at b;omega
  ·exact z
  ·exact absurd (lo i z j h) (N8 _)
 unfold iP;dsimp only;rw [e,h,R1 (K4 _)]
theorem Mv {i j:G8}(h:t.slot j= .live i):t.place[i]? =some j:=by
 unfold iP at h;dsimp only at h;split at h
 ·rename_i c;injection h with h
  subst h;exact eq_of_beq c
 ·split at h<;>cases h
theorem JF (d:t.dummies= #[])(r:t.place.toList.Pairwise (· < ·)){j:G8}:t.slot j= .empty↔ ∀i:G8,t.place[i]? ≠some j:=by
 constructor
 ·intro h i e;rw [Mu r e] at h;cases h
 ·intro h;cases e:t.slot j with
  |empty=>rfl
  |dummy=>exact absurd e (HT.YX d)
  |live i=>exact absurd (Mv e) (h i)
variable {u:T7}
theorem BG (e:t.mask=u.mask)(p:K8):t.advance p=u.advance p:=by
 unfold Y1;rw [e]
theorem va (e:t.mask=u.mask): ∀ (n:G8) (p:K8),zG t n p=zG u n p
 |0,_=>rfl
 |n+1,p=>by show zG t n (t.advance p)=zG u n (u.advance p);rw [BG e,va e n]
theorem vA (e:t.mask=u.mask)(h:P2):t.probeStart h=u.probeStart h:=by
 unfold x8;rw [e]
def Way (t:T7)(h:P2)(j:G8):Prop:= ∃n,(zG t n (t.probeStart h)).j=j/\ ∀m,m<n->t.slot (zG t m (t.probeStart h)).j≠ .empty
theorem Way.more (e:t.mask=u.mask)(f: ∀j,u.slot j= .empty->t.slot j= .empty){h:P2}{j:G8}(w:Way t h j):Way u h j:=by
 obtain⟨n,a,b⟩:=w;refine⟨n,by rw [<-vA e,<-va e];exact a,λm hm z=>b m hm ?_⟩;rw [<-vA e,<-va e] at z;exact f _ z
theorem CP {α:Type}(xs:G0 α)(x:α){p:G8}(hp:p<=xs.length)(i:G8):(xs.take p++x::xs.drop p)[i]? =if i<p then xs[i]? else if i=p then some x else xs[i-1]? :=by
 have tl:(xs.take p).length=p:=by rw [F3];omega
 by_cases a:i<p
 ·rw [R1 a,L5 (by omega),oH,R1 a]
 ·rw [R3 a,Q7 (by omega),tl]
  by_cases b:i=p
  ·rw [R1 b,b,u7];rfl
  ·rw [R3 b,show i-p=(i-p-1)+1 by omega,B8,gR]
   congr 1;omega
structure Laid (t:T7)(hs:G0 P2):Prop where
 pow: ∃k,t.mask+1=2^k
 big:7<=t.mask
 dum:t.dummies= #[]
 rise:t.place.toList.Pairwise (· < ·)
 size:t.place.size=hs.length
 room:hs.length<=t.mask
 low: ∀ (i j:G8),t.place[i]? =some j->j<=t.mask
 way: ∀ (i:G8) (h:P2) (j:G8),hs[i]? =some h->t.place[i]? =some j->Way t h j
variable {hs:G0 P2}
theorem Laid.free (l:Laid t hs): ∃e,e<=t.mask/\t.slot e= .empty:=by
 refine Z4 λno=> ?_
 have nd:t.place.toList.Nodup:=l.rise.imp λ{a b} z=>R5 z
 have all: ∀e,e<t.mask+1->e∈t.place.toList:=λe he=>by
  refine Z4 λz=>no ⟨e,by omega,(JF l.dum l.rise).mpr λi q=>z ?_⟩
  exact mI.mpr (Array.mem_of_getElem? q)
 have key: ∀ (ys zs:G0 G8),ys.Nodup->(∀y∈ys,y∈zs)->ys.length<=zs.length:=by
  intro ys
  induction ys with
  |nil=>intro zs _ _;exact L0 _
  |cons y ys ih=>
   intro zs d s;obtain⟨d1,d2⟩:=O9.mp d;have hy:=s y P3;have:=ih (zs.erase y) d2 λx hx=>(bO (show x≠y from λq=>d1 (by rw [<-q];exact hx))).mpr (s x (D7 _ hx))
   rw [aC hy] at this;have:0<zs.length:=aQ hy;rw [D4];omega
 have:=key (P7 (t.mask+1)) t.place.toList eJ λy hy=>all y (S5.mp hy)
 rw [T1,D2,l.size] at this;have:=l.room;omega
theorem Laid.search (l:Laid t hs)(h:P2): ∃n,n<10*O4 t.mask/\t.slot (zG t n (t.probeStart h)).j= .empty/\(∀m,m<n->t.slot (zG t m (t.probeStart h)).j≠ .empty)/\ ∀i:G8,hs[i]? =some h-> ∃m,m<n/\t.slot (zG t m (t.probeStart h)).j= .live i:=by
 obtain⟨k,hk⟩:=l.pow;obtain⟨e,he,em⟩:=l.free;obtain⟨n,a,b,c⟩:=Qt hk h he em;refine⟨n,a,b,c,λi hi=> ?_⟩;obtain⟨j,hj⟩: ∃j,t.place[i]? =some j:=⟨t.place[i]'(by rw [l.size];exact(R0.mp hi).1),V2 _⟩;obtain⟨m,x,y⟩:=l.way i h j hi hj;have lv:t.slot (zG t m (t.probeStart h)).j= .live i:=by rw [x];exact Mu l.rise hj
 refine⟨m,?_,lv⟩;rcases bF m n with z|z|z
 ·exact z
 ·rw [z,b] at lv;cases lv
 ·exact absurd b (y n z)
theorem Mw (t:T7)(j:G8):(t.put j).1.place.toList=t.place.toList.take (S8 t.place j)++j::t.place.toList.drop (S8 t.place j):=cK ..
theorem Mx (d:t.dummies= #[])(j:G8):(t.put j).1.dummies= #[]:=by
 show (if lM t.dummies j then _ else t.dummies)= #[];rw [d,R3 (by simp [lM])]
theorem Laid.put (l:Laid t hs){h:P2}{j:G8}(em:t.slot j= .empty)(jm:j<=t.mask)(w:Way t h j)(room:hs.length+1<=t.mask):Laid (t.put j).1 (hs.take (t.put j).2++h::hs.drop (t.put j).2):=by
 have pe:(t.put j).2=S8 t.place j:=rfl;have me:t.mask=(t.put j).1.mask:=rfl;have pl:=Mw t j;have hp:S8 t.place j<=t.place.size:=(HT.Jz l.rise j).2.2;have hp1:S8 t.place j<=t.place.toList.length:=by rw [D2];exact hp
 have hp2:S8 t.place j<=hs.length:=by rw [<-l.size];exact hp
 have rise:(t.put j).1.place.toList.Pairwise (· < ·):=HT.Qn l.rise (HT.PJ em);have at1: ∀i:G8,(t.put j).1.place[i]? =if i<S8 t.place j then t.place[i]? else if i=S8 t.place j then some j else t.place[i-1]? :=λi=>by
  have:=CP t.place.toList j hp1 i;rw [<-pl] at this;simpa using this
 have sl: ∀x,(t.put j).1.slot x= .empty->t.slot x= .empty:=λx hx=>by
  rw [JF (Mx l.dum j) rise] at hx;rw [JF l.dum l.rise];intro i e
  by_cases c:i<S8 t.place j
  ·exact hx i (by rw [at1,R1 c];exact e)
  ·exact hx (i+1) (by rw [at1,R3 (by omega),R3 (by omega)];exact e)
 rw [pe];refine⟨l.pow,l.big,Mx l.dum j,rise,?_,?_,λi x hx=> ?_,λi g x hg hx=> ?_⟩
 ·rw [<-D2,pl];simp only [D9,D4,F3,aF,D2];have:=l.size;omega
 ·show _<=t.mask;simp only [D9,D4,F3,aF];omega
 ·rw [at1] at hx;split at hx
  ·exact l.low _ _ hx
  ·split at hx
   ·injection hx with hx;subst hx;exact jm
   ·exact l.low _ _ hx
 ·rw [at1] at hx;rw [CP hs h hp2] at hg
  by_cases c:i<S8 t.place j
  ·rw [R1 c] at hg hx;exact(l.way i g x hg hx).more me sl
  ·rw [R3 c] at hg hx
   by_cases b:i=S8 t.place j
   ·rw [R1 b] at hg hx;injection hg with hg;injection hx with hx
    subst hg hx;exact w.more me sl
   ·rw [R3 b] at hg hx;exact(l.way (i-1) g x hg hx).more me sl
theorem PQ (a b:G8)(led:N0):Laid (.fresh a b led) []:=⟨⟨3,rfl⟩,P1 7,rfl,List.Pairwise.nil,rfl,L0 _,λi j h=>by simp [sM] at h,λi h j e=>by simp at e⟩
theorem CQ (t:T7): ∀ (k i q m j:G8) (d:P0 G8),k<=m->zG t k ⟨j,m,i,q,d⟩=⟨j+k,m-k,i,q,d⟩
 |0,i,q,m,j,d,_=>rfl
 |k+1,i,q,m,j,d,h=>by
  have a:t.advance ⟨j,m,i,q,d⟩=⟨j+1,m-1,i,q,d⟩:=by unfold Y1;rw [R1 (show m>0 by omega)]
  show zG t k (t.advance ⟨j,m,i,q,d⟩)=_;rw [a,CQ t k i q (m-1) (j+1) d (by omega)]
  congr 1<;>omega
def HF (t:T7)(E:G8->N0)(h:P2)(j:G8):Prop:= ∃n,(zG t n (t.probeStart h)).j=j/\ ∀m,m<n->E (zG t m (t.probeStart h)).j=false
variable {owner:M1 (P0 G8)}
theorem GE: ∀ (fuel L n:G8) {j:G8},zG t n (t.probeStart h)=Qs t (Up (t.mask+1) (R8 h) L) (R8 h / 32^L) none->(∀m,m<n->(owner.getD (zG t m (t.probeStart h)).j (some 0)).isNone=false)->
 O5 t.mask owner fuel (Up (t.mask+1) (R8 h) L) (R8 h / 32^L)=some j->(owner.getD j (some 0)).isNone=true/\HF t (λx=>(owner.getD x (some 0)).isNone) h j
 |0,_,_,_,_,_,e=>by cases e
 |fuel+1,L,n,j,hn,ne,e=>by
  unfold O5 at e;generalize hI:Up (t.mask+1) (R8 h) L=I at hn e;have run: ∀k,k<=L9 t.mask I-I->(zG t (n+k) (t.probeStart h)).j=I+k:=λk hk=>by
   rw [JD,hn];exact congrArg SetTable.Probe.j (CQ t k I _ _ I none hk)
  have re:I<=L9 t.mask I:=by unfold L9;split<;>omega
  split at e
  ·rename_i k hk;injection e with e
   subst e;obtain⟨a,b,c⟩:=List.find?_range_eq_some.mp hk;have kl:=S5.mp b;refine⟨a,n+k,run k (by omega),λm hm=> ?_⟩;rcases A8 m n with z|z
   ·exact ne m z
   ·have:=c (m-n) (by omega);have r:=run (m-n) (by omega);rw [X2 z] at r;show (owner.getD (zG t m (t.probeStart h)).j (some 0)).isNone=false;rw [r];simpa using this
  ·rename_i hk;have none:=oM.mp hk;have nx:=Jb t _ (Qs t I (R8 h / 32^L) .none) rfl;refine GE fuel (L+1) (n+(L9 t.mask I-I+1)) (j:=j) ?_ (λm hm=> ?_) ?_
   ·rw [JD,hn];refine nx.trans ?_;show Qs t ((I*5+1+R8 h / 32^L / 32)%(t.mask+1)) (R8 h / 32^L / 32) .none=_;rw [aR,<-J4,<-hI];rfl
   ·rcases A8 m n with z|z
    ·exact ne m z
    ·have:=none (m-n) (S5.mpr (by omega));have r:=run (m-n) (by omega);rw [X2 z] at r;rw [r];exact pJ.mpr this
   ·rw [show tW t.mask I (R8 h / 32^L)=((I*5+1+R8 h / 32^L / 32)%(t.mask+1),R8 h / 32^L / 32) from rfl] at e;dsimp only at e;rw [aR,<-J4,<-hI] at e;exact e
theorem Mz (hN:t.mask+1=2^k){e:G8}(he:e<=t.mask)(em:(owner.getD e (some 0)).isNone=true): ∃j,O5 t.mask owner (O4 t.mask) (R8 h%(t.mask+1)) (R8 h)=some j:=by
 obtain⟨m,hm,e1⟩:=CM hN (a:=Up (t.mask+1) (R8 h) 13) (Y7 _ (bX _)) (show e<t.mask+1 by omega);rw [<-VM h m] at e1;have go: ∀ (fuel L:G8),(∃L',L<=L'/\L'<L+fuel/\Up (t.mask+1) (R8 h) L'=e)-> ∃j,O5 t.mask owner fuel (Up (t.mask+1) (R8 h) L) (R8 h / 32^L)=some j:=by
  intro fuel
  induction fuel with
  |zero=>rintro L ⟨L',a,b,_⟩;omega
  |succ fuel ih=>
   rintro L ⟨L',a,b,c⟩;unfold O5;generalize hI:Up (t.mask+1) (R8 h) L=I;split
   ·rename_i k hk;exact⟨_,rfl⟩
   ·rename_i hk;have none:=oM.mp hk;have ne:I≠e:=λz=>by
     have re:I<=L9 t.mask I:=by unfold L9;split<;>omega
     have:=none 0 (S5.mpr (by omega));rw [bY,z] at this;exact this em
    have lt:L+1<=L':=by
     rcases A8 L L' with z|z
     ·exact z
     ·have:L=L':=by omega
      subst this;exact absurd (hI.symm.trans c) ne
    obtain⟨j,hj⟩:=ih (L+1) ⟨L',lt,by omega,c⟩;refine⟨j,?_⟩;rw [show tW t.mask I (R8 h / 32^L)=((I*5+1+R8 h / 32^L / 32)%(t.mask+1),R8 h / 32^L / 32) from rfl];dsimp only;rw [aR,<-J4,<-hI];exact hj
 have:=go (O4 t.mask) 0 ⟨13+m,L0 _,by unfold O4;omega,e1⟩;rw [dP,mW] at this;exact this
def emO (owner:M1 (P0 G8))(x:G8):N0:=(owner.getD x (some 0)).isNone
theorem emO_iff {x:G8}:emO owner x=true↔owner[x]? =some none:=by
 unfold emO;rw [bG];cases owner[x]? with
 |none=>simp
 |some o=>cases o<;>simp
structure Own (t:T7)(hs:G0 P2)(owner:M1 (P0 G8))(k:G8):Prop where
 size:owner.size=t.mask+1
 lt: ∀x i:G8,owner[x]? =some (some i)->i<k
 inj: ∀x y i:G8,owner[x]? =some (some i)->owner[y]? =some (some i)->x=y
 all: ∀i,i<k-> ∃x:G8,owner[x]? =some (some i)
 way: ∀ (x i:G8) (h:P2),owner[x]? =some (some i)->hs[i]? =some h->HF t (emO owner) h x
theorem Own.free (o:Own t hs owner k)(room:k<=t.mask): ∃e,e<=t.mask/\emO owner e=true:=by
 refine Z4 λno=> ?_
 have got: ∀x,x<t.mask+1-> ∃i,owner[x]? =some (some i):=λx hx=>by
  have hs':x<owner.size:=by rw [o.size];exact hx
  cases e:owner[x]? with
  |none=>rw [bR] at e;omega
  |some v=>
   cases v with
   |none=>exact absurd ⟨x,by omega,emO_iff.mpr e⟩ no
   |some i=>exact⟨i,rfl⟩
 have gi: ∀x,x<t.mask+1->owner[x]? =some (some (((owner[x]?).getD none).getD 0)):=λx hx=>by
  obtain⟨i,e⟩:=got x hx;rw [e];rfl
 have nd:((P7 (t.mask+1)).map λx=>((owner[x]?).getD none).getD 0).Nodup:=by
  rw [sL,Z9];refine K5.mpr λa b ha hb ab e=> ?_
  rw [cT,cT] at e;rw [T1] at ha hb;have x1:=gi a ha;have x2:=gi b hb;rw [e] at x1;have:=o.inj a b _ x1 x2;omega
 have:=US (m:=P7 k) nd λy hy=>by
  obtain⟨x,hx,rfl⟩:=S2.mp hy;exact S5.mpr (o.lt x _ (gi x (S5.mp hx)))
 rw [G9,T1,T1] at this;omega
variable {n:G8}
theorem Own.step (hN:t.mask+1=2^n)(o:Own t hs owner k)(room:k<=t.mask)(hk:hs[k]? =some h): ∃j,O5 t.mask owner (O4 t.mask) (R8 h%(t.mask+1)) (R8 h)=some j/\Own t hs (owner.setIfInBounds j (some k)) (k+1):=by
 obtain⟨e,he,em⟩:=o.free room;obtain⟨j,hj⟩:=Mz (h:=h) hN he em;have w:=GE (t:=t) (owner:=owner) (h:=h) (O4 t.mask) 0 0 (j:=j) (by rw [dP,mW];rfl) (λm hm=>absurd hm (W9 _)) (by rw [dP,mW];exact hj);have jn:owner[j]? =some none:=emO_iff.mp w.1;have js:j<owner.size:=(A2.mp jn).1;have at1: ∀x:G8,(owner.setIfInBounds j (some k))[x]? =if j=x then some (some k) else owner[x]? :=λx=>by
  rw [Array.getElem?_setIfInBounds]
  by_cases c:j=x
  ·rw [R1 c,R1 c,R1 js]
  ·rw [R3 c,R3 c]
 have old: ∀x i:G8,(owner.setIfInBounds j (some k))[x]? =some (some i)->(x=j/\i=k)\/(x≠j/\owner[x]? =some (some i)):=λx i hx=>by
  rw [at1] at hx;split at hx
  ·rename_i c;injection hx with hx;injection hx with hx;exact .inl ⟨c.symm,hx.symm⟩
  ·rename_i c;exact .inr ⟨O0 c,hx⟩
 have emm: ∀x,emO owner x=false->emO (owner.setIfInBounds j (some k)) x=false:=λx hx=>by
  refine pJ.mpr λz=> ?_
  rw [emO_iff,at1] at z;split at z
  ·cases z
  ·rw [emO_iff.mpr z] at hx;cases hx
 refine⟨j,hj,by rw [Array.size_setIfInBounds];exact o.size,λx i hx=> ?_,λx y i hx hy=> ?_,λi hi=> ?_,λx i g hx hg=> ?_⟩
 ·rcases old x i hx with ⟨_,e⟩|⟨_,e⟩
  ·omega
  ·have:=o.lt x i e;omega
 ·rcases old x i hx with ⟨a,b⟩|⟨a,b⟩<;>rcases old y i hy with ⟨c,d⟩|⟨c,d⟩
  ·rw [a,c]
  ·have:=o.lt y i d;omega
  ·have:=o.lt x i b;omega
  ·exact o.inj x y i b d
 ·by_cases c:i=k
  ·exact⟨j,by rw [at1,R1 rfl,c]⟩
  ·obtain⟨x,hx⟩:=o.all i (by omega);have ne: ¬j=x:=λz=>by rw [<-z,jn] at hx;cases hx
   exact⟨x,by rw [at1,R3 ne];exact hx⟩
 ·rcases old x i hx with ⟨a,b⟩|⟨a,b⟩
  ·rw [b,hk] at hg;injection hg with hg
   rw [a,<-hg];obtain⟨m,p,q⟩:=w.2;exact⟨m,p,λm' hm=>emm _ (q m' hm)⟩
  ·obtain⟨m,p,q⟩:=o.way x i g b hg;exact⟨m,p,λm' hm=>emm _ (q m' hm)⟩
theorem BH (t:T7)(hs:G0 P2):Own t hs (lV (t.mask+1) none) 0:=by
 have no: ∀x i:G8,(lV (t.mask+1) (none:P0 G8))[x]? ≠some (some i):=λx i e=>by
  rw [Array.getElem?_replicate] at e;split at e<;>cases e
 exact⟨Array.size_replicate,λx i e=>absurd e (no x i),λx y i e=>absurd e (no x i),λi hi=>absurd hi (W9 _),λx i h e=>absurd e (no x i)⟩
theorem GF (hN:t.mask+1=2^n)(room:hs.length<=t.mask){F:P0 (M1 (P0 G8)×G8)->P2->P0 (M1 (P0 G8)×G8)}
 (hF: ∀owner k h j,O5 t.mask owner (O4 t.mask) (R8 h%(t.mask+1)) (R8 h)=some j->F (some (owner,k)) h=some (owner.setIfInBounds j (some k),k+1)): ∀ (rest:G0 P2) (k:G8) (owner:M1 (P0 G8)),Own t hs owner k->k<=hs.length->hs.drop k=rest-> ∃owner',rest.foldl F (some (owner,k))=some (owner',hs.length)/\Own t hs owner' hs.length
 | [],k,owner,o,kl,e=>by
  have:k=hs.length:=by have:=fH.mp e;omega
  subst this;exact⟨owner,rfl,o⟩
 |h::rest,k,owner,o,kl,e=>by
  have hk:hs[k]? =some h:=by
   have:(hs.drop k)[0]? =some h:=by rw [e];rfl
   rwa [gR,bY] at this
  have lt:k<hs.length:=(R0.mp hk).1;obtain⟨j,hj,o'⟩:=o.step hN (by omega) hk;have e2:hs.drop (k+1)=rest:=by rw [<-List.tail_drop,e];rfl
  obtain⟨owner',a,b⟩:=GF hN room hF rest (k+1) _ o' lt e2;exact⟨owner',by rw [qV,hF _ _ _ _ hj];exact a,b⟩
theorem BI (hN:t.mask+1=2^n)(room:hs.length<=t.mask){F:P0 (M1 (P0 G8)×G8)->P2->P0 (M1 (P0 G8)×G8)}
 (hF: ∀owner k h j,O5 t.mask owner (O4 t.mask) (R8 h%(t.mask+1)) (R8 h)=some j->F (some (owner,k)) h=some (owner.setIfInBounds j (some k),k+1)): ∃owner,(hs.foldl F (some (lV (t.mask+1) none,0))).map (·.1)=some owner/\Own t hs owner hs.length:=by
 obtain⟨owner,a,b⟩:=GF hN room hF hs 0 _ (BH t hs) (L0 _) rfl;exact⟨owner,by rw [a];rfl,b⟩
theorem Oa {hashes:M1 P2}(hN:t.mask+1=2^n)(room:hashes.size<=t.mask): ∃owner,pK t.mask hashes=some owner/\Own t hashes.toList owner hashes.toList.length:=by
 unfold pK;rw [<-Array.foldl_toList];refine BI hN (by rw [D2];exact room) λowner k h j hj=> ?_
 show (O5 t.mask owner _ _ _).bind _=_;rw [hj];rfl
theorem Qu: ∀ (n:G8) (p:K8),p.j+p.more<=t.mask->(zG t n p).j<=t.mask
 |0,p,h=>by show p.j<=t.mask;omega
 |n+1,p,h=>by
  refine Qu n (t.advance p) ?_;unfold Y1;split
  ·show p.j+1+(p.more-1)<=t.mask;omega
  ·have:(p.i*5+1+p.perturb / 32)%(t.mask+1)<t.mask+1:=Y7 _ (bX _);show (p.i*5+1+p.perturb / 32)%(t.mask+1)+(L9 t.mask ((p.i*5+1+p.perturb / 32)%(t.mask+1))-(p.i*5+1+p.perturb / 32)%(t.mask+1))<=t.mask;unfold L9;split<;>omega
theorem Xh (t:T7)(h:P2):(t.probeStart h).j+(t.probeStart h).more<=t.mask:=by
 have:R8 h%(t.mask+1)<t.mask+1:=Y7 _ (bX _);show R8 h%(t.mask+1)+(L9 t.mask (R8 h%(t.mask+1))-R8 h%(t.mask+1))<=t.mask;unfold L9;split<;>omega
theorem Ss {T0 T':T7}{E:G8->N0}{j:G8}(em:T0.mask=T'.mask)(f: ∀y,y<=T0.mask->E y=false->T'.slot y≠ .empty)(w:HF T0 E h j):Way T' h j:=by
 obtain⟨n,a,b⟩:=w;refine⟨n,by rw [<-vA em,<-va em];exact a,λm hm=> ?_⟩;rw [<-vA em,<-va em];exact f _ (Qu m _ (Xh T0 h)) (b m hm)
theorem Ob {mask finger moves:G8}{led plain:N0}{hashes:M1 P2}(hN:mask+1=2^n)(h7:7<=mask)(room:hashes.size<=mask): ∃t' order,tX mask finger moves led plain hashes=some (t',order)/\t'.mask=mask/\t'.led=led/\t'.plain=plain/\order.toList.Perm (P7 hashes.size)/\Laid t' (order.toList.map λi=>hashes.toList.getD i 0):=by
 obtain⟨T0,hm⟩: ∃T0:T7,T0.mask=mask:=⟨{sM 0 0 true with mask:=mask},rfl⟩;subst hm;obtain⟨owner,ho,own⟩:=Oa (t:=T0) (hashes:=hashes) hN room;unfold tX;rw [ho];refine⟨_,_,rfl,rfl,rfl,rfl,?_⟩;generalize hl:((P7 (T0.mask+1)).filterMap λj=>(owner.getD j none).map (j,·))=live;have osz:owner.size=T0.mask+1:=own.size;have mem: ∀x i:G8,(x,i)∈live↔owner[x]? =some (some i):=λx i=>by
  rw [<-hl,Y3];constructor
  ·rintro ⟨j,hj,e⟩;rw [bG] at e;cases z:owner[j]? with
   |none=>rw [z] at e;cases e
   |some v=>
    rw [z] at e;cases v with
    |none=>cases e
    |some w=>cases e;exact z
  ·intro e;have lt:x<owner.size:=(A2.mp e).1;refine⟨x,S5.mpr (by omega),?_⟩;rw [bG,e];rfl
 have sub:(live.map (·.1)).Sublist (P7 (T0.mask+1)):=by rw [<-hl];exact HT.VG _ _
 have rise:(live.map (·.1)).Pairwise (· < ·):=G0.pairwise_lt_range.sublist sub;have nd:(live.map (·.2)).Nodup:=by
  rw [sL,Z9];rw [Z9] at rise;refine rise.imp_of_mem λ{a b} ha hb lt e=> ?_
  have:=own.inj a.1 b.1 a.2 ((mem _ _).mp ha) (by rw [e];exact(mem _ _).mp hb);omega
 have len0:hashes.toList.length=hashes.size:=D2;have pm:(live.map (·.2)).Perm (P7 hashes.size):=by
  refine(List.perm_ext_iff_of_nodup nd eJ).mpr λi=> ?_
  rw [S5];constructor
  ·intro h;obtain⟨⟨x,i'⟩,a,rfl⟩:=S2.mp h;have:=own.lt x i' ((mem _ _).mp a);omega
  ·intro h;obtain⟨x,hx⟩:=own.all i (by omega);exact S2.mpr ⟨(x,i),(mem _ _).mpr hx,rfl⟩
 have ll:live.length=hashes.size:=by have:=pm.length_eq;rwa [G9,T1] at this
 refine⟨pm,⟨n,hN⟩,h7,rfl,rise,?_,?_,λi j hj=> ?_,λi h x hh hx=> ?_⟩
 ·simp
 ·show _<=T0.mask;simp only [G9];omega
 ·have hj:(live.map (·.1))[i]? =some j:=by simpa using hj
  have:=S5.mp (sub.subset (M3 hj));show j<=T0.mask;omega
 ·have hx:(live.map (·.1))[i]? =some x:=by simpa using hx
  have hh:((live.map (·.2)).map λi=>hashes.toList.getD i 0)[i]? =some h:=hh;rw [D6] at hx;obtain⟨⟨x',i'⟩,e1,e2⟩:=O1.mp hx;have e2:x'=x:=e2;subst e2;rw [D6,D6,e1] at hh;have hh:hashes.toList.getD i' 0=h:=by injection hh
  have ow:=(mem _ _).mp (M3 e1);have lt:=own.lt _ _ ow;have hg:hashes.toList[i']? =some h:=by
   rw [<-hh,S3,P8 lt];rfl
  refine Ss (T0:=T0) rfl (λy hy hb z=> ?_) (own.way _ _ _ ow hg);rw [JF rfl rise] at z;cases e:owner[y]? with
  |none=>rw [bR] at e;omega
  |some v=>
   cases v with
   |none=>rw [emO_iff.mpr e] at hb;cases hb
   |some w=>
    obtain⟨i2,h2⟩:=bQ (S2.mpr ⟨(y,w),(mem _ _).mpr e,rfl⟩:y∈live.map (·.1));exact z i2 (by simpa using h2)
theorem Laid.stands (l:Laid t hs):t.gaveWay=false:=by
 obtain⟨k,hk⟩:=l.pow;have b:=l.big;cases k with
 |zero=>rw [dP] at hk;omega
 |succ k=>
  rw [J4] at hk;unfold IX;refine beq_false_of_ne ?_;omega
theorem GG: ∀ (fuel k n:G8),3<=k-> ∃m,3<=m/\Z0 n fuel (2^k)=2^m/\(n<2^(k+fuel)->n<2^m)
 |0,k,n,h=>⟨k,h,rfl,λz=>z⟩
 |fuel+1,k,n,h=>by
  unfold Z0
  by_cases c:2^k<=n
  ·rw [R1 c,<-J4];obtain⟨m,a,b,d⟩:=GG fuel (k+1) n (by omega);exact⟨m,a,b,λz=>d (by rw [oK,nV];exact z)⟩
  ·rw [R3 c];exact⟨k,h,rfl,λ_=>by omega⟩
theorem above (h:n<2^67): ∃m,A9 n=2^m/\n<A9 n/\8<=A9 n:=by
 obtain⟨m,a,b,c⟩:=GG 64 3 n (by decide);have b:A9 n=2^m:=b;refine⟨m,b,by rw [b];exact c h,?_⟩;rw [b];exact V9 (show 0<2 by decide) a
end L2
namespace L2
open PySem PySem.Spec PyProof.Rows HT
variable {prog:D5}{w:T5}{A:R6}{E:G1->G2->Prop}{s:G2}{a:G5}{es:M1 (P2×G1)}{ep:G8}{t:T7}
theorem Laid.fits {hs:G0 P2}(l:Laid t hs){n:G8}(e:hs.length=n):t.fits n=true:=by
 have a:=l.size;have b:=l.room;have c:=l.dum;simp only [tV,tY,S9,beq_iff_eq,U1,c];simp;omega
theorem GH (t:T7):t.sameMemory t.moves t.mask=some true:=by
 unfold x9;rw [R1 (K4 _)]
theorem GI {b:G5}{Q:N0->G2->Prop}(q:Q true s):D1 (D3 prog w) A (isSame (.ref b) (.ref b)) Q E s:=by
 unfold isSame;dsimp only;rw [R1 (K4 _)];exact G7 q
variable {eqk:G8->N0}
theorem Qw {Q:SetFound->G2->Prop}{x:G1}{h:P2}{n:G8}(l:Laid t (es.toList.map (·.1)))(ho:s.heap.get? a=some (Wi es ep t))
 (refs: ∀ (i:G8) (y:G1),es[i]? =some (h,y)-> ∃b,y= .ref b)
 (G0k: ∀Q':N0->G2->Prop,Q' false s->D1 (D3 prog w) A (bH x ((es.filter (·.1==h)).toList.map (·.2))) Q' E s)
 (cmp: ∀ (i:G8) (y:G1),es[i]? =some (h,y)-> ∀Q':N0->G2->Prop,Q' (eqk i) s->D1 (D3 prog w) A (Z6 [y] (eqBool y x)) Q' E s)
 (em:t.slot (zG t n (t.probeStart h)).j= .empty)(nb:n<10*O4 t.mask)(ne: ∀m,m<n->t.slot (zG t m (t.probeStart h)).j≠ .empty)
 (free:(∀m i,m<n->t.slot (zG t m (t.probeStart h)).j= .live i->(es[i]?.map (·.1)).getD 0=h->eqk i=false)->Q (.free (zG t n (t.probeStart h)).j false) s)
 (there: ∀ (i:G8) (y:G1),es[i]? =some (h,y)->eqk i=true->Q (.there none) s):
 ∀ (r k fuel:G8) (stand:P0 K8),k+r=n->r<fuel->stand.getD (t.probeStart h)=zG t k (t.probeStart h)->(∀m i,m<k->t.slot (zG t m (t.probeStart h)).j= .live i->(es[i]?.map (·.1)).getD 0=h->eqk i=false)->
  D1 (D3 prog w) A (tZ a x h true fuel stand) Q E s:=by
 intro r
 induction r using G8.strongRecOn with
 |ind r ih=>
 intro k fuel stand kr rf st old;obtain⟨fuel,rfl⟩: ∃f,fuel=f+1:=⟨fuel-1,by omega⟩;have fit:t.fits es.size=true:=l.fits (by rw [G9,D2]);unfold tZ;refine wpAny_bind (A4 ho rfl fit ?_);dsimp only;rw [l.stands];simp only [N9,↓reduceIte];have ad: ∀m,zG t m (zG t k (t.probeStart h))=zG t (k+m) (t.probeStart h):=λm=>(JD t k m _).symm
 have dn: ∀ (m:G8) (p:K8),p.dummy=none->(zG t m p).dummy=none:=λm=>by
  induction m with
  |zero=>exact λp hp=>hp
  |succ m ihm=>exact λp hp=>ihm _ (by unfold Y1;split<;>exact hp)
 have out:=CO (f:=λi=>(es[i]?.map (·.1)).getD 0) (h:=h) l.dum r (10*O4 t.mask) (zG t k (t.probeStart h)) (by omega) (by rw [ad,kr];exact em) (λm hm=>by rw [ad];exact ne _ (by omega)) (dn _ _ rfl);have e0:t.probe (λi=>(es[i]?.map (·.1)).getD 0) h (stand.getD (t.probeStart h))=U4 t (λi=>(es[i]?.map (·.1)).getD 0) h (10*O4 t.mask) (zG t k (t.probeStart h)):=by rw [st];rfl
 rw [<-e0] at out;split
 ·rename_i met hmet;have hmet:t.probe (λi=>(es[i]?.map (·.1)).getD 0) h (stand.getD (t.probeStart h))=some met:=hmet;rw [hmet] at out;rcases out with ⟨e,no⟩|⟨m,i,mr,sl,hi,no,e⟩
  ·injection e with e
   subst e;dsimp only;refine G7 ?_;rw [ad,kr];refine free λm i hm sl hi=> ?_
   rcases A8 m k with z|z
   ·exact old m i z sl hi
   ·refine absurd hi (no (m-k) (by omega) i ?_);rw [ad,X2 z];exact sl
  ·injection e with e
   subst e;dsimp only;obtain⟨y,ei⟩: ∃y,es[i]? =some (h,y):=by
    obtain⟨lt,_⟩:=A2.mp (Mv sl);have sz:i<es.size:=by have:=l.size;rw [G9,D2] at this;omega
    rw [V2 sz] at hi ⊢;have hi:es[i].1=h:=hi;exact⟨es[i].2,by rw [<-hi]⟩
   cases hl:t.led
   ·simp only [sN,↓reduceIte];refine wpAny_bind (G0k _ ?_);simp only [N9,↓reduceIte];rw [ei];dsimp only;refine wpAny_bind (cmp i y ei _ ?_);refine wpAny_bind (A4 ho rfl fit ?_);dsimp only;cases ek:eqk i with
    |true=>simp only [nW,↓reduceIte];exact G7 (there i y ei ek)
    |false=>
     simp only [dN,N9,↓reduceIte,GH,sl,ei];obtain⟨b,rfl⟩:=refs i y ei;refine wpAny_bind (GI ?_);refine wpAny_bind (G7 ?_);simp only [↓reduceIte];refine ih (r-(m+1)) (by omega) (k+(m+1)) fuel (some _) (by omega) (by omega) (by show zG t (m+1) _=_;rw [ad]) (λm' i' hm' sl' hi'=> ?_);rcases A8 m' k with z|z
     ·exact old m' i' z sl' hi'
     ·have e1:zG t m' (t.probeStart h)=zG t (m'-k) (zG t k (t.probeStart h)):=by rw [ad,X2 z]
      rw [e1] at sl';rcases A8 (m'-k) m with y|y
      ·exact absurd hi' (no (m'-k) y i' sl')
      ·have e2:m'-k=m:=by omega
       rw [e2,sl] at sl';injection sl' with sl'
       rw [<-sl'];exact ek
   ·simp only [eU,N9,↓reduceIte];rw [ei];dsimp only;refine wpAny_bind (cmp i y ei _ ?_);refine wpAny_bind (A4 ho rfl fit ?_);dsimp only;cases ek:eqk i with
    |true=>simp only [nW,↓reduceIte];exact G7 (there i y ei ek)
    |false=>
     simp only [dN,N9,↓reduceIte,GH,sl,ei];obtain⟨b,rfl⟩:=refs i y ei;refine wpAny_bind (GI ?_);refine wpAny_bind (G7 ?_);simp only [↓reduceIte];refine ih (r-(m+1)) (by omega) (k+(m+1)) fuel (some _) (by omega) (by omega) (by show zG t (m+1) _=_;rw [ad]) (λm' i' hm' sl' hi'=> ?_);rcases A8 m' k with z|z
     ·exact old m' i' z sl' hi'
     ·have e1:zG t m' (t.probeStart h)=zG t (m'-k) (zG t k (t.probeStart h)):=by rw [ad,X2 z]
      rw [e1] at sl';rcases A8 (m'-k) m with y|y
      ·exact absurd hi' (no (m'-k) y i' sl')
      ·have e2:m'-k=m:=by omega
       rw [e2,sl] at sl';injection sl' with sl'
       rw [<-sl'];exact ek
 ·rename_i hmet;rcases out with ⟨e,_⟩|⟨_,_,_,_,_,_,e⟩<;>exact(hmet _ e).elim
theorem PR {Q:SetFound->G2->Prop}{x:G1}{h:P2}(l:Laid t (es.toList.map (·.1)))(few:t.mask<=9000)(ho:s.heap.get? a=some (Wi es ep t))
 (refs: ∀ (i:G8) (y:G1),es[i]? =some (h,y)-> ∃b,y= .ref b)
 (G0k: ∀Q':N0->G2->Prop,Q' false s->D1 (D3 prog w) A (bH x ((es.filter (·.1==h)).toList.map (·.2))) Q' E s)
 (cmp: ∀ (i:G8) (y:G1),es[i]? =some (h,y)-> ∀Q':N0->G2->Prop,Q' (eqk i) s->D1 (D3 prog w) A (Z6 [y] (eqBool y x)) Q' E s)
 (free: ∀j,(∀ (i:G8) (y:G1),es[i]? =some (h,y)->eqk i=false)->t.slot j= .empty->j<=t.mask->Way t h j->Q (.free j false) s)
 (there: ∀ (i:G8) (y:G1),es[i]? =some (h,y)->eqk i=true->Q (.there none) s):D1 (D3 prog w) A (setSearch a x h true) Q E s:=by
 obtain⟨n,nb,em,ne,met⟩:=l.search h;refine Qw l ho refs G0k cmp em nb ne (λal=>free _ (λi y e=> ?_) em (Qu n _ (Xh t h)) ⟨n,rfl,ne⟩) there n 0 100000 none (lI n) (by unfold O4 at nb;omega) rfl (λm i hm=>absurd hm (W9 _));have e1:(es.toList.map (·.1))[i]? =some h:=by
  rw [D6,B9,e];rfl
 obtain⟨m,hm,sl⟩:=met i e1;exact al m i hm sl (by rw [e];rfl)
theorem Laid.plain {hs:G0 P2}(l:Laid t hs)(b:N0):Laid {t with plain:=b} hs:=
 ⟨l.pow,l.big,l.dum,l.rise,l.size,l.room,l.low,λi h j x y=>Way.more (t:=t) (u:= {t with plain:=b}) rfl (λ_ z=>z) (l.way i h j x y)⟩
theorem PU (es:M1 (P2×G1))(h:P2)(x:G1)(p:G8):(U3 es p (h,x)).toList.map (·.1)=(es.toList.map (·.1)).take p++h::(es.toList.map (·.1)).drop p:=by
 rw [cK,L8,T2,tL,tM]
theorem GJ: ∀ (fuel k n:G8),Z0 n fuel (2^k)<=2^k\/Z0 n fuel (2^k)<=2*n
 |0,k,n=> .inl (P1 _)
 |fuel+1,k,n=>by
  unfold Z0
  by_cases c:2^k<=n
  ·rw [R1 c,<-J4];rcases GJ fuel (k+1) n with z|z
   ·refine .inr (T9 z ?_);rw [J4];omega
   ·exact .inr z
  ·rw [R3 c];exact .inl (P1 _)
theorem Qx {hashes:M1 P2}{w:G8}(hw:hashes.size<=w)(few:w<=40000):A9 w<=80008/\ ∃t' order,t.relaid hashes w=some (t',order)/\t'.led=t.led/\w<=t'.mask/\t'.mask<=2*w+8/\order.toList.Perm (P7 hashes.size)/\Laid t' (order.toList.map λi=>hashes.toList.getD i 0):=by
 obtain⟨m,a,b,c⟩:=above (n:=w) (by omega);have u:A9 w<=8\/A9 w<=2*w:=GJ 64 3 w;refine⟨by omega,?_⟩;obtain⟨t',order,x,mk,y,z,p,q⟩:=Ob (mask:=A9 w-1) (finger:=t.finger) (moves:=t.movedTo (A9 w-1)) (led:=t.led) (plain:=t.plain) (hashes:=hashes) (n:=m) (by rw [<-a];omega) (by omega) (by omega);exact⟨t',order,x,y,by rw [mk];omega,by rw [mk];omega,p,q⟩
theorem MA {Q:Unit->G2->Prop}{wd:G8}(l:Laid t (es.toList.map (·.1)))(ho:s.heap.get? a=some (Wi es ep t))(hw:es.size<=wd)(few:wd<=40000)
 (k: ∀es' t' h',es'.toList.Perm es.toList->Laid t' (es'.toList.map (·.1))->t'.led=t.led->wd<=t'.mask->t'.mask<=2*wd+8->h'.get? a=some (Wi es' (ep+1) t')->A5 a s.heap h'->Q () {s with heap:=h'}):D1 (D3 prog w) A (xW a wd) Q E s:=by
 have fit:t.fits es.size=true:=l.fits (by rw [G9,D2]);obtain⟨up,t',order,er,ld,m1,m2,pm,l'⟩:=Qx (t:=t) (hashes:=es.map (·.1)) (w:=wd) (by rw [sO];exact hw) few;unfold xW;refine wpAny_bind (A4 ho rfl fit ?_);dsimp only;rw [er];have sl: ¬A9 wd>sizeLine:=U0.mpr (T9 up (by decide));simp only [sl,↓reduceIte];have fe: ∀l:G0 G8,(∀i∈l,i<es.size)->l.filterMap (λi=>es[i]?)=l.map (λi=>es.toList.getD i (0,.none)):=λl=>by
  induction l with
  |nil=>exact λ_=>rfl
  |cons i l ih=>
   intro h;have hi:=h i P3;have e:es[i]? =some (es.toList.getD i (0,.none)):=by
    rw [S3,B9,V2 hi];rfl
   rw [List.filterMap_cons_some e,T2,ih λx hx=>h x (D7 _ hx)]
 rw [sO] at pm;have lt: ∀i∈order.toList,i<es.size:=λi hi=>S5.mp (pm.mem_iff.mp hi)
 have e1:(order.filterMap (es[·]?)).toList=order.toList.map (λi=>es.toList.getD i (0,.none)):=by
  rw [Array.toList_filterMap];exact fe _ lt
 have e2:es.toList=(P7 es.size).map (λi=>es.toList.getD i (0,.none)):=by
  have:=wo es.toList (0,(.none:G1))
  rwa [D2] at this
 have pe:(order.filterMap (es[·]?)).toList.Perm es.toList:=by
  have:=pm.map (λi=>es.toList.getD i (0,.none));rw [<-e2] at this;rw [e1];exact this
 have sz:(order.filterMap (es[·]?)).size=es.size:=by have:=pe.length_eq;rwa [D2,D2] at this
 have hh:(order.filterMap (es[·]?)).toList.map (·.1)=order.toList.map λi=>(es.map (·.1)).toList.getD i 0:=by
  rw [e1,N7];refine B3 λi hi=> ?_
  show (es.toList.getD i (0,.none)).1=(es.map (·.1)).toList.getD i 0;have z:i<es.toList.length:=by rw [D2];exact lt i hi
  rw [i9,S3,S3,D6,P8 z];rfl
 rw [<-hh] at l';refine wpAny_bind ?_;show D1 _ _ (ite _ _ _) _ _ _;rw [R3 (by rw [sz];simp)];refine G7 ?_;dsimp only;exact pL (s:=s) ho rfl (k _ t' _ pe l' ld m1 m2 (B1 _ ho rfl) (O8 ..)) (by rw [sz];exact T9 (show es.size<=40000 by omega) (by decide))
theorem Oc {Q:N0->G2->Prop}{b:G5}{h:P2}{bv:N0}{fuel:G8}(l:Laid t (es.toList.map (·.1)))(few:t.mask<=9000)(lean:es.size*5<t.mask*3)(ho:s.heap.get? a=some (Wi es ep t))
 (refs: ∀ (i:G8) (y:G1),es[i]? =some (h,y)-> ∃b,y= .ref b)
 (G0k: ∀Q':N0->G2->Prop,Q' false s->D1 (D3 prog w) A (bH (.ref b) ((es.filter (·.1==h)).toList.map (·.2))) Q' E s)
 (cmp: ∀ (i:G8) (y:G1),es[i]? =some (h,y)-> ∀Q':N0->G2->Prop,Q' (eqk i) s->D1 (D3 prog w) A (Z6 [y] (eqBool y (.ref b))) Q' E s)
 (byv: ∀Q':N0->G2->Prop,Q' bv s->D1 (D3 prog w) A (dA 8 (.ref b)) Q' E s)
 (new:(∀ (i:G8) (y:G1),es[i]? =some (h,y)->eqk i=false)-> ∀es' ep' t' h',es'.toList.Perm (es.push (h,.ref b)).toList->Laid t' (es'.toList.map (·.1))->t'.mask<=max t.mask (8*es.size+16)->es'.size*5<t'.mask*3->t'.led=t.led->h'.get? a=some (Wi es' ep' t')->A5 a s.heap h'->Q true {s with heap:=h'})
 (there: ∀ (i:G8) (y:G1),es[i]? =some (h,y)->eqk i=true->Q false s):D1 (D3 prog w) A (mX a (.ref b) h (fuel+1)) Q E s:=by
 have fit:t.fits es.size=true:=l.fits (by rw [G9,D2]);have sz:(es.toList.map (·.1)).length=es.size:=by rw [G9,D2]
 unfold mX;refine wpAny_bind (A4 ho rfl fit ?_);dsimp only;rw [show byScan (.ref b) es=false from rfl];simp only [N9,↓reduceIte];refine wpAny_bind (PR (eqk:=eqk) l few ho refs G0k cmp (λj no em jm wy=> ?_) (λi y e ek=> ?_))
 ·dsimp only;refine wpAny_bind (A4 ho rfl fit ?_);dsimp only;have l1:=l.put em jm wy (by rw [sz];have:=l.big;omega);have l1:=(congrArg (Laid (t.put j).1) (PU es h (.ref b) (t.put j).2)).mpr l1;have z0:(U3 es (t.put j).2 (h,.ref b)).size=es.size+1:=by
   have:=(dQ es (t.put j).2 (h,(.ref b:G1))).length_eq;rw [D2,D2,rG] at this;exact this
  have z1:(U3 es (t.put j).2 (h,.ref b)).size<=sizeLine:=by
   rw [z0];exact T9 (show es.size+1<=10000 by omega) (by decide)
  have rest: ∀t2:T7,Laid t2 ((U3 es (t.put j).2 (h,.ref b)).toList.map (·.1))->t2.led=t.led->t2.mask=t.mask->D1 (D3 prog w) A (do storeSet a (U3 es (t.put j).2 (h,.ref b)) t2;if (!false&&t2.tooFull)=true then (do xW a (bS (es.size+1));pure true) else pure true) Q E s:=λt2 l2 ld mk=>by
   refine wpAny_bind (pL (s:=s) ho rfl ?_ z1);have o1:(s.heap.update a (Obj.putSet (U3 es (t.put j).2 (h,.ref b)) t2)).get? a=some (Wi (U3 es (t.put j).2 (h,.ref b)) (ep+1) t2):=B1 _ ho rfl;cases tf:t2.tooFull with
   |true=>
    simp only [sN,nW,↓reduceIte];refine wpAny_bind (MA (wd:=bS (es.size+1)) (ep:=ep+1) l2 o1 (by rw [z0];unfold bS;split<;>omega) (by unfold bS;split<;>omega) λes' t' h' pe l' ld' m1 m2 o2 sb=> ?_);refine G7 (new no es' (ep+1+1) t' h' (pe.trans (dQ ..)) l' ?_ ?_ (ld'.trans ld) o2 (IF (O8 ..) sb))
    ·unfold bS at m2;split at m2<;>omega
    ·have:=pe.length_eq;rw [D2,D2,z0] at this;unfold bS at m1;split at m1<;>omega
   |false=>
   simp only [dN,N9,↓reduceIte];refine G7 (new no _ (ep+1) t2 _ (dQ ..) l2 (by omega) ?_ ld (B1 _ ho rfl) (O8 ..));rw [z0];have s2:=l2.size;rw [G9,D2,z0] at s2;have: ¬ (t2.fill*5>=t2.mask*3):=by simpa [IY] using tf
   have f2:t2.fill=es.size+1:=by unfold tY;rw [l2.dum,s2];rfl
   omega
  cases hp:(t.put j).1.plain
  ·simp only [N9,↓reduceIte];refine wpAny_bind (G7 ?_);simp only [↓reduceIte];exact rest (t.put j).1 l1 rfl rfl
  ·simp only [↓reduceIte];refine wpAny_bind (byv _ ?_);cases bv
   ·simp only [N9,↓reduceIte];exact rest _ (l1.plain false) rfl rfl
   ·simp only [↓reduceIte];exact rest (t.put j).1 l1 rfl rfl
 ·exact G7 (there i y e ek)
end L2
namespace L2
open PySem PySem.Spec PyProof.Rows HT
def MB (h h':M4):Prop:= ∀ (b:G5) (o:Obj),o.cls= .type "tuple" ->h.get? b=some o->h'.get? b=some o
theorem vc {α β:Type}{M:cC}{A:R6}{E:G1->G2->Prop}{s:G2}{f:α->β->Sem (uL β)}{r:β}{Q:β->G2->Prop}: ∀ (l:G0 α),(∀x∈l,∀Q':uL β->G2->Prop,Q' (.yield r) s->D1 M A (f x r) Q' E s)->Q r s->D1 M A (forIn l r f) Q E s
 | [],_,q=>G7 q
 |x::l,h,q=>by
  rw [cN];exact wpAny_bind (h x (.head _) _ (vc l (λy hy=>h y (.tail _ hy)) q))
structure MemK (prog:D5)(w:T5)(K:Type)[DecidableEq K] where
 is:M4->K->G5->Prop
 hash:K->P2
 inj: ∀ {h:M4} {x y:K} {a:G5},is h x a->is h y a->x=y
 keep: ∀ {h h':M4} {x:K} {a:G5},MB h h'->is h x a->is h' x a
 hashed: ∀ {A:R6} {E:G1->G2->Prop} {s:G2} {x:K} {a:G5} {Q:P2->G2->Prop},A.units+8<cLine->is s.heap x a->(∀tk,Q (hash x) {s with toks:=tk})->D1 (D3 prog w) A (pyHash (.ref a)) Q E s
 same: ∀ {A:R6} {E:G1->G2->Prop} {s:G2} {x y:K} {a b:G5} {Q:N0->G2->Prop},A.units+8<cLine->is s.heap x a->is s.heap y b->Q (decide (x=y)) s->D1 (D3 prog w) A (eqBool (.ref a) (.ref b)) Q E s
 quiet: ∀ {A:R6} {E:G1->G2->Prop} {s:G2} {x:K} {a:G5} {Q:N0->G2->Prop},is s.heap x a->Q true s->D1 (D3 prog w) A (nB 8 (.ref a)) Q E s
 cls: ∀ {A:R6} {E:G1->G2->Prop} {s:G2} {x:K} {a:G5} {Q:N0->G2->Prop},is s.heap x a->Q false s->D1 (D3 prog w) A (W4 8 (.ref a)) Q E s
 byv: ∀ {A:R6} {E:G1->G2->Prop} {s:G2} {x:K} {a:G5} {Q:N0->G2->Prop},is s.heap x a->Q true s->D1 (D3 prog w) A (dA 8 (.ref a)) Q E s
section
variable {prog:D5}{w:T5}{A:R6}{E:G1->G2->Prop}{s:G2}{K:Type}[DecidableEq K]
theorem Od (M:MemK prog w K){x:K}{a:G5}{pX:G0 G1}{Q:N0->G2->Prop}(hx:M.is s.heap x a)(hs: ∀y∈pX,∃k b,y= .ref b/\M.is s.heap k b)(q:Q false s):D1 (D3 prog w) A (bH (.ref a) pX) Q E s:=by
 unfold bH;refine wpAny_bind (vc pX (λy hy Q' q'=> ?_) (G7 q));obtain⟨k,b,rfl,hk⟩:=hs y hy
 by_cases c:(a==b)=true
 ·simp only [c,uX,↓reduceIte];exact G7 q'
 ·simp only [c,show sP (.ref a)=false from rfl,mG,sY,N9,↓reduceIte];refine wpAny_bind (M.quiet hx (wpAny_bind (M.quiet hk (wpAny_bind (M.cls hx (wpAny_bind (M.cls hk ?_)))))));exact G7 q'
structure SetT (M:MemK prog w K)(L:N0)(is:K->G5->Prop)(f:P2×G1->K)(es:M1 (P2×G1))(t:T7)(ks:G0 K):Prop where
 laid:Laid t (es.toList.map (·.1))
 led:t.led=L
 lean:es.size*5<t.mask*3
 mask:t.mask<=8*es.size+16
 each: ∀e∈es.toList,e.1=M.hash (f e)/\ ∃b,e.2= .ref b/\is (f e) b
 nd:(es.toList.map f).Nodup
 mem: ∀k,k∈es.toList.map f↔k∈ks
theorem WO: ∀ {xs ys:G0 K},xs.Nodup->(∀x∈xs,x∈ys)->xs.length<=ys.length
 | [],_,_,_=>L0 _
 |x::xs,ys,nd,h=>by
  obtain⟨n1,n2⟩:=O9.mp nd;have le:=WO (ys:=ys.erase x) n2 λy hy=>(bO (λ(e:y=x)=>n1 (by rw [<-e];exact hy))).mpr (h y (.tail _ hy))
  rw [aC (h x (.head _))] at le;have pos:=aQ (h x (.head _));rw [D4];omega
variable {L:N0}{is:K->G5->Prop}{f:P2×G1->K}{es:M1 (P2×G1)}{t:T7}{ks:G0 K}
theorem SetT.size {M:MemK prog w K}(S:SetT M L is f es t ks):es.size<=ks.length:=by
 have:=WO S.nd λk hk=>(S.mem k).mp hk
 rwa [G9,D2] at this
theorem SetT.tab {M:MemK prog w K}(S:SetT M L is f es t ks):Tab L es.size t:=
 ⟨S.laid.fits (by rw [G9,D2]),S.led,S.laid.dum,λ_=>S.laid.rise⟩
theorem SetT.imp {M:MemK prog w K}{is':K->G5->Prop}(S:SetT M L is f es t ks)(h: ∀k b,is k b->is' k b):SetT M L is' f es t ks:=
 ⟨S.laid,S.led,S.lean,S.mask,λe he=>by
  obtain⟨a,b,c,d⟩:=S.each e he;exact⟨a,b,c,h _ _ d⟩,S.nd,S.mem⟩
theorem MC {M:MemK prog w K}{ep:G8}{a b:G5}{k:K}{Q:N0->G2->Prop}(hu:A.units+8<cLine)(S:SetT M L is f es t ks)(ho:s.heap.get? a=some (Wi es ep t))(few:es.size<1000)(to: ∀k b,is k b->M.is s.heap k b)(hk:is k b)
 (q: ∀r f' es' ep' t' h' tk,SetT M L is f' es' t' (k::ks)->h'.get? a=some (Wi es' ep' t')->A5 a s.heap h'->Q r {s with heap:=h',toks:=tk}):D1 (D3 prog w) A (setAdd a (.ref b)) Q E s:=by
 refine B5 (wpAny_bind (M.hashed hu (to _ _ hk) λtk=>B5 ?_));show D1 _ _ (mX a (.ref b) (M.hash k) (99999+1)) _ _ _;have at_: ∀ (i:G8) (y:G1),es[i]? =some (M.hash k,y)->(M.hash k,y)∈es.toList:=λi y e=>by
  rw [<-B9] at e;exact M3 e
 refine Oc (s:= {s with toks:=tk}) (eqk:=λi=>match es[i]? with
  |some e=>decide (f e=k)
  |none=>false) (bv:=true) S.laid (T9 S.mask (by omega)) S.lean ho (λi y e=> ?_) (λQ' q'=> ?_) (λi y e Q' q'=> ?_) (λQ' q'=>M.byv (to _ _ hk) q') (λno es' ep' t' h' pe l' mk ln ld o' sb=> ?_) (λi y e ek=> ?_)
 ·obtain⟨_,c,d,_⟩:=S.each _ (at_ i y e);exact⟨c,d⟩
 ·refine Od M (to _ _ hk) (λy hy=> ?_) q';obtain⟨e,he,rfl⟩:=S2.mp hy;obtain⟨_,c,d,i⟩:=S.each e (by rw [Array.toList_filter] at he;exact(E1.mp he).1);exact⟨_,c,d,to _ _ i⟩
 ·obtain⟨_,c,d,i'⟩:=S.each _ (at_ i y e);have d:y= .ref c:=d;subst d;simp only [e] at q';exact B5 (M.same hu (to _ _ i') (to _ _ hk) q')
 ·have kn:k ∉ ks:=λz=>by
   obtain⟨e,he,fe⟩:=S2.mp ((S.mem k).mpr z);obtain⟨i,hi⟩:=bQ he;obtain⟨e1,e2⟩:=e;have h1:=(S.each _ he).1;rw [fe] at h1;have h1:e1=M.hash k:=h1;subst h1;have hi:es[i]? =some (M.hash k,e2):=by rw [<-B9];exact hi
   have:=no i e2 hi;simp only [hi,fe,xX] at this;cases this
  have same: ∀e∈es.toList,(if e=(M.hash k,.ref b) then k else f e)=f e:=λe he=>by
   by_cases c:e=(M.hash k,.ref b)
   ·rw [R1 c];obtain⟨_,c',d,i⟩:=S.each e he;rw [c] at d;cases d;exact M.inj (to _ _ hk) (to _ _ i)
   ·rw [R3 c]
  have me:(es.toList.map λe=>if e=(M.hash k,.ref b) then k else f e)=es.toList.map f:=B3 same;have pk:=pe.map λe=>if e=(M.hash k,.ref b) then k else f e
  rw [iI,L8,me] at pk;have one:(G0l (λe=>if e=(M.hash k,.ref b) then k else f e) [(M.hash k,.ref b)])= [k]:=by simp
  rw [one] at pk;have sz:es'.size=es.size+1:=by
   have:=pe.length_eq
   rwa [D2,D2,rG] at this
  refine q true (λe=>if e=(M.hash k,.ref b) then k else f e) es' ep' t' h' tk ⟨l',ld.trans S.led,ln,?_,λe he=> ?_,pk.nodup_iff.mpr ?_,λm=>pk.mem_iff.trans ?_⟩ o' sb
  ·have:=S.mask;rw [sz];omega
  ·have z:=pe.mem_iff.mp he;rw [iI] at z;rcases T4.mp z with z|z
   ·rw [same e z];exact S.each e z
   ·have z:=P4.mp z;subst z;rw [R1 rfl];exact⟨rfl,b,rfl,hk⟩
  ·rw [pM];refine⟨S.nd,by simp,λx hx y hy e=> ?_⟩;have:y=k:=by simpa using hy
   subst this;subst e;exact kn ((S.mem _).mp hx)
  ·rw [T4,S.mem m,P4,P9,or_comm]
 ·have hin:k∈ks:=by
   simp only [e,U1] at ek;rw [<-ek];exact(S.mem _).mp (F1 (at_ i y e))
  refine q false f es ep t s.heap tk ⟨S.laid,S.led,S.lean,S.mask,S.each,S.nd,λm=>(S.mem m).trans ?_⟩ ho (bE _ _)
  ·rw [P9];exact⟨.inr,λz=>z.elim (λe=>e ▸ hin) id⟩
end
section
variable {prog:D5}{w:T5}{A:R6}{E:G1->G2->Prop}{s:G2}
theorem Oe (n:G8){v:G1}(h:sP v=true):W4 n v=pure false:=by
 cases v<;>first|(cases h;done)|simp [W4]
theorem CT {n:P2}{v:G1}(h:(intKind prog w).is n v=true): ∃tk,v= .int n tk:=by
 cases v<;>simp [intKind,mD] at h;exact⟨_,by rw [h]⟩
theorem PV {ks:G0 P2}{vs:G0 G1}(h:ItemsAre (intKind prog w) ks vs): ∀v∈vs,∃n tk,v= .int n tk:=by
 induction h with
 |nil=>exact λv hv=>absurd hv N6
 |cons h1 _ ih=>
  intro v hv;rcases P9.mp hv with rfl|hv
  ·obtain⟨tk,e⟩:=CT h1;exact⟨_,tk,e⟩
  ·exact ih v hv
theorem MD (d:G8){x:G0 P2}{a:G5}{Q:N0->G2->Prop}:gZ (intKind prog w) s.heap x a->Q false s->D1 (D3 prog w) A (W4 (d+1) (.ref a)) Q E s
 |⟨_,_,_,ho,hc,hd,hi⟩,q=>by
  unfold W4;refine wpAny_bind (dG (T:= "tuple") ⟨_,ho,hc⟩ ?_);simp only [K4,↓reduceIte,pure_bind,eU,N9];refine wpAny_bind (W1 ho hd (wpAny_bind ?_));simp only [<-V5];refine vc _ (λv hv Q' q'=> ?_) (G7 q);rw [Oe d (hi.byValue v hv)];exact G7 q'
theorem Of (d:G8)(m:P2)(tk:Tok):dA d (.int m tk)=pure true:=by cases d<;>rfl
theorem ME (d:G8){x:G0 P2}{a:G5}{Q:N0->G2->Prop}:gZ (intKind prog w) s.heap x a->Q true s->D1 (D3 prog w) A (dA (d+1) (.ref a)) Q E s
 |⟨_,_,_,ho,hc,hd,hi⟩,q=>by
  unfold dA;refine wpAny_bind (aW (T:= "tuple") ⟨_,ho,hc⟩ F.slot_tuple_hash.lookup ?_);refine wpAny_bind (W1 ho hd (wpAny_bind ?_));simp only [bV,<-V5];refine vc _ (λv hv Q' q'=> ?_) (G7 q);obtain⟨m,tk,rfl⟩:=PV hi v hv;rw [Of];exact G7 q'
def uy (prog:D5)(w:T5):MemK prog w (G0 P2) where
 is:=λh x a=>gZ (intKind prog w) h x a
 hash:=bZ (intKind prog w)
 inj:=λhx hy=>hx.inj hy
 keep:=λk ⟨o,items,n,ho,hc,hd,hi⟩=>⟨o,items,n,k _ o hc ho,hc,hd,hi⟩
 hashed:=λhu hk q=>oN (by omega) hk (q _)
 same:=λhu hx hy q=>wpAny_eqBool_tuple (by omega) hx hy q
 quiet:=λhk q=>wpAny_eqIsQuiet_tuple hk q
 cls:=λhk q=>MD 7 hk q
 byv:=λhk q=>ME 7 hk q
end
end L2
namespace L2
open PySem PySem.Spec PyProof.Rows HT PySem.SeqAt
section
variable {prog:D5}{w:T5}{A:R6}{E:G1->G2->Prop}{a I:G5}{fp wr:G0 G5}{n:G8}{P:G8->G1->Prop}{St:G8->M4->Prop}{K:Type}[DecidableEq K]{M:MemK prog w K}{L:N0}{is:K->G5->Prop}{key:G8->K}
theorem BJ (L:N0)(f:P2×G1->K):SetT M L is f #[] (.fresh 0 0 L) []:=⟨PQ 0 0 L,rfl,(by show 0*5<7*3;decide),(by show 7<=8*0+16;decide),λe he=>absurd he (by simp),by simp,λk=>by simp⟩
variable {s:G2}
end
theorem YY {prog:D5}{w:T5}: ∀ {vs:G0 G1} {ns:G0 P2},cM vs ns->ItemsAre (intKind prog w) ns vs
 |_,_,.nil=> .nil
 |_,_,.cons n t a=> .cons (by simp [intKind,mD]) (YY a)
theorem Su {X:Cx}{pins:G0 (G5×Obj)}{σ:St}{H:Hp}{s:G2}(I:Inv X pins σ H s)(k:G0 P2)(b:G5)(h:H b=some (.tup (k.map V.int))):(uy X.prog X.w).is s.heap k b:=by
 obtain⟨_,us,r2,o,e,c,_,n,d⟩:=I.hok b _ h;exact⟨o,us.toArray,n,e,c,d,YY (YR r2)⟩
end L2
namespace L2
open PySem PySem.Spec PyProof.Rows PySem.SeqAt HT
def pcS (T:G0 (G0 P2))(n p:G8):G0 G8:=(P7 n).filter λj=>wk T n p j&&wk T n j p
def OV (T:G0 (G0 P2))(n:G8):G0 (G0 G8):=((P7 n).filter λp=>decide ((pcS T n p).headD 0=p)).map (pcS T n)
section
variable {T:G0 (G0 P2)}{n e:G8}
theorem Sv (p:G8):IsS n (pcS T n p):=⟨_,rfl⟩
variable {p:G8}
theorem mem_pc {j:G8}:j∈pcS T n p↔j<n/\wk T n p j=true/\wk T n j p=true:=by
 unfold pcS;rw [E1,S5,S9]
theorem MF (hp:p<n):p∈pcS T n p:=mem_pc.mpr ⟨hp,Qp T n p,Qp T n p⟩
theorem Og {q:G8}(hp:p<n)(h:q∈pcS T n p):pcS T n q=pcS T n p:=by
 obtain⟨hq,h1,h2⟩:=mem_pc.mp h;refine(Sv q).ext (Sv p) λj=> ?_
 rw [mem_pc,mem_pc];exact⟨λ⟨a,b,c⟩=>⟨a,yH hq h1 b,yH hq c h2⟩,λ⟨a,b,c⟩=>⟨a,yH hp h2 b,yH hp c h1⟩⟩
theorem Oh (hp:p<n): ∃r,pcS T n p=(pcS T n p).headD 0::r:=by
 cases h:pcS T n p with
 |nil=>have:=MF (T:=T) hp;rw [h] at this;cases this
 |cons x r=>exact⟨r,rfl⟩
theorem Oi (hp:p<n):(pcS T n p).headD 0<n/\pcS T n ((pcS T n p).headD 0)=pcS T n p:=by
 obtain⟨r,h⟩:=Oh (T:=T) hp;have m:(pcS T n p).headD 0∈pcS T n p:=by
  generalize (pcS T n p).headD 0=x at h;rw [h];exact P3
 exact⟨(mem_pc.mp m).1,Og hp m⟩
theorem mem_pcs {S:G0 G8}:S∈OV T n↔ ∃p,p<n/\S=pcS T n p:=by
 unfold OV;rw [S2];constructor
 ·rintro ⟨p,hp,rfl⟩;exact⟨p,S5.mp (E1.mp hp).1,rfl⟩
 ·rintro ⟨p,hp,rfl⟩;obtain⟨a,b⟩:=Oi (T:=T) hp;exact⟨(pcS T n p).headD 0,E1.mpr ⟨S5.mpr a,S1 (by rw [b])⟩,b⟩
end
end L2
namespace L2
open PySem PySem.Spec PyProof.Rows HT PySem.SeqAt
section
variable {prog:D5}{w:T5}{A:R6}{E:G1->G2->Prop}{s:G2}
inductive RowsIn (prog:D5)(w:T5)(h:M4):G0 (G0 P2)->G0 G1->Prop
 |nil:RowsIn prog w h [] []
 |cons {r:G0 P2} {b:G5} {T:G0 (G0 P2)} {vs:G0 G1}:gZ (intKind prog w) h r b->RowsIn prog w h T vs->RowsIn prog w h (r::T) (.ref b::vs)
variable {h:M4}
theorem RowsIn.one: ∀ {T U:G0 (G0 P2)} {vs:G0 G1},RowsIn prog w h T vs->RowsIn prog w h U vs->T=U
 |_,_,_,.nil,.nil=>rfl
 |_,_,_,.cons a x,.cons b y=>by rw [a.inj b,x.one y]
theorem RowsIn.keep {h':M4}(k:MB h h'): ∀ {T:G0 (G0 P2)} {vs:G0 G1},RowsIn prog w h T vs->RowsIn prog w h' T vs
 |_,_,.nil=> .nil
 |_,_,.cons ⟨o,items,n,ho,hc,hd,hi⟩ x=> .cons ⟨o,items,n,k _ o hc ho,hc,hd,hi⟩ (x.keep k)
theorem RowsIn.each: ∀ {T:G0 (G0 P2)} {vs:G0 G1},RowsIn prog w h T vs-> ∀v∈vs,∃r b,v= .ref b/\gZ (intKind prog w) h r b
 |_,_,.nil,v,hv=>absurd hv N6
 |_,_,.cons a x,v,hv=>by
  rcases P9.mp hv with e|hv
  ·exact⟨_,_,e,a⟩
  ·exact x.each v hv
def Qy (prog:D5)(w:T5)(h:M4)(T:G0 (G0 P2))(a:G5):Prop:= ∃o items n,h.get? a=some o/\o.cls= .type "tuple" /\o.data= .seq items n/\RowsIn prog w h T items.toList
def Oj (prog:D5)(w:T5)(T:G0 (G0 P2)):P2:=oC (Z2 (T.map (bZ (intKind prog w))))
theorem Xi {Q:M1 P2->G2->Prop}(hu:A.units+4<cLine): ∀ {vs:G0 G1} {U:G0 (G0 P2)} (b:M1 P2) (s1:G2),s1.heap=s.heap->RowsIn prog w s.heap U vs->(∀tk,Q (b++(U.map (bZ (intKind prog w))).toArray) {s1 with toks:=tk})->
 D1 (D3 prog w) A (forIn vs b λx r=>do let h <-pyHash x;pure (J8 (r.push h))) Q E s1
 |_,_,b,s1,_,.nil,q=>G7 (by have:=q s1.toks;simpa using this)
 |_,_,b,s1,e1,.cons (r:=r) (T:=U) a x,q=>by
  rw [cN];refine wpAny_bind (wpAny_bind (oN (by omega) (by rw [e1];exact a) (G7 ?_)));exact Xi hu (b.push (bZ (intKind prog w) r)) _ e1 x λtk=>by
   have:=q tk;rw [T2] at this;simpa using this
variable {T:G0 (G0 P2)}{a:G5}
theorem BK {Q:P2->G2->Prop}(hu:A.units+8<cLine)(hT:Qy prog w s.heap T a)(q: ∀tk,Q (Oj prog w T) {s with toks:=tk}):D1 (D3 prog w) A (pyHash (.ref a)) Q E s:=by
 obtain⟨o,items,n,ho,hc,hd,hi⟩:=hT;have ty:s.TypeIs (.ref a) "tuple" :=⟨o,ho,hc⟩;have room:A.units<cLine:=by omega
 have slot:=λ{M:cC} {A':R6} {E':G1->G2->Prop} {P:P0 G1->G2->Prop}=>aW (M:=M) (A:=A') (E:=E') (Q:=P) ty F.slot_tuple_hash.lookup
 unfold pyHash pyHashByItsType;refine wpAny_bind (wpAny_cRoomFor_or (.inr room) (wpAny_bind (slot ?_)));rw [R3 (by simp)];refine wpAny_bind (slot (wpAny_bind (wpAny_callSpecialIfBoundUnlessNone?_slot ty pN (F4 pN ty F.entry_tuple_hash ?_ (F.args_tuple_hash_1 _)))));show D1 _ _ (Q8 (.ref a) >>= _) _ _ s;refine wpAny_bind (wpAny_tupleItemsOf ho hd (wpAny_bind ?_));rw [<-V5];refine Xi (A:=A.in1) (show A.units+1+4<cLine by omega) #[] s rfl hi λtk=> ?_
 have told:=q (tk+1);unfold Oj oC at told;show D1 _ _ (retInt (Z2 ((#[]:M1 P2)++(T.map (bZ (intKind prog w))).toArray).toList)) _ _ _;rw [show ((#[]:M1 P2)++(T.map (bZ (intKind prog w))).toArray).toList=T.map (bZ (intKind prog w)) by simp];refine wpAny_ret_mkInt ?_;show D1 _ _ (pyHashByItsType.reduced _) _ _ _;unfold pyHashByItsType.reduced;split
 ·rename_i c;rw [R1 c] at told;exact G7 told
 ·rename_i c;rw [R3 c] at told;exact wpAny_bind (j8 (G7 told))
theorem MG (d:G8){x:G0 P2}{a:G5}{Q:N0->G2->Prop}:gZ (intKind prog w) s.heap x a->Q true s->D1 (D3 prog w) A (nB (d+1) (.ref a)) Q E s
 |⟨_,_,_,ho,hc,hd,hi⟩,q=>by
  unfold nB;refine wpAny_bind (aW (T:= "tuple") ⟨_,ho,hc⟩ F.slot_tuple_eq.lookup (wpAny_bind (i7 (T:= "tuple") ⟨_,ho,hc⟩ mC ?_)));simp only [eU,N9,↓reduceIte];refine wpAny_bind (W1 ho hd (wpAny_bind ?_));simp only [bV,<-V5];refine vc _ (λv hv Q' q'=> ?_) (G7 q);rw [eqIsQuiet_byValue d (hi.byValue v hv)];exact G7 q'
variable {Q:N0->G2->Prop}
theorem MH:Qy prog w s.heap T a->Q true s->D1 (D3 prog w) A (nB 8 (.ref a)) Q E s
 |⟨_,_,_,ho,hc,hd,hi⟩,q=>by
  unfold nB;refine wpAny_bind (aW (T:= "tuple") ⟨_,ho,hc⟩ F.slot_tuple_eq.lookup (wpAny_bind (i7 (T:= "tuple") ⟨_,ho,hc⟩ mC ?_)));simp only [eU,N9,↓reduceIte];refine wpAny_bind (W1 ho hd (wpAny_bind ?_));simp only [bV,<-V5];refine vc _ (λv hv Q' q'=> ?_) (G7 q);obtain⟨r,b,rfl,hr⟩:=hi.each v hv;exact wpAny_bind (MG 6 hr (G7 q'))
theorem Ol:Qy prog w s.heap T a->Q false s->D1 (D3 prog w) A (W4 8 (.ref a)) Q E s
 |⟨_,_,_,ho,hc,hd,hi⟩,q=>by
  unfold W4;refine wpAny_bind (dG (T:= "tuple") ⟨_,ho,hc⟩ ?_);simp only [K4,↓reduceIte,pure_bind,eU,N9];refine wpAny_bind (W1 ho hd (wpAny_bind ?_));simp only [<-V5];refine vc _ (λv hv Q' q'=> ?_) (G7 q);obtain⟨r,b,rfl,hr⟩:=hi.each v hv;exact wpAny_bind (MD 6 hr (G7 q'))
theorem Om:Qy prog w s.heap T a->Q true s->D1 (D3 prog w) A (dA 8 (.ref a)) Q E s
 |⟨_,_,_,ho,hc,hd,hi⟩,q=>by
  unfold dA;refine wpAny_bind (aW (T:= "tuple") ⟨_,ho,hc⟩ F.slot_tuple_hash.lookup (wpAny_bind (W1 ho hd (wpAny_bind ?_))));simp only [bV,<-V5];refine vc _ (λv hv Q' q'=> ?_) (G7 q);obtain⟨r,b,rfl,hr⟩:=hi.each v hv;exact wpAny_bind (ME 6 hr (G7 q'))
theorem YZ: ∀ {ks:G0 P2} {vs:G0 G1},ItemsAre (intKind prog w) ks vs->ReadsAll h vs (ks.map aP) []
 |_,_,.nil=> .nil
 |_,_,.cons a x=>by
  obtain⟨tk,rfl⟩:=CT a;exact .cons (as:= []) (bs:= []) (.int _ _) (YZ x)
theorem Zw: ∀ {T:G0 (G0 P2)} {vs:G0 G1},RowsIn prog w h T vs->ReadsAll h vs (T.map yT) []
 |_,_,.nil=> .nil
 |_,_,.cons ⟨_,_,_,ho,hc,hd,hi⟩ x=> .cons (as:= []) (bs:= []) (.tuple ho hc hd (YZ hi)) (Zw x)
theorem On {U:G0 (G0 P2)}{b:G5}(hu:A.units+8<cLine)(hT:Qy prog w s.heap T a)(hU:Qy prog w s.heap U b)(q:Q (decide (T=U)) s):D1 (D3 prog w) A (eqBool (.ref a) (.ref b)) Q E s:=by
 obtain⟨_,_,_,ho,hc,hd,hi⟩:=hT;obtain⟨_,_,_,ho',hc',hd',hi'⟩:=hU;have lay: ∀V:G0 (G0 P2),C7 (.tuple (V.map yT))=true:=λV=>by simp only [C7];exact yD V
 have dep:O3 (.tuple (T.map yT))<=4:=by simp only [O3];have:=vy T;omega
 refine eqBoolOverData prog w A E s _ _ _ _ _ _ Q (.tuple ho hc hd (Zw hi)) (.tuple ho' hc' hd' (Zw hi')) (lay T) (lay U) (by have:=rF (O3 (.tuple (T.map yT))) (O3 (.tuple (U.map yT)));omega) ?_;show Q (B7 (T.map yT) (U.map yT)) s;rw [wG];exact q
def HG (prog:D5)(w:T5):MemK prog w (G0 (G0 P2)) where
 is:=λh T a=>Qy prog w h T a
 hash:=Oj prog w
 inj:=λ⟨_,_,_,ho,_,hd,hi⟩ ⟨_,_,_,ho',_,hd',hi'⟩=>by
  rw [ho] at ho';cases ho';rw [hd] at hd';cases hd';exact hi.one hi'
 keep:=λk ⟨o,items,n,ho,hc,hd,hi⟩=>⟨o,items,n,k _ o hc ho,hc,hd,hi.keep k⟩
 hashed:=λhu hk q=>BK hu hk q
 same:=λhu hx hy q=>On hu hx hy q
 quiet:=λhk q=>MH hk q
 cls:=λhk q=>Ol hk q
 byv:=λhk q=>Om hk q
end
def BL (H:Hp):G0 V->G0 (G0 P2)->Prop
 | [],[]=>True
 |v::vs,r::T=>(∃c,v= .ref c/\H c=some (.tup (r.map V.int)))/\BL H vs T
 |_,_=>False
def Ti (H:Hp)(T:G0 (G0 P2))(b:G5):Prop:= ∃us,H b=some (.tup us)/\BL H us T
theorem MI {X:Cx}{pins:G0 (G5×Obj)}{σ:St}{H:Hp}{s:G2}(I:Inv X pins σ H s): ∀ {vs:G0 V} {T:G0 (G0 P2)} {us:G0 G1},BL H vs T->Vals vs us->RowsIn X.prog X.w s.heap T us
 | [],[],_,_,.nil=> .nil
 |_::_,r::_,_,⟨⟨c,e,hc⟩,x⟩,.cons rv y=>by
  subst e;cases rv;exact .cons (Su I r c hc) (MI I x y)
theorem Sw {X:Cx}{pins:G0 (G5×Obj)}{σ:St}{H:Hp}{s:G2}(I:Inv X pins σ H s)(T:G0 (G0 P2))(b:G5)(h:Ti H T b):(HG X.prog X.w).is s.heap T b:=by
 obtain⟨us,hb,x⟩:=h;obtain⟨_,its,rv,o,e,c,_,n,d⟩:=I.hok b _ hb;exact⟨o,its.toArray,n,e,c,d,by rw [List.toList_toArray];exact MI I x rv⟩
theorem MJ {K:G3}{H:Hp}: ∀ {T:G0 (G0 P2)} {vs:G0 V},RelDs K H (T.map wE) vs->BL H vs T
 | [],vs,r=>by
  have:vs= []:=r;subst this;exact Q6
 |row::T,vs,r=>by
  obtain⟨v,us,e,r1,r2⟩:=(show ∃v r,vs=v::r/\RelD K H (wE row) v/\RelDs K H (T.map wE) r from r);obtain⟨a,ws,e4,hH,r4⟩:=(show ∃a vs,v= .ref a/\H a=some (.tup vs)/\RelDs K H (row.map D.int) vs from r1);rw [zj r4] at hH;subst e;exact⟨⟨a,e4,hH⟩,MJ r2⟩
end L2
namespace L2
open PySem PySem.Spec PyProof.Rows PySem.W
structure DefIn (K:Frag)(x:Str)(st:C5)(f:G5)(fd:R4):Prop where
 at_:nsIn K mainGlobals x=some (some (.ref f))
 fn:Fun K x x st f fd
variable {K:Frag}{h base:M4}{mg:Str->P0 G1}{x:Str}{st:C5}{f:G5}{fd:R4}{P:D5}{w:T5}{n:G8}{ps:G0 Str}
theorem Sx {oc:G1}{od an:P0 G5}{osl:M1 (P0 G1)}{kV doc pm cdv ct:G1}(a:nsIn K mainGlobals x=some (some (.ref f)))(l:K.lookup f=some ⟨oc,od,.func (fnOf x x (wA st) (jJ st) (jb st) .none kV doc pm an cdv ct),osl⟩)
 (c:codeIn K cdv x=true)(k:keepIn K (.ref f)=true):DefIn K x st f (fnOf x x (wA st) (jJ st) (jb st) .none kV doc pm an cdv ct):=⟨a,Cj l c k⟩
abbrev Sy (x:Str)(st:C5)(ps:G0 Str):Prop:= ∀ (kV doc pm:G1) (an:P0 G5) (cdv ct:G1) (us:G0 G1),us.length=ps.length->oW (fnOf x x (wA st) (jJ st) (jb st) .none kV doc pm an cdv ct) ⟨us,[]⟩=pure (ps.zip us)
theorem DefIn.nm (d:DefIn K x st f fd)(X:K.In h)(G:h.Ns mainGlobals mg):mg x=some (.ref f):=mg_of X G d.at_
variable {C:G0 G1->Prop}
theorem ln1 (g: ∀a,C [a]): ∀us:G0 G1,us.length=1->C us
 | [_],_=>g _
theorem ln2 (g: ∀a b,C [a,b]): ∀us:G0 G1,us.length=2->C us
 | [_,_],_=>g _ _
theorem ln3 (g: ∀a b c,C [a,b,c]): ∀us:G0 G1,us.length=3->C us
 | [_,_,_],_=>g _ _ _
theorem ln4 (g: ∀a b c d,C [a,b,c,d]): ∀us:G0 G1,us.length=4->C us
 | [_,_,_,_],_=>g _ _ _ _
theorem ln5 (g: ∀a b c d e,C [a,b,c,d,e]): ∀us:G0 G1,us.length=5->C us
 | [_,_,_,_,_],_=>g _ _ _ _ _
theorem DefIn.cal {sp:RDn}(d:DefIn K x st f fd)(l:OpenLaw)(w:T5)(base:M4)(X:K.In h)(G:h.Ns mainGlobals mg)(ok:FnOk l.prog w K mg base CX0 n f fd ps (LSp K sp))(b:Sy x st ps:=by first|exact λ_ _ _ _ _ _=>ln1 λ_=>rfl|exact λ_ _ _ _ _ _=>ln2 λ_ _=>rfl|exact λ_ _ _ _ _ _=>ln3 λ_ _ _=>rfl|exact λ_ _ _ _ _ _=>ln4 λ_ _ _ _=>rfl|exact λ_ _ _ _ _ _=>ln5 λ_ _ _ _ _=>rfl):jh l.prog w K mg base n x ps sp:=⟨_,_,ok,d.fn.binds b,d.fn.kp,d.nm X G⟩
theorem DefIn.rai {sp:RDx}(d:DefIn K x st f fd)(l:OpenLaw)(w:T5)(base:M4)(X:K.In h)(G:h.Ns mainGlobals mg)(ok:FnOk l.prog w K mg base (CXR l.prog w) n f fd ps (Qm mg K sp))(b:Sy x st ps:=by first|exact λ_ _ _ _ _ _=>ln1 λ_=>rfl|exact λ_ _ _ _ _ _=>ln2 λ_ _=>rfl|exact λ_ _ _ _ _ _=>ln3 λ_ _ _=>rfl|exact λ_ _ _ _ _ _=>ln4 λ_ _ _ _=>rfl|exact λ_ _ _ _ _ _=>ln5 λ_ _ _ _ _=>rfl):zg l.prog w K mg base n x ps sp:=⟨_,_,ok,d.fn.binds b,d.fn.kp,d.nm X G⟩
def zsB (K:Frag):N0:= ["len","max","min","divmod","all","any","repr","sum","sorted","int","tuple","list","set","bool","isinstance","range","zip","enumerate","reversed"].all λx=>nsIn K mainGlobals (G6 x)==some none
theorem HH (X:K.In h)(G:h.Ns mainGlobals mg)(e:zsB K=true):Zs mg:=by
 unfold zsB at e;rw [M8] at e;have m:=λ(x:B2) hx=>mg_none_of X G (beq_iff_eq.mp (e x hx))
 exact⟨m "len" (by decide),m "max" (by decide),m "min" (by decide),m "divmod" (by decide),m "all" (by decide),m "any" (by decide),m "repr" (by decide),m "sum" (by decide),m "sorted" (by decide),m "int" (by decide),m "tuple" (by decide),m "list" (by decide),m "set" (by decide),m "bool" (by decide),m "isinstance" (by decide),m "range" (by decide),m "zip" (by decide),m "enumerate" (by decide),m "reversed" (by decide)⟩
end L2
namespace L2
open PySem PySem.Spec PyProof.Rows
def kvV (kvs:G0 (P2×V)):G0 (Key×V):=kvs.map λp=>((K0 p.1:Key),p.2)
def Qz {α:Type}(kv:G0 (P2×α))(k:P2):P0 α:=(kv.find? λp=>decide (p.1=k)).map (·.2)
def BM {α:Type}(kv:G0 (P2×α))(k:P2)(d:α):G0 (P2×α):=if (Qz kv k).isSome then kv.map (λp=>if p.1=k then (p.1,d) else p) else kv++ [(k,d)]
section
variable {α:Type}{kv r:G0 (P2×α)}{p:P2×α}{k:P2}
theorem BN (e:p.1=k):Qz (p::r) k=some p.2:=by simp [Qz,W5,e]
theorem BO (e: ¬p.1=k):Qz (p::r) k=Qz r k:=by simp [Qz,W5,e]
end
section
variable {K:G3}{H:Hp}{k:P2}
theorem Wk: ∀ {kv:G0 (P2×D)} {kvs:G0 (P2×V)},kv.map (·.1)=kvs.map (·.1)->RelDs K H (kv.map (·.2)) (kvs.map (·.2))->(∀d,Qz kv k=some d-> ∃v,Uz (kvV kvs) (K0 k)=some v/\RelD K H d v)/\(Qz kv k=none->Uz (kvV kvs) (K0 k)=none)
 | [],[],_,_=>⟨λ_ z=>(nomatch z),λ_=>rfl⟩
 |p::r,[],e,_=>by cases e
 | [],q::s,e,_=>by cases e
 |p::r,q::s,e,h=>by
  rw [T2,T2] at e;injection e with e1 e2
  obtain⟨v,t,z,h1,h2⟩:=(show ∃v t,q.2::s.map (·.2)=v::t/\RelD K H p.2 v/\RelDs K H (r.map (·.2)) t from h);injection z with z1 z2
  subst z1;subst z2
  by_cases c:p.1=k
  ·rw [BN c];refine⟨λd z=> ?_,λz=>by cases z⟩;injection z with z
   subst z;exact⟨q.2,Wd (by show (K0 q.1:Key)=_;rw [<-e1,c]),h1⟩
  ·rw [BO c];have n: ¬ (K0 q.1:Key)=K0 k:=λz=>by injection z with z;exact c (e1.trans z)
   show (∀d,_-> ∃v,Uz ((K0 q.1,q.2)::kvV s) _=_/\_)/\(_->Uz ((K0 q.1,q.2)::kvV s) _=_);rw [We n];exact Wk e2 h2
theorem BP {kv:G0 (P2×D)}{kvs:G0 (P2×V)}{d:D}{v:V}(e:kv.map (·.1)=kvs.map (·.1))(r:RelDs K H (kv.map (·.2)) (kvs.map (·.2)))(rd:RelD K H d v): ∃kvs',Vk (kvV kvs) (K0 k) v=kvV kvs'/\(BM kv k d).map (·.1)=kvs'.map (·.1)/\RelDs K H ((BM kv k d).map (·.2)) (kvs'.map (·.2)):=by
 have g:=Wk (k:=k) e r
 by_cases c:(Qz kv k).isSome
 ·obtain⟨d0,hd0⟩:=F2.mp c;obtain⟨v0,hv0,_⟩:=g.1 d0 hd0;refine⟨kvs.map λp=>if p.1=k then (p.1,v) else p,?_,?_,?_⟩
  ·unfold Vk;rw [Wf,hv0];show G0l _ (kvV kvs)=_;unfold kvV;rw [N7,N7];refine B3 λp _=> ?_
   show (if (K0 p.1:Key)=K0 k then _ else _)=_
   by_cases z:p.1=k
   ·rw [R1 (by rw [z])];show _=((K0 (if p.1=k then (p.1,v) else p).1:Key),(if p.1=k then (p.1,v) else p).2);rw [R1 z]
   ·rw [R3 (λw=>z (by injection w))];show _=((K0 (if p.1=k then (p.1,v) else p).1:Key),(if p.1=k then (p.1,v) else p).2);rw [R3 z]
  ·unfold BM;rw [R1 c,N7,N7];have a1:kv.map ((·.1)∘λp=>if p.1=k then (p.1,d) else p)=kv.map (·.1):=B3 λp _=>by show (if p.1=k then (p.1,d) else p).1=p.1;split<;>rfl
   have a2:kvs.map ((·.1)∘λp=>if p.1=k then (p.1,v) else p)=kvs.map (·.1):=B3 λp _=>by show (if p.1=k then (p.1,v) else p).1=p.1;split<;>rfl
   rw [a1,a2,e]
  ·unfold BM;rw [R1 c];clear g c hd0 hv0
   induction kv generalizing kvs with
   |nil=>cases kvs with
    |nil=>exact .nil
    |cons q s=>cases e
   |cons p t ih=>cases kvs with
    |nil=>cases e
    |cons q s=>
     rw [T2,T2] at e;injection e with e1 e2
     obtain⟨u,w,z,h1,h2⟩:=(show ∃v t',q.2::s.map (·.2)=v::t'/\RelD K H p.2 v/\RelDs K H (t.map (·.2)) t' from r);injection z with z1 z2
     subst z1;subst z2;refine⟨(if q.1=k then (q.1,v) else q).2,_,rfl,?_,ih e2 h2⟩;show RelD K H (if p.1=k then (p.1,d) else p).2 _
     by_cases z:p.1=k
     ·rw [R1 z,R1 (e1 ▸ z)];exact rd
     ·rw [R3 z,R3 (e1 ▸ z)];exact h1
 ·have hn:Qz kv k=none:=by simpa using c
  refine⟨kvs++ [(k,v)],?_,?_,?_⟩
  ·rw [Nw v (g.2 hn)];unfold kvV;rw [L8];rfl
  ·unfold BM;rw [R3 c,L8,L8,e];rfl
  ·unfold BM;rw [R3 c,L8,L8];exact r.append (.cons rd .nil)
end
def Sz:TED:=λ_ h Q=> ∀p,h.dc p=none->Q (.dct p) (Cl h p (.ik []))
section
variable {X:Cx}
theorem SA {pos:Pos}:JE X (.Dict [] [] pos) Sz:=⟨pe_dnewK.imp λσ H Q ⟨σd,h,Qd,rs,rh,t,p⟩ q hq=>
 p (.dct q) (.ref q) _ _ (.new hq) (rh.newC (c:= .ik []) hq ⟨[],je,rfl,.nil⟩) rfl (t q (rh.freeC hq))⟩
def HI (td ty tv:TED):TSD:=λE σ h=>tv σ h λv h1=>td σ h1 λx h2=>ty σ h2 λy h3=> ∃a k kv,x= .dct a/\y= .int k/\h3.dc a=some (.ik kv)/\kv.length<1000/\E.nx σ (Cl h3 a (.ik (BM kv k v)))
theorem HJ {k : G8} {o i value : S6} {td ty tv : TED} {pos pos' : Pos} (hr : Room k X.A) (ho : JE X o td) (hi : JE X i ty) (hv : JE X value tv) (hs : Q4 value (some (.Subscript o i pos')) pos.line X.env = pure false := by rfl) : JS X (.Assign [.Subscript o i pos'] value pos) (HI td ty tv) :=
  ⟨(FE (by have := hr.un; omega) ho.to hi.to hv.to hs).imp fun D σ H ⟨σd, h, Dd, rs, rh, t, nx, _⟩ => LE.bind rs rh t fun d v h1 H1 k1 rs1 rh1 r1 t1 => LE.bind rs1 rh1 t1 fun d2 v2 h2 H2 k2 rs2 rh2 r2 t2 => LE.bind rs2 rh2 t2 fun d3 v3 h3 H3 k3 rs3 rh3 r3 ⟨a, x, kv, e1, e2, e, hl, q⟩ => by
    subst e1 e2
    cases (show v2 = .ref a from r2)
    cases (show v3 = .int x from r3)
    obtain ⟨kvs, hH, ek, rv⟩ := (show ∃ kvs : G0 (P2 × V), _ from rh3.dc a _ e)
    obtain ⟨kvs', p1, p2, p3⟩ := BP (k := x) ek rv ((r1.mono k2).mono k3)
    have ob : DObj (.dK (kvV kvs)) := .inl ⟨kvs, rfl⟩
    have hl' : (kvV kvs).length < sizeLine := by
      unfold kvV
      rw [G9, show kvs.length = kv.length by have := congrArg e8 ek; simpa using this.symm]
      exact S0 hl (by decide)
    refine ⟨a, _, rfl, .k (k := K0 x) hH hl', nx σd _ σ _ (k1.trans (k2.trans (k3.trans (.putD hH ob)))) (rs3.mono (.putD hH ob)) (rh3.putC (c := .ik (BM kv x d)) hH ob ⟨kvs', ?_, p2, p3.mono (.putD hH ob)⟩) q⟩
    rw [je]
    exact congrArg (fun z => some (HO.dK z)) p1⟩
def SB (td ty tx:TED):TED:=λσ h Q=>td σ h λx h1=> ∃a kv0,x= .dct a/\h1.dc a=some (.ik kv0)/\ty σ h1 λy h2=>tx σ h2 λz h3=> ∃k kv,y= .int k/\h3.dc a=some (.ik kv)/\Q ((Qz kv k).getD z) h3
theorem SC {k : G8} {o e f : S6} {td ty tx : TED} {apos cpos : Pos} (hr : Room k X.A) (ho : JE X o td) (he : JE X e ty) (hf : JE X f tx) (m : M2 X o "get" apos e f cpos := by exact ⟨rfl, rfl, rfl, rfl⟩) : JE X (.Call (.Attribute o "get" apos) [e, f] [] cpos) (SB td ty tx) :=
  ⟨(NA (by have := hr.un; omega) ho.to he.to hf.to m).imp fun σ H Q ⟨σd, h, Qd, rs, rh, t, post⟩ => LE.bind rs rh t fun d v h1 H1 k1 rs1 rh1 r1 ⟨a, kv0, e1, z1, t1⟩ => by
    subst e1
    cases (show v = .ref a from r1)
    obtain ⟨kvs0, hH0, _⟩ := (show ∃ kvs : G0 (P2 × V), _ from rh1.dc a _ z1)
    refine ⟨a, rfl, .inl ⟨_, .inl hH0⟩, LE.bind rs1 rh1 t1 fun d2 v2 h2 H2 k2 rs2 rh2 r2 t2 => LE.bind rs2 rh2 t2 fun d3 v3 h3 H3 k3 rs3 rh3 r3 ⟨x, kv, e2, e, q⟩ => ?_⟩
    subst e2
    cases (show v2 = .int x from r2)
    obtain ⟨kvs, hH, ek, rv⟩ := (show ∃ kvs : G0 (P2 × V), _ from rh3.dc a _ e)
    refine ⟨_, .k (k := K0 x) hH, post ((Qz kv x).getD d3) _ _ _ (k1.trans (k2.trans k3)) rh3 ?_ q⟩
    show RelD X.K H3 ((Qz kv x).getD d3) ((Uz (kvV kvs) (K0 x)).getD v3)
    cases g : Qz kv x with
    | none => rw [(Wk ek rv).2 g]; exact r3
    | some d => obtain ⟨u, hu, ru⟩ := (Wk ek rv).1 d g; rw [hu]; exact ru⟩
theorem SE {P:D5}{w:T5}{k:P2}{v:G1}(h:(jQ P w).is (K0 k) v=true):RelV (.int k) v:=oP h
end
theorem Sub.overC {h h':HD}{a:G5}{c:DC}(sb:Sub h h')(e:h.dc a=none):Sub h (Cl h' a c):=⟨sb.ls,λb xs z=>by
 rw [Vn (λw=>by subst w;rw [e] at z;cases z)];exact sb.dc b xs z⟩
end L2
namespace L2
theorem MK {g:G8->G8->N0}{n:G8}: ∀ {t:G8} {w:G0 G8},w.length=t+1->(∀i∈w,i<n)->w.Nodup->(∀i∈w,w.headD 0<=i)->(∀i x y,w[i]? =some x->w[i+1]? =some y->g x y=true)->w∈lev g n t
 |0,w,hl,lt,_,_,_=>by
  obtain⟨a,rfl⟩:=lP.mp hl;exact S2.mpr ⟨a,S5.mpr (lt a (by simp)),rfl⟩
 |t+1,w,hl,lt,nd,low,go=>by
  obtain⟨v,j,rfl⟩: ∃v j,w=v++ [j]:=⟨w.dropLast,w.getLast (by intro z;rw [z] at hl;cases hl),(List.dropLast_concat_getLast _).symm⟩;have lv:v.length=t+1:=by rw [D9,lZ] at hl;omega
  have hd:(v++ [j]).headD 0=v.headD 0:=by cases v with|nil=>cases lv|cons a r=>rfl
  have nv:=pM.mp nd;have jn:j ∉ v:=λz=>nv.2.2 j z j (by simp) rfl
  have hh:v.headD 0∈v:=by cases v with|nil=>cases lv|cons a r=>exact P3 ..
  rw [hd] at low;have mv:=MK (g:=g) (n:=n) lv (λi hi=>lt i (T6 _ hi)) nv.1 (λi hi=>low i (T6 _ hi)) λi x y e1 e2=>go i x y (by rw [L5 (R0.mp e1).1];exact e1) (by rw [L5 (R0.mp e2).1];exact e2)
  refine eL.mpr ⟨v,mv,S2.mpr ⟨j,E1.mpr ⟨S5.mpr (lt j (by simp)),?_⟩,rfl⟩⟩;have la:v[t]? =some (v.getLastD 0):=by rw [b8,b9,lv,Nat.add_sub_cancel,P8 (by omega)];rfl
  have g1:=go t _ j (by rw [L5 (by omega)];exact la) (by rw [Q7 (by omega),lv,u7];rfl);have lj:=low j (by simp);have ne:v.headD 0≠j:=λz=>jn (z ▸ hh)
  unfold KM;rw [g1,S1 (show v.headD 0<j by omega),T3 jn];rfl
theorem ML {g:G8->G8->N0}{n s:G8}{w:G0 G8}(h:w∈lev g n s)(b:g (w.getLastD 0) (w.headD 0)=true): ∀t,s<t->w∈HB g n t
 |t+1,ht=>by
  rcases A8 s t with z|z
  ·exact T6 _ (ML h b t z)
  ·have:t=s:=by omega
   subst this;exact P6 _ (E1.mpr ⟨h,b⟩)
theorem QB {n:G8}{w:G0 G8}(nd:w.Nodup)(lt: ∀i∈w,i<n):w.length<=n:=by
 have:=WO (ys:=P7 n) nd λx hx=>S5.mpr (lt x hx)
 rwa [T1] at this
section
variable {n e:G8}{T:G0 (G0 P2)}
theorem PX {w:G0 G8}(ne:w≠ [])(lt: ∀i∈w,i<n)(nd:w.Nodup)(low: ∀i∈w,w.headD 0<=i)(go: ∀i x y,w[i]? =some x->w[i+1]? =some y->ent T x y>0)(back:ent T (w.getLastD 0) (w.headD 0)>0):w∈Gv T n:=by
 obtain⟨t,ht⟩: ∃t,w.length=t+1:=⟨w.length-1,by have:=List.length_pos_iff.mpr ne;omega⟩;have:=QB nd lt;exact(PP _).mem_iff.mpr (ML (MK (g:=KN T) ht lt nd low λi x y e1 e2=>S1 (go i x y e1 e2)) (S1 back) n (by omega))
theorem MM (h:Sq n e T){i j:G8}(hi:i<n)(hj:j<n)(z:ent T i j≠0):ent T i j>0:=by have:=(h.ent_nn hi hj).1;omega
theorem PY (h:Sq n e T)(hn:n<=8){m:G8}(m1:1<=m){v:G8->G8}(vl: ∀t,v t<n)(per: ∀t,v (t+m)=v t)(inj: ∀a b,a<m->b<m->v a=v b->a=b)(st: ∀t,RP n T 1 (v t) (v (t+1))): ∃s,(P7 m).map (λt=>v (s+t))∈Gv T n:=by
 obtain⟨s,hs⟩: ∃s,∀t,v s<=v t:=by
  have key: ∀k,∃s,∀t,t<k+1->v s<=v t:=λk=>by
   induction k with
   |zero=>exact⟨0,λt ht=>by rw [show t=0 by omega];exact P1 _⟩
   |succ k ih=>
    obtain⟨s,hs⟩:=ih;rcases A8 (v (k+1)) (v s) with z|z
    ·exact⟨k+1,λt ht=>by
      rcases A8 t (k+1) with y|y
      ·have:=hs t y;omega
      ·rw [show t=k+1 by omega];exact P1 _⟩
    ·exact⟨s,λt ht=>by
      rcases A8 t (k+1) with y|y
      ·exact hs t y
      ·rw [show t=k+1 by omega];exact z⟩
  obtain⟨s,hs⟩:=key m;have red: ∀t,v t=v (t%m):=λt=>by
   have: ∀q r,v (r+q*m)=v r:=λq r=>by
    induction q with
    |zero=>rw [u8,bY]
    |succ q ih=>rw [bT,<-nV,per,ih]
   have e:=this (t / m) (t%m);rw [X7,rH] at e;exact e
  exact⟨s,λt=>by rw [red t];exact hs _ (by have:=Y7 t m1;omega)⟩
 have red: ∀t,v t=v (t%m):=λt=>by
  have: ∀q r,v (r+q*m)=v r:=λq r=>by
   induction q with
   |zero=>rw [u8,bY]
   |succ q ih=>rw [bT,<-nV,per,ih]
  have e:=this (t / m) (t%m);rw [X7,rH] at e;exact e
 have hd:((P7 m).map λt=>v (s+t)).headD 0=v s:=by
  obtain⟨k,rfl⟩: ∃k,m=k+1:=⟨m-1,by omega⟩;rw [lH];rfl
 refine⟨s,PX ?_ (λi hi=>by obtain⟨t,_,rfl⟩:=S2.mp hi;exact vl _) ?_ (λi hi=>by obtain⟨t,_,rfl⟩:=S2.mp hi;rw [hd];exact hs _) (λi x y e1 e2=> ?_) ?_⟩
 ·intro z;have:=congrArg e8 z;rw [G9,T1] at this;simp at this;omega
 ·refine Z9.mpr ((eJ (n:=m)).imp_of_mem λ{a b} ha hb ne z=> ?_);have ha:=S5.mp ha;have hb:=S5.mp hb;have z:v (s+a)=v (s+b):=z;rw [red (s+a),red (s+b)] at z;have:=inj _ _ (Y7 _ m1) (Y7 _ m1) z;refine ne ?_;have d1:=lW (s+a) m;have d2:=lW (s+b) m;rcases bF ((s+a) / m) ((s+b) / m) with c|c|c
  ·have:=fO m (show (s+a) / m+1<=(s+b) / m from c);rw [c9] at this;omega
  ·rw [c] at d1;omega
  ·have:=fO m (show (s+b) / m+1<=(s+a) / m from c);rw [c9] at this;omega
 ·have h1:=(R0.mp e2).1;rw [G9,T1] at h1;rw [D6,X0 (by omega)] at e1 e2;injection e1 with e1
  injection e2 with e2
  subst e1;subst e2;exact MM h (vl _) (vl _) ((Mc h hn).mp (st (s+i)))
 ·have la:((P7 m).map λt=>v (s+t)).getLastD 0=v (s+(m-1)):=by
   rw [b8,b9,G9,T1,D6,X0 (by omega)];rfl
  rw [hd,la];have:=st (s+(m-1));rw [show s+(m-1)+1=s+m by omega,per] at this;exact MM h (vl _) (vl _) ((Mc h hn).mp this)
def MN (T:G0 (G0 P2))(n:G8):G8:=((Gv T n).map e8).foldl rN 0
theorem MO {w:G0 G8}(hw:w∈Gv T n):MN T n∣w.length:=((Gs _ 0 (MN T n)).mp (Nat.dvd_refl _)).2 _ (F1 hw)
theorem Xj (h:Sq n e T)(hn:n<=8): ∀ (m:G8) {p:G8},p<n->RP n T m p p->MN T n∣m:=by
 intro m
 induction m using G8.strongRecOn with
 |_ m ih=>
  intro p hp r;rcases oJ m with z|m1
  ·rw [z];exact Nat.dvd_zero _
  obtain⟨v,v0,vm,vl,vr⟩:=Cz h hn m hp hp r
  by_cases c: ∃a b,a<b/\b<m/\v a=v b
  ·obtain⟨a,b,ab,bm,e1⟩:=c;have r1:=Vz h hn vl vr a (b-a) (by omega);rw [show a+(b-a)=b by omega,<-e1] at r1;have r2:=Vz h hn vl vr 0 a (by omega);rw [lI,v0] at r2;have r3:=Vz h hn vl vr b (m-b) (by omega);rw [show b+(m-b)=m by omega,vm,<-e1] at r3;have d1:=ih (b-a) (by omega) (vl a (by omega)) r1;have d2:=ih (a+(m-b)) (by omega) hp (VE h hn hp (vl a (by omega)) hp r2 r3);have:=Nat.dvd_add d1 d2
   rwa [show b-a+(a+(m-b))=m by omega] at this
  ·obtain⟨s,hs⟩:=PY h hn (T:=T) (n:=n) m1 (v:=λt=>v (t%m)) (λt=>vl _ (by have:=Y7 t m1;omega)) (λt=>by show v ((t+m)%m)=_;rw [Nat.add_mod_right]) (λa b ha hb z=>by
    have z:v (a%m)=v (b%m):=z;rw [eM ha,eM hb] at z;rcases bF a b with y|y|y
    ·exact absurd ⟨a,b,y,hb,z⟩ c
    ·exact y
    ·exact absurd ⟨b,a,y,ha,z.symm⟩ c) (λt=>by
    show RP n T 1 (v (t%m)) (v ((t+1)%m));have lt:=Y7 t m1;have:=vr (t%m) lt;rcases A8 (t%m+1) m with z|z
    ·rw [show (t+1)%m=t%m+1 by rw [mV,eM (show 1<m by omega),eM z]];exact this
    ·have e2:(t+1)%m=0:=by
      rw [<-lW t m,show m*(t / m)+t%m+1=m*(t / m+1) by rw [c9];omega];exact Nat.mul_mod_right _ _
     rw [e2,v0,<-vm,show m=t%m+1 by omega];rw [show t%(t%m+1)=t%m by rw [show t%m+1=m by omega]];exact this)
   have:=MO hs
   rwa [G9,T1] at this
theorem HK (h:Sq n e T)(hn:n<=8){i j:G8}(hi:i<n)(w:wk T n i j=true):j<n/\ ∃k,RP n T k i j:=
 Wj (P:=λi j=>i<n->j<n/\ ∃k,RP n T k i j) (λi hi=>⟨hi,0,(Qj hi hi).mpr rfl⟩) (λi j z hi=>⟨LP h i j z,1,(Mc h hn).mpr z⟩) (λi k j a b hi=>by
  obtain⟨hk,k1,r1⟩:=a hi;obtain⟨hj,k2,r2⟩:=b hk;exact⟨hj,k1+k2,VE h hn hi hk hj r1 r2⟩) w hi
theorem Oo (h:Sq n e T)(hn:n<=8)(one:(OV T n).length=1){i j:G8}(hi:i<n)(hj:j<n): ∃k,RP n T k i j:=by
 obtain⟨S,e1⟩:=lP.mp one;have a:pcS T n i∈OV T n:=mem_pcs.mpr ⟨i,hi,rfl⟩;have b:pcS T n j∈OV T n:=mem_pcs.mpr ⟨j,hj,rfl⟩;rw [e1] at a b;have:j∈pcS T n i:=by rw [P4.mp a,<-P4.mp b];exact MF hj
 exact(HK h hn hi (mem_pc.mp this).2.1).2
end
end L2
set_option maxRecDepth 35000
namespace L2
section
variable {n e:G8}{T:G0 (G0 P2)}
theorem Op {a l b d:G8}(h1:d∣a+b)(h2:d∣l+b):a%d=l%d:=by
 have key: ∀a l:G8,a<=l->d∣a+b->d∣l+b->a%d=l%d:=λa l c h1 h2=>by
  obtain⟨t,rfl⟩:=Nat.exists_eq_add_of_le c;have:d∣t:=(Nat.dvd_add_right h1).mp (by rw [show a+b+t=a+t+b by omega];exact h2);rw [mV,lO this,bY,xU]
 rcases Nat.le_total a l with c|c
 ·exact key a l c h1 h2
 ·exact(key l a c h2 h1).symm
theorem fit (h:Sq n e T)(hn:n<=8)(one:(OV T n).length=1){i j k l:G8}(hi:i<n)(hj:j<n)(a:RP n T k i j)(b:RP n T l i j):k%MN T n=l%MN T n:=by
 obtain⟨c,rc⟩:=Oo h hn one hj hi;exact Op (Xj h hn _ hi (VE h hn hi hj hi a rc)) (Xj h hn _ hi (VE h hn hi hj hi b rc))
end
end L2
namespace L2
open PySem PySem.Spec PyProof.Rows
section
variable {X:Cx}{k i:G8}{ps N Pn:G0 Str}{spd:RDn}{x:Str}{p pos pos':Pos}{e e2 e3 e4 iter elt:S6}{es ifs:G0 S6}{t:TAD}{te te2 te3 te4:TED}{ti:TID}{tt:TTD}{scope sc:H0}{c:S6}
theorem jk (C:jh X.prog X.w X.K X.mg X.base k x ps spd)(hr:Room k X.A)(ha:JA X (e::es) t)(hg:Gl X x:=by rfl)(hdb:(x==("__debug__" :Str))=false:=by decide)(he:P5 (e::es) X.env=(false,C8 e X.env)::P5 es X.env:=by rfl)(hpl:(F7 pos (P5 es X.env)).any (·.1)=false:=by rfl):JE X (.Call (.Name x p) (e::es) [] pos) (dCB spd t):=by
 obtain⟨g,gd,F,hb,hk,hm⟩:=C;exact Hu F hr hg hm hk hb ha hdb he hpl
theorem jxk {spr:RDx}(C:zg X.prog X.w X.K X.mg X.base k x ps spr)(hr:Room k X.A)(ha:JA X (e::es) t)(hg:Gl X x:=by rfl)(hdb:(x==("__debug__" :Str))=false:=by decide)(he:P5 (e::es) X.env=(false,C8 e X.env)::P5 es X.env:=by rfl)(hpl:(F7 pos (P5 es X.env)).any (·.1)=false:=by rfl):JXE X (.Call (.Name x p) (e::es) [] pos) (Sa spr t):=by
 obtain⟨g,gd,F,hb,hk,hm⟩:=C;exact LB F hr hg hm hk hb ha hdb he hpl
theorem j1 (a:JE X e te)(h:zv e=true:=by rfl):JA X [e] (jP te vE):=jac a zn h
theorem j2 (a:JE X e te)(b:JE X e2 te2)(h:zv e=true:=by rfl)(h2:zv e2=true:=by rfl):JA X [e,e2] (jP te (jP te2 vE)):=jac a (j1 b h2) h
theorem j3 (a:JE X e te)(b:JE X e2 te2)(c:JE X e3 te3)(h:zv e=true:=by rfl)(h2:zv e2=true:=by rfl)(h3:zv e3=true:=by rfl):JA X [e,e2,e3] (jP te (jP te2 (jP te3 vE))):=jac a (j2 b c h2 h3) h
theorem j4 (a:JE X e te)(b:JE X e2 te2)(c:JE X e3 te3)(d:JE X e4 te4)(h:zv e=true:=by rfl)(h2:zv e2=true:=by rfl)(h3:zv e3=true:=by rfl)(h4:zv e4=true:=by rfl):JA X [e,e2,e3,e4] (jP te (jP te2 (jP te3 (jP te4 vE)))):=jac a (j3 b c d h2 h3 h4) h
theorem Xk (Z:Zs X.mg)(a:JE X e te)(hg:Gl X "len" :=by rfl)(h:zv e=true:=by rfl)(he:P5 [e] X.env=(false,C8 e X.env)::P5 [] X.env:=by rfl)(hpl:(F7 pos (P5 [] X.env)).any (·.1)=false:=by rfl):JE X (.Call (.Name "len" p) [e] [] pos) (dCB NI (jP te vE)):=yX Er hg Z.len PySem.boot_len (j1 a h) (by decide) (by decide) he hpl
theorem jse (i:G8)(S:FnScope X.N Pn sc)(he:JE X e te)(hi:X.N[i]? =some x:=by rfl)(hx:Loc X.env.scope x:=by first|exact W6 rfl|exact cA rfl)(hs:Q4 e (some (.Name x pos')) pos.line X.env=pure false:=by rfl)(hf:X.fn x=true\/X.env.scope.names.lookup x=some .local:=by first|exact .inl rfl|exact .inr rfl|assumption):JS X (.Assign [.Name x pos'] e pos) (XZ i te):=KC S.nd hi hx he hs hf
theorem jgn (i:G8)(S:FnScope X.N Pn sc)(hi:X.N[i]? =some x:=by rfl)(hx:Loc X.env.scope x:=by first|exact W6 rfl|exact cA rfl)(hf:X.fn x=true\/X.env.scope.names.lookup x=some .local:=by first|exact .inl rfl|exact .inr rfl|assumption):JG X (.Name x pos) (gN i):=Lp S.nd hi hx hf
theorem jl0 (i:G8)(S:FnScope X.N Pn sc)(hi:JI X (.Name x p) iter ti)(he: ∀C s₀ H₀ ex,JE (yU X scope C s₀ H₀ ex) elt te)(hc:X.calm=true:=by rfl)(hB:Rq X.N X.env.scope.names scope [i]=true:=by rfl)(hx:X.N[i]? =some x:=by rfl)(hl:scope.names.lookup x=some .local\/scope.names.lookup x=some .cell:=by first|exact W6 rfl|exact cA rfl)(hs: ∀x,T8 iter X.env x=pure x:=by intro _;rfl):JE X (.ListComp elt [⟨.Name x p,iter,[],0⟩] scope pos) (XQ (bN i) [i] ti Zl te):=
 jlc hc (wz hB) hi (P4.mpr rfl) S.nd hx hl (λX' hX=>vU) (λX' hX=>by obtain⟨C,s₀,H₀,ex,rfl⟩:=hX;exact he C s₀ H₀ ex) hs
theorem fsc {N P:G0 Str}(a:sc.kind= .function:=by rfl)(b:sc.isCoroutine=false:=by rfl)(c:sc.isGenerator=false:=by rfl)(d:N.Nodup:=by decide +kernel)(e:N.take P.length=P:=by rfl)(f: ∀x∈P,sc.names.lookup x=some .local\/sc.names.lookup x=some .cell:=by decide +kernel)(g: ∀y∈sc.names,y.2≠ .free:=by decide +kernel):FnScope N P sc:=⟨a,b,c,d,e,f,g⟩
theorem jc1 {op:iA}{f:RD2}(ho:OpQ X (N3 op) f)(ha:JE X e te)(hb:JE X e2 te2)(hm:V7 op e2=false:=by exact DI _):JE X (.Compare e [op] [e2] pos) (dOp f te te2):=ud ho ha hb hm
theorem jt1 {op:iA}{f:RD2}(ho:OpQ X (N3 op) f)(ha:JE X e te)(hb:JE X e2 te2)(hm:V7 op e2=false:=by exact DI _):JT X (.Compare e [op] [e2] pos) (yV (dOp f te te2)):=Ry ho ha hb hm
theorem ji1 (ha:JE X e te)(hb:JE X e2 te2)(hs:Vh e2:=by exact λ_ _=>rfl):JE X (.Subscript e e2 pos) (dOp ixD te te2):=jix ha hb hs
theorem jrg {tg:S6}(Z:Zs X.mg)(ha:JE X e te)(hg:Gl X "range" :=by rfl)(h:zv e=true:=by rfl)(hs:P5 [e] X.env= [(false,C8 e X.env)]:=by rfl):JI X tg (.Call (.Name "range" p) [e] [] pos) (iR1 (jP te vE)):=Ht hg Z.range (j1 ha h) hs
end
section
variable {P:D5}{w:T5}{K:G3}{mg:Str->P0 G1}{base:M4}{x qual:Str}{st:C5}{f:G5}{fd:R4}{N ps:G0 Str}{k:G8}
theorem Fun.okM {spd:RDn}(F:Fun K x qual st f fd)(S:FnScope N ps (jb st)){tb:TSD}(hbody: ∀ {cdv:G1} {A:R6} {outer:G0 Env} {s:G2} {H:Hp} {E:XK},Room k (A.deeper (E4 qual (jb st) s.heap.objs.size f cdv))->JSs (Yr CX0 P w K mg base N qual (jb st) f cdv A outer s H E).nox (jJ st) tb)
 (read: ∀ds h Q,spd ds h Q->ds.length=ps.length/\tb (Wy Q) (jR N ds) h):FnOk P w K mg base CX0 (k+1) f fd ps (LSp K spd):=F.okJ S (λds h Q q=>(read ds h Q q).1) tb (λ_ _ _ _ _ _ hr=>hbody hr) λds h Q q=>(read ds h Q q).2
theorem Fun.okMX {spr:RDx}(F:Fun K x qual st f fd)(S:FnScope N ps (jb st)){tb:TXD}(hbody: ∀ {cdv:G1} {A:R6} {outer:G0 Env} {s:G2} {H:Hp} {E:XK},Room k (A.deeper (E4 qual (jb st) s.heap.objs.size f cdv))->JX (Yr (CXR P w) P w K mg base N qual (jb st) f cdv A outer s H E) (jJ st) tb)
 (read: ∀ds h R,spr ds h R->ds.length=ps.length/\tb (jR N ds) h R):FnOk P w K mg base (CXR P w) (k+1) f fd ps (Qm mg K spr):=F.okX S (λds h Q q=>(read ds h Q q).1) tb (λ_ _ _ _ _ _ hr=>hbody hr) λds h Q q=>(read ds h Q q).2
end
theorem wI {t u:TSD}{E:EndsD}{σ:SD}{h:HD}(σ1:SD)(first: ∀K:SD->HD->Prop,K σ1 h->t {E with nx:=K} σ h)(rest:u E σ1 h):yR t u E σ h:=first (u E) rest
theorem sz0:0<=sizeLine:=by decide
theorem sz1:1<=sizeLine:=by decide
theorem sz2:2<=sizeLine:=by decide
theorem sz3:3<=sizeLine:=by decide
theorem sz4:4<=sizeLine:=by decide
section
variable {X:Cx}{s0 s1 s2 s3 s4 s5 s6 s7:C5}{t0 t1 t2 t3 t4 t5 t6 t7:TSD}{c:S6}{tc:TTD}{pos:Pos}
theorem js2 (a:JS X s0 t0)(b:JS X s1 t1):JSs X [s0,s1] (yR t0 t1):=(jF a (jL b))
theorem js3 (a:JS X s0 t0)(b:JS X s1 t1)(c:JS X s2 t2):JSs X [s0,s1,s2] (yR t0 (yR t1 t2)):=(jF a (jF b (jL c)))
theorem js4 (a:JS X s0 t0)(b:JS X s1 t1)(c:JS X s2 t2)(d:JS X s3 t3):JSs X [s0,s1,s2,s3] (yR t0 (yR t1 (yR t2 t3))):=(jF a (jF b (jF c (jL d))))
theorem js5 (a:JS X s0 t0)(b:JS X s1 t1)(c:JS X s2 t2)(d:JS X s3 t3)(e:JS X s4 t4):JSs X [s0,s1,s2,s3,s4] (yR t0 (yR t1 (yR t2 (yR t3 t4)))):=(jF a (jF b (jF c (jF d (jL e)))))
theorem js7 (a:JS X s0 t0)(b:JS X s1 t1)(c:JS X s2 t2)(d:JS X s3 t3)(e:JS X s4 t4)(f:JS X s5 t5)(g:JS X s6 t6):JSs X [s0,s1,s2,s3,s4,s5,s6] (yR t0 (yR t1 (yR t2 (yR t3 (yR t4 (yR t5 t6)))))):=(jF a (jF b (jF c (jF d (jF e (jF f (jL g)))))))
theorem js8 (a:JS X s0 t0)(b:JS X s1 t1)(c:JS X s2 t2)(d:JS X s3 t3)(e:JS X s4 t4)(f:JS X s5 t5)(g:JS X s6 t6)(h:JS X s7 t7):JSs X [s0,s1,s2,s3,s4,s5,s6,s7] (yR t0 (yR t1 (yR t2 (yR t3 (yR t4 (yR t5 (yR t6 t7))))))):=(jF a (jF b (jF c (jF d (jF e (jF f (jF g (jL h))))))))
theorem WP (hc:JT X c tc)(h:JS X s0 t0):JS X (.If c [s0] [] pos) (Nh tc t0 Ys):=EN hc (jL h) UN
end
end L2
namespace L2
open PySem PySem.Spec PyProof.Rows HT
def PZ:Hp->G0 (G5×HO)->Hp
 |H,[]=>H
 |H,p::ps=>PZ (upd H p.1 p.2) ps
theorem vB: ∀ {ps:G0 (G5×HO)} {H:Hp} {b:G5},b ∉ ps.map (·.1)->PZ H ps b=H b
 | [],_,_,_=>rfl
 |p::ps,H,b,n=>by
  rw [T2,P9,IE] at n;exact(vB (H:=upd H p.1 p.2) n.2).trans (jd n.1)
theorem VN: ∀ {ps:G0 (G5×HO)} {H:Hp},(ps.map (·.1)).Nodup-> ∀p∈ps,PZ H ps p.1=some p.2
 |p::ps,H,nd,q,hq=>by
  rw [T2,O9] at nd;rcases P9.mp hq with e|e
  ·subst e;exact(vB (H:=upd H q.1 q.2) nd.1).trans je
  ·exact VN (H:=upd H p.1 p.2) nd.2 q e
theorem GK: ∀ {ps qs:G0 (G5×HO)} {H:Hp},PZ H (ps++qs)=PZ (PZ H ps) qs
 | [],_,_=>rfl
 |p::ps,qs,H=>GK (ps:=ps) (H:=upd H p.1 p.2)
theorem wt {ps:G0 (G5×HO)}{H:Hp}(fr: ∀p∈ps,H p.1=none){b:G5}{o:HO}(e:H b=some o):PZ H ps b=some o:=by
 rw [vB];exact e;intro z;obtain⟨p,hp,rfl⟩:=S2.mp z;rw [fr p hp] at e;cases e
theorem HL {ps:G0 (G5×HO)}{H:Hp}(fr: ∀p∈ps,H p.1=none):Kept H (PZ H ps):=
 ⟨λ_ _ e=>wt fr e,λ_ xs e=>⟨xs,wt fr e⟩,λ_ _ _ e=>wt fr e,λ_ _ _ e=>wt fr e⟩
theorem RelH.newM {K:G3}{h:HD}: ∀ {ps:G0 (G5×HO)} {H:Hp},RelH K h H->(ps.map (·.1)).Nodup->(∀p∈ps,H p.1=none)->RelH K h (PZ H ps)
 | [],_,r,_,_=>r
 |p::ps,H,r,nd,fr=>by
  rw [T2,O9] at nd;refine RelH.newM (ps:=ps) (H:=upd H p.1 p.2) (r.new (fr p P3)) nd.2 λq hq=> ?_
  have ne:q.1≠p.1:=λz=>nd.1 (z ▸ F1 (f:=(·.1)) hq)
  rw [jd ne];exact fr q (D7 _ hq)
theorem HOk.bare {P:D5}{w:T5}{H:Hp}{h:M4}{a:G5}(x:HOk P w H h)(e:h.get? a=none):H a=none:=by
 cases q:H a with
 |none=>rfl
 |some u=>obtain⟨v,z⟩:=(x a u q).there;rw [e] at z;cases z
section
variable {X:Cx}{pins:G0 (G5×Obj)}{σ:St}{H:Hp}{s:G2}{h':M4}
theorem Inv.laidM {ps:G0 (G5×HO)}{t':G8}(I:Inv X pins σ H s)(k: ∀b u,s.heap.get? b=some u->h'.get? b=some u)(nd:(ps.map (·.1)).Nodup)(hp: ∀p∈ps,s.heap.get? p.1=none)
 (new: ∀p∈ps,ObjOk X.prog X.w (PZ H ps) h' p.1 p.2):Inv X pins σ (PZ H ps) {s with heap:=h',toks:=t'}:=by
 have fr: ∀p∈ps,H p.1=none:=λp hq=>I.hok.bare (hp p hq)
 refine I.un ⟨λb u q _ _ _=>k b u q,λb u q _ _ _=>⟨u.slots,k b u q⟩,λb u q n _=> ?_,λb u q _=>⟨u,k b u q⟩,λb xs q=>wt fr q,λb u xs q=>wt fr q,λb ps' q=>⟨#[],by rw [wt fr q];simp⟩⟩ λb u e=> ?_
 ·rw [vB];exact n;intro z;obtain⟨p,hq,rfl⟩:=S2.mp z;rw [hp p hq] at q;cases q
 ·by_cases hb:b∈ps.map (·.1)
  ·obtain⟨p,hq,rfl⟩:=S2.mp hb;rw [VN nd p hq] at e;cases e;exact new p hq
  ·rw [vB hb] at e;exact(I.hok b u e).stay (λc v _ q=>k c v q) (λc q=>wt fr q) λc xs q=>wt fr q
end
abbrev WQ (a:G5):Obj:= {cls:= .type "dict_items",data:= .fields #[.ref a]}
section
variable {X:Cx}
def SG:V->G0 V->Hp->VK->Prop:=λx vs H Q=> ∃a kv,x= .ref a/\vs= []/\H a=some (.dK kv)/\ ∀p,H p=none->Q (.ref p) (upd H p (.frz (WQ a) (.own 0)))
theorem BQ:MtR X "dict.items" SG:=by
 intro pins s σ H x vs v us Q I rx rv ⟨a,kv,e1,e2,e,q⟩;subst e1 e2;cases rx;have hus:=rv.zero;subst hus;obtain⟨z,hd,vs,rel,dd⟩:=Ny I.hok e;refine o5 j0 dd.typeIs t8 (sS _) (meets_dict_items (jQ X.prog X.w) a hd) ⟨⟨vs,dd⟩,?_⟩;have new:(s.heap.push (WQ a)).get? s.heap.objs.size=some (WQ a):=S4 _ rfl;exact⟨.ref s.heap.objs.size,_,I.laid (t':=s.toks) (a:=s.heap.objs.size) (o:= .frz (WQ a) (.own 0)) (λb u e=>G4 _ e) (P1 _) ⟨new,⟨_,new⟩⟩,rfl,q _ (I.hok.fresh (P1 _))⟩
theorem Va {α β:Type}{R:α->β->Prop}: ∀ {xs:G0 α} {ys:G0 β} {i:G8} {x:α} {y:β},Paired R xs ys->xs[i]? =some x->ys[i]? =some y->R x y
 |_,_,0,_,_,.cons r _,e1,e2=>by simp at e1 e2;subst e1 e2;exact r
 |_,_,i+1,_,_,.cons _ t,e1,e2=>Va t (by simpa using e1) (by simpa using e2)
 |_,_,_,_,_,.nil,e1,_=>by cases e1
end
end L2
namespace L2
open PySem PySem.Spec PyProof.Rows
section
variable {α β:Type}
def Da (ts:G0 α):G8->G0 (G0 α)
 |0=> [[]]
 |m+1=>(Da ts m).flatMap λr=>ts.map λt=>r++ [t]
theorem MP (ts:G0 α): ∀m,(Da ts m).length=ts.length^m
 |0=>rfl
 |m+1=>by
  have: ∀l:G0 (G0 α),(l.flatMap λr=>ts.map λt=>r++ [t]).length=l.length*ts.length:=λl=>by
   induction l with
   |nil=>simp
   |cons x l ih=>rw [J0,D9,ih,G9,D4,bT];omega
  show ((Da ts m).flatMap _).length=_;rw [this,MP ts m,J4]
theorem CV (ts:G0 α): ∀ {m:G8} {r:G0 α},r∈Da ts m->r.length=m/\ ∀x∈r,x∈ts
 |0,r,h=>by
  rw [P4.mp h];exact⟨rfl,λx hx=>by cases hx⟩
 |m+1,r,h=>by
  obtain⟨q,hq,h2⟩:=eL.mp h;obtain⟨t,ht,rfl⟩:=S2.mp h2;obtain⟨l,a⟩:=CV ts hq;refine⟨by rw [D9,l];rfl,λx hx=> ?_⟩;rcases T4.mp hx with z|z
  ·exact a x z
  ·rw [P4.mp z];exact ht
end
section
variable {α β:Type}{i i':G8}{js:G0 G8}{ti ti':TID}{te:TED}{σ:SD}{h:HD}{Q:KD}{j:ItD}
theorem uz (j':ItD)(xs:G0 α)(c:α->D)(ys:α->G0 β)(c':β->D)(g:α->β->D)(hz:(xs.flatMap ys).length<=1000)(hj:j h=some (xs.map c))(ht: ∀R:ItD->HD->Prop,R j h->ti σ h R)
 (hin: ∀x∈xs,∀R:ItD->HD->Prop,R j' h->ti' ((ze js σ).set i (some (c x))) h R)
 (hj': ∀x∈xs,j' h=some ((ys x).map c'))(he: ∀x∈xs,∀y∈ys x,∀Q':KD,Q' (g x y) h->te (((ze js σ).set i (some (c x))).set i' (some (c' y))) h Q')(hq: ∀p,h p=none->Q (.lst p) (wc h p (xs.flatMap λx=>(ys x).map (g x)))):NF (bN i) js ti Zl i' ti' Zl te σ h Q:=by
 have len: ∀l:G0 α,(l.flatMap λx=>(ys x).map (g x)).length=(l.flatMap ys).length:=λl=>by
  induction l with
  |nil=>rfl
  |cons x l ih=>simp [J0,ih]
 have lek: ∀k,((xs.take k).flatMap ys).length<=(xs.flatMap ys).length:=λk=>by
  conv=>rhs;rw [<-dW k xs,E3,D9]
  omega
 have lek1: ∀k x m,xs[k]? =some x->m<=(ys x).length->((xs.take k).flatMap ys).length+m<=(xs.flatMap ys).length:=λk x m hx hm=>by
  have:=lek (k+1);rw [C0,hx,E3,D9] at this;simp at this;simp;omega
 refine ht _ ⟨xs.length,λk zs h'=>h'=h/\zs=(xs.take k).flatMap λx=>(ys x).map (g x),⟨rfl,by simp⟩,?_⟩;rintro k zs h' ⟨rfl,rfl⟩;refine⟨by rw [len];exact M5 (jO (T9 (lek k) hz)),xs.map c,hj,by simp,λhl p hp=> ?_,λd hd=>⟨_,rfl,?_⟩⟩
 ·rw [O2 (by simpa using hl)];exact hq p hp
 ·unfold Zl;dsimp only;rw [R1 rfl];rw [D6] at hd;cases hx:xs[k]? with
  |none=>rw [hx] at hd;cases hd
  |some x=>
   rw [hx] at hd;cases hd;have xm:=M3 hx;refine hin x xm _ ⟨(ys x).length,λm zs h2=>h2=h'/\zs=((xs.take k).flatMap λx=>(ys x).map (g x))++((ys x).take m).map (g x),⟨rfl,by simp⟩,?_⟩;rintro m zs h2 ⟨rfl,rfl⟩;refine⟨?_,(ys x).map c',hj' x xm,by simp,λhl=>⟨h2,Sub.refl _,rfl,?_⟩,λd hd=> ?_⟩
   ·rw [D9,len,G9,F3];have:=lek1 k x (min m (ys x).length) hx (V4 _ _);exact M5 (jO (by omega))
   ·have hm:(ys x).take m=ys x:=O2 (by simpa using hl);rw [hm,C0,hx,E3];simp
   ·rw [D6] at hd;cases hy:(ys x)[m]? with
    |none=>rw [hy] at hd;cases hd
    |some y=>
     rw [hy] at hd;cases hd
     first
      |rw [R1 rfl]
      |(dsimp only;rw [R1 rfl])
     refine he x xm y (M3 hy) _ ⟨h2,Sub.refl _,rfl,?_⟩;rw [C0,hy];simp
end
end L2
namespace L2
open PySem PySem.Spec PyProof.Rows HT
variable {iter:S6}{ifs:G0 S6}
theorem MQ {prog:D5}{w:T5}{A:R6}{R:j9->G2->Prop}{s:G2}{e target:S6}{depth:G8}{it acc:G1}{env:Env}{act:Sem Unit}(I:G8->G2->Prop)
 (hq:(uI e depth it acc env).quiet=true)(hd:(D3 prog w).den (.compLoop e depth it acc env)=(fC e depth it acc env).onRaise (λx=>do i0 x env;lR x))(hA:A.under (.compLoop e depth it acc env)=A)
 (heq:fC e depth it acc env=Jr iter target ifs it env act (.compLoop e depth it acc env))
 (turn: ∀n s,I n s->D1 (D3 prog w) A (rR it) (λr s₁=>match r with
  |none=>R (.ok .next) s₁
  |some v=>D1 (D3 prog w) A (aT target it v) (λ_ s₁=>D1 (D3 prog w) A (dY target env v) (λ_ s₂=>
   D1 (D3 prog w) A (forIn ifs true λc r=>if r=true then do let ok <-uY c env (C8 c env);pure (J8 ok) else pure (J8 r)) (λok s₃=>
    if ok=true then D1 (D3 prog w) A act (λ_ s₅=> ∃m,m<n/\I m s₅) (λ_ _=>False) s₃
    else ∃m,m<n/\I m s₃) (λ_ _=>False) s₂) (λ_ _=>False) s₁) (λ_ _=>False) s₁) (λ_ _=>False) s)
 (n:G8)(h:I n s):
 E8 (D3 prog w) A (.compLoop e depth it acc env) R s:=by
 refine uZ hq I (λn s hI=> ?_) n h;rw [hd,hA];refine xK ?_;rw [heq];unfold Jr;refine wpAny_bind (Q5 (wpAny_bind (R7 (turn n s hI) (λr s₁ h₁=> ?_) λ_ _ h'=>h'.elim)));cases r with
 |none=>exact G7 h₁
 |some v=>
  refine wpAny_bind (R7 h₁ (λ_ s₁ h₁=> ?_) λ_ _ h'=>h'.elim);refine wpAny_bind (R7 h₁ (λ_ s₂ h₂=>wpAny_bind (R7 h₂ (λok s₃ h₃=> ?_) λ_ _ h'=>h'.elim)) λ_ _ h'=>h'.elim);cases ok with
  |false=>exact G7 ⟨rfl,h₃⟩
  |true=>exact wpAny_bind (R7 h₃ (λ_ s₅ h₅=>G7 ⟨rfl,h₅⟩) λ_ _ h'=>h'.elim)
abbrev TMG (α:Type):=St->Hp->α->(α->Hp->Prop)->Prop
def SH {α:Type}(X:Cx)(Acc:α->Obj->Prop)(D:G5)(act:Sem Unit)(t:TMG α):Prop:=
 ∀ (pins:G0 (G5×Obj)) (s:G2) (σ:St) (H:Hp) (ys:α) (o:Obj) (Q:α->Hp->Prop),Inv X ([(D,o)]++pins) σ H s->Acc ys o->D∈X.ex->(∀x c,X.env.cells.lookup x=some c->c≠D)->(∀p∈X.pn++pins,p.1≠D)->t σ H ys Q->
  D1 (D3 X.prog X.w) X.A act (λ_ s'=> ∃ys' o' H',Acc ys' o'/\Inv X ([(D,o')]++pins) σ H' s'/\Q ys' H') (λ_ _=>False) s
def tCG {α : Type} (Acc : α → Obj → Prop) (ho : α → Obj → G5 → HO) (a0 : α) (js : G0 G8) (wi : TI) (g : TG) (tt : TT) (tm : TMG α) : TE := fun σ H Q => wi σ H fun J H1 =>
  ∃ W : G8 → G8 → α → Hp → Prop, (∃ m, W 0 m a0 H1) ∧ ∀ i m ys H, W i m ys H →
    ((J.stop i H ∧ ∀ p o, H p = none → Acc ys o → Q (.ref p) (upd H p (ho ys o p))) ∨
     (J.go i H ∧ ∀ x H', J.yld i H x H' → g x (zB js σ) H' fun σ2 H2 => Agree (zB js σ) σ2 ∧ tt σ2 H2 fun b H3 =>
        if b = true then tm σ2 H3 ys fun ys' H4 => ∃ m', m' < m ∧ W (i + 1) m' ys' H4 else ∃ m', m' < m ∧ W (i + 1) m' ys H3))
structure CompK (P:D5)(w:T5)(e:S6)(g:X8)(rest:G0 X8)(mk:Sem G1)(o0:Obj):Prop where
 cl:clausesOf e=g::rest
 quiet: ∀it acc env,(uI e 0 it acc env).quiet=true
 den: ∀it acc env,(D3 P w).den (.compLoop e 0 it acc env)=(fC e 0 it acc env).onRaise (λx=>do i0 x env;lR x)
 under: ∀A it acc env,fT A (.compLoop e 0 it acc env)=A
 start: ∀ {A:R6} {R:j9->G2->Prop} {s:G2} {it acc env},E8 (D3 P w) A (.compLoop e 0 it acc env) R s->D1 (D3 P w) A (pS it) (λit' s'=>E8 (D3 P w) A (.compLoop e 0 it' acc env) R s') (notedBy (D3 P w) A env λx s'=>R (.error x) s') s->E8 (D3 P w) A (.compStart e 0 it acc env) R s
 live:o0.isFreed=false
 made: ∀ {A:R6} {Q:G1->G2->Prop} {E:G1->G2->Prop} {s:G2},Q (.ref s.heap.objs.size) {s with heap:=s.heap.push o0}->D1 (D3 P w) A mk Q E s
variable {X:Cx}{scope:H0}
theorem SJ {α:Type}{Acc:α->Obj->Prop}{ho:α->Obj->G5->HO}{a0:α}{mk:Sem G1}{o0:Obj}{e tg:S6}{rest:G0 X8}{pos0:Pos}{js:G0 G8}{wi:TI}{g:TG}{tt:TT}{tm:TMG α}{use:P0 (G1->Sem Unit)}{Qv:G1->G2->Prop}(hc:X.calm=true)(S:BlockOk X scope js)(hi:PI X tg iter wi)
 (ck:CompK X.prog X.w e ⟨tg,iter,ifs,0⟩ rest mk o0)(acc0:Acc a0 o0)(nocell: ∀a o,Acc a o-> ∀v,o.data≠ .cell v)(okO: ∀ {a o H h p},(p==Y2)=false->Acc a o->h.get? p=some o->ObjOk X.prog X.w H h p (ho a o p))
 (hg: ∀X',ji X scope X'->PG X' tg g)(ht: ∀X',ji X scope X'->PTs X' ifs tt)
 (act:Env->G1->Sem Unit)(hturn: ∀it acc env,fC e 0 it acc env=Jr iter tg ifs it env (act env acc) (.compLoop e 0 it acc env))(he: ∀X',ji X scope X'-> ∀D,SH X' Acc D (act X'.env (.ref D)) tm)
 (hs: ∀x,T8 iter X.env x=pure x){pins:G0 (G5×Obj)}{s:G2}{σ:St}{H:Hp}{Q:VK}(I:Inv X pins σ H s)(h:tCG Acc ho a0 js wi g tt tm σ H Q)
 (fin: ∀ (D C:G5) (H':Hp) (s':G2) (m:Str->P0 G1),s'.heap.Ns C m->(∀h',A5 C s'.heap h'->Inv X pins σ H' {s' with heap:=h'})->H' C=none->C≠X.env.locals->C ∉ X.fs->X.s₀.heap.objs.size<=C->(∀x c,X.env.cells.lookup x=some c->c≠C)->(∀p∈X.pn++pins,p.1≠C)->
  Q (.ref D) H'->sA (D3 X.prog X.w) X.A X.xe use Qv (.ref D) C (.ok .next) s'):
 D1 (D3 X.prog X.w) X.A (iM e scope X.env pos0 mk false (C8 iter X.env) use) Qv X.xe s:=by
 have hclos:=Jp (scope:=scope) (env:=X.env) (λp hp e=>I.ok.has p.1 (S.free p hp e));refine iN (use:=use) ck.cl hs hclos S.kind S.locs (thn (hi pins s σ H _ I h) λv s1 h1=>thn h1 λitv s2 h2=> ?_);obtain⟨it,fp,tn,J,H2,e,I2,T,st2,f2,W,⟨m0,w0⟩,turn⟩:=h2;subst e;refine ck.made (ZK (λh₁ hns₁ hkp₁ hcl₁ hap₁=> ?_));dsimp only at hns₁ hkp₁ hcl₁ hap₁ ⊢;generalize hD:s2.heap.objs.size=D;generalize hH3:s2.heap.push o0=h3 at hns₁ hkp₁ hcl₁ hap₁ ⊢;have sz3:h3.objs.size=D+1:=by rw [<-hH3,aH,hD]
 have up3: ∀b o,s2.heap.get? b=some o->h3.get? b=some o:=λb o e=>hH3 ▸ G4 _ e
 have I3:Inv X pins σ H2 {s2 with heap:=h3}:=I2.kept (t':=s2.toks) up3;have hD3:h3.get? D=some o0:=by rw [<-hH3,<-hD];exact S4 _ ck.live
 have fD:XU X pins H2 D:=I2.fpOk (by rw [hD];exact P1 _) (I2.hok.fresh (by rw [hD];exact P1 _));have obf: ∀b∈fp,∃o,s2.heap.get? b=some o/\ ∀v,o.data≠ .cell v:=T.obj _ _ st2;have ltf: ∀b∈fp,b<D:=λb hb=>by obtain⟨o,e,_⟩:=obf b hb;rw [<-hD];exact D0 e
 generalize hC:h3.objs.size=C at hns₁ hcl₁ hap₁ ⊢;have CD:C=D+1:=hC.symm.trans sz3;have upC: ∀b o,h3.get? b=some o->h₁.get? b=some o:=hkp₁;generalize hX:yU X scope C {s2 with heap:=h3} H2 (fp++ [D])=X';have iX:ji X scope X':=⟨C,_,_,_,hX.symm⟩;have hf: ∀b∈fp++ [D],XU X pins H2 b:=λb hb=>(T4.mp hb).elim (f2 b) λz=>by rw [P4.mp z];exact fD
 have cl: ∀x c,(ju X scope C).lookup x=some c->X.env.cells.lookup x=some c\/C<c:=λx c e=>by
  rcases jZ S e with ⟨_,z⟩|⟨_,z⟩
  ·exact .inl z
  ·exact .inr (Q9 (hcl₁ x c z).2)
 have olt: ∀x c,X.env.cells.lookup x=some c->c<C:=λx c e=>by obtain⟨v,q⟩:=I3.cell x c e;rw [<-hC];exact q.lt
 have ltb: ∀b∈fp++ [D],b<C:=λb hb=>(T4.mp hb).elim (λz=>by have:=ltf b z;rw [CD];exact aZ this) λz=>by rw [P4.mp z,CD];exact A0 _
 have okX:X'.Ok:=by
  subst hX;refine⟨I.ok.mod,S.kind,I.ok.glob,I.ok.blt,bU hC,λx y c e1 e2=> ?_,λx hx=> ?_,λx c z e=> ?_,I.ok.hd,I.ok.frames,.inl rfl,λb hb=>⟨R5 (ltb b hb),λx c e=>(cl x c e).elim (λz=>(hf b hb).2.2.2.2.1 x c z) λz=>A6 (A7 (ltb b hb) z)⟩,
   I3.bs,T9 I.ok.bsz I3.sz,λb o e hb=> ?_,λb hb z=> ?_,I3.stack,I3.stkFree⟩
  ·rcases jZ S e1 with ⟨_,z1⟩|⟨_,z1⟩<;>rcases jZ S e2 with ⟨_,z2⟩|⟨_,z2⟩
   ·exact I.ok.inj x y c z1 z2
   ·exact absurd (A7 (olt x c z1) (Q9 (hcl₁ y c z2).2)) (N8 _)
   ·exact absurd (A7 (olt y c z2) (Q9 (hcl₁ x c z1).2)) (N8 _)
   ·exact lA hap₁ z1 z2
  ·have own:scope.names.lookup x=some .cell-> ∃c,(ju X scope C).lookup x=some c:=λz=>by
    obtain⟨c,hc⟩:=yx (sc:=scope) (n:=C+1) z;exact⟨c,by unfold ju;rw [jK,vw,hc]⟩
   have shr:scope.names.lookup x=some .free-> ∃c,(ju X scope C).lookup x=some c:=λz=>by
    have fm:=zA z;obtain⟨c,hc⟩:=I.ok.has x (S.free _ fm rfl);exact⟨c,wR S hc fm (by rw [z];decide)⟩
   rcases hx with hx|hx
   ·rcases jt (env:=X.env) hx with z|z
    ·exact own z
    ·exact shr z
   ·rcases jt (env:=X.env) hx with z|z<;>exact shr z
  ·have z':scope.names.lookup x=some .cell:=by
    have z2:(scope.names.lookup x==some K7)=true:=z;simpa using z2
   rcases jZ S e with ⟨n,_⟩|⟨_,m⟩
   ·exact absurd z' n
   ·show h3.objs.size<=c;rw [hC];exact M5 (Q9 (hcl₁ x c m).2)
  ·rcases (hf b hb).2.2.2.1 with z|z
   ·exact I.ok.noex b o e z
   ·exact absurd (S0 (D0 e) (T9 I.ok.bsz z)) (N8 _)
  ·rcases P9.mp (I.stkSub b z) with q|q
   ·exact(hf b hb).2.1 q
   ·exact(hf b hb).2.2.1 q
 -- the block's first state
 have I4:Inv X' [(D,o0)] (zB js σ) H2 {s2 with heap:=h₁}:=by
  subst hX;have hDC:D≠C:=by rw [CD];exact R5 (A0 _)
  refine⟨okX,rfl,I2.bare,Un.kept (λb u e=>upC b u e),⟨_,hns₁,λi x v e1 e2 e3=> ?_⟩,λx c e=> ?_,I3.hok.fresh (bU hC),λx c e=>(cl x c e).elim (λz=>I2.freeC x c z) (λz=>I3.hok.fresh (by rw [<-hC] at z;exact M5 z)),λp hp=> ?_,I3.hok.kept upC,(Zn js σ).trans I2.len⟩
  ·have fr:scope.names.lookup x=some .free:=by
    rcases e3 with e3|e3|e3
    ·rcases jt (env:=X.env) e3 with z|z
     ·exact absurd e2 (zq js σ i v (S.js i x e1 (.inl z)))
     ·exact z
    ·rcases jt (env:=X.env) e3 with z|z
     ·exact absurd e2 (zq js σ i v (S.js i x e1 (.inr z)))
     ·exact z
    ·rcases jt (env:=X.env) e3 with z|z<;>exact z
   have fm:=zA fr;obtain⟨m,hm,hl⟩:=I2.loc;have vis:=S.free _ fm rfl;obtain⟨u,r,lk⟩:=hl i x v e1 (Jq js σ i v e2) (.inr vis);have kd:(u0 scope X.env).names.lookup x=some .cell\/(u0 scope X.env).names.lookup x=some .free:=by
    rcases e3 with e3|e3|e3
    ·rcases jt (env:=X.env) e3 with z|z
     ·rw [fr] at z;cases z
     ·exfalso;have z2:=e3
      -- a local's kind stays
      exact absurd e2 (zq js σ i v (S.js i x e1 (.inl (by
       have q: ∀ (l:G0 (Str×NameKind)),(l.map λ(n,k)=>if (k==B6&&X.env.scope.kind== .function&&X.env.kindOf n==some .cell) then (n,K7) else (n,k)).lookup x=some .local->l.lookup x=some .local:=by
        intro l
        induction l with
        |nil=>intro h;simp at h
        |cons p l ih=>
         obtain⟨n,k'⟩:=p;intro h;have h':xL x ((if (k'==B6&&X.env.scope.kind== .function&&X.env.kindOf n==some .cell)=true then (n,K7) else (n,k'))::(l.map λ(n,k)=>if (k==B6&&X.env.scope.kind== .function&&X.env.kindOf n==some .cell) then (n,K7) else (n,k)))=some .local:=h;rw [C3]
         by_cases hc:(k'==B6&&X.env.scope.kind== .function&&X.env.kindOf n==some .cell)=true
         ·rw [R1 hc,C3] at h';cases hx:x==n with
          |true=>rw [hx] at h';cases h'
          |false=>rw [hx] at h';exact ih h'
         ·rw [R3 hc,C3] at h';cases hx:x==n with
          |true=>rw [hx] at h';exact h'
          |false=>rw [hx] at h';exact ih h'
       exact q _ z2))))
    ·exact .inl e3
    ·exact .inr e3
   rcases lk with ⟨k,_⟩|⟨_,c,hc,hcell⟩
   ·have k':X.env.scope.names.lookup x=some .local:=k;rcases vis with z|z<;>(rw [k'] at z;cases z)
   ·refine⟨u,r,.inr ⟨kd,c,wR S hc fm (by rw [fr];decide),?_⟩⟩;obtain⟨o,ho,hd⟩:=hcell;exact⟨o,upC _ _ (up3 _ _ ho),hd⟩
  ·rcases jZ S e with ⟨_,z⟩|⟨_,z⟩
   ·obtain⟨v,o,ho,hd⟩:=I2.cell x c z;exact⟨v,o,upC _ _ (up3 _ _ ho),hd⟩
   ·exact⟨none,(hcl₁ x c z).1⟩
  ·have hp':p∈ [(D,o0)]:=hp;rcases P4.mp hp' with rfl
   refine⟨upC _ _ hD3,fD.1,hDC,λz=> ?_,nocell _ _ acc0⟩;rcases P9.mp (I.stkSub D z) with q|q
   ·exact fD.2.1 q
   ·exact fD.2.2.1 q
 have st4:tn 0 h₁:=T.keep _ _ _ st2 λb _ o e=>upC _ _ (up3 _ _ e)
 have eA:X'.A=X.A:=by rw [<-hX];rfl
 have eP:X'.prog=X.prog:=by rw [<-hX];rfl
 have eW:X'.w=X.w:=by rw [<-hX];rfl
 have eK:X'.K=X.K:=by rw [<-hX];rfl
 have eC:X'.calm=true:=by rw [<-hX];exact hc
 have eV:X'.env=iZ scope (ju X scope C) C X.env:=by rw [<-hX];rfl
 have eE:X'.xe=λ_ _=>False:=by rw [<-hX];rfl
 -- what stays true of the iterator's objects
 have stat: ∀ {us:Obj} {H':Hp},(∀b∈fp,H' b=none)-> ∀b∈fp,XU X' [(D,us)] H' b:=λ{us H'} hn b hb=>by
  have q:=hf b (T6 _ hb);subst hX;refine⟨hn b hb,R5 (ltb b (T6 _ hb)),λz=> ?_,.inl (T6 _ hb),λx c e=>(cl x c e).elim (λz=>q.2.2.2.2.1 x c z) (λz=>A6 (A7 (ltb b (T6 _ hb)) z)),λp hp=> ?_⟩
  ·rcases P9.mp (I.stkSub b z) with r|r
   ·exact q.2.1 r
   ·exact q.2.2.1 r
  ·have hp':p∈ [(D,us)]:=hp;rcases P4.mp hp' with rfl
   exact A6 (ltf b hb)
 have loop: ∀s₃:G2,s₃= {s2 with heap:=h₁}->
  E8 (D3 X.prog X.w) X.A (.compLoop e 0 (.ref it) (.ref D) (iZ scope (ju X scope C) C X.env))
   (sA (D3 X.prog X.w) X.A X.xe use Qv (.ref D) C) s₃:=by
  rintro s₃ rfl;refine MQ (act:=act (iZ scope (ju X scope C) C X.env) (.ref D)) (λn s'=> ∃i ys us H',Acc ys us/\Inv X' [(D,us)] (zB js σ) H' s'/\tn i s'.heap/\(∀b∈fp,H' b=none)/\W i n ys H') (ck.quiet _ _ _) (ck.den _ _ _) (ck.under _ _ _ _) (hturn _ _ _) ?_ m0
   ⟨0,a0,o0,H2,acc0,I4,st4,λb hb=>(f2 b hb).1,w0⟩
  rintro n s5 ⟨i,ys,us,H5,hv5,I5,st5,fr5,w5⟩;have tr:=turn i n ys H5 w5;rcases tr with ⟨stop,qn⟩|⟨go,step⟩
  ·have q:=T.done X' eP eW eK eC i _ s5 _ H5 (λ_ _=>False) I5 (stat fr5) st5 stop;rw [eA] at q;refine R7 q (λr s6 ⟨hr,I6⟩=> ?_) λ_ _ z=>z
   subst hr;obtain⟨m6,hm6,_⟩:=I6.loc;rw [eV] at hm6;have zD:=I6.pin (D,us) (P6 _ P3);have HD:H5 D=none:=zD.2.1;have oD:s6.heap.get? D=some (us):=zD.1;have hDC:D≠C:=by rw [CD];exact R5 (A0 _)
   have HC:H5 C=none:=by have z:=I6.free;rw [eV] at z;exact z
   have B:=I6.base;have os6:s6.os=s2.os:=by have z:=I6.os;rw [<-hX] at z;exact z
   have Bu:Un (frs X.stack) (fp++ [D]) H2 H5 h3 s6.heap:=by rw [<-hX] at B;exact B
   have neC: ∀b o,h3.get? b=some o->b≠C:=λb o e=>by rw [<-hC];exact R5 (D0 e)
   refine fin D C (upd H5 D (ho ys us D)) s6 m6 hm6 (λh' hs'=> ?_) (by rw [jd (O0 hDC)];exact HC) ?_ ?_ ?_ (λx c e=>R5 (olt x c e)) ?_ (qn D us HD hv5)
   ·have hk5:HOk X.prog X.w H5 h':=λb u e=>by
     have z:=I6.hok b u e;rw [eP,eW] at z;refine z.stay (λc v hc q=>hs'.extBut c v ?_ q) (λ_ q=>q) λ_ _ q=>q
     rcases hc with rfl|hc
     ·exact jf e HC
     ·exact jf hc HC
    refine I3.call' (ch:=fp++ [D]) os6 ⟨λb o e n hb hx=> ?_,λb o e n hb hx=> ?_,λb o e n hx=> ?_,λb o e hx=> ?_,λb xs e=> ?_,λb o u e=> ?_,λb ps e=> ?_⟩ (hk5.track HD ?_) I6.bare λb hb=> ?_
    ·exact hs'.extBut b o (neC b o e) (Bu.keep b o e n hb hx)
    ·obtain⟨sl,q⟩:=Bu.slot b o e n hb hx;exact⟨sl,hs'.extBut b _ (neC b o e) q⟩
    ·rw [jd λz=>hx (by rw [z];exact P6 _ P3)];exact Bu.free b o e n hx
    ·obtain⟨o',q⟩:=Bu.there b o e hx;exact⟨o',hs'.extBut b _ (neC b o e) q⟩
    ·have z:=Bu.tups b xs e;rw [jd (jf z HD)];exact z
    ·have z:=Bu.frzs b o u e;rw [jd (jf z HD)];exact z
    ·obtain⟨more,z⟩:=Bu.tbls b ps e;exact⟨more,by rw [jd (jf z HD)];exact z⟩
    ·exact okO (beq_eq_false_iff_ne.mpr (by rw [<-hD];exact O0 (R5 I2.big))) hv5 (hs'.extBut D _ hDC oD)
    ·have q:=hf b hb;exact⟨q.2.2.2.1,q.2.1,q.2.2.2.2.1,q.2.2.2.2.2⟩
   ·rw [<-hC];exact A6 I3.lt
   ·exact I3.nofs (bU hC)
   ·rw [<-hC];exact I3.sz
   ·intro p hp;have:=(I3.pin p hp).1;rw [<-hC];exact R5 (D0 this)
  ·have q:=T.item X' eP eW eK eC i _ s5 _ H5 (λ_ _=>False) I5 (stat fr5) st5 go;rw [eA] at q;refine R7 q (λr s6 ⟨u,hr,h6⟩=> ?_) λ_ _ z=>z
   subst hr;refine R7 h6 (λ_ s7 ⟨x,H7,I7,r7,y7,st7,fr7⟩=> ?_) λ_ _ z=>z
   have I7':=I7.pinned (stat fr7) (T.obj _ _ st7);have q7:=hg X' iX _ s7 _ H7 x u _ I7' r7 (step x H7 y7);rw [eP,eW,eA,eV,eE] at q7;refine R7 q7 (λ_ s8 ⟨σ8,H8,I8,ag8,q8⟩=> ?_) λ_ _ z=>z
   have q9:=ht X' iX _ s8 σ8 H8 _ I8 q8;rw [eP,eW,eA,eV,eE] at q9;refine R7 q9 (λok s9 ⟨H9,I9,q9⟩=> ?_) λ_ _ z=>z
   have keepT: ∀ {σ':St} {H':Hp} {s':G2} {us:Obj},Inv X' ([(D,us)]++yj fp s7.heap) σ' H' s'->tn (i+1) s'.heap/\ ∀b∈fp,H' b=none:=λ{σ' H' s' us} I'=>
    ⟨T.keep _ _ _ st7 λb hb o e=>(I'.pin (b,o) (P6 _ (P6 _ (zy hb e)))).1,λb hb=>by
     obtain⟨o,e,_⟩:=T.obj _ _ st7 b hb;exact(I'.pin (b,o) (P6 _ (P6 _ (zy hb e)))).2.1⟩
   cases ok with
   |false=>
    have q9: ∃m',m'<n/\W (i+1) m' ys H9:=q9;obtain⟨m',hm,w9⟩:=q9;obtain⟨t9,f9⟩:=keepT I9;exact⟨m',hm,i+1,ys,us,H9,hv5,(I9.unpinned).weak ag8.1.symm ag8.2,t9,f9,w9⟩
   |true=>
    have q9:tm σ8 H9 ys λys' H4=> ∃m',m'<n/\W (i+1) m' ys' H4:=q9
    have DX:D∈X'.ex:=by rw [<-hX];exact P6 _ P3
    have pD: ∀p∈X'.pn++yj fp s7.heap,p.1≠D:=λp hp=>by
     have hp':p∈yj fp s7.heap:=by rw [<-hX] at hp;simpa [yU] using hp
     exact R5 (ltf _ (Jn hp').1)
    have cD: ∀x c,X'.env.cells.lookup x=some c->c≠D:=λx c e=>by
     rw [eV] at e;exact(cl x c e).elim (λz=>fD.2.2.2.2.1 x c z) λz=>A6 (A7 (by rw [CD];exact A0 _) z)
    have q10:=he X' iX D _ s9 σ8 H9 ys us _ I9 hv5 DX cD pD q9;rw [eP,eW,eA,eV] at q10;show D1 _ _ (act _ _) _ _ s9;refine R7 q10 (λ_ s10 ⟨ys',us',H10,hv10,I10,m',hm,w10⟩=> ?_) λ_ _ z=>z
    obtain⟨t10,f10⟩:=keepT I10;exact⟨m',hm,i+1,ys',us',H10,hv10,(I10.unpinned).weak ag8.1.symm ag8.2,t10,f10,w10⟩
 exact ck.start (loop _ rfl) (T.self X.A 0 _ _ _ st4 (loop _ rfl))
variable {elt:S6}
theorem BR {P:D5}{w:T5}{tg:S6}{rest:G0 X8}{pos:Pos}:CompK P w (.SetComp elt (⟨tg,iter,ifs,0⟩::rest) scope pos) ⟨tg,iter,ifs,0⟩ rest (G0m (.type "set")) (Wi #[] 0 (.fresh 0 0 (Yx w))) where
 cl:=rfl
 quiet:=λ_ _ _=>rfl
 den:=λ_ _ _=>rfl
 under:=λ_ _ _ _=>rfl
 start:=λ{A R s it acc env} h0 h=>fK (tF (by
  unfold compStart;show D1 (D3 P w) A (ask >>= _) _ _ s;exact wpAny_bind (X9 (wpAny_ite (Pc (λ_=>wpAny_bind (G7 (G7 ⟨rfl,h0⟩))) λ_=>wpAny_bind (j8 (wpAny_bind (Q5 (wpAny_bind (R7 h (λ_ _ q=>G7 ⟨rfl,q⟩) λ_ _ q=>q))))))))))
 live:=rfl
 made:=λ{A Q E s} q=>by
  obtain⟨hp,g,d,tk,os⟩:=s;have told: ∀ {Q:rL->G2->Prop} {E':G1->G2->Prop} {A':R6} {s':G2},Q ⟨P,w.params⟩ s'->D1 (D3 P w) A' ask Q E' s':=λq=>X9 q
  unfold G0m setsByText
  wp_walk using told
  exact q
abbrev HM:=G5×G0 (G0 P2)
def HN (P:D5)(w:T5)(ps:G0 HM)(o:Obj):Prop:= ∃f es ep t,o=Wi es ep t/\SetT (HG P w) (Yx w) (λk b=>(b,k)∈ps) f es t (ps.map (·.2)).reverse
def MR (elt:S6)(env:Env)(acc:G1):Sem Unit:=do let v <-C8 elt env;hO elt.pos;let _ <-call (.builtin "set.add") [acc,v]
def KQ (te:TE):TMG (G0 HM):=λσ H ps Q=>te σ H λy H1=> ∃b T,y= .ref b/\Ti H1 T b/\(∀p∈ps,Ti H1 p.2 p.1)/\ps.length<999/\Q (ps++ [(b,T)]) H1
variable {k:G8}
theorem BS {D:G5}{te:TE}(hr:Room k X.A)(hx:X.xe=λ_ _=>False)(he:PE X elt te):SH X (HN X.prog X.w) D (MR elt X.env (.ref D)) (KQ te):=by
 rintro pins s σ H ps _ Q I ⟨f,es,ep,t,rfl,S⟩ DX cD pD h;have q:=he _ s σ H _ I h;rw [hx] at q;unfold MR;refine wpAny_bind (R7 q (λy s1 ⟨yv,H1,I1,r1,b,T,e,hT,hps,few,q1⟩=> ?_) λ_ _ z=>z);subst e;cases r1;have zD:=I1.pin (D,Wi es ep t) (P6 _ (T6 _ P3));have I10u:Inv X pins σ H1 s1:=I1.pins_of λp hp=>I1.pin p (P6 _ (P6 _ hp))
 refine wpAny_bind (Q5 (wpAny_bind (F4 F.slot_set_add ⟨_,zD.1,rfl⟩ F.entry_set_add ?_ (F.args_set_add_2 _ _))));unfold Builtin.«set.add» Builtin.Frozenset.oneOther;simp only [List.isEmpty_nil,bind_assoc];unfold Builtin.Frozenset.addrOf;refine wpAny_bind (G7 ?_)
 try dsimp only
 refine wpAny_bind (G7 ?_)
 try dsimp only
 refine wpAny_bind (MC (M:=HG X.prog X.w) (is:=λk b'=>(b',k)∈ps++ [(b,T)]) (k:=T) (by have:=hr.un;show X.A.units+1+8<cLine;omega) (S.imp λk b' z=>T6 _ z) zD.1 (Y6 S.size (by rw [cB,G9];omega)) (λk b' z=> ?_) (P6 _ P3) λr f' es' ep' t' h' tk S' e' sb=> ?_)
 ·refine Sw I1 k b' ?_;rcases T4.mp z with z|z
  ·exact hps _ z
  ·cases P4.mp z;exact hT
 ·refine G7 ⟨_,rfl,G7 ?_⟩;have I11:Inv X pins σ H1 {s1 with heap:=h',toks:=tk}:=I10u.turned (t':=tk) (it:=D) (λb o hb e=>sb.extBut b o hb e) zD.2.1 zD.2.2.1 (.inl DX) cD pD;refine⟨ps++ [(b,T)],Wi es' ep' t',H1,⟨f',es',ep',t',rfl,by rw [L8,List.reverse_append];exact S'⟩,I11.pins_of λp hp=> ?_,q1⟩;rcases T4.mp hp with z|z
  ·rcases P4.mp z with rfl
   exact⟨e',zD.2.1,zD.2.2.1,zD.2.2.2.1,λv z=>by cases z⟩
  ·exact I11.pin p (P6 _ z)
abbrev SK (o:Obj):HO:= .frz o (.own 0)
theorem HP {tg:S6}{pos:Pos}{js:G0 G8}{wi:TI}{g:TG}{tt:TT}{te:TE}(hr:Room k X.A)(hc:X.calm=true)(S:BlockOk X scope js)(hi:PI X tg iter wi)
 (hg: ∀X',ji X scope X'->PG X' tg g)(ht: ∀X',ji X scope X'->PTs X' ifs tt)(he: ∀X',ji X scope X'->PE X' elt te)
 (hs: ∀x,T8 iter X.env x=pure x:=by intro _;rfl):PE X (.SetComp elt [⟨tg,iter,ifs,0⟩] scope pos) (tCG (HN X.prog X.w) (λ_ o _=>SK o) [] js wi g tt (KQ te)):=by
 intro pins s σ H Q I h;show D1 _ _ (iM (.SetComp elt [⟨tg,iter,ifs,0⟩] scope pos) scope X.env _ (G0m (.type "set")) false (C8 iter X.env)) _ _ s;exact SJ (ho:=λ_ o _=>SK o) (use:=none) hc S hi BR ⟨λ_=> [],#[],0,_,rfl,BJ (Yx X.w) _⟩ (λa o ⟨_,_,_,_,e,_⟩ v=>by subst e;exact λz=>nomatch z) (λ{a o H h p} _ _ e=>⟨e,⟨_,e⟩⟩) hg ht (MR elt) (λ_ _ _=>rfl) (λX' hX D=>by obtain⟨C,s₀,H₀,ex,e⟩:=hX;have z:=he X' ⟨C,s₀,H₀,ex,e⟩;subst e;exact BS (X:=yU X scope C s₀ H₀ ex) hr rfl z) hs I h
  λD C H' s' m hn hk _ _ _ _ _ _ q=>⟨m,hn,λh' hs'=>⟨.ref D,H',hk h' hs',rfl,q⟩⟩
section
variable {prog:D5}{w:T5}{A:R6}{E:G1->G2->Prop}{s:G2}
theorem BT {a:G5}{v:G1}{n:G8}{P:cY->G2->Prop}(ho:s.heap.get? a=some (aJ "list" [v].toArray n))
 (q: ∀ (c tk:G8) (h':M4),CF s a h'->h'.get? a=some (aJ "list" [v].toArray c)->P (.done (.ret .none)) {s with heap:=h',toks:=tk}):
 D1 (D3 prog w) A (Builtin.«list.sort» ⟨[.ref a],[]⟩) P E s:=by
 have alt:=D0 ho;rw [rJ];refine wpAny_bind (u9 ho rfl ?_);obtain⟨c1,ho1⟩: ∃c,(s.heap.update a (E5 λ_=>(#[]:M1 G1))).get? a=some (aJ "list" #[] c):=⟨_,fL ho λ_=> #[]⟩;refine wpAny_bind (iR ho rfl ?_ (by show 1<=sizeLine;decide) (L0 _));refine wpAny_bind (mY ho1 rfl ?_);refine wpAny_bind (mT ?_ (by show 1<=sizeLine;decide));refine wpAny_bind (eQ ?_ (L0 _));refine B5 ?_;have past:CF s a (((s.heap.update a (E5 λ_=>(#[]:M1 G1))).push {cls:= .type "tuple",data:= .seq [v].toArray.toList.toArray}).push {cls:= .type "list",data:= .seq ([]:G0 G1).toArray}):=λb x ne e=>by
  refine G4 _ (G4 _ ?_);rw [X1 _ _ _ _ ne];exact e
 have ho3:=G4 ({cls:= .type "list",data:= .seq ([]:G0 G1).toArray}:Obj) (G4 ({cls:= .type "tuple",data:= .seq [v].toArray.toList.toArray}:Obj) ho1);revert past ho3;generalize ((s.heap.update a (E5 λ_=>(#[]:M1 G1))).push ({cls:= .type "tuple",data:= .seq [v].toArray.toList.toArray}:Obj)).push ({cls:= .type "list",data:= .seq ([]:G0 G1).toArray}:Obj)=H3;intro past ho3;have c: [v].toArray.size<2:=by show 1<2;decide
 dsimp only;refine Gt (wpAny_bind ?_);rw [R1 c];refine G7 (wpAny_bind ?_);rw [R1 c,StateT.run_pure];refine G7 ?_;dsimp only;obtain⟨c2,ho4⟩: ∃c,(H3.update a (E5 λ_=> [v].toArray)).get? a=some (aJ "list" [v].toArray c):=⟨_,fL ho3 λ_=> [v].toArray⟩;have eo:(arrOf (SortSt.mk' general' ([v].toArray.zip [v].toArray) #[] 7 none)).map (λx=>x.2)= [v].toArray:=by
  show Array.map (λx=>x.2) ([v].toArray.zip [v].toArray)=_;apply qG.mp;rw [i9,Array.toList_zip];rfl
 rw [eo];refine wpAny_bind (mY (s:= {s with heap:=H3}) ho3 rfl ?_);refine wpAny_bind (iR (s:= {s with heap:=H3}) ho3 rfl ?_ (L0 _) (by show 1<=sizeLine+1;decide));simp only [iH,N9,gC];refine G7 (q c2 s.toks _ (λb x ne e=> ?_) ho4);rw [X1 _ _ _ _ ne];exact past b x ne e
end
theorem BU {K:Type}{l:G0 K}{M:K}(nd:l.Nodup)(ne:l≠ [])(all: ∀x∈l,x=M):l= [M]:=by
 match l,nd,ne,all with
 | [x],_,_,all=>rw [all x P3]
 |x::y::r,nd,_,all=>
  have e1:=all x P3;have e2:=all y (D7 _ P3);subst e1;subst e2;exact absurd P3 (O9.mp nd).1
 | [],_,ne,_=>exact absurd rfl ne
theorem Xl (hc:X.calm=true)(hr:Room k X.A):CallR X (.builtin "sorted") (λxs H Q=> ∃ (p:G5) (o:Obj) (ps:G0 HM) (M:G0 (G0 P2)),xs= [.ref p]/\H p=some (SK o)/\HN X.prog X.w ps o/\ps≠ []/\ps.length<1000/\(∀x∈ps,x.2=M)/\ ∀ (q b:G5),H q=none->(b,M)∈ps->Q (.ref q) (upd H q (.lst [.ref b]))):=by
 intro pins s σ H xs us Q I r h;obtain⟨p,o,ps,M,rfl,hp,⟨f,es,ep,t,rfl,S⟩,ne,few,all,q⟩:=h;obtain⟨u,rfl,ru⟩:=vD r;cases ru;have fm:es.toList.map f= [M]:=BU S.nd (λz=>by
  obtain⟨x,xs,e⟩:=List.exists_cons_of_ne_nil ne;have:=(S.mem x.2).mpr (by rw [j5];exact F1 (by rw [e];exact P3));rw [z] at this;cases this) λx hx=>by
  have:=(S.mem x).mp hx;rw [j5] at this;obtain⟨y,hy,rfl⟩:=S2.mp this;exact all y hy
 have sz:es.toList.length=1:=by have:=congrArg e8 fm;simpa using this
 obtain⟨e,ee⟩: ∃e,es.toList= [e]:=by
  match h:es.toList,sz with
  | [e],_=>exact⟨e,rfl⟩
 have fe:f e=M:=by rw [ee] at fm;simpa using fm
 obtain⟨_,b,eb,hb⟩:=S.each e (by rw [ee];exact P3);rw [fe] at hb;refine b7 qP o7 o8 (o9 _) (wpAny_bind (G7 (wpAny_bind (wpAny_bind (wpAny_runValue (X5 (PN (I.ok.hd hc) S.tab (I.hok p _ hp).1 (by have:=D2 (xs:=es);omega)) λres s' listed=> ?_))))));obtain⟨h1,d,tk,acc,c0,rfl,rfl,made,kept,pm⟩:=listed;refine wpAny_bind (rS made (G7 ?_));rw [ee,List.map_singleton,eb] at pm;have al:acc.toList= [.ref b]:=List.perm_singleton.mp pm;have ac:acc= [B0 b].toArray:=by rw [<-al,Array.toArray_toList]
 subst ac;have fresh:(h1.push (aJ "list" [B0 b].toArray 0)).get? h1.objs.size=some (aJ "list" [B0 b].toArray 0):=S4 _ rfl;have kp: ∀h',CF {s with heap:=h1.push (aJ "list" [B0 b].toArray 0),drawn:=d,toks:=tk} h1.objs.size h'->UZ h1 h':=λh' p b x e=>p b x (R5 (D0 e)) (G4 _ e)
 refine wpAny_bind (eQ (wpAny_bind (B5 (F4 mM ⟨_,fresh,rfl⟩ lS (BT (s:= {s with heap:=h1.push (aJ "list" [B0 b].toArray 0),drawn:=d,toks:=tk}) fresh λc tk' h' p' e1=>⟨_,rfl,?_⟩) (mO _)))) (by show 1<=sizeLine;decide));have I1:=(I.kept (t':=s.toks) kept).drew d;refine G7 ⟨_,rfl,.ref _,_,I1.laid (t':=tk') (o:= .lst [.ref b]) (kp h' p') (P1 _) ⟨by show 1<=sizeLine;decide,_,c,.cons rfl .nil,e1⟩,rfl,q _ b (I1.hok.fresh (P1 _)) hb⟩
def uA (bind:D->SD->SD->Prop)(js:G0 G8)(ti:TID)(tt:TTD)(te:TED):TED:=λσ h Q=>ti σ h λj h1=> ∃ (n:G8) (M:G0 (G0 P2)) (W:G8->G0 (G0 (G0 P2))->HD->Prop),W 0 [] h1/\ ∀i ys h',W i ys h'->ys.length<999/\
 ∃ds,j h'=some ds/\ds.length<=n/\(ds.length<=i->ys≠ []/\(∀y∈ys,y=M)/\ ∀p,h' p=none->Q (.lst p) (wc h' p [jG M]))/\
  ∀d,ds[i]? =some d-> ∃σ2,bind d (ze js σ) σ2/\tt σ2 h' λb h3=>if b=true then te σ2 h3 λy h4=> ∃T h5,y=jG T/\Sub h5 h4/\W (i+1) (ys++ [T]) h5 else ∃h5,Sub h5 h3/\W (i+1) ys h5
theorem tab_of {K:G3}{H:Hp}{T:G0 (G0 P2)}{b:G5}(r:RelD K H (jG T) (.ref b)):Ti H T b:=by
 obtain⟨a,vs,e,hH,r1⟩:=(show ∃a vs,V.ref b= .ref a/\H a=some (.tup vs)/\RelDs K H (T.map wE) vs from r);cases e;exact⟨vs,hH,MJ r1⟩
theorem uB {i : G8} {x : Str} {p p0 pos pos0 : Pos} {js : G0 G8} {ti : TID} {tt : TTD} {te : TED} (hr : Room k X.A) (hc : X.calm = true) (hgl : Gl X "sorted") (hm : X.mg "sorted" = none) (S : BlockOk X scope js) (hi : JI X (.Name x p) iter ti) (hj : i ∈ js) (hN : X.N.Nodup) (hx : X.N[i]? = some x) (hl : scope.names.lookup x = some .local ∨ scope.names.lookup x = some .cell)
    (ht : ∀ X', ji X scope X' → PTs X' ifs (LT X'.K tt)) (he : ∀ X', ji X scope X' → JE X' elt te) (hs : ∀ x, T8 iter X.env x = pure x := by intro _; rfl)
    (h1 : P5 [.SetComp elt [⟨.Name x p, iter, ifs, 0⟩] scope pos] X.env = (false, C8 (.SetComp elt [⟨.Name x p, iter, ifs, 0⟩] scope pos) X.env) :: P5 [] X.env := by rfl) (h2 : (F7 pos0 (P5 [] X.env)).any (·.1) = false := by rfl) :
    JE X (.Call (.Name "sorted" p0) [.SetComp elt [⟨.Name x p, iter, ifs, 0⟩] scope pos] [] pos0) (uA (bN i) js ti tt te) :=
  ⟨(vt (Xl hc hr) hgl hm (by decide +kernel) (zS (HP (g := yw i) (tt := LT X.K tt) (te := LE X.K te) hr hc S hi.to (fun X' hX => by obtain ⟨C, s₀, H₀, ex, rfl⟩ := hX; exact yz hN hx hl) (fun X' hX => by have := ht X' hX; obtain ⟨C, s₀, H₀, ex, rfl⟩ := hX; exact this) (fun X' hX => by have := (he X' hX).to; obtain ⟨C, s₀, H₀, ex, rfl⟩ := hX; exact this) hs) pa_nil h1) (by decide) (by decide) h1 h2).imp
    fun σ H Q ⟨σd, h, Qd, rs, rh, q, post⟩ => by
      refine ⟨σd, h, _, rs, rh, q, fun j J h1 H1 k1 rh1 jo ⟨n, M, W, w0, turn⟩ => ?_⟩
      refine ⟨fun i m ps H' => m = n - i ∧ Kept H1 H' ∧ ∃ h', (∀ y ∈ ps, RelD X.K H' (jG y.2) (.ref y.1)) ∧ RelH X.K h' H' ∧ W i (ps.map (·.2)) h', ⟨n - 0, rfl, .refl _, h1, (fun y hy => nomatch hy), rh1, w0⟩, ?_⟩
      rintro i m ps H' ⟨rfl, kp, h', ry, rh', w⟩
      obtain ⟨hz, ds, ej, hn, stop, go⟩ := turn i _ h' w
      rw [G9] at hz
      have jo' := jo H' h' kp rh' ds ej i
      have kk : Kept H H' := k1.trans kp
      by_cases hi : i < ds.length
      · obtain ⟨g1, y1⟩ := jo'.1 ds[i] (P8 hi)
        refine .inr ⟨g1, fun x H'' y => ?_⟩
        obtain ⟨k2, rh2, r2⟩ := y1 x H'' y
        obtain ⟨σd2, bd, q2⟩ := go ds[i] (P8 hi)
        refine FV hj σ σd σd2 H'' ds[i] x _ (((rs.mono (kk.trans k2))).clear js) r2 bd fun σ2 ag rs2 => ⟨ag, ?_⟩
        refine LT.bind rs2 rh2 q2 fun b h3 H3 k3 rs3 rh3 q3 => ?_
        cases b with
        | true =>
          rw [R1 rfl] at q3 ⊢
          refine LE.bind rs3 rh3 q3 fun d4 v4 h4 H4 k4 rs4 rh4 r4 ⟨T, h5, ed, sb, w5⟩ => ?_
          subst ed
          obtain ⟨b, vs, eb, _⟩ := (show ∃ a vs, v4 = .ref a ∧ H4 a = some (.tup vs) ∧ _ from r4)
          subst eb
          have ry4 : ∀ y ∈ ps, RelD X.K H4 (jG y.2) (.ref y.1) := fun y hy => (ry y hy).mono (k2.trans (k3.trans k4))
          refine ⟨b, T, rfl, tab_of r4, fun y hy => tab_of (ry4 y hy), hz, n - (i + 1), by omega, rfl, kp.trans (k2.trans (k3.trans k4)), h5, fun y hy => ?_, rh4.sub sb, by rw [L8]; exact w5⟩
          rcases T4.mp hy with z | z
          · exact ry4 y z
          · rw [P4.mp z]; exact r4
        | false =>
          rw [R3 D8] at q3 ⊢
          obtain ⟨h5, sb, w5⟩ := q3
          exact ⟨n - (i + 1), by omega, rfl, kp.trans (k2.trans k3), h5, fun y hy => (ry y hy).mono (k2.trans k3), rh3.sub sb, w5⟩
      · obtain ⟨ne, all, fin⟩ := stop (U0.mp hi)
        refine .inl ⟨jo'.2 (U0.mp hi), fun p o hpn acc => ⟨p, o, ps, M, rfl, je, acc, fun z => ne (by rw [z]; rfl), by omega, fun y hy => all _ (F1 hy), fun l b hl hb => ?_⟩⟩
        have rh2 := rh'.new (o := SK o) hpn
        have rd := ((ry _ hb).mono (.new hpn : Kept H' (upd H' p (SK o))))
        exact post (.lst l) (.ref l) _ _ (kk.trans ((Kept.new hpn).trans (.new hl))) (rh2.newL hl (.cons rd .nil)) ⟨rfl, _, je⟩ (fin l (rh2.free hl))⟩
def Oq:G8->G0 (G0 P2)
 |1=> [[1]]
 |2=> [[0,1],[1,1]]
 |_=> [[0,0,1],[1,0,0],[1,1,0]]
def okS (s:G8)(T:G0 (G0 P2)):N0:=decide (Oq s∈(we s s).map λo=>NU s o (jS s T))&&((we s s).map λo=>NU s o (jS s T)).all λx=>decide (x=Oq s)||wq (Oq s) x
theorem Os {s:G8}{T:G0 (G0 P2)}(h3:s<=3)(ok:okS s T=true):Lst s (jS s T) (Oq s):=by
 unfold okS at ok;rw [S9,U1,M8] at ok;exact CG (e:=1) (by omega) ok.1 λx hx=>by
  have:=ok.2 x hx;rw [W7,U1] at this;exact this
end L2
namespace HT
open PySem PySem.Spec PyProof.Rows
structure OwnI (C f:G5)(bmB:G0 G1)(newId:B2)(h:M4):Prop where
 obj: ∃bm N nm q bs hdct sn sub ab col dd k0 k1 k2 k3 k5 mN,h.get? C=some (mZ nm q C N bs bm hdct sn sub ab col dd k0 k1 k2 k3 k5 newId)/\h.Ns N mN/\mN "__init__" =some (.ref f)/\OwnTail h bmB bm
 fn: ∃o,h.get? f=some o/\o.cls= .type "function"
theorem OwnI.call {prog:D5}{w:T5}{A:R6}{E:G1->G2->Prop}{s:G2}{C f:G5}{bmB:G0 G1}{B newId initId:B2}{rest:G0 G1}{Q:G1->G2->Prop}(O:OwnI C f bmB newId s.heap)(F:ExcBaseFacts B newId initId bmB)(hrest:rest.length<=sizeLine)
 (hq: ∀h' e,sH s.heap h' e (.ref C) rest->E8 (D3 prog w) (A.under (.builtin "type.__call__" ⟨.ref C::rest,[]⟩)) (nC (.ref f) {pos:= .ref e::rest}) (λr s'=>r= .ok (.ret .none)/\Q (.ref e) s') {s with heap:=h'}):D1 (D3 prog w) A (rY (.ref C) rest) Q E s:=by
 obtain⟨⟨bm,N,nm,q,bs,hdct,sn,sub,ab,col,dd,k0,k1,k2,k3,k5,mN,hC,hn,hi,T⟩,oI,hfI,hfc⟩:=O;obtain⟨h,g,d,t,os⟩:=s;dsimp only at hC hn T hfI hq;have f1:=tc_lookup;have f2:=tc_bind (.ref C);have isT:(⟨h,g,d,t,os⟩:G2).TypeIs (.ref C) "type" :=⟨_,hC,rfl⟩;refine dZ (fK ?_);show D1 _ _ (callAny (.ref C) _) _ _ _
 wp_walk
 refine⟨rfl,?_⟩;show E8 _ _ (nC (.builtin "type.__call__") {pos:= .ref C::rest}) _ _;refine codeAny_call_builtin_at (gP _ (by decide +kernel)) entry_typeCall (wpAny_check_type_call_sub hC ?_)
 wp_walk
 refine codeAny_call_builtin_code (gP _ F.quiet) (wpAny_check_new_subT F T hC (codeAny_exc_new_subT F T hC ?_ hrest));generalize hT:h.push {cls:= .type "tuple",data:= .seq rest.toArray}=h1;have keep1: ∀b o,h.get? b=some o->h1.get? b=some o:=λb o z=>hT ▸ G4 _ z
 generalize hE:h1.push {cls:= .ref C,data:= .fields #[.ref h.objs.size,.none,.none,.none,.bool false,.none]}=h2;have keep: ∀b o,h.get? b=some o->h2.get? b=some o:=λb o z=>hE ▸ G4 _ (keep1 b o z)
 have size1:h1.objs.size=h.objs.size+1:=by rw [<-hT,aH]
 have at_e:h2.get? (h.objs.size+1)=some {cls:= .ref C,data:= .fields #[.ref h.objs.size,.none,.none,.none,.bool false,.none]}:=hE ▸ iJ size1.symm rfl
 replace hq:=hq h2 (h.objs.size+1) ⟨keep,bJ (iF _),h.objs.size,at_e,bJ (P1 _),hE ▸ G4 _ (hT ▸ iJ rfl rfl)⟩
 generalize h.objs.size+1=e at hq at_e ⊢;have hC2:=keep _ _ hC;have own:(B0 C::bm).contains (.ref C)=true:=F9.mpr P3;have isF:(⟨h2,g,d,t,os⟩:G2).TypeIs (.ref f) "function" :=⟨_,keep _ _ hfI,hfc⟩;dsimp only;unfold gO pO
 wp_walk
 refine aE hC2 ?_;rw [own]
 wp_walk
 refine wpAny_typeLookup_tail hC2 (hn.keeps keep) (T.keeps keep) F.mroIs F.init.lookup ?_;rw [hi];dsimp only;refine B5 ?_;unfold bindSpecial
 wp_walk
 refine X5 hq λr s' ⟨z,q⟩=> ?_
 subst z
 wp_walk
 exact q
structure Own2 (h:M4)(C:G5)(bmB:G0 G1)(newId:B2)(m1 m2:Str->P0 G1):Prop where
 obj: ∃C2 N N2,(∃nm q bs sn sub ab col dd k0 k1 k2 k3 k5,h.get? C=some (mZ nm q C N bs (.ref C2::bmB) true sn sub ab col dd k0 k1 k2 k3 k5 newId))/\h.Ns N m1/\(∃nm q bs bm hd sn sub ab col dd k0 k1 k2 k3 k5 n,h.get? C2=some (mZ nm q C2 N2 bs bm hd sn sub ab col dd k0 k1 k2 k3 k5 n))/\h.Ns N2 m2
section
variable {M:cC}{A:R6}{E:G1->G2->Prop}{s:G2}{C x:G5}{bmB:G0 G1}{B newId:B2}{m1 m2:Str->P0 G1}
variable {name:Str}
theorem Own2.look {y:P0 G1}{Q:P0 G1->G2->Prop}(W:Own2 s.heap C bmB newId m1 m2)(hm:mroOf (.type B)=pure bmB)(hB:eG (.type B) name=pure y)(q:Q ((m1 name).or ((m2 name).or y)) s):D1 M A (eG (.ref C) name) Q E s:=by
 obtain⟨C2,N,N2,⟨nm,q1,bs,sn,sub,ab,col,dd,k0,k1,k2,k3,k5,hC⟩,hn,⟨_,_,_,_,_,_,_,_,_,_,_,_,_,_,_,_,hC2⟩,hn2⟩:=W.obj;rw [uJ,hm] at hB;obtain⟨h,g,d,t,os⟩:=s;rw [uJ];refine wpAny_bind (lX hC ?_);rw [qH];refine wpAny_bind (oO hC hn ?_);cases e1:m1 name with
 |some v=>rw [e1] at q;exact G7 q
 |none=>
  dsimp only;rw [qH];refine wpAny_bind (oO hC2 hn2 ?_);rw [e1] at q;cases e2:m2 name with
  |some v=>rw [e2] at q;exact G7 q
  |none=>
   rw [e2] at q;dsimp only;rw [show lookupAlong bmB name=pure y from hB];exact G7 q
theorem Own2.field1 {sa owner:B2}{o:Obj}{v:G1}{Q:Unit->G2->Prop}{prog:D5}{w:T5}(W:Own2 s.heap C bmB newId m1 m2)(SF:IG B bmB sa owner)(n1:m1 "__setattr__" =none)(n2:m2 "__setattr__" =none)(n3:m1 name=none)(n4:m2 name=none)(hB:eG (.type B) name=pure none)
 (hx:s.heap.get? x=some o)(hc:o.cls= .ref C)(hd:o.dict=none)(hf: ∃vs,o.data= .fields vs)
 (hq: ∀h' D tk',h'.get? x=some {o with dict:=some D}->s.heap.get? D=none->h'.Ns1 D (λy=>if y=name then some v else none)->(∀b ob,b≠x->s.heap.get? b=some ob->h'.get? b=some ob)->Q () {s with heap:=h',toks:=tk'}):D1 (D3 prog w) A (pP (.ref x) name v) Q E s:=by
 obtain⟨C2,N,N2,⟨nm,q1,bs,sn,sub,ab,col,dd,k0,k1,k2,k3,k5,hC⟩,_⟩:=id W.obj;obtain⟨h,g,d,t,os⟩:=s;dsimp only at W hC hx hq;have f3:=SF.slot.bind (.ref x);unfold pP pO specialOf
 wp_walk
 rw [hc];refine W.look SF.mro SF.slot.lookup ?_;rw [n1,n2]
 wp_walk
 show E8 _ _ (nC (.builtin sa) {pos:= [.ref x,.str name t,v]}) _ _;refine aA SF.slot.plain SF.entry ?_;have sub1:(B0 C:: .ref C2::bmB).contains (.type owner)=true:=F9.mpr (.tail _ (.tail _ (F9.mp SF.hasOwner)));unfold bW;simp only [SF.kind,SF.split];unfold gO
 wp_walk
 rw [hc];refine aE hC ?_;rw [sub1];have args:=SF.args (.ref x) (.str name t) v;have pass:=SF.passes (.ref x);unfold qE at args;rw [R3 (show ¬ ((!true)=true) by decide)];have chk: ∀ {K:Unit->G2->Prop} {u:G2} {A':R6} {E':G1->G2->Prop},K () u->D1 (D3 prog w) A' (match X3 sa with|some sig=>Bind.checkArgs sa sig ⟨[.ref x,.str name t,v],[]⟩|x=>pure ()) K E' u:=λ{K u A' E'} k=>by
  cases hs:X3 sa with
  |none=>exact G7 k
  |some sig=>
   rw [hs] at args;dsimp only at args ⊢;rw [args];exact G7 k
 refine chk ?_;unfold Builtin.«object.__setattr__» dB;simp only [refuse_eq];generalize hS:V6=st
 wp_walk
 rw [hc];refine lX hC ?_;rw [g6,g6,pass]
 wp_walk
 rw [hc];refine W.look SF.mro hB ?_;rw [n3,n4];obtain⟨oc,od,odt,osl⟩:=o;obtain⟨vs,hf⟩:=hf;dsimp only at hc hd hf;subst hc hd hf
 wp_walk
 have nx:x≠h.objs.size:=R5 (D0 hx);have ox:h.get? x=some {cls:= .ref C,dict:=none,data:= .fields vs,slots:=osl}:=hx;generalize hh:(h.push {cls:= .type "dict",data:= .dict #[]}).update x (λo=> {cls:=o.cls,dict:=some h.objs.size,data:=o.data,slots:=o.slots})=h2;have kx:h2.get? x=some {cls:= .ref C,dict:=some h.objs.size,data:= .fields vs,slots:=osl}:=hh ▸ B1 _ (G4 _ ox) rfl;have kD:h2.get? h.objs.size=some {cls:= .type "dict",data:= .dict #[]}:=hh ▸ (X6 _ _ nx).trans (iJ rfl rfl);have ko: ∀b ob,b≠x->h.get? b=some ob->h2.get? b=some ob:=λb ob n e=>hh ▸ (X6 _ _ (O0 n)).trans (G4 _ e)
 have new:h.get? h.objs.size=none:=bJ (P1 _);have lt: ∀b ob,h.get? b=some ob->b≠h.objs.size:=λb ob e z=>by rw [z,new] at e;cases e
 generalize h.objs.size=D at*
 have nD:h2.Ns1 D λ_=>none:= .of_empty ⟨_,#[],_,kD,rfl,λe he=>absurd he (by simp),λ_=>rfl⟩
 rw [<-hS];unfold V6 eN;refine wpAny_bind (G7 (wpAny_bind (v5 nD λh' n' same=> ?_)));obtain⟨oD,es,ep,h1,h3,h4⟩:=n'.count (Within.cons name v Within.nil);refine wpAny_bind (wpAny_lookBehind h1 (by rw [h3];exact qI (T9 h4 (by rw [D4,M7,eZ];omega))) ?_)
 wp_walk
 exact hq h' D _ ((same.2 x nx).trans kx) new n' λb ob n e=>(same.2 b (lt b ob e)).trans (ko b ob n e)
theorem Own2.field2 {sa owner:B2}{o:Obj}{v:G1}{D:G5}{mA:Str->P0 G1}{ns:G0 Str}{Q:Unit->G2->Prop}{prog:D5}{w:T5}(W:Own2 s.heap C bmB newId m1 m2)(SF:IG B bmB sa owner)(n1:m1 "__setattr__" =none)(n2:m2 "__setattr__" =none)(n3:m1 name=none)(n4:m2 name=none)(hB:eG (.type B) name=pure none)
 (hx:s.heap.get? x=some o)(hc:o.cls= .ref C)(hd:o.dict=some D)(nD:s.heap.Ns1 D mA)(hw:j7 mA ns)(hz:ns.length<=100)(hf: ∃vs,o.data= .fields vs)
 (hq: ∀h' tk',h'.Ns1 D (λy=>if y=name then some v else mA y)->(∀b ob,b≠D->s.heap.get? b=some ob->h'.get? b=some ob)->Q () {s with heap:=h',toks:=tk'}):D1 (D3 prog w) A (pP (.ref x) name v) Q E s:=by
 obtain⟨C2,N,N2,⟨nm,q1,bs,sn,sub,ab,col,dd,k0,k1,k2,k3,k5,hC⟩,_⟩:=id W.obj;obtain⟨h,g,d,t,os⟩:=s;dsimp only at W hC hx hq nD;have f3:=SF.slot.bind (.ref x);unfold pP pO specialOf
 wp_walk
 rw [hc];refine W.look SF.mro SF.slot.lookup ?_;rw [n1,n2]
 wp_walk
 show E8 _ _ (nC (.builtin sa) {pos:= [.ref x,.str name t,v]}) _ _;refine aA SF.slot.plain SF.entry ?_;have sub1:(B0 C:: .ref C2::bmB).contains (.type owner)=true:=F9.mpr (.tail _ (.tail _ (F9.mp SF.hasOwner)));unfold bW;simp only [SF.kind,SF.split];unfold gO
 wp_walk
 rw [hc];refine aE hC ?_;rw [sub1];have args:=SF.args (.ref x) (.str name t) v;have pass:=SF.passes (.ref x);unfold qE at args;rw [R3 (show ¬ ((!true)=true) by decide)];have chk: ∀ {K:Unit->G2->Prop} {u:G2} {A':R6} {E':G1->G2->Prop},K () u->D1 (D3 prog w) A' (match X3 sa with|some sig=>Bind.checkArgs sa sig ⟨[.ref x,.str name t,v],[]⟩|x=>pure ()) K E' u:=λ{K u A' E'} k=>by
  cases hs:X3 sa with
  |none=>exact G7 k
  |some sig=>
   rw [hs] at args;dsimp only at args ⊢;rw [args];exact G7 k
 refine chk ?_;unfold Builtin.«object.__setattr__» dB;simp only [refuse_eq];generalize hS:V6=st
 wp_walk
 rw [hc];refine lX hC ?_;rw [g6,g6,pass]
 wp_walk
 rw [hc];refine W.look SF.mro hB ?_;rw [n3,n4];obtain⟨oc,od,odt,osl⟩:=o;obtain⟨vs,hf⟩:=hf;dsimp only at hc hd hf;subst hc hd hf
 wp_walk
 rw [<-hS];unfold V6 eN;refine wpAny_bind (G7 (wpAny_bind (v5 nD λh' n' same=> ?_)));obtain⟨oD,es,ep,h1,h3,h4⟩:=n'.count (Within.cons name v hw);refine wpAny_bind (wpAny_lookBehind h1 (by rw [h3];exact qI (T9 h4 (by rw [D4,eZ];omega))) ?_)
 wp_walk
 exact hq h' _ n' λb ob n e=>(same.2 b n).trans e
end
theorem MS {h:M4}{D:G5}{mA:Str->P0 G1}{name:Str}{v:G1}(n:h.Ns1 D mA)(hv:mA name=some v): ∃o,h.get? D=some o/\nsLook name o=pure (some v):=by
 obtain⟨o,es,ep,ho,hd,_,_,hm⟩:=n;refine⟨o,ho,?_⟩;have e:=(hm name).trans hv;unfold nsFind G0c at e;obtain⟨ent,h1,h2⟩:=O1.mp e;rw [nsLook_eq];unfold nsLookByArray;rw [hd];dsimp only;rw [h1,<-h2]
section
variable {A:R6}{E:G1->G2->Prop}{s:G2}{C x D:G5}{bmB:G0 G1}{B newId:B2}{m1 m2 mA:Str->P0 G1}
theorem Own2.get {o:Obj}{name:Str}{v:G1}{Q:G1->G2->Prop}{prog:D5}{w:T5}{b:N0}(W:Own2 s.heap C bmB newId m1 m2)(FB:ExcAttrBase B bmB)(g1:m1 "__getattribute__" =none)(g2:m2 "__getattribute__" =none)(g3:m1 "__getattr__" =none)(g4:m2 "__getattr__" =none)(n3:m1 name=none)(n4:m2 name=none)(hB:eG (.type B) name=pure none)
 (hx:s.heap.get? x=some o)(hc:o.cls= .ref C)(hd:o.dict=some D)(hf: ∃vs,o.data= .fields vs)(nD:s.heap.Ns1 D mA)(hv:mA name=some v)(nb: ∀id,v≠ .builtin id)(hq:Q v {s with toks:=s.toks+1}):D1 (D3 prog w) A (IK (.ref x) name b) Q E s:=by
 obtain⟨C2,N,N2,⟨nm,q1,bs,sn,sub,ab,col,dd,k0,k1,k2,k3,k5,hC⟩,_⟩:=id W.obj;obtain⟨h,g,d,t,os⟩:=s;dsimp only at W hC hx hq nD;have f3:=FB.ga.bind (.ref x);have e2:(eX "BaseException.__getattribute__" ==eX "object.__getattribute__")=false:=by decide +kernel
 have e1:(onTheHeap (B0 C)&&eX "BaseException.__getattribute__" ==eX "object.__getattribute__")=false:=by rw [e2];rfl
 have e0:(b&&onTheHeap (eX "BaseException.__getattribute__"))=false:=by cases b<;>rfl
 unfold IK getAttrBy
 wp_walk
 rw [hc];refine W.look FB.mro FB.ga.lookup ?_;rw [g1,g2]
 wp_walk
 refine W.look FB.mro FB.noGetattr ?_;rw [g3,g4]
 wp_walk
 show E8 _ _ (nC (.builtin "BaseException.__getattribute__") {pos:= [.ref x,.str name t]}) _ _;refine aA FB.ga.plain l8 ?_;have sub1:(B0 C:: .ref C2::bmB).contains (.type "BaseException")=true:=F9.mpr (.tail _ (.tail _ (F9.mp FB.hasBase)));have kind:builtinKind "BaseException.__getattribute__" =some .slot:=by decide +kernel
 have split:IQ "BaseException.__getattribute__" =some ("BaseException","__getattribute__"):=by decide +kernel
 unfold bW;simp only [kind,split];unfold gO
 wp_walk
 rw [hc];refine aE hC ?_;rw [sub1];have args:=mR (.ref x) (.str name t);unfold qE at args;rw [R3 (show ¬ ((!true)=true) by decide)];have chk: ∀ {K:Unit->G2->Prop} {u:G2} {A':R6} {E':G1->G2->Prop},K () u->D1 (D3 prog w) A' (match X3 "BaseException.__getattribute__" with|some sig=>Bind.checkArgs "BaseException.__getattribute__" sig ⟨[.ref x,.str name t],[]⟩|x=>pure ()) K E' u:=λ{K u A' E'} k=>by
  cases hs:X3 "BaseException.__getattribute__" with
  |none=>exact G7 k
  |some sig=>
   rw [hs] at args;dsimp only at args ⊢;rw [args];exact G7 k
 refine chk ?_;unfold Builtin.«object.__getattribute__»
 wp_walk
 rw [hc];refine W.look FB.mro hB ?_;rw [n3,n4];obtain⟨oc,od,odt,osl⟩:=o;obtain⟨vs,hf⟩:=hf;dsimp only at hc hd hf;subst hc hd hf
 wp_walk
 obtain⟨oD,hD,lk⟩:=MS nD hv;refine wpAny_loadPart_at hD ?_;rw [lk];refine G7 ?_
 wp_walk
 cases v with
 |builtin id=>exact absurd rfl (nb id)
 |_=>exact G7 hq
end
theorem Db {M:cC}{A:R6}{E:G1->G2->Prop}{s:G2}{C:G5}{bmB:G0 G1}{newId:B2}{env:Env}{x:Sem G1}{Q:Flow->G2->Prop}(hb:bmB.contains (.type "BaseException")=true)(hh:A.handled=none)
 (h:D1 M A x (λv u=> ∃m1 m2 e o t,v= .ref e/\Own2 u.heap C bmB newId m1 m2/\u.heap.get? e=some o/\o.cls= .ref C/\o.data= .fields #[.ref t,.none,.none,.none,.bool false,.none]/\E (.ref e) u) E s):D1 M A (raiseStmt env (some x) none) Q E s:=by
 unfold raiseStmt;refine wpAny_bind (R7 h (λv u ⟨m1,m2,e,o,t,ev,W,he,hc,hd,q⟩=> ?_) λ_ _ z=>z);subst ev;obtain⟨C2,N,N2,⟨nm,q1,bs,sn,sub,ab,col,dd,k0,k1,k2,k3,k5,hC⟩,_⟩:=W.obj;have top:(B0 C:: .ref C2::bmB).contains (.type "BaseException")=true:=F9.mpr (.tail _ (.tail _ (F9.mp hb)));obtain⟨hp,g,d,tk,os⟩:=u;obtain⟨oc,od,odt,osl⟩:=o;dsimp only at hc hd hC he;subst hc hd
 wp_walk
 refine aE hC ?_;rw [top]
 wp_walk
 exact wpAny_raiseNew_none hh q
end HT
namespace HT
open PySem PySem.Spec PyProof.Rows PySem.W
def Tj (K:Frag)(C:G5):P0 (G5×G0 G1×B2×N0):=match K.lookup C with
 |some ⟨.type "type",_,.cls cd,sl⟩=>(match cd.mro,sl.toList with
  | .ref C'::bm,[_,_,_,_,some (.builtin n),_]=>if (C'==C&& !cd.hasDel&&nsOkIn K cd.ns)=true then some (cd.ns,bm,n,cd.hasDict) else none
  |_,_=>none)
 |_=>none
theorem SL {K:Frag}{h:M4}{C N:G5}{bm:G0 G1}{n:B2}{hd:N0}(X:K.In h)(e:Tj K C=some (N,bm,n,hd)):(∃nm q bs sn sub ab col dd k0 k1 k2 k3 k5,h.get? C=some (mZ nm q C N bs bm hd sn sub ab col dd k0 k1 k2 k3 k5 n))/\nsOkIn K N=true:=by
 unfold Tj at e;split at e
 ·rename_i dd cd sl ho;split at e
  ·rename_i C' bm' k0 k1 k2 k3 n' k5 hm hs;split at e
   ·rename_i c;simp only [S9,beq_iff_eq,iG] at c;obtain⟨⟨e1,e2⟩,e3⟩:=c;obtain⟨nm,bs,mro,ns,qn,hd',sn,sub,ab,col,del⟩:=cd;obtain⟨l⟩:=sl;dsimp only at hm hs e2 e3 e;injection e with e
    injection e with z1 z2
    injection z2 with z2 z3
    injection z3 with z3 z4
    subst e1 hm hs e2 z1 z2 z3 z4;exact⟨⟨_,_,_,_,_,_,_,_,_,_,_,_,_,X _ _ ho⟩,e3⟩
   ·cases e
  ·cases e
 ·cases e
def Xm (K:Frag)(C f:G5)(bmB:G0 G1)(newId:B2)(ns:G0 B2):N0:=match Tj K C with
 |some (N,.ref C2::bm,n,true)=>bm==bmB&&n==newId&&nsIn K N "__init__" ==some (some (.ref f))&&tailIn K bmB (.ref C2::bm)&&(match K.lookup f with|some o=>o.cls== .type "function" |none=>false)&&(match Tj K C2 with
  |some (N2,_,_,_)=>("__setattr__" :: "__getattribute__" :: "__getattr__" ::ns).all λx=>nsIn K N x==some none&&nsIn K N2 x==some none
  |none=>false)
 |_=>false
theorem SM {K:Frag}{h:M4}{N:G5}{m:Str->P0 G1}{n:Str}{v:G1}(X:K.In h)(G:h.Ns N m)(e:nsIn K N n=some (some v)):m n=some v:=by
 obtain⟨o,es,ep,ho,hd,_,hf⟩:=G;unfold nsIn at e;cases z:K.lookup N with
 |none=>rw [z] at e;cases e
 |some o'=>
  have w:=(X _ _ z).symm.trans ho;injection w with w
  subst w;obtain⟨c,d,t,sl⟩:=o';cases hd;rw [z] at e;dsimp only at e;cases y:es.toList.find? (·.key.isStr n) with
  |none=>rw [y] at e;dsimp only at e;split at e<;>cases e
  |some en=>
   rw [y] at e;cases e;rw [<-hf n];exact(congrArg (Option.map (·.val)) ((n5 ..).symm.trans y))
theorem VO {K:Frag}{h:M4}{C f:G5}{bmB:G0 G1}{newId:B2}(X:K.In h){ns:G0 B2}(q:Xm K C f bmB newId ns=true):OwnI C f bmB newId h/\ ∃N N2,Own2 h C bmB newId (h.nsMap N) (h.nsMap N2)/\(∀x,nsIn K N x=some none->h.nsMap N x=none)/\(∀x,nsIn K N2 x=some none->h.nsMap N2 x=none)/\ ∀x∈ "__setattr__" :: "__getattribute__" :: "__getattr__" ::ns,h.nsMap N (G6 x)=none/\h.nsMap N2 (G6 x)=none:=by
 unfold Xm at q;split at q
 ·rename_i N C2 bm n e1;simp only [S9,beq_iff_eq] at q;obtain⟨⟨⟨⟨⟨rfl,rfl⟩,hi⟩,ht⟩,hf⟩,hu⟩:=q;obtain⟨⟨nm,q1,bs,sn,sub,ab,col,dd,k0,k1,k2,k3,k5,hC⟩,ok⟩:=SL X e1;split at hu
  ·rename_i N2 b2 n2 d2 e2;obtain⟨⟨nm',q1',bs',sn',sub',ab',col',dd',k0',k1',k2',k3',k5',hC2⟩,ok2⟩:=SL X e2;split at hf
   ·rename_i o ho;have w1:=λx (z:nsIn K N x=some none)=>nsMap_none_of_in X ok z
    have w2:=λx (z:nsIn K N2 x=some none)=>nsMap_none_of_in X ok2 z
    refine⟨⟨⟨_,N,nm,q1,bs,_,sn,sub,ab,col,dd,k0,k1,k2,k3,k5,_,hC,.of_isNs (isNs_of_in X ok),?_,tail_of_in X ht⟩,o,X _ _ ho,beq_iff_eq.mp hf⟩,N,N2,⟨C2,N,N2,⟨nm,q1,bs,sn,sub,ab,col,dd,k0,k1,k2,k3,k5,hC⟩,.of_isNs (isNs_of_in X ok),⟨_,_,_,_,_,_,_,_,_,_,_,_,_,_,_,_,hC2⟩,.of_isNs (isNs_of_in X ok2)⟩,w1,w2,λx hx=> ?_⟩
    ·exact SM X (.of_isNs (isNs_of_in X ok)) hi
    ·have:=M8.mp hu x hx;simp only [S9,beq_iff_eq] at this;exact⟨w1 x this.1,w2 x this.2⟩
   ·cases hf
  ·cases hu
 ·cases q
end HT
namespace L2
open PySem PySem.Spec PyProof.Rows PySem.W HT
def ExO (e C:G5)(vs0:M1 G1)(dx:P0 G5):HO:= .ext λh=> ∃o,h.get? e=some o/\o.cls= .ref C/\o.data= .fields vs0/\o.dict=dx
variable {P:D5}{w:T5}{H:Hp}{h:M4}{e:G5}
theorem CY {C:G5}{vs0:M1 G1}{dx:P0 G5}{o:Obj}(q:h.get? e=some o)(c:o.cls= .ref C)(d:o.data= .fields vs0)(x:o.dict=dx):ObjOk P w H h e (ExO e C vs0 dx):=
 ⟨⟨o,q,c,d,x⟩,⟨o,q⟩,λh1 h2 ⟨o,q,r⟩ k=>⟨o,k _ q,r⟩⟩
def XdO (dx:G5)(fs:G0 (Str×V)):HO:= .ext λh=> ∃mA,h.Ns1 dx mA/\ ∀f,RelO (fs.lookup f) (mA f)
theorem CZ {dx:G5}{fs:G0 (Str×V)}{mA:Str->P0 G1}(n:h.Ns1 dx mA)(r: ∀f,RelO (fs.lookup f) (mA f)):ObjOk P w H h dx (XdO dx fs):=
 ⟨⟨mA,n,r⟩,(let ⟨o,_,_,q,_⟩:=n;⟨o,q⟩),λh1 h2 ⟨mA,n,r⟩ k=>⟨mA,n.at k,r⟩⟩
def fdV (fs:G0 (Str×P2)):G0 (Str×V):=fs.map λp=>(p.1,V.int p.2)
theorem WR {f g:Str}{n:P2}:(fdV [(f,n)]).lookup g=if g=f then some (V.int n) else none:=by
 show (match g==f with|true=>some (V.int n)|false=>none)=_
 by_cases z:g=f
 ·rw [R1 z,z];simp
 ·rw [R3 z,beq_eq_false_iff_ne.mpr z]
theorem SN {fs ex:G0 G5}{h':M4}{dx:G5}{oe od:HO}(he: ∃φ,H e=some (.ext φ))(hd:h.get? dx=none\/ ∃g,H dx=some (.xd g))(hn:H dx=none\/ ∃g,H dx=some (.xd g))(k: ∀b o,b≠e->b≠dx->h.get? b=some o->h'.get? b=some o)(ke: ∃o,h'.get? e=some o)(kd: ∃o,h'.get? dx=some o):Un fs ex H (upd (upd H e oe) dx od) h h':=by
 obtain⟨φ,he⟩:=he;have nf: ∀b o,h.get? b=some o->H b=none->b≠e/\b≠dx:=λb o q n=>by
  refine⟨λz=> ?_,λz=> ?_⟩
  ·rw [z,he] at n;cases n
  ·subst z;rcases hd with z|⟨g,z⟩
   ·rw [z] at q;cases q
   ·rw [z] at n;cases n
 have same: ∀b u,H b=some u->(∀φ,u≠ .ext φ)->(∀g,u≠ .xd g)->upd (upd H e oe) dx od b=some u:=λb u q n1 n2=>by
  rw [jd,jd];exact q
  ·intro z;subst z;rw [he] at q;cases q;exact n1 _ rfl
  ·intro z;subst z;rcases hn with y|⟨g,y⟩
   ·rw [y] at q;cases q
   ·rw [y] at q;cases q;exact n2 _ rfl
 refine⟨λb o q n _ _=>k b o (nf b o q n).1 (nf b o q n).2 q,λb o q n _ _=>⟨o.slots,k b o (nf b o q n).1 (nf b o q n).2 q⟩,λb o q n _=> ?_,λb o q _=> ?_,λb xs q=>same b _ q (λ_ z=>(nomatch z)) (λ_ z=>(nomatch z)),λb o u q=>same b _ q (λ_ z=>(nomatch z)) (λ_ z=>(nomatch z)),λb ps q=>⟨#[],by rw [same b _ q (λ_ z=>(nomatch z)) (λ_ z=>(nomatch z))];simp⟩⟩
 ·rw [jd (nf b o q n).2,jd (nf b o q n).1];exact n
 ·by_cases z:b=e
  ·subst z;exact ke
  ·by_cases y:b=dx
   ·subst y;exact kd
   ·exact⟨o,k b o z y q⟩
structure IniK (K:Frag)(C f:G5)(ns:G0 B2):Prop where
 ini:Xm K C f bmV "ValueError.__new__" ns=true
 kp:keepIn K (.ref C)=true
def Zx (n:Str):Prop:=eG (.type "ValueError") n=pure none
section
variable {X:Cx}{pins:G0 (G5×Obj)}{σ:St}{H:Hp}{s:G2}{C f e:G5}{ns:G0 B2}
theorem IniK.two (k:IniK X.K C f ns)(I:Inv X pins σ H s): ∃m1 m2,Own2 s.heap C bmV "ValueError.__new__" m1 m2/\ ∀x∈ "__setattr__" :: "__getattribute__" :: "__getattr__" ::ns,m1 (G6 x)=none/\m2 (G6 x)=none:=by
 obtain⟨_,N,N2,W,_,_,q⟩:=VO I.kIn k.ini;exact⟨_,_,W,q⟩
variable {x:B2}
theorem HQ {n:P2}{u:G1}{vs0:M1 G1}{Q:Unit->G2->Prop}{A:R6}{E:G1->G2->Prop}(k:IniK X.K C f ns)(hx:x∈ns)(hB:Zx (G6 x))(I:Inv X pins σ H s)(he:H e=some (ExO e C vs0 none))(ru:RelV (.int n) u)
 (q: ∀dx s',H dx=none->dx≠e->Inv X pins σ (upd (upd H e (ExO e C vs0 (some dx))) dx (XdO dx (fdV [(G6 x,n)]))) s'->Q () s'):D1 (D3 X.prog X.w) A (pP (.ref e) (G6 x) u) Q E s:=by
 obtain⟨m1,m2,W,nn⟩:=k.two I;obtain⟨⟨o,ho,hc,hd,hdd⟩,_⟩:=(show (∃o,s.heap.get? e=some o/\o.cls= .ref C/\o.data= .fields vs0/\o.dict=none)/\_ from I.hok e _ he);have hxm:x∈ "__setattr__" :: "__getattribute__" :: "__getattr__" ::ns:= .tail _ (.tail _ (.tail _ hx));refine W.field1 iT (nn "__setattr__" (.head _)).1 (nn "__setattr__" (.head _)).2 (nn x hxm).1 (nn x hxm).2 hB ho hc hdd ⟨vs0,hd⟩ λh' D tk' ge gD nD kb=> ?_
 have hDe:D≠e:=λz=>by subst z;rw [gD] at ho;cases ho
 have hHD:H D=none:=by
  cases z:H D with
  |none=>rfl
  |some w=>obtain⟨o',e'⟩:=(I.hok D w z).there;rw [gD] at e';cases e'
 have un:Un X.fs [] H (upd (upd H e (ExO e C vs0 (some D))) D (XdO D (fdV [(G6 x,n)]))) s.heap h':=SN ⟨_,he⟩ (.inl gD) (.inl hHD) (λb o' n1 _ q'=>kb b o' n1 q') ⟨_,ge⟩ (let ⟨o',_,_,z,_⟩:=nD;⟨o',z⟩);refine q D _ hHD hDe (I.un (h':=h') (t':=tk') un λb w hb=> ?_)
 by_cases z:b=D
 ·subst z;rw [je] at hb;cases hb;refine CZ nD λg=> ?_
  rw [WR]
  by_cases y:g=G6 x
  ·rw [R1 y,R1 y];exact ru
  ·rw [R3 y,R3 y];exact Q6
 rw [jd z] at hb
 by_cases y:b=e
 ·subst y;rw [je] at hb;cases hb;exact CY ge hc hd rfl
 rw [jd y] at hb;have ne: ∀c v,H c=some v->(∀φ,v≠ .ext φ)->c≠e/\c≠D:=λc v hc' nx=>⟨λz=>by subst z;rw [he] at hc';cases hc';exact nx _ rfl,λz=>by subst z;rw [hHD] at hc';cases hc'⟩
 refine(I.hok b w hb).stay (λc u hc' g=> ?_) (λc hc'=> ?_) λc xs hc'=> ?_
 ·rcases hc' with rfl|hc'
  ·exact kb _ _ y g
  ·exact kb _ _ (ne c _ hc' λ_ z=>(nomatch z)).1 g
 ·have:=ne c _ hc' (λ_ z=>(nomatch z));rw [jd this.2,jd this.1];exact hc'
 ·have:=ne c _ hc' (λ_ z=>(nomatch z));rw [jd this.2,jd this.1];exact hc'
theorem HR {n:P2}{u:G1}{vs0:M1 G1}{dx:G5}{fs fs':G0 (Str×V)}{Q:Unit->G2->Prop}{A:R6}{E:G1->G2->Prop}(k:IniK X.K C f ns)(hx:x∈ns)(hB:Zx (G6 x))(I:Inv X pins σ H s)(he:H e=some (ExO e C vs0 (some dx)))(hdx:H dx=some (XdO dx fs))(hl:fs.length<=100)(ru:RelV (.int n) u)
 (hf: ∀g,fs'.lookup g=if g=G6 x then some (V.int n) else fs.lookup g)
 (q: ∀s',Inv X pins σ (upd H dx (XdO dx fs')) s'->Q () s'):D1 (D3 X.prog X.w) A (pP (.ref e) (G6 x) u) Q E s:=by
 obtain⟨m1,m2,W,nn⟩:=k.two I;obtain⟨⟨o,ho,hc,hd,hdd⟩,_⟩:=(show (∃o,s.heap.get? e=some o/\o.cls= .ref C/\o.data= .fields vs0/\o.dict=some dx)/\_ from I.hok e _ he);obtain⟨mA,nD,rA⟩:=(show ∃mA,s.heap.Ns1 dx mA/\ ∀f,RelO (fs.lookup f) (mA f) from (I.hok dx _ hdx).1);have hxm:x∈ "__setattr__" :: "__getattribute__" :: "__getattr__" ::ns:= .tail _ (.tail _ (.tail _ hx));have wi:j7 mA (fs.map (·.1)):=λg hg=>by
  have r:=rA g;cases z:fs.lookup g with
  |none=>rw [z] at r;exact absurd (RelO.none_of r) hg
  |some v=>exact S2.mpr ⟨(g,v),L4 z,rfl⟩
 refine W.field2 iT (nn "__setattr__" (.head _)).1 (nn "__setattr__" (.head _)).2 (nn x hxm).1 (nn x hxm).2 hB ho hc hdd nD wi (by rw [G9];exact hl) ⟨vs0,hd⟩ λh' tk' nD' kb=> ?_
 refine q _ (I.write (x:=dx) (e:=dx) (by rw [hdx];exact Q6) (.inl rfl) (λb o' n1 g=>kb b o' n1 g) (let ⟨o',_,_,z,_⟩:=nD';⟨o',z⟩) (CZ nD' λg=> ?_));rw [hf]
 by_cases y:g=G6 x
 ·rw [R1 y,R1 y];exact ru
 ·rw [R3 y,R3 y];exact rA g
def sXa (C:G5)(i:G8)(x:B2):TS:=λD σ H=> ∃e n vs0,σ[0]? =some (some (.ref e))/\σ[i]? =some (some (.int n))/\H e=some (ExO e C vs0 none)/\ ∀dx,H dx=none->dx≠e->D.nx σ (upd (upd H e (ExO e C vs0 (some dx))) dx (XdO dx (fdV [(G6 x,n)])))
def sXb (C:G5)(i:G8)(x:B2):TS:=λD σ H=> ∃e n vs0 dx fs fs',σ[0]? =some (some (.ref e))/\σ[i]? =some (some (.int n))/\H e=some (ExO e C vs0 (some dx))/\H dx=some (XdO dx fs)/\fs.length<=100/\(∀g,fs'.lookup g=if g=G6 x then some (V.int n) else fs.lookup g)/\D.nx σ (upd H dx (XdO dx fs'))
theorem HS {i:G8}{y:B2}{p1 p2 p3 p4:Pos}(k:IniK X.K C f ns)(hx:x∈ns)(hB:Zx (G6 x))(h0:X.N[0]? =some (G6 "self"))(v0:Vis X.env.scope (G6 "self"))(hi:X.N[i]? =some (G6 y))(vi:Vis X.env.scope (G6 y))(d1:(G6 y==("__debug__" :Str))=false)(d2:(G6 y==("__classdict__" :Str))=false)
 (hs:Q4 (.Name (G6 y) p3) (some (.Attribute (.Name (G6 "self") p1) (G6 x) p2)) p4.line X.env=pure false:=by rfl):PS X (.Assign [.Attribute (.Name (G6 "self") p1) (G6 x) p2] (.Name (G6 y) p3) p4) (sXa C i x):=by
 intro pins s σ H D I ⟨e,n,vs0,q0,qi,he,q⟩;refine dR (thn (Uq hi vi d1 d2 pins s σ H (λv H'=>v= .int n/\H'=H) I ⟨_,qi,rfl,rfl⟩) λu s1 ⟨v,H1,I1,rv,e1,e2⟩=>thn (Uq h0 v0 (by decide) (by decide) pins s1 σ H1 (λv H'=>v= .ref e/\H'=H) I1 ⟨_,q0,rfl,e2⟩) λov s2 ⟨v2,H2,I2,rx,e3,e4⟩=> ?_) hs;subst e1 e3 e4;obtain rfl:ov=B0 e:=rx;exact HQ k hx hB I2 he rv λdx s' n1 n2 I3=>⟨σ,_,I3,q dx n1 n2⟩
theorem HU {i:G8}{y:B2}{p1 p2 p3 p4:Pos}(k:IniK X.K C f ns)(hx:x∈ns)(hB:Zx (G6 x))(h0:X.N[0]? =some (G6 "self"))(v0:Vis X.env.scope (G6 "self"))(hi:X.N[i]? =some (G6 y))(vi:Vis X.env.scope (G6 y))(d1:(G6 y==("__debug__" :Str))=false)(d2:(G6 y==("__classdict__" :Str))=false)
 (hs:Q4 (.Name (G6 y) p3) (some (.Attribute (.Name (G6 "self") p1) (G6 x) p2)) p4.line X.env=pure false:=by rfl):PS X (.Assign [.Attribute (.Name (G6 "self") p1) (G6 x) p2] (.Name (G6 y) p3) p4) (sXb C i x):=by
 intro pins s σ H D I ⟨e,n,vs0,dx,fs,fs',q0,qi,he,hd,hl,hf,q⟩;refine dR (thn (Uq hi vi d1 d2 pins s σ H (λv H'=>v= .int n/\H'=H) I ⟨_,qi,rfl,rfl⟩) λu s1 ⟨v,H1,I1,rv,e1,e2⟩=>thn (Uq h0 v0 (by decide) (by decide) pins s1 σ H1 (λv H'=>v= .ref e/\H'=H) I1 ⟨_,q0,rfl,e2⟩) λov s2 ⟨v2,H2,I2,rx,e3,e4⟩=> ?_) hs;subst e1 e3 e4;obtain rfl:ov=B0 e:=rx;exact HR k hx hB I2 he hd hl rv hf λs' I3=>⟨σ,_,I3,q⟩
end
def spI (C:G5)(ns:G0 B2):Sp:=λvs H Q _=> ∃e,∃vs0:M1 G1,∃ms:G0 P2,vs= .ref e::ms.map V.int/\ms.length=ns.length/\H e=some (ExO e C vs0 none)/\ ∀dx,H dx=none->dx≠e->Q .non (upd (upd H e (ExO e C vs0 (some dx))) dx (XdO dx (fdV ((ns.map G6).zip ms))))
section
variable {P:D5}{w:T5}{K:G3}{mg:Str->P0 G1}{base:M4}{C f fI:G5}{fd:R4}{st:C5}{q:Str}{n:G8}
theorem HV {x y:B2}{p1 p2 p3 p4 r1 r2 r3 r4:Pos}(k:IniK K C fI [x,y])(hxy:G6 x≠G6 y)(F:Fun K "__init__" q st f fd)(S:FnScope [G6 "self",G6 x,G6 y] [G6 "self",G6 x,G6 y] (jb st))
 (hb:jJ st= [.Assign [.Attribute (.Name (G6 "self") p1) (G6 x) p2] (.Name (G6 x) p3) p4,.Assign [.Attribute (.Name (G6 "self") r1) (G6 y) r2] (.Name (G6 y) r3) r4])
 (l0:(jb st).names.lookup (G6 "self")=some .local)(l1:(jb st).names.lookup (G6 x)=some .local)(l2:(jb st).names.lookup (G6 y)=some .local)(hB:Zx (G6 x))(hB2:Zx (G6 y))(d1:(G6 x==("__debug__" :Str))=false)(d2:(G6 x==("__classdict__" :Str))=false)(e1:(G6 y==("__debug__" :Str))=false)(e2:(G6 y==("__classdict__" :Str))=false):
 FnOk P w K mg base CX0 (n+1) f fd [G6 "self",G6 x,G6 y] (spI C [x,y]):=by
 refine F.ok S (λvs H Q E ⟨e,vs0,ms,h,hl,_⟩=>by rw [h];simp [hl]) λcdv A outer s H vs Q E hr ⟨e,vs0,ms,h,hl,he,hq⟩=> ?_
 match ms,hl with
 | [m,m'],_=>
  subst h;rw [hb];refine⟨_,Ge (HS (i:=1) k (.head _) hB rfl (.inl l0) rfl (.inl l1) d1 d2) (DD (HU (i:=2) k (.tail _ (.head _)) hB2 rfl (.inl l0) rfl (.inl l2) e1 e2)),e,m,vs0,rfl,rfl,he,λdx n1 n2=> ?_⟩;refine⟨e,m',vs0,dx,_,fdV [(G6 x,m),(G6 y,m')],rfl,rfl,by rw [jd (O0 n2),je],je,by show 1<=100;decide,λg=> ?_,by rw [Dx];exact hq dx n1 n2⟩;rw [WR];show (match g==G6 x with|true=>some (V.int m)|false=>(fdV [(G6 y,m')]).lookup g)=_;rw [WR]
  by_cases z:g=G6 x
  ·subst z;rw [K4];show some (V.int m)=_;rw [R3 hxy];exact(R1 rfl).symm
  ·rw [beq_eq_false_iff_ne.mpr z];exact congrArg (λo=>if g=G6 y then some (V.int m') else o) (R3 z).symm
end
def KR (x:Str)(ns:G0 B2)(ta:TAD):TXD:=λσ h R=>ta σ h λds h1=> ∃ms:G0 P2,ds=ms.map D.int/\ms.length=ns.length/\R ⟨x,(ns.map G6).zip ms⟩ h1
theorem MT {K:Frag}: ∀ {ms:G0 P2} {vs:G0 V},RelDs K H (ms.map D.int) vs->vs=ms.map V.int
 | [],_,r=>r
 |m::ms,vs,r=>by
  obtain⟨v,l,e,h1,h2⟩:=(show ∃v l,vs=v::l/\RelD K H (.int m) v/\RelDs K H (ms.map D.int) l from r);subst e;rw [show v= .int m from h1,MT h2];rfl
theorem Inv.letgo {X:Cx}{pins:G0 (G5×Obj)}{σ:St}{H1:Hp}{s:G2}{dx C:G5}{vs0:M1 G1}{fs:G0 (Str×V)}(I:Inv X pins σ H s)(hH:H=upd (upd H1 e (ExO e C vs0 (some dx))) dx (XdO dx fs))(n1:H1 e=none)(n2:H1 dx=none)(hne:dx≠e):
 ∃oD,Inv X pins σ (upd H1 dx (.frz oD (.xd fs))) s:=by
 have he:H e=some (ExO e C vs0 (some dx)):=by rw [hH,jd (O0 hne),je]
 have hd:H dx=some (XdO dx fs):=by rw [hH,je]
 have hb: ∀b,b≠e->b≠dx->H b=H1 b:=λb a c=>by rw [hH,jd c,jd a]
 obtain⟨mA,nD,rA⟩:=(show ∃mA,s.heap.Ns1 dx mA/\ ∀f,RelO (fs.lookup f) (mA f) from (I.hok dx _ hd).1);obtain⟨oD,_,_,gD,_⟩:=id nD;have same: ∀b u,H b=some u->(∀φ,u≠ .ext φ)->upd H1 dx (.frz oD (.xd fs)) b=some u:=λb u q n=>by
  have a:b≠e:=λz=>by subst z;rw [he] at q;cases q;exact n _ rfl
  have c:b≠dx:=λz=>by subst z;rw [hd] at q;cases q;exact n _ rfl
  rw [jd c,<-hb b a c];exact q
 have free: ∀b,H b=none->upd H1 dx (.frz oD (.xd fs)) b=none:=λb q=>by
  have c:b≠dx:=λz=>by subst z;rw [hd] at q;cases q
  have a:b≠e:=λz=>by subst z;rw [he] at q;cases q
  rw [jd c,<-hb b a c];exact q
 refine⟨oD,I.un (h':=s.heap) (t':=s.toks) ⟨λb o q _ _ _=>q,λb o q _ _ _=>⟨o.slots,q⟩,λb o _ n _=>free b n,λb o q _=>⟨o,q⟩,λb xs q=>same b _ q (λ_ z=>(nomatch z)),λb o u q=>same b _ q (λ_ z=>(nomatch z)),λb ps q=>⟨#[],by rw [same b _ q (λ_ z=>(nomatch z))];simp⟩⟩ λb u q=> ?_⟩
 by_cases c:b=dx
 ·subst c;rw [je] at q;cases q;exact⟨gD,mA,nD,rA⟩
 ·rw [jd c] at q;have a:b≠e:=λz=>by subst z;rw [n1] at q;cases q
  exact(I.hok b u (by rw [hb b a c];exact q)).stay (λ_ _ _ z=>z) (λb' q'=>same b' _ q' (λ_ z=>(nomatch z))) λb' xs q'=>same b' _ q' (λ_ z=>(nomatch z))
theorem SO {fs ex:G0 G5}{h':M4}{o:HO}(k: ∀b u,h.get? b=some u->h'.get? b=some u)(g:h.get? e=none)(n:H e=none):Un fs ex H (upd H e o) h h':=by
 have ne: ∀ {b u},H b=some u->upd H e o b=some u:=λ{b u} q=>by rw [jd (jf q n)];exact q
 refine⟨λb u q _ _ _=>k b u q,λb u q _ _ _=>⟨u.slots,k b u q⟩,λb u q n' _=> ?_,λb u q _=>⟨u,k b u q⟩,λb xs q=>ne q,λb u v q=>ne q,λb ps q=>⟨#[],by rw [ne q];simp⟩⟩;rw [jd (λz=>by subst z;rw [g] at q;cases q)];exact n'
theorem Ot {h':M4}{o:HO}(ok:HOk P w H h)(k: ∀b u,h.get? b=some u->h'.get? b=some u)(n:H e=none)(q:ObjOk P w (upd H e o) h' e o):HOk P w (upd H e o) h':=λb u z=>by
 by_cases y:b=e
 ·subst y;rw [je] at z;cases z;exact q
 ·rw [jd y] at z;exact(ok b u z).stay (λc v _ q=>k c v q) (λc q=>by rw [jd (jf q n)];exact q) λc xs q=>by rw [jd (jf q n)];exact q
section
variable {X:Cx}{e:S6}{es:G0 S6}{rest:G0 C5}{ta:TAD}{np cpos pos:Pos}
theorem MU {k:G8}{x:Str}{C f fI:G5}{fd:R4}{ps:G0 Str}{ns:G0 B2}(hg:Gl X x)(hm:X.mg x=some (.ref C))(I0:IniK X.K C fI ns)(hz:ns.length<=100)(F:FnOk X.prog X.w X.K X.mg X.base CX0 k fI fd ps (spI C ns))(hb:Binds X.K fd ps [])(hr:Room (k+1) X.A)(hcalm:X.calm=true)(ha:JA X (e::es) ta)(hdb:(x==("__debug__" :Str))=false:=by decide)
 (he:P5 (e::es) X.env=(false,C8 e X.env)::P5 es X.env:=by rfl)(hpl:(F7 cpos (P5 es X.env)).any (·.1)=false:=by rfl):
 JX X (.Raise (some (.Call (.Name x np) (e::es) [] cpos)) none pos::rest) (KR x ns ta):=⟨λE Z pins s σ H σd h R I rs rh ht w=>by
 refine K2 (R7 (?_:D1 _ _ _ (λ_ _=>False) _ _) (λ_ _ z=>z.elim) λ_ _ z=>z);rw [arm_exec_Raise];have key:D1 (D3 X.prog X.w) X.A (C8 (.Call (.Name x np) (e::es) [] cpos) X.env) (λv u=> ∃m1 m2 e o t,v= .ref e/\Own2 u.heap C bmV "ValueError.__new__" m1 m2/\u.heap.get? e=some o/\o.cls= .ref C/\o.data= .fields #[.ref t,.none,.none,.none,.bool false,.none]/\X.xe (.ref e) u) X.xe s:=by
  refine V3 (vP I hg hm ?_ hdb);refine cR (h₀:=X.base) I.ok.mod.kin I0.kp (thn (ha.to cpos pins s σ H (λvs H1=> ∃ds h1,Kept H H1/\RelH X.K h1 H1/\RelDs X.K H1 ds vs/\ ∃ms:G0 P2,ds=ms.map D.int/\ms.length=ns.length/\R ⟨x,(ns.map G6).zip ms⟩ h1) I
   ⟨σd,h,_,rs,rh,ht,λds vs h' H' kp rh' r q=>⟨ds,h',kp,rh',r,q⟩⟩) λus s1 ⟨vs,H1,I1,rv,ds,h1,kp,rh1,rd,ms,e1,hl,hR⟩=>⟨I1.kIn,?_⟩) he hpl
  subst e1;have ev:=MT rd;subst ev;obtain⟨O,_⟩:=VO I1.kIn I0.ini;have hlen:us.length<=sizeLine:=by
   have e2:=rv.length;rw [G9] at e2;rw [eZ];omega
  have hs0: ∀b,s1.heap.get? b=none->X.s₀.heap.get? b=none:=λb nb=>by
   cases q:X.s₀.heap.get? b with
   |none=>rfl
   |some o=>obtain⟨o',e'⟩:=I1.base.there b o q (by rw [Z.ex];simp);rw [nb] at e';cases e'
  refine O.call gM hlen λh' e hme=> ?_
  obtain⟨t,ge,_,_⟩:=hme.there;have n1:H1 e=none:=by
   cases z:H1 e with
   |none=>rfl
   |some u=>obtain⟨o',e'⟩:=(I1.hok e u z).there;rw [hme.new] at e';cases e'
  generalize hvs:(#[.ref t,.none,.none,.none,.bool false,.none]:M1 G1)=vs0 at ge;have I2:Inv X pins σ (upd H1 e (ExO e C vs0 none)) {s1 with heap:=h'}:=I1.un (h':=h') (t':=s1.toks) (SO hme.keeps hme.new n1) (Ot I1.hok hme.keeps n1 (CY ge rfl rfl rfl));have r2:Vals (V.ref e::ms.map V.int) (B0 e::us):= .cons rfl rv;have hsp:spI C ns (V.ref e::ms.map V.int) (upd H1 e (ExO e C vs0 none)) (λv H'=>v= .non/\ ∃dx,upd H1 e (ExO e C vs0 none) dx=none/\dx≠e/\H'=upd (upd H1 e (ExO e C vs0 (some dx))) dx (XdO dx (fdV ((ns.map G6).zip ms)))) E0:=
   ⟨e,vs0,ms,rfl,hl,je,λdx q1 q2=>⟨rfl,dx,q1,q2,by rw [Dx]⟩⟩
  have hl2:(B0 e::us).length=ps.length:=by
   have e':=r2.length;rw [F.len _ _ _ _ hsp] at e';exact e'.symm
  have bi:=hb {s1 with heap:=h'} (B0 e::us) I2.kIn (by simpa using hl2);rw [V0] at bi;refine X5 (F.run _ X.stack _ _ ⟨B0 e::us,[]⟩ (B0 e::us) _ _ E0 (hr.make C us []) (I2.env0.make C us []) bi r2 hsp) λr s' hq'=> ?_
  cases r with
  |error _=>exact hq'.elim
  |ok fl=>
   cases fl with
   |next=>exact hq'.elim
   |brk=>exact hq'.elim
   |cont=>exact hq'.elim
   |ret u=>
    obtain⟨v,H',I3,rv',ev,dx,q1,q2,eH⟩:=I2.after hq';subst ev;obtain rfl:u=bI:=rv';have n2:H1 dx=none:=by rw [jd q2] at q1;exact q1
    obtain⟨oD,I4⟩:=I3.letgo eH n1 n2 q2;obtain⟨⟨o,go,hc,hd,hdd⟩,_⟩:=(show (∃o,s'.heap.get? e=some o/\o.cls= .ref C/\o.data= .fields vs0/\o.dict=some dx)/\_ from I3.hok e (ExO e C vs0 (some dx)) (by rw [eH,jd (O0 q2),je]));obtain⟨_,N,N2,W,_⟩:=VO I4.kIn I0.ini;refine⟨rfl,_,_,e,o,t,rfl,W,go,hc,by rw [hd,<-hvs],?_⟩;have nx:upd H1 dx (.frz oD (.xd (fdV ((ns.map G6).zip ms)))) e=none:=by rw [jd (O0 q2)];exact n1
    refine Z.xe _ _ (RS (C:=C) (dx:=some dx) (a0:= .ref t) I4 Z nx (hs0 e hme.new) go hc hd (by rw [<-hvs];rfl) (by rw [<-hvs];rfl) hdd λh2 un hok fl=> ?_);exact⟨e,C,some dx,_,rfl,I4.os,I4.bare,un,hok,fl,w ⟨x,(ns.map G6).zip ms⟩ C (some dx) h1 _ (kp.trans (.new n2)) (rh1.new n2) hm hR (.inr ⟨dx,oD,rfl,je⟩)⟩
 refine wpAny_bind (Q5 ?_);refine Db (by decide +kernel) (I.ok.hd hcalm) (wpAny_bind (R7 key (λv u q=>wpAny_bind (Q5 (G7 q))) λ_ _ z=>z))⟩
end
def CW13:G0 (Str×Str):= [("NoTable","table"),("NoPlace","place"),("NoNumber","number"),("NoOrder","order"),("NoSet","set"),("NoWalk","walk"),("NoLengths","lengths"),("NoWay","way"),("Apart","apart"),("NoRow","row"),("NoTables","tables"),("NoText","text"),("TooGreat","great")]
def VP (c:Str):Str:=(CW13.lookup c).getD "other"
def OW (c:Str):G0 B2:=if c=G6 "TooGreat" then ["many","most"] else if c=G6 "NoTables" \/c=G6 "NoText" then ["at"] else []
def BV (c:RN):N0:=CN13.contains c.nm&&(c.fs.map (·.1)==(OW c.nm).map G6)
def BW (c:RN):G0 D:= .str (VP c.nm)::c.fs.map λp=>D.int p.2
theorem VQ {c:RN}(h:BV c=true):c.nm∈CN13:=by
 unfold BV at h;simp only [S9] at h;exact F9.mp h.1
theorem Ou {x:G5}{o:HO}{dx dx':P0 G5}{fs:G0 (Str×P2)}(f:FldH H dx fs)(q:dx=none\/dx'=dx)(n:H x=none):FldH (upd H x o) dx' fs:=f.imp id λ⟨D,oD,e,h⟩=>by
 subst e;refine⟨D,oD,q.elim (λz=>(nomatch z)) id,?_⟩;rw [jd (jf h n)];exact h
def VR (P:D5)(w:T5)(K:G3)(mg:Str->P0 G1)(base:M4)(n:G8):G2->Sp:=λs vs H Q _=>
 ∃ (f:G5) (o:Obj) (qual:Str) (pm cv ctv:G1) (cl:G0 (Str×G5)) (q:Str) (N:G0 Str) (σ:St) (scope:H0) (body:S6) (h:HD) (Qd:KD),vs= [.ref f]/\s.heap.get? f=some o/\o.data= .func (kla_fn "<lambda>" qual Yu body scope cl pm cv ctv)/\CodeF H cv q/\H f=none/\LamOk scope/\Cap N σ scope cl s.heap H/\RelH K h H/\Cm K H Qd Q/\
 ((∃QT:VK,(∀ (A':R6) (outer':G0 Env) (s':G2) (E':XK),Room n (A'.deeper (envX q scope s'.heap.objs.size f cv cl))-> ∃t,PE (cxL CX0 P w K mg base N q scope f cv cl A' outer' s' H E') body t/\t σ H QT)/\
  ∀v H',QT v H'-> ∃d h',Kept H H'/\RelH K h' H'/\RelD K H' d v/\Qd (.tup [.str "told",d]) h')\/
  (∃RT:G5->P0 G5->Hp->Prop,(∀ (A':R6) (outer':G0 Env) (s':G2),Room n (A'.deeper (envX q scope s'.heap.objs.size f cv cl))-> ∀pins s2,Inv (cxL (CXR P w) P w K mg base N q scope f cv cl A' outer' s' H (λc dx H'=> ∃C,c= .ref C/\RT C dx H')) pins σ H s2->
   D1 (D3 P w) (A'.deeper (envX q scope s'.heap.objs.size f cv cl)) (C8 body (envX q scope s'.heap.objs.size f cv cl)) (λ_ _=>False) (cxL (CXR P w) P w K mg base N q scope f cv cl A' outer' s' H (λc dx H'=> ∃C,c= .ref C/\RT C dx H')).xe s2)/\
   ∀C dx H',RT C dx H'-> ∃ (c:RN) (h':HD),mg c.nm=some (.ref C)/\BV c=true/\Kept H H'/\RelH K h' H'/\FldH H' dx c.fs/\Qd (.tup (BW c)) h'))
theorem BX {K:G3}{mg:Str->P0 G1}{base:M4}{st:C5}{fs:G5}{fds:R4}{n:G8}{pe:G5}{p1 p2 p3 p4 p5 p6 p7 p8 p9 p10 p11:Pos}{j k:G8}{b0:C5}{suite:G0 C5}
 (F:Fun K "_law_said" "_law_said" st fs fds)(S:FnScope N1 ["_law_call"] (jb st))
 (hb:jJ st= [.Try [.Assign [.Name "_law_found" p1] (.Call (.Name "_law_call" p2) [] [] p3) p4] [.ExceptHandler (some (.Name "PowerError" p5)) (some "_law_e") (b0::suite) p6] [] [] p7,.Return (some (.Tuple [.Constant (.str "told") j p8,.Name "_law_found" p9] k p10)) p11])
 (l0:(jb st).names.lookup ("_law_call" :Str)=some .local)(l1:(jb st).names.lookup ("_law_found" :Str)=some .local)(l2:(jb st).names.lookup ("_law_e" :Str)=some .local)(lp:(jb st).names.lookup ("PowerError" :Str)=some .globalImplicit)
 (hm:mg "PowerError" =some (.ref pe))(hex: ∀c∈CN13,∀C,mg c=some (.ref C)->exmOne K (.ref C) (.ref pe)=some true)(tS:TSD)
 (hsuite: ∀ (cdv:G1) (A:R6) (outer:G0 Env) (s:G2) (H:Hp) (E:XK) (x:G5),RoomU n ((A.deeper (E4 "_law_said" (jb st) s.heap.objs.size fs cdv)).mark (some (.ref x)))->JSs (cxH (Yr CX0 P w K mg base N1 "_law_said" (jb st) fs cdv A outer s H E) x) (b0::suite) tS)
 (hread: ∀ (c:RN) (C:G5) (h:HD) (Qd:KD),BV c=true->mg c.nm=some (.ref C)->Qd (.tup (BW c)) h->tS {nx:=λ_ _=>False,rt:=λd h'=> ∃h2,Sub h2 h'/\Qd d h2} [none,none,some (.exf C c.fs),none] h):
 FnOkS P w K mg base CX0 (n+2) fs fds ["_law_call"] (VR P w K mg base n):=by
 obtain⟨oc,od,kV,doc,pm,an,cdv,ct,osl,rfl,lk,hcd⟩:=F.ex;refine Sd lk hcd S (λs vs H Q E h=> ?_) λA outer s H vs Q E hr hsp s1 I=> ?_
 ·obtain⟨f,_,_,_,_,_,_,_,_,_,_,_,_,_,rfl,_⟩:=h;rfl
 obtain⟨f,o,qual,pmv,cv,ctv,cl,q,N,σ,scope,body,h,Qd,rfl,ho,hod,hcf,hHf,L,C,rh,post,alt⟩:=hsp;have un:=I.base;obtain⟨sl,ho1⟩:=un.any ho hHf (by intro z;cases z);have C1:Cap N σ scope cl s1.heap H:=C.step un;have hr0:Room (n+1) (A.deeper (E4 "_law_said" (jb st) s.heap.objs.size fs cdv)):=hr;rw [hb];have callee: ∀ {CX:CXT} {E':XK} {QT:VK} {t:TE} {Q2:G1->G2->Prop} {EE:G1->G2->Prop},PE (cxL CX P w K mg base N q scope f cv cl (A.deeper (E4 "_law_said" (jb st) s.heap.objs.size fs cdv)) (E4 "_law_said" (jb st) s.heap.objs.size fs cdv::outer) s1 H E') body t->t σ H QT->
  (∀r s2,CR CX (E4 "_law_said" (jb st) s.heap.objs.size fs cdv::outer) P w H s1 QT E' r s2->match r with| .ok (.ret v)=>Q2 v s2| .ok _=>False| .error e=>EE e s2)->
  D1 (D3 P w) (A.deeper (E4 "_law_said" (jb st) s.heap.objs.size fs cdv)) (C8 (.Call (.Name "_law_call" p2) [] [] p3) (E4 "_law_said" (jb st) s.heap.objs.size fs cdv)) Q2 EE s1:=by
  intro CX E' QT t Q2 EE hbt ht hk;refine V3 ?_;obtain⟨m,hn,hl⟩:=I.loc;obtain⟨u,ru,l⟩:=hl 0 "_law_call" (.ref f) rfl rfl (.inl l0);cases ru;have hmm:m "_law_call" =some (.ref f):=by
   rcases l with ⟨_,e⟩|⟨kk,_⟩
   ·exact e
   ·rcases kk with kk|kk<;>(have k':(jb st).names.lookup ("_law_call" :Str)=_:=kk;rw [l0] at k';cases k')
  refine nZ (mE S.kind l0 hn hmm ?_) (by decide);refine callWith_of (P:=λh=> ∃o fd,h.get? f=some o/\o.data= .func fd) rfl RY (evalArgs_nil3 ⟨⟨_,_,ho1,hod⟩,?_⟩);exact dZ (X5 (Lz (CX:=CX) (k:=n) L hr0 I.env0 C1 ho1 hod hcf hbt ht) hk)
 refine K2 (wpAny_Try_except ?_);refine K2 (hZ ?_ rfl);rcases alt with ⟨QT,hT,hQ⟩|⟨RT,hR,hQ⟩
 ·obtain⟨t,hbt,ht⟩:=hT (A.deeper (E4 "_law_said" (jb st) s.heap.objs.size fs cdv)) (E4 "_law_said" (jb st) s.heap.objs.size fs cdv::outer) s1 E0 (hr0.deeper _);refine callee hbt ht λr s2 hq=> ?_
  cases r with
  |error e=>exact False.elim hq
  |ok fl=>
   cases fl with
   |next=>exact False.elim hq
   |brk=>exact False.elim hq
   |cont=>exact False.elim hq
   |ret u=>
    obtain⟨v,H',I2,rv,qt⟩:=I.after hq;obtain⟨d,h',kp,rh',rd,qd⟩:=hQ v H' qt;refine yu I2 (i:=1) (x:= "_law_found") S.nd rfl (.inl l1) rv (λs3 I3=> ?_) (.inr l1);refine aS (aS ?_);have hret:JSs (Yr CX0 P w K mg base N1 "_law_said" (jb st) fs cdv A outer s H E) [.Return (some (.Tuple [.Constant (.str "told") j p8,.Name "_law_found" p9] k p10)) p11] (Vo (Cn (jP (dC (.str "told")) (jP (Wg 1) vE)))):=
     jL (zO (zQ (jac yS (jac (jv 1 rfl (.inl l1)) zn))))
    exact hret.to [] s3 _ H' _ I3 ⟨[none,some d,none,none],h',{nx:=λ_ _=>False,rt:=Qd},⟨rfl,λi d' e=>by
     match i,e with
     |0,e=>cases e
     |1,e=>cases e;exact⟨v,rfl,rd⟩
     |2,e=>cases e
     |3,e=>cases e
     |i+4,e=>simp at e⟩,rh',⟨_,rfl,(by show 2<=sizeLine;decide),qd⟩,λ_ _ _ _ _ _ _ z=>z.elim,jD post kp,λ_ _ _ _ _ _ _ z=>z.elim,λ_ _ _ _ _ _ _ z=>z.elim⟩
 ·refine callee (CX:=CXR P w) (E':=λc dx H'=> ∃C,c= .ref C/\RT C dx H') (QT:=λ_ _=>False) (t:=λσ' H' _=>σ'=σ/\H'=H)
   (λpins s2 σ' H' Q' I' ⟨e1,e2⟩=> ?_) ⟨rfl,rfl⟩ λr s2 hq=> ?_
  ·subst e1;subst e2;exact R7 (hR _ _ s1 (hr0.deeper _) pins s2 I') (λ_ _ z=>z.elim) λ_ _ z=>z
  cases r with
  |ok fl=>
   cases fl with
   |next=>exact False.elim hq
   |brk=>exact False.elim hq
   |cont=>exact False.elim hq
   |ret u=>obtain⟨_,_,_,_,_,_,_,z⟩:=hq;exact z.elim
  |error e=>
   obtain⟨x,C',dx,H',rfl,os,bare,un2,hok,fl,C2,eC,rt⟩:=hq;cases eC;obtain⟨c,h',hmc,hcn,kp,rh',fh,qd⟩:=hQ C' dx H' rt;have I2:=I.call' (ch:= []) os un2 hok bare (λb z=>absurd z (by simp));have f0: ∀b,s1.heap.get? b=none->s.heap.get? b=none:=λb nb=>by
    cases qq:s.heap.get? b with
    |none=>rfl
    |some o=>obtain⟨o',e⟩:=I.base.there b o qq (by intro z;cases z);rw [nb] at e;cases e
   have fl':Fly s.heap H' s2.heap x C' dx:=by
    obtain⟨⟨oe,vs,a0,T,oT,ts,a1,a2,a3,a4,a5,a6,a7,a8,a9,a10,a11⟩,nx,n0,dc⟩:=fl;exact⟨⟨oe,vs,a0,T,oT,ts,a1,a2,a3,a4,a5,a6,a7,a8,a9,a10,f0 _ a11⟩,nx,f0 _ n0,dc⟩
   have hsu:=hsuite cdv A outer s H E x (RoomU.mark ((hr0.mono (iF n)).u));refine R7 (Bp (X:=Yr CX0 P w K mg base N1 "_law_said" (jb st) fs cdv A outer s H E) (σ:=start N1 [V.ref f]) (i:=2) (n:= "_law_e") (C:=C') (t:=LS K tS) (D:= {nx:=λ_ _=>False,rt:=Q}) ⟨rfl,rfl,rfl⟩ rfl S.nd rfl l2 lp hm (hex c.nm (VQ hcn) C' hmc) I2 fl' hsu.to λoe vs hc hd hdx=> ?_) (λ_ s3 h3=>R7 h3 (λ_ s4 h4=>R7 h4 (λfl s5 h5=> ?_) λ_ _ z=>z) λ_ _ z=>z) λ_ _ z=>z
   ·refine⟨[none,none,some (.exf C' c.fs),none],h',_,⟨rfl,λi d' e=> ?_⟩,rh'.new fl'.nx,hread c C' h' Qd hcn hmc qd,λ_ _ _ _ _ _ _ z=>z.elim,λd v h2 H2 k2 rh2 rd ⟨h3,sb,q3⟩=>post d v h3 H2 ((kp.trans (.new fl'.nx)).trans k2) (rh2.sub sb) rd q3,λ_ _ _ _ _ _ _ z=>z.elim,λ_ _ _ _ _ _ _ z=>z.elim⟩
    match i,e with
    |0,e=>cases e
    |1,e=>cases e
    |3,e=>cases e
    |i+4,e=>simp at e
    |2,e=>cases e;exact⟨.ref x,rfl,x,oe,vs,rfl,je,hc,hd,Ou fh hdx fl'.nx⟩
   ·cases fl with
    |next=>obtain⟨_,_,_,z⟩:=h5;exact z.elim
    |brk=>obtain⟨_,_,_,z⟩:=h5;exact z.elim
    |cont=>obtain⟨_,_,_,z⟩:=h5;exact z.elim
    |ret u=>exact h5
def SQ (tT:TED)(tR:TXD):TED:=λσ h Q=>tT σ h (λd h'=>Q (.tup [.str "told",d]) h')\/tR σ h (λc h'=>BV c=true/\Q (.tup (BW c)) h')
theorem JH {X:Cx}{n:G8}{fs:G5}{fds:R4}{scope:H0}{body:S6}{lpos p pos:Pos}{tT:TED}{tR:TXD}{c P:G5}
 (F:FnOkS X.prog X.w X.K X.mg X.base CX0 (n+2) fs fds ["_law_call"] (VR X.prog X.w X.K X.mg X.base n))(hr:Room (n+2) X.A)(hg:Gl X "_law_said")(hm:X.mg "_law_said" =some (.ref fs))(hk:keepIn X.K (.ref fs)=true)(hb:Binds X.K fds ["_law_call"] [])
 (B:Bm X.mg X.base)(hcode:X.env.code= .ref c)(hc:codeHdIn X.K c P=true)(hTK:TabK X.K P)(L:LamOk scope)(hfr:RU scope X.env)
 (hT: ∀ (q:Str) (cv:G1) (cl:G0 (Str×G5)) (f:G5) (A:R6) (outer:G0 Env) (s:G2) (H:Hp) (E:XK),Room n (A.deeper (envX q scope s.heap.objs.size f cv cl))->JE (cxL CX0 X.prog X.w X.K X.mg X.base X.N q scope f cv cl A outer s H E) body tT)
 (hR: ∀ (q:Str) (cv:G1) (cl:G0 (Str×G5)) (f:G5) (A:R6) (outer:G0 Env) (s:G2) (H:Hp) (E:XK),Room n (A.deeper (envX q scope s.heap.objs.size f cv cl))->JXE (cxL (CXR X.prog X.w) X.prog X.w X.K X.mg X.base X.N q scope f cv cl A outer s H E) body tR)
 (he:P5 [Expr.Lambda Yu body scope lpos] X.env=(false,C8 (.Lambda Yu body scope lpos) X.env)::P5 [] X.env:=by rfl)(hpl:(F7 pos (P5 [] X.env)).any (·.1)=false:=by rfl):
 JE X (.Call (.Name "_law_said" p) [.Lambda Yu body scope lpos] [] pos) (SQ tT tR):=⟨λpins s σ H Q I ⟨σd,h,Qd,rs,rh,alt,post⟩=>by
 refine V3 (vP I hg hm ?_ (by decide));refine cR (h₀:=X.base) I.ok.mod.kin hk ?_ he hpl;rw [he];obtain⟨ps,hP,hps⟩:=rh.tb P hTK;have hcl:gH scope X.env=pure (ZW X.env.cells scope.names []):=WK λn hn=>I.ok.has n (hfr n hn)
 refine Y4 (Bh I B hcode hc hP hps hcl λf q qual pm cv ctv H1 h1 tk I1 kp lsts tbls Uo hf hcf hHf _ _ _=>dD ⟨I1.kIn,?_⟩);have rh1:RelH X.K h H1:=⟨λa ds e=>by
  obtain⟨vs,e1,e2⟩:=rh a ds e;exact⟨vs,lsts _ _ e1 (by intro _ z;cases z),e2.mono kp⟩,λP' hP'=>by
  by_cases z:P'=P
  ·subst z;exact Uo
  ·obtain⟨ps',e1,e2⟩:=rh.tb P' hP';exact⟨ps',tbls _ _ e1 z,e2.mono kp.frz⟩,λa c e=>(rh.dc a c e).mono kp λo w=>by
  obtain⟨u,w',d⟩:=(rh.dc a c e).obj;rw [w] at w';cases w';exact lsts _ _ w d.no.2.2.2.2⟩
 have rs1:RelS X.K H1 σd σ:=rs.mono kp;refine LH (us:= [.ref f]) (vs:= [.ref f]) (dvs:= []) (ds:= []) (E:=E0) F hr hb .nil FA I1 (.cons rfl .nil) ?_;refine⟨f,_,qual,pm,cv,ctv,ZW X.env.cells scope.names [],q,X.N,σ,scope,body,h,Qd,rfl,hf,rfl,hcf,hHf,L,Cap.of I1 hfr,rh1,jD post kp,?_⟩;rcases alt with t|t
 ·refine .inl ⟨λv H'=> ∃d h',Kept H1 H'/\RelH X.K h' H'/\RelD X.K H' d v/\Qd (.tup [.str "told",d]) h',λA' outer' s' E' hr'=>⟨_,(hT q cv _ f A' outer' s' H1 E' hr').to,σd,h,_,rs1,rh1,t,λd v h' H' k r1 r2 q=>⟨d,h',k,r1,r2,q⟩⟩,λv H' q=>q⟩
 ·refine .inr ⟨λC dx H'=> ∃ (c:RN) (h':HD),X.mg c.nm=some (.ref C)/\BV c=true/\Kept H1 H'/\RelH X.K h' H'/\FldH H' dx c.fs/\Qd (.tup (BW c)) h',λA' outer' s' hr' pins2 s2 I2=> ?_,λC dx H' q=>q⟩;exact(hR q cv _ f A' outer' s' H1 _ hr').to _ Sb pins2 s2 σ H1 σd h _ I2 rs1 rh1 t λc C dx h' H' k rh' hmc ⟨hcn,qq⟩ fh=>⟨C,rfl,c,h',hmc,hcn,k,rh',fh,qq⟩⟩
def Ov (P:D5)(w:T5)(K:G3)(mg:Str->P0 G1)(base:M4)(n:G8):Prop:=
 ∃ (g:G5) (gd:R4),FnOkS P w K mg base CX0 (n+2) g gd ["_law_call"] (VR P w K mg base n)/\Binds K gd ["_law_call"] []/\E2 K (.ref g)=true/\mg "_law_said" =some (.ref g)
def Fa (K:Frag)(c:Str):N0:=match adr K c with
 |some C=>(match findIn K (.ref C) "__init__" with
  |some (some (.ref f))=>Xm K C f bmV "ValueError.__new__" (OW c)&&keepIn K (.ref C)
  |_=>false)
 |none=>false
def MV (K:Frag)(c:Str):N0:=match adr K c,adr K "PowerError" with
 |some C,some pe=>PF K C&&kitOne K (.ref C) (.type "ValueError")==some true&&exmOne K (.ref C) (.ref pe)==some true&&CN13.all λd=>match adr K d with
  |some D=>kitOne K (.ref C) (.ref D)==some (c==d)
  |none=>false
 |_,_=>false
def Ow (K:Frag):N0:=Se K&&CN13.all (MV K)&& ["NoTables","NoText","TooGreat"].all λc=>Fa K (G6 c)
structure ExcF (K:Frag)(mg:Str->P0 G1):Prop extends Exc K mg where
 ek13: ∀c∈CN13,∀C,mg c=some (.ref C)->ExcK K C
 kit13: ∀c∈CN13,∀d∈CN13,∀C D,mg c=some (.ref C)->mg d=some (.ref D)->kitOne K (.ref C) (.ref D)=some (c==d)
 val13: ∀c∈CN13,∀C,mg c=some (.ref C)->kitOne K (.ref C) (.type "ValueError")=some true
 pe13: ∃pe,mg "PowerError" =some (.ref pe)/\ ∀c∈CN13,∀C,mg c=some (.ref C)->exmOne K (.ref C) (.ref pe)=some true
 ini: ∀c∈ ["NoTables","NoText","TooGreat"],∀C,mg (G6 c)=some (.ref C)-> ∃f,IniK K C f (OW (G6 c))
theorem Ox {K:Frag}{mg:Str->P0 G1}(X:K.In h)(G:h.Ns mainGlobals mg)(e:Ow K=true):ExcF K mg:=by
 unfold Ow at e;simp only [S9] at e;obtain⟨⟨e0,e1⟩,e4⟩:=e;have Ex:=Sg X G e0;have e3:(adr K "PowerError").isSome=true:=by
  unfold Se at e0;simp only [S9] at e0;exact e0.1.2
 have e2: ∀d∈CN13,(adr K d).isSome=true:=by
  unfold Se at e0;simp only [S9,M8] at e0;exact e0.1.1.2
 rw [M8] at e1;obtain⟨pe,hpe⟩:=F2.mp e3;have A: ∀c∈CN13,∃C,mg c=some (.ref C)/\PF K C=true/\kitOne K (.ref C) (.type "ValueError")=some true/\exmOne K (.ref C) (.ref pe)=some true/\ ∀d∈CN13,∀D,adr K d=some D->kitOne K (.ref C) (.ref D)=some (c==d):=λc hc=>by
  have q:=e1 c hc;unfold MV at q;rw [hpe] at q;split at q
  ·rename_i C pe' h1 h2;cases h2;simp only [S9,M8,beq_iff_eq] at q;obtain⟨⟨⟨q2,q3⟩,q4⟩,q5⟩:=q;refine⟨C,ZN X G h1,q2,q3,q4,λd hd D hD=> ?_⟩;have:=q5 d hd;rw [hD] at this;simpa using this
  ·cases q
 have same: ∀ {c:Str} {C C':G5},mg c=some (.ref C)->mg c=some (.ref C')->C=C':=λa b=>by rw [a] at b;cases b;rfl
 refine⟨Ex,λc hc C h=> ?_,λc hc d hd C D h1 h2=> ?_,λc hc C h=> ?_,⟨pe,ZN X G hpe,λc hc C h=> ?_⟩,λc hc C h=> ?_⟩
 ·obtain⟨C',m,q,_⟩:=A c hc;cases same h m;exact RZ q
 ·obtain⟨C',m,_,_,_,q⟩:=A c hc;cases same h1 m;obtain⟨D',hD⟩:=F2.mp (e2 d hd);cases same h2 (ZN X G hD);exact q d hd D hD
 ·obtain⟨C',m,_,q,_⟩:=A c hc;cases same h m;exact q
 ·obtain⟨C',m,_,_,q,_⟩:=A c hc;cases same h m;exact q
 ·have q:=M8.mp e4 c hc;unfold Fa at q;split at q
  ·rename_i C' h1;cases same h (ZN X G h1);split at q
   ·rename_i f _;simp only [S9] at q;exact⟨f,q.1,q.2⟩
   ·cases q
  ·cases q
def QC (mg:Str->P0 G1):RDn:=λds h Q=> ∃c C fs,ds= [.exf C fs]/\c∈CN13/\mg c=some (.ref C)/\ ∀h',Sub h h'->Q (.str (VP c)) h'
def Oy (K:Frag)(c:G1)(ta:TED):TED:=λσ h Q=>ta σ h λx h1=> ∃C fs b,x= .exf C fs/\ExcK K C/\kitOne K (.ref C) c=some b/\Q (.bl b) h1
section
variable {X:Cx}{a:S6}{ta:TED}{t:Str}{p p2 pos:Pos}
theorem GL {v:V}{c:G1}: ∀σ H Q,LE X.K (Oy X.K c ta) σ H Q->tCB (λxs H Q=> ∃x C o b,xs= [.ref x,v]/\H x=some (.frz o (.own 0))/\o.cls= .ref C/\ExcK X.K C/\kitOne X.K (.ref C) c=some b/\Q (.bl b) H) (Np (LE X.K ta) (Np (tC v) Tw)) σ H Q:=
 λσ H Q ⟨σd,h,Qd,rs,rh,t,p⟩=>LE.bind rs rh t λd u h1 H1 k1 rs1 rh1 r1 ⟨C,fs,b,e,Z,k,q⟩=>by
  subst e;obtain⟨x,o,vs,e1,hx,hc,_⟩:=(show ∃x o vs,u= .ref x/\H1 x=some (.frz o (.own 0))/\o.cls= .ref C/\o.data= .fields vs/\FldH H1 o.dict fs from r1);subst e1;exact⟨x,C,o,b,rfl,hx,hc,Z,k,p (.bl b) _ _ _ k1 rh1 rfl q⟩
theorem Zy {KK:Frag}{D:G5}(hg:Gl X "isinstance")(hm:X.mg "isinstance" =none)(hg2:Gl X t)(hm2:X.mg t=some (.ref D))(ha:JE X a ta)(hd:(t==("__debug__" :Str))=false:=by decide)
 (h1:P5 [a,.Name t p2] X.env=(false,C8 a X.env)::P5 [.Name t p2] X.env:=by rfl)(h2:(F7 pos (P5 [.Name t p2] X.env)).any (·.1)=false:=by rfl)(hK:X.K=KK:=by rfl):
 JE X (.Call (.Name "isinstance" p) [a,.Name t p2] [] pos) (Oy KK (.ref D) ta):=
 hK ▸ ⟨(vt (YW (v:= .ref D) λu r=>r) hg hm aV (zS ha.to (zS (DA (v:= .ref D) hg2 hm2 rfl hd) pa_nil (by rfl)) h1) (by decide) (by decide) h1 h2).imp GL⟩
theorem HW {KK:Frag}{T:B2}(hg:Gl X "isinstance")(hm:X.mg "isinstance" =none)(hg2:Gl X t)(hm2:X.mg t=none)(hv:K1 t=some (.type T))(ha:JE X a ta)(hn:t≠ "__name__" :=by decide)(hd:(t==("__debug__" :Str))=false:=by decide)
 (h1:P5 [a,.Name t p2] X.env=(false,C8 a X.env)::P5 [.Name t p2] X.env:=by rfl)(h2:(F7 pos (P5 [.Name t p2] X.env)).any (·.1)=false:=by rfl)(hK:X.K=KK:=by rfl):
 JE X (.Call (.Name "isinstance" p) [a,.Name t p2] [] pos) (Oy KK (.type T) ta):=
 hK ▸ ⟨(vt (YW (v:= .ty T) λu r=>r) hg hm aV (zS ha.to (zS (DB (v:= .ty T) hg2 hm2 hv rfl hn hd) pa_nil (by rfl)) h1) (by decide) (by decide) h1 h2).imp GL⟩
def Oz (K:Frag)(f:B2)(ta:TED):TED:=λσ h Q=>ta σ h λx h1=> ∃C fs n fI ns,x= .exf C fs/\fs.lookup (G6 f)=some n/\IniK K C fI ns/\f∈ns/\Q (.int n) h1
theorem BY {fs:G0 (Str×P2)}{g:Str}:(fdV fs).lookup g=(fs.lookup g).map V.int:=by
 induction fs with
 |nil=>rfl
 |cons p r ih=>
  obtain⟨a,n⟩:=p;show (match g==a with|true=>some (V.int n)|false=>(fdV r).lookup g)=(match g==a with|true=>some n|false=>r.lookup g).map V.int;cases g==a with
  |true=>rfl
  |false=>exact ih
theorem Dc {KK:Frag}{f:B2}{hB:Zx (G6 f)}(ha:JE X a ta)(hb:K6 a (G6 f) X.env (C8 a X.env)=C8 a X.env:=by rfl)(hK:X.K=KK:=by rfl):JE X (.Attribute a (G6 f) pos) (Oz KK f ta):=hK ▸ ⟨λpins s σ H Q I ⟨σd,h,Qd,rs,rh,t,p⟩=>by
 refine Fq hb (thn (ha.to pins s σ H (λv H1=> ∃d h1,Kept H H1/\RelH X.K h1 H1/\RelD X.K H1 d v/\ ∃C fs n fI ns,d= .exf C fs/\fs.lookup (G6 f)=some n/\IniK X.K C fI ns/\f∈ns/\Qd (.int n) h1) I ⟨σd,h,_,rs,rh,t,λd v h1 H1 k r1 r2 q=>⟨d,h1,k,r1,r2,q⟩⟩) λu s1 ⟨v,H1,I1,rv,d,h1,kp,rh1,rd,C,fs,n,fI,ns,e,hl,ik,hf,q⟩=> ?_);subst e;obtain⟨x,o,vs,e1,hx,hc,hd,fh⟩:=(show ∃x o vs,v= .ref x/\H1 x=some (.frz o (.own 0))/\o.cls= .ref C/\o.data= .fields vs/\FldH H1 o.dict fs from rd);subst e1;obtain rfl:u=B0 x:=rv;obtain⟨m1,m2,W,nn⟩:=ik.two I1;rcases fh with z|⟨D,oD,e2,hD⟩
 ·rw [z] at hl;cases hl
 obtain⟨gD,mA,nD,rA⟩:=(show s1.heap.get? D=some oD/\ ∃mA,s1.heap.Ns1 D mA/\ ∀f,RelO ((fdV fs).lookup f) (mA f) from I1.hok D _ hD);have r:=rA (G6 f);rw [BY,hl] at r;obtain⟨u,eu,ru⟩:=RelO.some_of r;have hfm:f∈ "__setattr__" :: "__getattribute__" :: "__getattr__" ::ns:= .tail _ (.tail _ (.tail _ hf));refine W.get rO (nn "__getattribute__" (.tail _ (.head _))).1 (nn "__getattribute__" (.tail _ (.head _))).2 (nn "__getattr__" (.tail _ (.tail _ (.head _)))).1 (nn "__getattr__" (.tail _ (.tail _ (.head _)))).2 (nn f hfm).1 (nn f hfm).2 hB (I1.hok x _ hx).1 hc e2 ⟨vs,hd⟩ nD eu (λid z=> ?_) ?_
 ·obtain⟨t,e⟩:=(show ∃t,u=dX n t from ru);rw [e] at z;cases z
 ·exact⟨.int n,H1,I1.tok _,ru,p (.int n) _ _ _ kp rh1 rfl q⟩⟩
end
theorem MW:Zx (G6 "at"):=by unfold Zx;rw [cO,Y9];kernel_rfl
theorem WS:Zx (G6 "many"):=by unfold Zx;rw [cO,Y9];kernel_rfl
theorem WT:Zx (G6 "most"):=by unfold Zx;rw [cO,Y9];kernel_rfl
def VS (P:D5)(w:T5)(K:G3)(mg:Str->P0 G1)(base:M4)(n:G8)(c:Str)(ns:G0 B2):Prop:=
 ∃ (C fI:G5) (fd:R4) (ps:G0 Str) (k:G8),mg c=some (.ref C)/\IniK K C fI ns/\k+1<=n/\FnOk P w K mg base CX0 k fI fd ps (spI C ns)/\Binds K fd ps []
theorem OA {fs:G0 (Str×P2)}{a:Str}(h:fs.map (·.1)= [a]): ∃n,fs= [(a,n)]:=by
 match fs,h with
 | [(b,n)],h=>
  have e:b=a:=by injection h
  exact⟨n,by rw [e]⟩
theorem OB {fs:G0 (Str×P2)}{a b:Str}(h:fs.map (·.1)= [a,b]): ∃n m,fs= [(a,n),(b,m)]:=by
 match fs,h with
 | [(c,n),(d,m)],h=>
  injection h with h1 h2
  injection h2 with h2 _
  dsimp only at h1 h2;exact⟨n,m,by rw [h1,h2]⟩
theorem De {c:RN}(h:BV c=true):(c.nm∈CN/\c=⟨c.nm,[]⟩)\/(∃n,c=⟨"NoTables",[("at",n)]⟩)\/(∃n,c=⟨"NoText",[("at",n)]⟩)\/ ∃a b,c=⟨"TooGreat",[("many",a),("most",b)]⟩:=by
 have hm:=VQ h;obtain⟨nm,fs⟩:=c;unfold BV at h;simp only [S9,beq_iff_eq] at h;have h2:=h.2;dsimp only at hm h2 ⊢;have e0: ∀ {x:Str},fs.map (·.1)=(OW x).map G6->OW x= []->fs= []:=λe z=>by rw [z] at e;exact nG.mp e
 simp only [CN13,P9,N6,or_false] at hm;rcases hm with rfl|rfl|rfl|rfl|rfl|rfl|rfl|rfl|rfl|rfl|rfl|rfl|rfl
 all_goals first
  |(have z:=e0 h2 (by decide +kernel);subst z;exact .inl ⟨by decide,rfl⟩)
  |(obtain⟨n,e⟩:=OA (a:= "at") (by rw [h2];decide +kernel);subst e;first|exact .inr (.inl ⟨n,rfl⟩)|exact .inr (.inr (.inl ⟨n,rfl⟩)))
  |(obtain⟨n,m,e⟩:=OB (a:= "many") (b:= "most") (by rw [h2];decide +kernel);subst e;exact .inr (.inr (.inr ⟨n,m,rfl⟩)))
structure InitIn (K:Frag)(c q:Str)(st:C5)(C f:G5)(fd:R4)(ns:G0 B2):Prop where
 at_:nsIn K mainGlobals c=some (some (.ref C))
 ik:IniK K C f ns
 fn:Fun K "__init__" q st f fd
section
variable {K:Frag}{h base:M4}{mg:Str->P0 G1}{c q:Str}{st:C5}{C f:G5}{fd:R4}{P:D5}{w:T5}{n k:G8}{ps:G0 Str}{ns:G0 B2}
theorem OC {oc:G1}{od an:P0 G5}{osl:M1 (P0 G1)}{kV doc pm cdv ct:G1}(a:nsIn K mainGlobals c=some (some (.ref C)))(b:findIn K (.ref C) "__init__" =some (some (.ref f)))(l:K.lookup f=some ⟨oc,od,.func (fnOf "__init__" q (wA st) (jJ st) (jb st) .none kV doc pm an cdv ct),osl⟩)
 (cc:codeIn K cdv q=true)(k:keepIn K (.ref f)=true)(kc:keepIn K (.ref C)=true)(i:Xm K C f bmV "ValueError.__new__" ns=true):InitIn K c q st C f (fnOf "__init__" q (wA st) (jJ st) (jb st) .none kV doc pm an cdv ct) ns:=⟨a,⟨i,kc⟩,Cj l cc k⟩
theorem InitIn.cal (d:InitIn K c q st C f fd ns)(l:OpenLaw)(w:T5)(base:M4)(X:K.In h)(G:h.Ns mainGlobals mg)(ok:FnOk l.prog w K mg base CX0 1 f fd ps (spI C ns))(b: ∀ (kV doc pm:G1) (an:P0 G5) (cdv ct:G1) (us:G0 G1),us.length=ps.length->oW (fnOf "__init__" q (wA st) (jJ st) (jb st) .none kV doc pm an cdv ct) ⟨us,[]⟩=pure (ps.zip us))(m:G8):VS l.prog w K mg base (m+2) c ns:=
 ⟨C,f,fd,ps,1,mg_of X G d.at_,d.ik,by omega,ok,d.fn.binds b⟩
end
section
variable {X:Cx}{e:S6}{es:G0 S6}{rest:G0 C5}{ta:TAD}{np cpos pos:Pos}{n:G8}{x:Str}{ns:G0 B2}
theorem uC (I:VS X.prog X.w X.K X.mg X.base n x ns)(hr:Room n X.A)(ha:JA X (e::es) ta)(hz:ns.length<=100:=by decide)(hcalm:X.calm=true:=by rfl)(hg:Gl X x:=by rfl)(hdb:(x==("__debug__" :Str))=false:=by decide)
 (he:P5 (e::es) X.env=(false,C8 e X.env)::P5 es X.env:=by rfl)(hpl:(F7 cpos (P5 es X.env)).any (·.1)=false:=by rfl):
 JX X (.Raise (some (.Call (.Name x np) (e::es) [] cpos)) none pos::rest) (KR x ns ta):=by
 obtain⟨C,fI,fd,ps,k,hm,I0,hk,F,hb⟩:=I;exact MU (f:=fI) hg hm I0 hz F hb (hr.mono hk) hcalm ha hdb he hpl
end
end L2
namespace HT
open PySem PyProof.Rows PySem.W
section
variable {prog:D5}{w:T5}{A:R6}{E:G1->G2->Prop}{s:G2}
theorem BZ {a:G5}{v u:G1}{n:G8}{κ:SortKind}{P:cY->G2->Prop}(ho:s.heap.get? a=some (aJ "list" [v,u].toArray n))
 (hk: ∀h',CF s a h'-> ∀Q:SortKind->G2->Prop,Q κ {s with heap:=h'}->D1 (D3 prog w) A (keyKind' [v,u].toArray) Q E {s with heap:=h'})
 (hc: ∀h',CF s a h'-> ∀Q:N0->G2->Prop,Q false {s with heap:=h'}->D1 (D3 prog w) A (keyLt' κ u v) Q (λ_ _=>False) {s with heap:=h'})
 (q: ∀ (c tk:G8) (h':M4),CF s a h'->h'.get? a=some (aJ "list" [v,u].toArray c)->P (.done (.ret .none)) {s with heap:=h',toks:=tk}):
 D1 (D3 prog w) A (Builtin.«list.sort» ⟨[.ref a],[]⟩) P E s:=by
 have fits: [v,u].length<=sizeLine:=by show 2<=sizeLine;decide
 rw [rJ];refine wpAny_bind (u9 ho rfl ?_);obtain⟨c1,ho1⟩: ∃c,(s.heap.update a (E5 λ_=>(#[]:M1 G1))).get? a=some (aJ "list" #[] c):=⟨_,fL ho λ_=> #[]⟩;refine wpAny_bind (iR ho rfl ?_ fits (L0 _));refine wpAny_bind (mY ho1 rfl ?_);refine wpAny_bind (mT ?_ fits);refine wpAny_bind (eQ ?_ (L0 _));refine B5 ?_;have past:CF s a (((s.heap.update a (E5 λ_=>(#[]:M1 G1))).push {cls:= .type "tuple",data:= .seq [v,u].toArray.toList.toArray}).push {cls:= .type "list",data:= .seq ([]:G0 G1).toArray}):=λb x ne e=>by
  refine G4 _ (G4 _ ?_);rw [X1 _ _ _ _ ne];exact e
 have ho3:=G4 ({cls:= .type "list",data:= .seq ([]:G0 G1).toArray}:Obj) (G4 ({cls:= .type "tuple",data:= .seq [v,u].toArray.toList.toArray}:Obj) ho1);revert past ho3;generalize ((s.heap.update a (E5 λ_=>(#[]:M1 G1))).push ({cls:= .type "tuple",data:= .seq [v,u].toArray.toList.toArray}:Obj)).push ({cls:= .type "list",data:= .seq ([]:G0 G1).toArray}:Obj)=H3;intro past ho3;dsimp only;have sz: ¬ [v,u].toArray.size<2:=by show ¬2<2;decide
 refine Gt (wpAny_bind ?_);rw [R3 sz];refine hk H3 past _ ?_;rw [R3 sz];have ask:(kas_sort 2).kasWp (kas_cmp prog w A κ (nE [v,u])) (λp s'=>p= #[0,1]/\s'= {s with heap:=H3}) {s with heap:=H3}:=by
  show kas_cmp prog w A κ (nE [v,u]) 1 0 _ _;unfold kas_cmp;rw [kas_item_eq,kas_item_eq];exact hc H3 past _ ⟨rfl,rfl⟩
 have run:=kas_runs (E:=E) (Q:=λ_ st' s'=>(arrOf st').map (·.2)= [v,u].toArray/\failedOf st'=none/\s'= {s with heap:=H3}) (P1 2) (by decide) (λp' st' s' _ a2 a3 ⟨a4,a5⟩=>⟨by
  rw [a2,a4,Array.map_map];apply qG.mp;rw [i9];refine(B3 λi _=>show (kas_item (nE [v,u]) i).2= [v,u].getD i bI by rw [kas_item_eq]).trans ?_;rfl,a3,a5⟩) ask
 have est:SortSt.mk' κ ([v,u].toArray.zip [v,u].toArray) #[] 7 none=kas_st κ (nE [v,u]) (v6 (P7 2)):=by
  show SortSt.mk' κ (nE [v,u]) #[] 7 none=SortSt.mk' κ ((v6 (P7 2)).map (kas_item (nE [v,u]))) #[] 7 none;have e:=kas_range (nE [v,u]);rw [pairsOf_size] at e;rw [show P7 2=P7 [v,u].length from rfl,e]
 rw [<-est] at run;refine wpAny_bind (R7 run ?_ λ_ _ e=>e);rintro ⟨⟨⟩,st'⟩ _ ⟨eo,hf,rfl⟩;dsimp only;dsimp only at eo;rw [eo];obtain⟨c2,ho4⟩: ∃c,(H3.update a (E5 λ_=> [v,u].toArray)).get? a=some (aJ "list" [v,u].toArray c):=⟨_,fL ho3 λ_=> [v,u].toArray⟩;refine wpAny_bind (mY (s:= {s with heap:=H3}) ho3 rfl ?_);refine wpAny_bind (iR (s:= {s with heap:=H3}) ho3 rfl ?_ (L0 _) (by show 2<=sizeLine+1;decide));rw [hf];simp only [iH,N9,gC];refine G7 (q c2 s.toks _ (λb x ne e=> ?_) ho4);rw [X1 _ _ _ _ ne];exact past b x ne e
end
end HT
namespace L2
open PySem PySem.Spec PyProof.Rows PySem.SeqAt HT
theorem GM {α:Type}{x y z:α}(h:z∈ [x,y]):z=x\/z=y:=by simpa using h
section
variable {X:Cx}
theorem VT {k:G8}(hc:X.calm=true)(hr:Room k X.A):CallR X (.builtin "sorted") (λxs H Q=> ∃ (p a:G5) (k1 x1 k2 x2:P2),xs= [.ref p]/\H p=some (.frz (WQ a) (.own 0))/\H a=some (.dK (kvV [(k1,V.int x1),(k2,V.int x2)]))/\k1<k2/\
 ∀ (q b c:G5),b≠c->H b=none->H c=none->PZ H [(b,HO.tup [V.int k1,V.int x1]),(c,HO.tup [V.int k2,V.int x2])] q=none->Q (.ref q) (upd (PZ H [(b,HO.tup [V.int k1,V.int x1]),(c,HO.tup [V.int k2,V.int x2])]) q (.lst [.ref b,.ref c]))):=by
 intro pins s σ H xs us Q I r h;obtain⟨p,a,k1,x1,k2,x2,rfl,hp,ha,lt,q⟩:=h;obtain⟨u,rfl,ru⟩:=vD r;cases ru;obtain⟨z,hd,vs,rel,o,es,ep,ho,r1⟩:=Ny I.hok ha;have dd:s.heap.DictAt (jQ X.prog X.w) a vs ep:=⟨o,es,ho,r1⟩;have hl:vs.length=2:=rel.length.symm;have hv:s.heap.IsItemsView p a:=⟨_,(I.hok p _ hp).1,rfl,rfl⟩;refine b7 qP o7 o8 (o9 _) (wpAny_bind (G7 (wpAny_bind (y6 (I.ok.hd hc) hv dd (by rw [hl];decide) λh1 tk as kept len G=> ?_))));have la:as.length=2:=len.trans hl;have tup: ∀ (j:G8) (b:G5) (kx:P2×P2),as[j]? =some b-> [(k1,x1),(k2,x2)][j]? =some kx-> ∃t u,h1.get? b=some {cls:= .type "tuple",data:= .seq #[.int kx.1 t,.int kx.2 u]}:=λj b kx e1 e2=>by
  obtain⟨key,kk,x,e3,e4,e5⟩:=G.pairs j b e1;have e6:(kvV [(k1,V.int x1),(k2,V.int x2)])[j]? =some ((K0 kx.1:Key),V.int kx.2):=by
   match j,e2 with
   |0,e2=>cases e2;rfl
   |1,e2=>cases e2;rfl
  obtain⟨g1,g2⟩:=Va rel e6 e3;have g1:(K0 kx.1:Key)=kk:=g1;subst g1;obtain⟨t,rfl⟩:=SE e4;obtain⟨u,rfl⟩:=(show ∃u,x= .int kx.2 u from g2);exact⟨t,u,e5⟩
 match as,la with
 | [b,c],_=>
 obtain⟨t1,u1,e1⟩:=tup 0 b (k1,x1) rfl rfl;obtain⟨t2,u2,e2⟩:=tup 1 c (k2,x2) rfl rfl;have fresh:(h1.push (aJ "list" [B0 b,.ref c].toArray 0)).get? h1.objs.size=some (aJ "list" [B0 b,.ref c].toArray 0):=S4 _ rfl;have kp: ∀h',CF {s with heap:=h1.push (aJ "list" [B0 b,.ref c].toArray 0),toks:=tk} h1.objs.size h'->UZ h1 h':=λh' p b x e=>p b x (R5 (D0 e)) (G4 _ e)
 refine wpAny_bind (eQ (wpAny_bind (B5 (F4 mM ⟨_,fresh,rfl⟩ lS (BZ (s:= {s with heap:=h1.push (aJ "list" [B0 b,.ref c].toArray 0),toks:=tk}) (κ:=tuples' true) fresh
  (λh' p Q q=>PySem.W.kat_kind (T:= .type "int") (PySem.W.KatTups.cons (kp h' p _ _ e1) rfl rfl rfl (PySem.W.KatTups.cons (kp h' p _ _ e2) rfl rfl rfl .nil)) (by show 0<2;decide) (λv hv=> ?_) rfl q)
  (λh' p Q q=>G0n (kp h' p _ _ e2) rfl (kp h' p _ _ e1) rfl (IZ ?_)) λcc tk' h' p' e3=>⟨_,rfl,?_⟩) (mO _)))) (by show 2<=sizeLine;decide))
 ·rcases P9.mp hv with e|hv
  ·subst e;exact .now
  ·rw [P4.mp hv];exact .now
 ·obtain⟨e,he,hiff⟩:=Nq X.A.in1.in1 _ k2 t2 k1 t1;refine he X.prog X.w _ _ (G0o (λz=>absurd (hiff.mp z) (by omega)) λ_=>G0p (oneLt_int ?_));rw [T3 (by omega)];exact q
 refine G7 ⟨_,rfl,?_⟩;have k2':=kp h' p';have nbc:b≠c:=R5 (by have:=G.rise;simpa using this);have nb:b≠h1.objs.size:=R5 (D0 e1);have nc:c≠h1.objs.size:=R5 (D0 e2);have big: ∀p∈ [(b,HO.tup [V.int k1,V.int x1]),(c,HO.tup [V.int k2,V.int x2])]++ [(h1.objs.size,HO.lst [V.ref b,V.ref c])],s.heap.get? p.1=none:=λp hp=>by
  cases e:s.heap.get? p.1 with
  |none=>rfl
  |some u=>
   rcases T4.mp hp with w|w
   ·exact absurd (G.above p.1 (by rcases GM w with w|w<;>subst w<;>simp)) (U0.mpr (M5 (D0 e)))
   ·rw [P4.mp w] at e;exact absurd (D0 (kept _ _ e)) (N8 _)
 have I2:=I.laidM (t':=tk') (h':=h') (ps:= [(b,HO.tup [V.int k1,V.int x1]),(c,HO.tup [V.int k2,V.int x2])]++ [(h1.objs.size,HO.lst [V.ref b,V.ref c])]) (λb u e=>k2' b u (kept b u e)) (by simp [nbc,nb,nc]) big (λp hp=>by
  rcases T4.mp hp with w|w
  ·rcases GM w with w|w<;>subst w
   ·exact⟨by show 2<=sizeLine;decide,_,.cons ⟨t1,rfl⟩ (.cons ⟨u1,rfl⟩ .nil),_,k2' _ _ e1,rfl,rfl,0,rfl⟩
   ·exact⟨by show 2<=sizeLine;decide,_,.cons ⟨t2,rfl⟩ (.cons ⟨u2,rfl⟩ .nil),_,k2' _ _ e2,rfl,rfl,0,rfl⟩
  ·rw [P4.mp w];exact⟨by show 2<=sizeLine;decide,_,cc,.cons rfl (.cons rfl .nil),e3⟩)
 rw [GK] at I2;have none_: ∀y,s.heap.get? y=none->H y=none:=λy e=>I.hok.bare e
 refine⟨.ref h1.objs.size,_,I2,rfl,q _ b c nbc (none_ _ (big _ (T6 _ P3))) (none_ _ (big (c,_) (T6 _ (D7 _ P3)))) ?_⟩;rw [vB (by simp [nb.symm,nc.symm])];exact none_ _ (big _ (P6 _ (P4.mpr rfl)))
def uD (td:TED):TED:=λσ h Q=>td σ h λx h1=> ∃ (a:G5) (k1 x1 k2 x2:P2),x= .dct a/\h1.dc a=some (.ik [(k1,D.int x1),(k2,D.int x2)])/\k1<k2/\ ∀ (p:G5),h1 p=none->Q (.lst p) (wc h1 p [tI [k1,x1],tI [k2,x2]])
theorem uE {k : G8} {o : S6} {td : TED} {p apos cpos pos : Pos} (hr : Room k X.A) (hc : X.calm = true) (hg : Gl X "sorted") (hm : X.mg "sorted" = none) (ho : JE X o td) (hbase : K6 o "items" X.env (C8 o X.env) = C8 o X.env := by rfl) (hline : (apos.endLine == cpos.line) = true := by rfl)
    (h1 : P5 [.Call (.Attribute o "items" apos) [] [] cpos] X.env = (false, C8 (.Call (.Attribute o "items" apos) [] [] cpos) X.env) :: P5 [] X.env := by rfl) (h2 : (F7 pos (P5 [] X.env)).any (·.1) = false := by rfl) :
    JE X (.Call (.Name "sorted" p) [.Call (.Attribute o "items" apos) [] [] cpos] [] pos) (uD td) :=
  ⟨(vt (VT hc hr) hg hm (by decide +kernel) (zS (AG iY j0 uR BQ ho.to hbase hline) pa_nil h1) (by decide) (by decide) h1 h2).imp
    fun σ H Q ⟨σd, h, Qd, rs, rh, t, post⟩ => LE.bind rs rh t fun d v h1 H1 k1 rs1 rh1 r1 ⟨a, n1, y1, n2, y2, e, hd, lt, q⟩ => by
      subst e
      cases (show v = .ref a from r1)
      obtain ⟨kvs, hH, ek, rv⟩ := (show ∃ kvs : G0 (P2 × V), _ from rh1.dc a _ hd)
      obtain ⟨v1, tl, z, g1, w1, tl2, z2, g2, g3⟩ := rv
      match kvs, ek, z, z2 with
      | [(m1, u1), (m2, u2)], ek, z, z2 =>
      cases ek
      cases z
      cases z2
      cases (show u1 = V.int y1 from g1)
      cases (show u2 = V.int y2 from g2)
      refine ⟨.inr (.inr (.inl ⟨rfl, .inl ⟨_, hH⟩⟩)), a, _, rfl, rfl, hH, fun c hcn => ?_⟩
      have rh2 := rh1.new (o := .frz (WQ a) (.own 0)) hcn
      refine ⟨c, a, n1, y1, n2, y2, rfl, je, by rw [jd (jf hH hcn)]; exact hH, lt, fun l b c2 nbc fb fc hl => ?_⟩
      have nd : (([(b, HO.tup [V.int n1, V.int y1]), (c2, HO.tup [V.int n2, V.int y2])] : G0 (G5 × HO)).map (·.1)).Nodup := by simp [nbc]
      have fr : ∀ x ∈ ([(b, HO.tup [V.int n1, V.int y1]), (c2, HO.tup [V.int n2, V.int y2])] : G0 (G5 × HO)), upd H1 c (.frz (WQ a) (.own 0)) x.1 = none := fun x hx => by
        rcases GM hx with w | w <;> subst w <;> assumption
      have rh3 := rh2.newM nd fr
      exact post (.lst l) (.ref l) _ _ (k1.trans ((Kept.new hcn).trans ((HL fr).trans (.new hl)))) (rh3.newL hl (Mi (ps := [(.ref b, [n1, y1]), (.ref c2, [n2, y2])]) fun x hx => by
        rcases GM hx with w | w <;> subst w
        · exact ⟨b, rfl, VN nd (b, _) P3⟩
        · exact ⟨c2, rfl, VN nd (c2, _) (D7 _ P3)⟩)) ⟨rfl, _, je⟩ (q l (rh3.free hl))⟩
end
end L2
namespace My
open PySem L2
def top (i:G8):C5:=PySem.Challenge.pw_firstpowers_k63_sizes_refused.main.body.getD i (.Pass ⟨0,0,0,0⟩)
abbrev vd:C5:=Fz (top 14) 0
theorem ZX:FnScope ["self","many","most"] ["self","many","most"] (jb vd):=⟨rfl,rfl,rfl,by decide +kernel,rfl,by decide +kernel,by decide +kernel⟩
abbrev Zz:C5:=top 17
theorem QD:FnScope ["thing"] ["thing"] (jb Zz):=fsc
abbrev Jc:C5:=top 18
theorem Xn:FnScope ["thing","least","most"] ["thing","least","most"] (jb Jc):=fsc
abbrev ZA:C5:=top 19
theorem QF:FnScope ["thing","size"] ["thing","size"] (jb ZA):=fsc
abbrev vf:C5:=top 20
theorem JJ:FnScope ["thing","size","each"] ["thing","size"] (jb vf):=fsc
abbrev ZB:C5:=top 21
theorem QH:FnScope ["thing","size"] ["thing","size"] (jb ZB):=fsc
abbrev yg:C5:=top 22
theorem vg:FnScope ["thing","size","number"] ["thing","size"] (jb yg):=fsc
abbrev wf:C5:=top 23
theorem yo:FnScope ["thing","row"] ["thing"] (jb wf):=fsc
abbrev wT:C5:=top 24
theorem JK:FnScope ["thing"] ["thing"] (jb wT):=fsc
abbrev vh:C5:=top 25
theorem VU:FnScope ["table","thing"] ["table","thing"] (jb vh):=fsc
abbrev wu:C5:=top 26
theorem vL:FnScope ["thing","least","most"] ["thing","least","most"] (jb wu):=fsc
abbrev vj:C5:=top 28
theorem zH:FnScope ["one","other","size","row","place","by"] ["one","other"] (jb vj):=fsc
abbrev MX:C5:=top 30
theorem Nf:FnScope ["table","row","number"] ["table"] (jb MX):=fsc
abbrev QJ:C5:=top 31
theorem VW:FnScope ["table","row","number"] ["table"] (jb QJ):=fsc
abbrev WU:C5:=top 33
theorem yp:FnScope ["table","order","olds","name","one","other"] ["table","order"] (jb WU):=fsc
abbrev yI:C5:=top 35
theorem Yz:FnScope ["ahead","table"] ["ahead","table"] (jb yI):=fsc
abbrev zI:C5:=top 36
theorem zx:FnScope ["table","told","later"] ["table"] (jb zI):=fsc
abbrev Jd:C5:=top 37
theorem Xo:FnScope ["table"] ["table"] (jb Jd):=fsc
abbrev yJ:C5:=top 39
theorem vO:FnScope ["table","at","each"] ["table"] (jb yJ):=fsc
abbrev zJ:C5:=top 40
theorem Je:FnScope ["table"] ["table"] (jb zJ):=fsc
abbrev wU:C5:=top 42
theorem zl:FnScope ["size","rows","last","one","other"] ["size"] (jb wU):=fsc
abbrev zK:C5:=top 43
theorem yN:FnScope ["size"] ["size"] (jb zK):=fsc
abbrev Jf:C5:=top 44
theorem ZO:FnScope ["table","size","bounds","to_themselves","place"] ["table"] (jb Jf):=fsc
abbrev ZC:C5:=top 48
theorem yL:FnScope ["things","many","told","step","row","thing"] ["things","many"] (jb ZC):=fsc
abbrev zT:C5:=top 49
theorem JL:FnScope ["size"] ["size"] (jb zT):=fsc
abbrev vk:C5:=top 50
theorem wx:FnScope ["size","told","step","order","place"] ["size"] (jb vk):=fsc
abbrev vC:C5:=top 51
theorem zU:FnScope ["size","counts","table","k","told"] ["size"] (jb vC):=fsc
abbrev wv:C5:=top 52
theorem zX:FnScope ["table","marked","order"] ["table"] (jb wv):=fsc
abbrev zt:C5:=top 53
theorem zm:FnScope ["size","slowest","table"] ["size"] (jb zt):=fsc
abbrev Jg:C5:=top 55
theorem Xp:FnScope ["_law_script","_law_k"] ["_law_script","_law_k"] (jb Jg):=fsc
abbrev ZD:C5:=top 56
theorem WV:FnScope ["_law_cell_here","_law_left"] ["_law_cell_here"] (jb ZD):=fsc
abbrev Jh:C5:=top 57
theorem yb:FnScope ["_law_pen_here","_law_many","_law_left","_law_found","_law_stir"] ["_law_pen_here","_law_many"] (jb Jh):=fsc
abbrev wV:C5:=top 58
theorem JM:FnScope ["_law_thing"] ["_law_thing"] (jb wV):=fsc
abbrev Ji:C5:=top 59
theorem zC:FnScope ["_law_e","_law_seen","_law_words_here"] ["_law_e"] (jb Ji):=fsc
abbrev Jj:C5:=top 60
theorem ZU:FnScope ["_law_call","_law_found","_law_e","_law_word"] ["_law_call"] (jb Jj):=fsc
abbrev ZE:C5:=top 61
theorem WW:FnScope ["_law_pen_here","_law_some"] ["_law_pen_here"] (jb ZE):=fsc
abbrev Jk:C5:=top 62
theorem Xq:FnScope ["_law_pen_here"] ["_law_pen_here"] (jb Jk):=fsc
abbrev vn:C5:=top 63
theorem jB:FnScope ["_law_pen_here","_law_size_here","_law_way","_law_often","_law_most","_law_rows","_law_one","_law_row","_law_other","_law_goes"] ["_law_pen_here","_law_size_here"] (jb vn):=fsc
abbrev wJ:C5:=top 64
theorem wg:FnScope ["_law_thing","_law_row","_law_number"] ["_law_thing"] (jb wJ):=fsc
abbrev zV:C5:=top 65
theorem jw:FnScope ["_law_pen_here","_law_table_here","_law_size_here","_law_at","_law_to","_law_off","_law_row","_law_rows","_law_here","_law_things"] ["_law_pen_here","_law_table_here"] (jb zV):=fsc
abbrev wK:C5:=top 66
theorem yO:FnScope ["_law_pen_here","_law_some"] ["_law_pen_here"] (jb wK):=fsc
abbrev zh:C5:=top 67
theorem JN:FnScope ["_law_size_here","_law_found"] ["_law_size_here"] (jb zh):=fsc
abbrev WY:C5:=top 68
theorem WZ:FnScope ["_law_script","_law_none","_law_cell_here","_law_pen_here","_law_table_here","_law_bad","_law_wide"] ["_law_script"] (jb WY):=fsc
section
variable {P:D5}{w:T5}{K:G3}{mg:Str->P0 G1}{base:M4}
/-- no def is asked of the script's list: a thing -/
def GN:D->N0
 | .int _=>true
 |_=>false
/-- a row of so many numbers from 0 on -/
def Ca:D->N0
 | .int i=>decide (0<=i)
 |_=>false
def QK (d:D)(k:P2):N0:=match d with
 | .tup ds=>decide ((ds.length:P2)=k)&&ds.all Ca
 |_=>false
/-! every part has a kind that is told,and no tuple is long -/
mutual
def okD:D->N0
 | .scr _=>false| .exc _=>false| .fn _=>false| .dct _=>false| .exf _ _=>false
 | .tup ds=>decide (ds.length<=1000)&&okDs ds
 |_=>true
def okDs:G0 D->N0
 | []=>true
 |d::ds=>okD d&&okDs ds
end
theorem JP: ∀ {ds:G0 D},okDs ds=true-> ∀d∈ds,okD d=true
 |d::ds,h,x,hx=>by
  have h':(okD d&&okDs ds)=true:=h;rw [S9] at h';rcases P9.mp hx with e|e
  ·subst e;exact h'.1
  ·exact JP h'.2 x e
theorem MY: ∀ {ds:G0 D},(∀d∈ds,okD d=true)->okDs ds=true
 | [],_=>rfl
 |d::ds,h=>by
  show (okD d&&okDs ds)=true;rw [h d P3,MY λx hx=>h x (D7 _ hx)];rfl
theorem Ya {ds:G0 D}(h:okD (.tup ds)=true):ds.length<=1000/\ ∀d∈ds,okD d=true:=by
 have h':(decide (ds.length<=1000)&&okDs ds)=true:=h;rw [S9] at h';exact⟨U2 h'.1,JP h'.2⟩
theorem Xr {ds:G0 D}(h:ds.length<=1000)(h2: ∀d∈ds,okD d=true):okD (.tup ds)=true:=by
 show (decide (ds.length<=1000)&&okDs ds)=true;rw [S1 h,MY h2];rfl
theorem wW {d:D}(h:okD d=true): ∃n,UF d=some n:=by
 cases d<;>first|exact⟨_,rfl⟩|cases h
/-- a table -/
def Xs:D->N0
 | .tup rs=>decide (1<=rs.length)&&decide (rs.length<=6)&&rs.all λr=>QK r rs.length
 |_=>false
def jW:RDn:=λds h Q=> ∃d n,ds= [d]/\UF d=some n/\Q (.bl (GN d)) h
variable {n:G8}{f:G5}{fd:R4}
theorem QL (Z:Zs mg)(F:Fun K "is_whole" "is_whole" Zz f fd):FnOk P w K mg base CX0 (n+1) f fd ["thing"] (LSp K jW):=by
 refine F.okM QD (λhr=>(jL (zO (RB (WD (T:= "int") (by decide) rfl Z.isinstance rfl Z.int (by decide +kernel) (jv 0)) (Pp (Hr (WD (T:= "bool") (by decide) rfl Z.isinstance rfl Z.bool (by decide +kernel) (jv 0)))))))) ?_;rintro ds h Q ⟨d,nm,rfl,hn,q⟩;refine⟨rfl,?_⟩;simp only [Vo,Pf,dIs,Wg,jR,T2,E9,D4,M7,C9,F0,M0,B4,D.bl.injEq,Pg,Wy,C6,hn];cases d<;>cases hn<;>exact⟨h,Sub.refl h,q⟩
def wX:RDn:=λds h Q=> ∃d,∃a b:P2,ds= [d,.int a,.int b]/\okD d=true/\Q (.bl (zd d a b)) h
theorem Xt (Z:Zs mg)(F:Fun K "is_within" "is_within" Jc f fd)(ZI:jh P w K mg base n "is_whole" ["thing"] jW):FnOk P w K mg base CX0 (n+1) f fd ["thing","least","most"] (LSp K wX):=by
 refine F.okM Xn (λhr=>(jL (zO (RB (jk ZI hr (j1 (jv 0))) (Pp (EM Pi Pi (jv 1) (jv 0) (jv 2))))))) ?_;rintro ds h Q ⟨d,a,b,rfl,ok,q⟩;refine⟨rfl,?_⟩;obtain⟨nm,hn⟩:=wW ok;refine⟨_,rfl,d,nm,rfl,hn,GN d,rfl,?_⟩;cases d with
 |int x=>
  refine Vj ⟨_,rfl,_,rfl,_,rfl,?_⟩;show if decide (a<=x)=true then _ else _
  by_cases h1:a<=x
  ·rw [S1 h1];simp only [zd,S1 h1,eY] at q;exact Vj ⟨_,rfl,h,Sub.refl h,q⟩
  ·rw [T3 h1];simp only [zd,T3 h1,mG] at q;exact vv ⟨h,Sub.refl h,q⟩
 |_=>exact vv ⟨h,Sub.refl h,q⟩
def Yb:RDn:=λds h Q=> ∃d,∃n:P2,ds= [d,.int n]/\okD d=true/\Q (.bl (zd d 0 (n-1))) h
theorem QM (Z:Zs mg)(F:Fun K "is_place" "is_place" ZA f fd)(wN:jh P w K mg base n "is_within" ["thing","least","most"] wX):FnOk P w K mg base CX0 (n+1) f fd ["thing","size"] (LSp K Yb):=by
 refine F.okM QF (λhr=>(jL (zO (jk wN hr (j3 (jv 0) jj (jop YQ (jv 1) jj)))))) ?_;rintro ds h Q ⟨d,k,rfl,ok,q⟩;refine⟨rfl,?_⟩;exact⟨_,rfl,_,rfl,d,0,k-1,rfl,ok,h,Sub.refl h,q⟩
def JQ:RDn:=λds h Q=> ∃d,∃n:P2,ds= [d,.int n]/\okD d=true/\Q (.bl (VA d n)) h
theorem VX (Z:Zs mg)(F:Fun K "are_places" "are_places" vf f fd)(Dl:jh P w K mg base n "is_place" ["thing","size"] Yb):FnOk P w K mg base CX0 (n+1) f fd ["thing","size"] (LSp K JQ):=by
 refine F.okM JJ (λhr=>(jL (zO (RB (WD (T:= "tuple") (by decide) rfl Z.isinstance rfl Z.tuple (by decide +kernel) (jv 0)) (Pp (yX (UG rfl) rfl Z.all Z1 (j1 (jl0 2 JJ (zR (jv 0)) (λ_ _ _ _=>(jk Dl hr (j2 (jv 2) (jv 1)))))))))))) ?_;rintro ds h Q ⟨d,k,rfl,ok,q⟩;refine⟨rfl,?_⟩;obtain⟨nm,hn⟩:=wW ok;refine⟨_,rfl,nm,hn,?_⟩;cases d with
 |tup es=>
  cases hn;obtain⟨hl,ht⟩:=Ya ok;refine⟨_,rfl,Vj ?_⟩;exact ui es (λx=>x) (λx=>zd x 0 (k-1)) hl (by rw [List.map_id']) (λR r=>⟨_,rfl,r⟩) (λx hx Q' q'=>⟨_,rfl,_,rfl,x,k,rfl,ht x hx,q'⟩) ⟨h,Sub.refl h,q⟩
 |_=>cases hn<;>exact⟨_,rfl,vv ⟨h,Sub.refl h,q⟩⟩
theorem Vb: ∀ {a b:G0 C4},B7 a b=true->a.length=b.length
 | [],[],_=>rfl
 | [],_::_,h=>by simp [B7] at h
 |_::_,[],h=>by simp [B7] at h
 |x::a,y::b,h=>by
  have h2:(M9 x y&&B7 a b)=true:=h;rw [D4,D4,Vb (Bool.and_eq_true_iff.mp h2).2]
def uF (n:G8)(d:D):Prop:=(okD d=true/\VA d (n:P2)=false)\/ ∃o:G0 G8,d=vW o/\(∀x∈o,x<n)/\o.length<=60/\o.length≠n
def Yc:RDn:=λds h Q=> ∃d,∃n:G8,ds= [d,.int (n:P2)]/\n<=6/\((∃o,d=vW o/\Ordr n o/\Q (.bl true) h)\/(uF n d/\Q (.bl false) h))
theorem QN (Z:Zs mg)(F:Fun K "is_order" "is_order" ZB f fd)(XC:jh P w K mg base n "are_places" ["thing","size"] JQ):FnOk P w K mg base CX0 (n+1) f fd ["thing","size"] (LSp K Yc):=by
 refine F.okM QH (λhr=>(jL (zO (RB (jk XC hr (j2 (jv 0) (jv 1))) (Pp (jc1 (UK hr.units) (yX Rx rfl Z.sorted (by decide +kernel) (j1 (jv 0))) (Hv rfl rfl Z.list rfl Z.range (j1 (jv 1))))))))) ?_;rintro ds h Q ⟨d,k,rfl,hk,q⟩;refine⟨rfl,?_⟩;rcases q with ⟨o,rfl,ho,q⟩|⟨⟨ok,bad⟩|⟨o,rfl,hlt,hle,hne⟩,q⟩
 ·have hlen:o.length=k:=ho.ord.len;have hle:o.length<=60:=by omega
  have hlt: ∀x∈o,x<k:=λx hx=>S5.mp (ho.mem_iff.mp hx)
  have okO:okD (vW o)=true:=Xr (by rw [G9];omega) λd hd=>by obtain⟨x,_,rfl⟩:=S2.mp hd;rfl
  have plO:VA (vW o) (k:P2)=true:=by
   show (o.map _).all _=true;rw [M8];intro x hx;obtain⟨i,hi,rfl⟩:=S2.mp hx;have:=hlt i hi;show (decide ((0:P2)<=(i:P2))&&decide ((i:P2)<=(k:P2)-1))=true;rw [S1 (show (0:P2)<=(i:P2) by omega),S1 (show (i:P2)<=(k:P2)-1 by omega)];rfl
  have hlc:(zP o).length<=60:=by unfold zP;rw [G9];exact hle
  refine⟨_,rfl,_,rfl,vW o,(k:P2),rfl,okO,?_⟩;rw [plO];refine⟨_,rfl,Vj ⟨_,rfl,zP o,W6 (by rw [Vy]),by omega,λp1 ns' e1 hp hpw=>⟨_,rfl,k,rfl,by omega,λp2 e2=> ?_⟩⟩⟩;have er:((P7 k).map λ(i:G8)=>D.int (i:P2))=(zP (P7 k)).map D.int:=by unfold zP;rw [N7];rfl
  refine⟨.list (ns'.map .int),.list ((zP (P7 k)).map .int),⟨p1,_,rfl,jc ja e2,wF _ _⟩,⟨p2,_,rfl,by rw [ja,er],wF _ _⟩,yC _,yC _,h,Sub.newAt (Sub.newAt (Sub.refl h) e1) e2,?_⟩;have ee:M9 (.list (ns'.map .int)) (.list ((zP (P7 k)).map .int))=true:=by
   have es:ns'=zP (P7 k):=List.Perm.eq_of_pairwise (le:=λ(x y:P2)=>x<=y) (λ_ _ _ _ a b=>Int.le_antisymm a b) hpw (UP k) (hp.trans (ho.map _));rw [es];exact WH _
  rw [ee];exact q
 ·refine⟨_,rfl,_,rfl,d,(k:P2),rfl,ok,?_⟩;rw [bad];exact⟨_,rfl,vv ⟨h,Sub.refl h,q⟩⟩
 ·skip
  have okO:okD (vW o)=true:=Xr (by rw [G9];omega) λd hd=>by obtain⟨x,_,rfl⟩:=S2.mp hd;rfl
  have plO:VA (vW o) (k:P2)=true:=by
   show (o.map _).all _=true;rw [M8];intro x hx;obtain⟨i,hi,rfl⟩:=S2.mp hx;have:=hlt i hi;show (decide ((0:P2)<=(i:P2))&&decide ((i:P2)<=(k:P2)-1))=true;rw [S1 (show (0:P2)<=(i:P2) by omega),S1 (show (i:P2)<=(k:P2)-1 by omega)];rfl
  have hlc:(zP o).length<=60:=by unfold zP;rw [G9];exact hle
  refine⟨_,rfl,_,rfl,vW o,(k:P2),rfl,okO,?_⟩;rw [plO];refine⟨_,rfl,Vj ⟨_,rfl,zP o,W6 (by rw [Vy]),by omega,λp1 ns' e1 hp hpw=>⟨_,rfl,k,rfl,by omega,λp2 e2=> ?_⟩⟩⟩;have er:((P7 k).map λ(i:G8)=>D.int (i:P2))=(zP (P7 k)).map D.int:=by unfold zP;rw [N7];rfl
  refine⟨.list (ns'.map .int),.list ((zP (P7 k)).map .int),⟨p1,_,rfl,jc ja e2,wF _ _⟩,⟨p2,_,rfl,by rw [ja,er],wF _ _⟩,yC _,yC _,h,Sub.newAt (Sub.newAt (Sub.refl h) e1) e2,?_⟩;have ee:M9 (.list (ns'.map .int)) (.list ((zP (P7 k)).map .int))=false:=by
   cases hb:M9 (.list (ns'.map .int)) (.list ((zP (P7 k)).map .int)) with
   |false=>rfl
   |true=>
    have:=Vb (show B7 (ns'.map .int) ((zP (P7 k)).map .int)=true from hb);rw [G9,G9,hp.length_eq] at this;unfold zP at this;rw [G9,G9,T1] at this;exact absurd this hne
  rw [ee];exact q
def vo:RDn:=λds h Q=> ∃d k,ds= [d,.int k]/\okD d=true/\Q (.bl (QK d k)) h
theorem Yd (Z:Zs mg)(F:Fun K "is_table_row" "is_table_row" yg f fd)(ZI:jh P w K mg base n "is_whole" ["thing"] jW):FnOk P w K mg base CX0 (n+1) f fd ["thing","size"] (LSp K vo):=by
 refine F.okM vg (λhr=>(js2 (WP (jpt (OU (Jw (vG (WD (T:= "tuple") (by decide) rfl Z.isinstance rfl Z.tuple (by decide +kernel) (jv 0)))) (OT (jt1 oq_ne (Xk Z (jv 0)) (jv 1))))) (zO jbl)) (zO (yX (UG rfl) rfl Z.all Z1 (j1 (jl0 2 vg (zR (jv 0)) (λ_ _ _ _=>(RB (jk ZI hr (j1 (jv 2))) (Pp (jc1 NH (jv 2) jj)))))))))) ?_;rintro ds h Q ⟨d,k,rfl,ok,q⟩;refine⟨rfl,?_⟩;obtain⟨nm,hn⟩:=wW ok;simp only [yR,Nh,FK,UC,yV,dIs,Wg,jR,T2,E9,D4,M7,S7,C9,F0,M0,B4,D.bl.injEq,Vo,dC,Wy,Ys,dCB,jP,vE,dOp,NI,B8,neD,C6,hn];cases d with
 |tup es=>
  cases hn;obtain⟨hl,ht⟩:=Ya ok;simp only [Le]
  by_cases hk:(es.length:P2)=k
  ·simp only [hk];simp;refine Qa (ds:=es) (h1:=h) (j:=λ_=>some es) (λx=> .bl (Ca x)) (M5 (jO hl)) rfl (λR r=>⟨.tup es,rfl,r⟩) (λd hd Q' q'=> ?_) (λp hp=> ?_)
   ·obtain⟨nn,hnn⟩:=wW (ht d hd);refine⟨d,rfl,d,nn,rfl,hnn,GN d,rfl,?_⟩;cases d with
    |int i=>exact Vj ⟨.int i,rfl,q'⟩
    |_=>exact vv q'
   ·refine⟨p,es.map Ca,rfl,by rw [ja];simp,h,?_,?_⟩
    ·rw [wC hp];exact Sub.refl h
    ·simpa [QK,hk,aO,dJ] using q
  ·simp [hk];exact⟨h,Sub.refl h,by simpa [QK,hk] using q⟩
 |_=>cases hn<;>exact⟨h,Sub.refl h,q⟩
def jT:RDn:=λds h Q=> ∃d,ds= [d]/\okD d=true/\Q (.bl (Xs d)) h
theorem ZF (Z:Zs mg)(F:Fun K "has_table_form" "has_table_form" wf f fd)(YH:jh P w K mg base n "is_table_row" ["thing","size"] vo)(jz: ∃tk,mg "MOST_ROWS" =some (.int 6 tk)):FnOk P w K mg base CX0 (n+1) f fd ["thing"] (LSp K jT):=by
 obtain⟨tk_MOST_ROWS,m_MOST_ROWS⟩:=jz;refine F.okM yo (λhr=>(js2 (WP (jpt (OU (Jw (vG (WD (T:= "tuple") (by decide) rfl Z.isinstance rfl Z.tuple (by decide +kernel) (jv 0)))) (OT (Jw (RA Pi Pi jj (Xk Z (jv 0)) (Zp rfl m_MOST_ROWS)))))) (zO jbl)) (zO (yX (UG rfl) rfl Z.all Z1 (j1 (jl0 1 yo (zR (jv 0)) (λ_ _ _ _=>(jk YH hr (j2 (jv 1) (Xk Z (jv 0))))))))))) ?_;rintro ds h Q ⟨d,rfl,ok,q⟩;refine⟨rfl,?_⟩;obtain⟨nm,hn⟩:=wW ok;simp only [yR,Nh,FK,UC,yV,dIs,Wg,jR,T2,E9,D4,M7,S7,C9,F0,M0,B4,D.bl.injEq,Vo,dC,Wy,Ys,dCB,jP,vE,ZL,NI,NG,C6,hn];cases d with
 |tup es=>
  cases hn;obtain⟨hl,ht⟩:=Ya ok;simp only [Le]
  by_cases h1:1<=es.length
  ·by_cases h6:es.length<=6
   ·have h1':(1:P2)<=es.length:=by omega
    have h6':(es.length:P2)<=6:=by omega
    simp [h1',h6'];refine Qa (ds:=es) (h1:=h) (j:=λ_=>some es) (λx=> .bl (QK x es.length)) (M5 (jO hl)) rfl (λR r=>⟨.tup es,rfl,r⟩) (λd hd Q' q'=> ?_) (λp hp=> ?_)
    ·exact⟨d,rfl,.tup es,rfl,d,es.length,rfl,ht d hd,q'⟩
    ·refine⟨p,es.map λx=>QK x es.length,rfl,by rw [ja];simp,h,?_,?_⟩
     ·rw [wC hp];exact Sub.refl h
     ·simpa [Xs,h1,h6,aO,dJ] using q
   ·have h1':(1:P2)<=es.length:=by omega
    have h6': ¬ (es.length:P2)<=6:=by omega
    simp [h1',h6'];exact⟨h,Sub.refl h,by simpa [Xs,h1,h6] using q⟩
  ·have h1': ¬ (1:P2)<=es.length:=by omega
   simp [h1'];exact⟨h,Sub.refl h,by simpa [Xs,h1] using q⟩
 |_=>cases hn<;>exact⟨h,Sub.refl h,q⟩
theorem OD {x:P2}(h:0<=x):Ca (.int x)=true:=S1 h
variable {T:G0 (G0 P2)}
theorem OE {e:G8}(h:Sq n e T){r:G0 P2}(hr:r∈T):QK (wE r) n=true:=by
 simp only [QK,wE,G9,h.row r hr,xX,eY,aO,M8,U8];intro x hx;exact OD (h.nn r hr x hx)
theorem OF {e:G8}(h:Sq n e T)(h1:1<=n)(h6:n<=6):Xs (jG T)=true:=by
 simp only [Xs,jG,G9,h.len,S1 h1,S1 h6,eY,aO,M8,U8];intro r hr;exact OE h hr
theorem SR {e:G8}(h:Sq n e T)(h6:n<=6):okD (jG T)=true:=
 Xr (by rw [G9,h.len];omega) λd hd=>by
  obtain⟨r,hr,rfl⟩:=S2.mp hd;exact Xr (by rw [G9,h.row r hr];omega) λd hd=>by obtain⟨x,_,rfl⟩:=S2.mp hd;rfl
def jX:RDn:=λds h Q=> ∃T,∃n e:G8,ds= [jG T]/\Sq n e T/\1<=n/\n<=6/\Q .non h
theorem VY (Z:Zs mg)(F:Fun K "want_table" "want_table" wT f fd)(wl:jh P w K mg base n "has_table_form" ["thing"] jT):FnOk P w K mg base CX0 (n+1) f fd ["thing"] (LSp K jX):=by
 refine F.okM JK (λhr=>(jL (WP (Jw (vG (jk wl hr (j1 (jv 0))))) Gk))) ?_;rintro ds h Q ⟨T,k,b,rfl,hT,h1,h6,q⟩;refine⟨rfl,?_⟩;refine⟨_,rfl,jG T,rfl,SR hT h6,_,rfl,?_⟩;rw [OF hT h1 h6];exact vv ⟨h,Sub.refl h,q⟩
def yh:RDx:=λds h R=> ∃d,ds= [d]/\okD d=true/\Xs d=false/\R "NoTable" h
theorem YA (Z:Zs mg)(Ex:ExcF K mg)(F:Fun K "want_table" "want_table" wT f fd)(wl:jh P w K mg base n "has_table_form" ["thing"] jT):FnOk P w K mg base (CXR P w) (n+1) f fd ["thing"] (Qm mg K yh):=by
 refine F.okMX JK (λhr=>(Bj (Jw (vG (jk wl hr (j1 (jv 0))))) (VC rfl (Ex.own "NoTable" (by decide)) rfl))) ?_;rintro ds h R ⟨d,rfl,ok,bad,q⟩;refine⟨rfl,?_⟩;refine⟨_,rfl,d,rfl,ok,_,rfl,?_⟩;rw [bad];exact⟨rfl,q⟩
def JR:RDn:=λds h Q=> ∃ (T:G0 (G0 P2)) (o:G0 G8) (n:G8),ds= [jG T,vW o]/\T.length=n/\Ordr n o/\n<=6/\Q .non h
theorem VZ (Z:Zs mg)(F:Fun K "want_order" "want_order" vh f fd)(Dj:jh P w K mg base n "is_order" ["thing","size"] Yc):FnOk P w K mg base CX0 (n+1) f fd ["table","thing"] (LSp K JR):=by
 refine F.okM VU (λhr=>(jL (WP (Jw (vG (jk Dj hr (j2 (jv 1) (Xk Z (jv 0)))))) Gk))) ?_;rintro ds h Q ⟨T,o,k,rfl,hT,ho,h6,q⟩;refine⟨rfl,?_⟩;refine⟨_,rfl,_,rfl,_,k,by rw [G9,hT],h6,.inl ⟨o,rfl,ho,_,rfl,?_⟩⟩;exact vv ⟨h,Sub.refl h,q⟩
def za:RDn:=λds h Q=> ∃k lo hi:P2,ds= [.int k,.int lo,.int hi]/\lo<=k/\k<=hi/\Q .non h
theorem YB (Z:Zs mg)(F:Fun K "want_number" "want_number" wu f fd)(wN:jh P w K mg base n "is_within" ["thing","least","most"] wX):FnOk P w K mg base CX0 (n+1) f fd ["thing","least","most"] (LSp K za):=by
 refine F.okM vL (λhr=>(jL (WP (Jw (vG (jk wN hr (j3 (jv 0) (jv 1) (jv 2))))) Gk))) ?_;rintro ds h Q ⟨k,lo,hi,rfl,h1,h2,q⟩;refine⟨rfl,?_⟩;refine⟨_,rfl,_,rfl,_,rfl,.int k,lo,hi,rfl,rfl,_,rfl,?_⟩;have e0:zd (.int k) lo hi=true:=by
  show (decide (lo<=k)&&decide (k<=hi))=true;rw [S1 h1,S1 h2];rfl
 rw [e0];exact vv ⟨h,Sub.refl h,q⟩
def zi:RDx:=λds h R=> ∃d,∃a b:P2,ds= [d,.int a,.int b]/\okD d=true/\zd d a b=false/\R "NoNumber" h
theorem Ye (Z:Zs mg)(Ex:ExcF K mg)(F:Fun K "want_number" "want_number" wu f fd)(wN:jh P w K mg base n "is_within" ["thing","least","most"] wX):FnOk P w K mg base (CXR P w) (n+1) f fd ["thing","least","most"] (Qm mg K zi):=by
 refine F.okMX vL (λhr=>(Bj (Jw (vG (jk wN hr (j3 (jv 0) (jv 1) (jv 2))))) (VC rfl (Ex.own "NoNumber" (by decide)) rfl))) ?_;rintro ds h R ⟨d,a,b,rfl,ok,bad,q⟩;refine⟨rfl,?_⟩;refine⟨_,rfl,_,rfl,_,rfl,d,a,b,rfl,ok,_,rfl,?_⟩;rw [bad];exact⟨rfl,q⟩
def JU:RDn:=λds h Q=> ∃T U,∃n e f:G8,ds= [jG T,jG U]/\Sq n e T/\Sq n f U/\e+f<=1000000/\n<=6/\Q (jG (Yt n T U)) h
theorem Ua (Z:Zs mg)(F:Fun K "multiplied" "multiplied" vj f fd):FnOk P w K mg base CX0 (n+1) f fd ["one","other"] (LSp K JU):=by
 refine F.okM zH (λhr=>(js2 (jse 2 zH (Xk Z (jv 0))) (zO (zp wb rfl Z.tuple (by decide +kernel) (j1 (jl0 3 zH (zR (jv 0)) (λ_ _ _ _=>(zp wb rfl Z.tuple (by decide +kernel) (j1 (jl0 4 zH (jrg Z (jv 2)) (λ_ _ _ _=>(yX (Ln rfl) rfl Z.sum (by decide +kernel) (j1 (jl0 5 zH (jrg Z (jv 2)) (λ_ _ _ _=>(jop Lr (ji1 (jv 3) (jv 5)) (ji1 (ji1 (jv 1) (jv 5)) (jv 4)))))))))))))))))) ?_;rintro ds h Q ⟨T,U,k,b,f,rfl,hT,hU,hb,h6,q⟩;refine⟨rfl,?_⟩;refine jg (λσ' h'=>σ'= [some (jG T),some (jG U),some (.int (k:P2)),none,none,none]/\h=h') (λC hC=>⟨_,rfl,hC _ _ ⟨by rw [G9,hT.len];rfl,rfl⟩⟩) ?_;rintro _ _ ⟨rfl,rfl⟩;refine Cw T wE (λr=> .tup ((P7 k).map λj=> .int (zf k λm=>r.getD m 0*ent U m j))) (by rw [hT.len];omega) rfl (λR r=>⟨_,rfl,r⟩) (λr hr Q' q'=> ?_) ⟨h,Sub.refl h,?_⟩
 ·refine Cw (P7 k) (λj=> .int (j:P2)) (λj=> .int (zf k λm=>r.getD m 0*ent U m j)) (by rw [T1];omega) rfl (λR rr=>⟨_,rfl,(k:P2),rfl,by omega,by omega,rr⟩) (λj hj Q'' q''=> ?_) q';refine uh (P7 k) (λm=> .int (m:P2)) (λm=>r.getD m 0*ent U m j) (by rw [T1];omega) rfl (λR rr=>⟨_,rfl,(k:P2),rfl,by omega,by omega,rr⟩) (λm hm Q3 q3=> ?_) q'';have hm':=S5.mp hm;have hj':=S5.mp hj;refine⟨_,rfl,_,rfl,_,Qh (hT.row r hr) hm',_,rfl,_,rfl,_,RI hU hm',_,rfl,_,Qh (hU.row _ (Sq.getRow hU hm')) hj',?_,q3⟩;refine NV (e:=b) (f:=f) ?_ (hU.ent_nn hm' hj') (by omega);have hm2:m<r.length:=by rw [hT.row r hr];exact hm'
  have e1:r.getD m 0=r[m]:=by rw [S3,P8 hm2];rfl
  rw [e1];exact⟨hT.nn r hr _ (A1 hm2),hT.bit r hr _ (A1 hm2)⟩
 ·rw [NZ hT];exact q
def MZ:RDn:=λds h Q=> ∃T,∃n e:G8,ds= [jG T]/\Sq n e T/\1<=n/\n<=6/\Q (.bl (RG T)) h
theorem OG (Z:Zs mg)(F:Fun K "full" "full" MX f fd)(jC:jh P w K mg base n "want_table" ["thing"] jX):FnOk P w K mg base CX0 (n+1) f fd ["table"] (LSp K MZ):=by
 refine F.okM Nf (λhr=>(js2 (yA (jk jC hr (j1 (jv 0)))) (zO (yX (UG rfl) rfl Z.all Z1 (j1 (ue (i:=1) (i':=2) (js:= [1,2]) rfl (wz (by rfl)) (zR (jv 0)) (by decide) (by decide) (by decide) Nf.nd rfl rfl (by first|exact W6 rfl|exact cA rfl) (by first|exact W6 rfl|exact cA rfl) (λX' hX=>vU) (λX' hX=>by obtain⟨C,s₀,H₀,ex,rfl⟩:=hX;exact(zR (jv 1))) (λX' hX=>vU) (λX' hX=>by obtain⟨C,s₀,H₀,ex,rfl⟩:=hX;exact(jc1 oq_ne (jv 2) jj)))))))) ?_;rintro ds h Q ⟨T,k,b,rfl,hT,h1,h6,q⟩;refine⟨rfl,?_⟩;refine wI [some (jG T),none,none] (λC hC=>⟨_,rfl,T,k,b,rfl,hT,h1,h6,hC⟩) ?_;refine uj T wE (λr=>r) D.int (λ_ x=>decide (x≠0)) (NY hT h6) rfl (λR r=>⟨_,rfl,r⟩) (λr hr R rr=>⟨_,rfl,rr⟩) (λr hr x hx Q' q'=>⟨_,rfl,?_⟩) ⟨h,Sub.refl h,q⟩;show Q' (.bl (!decide (x=0))) h;have e:(!decide (x=0))=decide (x≠0):=by simp
 rw [e];exact q'
def Wl:RDn:=λds h Q=> ∃T,∃n e:G8,ds= [jG T]/\Sq n e T/\1<=n/\n<=6/\Q (jG (jS n T)) h
theorem Cb (Z:Zs mg)(F:Fun K "marks" "marks" QJ f fd)(jC:jh P w K mg base n "want_table" ["thing"] jX):FnOk P w K mg base CX0 (n+1) f fd ["table"] (LSp K Wl):=by
 refine F.okM VW (λhr=>(js2 (yA (jk jC hr (j1 (jv 0)))) (zO (zp wb rfl Z.tuple (by decide +kernel) (j1 (jl0 1 VW (zR (jv 0)) (λ_ _ _ _=>(zp wb rfl Z.tuple (by decide +kernel) (j1 (jl0 2 VW (zR (jv 1)) (λ_ _ _ _=>(jif (jt1 oq_ne (jv 2) jj) jj jj)))))))))))) ?_;rintro ds h Q ⟨T,k,b,rfl,hT,h1,h6,q⟩;refine⟨rfl,?_⟩;refine wI [some (jG T),none,none] (λC hC=>⟨_,rfl,T,k,b,rfl,hT,h1,h6,hC⟩) ?_;refine Cw T wE (λr=> .tup (r.map λx=> .int (if x≠0 then 1 else 0))) (by rw [hT.len];omega) rfl (λR r=>⟨_,rfl,r⟩) (λr hr Q' q'=> ?_) ⟨h,Sub.refl h,?_⟩
 ·refine Cw r D.int (λx=> .int (if x≠0 then 1 else 0)) (by rw [hT.row r hr];omega) rfl (λR r=>⟨_,rfl,r⟩) (λx hx Q'' q''=>⟨_,rfl,_,rfl,?_⟩) q'
  by_cases z:x=0
  ·subst z;exact vv q''
  ·have e:(!decide (x=0))=true:=by simp [z]
   rw [e];rw [R1 z] at q'';exact Vj q''
 ·rw [Ls,<-Lt hT];exact q
def Vc:RDn:=λds h Q=> ∃T,∃n e:G8,∃o,ds= [jG T,vW o]/\Sq n e T/\Ordr n o/\1<=n/\n<=6/\Q (jG (NU n o T)) h
theorem Df (Z:Zs mg)(F:Fun K "renamed" "renamed" WU f fd)(jC:jh P w K mg base n "want_table" ["thing"] jX)(XE:jh P w K mg base n "want_order" ["table","thing"] JR):FnOk P w K mg base CX0 (n+1) f fd ["table","order"] (LSp K Vc):=by
 refine F.okM yp (λhr=>(js4 (yA (jk jC hr (j1 (jv 0)))) (yA (jk XE hr (j2 (jv 0) (jv 1)))) (jse 2 yp (jl0 3 yp (jrg Z (Xk Z (jv 0))) (λ_ _ _ _=>(uf (jv 1) (jv 3))))) (zO (zp wb rfl Z.tuple (by decide +kernel) (j1 (jl0 4 yp (zR (jv 2)) (λ_ _ _ _=>(zp wb rfl Z.tuple (by decide +kernel) (j1 (jl0 5 yp (zR (jv 2)) (λ_ _ _ _=>(ji1 (ji1 (jv 0) (jv 4)) (jv 5))))))))))))) ?_;rintro ds h Q ⟨T,k,b,o,rfl,hT,ho,h1,h6,q⟩;refine⟨rfl,?_⟩;refine wI [some (jG T),some (vW o),none,none,none,none] (λC hC=>⟨_,rfl,T,k,b,rfl,hT,h1,h6,hC⟩) ?_;refine wI [some (jG T),some (vW o),none,none,none,none] (λC hC=>⟨_,rfl,_,rfl,T,o,k,rfl,hT.len,ho,h6,hC⟩) ?_;have lt: ∀i,i∈P7 k->o.idxOf i<k:=λi hi=>ho.ord.lt (S5.mp hi)
 refine jg (λσ' h'=> ∃p,σ'= [some (jG T),some (vW o),some (.lst p),none,none,none]/\h p=none/\h'=wc h p ((P7 k).map λi=> .int ((o.idxOf i:G8):P2))) (λC hC=> ?_) ?_
 ·refine lcA (P7 k) (λj=> .int (j:P2)) (λi=> .int ((o.idxOf i:G8):P2)) (by rw [T1];omega) rfl (λR r=>⟨_,rfl,(k:P2),by rw [G9,hT.len],by omega,by omega,r⟩) (λi hi Q' q'=> ?_) (λp hp=>hC _ _ ⟨p,rfl,hp,rfl⟩);refine⟨_,rfl,zP o,Vy o,_,rfl,(i:P2),rfl,NX (ho.mem_iff.mpr hi),?_⟩;rw [NW];exact q'
 rintro _ _ ⟨p,rfl,hp,rfl⟩;refine Cw (j:=λh=>h p) (P7 k) (λi=> .int ((o.idxOf i:G8):P2)) (λi=> .tup ((P7 k).map λj=> .int (ent T (o.idxOf i) (o.idxOf j)))) (by rw [T1];omega) ja (λR r=>⟨_,rfl,r⟩) (λi hi Q' q'=> ?_) ⟨h,Sub.newAt (Sub.refl h) hp,?_⟩
 ·refine Cw (j:=λh=>h p) (P7 k) (λi=> .int ((o.idxOf i:G8):P2)) (λj=> .int (ent T (o.idxOf i) (o.idxOf j))) (by rw [T1];omega) ja (λR r=>⟨_,rfl,r⟩) (λj hj Q'' q''=> ?_) q';exact⟨_,rfl,_,rfl,_,RI hT (lt i hi),_,rfl,_,Qh (hT.row _ (Sq.getRow hT (lt i hi))) (lt j hj),q''⟩
 ·rw [ES];exact q
def vM:RDn:=λds h Q=> ∃M T,∃n e:G8,ds= [jG M,jG T]/\Sq n 1 M/\Sq n e T/\1<=n/\n<=6/\e<=1000/\Q (jG (mk1 n T M)) h
theorem YC (Z:Zs mg)(F:Fun K "marks_after" "marks_after" yI f fd)(Yn:jh P w K mg base n "marks" ["table"] Wl)(XD:jh P w K mg base n "multiplied" ["one","other"] JU):FnOk P w K mg base CX0 (n+1) f fd ["ahead","table"] (LSp K vM):=by
 refine F.okM Yz (λhr=>(jL (zO (jk Yn hr (j1 (jk XD hr (j2 (jv 0) (jv 1)))))))) ?_;rintro ds h Q ⟨M,T,n,b,rfl,hM,hT,h1,h6,hb,q⟩;refine⟨rfl,?_⟩;exact⟨_,rfl,_,rfl,M,T,n,1,b,rfl,hM,hT,by omega,h6,Yt n M T,n,_,rfl,hM.mul hT (by omega),h1,h6,h,Sub.refl h,q⟩
def wL:RDn:=λds h Q=> ∃T,∃n e:G8,ds= [jG T]/\Sq n e T/\1<=n/\n<=6/\e<=1000/\mk1 n T (jS n T)=jS n T/\ ∀A h',h A=none->h' A=some [jG (jS n T)]->Sub h h'->Q (.tup [.lst A,.int 0]) h'
theorem Jl (Z:Zs mg)(F:Fun K "marks_and_return" "marks_and_return" zI f fd)(Yn:jh P w K mg base n "marks" ["table"] Wl)(Uj:jh P w K mg base n "marks_after" ["ahead","table"] vM):FnOk P w K mg base CX0 (n+1) f fd ["table"] (LSp K wL):=by
 refine F.okM zx (λhr=>(js4 (jse 1 zx (wQ (j1 (jk Yn hr (j1 (jv 0)))))) (jse 2 zx (jk Uj hr (j2 (ji1 (jv 1) (ER jj)) (jv 0)))) (ET J9 (Ry (Gn hr.units) (jv 2) (jv 1) (by with_unfolding_all rfl)) Bt) (zO (zQ (j2 (jv 1) (KI hr.units (jv 1) (jv 2))))))) ?_;rintro ds h Q ⟨T,n,bb,rfl,hT,h1,h6,hb,hi,q⟩;refine⟨rfl,?_⟩;refine jg (λσ' h'=> ∃A,σ'= [some (jG T),some (.lst A),none]/\h A=none/\h' A=some [jG (jS n T)]/\Sub h h') (λC hC=>⟨_,rfl,T,n,bb,rfl,hT,h1,h6,sz1,λA eA=>hC _ _ ⟨A,rfl,eA,ja,Sub.newAt (Sub.refl h) eA⟩⟩) ?_;rintro _ h1' ⟨A,rfl,fA,kA,sbA⟩;refine wI [some (jG T),some (.lst A),some (jG (jS n T))] (λC hC=>⟨_,rfl,_,_,kA,rfl,_,rfl,jS n T,T,n,bb,rfl,Sq.mark T,hT,h1,h6,hb,(by rw [hi];exact hC)⟩) ?_;have kA1:h1' A=some ([jS n T].map jG):=kA;refine wI [some (jG T),some (.lst A),some (jG (jS n T))] (λC hC=> ?_) ?_
 ·refine Bb (λm σ' h'=>σ'= [some (jG T),some (.lst A),some (jG (jS n T))]/\h1'=h') 0 ⟨rfl,rfl⟩ ?_;rintro m _ _ ⟨rfl,rfl⟩;refine⟨_,rfl,_,rfl,EU KJ kA1 λbo hbo=>⟨_,rfl,?_⟩⟩;rw [hbo.mpr (P4.mpr rfl)];exact vv (hC)
 obtain⟨J,pd,ps,zz,hat,t1,t2,c1,c2,c3,c4,c5,c6,c7⟩:=EV KJ kA1 (P4.mpr rfl) (by simp);have hJ:J=0:=by have:=(R0.mp hat).1;simpa using this
 subst hJ;exact⟨_,rfl,_,rfl,A,rfl,_,rfl,pd,ps,0,zz,t1,t2,c1,c2,c3,c4,c5,c6,c7,sz2,h1',Sub.refl _,q A h1' fA kA sbA⟩
def ZP:RDn:=λds h Q=> ∃T,∃n e:G8,ds= [jG T]/\Sq n e T/\1<=n/\n<=6/\e<=1000/\mk1 n T (jS n T)=jS n T/\ ∀A h',h A=none->h' A=some [jG (jS n T)]->Sub h h'->Q (.lst A) h'
theorem Xu (Z:Zs mg)(F:Fun K "all_marks" "all_marks" Jd f fd)(Zf:jh P w K mg base n "marks_and_return" ["table"] wL):FnOk P w K mg base CX0 (n+1) f fd ["table"] (LSp K ZP):=by
 refine F.okM Xo (λhr=>(jL (zO (ji1 (jk Zf hr (j1 (jv 0))) jj)))) ?_;rintro ds h Q ⟨T,n,bb,rfl,hT,h1,h6,hb,hi,q⟩;refine⟨rfl,?_⟩;exact⟨_,rfl,T,n,bb,rfl,hT,h1,h6,hb,hi,λA h' fA kA sb=>⟨_,rfl,h',Sub.refl _,q A h' fA kA sb⟩⟩
def Tk:P0 G8->D
 |none=> .non
 |some k=> .int (k:P2)
def Fb:P0 G8->P2
 |none=>0
 |some k=>(k:P2)
def GO (n:G8)(T:G0 (G0 P2)):P0 G8:=if RG (jS n T)=true then some 1 else none
def zY:RDn:=λds h Q=> ∃T,∃n e:G8,ds= [jG T]/\Sq n e T/\1<=n/\n<=6/\e<=1000/\mk1 n T (jS n T)=jS n T/\Q (Tk (GO n T)) h
theorem YD (Z:Zs mg)(F:Fun K "first_power" "first_power" yJ f fd)(QY:jh P w K mg base n "all_marks" ["table"] ZP)(SY:jh P w K mg base n "full" ["table"] MZ):FnOk P w K mg base CX0 (n+1) f fd ["table"] (LSp K zY):=by
 refine F.okM vO (λhr=>(js2 (Ni J9 rfl (Bf rfl Z.enumerate (j1 (jk QY hr (j1 (jv 0))))) (Ct (i:=1) (j:=2) rfl vO.nd rfl rfl (W6 rfl) (W6 rfl)) (jL (WP (vG (jk SY hr (j1 (jv 2)))) (zO (jop jE (jv 1) jj))))) (zO Po))) ?_;rintro ds h Q ⟨T,k,b,rfl,hT,h1,h6,hb,hi,q⟩;refine⟨rfl,?_⟩;refine jg (λσ' h'=>GO k T=none/\Sub h h') (λC hC=> ?_) ?_
 ·refine⟨_,rfl,T,k,b,rfl,hT,h1,h6,hb,hi,λA h' fA kA sb=>⟨A,rfl,?_⟩⟩;refine yW (j:=λh=>(h A).map RJ) (RJ [jG (jS k T)]) (λi σ' h2=> ∃a b',σ'= [some (jG T),a,b']/\h'=h2/\(0<i->GO k T=none)) (λi σ' h2 ⟨_,_,_,e,_⟩=>by rw [<-e];show (h' A).map RJ=_;rw [kA];rfl) ⟨none,none,rfl,rfl,λz=>absurd z (N8 _)⟩ (λσ' h2 ⟨a,b',e,eh,lo⟩=>hC _ _ ⟨lo (by rw [vY];show 0<1;decide),eh ▸ sb⟩) ?_;rintro i d _ _ hd ⟨a,b',rfl,rfl,lo⟩;obtain⟨x,hx,rfl⟩:=Gm hd;have hil:i+1<=(RJ [jG (jS k T)]).length:=(R0.mp hd).1;have hi0:i=0:=by rw [vY] at hil;simpa using hil
  subst hi0;cases hx;refine⟨_,_,rfl,_,rfl,jS k T,k,1,rfl,Sq.mark T,h1,h6,_,rfl,?_⟩;unfold GO at q ⊢;cases hf:RG (jS k T) with
  |true=>
   rw [hf] at q;exact Vj ⟨_,rfl,h,sb,q⟩
  |false=>exact vv ⟨_,Sub.refl _,hil,_,_,rfl,rfl,λ_=>rfl⟩
 rintro _ h2 ⟨e,sb⟩;rw [e] at q;exact⟨h,sb,q⟩
def wM:RDn:=λ_ _ _=>False
def wm:RDx:=λds h R=> ∃T,∃n e:G8,ds= [jG T]/\Sq n e T/\1<=n/\n<=6/\e<=1000/\mk1 n T (jS n T)=jS n T/\RG (jS n T)=false/\R "Apart" h
theorem vH (Z:Zs mg)(Ex:ExcF K mg)(F:Fun K "want_first_power" "want_first_power" zJ f fd)(zM:jh P w K mg base n "first_power" ["table"] zY):FnOk P w K mg base (CXR P w) (n+1) f fd ["table"] (Qm mg K wm):=by
 refine F.okMX Je (λhr=>(Bj (jt1 EJ (jk zM hr (j1 (jv 0))) Po) (VC rfl (Ex.own "Apart" (by decide)) rfl))) ?_;rintro ds h R ⟨T,n,b,rfl,hT,h1,h6,hb,hi,hf,q⟩;refine⟨rfl,?_⟩;exact⟨_,rfl,T,n,b,rfl,hT,h1,h6,hb,hi,(by unfold GO;rw [hf];exact⟨_,rfl,rfl,q⟩)⟩
def HX (n i:G8):G0 P2:=if i+1=n then ((S7 n 0).set ((i+1)%n) 1).set (1%n) 1 else (S7 n 0).set ((i+1)%n) 1
def SS (n:G8):G0 (G0 P2):=(P7 n).map (HX n)
def OH (n:G8):G0 (G0 P2):=((P7 (n-1)).map λi=>(P7 n).map λj=>if j=i+1 then (1:P2) else 0)++ [(P7 n).map λj=>if j<2 then (1:P2) else 0]
theorem OI (h1:2<=n)(h6:n<=6):OH n=SS n:=by
 rcases (show n=2\/n=3\/n=4\/n=5\/n=6 by omega) with e|e|e|e|e<;>subst e<;>decide +kernel
def JV:RDn:=λds h Q=> ∃n:G8,ds= [.int (n:P2)]/\2<=n/\n<=6/\Q (jG (SS n)) h
theorem Ub (Z:Zs mg)(F:Fun K "slow_table" "slow_table" wU f fd)(jH:jh P w K mg base n "want_number" ["thing","least","most"] za)(jz: ∃tk,mg "MOST_ROWS" =some (.int 6 tk)):FnOk P w K mg base CX0 (n+1) f fd ["size"] (LSp K JV):=by
 obtain⟨tk_MOST_ROWS,m_MOST_ROWS⟩:=jz;refine F.okM zl (λhr=>(js4 (yA (jk jH hr (j3 (jv 0) jj (Zp rfl m_MOST_ROWS)))) (EO (i:=3) (k:=1) (js:= [3]) rfl zl.nd rfl (W6 rfl) (wz (by rfl)) (jrg Z (jop YQ (jv 0) jj)) (by decide) rfl (by first|exact W6 rfl|exact cA rfl) (λX' hX=>vU) (λX' hX=>by obtain⟨C,s₀,H₀,ex,rfl⟩:=hX;exact(zp wb rfl Z.tuple (by decide +kernel) (j1 (jl0 4 zl (jrg Z (jv 0)) (λ_ _ _ _=>(jif (jt1 (UK hr.units) (jv 4) (jop jE (jv 3) jj)) jj jj))))))) (jse 2 zl (zp wb rfl Z.tuple (by decide +kernel) (j1 (jl0 4 zl (jrg Z (jv 0)) (λ_ _ _ _=>(jif (jt1 Lb (jv 4) jj) jj jj)))))) (zO (jop jE (zp cq_tuple rfl Z.tuple (by decide +kernel) (j1 (jv 1))) (zQ (j1 (jv 2))))))) ?_;rintro ds h Q ⟨k,rfl,h2,h6,q⟩;refine⟨rfl,?_⟩;refine wI [some (.int (k:P2)),none,none,none,none] (λC hC=>⟨_,rfl,(k:P2),2,6,rfl,by omega,by omega,hC⟩) ?_;refine jg (λσ' h'=> ∃R,σ'= [some (.int (k:P2)),some (.lst R),none,none,none]/\h R=none/\h'=wc h R (((P7 (k-1)).map λi=>(P7 k).map λj=>if j=i+1 then (1:P2) else 0).map wE)) (λC hC=> ?_) ?_
 ·refine lcA (P7 (k-1)) (λi=> .int (i:P2)) (λi=>wE ((P7 k).map λj=>if j=i+1 then (1:P2) else 0)) (by rw [T1];omega) rfl (λR r=>⟨_,rfl,((k-1:G8):P2),by rw [show ((k-1:G8):P2)=(k:P2)-1 by omega],by omega,by omega,r⟩) (λi hi Q' q'=> ?_) (λp hp=>hC _ _ ⟨p,rfl,hp,by rw [N7];rfl⟩);refine Cw (P7 k) (λj=> .int (j:P2)) (λj=> .int (if j=i+1 then 1 else 0)) (by rw [T1];omega) rfl (λR r=>⟨_,rfl,(k:P2),rfl,by omega,by omega,r⟩) (λj hj Q'' q''=>⟨_,rfl,_,rfl,_,rfl,?_⟩) ?_
  ·by_cases z:j=i+1
   ·subst z;rw [R1 rfl] at q'';rw [S1 (by omega)];exact Vj q''
   ·rw [R3 z] at q'';rw [T3 (by omega)];exact vv q''
  ·unfold wE at q';rw [N7] at q';exact q'
 rintro _ _ ⟨R,rfl,fR,rfl⟩;refine jg (λσ' h'=>σ'= [some (.int (k:P2)),some (.lst R),some (wE ((P7 k).map λj=>if j<2 then (1:P2) else 0)),none,none]/\wc h R (((P7 (k-1)).map λi=>(P7 k).map λj=>if j=i+1 then (1:P2) else 0).map wE)=h') (λC hC=> ?_) ?_
 ·refine Cw (P7 k) (λj=> .int (j:P2)) (λj=> .int (if j<2 then 1 else 0)) (by rw [T1];omega) rfl (λR r=>⟨_,rfl,(k:P2),rfl,by omega,by omega,r⟩) (λj hj Q'' q''=>⟨_,rfl,_,rfl,?_⟩) (hC _ _ ⟨by unfold wE;rw [N7];rfl,rfl⟩);refine Pc (λc=> ?_) (λc=> ?_)
  ·have c':(j:P2)<2:=U2 c;rw [R1 (by omega)] at q'';exact q''
  ·have c': ¬ (j:P2)<2:=λz=>c (S1 z)
   rw [R3 (by omega)] at q'';exact q''
 rintro _ _ ⟨rfl,rfl⟩;refine⟨_,rfl,_,ja,_,rfl,sz1,?_,h,Sub.newAt (Sub.refl h) fR,?_⟩
 ·simp only [G9,T1,D4,M7];exact M5 (jO (by omega))
 ·have e:jG (OH k)= .tup (((P7 (k-1)).map λi=>(P7 k).map λj=>if j=i+1 then (1:P2) else 0).map wE++ [wE ((P7 k).map λj=>if j<2 then (1:P2) else 0)]):=by unfold jG OH;rw [L8];rfl
  rw [OI h2 h6] at e;rw [<-e];exact q
def vN:RDx:=λds h R=> ∃d,ds= [d]/\okD d=true/\zd d 2 6=false/\R "NoNumber" h
theorem YE (Z:Zs mg)(Ex:ExcF K mg)(F:Fun K "slow_table" "slow_table" wU f fd)(CR_want_number:zg P w K mg base n "want_number" ["thing","least","most"] zi)(jz: ∃tk,mg "MOST_ROWS" =some (.int 6 tk)):FnOk P w K mg base (CXR P w) (n+1) f fd ["size"] (Qm mg K vN):=by
 obtain⟨tk_MOST_ROWS,m_MOST_ROWS⟩:=jz;refine F.okMX zl (λhr=>(vZ (jxk CR_want_number hr (j3 (jv 0) jj (Zp rfl m_MOST_ROWS))))) ?_;rintro ds h R ⟨d,rfl,ok,bad,q⟩;refine⟨rfl,?_⟩;exact⟨_,rfl,d,2,6,rfl,ok,bad,q⟩
def wj:RDn:=λds h Q=> ∃n:G8,ds= [.int (n:P2)]/\1<=n/\n<=6/\Q (.int (((n:P2)-1)*((n:P2)-1)+1)) h
theorem ZY (Z:Zs mg)(F:Fun K "slowest_power" "slowest_power" zK f fd)(jH:jh P w K mg base n "want_number" ["thing","least","most"] za)(jz: ∃tk,mg "MOST_ROWS" =some (.int 6 tk)):FnOk P w K mg base CX0 (n+1) f fd ["size"] (LSp K wj):=by
 obtain⟨tk_MOST_ROWS,m_MOST_ROWS⟩:=jz;refine F.okM yN (λhr=>(js2 (yA (jk jH hr (j3 (jv 0) jj (Zp rfl m_MOST_ROWS)))) (zO (jop jE (jop zu (jop YQ (jv 0) jj) (jop YQ (jv 0) jj)) jj)))) ?_;rintro ds h Q ⟨k,rfl,h1,h6,q⟩;refine⟨rfl,?_⟩;refine⟨_,rfl,(k:P2),1,6,rfl,by omega,by omega,_,rfl,_,rfl,W6 ⟨by omega,by omega⟩,h,Sub.refl h,q⟩
def zk:RDx:=λds h R=> ∃d,ds= [d]/\okD d=true/\zd d 1 6=false/\R "NoNumber" h
theorem ZG (Z:Zs mg)(Ex:ExcF K mg)(F:Fun K "slowest_power" "slowest_power" zK f fd)(CR_want_number:zg P w K mg base n "want_number" ["thing","least","most"] zi)(jz: ∃tk,mg "MOST_ROWS" =some (.int 6 tk)):FnOk P w K mg base (CXR P w) (n+1) f fd ["size"] (Qm mg K zk):=by
 obtain⟨tk_MOST_ROWS,m_MOST_ROWS⟩:=jz;refine F.okMX yN (λhr=>(vZ (jxk CR_want_number hr (j3 (jv 0) jj (Zp rfl m_MOST_ROWS))))) ?_;rintro ds h R ⟨d,rfl,ok,bad,q⟩;refine⟨rfl,?_⟩;exact⟨_,rfl,d,1,6,rfl,ok,bad,q⟩
def JY:RDx:=λds h R=> ∃d,ds= [d]/\((okD d=true/\Xs d=false/\R "NoTable" h)\/ ∃T,∃n e:G8,d=jG T/\Sq n e T/\1<=n/\n<=6/\e<=1000/\mk1 n T (jS n T)=jS n T/\RG (jS n T)=false/\R "Apart" h)
theorem Uc (Z:Zs mg)(Ex:ExcF K mg)(F:Fun K "bound_for" "bound_for" Jf f fd)(jC:jh P w K mg base n "want_table" ["thing"] jX)(Zg:jh P w K mg base n "want_first_power" ["table"] wM)(CR_want_table:zg P w K mg base n "want_table" ["thing"] yh)(CR_want_first_power:zg P w K mg base n "want_first_power" ["table"] wm)(CR_slowest_power:zg P w K mg base n "slowest_power" ["size"] zk):FnOk P w K mg base (CXR P w) (n+1) f fd ["table"] (Qm mg K JY):=by
 refine F.okMX ZO (λhr=>(Br (vZ (jxk CR_want_table hr (j1 (jv 0)))) (Br (Zt (JS.nox (yA (jk jC hr (j1 (jv 0))))) (vZ (jxk CR_want_first_power hr (j1 (jv 0))))) (Zt (JS.nox (yA (jk jC hr (j1 (jv 0))))) (Zt (JS.nox (yA (jk Zg hr (j1 (jv 0))))) (Zt (JS.nox (jse 1 ZO (Xk Z (jv 0)))) (CB (LK (jxk CR_slowest_power hr (j1 (jv 1))))))))))) ?_;rintro ds h R ⟨d,rfl,q⟩;refine⟨rfl,?_⟩;rcases q with ⟨ok,bad,q⟩|⟨T,n,b,rfl,hT,h1,h6,hb,hi,hf,q⟩
 ·exact .inl ⟨_,rfl,d,rfl,ok,bad,q⟩
 ·exact .inr (.inl ⟨_,rfl,T,n,b,rfl,hT,h1,h6,_,rfl,T,n,b,rfl,hT,h1,h6,hb,hi,hf,q⟩)
variable {h:HD}
theorem Fc {i k:G8}{te:TED}{E:EndsD}{σ:SD}{d:D}(x:te (σ.set i (some d)) h λv h1=>E.nx ((σ.set i (some d)).set k (some v)) h1):gN i d σ h (λσ2 h2=>XZ k te E σ2 h2):=x
def uG:D->ItD
 | .lst a=>λh=>h a
 | .tup ds=>λ_=>some ds
 |_=>λ_=>none
theorem OJ (ts:G0 D)(k:G8):((Da ts k).flatMap λr=>ts.map λt=>D.tup (r++ [t]))=(Da ts (k+1)).map D.tup:=by
 show _=((Da ts k).flatMap _).map D.tup;rw [qJ]
 congr 1
 funext r
 rw [N7];rfl
theorem OK {α:Type}{ts:G0 α}(h8:ts.length<=8): ∀ {k:G8},k<3->((Da ts k).flatMap λ_=>ts).length<=1000:=λ{k} hk=>by
 have: ∀l:G0 (G0 α),(l.flatMap λ_=>ts).length=l.length*ts.length:=λl=>by
  induction l with
  |nil=>simp
  |cons x l ih=>rw [J0,D9,ih,D4,bT];omega
 rw [this,MP];have a:ts.length^k<=8^2:=T9 (Nat.pow_le_pow_left h8 k) (V9 (by decide) (by omega));have:=sF a h8;omega
def Yf:RDn:=λds h Q=> ∃x ts,∃m:G8,ds= [x,.int (m:P2)]/\(x= .tup ts\/ ∃a,x= .lst a/\h a=some ts)/\m<=3/\ts.length<=8/\ ∀A h',h A=none->h' A=some ((Da ts m).map D.tup)->Sub h h'->Q (.lst A) h'
theorem QP (Z:Zs mg)(F:Fun K "all_rows" "all_rows" ZC f fd):FnOk P w K mg base CX0 (n+1) f fd ["things","many"] (LSp K Yf):=by
 refine F.okM yL (λhr=>(js3 (jse 2 yL (wQ (j1 (zQ zn)))) (Ni J9 rfl (jrg Z (jv 1)) (jgn 3 yL) (jL (Mj (i:=4) (i':=5) (k:=2) (js:= [4,5]) rfl yL.nd rfl (W6 rfl) (wz (by rfl)) (zR (jv 2)) (by decide) (by decide) (by decide) rfl rfl (by first|exact W6 rfl|exact cA rfl) (by first|exact W6 rfl|exact cA rfl) (λX' hX=>vU) (λX' hX=>by obtain⟨C,s₀,H₀,ex,rfl⟩:=hX;exact(zR (jv 0))) (λX' hX=>vU) (λX' hX=>by obtain⟨C,s₀,H₀,ex,rfl⟩:=hX;exact(jop jE (jv 4) (zQ (j1 (jv 5)))))))) (zO (jv 2)))) ?_;rintro ds h Q ⟨x,ts,m,rfl,hx,h3,h8,q⟩;refine⟨rfl,?_⟩;refine jg (λσ' h'=> ∃A,σ'= [some x,some (.int (m:P2)),some (.lst A),none,none,none]/\h A=none/\h' A=some ((Da ts 0).map D.tup)/\Sub h h') (λC hC=>⟨sz0,sz1,λA eA=>hC _ _ ⟨A,rfl,eA,ja,Sub.new eA⟩⟩) ?_;rintro _ h1 ⟨A,rfl,fA,kA,sb⟩;refine jg (λσ' h'=> ∃A a b c,σ'= [some x,some (.int (m:P2)),some (.lst A),a,b,c]/\h A=none/\h' A=some ((Da ts m).map D.tup)/\Sub h h') (λC hC=> ?_) ?_
 ·refine Vu (h1:=h1) m (λk σ' h'=> ∃A a b c,σ'= [some x,some (.int (m:P2)),some (.lst A),a,b,c]/\h A=none/\h' A=some ((Da ts k).map D.tup)/\Sub h h') (by omega) (λR r=>⟨_,rfl,r⟩) ⟨A,none,none,none,rfl,fA,kA,sb⟩ (λσ' h' z=>hC _ _ z) ?_;clear kA sb fA;rintro k _ h2 hk ⟨A,a,b,c,rfl,fA,kA,sb⟩;refine Fc ?_;refine uz (j:=λh=>h A) (uG x) (Da ts k) D.tup (λ_=>ts) id (λr t=> .tup (r++ [t])) (OK h8 (by omega)) kA (λR r=>⟨_,rfl,r⟩) (λr hr R rr=> ?_) (λr hr=> ?_) (λr hr t ht Q' q'=>⟨_,rfl,_,rfl,sz1,?_,q'⟩) (λB eB=>⟨_,Sub.refl _,hk,B,_,_,_,rfl,JC sb eB,?_,Sub.newAt sb eB⟩)
  ·rcases hx with rfl|⟨a,rfl,ka⟩<;>exact⟨_,rfl,rr⟩
  ·rw [List.map_id];rcases hx with rfl|⟨a,rfl,ka⟩
   ·rfl
   ·exact sb _ _ ka
  ·rw [(CV ts hr).1];exact T9 (show k+1<=6 by omega) (by decide)
  ·rw [ja,OJ]
 rintro _ h2 ⟨A,a,b,c,rfl,fA,kA,sb⟩;exact⟨_,rfl,_,Sub.refl _,q A _ fA kA sb⟩
def zL:RDn:=λds h Q=>ds= [.int 1]/\ ∀A h',h A=none->h' A=some [jG [[0]],jG [[1]]]->Sub h h'->Q (.lst A) h'
theorem JZ (Z:Zs mg)(F:Fun K "all_mark_tables" "all_mark_tables" zT f fd)(Vd:jh P w K mg base n "all_rows" ["things","many"] Yf):FnOk P w K mg base CX0 (n+1) f fd ["size"] (LSp K zL):=by
 refine F.okM JL (λhr=>(jL (zO (jk Vd hr (j2 (jk Vd hr (j2 (zQ (j2 jj jj)) (jv 0))) (jv 0)))))) ?_;rintro ds h Q ⟨rfl,q⟩;refine⟨rfl,?_⟩;exact⟨sz2,_,rfl,_,_,1,rfl,.inl rfl,by decide,by decide,λA h' fA kA sb=>⟨_,rfl,_,_,1,rfl,.inr ⟨A,rfl,kA⟩,by decide,by decide,λB h'' fB kB sb'=>⟨_,Sub.refl _,q B h'' (JC sb fB) kB (sb.trans sb')⟩⟩⟩
theorem OL {te:TED}{E:EndsD}{σ:SD}(x:te σ h λv h1=>HE [v] h1 λd h2=>E.rt d h2):Vo (dCB HE (jP te vE)) E σ h:=x
theorem noF {c:N0}{A B:Prop}(h:c=false)(x:B):if c=true then A else B:=by subst h;exact vv x
theorem Na (o:G0 G8)(p:G8):vW (o++ [p])= .tup (o.map (λ(k:G8)=>D.int (k:P2))++ [.int (p:P2)]):=by unfold vW;rw [L8];rfl
theorem Cc {k:G8}:(we n (k+1)).map vW=(we n k).flatMap λo=>((P7 n).filter λp=> !decide (p∈o)).map λp=>vW (o++ [p]):=by
 show ((we n k).flatMap _).map vW=_;rw [qJ]
 congr 1
 funext o
 rw [N7];rfl
def Za:RDn:=λds h Q=> ∃n:G8,ds= [.int (n:P2)]/\n<=5/\ ∀A h',h A=none->h' A=some ((we n n).map vW)->Sub h h'->Q (.lst A) h'
theorem Ud (Z:Zs mg)(F:Fun K "all_orders" "all_orders" vk f fd):FnOk P w K mg base CX0 (n+1) f fd ["size"] (LSp K Za):=by
 refine F.okM wx (λhr=>(js3 (jse 1 wx (wQ (j1 (zQ zn)))) (Ni J9 rfl (jrg Z (jv 0)) (jgn 2 wx) (jL (Mj (i:=3) (i':=4) (k:=1) (js:= [3,4]) rfl wx.nd rfl (W6 rfl) (wz (by rfl)) (zR (jv 1)) (by decide) (by decide) (by decide) rfl rfl (by first|exact W6 rfl|exact cA rfl) (by first|exact W6 rfl|exact cA rfl) (λX' hX=>vU) (λX' hX=>by obtain⟨C,s₀,H₀,ex,rfl⟩:=hX;exact(jrg Z (jv 0))) (λX' hX=>by obtain⟨C,s₀,H₀,ex,rfl⟩:=hX;exact RC (Ry (Gn hr.units) (jv 4) (jv 3) (by with_unfolding_all rfl))) (λX' hX=>by obtain⟨C,s₀,H₀,ex,rfl⟩:=hX;exact(jop jE (jv 3) (zQ (j1 (jv 4)))))))) (zO (jv 1)))) ?_;rintro ds h Q ⟨n,rfl,h5,q⟩;refine⟨rfl,?_⟩;refine jg (λσ' h'=> ∃A,σ'= [some (.int (n:P2)),some (.lst A),none,none,none]/\h A=none/\h' A=some ((we n 0).map vW)/\Sub h h') (λC hC=>⟨sz0,sz1,λA eA=>hC _ _ ⟨A,rfl,eA,ja,Sub.new eA⟩⟩) ?_;rintro _ h1 ⟨A,rfl,fA,kA,sb⟩;refine jg (λσ' h'=> ∃A a b c,σ'= [some (.int (n:P2)),some (.lst A),a,b,c]/\h A=none/\h' A=some ((we n n).map vW)/\Sub h h') (λC hC=> ?_) ?_
 ·refine Vu (h1:=h1) n (λk σ' h'=> ∃A a b c,σ'= [some (.int (n:P2)),some (.lst A),a,b,c]/\h A=none/\h' A=some ((we n k).map vW)/\Sub h h') (by omega) (λR r=>⟨_,rfl,r⟩) ⟨A,none,none,none,rfl,fA,kA,sb⟩ (λσ' h' z=>hC _ _ z) ?_;clear kA sb fA;rintro k _ h2 hk ⟨A,a,b,c,rfl,fA,kA,sb⟩;have l1:=GD n (by omega) k (by omega);have fl: ∀l:G0 (G0 G8),(l.flatMap λ_=>P7 n).length<=l.length*5:=λl=>by
   induction l with
   |nil=>exact P1 _
   |cons x l ih=>rw [J0,D9,T1,D4];omega
  have l2:=fl (we n k);refine Fc ?_;refine ux (j:=λh=>h A) (we n k) vW (λ_=>P7 n) (λ(k:G8)=>D.int (k:P2)) (λo p=> !decide (p∈o)) (λo p=>vW (o++ [p])) (by omega) kA (λR r=>⟨_,rfl,r⟩) (λo ho R r=>⟨_,rfl,(n:P2),rfl,by omega,by omega,r⟩) (λo ho p hp Q' q'=>⟨_,rfl,_,rfl,LM ⟨_,rfl,q'⟩⟩) (λo ho p hp Q' q'=>⟨_,rfl,_,rfl,sz1,?_,by rw [Na] at q';exact q'⟩) (λB eB=>⟨_,Sub.refl _,hk,B,_,_,_,rfl,JC sb eB,?_,Sub.newAt sb eB⟩)
  ·rw [G9,(Mn ho).1];exact T9 (show k+1<=6 by omega) (by decide)
  ·rw [ja,Cc]
 rintro _ h2 ⟨A,a,b,c,rfl,fA,kA,sb⟩;exact⟨_,rfl,_,Sub.refl _,q A _ fA kA sb⟩
def kv2:G0 (P2×D):= [(0,.int 1),(1,.int 1)]
theorem GP {i:G8}{d:D}(hd: [jG [[0]],jG [[1]]][i]? =some d): ∃T,d=jG T/\Sq 1 1 T/\mk1 1 T (jS 1 T)=jS 1 T/\(Qz (kv2.take i) (Fb (GO 1 T))).getD (.int 0)= .int 0/\BM (kv2.take i) (Fb (GO 1 T)) (.int (0+1))=kv2.take (i+1)/\(Fb (GO 1 T)=1->T= [[1]])/\(i=1->Fb (GO 1 T)=1):=by
 match i,hd with
 |0,hd=>cases hd;exact⟨[[0]],rfl,⟨by decide,by decide,by decide,by decide⟩,by decide +kernel,rfl,rfl,λe=>absurd e (by decide +kernel),λe=>absurd e (by decide)⟩
 |1,hd=>cases hd;exact⟨[[1]],rfl,⟨by decide,by decide,by decide,by decide⟩,by decide +kernel,rfl,rfl,λ_=>rfl,λ_=>by decide +kernel⟩
def Yg:RDn:=λds h Q=>ds= [.int 1]/\ ∀A h',h A=none->h' A=some [tI [0,1],tI [1,1]]->Sub h h'->Q (.lst A) h'
theorem QQ (Z:Zs mg)(F:Fun K "by_first" "by_first" vC f fd)(jH:jh P w K mg base n "want_number" ["thing","least","most"] za)(zW:jh P w K mg base n "all_mark_tables" ["size"] zL)(zM:jh P w K mg base n "first_power" ["table"] zY)(jy: ∃tk,mg "MOST_LISTED" =some (.int 3 tk)):FnOk P w K mg base CX0 (n+1) f fd ["size"] (LSp K Yg):=by
 obtain⟨tk_MOST_LISTED,m_MOST_LISTED⟩:=jy;refine F.okM zU (λhr=>(js4 (yA (jk jH hr (j3 (jv 0) jj (Zp rfl m_MOST_LISTED)))) (jse 1 zU SA) (Ni J9 rfl (zR (jk zW hr (j1 (jv 0)))) (jgn 2 zU) (js3 (jse 3 zU (jk zM hr (j1 (jv 2)))) (jse 4 zU (jif (jt1 EJ (jv 3) Po) jj (jv 3))) (HJ hr (jv 1) (jv 4) (jop jE (SC hr (jv 1) (jv 4) jj) jj)))) (zO (uE hr rfl rfl Z.sorted (jv 1))))) ?_;rintro ds h Q ⟨rfl,q⟩;refine⟨rfl,?_⟩;refine wI [some (.int 1),none,none,none,none] (λC hC=>⟨_,rfl,1,1,3,rfl,by decide,by decide,hC⟩) ?_;refine jg (λσ' h'=> ∃cd,σ'= [some (.int 1),some (.dct cd),none,none,none]/\h'.dc cd=some (.ik [])/\h.dc cd=none/\Sub h h') (λC hC p ep=>hC _ _ ⟨p,rfl,Jt,ep,Sub.newC ep⟩) ?_;rintro _ h2 ⟨cd,rfl,kc,fc,sb⟩;refine jg (λσ' h'=> ∃a b c,σ'= [some (.int 1),some (.dct cd),a,b,c]/\h'.dc cd=some (.ik kv2)/\Sub h h') (λC hC=>⟨_,rfl,rfl,λA h' fA kA sbA=> ?_⟩) ?_
 ·refine yW (j:=λh=>h A) [jG [[0]],jG [[1]]] (λi σ' h'=> ∃a b c,σ'= [some (.int 1),some (.dct cd),a,b,c]/\h'.dc cd=some (.ik (kv2.take i))/\h' A=some [jG [[0]],jG [[1]]]/\Sub h h') (λi σ' h' ⟨_,_,_,_,_,z,_⟩=>z) ⟨none,none,none,rfl,sbA.dc _ _ kc,kA,sb.trans sbA⟩ (λσ' h' ⟨a,b,c,es,kc,_,sb⟩=>hC _ _ ⟨a,b,c,es,kc,sb⟩) ?_;clear kc sb;rintro i d _ h4 hd ⟨a,b,c,rfl,kc,kA,sb⟩;have il:i<2:=(R0.mp hd).1;obtain⟨T,rfl,sq,im,e1,e2,_⟩:=GP hd;refine jg (λσ' h'=>σ'= [some (.int 1),some (.dct cd),some (jG T),some (Tk (GO 1 T)),c]/\h4=h') (λC' hC'=>⟨_,rfl,T,1,1,rfl,sq,by decide,by decide,by decide,im,hC' _ _ ⟨rfl,rfl⟩⟩) ?_;rintro _ _ ⟨rfl,rfl⟩;refine jg (λσ' h'=>σ'= [some (.int 1),some (.dct cd),some (jG T),some (Tk (GO 1 T)),some (.int (Fb (GO 1 T)))]/\h4=h') (λC' hC'=>⟨_,rfl,_,rfl,?_⟩) ?_
  ·revert hC';cases GO 1 T with
   |none=>exact λhC'=>Vj (hC' _ _ ⟨rfl,rfl⟩)
   |some k=>exact λhC'=>vv ⟨_,rfl,hC' _ _ ⟨rfl,rfl⟩⟩
  rintro _ _ ⟨rfl,rfl⟩;have few:(kv2.take i).length<1000:=Y6 (List.length_take_le _ _) (by omega);refine⟨_,rfl,cd,_,rfl,kc,_,rfl,_,_,rfl,kc,?_⟩;rw [e1];exact⟨_,rfl,_,rfl,cd,_,_,rfl,rfl,kc,few,_,Sub.refl _,il,_,_,_,rfl,by rw [Jt,e2],kA,sb.overC fc⟩
 clear kc sb;rintro _ h4 ⟨a,b,c,rfl,kc,sb⟩;exact⟨_,rfl,cd,0,1,1,1,rfl,kc,by decide,λp fp=>⟨_,Sub.refl _,q p _ (JC sb fp) ja (sb.newAt fp)⟩⟩
def ZQ:RDx:=λds h R=> ∃d,ds= [d]/\okD d=true/\zd d 1 3=false/\R "NoNumber" h
theorem Xv (Z:Zs mg)(Ex:ExcF K mg)(F:Fun K "by_first" "by_first" vC f fd)(CR_want_number:zg P w K mg base n "want_number" ["thing","least","most"] zi)(jy: ∃tk,mg "MOST_LISTED" =some (.int 3 tk)):FnOk P w K mg base (CXR P w) (n+1) f fd ["size"] (Qm mg K ZQ):=by
 obtain⟨tk_MOST_LISTED,m_MOST_LISTED⟩:=jy;refine F.okMX zU (λhr=>(vZ (jxk CR_want_number hr (j3 (jv 0) jj (Zp rfl m_MOST_LISTED))))) ?_;rintro ds h R ⟨d,rfl,ok,bad,q⟩;refine⟨rfl,?_⟩;exact⟨_,rfl,d,1,3,rfl,ok,bad,q⟩
def yi:RDn:=λds h Q=> ∃T,∃n e:G8,ds= [jG T]/\Sq n e T/\1<=n/\n<=5/\ ∀m h',Lst n (jS n T) m->Sub h h'->Q (jG m) h'
theorem YF (Z:Zs mg)(F:Fun K "least_alike" "least_alike" wv f fd)(jC:jh P w K mg base n "want_table" ["thing"] jX)(Yn:jh P w K mg base n "marks" ["table"] Wl)(XB:jh P w K mg base n "all_orders" ["size"] Za)(Nc:jh P w K mg base n "renamed" ["table","order"] Vc)(zc: ∃tk,mg "MOST_RENAMED" =some (.int 5 tk)):FnOk P w K mg base CX0 (n+1) f fd ["table"] (LSp K yi):=by
 obtain⟨tk_MOST_RENAMED,m_MOST_RENAMED⟩:=zc;refine F.okM zX (λhr=>(js4 (yA (jk jC hr (j1 (jv 0)))) (WP (jt1 Lc (Xk Z (jv 0)) (Zp rfl m_MOST_RENAMED)) Gk) (jse 1 zX (jk Yn hr (j1 (jv 0)))) (zO (yX (LW rfl hr) rfl Z.min (by decide +kernel) (j1 (jl0 2 zX (zR (jk XB hr (j1 (Xk Z (jv 0))))) (λ_ _ _ _=>(jk Nc hr (j2 (jv 1) (jv 2)))))))))) ?_;rintro ds h Q ⟨T,n,b,rfl,hT,n1,h5,q⟩;refine⟨rfl,?_⟩;refine wI [some (jG T),none,none] (λC hC=>⟨_,rfl,T,n,b,rfl,hT,n1,by omega,hC⟩) ?_;refine wI [some (jG T),none,none] (λC hC=>⟨_,rfl,_,rfl,noF (T3 (by rw [G9,hT.len];omega)) (hC)⟩) ?_;refine wI [some (jG T),some (jG (jS n T)),none] (λC hC=>⟨_,rfl,T,n,b,rfl,hT,n1,by omega,hC⟩) ?_;have l1:=GD n (by omega) n (by omega);refine OL ?_;refine Sl (we n n) vW (λo=>jG (NU n o (jS n T))) (λA h1=>h A=none/\h1 A=some ((we n n).map vW)/\Sub h h1) (by omega) (λR r=>⟨_,rfl,n,by rw [G9,hT.len],h5,λA h' fA kA sb=>r A h' ⟨fA,kA,sb⟩⟩) (λA h1 z=>z.2.1) (λA h1 z o ho Q' q'=>⟨_,rfl,_,rfl,jS n T,n,1,o,rfl,Sq.mark T,Xe h5 ho,n1,by omega,q'⟩) (λA h1 z p ep=> ?_);obtain⟨m,hm,low⟩:=GA (xs:=(we n n).map λo=>NU n o (jS n T)) (λz=>Mp (nG.mp z));obtain⟨ys,g1,g2,g3,g4,g5⟩:=BD (h:=wc h1 p ((we n n).map λo=>jG (NU n o (jS n T)))) hm low (by rw [ja,N7];rfl);exact .inr ⟨p,ys,(jG m,Uo m),rfl,g1,g2,g3,g4,g5,_,Sub.refl _,q m _ (CG (e:=1) h5 hm low) (Sub.newAt z.2.2 ep)⟩
def vp:RDx:=λds h R=> ∃d,ds= [d]/\((okD d=true/\Xs d=false/\R "NoTable" h)\/ ∃T,∃n e:G8,d=jG T/\Sq n e T/\6<=n/\n<=6/\R ⟨"TooGreat",[("many",(n:P2)),("most",5)]⟩ h)
theorem Yh (Z:Zs mg)(Ex:ExcF K mg)(F:Fun K "least_alike" "least_alike" wv f fd)(jC:jh P w K mg base n "want_table" ["thing"] jX)(CR_want_table:zg P w K mg base n "want_table" ["thing"] yh)(I_TooGreat:VS P w K mg base n "TooGreat" ["many","most"])(zc: ∃tk,mg "MOST_RENAMED" =some (.int 5 tk)):FnOk P w K mg base (CXR P w) (n+1) f fd ["table"] (Qm mg K vp):=by
 obtain⟨tk_MOST_RENAMED,m_MOST_RENAMED⟩:=zc;refine F.okMX zX (λhr=>(Br (vZ (jxk CR_want_table hr (j1 (jv 0)))) (Zt (JS.nox (yA (jk jC hr (j1 (jv 0))))) (Bj (jt1 Lc (Xk Z (jv 0)) (Zp rfl m_MOST_RENAMED)) (uC I_TooGreat hr (j2 (Xk Z (jv 0)) (Zp rfl m_MOST_RENAMED))))))) ?_;rintro ds h R ⟨d,rfl,q⟩;refine⟨rfl,?_⟩;rcases q with ⟨ok,bad,q⟩|⟨T,n,b,rfl,hT,h1,h6,q⟩
 ·exact .inl ⟨_,rfl,d,rfl,ok,bad,q⟩
 ·refine .inr ⟨_,rfl,T,n,b,rfl,hT,by omega,h6,_,rfl,_,rfl,S1 (by rw [G9,hT.len];omega),_,rfl,[(n:P2),5],?_,rfl,q⟩;rw [G9,hT.len];rfl
theorem OM {o:P0 G8}{k:P2}(k1:1<=k){h:HD}{Q:KD}(q:Q (.bl (decide (Fb o=k))) h):eqE (Tk o) (.int k) h Q:=by
 cases o with
 |none=>
  have:decide (Fb none=k)=false:=T3 (by show ¬ (0=k);omega);rw [this] at q;exact⟨.none,.int k,rfl,rfl,rfl,rfl,q⟩
 |some m=>exact q
def yq:RDn:=λds h Q=>ds= [.int 1]/\ ∀A h',h A=none->h' A=some [jG (Oq 1)]->Sub h h'->Q (.lst A) h'
theorem ZH (Z:Zs mg)(F:Fun K "slowest_tables" "slowest_tables" zt f fd)(jH:jh P w K mg base n "want_number" ["thing","least","most"] za)(Yo:jh P w K mg base n "slowest_power" ["size"] wj)(zM:jh P w K mg base n "first_power" ["table"] zY)(zW:jh P w K mg base n "all_mark_tables" ["size"] zL)(Ui:jh P w K mg base n "least_alike" ["table"] yi)(jy: ∃tk,mg "MOST_LISTED" =some (.int 3 tk)):FnOk P w K mg base CX0 (n+1) f fd ["size"] (LSp K yq):=by
 obtain⟨tk_MOST_LISTED,m_MOST_LISTED⟩:=jy;refine F.okM zm (λhr=>(js3 (yA (jk jH hr (j3 (jv 0) jj (Zp rfl m_MOST_LISTED)))) (jse 1 zm (jk Yo hr (j1 (jv 0)))) (zO (uB (i:=2) (js:= [2]) hr rfl rfl Z.sorted (wz (by rfl)) (zR (jk zW hr (j1 (jv 0)))) (by decide) zm.nd rfl (by first|exact W6 rfl|exact cA rfl) (λX' hX=>by obtain⟨C,s₀,H₀,ex,rfl⟩:=hX;exact RC (jt1 (UK hr.units) (jk zM hr (j1 (jv 2))) (jv 1))) (λX' hX=>by obtain⟨C,s₀,H₀,ex,rfl⟩:=hX;exact(jk Ui hr (j1 (jv 2)))))))) ?_;rintro ds h Q ⟨rfl,q⟩;refine⟨rfl,?_⟩;refine wI [some (.int 1),none,none] (λC hC=>⟨_,rfl,1,1,3,rfl,by decide,by decide,hC⟩) ?_;refine wI [some (.int 1),some (.int 1),none] (λC hC=>⟨_,rfl,1,rfl,by decide,by decide,hC⟩) ?_;refine⟨_,rfl,rfl,λA h' fA kA sb=>⟨2,Oq 1,(λi ys h'=>i<=2/\(∀y∈ys,y=Oq 1)/\ys.length<=i/\(i=2->ys≠ [])/\h' A=some [jG [[0]],jG [[1]]]/\Sub h h'),⟨by decide,λy hy=>(nomatch hy),P1 _,λz=>absurd z (by decide),kA,sb⟩,?_⟩⟩;clear kA sb;rintro i ys h2 ⟨hi,all,le,ne,kA,sb⟩;refine⟨by omega,_,kA,by decide,λhl=>⟨ne (rE hi hl),all,λp hp=>⟨_,Sub.refl _,q p _ (JC sb hp) ja (sb.newAt hp)⟩⟩,λd hd=>⟨_,rfl,?_⟩⟩;have il:i<2:=(R0.mp hd).1;obtain⟨T,rfl,sq,im,_,_,t1,i1⟩:=GP hd;refine⟨_,rfl,T,1,1,rfl,sq,by decide,by decide,by decide,im,_,rfl,OM (by decide) ⟨_,rfl,?_⟩⟩
 by_cases z:Fb (GO 1 T)=1
 ·rw [S1 z];refine Vj ⟨_,rfl,T,1,1,rfl,sq,by decide,by decide,λm h4 lm sb4=>⟨m,_,rfl,Sub.refl _,il,λy hy=> ?_,by rw [D9];exact qF le,λ_=>by simp,sb4 _ _ kA,sb.trans sb4⟩⟩;rcases T4.mp hy with w|w
  ·exact all y w
  ·rw [P4.mp w];rw [t1 z] at lm;exact lm.only (Os (s:=1) (by decide) (by decide +kernel))
 ·rw [T3 z];exact vv ⟨_,Sub.refl _,il,all,Nat.le_succ_of_le le,λe=>absurd (i1 (by omega)) z,kA,sb⟩
def wY:RDx:=λds h R=> ∃d,ds= [d]/\okD d=true/\zd d 1 3=false/\R "NoNumber" h
theorem Zb (Z:Zs mg)(Ex:ExcF K mg)(F:Fun K "slowest_tables" "slowest_tables" zt f fd)(jH:jh P w K mg base n "want_number" ["thing","least","most"] za)(CR_want_number:zg P w K mg base n "want_number" ["thing","least","most"] zi)(CR_slowest_power:zg P w K mg base n "slowest_power" ["size"] zk)(jy: ∃tk,mg "MOST_LISTED" =some (.int 3 tk)):FnOk P w K mg base (CXR P w) (n+1) f fd ["size"] (Qm mg K wY):=by
 obtain⟨tk_MOST_LISTED,m_MOST_LISTED⟩:=jy;refine F.okMX zm (λhr=>(Br (vZ (jxk CR_want_number hr (j3 (jv 0) jj (Zp rfl m_MOST_LISTED)))) (Zt (JS.nox (yA (jk jH hr (j3 (jv 0) jj (Zp rfl m_MOST_LISTED))))) (CB (jxk CR_slowest_power hr (j1 (jv 0))))))) ?_;rintro ds h R ⟨d,rfl,ok,bad,q⟩;refine⟨rfl,?_⟩;exact .inl ⟨_,rfl,d,1,3,rfl,ok,bad,q⟩
def ZR:RDn:=λds h Q=> ∃ns k,ds= [.scr ns,.int k]/\0<=k/\ ∀n,Q (.int n) h
theorem Xw (Z:Zs mg)(F:Fun K "_law_cell" "_law_cell" Jg f fd):FnOk P w K mg base CX0 (n+1) f fd ["_law_script","_law_k"] (LSp K ZR):=by
 refine F.okM Xp (λhr=>(js2 (WP (jt1 Lb (jv 1) (Xk Z (jv 0))) (zO (ji1 (jv 0) (jv 1)))) (zO jj))) ?_;rintro ds h Q ⟨ns,k,rfl,h0,q⟩;refine⟨rfl,?_⟩;simp only [yR,Nh,yV,dOp,Wg,jR,T2,E9,D4,M7,C9,F0,B8,M0,B4,dCB,jP,vE,NI,NG,D.bl.injEq,Vo,ixD,Wy,C6,Ys,dC];refine Pc (λc=> ?_) (λ_=>⟨h,Sub.refl h,q 0⟩);have c':k<(ns.length:P2):=U2 c;have hk:k.toNat<ns.length:=by omega
 have ek:k=((k.toNat:G8):P2):=by omega
 have z:=Wq (P8 hk);rw [<-ek] at z;exact⟨ns[k.toNat],z,h,Sub.refl h,q _⟩
def Yi:RDn:=λds h Q=> ∃c,ds= [.int c]/\ ∀p l fl,h p=none->0<=l->(fl=0\/fl=1)->Q (.lst p) (wc h p [.int l,.int fl])
theorem QR (Z:Zs mg)(F:Fun K "_law_pen" "_law_pen" ZD f fd):FnOk P w K mg base CX0 (n+1) f fd ["_law_cell_here"] (LSp K Yi):=by
 refine F.okM WV (λhr=>(js2 (jse 1 WV (yX (Es rfl) rfl Z.max (by decide +kernel) (j2 (jv 0) (jop YQ jj (jv 0))))) (zO (wQ (j2 (jv 1) (zp Rl rfl Z.int (by decide +kernel) (j1 (jc1 NH (jv 1) (jop UE jj jj))))))))) ?_;rintro ds h Q ⟨c,rfl,q⟩;refine⟨rfl,?_⟩;simp only [yR,XZ,dCB,jP,Wg,jR,T2,E9,D4,M7,S7,C9,F0,M0,B4,dOp,dC,Kw,vE,Hi,Vo,NC,K9,Q0,B8,Tg,NG,Hh,Wy,C6];refine⟨⟨by decide,by decide,by decide⟩,by decide,λp hp=>⟨_,Sub.refl _,q p _ _ hp ?_ ?_⟩⟩
 ·split<;>omega
 ·split<;>simp<;>omega
def zE:RDn:=λds h Q=> ∃p l fl m,ds= [.lst p,.int m]/\h p=some [.int l,.int fl]/\0<=l/\0<m/\m<2^200/\ ∀r l',0<=r->r<m->0<=l'->Q (.int r) (wc h p [.int l',.int fl])
theorem Xx (Z:Zs mg)(F:Fun K "_law_draw" "_law_draw" Jh f fd):FnOk P w K mg base CX0 (n+1) f fd ["_law_pen_here","_law_many"] (LSp K zE):=by
 refine F.okM yb (λhr=>(js5 (EN (jt1 oq_eq (ji1 (jv 0) jj) jj) (js3 (Hs (yX Ps rfl Z.divmod (by decide +kernel) (j2 (ji1 (jv 0) jj) (jv 1))) (Ct (i:=2) (j:=3) rfl yb.nd rfl rfl (W6 rfl) (W6 rfl))) (Hs (jv 2) (Cu (jv 0) jj)) (zO (jv 3))) UN) (jse 4 yb (jop Wz (jop zu (jop jE (jop Wz (ji1 (jv 0) jj) jj) jj) jj) jj)) (jse 4 yb (jop Wz (jop jE (jop zu (jv 4) (jv 4)) jj) jj)) (Hs (jop Wz (jop jE (jop zu (jv 4) jj) jj) jj) (Cu (jv 0) jj)) (zO (jop Wz (jop La (ji1 (jv 0) jj) jj) (jv 1))))) ?_;rintro ds h Q ⟨p,l,fl,m,rfl,hp,h0,hm,hm2,q⟩;refine⟨rfl,?_⟩;refine wI [some (.lst p),some (.int m),none,none,none] (λC hC=>⟨_,rfl,_,_,hp,rfl,?_⟩) ?_
 ·show ∃k,D.bl (decide (fl=1))= .bl k/\_;refine⟨_,rfl,Pc (λ_=> ?_) λ_=>hC⟩;exact⟨_,rfl,_,_,hp,rfl,_,rfl,_,_,rfl,⟨hm,hm2⟩,_,_,rfl,_,rfl,_,rfl,p,0,_,0,rfl,rfl,hp,rfl,_,rfl,_,Sub.refl _,q (l%m) (l / m) (fM _ (v7 hm)) (g7 _ hm) (Int.ediv_nonneg h0 (u3 hm))⟩
 refine jg (λσ' h'=> ∃z:P2,σ'= [some (.lst p),some (.int m),none,none,some (.int z)]/\(0<=z/\z<2147483629)/\h=h') (λC hC=>⟨_,rfl,_,_,hp,rfl,by decide,.inr ⟨by decide,by decide⟩,by decide,hC _ _ ⟨_,rfl,⟨fM _ (by decide),g7 _ (by decide)⟩,rfl⟩⟩) ?_;rintro _ _ ⟨z,rfl,⟨z0,z1⟩,rfl⟩;refine jg (λσ' h'=> ∃y:P2,σ'= [some (.lst p),some (.int m),none,none,some (.int y)]/\h=h') (λC hC=>⟨_,rfl,_,rfl,.inl ⟨oF (by decide) z0,Int.lt_trans z1 (by decide)⟩,by decide,hC _ _ ⟨_,rfl,rfl⟩⟩) ?_;rintro _ _ ⟨y,rfl,rfl⟩;refine jg (λσ' h'=> ∃x:P2,σ'= [some (.lst p),some (.int m),none,none,some (.int y)]/\0<=x/\h'=wc h p [.int x,.int fl]) (λC hC=>⟨_,rfl,.inr ⟨by decide,by decide⟩,by decide,_,rfl,p,0,_,0,rfl,rfl,hp,rfl,hC _ _ ⟨_,rfl,fM _ (by decide),rfl⟩⟩) ?_;rintro _ _ ⟨x,rfl,x0,rfl⟩;exact⟨_,rfl,_,_,ja,rfl,⟨by decide,by decide⟩,_,rfl,hm,_,Sub.refl _,q (x / 32%m) x (fM _ (v7 hm)) (g7 _ hm) x0⟩
theorem Ue (Z:Zs mg)(F:Fun K "_law_whole" "_law_whole" wV f fd):FnOk P w K mg base CX0 (n+1) f fd ["_law_thing"] (LSp K jW):=by
 refine F.okM JM (λhr=>(jL (zO (RB (WD (T:= "int") (by decide) rfl Z.isinstance rfl Z.int (by decide +kernel) (jv 0)) (Pp (Hr (WD (T:= "bool") (by decide) rfl Z.isinstance rfl Z.bool (by decide +kernel) (jv 0)))))))) ?_;rintro ds h Q ⟨d,nm,rfl,hn,q⟩;refine⟨rfl,?_⟩;simp only [Vo,Pf,dIs,Wg,jR,T2,E9,D4,M7,C9,F0,M0,B4,D.bl.injEq,Pg,Wy,C6,hn];cases d<;>cases hn<;>exact⟨h,Sub.refl h,q⟩
theorem YG (Z:Zs mg)(Ex:ExcF K mg)(F:Fun K "_law_whole" "_law_whole" wV f fd):FnOkU P w K mg base CX0 (n+1) f fd ["_law_thing"] (LSp K jW):=by
 refine F.okJU JM (λds h Q q=>by obtain⟨d,nm,e,hn,q⟩:=q;subst e;rfl) _ (λcdv A outer s H E hr=>(jL (zO (RB (WD (T:= "int") (by decide) rfl Z.isinstance rfl Z.int (by decide +kernel) (jv 0)) (Pp (Hr (WD (T:= "bool") (by decide) rfl Z.isinstance rfl Z.bool (by decide +kernel) (jv 0)))))))) ?_;intro ds h Q q;obtain⟨d,nm,e,hn,q⟩:=q;subst e;simp only [Vo,Pf,dIs,Wg,jR,T2,E9,D4,M7,C9,F0,M0,B4,D.bl.injEq,Pg,Wy,C6,hn];cases d<;>cases hn<;>exact⟨h,Sub.refl h,q⟩
def Dg (c:Str)(n:G8):G0 D:=((CN13.map λd=>c==d).take n).map D.bl
def Cd (c:Str):G0 C4:=(CN13.map λd=>c==d).map qT
def wordsD:G0 D:=(["table","place","number","order","set","walk","lengths","way","apart","row","tables","text","great"]:G0 Str).map D.str
theorem Nb: ∀bs:G0 N0,ToPs h (bs.map D.bl) (bs.map qT)
 | []=>rfl
 |b::bs=>⟨_,_,rfl,rfl,Nb bs⟩
theorem jU {l:G0 N0}{j:G8}(h:(l.take j).all (!·)=true){m:G8}{y:C4}(hm:m<j)(e:(l.map qT)[m]? =some y):M9 y (.bool true)=false:=by
 rw [D6] at e;obtain⟨b,e1,rfl⟩:=O1.mp e;have:=M8.mp h b (M3 (i:=m) (by rw [cG hm];exact e1));cases b with
 |true=>cases this
 |false=>rfl
theorem ST {c:Str}(hc:c∈CN13): ∃j:G8,j<13/\(Cd c)[j]? =some (.bool true)/\(∀m y,m<j->(Cd c)[m]? =some y->M9 y (.bool true)=false)/\atI wordsD (j:P2)=some (D.str (VP c))/\((Cd c).countP λz=>M9 z (.bool true))=1:=by
 simp only [CN13,P9,N6,or_false] at hc;rcases hc with rfl|rfl|rfl|rfl|rfl|rfl|rfl|rfl|rfl|rfl|rfl|rfl|rfl
 ·exact⟨0,by decide,rfl,λm y=>jU rfl,rfl,rfl⟩
 ·exact⟨1,by decide,rfl,λm y=>jU rfl,rfl,rfl⟩
 ·exact⟨2,by decide,rfl,λm y=>jU rfl,rfl,rfl⟩
 ·exact⟨3,by decide,rfl,λm y=>jU rfl,rfl,rfl⟩
 ·exact⟨4,by decide,rfl,λm y=>jU rfl,rfl,rfl⟩
 ·exact⟨5,by decide,rfl,λm y=>jU rfl,rfl,rfl⟩
 ·exact⟨6,by decide,rfl,λm y=>jU rfl,rfl,rfl⟩
 ·exact⟨7,by decide,rfl,λm y=>jU rfl,rfl,rfl⟩
 ·exact⟨8,by decide,rfl,λm y=>jU rfl,rfl,rfl⟩
 ·exact⟨9,by decide,rfl,λm y=>jU rfl,rfl,rfl⟩
 ·exact⟨10,by decide,rfl,λm y=>jU rfl,rfl,rfl⟩
 ·exact⟨11,by decide,rfl,λm y=>jU rfl,rfl,rfl⟩
 ·exact⟨12,by decide,rfl,λm y=>jU rfl,rfl,rfl⟩
theorem Uf (Z:Zs mg)(Ex:ExcF K mg)(F:Fun K "_law_kind" "_law_kind" Ji f fd):FnOkU P w K mg base CX0 (n+1) f fd ["_law_e"] (LSp K (QC mg)):=by
 obtain⟨D_NoOrder,m_NoOrder⟩:=Ex.cls "NoOrder" (by decide);obtain⟨D_NoNumber,m_NoNumber⟩:=Ex.cls "NoNumber" (by decide);obtain⟨D_NoPlace,m_NoPlace⟩:=Ex.cls "NoPlace" (by decide);obtain⟨D_NoTable,m_NoTable⟩:=Ex.cls "NoTable" (by decide);obtain⟨D_NoLengths,m_NoLengths⟩:=Ex.cls "NoLengths" (by decide);obtain⟨D_NoWalk,m_NoWalk⟩:=Ex.cls "NoWalk" (by decide);obtain⟨D_NoSet,m_NoSet⟩:=Ex.cls "NoSet" (by decide);obtain⟨D_NoRow,m_NoRow⟩:=Ex.cls "NoRow" (by decide);obtain⟨D_Apart,m_Apart⟩:=Ex.cls "Apart" (by decide);obtain⟨D_NoWay,m_NoWay⟩:=Ex.cls "NoWay" (by decide);obtain⟨D_TooGreat,m_TooGreat⟩:=Ex.cls "TooGreat" (by decide);obtain⟨D_NoText,m_NoText⟩:=Ex.cls "NoText" (by decide);obtain⟨D_NoTables,m_NoTables⟩:=Ex.cls "NoTables" (by decide);refine F.okJU zC (λds h Q q=>by obtain⟨c,C,fs,e,hc,hm,q⟩:=q;subst e;rfl) _ (λcdv A outer s H E hr=>(js7 (jse 1 zC (wQ (j4 (Zy rfl Z.isinstance rfl m_NoTable (jv 0)) (Zy rfl Z.isinstance rfl m_NoPlace (jv 0)) (Zy rfl Z.isinstance rfl m_NoNumber (jv 0)) (Zy rfl Z.isinstance rfl m_NoOrder (jv 0))))) (jse 1 zC (jop jE (jv 1) (wQ (j3 (Zy rfl Z.isinstance rfl m_NoSet (jv 0)) (Zy rfl Z.isinstance rfl m_NoWalk (jv 0)) (Zy rfl Z.isinstance rfl m_NoLengths (jv 0)))))) (jse 1 zC (jop jE (jv 1) (wQ (j3 (Zy rfl Z.isinstance rfl m_NoWay (jv 0)) (Zy rfl Z.isinstance rfl m_Apart (jv 0)) (Zy rfl Z.isinstance rfl m_NoRow (jv 0)))))) (jse 1 zC (jop jE (jv 1) (wQ (j3 (Zy rfl Z.isinstance rfl m_NoTables (jv 0)) (Zy rfl Z.isinstance rfl m_NoText (jv 0)) (Zy rfl Z.isinstance rfl m_TooGreat (jv 0)))))) (WP (jpt (OU (Jw (vG (HW (T:= "ValueError") rfl Z.isinstance rfl Ex.ve (by decide +kernel) (jv 0)))) (OT (jt1 oq_ne (ur hr.units (jv 1) jbl) jj)))) (zO yS)) (jse 2 zC (wQ (jac yS (by exact(jac yS (by exact(jac yS (by exact(jac yS (by exact(jac yS (by exact(jac yS (by exact(j4 yS yS yS yS))))))))))))))) (zO (ji1 (jop jE (jv 2) (wQ (j3 yS yS yS))) (KI hr.units (jv 1) jbl))))) ?_;intro ds h Q q;obtain⟨c,C,fs,e,hc,hm,q⟩:=q;subst e;have kit: ∀d∈CN13,∀D,mg d=some (.ref D)->gA K (.ref C) (.ref D)=some (c==d):=λd hd D hD=>Ex.kit13 c hc d hd C D hm hD
 have ek:=Ex.ek13 c hc C hm;have kv:=Ex.val13 c hc C hm;refine jg (λσ' h'=> ∃p,σ'= [some (.exf C fs),some (.lst p),none]/\Sub h h'/\h' p=some (Dg c 4)) (λC2 hC=>⟨_,rfl,C,fs,_,rfl,ek,kit _ (by decide) _ m_NoTable,_,rfl,C,fs,_,rfl,ek,kit _ (by decide) _ m_NoPlace,_,rfl,C,fs,_,rfl,ek,kit _ (by decide) _ m_NoNumber,_,rfl,C,fs,_,rfl,ek,kit _ (by decide) _ m_NoOrder,sz4,λp e=>hC _ _ ⟨p,rfl,Sub.newAt (Sub.refl h) e,ja⟩⟩) ?_;rintro _ h1 ⟨p,rfl,sb,k1⟩;refine jg (λσ' h'=> ∃p,σ'= [some (.exf C fs),some (.lst p),none]/\Sub h h'/\h' p=some (Dg c 7)) (λC2 hC=>⟨_,rfl,_,rfl,C,fs,_,rfl,ek,kit _ (by decide) _ m_NoSet,_,rfl,C,fs,_,rfl,ek,kit _ (by decide) _ m_NoWalk,_,rfl,C,fs,_,rfl,ek,kit _ (by decide) _ m_NoLengths,sz3,λp2 e2=>⟨_,_,jc k1 e2,ja,(by show 7<=sizeLine;decide),λp3 e3=>hC _ _ ⟨p3,rfl,Sub.newAt (Sub.newAt sb e2) e3,ja⟩⟩⟩) ?_;rintro _ h1 ⟨p,rfl,sb,k1⟩;refine jg (λσ' h'=> ∃p,σ'= [some (.exf C fs),some (.lst p),none]/\Sub h h'/\h' p=some (Dg c 10)) (λC2 hC=>⟨_,rfl,_,rfl,C,fs,_,rfl,ek,kit _ (by decide) _ m_NoWay,_,rfl,C,fs,_,rfl,ek,kit _ (by decide) _ m_Apart,_,rfl,C,fs,_,rfl,ek,kit _ (by decide) _ m_NoRow,sz3,λp2 e2=>⟨_,_,jc k1 e2,ja,(by show 10<=sizeLine;decide),λp3 e3=>hC _ _ ⟨p3,rfl,Sub.newAt (Sub.newAt sb e2) e3,ja⟩⟩⟩) ?_;rintro _ h1 ⟨p,rfl,sb,k1⟩;refine jg (λσ' h'=> ∃p,σ'= [some (.exf C fs),some (.lst p),none]/\Sub h h'/\h' p=some (Dg c 13)) (λC2 hC=>⟨_,rfl,_,rfl,C,fs,_,rfl,ek,kit _ (by decide) _ m_NoTables,_,rfl,C,fs,_,rfl,ek,kit _ (by decide) _ m_NoText,_,rfl,C,fs,_,rfl,ek,kit _ (by decide) _ m_TooGreat,sz3,λp2 e2=>⟨_,_,jc k1 e2,ja,(by show 13<=sizeLine;decide),λp3 e3=>hC _ _ ⟨p3,rfl,Sub.newAt (Sub.newAt sb e2) e3,ja⟩⟩⟩) ?_;rintro _ h1 ⟨p,rfl,sb,k1⟩;have hpG: ∀h':HD,h' p=some (Dg c 13)->ToP h' (.lst p) (.list (Cd c)):=λh' k=>⟨p,_,rfl,k,Nb _⟩
 obtain⟨j,hj,hz,hno,hw,hcnt⟩:=ST hc;refine wI [some (.exf C fs),some (.lst p),none] (λC2 hC=>⟨_,rfl,C,fs,_,rfl,ek,kv,_,rfl,vv ⟨_,rfl,p,rfl,.bool true,_,hpG h1 k1,rfl,rfl,rfl,by simp [O3],_,rfl,?_⟩⟩) ?_
 ·rw [hcnt];exact vv (hC)
 refine jg (λσ' h'=> ∃w,σ'= [some (.exf C fs),some (.lst p),some (.lst w)]/\Sub h1 h'/\h' p=some (Dg c 13)/\h' w=some (wordsD.take 10)) (λC2 hC=>⟨(by show 10<=sizeLine;decide),λw e=>hC _ _ ⟨w,rfl,Sub.newAt (Sub.refl h1) e,jc k1 e,ja⟩⟩) ?_;rintro _ h2 ⟨w,rfl,sb2,kp2,kw⟩;exact⟨_,rfl,sz3,λp4 e4=>⟨_,_,jc kw e4,ja,(by show 13<=sizeLine;decide),λp5 e5=>⟨_,rfl,p,rfl,.bool true,_,j,_,hpG _ (jc (jc kp2 e4) e5),rfl,rfl,rfl,by simp [O3],by omega,hz,rfl,hno,_,_,ja,hw,_,Sub.refl _,q _ (Sub.newAt (Sub.newAt (sb.trans sb2) e4) e5)⟩⟩⟩
theorem ON (Z:Zs mg)(Ex:ExcF K mg)(F:Fun K "_law_said" "_law_said" Jj f fd)(CU:VD P w K mg base n "_law_kind" ["_law_e"] (QC mg))(CW:VD P w K mg base n "_law_whole" ["_law_thing"] jW):FnOkS P w K mg base CX0 (n+2) f fd ["_law_call"] (VR P w K mg base n):=by
 obtain⟨gU,gdU,GU,bGU,kGU,mGU⟩:=CU;obtain⟨gW,gdW,GW,bGW,kGW,mGW⟩:=CW;obtain⟨pe,hpe,hex⟩:=Ex.pe13;refine BX F ZU rfl rfl rfl rfl rfl hpe hex _ (λcdv A outer s H E x hr=>jF (KC (i:=3) ZU.nd rfl (W6 rfl) (Gq GU hr rfl mGU kGU bGU (jac (jv 2) zn)))
  (jF (EN (Ry (Hw hr.units) (jv 3) (zQ (jac yS (jac yS zn))) (by with_unfolding_all rfl)) (jL (zO (zQ (jac (jv 3) (jac (jif (vG (Gq GW hr rfl mGW kGW bGW (jac (Dc (f:= "at") (hB:=MW) (jv 2)) zn))) (Dc (f:= "at") (hB:=MW) (jv 2)) Po) zn))))) UN)
  (jF (EN (Ry oq_eq (jv 3) yS (DI _)) (jL (zO (zQ (jac (jv 3) (jac (jif (vG (Gq GW hr rfl mGW kGW bGW (jac (Dc (f:= "many") (hB:=WS) (jv 2)) zn))) (Dc (f:= "many") (hB:=WS) (jv 2)) Po) (jac (jif (vG (Gq GW hr rfl mGW kGW bGW (jac (Dc (f:= "most") (hB:=WT) (jv 2)) zn))) (Dc (f:= "most") (hB:=WT) (jv 2)) Po) zn)))))) UN)
  (jL (zO (zQ (jac (jv 3) zn))))))) ?_
 intro c C h Qd hok hm q;refine⟨_,rfl,c.nm,C,c.fs,rfl,VQ hok,hm,λh' sb=> ?_⟩;have fld: ∀ (w:Str) (fs:G0 (Str×P2)) (f:B2) (a:P2) (fI:G5) (ns:G0 B2) (Q:KD),fs.lookup (G6 f)=some a->IniK K C fI ns->f∈ns->Q (.int a) h'->dIf (yV (dCB jW (jP (Oz K f (Wg 2)) vE))) (Oz K f (Wg 2)) (dC .non) [none,none,some (.exf C fs),some (.str w)] h' Q:=λw fs f a fI ns Q hl hi hf hq=>
  ⟨_,rfl,C,fs,a,fI,ns,rfl,hl,hi,hf,_,_,rfl,rfl,_,rfl,Vj ⟨_,rfl,C,fs,a,fI,ns,rfl,hl,hi,hf,hq⟩⟩
 have words: ∀w:Str,(Y8 w).canLay0=true-> ∀Q:N0->HD->Prop,Q ((false !=G0q [Y8 "tables",Y8 "text"] λz=>M9 z (.str w))) h'->yV (dOp (inE false) (Wg 3) (Cn (jP (dC (.str "tables")) (jP (dC (.str "text")) vE)))) [none,none,some (.exf C c.fs),some (.str w)] h' Q:=λw hw Q hq=>
  ⟨_,rfl,(by show 2<=sizeLine;decide),.str w,[.str "tables",.str "text"],rfl,.inr ⟨_,rfl,⟨_,_,rfl,rfl,_,_,rfl,rfl,rfl⟩⟩,hw,by decide +kernel,by simp [O3],_,rfl,hq⟩
 rcases De hok with ⟨hc,e⟩|⟨a,rfl⟩|⟨a,rfl⟩|⟨a,b,rfl⟩
 ·obtain⟨nm,fs⟩:=c;cases e;have e0:(Y8 (VP nm)).canLay0=true/\((false !=G0q [Y8 "tables",Y8 "text"] λz=>M9 z (.str (VP nm))))=false/\decide (VP nm= "great")=false:=by
   simp only [CN,P9,N6,or_false] at hc;rcases hc with rfl|rfl|rfl|rfl|rfl|rfl|rfl|rfl|rfl|rfl<;>exact⟨by decide +kernel,rfl,rfl⟩
  refine words _ e0.1 _ ?_;rw [e0.2.1];refine vv ⟨_,rfl,_,rfl,?_⟩;rw [e0.2.2];exact vv ⟨_,rfl,(by show 1<=sizeLine;decide),h,sb,q⟩
 ·obtain⟨fI,I0⟩:=Ex.ini "NoTables" (by decide) C hm;refine words _ (by show (Y8 (VP "NoTables")).canLay0=true;decide +kernel) _ (Vj ⟨_,rfl,fld _ _ "at" a fI _ _ rfl I0 (by decide) ⟨(by show 2<=sizeLine;decide),h,sb,q⟩⟩)
 ·obtain⟨fI,I0⟩:=Ex.ini "NoText" (by decide) C hm;refine words _ (by show (Y8 (VP "NoText")).canLay0=true;decide +kernel) _ (Vj ⟨_,rfl,fld _ _ "at" a fI _ _ rfl I0 (by decide) ⟨(by show 2<=sizeLine;decide),h,sb,q⟩⟩)
 ·obtain⟨fI,I0⟩:=Ex.ini "TooGreat" (by decide) C hm;refine words _ (by show (Y8 (VP "TooGreat")).canLay0=true;decide +kernel) _ (vv ⟨_,rfl,_,rfl,Vj ⟨_,rfl,fld _ _ "many" a fI _ _ rfl I0 (by decide) (fld _ _ "most" b fI _ _ rfl I0 (by decide) ⟨(by show 3<=sizeLine;decide),h,sb,q⟩)⟩⟩)
def Yj:RDn:=λds h Q=> ∃p l fl,ds= [.lst p]/\h p=some [.int l,.int fl]/\0<=l/\ ∀d l' h',okD d=true->Th (Vm h' p) d->But p h h'->h' p=some [.int l',.int fl]->0<=l'->Q d h'
theorem QU (Z:Zs mg)(F:Fun K "_law_odd" "_law_odd" ZE f fd)(jr:jh P w K mg base n "_law_draw" ["_law_pen_here","_law_many"] zE):FnOk P w K mg base CX0 (n+1) f fd ["_law_pen_here"] (LSp K Yj):=by
 refine F.okM WW (λhr=>(js2 (jse 1 WW (wQ (jac Po (by exact(jac jbl (by exact(jac jbl (by exact(jac (ER jj) (by exact(jac yS (by exact(jac yS (by exact(jac (zQ zn) (by exact(jac (wQ zn) (by exact(jac (zQ (j1 jj)) (by exact(jac (wQ (j1 jj)) (by exact(jac Cv (by exact(j4 (zQ (j2 jj jj)) (jop UE jj jj) (zQ (j2 jj (zQ zn))) (zQ (j1 (zQ zn)))))))))))))))))))))))))))) (zO (ji1 (jop jE (jv 1) (wQ (j1 (zQ (j1 (zQ (j1 jj))))))) (jk jr hr (j2 (jv 0) jj)))))) ?_;rintro ds h Q ⟨p,l,fl,rfl,hp,h0,q⟩;refine⟨rfl,?_⟩;simp only [yR,XZ,NC,jP,dC,dUn,OS,Cn,vE,M7,D4,UJ,dOp,Tg,Vo,Wg,jR,T2,E9,S7,C9,F0,K9,Q0,B8,M0,B4,He,dCB,ixD,C6,Wy]
 repeat (first|intro _|refine⟨by decide,?_⟩|refine⟨⟨by decide,by decide,by decide⟩,?_⟩)
 rename_i p1 e1 p2 e2 p4 e4 p5 e5;have k1:=jc (M:= []) hp e1;have k2:=jc (M:= [.int 0]) k1 e2;have n1:p1≠p:=jx hp e1;have n2:p2≠p:=jx k1 e2;refine⟨_,_,jl (O0 (Ll e5)) ja,ja,by simp only [D4,M7];decide,λp6 e6=> ?_⟩;refine⟨p,l,fl,16,rfl,jc (jc (jc k2 e4) e5) e6,h0,by decide,by decide,λr l' r0 r1 l0=> ?_⟩;obtain⟨d,hd,ed⟩:=ye (xs:= [D.non,D.bl true,D.bl false,D.int (-1),D.str (G6 "1"),D.str (G6 ""),D.tup [],D.lst p1,D.tup [D.int 0],D.lst p2,D.dic (G6 "a") 1,D.tup [D.int 0,D.int 1],D.int (10^fW 30),D.tup [D.int 0,D.tup []],D.tup [D.tup []]]++ [D.tup [D.tup [D.int 0]]]) r0 r1;refine⟨_,d,jl (jx (jc (jc k2 e4) e5) e6) ja,ed,_,Sub.refl _,q d l' _ (JP ?_ d hd) ?_ ((((((But.refl p h).new e1).new e2).new e4).new e5).new e6).put ja l0⟩
 ·rfl
 ·simp only [T4,P9,N6,or_false] at hd;rcases hd with (e|e|e|e|e|e|e|e|e|e|e|e|e|e|e)|e<;>subst e
  all_goals first
   |exact SmK.th (RO 2 _ (by decide +kernel))
   |exact .inr (.inr rfl)
   |exact Th.lst (UT n1 (jl n1 (jc (jc (jc (jc ja e2) e4) e5) e6))) (by decide) (by simp)
   |exact Th.lst (UT n2 (jl n2 (jc (jc (jc ja e4) e5) e6))) (by decide) (λx hx=>by rw [P4.mp hx];exact RO 1 _ (by decide +kernel))
def ZS:RDn:=λds h Q=> ∃p l fl,ds= [.lst p]/\h p=some [.int l,.int fl]/\0<=l/\ ∀ (k:G8) l',1<=k->k<=6->0<=l'->Q (.int (k:P2)) (wc h p [.int l',.int fl])
theorem Xy (Z:Zs mg)(F:Fun K "_law_size" "_law_size" Jk f fd)(jr:jh P w K mg base n "_law_draw" ["_law_pen_here","_law_many"] zE):FnOk P w K mg base CX0 (n+1) f fd ["_law_pen_here"] (LSp K ZS):=by
 refine F.okM Xq (λhr=>(jL (zO (ji1 (wQ (jac jj (by exact(jac jj (by exact(jac jj (by exact(jac jj (by exact(jac jj (by exact(jac jj (by exact(jac jj (by exact(jac jj (by exact(j4 jj jj jj jj)))))))))))))))))) (jk jr hr (j2 (jv 0) jj)))))) ?_;rintro ds h Q ⟨p,l,fl,rfl,hp,h0,q⟩;refine⟨rfl,?_⟩;simp only [Vo,dOp,NC,jP,dC,vE,D4,M7,dCB,Wg,jR,T2,E9,C9,F0,M0,B4,ixD,Wy,C6];refine⟨by decide,λp1 e1=>⟨p,l,fl,12,rfl,jc hp e1,h0,by decide,by decide,λr l' r0 r1 l0=> ?_⟩⟩;obtain⟨d,hd,ed⟩:=ye (xs:= [D.int 1,D.int 2,D.int 3,D.int 4,D.int 5,D.int 3,D.int 4,D.int 2,D.int 6,D.int 5,D.int 4,D.int 3]) r0 r1;refine⟨_,d,jl (jx hp e1) ja,ed,_,Sub.both (Sub.newAt (Sub.refl h) e1),?_⟩;have q': ∀k:G8,1<=k->k<=6->Q (.int (k:P2)) (wc h p [.int l',.int fl]):=λk a b=>q k l' a b l0
 simp only [P9,N6,or_false] at hd;rcases hd with e|e|e|e|e|e|e|e|e|e|e|e<;>subst e
 ·exact q' 1 (by decide) (by decide)
 ·exact q' 2 (by decide) (by decide)
 ·exact q' 3 (by decide) (by decide)
 ·exact q' 4 (by decide) (by decide)
 ·exact q' 5 (by decide) (by decide)
 ·exact q' 3 (by decide) (by decide)
 ·exact q' 4 (by decide) (by decide)
 ·exact q' 2 (by decide) (by decide)
 ·exact q' 6 (by decide) (by decide)
 ·exact q' 5 (by decide) (by decide)
 ·exact q' 4 (by decide) (by decide)
 ·exact q' 3 (by decide) (by decide)
def Zc:RDn:=λds h Q=> ∃p l fl,∃k:G8,ds= [.lst p,.int (k:P2)]/\h p=some [.int l,.int fl]/\0<=l/\1<=k/\k<=6/\ ∀T l',GoodTab k T->0<=l'->Q (jG T) (wc h p [.int l',.int fl])
theorem Ug (Z:Zs mg)(F:Fun K "_law_table" "_law_table" vn f fd)(jr:jh P w K mg base n "_law_draw" ["_law_pen_here","_law_many"] zE):FnOk P w K mg base CX0 (n+1) f fd ["_law_pen_here","_law_size_here"] (LSp K Zc):=by
 refine F.okM jB (λhr=>(js5 (KG (i:=2) (j:=3) rfl jB.nd rfl rfl (by decide) rfl rfl (j2 (jk jr hr (j2 (jv 0) jj)) (ji1 (wQ (j3 jj jj jj)) (jk jr hr (j2 (jv 0) jj)))) rfl) (jse 4 jB (ji1 (wQ (j4 jj jj jj (jop UE jj jj))) (jk jr hr (j2 (jv 0) jj)))) (jse 5 jB (wQ zn)) (Ni J9 rfl (jrg Z (jv 1)) (jgn 6 jB) (js3 (jse 7 jB (wQ zn)) (Ni J9 rfl (jrg Z (jv 1)) (jgn 8 jB) (js5 (jse 9 jB (jc1 oq_eq (jk jr hr (j2 (jv 0) (jv 3))) jj)) (WP (jt1 Lb (jv 2) jj) (jse 9 jB (jor (jc1 oq_eq (jv 8) (jop Wz (jop jE (jv 6) jj) (jv 1))) (Pp (RB (jv 9) (Pp (jc1 (UK hr.units) (jk jr hr (j2 (jv 0) jj)) (jv 2)))))))) (WP (jt1 oq_eq (jv 2) jj) (jse 9 jB (jor (RB (jv 9) (Pp (jc1 oq_eq (jop Wz (jop YQ (jv 8) (jv 6)) jj) jj))) (Pp (jc1 (UK hr.units) (jv 8) (jop jE (jv 6) jj)))))) (WP (jt1 oq_eq (jv 2) jj) (jse 9 jB (RB (jv 9) (Pp (jc1 NH (jv 8) (jv 6)))))) (yA (EQ (jv 7) (jop zu (zp Rl rfl Z.int (by decide +kernel) (j1 (jv 9))) (jop jE jj (jk jr hr (j2 (jv 0) (jv 4))))))))) (yA (EQ (jv 5) (zp cq_tuple rfl Z.tuple (by decide +kernel) (j1 (jv 7))))))) (zO (zp cq_tuple rfl Z.tuple (by decide +kernel) (j1 (jv 5)))))) ?_;rintro ds h Q ⟨p,l,fl,k,rfl,hp,h0,hk1,hk6,q⟩;refine⟨rfl,?_⟩;refine jg (λσ' h'=> ∃way o l2,σ'= [some (.lst p),some (.int (k:P2)),some (.int way),some (.int o),none,none,none,none,none,none]/\0<o/\o<1000/\0<=l2/\h' p=some [.int l2,.int fl]/\But p h h') (λC hC=>⟨_,rfl,p,l,fl,6,rfl,hp,h0,by decide,by decide,λway l1 w0 w1 l10=>⟨sz3,λp1 e1=>⟨_,rfl,p,l1,fl,3,rfl,jc ja e1,l10,by decide,by decide,λr l2 r0 r1 l20=> ?_⟩⟩⟩) ?_
 ·obtain⟨oft,ho,eo⟩:=ye (xs:= [D.int 2,D.int 3,D.int 5]) r0 r1;obtain⟨o,e,o1,o2⟩: ∃o:P2,oft= .int o/\0<o/\o<1000:=by
   simp only [P9,N6,or_false] at ho;rcases ho with e|e|e<;>exact⟨_,e,by decide,by decide⟩
  subst e;exact⟨_,_,jl (jx ja e1) ja,eo,_,_,rfl,hC _ _ ⟨way,o,l2,rfl,o1,o2,l20,ja,((But.upd).new e1).put⟩⟩
 rintro _ h1 ⟨way,o,l2,rfl,o1,o2,l20,kA,bA⟩;refine jg (λσ' h'=> ∃m l3,σ'= [some (.lst p),some (.int (k:P2)),some (.int way),some (.int o),some (.int m),none,none,none,none,none]/\0<m/\m<=1000000/\0<=l3/\h' p=some [.int l3,.int fl]/\But p h h') (λC hC=>⟨⟨by decide,by decide,by decide⟩,sz4,λp1 e1=>⟨_,rfl,p,l2,fl,4,rfl,jc kA e1,l20,by decide,by decide,λr l3 r0 r1 l30=> ?_⟩⟩) ?_
 ·obtain⟨most,ho,eo⟩:=ye (xs:= [D.int 1,D.int 1,D.int 3,D.int (10^fW 6)]) r0 r1;obtain⟨m,e,m1,m2⟩: ∃o:P2,most= .int o/\0<o/\o<=1000000:=by
   simp only [P9,N6,or_false] at ho;rcases ho with e|e|e|e<;>exact⟨_,e,by decide,by decide⟩
  subst e;exact⟨_,_,jl (jx kA e1) ja,eo,hC _ _ ⟨m,l3,rfl,m1,m2,l30,ja,(bA.new e1).put⟩⟩
 clear kA bA;rintro _ h2 ⟨m,l3,rfl,m1,m2,l30,kB,bB⟩;refine jg (λσ' h'=> ∃R,σ'= [some (.lst p),some (.int (k:P2)),some (.int way),some (.int o),some (.int m),some (.lst R),none,none,none,none]/\R≠p/\h R=none/\h' R=some []/\h' p=some [.int l3,.int fl]/\But p h h') (λC hC=>⟨sz0,λR eR=>hC _ _ ⟨R,rfl,jx kB eR,Rw bB eR (jx kB eR),ja,jc kB eR,bB.new eR⟩⟩) ?_;clear kB bB;rintro _ h3 ⟨R,rfl,nR,fR,kR,kC,bC⟩;refine jg (λσ' h'=> ∃a b c d l4 rows,σ'= [some (.lst p),some (.int (k:P2)),some (.int way),some (.int o),some (.int m),some (.lst R),a,b,c,d]/\0<=l4/\h' p=some [.int l4,.int fl]/\h' R=some (rows.map wE)/\But p h h'/\GoodTab k rows) (λC hC=> ?_) (λσ' h' ⟨a,b,c,d,l4,rows,e,l40,kD,kE,bD,g⟩=>by subst e;exact⟨_,rfl,_,kE,_,bD.sub kD,q rows l4 g l40⟩);refine Vu k (λi σ' h'=> ∃a b c d l4 rows,σ'= [some (.lst p),some (.int (k:P2)),some (.int way),some (.int o),some (.int m),some (.lst R),a,b,c,d]/\0<=l4/\h' p=some [.int l4,.int fl]/\h' R=some (rows.map wE)/\But p h h'/\rows.length=i/\ ∀r∈rows,WE k r) (by omega) (λR' r=>⟨_,rfl,r⟩)
  ⟨none,none,none,none,l3,[],rfl,l30,kC,kR,bC,rfl,λr hr=>nomatch hr⟩ (λσ' h' z=>hC _ _ z) ?_
 clear kC kR bC;rintro i _ h4 hi ⟨a,b,c,d,l4,rows,rfl,l40,kD,kE,bD,g1,g2⟩;refine jg (λσ' h'=> ∃S,σ'= [some (.lst p),some (.int (k:P2)),some (.int way),some (.int o),some (.int m),some (.lst R),some (.int (i:P2)),some (.lst S),c,d]/\S≠p/\S≠R/\h S=none/\h' S=some []/\h' p=some [.int l4,.int fl]/\h' R=some (rows.map wE)/\But p h h') (λC hC=>⟨sz0,λS eS=>hC _ _ ⟨S,rfl,jx kD eS,jx kE eS,Rw bD eS (jx kD eS),ja,jc kD eS,jc kE eS,bD.new eS⟩⟩) ?_;clear kD kE bD;rintro _ h5 ⟨S,rfl,nS,nSR,fS,kS,kD,kE,bD⟩;refine jg (λσ' h'=> ∃c d l5 row,σ'= [some (.lst p),some (.int (k:P2)),some (.int way),some (.int o),some (.int m),some (.lst R),some (.int (i:P2)),some (.lst S),c,d]/\0<=l5/\h' p=some [.int l5,.int fl]/\h' R=some (rows.map wE)/\h' S=some (row.map D.int)/\But p h h'/\WE k row) (λC hC=> ?_) ?_
 rotate_left
 ·rintro _ h6 ⟨c,d,l5,row,rfl,l50,kD,kE,kF,bD,g⟩;refine⟨_,rfl,R,rfl,_,rfl,_,kF,_,kE,?_,_,Sub.refl _,by omega,_,_,_,_,l5,rows++ [row],rfl,l50,jl (O0 nR) kD,?_,bD.putNew fR,by rw [D9,g1];rfl,?_⟩
  ·rw [G9];exact Y6 (show rows.length<=1000 by omega) (by decide)
  ·rw [ja,L8];rfl
  ·intro r hr;rcases T4.mp hr with z|z
   ·exact g2 r z
   ·rw [P4.mp z];exact g
 refine Vu k (λj σ' h'=> ∃c d l5 row,σ'= [some (.lst p),some (.int (k:P2)),some (.int way),some (.int o),some (.int m),some (.lst R),some (.int (i:P2)),some (.lst S),c,d]/\0<=l5/\h' p=some [.int l5,.int fl]/\h' R=some (rows.map wE)/\h' S=some (row.map D.int)/\But p h h'/\row.length=j/\ ∀x∈row,0<=x/\x<=1000000) (by omega) (λR' r=>⟨_,rfl,r⟩)
  ⟨_,_,l4,[],rfl,l40,kD,kE,kS,bD,rfl,λr hr=>nomatch hr⟩ (λσ' h' z=>hC _ _ z) ?_
 clear kD kE kS bD;rintro j _ h6 hj ⟨c,d,l5,row,rfl,l50,kD,kE,kF,bD,g1',g2'⟩;refine jg (λσ' h'=> ∃ (g:N0) (l6:P2),σ'= [some (.lst p),some (.int (k:P2)),some (.int way),some (.int o),some (.int m),some (.lst R),some (.int (i:P2)),some (.lst S),some (.int (j:P2)),some (.bl g)]/\0<=l6/\h' p=some [.int l6,.int fl]/\h' R=some (rows.map wE)/\h' S=some (row.map D.int)/\But p h h') (λC hC=>⟨_,rfl,_,rfl,p,l5,fl,o,rfl,kD,l50,o1,by omega,λr l6 r0 r1 l60=>hC _ _ ⟨_,l6,rfl,l60,ja,jl nR kE,jl nS kF,bD.put⟩⟩) ?_;clear kD kE kF bD;rintro _ _ ⟨g,l6,rfl,l60,kD,kE,kF,bD⟩;refine jg (λσ' h'=> ∃ (g:N0) (l6:P2),σ'= [some (.lst p),some (.int (k:P2)),some (.int way),some (.int o),some (.int m),some (.lst R),some (.int (i:P2)),some (.lst S),some (.int (j:P2)),some (.bl g)]/\0<=l6/\h' p=some [.int l6,.int fl]/\h' R=some (rows.map wE)/\h' S=some (row.map D.int)/\But p h h') (λC hC=>⟨_,rfl,_,rfl,Pc (λ_=>⟨_,rfl,_,rfl,_,rfl,by omega,_,rfl,Pc (λ_=>hC _ _ ⟨_,l6,rfl,l60,kD,kE,kF,bD⟩) λ_=>⟨_,rfl,_,rfl,Pc (λ_=>⟨_,rfl,p,l6,fl,2,rfl,kD,l60,by decide,by decide,λr l7 r0 r1 l70=>⟨_,rfl,hC _ _ ⟨_,l7,rfl,l70,ja,jl nR kE,jl nS kF,bD.put⟩⟩⟩) λ_=>hC _ _ ⟨_,l6,rfl,l60,kD,kE,kF,bD⟩⟩⟩) λ_=>hC _ _ ⟨_,l6,rfl,l60,kD,kE,kF,bD⟩⟩) ?_;clear kD kE kF bD;rintro _ _ ⟨g,l6,rfl,l60,kD,kE,kF,bD⟩;refine jg (λσ' h'=> ∃ (g:N0) (l6:P2),σ'= [some (.lst p),some (.int (k:P2)),some (.int way),some (.int o),some (.int m),some (.lst R),some (.int (i:P2)),some (.lst S),some (.int (j:P2)),some (.bl g)]/\0<=l6/\h' p=some [.int l6,.int fl]/\h' R=some (rows.map wE)/\h' S=some (row.map D.int)/\But p h h') (λC hC=>⟨_,rfl,_,rfl,Pc (λ_=>⟨_,rfl,_,rfl,Pc (λ_=>⟨_,rfl,_,rfl,by decide,_,rfl,Pc (λ_=>hC _ _ ⟨_,l6,rfl,l60,kD,kE,kF,bD⟩) λ_=>⟨_,rfl,_,rfl,hC _ _ ⟨_,l6,rfl,l60,kD,kE,kF,bD⟩⟩⟩) λ_=>⟨_,rfl,Pc (λ_=>hC _ _ ⟨_,l6,rfl,l60,kD,kE,kF,bD⟩) λ_=>⟨_,rfl,_,rfl,hC _ _ ⟨_,l6,rfl,l60,kD,kE,kF,bD⟩⟩⟩⟩) λ_=>hC _ _ ⟨_,l6,rfl,l60,kD,kE,kF,bD⟩⟩) ?_;clear kD kE kF bD;rintro _ _ ⟨g,l6,rfl,l60,kD,kE,kF,bD⟩;refine jg (λσ' h'=> ∃ (g:N0) (l6:P2),σ'= [some (.lst p),some (.int (k:P2)),some (.int way),some (.int o),some (.int m),some (.lst R),some (.int (i:P2)),some (.lst S),some (.int (j:P2)),some (.bl g)]/\0<=l6/\h' p=some [.int l6,.int fl]/\h' R=some (rows.map wE)/\h' S=some (row.map D.int)/\But p h h') (λC hC=>⟨_,rfl,_,rfl,Pc (λ_=>⟨_,rfl,_,rfl,Pc (λ_=>⟨_,rfl,_,rfl,hC _ _ ⟨_,l6,rfl,l60,kD,kE,kF,bD⟩⟩) λ_=>hC _ _ ⟨_,l6,rfl,l60,kD,kE,kF,bD⟩⟩) λ_=>hC _ _ ⟨_,l6,rfl,l60,kD,kE,kF,bD⟩⟩) ?_;clear kD kE kF bD;rintro _ _ ⟨g,l6,rfl,l60,kD,kE,kF,bD⟩;have gi: ∀x r:P2,0<=r->r<m->x=0\/x=1->CMul x (1+r)/\0<=x*(1+r)/\x*(1+r)<=1000000:=λx r r0 r1 hx=>by
  rcases hx with e|e<;>subst e
  ·exact⟨.inl ⟨by decide,by decide⟩,by omega,by omega⟩
  ·exact⟨.inl ⟨by decide,by decide⟩,by omega,by omega⟩
 refine⟨_,rfl,S,rfl,_,rfl,_,rfl,_,rfl,p,l6,fl,m,rfl,kD,l60,m1,by omega,λr l7 r0 r1 l70=> ?_⟩;have gg:=gi (if g=true then 1 else 0) r r0 r1 (by cases g<;>decide);refine⟨gg.1,_,jl nS kF,?_,_,Sub.refl _,by omega,_,_,l7,row++ [(if g=true then 1 else 0)*(1+r)],rfl,l70,jl (O0 nS) ja,jl (O0 nSR) (jl nR kE),?_,(bD.put).putNew fS,by rw [D9,g1'];rfl,?_⟩
 ·rw [G9];exact Y6 (show row.length<=1000 by omega) (by decide)
 ·rw [ja,L8];rfl
 ·intro x hx;rcases T4.mp hx with z|z
  ·exact g2' x z
  ·rw [P4.mp z];exact gg.2
theorem ZZ (Z:Zs mg)(F:Fun K "_law_is_table" "_law_is_table" wJ f fd)(XA:jh P w K mg base n "_law_whole" ["_law_thing"] jW):FnOk P w K mg base CX0 (n+1) f fd ["_law_thing"] (LSp K jT):=by
 refine F.okM wg (λhr=>(js3 (WP (jpt (OU (Jw (vG (WD (T:= "tuple") (by decide) rfl Z.isinstance rfl Z.tuple (by decide +kernel) (jv 0)))) (OT (Jw (RA Pi Pi jj (Xk Z (jv 0)) jj))))) (zO jbl)) (Ni J9 rfl (zR (jv 0)) (jgn 1 wg) (js2 (WP (jpt (OU (Jw (vG (WD (T:= "tuple") (by decide) rfl Z.isinstance rfl Z.tuple (by decide +kernel) (jv 1)))) (OT (jt1 oq_ne (Xk Z (jv 1)) (Xk Z (jv 0)))))) (zO jbl)) (WP (Jw (vG (yX (UG rfl) rfl Z.all Z1 (j1 (jl0 2 wg (zR (jv 1)) (λ_ _ _ _=>(RB (jk XA hr (j1 (jv 2))) (Pp (jc1 NH (jv 2) jj))))))))) (zO jbl)))) (zO jbl))) ?_;rintro ds h Q ⟨d,rfl,ok,q⟩;refine⟨rfl,?_⟩;obtain⟨nm,hn⟩:=wW ok;refine jg (λσ' h'=>h'=h/\σ'= [some d,none,none]/\ ∃es,d= .tup es/\1<=es.length/\es.length<=6) (λC hC=> ?_) (λσ' h' hV=> ?_)
 ·simp only [Nh,FK,UC,yV,dIs,Wg,jR,T2,E9,D4,M7,S7,C9,F0,M0,B4,D.bl.injEq,Vo,dC,Wy,Ys,ZL,dCB,jP,vE,NI,NG,C6,hn];cases d with
  |tup es=>
   cases hn;simp only [Le]
   by_cases h1:1<=es.length
   ·by_cases h6:es.length<=6
    ·have h1':(1:P2)<=es.length:=by omega
     have h6':(es.length:P2)<=6:=by omega
     simp [h1',h6'];exact hC _ _ ⟨rfl,rfl,es,rfl,h1,h6⟩
    ·have h1':(1:P2)<=es.length:=by omega
     have h6': ¬ (es.length:P2)<=6:=by omega
     simp [h1',h6'];exact⟨h,Sub.refl h,by simpa [Xs,h1,h6] using q⟩
   ·have h1': ¬ (1:P2)<=es.length:=by omega
    simp [h1'];exact⟨h,Sub.refl h,by simpa [Xs,h1] using q⟩
  |_=>cases hn<;>exact⟨h,Sub.refl h,q⟩
 obtain⟨eh,e,es,ed,h1,h6⟩:=hV;subst eh ed e;obtain⟨hl,ht⟩:=Ya ok;have qf: ∀r∈es,QK r es.length=false->Q (.bl false) h':=λr hr z=>by
  have:Xs (.tup es)=false:=by
   simp only [Xs,S1 h1,S1 h6,eY];rw [List.all_eq_false];exact⟨r,hr,by simp [z]⟩
  rw [<-this];exact q
 refine jg (λσ' h2=> ∃a b,σ'= [some (.tup es),a,b]/\h2=h'/\ ∀r∈es,QK r es.length=true) (λC hC=> ?_) (λσ' h2 hV=> ?_)
 rotate_left
 ·obtain⟨a,b,e,e2,hr⟩:=hV;subst e e2;simp only [Vo,dC,Wy];refine⟨_,Sub.refl _,?_⟩;have:Xs (.tup es)=true:=by
   simp only [Xs,S1 h1,S1 h6,eY];exact M8.mpr hr
  rw [<-this];exact q
 refine NO (j:=λ_=>some es) es (λi σ' h2=> ∃a b,σ'= [some (.tup es),a,b]/\h2=h'/\ ∀r∈es.take i,QK r es.length=true) (λR' r=>⟨_,rfl,r⟩) (λ_ _ _ _=>rfl) ⟨_,_,rfl,rfl,λr hr=>by simp at hr⟩
  (λσ' h2 ⟨a,b,e,e2,hr⟩=>hC _ _ ⟨a,b,e,e2,λr z=>hr r (by rw [qB];exact z)⟩) ?_
 rintro i r σ' h2 hi ⟨a,b,e,e2,hr⟩;subst e e2;have rm:r∈es:=M3 hi;have hil:i<es.length:=(R0.mp hi).1;obtain⟨rn,hrn⟩:=wW (ht r rm);show yR _ _ _ [some (.tup es),some r,b] h2;refine jg (λσ' h3=>h3=h2/\σ'= [some (.tup es),some r,b]/\ ∃ns,r= .tup ns/\ns.length=es.length) (λC hC=> ?_) (λσ' h3 hV=> ?_)
 ·simp only [Nh,FK,UC,yV,dIs,Wg,B8,M0,B4,D.bl.injEq,Vo,dC,Nxt,Wy,Ys,dOp,dCB,jP,vE,NI,neD,C6,hrn];cases r with
  |tup ns=>
   cases hrn;simp only [Le]
   by_cases hk:(ns.length:P2)=es.length
   ·simp [hk];exact hC _ _ ⟨rfl,rfl,ns,rfl,by omega⟩
   ·simp [hk];exact⟨h2,Sub.refl h2,qf _ rm (by simp [QK,hk])⟩
  |_=>cases hrn<;>exact⟨h2,Sub.refl h2,qf _ rm rfl⟩
 obtain⟨eh,e,ns,er,hns⟩:=hV;subst eh e er;obtain⟨hl2,ht2⟩:=Ya (ht _ rm);simp only [Nh,UC,yV,dCB,jP,vE,Vo,dC,Nxt,Wy,Ys];refine Qa (ds:=ns) (h1:=h3) (j:=λ_=>some ns) (λx=> .bl (Ca x)) (M5 (jO hl2)) rfl (λR r=>⟨.tup ns,rfl,r⟩) (λd hd Q' q'=> ?_) (λp hp=> ?_)
 ·obtain⟨nn,hnn⟩:=wW (ht2 d hd);refine⟨d,rfl,d,nn,rfl,hnn,GN d,rfl,?_⟩;cases d with
  |int i=>exact Vj ⟨.int i,rfl,q'⟩
  |_=>exact vv q'
 ·refine⟨p,ns.map Ca,rfl,by rw [ja];simp,_,rfl,?_⟩;have hrow:QK (.tup ns) es.length=ns.all Ca:=by simp [QK,hns]
  have e1:(ns.map Ca).all id=ns.all Ca:=by rw [aO];rfl
  rw [wC hp,e1,<-hrow];cases hb:QK (.tup ns) es.length with
  |true=>
   refine vv ⟨h3,Sub.refl _,by omega,_,_,rfl,rfl,?_⟩;intro r' hr';rw [C0,hi] at hr';rcases T4.mp hr' with z|z
   ·exact hr r' z
   ·simp at z;subst z;exact hb
  |false=>exact Vj ⟨h3,Sub.refl _,qf _ rm hb⟩
theorem OO {x:D}{xs:G0 D}{lo hi:P0 P2}(h:x∈UH xs lo hi):x∈xs:=List.mem_of_mem_drop (List.mem_of_mem_take h)
theorem OP {xs:G0 D}{lo hi:P0 P2}:(UH xs lo hi).length<=xs.length:=by unfold UH;rw [F3,aF];omega
def okN (n:G8)(ds:G0 D):Prop:=ds.length<=n/\ ∀d∈ds,okD d=true
variable {a:G0 D}
theorem okN.app {m:G8}{b:G0 D}(x:okN m a)(y:okN n b):okN (m+n) (a++b):=⟨by rw [D9];have:=x.1;have:=y.1;omega,λd hd=>(T4.mp hd).elim (x.2 d) (y.2 d)⟩
theorem okN.cut (x:okN n a)(lo hi:P0 P2):okN n (UH a lo hi):=⟨T9 OP x.1,λd hd=>x.2 d (OO hd)⟩
theorem okN.one {d:D}(h:okD d=true):okN 1 [d]:=⟨P1 _,λx hx=>by rw [P4.mp hx];exact h⟩
theorem okN.rev (x:okN n a):okN n a.reverse:=⟨by rw [cB];exact x.1,λd hd=>x.2 d (j5.mp hd)⟩
theorem okN.tup {n:G8}{a:G0 D}(x:okN n a)(h:n<=1000:=by decide):okD (.tup a)=true:=Xr (T9 x.1 h) x.2
theorem okN.sz {m:G8}{b:G0 D}(x:okN m a)(y:okN n b)(h:m+n<=1000:=by decide):a.length+b.length<=sizeLine:=M5 (jO (by have:=x.1;have:=y.1;omega))
theorem Fd {r:G0 P2}(g:WE n r)(h:n<=6):okN 6 (r.map D.int):=⟨by rw [G9,g.1];exact h,λd hd=>by obtain⟨x,_,rfl⟩:=S2.mp hd;rfl⟩
theorem SU (g:GoodTab n T)(h:n<=6):okN 6 (T.map wE):=⟨by rw [G9,g.1];exact h,λd hd=>by obtain⟨x,hx,rfl⟩:=S2.mp hd;exact(Fd (g.2 x hx) h).tup⟩
def wZ:RDn:=λds h Q=> ∃p l fl T,∃k:G8,ds= [.lst p,jG T]/\h p=some [.int l,.int fl]/\0<=l/\1<=k/\k<=6/\GoodTab k T/\ ∀d l',okD d=true->0<=l'->Q d (wc h p [.int l',.int fl])
theorem Zd (Z:Zs mg)(F:Fun K "_law_bent_table" "_law_bent_table" zV f fd)(jr:jh P w K mg base n "_law_draw" ["_law_pen_here","_law_many"] zE):FnOk P w K mg base CX0 (n+1) f fd ["_law_pen_here","_law_table_here"] (LSp K wZ):=by
 refine F.okM jw (λhr=>(js8 (jse 2 jw (Xk Z (jv 1))) (KG (i:=3) (j:=4) rfl jw.nd rfl rfl (by decide) rfl rfl (j2 (jk jr hr (j2 (jv 0) (jv 2))) (jk jr hr (j2 (jv 0) (jv 2)))) rfl) (jse 5 jw (ji1 (wQ (jac (ER jj) (by exact(jac jbl (by exact(jac Po (by exact(jac yS (by exact(jac (zQ (j1 jj)) (by exact(jac (jop UE jj jj) (by exact(j4 jbl jj (wQ (j1 jj)) jj)))))))))))))) (jk jr hr (j2 (jv 0) jj)))) (jse 6 jw (ji1 (jv 1) (jv 3))) (jse 7 jw (wQ (jac (jop jE (jop jE (vI (jv 6) yB (wD (jv 4))) (zQ (j1 (jv 5)))) (vI (jv 6) (wD (jop jE (jv 4) jj)) yB)) (by exact(jac (jop jE (vI (jv 6) yB (wD (jv 4))) (vI (jv 6) (wD (jop jE (jv 4) jj)) yB)) (by exact(jac (jop jE (jv 6) (zQ (j1 jj))) (by exact(j4 (zp Rm rfl Z.list (by decide +kernel) (j1 (jv 6))) Po jj (KH (jv 6))))))))))) (jse 8 jw (ji1 (jv 7) (ji1 (wQ (jac jj (by exact(jac jj (by exact(jac jj (by exact(jac jj (by exact(jac jj (by exact(jac jj (by exact(j4 jj jj jj jj)))))))))))))) (jk jr hr (j2 (jv 0) jj))))) (jse 9 jw (wQ (j4 (jop jE (jop jE (vI (jv 1) yB (wD (jv 3))) (zQ (j1 (jv 8)))) (vI (jv 1) (wD (jop jE (jv 3) jj)) yB)) (jop jE (vI (jv 1) yB (wD (jv 3))) (vI (jv 1) (wD (jop jE (jv 3) jj)) yB)) (jop jE (jv 1) (vI (jv 1) yB (wD jj))) (zp Rm rfl Z.list (by decide +kernel) (j1 (jv 1)))))) (zO (ji1 (jop jE (jv 9) (wQ (j3 (zQ (j1 (jv 1))) Po (KH (jv 1))))) (ji1 (wQ (jac jj (by exact(jac jj (by exact(jac jj (by exact(jac jj (by exact(jac jj (by exact(jac jj (by exact(jac jj (by exact(j4 jj jj jj jj)))))))))))))))) (jk jr hr (j2 (jv 0) jj))))))) ?_;rintro ds h Q ⟨p,l,fl,T,k,rfl,hp,h0,hk1,hk6,gT,q⟩;refine⟨rfl,?_⟩;have oT:=SU gT hk6;have hTl:((T.map wE).length:P2)=k:=by rw [G9,gT.1]
 refine jg (λσ' h'=>σ'= [some (.lst p),some (jG T),some (.int (k:P2)),none,none,none,none,none,none,none]/\h'=h) (λC hC=> ?_) (λσ' h' hV=> ?_)
 ·simp only [XZ,dCB,jP,Wg,jR,jG,T2,E9,D4,M7,S7,C9,F0,B8,M0,B4,vE,NI,K9,Q0,C6];rw [hTl];exact hC _ _ ⟨rfl,rfl⟩
 obtain⟨e,eh⟩:=hV;subst e eh;refine jg (λσ' h2=> ∃ (a:G8) (b l2:P2),σ'= [some (.lst p),some (jG T),some (.int (k:P2)),some (.int (a:P2)),some (.int b),none,none,none,none,none]/\a<k/\0<=l2/\h2 p=some [.int l2,.int fl]/\But p h' h2) (λC hC=> ?_) (λσ' h2 hV=> ?_)
 ·simp only [Tf,jP,dCB,Wg,M0,B4,B8,vE,K9,Q0,C6];refine⟨p,l,fl,(k:P2),rfl,hp,h0,by omega,by omega,λa l1 a0 a1 l10=> ?_⟩;refine⟨p,l1,fl,(k:P2),rfl,ja,l10,by omega,by omega,λb l2 b0 b1 l20=> ?_⟩;exact⟨_,_,rfl,hC _ _ ⟨a.toNat,b,l2,by rw [Int.toNat_of_nonneg a0],by omega,l20,ja,But.upd.put⟩⟩
 obtain⟨a,b,l2,e,ha,l20,kp,bp⟩:=hV;subst e;refine jg (λσ' h2=> ∃ (off:D) (l3:P2),σ'= [some (.lst p),some (jG T),some (.int (k:P2)),some (.int (a:P2)),some (.int b),some off,none,none,none,none]/\okD off=true/\0<=l3/\h2 p=some [.int l3,.int fl]/\But p h' h2) (λC hC=> ?_) (λσ' h2 hV=> ?_)
 ·simp only [XZ,dOp,NC,jP,dUn,dC,OS,Cn,vE,D4,M7,Tg,dCB,Wg,M0,B4,ixD,K9,Q0,C6]
  repeat (first|intro _|refine⟨by decide,?_⟩|refine⟨⟨by decide,by decide,by decide⟩,?_⟩)
  rename_i p1 e1 p2 e2;refine⟨p,l2,fl,10,rfl,jc (jc kp e1) e2,l20,by decide,by decide,λr l3 r0 r1 l30=> ?_⟩;obtain⟨d,hd,ed⟩:=ye (xs:= [D.int (-1),D.bl true,D.non,D.str (G6 "0"),D.tup [D.int 0],D.int (10^fW 30),D.bl false,D.int 0,D.lst p1,D.int 1]) r0 r1;exact⟨_,d,jl (jx (jc kp e1) e2) ja,ed,hC _ _ ⟨d,l3,rfl,JP (by rfl) d hd,l30,ja,((bp.new e1).new e2).put⟩⟩
 obtain⟨off,l3,e,ooff,l30,kp,bp⟩:=hV;subst e;refine jg (λσ' h3=> ∃r,σ'= [some (.lst p),some (jG T),some (.int (k:P2)),some (.int (a:P2)),some (.int b),some off,some (wE r),none,none,none]/\WE k r/\h3=h2) (λC hC=> ?_) (λσ' h3 hV=> ?_)
 ·simp only [XZ,dOp,Wg,jG,B8,M0,B4,ixD,K9,Q0,C6];have haT:a<T.length:=by rw [gT.1];exact ha
  have hr:T[a]? =some T[a]:=P8 haT;exact⟨wE T[a],Wq (by rw [D6,hr];rfl),hC _ _ ⟨T[a],rfl,gT.2 _ (A1 haT),rfl⟩⟩
 obtain⟨r,e,gr,eh⟩:=hV;subst e eh;have oR:=Fd gr hk6;refine jg (λσ' h4=> ∃RW ds,σ'= [some (.lst p),some (jG T),some (.int (k:P2)),some (.int (a:P2)),some (.int b),some off,some (wE r),some (.lst RW),none,none]/\h4 RW=some ds/\ds.length=7/\(∀d∈ds,okD d=true)/\RW≠p/\h4 p=some [.int l3,.int fl]/\But p h' h4) (λC hC=> ?_) (λσ' h4 hV=> ?_)
 ·refine⟨_,rfl,_,rfl,_,rfl,_,rfl,sz1,(oR.cut _ _).sz (okN.one ooff),_,rfl,_,rfl,_,rfl,((oR.cut _ _).app (okN.one ooff)).sz (oR.cut _ _),_,rfl,_,rfl,_,rfl,_,rfl,_,rfl,_,rfl,(oR.cut _ _).sz (oR.cut _ _),_,rfl,sz1,oR.sz (okN.one rfl),_,rfl,λp1 e1=>⟨_,rfl,_,rfl,(by show 7<=sizeLine;decide),λp2 e2=> ?_⟩⟩;refine hC _ _ ⟨p2,_,rfl,ja,rfl,?_,jx (jc kp e1) e2,jc (jc kp e1) e2,(bp.new e1).new e2⟩;intro d hd;simp only [P9,N6,or_false] at hd;rcases hd with e|e|e|e|e|e|e<;>subst e
  ·exact(((oR.cut _ _).app (okN.one ooff)).app (oR.cut _ _)).tup
  ·exact((oR.cut _ _).app (oR.cut _ _)).tup
  ·exact(oR.app (okN.one rfl)).tup
  ·rfl
  ·rfl
  ·rfl
  ·exact oR.rev.tup
 obtain⟨RW,rs,e,kRW,lRW,oRW,nRW,kp,bp⟩:=hV;subst e;refine jg (λσ' h4=> ∃ (hr:D) (l4:P2),σ'= [some (.lst p),some (jG T),some (.int (k:P2)),some (.int (a:P2)),some (.int b),some off,some (wE r),some (.lst RW),some hr,none]/\okD hr=true/\0<=l4/\h4 p=some [.int l4,.int fl]/\But p h' h4) (λC hC=> ?_) (λσ' h4 hV=> ?_)
 ·simp only [XZ,dOp,Wg,B8,M0,B4,NC,jP,dC,vE,D4,M7,dCB,ixD,K9,Q0,C6];refine⟨by decide,λp1 e1=>⟨p,l3,fl,10,rfl,jc kp e1,l30,by decide,by decide,λx l4 r0 r1 l40=> ?_⟩⟩;obtain⟨ix,hix,eix⟩:=ye (xs:= [D.int 0,D.int 0,D.int 0,D.int 0,D.int 1,D.int 2,D.int 3,D.int 4,D.int 5,D.int 6]) r0 r1;refine⟨_,ix,jl (jx kp e1) ja,eix,?_⟩;obtain⟨y,e,y0,y1⟩: ∃y:P2,ix= .int y/\0<=y/\y<7:=by
   simp only [P9,N6,or_false] at hix;rcases hix with e|e|e|e|e|e|e|e|e|e<;>exact⟨_,e,by decide,by decide⟩
  subst e;obtain⟨d,hd,ed⟩:=ye (xs:=rs) y0 (by rw [lRW];exact y1);exact⟨rs,d,jl nRW (jc kRW e1),ed,hC _ _ ⟨d,l4,rfl,oRW d hd,l40,ja,(bp.new e1).put⟩⟩
 obtain⟨hr,l4,e,ohr,l40,kp,bp⟩:=hV;subst e;refine jg (λσ' h5=> ∃TH ds,σ'= [some (.lst p),some (jG T),some (.int (k:P2)),some (.int (a:P2)),some (.int b),some off,some (wE r),some (.lst RW),some hr,some (.lst TH)]/\h5 TH=some ds/\ds.length=4/\(∀d∈ds,okD d=true)/\h5 p=some [.int l4,.int fl]/\But p h' h5) (λC hC=> ?_) (λσ' h5 hV=> ?_)
 ·refine⟨_,rfl,_,rfl,_,rfl,_,rfl,sz1,(oT.cut _ _).sz (okN.one ohr),_,rfl,_,rfl,_,rfl,((oT.cut _ _).app (okN.one ohr)).sz (oT.cut _ _),_,rfl,_,rfl,_,rfl,_,rfl,_,rfl,_,rfl,(oT.cut _ _).sz (oT.cut _ _),_,rfl,_,rfl,_,rfl,oT.sz (oT.cut _ _),_,rfl,λp1 e1=>⟨sz4,λp2 e2=> ?_⟩⟩;refine hC _ _ ⟨p2,_,rfl,ja,rfl,?_,jc (jc kp e1) e2,(bp.new e1).new e2⟩;intro d hd;simp only [P9,N6,or_false] at hd;rcases hd with e|e|e|e<;>subst e
  ·exact(((oT.cut _ _).app (okN.one ohr)).app (oT.cut _ _)).tup
  ·exact((oT.cut _ _).app (oT.cut _ _)).tup
  ·exact(oT.app (oT.cut _ _)).tup
  ·rfl
 obtain⟨TH,ts,e,kTH,lTH,oTH,kp,bp⟩:=hV;subst e;refine⟨_,rfl,_,rfl,sz1,_,rfl,_,rfl,sz3,λp1 e1=>⟨_,_,jc kTH e1,ja,?_,λp2 e2=>⟨(by decide),λp3 e3=> ?_⟩⟩⟩
 ·rw [lTH];show 4+3<=sizeLine;decide
 refine⟨_,rfl,p,l4,fl,11,rfl,jc (jc (jc kp e1) e2) e3,l40,by decide,by decide,λx l5 r0 r1 l50=> ?_⟩;obtain⟨ix,hix,eix⟩:=ye (xs:= [D.int 0,D.int 0,D.int 0,D.int 0,D.int 0,D.int 1,D.int 2,D.int 3,D.int 4,D.int 5,D.int 6]) r0 r1;refine⟨_,ix,jl (jx (jc (jc kp e1) e2) e3) ja,eix,?_⟩;obtain⟨y,e,y0,y1⟩: ∃y:P2,ix= .int y/\0<=y/\y<7:=by
  simp only [P9,N6,or_false] at hix;rcases hix with e|e|e|e|e|e|e|e|e|e|e<;>exact⟨_,e,by decide,by decide⟩
 subst e;obtain⟨d,hd,ed⟩:=ye (xs:=ts++ [D.tup [D.tup (T.map wE)],D.non,D.tup (T.map wE).reverse]) y0 (by rw [D9,lTH];exact y1);refine⟨_,d,jl (jx (jc kp e1) e2) (jc ja e3),ed,_,(((bp.new e1).new e2).new e3).put.sub ja,q d l5 ?_ l50⟩;rcases T4.mp hd with z|z
 ·exact oTH d z
 ·simp only [P9,N6,or_false] at z;rcases z with e|e|e<;>subst e
  ·exact(okN.one oT.tup).tup
  ·rfl
  ·exact oT.rev.tup
def yP:RDn:=λds h Q=> ∃p l fl,ds= [.lst p]/\h p=some [.int l,.int fl]/\0<=l/\ ∀d l' h',okD d=true->Xs d=false->But p h h'->h' p=some [.int l',.int fl]->0<=l'->Q d h'
theorem Wa (Z:Zs mg)(F:Fun K "_law_no_table" "_law_no_table" wK f fd)(jr:jh P w K mg base n "_law_draw" ["_law_pen_here","_law_many"] zE):FnOk P w K mg base CX0 (n+1) f fd ["_law_pen_here"] (LSp K yP):=by
 refine F.okM yO (λhr=>(js2 (jse 1 yO (wQ (jac Po (by exact(jac jj (by exact(jac (zQ zn) (by exact(jac (wQ zn) (by exact(jac (zQ (j1 jj)) (by exact(jac (zQ (j1 (zQ zn))) (by exact(jac (zQ (j2 (zQ (j1 jj)) (zQ (j1 jj)))) (by exact(jac (zQ (j1 (zQ (j2 jj jj)))) (by exact(jac (zQ (j1 (zQ (j1 (ER jj))))) (by exact(j4 (zQ (j1 (zQ (j1 jbl)))) (wQ (j1 (wQ (j1 jj)))) (zQ (j1 (zQ (j1 Po)))) yS))))))))))))))))))))) (zO (ji1 (jop jE (jv 1) (wQ (jac (zQ (j1 (zQ (j1 jbl)))) (by exact(j4 (jop zu (zQ (j1 (jop zu (zQ (j1 jj)) jj))) jj) (zQ (j1 (wQ (j1 jj)))) (zQ (j1 (zQ (j1 (zQ (j1 jj)))))) Cv))))) (jk jr hr (j2 (jv 0) jj)))))) ?_;rintro ds h Q ⟨p,l,fl,rfl,hp,h0,q⟩;refine⟨rfl,?_⟩;simp only [yR,XZ,NC,jP,dC,Cn,vE,M7,D4,dUn,OS,Vo,dOp,Wg,jR,T2,E9,S7,C9,F0,K9,Q0,B8,M0,B4,Hm,UJ,He,dCB,ixD,C6,Wy]
 repeat (first|intro _|refine⟨by decide,?_⟩|refine⟨⟨by decide,by decide,by decide⟩,?_⟩)
 rename_i p1 e1 p2 e2 p3 e3 p4 e4 p5 e5 p6 e6;have k1:=jc (M:= []) hp e1;have k2:=jc (M:= [.int 1]) k1 e2;have k3:=jc (M:= [.lst p2]) k2 e3;refine⟨_,_,jc (jc ja e5) e6,ja,by simp only [D4,M7];decide,λp7 e7=> ?_⟩;refine⟨p,l,fl,18,rfl,jc (jc (jc (jc k3 e4) e5) e6) e7,h0,by decide,by decide,λr l' r0 r1 l0=> ?_⟩;obtain⟨d,hd,ed⟩:=ye (xs:= [D.non,D.int 0,D.tup [],D.lst p1,D.tup [D.int 0],D.tup [D.tup []],D.tup [D.tup [D.int 1],D.tup [D.int 1]],D.tup [D.tup [D.int 0,D.int 1]],D.tup [D.tup [D.int (-1)]],D.tup [D.tup [D.bl true]],D.lst p3,D.tup [D.tup [D.non]],D.str (G6 "1")]++ [D.tup [D.tup [D.bl false]],D.tup (S7 (fW 7) [D.tup (S7 (fW 7) [D.int 0]).flatten]).flatten,D.tup [D.lst p5],D.tup [D.tup [D.tup [D.int 0]]],D.dic (G6 "a") 1]) r0 r1;refine⟨_,d,jl (jx (jc (jc (jc k3 e4) e5) e6) e7) ja,ed,_,Sub.refl _,q d l' _ (JP ?_ d hd) ?_ (((((((But.refl p h).new e1).new e2).new e3).new e4).new e5).new e6 |>.new e7).put ja l0⟩
 ·rfl
 ·simp only [T4,P9,N6,or_false] at hd;rcases hd with (e|e|e|e|e|e|e|e|e|e|e|e|e)|e|e|e|e|e<;>subst e<;>rfl
def Ze:RDn:=λds h Q=> ∃d,∃ws:G0 Str,ds= [d]/\((okD d=true/\zd d 2 6=false/\zd d 1 6=false/\zd d 1 3=false/\ws=(["number","number","number","number"]:G0 Str))\/(d= .int 1/\ws=(["number","told","told","told"]:G0 Str))\/(d= .int 4/\ws=(["told","told","number","number"]:G0 Str))\/(d= .int 6/\ws=(["told","told","number","number"]:G0 Str)))/\ ∀F h',h F=none->h' F=some (ws.map D.str)->Sub h h'->Q (.lst F) h'
theorem Uh (Z:Zs mg)(B:Bm mg base)(a:fV K mainGlobals "_law_words" =some (some (.ref f)))(TX: ∃c P,eO K "_law_words" =some (c,P)/\qK K c P=true)(F:Fun K "_law_words" "_law_words" zh f fd)(CT_slow_table:jh P w K mg base n "slow_table" ["size"] JV)(CT_slowest_power:jh P w K mg base n "slowest_power" ["size"] wj)(CT_by_first:jh P w K mg base n "by_first" ["size"] Yg)(CT_slowest_tables:jh P w K mg base n "slowest_tables" ["size"] yq)(CR_slow_table:zg P w K mg base n "slow_table" ["size"] vN)(CR_slowest_power:zg P w K mg base n "slowest_power" ["size"] zk)(CR_by_first:zg P w K mg base n "by_first" ["size"] ZQ)(CR_slowest_tables:zg P w K mg base n "slowest_tables" ["size"] wY)(CS:Ov P w K mg base n):FnOk P w K mg base CX0 ((n+2)+1) f fd ["_law_size_here"] (LSp K Ze):=by
 obtain⟨gS,gdS,GS,bGS,kGS,mGS⟩:=CS;obtain⟨tc,tP,T,tH⟩:=TX;have hTK:TabK K tP:=⟨"_law_words",by decide,tc,T⟩;refine F.okJL a T JN (λds h Q q=>by obtain⟨d,ws,e,q0,q⟩:=q;subst e;rfl) _ (λA outer s H E hr=>(js5 (jse 1 JN (wQ (j1 (ji1 (JH GS hr rfl mGS kGS bGS B rfl tH hTK (Jy rfl (by decide +kernel)) (yG (by show Yw _ (jb zh)=true;decide +kernel)) (λ_ _ _ _ _ _ _ _ _ hr=>(jk CT_slow_table hr (j1 (jv 0)))) (λ_ _ _ _ _ _ _ _ _ hr=>(jxk CR_slow_table hr (j1 (jv 0))))) jj)))) (yA (EQ (jv 1) (ji1 (JH GS hr rfl mGS kGS bGS B rfl tH hTK (Jy rfl (by decide +kernel)) (yG (by show Yw _ (jb zh)=true;decide +kernel)) (λ_ _ _ _ _ _ _ _ _ hr=>(jk CT_slowest_power hr (j1 (jv 0)))) (λ_ _ _ _ _ _ _ _ _ hr=>(jxk CR_slowest_power hr (j1 (jv 0))))) jj))) (yA (EQ (jv 1) (ji1 (JH GS hr rfl mGS kGS bGS B rfl tH hTK (Jy rfl (by decide +kernel)) (yG (by show Yw _ (jb zh)=true;decide +kernel)) (λ_ _ _ _ _ _ _ _ _ hr=>(jk CT_by_first hr (j1 (jv 0)))) (λ_ _ _ _ _ _ _ _ _ hr=>(jxk CR_by_first hr (j1 (jv 0))))) jj))) (yA (EQ (jv 1) (ji1 (JH GS hr rfl mGS kGS bGS B rfl tH hTK (Jy rfl (by decide +kernel)) (yG (by show Yw _ (jb zh)=true;decide +kernel)) (λ_ _ _ _ _ _ _ _ _ hr=>(jk CT_slowest_tables hr (j1 (jv 0)))) (λ_ _ _ _ _ _ _ _ _ hr=>(jxk CR_slowest_tables hr (j1 (jv 0))))) jj))) (zO (jv 1)))) ?_;intro ds h Q q;obtain⟨d,ws,e,q0,q⟩:=q;subst e;rcases q0 with ⟨okd,w26,w16,w13,rfl⟩|⟨rfl,rfl⟩|⟨rfl,rfl⟩|⟨rfl,rfl⟩
 ·refine jg (λσ' h'=> ∃F,σ'= [some d,some (.lst F)]/\h F=none/\Sub h h'/\h' F=some ((["number"]:G0 Str).map D.str)) (λC hC=> .inr ⟨_,rfl,d,rfl,okd,w26,by decide +kernel,_,rfl,sz1,λF eF=>hC _ _ ⟨F,rfl,eF,Sub.newAt (Sub.refl h) eF,ja⟩⟩) ?_;rintro _ h1' ⟨F,rfl,fF,sb,kF⟩;refine jg (λσ' h'=>σ'= [some d,some (.lst F)]/\Sub h h'/\h' F=some ((["number","number"]:G0 Str).map D.str)) (λC hC=>⟨_,rfl,F,rfl,.inr ⟨_,rfl,d,rfl,okd,w16,by decide +kernel,_,rfl,_,kF,(by show 1<sizeLine;decide),hC _ _ ⟨rfl,((sb).over fF),ja⟩⟩⟩) ?_;clear sb kF;rintro _ h2' ⟨rfl,sb,kF⟩;refine jg (λσ' h'=>σ'= [some d,some (.lst F)]/\Sub h h'/\h' F=some ((["number","number","number"]:G0 Str).map D.str)) (λC hC=>⟨_,rfl,F,rfl,.inr ⟨_,rfl,d,rfl,okd,w13,by decide +kernel,_,rfl,_,kF,(by show 2<sizeLine;decide),hC _ _ ⟨rfl,((sb).over fF),ja⟩⟩⟩) ?_;clear sb kF;rintro _ h3' ⟨rfl,sb,kF⟩;refine jg (λσ' h'=>σ'= [some d,some (.lst F)]/\Sub h h'/\h' F=some ((["number","number","number","number"]:G0 Str).map D.str)) (λC hC=>⟨_,rfl,F,rfl,.inr ⟨_,rfl,d,rfl,okd,w13,by decide +kernel,_,rfl,_,kF,(by show 3<sizeLine;decide),hC _ _ ⟨rfl,((sb).over fF),ja⟩⟩⟩) ?_;clear sb kF;rintro _ h4' ⟨rfl,sb,kF⟩;exact⟨_,rfl,h4',Sub.refl _,q F h4' fF kF sb⟩
 ·refine jg (λσ' h'=> ∃F,σ'= [some (.int 1),some (.lst F)]/\h F=none/\Sub h h'/\h' F=some ((["number"]:G0 Str).map D.str)) (λC hC=> .inr ⟨_,rfl,_,rfl,rfl,by decide +kernel,by decide +kernel,_,rfl,sz1,λF eF=>hC _ _ ⟨F,rfl,eF,Sub.newAt (Sub.refl h) eF,ja⟩⟩) ?_;rintro _ h1' ⟨F,rfl,fF,sb,kF⟩;refine jg (λσ' h'=>σ'= [some (.int 1),some (.lst F)]/\Sub h h'/\h' F=some ((["number","told"]:G0 Str).map D.str)) (λC hC=>⟨_,rfl,F,rfl,.inl ⟨_,rfl,1,rfl,by decide,by decide,_,rfl,_,kF,(by show 1<sizeLine;decide),hC _ _ ⟨rfl,((sb).over fF),ja⟩⟩⟩) ?_;clear sb kF;rintro _ h2' ⟨rfl,sb,kF⟩;refine jg (λσ' h'=>σ'= [some (.int 1),some (.lst F)]/\Sub h h'/\h' F=some ((["number","told","told"]:G0 Str).map D.str)) (λC hC=>⟨_,rfl,F,rfl,.inl ⟨_,rfl,rfl,λA h' fA kA sb'=>⟨_,rfl,_,sb' _ _ kF,(by show 2<sizeLine;decide),hC _ _ ⟨rfl,(((sb).trans sb').over fF),ja⟩⟩⟩⟩) ?_;clear sb kF;rintro _ h3' ⟨rfl,sb,kF⟩;refine jg (λσ' h'=>σ'= [some (.int 1),some (.lst F)]/\Sub h h'/\h' F=some ((["number","told","told","told"]:G0 Str).map D.str)) (λC hC=>⟨_,rfl,F,rfl,.inl ⟨_,rfl,rfl,λA h' fA kA sb'=>⟨_,rfl,_,sb' _ _ kF,(by show 3<sizeLine;decide),hC _ _ ⟨rfl,(((sb).trans sb').over fF),ja⟩⟩⟩⟩) ?_;clear sb kF;rintro _ h4' ⟨rfl,sb,kF⟩;exact⟨_,rfl,h4',Sub.refl _,q F h4' fF kF sb⟩
 ·refine jg (λσ' h'=> ∃F,σ'= [some (.int 4),some (.lst F)]/\h F=none/\Sub h h'/\h' F=some ((["told"]:G0 Str).map D.str)) (λC hC=> .inl ⟨_,rfl,4,rfl,by decide,by decide,_,rfl,sz1,λF eF=>hC _ _ ⟨F,rfl,eF,Sub.newAt (Sub.refl h) eF,ja⟩⟩) ?_;rintro _ h1' ⟨F,rfl,fF,sb,kF⟩;refine jg (λσ' h'=>σ'= [some (.int 4),some (.lst F)]/\Sub h h'/\h' F=some ((["told","told"]:G0 Str).map D.str)) (λC hC=>⟨_,rfl,F,rfl,.inl ⟨_,rfl,4,rfl,by decide,by decide,_,rfl,_,kF,(by show 1<sizeLine;decide),hC _ _ ⟨rfl,((sb).over fF),ja⟩⟩⟩) ?_;clear sb kF;rintro _ h2' ⟨rfl,sb,kF⟩;refine jg (λσ' h'=>σ'= [some (.int 4),some (.lst F)]/\Sub h h'/\h' F=some ((["told","told","number"]:G0 Str).map D.str)) (λC hC=>⟨_,rfl,F,rfl,.inr ⟨_,rfl,_,rfl,rfl,by decide +kernel,by decide +kernel,_,rfl,_,kF,(by show 2<sizeLine;decide),hC _ _ ⟨rfl,((sb).over fF),ja⟩⟩⟩) ?_;clear sb kF;rintro _ h3' ⟨rfl,sb,kF⟩;refine jg (λσ' h'=>σ'= [some (.int 4),some (.lst F)]/\Sub h h'/\h' F=some ((["told","told","number","number"]:G0 Str).map D.str)) (λC hC=>⟨_,rfl,F,rfl,.inr ⟨_,rfl,_,rfl,rfl,by decide +kernel,by decide +kernel,_,rfl,_,kF,(by show 3<sizeLine;decide),hC _ _ ⟨rfl,((sb).over fF),ja⟩⟩⟩) ?_;clear sb kF;rintro _ h4' ⟨rfl,sb,kF⟩;exact⟨_,rfl,h4',Sub.refl _,q F h4' fF kF sb⟩
 ·refine jg (λσ' h'=> ∃F,σ'= [some (.int 6),some (.lst F)]/\h F=none/\Sub h h'/\h' F=some ((["told"]:G0 Str).map D.str)) (λC hC=> .inl ⟨_,rfl,6,rfl,by decide,by decide,_,rfl,sz1,λF eF=>hC _ _ ⟨F,rfl,eF,Sub.newAt (Sub.refl h) eF,ja⟩⟩) ?_;rintro _ h1' ⟨F,rfl,fF,sb,kF⟩;refine jg (λσ' h'=>σ'= [some (.int 6),some (.lst F)]/\Sub h h'/\h' F=some ((["told","told"]:G0 Str).map D.str)) (λC hC=>⟨_,rfl,F,rfl,.inl ⟨_,rfl,6,rfl,by decide,by decide,_,rfl,_,kF,(by show 1<sizeLine;decide),hC _ _ ⟨rfl,((sb).over fF),ja⟩⟩⟩) ?_;clear sb kF;rintro _ h2' ⟨rfl,sb,kF⟩;refine jg (λσ' h'=>σ'= [some (.int 6),some (.lst F)]/\Sub h h'/\h' F=some ((["told","told","number"]:G0 Str).map D.str)) (λC hC=>⟨_,rfl,F,rfl,.inr ⟨_,rfl,_,rfl,rfl,by decide +kernel,by decide +kernel,_,rfl,_,kF,(by show 2<sizeLine;decide),hC _ _ ⟨rfl,((sb).over fF),ja⟩⟩⟩) ?_;clear sb kF;rintro _ h3' ⟨rfl,sb,kF⟩;refine jg (λσ' h'=>σ'= [some (.int 6),some (.lst F)]/\Sub h h'/\h' F=some ((["told","told","number","number"]:G0 Str).map D.str)) (λC hC=>⟨_,rfl,F,rfl,.inr ⟨_,rfl,_,rfl,rfl,by decide +kernel,by decide +kernel,_,rfl,_,kF,(by show 3<sizeLine;decide),hC _ _ ⟨rfl,((sb).over fF),ja⟩⟩⟩) ?_;clear sb kF;rintro _ h4' ⟨rfl,sb,kF⟩;exact⟨_,rfl,h4',Sub.refl _,q F h4' fF kF sb⟩
theorem Yk (h:HD): ∀ws:G0 Str,ToPs h (ws.map D.str) (ws.map Y8)
 | []=>rfl
 |w::ws=>⟨_,_,rfl,rfl,Yk h ws⟩
theorem GQ: ∀ws:G0 Str,B7 (ws.map Y8) (ws.map Y8)=true
 | []=>by simp [B7]
 |w::ws=>by simp [B7,M9,GQ ws]
variable {Q:KD}
theorem Ce {ws:G0 Str}{F G:G5}(kF:h F=some (ws.map D.str))(kG:h G=some (ws.map D.str))(q:Q (.bl false) h)(hs:SeqAt.shaped (.list (ws.map .str))=true:=by decide +kernel):neE (.lst F) (.lst G) h Q:=by
 refine⟨.list (ws.map .str),.list (ws.map .str),⟨F,_,rfl,kF,Yk _ _⟩,⟨G,_,rfl,kG,Yk _ _⟩,hs,hs,?_⟩;have e:M9 (.list (ws.map .str)) (.list (ws.map .str))=true:=GQ ws;rw [e];exact q
theorem HY {w:Str}(q:Q (.bl false) h)(hs:SeqAt.shaped (.tuple [.str w])=true:=by decide +kernel):neE (.tup [.str w]) (.tup [.str w]) h Q:=by
 refine⟨.tuple [.str w],.tuple [.str w],⟨_,rfl,_,_,rfl,rfl,rfl⟩,⟨_,rfl,_,_,rfl,rfl,rfl⟩,hs,hs,?_⟩;have e:M9 (.tuple [.str w]) (.tuple [.str w])=true:=by simp [M9,B7]
 rw [e];exact q
def zT6:G0 (G0 P2):=S7 6 (S7 6 0)
theorem SV:Sq 6 3 zT6:=⟨by decide,by decide,by decide,by decide⟩
theorem HZ (a b:P2):BV ⟨"TooGreat",[("many",a),("most",b)]⟩=true:=by
 show (CN13.contains (G6 "TooGreat")&&((["many","most"]:G0 Str)==(OW "TooGreat").map G6))=true;decide +kernel
theorem KS {w:Str}(q:Q (.bl false) h):neE (.str w) (.str w) h Q:=by
 show Q (.bl (!decide (w=w))) h;rw [S1 rfl];exact q
theorem uH (q:Q (.bl false) h):neE (.tup [.str "great",.int 6,.int 5]) (.tup [.str "great",.int 6,.int 5]) h Q:=
 ⟨.tuple [.str "great",.int 6,.int 5],.tuple [.str "great",.int 6,.int 5],⟨_,rfl,_,_,rfl,rfl,_,_,rfl,rfl,_,_,rfl,rfl,rfl⟩,⟨_,rfl,_,_,rfl,rfl,_,_,rfl,rfl,_,_,rfl,rfl,rfl⟩,by decide +kernel,by decide +kernel,q⟩
theorem SW (Z:Zs mg)(B:Bm mg base)(a:fV K mainGlobals "law" =some (some (.ref f)))(TX: ∃c P,eO K "law" =some (c,P)/\qK K c P=true)(F:Fun K "law" "law" WY f fd)(ya:jh P w K mg base (n+2) "_law_words" ["_law_size_here"] Ze)(QV:jh P w K mg base (n+2) "_law_cell" ["_law_script","_law_k"] ZR)(Di:jh P w K mg base (n+2) "_law_pen" ["_law_cell_here"] Yi)(Xz:jh P w K mg base (n+2) "_law_table" ["_law_pen_here","_law_size_here"] Zc)(QX:jh P w K mg base (n+2) "_law_size" ["_law_pen_here"] ZS)(Dh:jh P w K mg base (n+2) "_law_odd" ["_law_pen_here"] Yj)(Ym:jh P w K mg base (n+2) "_law_no_table" ["_law_pen_here"] yP)(yr:jh P w K mg base (n+2) "_law_bent_table" ["_law_pen_here","_law_table_here"] wZ)(Yl:jh P w K mg base (n+2) "_law_is_table" ["_law_thing"] jT)(CT_least_alike:jh P w K mg base n "least_alike" ["table"] yi)(CR_bound_for:zg P w K mg base n "bound_for" ["table"] JY)(CR_least_alike:zg P w K mg base n "least_alike" ["table"] vp)(CS:Ov P w K mg base n):FnOk P w K mg base CX0 ((n+2)+1) f fd ["_law_script"] (LSp K Rt):=by
 obtain⟨gS,gdS,GS,bGS,kGS,mGS⟩:=CS;obtain⟨tc,tP,T,tH⟩:=TX;have hTK:TabK K tP:=⟨"law",by decide,tc,T⟩;refine F.okJL a T WZ (λds h Q q=>by obtain⟨ns,e,hh,hns,q⟩:=q;subst e;rfl) _ (λA outer s H E hr=>(js5 (Ni J9 rfl (Qg (wQ (jac jj (by exact(jac (ER jj) (by exact(jac jj (by exact(jac jbl (by exact(jac Po (by exact(j4 yS (zQ (j1 jj)) (wQ zn) (jop UE jj jj)))))))))))))) (jgn 1 WZ) (jL (WP (jt1 (Jv hr.units) (jk ya hr (j1 (jv 1))) (jop zu (wQ (j1 yS)) jj)) (zO jbl)))) (WP (jpt (OU (jt1 (Jv hr.units) (jk ya hr (j1 jj)) (jop jE (wQ (j1 yS)) (jop zu (wQ (j1 yS)) jj))) (OT (jt1 (Jv hr.units) (jk ya hr (j1 jj)) (jop jE (jop zu (wQ (j1 yS)) jj) (jop zu (wQ (j1 yS)) jj)))))) (zO jbl)) (WP (jt1 (Jv hr.units) (jk ya hr (j1 jj)) (jop jE (jop zu (wQ (j1 yS)) jj) (jop zu (wQ (j1 yS)) jj))) (zO jbl)) (Ni J9 rfl (Qg (jop jE (wQ (j1 (jk QV hr (j2 (jv 0) jj)))) (vI (jv 0) (wD jj) (wD jj)))) (jgn 2 WZ) (js7 (jse 3 WZ (jk Di hr (j1 (jv 2)))) (jse 4 WZ (jk Xz hr (j2 (jv 3) (jk QX hr (j1 (jv 3)))))) (Ni J9 rfl (Qg (wQ (j4 (jk yr hr (j2 (jv 3) (jv 4))) (jk yr hr (j2 (jv 3) (jv 4))) (jk Ym hr (j1 (jv 3))) (jk Dh hr (j1 (jv 3)))))) (jgn 5 WZ) (jL (EN (Jw (vG (jk Yl hr (j1 (jv 5))))) (js2 (WP (jt1 (Jv hr.units) (JH GS hr rfl mGS kGS bGS B rfl tH hTK (Jy rfl (by decide +kernel)) (yG (by show Yw _ (jb WY)=true;decide +kernel)) (λ_ _ _ _ _ _ _ _ _ hr=>jno) (λ_ _ _ _ _ _ _ _ _ hr=>(jxk CR_bound_for hr (j1 (jv 5))))) (zQ (j1 yS))) (zO jbl)) (WP (jt1 (Jv hr.units) (JH GS hr rfl mGS kGS bGS B rfl tH hTK (Jy rfl (by decide +kernel)) (yG (by show Yw _ (jb WY)=true;decide +kernel)) (λ_ _ _ _ _ _ _ _ _ hr=>(jk CT_least_alike hr (j1 (jv 5)))) (λ_ _ _ _ _ _ _ _ _ hr=>(jxk CR_least_alike hr (j1 (jv 5))))) (zQ (j1 yS))) (zO jbl))) UN))) (jse 6 WZ (jop zu (zQ (j1 (jop zu (zQ (j1 jj)) jj))) jj)) (WP (jt1 (Jv hr.units) (JH GS hr rfl mGS kGS bGS B rfl tH hTK (Jy rfl (by decide +kernel)) (yG (by show Yw _ (jb WY)=true;decide +kernel)) (λ_ _ _ _ _ _ _ _ _ hr=>(jk CT_least_alike hr (j1 (jv 6)))) (λ_ _ _ _ _ _ _ _ _ hr=>(jxk CR_least_alike hr (j1 (jv 6))))) (zQ (j3 yS jj jj))) (zO jbl)) (WP (jt1 (Jv hr.units) (JH GS hr rfl mGS kGS bGS B rfl tH hTK (Jy rfl (by decide +kernel)) (yG (by show Yw _ (jb WY)=true;decide +kernel)) (λ_ _ _ _ _ _ _ _ _ hr=>jno) (λ_ _ _ _ _ _ _ _ _ hr=>(jxk CR_bound_for hr (j1 (jv 6))))) (zQ (j1 yS))) (zO jbl)) (WP (jt1 (Jv hr.units) (ji1 (JH GS hr rfl mGS kGS bGS B rfl tH hTK (Jy rfl (by decide +kernel)) (yG (by show Yw _ (jb WY)=true;decide +kernel)) (λ_ _ _ _ _ _ _ _ _ hr=>(jk CT_least_alike hr (j1 (jv 4)))) (λ_ _ _ _ _ _ _ _ _ hr=>(jxk CR_least_alike hr (j1 (jv 4))))) jj) (ji1 (wQ (j2 yS yS)) (zp Rl rfl Z.int (by decide +kernel) (j1 (jc1 Lc (Xk Z (jv 4)) jj))))) (zO jbl)))) (zO jbl))) ?_;intro ds h Q q;obtain⟨ns,e,hh,hns,q⟩:=q;subst e;refine jg (λσ' h'=> ∃b1,σ'= [some (.scr ns),b1,none,none,none,none,none]) (λC hC=> ?_) ?_
 ·refine⟨sz1,sz0,λp6 f6=>⟨⟨by decide,by decide,by decide⟩,(by show 9<=sizeLine;decide),λq1 f1=>⟨q1,rfl,?_⟩⟩⟩;generalize hts: [D.int 0,D.int (-1),D.int 7,D.bl true,D.non,D.str (G6 "2"),D.tup [D.int 2],D.lst p6,D.int (10^fW 30)]=ts;have good: ∀d∈ts,okD d=true/\zd d 2 6=false/\zd d 1 6=false/\zd d 1 3=false:=λd hd=>by
   rw [<-hts] at hd;simp only [P9,N6,or_false] at hd;rcases hd with e|e|e|e|e|e|e|e|e<;>subst e<;>first|exact⟨rfl,rfl,rfl,rfl⟩|exact⟨rfl,by decide +kernel,by decide +kernel,by decide +kernel⟩
  refine yW ts (λi σ' h'=> ∃b1,σ'= [some (.scr ns),b1,none,none,none,none,none]/\h' q1=some ts) (λi σ' h' ⟨_,_,k⟩=>k) ⟨_,rfl,by rw [<-hts];exact ja⟩ (λσ' h' ⟨b5,e,_⟩=>hC _ _ ⟨b5,e⟩) ?_;rintro j d _ h9 hj ⟨b5',rfl,kq⟩;obtain⟨okd,w26,w16,w13⟩:=good d (M3 hj);have hjl:j<ts.length:=(R0.mp hj).1;exact⟨_,rfl,d,_,rfl,.inl ⟨okd,w26,w16,w13,rfl⟩,λF g5 fF kF sb=>⟨sz1,λx1 y1=>⟨_,ja,by decide,by decide,(by show 1*4<=sizeLine;decide),λx2 y2=>Ce (ws:= ["number","number","number","number"]) (jc (jc kF y1) y2) ja ⟨_,rfl,vv ⟨_,Sub.refl _,by omega,_,rfl,jc (jc (sb _ _ kq) y1) y2⟩⟩⟩⟩⟩
 rintro _ h ⟨b1,rfl⟩;refine jg (λσ' h'=>σ'= [some (.scr ns),b1,none,none,none,none,none]) (λC hC=>⟨_,_,rfl,.inr (.inl ⟨rfl,rfl⟩),λF g5 fF kF sb=>⟨sz1,λx1 y1=>⟨sz1,λx2 y2=>⟨_,ja,by decide,by decide,(by show 1*3<=sizeLine;decide),λx3 y3=>⟨_,_,jc (jc ja y2) y3,ja,(by show 1+3<=sizeLine;decide),λx5 y5=>Ce (ws:= ["number","told","told","told"]) (jc (jc (jc (jc kF y1) y2) y3) y5) ja ⟨_,rfl,vv ?_⟩⟩⟩⟩⟩⟩) ?_
 ·exact⟨_,_,rfl,.inr (.inr (.inl ⟨rfl,rfl⟩)),λF g5 fF kF sb=>⟨sz1,λx1 y1=>⟨_,ja,by decide,by decide,(by show 1*2<=sizeLine;decide),λx2 y2=>⟨sz1,λx3 y3=>⟨_,ja,by decide,by decide,(by show 1*2<=sizeLine;decide),λx4 y4=>⟨_,_,jc (jc ja y3) y4,ja,(by show 2+2<=sizeLine;decide),λx5 y5=>Ce (ws:= ["told","told","number","number"]) (jc (jc (jc (jc (jc kF y1) y2) y3) y4) y5) ja ⟨_,rfl,vv (hC _ _ rfl)⟩⟩⟩⟩⟩⟩⟩
 rintro _ h rfl;refine jg (λσ' h'=>σ'= [some (.scr ns),b1,none,none,none,none,none]) (λC hC=>⟨_,_,rfl,.inr (.inr (.inr ⟨rfl,rfl⟩)),λF g5 fF kF sb=>⟨sz1,λx1 y1=>⟨_,ja,by decide,by decide,(by show 1*2<=sizeLine;decide),λx2 y2=>⟨sz1,λx3 y3=>⟨_,ja,by decide,by decide,(by show 1*2<=sizeLine;decide),λx4 y4=>⟨_,_,jc (jc ja y3) y4,ja,(by show 2+2<=sizeLine;decide),λx5 y5=>Ce (ws:= ["told","told","number","number"]) (jc (jc (jc (jc (jc kF y1) y2) y3) y4) y5) ja ⟨_,rfl,vv (hC _ _ rfl)⟩⟩⟩⟩⟩⟩⟩) ?_;rintro _ h rfl;refine jg (λσ' h'=>True) (λC hC=> ?_) (λσ' h3 hV=>⟨h3,Sub.refl _,q h3⟩);refine⟨_,rfl,ns,0,rfl,(by decide),λn0=>⟨sz1,λp1 e1=>⟨_,rfl,_,rfl,_,rfl,λp2 e2=>⟨_,_,jc ja e2,ja,?_,λp3 e3=>⟨p3,rfl,?_⟩⟩⟩⟩⟩
 ·have:(UH ns (some 1) (some 5)).length<=ns.length:=by unfold UH;rw [F3,aF];omega
  rw [G9];exact M5 (jO (by simp only [D4,M7];omega))
 generalize hcs:([D.int n0]++(UH ns (some 1) (some 5)).map D.int)=cs;have hint: ∀d∈cs,∃c,d= .int c:=λd hd=>by
  rw [<-hcs] at hd;rcases T4.mp hd with z|z
  ·exact⟨n0,P4.mp z⟩
  ·obtain⟨x,_,e⟩:=S2.mp z;exact⟨x,e.symm⟩
 refine yW cs (λi σ' h'=> ∃a1 a2 a3 a4 a5 a6,σ'= [some (.scr ns),a1,a2,a3,a4,a5,a6]/\h' p3=some cs) (λi σ' h' ⟨_,_,_,_,_,_,_,k⟩=>k) ⟨_,_,_,_,_,_,rfl,ja⟩ (λσ' h' _=>hC _ _ Q6) ?_;rintro i d _ h4 hi ⟨b1,b2,b3,b4,b5,b6,rfl,k3⟩;obtain⟨c,rfl⟩:=hint d (M3 hi);have hil:i<cs.length:=(R0.mp hi).1;show yR _ _ _ [some (.scr ns),b1,some (.int c),b3,b4,b5,b6] h4;refine jg (λσ' h'=> ∃p l fl,σ'= [some (.scr ns),b1,some (.int c),some (.lst p),b4,b5,b6]/\h' p=some [.int l,.int fl]/\0<=l/\h' p3=some cs/\p3≠p) (λC hC=> ?_) ?_
 ·refine⟨_,rfl,c,rfl,λp l fl ep l0 _=>hC _ _ ⟨p,l,fl,rfl,ja,l0,jc k3 ep,O0 (jx k3 ep)⟩⟩
 rintro _ h5 ⟨p,l,fl,rfl,kp,l0,k3,n3⟩;refine jg (λσ' h'=> ∃ (T:G0 (G0 P2)) (n:G8) (l2:P2),σ'= [some (.scr ns),b1,some (.int c),some (.lst p),some (jG T),b5,b6]/\GoodTab n T/\1<=n/\n<=6/\h' p=some [.int l2,.int fl]/\0<=l2/\h' p3=some cs) (λC hC=>⟨_,rfl,_,rfl,p,l,fl,rfl,kp,l0,λn l2 n1 n6 l20=>⟨p,l2,fl,n,rfl,ja,l20,n1,n6,λT l3 gT l30=>hC _ _ ⟨T,n,l3,rfl,gT,n1,n6,ja,l30,jl n3 (jl n3 k3)⟩⟩⟩) ?_;clear kp l0 k3;rintro _ h6 ⟨T,n,l2,rfl,gT,n1,n6,kp,l20,k3⟩;have hT:=gT.sq;refine jg (λσ' h'=> ∃b5,σ'= [some (.scr ns),b1,some (.int c),some (.lst p),some (jG T),b5,b6]/\h' p3=some cs) (λC hC=> ?_) ?_
 ·refine⟨_,rfl,_,rfl,p,l2,fl,T,n,rfl,kp,l20,n1,n6,gT,λd1 l3 ok1 l30=>⟨_,rfl,_,rfl,p,l3,fl,T,n,rfl,ja,l30,n1,n6,gT,λd2 l4 ok2 l40=>⟨_,rfl,p,l4,fl,rfl,ja,l40,λd3 l5 g3 ok3 bad3 bt3 kp3 l50=>⟨_,rfl,p,l5,fl,rfl,kp3,l50,λd4 l6 g4 ok4 th4 bt4 kp4 l60=>⟨sz4,λq1 f1=>⟨q1,rfl,?_⟩⟩⟩⟩⟩⟩;generalize hus: [d1,d2,d3,d4]=us;have good: ∀d∈us,okD d=true:=λd hd=>by
   rw [<-hus] at hd;simp only [P9,N6,or_false] at hd;rcases hd with e|e|e|e<;>subst e<;>assumption
  have k3':=bt4 p3 cs n3 (bt3 p3 cs n3 (jl n3 (jl n3 k3)));refine yW us (λi σ' h'=> ∃b5,σ'= [some (.scr ns),b1,some (.int c),some (.lst p),some (jG T),b5,b6]/\h' q1=some us/\h' p3=some cs) (λi σ' h' ⟨_,_,k,_⟩=>k) ⟨_,rfl,by rw [<-hus];exact ja,jc k3' f1⟩ (λσ' h' ⟨b5,e,_,k2⟩=>hC _ _ ⟨b5,e,k2⟩) ?_;rintro j d _ h8 hj ⟨b5',rfl,kq,k3''⟩;have okd:=good d (M3 hj);have hjl:j<us.length:=(R0.mp hj).1;refine⟨_,rfl,d,rfl,okd,_,rfl,?_⟩;cases hb:Xs d with
  |true=>exact vv ⟨_,Sub.refl _,by omega,_,rfl,kq,k3''⟩
  |false=>
   exact Vj (.inr ⟨_,rfl,d,rfl,.inl ⟨okd,hb,by decide +kernel,sz1,HY ⟨_,rfl,vv (.inr ⟨_,rfl,d,rfl,.inl ⟨okd,hb,by decide +kernel,sz1,HY ⟨_,rfl,vv ⟨_,Sub.refl _,by omega,_,rfl,kq,k3''⟩⟩⟩⟩)⟩⟩⟩)
 clear kp l20 k3;rintro _ h7 ⟨b5,rfl,k3⟩;refine jg (λσ' h'=>σ'= [some (.scr ns),b1,some (.int c),some (.lst p),some (jG T),b5,some (jG zT6)]/\h' p3=some cs) (λC hC=>⟨sz1,by decide,by decide,(by show 1*6<=sizeLine;decide),sz1,by decide,by decide,(by show 1*6<=sizeLine;decide),hC _ _ ⟨rfl,k3⟩⟩) ?_;clear k3;rintro _ h8 ⟨rfl,k3⟩;refine jg (λσ' h'=>σ'= [some (.scr ns),b1,some (.int c),some (.lst p),some (jG T),b5,some (jG zT6)]/\h' p3=some cs) (λC hC=> .inr ⟨_,rfl,_,rfl,.inr ⟨zT6,6,3,rfl,SV,by decide,by decide,by decide +kernel,sz3,uH ⟨_,rfl,vv (hC _ _ ⟨rfl,k3⟩)⟩⟩⟩) ?_;clear k3;rintro _ h9 ⟨rfl,k3⟩;refine jg (λσ' h'=>σ'= [some (.scr ns),b1,some (.int c),some (.lst p),some (jG T),b5,some (jG zT6)]/\h' p3=some cs) (λC hC=> .inr ⟨_,rfl,_,rfl,.inr ⟨zT6,6,3,rfl,SV,by decide,by decide,by decide,(by decide +kernel),(by decide +kernel),by decide +kernel,sz1,HY ⟨_,rfl,vv (hC _ _ ⟨rfl,k3⟩)⟩⟩⟩) ?_;clear k3;rintro _ ha ⟨rfl,k3⟩
 by_cases z:n<=5
 ·refine .inl ⟨_,rfl,T,n,20,rfl,hT,n1,z,λm h' hl sb=>⟨_,rfl,sz2,λx1 y1=>⟨_,rfl,?_⟩⟩⟩;have hg:decide ((5:P2)<(((T.map wE).length:G8):P2))=false:=(T3 (by rw [G9,hT.len];omega));exact⟨_,_,ja,(by show atI _ (if decide ((5:P2)<(((T.map wE).length:G8):P2))=true then 1 else 0)=_;rw [hg];rfl),KS ⟨_,rfl,vv ⟨_,Sub.refl _,by omega,_,_,_,_,_,_,rfl,jc (sb _ _ k3) y1⟩⟩⟩
 ·refine .inr ⟨_,rfl,_,rfl,.inr ⟨T,n,20,rfl,hT,by omega,n6,HZ _ _,_,rfl,sz2,λx1 y1=>⟨_,rfl,?_⟩⟩⟩;have hg:decide ((5:P2)<(((T.map wE).length:G8):P2))=true:=(S1 (by rw [G9,hT.len];omega));exact⟨_,_,ja,(by show atI _ (if decide ((5:P2)<(((T.map wE).length:G8):P2))=true then 1 else 0)=_;rw [hg];rfl),KS ⟨_,rfl,vv ⟨_,Sub.refl _,by omega,_,_,_,_,_,_,rfl,jc k3 y1⟩⟩⟩
end
theorem SX {l:qY}{w:T5}{K:G3}{h:M4}{mg:Str->P0 G1}{fa:G5}(X:K.In h)(G:h.Ns mainGlobals mg)(hfa:mg "law" =some (.ref fa))
 (d0:DefIn K "is_whole" Zz fu0 eu0)
 (d1:DefIn K "is_within" Jc fu1 eu1)
 (d2:DefIn K "is_place" ZA fu2 eu2)
 (d3:DefIn K "are_places" vf fu3 eu3)
 (d4:DefIn K "is_order" ZB fu4 eu4)
 (d5:DefIn K "is_table_row" yg fu5 eu5)
 (d6:DefIn K "has_table_form" wf fu6 eu6)
 (d7:DefIn K "want_table" wT fu7 eu7)
 (d8:DefIn K "want_order" vh fu8 eu8)
 (d9:DefIn K "want_number" wu fu9 eu9)
 (d10:DefIn K "multiplied" vj fu10 eu10)
 (d11:DefIn K "full" MX fu11 eu11)
 (d12:DefIn K "marks" QJ fu12 eu12)
 (d13:DefIn K "renamed" WU fu13 eu13)
 (d14:DefIn K "marks_after" yI fu14 eu14)
 (d15:DefIn K "marks_and_return" zI fu15 eu15)
 (d16:DefIn K "all_marks" Jd fu16 eu16)
 (d17:DefIn K "first_power" yJ fu17 eu17)
 (d18:DefIn K "want_first_power" zJ fu18 eu18)
 (d19:DefIn K "slow_table" wU fu19 eu19)
 (d20:DefIn K "slowest_power" zK fu20 eu20)
 (d21:DefIn K "bound_for" Jf fu21 eu21)
 (d22:DefIn K "all_rows" ZC fu22 eu22)
 (d23:DefIn K "all_mark_tables" zT fu23 eu23)
 (d24:DefIn K "all_orders" vk fu24 eu24)
 (d25:DefIn K "by_first" vC fu25 eu25)
 (d26:DefIn K "least_alike" wv fu26 eu26)
 (d27:DefIn K "slowest_tables" zt fu27 eu27)
 (d28:DefIn K "_law_cell" Jg fu28 eu28)
 (d29:DefIn K "_law_pen" ZD fu29 eu29)
 (d30:DefIn K "_law_draw" Jh fu30 eu30)
 (d31:DefIn K "_law_whole" wV fu31 eu31)
 (d32:DefIn K "_law_kind" Ji fu32 eu32)
 (d33:DefIn K "_law_said" Jj fu33 eu33)
 (d34:DefIn K "_law_odd" ZE fu34 eu34)
 (d35:DefIn K "_law_size" Jk fu35 eu35)
 (d36:DefIn K "_law_table" vn fu36 eu36)
 (d37:DefIn K "_law_is_table" wJ fu37 eu37)
 (d38:DefIn K "_law_bent_table" zV fu38 eu38)
 (d39:DefIn K "_law_no_table" wK fu39 eu39)
 (d40:DefIn K "_law_words" zh fu40 eu40)
 (d41:DefIn K "law" WY fu41 eu41)
 {tk0:Tok}(v0:fV K mainGlobals "MOST_ROWS" =some (some (.int 6 tk0)))
 {tk1:Tok}(v1:fV K mainGlobals "MOST_LISTED" =some (some (.int 3 tk1)))
 {tk2:Tok}(v2:fV K mainGlobals "MOST_RENAMED" =some (some (.int 5 tk2)))
 (z:zsB K=true)
 (ex:Ow K=true)
 (inTooGreat:InitIn K "TooGreat" "TooGreat.__init__" vd ucTooGreat ufTooGreat ueTooGreat ["many","most"])
 (tb0:Bs K "_law_words" =true)
 (tb1:Bs K "law" =true)
 : ∃fd:R4,(∀ (s:G2) (v:G1),m8 s fd ⟨[v],[]⟩ [("_law_script",v)])/\ ∀base:M4,K.In base->base.Ns mainGlobals mg->Bm mg base->FnOk l.prog w K mg base CX0 14 fa fd ["_law_script"] (LSp K Rt):=by
 have e:=hfa.symm.trans (d41.nm X G);cases e;have jz: ∃tk,mg "MOST_ROWS" =some (.int 6 tk):=⟨_,nX X G v0⟩;have jy: ∃tk,mg "MOST_LISTED" =some (.int 3 tk):=⟨_,nX X G v1⟩;have zc: ∃tk,mg "MOST_RENAMED" =some (.int 5 tk):=⟨_,nX X G v2⟩;have Z:=HH X G z;have Ex:ExcF K mg:=Ox X G ex;have Uk:=Ma tb0;have SZ:=Ma tb1;obtain⟨_,_,kV,dc,pm,an,cd,ct,_,rfl,_⟩:=d41.fn.ex;refine⟨V8 "law" "law" (wA WY) (jJ WY) (jb WY) .none kV dc pm an cd ct,λs v=> .of_eq rfl,λbase _ _ B=> ?_⟩;have i_TooGreat: ∀n,VS l.prog w K mg base (n+2) "TooGreat" ["many","most"]:=λn=>inTooGreat.cal l w base X G (HV (n:=0) inTooGreat.ik (by decide) inTooGreat.fn ZX rfl rfl rfl rfl WS WT rfl rfl rfl rfl) (λ_ _ _ _ _ _=>ln3 λ_ _ _=>rfl) n
 have Ve:=λn=>d0.cal l w base X G (QL (n:=n+0) Z d0.fn)
 have Jm:=λn=>d1.cal l w base X G (Xt (n:=n+1) Z d1.fn (Ve (n+0)))
 have Ds:=λn=>d2.cal l w base X G (QM (n:=n+2) Z d2.fn (Jm (n+0)))
 have XJ:=λn=>d3.cal l w base X G (VX (n:=n+3) Z d3.fn (Ds (n+0)))
 have Dr:=λn=>d4.cal l w base X G (QN (n:=n+4) Z d4.fn (XJ (n+0)))
 have YI:=λn=>d5.cal l w base X G (Yd (n:=n+1) Z d5.fn (Ve (n+0)))
 have yQ:=λn=>d6.cal l w base X G (ZF (n:=n+2) Z d6.fn (YI (n+0)) jz)
 have zF:=λn=>d7.cal l w base X G (VY (n:=n+3) Z d7.fn (yQ (n+0)))
 have ZT:=λn=>d7.rai l w base X G (YA (n:=n+3) Z Ex d7.fn (yQ (n+0)))
 have XN:=λn=>d8.cal l w base X G (VZ (n:=n+5) Z d8.fn (Dr (n+0)))
 have zN:=λn=>d9.cal l w base X G (YB (n:=n+2) Z d9.fn (Jm (n+0)))
 have ww:=λn=>d9.rai l w base X G (Ye (n:=n+2) Z Ex d9.fn (Jm (n+0)))
 have XL:=λn=>d10.cal l w base X G (Ua (n:=n+0) Z d10.fn)
 have Ta:=λn=>d11.cal l w base X G (OG (n:=n+4) Z d11.fn (zF (n+0)))
 have Gc:=λn=>d12.cal l w base X G (Cb (n:=n+4) Z d12.fn (zF (n+0)))
 have Nd:=λn=>d13.cal l w base X G (Df (n:=n+6) Z d13.fn (zF (n+2)) (XN (n+0)))
 have Ul:=λn=>d14.cal l w base X G (YC (n:=n+5) Z d14.fn (Gc (n+0)) (XL (n+4)))
 have Zi:=λn=>d15.cal l w base X G (Jl (n:=n+6) Z d15.fn (Gc (n+1)) (Ul (n+0)))
 have Gb:=λn=>d16.cal l w base X G (Xu (n:=n+7) Z d16.fn (Zi (n+0)))
 have yK:=λn=>d17.cal l w base X G (YD (n:=n+8) Z d17.fn (Gb (n+0)) (Ta (n+3)))
 have Zj: ∀n,jh l.prog w K mg base (n+1) "want_first_power" ["table"] wM:=λn=>d18.cal l w base X G (BB λ_ _ _ z=>z)
 have Zk:=λn=>d18.rai l w base X G (vH (n:=n+9) Z Ex d18.fn (yK (n+0)))
 have XM:=λn=>d19.cal l w base X G (Ub (n:=n+3) Z d19.fn (zN (n+0)) jz)
 have XO:=λn=>d19.rai l w base X G (YE (n:=n+3) Z Ex d19.fn (ww (n+0)) jz)
 have vq:=λn=>d20.cal l w base X G (ZY (n:=n+3) Z d20.fn (zN (n+0)) jz)
 have wP:=λn=>d20.rai l w base X G (ZG (n:=n+3) Z Ex d20.fn (ww (n+0)) jz)
 have Gd:=λn=>d21.rai l w base X G (Uc (n:=n+10) Z Ex d21.fn (zF (n+6)) (Zj (n+9)) (ZT (n+6)) (Zk (n+0)) (wP (n+6)))
 have Dp:=λn=>d22.cal l w base X G (QP (n:=n+0) Z d22.fn)
 have yt:=λn=>d23.cal l w base X G (JZ (n:=n+1) Z d23.fn (Dp (n+0)))
 have XI:=λn=>d24.cal l w base X G (Ud (n:=n+0) Z d24.fn)
 have Dq:=λn=>d25.cal l w base X G (QQ (n:=n+9) Z d25.fn (zN (n+6)) (yt (n+7)) (yK (n+0)) jy)
 have Dt:=λn=>d25.rai l w base X G (Xv (n:=n+3) Z Ex d25.fn (ww (n+0)) jy)
 have Zh:=λn=>d26.cal l w base X G (YF (n:=n+7) Z d26.fn (zF (n+3)) (Gc (n+2)) (XI (n+6)) (Nd (n+0)) zc)
 have Um:=λn=>d26.rai l w base X G (Yh (n:=n+4) Z Ex d26.fn (zF (n+0)) (ZT (n+0)) (i_TooGreat (n+2)) zc)
 have Wb:=λn=>d27.cal l w base X G (ZH (n:=n+9) Z d27.fn (zN (n+6)) (vq (n+5)) (yK (n+0)) (yt (n+7)) (Zh (n+1)) jy)
 have Wc:=λn=>d27.rai l w base X G (Zb (n:=n+4) Z Ex d27.fn (zN (n+1)) (ww (n+1)) (wP (n+0)) jy)
 have QZ:=λn=>d28.cal l w base X G (Xw (n:=n+0) Z d28.fn)
 have Do:=λn=>d29.cal l w base X G (QR (n:=n+0) Z d29.fn)
 have wO:=λn=>d30.cal l w base X G (Xx (n:=n+0) Z d30.fn)
 have XG:=λn=>d31.cal l w base X G (Ue (n:=n+0) Z d31.fn)
 have u_whole: ∀n,VD l.prog w K mg base (n+1) "_law_whole" ["_law_thing"] jW:=λn=>⟨_,_,YG (n:=n) Z Ex d31.fn,d31.fn.binds (ps:= ["_law_thing"]) λ_ _ _ _ _ _ us hl=>match us,hl with| [_],_=>rfl,d31.fn.kp,d31.nm X G⟩
 have u_kind: ∀n,VD l.prog w K mg base (n+1) "_law_kind" ["_law_e"] (QC mg):=λn=>⟨_,_,Uf (n:=n) Z Ex d32.fn,d32.fn.binds (ps:= ["_law_e"]) λ_ _ _ _ _ _ us hl=>match us,hl with| [_],_=>rfl,d32.fn.kp,d32.nm X G⟩
 have s_said: ∀n,Ov l.prog w K mg base (n+1):=λn=>⟨_,_,ON (n:=n+1) Z Ex d33.fn (u_kind n) (u_whole n),d33.fn.binds (ps:= ["_law_call"]) λ_ _ _ _ _ _ us hl=>match us,hl with| [_],_=>rfl,d33.fn.kp,d33.nm X G⟩
 have Dm:=λn=>d34.cal l w base X G (QU (n:=n+1) Z d34.fn (wO (n+0)))
 have Ga:=λn=>d35.cal l w base X G (Xy (n:=n+1) Z d35.fn (wO (n+0)))
 have XF:=λn=>d36.cal l w base X G (Ug (n:=n+1) Z d36.fn (wO (n+0)))
 have Yp:=λn=>d37.cal l w base X G (ZZ (n:=n+1) Z d37.fn (XG (n+0)))
 have ZJ:=λn=>d38.cal l w base X G (Zd (n:=n+1) Z d38.fn (wO (n+0)))
 have Yq:=λn=>d39.cal l w base X G (Wa (n:=n+1) Z d39.fn (wO (n+0)))
 have XH:=λn=>d40.cal l w base X G (Uh (n:=n+10) Z B d40.at_ Uk d40.fn (XM (n+6)) (vq (n+6)) (Dq (n+0)) (Wb (n+0)) (XO (n+6)) (wP (n+6)) (Dt (n+6)) (Wc (n+5)) (s_said (n+9)))
 exact SW (n:=11) Z B d41.at_ SZ d41.fn (XH 0) (QZ 12) (Do 12) (XF 11) (Ga 11) (Dm 11) (Yq 11) (ZJ 11) (Yp 11) (Zh 3) (Gd 0) (Um 6) (s_said 10)
end My
namespace PySem.W.Fast
def tw18328033805515725333:=()
def tw5726730737131422465:=()
def tw1864337299969397088:=()
def tw1181624596918307440:=()
def tw1485644566189256992:=()
def tw13425064579391702681:=()
def tw16137436466507549498:=()
def tw2056323180618031276:=()
def tw11292106295289453434:=()
def tw273354663047949845:=()
def tw3935477408710704001:=()
def tw2417102760871471539:=()
def tw17026930899264679638:=()
def tw10017296472706489345:=()
def tw11196299949409568541:=()
def tw14868441893263209524:=()
def tw15240216554912010061:=()
def tw15848277381623182716:=()
def tw8501011907482671280:=()
def tw14043437063846803563:=()
def tw11018587315849258786:=()
def tw7857795112448275214:=()
def tw12155143053947289507:=()
def tw2291746012775572965:=()
def tw18067212585074456159:=()
def tw7013791285514537260:=()
def tw11734940721320218149:=()
def tw6589059661111382757:=()
def tw17885569020583875793:=()
def tw7143241220832935265:=()
def tw8683353678068728501:=()
def tw2236931958025079963:=()
def tw2185057894017707599:=()
def tw2869119651822648295:=()
def tw9972602540969279001:=()
def tw5503269581577799883:=()
def tw15329685248868655585:=()
def tw15397159085219577748:=()
def tw15906534725696518799:=()
def tw17046056663447124771:=()
def tw2954865458182511921:=()
def tw14445396072190553089:=()
def tw10622081159341635888:=()
def tw14970833204737566264:=()
def tw7667998862779064927:=()
def tw4677317303446574851:=()
def tw14068418346512595439:=()
def tw13723841852558898663:=()
def tw10272726583716371944:=()
def tw5300865613836468563:=()
def tw11872326084744099259:=()
def tw13089069218677924701:=()
def tw11748423712565028217:=()
def tw10636516478338580675:=()
def tw13419386920965715164:=()
def tw16824891248534147887:=()
def tw762568294259868378:=()
def tw16269384854990385607:=()
def tw6006275416592338628:=()
def tw15542984597086108819:=()
def tw9073553214390680921:=()
def tw3478757771300407514:=()
def tw2928323310436238801:=()
def tw3906027808954400507:=()
def tw7524017774336934066:=()
def tw13325897066222496019:=()
def tw10994505376184562650:=()
def tw6632421632081854982:=()
def tw17284624525909276859:=()
def tw17811741655109844031:=()
def tw6420448704682137826:=()
def tw7455523987396399174:=()
def tw1790785984450639588:=()
def tw3762840066328911637:=()
def tw1915712688133447932:=()
def tw8201782646222252869:=()
def tw8776654101636820336:=()
def tw10392351374954405039:=()
def tw18403828478011257585:=()
def tw6389677966492223440:=()
def tw4590594660449283356:=()
def tw5201955281021190276:=()
def tw14568895762398184179:=()
def tw5903084215045082002:=()
def tw17905186988115222100:=()
def tw15875005826675847177:=()
def tw3003114844773087946:=()
def tw17573853596000995251:=()
def tw2800691517021077110:=()
def tw12527317740280442306:=()
def tw7955490580950636671:=()
def tw4694144614087108153:=()
def tw3910849474715204983:=()
def tw14641818118890863162:=()
def tw2811067134085159719:=()
def tw8172429863300012011:=()
def tw8046679684542415396:=()
def tw1636058725050348766:=()
def tw5078295665780294621:=()
def tw7366786447811201220:=()
def tw8367113760915086342:=()
def tw7874668099270667559:=()
def tw4590549196160870891:=()
def tw3358412435330680966:=()
def tw6131170079026353426:=()
def tw9770289146545586135:=()
def tw9645624987820707729:=()
def tw14899711320291678648:=()
def tw6346679971682309464:=()
def tw3934337153737578701:=()
def tw3546294487941373292:=()
def tw18235982969127937395:=()
def tw5171827744330360686:=()
def tw837210846350801493:=()
def tw16757124242330564183:=()
def tw6546848014924671114:=()
def tw15084775591192960397:=()
def tw17690102843962021426:=()
def tw12931311340670004114:=()
def tw8342103568084565878:=()
def tw16260406191867210683:=()
def tw9919802517726588653:=()
def tw6289202855795878109:=()
def tw5103945980284632658:=()
def tw11459153676613943973:=()
def tw11910038969481362778:=()
def tw7324136550815973970:=()
def tw1808320876654524562:=()
def tw17634864916056039235:=()
def tw16263338235566734706:=()
def tw13924638442133003171:=()
def tw3131302313112634801:=()
def tw15294947201726752178:=()
def tw11216140580851624635:=()
def tw8806051336558214028:=()
def tw14931187153962438620:=()
def tw15854727405514999082:=()
def tw14963987810498191415:=()
def tw10931693669516931644:=()
def tw12234563763788010467:=()
def tw337671694199269858:=()
def tw13051717881494807047:=()
def tw18151231031972631175:=()
def tw2278242840258690128:=()
def tw60244524317596709:=()
def tw14439700394094481648:=()
def tw17516587284779533312:=()
def tw8739157201945657751:=()
def tw1374280683436006238:=()
def tw17399070273910643290:=()
def tw13630259334528782791:=()
def tw1039996207189715949:=()
def tw3696617002396531363:=()
def tw7060918958744065323:=()
def tw490779712012486417:=()
def tw16168350514167947036:=()
def tw2403470664981692460:=()
def tw4295209254451855042:=()
def tw6675721114925335404:=()
def tw458833710433937258:=()
def tw8452308240010513772:=()
def tw13676253706623161965:=()
def tw10738072568641889547:=()
def tw11431356427144331372:=()
def tw14450419923101790592:=()
def tw7378346982607693968:=()
def tw1634385690399249222:=()
def tw18065934611860694936:=()
def tw11563894564208910302:=()
def tw10963754365285321030:=()
def tw5979244147188256864:=()
def tw9056051525186858184:=()
def tw9184412174062020920:=()
def tw3266954585864205917:=()
def tw12303725180411639437:=()
def tw12247459737311932029:=()
def tw13289022798229551339:=()
def tw4795749058313267426:=()
def tw12771716176396853740:=()
def tw15984345032607785341:=()
def tw16209068596559541875:=()
def tw7225750268238628322:=()
def tw5539696722265821570:=()
def tw6861284993196569625:=()
def tw12721517519187022773:=()
def tw9210666277234538132:=()
def tw17760519191998297591:=()
def tw7805537503172821999:=()
def tw6126175726670746300:=()
def tw8002012181470061896:=()
def tw15528451692999319790:=()
def tw6534339066603202438:=()
def tw15140937844333974492:=()
def tw9422684183602294663:=()
def tw16686178042662089842:=()
def tw3382084680581203057:=()
def tw784880489155405328:=()
def tw11045359519855050925:=()
def tw1562972667253213139:=()
def tw16467442581399353753:=()
def tw7446827497871739050:=()
def tw2200746690405806625:=()
def tw9874642989685640831:=()
def tw6993983441726895764:=()
def tw29742424342325770:=()
def tw8693028834050886649:=()
def tw10972843204242608562:=()
def tw12348234907912968088:=()
def tw8344836478472480682:=()
def tw17014158362982540114:=()
def tw1981583432688136669:=()
def tw15650715261364677170:=()
end PySem.W.Fast
open PySem PySem.W PyProof.Rows
set_option maxRecDepth 100000 in
set_option maxHeartbeats 0 in
theorem PySem.Challenge.cw_firstpowers_k63_sizes_refused_holds : PySem.Challenge.rw_firstpowers_k63_sizes_refused.Holds := by
  w_on; o_law; k_head; (case hw => w_witness2)
  k_fill
  refine L2.NN (l := PySem.Challenge.rw_firstpowers_k63_sizes_refused) (k := 14) (x := "_law_script") rfl rfl ⟨rfl, by decide, by decide, rfl⟩ (fun w h Y => PySem.W.km_in_of Y) ?B ?F
  case B => intro w; kernel_rfl
  case F =>
    intro w mg fa h KX G hmg
    refine' My.SX KX G hmg ?d0 ?d1 ?d2 ?d3 ?d4 ?d5 ?d6 ?d7 ?d8 ?d9 ?d10 ?d11 ?d12 ?d13 ?d14 ?d15 ?d16 ?d17 ?d18 ?d19 ?d20 ?d21 ?d22 ?d23 ?d24 ?d25 ?d26 ?d27 ?d28 ?d29 ?d30 ?d31 ?d32 ?d33 ?d34 ?d35 ?d36 ?d37 ?d38 ?d39 ?d40 ?d41 ?v0 ?v1 ?v2 ?z ?ex ?inTooGreat ?tb0 ?tb1
    case d0 | d1 | d2 | d3 | d4 | d5 | d6 | d7 | d8 | d9 | d10 | d11 | d12 | d13 | d14 | d15 | d16 | d17 | d18 | d19 | d20 | d21 | d22 | d23 | d24 | d25 | d26 | d27 | d28 | d29 | d30 | d31 | d32 | d33 | d34 | d35 | d36 | d37 | d38 | d39 | d40 | d41 => refine' L2.Sx ?a ?l ?c ?k; (case a => k_is); (case l => k_is); (case c => k_is); (case k => k_is)
    case inTooGreat => refine' L2.OC ?a ?b ?l ?c ?k ?e ?i; (case a => k_is); (case b => k_is); (case l => k_is); (case c => k_is); (case k => k_is); (case e => k_is); (case i => kernel_rfl)
    case v0 | v1 | v2 => k_is
    case z | ex | tb0 | tb1 => kernel_rfl
