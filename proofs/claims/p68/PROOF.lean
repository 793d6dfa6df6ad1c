import PyProof.Rows.All
import Wide.All
import OpenK.AllK
import Wide.FinOn
import Lean
import PyProof.EqAt
import PyProof.EqKinds
import PyProof.TupleCall
import PyProof.Rows.TopTwo
import KE.KIsAll
import PyProof.ExcAttrAll.ValueError
import KE.KTryMore
import KE.KRevIter
import PyProof.SetRoads
import KE.KDictList
import PySem.Challenge.RW_firstpowers_k68_when_all_are_full
set_option Elab.async false
set_option linter.all false
set_option maxRecDepth 100000
set_option maxHeartbeats 8000000
open _root_ renaming List->G0,Nat->G6,Int->P2,Option->D2,if_pos->R8,if_neg->R9,decide_eq_true->S7,decide_eq_false->S8,Array->S9,Bool->N0,of_decide_eq_true->H0,String->V1,StateT->Y6,decide_eq_true_eq->Z4,beq_self_eq_true->aL,exists_eq_left'->fG,ForInStep->fV,of_decide_eq_false->j6,if_false->nZ,if_true->oR,dif_pos->oU,decide_eq_true_iff->pS,decide_true->y9
open PySem renaming Value->G1,Shared->G3,wpAny_pure->P0,Addr->P3,wpAny->R3,model->R7,starEach->S1,Program->T3,wpAny_mono->T7,foldedSetIterable->M5,Expr->M9,SetTable->N2,Around->N6,World->B9,wpAny_loadPart'->C4,FuncData->C8,compareOp->L0,wpAny_call_entry->L9,wpAny_holding->O1,Heap->O6,wpAny_setState_of->A9,wpAny_callSpecial?_slot->E9,mainGlobals->J5,eval->J7,rawInt->K1,wpAny_truthy_bool->K4,binaryOp->K8,Stmt->Q2,bootBuiltins->U3,backTo->U6,tupleKeyHash->W4,swapsWith->W5,cellsFrom->W6,Scope->W9,wpAny_specialOf->X0,holding->Y0,wpAny_standAt->Y1,behindInMarks->Y2,wpAny_newObj_type->Y9,wpAny_pyIter_list->Z0,ofAClassStatement->Z5,codeAny_builtin->aC,PyData->aG,Comprehension->aH,wpAny_askSetting->aK,wpAny_passesOwn->aY,codeAny->aZ,mem_of_lookup->bM,isSubtype_type->bT,sysModules->bX,letOwnedTupleGo->cB,attributeBase->cH,wpAny_callSpecialIfBoundUnlessNone?_slot->cL,searchCouldBeSeen->cR,wpAny_seqItems->dA,Keyword->dE,wpAny_isInstance->dG,assign->dP,swapsWithSole->dW,swappedStores->dX,standAt->fB,assignEach->fH,sliceBounds->fT,keywordEach->fU,hashByValue->f7,atKey->f8,wpAny_notOrdered_dict->gW,wpAny_rule->g4,Fin->g7,plainId_quiet->iC,compTurn->iE,wpAny_execs_nil->iH,wpAny_ret_mkInt->iJ,wpAny_typeOf->iN,wpAny_Call_Name_kw->iY,wpAny_pyIter_tuple->i7,IsTupleKey->kH,wpAny_pyHash_tuple->kI,wpAny_binaryOp_repeat_ref->kK,getItem->k9,wpAny_sequenceKey->lA,wpAny_pyIter_slot->lC,comprehension->lF,wpAny_comprehension_free->lG,wpAny_attempt->lJ,noFill_tuple_add->lS,backToKw->lU,compEnvC->lV,DictEntry->lW,checkBuiltinCall->mB,setField->mC,builtinsNs->mE,truthy->mF,codeAny_mono->mG,IsPart->mI,typeIs_int->mK,call_meets->mL,reduceHash->mN,richCompare_meets_room->mT,theTreesLotGoes->mZ,codeAny_of_tree->m5,exec_Assign_Name_used->nD,builtinLookup_eq_fast->nG,isSubtype_tuple_tuple->nK,wpAny_isOneOf_keyiter->nM,wpAny_loadName_local->nO,CmpOp->nQ,subscripted->n4,lookup_relabel_local->n5,intBits_le_iff->n9,richCompare->oF,setAddHashedIn->oI,codeAny_call_builtin->oJ,PassesOwn->oQ,callerA->oS,isSubtype->oT,eqIsQuiet->oV,wpAny_loadName_cell->oW,assignInOrder->o6,seq_tuple_add->o7,pyNext->pG,pyIter->pH,Result->pI,wpAny_call->pJ,wpAny_setField_rec->pN,wpAny_eqBool_tuple->pP,wpAny_tupleItemsOf->pR,Model->pU,Operator->pX,name_of_addr->p4,concat_meets->p5,seqIndex_neg->p6,callSpecial?->qE,wpAny_pyIter_enum->qG,entryFor->qH,wpAny_storeSet_of->qQ,wpAny_cRoomFor_or->qS,wpAny_dictEntries->qW,wpAny_execs_cons->q0,seqSlot_of->rE,entryFor_of_fast->rF,sizeLine_eq->rP,wpAny_field->rQ,seqIndex_of->rR,pushCells_keeps->sB,typeLookup_type->sH,setItem->sR,BindsTo->sS,Setting->sU,wpAny_Name->sZ,bindName->tD,wpAny_bindName->tE,bindL->tG,bindC->tH,fitsIndex_both->tM,newFunctionEnv->tN,compPost->tO,entryFor_alias->tU,isSubtype_stop->tV,wpAny_newTuple->tW,carriedByValue->uA,wpAny_runValue->uB,intBits_le_64->uG,evalPart_none->uI,eval_ListComp->uJ,wpAny_notedAt->uK,checkTypeCall->uR,wpAny_newList->uW,setSearchFrom->u6,storeName->v7,lastMarks->v9,noteFrame->w8,Within->xB,isTrue->xC,codeAny_loop->xD,relabel->xE,interactive->xQ,IsRangeIter->xR,bindArgs->xS,wpAny_noted->xT,wpAny_of_eq->xV,setRelay->y8,storedH_new->z6,entryOfKey->IE,wpAny_load->IH,typeLookup->IM,typeIs_str->IN,call->IQ,closureFor->IR,seqRepeat?->IS,preSum->IT,argsOk->IU,stored->IZ,hashInt->KA,release->KB,operate->KJ,newDict->KM,data2->G0f,Params->G0g
open List renaming getElem?_eq_getElem->G2,length_map->G5,mem_singleton->G8,length_append->P1,mem_cons_self->P4,mem_append_right->P5,getD_eq_getElem?_getD->P7,mem_of_getElem?->P8,getElem?_eq_some_iff->P9,mem_range->D0,getElem?_map->D3,range->D4,append_assoc->D5,mem_append->D8,length_cons->D9,mem_cons_of_mem->R1,size_toArray->R4,mem_cons->R5,mem_map->R6,length_range->S6,length_take->T4,map_cons->T5,map_append->T9,take_of_length_le->M6,getElem_mem->M7,mem_append_left->M8,all_eq_true->N3,take_append_drop->N4,getElem?_append_right->N8,replicate->B1,pairwise_append->B2,length_drop->B3,map_map->B6,map_congr_left->B8,mem_filter->C1,getElem?_append_left->C3,length_reverse->C7,not_mem_nil->C9,getElem?_eq_none->F7,take_add_one->F8,length_nil->L5,mem_of_mem_drop->L8,pairwise_iff_getElem->O3,mem_of_mem_take->O8,nil_append->A4,mem_reverse->A5,drop_eq_nil_of_le->E1,append_nil->E7,nodup_cons->E8,lookup_cons->I0,pairwise_singleton->J1,filter_cons_of_neg->J3,filter_cons_of_pos->J4,eq_nil_of_length_eq_zero->J6,getElem?_set_ne->K7,find?_cons->Q1,extract_eq_drop_take->Q4,mem_of_find?_eq_some->Q5,take_sublist->Q7,drop_sublist->Q9,take_length->U9,reverse_perm->V9,pairwise_map->W0,nodup_append->W3,replicate_succ->W7,getElem?_range->W8,pairwise_cons->X7,getElem?_drop->X8,length->Y4,drop_append_of_le_length->Y7,take_append_of_le_length->Y8,getElem?_cons_zero->Z6,getElem_of_mem->aE,cons_append->aJ,drop_drop->aO,zip_cons_cons->aP,find?_eq_none->aQ,length_filter_le->aR,flatten_cons->a8,getElem?_of_mem->bF,length_erase_of_mem->bL,mem_map_of_mem->bO,length_eq_zero_iff->bR,getElem?_cons_succ->bU,any_eq_true->bW,mem_filterMap->bY,all_map->bZ,length_pos_of_mem->b8,forIn_cons->cC,dropLast_concat_getLast->cF,find?_some->cG,length_singleton->cI,perm_append_comm->cJ,getElem?_reverse->cK,flatMap_cons->cO,ext_getElem?->cP,mem_erase_of_ne->cW,map_nil->dF,mem_flatMap->dH,getLastD_eq_getLast?->dL,getLast?_eq_getElem?->dM,exists_mem_of_ne_nil->dN,filterMap_cons->dO,flatMap_append->dQ,length_pos_iff->dR,filter_eq_self->dU,getElem?_take_of_lt->dZ,getElem_range->fO,getElem?_set_self->gA,getElem?_set->gE,range_succ_eq_map->gF,foldl_append->gI,take_zero->gK,length_eq_one_iff->gR,eraseIdx_eq_take_drop_succ->gU,pairwise_reverse->gV,mem_iff_getElem?->gY,map_take->iA,drop_zero->i8,length_eraseIdx_of_lt->j5,getElem?_eq_none_iff->kO,filter_congr->lD,map_drop->lH,sum_cons->lN,count_le_count_cons->lQ,getElem?_replicate->lR,perm_middle->l9,nodup_range->mD,getElem_of_append->mR,of_mem_zip->mX,foldl_cons->mY,range_succ->m7,min?_eq_some_iff->nE,set_append_right->nH,drop_take->oA,take_take->oB,getLast?_concat->oC,nodup_nil->oK,count_cons_self->oO,take_succ_cons->oY,getElem?_take->pM,Nodup->pO,filter_append->pT,any_map->qA,getElem_take->qM,getElem_drop->qN,map->qR,find?_append->qT,zip_nil_left->qV,append_cons->rG,cons_ne_nil->rM,map_id->rT,length_set->r9,sum_append->sE,filter_nil->sQ,foldl->tL,take_succ->uC,all_cons->uL,any_cons->uM,lookup->xU
open PySem.W renaming Frag->G7,kia_one->K9,keepIn->bP,fnOf->dB,methodObj->kT,cellsFrom_some->mH,instObj->mW,kat_nil->nC,lookIn->nU,kitOne->nX,codeIn->nY,tabObj->n8,tabIn->pA,mg_of->pB,kitx_list->pZ,kitx_dict->p0,nsIn->qY,plainGet->rA,OpenLaw->sD,findIn->tF,CodeHd->tP,hideAll_size->xO,hideAll_none->xP,hideAll_get->z7,of_hideAll->IF,kitx_float->II,kitx_tuple->IJ,callWith_K->IK,codeRec_of->IL,ki_setBack->IP,hasDictIn->KC,plainOver->KF,specialIn->KG,kitx_none->KH,kitx_bool->KI,eq_bytes->KN,ne_bytes->KO,kitx_int->KP,kitx_str->KQ,kitx_own->KR,ki_setAt->KS,kat_cons->KY,hideAll->KZ,takesIn->G0a,KatTups->G0b,kat_yes->G0c,kat_one->G0d,InstAt->G0e,tab_of->G0h,KatLex->G0l,kat_no->G0m,kat_lt->G0n,mroIn->G0o,WalkO->G0p
open PySem.Heap renaming get?_push_of_some->G9,lt_size->R0,get?_push_size->S5,get?_update_self->L6,SameBut->O7,size_push->cU,get?_update_other->gC,get?_update_ne->oZ
open Nat renaming le_refl->P6,le_trans->S0,le_of_lt->M0,ne_of_lt->M1,lt_of_lt_of_le->N7,zero_le->N9,lt_irrefl->B7,lt_or_ge->F9,zero_add->A8,le_of_eq->E5,add_sub_cancel'->E6,lt_succ_self->J0,lt_of_le_of_ne->J8,eq_of_beq_eq_true->K2,le_of_ble_eq_true->K3,pow_succ->K6,not_lt_zero->Q0,ne_of_gt->U4,mul_comm->U5,le_add_right->V0,lt_trans->V2,lt_of_succ_le->V3,lt_of_succ_lt->V7,min_eq_left->X3,lt_of_le_of_lt->X6,mod_lt->X9,add_zero->Y3,not_lt->aA,lt_trichotomy->bG,succ_pos->b9,div_div_eq_div_mul->cA,le_add_left->cE,lt_succ_of_lt->cN,pow_le_pow_right->cV,one_pos->cZ,min_le_right->dD,beq->dI,add_le_add_left->dS,add_assoc->eQ,mul_assoc->eU,lt_succ_iff->fC,le_antisymm->fE,sub_lt->fI,pos_of_ne_zero->fJ,add_right_comm->fM,add_sub_cancel_left->fZ,mul_add->f6,succ_mul->gD,succ_le_of_lt->gL,pow_zero->gM,dvd_of_mod_eq_zero->gO,mul_succ->gS,le_of_not_lt->g6,succ_le_succ->g8,mod_eq_of_lt->g9,sub_self->iQ,eq_zero_or_pos->j7,add_sub_cancel->j9,ble->lE,min_eq_right->l8,add_comm->mM,mod_eq_zero_of_dvd->mU,le_total->mV,div_add_mod->nB,ble_eq_true_of_le->nN,add_le_add_right->oE,add_mod->oG,div_one->oH,le_zero->oN,mul_le_mul_left->o4,sub_zero->qC,le_of_succ_le->qJ,succ_add->qK,sub_pos_of_lt->qL,le_succ_of_le->qO,beq_refl->qX,succ_lt_succ->rJ,add_mul->rV,pow_pos->rX,max_eq_left->sJ,min_le_left->sL,mod_add_div->sO,gcd->sW,mul_le_mul->tR,zero_mul->xI,succ->x3,two_mul->y3,mod_mod->y4,mul_mod->y6,sub_le->IV
open Array renaming length_toList->D1,getElem?_toList->N5,toList_append->L7,getElem?_eq_some_iff->A2,toList_push->Q8,forIn_toList->U8,getElem?_eq_getElem->aX,toList_extract->bI,getD_eq_getD_getElem?->cQ,getElem_toList->cX,getElem?_eq_none_iff->cY,size_setIfInBounds->eO,toList_reverse->iF,isEmpty_eq_false_iff->i6,toList_setIfInBounds->j8,eraseIdxIfInBounds->lO,getElem?_eq_none->mP,replicate->m9,toList_eraseIdx->nJ,mem_toList_iff->nV,toList->pW,isEmpty_iff->qB,toList_map->rK,size_push->sN,getD->tT,size_map->t8,isEmpty->u9
open Bool renaming false_ne_true->D6,and_eq_true->C6,false_eq_true->F5,eq_false_iff->V8,or_eq_true->X1,eq_iff_iff->Z7,and_false->bQ,not_true->iD,and_true->lM,false_and->nP,or_eq_false_iff->n6,or_false->o9,not_false->tZ,true_and->v6
open PyProof.Rows renaming Keyed->D7,arrOf->T6,pendingOf->C0,SortSt->C5,slot_tuple_getitem->X4,boot_all->aU,failedOf->bH,callWith_type1->cM,IntsAre->iO,assignInOrder_cons->iU,envOfC->iZ,AllBare->kU,subscriptTail_builtinR->mJ,seqObj->mS,entry_tuple_getitem->oX,subscriptTail->o8,args_tuple_getitem->pK,isTrue_plain->pV,assignInOrder_nil->pY,callWith_builtin1->rB,boot_isinstance->sC,get?_update_seq->sK,slicePart_none->tJ,Subscript_->tK,keyKind'->tX,printed_name->uE,printed_star->uF,tupleItemsOf_->uH,reverseSlice'->uU,listUpdate_at->uV,IsTup->xN,mergeAt'->xZ,binarySort'->x4,seqEpoch_at->x5,recsOf->z8,lt_int->z9,isTrue_and->IG,setPending->IW,tuples'->KL,seen->G0k
open PySem.SetTable renaming bits->S4,below->T8,runEnd->A6,turns->E2,sizeAbove->J9,Probe->U2,insertAt->V5,advance->aM,grown->c9,toList_insertAt->eJ,insertAt_perm->gP,slot->lI,has->mQ,layClean->qP,fresh->tY,fits->uS,leap->u3,laid->u4,fill->u5,probeStart->IA,sameMemory->IC,gaveWay->KU,tooFull->KW
open Option renaming map_eq_some_iff->F4,map_eq_none_iff->V6,getD_some->bS,isSome_iff_exists->dY,map_some->iK,isNone_iff_eq_none->kM,isSome_map->qU,getD_none->rC
open Classical renaming byContradiction->F6,em->G0r
open PySem.PyData renaming canLayAll0->O0,depthAll->O2,canLay0->O4,eqvAll->K0,depth->K5,eqv->aB,int->j0,hasDictAll->qF,showable->sG,hasDict->tS
open PySem.Heap.SameBut renaming update->O5,refl->bE,trans->IY
open Option.some renaming inj->O9,injEq->cS
open PySem.NameKind renaming free->A3,cell->U1
open PySem.PassesOwn renaming never->A7
open PySem.SetTable.layClean renaming free->E3
open Ne renaming symm->E4
open Function renaming comp_apply->Q6,comp_def->gG
open PySem.Value renaming ref->U0,int->iR,none->iT,str->oP,bool->pE,type->pF,isInt->rO,float->xM
open Or renaming inl->U7,inr->aW
open Int renaming toNat_natCast->V4,emod_nonneg->iM,fdiv_eq_ediv_of_nonneg->iV,fmod_eq_emod_of_nonneg->iW,lt_of_lt_of_le->i9,emod_lt_of_pos->kJ,lt_of_le_of_lt->pL,mul_comm->qD,natCast_emod->rN,pow_pos->rS,natCast_add->sF,mul_nonneg->tQ,le_of_lt->xF,ne_of_gt->xJ,mul_pos->xW,pow_add->xX,toNat->KT
open PySem.SetTable.probe renaming go->W1
open PySem.Builtin.Tuple renaming tupleHashOf->X5,tupleItemsOf->aN,tupleExact->bJ,tupleIsExact->i4,tupleTooMany->i5,tupleCompareSizes->qZ
open PySem.Around renaming under_plainId->Y5
open PySem.Obj renaming mapSeq->Z8,mapFields->iB,data_mapDictKeys->oM
open ForInStep renaming yield->Z9
open PySem.F renaming slot_dict_keyiterator_next->aD,args_tuple_add_2->eI,entry_tuple_add->fQ,plainAttrs_list->fX,slot_tuple_add->gB,slot_tuple_hash->gQ,args_dict_keyiterator_next_1->hJ,entry_dict_keyiterator_next->iG,slot_int_rmul->iI,args_tuple_hash_1->o3,slot_dict_delitem->o5,entry_tuple_hash->pQ,args_int_rmul_2->p7,plain_list_iadd->qI,entry_int_rmul->rD,slot_dict_iter->rL,fills_int_mul->sA,slot_set_iter->sI,slot_dict_len->sP,slot_list_append->uN,type_list_append->uO,slot_list_insert->uP,type_list_insert->uQ,slot_list_extend->u7,type_list_extend->u8,args_tuple_lt_2->xA,entry_tuple_lt->xG,args_list_lt_2->xH,slot_tuple_lt->xK,entry_list_lt->xL,slot_list_lt->x8
open PySem.Str renaming ofString->aF,empty->w6
open PySem.SetTable.sizeAbove renaming go->aT
open PySem.Builtin.Slice renaming slicePlaces->aV,sliceAdjust->dJ,sliceApplied->i0,slicePartIndex->rY,sliceFields->uD
open PyProof.Rows.LCg renaming lst->a9
open PySem.Builtin.List renaming listTooLong->bK,listLengthHint->iP,listFitsIndex->i3,listSameRef->lK,listExtendWith->sV
open PySem.pyHashByItsType renaming reduced->bV
open True renaming intro->cT
open Sum renaming inr->fA,inl->kQ
open PySem.Builtin.SmallTypes renaming stopIteration->gH
open PySem.SetTable.below renaming go->gJ
open Decidable renaming byContradiction->kP
open List.Pairwise renaming nil->lB
open PySem.Walks renaming list->mO,tuple->xY
open List.Perm renaming trans->m8,append->rH,cons_inv->IX,cons->G0i,swap->G0j,nil->G0q
namespace L2
open PySem PySem.Spec PyProof.Rows
abbrev Key:=Sum P2 Str
def Ld:Key->G1->N0
 | .inl k,v=>rO k v
 | .inr x,v=>Value.isStrOf x v
def Hu (w:B9):Key->P2
 | .inl k=>KA k
 | .inr x=>hashStr w x
theorem jO: ∀ {k:Key} {v:G1},Ld k v=true->(∃i t,k=kQ i/\v=iR i t)\/(∃x t,k=fA x/\v=oP x t)
 | .inl i,v,h=>by
  obtain⟨t,e⟩:=Value.isInt_shape (k:=i) (v:=v) h;exact .inl ⟨i,t,rfl,e⟩
 | .inr x,v,h=>by
  obtain⟨t,e⟩:=Value.isStrOf_shape (x:=x) (v:=v) h;exact .inr ⟨x,t,rfl,e⟩
theorem Le (a b:P2):decide ((kQ a:Key)=kQ b)=(a==b):=by
 by_cases e:a=b
 ·subst e;simp
 ·have h: ¬ (kQ a:Key)=kQ b:=λq=>e (Sum.inl.inj q)
  rw [S8 h];exact(beq_eq_false_iff_ne.mpr e).symm
theorem Lg (a b:Str):decide ((fA a:Key)=fA b)=decide (a=b):=by
 by_cases e:a=b
 ·subst e;simp
 ·have h: ¬ (fA a:Key)=fA b:=λq=>e (Sum.inr.inj q)
  rw [S8 h,S8 e]
theorem Lh (a:P2)(b:Str):decide ((kQ a:Key)=fA b)=false:=S8 (λq=>nomatch q)
theorem Li (a:Str)(b:P2):decide ((fA a:Key)=kQ b)=false:=S8 (λq=>nomatch q)
def Gc (prog:T3)(w:B9):PySem.KeyKind prog w Key where
 is:=Ld
 hash:=Hu w
 inj:=λv a b ha hb=>by
  rcases jO ha with ⟨i,t,rfl,rfl⟩|⟨x,t,rfl,rfl⟩
  ·rcases jO hb with ⟨j,u,rfl,e⟩|⟨y,u,rfl,e⟩
   ·injection e with e1 _;rw [e1]
   ·exact nomatch e
  ·rcases jO hb with ⟨j,u,rfl,e⟩|⟨y,u,rfl,e⟩
   ·exact nomatch e
   ·injection e with e1 _;rw [e1]
 byValue:=λk v h=>by
  rcases jO h with ⟨i,t,rfl,rfl⟩|⟨x,t,rfl,rfl⟩<;>rfl
 pyHash:=λhv h=>by
  rcases jO hv with ⟨i,t,rfl,rfl⟩|⟨x,t,rfl,rfl⟩
  ·exact wpAny_pyHash_int h
  ·exact wpAny_pyHash_str h
 eqBool:=λhu hv h=>by
  rcases jO hu with ⟨i,t,rfl,rfl⟩|⟨x,t,rfl,rfl⟩
  ·rcases jO hv with ⟨j,u,rfl,rfl⟩|⟨y,u,rfl,rfl⟩
   ·rw [Le] at h;exact wpAny_eqBool_int h
   ·rw [Lh] at h;exact SeqAt.EqAt.int_str i t y u _ _ _ _ h
  ·rcases jO hv with ⟨j,u,rfl,rfl⟩|⟨y,u,rfl,rfl⟩
   ·rw [Li] at h;exact SeqAt.EqAt.str_int x t j u _ _ _ _ h
   ·rw [Lg] at h;exact wpAny_eqBool_str h
 «strs» :=λk x t v h=>by
  rcases jO h with ⟨i,u,rfl,e⟩|⟨y,u,rfl,e⟩
  ·exact nomatch e
  ·injection e with e1 _
   subst e1;cases v<;>rfl
inductive V where
 |non|bl (b:N0)|int (i:P2)|str (x:Str)|byt (b:S9 UInt8)|flt (b:UInt64)|ref (a:P3)|ty (n:V1)
 deriving DecidableEq
def RelV:V->G1->Prop
 | .non,u=>u=iT
 | .bl b,u=>u=pE b
 | .int i,u=> ∃t,u=iR i t
 | .str x,u=> ∃t,u=oP x t
 | .byt b,u=> ∃t,u=Value.bytes b t
 | .flt b,u=> ∃t,u=xM b t
 | .ref a,u=>u=U0 a
 | .ty n,u=>u=pF n
abbrev Vals:G0 V->G0 G1->Prop:=Paired RelV
theorem Vals.length {xs:G0 V}{us:G0 G1}(r:Vals xs us):xs.length=us.length:=Paired.length r
theorem Vals.get: ∀ {xs:G0 V} {us:G0 G1} {i:G6} {x:V},Vals xs us->xs[i]? =some x-> ∃u,us[i]? =some u/\RelV x u
 |_,_,_,_,.nil,e=>by simp at e
 |_,_,0,_,.cons r _,e=>by simp at e;subst e;exact⟨_,rfl,r⟩
 |_,_,i+1,x,.cons _ t,e=>by
  obtain⟨u,h1,h2⟩:=Vals.get (i:=i) (x:=x) t (by simpa using e);exact⟨u,by simpa using h1,h2⟩
variable {u:G1}
theorem Vals.set {x:V}(r:RelV x u): ∀ {xs:G0 V} {us:G0 G1} (i:G6),Vals xs us->Vals (xs.set i x) (us.set i u)
 |_,_,_,.nil=> .nil
 |_,_,0,.cons _ t=> .cons r t
 |_,_,i+1,.cons q t=> .cons q (Vals.set r i t)
theorem Vals.append: ∀ {xs ys:G0 V} {us ws:G0 G1},Vals xs us->Vals ys ws->Vals (xs++ys) (us++ws)
 |_,_,_,_,.nil,s=>s
 |_,_,_,_,.cons r t,s=> .cons r (Vals.append t s)
theorem Vals.take: ∀ {xs:G0 V} {us:G0 G1} (n:G6),Vals xs us->Vals (xs.take n) (us.take n)
 |_,_,0,_=> .nil
 |_,_,_+1,.nil=> .nil
 |_,_,n+1,.cons r t=> .cons r (Vals.take n t)
theorem Vals.drop: ∀ {xs:G0 V} {us:G0 G1} (n:G6),Vals xs us->Vals (xs.drop n) (us.drop n)
 |_,_,0,r=>r
 |_,_,_+1,.nil=> .nil
 |_,_,n+1,.cons _ t=>Vals.drop n t
def Ez:D2 V->D2 G1->Prop
 |some v,some u=>RelV v u
 |none,none=>True
 |_,_=>False
def KV {κ:Type}:G0 (κ×V)->G0 (κ×G1)->Prop:=Paired λ(p:κ×V) (q:κ×G1)=>p.1=q.1/\RelV p.2 q.2
def kV:Key->V
 | .inl i=> .int i
 | .inr x=> .str x
inductive HO where
 /-- a list -/
 |lst (xs:G0 V)
 /-- a tuple (never changes) -/
 |tup (xs:G0 V)
 /-- a dict whose keys are ints and texts;one whose keys are tuples of ints and texts (the empty one is both) -/
 |dK (kvs:G0 (Key×V))|dT (kvs:G0 (G0 Key×V))
 /-- a set of ints: its members,its size -/
 |set (S:P2->N0) (n:G6)
 /-- an instance of the class at C,its dict at dx,its attributes -/
 |ins (C dx:P3) (fs:G0 (Str×V))
 /-- the dict of the instance at x -/
 |own (x:P3)
 /-- the dict of an exception -/
 |xd (fs:G0 (Str×V))
 /-- a bound method,f of x -/
 |met (f x:P3)
 /-- a range object lo,lo+1,.. below hi -/
 |rng (lo hi:P2)
 /-- a thing that is known to the object (the script;a dict while a loop walks it):read,never written while it is so -/
 |frz (o:Obj) (u:HO)
 /-- a code object's table -/
 |tbl (ps:S9 G1)
 /-- any other thing,by what is true of its one object (a def of one's own: SetO a S n:=HO.ext λh=> ..) -/
 |ext (φ:O6->Prop)
abbrev Hp:=P3->D2 HO
def upd (H:Hp)(a:P3)(o:HO):Hp:=λb=>if b=a then some o else H b
variable {H:Hp}{a:P3}{o:HO}
theorem jt:upd H a o a=some o:=by unfold upd;rw [R8 rfl]
variable {b:P3}
theorem jj (h:b≠a):upd H a o b=H b:=by unfold upd;rw [R9 h]
theorem XX {u:HO}(h:H a=some o)(h':H b=some u)(d:o≠u):a≠b:=by
 intro e;subst e;rw [h] at h';exact d (O9 h')
theorem jh (h:H a=some o)(h':H b=none):a≠b:=by
 intro e;subst e;rw [h] at h';cases h'
def IsTupN (h:O6)(a:P3)(items:S9 G1):Prop:= ∃o,h.get? a=some o/\o.cls= .type "tuple" /\o.dict=none/\ ∃n,o.data= .seq items n
theorem IsTupN.tup {h:O6}{a:P3}{items:S9 G1}(x:IsTupN h a items):xN h a items:=let ⟨o,e,c,_,n,d⟩:=x;⟨o,e,c,n,d⟩
theorem IsTupN.new (h:O6)(items:S9 G1):IsTupN (h.push {cls:= .type "tuple",data:= .seq items}) h.objs.size items:=⟨_,S5 _ rfl,rfl,rfl,_,rfl⟩
section
variable (P:T3)(w:B9)
def ObjOk (H:Hp)(h:O6)(a:P3):HO->Prop
 | .lst xs=>xs.length<=sizeLine/\ ∃ (its:G0 G1) (n:G6),Vals xs its/\h.get? a=some {cls:= .type "list",data:= .seq its.toArray n}
 | .tup xs=>xs.length<=sizeLine/\ ∃its:G0 G1,Vals xs its/\IsTupN h a its.toArray
 | .dK kvs=>kvs.length<=sizeLine/\(a==bX)=false/\ ∃vs,KV kvs vs/\h.DictOf (Gc P w) a vs
 | .dT kvs=>kvs.length<=sizeLine/\(a==bX)=false/\ ∃xs:G0 (G0 Key×P3×G1),
  Paired (λ(p:G0 Key×V) (q:G0 Key×P3×G1)=>p.1=q.1/\H q.2.1=some (.tup (p.1.map kV))/\RelV p.2 q.2.2) kvs xs/\
  ∃o es ep,h.get? a=some o/\o.ExactDict/\o.data= .dict es ep/\es.toList=xs.map (IE (tupleKind (Gc P w)))/\(xs.map (·.1)).Nodup
 | .set S n=>h.SetOf (intKind P w) a S n
 | .ins C dx fs=>H dx=some (.own a)/\fs.length<=1000/\dx≠a/\h.get? a=some (mW C dx)/\
  ∃mA,h.Ns1 dx mA/\(∀f,Ez (fs.lookup f) (mA f))/\xB mA (fs.map (·.1))
 | .own _=> ∃o,h.get? a=some o
 | .xd fs=> ∃mA,h.Ns1 a mA/\ ∀f,Ez (fs.lookup f) (mA f)
 | .rng lo hi=> ∃t u v,h.get? a=some {cls:= .type "range",data:= .fields #[.int lo t,.int hi u,.int 1 v]}
 | .frz o u=>h.get? a=some o/\ObjOk H h a u
 | .tbl ps=>h.get? a=some {cls:= .none,data:= .fields ps}
 | .met f x=>h.get? a=some (kT (.ref f) (.ref x))
 | .ext φ=>φ h/\(∃o,h.get? a=some o)/\ ∀h1 h2:O6,φ h1->(∀o,h1.get? a=some o->h2.get? a=some o)->φ h2
def HOk (H:Hp)(h:O6):Prop:= ∀a o,H a=some o->ObjOk P w H h a o
end
section
variable {P:T3}{w:B9}{H H':Hp}{h h':O6}{a:P3}{o:HO}
theorem ObjOk.lt (x:ObjOk P w H h a o):a<h.objs.size:=by
 cases o with
 |lst xs=>obtain⟨_,_,_,_,e⟩:=x;exact R0 e
 |tup xs=>obtain⟨_,_,_,p⟩:=x;exact p.tup.lt
 |dK kvs=>obtain⟨_,_,_,_,o,_,_,e,_⟩:=x;exact R0 e
 |dT kvs=>obtain⟨_,_,_,_,o,_,_,e,_⟩:=x;exact R0 e
 |set S n=>obtain⟨o,_,_,_,e,_⟩:=x;exact R0 e
 |ins C dx fs=>obtain⟨_,_,_,e,_⟩:=x;exact R0 e
 |own y=>obtain⟨_,e⟩:=x;exact R0 e
 |xd fs=>obtain⟨_,⟨_,_,_,e,_⟩,_⟩:=x;exact R0 e
 |rng lo hi=>obtain⟨_,_,_,e⟩:=x;exact R0 e
 |frz ob u=>obtain⟨e,_⟩:=x;exact R0 e
 |tbl ps=>exact R0 (show h.get? a=some _ from x)
 |met f y=>exact R0 (show h.get? a=some _ from x)
 |ext φ=>obtain⟨_,⟨_,e⟩,_⟩:=x;exact R0 e
theorem Paired.mapP {α β:Type}{F G:α->β->Prop}: ∀ {l₁:G0 α} {l₂:G0 β},Paired F l₁ l₂->(∀a b,F a b->G a b)->Paired G l₁ l₂
 |_,_,.nil,_=> .nil
 |_,_,.cons r t,f=> .cons (f _ _ r) (Paired.mapP t f)
theorem ObjOk.stay (x:ObjOk P w H h a o)(k: ∀b u,(b=a\/H b=some (.own a))->h.get? b=some u->h'.get? b=some u)
 (ho: ∀b,H b=some (.own a)->H' b=some (.own a))(ht: ∀b xs,H b=some (.tup xs)->H' b=some (.tup xs)):ObjOk P w H' h' a o:=by
 induction o with
 |lst xs=>obtain⟨z,its,n,r,e⟩:=x;exact⟨z,its,n,r,k _ _ (.inl rfl) e⟩
 |tup xs=>obtain⟨z,its,r,ob,e,c⟩:=x;exact⟨z,its,r,ob,k _ _ (.inl rfl) e,c⟩
 |dK kvs=>obtain⟨z,y,vs,r,ob,es,ep,e,c⟩:=x;exact⟨z,y,vs,r,ob,es,ep,k _ _ (.inl rfl) e,c⟩
 |dT kvs=>
  obtain⟨z,y,xs,r,ob,es,ep,e,c⟩:=x;exact⟨z,y,xs,Paired.mapP r λp q z=>⟨z.1,ht _ _ z.2.1,z.2.2⟩,ob,es,ep,k _ _ (.inl rfl) e,c⟩
 |set S n=>obtain⟨ob,es,ep,t,e,c⟩:=x;exact⟨ob,es,ep,t,k _ _ (.inl rfl) e,c⟩
 |ins C dx fs=>
  obtain⟨d,z,ne,e,mA,⟨od,es,ep,e2,c⟩,r⟩:=x;exact⟨ho _ d,z,ne,k _ _ (.inl rfl) e,mA,⟨od,es,ep,k _ _ (.inr d) e2,c⟩,r⟩
 |own y=>obtain⟨ob,e⟩:=x;exact⟨ob,k _ _ (.inl rfl) e⟩
 |xd fs=>obtain⟨mA,⟨od,es,ep,e,c⟩,r⟩:=x;exact⟨mA,⟨od,es,ep,k _ _ (.inl rfl) e,c⟩,r⟩
 |rng lo hi=>obtain⟨t,u,v,e⟩:=x;exact⟨t,u,v,k _ _ (.inl rfl) e⟩
 |frz ob u ih=>obtain⟨e,q⟩:=x;exact⟨k _ _ (.inl rfl) e,ih q⟩
 |tbl ps=>
  have e:h.get? a=some {cls:= .none,data:= .fields ps}:=x;show h'.get? a=some {cls:= .none,data:= .fields ps};exact k a _ (.inl rfl) e
 |met f y=>
  have e:h.get? a=some (kT (.ref f) (.ref y)):=x;show h'.get? a=some (kT (.ref f) (.ref y));exact k a _ (.inl rfl) e
 |ext φ=>obtain⟨p,⟨o,e⟩,st⟩:=x;exact⟨st _ _ p λo q=>k _ _ (.inl rfl) q,⟨o,k _ _ (.inl rfl) e⟩,st⟩
theorem HOk.lt (x:HOk P w H h)(e:H a=some o):a<h.objs.size:=(x a o e).lt
theorem HOk.fresh (x:HOk P w H h)(e:h.objs.size<=a):H a=none:=by
 cases q:H a with
 |none=>rfl
 |some u=>exact absurd (N7 (x.lt q) e) (B7 _)
theorem HOk.kept (x:HOk P w H h)(k: ∀b u,h.get? b=some u->h'.get? b=some u):HOk P w H h':=λa o e=>
 (x a o e).stay (λb u _ q=>k b u q) (λ_ q=>q) λ_ _ q=>q
theorem HOk.laid (x:HOk P w H h)(k: ∀b u,h.get? b=some u->h'.get? b=some u)(hp:h.objs.size<=a)(new:ObjOk P w (upd H a o) h' a o):HOk P w (upd H a o) h':=λb u e=>by
 have hn:=x.fresh hp
 by_cases hb:b=a
 ·subst hb;rw [jt] at e;cases e;exact new
 ·rw [jj hb] at e;exact(x b u e).stay (λc v _ q=>k c v q) (λc q=>by rw [jj (jh q hn)];exact q) λc xs q=>by rw [jj (jh q hn)];exact q
end
def Rd (H:Hp)(a:P3)(u:HO):Prop:=H a=some u\/ ∃o,H a=some (.frz o u)
variable {P:T3}{w:B9}{h:O6}
theorem Rd.ok {u:HO}(r:Rd H a u)(x:HOk P w H h):ObjOk P w H h a u:=by
 rcases r with r|⟨o,r⟩
 ·exact x a u r
 ·obtain⟨_,q⟩:=x a _ r;exact q
def Mut:D2 HO->Prop
 |some (.lst _)=>True
 |some (.dK _)=>True
 |some (.dT _)=>True
 |some (.set _ _)=>True
 |some (.ins _ _ _)=>True
 |some (.ext _)=>True
 |_=>False
section
variable {P:T3}{w:B9}{H:Hp}{h h':O6}{x e:P3}{o':HO}
theorem HOk.write (ok:HOk P w H h)(mu:Mut (H x))(he:e=x\/H e=some (.own x))(k: ∀b u,b≠e->h.get? b=some u->h'.get? b=some u)(heo: ∃u,h'.get? e=some u)
 (new:ObjOk P w (upd H x o') h' x o'):HOk P w (upd H x o') h':=λb u q=>by
 have nown: ∀c y,H c=some (.own y)->c≠x:=λc y r z=>by subst z;rw [r] at mu;exact mu
 have ntup: ∀c xs,H c=some (.tup xs)->c≠x:=λc xs r z=>by subst z;rw [r] at mu;exact mu
 by_cases hb:b=x
 ·subst hb;rw [jt] at q;cases q;exact new
 ·rw [jj hb] at q
  by_cases hbe:b=e
  ·have q':H b=some (.own x):=by
    rcases he with z|z
    ·exact absurd (hbe.trans z) hb
    ·rw [hbe];exact z
   rw [q] at q';cases q';obtain⟨v,hv⟩:=heo;exact⟨v,by rw [hbe];exact hv⟩
  ·refine(ok b u q).stay (λc v hc r=>k c v ?_ r) (λc r=>by rw [jj (nown c b r)];exact r) λc xs r=>by rw [jj (ntup c xs r)];exact r
   rcases hc with rfl|hc
   ·exact hbe
   ·rintro rfl;rcases he with z|z
    ·exact nown c b hc z
    ·rw [hc] at z;cases z;exact hb rfl
end
structure Un (fs ex:G0 P3)(H H':Hp)(h h':O6):Prop where
 keep: ∀b o,h.get? b=some o->H b=none->b ∉ fs->b ∉ ex->h'.get? b=some o
 slot: ∀b o,h.get? b=some o->H b=none->b∈fs->b ∉ ex-> ∃sl,h'.get? b=some {o with slots:=sl}
 free: ∀b o,h.get? b=some o->H b=none->b ∉ ex->H' b=none
 there: ∀b o,h.get? b=some o->b ∉ ex-> ∃o',h'.get? b=some o'
 tups: ∀b xs,H b=some (.tup xs)->H' b=some (.tup xs)
 frzs: ∀b o u,H b=some (.frz o u)->H' b=some (.frz o u)
 tbls: ∀b ps,H b=some (.tbl ps)-> ∃more,H' b=some (.tbl (ps++more))
section
variable {fs fs' ex ex':G0 P3}{H H1 H2:Hp}{h h1 h2 h':O6}{a x e:P3}{o:HO}
theorem Un.any (u:Un fs ex H H1 h h1){b:P3}{ob:Obj}(q:h.get? b=some ob)(n:H b=none)(hx:b ∉ ex): ∃sl,h1.get? b=some {ob with slots:=sl}:=by
 by_cases hb:b∈fs
 ·exact u.slot b ob q n hb hx
 ·exact⟨ob.slots,u.keep b ob q n hb hx⟩
theorem Un.kept (k: ∀b u,h.get? b=some u->h'.get? b=some u):Un fs ex H H h h':=
 ⟨λb ob q _ _ _=>k b ob q,λb ob q _ _ _=>⟨ob.slots,k b ob q⟩,λ_ _ _ n _=>n,λb ob q _=>⟨ob,k b ob q⟩,λ_ _ q=>q,λ_ _ _ q=>q,λ_ ps q=>⟨#[],by rw [q];simp⟩⟩
theorem Un.refl:Un fs ex H H h h:=Un.kept λ_ _ q=>q
theorem Un.laid (k: ∀b u,h.get? b=some u->h'.get? b=some u)(hp:h.objs.size<=a)(hn:H a=none):Un fs ex H (upd H a o) h h' where
 keep:=λb u q _ _ _=>k b u q
 slot:=λb u q _ _ _=>⟨u.slots,k b u q⟩
 free:=λb u q n _=>by rw [jj (M1 (N7 (R0 q) hp))];exact n
 there:=λb u q _=>⟨u,k b u q⟩
 tups:=λb xs q=>by rw [jj (jh q hn)];exact q
 frzs:=λb u xs q=>by rw [jj (jh q hn)];exact q
 tbls:=λb ps q=>⟨#[],by rw [jj (jh q hn),q];simp⟩
theorem Un.write (mu:Mut (H x))(he:e=x\/H e=some (.own x))(k: ∀b u,b≠e->h.get? b=some u->h'.get? b=some u)(heo: ∃u,h'.get? e=some u):Un fs ex H (upd H x o) h h':=by
 have hx: ∀b,H b=none->b≠x:=λb n z=>by subst z;rw [n] at mu;exact mu
 have hb: ∀b,H b=none->b≠e:=λb n z=>by
  subst z;rcases he with r|r
  ·exact hx b n r
  ·rw [n] at r;cases r
 have hm: ∀b u,H b=some u-> ¬Mut (some u)->b≠x:=λb u q nm z=>by subst z;rw [q] at mu;exact nm mu
 refine⟨λb u q n _ _=>k b u (hb b n) q,λb u q n _ _=>⟨u.slots,k b u (hb b n) q⟩,λb u q n _=>by rw [jj (hx b n)];exact n,λb u q _=> ?_,
  λb xs q=>by rw [jj (hm b _ q λz=>z)];exact q,λb u xs q=>by rw [jj (hm b _ q λz=>z)];exact q,λb ps q=>⟨#[],by rw [jj (hm b _ q λz=>z),q];simp⟩⟩
 by_cases hbe:b=e
 ·subst hbe;exact heo
 ·exact⟨u,k b u hbe q⟩
end
def trk (h:O6)(H:Hp):G0 P3:=(D4 h.objs.size).filter λa=>(H a).isSome
def Rx (h:O6)(H:Hp):O6:=KZ h (trk h H)
theorem Gd (h:O6)(H:Hp):(Rx h H).objs.size=h.objs.size:=xO _ _
theorem Ww {o:Obj}(e:h.get? b=some o)(n:H b=none):(Rx h H).get? b=some o:=
 z7 _ e λhm=>by
  have q:(H b).isSome=true:=(C1.mp hm).2;rw [n] at q;simp at q
theorem Bk {o:Obj}(e:(Rx h H).get? b=some o):h.get? b=some o/\H b=none:=by
 have e':h.get? b=some o:=IF (trk h H) e;refine⟨e',?_⟩;cases q:H b with
 |none=>rfl
 |some x=>
  have hm:b∈trk h H:=C1.mpr ⟨D0.mpr (R0 e'),by simp [q]⟩;have z:(Rx h H).get? b=none:=xP (trk h H) hm;rw [z] at e;cases e
def Bl (g h:O6)(L:P3):G0 (P3×Obj):=(D4 h.objs.size).filterMap λa=>if a=L\/(g.get? a).isSome=true then none else (h.get? a).map λo=>(a,o)
def rest (g h:O6)(L d:P3):G0 (P3×Obj):=(Bl g h L).filter λp=>decide (p.1≠d)
structure Mod (K:G7)(mg:Str->D2 G1)(base:O6):Prop where
 kin:K.In base
 glob:base.Ns J5 mg
 blt: ∃mb,base.Ns mE mb/\ ∀x:Str,x≠ "__name__" ->mb x=U3 x
 nolimit:base.NoLimit
structure Cx where
 prog:T3
 w:B9
 K:G7
 mg:Str->D2 G1
 base:O6
 A:N6
 N:G0 Str
 s₀:G3
 H₀:Hp
 env:Env
 outer:G0 Env
 stack:G0 Env
 ex:G0 P3
 fn:Str->N0
 calm:N0
 pn:G0 (P3×Obj)
 xe:G1->G3->Prop
def frs (l:G0 Env):G0 P3:=l.filterMap (·.frame)
abbrev Cx.fs (X:Cx):G0 P3:=frs X.outer
def Vis (sc:W9)(x:Str):Prop:=sc.names.lookup x=some .local\/sc.names.lookup x=some .cell\/sc.names.lookup x=some .free
def Loc (sc:W9)(x:Str):Prop:=sc.names.lookup x=some .local\/sc.names.lookup x=some .cell
def Hv (env:Env)(h:O6)(m:Str->D2 G1)(x:Str)(u:G1):Prop:=
 (env.kindOf x=some .local/\m x=some u)\/((env.kindOf x=some .cell\/env.kindOf x=some .free)/\ ∃c,env.cells.lookup x=some c/\h.IsCell c (some u))
structure Cx.Ok (X:Cx):Prop where
 mod:Mod X.K X.mg X.base
 kind:X.env.scope.kind= .function
 glob:X.env.globals=J5
 blt:X.env.builtins=mE
 above:X.s₀.heap.objs.size<=X.env.locals
 inj: ∀x y c,X.env.cells.lookup x=some c->X.env.cells.lookup y=some c->x=y
 has: ∀x,(X.env.kindOf x=some .cell\/X.env.kindOf x=some .free)-> ∃c,X.env.cells.lookup x=some c
 cab: ∀x c,X.fn x=true->X.env.cells.lookup x=some c->X.s₀.heap.objs.size<=c
 hd:X.calm=true->X.A.handled=none
 frames:X.A.frames=some X.stack
 stk:X.stack=X.outer\/(X.stack=X.env::X.outer/\X.env.frame=some X.env.locals)
 exf: ∀b∈X.ex,b≠X.env.locals/\ ∀x c,X.env.cells.lookup x=some c->c≠b
 bs: ∀b o,X.base.get? b=some o->X.s₀.heap.get? b=some o/\X.H₀ b=none
 bsz:X.base.objs.size<=X.s₀.heap.objs.size
 noex: ∀b o,X.base.get? b=some o->b ∉ X.ex
 exfs: ∀b∈X.ex,b ∉ X.fs
 funs:X.s₀.heap.FunFrames X.base X.outer
 frf: ∀b∈X.fs,X.H₀ b=none
structure Inv (X:Cx)(pins:G0 (P3×Obj))(σ:G0 (D2 V))(H:Hp)(s:G3):Prop where
 ok:X.Ok
 os:s.os=X.s₀.os
 bare:kU s.gens
 base:Un X.fs X.ex X.H₀ H X.s₀.heap s.heap
 loc: ∃m,s.heap.Ns X.env.locals m/\ ∀ (i:G6) (x:Str) (v:V),X.N[i]? =some x->σ[i]? =some (some v)->Vis X.env.scope x-> ∃u,RelV v u/\Hv X.env s.heap m x u
 cell: ∀x c,X.env.cells.lookup x=some c-> ∃v,s.heap.IsCell c v
 free:H X.env.locals=none
 freeC: ∀x c,X.env.cells.lookup x=some c->H c=none
 pin: ∀p∈X.pn++pins,s.heap.get? p.1=some p.2/\H p.1=none/\p.1≠X.env.locals/\p.1 ∉ X.fs/\ ∀v,p.2.data≠ .cell v
 hok:HOk X.prog X.w H s.heap
 len:σ.length=X.N.length
section
variable {X:Cx}{pins:G0 (P3×Obj)}{σ:G0 (D2 V)}{H H':Hp}{s:G3}{h':O6}
theorem Cx.Ok.nofr (ok:X.Ok){b:P3}{o:Obj}(e:X.base.get? b=some o):b ∉ X.fs:=λhb=>by
 have:=(ok.funs.mem hb).1;rw [e] at this;cases this
theorem Inv.bs (I:Inv X pins σ H s): ∀b o,X.base.get? b=some o->s.heap.get? b=some o/\H b=none:=λb o e=>
 ⟨I.base.keep b o (I.ok.bs b o e).1 (I.ok.bs b o e).2 (I.ok.nofr e) (I.ok.noex b o e),I.base.free b o (I.ok.bs b o e).1 (I.ok.bs b o e).2 (I.ok.noex b o e)⟩
theorem Inv.bk (I:Inv X pins σ H s): ∀b o,X.base.get? b=some o->s.heap.get? b=some o:=λb o e=>(I.bs b o e).1
theorem Inv.mod (I:Inv X pins σ H s):Mod X.K X.mg X.base:=I.ok.mod
theorem Inv.kIn (I:Inv X pins σ H s):X.K.In s.heap:=I.ok.mod.kin.keeps I.bk
theorem Inv.lt (I:Inv X pins σ H s):X.env.locals<s.heap.objs.size:=let ⟨_,hn,_⟩:=I.loc;hn.lt
theorem Inv.sz (I:Inv X pins σ H s):X.s₀.heap.objs.size<=s.heap.objs.size:=S0 I.ok.above (M0 I.lt)
theorem Inv.nofs (I:Inv X pins σ H s){a:P3}(h:s.heap.objs.size<=a):a ∉ X.fs:=λhb=>by
 obtain⟨_,o,ho,_⟩:=I.ok.funs.mem hb;exact absurd (N7 (R0 ho) (S0 I.sz h)) (B7 _)
theorem Inv.cne (I:Inv X pins σ H s): ∀x c,X.env.cells.lookup x=some c->c≠X.env.locals:=λx c e z=>by
 obtain⟨v,o,ho,hd⟩:=I.cell x c e;obtain⟨m,⟨o',es,ep,ho',hd',_⟩,_⟩:=I.loc;rw [z,ho'] at ho;cases ho;rw [hd'] at hd;cases hd
theorem Inv.funs (I:Inv X pins σ H s):s.heap.FunFrames X.base X.outer:=by
 have all: ∀ (l:G0 Env),(∀b∈frs l,b∈X.fs)->X.s₀.heap.FunFrames X.base l->s.heap.FunFrames X.base l:=by
  intro l
  induction l with
  |nil=>intro _ _;trivial
  |cons env r ih=>
   intro hs hl;obtain⟨hk,⟨L,o,hf,hn,ho,hd⟩,hr⟩:=hl;have hL:L∈X.fs:=hs L (by unfold frs;rw [dO,hf];exact P4);obtain⟨sl,e⟩:=I.base.slot L o ho (I.ok.frf L hL) hL λz=>I.ok.exfs L z hL
   exact⟨hk,⟨L,_,hf,hn,e,hd⟩,ih (λb hb=>hs b (by unfold frs;rw [dO,hf];exact R1 _ hb)) hr⟩
 exact all X.outer (λ_ hb=>hb) I.ok.funs
theorem Inv.stack (I:Inv X pins σ H s):s.heap.FunFrames X.base X.stack:=by
 rcases I.ok.stk with e|⟨e,hf⟩
 ·rw [e];exact I.funs
 ·rw [e];obtain⟨m,hn,_⟩:=I.loc;refine .cons (by rw [I.ok.kind];decide) hf hn ?_ I.funs;exact Heap.get?_none_of_le (S0 I.ok.bsz I.ok.above)
theorem Inv.stkSub (I:Inv X pins σ H s): ∀b∈frs X.stack,b∈X.env.locals::X.fs:=λb hb=>by
 rcases I.ok.stk with e|⟨e,hf⟩
 ·rw [e] at hb;exact R1 _ hb
 ·rw [e] at hb;unfold frs at hb;rw [dO,hf] at hb;exact hb
theorem Inv.stkFree (I:Inv X pins σ H s): ∀b∈frs X.stack,H b=none:=λb hb=>by
 rcases R5.mp (I.stkSub b hb) with e|hb
 ·rw [e];exact I.free
 ·obtain⟨_,o,ho,_⟩:=I.ok.funs.mem hb;exact I.base.free b o ho (I.ok.frf b hb) λz=>I.ok.exfs b z hb
variable {t':G6}
theorem Inv.step {g':S9 GenState}{d':Drawn}{ch:G0 P3}(I:Inv X pins σ H s)
 (hch: ∀b∈ch,(b∈X.ex\/X.s₀.heap.objs.size<=b)/\b≠X.env.locals/\(∀x c,X.env.cells.lookup x=some c->c≠b)/\ ∀p∈X.pn++pins,p.1≠b)
 (keep: ∀b o,b≠X.env.locals->b ∉ X.fs->b ∉ ch->s.heap.get? b=some o->H b=none->h'.get? b=some o)
 (slot: ∀b o,b≠X.env.locals->b∈X.fs->b ∉ ch->s.heap.get? b=some o->H b=none-> ∃sl,h'.get? b=some {o with slots:=sl})(free: ∀b o,b ∉ ch->s.heap.get? b=some o->H b=none->H' b=none)
 (there: ∀b o,b ∉ ch->s.heap.get? b=some o-> ∃o',h'.get? b=some o')
 (tups: ∀b xs,H b=some (.tup xs)->H' b=some (.tup xs))(frzs: ∀b o u,H b=some (.frz o u)->H' b=some (.frz o u))(tbls: ∀b ps,H b=some (.tbl ps)-> ∃more,H' b=some (.tbl (ps++more)))
 (ns: ∀m,s.heap.Ns X.env.locals m->h'.Ns X.env.locals m)(hok:HOk X.prog X.w H' h')(hg:kU g'):
 Inv X pins σ H' {s with heap:=h',gens:=g',drawn:=d',toks:=t'}:=by
 have neL: ∀b o,X.s₀.heap.get? b=some o->b≠X.env.locals:=λb o e=>M1 (N7 (R0 e) I.ok.above)
 have neC: ∀b o,X.s₀.heap.get? b=some o->b ∉ X.ex->b ∉ ch:=λb o e hx hb=>by
  rcases (hch b hb).1 with z|z
  ·exact hx z
  ·exact absurd (N7 (R0 e) z) (B7 _)
 have cellK: ∀x c,X.env.cells.lookup x=some c-> ∀v,s.heap.IsCell c v->h'.IsCell c v:=λx c e v ⟨o,ho,hd⟩=>by
  have nch:c ∉ ch:=λz=>(hch c z).2.2.1 x c e rfl
  by_cases hc:c∈X.fs
  ·obtain⟨sl,q⟩:=slot c o (I.cne x c e) hc nch ho (I.freeC x c e);exact⟨_,q,hd⟩
  ·exact⟨o,keep c o (I.cne x c e) hc nch ho (I.freeC x c e),hd⟩
 refine⟨I.ok,I.os,hg,⟨λb o e n hb hx=> ?_,λb o e n hb hx=> ?_,λb o e n hx=> ?_,λb o e hx=> ?_,λb xs e=>tups b xs (I.base.tups b xs e),λb o xs e=>frzs b o xs (I.base.frzs b o xs e),λb ps e=> ?_⟩,?_,λx c e=> ?_,?_,λx c e=> ?_,λp hp=> ?_,hok,I.len⟩
 ·exact keep b o (neL b o e) hb (neC b o e hx) (I.base.keep b o e n hb hx) (I.base.free b o e n hx)
 ·obtain⟨sl,e1⟩:=I.base.slot b o e n hb hx;obtain⟨sl',e2⟩:=slot b _ (neL b o e) hb (neC b o e hx) e1 (I.base.free b o e n hx);exact⟨sl',e2⟩
 ·obtain⟨o',e1⟩:=I.base.there b o e hx;exact free b o' (neC b o e hx) e1 (I.base.free b o e n hx)
 ·obtain⟨o',e1⟩:=I.base.there b o e hx;exact there b o' (neC b o e hx) e1
 ·obtain⟨m1,e1⟩:=I.base.tbls b ps e;obtain⟨m2,e2⟩:=tbls b _ e1;exact⟨m1++m2,by rw [e2,Array.append_assoc]⟩
 ·obtain⟨m,hn,hl⟩:=I.loc;refine⟨m,ns m hn,λi x v e1 e2 e3=> ?_⟩;obtain⟨u,r,l⟩:=hl i x v e1 e2 e3;refine⟨u,r,?_⟩;rcases l with l|⟨k,c,e,z⟩
  ·exact .inl l
  ·exact .inr ⟨k,c,e,cellK x c e _ z⟩
 ·obtain⟨v,z⟩:=I.cell x c e;exact⟨v,cellK x c e v z⟩
 ·obtain⟨m,⟨o,_,_,ho,_⟩,_⟩:=I.loc;exact free _ o (λz=>(hch _ z).2.1 rfl) ho I.free
 ·obtain⟨v,o,ho,hd⟩:=I.cell x c e;exact free c o (λz=>(hch c z).2.2.1 x c e rfl) ho (I.freeC x c e)
 ·obtain⟨e,n,ne,nf,d⟩:=I.pin p hp;have nch:p.1 ∉ ch:=λz=>(hch p.1 z).2.2.2 p hp rfl
  exact⟨keep p.1 p.2 ne nf nch e n,free p.1 p.2 nch e n,ne,nf,d⟩
theorem Inv.un (I:Inv X pins σ H s)(u:Un X.fs [] H H' s.heap h')(hok:HOk X.prog X.w H' h'):Inv X pins σ H' {s with heap:=h',toks:=t'}:=by
 obtain⟨m,⟨o,es,ep,ho,r⟩,_⟩:=id I.loc;obtain⟨sl,hL⟩:=u.any ho I.free (by simp);exact I.step (g':=s.gens) (d':=s.drawn) (ch:= []) (λ_ z=>nomatch z) (λb o _ hb _ e n=>u.keep b o e n hb (by simp)) (λb o _ hb _ e n=>u.slot b o e n hb (by simp)) (λb o _ e n=>u.free b o e n (by simp)) (λb o _ e=>u.there b o e (by simp)) u.tups u.frzs u.tbls (λm' hm=>by
  obtain⟨o',es',ep',ho',r'⟩:=hm;rw [ho] at ho';cases ho';exact⟨_,es',ep',hL,r'⟩) hok I.bare
theorem Inv.call {g':S9 GenState}{d':Drawn}{ch:G0 P3}(I:Inv X pins σ H s)(u:Un (frs X.stack) ch H H' s.heap h')(hok:HOk X.prog X.w H' h')(hg:kU g')
 (hch: ∀b∈ch,(b∈X.ex\/X.s₀.heap.objs.size<=b)/\b≠X.env.locals/\(∀x c,X.env.cells.lookup x=some c->c≠b)/\ ∀p∈X.pn++pins,p.1≠b):
 Inv X pins σ H' {s with heap:=h',gens:=g',drawn:=d',toks:=t'}:=by
 obtain⟨m,⟨o,es,ep,ho,r⟩,_⟩:=id I.loc;obtain⟨sl,hL⟩:=u.any ho I.free λz=>(hch _ z).2.1 rfl
 exact I.step (ch:=ch) hch (λb o hL hb hc e n=>u.keep b o e n (λz=>(R5.mp (I.stkSub b z)).elim hL hb) hc) (λb o _ _ hc e n=>u.any e n hc) (λb o hc e n=>u.free b o e n hc) (λb o hc e=>u.there b o e hc) u.tups u.frzs u.tbls (λm' hm=>by
  obtain⟨o',es',ep',ho',r'⟩:=hm;rw [ho] at ho';cases ho';exact⟨_,es',ep',hL,r'⟩) hok hg
theorem Inv.turned {it:P3}(I:Inv X pins σ H s)(k: ∀b o,b≠it->s.heap.get? b=some o->h'.get? b=some o)(hn:H it=none)(hL:it≠X.env.locals)
 (h1:it∈X.ex\/X.s₀.heap.objs.size<=it)(h2: ∀x c,X.env.cells.lookup x=some c->c≠it)(h3: ∀p∈X.pn++pins,p.1≠it):Inv X pins σ H {s with heap:=h',toks:=t'}:=by
 have nit: ∀b u,H b=some u->b≠it:=λb u e z=>by rw [z,hn] at e;cases e
 refine I.step (g':=s.gens) (d':=s.drawn) (ch:= [it]) (λb hb=> ?_) (λb o _ _ hc e _=>k b o (λz=>hc (by simp [z])) e) (λb o _ _ hc e _=>⟨o.slots,k b o (λz=>hc (by simp [z])) e⟩) (λ_ _ _ _ n=>n)
  (λb o hc e=>⟨o,k b o (λz=>hc (by simp [z])) e⟩) (λ_ _ e=>e) (λ_ _ _ e=>e) (λb ps e=>⟨#[],by rw [e];simp⟩) (λm hm=> ?_) (λb u e=> ?_) I.bare
 ·have e:b=it:=by simpa using hb
  subst e;exact⟨h1,hL,h2,h3⟩
 ·obtain⟨o,es,ep,ho,r⟩:=hm;exact⟨o,es,ep,k _ o (E4 hL) ho,r⟩
 ·refine(I.hok b u e).stay (λc v hc q=>k c v ?_ q) (λ_ q=>q) λ_ _ q=>q
  rcases hc with z|z
  ·rw [z];exact nit b u e
  ·exact nit c _ z
theorem Inv.tok (I:Inv X pins σ H s)(t:G6):Inv X pins σ H {s with toks:=t}:=I.un (h':=s.heap) (t':=t) Un.refl I.hok
theorem Inv.kept (I:Inv X pins σ H s)(k: ∀b u,s.heap.get? b=some u->h'.get? b=some u):Inv X pins σ H {s with heap:=h',toks:=t'}:=I.un (Un.kept k) (I.hok.kept k)
theorem Inv.laid {a:P3}{o:HO}(I:Inv X pins σ H s)(k: ∀b u,s.heap.get? b=some u->h'.get? b=some u)(hp:s.heap.objs.size<=a)(new:ObjOk X.prog X.w (upd H a o) h' a o):
 Inv X pins σ (upd H a o) {s with heap:=h',toks:=t'}:=I.un (Un.laid k hp (I.hok.fresh hp)) (I.hok.laid k hp new)
theorem Inv.write {x e:P3}{o:HO}(I:Inv X pins σ H s)(mu:Mut (H x))(he:e=x\/H e=some (.own x))(k: ∀b u,b≠e->s.heap.get? b=some u->h'.get? b=some u)(heo: ∃u,h'.get? e=some u)
 (new:ObjOk X.prog X.w (upd H x o) h' x o):Inv X pins σ (upd H x o) {s with heap:=h',toks:=t'}:=I.un (Un.write mu he k heo) (I.hok.write mu he k heo new)
theorem Inv.weak {σ':G0 (D2 V)}(I:Inv X pins σ H s)(hl:σ'.length=σ.length)(w: ∀ (i:G6) v,σ'[i]? =some (some v)->σ[i]? =some (some v)):Inv X pins σ' H s:=
 ⟨I.ok,I.os,I.bare,I.base,let ⟨m,hn,hl'⟩:=I.loc;⟨m,hn,λi x v e1 e2 e3=>hl' i x v e1 (w i v e2) e3⟩,I.cell,I.free,I.freeC,I.pin,I.hok,hl.trans I.len⟩
theorem Inv.pins_of {pins':G0 (P3×Obj)}(I:Inv X pins σ H s)(h: ∀p∈pins',s.heap.get? p.1=some p.2/\H p.1=none/\p.1≠X.env.locals/\p.1 ∉ X.fs/\ ∀v,p.2.data≠ .cell v):Inv X pins' σ H s:=
 ⟨I.ok,I.os,I.bare,I.base,I.loc,I.cell,I.free,I.freeC,λp hp=>(D8.mp hp).elim (λz=>I.pin p (M8 _ z)) (h p),I.hok,I.len⟩
theorem UW {N:G0 Str}(hN:N.Nodup){i j:G6}{x:Str}(a:N[i]? =some x)(b:N[j]? =some x):i=j:=by
 obtain⟨h1,e1⟩:=P9.mp a;obtain⟨h2,e2⟩:=P9.mp b;exact(List.getElem_inj hN).mp (e1.trans e2.symm)
theorem Ge {M:pU}{A:N6}{E:G1->G3->Prop}{i:G6}{x:Str}{v:V}{u:G1}{Q:Unit->G3->Prop}(I:Inv X pins σ H s)(hN:X.N.Nodup)(hi:X.N[i]? =some x)(hx:Loc X.env.scope x)(r:RelV v u)
 (h: ∀s',Inv X pins (σ.set i (some v)) H s'->(∃a,O7 a s.heap s'.heap/\(a=X.env.locals\/X.env.cells.lookup x=some a))->Q () s')(hf:X.fn x=true\/X.env.scope.names.lookup x=some .local:=by first|exact .inl rfl|exact .inr rfl|assumption):R3 M A (v7 X.env x u) Q E s:=by
 obtain⟨m,hn,hl⟩:=id I.loc;have hcls:(X.env.scope.kind== .class||(X.env.scope.kind== .module&&X.env.locals !=X.env.globals))=false:=by rw [I.ok.kind];rfl
 have hiσ:i<σ.length:=by rw [I.len];exact(P9.mp hi).1
 have cne:=I.cne;have tracked: ∀ {a:P3} {h':O6},(∃o,s.heap.get? a=some o/\H a=none)->O7 a s.heap h'->HOk X.prog X.w H h':=λ{a h'} ha hs b ob e=>by
  obtain⟨_,_,hfree⟩:=ha;refine(I.hok b ob e).stay (λc w' hc q=>(hs.2 c ?_).trans q) (λ_ q=>q) λ_ _ q=>q
  rintro rfl;rcases hc with rfl|hc
  ·rw [hfree] at e;cases e
  ·rw [hfree] at hc;cases hc
 rcases hx with hk|hk
 ·refine wpAny_storeName_local hk hn (λh' hn' hs=> ?_) hcls;obtain⟨oL,_,_,hoL,_⟩:=id hn;refine h _ ⟨I.ok,I.os,I.bare,⟨λb o e n hb hx=> ?_,λb o e n hb hx=> ?_,I.base.free,λb o e hx=> ?_,I.base.tups,I.base.frzs,I.base.tbls⟩,⟨_,hn',λj y v' e1 e2 e3=> ?_⟩,λy c e=> ?_,I.free,I.freeC,λp hp=> ?_,tracked ⟨oL,hoL,I.free⟩ hs,by simpa using I.len⟩ ⟨_,hs,.inl rfl⟩
  ·exact(hs.2 b (M1 (N7 (R0 e) I.ok.above))).trans (I.base.keep b o e n hb hx)
  ·obtain⟨sl,e1⟩:=I.base.slot b o e n hb hx;exact⟨sl,(hs.2 b (M1 (N7 (R0 e) I.ok.above))).trans e1⟩
  ·obtain⟨o',e1⟩:=I.base.there b o e hx;exact⟨o',(hs.2 b (M1 (N7 (R0 e) I.ok.above))).trans e1⟩
  ·by_cases hj:j=i
   ·subst hj;rw [hi] at e1;cases e1;rw [gA hiσ] at e2;cases e2;exact⟨u,r,.inl ⟨hk,by simp⟩⟩
   ·rw [K7 (E4 hj)] at e2;obtain⟨u',r',q⟩:=hl j y v' e1 e2 e3;refine⟨u',r',?_⟩;rcases q with ⟨k,e⟩|⟨k,c,e,z⟩
    ·refine .inl ⟨k,?_⟩;have:y≠x:=λe=>hj (UW hN e1 (e ▸ hi))
     simp [this,e]
    ·exact .inr ⟨k,c,e,z.sameBut hs (cne y c e)⟩
  ·obtain⟨w',z⟩:=I.cell y c e;exact⟨w',z.sameBut hs (cne y c e)⟩
  ·obtain⟨e,n,ne,nf,d⟩:=I.pin p hp;exact⟨(hs.2 p.1 ne).trans e,n,ne,nf,d⟩
 ·have hfn:X.fn x=true:=by
   rcases hf with z|z
   ·exact z
   ·rw [z] at hk;cases hk
  obtain⟨c,hc⟩:=I.ok.has x (.inl hk);obtain⟨w',z⟩:=I.cell x c hc;refine wpAny_storeName_cell I.ok.kind hk hc z (λh' hc' hs=> ?_);obtain⟨oc,hoc,hocd⟩:=id z;refine h {s with heap:=h'} ⟨I.ok,I.os,I.bare,⟨λb o e n hb hx=> ?_,λb o e n hb hx=> ?_,I.base.free,λb o e hx=> ?_,I.base.tups,I.base.frzs,I.base.tbls⟩,⟨m,hn.sameBut hs (E4 (cne x c hc)),λj y v' e1 e2 e3=> ?_⟩,λy c' e=> ?_,I.free,I.freeC,λp hp=> ?_,tracked ⟨oc,hoc,I.freeC x c hc⟩ hs,by simpa using I.len⟩ ⟨c,hs,.inr hc⟩
  ·exact(hs.2 b (M1 (N7 (R0 e) (I.ok.cab x c hfn hc)))).trans (I.base.keep b o e n hb hx)
  ·obtain⟨sl,e1⟩:=I.base.slot b o e n hb hx;exact⟨sl,(hs.2 b (M1 (N7 (R0 e) (I.ok.cab x c hfn hc)))).trans e1⟩
  ·obtain⟨o',e1⟩:=I.base.there b o e hx;exact⟨o',(hs.2 b (M1 (N7 (R0 e) (I.ok.cab x c hfn hc)))).trans e1⟩
  ·by_cases hj:j=i
   ·subst hj;rw [hi] at e1;cases e1;rw [gA hiσ] at e2;cases e2;exact⟨u,r,.inr ⟨.inl hk,c,hc,hc'⟩⟩
   ·rw [K7 (E4 hj)] at e2;obtain⟨u',r',q⟩:=hl j y v' e1 e2 e3;refine⟨u',r',?_⟩;rcases q with q|⟨k,c',e,z'⟩
    ·exact .inl q
    ·refine .inr ⟨k,c',e,z'.sameBut hs ?_⟩;rintro rfl;exact hj (UW hN e1 (I.ok.inj _ _ _ e hc ▸ hi))
  ·by_cases hcc:c'=c
   ·subst hcc;exact⟨_,hc'⟩
   ·obtain⟨w2,z2⟩:=I.cell y c' e;exact⟨w2,z2.sameBut hs hcc⟩
  ·obtain⟨e,n,ne,nf,d⟩:=I.pin p hp;refine⟨(hs.2 p.1 ?_).trans e,n,ne,nf,d⟩;intro q;rw [q,hoc] at e;have q':oc=p.2:=O9 e;exact d w' (by rw [<-q'];exact hocd)
theorem vd {M:pU}{A:N6}{E:G1->G3->Prop}{i:G6}{x:Str}{v:V}{u:G1}{Q:Unit->G3->Prop}(I:Inv X pins σ H s)(hN:X.N.Nodup)(hi:X.N[i]? =some x)(hx:Loc X.env.scope x)(r:RelV v u)
 (h: ∀s',Inv X pins (σ.set i (some v)) H s'->Q () s')(hf:X.fn x=true\/X.env.scope.names.lookup x=some .local:=by first|exact .inl rfl|exact .inr rfl|assumption):R3 M A (v7 X.env x u) Q E s:=
 Ge I hN hi hx r (λs' I' _=>h s' I') hf
theorem Inv.call' {s':G3}{ch:G0 P3}(I:Inv X pins σ H s)(ho:s'.os=s.os)(u:Un (frs X.stack) ch H H' s.heap s'.heap)(hok:HOk X.prog X.w H' s'.heap)(hg:kU s'.gens)
 (hch: ∀b∈ch,(b∈X.ex\/X.s₀.heap.objs.size<=b)/\b≠X.env.locals/\(∀x c,X.env.cells.lookup x=some c->c≠b)/\ ∀p∈X.pn++pins,p.1≠b):Inv X pins σ H' s':=by
 obtain⟨h',g',d',t',o'⟩:=s';have e:o'=s.os:=ho;subst e;exact I.call (g':=g') (t':=t') (d':=d') u hok hg hch
end
abbrev XK:=G1->D2 P3->Hp->Prop
abbrev St:=G0 (D2 V)
abbrev VK:=V->Hp->Prop
abbrev TE:=St->Hp->VK->Prop
abbrev TT:=St->Hp->(N0->Hp->Prop)->Prop
abbrev TA:=St->Hp->(G0 V->Hp->Prop)->Prop
structure Ends where
 nx:St->Hp->Prop
 rt:VK
 bk:St->Hp->Prop:=λ_ _=>False
 ct:St->Hp->Prop:=λ_ _=>False
abbrev TS:=Ends->St->Hp->Prop
def EP (X:Cx)(pins:G0 (P3×Obj))(σ:St)(Q:VK)(u:G1)(s':G3):Prop:= ∃v H',Inv X pins σ H' s'/\RelV v u/\Q v H'
def TP (X:Cx)(pins:G0 (P3×Obj))(σ:St)(Q:N0->Hp->Prop)(b:N0)(s':G3):Prop:= ∃H',Inv X pins σ H' s'/\Q b H'
def AP (X:Cx)(pins:G0 (P3×Obj))(σ:St)(Q:G0 V->Hp->Prop)(us:G0 G1)(s':G3):Prop:= ∃vs H',Inv X pins σ H' s'/\Vals vs us/\Q vs H'
def SP (X:Cx)(pins:G0 (P3×Obj))(D:Ends)(f:Flow)(s':G3):Prop:=
 match f with
 | .next=> ∃σ' H',Inv X pins σ' H' s'/\D.nx σ' H'
 | .brk=> ∃σ' H',Inv X pins σ' H' s'/\D.bk σ' H'
 | .cont=> ∃σ' H',Inv X pins σ' H' s'/\D.ct σ' H'
 | .ret u=> ∃v σ' H',Inv X pins σ' H' s'/\RelV v u/\D.rt v H'
def PE (X:Cx)(e:M9)(t:TE):Prop:=
 ∀ (pins:G0 (P3×Obj)) (s:G3) (σ:St) (H:Hp) (Q:VK),Inv X pins σ H s->t σ H Q->R3 (R7 X.prog X.w) X.A (J7 e X.env) (EP X pins σ Q) X.xe s
def PT (X:Cx)(e:M9)(t:TT):Prop:=
 ∀ (pins:G0 (P3×Obj)) (s:G3) (σ:St) (H:Hp) (Q:N0->Hp->Prop),Inv X pins σ H s->t σ H Q->R3 (R7 X.prog X.w) X.A (isTrue e X.env (J7 e X.env)) (TP X pins σ Q) X.xe s
def PW (X:Cx)(e:M9)(t:TT):Prop:=
 ∀ (whole:Sem G1) (pins:G0 (P3×Obj)) (s:G3) (σ:St) (H:Hp) (Q:N0->Hp->Prop),Inv X pins σ H s->t σ H Q->R3 (R7 X.prog X.w) X.A (isTrue e X.env whole) (TP X pins σ Q) X.xe s
variable {X:Cx}
theorem PW.pt {e:M9}{t:TT}(h:PW X e t):PT X e t:=h _
def PA (X:Cx)(es:G0 M9)(t:TA):Prop:=
 ∀ (pos:Pos) (pins:G0 (P3×Obj)) (s:G3) (σ:St) (H:Hp) (Q:G0 V->Hp->Prop),Inv X pins σ H s->t σ H Q->R3 (R7 X.prog X.w) X.A (spliced (U6 pos (S1 es X.env))) (AP X pins σ Q) X.xe s
def PS (X:Cx)(st:Q2)(t:TS):Prop:=
 ∀ (pins:G0 (P3×Obj)) (s:G3) (σ:St) (H:Hp) (D:Ends),Inv X pins σ H s->t D σ H->R3 (R7 X.prog X.w) X.A (exec st X.env) (SP X pins D) X.xe s
def PSs (X:Cx)(st:G0 Q2)(t:TS):Prop:=
 ∀ (pins:G0 (P3×Obj)) (s:G3) (σ:St) (H:Hp) (D:Ends),Inv X pins σ H s->t D σ H->R3 (R7 X.prog X.w) X.A (execs st X.env) (SP X pins D) X.xe s
variable {A:N6}{s:G3}
theorem thn {α:Type}{t:Sem α}{Q Q':α->G3->Prop}{M:pU}{E:G1->G3->Prop}(h:R3 M A t Q E s)(hQ: ∀a s,Q a s->Q' a s):R3 M A t Q' E s:=T7 h hQ λ_ _ x=>x
section
variable {X:Cx}
theorem bin {a b:M9}{ta tb:TE}(ha:PE X a ta)(hb:PE X b tb){pins:G0 (P3×Obj)}{s:G3}{σ:St}{H:Hp}{R:V->V->Hp->Prop}(I:Inv X pins σ H s)(h:ta σ H λx H1=>tb σ H1 λy H2=>R x y H2)
 {α:Type}{Q:α->G3->Prop}{f:G1->G1->Sem α}
 (hf: ∀v u s2 x y H2,Inv X pins σ H2 s2->RelV x v->RelV y u->R x y H2->R3 (R7 X.prog X.w) X.A (f v u) Q X.xe s2):
 R3 (R7 X.prog X.w) X.A (J7 a X.env) (λv s₁=>R3 (R7 X.prog X.w) X.A (J7 b X.env) (λu s₂=>R3 (R7 X.prog X.w) X.A (f v u) Q X.xe s₂) X.xe s₁) X.xe s:=by
 refine thn (ha pins s σ H _ I h) λv s1 ⟨x,H1,I1,r1,q1⟩=> ?_
 refine thn (hb pins s1 σ H1 _ I1 q1) λu s2 ⟨y,H2,I2,r2,q2⟩=> ?_
 exact hf v u s2 x y H2 I2 r1 r2 q2
def EA (i:G6):TE:=λσ H Q=> ∃v,σ[i]? =some (some v)/\Q v H
def tC (v:V):TE:=λ_ H Q=>Q v H
variable {x:Str}
theorem Nq {i:G6}{pos:Pos}(hN:X.N[i]? =some x)(hv:Vis X.env.scope x)(hd:(x==("__debug__" :Str))=false:=by decide)(hcd:(x==("__classdict__" :Str))=false:=by decide):PE X (.Name x pos) (EA i):=by
 intro pins s σ H Q I h;obtain⟨v,e,h⟩:=h;obtain⟨m,hn,hl⟩:=I.loc;obtain⟨u,r,l⟩:=hl i x v hN e hv;have fin:EP X pins σ Q u s:=⟨v,H,I,r,h⟩;rcases l with ⟨hk,hm⟩|⟨hk,c,hc,hcell⟩
 ·exact sZ (nO I.ok.kind hk hn hm fin) hd
 ·rcases hk with hk|hk
  ·exact sZ (oW I.ok.kind hk hc hcell fin) hd
  ·exact sZ (wpAny_loadName_free I.ok.kind hk hc hcell fin hcd) hd
theorem pe_int {i j pos}:PE X (.Constant (.int i) j pos) (tC (.int i)):=λ_ _ _ H _ I h=>wpAny_Constant_int ⟨.int i,H,I.tok _,⟨_,rfl⟩,h⟩
theorem pe_bl {b j pos}:PE X (.Constant (.bool b) j pos) (tC (.bl b)):=λ_ _ _ H _ I h=>Constant_bool ⟨.bl b,H,I,rfl,h⟩
theorem pe_non {j pos}:PE X (.Constant .none j pos) (tC .non):=λ_ _ _ H _ I h=>Constant_none ⟨.non,H,I,rfl,h⟩
def Gl (X:Cx)(x:Str):Prop:=X.env.kindOf x=some .globalImplicit
variable {u:G1}
theorem Gf {E:G1->G3->Prop}{pins:G0 (P3×Obj)}{s:G3}{σ:St}{H:Hp}{pos:Pos}{Q:G1->G3->Prop}(I:Inv X pins σ H s)(hg:Gl X x)(hm:X.mg x=some u)(h:Q u s)
 (hd:(x==("__debug__" :Str))=false:=by decide):R3 (R7 X.prog X.w) X.A (J7 (.Name x pos) X.env) Q E s:=
 Calls.Name_function_global I.ok.kind hg (Calls.loadGlobal_global (by rw [I.ok.glob];exact I.mod.glob.keeps I.bk) hm h) hd
theorem YE {E:G1->G3->Prop}{pins:G0 (P3×Obj)}{s:G3}{σ:St}{H:Hp}{pos:Pos}{Q:G1->G3->Prop}(I:Inv X pins σ H s)(hg:Gl X x)(hm:X.mg x=none)(hv:U3 x=some u)(h:Q u s)
 (hn:x≠ "__name__" :=by decide)(hd:(x==("__debug__" :Str))=false:=by decide):R3 (R7 X.prog X.w) X.A (J7 (.Name x pos) X.env) Q E s:=by
 obtain⟨mb,h1,h2⟩:=I.mod.blt;exact Calls.Name_function_global I.ok.kind hg (Calls.loadGlobal_builtin (by rw [I.ok.glob];exact I.mod.glob.keeps I.bk) hm (by rw [I.ok.blt];exact h1.keeps I.bk) ((h2 x hn).trans hv) h) hd
theorem Bn {v:V}{pos:Pos}(hg:Gl X x)(hm:X.mg x=some u)(r:RelV v u)(hd:(x==("__debug__" :Str))=false:=by decide):PE X (.Name x pos) (tC v):=
 λ_ _ _ H _ I h=>Gf I hg hm ⟨v,H,I,r,h⟩ hd
theorem Bo {v:V}{pos:Pos}(hg:Gl X x)(hm:X.mg x=none)(hv:U3 x=some u)(r:RelV v u)(hn:x≠ "__name__" :=by decide)(hd:(x==("__debug__" :Str))=false:=by decide):PE X (.Name x pos) (tC v):=
 λ_ _ _ H _ I h=>YE I hg hm hv ⟨v,H,I,r,h⟩ hn hd
variable {a b:M9}{ta tb:TE}{pos:Pos}
def tB (t:TE):TT:=λσ H Q=>t σ H λx H1=> ∃c,x= .bl c/\Q c H1
theorem Lj {e:M9}{t:TE}(h:PE X e t)(he: ∀whole,isTrue e X.env whole=(do let v <-whole;fB e.pos;Y0 [v] (mF v)):=by intro _;rfl):PT X e (tB t):=by
 intro pins s σ H Q I hw;refine pV (thn (h pins s σ H _ I hw) λv s1 ⟨x,H1,I1,r1,q1⟩=> ?_) (he _);obtain⟨d,rfl,q⟩:=q1;cases r1;exact K4 ⟨H1,I1,q⟩
variable {tA tB':TT}{rest:G0 M9}
def Tr (t u:TT):TT:=λσ H Q=>t σ H λc H1=>if c=true then u σ H1 Q else Q false H1
def tOr (t u:TT):TT:=λσ H Q=>t σ H λc H1=>if c=true then Q true H1 else u σ H1 Q
def Tt (t:TT):TT:=λσ H Q=>t σ H λc H1=>Q (!c) H1
theorem Bp (ha:PT X a tA):PW X (.BoolOp .And [a] pos) tA:=by
 intro wh pins s σ H Q I h;refine IG (thn (ha pins s σ H Q I h) λc s1 e=> ?_);cases c with
 |true=>exact isTrue_and_nil e
 |false=>exact e
theorem Lk (ha:PT X a tA):PW X (.BoolOp .Or [a] pos) tA:=by
 intro wh pins s σ H Q I h;refine isTrue_or (thn (ha pins s σ H Q I h) λc s1 e=> ?_);cases c with
 |false=>exact isTrue_or_nil e
 |true=>exact e
theorem Ll (ha:PT X a tA)(hb:PW X (.BoolOp .And (b::rest) pos) tB'):PW X (.BoolOp .And (a::b::rest) pos) (Tr tA tB'):=by
 intro wh pins s σ H Q I h;refine IG (thn (ha pins s σ H _ I h) λc s1 ⟨H1,I1,q1⟩=> ?_);cases c with
 |true=>exact hb wh pins s1 σ H1 Q I1 q1
 |false=>exact⟨H1,I1,q1⟩
theorem EB (ha:PT X a tA)(hb:PW X (.BoolOp .Or (b::rest) pos) tB'):PW X (.BoolOp .Or (a::b::rest) pos) (tOr tA tB'):=by
 intro wh pins s σ H Q I h;refine isTrue_or (thn (ha pins s σ H _ I h) λc s1 ⟨H1,I1,q1⟩=> ?_);cases c with
 |true=>exact⟨H1,I1,q1⟩
 |false=>exact hb wh pins s1 σ H1 Q I1 q1
theorem Lm (ha:PT X a tA):PT X (.UnaryOp .Not a pos) (Tt tA):=by
 intro pins s σ H Q I h;exact isTrue_not (ha pins s σ H (λc H1=>Q (!c) H1) I h)
def Ln (ta tb:TE):TE:=λσ H Q=>ta σ H λx H1=> ∃c,x= .bl c/\if c=true then tb σ H1 Q else Q (.bl false) H1
def Tu (ta tb:TE):TE:=λσ H Q=>ta σ H λx H1=> ∃c,x= .bl c/\if c=true then Q (.bl true) H1 else tb σ H1 Q
def Lo (ta:TE):TE:=λσ H Q=>ta σ H λx H1=> ∃c,x= .bl c/\Q (.bl (!c)) H1
theorem Lp {op}{t:TE}(h:PE X a t):PE X (.BoolOp op [a] pos) t:=λpins s σ H Q I hw=>BoolOp_one (h pins s σ H Q I hw)
theorem Lq (ha:PE X a ta)(hb:PE X (.BoolOp .And (b::rest) pos) tb):PE X (.BoolOp .And (a::b::rest) pos) (Ln ta tb):=by
 intro pins s σ H Q I h;refine BoolOp_and (thn (ha pins s σ H _ I h) λv s1 ⟨x,H1,I1,r1,q1⟩=> ?_);obtain⟨c,rfl,q1⟩:=q1;cases r1;refine K4 ?_;cases c with
 |true=>exact hb pins s1 σ H1 Q I1 q1
 |false=>exact⟨.bl false,H1,I1,rfl,q1⟩
theorem EC (ha:PE X a ta)(hb:PE X (.BoolOp .Or (b::rest) pos) tb):PE X (.BoolOp .Or (a::b::rest) pos) (Tu ta tb):=by
 intro pins s σ H Q I h;refine BoolOp_or (thn (ha pins s σ H _ I h) λv s1 ⟨x,H1,I1,r1,q1⟩=> ?_);obtain⟨c,rfl,q1⟩:=q1;cases r1;refine K4 ?_;cases c with
 |false=>exact hb pins s1 σ H1 Q I1 q1
 |true=>exact⟨.bl true,H1,I1,rfl,q1⟩
theorem Lr (ha:PE X a ta):PE X (.UnaryOp .Not a pos) (Lo ta):=by
 intro pins s σ H Q I h;refine UnaryOp_ (thn (ha pins s σ H _ I h) λv s1 ⟨x,H1,I1,r1,q1⟩=> ?_);obtain⟨c,rfl,q1⟩:=q1;cases r1;exact not_of (K4 ⟨.bl (!c),H1,I1,rfl,q1⟩)
def tIf (t:TT)(ta tb:TE):TE:=λσ H Q=>t σ H λc H1=>if c=true then ta σ H1 Q else tb σ H1 Q
theorem Ry {c:M9}(hc:PT X c tA)(ha:PE X a ta)(hb:PE X b tb):PE X (.IfExp c a b pos) (tIf tA ta tb):=by
 intro pins s σ H Q I h;refine wpAny_IfExp (thn (hc pins s σ H _ I h) λd s1 ⟨H1,I1,q1⟩=> ?_);cases d with
 |true=>exact ha pins s1 σ H1 Q I1 q1
 |false=>exact hb pins s1 σ H1 Q I1 q1
end
def SqL (K:G7)(H:Hp)(a:P3)(xs:G0 V):Prop:=
 Rd H a (.lst xs)\/
  ∃ (o:Obj) (its:S9 G1) (n:G6),K.lookup a=some o/\o.cls= .type "list" /\o.dict=none/\o.data= .seq its n/\its.size<=sizeLine/\Vals xs its.toList
def SqT (K:G7)(H:Hp)(a:P3)(xs:G0 V):Prop:=
 Rd H a (.tup xs)\/
  ∃ (o:Obj) (its:S9 G1) (n:G6),K.lookup a=some o/\o.cls= .type "tuple" /\o.data= .seq its n/\its.size<=sizeLine/\Vals xs its.toList
def Hw:G1->D2 V
 | .none=>some .non
 | .bool b=>some (.bl b)
 | .int i _=>some (.int i)
 | .str x _=>some (.str x)
 | .bytes b _=>some (.byt b)
 | .float b _=>some (.flt b)
 | .ref a=>some (.ref a)
 | .type n=>some (.ty n)
 |_=>none
theorem RelV.abs {x:V}(r:RelV x u):Hw u=some x:=by
 cases x with
 |non=>cases r;rfl
 |bl _=>cases r;rfl
 |int _=>obtain⟨t,rfl⟩:=r;rfl
 |str _=>obtain⟨t,rfl⟩:=r;rfl
 |byt _=>obtain⟨t,rfl⟩:=r;rfl
 |flt _=>obtain⟨t,rfl⟩:=r;rfl
 |ref _=>cases r;rfl
 |ty _=>cases r;rfl
theorem RelV.inj {x y:V}(r:RelV x u)(q:RelV y u):x=y:=O9 (r.abs.symm.trans q.abs)
theorem Vals.inj: ∀ {xs ys:G0 V} {us:G0 G1},Vals xs us->Vals ys us->xs=ys
 |_,_,_,.nil,.nil=>rfl
 |_,_,_,.cons r t,.cons r' t'=>by rw [r.inj r',Vals.inj t t']
section
variable {X:Cx}{pins:G0 (P3×Obj)}{σ:St}{H:Hp}{s:G3}{a:P3}{xs ys:G0 V}
theorem SqL.of {K:G7}(h:H a=some (.lst xs)):SqL K H a xs:= .inl (.inl h)
theorem SqT.of {K:G7}(h:H a=some (.tup xs)):SqT K H a xs:= .inl (.inl h)
theorem Inv.list (I:Inv X pins σ H s)(h:SqL X.K H a xs): ∃its:G0 G1,Vals xs its/\PlainL s.heap a its.toArray/\xs.length<=sizeLine:=by
 rcases h with h|⟨o,its,n,hk,hc,hd,hs,hz,r⟩
 ·obtain⟨z,its,n,r,e⟩:=h.ok I.hok;exact⟨its,r,⟨_,n,e,rfl,rfl,rfl⟩,z⟩
 ·refine⟨its.toList,r,⟨o,n,I.kIn a o hk,hc,hd,by simpa using hs⟩,?_⟩;have e:=r.length;simp only [D1] at e;omega
theorem Inv.tuple (I:Inv X pins σ H s)(h:SqT X.K H a xs): ∃its:G0 G1,Vals xs its/\xN s.heap a its.toArray/\xs.length<=sizeLine:=by
 rcases h with h|⟨o,its,n,hk,hc,hs,hz,r⟩
 ·obtain⟨z,its,r,p⟩:=h.ok I.hok;exact⟨its,r,p.tup,z⟩
 ·refine⟨its.toList,r,⟨o,I.kIn a o hk,hc,n,by simpa using hs⟩,?_⟩;have e:=r.length;simp only [D1] at e;omega
theorem Inv.list_inj (I:Inv X pins σ H s)(h:SqL X.K H a xs)(h':SqL X.K H a ys):xs=ys:=by
 obtain⟨its,r,⟨o,n,e,_,_,d⟩,_⟩:=I.list h;obtain⟨its',r',⟨o',n',e',_,_,d'⟩,_⟩:=I.list h';rw [e] at e';cases e';rw [d] at d';injection d' with d1 _
 have:its=its':=by simpa using congrArg pW d1
 subst this;exact r.inj r'
theorem Inv.tuple_inj (I:Inv X pins σ H s)(h:SqT X.K H a xs)(h':SqT X.K H a ys):xs=ys:=by
 obtain⟨its,r,⟨o,e,_,n,d⟩,_⟩:=I.tuple h;obtain⟨its',r',⟨o',e',_,n',d'⟩,_⟩:=I.tuple h';rw [e] at e';cases e';rw [d] at d';injection d' with d1 _
 have:its=its':=by simpa using congrArg pW d1
 subst this;exact r.inj r'
end
abbrev Cx.wish (X:Cx)(E:G1->G3->Prop):Cx:= {X with xe:=E}
abbrev Cx.nox (X:Cx):Cx:=X.wish λ_ _=>False
theorem Cx.Ok.wish (ok:X.Ok)(E:G1->G3->Prop):(X.wish E).Ok:=
 ⟨ok.mod,ok.kind,ok.glob,ok.blt,ok.above,ok.inj,ok.has,ok.cab,ok.hd,ok.frames,ok.stk,ok.exf,ok.bs,ok.bsz,ok.noex,ok.exfs,ok.funs,ok.frf⟩
theorem Cx.Ok.unwish {E:G1->G3->Prop}(ok:(X.wish E).Ok):X.Ok:=
 ⟨ok.mod,ok.kind,ok.glob,ok.blt,ok.above,ok.inj,ok.has,ok.cab,ok.hd,ok.frames,ok.stk,ok.exf,ok.bs,ok.bsz,ok.noex,ok.exfs,ok.funs,ok.frf⟩
section
variable {X:Cx}{pins:G0 (P3×Obj)}{σ:St}{H:Hp}{s:G3}{E:G1->G3->Prop}
theorem Inv.wish (I:Inv X pins σ H s)(E:G1->G3->Prop):Inv (X.wish E) pins σ H s:=⟨I.ok.wish E,I.os,I.bare,I.base,I.loc,I.cell,I.free,I.freeC,I.pin,I.hok,I.len⟩
theorem Inv.unwish (I:Inv (X.wish E) pins σ H s):Inv X pins σ H s:=⟨I.ok.unwish,I.os,I.bare,I.base,I.loc,I.cell,I.free,I.freeC,I.pin,I.hok,I.len⟩
theorem SP.unwish {D:Ends}{f:Flow}{s':G3}(h:SP (X.wish E) pins D f s'):SP X pins D f s':=by
 cases f with
 |next=>obtain⟨σ',H',I,q⟩:=h;exact⟨σ',H',I.unwish,q⟩
 |brk=>obtain⟨σ',H',I,q⟩:=h;exact⟨σ',H',I.unwish,q⟩
 |cont=>obtain⟨σ',H',I,q⟩:=h;exact⟨σ',H',I.unwish,q⟩
 |ret u=>obtain⟨v,σ',H',I,r,q⟩:=h;exact⟨v,σ',H',I.unwish,r,q⟩
theorem PSs.nox {st:G0 Q2}{t:TS}(h:PSs X.nox st t):PSs X st t:=λpins s σ H D I hw=>
 T7 (h pins s σ H D (I.wish _) hw) (λ_ _ q=>q.unwish) λ_ _ z=>False.elim z
end
section
variable {X:Cx}{st:Q2}{rest:G0 Q2}{t u:TS}{e:M9}{te:TE}{pos:Pos}
def Ls:TS:=λD σ H=>D.nx σ H
def Tv (t u:TS):TS:=λD σ H=>t {D with nx:=u D} σ H
theorem pss_nil:PSs X [] Ls:=λ_ _ σ H _ I h=>iH ⟨σ,H,I,h⟩
theorem Rz (h1:PS X st t)(h2:PSs X rest u):PSs X (st::rest) (Tv t u):=by
 intro pins s σ H D I h;refine q0 (thn (h1 pins s σ H {D with nx:=u D} I h) λf s1 q=> ?_);cases f with
 |next=>
  obtain⟨σ',H',I',q⟩:=q;exact h2 pins s1 σ' H' D I' q
 |ret v=>exact q
 |brk=>exact q
 |cont=>exact q
theorem Bq (h1:PS X st t):PSs X [st] t:=by
 intro pins s σ H D I h;refine q0 (thn (h1 pins s σ H D I h) λf s1 q=> ?_);cases f with
 |next=>exact iH q
 |ret v=>exact q
 |brk=>exact q
 |cont=>exact q
theorem Inv.quiet {pins:G0 (P3×Obj)}{σ:St}{H:Hp}{s:G3}(I:Inv X pins σ H s):xQ X.env=false:=by simp [xQ,I.ok.kind]
def Lt (te:TE):TS:=λD σ H=>te σ H λ_ H1=>D.nx σ H1
theorem Br (he:PE X e te)(hs:W5 e none pos.line X.env=pure false:=by rfl):PS X (.Expr e pos) (Lt te):=by
 intro pins s σ H D I h;exact wpAny_Expr_any (thn (he pins s σ H _ I h) λv s1 ⟨x,H1,I1,r1,q1⟩=>⟨σ,H1,I1,q1⟩) I.quiet hs
def Tw (te:TE):TS:=λD σ H=>te σ H D.rt
theorem Lu (he:PE X e te):PS X (.Return (some e) pos) (Tw te):=by
 intro pins s σ H D I h;exact wpAny_Return_some (thn (he pins s σ H _ I h) λv s1 ⟨x,H1,I1,r1,q1⟩=>⟨x,σ,H1,I1,r1,q1⟩)
def Tx (c:TT)(t u:TS):TS:=λD σ H=>c σ H λb H1=>if b=true then t D σ H1 else u D σ H1
theorem ED {c:M9}{a b:G0 Q2}{tc:TT}(hc:PT X c tc)(ha:PSs X a t)(hb:PSs X b u):PS X (.If c a b pos) (Tx tc t u):=by
 intro pins s σ H D I h;refine wpAny_If (thn (hc pins s σ H _ I h) λd s1 ⟨H1,I1,q1⟩=> ?_);cases d with
 |true=>exact ha pins s1 σ H1 D I1 q1
 |false=>exact hb pins s1 σ H1 D I1 q1
end
abbrev TG:=V->St->Hp->(St->Hp->Prop)->Prop
abbrev TGs:=G0 V->St->Hp->(St->Hp->Prop)->Prop
def PG (X:Cx)(target:M9)(t:TG):Prop:=
 ∀ (pins:G0 (P3×Obj)) (s:G3) (σ:St) (H:Hp) (v:V) (u:G1) (Q:St->Hp->Prop),Inv X pins σ H s->RelV v u->t v σ H Q->
  R3 (R7 X.prog X.w) X.A (dP target X.env u) (λ_ s'=> ∃σ' H',Inv X pins σ' H' s'/\Q σ' H') X.xe s
def PGs (X:Cx)(ts:G0 M9)(t:TGs):Prop:=
 ∀ (pins:G0 (P3×Obj)) (s:G3) (σ:St) (H:Hp) (vs:G0 V) (us:G0 G1) (Q:St->Hp->Prop),Inv X pins σ H s->Vals vs us->t vs σ H Q->
  R3 (R7 X.prog X.w) X.A (o6 ((fH ts X.env).map (·.2)) us) (λ_ s'=> ∃σ' H',Inv X pins σ' H' s'/\Q σ' H') X.xe s
abbrev EE:=V->V->V->Hp->(Hp->Prop)->Prop
def Ty (X:Cx)(t:EE):Prop:=
 ∀ (pins:G0 (P3×Obj)) (s:G3) (σ:St) (H:Hp) (o i v:V) (ov iv u:G1) (Q:Hp->Prop),Inv X pins σ H s->RelV o ov->RelV i iv->RelV v u->t o i v H Q->
  R3 (R7 X.prog X.w) X.A (sR ov iv u) (λ_ s'=> ∃H',Inv X pins σ H' s'/\Q H') X.xe s
abbrev TIp:=V->V->Hp->VK->Prop
def PIp (X:Cx)(op:pX)(t:TIp):Prop:=
 ∀ (pins:G0 (P3×Obj)) (s:G3) (σ:St) (H:Hp) (x y:V) (v u:G1) (Q:VK),Inv X pins σ H s->RelV x v->RelV y u->t x y H Q->
  R3 (R7 X.prog X.w) X.A (inplaceOp op v u) (EP X pins σ Q) X.xe s
section
variable {X:Cx}{pos:Pos}
def wa (i:G6):TG:=λv σ H Q=>Q (σ.set i (some v)) H
variable {i:G6}{x:Str}
theorem wR (hN:X.N.Nodup)(hi:X.N[i]? =some x)(hx:Loc X.env.scope x)(hf:X.fn x=true\/X.env.scope.names.lookup x=some .local:=by first|exact .inl rfl|exact .inr rfl|assumption):PG X (.Name x pos) (wa i):=by
 intro pins s σ H v u Q I r h;exact wpAny_assign_Name (vd I hN hi hx r (λs' I'=>⟨_,H,I',h⟩) hf)
def El:TGs:=λvs σ H Q=>vs= []/\Q σ H
def VY (t:TG)(u:TGs):TGs:=λvs σ H Q=> ∃v r,vs=v::r/\t v σ H λσ' H'=>u r σ' H' Q
theorem VZ:PGs X [] El:=by
 intro pins s σ H vs us Q I r h;obtain⟨e,h⟩:=h;subst e;cases r;exact pY ⟨σ,H,I,h⟩
variable {e:M9}
theorem yl {es:G0 M9}{t:TG}{u:TGs}(h1:PG X e t)(h2:PGs X es u)
 (hs:(fH (e::es) X.env).map (·.2)=dP e X.env::(fH es X.env).map (·.2):=by rfl):PGs X (e::es) (VY t u):=by
 intro pins s σ H vs us Q I r h;obtain⟨v,vr,e1,h⟩:=h;subst e1;cases r with
 |cons r rr=>
  rw [hs];refine iU (thn (h1 pins s σ H _ _ _ I r h) λ_ s1 ⟨σ1,H1,I1,q1⟩=> ?_);exact h2 pins s1 σ1 H1 _ _ Q I1 rr q1
def Em (K:G7)(n:G6)(t:TGs):TG:=λv σ H Q=> ∃a xs,v= .ref a/\SqT K H a xs/\xs.length=n/\t xs σ H Q
theorem Gg {es:G0 M9}{k:G6}{t:TGs}{n:G6}(hc:X.calm=true)(h:PGs X es t)
 (hn:(fH es X.env).length=n:=by rfl)(hst:(fH es X.env).findIdx? (·.1)=none:=by rfl):PG X (.Tuple es k pos) (Em X.K n t):=by
 intro pins s σ H v u Q I r hw;obtain⟨a,xs,e1,hq,hl,hw⟩:=hw;subst e1;cases r;obtain⟨its,rv,ht,hz⟩:=I.tuple hq;refine assign_Tuple_tuple (I.ok.hd hc) ht (by simp [hn,<-hl,rv.length]) hst λh' hx=> ?_
 have I1:Inv X pins σ H {s with heap:=h'}:=I.kept (t':=s.toks) λb o e=>hx b o (M1 (R0 e)) e
 exact h pins _ σ H xs _ Q I1 (by simpa using rv) hw
def Hx (to ti:TE)(t:EE):TG:=λv σ H Q=>to σ H λo H1=>ti σ H1 λi H2=>t o i v H2 λH3=>Q σ H3
theorem Lv {o i:M9}{to ti:TE}{t:EE}(ho:PE X o to)(hi:PE X i ti)(hs:Ty X t)
 (ha: ∀v,dP (.Subscript o i pos) X.env v=(do
  let ov <-Y0 [v] (J7 o X.env)
  let iv <-Y0 [v,ov] (J7 i X.env)
  fB pos
  Y0 [v,ov,iv] (sR ov iv v)
  KB [v,ov,iv] []):=by intro _;rfl):PG X (.Subscript o i pos) (Hx to ti t):=by
 intro pins s σ H v u Q I r h;rw [ha];refine wpAny_bind (O1 (thn (ho pins s σ H _ I h) λov s1 ⟨x,H1,I1,r1,q1⟩=> ?_));refine wpAny_bind (O1 (thn (hi pins s1 σ H1 _ I1 q1) λiv s2 ⟨y,H2,I2,r2,q2⟩=> ?_));refine wpAny_bind (Y1 (wpAny_bind (O1 (thn (hs pins s2 σ H2 x y v ov iv u _ I2 r1 r2 r q2) λ_ s3 ⟨H3,I3,q3⟩=> ?_))));exact wpAny_release ⟨σ,H3,I3,q3⟩
def RA (te:TE)(g:TG):TS:=λD σ H=>te σ H λx H1=>g x σ H1 D.nx
theorem Lw {tg:M9}{te:TE}{g:TG}(he:PE X e te)(hg:PG X tg g)(hs:dW [tg] e pos.line X.env=pure false:=by rfl)(hw:dX [tg] e X.env=pure none:=by rfl)
 (h1:(fH [tg] X.env).map (·.2)= [dP tg X.env]:=by rfl):PS X (.Assign [tg] e pos) (RA te g):=by
 intro pins s σ H D I h;refine wpAny_Assign_stores (thn (he pins s σ H _ I h) λv s1 ⟨x,H1,I1,r1,q1⟩=> ?_) hs hw;rw [h1];exact thn (hg pins s1 σ H1 x v _ I1 r1 q1) λ_ s2 q=>q
theorem Ly {te:TE}{pos':Pos}(hN:X.N.Nodup)(hi:X.N[i]? =some x)(hx:Loc X.env.scope x)(he:PE X e te)(hs:W5 e (some (.Name x pos')) pos.line X.env=pure false:=by rfl)(hf:X.fn x=true\/X.env.scope.names.lookup x=some .local:=by first|exact .inl rfl|exact .inr rfl|assumption):
 PS X (.Assign [.Name x pos'] e pos) (RA te (wa i)):=by
 intro pins s σ H D I h;refine wpAny_Assign_Name (thn (he pins s σ H _ I h) λv s1 ⟨y,H1,I1,r1,q1⟩=> ?_) hs;exact vd I1 hN hi hx r1 (λs2 I2=>⟨_,H1,I2,q1⟩) hf
def Tz (i j:G6)(ta:TA):TS:=λD σ H=>ta σ H λvs H1=> ∃v w,vs= [v,w]/\D.nx ((σ.set i (some v)).set j (some w)) H1
theorem Lz {j:G6}{y:Str}{a b:M9}{ta:TA}{px py pt:Pos}{kt k2 pt2}(hc:X.calm=true)(hN:X.N.Nodup)(hi:X.N[i]? =some x)(hj:X.N[j]? =some y)(hij:i≠j)
 (hx:X.env.scope.names.lookup x=some .local)(hy:X.env.scope.names.lookup y=some .local)(ha:PA X [a,b] ta)
 (hw:dX [.Tuple [.Name x px,.Name y py] kt pt] (.Tuple [a,b] k2 pt2) X.env=pure (some [x,y]))
 (hs:dW [.Tuple [.Name x px,.Name y py] kt pt] (.Tuple [a,b] k2 pt2) pos.line X.env=pure false:=by rfl):
 PS X (.Assign [.Tuple [.Name x px,.Name y py] kt pt] (.Tuple [a,b] k2 pt2) pos) (Tz i j ta):=by
 intro pins s σ H D I h;rw [exec_Assign_arm];refine wpAny_bind (Y1 ?_);rw [hs];refine wpAny_bind (P0 ?_);rw [R9 (by decide)];refine wpAny_bind (Tuple_ (thn (ha _ pins s σ H _ I h) λus s1 ⟨vs,H1,I1,r1,q1⟩=> ?_));obtain⟨v,w,e1,q1⟩:=q1;subst e1;obtain⟨u1,u2,rfl,rv,rw'⟩: ∃u1 u2,us= [u1,u2]/\RelV v u1/\RelV w u2:=by
  cases r1 with
  |cons p q=>
   cases q with
   |cons p' q'=>
    cases q';exact⟨_,_,rfl,p,p'⟩
 refine Y9 ?_ (by show 2<=sizeLine;decide);have I2:Inv X pins σ H1 {s1 with heap:=s1.heap.push {cls:= .type "tuple",data:= .seq [u1,u2].toArray}}:=I1.kept (t':=s1.toks) λb o e=>G9 _ e
 rw [hw];refine wpAny_bind (P0 ?_);show R3 (R7 X.prog X.w) X.A (do rule "assign.swapped-stores";let items <-unpackItems (.ref s1.heap.objs.size) 2 none;o6 [λv=>tD X.env y v,λv=>tD X.env x v] items.reverse;pure Flow.next) _ _ _;refine wpAny_bind (g4 (wpAny_bind (unpackItems_tuple (items:= #[u1,u2]) (I.ok.hd hc) (IsTup.new s1.heap _) λh' hx'=> ?_)));have I3:=I2.kept (h':=h') (t':=s1.toks) λb o e=>hx' b o (M1 (R0 e)) e
 show R3 _ _ (o6 [λv=>tD X.env y v,λv=>tD X.env x v] [u2,u1] >>= λ_=>pure Flow.next) _ _ _;refine wpAny_bind (iU (tE (vd I3 hN hj (.inl hy) rw' (λs2 I4=> ?_) (.inr hy))));refine iU (tE (vd I4 hN hi (.inl hx) rv (λs3 I5=>pY (P0 ?_)) (.inr hx)));rw [List.set_comm _ _ (E4 hij)] at I5;exact⟨_,H1,I5,q1⟩
def TB (i:G6)(te:TE)(ti:TIp):TS:=λD σ H=> ∃x,σ[i]? =some (some x)/\te σ H λy H1=>ti x y H1 λz H2=>D.nx (σ.set i (some z)) H2
theorem LB {te:TE}{op:pX}{ti:TIp}{pos':Pos}(hN:X.N.Nodup)(hi:X.N[i]? =some x)(hx:Loc X.env.scope x)(he:PE X e te)(ho:PIp X op ti)(hf:X.fn x=true\/X.env.scope.names.lookup x=some .local:=by first|exact .inl rfl|exact .inr rfl|assumption):
 PS X (.AugAssign (.Name x pos') op e pos) (TB i te ti):=by
 intro pins s σ H D I h;obtain⟨v,e1,h⟩:=h;obtain⟨m,hn,hl⟩:=I.loc;have vis:Vis X.env.scope x:=by rcases hx with k|k;exact .inl k;exact .inr (.inl k)
 obtain⟨u,r,l⟩:=hl i x v hi e1 vis;refine wpAny_AugAssign_Name ?_;have go:R3 (R7 X.prog X.w) X.A (J7 e X.env) (λw s₂=>R3 (R7 X.prog X.w) X.A (inplaceOp op u w) (λr s₃=>R3 (R7 X.prog X.w) X.A (v7 X.env x r) (λ_=>SP X pins D .next) X.xe s₃) X.xe s₂) X.xe s:=by
  refine thn (he pins s σ H _ I h) λw s1 ⟨y,H1,I1,r1,q1⟩=> ?_
  refine thn (ho pins s1 σ H1 v y u w _ I1 r r1 q1) λz s2 ⟨zv,H2,I2,r2,q2⟩=> ?_
  exact vd I2 hN hi hx r2 (λs3 I3=>⟨_,H2,I3,q2⟩) hf
 rcases l with ⟨hk,hm⟩|⟨hk,c,hc,hcell⟩
 ·exact nO I.ok.kind hk hn hm go
 ·rcases hk with hk|hk
  ·exact oW I.ok.kind hk hc hcell go
  ·rcases hx with k|k
   ·have:X.env.scope.names.lookup x=some .free:=hk;rw [k] at this;cases this
   ·have:X.env.scope.names.lookup x=some .free:=hk;rw [k] at this;cases this
def ipI (f:P2->P2->P2):TIp:=λx y H Q=> ∃i j,x= .int i/\y= .int j/\Q (.int (f i j)) H
theorem LD:PIp X .Add (ipI λi j=>i+j):=by
 intro pins s σ H x y v u Q I r1 r2 h;obtain⟨i,j,e1,e2,q⟩:=h;subst e1;subst e2;obtain⟨t,rfl⟩:=r1;obtain⟨t',rfl⟩:=r2;exact iadd_int ⟨.int _,H,I.tok _,⟨_,rfl⟩,q⟩
def Nr (c:TT)(tb:TS):TS:=λD σ H=> ∃W:G6->St->Hp->Prop,(∃m,W m σ H)/\ ∀m σ H,W m σ H->
 c σ H λb H1=>if b=true then ∃N:St->Hp->Prop,(∀σ' H',N σ' H'-> ∃m',m'<m/\W m' σ' H')/\tb {D with nx:=N,ct:=N,bk:=D.nx} σ H1 else D.nx σ H1
theorem RB {c:M9}{body:G0 Q2}{tc:TT}{tb:TS}(hp:oQ (R7 X.prog X.w) X.A X.env X.xe)(hc:PT X c tc)(hb:PSs X body tb):PS X (.While c body [] pos) (Nr tc tb):=by
 intro pins s σ H D I h;obtain⟨W,⟨m0,w0⟩,turn⟩:=h;refine wpAny_While (codeAny_whileLoop (λn s'=> ∃σ' H',Inv X pins σ' H' s'/\W n σ' H') ?_ m0 ⟨σ,H,I,w0⟩);rintro n s1 ⟨σ1,H1,I1,w1⟩;refine aY hp (thn (hc pins s1 σ1 H1 _ I1 (turn n σ1 H1 w1)) λb s2 ⟨H2,I2,q2⟩=> ?_);cases b with
 |true=>
  obtain⟨N,hN,q2⟩:=q2;rw [R8 rfl];refine aY hp (thn (hb pins s2 σ1 H2 _ I2 q2) λf s3 q3=> ?_);cases f with
  |next=>
   obtain⟨σ3,H3,I3,n3⟩:=q3;obtain⟨m',hm,w3⟩:=hN σ3 H3 n3;exact⟨m',hm,σ3,H3,I3,w3⟩
  |cont=>
   obtain⟨σ3,H3,I3,n3⟩:=q3;obtain⟨m',hm,w3⟩:=hN σ3 H3 n3;exact⟨m',hm,σ3,H3,I3,w3⟩
  |brk=>exact q3
  |ret v=>exact q3
 |false=>
  rw [R9 D6];exact iH ⟨σ1,H2,I2,q2⟩
end
structure It where
 go:G6->Hp->Prop
 yld:G6->Hp->V->Hp->Prop
 stop:G6->Hp->Prop
def Ua (X:Cx)(pins:G0 (P3×Obj))(H:Hp)(b:P3):Prop:=
 H b=none/\b≠X.env.locals/\b ∉ X.fs/\(b∈X.ex\/X.s₀.heap.objs.size<=b)/\(∀x c,X.env.cells.lookup x=some c->c≠b)/\ ∀p∈X.pn++pins,p.1≠b
theorem Inv.fpOk {pins:G0 (P3×Obj)}{σ:St}{H':Hp}(I:Inv X pins σ H s)(hb:s.heap.objs.size<=b)(hn:H' b=none):Ua X pins H' b:=by
 refine⟨hn,U4 (N7 I.lt hb),I.nofs hb,.inr (S0 I.sz hb),λx c e z=> ?_,λp hp z=> ?_⟩
 ·obtain⟨v,q⟩:=I.cell x c e;exact absurd (N7 q.lt (by rw [z];exact hb)) (B7 _)
 ·exact absurd (N7 (R0 (I.pin p hp).1) (by rw [z];exact hb)) (B7 _)
structure Turn (P:T3)(w:B9)(K:G7)(tg:M9)(J:It)(fp:G0 P3)(it:P3)(tn:G6->O6->Prop):Prop where
 mem:it∈fp
 obj: ∀i h,tn i h-> ∀b∈fp,∃o,h.get? b=some o/\ ∀v,o.data≠ .cell v
 keep: ∀i h h',tn i h->(∀b∈fp,∀o,h.get? b=some o->h'.get? b=some o)->tn i h'
 item: ∀ (X:Cx),X.prog=P->X.w=w->X.K=K->X.calm=true-> ∀ (i:G6) (pins:G0 (P3×Obj)) (s:G3) (σ:St) (H:Hp) (E:G1->G3->Prop),Inv X pins σ H s->(∀b∈fp,Ua X pins H b)->tn i s.heap->J.go i H->
  R3 (R7 P w) X.A (pG (.ref it)) (λr s1=> ∃u,r=some u/\
   R3 (R7 P w) X.A (cB tg (.ref it) u) (λ_ s2=> ∃x H',Inv X pins σ H' s2/\RelV x u/\J.yld i H x H'/\tn (i+1) s2.heap/\ ∀b∈fp,H' b=none) E s1) E s
 done: ∀ (X:Cx),X.prog=P->X.w=w->X.K=K->X.calm=true-> ∀ (i:G6) (pins:G0 (P3×Obj)) (s:G3) (σ:St) (H:Hp) (E:G1->G3->Prop),Inv X pins σ H s->(∀b∈fp,Ua X pins H b)->tn i s.heap->J.stop i H->
  R3 (R7 P w) X.A (pG (.ref it)) (λr s1=>r=none/\Inv X pins σ H s1) E s
 self: ∀ (A:N6) (i:G6) (s:G3) (Q:G1->G3->Prop) (E:G1->G3->Prop),tn i s.heap->Q (.ref it) s->R3 (R7 P w) A (pH (.ref it)) Q E s
abbrev TI:=St->Hp->(It->Hp->Prop)->Prop
def PIE (X:Cx)(pins:G0 (P3×Obj))(σ:St)(tg:M9)(R:It->Hp->Prop)(itv:G1)(s2:G3):Prop:=
 ∃ (it:P3) (fp:G0 P3) (tn:G6->O6->Prop) (J:It) (H':Hp),itv= .ref it/\Inv X pins σ H' s2/\Turn X.prog X.w X.K tg J fp it tn/\tn 0 s2.heap/\(∀b∈fp,Ua X pins H' b)/\R J H'
def PI (X:Cx)(tg iter:M9)(wi:TI):Prop:=
 ∀ (pins:G0 (P3×Obj)) (s:G3) (σ:St) (H:Hp) (R:It->Hp->Prop),Inv X pins σ H s->wi σ H R->
  R3 (R7 X.prog X.w) X.A (J7 iter X.env) (λv s1=>R3 (R7 X.prog X.w) X.A (pH v) (PIE X pins σ tg R) X.xe s1) X.xe s
variable {tg:M9}
theorem RC {M : pU} {E : G1 → G3 → Prop} {it : P3} {o : Obj} {n : V1} {vs : S9 G1} {Q : Unit → G3 → Prop} (ho : s.heap.get? it = some o) (hc : o.cls = .type n) (hd : o.data = .fields vs)
    (hn : ["enumerate", "zip", "dict_itemiterator", "dict_reverseitemiterator", "odict_iterator", "itertools.zip_longest", "itertools.pairwise"].contains n = false) (hQ : Q () s) : R3 M A (cB tg (.ref it) u) Q E s := by
  unfold cB
  cases tg <;> first
    | exact P0 hQ
    | (cases u <;> first
        | exact P0 hQ
        | (refine wpAny_bind (IH ho ?_)
           rw [hc, hd]
           show R3 M A (if (["enumerate", "zip", "dict_itemiterator", "dict_reverseitemiterator", "odict_iterator", "itertools.zip_longest", "itertools.pairwise"].contains n && vs[0]? == some (K1 _)) = true then _ else _) Q E s
           rw [R9 (by intro h; rw [hn, nP] at h; cases h)]
           exact P0 hQ))
def Itl (K:G7)(a:P3):It:=
 ⟨λi H=> ∃xs x,SqL K H a xs/\xs[i]? =some x,λi H x H'=>H'=H/\ ∀xs,SqL K H a xs->xs[i]? =some x,λi H=> ∃xs,SqL K H a xs/\xs.length<=i⟩
def Itt (K:G7)(a:P3):It:=
 ⟨λi H=> ∃xs x,SqT K H a xs/\xs[i]? =some x,λi H x H'=>H'=H/\ ∀xs,SqT K H a xs->xs[i]? =some x,λi H=> ∃xs,SqT K H a xs/\xs.length<=i⟩
def Itr (lo:P2)(n:G6):It:=⟨λi _=>i<n,λi H x H'=>H'=H/\x= .int (lo+i),λi _=>n<=i⟩
variable {K:G7}
theorem YF (a it:P3):Turn P w K tg (Itl K a) [it] it (λi h=>h.IsListIter it a i) where
 mem:=by simp
 obj:=λi h st b hb=>by
  have e:b=it:=by simpa using hb
  subst e;obtain⟨o,e,c,d⟩:=st;exact⟨o,e,λv z=>by rw [d] at z;cases z⟩
 keep:=λi h h' st k=>st.at λo e=>k it (by simp) o e
 item:=by
  intro X hP hw hK hc i pins s σ H E I hf st hg;subst hP hw hK;obtain⟨xs,x,hq,hx⟩:=hg;obtain⟨its,rv,p,hz⟩:=I.list hq;obtain⟨u,hu,ru⟩:=rv.get hx;obtain⟨f0,f1,f2,f3,f4,f5⟩:=hf it (by simp);refine wpAny_pyNext_list_item st p.isList (x:=u) (by simpa using hu) λh' st' sb=> ?_
  have I1:Inv X pins σ H {s with heap:=h'}:=I.turned (t':=s.toks) (λb o hb e=>(sb.2 b hb).trans e) f0 f1 f3 f4 f5;obtain⟨o,e,c,d⟩:=id st';exact⟨u,rfl,RC (s:= {s with heap:=h'}) e c d (by decide) ⟨x,H,I1,ru,⟨rfl,λys hy=>by rw [I.list_inj hy hq];exact hx⟩,st',λb hb=>(hf b hb).1⟩⟩
 done:=by
  intro X hP hw hK hc i pins s σ H E I hf st hg;subst hP hw hK;obtain⟨xs,hq,hx⟩:=hg;obtain⟨its,rv,p,hz⟩:=I.list hq;obtain⟨f0,f1,f2,f3,f4,f5⟩:=hf it (by simp);have hl:=rv.length;exact wpAny_pyNext_list_end (I.ok.hd hc) st p.isList (by simp;omega) λh' eb=>⟨rfl,I.turned (t':=s.toks) (λb o hb e=>eb b o hb e) f0 f1 f3 f4 f5⟩
 self:=λ_ _ _ _ _ st h=>wpAny_pyIter_listiter st h
theorem XY (a it:P3):Turn P w K tg (Itt K a) [it] it (λi h=>h.IsTupleIter it a i) where
 mem:=by simp
 obj:=λi h st b hb=>by
  have e:b=it:=by simpa using hb
  subst e;obtain⟨o,e,c,d⟩:=st;exact⟨o,e,λv z=>by rw [d] at z;cases z⟩
 keep:=λi h h' st k=>st.at λo e=>k it (by simp) o e
 item:=by
  intro X hP hw hK hc i pins s σ H E I hf st hg;subst hP hw hK;obtain⟨xs,x,hq,hx⟩:=hg;obtain⟨its,rv,p,hz⟩:=I.tuple hq;obtain⟨u,hu,ru⟩:=rv.get hx;obtain⟨f0,f1,f2,f3,f4,f5⟩:=hf it (by simp);refine wpAny_pyNext_tuple_item st (show s.heap.IsTuple a its.toArray from p) (x:=u) (by simpa using hu) λh' st' sb=> ?_
  have I1:Inv X pins σ H {s with heap:=h'}:=I.turned (t':=s.toks) (λb o hb e=>(sb.2 b hb).trans e) f0 f1 f3 f4 f5;obtain⟨o,e,c,d⟩:=id st';exact⟨u,rfl,RC (s:= {s with heap:=h'}) e c d (by decide) ⟨x,H,I1,ru,⟨rfl,λys hy=>by rw [I.tuple_inj hy hq];exact hx⟩,st',λb hb=>(hf b hb).1⟩⟩
 done:=by
  intro X hP hw hK hc i pins s σ H E I hf st hg;subst hP hw hK;obtain⟨xs,hq,hx⟩:=hg;obtain⟨its,rv,p,hz⟩:=I.tuple hq;obtain⟨f0,f1,f2,f3,f4,f5⟩:=hf it (by simp);have hl:=rv.length;exact wpAny_pyNext_tuple_end (I.ok.hd hc) st (show s.heap.IsTuple a its.toArray from p) (by simp;omega) λh' eb=>⟨rfl,I.turned (t':=s.toks) (λb o hb e=>eb b o hb e) f0 f1 f3 f4 f5⟩
 self:=λ_ _ _ _ _ st h=>wpAny_pyIter_tupleiter st h
theorem XZ (it:P3)(lo:P2)(n:G6):Turn P w K tg (Itr lo n) [it] it (λi h=>xR h it (lo+(i:G6)*1) ((n:P2)-(i:G6)) 1) where
 mem:=by simp
 obj:=λi h st b hb=>by
  have e:b=it:=by simpa using hb
  subst e;exact⟨_,st,λv z=>by
   have z':Data.fields _=Data.cell v:=z;cases z'⟩
 keep:=λi h h' st k=>k it (by simp) _ st
 item:=by
  intro X hP hw hK hc i pins s σ H E I hf st hg;subst hP hw hK;obtain⟨f0,f1,f2,f3,f4,f5⟩:=hf it (by simp);have W:=Walks.range (prog:=X.prog) (w:=X.w) (I.ok.hd hc) it lo 1 n;refine W.item i s _ _ hg st λv h' tk hv st' kk=> ?_
  obtain⟨t,rfl⟩:=hv;have I1:Inv X pins σ H {s with heap:=h',toks:=tk}:=I.turned (λb o hb e=>kk b o (by simpa using hb) e) f0 f1 f3 f4 f5;refine⟨_,rfl,RC (s:= {s with heap:=h',toks:=tk}) (n:= "range_iterator") st' rfl rfl (by decide) ⟨.int (lo+i),H,I1,⟨t,?_⟩,⟨rfl,rfl⟩,st',λb hb=>(hf b hb).1⟩⟩;rw [Int.mul_one]
 done:=by
  intro X hP hw hK hc i pins s σ H E I hf st hg;subst hP hw hK;obtain⟨f0,f1,f2,f3,f4,f5⟩:=hf it (by simp);exact wpAny_pyNext_range_end (I.ok.hd hc) st (by have:n<=i:=hg;omega) λh' eb=>⟨rfl,I.turned (t':=s.toks) (λb o hb e=>eb b o hb e) f0 f1 f3 f4 f5⟩
 self:=λ_ _ _ _ _ st h=>wpAny_pyIter_rangeiter st h
section
variable {X:Cx}{tg:M9}
def LF (K:G7)(tl:TE):TI:=λσ H R=>tl σ H λx H1=> ∃a,x= .ref a/\(∃xs,SqL K H1 a xs)/\R (Itl K a) H1
theorem Bs {l:M9}{tl:TE}(hl:PE X l tl):PI X tg l (LF X.K tl):=by
 intro pins s σ H R I h;refine thn (hl pins s σ H _ I h) λv s1 ⟨x,H1,I1,r1,q1⟩=> ?_
 obtain⟨a,e,⟨xs,hq⟩,q⟩:=q1;subst e;cases r1;obtain⟨its,rv,p,hz⟩:=I1.list hq;refine Z0 p.isList ?_;refine⟨s1.heap.objs.size,[s1.heap.objs.size],_,_,H1,rfl,I1.kept (t':=s1.toks) λb o e=>G9 _ e,YF a _,⟨_,S5 _ rfl,rfl,rfl⟩,λb hb=> ?_,q⟩;have e:b=s1.heap.objs.size:=by simpa using hb
 subst e;exact I1.fpOk (P6 _) (I1.hok.fresh (P6 _))
variable {pins:G0 (P3×Obj)}
theorem RD {σ:St}{H:Hp}{s:G3}{R:It->Hp->Prop}{E:G1->G3->Prop}{lo hi:P2}{t u v:Tok}{tk:G6}(I:Inv X pins σ H s)(h1: -(2^62)<=lo)(h2:lo<2^62)(h3: -(2^62)<=hi)(h4:hi<2^62)
 (q:R (Itr lo (hi-lo).toNat) H):R3 (R7 X.prog X.w) X.A (pH (.ref s.heap.objs.size)) (PIE X pins σ tg R) E {s with heap:=s.heap.push {cls:= .type "range",data:= .fields #[.int lo t,.int hi u,.int 1 v]},toks:=tk}:=by
 refine wpAny_pyIter_range (IsRange.new ..) (small_one h1 h2 h3 h4) ?_;have I1:Inv X pins σ H {s with heap:=s.heap.push {cls:= .type "range",data:= .fields #[.int lo t,.int hi u,.int 1 v]},toks:=tk}:=I.kept λb o e=>G9 _ e
 refine⟨(s.heap.push {cls:= .type "range",data:= .fields #[.int lo t,.int hi u,.int 1 v]}).objs.size,[(s.heap.push {cls:= .type "range",data:= .fields #[.int lo t,.int hi u,.int 1 v]}).objs.size],_,_,H,rfl,
  I1.kept (t':=tk) λb o e=>G9 _ e,XZ _ lo (hi-lo).toNat,?_,λb hb=> ?_,q⟩
 ·have e1:lo+((0:G6):P2)*1=lo:=by simp
  have e2:(((hi-lo).toNat:G6):P2)-((0:G6):P2)=Builtin.Range.rangeSize lo hi 1:=by rw [rangeSize_one];split<;>omega
  show xR _ _ (lo+((0:G6):P2)*1) ((((hi-lo).toNat:G6):P2)-((0:G6):P2)) 1;rw [e1,e2];exact S5 _ rfl
 ·have e:b=(s.heap.push {cls:= .type "range",data:= .fields #[.int lo t,.int hi u,.int 1 v]}).objs.size:=by simpa using hb
  subst e;exact I1.fpOk (P6 _) (I1.hok.fresh (P6 _))
def LH (ta:TA):TI:=λσ H R=>ta σ H λvs H1=> ∃j:P2,vs= [.int j]/\ -(2^62)<=j/\j<2^62/\R (Itr 0 j.toNat) H1
theorem Gh {a:M9}{ta:TA}{p pos:Pos}(hg:Gl X "range")(hm:X.mg "range" =none)(ha:PA X [a] ta)(hs:S1 [a] X.env= [(false,J7 a X.env)]:=by rfl):PI X tg (.Call (.Name "range" p) [a] [] pos) (LH ta):=by
 intro pins s σ H R I h;refine Call_ (YE I hg hm boot_range (cM (thn (ha pos pins s σ H _ I h) λus s1 ⟨vs,H1,I1,r1,q1⟩=> ?_) hs rfl));obtain⟨j,e,q1,q2,q⟩:=q1;subst e;cases r1 with
 |cons r rr=>
  cases rr;obtain⟨t,rfl⟩:=r;exact call_range_1 (RD I1 (by omega) (by omega) q1 q2 (by simpa using q))
def TC (wi:TI)(g:TG)(tb:TS):TS:=λD σ H=>wi σ H λJ H1=> ∃W:G6->G6->St->Hp->Prop,(∃m,W 0 m σ H1)/\ ∀i m σ H,W i m σ H->
 (J.stop i H/\D.nx σ H)\/(J.go i H/\ ∃N:St->Hp->Prop,(∀σ' H',N σ' H'-> ∃m',m'<m/\W (i+1) m' σ' H')/\ ∀x H',J.yld i H x H'->g x σ H' λσ2 H2=>tb {D with nx:=N,ct:=N,bk:=D.nx} σ2 H2)
def wn (fp:G0 P3)(h:O6):G0 (P3×Obj):=fp.filterMap λb=>(h.get? b).map λo=>(b,o)
theorem zi {fp:G0 P3}{h:O6}{b:P3}{o:Obj}(hb:b∈fp)(e:h.get? b=some o):(b,o)∈wn fp h:=bY.mpr ⟨b,hb,by rw [e];rfl⟩
theorem ve {fp:G0 P3}{h:O6}{p:P3×Obj}(hp:p∈wn fp h):p.1∈fp/\h.get? p.1=some p.2:=by
 obtain⟨b,hb,e⟩:=bY.mp hp;cases q:h.get? b with
 |none=>rw [q] at e;cases e
 |some o=>
  rw [q] at e;have e':(b,o)=p:=O9 e;subst e';exact⟨hb,q⟩
theorem Inv.pinned {σ:St}{H:Hp}{s:G3}{fp:G0 P3}(I:Inv X pins σ H s)(hf: ∀b∈fp,Ua X pins H b)(ho: ∀b∈fp,∃o,s.heap.get? b=some o/\ ∀v,o.data≠ .cell v):Inv X (pins++wn fp s.heap) σ H s:=
 I.pins_of λp hp=>(D8.mp hp).elim (λz=>I.pin p (P5 _ z)) λz=>by
  obtain⟨hb,e⟩:=ve z;obtain⟨f0,f1,f2,_⟩:=hf p.1 hb;obtain⟨o,e',d⟩:=ho p.1 hb;rw [e] at e';cases e';exact⟨e,f0,f1,f2,d⟩
theorem Inv.unpinned {pl:G0 (P3×Obj)}{σ:St}{H:Hp}{s:G3}(I:Inv X (pins++pl) σ H s):Inv X pins σ H s:=I.pins_of λp hp=>I.pin p (P5 _ (M8 _ hp))
theorem LJ {iter:M9}{body:G0 Q2}{wi:TI}{g:TG}{tb:TS}{pos:Pos}(hp:oQ (R7 X.prog X.w) X.A X.env X.xe)(hc:X.calm=true)(hi:PI X tg iter wi)(hg:PG X tg g)(hb:PSs X body tb)
 (hs: ∀x,M5 iter X.env x=pure x:=by intro _;rfl):PS X (.For tg iter body [] pos) (TC wi g tb):=by
 intro pins s σ H D I h;refine wpAny_For (thn (hi pins s σ H _ I h) λv s1 h1=>thn h1 λitv s2 h2=> ?_) hs;obtain⟨it,fp,tn,J,H2,e,I2,T,st2,f2,W,⟨m0,w0⟩,turn⟩:=h2;subst e
 -- what stays true of the iterator's objects through the loop
 have stat: ∀ {H':Hp},(∀b∈fp,H' b=none)-> ∀b∈fp,Ua X pins H' b:=λhn b hb=>⟨hn b hb,(f2 b hb).2⟩
 refine codeAny_forLoop_any (λn s'=> ∃i σ' H',Inv X pins σ' H' s'/\tn i s'.heap/\(∀b∈fp,H' b=none)/\W i n σ' H') ?_ m0 ⟨0,σ,H2,I2,st2,λb hb=>(f2 b hb).1,w0⟩;rintro n s3 ⟨i,σ3,H3,I3,st3,fr3,w3⟩;rcases turn i n σ3 H3 w3 with ⟨stop,qn⟩|⟨go,N,hN,step⟩
 ·refine aY hp (thn (T.done X rfl rfl rfl hc i pins s3 σ3 H3 X.xe I3 (stat fr3) st3 stop) λr s4 ⟨hr,I4⟩=> ?_);subst hr;exact iH ⟨σ3,H3,I4,qn⟩
 ·refine aY hp (thn (T.item X rfl rfl rfl hc i pins s3 σ3 H3 X.xe I3 (stat fr3) st3 go) λr s4 ⟨u,hr,h4⟩=> ?_);subst hr;refine aY hp (thn h4 λ_ s5 ⟨x,H5,I5,r5,y5,st5,fr5⟩=> ?_);have I5':=I5.pinned (stat fr5) (T.obj _ _ st5);refine aY hp (thn (hg _ s5 σ3 H5 x u _ I5' r5 (step x H5 y5)) λ_ s6 ⟨σ6,H6,I6,q6⟩=> ?_);refine aY hp (thn (hb _ s6 σ6 H6 _ I6 q6) λf s7 q7=> ?_);have again: ∀ {σ7:St} {H7:Hp},Inv X (pins++wn fp s5.heap) σ7 H7 s7->N σ7 H7-> ∃m,m<n/\ ∃i σ' H',Inv X pins σ' H' s7/\tn i s7.heap/\(∀b∈fp,H' b=none)/\W i m σ' H':=λ{σ7 H7} I7 n7=>by
   obtain⟨m',hm,w7⟩:=hN σ7 H7 n7;refine⟨m',hm,i+1,σ7,H7,I7.unpinned,T.keep _ _ _ st5 λb hb o e=>(I7.pin (b,o) (P5 _ (P5 _ (zi hb e)))).1,λb hb=> ?_,w7⟩;obtain⟨o,e,d⟩:=T.obj _ _ st5 b hb;exact(I7.pin (b,o) (P5 _ (P5 _ (zi hb e)))).2.1
  cases f with
  |next=>obtain⟨σ7,H7,I7,n7⟩:=q7;exact again I7 n7
  |cont=>obtain⟨σ7,H7,I7,n7⟩:=q7;exact again I7 n7
  |brk=>obtain⟨σ7,H7,I7,q7⟩:=q7;exact⟨σ7,H7,I7.unpinned,q7⟩
  |ret v=>obtain⟨x7,σ7,H7,I7,r7,q7⟩:=q7;exact⟨x7,σ7,H7,I7.unpinned,r7,q7⟩
end
abbrev R2:=V->V->Hp->VK->Prop
def OpR (X:Cx)(f:G1->G1->Sem G1)(r:R2):Prop:=
 ∀ (pins:G0 (P3×Obj)) (s:G3) (σ:St) (H:Hp) (x y:V) (v u:G1) (Q:VK),Inv X pins σ H s->RelV x v->RelV y u->r x y H Q->
  R3 (R7 X.prog X.w) X.A (f v u) (EP X pins σ Q) X.xe s
def UnR (X:Cx)(f:G1->Sem G1)(r:V->Hp->VK->Prop):Prop:=
 ∀ (pins:G0 (P3×Obj)) (s:G3) (σ:St) (H:Hp) (x:V) (v:G1) (Q:VK),Inv X pins σ H s->RelV x v->r x H Q->
  R3 (R7 X.prog X.w) X.A (f v) (EP X pins σ Q) X.xe s
def CallR (X:Cx)(f:G1)(r:G0 V->Hp->VK->Prop):Prop:=
 ∀ (pins:G0 (P3×Obj)) (s:G3) (σ:St) (H:Hp) (xs:G0 V) (us:G0 G1) (Q:VK),Inv X pins σ H s->Vals xs us->r xs H Q->
  R3 (R7 X.prog X.w) X.A (call f us) (EP X pins σ Q) X.xe s
def tOp (r:R2)(ta tb:TE):TE:=λσ H Q=>ta σ H λx H1=>tb σ H1 λy H2=>r x y H2 Q
def tUn (r:V->Hp->VK->Prop)(ta:TE):TE:=λσ H Q=>ta σ H λx H1=>r x H1 Q
def rI (C:P2->P2->Prop)(g:P2->P2->V):R2:=λx y H Q=> ∃i j,x= .int i/\y= .int j/\C i j/\Q (g i j) H
def rI0 (g:P2->P2->V):R2:=λx y H Q=> ∃i j,x= .int i/\y= .int j/\Q (g i j) H
def rU (g:P2->V):V->Hp->VK->Prop:=λx H Q=> ∃i,x= .int i/\Q (g i) H
section
variable {X:Cx}{a b c:M9}{ta tb tc:TE}{pos:Pos}
theorem EF (ha:PE X a ta)(hb:PE X b tb){pins:G0 (P3×Obj)}{s:G3}{σ:St}{H:Hp}{R:V->V->Hp->Prop}(I:Inv X pins σ H s)
 (h:ta σ H λx H1=>tb σ H1 λy H2=>R x y H2){Q:G1->G3->Prop}{f:G1->G1->Sem G1}
 (hf: ∀v u s2 x y H2,Inv X pins σ H2 s2->RelV x v->RelV y u->R x y H2->R3 (R7 X.prog X.w) X.A (f v u) Q X.xe s2):
 R3 (R7 X.prog X.w) X.A (J7 a X.env) (λv s₁=>R3 (R7 X.prog X.w) X.A (J7 b X.env) (λu s₂=>R3 (R7 X.prog X.w) X.A (f v u) Q X.xe s₂) X.xe s₁) X.xe s:=by
 refine thn (ha pins s σ H _ I h) λv s1 ⟨x,H1,I1,r1,q1⟩=> ?_
 refine thn (hb pins s1 σ H1 _ I1 q1) λu s2 ⟨y,H2,I2,r2,q2⟩=> ?_
 exact hf v u s2 x y H2 I2 r1 r2 q2
theorem EG {op:pX}{r:R2}(ho:OpR X (K8 op) r)(ha:PE X a ta)(hb:PE X b tb):PE X (.BinOp a op b pos) (tOp r ta tb):=by
 intro pins s σ H Q I h;exact wpAny_BinOp (EF ha hb I h λv u s2 x y H2 I2 rx ry q=>ho pins s2 σ H2 x y v u Q I2 rx ry q)
theorem EH {op:UnaryOp}{r:V->Hp->VK->Prop}(ho:UnR X (unaryOp op) r)(ha:PE X a ta):PE X (.UnaryOp op a pos) (tUn r ta):=by
 intro pins s σ H Q I h;exact UnaryOp_ (thn (ha pins s σ H _ I h) λv s1 ⟨x,H1,I1,r1,q1⟩=>ho pins s1 σ H1 x v Q I1 r1 q1)
theorem opI {f:G1->G1->Sem G1}{C:P2->P2->Prop}{g:P2->P2->P2}
 (rule: ∀ (i j:P2) (t u:Tok) (s:G3) (Q:G1->G3->Prop) (E:G1->G3->Prop),C i j->Q (.int (g i j) s.toks) {s with toks:=s.toks+1}->R3 (R7 X.prog X.w) X.A (f (.int i t) (.int j u)) Q E s):
 OpR X f (rI C λi j=> .int (g i j)):=by
 intro pins s σ H x y v u Q I rx ry h;obtain⟨i,j,rfl,rfl,hc,q⟩:=h;obtain⟨t,rfl⟩:=rx;obtain⟨t',rfl⟩:=ry;exact rule i j t t' s _ _ hc ⟨.int (g i j),H,I.tok _,⟨_,rfl⟩,q⟩
theorem TD {f:G1->G1->Sem G1}{g:P2->P2->P2}
 (rule: ∀ (i j:P2) (t u:Tok) (s:G3) (Q:G1->G3->Prop) (E:G1->G3->Prop),Q (.int (g i j) s.toks) {s with toks:=s.toks+1}->R3 (R7 X.prog X.w) X.A (f (.int i t) (.int j u)) Q E s):
 OpR X f (rI0 λi j=> .int (g i j)):=by
 intro pins s σ H x y v u Q I rx ry h;obtain⟨i,j,rfl,rfl,q⟩:=h;obtain⟨t,rfl⟩:=rx;obtain⟨t',rfl⟩:=ry;exact rule i j t t' s _ _ ⟨.int (g i j),H,I.tok _,⟨_,rfl⟩,q⟩
theorem En {f:G1->G1->Sem G1}{g:P2->P2->N0}
 (rule: ∀ (i j:P2) (t u:Tok) (s:G3) (Q:G1->G3->Prop) (E:G1->G3->Prop),Q (.bool (g i j)) s->R3 (R7 X.prog X.w) X.A (f (.int i t) (.int j u)) Q E s):
 OpR X f (rI0 λi j=> .bl (g i j)):=by
 intro pins s σ H x y v u Q I rx ry h;obtain⟨i,j,rfl,rfl,q⟩:=h;obtain⟨t,rfl⟩:=rx;obtain⟨t',rfl⟩:=ry;exact rule i j t t' s _ _ ⟨.bl (g i j),H,I,rfl,q⟩
def Eo (i j:P2):Prop:=0<j/\j<1073741824
def TF (i j:P2):Prop:=0<=j/\j<=1000000/\i.natAbs<2^64
def CMul (i j:P2):Prop:=(-(2^64)<i/\i<2^64)\/(-(2^64)<j/\j<2^64)
theorem CMul.ok {i j:P2}(h:CMul i j):IntMulOk i j:=by
 rcases h with ⟨h1,h2⟩|⟨h1,h2⟩
 ·exact .of_left (uG h1 h2)
 ·exact .of_right (uG h1 h2)
theorem op_add:OpR X (K8 .Add) (rI0 λi j=> .int (i+j)):=TD λ_ _ _ _ _ _ _ q=>add_int q
theorem LK:OpR X (K8 .Sub) (rI0 λi j=> .int (i-j)):=TD λ_ _ _ _ _ _ _ q=>sub_int q
theorem op_mul:OpR X (K8 .Mult) (rI CMul λi j=> .int (i*j)):=opI λ_ _ _ _ _ _ _ hc q=>mul_int q hc.ok
theorem Bv:OpR X (K8 .FloorDiv) (rI Eo λi j=> .int (i / j)):=opI λi j _ _ _ _ _ hc q=>by
 have h1:(0:P2)<j:=hc.1;have h2:j<1073741824:=hc.2;exact floordiv_int (by omega) (by rw [iV i (by omega)];exact q) (.inl (PyProof.noPylong_small (by omega)))
theorem LL:OpR X (K8 .Mod) (rI (λ_ j=>0<j) λi j=> .int (i%j)):=opI λi j _ _ _ _ _ hc q=>by
 have h1:(0:P2)<j:=hc;exact mod_int' (by omega) (by rw [iW i (by omega)];exact q)
theorem LM:OpR X (K8 .Pow) (rI TF λi j=> .int (i^j.toNat)):=opI λ_ _ _ _ _ _ _ hc q=>pow_int_small hc.1 hc.2.1 hc.2.2 q
theorem unI {f:G1->Sem G1}{g:P2->P2}
 (rule: ∀ (i:P2) (t:Tok) (s:G3) (Q:G1->G3->Prop) (E:G1->G3->Prop),Q (.int (g i) s.toks) {s with toks:=s.toks+1}->R3 (R7 X.prog X.w) X.A (f (.int i t)) Q E s):
 UnR X f (rU λi=> .int (g i)):=by
 intro pins s σ H x v Q I rx h;obtain⟨i,rfl,q⟩:=h;obtain⟨t,rfl⟩:=rx;exact rule i t s _ _ ⟨.int (g i),H,I.tok _,⟨_,rfl⟩,q⟩
theorem LP:UnR X (unaryOp .USub) (rU λi=> .int (-i)):=unI λ_ _ _ _ _ q=>neg_int q
end
def TH:V->V->N0
 | .non,.non=>true| .non,.int _=>true| .int _,.non=>true| .non,.bl _=>true| .bl _,.non=>true| .non,.str _=>true| .str _,.non=>true
 | .int _,.int _=>true| .bl _,.bl _=>true| .str _,.str _=>true| .byt _,.byt _=>true
 | .int _,.str _=>true| .str _,.int _=>true| .bl _,.str _=>true| .str _,.bl _=>true
 |_,_=>false
def rEq:R2:=λx y H Q=>TH x y=true/\Q (.bl (decide (x=y))) H
def rNe:R2:=λx y H Q=>TH x y=true/\Q (.bl (!decide (x=y))) H
theorem Gi {i j:P2}:decide (V.int i=V.int j)=(i==j):=by
 rw [Z7];simp
theorem Nt {i j:N0}:decide (V.bl i=V.bl j)=(i==j):=by
 rw [Z7];simp
theorem Gj {i j:Str}:decide (V.str i=V.str j)=(i==j):=by
 rw [Z7];simp
theorem Gk {i j:S9 UInt8}:decide (V.byt i=V.byt j)=(i.toList==j.toList):=by
 rw [Z7];cases i;cases j;simp
section
variable {X:Cx}{a b c:M9}{ta tb tc:TE}{pos:Pos}
theorem jK {pins:G0 (P3×Obj)}{σ:St}{H:Hp}{s:G3}{Q:VK}{k k':N0}(I:Inv X pins σ H s)(q:Q (.bl k) H)(e:k=k'):EP X pins σ Q (.bool k') s:=by
 subst e;exact⟨.bl k,H,I,rfl,q⟩
theorem op_eq:OpR X (L0 .Eq) rEq:=by
 intro pins s σ H x y v u Q I rx ry h;obtain⟨hs,q⟩:=h;cases x with
 |non=>
  cases rx;cases y with
  |non=>cases ry;exact PySem.EqNone.eq_none_none (jK I q (by simp))
  |bl j=>cases ry;exact PySem.EqNone.eq_none_bool (jK I q (by simp))
  |int j=>obtain⟨t',rfl⟩:=ry;exact PySem.EqNone.eq_none_int (jK I q (by simp))
  |str j=>obtain⟨t',rfl⟩:=ry;exact PySem.EqNone.eq_none_str (jK I q (by simp))
  |_=>exact absurd (show false=true from hs) D6
 |bl i=>
  cases rx;cases y with
  |non=>cases ry;exact PySem.EqNone.eq_bool_none (jK I q (by simp))
  |bl j=>cases ry;exact eq_bool (jK I q Nt)
  |str j=>obtain⟨t',rfl⟩:=ry;exact PySem.EqMixed.eq_bool_str (jK I q (by simp))
  |_=>exact absurd (show false=true from hs) D6
 |int i=>
  obtain⟨t,rfl⟩:=rx;cases y with
  |non=>cases ry;exact PySem.EqNone.eq_int_none (jK I q (by simp))
  |int j=>obtain⟨t',rfl⟩:=ry;exact eq_int (jK I q Gi)
  |str j=>obtain⟨t',rfl⟩:=ry;exact PySem.EqMixed.eq_int_str (jK I q (by simp))
  |_=>exact absurd (show false=true from hs) D6
 |str i=>
  obtain⟨t,rfl⟩:=rx;cases y with
  |non=>cases ry;exact PySem.EqNone.eq_str_none (jK I q (by simp))
  |bl j=>cases ry;exact PySem.EqMixed.eq_str_bool (jK I q (by simp))
  |int j=>obtain⟨t',rfl⟩:=ry;exact PySem.EqMixed.eq_str_int (jK I q (by simp))
  |str j=>obtain⟨t',rfl⟩:=ry;exact eq_str (jK I q Gj)
  |_=>exact absurd (show false=true from hs) D6
 |byt i=>
  obtain⟨t,rfl⟩:=rx;cases y with
  |byt j=>obtain⟨t',rfl⟩:=ry;exact KN (jK I q Gk)
  |_=>exact absurd (show false=true from hs) D6
 |_=>cases y<;>exact absurd (show false=true from hs) D6
theorem op_ne:OpR X (L0 .NotEq) rNe:=by
 intro pins s σ H x y v u Q I rx ry h;obtain⟨hs,q⟩:=h;cases x with
 |non=>
  cases rx;cases y with
  |non=>cases ry;exact PySem.EqNone.ne_none_none (jK I q (by simp))
  |bl j=>cases ry;exact PySem.EqNone.ne_none_bool (jK I q (by simp))
  |int j=>obtain⟨t',rfl⟩:=ry;exact PySem.EqNone.ne_none_int (jK I q (by simp))
  |str j=>obtain⟨t',rfl⟩:=ry;exact PySem.EqNone.ne_none_str (jK I q (by simp))
  |_=>exact absurd (show false=true from hs) D6
 |bl i=>
  cases rx;cases y with
  |non=>cases ry;exact PySem.EqNone.ne_bool_none (jK I q (by simp))
  |bl j=>cases ry;exact ne_bool (jK I q (congrArg not Nt))
  |str j=>obtain⟨t',rfl⟩:=ry;exact PySem.EqMixed.ne_bool_str (jK I q (by simp))
  |_=>exact absurd (show false=true from hs) D6
 |int i=>
  obtain⟨t,rfl⟩:=rx;cases y with
  |non=>cases ry;exact PySem.EqNone.ne_int_none (jK I q (by simp))
  |int j=>obtain⟨t',rfl⟩:=ry;exact ne_int (jK I q (congrArg not Gi))
  |str j=>obtain⟨t',rfl⟩:=ry;exact PySem.EqMixed.ne_int_str (jK I q (by simp))
  |_=>exact absurd (show false=true from hs) D6
 |str i=>
  obtain⟨t,rfl⟩:=rx;cases y with
  |non=>cases ry;exact PySem.EqNone.ne_str_none (jK I q (by simp))
  |bl j=>cases ry;exact PySem.EqMixed.ne_str_bool (jK I q (by simp))
  |int j=>obtain⟨t',rfl⟩:=ry;exact PySem.EqMixed.ne_str_int (jK I q (by simp))
  |str j=>obtain⟨t',rfl⟩:=ry;exact ne_str (jK I q (congrArg not Gj))
  |_=>exact absurd (show false=true from hs) D6
 |byt i=>
  obtain⟨t,rfl⟩:=rx;cases y with
  |byt j=>obtain⟨t',rfl⟩:=ry;exact KO (jK I q (congrArg not Gk))
  |_=>exact absurd (show false=true from hs) D6
 |_=>cases y<;>exact absurd (show false=true from hs) D6
theorem EI:OpR X (L0 .Lt) (rI0 λi j=> .bl (decide (i<j))):=En λ_ _ _ _ _ _ _ q=>lt_int q
theorem EJ:OpR X (L0 .LtE) (rI0 λi j=> .bl (decide (i<=j))):=En λ_ _ _ _ _ _ _ q=>le_int q
theorem EL:OpR X (L0 .Gt) (rI0 λi j=> .bl (decide (j<i))):=En λ_ _ _ _ _ _ _ q=>gt_int q
theorem EM:OpR X (L0 .GtE) (rI0 λi j=> .bl (decide (j<=i))):=En λ_ _ _ _ _ _ _ q=>ge_int q
variable {r:R2}
theorem OpR.or {f:G1->G1->Sem G1}{r':R2}(h:OpR X f r)(h':OpR X f r'):OpR X f (λx y H Q=>r x y H Q\/r' x y H Q):=by
 intro pins s σ H x y v u Q I rx ry q;rcases q with q|q
 ·exact h pins s σ H x y v u Q I rx ry q
 ·exact h' pins s σ H x y v u Q I rx ry q
theorem Nu (b:M9){op:nQ}(h:op≠ .In:=by decide)(h2:op≠ .NotIn:=by decide):Y2 op b=false:=by
 have e1:(op==CmpOp.In)=false:=by cases op<;>first|rfl|exact absurd rfl h
 have e2:(op==CmpOp.NotIn)=false:=by cases op<;>first|rfl|exact absurd rfl h2
 cases b<;>simp [Y2,e1,e2]
theorem Bw {op:nQ}(ho:OpR X (L0 op) r)(ha:PE X a ta)(hb:PE X b tb)(hm:Y2 op b=false):PE X (.Compare a [op] [b] pos) (tOp r ta tb):=by
 intro pins s σ H Q I h;exact wpAny_Compare1 (EF ha hb I h λv u s2 x y H2 I2 rx ry q=>ho pins s2 σ H2 x y v u Q I2 rx ry q) hm
def Bx (t:TE):TT:=λσ H Q=>t σ H λx H'=> ∃k,x= .bl k/\Q k H'
theorem By {op:nQ}(ho:OpR X (L0 op) r)(ha:PE X a ta)(hb:PE X b tb)(hm:Y2 op b=false):PT X (.Compare a [op] [b] pos) (Bx (tOp r ta tb)):=by
 intro pins s σ H Q I h;refine wpAny_isTrue_Compare1 (thn (ha pins s σ H _ I h) λv s1 ⟨x,H1,I1,r1,q1⟩=>thn (hb pins s1 σ H1 _ I1 q1) λu s2 ⟨y,H2,I2,r2,q2⟩=>
  thn (ho pins s2 σ H2 x y v u _ I2 r1 r2 q2) λc s3 ⟨z,H3,I3,r3,k,e,q3⟩=> ?_) hm
 subst e;cases r3;exact K4 ⟨H3,I3,q3⟩
def Nv (r r':R2)(ta tb tc:TE):TE:=λσ H Q=>ta σ H λx H1=>tb σ H1 λy H2=>r x y H2 λz H3=> ∃k,z= .bl k/\
 (if k=true then tc σ H3 λw' H4=>r' y w' H4 Q else Q (.bl false) H3)
theorem RE {op op':nQ}{r':R2}(ho:OpR X (L0 op) r)(ho':OpR X (L0 op') r')(ha:PE X a ta)(hb:PE X b tb)(hc:PE X c tc)
 (hm:v9 [op,op'] [b,c]=false:=by with_unfolding_all rfl):PT X (.Compare a [op,op'] [b,c] pos) (Bx (Nv r r' ta tb tc)):=by
 intro pins s σ H Q I h;refine isTrue_chain (thn (ha pins s σ H _ I h) λv s1 ⟨x,H1,I1,r1,q1⟩=>test_link (thn (hb pins s1 σ H1 _ I1 q1) λu s2 ⟨y,H2,I2,r2,q2⟩=>
  thn (ho pins s2 σ H2 x y v u _ I2 r1 r2 q2) λd s3 ⟨z,H3,I3,r3,k,e,q3⟩=> ?_)) hm
 subst e;cases r3;refine K4 ?_;cases k with
 |false=>
  obtain⟨k',e',q'⟩:=q3;cases e';exact ite_ff ⟨H3,I3,q'⟩
 |true=>
  refine ite_tt (test_last (thn (hc pins s3 σ H3 _ I3 q3) λw' s4 ⟨z',H4,I4,r4,q4⟩=>thn (ho' pins s4 σ H4 y z' u w' _ I4 r2 r4 q4) λd' s5 ⟨z2,H5,I5,r5,k2,e2,q5⟩=> ?_));subst e2;cases r5;exact K4 ⟨H5,I5,q5⟩
theorem YG:(sizeLine:G6)<2^63:=by rw [rP];decide
theorem JY {x:V}{us:G0 G1}(r:Vals [x] us): ∃u,us= [u]/\RelV x u:=by
 cases r with
 |cons r1 r2=>cases r2;exact⟨_,rfl,r1⟩
theorem RF {x y:V}{us:G0 G1}(r:Vals [x,y] us): ∃u w',us= [u,w']/\RelV x u/\RelV y w':=by
 cases r with
 |cons r1 r2=>
  cases r2 with
  |cons r3 r4=>cases r4;exact⟨_,_,rfl,r1,r3⟩
theorem Gm (hc:X.calm=true):CallR X (.builtin "max") (λxs H Q=> ∃i j,xs= [.int i,.int j]/\Q (.int (if j>i then j else i)) H):=by
 intro pins s σ H xs us Q I r h;obtain⟨i,j,rfl,q⟩:=h;obtain⟨u,w',rfl,⟨t,rfl⟩,⟨t',rfl⟩⟩:=RF r;refine max_two_ints (I.ok.hd hc) λh' tk k=>⟨_,H,I.kept k,?_,q⟩
 by_cases hj:j>i
 ·rw [R8 hj,R8 hj];exact⟨_,rfl⟩
 ·rw [R9 hj,R9 hj];exact⟨_,rfl⟩
theorem call_int1:CallR X (.type "int") (λxs H Q=>(∃i,xs= [.int i]/\Q (.int i) H)\/ ∃k,xs= [.bl k]/\Q (.int (if k then 1 else 0)) H):=by
 intro pins s σ H xs us Q I r h;rcases h with ⟨i,rfl,q⟩|⟨k,rfl,q⟩
 ·obtain⟨u,rfl,t,rfl⟩:=JY r;exact call_int_int ⟨.int i,H,I,⟨_,rfl⟩,q⟩
 ·obtain⟨u,rfl,r1⟩:=JY r;cases r1;exact call_int_bool ⟨.int (if k then 1 else 0),H,I.tok _,⟨_,rfl⟩,q⟩
theorem call_divmod:CallR X (.builtin "divmod") (λxs H Q=> ∃i j,xs= [.int i,.int j]/\Eo i j/\ ∀p,H p=none->Q (.ref p) (upd H p (.tup [.int (i / j),.int (i%j)]))):=by
 intro pins s σ H xs us Q I r h;obtain⟨i,j,rfl,⟨h1,h2⟩,q⟩:=h;obtain⟨u,w',rfl,⟨t,rfl⟩,⟨t',rfl⟩⟩:=RF r;refine divmod_int (by omega) ?_ (.inl (PyProof.noPylong_small (by omega)));rw [iV i (by omega),iW i (by omega)];have hn:H s.heap.objs.size=none:=I.hok.fresh (P6 _);refine⟨.ref s.heap.objs.size,_,?_,rfl,q _ hn⟩;refine I.laid (λb o e=>G9 _ e) (P6 _) ⟨by simp only [D9,L5];rw [rP];decide,[.int (i / j) s.toks,.int (i%j) (s.toks+1)],.cons ⟨_,rfl⟩ (.cons ⟨_,rfl⟩ .nil),?_⟩;exact⟨_,S5 s.heap rfl,rfl,rfl,0,rfl⟩
end
structure ObjM (h:O6)(x dx C:P3)(mA:Str->D2 G1):Prop where
 obj:h.get? x=some (mW C dx)
 ns:h.Ns1 dx mA
 ne:dx≠x
theorem Gn {dx:P3}{mA:Str->D2 G1}(n:h.Ns1 dx mA): ∃od,h.get? dx=some od/\ ∀name,nU name od=some (mA name):=by
 obtain⟨o,es,ep,ho,hd,hk,_,hm⟩:=n;refine⟨o,ho,λname=> ?_⟩;have e:=hm name;unfold nsFind findBy at e;rw [<-Array.find?_toList] at e;unfold nU;rw [hd];dsimp only;split
 ·rename_i y q;rw [q] at e;exact congrArg some e
 ·rename_i q;rw [q] at e;have a:es.toList.any (·.refKey)=false:=by
   rw [List.any_eq_false];intro y hy;obtain⟨z,t,hkey⟩:=hk y (nV.mp hy);simp [DictEntry.refKey,hkey]
  have a': ¬es.toList.any (·.refKey)=true:=by rw [a];exact D6
  rw [R9 a'];exact congrArg some e
theorem ObjM.look {x dx C:P3}{mA:Str->D2 G1}(I:ObjM h x dx C mA): ∃od,G0e h x (mW C dx) C (some od)/\ ∀name,nU name od=some (mA name):=
 let ⟨od,ho,hl⟩:=Gn I.ns
 ⟨od,⟨I.obj,rfl,rfl,ho⟩,hl⟩
section
variable {P:T3}{w:B9}{H H':Hp}{h h':O6}{a C dx:P3}{fs fs':G0 (Str×V)}
theorem Bz (hok:HOk P w H h)(e:H a=some (.ins C dx fs)): ∃mA,ObjM h a dx C mA/\(∀f,Ez (fs.lookup f) (mA f))/\xB mA (fs.map (·.1))/\fs.length<=1000/\H dx=some (.own a):=by
 obtain⟨d,z,ne,ob,mA,n,r,q⟩:=(show ObjOk P w H h a (.ins C dx fs) from hok a _ e);exact⟨mA,⟨ob,n,ne⟩,r,q,z,d⟩
end
structure Cls (K:G7)(C:P3):Prop where
 pg:rA K C w6=true
 hd:KC K C=true
 po:KF K C=true
 sa:tF K (.ref C) "__setattr__" =some (some (.builtin "object.__setattr__"))
theorem Cls.get {C:P3}(c:Cls K C)(f:Str):rA K C f=true:=c.pg
section
variable {X:Cx}{pins:G0 (P3×Obj)}{σ:St}{H:Hp}{s:G3}{A:N6}{E:G1->G3->Prop}{Q:G1->G3->Prop}{c:G1}{b:N0}
inductive TyOf (K:G7)(H:Hp):V->G1->Prop where
 |non:TyOf K H .non (.type "NoneType")
 |bl (x:N0):TyOf K H (.bl x) (.type "bool")
 |int (i:P2):TyOf K H (.int i) (.type "int")
 |str (x:Str):TyOf K H (.str x) (.type "str")
 |flt (x:UInt64):TyOf K H (.flt x) (.type "float")
 |lst {a:P3} {xs:G0 V} (e:H a=some (.lst xs)):TyOf K H (.ref a) (.type "list")
 |frz {a:P3} {o:Obj} {xs:G0 V} (e:H a=some (.frz o (.lst xs))):TyOf K H (.ref a) (.type "list")
 |tup {a:P3} {xs:G0 V} (e:H a=some (.tup xs)):TyOf K H (.ref a) (.type "tuple")
 |dK {a:P3} {kvs:G0 (Key×V)} (e:H a=some (.dK kvs)):TyOf K H (.ref a) (.type "dict")
 |dT {a:P3} {kvs:G0 (G0 Key×V)} (e:H a=some (.dT kvs)):TyOf K H (.ref a) (.type "dict")
 |ins {a C dx:P3} {fs:G0 (Str×V)} (e:H a=some (.ins C dx fs)) (cl:Cls K C) (ha:tF K (.ref C) "__class__" =some (some (.builtin "object.__class__")))
  (hn:KG K (.builtin "object.__class__") "__get__" =some (some (.builtin "getset_descriptor.__get__"))) (htk:G0a K (.builtin "object.__class__")=some true)
  (hm:G0o K C (.type "object")=some true):TyOf K H (.ref a) (.ref C)
theorem Go {x:V}{u t:G1}(I:Inv X pins σ H s)(rx:RelV x u)(ty:TyOf X.K H x t)(e:nX X.K t c=some b)(h: ∀tk,Q (.bool b) {s with toks:=tk}):
 R3 (R7 X.prog X.w) A (call (.builtin "isinstance") [u,c]) Q E s:=by
 cases ty with
 |non=>cases (show u=iT from rx);exact K9 KH I.kIn cT e (λz=>nomatch z) h
 |bl y=>cases (show u=pE y from rx);exact K9 KI I.kIn cT e (λz=>nomatch z) h
 |int i=>obtain⟨t,q⟩:=(show ∃t,u=iR i t from rx);cases q;exact K9 KP I.kIn cT e (λz=>nomatch z) h
 |str y=>obtain⟨t,q⟩:=(show ∃t,u=oP y t from rx);cases q;exact K9 KQ I.kIn cT e (λz=>nomatch z) h
 |flt y=>obtain⟨t,q⟩:=(show ∃t,u=xM y t from rx);cases q;exact K9 II I.kIn cT e (λz=>nomatch z) h
 | @lst a xs ea=>
  cases (show u=U0 a from rx);obtain⟨_,_,n,_,h1⟩:=(show ObjOk X.prog X.w H s.heap a (.lst xs) from I.hok a _ ea);exact K9 pZ I.kIn ⟨_,h1,rfl⟩ e (λz=>nomatch z) h
 | @frz a ob xs ea=>
  cases (show u=U0 a from rx);obtain⟨_,_,_,n,_,h1⟩:=(show ObjOk X.prog X.w H s.heap a (.frz ob (.lst xs)) from I.hok a _ ea);exact K9 pZ I.kIn ⟨_,h1,rfl⟩ e (λz=>nomatch z) h
 | @tup a xs ea=>
  cases (show u=U0 a from rx);obtain⟨_,_,_,p⟩:=(show ObjOk X.prog X.w H s.heap a (.tup xs) from I.hok a _ ea);obtain⟨o,h1,h2,_⟩:=p;exact K9 IJ I.kIn ⟨o,h1,h2⟩ e (λz=>nomatch z) h
 | @dK a kvs ea=>
  cases (show u=U0 a from rx);obtain⟨_,_,vs,_,p⟩:=(show ObjOk X.prog X.w H s.heap a (.dK kvs) from I.hok a _ ea);obtain⟨o,es,ep,h1,h2,_⟩:=p;exact K9 p0 I.kIn ⟨o,h1,h2.1⟩ e (λz=>nomatch z) h
 | @dT a kvs ea=>
  cases (show u=U0 a from rx);obtain⟨_,_,xs,_,o,es,ep,h1,h2,_⟩:=(show ObjOk X.prog X.w H s.heap a (.dT kvs) from I.hok a _ ea);exact K9 p0 I.kIn ⟨o,h1,h2.1⟩ e (λz=>nomatch z) h
 | @ins a C dx fs ea cl ha hn htk hm=>
  cases (show u=U0 a from rx);obtain⟨mA,O,_⟩:=Bz I.hok ea;obtain⟨od,J,_⟩:=O.look;exact K9 (KR (cl.get _) cl.hd ha hn htk hm) I.kIn J e (λz=>nomatch z) h
end
structure Room (k:G6)(A:N6):Prop where
 hd:A.handled=none
 dp:A.depth+3*k+5<recursionLimit
 un:A.units+16*k+200<cLine
 gd:A.guards=some []
variable {k:G6}
theorem Room.deeper (r:Room (k+1) A)(env:Env):Room k (A.deeper env):=
 ⟨r.hd,by have:=r.dp;show A.depth+1+3*k+5<_;omega,by have:=r.un;show A.units+3+16*k+200<_;omega,r.gd⟩
theorem Room.depth (r:Room k A):A.depth<recursionLimit:=by have:=r.dp;omega
theorem Room.units (r:Room k A):A.units+64<cLine:=by have:=r.un;omega
def TJ:TA:=λ_ H Q=>Q [] H
def LQ (ta:TE)(tr:TA):TA:=λσ H Q=>ta σ H λx H1=>tr σ H1 λxs H2=>Q (x::xs) H2
section
variable {X:Cx}{e:M9}{es:G0 M9}{te:TE}{t:TA}{pos:Pos}
theorem pa_nil:PA X [] TJ:=λ_ _ _ _ H Q I h=>Calls.spliced_nil ⟨[],H,I,.nil,h⟩
theorem wS (ha:PE X e te)(hr:PA X es t)(hs:S1 (e::es) X.env=(false,J7 e X.env)::S1 es X.env:=by rfl):PA X (e::es) (LQ te t):=by
 intro pos pins s σ H Q I h;rw [hs];show R3 _ _ (spliced ((false,J7 e X.env)::U6 pos (S1 es X.env))) _ _ s;refine Calls.spliced_cons (thn (ha pins s σ H _ I h) λu s1 ⟨x,H1,I1,r1,q1⟩=> ?_);exact thn (hr pos pins s1 σ H1 _ I1 q1) λus s2 ⟨xs,H2,I2,r2,q2⟩=>⟨x::xs,H2,I2,.cons r1 r2,q2⟩
def TK (t:TA):TE:=λσ H Q=>t σ H λxs H1=>xs.length<=sizeLine/\ ∀p,H1 p=none->Q (.ref p) (upd H1 p (.tup xs))
def TL (t:TA):TE:=λσ H Q=>t σ H λxs H1=>xs.length<=sizeLine/\ ∀p,H1 p=none->Q (.ref p) (upd H1 p (.lst xs))
theorem LU {x1}(h:PA X es t):PE X (.Tuple es x1 pos) (TK t):=by
 intro pins s σ H Q I hq;refine wpAny_Tuple_spliced (thn (h pos pins s σ H _ I hq) λus s1 ⟨xs,H1,I1,r,z,q⟩=>⟨by rw [<-r.length];exact z,?_⟩);have hf:H1 s1.heap.objs.size=none:=I1.hok.fresh (P6 _);refine⟨.ref s1.heap.objs.size,upd H1 s1.heap.objs.size (.tup xs),I1.laid (t':=s1.toks) (λb u e=>G9 _ e) (P6 _) ?_,rfl,q _ hf⟩;exact⟨z,us,r,IsTupN.new _ _⟩
theorem LV (h:PA X es t):PE X (.List es pos) (TL t):=by
 intro pins s σ H Q I hq;refine wpAny_List_spliced (thn (h pos pins s σ H _ I hq) λus s1 ⟨xs,H1,I1,r,z,q⟩=>⟨by rw [<-r.length];exact z,?_⟩);have hf:H1 s1.heap.objs.size=none:=I1.hok.fresh (P6 _);refine⟨.ref s1.heap.objs.size,upd H1 s1.heap.objs.size (.lst xs),I1.laid (t':=s1.toks) (λb u e=>G9 _ e) (P6 _) ?_,rfl,q _ hf⟩;exact⟨z,us,0,r,S5 _ rfl⟩
end
abbrev Sp:=G0 V->Hp->VK->XK->Prop
abbrev CXT:=G0 Env->Hp->G3->XK->G1->G3->Prop
structure Env0 (P:T3)(w:B9)(K:G7)(mg:Str->D2 G1)(base:O6)(A:N6)(outer:G0 Env)(s:G3)(H:Hp):Prop where
 frames:A.frames=some outer
 mod:Mod K mg base
 bs: ∀b o,base.get? b=some o->s.heap.get? b=some o/\H b=none
 bsz:base.objs.size<=s.heap.objs.size
 funs:s.heap.FunFrames base outer
 frf: ∀b∈frs outer,H b=none
 hok:HOk P w H s.heap
 bare:kU s.gens
def CE (outer:G0 Env)(P:T3)(w:B9)(H:Hp)(s:G3)(Q:VK)(u:G1)(s':G3):Prop:=
 ∃v H',s'.os=s.os/\kU s'.gens/\Un (frs outer) [] H H' s.heap s'.heap/\HOk P w H' s'.heap/\RelV v u/\Q v H'
def CR (CX:CXT)(outer:G0 Env)(P:T3)(w:B9)(H:Hp)(s:G3)(Q:VK)(E:XK)(r:pI)(s':G3):Prop:=
 match r with
 | .ok (.ret u)=>CE outer P w H s Q u s'
 | .ok _=>False
 | .error e=>CX outer H s E e s'
structure FnOk (P:T3)(w:B9)(K:G7)(mg:Str->D2 G1)(base:O6)(CX:CXT)(k:G6)(f:P3)(fd:C8)(ps:G0 Str)(sp:Sp):Prop where
 len: ∀vs H Q E,sp vs H Q E->vs.length=ps.length
 run: ∀ (A:N6) (outer:G0 Env) (s:G3) (H:Hp) (args:Args) (us:G0 G1) (vs:G0 V) (Q:VK) (E:XK),Room k A->Env0 P w K mg base A outer s H->sS s fd args (ps.zip us)->Vals vs us->sp vs H Q E->
  aZ (R7 P w) A (.call (.ref f) args) (CR CX outer P w H s Q E) s
section
variable {X:Cx}{pins:G0 (P3×Obj)}{σ:St}{H:Hp}{s s':G3}
theorem Inv.env0 (I:Inv X pins σ H s):Env0 X.prog X.w X.K X.mg X.base X.A X.stack s H:=
 ⟨I.ok.frames,I.ok.mod,I.bs,S0 I.ok.bsz I.sz,I.stack,I.stkFree,I.hok,I.bare⟩
theorem Inv.after {Q:VK}{u:G1}(I:Inv X pins σ H s)(h:CE X.stack X.prog X.w H s Q u s'):EP X pins σ Q u s':=by
 obtain⟨v,H',os,bare,un,hok,r,q⟩:=h;obtain⟨hh,g,d,t,os'⟩:=s';obtain rfl:os'=s.os:=os;exact⟨v,H',I.call (h':=hh) (g':=g) (d':=d) (t':=t) (ch:= []) un hok bare (λb z=>absurd z (by simp)),r,q⟩
end
def LW (sp:Sp)(dvs:G0 V)(E:XK)(t:TA):TE:=λσ H Q=>t σ H λvs H1=>sp (vs++dvs) H1 Q E
def Binds (K:G7)(fd:C8)(ps:G0 Str)(ds:G0 G1):Prop:=
 ∀ (s:G3) (us:G0 G1),K.In s.heap->(us++ds).length=ps.length->sS s fd ⟨us,[]⟩ (ps.zip (us++ds))
theorem Binds.all {fd:C8}{ps:G0 Str}(h: ∀us:G0 G1,us.length=ps.length->xS fd ⟨us,[]⟩=pure (ps.zip us)):Binds K fd ps []:=λs us _ hl=>by
 rw [E7] at hl ⊢;exact .of_eq (h us hl)
def Gp (CX:CXT)(X:Cx)(E:XK):Prop:= ∀ (pins:G0 (P3×Obj)) (σ:St) (H:Hp) (s:G3) (e:G1) (s':G3),Inv X pins σ H s->CX X.stack H s E e s'->X.xe e s'
section
variable {X:Cx}{CX:CXT}{k:G6}{f C:P3}{fd:C8}{ps:G0 Str}{sp:Sp}{dvs:G0 V}{ds:G0 G1}{E:XK}{x m:Str}{p pos apos:Pos}{e o:M9}{es:G0 M9}{ta:TE}{t:TA}
theorem LX {pins:G0 (P3×Obj)}{σ:St}{H:Hp}{s:G3}{Q:VK}{us:G0 G1}{vs:G0 V}(F:FnOk X.prog X.w X.K X.mg X.base CX k f fd ps sp)(hr:Room k X.A)(hb:Binds X.K fd ps ds)(hd:Vals dvs ds)(hx:Gp CX X E)
 (I:Inv X pins σ H s)(r:Vals vs us)(h:sp (vs++dvs) H Q E):R3 (R7 X.prog X.w) X.A (call (.ref f) us) (EP X pins σ Q) X.xe s:=by
 have r2:Vals (vs++dvs) (us++ds):=r.append hd;have hl:(us++ds).length=ps.length:=by rw [<-r2.length];exact F.len _ _ _ _ h
 refine pJ (mG (F.run X.A X.stack s H ⟨us,[]⟩ (us++ds) (vs++dvs) Q E hr I.env0 (hb s us I.kIn hl) r2 h) λr s' hq=> ?_);cases r with
 |error e=>exact hx pins σ H s e s' I hq
 |ok fl=>
  cases fl with
  |ret u=>exact I.after hq
  |next=>exact False.elim hq
  |brk=>exact False.elim hq
  |cont=>exact False.elim hq
theorem BA (F:FnOk X.prog X.w X.K X.mg X.base CX k f fd ps sp)(hr:Room k X.A)(hg:Gl X x)(hm:X.mg x=some (.ref f))(hk:bP X.K (.ref f)=true)(hb:Binds X.K fd ps ds)(hd:Vals dvs ds)(hx:Gp CX X E)
 (ha:PA X (e::es) t)(hdb:(x==("__debug__" :Str))=false:=by decide)(he:S1 (e::es) X.env=(false,J7 e X.env)::S1 es X.env:=by rfl)(hpl:(U6 pos (S1 es X.env)).any (·.1)=false:=by rfl):
 PE X (.Call (.Name x p) (e::es) [] pos) (LW sp dvs E t):=by
 intro pins s σ H Q I h;refine iY (Gf I hg hm ?_ hdb);refine IK (h₀:=X.base) I.ok.mod.kin hk (thn (ha pos pins s σ H _ I h) λus s1 ⟨vs,H1,I1,r,q⟩=>⟨I1.kIn,?_⟩) he hpl;exact LX F hr hb hd hx I1 r q
end
structure FnScope (N P:G0 Str)(sc:W9):Prop where
 kind:sc.kind= .function
 co:sc.isCoroutine=false
 gen:sc.isGenerator=false
 nd:N.Nodup
 pre:N.take P.length=P
 par: ∀x∈P,sc.names.lookup x=some .local\/sc.names.lookup x=some .cell
 nofree: ∀y∈sc.names,y.2≠ .free
variable {kindOf:Str->D2 NameKind}{x:Str}
theorem YH: ∀ {binds:G0 (Str×G1)} {m:Str->D2 G1},(∀v,(x,v) ∉ binds)->tG kindOf binds m x=m x
 | [],_,_=>rfl
 |(n,v)::r,m,h=>by
  unfold tG;rw [YH λw hw=>h w (R1 _ hw)];split
  ·have:x≠n:=by rintro rfl;exact h v P4
   simp [this]
  ·rfl
theorem YI: ∀ {binds:G0 (Str×G1)} {m:Str->D2 G1},(∀v,(x,v) ∉ binds)->tH kindOf binds m x=m x
 | [],_,_=>rfl
 |(n,v)::r,m,h=>by
  unfold tH;rw [YI λw hw=>h w (R1 _ hw)];split
  ·rfl
  ·have:x≠n:=by rintro rfl;exact h v P4
   simp [this]
theorem YJ {v:G1}: ∀ {P:G0 Str} {vs:G0 G1} {i:G6} {m:Str->D2 G1},P.Nodup->P[i]? =some x->vs[i]? =some v->kindOf x=some .local->
 tG kindOf (P.zip vs) m x=some v
 | [],_,_,_,_,h,_,_=>by simp at h
 |_::_,[],_,_,_,_,h,_=>by simp at h
 |p::P,w::vs,0,m,nd,h1,h2,hk=>by
  simp at h1 h2;subst h1;subst h2;show tG kindOf ((p,w)::P.zip vs) m p=_;unfold tG;rw [YH λv hv=>(E8.mp nd).1 (mX hv).1,R8 hk];simp
 |p::P,w::vs,i+1,m,nd,h1,h2,hk=>by
  show tG kindOf ((p,w)::P.zip vs) m x=_;unfold tG;exact YJ (i:=i) (E8.mp nd).2 (by simpa using h1) (by simpa using h2) hk
theorem YK {v:G1}: ∀ {P:G0 Str} {vs:G0 G1} {i:G6} {m:Str->D2 G1},P.Nodup->P[i]? =some x->vs[i]? =some v->kindOf x≠some .local->
 tH kindOf (P.zip vs) m x=some v
 | [],_,_,_,_,h,_,_=>by simp at h
 |_::_,[],_,_,_,_,h,_=>by simp at h
 |p::P,w::vs,0,m,nd,h1,h2,hk=>by
  simp at h1 h2;subst h1;subst h2;show tH kindOf ((p,w)::P.zip vs) m p=_;unfold tH;rw [YI λv hv=>(E8.mp nd).1 (mX hv).1,R9 hk];simp
 |p::P,w::vs,i+1,m,nd,h1,h2,hk=>by
  show tH kindOf ((p,w)::P.zip vs) m x=_;unfold tH;exact YK (i:=i) (E8.mp nd).2 (by simpa using h1) (by simpa using h2) hk
def start (N:G0 Str)(vs:G0 V):St:=vs.map some++B1 (N.length-vs.length) none
def RG (CX:CXT)(P:T3)(w:B9)(K:G7)(mg:Str->D2 G1)(base:O6)(N:G0 Str)(qual:Str)(scope:W9)(f:P3)(cd:G1)(A:N6)(outer:G0 Env)(s:G3)(H:Hp)(E:XK):Cx where
 prog:=P
 w:=w
 K:=K
 mg:=mg
 base:=base
 A:=A.deeper (iZ qual scope s.heap.objs.size f cd)
 N:=N
 s₀:=s
 H₀:=H
 env:=iZ qual scope s.heap.objs.size f cd
 outer:=outer
 stack:=iZ qual scope s.heap.objs.size f cd::outer
 ex:= []
 calm:=true
 fn:=λ_=>true
 pn:= []
 xe:=λe s'=>R3 (R7 P w) (A.deeper (iZ qual scope s.heap.objs.size f cd)) (leaving (iZ qual scope s.heap.objs.size f cd) e) (λ_ s''=>CX outer H s E e s'') (λe' s''=>CX outer H s E e' s'') s'
theorem vf {sc:W9}{n:G6}(h:sc.names.lookup x=some .cell): ∃c,(W6 n sc.names []).lookup x=some c:=by
 have q:=mH sc.names n [] (.inl h);exact dY.mp q
theorem Gq {CX:CXT}{mg:Str->D2 G1}{base:O6}{N ps:G0 Str}{qual:Str}{scope:W9}{f:P3}{cd:G1}{outer:G0 Env}{s1:G3}{E:XK}{us:G0 G1}{vs:G0 V}
 (S:FnScope N ps scope)(hd:A.handled=none)(e0:Env0 P w K mg base A outer s H)(hl:vs.length=ps.length)(r:Vals vs us)
 (x:InCallC s s.heap.objs.size (tG (iZ qual scope s.heap.objs.size f cd).kindOf (ps.zip us) λ_=>none) (W6 (s.heap.objs.size+1) scope.names []) (tH (iZ qual scope s.heap.objs.size f cd).kindOf (ps.zip us) λ_=>none) s1):
 Inv (RG CX P w K mg base N qual scope f cd A outer s H E) [] (start N vs) H s1:=by
 have hpl:ps.length<=N.length:=by have:=congrArg Y4 S.pre;rw [T4] at this;omega
 obtain⟨h1,tk,rfl,hk⟩:=x.done;have noA: ∀b:P3,b ∉ (RG CX P w K mg base N qual scope f cd A outer s H E).ex:=λb z=>absurd (show b∈([]:G0 P3) from z) (by simp)
 refine⟨⟨e0.mod,S.kind,rfl,rfl,P6 _,λy z c h1 h2=> ?_,λy hy=> ?_,λy c _ h=> ?_,λ_=>hd,Around.frames_deeper e0.frames,.inr ⟨rfl,rfl⟩,λb z=>absurd z (noA b),e0.bs,e0.bsz,λb _ _=>noA b,λb z=>absurd z (noA b),e0.funs,e0.frf⟩,
  rfl,e0.bare,Un.kept hk,⟨_,x.toInCall.ns,λi y v h1 h2 h3=> ?_⟩,λy c h=>⟨_,x.cell y c h⟩,e0.hok.fresh (P6 _),λy c h=> ?_,λp hp=>absurd (show p∈([]:G0 (P3×Obj)) from hp) (by simp),e0.hok.kept hk,?_⟩
 ·exact p4 x.apart (bM h1) (bM h2)
 ·have hy:scope.names.lookup y=some .cell\/scope.names.lookup y=some .free:=hy;rcases hy with hy|hy
  ·exact vf hy
  ·exact absurd rfl (S.nofree _ (bM hy))
 ·exact M0 (x.above y c (bM h))
 ·have hi:i<vs.length:=by
   unfold start at h2
   by_cases hi:i<vs.length
   ·exact hi
   ·rw [N8 (by simpa using hi)] at h2;rw [lR] at h2;split at h2<;>cases h2
  have ha:vs[i]? =some v:=by
   unfold start at h2;rw [C3 (by simpa using hi),D3] at h2;cases e:vs[i]? with
   |none=>rw [e] at h2;cases h2
   |some a=>rw [e] at h2;cases h2;rfl
  obtain⟨u,hu,rv⟩:=r.get ha;have hp:ps[i]? =some y:=by
   rw [<-S.pre,dZ (by omega)];exact h1
  have ndP:ps.Nodup:=by rw [<-S.pre];exact S.nd.sublist (Q7 _ _)
  refine⟨u,rv,?_⟩;rcases S.par y (P8 hp) with k|k
  ·exact .inl ⟨k,YJ ndP hp hu k⟩
  ·obtain⟨c,e⟩:=vf (n:=s.heap.objs.size+1) k;refine .inr ⟨.inl k,c,e,?_⟩;have q:=x.cell y c e;rw [YK ndP hp hu (by show scope.names.lookup y≠_;rw [k];decide)] at q;exact q
 ·exact e0.hok.fresh (M0 (x.above y c (bM h)))
 ·unfold start;show _=N.length;rw [P1,G5,List.length_replicate];omega
theorem EN {CX:CXT}{mg:Str->D2 G1}{base:O6}{f:P3}{name qual:Str}{params:Arguments}{body:G0 Q2}{scope:W9}{dV kV doc pm cdv ct oc:G1}{an od:D2 P3}{osl:S9 (D2 G1)}{N ps:G0 Str}{sp:Sp}(lk:K.lookup f=some ⟨oc,od,.func (dB name qual params body scope dV kV doc pm an cdv ct),osl⟩)(hcd:nY K cdv qual=true)(S:FnScope N ps scope)
 (len: ∀vs H Q E,sp vs H Q E->vs.length=ps.length)
 (hbody: ∀ (A:N6) (outer:G0 Env) (s:G3) (H:Hp) (vs:G0 V) (Q:VK) (E:XK),Room k (A.deeper (iZ qual scope s.heap.objs.size f cdv))->sp vs H Q E->
  ∃t,PSs (RG CX P w K mg base N qual scope f cdv A outer s H E) body t/\t {nx:=λ_ H'=>Q .non H',rt:=Q} (start N vs) H):
 FnOk P w K mg base CX (k+1) f (dB name qual params body scope dV kV doc pm an cdv ct) ps sp:=by
 refine⟨len,λA outer s H args us vs Q E hr e0 hb r hsp=> ?_⟩;have hl:=len _ _ _ _ hsp;have KX:K.In s.heap:=e0.mod.kin.keeps λb o e=>(e0.bs b o e).1
 have lim:s.heap.NoLimit:=e0.mod.nolimit.keeps λb o e=>(e0.bs b o e).1
 have hkind: ∀y∈ps.zip us,scope.names.lookup y.1=some .local\/(scope.names.lookup y.1=some .cell/\((W6 (s.heap.objs.size+1) scope.names []).lookup y.1).isSome=true):=λ⟨n,v⟩ hy=>by
  rcases S.par n (mX hy).1 with q|q
  ·exact .inl q
  ·exact .inr ⟨q,mH _ _ _ (.inl q)⟩
 refine codeAny_call_function hr.depth (KX _ _ lk) rfl S.co S.gen rfl (IL KX hcd) (hb _ _ _ _ ?_);refine wpAny_newFunctionEnv_cells S.kind hkind λenv he s1 x=> ?_
 subst he;refine⟨lim.keeps x.toInCall.keep,codeAny_func ?_⟩;obtain⟨t,ht,hq⟩:=hbody A outer s H vs Q E (hr.deeper _) hsp;have I:Inv (RG CX P w K mg base N qual scope f cdv A outer s H E) [] (start N vs) H s1:=Gq S hr.hd e0 hl r x;refine T7 (ht [] s1 (start N vs) H _ I hq) (λfl s' hs=> ?_) λe s' hs=>hs
 have fin: ∀ {σ':St} {H':Hp} {v:V} {u:G1},Inv (RG CX P w K mg base N qual scope f cdv A outer s H E) [] σ' H' s'->RelV v u->Q v H'->CE outer P w H s Q u s':=
  λ{σ' H' v u} J rv q=>⟨v,H',J.os,J.bare,J.base,J.hok,rv,q⟩
 cases fl with
 |ret u=>
  obtain⟨v,σ',H',J,rv,q⟩:=hs;exact fin J rv q
 |next=>
  obtain⟨σ',H',J,q⟩:=hs;exact fin (v:=V.non) (u:=iT) J rfl q
 |brk=>
  obtain⟨_,_,_,q⟩:=hs;exact False.elim q
 |cont=>
  obtain⟨_,_,_,q⟩:=hs;exact False.elim q
section
variable {X:Cx}{x:Str}{p pos:Pos}{e:M9}{es:G0 M9}{t:TA}{id T:V1}{r:G0 V->Hp->VK->Prop}
def tCB (r:G0 V->Hp->VK->Prop)(t:TA):TE:=λσ H Q=>t σ H λvs H1=>r vs H1 Q
theorem Wx (hc:CallR X (.builtin id) r)(hg:Gl X x)(hm:X.mg x=none)(hv:U3 x=some (.builtin id))(ha:PA X (e::es) t)(hn:x≠ "__name__" :=by decide)(hdb:(x==("__debug__" :Str))=false:=by decide)
 (he:S1 (e::es) X.env=(false,J7 e X.env)::S1 es X.env:=by rfl)(hpl:(U6 pos (S1 es X.env)).any (·.1)=false:=by rfl):PE X (.Call (.Name x p) (e::es) [] pos) (tCB r t):=by
 intro pins s σ H Q I h;refine iY (YE I hg hm hv ?_ hn hdb);exact rB (thn (ha pos pins s σ H _ I h) λus s1 ⟨vs,H1,I1,r1,q1⟩=>hc pins s1 σ H1 vs us Q I1 r1 q1) he hpl
theorem YL (hc:CallR X (.type T) r)(hg:Gl X x)(hm:X.mg x=none)(hv:U3 x=some (.type T))(ha:PA X (e::es) t)(hn:x≠ "__name__" :=by decide)(hdb:(x==("__debug__" :Str))=false:=by decide)
 (he:S1 (e::es) X.env=(false,J7 e X.env)::S1 es X.env:=by rfl)(hpl:(U6 pos (S1 es X.env)).any (·.1)=false:=by rfl):PE X (.Call (.Name x p) (e::es) [] pos) (tCB r t):=by
 intro pins s σ H Q I h;refine iY (YE I hg hm hv ?_ hn hdb);exact cM (thn (ha pos pins s σ H _ I h) λus s1 ⟨vs,H1,I1,r1,q1⟩=>hc pins s1 σ H1 vs us Q I1 r1 q1) he hpl
end
end L2
namespace HT
open PySem PyProof.Rows
def zt:G0 P2->G0 P2->N0
 | [],[]=>false
 | [],_::_=>true
 |_::_,[]=>false
 |x::xs,y::ys=>if x=y then zt xs ys else decide (x<y)
section
variable {prog:T3}{w:B9}{A:N6}{E:G1->G3->Prop}{s:G3}
theorem BB {t b:P3}{vs ws:G0 G1}{Q:G1->G3->Prop}(ht:xN s.heap t vs.toArray)(hb:xN s.heap b ws.toArray)(hv:vs≠ [])
 (h1:ws= []->Q (.ref t) s)(h2:ws≠ []->Q (.ref s.heap.objs.size) {s with heap:=s.heap.push {cls:= .type "tuple",data:= .seq (vs++ws).toArray}})
 (hsz:vs.length+ws.length<=sizeLine):R3 (R7 prog w) A (K8 .Add (.ref t) (.ref b)) Q E s:=by
 obtain⟨⟨cls,dd,data,sl⟩,ho,hc,n,hd⟩:=id ht;obtain⟨⟨cls2,dd2,G0f,sl2⟩,ho2,hc2,n2,hd2⟩:=id hb;simp only at hc hd hc2 hd2;subst hc hd hc2 hd2;have e:vs.toArray++ws.toArray=(vs++ws).toArray:=by simp
 by_cases hw:ws= []
 ·exact p5 ⟨_,ho,rfl⟩ ⟨_,ho2,rfl⟩ lS o7 gB fQ (eI _ _)
   (tuple_addW1 t b vs.toArray ws.toArray n n2 dd dd2 sl sl2 (by simpa using hv) (by simp [hw])) ⟨ho,ho2,h1 hw⟩
 ·refine p5 ⟨_,ho,rfl⟩ ⟨_,ho2,rfl⟩ lS o7 gB fQ (eI _ _)
   (tuple_addW2 t b vs.toArray ws.toArray n n2 dd dd2 sl sl2 (by simpa using hv) (by simpa using hw) (by rw [R4,R4];exact hsz)) ⟨ho,ho2,?_⟩
  rw [e];exact h2 hw
def sIx (n d:G6):D2 P2->G6
 |none=>d
 |some v=>if v<0 then (v+(n:P2)).toNat else min v.toNat n
theorem LY (n d:G6)(hd:d<=n)(o:D2 P2):sIx n d o<=n:=by
 cases o with
 |none=>exact hd
 |some v=>
  show (if v<0 then (v+(n:P2)).toNat else min v.toNat n)<=n
  by_cases hv:v<0
  ·rw [R8 hv];omega
  ·rw [R9 hv];exact dD _ _
theorem Gr (v:P2)(n d:G6):(if v<0 then max (v+(n:P2)) 0 else min v (n:P2))=((sIx n d (some v):G6):P2):=by
 show (if v<0 then max (v+(n:P2)) 0 else min v (n:P2))=(((if v<0 then (v+(n:P2)).toNat else min v.toNat n):G6):P2)
 by_cases hv:v<0
 ·simp only [R8 hv];omega
 ·simp only [R9 hv];omega
theorem Qa (lo hi:D2 P2)(n:G6):dJ lo hi 1 (n:P2)=(((sIx n 0 lo:G6):P2),((sIx n n hi:G6):P2)):=by
 have h1: ¬ ((1:P2)<0):=by omega
 unfold dJ;simp only [h1,nZ];refine Prod.ext ?_ ?_
 ·cases lo with
  |none=>rfl
  |some v=>exact Gr v n 0
 ·cases hi with
  |none=>rfl
  |some v=>exact Gr v n n
theorem Qb (i j:G6):aV (i:P2) (j:P2) 1=j-i:=by
 unfold aV;have h1:(1:P2)>0:=by omega
 simp only [h1,oR,Int.ediv_one];split<;>omega
theorem Wa {v:G1}{o:D2 P2}{Q:D2 P2->G3->Prop}(p:mI v o)(h:Q o s):R3 (R7 prog w) A (rY v) Q E s:=by
 cases p with
 |none=>exact tJ h
 |int i t=>exact slicePart_int h
theorem wJ {sl:P3}{vl vu:G1}{lo hi:D2 P2}{n:G6}{Q:P2×P2×G6->G3->Prop}(hs:s.heap.IsSliceOf sl vl vu .none)(pl:mI vl lo)(pu:mI vu hi)
 (h:Q (((sIx n 0 lo:G6):P2),1,sIx n n hi-sIx n 0 lo) s):R3 (R7 prog w) A (i0 (.ref sl) (pure (n:P2))) Q E s:=by
 obtain⟨os,hos,hcs,hds⟩:=id hs;unfold i0 uD;refine wpAny_bind (wpAny_bind (rQ hos hds (x:=vl) rfl (wpAny_bind (rQ hos hds (x:=vu) rfl (wpAny_bind (rQ hos hds (x:= .none) rfl (P0 ?_)))))));refine wpAny_bind (tJ ?_);show R3 _ _ (if ((1:P2)==0)=true then _ else _) _ _ s;rw [R9 (by decide)];refine wpAny_bind (Wa pl (wpAny_bind (Wa pu (wpAny_bind (P0 ?_)))));show R3 _ _ (match dJ lo hi 1 (n:P2) with|(lo,hi)=>pure (lo,(1:P2),aV lo hi 1)) _ _ s;rw [Qa lo hi n];show R3 _ _ (pure (((sIx n 0 lo:G6):P2),(1:P2),aV ((sIx n 0 lo:G6):P2) ((sIx n n hi:G6):P2) 1)) _ _ s;rw [Qb];exact P0 h
theorem RH (xs:S9 G1)(i k:G6):((D4 k).filterMap λ(m:G6)=>xs[((i:P2)+(m:P2)*1).toNat]?).toArray=((xs.toList.drop i).take k).toArray:=by
 have e:(λ(m:G6)=>xs[((i:P2)+(m:P2)*1).toNat]?)=λm=>xs[i+m]? :=by
  funext m
  have:((i:P2)+(m:P2)*1).toNat=i+m:=by omega
  rw [this]
 rw [e];have:=pick_run xs i k;rw [List.filterMap_map] at this;have e2:((λx=>xs[x]?)∘λx=>i+x)=λm=>xs[i+m]? :=rfl
 rw [e2] at this;rw [this]
theorem vV {t sl:P3}{items:S9 G1}{vl vu:G1}{lo hi:D2 P2}{Q:G1->G3->Prop}(ht:xN s.heap t items)(hs:s.heap.IsSliceOf sl vl vu .none)(pl:mI vl lo)(pu:mI vu hi)
 (hw: ¬ (sIx items.size 0 lo=0/\sIx items.size items.size hi=items.size))
 (h:Q (.ref s.heap.objs.size) {s with heap:=s.heap.push {cls:= .type "tuple",data:= .seq ((items.toList.drop (sIx items.size 0 lo)).take (sIx items.size items.size hi-sIx items.size 0 lo)).toArray}})
 (hsz:items.size<=sizeLine):R3 (R7 prog w) A (k9 (.ref t) (.ref sl)) Q E s:=by
 have htake:sizeOk (.seq ((items.toList.drop (sIx items.size 0 lo)).take (sIx items.size items.size hi-sIx items.size 0 lo)).toArray):=by
  show ((items.toList.drop (sIx items.size 0 lo)).take (sIx items.size items.size hi-sIx items.size 0 lo)).toArray.size<=sizeLine;rw [R4,T4,B3,D1];omega
 have hj:sIx items.size items.size hi<=items.size:=LY _ _ (P6 _) hi;obtain⟨os,hos,hcs,hds⟩:=id hs;have hTs:s.TypeIs (.ref sl) "slice" :=⟨os,hos,hcs⟩;unfold k9
 try with_reducible refine O1 ?_
 first|refine wpAny_bind (P0 ?_)|skip
 refine wpAny_bind (lA ht.typeIs (by decide) ?_);refine wpAny_bind (E9 (name:=aF "__getitem__") ht.typeIs X4
  (L9 X4 ht.typeIs oX ?_ (pK _ _)))
 show R3 _ _ (aN (.ref t) >>= _) _ _ s;refine wpAny_bind (uH ht ?_);refine wpAny_bind (iN hTs ?_);rw [R8 (by decide)];refine wpAny_bind (wJ hs pl pu ?_);have hno: ¬ ((((sIx items.size 0 lo:G6):P2)==0&&(1:P2)==1&&(sIx items.size items.size hi-sIx items.size 0 lo)==items.size)=true):=by
  intro q;rw [C6,C6] at q;have q1:((sIx items.size 0 lo:G6):P2)=0:=eq_of_beq q.1.1;have q2:sIx items.size items.size hi-sIx items.size 0 lo=items.size:=eq_of_beq q.2;exact hw ⟨by omega,by omega⟩
 show R3 _ _ (if (((sIx items.size 0 lo:G6):P2)==0&&(1:P2)==1&&(sIx items.size items.size hi-sIx items.size 0 lo)==items.size)=true then _ else _) _ _ s;rw [R9 hno,RH]
 first
  |exact wpAny_bind (m:=bJ _) (Y9 (P0 ⟨_,rfl,P0 h⟩) htake)
  |exact wpAny_bind (m:=bJ _) (Y9 (wpAny_bind (P0 (P0 ⟨_,rfl,P0 h⟩))) htake)
  |exact wpAny_bind (wpAny_bind (m:=bJ _) (Y9 (P0 (P0 ⟨_,rfl,P0 h⟩)) htake))
  |exact wpAny_bind (wpAny_bind (m:=bJ _) (Y9 (P0 ⟨_,rfl,P0 h⟩) htake))
end
end HT
namespace L2
open PySem PySem.Spec PyProof.Rows
abbrev TO:=St->Hp->(D2 P2->Hp->Prop)->Prop
def PO (X:Cx)(e:D2 M9)(t:TO):Prop:=
 ∀ (pins:G0 (P3×Obj)) (s:G3) (σ:St) (H:Hp) (Q:D2 P2->Hp->Prop),Inv X pins σ H s->t σ H Q->
  R3 (R7 X.prog X.w) X.A (evalPart e X.env) (λu s'=> ∃o H',Inv X pins σ H' s'/\mI u o/\Q o H') X.xe s
def BC:TO:=λ_ H Q=>Q none H
def EO (t:TE):TO:=λσ H Q=>t σ H λx H1=> ∃i,x= .int i/\Q (some i) H1
section
variable {X:Cx}{e:M9}{te:TE}{lo hi:D2 M9}{tl th:TO}{pos p2:Pos}
theorem po_none:PO X none BC:=by
 intro pins s σ H Q I h;rw [uI];exact P0 ⟨none,H,I,.none,h⟩
theorem BD (h:PE X e te):PO X (some e) (EO te):=by
 intro pins s σ H Q I hw;rw [evalPart_some];refine thn (h pins s σ H _ I hw) λu s1 ⟨x,H1,I1,r1,q1⟩=> ?_
 obtain⟨i,rfl,q⟩:=q1;obtain⟨t,rfl⟩:=r1;exact⟨some i,H1,I1,.int i t,q⟩
def SlR (X:Cx)(r:V->D2 P2->D2 P2->Hp->VK->Prop):Prop:=
 ∀ (pins:G0 (P3×Obj)) (s:G3) (σ:St) (H:Hp) (x:V) (v vl vu:G1) (lo hi:D2 P2) (sl:P3) (Q:VK),Inv X pins σ H s->RelV x v->s.heap.IsSliceOf sl vl vu .none->mI vl lo->mI vu hi->r x lo hi H Q->
  ∃T id,IM (.type T) "__getitem__" =pure (some (.builtin id))/\s.TypeIs v T/\R3 (R7 X.prog X.w) X.A (k9 v (.ref sl)) (EP X pins σ Q) X.xe s
theorem SlR.or {r r':V->D2 P2->D2 P2->Hp->VK->Prop}(h:SlR X r)(h':SlR X r'):SlR X (λx lo hi H Q=>r x lo hi H Q\/r' x lo hi H Q):=by
 intro pins s σ H x v vl vu lo hi sl Q I rx hs pl pu q;rcases q with q|q
 ·exact h pins s σ H x v vl vu lo hi sl Q I rx hs pl pu q
 ·exact h' pins s σ H x v vl vu lo hi sl Q I rx hs pl pu q
def tSl (r:V->D2 P2->D2 P2->Hp->VK->Prop)(te:TE)(tl th:TO):TE:=λσ H Q=>te σ H λx H1=>tl σ H1 λl H2=>th σ H2 λu H3=>r x l u H3 Q
theorem RI {r:V->D2 P2->D2 P2->Hp->VK->Prop}(hr:SlR X r)(he:PE X e te)(hl:PO X lo tl)(hu:PO X hi th):PE X (.Subscript e (.Slice lo hi none p2) pos) (tSl r te tl th):=by
 intro pins s σ H Q I h;refine tK (thn (he pins s σ H _ I h) λv s1 ⟨x,H1,I1,r1,q1⟩=> ?_);refine wpAny_Slice (thn (hl pins s1 σ H1 _ I1 q1) λvl s2 ⟨l,H2,I2,pl,q2⟩=>thn (hu pins s2 σ H2 _ I2 q2) λvu s3 ⟨u,H3,I3,pu,q3⟩=> ?_);rw [uI];refine P0 ?_;have I4:Inv X pins σ H3 {s3 with heap:=s3.heap.push {cls:= .type "slice",data:= .fields #[vl,vu,.none]}}:=I3.kept (t':=s3.toks) λb ob q=>G9 _ q
 obtain⟨T,id,hT,ht,hg⟩:=hr pins {s3 with heap:=s3.heap.push {cls:= .type "slice",data:= .fields #[vl,vu,.none]}} σ H3 x v vl vu l u s3.heap.objs.size Q I4 r1 (Heap.IsSliceOf.new ..) pl pu q3;show R3 (R7 X.prog X.w) X.A (o8 e (.Slice lo hi none p2) v (.ref s3.heap.objs.size)) (EP X pins σ Q) X.xe {s3 with heap:=s3.heap.push {cls:= .type "slice",data:= .fields #[vl,vu,.none]}};exact tail_any (ops:= [.ref s3.heap.objs.size,v]) ht hT hg (by with_unfolding_all rfl)
def Rv (xs:G0 V)(lo hi:D2 P2):G0 V:=(xs.drop (HT.sIx xs.length 0 lo)).take (HT.sIx xs.length xs.length hi-HT.sIx xs.length 0 lo)
theorem JZ (xs:G0 V)(lo hi:D2 P2):(Rv xs lo hi).length<=xs.length:=by
 unfold Rv;rw [T4,B3];omega
def Hy (K:G7):V->D2 P2->D2 P2->Hp->VK->Prop:=λx lo hi H Q=> ∃a xs,x= .ref a/\SqT K H a xs/\
 ¬ (HT.sIx xs.length 0 lo=0/\HT.sIx xs.length xs.length hi=xs.length)/\ ∀p,H p=none->Q (.ref p) (upd H p (.tup (Rv xs lo hi)))
theorem sl_tup:SlR X (Hy X.K):=by
 intro pins s σ H x v vl vu lo hi sl Q I rx hs pl pu h;obtain⟨a,xs,rfl,hx,hw,q⟩:=h;cases rx;obtain⟨its,r,ht,hz⟩:=I.tuple hx;have hlen:its.toArray.size=xs.length:=by rw [R4];exact r.length.symm
 refine⟨"tuple",_,PyProof.Rows.slot_tuple_getitem.lookup,ht.typeIs,?_⟩;refine HT.vV ht hs pl pu (by rw [hlen];exact hw) ?_ (by rw [hlen];exact hz);rw [hlen];refine⟨.ref s.heap.objs.size,_,I.laid (t':=s.toks) (o:= .tup (Rv xs lo hi)) (λb ob q=>G9 _ q) (P6 _) ?_,rfl,q _ (I.hok.fresh (P6 _))⟩;exact⟨S0 (JZ xs lo hi) hz,_,(r.drop (HT.sIx xs.length 0 lo)).take (HT.sIx xs.length xs.length hi-HT.sIx xs.length 0 lo),IsTupN.new _ _⟩
def EQ (K:G7):R2:=λx y H Q=> ∃a b xs ys,x= .ref a/\y= .ref b/\SqT K H a xs/\SqT K H b ys/\xs≠ []/\xs.length+ys.length<=sizeLine/\
 (ys= []->Q (.ref a) H)/\(ys≠ []-> ∀p,H p=none->Q (.ref p) (upd H p (.tup (xs++ys))))
theorem Vals.nil_iff {xs:G0 V}{us:G0 G1}(r:Vals xs us):us= []↔xs= []:=by
 cases r with
 |nil=>simp
 |cons _ _=>simp
theorem op_catT:OpR X (K8 .Add) (EQ X.K):=by
 intro pins s σ H x y v u Q I rx ry h;obtain⟨a,b,xs,ys,rfl,rfl,ha,hb,hx,hz,q1,q2⟩:=h;cases rx;cases ry;obtain⟨its,r1,p1,_⟩:=I.tuple ha;obtain⟨its2,r2,p2,_⟩:=I.tuple hb;refine HT.BB p1 p2 (λz=>hx (r1.nil_iff.mp z)) (λz=>⟨.ref a,H,I,rfl,q1 (r2.nil_iff.mp z)⟩) (λz=> ?_) (by rw [<-r1.length,<-r2.length];exact hz);refine⟨.ref s.heap.objs.size,_,I.laid (t':=s.toks) (o:= .tup (xs++ys)) (λb ob q=>G9 _ q) (P6 _) ?_,rfl,q2 (λw=>z (r2.nil_iff.mpr w)) _ (I.hok.fresh (P6 _))⟩;exact⟨by rw [P1];exact hz,_,r1.append r2,IsTupN.new _ _⟩
end
def ixN (n:G6)(i:P2):D2 G6:=if 0<=i then (if i<n then some i.toNat else none) else if-(n:P2)<=i then some (i+n).toNat else none
def atI {α:Type}(xs:G0 α)(i:P2):D2 α:=(ixN xs.length i).bind λj=>xs[j]?
theorem Gs {n:G6}{i:P2}{j:G6}(h:ixN n i=some j):seqIndex? i n=some j/\j<n/\ -(n:P2)<=i/\i<n:=by
 unfold ixN at h
 by_cases h0:0<=i
 ·rw [R8 h0] at h
  by_cases h1:i<n
  ·rw [R8 h1] at h;have e:i.toNat=j:=O9 h;exact⟨by rw [rR h0 h1,e],by omega,by omega,h1⟩
  ·rw [R9 h1] at h;cases h
 ·rw [R9 h0] at h
  by_cases h1: -(n:P2)<=i
  ·rw [R8 h1] at h;have e:(i+n).toNat=j:=O9 h;exact⟨by rw [p6 (by omega) h1,e],by omega,h1,by omega⟩
  ·rw [R9 h1] at h;cases h
theorem Ub {α:Type}{xs:G0 α}{i:P2}{v:α}(h:atI xs i=some v): ∃j,seqIndex? i xs.length=some j/\xs[j]? =some v/\j<xs.length/\ -(xs.length:P2)<=i/\i<xs.length:=by
 unfold atI at h;cases e:ixN xs.length i with
 |none=>rw [e] at h;cases h
 |some j=>
  rw [e] at h;obtain⟨h1,h2,h3,h4⟩:=Gs e;exact⟨j,h1,h,h2,h3,h4⟩
theorem wT {α:Type}{xs:G0 α}{j:G6}{v:α}(h:xs[j]? =some v):atI xs (j:P2)=some v:=by
 have hj:j<xs.length:=(P9.mp h).1;have e:ixN xs.length (j:P2)=some j:=by
  unfold ixN;rw [R8 (by omega),R8 (by omega)];simp
 unfold atI;rw [e];exact h
def Wy (b:M9):Prop:= ∀o i,n4 b false o i=KJ [o,i] (k9 o i)
def IxR (X:Cx)(r:R2):Prop:=
 ∀ (value slice:M9) (pins:G0 (P3×Obj)) (s:G3) (σ:St) (H:Hp) (x y:V) (v u:G1) (Q:VK),Inv X pins σ H s->RelV x v->RelV y u->r x y H Q->
  n4 slice false v u=KJ [v,u] (k9 v u)->R3 (R7 X.prog X.w) X.A (o8 value slice v u) (EP X pins σ Q) X.xe s
def MtR (X:Cx)(id:V1)(r:V->G0 V->Hp->VK->Prop):Prop:=
 ∀ (pins:G0 (P3×Obj)) (s:G3) (σ:St) (H:Hp) (x:V) (xs:G0 V) (v:G1) (us:G0 G1) (Q:VK),Inv X pins σ H s->RelV x v->Vals xs us->r x xs H Q->
  R3 (R7 X.prog X.w) X.A (call (.builtin id) (v::us)) (EP X pins σ Q) X.xe s
section
variable {X:Cx}{a b:M9}{ta tb:TE}{pos:Pos}
theorem IxR.or {r r':R2}(h:IxR X r)(h':IxR X r'):IxR X (λx y H Q=>r x y H Q\/r' x y H Q):=by
 intro value slice pins s σ H x y v u Q I rx ry q hs;rcases q with q|q
 ·exact h value slice pins s σ H x y v u Q I rx ry q hs
 ·exact h' value slice pins s σ H x y v u Q I rx ry q hs
theorem ER {r:R2}(hr:IxR X r)(ha:PE X a ta)(hb:PE X b tb)(hs:Wy b):PE X (.Subscript a b pos) (tOp r ta tb):=by
 intro pins s σ H Q I h;exact tK (EF ha hb I h λv u s2 x y H2 I2 rx ry q=>hr a b pins s2 σ H2 x y v u Q I2 rx ry q (hs _ _))
def TN (K:G7):R2:=λx y H Q=> ∃p xs i v,x= .ref p/\y= .int i/\SqL K H p xs/\atI xs i=some v/\Q v H
def TQ (K:G7):R2:=λx y H Q=> ∃p xs i v,x= .ref p/\y= .int i/\SqT K H p xs/\atI xs i=some v/\Q v H
def TR:R2:=λx y H Q=> ∃z i c,x= .str z/\y= .int i/\z.length<=sizeLine/\atI z.cps.toList i=some c/\Q (.str ⟨#[c]⟩) H
theorem ix_list:IxR X (TN X.K):=by
 intro value slice pins s σ H x y v u Q I rx ry h hs;obtain⟨p,xs,i,z,rfl,rfl,hq,he,q⟩:=h;cases rx;obtain⟨t,rfl⟩:=ry;obtain⟨its,r,pl,hz⟩:=I.list hq;obtain⟨j,h1,h2,h3,h4,h5⟩:=Ub he;obtain⟨w,ew,rw'⟩:=r.get h2;have hl:=r.length;have hn:=YG;have fin:EP X pins σ Q w s:=⟨z,H,I,rw',q⟩
 by_cases h0:0<=i
 ·have hj:i.toNat=j:=by
   rw [rR h0 h5] at h1;exact O9 h1
  exact item_listR pl.isList h0 (by omega) (by rw [hj];simpa using ew) fin hs
 ·have hj:(i+(its.toArray.size:P2)).toNat=j:=by
   rw [p6 (by omega) h4] at h1;rw [R4,<-hl];exact O9 h1
  exact mJ (x:=w) pl.isList.typeIs slot_list_getitem.lookup
   (wpAny_getItem_list_neg (Q:=λr s'=>r=w/\EP X pins σ Q r s') pl.isList (by omega) (by rw [R4]<;>omega) (by omega) (by rw [hj];simpa using ew) ⟨rfl,fin⟩) hs
theorem ix_tup:IxR X (TQ X.K):=by
 intro value slice pins s σ H x y v u Q I rx ry h hs;obtain⟨p,xs,i,z,rfl,rfl,hq,he,q⟩:=h;cases rx;obtain⟨t,rfl⟩:=ry;obtain⟨its,r,pl,hz⟩:=I.tuple hq;obtain⟨j,h1,h2,h3,h4,h5⟩:=Ub he;obtain⟨w,ew,rw'⟩:=r.get h2;have hl:=r.length;have hn:=YG;have fin:EP X pins σ Q w s:=⟨z,H,I,rw',q⟩;exact mJ (x:=w) pl.typeIs slot_tuple_getitem.lookup
  (getItem_tuple (j:=j) (Q:=λr s'=>r=w/\EP X pins σ Q r s') pl (by omega) (by omega) (by rw [R4,<-hl];exact h1) (by simpa using ew) ⟨rfl,fin⟩) hs
theorem LZ:IxR X TR:=by
 intro value slice pins s σ H x y v u Q I rx ry h hs;obtain⟨z,i,c,rfl,rfl,hz,he,q⟩:=h;obtain⟨t,rfl⟩:=rx;obtain⟨t',rfl⟩:=ry;obtain⟨j,h1,h2,h3,h4,h5⟩:=Ub he;have hl:z.cps.toList.length=z.length:=by simp [Str.length]
 rw [hl] at h1 h4 h5;have hn:=YG;exact tail_any (IN s z t) slot_str_getitem.lookup (getItem_str (c:=c) (by
  have e1:decide (i< -(2^63:P2))=false:=S8 (by omega);have e2:decide (i>=2^63)=false:=S8 (by omega);rw [e1,e2,o9]) (by rw [h1];simpa using h2) ⟨.str ⟨#[c]⟩,H,I.tok _,⟨_,rfl⟩,q⟩) hs
def rIx (K:G7):R2:=λx y H Q=>TN K x y H Q\/TQ K x y H Q\/TR x y H Q
theorem Oa:IxR X (rIx X.K):=ix_list.or (ix_tup.or LZ)
theorem Qc (its:G0 G1)(n j:G6)(u:G1):Z8 (·.setIfInBounds j u) {cls:= .type "list",data:= .seq its.toArray n}= {cls:= .type "list",data:= .seq (its.set j u).toArray n}:=by
 simp [Z8]
theorem Inv.lst {pins:G0 (P3×Obj)}{σ:St}{H:Hp}{s:G3}{p:P3}{xs:G0 V}(I:Inv X pins σ H s)(h:H p=some (.lst xs)):
 ∃ (its:G0 G1) (n:G6),Vals xs its/\s.heap.get? p=some {cls:= .type "list",data:= .seq its.toArray n}/\xs.length<=sizeLine:=by
 obtain⟨z,its,n,r,e⟩:=I.hok p _ h;exact⟨its,n,r,e,z⟩
theorem Inv.lstUpd {pins:G0 (P3×Obj)}{σ:St}{H:Hp}{s:G3}{p:P3}{xs ys:G0 V}{its its':G0 G1}{n n':G6}{f:Obj->Obj}(I:Inv X pins σ H s)(h:H p=some (.lst xs))
 (ho:s.heap.get? p=some {cls:= .type "list",data:= .seq its.toArray n})(hf:f {cls:= .type "list",data:= .seq its.toArray n}= {cls:= .type "list",data:= .seq its'.toArray n'})(r:Vals ys its')(hz:ys.length<=sizeLine)(t:G6):
 Inv X pins σ (upd H p (.lst ys)) {s with heap:=s.heap.update p f,toks:=t}:=by
 have e:(s.heap.update p f).get? p=some {cls:= .type "list",data:= .seq its'.toArray n'}:=by
  rw [L6 f ho (by rw [hf]<;>rfl),hf]
 refine I.write (x:=p) (e:=p) (by rw [h];trivial) (.inl rfl) (λb u hb q=>(gC _ _ (E4 hb)).trans q) ⟨_,e⟩ ?_;exact⟨hz,its',n',r,e⟩
def ES:V->V->V->Hp->(Hp->Prop)->Prop:=λo i v H Q=> ∃p xs k j,o= .ref p/\i= .int k/\H p=some (.lst xs)/\ixN xs.length k=some j/\Q (upd H p (.lst (xs.set j v)))
theorem RJ:Ty X ES:=by
 intro pins s σ H o i v ov iv u Q I ro ri rv h;obtain⟨p,xs,k,j,rfl,rfl,hp,hj,q⟩:=h;cases ro;obtain⟨t,rfl⟩:=ri;obtain⟨its,n,r,ho,hz⟩:=I.lst hp;obtain⟨h1,h2,h3,h4⟩:=Gs hj;have hl:=r.length;have hn:=YG;have I':Inv X pins σ (upd H p (.lst (xs.set j v))) {s with heap:=s.heap.update p (Z8 (·.setIfInBounds j u))}:=
  I.lstUpd hp ho (Qc its n j u) (r.set rv j) (by rw [r9];exact hz) s.toks
 by_cases h0:0<=k
 ·have hk:k.toNat=j:=by
   rw [rR h0 h4] at h1;exact O9 h1
  exact KS ho h0 (by omega) (by rw [R4,<-hl];exact h4) (by rw [hk];exact⟨_,I',q⟩)
 ·have hk:(k+(its.toArray.size:P2)).toNat=j:=by
   rw [p6 (by omega) h3] at h1;rw [R4,<-hl];exact O9 h1
  exact IP ho (by omega) (by rw [R4,<-hl];exact h3) (by omega) (by rw [hk];exact⟨_,I',q⟩)
theorem YM (lo hi:D2 P2)(n:G6):(fT lo hi none n).1=((HT.sIx n 0 lo:G6):P2)/\(fT lo hi none n).2.1=((HT.sIx n n hi:G6):P2)/\(fT lo hi none n).2.2=1:=by
 refine⟨?_,?_,rfl⟩
 ·cases lo with
  |none=>simp [fT,HT.sIx]
  |some i=>
   simp only [fT,HT.sIx,rC,show (1:P2)>0 by decide,oR]
   by_cases h:i<0
   ·simp only [h,oR]<;>omega
   ·simp only [h,nZ]<;>omega
 ·cases hi with
  |none=>simp [fT,HT.sIx]
  |some i=>
   simp only [fT,HT.sIx,rC,show (1:P2)>0 by decide,oR]
   by_cases h:i<0
   ·simp only [h,oR]<;>omega
   ·simp only [h,nZ]<;>omega
theorem Wz (its:G0 G1)(lo hi:D2 P2):slicePick its.toArray lo hi none=((its.drop (HT.sIx its.length 0 lo)).take (HT.sIx its.length its.length hi-HT.sIx its.length 0 lo)).toArray:=by
 obtain⟨h1,h2,h3⟩:=YM lo hi its.toArray.size;unfold slicePick;rw [h1,h2,h3];simp only [sliceRange_one,pick_run,R4]<;>rfl
def Hz (K:G7):V->D2 P2->D2 P2->Hp->VK->Prop:=λx lo hi H Q=> ∃a xs,x= .ref a/\SqL K H a xs/\ ∀p,H p=none->Q (.ref p) (upd H p (.lst (Rv xs lo hi)))
theorem BE:SlR X (Hz X.K):=by
 intro pins s σ H x v vl vu lo hi sl Q I rx hs pl pu h;obtain⟨a,xs,rfl,hx,q⟩:=h;cases rx;obtain⟨its,r,ht,hz⟩:=I.list hx;have hlen:=r.length;refine⟨"list",_,slot_list_getitem.lookup,ht.isList.typeIs,?_⟩;refine wpAny_getItem_list_slice ht.isList hs pl pu .none (by simp) ?_ (by rw [R4]<;>omega);rw [Wz,<-hlen];refine⟨.ref s.heap.objs.size,_,I.laid (t':=s.toks) (o:= .lst (Rv xs lo hi)) (λb ob q=>G9 _ q) (P6 _) ?_,rfl,q _ (I.hok.fresh (P6 _))⟩;exact⟨S0 (JZ xs lo hi) hz,_,0,(r.drop (HT.sIx xs.length 0 lo)).take (HT.sIx xs.length xs.length hi-HT.sIx xs.length 0 lo),S5 _ rfl⟩
theorem call_len_seq:CallR X (.builtin "len") (λxs H Q=> ∃p ys,xs= [.ref p]/\(SqL X.K H p ys\/SqT X.K H p ys)/\Q (.int ys.length) H):=by
 intro pins s σ H xs us Q I r h;obtain⟨p,ys,rfl,hq,q⟩:=h;obtain⟨u,rfl,rx⟩:=JY r;cases rx;have hn:=YG;rcases hq with hq|hq
 ·obtain⟨its,r',pl,hz⟩:=I.list hq;have hlen:=r'.length;exact Calls.call_len_list pl.isList (by simp only [R4]<;>omega) ⟨.int ys.length,H,I.tok _,⟨s.toks+1,by rw [R4,hlen]⟩,q⟩
 ·obtain⟨its,r',pl,hz⟩:=I.tuple hq;have hlen:=r'.length;exact len_tuple pl (by simp only [R4]<;>omega) ⟨.int ys.length,H,I.tok _,⟨s.toks+1,by rw [R4,hlen]⟩,q⟩
theorem call_tuple_of:CallR X (.type "tuple") (λxs H Q=> ∃p ys,xs= [.ref p]/\((SqL X.K H p ys/\ ∀l,H l=none->Q (.ref l) (upd H l (.tup ys)))\/(SqT X.K H p ys/\Q (.ref p) H))):=by
 intro pins s σ H xs us Q I r h;obtain⟨p,ys,rfl,h⟩:=h;obtain⟨u,rfl,rx⟩:=JY r;cases rx;rcases h with ⟨hq,q⟩|⟨hq,q⟩
 ·obtain⟨its,r',pl,hz⟩:=I.list hq;have hlen:=r'.length;refine call_tuple_list pl.isList (λh' kp=> ?_) (by simp only [R4]<;>omega);have I1:Inv X pins σ H {s with heap:=h'}:=I.kept (t':=s.toks) kp;have I2:Inv X pins σ (upd H h'.objs.size (.tup ys)) {s with heap:=h'.push {cls:= .type "tuple",data:= .seq its.toArray}}:=
   I1.laid (t':=s.toks) (λb o e=>G9 _ e) (P6 _) (show ObjOk X.prog X.w _ _ _ (.tup ys) from ⟨hz,its,r',IsTupN.new _ _⟩)
  exact⟨.ref h'.objs.size,_,I2,rfl,q _ (I1.hok.fresh (P6 _))⟩
 ·obtain⟨its,r',pl,hz⟩:=I.tuple hq;exact call_tuple_same pl ⟨.ref p,H,I,rfl,q⟩
def tyV (K:G7)(T:V1)(x:V)(H:Hp):Prop:=match x with
 | .str _=>T= "str"
 | .int _=>T= "int"
 | .ref p=>(T= "list" /\ ∃xs,SqL K H p xs)\/(T= "tuple" /\ ∃o,K.lookup p=some o/\o.cls= .type "tuple" /\o.dict=none)\/
  (T= "dict" /\((∃kvs,H p=some (.dK kvs))\/ ∃kvs,H p=some (.dT kvs)))\/(T= "set" /\ ∃S n,H p=some (.set S n))
 |_=>False
theorem Ob {pins:G0 (P3×Obj)}{σ:St}{H:Hp}{s:G3}{T:V1}{x:V}{v:G1}(I:Inv X pins σ H s)(r:RelV x v)(ty:tyV X.K T x H):
 s.TypeIs v T/\ ∀a,v= .ref a-> ∃ob,s.heap.get? a=some ob/\ob.dict=none:=by
 cases x with
 |str z=>
  obtain⟨t,rfl⟩:=r;cases (show T= "str" from ty);exact⟨IN s z t,λ_ e=>nomatch e⟩
 |int i=>
  obtain⟨t,rfl⟩:=r;cases (show T= "int" from ty);exact⟨mK s i t,λ_ e=>nomatch e⟩
 |ref p=>
  cases r;rcases ty with ⟨rfl,xs,hq⟩|⟨rfl,o,hk,hc,hd⟩|⟨rfl,hk⟩|⟨rfl,S,n,hk⟩
  ·obtain⟨its,_,pl,_⟩:=I.list hq;refine⟨pl.isList.typeIs,λa e=> ?_⟩;cases e;obtain⟨o,n,e,c,hd,_⟩:=pl;exact⟨o,e,hd⟩
  ·refine⟨⟨o,I.kIn p o hk,hc⟩,λa e=> ?_⟩;cases e;exact⟨o,I.kIn _ o hk,hd⟩
  ·have z: ∃o,s.heap.get? p=some o/\o.ExactDict:=by
    rcases hk with ⟨kvs,hk⟩|⟨kvs,hk⟩
    ·obtain⟨_,_,_,_,o,_,_,e,ex,_⟩:=I.hok p _ hk;exact⟨o,e,ex⟩
    ·obtain⟨_,_,_,_,o,_,_,e,ex,_⟩:=I.hok p _ hk;exact⟨o,e,ex⟩
   obtain⟨o,e,ex⟩:=z;refine⟨⟨o,e,ex.1⟩,λa e2=> ?_⟩;cases e2;exact⟨o,e,ex.2.1⟩
  ·obtain⟨o,_,_,_,e,ex,_⟩:=I.hok p _ hk;refine⟨⟨o,e,ex.1⟩,λa e2=> ?_⟩;cases e2;exact⟨o,e,ex.2.1⟩
 |_=>exact False.elim ty
def tBM (K:G7)(T:V1)(r:V->G0 V->Hp->VK->Prop)(to:TE)(t:TA):TE:=λσ H Q=>to σ H λx H1=>tyV K T x H1/\t σ H1 λxs H2=>r x xs H2 Q
variable {o e:M9}{es:G0 M9}{to:TE}{t:TA}{name:Str}{apos cpos:Pos}{T id:V1}{r:V->G0 V->Hp->VK->Prop}
theorem BF (pa:PlainAttrs T)(slot:Slot T name id)(hty:typeOf (.builtin id)=pure (.type "method_descriptor"))(hm:MtR X id r)(ho:PE X o to)(ha:PA X (e::es) t)
 (hbase:cH o name X.env (J7 o X.env)=J7 o X.env:=by rfl)
 (hfew:((U6 cpos (S1 (e::es) X.env)).all (λx=> !x.1)&&(lU cpos (fU [] X.env)).all (λx=>x.1.isSome)
  &&decide ((e::es).length+([]:G0 dE).length+(if ([]:G0 dE).isEmpty then 0 else 1)<30))=true:=by rfl)
 (hline:(apos.endLine==cpos.line)=true:=by rfl)(hs:S1 (e::es) X.env=(false,J7 e X.env)::S1 es X.env:=by rfl)(hplain:(U6 cpos (S1 es X.env)).any (·.1)=false:=by rfl):
 PE X (.Call (.Attribute o name apos) (e::es) [] cpos) (tBM X.K T r to t):=by
 intro pins s σ H Q I h;refine wpAny_Call_method_late hbase hfew hline rfl (thn (ho pins s σ H _ I h) λv s1 ⟨x,H1,I1,r1,ty,q1⟩=> ?_);obtain⟨h1,h2⟩:=Ob I1 r1 ty;refine⟨T,id,pa,slot,hty,h1,h2,?_⟩;have hA:=ha cpos pins s1 σ H1 _ I1 q1;rw [hs] at hA ⊢;refine Calls.callWith_builtin (by show (false||(U6 cpos (S1 es X.env)).any (·.1))=false;rw [hplain]<;>rfl) (Calls.evalArgs_plain ?_);exact thn hA λus s2 ⟨vs,H2,I2,r2,q2⟩=>hm pins s2 σ H2 x vs v us Q I2 r1 r2 q2
end
def MtM (X:Cx)(id:V1)(r:V->G0 V->Hp->VK->Prop):Prop:=
 ∀ (pins:G0 (P3×Obj)) (s:G3) (σ:St) (H:Hp) (x:V) (xs:G0 V) (v:G1) (us:G0 G1) (Q:VK),Inv X pins σ H s->RelV x v->Vals xs us->r x xs H Q->
  R3 (R7 X.prog X.w) X.A (call (.builtin id) (v::us)) (EP X pins σ Q) X.xe s
theorem Vals.one: ∀ {x:V} {us:G0 G1},Vals [x] us-> ∃u,us= [u]/\RelV x u
 |_,_,.cons r .nil=>⟨_,rfl,r⟩
theorem Vals.rep {xs:G0 V}{us:G0 G1}(h:Vals xs us): ∀k:G6,Vals (B1 k xs).flatten (B1 k us).flatten
 |0=> .nil
 |k+1=>by
  rw [W7,W7,a8,a8];exact Vals.append h (Vals.rep h k)
theorem Za (its:G0 G1): ∀ (k:G6) (acc:G0 G1),
 tL (λx1 x2=>x1++x2) acc.toArray (B1 k its.toArray)=(acc++(B1 k its).flatten).toArray
 |0,acc=>by simp
 |k+1,acc=>by
  have e:acc.toArray++its.toArray=(acc++its).toArray:=by simp
  have e2:(acc++its)++(B1 k its).flatten=acc++(B1 (k+1) its).flatten:=by
   rw [W7,a8,D5]
  rw [<-e2,<-Za its k (acc++its),<-e,W7,mY]
section
variable {X:Cx}{pins:G0 (P3×Obj)}{σ:St}{H:Hp}{s:G3}{l b:P3}{xs ys zs:G0 V}
theorem Inv.lset {its its':G0 G1}{n:G6}{f:S9 G1->S9 G1}{t':G6}(I:Inv X pins σ H s)(hH:H l=some (.lst xs))
 (e:s.heap.get? l=some {cls:= .type "list",data:= .seq its.toArray n})(hf:f its.toArray=its'.toArray)(hv:Vals ys its')(hz:ys.length<=sizeLine):
 Inv X pins σ (upd H l (.lst ys)) {s with heap:=s.heap.update l (Z8 f),toks:=t'}:=by
 have q:=PySem.IsL.update e f;rw [hf] at q;refine I.write (x:=l) (e:=l) (by rw [hH];exact trivial) (.inl rfl) (λb' u hb hu=>(gC s.heap (Z8 f) (E4 hb)).trans hu) ⟨_,q⟩ ?_;exact⟨hz,its',_,hv,q⟩
theorem Inv.lnew {its:G0 G1}{t':G6}(I:Inv X pins σ H s)(hv:Vals ys its)(hz:ys.length<=sizeLine):
 Inv X pins σ (upd H s.heap.objs.size (.lst ys)) {s with heap:=s.heap.push {cls:= .type "list",data:= .seq its.toArray},toks:=t'}:=
 I.laid (λ_ _ q=>G9 _ q) (P6 _) ⟨hz,its,0,hv,S5 _ rfl⟩
theorem Inv.fresh (I:Inv X pins σ H s):H s.heap.objs.size=none:=I.hok.fresh (P6 _)
theorem Inv.lstM (I:Inv X pins σ H s)(hH:H l=some (.lst xs)):xs.length<=sizeLine/\ ∃ (its:G0 G1) (n:G6),Vals xs its/\xs.length=its.length/\s.heap.get? l=some {cls:= .type "list",data:= .seq its.toArray n}:=by
 obtain⟨z,its,n,r,e⟩:=I.hok l _ hH;exact⟨z,its,n,r,r.length,e⟩
theorem UX {n:G6}(h:n<=sizeLine):bK n=false:=by
 unfold bK;exact S8 (by omega)
end
section
variable {X:Cx}
def BG:V->G0 V->Hp->VK->Prop:=λx vs H Q=> ∃l xs y,x= .ref l/\vs= [y]/\H l=some (.lst xs)/\xs.length<sizeLine/\Q .non (upd H l (.lst (xs++ [y])))
theorem Gt:MtM X "list.append" BG:=by
 intro pins s σ H x vs v us Q I rx rv h;obtain⟨l,xs,y,rfl,rfl,hH,hz,q⟩:=h;cases rx;obtain⟨u,rfl,ru⟩:=rv.one;obtain⟨z,its,n,r,hl,e⟩:=I.lstM hH;refine mL F.slot_list_append ⟨_,e,rfl⟩ F.entry_list_append (F.args_list_append_2 _ _) (PySem.list_append l its.toArray n u (by rw [R4];omega)) ⟨e,?_⟩;refine⟨.non,_,I.lset (its':=its++ [u]) hH e (by simp) (r.append (.cons ru .nil)) ?_,rfl,q⟩;rw [P1,cI];omega
def BH:V->G0 V->Hp->VK->Prop:=λx vs H Q=> ∃l b xs zs,x= .ref l/\vs= [.ref b]/\H l=some (.lst xs)/\H b=some (.lst zs)/\xs.length+zs.length<=sizeLine/\Q .non (upd H l (.lst (xs++zs)))
theorem Gu:MtM X "list.extend" BH:=by
 intro pins s σ H x vs v us Q I rx rv h;obtain⟨l,b,xs,zs,rfl,rfl,hH,hB,hz,q⟩:=h;cases rx;obtain⟨u,rfl,ru⟩:=rv.one;cases ru;obtain⟨z,its,n,r,hl,e⟩:=I.lstM hH;obtain⟨z2,its2,n2,r2,hl2,e2⟩:=I.lstM hB;have hsz:its.toArray.size+its2.toArray.size<=sizeLine:=by rw [R4,R4];omega
 have hlong: ¬ (!its.toArray.isEmpty&&bK (its.toArray.size+its2.toArray.size))=true:=by
  rw [UX hsz,bQ];exact D6
 refine mL F.slot_list_extend ⟨_,e,rfl⟩ F.entry_list_extend (F.args_list_extend_2 _ _)
  (AutoSeq1.list_extend_list_list_0 l its.toArray n b its2.toArray n2 hlong (by rw [R4];omega) (by omega)) ⟨e,e2,?_⟩
 refine⟨.non,_,I.lset (its':=its++its2) hH e (by simp) (r.append r2) ?_,rfl,q⟩;rw [P1];omega
def HA:R2:=λx y H Q=> ∃l b xs zs,x= .ref l/\y= .ref b/\H l=some (.lst xs)/\H b=some (.lst zs)/\xs.length+zs.length<=sizeLine/\ ∀p,H p=none->Q (.ref p) (upd H p (.lst (xs++zs)))
theorem Oc:OpR X (K8 .Add) HA:=by
 intro pins s σ H x y v u Q I rx ry h;obtain⟨l,b,xs,zs,rfl,rfl,hH,hB,hz,q⟩:=h;cases rx;cases ry;obtain⟨z,its,n,r,hl,e⟩:=I.lstM hH;obtain⟨z2,its2,n2,r2,hl2,e2⟩:=I.lstM hB;refine PySem.P.add_list e e2 ?_ (by rw [R4,R4];omega);have ea:its.toArray++its2.toArray=(its++its2).toArray:=by simp
 rw [ea];exact⟨.ref _,_,I.lnew (t':=s.toks) (r.append r2) (by rw [P1];omega),rfl,q _ I.fresh⟩
def HB:R2:=λx y H Q=> ∃l k xs,x= .ref l/\y= .int k/\H l=some (.lst xs)/\ -(2^63)<=k/\k<2^63/\xs.length*k.toNat<=sizeLine/\
 ∀p,H p=none->Q (.ref p) (upd H p (.lst (B1 k.toNat xs).flatten))
theorem Uc {α:Type}(xs:G0 α)(k:G6):(B1 k xs).flatten.length=k*xs.length:=by
 induction k with
 |zero=>simp
 |succ k ih=>rw [W7,a8,P1,ih,gD,mM]
theorem Od:OpR X (K8 .Mult) HB:=by
 intro pins s σ H x y v u Q I rx ry h;obtain⟨l,k,xs,rfl,rfl,hH,h1,h2,hz,q⟩:=h;cases rx;obtain⟨t,rfl⟩:=ry;obtain⟨z,its,n,r,hl,e⟩:=I.lstM hH;have hlen:its.toArray.size*k.toNat<=sizeLine:=by rw [R4,<-hl];exact hz
 have hcap: ¬its.toArray.size*k.toNat>(2^63-1) / 8:=by
  have:(sizeLine:G6)<=(2^63-1) / 8:=by decide
  omega
 have hfit: ¬ (!i3 k)=true:=by
  rw [tM h1 h2];exact D6
 have hlong: ¬bK (its.toArray.size*k.toNat)=true:=by
  rw [UX hlen];exact D6
 have hnew:tL (λx1 x2=>x1++x2) #[] (B1 (if its.toArray.isEmpty=true then 0 else k.toNat) its.toArray)=(B1 k.toNat its).flatten.toArray:=by
  have f0: ∀m:G6,tL (λx1 x2=>x1++x2) #[] (B1 m its.toArray)=(B1 m its).flatten.toArray:=λm=>by
   have:=Za its m [];rw [A4] at this;exact this
  rw [f0];cases its with
  |nil=>simp
  |cons a r'=>rw [R9 (by simp)]
 refine kK (T:= "list") (U:= "int") (by decide) ⟨_,e,rfl⟩ (λs'=>mK s' k t) noFill_list_mul sA iI repeat_list F.slot_int_index.lookup
  (mL iI (mK s k t) rD (p7 _ _) (int___rmul___int_list k t l its.toArray n)
   ⟨e,rfl,⟨_,e,rfl⟩,mL F.slot_list_mul ⟨_,e,rfl⟩ F.entry_list_mul (F.args_list_mul_2 _ _) (AutoListH.list___mul___list_int_3 l its.toArray n k t hfit hcap hlong) ⟨e,?_⟩⟩)
 rw [hnew];exact⟨.ref _,_,I.lnew (t':=s.toks) (r.rep k.toNat) (by rw [Uc,U5];exact hz),rfl,q _ I.fresh⟩
end
end L2
namespace Att
open PySem PySem.W PySem.Calls PyProof.Rows
theorem Zb {P:G0g}{h:O6}: ∀ (ns:G0 P2) (vs:G0 G1),WellAll P h vs (ns.map WData.int)->iO vs ns:=by
 intro ns
 induction ns with
 |nil=>
  intro vs w;rw [dF] at w;cases w;exact .nil
 |cons n ns ih=>
  intro vs w;rw [T5] at w;cases w with
  |cons a b=>
   cases a;exact .cons _ _ (ih _ b)
theorem Gv {l:OpenLaw}{n:G6}(hn:l.most=some n){P:G0g}{h:O6}{args:G0 WData}{vals:G0 G1}
 (hpre:l.row.toRowW.claim.pre args=true)(hwl:WellAll P h vals args):
 ∃a vs ns,vals= [U0 a]/\args= [WData.list (ns.map WData.int)]/\h.get? a=some {cls:= .type "list",data:= .seq vs.toArray}/\iO vs ns/\ns.length<=n:=by
 have hsh:WShape.hasAll [] args [.list .int]=true:=(pre_splitW hpre).1;have hc:l.pre.holds [] {args:=args}=true:=(pre_splitW hpre).2;obtain⟨d,r,rfl,h1,h2⟩:=hasAllW_cons hsh;obtain rfl:=hasAllW_nil h2;obtain⟨xs,rfl,h3⟩:=hasW_list h1;obtain⟨ns,rfl⟩:=items_int h3;have hlen:ns.length<=n:=by
  unfold OpenLaw.pre at hc;have h4:(WTm.not (.lt (.lit (.int (n:P2))) (.len (.arg 0)))).holds [] {args:= [.list (ns.map .int)]}=true:=by
   have h4:=(holds_andW hc).1;rw [hn] at h4;exact h4
  have h5:=condW_of h4 (w_not (w_lt w_lit (w_len_list (w_arg rfl))));rw [G5] at h5;refine g6 λq=> ?_
  have q':(n:P2)<((ns.length:G6):P2):=by omega
  first
   |(rw [S7 q'] at h5;exact absurd h5 (by decide))
   |(simp at h5;omega)
 cases hwl with
 |cons w1 w2=>
  cases w2;cases w1 with
  |list ho hall=>exact⟨_,_,ns,rfl,rfl,ho,Zb ns _ hall,hlen⟩
theorem Gw (l:OpenLaw)(args:G0 WData):l.row.toRowW.claim.post args (.bool true) args=true:=
 postW_of (r:=l.row.toRowW) (X:=(true==true))
  (show WShape.has [] (.bool true) .bool=true by first|rfl|decide|simp [WShape.has,WShape.arms,WShape.armsAll])
  (show (WTm.eq .res (.lit (.bool true))).value [] {args:=args,res:=some (.bool true),after:=args}=some (.bool (true==true)) from w_eq_bool (w_res rfl) w_lit) rfl
theorem attach_call {l:OpenLaw}{n:G6}{q:T3}{loose:G0 Str}{XP:(Str->D2 G1)->O6->Prop}{YP:B9->O6->Prop}{d:DefRec}
 (hn:l.most=some n)(hdf:d.params.defaults= [])
 (call: ∀ (w:B9) (s₀ s₁:G3) (mg mb:Str->D2 G1) (fa:P3) (o:Obj) (pm cd doc:G1) (a:P3) (vs:G0 G1) (ns:G0 P2),
  Ground q loose [] XP w s₀ mg mb s₁.heap->YP w s₁.heap->
  s₁.heap.get? fa=some o->o.data= .func (docDef d.name d.params d.body d.scope pm cd doc)->s₁.heap.CodeRec cd d.name->mg d.name=some (.ref fa)->
  s₁.heap.get? a=some {cls:= .type "list",data:= .seq vs.toArray}->iO vs ns->ns.length<=n->s₁.gens= #[]->
  aZ (R7 l.prog w) oS (.call (.ref fa) ⟨[.ref a],[]⟩) (λr s'=>r= .ok (.ret (.bool true))/\OldK s₁.heap s'.heap/\s'.os=s₁.os/\kU s'.gens) s₁):
 WalkO q loose XP YP l.row.toRowW d [] (λf vs=>IQ f vs):=by
 intro w s₀ s₁ mg mb G Y fa o pm cd doc dV kV ho hd hcd hD hmg hg args vals as hpre hlay hrd hwl hlo;obtain rfl:dV= .none:=Dflts.none hD hdf;obtain rfl:kV= .none:=Dflts.noKw hD;obtain⟨a,vs,ns,rfl,rfl,hobj,hints,hlen⟩:=Gv hn hpre hwl;refine enter_call (mG (call w s₀ s₁ mg mb fa o pm cd doc a vs ns G Y ho (fd_plain hd) hcd hmg hobj hints hlen hg) λr s' hq=> ?_);obtain⟨rfl,h2,h3,h4⟩:=hq;exact⟨.inl ⟨.bool true,.bool true,[],rfl,λ_=>rfl,.bool true,Gw l _,λ_=>⟨lB,λ_ hm=>(nomatch hm)⟩⟩,h2,h3,h4⟩
end Att
namespace L2
open PySem PySem.Spec PyProof.Rows
theorem YN: ∀ {vs:G0 G1} {ns:G0 P2},iO vs ns->Vals (ns.map V.int) vs
 |_,_,.nil=> .nil
 |_,_,.cons n t h=> .cons ⟨t,rfl⟩ (YN h)
def Only (H:Hp):Prop:= ∀b,H b=none\/ ∃o xs,H b=some (.frz o (.lst xs))
def wU (s:Q2):Arguments:=match s with
 | .FunctionDef _ a _ _ _ _ _ _ _ _=>a
 |_=> {posonlyargs:= [],args:= [],vararg:=none,kwonlyargs:= [],kw_defaults:= [],kwarg:=none,defaults:= []}
def zH (s:Q2):G0 Q2:=match s with
 | .FunctionDef _ _ b _ _ _ _ _ _ _=>b
 |_=> []
def je (s:Q2):W9:=match s with
 | .FunctionDef _ _ _ _ _ _ sc _ _ _=>sc
 |_=> {kind:= .function,names:= [],isGenerator:=false,isCoroutine:=false}
abbrev CX0:CXT:=λ_ _ _ _ _ _=>False
abbrev E0:XK:=λ_ _ _=>False
variable {X:Cx}
theorem ET:Gp CX0 X E0:=λ_ _ _ _ _ _ _ h=>h.elim
structure Fun (K:G7)(x qual:Str)(st:Q2)(f:P3)(fd:C8):Prop where
 ex: ∃ (oc:G1) (od:D2 P3) (kV doc pm:G1) (an:D2 P3) (cdv ct:G1) (osl:S9 (D2 G1)),
  fd=dB x qual (wU st) (zH st) (je st) .none kV doc pm an cdv ct/\K.lookup f=some ⟨oc,od,.func fd,osl⟩/\nY K cdv qual=true
 kp:bP K (.ref f)=true
section
variable {P:T3}{w:B9}{K:G7}{mg:Str->D2 G1}{base:O6}
variable {qual:Str}
theorem Fun.ok {x:Str}{st:Q2}{f:P3}{fd:C8}{N ps:G0 Str}{k:G6}{sp:Sp}(F:Fun K x qual st f fd)(S:FnScope N ps (je st))(len: ∀vs H Q E,sp vs H Q E->vs.length=ps.length)
 (hbody: ∀ (cdv:G1) (A:N6) (outer:G0 Env) (s:G3) (H:Hp) (vs:G0 V) (Q:VK) (E:XK),Room k (A.deeper (iZ qual (je st) s.heap.objs.size f cdv))->sp vs H Q E->
  ∃t,PSs (RG CX0 P w K mg base N qual (je st) f cdv A outer s H E).nox (zH st) t/\t {nx:=λ_ H'=>Q .non H',rt:=Q} (start N vs) H):FnOk P w K mg base CX0 (k+1) f fd ps sp:=by
 obtain⟨oc,od,kV,doc,pm,an,cdv,ct,osl,rfl,lk,hcd⟩:=F.ex;refine EN lk hcd S len λA outer s H vs Q E hr hsp=> ?_
 obtain⟨t,h,q⟩:=hbody cdv A outer s H vs Q E hr hsp;exact⟨t,h.nox,q⟩
theorem Fun.binds {x:Str}{st:Q2}{f:P3}{fd:C8}{ps:G0 Str}(F:Fun K x qual st f fd)
 (h: ∀ (kV doc pm:G1) (an:D2 P3) (cdv ct:G1) (us:G0 G1),us.length=ps.length->xS (dB x qual (wU st) (zH st) (je st) .none kV doc pm an cdv ct) ⟨us,[]⟩=pure (ps.zip us)):Binds K fd ps []:=by
 obtain⟨oc,od,kV,doc,pm,an,cdv,ct,osl,rfl,lk,hcd⟩:=F.ex;exact .all (h kV doc pm an cdv ct)
theorem Oe {x:Str}{st:Q2}{f:P3}{oc:G1}{od an:D2 P3}{osl:S9 (D2 G1)}{kV doc pm cdv ct:G1}(l:K.lookup f=some ⟨oc,od,.func (dB x qual (wU st) (zH st) (je st) .none kV doc pm an cdv ct),osl⟩)
 (c:nY K cdv qual=true)(k:bP K (.ref f)=true):Fun K x qual st f (dB x qual (wU st) (zH st) (je st) .none kV doc pm an cdv ct):=⟨⟨oc,od,kV,doc,pm,an,cdv,ct,osl,rfl,l,c⟩,k⟩
end
theorem jY {n:G6}(h:n<=1000):n<sizeLine:=X6 h (by decide)
section
variable {X:Cx}
theorem pv (i:G6){x:Str}{pos:Pos}(hN:X.N[i]? =some x:=by rfl)(hv:Vis X.env.scope x:=by first|exact U7 rfl|exact aW (U7 rfl)|exact aW (aW rfl))(hd:(x==("__debug__" :Str))=false:=by decide)
 (hcd:(x==("__classdict__" :Str))=false:=by decide):PE X (.Name x pos) (EA i):=Nq hN hv hd hcd
end
theorem Wb {A B:Prop}(h:B):if false=true then A else B:=by
 rw [R9 D6];exact h
theorem Gx {A B:Prop}(h:A):if true=true then A else B:=by
 rw [R8 rfl];exact h
theorem Ud {c A B:Prop}[Decidable c](h1:c->A)(h2: ¬c->B):if c then A else B:=by
 by_cases h:c
 ·rw [R8 h];exact h1 h
 ·rw [R9 h];exact h2 h
section
variable {X:Cx}{pins:G0 (P3×Obj)}{σ:St}{H:Hp}{s:G3}{a:P3}{y v:V}{u r:G1}{o:D2 V}{A:N6}{E:G1->G3->Prop}
theorem Inv.big (I:Inv X pins σ H s):bX<s.heap.objs.size:=by
 have h:J5<s.heap.objs.size:=(I.mod.glob.keeps I.bk).lt;exact V2 (by decide) h
theorem Gy {h':O6}{t':G6}{ob:HO}(I:Inv X pins σ H s)(mu:Mut (H a))(hs:O7 a s.heap h')(he: ∃q,h'.get? a=some q)(new:ObjOk X.prog X.w (upd H a ob) h' a ob):
 Inv X pins σ (upd H a ob) {s with heap:=h',toks:=t'}:=
 I.write (x:=a) (e:=a) mu (.inl rfl) (λb q hb z=>(hs.2 b hb).trans z) he new
end
def EU (i:M9):Prop:= ∀ov iv,n4 i false ov iv=KJ [ov,iv] (k9 ov iv)
variable {prog:T3}{w:B9}{env:Env}{pos:Pos}
theorem BI {A:N6}{E:G1->G3->Prop}{s:G3}{value slice:M9}{T id:V1}{Q:G1->G3->Prop}
 (hl:IM (.type T) "__getitem__" =pure (some (.builtin id)))(hs:EU slice)
 (h:R3 (R7 prog w) A (J7 value env) (λo s₁=>R3 (R7 prog w) A (J7 slice env) (λi s₂=>s₂.TypeIs o T/\R3 (R7 prog w) A (k9 o i) Q E s₂) E s₁) E s):
 R3 (R7 prog w) A (J7 (.Subscript value slice pos) env) Q E s:=by
 refine tK (T7 h (λo s₁ h₁=>T7 h₁ (λi s₂ h₂=> ?_) λ_ _ x=>x) λ_ _ x=>x);obtain⟨hT,h₂⟩:=h₂;unfold o8;refine wpAny_bind ?_;rw [getitemInPython_of_ne hT.not_modules];refine wpAny_bind (X0 hT hl ?_);have fin:R3 (R7 prog w) A (n4 slice false o i) (λr s₃=>R3 (R7 prog w) A (letTemporaryGo value o r >>= λ_=>pure r) Q E s₃) E s₂:=by
  rw [hs o i];exact wpAny_operating (T7 h₂ (λr s₃ h₃=>wpAny_bind (wpAny_letTemporaryGo (P0 h₃))) λ_ _ x=>x)
 first
  |exact P0 (wpAny_bind fin)
  |exact wpAny_bind (P0 (wpAny_bind fin))
  |exact wpAny_bind fin
structure M2 (X:Cx)(o:M9)(m:Str)(apos:Pos)(e f:M9)(cpos:Pos):Prop where
 base:cH o m X.env (J7 o X.env)=J7 o X.env
 few:((U6 cpos (S1 [e,f] X.env)).all (λx=> !x.1)&&(lU cpos (fU [] X.env)).all (λx=>x.1.isSome)
  &&decide (([e,f]:G0 M9).length+([]:G0 dE).length+(if ([]:G0 dE).isEmpty then 0 else 1)<30))=true
 line:(apos.endLine==cpos.line)=true
 trees:U6 cpos (S1 [e,f] X.env)= [(false,J7 e X.env),(false,J7 f X.env)]
def wb (names:G0 (Str×NameKind))(env:Env)(cs:G0 (Str×P3)):G0 (Str×P3):=
 names.foldl (λcs p=>if p.2= .free then (match env.cells.lookup p.1 with|some c=>(p.1,c)::cs|none=>cs) else cs) cs
theorem zC (p:Str×NameKind)(l:G0 (Str×NameKind))(env:Env)(cs:G0 (Str×P3)):
 wb (p::l) env cs=wb l env (if p.2= .free then (match env.cells.lookup p.1 with|some c=>(p.1,c)::cs|none=>cs) else cs):=rfl
theorem Zc {f:Str×NameKind->G0 (Str×P3)->Sem (fV (G0 (Str×P3)))}
 (h1: ∀p cs,p.2≠ .free->f p cs=pure (.yield cs))(h2: ∀p cs c,p.2= .free->env.cells.lookup p.1=some c->f p cs=pure (.yield ((p.1,c)::cs))):
 ∀ (l:G0 (Str×NameKind)) (cs:G0 (Str×P3)),(∀p∈l,p.2= .free-> ∃c,env.cells.lookup p.1=some c)->forIn l cs f=pure (wb l env cs)
 | [],cs,_=>rfl
 |p::l,cs,h=>by
  have ih:=Zc h1 h2 l
  by_cases hp:p.2= .free
  ·obtain⟨c,hc⟩:=h p P4 hp;rw [cC,h2 p cs c hp hc,pure_bind];show forIn l ((p.1,c)::cs) f=_;rw [ih _ λq hq=>h q (R1 _ hq),zC,R8 hp,hc]
  ·rw [cC,h1 p cs hp,pure_bind];show forIn l cs f=_;rw [ih _ λq hq=>h q (R1 _ hq),zC,R9 hp]
variable {scope:W9}
theorem vg (h: ∀p∈scope.names,p.2= .free-> ∃c,env.cells.lookup p.1=some c):IR scope env=pure (wb scope.names env []):=by
 simp only [IR];rw [Zc (env:=env) (λp cs hp=> ?_) (λp cs c hp hc=> ?_) _ _ h]
 ·rfl
 ·obtain⟨n,k⟩:=p;have hb:(k==A3)=false:=by simpa using hp
  simp only [hb,F5,nZ]
 ·obtain⟨n,k⟩:=p;have hb:(k==A3)=true:=by simpa using hp
  have hc':env.cells.lookup n=some c:=hc;simp only [hb,oR,cellOf,hc',pure_bind]
theorem Zd: ∀ (l:G0 (Str×NameKind)) (cs:G0 (Str×P3)),(∀p∈cs,env.cells.lookup p.1=some p.2)-> ∀p∈wb l env cs,env.cells.lookup p.1=some p.2
 | [],cs,h,p,hp=>h p hp
 |q::l,cs,h,p,hp=>by
  rw [zC] at hp;refine Zd l _ (λr hr=> ?_) p hp
  by_cases hq:q.2= .free
  ·rw [R8 hq] at hr;cases e:env.cells.lookup q.1 with
   |none=>rw [e] at hr;exact h r hr
   |some c=>
    rw [e] at hr;rcases R5.mp hr with rfl|hr
    ·exact e
    ·exact h r hr
  ·rw [R9 hq] at hr;exact h r hr
theorem Ze: ∀ (l:G0 (Str×NameKind)) (cs:G0 (Str×P3)),∀p∈cs,p∈wb l env cs
 | [],cs,p,hp=>hp
 |q::l,cs,p,hp=>by
  rw [zC];refine Ze l _ p ?_
  by_cases hq:q.2= .free
  ·rw [R8 hq];cases e:env.cells.lookup q.1 with
   |none=>exact hp
   |some c=>exact R1 _ hp
  ·rw [R9 hq];exact hp
variable {x:Str}
theorem Zf {c:P3}(hc:env.cells.lookup x=some c): ∀ (l:G0 (Str×NameKind)) (cs:G0 (Str×P3)),(x,A3)∈l->(x,c)∈wb l env cs
 |q::l,cs,h=>by
  rw [zC];rcases R5.mp h with e|h
  ·subst e;rw [R8 rfl,hc];exact Ze l _ _ P4
  ·exact Zf hc l _ h
variable {α:Type}
theorem zj: ∀ {l:G0 (Str×α)} {x:Str} {c:α},l.lookup x=some c->(x,c)∈l
 | [],_,_,h=>by simp at h
 |(n,k)::r,x,c,h=>by
  rw [I0] at h;cases hx:x==n with
  |true=>
   rw [hx] at h;have e:x=n:=eq_of_beq hx;cases h;subst e;exact P4
  |false=>rw [hx] at h;exact R1 _ (zj h)
theorem Wc: ∀ {l:G0 (Str×α)} {x:Str} {c:α},(x,c)∈l-> ∃c',l.lookup x=some c'
 |(n,k)::r,x,c,h=>by
  rw [I0];cases hx:x==n with
  |true=>exact⟨_,rfl⟩
  |false=>
   rcases R5.mp h with e|h
   ·cases e;simp at hx
   ·exact Wc h
theorem Wd {l:G0 (Str×NameKind)}{c:P3}(h:(wb l env []).lookup x=some c):env.cells.lookup x=some c:=
 Zd l [] (λ_ z=>nomatch z) (x,c) (zj h)
theorem Gz {l:G0 (Str×NameKind)}{c:P3}(hc:env.cells.lookup x=some c)(h:(x,A3)∈l):(wb l env []).lookup x=some c:=by
 obtain⟨c',e⟩:=Wc (Zf hc l [] h);have:=Wd e;rw [hc] at this;cases this;exact e
theorem ww {κ:Type}{f:Str×κ->Str×κ}{g:Str->κ->κ}(hf: ∀n k,f (n,k)=(n,g n k))(x:Str): ∀l:G0 (Str×κ),(l.map f).lookup x=(l.lookup x).map (g x)
 | []=>rfl
 |(n,k)::r=>by
  rw [T5,hf,I0,I0,ww hf x r];cases same:x==n with
  |false=>rfl
  |true=>rw [eq_of_beq same];rfl
theorem jx {names:G0 (Str×NameKind)}{k:NameKind}(found:
 (names.map λ(n,k)=>if (k==A3&&env.scope.kind== .function&&env.kindOf n==some .cell) then (n,U1) else (n,k)).lookup x=some k):
  names.lookup x=some k\/names.lookup x=some .free:=by
 rw [ww (g:=λn k=>if (k==A3&&env.scope.kind== .function&&env.kindOf n==some .cell) then .cell else k) (λn k=>by dsimp only;split<;>rfl)] at found;obtain⟨k0,was,now⟩:=F4.mp found;split at now
 ·rename_i c;simp only [C6,beq_iff_eq] at c;exact .inr (by rw [was,c.1.1])
 ·exact .inl (by rw [was,now])
theorem zM: ∀ (names:G0 (Str×NameKind)) (n:G6) (acc:G0 (Str×P3)) (p:Str×P3),p∈W6 n names acc->p∈acc\/(n<=p.2/\(p.1,U1)∈names)
 | [],_,_,_,h=> .inl h
 |(x,k)::r,n,acc,p,h=>by
  unfold W6 at h;split at h
  ·rename_i hk;rcases zM r (n+1) _ p h with z|⟨z1,z2⟩
   ·rcases R5.mp z with e|z
    ·subst e;have:k= .cell:=by simpa using hk
     subst this;exact .inr ⟨P6 _,P4⟩
    ·exact .inl z
   ·exact .inr ⟨by omega,R1 _ z2⟩
  ·rcases zM r n acc p h with z|⟨z1,z2⟩
   ·exact .inl z
   ·exact .inr ⟨z1,R1 _ z2⟩
theorem jJ: ∀ (names:G0 (Str×NameKind)) (n:G6) (acc:G0 (Str×P3)),W6 n names acc=W6 n names []++acc
 | [],_,_=>rfl
 |(x,k)::r,n,acc=>by
  unfold W6;split
  ·rw [jJ r (n+1) ((x,n)::acc),jJ r (n+1) [(x,n)],D5];rfl
  ·exact jJ r n acc
theorem ym (l l':G0 (Str×α))(x:Str):(l++l').lookup x=(match l.lookup x with|some c=>some c|none=>l'.lookup x):=by
 induction l with
 |nil=>rfl
 |cons p l ih=>
  obtain⟨n,c⟩:=p;rw [aJ,I0,I0];cases x==n with
  |true=>rfl
  |false=>exact ih
theorem yO {names:G0 (Str×NameKind)}(here:names.lookup x=some .cell):
 (names.map λ(n,k)=>if (k==A3&&env.scope.kind== .function&&env.kindOf n==some .cell) then (n,U1) else (n,k)).lookup x=some .cell:=by
 rw [ww (g:=λn k=>if (k==A3&&env.scope.kind== .function&&env.kindOf n==some .cell) then .cell else k) (λn k=>by dsimp only;split<;>rfl),here];simp
section
variable {M:pU}{A:N6}{E:G1->G3->Prop}{s:G3}
theorem Qe (h:O6)(names:G0 (Str×NameKind)):(∀n c,(n,c)∈W6 h.objs.size names []->(pushCells h names).IsCell c none/\h.objs.size<=c)/\(W6 h.objs.size names []).Pairwise λx y=>x.2≠y.2:=
 have laid:=cellsFrom_ok names h h.objs.size [] ⟨by simp,.nil⟩ (P6 _)
 ⟨laid.empty,laid.apart⟩
theorem Jt {scope:W9}{globals:P3}{closure:G0 (Str×P3)}{qual:Str}{func:D2 P3}{code:G1}{outer:Env}{builtins:P3}{Q:Env->G3->Prop}
 (hQ: ∀h',h'.Ns s.heap.objs.size (λ_=>none)->(∀b o,s.heap.get? b=some o->h'.get? b=some o)->(∀n c,(n,c)∈W6 (s.heap.objs.size+1) scope.names []->h'.IsCell c none/\s.heap.objs.size+1<=c)->
  ((W6 (s.heap.objs.size+1) scope.names []).Pairwise λx y=>x.2≠y.2)->
  Q (newEnv scope s.heap.objs.size globals (W6 (s.heap.objs.size+1) scope.names closure) qual func code (some outer) builtins) {s with heap:=h'}):
 R3 M A (tN scope globals closure [] qual func code (some outer) builtins) Q E s:=by
 have names:=Qe (s.heap.push {cls:= .type "dict",data:= .dict #[]}) scope.names;have first:(s.heap.push {cls:= .type "dict",data:= .dict #[]}).objs.size=s.heap.objs.size+1:=cU ..
 rw [first] at names;unfold tN;refine wpAny_bind (wpAny_alloc (wpAny_bind (wpAny_layCells _ (λn k cs=>rfl) _ _ _ _ ?_)));simp only [Option.isSome_some,oR];rw [first];exact wpAny_bind (P0 (P0 (hQ _ ((Heap.Ns.new _ _).keeps (sB _ _)) (λb o here=>sB _ _ b o (G9 _ here)) names.1 names.2)))
end
def jy (X:Cx)(scope:W9)(C:P3):G0 (Str×P3):=W6 (C+1) scope.names (wb scope.names X.env [])
def wc (X:Cx)(scope:W9)(C:P3)(s₀:G3)(H₀:Hp)(ex:G0 P3):Cx:=
 {X with s₀:=s₀,H₀:=H₀,env:=lV scope (jy X scope C) C X.env,outer:=X.stack,ex:=ex,fn:=λx=>scope.names.lookup x==some .cell,pn:= [],xe:=λ_ _=>False}
def jg (X:Cx)(scope:W9)(X':Cx):Prop:= ∃C s₀ H₀ ex,X'=wc X scope C s₀ H₀ ex
structure BlockOk (X:Cx)(scope:W9)(js:G0 G6):Prop where
 kind:scope.kind= .function
 locs: ∀p∈scope.names,p.2= .local->scope.names.lookup p.1=some .local
 cels: ∀p∈scope.names,p.2= .cell->scope.names.lookup p.1=some .cell
 free: ∀p∈scope.names,p.2= .free->X.env.scope.names.lookup p.1=some .cell\/X.env.scope.names.lookup p.1=some .free
 js: ∀ (i:G6) (x:Str),X.N[i]? =some x->(scope.names.lookup x=some .local\/scope.names.lookup x=some .cell)->i∈js
variable {js:G0 G6}
theorem jU (S:BlockOk X scope js){C:P3}{x:Str}{c:P3}(h:(jy X scope C).lookup x=some c):
 (scope.names.lookup x≠some .cell/\X.env.cells.lookup x=some c)\/(scope.names.lookup x=some .cell/\(x,c)∈W6 (C+1) scope.names []):=by
 unfold jy at h;rw [jJ,ym] at h;cases e:(W6 (C+1) scope.names []).lookup x with
 |some d=>
  rw [e] at h;cases h;have m:=zj e;rcases zM _ _ _ _ m with z|⟨_,z⟩
  ·exact absurd z (by simp)
  ·exact .inr ⟨S.cels _ z rfl,m⟩
 |none=>
  rw [e] at h;refine .inl ⟨λz=> ?_,Wd h⟩;obtain⟨d,hd⟩:=vf (sc:=scope) (n:=C+1) z;rw [e] at hd;cases hd
theorem zW (S:BlockOk X scope js){C:P3}{x:Str}{c:P3}(hc:X.env.cells.lookup x=some c)(h:(x,A3)∈scope.names)(hn:scope.names.lookup x≠some .cell):(jy X scope C).lookup x=some c:=by
 unfold jy;rw [jJ,ym];cases e:(W6 (C+1) scope.names []).lookup x with
 |some d=>
  rcases zM _ _ _ _ (zj e) with z|⟨_,z⟩
  ·exact absurd z (by simp)
  ·exact absurd (S.cels _ z rfl) hn
 |none=>exact Gz hc h
def zk:G0 G6->St->St
 | [],σ=>σ
 |j::js,σ=>zk js (σ.set j none)
theorem vW: ∀ (js:G0 G6) (σ:St),(zk js σ).length=σ.length
 | [],_=>rfl
 |j::js,σ=>by rw [zk,vW js];simp
theorem vh: ∀ (js:G0 G6) (σ:St) (i:G6) (v:V),(zk js σ)[i]? =some (some v)->σ[i]? =some (some v)
 | [],_,_,_,h=>h
 |j::js,σ,i,v,h=>by
  have h1:=vh js _ i v h
  by_cases e:i=j
  ·subst e;rw [gE] at h1;simp at h1
  ·rwa [K7 (E4 e)] at h1
theorem jR: ∀ (js:G0 G6) (σ:St) (i:G6) (v:V),i∈js-> ¬ (zk js σ)[i]? =some (some v)
 |j::js,σ,i,v,hm,h=>by
  rcases R5.mp hm with rfl|hm
  ·have h1:=vh js _ i v h;rw [gE] at h1;simp at h1
  ·exact jR js _ i v hm h
variable {H:Hp}{a:P3}{o:HO}
theorem HOk.track {P:T3}{h:O6}(x:HOk P w H h)(hn:H a=none)(new:ObjOk P w (upd H a o) h a o):HOk P w (upd H a o) h:=λb u e=>by
 by_cases hb:b=a
 ·subst hb;rw [jt] at e;cases e;exact new
 ·rw [jj hb] at e;exact(x b u e).stay (λc v _ q=>q) (λc q=>by rw [jj (jh q hn)];exact q) λc xs q=>by rw [jj (jh q hn)];exact q
def Agree (σ σ':St):Prop:=σ'.length=σ.length/\ ∀ (i:G6) (v:V),σ[i]? =some (some v)->σ'[i]? =some (some v)
variable {σ:St}
theorem Agree.set {j:G6}(v:V)(h: ∀u,¬σ[j]? =some (some u)):Agree σ (σ.set j (some v)):=⟨by simp,λi u q=>by
 by_cases e:j=i
 ·subst e;exact absurd q (h u)
 ·rw [K7 e];exact q⟩
theorem Agree.trans {a b c:St}(x:Agree a b)(y:Agree b c):Agree a c:=⟨y.1.trans x.1,λi v h=>y.2 i v (x.2 i v h)⟩
def PTs (X:Cx)(ifs:G0 M9)(t:TT):Prop:=
 ∀ (pins:G0 (P3×Obj)) (s:G3) (σ:St) (H:Hp) (Q:N0->Hp->Prop),Inv X pins σ H s->t σ H Q->
  R3 (R7 X.prog X.w) X.A (forIn ifs true λc r=>if r=true then do let ok <-isTrue c X.env (J7 c X.env);pure (Z9 ok) else pure (Z9 r)) (TP X pins σ Q) X.xe s
def TU:TT:=λ_ H Q=>Q true H
theorem BJ:PTs X [] TU:=λ_ _ _ H _ I h=>wpAny_tests_nil ⟨H,I,h⟩
theorem BK {c:M9}{t:TT}(hc:PT X c t):PTs X [c] t:=λpins s σ H Q I h=>wpAny_tests_one (hc pins s σ H Q I h)
def vj (iter target:M9)(ifs:G0 M9)(it:G1)(env:Env)(act:Sem Unit)(nxt:Code):Sem g7:=do
 fB iter.pos
 match <-pG it with
 |none=>pure (.done .next)
 |some v=>
  cB target it v
  dP target env v
  let mut ok:=true
  for c in ifs do
   if ok then ok <-isTrue c env (J7 c env)
  if ok then act
  again nxt
variable {elt iter:M9}{ifs:G0 M9}
theorem UY {A:N6}{R:pI->G3->Prop}{s:G3}{target:M9}{gens:G0 aH}{depth:G6}{it acc:G1}{act:Sem Unit}(I:G6->G3->Prop)
 (heq:iE (.ListComp elt gens scope pos) depth it acc env=vj iter target ifs it env act (.compLoop (.ListComp elt gens scope pos) depth it acc env))
 (turn: ∀n s,I n s->R3 (R7 prog w) A (pG it) (λr s₁=>match r with
  |none=>R (.ok .next) s₁
  |some v=>R3 (R7 prog w) A (cB target it v) (λ_ s₁=>R3 (R7 prog w) A (dP target env v) (λ_ s₂=>
   R3 (R7 prog w) A (forIn ifs true λc r=>if r=true then do let ok <-xC c env (J7 c env);pure (Z9 ok) else pure (Z9 r)) (λok s₃=>
    if ok=true then R3 (R7 prog w) A act (λ_ s₅=> ∃m,m<n/\I m s₅) (λ_ _=>False) s₃
    else ∃m,m<n/\I m s₃) (λ_ _=>False) s₂) (λ_ _=>False) s₁) (λ_ _=>False) s₁) (λ_ _=>False) s)
 (n:G6)(h:I n s):
 aZ (R7 prog w) A (.compLoop (.ListComp elt gens scope pos) depth it acc env) R s:=by
 refine xD rfl I (λn s hI=> ?_) n h;show R3 _ A ((iE (.ListComp elt gens scope pos) depth it acc env).onRaise (λx=>do w8 x env;mZ x)) _ _ s;refine xT ?_;rw [heq];unfold vj;refine wpAny_bind (Y1 (wpAny_bind (T7 (turn n s hI) (λr s₁ h₁=> ?_) λ_ _ h'=>h'.elim)));cases r with
 |none=>exact P0 h₁
 |some v=>
  refine wpAny_bind (T7 h₁ (λ_ s₁ h₁=> ?_) λ_ _ h'=>h'.elim);refine wpAny_bind (T7 h₁ (λ_ s₂ h₂=>wpAny_bind (T7 h₂ (λok s₃ h₃=> ?_) λ_ _ h'=>h'.elim)) λ_ _ h'=>h'.elim);cases ok with
  |false=>exact P0 ⟨rfl,h₃⟩
  |true=>exact wpAny_bind (T7 h₃ (λ_ s₅ h₅=>P0 ⟨rfl,h₅⟩) λ_ _ h'=>h'.elim)
abbrev TM:=St->Hp->G0 V->(G0 V->Hp->Prop)->Prop
def Ep (X:Cx)(D:P3)(act:Sem Unit)(t:TM):Prop:=
 ∀ (pins:G0 (P3×Obj)) (s:G3) (σ:St) (H:Hp) (ys:G0 V) (us:G0 G1) (Q:G0 V->Hp->Prop),Inv X ([(D,a9 us)]++pins) σ H s->Vals ys us->ys.length<=sizeLine->D∈X.ex->(∀x c,X.env.cells.lookup x=some c->c≠D)->(∀p∈X.pn++pins,p.1≠D)->t σ H ys Q->
  R3 (R7 X.prog X.w) X.A act (λ_ s'=> ∃ys' us' H',Vals ys' us'/\Inv X ([(D,a9 us')]++pins) σ H' s'/\Q ys' H') (λ_ _=>False) s
def Of (te:TE):TM:=λσ H ys Q=>te σ H λy H1=>Q (ys++ [y]) H1
def We (elt:M9)(env:Env)(acc:G1):Sem Unit:=do let _ <-call (.builtin "list.append") [acc,<-J7 elt env]
variable {te:TE}
theorem WA {D:P3}(hx:X.xe=λ_ _=>False)(he:PE X elt te):Ep X D (We elt X.env (.ref D)) (Of te):=by
 intro pins s σ H ys us Q I hv hz DX cD pD h;have q:=he _ s σ H _ I h;rw [hx] at q;unfold We;refine wpAny_bind (T7 q (λy s1 ⟨yv,H1,I1,r1,q1⟩=> ?_) λ_ _ z=>z);have zD:=I1.pin (D,a9 us) (P5 _ (M8 _ P4));refine wpAny_bind (append_at (its:=us.toArray) (n:=us.length) zD.1 (λh11 hs11 hD11=>P0 ?_) (by rw [R4,<-hv.length];exact hz));have I10u:Inv X pins σ H1 s1:=I1.pins_of λp hp=>I1.pin p (P5 _ (P5 _ hp))
 have I11:Inv X pins σ H1 {s1 with heap:=h11}:=I10u.turned (t':=s1.toks) (it:=D) (λb o hb e=>hs11.extBut b o hb e) zD.2.1 zD.2.2.1 (.inl DX) cD pD;have eD:h11.get? D=some (a9 (us++ [y])):=by rw [hD11];exact congrArg some (LCg.lst_snoc us y)
 refine⟨ys++ [yv],us++ [y],H1,hv.append (.cons r1 .nil),I11.pins_of λp hp=> ?_,q1⟩;rcases D8.mp hp with z|z
 ·rcases G8.mp z with rfl
  exact⟨eD,zD.2.1,zD.2.2.1,zD.2.2.2.1,λv z=>by cases z⟩
 ·exact I11.pin p (P5 _ z)
def Eq (js : G0 G6) (wi : TI) (g : TG) (tt : TT) (tm : TM) : TE := fun σ H Q => wi σ H fun J H1 =>
  ∃ W : G6 → G6 → G0 V → Hp → Prop, (∃ m, W 0 m [] H1) ∧ ∀ i m ys H, W i m ys H → ys.length ≤ sizeLine ∧
    ((J.stop i H ∧ ∀ p, H p = none → Q (.ref p) (upd H p (.lst ys))) ∨
     (J.go i H ∧ ∀ x H', J.yld i H x H' → g x (zk js σ) H' fun σ2 H2 => Agree (zk js σ) σ2 ∧ tt σ2 H2 fun b H3 =>
        if b = true then tm σ2 H3 ys fun ys' H4 => ∃ m', m' < m ∧ W (i + 1) m' ys' H4 else ∃ m', m' < m ∧ W (i + 1) m' ys H3))
def tLC (js:G0 G6)(wi:TI)(g:TG)(tt:TT)(te:TE):TE:=Eq js wi g tt (Of te)
variable {e tg:M9}{wi:TI}{g:TG}{tt:TT}
theorem GA {rest:G0 aH}{pos0:Pos}{tm:TM}{use:D2 (G1->Sem Unit)}{Qv:G1->G3->Prop}(hc:X.calm=true)(S:BlockOk X scope js)(hi:PI X tg iter wi)
 (he0:e= .ListComp elt (⟨tg,iter,ifs,0⟩::rest) scope pos)
 (hg: ∀X',jg X scope X'->PG X' tg g)(ht: ∀X',jg X scope X'->PTs X' ifs tt)
 (act:Env->G1->Sem Unit)(hturn: ∀it acc env,iE e 0 it acc env=vj iter tg ifs it env (act env acc) (.compLoop e 0 it acc env))(he: ∀X',jg X scope X'-> ∀D,Ep X' D (act X'.env (.ref D)) tm)
 (hs: ∀x,M5 iter X.env x=pure x){pins:G0 (P3×Obj)}{s:G3}{σ:St}{H:Hp}{Q:VK}(I:Inv X pins σ H s)(h:Eq js wi g tt tm σ H Q)
 (fin: ∀ (D C:P3) (H':Hp) (s':G3) (m:Str->D2 G1),s'.heap.Ns C m->(∀h',O7 C s'.heap h'->Inv X pins σ H' {s' with heap:=h'})->H' C=none->C≠X.env.locals->C ∉ X.fs->X.s₀.heap.objs.size<=C->(∀x c,X.env.cells.lookup x=some c->c≠C)->(∀p∈X.pn++pins,p.1≠C)->
  Q (.ref D) H'->tO (R7 X.prog X.w) X.A X.xe use Qv (.ref D) C (.ok .next) s'):
 R3 (R7 X.prog X.w) X.A (lF e scope X.env pos0 (newList []) false (J7 iter X.env) use) Qv X.xe s:=by
 have hclos:=vg (scope:=scope) (env:=X.env) (λp hp e=>I.ok.has p.1 (S.free p hp e));subst he0;refine lG (use:=use) rfl hs hclos S.kind S.locs (thn (hi pins s σ H _ I h) λv s1 h1=>thn h1 λitv s2 h2=> ?_);obtain⟨it,fp,tn,J,H2,e,I2,T,st2,f2,W,⟨m0,w0⟩,turn⟩:=h2;subst e;refine Y9 (Jt (λh₁ hns₁ hkp₁ hcl₁ hap₁=> ?_));dsimp only at hns₁ hkp₁ hcl₁ hap₁ ⊢;generalize hD:s2.heap.objs.size=D;generalize hH3:s2.heap.push {cls:= .type "list",dict:=none,data:= .seq ([]:G0 G1).toArray}=h3 at hns₁ hkp₁ hcl₁ hap₁ ⊢;have sz3:h3.objs.size=D+1:=by rw [<-hH3,cU,hD]
 have up3: ∀b o,s2.heap.get? b=some o->h3.get? b=some o:=λb o e=>hH3 ▸ G9 _ e
 have I3:Inv X pins σ H2 {s2 with heap:=h3}:=I2.kept (t':=s2.toks) up3;have hD3:h3.get? D=some (a9 []):=by rw [<-hH3,<-hD];exact S5 _ rfl
 have fD:Ua X pins H2 D:=I2.fpOk (by rw [hD];exact P6 _) (I2.hok.fresh (by rw [hD];exact P6 _));have obf: ∀b∈fp,∃o,s2.heap.get? b=some o/\ ∀v,o.data≠ .cell v:=T.obj _ _ st2;have ltf: ∀b∈fp,b<D:=λb hb=>by obtain⟨o,e,_⟩:=obf b hb;rw [<-hD];exact R0 e
 generalize hC:h3.objs.size=C at hns₁ hcl₁ hap₁ ⊢;have CD:C=D+1:=hC.symm.trans sz3;have upC: ∀b o,h3.get? b=some o->h₁.get? b=some o:=hkp₁;generalize hX:wc X scope C {s2 with heap:=h3} H2 (fp++ [D])=X';have iX:jg X scope X':=⟨C,_,_,_,hX.symm⟩;have hf: ∀b∈fp++ [D],Ua X pins H2 b:=λb hb=>(D8.mp hb).elim (f2 b) λz=>by rw [G8.mp z];exact fD
 have cl: ∀x c,(jy X scope C).lookup x=some c->X.env.cells.lookup x=some c\/C<c:=λx c e=>by
  rcases jU S e with ⟨_,z⟩|⟨_,z⟩
  ·exact .inl z
  ·exact .inr (V3 (hcl₁ x c z).2)
 have olt: ∀x c,X.env.cells.lookup x=some c->c<C:=λx c e=>by obtain⟨v,q⟩:=I3.cell x c e;rw [<-hC];exact q.lt
 have ltb: ∀b∈fp++ [D],b<C:=λb hb=>(D8.mp hb).elim (λz=>by have:=ltf b z;rw [CD];exact cN this) λz=>by rw [G8.mp z,CD];exact J0 _
 have okX:X'.Ok:=by
  subst hX;refine⟨I.ok.mod,S.kind,I.ok.glob,I.ok.blt,E5 hC,λx y c e1 e2=> ?_,λx hx=> ?_,λx c z e=> ?_,I.ok.hd,I.ok.frames,.inl rfl,λb hb=>⟨M1 (ltb b hb),λx c e=>(cl x c e).elim (λz=>(hf b hb).2.2.2.2.1 x c z) λz=>U4 (V2 (ltb b hb) z)⟩,
   I3.bs,S0 I.ok.bsz I3.sz,λb o e hb=> ?_,λb hb z=> ?_,I3.stack,I3.stkFree⟩
  ·rcases jU S e1 with ⟨_,z1⟩|⟨_,z1⟩<;>rcases jU S e2 with ⟨_,z2⟩|⟨_,z2⟩
   ·exact I.ok.inj x y c z1 z2
   ·exact absurd (V2 (olt x c z1) (V3 (hcl₁ y c z2).2)) (B7 _)
   ·exact absurd (V2 (olt y c z2) (V3 (hcl₁ x c z1).2)) (B7 _)
   ·exact p4 hap₁ z1 z2
  ·have own:scope.names.lookup x=some .cell-> ∃c,(jy X scope C).lookup x=some c:=λz=>by
    obtain⟨c,hc⟩:=vf (sc:=scope) (n:=C+1) z;exact⟨c,by unfold jy;rw [jJ,ym,hc]⟩
   have shr:scope.names.lookup x=some .free-> ∃c,(jy X scope C).lookup x=some c:=λz=>by
    have fm:=zj z;obtain⟨c,hc⟩:=I.ok.has x (S.free _ fm rfl);exact⟨c,zW S hc fm (by rw [z];decide)⟩
   rcases hx with hx|hx
   ·rcases jx (env:=X.env) hx with z|z
    ·exact own z
    ·exact shr z
   ·rcases jx (env:=X.env) hx with z|z<;>exact shr z
  ·have z':scope.names.lookup x=some .cell:=by
    have z2:(scope.names.lookup x==some U1)=true:=z;simpa using z2
   rcases jU S e with ⟨n,_⟩|⟨_,m⟩
   ·exact absurd z' n
   ·show h3.objs.size<=c;rw [hC];exact M0 (V3 (hcl₁ x c m).2)
  ·rcases (hf b hb).2.2.2.1 with z|z
   ·exact I.ok.noex b o e z
   ·exact absurd (N7 (R0 e) (S0 I.ok.bsz z)) (B7 _)
  ·rcases R5.mp (I.stkSub b z) with q|q
   ·exact(hf b hb).2.1 q
   ·exact(hf b hb).2.2.1 q
 -- the block's first state
 have I4:Inv X' [(D,a9 [])] (zk js σ) H2 {s2 with heap:=h₁}:=by
  subst hX;have hDC:D≠C:=by rw [CD];exact M1 (J0 _)
  refine⟨okX,rfl,I2.bare,Un.kept (λb u e=>upC b u e),⟨_,hns₁,λi x v e1 e2 e3=> ?_⟩,λx c e=> ?_,I3.hok.fresh (E5 hC),λx c e=>(cl x c e).elim (λz=>I2.freeC x c z) (λz=>I3.hok.fresh (by rw [<-hC] at z;exact M0 z)),λp hp=> ?_,I3.hok.kept upC,(vW js σ).trans I2.len⟩
  ·have fr:scope.names.lookup x=some .free:=by
    rcases e3 with e3|e3|e3
    ·rcases jx (env:=X.env) e3 with z|z
     ·exact absurd e2 (jR js σ i v (S.js i x e1 (.inl z)))
     ·exact z
    ·rcases jx (env:=X.env) e3 with z|z
     ·exact absurd e2 (jR js σ i v (S.js i x e1 (.inr z)))
     ·exact z
    ·rcases jx (env:=X.env) e3 with z|z<;>exact z
   have fm:=zj fr;obtain⟨m,hm,hl⟩:=I2.loc;have vis:=S.free _ fm rfl;obtain⟨u,r,lk⟩:=hl i x v e1 (vh js σ i v e2) (.inr vis);have kd:(xE scope X.env).names.lookup x=some .cell\/(xE scope X.env).names.lookup x=some .free:=by
    rcases e3 with e3|e3|e3
    ·rcases jx (env:=X.env) e3 with z|z
     ·rw [fr] at z;cases z
     ·exfalso;have z2:=e3
      -- a local's kind stays
      exact absurd e2 (jR js σ i v (S.js i x e1 (.inl (by
       have q: ∀ (l:G0 (Str×NameKind)),(l.map λ(n,k)=>if (k==A3&&X.env.scope.kind== .function&&X.env.kindOf n==some .cell) then (n,U1) else (n,k)).lookup x=some .local->l.lookup x=some .local:=by
        intro l
        induction l with
        |nil=>intro h;simp at h
        |cons p l ih=>
         obtain⟨n,k'⟩:=p;intro h;have h':xU x ((if (k'==A3&&X.env.scope.kind== .function&&X.env.kindOf n==some .cell)=true then (n,U1) else (n,k'))::(l.map λ(n,k)=>if (k==A3&&X.env.scope.kind== .function&&X.env.kindOf n==some .cell) then (n,U1) else (n,k)))=some .local:=h;rw [I0]
         by_cases hc:(k'==A3&&X.env.scope.kind== .function&&X.env.kindOf n==some .cell)=true
         ·rw [R8 hc,I0] at h';cases hx:x==n with
          |true=>rw [hx] at h';cases h'
          |false=>rw [hx] at h';exact ih h'
         ·rw [R9 hc,I0] at h';cases hx:x==n with
          |true=>rw [hx] at h';exact h'
          |false=>rw [hx] at h';exact ih h'
       exact q _ z2))))
    ·exact .inl e3
    ·exact .inr e3
   rcases lk with ⟨k,_⟩|⟨_,c,hc,hcell⟩
   ·have k':X.env.scope.names.lookup x=some .local:=k;rcases vis with z|z<;>(rw [k'] at z;cases z)
   ·refine⟨u,r,.inr ⟨kd,c,zW S hc fm (by rw [fr];decide),?_⟩⟩;obtain⟨o,ho,hd⟩:=hcell;exact⟨o,upC _ _ (up3 _ _ ho),hd⟩
  ·rcases jU S e with ⟨_,z⟩|⟨_,z⟩
   ·obtain⟨v,o,ho,hd⟩:=I2.cell x c z;exact⟨v,o,upC _ _ (up3 _ _ ho),hd⟩
   ·exact⟨none,(hcl₁ x c z).1⟩
  ·have hp':p∈ [(D,a9 [])]:=hp;rcases G8.mp hp' with rfl
   refine⟨upC _ _ hD3,fD.1,hDC,λz=> ?_,λv z=>by cases z⟩;rcases R5.mp (I.stkSub D z) with q|q
   ·exact fD.2.1 q
   ·exact fD.2.2.1 q
 have st4:tn 0 h₁:=T.keep _ _ _ st2 λb _ o e=>upC _ _ (up3 _ _ e)
 have eA:X'.A=X.A:=by rw [<-hX];rfl
 have eP:X'.prog=X.prog:=by rw [<-hX];rfl
 have eW:X'.w=X.w:=by rw [<-hX];rfl
 have eK:X'.K=X.K:=by rw [<-hX];rfl
 have eC:X'.calm=true:=by rw [<-hX];exact hc
 have eV:X'.env=lV scope (jy X scope C) C X.env:=by rw [<-hX];rfl
 have eE:X'.xe=λ_ _=>False:=by rw [<-hX];rfl
 -- what stays true of the iterator's objects
 have stat: ∀ {us:G0 G1} {H':Hp},(∀b∈fp,H' b=none)-> ∀b∈fp,Ua X' [(D,a9 us)] H' b:=λ{us H'} hn b hb=>by
  have q:=hf b (M8 _ hb);subst hX;refine⟨hn b hb,M1 (ltb b (M8 _ hb)),λz=> ?_,.inl (M8 _ hb),λx c e=>(cl x c e).elim (λz=>q.2.2.2.2.1 x c z) (λz=>U4 (V2 (ltb b (M8 _ hb)) z)),λp hp=> ?_⟩
  ·rcases R5.mp (I.stkSub b z) with r|r
   ·exact q.2.1 r
   ·exact q.2.2.1 r
  ·have hp':p∈ [(D,a9 us)]:=hp;rcases G8.mp hp' with rfl
   exact U4 (ltf b hb)
 have loop: ∀s₃:G3,s₃= {s2 with heap:=h₁}->
  aZ (R7 X.prog X.w) X.A (.compLoop (.ListComp elt (⟨tg,iter,ifs,0⟩::rest) scope pos) 0 (.ref it) (.ref D) (lV scope (jy X scope C) C X.env))
   (tO (R7 X.prog X.w) X.A X.xe use Qv (.ref D) C) s₃:=by
  rintro s₃ rfl;refine UY (act:=act (lV scope (jy X scope C) C X.env) (.ref D)) (λn s'=> ∃i ys us H',Vals ys us/\Inv X' [(D,a9 us)] (zk js σ) H' s'/\tn i s'.heap/\(∀b∈fp,H' b=none)/\W i n ys H') (hturn _ _ _) ?_ m0
   ⟨0,[],[],H2,.nil,I4,st4,λb hb=>(f2 b hb).1,w0⟩
  rintro n s5 ⟨i,ys,us,H5,hv5,I5,st5,fr5,w5⟩;obtain⟨hz,tr⟩:=turn i n ys H5 w5;rcases tr with ⟨stop,qn⟩|⟨go,step⟩
  ·have q:=T.done X' eP eW eK eC i _ s5 _ H5 (λ_ _=>False) I5 (stat fr5) st5 stop;rw [eA] at q;refine T7 q (λr s6 ⟨hr,I6⟩=> ?_) λ_ _ z=>z
   subst hr;obtain⟨m6,hm6,_⟩:=I6.loc;rw [eV] at hm6;have zD:=I6.pin (D,a9 us) (P5 _ P4);have HD:H5 D=none:=zD.2.1;have oD:s6.heap.get? D=some (a9 us):=zD.1;have hDC:D≠C:=by rw [CD];exact M1 (J0 _)
   have HC:H5 C=none:=by have z:=I6.free;rw [eV] at z;exact z
   have B:=I6.base;have os6:s6.os=s2.os:=by have z:=I6.os;rw [<-hX] at z;exact z
   have Bu:Un (frs X.stack) (fp++ [D]) H2 H5 h3 s6.heap:=by rw [<-hX] at B;exact B
   have neC: ∀b o,h3.get? b=some o->b≠C:=λb o e=>by rw [<-hC];exact M1 (R0 e)
   refine fin D C (upd H5 D (.lst ys)) s6 m6 hm6 (λh' hs'=> ?_) (by rw [jj (E4 hDC)];exact HC) ?_ ?_ ?_ (λx c e=>M1 (olt x c e)) ?_ (qn D HD)
   ·have hk5:HOk X.prog X.w H5 h':=λb u e=>by
     have z:=I6.hok b u e;rw [eP,eW] at z;refine z.stay (λc v hc q=>hs'.extBut c v ?_ q) (λ_ q=>q) λ_ _ q=>q
     rcases hc with rfl|hc
     ·exact jh e HC
     ·exact jh hc HC
    refine I3.call' (ch:=fp++ [D]) os6 ⟨λb o e n hb hx=> ?_,λb o e n hb hx=> ?_,λb o e n hx=> ?_,λb o e hx=> ?_,λb xs e=> ?_,λb o u e=> ?_,λb ps e=> ?_⟩ (hk5.track HD ?_) I6.bare λb hb=> ?_
    ·exact hs'.extBut b o (neC b o e) (Bu.keep b o e n hb hx)
    ·obtain⟨sl,q⟩:=Bu.slot b o e n hb hx;exact⟨sl,hs'.extBut b _ (neC b o e) q⟩
    ·rw [jj λz=>hx (by rw [z];exact P5 _ P4)];exact Bu.free b o e n hx
    ·obtain⟨o',q⟩:=Bu.there b o e hx;exact⟨o',hs'.extBut b _ (neC b o e) q⟩
    ·have z:=Bu.tups b xs e;rw [jj (jh z HD)];exact z
    ·have z:=Bu.frzs b o u e;rw [jj (jh z HD)];exact z
    ·obtain⟨more,z⟩:=Bu.tbls b ps e;exact⟨more,by rw [jj (jh z HD)];exact z⟩
    ·exact⟨hz,us,us.length,hv5,hs'.extBut D _ hDC oD⟩
    ·have q:=hf b hb;exact⟨q.2.2.2.1,q.2.1,q.2.2.2.2.1,q.2.2.2.2.2⟩
   ·rw [<-hC];exact U4 I3.lt
   ·exact I3.nofs (E5 hC)
   ·rw [<-hC];exact I3.sz
   ·intro p hp;have:=(I3.pin p hp).1;rw [<-hC];exact M1 (R0 this)
  ·have q:=T.item X' eP eW eK eC i _ s5 _ H5 (λ_ _=>False) I5 (stat fr5) st5 go;rw [eA] at q;refine T7 q (λr s6 ⟨u,hr,h6⟩=> ?_) λ_ _ z=>z
   subst hr;refine T7 h6 (λ_ s7 ⟨x,H7,I7,r7,y7,st7,fr7⟩=> ?_) λ_ _ z=>z
   have I7':=I7.pinned (stat fr7) (T.obj _ _ st7);have q7:=hg X' iX _ s7 _ H7 x u _ I7' r7 (step x H7 y7);rw [eP,eW,eA,eV,eE] at q7;refine T7 q7 (λ_ s8 ⟨σ8,H8,I8,ag8,q8⟩=> ?_) λ_ _ z=>z
   have q9:=ht X' iX _ s8 σ8 H8 _ I8 q8;rw [eP,eW,eA,eV,eE] at q9;refine T7 q9 (λok s9 ⟨H9,I9,q9⟩=> ?_) λ_ _ z=>z
   have keepT: ∀ {σ':St} {H':Hp} {s':G3} {us:G0 G1},Inv X' ([(D,a9 us)]++wn fp s7.heap) σ' H' s'->tn (i+1) s'.heap/\ ∀b∈fp,H' b=none:=λ{σ' H' s' us} I'=>
    ⟨T.keep _ _ _ st7 λb hb o e=>(I'.pin (b,o) (P5 _ (P5 _ (zi hb e)))).1,λb hb=>by
     obtain⟨o,e,_⟩:=T.obj _ _ st7 b hb;exact(I'.pin (b,o) (P5 _ (P5 _ (zi hb e)))).2.1⟩
   cases ok with
   |false=>
    have q9: ∃m',m'<n/\W (i+1) m' ys H9:=q9;obtain⟨m',hm,w9⟩:=q9;obtain⟨t9,f9⟩:=keepT I9;exact⟨m',hm,i+1,ys,us,H9,hv5,(I9.unpinned).weak ag8.1.symm ag8.2,t9,f9,w9⟩
   |true=>
    have q9:tm σ8 H9 ys λys' H4=> ∃m',m'<n/\W (i+1) m' ys' H4:=q9
    have DX:D∈X'.ex:=by rw [<-hX];exact P5 _ P4
    have pD: ∀p∈X'.pn++wn fp s7.heap,p.1≠D:=λp hp=>by
     have hp':p∈wn fp s7.heap:=by rw [<-hX] at hp;simpa [wc] using hp
     exact M1 (ltf _ (ve hp').1)
    have cD: ∀x c,X'.env.cells.lookup x=some c->c≠D:=λx c e=>by
     rw [eV] at e;exact(cl x c e).elim (λz=>fD.2.2.2.2.1 x c z) λz=>U4 (V2 (by rw [CD];exact J0 _) z)
    have q10:=he X' iX D _ s9 σ8 H9 ys us _ I9 hv5 hz DX cD pD q9;rw [eP,eW,eA,eV] at q10;show R3 _ _ (act _ _) _ _ s9;refine T7 q10 (λ_ s10 ⟨ys',us',H10,hv10,I10,m',hm,w10⟩=> ?_) λ_ _ z=>z
    obtain⟨t10,f10⟩:=keepT I10;exact⟨m',hm,i+1,ys',us',H10,hv10,(I10.unpinned).weak ag8.1.symm ag8.2,t10,f10,w10⟩
 exact codeAny_compStart_list (loop _ rfl) (T.self X.A 0 _ _ _ st4 (loop _ rfl))
theorem Og (hc:X.calm=true)(S:BlockOk X scope js)(hi:PI X tg iter wi)
 (hg: ∀X',jg X scope X'->PG X' tg g)(ht: ∀X',jg X scope X'->PTs X' ifs tt)(he: ∀X',jg X scope X'->PE X' elt te)
 (hs: ∀x,M5 iter X.env x=pure x:=by intro _;rfl):PE X (.ListComp elt [⟨tg,iter,ifs,0⟩] scope pos) (tLC js wi g tt te):=by
 intro pins s σ H Q I h;rw [uJ];exact GA (use:=none) hc S hi rfl hg ht (We elt) (λ_ _ _=>rfl) (λX' hX D=>WA (by obtain⟨_,_,_,_,rfl⟩:=hX;rfl) (he X' hX)) hs I h
  λD C H' s' m hn hk _ _ _ _ _ _ q=>⟨m,hn,λh' hs'=>⟨.ref D,H',hk h' hs',rfl,q⟩⟩
theorem BL {rest:G0 aH}{pos' spos:Pos}{g':TG}{tm:TM}(hc:X.calm=true)(S:BlockOk X scope js)(hi:PI X tg iter wi)
 (he0:e= .ListComp elt (⟨tg,iter,ifs,0⟩::rest) scope pos)(hg: ∀X',jg X scope X'->PG X' tg g)(ht: ∀X',jg X scope X'->PTs X' ifs tt)
 (act:Env->G1->Sem Unit)(hturn: ∀it acc env,iE e 0 it acc env=vj iter tg ifs it env (act env acc) (.compLoop e 0 it acc env))(he: ∀X',jg X scope X'-> ∀D,Ep X' D (act X'.env (.ref D)) tm)
 (hg':PG X (.Name x pos') g')(hsw:W5 e (some (.Name x pos')) spos.line X.env=pure true)
 (hs: ∀x,M5 iter X.env x=pure x):PS X (.Assign [.Name x pos'] e spos) (RA (Eq js wi g tt tm) g'):=by
 intro pins s σ H Dn I h;rw [nD _ _ _ _ hsw];refine wpAny_bind (Y1 (wpAny_bind ?_));subst he0;rw [arm_evalThenUse_ListComp];show R3 _ X.A (do let _ <-lF (.ListComp elt (⟨tg,iter,ifs,0⟩::rest) scope pos) scope X.env _ (newList []) false (J7 iter X.env) (some (dP (.Name x pos') X.env))) _ _ s;refine wpAny_bind (T7 (GA (use:=some (dP (.Name x pos') X.env)) (Qv:=λ_ s'=>SP X pins Dn .next s') hc S hi rfl hg ht act hturn he hs I h ?_) (λ_ s' hq=>P0 (P0 hq)) λ_ _ e=>e);intro D C H' s' m hn hk HC nL nf sz ncell npin q;show R3 _ X.A (dP (.Name x pos') X.env (.ref D)) _ _ s';obtain⟨o,es,ep,ho,hd,hr⟩:=id hn;have I1:Inv X pins σ H' s':=hk s'.heap (bE ..);have I2:Inv X (pins++ [(C,o)]) σ H' s':=I1.pins_of λp hp=>by
  rcases D8.mp hp with z|z
  ·exact I1.pin p (P5 _ z)
  ·rcases G8.mp z with rfl
   exact⟨ho,HC,nL,nf,λv z=>by rw [hd] at z;cases z⟩
 refine T7 (hg' _ s' σ H' (.ref D) (.ref D) _ I2 rfl q) (λ_ s3 ⟨σ3,H3,I3,q3⟩=> ?_) λ_ _ z=>z
 have pC:=I3.pin (C,o) (P5 _ (P5 _ P4));refine⟨m,hn.at' λo' e'=> ?_,λh' hs'=> ?_⟩
 ·rw [ho] at e';cases e';exact pC.1
 ·exact⟨σ3,H3,(I3.unpinned).turned (t':=s3.toks) (it:=C) (λb o hb e=>hs'.extBut b o hb e) pC.2.1 nL (.inr sz) ncell npin,q3⟩
theorem UZ {pos' spos:Pos}{g':TG}(hc:X.calm=true)(S:BlockOk X scope js)(hi:PI X tg iter wi)
 (hg: ∀X',jg X scope X'->PG X' tg g)(ht: ∀X',jg X scope X'->PTs X' ifs tt)(he: ∀X',jg X scope X'->PE X' elt te)
 (hg':PG X (.Name x pos') g')(hsw:W5 (.ListComp elt [⟨tg,iter,ifs,0⟩] scope pos) (some (.Name x pos')) spos.line X.env=pure true)
 (hs: ∀x,M5 iter X.env x=pure x:=by intro _;rfl):PS X (.Assign [.Name x pos'] (.ListComp elt [⟨tg,iter,ifs,0⟩] scope pos) spos) (RA (tLC js wi g tt te) g'):=
 BL hc S hi rfl hg ht (We elt) (λ_ _ _=>rfl) (λX' hX D=>WA (by obtain⟨_,_,_,_,rfl⟩:=hX;rfl) (he X' hX)) hg' hsw hs
def GB (e iter:M9)(env:Env)(acc:G1):Sem Unit:=do
 let x <-J7 iter env
 fB iter.pos
 let x <-M5 iter env x
 let _ <-runOwn (.compStart e 1 (<-Y0 [x] (pH x)) acc env) env
def mIn (wi : TI) (g : TG) (tt : TT) (tm : TM) : TM := fun σ H ys Q => wi σ H fun J H1 =>
  ∃ W : G6 → G6 → G0 V → Hp → Prop, (∃ m, W 0 m ys H1) ∧ ∀ i m ys H, W i m ys H → ys.length ≤ sizeLine ∧
    ((J.stop i H ∧ Q ys H) ∨
     (J.go i H ∧ ∀ x H', J.yld i H x H' → g x σ H' fun σ2 H2 => Agree σ σ2 ∧ tt σ2 H2 fun b H3 =>
        if b = true then tm σ2 H3 ys fun ys' H4 => ∃ m', m' < m ∧ W (i + 1) m' ys' H4 else ∃ m', m' < m ∧ W (i + 1) m' ys H3))
theorem vk {A:N6}{R:pI->G3->Prop}{s:G3}{g0 g1:aH}{it acc:G1}(ha:g1.is_async=0)
 (h0:aZ (R7 prog w) A (.compLoop (.ListComp elt [g0,g1] scope pos) 1 it acc env) R s)
 (h:R3 (R7 prog w) A (pH it) (λit' s'=>aZ (R7 prog w) A (.compLoop (.ListComp elt [g0,g1] scope pos) 1 it' acc env) R s')
  (notedBy (R7 prog w) A env λx s'=>R (.error x) s') s):
 aZ (R7 prog w) A (.compStart (.ListComp elt [g0,g1] scope pos) 1 it acc env) R s:=by
 obtain⟨tg,iter,ifs,as⟩:=g1;cases (show as=0 from ha);refine m5 (uK ?_);obtain⟨hp,g,d,tk,os⟩:=s;unfold compStart
 wp_walk
 refine aK ?_;split
 ·exact P0 ⟨rfl,h0⟩
 ·exact wpAny_bind (g4 (wpAny_bind (Y1 (wpAny_bind (T7 h (λ_ _ on=>P0 ⟨rfl,on⟩) λ_ _ x=>x)))))
theorem BM {D:P3}{g0:aH}(hc:X.calm=true)(hx:X.xe=λ_ _=>False)
 (hi:PI X tg iter wi)(hg:PG X tg g)(ht:PTs X ifs tt)(he:PE X elt te)(hs: ∀x,M5 iter X.env x=pure x):
 Ep X D (GB (.ListComp elt [g0,⟨tg,iter,ifs,0⟩] scope pos) iter X.env (.ref D)) (mIn wi g tt (Of te)):=by
 intro pins s σ H ys us Q I hv hz DX cD pD h;have q:=hi _ s σ H _ I h;rw [hx] at q;unfold GB;refine wpAny_bind (T7 q (λv s1 h1=>wpAny_bind (Y1 (wpAny_bind (xV (hs v) (wpAny_bind (O1 (T7 h1 (λitv s2 h2=> ?_) λ_ _ z=>z))))))) λ_ _ z=>z);obtain⟨it,fp,tn,J,H2,e,I2,T,st2,f2,W,⟨m0,w0⟩,turn⟩:=h2;subst e;refine wpAny_bind (wpAny_runOwn ?_);have neD: ∀b∈fp,b≠D:=λb hb=>by
  have z:=(f2 b hb).2.2.2.2.2 (D,a9 us) (P5 _ (M8 _ P4));exact E4 z
 have stat: ∀ {us':G0 G1} {H':Hp},(∀b∈fp,H' b=none)-> ∀b∈fp,Ua X ([(D,a9 us')]++pins) H' b:=λ{us' H'} hn b hb=>by
  have q:=f2 b hb;refine⟨hn b hb,q.2.1,q.2.2.1,q.2.2.2.1,q.2.2.2.2.1,λp hp=> ?_⟩;rcases D8.mp hp with z|z
  ·exact q.2.2.2.2.2 p (M8 _ z)
  ·rcases D8.mp z with z|z
   ·rcases G8.mp z with rfl
    exact E4 (neD b hb)
   ·exact q.2.2.2.2.2 p (P5 _ (P5 _ z))
 have loop:aZ (R7 X.prog X.w) X.A (.compLoop (.ListComp elt [g0,⟨tg,iter,ifs,0⟩] scope pos) 1 (.ref it) (.ref D) X.env)
  (λr s'=>match r with| .ok f=>R3 (R7 X.prog X.w) X.A (pure ()) (λ_ s'=> ∃ys' us' H',Vals ys' us'/\Inv X ([(D,a9 us')]++pins) σ H' s'/\Q ys' H') (λ_ _=>False) s'| .error e=>cameBackBy (R7 X.prog X.w) X.A X.env (λ_ _=>False) e s') s2:=by
  refine UY (act:=We elt X.env (.ref D)) (λn s'=> ∃i ys us H',Vals ys us/\Inv X ([(D,a9 us)]++pins) σ H' s'/\tn i s'.heap/\(∀b∈fp,H' b=none)/\W i n ys H') rfl ?_ m0
   ⟨0,ys,us,H2,hv,I2,st2,λb hb=>(f2 b hb).1,w0⟩
  rintro n s5 ⟨i,ys,us,H5,hv5,I5,st5,fr5,w5⟩;obtain⟨hz,tr⟩:=turn i n ys H5 w5;rcases tr with ⟨stop,qn⟩|⟨go,step⟩
  ·refine T7 (T.done X rfl rfl rfl hc i _ s5 _ H5 (λ_ _=>False) I5 (stat fr5) st5 stop) (λr s6 ⟨hr,I6⟩=> ?_) λ_ _ z=>z
   subst hr;exact P0 ⟨ys,us,H5,hv5,I6,qn⟩
  ·refine T7 (T.item X rfl rfl rfl hc i _ s5 _ H5 (λ_ _=>False) I5 (stat fr5) st5 go) (λr s6 ⟨u,hr,h6⟩=> ?_) λ_ _ z=>z
   subst hr;refine T7 h6 (λ_ s7 ⟨x,H7,I7,r7,y7,st7,fr7⟩=> ?_) λ_ _ z=>z
   have I7':=I7.pinned (stat fr7) (T.obj _ _ st7);have q7:=hg _ s7 _ H7 x u _ I7' r7 (step x H7 y7);rw [hx] at q7;refine T7 q7 (λ_ s8 ⟨σ8,H8,I8,ag8,q8⟩=> ?_) λ_ _ z=>z
   have q9:=ht _ s8 σ8 H8 _ I8 q8;rw [hx] at q9;refine T7 q9 (λok s9 ⟨H9,I9,q9⟩=> ?_) λ_ _ z=>z
   have keepT: ∀ {σ':St} {H':Hp} {s':G3} {us:G0 G1},Inv X (([(D,a9 us)]++pins)++wn fp s7.heap) σ' H' s'->tn (i+1) s'.heap/\ ∀b∈fp,H' b=none:=λ{σ' H' s' us} I'=>
    ⟨T.keep _ _ _ st7 λb hb o e=>(I'.pin (b,o) (P5 _ (P5 _ (zi hb e)))).1,λb hb=>by
     obtain⟨o,e,_⟩:=T.obj _ _ st7 b hb;exact(I'.pin (b,o) (P5 _ (P5 _ (zi hb e)))).2.1⟩
   cases ok with
   |false=>
    have q9: ∃m',m'<n/\W (i+1) m' ys H9:=q9;obtain⟨m',hm,w9⟩:=q9;obtain⟨t9,f9⟩:=keepT I9;exact⟨m',hm,i+1,ys,us,H9,hv5,(I9.unpinned).weak ag8.1.symm ag8.2,t9,f9,w9⟩
   |true=>
    have q9:Of te σ8 H9 ys λys' H4=> ∃m',m'<n/\W (i+1) m' ys' H4:=q9
    have pD': ∀p∈X.pn++(pins++wn fp s7.heap),p.1≠D:=λp hp=>by
     rcases D8.mp hp with z|z
     ·exact pD p (M8 _ z)
     ·rcases D8.mp z with z|z
      ·exact pD p (P5 _ z)
      ·exact neD _ (ve z).1
    rw [D5] at I9;have q10:=WA (D:=D) hx he (pins++wn fp s7.heap) s9 σ8 H9 ys us _ I9 hv5 hz DX cD pD' q9;show R3 _ _ (We _ _ _) _ _ s9;refine T7 q10 (λ_ s10 ⟨ys',us',H10,hv10,I10,m',hm,w10⟩=> ?_) λ_ _ z=>z
    rw [<-D5] at I10;obtain⟨t10,f10⟩:=keepT I10;exact⟨m',hm,i+1,ys',us',H10,hv10,(I10.unpinned).weak ag8.1.symm ag8.2,t10,f10,w10⟩
 exact vk rfl loop (T.self X.A 0 _ _ _ st2 loop)
theorem BN (elt iter tg iter' tg':M9)(ifs ifs':G0 M9)(scope:W9)(pos:Pos)(it acc:G1)(env:Env):
 iE (.ListComp elt [⟨tg,iter,ifs,0⟩,⟨tg',iter',ifs',0⟩] scope pos) 0 it acc env=
  vj iter tg ifs it env (GB (.ListComp elt [⟨tg,iter,ifs,0⟩,⟨tg',iter',ifs',0⟩] scope pos) iter' env acc) (.compLoop (.ListComp elt [⟨tg,iter,ifs,0⟩,⟨tg',iter',ifs',0⟩] scope pos) 0 it acc env):=by
 unfold vj GB;simp only [bind_assoc,pure_bind];rfl
def EV (js:G0 G6)(wi:TI)(g:TG)(tt:TT)(wi':TI)(g':TG)(tt':TT)(te:TE):TE:=Eq js wi g tt (mIn wi' g' tt' (Of te))
theorem Oh {iter' tg':M9}{ifs':G0 M9}{wi':TI}{g':TG}{tt':TT}(hc:X.calm=true)(S:BlockOk X scope js)(hi:PI X tg iter wi)
 (hg: ∀X',jg X scope X'->PG X' tg g)(ht: ∀X',jg X scope X'->PTs X' ifs tt)(hi': ∀X',jg X scope X'->PI X' tg' iter' wi')
 (hg': ∀X',jg X scope X'->PG X' tg' g')(ht': ∀X',jg X scope X'->PTs X' ifs' tt')(he: ∀X',jg X scope X'->PE X' elt te)
 (hs: ∀x,M5 iter X.env x=pure x:=by intro _;rfl)(hs': ∀env x,M5 iter' env x=pure x:=by intro _ _;rfl):
 PE X (.ListComp elt [⟨tg,iter,ifs,0⟩,⟨tg',iter',ifs',0⟩] scope pos) (EV js wi g tt wi' g' tt' te):=by
 intro pins s σ H Q I h;rw [uJ];exact GA (use:=none) hc S hi rfl hg ht (λenv acc=>GB (.ListComp elt [⟨tg,iter,ifs,0⟩,⟨tg',iter',ifs',0⟩] scope pos) iter' env acc) (λ_ _ _=>BN ..)
  (λX' hX D=>BM (by obtain⟨_,_,_,_,rfl⟩:=hX;exact hc) (by obtain⟨_,_,_,_,rfl⟩:=hX;rfl) (hi' X' hX) (hg' X' hX) (ht' X' hX) (he X' hX) (hs' _)) hs I h
  λD C H' s' m hn hk _ _ _ _ _ _ q=>⟨m,hn,λh' hs'=>⟨.ref D,H',hk h' hs',rfl,q⟩⟩
inductive D where
 |non|bl (b:N0)|int (i:P2)|str (x:Str)|tup (ds:G0 D)|lst (a:P3)|dic (x:Str) (i:P2)|dct (a:P3)|scr (ns:G0 P2)|exc (C:P3)|fn (a:P3)|exf (C:P3) (fs:G0 (Str×P2))
def Scr (K:G7)(H:Hp)(a:P3)(ns:G0 P2):Prop:=
 (∃o,H a=some (.frz o (.lst (ns.map V.int))))\/
  ∃ (o:Obj) (its:S9 G1) (n:G6),K.lookup a=some o/\o.cls= .type "list" /\o.dict=none/\o.data= .seq its n/\its.size<=sizeLine/\Vals (ns.map V.int) its.toList
variable {K:G7}
theorem Scr.sq {ns:G0 P2}(h:Scr K H a ns):SqL K H a (ns.map V.int):=h.elim (λz=> .inl (.inr z)) .inr
def FldH (H:Hp)(dx:D2 P3)(fs:G0 (Str×P2)):Prop:=fs= []\/ ∃D oD,dx=some D/\H D=some (.frz oD (.xd (fs.map λp=>(p.1,V.int p.2))))
mutual
def RelD (K:G7)(H:Hp):D->V->Prop
 | .non,v=>v= .non
 | .bl b,v=>v= .bl b
 | .int i,v=>v= .int i
 | .str x,v=>v= .str x
 | .tup ds,v=> ∃a vs,v= .ref a/\H a=some (.tup vs)/\RelDs K H ds vs
 | .lst a,v=>v= .ref a/\ ∃vs,H a=some (.lst vs)
 | .dic x i,v=> ∃a,v= .ref a/\H a=some (.dK [(fA x,V.int i)])
 | .dct a,v=>v= .ref a
 | .scr ns,v=> ∃a,v= .ref a/\Scr K H a ns
 | .exc C,v=> ∃x o vs,v= .ref x/\H x=some (.frz o (.own 0))/\o.cls= .ref C/\o.data= .fields vs
 | .fn a,v=>v= .ref a/\bP K (.ref a)=true
 | .exf C fs,v=> ∃x o vs,v= .ref x/\H x=some (.frz o (.own 0))/\o.cls= .ref C/\o.data= .fields vs/\FldH H o.dict fs
def RelDs (K:G7)(H:Hp):G0 D->G0 V->Prop
 | [],vs=>vs= []
 |d::ds,vs=> ∃v r,vs=v::r/\RelD K H d v/\RelDs K H ds r
end
structure Kept (H H':Hp):Prop where
 tup: ∀a xs,H a=some (.tup xs)->H' a=some (.tup xs)
 lst: ∀a xs,H a=some (.lst xs)-> ∃ys,H' a=some (.lst ys)
 dic: ∀a x i,H a=some (.dK [(fA x,V.int i)])->H' a=some (.dK [(fA x,V.int i)])
 frz: ∀a o u,H a=some (.frz o u)->H' a=some (.frz o u)
variable {H':Hp}
theorem FldH.mono (k:Kept H H'){dx:D2 P3}{fs:G0 (Str×P2)}(f:FldH H dx fs):FldH H' dx fs:=f.imp id λ⟨D,oD,e,h⟩=>⟨D,oD,e,k.frz _ _ _ h⟩
theorem Kept.refl (H:Hp):Kept H H:=⟨λ_ _ h=>h,λ_ xs h=>⟨xs,h⟩,λ_ _ _ h=>h,λ_ _ _ h=>h⟩
theorem Kept.trans {A B C:Hp}(x:Kept A B)(y:Kept B C):Kept A C:=
 ⟨λa xs h=>y.tup a xs (x.tup a xs h),λa xs h=>let ⟨_,e⟩:=x.lst a xs h;y.lst a _ e,λa k i h=>y.dic a k i (x.dic a k i h),λa o u h=>y.frz a o u (x.frz a o u h)⟩
variable {p:P3}
theorem Kept.new (h:H p=none):Kept H (upd H p o):=
 ⟨λa xs e=>by rw [jj (jh e h)];exact e,λa xs e=>⟨xs,by rw [jj (jh e h)];exact e⟩,λa k i e=>by rw [jj (jh e h)];exact e,λa o u e=>by rw [jj (jh e h)];exact e⟩
theorem Kept.put {xs ys:G0 V}(h:H p=some (.lst xs)):Kept H (upd H p (.lst ys)):=
 ⟨λa zs e=>by rw [jj (XX e h (by intro z;cases z))];exact e,λa zs e=>by
  by_cases q:a=p
  ·subst q;exact⟨ys,jt⟩
  ·exact⟨zs,by rw [jj q];exact e⟩,
  λa k i e=>by rw [jj (XX e h (by intro z;cases z))];exact e,λa o u e=>by rw [jj (XX e h (by intro z;cases z))];exact e⟩
def DObj (o:HO):Prop:=(∃kvs:G0 (P2×V),o= .dK (kvs.map λp=>((kQ p.1:Key),p.2)))\/ ∃φ,o= .ext φ
theorem DObj.no (d:DObj o):(∀xs,o≠ .tup xs)/\(∀xs,o≠ .lst xs)/\(∀x i,o≠ .dK [(fA x,V.int i)])/\(∀p u,o≠ .frz p u)/\ ∀ps,o≠ .tbl ps:=by
 rcases d with ⟨kvs,rfl⟩|⟨φ,rfl⟩
 ·refine⟨λ_ z=>(nomatch z),λ_ z=>(nomatch z),λx i z=> ?_,λ_ _ z=>(nomatch z),λ_ z=>(nomatch z)⟩;injection z with z
  cases kvs with
  |nil=>cases z
  |cons p r=>injection z with z _;injection z with z _;cases z
 ·exact⟨λ_ z=>(nomatch z),λ_ z=>(nomatch z),λ_ _ z=>(nomatch z),λ_ _ z=>(nomatch z),λ_ z=>(nomatch z)⟩
theorem Kept.putD {o':HO}(h:H p=some o)(d:DObj o):Kept H (upd H p o'):=by
 obtain⟨d1,d2,d3,d4,_⟩:=d.no;have ne: ∀ {a:P3} {u:HO},H a=some u->o≠u->a≠p:=λe n z=>by subst z;rw [h] at e;injection e with e;exact n e
 exact⟨λa xs e=>by rw [jj (ne e (d1 xs))];exact e,λa xs e=>⟨xs,by rw [jj (ne e (d2 xs))];exact e⟩,λa x i e=>by rw [jj (ne e (d3 x i))];exact e,λa q u e=>by rw [jj (ne e (d4 q u))];exact e⟩
mutual
theorem RelD.mono (k:Kept H H'): ∀ {d:D} {v:V},RelD K H d v->RelD K H' d v
 | .non,_,h=>h
 | .bl _,_,h=>h
 | .int _,_,h=>h
 | .str _,_,h=>h
 | .tup ds,v,h=>by
  obtain⟨a,vs,e,h1,h2⟩:=(show ∃a vs,v= .ref a/\H a=some (.tup vs)/\RelDs K H ds vs from h);exact⟨a,vs,e,k.tup _ _ h1,RelDs.mono k h2⟩
 | .lst a,v,h=>by
  obtain⟨e,vs,h1⟩:=(show v= .ref a/\ ∃vs,H a=some (.lst vs) from h);exact⟨e,k.lst _ _ h1⟩
 | .dic x i,v,h=>by
  obtain⟨a,e,h1⟩:=(show ∃a,v= .ref a/\H a=some (.dK [(fA x,V.int i)]) from h);exact⟨a,e,k.dic _ _ _ h1⟩
 | .dct a,v,h=>h
 | .scr ns,v,h=>by
  obtain⟨a,e,h1⟩:=(show ∃a,v= .ref a/\Scr K H a ns from h);exact⟨a,e,h1.elim (λ⟨o,z⟩=> .inl ⟨o,k.frz _ _ _ z⟩) .inr⟩
 | .exc C,v,h=>by
  obtain⟨x,o,vs,e,h1,r⟩:=(show ∃x o vs,v= .ref x/\H x=some (.frz o (.own 0))/\o.cls= .ref C/\o.data= .fields vs from h);exact⟨x,o,vs,e,k.frz _ _ _ h1,r⟩
 | .fn a,v,h=>h
 | .exf C fs,v,h=>by
  obtain⟨x,o,vs,e,h1,c,d,f⟩:=(show ∃x o vs,v= .ref x/\H x=some (.frz o (.own 0))/\o.cls= .ref C/\o.data= .fields vs/\FldH H o.dict fs from h);exact⟨x,o,vs,e,k.frz _ _ _ h1,c,d,f.mono k⟩
theorem RelDs.mono (k:Kept H H'): ∀ {ds:G0 D} {vs:G0 V},RelDs K H ds vs->RelDs K H' ds vs
 | [],_,h=>h
 |d::ds,vs,h=>by
  obtain⟨v,r,e,h1,h2⟩:=(show ∃v r,vs=v::r/\RelD K H d v/\RelDs K H ds r from h);exact⟨v,r,e,RelD.mono k h1,RelDs.mono k h2⟩
end
section
variable {K:G7}{H:Hp}
theorem RelDs.nil:RelDs K H [] []:=rfl
theorem RelDs.cons {d:D}{v:V}{ds:G0 D}{vs:G0 V}(h:RelD K H d v)(t:RelDs K H ds vs):RelDs K H (d::ds) (v::vs):=⟨v,vs,rfl,h,t⟩
theorem RelDs.length: ∀ {ds:G0 D} {vs:G0 V},RelDs K H ds vs->ds.length=vs.length
 | [],_,h=>by cases (show _= [] from h);rfl
 |d::ds,vs,h=>by
  obtain⟨v,r,e,_,h2⟩:=(show ∃v r,vs=v::r/\RelD K H d v/\RelDs K H ds r from h);subst e;simp [RelDs.length h2]
theorem RelDs.append: ∀ {ds es:G0 D} {vs us:G0 V},RelDs K H ds vs->RelDs K H es us->RelDs K H (ds++es) (vs++us)
 | [],_,_,_,h,g=>by cases (show _= [] from h);exact g
 |d::ds,es,vs,us,h,g=>by
  obtain⟨v,r,e,h1,h2⟩:=(show ∃v r,vs=v::r/\RelD K H d v/\RelDs K H ds r from h);subst e;exact .cons h1 (RelDs.append h2 g)
theorem RelDs.get: ∀ {ds:G0 D} {vs:G0 V} {i:G6} {d:D},RelDs K H ds vs->ds[i]? =some d-> ∃v,vs[i]? =some v/\RelD K H d v
 |d'::ds,vs,i,d,h,e=>by
  obtain⟨v,r,q,h1,h2⟩:=(show ∃v r,vs=v::r/\RelD K H d' v/\RelDs K H ds r from h);subst q;cases i with
  |zero=>simp at e;subst e;exact⟨v,rfl,h1⟩
  |succ i=>
   obtain⟨u,q1,q2⟩:=RelDs.get h2 (i:=i) (d:=d) (by simpa using e);exact⟨u,by simpa using q1,q2⟩
theorem RelDs.take (n:G6): ∀ {ds:G0 D} {vs:G0 V},RelDs K H ds vs->RelDs K H (ds.take n) (vs.take n):=by
 induction n with
 |zero=>intro ds vs _;exact(rfl:RelDs K H [] [])
 |succ n ih=>
  intro ds vs h;cases ds with
  |nil=>cases (show vs= [] from h);exact .nil
  |cons d ds=>
   obtain⟨v,r,e,h1,h2⟩:=(show ∃v r,vs=v::r/\RelD K H d v/\RelDs K H ds r from h);subst e;exact .cons h1 (ih h2)
theorem RelDs.drop (n:G6): ∀ {ds:G0 D} {vs:G0 V},RelDs K H ds vs->RelDs K H (ds.drop n) (vs.drop n):=by
 induction n with
 |zero=>intro ds vs h;exact h
 |succ n ih=>
  intro ds vs h;cases ds with
  |nil=>cases (show vs= [] from h);exact .nil
  |cons d ds=>
   obtain⟨v,r,e,h1,h2⟩:=(show ∃v r,vs=v::r/\RelD K H d v/\RelDs K H ds r from h);subst e;exact ih h2
theorem RelDs.set {d:D}{v:V}(q:RelD K H d v): ∀ {ds:G0 D} {vs:G0 V} (i:G6),RelDs K H ds vs->RelDs K H (ds.set i d) (vs.set i v)
 | [],_,_,h=>by cases (show _= [] from h);exact .nil
 |e::ds,vs,i,h=>by
  obtain⟨u,r,z,h1,h2⟩:=(show ∃u r,vs=u::r/\RelD K H e u/\RelDs K H ds r from h);subst z;cases i with
  |zero=>exact .cons q h2
  |succ i=>exact .cons h1 (RelDs.set q i h2)
theorem yn: ∀ns:G0 P2,RelDs K H (ns.map D.int) (ns.map V.int)
 | []=> .nil
 |n::ns=> .cons rfl (yn ns)
end
inductive DC where
 |ik (kv:G0 (P2×D))
 |tk (ep:G6) (kv:G0 (G0 (G0 P2)×D))
structure HD where
 ls:P3->D2 (G0 D)
 dc:P3->D2 DC
instance:CoeFun HD λ_=>P3->D2 (G0 D):=⟨HD.ls⟩
def zB (h:HD)(a:P3)(ds:G0 D):HD:=⟨λb=>if b=a then some ds else h b,h.dc⟩
def YO (h:HD)(a:P3):HD:=⟨λb=>if b=a then none else h b,h.dc⟩
variable {h:HD}{ds:G0 D}
theorem jc:zB h a ds a=some ds:=R8 rfl
theorem we {b:P3}(e:b≠a):zB h a ds b=h b:=R9 e
theorem zR (e:h a=none):YO (zB h a ds) a=h:=by
 obtain⟨l,d⟩:=h;refine congrArg (HD.mk · d) ?_
 funext b
 show (if b=a then none else if b=a then some ds else l b)=l b
 by_cases q:b=a
 ·subst q;rw [R8 rfl];exact e.symm
 ·rw [R9 q,R9 q]
def LN:G0 Str:= ["law","_law_right","_law_words","_law_other_words","_law_many_right","_law_all","_law_told_row","_law_all_right","_law_desk_right","_law_signs_right","_law_lists_right","_law_text_right"]
def TabK (K:G7)(P:P3):Prop:= ∃x∈LN,∃c,pA K x=some (c,P)
def CodesOk (H:Hp)(ps:S9 G1):Prop:=TriplesOk ps.toList/\ ∀pos cv,codeAmong pos ps.toList=some cv-> ∃ (c:P3) (o:Obj) (vs:S9 G1) (q:Str) (t:Tok),cv= .ref c/\H c=some (.frz o (.own 0))/\o.data= .fields vs/\vs[1]? =some (.str q t)
def CTabs (K:G7)(H:Hp):Prop:= ∀P,TabK K P-> ∃ps,H P=some (.tbl ps)/\CodesOk H ps
theorem CodesOk.mono {ps:S9 G1}(k: ∀a o u,H a=some (.frz o u)->H' a=some (.frz o u))(c:CodesOk H ps):CodesOk H' ps:=
 ⟨c.1,λpos cv e=>let ⟨c',o,vs,q,t,e1,e2,r⟩:=c.2 pos cv e;⟨c',o,vs,q,t,e1,k _ _ _ e2,r⟩⟩
theorem CTabs.mono (x:CTabs K H)(k: ∀a o u,H a=some (.frz o u)->H' a=some (.frz o u))(kt: ∀a ps,H a=some (.tbl ps)->H' a=some (.tbl ps)):CTabs K H':=λP hP=>
 let ⟨ps,e,c⟩:=x P hP;⟨ps,kt _ _ e,c.mono k⟩
theorem CTabs.new (x:CTabs K H)(e:H p=none):CTabs K (upd H p o):=
 x.mono (λa o' u h=>by rw [jj (jh h e)];exact h) λa ps h=>by rw [jj (jh h e)];exact h
theorem CTabs.put {xs:G0 V}(x:CTabs K H)(e:H p=some (.lst xs)):CTabs K (upd H p o):=
 x.mono (λa o' u h=>by rw [jj (XX h e (by intro z;cases z))];exact h) λa ps h=>by rw [jj (XX h e (by intro z;cases z))];exact h
def Ue (T:G0 (G0 P2)):P2:=mN (X5 (T.map λr=>mN (X5 (r.map KA))))
def JC (a:P3)(ep:G6)(xs:G0 (G0 (G0 P2)×P3×V)):HO:= .ext λh=>(a==bX)=false/\xs.length<=sizeLine/\ ∃ys:G0 (G0 (G0 P2)×P3×G1),Paired (λp q=>p.1=q.1/\p.2.1=q.2.1/\RelV p.2.2 q.2.2) xs ys/\
 ∃o es,h.get? a=some o/\o.ExactDict/\o.data= .dict es ep/\es.toList=ys.map λx=>⟨Ue x.1,.ref x.2.1,x.2.2⟩
def DRel (K:G7)(H:Hp)(a:P3):DC->Prop
 | .ik kv=> ∃kvs:G0 (P2×V),H a=some (.dK (kvs.map λp=>((kQ p.1:Key),p.2)))/\kv.map (·.1)=kvs.map (·.1)/\RelDs K H (kv.map (·.2)) (kvs.map (·.2))
 | .tk ep kv=> ∃xs:G0 (G0 (G0 P2)×P3×V),H a=some (JC a ep xs)/\(kv.map (·.1)).Nodup/\kv.map (·.1)=xs.map (·.1)/\(∀x∈xs,RelD K H (.tup (x.1.map λr=> .tup (r.map D.int))) (.ref x.2.1))/\RelDs K H (kv.map (·.2)) (xs.map (·.2.2))
theorem DRel.obj: ∀ {c:DC},DRel K H a c-> ∃o,H a=some o/\DObj o
 | .ik _,⟨kvs,e,_⟩=>⟨_,e,.inl ⟨kvs,rfl⟩⟩
 | .tk _ _,⟨xs,e,_⟩=>⟨_,e,.inr ⟨_,rfl⟩⟩
theorem DRel.mono (k:Kept H H')(z: ∀o,H a=some o->H' a=some o): ∀ {c:DC},DRel K H a c->DRel K H' a c
 | .ik _,⟨kvs,e,q,r⟩=>⟨kvs,z _ e,q,r.mono k⟩
 | .tk _ _,⟨xs,e,n,q,t,r⟩=>⟨xs,z _ e,n,q,λx hx=>(t x hx).mono k,r.mono k⟩
structure RelH (K:G7)(h:HD)(H:Hp):Prop where
 ls: ∀a ds,h a=some ds-> ∃vs,H a=some (.lst vs)/\RelDs K H ds vs
 tb:CTabs K H
 dc: ∀a c,h.dc a=some c->DRel K H a c
instance {K:G7}{h:HD}{H:Hp}:CoeFun (RelH K h H) λ_=> ∀a ds,h a=some ds-> ∃vs,H a=some (.lst vs)/\RelDs K H ds vs:=⟨RelH.ls⟩
structure Sub (h h':HD):Prop where
 ls: ∀a ds,h a=some ds->h' a=some ds
 dc: ∀a c,h.dc a=some c->h'.dc a=some c
instance {h h':HD}:CoeFun (Sub h h') λ_=> ∀a ds,h a=some ds->h' a=some ds:=⟨Sub.ls⟩
theorem Sub.refl (h:HD):Sub h h:=⟨λ_ _ e=>e,λ_ _ e=>e⟩
theorem Sub.trans {a b c:HD}(x:Sub a b)(y:Sub b c):Sub a c:=⟨λd ds e=>y d ds (x d ds e),λd ds e=>y.dc d ds (x.dc d ds e)⟩
theorem Sub.drop (h:HD)(a:P3):Sub (YO h a) h:=⟨λb ds e=>by
 have e:(if b=a then none else h b)=some ds:=e;split at e
 ·cases e
 ·exact e,λ_ _ e=>e⟩
theorem Sub.new (e:h p=none):Sub h (zB h p ds):=⟨λa es q=>(by
 rw [we];exact q;intro z;subst z;rw [e] at q;cases q),λ_ _ e=>e⟩
section
variable {K:G7}{h h':HD}{H:Hp}
theorem RelH.sub (r:RelH K h H)(s:Sub h' h):RelH K h' H:=⟨λa ds e=>r a ds (s a ds e),r.tb,λa c e=>r.dc a c (s.dc a c e)⟩
theorem RelH.free (r:RelH K h H){p:P3}(e:H p=none):h p=none:=by
 cases q:h p with
 |none=>rfl
 |some ds=>obtain⟨vs,z,_⟩:=r p ds q;rw [e] at z;cases z
theorem RelH.freeC (r:RelH K h H){p:P3}(e:H p=none):h.dc p=none:=by
 cases q:h.dc p with
 |none=>rfl
 |some c=>obtain⟨o,z,_⟩:=(r.dc p c q).obj;rw [e] at z;cases z
theorem RelH.dcN (r:RelH K h H){p:P3}{o:HO}(e:H p=none): ∀a c,h.dc a=some c->DRel K (upd H p o) a c:=λa c q=>
 (r.dc a c q).mono (.new e) λu z=>by rw [jj (jh z e)];exact z
theorem RelH.new (r:RelH K h H){p:P3}{o:HO}(e:H p=none):RelH K h (upd H p o):=⟨λa ds q=>by
 obtain⟨vs,z,w⟩:=r a ds q;exact⟨vs,by rw [jj (jh z e)];exact z,w.mono (.new e)⟩,r.tb.new e,r.dcN e⟩
theorem RelH.newL (r:RelH K h H){p:P3}{ds:G0 D}{vs:G0 V}(e:H p=none)(q:RelDs K H ds vs):RelH K (zB h p ds) (upd H p (.lst vs)):=⟨λa es z=>by
 by_cases w:a=p
 ·subst w;rw [jc] at z;cases z;exact⟨vs,jt,q.mono (.new e)⟩
 ·rw [we w] at z;obtain⟨us,z1,z2⟩:=r a es z;exact⟨us,by rw [jj w];exact z1,z2.mono (.new e)⟩,r.tb.new e,r.dcN e⟩
theorem RelH.put (r:RelH K h H){p:P3}{ds:G0 D}{vs us:G0 V}(e:H p=some (.lst us))(q:RelDs K H ds vs):RelH K (zB h p ds) (upd H p (.lst vs)):=⟨λa es z=>by
 by_cases w:a=p
 ·subst w;rw [jc] at z;cases z;exact⟨vs,jt,q.mono (.put e)⟩
 ·rw [we w] at z;obtain⟨us,z1,z2⟩:=r a es z;exact⟨us,by rw [jj w];exact z1,z2.mono (.put e)⟩,r.tb.put e,λa c z=>(r.dc a c z).mono (.put e) λo w=>by
   obtain⟨u,w',d⟩:=(r.dc a c z).obj;rw [jj (XX w' e (d.no.2.1 _))];exact w⟩
end
def QZ (h:HD)(p:P3)(c:DC):HD:=⟨h.ls,λb=>if b=p then some c else h.dc b⟩
theorem zc {c:DC}:(QZ h p c).dc p=some c:=R8 rfl
theorem yP {c:DC}(e:a≠p):(QZ h p c).dc a=h.dc a:=R9 e
theorem Sub.newC {c:DC}(e:h.dc p=none):Sub h (QZ h p c):=⟨λ_ _ e=>e,λa d q=>by
 rw [yP];exact q;intro z;subst z;rw [e] at q;cases q⟩
section
variable {K:G7}{h:HD}{H:Hp}
theorem RelH.newC (r:RelH K h H){p:P3}{o:HO}{c:DC}(e:H p=none)(d:DRel K (upd H p o) p c):RelH K (QZ h p c) (upd H p o):=⟨(r.new e).ls,r.tb.new e,λa k z=>by
 by_cases w:a=p
 ·subst w;rw [zc] at z;cases z;exact d
 ·rw [yP w] at z;exact r.dcN e a k z⟩
theorem RelH.putC (r:RelH K h H){p:P3}{o o':HO}{c:DC}(e:H p=some o)(ob:DObj o)(d:DRel K (upd H p o') p c):RelH K (QZ h p c) (upd H p o'):=by
 obtain⟨d1,d2,d3,d4,d5⟩:=ob.no;have ne: ∀ {a:P3} {u:HO},H a=some u->o≠u->a≠p:=λq n z=>by subst z;rw [e] at q;injection q with q;exact n q
 refine⟨λa ds z=> ?_,r.tb.mono (λa q u z=>by rw [jj (ne z (d4 q u))];exact z) (λa ps z=>by rw [jj (ne z (d5 ps))];exact z),λa k z=> ?_⟩
 ·obtain⟨vs,z1,z2⟩:=r a ds z;exact⟨vs,by rw [jj (ne z1 (d2 vs))];exact z1,z2.mono (.putD e ob)⟩
 ·by_cases w:a=p
  ·subst w;rw [zc] at z;cases z;exact d
  ·rw [yP w] at z;exact(r.dc a k z).mono (.putD e ob) λu q=>by rw [jj w];exact q
end
abbrev SD:=G0 (D2 D)
def RelS (K:G7)(H:Hp)(σd:SD)(σ:St):Prop:=σd.length=σ.length/\ ∀ (i:G6) (d:D),σd[i]? =some (some d)-> ∃v,σ[i]? =some (some v)/\RelD K H d v
theorem RelS.mono {σd:SD}(r:RelS K H σd σ)(k:Kept H H'):RelS K H' σd σ:=⟨r.1,λi d e=>let ⟨v,a,b⟩:=r.2 i d e;⟨v,a,b.mono k⟩⟩
theorem RelS.set {σd:SD}{d:D}{v:V}(r:RelS K H σd σ)(q:RelD K H d v)(i:G6):RelS K H (σd.set i (some d)) (σ.set i (some v)):=⟨by simp [r.1],λj e h=>by
 by_cases z:i=j
 ·subst z;rw [gE] at h ⊢
  by_cases hl:i<σd.length
  ·rw [R8 rfl,R8 hl] at h;rw [R8 rfl,R8 (by rw [<-r.1];exact hl)];cases h;exact⟨v,rfl,q⟩
  ·rw [R8 rfl,R9 hl] at h;cases h
 ·rw [K7 z] at h ⊢;exact r.2 j e h⟩
theorem RelS.clear1 {σd:SD}(r:RelS K H σd σ)(i:G6):RelS K H (σd.set i none) (σ.set i none):=⟨by simp [r.1],λj e h=>by
 by_cases z:i=j
 ·subst z;rw [gE] at h;split at h
  ·split at h<;>cases h
  ·contradiction
 ·rw [K7 z] at h ⊢;exact r.2 j e h⟩
def jW:G0 G6->SD->SD
 | [],σ=>σ
 |j::js,σ=>jW js (σ.set j none)
theorem RelS.clear: ∀ (js:G0 G6) {σd:SD} {σ:St},RelS K H σd σ->RelS K H (jW js σd) (zk js σ)
 | [],_,_,r=>r
 |j::js,_,_,r=>RelS.clear js (r.clear1 j)
abbrev KD:=D->HD->Prop
abbrev TED:=SD->HD->KD->Prop
abbrev TTD:=SD->HD->(N0->HD->Prop)->Prop
abbrev TAD:=SD->HD->(G0 D->HD->Prop)->Prop
abbrev RD2:=D->D->HD->KD->Prop
abbrev RDn:=G0 D->HD->KD->Prop
structure EndsD where
 nx:SD->HD->Prop
 rt:KD
 bk:SD->HD->Prop:=λ_ _=>False
 ct:SD->HD->Prop:=λ_ _=>False
abbrev TSD:=EndsD->SD->HD->Prop
abbrev TGD:=D->SD->HD->(SD->HD->Prop)->Prop
def BO (K:G7)(H:Hp)(Qd:KD)(Q:VK):Prop:= ∀d v h' H',Kept H H'->RelH K h' H'->RelD K H' d v->Qd d h'->Q v H'
def LE (K:G7)(t:TED):TE:=λσ H Q=> ∃σd h Qd,RelS K H σd σ/\RelH K h H/\t σd h Qd/\BO K H Qd Q
def LT (K:G7)(t:TTD):TT:=λσ H Q=> ∃σd h Qd,RelS K H σd σ/\RelH K h H/\t σd h Qd/\ ∀b h' H',Kept H H'->RelH K h' H'->Qd b h'->Q b H'
def LA (K:G7)(t:TAD):TA:=λσ H Q=> ∃σd h Qd,RelS K H σd σ/\RelH K h H/\t σd h Qd/\ ∀ds vs h' H',Kept H H'->RelH K h' H'->RelDs K H' ds vs->Qd ds h'->Q vs H'
def LR (K:G7)(f:RD2):R2:=λx y H Q=> ∃dx dy h Qd,RelD K H dx x/\RelD K H dy y/\RelH K h H/\f dx dy h Qd/\BO K H Qd Q
def LC (K:G7)(f:RDn):G0 V->Hp->VK->Prop:=λxs H Q=> ∃ds h Qd,RelDs K H ds xs/\RelH K h H/\f ds h Qd/\BO K H Qd Q
def LG (K:G7)(g:TGD):TG:=λv σ H Q=> ∃d σd h Qd,RelD K H d v/\RelS K H σd σ/\RelH K h H/\g d σd h Qd/\ ∀σd' h' σ' H',Kept H H'->RelS K H' σd' σ'->RelH K h' H'->Qd σd' h'->Q σ' H'
def LS (K:G7)(t:TSD):TS:=λD₀ σ H=> ∃σd h Dd,RelS K H σd σ/\RelH K h H/\t Dd σd h/\
 (∀σd' h' σ' H',Kept H H'->RelS K H' σd' σ'->RelH K h' H'->Dd.nx σd' h'->D₀.nx σ' H')/\BO K H Dd.rt D₀.rt/\
 (∀σd' h' σ' H',Kept H H'->RelS K H' σd' σ'->RelH K h' H'->Dd.bk σd' h'->D₀.bk σ' H')/\(∀σd' h' σ' H',Kept H H'->RelS K H' σd' σ'->RelH K h' H'->Dd.ct σd' h'->D₀.ct σ' H')
theorem PE.imp {t t':TE}(h:PE X e t)(i: ∀σ H Q,t' σ H Q->t σ H Q):PE X e t':=λpins s σ H Q I q=>h pins s σ H Q I (i σ H Q q)
theorem PT.imp {t t':TT}(h:PT X e t)(i: ∀σ H Q,t' σ H Q->t σ H Q):PT X e t':=λpins s σ H Q I q=>h pins s σ H Q I (i σ H Q q)
theorem PW.imp {t t':TT}(h:PW X e t)(i: ∀σ H Q,t' σ H Q->t σ H Q):PW X e t':=λwh pins s σ H Q I q=>h wh pins s σ H Q I (i σ H Q q)
theorem PA.imp {e:G0 M9}{t t':TA}(h:PA X e t)(i: ∀σ H Q,t' σ H Q->t σ H Q):PA X e t':=λpos pins s σ H Q I q=>h pos pins s σ H Q I (i σ H Q q)
theorem PS.imp {e:Q2}{t t':TS}(h:PS X e t)(i: ∀D σ H,t' D σ H->t D σ H):PS X e t':=λpins s σ H D I q=>h pins s σ H D I (i D σ H q)
theorem PSs.imp {e:G0 Q2}{t t':TS}(h:PSs X e t)(i: ∀D σ H,t' D σ H->t D σ H):PSs X e t':=λpins s σ H D I q=>h pins s σ H D I (i D σ H q)
theorem PG.imp {t t':TG}(h:PG X e t)(i: ∀v σ H Q,t' v σ H Q->t v σ H Q):PG X e t':=λpins s σ H v u Q I r q=>h pins s σ H v u Q I r (i v σ H Q q)
theorem OpR.imp {f:G1->G1->Sem G1}{r r':R2}(h:OpR X f r)(i: ∀x y H Q,r' x y H Q->r x y H Q):OpR X f r':=λpins s σ H x y v u Q I a b q=>h pins s σ H x y v u Q I a b (i x y H Q q)
theorem CallR.imp {f:G1}{r r':G0 V->Hp->VK->Prop}(h:CallR X f r)(i: ∀xs H Q,r' xs H Q->r xs H Q):CallR X f r':=λpins s σ H xs us Q I a q=>h pins s σ H xs us Q I a (i xs H Q q)
def Nw (i:G6):TED:=λσ h Q=> ∃d,σ[i]? =some (some d)/\Q d h
def dC (d:D):TED:=λ_ h Q=>Q d h
def dOp (f:RD2)(ta tb:TED):TED:=λσ h Q=>ta σ h λx h1=>tb σ h1 λy h2=>f x y h2 Q
def Wf:TAD:=λ_ h Q=>Q [] h
def zu (ta:TED)(tr:TAD):TAD:=λσ h Q=>ta σ h λx h1=>tr σ h1 λxs h2=>Q (x::xs) h2
def EW (t:TAD):TED:=λσ h Q=>t σ h λds h1=>ds.length<=sizeLine/\Q (.tup ds) h1
def Er (t:TAD):TED:=λσ h Q=>t σ h λds h1=>ds.length<=sizeLine/\ ∀p,h1 p=none->Q (.lst p) (zB h1 p ds)
def dCB (r:RDn)(t:TAD):TED:=λσ h Q=>t σ h λds h1=>r ds h1 Q
def vn (t:TED):TTD:=λσ h Q=>t σ h λx h1=> ∃k,x= .bl k/\Q k h1
def YQ (r r':RD2)(ta tb tc:TED):TED:=λσ h Q=>ta σ h λx h1=>tb σ h1 λy h2=>r x y h2 λz h3=> ∃k,z= .bl k/\
 (if k=true then tc σ h3 λw h4=>r' y w h4 Q else Q (.bl false) h3)
def BP (t u:TTD):TTD:=λσ h Q=>t σ h λc h1=>if c=true then u σ h1 Q else Q false h1
def Oi (t u:TTD):TTD:=λσ h Q=>t σ h λc h1=>if c=true then Q true h1 else u σ h1 Q
def Qf (t:TTD):TTD:=λσ h Q=>t σ h λc h1=>Q (!c) h1
def RK (ta tb:TED):TED:=λσ h Q=>ta σ h λx h1=> ∃c,x= .bl c/\if c=true then tb σ h1 Q else Q (.bl false) h1
def EX (ta tb:TED):TED:=λσ h Q=>ta σ h λx h1=> ∃c,x= .bl c/\if c=true then Q (.bl true) h1 else tb σ h1 Q
def RL (ta:TED):TED:=λσ h Q=>ta σ h λx h1=> ∃c,x= .bl c/\Q (.bl (!c)) h1
def dIf (t:TTD)(ta tb:TED):TED:=λσ h Q=>t σ h λc h1=>if c=true then ta σ h1 Q else tb σ h1 Q
section
variable {K:G7}
theorem Oj (i:G6): ∀σ H Q,LE K (Nw i) σ H Q->EA i σ H Q:=λσ H Q ⟨σd,h,Qd,rs,rh,⟨d,e,q⟩,p⟩=>let ⟨v,e1,e2⟩:=rs.2 i d e;⟨v,e1,p d v h H (.refl H) rh e2 q⟩
theorem Es {d:D}{v:V}(r: ∀H,RelD K H d v): ∀σ H Q,LE K (dC d) σ H Q->tC v σ H Q:=λσ H Q ⟨σd,h,Qd,rs,rh,q,p⟩=>p d v h H (.refl H) rh (r H) q
variable {H:Hp}
theorem jI {H1:Hp}{Qd:KD}{Q:VK}(p:BO K H Qd Q)(k:Kept H H1):BO K H1 Qd Q:=λd v h' H' k'=>p d v h' H' (k.trans k')
variable {ta:TED}
theorem LE.bind {σ:St}{σd:SD}{h:HD}{kd:KD}{k:VK}(rs:RelS K H σd σ)(rh:RelH K h H)(t:ta σd h kd)(f: ∀d v h' H',Kept H H'->RelS K H' σd σ->RelH K h' H'->RelD K H' d v->kd d h'->k v H'):LE K ta σ H k:=
 ⟨σd,h,kd,rs,rh,t,λd v h' H' kp r1 r2 q=>f d v h' H' kp (rs.mono kp) r1 r2 q⟩
theorem LT.bind {ta:TTD}{σ:St}{σd:SD}{h:HD}{kd:N0->HD->Prop}{k:N0->Hp->Prop}(rs:RelS K H σd σ)(rh:RelH K h H)(t:ta σd h kd)(f: ∀b h' H',Kept H H'->RelS K H' σd σ->RelH K h' H'->kd b h'->k b H'):LT K ta σ H k:=
 ⟨σd,h,kd,rs,rh,t,λb h' H' kp r1 q=>f b h' H' kp (rs.mono kp) r1 q⟩
theorem LA.bind {ta:TAD}{σ:St}{σd:SD}{h:HD}{kd:G0 D->HD->Prop}{k:G0 V->Hp->Prop}(rs:RelS K H σd σ)(rh:RelH K h H)(t:ta σd h kd)(f: ∀ds vs h' H',Kept H H'->RelS K H' σd σ->RelH K h' H'->RelDs K H' ds vs->kd ds h'->k vs H'):LA K ta σ H k:=
 ⟨σd,h,kd,rs,rh,t,λd v h' H' kp r1 r2 q=>f d v h' H' kp (rs.mono kp) r1 r2 q⟩
variable {tb:TED}
theorem BQ {f:RD2}: ∀σ H Q,LE K (dOp f ta tb) σ H Q->tOp (LR K f) (LE K ta) (LE K tb) σ H Q:=λσ H Q ⟨σd,h,Qd,rs,rh,t,p⟩=>
 LE.bind rs rh t λd v h1 H1 k1 rs1 rh1 r1 t1=>LE.bind rs1 rh1 t1 λd2 v2 h2 H2 k2 rs2 rh2 r2 t2=>⟨d,d2,h2,Qd,r1.mono k2,r2,rh2,t2,jI p (k1.trans k2)⟩
theorem Ol: ∀σ H Q,LA K Wf σ H Q->TJ σ H Q:=λσ H Q ⟨σd,h,Qd,rs,rh,t,p⟩=>p [] [] h H (.refl H) rh rfl t
theorem BR {tr:TAD}: ∀σ H Q,LA K (zu ta tr) σ H Q->LQ (LE K ta) (LA K tr) σ H Q:=λσ H Q ⟨σd,h,Qd,rs,rh,t,p⟩=>
 LE.bind rs rh t λd v h1 H1 k1 rs1 rh1 r1 t1=>LA.bind rs1 rh1 t1 λds vs h2 H2 k2 rs2 rh2 r2 t2=>p _ _ h2 H2 (k1.trans k2) rh2 (.cons (r1.mono k2) r2) t2
theorem Om {t:TAD}: ∀σ H Q,LE K (EW t) σ H Q->TK (LA K t) σ H Q:=λσ H Q ⟨σd,h,Qd,rs,rh,t,p⟩=>
 LA.bind rs rh t λds vs h1 H1 k1 rs1 rh1 r1 ⟨z,q⟩=>⟨by rw [<-r1.length];exact z,λa ha=>p (.tup ds) (.ref a) h1 _ (k1.trans (.new ha)) (rh1.new ha) ⟨a,vs,rfl,jt,r1.mono (.new ha)⟩ q⟩
theorem On {t:TAD}: ∀σ H Q,LE K (Er t) σ H Q->TL (LA K t) σ H Q:=λσ H Q ⟨σd,h,Qd,rs,rh,t,p⟩=>
 LA.bind rs rh t λds vs h1 H1 k1 rs1 rh1 r1 ⟨z,q⟩=>⟨by rw [<-r1.length];exact z,λa ha=>p (.lst a) (.ref a) _ _ (k1.trans (.new ha)) (rh1.newL ha r1) ⟨rfl,vs,jt⟩ (q a (rh1.free ha))⟩
theorem Oo {r:RDn}{t:TAD}: ∀σ H Q,LE K (dCB r t) σ H Q->tCB (LC K r) (LA K t) σ H Q:=λσ H Q ⟨σd,h,Qd,rs,rh,t,p⟩=>
 LA.bind rs rh t λds vs h1 H1 k1 rs1 rh1 r1 q=>⟨ds,h1,Qd,r1,rh1,q,jI p k1⟩
theorem GC {t:TED}: ∀σ H Q,LT K (vn t) σ H Q->Bx (LE K t) σ H Q:=λσ H Q ⟨σd,h,Qd,rs,rh,t,p⟩=>
 LE.bind rs rh t λd v h1 H1 k1 rs1 rh1 r1 ⟨k,e,q⟩=>by subst e;exact⟨k,r1,p k h1 H1 k1 rh1 q⟩
theorem RM {t:TED}: ∀σ H Q,LT K (vn t) σ H Q->tB (LE K t) σ H Q:=λσ H Q ⟨σd,h,Qd,rs,rh,t,p⟩=>
 LE.bind rs rh t λd v h1 H1 k1 rs1 rh1 r1 ⟨k,e,q⟩=>by subst e;exact⟨k,r1,p k h1 H1 k1 rh1 q⟩
theorem RO {r r':RD2}{tc:TED}: ∀σ H Q,LE K (YQ r r' ta tb tc) σ H Q->Nv (LR K r) (LR K r') (LE K ta) (LE K tb) (LE K tc) σ H Q:=λσ H Q ⟨σd,h,Qd,rs,rh,t,p⟩=>
 LE.bind rs rh t λd v h1 H1 k1 rs1 rh1 r1 t1=>LE.bind rs1 rh1 t1 λd2 v2 h2 H2 k2 rs2 rh2 r2 t2=>⟨d,d2,h2,_,r1.mono k2,r2,rh2,t2,λd3 v3 h3 H3 k3 rh3 r3 ⟨k,e,q⟩=>by
  subst e;refine⟨k,r3,?_⟩;cases k with
  |true=>
   rw [R8 rfl] at q ⊢;exact LE.bind (rs2.mono k3) rh3 q λd4 v4 h4 H4 k4 rs4 rh4 r4 t4=>⟨d2,d4,h4,Qd,(r2.mono k3).mono k4,r4,rh4,t4,jI p (k1.trans (k2.trans (k3.trans k4)))⟩
  |false=>
   rw [R9 D6] at q ⊢;exact p (.bl false) _ h3 H3 (k1.trans (k2.trans k3)) rh3 rfl q⟩
variable {t:TTD}
theorem Op {u:TTD}: ∀σ H Q,LT K (BP t u) σ H Q->Tr (LT K t) (LT K u) σ H Q:=λσ H Q ⟨σd,h,Qd,rs,rh,t,p⟩=>
 LT.bind rs rh t λb h1 H1 k1 rs1 rh1 q=>by
  cases b with
  |true=>rw [R8 rfl] at q ⊢;exact⟨σd,h1,Qd,rs1,rh1,q,λb h' H' k=>p b h' H' (k1.trans k)⟩
  |false=>rw [R9 D6] at q ⊢;exact p _ _ _ k1 rh1 q
theorem EZ {u:TTD}: ∀σ H Q,LT K (Oi t u) σ H Q->tOr (LT K t) (LT K u) σ H Q:=λσ H Q ⟨σd,h,Qd,rs,rh,t,p⟩=>
 LT.bind rs rh t λb h1 H1 k1 rs1 rh1 q=>by
  cases b with
  |true=>rw [R8 rfl] at q ⊢;exact p _ _ _ k1 rh1 q
  |false=>rw [R9 D6] at q ⊢;exact⟨σd,h1,Qd,rs1,rh1,q,λb h' H' k=>p b h' H' (k1.trans k)⟩
theorem Oq: ∀σ H Q,LT K (Qf t) σ H Q->Tt (LT K t) σ H Q:=λσ H Q ⟨σd,h,Qd,rs,rh,t,p⟩=>
 LT.bind rs rh t λb h1 H1 k1 rs1 rh1 q=>p _ _ _ k1 rh1 q
theorem Os: ∀σ H Q,LE K (RK ta tb) σ H Q->Ln (LE K ta) (LE K tb) σ H Q:=λσ H Q ⟨σd,h,Qd,rs,rh,t,p⟩=>
 LE.bind rs rh t λd v h1 H1 k1 rs1 rh1 r1 ⟨c,e,q⟩=>by
  subst e;refine⟨c,r1,?_⟩;cases c with
  |true=>rw [R8 rfl] at q ⊢;exact⟨σd,h1,Qd,rs1,rh1,q,jI p k1⟩
  |false=>rw [R9 D6] at q ⊢;exact p (.bl false) _ _ _ k1 rh1 rfl q
theorem Sa: ∀σ H Q,LE K (EX ta tb) σ H Q->Tu (LE K ta) (LE K tb) σ H Q:=λσ H Q ⟨σd,h,Qd,rs,rh,t,p⟩=>
 LE.bind rs rh t λd v h1 H1 k1 rs1 rh1 r1 ⟨c,e,q⟩=>by
  subst e;refine⟨c,r1,?_⟩;cases c with
  |true=>rw [R8 rfl] at q ⊢;exact p (.bl true) _ _ _ k1 rh1 rfl q
  |false=>rw [R9 D6] at q ⊢;exact⟨σd,h1,Qd,rs1,rh1,q,jI p k1⟩
theorem Ot: ∀σ H Q,LE K (RL ta) σ H Q->Lo (LE K ta) σ H Q:=λσ H Q ⟨σd,h,Qd,rs,rh,t,p⟩=>
 LE.bind rs rh t λd v h1 H1 k1 rs1 rh1 r1 ⟨c,e,q⟩=>by subst e;exact⟨c,r1,p (.bl (!c)) _ _ _ k1 rh1 rfl q⟩
theorem Sb: ∀σ H Q,LE K (dIf t ta tb) σ H Q->tIf (LT K t) (LE K ta) (LE K tb) σ H Q:=λσ H Q ⟨σd,h,Qd,rs,rh,t,p⟩=>
 LT.bind rs rh t λb h1 H1 k1 rs1 rh1 q=>by
  cases b with
  |true=>rw [R8 rfl] at q ⊢;exact⟨σd,h1,Qd,rs1,rh1,q,jI p k1⟩
  |false=>rw [R9 D6] at q ⊢;exact⟨σd,h1,Qd,rs1,rh1,q,jI p k1⟩
end
abbrev QE (X:Cx)(e:M9)(t:TED):Prop:=PE X e (LE X.K t)
abbrev QT (X:Cx)(e:M9)(t:TTD):Prop:=PT X e (LT X.K t)
abbrev QW (X:Cx)(e:M9)(t:TTD):Prop:=PW X e (LT X.K t)
abbrev QA (X:Cx)(es:G0 M9)(t:TAD):Prop:=PA X es (LA X.K t)
abbrev QS (X:Cx)(s:Q2)(t:TSD):Prop:=PS X s (LS X.K t)
abbrev QSs (X:Cx)(s:G0 Q2)(t:TSD):Prop:=PSs X s (LS X.K t)
abbrev QG (X:Cx)(e:M9)(t:TGD):Prop:=PG X e (LG X.K t)
abbrev OpQ (X:Cx)(f:G1->G1->Sem G1)(r:RD2):Prop:=OpR X f (LR X.K r)
abbrev yt (X:Cx)(f:G1)(r:RDn):Prop:=CallR X f (LC X.K r)
section
variable {X:Cx}{a b c e:M9}{es rest:G0 M9}{ta tb tc te:TED}{t u:TAD}{tt tu:TTD}{pos:Pos}{f r r':RD2}
theorem qv (i:G6){x:Str}(hN:X.N[i]? =some x:=by rfl)(hv:Vis X.env.scope x:=by first|exact U7 rfl|exact aW (U7 rfl)|exact aW (aW rfl))(hd:(x==("__debug__" :Str))=false:=by decide)
 (hcd:(x==("__classdict__" :Str))=false:=by decide):QE X (.Name x pos) (Nw i):=(Nq hN hv hd hcd).imp (Oj i)
theorem HE {i:P2}{j:G6}:QE X (.Constant (.int i) j pos) (dC (.int i)):=pe_int.imp (Es λ_=>rfl)
theorem qbl {i:N0}{j:G6}:QE X (.Constant (.bool i) j pos) (dC (.bl i)):=pe_bl.imp (Es λ_=>rfl)
theorem HF {j:G6}:QE X (.Constant .none j pos) (dC .non):=pe_non.imp (Es λ_=>rfl)
theorem Sc {x:Str}{i:P2}{tk:Tok}(hg:Gl X x)(hm:X.mg x=some (.int i tk))(hd:(x==("__debug__" :Str))=false:=by decide):QE X (.Name x pos) (dC (.int i)):=
 (Bn (v:= .int i) hg hm ⟨tk,rfl⟩ hd).imp (Es λ_=>rfl)
theorem qop {op:pX}(ho:OpQ X (K8 op) f)(ha:QE X a ta)(hb:QE X b tb):QE X (.BinOp a op b pos) (dOp f ta tb):=(EG ho ha hb).imp BQ
theorem HG {op:nQ}(ho:OpQ X (L0 op) f)(ha:QE X a ta)(hb:QE X b tb)(hm:Y2 op b=false):QE X (.Compare a [op] [b] pos) (dOp f ta tb):=(Bw ho ha hb hm).imp BQ
theorem Sd {op:nQ}(ho:OpQ X (L0 op) f)(ha:QE X a ta)(hb:QE X b tb)(hm:Y2 op b=false):QT X (.Compare a [op] [b] pos) (vn (dOp f ta tb)):=
 (By ho ha hb hm).imp λσ H Q h=>by
  obtain⟨σd,h,Qd,rs,rh,t,p⟩:=GC (t:=dOp f ta tb) σ H Q h;exact BQ σ H _ ⟨σd,h,Qd,rs,rh,t,p⟩
theorem BS {op op':nQ}(ho:OpQ X (L0 op) r)(ho':OpQ X (L0 op') r')(ha:QE X a ta)(hb:QE X b tb)(hc:QE X c tc)(hm:v9 [op,op'] [b,c]=false:=by with_unfolding_all rfl):
 QT X (.Compare a [op,op'] [b,c] pos) (vn (YQ r r' ta tb tc)):=(RE ho ho' ha hb hc hm).imp λσ H Q h=>by
 obtain⟨σd,h,Qd,rs,rh,t,p⟩:=GC (t:=YQ r r' ta tb tc) σ H Q h;exact RO σ H _ ⟨σd,h,Qd,rs,rh,t,p⟩
theorem Se (ha:QE X a ta)(he: ∀whole,isTrue a X.env whole=(do let v <-whole;fB a.pos;Y0 [v] (mF v)):=by intro _;rfl):QT X a (vn ta):=(Lj ha he).imp RM
theorem Sf (ha:QT X a tt):QW X (.BoolOp .And [a] pos) tt:=Bp ha
theorem HH (ha:QT X a tt):QW X (.BoolOp .Or [a] pos) tt:=Lk ha
theorem Sg (ha:QT X a tt)(hb:QW X (.BoolOp .And (b::rest) pos) tu):QW X (.BoolOp .And (a::b::rest) pos) (BP tt tu):=(Ll ha hb).imp Op
theorem HI (ha:QT X a tt)(hb:QW X (.BoolOp .Or (b::rest) pos) tu):QW X (.BoolOp .Or (a::b::rest) pos) (Oi tt tu):=(EB ha hb).imp EZ
theorem Sh (ha:QT X a tt):QT X (.UnaryOp .Not a pos) (Qf tt):=(Lm ha).imp Oq
theorem HJ {op:BoolOp}(ha:QE X a ta):QE X (.BoolOp op [a] pos) ta:=Lp ha
theorem HK (ha:QE X a ta)(hb:QE X (.BoolOp .And (b::rest) pos) tb):QE X (.BoolOp .And (a::b::rest) pos) (RK ta tb):=(Lq ha hb).imp Os
theorem qor (ha:QE X a ta)(hb:QE X (.BoolOp .Or (b::rest) pos) tb):QE X (.BoolOp .Or (a::b::rest) pos) (EX ta tb):=(EC ha hb).imp Sa
theorem HL (ha:QE X a ta):QE X (.UnaryOp .Not a pos) (RL ta):=(Lr ha).imp Ot
theorem qif {c:M9}(hc:QT X c tt)(ha:QE X a ta)(hb:QE X b tb):QE X (.IfExp c a b pos) (dIf tt ta tb):=(Ry hc ha hb).imp Sb
theorem Ou:QA X [] Wf:=pa_nil.imp Ol
theorem BT (ha:QE X e te)(hr:QA X es t)(hs:S1 (e::es) X.env=(false,J7 e X.env)::S1 es X.env:=by rfl):QA X (e::es) (zu te t):=(wS ha hr hs).imp BR
theorem HM {k:G6}(h:QA X es t):QE X (.Tuple es k pos) (EW t):=(LU h).imp Om
theorem HN (h:QA X es t):QE X (.List es pos) (Er t):=(LV h).imp On
end
def Uf:TSD:=λD σ h=>D.nx σ h
def JD (t u:TSD):TSD:=λD σ h=>t {D with nx:=u D} σ h
def BU (te:TED):TSD:=λD σ h=>te σ h λ_ h1=>D.nx σ h1
def Nx (te:TED):TSD:=λD σ h=>te σ h D.rt
def RQ (c:TTD)(t u:TSD):TSD:=λD σ h=>c σ h λb h1=>if b=true then t D σ h1 else u D σ h1
def GD (i:G6)(te:TED):TSD:=λD σ h=>te σ h λd h1=>D.nx (σ.set i (some d)) h1
def Si (te:TED)(g:TGD):TSD:=λD σ h=>te σ h λx h1=>g x σ h1 D.nx
def Sj (i j:G6)(ta:TAD):TSD:=λD σ h=>ta σ h λds h1=> ∃v w,ds= [v,w]/\D.nx ((σ.set i (some v)).set j (some w)) h1
def gN (i:G6):TGD:=λd σ h Q=>Q (σ.set i (some d)) h
def gT2 (i j:G6):TGD:=λd σ h Q=> ∃x y,d= .tup [x,y]/\Q ((σ.set i (some x)).set j (some y)) h
section
variable {K:G7}
theorem LS.of {t:TSD}{D₀:Ends}{σ:St}{H:Hp}{σd:SD}{h:HD}{Dd:EndsD}(rs:RelS K H σd σ)(rh:RelH K h H)(q:t Dd σd h)
 (nx: ∀σd' h' σ' H',Kept H H'->RelS K H' σd' σ'->RelH K h' H'->Dd.nx σd' h'->D₀.nx σ' H')(rt:BO K H Dd.rt D₀.rt)
 (bk: ∀σd' h' σ' H',Kept H H'->RelS K H' σd' σ'->RelH K h' H'->Dd.bk σd' h'->D₀.bk σ' H')(ct: ∀σd' h' σ' H',Kept H H'->RelS K H' σd' σ'->RelH K h' H'->Dd.ct σd' h'->D₀.ct σ' H'):LS K t D₀ σ H:=⟨σd,h,Dd,rs,rh,q,nx,rt,bk,ct⟩
theorem BV: ∀D σ H,LS K Uf D σ H->Ls D σ H:=λD σ H ⟨σd,h,Dd,rs,rh,q,nx,_⟩=>nx σd h σ H (.refl H) rs rh q
theorem Ov {t u:TSD}: ∀D σ H,LS K (JD t u) D σ H->Tv (LS K t) (LS K u) D σ H:=λD σ H ⟨σd,h,Dd,rs,rh,q,nx,rt,bk,ct⟩=>
 LS.of rs rh q (λσd' h' σ' H' k rs' rh' q'=>⟨σd',h',Dd,rs',rh',q',λa b c d k'=>nx a b c d (k.trans k'),jI rt k,λa b c d k'=>bk a b c d (k.trans k'),λa b c d k'=>ct a b c d (k.trans k')⟩) rt bk ct
variable {te:TED}
theorem BW: ∀D σ H,LS K (BU te) D σ H->Lt (LE K te) D σ H:=λD σ H ⟨σd,h,Dd,rs,rh,q,nx,rt,bk,ct⟩=>
 LE.bind rs rh q λd v h1 H1 k1 rs1 rh1 r1 q1=>nx _ _ _ _ k1 rs1 rh1 q1
theorem Ow: ∀D σ H,LS K (Nx te) D σ H->Tw (LE K te) D σ H:=λD σ H ⟨σd,h,Dd,rs,rh,q,nx,rt,bk,ct⟩=>⟨σd,h,Dd.rt,rs,rh,q,rt⟩
theorem Sk {c:TTD}{t u:TSD}: ∀D σ H,LS K (RQ c t u) D σ H->Tx (LT K c) (LS K t) (LS K u) D σ H:=λD σ H ⟨σd,h,Dd,rs,rh,q,nx,rt,bk,ct⟩=>
 LT.bind rs rh q λb h1 H1 k rs1 rh1 q1=>by
  cases b with
  |true=>rw [R8 rfl] at q1 ⊢;exact⟨σd,h1,Dd,rs1,rh1,q1,λa b c d k'=>nx a b c d (k.trans k'),jI rt k,λa b c d k'=>bk a b c d (k.trans k'),λa b c d k'=>ct a b c d (k.trans k')⟩
  |false=>rw [R9 D6] at q1 ⊢;exact⟨σd,h1,Dd,rs1,rh1,q1,λa b c d k'=>nx a b c d (k.trans k'),jI rt k,λa b c d k'=>bk a b c d (k.trans k'),λa b c d k'=>ct a b c d (k.trans k')⟩
theorem Xa {i:G6}: ∀D σ H,LS K (GD i te) D σ H->RA (LE K te) (wa i) D σ H:=λD σ H ⟨σd,h,Dd,rs,rh,q,nx,rt,bk,ct⟩=>
 LE.bind rs rh q λd v h1 H1 k1 rs1 rh1 r1 q1=>nx _ _ _ _ k1 (rs1.set r1 i) rh1 q1
theorem Ox {g:TGD}: ∀D σ H,LS K (Si te g) D σ H->RA (LE K te) (LG K g) D σ H:=λD σ H ⟨σd,h,Dd,rs,rh,q,nx,rt,bk,ct⟩=>
 LE.bind rs rh q λd v h1 H1 k1 rs1 rh1 r1 q1=>⟨d,σd,h1,_,r1,rs1,rh1,q1,λa b c e k'=>nx a b c e (k1.trans k')⟩
theorem Oy {i j:G6}{ta:TAD}: ∀D σ H,LS K (Sj i j ta) D σ H->Tz i j (LA K ta) D σ H:=λD σ H ⟨σd,h,Dd,rs,rh,q,nx,rt,bk,ct⟩=>
 LA.bind rs rh q λds vs h1 H1 k1 rs1 rh1 r1 ⟨x,y,e,q1⟩=>by
  subst e;obtain⟨v,r,e,r2,r3⟩:=(show ∃v r,vs=v::r/\RelD K H1 x v/\RelDs K H1 [y] r from r1);obtain⟨w,r',e',r4,r5⟩:=(show ∃v r',r=v::r'/\RelD K H1 y v/\RelDs K H1 [] r' from r3);cases (show r'= [] from r5);subst e' e;exact⟨v,w,rfl,nx _ _ _ _ k1 ((rs1.set r2 i).set r4 j) rh1 q1⟩
theorem BX (i:G6): ∀v σ H Q,LG K (gN i) v σ H Q->wa i v σ H Q:=λv σ H Q ⟨d,σd,h,Qd,r,rs,rh,q,p⟩=>p _ _ _ _ (.refl H) (rs.set r i) rh q
theorem vo {H:Hp}{x y:D}{vs:G0 V}(r:RelDs K H [x,y] vs): ∃v w,vs= [v,w]/\RelD K H x v/\RelD K H y w:=by
 obtain⟨v,r1,e,r2,r3⟩:=(show ∃v r,vs=v::r/\RelD K H x v/\RelDs K H [y] r from r);obtain⟨w,z,e',r4,r5⟩:=(show ∃v z,r1=v::z/\RelD K H y v/\RelDs K H [] z from r3);cases (show z= [] from r5);subst e' e;exact⟨v,w,rfl,r2,r4⟩
theorem jG {H:Hp}{x:D}{vs:G0 V}(r:RelDs K H [x] vs): ∃v,vs= [v]/\RelD K H x v:=by
 obtain⟨v,r1,e,r2,r3⟩:=(show ∃v r,vs=v::r/\RelD K H x v/\RelDs K H [] r from r);cases (show r1= [] from r3);exact⟨v,e,r2⟩
theorem Oz (i j:G6): ∀v σ H Q,LG K (gT2 i j) v σ H Q->Em K 2 (VY (wa i) (VY (wa j) El)) v σ H Q:=λv σ H Q ⟨d,σd,h,Qd,r,rs,rh,⟨x,y,e,q⟩,p⟩=>by
 subst e;obtain⟨a,vs,e,hH,r1⟩:=(show ∃a vs,v= .ref a/\H a=some (.tup vs)/\RelDs K H [x,y] vs from r);obtain⟨v1,v2,e1,r2,r3⟩:=vo r1;subst e e1;exact⟨a,[v1,v2],rfl,SqT.of hH,rfl,v1,[v2],rfl,v2,[],rfl,rfl,p _ _ _ _ (.refl H) ((rs.set r2 i).set r3 j) rh q⟩
end
section
variable {X:Cx}{st:Q2}{sts:G0 Q2}{t u:TSD}{e:M9}{te:TED}{pos:Pos}
theorem OA:QSs X [] Uf:=pss_nil.imp BV
theorem BY (h1:QS X st t)(h2:QSs X sts u):QSs X (st::sts) (JD t u):=(Rz h1 h2).imp Ov
theorem OB (h1:QS X st t):QSs X [st] t:=Bq h1
theorem Sl (he:QE X e te)(hs:W5 e none pos.line X.env=pure false:=by rfl):QS X (.Expr e pos) (BU te):=(Br he hs).imp BW
theorem HP (he:QE X e te):QS X (.Return (some e) pos) (Nx te):=(Lu he).imp Ow
theorem HQ {c:M9}{a b:G0 Q2}{tc:TTD}(hc:QT X c tc)(ha:QSs X a t)(hb:QSs X b u):QS X (.If c a b pos) (RQ tc t u):=(ED hc ha hb).imp Sk
variable {i:G6}{x:Str}
theorem HR {pos':Pos}(hN:X.N.Nodup)(hi:X.N[i]? =some x)(hx:Loc X.env.scope x)(he:QE X e te)(hs:W5 e (some (.Name x pos')) pos.line X.env=pure false:=by rfl)
 (hf:X.fn x=true\/X.env.scope.names.lookup x=some .local:=by first|exact .inl rfl|exact .inr rfl|assumption):QS X (.Assign [.Name x pos'] e pos) (GD i te):=(Ly hN hi hx he hs hf).imp Xa
theorem BZ (hN:X.N.Nodup)(hi:X.N[i]? =some x)(hx:Loc X.env.scope x)(hf:X.fn x=true\/X.env.scope.names.lookup x=some .local:=by first|exact .inl rfl|exact .inr rfl|assumption):QG X (.Name x pos) (gN i):=
 (wR hN hi hx hf).imp (BX i)
theorem OC {j:G6}{y:Str}{p1 p2:Pos}{k:G6}(hc:X.calm=true)(hN:X.N.Nodup)(hi:X.N[i]? =some x)(hj:X.N[j]? =some y)(hx:Loc X.env.scope x)(hy:Loc X.env.scope y)
 (hf:X.fn x=true\/X.env.scope.names.lookup x=some .local:=by first|exact .inl rfl|exact .inr rfl|assumption)(hf2:X.fn y=true\/X.env.scope.names.lookup y=some .local:=by first|exact .inl rfl|exact .inr rfl|assumption):
 QG X (.Tuple [.Name x p1,.Name y p2] k pos) (gT2 i j):=(Gg hc (yl (wR hN hi hx hf) (yl (wR hN hj hy hf2) VZ))).imp (Oz i j)
theorem HS {tg:M9}{g:TGD}(he:QE X e te)(hg:QG X tg g)(hs:dW [tg] e pos.line X.env=pure false:=by rfl)(hsw:dX [tg] e X.env=pure none:=by rfl)
 (h1:(fH [tg] X.env).map (·.2)= [dP tg X.env]:=by rfl):QS X (.Assign [tg] e pos) (Si te g):=(Lw he hg hs hsw h1).imp Ox
theorem HU {j:G6}{y:Str}{a b:M9}{ta:TAD}{px py pt:Pos}{kt k2 pt2}(hc:X.calm=true)(hN:X.N.Nodup)(hi:X.N[i]? =some x)(hj:X.N[j]? =some y)(hij:i≠j)
 (hx:X.env.scope.names.lookup x=some .local)(hy:X.env.scope.names.lookup y=some .local)(ha:QA X [a,b] ta)
 (hw:dX [.Tuple [.Name x px,.Name y py] kt pt] (.Tuple [a,b] k2 pt2) X.env=pure (some [x,y]))
 (hs:dW [.Tuple [.Name x px,.Name y py] kt pt] (.Tuple [a,b] k2 pt2) pos.line X.env=pure false:=by rfl):
 QS X (.Assign [.Tuple [.Name x px,.Name y py] kt pt] (.Tuple [a,b] k2 pt2) pos) (Sj i j ta):=(Lz hc hN hi hj hij hx hy ha hw hs).imp Oy
end
abbrev ItD:=HD->D2 (G0 D)
def Ca (K:G7)(H:Hp)(j:ItD)(J:It):Prop:= ∀H' h',Kept H H'->RelH K h' H'-> ∀ds,j h'=some ds-> ∀i:G6,
 (∀d,ds[i]? =some d->J.go i H'/\ ∀x H'',J.yld i H' x H''->Kept H' H''/\RelH K h' H''/\RelD K H'' d x)/\(ds.length<=i->J.stop i H')
abbrev TID:=SD->HD->(ItD->HD->Prop)->Prop
def LI (K:G7)(t:TID):TI:=λσ H R=> ∃σd h Rd,RelS K H σd σ/\RelH K h H/\t σd h Rd/\ ∀j J h' H',Kept H H'->RelH K h' H'->Ca K H' j J->Rd j h'->R J H'
abbrev QI (X:Cx)(tg iter:M9)(t:TID):Prop:=PI X tg iter (LI X.K t)
theorem PI.imp {t t':TI}(h:PI X tg e t)(i: ∀σ H R,t' σ H R->t σ H R):PI X tg e t':=λpins s σ H R I q=>h pins s σ H R I (i σ H R q)
def iL (te:TED):TID:=λσ h R=>te σ h λx h1=> ∃a,x= .lst a/\R (λh=>h a) h1
def iR1 (ta:TAD):TID:=λσ h R=>ta σ h λds h1=> ∃n:P2,ds= [.int n]/\ -(2^62)<=n/\n<2^62/\R (λ_=>some ((D4 n.toNat).map λ(k:G6)=>D.int (k:P2))) h1
section
variable {K:G7}
theorem YR (H:Hp)(a:P3):Ca K H (λh=>h a) (Itl K a):=λH' h' k rh ds e i=>by
 obtain⟨vs,hv,r⟩:=rh a ds e;refine⟨λd hd=> ?_,λhl=>⟨vs,SqL.of hv,by rw [<-r.length];exact hl⟩⟩;obtain⟨v,e1,e2⟩:=r.get hd;refine⟨⟨vs,v,SqL.of hv,e1⟩,λx H'' ⟨eH,hx⟩=> ?_⟩;subst eH;have:=hx vs (SqL.of hv);rw [e1] at this;cases this;exact⟨.refl _,rh,e2⟩
theorem RR {H:Hp}{a:P3}{vs:G0 V}{ds:G0 D}(hv:H a=some (.tup vs))(r:RelDs K H ds vs):Ca K H (λ_=>some ds) (Itt K a):=λH' h' k rh ds' e i=>by
 cases e;have hv':=k.tup _ _ hv;have r':=r.mono k;refine⟨λd hd=> ?_,λhl=>⟨vs,SqT.of hv',by rw [<-r.length];exact hl⟩⟩;obtain⟨v,e1,e2⟩:=r'.get hd;refine⟨⟨vs,v,SqT.of hv',e1⟩,λx H'' ⟨eH,hx⟩=> ?_⟩;subst eH;have:=hx vs (SqT.of hv');rw [e1] at this;cases this;exact⟨.refl _,rh,e2⟩
theorem Qg (H:Hp)(lo:P2)(n:G6)(ds:G0 D)(hd:ds=(D4 n).map λ(k:G6)=>D.int (lo+(k:P2))):Ca K H (λ_=>some ds) (Itr lo n):=λH' h' k rh ds' e i=>by
 cases e;subst hd;refine⟨λd hd=> ?_,λhl=>(show n<=i by simpa using hl)⟩;rw [D3] at hd;have hi:i<n:=by
  by_cases z:i<n
  ·exact z
  ·rw [F7 (by simpa using z)] at hd;cases hd
 rw [W8 hi] at hd;cases hd;refine⟨hi,λx H'' ⟨eH,hx⟩=> ?_⟩;subst eH hx;exact⟨.refl _,rh,rfl⟩
theorem Cb {te:TED}: ∀σ H R,LI K (iL te) σ H R->LF K (LE K te) σ H R:=λσ H R ⟨σd,h,Rd,rs,rh,q,p⟩=>
 LE.bind rs rh q λd v h1 H1 k1 rs1 rh1 r1 ⟨a,e,q1⟩=>by
  subst e;obtain⟨e,vs,hv⟩:=(show v= .ref a/\ ∃vs,H1 a=some (.lst vs) from r1);exact⟨a,e,⟨vs,SqL.of hv⟩,p _ _ _ _ k1 rh1 (YR H1 a) q1⟩
theorem Sm {ta:TAD}: ∀σ H R,LI K (iR1 ta) σ H R->LH (LA K ta) σ H R:=λσ H R ⟨σd,h,Rd,rs,rh,q,p⟩=>
 LA.bind rs rh q λds vs h1 H1 k1 rs1 rh1 r1 ⟨n,e,b1,b2,q1⟩=>by
  subst e;obtain⟨v,e,r2⟩:=jG r1;cases (show v= .int n from r2);exact⟨n,e,b1,b2,p _ _ _ _ k1 rh1 (Qg H1 0 n.toNat _ (by simp)) q1⟩
end
def OD (ti:TID)(g:TGD)(tb:TSD):TSD:=λD σ h=>ti σ h λj h1=> ∃ (n:G6) (W:G6->SD->HD->Prop),W 0 σ h1/\ ∀i σ' h',W i σ' h'-> ∃ds,j h'=some ds/\ds.length<=n/\(ds.length<=i->D.nx σ' h')/\
 ∀d,ds[i]? =some d->g d σ' h' λσ2 h2=>tb {D with nx:=λσ3 h3=> ∃h4,Sub h4 h3/\W (i+1) σ3 h4,ct:=λσ3 h3=> ∃h4,Sub h4 h3/\W (i+1) σ3 h4,bk:=D.nx} σ2 h2
variable {ti:TID}
theorem OE {g:TGD}{tb:TSD}: ∀D σ H,LS K (OD ti g tb) D σ H->TC (LI K ti) (LG K g) (LS K tb) D σ H:=λD σ H ⟨σd,h,Dd,rs,rh,q,nx,rt,bk,ct⟩=>by
 refine⟨σd,h,_,rs,rh,q,λj J h1 H1 k1 rh1 jo ⟨n,W,w0,turn⟩=> ?_⟩;refine⟨λi m σ' H'=>m=n-i/\Kept H1 H'/\ ∃σd' h',RelS K H' σd' σ'/\RelH K h' H'/\W i σd' h',⟨n-0,rfl,.refl _,σd,h1,rs.mono k1,rh1,w0⟩,?_⟩;rintro i m σ' H' ⟨rfl,kp,σd',h',rs',rh',w⟩;obtain⟨ds,ej,hn,stop,go⟩:=turn i σd' h' w;have jo':=jo H' h' kp rh' ds ej i
 by_cases hi:i<ds.length
 ·obtain⟨g1,y1⟩:=jo'.1 ds[i] (G2 hi);refine .inr ⟨g1,λσ2 H2=>Kept H1 H2/\ ∃σd2 h2,RelS K H2 σd2 σ2/\RelH K h2 H2/\W (i+1) σd2 h2,λσ2 H2 ⟨k2,a,b,c,d,e⟩=>⟨n-(i+1),by omega,rfl,k2,a,b,c,d,e⟩,λx H'' y=> ?_⟩;obtain⟨k2,rh2,r2⟩:=y1 x H'' y;refine⟨ds[i],σd',h',_,r2,rs'.mono k2,rh2,go ds[i] (G2 hi),λσd3 h3 σ3 H3 k3 rs3 rh3 q3=> ?_⟩;have kk:Kept H H3:=k1.trans (kp.trans (k2.trans k3));have kk1:Kept H1 H3:=kp.trans (k2.trans k3);exact⟨σd3,h3,_,rs3,rh3,q3,λa b c d k4 rs4 rh4 ⟨h4,sb,w4⟩=>⟨kk1.trans k4,a,h4,rs4,rh4.sub sb,w4⟩,jI rt kk,λa b c d k4 rs4 rh4 q4=>nx a b c d (kk.trans k4) rs4 rh4 q4,λa b c d k4 rs4 rh4 ⟨h4,sb,w4⟩=>⟨kk1.trans k4,a,h4,rs4,rh4.sub sb,w4⟩⟩
 ·exact .inl ⟨jo'.2 (aA.mp hi),nx _ _ _ _ (k1.trans kp) rs' rh' (stop (aA.mp hi))⟩
def vp:TTD:=λ_ h Q=>Q true h
def vU (bind:D->SD->SD->Prop)(js:G0 G6)(ti:TID)(tt:TTD)(te:TED):TED:=λσ h Q=>ti σ h λj h1=> ∃ (n:G6) (W:G6->G0 D->HD->Prop),W 0 [] h1/\ ∀i ys h',W i ys h'->ys.length<=sizeLine/\
 ∃ds,j h'=some ds/\ds.length<=n/\(ds.length<=i-> ∀p,h' p=none->Q (.lst p) (zB h' p ys))/\
  ∀d,ds[i]? =some d-> ∃σ2,bind d (jW js σ) σ2/\tt σ2 h' λb h3=>if b=true then te σ2 h3 λy h4=> ∃h5,Sub h5 h4/\W (i+1) (ys++ [y]) h5 else ∃h5,Sub h5 h3/\W (i+1) ys h5
def bN (i:G6):D->SD->SD->Prop:=λd σ σ2=>σ2=σ.set i (some d)
def b2 (i j:G6):D->SD->SD->Prop:=λd σ σ2=> ∃x y,d= .tup [x,y]/\σ2=(σ.set i (some x)).set j (some y)
theorem OF: ∀σ H Q,LT K vp σ H Q->TU σ H Q:=λσ H Q ⟨σd,h,Qd,rs,rh,q,p⟩=>p true h H (.refl H) rh q
def GE (K:G7)(js:G0 G6)(bind:D->SD->SD->Prop)(g:TG):Prop:= ∀ (σ:St) (σd σd2:SD) (H:Hp) (d:D) (v:V) (Q:St->Hp->Prop),RelS K H (jW js σd) (zk js σ)->RelD K H d v->bind d (jW js σd) σd2->
 (∀σ2,Agree (zk js σ) σ2->RelS K H σd2 σ2->Q σ2 H)->g v (zk js σ) H Q
variable {i:G6}
theorem Cc (hi:i∈js):GE K js (bN i) (wa i):=λσ σd σd2 H d v Q rs r b q=>by
 cases (show σd2=_ from b);exact q _ (.set v λu=>jR js σ i u hi) (rs.set r i)
theorem OG {j:G6}(hi:i∈js)(hj:j∈js)(hij:i≠j):GE K js (b2 i j) (Em K 2 (VY (wa i) (VY (wa j) El))):=λσ σd σd2 H d v Q rs r b q=>by
 obtain⟨x,y,e,e2⟩:=b;subst e e2;obtain⟨a,vs,e,hH,r1⟩:=(show ∃a vs,v= .ref a/\H a=some (.tup vs)/\RelDs K H [x,y] vs from r);obtain⟨v1,v2,e1,r2,r3⟩:=vo r1;subst e e1;refine⟨a,[v1,v2],rfl,SqT.of hH,rfl,v1,[v2],rfl,v2,[],rfl,rfl,q _ (.trans (.set v1 λu=>jR js σ i u hi) (.set v2 λu z=> ?_)) ((rs.set r2 i).set r3 j)⟩;rw [K7 hij] at z;exact jR js σ j u hj z
theorem RS {bind:D->SD->SD->Prop}{tt:TTD}{te:TED}(hb:GE K js bind g): ∀σ H Q,LE K (vU bind js ti tt te) σ H Q->tLC js (LI K ti) g (LT K tt) (LE K te) σ H Q:=
 λσ H Q ⟨σd,h,Qd,rs,rh,q,p⟩=>by
  refine⟨σd,h,_,rs,rh,q,λj J h1 H1 k1 rh1 jo ⟨n,W,w0,turn⟩=> ?_⟩;refine⟨λi m ys H'=>m=n-i/\Kept H1 H'/\ ∃ds h',RelDs K H' ds ys/\RelH K h' H'/\W i ds h',⟨n-0,rfl,.refl _,[],h1,rfl,rh1,w0⟩,?_⟩;rintro i m ys H' ⟨rfl,kp,yd,h',ry,rh',w⟩;obtain⟨hz,ds,ej,hn,stop,go⟩:=turn i yd h' w;refine⟨by rw [<-ry.length];exact hz,?_⟩;have jo':=jo H' h' kp rh' ds ej i;have kk:Kept H H':=k1.trans kp
  by_cases hi:i<ds.length
  ·obtain⟨g1,y1⟩:=jo'.1 ds[i] (G2 hi);refine .inr ⟨g1,λx H'' y=> ?_⟩;obtain⟨k2,rh2,r2⟩:=y1 x H'' y;obtain⟨σd2,bd,q2⟩:=go ds[i] (G2 hi);refine hb σ σd σd2 H'' ds[i] x _ (((rs.mono (kk.trans k2))).clear js) r2 bd λσ2 ag rs2=>⟨ag,?_⟩
   refine LT.bind rs2 rh2 q2 λb h3 H3 k3 rs3 rh3 q3=> ?_
   cases b with
   |true=>
    rw [R8 rfl] at q3 ⊢;refine LE.bind rs3 rh3 q3 λd4 v4 h4 H4 k4 rs4 rh4 r4 ⟨h5,sb,w5⟩=>⟨n-(i+1),by omega,rfl,kp.trans (k2.trans (k3.trans k4)),yd++ [d4],h5,(ry.mono (k2.trans (k3.trans k4))).append (.cons r4 .nil),rh4.sub sb,w5⟩
   |false=>
    rw [R9 D6] at q3 ⊢;obtain⟨h5,sb,w5⟩:=q3;exact⟨n-(i+1),by omega,rfl,kp.trans (k2.trans k3),yd,h5,ry.mono (k2.trans k3),rh3.sub sb,w5⟩
  ·refine .inl ⟨jo'.2 (aA.mp hi),λa ha=>p (.lst a) (.ref a) _ _ (kk.trans (.new ha)) (rh'.newL ha ry) ⟨rfl,ys,jt⟩ (stop (aA.mp hi) a (rh'.free ha))⟩
theorem zN {C:P3}{s₀:G3}{H₀:Hp}{ex:G0 P3}{p:Pos}(hN:X.N.Nodup)(hx:X.N[i]? =some x)(hl:scope.names.lookup x=some .local\/scope.names.lookup x=some .cell):
 PG (wc X scope C s₀ H₀ ex) (.Name x p) (wa i):=by
 rcases hl with z|z
 ·exact wR hN hx (.inl (n5 z)) (.inr (n5 z))
 ·exact wR hN hx (.inr (yO z)) (.inl (by show (scope.names.lookup x==some U1)=true;rw [z];rfl))
section
variable {X:Cx}{tg e iter elt:M9}{te:TED}{ti:TID}{g:TGD}{tb:TSD}{tt:TTD}{pos:Pos}{ta:TAD}{scope:W9}{js:G0 G6}{ifs:G0 M9}
theorem Cd (he:QE X e te):QI X tg e (iL te):=(Bs he).imp Cb
theorem Sn {p:Pos}{a:M9}(hg:Gl X "range")(hm:X.mg "range" =none)(ha:QA X [a] ta)(hs:S1 [a] X.env= [(false,J7 a X.env)]:=by rfl):QI X tg (.Call (.Name "range" p) [a] [] pos) (iR1 ta):=(Gh hg hm ha hs).imp Sm
theorem HV {body:G0 Q2}(hp:oQ (R7 X.prog X.w) X.A X.env X.xe)(hc:X.calm=true)(hi:QI X tg iter ti)(hg:QG X tg g)(hb:QSs X body tb)(hs: ∀x,M5 iter X.env x=pure x:=by intro _;rfl):
 QS X (.For tg iter body [] pos) (OD ti g tb):=(LJ hp hc hi hg hb hs).imp OE
theorem Ce:PTs X [] (LT X.K vp):=λpins s σ H Q I h=>BJ pins s σ H Q I (OF σ H Q h)
theorem Cf {c:M9}(hc:QT X c tt):PTs X [c] (LT X.K tt):=BK hc
theorem qlc {i:G6}{x:Str}{p:Pos}(hc:X.calm=true)(S:BlockOk X scope js)(hi:QI X (.Name x p) iter ti)(hj:i∈js)(hN:X.N.Nodup)(hx:X.N[i]? =some x)(hl:scope.names.lookup x=some .local\/scope.names.lookup x=some .cell)
 (ht: ∀X',jg X scope X'->PTs X' ifs (LT X'.K tt))(he: ∀X',jg X scope X'->QE X' elt te)(hs: ∀x,M5 iter X.env x=pure x:=by intro _;rfl):
 QE X (.ListComp elt [⟨.Name x p,iter,ifs,0⟩] scope pos) (vU (bN i) js ti tt te):=
 (Og hc S hi (λX' hX=>by obtain⟨C,s₀,H₀,ex,rfl⟩:=hX;exact zN hN hx hl) (λX' hX=>by have:=ht X' hX;obtain⟨C,s₀,H₀,ex,rfl⟩:=hX;exact this)
  (λX' hX=>by have:=he X' hX;obtain⟨C,s₀,H₀,ex,rfl⟩:=hX;exact this) hs).imp (RS (Cc hj))
theorem HW {i j:G6}{x y:Str}{p1 p2 p3:Pos}{k:G6}(hc:X.calm=true)(S:BlockOk X scope js)(hi:QI X (.Tuple [.Name x p1,.Name y p2] k p3) iter ti)(hj:i∈js)(hj2:j∈js)(hij:i≠j)(hN:X.N.Nodup)(hx:X.N[i]? =some x)(hy:X.N[j]? =some y)
 (hl:scope.names.lookup x=some .local\/scope.names.lookup x=some .cell)(hl2:scope.names.lookup y=some .local\/scope.names.lookup y=some .cell)
 (ht: ∀X',jg X scope X'->PTs X' ifs (LT X'.K tt))(he: ∀X',jg X scope X'->QE X' elt te)(hs: ∀x,M5 iter X.env x=pure x:=by intro _;rfl):
 QE X (.ListComp elt [⟨.Tuple [.Name x p1,.Name y p2] k p3,iter,ifs,0⟩] scope pos) (vU (b2 i j) js ti tt te):=
 (Og hc S hi (λX' hX=>by
  obtain⟨C,s₀,H₀,ex,rfl⟩:=hX;exact Gg hc (yl (zN hN hx hl) (yl (zN hN hy hl2) VZ))) (λX' hX=>by have:=ht X' hX;obtain⟨C,s₀,H₀,ex,rfl⟩:=hX;exact this)
  (λX' hX=>by have:=he X' hX;obtain⟨C,s₀,H₀,ex,rfl⟩:=hX;exact this) hs).imp (RS (OG hj hj2 hij))
end
def LSp (K:G7)(spd:RDn):Sp:=λvs H Q _=>LC K spd vs H Q
theorem Cg {spd:RDn}{t:TAD}{E:XK}: ∀σ H Q,LE K (dCB spd t) σ H Q->LW (LSp K spd) [] E (LA K t) σ H Q:=λσ H Q ⟨σd,h,Qd,rs,rh,t,p⟩=>
 LA.bind rs rh t λds vs h1 H1 k1 rs1 rh1 r1 q=>by rw [E7];exact⟨ds,h1,Qd,r1,rh1,q,jI p k1⟩
section
variable {X:Cx}{k:G6}{f:P3}{fd:C8}{ps:G0 Str}{spd:RDn}{x:Str}{p pos:Pos}{e:M9}{es:G0 M9}{t:TAD}
theorem So (F:FnOk X.prog X.w X.K X.mg X.base CX0 k f fd ps (LSp X.K spd))(hr:Room k X.A)(hg:Gl X x)(hm:X.mg x=some (.ref f))(hk:bP X.K (.ref f)=true)(hb:Binds X.K fd ps [])
 (ha:QA X (e::es) t)(hdb:(x==("__debug__" :Str))=false:=by decide)(he:S1 (e::es) X.env=(false,J7 e X.env)::S1 es X.env:=by rfl)(hpl:(U6 pos (S1 es X.env)).any (·.1)=false:=by rfl):
 QE X (.Call (.Name x p) (e::es) [] pos) (dCB spd t):=(BA F hr hg hm hk hb .nil ET ha hdb he hpl).imp Cg
theorem OH {id:V1}{r:RDn}(hc:yt X (.builtin id) r)(hg:Gl X x)(hm:X.mg x=none)(hv:U3 x=some (.builtin id))(ha:QA X (e::es) t)(hn:x≠ "__name__" :=by decide)(hdb:(x==("__debug__" :Str))=false:=by decide)
 (he:S1 (e::es) X.env=(false,J7 e X.env)::S1 es X.env:=by rfl)(hpl:(U6 pos (S1 es X.env)).any (·.1)=false:=by rfl):QE X (.Call (.Name x p) (e::es) [] pos) (dCB r t):=(Wx hc hg hm hv ha hn hdb he hpl).imp Oo
theorem Ch {T:V1}{r:RDn}(hc:yt X (.type T) r)(hg:Gl X x)(hm:X.mg x=none)(hv:U3 x=some (.type T))(ha:QA X (e::es) t)(hn:x≠ "__name__" :=by decide)(hdb:(x==("__debug__" :Str))=false:=by decide)
 (he:S1 (e::es) X.env=(false,J7 e X.env)::S1 es X.env:=by rfl)(hpl:(U6 pos (S1 es X.env)).any (·.1)=false:=by rfl):QE X (.Call (.Name x p) (e::es) [] pos) (dCB r t):=(YL hc hg hm hv ha hn hdb he hpl).imp Oo
end
def wK (N:G0 Str)(ds:G0 D):SD:=ds.map some++B1 (N.length-ds.length) none
theorem Qh {N:G0 Str}{vs:G0 V}(r:RelDs K H ds vs):RelS K H (wK N ds) (start N vs):=by
 have hl:=r.length;refine⟨by unfold wK start;simp [hl],λi d e=> ?_⟩;unfold wK at e;unfold start
 by_cases hi:i<ds.length
 ·rw [C3 (by simpa using hi),D3] at e;cases q:ds[i]? with
  |none=>rw [q] at e;cases e
  |some d'=>
   rw [q] at e;cases e;obtain⟨v,e1,e2⟩:=r.get q;exact⟨v,by rw [C3 (by simpa [<-hl] using hi),D3,e1];rfl,e2⟩
 ·rw [N8 (by simpa using hi),lR] at e;split at e<;>cases e
def RT (Q:KD):EndsD:= {nx:=λ_ h=> ∃h',Sub h' h/\Q .non h',rt:=λd h=> ∃h',Sub h' h/\Q d h'}
section
variable {P:T3}{w:B9}{K:G7}{mg:Str->D2 G1}{base:O6}
theorem Fun.okD {x qual:Str}{st:Q2}{f:P3}{fd:C8}{N ps:G0 Str}{k:G6}{spd:RDn}(F:Fun K x qual st f fd)(S:FnScope N ps (je st))(len: ∀ds h Q,spd ds h Q->ds.length=ps.length)
 (tb:TSD)(hbody: ∀ (cdv:G1) (A:N6) (outer:G0 Env) (s:G3) (H:Hp) (E:XK),Room k (A.deeper (iZ qual (je st) s.heap.objs.size f cdv))->QSs (RG CX0 P w K mg base N qual (je st) f cdv A outer s H E).nox (zH st) tb)
 (read: ∀ds h Q,spd ds h Q->tb (RT Q) (wK N ds) h):FnOk P w K mg base CX0 (k+1) f fd ps (LSp K spd):=by
 refine F.ok S (λvs H Q E h=> ?_) (λcdv A outer s H vs Q E hr h=> ?_)
 ·obtain⟨ds,h,Qd,r,rh,q,p⟩:=h;rw [<-r.length];exact len _ _ _ q
 ·obtain⟨ds,h,Qd,r,rh,q,p⟩:=h;refine⟨_,hbody cdv A outer s H E hr,wK N ds,h,RT Qd,Qh r,rh,read ds h Qd q,λσd' h' σ' H' k rs' rh' ⟨h2,sb,q'⟩=>p .non .non h2 H' k (rh'.sub sb) rfl q',λd v h' H' k rh' r' ⟨h2,sb,q'⟩=>p d v h2 H' k (rh'.sub sb) r' q',λ_ _ _ _ _ _ _ z=>z.elim,λ_ _ _ _ _ _ _ z=>z.elim⟩
end
section
variable {X:Cx}{iter elt:M9}{te:TED}{ti:TID}{tt:TTD}{pos spos:Pos}{scope:W9}{js:G0 G6}{ifs:G0 M9}
theorem OI {i k:G6}{x y:Str}{p py:Pos}(hc:X.calm=true)(hN:X.N.Nodup)(hk:X.N[k]? =some y)(hy:Loc X.env.scope y)(S:BlockOk X scope js)(hi:QI X (.Name x p) iter ti)(hj:i∈js)(hx:X.N[i]? =some x)(hl:scope.names.lookup x=some .local\/scope.names.lookup x=some .cell)
 (ht: ∀X',jg X scope X'->PTs X' ifs (LT X'.K tt))(he: ∀X',jg X scope X'->QE X' elt te)
 (hsw:W5 (.ListComp elt [⟨.Name x p,iter,ifs,0⟩] scope pos) (some (.Name y py)) spos.line X.env=pure true:=by rfl)
 (hf:X.fn y=true\/X.env.scope.names.lookup y=some .local:=by first|exact .inl rfl|exact .inr rfl|assumption)(hs: ∀x,M5 iter X.env x=pure x:=by intro _;rfl):
 QS X (.Assign [.Name y py] (.ListComp elt [⟨.Name x p,iter,ifs,0⟩] scope pos) spos) (GD k (vU (bN i) js ti tt te)):=by
 have base:PS X (.Assign [.Name y py] (.ListComp elt [⟨.Name x p,iter,ifs,0⟩] scope pos) spos) (RA (tLC js (LI X.K ti) (wa i) (LT X.K tt) (LE X.K te)) (wa k)):=
  UZ hc S hi (λX' hX=>by obtain⟨C,s₀,H₀,ex,rfl⟩:=hX;exact zN hN hx hl) (λX' hX=>by have:=ht X' hX;obtain⟨C,s₀,H₀,ex,rfl⟩:=hX;exact this)
   (λX' hX=>by have:=he X' hX;obtain⟨C,s₀,H₀,ex,rfl⟩:=hX;exact this) (wR hN hk hy hf) hsw hs
 exact base.imp λD σ H h=>by
  obtain⟨σd,hd,Qd,rs,rh,t,p⟩:=Xa (K:=X.K) D σ H h;exact RS (Cc hj) σ H _ ⟨σd,hd,Qd,rs,rh,t,p⟩
theorem Ci {i j k:G6}{x1 x2 y:Str}{p1 p2 p3 py:Pos}{kk:G6}(hc:X.calm=true)(hN:X.N.Nodup)(hk:X.N[k]? =some y)(hy:Loc X.env.scope y)(S:BlockOk X scope js)(hi:QI X (.Tuple [.Name x1 p1,.Name x2 p2] kk p3) iter ti)(hj:i∈js)(hj2:j∈js)(hij:i≠j)(hx:X.N[i]? =some x1)(hx2:X.N[j]? =some x2)
 (hl:scope.names.lookup x1=some .local\/scope.names.lookup x1=some .cell)(hl2:scope.names.lookup x2=some .local\/scope.names.lookup x2=some .cell)
 (ht: ∀X',jg X scope X'->PTs X' ifs (LT X'.K tt))(he: ∀X',jg X scope X'->QE X' elt te)
 (hsw:W5 (.ListComp elt [⟨.Tuple [.Name x1 p1,.Name x2 p2] kk p3,iter,ifs,0⟩] scope pos) (some (.Name y py)) spos.line X.env=pure true:=by rfl)
 (hf:X.fn y=true\/X.env.scope.names.lookup y=some .local:=by first|exact .inl rfl|exact .inr rfl|assumption)(hs: ∀x,M5 iter X.env x=pure x:=by intro _;rfl):
 QS X (.Assign [.Name y py] (.ListComp elt [⟨.Tuple [.Name x1 p1,.Name x2 p2] kk p3,iter,ifs,0⟩] scope pos) spos) (GD k (vU (b2 i j) js ti tt te)):=by
 have base:PS X (.Assign [.Name y py] (.ListComp elt [⟨.Tuple [.Name x1 p1,.Name x2 p2] kk p3,iter,ifs,0⟩] scope pos) spos) (RA (tLC js (LI X.K ti) (Em X.K 2 (VY (wa i) (VY (wa j) El))) (LT X.K tt) (LE X.K te)) (wa k)):=
  UZ hc S hi (λX' hX=>by obtain⟨C,s₀,H₀,ex,rfl⟩:=hX;exact Gg hc (yl (zN hN hx hl) (yl (zN hN hx2 hl2) VZ))) (λX' hX=>by have:=ht X' hX;obtain⟨C,s₀,H₀,ex,rfl⟩:=hX;exact this)
   (λX' hX=>by have:=he X' hX;obtain⟨C,s₀,H₀,ex,rfl⟩:=hX;exact this) (wR hN hk hy hf) hsw hs
 exact base.imp λD σ H h=>by
  obtain⟨σd,hd,Qd,rs,rh,t,p⟩:=Xa (K:=X.K) D σ H h;exact RS (OG hj hj2 hij) σ H _ ⟨σd,hd,Qd,rs,rh,t,p⟩
end
def dIn (i':G6)(ti:TID)(tt:TTD)(te:TED)(V:G0 D->HD->Prop)(ys:G0 D):SD->HD->Prop:=λσ h=>ti σ h λj h1=> ∃ (n:G6) (W:G6->G0 D->HD->Prop),W 0 ys h1/\ ∀i ys h',W i ys h'->ys.length<=sizeLine/\
 ∃ds,j h'=some ds/\ds.length<=n/\(ds.length<=i->V ys h')/\
  ∀d,ds[i]? =some d->tt (σ.set i' (some d)) h' λb h3=>if b=true then te (σ.set i' (some d)) h3 λy h4=> ∃h5,Sub h5 h4/\W (i+1) (ys++ [y]) h5 else ∃h5,Sub h5 h3/\W (i+1) ys h5
def FV (bind:D->SD->SD->Prop)(js:G0 G6)(ti:TID)(tt:TTD)(i':G6)(ti':TID)(tt':TTD)(te:TED):TED:=λσ h Q=>ti σ h λj h1=> ∃ (n:G6) (W:G6->G0 D->HD->Prop),W 0 [] h1/\ ∀i ys h',W i ys h'->ys.length<=sizeLine/\
 ∃ds,j h'=some ds/\ds.length<=n/\(ds.length<=i-> ∀p,h' p=none->Q (.lst p) (zB h' p ys))/\
  ∀d,ds[i]? =some d-> ∃σ2,bind d (jW js σ) σ2/\tt σ2 h' λb h3=>if b=true then dIn i' ti' tt' te (λys' h6=> ∃h5,Sub h5 h6/\W (i+1) ys' h5) ys σ2 h3 else ∃h5,Sub h5 h3/\W (i+1) ys h5
def GF (K:G7)(js:G0 G6)(i':G6)(bind:D->SD->SD->Prop)(g:TG):Prop:= ∀ (σ:St) (σd σd2:SD) (H:Hp) (d:D) (v:V) (Q:St->Hp->Prop),RelS K H (jW js σd) (zk js σ)->RelD K H d v->bind d (jW js σd) σd2->
 (∀σ2,Agree (zk js σ) σ2->(∀u,¬σ2[i']? =some (some u))->RelS K H σd2 σ2->Q σ2 H)->g v (zk js σ) H Q
theorem OJ {i':G6}(hi:i∈js)(hi':i'∈js)(hne:i≠i'):GF K js i' (bN i) (wa i):=λσ σd σd2 H d v Q rs r b q=>by
 cases (show σd2=_ from b);refine q _ (.set v λu=>jR js σ i u hi) (λu z=> ?_) (rs.set r i);rw [K7 hne] at z;exact jR js σ i' u hi' z
theorem OK {bind:D->SD->SD->Prop}{i':G6}{ti':TID}{tt tt':TTD}{te:TED}(hb:GF K js i' bind g): ∀σ H Q,LE K (FV bind js ti tt i' ti' tt' te) σ H Q->EV js (LI K ti) g (LT K tt) (LI K ti') (wa i') (LT K tt') (LE K te) σ H Q:=
 λσ H Q ⟨σd,h,Qd,rs,rh,q,p⟩=>by
  refine⟨σd,h,_,rs,rh,q,λj J h1 H1 k1 rh1 jo ⟨n,W,w0,turn⟩=> ?_⟩;refine⟨λi m ys H'=>m=n-i/\Kept H1 H'/\ ∃ds h',RelDs K H' ds ys/\RelH K h' H'/\W i ds h',⟨n-0,rfl,.refl _,[],h1,rfl,rh1,w0⟩,?_⟩;rintro i m ys H' ⟨rfl,kp,yd,h',ry,rh',w⟩;obtain⟨hz,ds,ej,hn,stop,go⟩:=turn i yd h' w;refine⟨by rw [<-ry.length];exact hz,?_⟩;have jo':=jo H' h' kp rh' ds ej i;have kk:Kept H H':=k1.trans kp
  by_cases hi:i<ds.length
  ·obtain⟨g1,y1⟩:=jo'.1 ds[i] (G2 hi);refine .inr ⟨g1,λx H'' y=> ?_⟩;obtain⟨k2,rh2,r2⟩:=y1 x H'' y;obtain⟨σd2,bd,q2⟩:=go ds[i] (G2 hi);refine hb σ σd σd2 H'' ds[i] x _ (((rs.mono (kk.trans k2))).clear js) r2 bd λσ2 ag un rs2=>⟨ag,?_⟩
   refine LT.bind rs2 rh2 q2 λb h3 H3 k3 rs3 rh3 q3=> ?_
   cases b with
   |true=>
    rw [R8 rfl] at q3 ⊢
    -- the second clause
    refine⟨σd2,h3,_,rs3,rh3,q3,λj2 J2 h4 H4 k4 rh4 jo2 ⟨n2,W2,w20,turn2⟩=> ?_⟩;refine⟨λi2 m2 ys2 H5=>m2=n2-i2/\Kept H4 H5/\ ∃ds h5,RelDs K H5 ds ys2/\RelH K h5 H5/\W2 i2 ds h5,⟨n2-0,rfl,.refl _,yd,h4,ry.mono (k2.trans (k3.trans k4)),rh4,w20⟩,?_⟩;rintro i2 m2 ys2 H5 ⟨rfl,kp5,yd5,h5,ry5,rh5,w5⟩;obtain⟨hz5,ds5,ej5,hn5,stop5,go5⟩:=turn2 i2 yd5 h5 w5;refine⟨by rw [<-ry5.length];exact hz5,?_⟩;have jo5:=jo2 H5 h5 kp5 rh5 ds5 ej5 i2;have kk5:Kept H1 H5:=kp.trans (k2.trans (k3.trans (k4.trans kp5)))
    by_cases hi5:i2<ds5.length
    ·obtain⟨g5,y5⟩:=jo5.1 ds5[i2] (G2 hi5);refine .inr ⟨g5,λx6 H6 yy6=> ?_⟩;obtain⟨k6,rh6,r6⟩:=y5 x6 H6 yy6;refine⟨.set x6 un,?_⟩;have rs6:=(rs3.mono (k4.trans (kp5.trans k6))).set r6 i';refine LT.bind rs6 rh6 (go5 ds5[i2] (G2 hi5)) λb h7 H7 k7 rs7 rh7 q7=> ?_
     cases b with
     |true=>
      rw [R8 rfl] at q7 ⊢;exact LE.bind rs7 rh7 q7 λd8 v8 h8 H8 k8 rs8 rh8 r8 ⟨h9,sb,w9⟩=>⟨n2-(i2+1),by omega,rfl,kp5.trans (k6.trans (k7.trans k8)),yd5++ [d8],h9,(ry5.mono (k6.trans (k7.trans k8))).append (.cons r8 .nil),rh8.sub sb,w9⟩
     |false=>
      rw [R9 D6] at q7 ⊢;obtain⟨h9,sb,w9⟩:=q7;exact⟨n2-(i2+1),by omega,rfl,kp5.trans (k6.trans k7),yd5,h9,ry5.mono (k6.trans k7),rh7.sub sb,w9⟩
    ·obtain⟨h9,sb,w9⟩:=stop5 (aA.mp hi5);exact .inl ⟨jo5.2 (aA.mp hi5),n-(i+1),by omega,rfl,kk5,yd5,h9,ry5,rh5.sub sb,w9⟩
   |false=>
    rw [R9 D6] at q3 ⊢;obtain⟨h5,sb,w5⟩:=q3;exact⟨n-(i+1),by omega,rfl,kp.trans (k2.trans k3),yd,h5,ry.mono (k2.trans k3),rh3.sub sb,w5⟩
  ·refine .inl ⟨jo'.2 (aA.mp hi),λa ha=>p (.lst a) (.ref a) _ _ (kk.trans (.new ha)) (rh'.newL ha ry) ⟨rfl,ys,jt⟩ (stop (aA.mp hi) a (rh'.free ha))⟩
section
variable {X:Cx}{iter iter' elt:M9}{te:TED}{ti ti':TID}{tt tt':TTD}{pos:Pos}{scope:W9}{js:G0 G6}{ifs ifs':G0 M9}
theorem HX {i i':G6}{x y:Str}{p py:Pos}(hc:X.calm=true)(S:BlockOk X scope js)(hi:QI X (.Name x p) iter ti)(hj:i∈js)(hj':i'∈js)(hne:i≠i')(hN:X.N.Nodup)(hx:X.N[i]? =some x)(hy:X.N[i']? =some y)
 (hl:scope.names.lookup x=some .local\/scope.names.lookup x=some .cell)(hl':scope.names.lookup y=some .local\/scope.names.lookup y=some .cell)
 (ht: ∀X',jg X scope X'->PTs X' ifs (LT X'.K tt))(hi': ∀X',jg X scope X'->QI X' (.Name y py) iter' ti')(ht': ∀X',jg X scope X'->PTs X' ifs' (LT X'.K tt'))(he: ∀X',jg X scope X'->QE X' elt te)
 (hs: ∀x,M5 iter X.env x=pure x:=by intro _;rfl)(hs': ∀env x,M5 iter' env x=pure x:=by intro _ _;rfl):
 QE X (.ListComp elt [⟨.Name x p,iter,ifs,0⟩,⟨.Name y py,iter',ifs',0⟩] scope pos) (FV (bN i) js ti tt i' ti' tt' te):=
 (show PE X _ (EV js (LI X.K ti) (wa i) (LT X.K tt) (LI X.K ti') (wa i') (LT X.K tt') (LE X.K te)) from Oh hc S hi (λX' hX=>by obtain⟨C,s₀,H₀,ex,rfl⟩:=hX;exact zN hN hx hl) (λX' hX=>by have:=ht X' hX;obtain⟨C,s₀,H₀,ex,rfl⟩:=hX;exact this) (λX' hX=>by have:=hi' X' hX;obtain⟨C,s₀,H₀,ex,rfl⟩:=hX;exact this)
  (λX' hX=>by obtain⟨C,s₀,H₀,ex,rfl⟩:=hX;exact zN hN hy hl') (λX' hX=>by have:=ht' X' hX;obtain⟨C,s₀,H₀,ex,rfl⟩:=hX;exact this)
  (λX' hX=>by have:=he X' hX;obtain⟨C,s₀,H₀,ex,rfl⟩:=hX;exact this) hs hs').imp (OK (OJ hj hj' hne))
end
def HY:RD2:=λx y h Q=>match x,y with
 | .int i,.int j=>Q (.int (i+j)) h
 | .tup a,.tup b=>a.length+b.length<=sizeLine/\Q (.tup (a++b)) h
 | .lst a,.lst b=> ∃xs ys,h a=some xs/\h b=some ys/\xs.length+ys.length<=sizeLine/\ ∀p,h p=none->Q (.lst p) (zB h p (xs++ys))
 |_,_=>False
def TV:RD2:=λx y h Q=>match x,y with
 | .int i,.int j=>Q (.int (i-j)) h
 |_,_=>False
def TW:RD2:=λx y h Q=>match x,y with
 | .int i,.int j=>CMul i j/\Q (.int (i*j)) h
 | .lst a,.int k=> ∃xs,h a=some xs/\ -(2^63)<=k/\k<2^63/\xs.length*k.toNat<=sizeLine/\ ∀p,h p=none->Q (.lst p) (zB h p (B1 k.toNat xs).flatten)
 |_,_=>False
def HZ:RD2:=λx y h Q=>match x,y with
 | .int i,.int j=>0<j/\Q (.int (i%j)) h
 |_,_=>False
def Sr:RD2:=λx y h Q=>match x,y with
 | .int i,.int j=>Eo i j/\Q (.int (i / j)) h
 |_,_=>False
def TX:RD2:=λx y h Q=>match x,y with
 | .int i,.int j=>TF i j/\Q (.int (i^j.toNat)) h
 |_,_=>False
def Ny (p:P2->P2->N0):RD2:=λx y h Q=>match x,y with
 | .int i,.int j=>Q (.bl (p i j)) h
 |_,_=>False
def eqD:RD2:=λx y h Q=>match x,y with
 | .int i,.int j=>Q (.bl (decide (i=j))) h
 | .bl i,.bl j=>Q (.bl (decide (i=j))) h
 | .str i,.str j=>Q (.bl (decide (i=j))) h
 |_,_=>False
def neD:RD2:=λx y h Q=>match x,y with
 | .int i,.int j=>Q (.bl (!decide (i=j))) h
 | .bl i,.bl j=>Q (.bl (!decide (i=j))) h
 | .str i,.str j=>Q (.bl (!decide (i=j))) h
 |_,_=>False
section
variable {X:Cx}
theorem WB {f:G1->G1->Sem G1}{C:P2->P2->Prop}{g:P2->P2->V}{gd:P2->P2->D}{r:RD2}(ho:OpR X f (rI C g))(hg: ∀i j H,RelD X.K H (gd i j) (g i j))
 (hr: ∀x y h Q,r x y h Q-> ∃i j,x= .int i/\y= .int j/\C i j/\Q (gd i j) h):OpQ X f r:=ho.imp λx y H Q ⟨dx,dy,h,Qd,rx,ry,rh,q,p⟩=>by
 obtain⟨i,j,e1,e2,c,q'⟩:=hr dx dy h Qd q;subst e1 e2;exact⟨i,j,rx,ry,c,p _ _ _ _ (.refl H) rh (hg i j H) q'⟩
theorem vq {f:G1->G1->Sem G1}{g:P2->P2->V}{gd:P2->P2->D}{r:RD2}(ho:OpR X f (rI0 g))(hg: ∀i j H,RelD X.K H (gd i j) (g i j))
 (hr: ∀x y h Q,r x y h Q-> ∃i j,x= .int i/\y= .int j/\Q (gd i j) h):OpQ X f r:=ho.imp λx y H Q ⟨dx,dy,h,Qd,rx,ry,rh,q,p⟩=>by
 obtain⟨i,j,e1,e2,q'⟩:=hr dx dy h Qd q;subst e1 e2;exact⟨i,j,rx,ry,p _ _ _ _ (.refl H) rh (hg i j H) q'⟩
theorem GG:OpQ X (K8 .Sub) TV:=vq (gd:=λi j=> .int (i-j)) LK (λ_ _ _=>rfl) λx y h Q q=>by
 cases x<;>first|exact False.elim q|(cases y<;>first|exact False.elim q|exact⟨_,_,rfl,rfl,q⟩)
theorem vt:OpQ X (K8 .Mod) HZ:=WB (gd:=λi j=> .int (i%j)) LL (λ_ _ _=>rfl) λx y h Q q=>by
 cases x<;>first|exact False.elim q|(cases y<;>first|exact False.elim q|exact⟨_,_,rfl,rfl,q.1,q.2⟩)
theorem Cj:OpQ X (K8 .FloorDiv) Sr:=WB (gd:=λi j=> .int (i / j)) Bv (λ_ _ _=>rfl) λx y h Q q=>by
 cases x<;>first|exact False.elim q|(cases y<;>first|exact False.elim q|exact⟨_,_,rfl,rfl,q.1,q.2⟩)
theorem Nz:OpQ X (K8 .Pow) TX:=WB (gd:=λi j=> .int (i^j.toNat)) LM (λ_ _ _=>rfl) λx y h Q q=>by
 cases x<;>first|exact False.elim q|(cases y<;>first|exact False.elim q|exact⟨_,_,rfl,rfl,q.1,q.2⟩)
theorem WC {p:P2->P2->N0}: ∀x y h Q,Ny p x y h Q-> ∃i j,x= .int i/\y= .int j/\Q (.bl (p i j)) h:=λx y h Q q=>by
 cases x<;>first|exact False.elim q|(cases y<;>first|exact False.elim q|exact⟨_,_,rfl,rfl,q⟩)
theorem OL:OpQ X (L0 .Lt) (Ny λi j=>decide (i<j)):=vq (gd:=λi j=> .bl (decide (i<j))) EI (λ_ _ _=>rfl) WC
theorem RU:OpQ X (L0 .LtE) (Ny λi j=>decide (i<=j)):=vq (gd:=λi j=> .bl (decide (i<=j))) EJ (λ_ _ _=>rfl) WC
theorem Ck:OpQ X (L0 .Gt) (Ny λi j=>decide (j<i)):=vq (gd:=λi j=> .bl (decide (j<i))) EL (λ_ _ _=>rfl) WC
theorem Cl:OpQ X (L0 .GtE) (Ny λi j=>decide (j<=i)):=vq (gd:=λi j=> .bl (decide (j<=i))) EM (λ_ _ _=>rfl) WC
theorem FW {α:Type}[DecidableEq α]{f:α->V}(hf: ∀a b,f a=f b->a=b)(a b:α):decide (f a=f b)=decide (a=b):=by
 by_cases h:a=b
 ·subst h;simp
 ·rw [S8 h,S8 (λe=>h (hf a b e))]
theorem oq_eq:OpQ X (L0 .Eq) eqD:=op_eq.imp λx y H Q ⟨dx,dy,h,Qd,rx,ry,rh,q,p⟩=>by
 cases dx<;>first|exact False.elim q|(cases dy<;>first|exact False.elim q|skip)
 all_goals first
  |(cases (show x= .int _ from rx);cases (show y= .int _ from ry);refine⟨rfl,p _ _ _ _ (.refl H) rh ?_ q⟩;rw [FW (f:=V.int) (λa b e=>by cases e;rfl)];rfl)
  |(cases (show x= .bl _ from rx);cases (show y= .bl _ from ry);refine⟨rfl,p _ _ _ _ (.refl H) rh ?_ q⟩;rw [FW (f:=V.bl) (λa b e=>by cases e;rfl)];rfl)
  |(cases (show x= .str _ from rx);cases (show y= .str _ from ry);refine⟨rfl,p _ _ _ _ (.refl H) rh ?_ q⟩;rw [FW (f:=V.str) (λa b e=>by cases e;rfl)];rfl)
theorem oq_ne:OpQ X (L0 .NotEq) neD:=op_ne.imp λx y H Q ⟨dx,dy,h,Qd,rx,ry,rh,q,p⟩=>by
 cases dx<;>first|exact False.elim q|(cases dy<;>first|exact False.elim q|skip)
 all_goals first
  |(cases (show x= .int _ from rx);cases (show y= .int _ from ry);refine⟨rfl,p _ _ _ _ (.refl H) rh ?_ q⟩;rw [FW (f:=V.int) (λa b e=>by cases e;rfl)];rfl)
  |(cases (show x= .bl _ from rx);cases (show y= .bl _ from ry);refine⟨rfl,p _ _ _ _ (.refl H) rh ?_ q⟩;rw [FW (f:=V.bl) (λa b e=>by cases e;rfl)];rfl)
  |(cases (show x= .str _ from rx);cases (show y= .str _ from ry);refine⟨rfl,p _ _ _ _ (.refl H) rh ?_ q⟩;rw [FW (f:=V.str) (λa b e=>by cases e;rfl)];rfl)
def OM (K:G7):R2:=λx y H Q=> ∃a b xs ys,x= .ref a/\y= .ref b/\SqT K H a xs/\SqT K H b ys/\xs= []/\Q (.ref b) H
theorem op_catT0:OpR X (K8 .Add) (OM X.K):=by
 intro pins s σ H x y v u Q I rx ry h;obtain⟨a,b,xs,ys,rfl,rfl,ha,hb,hx,q⟩:=h;cases rx;cases ry;obtain⟨its,r1,p1,_⟩:=I.tuple ha;obtain⟨its2,r2,p2,_⟩:=I.tuple hb;have hv:its= []:=r1.nil_iff.mpr hx;obtain⟨⟨cls,dd,data,sl⟩,ho,hc,n,hd⟩:=id p1;obtain⟨⟨cls2,dd2,G0f,sl2⟩,ho2,hc2,n2,hd2⟩:=id p2;simp only at hc hd hc2 hd2;subst hc hd hc2 hd2;exact p5 ⟨_,ho,rfl⟩ ⟨_,ho2,rfl⟩ lS o7 gB fQ (eI _ _)
  (tuple_addW0 a b its.toArray its2.toArray n n2 dd dd2 sl sl2 (by simp [hv])) ⟨ho,ho2,.ref b,H,I,rfl,q⟩
theorem zp:OpQ X (K8 .Add) HY:=(op_add.or (op_catT.or (op_catT0.or Oc))).imp λx y H Q ⟨dx,dy,h,Qd,rx,ry,rh,q,p⟩=>by
 cases dx<;>first|exact False.elim q|(cases dy<;>first|exact False.elim q|skip)
 ·exact .inl ⟨_,_,rx,ry,p (.int _) _ _ _ (.refl H) rh rfl q⟩
 ·rename_i ds es;obtain⟨a,vs,e1,h1,r1⟩:=(show ∃a vs,x= .ref a/\H a=some (.tup vs)/\RelDs X.K H ds vs from rx);obtain⟨b,us,e2,h2,r2⟩:=(show ∃a vs,y= .ref a/\H a=some (.tup vs)/\RelDs X.K H es vs from ry);subst e1 e2;obtain⟨hz,q⟩:=q
  by_cases hv:vs= []
  ·subst hv;have e:ds= []:=bR.mp r1.length;subst e;exact .inr (.inr (.inl ⟨a,b,[],us,rfl,rfl,SqT.of h1,SqT.of h2,rfl,p (.tup es) _ _ _ (.refl H) rh ⟨b,us,rfl,h2,r2⟩ q⟩))
  ·refine .inr (.inl ⟨a,b,vs,us,rfl,rfl,SqT.of h1,SqT.of h2,hv,by rw [<-r1.length,<-r2.length];exact hz,λe=> ?_,λ_ c hc=> ?_⟩)
   ·subst e;have e:es= []:=bR.mp r2.length;subst e;rw [E7] at q;exact p (.tup ds) _ _ _ (.refl H) rh ⟨a,vs,rfl,h1,r1⟩ q
   ·exact p (.tup (ds++es)) _ _ _ (.new hc) (rh.new hc) ⟨c,vs++us,rfl,jt,(r1.append r2).mono (.new hc)⟩ q
 ·rename_i a b;obtain⟨xs,ys,h1,h2,hz,q⟩:=q;obtain⟨vs,e1,r1⟩:=rh a xs h1;obtain⟨us,e2,r2⟩:=rh b ys h2;refine .inr (.inr (.inr ⟨a,b,vs,us,rx.1,ry.1,e1,e2,by rw [<-r1.length,<-r2.length];exact hz,λc hc=> ?_⟩));exact p (.lst c) _ _ _ (.new hc) (rh.newL hc (r1.append r2)) ⟨rfl,_,jt⟩ (q c (rh.free hc))
theorem RelDs.flat {K:G7}{H:Hp}{ds:G0 D}{vs:G0 V}(r:RelDs K H ds vs): ∀k:G6,RelDs K H (B1 k ds).flatten (B1 k vs).flatten
 |0=>by simp;exact .nil
 |k+1=>by rw [W7,W7,a8,a8];exact r.append (RelDs.flat r k)
theorem oq_mul:OpQ X (K8 .Mult) TW:=(op_mul.or Od).imp λx y H Q ⟨dx,dy,h,Qd,rx,ry,rh,q,p⟩=>by
 cases dx<;>first|exact False.elim q|(cases dy<;>first|exact False.elim q|skip)
 ·exact .inl ⟨_,_,rx,ry,q.1,p (.int _) _ _ _ (.refl H) rh rfl q.2⟩
 ·obtain⟨xs,h1,b1,b2,hz,q⟩:=q;obtain⟨vs,e1,r1⟩:=rh _ xs h1;refine .inr ⟨_,_,vs,rx.1,ry,e1,b1,b2,by rw [<-r1.length];exact hz,λc hc=> ?_⟩;exact p (.lst c) _ _ _ (.new hc) (rh.newL hc (r1.flat _)) ⟨rfl,_,jt⟩ (q c (rh.free hc))
end
def ixD:RD2:=λx y h Q=>match x,y with
 | .tup ds,.int i=> ∃d,atI ds i=some d/\Q d h
 | .lst a,.int i=> ∃ds d,h a=some ds/\atI ds i=some d/\Q d h
 | .scr ns,.int i=> ∃n,atI ns i=some n/\Q (.int n) h
 |_,_=>False
theorem GH {vs:G0 V}(r:RelDs K H ds vs){i:P2}{d:D}(e:atI ds i=some d): ∃v,atI vs i=some v/\RelD K H d v:=by
 unfold atI at e ⊢;rw [<-r.length];cases q:ixN ds.length i with
 |none=>rw [q] at e;cases e
 |some j=>rw [q] at e;exact r.get e
theorem Cm {β:Type}(f:α->β){xs:G0 α}{i:P2}{x:α}(e:atI xs i=some x):atI (xs.map f) i=some (f x):=by
 unfold atI at e ⊢;rw [G5];cases q:ixN xs.length i with
 |none=>rw [q] at e;cases e
 |some j=>
  rw [q] at e;show (xs.map f)[j]? =_;rw [D3,(show xs[j]? =some x from e)];rfl
section
variable {X:Cx}{a b e:M9}{ta tb te:TED}{pos p2:Pos}
theorem Ss: ∀σ H Q,LE X.K (dOp ixD ta tb) σ H Q->tOp (rIx X.K) (LE X.K ta) (LE X.K tb) σ H Q:=λσ H Q ⟨σd,h,Qd,rs,rh,t,p⟩=>
 LE.bind rs rh t λdx x h1 H1 k1 rs1 rh1 r1 t1=>LE.bind rs1 rh1 t1 λdy y h2 H2 k2 rs2 rh2 ry q=>by
  have rx:=r1.mono k2;have kk:=k1.trans k2;cases dx<;>first|exact False.elim q|(cases dy<;>first|exact False.elim q|skip)
  ·rename_i ds i;obtain⟨d,e,q⟩:=q;obtain⟨a,vs,e1,hH,r⟩:=(show ∃a vs,x= .ref a/\H2 a=some (.tup vs)/\RelDs X.K H2 ds vs from rx);obtain⟨v,e2,rv⟩:=GH r e;exact .inr (.inl ⟨a,vs,i,v,e1,ry,SqT.of hH,e2,p _ _ _ _ kk rh2 rv q⟩)
  ·rename_i a i;obtain⟨ds,d,hd,e,q⟩:=q;obtain⟨vs,hH,r⟩:=rh2 a ds hd;obtain⟨v,e2,rv⟩:=GH r e;exact .inl ⟨a,vs,i,v,rx.1,ry,SqL.of hH,e2,p _ _ _ _ kk rh2 rv q⟩
  ·rename_i ns i;obtain⟨n,e,q⟩:=q;obtain⟨a,e1,hS⟩:=(show ∃a,x= .ref a/\Scr X.K H2 a ns from rx);exact .inl ⟨a,_,i,.int n,e1,ry,hS.sq,Cm V.int e,p (.int n) _ _ _ kk rh2 rfl q⟩
theorem qix (ha:QE X a ta)(hb:QE X b tb)(hs:Wy b):QE X (.Subscript a b pos) (dOp ixD ta tb):=(ER Oa ha hb hs).imp Ss
end
def FX:RDn:=λds h Q=>match ds with
 | [.tup xs]=>Q (.int xs.length) h
 | [.lst a]=> ∃xs,h a=some xs/\Q (.int xs.length) h
 | [.scr ns]=>Q (.int ns.length) h
 |_=>False
def Su:RDn:=λds h Q=>match ds with
 | [.int i]=>Q (.int i) h
 | [.bl k]=>Q (.int (if k then 1 else 0)) h
 |_=>False
def Sv:RDn:=λds h Q=>match ds with
 | [.int i,.int j]=>Q (.int (if j>i then j else i)) h
 |_=>False
def GI:RDn:=λds h Q=>match ds with
 | [.int i,.int j]=>Eo i j/\Q (.tup [.int (i / j),.int (i%j)]) h
 |_=>False
def NA:RDn:=λds h Q=>match ds with
 | [.tup xs]=>Q (.tup xs) h
 | [.lst a]=> ∃xs,h a=some xs/\Q (.tup xs) h
 |_=>False
def Xb:RDn:=λds h Q=>match ds with
 | [.lst a]=> ∃xs,h a=some xs/\Q (.tup xs) (YO h a)
 |_=>False
section
variable {X:Cx}
theorem ON:yt X (.builtin "len") FX:=call_len_seq.imp λxs H Q ⟨ds,h,Qd,r,rh,q,p⟩=>by
 unfold FX at q;split at q
 ·rename_i es;obtain⟨v,e,r1⟩:=jG r;obtain⟨a,vs,e1,hH,r2⟩:=(show ∃a vs,v= .ref a/\H a=some (.tup vs)/\RelDs X.K H es vs from r1);subst e e1;exact⟨a,vs,rfl,.inr (SqT.of hH),by rw [<-r2.length];exact p (.int _) _ _ _ (.refl H) rh rfl q⟩
 ·rename_i a;obtain⟨es,hd,q⟩:=q;obtain⟨v,e,r1⟩:=jG r;obtain⟨vs,hH,r2⟩:=rh a es hd;have e1:v= .ref a:=r1.1;subst e e1;exact⟨a,vs,rfl,.inl (SqL.of hH),by rw [<-r2.length];exact p (.int _) _ _ _ (.refl H) rh rfl q⟩
 ·rename_i ns;obtain⟨v,e,r1⟩:=jG r;obtain⟨a,e1,hS⟩:=(show ∃a,v= .ref a/\Scr X.K H a ns from r1);subst e e1;exact⟨a,_,rfl,.inl hS.sq,by rw [G5];exact p (.int _) _ _ _ (.refl H) rh rfl q⟩
 ·exact q.elim
theorem Xc:yt X (.type "int") Su:=call_int1.imp λxs H Q ⟨ds,h,Qd,r,rh,q,p⟩=>by
 unfold Su at q;split at q
 ·rename_i i;obtain⟨v,e,r1⟩:=jG r;cases (show v= .int i from r1);exact .inl ⟨i,e,p (.int i) _ _ _ (.refl H) rh rfl q⟩
 ·rename_i k;obtain⟨v,e,r1⟩:=jG r;cases (show v= .bl k from r1);exact .inr ⟨k,e,p (.int _) _ _ _ (.refl H) rh rfl q⟩
 ·exact q.elim
theorem OO (hc:X.calm=true):yt X (.builtin "max") Sv:=(Gm hc).imp λxs H Q ⟨ds,h,Qd,r,rh,q,p⟩=>by
 unfold Sv at q;split at q
 ·rename_i i j;obtain⟨v,w,e,r1,r2⟩:=vo r;cases (show v= .int i from r1);cases (show w= .int j from r2);exact⟨i,j,e,p (.int _) _ _ _ (.refl H) rh rfl q⟩
 ·exact q.elim
theorem GJ:yt X (.builtin "divmod") GI:=call_divmod.imp λxs H Q ⟨ds,h,Qd,r,rh,q,p⟩=>by
 unfold GI at q;split at q
 ·rename_i i j;obtain⟨c,q⟩:=q;obtain⟨v,w,e,r1,r2⟩:=vo r;cases (show v= .int i from r1);cases (show w= .int j from r2);exact⟨i,j,e,c,λa ha=>p (.tup [.int (i / j),.int (i%j)]) _ _ _ (.new ha) (rh.new ha) ⟨a,_,rfl,jt,.cons rfl (.cons rfl .nil)⟩ q⟩
 ·exact q.elim
theorem cq_tuple:yt X (.type "tuple") NA:=call_tuple_of.imp λxs H Q ⟨ds,h,Qd,r,rh,q,p⟩=>by
 unfold NA at q;split at q
 ·rename_i es;obtain⟨v,e,r1⟩:=jG r;obtain⟨a,vs,e1,hH,r2⟩:=(show ∃a vs,v= .ref a/\H a=some (.tup vs)/\RelDs X.K H es vs from r1);subst e e1;exact⟨a,vs,rfl,.inr ⟨SqT.of hH,p (.tup es) _ _ _ (.refl H) rh ⟨a,vs,rfl,hH,r2⟩ q⟩⟩
 ·rename_i a;obtain⟨es,hd,q⟩:=q;obtain⟨v,e,r1⟩:=jG r;obtain⟨vs,hH,r2⟩:=rh a es hd;have e1:v= .ref a:=r1.1;subst e e1;exact⟨a,vs,rfl,.inl ⟨SqL.of hH,λc hc=>p (.tup es) _ _ _ (.new hc) (rh.new hc) ⟨c,vs,rfl,jt,r2.mono (.new hc)⟩ q⟩⟩
 ·exact q.elim
theorem jS:yt X (.type "tuple") Xb:=cq_tuple.imp λxs H Q ⟨ds,h,Qd,r,rh,q,p⟩=>by
 unfold Xb at q;split at q
 ·rename_i a;obtain⟨es,hd,q⟩:=q;exact⟨[.lst a],h,λd h'=>Qd d (YO h' a),r,rh,⟨es,hd,q⟩,λd v h' H' k rh' rd q'=>p d v _ H' k (rh'.sub (Sub.drop h' a)) rd q'⟩
 ·exact q.elim
end
def YS:D->D2 V1
 | .non=>some "NoneType" | .bl _=>some "bool" | .int _=>some "int" | .str _=>some "str" | .tup _=>some "tuple" | .lst _=>some "list" | .dic _ _=>some "dict" | .dct _=>none| .scr _=>none| .exc _=>none| .fn _=>none| .exf _ _=>none
def OP (T:V1)(n:V1):N0:=n==T||(T== "int" &&n== "bool")
theorem RV {d:D}{v:V}{n:V1}(r:RelD K H d v)(e:YS d=some n):TyOf K H v (.type n):=by
 cases d with
 |non=>cases (show v= .non from r);cases e;exact .non
 |bl b=>cases (show v= .bl b from r);cases e;exact .bl b
 |int i=>cases (show v= .int i from r);cases e;exact .int i
 |str x=>cases (show v= .str x from r);cases e;exact .str x
 |tup ds=>
  obtain⟨a,vs,e1,hH,_⟩:=(show ∃a vs,v= .ref a/\H a=some (.tup vs)/\RelDs K H ds vs from r);subst e1;cases e;exact .tup hH
 |lst a=>
  obtain⟨e1,vs,hH⟩:=(show v= .ref a/\ ∃vs,H a=some (.lst vs) from r);subst e1;cases e;exact .lst hH
 |dic x i=>
  obtain⟨a,e1,hH⟩:=(show ∃a,v= .ref a/\H a=some (.dK [(fA x,V.int i)]) from r);subst e1;cases e;exact .dK hH
 |dct a=>cases e
 |scr ns=>cases e
 |exc C=>cases e
 |fn a=>cases e
 |exf C fs=>cases e
def Cn:G0 V1:= ["NoneType","bool","int","str","tuple","list","dict"]
theorem Qi {d:D}{n:V1}(e:YS d=some n):n∈Cn:=by
 cases d<;>cases e<;>decide
def Sw (K:G7):Prop:= ∀n∈Cn,∀T∈ ["tuple","int","bool","list","str"],nX K (.type n) (.type T)=some (OP T n)
theorem Co (K:G7):Sw K:=by
 intro n hn T hT;simp only [Cn,R5,C9,or_false] at hn hT;rcases hn with rfl|rfl|rfl|rfl|rfl|rfl|rfl<;>rcases hT with rfl|rfl|rfl|rfl|rfl<;>with_unfolding_all rfl
theorem GK (T:V1):CallR X (.builtin "isinstance") (λxs H Q=> ∃x t b,xs= [x,.ty T]/\TyOf X.K H x t/\nX X.K t (.type T)=some b/\Q (.bl b) H):=by
 intro pins s σ H xs us Q I r h;obtain⟨x,t,b,rfl,ty,e,q⟩:=h;obtain⟨u,w',rfl,rx,rt⟩:=RF r;cases (show w'=pF T from rt);exact Go I rx ty e λtk=>⟨.bl b,H,I.tok tk,rfl,q⟩
def dIs (T:V1)(ta:TED):TED:=λσ h Q=>ta σ h λx h1=> ∃n,YS x=some n/\Q (.bl (OP T n)) h1
theorem Sx {a:M9}{ta:TED}{T:V1}{t:Str}{p p2:Pos}(hT:T∈ ["tuple","int","bool","list","str"])(hg:Gl X "isinstance")(hm:X.mg "isinstance" =none)(hg2:Gl X t)(hm2:X.mg t=none)(hv:U3 t=some (.type T))(ha:QE X a ta)
 (hn:t≠ "__name__" :=by decide)(hd:(t==("__debug__" :Str))=false:=by decide)
 (h1:S1 [a,.Name t p2] X.env=(false,J7 a X.env)::S1 [.Name t p2] X.env:=by rfl)(h2:(U6 pos (S1 [.Name t p2] X.env)).any (·.1)=false:=by rfl):
 QE X (.Call (.Name "isinstance" p) [a,.Name t p2] [] pos) (dIs T ta):=
 (Wx (GK T) hg hm sC (wS ha (wS (Bo (v:= .ty T) hg2 hm2 hv rfl hn hd) pa_nil (by rfl)) h1) (by decide) (by decide) h1 h2).imp
  λσ H Q ⟨σd,h,Qd,rs,rh,t,p⟩=>LE.bind rs rh t λd v h1 H1 k1 rs1 rh1 r1 ⟨n,e,q⟩=>⟨v,.type n,OP T n,rfl,RV r1 e,Co _ n (Qi e) T hT,p (.bl _) _ _ _ k1 rh1 rfl q⟩
theorem GL (bs:G0 N0):(D4 bs.length).all (λi=>bs.getD i false)=bs.all id:=by
 induction bs with
 |nil=>rfl
 |cons b bs ih=>
  rw [D9,gF,uL,bZ,uL];show (b&&_)=(b&&bs.all id);rw [<-ih];rfl
theorem GM (bs:G0 N0):(D4 bs.length).any (λi=>bs.getD i false)=bs.any id:=by
 induction bs with
 |nil=>rfl
 |cons b bs ih=>
  rw [D9,gF,uM,qA,uM];show (b||_)=(b||bs.any id);rw [<-ih];rfl
theorem YT {bs:G0 N0}{its:G0 G1}(r:Vals (bs.map V.bl) its){i:G6}{v:G1}(e:its[i]? =some v):v= .bool (bs.getD i false):=by
 have hl:=r.length;rw [G5] at hl;have hi:i<its.length:=(P9.mp e).1;have hb:(bs.map V.bl)[i]? =some (.bl bs[i]):=by rw [D3,G2 (by omega)];rfl
 obtain⟨u,e1,r1⟩:=r.get hb;rw [e] at e1;cases e1;rw [P7,G2 (by omega)];exact r1
section
variable {X:Cx}
theorem WD (hc:X.calm=true):CallR X (.builtin "all") (λxs H Q=> ∃ (a:P3) (bs:G0 N0),xs= [.ref a]/\SqL X.K H a (bs.map V.bl)/\Q (.bl (bs.all id)) H):=by
 intro pins s σ H xs us Q I r h;obtain⟨a,bs,rfl,hS,q⟩:=h;obtain⟨u,rfl,ru⟩:=JY r;cases ru;obtain⟨its,rv,pl,hz⟩:=I.list hS;have hl:=pl.isList;have hlt:a<s.heap.objs.size:=by obtain⟨_,e,_⟩:=hl;exact R0 e
 refine call_all_walk (Z0 hl ?_);refine⟨s.heap.objs.size,_,_,_,_,_,λi=>bs.getD i false,rfl,mO (A:=X.A.in1) (show X.A.in1.handled=none from I.ok.hd hc) s.heap.objs.size a (M1 hlt) its.toArray,⟨⟨_,S5 _ rfl,rfl,rfl⟩,hl.push _⟩,?_,λh' tk hk=> ?_⟩
 ·intro i v s' Q' E' hP hQ;have e:its[i]? =some v:=by simpa using hP
  rw [YT rv e];exact K4 hQ
 ·have hn:its.toArray.size=bs.length:=by rw [R4,<-rv.length,G5]
  rw [hn,GL];exact⟨.bl _,H,I.kept (t':=tk) (λb o e=>hk b o (λz=>by rw [G8.mp z] at e;exact absurd (R0 e) (B7 _)) (G9 _ e)),rfl,q⟩
theorem WE (hc:X.calm=true):CallR X (.builtin "any") (λxs H Q=> ∃ (a:P3) (bs:G0 N0),xs= [.ref a]/\SqL X.K H a (bs.map V.bl)/\Q (.bl (bs.any id)) H):=by
 intro pins s σ H xs us Q I r h;obtain⟨a,bs,rfl,hS,q⟩:=h;obtain⟨u,rfl,ru⟩:=JY r;cases ru;obtain⟨its,rv,pl,hz⟩:=I.list hS;have hl:=pl.isList;have hlt:a<s.heap.objs.size:=by obtain⟨_,e,_⟩:=hl;exact R0 e
 refine call_any_walk (Z0 hl ?_);refine⟨s.heap.objs.size,_,_,_,_,_,λi=>bs.getD i false,rfl,mO (A:=X.A.in1) (show X.A.in1.handled=none from I.ok.hd hc) s.heap.objs.size a (M1 hlt) its.toArray,⟨⟨_,S5 _ rfl,rfl,rfl⟩,hl.push _⟩,?_,λh' tk hk=> ?_⟩
 ·intro i v s' Q' E' hP hQ;have e:its[i]? =some v:=by simpa using hP
  rw [YT rv e];exact K4 hQ
 ·have hn:its.toArray.size=bs.length:=by rw [R4,<-rv.length,G5]
  rw [hn,GM];exact⟨.bl _,H,I.kept (t':=tk) (λb o e=>hk b o (λz=>by rw [G8.mp z] at e;exact absurd (R0 e) (B7 _)) (G9 _ e)),rfl,q⟩
theorem yQ {K:G7}{H:Hp}: ∀ {bs:G0 N0} {vs:G0 V},RelDs K H (bs.map D.bl) vs->vs=bs.map V.bl
 | [],_,h=>h
 |b::bs,vs,h=>by
  obtain⟨v,r,e,h1,h2⟩:=(show ∃v r,vs=v::r/\RelD K H (.bl b) v/\RelDs K H (bs.map D.bl) r from h);rw [e,yQ h2,(show v= .bl b from h1)];rfl
def RW:RDn:=λds h Q=> ∃ (a:P3) (bs:G0 N0),ds= [.lst a]/\h a=some (bs.map D.bl)/\Q (.bl (bs.all id)) (YO h a)
def Sy:RDn:=λds h Q=> ∃ (a:P3) (bs:G0 N0),ds= [.lst a]/\h a=some (bs.map D.bl)/\Q (.bl (bs.any id)) (YO h a)
theorem YU (hc:X.calm=true):yt X (.builtin "all") RW:=(WD hc).imp λxs H Q ⟨ds,h,Qd,r,rh,⟨a,bs,e,hd,q⟩,p⟩=>by
 subst e;obtain⟨v,e,r1⟩:=jG r;obtain⟨vs,hH,r2⟩:=rh a _ hd;have e1:v= .ref a:=r1.1;rw [yQ r2] at hH;subst e e1;exact⟨a,bs,rfl,SqL.of hH,p (.bl _) _ _ _ (.refl H) (rh.sub (Sub.drop h a)) rfl q⟩
theorem OQ (hc:X.calm=true):yt X (.builtin "any") Sy:=(WE hc).imp λxs H Q ⟨ds,h,Qd,r,rh,⟨a,bs,e,hd,q⟩,p⟩=>by
 subst e;obtain⟨v,e,r1⟩:=jG r;obtain⟨vs,hH,r2⟩:=rh a _ hd;have e1:v= .ref a:=r1.1;rw [yQ r2] at hH;subst e e1;exact⟨a,bs,rfl,SqL.of hH,p (.bl _) _ _ _ (.refl H) (rh.sub (Sub.drop h a)) rfl q⟩
end
def TY (to:TED)(te:TED):TED:=λσ h Q=>to σ h λx h1=> ∃a,x= .lst a/\te σ h1 λy h2=> ∃xs,h2 a=some xs/\xs.length<sizeLine/\Q .non (zB h2 a (xs++ [y]))
section
variable {X:Cx}{o e i:M9}{to te ti:TED}{apos cpos pos:Pos}
theorem Ka (ho:QE X o to)(he:QE X e te)(hbase:cH o "append" X.env (J7 o X.env)=J7 o X.env:=by rfl)
 (hfew:((U6 cpos (S1 [e] X.env)).all (λx=> !x.1)&&(lU cpos (fU [] X.env)).all (λx=>x.1.isSome)&&decide ([e].length+([]:G0 dE).length+(if ([]:G0 dE).isEmpty then 0 else 1)<30))=true:=by rfl)
 (hline:(apos.endLine==cpos.line)=true:=by rfl)(hs:S1 [e] X.env=(false,J7 e X.env)::S1 [] X.env:=by rfl)(hplain:(U6 cpos (S1 [] X.env)).any (·.1)=false:=by rfl):
 QE X (.Call (.Attribute o "append" apos) [e] [] cpos) (TY to te):=
 (BF fX uN uO Gt ho (wS he pa_nil hs) hbase hfew hline hs hplain).imp
  λσ H Q ⟨σd,h,Qd,rs,rh,t,p⟩=>LE.bind rs rh t λd v h1 H1 k1 rs1 rh1 r1 ⟨a,e,q⟩=>by
   subst e;obtain⟨e1,vs,hH⟩:=(show v= .ref a/\ ∃vs,H1 a=some (.lst vs) from r1);subst e1;refine⟨.inl ⟨rfl,vs,SqL.of hH⟩,?_⟩;refine LE.bind rs1 rh1 q λy u h2 H2 k2 rs2 rh2 r2 ⟨xs,hx,hz,q2⟩=> ?_
   obtain⟨ws,hW,r3⟩:=rh2 a xs hx;refine⟨a,ws,u,rfl,rfl,hW,by rw [<-r3.length];exact hz,p .non _ _ _ (k1.trans (k2.trans (.put hW))) (rh2.put hW (r3.append (.cons r2 .nil))) rfl q2⟩
def OR (to ti:TED):TGD:=λd σ h Q=>to σ h λo h1=>ti σ h1 λi h2=> ∃a k xs j,o= .lst a/\i= .int k/\h2 a=some xs/\ixN xs.length k=some j/\Q σ (zB h2 a (xs.set j d))
theorem OS (ho:QE X o to)(hi:QE X i ti)
 (ha: ∀v,dP (.Subscript o i pos) X.env v=(do
  let ov <-Y0 [v] (J7 o X.env)
  let iv <-Y0 [v,ov] (J7 i X.env)
  fB pos
  Y0 [v,ov,iv] (sR ov iv v)
  KB [v,ov,iv] []):=by intro _;rfl):QG X (.Subscript o i pos) (OR to ti):=
 (Lv ho hi RJ ha).imp λv σ H Q ⟨d,σd,h,Qd,r,rs,rh,q,p⟩=>
  LE.bind rs rh q λd1 v1 h1 H1 k1 rs1 rh1 r1 q1=>LE.bind rs1 rh1 q1 λd2 v2 h2 H2 k2 rs2 rh2 r2 ⟨a,k,xs,j,e1,e2,hx,hj,q2⟩=>by
   subst e1 e2;have e3:v1= .ref a:=(r1.mono k2).1;obtain⟨ws,hW,r3⟩:=rh2 a xs hx;refine⟨a,ws,k,j,e3,r2,hW,by rw [<-r3.length];exact hj,p _ _ _ _ (k1.trans (k2.trans (.put hW))) (rs2.mono (.put hW)) (rh2.put hW (RelDs.set ((r.mono k1).mono k2) j r3)) q2⟩
end
def Xd (N:G0 Str)(sc:G0 (Str×NameKind))(scope:W9)(js:G0 G6):N0:=
 scope.kind== .function&&scope.names.all (λp=>p.2 != .cell||scope.names.lookup p.1==some .cell)&&scope.names.all (λp=>p.2 != .local||scope.names.lookup p.1==some .local)&&
 scope.names.all (λp=>p.2 != .free||sc.lookup p.1==some .cell||sc.lookup p.1==some .free)&&
 (D4 N.length).all λi=>(scope.names.lookup (N.getD i w6) !=some .local&&scope.names.lookup (N.getD i w6) !=some .cell)||js.contains i
theorem zw (h:Xd X.N X.env.scope.names scope js=true):BlockOk X scope js:=by
 unfold Xd at h;simp only [C6] at h;obtain⟨⟨⟨⟨h1,h2⟩,h3⟩,h4⟩,h5⟩:=h;refine⟨eq_of_beq h1,λp hp e=> ?_,λp hp e=> ?_,λp hp e=> ?_,λi x e1 e2=> ?_⟩
 ·have:=N3.mp h3 p hp;rw [e] at this;simpa using this
 ·have:=N3.mp h2 p hp;rw [e] at this;simpa using this
 ·have:=N3.mp h4 p hp;rw [e] at this;simpa using this
 ·have hi:i<X.N.length:=(P9.mp e1).1;have:=N3.mp h5 i (D0.mpr hi);rw [P7,e1,bS] at this;rcases e2 with e2|e2<;>(rw [e2] at this;simpa using this)
theorem qpt {t:TTD}(h:QW X e t):QT X e t:=h.pt
theorem GN {te:TED}{σ:SD}{h1:HD}{Q:KD}{j:ItD}(f:D->D)(hz:ds.length<=sizeLine)(hj:j h1=some ds)
 (ht: ∀R:ItD->HD->Prop,R j h1->ti σ h R)(he: ∀d∈ds,∀Q':KD,Q' (f d) h1->te ((jW js σ).set i (some d)) h1 Q')(hq: ∀p,h1 p=none->Q (.lst p) (zB h1 p (ds.map f))):vU (bN i) js ti vp te σ h Q:=by
 refine ht _ ⟨ds.length,λk ys h'=>h'=h1/\ys=(ds.take k).map f,⟨rfl,by simp⟩,?_⟩;rintro k ys h' ⟨rfl,rfl⟩;refine⟨by simp only [G5,T4];omega,ds,hj,P6 _,λhl p hp=> ?_,λd hd=>⟨_,rfl,?_⟩⟩
 ·rw [M6 hl];exact hq p hp
 ·unfold vp;dsimp only;rw [R8 rfl];refine he d (P8 hd) _ ⟨h',Sub.refl _,rfl,?_⟩;rw [F8,hd];simp
end L2
namespace HT
open PySem PySem.Spec PyProof.Rows
section
variable {prog:T3}{w:B9}{A:N6}{E:G1->G3->Prop}{s:G3}
theorem yR {t sl:P3}{items:S9 G1}{vl vu:G1}{lo hi:D2 P2}{Q:G1->G3->Prop}(ht:xN s.heap t items)(hs:s.heap.IsSliceOf sl vl vu .none)(pl:mI vl lo)(pu:mI vu hi)
 (hw:sIx items.size 0 lo=0/\sIx items.size items.size hi=items.size)(h:Q (.ref t) s):R3 (R7 prog w) A (k9 (.ref t) (.ref sl)) Q E s:=by
 obtain⟨os,hos,hcs,hds⟩:=id hs;have hTs:s.TypeIs (.ref sl) "slice" :=⟨os,hos,hcs⟩;unfold k9
 try with_reducible refine O1 ?_
 first|refine wpAny_bind (P0 ?_)|skip
 refine wpAny_bind (lA ht.typeIs (by decide) ?_);refine wpAny_bind (E9 (name:=aF "__getitem__") ht.typeIs X4
  (L9 X4 ht.typeIs oX ?_ (pK _ _)))
 show R3 _ _ (aN (.ref t) >>= _) _ _ s;refine wpAny_bind (uH ht ?_);refine wpAny_bind (iN hTs ?_);rw [R8 (by decide)];refine wpAny_bind (wJ hs pl pu ?_);have hyes:((((sIx items.size 0 lo:G6):P2)==0&&(1:P2)==1&&(sIx items.size items.size hi-sIx items.size 0 lo)==items.size)=true):=by
  rw [hw.1,hw.2];simp
 show R3 _ _ (if (((sIx items.size 0 lo:G6):P2)==0&&(1:P2)==1&&(sIx items.size items.size hi-sIx items.size 0 lo)==items.size)=true then _ else _) _ _ s;rw [R8 hyes];refine wpAny_bind (m:=i4 (.ref t)) ?_;unfold i4;refine wpAny_bind (iN ht.typeIs (P0 ?_));rw [R8 (by decide)];exact wpAny_bind (g4 (P0 ⟨_,rfl,P0 h⟩))
end
end HT
namespace L2
open PySem PySem.Spec PyProof.Rows
def Kb (K:G7):V->D2 P2->D2 P2->Hp->VK->Prop:=λx lo hi H Q=> ∃a xs,x= .ref a/\SqT K H a xs/\(HT.sIx xs.length 0 lo=0/\HT.sIx xs.length xs.length hi=xs.length)/\Q (.ref a) H
variable {X:Cx}
theorem sl_whole:SlR X (Kb X.K):=by
 intro pins s σ H x v vl vu lo hi sl Q I rx hs pl pu h;obtain⟨a,xs,rfl,hx,hw,q⟩:=h;cases rx;obtain⟨its,r,ht,hz⟩:=I.tuple hx;have hlen:its.toArray.size=xs.length:=by rw [R4];exact r.length.symm
 refine⟨"tuple",_,PyProof.Rows.slot_tuple_getitem.lookup,ht.typeIs,?_⟩;exact HT.yR ht hs pl pu (by rw [hlen];exact hw) ⟨.ref a,H,I,rfl,q⟩
def WF {α:Type}(xs:G0 α)(lo hi:D2 P2):G0 α:=(xs.drop (HT.sIx xs.length 0 lo)).take (HT.sIx xs.length xs.length hi-HT.sIx xs.length 0 lo)
abbrev TOD:=SD->HD->(D2 P2->HD->Prop)->Prop
def GO:TOD:=λ_ h Q=>Q none h
def OT (t:TED):TOD:=λσ h Q=>t σ h λx h1=> ∃i,x= .int i/\Q (some i) h1
def LO (K:G7)(t:TOD):TO:=λσ H Q=> ∃σd h Qd,RelS K H σd σ/\RelH K h H/\t σd h Qd/\ ∀o h' H',Kept H H'->RelH K h' H'->Qd o h'->Q o H'
theorem LO.bind {K:G7}{ta:TOD}{σ:St}{H:Hp}{σd:SD}{h:HD}{kd:D2 P2->HD->Prop}{k:D2 P2->Hp->Prop}(rs:RelS K H σd σ)(rh:RelH K h H)(t:ta σd h kd)(f: ∀o h' H',Kept H H'->RelS K H' σd σ->RelH K h' H'->kd o h'->k o H'):LO K ta σ H k:=
 ⟨σd,h,kd,rs,rh,t,λo h' H' kp r1 q=>f o h' H' kp (rs.mono kp) r1 q⟩
theorem PO.imp {e:D2 M9}{t t':TO}(h:PO X e t)(i: ∀σ H Q,t' σ H Q->t σ H Q):PO X e t':=λpins s σ H Q I q=>h pins s σ H Q I (i σ H Q q)
abbrev QO (X:Cx)(e:D2 M9)(t:TOD):Prop:=PO X e (LO X.K t)
theorem Cp:QO X none GO:=po_none.imp λσ H Q ⟨σd,h,Qd,rs,rh,q,p⟩=>p none h H (.refl H) rh q
theorem Cq {e:M9}{te:TED}(he:QE X e te):QO X (some e) (OT te):=(BD he).imp λσ H Q ⟨σd,h,Qd,rs,rh,q,p⟩=>
 LE.bind rs rh q λd v h1 H1 k1 rs1 rh1 r1 ⟨i,e,q1⟩=>by subst e;exact⟨i,r1,p _ _ _ k1 rh1 q1⟩
def slD:D->D2 P2->D2 P2->HD->KD->Prop:=λx lo hi h Q=>match x with
 | .tup ds=>Q (.tup (WF ds lo hi)) h
 | .scr ns=> ∀p,h p=none->Q (.lst p) (zB h p ((WF ns lo hi).map D.int))
 | .lst a=> ∃ds,h a=some ds/\ ∀p,h p=none->Q (.lst p) (zB h p (WF ds lo hi))
 |_=>False
def dSl (te:TED)(tl th:TOD):TED:=λσ h Q=>te σ h λx h1=>tl σ h1 λl h2=>th σ h2 λu h3=>slD x l u h3 Q
theorem WG {K:G7}{H:Hp}{ds:G0 D}{vs:G0 V}(r:RelDs K H ds vs)(lo hi:D2 P2):RelDs K H (WF ds lo hi) (Rv vs lo hi):=by
 unfold WF Rv;rw [r.length];exact(r.drop _).take _
theorem Cr {α β:Type}(f:α->β)(xs:G0 α)(lo hi:D2 P2):WF (xs.map f) lo hi=(WF xs lo hi).map f:=by
 unfold WF;rw [G5,iA,lH]
theorem OU {e:M9}{te:TED}{lo hi:D2 M9}{tl th:TOD}{pos p2:Pos}(he:QE X e te)(hl:QO X lo tl)(hu:QO X hi th):QE X (.Subscript e (.Slice lo hi none p2) pos) (dSl te tl th):=
 (RI (sl_tup.or (sl_whole.or BE)) he hl hu).imp λσ H Q ⟨σd,h,Qd,rs,rh,q,p⟩=>
  LE.bind rs rh q λd v h1 H1 k1 rs1 rh1 r1 q1=>LO.bind rs1 rh1 q1 λl h2 H2 k2 rs2 rh2 q2=>LO.bind rs2 rh2 q2 λu h3 H3 k3 rs3 rh3 q3=>by
   have rv:=(r1.mono k2).mono k3;have kk:=k1.trans (k2.trans k3);cases d<;>first
    |exact False.elim q3
    |skip
   ·rename_i ds;obtain⟨a,vs,e1,hH,r⟩:=(show ∃a vs,v= .ref a/\H3 a=some (.tup vs)/\RelDs X.K H3 ds vs from rv)
    by_cases hw:HT.sIx vs.length 0 l=0/\HT.sIx vs.length vs.length u=vs.length
    ·refine .inr (.inl ⟨a,vs,e1,SqT.of hH,hw,p (.tup (WF ds l u)) _ _ _ kk rh3 ⟨a,vs,rfl,hH,?_⟩ q3⟩);have z:=WG r l u;have e:Rv vs l u=vs:=by unfold Rv;rw [hw.1,hw.2];simp
     rwa [e] at z
    ·exact .inl ⟨a,vs,e1,SqT.of hH,hw,λc hc=>p (.tup (WF ds l u)) _ _ _ (kk.trans (.new hc)) (rh3.new hc) ⟨c,_,rfl,jt,(WG r l u).mono (.new hc)⟩ q3⟩
   ·rename_i a;obtain⟨ds,hd,q3⟩:=q3;obtain⟨vs,hH,r⟩:=rh3 a ds hd;exact .inr (.inr ⟨a,vs,rv.1,SqL.of hH,λc hc=>p (.lst c) _ _ _ (kk.trans (.new hc)) (rh3.newL hc (WG r l u)) ⟨rfl,_,jt⟩ (q3 c (rh3.free hc))⟩)
   ·rename_i ns;obtain⟨a,e1,hS⟩:=(show ∃a,v= .ref a/\Scr X.K H3 a ns from rv);refine .inr (.inr ⟨a,_,e1,hS.sq,λc hc=>p (.lst c) _ _ _ (kk.trans (.new hc)) (rh3.newL hc ?_) ⟨rfl,_,jt⟩ (q3 c (rh3.free hc))⟩);have z:=WG (yn (K:=X.K) (H:=H3) ns) l u
    rwa [Cr] at z
end L2
namespace HT
open PySem PySem.Spec PyProof.Rows
open Sem (wp)
open Builtin
theorem JF:fillsNumberSlot (.type "tuple") "mul" =pure false:=
 PySem.fillsNumberSlot_seq (id:= "tuple.__mul__") (r:=some (.builtin "tuple.__rmul__")) F.slot_tuple_mul.lookup (by decide +kernel) F.slot_tuple_rmul.lookup (by decide +kernel)
theorem YV:IS (.type "tuple")=pure (some (.builtin "tuple.__mul__")):=by
 unfold IS;rw [rE (T:= "tuple") (name:= "__mul__") (id:= "tuple.__mul__") F.slot_tuple_mul.lookup (by decide +kernel),rE (T:= "tuple") (name:= "__rmul__") (id:= "tuple.__rmul__") F.slot_tuple_rmul.lookup (by decide +kernel)];rfl
section
variable {prog:T3}{w:B9}{A:N6}{E:G1->G3->Prop}{s:G3}
theorem WH {k:P2}{t:Tok}{l:P3}{o:Obj}{its:S9 G1}{n:G6}{P:g7->G3->Prop}(at_:s.heap.get? l=some o)(tup:o.cls= .type "tuple")(dat:o.data= .seq its n)(h:P (.done (.ret .notImplemented)) s):R3 (R7 prog w) A (Builtin.«int.__rmul__» ⟨[.int k t,.ref l],[]⟩) P E s:=by
 obtain⟨c,dd,dt,sl⟩:=o;cases tup;cases dat;obtain⟨hp,g,d,tk,os⟩:=s
 wp_walk
 exact h
theorem Ug {l:P3}{its:S9 G1}{n:G6}{x:P2}{u:Tok}{dd:D2 P3}{sl:S9 (D2 G1)}{P:g7->G3->Prop}(at_:s.heap.get? l=some {cls:= .type "tuple",dict:=dd,data:= .seq its n,slots:=sl})(fits: -(2^63)<=x/\x<2^63)
 (same:(its.isEmpty||x==1)=true->P (.done (.ret (.ref l))) s)
 (gone:(its.isEmpty||x==1)=false->(decide (x<=0)||its.isEmpty)=true->P (.done (.ret (.ref s.heap.objs.size))) {s with heap:=s.heap.push {cls:= .type "tuple",data:= .seq #[]}})
 (more:(its.isEmpty||x==1)=false->(decide (x<=0)||its.isEmpty)=false-> ¬ (its.size:P2)*x>(2^63-1) / 8/\i5 ((its.size:P2)*x)=false/\((B1 x.toNat its).foldl (· ++ ·) #[]).size<=sizeLine/\
  P (.done (.ret (.ref s.heap.objs.size))) {s with heap:=s.heap.push {cls:= .type "tuple",data:= .seq ((B1 x.toNat its).foldl (· ++ ·) #[])}}):
 R3 (R7 prog w) A (Builtin.«tuple.__mul__» ⟨[.ref l,.int x u],[]⟩) P E s:=by
 obtain⟨hp,g,d,tk,os⟩:=s
 wp_walk
 rw [R9 (by simp only [X1,Z4];omega)]
 wp_walk
 cases c1:(its.isEmpty||x==1) with
 |true=>
  rw [R8 rfl]
  wp_walk
  exact same c1
 |false=>
  rw [R9 D6];cases c2:(decide (x<=0)||its.isEmpty) with
  |true=>
   rw [R8 rfl]
   wp_walk
   exact gone c1 c2
  |false=>
   obtain⟨m1,m2,m3,m4⟩:=more c1 c2;rw [R9 D6];dsimp only;rw [R9 m1,m2,R9 D6]
   wp_walk
   exact m4
end
end HT
namespace L2
open PySem PySem.Spec PyProof.Rows
def Sz (K:G7):R2:=λx y H Q=> ∃ (a:P3) (k:P2) (xs:G0 V),x= .ref a/\y= .int k/\SqT K H a xs/\ -(2^63)<=k/\k<2^63/\xs.length*k.toNat<=sizeLine/\
 ((xs= []\/k=1)->Q (.ref a) H)/\(¬ (xs= []\/k=1)-> ∀p,H p=none->Q (.ref p) (upd H p (.tup (B1 k.toNat xs).flatten)))
theorem JR {l:G0 G1}:l.toArray= #[]↔l= []:=by cases l<;>simp
variable {X:Cx}
theorem Cs:OpR X (K8 .Mult) (Sz X.K):=by
 intro pins s σ H x y v u Q I rx ry h;obtain⟨a,k,xs,rfl,rfl,hH,h1,h2,hz,q1,q2⟩:=h;cases rx;obtain⟨t,rfl⟩:=ry;obtain⟨its,r,ht,_⟩:=I.tuple hH;obtain⟨⟨cls,dd,data,sl⟩,ho,hc,n,hd⟩:=id ht;simp only at hc hd;subst hc hd;have hl:=r.length;have hnew:(B1 k.toNat its.toArray).foldl (· ++ ·) #[]=(B1 k.toNat its).flatten.toArray:=by
  have:=Za its k.toNat [];rw [A4] at this;exact this
 have few:its.length*k.toNat<=sizeLine:=by rw [<-hl];exact hz
 have free:=I.hok.fresh (P6 _);refine kK (T:= "tuple") (U:= "int") (by decide) ⟨_,ho,rfl⟩ (λs'=>mK s' k t) HT.JF sA iI HT.YV F.slot_int_index.lookup
  (L9 iI (mK s k t) rD (HT.WH ho rfl rfl ⟨_,rfl,rfl,⟨_,ho,rfl⟩,L9 F.slot_tuple_mul ⟨_,ho,rfl⟩ F.entry_tuple_mul (HT.Ug ho ⟨h1,h2⟩ (λc=> ?_) (λc c0=> ?_) (λc c0=> ?_)) (F.args_tuple_mul_2 _ _)⟩) (p7 _ _))
 ·refine⟨_,rfl,.ref a,H,I,rfl,q1 ?_⟩;simp only [X1,beq_iff_eq,qB,JR] at c;exact c.imp (λe=>r.nil_iff.mp e) id
 ·simp only [n6,beq_eq_false_iff_ne,i6,ne_eq,JR] at c;have k0:k.toNat=0:=by
   simp only [X1,Z4,qB,JR] at c0;have:=c0.resolve_right c.1;omega
  have last:=q2 (λz=>z.elim (λe=>c.1 (r.nil_iff.mpr e)) c.2) _ free;rw [k0] at last;exact⟨_,rfl,.ref s.heap.objs.size,_,I.laid (t':=s.toks) (o:= .tup []) (λb ob q=>G9 _ q) (P6 _) ⟨by decide,[],.nil,IsTupN.new _ _⟩,rfl,last⟩
 ·simp only [n6,beq_eq_false_iff_ne,i6,ne_eq,JR,decide_eq_false_iff_not] at c c0;have em:((its.toArray.size:G6):P2)*k=((its.length*k.toNat:G6):P2):=by rw [Int.natCast_mul,R4,show ((k.toNat:G6):P2)=k by omega]
  have cap:(sizeLine:G6)<=(2^63-1) / 8:=by decide
  rw [em,hnew];refine⟨by omega,by unfold i5;exact S8 (by omega),by rw [R4,Uc,U5];exact few,_,rfl,.ref s.heap.objs.size,_,I.laid (t':=s.toks) (o:= .tup (B1 k.toNat xs).flatten) (λb ob q=>G9 _ q) (P6 _) ⟨by rw [Uc,U5];exact hz,_,r.rep k.toNat,IsTupN.new _ _⟩,rfl,q2 (λz=>z.elim (λe=>c.1 (r.nil_iff.mpr e)) c.2) _ free⟩
def TZ:RD2:=λx y h Q=>match x,y with
 | .tup ds,.int k=> -(2^63)<=k/\k<2^63/\ds.length*k.toNat<=sizeLine/\Q (.tup (B1 k.toNat ds).flatten) h
 |x,y=>TW x y h Q
theorem WI:OpQ X (K8 .Mult) TZ:=(oq_mul.or Cs).imp λx y H Q ⟨dx,dy,h,Qd,rx,ry,rh,q,p⟩=>by
 by_cases ht: ∃ds k,dx= .tup ds/\dy= .int k
 ·obtain⟨ds,k,e1,e2⟩:=ht;subst e1 e2;obtain⟨b1,b2,hz,q⟩:=q;obtain⟨a,vs,e,hH,r⟩:=(show ∃a vs,x= .ref a/\H a=some (.tup vs)/\RelDs X.K H ds vs from rx);refine .inr ⟨a,k,vs,e,ry,SqT.of hH,b1,b2,by rw [<-r.length];exact hz,λhs=> ?_,λ_ c hc=>p (.tup _) _ _ _ (.new hc) (rh.new hc) ⟨c,_,rfl,jt,(r.flat _).mono (.new hc)⟩ q⟩;refine p (.tup _) _ _ _ (.refl H) rh ⟨a,vs,rfl,hH,?_⟩ q;rcases hs with e0|e1
  ·subst e0;have:ds= []:=bR.mp r.length;subst this;simpa using r
  ·subst e1;simpa using r
 ·refine .inl ⟨dx,dy,h,Qd,rx,ry,rh,?_,p⟩;unfold TZ at q;split at q
  ·exact absurd ⟨_,_,rfl,rfl⟩ ht
  ·exact q
def Ha:D->HD->KD->Prop:=λx h Q=>match x with
 | .int i=>Q (.int (-i)) h
 |_=>False
def dUn (f:D->HD->KD->Prop)(ta:TED):TED:=λσ h Q=>ta σ h λx h1=>f x h1 Q
theorem Kc {a:M9}{ta:TED}{pos:Pos}(ha:QE X a ta):QE X (.UnaryOp .USub a pos) (dUn Ha ta):=
 (EH LP ha).imp λσ H Q ⟨σd,h,Qd,rs,rh,t,p⟩=>LE.bind rs rh t λd v h1 H1 k1 rs1 rh1 r1 q=>by
  cases d<;>first
   |exact False.elim q
   |exact⟨_,r1,p (.int _) _ _ _ k1 rh1 rfl q⟩
def OV (K:G7)(tl:TE):TI:=λσ H R=>tl σ H λx H1=> ∃a,x= .ref a/\((∃xs,SqL K H1 a xs/\R (Itl K a) H1)\/ ∃xs,SqT K H1 a xs/\R (Itt K a) H1)
theorem OW {tg l:M9}{tl:TE}(hl:PE X l tl):PI X tg l (OV X.K tl):=by
 intro pins s σ H R I h;refine thn (hl pins s σ H _ I h) λv s1 ⟨x,H1,I1,r1,q1⟩=> ?_
 obtain⟨a,e,q⟩:=q1;subst e;cases r1;rcases q with ⟨xs,hq,q⟩|⟨xs,hq,q⟩
 ·obtain⟨its,rv,p,hz⟩:=I1.list hq;refine Z0 p.isList ?_;refine⟨s1.heap.objs.size,[s1.heap.objs.size],_,_,H1,rfl,I1.kept (t':=s1.toks) λb o e=>G9 _ e,YF a _,⟨_,S5 _ rfl,rfl,rfl⟩,λb hb=> ?_,q⟩;have e:b=s1.heap.objs.size:=by simpa using hb
  subst e;exact I1.fpOk (P6 _) (I1.hok.fresh (P6 _))
 ·obtain⟨its,rv,p,hz⟩:=I1.tuple hq;refine i7 (show s1.heap.IsTuple a its.toArray from p) ?_;refine⟨s1.heap.objs.size,[s1.heap.objs.size],_,_,H1,rfl,I1.kept (t':=s1.toks) λb o e=>G9 _ e,XY a _,⟨_,S5 _ rfl,rfl,rfl⟩,λb hb=> ?_,q⟩;have e:b=s1.heap.objs.size:=by simpa using hb
  subst e;exact I1.fpOk (P6 _) (I1.hok.fresh (P6 _))
def iS (te:TED):TID:=λσ h R=>te σ h λx h1=>match x with
 | .lst a=>R (λh=>h a) h1
 | .tup ds=>R (λ_=>some ds) h1
 | .scr ns=>R (λ_=>some (ns.map D.int)) h1
 |_=>False
variable {K:G7}
theorem RX {H:Hp}{a:P3}{ns:G0 P2}(hs:Scr K H a ns):Ca K H (λ_=>some (ns.map D.int)) (Itl K a):=λH' h' k rh ds' e i=>by
 cases e;have hs':Scr K H' a ns:=hs.elim (λ⟨o,z⟩=> .inl ⟨o,k.frz _ _ _ z⟩) .inr;refine⟨λd hd=> ?_,λhl=>⟨_,hs'.sq,by simpa using hl⟩⟩;obtain⟨v,e1,e2⟩:=(yn (K:=K) (H:=H') ns).get hd;refine⟨⟨_,v,hs'.sq,e1⟩,λx H'' ⟨eH,hx⟩=> ?_⟩;subst eH;have:=hx _ hs'.sq;rw [e1] at this;cases this;exact⟨.refl _,rh,e2⟩
variable {te:TED}
theorem OX: ∀σ H R,LI K (iS te) σ H R->OV K (LE K te) σ H R:=λσ H R ⟨σd,h,Rd,rs,rh,q,p⟩=>
 LE.bind rs rh q λd v h1 H1 k1 rs1 rh1 r1 q1=>by
  cases d<;>first
   |exact False.elim q1
   |skip
  ·rename_i ds;obtain⟨a,vs,e,hv,r⟩:=(show ∃a vs,v= .ref a/\H1 a=some (.tup vs)/\RelDs K H1 ds vs from r1);exact⟨a,e,.inr ⟨vs,SqT.of hv,p _ _ _ _ k1 rh1 (RR hv r) q1⟩⟩
  ·rename_i a;obtain⟨e,vs,hv⟩:=(show v= .ref a/\ ∃vs,H1 a=some (.lst vs) from r1);exact⟨a,e,.inl ⟨vs,SqL.of hv,p _ _ _ _ k1 rh1 (YR H1 a) q1⟩⟩
  ·rename_i ns;obtain⟨a,e,hS⟩:=(show ∃a,v= .ref a/\Scr K H1 a ns from r1);exact⟨a,e,.inl ⟨_,hS.sq,p _ _ _ _ k1 rh1 (RX hS) q1⟩⟩
theorem OY {tg e:M9}(he:QE X e te):QI X tg e (iS te):=(OW he).imp OX
def NB:TSD:=λ_ _ _=>False
theorem OZ {st:Q2}:QS X st NB:=λ_ _ _ _ _ _ ⟨_,_,_,_,_,z,_⟩=>z.elim
structure Zs (mg:Str->D2 G1):Prop where
 len:mg "len" =none
 max:mg "max" =none
 min:mg "min" =none
 divmod:mg "divmod" =none
 all:mg "all" =none
 any:mg "any" =none
 repr:mg "repr" =none
 sum:mg "sum" =none
 sorted:mg "sorted" =none
 int:mg "int" =none
 tuple:mg "tuple" =none
 list:mg "list" =none
 set:mg "set" =none
 bool:mg "bool" =none
 isinstance:mg "isinstance" =none
 range:mg "range" =none
 zip:mg "zip" =none
 enumerate:mg "enumerate" =none
 reversed:mg "reversed" =none
def jE (P:T3)(w:B9)(K:G7)(mg:Str->D2 G1)(base:O6)(n:G6)(x:Str)(ps:G0 Str)(sp:RDn):Prop:=
 ∃ (g:P3) (gd:C8),FnOk P w K mg base CX0 n g gd ps (LSp K sp)/\Binds K gd ps []/\bP K (.ref g)=true/\mg x=some (.ref g)
def GP:RDn:=λds h Q=> ∃ns,ds= [.scr ns]/\(∀a,h a=none)/\ns.length<=63/\ ∀h',Q (.bl true) h'
def Bm (mg:Str->D2 G1)(base:O6):Prop:= ∃bm ob,mg "__builtins__" =some (.ref bm)/\bm≠mE/\base.get? bm=some ob/\ob.cls= .type "module" /\ob.dict=some mE/\ob.data= .plain
def zX (K:G7):G0 (P3×P3):=LN.filterMap (pA K)
theorem TabK.mem {P:P3}(h:TabK K P): ∃c,(c,P)∈zX K:=let ⟨x,hx,c,e⟩:=h;⟨c,bY.mpr ⟨x,hx,e⟩⟩
theorem GQ {P:T3}{w:B9}{mg mb:Str->D2 G1}{k:G6}{fa a:P3}{fd:C8}{x:Str}{s₁:G3}{vs:G0 G1}{ns:G0 P2}
 (KX:K.In s₁.heap)(hns:s₁.heap.Ns J5 mg)(hb:s₁.heap.Ns mE mb)(hbb: ∀x:Str,x≠ "__name__" ->mb x=U3 x)(hlim:s₁.heap.NoLimit)(hg:s₁.gens= #[])
 (ha:s₁.heap.get? a=some {cls:= .type "list",data:= .seq vs.toArray})(hi:iO vs ns)(hl:ns.length<=63)(hr:Room k oS)
 (hbm:Bm mg s₁.heap)(F: ∀base:O6,K.In base->base.Ns J5 mg->Bm mg base->FnOk P w K mg base CX0 k fa fd [x] (LSp K GP))(hbind: ∀ (s:G3) (u:G1),sS s fd ⟨[u],[]⟩ [(x,u)])
 (hT: ∀p∈zX K,tP s₁.heap p.1 p.2/\s₁.heap.get? p.2=some (n8 #[])/\K.lookup p.2=none):
 aZ (R7 P w) oS (.call (.ref fa) ⟨[.ref a],[]⟩) (λr s'=>r= .ok (.ret (.bool true))/\OldK s₁.heap s'.heap/\s'.os=s₁.os/\kU s'.gens) s₁:=by
 have rv:=YN hi;have lenV:=hi.length;have hz:ns.length<=sizeLine:=S0 hl (by decide);have hT': ∀b,b∈(zX K).map (·.2)-> ∃c,tP s₁.heap c b/\s₁.heap.get? b=some (n8 #[])/\K.lookup b=none:=λb hb=>by
  obtain⟨p,hp,rfl⟩:=R6.mp hb;exact⟨p.1,hT p hp⟩
 have core: ∀H:Hp,Scr K H a ns->HOk P w H s₁.heap->(∀b u,H b=some u->(b=a/\K.lookup a=none/\ ∃o xs,u= .frz o (.lst xs))\/(b∈(zX K).map (·.2)/\u= .tbl #[]))->(∀b,b∈(zX K).map (·.2)->H b=some (.tbl #[]))->
  aZ (R7 P w) oS (.call (.ref fa) ⟨[.ref a],[]⟩) (λr s'=>r= .ok (.ret (.bool true))/\OldK s₁.heap s'.heap/\s'.os=s₁.os/\kU s'.gens) s₁:=by
  intro H hS hok hA hTt;have noA: ∀ {b:P3} {o:Obj} {es:S9 lW} {ep:G6},s₁.heap.get? b=some o->o.data= .dict es ep->H b=none:=λ{b o es ep} e d=>by
   cases q:H b with
   |none=>rfl
   |some u=>
    rcases hA b u q with ⟨rfl,_,_⟩|⟨z,_⟩
    ·rw [ha] at e;cases e;have d':Data.seq vs.toArray _=Data.dict es ep:=d;cases d'
    ·obtain⟨c,_,e2,_⟩:=hT' b z;rw [e2] at e;cases e;have d':Data.fields _=Data.dict es ep:=d;cases d'
  have nsK: ∀ {b:P3} {m:Str->D2 G1},s₁.heap.Ns b m->(Rx s₁.heap H).Ns b m:=λ{b m} ⟨o,es,ep,e,d,r⟩=>⟨o,es,ep,Ww e (noA e d),d,r⟩
  have hKb:K.In (Rx s₁.heap H):=λb o e=>Ww (KX b o e) (by
   cases q:H b with
   |none=>rfl
   |some u=>
    rcases hA b u q with ⟨rfl,z,_⟩|⟨z,_⟩
    ·rw [z] at e;cases e
    ·obtain⟨c,_,_,z2⟩:=hT' b z;rw [z2] at e;cases e)
  have hM:Mod K mg (Rx s₁.heap H):=⟨hKb,nsK hns,⟨mb,nsK hb,hbb⟩,let ⟨mc,h1,h2⟩:=hlim;⟨mc,nsK h1,h2⟩⟩;have e0:Env0 P w K mg (Rx s₁.heap H) oS [] s₁ H:=⟨rfl,hM,λb o e=>Bk e,E5 (Gd _ _),trivial,λb hb=>absurd (show b∈([]:G0 P3) from hb) (by simp),hok,.of_eq hg⟩;have hsp:LSp K GP [.ref a] H (λv _=>v= .bl true) (λ_ _ _=>False):=by
   refine⟨[.scr ns],⟨λ_=>none,λ_=>none⟩,λd _=>d= .bl true,⟨.ref a,[],rfl,⟨a,rfl,hS⟩,rfl⟩,⟨λb ds e=>(by cases e),λp hp=> ?_,λb c e=>(by cases e)⟩,⟨ns,rfl,λ_=>rfl,hl,λ_=>rfl⟩,?_⟩
   ·obtain⟨c,hc⟩:=hp.mem;exact⟨#[],hTt p (bO (f:=(·.2)) hc),trivial,λpos cv e=>(by cases e)⟩
   ·intro d v h' H' _ _ r e;subst e;exact r
  have hBm:Bm mg (Rx s₁.heap H):=by
   obtain⟨bm,ob,b1,b2,b3,b4,r⟩:=hbm;refine⟨bm,ob,b1,b2,Ww b3 ?_,b4,r⟩;cases q:H bm with
   |none=>rfl
   |some u=>
    rcases hA bm u q with ⟨rfl,_,_⟩|⟨z,_⟩
    ·rw [ha] at b3;cases b3;exact absurd (Value.type.inj b4) (by decide)
    ·obtain⟨c,_,e2,_⟩:=hT' bm z;rw [e2] at b3;cases b3;cases b4
  refine mG ((F _ hKb (nsK hns) hBm).run oS [] s₁ H ⟨[.ref a],[]⟩ [.ref a] [.ref a] _ _ hr e0 (hbind s₁ (.ref a)) (.cons rfl .nil) hsp) λr s' h=> ?_
  cases r with
  |error e=>exact False.elim h
  |ok fl=>
   cases fl with
   |next=>exact False.elim h
   |brk=>exact False.elim h
   |cont=>exact False.elim h
   |ret u=>
    obtain⟨v,H',os,bare,un,hok',r',q⟩:=h;have q':v= .bl true:=q;subst q';obtain rfl:u=pE true:=r';have one: ∀b o,s₁.heap.get? b=some o->s'.heap.get? b=some o\/(b∈(zX K).map (·.2)/\ ∃more,s'.heap.get? b=some (n8 more)):=λb o e=>by
     cases q:H b with
     |none=>exact .inl (un.keep b o e q (by intro z;exact absurd (show b∈([]:G0 P3) from z) (by simp)) (by simp))
     |some u=>
      rcases hA b u q with ⟨rfl,_,ob,xs,rfl⟩|⟨z,rfl⟩
      ·have z2:=un.frzs _ ob _ q;obtain⟨e1,_⟩:=hok _ _ q;obtain⟨e2,_⟩:=hok' _ _ z2;rw [e] at e1;cases e1;exact .inl e2
      ·obtain⟨more,z2⟩:=un.tbls b _ q;exact .inr ⟨z,_,(show s'.heap.get? b=some _ from hok' b _ z2)⟩
    refine⟨rfl,⟨λb o e=> ?_,λb o e=> ?_⟩,os,bare⟩
    ·rcases one b o e with z|⟨z,more,z2⟩
     ·exact .inl z
     ·obtain⟨c,hc,e2,_⟩:=hT' b z;rw [e] at e2;cases e2;refine .inr (.inl ⟨(hc.tab e).isCodeTable,rfl,#[],more,rfl,?_⟩);rw [z2];simp
    ·rcases one b o e with z|⟨z,more,z2⟩
     ·exact⟨_,z⟩
     ·exact⟨_,z2⟩
 have nT:a ∉ (zX K).map (·.2):=λz=>by
  obtain⟨c,_,e2,_⟩:=hT' a z;rw [ha] at e2;cases e2
 have okT: ∀ {H:Hp} (b:P3),b∈(zX K).map (·.2)->ObjOk P w H s₁.heap b (.tbl #[]):=λb hb=>let ⟨_,_,e,_⟩:=hT' b hb;e
 cases hk:K.lookup a with
 |some o=>
  have e:=KX a o hk;rw [ha] at e;cases e;refine core (λb=>if b∈(zX K).map (·.2) then some (.tbl #[]) else none) (.inr ⟨_,vs.toArray,_,hk,rfl,rfl,rfl,by rw [R4,lenV];exact hz,by simpa using rv⟩) (λb u z=> ?_) (λb u z=> ?_) λb hb=>R8 hb
  ·by_cases hb:b∈(zX K).map (·.2)
   ·have z':=(R8 hb).symm.trans z;cases z';exact okT b hb
   ·have z':=(R9 hb).symm.trans z;cases z'
  ·by_cases hb:b∈(zX K).map (·.2)
   ·have z':=(R8 hb).symm.trans z;cases z';exact .inr ⟨hb,rfl⟩
   ·have z':=(R9 hb).symm.trans z;cases z'
 |none=>
  refine core (λb=>if b=a then some (.frz {cls:= .type "list",data:= .seq vs.toArray} (.lst (ns.map V.int))) else if b∈(zX K).map (·.2) then some (.tbl #[]) else none) (.inl ⟨{cls:= .type "list",data:= .seq vs.toArray},R8 rfl⟩) (λb u z=> ?_) (λb u z=> ?_) λb hb=> ?_
  ·by_cases hb:b=a
   ·have z':=(R8 hb).symm.trans z;cases z';subst hb;exact⟨ha,by rw [G5];exact hz,vs,_,rv,ha⟩
   ·have z':=(R9 hb).symm.trans z
    by_cases hb2:b∈(zX K).map (·.2)
    ·have z2:=(R8 hb2).symm.trans z';cases z2;exact okT b hb2
    ·have z2:=(R9 hb2).symm.trans z';cases z2
  ·by_cases hb:b=a
   ·have z':=(R8 hb).symm.trans z;cases z';exact .inl ⟨hb,hk,_,_,rfl⟩
   ·have z':=(R9 hb).symm.trans z
    by_cases hb2:b∈(zX K).map (·.2)
    ·have z2:=(R8 hb2).symm.trans z';cases z2;exact .inr ⟨hb2,rfl⟩
    ·have z2:=(R9 hb2).symm.trans z';cases z2
  ·have:b≠a:=λz=>nT (z ▸ hb)
   show (if b=a then _ else _)=_;rw [R9 this,R8 hb]
def SA (q:T3)(K:G7):N0:=LN.all λx=>match pA K x with
 |some p=>(K.lookup p.2).isNone&&((z8 q).find? (λe=>e.name==x)).isSome
 |none=>true
theorem RY {l:sD}{k:G6}{q:T3}{loose:G0 Str}{XP:(Str->D2 G1)->O6->Prop}{YP:B9->O6->Prop}{d:DefRec}{K:G0g->G7}{x:Str}(hn:l.most=some 63)(hdf:d.params.defaults= [])(hr:Room k oS)
 (hY: ∀ (w:B9) (h:O6),YP w h->(K w.params).In h)(hB: ∀w:B9,SA q (K w.params)=true)
 (F: ∀ (w:B9) (mg:Str->D2 G1) (fa:P3) (h:O6),(K w.params).In h->h.Ns J5 mg->mg d.name=some (.ref fa)->
  ∃fd:C8,(∀ (s:G3) (u:G1),sS s fd ⟨[u],[]⟩ [(x,u)])/\ ∀base:O6,(K w.params).In base->base.Ns J5 mg->Bm mg base->FnOk l.prog w (K w.params) mg base CX0 k fa fd [x] (LSp (K w.params) GP)):
 G0p q loose XP YP l.row.toRowW d [] (λf vs=>IQ f vs):=by
 refine Att.attach_call hn hdf λw s₀ s₁ mg mb fa o pm cd doc a vs ns G Y ho hd hcd hmg hobj hints hlen hg=> ?_
 have KX:=hY w _ Y;obtain⟨fd,hb,hF⟩:=F w mg fa _ KX G.T.g hmg;refine GQ KX G.T.g G.T.b G.T.builtins G.T.nolimit hg hobj hints hlen hr G.T.bmain hF hb λp hp=> ?_
 obtain⟨x,hx,e⟩:=bY.mp hp;have z:=N3.mp (hB w) x hx;rw [e] at z;simp only [C6,kM] at z;obtain⟨dd,hdd⟩:=dY.mp z.2;have t:=G0h (c:=p.1) (P:=p.2) G.T KX hdd e;exact⟨t.1,t.2,z.1⟩
def zf:M9->N0
 | .Starred .. =>false
 |_=>true
theorem Uh {e:M9}{es:G0 M9}{env:Env}(h:zf e=true):S1 (e::es) env=(false,J7 e env)::S1 es env:=by
 cases e<;>first|rfl|cases h
theorem qac {e:M9}{es:G0 M9}{t:TAD}(ha:QE X e te)(hr:QA X es t)(h:zf e=true:=by rfl):QA X (e::es) (zu te t):=BT ha hr (Uh h)
theorem Zg {α:Type}{xs:G0 α}{i:P2}(h0:0<=i)(h1:i<xs.length): ∃x∈xs,atI xs i=some x:=by
 have hk:i.toNat<xs.length:=by omega
 have ek:i=((i.toNat:G6):P2):=by omega
 have z:=wT (G2 hk);rw [<-ek] at z;exact⟨xs[i.toNat],M7 hk,z⟩
variable {h h':HD}{p:P3}{L:G0 D}
theorem Sub.newAt (s:Sub h h')(e:h' p=none):Sub h (zB h' p L):=s.trans (.new e)
structure But (p:P3)(h h':HD):Prop where
 ls: ∀a ds,a≠p->h a=some ds->h' a=some ds
 dc: ∀a c,h.dc a=some c->h'.dc a=some c
instance {p:P3}{h h':HD}:CoeFun (But p h h') λ_=> ∀a ds,a≠p->h a=some ds->h' a=some ds:=⟨But.ls⟩
theorem But.refl (p:P3)(h:HD):But p h h:=⟨λ_ _ _ e=>e,λ_ _ e=>e⟩
variable {q:P3}
theorem But.new (s:But p h h')(e:h' q=none):But p h (zB h' q L):=⟨λa ds n z=>(by
 have:=s a ds n z;rw [we (λw=>by subst w;rw [e] at this;cases this)];exact this),s.dc⟩
theorem But.put (s:But p h h'):But p h (zB h' p L):=⟨λa ds n z=>(by rw [we n];exact s a ds n z),s.dc⟩
theorem But.putNew (s:But p h h')(e:h q=none):But p h (zB h' q L):=⟨λa ds n z=>(by
 rw [we (λw=>by subst w;rw [e] at z;cases z)];exact s a ds n z),s.dc⟩
theorem But.sub (s:But p h h')(e:h' p=some L):Sub (zB h p L) h':=⟨λa ds z=>(by
 by_cases q:a=p
 ·subst q;rw [jc] at z;cases z;exact e
 ·rw [we q] at z;exact s a ds q z),s.dc⟩
theorem But.upd:But p h (zB h p L):=⟨λa ds n z=>(by rw [we n];exact z),λ_ _ e=>e⟩
theorem jq (e:h p=some L)(f:h q=none):q≠p:=λz=>by subst z;rw [e] at f;cases f
theorem jd {M:G0 D}(e:h p=some L)(f:h q=none):zB h q M p=some L:=by rw [we (λz=>by subst z;rw [e] at f;cases f)];exact e
theorem jf {a b:P3}{M:G0 D}(n:b≠a)(e:h b=some M):zB h a L b=some M:=by rw [we n];exact e
theorem YW {n:G6}{i:G6}{d:D}(h:((D4 n).map λ(k:G6)=>D.int (k:P2))[i]? =some d):i<n/\d= .int i:=by
 rw [D3] at h
 by_cases hi:i<n
 ·rw [W8 hi] at h;cases h;exact⟨hi,rfl⟩
 ·rw [F7 (by simpa using hi)] at h;cases h
variable {E:EndsD}{σ:SD}
theorem ji {t u:TSD}(V:SD->HD->Prop)(first: ∀K:SD->HD->Prop,(∀σ' h',V σ' h'->K σ' h')->t {E with nx:=K} σ h)(rest: ∀σ' h',V σ' h'->u E σ' h'):JD t u E σ h:=first (u E) rest
theorem Zh (b:But p h h')(e:h' q=none)(n:q≠p):h q=none:=by
 cases z:h q with
 |none=>rfl
 |some ds=>rw [b q ds n z] at e;cases e
def Nxt (E:EndsD)(V:SD->HD->Prop):EndsD:= {E with nx:=λσ3 h3=> ∃h4,Sub h4 h3/\V σ3 h4,ct:=λσ3 h3=> ∃h4,Sub h4 h3/\V σ3 h4,bk:=E.nx}
variable {h1:HD}
theorem Zi {ta:TAD}{g:TGD}{tb:TSD}(n:G6)(W:G6->SD->HD->Prop)(hn:n<1000000)
 (ht: ∀R:G0 D->HD->Prop,R [.int (n:P2)] h1->ta σ h R)(w0:W 0 σ h1)(done: ∀σ' h',W n σ' h'->E.nx σ' h')
 (turn: ∀i σ' h',i<n->W i σ' h'->g (.int (i:P2)) σ' h' λσ2 h2=>tb (Nxt E λσ3 h4=>i+1<=n/\W (i+1) σ3 h4) σ2 h2):OD (iR1 ta) g tb E σ h:=by
 refine ht _ ⟨(n:P2),rfl,by omega,by omega,n,λi σ' h'=>i<=n/\W i σ' h',⟨N9 _,w0⟩,?_⟩;rintro i σ' h' ⟨hi,w⟩;refine⟨_,rfl,by simp,λhl=> ?_,λd hd=> ?_⟩
 ·have:i=n:=by simp at hl;omega
  subst this;exact done _ _ w
 ·obtain⟨hi',e⟩:=YW hd;have hi2:i<n:=by omega
  subst e;exact turn i σ' h' hi2 w
theorem vw {ti:TID}{g:TGD}{tb:TSD}{j:ItD}(ds:G0 D)(W:G6->SD->HD->Prop)
 (ht: ∀R:ItD->HD->Prop,R j h1->ti σ h R)(hj: ∀i σ' h',W i σ' h'->j h'=some ds)(w0:W 0 σ h1)(done: ∀σ' h',W ds.length σ' h'->E.nx σ' h')
 (turn: ∀i d σ' h',ds[i]? =some d->W i σ' h'->g d σ' h' λσ2 h2=>tb (Nxt E λσ3 h4=>i+1<=ds.length/\W (i+1) σ3 h4) σ2 h2):OD ti g tb E σ h:=by
 refine ht _ ⟨ds.length,λi σ' h'=>i<=ds.length/\W i σ' h',⟨N9 _,w0⟩,?_⟩;rintro i σ' h' ⟨hi,w⟩;refine⟨ds,hj i σ' h' w,P6 _,λhl=> ?_,λd hd=>turn i d σ' h' hd w⟩;have:i=ds.length:=by omega
 subst this;exact done _ _ w
theorem GR {g:TGD}{tb:TSD}{j:ItD}(ds:G0 D)(W:G6->SD->HD->Prop)
 (hj: ∀i σ' h',W i σ' h'->j h'=some ds)(w0:W 0 σ h1)(done: ∀σ' h',W ds.length σ' h'->E.nx σ' h')
 (turn: ∀i d σ' h',ds[i]? =some d->W i σ' h'->g d σ' h' λσ2 h2=>tb (Nxt E λσ3 h4=>i+1<=ds.length/\W (i+1) σ3 h4) σ2 h2):
 ∃ (n:G6) (W:G6->SD->HD->Prop),W 0 σ h1/\ ∀i σ' h',W i σ' h'-> ∃ds,j h'=some ds/\ds.length<=n/\(ds.length<=i->E.nx σ' h')/\
  ∀d,ds[i]? =some d->g d σ' h' λσ2 h2=>tb {E with nx:=λσ3 h3=> ∃h4,Sub h4 h3/\W (i+1) σ3 h4,ct:=λσ3 h3=> ∃h4,Sub h4 h3/\W (i+1) σ3 h4,bk:=E.nx} σ2 h2:=by
 refine⟨ds.length,λi σ' h'=>i<=ds.length/\W i σ' h',⟨N9 _,w0⟩,?_⟩;rintro i σ' h' ⟨hi,w⟩;refine⟨ds,hj i σ' h' w,P6 _,λhl=> ?_,λd hd=>turn i d σ' h' hd w⟩;have:i=ds.length:=by omega
 subst this;exact done _ _ w
theorem NC {i:G6}{js:G0 G6}{ta:TAD}{Q:KD}(n:G6)(W:G6->G0 D->HD->Prop)(hn:n<=1000)(ht: ∀R:G0 D->HD->Prop,R [.int (n:P2)] h1->ta σ h R)
 (w0:W 0 [] h1)(wl: ∀k ys h',W k ys h'->ys.length=k)(turn: ∀k ys h',k<n->W k ys h'->te ((jW js σ).set i (some (.int (k:P2)))) h' λy h4=> ∃h5,Sub h5 h4/\(k+1<=n/\W (k+1) (ys++ [y]) h5))
 (done: ∀ys h',W n ys h'-> ∀p,h' p=none->Q (.lst p) (zB h' p ys)):vU (bN i) js (iR1 ta) vp te σ h Q:=by
 refine ht _ ⟨(n:P2),rfl,by omega,by omega,n,λk ys h'=>k<=n/\W k ys h',⟨N9 _,w0⟩,?_⟩;rintro k ys h' ⟨hk,w⟩;refine⟨by rw [wl k ys h' w];exact M0 (jY (by omega)),_,rfl,by simp,λhl p hp=> ?_,λd hd=>⟨_,rfl,?_⟩⟩
 ·have:k=n:=by simp at hl;omega
  subst this;exact done ys h' w p hp
 ·obtain⟨hi',e⟩:=YW hd;subst e;unfold vp;dsimp only;rw [R8 rfl];exact turn k ys h' (by omega) w
end L2
namespace L2
open PySem PySem.Spec PyProof.Rows PySem.SeqAt
mutual
def ToP (h:HD):D->aG->Prop
 |d,.none=>d= .non
 |d,.bool b=>d= .bl b
 |d,.int i=>d= .int i
 |d,.str x=>d= .str x
 |d,.tuple ps=> ∃ds,d= .tup ds/\ToPs h ds ps
 |d,.list ps=> ∃a ds,d= .lst a/\h a=some ds/\ToPs h ds ps
 |_,.dict _=>False
def ToPs (h:HD):G0 D->G0 aG->Prop
 |ds,[]=>ds= []
 |ds,p::ps=> ∃d r,ds=d::r/\ToP h d p/\ToPs h r ps
end
section
variable {X:Cx}{pins:G0 (P3×Obj)}{σ:St}{H:Hp}{s:G3}{h:HD}
mutual
theorem wx (I:Inv X pins σ H s)(rh:RelH X.K h H): ∀ {p:aG} {d:D} {v:V} {u:G1},ToP h d p->RelD X.K H d v->RelV v u-> ∃as,Reads s.heap u p as
 | .none,d,v,u,t,r,ru=>by cases (show d= .non from t);cases (show v= .non from r);cases (show u= .none from ru);exact⟨[],.none⟩
 | .bool b,d,v,u,t,r,ru=>by cases (show d= .bl b from t);cases (show v= .bl b from r);cases (show u= .bool b from ru);exact⟨[],.bool b⟩
 | .int i,d,v,u,t,r,ru=>by cases (show d= .int i from t);cases (show v= .int i from r);obtain⟨k,rfl⟩:=(show ∃t,u=iR i t from ru);exact⟨[],.int i k⟩
 | .str x,d,v,u,t,r,ru=>by cases (show d= .str x from t);cases (show v= .str x from r);obtain⟨k,rfl⟩:=(show ∃t,u=oP x t from ru);exact⟨[],.str x k⟩
 | .tuple ps,d,v,u,t,r,ru=>by
  obtain⟨ds,e,ts⟩:=(show ∃ds,d= .tup ds/\ToPs h ds ps from t);subst e;obtain⟨a,vs,e,hH,rs⟩:=(show ∃a vs,v= .ref a/\H a=some (.tup vs)/\RelDs X.K H ds vs from r);subst e;cases (show u= .ref a from ru);obtain⟨its,rv,ht,_⟩:=I.tuple (SqT.of hH);obtain⟨o,ho,hc,n,hd⟩:=ht;obtain⟨as,q⟩:=reads_Ds I rh ts rs rv;exact⟨as,.tuple ho hc hd q⟩
 | .list ps,d,v,u,t,r,ru=>by
  obtain⟨a,ds,e,ha,ts⟩:=(show ∃a ds,d= .lst a/\h a=some ds/\ToPs h ds ps from t);subst e;obtain⟨vs,hH,rs⟩:=rh a ds ha;have e:v= .ref a:=r.1;subst e;cases (show u= .ref a from ru);obtain⟨its,rv,pl,_⟩:=I.list (SqL.of hH);obtain⟨o,ho,hc,n,hd⟩:=pl.isList;obtain⟨as,q⟩:=reads_Ds I rh ts rs rv;exact⟨a::as,.list ho hc hd q⟩
 | .dict _,_,_,_,t,_,_=>(show False from t).elim
theorem reads_Ds (I:Inv X pins σ H s)(rh:RelH X.K h H): ∀ {ps:G0 aG} {ds:G0 D} {vs:G0 V} {us:G0 G1},ToPs h ds ps->RelDs X.K H ds vs->Vals vs us-> ∃as,ReadsAll s.heap us ps as
 | [],ds,vs,us,t,r,rv=>by
  cases (show ds= [] from t);cases (show vs= [] from r);cases rv;exact⟨[],.nil⟩
 |p::ps,ds,vs,us,t,r,rv=>by
  obtain⟨d,dr,e,t1,t2⟩:=(show ∃d r,ds=d::r/\ToP h d p/\ToPs h r ps from t);subst e;obtain⟨v,vr,e,r1,r2⟩:=(show ∃v r,vs=v::r/\RelD X.K H d v/\RelDs X.K H dr r from r);subst e;cases rv with
  |cons ru rt=>
   obtain⟨as,q1⟩:=wx I rh t1 r1 ru;obtain⟨bs,q2⟩:=reads_Ds I rh t2 r2 rt;exact⟨as++bs,.cons q1 q2⟩
end
end
def eqE:RD2:=λx y h Q=>match x,y with
 | .int i,.int j=>Q (.bl (decide (i=j))) h
 | .bl i,.bl j=>Q (.bl (decide (i=j))) h
 | .str i,.str j=>Q (.bl (decide (i=j))) h
 |x,y=> ∃p q,ToP h x p/\ToP h y q/\shaped p=true/\shaped q=true/\Q (.bl (aB p q)) h
def neE:RD2:=λx y h Q=>match x,y with
 | .int i,.int j=>Q (.bl (!decide (i=j))) h
 | .bl i,.bl j=>Q (.bl (!decide (i=j))) h
 | .str i,.str j=>Q (.bl (!decide (i=j))) h
 |x,y=> ∃p q,ToP h x p/\ToP h y q/\shaped p=true/\shaped q=true/\Q (.bl (!aB p q)) h
section
variable {X:Cx}
def eqG:RD2:=λx y h Q=> ∃p q,ToP h x p/\ToP h y q/\shaped p=true/\shaped q=true/\Q (.bl (aB p q)) h
def neG:RD2:=λx y h Q=> ∃p q,ToP h x p/\ToP h y q/\shaped p=true/\shaped q=true/\Q (.bl (!aB p q)) h
theorem Aa (hu:X.A.units+64<cLine):OpQ X (L0 .Eq) eqG:=by
 intro pins s σ H x y v u Q I rx ry h;obtain⟨dx,dy,h,Qd,r1,r2,rh,⟨p,q,t1,t2,s1,s2,qq⟩,post⟩:=h;obtain⟨as,a1⟩:=wx I rh t1 r1 rx;obtain⟨bs,b1⟩:=wx I rh t2 r2 ry;exact compareEq_shaped a1 b1 s1 s2 hu ⟨.bl _,H,I,rfl,post (.bl _) _ _ _ (.refl H) rh rfl qq⟩
theorem Ab (hu:X.A.units+64<cLine):OpQ X (L0 .NotEq) neG:=by
 intro pins s σ H x y v u Q I rx ry h;obtain⟨dx,dy,h,Qd,r1,r2,rh,⟨p,q,t1,t2,s1,s2,qq⟩,post⟩:=h;obtain⟨as,a1⟩:=wx I rh t1 r1 rx;obtain⟨bs,b1⟩:=wx I rh t2 r2 ry;exact compareNe_shaped a1 b1 s1 s2 hu ⟨.bl _,H,I,rfl,post (.bl _) _ _ _ (.refl H) rh rfl qq⟩
theorem OpQ.or' {f:G1->G1->Sem G1}{r r' r2:RD2}(h:OpQ X f r)(h':OpQ X f r')(i: ∀x y hh Q,r2 x y hh Q->r x y hh Q\/r' x y hh Q):OpQ X f r2:=λpins s σ H x y v u Q I rx ry ⟨dx,dy,hd,Qd,r1,r2',rh,q,p⟩=>
 (i dx dy hd Qd q).elim (λz=>h pins s σ H x y v u Q I rx ry ⟨dx,dy,hd,Qd,r1,r2',rh,z,p⟩) λz=>h' pins s σ H x y v u Q I rx ry ⟨dx,dy,hd,Qd,r1,r2',rh,z,p⟩
theorem ND (hu:X.A.units+64<cLine):OpQ X (L0 .Eq) eqE:=oq_eq.or' (Aa hu) λx y h Q q=>by
 unfold eqE at q;split at q
 ·exact .inl q
 ·exact .inl q
 ·exact .inl q
 ·exact .inr q
theorem Ac (hu:X.A.units+64<cLine):OpQ X (L0 .NotEq) neE:=oq_ne.or' (Ab hu) λx y h Q q=>by
 unfold neE at q;split at q
 ·exact .inl q
 ·exact .inl q
 ·exact .inl q
 ·exact .inr q
end
end L2
namespace HT
open PySem PySem.Spec PyProof.Rows
section
variable {prog:T3}{w:B9}{A:N6}{E:G1->G3->Prop}{s:G3}
theorem GS (k:P2){vs:G0 G1}{ns:G0 P2}(hi:iO vs ns)(j:G6)(h:j<ns.length): ∃t,vs[j]? =some (.int ns[j] t):=by
 induction hi generalizing j with
 |nil=>simp at h
 |cons n t r ih=>
  cases j with
  |zero=>exact⟨t,rfl⟩
  |succ j=>obtain⟨u,e⟩:=ih j (by simpa using h);exact⟨u,by simpa using e⟩
end
end HT
namespace L2
open PySem PySem.Spec PyProof.Rows
theorem YX: ∀ {ns:G0 P2} {us:G0 G1},Vals (ns.map V.int) us->iO us ns
 | [],_,r=>by cases r;exact .nil
 |n::ns,_,r=>by
  cases r with
  |cons r t=>obtain⟨k,rfl⟩:=r;exact .cons n k (YX t)
theorem zm {K:G7}{H:Hp}: ∀ {ns:G0 P2} {vs:G0 V},RelDs K H (ns.map D.int) vs->vs=ns.map V.int
 | [],_,h=>h
 |n::ns,vs,h=>by
  obtain⟨v,r,e,h1,h2⟩:=(show ∃v r,vs=v::r/\RelD K H (.int n) v/\RelDs K H (ns.map D.int) r from h);rw [e,zm h2,(show v= .int n from h1)];rfl
theorem Wg (ns:G0 P2): ∀k,k<=ns.length->IT (λi=>ns.getD i 0) k=(ns.take k).sum
 |0,_=>by simp [IT]
 |k+1,h=>by
  have hk:k<ns.length:=by omega
  rw [IT,Wg ns k (by omega),F8,G2 hk,sE,P7,G2 hk];simp
variable {X:Cx}
theorem WJ (hc:X.calm=true):CallR X (.builtin "sum") (λxs H Q=> ∃ (a:P3) (ns:G0 P2),xs= [.ref a]/\SqL X.K H a (ns.map V.int)/\Q (.int ns.sum) H):=by
 intro pins s σ H xs us Q I r h;obtain⟨a,ns,rfl,hS,q⟩:=h;obtain⟨u,rfl,ru⟩:=JY r;cases ru;obtain⟨its,rv,pl,hz⟩:=I.list hS;have hl:=pl.isList;have hlt:a<s.heap.objs.size:=by obtain⟨_,e,_⟩:=hl;exact R0 e
 have hi:=YX rv;have hn:its.length=ns.length:=hi.length;refine call_sum_walkAnyS (Z0 hl ?_);refine⟨s.heap.objs.size,_,_,_,_,_,_,λi=>ns.getD i 0,rfl,(mO (A:=X.A.in1) (show X.A.in1.handled=none from I.ok.hd hc) s.heap.objs.size a (M1 hlt) its.toArray).toS,⟨⟨_,S5 _ rfl,rfl,rfl⟩,hl.push _⟩,?_,?_,λs' t' hm=> ?_⟩
 ·intro b hb;simp only [R5,C9,or_false] at hb;show b<(s.heap.push _).objs.size;rw [cU];rcases hb with e|e
  ·rw [e];exact J0 _
  ·rw [e];exact cN hlt
 ·intro i v hP;have e:its[i]? =some v:=by simpa using hP
  have hil:i<ns.length:=by rw [<-hn];exact(P9.mp e).1
  obtain⟨t,e2⟩:=HT.GS 0 hi i hil;rw [e] at e2;cases e2;refine⟨t,?_⟩;show iR ns[i] t=iR (ns.getD i 0) t;rw [P7,G2 hil];rfl
 ·have e:IT (λi=>ns.getD i 0) its.toArray.size=ns.sum:=by
   rw [R4,hn,Wg ns _ (P6 _),U9]
  rw [e];obtain⟨h',g',d',tk',o'⟩:=s';obtain⟨m1,m2,m3,m4,_⟩:=hm;simp only at m1 m2 m3 m4;subst m2 m3 m4;refine⟨.int ns.sum,H,I.kept (t':=tk') (λb o e=>m1 b o (λz=> ?_) (G9 _ e)),⟨_,rfl⟩,q⟩;rw [G8.mp z] at e;exact absurd (R0 e) (B7 _)
def SB:RDn:=λds h Q=> ∃ (a:P3) (ns:G0 P2),ds= [.lst a]/\h a=some (ns.map D.int)/\Q (.int ns.sum) (YO h a)
theorem GT (hc:X.calm=true):yt X (.builtin "sum") SB:=(WJ hc).imp λxs H Q ⟨ds,h,Qd,r,rh,⟨a,ns,e,hd,q⟩,p⟩=>by
 subst e;obtain⟨v,e,r1⟩:=jG r;obtain⟨vs,hH,r2⟩:=rh a _ hd;have e1:v= .ref a:=r1.1;rw [zm r2] at hH;subst e e1;exact⟨a,ns,rfl,SqL.of hH,p (.int _) _ _ _ (.refl H) (rh.sub (Sub.drop h a)) rfl q⟩
def Hb (to ti te:TED):TED:=λσ h Q=>to σ h λx h1=> ∃a,x= .lst a/\ti σ h1 λi h2=>te σ h2 λy h3=> ∃ (k:G6) (xs:G0 D),i= .int (k:P2)/\k<=1000/\h3 a=some xs/\xs.length<sizeLine/\Q .non (zB h3 a (xs.take k++y::xs.drop k))
theorem GU:MtM X "list.insert" (λx vs H Q=> ∃ (l:P3) (xs:G0 V) (k:G6) (y:V),x= .ref l/\vs= [.int (k:P2),y]/\H l=some (.lst xs)/\k<=1000/\xs.length<sizeLine/\Q .non (upd H l (.lst (xs.take k++y::xs.drop k)))):=by
 intro pins s σ H x vs v us Q I rx rv h;obtain⟨l,xs,k,y,rfl,rfl,hH,hk,hz,q⟩:=h;cases rx;obtain⟨u,w',rfl,⟨t,rfl⟩,ry⟩:=RF rv;obtain⟨z,its,n,r,hl,e⟩:=I.lstM hH;have hfit: ¬ (!i3 (k:P2))=true:=by rw [tM (by omega) (by omega)];exact D6
 have hsz:its.toArray.size<=sizeLine:=by rw [R4];omega
 generalize har:its.toArray=ar at e hsz;obtain⟨kk,hkk⟩: ∃kk:P2,kk=(k:P2):=⟨_,rfl⟩;rw [<-hkk] at hfit ⊢;refine mL F.slot_list_insert ⟨_,e,rfl⟩ F.entry_list_insert (F.args_list_insert_3 _ _ _) (AutoListH.list_insert_list_int_val_1 l ar n kk t w' hfit hsz) ⟨e,?_⟩;subst har hkk;refine⟨.non,_,I.lset (its':=its.take k++w'::its.drop k) hH e ?_ ((r.take k).append (.cons ry (r.drop k))) ?_,rfl,q⟩
 ·have hk0: ¬ ((k:P2)<0):=by omega
  simp only [hk0,nZ,V4,R4];have e1:its.take (min k its.length)=its.take k:=by
   by_cases hh:k<=its.length
   ·rw [X3 hh]
   ·rw [l8 (by omega),U9,M6 (by omega)]
  have e2:its.drop (min k its.length)=its.drop k:=by
   by_cases hh:k<=its.length
   ·rw [X3 hh]
   ·rw [l8 (by omega),List.drop_length,List.drop_of_length_le (by omega)]
  have e3:(its.drop k).take (its.length-min k its.length)=its.drop k:=M6 (by rw [B3];omega);apply Array.ext';simp only [L7,Q8,List.extract_toArray,Q4,i8,qC];rw [e1,e2,e3,D5];rfl
 ·rw [P1,D9,T4,B3];omega
section
variable {X:Cx}{o e i:M9}{to te ti:TED}{apos cpos:Pos}
theorem Kd (ho:QE X o to)(hi:QE X i ti)(he:QE X e te)(hbase:cH o "insert" X.env (J7 o X.env)=J7 o X.env:=by rfl)
 (hfew:((U6 cpos (S1 [i,e] X.env)).all (λx=> !x.1)&&(lU cpos (fU [] X.env)).all (λx=>x.1.isSome)&&decide ([i,e].length+([]:G0 dE).length+(if ([]:G0 dE).isEmpty then 0 else 1)<30))=true:=by rfl)
 (hline:(apos.endLine==cpos.line)=true:=by rfl)(hs:S1 [i,e] X.env=(false,J7 i X.env)::S1 [e] X.env:=by rfl)(hs2:S1 [e] X.env=(false,J7 e X.env)::S1 [] X.env:=by rfl)(hplain:(U6 cpos (S1 [e] X.env)).any (·.1)=false:=by rfl):
 QE X (.Call (.Attribute o "insert" apos) [i,e] [] cpos) (Hb to ti te):=
 (BF fX uP uQ GU ho (wS hi (wS he pa_nil hs2) hs) hbase hfew hline hs hplain).imp
  λσ H Q ⟨σd,h,Qd,rs,rh,t,p⟩=>LE.bind rs rh t λd v h1 H1 k1 rs1 rh1 r1 ⟨a,e,q⟩=>by
   subst e;obtain⟨e1,vs,hH⟩:=(show v= .ref a/\ ∃vs,H1 a=some (.lst vs) from r1);subst e1;refine⟨.inl ⟨rfl,vs,SqL.of hH⟩,?_⟩;refine LE.bind rs1 rh1 q λdi vi h2 H2 k2 rs2 rh2 r2 q2=>LE.bind rs2 rh2 q2 λy u h3 H3 k3 rs3 rh3 r3 ⟨k,xs,ei,hk,hx,hz,q3⟩=> ?_
   subst ei;have ev:vi= .int (k:P2):=r2;obtain⟨ws,hW,r4⟩:=rh3 a xs hx;refine⟨a,ws,k,u,rfl,by rw [ev],hW,hk,by rw [<-r4.length];exact hz,p .non _ _ _ (k1.trans (k2.trans (k3.trans (.put hW)))) (rh3.put hW ((r4.take k).append (.cons r3 (r4.drop k)))) rfl q3⟩
end
structure JE (X:Cx)(e:M9)(t:TED):Prop where
 to:QE X e t
structure JT (X:Cx)(e:M9)(t:TTD):Prop where
 to:QT X e t
structure JW (X:Cx)(e:M9)(t:TTD):Prop where
 to:QW X e t
structure JA (X:Cx)(e:G0 M9)(t:TAD):Prop where
 to:QA X e t
structure JS (X:Cx)(e:Q2)(t:TSD):Prop where
 to:QS X e t
structure JSs (X:Cx)(e:G0 Q2)(t:TSD):Prop where
 to:QSs X e t
structure JG (X:Cx)(e:M9)(t:TGD):Prop where
 to:QG X e t
structure JI (X:Cx)(tg e:M9)(t:TID):Prop where
 to:QI X tg e t
structure JO (X:Cx)(e:D2 M9)(t:TOD):Prop where
 to:QO X e t
section
variable {X:Cx}{a b c e:M9}{es rest:G0 M9}{ta tb tc te:TED}{t u:TAD}{tt tu:TTD}{pos:Pos}{f r r':RD2}
theorem jv (i:G6){x:Str}(hN:X.N[i]? =some x:=by rfl)(hv:Vis X.env.scope x:=by first|exact U7 rfl|exact aW (U7 rfl)|exact aW (aW rfl))(hd:(x==("__debug__" :Str))=false:=by decide)(hcd:(x==("__classdict__" :Str))=false:=by decide):JE X (.Name x pos) (Nw i):=⟨qv (i:=i) (hN:=hN) (hv:=hv) (hd:=hd) (hcd:=hcd)⟩
theorem jC {i:P2}{j:G6}:JE X (.Constant (.int i) j pos) (dC (.int i)):=⟨HE⟩
theorem jbl {i:N0}{j:G6}:JE X (.Constant (.bool i) j pos) (dC (.bl i)):=⟨qbl⟩
theorem Hc {j:G6}:JE X (.Constant .none j pos) (dC .non):=⟨HF⟩
theorem Ct {x:Str}{i:P2}{tk:Tok}(hg:Gl X x)(hm:X.mg x=some (.int i tk))(hd:(x==("__debug__" :Str))=false:=by decide):JE X (.Name x pos) (dC (.int i)):=⟨Sc (hg:=hg) (hm:=hm) (hd:=hd)⟩
theorem jop {op:pX}(ho:OpQ X (K8 op) f)(ha:JE X a ta)(hb:JE X b tb):JE X (.BinOp a op b pos) (dOp f ta tb):=⟨qop (ho:=ho) (ha:=ha.to) (hb:=hb.to)⟩
theorem Hd {op:nQ}(ho:OpQ X (L0 op) f)(ha:JE X a ta)(hb:JE X b tb)(hm:Y2 op b=false):JE X (.Compare a [op] [b] pos) (dOp f ta tb):=⟨HG (ho:=ho) (ha:=ha.to) (hb:=hb.to) (hm:=hm)⟩
theorem RZ {op:nQ}(ho:OpQ X (L0 op) f)(ha:JE X a ta)(hb:JE X b tb)(hm:Y2 op b=false):JT X (.Compare a [op] [b] pos) (vn (dOp f ta tb)):=⟨Sd (ho:=ho) (ha:=ha.to) (hb:=hb.to) (hm:=hm)⟩
theorem GV {op op':nQ}(ho:OpQ X (L0 op) r)(ho':OpQ X (L0 op') r')(ha:JE X a ta)(hb:JE X b tb)(hc:JE X c tc)(hm:v9 [op,op'] [b,c]=false:=by with_unfolding_all rfl):JT X (.Compare a [op,op'] [b,c] pos) (vn (YQ r r' ta tb tc)):=⟨BS (ho:=ho) (ho':=ho') (ha:=ha.to) (hb:=hb.to) (hc:=hc.to) (hm:=hm)⟩
theorem JH (ha:JE X a ta)(he: ∀whole,isTrue a X.env whole=(do let v <-whole;fB a.pos;Y0 [v] (mF v)):=by intro _;rfl):JT X a (vn ta):=⟨Se (ha:=ha.to) (he:=he)⟩
theorem SC (ha:JT X a tt):JW X (.BoolOp .And [a] pos) tt:=⟨Sf (ha:=ha.to)⟩
theorem Ad (ha:JT X a tt):JW X (.BoolOp .Or [a] pos) tt:=⟨HH (ha:=ha.to)⟩
theorem SE (ha:JT X a tt)(hb:JW X (.BoolOp .And (b::rest) pos) tu):JW X (.BoolOp .And (a::b::rest) pos) (BP tt tu):=⟨Sg (ha:=ha.to) (hb:=hb.to)⟩
theorem Cu (ha:JT X a tt)(hb:JW X (.BoolOp .Or (b::rest) pos) tu):JW X (.BoolOp .Or (a::b::rest) pos) (Oi tt tu):=⟨HI (ha:=ha.to) (hb:=hb.to)⟩
theorem vX (ha:JT X a tt):JT X (.UnaryOp .Not a pos) (Qf tt):=⟨Sh (ha:=ha.to)⟩
theorem NE {op:BoolOp}(ha:JE X a ta):JE X (.BoolOp op [a] pos) ta:=⟨HJ (ha:=ha.to)⟩
theorem FY (ha:JE X a ta)(hb:JE X (.BoolOp .And (b::rest) pos) tb):JE X (.BoolOp .And (a::b::rest) pos) (RK ta tb):=⟨HK (ha:=ha.to) (hb:=hb.to)⟩
theorem jor (ha:JE X a ta)(hb:JE X (.BoolOp .Or (b::rest) pos) tb):JE X (.BoolOp .Or (a::b::rest) pos) (EX ta tb):=⟨qor (ha:=ha.to) (hb:=hb.to)⟩
theorem Ke (ha:JE X a ta):JE X (.UnaryOp .Not a pos) (RL ta):=⟨HL (ha:=ha.to)⟩
theorem jif {c:M9}(hc:JT X c tt)(ha:JE X a ta)(hb:JE X b tb):JE X (.IfExp c a b pos) (dIf tt ta tb):=⟨qif (hc:=hc.to) (ha:=ha.to) (hb:=hb.to)⟩
theorem yD:JA X [] Wf:=⟨Ou⟩
theorem yE {k:G6}(h:JA X es t):JE X (.Tuple es k pos) (EW t):=⟨HM (h:=h.to)⟩
theorem JJ (h:JA X es t):JE X (.List es pos) (Er t):=⟨HN (h:=h.to)⟩
end
section
variable {X:Cx}{st:Q2}{sts:G0 Q2}{t u:TSD}{e:M9}{te:TED}{pos:Pos}
theorem GW:JSs X [] Uf:=⟨OA⟩
theorem zg (h1:JS X st t)(h2:JSs X sts u):JSs X (st::sts) (JD t u):=⟨BY (h1:=h1.to) (h2:=h2.to)⟩
theorem zr (h1:JS X st t):JSs X [st] t:=⟨OB (h1:=h1.to)⟩
theorem Zj (he:JE X e te)(hs:W5 e none pos.line X.env=pure false:=by rfl):JS X (.Expr e pos) (BU te):=⟨Sl (he:=he.to) (hs:=hs)⟩
theorem yF (he:JE X e te):JS X (.Return (some e) pos) (Nx te):=⟨HP (he:=he.to)⟩
theorem SF {c:M9}{a b:G0 Q2}{tc:TTD}(hc:JT X c tc)(ha:JSs X a t)(hb:JSs X b u):JS X (.If c a b pos) (RQ tc t u):=⟨HQ (hc:=hc.to) (ha:=ha.to) (hb:=hb.to)⟩
variable {i:G6}{x:Str}
theorem Kf {pos':Pos}(hN:X.N.Nodup)(hi:X.N[i]? =some x)(hx:Loc X.env.scope x)(he:JE X e te)(hs:W5 e (some (.Name x pos')) pos.line X.env=pure false:=by rfl)(hf:X.fn x=true\/X.env.scope.names.lookup x=some .local:=by first|exact .inl rfl|exact .inr rfl|assumption):JS X (.Assign [.Name x pos'] e pos) (GD i te):=⟨HR (hN:=hN) (hi:=hi) (hx:=hx) (he:=he.to) (hs:=hs) (hf:=hf)⟩
theorem Cv (hN:X.N.Nodup)(hi:X.N[i]? =some x)(hx:Loc X.env.scope x)(hf:X.fn x=true\/X.env.scope.names.lookup x=some .local:=by first|exact .inl rfl|exact .inr rfl|assumption):JG X (.Name x pos) (gN i):=⟨BZ (hN:=hN) (hi:=hi) (hx:=hx) (hf:=hf)⟩
theorem YY {j:G6}{y:Str}{p1 p2:Pos}{k:G6}(hc:X.calm=true)(hN:X.N.Nodup)(hi:X.N[i]? =some x)(hj:X.N[j]? =some y)(hx:Loc X.env.scope x)(hy:Loc X.env.scope y)(hf:X.fn x=true\/X.env.scope.names.lookup x=some .local:=by first|exact .inl rfl|exact .inr rfl|assumption)(hf2:X.fn y=true\/X.env.scope.names.lookup y=some .local:=by first|exact .inl rfl|exact .inr rfl|assumption):JG X (.Tuple [.Name x p1,.Name y p2] k pos) (gT2 i j):=⟨OC (hc:=hc) (hN:=hN) (hi:=hi) (hj:=hj) (hx:=hx) (hy:=hy) (hf:=hf) (hf2:=hf2)⟩
theorem Cw {tg:M9}{g:TGD}(he:JE X e te)(hg:JG X tg g)(hs:dW [tg] e pos.line X.env=pure false:=by rfl)(hsw:dX [tg] e X.env=pure none:=by rfl)(h1:(fH [tg] X.env).map (·.2)= [dP tg X.env]:=by rfl):JS X (.Assign [tg] e pos) (Si te g):=⟨HS (he:=he.to) (hg:=hg.to) (hs:=hs) (hsw:=hsw) (h1:=h1)⟩
theorem Et {j:G6}{y:Str}{a b:M9}{ta:TAD}{px py pt:Pos}{kt k2 pt2}(hc:X.calm=true)(hN:X.N.Nodup)(hi:X.N[i]? =some x)(hj:X.N[j]? =some y)(hij:i≠j)(hx:X.env.scope.names.lookup x=some .local)(hy:X.env.scope.names.lookup y=some .local)(ha:JA X [a,b] ta)(hw:dX [.Tuple [.Name x px,.Name y py] kt pt] (.Tuple [a,b] k2 pt2) X.env=pure (some [x,y]))(hs:dW [.Tuple [.Name x px,.Name y py] kt pt] (.Tuple [a,b] k2 pt2) pos.line X.env=pure false:=by rfl):JS X (.Assign [.Tuple [.Name x px,.Name y py] kt pt] (.Tuple [a,b] k2 pt2) pos) (Sj i j ta):=⟨HU (hc:=hc) (hN:=hN) (hi:=hi) (hj:=hj) (hij:=hij) (hx:=hx) (hy:=hy) (ha:=ha.to) (hw:=hw) (hs:=hs)⟩
end
section
variable {X:Cx}{tg e iter elt:M9}{te:TED}{ti:TID}{g:TGD}{tb:TSD}{tt:TTD}{pos:Pos}{ta:TAD}{scope:W9}{js:G0 G6}{ifs:G0 M9}
theorem Cy (he:JE X e te):JI X tg e (iL te):=⟨Cd (he:=he.to)⟩
theorem SG {p:Pos}{a:M9}(hg:Gl X "range")(hm:X.mg "range" =none)(ha:JA X [a] ta)(hs:S1 [a] X.env= [(false,J7 a X.env)]:=by rfl):JI X tg (.Call (.Name "range" p) [a] [] pos) (iR1 ta):=⟨Sn (hg:=hg) (hm:=hm) (ha:=ha.to) (hs:=hs)⟩
theorem GX {body:G0 Q2}(hp:oQ (R7 X.prog X.w) X.A X.env X.xe)(hc:X.calm=true)(hi:JI X tg iter ti)(hg:JG X tg g)(hb:JSs X body tb)(hs: ∀x,M5 iter X.env x=pure x:=by intro _;rfl):JS X (.For tg iter body [] pos) (OD ti g tb):=⟨HV (hp:=hp) (hc:=hc) (hi:=hi.to) (hg:=hg.to) (hb:=hb.to) (hs:=hs)⟩
theorem vY:PTs X [] (LT X.K vp):=Ce
theorem GY {c:M9}(hc:JT X c tt):PTs X [c] (LT X.K tt):=Cf (hc:=hc.to)
theorem jlc {i:G6}{x:Str}{p:Pos}(hc:X.calm=true)(S:BlockOk X scope js)(hi:JI X (.Name x p) iter ti)(hj:i∈js)(hN:X.N.Nodup)(hx:X.N[i]? =some x)(hl:scope.names.lookup x=some .local\/scope.names.lookup x=some .cell)(ht: ∀X',jg X scope X'->PTs X' ifs (LT X'.K tt))(he: ∀X',jg X scope X'->JE X' elt te)(hs: ∀x,M5 iter X.env x=pure x:=by intro _;rfl):JE X (.ListComp elt [⟨.Name x p,iter,ifs,0⟩] scope pos) (vU (bN i) js ti tt te):=⟨qlc (hc:=hc) (S:=S) (hi:=hi.to) (hj:=hj) (hN:=hN) (hx:=hx) (hl:=hl) (ht:=ht) (he:=λX' hX=>(he X' hX).to) (hs:=hs)⟩
theorem Kg {i j:G6}{x y:Str}{p1 p2 p3:Pos}{k:G6}(hc:X.calm=true)(S:BlockOk X scope js)(hi:JI X (.Tuple [.Name x p1,.Name y p2] k p3) iter ti)(hj:i∈js)(hj2:j∈js)(hij:i≠j)(hN:X.N.Nodup)(hx:X.N[i]? =some x)(hy:X.N[j]? =some y)(hl:scope.names.lookup x=some .local\/scope.names.lookup x=some .cell)(hl2:scope.names.lookup y=some .local\/scope.names.lookup y=some .cell)(ht: ∀X',jg X scope X'->PTs X' ifs (LT X'.K tt))(he: ∀X',jg X scope X'->JE X' elt te)(hs: ∀x,M5 iter X.env x=pure x:=by intro _;rfl):JE X (.ListComp elt [⟨.Tuple [.Name x p1,.Name y p2] k p3,iter,ifs,0⟩] scope pos) (vU (b2 i j) js ti tt te):=⟨HW (hc:=hc) (S:=S) (hi:=hi.to) (hj:=hj) (hj2:=hj2) (hij:=hij) (hN:=hN) (hx:=hx) (hy:=hy) (hl:=hl) (hl2:=hl2) (ht:=ht) (he:=λX' hX=>(he X' hX).to) (hs:=hs)⟩
end
section
variable {X:Cx}{k:G6}{f:P3}{fd:C8}{ps:G0 Str}{spd:RDn}{x:Str}{p pos:Pos}{e:M9}{es:G0 M9}{t:TAD}
theorem SH (F:FnOk X.prog X.w X.K X.mg X.base CX0 k f fd ps (LSp X.K spd))(hr:Room k X.A)(hg:Gl X x)(hm:X.mg x=some (.ref f))(hk:bP X.K (.ref f)=true)(hb:Binds X.K fd ps [])(ha:JA X (e::es) t)(hdb:(x==("__debug__" :Str))=false:=by decide)(he:S1 (e::es) X.env=(false,J7 e X.env)::S1 es X.env:=by rfl)(hpl:(U6 pos (S1 es X.env)).any (·.1)=false:=by rfl):JE X (.Call (.Name x p) (e::es) [] pos) (dCB spd t):=⟨So (F:=F) (hr:=hr) (hg:=hg) (hm:=hm) (hk:=hk) (hb:=hb) (ha:=ha.to) (hdb:=hdb) (he:=he) (hpl:=hpl)⟩
theorem zS {id:V1}{r:RDn}(hc:yt X (.builtin id) r)(hg:Gl X x)(hm:X.mg x=none)(hv:U3 x=some (.builtin id))(ha:JA X (e::es) t)(hn:x≠ "__name__" :=by decide)(hdb:(x==("__debug__" :Str))=false:=by decide)(he:S1 (e::es) X.env=(false,J7 e X.env)::S1 es X.env:=by rfl)(hpl:(U6 pos (S1 es X.env)).any (·.1)=false:=by rfl):JE X (.Call (.Name x p) (e::es) [] pos) (dCB r t):=⟨OH (hc:=hc) (hg:=hg) (hm:=hm) (hv:=hv) (ha:=ha.to) (hn:=hn) (hdb:=hdb) (he:=he) (hpl:=hpl)⟩
theorem jM {T:V1}{r:RDn}(hc:yt X (.type T) r)(hg:Gl X x)(hm:X.mg x=none)(hv:U3 x=some (.type T))(ha:JA X (e::es) t)(hn:x≠ "__name__" :=by decide)(hdb:(x==("__debug__" :Str))=false:=by decide)(he:S1 (e::es) X.env=(false,J7 e X.env)::S1 es X.env:=by rfl)(hpl:(U6 pos (S1 es X.env)).any (·.1)=false:=by rfl):JE X (.Call (.Name x p) (e::es) [] pos) (dCB r t):=⟨Ch (hc:=hc) (hg:=hg) (hm:=hm) (hv:=hv) (ha:=ha.to) (hn:=hn) (hdb:=hdb) (he:=he) (hpl:=hpl)⟩
end
section
variable {X:Cx}{iter elt:M9}{te:TED}{ti:TID}{tt:TTD}{pos spos:Pos}{scope:W9}{js:G0 G6}{ifs:G0 M9}
theorem Ae {i k:G6}{x y:Str}{p py:Pos}(hc:X.calm=true)(hN:X.N.Nodup)(hk:X.N[k]? =some y)(hy:Loc X.env.scope y)(S:BlockOk X scope js)(hi:JI X (.Name x p) iter ti)(hj:i∈js)(hx:X.N[i]? =some x)(hl:scope.names.lookup x=some .local\/scope.names.lookup x=some .cell)(ht: ∀X',jg X scope X'->PTs X' ifs (LT X'.K tt))(he: ∀X',jg X scope X'->JE X' elt te)(hsw:W5 (.ListComp elt [⟨.Name x p,iter,ifs,0⟩] scope pos) (some (.Name y py)) spos.line X.env=pure true:=by rfl)(hf:X.fn y=true\/X.env.scope.names.lookup y=some .local:=by first|exact .inl rfl|exact .inr rfl|assumption)(hs: ∀x,M5 iter X.env x=pure x:=by intro _;rfl):JS X (.Assign [.Name y py] (.ListComp elt [⟨.Name x p,iter,ifs,0⟩] scope pos) spos) (GD k (vU (bN i) js ti tt te)):=⟨OI (hc:=hc) (hN:=hN) (hk:=hk) (hy:=hy) (S:=S) (hi:=hi.to) (hj:=hj) (hx:=hx) (hl:=hl) (ht:=ht) (he:=λX' hX=>(he X' hX).to) (hsw:=hsw) (hf:=hf) (hs:=hs)⟩
theorem Cz {i j k:G6}{x1 x2 y:Str}{p1 p2 p3 py:Pos}{kk:G6}(hc:X.calm=true)(hN:X.N.Nodup)(hk:X.N[k]? =some y)(hy:Loc X.env.scope y)(S:BlockOk X scope js)(hi:JI X (.Tuple [.Name x1 p1,.Name x2 p2] kk p3) iter ti)(hj:i∈js)(hj2:j∈js)(hij:i≠j)(hx:X.N[i]? =some x1)(hx2:X.N[j]? =some x2)(hl:scope.names.lookup x1=some .local\/scope.names.lookup x1=some .cell)(hl2:scope.names.lookup x2=some .local\/scope.names.lookup x2=some .cell)(ht: ∀X',jg X scope X'->PTs X' ifs (LT X'.K tt))(he: ∀X',jg X scope X'->JE X' elt te)(hsw:W5 (.ListComp elt [⟨.Tuple [.Name x1 p1,.Name x2 p2] kk p3,iter,ifs,0⟩] scope pos) (some (.Name y py)) spos.line X.env=pure true:=by rfl)(hf:X.fn y=true\/X.env.scope.names.lookup y=some .local:=by first|exact .inl rfl|exact .inr rfl|assumption)(hs: ∀x,M5 iter X.env x=pure x:=by intro _;rfl):JS X (.Assign [.Name y py] (.ListComp elt [⟨.Tuple [.Name x1 p1,.Name x2 p2] kk p3,iter,ifs,0⟩] scope pos) spos) (GD k (vU (b2 i j) js ti tt te)):=⟨Ci (hc:=hc) (hN:=hN) (hk:=hk) (hy:=hy) (S:=S) (hi:=hi.to) (hj:=hj) (hj2:=hj2) (hij:=hij) (hx:=hx) (hx2:=hx2) (hl:=hl) (hl2:=hl2) (ht:=ht) (he:=λX' hX=>(he X' hX).to) (hsw:=hsw) (hf:=hf) (hs:=hs)⟩
end
section
variable {X:Cx}{iter iter' elt:M9}{te:TED}{ti ti':TID}{tt tt':TTD}{pos:Pos}{scope:W9}{js:G0 G6}{ifs ifs':G0 M9}
theorem Kh {i i':G6}{x y:Str}{p py:Pos}(hc:X.calm=true)(S:BlockOk X scope js)(hi:JI X (.Name x p) iter ti)(hj:i∈js)(hj':i'∈js)(hne:i≠i')(hN:X.N.Nodup)(hx:X.N[i]? =some x)(hy:X.N[i']? =some y)(hl:scope.names.lookup x=some .local\/scope.names.lookup x=some .cell)(hl':scope.names.lookup y=some .local\/scope.names.lookup y=some .cell)(ht: ∀X',jg X scope X'->PTs X' ifs (LT X'.K tt))(hi': ∀X',jg X scope X'->JI X' (.Name y py) iter' ti')(ht': ∀X',jg X scope X'->PTs X' ifs' (LT X'.K tt'))(he: ∀X',jg X scope X'->JE X' elt te)(hs: ∀x,M5 iter X.env x=pure x:=by intro _;rfl)(hs': ∀env x,M5 iter' env x=pure x:=by intro _ _;rfl):JE X (.ListComp elt [⟨.Name x p,iter,ifs,0⟩,⟨.Name y py,iter',ifs',0⟩] scope pos) (FV (bN i) js ti tt i' ti' tt' te):=⟨HX (hc:=hc) (S:=S) (hi:=hi.to) (hj:=hj) (hj':=hj') (hne:=hne) (hN:=hN) (hx:=hx) (hy:=hy) (hl:=hl) (hl':=hl') (ht:=ht) (hi':=λX' hX=>(hi' X' hX).to) (ht':=ht') (he:=λX' hX=>(he X' hX).to) (hs:=hs) (hs':=hs')⟩
end
section
variable {X:Cx}{a b e:M9}{ta tb te:TED}{pos p2:Pos}
theorem jix (ha:JE X a ta)(hb:JE X b tb)(hs:Wy b):JE X (.Subscript a b pos) (dOp ixD ta tb):=⟨qix (ha:=ha.to) (hb:=hb.to) (hs:=hs)⟩
end
theorem GZ {a:M9}{ta:TED}{T:V1}{t:Str}{p p2 pos:Pos}(hT:T∈ ["tuple","int","bool","list","str"])(hg:Gl X "isinstance")(hm:X.mg "isinstance" =none)(hg2:Gl X t)(hm2:X.mg t=none)(hv:U3 t=some (.type T))(ha:JE X a ta)(hn:t≠ "__name__" :=by decide)(hd:(t==("__debug__" :Str))=false:=by decide)(h1:S1 [a,.Name t p2] X.env=(false,J7 a X.env)::S1 [.Name t p2] X.env:=by rfl)(h2:(U6 pos (S1 [.Name t p2] X.env)).any (·.1)=false:=by rfl):JE X (.Call (.Name "isinstance" p) [a,.Name t p2] [] pos) (dIs T ta):=⟨Sx (hT:=hT) (hg:=hg) (hm:=hm) (hg2:=hg2) (hm2:=hm2) (hv:=hv) (ha:=ha.to) (hn:=hn) (hd:=hd) (h1:=h1) (h2:=h2)⟩
section
variable {X:Cx}{o e i:M9}{to te ti:TED}{apos cpos pos:Pos}
theorem Af (ho:JE X o to)(he:JE X e te)(hbase:cH o "append" X.env (J7 o X.env)=J7 o X.env:=by rfl)(hfew:((U6 cpos (S1 [e] X.env)).all (λx=> !x.1)&&(lU cpos (fU [] X.env)).all (λx=>x.1.isSome)&&decide ([e].length+([]:G0 dE).length+(if ([]:G0 dE).isEmpty then 0 else 1)<30))=true:=by rfl)(hline:(apos.endLine==cpos.line)=true:=by rfl)(hs:S1 [e] X.env=(false,J7 e X.env)::S1 [] X.env:=by rfl)(hplain:(U6 cpos (S1 [] X.env)).any (·.1)=false:=by rfl):JE X (.Call (.Attribute o "append" apos) [e] [] cpos) (TY to te):=⟨Ka (ho:=ho.to) (he:=he.to) (hbase:=hbase) (hfew:=hfew) (hline:=hline) (hs:=hs) (hplain:=hplain)⟩
theorem Xe (ho:JE X o to)(hi:JE X i ti)(ha: ∀v,dP (.Subscript o i pos) X.env v=(do
 let ov <-Y0 [v] (J7 o X.env)
 let iv <-Y0 [v,ov] (J7 i X.env)
 fB pos
 Y0 [v,ov,iv] (sR ov iv v)
 KB [v,ov,iv] []):=by intro _;rfl):JG X (.Subscript o i pos) (OR to ti):=⟨OS (ho:=ho.to) (hi:=hi.to) (ha:=ha)⟩
end
theorem jpt {e:M9}{t:TTD}(h:JW X e t):JT X e t:=⟨qpt (h:=h.to)⟩
theorem Pa:JO X none GO:=⟨Cp⟩
variable {te:TED}
theorem WK {e:M9}(he:JE X e te):JO X (some e) (OT te):=⟨Cq (he:=he.to)⟩
theorem Pb {e:M9}{lo hi:D2 M9}{tl th:TOD}{pos p2:Pos}(he:JE X e te)(hl:JO X lo tl)(hu:JO X hi th):JE X (.Subscript e (.Slice lo hi none p2) pos) (dSl te tl th):=⟨OU (he:=he.to) (hl:=hl.to) (hu:=hu.to)⟩
theorem Ki {a:M9}{ta:TED}{pos:Pos}(ha:JE X a ta):JE X (.UnaryOp .USub a pos) (dUn Ha ta):=⟨Kc (ha:=ha.to)⟩
theorem jX {tg e:M9}(he:JE X e te):JI X tg e (iS te):=⟨OY (he:=he.to)⟩
theorem Pc {st:Q2}:JS X st NB:=⟨OZ⟩
theorem jac {e:M9}{es:G0 M9}{t:TAD}(ha:JE X e te)(hr:JA X es t)(h:zf e=true:=by rfl):JA X (e::es) (zu te t):=⟨qac (ha:=ha.to) (hr:=hr.to) (h:=h)⟩
section
variable {X:Cx}{o e i:M9}{to te ti:TED}{apos cpos:Pos}
theorem Kj (ho:JE X o to)(hi:JE X i ti)(he:JE X e te)(hbase:cH o "insert" X.env (J7 o X.env)=J7 o X.env:=by rfl)(hfew:((U6 cpos (S1 [i,e] X.env)).all (λx=> !x.1)&&(lU cpos (fU [] X.env)).all (λx=>x.1.isSome)&&decide ([i,e].length+([]:G0 dE).length+(if ([]:G0 dE).isEmpty then 0 else 1)<30))=true:=by rfl)(hline:(apos.endLine==cpos.line)=true:=by rfl)(hs:S1 [i,e] X.env=(false,J7 i X.env)::S1 [e] X.env:=by rfl)(hs2:S1 [e] X.env=(false,J7 e X.env)::S1 [] X.env:=by rfl)(hplain:(U6 cpos (S1 [e] X.env)).any (·.1)=false:=by rfl):JE X (.Call (.Attribute o "insert" apos) [i,e] [] cpos) (Hb to ti te):=⟨Kd (ho:=ho.to) (hi:=hi.to) (he:=he.to) (hbase:=hbase) (hfew:=hfew) (hline:=hline) (hs:=hs) (hs2:=hs2) (hplain:=hplain)⟩
end
section
variable {P:T3}{w:B9}{K:G7}{mg:Str->D2 G1}{base:O6}
theorem Fun.okJ {x qual:Str}{st:Q2}{f:P3}{fd:C8}{N ps:G0 Str}{k:G6}{spd:RDn}(F:Fun K x qual st f fd)(S:FnScope N ps (je st))(len: ∀ds h Q,spd ds h Q->ds.length=ps.length)
 (tb:TSD)(hbody: ∀ (cdv:G1) (A:N6) (outer:G0 Env) (s:G3) (H:Hp) (E:XK),Room k (A.deeper (iZ qual (je st) s.heap.objs.size f cdv))->JSs (RG CX0 P w K mg base N qual (je st) f cdv A outer s H E).nox (zH st) tb)
 (read: ∀ds h Q,spd ds h Q->tb (RT Q) (wK N ds) h):FnOk P w K mg base CX0 (k+1) f fd ps (LSp K spd):=F.okD S len tb (λcdv A outer s H E hr=>(hbody cdv A outer s H E hr).to) read
end
def zO (r:G0 P2):D:= .tup (r.map D.int)
def jp (T:G0 (G0 P2)):D:= .tup (T.map zO)
def wf (n:G6)(r:G0 P2):Prop:=r.length=n/\ ∀x∈r,0<=x/\x<=1000000
def GoodTab (n:G6)(T:G0 (G0 P2)):Prop:=T.length=n/\ ∀r∈T,wf n r
structure Sq (n e:G6)(T:G0 (G0 P2)):Prop where
 len:T.length=n
 row: ∀r∈T,r.length=n
 nn: ∀r∈T,∀x∈r,0<=x
 bit: ∀r∈T,∀x∈r,x<2^e
variable {n:G6}{T:G0 (G0 P2)}
theorem GoodTab.sq (g:GoodTab n T):Sq n 20 T:=⟨g.1,λr hr=>(g.2 r hr).1,λr hr x hx=>((g.2 r hr).2 x hx).1,λr hr x hx=>pL ((g.2 r hr).2 x hx).2 (by decide)⟩
variable {e f:G6}
theorem Sq.mono (h:Sq n e T)(l:e<=f):Sq n f T:=⟨h.len,h.row,h.nn,λr hr x hx=>i9 (h.bit r hr x hx) (by
 have:(2:G6)^e<=2^f:=cV (by decide) l;have h2:((2^e:G6):P2)<=((2^f:G6):P2):=by exact_mod_cast this
 simpa using h2)⟩
def ent (T:G0 (G0 P2))(i j:G6):P2:=(T.getD i []).getD j 0
def mkT (n:G6)(f:G6->G6->P2):G0 (G0 P2):=(D4 n).map λi=>(D4 n).map λj=>f i j
theorem Zk {i j:G6}{f:G6->G6->P2}(hi:i<n)(hj:j<n):ent (mkT n f) i j=f i j:=by
 unfold ent mkT;simp [P7,hi,hj]
theorem jP {α:Type}(xs:G0 α)(d:α):xs=(D4 xs.length).map λi=>xs.getD i d:=by
 apply List.ext_getElem (by simp);intro i h1 h2;simp [P7,h1]
theorem Sq.eq_mk (h:Sq n e T):T=mkT n (ent T):=by
 have h1:=jP T [];rw [h.len] at h1;unfold mkT
 conv=>lhs;rw [h1]
 apply B8;intro i hi;have hi':i<T.length:=by rw [h.len];exact D0.mp hi
 have hr:(T.getD i []).length=n:=by
  rw [P7,G2 hi'];exact h.row _ (M7 hi')
 have h2:=jP (T.getD i []) 0;rw [hr] at h2;exact h2
theorem Ma {f g:G6->G6->P2}(h: ∀i j,i<n->j<n->f i j=g i j):mkT n f=mkT n g:=by
 unfold mkT;apply B8;intro i hi;apply B8;intro j hj;exact h i j (D0.mp hi) (D0.mp hj)
theorem Sq.of_mk {f:G6->G6->P2}(h0: ∀i j,i<n->j<n->0<=f i j)(h1: ∀i j,i<n->j<n->f i j<2^e):Sq n e (mkT n f):=by
 have key: ∀r∈mkT n f,∃i,i<n/\r=(D4 n).map λj=>f i j:=λr hr=>by
  obtain⟨i,hi,e⟩:=R6.mp hr;exact⟨i,D0.mp hi,e.symm⟩
 refine⟨by simp [mkT],λr hr=> ?_,λr hr x hx=> ?_,λr hr x hx=> ?_⟩
 ·obtain⟨i,_,e⟩:=key r hr;rw [e];simp
 ·obtain⟨i,hi,e⟩:=key r hr;rw [e] at hx;obtain⟨j,hj,e2⟩:=R6.mp hx;rw [<-e2];exact h0 i j hi (D0.mp hj)
 ·obtain⟨i,hi,e⟩:=key r hr;rw [e] at hx;obtain⟨j,hj,e2⟩:=R6.mp hx;rw [<-e2];exact h1 i j hi (D0.mp hj)
theorem Sq.ent_nn (h:Sq n e T){i j:G6}(hi:i<n)(hj:j<n):0<=ent T i j/\ent T i j<2^e:=by
 have hi':i<T.length:=by rw [h.len];exact hi
 have hr:T.getD i []=T[i]:=by rw [P7,G2 hi'];rfl
 have hm:T[i]∈T:=M7 hi';have hj':j<T[i].length:=by rw [h.row _ hm];exact hj
 have he:ent T i j=T[i][j]:=by unfold ent;rw [hr,P7,G2 hj'];rfl
 rw [he];exact⟨h.nn _ hm _ (M7 hj'),h.bit _ hm _ (M7 hj')⟩
variable {U:G0 (G0 P2)}
theorem Sq.ext (h:Sq n e T)(g:Sq n f U)(k: ∀i j,i<n->j<n->ent T i j=ent U i j):T=U:=by
 rw [h.eq_mk,g.eq_mk];exact Ma k
def jT (n:G6)(f:G6->P2):P2:=((D4 n).map f).sum
theorem wo (f:G6->P2):jT 0 f=0:=rfl
theorem jL (n:G6)(f:G6->P2):jT (n+1) f=jT n f+f n:=by
 unfold jT;rw [m7,T9,sE];simp
theorem zh {f g:G6->P2}(h: ∀k,k<n->f k=g k):jT n f=jT n g:=by
 unfold jT;congr 1;apply B8;intro k hk;exact h k (D0.mp hk)
theorem WL {f:G6->P2}(h: ∀k,k<n->0<=f k):0<=jT n f:=by
 induction n with
 |zero=>exact Int.le_refl _
 |succ n ih=>rw [jL];have:=ih λk hk=>h k (by omega);have:=h n (by omega);omega
theorem Mb {f:G6->P2}{b:P2}(h: ∀k,k<n->f k<=b):jT n f<=n*b:=by
 induction n with
 |zero=>simp [wo]
 |succ n ih=>
  rw [jL];have h1:=ih λk hk=>h k (by omega);have h2:=h n (by omega)
  have:((n+1:G6):P2)*b=(n:P2)*b+b:=by rw [sF,Int.add_mul];simp
  omega
theorem Pd (n:G6)(f g:G6->P2):jT n (λk=>f k+g k)=jT n f+jT n g:=by
 induction n with
 |zero=>rfl
 |succ n ih=>rw [jL,jL,jL,ih];omega
theorem Zl (n:G6)(c:P2)(f:G6->P2):jT n (λk=>c*f k)=c*jT n f:=by
 induction n with
 |zero=>simp [wo]
 |succ n ih=>rw [jL,jL,ih,Int.mul_add]
theorem Qj (n:G6)(c:P2)(f:G6->P2):jT n (λk=>f k*c)=jT n f*c:=by
 rw [qD,<-Zl];exact zh λk _=>qD _ _
theorem Qk (m n:G6)(f:G6->G6->P2):jT m (λi=>jT n (f i))=jT n (λj=>jT m λi=>f i j):=by
 induction m with
 |zero=>
  rw [wo]
  induction n with
  |zero=>rfl
  |succ n ih=>rw [jL,<-ih,wo];rfl
 |succ m ih=>
  rw [jL,ih,<-Pd];exact zh λj _=>(jL m λi=>f i j).symm
theorem YZ {f:G6->P2}{i:G6}(hi:i<n)(h: ∀k,k<n->k≠i->f k=0):jT n f=f i:=by
 induction n with
 |zero=>omega
 |succ n ih=>
  rw [jL]
  by_cases e:i=n
  ·subst e;have:jT i f=0:=by
    have:jT i f=jT i (λ_=>0*1):=zh λk hk=>by rw [h k (by omega) (by omega)];rfl
    rw [this,Zl];simp
   omega
  ·rw [ih (by omega) λk hk hne=>h k (by omega) hne,h n (by omega) (by omega)];omega
theorem Pe {f:G6->P2}(h: ∀k,k<n->0<=f k):0<jT n f↔ ∃k,k<n/\0<f k:=by
 induction n with
 |zero=>simp [wo]
 |succ n ih=>
  rw [jL];have h1:=WL λk (hk:k<n)=>h k (by omega)
  have h2:=h n (by omega);have ih':=ih λk hk=>h k (by omega)
  constructor
  ·intro z
   by_cases q:0<f n
   ·exact⟨n,by omega,q⟩
   ·obtain⟨k,a,b⟩:=ih'.mp (by omega);exact⟨k,by omega,b⟩
  ·rintro ⟨k,a,b⟩
   by_cases q:k=n
   ·subst q;omega
   ·have:=ih'.mpr ⟨k,by omega,b⟩;omega
def JK (n:G6)(T U:G0 (G0 P2)):G0 (G0 P2):=mkT n λi j=>jT n λk=>ent T i k*ent U k j
theorem Sq.mul (h:Sq n e T)(g:Sq n f U)(hn:n<=8):Sq n (e+f+3) (JK n T U):=by
 have nn: ∀i j,i<n->j<n-> ∀k,k<n->0<=ent T i k*ent U k j:=λi j hi hj k hk=>tQ (h.ent_nn hi hk).1 (g.ent_nn hk hj).1
 refine Sq.of_mk (λi j hi hj=>WL (nn i j hi hj)) λi j hi hj=> ?_
 have hle: ∀k,k<n->ent T i k*ent U k j<=2^e*2^f-1:=λk hk=>by
  have a:=h.ent_nn hi hk;have b:=g.ent_nn hk hj;have:ent T i k*ent U k j<2^e*2^f:=by
   have p:(0:P2)<2^f:=rS (by decide)
   calc ent T i k*ent U k j<=ent T i k*2^f:=Int.mul_le_mul_of_nonneg_left (xF b.2) a.1
    _<2^e*2^f:=Int.mul_lt_mul_of_pos_right a.2 p
  omega
 have s:=Mb hle;have p:(0:P2)<2^e*2^f:=xW (rS (by decide)) (rS (by decide));have e1:(2:P2)^(e+f+3)=8*(2^e*2^f):=by rw [xX,xX];rw [qD];rfl
 rw [e1];have hn':(n:P2)<=8:=by omega
 have:(n:P2)*(2^e*2^f-1)<=8*(2^e*2^f-1):=Int.mul_le_mul_of_nonneg_right hn' (by omega);omega
theorem yS {i j:G6}(hi:i<n)(hj:j<n):ent (JK n T U) i j=jT n λk=>ent T i k*ent U k j:=Zk hi hj
def Xf (n:G6):G0 (G0 P2):=mkT n λi j=>if i=j then 1 else 0
theorem Sq.one (n:G6):Sq n 1 (Xf n):=Sq.of_mk (f:=λi j=>if i=j then 1 else 0) (λi j _ _=>by split<;>decide) λi j _ _=>by split<;>decide
theorem mul_assoc {g:G6}{V:G0 (G0 P2)}(hT:Sq n e T)(hU:Sq n f U)(hV:Sq n g V)(hn:n<=8):JK n (JK n T U) V=JK n T (JK n U V):=by
 refine((hT.mul hU hn).mul hV hn).ext (hT.mul (hU.mul hV hn) hn) λi j hi hj=> ?_
 rw [yS hi hj,yS hi hj];have e1:(jT n λk=>ent (JK n T U) i k*ent V k j)=jT n λk=>jT n λl=>ent T i l*ent U l k*ent V k j:=
  zh λk hk=>by rw [yS hi hk,<-Qj]
 have e2:(jT n λl=>ent T i l*ent (JK n U V) l j)=jT n λl=>jT n λk=>ent T i l*(ent U l k*ent V k j):=
  zh λl hl=>by rw [yS hl hj,<-Zl]
 rw [e1,e2,Qk];exact zh λl _=>zh λk _=>Int.mul_assoc _ _ _
theorem Xg (hT:Sq n e T)(hn:n<=8):JK n (Xf n) T=T:=by
 refine((Sq.one n).mul hT hn).ext hT λi j hi hj=> ?_
 rw [yS hi hj,YZ hi λk hk hne=>by rw [Xf,Zk hi hk,R9 (E4 hne)];simp];rw [Xf,Zk hi hi,R8 rfl];simp
theorem Mc (hT:Sq n e T)(hn:n<=8):JK n T (Xf n)=T:=by
 refine(hT.mul (Sq.one n) hn).ext hT λi j hi hj=> ?_
 rw [yS hi hj,YZ hj λk hk hne=>by rw [Xf,Zk hk hj,R9 hne];simp];rw [Xf,Zk hj hj,R8 rfl];simp
def Ga (n:G6)(T:G0 (G0 P2)):G6->G0 (G0 P2)
 |0=>Xf n
 |k+1=>JK n (Ga n T k) T
theorem Sq.pow (hT:Sq n e T)(hn:n<=8): ∀k,Sq n (k*(e+3)+1) (Ga n T k)
 |0=>(Sq.one n).mono (by omega)
 |k+1=>((Sq.pow hT hn k).mul hT hn).mono (by rw [gD];omega)
def Md (n:G6)(T:G0 (G0 P2)):G0 (G0 P2):=mkT n λi j=>ent T j i
def yu (n:G6)(T:G0 (G0 P2)):G0 (G0 P2):=mkT n λi j=>if ent T i j=0 then 0 else 1
theorem Sq.turn (h:Sq n e T):Sq n e (Md n T):=Sq.of_mk (λi j hi hj=>(h.ent_nn hj hi).1) λi j hi hj=>(h.ent_nn hj hi).2
theorem Sq.mark (T:G0 (G0 P2)):Sq n 1 (yu n T):=Sq.of_mk (f:=λi j=>if ent T i j=0 then 0 else 1) (λi j _ _=>by split<;>decide) λi j _ _=>by split<;>decide
structure Ord (n:G6)(o:G0 G6):Prop where
 len:o.length=n
 all: ∀i,i<n->i∈o
def jF (T:G0 (G0 P2)):N0:=T.all λr=>r.all λx=>decide (x≠0)
theorem CA (n:G6)(f:G6->G6->P2):jF (mkT n f)=true↔ ∀i j,i<n->j<n->f i j≠0:=by
 unfold jF mkT;simp only [bZ,N3,D0,Q6,Z4];exact⟨λh i j hi hj=>h i hi j hj,λh i hi j hj=>h i j hi hj⟩
def MulOk (i j:P2):Prop:= ∃m n:G6,i.natAbs<2^m/\j.natAbs<2^n/\m+n<=134217728
theorem MulOk.ok {i j:P2}(h:MulOk i j):IntMulOk i j:=by
 obtain⟨m,n,a,b,c⟩:=h;exact .of_le (n9.mpr a) (n9.mpr b) c
theorem CB:OpR X (K8 .Mult) (rI MulOk λi j=> .int (i*j)):=opI λ_ _ _ _ _ _ _ hc q=>mul_int q hc.ok
def Kk:RD2:=λx y h Q=>match x,y with
 | .int i,.int j=>MulOk i j/\Q (.int (i*j)) h
 |_,_=>False
theorem Pf:OpQ X (K8 .Mult) Kk:=WB (gd:=λi j=> .int (i*j)) CB (λ_ _ _=>rfl) λx y h Q q=>by
 cases x<;>cases y<;>first|exact False.elim q|exact⟨_,_,rfl,rfl,q.1,q.2⟩
theorem Zm {x:P2}(h0:0<=x)(h1:x<2^e):x.natAbs<2^e:=by
 have:((2^e:G6):P2)=2^e:=by simp
 omega
theorem Xh {x y:P2}(hx:0<=x/\x<2^e)(hy:0<=y/\y<2^f)(h:e+f<=134217728):MulOk x y:=⟨e,f,Zm hx.1 hx.2,Zm hy.1 hy.2,h⟩
section
variable {α β:Type}{i i':G6}{js:G0 G6}{ti ti':TID}{te:TED}{σ:SD}{h:HD}{Q:KD}{j:ItD}
theorem lcA (xs:G0 α)(c g:α->D)(hz:xs.length<=1000)(hj:j h=some (xs.map c))(ht: ∀R:ItD->HD->Prop,R j h->ti σ h R)
 (he: ∀x∈xs,∀Q':KD,Q' (g x) h->te ((jW js σ).set i (some (c x))) h Q')(hq: ∀p,h p=none->Q (.lst p) (zB h p (xs.map g))):vU (bN i) js ti vp te σ h Q:=by
 refine ht _ ⟨xs.length,λk ys h'=>h'=h/\ys=(xs.take k).map g,⟨rfl,by simp⟩,?_⟩;rintro k ys h' ⟨rfl,rfl⟩;refine⟨by simp only [G5,T4];exact M0 (jY (by omega)),xs.map c,hj,by simp,λhl p hp=> ?_,λd hd=>⟨_,rfl,?_⟩⟩
 ·rw [M6 (by simpa using hl)];exact hq p hp
 ·unfold vp;dsimp only;rw [R8 rfl];rw [D3] at hd;cases hx:xs[k]? with
  |none=>rw [hx] at hd;cases hd
  |some x=>
   rw [hx] at hd;cases hd;refine he x (P8 hx) _ ⟨h',Sub.refl _,rfl,?_⟩;rw [F8,hx];simp
theorem lcF (xs:G0 α)(c g:α->D)(p:α->N0){tt:TTD}(hz:xs.length<=1000)(hj:j h=some (xs.map c))(ht: ∀R:ItD->HD->Prop,R j h->ti σ h R)
 (hp: ∀x∈xs,∀Q':N0->HD->Prop,Q' (p x) h->tt ((jW js σ).set i (some (c x))) h Q')(he: ∀x∈xs,p x=true-> ∀Q':KD,Q' (g x) h->te ((jW js σ).set i (some (c x))) h Q')(hq: ∀a,h a=none->Q (.lst a) (zB h a ((xs.filter p).map g))):vU (bN i) js ti tt te σ h Q:=by
 refine ht _ ⟨xs.length,λk ys h'=>h'=h/\ys=((xs.take k).filter p).map g,⟨rfl,by simp⟩,?_⟩;rintro k ys h' ⟨rfl,rfl⟩;refine⟨?_,xs.map c,hj,by simp,λhl a ha=> ?_,λd hd=>⟨_,rfl,?_⟩⟩
 ·have:=aR p (xs.take k);simp only [G5,T4] at this ⊢;exact M0 (jY (by omega))
 ·rw [M6 (by simpa using hl)];exact hq a ha
 ·rw [D3] at hd;cases hx:xs[k]? with
  |none=>rw [hx] at hd;cases hd
  |some x=>
   rw [hx] at hd;cases hd;refine hp x (P8 hx) _ ?_;cases hb:p x with
   |true=>
    rw [R8 rfl];refine he x (P8 hx) hb _ ⟨h',Sub.refl _,rfl,?_⟩;rw [F8,hx];simp [hb]
   |false=>
    rw [R9 D6];refine⟨h',Sub.refl _,rfl,?_⟩;rw [F8,hx];simp [hb]
theorem lcB (xs:G0 α)(c:α->D)(ys:α->G0 β)(c':β->D)(g:α->β->D)(hz:(xs.flatMap ys).length<=1000)(hj:j h=some (xs.map c))(ht: ∀R:ItD->HD->Prop,R j h->ti σ h R)
 (hin: ∀x∈xs,∀R:ItD->HD->Prop,R (λ_=>some ((ys x).map c')) h->ti' ((jW js σ).set i (some (c x))) h R)
 (he: ∀x∈xs,∀y∈ys x,∀Q':KD,Q' (g x y) h->te (((jW js σ).set i (some (c x))).set i' (some (c' y))) h Q')(hq: ∀p,h p=none->Q (.lst p) (zB h p (xs.flatMap λx=>(ys x).map (g x)))):FV (bN i) js ti vp i' ti' vp te σ h Q:=by
 have len: ∀l:G0 α,(l.flatMap λx=>(ys x).map (g x)).length=(l.flatMap ys).length:=λl=>by
  induction l with
  |nil=>rfl
  |cons x l ih=>simp [cO,ih]
 have lek: ∀k,((xs.take k).flatMap ys).length<=(xs.flatMap ys).length:=λk=>by
  conv=>rhs;rw [<-N4 k xs,dQ,P1]
  omega
 have lek1: ∀k x m,xs[k]? =some x->m<=(ys x).length->((xs.take k).flatMap ys).length+m<=(xs.flatMap ys).length:=λk x m hx hm=>by
  have:=lek (k+1);rw [F8,hx,dQ,P1] at this;simp at this;simp;omega
 refine ht _ ⟨xs.length,λk zs h'=>h'=h/\zs=(xs.take k).flatMap λx=>(ys x).map (g x),⟨rfl,by simp⟩,?_⟩;rintro k zs h' ⟨rfl,rfl⟩;refine⟨by rw [len];exact M0 (jY (S0 (lek k) hz)),xs.map c,hj,by simp,λhl p hp=> ?_,λd hd=>⟨_,rfl,?_⟩⟩
 ·rw [M6 (by simpa using hl)];exact hq p hp
 ·unfold vp;dsimp only;rw [R8 rfl];rw [D3] at hd;cases hx:xs[k]? with
  |none=>rw [hx] at hd;cases hd
  |some x=>
   rw [hx] at hd;cases hd;have xm:=P8 hx;refine hin x xm _ ⟨(ys x).length,λm zs h2=>h2=h'/\zs=((xs.take k).flatMap λx=>(ys x).map (g x))++((ys x).take m).map (g x),⟨rfl,by simp⟩,?_⟩;rintro m zs h2 ⟨rfl,rfl⟩;refine⟨?_,(ys x).map c',rfl,by simp,λhl=>⟨h2,Sub.refl _,rfl,?_⟩,λd hd=> ?_⟩
   ·rw [P1,len,G5,T4];have:=lek1 k x (min m (ys x).length) hx (dD _ _);exact M0 (jY (by omega))
   ·have hm:(ys x).take m=ys x:=M6 (by simpa using hl);rw [hm,F8,hx,dQ];simp
   ·rw [D3] at hd;cases hy:(ys x)[m]? with
    |none=>rw [hy] at hd;cases hd
    |some y=>
     rw [hy] at hd;cases hd
     first
      |rw [R8 rfl]
      |(dsimp only;rw [R8 rfl])
     refine he x xm y (P8 hy) _ ⟨h2,Sub.refl _,rfl,?_⟩;rw [F8,hy];simp
theorem Gb (xs:G0 α)(c g:α->D)(hz:xs.length<=1000)(hj:j h=some (xs.map c))(ht: ∀R:ItD->HD->Prop,R j h->ti σ h R)
 (he: ∀x∈xs,∀Q':KD,Q' (g x) h->te ((jW js σ).set i (some (c x))) h Q')(hq:Q (.tup (xs.map g)) h):dCB Xb (zu (vU (bN i) js ti vp te) Wf) σ h Q:=by
 show vU (bN i) js ti vp te σ h (λx h1=>Xb [x] h1 Q);exact lcA xs c g hz hj ht he λp hp=>(show ∃ys,zB h p (xs.map g) p=some ys/\Q (.tup ys) (YO (zB h p (xs.map g)) p) from ⟨_,jc,by rw [zR hp];exact hq⟩)
theorem He (xs:G0 α)(c:α->D)(g:α->P2)(hz:xs.length<=1000)(hj:j h=some (xs.map c))(ht: ∀R:ItD->HD->Prop,R j h->ti σ h R)
 (he: ∀x∈xs,∀Q':KD,Q' (.int (g x)) h->te ((jW js σ).set i (some (c x))) h Q')(hq:Q (.int (xs.map g).sum) h):dCB SB (zu (vU (bN i) js ti vp te) Wf) σ h Q:=by
 show vU (bN i) js ti vp te σ h (λx h1=>SB [x] h1 Q);exact lcA xs c (λx=> .int (g x)) hz hj ht he λp hp=>⟨p,xs.map g,rfl,by rw [jc,B6];rfl,by rw [zR hp];exact hq⟩
theorem Hf (xs:G0 α)(c:α->D)(g:α->N0)(hz:xs.length<=1000)(hj:j h=some (xs.map c))(ht: ∀R:ItD->HD->Prop,R j h->ti σ h R)
 (he: ∀x∈xs,∀Q':KD,Q' (.bl (g x)) h->te ((jW js σ).set i (some (c x))) h Q')(hq:Q (.bl (xs.all g)) h):dCB RW (zu (vU (bN i) js ti vp te) Wf) σ h Q:=by
 show vU (bN i) js ti vp te σ h (λx h1=>RW [x] h1 Q);exact lcA xs c (λx=> .bl (g x)) hz hj ht he λp hp=>⟨p,xs.map g,rfl,by rw [jc,B6];rfl,by rw [zR hp,bZ];exact hq⟩
theorem Kl (xs:G0 α)(c:α->D)(g:α->N0)(hz:xs.length<=1000)(hj:j h=some (xs.map c))(ht: ∀R:ItD->HD->Prop,R j h->ti σ h R)
 (he: ∀x∈xs,∀Q':KD,Q' (.bl (g x)) h->te ((jW js σ).set i (some (c x))) h Q')(hq:Q (.bl (xs.any g)) h):dCB Sy (zu (vU (bN i) js ti vp te) Wf) σ h Q:=by
 show vU (bN i) js ti vp te σ h (λx h1=>Sy [x] h1 Q);exact lcA xs c (λx=> .bl (g x)) hz hj ht he λp hp=>⟨p,xs.map g,rfl,by rw [jc,B6];rfl,by rw [zR hp,qA];exact hq⟩
theorem Km (xs:G0 α)(c:α->D)(ys:α->G0 β)(c':β->D)(g:α->β->N0)(hz:(xs.flatMap ys).length<=1000)(hj:j h=some (xs.map c))(ht: ∀R:ItD->HD->Prop,R j h->ti σ h R)
 (hin: ∀x∈xs,∀R:ItD->HD->Prop,R (λ_=>some ((ys x).map c')) h->ti' ((jW js σ).set i (some (c x))) h R)
 (he: ∀x∈xs,∀y∈ys x,∀Q':KD,Q' (.bl (g x y)) h->te (((jW js σ).set i (some (c x))).set i' (some (c' y))) h Q')(hq:Q (.bl (xs.all λx=>(ys x).all (g x))) h):dCB RW (zu (FV (bN i) js ti vp i' ti' vp te) Wf) σ h Q:=by
 show FV (bN i) js ti vp i' ti' vp te σ h (λx h1=>RW [x] h1 Q);refine lcB xs c ys c' (λx y=> .bl (g x y)) hz hj ht hin he λp hp=> ?_
 ·have e:(xs.flatMap λx=>(ys x).map λy=>D.bl (g x y))=(xs.flatMap λx=>(ys x).map (g x)).map D.bl:=by
   clear hz hj ht hin he hq
   induction xs with
   |nil=>rfl
   |cons x l ih=>simp [cO,ih,B6]
  refine⟨p,xs.flatMap λx=>(ys x).map (g x),rfl,by rw [jc,e],?_⟩;rw [zR hp];have e2:(xs.flatMap λx=>(ys x).map (g x)).all id=xs.all λx=>(ys x).all (g x):=by
   clear hz hj ht hin he hq e
   induction xs with
   |nil=>rfl
   |cons x l ih=>simp [cO,ih,bZ]
  rw [e2];exact hq
end
end L2
namespace L2
open PySem PySem.Spec PyProof.Rows PySem.SeqAt
def Xi (o:G0 G6):D:= .tup (o.map λ(k:G6)=>D.int (k:P2))
def Ordr (n:G6)(o:G0 G6):Prop:=o.Perm (D4 n)
variable {n:G6}
theorem Ordr.ord {o:G0 G6}(h:Ordr n o):Ord n o:=⟨by rw [h.length_eq,S6],λi hi=>h.mem_iff.mpr (D0.mpr hi)⟩
theorem Ordr.insert {o:G0 G6}(h:Ordr n o)(k:G6):Ordr (n+1) (o.take k++n::o.drop k):=by
 unfold Ordr;rw [m7];refine l9.trans ?_;rw [N4];exact(G0i n h).trans (List.perm_append_singleton n _).symm
theorem Va (h:HD): ∀ns:G0 P2,ToPs h (ns.map D.int) (ns.map j0)
 | []=>rfl
 |n::ns=>⟨_,_,rfl,rfl,Va h ns⟩
theorem yT: ∀ns:G0 P2,O0 (ns.map j0)=true
 | []=>rfl
 |n::ns=>by show (O4 (.int n)&&_)=true;rw [yT ns];rfl
theorem vZ: ∀ns:G0 P2,O2 (ns.map j0)<=1
 | []=>by simp [O2]
 |n::ns=>by
  have:=vZ ns;simp only [T5,O2,K5];omega
def yw (r:G0 P2):aG:= .tuple (r.map .int)
def Pg (T:G0 (G0 P2)):aG:= .tuple (T.map yw)
theorem Vb (h:HD): ∀T:G0 (G0 P2),ToPs h (T.map zO) (T.map yw)
 | []=>rfl
 |r::T=>⟨_,_,rfl,⟨_,rfl,Va h r⟩,Vb h T⟩
theorem CC (h:HD)(T:G0 (G0 P2)):ToP h (jp T) (Pg T):=⟨_,rfl,Vb h T⟩
theorem yU: ∀T:G0 (G0 P2),O0 (T.map yw)=true
 | []=>rfl
 |r::T=>by
  show (O4 (yw r)&&_)=true;rw [yU T];have:O4 (yw r)=true:=by unfold yw;simp only [O4];exact yT r
  rw [this];rfl
theorem yo: ∀T:G0 (G0 P2),O2 (T.map yw)<=3
 | []=>by simp [O2]
 |r::T=>by
  have:=yo T;have h2:=vZ r;simp only [T5,O2,K5,yw];omega
variable {e:G6}{T:G0 (G0 P2)}
theorem Ph (h:Sq n e T){i:G6}(hi:i<n):atI (T.map zO) (i:P2)=some (zO (T.getD i [])):=by
 have hi':i<T.length:=by rw [h.len];exact hi
 exact wT (by rw [D3,P7,G2 hi'];rfl)
theorem Sq.getRow (h:Sq n e T){i:G6}(hi:i<n):T.getD i []∈T:=by
 have hi':i<T.length:=by rw [h.len];exact hi
 rw [P7,G2 hi'];exact M7 hi'
theorem Zn {r:G0 P2}(h:r.length=n){j:G6}(hj:j<n):atI (r.map D.int) (j:P2)=some (.int (r.getD j 0)):=by
 have hj':j<r.length:=by rw [h];exact hj
 exact wT (by rw [D3,P7,G2 hj'];rfl)
theorem Ag (n:G6)(f:G6->G6->P2):D.tup ((D4 n).map λi=>D.tup ((D4 n).map λj=>D.int (f i j)))=jp (mkT n f):=by
 unfold jp zO mkT;rw [B6]
 congr 1
 apply B8;intro i _;simp [B6,gG]
theorem Pi (T:G0 (G0 P2))(f:P2->P2):D.tup (T.map λr=>D.tup (r.map λx=>D.int (f x)))=jp (T.map λr=>r.map f):=by
 unfold jp zO;rw [B6]
 congr 1
 apply B8;intro r _;simp [B6,gG]
theorem Pj (h:Sq n e T):yu n T=T.map λr=>r.map λx=>if x≠0 then 1 else 0:=by
 conv=>rhs;rw [h.eq_mk]
 unfold yu mkT;rw [B6];apply B8;intro i _;simp only [Q6,B6];apply B8;intro j _;simp only [Q6]
 by_cases z:ent T i j=0
 ·rw [R8 z,R9 (by simpa using z)]
 ·rw [R9 z,R8 z]
theorem Me (h:Sq n e T)(h6:n<=6):(T.flatMap λr=>r).length<=1000:=by
 have: ∀U:G0 (G0 P2),(∀r∈U,r.length=n)->(U.flatMap λr=>r).length=U.length*n:=λU=>by
  induction U with
  |nil=>intro _;simp
  |cons r U ih=>
   intro hU;rw [cO,P1,ih λr hr=>hU r (R1 _ hr),hU r P4,D9,gD];omega
 rw [this T h.row,h.len];have:=tR h6 h6;omega
theorem Xj {U:G0 (G0 P2)}(h:Sq n e T):(T.map λr=>D.tup ((D4 n).map λj=>D.int (jT n λm=>r.getD m 0*ent U m j)))=(JK n T U).map zO:=by
 conv=>lhs;rw [jP T [],h.len]
 unfold JK mkT;rw [B6,B6];apply B8;intro i _;simp only [Q6,zO,B6];rfl
theorem pow_add (h:Sq n e T)(hn:n<=8)(a:G6): ∀b,Ga n T (a+b)=JK n (Ga n T a) (Ga n T b)
 |0=>by rw [show Ga n T 0=Xf n from rfl,Mc (h.pow hn a) hn];rfl
 |b+1=>by
  show JK n (Ga n T (a+b)) T=JK n (Ga n T a) (JK n (Ga n T b) T);rw [pow_add h hn a b,mul_assoc (h.pow hn a) (h.pow hn b) h hn]
theorem CF (h:Sq n e T)(hn:n<=8):Ga n T 1=T:=Xg h hn
variable {i:G6}
theorem Mf {j:G6}(hi:i<n)(hj:j<n):ent (yu n T) i j=if ent T i j=0 then 0 else 1:=Zk hi hj
theorem vy {j:G6}(hi:i<n)(hj:j<n):ent (yu n T) i j=0↔ent T i j=0:=by
 rw [Mf hi hj]
 by_cases z:ent T i j=0
 ·rw [R8 z];simp [z]
 ·rw [R9 z];simp [z]
theorem zE {f j:G6}{U:G0 (G0 P2)}(h:Sq n e T)(g:Sq n f U)(hi:i<n)(hj:j<n):ent (JK n T U) i j≠0↔ ∃k,k<n/\ent T i k≠0/\ent U k j≠0:=by
 rw [yS hi hj];have nn: ∀k,k<n->0<=ent T i k*ent U k j:=λk hk=>tQ (h.ent_nn hi hk).1 (g.ent_nn hk hj).1
 have s:=WL nn;have p:=Pe nn;constructor
 ·intro z;obtain⟨k,hk,w⟩:=p.mp (by omega);refine⟨k,hk,λq=> ?_,λq=> ?_⟩
  ·rw [q] at w;simp at w
  ·rw [q] at w;simp at w
 ·rintro ⟨k,hk,a,b⟩ z;have c:=(h.ent_nn hi hk).1;have d:=(g.ent_nn hk hj).1;have:0<ent T i k*ent U k j:=xW (by omega) (by omega);have:=p.mpr ⟨k,hk,this⟩;omega
theorem WM (h:Sq n e T):jF T=true↔ ∀i j,i<n->j<n->ent T i j≠0:=by
 have h1:jF T=jF (mkT n (ent T)):=by rw [<-h.eq_mk]
 rw [h1,CA]
section
variable {prog:T3}{w:B9}{A:N6}{E:G1->G3->Prop}{s:G3}
theorem Zo {Q:g7->G3->Prop}(hh:A.handled=none)(hE: ∀h' e,(∀b o,s.heap.get? b=some o->h'.get? b=some o)->(∃o,h'.get? e=some o/\o.cls= .type "StopIteration")->E (.ref e) {s with heap:=h'}):R3 (R7 prog w) A gH Q E s:=by
 obtain⟨hp,g,d,tk,os⟩:=s;unfold gH
 wp_walk
 unfold raiseNew;refine wpAny_bind (wpAny_handled ?_);rw [hh];exact wpAny_bind (P0 (wpAny_throw (hE _ _ (λb o q=>G9 _ (G9 _ q)) ⟨_,S5 _ rfl,rfl⟩)))
end
section
variable {X:Cx}{pins:G0 (P3×Obj)}{σ:G0 (D2 V)}{H:Hp}{s:G3}{h':O6}
theorem Inv.turnL {t':G6}{ch:G0 P3}(I:Inv X pins σ H s)(k: ∀b o,b ∉ ch->s.heap.get? b=some o->h'.get? b=some o)(hc: ∀b∈ch,Ua X pins H b):Inv X pins σ H {s with heap:=h',toks:=t'}:=by
 refine I.step (g':=s.gens) (d':=s.drawn) (ch:=ch) (λb hb=>let ⟨_,f1,_,f3,f4,f5⟩:=hc b hb;⟨f3,f1,f4,f5⟩) (λb o _ _ nb e _=>k b o nb e) (λb o _ _ nb e _=>⟨o.slots,k b o nb e⟩) (λ_ _ _ _ n=>n)
  (λb o nb e=>⟨o,k b o nb e⟩) (λ_ _ e=>e) (λ_ _ _ e=>e) (λb ps e=>⟨#[],by rw [e];simp⟩) (λm hm=> ?_) (λb u e=> ?_) I.bare
 ·obtain⟨o,es,ep,ho,r⟩:=hm;exact⟨o,es,ep,k _ o (λz=>(hc _ z).2.1 rfl) ho,r⟩
 ·refine(I.hok b u e).stay (λc v hb q=>k c v (λz=> ?_) q) (λ_ q=>q) λ_ _ q=>q
  have f:=(hc c z).1;rcases hb with w|w
  ·rw [w,e] at f;cases f
  ·rw [w] at f;cases f
theorem Inv.turnLaid {t':G6}{ch:G0 P3}{a:P3}{o:HO}(I:Inv X pins σ H s)(k: ∀b u,b ∉ ch->s.heap.get? b=some u->h'.get? b=some u)(hc: ∀b∈ch,Ua X pins H b)(hp:s.heap.objs.size<=a)
 (new:ObjOk X.prog X.w (upd H a o) h' a o):Inv X pins σ (upd H a o) {s with heap:=h',toks:=t'}:=by
 have hn:=I.hok.fresh hp;refine I.step (g':=s.gens) (d':=s.drawn) (ch:=ch) (λb hb=>let ⟨_,f1,_,f3,f4,f5⟩:=hc b hb;⟨f3,f1,f4,f5⟩) (λb u _ _ nb e _=>k b u nb e) (λb u _ _ nb e _=>⟨u.slots,k b u nb e⟩)
  (λb u _ e n=>by rw [jj (M1 (N7 (R0 e) hp))];exact n) (λb u nb e=>⟨u,k b u nb e⟩) (λb xs q=>by rw [jj (jh q hn)];exact q) (λb u xs q=>by rw [jj (jh q hn)];exact q)
  (λb ps q=>⟨#[],by rw [jj (jh q hn),q];simp⟩) (λm hm=> ?_) (λb u e=> ?_) I.bare
 ·obtain⟨u,es,ep,ho,r⟩:=hm;exact⟨u,es,ep,k _ u (λz=>(hc _ z).2.1 rfl) ho,r⟩
 ·by_cases hb:b=a
  ·subst hb;rw [jt] at e;cases e;exact new
  ·rw [jj hb] at e;refine(I.hok b u e).stay (λc v hb q=>k c v (λz=> ?_) q) (λc q=>by rw [jj (jh q hn)];exact q) λc xs q=>by rw [jj (jh q hn)];exact q
   have f:=(hc c z).1;rcases hb with w|w
   ·rw [w,e] at f;cases f
   ·rw [w] at f;cases f
end
def Vc (ds:G0 D):G0 D:=ds.zipIdx.map λp=> .tup [.int (p.2:P2),p.1]
theorem WN {ds:G0 D}{d:D}(h:(Vc ds)[i]? =some d): ∃x,ds[i]? =some x/\d= .tup [.int (i:P2),x]:=by
 unfold Vc at h;rw [D3,List.getElem?_zipIdx] at h;cases q:ds[i]? with
 |none=>rw [q] at h;cases h
 |some x=>
  rw [q] at h;refine⟨x,rfl,?_⟩;have h':some (D.tup [.int ((0+i:G6):P2),x])=some d:=h;rw [A8] at h';exact(O9 h').symm
theorem yV (ds:G0 D):(Vc ds).length=ds.length:=by simp [Vc]
def Pk (c:TTD)(tb:TSD):TSD:=λD σ h=> ∃W:G6->SD->HD->Prop,(∃m,W m σ h)/\ ∀m σ' h',W m σ' h'->c σ' h' λb h1=>
 if b=true then tb {D with nx:=λσ2 h2=> ∃m' h3,m'<m/\Sub h3 h2/\W m' σ2 h3,ct:=λσ2 h2=> ∃m' h3,m'<m/\Sub h3 h2/\W m' σ2 h3,bk:=D.nx} σ' h1 else D.nx σ' h1
theorem Mg {K:G7}{c:TTD}{tb:TSD}: ∀D σ H,LS K (Pk c tb) D σ H->Nr (LT K c) (LS K tb) D σ H:=λD σ H ⟨σd,h,Dd,rs,rh,⟨W,⟨m0,w0⟩,turn⟩,nx,rt,bk,ct⟩=>by
 refine⟨λm σ' H'=>Kept H H'/\ ∃σd' h',RelS K H' σd' σ'/\RelH K h' H'/\W m σd' h',⟨m0,.refl _,σd,h,rs,rh,w0⟩,?_⟩;rintro m σ' H' ⟨kp,σd',h',rs',rh',w⟩;refine LT.bind rs' rh' (turn m σd' h' w) λb h1 H1 k1 rs1 rh1 q1=> ?_
 cases b with
 |false=>
  rw [R9 D6] at q1 ⊢;exact nx _ _ _ _ (kp.trans k1) rs1 rh1 q1
 |true=>
  rw [R8 rfl] at q1 ⊢;have kk:Kept H H1:=kp.trans k1;refine⟨λσ2 H2=>Kept H H2/\ ∃m',m'<m/\ ∃σd2 h2,RelS K H2 σd2 σ2/\RelH K h2 H2/\W m' σd2 h2,λσ2 H2 ⟨k2,m',hm,a,b,c,d,e⟩=>⟨m',hm,k2,a,b,c,d,e⟩,?_⟩;exact⟨σd',h1,_,rs1,rh1,q1,λa b c d k4 rs4 rh4 ⟨m',h4,hm,sb,w4⟩=>⟨kk.trans k4,m',hm,a,h4,rs4,rh4.sub sb,w4⟩,jI rt kk,λa b c d k4 rs4 rh4 q4=>nx a b c d (kk.trans k4) rs4 rh4 q4,λa b c d k4 rs4 rh4 ⟨m',h4,hm,sb,w4⟩=>⟨kk.trans k4,m',hm,a,h4,rs4,rh4.sub sb,w4⟩⟩
section
variable {X:Cx}{pos:Pos}
theorem Pl {c:M9}{body:G0 Q2}{tc:TTD}{tb:TSD}(hp:oQ (R7 X.prog X.w) X.A X.env X.xe)(hc:JT X c tc)(hb:JSs X body tb):JS X (.While c body [] pos) (Pk tc tb):=⟨(RB hp hc.to hb.to).imp Mg⟩
end
theorem WO {c:TTD}{tb:TSD}{E:EndsD}{σ:SD}{h:HD}(W:G6->SD->HD->Prop)(m:G6)(w0:W m σ h)
 (turn: ∀m σ' h',W m σ' h'->c σ' h' λb h1=>if b=true then tb {E with nx:=λσ2 h2=> ∃m' h3,m'<m/\Sub h3 h2/\W m' σ2 h3,ct:=λσ2 h2=> ∃m' h3,m'<m/\Sub h3 h2/\W m' σ2 h3,bk:=E.nx} σ' h1 else E.nx σ' h1):Pk c tb E σ h:=⟨W,⟨m,w0⟩,turn⟩
section
variable {prog:T3}{w:B9}{A:N6}{E:G1->G3->Prop}{s:G3}{z TI TO i1 i2:P3}
theorem Ui {T newId initId:V1}{pos:G0 G1}{kw:G0 (Str×G1)}{Made:G1->G3->Prop}{Q:G1->G3->Prop}(ft:TypeCalled T newId initId)(fits:uR T ⟨pos,kw⟩=pure ())
 (made:R3 (R7 prog w) A.in1 (call (.builtin newId) (.type T::pos) kw) Made E s)
 (begun: ∀o s₁,Made o s₁->s₁.TypeIs o T/\R3 (R7 prog w) A.in1 (qE o "__init__" pos kw) (λr s₂=>r=some .none/\Q o s₂) E s₁):
 R3 (R7 prog w) A (call (.type T) pos kw) Q E s:=by
 have f1:=ft.notType;have f2:=ft.canCreate;have f3:=ft.made;have f4:=ft.sub;obtain⟨_,_,f5⟩:=ft.mro;have first:=λ{Q':G1->G3->Prop} (k: ∀o s₁,Made o s₁->Q' o s₁)=>T7 (E':=E) made k λ_ _ z=>z
 refine pJ (m5 (P0 ⟨Code.quiet_builtin _ (by decide +kernel),aC F.entry_type_call ?_⟩));rw [Around.under_plain (weight_type_call_type T pos kw) (units_type_call_type T pos kw)]
 wp_walk using first
 intro o s₁ m;obtain⟨ty,then_⟩:=begun o s₁ m;refine wpAny_bind (dG (b:=true) ty f4 (wpAny_bind (O1 (T7 then_ (λr s₂ q=> ?_) λ_ _ z=>z))));obtain⟨rfl,q⟩:=q;exact P0 q
end
def inE (neg:N0):RD2:=λx y h Q=> ∃ (p:aG) (ps:G0 aG),ToP h x p/\(ToP h y (.list ps)\/ToP h y (.tuple ps))/\p.canLay0=true/\O0 ps=true/\p.depth<=60/\Q (.bl (neg !=ps.any λz=>aB z p)) h
section
variable {X:Cx}
theorem Mh (hu:X.A.units+64<cLine):OpQ X (L0 .NotIn) (inE true):=by
 intro pins s σ H x y v u Q I rx ry h;obtain⟨dx,dy,h,Qd,r1,r2,rh,⟨p,ps,t1,t2,c1,c2,c3,qq⟩,post⟩:=h;obtain⟨as,a1⟩:=wx I rh t1 r1 rx;have hu':X.A.units+1+min (O2 ps) p.depth<cLine:=by have:=dD (O2 ps) p.depth;omega
 have q':Qd (.bl (!ps.any λz=>aB z p)) h:=by simpa using qq
 rcases t2 with t2|t2
 ·obtain⟨bs,b1⟩:=wx I rh t2 r2 ry;exact notIn_list_reads b1 a1 c2 c1 hu' ⟨.bl _,H,I,rfl,post (.bl _) _ _ _ (.refl H) rh rfl q'⟩
 ·obtain⟨bs,b1⟩:=wx I rh t2 r2 ry;exact notIn_tuple_reads b1 a1 c2 c1 hu' ⟨.bl _,H,I,rfl,post (.bl _) _ _ _ (.refl H) rh rfl q'⟩
end
def Hg (i:G6)(f:P2->P2->P2)(te:TED):TSD:=λD σ h=> ∃x:P2,σ[i]? =some (some (.int x))/\te σ h λy h1=> ∃j:P2,y= .int j/\D.nx (σ.set i (some (.int (f x j)))) h1
theorem Ah {K:G7}{f:P2->P2->P2}{te:TED}: ∀D σ H,LS K (Hg i f te) D σ H->TB i (LE K te) (ipI f) D σ H:=λD σ H ⟨σd,h,Dd,rs,rh,⟨x,hx,q⟩,nx,rt,bk,ct⟩=>by
 obtain⟨v,e1,r1⟩:=rs.2 i _ hx;cases (show v= .int x from r1);exact⟨_,e1,LE.bind rs rh q λd u h1 H1 k1 rs1 rh1 r1 ⟨j,e,q1⟩=>by
  subst e;cases (show u= .int j from r1);exact⟨x,j,rfl,rfl,nx _ _ _ _ k1 (rs1.set (d:= .int (f x j)) rfl i) rh1 q1⟩⟩
section
variable {X:Cx}{i:G6}{x:Str}{e:M9}{te:TED}{pos pos':Pos}
theorem CG (hN:X.N.Nodup)(hi:X.N[i]? =some x)(hx:Loc X.env.scope x)(he:JE X e te)(hf:X.fn x=true\/X.env.scope.names.lookup x=some .local:=by first|exact .inl rfl|exact .inr rfl|assumption):JS X (.AugAssign (.Name x pos') .Add e pos) (Hg i (λa b=>a+b) te):=⟨(LB hN hi hx he.to LD hf).imp Ah⟩
end
end L2
namespace L2
open PySem PySem.Spec PyProof.Rows
section
variable {prog:T3}{w:B9}{A:N6}{E:G1->G3->Prop}{s:G3}
theorem vz: ∀ {vs:G0 G1} {ns:G0 P2},iO vs ns-> ∀ {i:G6} {v:G1},vs[i]? =some v-> ∃t,v= .int (ns.getD i 0) t/\i<ns.length
 |_,_,.nil,_,_,hv=>by simp at hv
 |_,_,.cons _ t _,0,_,hv=>⟨t,by simpa using hv.symm,by simp⟩
 |_,_,.cons _ _ r,i+1,_,hv=>by
  obtain⟨t,e,lt⟩:=vz r (i:=i) (by simpa using hv);exact⟨t,by simpa using e,by simpa using lt⟩
theorem Vd {l:P3}{o:Obj}(here:l<s.heap.objs.size): ∀b∈ [s.heap.objs.size,l],b<(s.heap.push o).objs.size:=λb hb=>by
 rw [cU];simp only [R5,C9,or_false] at hb;rcases hb with e|e<;>subst e
 ·exact J0 _
 ·exact cN here
theorem Ve {o:Obj}{h':O6}(k: ∀b u,b ∉ [s.heap.objs.size]->(s.heap.push o).get? b=some u->h'.get? b=some u): ∀b u,s.heap.get? b=some u->h'.get? b=some u:=λb u e=>
 k b u (λm=>absurd (R0 e) (by rw [G8.mp m];exact B7 _)) (G9 _ e)
end
section
variable {X:Cx}
theorem Pm (hc:X.calm=true):CallR X (.builtin "min") (λxs H Q=> ∃ (a:P3) (ns:G0 P2),xs= [.ref a]/\ns≠ []/\(SqL X.K H a (ns.map V.int)\/SqT X.K H a (ns.map V.int))/\ ∀m∈ns,(∀x∈ns,m<=x)->Q (.int m) H):=by
 intro pins s σ H xs us Q I r h;obtain⟨a,ns,rfl,hne,hS,q⟩:=h;obtain⟨u,rfl,ru⟩:=JY r;cases ru;have fin: ∀ {its:G0 G1} (hi:iO its ns) (v:G1) (h':O6) (tk:G6),its.toArray[argBest (λi j=>decide (ns.getD i 0<ns.getD j 0)) (its.toArray.size-1)]? =some v->(∀b o,s.heap.get? b=some o->h'.get? b=some o)->EP X pins σ Q v {s with heap:=h',toks:=tk}:=λ{its} hi v h' tk hv kept=>by
  obtain⟨t,rfl,lt⟩:=vz hi (show its[_]? =some v by simpa using hv);refine⟨.int _,H,I.kept kept,⟨t,rfl⟩,q _ (getD_mem lt) λx hx=> ?_⟩;obtain⟨j,hj,rfl⟩:=mem_getD hx;exact(argBest_lt (λi=>ns.getD i 0) (its.toArray.size-1)).2 j (by rw [R4,hi.length];omega)
 refine call_min_walk ?_;rcases hS with hS|hS
 ·obtain⟨its,rv,pl,_⟩:=I.list hS;have hi:=YX rv;obtain⟨o,e,r⟩:=id pl.isList;have W:=mO (prog:=X.prog) (w:=X.w) (A:=X.A.in1) (I.ok.hd hc) s.heap.objs.size a (M1 (R0 e)) its.toArray;exact Z0 pl.isList ⟨_,_,_,_,_,_,_,rfl,W,⟨⟨_,S5 _ rfl,rfl,rfl⟩,⟨o,G9 _ e,r⟩⟩,Vd (R0 e),by rw [R4,hi.length];exact dR.mpr hne,CmpOf.ints_lt (λi=>ns.getD i 0) (λi v hv=>(vz hi (by simpa using hv)).imp λ_ z=>z.1),λv h' tk hv k=>fin hi v h' tk hv (Ve k)⟩
 ·obtain⟨its,rv,pl,_⟩:=I.tuple hS;have hi:=YX rv;obtain⟨o,e,r⟩:=id pl;have W:=xY (prog:=X.prog) (w:=X.w) (A:=X.A.in1) (I.ok.hd hc) s.heap.objs.size a (M1 (R0 e)) its.toArray;exact i7 (show s.heap.IsTuple a its.toArray from pl) ⟨_,_,_,_,_,_,_,rfl,W,⟨⟨_,S5 _ rfl,rfl,rfl⟩,⟨o,G9 _ e,r⟩⟩,Vd (R0 e),by rw [R4,hi.length];exact dR.mpr hne,CmpOf.ints_lt (λi=>ns.getD i 0) (λi v hv=>(vz hi (by simpa using hv)).imp λ_ z=>z.1),λv h' tk hv k=>fin hi v h' tk hv (Ve k)⟩
def Ai (B:G0 P2->P2->Prop):RDn:=λds h Q=> ∃ (ns:G0 P2) (h':HD),ns≠ []/\Sub h' h/\(ds= [.tup (ns.map D.int)]\/ ∃a,ds= [.lst a]/\h a=some (ns.map D.int))/\ ∀m∈ns,B ns m->Q (.int m) h'
abbrev Eu:RDn:=Ai λns m=> ∀x∈ns,m<=x
theorem Mi {B:G0 P2->P2->Prop}{f:G1}(c:CallR X f (λxs H Q=> ∃ (a:P3) (ns:G0 P2),xs= [.ref a]/\ns≠ []/\(SqL X.K H a (ns.map V.int)\/SqT X.K H a (ns.map V.int))/\ ∀m∈ns,B ns m->Q (.int m) H)):yt X f (Ai B):=
 c.imp λxs H Q ⟨ds,h,Qd,r,rh,⟨ns,h',hne,hs,e,q⟩,p⟩=>by
  rcases e with e|⟨a,e,ha⟩
  ·subst e;obtain⟨v,e,r1⟩:=jG r;obtain⟨a,vs,e1,hH,r2⟩:=(show ∃a vs,v= .ref a/\H a=some (.tup vs)/\RelDs X.K H (ns.map D.int) vs from r1);rw [zm r2] at hH;subst e e1;exact⟨a,ns,rfl,hne,.inr (SqT.of hH),λm m1 m2=>p (.int m) _ _ _ (.refl H) (rh.sub hs) rfl (q m m1 m2)⟩
  ·subst e;obtain⟨v,e,r1⟩:=jG r;obtain⟨vs,hH,r2⟩:=rh a _ ha;have e1:v= .ref a:=r1.1;rw [zm r2] at hH;subst e e1;exact⟨a,ns,rfl,hne,.inl (SqL.of hH),λm m1 m2=>p (.int m) _ _ _ (.refl H) (rh.sub hs) rfl (q m m1 m2)⟩
theorem Po (hc:X.calm=true):yt X (.builtin "min") Eu:=Mi (Pm hc)
end
structure ShowOk (p:aG):Prop where
 sh:p.showable=true
 dp:p.depth<=60
 ln:p.shown.length<=sizeLine
mutual
theorem Wh {h:HD}: ∀ {p:aG} {d:D},ToP h d p->p.hasDict=false
 | .none,_,_=>rfl
 | .bool _,_,_=>rfl
 | .int _,_,_=>rfl
 | .str _,_,_=>rfl
 | .tuple ps,d,t=>by
  obtain⟨ds,_,ts⟩:=(show ∃ds,d= .tup ds/\ToPs h ds ps from t);simpa only [tS] using noDict_ToPs ts
 | .list ps,d,t=>by
  obtain⟨a,ds,_,_,ts⟩:=(show ∃a ds,d= .lst a/\h a=some ds/\ToPs h ds ps from t);simpa only [tS] using noDict_ToPs ts
 | .dict _,_,t=>(show False from t).elim
theorem noDict_ToPs {h:HD}: ∀ {ps:G0 aG} {ds:G0 D},ToPs h ds ps->qF ps=false
 | [],_,_=>rfl
 |p::ps,ds,t=>by
  obtain⟨d,r,_,t1,t2⟩:=(show ∃d r,ds=d::r/\ToP h d p/\ToPs h r ps from t);simp only [qF,Wh t1,noDict_ToPs t2,Bool.or_self]
end
def SJ:RDn:=λds h Q=> ∃d p,ds= [d]/\ToP h d p/\ShowOk p/\Q (.str p.shown) h
theorem Xk {X:Cx}{k:G6}(hr:Room k X.A):yt X (.builtin "repr") SJ:=by
 intro pins s σ H xs us Q I r h;obtain⟨ds,h,Qd,rs,rh,⟨d,p,e,t,so,q⟩,post⟩:=h;subst e;obtain⟨v,e,r1⟩:=jG rs;subst e;obtain⟨u,rfl,ru⟩:=JY r;have fin: ∀t',EP X pins σ Q (.str p.shown t') {s with toks:=s.toks+1}:=λt'=>⟨.str p.shown,H,I.tok _,⟨_,rfl⟩,post (.str _) _ _ _ (.refl H) rh rfl q⟩
 have fin0: ∀t',EP X pins σ Q (.str p.shown t') s:=λt'=>⟨.str p.shown,H,I,⟨_,rfl⟩,post (.str _) _ _ _ (.refl H) rh rfl q⟩
 have big: ∀a,u= .ref a->R3 (R7 X.prog X.w) X.A (call (.builtin "repr") [.ref a]) (EP X pins σ Q) X.xe s:=λa e=>by
  obtain⟨as,rd⟩:=wx I rh t r1 ru;subst e;exact repr_of_reads' rd so.sh (PyData.noDict_hsm (Wh t)) hr.gd (by have:=hr.units;have:=so.dp;omega) (λ_ _ e=>e)
   (λh' u' tk hk=>⟨.str p.shown,H,I.kept hk,⟨_,rfl⟩,post (.str _) _ _ _ (.refl H) rh rfl q⟩) so.ln
 cases p with
 |none=>
  cases (show d= .non from t);cases (show v= .non from r1);cases (show u= .none from ru);exact PySem.P.repr_of_none (fin _)
 |bool b=>
  cases (show d= .bl b from t);cases (show v= .bl b from r1);cases (show u= .bool b from ru);exact PySem.P.repr_of_bool (fin _)
 |int i=>
  cases (show d= .int i from t);cases (show v= .int i from r1);obtain⟨k,rfl⟩:=(show ∃t,u=iR i t from ru);exact PySem.P.repr_of_int (by simpa [sG] using so.sh) (fin _)
 |str x=>
  cases (show d= .str x from t);cases (show v= .str x from r1);obtain⟨k,rfl⟩:=(show ∃t,u=oP x t from ru);exact PySem.P.repr_of_str (fin _) so.ln
 |tuple ps=>
  obtain⟨ds,e,ts⟩:=(show ∃ds,d= .tup ds/\ToPs h ds ps from t);subst e;obtain⟨a,vs,e,hH,rs⟩:=(show ∃a vs,v= .ref a/\H a=some (.tup vs)/\RelDs X.K H ds vs from r1);subst e;cases (show u= .ref a from ru);exact big a rfl
 |list ps=>
  obtain⟨a,ds,e,ha,ts⟩:=(show ∃a ds,d= .lst a/\h a=some ds/\ToPs h ds ps from t);subst e;have e:v= .ref a:=r1.1;subst e;cases (show u= .ref a from ru);exact big a rfl
 |dict _=>exact(show False from t).elim
theorem Ql {i:P2}(h:i.natAbs.log2<1920):ShowOk (.int i):=⟨by simpa [sG] using h,by simp [K5],int_text_fits h⟩
theorem Pp {x:P2}{e:G6}(h0:0<=x)(h1:x<2^e)(he:e<=1919):x.natAbs.log2<1920:=by
 have h2:x.natAbs<2^e:=Zm h0 h1
 by_cases z:x.natAbs=0
 ·rw [z];decide
 ·have h3:=Nat.log2_lt z |>.mpr (N7 h2 (cV (by decide) (show e<=1920 by omega)));exact h3
def NF:RDn:=λds h Q=> ∃x y p,ds= [x,y]/\ToP h x p/\ToP h y p/\ShowOk p/\Q (.bl true) h
theorem CH {r:G0 P2}{h:HD}{Q:KD}(hne:r≠ [])(q: ∀m∈r,(∀x∈r,m<=x)->Q (.int m) h):Eu [zO r] h Q:=⟨r,h,hne,Sub.refl h,.inl rfl,q⟩
def Ju (r:G0 P2):P2:=(r.min?).getD 0
theorem Pq {r:G0 P2}{m:P2}(h:m∈r)(l: ∀x∈r,m<=x):m=Ju r:=by
 unfold Ju;rw [nE.mpr ⟨h,l⟩];rfl
theorem Wi {r:G0 P2}(h:r≠ []):Ju r∈r/\ ∀x∈r,Ju r<=x:=by
 cases e:r.min? with
 |none=>exact absurd (List.min?_eq_none_iff.mp e) h
 |some m=>
  have:=nE.mp e;unfold Ju;rw [e];exact this
theorem WP {n e:G6}{T:G0 (G0 P2)}(h:Sq n e T)(ne: ∀r∈T,r≠ []){m:P2}(m1:m∈T.map Ju)(m2: ∀x∈T.map Ju,m<=x):decide (m>0)=jF T:=by
 rw [Z7,Z4];unfold jF;simp only [N3,Z4];constructor
 ·intro hm r hr x hx;have a:=m2 _ (R6.mpr ⟨r,hr,rfl⟩);have b:=(Wi (ne r hr)).2 x hx;omega
 ·intro z;obtain⟨r,hr,rfl⟩:=R6.mp m1;have a:=(Wi (ne r hr)).1;have b:=z r hr _ a;have c:=h.nn r hr _ a;omega
section
variable {α β:Type}{i i':G6}{js:G0 G6}{ti ti':TID}{te:TED}{σ:SD}{h:HD}{Q:KD}{j:ItD}
theorem Kn (xs:G0 α)(c:α->D)(g:α->P2)(hz:xs.length<=1000)(hj:j h=some (xs.map c))(ht: ∀R:ItD->HD->Prop,R j h->ti σ h R)
 (he: ∀x∈xs,∀Q':KD,Q' (.int (g x)) h->te ((jW js σ).set i (some (c x))) h Q')(hne:xs≠ [])(hq: ∀m∈xs.map g,(∀x∈xs.map g,m<=x)->Q (.int m) h):dCB Eu (zu (vU (bN i) js ti vp te) Wf) σ h Q:=by
 show vU (bN i) js ti vp te σ h (λx h1=>Eu [x] h1 Q);exact lcA xs c (λx=> .int (g x)) hz hj ht he λp hp=>⟨xs.map g,h,λz=>hne (List.map_eq_nil_iff.mp z),Sub.newAt (Sub.refl h) hp,.inr ⟨p,rfl,by rw [jc,B6];rfl⟩,hq⟩
end
end L2
namespace L2
open PySem PySem.Spec PyProof.Rows PySem.SeqAt
section
variable {α:Type}{i i':G6}{js:G0 G6}{ti:TID}{te:TED}{σ:SD}{h:HD}{Q:KD}{j:ItD}
theorem Hh (xs:G0 α)(c c' g:α->D)(hz:xs.length<=1000)(hj:j h=some (xs.map λx=> .tup [c x,c' x]))(ht: ∀R:ItD->HD->Prop,R j h->ti σ h R)
 (he: ∀x∈xs,∀Q':KD,Q' (g x) h->te (((jW js σ).set i (some (c x))).set i' (some (c' x))) h Q')(hq: ∀p,h p=none->Q (.lst p) (zB h p (xs.map g))):vU (b2 i i') js ti vp te σ h Q:=by
 refine ht _ ⟨xs.length,λk ys h'=>h'=h/\ys=(xs.take k).map g,⟨rfl,by simp⟩,?_⟩;rintro k ys h' ⟨rfl,rfl⟩;refine⟨by simp only [G5,T4];exact M0 (jY (by omega)),_,hj,by simp,λhl p hp=> ?_,λd hd=> ?_⟩
 ·rw [M6 (by simpa using hl)];exact hq p hp
 ·rw [D3] at hd;cases hx:xs[k]? with
  |none=>rw [hx] at hd;cases hd
  |some x=>
   rw [hx] at hd;cases hd;refine⟨_,⟨_,_,rfl,rfl⟩,?_⟩;unfold vp;dsimp only;rw [R8 rfl];refine he x (P8 hx) _ ⟨h',Sub.refl _,rfl,?_⟩;rw [F8,hx];simp
end
def IsS (n:G6)(S:G0 G6):Prop:= ∃p:G6->N0,S=(D4 n).filter p
theorem vA {α:Type}[DecidableEq α]: ∀ {l m:G0 α},l.Nodup->(∀x∈l,x∈m)->l.length<=m.length
 | [],_,_,_=>N9 _
 |a::l,m,nd,h=>by
  have hm:=h a P4;have h2:l.length<=(m.erase a).length:=vA (E8.mp nd).2 λx hx=>by
   have hxa:x≠a:=λe=>(E8.mp nd).1 (e ▸ hx)
   exact(cW hxa).mpr (h x (R1 _ hx))
  rw [bL hm] at h2;have:=b8 hm;simp only [D9];omega
theorem Wj (r:G0 P2):(yw r).canLay0=true:=by unfold yw;simp only [O4];exact yT r
theorem Pr (r:G0 P2):(yw r).depth<=2:=by unfold yw;simp only [K5];have:=vZ r;omega
theorem Wk: ∀a b:G0 P2,K0 (a.map j0) (b.map j0)=decide (a=b)
 | [],[]=>by simp [K0]
 | [],_::_=>by simp [K0]
 |_::_,[]=>by simp [K0]
 |x::a,y::b=>by
  show ((x==y)&&K0 (a.map .int) (b.map .int))=_;rw [Wk a b,Z7];simp
theorem CI (a b:G0 P2):aB (yw a) (yw b)=decide (a=b):=Wk a b
theorem CJ {α:Type}(xs:G0 α):WF xs (some 1) none=xs.drop 1:=by
 unfold WF;cases xs with
 |nil=>simp
 |cons x xs=>simp [HT.sIx]
structure Enc {α:Type}[DecidableEq α](e:α->D)(p:α->aG):Prop where
 to: ∀ (h:HD) a,ToP h (e a) (p a)
 lay: ∀a,(p a).canLay0=true
 dp: ∀a,(p a).depth<=60
 eq: ∀a b,aB (p a) (p b)=decide (a=b)
section
variable {α:Type}[DecidableEq α]{e:α->D}{p:α->aG}
theorem Enc.tos (E:Enc e p)(h:HD): ∀as:G0 α,ToPs h (as.map e) (as.map p)
 | []=>rfl
 |a::as=>⟨_,_,rfl,E.to h a,E.tos h as⟩
theorem Enc.lays (E:Enc e p): ∀as:G0 α,O0 (as.map p)=true
 | []=>rfl
 |a::as=>by show (O4 (p a)&&_)=true;rw [E.lays as,E.lay a];rfl
end
theorem zT: ∀a b:G0 (G0 P2),K0 (a.map yw) (b.map yw)=decide (a=b)
 | [],[]=>by simp [K0]
 | [],_::_=>by simp [K0]
 |_::_,[]=>by simp [K0]
 |x::a,y::b=>by
  show (aB (yw x) (yw y)&&K0 (a.map yw) (b.map yw))=_;rw [zT a b,CI,Z7];simp
theorem encT:Enc jp Pg:=⟨CC,λT=>by unfold Pg;simp only [O4];exact yU T,λT=>by unfold Pg;simp only [K5];have:=yo T;omega,zT⟩
def mk1 (n:G6)(T:G0 (G0 P2))(M:G0 (G0 P2)):G0 (G0 P2):=yu n (JK n M T)
def RP (n:G6)(T:G0 (G0 P2))(k i j:G6):Prop:=ent (Ga n T k) i j≠0
section
variable {n e:G6}{T:G0 (G0 P2)}
theorem Pt (h:Sq n e T)(hn:n<=8)(a b:G6){i j:G6}(hi:i<n)(hj:j<n):RP n T (a+b) i j↔ ∃k,k<n/\RP n T a i k/\RP n T b k j:=by
 unfold RP;rw [pow_add h hn a b];exact zE (h.pow hn a) (h.pow hn b) hi hj
theorem Uj {i j:G6}(hi:i<n)(hj:j<n):RP n T 0 i j↔i=j:=by
 unfold RP;show ent (Xf n) i j≠0↔_;unfold Xf;rw [Zk hi hj]
 by_cases z:i=j
 ·simp [z]
 ·simp [z]
theorem NG (h:Sq n e T)(hn:n<=8): ∀ (m:G6) {i j:G6},i<n->j<n->RP n T m i j-> ∃v:G6->G6,v 0=i/\v m=j/\(∀t,t<=m->v t<n)/\ ∀t,t<m->RP n T 1 (v t) (v (t+1))
 |0,i,j,hi,hj,r=>by
  have:=(Uj hi hj).mp r;exact⟨λ_=>i,rfl,this,λ_ _=>hi,λt ht=>by omega⟩
 |m+1,i,j,hi,hj,r=>by
  obtain⟨k,hk,r1,r2⟩:=(Pt h hn m 1 hi hj).mp r;obtain⟨v,v0,vm,vl,vr⟩:=NG h hn m hi hk r1;refine⟨λt=>if t<=m then v t else j,?_,?_,λt _=> ?_,λt ht=> ?_⟩
  ·simp [v0]
  ·show (if m+1<=m then v (m+1) else j)=j;rw [R9 (by omega)]
  ·show (if t<=m then v t else j)<n;split
   ·exact vl t (by assumption)
   ·exact hj
  ·show RP n T 1 (if t<=m then v t else j) (if t+1<=m then v (t+1) else j);rw [R8 (by omega)]
   by_cases z:t+1<=m
   ·rw [R8 z];exact vr t (by omega)
   ·rw [R9 z,show t=m by omega,vm];exact r2
theorem WQ (h:Sq n e T)(hn:n<=8){m:G6}{v:G6->G6}(vl: ∀t,t<=m->v t<n)(vr: ∀t,t<m->RP n T 1 (v t) (v (t+1)))(a:G6): ∀b,a+b<=m->RP n T b (v a) (v (a+b))
 |0,hb=>(Uj (vl a (by omega)) (vl a (by omega))).mpr rfl
 |b+1,hb=>(Pt h hn b 1 (vl a (by omega)) (vl _ hb)).mpr ⟨v (a+b),vl _ (by omega),WQ h hn vl vr a b (by omega),vr (a+b) (by omega)⟩
end
structure Grid (n:G6)(h0 h:HD)(p R:P3)(rs:G0 P3):Prop where
 at_:h R=some (rs.map D.lst)
 len:rs.length=n
 nR:R ∉ rs
 fR:h0 R=none
 np:p ∉ rs
 nRp:R≠p
 row: ∀a∈rs,h0 a=none/\ ∃r,h a=some (r.map D.int)/\wf n r
section
variable {n:G6}{h0 h:HD}{p R:P3}{rs:G0 P3}
theorem Grid.pen (g:Grid n h0 h p R rs)(ds:G0 D):Grid n h0 (zB h p ds) p R rs:=
 ⟨jf g.nRp g.at_,g.len,g.nR,g.fR,g.np,g.nRp,λa ha=>⟨(g.row a ha).1,let ⟨r,e,gr⟩:=(g.row a ha).2;⟨r,jf (λz=>g.np (z ▸ ha)) e,gr⟩⟩⟩
theorem Grid.new (g:Grid n h0 h p R rs){q:P3}(f:h q=none)(ds:G0 D):Grid n h0 (zB h q ds) p R rs:=
 ⟨jd g.at_ f,g.len,g.nR,g.fR,g.np,g.nRp,λa ha=>⟨(g.row a ha).1,let ⟨r,e,gr⟩:=(g.row a ha).2;⟨r,jd e f,gr⟩⟩⟩
theorem Grid.pick (g:Grid n h0 h p R rs){i:G6}(hi:i<n): ∃a r,atI (rs.map D.lst) (i:P2)=some (.lst a)/\a∈rs/\h a=some (r.map D.int)/\wf n r/\h0 a=none/\a≠p:=by
 have hi':i<rs.length:=by rw [g.len];exact hi
 have hm:=M7 hi';obtain⟨f,r,e,gr⟩:=g.row _ hm;exact⟨rs[i],r,wT (by rw [D3,G2 hi'];rfl),hm,e,gr,f,λz=>g.np (z ▸ hm)⟩
theorem Grid.set (g:Grid n h0 h p R rs){a:P3}{r:G0 P2}(ha:a∈rs)(e:h a=some (r.map D.int))(gr:wf n r){j:G6}{v:P2}(v0:0<=v)(v1:v<=1000000):Grid n h0 (zB h a ((r.map D.int).set j (.int v))) p R rs:=by
 refine⟨jf (λz=>g.nR (z ▸ ha)) g.at_,g.len,g.nR,g.fR,g.np,g.nRp,λb hb=>⟨(g.row b hb).1,?_⟩⟩
 by_cases z:b=a
 ·subst z;refine⟨r.set j v,by rw [jc,List.map_set],by rw [r9];exact gr.1,λx hx=> ?_⟩;rcases List.mem_or_eq_of_mem_set hx with y|y
  ·exact gr.2 x y
  ·subst y;exact⟨v0,v1⟩
 ·obtain⟨r',e',gr'⟩:=(g.row b hb).2;exact⟨r',jf z e',gr'⟩
theorem Grid.tab (g:Grid n h0 h p R rs): ∃T,GoodTab n T/\(rs.map λa=>D.tup ((h a).getD []))=T.map zO:=by
 have key: ∀l:G0 P3,(∀a∈l,∃r,h a=some (r.map D.int)/\wf n r)-> ∃T:G0 (G0 P2),T.length=l.length/\(∀r∈T,wf n r)/\(l.map λa=>D.tup ((h a).getD []))=T.map zO:=by
  intro l
  induction l with
  |nil=>intro _;exact⟨[],rfl,by simp,rfl⟩
  |cons a l ih=>
   intro hl;obtain⟨T,a1,a2,a3⟩:=ih λb hb=>hl b (R1 _ hb)
   obtain⟨r,e,gr⟩:=hl a P4;refine⟨r::T,by simp [a1],λx hx=> ?_,?_⟩
   ·rcases R5.mp hx with z|z
    ·subst z;exact gr
    ·exact a2 x z
   ·rw [T5,T5,a3,e];rfl
 obtain⟨T,a1,a2,a3⟩:=key rs λa ha=>(g.row a ha).2
 exact⟨T,⟨by rw [a1,g.len],a2⟩,a3⟩
end
variable {n:G6}
theorem Uk {o:G0 G6}(ho:Ordr n o){i:G6}(hi:i<n): ∃k,k<n/\atI (o.map λ(k:G6)=>D.int (k:P2)) (i:P2)=some (.int (k:P2)):=by
 have hi':i<o.length:=by rw [ho.ord.len];exact hi
 refine⟨o[i],D0.mp (ho.mem_iff.mp (M7 hi')),wT (by rw [D3,G2 hi'];rfl)⟩
theorem Mj {o:G0 G6}(ho:Ordr n o)(hn:1<=n): ∃k,k<n/\atI (o.map λ(k:G6)=>D.int (k:P2)) (-1)=some (.int (k:P2)):=by
 have hl:=ho.ord.len;have hi':n-1<o.length:=by omega
 refine⟨o[n-1],D0.mp (ho.mem_iff.mp (M7 hi')),?_⟩;unfold atI ixN;rw [G5,hl,R9 (by decide),R8 (by omega)];show (o.map λ(k:G6)=>D.int (k:P2))[(-1+(n:P2)).toNat]? =_;rw [show (-1+(n:P2)).toNat=n-1 by omega,D3,G2 hi'];rfl
theorem Pu {i:G6}(h:i<n):ixN n (i:P2)=some i:=by
 unfold ixN;simp;omega
theorem Qm {prog:T3}{w:B9}{A:N6}(hh:A.handled=none)(it t:P3)(items:S9 G1)(n:G6)(hn:items.size<=n):
 Draws prog w A it [it,t] n (λ_ _=>False) (λi h=>i=n/\h.IsListIter it t n/\h.IsList t items) where
 live:=λ_ _ st=>let ⟨o,ho,_⟩:=st.2.1;⟨o,ho⟩
 frame:=λ_ _ _ st hk=>⟨st.1,st.2.1.at λo e=>hk it (by simp) o e,st.2.2.at λo e=>hk t (by simp) o e⟩
 item:=λi s Q E hi st hQ=>absurd st.1 (M1 hi)
 done:=λs Q E st hE=>wpAny_nextOf_list_end hh st.2.1 st.2.2 (mP hn) hE
def SK (K:G7)(a:P3):It:=
 ⟨λi H=> ∃xs x,SqL K H a xs/\xs[i]? =some x,λi H x H'=> ∃p v,H p=none/\(∀xs,SqL K H a xs->xs[i]? =some v)/\x= .ref p/\H'=upd H p (.tup [.int i,v]),λi H=> ∃xs,SqL K H a xs/\xs.length<=i⟩
theorem Qn {P:T3}{w:B9}{K:G7}{es:G0 M9}{k:G6}{pos:Pos}(a it e:P3)(hei:e≠it)(hae:a≠e)(hai:a≠it):Turn P w K (.Tuple es k pos) (SK K a) [e,it] e (λi h=>(∃old,IsEnum h e it i old)/\h.IsListIter it a i) where
 mem:=by simp
 obj:=λi h st b hb=>by
  rcases R5.mp hb with z|z
  ·subst z;obtain⟨old,q⟩:=st.1;exact⟨_,q,λv z=>by cases z⟩
  ·have z:=G8.mp z;subst z;obtain⟨o,q,c,d⟩:=st.2;exact⟨o,q,λv z=>by rw [d] at z;cases z⟩
 keep:=λi h h' st k=>⟨let ⟨old,q⟩:=st.1;⟨old,k e (by simp) _ q⟩,st.2.at λo q=>k it (by simp) o q⟩
 item:=by
  intro X hP hw hK hc i pins s σ H E I hf st hg;subst hP hw hK;obtain⟨xs,x,hq,hx⟩:=hg;obtain⟨its,rv,p,hz⟩:=I.list hq;obtain⟨u,hu,ru⟩:=rv.get hx;have hi:i<its.toArray.size:=by have:=(P9.mp hu).1;simpa using this
  obtain⟨old,he⟩:=st.1;have helt:e<s.heap.objs.size:=R0 he;refine wpAny_pyNext_enum_itemD (Draws.list (prog:=X.prog) (w:=X.w) (A:=X.A.in1) (I.ok.hd hc) it a hai its.toArray) he ⟨st.2,p.isList⟩ hi hei (by simp [hei,E4 hae]) λx' h' tk hx' ho hs' hT hsz hk=> ?_
  have ex:x'=u:=O9 (hx'.symm.trans (show its.toArray[i]? =some u by simpa using hu));subst ex;refine⟨_,rfl,wpAny_letOwnedTupleGo_enum ho λh2 he2 hs2=> ?_⟩;have hn:H s.heap.objs.size=none:=I.hok.fresh (P6 _);have hT2:h2.get? s.heap.objs.size=some {cls:= .type "tuple",data:= .seq #[.int i tk,x']}:=(hs2.2 _ (U4 helt)).trans hT;refine⟨.ref s.heap.objs.size,upd H s.heap.objs.size (.tup [.int i,x]),?_,rfl,⟨_,x,hn,λys hy=>by rw [I.list_inj hy hq];exact hx,rfl,rfl⟩,⟨⟨x',by simpa using he2⟩,hs'.1.at λo y=>(hs2.2 it (E4 hei)).trans y⟩,λb hb=> ?_⟩
  ·refine I.turnLaid (h':=h2) (t':=tk+1) (ch:= [e,it]) (λb u hb q=> ?_) hf (P6 _) ⟨by show 2<=sizeLine;decide,[.int i tk,x'],.cons ⟨tk,rfl⟩ (.cons ru .nil),⟨_,hT2,rfl,rfl,_,rfl⟩⟩;have b1:b≠e:=λz=>hb (by simp [z])
   have b2:b≠it:=λz=>hb (by simp [z])
   exact(hs2.2 b b1).trans (hk b u b1 b2 q)
  ·have f:=(hf b hb).1;have:b≠s.heap.objs.size:=λz=>by
    rcases R5.mp hb with w|w
    ·rw [<-w,z] at helt;exact absurd helt (B7 _)
    ·have w:=G8.mp w;obtain⟨o,ho',_⟩:=st.2;have:=R0 ho';rw [<-w,z] at this;exact absurd this (B7 _)
   rw [jj this];exact f
 done:=by
  intro X hP hw hK hc i pins s σ H E I hf st hg;subst hP hw hK;obtain⟨xs,hq,hx⟩:=hg;obtain⟨its,rv,p,hz⟩:=I.list hq;obtain⟨old,he⟩:=st.1;have hl:=rv.length;refine wpAny_pyNext_enum_endD (Qm (prog:=X.prog) (w:=X.w) (A:=X.A.in1) (I.ok.hd hc) it a its.toArray i (by simp;omega)) he ⟨rfl,st.2,p.isList⟩ λh' hx'=>⟨rfl,I.turnL (t':=s.toks) (ch:= [it]) (λb o hb q=>hx' b o (λz=>hb (by simp [z])) q) λb hb=>hf b (R1 _ hb)⟩
 self:=λ_ _ _ _ _ st h=>let ⟨_,q⟩:=st.1;qG q h
section
variable {X:Cx}
def Aj (K:G7)(ta:TA):TI:=λσ H R=>ta σ H λvs H1=> ∃a,vs= [.ref a]/\(∃xs,SqL K H1 a xs)/\R (SK K a) H1
theorem Mk {es:G0 M9}{k:G6}{tp:Pos}{a:M9}{ta:TA}{p pos:Pos}(hg:Gl X "enumerate")(hm:X.mg "enumerate" =none)(ha:PA X [a] ta)(hs:S1 [a] X.env= [(false,J7 a X.env)]:=by rfl):
 PI X (.Tuple es k tp) (.Call (.Name "enumerate" p) [a] [] pos) (Aj X.K ta):=by
 intro pins s σ H R I h;refine Call_ (YE I hg hm (show U3 "enumerate" =some (.type "enumerate") by decide +kernel) (cM (thn (ha pos pins s σ H _ I h) λus s1 ⟨vs,H1,I1,r1,q1⟩=> ?_) hs rfl));obtain⟨a,e,⟨xs,hq⟩,q⟩:=q1;subst e;cases r1 with
 |cons r rr=>
  cases rr;cases r;obtain⟨its,rv,p,hz⟩:=I1.list hq;have hlt:a<s1.heap.objs.size:=by obtain⟨o,ho,_⟩:=p.isList;exact R0 ho
  refine call_enumerate_list p.isList λh' he hit _ hk=> ?_
  refine qG he ?_;refine⟨s1.heap.objs.size+1,[s1.heap.objs.size+1,s1.heap.objs.size],_,_,H1,rfl,I1.kept (t':=s1.toks) hk,Qn a s1.heap.objs.size (s1.heap.objs.size+1) (U4 (J0 _)) (M1 (cN hlt)) (M1 hlt),⟨⟨_,he⟩,hit⟩,λb hb=> ?_,q⟩;have hb':s1.heap.objs.size<=b:=by
   rcases R5.mp hb with w|w
   ·rw [w];exact Nat.le_succ _
   ·rw [G8.mp w];exact P6 _
  exact I1.fpOk hb' (I1.hok.fresh hb')
end
def iEL (ta:TAD):TID:=λσ h R=>ta σ h λxs h1=> ∃a,xs= [.lst a]/\R (λh=>(h a).map Vc) h1
section
variable {K:G7}
theorem Qo (H:Hp)(a:P3):Ca K H (λh=>(h a).map Vc) (SK K a):=λH' h' k rh ds' e i=>by
 have e:(h' a).map Vc=some ds':=e;cases hd:h' a with
 |none=>rw [hd] at e;cases e
 |some ds=>
  rw [hd] at e;cases e;obtain⟨vs,hv',r'⟩:=rh a ds hd;refine⟨λd hd=> ?_,λhl=>⟨vs,SqL.of hv',by rw [<-r'.length,<-yV];exact hl⟩⟩;obtain⟨x,hx,ed⟩:=WN hd;subst ed;obtain⟨v,e1,e2⟩:=r'.get hx;refine⟨⟨vs,v,SqL.of hv',e1⟩,λx' H'' ⟨p,v',hp,hx',ex,eH⟩=> ?_⟩;subst ex eH;have ev:v'=v:=by have:=hx' vs (SqL.of hv');rw [e1] at this;exact(O9 this).symm
  subst ev;have k2:Kept H' (upd H' p (.tup [.int i,v'])):= .new hp;exact⟨k2,RelH.new rh hp,p,[.int i,v'],rfl,jt,_,_,rfl,rfl,_,_,rfl,e2.mono k2,rfl⟩
theorem Ml {ta:TAD}: ∀σ H R,LI K (iEL ta) σ H R->Aj K (LA K ta) σ H R:=λσ H R ⟨σd,h,Rd,rs,rh,q,p⟩=>
 LA.bind rs rh q λds vs h1 H1 k1 rs1 rh1 r1 ⟨a,e,q1⟩=>by
  subst e;obtain⟨v,e,r2⟩:=jG r1;obtain⟨e',ws,hv⟩:=(show v= .ref a/\ ∃vs,H1 a=some (.lst vs) from r2);subst e';exact⟨a,e,⟨ws,SqL.of hv⟩,p _ _ _ _ k1 rh1 (Qo H1 a) q1⟩
end
section
variable {X:Cx}
theorem WR {es:G0 M9}{k:G6}{tp:Pos}{a:M9}{ta:TAD}{p pos:Pos}(hg:Gl X "enumerate")(hm:X.mg "enumerate" =none)(ha:JA X [a] ta)(hs:S1 [a] X.env= [(false,J7 a X.env)]:=by rfl):
 JI X (.Tuple es k tp) (.Call (.Name "enumerate" p) [a] [] pos) (iEL ta):=⟨(Mk hg hm ha.to hs).imp Ml⟩
end
def Pv (n:G6)(Ts:G0 (G0 (G0 P2)))(M:G0 (G0 P2))(W:G0 G6):G0 (G0 P2):=W.foldl (λM i=>mk1 n (Ts.getD i []) M) M
structure TabsOk (n:G6)(Ts:G0 (G0 (G0 P2))):Prop where
 n1:1<=n
 n3:n<=3
 l1:1<=Ts.length
 l3:Ts.length<=3
 sq: ∀T∈Ts,Sq n 20 T
theorem TabsOk.get {Ts:G0 (G0 (G0 P2))}(h:TabsOk n Ts){i:G6}(hi:i<Ts.length):Sq n 20 (Ts.getD i []):=by
 rw [P7,G2 hi];exact h.sq _ (M7 hi)
theorem Pw {Ts:G0 (G0 (G0 P2))}(h:TabsOk n Ts){i:G6}(hi:i<Ts.length):atI (Ts.map jp) ((i:G6):P2)=some (jp (Ts.getD i [])):=
 wT (by rw [D3,P7,G2 hi];rfl)
section
variable {n:G6}{Ts:G0 (G0 (G0 P2))}
theorem Ak (M:G0 (G0 P2))(hM:Sq n 1 M): ∀W:G0 G6,Sq n 1 (Pv n Ts M W):=λW=>by
 induction W generalizing M with
 |nil=>exact hM
 |cons i W ih=>exact ih _ (Sq.mark _)
theorem CK (M:G0 (G0 P2))(V W:G0 G6):Pv n Ts M (V++W)=Pv n Ts (Pv n Ts M V) W:=gI
end
theorem Ja: ∀Ts:G0 (G0 (G0 P2)),O2 (Ts.map Pg)<=5
 | []=>by simp [O2]
 |T::Ts=>by
  have:=Ja Ts;have h2:=yo T;simp only [T5,O2,K5,Pg];omega
theorem Ul (Ts:G0 (G0 (G0 P2))):shaped (.list (Ts.map Pg))=true:=by
 unfold shaped;have h1:O4 (.list (Ts.map Pg))=true:=by simp only [O4];exact encT.lays Ts
 have h2:=Ja Ts;have h3:K5 (.list (Ts.map Pg))<=64:=by simp only [K5];omega
 rw [h1,S7 h3];rfl
end L2
set_option maxRecDepth 35000
namespace L2
open PySem PySem.Spec PyProof.Rows PySem.SeqAt
def SL (T:G0 (G0 P2))(n p:G6):G0 G6:=(D4 n).filter λj=>decide (ent T p j>0)
def cnt (T:G0 (G0 P2))(n o:G6):G6->G6->P2
 |0,p=>if p=o then 1 else 0
 |t+1,p=>((SL T n p).map (cnt T n o t)).sum
section
variable {T:G0 (G0 P2)}{n o:G6}
def Ko (T:G0 (G0 P2))(n o t p:G6):G6:=(SL T n p).findIdx λj=>decide (cnt T n o t j>0)
def nxt (T:G0 (G0 P2))(n o t p:G6):G6:=(SL T n p).getD (Ko T n o t p) 0
end
theorem Mm {α:Type}{xs:G0 α}{x:α}(h1:1<=xs.length)(h:xs[xs.length-1]? =some x):atI xs (-1)=some x:=by
 unfold atI ixN;rw [R9 (by decide),R8 (by omega)];show xs[(-1+(xs.length:P2)).toNat]? =_;rw [show (-1+(xs.length:P2)).toNat=xs.length-1 by omega];exact h
theorem Px {α:Type}(xs:G0 α):WF xs none (some 1)=xs.take 1:=by
 unfold WF;have e1:HT.sIx xs.length 0 none=0:=rfl;have e2:HT.sIx xs.length xs.length (some 1)=min 1 xs.length:=rfl;rw [e1,e2,i8,qC];cases xs with
 |nil=>rfl
 |cons x xs=>simp
end L2
namespace L2
open PySem PySem.Spec PyProof.Rows PySem.W
structure RN where
 nm:Str
 fs:G0 (Str×P2)
instance:Coe Str RN:=⟨λc=>⟨c,[]⟩⟩
abbrev TXD:=SD->HD->(RN->HD->Prop)->Prop
abbrev RDx:=G0 D->HD->(RN->HD->Prop)->Prop
abbrev N1:G0 Str:= ["_law_call","_law_found","_law_e","_law_word"]
end L2
namespace L2
open PySem PySem.Spec PyProof.Rows PySem.SeqAt
section
variable {n e:G6}{T:G0 (G0 P2)}
instance (k i j:G6):Decidable (RP n T k i j):=inferInstanceAs (Decidable (ent (Ga n T k) i j≠0))
end
end L2
namespace L2
open PySem PySem.Spec PyProof.Rows
def TrV (K:G7)(H:Hp):V->N0->Prop
 | .bl b,c=>c=b
 | .int i,c=>c=(i !=0)
 | .non,c=>c=false
 | .ref a,c=> ∃xs,SqL K H a xs/\c= !xs.isEmpty
 |_,_=>False
def TrD (h:HD):D->N0->Prop
 | .bl b,c=>c=b
 | .int i,c=>c=(i !=0)
 | .non,c=>c=false
 | .lst a,c=> ∃ds,h a=some ds/\c= !ds.isEmpty
 |_,_=>False
theorem TrD.to {K:G7}{H:Hp}{h:HD}{d:D}{v:V}{c:N0}(t:TrD h d c)(r:RelD K H d v)(rh:RelH K h H):TrV K H v c:=by
 cases d<;>try exact t.elim
 ·have e:v= .non:=r;subst e;exact t
 ·have e:v= .bl _:=r;subst e;exact t
 ·have e:v= .int _:=r;subst e;exact t
 ·obtain⟨e,_⟩:=r;subst e;obtain⟨ds,hd,e⟩:=t;obtain⟨vs,hv,r'⟩:=rh _ ds hd;refine⟨vs,SqL.of hv,?_⟩;rw [e];have:=r'.length;cases ds<;>cases vs<;>first|rfl|(simp at this)
section
variable {X:Cx}{pins:G0 (P3×Obj)}{σ:St}{H:Hp}{s:G3}{E:G1->G3->Prop}
theorem Inv.trv {v:V}{u:G1}{c:N0}{Q:N0->G3->Prop}(I:Inv X pins σ H s)(r:RelV v u)(t:TrV X.K H v c)(q: ∀s',Inv X pins σ H s'->Q c s'):R3 (R7 X.prog X.w) X.A (mF u) Q E s:=by
 cases v<;>try exact t.elim
 ·have e:u=iT:=r;subst e;have e:c=false:=t;subst e;exact truthy_none (q _ I)
 ·have e:u=pE _:=r;subst e;have e:c=_:=t;subst e;exact K4 (q _ I)
 ·obtain⟨t',e⟩:=r;subst e;have e:c=_:=t;subst e;exact truthy_int (q _ I)
 ·have e:u=U0 _:=r;subst e;obtain⟨xs,hx,e⟩:=t;obtain⟨its,rv,p,hz⟩:=I.list hx;have hl:=rv.length;have e2:c= !its.toArray.isEmpty:=by
   rw [e];cases xs<;>cases its<;>first|rfl|(simp at hl)
  refine wpAny_truthy_list p.isList ?_ ?_
  ·have:xs.length<=16777216:=S0 hz (by decide);simp only [R4];have e3:((2:P2)^63)=9223372036854775808:=by decide
   rw [e3];omega
  ·rw [<-e2];exact q _ (I.tok _)
end
section
variable {X:Cx}{a b:M9}{rest:G0 M9}{pos:Pos}
def Hi (K:G7)(t:TE):TT:=λσ H Q=>t σ H λx H1=> ∃c,TrV K H1 x c/\Q c H1
theorem Al {e:M9}{t:TE}(h:PE X e t)(he: ∀whole,isTrue e X.env whole=(do let v <-whole;fB e.pos;Y0 [v] (mF v)):=by intro _;rfl):PT X e (Hi X.K t):=by
 intro pins s σ H Q I hw;refine pV (thn (h pins s σ H _ I hw) λv s1 ⟨x,H1,I1,r1,q1⟩=> ?_) (he _);obtain⟨c,t1,q⟩:=q1;exact I1.trv r1 t1 λs' I'=>⟨H1,I',q⟩
def Hj (t:TED):TTD:=λσ h Q=>t σ h λx h1=> ∃c,TrD h1 x c/\Q c h1
variable {K:G7}
theorem Am {t:TED}: ∀σ H Q,LT K (Hj t) σ H Q->Hi K (LE K t) σ H Q:=λσ H Q ⟨σd,h,Qd,rs,rh,t,p⟩=>
 LE.bind rs rh t λd v h1 H1 k1 rs1 rh1 r1 ⟨k,e,q⟩=>⟨k,e.to r1 rh1,p k h1 H1 k1 rh1 q⟩
theorem An {ta:TED}(ha:JE X a ta)(he: ∀whole,isTrue a X.env whole=(do let v <-whole;fB a.pos;Y0 [v] (mF v)):=by intro _;rfl):JT X a (Hj ta):=⟨(Al ha.to he).imp Am⟩
end
end L2
namespace L2
open PySem PySem.Spec PyProof.Rows PySem.SeqAt
section
variable {n e:G6}{T:G0 (G0 P2)}
theorem WS (h:Sq n e T)(hn:n<=8){a b i j k:G6}(hi:i<n)(hk:k<n)(hj:j<n)(x:RP n T a i k)(y:RP n T b k j):RP n T (a+b) i j:=(Pt h hn a b hi hj).mpr ⟨k,hk,x,y⟩
theorem Py (h:Sq n e T)(hn:n<=8){i j:G6}:RP n T 1 i j↔ent T i j≠0:=by unfold RP;rw [CF h hn]
end
end L2
namespace HT
open PySem PySem.Spec PyProof.Rows
variable {j:G6}
theorem WT {xs:S9 G6}(r:xs.toList.Pairwise (· < ·)): ∀ (fuel lo hi:G6),hi-lo<=fuel->hi<=xs.size->lo<=hi->(∀i,i<lo-> ∀v,xs[i]? =some v->v<j)->(∀i,hi<=i-> ∀v,xs[i]? =some v->j<=v)->
 (∀i,i<gJ xs j fuel lo hi-> ∀v,xs[i]? =some v->v<j)/\(∀i,gJ xs j fuel lo hi<=i-> ∀v,xs[i]? =some v->j<=v)/\gJ xs j fuel lo hi<=xs.size
 |0,lo,hi,f,hs,lh,a,b=>by
  have:lo=hi:=by omega
  subst this;exact⟨a,b,hs⟩
 |fuel+1,lo,hi,f,hs,lh,a,b=>by
  unfold gJ
  by_cases c:lo<hi
  ·rw [R8 c];have hm:(lo+hi) / 2<xs.size:=by omega
   have mono: ∀ (i k u v:G6),i<=k->xs[i]? =some u->xs[k]? =some v->u<=v:=λi k u v ik e1 e2=>by
    rcases F9 i k with z|z
    ·have i1:=(A2.mp e1);have i2:=(A2.mp e2);obtain⟨h1,e1'⟩:=i1;obtain⟨h2,e2'⟩:=i2;have:=O3.mp r i k (by simpa using h1) (by simpa using h2) z;simp only [cX] at this;omega
    ·have:i=k:=by omega
     subst this;rw [e1] at e2;cases e2;exact P6 _
   have em:xs.getD ((lo+hi) / 2) j=xs[(lo+hi) / 2]:=by simp [tT,hm]
   dsimp only
   by_cases d:xs.getD ((lo+hi) / 2) j<j
   ·rw [R8 d];refine WT r fuel _ hi (by omega) hs (by omega) (λi hi' v hv=> ?_) b;have:=mono i ((lo+hi) / 2) v xs[(lo+hi) / 2] (by omega) hv (by simp [hm]);omega
   ·rw [R9 d];refine WT r fuel lo _ (by omega) (by omega) (by omega) a (λi hi' v hv=> ?_);have:=mono ((lo+hi) / 2) i xs[(lo+hi) / 2] v hi' (by simp [hm]) hv;omega
  ·rw [R9 c];have:lo=hi:=by omega
   subst this;exact⟨a,b,hs⟩
theorem vB {xs:S9 G6}(r:xs.toList.Pairwise (· < ·))(j:G6):(∀i,i<T8 xs j-> ∀v,xs[i]? =some v->v<j)/\(∀i,T8 xs j<=i-> ∀v,xs[i]? =some v->j<=v)/\T8 xs j<=xs.size:=
 WT r xs.size 0 xs.size (by omega) (P6 _) (N9 _) (λi h=>absurd h (Q0 _)) (λi h v e=>by rw [mP h] at e;cases e)
theorem Um {xs:S9 G6}(r:xs.toList.Pairwise (· < ·))(no:xs[T8 xs j]? ≠some j):(V5 xs (T8 xs j) j).toList.Pairwise (· < ·):=by
 obtain⟨a,b,hs⟩:=vB r j;rw [eJ,B2,X7];have low: ∀v∈xs.toList.take (T8 xs j),v<j:=λv hv=>by
  obtain⟨i,hi⟩:=bF hv;rw [pM] at hi;split at hi
  ·rename_i c;exact a i c v (by simpa using hi)
  ·cases hi
 have high: ∀v∈xs.toList.drop (T8 xs j),j<v:=λv hv=>by
  obtain⟨i,hi⟩:=bF hv;rw [X8] at hi;have hi':xs[T8 xs j+i]? =some v:=by simpa using hi
  have le:=b _ (V0 _ _) v hi';rcases F9 j v with z|z
  ·exact z
  ·have ev:v=j:=by omega
   subst ev;cases i with
   |zero=>exact(no hi').elim
   |succ i=>
    obtain⟨h1,e1⟩:=A2.mp hi';have h0:T8 xs v<xs.size:=by omega
    have le0:=b _ (P6 _) xs[T8 xs v] (by simp [h0]);have lt:=O3.mp r (T8 xs v) (T8 xs v+(i+1)) (by simpa using h0) (by simpa using h1) (by omega);simp only [cX] at lt;omega
 exact⟨r.sublist (Q7 _ _),⟨high,r.sublist (Q9 _ _)⟩,λu hu v hv=>by
  rcases R5.mp hv with e|e
  ·rw [e];exact low u hu
  ·exact V2 (low u hu) (high v e)⟩
structure Tab (L:N0)(n:G6)(t:N2):Prop where
 fits:t.fits n=true
 led:t.led=L
 dum:t.dummies= #[]
 rise:t.plain=true\/n<=1->t.place.toList.Pairwise (· < ·)
theorem Qp {t:N2}{n:G6}(h:t.fits n=true):t.place.size=n:=by
 simp only [uS,C6,beq_iff_eq] at h;exact h.1
theorem Qq {t:N2}(h:t.slot j= .empty):t.place[T8 t.place j]? ≠some j:=λe=>by
 unfold lI at h;dsimp only at h;rw [R8 (by rw [e];exact aL _)] at h;cases h
theorem Wl {t:N2}(d:t.dummies= #[]):t.slot j≠ .dummy:=λh=>by
 unfold lI at h;dsimp only at h;split at h
 ·cases h
 ·rw [d] at h;have:mQ #[] j=false:=by unfold mQ;simp
  rw [this] at h;cases h
theorem WU (f:G6->D2 G6): ∀l:G0 G6,((l.filterMap λj=>(f j).map (j,·)).map (·.1)).Sublist l
 | []=> .slnil
 |j::l=>by
  rw [dO];cases e:(f j).map (j,·) with
  |none=>exact(WU f l).cons _
  |some q=>
   obtain⟨v,_,rfl⟩:=F4.mp e;exact(WU f l).cons₂ _
abbrev wQ (es:S9 (P2×G1))(ep:G6)(t:N2):Obj:= {cls:= .type "set",dict:=none,data:= .set es ep t,slots:= #[]}
def Hk (e:P2×G1):P2:=match e.2 with
 | .int n _=>n
 |_=>0
structure SetI (L:N0)(es:S9 (P2×G1))(t:N2)(ns:G0 P2):Prop where
 tab:Tab L es.size t
 nums: ∀e∈es.toList,∃n tk,e=(KA n,.int n tk)
 nd:(es.toList.map Hk).Nodup
 mem: ∀n,n∈es.toList.map Hk↔n∈ns
theorem Zp:plainId "set.update.loop" =true:=by decide +kernel
theorem Vf:qH table "set.update.loop" =some Builtin.«set.update.loop» :=rF (by kernel_rfl)
theorem ZO:qH table "set.__init__" =some Builtin.«set.__init__» :=rF (by kernel_rfl)
abbrev wq (w:B9):N0:= !(w.params.followText "set-order")
theorem Mn (L:N0):SetI L #[] (.fresh 0 0 L) []:=⟨⟨rfl,rfl,rfl,λ_=> .nil⟩,λe he=>by simp at he,by simp,λn=>by simp⟩
theorem yW:oT (.type "set") (.type "set")=pure true:=by rw [bT];kernel_rfl
theorem Vg:oT (.type "list") (.type "set")=pure false:=by rw [bT];kernel_rfl
theorem Vh:oT (.type "list") (.type "frozenset")=pure false:=by rw [bT];kernel_rfl
theorem Uo:oT (.type "tuple") (.type "set")=pure false:=by rw [bT];kernel_rfl
theorem Up:oT (.type "tuple") (.type "frozenset")=pure false:=by rw [bT];kernel_rfl
section
variable {prog:T3}{w:B9}{A:N6}{E:G1->G3->Prop}{s:G3}
theorem Mo {x:G1}{P:g7->G3->Prop}(h:P (.done (.ret (.ref s.heap.objs.size))) {s with heap:=s.heap.push (wQ #[] 0 (.fresh 0 0 (wq w)))}):
 R3 (R7 prog w) A (Builtin.«set.__new__» ⟨[.type "set",x],[]⟩) P E s:=by
 have fine:=yW;obtain⟨hp,g,d,tk,os⟩:=s;have told: ∀ {Q:sU->G3->Prop} {E':G1->G3->Prop} {A':N6} {s':G3},Q ⟨prog,w.params⟩ s'->R3 (R7 prog w) A' ask Q E' s':=λq=>aK q
 wp_walk using told
 exact h
theorem WV {M:pU}{o x:G1}{Q:Unit->G3->Prop}(ty:s.TypeIs o "set")(q:Q () s):R3 M A (mB "set.__init__" ⟨[o,x],[]⟩) Q E s:=by
 have fine:=yW;unfold mB;rw [kind_set_init,split_set_init,sig_set_init]
 wp_walk using uE (n:= "set") (by decide),uF (self:=o) rfl ty
 exact q
end
theorem slot_si_next:Slot "set_iterator" "__next__" "set_iterator.__next__" :=
 .of (owner:= "set_iterator") (n:= "__next__") (by rw [sH,nG];kernel_rfl) (by decide +kernel) (by decide +kernel) (by decide +kernel) (.inl (by kernel_rfl)) (by rw [bT];kernel_rfl)
theorem WW:qH table "set_iterator.__next__" =some Builtin.«set_iterator.__next__» :=entryFor_of_tree (by kernel_rfl)
theorem Vi (a:G1):IU "set_iterator.__next__" ⟨[a],[]⟩:=by unfold IU;kernel_rfl
theorem ZP:qH table "set.__iter__" =some Builtin.«frozenset.__iter__» :=tU (id':= "frozenset.__iter__") (by kernel_rfl) rfl (by decide +kernel) (by kernel_rfl)
abbrev itO (first:G1)(i:G6)(a:P3)(n ep:G6):Obj:= {cls:= .type "set_iterator",data:= .fields #[first,K1 i,.ref a,K1 n,K1 ep]}
inductive Mode (w:B9)(a:P3)(es:S9 (P2×G1))(ep:G6)(t:N2):G0 G1->(G1->G6->O6->Prop)->P3->Prop
 |text (b:w.params.followText "set-order" =true):Mode w a es ep t ((pickOrder (w.params.setOrder a ep) es).toList.map (·.2)) (λf _ _=>f=K1 0) a
 |drawn (b:w.params.followText "set-order" =false) (d:t.plain=false) (two:1<es.size) (ord:G0 G6) (p:ord.Perm (D4 es.size)) (tp:P3):
  Mode w a es ep t (ord.map λj=>(es.getD j (0,.none)).2) (λf _ h=>f= .ref tp/\h.IsTuple tp (ord.map λj=>K1 (j:G6)).toArray) tp
 |table (b:w.params.followText "set-order" =false) (d:t.plain=true\/es.size<=1):Mode w a es ep t (es.toList.map (·.2)) (λf i _=> ∃slot:G6,f=K1 slot/\T8 t.place slot=i) a
section
variable {prog:T3}{w:B9}{A:N6}{E:G1->G3->Prop}{s:G3}{a I tp:P3}{es:S9 (P2×G1)}{ep n i:G6}{t:N2}{ns:G0 P2}{first:G1}
theorem Pz {Q:G1->G3->Prop}(S:Tab (wq w) es.size t)(b:w.params.followText "set-order" =true)(ha:s.heap.get? a=some (wQ es ep t))(hI:s.heap.get? I=some (itO (K1 0) i a es.size ep))(aI:a≠I)
 {x:G1}(hx:((pickOrder (w.params.setOrder a ep) es).toList.map (·.2))[i]? =some x)(q: ∀h',h'.get? I=some (itO (K1 0) (i+1) a es.size ep)->O7 I s.heap h'->Q x {s with heap:=h'}):
 R3 (R7 prog w) A (Builtin.«set_iterator.__next__» ⟨[.ref I],[]⟩) (λfin s'=> ∃v,fin= .done (.ret v)/\Q v s') E s:=by
 have told: ∀ {Q:sU->G3->Prop} {E':G1->G3->Prop} {A':N6} {s':G3},Q ⟨prog,w.params⟩ s'->R3 (R7 prog w) A' ask Q E' s':=λq=>aK q
 have state:=λ{P:S9 (P2×G1)×G6×N2->G3->Prop} {E':G1->G3->Prop} {A':N6}=>A9 (prog:=prog) (w:=w) (A:=A') (E:=E') (Q:=P) (s:=s) ha rfl S.fits
 obtain⟨hp,g,d,tk,os⟩:=s;rw [D3] at hx;obtain⟨⟨k,x'⟩,hx1,rfl⟩:=F4.mp hx;have hx':(pickOrder (w.params.setOrder a ep) es)[((i:G6):P2).toNat]? =some (k,x'):=by rw [V4,<-N5];exact hx1
 have z1:=L6 (iB λv=>v.setIfInBounds 0 (K1 ((KT 0:G6):P2))) hI rfl;have z2:=L6 (iB λv=>v.setIfInBounds 1 (K1 ((i:P2)+1))) z1 rfl;have fin:=q _ z2 ((O5 ..).trans (O5 ..))
 wp_walk using state,told
 rw [hx']
 wp_walk
 exact⟨_,rfl,fin⟩
theorem Qr {Q:G1->G3->Prop}{ord:G0 G6}(S:Tab (wq w) es.size t)(ha:s.heap.get? a=some (wQ es ep t))(hI:s.heap.get? I=some (itO (.ref tp) i a es.size ep))(aI:a≠I)(ht:s.heap.IsTuple tp (ord.map λj=>K1 (j:G6)).toArray)(p:ord.Perm (D4 es.size))
 {x:G1}(hx:(ord.map λj=>(es.getD j (0,.none)).2)[i]? =some x)(q: ∀h',h'.get? I=some (itO (.ref tp) (i+1) a es.size ep)->O7 I s.heap h'->Q x {s with heap:=h'}):
 R3 (R7 prog w) A (Builtin.«set_iterator.__next__» ⟨[.ref I],[]⟩) (λfin s'=> ∃v,fin= .done (.ret v)/\Q v s') E s:=by
 have state:=λ{P:S9 (P2×G1)×G6×N2->G3->Prop} {E':G1->G3->Prop} {A':N6}=>A9 (prog:=prog) (w:=w) (A:=A') (E:=E') (Q:=P) (s:=s) ha rfl S.fits
 obtain⟨⟨oc,od,odt,osl⟩,hol,hc,c,hd⟩:=ht;simp only at hc hd;subst hc hd;obtain⟨hp,g,d,tk,os⟩:=s;rw [D3] at hx;obtain⟨j,hj,rfl⟩:=F4.mp hx;have jlt:j<es.size:=D0.mp (p.mem_iff.mp (P8 hj));have hj':((ord.map λj=>K1 (j:G6)).toArray)[((i:G6):P2).toNat]? =some (K1 (j:G6)):=by simp [hj]
 have ej:es[((j:G6):P2).toNat]? =some (es.getD j (0,.none)):=by simp [jlt,tT]
 have z1:=L6 (iB λv=>v.setIfInBounds 1 (K1 ((i:P2)+1))) hI rfl;have fin:=q _ z1 (O5 ..)
 wp_walk using state
 rw [hj'];show R3 _ _ (setNextDrawn a ((j:G6):P2).toNat ((ep:G6):P2).toNat >>= _) _ _ _
 wp_walk using state
 rw [ej]
 wp_walk
 exact⟨_,rfl,fin⟩
theorem Qs {Q:G1->G3->Prop}{slot:G6}(S:Tab (wq w) es.size t)(b:w.params.followText "set-order" =false)(pl:t.plain=true\/es.size<=1)(ha:s.heap.get? a=some (wQ es ep t))(hI:s.heap.get? I=some (itO (K1 slot) i a es.size ep))(aI:a≠I)(hs:T8 t.place slot=i)
 {x:G1}(hx:(es.toList.map (·.2))[i]? =some x)(q: ∀h' (slot':G6),T8 t.place slot'=i+1->h'.get? I=some (itO (K1 slot') (i+1) a es.size ep)->O7 I s.heap h'->Q x {s with heap:=h'}):
 R3 (R7 prog w) A (Builtin.«set_iterator.__next__» ⟨[.ref I],[]⟩) (λfin s'=> ∃v,fin= .done (.ret v)/\Q v s') E s:=by
 have told: ∀ {Q:sU->G3->Prop} {E':G1->G3->Prop} {A':N6} {s':G3},Q ⟨prog,w.params⟩ s'->R3 (R7 prog w) A' ask Q E' s':=λq=>aK q
 have state:=λ{P:S9 (P2×G1)×G6×N2->G3->Prop} {E':G1->G3->Prop} {A':N6}=>A9 (prog:=prog) (w:=w) (A:=A') (E:=E') (Q:=P) (s:=s) ha rfl S.fits
 have led:t.led=true:=by rw [S.led];show (!(w.params.followText "set-order"))=true;rw [b];rfl
 have nd:(!t.plain&&decide (es.size>1))=false:=by
  rcases pl with z|z
  ·rw [z];rfl
  ·rw [S8 (by omega),bQ]
 obtain⟨hp,g,d,tk,os⟩:=s;rw [D3] at hx;obtain⟨⟨k,x'⟩,hx1,rfl⟩:=F4.mp hx;have lt:i<es.size:=by have:=(P9.mp hx1).1;simpa using this
 have ps:=Qp S.fits;have ltp:i<t.place.size:=by omega
 have ex:es[i]? =some (k,x'):=by rw [<-N5];exact hx1
 have ep':t.place[i]? =some t.place[i]:=by simp [ltp]
 have rise:=S.rise pl;have next:T8 t.place (t.place[i]+1)=i+1:=by
  obtain⟨b1,b2,b3⟩:=vB rise (t.place[i]+1);have mono:=λ(u v:G6) (hu:u<t.place.size) (hv:v<t.place.size) (uv:u<v)=>O3.mp rise u v (by simpa using hu) (by simpa using hv) uv
  simp only [cX] at mono;rcases bG (T8 t.place (t.place[i]+1)) (i+1) with z|z|z
  ·have:=b2 i (by omega) _ ep';omega
  ·exact z
  ·have h1:i+1<t.place.size:=by omega
   have:=b1 (i+1) z _ (by simp [h1]:t.place[i+1]? =some t.place[i+1]);have:=mono i (i+1) ltp h1 (by omega);omega
 have z1:=L6 (iB λv=>v.setIfInBounds 0 (K1 ((t.place[i]+1:G6):P2))) hI rfl;have z2:=L6 (iB λv=>v.setIfInBounds 1 (K1 ((i:P2)+1))) z1 rfl;have fin:=q _ _ next z2 ((O5 ..).trans (O5 ..))
 wp_walk using state,told
 split
 ·rename_i z;have z':(!t.plain&&decide (es.size>1))=true:=z;rw [nd] at z';cases z'
 wp_walk
 rw [show ((slot:G6):P2).toNat=slot from V4 _,hs,ex,ep']
 wp_walk
 exact⟨_,rfl,fin⟩
theorem Qt {vals:G0 G1}{md:G1->G6->O6->Prop}{Q:g7->G3->Prop}(calm:A.handled=none)(S:Tab (wq w) es.size t)(M:Mode w a es ep t vals md tp)(ha:s.heap.get? a=some (wQ es ep t))(hI:s.heap.get? I=some (itO first i a es.size ep))(aI:a≠I)(hm:md first i s.heap)(hx:vals[i]? =none)
 (q: ∀h' e,(∀b o,b≠I->s.heap.get? b=some o->h'.get? b=some o)->(∃o,h'.get? e=some o/\o.cls= .type "StopIteration")->E (.ref e) {s with heap:=h'}):
 R3 (R7 prog w) A (Builtin.«set_iterator.__next__» ⟨[.ref I],[]⟩) Q E s:=by
 have told: ∀ {Q:sU->G3->Prop} {E':G1->G3->Prop} {A':N6} {s':G3},Q ⟨prog,w.params⟩ s'->R3 (R7 prog w) A' ask Q E' s':=λq=>aK q
 have state:=λ{P:S9 (P2×G1)×G6×N2->G3->Prop} {E':G1->G3->Prop} {A':N6}=>A9 (prog:=prog) (w:=w) (A:=A') (E:=E') (Q:=P) (s:=s) ha rfl S.fits
 have stop:=λ{h1:O6} {Q':g7->G3->Prop} (same:O7 I s.heap h1)=>L2.Zo (prog:=prog) (w:=w) (A:=A) (E:=E) (s:= {s with heap:=h1}) (Q:=Q') calm λh' e grown st=>q h' e (λb o nb x=>grown b o (same.extBut b o nb x)) st
 obtain⟨hp,g,d,tk,os⟩:=s;have put: ∀ {P:Unit->G3->Prop} {E':G1->G3->Prop} {k:G6} {v:G1} {h1:O6},k<5->O7 I hp h1->(∃fs:S9 G1,fs.size=5/\h1.get? I=some {cls:= .type "set_iterator",data:= .fields fs})->(∀h',O7 I hp h'->(∃fs:S9 G1,fs.size=5/\h'.get? I=some {cls:= .type "set_iterator",data:= .fields fs})->P () ⟨h',g,d,tk,os⟩)->R3 (R7 prog w) A (mC (.ref I) k v) P E' ⟨h1,g,d,tk,os⟩:=λhk same ⟨fs,hfs,e⟩ q'=>pN (s:=⟨_,g,d,tk,os⟩) e (by omega) λh' z' same'=>q' h' (same.trans same') ⟨_,by simpa using hfs,z'⟩
 cases M with
 |text b=>
  subst hm;have e:(pickOrder (w.params.setOrder a ep) es)[((i:G6):P2).toNat]? =none:=by
   rw [D3] at hx;rw [V4,<-N5];exact V6.mp hx
  wp_walk using state,told
  rw [e];show R3 _ _ (mC (.ref I) 2 .none >>= _) _ _ _;exact wpAny_bind (put (by decide) (bE _ _) ⟨_,rfl,hI⟩ λh' same _=>stop same)
 |drawn b dp two ord p tp=>
  obtain⟨rfl,⟨oc,od,odt,osl⟩,hol,hc,c,hd⟩:=hm;simp only at hc hd;subst hc hd;have e:((ord.map λj=>K1 (j:G6)).toArray)[((i:G6):P2).toNat]? =none:=by
   rw [D3] at hx;simp [V6.mp hx]
  wp_walk using state
  rw [e];show R3 _ _ (mC (.ref I) 0 (K1 0) >>= λ_=>mC (.ref I) 2 .none >>= _) _ _ _;exact wpAny_bind (put (by decide) (bE _ _) ⟨_,rfl,hI⟩ λh1 same1 there1=>wpAny_bind (put (by decide) same1 there1 λh' same _=>stop same))
 |table b pl=>
  obtain⟨slot,rfl,hs⟩:=hm;have led:t.led=true:=by rw [S.led];show (!(w.params.followText "set-order"))=true;rw [b];rfl
  have nd:(!t.plain&&decide (es.size>1))=false:=by
   rcases pl with z|z
   ·rw [z];rfl
   ·rw [S8 (by omega),bQ]
  have e:es[i]? =none:=by
   rw [D3] at hx;rw [<-N5];exact V6.mp hx
  wp_walk using state,told
  split
  ·rename_i z;have z':(!t.plain&&decide (es.size>1))=true:=z;rw [nd] at z';cases z'
  wp_walk
  rw [show ((slot:G6):P2).toNat=slot from V4 _,hs,e];show R3 _ _ (mC (.ref I) 2 .none >>= _) _ _ _;exact wpAny_bind (put (by decide) (bE _ _) ⟨_,rfl,hI⟩ λh' same _=>stop same)
end
theorem WX:qH table "set_iterator.__iter__" =some Builtin.«dict_keyiterator.__iter__» :=tU (id':= "dict_keyiterator.__iter__") (by kernel_rfl) (by first|rfl|decide +kernel|(unfold String.splitOn;simp +decide [String.splitOnAux])) (by decide +kernel) (by kernel_rfl)
theorem vC:Slot "set_iterator" "__iter__" "set_iterator.__iter__" := .of (owner:= "set_iterator") (n:= "__iter__") (by rw [sH,nG];kernel_rfl) (by decide +kernel) (by decide +kernel) (by decide +kernel) (.inl (by kernel_rfl)) (by rw [bT];kernel_rfl)
theorem Vj (a:G1):IU "set_iterator.__iter__" ⟨[a],[]⟩:=by unfold IU;kernel_rfl
section
variable {prog:T3}{w:B9}{A:N6}{E:G1->G3->Prop}{s:G3}{a I tp:P3}{es:S9 (P2×G1)}{ep n i:G6}{t:N2}{ns:G0 P2}{first:G1}{vals:G0 G1}{md:G1->G6->O6->Prop}
theorem Mode.keep {f:G1}{h h':O6}(M:Mode w a es ep t vals md tp)(m:md f i h)(k: ∀o,h.get? tp=some o->h'.get? tp=some o):md f i h':=by
 cases M with
 |text b=>exact m
 |drawn b dp two ord p tp=>exact⟨m.1,m.2.at λo e=>k o e⟩
 |table b pl=>exact m
theorem PB {Q:D2 G1->G3->Prop}(ty:s.TypeIs (.ref I) "set_iterator")
 (h:R3 (R7 prog w) A.in1 (Builtin.«set_iterator.__next__» ⟨[.ref I],[]⟩) (λfin s'=> ∃v,fin= .done (.ret v)/\Q (some v) s') (λe s'=>s'.TypeIs e "StopIteration" /\Q none s') s):R3 (R7 prog w) A (pG (.ref I)) Q E s:=
 wpAny_bind (lJ (E9 (name:= "__next__") ty slot_si_next (T7 (L9 slot_si_next ty WW h (Vi _)) (λ_ _ q=>P0 q) λe s' q=>wpAny_bind (dG (b:=true) q.1 tV (P0 q.2)))))
theorem PC (calm:A.handled=none)(S:Tab (wq w) es.size t)(M:Mode w a es ep t vals md tp)(aI:a≠I)(tI:tp≠I):
 Walks prog w A I [I,a,tp] [I] vals.length (λi v=>vals[i]? =some v) (λi h=>h.get? a=some (wQ es ep t)/\ ∃first,h.get? I=some (itO first i a es.size ep)/\md first i h) where
 sub:=λb hb=>by simp only [G8] at hb;simp [hb]
 frame:=λi h h' ⟨ha,f,hI,m⟩ k=>⟨k a (by simp) _ ha,f,k I (by simp) _ hI,M.keep m λo e=>k tp (by simp) o e⟩
 item:=λi s Q E hi ⟨ha,f,hI,m⟩ q=>by
  have hx:vals[i]? =some vals[i]:=by simp [hi]
  refine PB ⟨_,hI,rfl⟩ ?_;have fin: ∀ {f':G1} h',md f' (i+1) s.heap->h'.get? I=some (itO f' (i+1) a es.size ep)->O7 I s.heap h'->Q (some vals[i]) {s with heap:=h'}:=λh' m' e same=>
   q vals[i] h' s.toks hx ⟨same.extBut _ _ aI ha,_,e,M.keep m' λo x=>same.extBut _ _ tI x⟩ λb o nb x=>same.extBut _ _ (by simpa using nb) x
  cases M with
  |text b=>
   subst m;exact Pz S b ha hI aI hx λh' e same=>fin h' rfl e same
  |drawn b dp two ord p tp=>
   obtain⟨rfl,ht⟩:=m;exact Qr S ha hI aI ht p hx λh' e same=>fin h' ⟨rfl,ht⟩ e same
  |table b pl=>
   obtain⟨slot,rfl,hs⟩:=m;exact Qs S b pl ha hI aI hs hx λh' slot' hs' e same=>fin h' ⟨slot',rfl,hs'⟩ e same
 done:=λs Q E ⟨ha,f,hI,m⟩ q=>by
  refine PB ⟨_,hI,rfl⟩ (Qt calm S M ha hI aI m (by simp) λh' e kept ⟨o,ho,hc⟩=>⟨⟨o,ho,hc⟩,q h' s.toks λb ob nb x=>kept b ob (by simpa using nb) x⟩)
 self:=λi s Q E ⟨ha,f,hI,m⟩ q=>lC ⟨_,hI,rfl⟩ vC (L9 vC ⟨_,hI,rfl⟩ WX (P0 ⟨_,rfl,_,_,⟨_,hI,rfl⟩,slot_si_next.lookup,q⟩) (Vj _))
end
theorem Jb {α:Type}: ∀ (l:G0 α) (i:G6) {x:α},l[i]? =some x->(x::l.eraseIdx i).Perm l
 | [],i,x,h=>by cases h
 |y::l,0,x,h=>by cases h;exact .refl _
 |y::l,i+1,x,h=>(G0j y x _).trans ((Jb l i h).cons y)
theorem PD {α:Type}(next:G6->G6): ∀ (fuel k:G6) (left:G0 α) (out:S9 α),left.length=fuel->(pickOrder.go next fuel k left out).toList.Perm (out.toList++left)
 |0,k,left,out,h=>by
  rw [J6 h,E7];exact .refl _
 |fuel+1,k,left,out,h=>by
  unfold pickOrder.go;have lt:next k%left.length<left.length:=X9 _ (by omega);have hx:left[next k%left.length]? =some left[next k%left.length]:=by simp [lt]
  rw [hx];refine(PD next fuel (k+1) _ _ (by rw [j5 lt];omega)).trans ?_;rw [Q8,D5];exact(Jb left _ hx).append_left _
theorem PF {α:Type}(next:G6->G6)(xs:S9 α):(pickOrder next xs).toList.Perm xs.toList:=by
 have:=PD next xs.size 0 xs.toList #[] (by simp);rw [Array.toList_empty,A4] at this;exact this
section
variable {prog:T3}{w:B9}{A:N6}{E:G1->G3->Prop}{s:G3}{a I tp:P3}{es:S9 (P2×G1)}{ep n i:G6}{t:N2}{ns:G0 P2}{first:G1}{vals:G0 G1}{md:G1->G6->O6->Prop}
theorem Mode.perm (M:Mode w a es ep t vals md tp):vals.Perm (es.toList.map (·.2)):=by
 cases M with
 |text b=>exact(PF _ es).map _
 |drawn b dp two ord p tp=>
  refine(p.map _).trans ?_;have:(D4 es.size).map (λj=>(es.getD j (0,.none)).2)=es.toList.map (·.2):=by
   refine cP λj=> ?_
   rw [D3,D3]
   by_cases hj:j<es.size
   ·rw [W8 hj];simp [hj,tT]
   ·rw [F7 (by simpa using hj),F7 (by simpa using hj)];rfl
  rw [this]
 |table b pl=>exact .refl _
theorem Xl {α:Type}{Q:G0 α->G3->Prop}: ∀ (n:G6) (xs:G0 α) (s:G3),xs.length=n->(∀ys d,ys.Perm xs->Q ys {s with drawn:=d})->R3 (R7 prog w) A (drawOrder n xs) Q E s
 |0,xs,s,h,q=>by
  rw [J6 h] at q;exact P0 (q [] s.drawn (.refl _))
 |n+1,[],s,h,q=>by cases h
 |n+1,x::r,s,h,q=>by
  have pickd: ∀ {P:G6->G3->Prop} {E':G1->G3->Prop},(∀i d,i<(x::r).length->P i {s with drawn:=d})->R3 (R7 prog w) A (choose .order (x::r).length) P E' s:=λp _ _ _=>⟨by simp,p _ _ (X9 _ (by simp))⟩
  refine wpAny_bind (pickd λi d hi=> ?_);have hx:(x::r)[i]? =some (x::r)[i]:=by rw [G2 hi]
  rw [hx];refine wpAny_bind (Xl n _ {s with drawn:=d} (by rw [j5 hi];simp at h ⊢;omega) λys d' p=>P0 (q _ d' ?_));exact(p.cons _).trans (Jb _ _ hx)
theorem Mp {Q:G1->G3->Prop}(S:Tab (wq w) es.size t)(ha:s.heap.get? a=some (wQ es ep t))(few:es.size<1000)
 (k: ∀h' d I tp vals md first,Mode w a es ep t vals md tp->(∀b o,s.heap.get? b=some o->h'.get? b=some o)->s.heap.objs.size<=I->tp≠I->(tp=a\/s.heap.objs.size<=tp)->tp<h'.objs.size->h'.get? I=some (itO first 0 a es.size ep)->md first 0 h'->Q (.ref I) {s with heap:=h',drawn:=d}):
 R3 (R7 prog w) A (pH (.ref a)) Q E s:=by
 have ty:s.TypeIs (.ref a) "set" :=⟨_,ha,rfl⟩;have told: ∀ {Q:sU->G3->Prop} {E':G1->G3->Prop} {A':N6} {s':G3},Q ⟨prog,w.params⟩ s'->R3 (R7 prog w) A' ask Q E' s':=λq=>aK q
 have state:=λ{P:S9 (P2×G1)×G6×N2->G3->Prop} {E':G1->G3->Prop} {A':N6} {s':G3} (e:s'.heap.get? a=some (wQ es ep t))=>A9 (prog:=prog) (w:=w) (A:=A') (E:=E') (Q:=P) (s:=s') e rfl S.fits
 refine lC ty sI (L9 sI ty ZP ?_ (F.args_set_iter_1 _));have state0:=λ{P:S9 (P2×G1)×G6×N2->G3->Prop} {E':G1->G3->Prop} {A':N6}=>state (P:=P) (E':=E') (A':=A') (s':=s) ha
 cases b:w.params.followText "set-order" with
 |true=>
  wp_walk using state0,told
  have at_:(s.heap.push (itO (K1 0) 0 a es.size ep)).get? s.heap.objs.size=some (itO (K1 0) 0 a es.size ep):=S5 _ rfl;have nI:a≠s.heap.objs.size:=λz=>B7 _ (z ▸ R0 ha)
  refine⟨_,rfl,"set_iterator",_,⟨_,at_,rfl⟩,slot_si_next.lookup,?_⟩;exact k _ s.drawn s.heap.objs.size a _ _ (K1 0) (.text b) (λb o e=>G9 _ e) (P6 _) nI (.inl rfl) (R0 (G9 _ ha)) at_ rfl
 |false=>
  cases dd:(!t.plain&&decide (es.size>1)) with
  |false=>
   have pl:t.plain=true\/es.size<=1:=by
    cases hp:t.plain with
    |true=>exact .inl rfl
    |false=>rw [hp] at dd;have:=j6 (show decide (es.size>1)=false from dd);exact .inr (by omega)
   have at_:(s.heap.push (itO (K1 0) 0 a es.size ep)).get? s.heap.objs.size=some (itO (K1 0) 0 a es.size ep):=S5 _ rfl;have nI:a≠s.heap.objs.size:=λz=>B7 _ (z ▸ R0 ha)
   have zero:T8 t.place 0=0:=by
    obtain⟨b1,_,b3⟩:=vB (S.rise pl) 0;rcases j7 (T8 t.place 0) with z|z
    ·exact z
    ·have h0:0<t.place.size:=by omega
     exact absurd (b1 0 z _ (by simp [h0]:t.place[0]? =some t.place[0])) (Q0 _)
   have fin:=k _ s.drawn s.heap.objs.size a _ _ (K1 0) (.table b pl) (λb o e=>G9 _ e) (P6 _) nI (.inl rfl) (R0 (G9 _ ha)) at_ ⟨0,rfl,zero⟩
   wp_walk using state0,told
   split
   ·rename_i z;have z':(!w.params.followText "set-order" &&(!t.plain&&decide (es.size>1)))=true:=z;rw [b,dd] at z';cases z'
   wp_walk using state0
   exact⟨_,rfl,"set_iterator",_,⟨_,at_,rfl⟩,slot_si_next.lookup,fin⟩
  |true=>
   have pf:t.plain=false/\1<es.size:=by
    rw [C6] at dd;exact⟨by simpa using dd.1,H0 dd.2⟩
   wp_walk using state0,told
   split
   rotate_left
   ·rename_i z;exact(z (show (!w.params.followText "set-order" &&(!t.plain&&decide (es.size>1)))=true by rw [b,dd];rfl)).elim
   refine wpAny_bind (Xl es.size (D4 es.size) s (by simp) λord d p=> ?_);have len:ord.length=es.size:=by rw [p.length_eq];simp
   have t0:(s.heap.push {cls:= .type "tuple",data:= .seq (ord.map λ(i:G6)=>K1 i).toArray}).get? s.heap.objs.size=some {cls:= .type "tuple",data:= .seq (ord.map λ(i:G6)=>K1 i).toArray}:=S5 _ rfl;refine wpAny_bind (tW ?_ (by rw [G5,len];exact S0 (M0 few) (by decide)));have ha1:(s.heap.push {cls:= .type "tuple",data:= .seq (ord.map λ(i:G6)=>K1 i).toArray}).get? a=some (wQ es ep t):=G9 _ ha;have state1:=λ{P:S9 (P2×G1)×G6×N2->G3->Prop} {E':G1->G3->Prop} {A':N6}=>state (P:=P) (E':=E') (A':=A') (s':= {s with heap:=s.heap.push {cls:= .type "tuple",data:= .seq (ord.map λ(i:G6)=>K1 i).toArray},drawn:=d}) ha1
   wp_walk using state1
   have at_:=S5 (s.heap.push {cls:= .type "tuple",data:= .seq (ord.map λ(i:G6)=>K1 i).toArray}) (o:=itO (.ref s.heap.objs.size) 0 a es.size ep) rfl;have lt1:s.heap.objs.size<(s.heap.push {cls:= .type "tuple",data:= .seq (ord.map λ(i:G6)=>K1 i).toArray}).objs.size:=R0 t0;refine⟨_,rfl,"set_iterator",_,⟨_,at_,rfl⟩,slot_si_next.lookup,?_⟩;exact k _ d _ s.heap.objs.size _ _ (.ref s.heap.objs.size) (.drawn b pf.1 pf.2 ord p s.heap.objs.size) (λb o e=>G9 _ (G9 _ e)) (M0 lt1) (M1 lt1) (.inr (P6 _)) (R0 (G9 _ t0)) at_ ⟨rfl,⟨_,G9 _ t0,rfl,0,rfl⟩⟩
end
section
variable {prog:T3}{w:B9}{A:N6}{E:G1->G3->Prop}{s:G3}{a:P3}{es:S9 (P2×G1)}{ep:G6}{t:N2}{ns:G0 P2}
theorem Mq {Q:N0->G3->Prop}(ty:s.TypeIs (.ref a) "set")(q:Q false s):R3 (R7 prog w) A (iP (.ref a)) Q E s:=by
 have parts:splitId "set.__len__" =some ("set","__len__"):=by decide +kernel
 have f2:=yW;unfold iP;refine wpAny_bind (X0 ty F.slot_set_len.lookup ?_);dsimp only;rw [parts];dsimp only
 wp_walk
 exact q
def Ao (s:G3)(es:S9 (P2×G1))(r:pI)(s':G3):Prop:=
 ∃h' d tk acc c,r= .ok (.ret (.ref s.heap.objs.size))/\s'= {s with heap:=h',drawn:=d,toks:=tk}/\h'.get? s.heap.objs.size=some {cls:= .type "list",dict:=none,data:= .seq acc c,slots:= #[]}/\(∀b o,s.heap.get? b=some o->h'.get? b=some o)/\acc.toList.Perm (es.toList.map (·.2))
theorem Qu (calm:A.handled=none)(S:Tab (wq w) es.size t)(ha:s.heap.get? a=some (wQ es ep t))(few:es.size<1000):
 aZ (R7 prog w) A (.builtin "proto.collect" ⟨[.ref a],[]⟩) (Ao s es) s:=by
 have nS:s.heap.objs.size≠a:=λz=>B7 _ (z ▸ R0 ha)
 have old: ∀ {b o o'},s.heap.get? b=some o->(s.heap.push o').get? b=some o:=λe=>G9 _ e
 refine aC F.entry_proto_collect ?_
 wp_walk
 refine⟨iC qI _,aC F.entry_list_iadd ?_⟩;rw [Y5 qI];have ha1:(s.heap.push {cls:= .type "list",data:= .seq #[]}).get? a=some (wQ es ep t):=old ha;have hS:(s.heap.push {cls:= .type "list",data:= .seq #[]}).get? s.heap.objs.size=some {cls:= .type "list",data:= .seq #[]}:=S5 _ rfl;have ty:Shared.TypeIs {s with heap:=s.heap.push {cls:= .type "list",data:= .seq #[]}} (.ref a) "set" :=⟨_,ha1,rfl⟩;have other:lK (.ref s.heap.objs.size) (.ref a)=false:=by simp [lK,nS]
 have iter:=λ{P:G1->G3->Prop} {E':G1->G3->Prop} {A':N6}=>Mp (prog:=prog) (w:=w) (A:=A') (E:=E') (Q:=P) (s:= {s with heap:=s.heap.push {cls:= .type "list",data:= .seq #[]}}) S ha1 (by omega)
 show R3 _ A.in1 (sV (.ref s.heap.objs.size) (.ref a) (.ref s.heap.objs.size)) _ _ _
 wp_walk using iter
 intro h1 d I tp vals md first M kept lo tI tpo tpl hI hm
 have ha2:h1.get? a=some (wQ es ep t):=kept _ _ ha1;have hS2:h1.get? s.heap.objs.size=some {cls:= .type "list",data:= .seq #[]}:=kept _ _ hS;have ty2:Shared.TypeIs {s with heap:=h1,drawn:=d} (.ref a) "set" :=⟨_,ha2,rfl⟩;refine wpAny_bind (O1 (Mq ty2 ?_))
 wp_walk
 have lt:a<s.heap.objs.size:=R0 ha;have e1:(s.heap.push {cls:= .type "list",data:= .seq #[]}).objs.size=s.heap.objs.size+1:=cU ..;have lo':s.heap.objs.size+1<=I:=by rw [<-e1];exact lo
 have aI:a≠I:=λz=>by subst z;exact absurd lt (aA.mpr (qJ lo'))
 have SI:s.heap.objs.size≠I:=M1 lo';have Stp:s.heap.objs.size≠tp:=by
  rcases tpo with z|z
  ·rw [z];exact nS
  ·exact M1 (N7 (by rw [e1];exact J0 _) z)
 have hS3:=L6 (Z8 λx=>x.push iT) hS2 rfl;have hS4:=L6 (Z8 λx=>x.pop) hS3 rfl;have same:O7 s.heap.objs.size h1 ((h1.update s.heap.objs.size (Z8 λx=>x.push iT)).update s.heap.objs.size (Z8 λx=>x.pop)):=(O5 ..).trans (O5 ..);have W:=PC (prog:=prog) (A:=A.in1) calm S M aI tI;refine⟨iC F.plain_extend_loop _,codeAny_extend_loopS W.toS ?_ s.heap.objs.size (by simp [SI,nS,Stp]) _ vals.length 0 _ #[] _ rfl (N9 _) ⟨same.extBut _ _ nS.symm ha2,first,same.extBut _ _ SI.symm hI,M.keep hm λo e=>same.extBut _ _ Stp.symm e⟩ hS4 (ItemsOf.nil _) λs' acc c' moved hS' items=> ?_⟩
 ·rw [M.perm.length_eq,G5,D1];exact S0 (M0 few) (by decide)
 have same_vals:acc.toList=vals:=by
  refine cP λi=> ?_
  rw [N5];cases e:acc[i]? with
  |some v=>exact(items.2 i v e).symm
  |none=>
   have:vals.length<=i:=by rw [<-items.1];exact cY.mp e
   exact(F7 this).symm
 obtain⟨h',g',d',tk',os'⟩:=s';have mg:g'=s.gens:=moved.gens;have md':d'=d:=moved.drawn;have mo:os'=s.os:=moved.os;subst mg md' mo;refine⟨h',d',tk',acc,c',rfl,rfl,hS',λb o e=> ?_,by rw [same_vals];exact M.perm⟩;have lb:=R0 e;have nb:b≠s.heap.objs.size:=M1 lb;have nbI:b≠I:=λz=>by subst z;exact absurd lb (aA.mpr (qJ lo'))
 exact moved.heap b o (by simp [nb,nbI]) (same.extBut _ _ nb (kept _ _ (old e)))
end
end HT
namespace L2
open PySem PySem.Spec PyProof.Rows PySem.SeqAt
theorem Inv.drew {X:Cx}{pins:G0 (P3×Obj)}{σ:St}{H:Hp}{s:G3}(I:Inv X pins σ H s)(d:Drawn):Inv X pins σ H {s with drawn:=d}:=⟨I.ok,I.os,I.bare,I.base,I.loc,I.cell,I.free,I.freeC,I.pin,I.hok,I.len⟩
end L2
namespace L2
theorem IsS.ext {n:G6}{S S':G0 G6}(h:IsS n S)(h':IsS n S')(m: ∀j,j∈S↔j∈S'):S=S':=by
 obtain⟨p,rfl⟩:=h;obtain⟨q,rfl⟩:=h';refine lD λj hj=> ?_
 have:=m j;rw [C1,C1] at this;have e:p j=true↔q j=true:=⟨λz=>(this.mp ⟨hj,z⟩).2,λz=>(this.mpr ⟨hj,z⟩).2⟩;cases hp:p j<;>cases hq:q j<;>simp_all
inductive Made (L:G0 G6):G6->Prop
 |z:Made L 0
 |s {n l:G6}:Made L n->l∈L->Made L (n+l)
theorem Xm: ∀ (L:G0 G6) (g d:G6),d∣L.foldl sW g↔d∣g/\ ∀l∈L,d∣l
 | [],g,d=>by simp
 |x::L,g,d=>by
  show d∣L.foldl sW (sW g x)↔_;rw [Xm L,Nat.dvd_gcd_iff];simp only [R5,forall_eq_or_imp];exact⟨λ⟨⟨a,b⟩,c⟩=>⟨a,b,c⟩,λ⟨a,b,c⟩=>⟨⟨a,b⟩,c⟩⟩
end L2
namespace HT
open PySem PyProof.Rows
section
variable {prog:T3}{w:B9}{A:N6}{E:G1->G3->Prop}{σ α β:Type}{J:G3->Prop}
def Tm (prog:T3)(w:B9)(A:N6)(E:G1->G3->Prop)(J:G3->Prop){σ α:Type}(m:Y6 σ Sem α)(Q:α->σ->Prop)(st:σ):Prop:=
 ∀s,J s->R3 (R7 prog w) A (m.run st) (λr s'=>Q r.1 r.2/\J s') E s
theorem Tm.pure {a:α}{Q:α->σ->Prop}{st:σ}(h:Q a st):Tm prog w A E J (Pure.pure a:Y6 σ Sem α) Q st:=λs j=>by
 rw [StateT.run_pure];exact P0 ⟨h,j⟩
theorem Tm.bind {m:Y6 σ Sem α}{f:α->Y6 σ Sem β}{Q:β->σ->Prop}{st:σ}(h:Tm prog w A E J m (λa st'=>Tm prog w A E J (f a) Q st') st):Tm prog w A E J (m >>= f) Q st:=λs j=>by
 rw [StateT.run_bind];exact wpAny_bind (T7 (h s j) (λr s' x=>x.1 s' x.2) λ_ _ e=>e)
theorem Tm.get {Q:σ->σ->Prop}{st:σ}(h:Q st st):Tm prog w A E J (MonadState.get:Y6 σ Sem σ) Q st:=λs j=>by
 show R3 _ _ ((StateT.get:Y6 σ Sem σ).run st) _ _ _;exact P0 ⟨h,j⟩
theorem Tm.mono {m:Y6 σ Sem α}{Q Q':α->σ->Prop}{st:σ}(h:Tm prog w A E J m Q st)(q: ∀a st',Q a st'->Q' a st'):Tm prog w A E J m Q' st:=λs j=>
 T7 (h s j) (λr s' x=>⟨q _ _ x.1,x.2⟩) λ_ _ e=>e
theorem Tm.range' {f:G6->β->Y6 σ Sem (fV β)}(I:G6->β->σ->Prop){Q:β->σ->Prop}{b:G6}(step: ∀i c st,i<b->I i c st->Tm prog w A E J (f i c) (λr st'=>match r with| .done c'=>Q c' st'| .yield c'=>I (i+1) c' st') st)(fin: ∀c st,I b c st->Q c st):
 ∀ (k i:G6) (c:β) (st:σ),i+k=b->I i c st->Tm prog w A E J (forIn (List.range' i k) c f) Q st
 |0,i,c,st,e,h=>by
  rw [List.range'_zero,List.forIn_nil];exact .pure (fin c st (by rw [<-e];exact h))
 |k+1,i,c,st,e,h=>by
  rw [List.range'_succ,cC];refine .bind ((step i c st (by omega) h).mono λr st' x=> ?_);cases r with
  |done c'=>exact .pure x
  |yield c'=>exact Tm.range' I step fin k (i+1) c' st' (by omega) x
theorem Tm.range {f:G6->β->Y6 σ Sem (fV β)}(I:G6->β->σ->Prop){Q:β->σ->Prop}{a b:G6}{c:β}{st:σ}(hab:a<=b)(h:I a c st)(step: ∀i c st,i<b->I i c st->Tm prog w A E J (f i c) (λr st'=>match r with| .done c'=>Q c' st'| .yield c'=>I (i+1) c' st') st)(fin: ∀c st,I b c st->Q c st):
 Tm prog w A E J (forIn [a:b] c f) Q st:=λs j=>by
 rw [Std.Legacy.Range.forIn_eq_forIn_range'];have e:([a:b]:Std.Legacy.Range).size=b-a:=by simp [Std.Legacy.Range.size]
 rw [e];exact Tm.range' I step fin (b-a) a c st (by omega) h s j
end
section
variable {prog:T3}{w:B9}{A:N6}{E:G1->G3->Prop}{J:G3->Prop}{κ:SortKind}{U:D7->Prop}{R:D7->D7->N0}
def WY (prog:T3)(w:B9)(A:N6)(J:G3->Prop)(κ:SortKind)(U:D7->Prop)(R:D7->D7->N0):Prop:=
 ∀x y,U x->U y-> ∀s,J s->R3 (R7 prog w) A (keyLt' κ x.1 y.1) (λb s'=>b=R x y/\J s') (λ_ _=>False) s
theorem Tm.lt {x y:D7}{st:C5}{Q:D2 N0->C5->Prop}(a:WY prog w A J κ U R)(k:kindOf st=κ)(hx:U x)(hy:U y)(q:Q (some (R x y)) st):Tm prog w A E J (lt' x y) Q st:=by
 rw [lt'_eq];refine .bind (.get ?_);rw [k];intro s j;rw [StateT.run_bind];refine wpAny_bind ?_;show R3 _ _ ((StateT.lift _:Y6 C5 Sem _).run st) _ _ _;rw [StateT.run_lift];refine wpAny_bind (lJ (T7 (a x y hx hy s j) (λb s' x=> ?_) λ_ _ e=>e.elim));obtain⟨rfl,j'⟩:=x;exact P0 (Tm.pure (prog:=prog) (w:=w) (A:=A) (E:=E) (J:=J) q s' j')
theorem Tm.elem {arr:S9 D7}{i:G6}{x:D7}{st:C5}{Q:D7->C5->Prop}(e:arr[i]? =some x)(q:Q x st):Tm prog w A E J (elem' arr i) Q st:=by
 rw [elem'_eq,e];exact .pure q
theorem Ap {n lo hi:G6}{g:G6->N0}{st:C5}{f:G6->D2 (D2 G6)×G6×G6->Y6 C5 Sem (fV (D2 (D2 G6)×G6×G6))}(anti: ∀i j,i<=j->j<n->g j=true->g i=true)
 (h1:lo<=hi)(h2:hi<=n)(a1: ∀i,i<lo->g i=true)(a2: ∀i,hi<=i->i<n->g i=false)
 (stop: ∀i l,Tm prog w A E J (f i (none,l,l)) (λr st'=>st'=st/\r= .done (none,l,l)) st)
 (step: ∀i l u,l<u->u<=n->Tm prog w A E J (f i (none,l,u)) (λr st'=>st'=st/\r=if g (l+(u-l) / 2)=true then .yield (none,l+(u-l) / 2+1,u) else .yield (none,l,l+(u-l) / 2)) st):
 Tm prog w A E J (forIn [0:n] (none,lo,hi) f) (λc st'=>st'=st/\c.1=none/\c.2.2<=n/\(∀i,i<c.2.2->g i=true)/\ ∀i,c.2.2<=i->i<n->g i=false) st:=by
 have no: ∀i j,i<=j->j<n->g i=false->g j=false:=λi j hij hj z=>by
  cases hb:g j with
  |false=>rfl
  |true=>rw [anti i j hij hj hb] at z;cases z
 refine Tm.range (λi c st'=>st'=st/\c.1=none/\c.2.1<=c.2.2/\c.2.2<=n/\(∀i,i<c.2.1->g i=true)/\(∀i,c.2.2<=i->i<n->g i=false)/\c.2.2-c.2.1+i<=n) (N9 _) ⟨rfl,rfl,h1,h2,a1,a2,by dsimp only;omega⟩ ?_ ?_
 ·rintro i ⟨r,l,u⟩ _ hi ⟨rfl,hr,b1,b2,b3,b4,b5⟩;dsimp only at hr b1 b2 b3 b4 b5;subst hr
  by_cases z:l=u
  ·subst z;refine(stop i l).mono ?_;rintro _ _ ⟨rfl,rfl⟩;exact⟨rfl,rfl,b2,b3,b4⟩
  ·refine(step i l u (by omega) b2).mono ?_;rintro _ _ ⟨rfl,rfl⟩;cases hg:g (l+(u-l) / 2) with
   |true=>
    rw [R8 rfl];exact⟨rfl,rfl,by dsimp only;omega,b2,λj hj=>anti j _ (by dsimp only at hj;omega) (by omega) hg,b4,by dsimp only;omega⟩
   |false=>
    rw [R9 (by decide)];exact⟨rfl,rfl,by dsimp only;omega,by dsimp only;omega,b3,λj hj hn=>no _ j hj hn hg,by dsimp only;omega⟩
 ·rintro ⟨r,l,u⟩ _ ⟨rfl,hr,b1,b2,b3,b4,b5⟩;dsimp only at hr b1 b2 b3 b4 b5 ⊢;exact⟨rfl,hr,b2,λj hj=>b3 j (by omega),b4⟩
def gal:N0->D7->S9 D7->G6->G6->G6->Y6 C5 Sem (D2 G6):=sortPriv% PySem.Builtin.gallop
def byd (R:D7->D7->N0)(left:N0)(key:D7)(arr:S9 D7)(base i:G6):N0:=
 match arr[base+i]? with
 |some x=>if left=true then R x key else !R key x
 |none=>false
theorem PH {left:N0}{key:D7}{arr:S9 D7}{base n hint:G6}{st:C5}{Q:D2 G6->C5->Prop}(a:WY prog w A J κ U R)(k:kindOf st=κ)(uk:U key)(ua: ∀i,i<n-> ∃x,arr[base+i]? =some x/\U x)
 (anti: ∀i j,i<=j->j<n->byd R left key arr base j=true->byd R left key arr base i=true)(hh:hint<n)
 (q: ∀m,m<=n->(∀i,i<m->byd R left key arr base i=true)->(∀i,m<=i->i<n->byd R left key arr base i=false)->Q (some m) st):Tm prog w A E J (gal left key arr base n hint) Q st:=by
 have ask: ∀i (Q':D2 N0->C5->Prop),i<n->Q' (some (byd R left key arr base i)) st->Tm prog w A E J (do let x <-elem' arr (base+i);if left=true then lt' x key else do let b <-lt' key x;Pure.pure (b.map λz=> !z)) Q' st:=λi Q' hi q'=>by
  obtain⟨x,ex,ux⟩:=ua i hi;refine .bind (.elem ex ?_);unfold byd at q';rw [ex] at q';cases left with
  |true=>exact .lt a k ux uk q'
  |false=>exact .bind (.lt a k uk ux (.pure q'))
 have no: ∀i j,i<=j->j<n->byd R left key arr base i=false->byd R left key arr base j=false:=λi j hij hj z=>by
  cases hb:byd R left key arr base j with
  |false=>rfl
  |true=>rw [anti i j hij hj hb] at z;cases z
 unfold gal;refine .bind (ask hint _ hh ?_);dsimp only;cases hb:byd R left key arr base hint with
 |true=>
  rw [R8 rfl];refine .bind (Tm.mono (Tm.range (λi c st'=>st'=st/\c.1=none/\c.2.1<c.2.2/\hint+c.2.1<n/\byd R left key arr base (hint+c.2.1)=true/\i+1<=c.2.2)
   (Q:=λc st'=>st'=st/\c.1=none/\c.2.1<c.2.2/\hint+c.2.1<n/\byd R left key arr base (hint+c.2.1)=true/\(n-hint<=c.2.2\/byd R left key arr base (hint+c.2.2)=false)) (N9 _) ⟨rfl,rfl,by decide,by omega,by simpa using hb,by decide⟩ ?_ ?_) ?_)
  ·rintro i ⟨r,lo,of⟩ _ hi ⟨rfl,hr,h1,h2,h3,h4⟩;dsimp only at hr h1 h2 h3 h4 ⊢;subst hr
   by_cases z:of>=n-hint
   ·rw [R8 z];exact .pure ⟨rfl,rfl,h1,h2,h3,.inl z⟩
   ·rw [R9 z];refine .bind (ask (hint+of) _ (by omega) ?_);dsimp only;cases hc:byd R left key arr base (hint+of) with
    |true=>exact .pure ⟨rfl,rfl,by dsimp only;omega,by dsimp only;omega,hc,by dsimp only;omega⟩
    |false=>exact .pure ⟨rfl,rfl,h1,h2,h3,.inr hc⟩
  ·rintro ⟨r,lo,of⟩ _ ⟨rfl,hr,h1,h2,h3,h4⟩;exact⟨rfl,hr,h1,h2,h3,.inl (by dsimp only at h4 ⊢;omega)⟩
  ·rintro ⟨r,lo,of⟩ _ ⟨rfl,hr,h1,h2,h3,h4⟩;dsimp only at hr h1 h2 h3 h4 ⊢;subst hr;dsimp only;refine .bind (Tm.mono (Ap (g:=byd R left key arr base) anti (by omega) (by omega) (λi hi=>anti i _ (by omega) h2 h3) (λi hi hn=> ?_) (λi l=> ?_) (λi l u hl hu=> ?_)) ?_)
   ·rcases h4 with z|z
    ·omega
    ·exact no (hint+of) i (by omega) hn z
   ·rw [R8 (P6 l)];exact .pure ⟨rfl,rfl⟩
   ·rw [R9 (show ¬l>=u by omega)];refine .bind (ask (l+(u-l) / 2) _ (by omega) ?_);dsimp only;cases byd R left key arr base (l+(u-l) / 2)<;>exact .pure ⟨rfl,rfl⟩
   ·rintro ⟨r,l,u⟩ _ ⟨rfl,hr,b2,b3,b4⟩;dsimp only at hr b2 b3 b4 ⊢;subst hr;exact .pure (q u b2 b3 b4)
 |false=>
  rw [R9 (by decide)];refine .bind (Tm.mono (Tm.range (λi c st'=>st'=st/\c.1=none/\c.2.1<c.2.2/\c.2.1<=hint/\byd R left key arr base (hint-c.2.1)=false/\i+1<=c.2.2)
   (Q:=λc st'=>st'=st/\c.1=none/\c.2.1<c.2.2/\c.2.1<=hint/\byd R left key arr base (hint-c.2.1)=false/\(hint+1<=c.2.2\/byd R left key arr base (hint-c.2.2)=true)) (N9 _) ⟨rfl,rfl,by decide,by dsimp only;omega,by simpa using hb,by decide⟩ ?_ ?_) ?_)
  ·rintro i ⟨r,lo,of⟩ _ hi ⟨rfl,hr,h1,h2,h3,h4⟩;dsimp only at hr h1 h2 h3 h4 ⊢;subst hr
   by_cases z:of>=hint+1
   ·rw [R8 z];exact .pure ⟨rfl,rfl,h1,h2,h3,.inl z⟩
   ·rw [R9 z];refine .bind (ask (hint-of) _ (by omega) ?_);dsimp only;cases hc:byd R left key arr base (hint-of) with
    |false=>exact .pure ⟨rfl,rfl,by dsimp only;omega,by dsimp only;omega,hc,by dsimp only;omega⟩
    |true=>exact .pure ⟨rfl,rfl,h1,h2,h3,.inr hc⟩
  ·rintro ⟨r,lo,of⟩ _ ⟨rfl,hr,h1,h2,h3,h4⟩;exact⟨rfl,hr,h1,h2,h3,.inl (by dsimp only at h4 ⊢;omega)⟩
  ·rintro ⟨r,lo,of⟩ _ ⟨rfl,hr,h1,h2,h3,h4⟩;dsimp only at hr h1 h2 h3 h4 ⊢;subst hr;dsimp only;refine .bind (Tm.mono (Ap (g:=byd R left key arr base) anti (by omega) (by omega) (λi hi=> ?_) (λi hi hn=>no _ i hi hn h3) (λi l=> ?_) (λi l u hl hu=> ?_)) ?_)
   ·rcases h4 with z|z
    ·omega
    ·exact anti i (hint-of) (by omega) (by omega) z
   ·rw [R8 (P6 l)];exact .pure ⟨rfl,rfl⟩
   ·rw [R9 (show ¬l>=u by omega)];refine .bind (ask (l+(u-l) / 2) _ (by omega) ?_);dsimp only;cases byd R left key arr base (l+(u-l) / 2)<;>exact .pure ⟨rfl,rfl⟩
   ·rintro ⟨r,l,u⟩ _ ⟨rfl,hr,b2,b3,b4⟩;dsimp only at hr b2 b3 b4 ⊢;subst hr;exact .pure (q u b2 b3 b4)
end
section
variable {κ:Type}{U:κ->Prop}{R:κ->κ->N0}{al bl:G0 κ}
structure Ordd (U:κ->Prop)(R:κ->κ->N0):Prop where
 asym: ∀x y,U x->U y->R x y=true->R y x=false
 neg: ∀x y z,U x->U y->U z->R x z=true->R x y=true\/R y z=true
theorem Ordd.refl (o:Ordd U R){x:κ}(u:U x):R x x=false:=by
 cases h:R x x with
 |false=>rfl
 |true=>have:=o.asym x x u u h;rw [h] at this;exact this
theorem Ordd.trans (o:Ordd U R){x y z:κ}(ux:U x)(uy:U y)(uz:U z)(a:R y x=false)(b:R z y=false):R z x=false:=by
 cases h:R z x with
 |false=>rfl
 |true=>
  rcases o.neg z y x uz uy ux h with z|z
  ·rw [b] at z;cases z
  ·rw [a] at z;cases z
abbrev Srt (R:κ->κ->N0)(l:G0 κ):Prop:=l.Pairwise λx y=>R y x=false
structure MI (R:κ->κ->N0)(al bl:G0 κ)(ia ib:G6)(out:G0 κ):Prop where
 perm:out.Perm (al.take ia++bl.take ib)
 srt:Srt R out
 ra: ∀x∈out,∀y∈al.drop ia,R y x=false
 rb: ∀x∈out,∀y∈bl.drop ib,R y x=false
theorem zd {l:G0 κ}{i:G6}{y:κ}(h:l[i]? =some y):l.drop i=y::l.drop (i+1):=by
 obtain⟨hi,e⟩:=P9.mp h;rw [List.drop_eq_getElem_cons hi,e]
theorem Zq {l:G0 κ}{i:G6}{y:κ}(h:l[i]? =some y):l.take (i+1)=l.take i++ [y]:=by
 rw [F8,h];rfl
theorem MI.start (al bl:G0 κ):MI R al bl 0 0 []:=⟨.refl _,.nil,λx hx=>(C9 hx).elim,λx hx=>(C9 hx).elim⟩
variable {ia ib:G6}
theorem MI.pushB {out:G0 κ}{y:κ}(m:MI R al bl ia ib out)(o:Ordd U R)(ua: ∀x∈al,U x)(ub: ∀x∈bl,U x)(sa:Srt R al)(sb:Srt R bl)(hy:bl[ib]? =some y)(lt: ∀z,al[ia]? =some z->R y z=true):MI R al bl ia (ib+1) (out++ [y]):=by
 have dy:=zd hy;have uy:=ub y (P8 hy);have sdb:Srt R (bl.drop ib):=sb.sublist (Q9 _ _);rw [dy] at sdb;refine⟨?_,?_,λx hx z hz=> ?_,λx hx z hz=> ?_⟩
 ·rw [Zq hy,<-D5];exact m.perm.append_right _
 ·refine B2.mpr ⟨m.srt,J1 _ _,λx hx z hz=> ?_⟩;rw [G8.mp hz];exact m.rb x hx y (by rw [dy];exact P4 ..)
 ·rcases D8.mp hx with w|w
  ·exact m.ra x w z hz
  ·rw [G8.mp w];cases e:al[ia]? with
   |none=>rw [E1 (kO.mp e)] at hz;cases hz
   |some a0=>
    have da:=zd e;have ua0:=ua a0 (P8 e);have sda:Srt R (al.drop ia):=sa.sublist (Q9 _ _);rw [da] at sda hz;have l0:=o.asym y a0 uy ua0 (lt a0 e);rcases R5.mp hz with v|v
    ·rw [v];exact l0
    ·exact o.trans uy ua0 (ua z (L8 v)) l0 ((X7.mp sda).1 z v)
 ·rcases D8.mp hx with w|w
  ·exact m.rb x w z (by rw [dy];exact R1 _ hz)
  ·rw [G8.mp w];exact(X7.mp sdb).1 z hz
theorem MI.pushA {out:G0 κ}{y:κ}(m:MI R al bl ia ib out)(o:Ordd U R)(ua: ∀x∈al,U x)(ub: ∀x∈bl,U x)(sa:Srt R al)(sb:Srt R bl)(hy:al[ia]? =some y)(ge: ∀z,bl[ib]? =some z->R z y=false):MI R al bl (ia+1) ib (out++ [y]):=by
 have dy:=zd hy;have uy:=ua y (P8 hy);have sda:Srt R (al.drop ia):=sa.sublist (Q9 _ _);rw [dy] at sda;refine⟨?_,?_,λx hx z hz=> ?_,λx hx z hz=> ?_⟩
 ·rw [Zq hy];refine(m.perm.append_right [y]).trans ?_;rw [D5,D5];exact(cJ).append_left _
 ·refine B2.mpr ⟨m.srt,J1 _ _,λx hx z hz=> ?_⟩;rw [G8.mp hz];exact m.ra x hx y (by rw [dy];exact P4 ..)
 ·rcases D8.mp hx with w|w
  ·exact m.ra x w z (by rw [dy];exact R1 _ hz)
  ·rw [G8.mp w];exact(X7.mp sda).1 z hz
 ·rcases D8.mp hx with w|w
  ·exact m.rb x w z hz
  ·rw [G8.mp w];cases e:bl[ib]? with
   |none=>rw [E1 (kO.mp e)] at hz;cases hz
   |some b0=>
    have db:=zd e;have ub0:=ub b0 (P8 e);have sdb:Srt R (bl.drop ib):=sb.sublist (Q9 _ _);rw [db] at sdb hz;have l0:=ge b0 e;rcases R5.mp hz with v|v
    ·rw [v];exact l0
    ·exact o.trans uy ub0 (ub z (L8 v)) l0 ((X7.mp sdb).1 z v)
theorem MI.manyA (o:Ordd U R)(ua: ∀x∈al,U x)(ub: ∀x∈bl,U x)(sa:Srt R al)(sb:Srt R bl): ∀ (k:G6) {ia:G6} {out:G0 κ},MI R al bl ia ib out->ia+k<=al.length->(∀i,i<k-> ∀y,al[ia+i]? =some y-> ∀z,bl[ib]? =some z->R z y=false)->MI R al bl (ia+k) ib (out++(al.drop ia).take k)
 |0,ia,out,m,_,_=>by rw [gK,E7];exact m
 |k+1,ia,out,m,hk,h=>by
  obtain⟨y,hy⟩: ∃y,al[ia]? =some y:=⟨_,G2 (by omega)⟩;have m1:=m.pushA o ua ub sa sb hy (h 0 (by omega) y hy);have:=MI.manyA o ua ub sa sb k m1 (by omega) (λi hi y hy=>h (i+1) (by omega) y (by rw [show ia+(i+1)=ia+1+i by omega];exact hy));rw [show ia+(k+1)=ia+1+k by omega,zd hy,oY,rG];exact this
theorem MI.manyB (o:Ordd U R)(ua: ∀x∈al,U x)(ub: ∀x∈bl,U x)(sa:Srt R al)(sb:Srt R bl): ∀ (k:G6) {ib:G6} {out:G0 κ},MI R al bl ia ib out->ib+k<=bl.length->(∀i,i<k-> ∀y,bl[ib+i]? =some y-> ∀z,al[ia]? =some z->R y z=true)->MI R al bl ia (ib+k) (out++(bl.drop ib).take k)
 |0,ib,out,m,_,_=>by rw [gK,E7];exact m
 |k+1,ib,out,m,hk,h=>by
  obtain⟨y,hy⟩: ∃y,bl[ib]? =some y:=⟨_,G2 (by omega)⟩;have m1:=m.pushB o ua ub sa sb hy (h 0 (by omega) y hy);have:=MI.manyB o ua ub sa sb k m1 (by omega) (λi hi y hy=>h (i+1) (by omega) y (by rw [show ib+(i+1)=ib+1+i by omega];exact hy));rw [show ib+(k+1)=ib+1+k by omega,zd hy,oY,rG];exact this
theorem MI.all {out:G0 κ}(m:MI R al bl al.length bl.length out):out.Perm (al++bl)/\Srt R out:=by
 have:=m.perm;rw [U9,U9] at this;exact⟨this,m.srt⟩
theorem MI.done {out:G0 κ}(m:MI R al bl ia ib out)(o:Ordd U R)(ua: ∀x∈al,U x)(ub: ∀x∈bl,U x)(sa:Srt R al)(sb:Srt R bl)(ha:ia<=al.length)(hb:ib<=bl.length)(h:ia=al.length\/ib=bl.length):(out++al.drop ia++bl.drop ib).Perm (al++bl)/\Srt R (out++al.drop ia++bl.drop ib):=by
 have m1:=MI.manyA o ua ub sa sb (al.length-ia) m (by omega) (λi hi y hy z hz=>by
  have:=(P9.mp hz).1;omega)
 rw [show ia+(al.length-ia)=al.length by omega,M6 (by rw [B3];exact P6 _)] at m1;have m2:=MI.manyB o ua ub sa sb (bl.length-ib) m1 (by omega) (λi hi y hy z hz=>by
  have:=(P9.mp hz).1;omega)
 rw [show ib+(bl.length-ib)=bl.length by omega,M6 (l:=bl.drop ib) (by rw [B3];exact P6 _)] at m2;exact m2.all
theorem MI.lastA {out:G0 κ}(m:MI R al bl ia ib out)(o:Ordd U R)(ua: ∀x∈al,U x)(ub: ∀x∈bl,U x)(sa:Srt R al)(sb:Srt R bl)(ha:ia+1=al.length)(hb:ib<=bl.length)(h: ∀y∈bl,∀z,al[al.length-1]? =some z->R y z=true):(out++bl.drop ib++al.drop ia).Perm (al++bl)/\Srt R (out++bl.drop ib++al.drop ia):=by
 have m2:=MI.manyB o ua ub sa sb (bl.length-ib) m (by omega) (λi hi y hy z hz=>h y (P8 hy) z (by rw [<-ha];exact hz));rw [show ib+(bl.length-ib)=bl.length by omega,M6 (by rw [B3];exact P6 _)] at m2;have m1:=MI.manyA o ua ub sa sb (al.length-ia) m2 (by omega) (λi hi y hy z hz=>by
  have:=(P9.mp hz).1;omega)
 rw [show ia+(al.length-ia)=al.length by omega,M6 (l:=al.drop ia) (by rw [B3];exact P6 _)] at m1;exact m1.all
end
section
variable {prog:T3}{w:B9}{A:N6}{E:G1->G3->Prop}{J:G3->Prop}{κ:SortKind}{U:D7->Prop}{R:D7->D7->N0}
theorem Tm.rule {σ:Type}{x:V1}{Q:Unit->σ->Prop}{st:σ}(q:Q () st):Tm prog w A E J (liftM (PySem.rule x):Y6 σ Sem Unit) Q st:=λs j=>by
 show R3 _ _ ((StateT.lift _:Y6 σ Sem _).run st) _ _ _;rw [StateT.run_lift];exact wpAny_bind (g4 (P0 ⟨q,j⟩))
theorem Tm.modify {σ:Type}{f:σ->σ}{Q:Unit->σ->Prop}{st:σ}(q:Q () (f st)):Tm prog w A E J (_root_.modify f:Y6 σ Sem PUnit) Q st:=λs j=>by
 rw [StateT.run_modify];exact P0 ⟨q,j⟩
def mLo:S9 D7->S9 D7->Y6 C5 Sem (S9 D7):=sortPriv% PySem.Builtin.mergeLo
def Gal (st st':C5):Prop:=kindOf st'=kindOf st/\T6 st'=T6 st/\C0 st'=C0 st/\bH st'=bH st
theorem Gal.refl (st:C5):Gal st st:=⟨rfl,rfl,rfl,rfl⟩
theorem JU (a:S9 D7)(i:G6):(a.extract i).toList=a.toList.drop i:=by
 rw [bI,Q4];exact M6 (by simp)
theorem Xn (a:S9 D7)(i k:G6):(a.extract i (i+k)).toList=(a.toList.drop i).take k:=by
 rw [bI,Q4,fZ]
def yy (R:D7->D7->N0)(a b c:S9 D7):Prop:=c.toList.Perm (a.toList++b.toList)/\Srt R c.toList
structure Two (U:D7->Prop)(R:D7->D7->N0)(a b:S9 D7):Prop where
 o:Ordd U R
 ua: ∀x∈a.toList,U x
 ub: ∀x∈b.toList,U x
 sa:Srt R a.toList
 sb:Srt R b.toList
 last: ∀y∈b.toList,∀z,a.toList[a.toList.length-1]? =some z->R y z=true
abbrev MA (R:D7->D7->N0)(a b:S9 D7)(ia ib:G6)(out:S9 D7):Prop:=MI R a.toList b.toList ia ib out.toList
section
variable {a b out:S9 D7}{ia ib:G6}
theorem MA.done (t:Two U R a b)(m:MA R a b ia ib out)(ha:ia<=a.size)(hb:ib<=b.size)(h:ia=a.size\/ib=b.size):yy R a b (out++a.extract ia++b.extract ib):=by
 have:=MI.done m t.o t.ua t.ub t.sa t.sb (by simpa using ha) (by simpa using hb) (by simpa using h);unfold yy;rw [L7,L7,JU,JU];exact this
theorem MA.lastA (t:Two U R a b)(m:MA R a b ia ib out)(ha:ia+1=a.size)(hb:ib<=b.size):yy R a b (out++b.extract ib++a.extract ia):=by
 have:=MI.lastA m t.o t.ua t.ub t.sa t.sb (by simpa using ha) (by simpa using hb) t.last;unfold yy;rw [L7,L7,JU,JU];exact this
theorem MA.pushB (t:Two U R a b){y:D7}(m:MA R a b ia ib out)(hy:b.toList[ib]? =some y)(lt: ∀z,a.toList[ia]? =some z->R y z=true):MA R a b ia (ib+1) (out.push y):=by
 have:=MI.pushB m t.o t.ua t.ub t.sa t.sb hy lt;show MI R _ _ _ _ (out.push y).toList;rw [Q8];exact this
theorem MA.pushA (t:Two U R a b){y:D7}(m:MA R a b ia ib out)(hy:a.toList[ia]? =some y)(ge: ∀z,b.toList[ib]? =some z->R z y=false):MA R a b (ia+1) ib (out.push y):=by
 have:=MI.pushA m t.o t.ua t.ub t.sa t.sb hy ge;show MI R _ _ _ _ (out.push y).toList;rw [Q8];exact this
theorem MA.manyA (t:Two U R a b)(m:MA R a b ia ib out)(k:G6)(hk:ia+k<=a.size)(h: ∀i,i<k-> ∀y,a.toList[ia+i]? =some y-> ∀z,b.toList[ib]? =some z->R z y=false):MA R a b (ia+k) ib (out++a.extract ia (ia+k)):=by
 have:=MI.manyA t.o t.ua t.ub t.sa t.sb k m (by simpa using hk) h;show MI R _ _ _ _ (out++a.extract ia (ia+k)).toList;rw [L7,Xn];exact this
theorem MA.manyB (t:Two U R a b)(m:MA R a b ia ib out)(k:G6)(hk:ib+k<=b.size)(h: ∀i,i<k-> ∀y,b.toList[ib+i]? =some y-> ∀z,a.toList[ia]? =some z->R y z=true):MA R a b ia (ib+k) (out++b.extract ib (ib+k)):=by
 have:=MI.manyB t.o t.ua t.ub t.sa t.sb k m (by simpa using hk) h;show MI R _ _ _ _ (out++b.extract ib (ib+k)).toList;rw [L7,Xn];exact this
end
variable {arr:S9 D7}{base:G6}
theorem wL {left:N0}{key x:D7}{i:G6}(h:arr.toList[base+i]? =some x):byd R left key arr base i=if left=true then R x key else !R key x:=by
 unfold byd;rw [<-N5,h]
theorem Zr {l:G0 D7}(s:Srt R l)(o:Ordd U R)(u: ∀x∈l,U x){i j:G6}{x y:D7}(hij:i<=j)(hx:l[i]? =some x)(hy:l[j]? =some y):R y x=false:=by
 by_cases z:i=j
 ·subst z;rw [hx] at hy;injection hy with hy;subst hy
  exact o.refl (u x (P8 hx))
 ·obtain⟨h1,e1⟩:=P9.mp hx;obtain⟨h2,e2⟩:=P9.mp hy;have:=O3.mp s i j h1 h2 (by omega);rw [e1,e2] at this;exact this
theorem Zt {i:G6}(h:i<arr.size): ∃x,arr.toList[i]? =some x/\arr[i]? =some x:=⟨arr[i],by simp [h],by simp [h]⟩
theorem Hl {y:D7}{n hint:G6}{st:C5}{Q:D2 G6->C5->Prop}(ak:WY prog w A J κ U R)(kd:kindOf st=κ)(o:Ordd U R)(u: ∀x∈arr.toList,U x)(s:Srt R arr.toList)(uy:U y)(hn:base+n<=arr.size)(hh:hint<n)
 (q: ∀k,k<=n->(∀i,i<k-> ∀x,arr.toList[base+i]? =some x->R y x=false)->(∀i,k<=i->i<n-> ∀x,arr.toList[base+i]? =some x->R y x=true)->Q (some k) st):Tm prog w A E J (gal false y arr base n hint) Q st:=by
 refine PH ak kd uy (λi hi=> ?_) (λi j hij hj h=> ?_) hh (λk k1 k2 k3=>q k k1 (λi hi x hx=> ?_) (λi h1 h2 x hx=> ?_))
 ·obtain⟨x,lx,ex⟩:=Zt (show base+i<arr.size by omega);exact⟨x,ex,u x (P8 lx)⟩
 ·obtain⟨x,lx,_⟩:=Zt (show base+i<arr.size by omega);obtain⟨z,lz,_⟩:=Zt (show base+j<arr.size by omega);rw [wL lz] at h;rw [wL lx];have hz:R y z=false:=by simpa using h
  have:=o.trans (u x (P8 lx)) (u z (P8 lz)) uy (Zr s o u (by omega) lx lz) hz;simp [this]
 ·have:=k2 i hi;rw [wL hx] at this;simpa using this
 ·have:=k3 i h1 h2;rw [wL hx] at this;simpa using this
theorem Hm {y:D7}{n hint:G6}{st:C5}{Q:D2 G6->C5->Prop}(ak:WY prog w A J κ U R)(kd:kindOf st=κ)(o:Ordd U R)(u: ∀x∈arr.toList,U x)(s:Srt R arr.toList)(uy:U y)(hn:base+n<=arr.size)(hh:hint<n)
 (q: ∀k,k<=n->(∀i,i<k-> ∀x,arr.toList[base+i]? =some x->R x y=true)->(∀i,k<=i->i<n-> ∀x,arr.toList[base+i]? =some x->R x y=false)->Q (some k) st):Tm prog w A E J (gal true y arr base n hint) Q st:=by
 refine PH ak kd uy (λi hi=> ?_) (λi j hij hj h=> ?_) hh (λk k1 k2 k3=>q k k1 (λi hi x hx=> ?_) (λi h1 h2 x hx=> ?_))
 ·obtain⟨x,lx,ex⟩:=Zt (show base+i<arr.size by omega);exact⟨x,ex,u x (P8 lx)⟩
 ·obtain⟨x,lx,_⟩:=Zt (show base+i<arr.size by omega);obtain⟨z,lz,_⟩:=Zt (show base+j<arr.size by omega);rw [wL lz] at h;rw [wL lx];have hz:R z y=true:=by simpa using h
  rcases o.neg z x y (u z (P8 lz)) (u x (P8 lx)) uy hz with v|v
  ·rw [Zr s o u (by omega) lx lz] at v;cases v
  ·simp [v]
 ·have:=k2 i hi;rw [wL hx] at this;simpa using this
 ·have:=k3 i h1 h2;rw [wL hx] at this;simpa using this
section
variable {σ α β γ:Type}{c:Prop}[Decidable c]{t e:Y6 σ Sem α}{Q:α->σ->Prop}{st:σ}{x y:β}{z:γ}
theorem Tm.if2 (T:c->Tm prog w A E J t Q st)(F: ¬c->Tm prog w A E J e Q st):Tm prog w A E J (if c then t else e) Q st:=by
 split
 ·exact T ‹_›
 ·exact F ‹_›
theorem Tm.eq2 {x y:G6}(T:x=y->Tm prog w A E J t Q st)(F: ¬x=y->Tm prog w A E J e Q st):Tm prog w A E J (if (x==y)=true then t else e) Q st:=
 .if2 (λh=>T (eq_of_beq h)) λh=>F λg=>h (beq_iff_eq.mpr g)
theorem Tm.both {f:β->Y6 σ Sem α}(he:e=f y)(ht:t=f x)(H: ∀m,Tm prog w A E J (f m) Q st):Tm prog w A E J (if c then t else e) Q st:=by
 subst he ht;exact .if2 (λ_=>H _) λ_=>H _
theorem Tm.join {f:β->γ->Y6 σ Sem α}{I:β->γ->Prop}(he:e=f x z)(G: ∀m o,I m o->Tm prog w A E J (f m o) Q st)(T:c->(∀m o,I m o->Tm prog w A E J (f m o) Q st)->Tm prog w A E J t Q st)(F: ¬c->I x z):Tm prog w A E J (if c then t else e) Q st:=by
 subst he;exact .if2 (λh=>T h G) λh=>G _ _ (F h)
end
theorem Ev {A B C D F:Type}{P:A×B×C×D×F->Prop}(h: ∀a b c d f,P (a,b,c,d,f)): ∀c,P c:=λc=>h c.1 c.2.1 c.2.2.1 c.2.2.2.1 c.2.2.2.2
theorem Ew {A B C D F G:Type}{P:A×B×C×D×F×G->Prop}(h: ∀a b c d f g,P (a,b,c,d,f,g)): ∀c,P c:=λc=>h c.1 c.2.1 c.2.2.1 c.2.2.2.1 c.2.2.2.2.1 c.2.2.2.2.2
theorem Ex {A B C D F G H:Type}{P:A×B×C×D×F×G×H->Prop}(h: ∀a b c d f g k,P (a,b,c,d,f,g,k)): ∀c,P c:=λc=>h c.1 c.2.1 c.2.2.1 c.2.2.2.1 c.2.2.2.2.1 c.2.2.2.2.2.1 c.2.2.2.2.2.2
theorem wg {a:S9 D7}(u: ∀x∈a.toList,U x){i:G6}(h:i<a.size){P:Prop}(q: ∀y,a[i]? =some y->a.toList[i]? =some y->U y->P):P:=q a[i] (by simp [h]) (by simp [h]) (u _ (by simp))
structure LoI (R:D7->D7->N0)(a b:S9 D7)(st st':C5)(n:G6)(out:S9 D7)(ia ib:G6):Prop where
 g:Gal st st'
 m:MA R a b ia ib out
 a:ia+1<a.size
 b:ib<b.size
 n:n<=ia+ib
def LoO (R:D7->D7->N0)(a b:S9 D7)(st st':C5)(n:G6)(r:D2 (S9 D7))(out:S9 D7)(ia ib:G6):Prop:=Gal st st'/\match r with|some c=>yy R a b c|none=>LoI R a b st st' n out ia ib
section
variable {a b out:S9 D7}{st st':C5}{n k ia ib:G6}
theorem LoI.more (h:LoI R a b st st' n out ia ib)(l:k<=n):LoI R a b st st' k out ia ib:=⟨h.g,h.m,h.a,h.b,S0 l h.n⟩
theorem LoI.here (h:LoI R a b st st' n out ia ib):LoI R a b st st' (ia+ib) out ia ib:=⟨h.g,h.m,h.a,h.b,P6 _⟩
theorem LoI.at {s:C5}(h:LoI R a b st st' n out ia ib)(g:Gal st s)(l:k<=n):LoI R a b st s k out ia ib:=⟨g,h.m,h.a,h.b,S0 l h.n⟩
theorem LoI.never {P:Prop}(h:LoI R a b st st' n out ia ib)(l:a.size+b.size<=n):P:=absurd (S0 l h.n) (Nat.not_le_of_lt (Nat.add_lt_add (V7 h.a) h.b))
end
theorem Aq {a b:S9 D7}{st:C5}{Q:S9 D7->C5->Prop}(ak:WY prog w A J κ U R)(kd:kindOf st=κ)(t:Two U R a b)
 (na:1<=a.size)(nb:1<=b.size)(first: ∀y z,b.toList[0]? =some y->a.toList[0]? =some z->R y z=true)
 (q: ∀c st',Gal st st'->yy R a b c->Q c st'):Tm prog w A E J (mLo a b) Q st:=by
 refine .bind (.rule (.bind (wg t.ub nb λb0 eb0 lb0 ub0=> .elem eb0 ?_)));have m0:MA R a b 0 1 #[b0]:=MA.pushB t (out:= #[]) (MI.start _ _) lb0 (λz hz=>first _ z lb0 hz);refine .eq2 (x:=1) (y:=b.size) (λz1=> .pure (q _ _ (Gal.refl st) (MA.done t m0 (N9 _) nb (.inr z1)))) λz1=> .eq2 (x:=0+1) (y:=a.size) (λz2=> .pure (q _ _ (Gal.refl st) (MA.lastA t m0 z2 nb))) λz2=> .bind (.get ?_)
 refine .bind (Tm.mono (Tm.range (λi c st'=>LoI R a b st st' (i+1) c.2.1 c.2.2.1 c.2.2.2.1)
  (Q:=λc st'=> ∃r,c.1=some r/\Gal st st'/\yy R a b r) (N9 _) ⟨Gal.refl st,m0,J8 na z2,J8 nb z1,P6 _⟩ ?_ ?_) ?_)
 ·intro i c st1 hi;revert c;refine Ev λr out ia ib mg h=> ?_
  refine .bind (Tm.mono (Tm.range (λj c st'=>LoI R a b st st' (ia+ib+j) c.2.1 c.2.2.1 c.2.2.2.1)
   (Q:=λc st'=>LoO R a b st st' (ia+ib+1) c.1 c.2.1 c.2.2.1 c.2.2.2.1) (N9 _) h.here ?_ ?_) ?_)
  ·intro j c st2 hj;revert c;refine Ew λr out ja jb ac bc h=> ?_
   refine .bind (wg t.ub h.b λy ey ly uy=> .elem ey (.bind (wg t.ua (V7 h.a) λx ex lx ux=> .elem ex (.bind (.lt ak (h.g.1.trans kd) uy ux (.if2 (c:=R y x=true) (λhb=> .bind (.elem ey ?_)) λhb=> .bind (.elem ex ?_)))))))
   ·have m1:=MA.pushB t h.m ly (λz hz=>by rw [lx] at hz;injection hz with hz;rw [<-hz];exact hb);refine .eq2 (x:=jb+1) (y:=b.size) (λc1=> .pure ⟨h.g,MA.done t m1 (M0 (V7 h.a)) h.b (.inr c1)⟩) λc1=> ?_
    have d:LoI R a b st st2 (ia+ib+(j+1)) (out.push y) ja (jb+1):=⟨h.g,m1,h.a,J8 (gL h.b) c1,g8 h.n⟩;exact .if2 (λ_=> .pure ⟨h.g,d.more (dS (cE _ _) _)⟩) λ_=> .pure d
   ·have m1:=MA.pushA t h.m lx (λz hz=>by rw [ly] at hz;injection hz with hz;rw [<-hz];exact V8.mpr hb);refine .eq2 (x:=ja+1+1) (y:=a.size) (λc1=> .pure ⟨h.g,MA.lastA t m1 c1 (M0 h.b)⟩) λc1=> ?_
    have d:LoI R a b st st2 (ia+ib+(j+1)) (out.push x) (ja+1) jb:=⟨h.g,m1,J8 (gL h.a) c1,h.b,S0 (g8 h.n) (E5 (qK _ _).symm)⟩;exact .if2 (λ_=> .pure ⟨h.g,d.more (dS (cE _ _) _)⟩) λ_=> .pure d
  ·exact λc st2 h=>h.never (cE _ _)
  ·intro c st2;revert c;refine Ew λr out ja jb ac bc h'=> ?_
   cases r with
   |some r=>exact .pure ⟨r,rfl,h'⟩
   |none=>
   replace h':=h'.2
   refine .bind (.rule (.bind (Tm.mono (Tm.range (λj c st'=>LoI R a b st st' (ja+jb+j) c.2.1 c.2.2.1 c.2.2.2.1)
    (Q:=λc st'=>LoO R a b st st' (ja+jb) c.1 c.2.1 c.2.2.1 c.2.2.2.1) (N9 _) h'.here ?_ ?_) ?_)))
   ·clear h;intro j c st2 hj;revert c;refine Ex λr out pa pb mg ac bc h=> ?_
    refine wg t.ub h.b λy ey ly uy=> ?_
    have g2:0<a.size-pa:=qL (V7 h.a);have g1:pa+(a.size-pa)<=a.size:=E5 (E6 (M0 (V7 h.a)));refine Tm.both (y:=mg) (x:=mg-1) (by rfl) (by rfl) λmg=> ?_
    refine .bind (Tm.modify (.bind (.elem ey (.bind (Hl (base:=pa) (n:=a.size-pa) ak (h.g.1.trans kd) t.o t.ua t.sa uy g1 g2 λk k1 k2 k3=> ?_)))));refine Tm.join (I:=λo ia=>MA R a b ia pb o/\ia+1<a.size/\pa<=ia/\ ∀x,a.toList[ia]? =some x->R y x=true) (x:=out) (z:=pa) (by rfl) ?_ ?_ ?_
    ·refine λo qa i1=> ?_
     have M2:=MA.pushB t i1.1 ly i1.2.2.2;have p1:=V7 i1.2.1;refine .bind (.elem ey (.eq2 (x:=pb+1) (y:=b.size) (λc3=> .pure ⟨h.g,MA.done t M2 (M0 p1) (E5 c3) (.inr c3)⟩) λc3=> ?_));have c8:pb+1<b.size:=J8 (gL h.b) c3;have g2:=qL c8;refine .bind (wg t.ua p1 λx ex lx ux=> .elem ex (.bind (Hm (base:=pb+1) (n:=b.size-(pb+1)) ak (h.g.1.trans kd) t.o t.ub t.sb ux (E5 (E6 (M0 c8))) g2 λk' q1 q2 q3=> ?_)));dsimp only;generalize ep:pb+1=p2 at M2 q1 q2 q3 c8 g2 ⊢;generalize eo:o.push y=o2 at M2 ⊢;refine Tm.join (I:=λo ib=>MA R a b qa ib o/\ib<b.size/\p2<=ib/\ ∀x',b.toList[ib]? =some x'->R x' x=false) (x:=o2) (z:=p2) (by rfl) ?_ ?_ ?_
     ·refine λo qb i2=> ?_
      have M4:=MA.pushA t i2.1 lx i2.2.2.2;refine .bind (.elem ex (.eq2 (x:=qa+1+1) (y:=a.size) (λc5=> .pure ⟨h.g,MA.lastA t M4 c5 (M0 i2.2.1)⟩) λc5=> ?_));have n1:ja+jb+j<=pa+pb:=h.n;have n2:ja+jb+(j+1)<=qa+1+qb:=by have:=i1.2.2.1;have:=i2.2.2.1;omega
      have d:LoI R a b st st2 (ja+jb+(j+1)) (o.push x) (qa+1) qb:=⟨h.g,M4,J8 (gL i1.2.1) c5,i2.2.1,n2⟩;exact .if2 (λ_=> .pure ⟨h.g,d.at h.g (V0 _ _)⟩) λ_=> .pure (d.at h.g (P6 _))
     ·intro kz' H;have g3:p2+k'<=b.size:=S0 (dS q1 _) (E5 (E6 (M0 c8)));have M3:=MA.manyB t M2 k' g3 (λi hi y' hy z hz=>by rw [lx] at hz;injection hz with hz;rw [<-hz];exact q2 i hi y' hy);exact .eq2 (x:=p2+k') (y:=b.size) (λc4=> .pure ⟨h.g,MA.done t M3 (M0 p1) g3 (.inr c4)⟩) λc4=>H _ _ ⟨M3,J8 g3 c4,V0 _ _,λz hz=>q3 k' (P6 _) (by omega) z hz⟩
     ·exact λkz'=>⟨M2,c8,P6 _,λz hz=>q3 0 (g6 kz') g2 z hz⟩
    ·intro kz H;have g3:pa+k<=a.size:=S0 (dS k1 _) g1;have m1:=MA.manyA t h.m k g3 (λi hi x hx z hz=>by rw [ly] at hz;injection hz with hz;rw [<-hz];exact k2 i hi x hx);exact .eq2 (x:=pa+k+1) (y:=a.size) (λc1=> .pure ⟨h.g,MA.lastA t m1 c1 (M0 h.b)⟩) λc1=> .eq2 (x:=pa+k) (y:=a.size) (λc2=> .pure ⟨h.g,MA.done t m1 g3 (M0 h.b) (.inl c2)⟩) λc2=>H _ _ ⟨m1,J8 (J8 g3 c2) c1,V0 _ _,λx hx=>k3 k (P6 _) (by omega) x hx⟩
    ·exact λkz=>⟨h.m,h.a,P6 _,λx hx=>k3 0 (g6 kz) g2 x hx⟩
   ·exact λc st3 h=>h.never (cE _ _)
   ·intro c st3;revert c;refine Ex λr out pa pb mg ac bc h3=> ?_
    cases r with
    |some r=>exact .pure ⟨r,rfl,h3⟩
    |none=>exact .bind (Tm.modify (.pure (h3.2.at h3.1 (S0 (g8 h.n) h'.n))))
 ·exact λc st1 h=>h.never (V0 _ _)
 ·intro c st1;revert c;refine Ev λr out ia ib mg h=> ?_
  obtain⟨c,rfl,gl,wh⟩:=h;exact .pure (q c st1 gl wh)
end
section
variable {prog:T3}{w:B9}{A:N6}{E:G1->G3->Prop}{J:G3->Prop}{κ:SortKind}{U:D7->Prop}{R:D7->D7->N0}
abbrev Flp (R:D7->D7->N0):D7->D7->N0:=λx y=>R y x
theorem Ordd.flip (o:Ordd U R):Ordd U (Flp R):=⟨λx y ux uy h=>o.asym y x uy ux h,λx y z ux uy uz h=>(o.neg z y x uz uy ux h).symm⟩
variable {l:G0 D7}
theorem ze (s:Srt R l):Srt (Flp R) l.reverse:=gV.mpr s
theorem Xo (s:Srt (Flp R) l):Srt R l.reverse:=gV.mpr s
variable {n:G6}
theorem PJ (h1:1<=n)(hn:n<=l.length):l.reverse[l.length-n]? =l[n-1]? :=by
 rw [cK (by omega)]
 congr 1;omega
theorem zP {z:D7}(hn:n<=l.length)(h:l.reverse[l.length-n]? =some z):1<=n/\l[n-1]? =some z:=by
 have:=(P9.mp h).1;rw [C7] at this;have n1:1<=n:=by omega
 exact⟨n1,by rw [<-PJ n1 hn];exact h⟩
theorem vD (l:G0 D7){n:G6}(hn:n<=l.length):l.reverse.drop (l.length-n)=(l.take n).reverse:=by
 rw [List.drop_reverse]
 congr 2;omega
def MH (R:D7->D7->N0)(a b:S9 D7)(na nb:G6)(out:S9 D7):Prop:=MI (Flp R) b.toList.reverse a.toList.reverse (b.toList.length-nb) (a.toList.length-na) out.toList
structure TwoH (U:D7->Prop)(R:D7->D7->N0)(a b:S9 D7):Prop where
 o:Ordd U R
 ua: ∀x∈a.toList,U x
 ub: ∀x∈b.toList,U x
 sa:Srt R a.toList
 sb:Srt R b.toList
 first: ∀z∈a.toList,∀y,b.toList[0]? =some y->R y z=true
section
variable {a b out:S9 D7}{na nb:G6}
theorem TwoH.fa (t:TwoH U R a b): ∀x∈a.toList.reverse,U x:=λx hx=>t.ua x (A5.mp hx)
theorem TwoH.fb (t:TwoH U R a b): ∀x∈b.toList.reverse,U x:=λx hx=>t.ub x (A5.mp hx)
theorem MH.start (a b:S9 D7):MH R a b a.toList.length b.toList.length #[]:=by
 unfold MH;rw [iQ,iQ];exact MI.start _ _
theorem MH.pushA (t:TwoH U R a b){y:D7}(m:MH R a b na nb out)(h1:1<=na)(hn:na<=a.toList.length)(hb:nb<=b.toList.length)(hy:a.toList[na-1]? =some y)(lt: ∀z,1<=nb->b.toList[nb-1]? =some z->R z y=true):MH R a b (na-1) nb (out.push y):=by
 have:=MI.pushB m t.o.flip t.fb t.fa (ze t.sb) (ze t.sa) (by rw [PJ h1 hn];exact hy) (λz hz=>lt z (zP hb hz).1 (zP hb hz).2);unfold MH;rw [Q8,show a.toList.length-(na-1)=a.toList.length-na+1 by omega];exact this
theorem MH.pushB (t:TwoH U R a b){y:D7}(m:MH R a b na nb out)(h1:1<=nb)(hn:nb<=b.toList.length)(ha:na<=a.toList.length)(hy:b.toList[nb-1]? =some y)(ge: ∀z,1<=na->a.toList[na-1]? =some z->R y z=false):MH R a b na (nb-1) (out.push y):=by
 have:=MI.pushA m t.o.flip t.fb t.fa (ze t.sb) (ze t.sa) (by rw [PJ h1 hn];exact hy) (λz hz=>ge z (zP ha hz).1 (zP ha hz).2);unfold MH;rw [Q8,show b.toList.length-(nb-1)=b.toList.length-nb+1 by omega];exact this
theorem vE (a:S9 D7)(n:G6):(a.extract 0 n).toList=a.toList.take n:=by
 rw [bI,Q4,i8,qC]
theorem MH.done (t:TwoH U R a b)(m:MH R a b na nb out)(ha:na<=a.toList.length)(hb:nb<=b.toList.length)(h:na=0\/nb=0):yy R a b (a.extract 0 na++b.extract 0 nb++out.reverse):=by
 have:=MI.done m t.o.flip t.fb t.fa (ze t.sb) (ze t.sa) (by rw [C7];omega) (by rw [C7];omega) (by rw [C7,C7];omega);rw [vD _ ha,vD _ hb] at this;have e:(a.extract 0 na++b.extract 0 nb++out.reverse).toList=(out.toList++(b.toList.take nb).reverse++(a.toList.take na).reverse).reverse:=by
  rw [L7,L7,vE,vE,iF];simp [D5]
 unfold yy;rw [e];refine⟨(V9 _).trans (this.1.trans ?_),Xo this.2⟩;exact(rH (V9 _) (V9 _)).trans cJ
theorem MH.firstB (t:TwoH U R a b)(m:MH R a b na nb out)(ha:na<=a.toList.length)(hb:nb=1)(hb':1<=b.toList.length):yy R a b (b.extract 0 nb++a.extract 0 na++out.reverse):=by
 subst hb;have:=MI.lastA m t.o.flip t.fb t.fa (ze t.sb) (ze t.sa) (by rw [C7];omega) (by rw [C7];omega) (λz hz y hy=>by
  rw [C7] at hy;have:=(zP hb' hy).2;exact t.first z (A5.mp hz) y (by simpa using this))
 rw [vD _ ha,vD _ hb'] at this;have e:(b.extract 0 1++a.extract 0 na++out.reverse).toList=(out.toList++(a.toList.take na).reverse++(b.toList.take 1).reverse).reverse:=by
  rw [L7,L7,vE,vE,iF];simp [D5]
 unfold yy;rw [e];refine⟨(V9 _).trans (this.1.trans ?_),Xo this.2⟩;exact(rH (V9 _) (V9 _)).trans cJ
theorem Xp (l:G0 D7){p n:G6}(h1:p<=n)(hn:n<=l.length):(l.reverse.drop (l.length-n)).take (n-p)=((l.drop p).take (n-p)).reverse:=by
 rw [vD l hn,List.take_reverse,T4,oA,X3 hn,show n-(n-p)=p by omega]
theorem PK (a:S9 D7){p n:G6}(h:p<=n):(a.extract p n).reverse.toList=((a.toList.drop p).take (n-p)).reverse:=by
 rw [iF,bI,Q4]
theorem MH.manyA (t:TwoH U R a b)(m:MH R a b na nb out)(p:G6)(hp:p<=na)(hn:na<=a.toList.length)(hb:nb<=b.toList.length)(h: ∀i,p<=i->i<na-> ∀y,a.toList[i]? =some y-> ∀z,1<=nb->b.toList[nb-1]? =some z->R z y=true):MH R a b p nb (out++(a.extract p na).reverse):=by
 have:=MI.manyB t.o.flip t.fb t.fa (ze t.sb) (ze t.sa) (na-p) m (by rw [C7];omega) (λi hi y hy z hz=>by
  rw [cK (by omega)] at hy;exact h _ (by omega) (by omega) y hy z (zP hb hz).1 (zP hb hz).2)
 rw [Xp _ hp hn] at this;unfold MH;rw [L7,PK _ hp,show a.toList.length-p=a.toList.length-na+(na-p) by omega];exact this
theorem MH.manyB (t:TwoH U R a b)(m:MH R a b na nb out)(p:G6)(hp:p<=nb)(hn:nb<=b.toList.length)(ha:na<=a.toList.length)(h: ∀i,p<=i->i<nb-> ∀y,b.toList[i]? =some y-> ∀z,1<=na->a.toList[na-1]? =some z->R y z=false):MH R a b na p (out++(b.extract p nb).reverse):=by
 have:=MI.manyA t.o.flip t.fb t.fa (ze t.sb) (ze t.sa) (nb-p) m (by rw [C7];omega) (λi hi y hy z hz=>by
  rw [cK (by omega)] at hy;exact h _ (by omega) (by omega) y hy z (zP ha hz).1 (zP ha hz).2)
 rw [Xp _ hp hn] at this;unfold MH;rw [L7,PK _ hp,show b.toList.length-p=b.toList.length-nb+(nb-p) by omega];exact this
end
def mHi:S9 D7->S9 D7->Y6 C5 Sem (S9 D7):=sortPriv% PySem.Builtin.mergeHi
section
variable {arr:S9 D7}{y:D7}{n hint:G6}{st:C5}{Q:D2 G6->C5->Prop}
theorem SM (ak:WY prog w A J κ U R)(kd:kindOf st=κ)(o:Ordd U R)(u: ∀x∈arr.toList,U x)(s:Srt R arr.toList)(uy:U y)(hn:n<=arr.size)(hh:hint<n)
 (q: ∀k,k<=n->(∀i,i<k-> ∀x,arr.toList[i]? =some x->R y x=false)->(∀i,k<=i->i<n-> ∀x,arr.toList[i]? =some x->R y x=true)->Q (some k) st):Tm prog w A E J (gal false y arr 0 n hint) Q st:=
 Hl ak kd o u s uy (by rw [A8];exact hn) hh λk h k2 k3=>q k h (λi hi x hx=>k2 i hi x (by rw [A8];exact hx)) λi hi hj x hx=>k3 i hi hj x (by rw [A8];exact hx)
theorem SN (ak:WY prog w A J κ U R)(kd:kindOf st=κ)(o:Ordd U R)(u: ∀x∈arr.toList,U x)(s:Srt R arr.toList)(uy:U y)(hn:n<=arr.size)(hh:hint<n)
 (q: ∀k,k<=n->(∀i,i<k-> ∀x,arr.toList[i]? =some x->R x y=true)->(∀i,k<=i->i<n-> ∀x,arr.toList[i]? =some x->R x y=false)->Q (some k) st):Tm prog w A E J (gal true y arr 0 n hint) Q st:=
 Hm ak kd o u s uy (by rw [A8];exact hn) hh λk h k2 k3=>q k h (λi hi x hx=>k2 i hi x (by rw [A8];exact hx)) λi hi hj x hx=>k3 i hi hj x (by rw [A8];exact hx)
end
structure HiI (R:D7->D7->N0)(a b:S9 D7)(st st':C5)(n N na nb:G6)(out:S9 D7):Prop where
 g:Gal st st'
 m:MH R a b na nb out
 a':na<=a.size
 b':nb<=b.size
 a:1<=na
 b:2<=nb
 n:n+na+nb<=N
def HiO (R:D7->D7->N0)(a b:S9 D7)(st st':C5)(n N:G6)(r:D2 (S9 D7))(na nb:G6)(out:S9 D7):Prop:=Gal st st'/\match r with|some c=>yy R a b c|none=>HiI R a b st st' n N na nb out
section
variable {a b out:S9 D7}{st st' s:C5}{n N k M na nb:G6}
theorem HiI.at (h:HiI R a b st st' n N na nb out)(g:Gal st s)(l:n+na+nb<=N->k+na+nb<=M):HiI R a b st s k M na nb out:=⟨g,h.m,h.a',h.b',h.a,h.b,l h.n⟩
theorem HiI.here (h:HiI R a b st st' n N na nb out):HiI R a b st st' 0 (na+nb) na nb out:=h.at h.g λ_=>by omega
theorem HiI.never {P:Prop}(h:HiI R a b st st' n N na nb out)(l:N<=n):P:=by have:=h.n;have:=h.a;omega
theorem HiI.le (h:HiI R a b st st' n N na nb out):na+nb<=a.size+b.size:=Nat.add_le_add h.a' h.b'
theorem HiI.a1 (h:HiI R a b st st' n N na nb out):na-1<a.size:=N7 (fI h.a cZ) h.a'
theorem HiI.b1 (h:HiI R a b st st' n N na nb out):nb-1<b.size:=N7 (fI (V7 h.b) cZ) h.b'
end
theorem NH (h:2<=n)(c: ¬n-1=1):2<=n-1:=by omega
theorem PL (c: ¬n-1=0):1<=n-1:=fJ c
theorem Ar {a b:S9 D7}{st:C5}{Q:S9 D7->C5->Prop}(ak:WY prog w A J κ U R)(kd:kindOf st=κ)(t:TwoH U R a b)
 (na:1<=a.size)(nb:1<=b.size)(last: ∀y z,b.toList[b.size-1]? =some y->a.toList[a.size-1]? =some z->R y z=true)
 (q: ∀c st',Gal st st'->yy R a b c->Q c st'):Tm prog w A E J (mHi a b) Q st:=by
 refine .bind (.rule (.bind (wg t.ua (fI na cZ) λa0 ea0 la0 ua0=> .elem ea0 ?_)));have m0:MH R a b (a.size-1) b.size #[a0]:=MH.pushA t (MH.start (R:=R) a b) na (P6 _) (P6 _) la0 (λz _ hz=>last z a0 hz la0);have n1:a.size-1<=a.size:=IV _ _;refine .eq2 (x:=a.size-1) (y:=0) (λz1=> .pure (q _ _ (Gal.refl st) (MH.done t m0 n1 (P6 _) (.inl z1)))) λz1=> .eq2 (x:=b.size) (y:=1) (λz2=> .pure (q _ _ (Gal.refl st) (MH.firstB t m0 n1 z2 nb))) λz2=> .bind (.get ?_)
 refine .bind (Tm.mono (Tm.range (λi c st'=>HiI R a b st st' (i+1) (a.size+b.size) c.2.1 c.2.2.1 c.2.2.2.1)
  (Q:=λc st'=> ∃r,c.1=some r/\Gal st st'/\yy R a b r) (N9 _) ⟨Gal.refl st,m0,n1,P6 _,PL z1,by dsimp only;omega,by dsimp only;omega⟩ ?_ ?_) ?_)
 ·intro i c st1 hi;revert c;refine Ev λr ia ib out mg h=> ?_
  refine .bind (Tm.mono (Tm.range (λj c st'=>HiI R a b st st' j (ia+ib) c.2.1 c.2.2.1 c.2.2.2.1)
   (Q:=λc st'=>HiO R a b st st' 1 (ia+ib) c.1 c.2.1 c.2.2.1 c.2.2.2.1) (N9 _) h.here ?_ ?_) ?_)
  ·intro j c st2 hj;revert c;refine Ew λr ja jb out ac bc h=> ?_
   refine .bind (wg t.ub h.b1 λy ey ly uy=> .elem ey (.bind (wg t.ua h.a1 λx ex lx ux=> .elem ex (.bind (.lt ak (h.g.1.trans kd) uy ux (.if2 (c:=R y x=true) (λhb=> .bind (.elem ex ?_)) λhb=> .bind (.elem ey ?_)))))))
   ·have m1:=MH.pushA t h.m h.a h.a' h.b' lx (λz _ hz=>by rw [ly] at hz;injection hz with hz;rw [<-hz];exact hb);refine .eq2 (x:=ja-1) (y:=0) (λc1=> .pure ⟨h.g,MH.done t m1 (M0 h.a1) h.b' (.inl c1)⟩) λc1=> ?_
    have d:HiI R a b st st2 (j+1) (ia+ib) (ja-1) jb (out.push x):=⟨h.g,m1,M0 h.a1,h.b',PL c1,h.b,by have:j+ja+jb<=ia+ib:=h.n;have:1<=ja:=h.a;have:2<=jb:=h.b;omega⟩;exact .if2 (λ_=> .pure ⟨h.g,d.at h.g λ_=>by omega⟩) λ_=> .pure d
   ·have m1:=MH.pushB t h.m (M0 h.b) h.b' h.a' ly (λz _ hz=>by rw [lx] at hz;injection hz with hz;rw [<-hz];exact V8.mpr hb);refine .eq2 (x:=jb-1) (y:=1) (λc1=> .pure ⟨h.g,MH.firstB t m1 h.a' c1 nb⟩) λc1=> ?_
    have d:HiI R a b st st2 (j+1) (ia+ib) ja (jb-1) (out.push y):=⟨h.g,m1,h.a',M0 h.b1,h.a,NH h.b c1,by have:j+ja+jb<=ia+ib:=h.n;have:1<=ja:=h.a;have:2<=jb:=h.b;omega⟩;exact .if2 (λ_=> .pure ⟨h.g,d.at h.g λ_=>by omega⟩) λ_=> .pure d
  ·exact λc st2 h'=>h'.never h.le
  ·intro c st2;revert c;refine Ew λr ja jb out ac bc h'=> ?_
   cases r with
   |some r=>exact .pure ⟨r,rfl,h'⟩
   |none=>
   replace h':=h'.2
   refine .bind (.rule (.bind (Tm.mono (Tm.range (λj c st'=>HiI R a b st st' j (ja+jb) c.2.1 c.2.2.1 c.2.2.2.1)
    (Q:=λc st'=>HiO R a b st st' 0 (ja+jb) c.1 c.2.1 c.2.2.1 c.2.2.2.1) (N9 _) h'.here ?_ ?_) ?_)))
   ·clear h;intro j c st2 hj;revert c;refine Ex λr pa pb out mg ac bc h=> ?_
    refine wg t.ub h.b1 λy ey ly uy=> ?_
    refine Tm.both (y:=mg) (x:=mg-1) (by rfl) (by rfl) λmg=> ?_
    refine .bind (Tm.modify (.bind (.elem ey (.bind (SM (n:=pa) ak (h.g.1.trans kd) t.o t.ua t.sa uy h.a' (fI h.a cZ) λk k1 k2 k3=> ?_)))));dsimp only;generalize eac:pa-k=ac;refine Tm.join (I:=λna o=>MH R a b na pb o/\1<=na/\na<=pa/\ ∀z,a.toList[na-1]? =some z->R y z=false) (x:=pa) (z:=out) (by rfl) ?_ ?_ ?_
    ·refine λqa o i1=> ?_
     have la:=S0 i1.2.2.1 h.a';have M2:=MH.pushB t i1.1 (M0 h.b) h.b' la ly (λz _ hz=>i1.2.2.2 z hz);refine .bind (.elem ey (.eq2 (x:=pb-1) (y:=1) (λc3=> .pure ⟨h.g,MH.firstB t M2 la c3 nb⟩) λc3=> ?_));have c8:=NH h.b c3;have lb:=M0 h.b1;have n1:j+pa+pb<=ja+jb:=h.n;have n2:pb=pb-1+1:=(Nat.sub_add_cancel (M0 h.b)).symm;refine .bind (wg t.ua (N7 (fI i1.2.1 cZ) la) λx ex lx ux=> .elem ex (.bind (SN (n:=pb-1) ak (h.g.1.trans kd) t.o t.ub t.sb ux lb (fI (V7 c8) cZ) λk' q1 q2 q3=> ?_)));dsimp only;dsimp only at c8 lb;generalize ep:pb-1=p2 at M2 q1 q2 q3 c8 lb n2 ⊢;generalize eo:o.push y=o2 at M2 ⊢;generalize ebc:p2-k'=bc;refine Tm.join (I:=λnb o=>MH R a b qa nb o/\2<=nb/\nb<=p2/\ ∀z,b.toList[nb-1]? =some z->R z x=true) (x:=p2) (z:=o2) (by rfl) ?_ ?_ ?_
     ·refine λqb o i2=> ?_
      have lb':=S0 i2.2.2.1 lb;have M4:=MH.pushA t i2.1 i1.2.1 la lb' lx (λz _ hz=>i2.2.2.2 z hz);have la':=S0 (IV qa 1) la;refine .bind (.elem ex (.eq2 (x:=qa-1) (y:=0) (λc5=> .pure ⟨h.g,MH.done t M4 la' lb' (.inl c5)⟩) λc5=> ?_));have n3:j+1+(qa-1)+qb<=ja+jb:=by have:=i1.2.1;have:=i1.2.2.1;have:=i2.2.2.1;omega
      have d:HiI R a b st st2 (j+1) (ja+jb) (qa-1) qb (o.push x):=⟨h.g,M4,la',lb',PL c5,i2.2.1,n3⟩;exact .if2 (λ_=> .pure ⟨h.g,d.at h.g λ_=>by omega⟩) λ_=> .pure (d.at h.g id)
     ·intro kz' H;have M3:=MH.manyB t M2 k' q1 lb la (λi hi1 hi2 y' hy z hz1 hz=>by rw [lx] at hz;injection hz with hz;rw [<-hz];exact q3 i hi1 hi2 y' hy);exact .eq2 (x:=k') (y:=1) (λc4=> .pure ⟨h.g,MH.firstB t M3 la c4 nb⟩) λc4=> .eq2 (x:=k') (y:=0) (λc7=> .pure ⟨h.g,MH.done t M3 la (S0 q1 lb) (.inr c7)⟩) λc7=>H _ _ ⟨M3,by omega,q1,λz hz=>q2 (k'-1) (fI (fJ c7) cZ) z hz⟩
     ·exact λkz'=>⟨M2,c8,P6 _,λz hz=>q2 (p2-1) (by omega) z hz⟩
    ·intro kz H;have m1:=MH.manyA t h.m k k1 h.a' h.b' (λi hi1 hi2 x hx z hz1 hz=>by rw [ly] at hz;injection hz with hz;rw [<-hz];exact k3 i hi1 hi2 x hx);exact .eq2 (x:=k) (y:=0) (λc1=> .pure ⟨h.g,MH.done t m1 (S0 k1 h.a') h.b' (.inl c1)⟩) λc1=>H _ _ ⟨m1,fJ c1,k1,λz hz=>k2 (k-1) (fI (fJ c1) cZ) z hz⟩
    ·exact λkz=>⟨h.m,h.a,P6 _,λz hz=>k2 (pa-1) (by have:1<=pa:=h.a;omega) z hz⟩
   ·exact λc st3 h=>h.never h'.le
   ·intro c st3;revert c;refine Ex λr pa pb out mg ac bc h3=> ?_
    cases r with
    |some r=>exact .pure ⟨r,rfl,h3⟩
    |none=>exact .bind (Tm.modify (.pure (h3.2.at h3.1 λl=>by have n1:i+1+ia+ib<=a.size+b.size:=h.n;have n2:1+ja+jb<=ia+ib:=h'.n;dsimp only at l ⊢;omega)))
 ·exact λc st1 h=>h.never (V0 _ _)
 ·intro c st1;revert c;refine Ev λr ia ib out mg h=> ?_
  obtain⟨c,rfl,gl,wh⟩:=h;exact .pure (q c st1 gl wh)
end
section
variable {prog:T3}{w:B9}{A:N6}{E:G1->G3->Prop}{J:G3->Prop}{κ:SortKind}{U:D7->Prop}{R:D7->D7->N0}
def seg (l:G0 D7)(p n:G6):G0 D7:=(l.drop p).take n
variable {n:G6}
theorem Wm {l:G0 D7}{p i:G6}(hi:i<n):(seg l p n)[i]? =l[p+i]? :=by
 unfold seg;rw [dZ hi,X8]
theorem Zu {l:G0 D7}{p:G6}(h:p+n<=l.length):(seg l p n).length=n:=by
 unfold seg;rw [T4,B3];omega
theorem Uq {l:G0 D7}{p:G6}{x:D7}(h:x∈seg l p n):x∈l:=L8 (O8 h)
theorem Hn {left:N0}{arr:S9 D7}{y:D7}{base hint:G6}{st:C5}{Q:D2 G6->C5->Prop}(ak:WY prog w A J κ U R)(kd:kindOf st=κ)(o:Ordd U R)(u: ∀x∈arr.toList,U x)(s:Srt R (seg arr.toList base n))(uy:U y)(hn:base+n<=arr.size)(hh:hint<n)
 (q: ∀k,k<=n->(∀x∈(seg arr.toList base n).take k,(if left=true then R x y else !R y x)=true)->(∀x∈(seg arr.toList base n).drop k,(if left=true then R x y else !R y x)=false)->Q (some k) st):Tm prog w A E J (gal left y arr base n hint) Q st:=by
 have ln:arr.toList.length=arr.size:=by simp
 have sl:(seg arr.toList base n).length=n:=Zu (by omega);have us: ∀x∈seg arr.toList base n,U x:=λx hx=>u x (Uq hx)
 refine PH ak kd uy (λi hi=> ?_) (λi j hij hj h=> ?_) hh (λk k1 k2 k3=>q k k1 (λx hx=> ?_) (λx hx=> ?_))
 ·obtain⟨x,lx,ex⟩:=Zt (show base+i<arr.size by omega);exact⟨x,ex,u x (P8 lx)⟩
 ·obtain⟨x,lx,_⟩:=Zt (show base+i<arr.size by omega);obtain⟨z,lz,_⟩:=Zt (show base+j<arr.size by omega);have ux:=u x (P8 lx);have uz:=u z (P8 lz);have le:=Zr s o us hij (by rw [Wm (by omega)];exact lx) (by rw [Wm hj];exact lz);rw [wL lz] at h;rw [wL lx];cases left with
  |true=>
   have hz:R z y=true:=by simpa using h
   rcases o.neg z x y uz ux uy hz with v|v
   ·rw [le] at v;cases v
   ·simp [v]
  |false=>
   have hz:R y z=false:=by simpa using h
   have:=o.trans ux uz uy le hz;simp [this]
 ·obtain⟨i,hi,e⟩:=aE hx;rw [T4,sl] at hi;have lx:arr.toList[base+i]? =some x:=by
   rw [<-Wm (n:=n) (by omega),G2 (by omega),<-e,qM]
  have:=k2 i (by omega);rw [wL lx] at this;exact this
 ·obtain⟨i,hi,e⟩:=aE hx;rw [B3,sl] at hi;have lx:arr.toList[base+(k+i)]? =some x:=by
   rw [<-Wm (n:=n) (by omega),G2 (by omega),<-e,qN]
  have:=k3 (k+i) (by omega) (by omega);rw [wL lx] at this;exact this
theorem Xq: ∀ (m:G0 D7) (arr:S9 D7) (p d:G6),p+d+m.length<=arr.size->((m.zipIdx d).foldl (λ(c:S9 D7) (x:D7×G6)=>c.setIfInBounds (p+x.2) x.1) arr).toList=arr.toList.take (p+d)++m++arr.toList.drop (p+d+m.length)
 | [],arr,p,d,_=>by simp
 |x::m,arr,p,d,h=>by
  rw [D9] at h;rw [List.zipIdx_cons,mY];rw [Xq m _ p (d+1) (by rw [eO];omega)];have hl:arr.toList.length=arr.size:=by simp
  rw [j8];have e1:(arr.toList.set (p+d) x).take (p+(d+1))=arr.toList.take (p+d)++ [x]:=by
   rw [show p+(d+1)=p+d+1 by omega,F8,gA (by omega)];rw [List.take_set_of_le (P6 _)];rfl
  have e2:(arr.toList.set (p+d) x).drop (p+(d+1)+m.length)=arr.toList.drop (p+d+(m.length+1)):=by
   rw [List.drop_set_of_lt (by omega),show p+(d+1)+m.length=p+d+(m.length+1) by omega]
  rw [e1,e2,D9];simp [D5]
end
section
variable {prog:T3}{w:B9}{A:N6}{E:G1->G3->Prop}{J:G3->Prop}{κ:SortKind}{U:D7->Prop}{R:D7->D7->N0}
theorem Tm.set {σ:Type}{st st':σ}{Q:PUnit->σ->Prop}(q:Q ⟨⟩ st'):Tm prog w A E J (MonadStateOf.set st':Y6 σ Sem PUnit) Q st:=λs j=>by
 show R3 _ _ ((StateT.set st':Y6 σ Sem PUnit).run st) _ _ _;exact P0 ⟨q,j⟩
theorem PM (a:S9 D7){p n:G6}(h:p<=n):(a.extract p n).toList=seg a.toList p (n-p):=by
 rw [bI,Q4];rfl
theorem PN (o:Ordd U R){l:G0 D7}(u: ∀x∈l,U x)(s:Srt R l){z:D7}(hz:l[l.length-1]? =some z){x:D7}(hx:x∈l):R z x=false:=by
 obtain⟨i,hi,e⟩:=aE hx;exact Zr s o u (show i<=l.length-1 by omega) (by rw [G2 hi,e]) hz
theorem Xr (o:Ordd U R){l:G0 D7}(u: ∀x∈l,U x)(s:Srt R l){z:D7}(hz:l[0]? =some z){x:D7}(hx:x∈l):R x z=false:=by
 obtain⟨i,hi,e⟩:=aE hx;exact Zr s o u (N9 _) hz (by rw [G2 hi,e])
theorem Zv (o:Ordd U R){X Y c:G0 D7}{k k2:G6}{y0 x9:D7}(uX: ∀x∈X,U x)(uY: ∀x∈Y,U x)(sX:Srt R X)(sY:Srt R Y)(hy:Y[0]? =some y0)(hx:X[X.length-1]? =some x9)
 (f1: ∀x∈X.take k,R y0 x=false)(g2: ∀y∈Y.drop k2,R y x9=false)(hp:c.Perm (X.drop k++Y.take k2))(sc:Srt R c):(X.take k++c++Y.drop k2).Perm (X++Y)/\Srt R (X.take k++c++Y.drop k2):=by
 have uy0:=uY y0 (P8 hy);have ux9:=uX x9 (P8 hx);constructor
 ·have e:X++Y=X.take k++(X.drop k++Y.take k2)++Y.drop k2:=by
   rw [<-D5,N4,D5,N4]
  rw [e];exact(hp.append_left _).append_right _
 ·have inX: ∀x∈X.take k,∀z∈X.drop k,R z x=false:=λx hx z hz=>by
   have:Srt R (X.take k++X.drop k):=by rw [N4];exact sX
   exact(B2.mp this).2.2 x hx z hz
  have inY: ∀x∈Y.take k2,∀z∈Y.drop k2,R z x=false:=λx hx z hz=>by
   have:Srt R (Y.take k2++Y.drop k2):=by rw [N4];exact sY
   exact(B2.mp this).2.2 x hx z hz
  have xy: ∀x∈X.take k,∀y∈Y,R y x=false:=λx hx y hy'=>o.trans (uX x (O8 hx)) uy0 (uY y hy') (f1 x hx) (Xr o uY sY hy hy')
  have yx: ∀x∈X,∀y∈Y.drop k2,R y x=false:=λx hx' y hy'=>o.trans (uX x hx') ux9 (uY y (L8 hy')) (PN o uX sX hx hx') (g2 y hy')
  have xc: ∀x∈X.take k,∀z∈c,R z x=false:=λx hx z hz=>by
   rcases D8.mp (hp.mem_iff.mp hz) with v|v
   ·exact inX x hx z v
   ·exact xy x hx z (O8 v)
  refine B2.mpr ⟨B2.mpr ⟨sX.sublist (Q7 _ _),sc,xc⟩,sY.sublist (Q9 _ _),λx hx y hy=> ?_⟩;rcases D8.mp hx with v|v
  ·exact xy x v y (L8 hy)
  ·rcases D8.mp (hp.mem_iff.mp v) with v|v
   ·exact yx x (L8 v) y hy
   ·exact inY x v y hy
theorem Vk (l:G0 D7){p n m:G6}:l=l.take p++(seg l p n++seg l (p+n) m)++l.drop (p+n+m):=by
 unfold seg;have e1:(l.drop (p+n)).take m++l.drop (p+n+m)=l.drop (p+n):=by
  rw [show l.drop (p+n+m)=(l.drop (p+n)).drop m by rw [aO],N4]
 have e2:(l.drop p).take n++l.drop (p+n)=l.drop p:=by
  rw [show l.drop (p+n)=(l.drop p).drop n by rw [aO],N4]
 rw [D5,D5,e1,e2,N4]
theorem As {st:C5}{Q:N0->C5->Prop}{i sa na pw sb nb pw2:G6}(ak:WY prog w A J κ U R)(kd:kindOf st=κ)(o:Ordd U R)(u: ∀x∈(T6 st).toList,U x)(p1:(C0 st)[i]? =some (sa,na,pw))(p2:(C0 st)[i+1]? =some (sb,nb,pw2))
 (hs:sa+na=sb)(n1:1<=na)(n2:1<=nb)(hz:sb+nb<=(T6 st).size)(s1:Srt R (seg (T6 st).toList sa na))(s2:Srt R (seg (T6 st).toList sb nb))(hf:bH st=none)
 (q: ∀st' Z,kindOf st'=κ->bH st'=none->C0 st'=((C0 st).setIfInBounds i (sa,na+nb,pw)).eraseIdxIfInBounds (i+1)->(T6 st').toList=(T6 st).toList.take sa++Z++(T6 st).toList.drop (sb+nb)->Z.Perm (seg (T6 st).toList sa na++seg (T6 st).toList sb nb)->Srt R Z->Q true st'):
 Tm prog w A E J (xZ i) Q st:=by
 have ln:(T6 st).toList.length=(T6 st).size:=by simp
 unfold xZ;refine .bind (.get ?_);dsimp only;rw [p1,p2];dsimp only;refine .bind (Tm.set ?_);subst hs;have lX:(seg (T6 st).toList sa na).length=na:=Zu (by omega);have lY:(seg (T6 st).toList (sa+na) nb).length=nb:=Zu (by omega);have uX: ∀x∈seg (T6 st).toList sa na,U x:=λx hx=>u x (Uq hx)
 have uY: ∀x∈seg (T6 st).toList (sa+na) nb,U x:=λx hx=>u x (Uq hx)
 obtain⟨y0,ly0,ey0⟩:=Zt (arr:=T6 st) (show sa+na<(T6 st).size by omega);obtain⟨x9,lx9,ex9⟩:=Zt (arr:=T6 st) (show sa+(na-1)<(T6 st).size by omega);have hy:(seg (T6 st).toList (sa+na) nb)[0]? =some y0:=by rw [Wm (by omega)];exact ly0
 have hx:(seg (T6 st).toList sa na)[(seg (T6 st).toList sa na).length-1]? =some x9:=by rw [lX,Wm (by omega)];exact lx9
 have uy0:=u y0 (P8 ly0);have ux9:=u x9 (P8 lx9);have c3:=Vk (T6 st).toList (p:=sa) (n:=na) (m:=nb);have same: ∀ (st':C5),T6 st'=T6 st-> ∀k k2,(∀x∈(seg (T6 st).toList sa na).take k,R y0 x=false)->(∀y∈(seg (T6 st).toList (sa+na) nb).drop k2,R y x9=false)->(na<=k\/k2=0)->Srt R (seg (T6 st).toList sa na++seg (T6 st).toList (sa+na) nb):=λst' e k k2 f1 g2 h=>by
  have pl:(((seg (T6 st).toList sa na).drop k++(seg (T6 st).toList (sa+na) nb).take k2)).Perm ((seg (T6 st).toList sa na).drop k++(seg (T6 st).toList (sa+na) nb).take k2):= .refl _;have sc:Srt R ((seg (T6 st).toList sa na).drop k++(seg (T6 st).toList (sa+na) nb).take k2):=by
   rcases h with h|h
   ·rw [E1 (by omega),A4];exact s2.sublist (Q7 _ _)
   ·rw [h,gK,E7];exact s1.sublist (Q9 _ _)
  have:=(Zv o uX uY s1 s2 hy hx f1 g2 pl sc).2;rw [<-D5,N4,D5,N4] at this;exact this
 refine .bind (.elem ey0 (.bind (Hn (left:=false) ak kd o u s1 uy0 (show sa+na<=(T6 st).size by omega) (by omega) λk k1 f1 f2=> ?_)));have f1: ∀x∈(seg (T6 st).toList sa na).take k,R y0 x=false:=λx hx=>by simpa using f1 x hx
 have f2: ∀x∈(seg (T6 st).toList sa na).drop k,R y0 x=true:=λx hx=>by simpa using f2 x hx
 dsimp only
 by_cases z1:na-k=0
 ·rw [R8 (by simpa using z1)];refine .pure (q _ (seg (T6 st).toList sa na++seg (T6 st).toList (sa+na) nb) kd hf rfl c3 (.refl _) (same st rfl k nb f1 (λy hy=> ?_) (.inl (by omega))));rw [E1 (by omega)] at hy;cases hy
 rw [R9 (by simpa using z1)];refine .bind (.elem (show _=some x9 by rw [show sa+k+(na-k)-1=sa+(na-1) by omega];exact ex9) (.bind (Hn (left:=true) ak kd o u s2 ux9 (show sa+na+nb<=(T6 st).size by omega) (by omega) λk2 j1 g1 g2=> ?_)));have g1: ∀y∈(seg (T6 st).toList (sa+na) nb).take k2,R y x9=true:=λx hx=>by simpa using g1 x hx
 have g2: ∀y∈(seg (T6 st).toList (sa+na) nb).drop k2,R y x9=false:=λx hx=>by simpa using g2 x hx
 dsimp only
 by_cases z2:k2=0
 ·rw [R8 (by simpa using z2)];exact .pure (q _ _ kd hf rfl c3 (.refl _) (same st rfl k k2 f1 g2 (.inr z2)))
 rw [R9 (by simpa using z2)];have eX:((T6 st).extract (sa+k) (sa+na)).toList=(seg (T6 st).toList sa na).drop k:=by
  rw [PM _ (by omega)];unfold seg;rw [oA,aO,show sa+na-(sa+k)=na-k by omega]
 have eY:((T6 st).extract (sa+na) (sa+na+k2)).toList=(seg (T6 st).toList (sa+na) nb).take k2:=by
  rw [PM _ (by omega)];unfold seg;rw [oB,show sa+na+k2-(sa+na)=min k2 nb by omega]
 have sx:((T6 st).extract (sa+k) (sa+na)).size=na-k:=by rw [<-D1,eX,B3,lX]
 have sy:((T6 st).extract (sa+na) (sa+na+k2)).size=k2:=by rw [<-D1,eY,T4,lY];omega
 have hx2: ∀z,((seg (T6 st).toList sa na).drop k)[((seg (T6 st).toList sa na).drop k).length-1]? =some z->z=x9:=λz hz'=>by
  rw [B3,X8,lX,show k+(na-k-1)=na-1 by omega] at hz';rw [lX] at hx;rw [hx] at hz';injection hz' with hz';exact hz'.symm
 have hy2: ∀z,((seg (T6 st).toList (sa+na) nb).take k2)[0]? =some z->z=y0:=λz hz'=>by
  rw [dZ (by omega),hy] at hz';injection hz' with hz';exact hz'.symm
 have put: ∀c:S9 D7,yy R ((T6 st).extract (sa+k) (sa+na)) ((T6 st).extract (sa+na) (sa+na+k2)) c->(c.toList.zipIdx.foldl (λ(d:S9 D7) (x:D7×G6)=>d.setIfInBounds (sa+k+x.2) x.1) (T6 st)).toList=(T6 st).toList.take sa++((seg (T6 st).toList sa na).take k++c.toList++(seg (T6 st).toList (sa+na) nb).drop k2)++(T6 st).toList.drop (sa+na+nb):=λc wh=>by
  have lc:c.toList.length=na-k+k2:=by
   rw [wh.1.length_eq,P1,D1,D1,sx,sy]
  have:=Xq c.toList (T6 st) (sa+k) 0 (by omega);rw [this,lc,Y3,show sa+k+(na-k+k2)=sa+na+k2 by omega];have e1:(T6 st).toList.take (sa+k)=(T6 st).toList.take sa++(seg (T6 st).toList sa na).take k:=by
   unfold seg;rw [oB,X3 k1,List.take_add]
  have e2:(T6 st).toList.drop (sa+na+k2)=(seg (T6 st).toList (sa+na) nb).drop k2++(T6 st).toList.drop (sa+na+nb):=by
   unfold seg;have h1:((T6 st).toList.drop (sa+na)).drop k2=(((T6 st).toList.drop (sa+na)).take nb++((T6 st).toList.drop (sa+na)).drop nb).drop k2:=by rw [N4]
   rw [Y7 (by rw [T4,B3];omega),aO,aO] at h1;exact h1
  rw [e1,e2];simp [D5]
 have jr: ∀c:S9 D7,yy R ((T6 st).extract (sa+k) (sa+na)) ((T6 st).extract (sa+na) (sa+na+k2)) c->_:=λc wh=>Zv o (c:=c.toList) uX uY s1 s2 hy hx f1 g2 (by have:=wh.1;rw [eX,eY] at this;exact this) wh.2
 by_cases z3:na-k<=k2
 ·rw [R8 z3];refine .bind (Aq ak kd ⟨o,λx hx=> ?_,λx hx=> ?_,?_,?_,λy hy z hz'=> ?_⟩ (by rw [sx];omega) (by rw [sy];omega) (λy z hy' hz'=> ?_) λc st' gl wh=> .bind (Tm.modify (.bind (.get (.pure ?_)))))
  ·rw [eX] at hx;exact uX x (L8 hx)
  ·rw [eY] at hx;exact uY x (O8 hx)
  ·rw [eX];exact s1.sublist (Q9 _ _)
  ·rw [eY];exact s2.sublist (Q7 _ _)
  ·rw [eY] at hy;rw [eX] at hz';rw [hx2 z hz'];exact g1 y hy
  ·rw [eY] at hy';rw [eX] at hz';rw [hy2 y hy'];exact f2 z (P8 hz')
  ·have e:bH st'=none:=gl.2.2.2.trans hf;show Q (bH st').isNone _;rw [e];refine q _ _ (gl.1.trans kd) e gl.2.2.1 ?_ (jr c wh).1 (jr c wh).2;have ea:T6 st'=T6 st:=gl.2.1;show (c.toList.zipIdx.foldl _ (T6 st')).toList=_;rw [ea];exact put c wh
 ·rw [R9 z3];refine .bind (Ar ak kd ⟨o,λx hx=> ?_,λx hx=> ?_,?_,?_,λz hz' y hy'=> ?_⟩ (by rw [sx];omega) (by rw [sy];omega) (λy z hy' hz'=> ?_) λc st' gl wh=> .bind (Tm.modify (.bind (.get (.pure ?_)))))
  ·rw [eX] at hx;exact uX x (L8 hx)
  ·rw [eY] at hx;exact uY x (O8 hx)
  ·rw [eX];exact s1.sublist (Q9 _ _)
  ·rw [eY];exact s2.sublist (Q7 _ _)
  ·rw [eY] at hy';rw [eX] at hz';rw [hy2 y hy'];exact f2 z hz'
  ·rw [eY] at hy';rw [eX,sx] at hz';have:=hx2 z (by rw [B3,lX];exact hz');rw [this];exact g1 y (P8 hy')
  ·have e:bH st'=none:=gl.2.2.2.trans hf;show Q (bH st').isNone _;rw [e];refine q _ _ (gl.1.trans kd) e gl.2.2.1 ?_ (jr c wh).1 (jr c wh).2;have ea:T6 st'=T6 st:=gl.2.1;show (c.toList.zipIdx.foldl _ (T6 st')).toList=_;rw [ea];exact put c wh
end
section
variable {prog:T3}{w:B9}{A:N6}{E:G1->G3->Prop}{J:G3->Prop}{κ:SortKind}{U:D7->Prop}{R:D7->D7->N0}
def Lies (st:C5)(P Z S:G0 D7):Prop:=(T6 st).toList=P++Z++S
def Arr (st st':C5):Prop:=kindOf st'=kindOf st/\C0 st'=C0 st/\bH st'=bH st/\gallopOf st'=gallopOf st
theorem Arr.refl (st:C5):Arr st st:=⟨rfl,rfl,rfl,rfl⟩
theorem Mr (xs:S9 D7)(P Z S:G0 D7)(h:xs.toList=P++Z++S):(mirror xs P.length (P.length+Z.length) ((P.length+Z.length-P.length) / 2)).toList=P++Z.reverse++S:=by
 have hl:xs.size=P.length+Z.length+S.length:=by rw [<-D1,h];simp [eQ]
 refine cP λk=> ?_
 rw [N5,getElem?_mirror_all (by omega)]
 by_cases c:P.length<=k/\k<P.length+Z.length
 ·rw [R8 c,<-N5,h,D5,D5];have e1:(P++(Z++S))[P.length+(P.length+Z.length)-1-k]? =Z[P.length+Z.length-1-k]? :=by
   rw [N8 (by omega),C3 (by omega)]
   congr 1;omega
  have e2:(P++(Z.reverse++S))[k]? =Z[P.length+Z.length-1-k]? :=by
   rw [N8 (by omega),C3 (by rw [C7];omega),cK (by omega)]
   congr 1;omega
  rw [e1,e2]
 ·rw [R9 c,<-N5,h,D5,D5]
  by_cases d:k<P.length
  ·rw [C3 d,C3 d]
  ·have e1:(P++(Z++S))[k]? =S[k-P.length-Z.length]? :=by
    rw [N8 (by omega),N8 (by omega)]
   have e2:(P++(Z.reverse++S))[k]? =S[k-P.length-Z.length]? :=by
    rw [N8 (by omega),N8 (by rw [C7];omega),C7]
   rw [e1,e2]
theorem Tm.rev {st:C5}{P Z S:G0 D7}{i j:G6}{Q:Unit->C5->Prop}(h:Lies st P Z S)(hi:i=P.length)(hj:j=P.length+Z.length)(q: ∀st',Arr st st'->Lies st' P Z.reverse S->Q () st'):Tm prog w A E J (uU i j) Q st:=by
 rw [reverseSlice'_eq];subst hi hj;exact .modify (q _ ⟨rfl,rfl,rfl,rfl⟩ (Mr _ P Z S h))
theorem Tm.ltAt {st:C5}{x y:D7}{i j:G6}{Q:D2 N0->C5->Prop}(ak:WY prog w A J κ U R)(kd:kindOf st=κ)(hx:(T6 st).toList[i]? =some x)(hy:(T6 st).toList[j]? =some y)(ux:U x)(uy:U y)(q:Q (some (R x y)) st):Tm prog w A E J (ltAt' i j) Q st:=by
 rw [ltAt'_eq];exact .bind (.get (.bind (.elem (by rw [<-N5];exact hx) (.bind (.elem (by rw [<-N5];exact hy) (.lt ak kd ux uy q))))))
abbrev Dsc (R:D7->D7->N0)(l:G0 D7):Prop:=l.Pairwise λx y=>R x y=false
theorem CL {l:G0 D7}(d:Dsc R l):Srt R l.reverse:=gV.mpr d
theorem Mt (o:Ordd U R){l:G0 D7}{x y:D7}(u: ∀z∈l++ [x],U z)(uy:U y)(s:Srt R (l++ [x]))(h:R y x=false):Srt R (l++ [x]++ [y]):=by
 refine B2.mpr ⟨s,J1 _ _,λz hz v hv=> ?_⟩;rw [G8.mp hv];have ux:=u x (by simp);rcases D8.mp hz with w|w
 ·exact o.trans (u z hz) ux uy ((B2.mp s).2.2 z w x (by simp)) h
 ·rw [G8.mp w];exact h
theorem Mu {l m:G0 D7}(s:Dsc R (l++m))(alike: ∀x∈m,∀y∈m,R x y=false):Dsc R (l++m.reverse):=by
 obtain⟨a,b,c⟩:=B2.mp s;refine B2.mpr ⟨a,?_,λx hx y hy=>c x hx y (A5.mp hy)⟩;rw [O3];intro i j hi hj _;exact alike _ (A5.mp (M7 hi)) _ (A5.mp (M7 hj))
end
section
variable {prog:T3}{w:B9}{A:N6}{E:G1->G3->Prop}{J:G3->Prop}{κ:SortKind}{U:D7->Prop}{R:D7->D7->N0}
theorem Arr.trans {a b c:C5}(x:Arr a b)(y:Arr b c):Arr a c:=⟨y.1.trans x.1,y.2.1.trans x.2.1,y.2.2.1.trans x.2.2.1,y.2.2.2.trans x.2.2.2⟩
variable {P Z:G0 D7}
theorem Lies.rest {st:C5}{S:G0 D7}(h:Lies st P Z S){i:G6}:(T6 st).toList[P.length+Z.length+i]? =S[i]? :=by
 rw [h,N8 (by rw [P1];omega),P1]
 congr 1;omega
theorem Lies.end {st:C5}{W S:G0 D7}{x:D7}(h:Lies st P (W++ [x]) S):(T6 st).toList[P.length+W.length]? =some x:=by
 rw [h,D5,N8 (by omega),D5,N8 (by omega)];simp
theorem Wn {l:G0 D7}(h:1<=l.length): ∃W x,l=W++ [x]:=by
 rcases List.eq_nil_or_concat l with e|⟨W,x,e⟩
 ·subst e;simp at h
 ·exact⟨W,x,by rw [e,List.concat_eq_append]⟩
structure Fall (R:D7->D7->N0)(T Z1 Z2:G0 D7)(n:G6):Prop where
 len:(Z1++Z2).length=n
 perm:(Z1++Z2).Perm (T.take n)
 dsc:Dsc R (Z1++Z2)
 alike: ∀x∈Z2,∀y∈Z2,R x y=false
 ne:1<=Z2.length
variable {T:G0 D7}{n:G6}
theorem Fall.turn {Z1 Z2:G0 D7}(f:Fall R T Z1 Z2 n):Fall R T Z1 Z2.reverse n:=
 ⟨by have:=f.len;simp only [P1,C7] at this ⊢;exact this,((V9 Z2).append_left Z1).trans f.perm,Mu f.dsc f.alike,λx hx y hy=>f.alike x (A5.mp hx) y (A5.mp hy),by rw [C7];exact f.ne⟩
theorem Fall.mem {Z1 Z2:G0 D7}(f:Fall R T Z1 Z2 n){x:D7}(h:x∈Z1++Z2):x∈T:=O8 (f.perm.mem_iff.mp h)
theorem vF {y:D7}(h:Z.Perm (T.take n))(hy:T[n]? =some y):(Z++ [y]).Perm (T.take (n+1)):=by
 rw [Zq hy];exact h.append_right _
theorem Fall.below (o:Ordd U R){T Z1 Z2:G0 D7}{n:G6}{x y:D7}(u: ∀x∈T,U x)(f:Fall R T Z1 Z2 n)(hx:x∈Z2)(hy:T[n]? =some y)(h:R y x=true):Fall R T (Z1++Z2) [y] (n+1):=by
 have uy:=u y (P8 hy);have ux:=u x (f.mem (D8.mpr (.inr hx)));have xy:=o.asym y x uy ux h;refine⟨by rw [P1,f.len];rfl,vF f.perm hy,?_,λa ha b hb=> ?_,by simp⟩
 ·refine B2.mpr ⟨f.dsc,J1 _ _,λz hz v hv=> ?_⟩;rw [G8.mp hv];have uz:=u z (f.mem hz);have zx:R z x=false:=by
   rcases D8.mp hz with w|w
   ·exact(B2.mp f.dsc).2.2 z w x hx
   ·exact f.alike z w x hx
  exact o.trans uy ux uz xy zx
 ·rw [G8.mp ha,G8.mp hb];exact o.refl uy
theorem Fall.like (o:Ordd U R){T Z1 Z2:G0 D7}{n:G6}{x y:D7}(u: ∀x∈T,U x)(f:Fall R T Z1 Z2 n)(hx:x∈Z2)(hy:T[n]? =some y)(h:R y x=false)(h':R x y=false):Fall R T Z1 (Z2++ [y]) (n+1):=by
 have uy:=u y (P8 hy);have ux:=u x (f.mem (D8.mpr (.inr hx)));have zy: ∀z∈Z1++Z2,R z y=false:=λz hz=>by
  have uz:=u z (f.mem hz);have zx:R z x=false:=by
   rcases D8.mp hz with w|w
   ·exact(B2.mp f.dsc).2.2 z w x hx
   ·exact f.alike z w x hx
  exact o.trans uy ux uz h' zx
 have yz: ∀z∈Z2,R y z=false:=λz hz=>o.trans (u z (f.mem (D8.mpr (.inr hz)))) ux uy (f.alike x hx z hz) h
 refine⟨by rw [<-D5,P1,f.len];rfl,by rw [<-D5];exact vF f.perm hy,?_,λa ha b hb=> ?_,by simp⟩
 ·rw [<-D5];refine B2.mpr ⟨f.dsc,J1 _ _,λz hz v hv=> ?_⟩;rw [G8.mp hv];exact zy z hz
 ·rcases D8.mp ha with p|p<;>rcases D8.mp hb with r|r
  ·exact f.alike a p b r
  ·rw [G8.mp r];exact zy a (D8.mpr (.inr p))
  ·rw [G8.mp p];exact yz b r
  ·rw [G8.mp p,G8.mp r];exact o.refl uy
theorem Lies.more {st:C5}{m:G6}{y:D7}(L:Lies st P Z (T.drop m))(hy:T[m]? =some y):Lies st P (Z++ [y]) (T.drop (m+1)):=by
 unfold Lies at L ⊢;rw [L,zd hy];simp
theorem Lies.part {st:C5}{Z1 Z2 S:G0 D7}:Lies st P (Z1++Z2) S↔Lies st (P++Z1) Z2 S:=by
 unfold Lies;simp only [D5]
theorem Lies.two {st:C5}{m:G6}{y:D7}(L:Lies st P Z (T.drop m))(lz:Z.length=m)(m1:1<=m)(hy:T[m]? =some y):(T6 st).toList[P.length+m]? =some y/\ ∃W x,Z=W++ [x]/\(T6 st).toList[P.length+m-1]? =some x:=by
 have a:=L.rest (i:=0);rw [X8,lz,Y3,Y3,hy] at a;obtain⟨W,x,e⟩:=Wn (l:=Z) (by omega);subst e;refine⟨a,W,x,rfl,?_⟩;rw [<-L.end]
 congr 1
 rw [P1,cI] at lz;omega
section
variable {σ ρ τ α:Type}{st:σ}
theorem Tm.rangeN {f:G6->D2 ρ×τ->Y6 σ Sem (fV (D2 ρ×τ))}(I:G6->τ->σ->Prop){Q:τ->σ->Prop}{Q':D2 ρ×τ->σ->Prop}{a b:G6}{c:τ}(hab:a<=b)(h:I a c st)(step: ∀i c st,i<b->I i c st->Tm prog w A E J (f i (none,c)) (λr st'=>match r with| .done c'=>c'.1=none/\Q c'.2 st'| .yield c'=>c'.1=none/\I (i+1) c'.2 st') st)(fin: ∀c st,I b c st->Q c st)(q: ∀c st,Q c st->Q' (none,c) st):Tm prog w A E J (forIn [a:b] ((none:D2 ρ),c) f) Q' st:=by
 refine Tm.mono (Tm.range (λi c st=>c.1=none/\I i c.2 st) (Q:=λc st=>c.1=none/\Q c.2 st) hab ⟨rfl,h⟩ ?_ λc st h=>⟨h.1,fin _ _ h.2⟩) ?_
 ·rintro i ⟨_,c⟩ st hi ⟨rfl,h⟩;exact(step i c st hi h).mono λr st' x=>by cases r<;>exact x
 ·rintro ⟨_,c⟩ st ⟨rfl,h⟩;exact q c st h
theorem Tm.fork {c:Prop}[Decidable c]{t e:Y6 σ Sem α}{Q:α->σ->Prop}(I:σ->Prop)(G: ∀s,I s->Tm prog w A E J e Q s)(T:c->(∀s,I s->Tm prog w A E J e Q s)->Tm prog w A E J t Q st)(F: ¬c->I st):Tm prog w A E J (if c then t else e) Q st:=
 .if2 (λh=>T h G) λh=>G _ (F h)
end
section
variable {st:C5}{P T Z:G0 D7}{m:G6}
theorem PP {f:G6->D2 (D2 G6)×G6->Y6 C5 Sem (fV (D2 (D2 G6)×G6))}{G:G6->D2 N0->Y6 C5 Sem (fV (D2 (D2 G6)×G6))}{Q:D2 (D2 G6)×G6->C5->Prop}(ak:WY prog w A J κ U R)(kd:kindOf st=κ)(o:Ordd U R)(u: ∀x∈T,U x)
 (hf: ∀i n,f i (none,n)=ltAt' (P.length+n) (P.length+n-1) >>= G n)(hG: ∀n,G n (some true)=Pure.pure (.done (none,n))/\G n (some false)=Pure.pure (.yield (none,n+1)))
 (m1:1<=m)(m2:m<=T.length)(L:Lies st P Z (T.drop m))(p:Z.Perm (T.take m))(s:Srt R Z)
 (q: ∀n Z',1<=n->n<=T.length->Lies st P Z' (T.drop n)->Z'.Perm (T.take n)->Srt R Z'->(∀y,T[n]? =some y-> ∃W x,Z'=W++ [x]/\R y x=true)->Q (none,n) st):Tm prog w A E J (forIn [m:T.length] ((none:D2 (D2 G6)),m) f) Q st:=by
 refine Tm.rangeN (λi c s=>s=st/\c=i/\1<=i/\ ∃Z,Lies st P Z (T.drop i)/\Z.Perm (T.take i)/\Srt R Z) (Q:=λn s=>s=st/\Q (none,n) st) m2 ⟨rfl,rfl,m1,Z,L,p,s⟩ ?_ ?_ λc s h=>h.1 ▸ h.2
 ·rintro _ i _ hi ⟨rfl,rfl,i1,Z,L,p,s⟩;have hy:=G2 hi;obtain⟨ay,W,x,rfl,ax⟩:=L.two (by rw [p.length_eq,T4,X3 (M0 hi)]) i1 hy;have uy:=u _ (M7 hi);have uZ: ∀z∈W++ [x],U z:=λz hz=>u z (O8 (p.mem_iff.mp hz))
  rw [hf];refine .bind (.ltAt ak kd ay ax uy (uZ x (by simp)) ?_);cases hb:R T[i] x with
  |true=>
   rw [(hG _).1];exact .pure ⟨rfl,rfl,q i _ i1 (M0 hi) L p s λy h=>⟨W,x,rfl,by rw [hy] at h;injection h with h;rw [<-h];exact hb⟩⟩
  |false=>
   rw [(hG _).2];exact .pure ⟨rfl,rfl,rfl,g8 (N9 _),_,L.more hy,vF p hy,Mt o uZ uy s hb⟩
 ·rintro _ _ ⟨rfl,rfl,i1,Z,L,p,s⟩;exact⟨rfl,q _ Z i1 (P6 _) L p s λy h=>absurd (P9.mp h).1 (B7 _)⟩
end
def Fell (R:D7->D7->N0)(P T:G0 D7)(st st':C5)(n k:G6):Prop:=Arr st st'/\ ∃Z1 Z2,Lies st' P (Z1++Z2) (T.drop n)/\Fall R T Z1 Z2 n/\Z2.length=k+1
theorem Fell.rev {st s2:C5}{k:G6}{Q:Unit->C5->Prop}(h:Fell R P T st s2 n k)(q: ∀s3,Fell R P T st s3 n k->Q () s3):Tm prog w A E J (uU (P.length+n-(k+1)) (P.length+n)) Q s2:=by
 obtain⟨ar,Z1,Z2,L,F,l⟩:=h;have l12:=F.len;rw [P1] at l12;exact .rev (Lies.part.mp L) (by rw [P1];omega) (by rw [P1];omega) λs3 ar3 L3=>q s3 ⟨ar.trans ar3,Z1,_,Lies.part.mpr L3,F.turn,by rw [C7];exact l⟩
theorem Mv {st:C5}{Q:D2 G6->C5->Prop}(ak:WY prog w A J κ U R)(kd:kindOf st=κ)(o:Ordd U R)(u: ∀x∈T,U x)(h:Lies st P [] T)(h1:1<=T.length)
 (q: ∀n st' Z,1<=n->n<=T.length->Arr st st'->Lies st' P Z (T.drop n)->Z.Perm (T.take n)->Srt R Z->Q (some n) st'):Tm prog w A E J (countRun' P.length T.length) Q st:=by
 refine .bind (PP (m:=1) (Z:=T.take 1) ak kd o u (by exact λi n=>rfl) (by exact λn=>⟨rfl,rfl⟩) (P6 _) h1 ?_ (.refl _) ?_ λn Z n1 n2 L p sr br=> ?_)
 ·unfold Lies at h ⊢;rw [h,E7,D5,N4]
 ·match T,h1 with
  |x::r,_=>exact J1 _ _
 refine .eq2 (x:=n) (y:=T.length) (λz1=> .pure (q n _ _ n1 n2 (Arr.refl _) L p sr)) λz1=> ?_
 have n3:n<T.length:=J8 n2 z1;have hy:=G2 n3;have uZ: ∀z∈Z,U z:=λz hz=>u z (O8 (p.mem_iff.mp hz))
 obtain⟨W,x,e,yx⟩:=br _ hy;have lz:Z.length=n:=by rw [p.length_eq,T4,X3 n2]
 have xin:x∈Z:=by rw [e];simp
 have xl:Z[Z.length-1]? =some x:=by rw [e];simp
 have F0:(∀p∈Z,∀r∈Z,R p r=false)->Fall R T [] Z n:=λal=>⟨lz,p,O3.mpr λi j hi hj _=>al _ (M7 hi) _ (M7 hj),al,by rw [lz];exact n1⟩
 refine Tm.fork (λs=>Fell R P T st s (n+1) 0) ?_ ?_ ?_
 ·intro s1 F1;refine .bind (.rule (.bind (Tm.rangeN (λi c s=>c.1=i/\Fell R P T st s c.1 c.2) (Q:=λc s=>c.1<=T.length/\Fell R P T st s c.1 c.2) n3 ⟨rfl,F1⟩ ?_ (λc s h=>⟨E5 h.1,h.2⟩) ?_)))
  ·intro i c s2 hi h2;have hc:c.1<T.length:=by rw [h2.1];exact hi
   have hy:=G2 hc;have uy:=u _ (M7 hc);obtain⟨e1,ar2,Z1,Z2,L2,F2,l2⟩:=h2;have l12:=F2.len;obtain⟨ay,W,x,eW,ax⟩:=L2.two l12 (by rw [<-l12,P1,l2];exact cE _ _) hy;have xin:x∈Z2:=by
    obtain⟨V,v,e⟩:=Wn F2.ne;have e':=congrArg List.getLast? eW;rw [e,<-D5,oC,oC] at e';injection e' with e'
    rw [e,<-e'];simp
   have ux:=u x (F2.mem (D8.mpr (.inr xin)));refine .bind (.ltAt ak (ar2.1.trans kd) ay ax uy ux (.if2 (c:=R _ x=true) (λhb=> ?_) λhb=> .bind (.ltAt ak (ar2.1.trans kd) ax ay ux uy (.if2 (c:=R x _=true) (λhc'=> .pure ⟨rfl,M0 hc,ar2,Z1,Z2,L2,F2,l2⟩) λhc'=> ?_))))
   ·refine Tm.fork (λs=>Fell R P T st s (c.1+1) 0) (λs h=> .pure ⟨rfl,congrArg x3 e1,h⟩) (λzq H=> .bind ?_) λzq=>⟨ar2,Z1++Z2,[T[c.1]],L2.more hy,F2.below o u xin hy hb,rfl⟩
    have l12':=l12;rw [P1] at l12';exact .rev (Lies.part.mp L2) (by rw [P1];dsimp only;omega) (by rw [P1];dsimp only;omega) λs3 ar3 L3=>H s3 ⟨ar2.trans ar3,Z1++Z2.reverse,[T[c.1]],(Lies.part.mpr L3).more hy,F2.turn.below o u (A5.mpr xin) hy hb,rfl⟩
   ·refine .pure ⟨rfl,congrArg x3 e1,ar2,Z1,Z2++ [T[c.1]],?_,F2.like o u xin hy (V8.mpr hb) (V8.mpr hc'),by rw [P1,l2];rfl⟩;rw [<-D5];exact L2.more hy
  ·intro c s2 h2;refine Tm.fork (λs=> ∃k,Fell R P T st s c.1 k) ?_ (λzq H=> .bind (h2.2.rev λs h=>H s ⟨_,h⟩)) λzq=>⟨_,h2.2⟩
   intro s3 h3;obtain⟨k,ar3,Z1,Z2,L3,F3,l3⟩:=h3;have m1:1<=c.1:=by rw [<-F3.len,P1,l3];exact cE _ _
   exact .bind (.rev L3 rfl (by rw [F3.len]) λs4 ar4 L4=> .bind (PP ak ((ar3.trans ar4).1.trans kd) o u (by exact λi n=>rfl) (by exact λn=>⟨rfl,rfl⟩) m1 h2.1 L4 ((V9 _).trans F3.perm) (CL F3.dsc) λn Z n1 n2 L p sr _=> .pure (q n s4 Z n1 n2 (ar3.trans ar4) L p sr)))
 ·intro z2 H;obtain⟨x0,V,eV⟩: ∃x0 V,Z=x0::V:=by
   match Z,xin with
   |a::r,_=>exact⟨a,r,rfl⟩
  have ux:=uZ x xin;have ux0:=uZ x0 (by rw [eV];simp);have a0:(T6 st).toList[P.length]? =some x0:=by rw [L,eV];simp
  have a1:(T6 st).toList[P.length+n-1]? =some x:=by
   obtain⟨_,W',x',e',ax⟩:=L.two lz n1 hy;rw [e] at e';rw [ax,(List.append_inj' e' rfl).2 |> λh=>(List.cons.inj h).1]
  exact .bind (.ltAt ak kd a0 a1 ux0 ux (.if2 (c:=R x0 x=true) (λ_=> .pure (q n _ _ n1 n2 (Arr.refl _) L p sr)) λhr0=> .bind (.rev L rfl (by rw [lz]) λs1 ar1 L1=>H s1 ⟨ar1,_,_,L1.more hy,Fall.below o u (Z1:= []) (Fall.turn (F0 λp hp r hr=>o.trans (uZ r hr) ux (uZ p hp) (PN o uZ sr xl hr) (V8.mpr λv=>(o.neg p x0 x (uZ p hp) ux0 ux v).elim (λv=>by rw [Xr o uZ sr (z:=x0) (by rw [eV];rfl) hp] at v;cases v) hr0))) (A5.mpr xin) hy yx,rfl⟩)))
 ·intro z2;have w0:W= []:=J6 (by rw [e,P1,cI] at lz;omega);have f: ∀z∈Z,z=x:=λz hz=>by rw [e,w0] at hz;exact G8.mp hz
  exact⟨Arr.refl st,_,_,L.more hy,Fall.below o u (Z1:= []) (F0 λp hp r hr=>by rw [f p hp,f r hr];exact o.refl (uZ x xin)) xin hy yx,rfl⟩
end
section
variable {prog:T3}{w:B9}{A:N6}{E:G1->G3->Prop}{J:G3->Prop}{κ:SortKind}{U:D7->Prop}{R:D7->D7->N0}
theorem Mw {B:S9 D7}{A R:G0 D7}{z y:D7}(h:B.toList=A++z::y::R):(B.swapIfInBounds (A.length+1) A.length).toList=A++y::z::R:=by
 obtain⟨l⟩:=B;cases h;have n:A.length<(A++z::y::R).length:=by rw [P1];exact Nat.lt_add_of_pos_right (b9 _)
 have n1:A.length+1<(A++z::y::R).length:=by rw [P1];exact Nat.add_lt_add_left (rJ (b9 _)) _
 have a0:(A++z::y::R)[A.length]=z:=mR rfl rfl;have a1:(A++z::y::R)[A.length+1]=y:=mR (l₁:=A++ [z]) (l₂:=R) (by rw [D5];rfl) (by rw [P1];rfl);unfold Array.swapIfInBounds;refine(congrArg pW ((oU n1).trans (oU n))).trans ?_;rw [Array.toList_swap];show ((A++z::y::R).set (A.length+1) (A++z::y::R)[A.length]).set A.length (A++z::y::R)[A.length+1]=_;rw [a0,a1,nH _ _ (V0 A.length 1),nH _ _ (P6 _),iQ,fZ];rfl
theorem PQ {xs:S9 D7}{y:D7}{S:G0 D7}: ∀ (Z A:G0 D7),xs.toList=A++(Z++y::S)->(bubble xs (A.length+Z.length) Z.length).toList=A++y::(Z++S)
 | [],A,h=>h
 |z::Z,A,h=>by
  have ih:=PQ Z (A++ [z]) (by rw [h,D5];rfl);rw [P1,fM] at ih;rw [D9,bubble_succ,show A.length+(Z.length+1)-Z.length=A.length+1 from j9 (n:=A.length+1) (m:=Z.length) ▸ by rw [fM];rfl];exact Mw (ih.trans (by rw [D5];rfl))
theorem Mx (xs:S9 D7)(P Z S:G0 D7)(y:D7)(l:G6)(hl:l<=Z.length)(h:xs.toList=P++Z++y::S):(bubble xs (P.length+Z.length) (Z.length-l)).toList=P++(Z.take l++ [y]++Z.drop l)++S:=by
 have e:=PQ (xs:=xs) (y:=y) (S:=S) (Z.drop l) (P++Z.take l) (by rw [h,D5 P (Z.take l),<-D5 (Z.take l),N4,D5]);rw [P1,T4,B3,X3 hl,eQ,E6 hl] at e;rw [e];simp only [D5,aJ,A4]
theorem CM (o:Ordd U R){Z:G0 D7}{y:D7}{l:G6}(u: ∀z∈Z,U z)(uy:U y)(s:Srt R Z)(a: ∀z∈Z.take l,R y z=false)(b: ∀z∈Z.drop l,R y z=true):Srt R (Z.take l++ [y]++Z.drop l):=by
 have s':Srt R (Z.take l++Z.drop l):=by rw [N4];exact s
 obtain⟨s1,s2,s3⟩:=B2.mp s';refine B2.mpr ⟨B2.mpr ⟨s1,J1 _ _,λx hx z hz=> ?_⟩,s2,λx hx z hz=> ?_⟩
 ·rw [G8.mp hz];exact a x hx
 ·rcases D8.mp hx with v|v
  ·exact s3 x v z hz
  ·rw [G8.mp v];exact o.asym y z uy (u z (L8 hz)) (b z hz)
theorem At {st:C5}{Q:N0->C5->Prop}{P T Z:G0 D7}{n k:G6}(ak:WY prog w A J κ U R)(kd:kindOf st=κ)(o:Ordd U R)(u: ∀x∈T,U x)(h:Lies st P Z (T.drop k))(hp:Z.Perm (T.take k))(hs:Srt R Z)(k1:1<=k)(kn:k<=n)(hn:n<=T.length)
 (q: ∀st' Z',Arr st st'->Lies st' P Z' (T.drop n)->Z'.Perm (T.take n)->Srt R Z'->Q true st'):Tm prog w A E J (x4 P.length n k) Q st:=by
 unfold x4;refine .bind (Tm.mono (Tm.range (λi c s1=>Arr st s1/\c.1=none/\1<=i/\ ∃Z,Lies s1 P Z (T.drop i)/\Z.Perm (T.take i)/\Srt R Z) (Q:=λc s1=>Arr st s1/\c.1=none/\ ∃Z,Lies s1 P Z (T.drop n)/\Z.Perm (T.take n)/\Srt R Z) (by omega) ⟨Arr.refl st,rfl,by omega,Z,by rw [sJ k1];exact h,by rw [sJ k1];exact hp,hs⟩ ?_ ?_) ?_)
 ·rintro i ⟨r,c2⟩ s1 hi ⟨ar,hr,i1,Z,L,p,s⟩;dsimp only at hr ⊢;subst hr;obtain⟨y,hy⟩: ∃y,T[i]? =some y:=⟨_,G2 (by omega)⟩;have uy:=u y (P8 hy);have lz:Z.length=i:=by rw [p.length_eq,T4];omega
  have uZ: ∀z∈Z,U z:=λz hz=>u z (O8 (p.mem_iff.mp hz))
  have ay:(T6 s1).toList[P.length+i]? =some y:=by
   have:=L.rest (i:=0);rw [X8,lz] at this;rw [Y3] at this;rw [this];exact hy
  have az: ∀m,m<i-> ∃z,Z[m]? =some z/\(T6 s1).toList[P.length+m]? =some z:=λm hm=>by
   refine⟨Z[m],G2 (by omega),?_⟩;rw [L,D5,N8 (by omega),C3 (by omega),fZ,G2 (by omega)]
  refine .bind (Tm.mono (Tm.range (λj c s2=>s2=s1/\c.1=none/\c.2.1<=c.2.2/\c.2.2<=i/\(∀z∈Z.take c.2.1,R y z=false)/\(∀z∈Z.drop c.2.2,R y z=true)/\c.2.2-c.2.1+j<=i) (Q:=λc s2=>s2=s1/\c.1=none/\c.2.1<=i/\(∀z∈Z.take c.2.1,R y z=false)/\(∀z∈Z.drop c.2.1,R y z=true)) (N9 _) ⟨rfl,rfl,N9 _,P6 _,λz hz=> ?_,λz hz=> ?_,by dsimp only;omega⟩ ?_ ?_) ?_)
  ·dsimp only at hz;rw [gK] at hz;cases hz
  ·dsimp only at hz;rw [E1 (by omega)] at hz;cases hz
  ·rintro j ⟨r,l,v⟩ _ hj ⟨rfl,hr,b1,b2,b3,b4,b5⟩;dsimp only at hr b1 b2 b3 b4 b5 ⊢;subst hr
   by_cases c1:l>=v
   ·rw [R8 c1];have:l=v:=by omega
    subst this;exact .pure ⟨rfl,rfl,b2,b3,b4⟩
   rw [R9 c1];obtain⟨z,hz,ez⟩:=az ((l+v) / 2) (by omega);have uz:=uZ z (P8 hz);refine .bind (.ltAt ak (ar.1.trans kd) ay ez uy uz ?_);dsimp only;cases hb:R y z with
   |true=>
    rw [R8 rfl];refine .pure ⟨rfl,rfl,by dsimp only;omega,by dsimp only;omega,b3,λx hx=> ?_,by dsimp only;omega⟩;dsimp only at hx;have zx:R x z=false:=by
     obtain⟨t,ht,e⟩:=aE hx;rw [B3] at ht;exact Zr s o uZ (show (l+v) / 2<=(l+v) / 2+t by omega) hz (by rw [G2 (by omega),<-e,qN])
    rcases o.neg y x z uy (uZ x (L8 hx)) uz hb with w|w
    ·exact w
    ·rw [zx] at w;cases w
   |false=>
    rw [R9 (by decide)];refine .pure ⟨rfl,rfl,by dsimp only;omega,b2,λx hx=> ?_,b4,by dsimp only;omega⟩;dsimp only at hx;have xz:R z x=false:=by
     obtain⟨t,ht,e⟩:=aE hx;rw [T4] at ht;exact Zr s o uZ (show t<=(l+v) / 2 by omega) (by rw [G2 (by omega),<-e,qM]) hz
    exact o.trans (uZ x (O8 hx)) uz uy xz hb
  ·rintro ⟨r,l,v⟩ _ ⟨rfl,hr,b1,b2,b3,b4,b5⟩;dsimp only at hr b1 b2 b3 b4 b5 ⊢;have:l=v:=by omega
   subst this;exact⟨rfl,hr,b2,b3,b4⟩
  ·rintro ⟨r,l,v⟩ s2 ⟨rfl,hr,b2,b3,b4⟩;dsimp only at hr b2 b3 b4 ⊢;subst hr;dsimp only;refine .bind ?_;show Tm prog w A E J (moveDown' (P.length+i) (P.length+l)) _ _;rw [moveDown'_eq];refine .modify (.pure ⟨ar.trans ⟨rfl,rfl,rfl,rfl⟩,rfl,by omega,Z.take l++ [y]++Z.drop l,?_,?_,CM o uZ uy s b3 b4⟩)
   ·have:=Mx (T6 s2) P Z (T.drop (i+1)) y l (by omega) (by rw [<-zd hy];exact L);rw [lz] at this;rw [show P.length+i-(P.length+l)=i-l by omega];exact this
   ·refine m8 ?_ (vF p hy);rw [D5];have e:Z++ [y]=Z.take l++(Z.drop l++ [y]):=by rw [<-D5,N4]
    rw [e];exact(cJ).append_left _
 ·rintro ⟨r,c2⟩ s1 ⟨ar,hr,i1,Z,L,p,s⟩;exact⟨ar,hr,Z,L,p,s⟩
 ·rintro ⟨r,c2⟩ s1 ⟨ar,hr,Z,L,p,s⟩;dsimp only at hr ⊢;subst hr;exact .pure (q s1 Z ar L p s)
end
section
variable {prog:T3}{w:B9}{A:N6}{E:G1->G3->Prop}{J:G3->Prop}{κ:SortKind}{U:D7->Prop}{R:D7->D7->N0}
def Stk (R:D7->D7->N0)(l:G0 D7):G0 (G6×G6×G6)->G6->G6->Prop
 | [],s,e=>s=e
 |(p,n,_)::rest,s,e=>p=s/\1<=n/\Srt R (seg l p n)/\Stk R l rest (s+n) e
variable {l:G0 D7}
theorem Stk.le: ∀ {pl:G0 (G6×G6×G6)} {s e:G6},Stk R l pl s e->s+pl.length<=e
 | [],s,e,h=>by cases h;simp
 |(p,n,_)::rest,s,e,⟨_,n1,_,h⟩=>by have:=Stk.le h;simp only [D9];omega
theorem Mz {l':G0 D7}{p n e:G6}(h:l.take e=l'.take e)(he:p+n<=e):seg l p n=seg l' p n:=by
 have cut: ∀k:G0 D7,seg k p n=seg (k.take e) p n:=λk=>by
  unfold seg;rw [oA,oB,X3 (by omega)]
 rw [cut l,cut l',h]
theorem Stk.same {l l':G0 D7}: ∀ {pl:G0 (G6×G6×G6)} {s e:G6},Stk R l pl s e->l.take e=l'.take e->Stk R l' pl s e
 | [],s,e,h,_=>h
 |(p,n,_)::rest,s,e,⟨a,b,c,d⟩,h=>by
  have:=d.le;exact⟨a,b,by rw [<-Mz h (by omega)];exact c,d.same h⟩
theorem Stk.shift {l':G0 D7}: ∀ {pl:G0 (G6×G6×G6)} {s e:G6},Stk R l pl s e->l.drop s=l'.drop s->Stk R l' pl s e
 | [],s,e,h,_=>h
 |(p,n,_)::rest,s,e,⟨a,b,c,d⟩,h=>by
  subst a;refine⟨rfl,b,by unfold seg at c ⊢;rw [<-h];exact c,d.shift ?_⟩;rw [<-aO,<-aO,h]
theorem Stk.append: ∀ {a b:G0 (G6×G6×G6)} {s e:G6},Stk R l (a++b) s e↔ ∃m,Stk R l a s m/\Stk R l b m e
 | [],b,s,e=>⟨λh=>⟨s,rfl,h⟩,λ⟨m,h,h'⟩=>by cases h;exact h'⟩
 |(p,n,w)::a,b,s,e=>by
  constructor
  ·rintro ⟨x,y,z,h⟩;obtain⟨m,h1,h2⟩:=Stk.append.mp h;exact⟨m,⟨x,y,z,h1⟩,h2⟩
  ·rintro ⟨m,⟨x,y,z,h1⟩,h2⟩;exact⟨x,y,z,Stk.append.mpr ⟨m,h1,h2⟩⟩
structure Bt (R:D7->D7->N0)(κ:SortKind)(l0:G0 D7)(lo:G6)(st:C5):Prop where
 kind:kindOf st=κ
 failed:bH st=none
 perm:(T6 st).toList.Perm l0
 stk:Stk R (T6 st).toList (C0 st).toList 0 lo
variable {l0:G0 D7}{lo:G6}
theorem Bt.size {st:C5}(b:Bt R κ l0 lo st):(T6 st).size=l0.length:=by rw [<-D1,b.perm.length_eq]
theorem Bt.merge {st:C5}{Q:N0->C5->Prop}{i:G6}(ak:WY prog w A J κ U R)(o:Ordd U R)(u: ∀x∈l0,U x)(b:Bt R κ l0 lo st)(hlo:lo<=l0.length)(hi:i+1<(C0 st).size)
 (q: ∀st',Bt R κ l0 lo st'->(C0 st').size+1=(C0 st).size->(T6 st').toList.drop lo=(T6 st).toList.drop lo->Q true st'):Tm prog w A E J (xZ i) Q st:=by
 have lp:(C0 st).toList.length=(C0 st).size:=by simp
 obtain⟨⟨sa,na,pw⟩,hx⟩: ∃x,(C0 st).toList[i]? =some x:=⟨_,G2 (by omega)⟩;obtain⟨⟨sb,nb,pw2⟩,hy⟩: ∃y,(C0 st).toList[i+1]? =some y:=⟨_,G2 (by omega)⟩;have e:(C0 st).toList=(C0 st).toList.take i++(sa,na,pw)::(sb,nb,pw2)::(C0 st).toList.drop (i+2):=by
  rw [<-zd hy,<-zd hx,N4]
 have stk:=b.stk;rw [e] at stk;obtain⟨m,k1,em,n1,s1,eb,n2,s2,k2⟩:=Stk.append.mp stk;subst em;subst eb;have le:=k2.le;have sz:=b.size;have hz:sa+na+nb<=(T6 st).size:=by omega
 have ln:(T6 st).toList.length=(T6 st).size:=by simp
 refine As ak b.kind o (λx hx=>u x (b.perm.mem_iff.mp hx)) (by rw [<-N5];exact hx) (by rw [<-N5];exact hy) rfl n1 n2 hz s1 s2 b.failed λst' Z kd hf hp ha pz sz'=> ?_
 have hpl:(C0 st').toList=(C0 st).toList.take i++(sa,na+nb,pw)::(C0 st).toList.drop (i+2):=by
  rw [hp,Array.eraseIdxIfInBounds_eq,oU (by rw [eO];exact hi),nJ,j8];generalize (C0 st).toList.drop (i+2)=B at e ⊢;have li:((C0 st).toList.take i).length=i:=by rw [T4];omega
  generalize (C0 st).toList.take i=A at e li ⊢;rw [e];subst li;simp [List.set_append,List.eraseIdx_append];intro z;omega
 have lZ:Z.length=na+nb:=by rw [pz.length_eq,P1,Zu (by omega),Zu (by omega)]
 have lt:((T6 st).toList.take sa).length=sa:=by rw [T4];omega
 refine q st' ⟨kd,hf,?_,?_⟩ ?_ ?_
 ·rw [ha];refine m8 ?_ b.perm;have c3:=Vk (T6 st).toList (p:=sa) (n:=na) (m:=nb);have pp:=(pz.append_left ((T6 st).toList.take sa)).append_right ((T6 st).toList.drop (sa+na+nb));rw [<-c3] at pp;exact pp
 ·rw [hpl,ha];refine Stk.append.mpr ⟨sa,k1.same ?_,rfl,by omega,?_,?_⟩
  ·rw [D5,Y8 (by omega),M6 (l:=(T6 st).toList.take sa) (by omega)]
  ·unfold seg;rw [D5,Y7 (by omega),E1 (by omega),A4,Y8 (by omega),M6 (by omega)];exact sz'
  ·rw [<-eQ];refine k2.shift ?_;have:((T6 st).toList.take sa++Z).length=sa+na+nb:=by rw [P1,lt,lZ];omega
   rw [Y7 (by omega),E1 (as:=(T6 st).toList.take sa++Z) (by omega),A4]
 ·rw [<-D1,<-D1,hpl];have:(C0 st).toList.length=((C0 st).toList.take i++(sa,na,pw)::(sa+na,nb,pw2)::(C0 st).toList.drop (i+2)).length:=congrArg Y4 e;rw [this];simp only [P1,D9];omega
 ·rw [ha];have c1:((T6 st).toList.take sa++Z).length=sa+na+nb:=by rw [P1,lt,lZ];omega
  have c2:sa+na+nb<=lo:=by omega
  rw [List.drop_append,E1 (as:=(T6 st).toList.take sa++Z) (by omega),A4,aO,c1]
  congr 1;omega
theorem Bt.run {Z:G0 D7}{n:G6}{s1 s2:C5}(b:Bt R κ l0 lo s1)(hlo:lo<=l0.length)(ar:Arr s1 s2)(L:Lies s2 ((T6 s1).toList.take lo) Z (((T6 s1).toList.drop lo).drop n))(p:Z.Perm (((T6 s1).toList.drop lo).take n))(sr:Srt R Z)(hn:n<=l0.length-lo):Bt R κ l0 lo s2/\Srt R (seg (T6 s2).toList lo n):=by
 have ln:(T6 s1).toList.length=l0.length:=b.perm.length_eq;have lP:((T6 s1).toList.take lo).length=lo:=by rw [T4];omega
 have lZ:Z.length=n:=by rw [p.length_eq,T4,B3];omega
 have e:(T6 s2).toList=(T6 s1).toList.take lo++Z++((T6 s1).toList.drop lo).drop n:=L;refine⟨⟨ar.1.trans b.kind,ar.2.2.1.trans b.failed,?_,?_⟩,?_⟩
 ·rw [e];refine m8 ?_ b.perm;have pp:=(p.append_left ((T6 s1).toList.take lo)).append_right (((T6 s1).toList.drop lo).drop n);rw [D5 _ (((T6 s1).toList.drop lo).take n),N4,N4] at pp;exact pp
 ·rw [ar.2.1];refine b.stk.same ?_;rw [e,D5,Y8 (by omega),M6 (l:=(T6 s1).toList.take lo) (by omega)]
 ·rw [e];unfold seg;rw [D5,Y7 (by omega),E1 (by omega),A4,Y8 (by omega),M6 (by omega)];exact sr
theorem Bt.push {n:G6}{s:C5}(b:Bt R κ l0 lo s)(n1:1<=n)(g:Srt R (seg (T6 s).toList lo n)):Bt R κ l0 (lo+n) (IW s ((C0 s).push (lo,n,0))):=by
 refine⟨b.kind,b.failed,b.perm,?_⟩;show Stk R (T6 s).toList ((C0 s).push (lo,n,0)).toList 0 (lo+n);rw [Q8];exact Stk.append.mpr ⟨lo,b.stk,rfl,n1,g,rfl⟩
theorem Stk.mod {f:G6×G6×G6->G6×G6×G6}(hf: ∀x,(f x).1=x.1/\(f x).2.1=x.2.1): ∀ {pl:G0 (G6×G6×G6)} {k s e:G6},Stk R l pl s e->Stk R l (pl.modify k f) s e
 | [],k,s,e,h=>by rw [List.modify_nil];exact h
 |(p,n,w)::rest,0,s,e,⟨a,b,c,d⟩=>by
  rw [List.modify_zero_cons];have e1:=(hf (p,n,w)).1;have e2:=(hf (p,n,w)).2;generalize f (p,n,w)=x at e1 e2;obtain⟨p',n',w'⟩:=x;dsimp only at e1 e2;subst e1 e2;exact⟨a,b,c,d⟩
 |(p,n,w)::rest,k+1,s,e,⟨a,b,c,d⟩=>by
  rw [List.modify_succ_cons];exact⟨a,b,c,d.mod hf⟩
theorem Bt.mod {k:G6}{s:C5}{f:G6×G6×G6->G6×G6×G6}(b:Bt R κ l0 lo s)(hf: ∀x,(f x).1=x.1/\(f x).2.1=x.2.1):Bt R κ l0 lo (IW s ((C0 s).modify k f)):=by
 refine⟨b.kind,b.failed,b.perm,?_⟩;show Stk R (T6 s).toList ((C0 s).modify k f).toList 0 lo;rw [Array.toList_modify];exact b.stk.mod hf
theorem MB (c:N0)(x:G6):(if c=true then x-1 else x)<=x:=by cases c<;>simp
theorem CN {st:C5}{Q:Unit->C5->Prop}(ak:WY prog w A J κ U R)(o:Ordd U R)(u: ∀x∈l0,U x)(kd:kindOf st=κ)(hf:bH st=none)(hp:C0 st= #[])(hl:(T6 st).toList=l0)
 (q: ∀st',bH st'=none->(T6 st').toList.Perm l0->Srt R (T6 st').toList->Q () st'):Tm prog w A E J sortRuns' Q st:=by
 have b0:Bt R κ l0 0 st:=⟨kd,hf,by rw [hl],by rw [hp];rfl⟩;rw [sortRuns'_eq];refine .bind (.get ?_);dsimp only;rw [b0.size];generalize minRun' l0.length l0.length 0=mr;refine .bind (Tm.mono (Tm.range (λi c s1=>c.1=none/\c.2<=l0.length/\i<=c.2/\Bt R κ l0 c.2 s1) (Q:=λc s1=>c.1=none/\Bt R κ l0 l0.length s1) (N9 _) ⟨rfl,N9 _,N9 _,b0⟩ ?_ ?_) ?_)
 ·rintro i ⟨r,lo⟩ s1 hi ⟨hr,h1,h2,b⟩;dsimp only at hr h1 h2 b ⊢;subst hr
  by_cases z1:lo>=l0.length
  ·rw [R8 z1];have:lo=l0.length:=by omega
   subst this;exact .pure ⟨rfl,b⟩
  rw [R9 z1];have ln:(T6 s1).toList.length=l0.length:=b.perm.length_eq;have lP:((T6 s1).toList.take lo).length=lo:=by rw [T4];omega
  have lT:((T6 s1).toList.drop lo).length=l0.length-lo:=by rw [B3,ln]
  have uT: ∀x∈(T6 s1).toList.drop lo,U x:=λx hx=>u x (b.perm.mem_iff.mp (L8 hx))
  have ct:=λ{Q}=>Mv (prog:=prog) (w:=w) (A:=A) (E:=E) (J:=J) (Q:=Q) (st:=s1) (P:=(T6 s1).toList.take lo) (T:=(T6 s1).toList.drop lo) ak b.kind o uT (by unfold Lies;rw [E7,N4]) (by omega)
  rw [lP,lT] at ct;refine .bind (ct λn s2 Z n1 n2 ar L p sr=> ?_);dsimp only
  by_cases z2:n<mr
  ·rw [R8 z2];have bn:=λ{Q}=>At (prog:=prog) (w:=w) (A:=A) (E:=E) (J:=J) (Q:=Q) (st:=s2) (P:=(T6 s1).toList.take lo) (T:=(T6 s1).toList.drop lo) (n:=min (l0.length-lo) mr) ak (ar.1.trans b.kind) o uT L p sr n1 (by omega) (by omega)
   rw [lP] at bn;refine .bind (.rule (.bind (bn λs3 Z3 ar3 L3 p3 sr3=> ?_)));obtain⟨B,G⟩:=b.run h1 (ar.trans ar3) L3 p3 sr3 (by omega);have N1:1<=min (l0.length-lo) mr:=by omega
   rw [R9 (by decide)];refine .bind (.get ?_);split
   ·refine .bind (Tm.mono (Tm.range (λj c s4=>c.1=none/\Bt R κ l0 lo s4/\Srt R (seg (T6 s4).toList lo (min (l0.length-lo) mr))) (Q:=λc s4=>c.1=none/\Bt R κ l0 lo s4/\Srt R (seg (T6 s4).toList lo (min (l0.length-lo) mr))) (N9 _) ⟨rfl,B,G⟩ ?_ (λ_ _ h=>h)) ?_)
    ·rintro j ⟨r,c⟩ s4 hj ⟨hr,B4,G4⟩;dsimp only at hr ⊢;subst hr;refine .bind (.get ?_);split
     ·rename_i older heq;split
      ·exact .pure ⟨rfl,B4,G4⟩
      ·have two:(C0 s4).size>1:=kP λz=>by rw [R9 z] at heq;cases heq
       refine .bind (Bt.merge ak o u B4 h1 (by omega) λs5 B5 _ dr=> ?_);refine .pure ⟨rfl,B5,?_⟩;unfold seg at G4 ⊢;rw [dr];exact G4
     ·exact .pure ⟨rfl,B4,G4⟩
    ·rintro ⟨r,c⟩ s4 ⟨hr,B4,G4⟩;dsimp only at hr ⊢;subst hr;dsimp only;refine .bind (.modify (.bind (.modify (.pure ⟨rfl,?_,?_,Bt.push (Bt.mod B4 λx=>⟨rfl,rfl⟩) N1 G4⟩))))
     ·dsimp only;omega
     ·dsimp only;omega
   ·refine .bind (.modify (.pure ⟨rfl,?_,?_,Bt.push B N1 G⟩))
    ·dsimp only;omega
    ·dsimp only;omega
  ·rw [R9 z2];obtain⟨B,G⟩:=b.run h1 ar L p sr n2;have N1:=n1;refine .bind (.get ?_);split
   ·refine .bind (Tm.mono (Tm.range (λj c s4=>c.1=none/\Bt R κ l0 lo s4/\Srt R (seg (T6 s4).toList lo (n))) (Q:=λc s4=>c.1=none/\Bt R κ l0 lo s4/\Srt R (seg (T6 s4).toList lo (n))) (N9 _) ⟨rfl,B,G⟩ ?_ (λ_ _ h=>h)) ?_)
    ·rintro j ⟨r,c⟩ s4 hj ⟨hr,B4,G4⟩;dsimp only at hr ⊢;subst hr;refine .bind (.get ?_);split
     ·rename_i older heq;split
      ·exact .pure ⟨rfl,B4,G4⟩
      ·have two:(C0 s4).size>1:=kP λz=>by rw [R9 z] at heq;cases heq
       refine .bind (Bt.merge ak o u B4 h1 (by omega) λs5 B5 _ dr=> ?_);refine .pure ⟨rfl,B5,?_⟩;unfold seg at G4 ⊢;rw [dr];exact G4
     ·exact .pure ⟨rfl,B4,G4⟩
    ·rintro ⟨r,c⟩ s4 ⟨hr,B4,G4⟩;dsimp only at hr ⊢;subst hr;dsimp only;refine .bind (.modify (.bind (.modify (.pure ⟨rfl,?_,?_,Bt.push (Bt.mod B4 λx=>⟨rfl,rfl⟩) N1 G4⟩))))
     ·dsimp only;omega
     ·dsimp only;omega
   ·refine .bind (.modify (.pure ⟨rfl,?_,?_,Bt.push B N1 G⟩))
    ·dsimp only;omega
    ·dsimp only;omega
 ·rintro ⟨r,lo⟩ s1 ⟨hr,h1,h2,b⟩;dsimp only at hr h1 h2 b;have:lo=l0.length:=by omega
  subst this;exact⟨hr,b⟩
 ·rintro ⟨r,lo⟩ s1 ⟨hr,b⟩;dsimp only at hr ⊢;subst hr;dsimp only;have le0:=b.stk.le;have lp0:(C0 s1).toList.length=(C0 s1).size:=by simp
  refine .bind (Tm.mono (Tm.range (λj c s4=>c.1=none/\Bt R κ l0 l0.length s4/\(C0 s4).size+j<=l0.length) (Q:=λc s4=>c.1=none/\Bt R κ l0 l0.length s4/\(C0 s4).size<=1) (N9 _) ⟨rfl,b,by omega⟩ ?_ (λc s4 ⟨x,y,z⟩=>⟨x,y,by omega⟩)) ?_)
  ·rintro j ⟨r,c⟩ s4 hj ⟨hr,B4,z4⟩;dsimp only at hr ⊢;subst hr;refine .bind (.get ?_)
   by_cases c1:(C0 s4).size<=1
   ·rw [R8 c1];exact .pure ⟨rfl,B4,c1⟩
   rw [R9 c1];refine .bind (Bt.merge ak o u B4 (P6 _) (X6 (oE (MB _ _) 1) (by omega)) λs5 B5 z5 _=> ?_);exact .pure ⟨rfl,B5,by omega⟩
  ·rintro ⟨r,c⟩ s4 ⟨hr,B4,z4⟩;dsimp only at hr ⊢;subst hr;refine .pure (q s4 B4.failed B4.perm ?_);have stk:=B4.stk;have ln:(T6 s4).toList.length=l0.length:=B4.perm.length_eq;have lp:(C0 s4).toList.length=(C0 s4).size:=by simp
   generalize (C0 s4).toList=pl at stk lp
   match pl,stk,lp with
   | [],e,_=>
    have:l0.length=0:=e.symm;have:(T6 s4).toList= []:=bR.mp (by omega);rw [this];exact .nil
   | [(p,n,_)],⟨e1,_,sr,e2⟩,_=>
    subst e1;have en:n=l0.length:=by have:0+n=l0.length:=e2;omega
    unfold seg at sr;rw [i8,M6 (by omega)] at sr;exact sr
   |_::_::_,_,h=>simp only [D9] at h;omega
end
section
variable {prog:T3}{w:B9}{A:N6}{E:G1->G3->Prop}{s:G3}{κ:SortKind}{U:D7->Prop}{R:D7->D7->N0}
def FZ (s:G3)(a:P3)(h':O6):Prop:= ∀b o,b≠a->s.heap.get? b=some o->h'.get? b=some o
def Only (s:G3)(h':O6):G3->Prop:=λs'=> ∃tk,s'= {s with heap:=h',toks:=tk}
theorem MC {M:pU}{α β:Type}{c:Prop}[Decidable c]{m m':Sem α}{F:α->Sem β}{Q:β->G3->Prop}(h:R3 M A ((if c then m else m') >>= F) Q E s):R3 M A (if c then m >>= F else m' >>= F) Q E s:=by
 by_cases z:c
 ·rw [R8 z] at h ⊢;exact h
 ·rw [R9 z] at h ⊢;exact h
theorem Jc (vs:G0 G1):(vs.toArray.zip vs.toArray).toList=vs.map λv=>(v,v):=by
 rw [Array.toList_zip];show vs.zip vs=_
 induction vs with
 |nil=>rfl
 |cons v vs ih=>rw [aP,ih,T5]
theorem CO {R:G1×G1->G1×G1->N0}: ∀l:G0 G1,l.length<2->Srt R (l.map λv=>(v,v))
 | [],_=>lB
 | [_],_=>J1 _ _
theorem MD {a:P3}{vs:G0 G1}{n:G6}{P:Fin->G3->Prop}(ho:s.heap.get? a=some (mS "list" vs.toArray n))(hz:vs.length<=sizeLine)
 (hk:2<=vs.length-> ∀h',FZ s a h'->R3 (R7 prog w) A (tX vs.toArray) (λk s'=>k=κ/\Only s h' s') (λ_ _=>False) {s with heap:=h'})(ak: ∀h',FZ s a h'->WY prog w A (Only s h') κ U R)(o:Ordd U R)(u: ∀v∈vs,U (v,v))
 (q: ∀ (out:G0 G1) (c tk:G6) (h':O6),FZ s a h'->h'.get? a=some (mS "list" out.toArray c)->out.Perm vs->(out.map λv=>(v,v)).Pairwise (λx y=>R y x=false)->P (.done (.ret .none)) {s with heap:=h',toks:=tk}):
 R3 (R7 prog w) A (Builtin.«list.sort» ⟨[.ref a],[]⟩) P E s:=by
 have alt:=R0 ho;have sv:vs.toArray.size=vs.length:=R4 ..;rw [list_sort_plain];refine wpAny_bind (listItems_at ho rfl ?_);obtain⟨c1,ho1⟩: ∃c,(s.heap.update a (Z8 λ_=>(#[]:S9 G1))).get? a=some (mS "list" #[] c):=⟨_,sK ho λ_=> #[]⟩;refine wpAny_bind (uV ho rfl ?_ (by rw [sv];exact hz) (N9 _));refine wpAny_bind (x5 ho1 rfl ?_);refine wpAny_bind (tW ?_ hz);refine wpAny_bind (uW ?_ (N9 _));refine O1 ?_;have past:FZ s a (((s.heap.update a (Z8 λ_=>(#[]:S9 G1))).push {cls:= .type "tuple",data:= .seq vs.toArray.toList.toArray}).push {cls:= .type "list",data:= .seq ([]:G0 G1).toArray}):=λb x ne e=>by
  refine G9 _ (G9 _ ?_);rw [oZ _ _ _ _ ne];exact e
 have ho3:=G9 ({cls:= .type "list",data:= .seq ([]:G0 G1).toArray}:Obj) (G9 ({cls:= .type "tuple",data:= .seq vs.toArray.toList.toArray}:Obj) ho1);revert past ho3;generalize ((s.heap.update a (Z8 λ_=>(#[]:S9 G1))).push ({cls:= .type "tuple",data:= .seq vs.toArray.toList.toArray}:Obj)).push ({cls:= .type "list",data:= .seq ([]:G0 G1).toArray}:Obj)=H3;intro past ho3;have kd:R3 (R7 prog w) A (if vs.toArray.size<2 then pure general' else tX vs.toArray) (λk s0=>(2<=vs.length->k=κ)/\Only s H3 s0) (λ_ _=>False) {s with heap:=H3}:=by
  by_cases c:vs.toArray.size<2
  ·rw [R8 c];exact P0 ⟨λz=>by omega,s.toks,rfl⟩
  ·rw [R9 c];exact T7 (hk (by omega) H3 past) (λk s0 x=>⟨λ_=>x.1,x.2⟩) λ_ _ e=>e
 have rn: ∀k s0,(2<=vs.length->k=κ)->Only s H3 s0->R3 (R7 prog w) A ((if vs.toArray.size<2 then pure () else sortRuns':Y6 C5 Sem Unit).run (SortSt.mk' k (vs.toArray.zip vs.toArray) #[] 7 none)) (λr s'=>(bH r.2=none/\(T6 r.2).toList.Perm (vs.map λv=>(v,v))/\Srt R (T6 r.2).toList)/\Only s H3 s') E s0:=by
  intro k s0 ek j
  by_cases c:vs.toArray.size<2
  ·rw [R8 c,StateT.run_pure];refine P0 ⟨⟨rfl,?_,?_⟩,j⟩
   ·show (vs.toArray.zip vs.toArray).toList.Perm _;rw [Jc]
   ·show Srt R (vs.toArray.zip vs.toArray).toList;rw [Jc];rw [sv] at c;exact CO vs c
  ·rw [R9 c];have ek:=ek (by omega);subst ek;refine CN (E:=E) (ak H3 past) o (l0:=vs.map λv=>(v,v)) (st:=SortSt.mk' k (vs.toArray.zip vs.toArray) #[] 7 none) (λx hx=> ?_) rfl rfl rfl (Jc vs) (Q:=λ_ st'=>bH st'=none/\(T6 st').toList.Perm (vs.map λv=>(v,v))/\Srt R (T6 st').toList) (λst' a1 a2 a3=>⟨a1,a2,a3⟩) s0 j;obtain⟨v,hv,rfl⟩:=R6.mp hx;exact u v hv
 dsimp only;refine MC (wpAny_bind (T7 kd (λk s0 x=> ?_) λ_ _ e=>e.elim));refine wpAny_bind (T7 (rn k s0 x.1 x.2) ?_ λ_ _ e=>e);rintro ⟨⟨⟩,st'⟩ s1 ⟨⟨hf,hp,hs⟩,tk,rfl⟩;dsimp only;have eo:((T6 st').map λx=>x.2)=((T6 st').toList.map λx=>x.2).toArray:=by
  rw [<-rK,Array.toArray_toList]
 have two:(T6 st').toList=((T6 st').toList.map λx=>x.2).map λv=>(v,v):=by
  rw [B6];refine(rT _).symm.trans (B8 λx hx=> ?_);obtain⟨v,_,rfl⟩:=R6.mp (hp.mem_iff.mp hx);rfl
 have po:((T6 st').toList.map λx=>x.2).Perm vs:=by
  have:=hp.map λx=>x.2
  rw [B6] at this;refine this.trans ?_;rw [show ((λx:D7=>x.2)∘λv:G1=>(v,v))=id from rfl,rT]
 rw [two] at hs;rw [eo];generalize (T6 st').toList.map (λx=>x.2)=out at hs po;obtain⟨c2,ho4⟩: ∃c,(H3.update a (Z8 λ_=>out.toArray)).get? a=some (mS "list" out.toArray c):=⟨_,sK ho3 λ_=>out.toArray⟩;refine wpAny_bind (x5 (s:= {s with heap:=H3,toks:=tk}) ho3 rfl ?_);refine wpAny_bind (uV (s:= {s with heap:=H3,toks:=tk}) ho3 rfl ?_ (N9 _) (by rw [R4,po.length_eq];exact qO hz));rw [hf];simp only [bne_self_eq_false,F5,nZ];refine P0 (q out c2 tk _ (λb x ne e=> ?_) ho4 po hs);rw [oZ _ _ _ _ ne];exact past b x ne e
abbrev Vl (h h':O6):Prop:= ∀b o,h.get? b=some o->h'.get? b=some o
end
theorem Jd: ∀a b:G0 P2,zt a b=true->zt b a=false
 | [],[],h=>rfl
 | [],_::_,_=>rfl
 |_::_,[],h=>by cases h
 |x::xs,y::ys,h=>by
  unfold zt at h ⊢
  by_cases e:x=y
  ·subst e;rw [R8 rfl] at h ⊢;exact Jd xs ys h
  ·rw [R9 e] at h;rw [R9 (E4 e)];have:=H0 h;exact S8 (by omega)
theorem Vm: ∀a b c:G0 P2,zt a c=true->zt a b=true\/zt b c=true
 | [],[],c,h=> .inr h
 | [],_::_,_,_=> .inl rfl
 |_::_,_,[],h=>by cases h
 |x::xs,[],z::zs,h=> .inr rfl
 |x::xs,y::ys,z::zs,h=>by
  unfold zt at h ⊢
  by_cases e:x=z
  ·subst e;rw [R8 rfl] at h
   by_cases f:x=y
   ·subst f;rw [R8 rfl,R8 rfl];exact Vm xs ys zs h
   ·rw [R9 f,R9 (E4 f)]
    by_cases g:x<y
    ·exact .inl (S7 g)
    ·exact .inr (S7 (by omega))
  ·rw [R9 e] at h;have lt:=H0 h
   by_cases f:x=y
   ·subst f;rw [R9 e];exact .inr h
   ·rw [R9 f]
    by_cases g:x<y
    ·exact .inl (S7 g)
    ·refine .inr ?_;rw [R9 (by omega)];exact S7 (by omega)
theorem Zw: ∀a b:G0 P2,zt a b=false->zt b a=false->a=b
 | [],[],_,_=>rfl
 | [],_::_,h,_=>by cases h
 |_::_,[],_,h=>by cases h
 |x::xs,y::ys,h,h'=>by
  unfold zt at h h'
  by_cases e:x=y
  ·subst e;rw [R8 rfl] at h h';rw [Zw xs ys h h']
  ·rw [R9 e] at h;rw [R9 (E4 e)] at h';have:=j6 h;have:=j6 h';omega
end HT
namespace L2
open PySem PySem.Spec PyProof.Rows PySem.SeqAt HT
theorem Vn {α β:Type}{f:α->β}: ∀ {out:G0 β} {l:G0 α},out.Perm (l.map f)-> ∃l':G0 α,l'.Perm l/\l'.map f=out
 | [],l,p=>by
  have e:=p.length_eq;rw [G5,L5] at e;exact⟨[],by rw [J6 e.symm],rfl⟩
 |x::out,l,p=>by
  obtain⟨y,hy,rfl⟩:=R6.mp (p.mem_iff.mp P4);obtain⟨l1,l2,rfl⟩:=List.append_of_mem hy;have p2:out.Perm ((l1++l2).map f):=by
   refine IX (a:=f y) (p.trans ?_);rw [T9,T9,T5];exact l9
  obtain⟨l',a,b⟩:=Vn p2;exact⟨y::l',(a.cons y).trans l9.symm,by rw [T5,b]⟩
abbrev tI (ns:G0 P2):D:= .tup (ns.map D.int)
abbrev toI (S:G0 G6):G0 P2:=S.map λ(k:G6)=>(k:P2)
def leS (a b:G0 G6):N0:= !HT.zt (toI b) (toI a)
def Au (l:G0 (G0 G6)):G0 (G0 G6):=l.mergeSort leS
theorem Qw (l:G0 (G0 G6)):(Au l).Perm l:=List.mergeSort_perm _ _
end L2
namespace L2
open PySem PySem.Spec PyProof.Rows PySem.SeqAt
theorem WZ {h h':HD}{a:P3}(sb:Sub h h')(e:h' a=none):h a=none:=by
 cases z:h a with
 |none=>rfl
 |some ds=>rw [sb a ds z] at e;cases e
theorem Sub.over {h h':HD}{a:P3}{ds:G0 D}(sb:Sub h h')(e:h a=none):Sub h (zB h' a ds):=⟨λb xs k=>jf (λz=>by subst z;rw [e] at k;cases k) (sb b xs k),sb.dc⟩
def wk (T:G0 (G0 P2)):G6->G6->G6->N0
 |0,i,j=>decide (i=j)|| !decide (ent T i j=0)
 |b+1,i,j=>wk T b i j||(wk T b i b&&wk T b b j)
theorem Ur (T:G0 (G0 P2)): ∀b i,wk T b i i=true
 |0,i=>by unfold wk;rw [S7 rfl];rfl
 |b+1,i=>by unfold wk;rw [Ur T b i];rfl
theorem Av (T:G0 (G0 P2))(b i:G6):wk T (b+1) i b=wk T b i b:=by
 show (wk T b i b||(wk T b i b&&wk T b b b))=_;cases wk T b i b<;>rfl
theorem Aw (T:G0 (G0 P2))(b j:G6):wk T (b+1) b j=wk T b b j:=by
 show (wk T b b j||(wk T b b b&&wk T b b j))=_;cases wk T b b j<;>cases wk T b b b<;>rfl
variable {T:G0 (G0 P2)}
theorem wk_by {b i j:G6}:wk T (b+1) i j=true↔wk T b i j=true\/(wk T b i b=true/\wk T b b j=true):=by
 show (wk T b i j||(wk T b i b&&wk T b b j))=true↔_;rw [X1,C6]
theorem wz: ∀ {b i k j:G6},k<b->wk T b i k=true->wk T b k j=true->wk T b i j=true
 |b+1,i,k,j,hk,x,y=>by
  by_cases e:k=b
  ·subst e;rw [Av] at x;rw [Aw] at y;exact wk_by.mpr (.inr ⟨x,y⟩)
  ·have lt:k<b:=by omega
   rcases wk_by.mp x with x|⟨x1,x2⟩
   ·rcases wk_by.mp y with y|⟨y1,y2⟩
    ·exact wk_by.mpr (.inl (wz lt x y))
    ·exact wk_by.mpr (.inr ⟨wz lt x y1,y2⟩)
   ·rcases wk_by.mp y with y|⟨y1,y2⟩
    ·exact wk_by.mpr (.inr ⟨x1,wz lt x2 y⟩)
    ·exact wk_by.mpr (.inr ⟨x1,y2⟩)
theorem JV {P:G6->G6->Prop}(r: ∀i,P i i)(a: ∀i j,ent T i j≠0->P i j)(t: ∀i k j,P i k->P k j->P i j): ∀ {b i j:G6},wk T b i j=true->P i j
 |0,i,j,h=>by
  have h:(decide (i=j)|| !decide (ent T i j=0))=true:=h;rw [X1] at h;rcases h with h|h
  ·rw [H0 h];exact r j
  ·exact a i j λz=>by rw [S7 z] at h;cases h
 |b+1,i,j,h=>by
  rcases wk_by.mp h with h|⟨h1,h2⟩
  ·exact JV r a t h
  ·exact t _ _ _ (JV r a t h1) (JV r a t h2)
theorem CP {n e:G6}(h:Sq n e T)(i j:G6)(z:ent T i j≠0):j<n:=by
 by_cases hj:j<n
 ·exact hj
 ·exfalso;apply z;unfold ent
  by_cases hi:i<T.length
  ·have hr:=h.row (T.getD i []) (by rw [P7,G2 hi];exact M7 hi);rw [P7,F7 (by rw [hr];omega)];rfl
  ·rw [P7 (l:=T),F7 (by omega)];rfl
def fW (T:G0 (G0 P2))(b i j x y:G6):N0:=if x<i\/(x=i/\y<j) then wk T (b+1) x y else wk T b x y
def Ho (g:G6->G6->N0)(w:G0 G6)(j:G6):N0:=g (w.getLastD 0) j&&(decide (w.headD 0<j)&& !decide (j∈w))
def Kp (g:G6->G6->N0)(n:G6)(w:G0 G6):G0 (G0 G6):=((D4 n).filter (Ho g w)).map λj=>w++ [j]
def lev (g:G6->G6->N0)(n:G6):G6->G0 (G0 G6)
 |0=>(D4 n).map λi=> [i]
 |t+1=>(lev g n t).flatMap (Kp g n)
def SO (g:G6->G6->N0)(n:G6):G6->G0 (G0 G6)
 |0=> []
 |t+1=>SO g n t++(lev g n t).filter λw=>g (w.getLastD 0) (w.headD 0)
def Hq (T:G0 (G0 P2))(i j:G6):N0:=decide (ent T i j>0)
def Xs (T:G0 (G0 P2))(n:G6):G0 (G0 G6):=Au (SO (Hq T) n n)
theorem at_end {w:G0 G6}{t:G6}(h:w.length=t+1):atI (w.map λ(k:G6)=>D.int (k:P2)) (-1)=some (.int ((w.getLastD 0:G6):P2)):=by
 refine Mm (by rw [G5];omega) ?_;rw [G5,D3,dL,dM,G2 (by omega)];rfl
end L2
namespace HT
open PySem PySem.Spec PyProof.Rows PySem.SeqAt
open PySem.AutoSeq1 (wpAny_loadPart')
open PySem.MeetsSeq PySem.MeetsSeq2 PySem.MeetsSeq3
inductive Lx (prog:T3)(w:B9)(A:N6)(s:G3):G0 G1->G0 G1->N0->Prop
 |nn:Lx prog w A s [] [] false
 |nc (u:G1) (us:G0 G1):Lx prog w A s [] (u::us) true
 |cn (v:G1) (vs:G0 G1):Lx prog w A s (v::vs) [] false
 |same {v u:G1} {vs us:G0 G1} {b:N0} (e:EqAt A s v u true) (t:Lx prog w A s vs us b):Lx prog w A s (v::vs) (u::us) b
 |unlike {v u:G1} {vs us:G0 G1} {b:N0} (e:EqAt A s v u false) (t: ∀ (Q E:G1->G3->Prop),Q (.bool b) s->R3 (R7 prog w) A (oF .Lt v u) Q E s):Lx prog w A s (v::vs) (u::us) b
theorem Lx.short {prog:T3}{w:B9}{A:N6}{s:G3}{vs us:G0 G1}{b:N0}{m n:G6}(t:Lx prog w A s vs us b)(z:vs.zip us= [])(l:vs.length+n=us.length+m):b=decide (m<n):=by
 cases t with
 |nn=>rw [L5] at l;exact(S8 (by omega)).symm
 |nc u us=>rw [L5,D9] at l;exact(S7 (by omega)).symm
 |cn v vs=>rw [L5,D9] at l;exact(S8 (by omega)).symm
 |same e t=>rw [aP] at z;cases z
 |unlike e t=>rw [aP] at z;cases z
theorem Vo (l b:P3)(items items2:S9 G1)(n n2:G6)(dd dd2:D2 P3)(sl sl2:S9 (D2 G1))(r:N0):
 Meets (Builtin.«tuple.__lt__» ⟨[.ref l,.ref b],[]⟩)
  (λA R s=>s.heap.get? l=some {cls:= .type "tuple",dict:=dd,data:= .seq items n,slots:=sl}/\s.heap.get? b=some {cls:= .type "tuple",dict:=dd2,data:= .seq items2 n2,slots:=sl2}/\
   (∀prog w,Lx prog w A.in1 s items.toList items2.toList r)/\R (.ok (.ret (.bool r))) s):=
 .of_wp λprog w A R s h=>by
  obtain⟨hp,g,d,tk,os⟩:=s;obtain⟨hl,hb,ht,h⟩:=h;have f2:=AutoSeq1.sub_tuple_tuple
  wp_walk using C4 hl,C4 hb,wpAny_forIn_list _ (λrest b s'=>b.1=none/\s'=⟨hp,g,d,tk,os⟩/\ ∃ (vs us:G0 G1),rest=vs.zip us/\Lx prog w A.in1 ⟨hp,g,d,tk,os⟩ vs us r/\vs.length+items2.size=us.length+items.size) _
  case turn=>
   rintro ⟨y,x⟩ rest b s' ⟨hb',rfl,vs,us,hz,t,hlen⟩;cases t with
   |nn=>cases hz
   |nc u us=>cases hz
   |cn v vs=>cases hz
   |same e t=>
    rw [aP] at hz;injection hz with hyx hrest
    injection hyx with hy hx
    subst hy hx;simp only [D9] at hlen;refine wpAny_bind (e prog w _ _ ?_)
    wp_walk
    exact⟨rfl,rfl,_,_,hrest,t,by omega⟩
   |unlike e t=>
    rw [aP] at hz;injection hz with hyx hrest
    injection hyx with hy hx
    subst hy hx;refine wpAny_bind (e prog w _ _ ?_);have hri:=λ{Q E:G1->G3->Prop}=>t Q E
    wp_walk using hri
    exact⟨_,rfl,by simpa using h⟩
  case fin=>
   rintro ⟨b1,b2⟩ s' ⟨hb',rfl,vs,us,hz,t,hlen⟩;simp only at hb';subst hb';have hv:=t.short hz.symm hlen;rw [hv] at h
   wp_walk
   exact⟨_,rfl,by simpa [qZ] using h⟩
  case h=>
   exact⟨rfl,rfl,items.toList,items2.toList,rfl,ht prog w,by rw [D1,D1];omega⟩
theorem Zx {α:Type}{p vs:G0 α}{x:α}{items:S9 α}(e:items.toList=p++x::vs){i:G6}(l:p.length=i):items[((i:G6):P2).toNat]? =some x:=by
 rw [V4,<-N5,e,<-l];simp
theorem at_end {α:Type}{p:G0 α}{items:S9 α}(e:items.toList=p){i:G6}(l:p.length=i):items[((i:G6):P2).toNat]? =none:=by
 rw [V4,<-N5,e,<-l];simp
section
variable {prog:T3}{w:B9}{A:N6}{R:pI->G3->Prop}{s:G3}{l b:P3}{items items2:S9 G1}{n n2:G6}{dd dd2:D2 P3}{sl sl2:S9 (D2 G1)}{r:N0}
theorem Ya (hl:s.heap.get? l=some {cls:= .type "list",dict:=dd,data:= .seq items n,slots:=sl})(hb:s.heap.get? b=some {cls:= .type "list",dict:=dd2,data:= .seq items2 n2,slots:=sl2})(h:R (.ok (.ret (.bool r))) s):
 ∀ {vs us:G0 G1},Lx prog w A.in1 s vs us r-> ∀ (i:G6) (p q:G0 G1),items.toList=p++vs->items2.toList=q++us->p.length=i->q.length=i->
  R3 (R7 prog w) A.in1 (Builtin.«list.__eq__.loop» ⟨[.ref l,.ref b,K1 i,K1 0],[]⟩) (λfin s'=>match fin with| .done f=>R (.ok f) s'| .again c'=>c'.quiet=true/\aZ (R7 prog w) A c' R s') (λe s'=>R (.error e) s') s:=by
 intro vs us t;obtain⟨hp,g,d,tk,os⟩:=s
 induction t with
 |nn=>
  intro i p q e1 e2 l1 l2;rw [E7] at e1 e2;have z1:items.size=i:=by rw [<-D1,e1];exact l1
  have z2:items2.size=i:=by rw [<-D1,e2];exact l2
  wp_walk using C4 hl,C4 hb
  rw [at_end e1 l1]
  wp_walk using C4 hl,C4 hb
  show R (.ok (.ret (.bool (decide (items.size<items2.size))))) _;rw [z1,z2,show decide (i<i)=false from S8 (B7 _)];exact h
 |nc u us=>
  intro i p q e1 e2 l1 l2;rw [E7] at e1;have z1:items.size=i:=by rw [<-D1,e1];exact l1
  have z2:i<items2.size:=by rw [<-D1,e2,P1,l2,D9];omega
  wp_walk using C4 hl,C4 hb
  rw [at_end e1 l1]
  wp_walk using C4 hl,C4 hb
  show R (.ok (.ret (.bool (decide (items.size<items2.size))))) _;rw [z1,show decide (i<items2.size)=true from S7 z2];exact h
 |cn v vs=>
  intro i p q e1 e2 l1 l2;rw [E7] at e2;have z1:i<items.size:=by rw [<-D1,e1,P1,l1,D9];omega
  have z2:items2.size=i:=by rw [<-D1,e2];exact l2
  wp_walk using C4 hl,C4 hb
  rw [Zx e1 l1,at_end e2 l2]
  wp_walk using C4 hl,C4 hb
  show R (.ok (.ret (.bool (decide (items.size<items2.size))))) _;rw [z2,show decide (items.size<i)=false from S8 (by omega)];exact h
 | @same v u vs us b0 e t ih=>
  intro i p q e1 e2 l1 l2
  wp_walk using C4 hl,C4 hb
  rw [Zx e1 l1,Zx e2 l2];refine wpAny_bind (e prog w _ _ ?_)
  wp_walk
  rw [show ((i:P2)+1)=((i+1:G6):P2) by omega];exact⟨iC plain_eq_loop _,aC entry_eq_loop (by
   rw [Y5 plain_eq_loop _];exact ih h (i+1) (p++ [v]) (q++ [u]) (by rw [e1,D5];rfl) (by rw [e2,D5];rfl) (by rw [P1,l1];rfl) (by rw [P1,l2];rfl))⟩
 | @unlike v u vs us b0 e t=>
  intro i p q e1 e2 l1 l2
  wp_walk using C4 hl,C4 hb
  rw [Zx e1 l1,Zx e2 l2];refine wpAny_bind (e prog w _ _ ?_);have hri:=λ{Q E:G1->G3->Prop}=>t Q E
  wp_walk using C4 hl,C4 hb
  rw [Zx e1 l1,Zx e2 l2]
  wp_walk using hri
  exact h
end
theorem Us (l b:P3)(items items2:S9 G1)(n n2:G6)(dd dd2:D2 P3)(sl sl2:S9 (D2 G1))(r:N0):
 Meets (Builtin.«list.__lt__» ⟨[.ref l,.ref b],[]⟩)
  (λA R s=>s.heap.get? l=some {cls:= .type "list",dict:=dd,data:= .seq items n,slots:=sl}/\s.heap.get? b=some {cls:= .type "list",dict:=dd2,data:= .seq items2 n2,slots:=sl2}/\
   (∀prog w,Lx prog w A.in1 s items.toList items2.toList r)/\R (.ok (.ret (.bool r))) s):=by
 intro prog w A R s h;obtain⟨hl,hb,ht,h⟩:=h;have f3:=AutoSeq1.sub_list_list;have fin:=Ya (prog:=prog) (w:=w) (A:=A) hl hb h (ht prog w) 0 [] [] rfl rfl rfl rfl;obtain⟨hp,g,d,tk,os⟩:=s
 wp_walk using C4 hl,C4 hb
 exact⟨iC plain_eq_loop _,aC entry_eq_loop (by
  rw [Y5 plain_eq_loop _];exact fin)⟩
end HT
namespace HT
open PySem PySem.Spec PyProof.Rows PySem.SeqAt
mutual
/-- may they be compared? -/
def alk:aG->aG->N0
 | .int _,.int _=>true
 | .tuple xs,.tuple ys=>alks xs ys
 | .list xs,.list ys=>alks xs ys
 |_,_=>false
def alks:G0 aG->G0 aG->N0
 |x::xs,y::ys=>alk x y&&alks xs ys
 |_,_=>true
end
mutual
def ltP:aG->aG->N0
 | .int i,.int j=>decide (i<j)
 | .tuple xs,.tuple ys=>ltPs xs ys
 | .list xs,.list ys=>ltPs xs ys
 |_,_=>false
def ltPs:G0 aG->G0 aG->N0
 | [],[]=>false
 | [],_::_=>true
 |_::_,[]=>false
 |x::xs,y::ys=>if aB x y=true then ltPs xs ys else ltP x y
end
theorem CQ {prog:T3}{w:B9}{A:N6}{E:G1->G3->Prop}{s:G3}{l b:P3}{o o2:Obj}{items items2:S9 G1}{n n2:G6}{r:N0}{Q:G1->G3->Prop}(e1:s.heap.get? l=some o)(c1:o.cls= .type "tuple")(d1:o.data= .seq items n)(e2:s.heap.get? b=some o2)(c2:o2.cls= .type "tuple")(d2:o2.data= .seq items2 n2)
 (t: ∀prog w,Lx prog w A.in1 s items.toList items2.toList r)(hu:A.units<cLine)(q:Q (.bool r) s):R3 (R7 prog w) A (oF .Lt (.ref l) (.ref b)) Q E s:=by
 obtain⟨cls,dd,data,sl⟩:=o;obtain⟨cls2,dd2,G0f,sl2⟩:=o2;simp only at c1 d1 c2 d2;subst c1 d1 c2 d2;have g:=Vo l b items items2 n n2 dd dd2 sl sl2 r;refine mT (op:= .Lt) ⟨_,e1,rfl⟩ ⟨_,e2,rfl⟩ xK xG (xA _ _) g ?_ hu;refine⟨e1,e2,t,?_⟩;exact And.intro (by intro x;cases x) q
theorem ME {prog:T3}{w:B9}{A:N6}{E:G1->G3->Prop}{s:G3}{l b:P3}{o o2:Obj}{items items2:S9 G1}{n n2:G6}{r:N0}{Q:G1->G3->Prop}(e1:s.heap.get? l=some o)(c1:o.cls= .type "list")(d1:o.data= .seq items n)(e2:s.heap.get? b=some o2)(c2:o2.cls= .type "list")(d2:o2.data= .seq items2 n2)
 (t: ∀prog w,Lx prog w A.in1 s items.toList items2.toList r)(hu:A.units<cLine)(q:Q (.bool r) s):R3 (R7 prog w) A (oF .Lt (.ref l) (.ref b)) Q E s:=by
 obtain⟨cls,dd,data,sl⟩:=o;obtain⟨cls2,dd2,G0f,sl2⟩:=o2;simp only at c1 d1 c2 d2;subst c1 d1 c2 d2;have g:=Us l b items items2 n n2 dd dd2 sl sl2 r;refine mT (op:= .Lt) ⟨_,e1,rfl⟩ ⟨_,e2,rfl⟩ x8 xL (xH _ _) g ?_ hu;refine⟨e1,e2,t,?_⟩;exact And.intro (by intro x;cases x) q
mutual
theorem Xt: ∀ (p q:aG) (A:N6) (s:G3) (v u:G1) (as bs:G0 P3),Reads s.heap v p as->Reads s.heap u q bs->p.canLay0=true->q.canLay0=true->alk p q=true->A.units+p.depth<cLine->
 ∀ (prog:T3) (w:B9) (Q E:G1->G3->Prop),Q (.bool (ltP p q)) s->R3 (R7 prog w) A (oF .Lt v u) Q E s
 | .int i,q,A,s,v,u,as,bs,rp,rq,c1,c2,al,hu,prog,w,Q,E,h=>by
  cases q with
  |int j=>
   cases rp;cases rq;exact(z9 h:R3 (R7 prog w) A (L0 .Lt (.int i _) (.int j _)) Q E s)
  |none=>cases al
  |bool _=>cases al
  |str _=>cases al
  |list _=>cases al
  |tuple _=>cases al
  |dict _=>cases al
 | .tuple xs,q,A,s,v,u,as,bs,rp,rq,c1,c2,al,hu,prog,w,Q,E,h=>by
  cases q with
  |tuple ys=>
   cases rp with
   |tuple e1 k1 d1 r1=>
    cases rq with
    |tuple e2 k2 d2 r2=>
     have c1':O0 xs=true:=by simpa only [O4] using c1
     have c2':O0 ys=true:=by simpa only [O4] using c2
     have du:A.units+(O2 xs+1)<cLine:=by simpa only [K5] using hu
     exact CQ e1 k1 d1 e2 k2 d2 (λprog w=>lx_reads xs ys A.in1 s _ _ _ _ r1 r2 c1' c2' al (by show A.units+1+_<_;omega) prog w) (by omega) h
  |none=>cases al
  |bool _=>cases al
  |str _=>cases al
  |list _=>cases al
  |int _=>cases al
  |dict _=>cases al
 | .none,q,A,s,v,u,as,bs,rp,rq,c1,c2,al,hu,prog,w,Q,E,h=>by cases al
 | .bool _,q,A,s,v,u,as,bs,rp,rq,c1,c2,al,hu,prog,w,Q,E,h=>by cases al
 | .str _,q,A,s,v,u,as,bs,rp,rq,c1,c2,al,hu,prog,w,Q,E,h=>by cases al
 | .list xs,q,A,s,v,u,as,bs,rp,rq,c1,c2,al,hu,prog,w,Q,E,h=>by
  cases q with
  |list ys=>
   cases rp with
   |list e1 k1 d1 r1=>
    cases rq with
    |list e2 k2 d2 r2=>
     have c1':O0 xs=true:=by simpa only [O4] using c1
     have c2':O0 ys=true:=by simpa only [O4] using c2
     have du:A.units+(O2 xs+1)<cLine:=by simpa only [K5] using hu
     exact ME e1 k1 d1 e2 k2 d2 (λprog w=>lx_reads xs ys A.in1 s _ _ _ _ r1 r2 c1' c2' al (by show A.units+1+_<_;omega) prog w) (by omega) h
  |none=>cases al
  |bool _=>cases al
  |str _=>cases al
  |tuple _=>cases al
  |int _=>cases al
  |dict _=>cases al
 | .dict _,q,A,s,v,u,as,bs,rp,rq,c1,c2,al,hu,prog,w,Q,E,h=>by cases al
theorem lx_reads: ∀ (xs ys:G0 aG) (A:N6) (s:G3) (vs us:G0 G1) (as bs:G0 P3),ReadsAll s.heap vs xs as->ReadsAll s.heap us ys bs->O0 xs=true->O0 ys=true->alks xs ys=true->A.units+O2 xs<cLine->
 ∀ (prog:T3) (w:B9),Lx prog w A s vs us (ltPs xs ys)
 | [],[],A,s,vs,us,as,bs,ra,rb,_,_,_,_,prog,w=>by
  cases ra;cases rb;exact .nn
 | [],y::ys,A,s,vs,us,as,bs,ra,rb,_,_,_,_,prog,w=>by
  cases ra;cases rb with
  |cons r rs=>exact .nc _ _
 |x::xs,[],A,s,vs,us,as,bs,ra,rb,_,_,_,_,prog,w=>by
  cases rb;cases ra with
  |cons r rs=>exact .cn _ _
 |x::xs,y::ys,A,s,vs,us,as,bs,ra,rb,c1,c2,al,hu,prog,w=>by
  cases ra with
  |cons r rs=>
   cases rb with
   |cons r' rs'=>
    have d1:x.canLay0=true/\O0 xs=true:=by simpa [O0] using c1
    have d2:y.canLay0=true/\O0 ys=true:=by simpa [O0] using c2
    have al':alk x y=true/\alks xs ys=true:=by simpa [alks] using al
    have dx:A.units+x.depth<cLine/\A.units+O2 xs<cLine:=by simp only [O2] at hu;omega
    have eq:=eqAt_reads x y A s _ _ _ _ r r' d1.1 d2.1 (by have:=sL x.depth y.depth;omega);unfold ltPs;cases e:aB x y with
    |true=>
     rw [e] at eq;rw [R8 rfl];exact .same eq (lx_reads xs ys A s _ _ _ _ rs rs' d1.2 d2.2 al'.2 dx.2 prog w)
    |false=>
     rw [e] at eq;rw [R9 D6];exact .unlike eq λQ E q=>Xt x y A s _ _ _ _ r r' d1.1 d2.1 al'.1 dx.1 prog w Q E q
end
end HT
namespace L2
open PySem PySem.Spec PyProof.Rows PySem.SeqAt
def zn:G0 (G0 P2)->G0 (G0 P2)->N0
 | [],[]=>false
 | [],_::_=>true
 |_::_,[]=>false
 |a::A,b::B=>if a=b then zn A B else HT.zt a b
theorem NI: ∀A:G0 (G0 P2),zn A A=false
 | []=>rfl
 |a::A=>by show (if a=a then zn A A else _)=false;rw [R8 rfl];exact NI A
theorem MF {a b c:G0 P2}(x:HT.zt a b=true)(y:HT.zt b c=true):HT.zt a c=true:=by
 rcases HT.Vm a c b x with z|z
 ·exact z
 ·rw [HT.Jd _ _ y] at z;cases z
theorem Yb: ∀ {A B C:G0 (G0 P2)},zn A B=true->zn B C=true->zn A C=true
 | [],[],_,x,_=>by cases x
 | [],_::_,[],_,y=>by cases y
 | [],_::_,_::_,_,_=>rfl
 |_::_,[],_,x,_=>by cases x
 |_::_,_::_,[],_,y=>by cases y
 |a::A,b::B,c::C,x,y=>by
  change (if a=b then zn A B else HT.zt a b)=true at x
  change (if b=c then zn B C else HT.zt b c)=true at y
  show (if a=c then zn A C else HT.zt a c)=true
  by_cases e1:a=b
  ·subst e1;rw [R8 rfl] at x
   by_cases e2:a=c
   ·rw [R8 e2] at y ⊢;exact Yb x y
   ·rw [R9 e2] at y ⊢;exact y
  ·rw [R9 e1] at x
   by_cases e2:b=c
   ·subst e2;rw [R9 e1];exact x
   ·rw [R9 e2] at y;have z:=MF x y;have ne:a≠c:=λw=>by subst w;rw [HT.Jd _ _ x] at y;cases y
    rw [R9 ne];exact z
theorem Yc: ∀A B:G0 (G0 P2),A=B\/zn A B=true\/zn B A=true
 | [],[]=> .inl rfl
 | [],_::_=> .inr (.inl rfl)
 |_::_,[]=> .inr (.inr rfl)
 |a::A,b::B=>by
  show _\/(if a=b then zn A B else HT.zt a b)=true\/(if b=a then zn B A else HT.zt b a)=true
  by_cases e:a=b
  ·subst e;rw [R8 rfl,R8 rfl];rcases Yc A B with z|z|z
   ·exact .inl (by rw [z])
   ·exact .inr (.inl z)
   ·exact .inr (.inr z)
  ·rw [R9 e,R9 (E4 e)];cases x:HT.zt a b with
   |true=>exact .inr (.inl rfl)
   |false=>
    cases y:HT.zt b a with
    |true=>exact .inr (.inr rfl)
    |false=>exact absurd (HT.Zw _ _ x y) e
theorem PR {A B:G0 (G0 P2)}(x:zn A B=true):zn B A=false:=by
 cases y:zn B A with
 |false=>rfl
 |true=>have:=Yb x y;rw [NI] at this;cases this
theorem Xu: ∀a b:G0 P2,HT.ltPs (a.map .int) (b.map .int)=HT.zt a b
 | [],[]=>rfl
 | [],_::_=>rfl
 |_::_,[]=>rfl
 |x::a,y::b=>by
  show (if (x==y)=true then HT.ltPs (a.map .int) (b.map .int) else decide (x<y))=if x=y then HT.zt a b else decide (x<y)
  rw [Xu a b]
  by_cases c:x=y
  ·rw [R8 c,R8 (by simpa using c)]
  ·rw [R9 c,R9 (by simpa using c)]
theorem Xv: ∀a b:G0 P2,HT.alks (a.map .int) (b.map .int)=true
 | [],_=>by unfold HT.alks;rfl
 |_::_,[]=>rfl
 |x::a,y::b=>by
  show (true&&HT.alks (a.map .int) (b.map .int))=true;rw [Xv a b];rfl
end L2
namespace L2
open PySem PySem.Spec PyProof.Rows
def s5:G6->G6
 |0=>0
 |d+1=>5*s5 d+1
theorem PU: ∀d,4*s5 d+1=5^d
 |0=>rfl
 |d+1=>by have:=PU d;rw [K6];show 4*(5*s5 d+1)+1=_;omega
theorem NJ (a:G6): ∀b,s5 (a+b)=5^b*s5 a+s5 b
 |0=>by show s5 a=1*s5 a+0;omega
 |b+1=>by
  show 5*s5 (a+b)+1=5^(b+1)*s5 a+(5*s5 b+1);rw [NJ a b,K6,f6,U5 (5^b) 5,eU];omega
theorem NK: ∀d,s5 d%2=d%2
 |0=>rfl
 |d+1=>by have:=NK d;show (5*s5 d+1)%2=_;omega
theorem Ax (m:G6):s5 (2*m)=2*(s5 m*(2*s5 m+1)):=by
 rw [y3,NJ,<-PU m];have:(4*s5 m+1)*s5 m+s5 m=2*(s5 m*(2*s5 m+1)):=by
  rw [rV,f6,f6];have e1:4*s5 m*s5 m=4*(s5 m*s5 m):=eU ..;have e2:s5 m*(2*s5 m)=2*(s5 m*s5 m):=by rw [Nat.mul_left_comm]
  rw [e1,e2];omega
 exact this
theorem NL (k x:G6):Nat.Coprime (2^k) (2*x+1):=by
 refine Nat.Coprime.pow_left k ?_;show sW 2 (2*x+1)=1;rw [Nat.gcd_rec,show (2*x+1)%2=1 by omega];rfl
theorem NM: ∀ (k d:G6),2^k∣s5 d->2^k∣d
 |0,d,_=>by rw [gM];exact Nat.one_dvd _
 |k+1,d,h=>by
  have ev:d%2=0:=by
   rw [<-NK d];exact mU (Nat.dvd_trans ⟨2^k,by rw [K6,U5]⟩ h)
  obtain⟨m,rfl⟩: ∃m,d=2*m:=⟨d / 2,by omega⟩;rw [Ax,K6,U5] at h;have h1:2^k∣s5 m*(2*s5 m+1):=Nat.dvd_of_mul_dvd_mul_left (by decide) h;have h2:=NM k m ((NL k (s5 m)).dvd_of_dvd_mul_right h1);rw [K6,U5];exact Nat.mul_dvd_mul_left 2 h2
def f5 (N:G6):G6->G6->G6
 |0,a=>a
 |d+1,a=>(f5 N d a*5+1)%N
variable {N:G6}
theorem Ay (a:G6): ∀d,f5 N d a%N=(5^d*a+s5 d)%N
 |0=>by show a%N=(1*a+0)%N;rw [Nat.one_mul,Y3]
 |d+1=>by
  show (f5 N d a*5+1)%N%N=(5^(d+1)*a+(5*s5 d+1))%N;rw [y4,oG,y6,Ay a d,<-y6,<-oG,rV,K6]
  congr 1
  have:5^d*a*5=5^d*5*a:=by rw [Nat.mul_right_comm]
  omega
theorem Az (hN:0<N){a:G6}(ha:a<N): ∀d,f5 N d a<N
 |0=>ha
 |d+1=>X9 _ hN
theorem NN (a:G6)(b:G6): ∀d,f5 N (b+d) a=f5 N d (f5 N b a)
 |0=>rfl
 |d+1=>by show (f5 N (b+d) a*5+1)%N=_;rw [NN a b d];rfl
variable {k:G6}
theorem MG {a d:G6}(ha:a<2^k)(d0:0<d)(hd:d<2^k):f5 (2^k) d a≠a:=λe=>by
 have e1:=Ay (N:=2^k) a d;rw [e] at e1;have le:a<=5^d*a+s5 d:=S0 (Nat.le_mul_of_pos_left a (rX (by decide))) (V0 _ _);have dv:2^k∣5^d*a+s5 d-a:=gO (Nat.sub_mod_eq_zero_of_mod_eq e1.symm);have e2:5^d*a+s5 d-a=s5 d*(2*(2*a)+1):=by
  rw [<-PU d,rV,f6];have:4*s5 d*a=s5 d*(2*(2*a)):=by
   rw [U5 4,eU];congr 1;omega
  omega
 rw [e2] at dv;have:=Nat.le_of_dvd d0 (NM k d ((NL k (2*a)).dvd_of_dvd_mul_right dv));omega
theorem CS {a:G6}(hN:N=2^k)(ha:a<N): ∀ {i j:G6},i<j->j<N->f5 N i a≠f5 N j a:=λ{i j} ij jN e=>by
 subst hN;have:=NN (N:=2^k) a i (j-i);rw [E6 (M0 ij)] at this;exact MG (Az (rX (by decide)) ha i) (by omega) (by omega) ((this.symm.trans e.symm))
theorem CT: ∀ {xs:G0 G6},xs.Nodup->(∀x∈xs,x<N)->N<=xs.length-> ∀e,e<N->e∈xs:=λ{xs} nd lt le e he=>by
 have p:(D4 N).length<=(xs.filter λx=>decide (x<N)).length:=by
  rw [S6,dU.mpr λx hx=>S7 (lt x hx)];exact le
 refine F6 λno=> ?_
 have key: ∀ (ys zs:G0 G6),ys.Nodup->(∀y∈ys,y∈zs)->ys.length<=zs.length:=by
  intro ys
  induction ys with
  |nil=>intro zs _ _;exact N9 _
  |cons y ys ih=>
   intro zs d s;obtain⟨d1,d2⟩:=E8.mp d;have hy:=s y P4;have:=ih (zs.erase y) d2 λx hx=>(cW (show x≠y from λq=>d1 (by rw [<-q];exact hx))).mpr (s x (R1 _ hx))
   rw [bL hy] at this;have:0<zs.length:=b8 hy;rw [D9];omega
 have:=key (e::xs) (D4 N) (E8.mpr ⟨no,nd⟩) λy hy=>by
  rcases R5.mp hy with q|q
  ·rw [q];exact D0.mpr he
  ·exact D0.mpr (lt y q)
 rw [D9,S6] at this;omega
theorem NO {a e:G6}(hN:N=2^k)(ha:a<N)(he:e<N): ∃m,m<N/\f5 N m a=e:=by
 have nd:((D4 N).map λm=>f5 N m a).Nodup:=by
  rw [pO,W0];refine O3.mpr λi j hi hj ij=> ?_
  rw [fO,fO];rw [S6] at hj;exact CS hN ha ij hj
 have:=CT nd (λx hx=>by
  obtain⟨m,_,rfl⟩:=R6.mp hx;exact Az (by rw [hN];exact rX (by decide)) ha m) (by rw [G5,S6];exact P6 _) e he
 obtain⟨m,hm,e⟩:=R6.mp this;exact⟨m,D0.mp hm,e⟩
def zl (t:N2):G6->U2->U2
 |0,p=>p
 |n+1,p=>zl t n (t.advance p)
theorem vG (t:N2): ∀ (a b:G6) (p:U2),zl t (a+b) p=zl t b (zl t a p)
 |0,b,p=>by rw [A8];rfl
 |a+1,b,p=>by rw [fM];exact vG t a b _
def Ut (t:N2)(i q:G6)(d:D2 G6):U2:= {j:=i,more:=A6 t.mask i-i,i:=i,perturb:=q,dummy:=d}
theorem yX (t:N2): ∀ (m:G6) (p:U2),p.more=m->zl t (m+1) p=Ut t ((p.i*5+1+p.perturb / 32)%(t.mask+1)) (p.perturb / 32) p.dummy
 |0,p,e=>by
  show t.advance p=_;unfold aM;rw [R9 (by omega)];rfl
 |m+1,p,e=>by
  have a:t.advance p= {p with j:=p.j+1,more:=p.more-1}:=by unfold aM;rw [R8 (by omega)]
  show zl t (m+1) (t.advance p)=_;rw [a,yX t m _ (by show p.more-1=m;omega)]
theorem PV (mask i:G6):A6 mask i-i<=9:=by unfold A6;split<;>omega
def YD (N:G6)(b:G6):G6->G6
 |0=>b%N
 |L+1=>(YD N b L*5+1+b / 32^(L+1))%N
theorem PX (t:N2)(h:P2): ∀L,∃n,n<=10*L/\zl t n (t.probeStart h)=Ut t (YD (t.mask+1) (S4 h) L) (S4 h / 32^L) none
 |0=>⟨0,P6 _,by rw [gM,oH];rfl⟩
 |L+1=>by
  obtain⟨n,hn,e⟩:=PX t h L;have s:=PV t.mask (YD (t.mask+1) (S4 h) L);refine⟨n+(A6 t.mask (YD (t.mask+1) (S4 h) L)-YD (t.mask+1) (S4 h) L+1),by omega,?_⟩;rw [vG,e];refine(yX t _ (Ut t _ _ none) rfl).trans ?_;show Ut t ((YD (t.mask+1) (S4 h) L*5+1+S4 h / 32^L / 32)%(t.mask+1)) (S4 h / 32^L / 32) none=_;rw [cA,<-K6];rfl
theorem CU (h:P2):S4 h<2^64:=by unfold S4;omega
theorem Yd (h:P2): ∀m,YD N (S4 h) (13+m)=f5 N m (YD N (S4 h) 13)
 |0=>rfl
 |m+1=>by
  show (YD N (S4 h) (13+m)*5+1+S4 h / 32^(13+m+1))%N=(f5 N m (YD N (S4 h) 13)*5+1)%N;rw [Yd h m,Nat.div_eq_of_lt (N7 (CU h) ?_),Y3];exact S0 (show 2^64<=32^13 by decide) (cV (by decide) (by omega))
variable {t:N2}
theorem MJ (hN:t.mask+1=2^k)(h:P2){e:G6}(he:e<=t.mask): ∃n,n<10*E2 t.mask/\(zl t n (t.probeStart h)).j=e:=by
 obtain⟨m,hm,em⟩:=NO hN (a:=YD (t.mask+1) (S4 h) 13) (X9 _ (b9 _)) (show e<t.mask+1 by omega);obtain⟨n,hn,en⟩:=PX t h (13+m);refine⟨n,by unfold E2;omega,?_⟩;rw [en,<-em,<-Yd h m];rfl
theorem PY {P:G6->Prop}: ∀n,P n-> ∃m,m<=n/\P m/\ ∀k,k<m-> ¬P k:=λn=>by
 induction n using G6.strongRecOn with
 |ind n ih=>
  intro h;rcases G0r (∃k,k<n/\P k) with ⟨k,lt,pk⟩|no
  ·obtain⟨m,a,b,c⟩:=ih k lt pk;exact⟨m,by omega,b,c⟩
  ·exact⟨n,P6 _,h,λk lt pk=>no ⟨k,lt,pk⟩⟩
variable {h:P2}
theorem NP {f:G6->P2}(d:t.dummies= #[]): ∀ (n fuel:G6) (p:U2),n<fuel->t.slot (zl t n p).j= .empty->(∀k,k<n->t.slot (zl t k p).j≠ .empty)->p.dummy=none->
 (W1 t f h fuel p=some (.empty (zl t n p).j none)/\ ∀k,k<n-> ∀i,t.slot (zl t k p).j= .live i->f i≠h)\/
 (∃k i,k<n/\t.slot (zl t k p).j= .live i/\f i=h/\(∀k',k'<k-> ∀i',t.slot (zl t k' p).j= .live i'->f i'≠h)/\W1 t f h fuel p=some (.candidate (zl t k p).j i (zl t (k+1) p)))
 |_,0,_,lt,_,_,_=>absurd lt (Q0 _)
 |0,fuel+1,p,_,he,_,hd=>by
  refine .inl ⟨?_,λk hk=>absurd hk (Q0 _)⟩;have he:t.slot p.j= .empty:=he;unfold W1;rw [he,hd];rfl
 |n+1,fuel+1,p,lt,he,ne,hd=>by
  have h0:t.slot p.j≠ .empty:=ne 0 (b9 _);cases hs:t.slot p.j with
  |empty=>exact absurd hs h0
  |dummy=>exact absurd hs (HT.Wl d)
  |live i=>
   by_cases e:f i=h
   ·refine .inr ⟨0,i,b9 _,hs,e,λk' hk=>absurd hk (Q0 _),?_⟩;unfold W1;rw [hs];show (if (f i==h)=true then _ else _)=_;rw [R8 (by rw [e];exact aL h)];rfl
   ·have ad:(t.advance p).dummy=none:=by unfold aM;split<;>exact hd
    have step:W1 t f h (fuel+1) p=W1 t f h fuel (t.advance p):=by
     conv=>lhs;unfold W1
     rw [hs];show (if (f i==h)=true then _ else _)=_;rw [R9 (by simpa using e)]
    rcases NP d n fuel (t.advance p) (by omega) he (λk hk=>ne (k+1) (by omega)) ad with ⟨a,b⟩|⟨k,i',hk,a,b,c,g⟩
    ·refine .inl ⟨by rw [step];exact a,λk hk i2 hi=> ?_⟩;cases k with
     |zero=>rw [show t.slot (zl t 0 p).j= .live i from hs] at hi;cases hi;exact e
     |succ k=>exact b k (by omega) i2 hi
    ·refine .inr ⟨k+1,i',by omega,a,b,λk' hk' i2 hi=> ?_,by rw [step];exact g⟩;cases k' with
     |zero=>rw [show t.slot (zl t 0 p).j= .live i from hs] at hi;cases hi;exact e
     |succ k'=>exact c k' (by omega) i2 hi
theorem Uu (hN:t.mask+1=2^k)(h:P2){e:G6}(he:e<=t.mask)(em:t.slot e= .empty): ∃n,n<10*E2 t.mask/\t.slot (zl t n (t.probeStart h)).j= .empty/\ ∀m,m<n->t.slot (zl t m (t.probeStart h)).j≠ .empty:=by
 obtain⟨n,hn,ej⟩:=MJ hN h he;obtain⟨m,a,b,c⟩:=PY (P:=λn=>t.slot (zl t n (t.probeStart h)).j= .empty) n (by rw [ej];exact em);exact⟨m,by omega,b,c⟩
theorem PZ (r:t.place.toList.Pairwise (· < ·)){i j:G6}(h:t.place[i]? =some j):t.slot j= .live i:=by
 obtain⟨lo,hi,_⟩:=HT.vB r j;have e:T8 t.place j=i:=by
  rcases bG (T8 t.place j) i with z|z|z
  ·obtain⟨hlt,ev⟩:=A2.mp h;have hb:T8 t.place j<t.place.size:=by omega
   have a:=hi (T8 t.place j) (P6 _) t.place[T8 t.place j] (aX hb);have b:=O3.mp r (T8 t.place j) i (by simpa using hb) (by simpa using hlt) z;simp only [cX] at b;omega
  ·exact z
  ·exact absurd (lo i z j h) (B7 _)
 unfold lI;dsimp only;rw [e,h,R8 (aL _)]
theorem Da {i j:G6}(h:t.slot j= .live i):t.place[i]? =some j:=by
 unfold lI at h;dsimp only at h;split at h
 ·rename_i c;injection h with h
  subst h;exact eq_of_beq c
 ·split at h<;>cases h
theorem vH (d:t.dummies= #[])(r:t.place.toList.Pairwise (· < ·)){j:G6}:t.slot j= .empty↔ ∀i:G6,t.place[i]? ≠some j:=by
 constructor
 ·intro h i e;rw [PZ r e] at h;cases h
 ·intro h;cases e:t.slot j with
  |empty=>rfl
  |dummy=>exact absurd e (HT.Wl d)
  |live i=>exact absurd (Da e) (h i)
variable {u:N2}
theorem MK (e:t.mask=u.mask)(p:U2):t.advance p=u.advance p:=by
 unfold aM;rw [e]
theorem wV (e:t.mask=u.mask): ∀ (n:G6) (p:U2),zl t n p=zl u n p
 |0,_=>rfl
 |n+1,p=>by show zl t n (t.advance p)=zl u n (u.advance p);rw [MK e,wV e n]
theorem yp (e:t.mask=u.mask)(h:P2):t.probeStart h=u.probeStart h:=by
 unfold IA;rw [e]
def Way (t:N2)(h:P2)(j:G6):Prop:= ∃n,(zl t n (t.probeStart h)).j=j/\ ∀m,m<n->t.slot (zl t m (t.probeStart h)).j≠ .empty
theorem Way.more (e:t.mask=u.mask)(f: ∀j,u.slot j= .empty->t.slot j= .empty){h:P2}{j:G6}(w:Way t h j):Way u h j:=by
 obtain⟨n,a,b⟩:=w;refine⟨n,by rw [<-yp e,<-wV e];exact a,λm hm z=>b m hm ?_⟩;rw [<-yp e,<-wV e] at z;exact f _ z
theorem NQ {α:Type}(xs:G0 α)(x:α){p:G6}(hp:p<=xs.length)(i:G6):(xs.take p++x::xs.drop p)[i]? =if i<p then xs[i]? else if i=p then some x else xs[i-1]? :=by
 have tl:(xs.take p).length=p:=by rw [T4];omega
 by_cases a:i<p
 ·rw [R8 a,C3 (by omega),pM,R8 a]
 ·rw [R9 a,N8 (by omega),tl]
  by_cases b:i=p
  ·rw [R8 b,b,iQ];rfl
  ·rw [R9 b,show i-p=(i-p-1)+1 by omega,bU,X8]
   congr 1;omega
structure Laid (t:N2)(hs:G0 P2):Prop where
 pow: ∃k,t.mask+1=2^k
 big:7<=t.mask
 dum:t.dummies= #[]
 rise:t.place.toList.Pairwise (· < ·)
 size:t.place.size=hs.length
 room:hs.length<=t.mask
 low: ∀ (i j:G6),t.place[i]? =some j->j<=t.mask
 way: ∀ (i:G6) (h:P2) (j:G6),hs[i]? =some h->t.place[i]? =some j->Way t h j
variable {hs:G0 P2}
theorem Laid.free (l:Laid t hs): ∃e,e<=t.mask/\t.slot e= .empty:=by
 refine F6 λno=> ?_
 have nd:t.place.toList.Nodup:=l.rise.imp λ{a b} z=>M1 z
 have all: ∀e,e<t.mask+1->e∈t.place.toList:=λe he=>by
  refine F6 λz=>no ⟨e,by omega,(vH l.dum l.rise).mpr λi q=>z ?_⟩
  exact nV.mpr (Array.mem_of_getElem? q)
 have key: ∀ (ys zs:G0 G6),ys.Nodup->(∀y∈ys,y∈zs)->ys.length<=zs.length:=by
  intro ys
  induction ys with
  |nil=>intro zs _ _;exact N9 _
  |cons y ys ih=>
   intro zs d s;obtain⟨d1,d2⟩:=E8.mp d;have hy:=s y P4;have:=ih (zs.erase y) d2 λx hx=>(cW (show x≠y from λq=>d1 (by rw [<-q];exact hx))).mpr (s x (R1 _ hx))
   rw [bL hy] at this;have:0<zs.length:=b8 hy;rw [D9];omega
 have:=key (D4 (t.mask+1)) t.place.toList mD λy hy=>all y (D0.mp hy)
 rw [S6,D1,l.size] at this;have:=l.room;omega
theorem Laid.search (l:Laid t hs)(h:P2): ∃n,n<10*E2 t.mask/\t.slot (zl t n (t.probeStart h)).j= .empty/\(∀m,m<n->t.slot (zl t m (t.probeStart h)).j≠ .empty)/\ ∀i:G6,hs[i]? =some h-> ∃m,m<n/\t.slot (zl t m (t.probeStart h)).j= .live i:=by
 obtain⟨k,hk⟩:=l.pow;obtain⟨e,he,em⟩:=l.free;obtain⟨n,a,b,c⟩:=Uu hk h he em;refine⟨n,a,b,c,λi hi=> ?_⟩;obtain⟨j,hj⟩: ∃j,t.place[i]? =some j:=⟨t.place[i]'(by rw [l.size];exact(P9.mp hi).1),aX _⟩;obtain⟨m,x,y⟩:=l.way i h j hi hj;have lv:t.slot (zl t m (t.probeStart h)).j= .live i:=by rw [x];exact PZ l.rise hj
 refine⟨m,?_,lv⟩;rcases bG m n with z|z|z
 ·exact z
 ·rw [z,b] at lv;cases lv
 ·exact absurd b (y n z)
theorem Db (t:N2)(j:G6):(t.put j).1.place.toList=t.place.toList.take (T8 t.place j)++j::t.place.toList.drop (T8 t.place j):=eJ ..
theorem Dc (d:t.dummies= #[])(j:G6):(t.put j).1.dummies= #[]:=by
 show (if mQ t.dummies j then _ else t.dummies)= #[];rw [d,R9 (by simp [mQ])]
theorem Laid.put (l:Laid t hs){h:P2}{j:G6}(em:t.slot j= .empty)(jm:j<=t.mask)(w:Way t h j)(room:hs.length+1<=t.mask):Laid (t.put j).1 (hs.take (t.put j).2++h::hs.drop (t.put j).2):=by
 have pe:(t.put j).2=T8 t.place j:=rfl;have me:t.mask=(t.put j).1.mask:=rfl;have pl:=Db t j;have hp:T8 t.place j<=t.place.size:=(HT.vB l.rise j).2.2;have hp1:T8 t.place j<=t.place.toList.length:=by rw [D1];exact hp
 have hp2:T8 t.place j<=hs.length:=by rw [<-l.size];exact hp
 have rise:(t.put j).1.place.toList.Pairwise (· < ·):=HT.Um l.rise (HT.Qq em);have at1: ∀i:G6,(t.put j).1.place[i]? =if i<T8 t.place j then t.place[i]? else if i=T8 t.place j then some j else t.place[i-1]? :=λi=>by
  have:=NQ t.place.toList j hp1 i;rw [<-pl] at this;simpa using this
 have sl: ∀x,(t.put j).1.slot x= .empty->t.slot x= .empty:=λx hx=>by
  rw [vH (Dc l.dum j) rise] at hx;rw [vH l.dum l.rise];intro i e
  by_cases c:i<T8 t.place j
  ·exact hx i (by rw [at1,R8 c];exact e)
  ·exact hx (i+1) (by rw [at1,R9 (by omega),R9 (by omega)];exact e)
 rw [pe];refine⟨l.pow,l.big,Dc l.dum j,rise,?_,?_,λi x hx=> ?_,λi g x hg hx=> ?_⟩
 ·rw [<-D1,pl];simp only [P1,D9,T4,B3,D1];have:=l.size;omega
 ·show _<=t.mask;simp only [P1,D9,T4,B3];omega
 ·rw [at1] at hx;split at hx
  ·exact l.low _ _ hx
  ·split at hx
   ·injection hx with hx;subst hx;exact jm
   ·exact l.low _ _ hx
 ·rw [at1] at hx;rw [NQ hs h hp2] at hg
  by_cases c:i<T8 t.place j
  ·rw [R8 c] at hg hx;exact(l.way i g x hg hx).more me sl
  ·rw [R9 c] at hg hx
   by_cases b:i=T8 t.place j
   ·rw [R8 b] at hg hx;injection hg with hg;injection hx with hx
    subst hg hx;exact w.more me sl
   ·rw [R9 b] at hg hx;exact(l.way (i-1) g x hg hx).more me sl
theorem Qx (a b:G6)(led:N0):Laid (.fresh a b led) []:=⟨⟨3,rfl⟩,P6 7,rfl,lB,rfl,N9 _,λi j h=>by simp [tY] at h,λi h j e=>by simp at e⟩
theorem NR (t:N2): ∀ (k i q m j:G6) (d:D2 G6),k<=m->zl t k ⟨j,m,i,q,d⟩=⟨j+k,m-k,i,q,d⟩
 |0,i,q,m,j,d,_=>rfl
 |k+1,i,q,m,j,d,h=>by
  have a:t.advance ⟨j,m,i,q,d⟩=⟨j+1,m-1,i,q,d⟩:=by unfold aM;rw [R8 (show m>0 by omega)]
  show zl t k (t.advance ⟨j,m,i,q,d⟩)=_;rw [a,NR t k i q (m-1) (j+1) d (by omega)]
  congr 1<;>omega
def SQ (t:N2)(E:G6->N0)(h:P2)(j:G6):Prop:= ∃n,(zl t n (t.probeStart h)).j=j/\ ∀m,m<n->E (zl t m (t.probeStart h)).j=false
variable {owner:S9 (D2 G6)}
theorem Xw: ∀ (fuel L n:G6) {j:G6},zl t n (t.probeStart h)=Ut t (YD (t.mask+1) (S4 h) L) (S4 h / 32^L) none->(∀m,m<n->(owner.getD (zl t m (t.probeStart h)).j (some 0)).isNone=false)->
 E3 t.mask owner fuel (YD (t.mask+1) (S4 h) L) (S4 h / 32^L)=some j->(owner.getD j (some 0)).isNone=true/\SQ t (λx=>(owner.getD x (some 0)).isNone) h j
 |0,_,_,_,_,_,e=>by cases e
 |fuel+1,L,n,j,hn,ne,e=>by
  unfold E3 at e;generalize hI:YD (t.mask+1) (S4 h) L=I at hn e;have run: ∀k,k<=A6 t.mask I-I->(zl t (n+k) (t.probeStart h)).j=I+k:=λk hk=>by
   rw [vG,hn];exact congrArg SetTable.Probe.j (NR t k I _ _ I none hk)
  have re:I<=A6 t.mask I:=by unfold A6;split<;>omega
  split at e
  ·rename_i k hk;injection e with e
   subst e;obtain⟨a,b,c⟩:=List.find?_range_eq_some.mp hk;have kl:=D0.mp b;refine⟨a,n+k,run k (by omega),λm hm=> ?_⟩;rcases F9 m n with z|z
   ·exact ne m z
   ·have:=c (m-n) (by omega);have r:=run (m-n) (by omega);rw [E6 z] at r;show (owner.getD (zl t m (t.probeStart h)).j (some 0)).isNone=false;rw [r];simpa using this
  ·rename_i hk;have none:=aQ.mp hk;have nx:=yX t _ (Ut t I (S4 h / 32^L) .none) rfl;refine Xw fuel (L+1) (n+(A6 t.mask I-I+1)) (j:=j) ?_ (λm hm=> ?_) ?_
   ·rw [vG,hn];refine nx.trans ?_;show Ut t ((I*5+1+S4 h / 32^L / 32)%(t.mask+1)) (S4 h / 32^L / 32) .none=_;rw [cA,<-K6,<-hI];rfl
   ·rcases F9 m n with z|z
    ·exact ne m z
    ·have:=none (m-n) (D0.mpr (by omega));have r:=run (m-n) (by omega);rw [E6 z] at r;rw [r];exact V8.mpr this
   ·rw [show u3 t.mask I (S4 h / 32^L)=((I*5+1+S4 h / 32^L / 32)%(t.mask+1),S4 h / 32^L / 32) from rfl] at e;dsimp only at e;rw [cA,<-K6,<-hI] at e;exact e
theorem De (hN:t.mask+1=2^k){e:G6}(he:e<=t.mask)(em:(owner.getD e (some 0)).isNone=true): ∃j,E3 t.mask owner (E2 t.mask) (S4 h%(t.mask+1)) (S4 h)=some j:=by
 obtain⟨m,hm,e1⟩:=NO hN (a:=YD (t.mask+1) (S4 h) 13) (X9 _ (b9 _)) (show e<t.mask+1 by omega);rw [<-Yd h m] at e1;have go: ∀ (fuel L:G6),(∃L',L<=L'/\L'<L+fuel/\YD (t.mask+1) (S4 h) L'=e)-> ∃j,E3 t.mask owner fuel (YD (t.mask+1) (S4 h) L) (S4 h / 32^L)=some j:=by
  intro fuel
  induction fuel with
  |zero=>rintro L ⟨L',a,b,_⟩;omega
  |succ fuel ih=>
   rintro L ⟨L',a,b,c⟩;unfold E3;generalize hI:YD (t.mask+1) (S4 h) L=I;split
   ·rename_i k hk;exact⟨_,rfl⟩
   ·rename_i hk;have none:=aQ.mp hk;have ne:I≠e:=λz=>by
     have re:I<=A6 t.mask I:=by unfold A6;split<;>omega
     have:=none 0 (D0.mpr (by omega));rw [Y3,z] at this;exact this em
    have lt:L+1<=L':=by
     rcases F9 L L' with z|z
     ·exact z
     ·have:L=L':=by omega
      subst this;exact absurd (hI.symm.trans c) ne
    obtain⟨j,hj⟩:=ih (L+1) ⟨L',lt,by omega,c⟩;refine⟨j,?_⟩;rw [show u3 t.mask I (S4 h / 32^L)=((I*5+1+S4 h / 32^L / 32)%(t.mask+1),S4 h / 32^L / 32) from rfl];dsimp only;rw [cA,<-K6,<-hI];exact hj
 have:=go (E2 t.mask) 0 ⟨13+m,N9 _,by unfold E2;omega,e1⟩;rw [gM,oH] at this;exact this
def emO (owner:S9 (D2 G6))(x:G6):N0:=(owner.getD x (some 0)).isNone
theorem emO_iff {x:G6}:emO owner x=true↔owner[x]? =some none:=by
 unfold emO;rw [cQ];cases owner[x]? with
 |none=>simp
 |some o=>cases o<;>simp
structure Own (t:N2)(hs:G0 P2)(owner:S9 (D2 G6))(k:G6):Prop where
 size:owner.size=t.mask+1
 lt: ∀x i:G6,owner[x]? =some (some i)->i<k
 inj: ∀x y i:G6,owner[x]? =some (some i)->owner[y]? =some (some i)->x=y
 all: ∀i,i<k-> ∃x:G6,owner[x]? =some (some i)
 way: ∀ (x i:G6) (h:P2),owner[x]? =some (some i)->hs[i]? =some h->SQ t (emO owner) h x
theorem Own.free (o:Own t hs owner k)(room:k<=t.mask): ∃e,e<=t.mask/\emO owner e=true:=by
 refine F6 λno=> ?_
 have got: ∀x,x<t.mask+1-> ∃i,owner[x]? =some (some i):=λx hx=>by
  have hs':x<owner.size:=by rw [o.size];exact hx
  cases e:owner[x]? with
  |none=>rw [cY] at e;omega
  |some v=>
   cases v with
   |none=>exact absurd ⟨x,by omega,emO_iff.mpr e⟩ no
   |some i=>exact⟨i,rfl⟩
 have gi: ∀x,x<t.mask+1->owner[x]? =some (some (((owner[x]?).getD none).getD 0)):=λx hx=>by
  obtain⟨i,e⟩:=got x hx;rw [e];rfl
 have nd:((D4 (t.mask+1)).map λx=>((owner[x]?).getD none).getD 0).Nodup:=by
  rw [pO,W0];refine O3.mpr λa b ha hb ab e=> ?_
  rw [fO,fO] at e;rw [S6] at ha hb;have x1:=gi a ha;have x2:=gi b hb;rw [e] at x1;have:=o.inj a b _ x1 x2;omega
 have:=vA (m:=D4 k) nd λy hy=>by
  obtain⟨x,hx,rfl⟩:=R6.mp hy;exact D0.mpr (o.lt x _ (gi x (D0.mp hx)))
 rw [G5,S6,S6] at this;omega
variable {n:G6}
theorem Own.step (hN:t.mask+1=2^n)(o:Own t hs owner k)(room:k<=t.mask)(hk:hs[k]? =some h): ∃j,E3 t.mask owner (E2 t.mask) (S4 h%(t.mask+1)) (S4 h)=some j/\Own t hs (owner.setIfInBounds j (some k)) (k+1):=by
 obtain⟨e,he,em⟩:=o.free room;obtain⟨j,hj⟩:=De (h:=h) hN he em;have w:=Xw (t:=t) (owner:=owner) (h:=h) (E2 t.mask) 0 0 (j:=j) (by rw [gM,oH];rfl) (λm hm=>absurd hm (Q0 _)) (by rw [gM,oH];exact hj);have jn:owner[j]? =some none:=emO_iff.mp w.1;have js:j<owner.size:=(A2.mp jn).1;have at1: ∀x:G6,(owner.setIfInBounds j (some k))[x]? =if j=x then some (some k) else owner[x]? :=λx=>by
  rw [Array.getElem?_setIfInBounds]
  by_cases c:j=x
  ·rw [R8 c,R8 c,R8 js]
  ·rw [R9 c,R9 c]
 have old: ∀x i:G6,(owner.setIfInBounds j (some k))[x]? =some (some i)->(x=j/\i=k)\/(x≠j/\owner[x]? =some (some i)):=λx i hx=>by
  rw [at1] at hx;split at hx
  ·rename_i c;injection hx with hx;injection hx with hx;exact .inl ⟨c.symm,hx.symm⟩
  ·rename_i c;exact .inr ⟨E4 c,hx⟩
 have emm: ∀x,emO owner x=false->emO (owner.setIfInBounds j (some k)) x=false:=λx hx=>by
  refine V8.mpr λz=> ?_
  rw [emO_iff,at1] at z;split at z
  ·cases z
  ·rw [emO_iff.mpr z] at hx;cases hx
 refine⟨j,hj,by rw [eO];exact o.size,λx i hx=> ?_,λx y i hx hy=> ?_,λi hi=> ?_,λx i g hx hg=> ?_⟩
 ·rcases old x i hx with ⟨_,e⟩|⟨_,e⟩
  ·omega
  ·have:=o.lt x i e;omega
 ·rcases old x i hx with ⟨a,b⟩|⟨a,b⟩<;>rcases old y i hy with ⟨c,d⟩|⟨c,d⟩
  ·rw [a,c]
  ·have:=o.lt y i d;omega
  ·have:=o.lt x i b;omega
  ·exact o.inj x y i b d
 ·by_cases c:i=k
  ·exact⟨j,by rw [at1,R8 rfl,c]⟩
  ·obtain⟨x,hx⟩:=o.all i (by omega);have ne: ¬j=x:=λz=>by rw [<-z,jn] at hx;cases hx
   exact⟨x,by rw [at1,R9 ne];exact hx⟩
 ·rcases old x i hx with ⟨a,b⟩|⟨a,b⟩
  ·rw [b,hk] at hg;injection hg with hg
   rw [a,<-hg];obtain⟨m,p,q⟩:=w.2;exact⟨m,p,λm' hm=>emm _ (q m' hm)⟩
  ·obtain⟨m,p,q⟩:=o.way x i g b hg;exact⟨m,p,λm' hm=>emm _ (q m' hm)⟩
theorem ML (t:N2)(hs:G0 P2):Own t hs (m9 (t.mask+1) none) 0:=by
 have no: ∀x i:G6,(m9 (t.mask+1) (none:D2 G6))[x]? ≠some (some i):=λx i e=>by
  rw [Array.getElem?_replicate] at e;split at e<;>cases e
 exact⟨Array.size_replicate,λx i e=>absurd e (no x i),λx y i e=>absurd e (no x i),λi hi=>absurd hi (Q0 _),λx i h e=>absurd e (no x i)⟩
theorem Xx (hN:t.mask+1=2^n)(room:hs.length<=t.mask){F:D2 (S9 (D2 G6)×G6)->P2->D2 (S9 (D2 G6)×G6)}
 (hF: ∀owner k h j,E3 t.mask owner (E2 t.mask) (S4 h%(t.mask+1)) (S4 h)=some j->F (some (owner,k)) h=some (owner.setIfInBounds j (some k),k+1)): ∀ (rest:G0 P2) (k:G6) (owner:S9 (D2 G6)),Own t hs owner k->k<=hs.length->hs.drop k=rest-> ∃owner',rest.foldl F (some (owner,k))=some (owner',hs.length)/\Own t hs owner' hs.length
 | [],k,owner,o,kl,e=>by
  have:k=hs.length:=by have:=List.drop_eq_nil_iff.mp e;omega
  subst this;exact⟨owner,rfl,o⟩
 |h::rest,k,owner,o,kl,e=>by
  have hk:hs[k]? =some h:=by
   have:(hs.drop k)[0]? =some h:=by rw [e];rfl
   rwa [X8,Y3] at this
  have lt:k<hs.length:=(P9.mp hk).1;obtain⟨j,hj,o'⟩:=o.step hN (by omega) hk;have e2:hs.drop (k+1)=rest:=by rw [<-List.tail_drop,e];rfl
  obtain⟨owner',a,b⟩:=Xx hN room hF rest (k+1) _ o' lt e2;exact⟨owner',by rw [mY,hF _ _ _ _ hj];exact a,b⟩
theorem MM (hN:t.mask+1=2^n)(room:hs.length<=t.mask){F:D2 (S9 (D2 G6)×G6)->P2->D2 (S9 (D2 G6)×G6)}
 (hF: ∀owner k h j,E3 t.mask owner (E2 t.mask) (S4 h%(t.mask+1)) (S4 h)=some j->F (some (owner,k)) h=some (owner.setIfInBounds j (some k),k+1)): ∃owner,(hs.foldl F (some (m9 (t.mask+1) none,0))).map (·.1)=some owner/\Own t hs owner hs.length:=by
 obtain⟨owner,a,b⟩:=Xx hN room hF hs 0 _ (ML t hs) (N9 _) rfl;exact⟨owner,by rw [a];rfl,b⟩
theorem CV {hashes:S9 P2}(hN:t.mask+1=2^n)(room:hashes.size<=t.mask): ∃owner,qP t.mask hashes=some owner/\Own t hashes.toList owner hashes.toList.length:=by
 unfold qP;rw [<-Array.foldl_toList];refine MM hN (by rw [D1];exact room) λowner k h j hj=> ?_
 show (E3 t.mask owner _ _ _).bind _=_;rw [hj];rfl
theorem Uv: ∀ (n:G6) (p:U2),p.j+p.more<=t.mask->(zl t n p).j<=t.mask
 |0,p,h=>by show p.j<=t.mask;omega
 |n+1,p,h=>by
  refine Uv n (t.advance p) ?_;unfold aM;split
  ·show p.j+1+(p.more-1)<=t.mask;omega
  ·have:(p.i*5+1+p.perturb / 32)%(t.mask+1)<t.mask+1:=X9 _ (b9 _);show (p.i*5+1+p.perturb / 32)%(t.mask+1)+(A6 t.mask ((p.i*5+1+p.perturb / 32)%(t.mask+1))-(p.i*5+1+p.perturb / 32)%(t.mask+1))<=t.mask;unfold A6;split<;>omega
theorem Vp (t:N2)(h:P2):(t.probeStart h).j+(t.probeStart h).more<=t.mask:=by
 have:S4 h%(t.mask+1)<t.mask+1:=X9 _ (b9 _);show S4 h%(t.mask+1)+(A6 t.mask (S4 h%(t.mask+1))-S4 h%(t.mask+1))<=t.mask;unfold A6;split<;>omega
theorem AA {T0 T':N2}{E:G6->N0}{j:G6}(em:T0.mask=T'.mask)(f: ∀y,y<=T0.mask->E y=false->T'.slot y≠ .empty)(w:SQ T0 E h j):Way T' h j:=by
 obtain⟨n,a,b⟩:=w;refine⟨n,by rw [<-yp em,<-wV em];exact a,λm hm=> ?_⟩;rw [<-yp em,<-wV em];exact f _ (Uv m _ (Vp T0 h)) (b m hm)
theorem CW {mask finger moves:G6}{led plain:N0}{hashes:S9 P2}(hN:mask+1=2^n)(h7:7<=mask)(room:hashes.size<=mask): ∃t' order,u4 mask finger moves led plain hashes=some (t',order)/\t'.mask=mask/\t'.led=led/\t'.plain=plain/\order.toList.Perm (D4 hashes.size)/\Laid t' (order.toList.map λi=>hashes.toList.getD i 0):=by
 obtain⟨T0,hm⟩: ∃T0:N2,T0.mask=mask:=⟨{tY 0 0 true with mask:=mask},rfl⟩;subst hm;obtain⟨owner,ho,own⟩:=CV (t:=T0) (hashes:=hashes) hN room;unfold u4;rw [ho];refine⟨_,_,rfl,rfl,rfl,rfl,?_⟩;generalize hl:((D4 (T0.mask+1)).filterMap λj=>(owner.getD j none).map (j,·))=live;have osz:owner.size=T0.mask+1:=own.size;have mem: ∀x i:G6,(x,i)∈live↔owner[x]? =some (some i):=λx i=>by
  rw [<-hl,bY];constructor
  ·rintro ⟨j,hj,e⟩;rw [cQ] at e;cases z:owner[j]? with
   |none=>rw [z] at e;cases e
   |some v=>
    rw [z] at e;cases v with
    |none=>cases e
    |some w=>cases e;exact z
  ·intro e;have lt:x<owner.size:=(A2.mp e).1;refine⟨x,D0.mpr (by omega),?_⟩;rw [cQ,e];rfl
 have sub:(live.map (·.1)).Sublist (D4 (T0.mask+1)):=by rw [<-hl];exact HT.WU _ _
 have rise:(live.map (·.1)).Pairwise (· < ·):=G0.pairwise_lt_range.sublist sub;have nd:(live.map (·.2)).Nodup:=by
  rw [pO,W0];rw [W0] at rise;refine rise.imp_of_mem λ{a b} ha hb lt e=> ?_
  have:=own.inj a.1 b.1 a.2 ((mem _ _).mp ha) (by rw [e];exact(mem _ _).mp hb);omega
 have len0:hashes.toList.length=hashes.size:=D1;have pm:(live.map (·.2)).Perm (D4 hashes.size):=by
  refine(List.perm_ext_iff_of_nodup nd mD).mpr λi=> ?_
  rw [D0];constructor
  ·intro h;obtain⟨⟨x,i'⟩,a,rfl⟩:=R6.mp h;have:=own.lt x i' ((mem _ _).mp a);omega
  ·intro h;obtain⟨x,hx⟩:=own.all i (by omega);exact R6.mpr ⟨(x,i),(mem _ _).mpr hx,rfl⟩
 have ll:live.length=hashes.size:=by have:=pm.length_eq;rwa [G5,S6] at this
 refine⟨pm,⟨n,hN⟩,h7,rfl,rise,?_,?_,λi j hj=> ?_,λi h x hh hx=> ?_⟩
 ·simp
 ·show _<=T0.mask;simp only [G5];omega
 ·have hj:(live.map (·.1))[i]? =some j:=by simpa using hj
  have:=D0.mp (sub.subset (P8 hj));show j<=T0.mask;omega
 ·have hx:(live.map (·.1))[i]? =some x:=by simpa using hx
  have hh:((live.map (·.2)).map λi=>hashes.toList.getD i 0)[i]? =some h:=hh;rw [D3] at hx;obtain⟨⟨x',i'⟩,e1,e2⟩:=F4.mp hx;have e2:x'=x:=e2;subst e2;rw [D3,D3,e1] at hh;have hh:hashes.toList.getD i' 0=h:=by injection hh
  have ow:=(mem _ _).mp (P8 e1);have lt:=own.lt _ _ ow;have hg:hashes.toList[i']? =some h:=by
   rw [<-hh,P7,G2 lt];rfl
  refine AA (T0:=T0) rfl (λy hy hb z=> ?_) (own.way _ _ _ ow hg);rw [vH rfl rise] at z;cases e:owner[y]? with
  |none=>rw [cY] at e;omega
  |some v=>
   cases v with
   |none=>rw [emO_iff.mpr e] at hb;cases hb
   |some w=>
    obtain⟨i2,h2⟩:=bF (R6.mpr ⟨(y,w),(mem _ _).mpr e,rfl⟩:y∈live.map (·.1));exact z i2 (by simpa using h2)
theorem Laid.stands (l:Laid t hs):t.gaveWay=false:=by
 obtain⟨k,hk⟩:=l.pow;have b:=l.big;cases k with
 |zero=>rw [gM] at hk;omega
 |succ k=>
  rw [K6] at hk;unfold KU;refine beq_false_of_ne ?_;omega
theorem Xy: ∀ (fuel k n:G6),3<=k-> ∃m,3<=m/\aT n fuel (2^k)=2^m/\(n<2^(k+fuel)->n<2^m)
 |0,k,n,h=>⟨k,h,rfl,λz=>z⟩
 |fuel+1,k,n,h=>by
  unfold aT
  by_cases c:2^k<=n
  ·rw [R8 c,<-K6];obtain⟨m,a,b,d⟩:=Xy fuel (k+1) n (by omega);exact⟨m,a,b,λz=>d (by rw [fM,eQ];exact z)⟩
  ·rw [R9 c];exact⟨k,h,rfl,λ_=>by omega⟩
theorem above (h:n<2^67): ∃m,J9 n=2^m/\n<J9 n/\8<=J9 n:=by
 obtain⟨m,a,b,c⟩:=Xy 64 3 n (by decide);have b:J9 n=2^m:=b;refine⟨m,b,by rw [b];exact c h,?_⟩;rw [b];exact cV (show 0<2 by decide) a
end L2
namespace L2
open PySem PySem.Spec PyProof.Rows HT
variable {prog:T3}{w:B9}{A:N6}{E:G1->G3->Prop}{s:G3}{a:P3}{es:S9 (P2×G1)}{ep:G6}{t:N2}
theorem Laid.fits {hs:G0 P2}(l:Laid t hs){n:G6}(e:hs.length=n):t.fits n=true:=by
 have a:=l.size;have b:=l.room;have c:=l.dum;simp only [uS,u5,C6,beq_iff_eq,Z4,c];simp;omega
theorem Xz (t:N2):t.sameMemory t.moves t.mask=some true:=by
 unfold IC;rw [R8 (aL _)]
theorem XA {b:P3}{Q:N0->G3->Prop}(q:Q true s):R3 (R7 prog w) A (isSame (.ref b) (.ref b)) Q E s:=by
 unfold isSame;dsimp only;rw [R8 (aL _)];exact P0 q
variable {eqk:G6->N0}
theorem Uw {Q:SetFound->G3->Prop}{x:G1}{h:P2}{n:G6}(l:Laid t (es.toList.map (·.1)))(ho:s.heap.get? a=some (wQ es ep t))
 (refs: ∀ (i:G6) (y:G1),es[i]? =some (h,y)-> ∃b,y= .ref b)
 (G0k: ∀Q':N0->G3->Prop,Q' false s->R3 (R7 prog w) A (cR x ((es.filter (·.1==h)).toList.map (·.2))) Q' E s)
 (cmp: ∀ (i:G6) (y:G1),es[i]? =some (h,y)-> ∀Q':N0->G3->Prop,Q' (eqk i) s->R3 (R7 prog w) A (Y0 [y] (eqBool y x)) Q' E s)
 (em:t.slot (zl t n (t.probeStart h)).j= .empty)(nb:n<10*E2 t.mask)(ne: ∀m,m<n->t.slot (zl t m (t.probeStart h)).j≠ .empty)
 (free:(∀m i,m<n->t.slot (zl t m (t.probeStart h)).j= .live i->(es[i]?.map (·.1)).getD 0=h->eqk i=false)->Q (.free (zl t n (t.probeStart h)).j false) s)
 (there: ∀ (i:G6) (y:G1),es[i]? =some (h,y)->eqk i=true->Q (.there none) s):
 ∀ (r k fuel:G6) (stand:D2 U2),k+r=n->r<fuel->stand.getD (t.probeStart h)=zl t k (t.probeStart h)->(∀m i,m<k->t.slot (zl t m (t.probeStart h)).j= .live i->(es[i]?.map (·.1)).getD 0=h->eqk i=false)->
  R3 (R7 prog w) A (u6 a x h true fuel stand) Q E s:=by
 intro r
 induction r using G6.strongRecOn with
 |ind r ih=>
 intro k fuel stand kr rf st old;obtain⟨fuel,rfl⟩: ∃f,fuel=f+1:=⟨fuel-1,by omega⟩;have fit:t.fits es.size=true:=l.fits (by rw [G5,D1]);unfold u6;refine wpAny_bind (A9 ho rfl fit ?_);dsimp only;rw [l.stands];simp only [F5,↓reduceIte];have ad: ∀m,zl t m (zl t k (t.probeStart h))=zl t (k+m) (t.probeStart h):=λm=>(vG t k m _).symm
 have dn: ∀ (m:G6) (p:U2),p.dummy=none->(zl t m p).dummy=none:=λm=>by
  induction m with
  |zero=>exact λp hp=>hp
  |succ m ihm=>exact λp hp=>ihm _ (by unfold aM;split<;>exact hp)
 have out:=NP (f:=λi=>(es[i]?.map (·.1)).getD 0) (h:=h) l.dum r (10*E2 t.mask) (zl t k (t.probeStart h)) (by omega) (by rw [ad,kr];exact em) (λm hm=>by rw [ad];exact ne _ (by omega)) (dn _ _ rfl);have e0:t.probe (λi=>(es[i]?.map (·.1)).getD 0) h (stand.getD (t.probeStart h))=W1 t (λi=>(es[i]?.map (·.1)).getD 0) h (10*E2 t.mask) (zl t k (t.probeStart h)):=by rw [st];rfl
 rw [<-e0] at out;split
 ·rename_i met hmet;have hmet:t.probe (λi=>(es[i]?.map (·.1)).getD 0) h (stand.getD (t.probeStart h))=some met:=hmet;rw [hmet] at out;rcases out with ⟨e,no⟩|⟨m,i,mr,sl,hi,no,e⟩
  ·injection e with e
   subst e;dsimp only;refine P0 ?_;rw [ad,kr];refine free λm i hm sl hi=> ?_
   rcases F9 m k with z|z
   ·exact old m i z sl hi
   ·refine absurd hi (no (m-k) (by omega) i ?_);rw [ad,E6 z];exact sl
  ·injection e with e
   subst e;dsimp only;obtain⟨y,ei⟩: ∃y,es[i]? =some (h,y):=by
    obtain⟨lt,_⟩:=A2.mp (Da sl);have sz:i<es.size:=by have:=l.size;rw [G5,D1] at this;omega
    rw [aX sz] at hi ⊢;have hi:es[i].1=h:=hi;exact⟨es[i].2,by rw [<-hi]⟩
   cases hl:t.led
   ·simp only [tZ,↓reduceIte];refine wpAny_bind (G0k _ ?_);simp only [F5,↓reduceIte];rw [ei];dsimp only;refine wpAny_bind (cmp i y ei _ ?_);refine wpAny_bind (A9 ho rfl fit ?_);dsimp only;cases ek:eqk i with
    |true=>simp only [lM,↓reduceIte];exact P0 (there i y ei ek)
    |false=>
     simp only [bQ,F5,↓reduceIte,Xz,sl,ei];obtain⟨b,rfl⟩:=refs i y ei;refine wpAny_bind (XA ?_);refine wpAny_bind (P0 ?_);simp only [↓reduceIte];refine ih (r-(m+1)) (by omega) (k+(m+1)) fuel (some _) (by omega) (by omega) (by show zl t (m+1) _=_;rw [ad]) (λm' i' hm' sl' hi'=> ?_);rcases F9 m' k with z|z
     ·exact old m' i' z sl' hi'
     ·have e1:zl t m' (t.probeStart h)=zl t (m'-k) (zl t k (t.probeStart h)):=by rw [ad,E6 z]
      rw [e1] at sl';rcases F9 (m'-k) m with y|y
      ·exact absurd hi' (no (m'-k) y i' sl')
      ·have e2:m'-k=m:=by omega
       rw [e2,sl] at sl';injection sl' with sl'
       rw [<-sl'];exact ek
   ·simp only [iD,F5,↓reduceIte];rw [ei];dsimp only;refine wpAny_bind (cmp i y ei _ ?_);refine wpAny_bind (A9 ho rfl fit ?_);dsimp only;cases ek:eqk i with
    |true=>simp only [lM,↓reduceIte];exact P0 (there i y ei ek)
    |false=>
     simp only [bQ,F5,↓reduceIte,Xz,sl,ei];obtain⟨b,rfl⟩:=refs i y ei;refine wpAny_bind (XA ?_);refine wpAny_bind (P0 ?_);simp only [↓reduceIte];refine ih (r-(m+1)) (by omega) (k+(m+1)) fuel (some _) (by omega) (by omega) (by show zl t (m+1) _=_;rw [ad]) (λm' i' hm' sl' hi'=> ?_);rcases F9 m' k with z|z
     ·exact old m' i' z sl' hi'
     ·have e1:zl t m' (t.probeStart h)=zl t (m'-k) (zl t k (t.probeStart h)):=by rw [ad,E6 z]
      rw [e1] at sl';rcases F9 (m'-k) m with y|y
      ·exact absurd hi' (no (m'-k) y i' sl')
      ·have e2:m'-k=m:=by omega
       rw [e2,sl] at sl';injection sl' with sl'
       rw [<-sl'];exact ek
 ·rename_i hmet;rcases out with ⟨e,_⟩|⟨_,_,_,_,_,_,e⟩<;>exact(hmet _ e).elim
theorem Qy {Q:SetFound->G3->Prop}{x:G1}{h:P2}(l:Laid t (es.toList.map (·.1)))(few:t.mask<=9000)(ho:s.heap.get? a=some (wQ es ep t))
 (refs: ∀ (i:G6) (y:G1),es[i]? =some (h,y)-> ∃b,y= .ref b)
 (G0k: ∀Q':N0->G3->Prop,Q' false s->R3 (R7 prog w) A (cR x ((es.filter (·.1==h)).toList.map (·.2))) Q' E s)
 (cmp: ∀ (i:G6) (y:G1),es[i]? =some (h,y)-> ∀Q':N0->G3->Prop,Q' (eqk i) s->R3 (R7 prog w) A (Y0 [y] (eqBool y x)) Q' E s)
 (free: ∀j,(∀ (i:G6) (y:G1),es[i]? =some (h,y)->eqk i=false)->t.slot j= .empty->j<=t.mask->Way t h j->Q (.free j false) s)
 (there: ∀ (i:G6) (y:G1),es[i]? =some (h,y)->eqk i=true->Q (.there none) s):R3 (R7 prog w) A (setSearch a x h true) Q E s:=by
 obtain⟨n,nb,em,ne,met⟩:=l.search h;refine Uw l ho refs G0k cmp em nb ne (λal=>free _ (λi y e=> ?_) em (Uv n _ (Vp t h)) ⟨n,rfl,ne⟩) there n 0 100000 none (A8 n) (by unfold E2 at nb;omega) rfl (λm i hm=>absurd hm (Q0 _));have e1:(es.toList.map (·.1))[i]? =some h:=by
  rw [D3,N5,e];rfl
 obtain⟨m,hm,sl⟩:=met i e1;exact al m i hm sl (by rw [e];rfl)
theorem Laid.plain {hs:G0 P2}(l:Laid t hs)(b:N0):Laid {t with plain:=b} hs:=
 ⟨l.pow,l.big,l.dum,l.rise,l.size,l.room,l.low,λi h j x y=>Way.more (t:=t) (u:= {t with plain:=b}) rfl (λ_ z=>z) (l.way i h j x y)⟩
theorem Qz (es:S9 (P2×G1))(h:P2)(x:G1)(p:G6):(V5 es p (h,x)).toList.map (·.1)=(es.toList.map (·.1)).take p++h::(es.toList.map (·.1)).drop p:=by
 rw [eJ,T9,T5,iA,lH]
theorem XB: ∀ (fuel k n:G6),aT n fuel (2^k)<=2^k\/aT n fuel (2^k)<=2*n
 |0,k,n=> .inl (P6 _)
 |fuel+1,k,n=>by
  unfold aT
  by_cases c:2^k<=n
  ·rw [R8 c,<-K6];rcases XB fuel (k+1) n with z|z
   ·refine .inr (S0 z ?_);rw [K6];omega
   ·exact .inr z
  ·rw [R9 c];exact .inl (P6 _)
theorem Ux {hashes:S9 P2}{w:G6}(hw:hashes.size<=w)(few:w<=40000):J9 w<=80008/\ ∃t' order,t.relaid hashes w=some (t',order)/\t'.led=t.led/\w<=t'.mask/\t'.mask<=2*w+8/\order.toList.Perm (D4 hashes.size)/\Laid t' (order.toList.map λi=>hashes.toList.getD i 0):=by
 obtain⟨m,a,b,c⟩:=above (n:=w) (by omega);have u:J9 w<=8\/J9 w<=2*w:=XB 64 3 w;refine⟨by omega,?_⟩;obtain⟨t',order,x,mk,y,z,p,q⟩:=CW (mask:=J9 w-1) (finger:=t.finger) (moves:=t.movedTo (J9 w-1)) (led:=t.led) (plain:=t.plain) (hashes:=hashes) (n:=m) (by rw [<-a];omega) (by omega) (by omega);exact⟨t',order,x,y,by rw [mk];omega,by rw [mk];omega,p,q⟩
theorem Df {Q:Unit->G3->Prop}{wd:G6}(l:Laid t (es.toList.map (·.1)))(ho:s.heap.get? a=some (wQ es ep t))(hw:es.size<=wd)(few:wd<=40000)
 (k: ∀es' t' h',es'.toList.Perm es.toList->Laid t' (es'.toList.map (·.1))->t'.led=t.led->wd<=t'.mask->t'.mask<=2*wd+8->h'.get? a=some (wQ es' (ep+1) t')->O7 a s.heap h'->Q () {s with heap:=h'}):R3 (R7 prog w) A (y8 a wd) Q E s:=by
 have fit:t.fits es.size=true:=l.fits (by rw [G5,D1]);obtain⟨up,t',order,er,ld,m1,m2,pm,l'⟩:=Ux (t:=t) (hashes:=es.map (·.1)) (w:=wd) (by rw [t8];exact hw) few;unfold y8;refine wpAny_bind (A9 ho rfl fit ?_);dsimp only;rw [er];have sl: ¬J9 wd>sizeLine:=aA.mpr (S0 up (by decide));simp only [sl,↓reduceIte];have fe: ∀l:G0 G6,(∀i∈l,i<es.size)->l.filterMap (λi=>es[i]?)=l.map (λi=>es.toList.getD i (0,.none)):=λl=>by
  induction l with
  |nil=>exact λ_=>rfl
  |cons i l ih=>
   intro h;have hi:=h i P4;have e:es[i]? =some (es.toList.getD i (0,.none)):=by
    rw [P7,N5,aX hi];rfl
   rw [List.filterMap_cons_some e,T5,ih λx hx=>h x (R1 _ hx)]
 rw [t8] at pm;have lt: ∀i∈order.toList,i<es.size:=λi hi=>D0.mp (pm.mem_iff.mp hi)
 have e1:(order.filterMap (es[·]?)).toList=order.toList.map (λi=>es.toList.getD i (0,.none)):=by
  rw [Array.toList_filterMap];exact fe _ lt
 have e2:es.toList=(D4 es.size).map (λi=>es.toList.getD i (0,.none)):=by
  have:=jP es.toList (0,(.none:G1))
  rwa [D1] at this
 have pe:(order.filterMap (es[·]?)).toList.Perm es.toList:=by
  have:=pm.map (λi=>es.toList.getD i (0,.none));rw [<-e2] at this;rw [e1];exact this
 have sz:(order.filterMap (es[·]?)).size=es.size:=by have:=pe.length_eq;rwa [D1,D1] at this
 have hh:(order.filterMap (es[·]?)).toList.map (·.1)=order.toList.map λi=>(es.map (·.1)).toList.getD i 0:=by
  rw [e1,B6];refine B8 λi hi=> ?_
  show (es.toList.getD i (0,.none)).1=(es.map (·.1)).toList.getD i 0;have z:i<es.toList.length:=by rw [D1];exact lt i hi
  rw [rK,P7,P7,D3,G2 z];rfl
 rw [<-hh] at l';refine wpAny_bind ?_;show R3 _ _ (ite _ _ _) _ _ _;rw [R9 (by rw [sz];simp)];refine P0 ?_;dsimp only;exact qQ (s:=s) ho rfl (k _ t' _ pe l' ld m1 m2 (L6 _ ho rfl) (O5 ..)) (by rw [sz];exact S0 (show es.size<=40000 by omega) (by decide))
theorem CY {Q:N0->G3->Prop}{b:P3}{h:P2}{bv:N0}{fuel:G6}(l:Laid t (es.toList.map (·.1)))(few:t.mask<=9000)(lean:es.size*5<t.mask*3)(ho:s.heap.get? a=some (wQ es ep t))
 (refs: ∀ (i:G6) (y:G1),es[i]? =some (h,y)-> ∃b,y= .ref b)
 (G0k: ∀Q':N0->G3->Prop,Q' false s->R3 (R7 prog w) A (cR (.ref b) ((es.filter (·.1==h)).toList.map (·.2))) Q' E s)
 (cmp: ∀ (i:G6) (y:G1),es[i]? =some (h,y)-> ∀Q':N0->G3->Prop,Q' (eqk i) s->R3 (R7 prog w) A (Y0 [y] (eqBool y (.ref b))) Q' E s)
 (byv: ∀Q':N0->G3->Prop,Q' bv s->R3 (R7 prog w) A (f7 8 (.ref b)) Q' E s)
 (new:(∀ (i:G6) (y:G1),es[i]? =some (h,y)->eqk i=false)-> ∀es' ep' t' h',es'.toList.Perm (es.push (h,.ref b)).toList->Laid t' (es'.toList.map (·.1))->t'.mask<=max t.mask (8*es.size+16)->es'.size*5<t'.mask*3->t'.led=t.led->h'.get? a=some (wQ es' ep' t')->O7 a s.heap h'->Q true {s with heap:=h'})
 (there: ∀ (i:G6) (y:G1),es[i]? =some (h,y)->eqk i=true->Q false s):R3 (R7 prog w) A (oI a (.ref b) h (fuel+1)) Q E s:=by
 have fit:t.fits es.size=true:=l.fits (by rw [G5,D1]);have sz:(es.toList.map (·.1)).length=es.size:=by rw [G5,D1]
 unfold oI;refine wpAny_bind (A9 ho rfl fit ?_);dsimp only;rw [show byScan (.ref b) es=false from rfl];simp only [F5,↓reduceIte];refine wpAny_bind (Qy (eqk:=eqk) l few ho refs G0k cmp (λj no em jm wy=> ?_) (λi y e ek=> ?_))
 ·dsimp only;refine wpAny_bind (A9 ho rfl fit ?_);dsimp only;have l1:=l.put em jm wy (by rw [sz];have:=l.big;omega);have l1:=(congrArg (Laid (t.put j).1) (Qz es h (.ref b) (t.put j).2)).mpr l1;have z0:(V5 es (t.put j).2 (h,.ref b)).size=es.size+1:=by
   have:=(gP es (t.put j).2 (h,(.ref b:G1))).length_eq;rw [D1,D1,sN] at this;exact this
  have z1:(V5 es (t.put j).2 (h,.ref b)).size<=sizeLine:=by
   rw [z0];exact S0 (show es.size+1<=10000 by omega) (by decide)
  have rest: ∀t2:N2,Laid t2 ((V5 es (t.put j).2 (h,.ref b)).toList.map (·.1))->t2.led=t.led->t2.mask=t.mask->R3 (R7 prog w) A (do storeSet a (V5 es (t.put j).2 (h,.ref b)) t2;if (!false&&t2.tooFull)=true then (do y8 a (c9 (es.size+1));pure true) else pure true) Q E s:=λt2 l2 ld mk=>by
   refine wpAny_bind (qQ (s:=s) ho rfl ?_ z1);have o1:(s.heap.update a (Obj.putSet (V5 es (t.put j).2 (h,.ref b)) t2)).get? a=some (wQ (V5 es (t.put j).2 (h,.ref b)) (ep+1) t2):=L6 _ ho rfl;cases tf:t2.tooFull with
   |true=>
    simp only [tZ,lM,↓reduceIte];refine wpAny_bind (Df (wd:=c9 (es.size+1)) (ep:=ep+1) l2 o1 (by rw [z0];unfold c9;split<;>omega) (by unfold c9;split<;>omega) λes' t' h' pe l' ld' m1 m2 o2 sb=> ?_);refine P0 (new no es' (ep+1+1) t' h' (pe.trans (gP ..)) l' ?_ ?_ (ld'.trans ld) o2 (IY (O5 ..) sb))
    ·unfold c9 at m2;split at m2<;>omega
    ·have:=pe.length_eq;rw [D1,D1,z0] at this;unfold c9 at m1;split at m1<;>omega
   |false=>
   simp only [bQ,F5,↓reduceIte];refine P0 (new no _ (ep+1) t2 _ (gP ..) l2 (by omega) ?_ ld (L6 _ ho rfl) (O5 ..));rw [z0];have s2:=l2.size;rw [G5,D1,z0] at s2;have: ¬ (t2.fill*5>=t2.mask*3):=by simpa [KW] using tf
   have f2:t2.fill=es.size+1:=by unfold u5;rw [l2.dum,s2];rfl
   omega
  cases hp:(t.put j).1.plain
  ·simp only [F5,↓reduceIte];refine wpAny_bind (P0 ?_);simp only [↓reduceIte];exact rest (t.put j).1 l1 rfl rfl
  ·simp only [↓reduceIte];refine wpAny_bind (byv _ ?_);cases bv
   ·simp only [F5,↓reduceIte];exact rest _ (l1.plain false) rfl rfl
   ·simp only [↓reduceIte];exact rest (t.put j).1 l1 rfl rfl
 ·exact P0 (there i y e ek)
end L2
namespace L2
open PySem PySem.Spec PyProof.Rows HT
def Dg (h h':O6):Prop:= ∀ (b:P3) (o:Obj),o.cls= .type "tuple" ->h.get? b=some o->h'.get? b=some o
theorem wW {α β:Type}{M:pU}{A:N6}{E:G1->G3->Prop}{s:G3}{f:α->β->Sem (fV β)}{r:β}{Q:β->G3->Prop}: ∀ (l:G0 α),(∀x∈l,∀Q':fV β->G3->Prop,Q' (.yield r) s->R3 M A (f x r) Q' E s)->Q r s->R3 M A (forIn l r f) Q E s
 | [],_,q=>P0 q
 |x::l,h,q=>by
  rw [cC];exact wpAny_bind (h x (.head _) _ (wW l (λy hy=>h y (.tail _ hy)) q))
structure MemK (prog:T3)(w:B9)(K:Type)[DecidableEq K] where
 is:O6->K->P3->Prop
 hash:K->P2
 inj: ∀ {h:O6} {x y:K} {a:P3},is h x a->is h y a->x=y
 keep: ∀ {h h':O6} {x:K} {a:P3},Dg h h'->is h x a->is h' x a
 hashed: ∀ {A:N6} {E:G1->G3->Prop} {s:G3} {x:K} {a:P3} {Q:P2->G3->Prop},A.units+8<cLine->is s.heap x a->(∀tk,Q (hash x) {s with toks:=tk})->R3 (R7 prog w) A (pyHash (.ref a)) Q E s
 same: ∀ {A:N6} {E:G1->G3->Prop} {s:G3} {x y:K} {a b:P3} {Q:N0->G3->Prop},A.units+8<cLine->is s.heap x a->is s.heap y b->Q (decide (x=y)) s->R3 (R7 prog w) A (eqBool (.ref a) (.ref b)) Q E s
 quiet: ∀ {A:N6} {E:G1->G3->Prop} {s:G3} {x:K} {a:P3} {Q:N0->G3->Prop},is s.heap x a->Q true s->R3 (R7 prog w) A (oV 8 (.ref a)) Q E s
 cls: ∀ {A:N6} {E:G1->G3->Prop} {s:G3} {x:K} {a:P3} {Q:N0->G3->Prop},is s.heap x a->Q false s->R3 (R7 prog w) A (Z5 8 (.ref a)) Q E s
 byv: ∀ {A:N6} {E:G1->G3->Prop} {s:G3} {x:K} {a:P3} {Q:N0->G3->Prop},is s.heap x a->Q true s->R3 (R7 prog w) A (f7 8 (.ref a)) Q E s
section
variable {prog:T3}{w:B9}{A:N6}{E:G1->G3->Prop}{s:G3}{K:Type}[DecidableEq K]
theorem CZ (M:MemK prog w K){x:K}{a:P3}{IZ:G0 G1}{Q:N0->G3->Prop}(hx:M.is s.heap x a)(hs: ∀y∈IZ,∃k b,y= .ref b/\M.is s.heap k b)(q:Q false s):R3 (R7 prog w) A (cR (.ref a) IZ) Q E s:=by
 unfold cR;refine wpAny_bind (wW IZ (λy hy Q' q'=> ?_) (P0 q));obtain⟨k,b,rfl,hk⟩:=hs y hy
 by_cases c:(a==b)=true
 ·simp only [c,Bool.true_or,↓reduceIte];exact P0 q'
 ·simp only [c,show uA (.ref a)=false from rfl,nP,o9,F5,↓reduceIte];refine wpAny_bind (M.quiet hx (wpAny_bind (M.quiet hk (wpAny_bind (M.cls hx (wpAny_bind (M.cls hk ?_)))))));exact P0 q'
structure SetT (M:MemK prog w K)(L:N0)(is:K->P3->Prop)(f:P2×G1->K)(es:S9 (P2×G1))(t:N2)(ks:G0 K):Prop where
 laid:Laid t (es.toList.map (·.1))
 led:t.led=L
 lean:es.size*5<t.mask*3
 mask:t.mask<=8*es.size+16
 each: ∀e∈es.toList,e.1=M.hash (f e)/\ ∃b,e.2= .ref b/\is (f e) b
 nd:(es.toList.map f).Nodup
 mem: ∀k,k∈es.toList.map f↔k∈ks
theorem vI: ∀ {xs ys:G0 K},xs.Nodup->(∀x∈xs,x∈ys)->xs.length<=ys.length
 | [],_,_,_=>N9 _
 |x::xs,ys,nd,h=>by
  obtain⟨n1,n2⟩:=E8.mp nd;have le:=vI (ys:=ys.erase x) n2 λy hy=>(cW (λ(e:y=x)=>n1 (by rw [<-e];exact hy))).mpr (h y (.tail _ hy))
  rw [bL (h x (.head _))] at le;have pos:=b8 (h x (.head _));rw [D9];omega
theorem SetT.tab {M:MemK prog w K}{L:N0}{is:K->P3->Prop}{f:P2×G1->K}{es:S9 (P2×G1)}{t:N2}{ks:G0 K}(S:SetT M L is f es t ks):Tab L es.size t:=
 ⟨S.laid.fits (by rw [G5,D1]),S.led,S.laid.dum,λ_=>S.laid.rise⟩
theorem SetT.imp {M:MemK prog w K}{L:N0}{is is':K->P3->Prop}{f:P2×G1->K}{es:S9 (P2×G1)}{t:N2}{ks:G0 K}(S:SetT M L is f es t ks)(h: ∀k b,is k b->is' k b):SetT M L is' f es t ks:=
 ⟨S.laid,S.led,S.lean,S.mask,λe he=>by
  obtain⟨a,b,c,d⟩:=S.each e he;exact⟨a,b,c,h _ _ d⟩,S.nd,S.mem⟩
theorem Dh {M:MemK prog w K}{L:N0}{is:K->P3->Prop}{f:P2×G1->K}{es:S9 (P2×G1)}{ep:G6}{t:N2}{ks:G0 K}{a b:P3}{k:K}{Q:N0->G3->Prop}(hu:A.units+8<cLine)(S:SetT M L is f es t ks)(ho:s.heap.get? a=some (wQ es ep t))(few:es.size<1000)(to: ∀k b,is k b->M.is s.heap k b)(hk:is k b)
 (q: ∀r f' es' ep' t' h' tk,SetT M L is f' es' t' (k::ks)->h'.get? a=some (wQ es' ep' t')->O7 a s.heap h'->Q r {s with heap:=h',toks:=tk}):R3 (R7 prog w) A (setAdd a (.ref b)) Q E s:=by
 refine O1 (wpAny_bind (M.hashed hu (to _ _ hk) λtk=>O1 ?_));show R3 _ _ (oI a (.ref b) (M.hash k) (99999+1)) _ _ _;have at_: ∀ (i:G6) (y:G1),es[i]? =some (M.hash k,y)->(M.hash k,y)∈es.toList:=λi y e=>by
  rw [<-N5] at e;exact P8 e
 refine CY (s:= {s with toks:=tk}) (eqk:=λi=>match es[i]? with
  |some e=>decide (f e=k)
  |none=>false) (bv:=true) S.laid (S0 S.mask (by omega)) S.lean ho (λi y e=> ?_) (λQ' q'=> ?_) (λi y e Q' q'=> ?_) (λQ' q'=>M.byv (to _ _ hk) q') (λno es' ep' t' h' pe l' mk ln ld o' sb=> ?_) (λi y e ek=> ?_)
 ·obtain⟨_,c,d,_⟩:=S.each _ (at_ i y e);exact⟨c,d⟩
 ·refine CZ M (to _ _ hk) (λy hy=> ?_) q';obtain⟨e,he,rfl⟩:=R6.mp hy;obtain⟨_,c,d,i⟩:=S.each e (by rw [Array.toList_filter] at he;exact(C1.mp he).1);exact⟨_,c,d,to _ _ i⟩
 ·obtain⟨_,c,d,i'⟩:=S.each _ (at_ i y e);have d:y= .ref c:=d;subst d;simp only [e] at q';exact O1 (M.same hu (to _ _ i') (to _ _ hk) q')
 ·have kn:k ∉ ks:=λz=>by
   obtain⟨e,he,fe⟩:=R6.mp ((S.mem k).mpr z);obtain⟨i,hi⟩:=bF he;obtain⟨e1,e2⟩:=e;have h1:=(S.each _ he).1;rw [fe] at h1;have h1:e1=M.hash k:=h1;subst h1;have hi:es[i]? =some (M.hash k,e2):=by rw [<-N5];exact hi
   have:=no i e2 hi;simp only [hi,fe,y9] at this;cases this
  have same: ∀e∈es.toList,(if e=(M.hash k,.ref b) then k else f e)=f e:=λe he=>by
   by_cases c:e=(M.hash k,.ref b)
   ·rw [R8 c];obtain⟨_,c',d,i⟩:=S.each e he;rw [c] at d;cases d;exact M.inj (to _ _ hk) (to _ _ i)
   ·rw [R9 c]
  have me:(es.toList.map λe=>if e=(M.hash k,.ref b) then k else f e)=es.toList.map f:=B8 same;have pk:=pe.map λe=>if e=(M.hash k,.ref b) then k else f e
  rw [Q8,T9,me] at pk;have one:(qR (λe=>if e=(M.hash k,.ref b) then k else f e) [(M.hash k,.ref b)])= [k]:=by simp
  rw [one] at pk;have sz:es'.size=es.size+1:=by
   have:=pe.length_eq
   rwa [D1,D1,sN] at this
  refine q true (λe=>if e=(M.hash k,.ref b) then k else f e) es' ep' t' h' tk ⟨l',ld.trans S.led,ln,?_,λe he=> ?_,pk.nodup_iff.mpr ?_,λm=>pk.mem_iff.trans ?_⟩ o' sb
  ·have:=S.mask;rw [sz];omega
  ·have z:=pe.mem_iff.mp he;rw [Q8] at z;rcases D8.mp z with z|z
   ·rw [same e z];exact S.each e z
   ·have z:=G8.mp z;subst z;rw [R8 rfl];exact⟨rfl,b,rfl,hk⟩
  ·rw [W3];refine⟨S.nd,by simp,λx hx y hy e=> ?_⟩;have:y=k:=by simpa using hy
   subst this;subst e;exact kn ((S.mem _).mp hx)
  ·rw [D8,S.mem m,G8,R5,or_comm]
 ·have hin:k∈ks:=by
   simp only [e,Z4] at ek;rw [<-ek];exact(S.mem _).mp (bO (at_ i y e))
  refine q false f es ep t s.heap tk ⟨S.laid,S.led,S.lean,S.mask,S.each,S.nd,λm=>(S.mem m).trans ?_⟩ ho (bE _ _)
  ·rw [R5];exact⟨.inr,λz=>z.elim (λe=>e ▸ hin) id⟩
end
section
variable {prog:T3}{w:B9}{A:N6}{E:G1->G3->Prop}{s:G3}
theorem Fa (n:G6){v:G1}(h:uA v=true):Z5 n v=pure false:=by
 cases v<;>first|(cases h;done)|simp [Z5]
theorem NS {n:P2}{v:G1}(h:(intKind prog w).is n v=true): ∃tk,v= .int n tk:=by
 cases v<;>simp [intKind,rO] at h;exact⟨_,by rw [h]⟩
theorem QB {ks:G0 P2}{vs:G0 G1}(h:ItemsAre (intKind prog w) ks vs): ∀v∈vs,∃n tk,v= .int n tk:=by
 induction h with
 |nil=>exact λv hv=>absurd hv C9
 |cons h1 _ ih=>
  intro v hv;rcases R5.mp hv with rfl|hv
  ·obtain⟨tk,e⟩:=NS h1;exact⟨_,tk,e⟩
  ·exact ih v hv
theorem Di (d:G6){x:G0 P2}{a:P3}{Q:N0->G3->Prop}:kH (intKind prog w) s.heap x a->Q false s->R3 (R7 prog w) A (Z5 (d+1) (.ref a)) Q E s
 |⟨_,_,_,ho,hc,hd,hi⟩,q=>by
  unfold Z5;refine wpAny_bind (iN (T:= "tuple") ⟨_,ho,hc⟩ ?_);simp only [aL,↓reduceIte,pure_bind,iD,F5];refine wpAny_bind (dA ho hd (wpAny_bind ?_));simp only [<-U8];refine wW _ (λv hv Q' q'=> ?_) (P0 q);rw [Fa d (hi.byValue v hv)];exact P0 q'
theorem Fb (d:G6)(m:P2)(tk:Tok):f7 d (.int m tk)=pure true:=by cases d<;>rfl
theorem Dj (d:G6){x:G0 P2}{a:P3}{Q:N0->G3->Prop}:kH (intKind prog w) s.heap x a->Q true s->R3 (R7 prog w) A (f7 (d+1) (.ref a)) Q E s
 |⟨_,_,_,ho,hc,hd,hi⟩,q=>by
  unfold f7;refine wpAny_bind (X0 (T:= "tuple") ⟨_,ho,hc⟩ F.slot_tuple_hash.lookup ?_);refine wpAny_bind (dA ho hd (wpAny_bind ?_));simp only [bS,<-U8];refine wW _ (λv hv Q' q'=> ?_) (P0 q);obtain⟨m,tk,rfl⟩:=QB hi v hv;rw [Fb];exact P0 q'
def Kq (prog:T3)(w:B9):MemK prog w (G0 P2) where
 is:=λh x a=>kH (intKind prog w) h x a
 hash:=W4 (intKind prog w)
 inj:=λhx hy=>hx.inj hy
 keep:=λk ⟨o,items,n,ho,hc,hd,hi⟩=>⟨o,items,n,k _ o hc ho,hc,hd,hi⟩
 hashed:=λhu hk q=>kI (by omega) hk (q _)
 same:=λhu hx hy q=>pP (by omega) hx hy q
 quiet:=λhk q=>wpAny_eqIsQuiet_tuple hk q
 cls:=λhk q=>Di 7 hk q
 byv:=λhk q=>Dj 7 hk q
end
end L2
namespace L2
open PySem PySem.Spec PyProof.Rows HT PySem.SeqAt
section
variable {prog:T3}{w:B9}{A:N6}{E:G1->G3->Prop}{a I:P3}{fp wr:G0 P3}{n:G6}{P:G6->G1->Prop}{St:G6->O6->Prop}{K:Type}[DecidableEq K]{M:MemK prog w K}{L:N0}{is:K->P3->Prop}{key:G6->K}
theorem Je {R:pI->G3->Prop}(hu:A.units+16<cLine)(W:Walks prog w A.in1 I fp wr n P St)(num: ∀i v,P i v-> ∃b,v= .ref b/\is (key i) b)(na:a ∉ fp)(B:G0 K)(few:B.length<1000)(inB: ∀i,i<n->key i∈B)(nt: ∀i h,St i h-> ∀b∈wr,∀o,h.get? b=some o->o.cls≠ .type "tuple"):
 ∀ (k i:G6) (s:G3) (f:P2×G1->K) (es:S9 (P2×G1)) (ep:G6) (t:N2),i+k=n->St i s.heap->s.heap.get? a=some (wQ es ep t)->(∀k b,is k b->M.is s.heap k b)->SetT M L is f es t ((D4 i).map key).reverse->
  (∀h' tk f' es' ep' t',h'.get? a=some (wQ es' ep' t')->SetT M L is f' es' t' ((D4 n).map key).reverse->(∀b o,b≠a->b ∉ wr->s.heap.get? b=some o->h'.get? b=some o)->R (.ok (.ret .none)) {s with heap:=h',toks:=tk})->
  aZ (R7 prog w) A (.builtin "set.update.loop" ⟨[.ref a,.ref I],[]⟩) R s
 |0,i,s,f,es,ep,t,hk,st,ha,to,S,q=>by
  obtain rfl:i=n:=by omega
  refine aC Vf ?_;rw [Y5 Zp];exact wpAny_bind (W.done s _ _ st λh' tk kept=>P0 (q h' tk f es ep t (kept _ _ (λz=>na (W.sub _ z)) ha) S λb o _ nb e=>kept b o nb e))
 |k+1,i,s,f,es,ep,t,hk,st,ha,to,S,q=>by
  refine aC Vf ?_;rw [Y5 Zp];refine wpAny_bind (W.item i s _ _ (by omega) st λv h1 tk1 pv st1 kept1=> ?_);obtain⟨b,rfl,hb⟩:=num i v pv;have ha1:=kept1 _ _ (λz=>na (W.sub _ z)) ha;have to1: ∀k b,is k b->M.is h1 k b:=λk b z=>M.keep (λc o hc e=>kept1 c o (λm=>nt i _ st c m o e hc) e) (to k b z)
  refine wpAny_bind (O1 (Dh (s:= {s with heap:=h1,toks:=tk1}) (show A.units+1+8<cLine by omega) S ha1 (X6 (by
   have:=vI (ys:=B) S.nd λk hk=>by
    obtain⟨j,hj,rfl⟩:=R6.mp (A5.mp ((S.mem k).mp hk));exact inB j (by have:=D0.mp hj;omega)
   rwa [G5,D1] at this) few) to1 hb λr f2 es2 ep2 t2 h2 tk2 S2 ha2 same2=>P0 ⟨iC Zp _,?_⟩))
  have S3:SetT M L is f2 es2 t2 ((D4 (i+1)).map key).reverse:=by
   rw [m7,T9,List.reverse_append];exact S2
  have kep: ∀c o,o.cls= .type "tuple" ->h1.get? c=some o->h2.get? c=some o:=λc o hc e=>same2.extBut _ _ (λz=>by
   subst z;rw [show h1.get? c=some (wQ es ep t) from ha1] at e;cases e;exact absurd (show pF "set" =pF "tuple" from hc) (by decide)) e
  refine Je hu W num na B few inB nt k (i+1) {s with heap:=h2,toks:=tk2} f2 es2 ep2 t2 (by omega) (W.frame _ _ _ st1 λb hb o e=>same2.extBut _ _ (λz=>na (z ▸ hb)) e) ha2 (λk b z=>M.keep kep (to1 k b z)) S3 λh' tk' f' es' ep' t' ha' S' kept'=> ?_
  exact q h' tk' f' es' ep' t' ha' S' λb o ba bw e=>kept' b o ba bw (same2.extBut _ _ ba (kept1 b o bw e))
theorem XC (L:N0)(f:P2×G1->K):SetT M L is f #[] (.fresh 0 0 L) []:=⟨Qx 0 0 L,rfl,(by show 0*5<7*3;decide),(by show 7<=8*0+16;decide),λe he=>absurd he (by simp),by simp,λk=>by simp⟩
variable {s:G3}
theorem Dk {l:P3}{vs:G0 G1}{ep:G6}{T:V1}{Q:D2 G1->G3->Prop}(B:G0 K)(fewB:B.length<1000)(inB: ∀i,i<vs.length->key i∈B)(hu:A.units+32<cLine)(calm:A.handled=none)(hT:T= "list" \/T= "tuple")
 (hl: ∃o,s.heap.get? l=some o/\o.cls= .type T/\ ∃c,o.data= .seq vs.toArray c)(hM: ∀i v,vs[i]? =some v-> ∃b,v= .ref b/\is (key i) b)(to: ∀k b,is k b->M.is s.heap k b)(ha:s.heap.get? a=some (wQ #[] ep (.fresh 0 0 (wq w))))(la:l≠a)
 (k: ∀h' tk f' es' ep' t',h'.get? a=some (wQ es' ep' t')->SetT M (wq w) is f' es' t' ((D4 vs.length).map key).reverse->(∀b o,b≠a->s.heap.get? b=some o->h'.get? b=some o)->Q (some .none) {s with heap:=h',toks:=tk}):
 R3 (R7 prog w) A (qE (.ref a) "__init__" [.ref l]) Q E s:=by
 have ty:s.TypeIs (.ref a) "set" :=⟨_,ha,rfl⟩;refine E9 ty F.called_set.init (pJ (oJ F.called_set.init.plain ZO (WV ty ?_)));have f1:=Vg;have f2:=Vh;have f3:=Uo;have f4:=Up;obtain⟨⟨oc,od,odt,osl⟩,hol,hc,c,hd⟩:=hl;simp only at hc hd;subst hc hd;have state:=λ{P:S9 (P2×G1)×G6×N2->G3->Prop} {E':G1->G3->Prop} {A':N6}=>A9 (prog:=prog) (w:=w) (A:=A') (E:=E') (Q:=P) (s:=s) ha rfl (Mn (wq w)).tab.fits
 have far:a≠s.heap.objs.size:=λz=>B7 _ (z ▸ R0 ha)
 have lfar:l≠s.heap.objs.size:=λz=>B7 _ (z ▸ R0 hol)
 have na:a ∉ [s.heap.objs.size,l]:=by simp [far,la.symm]
 have sv:vs.toArray.size=vs.length:=R4 ..;have fin: ∀ {o:Obj} h' tk f' es' ep' t',h'.get? a=some (wQ es' ep' t')->SetT M (wq w) is f' es' t' ((D4 vs.toArray.size).map key).reverse->(∀b ob,b≠a->b ∉ [s.heap.objs.size]->(s.heap.push o).get? b=some ob->h'.get? b=some ob)->Q (some .none) {s with heap:=h',toks:=tk}:=λh' tk f' es' ep' t' e S kept=>by
  rw [sv] at S;exact k h' tk f' es' ep' t' e S λb ob nb q=>kept b ob nb (λz=>B7 _ (G8.mp z ▸ R0 q)) (G9 _ q)
 have to1: ∀ (o:Obj) (k:K) (b:P3),is k b->M.is (s.heap.push o) k b:=λo k b z=>M.keep (λc ob hc e=>G9 _ e) (to k b z)
 rcases hT with rfl|rfl
 ·have tl:s.TypeIs (.ref l) "list" :=⟨_,hol,rfl⟩;have isl:s.heap.IsList l vs.toArray:=⟨_,hol,rfl,c,rfl⟩
  wp_walk using state,Z0 isl
  refine Je (f:=λ_=>key 0) (M:=M) (is:=is) (key:=key) (show A.units+1+16<cLine by omega) (mO (prog:=prog) (w:=w) (A:=A.in1.in1) calm s.heap.objs.size l lfar vs.toArray) (λi v hv=>hM i v (by simpa using hv)) na B fewB (by rw [sv];exact inB) (λi h st b hb o e=> ?_) vs.toArray.size 0 _ #[] ep _ (A8 _) ⟨⟨_,S5 _ rfl,rfl,rfl⟩,⟨_,G9 _ hol,rfl,c,rfl⟩⟩ (G9 _ ha) (to1 _) (XC _ _) λh' tk f' es' ep' t' e S kept=>P0 (P0 (fin h' tk f' es' ep' t' e S kept))
  obtain⟨⟨o',e',c',_⟩,_⟩:=st;rw [G8.mp hb,e'] at e;cases e;rw [c'];decide
 ·have tl:s.TypeIs (.ref l) "tuple" :=⟨_,hol,rfl⟩;have isl:s.heap.IsTuple l vs.toArray:=⟨_,hol,rfl,c,rfl⟩
  wp_walk using state,i7 isl
  refine Je (f:=λ_=>key 0) (M:=M) (is:=is) (key:=key) (show A.units+1+16<cLine by omega) (xY (prog:=prog) (w:=w) (A:=A.in1.in1) calm s.heap.objs.size l lfar vs.toArray) (λi v hv=>hM i v (by simpa using hv)) na B fewB (by rw [sv];exact inB) (λi h st b hb o e=> ?_) vs.toArray.size 0 _ #[] ep _ (A8 _) ⟨⟨_,S5 _ rfl,rfl,rfl⟩,⟨_,G9 _ hol,rfl,c,rfl⟩⟩ (G9 _ ha) (to1 _) (XC _ _) λh' tk f' es' ep' t' e S kept=>P0 (P0 (fin h' tk f' es' ep' t' e S kept))
  obtain⟨⟨o',e',c',_⟩,_⟩:=st;rw [G8.mp hb,e'] at e;cases e;rw [c'];decide
theorem Dl {l:P3}{vs:G0 G1}{T:V1}{Q:G1->G3->Prop}(B:G0 K)(fewB:B.length<1000)(inB: ∀i,i<vs.length->key i∈B)(hu:A.units+40<cLine)(calm:A.handled=none)(hT:T= "list" \/T= "tuple")
 (hl: ∃o,s.heap.get? l=some o/\o.cls= .type T/\ ∃c,o.data= .seq vs.toArray c)(hM: ∀i v,vs[i]? =some v-> ∃b,v= .ref b/\is (key i) b)(to: ∀k b,is k b->M.is s.heap k b)
 (k: ∀h' tk f' es' ep' t',h'.get? s.heap.objs.size=some (wQ es' ep' t')->SetT M (wq w) is f' es' t' ((D4 vs.length).map key).reverse->(∀b o,s.heap.get? b=some o->h'.get? b=some o)->Q (.ref s.heap.objs.size) {s with heap:=h',toks:=tk}):
 R3 (R7 prog w) A (call (.type "set") [.ref l]) Q E s:=by
 have fits:uR "set" ⟨[.ref l],[]⟩=pure ():=by kernel_rfl
 have newFits:mB "set.__new__" ⟨[.type "set",.ref l],[]⟩=pure ():=by kernel_rfl
 obtain⟨o,hol,r⟩:=hl;refine L2.Ui (Made:=λv s₁=>v= .ref s.heap.objs.size/\s₁= {s with heap:=s.heap.push (wQ #[] 0 (.fresh 0 0 (wq w)))}) F.called_set fits
  (pJ (oJ F.called_set.plain F.entry_set_new (xV newFits (Mo ⟨rfl,rfl⟩)))) λv s₁ ⟨ev,es⟩=> ?_
 subst ev es;have at_:(s.heap.push (wQ #[] 0 (.fresh 0 0 (wq w)))).get? s.heap.objs.size=some (wQ #[] 0 (.fresh 0 0 (wq w))):=S5 _ rfl;refine⟨⟨_,at_,rfl⟩,Dk (s:= {s with heap:=s.heap.push (wQ #[] 0 (.fresh 0 0 (wq w)))}) (M:=M) (is:=is) (key:=key) B fewB inB (show A.units+1+32<cLine by omega) calm hT ⟨o,G9 _ hol,r⟩ hM (λk b z=>M.keep (λc o hc e=>G9 _ e) (to k b z)) at_ (λz=>B7 _ (z ▸ R0 hol)) λh' tk f' es' ep' t' e S kept=>⟨rfl,k h' tk f' es' ep' t' e S λb ob q=>kept b ob (λz=>B7 _ (z ▸ R0 q)) (G9 _ q)⟩⟩
theorem Uy {es:S9 (P2×G1)}{ep:G6}{t:N2}{κ:G0 G1->SortKind}{U:D7->Prop}{R:D7->D7->N0}{Q:G1->G3->Prop}(calm:A.handled=none)(S:Tab (wq w) es.size t)(ha:s.heap.get? a=some (wQ es ep t))(few:es.size<1000)(x: ∀e∈es.toList,U (e.2,e.2))
 (hk: ∀ (vs:G0 G1) (s0:G3) (h':O6),2<=vs.length->(∀v∈vs,U (v,v))->Vl s.heap h'->R3 (R7 prog w) A.in1.in1 (tX vs.toArray) (λk s'=>k=κ vs/\HT.Only s0 h' s') (λ_ _=>False) {s0 with heap:=h'})(ak: ∀ (vs:G0 G1) (s0:G3) (h':O6),Vl s.heap h'->WY prog w A.in1.in1 (HT.Only s0 h') (κ vs) U R)(o:Ordd U R)
 (k: ∀ (h1 h':O6) d (tk c:G6) (out:G0 G1),Vl s.heap h1->Vl h1 h'->h'.get? h1.objs.size=some (mS "list" out.toArray c)->out.Perm (es.toList.map (·.2))->out.Pairwise (λx y=>R (y,y) (x,x)=false)->
  Q (.ref h1.objs.size) {s with heap:=h',drawn:=d,toks:=tk}):R3 (R7 prog w) A (call (.builtin "sorted") [.ref a]) Q E s:=by
 refine Calls.call_function_entry kind_sorted plain_sorted entry_sorted (args_sorted1 _) (wpAny_bind (P0 (wpAny_bind (wpAny_bind (uB (mG (Qu calm S ha few) λres s' listed=> ?_))))));obtain⟨h1,d,tk,acc,c0,rfl,rfl,made,kept,p⟩:=listed;refine wpAny_bind (IH made (P0 ?_));have len:acc.toList.length=es.size:=by rw [p.length_eq,G5,D1]
 have hz:acc.toList.length<=sizeLine:=by rw [len];exact S0 (M0 few) (by decide)
 have fresh:(h1.push (mS "list" acc.toList.toArray 0)).get? h1.objs.size=some (mS "list" acc.toList.toArray 0):=S5 _ rfl;have kp: ∀h',FZ {s with heap:=h1.push (mS "list" acc.toList.toArray 0),drawn:=d,toks:=tk} h1.objs.size h'->Vl h1 h':=λh' p b x e=>p b x (M1 (R0 e)) (G9 _ e)
 have ks: ∀h',FZ {s with heap:=h1.push (mS "list" acc.toList.toArray 0),drawn:=d,toks:=tk} h1.objs.size h'->Vl s.heap h':=λh' p b x e=>kp h' p b x (kept b x e)
 have it: ∀v∈acc.toList,U (v,v):=λv hv=>by
  obtain⟨e,he,rfl⟩:=R6.mp (p.mem_iff.mp hv);exact x e he
 refine wpAny_bind (uW (wpAny_bind (O1 (L9 slot_list_sort ⟨_,fresh,rfl⟩ entry_list_sort (MD (s:= {s with heap:=h1.push (mS "list" acc.toList.toArray 0),drawn:=d,toks:=tk}) (κ:=κ acc.toList) (U:=U) (R:=R) fresh hz
  (λh2 h' p=>hk _ _ h' h2 it (ks h' p)) (λh' p=>ak _ _ h' (ks h' p)) o it λout c tk' h' p' e1 e2 e3=>⟨_,rfl,?_⟩) (args_list_sort _)))) hz)
 refine P0 ⟨_,rfl,k h1 h' d tk' c out kept (kp h' p') e1 (e2.trans p) ?_⟩;rw [W0] at e3;exact e3
end
theorem Wo {prog:T3}{w:B9}: ∀ {vs:G0 G1} {ns:G0 P2},iO vs ns->ItemsAre (intKind prog w) ns vs
 |_,_,.nil=> .nil
 |_,_,.cons n t a=> .cons (by simp [intKind,rO]) (Wo a)
theorem AB {X:Cx}{pins:G0 (P3×Obj)}{σ:St}{H:Hp}{s:G3}(I:Inv X pins σ H s)(k:G0 P2)(b:P3)(h:H b=some (.tup (k.map V.int))):(Kq X.prog X.w).is s.heap k b:=by
 obtain⟨_,us,r2,o,e,c,_,n,d⟩:=I.hok b _ h;exact⟨o,us.toArray,n,e,c,d,Wo (YX r2)⟩
end L2
namespace L2
open PySem PySem.Spec PyProof.Rows PySem.SeqAt HT
theorem NT {α:Type}{R:α->α->Prop}(no: ∀x y,R x y-> ¬R y x): ∀ {xs ys:G0 α},xs.Pairwise R->ys.Pairwise R->(∀a,a∈xs↔a∈ys)->xs=ys
 | [],[],_,_,_=>rfl
 | [],y::ys,_,_,m=>absurd ((m y).mpr P4) C9
 |x::xs,[],_,_,m=>absurd ((m x).mp P4) C9
 |x::xs,y::ys,px,py,m=>by
  obtain⟨p1,p2⟩:=X7.mp px;obtain⟨q1,q2⟩:=X7.mp py;have e:x=y:=by
   rcases R5.mp ((m x).mp P4) with e|e
   ·exact e
   rcases R5.mp ((m y).mpr P4) with e'|e'
   ·exact e'.symm
   exact absurd (p1 y e') (no _ _ (q1 x e))
  subst e;rw [NT no p2 q2 λa=>⟨λh=> ?_,λh=> ?_⟩]
  ·rcases R5.mp ((m a).mp (R1 _ h)) with e|e
   ·subst e;exact absurd (p1 _ h) (no _ _ (p1 _ h))
   ·exact e
  ·rcases R5.mp ((m a).mpr (R1 _ h)) with e|e
   ·subst e;exact absurd (q1 _ h) (no _ _ (q1 _ h))
   ·exact e
def pcS (T:G0 (G0 P2))(n p:G6):G0 G6:=(D4 n).filter λj=>wk T n p j&&wk T n j p
def La (T:G0 (G0 P2))(n:G6):G0 (G0 G6):=((D4 n).filter λp=>decide ((pcS T n p).headD 0=p)).map (pcS T n)
section
variable {T:G0 (G0 P2)}{n e:G6}
theorem AC (p:G6):IsS n (pcS T n p):=⟨_,rfl⟩
variable {p:G6}
theorem mem_pc {j:G6}:j∈pcS T n p↔j<n/\wk T n p j=true/\wk T n j p=true:=by
 unfold pcS;rw [C1,D0,C6]
theorem Dm (hp:p<n):p∈pcS T n p:=mem_pc.mpr ⟨hp,Ur T n p,Ur T n p⟩
theorem Fc {q:G6}(hp:p<n)(h:q∈pcS T n p):pcS T n q=pcS T n p:=by
 obtain⟨hq,h1,h2⟩:=mem_pc.mp h;refine(AC q).ext (AC p) λj=> ?_
 rw [mem_pc,mem_pc];exact⟨λ⟨a,b,c⟩=>⟨a,wz hq h1 b,wz hq c h2⟩,λ⟨a,b,c⟩=>⟨a,wz hp h2 b,wz hp c h1⟩⟩
theorem Fd (hp:p<n): ∃r,pcS T n p=(pcS T n p).headD 0::r:=by
 cases h:pcS T n p with
 |nil=>have:=Dm (T:=T) hp;rw [h] at this;cases this
 |cons x r=>exact⟨r,rfl⟩
theorem Fe (hp:p<n):(pcS T n p).headD 0<n/\pcS T n ((pcS T n p).headD 0)=pcS T n p:=by
 obtain⟨r,h⟩:=Fd (T:=T) hp;have m:(pcS T n p).headD 0∈pcS T n p:=by
  generalize (pcS T n p).headD 0=x at h;rw [h];exact P4
 exact⟨(mem_pc.mp m).1,Fc hp m⟩
theorem mem_pcs {S:G0 G6}:S∈La T n↔ ∃p,p<n/\S=pcS T n p:=by
 unfold La;rw [R6];constructor
 ·rintro ⟨p,hp,rfl⟩;exact⟨p,D0.mp (C1.mp hp).1,rfl⟩
 ·rintro ⟨p,hp,rfl⟩;obtain⟨a,b⟩:=Fe (T:=T) hp;exact⟨(pcS T n p).headD 0,C1.mpr ⟨D0.mpr a,S7 (by rw [b])⟩,b⟩
end
end L2
namespace L2
open PySem PySem.Spec PyProof.Rows HT PySem.SeqAt
section
variable {prog:T3}{w:B9}{A:N6}{E:G1->G3->Prop}{s:G3}
inductive RowsIn (prog:T3)(w:B9)(h:O6):G0 (G0 P2)->G0 G1->Prop
 |nil:RowsIn prog w h [] []
 |cons {r:G0 P2} {b:P3} {T:G0 (G0 P2)} {vs:G0 G1}:kH (intKind prog w) h r b->RowsIn prog w h T vs->RowsIn prog w h (r::T) (.ref b::vs)
variable {h:O6}
theorem RowsIn.one: ∀ {T U:G0 (G0 P2)} {vs:G0 G1},RowsIn prog w h T vs->RowsIn prog w h U vs->T=U
 |_,_,_,.nil,.nil=>rfl
 |_,_,_,.cons a x,.cons b y=>by rw [a.inj b,x.one y]
theorem RowsIn.keep {h':O6}(k:Dg h h'): ∀ {T:G0 (G0 P2)} {vs:G0 G1},RowsIn prog w h T vs->RowsIn prog w h' T vs
 |_,_,.nil=> .nil
 |_,_,.cons ⟨o,items,n,ho,hc,hd,hi⟩ x=> .cons ⟨o,items,n,k _ o hc ho,hc,hd,hi⟩ (x.keep k)
theorem RowsIn.each: ∀ {T:G0 (G0 P2)} {vs:G0 G1},RowsIn prog w h T vs-> ∀v∈vs,∃r b,v= .ref b/\kH (intKind prog w) h r b
 |_,_,.nil,v,hv=>absurd hv C9
 |_,_,.cons a x,v,hv=>by
  rcases R5.mp hv with e|hv
  ·exact⟨_,_,e,a⟩
  ·exact x.each v hv
def ZQ (prog:T3)(w:B9)(h:O6)(T:G0 (G0 P2))(a:P3):Prop:= ∃o items n,h.get? a=some o/\o.cls= .type "tuple" /\o.data= .seq items n/\RowsIn prog w h T items.toList
def QC (prog:T3)(w:B9)(T:G0 (G0 P2)):P2:=mN (X5 (T.map (W4 (intKind prog w))))
theorem Vq {Q:S9 P2->G3->Prop}(hu:A.units+4<cLine): ∀ {vs:G0 G1} {U:G0 (G0 P2)} (b:S9 P2) (s1:G3),s1.heap=s.heap->RowsIn prog w s.heap U vs->(∀tk,Q (b++(U.map (W4 (intKind prog w))).toArray) {s1 with toks:=tk})->
 R3 (R7 prog w) A (forIn vs b λx r=>do let h <-pyHash x;pure (Z9 (r.push h))) Q E s1
 |_,_,b,s1,_,.nil,q=>P0 (by have:=q s1.toks;simpa using this)
 |_,_,b,s1,e1,.cons (r:=r) (T:=U) a x,q=>by
  rw [cC];refine wpAny_bind (wpAny_bind (kI (by omega) (by rw [e1];exact a) (P0 ?_)));exact Vq hu (b.push (W4 (intKind prog w) r)) _ e1 x λtk=>by
   have:=q tk;rw [T5] at this;simpa using this
variable {T:G0 (G0 P2)}{a:P3}
theorem MN {Q:P2->G3->Prop}(hu:A.units+8<cLine)(hT:ZQ prog w s.heap T a)(q: ∀tk,Q (QC prog w T) {s with toks:=tk}):R3 (R7 prog w) A (pyHash (.ref a)) Q E s:=by
 obtain⟨o,items,n,ho,hc,hd,hi⟩:=hT;have ty:s.TypeIs (.ref a) "tuple" :=⟨o,ho,hc⟩;have room:A.units<cLine:=by omega
 have slot:=λ{M:pU} {A':N6} {E':G1->G3->Prop} {P:D2 G1->G3->Prop}=>X0 (M:=M) (A:=A') (E:=E') (Q:=P) ty F.slot_tuple_hash.lookup
 unfold pyHash pyHashByItsType;refine wpAny_bind (qS (.inr room) (wpAny_bind (slot ?_)));rw [R9 (by simp)];refine wpAny_bind (slot (wpAny_bind (cL ty gQ (L9 gQ ty pQ ?_ (o3 _)))));show R3 _ _ (aN (.ref a) >>= _) _ _ s;refine wpAny_bind (pR ho hd (wpAny_bind ?_));rw [<-U8];refine Vq (A:=A.in1) (show A.units+1+4<cLine by omega) #[] s rfl hi λtk=> ?_
 have told:=q (tk+1);unfold QC mN at told;show R3 _ _ (retInt (X5 ((#[]:S9 P2)++(T.map (W4 (intKind prog w))).toArray).toList)) _ _ _;rw [show ((#[]:S9 P2)++(T.map (W4 (intKind prog w))).toArray).toList=T.map (W4 (intKind prog w)) by simp];refine iJ ?_;show R3 _ _ (bV _) _ _ _;unfold bV;split
 ·rename_i c;rw [R8 c] at told;exact P0 told
 ·rename_i c;rw [R9 c] at told;exact wpAny_bind (g4 (P0 told))
theorem RowsIn.len: ∀ {T:G0 (G0 P2)} {vs:G0 G1},RowsIn prog w h T vs->T.length=vs.length
 |_,_,.nil=>rfl
 |_,_,.cons _ x=>by rw [D9,D9,x.len]
theorem Do (d:G6){x:G0 P2}{a:P3}{Q:N0->G3->Prop}:kH (intKind prog w) s.heap x a->Q true s->R3 (R7 prog w) A (oV (d+1) (.ref a)) Q E s
 |⟨_,_,_,ho,hc,hd,hi⟩,q=>by
  unfold oV;refine wpAny_bind (X0 (T:= "tuple") ⟨_,ho,hc⟩ F.slot_tuple_eq.lookup (wpAny_bind (dG (T:= "tuple") ⟨_,ho,hc⟩ nK ?_)));simp only [iD,F5,↓reduceIte];refine wpAny_bind (dA ho hd (wpAny_bind ?_));simp only [bS,<-U8];refine wW _ (λv hv Q' q'=> ?_) (P0 q);rw [eqIsQuiet_byValue d (hi.byValue v hv)];exact P0 q'
variable {Q:N0->G3->Prop}
theorem Vr:ZQ prog w s.heap T a->Q true s->R3 (R7 prog w) A (oV 8 (.ref a)) Q E s
 |⟨_,_,_,ho,hc,hd,hi⟩,q=>by
  unfold oV;refine wpAny_bind (X0 (T:= "tuple") ⟨_,ho,hc⟩ F.slot_tuple_eq.lookup (wpAny_bind (dG (T:= "tuple") ⟨_,ho,hc⟩ nK ?_)));simp only [iD,F5,↓reduceIte];refine wpAny_bind (dA ho hd (wpAny_bind ?_));simp only [bS,<-U8];refine wW _ (λv hv Q' q'=> ?_) (P0 q);obtain⟨r,b,rfl,hr⟩:=hi.each v hv;exact wpAny_bind (Do 6 hr (P0 q'))
theorem Ff:ZQ prog w s.heap T a->Q false s->R3 (R7 prog w) A (Z5 8 (.ref a)) Q E s
 |⟨_,_,_,ho,hc,hd,hi⟩,q=>by
  unfold Z5;refine wpAny_bind (iN (T:= "tuple") ⟨_,ho,hc⟩ ?_);simp only [aL,↓reduceIte,pure_bind,iD,F5];refine wpAny_bind (dA ho hd (wpAny_bind ?_));simp only [<-U8];refine wW _ (λv hv Q' q'=> ?_) (P0 q);obtain⟨r,b,rfl,hr⟩:=hi.each v hv;exact wpAny_bind (Di 6 hr (P0 q'))
theorem Fg:ZQ prog w s.heap T a->Q true s->R3 (R7 prog w) A (f7 8 (.ref a)) Q E s
 |⟨_,_,_,ho,hc,hd,hi⟩,q=>by
  unfold f7;refine wpAny_bind (X0 (T:= "tuple") ⟨_,ho,hc⟩ F.slot_tuple_hash.lookup (wpAny_bind (dA ho hd (wpAny_bind ?_))));simp only [bS,<-U8];refine wW _ (λv hv Q' q'=> ?_) (P0 q);obtain⟨r,b,rfl,hr⟩:=hi.each v hv;exact wpAny_bind (Dj 6 hr (P0 q'))
theorem yq: ∀ {ks:G0 P2} {vs:G0 G1},ItemsAre (intKind prog w) ks vs->ReadsAll h vs (ks.map j0) []
 |_,_,.nil=> .nil
 |_,_,.cons a x=>by
  obtain⟨tk,rfl⟩:=NS a;exact .cons (as:= []) (bs:= []) (.int _ _) (yq x)
theorem Jf: ∀ {T:G0 (G0 P2)} {vs:G0 G1},RowsIn prog w h T vs->ReadsAll h vs (T.map yw) []
 |_,_,.nil=> .nil
 |_,_,.cons ⟨_,_,_,ho,hc,hd,hi⟩ x=> .cons (as:= []) (bs:= []) (.tuple ho hc hd (yq hi)) (Jf x)
theorem Dp {U:G0 (G0 P2)}{b:P3}(hu:A.units+8<cLine)(hT:ZQ prog w s.heap T a)(hU:ZQ prog w s.heap U b)(q:Q (decide (T=U)) s):R3 (R7 prog w) A (eqBool (.ref a) (.ref b)) Q E s:=by
 obtain⟨_,_,_,ho,hc,hd,hi⟩:=hT;obtain⟨_,_,_,ho',hc',hd',hi'⟩:=hU;have lay: ∀V:G0 (G0 P2),O4 (.tuple (V.map yw))=true:=λV=>by simp only [O4];exact yU V
 have dep:K5 (.tuple (T.map yw))<=4:=by simp only [K5];have:=yo T;omega
 refine eqBoolOverData prog w A E s _ _ _ _ _ _ Q (.tuple ho hc hd (Jf hi)) (.tuple ho' hc' hd' (Jf hi')) (lay T) (lay U) (by have:=sL (K5 (.tuple (T.map yw))) (K5 (.tuple (U.map yw)));omega) ?_;show Q (K0 (T.map yw) (U.map yw)) s;rw [zT];exact q
def Fh (prog:T3)(w:B9):MemK prog w (G0 (G0 P2)) where
 is:=λh T a=>ZQ prog w h T a
 hash:=QC prog w
 inj:=λ⟨_,_,_,ho,_,hd,hi⟩ ⟨_,_,_,ho',_,hd',hi'⟩=>by
  rw [ho] at ho';cases ho';rw [hd] at hd';cases hd';exact hi.one hi'
 keep:=λk ⟨o,items,n,ho,hc,hd,hi⟩=>⟨o,items,n,k _ o hc ho,hc,hd,hi.keep k⟩
 hashed:=λhu hk q=>MN hu hk q
 same:=λhu hx hy q=>Dp hu hx hy q
 quiet:=λhk q=>Vr hk q
 cls:=λhk q=>Ff hk q
 byv:=λhk q=>Fg hk q
end
def Dq (H:Hp):G0 V->G0 (G0 P2)->Prop
 | [],[]=>True
 |v::vs,r::T=>(∃c,v= .ref c/\H c=some (.tup (r.map V.int)))/\Dq H vs T
 |_,_=>False
def Wp (H:Hp)(T:G0 (G0 P2))(b:P3):Prop:= ∃us,H b=some (.tup us)/\Dq H us T
def MO (prog:T3)(w:B9)(H:Hp)(o:Obj)(Ts:G0 (G0 (G0 P2))):Prop:= ∃es ep t f,o=wQ es ep t/\SetT (Fh prog w) (wq w) (Wp H) f es t Ts
variable {H:Hp}
theorem Dr {X:Cx}{pins:G0 (P3×Obj)}{σ:St}{s:G3}(I:Inv X pins σ H s): ∀ {vs:G0 V} {T:G0 (G0 P2)} {us:G0 G1},Dq H vs T->Vals vs us->RowsIn X.prog X.w s.heap T us
 | [],[],_,_,.nil=> .nil
 |_::_,r::_,_,⟨⟨c,e,hc⟩,x⟩,.cons rv y=>by
  subst e;cases rv;exact .cons (AB I r c hc) (Dr I x y)
theorem yG {X:Cx}{pins:G0 (P3×Obj)}{σ:St}{s:G3}(I:Inv X pins σ H s)(T:G0 (G0 P2))(b:P3)(h:Wp H T b):(Fh X.prog X.w).is s.heap T b:=by
 obtain⟨us,hb,x⟩:=h;obtain⟨_,its,rv,o,e,c,_,n,d⟩:=I.hok b _ hb;exact⟨o,its.toArray,n,e,c,d,by rw [List.toList_toArray];exact Dr I x rv⟩
theorem Uz {K:G7}: ∀ {T:G0 (G0 P2)} {vs:G0 V},RelDs K H (T.map zO) vs->Dq H vs T
 | [],vs,r=>by
  have:vs= []:=r;subst this;exact cT
 |row::T,vs,r=>by
  obtain⟨v,us,e,r1,r2⟩:=(show ∃v r,vs=v::r/\RelD K H (zO row) v/\RelDs K H (T.map zO) r from r);obtain⟨a,ws,e4,hH,r4⟩:=(show ∃a vs,v= .ref a/\H a=some (.tup vs)/\RelDs K H (row.map D.int) vs from r1);rw [zm r4] at hH;subst e;exact⟨⟨a,e4,hH⟩,Uz r2⟩
theorem Ds {K:G7}: ∀ {Ts:G0 (G0 (G0 P2))} {vs:G0 V},RelDs K H (Ts.map jp) vs-> ∃ps:G0 (P3×G0 (G0 P2)),vs=ps.map (λp=>V.ref p.1)/\Ts=ps.map (·.2)/\ ∀p∈ps,Wp H p.2 p.1
 | [],vs,r=>⟨[],r,rfl,λp hp=>by cases hp⟩
 |T::Ts,vs,r=>by
  obtain⟨v,us,e,r1,r2⟩:=(show ∃v r,vs=v::r/\RelD K H (jp T) v/\RelDs K H (Ts.map jp) r from r);obtain⟨ps,e1,e2,e3⟩:=Ds r2;obtain⟨a,ws,e4,hH,r4⟩:=(show ∃a vs,v= .ref a/\H a=some (.tup vs)/\RelDs K H (T.map zO) vs from r1);exact⟨(a,T)::ps,by rw [e,e1,e4];rfl,by rw [e2];rfl,λp hp=>by
   rcases R5.mp hp with rfl|hp
   ·exact⟨ws,hH,Uz r4⟩
   ·exact e3 p hp⟩
end L2
namespace L2
open PySem PySem.Spec PyProof.Rows PySem.W
structure DefIn (K:Frag)(x:Str)(st:Q2)(f:P3)(fd:C8):Prop where
 at_:nsIn K J5 x=some (some (.ref f))
 fn:Fun K x x st f fd
variable {K:Frag}{h base:O6}{mg:Str->D2 G1}{x:Str}{st:Q2}{f:P3}{fd:C8}{P:T3}{w:B9}{n:G6}{ps:G0 Str}
theorem AD {oc:G1}{od an:D2 P3}{osl:S9 (D2 G1)}{kV doc pm cdv ct:G1}(a:nsIn K J5 x=some (some (.ref f)))(l:K.lookup f=some ⟨oc,od,.func (fnOf x x (wU st) (zH st) (je st) .none kV doc pm an cdv ct),osl⟩)
 (c:codeIn K cdv x=true)(k:keepIn K (.ref f)=true):DefIn K x st f (fnOf x x (wU st) (zH st) (je st) .none kV doc pm an cdv ct):=⟨a,Oe l c k⟩
abbrev SR (x:Str)(st:Q2)(ps:G0 Str):Prop:= ∀ (kV doc pm:G1) (an:D2 P3) (cdv ct:G1) (us:G0 G1),us.length=ps.length->xS (fnOf x x (wU st) (zH st) (je st) .none kV doc pm an cdv ct) ⟨us,[]⟩=pure (ps.zip us)
theorem DefIn.nm (d:DefIn K x st f fd)(X:K.In h)(G:h.Ns J5 mg):mg x=some (.ref f):=mg_of X G d.at_
variable {C:G0 G1->Prop}
theorem ln1 (g: ∀a,C [a]): ∀us:G0 G1,us.length=1->C us
 | [_],_=>g _
theorem ln2 (g: ∀a b,C [a,b]): ∀us:G0 G1,us.length=2->C us
 | [_,_],_=>g _ _
theorem ln3 (g: ∀a b c,C [a,b,c]): ∀us:G0 G1,us.length=3->C us
 | [_,_,_],_=>g _ _ _
theorem ln4 (g: ∀a b c d,C [a,b,c,d]): ∀us:G0 G1,us.length=4->C us
 | [_,_,_,_],_=>g _ _ _ _
theorem ln5 (g: ∀a b c d e,C [a,b,c,d,e]): ∀us:G0 G1,us.length=5->C us
 | [_,_,_,_,_],_=>g _ _ _ _ _
theorem DefIn.cal {sp:RDn}(d:DefIn K x st f fd)(l:OpenLaw)(w:B9)(base:O6)(X:K.In h)(G:h.Ns J5 mg)(ok:FnOk l.prog w K mg base CX0 n f fd ps (LSp K sp))(b:SR x st ps:=by first|exact λ_ _ _ _ _ _=>ln1 λ_=>rfl|exact λ_ _ _ _ _ _=>ln2 λ_ _=>rfl|exact λ_ _ _ _ _ _=>ln3 λ_ _ _=>rfl|exact λ_ _ _ _ _ _=>ln4 λ_ _ _ _=>rfl|exact λ_ _ _ _ _ _=>ln5 λ_ _ _ _ _=>rfl):jE l.prog w K mg base n x ps sp:=⟨_,_,ok,d.fn.binds b,d.fn.kp,d.nm X G⟩
def zsB (K:Frag):N0:= ["len","max","min","divmod","all","any","repr","sum","sorted","int","tuple","list","set","bool","isinstance","range","zip","enumerate","reversed"].all λx=>nsIn K J5 (aF x)==some none
theorem SS (X:K.In h)(G:h.Ns J5 mg)(e:zsB K=true):Zs mg:=by
 unfold zsB at e;rw [N3] at e;have m:=λ(x:V1) hx=>mg_none_of X G (beq_iff_eq.mp (e x hx))
 exact⟨m "len" (by decide),m "max" (by decide),m "min" (by decide),m "divmod" (by decide),m "all" (by decide),m "any" (by decide),m "repr" (by decide),m "sum" (by decide),m "sorted" (by decide),m "int" (by decide),m "tuple" (by decide),m "list" (by decide),m "set" (by decide),m "bool" (by decide),m "isinstance" (by decide),m "range" (by decide),m "zip" (by decide),m "enumerate" (by decide),m "reversed" (by decide)⟩
end L2
namespace L2
open PySem PySem.Spec PyProof.Rows
theorem Sub.overC {h h':HD}{a:P3}{c:DC}(sb:Sub h h')(e:h.dc a=none):Sub h (QZ h' a c):=⟨sb.ls,λb xs z=>by
 rw [yP (λw=>by subst w;rw [e] at z;cases z)];exact sb.dc b xs z⟩
end L2
namespace L2
theorem Dt {g:G6->G6->N0}{n:G6}: ∀ {t:G6} {w:G0 G6},w.length=t+1->(∀i∈w,i<n)->w.Nodup->(∀i∈w,w.headD 0<=i)->(∀i x y,w[i]? =some x->w[i+1]? =some y->g x y=true)->w∈lev g n t
 |0,w,hl,lt,_,_,_=>by
  obtain⟨a,rfl⟩:=gR.mp hl;exact R6.mpr ⟨a,D0.mpr (lt a (by simp)),rfl⟩
 |t+1,w,hl,lt,nd,low,go=>by
  obtain⟨v,j,rfl⟩: ∃v j,w=v++ [j]:=⟨w.dropLast,w.getLast (by intro z;rw [z] at hl;cases hl),(cF _).symm⟩;have lv:v.length=t+1:=by rw [P1,cI] at hl;omega
  have hd:(v++ [j]).headD 0=v.headD 0:=by cases v with|nil=>cases lv|cons a r=>rfl
  have nv:=W3.mp nd;have jn:j ∉ v:=λz=>nv.2.2 j z j (by simp) rfl
  have hh:v.headD 0∈v:=by cases v with|nil=>cases lv|cons a r=>exact P4 ..
  rw [hd] at low;have mv:=Dt (g:=g) (n:=n) lv (λi hi=>lt i (M8 _ hi)) nv.1 (λi hi=>low i (M8 _ hi)) λi x y e1 e2=>go i x y (by rw [C3 (P9.mp e1).1];exact e1) (by rw [C3 (P9.mp e2).1];exact e2)
  refine dH.mpr ⟨v,mv,R6.mpr ⟨j,C1.mpr ⟨D0.mpr (lt j (by simp)),?_⟩,rfl⟩⟩;have la:v[t]? =some (v.getLastD 0):=by rw [dL,dM,lv,j9,G2 (by omega)];rfl
  have g1:=go t _ j (by rw [C3 (by omega)];exact la) (by rw [N8 (by omega),lv,iQ];rfl);have lj:=low j (by simp);have ne:v.headD 0≠j:=λz=>jn (z ▸ hh)
  unfold Ho;rw [g1,S7 (show v.headD 0<j by omega),S8 jn];rfl
theorem Du {g:G6->G6->N0}{n s:G6}{w:G0 G6}(h:w∈lev g n s)(b:g (w.getLastD 0) (w.headD 0)=true): ∀t,s<t->w∈SO g n t
 |t+1,ht=>by
  rcases F9 s t with z|z
  ·exact M8 _ (Du h b t z)
  ·have:t=s:=by omega
   subst this;exact P5 _ (C1.mpr ⟨h,b⟩)
theorem UA {n:G6}{w:G0 G6}(nd:w.Nodup)(lt: ∀i∈w,i<n):w.length<=n:=by
 have:=vI (ys:=D4 n) nd λx hx=>D0.mpr (lt x hx)
 rwa [S6] at this
section
variable {n e:G6}{T:G0 (G0 P2)}
theorem QD {w:G0 G6}(ne:w≠ [])(lt: ∀i∈w,i<n)(nd:w.Nodup)(low: ∀i∈w,w.headD 0<=i)(go: ∀i x y,w[i]? =some x->w[i+1]? =some y->ent T x y>0)(back:ent T (w.getLastD 0) (w.headD 0)>0):w∈Xs T n:=by
 obtain⟨t,ht⟩: ∃t,w.length=t+1:=⟨w.length-1,by have:=dR.mpr ne;omega⟩;have:=UA nd lt;exact(Qw _).mem_iff.mpr (Du (Dt (g:=Hq T) ht lt nd low λi x y e1 e2=>S7 (go i x y e1 e2)) (S7 back) n (by omega))
theorem Dv (h:Sq n e T){i j:G6}(hi:i<n)(hj:j<n)(z:ent T i j≠0):ent T i j>0:=by have:=(h.ent_nn hi hj).1;omega
theorem QF (h:Sq n e T)(hn:n<=8){m:G6}(m1:1<=m){v:G6->G6}(vl: ∀t,v t<n)(per: ∀t,v (t+m)=v t)(inj: ∀a b,a<m->b<m->v a=v b->a=b)(st: ∀t,RP n T 1 (v t) (v (t+1))): ∃s,(D4 m).map (λt=>v (s+t))∈Xs T n:=by
 obtain⟨s,hs⟩: ∃s,∀t,v s<=v t:=by
  have key: ∀k,∃s,∀t,t<k+1->v s<=v t:=λk=>by
   induction k with
   |zero=>exact⟨0,λt ht=>by rw [show t=0 by omega];exact P6 _⟩
   |succ k ih=>
    obtain⟨s,hs⟩:=ih;rcases F9 (v (k+1)) (v s) with z|z
    ·exact⟨k+1,λt ht=>by
      rcases F9 t (k+1) with y|y
      ·have:=hs t y;omega
      ·rw [show t=k+1 by omega];exact P6 _⟩
    ·exact⟨s,λt ht=>by
      rcases F9 t (k+1) with y|y
      ·exact hs t y
      ·rw [show t=k+1 by omega];exact z⟩
  obtain⟨s,hs⟩:=key m;have red: ∀t,v t=v (t%m):=λt=>by
   have: ∀q r,v (r+q*m)=v r:=λq r=>by
    induction q with
    |zero=>rw [xI,Y3]
    |succ q ih=>rw [gD,<-eQ,per,ih]
   have e:=this (t / m) (t%m);rw [U5,sO] at e;exact e
  exact⟨s,λt=>by rw [red t];exact hs _ (by have:=X9 t m1;omega)⟩
 have red: ∀t,v t=v (t%m):=λt=>by
  have: ∀q r,v (r+q*m)=v r:=λq r=>by
   induction q with
   |zero=>rw [xI,Y3]
   |succ q ih=>rw [gD,<-eQ,per,ih]
  have e:=this (t / m) (t%m);rw [U5,sO] at e;exact e
 have hd:((D4 m).map λt=>v (s+t)).headD 0=v s:=by
  obtain⟨k,rfl⟩: ∃k,m=k+1:=⟨m-1,by omega⟩;rw [gF];rfl
 refine⟨s,QD ?_ (λi hi=>by obtain⟨t,_,rfl⟩:=R6.mp hi;exact vl _) ?_ (λi hi=>by obtain⟨t,_,rfl⟩:=R6.mp hi;rw [hd];exact hs _) (λi x y e1 e2=> ?_) ?_⟩
 ·intro z;have:=congrArg Y4 z;rw [G5,S6] at this;simp at this;omega
 ·refine W0.mpr ((mD (n:=m)).imp_of_mem λ{a b} ha hb ne z=> ?_);have ha:=D0.mp ha;have hb:=D0.mp hb;have z:v (s+a)=v (s+b):=z;rw [red (s+a),red (s+b)] at z;have:=inj _ _ (X9 _ m1) (X9 _ m1) z;refine ne ?_;have d1:=nB (s+a) m;have d2:=nB (s+b) m;rcases bG ((s+a) / m) ((s+b) / m) with c|c|c
  ·have:=o4 m (show (s+a) / m+1<=(s+b) / m from c);rw [f6] at this;omega
  ·rw [c] at d1;omega
  ·have:=o4 m (show (s+b) / m+1<=(s+a) / m from c);rw [f6] at this;omega
 ·have h1:=(P9.mp e2).1;rw [G5,S6] at h1;rw [D3,W8 (by omega)] at e1 e2;injection e1 with e1
  injection e2 with e2
  subst e1;subst e2;exact Dv h (vl _) (vl _) ((Py h hn).mp (st (s+i)))
 ·have la:((D4 m).map λt=>v (s+t)).getLastD 0=v (s+(m-1)):=by
   rw [dL,dM,G5,S6,D3,W8 (by omega)];rfl
  rw [hd,la];have:=st (s+(m-1));rw [show s+(m-1)+1=s+m by omega,per] at this;exact Dv h (vl _) (vl _) ((Py h hn).mp this)
def Dw (T:G0 (G0 P2))(n:G6):G6:=((Xs T n).map Y4).foldl sW 0
theorem Dx {w:G0 G6}(hw:w∈Xs T n):Dw T n∣w.length:=((Xm _ 0 (Dw T n)).mp (Nat.dvd_refl _)).2 _ (bO hw)
theorem Vs (h:Sq n e T)(hn:n<=8): ∀ (m:G6) {p:G6},p<n->RP n T m p p->Dw T n∣m:=by
 intro m
 induction m using G6.strongRecOn with
 |_ m ih=>
  intro p hp r;rcases j7 m with z|m1
  ·rw [z];exact Nat.dvd_zero _
  obtain⟨v,v0,vm,vl,vr⟩:=NG h hn m hp hp r
  by_cases c: ∃a b,a<b/\b<m/\v a=v b
  ·obtain⟨a,b,ab,bm,e1⟩:=c;have r1:=WQ h hn vl vr a (b-a) (by omega);rw [show a+(b-a)=b by omega,<-e1] at r1;have r2:=WQ h hn vl vr 0 a (by omega);rw [A8,v0] at r2;have r3:=WQ h hn vl vr b (m-b) (by omega);rw [show b+(m-b)=m by omega,vm,<-e1] at r3;have d1:=ih (b-a) (by omega) (vl a (by omega)) r1;have d2:=ih (a+(m-b)) (by omega) hp (WS h hn hp (vl a (by omega)) hp r2 r3);have:=Nat.dvd_add d1 d2
   rwa [show b-a+(a+(m-b))=m by omega] at this
  ·obtain⟨s,hs⟩:=QF h hn (T:=T) (n:=n) m1 (v:=λt=>v (t%m)) (λt=>vl _ (by have:=X9 t m1;omega)) (λt=>by show v ((t+m)%m)=_;rw [Nat.add_mod_right]) (λa b ha hb z=>by
    have z:v (a%m)=v (b%m):=z;rw [g9 ha,g9 hb] at z;rcases bG a b with y|y|y
    ·exact absurd ⟨a,b,y,hb,z⟩ c
    ·exact y
    ·exact absurd ⟨b,a,y,ha,z.symm⟩ c) (λt=>by
    show RP n T 1 (v (t%m)) (v ((t+1)%m));have lt:=X9 t m1;have:=vr (t%m) lt;rcases F9 (t%m+1) m with z|z
    ·rw [show (t+1)%m=t%m+1 by rw [oG,g9 (show 1<m by omega),g9 z]];exact this
    ·have e2:(t+1)%m=0:=by
      rw [<-nB t m,show m*(t / m)+t%m+1=m*(t / m+1) by rw [f6];omega];exact Nat.mul_mod_right _ _
     rw [e2,v0,<-vm,show m=t%m+1 by omega];rw [show t%(t%m+1)=t%m by rw [show t%m+1=m by omega]];exact this)
   have:=Dx hs
   rwa [G5,S6] at this
theorem ST (h:Sq n e T)(hn:n<=8){i j:G6}(hi:i<n)(w:wk T n i j=true):j<n/\ ∃k,RP n T k i j:=
 JV (P:=λi j=>i<n->j<n/\ ∃k,RP n T k i j) (λi hi=>⟨hi,0,(Uj hi hi).mpr rfl⟩) (λi j z hi=>⟨CP h i j z,1,(Py h hn).mpr z⟩) (λi k j a b hi=>by
  obtain⟨hk,k1,r1⟩:=a hi;obtain⟨hj,k2,r2⟩:=b hk;exact⟨hj,k1+k2,WS h hn hi hk hj r1 r2⟩) w hi
theorem Fi (h:Sq n e T)(hn:n<=8)(one:(La T n).length=1){i j:G6}(hi:i<n)(hj:j<n): ∃k,RP n T k i j:=by
 obtain⟨S,e1⟩:=gR.mp one;have a:pcS T n i∈La T n:=mem_pcs.mpr ⟨i,hi,rfl⟩;have b:pcS T n j∈La T n:=mem_pcs.mpr ⟨j,hj,rfl⟩;rw [e1] at a b;have:j∈pcS T n i:=by rw [G8.mp a,<-G8.mp b];exact Dm hj
 exact(ST h hn hi (mem_pc.mp this).2.1).2
end
end L2
set_option maxRecDepth 35000
namespace L2
section
variable {n e:G6}{T:G0 (G0 P2)}
theorem Fj {a l b d:G6}(h1:d∣a+b)(h2:d∣l+b):a%d=l%d:=by
 have key: ∀a l:G6,a<=l->d∣a+b->d∣l+b->a%d=l%d:=λa l c h1 h2=>by
  obtain⟨t,rfl⟩:=Nat.exists_eq_add_of_le c;have:d∣t:=(Nat.dvd_add_right h1).mp (by rw [show a+b+t=a+t+b by omega];exact h2);rw [oG,mU this,Y3,y4]
 rcases mV a l with c|c
 ·exact key a l c h1 h2
 ·exact(key l a c h2 h1).symm
theorem fit (h:Sq n e T)(hn:n<=8)(one:(La T n).length=1){i j k l:G6}(hi:i<n)(hj:j<n)(a:RP n T k i j)(b:RP n T l i j):k%Dw T n=l%Dw T n:=by
 obtain⟨c,rc⟩:=Fi h hn one hj hi;exact Fj (Vs h hn _ hi (WS h hn hi hj hi a rc)) (Vs h hn _ hi (WS h hn hi hj hi b rc))
end
end L2
namespace L2
open PySem PySem.Spec PyProof.Rows
section
variable {n e:G6}{T U:G0 (G0 P2)}{S P:G0 G6}
def inP (n:G6)(D:G0 G6):G0 G6:=(D4 n).filter λj=>decide (j∈D)
end
section
variable {X:Cx}{k i:G6}{ps N Pn:G0 Str}{spd:RDn}{x:Str}{p pos pos':Pos}{e e2 e3 e4 iter elt:M9}{es ifs:G0 M9}{t:TAD}{te te2 te3 te4:TED}{ti:TID}{tt:TTD}{scope sc:W9}{c:M9}
theorem jk (C:jE X.prog X.w X.K X.mg X.base k x ps spd)(hr:Room k X.A)(ha:JA X (e::es) t)(hg:Gl X x:=by rfl)(hdb:(x==("__debug__" :Str))=false:=by decide)(he:S1 (e::es) X.env=(false,J7 e X.env)::S1 es X.env:=by rfl)(hpl:(U6 pos (S1 es X.env)).any (·.1)=false:=by rfl):JE X (.Call (.Name x p) (e::es) [] pos) (dCB spd t):=by
 obtain⟨g,gd,F,hb,hk,hm⟩:=C;exact SH F hr hg hm hk hb ha hdb he hpl
theorem j1 (a:JE X e te)(h:zf e=true:=by rfl):JA X [e] (zu te Wf):=jac a yD h
theorem j2 (a:JE X e te)(b:JE X e2 te2)(h:zf e=true:=by rfl)(h2:zf e2=true:=by rfl):JA X [e,e2] (zu te (zu te2 Wf)):=jac a (j1 b h2) h
theorem j3 (a:JE X e te)(b:JE X e2 te2)(c:JE X e3 te3)(h:zf e=true:=by rfl)(h2:zf e2=true:=by rfl)(h3:zf e3=true:=by rfl):JA X [e,e2,e3] (zu te (zu te2 (zu te3 Wf))):=jac a (j2 b c h2 h3) h
theorem j4 (a:JE X e te)(b:JE X e2 te2)(c:JE X e3 te3)(d:JE X e4 te4)(h:zf e=true:=by rfl)(h2:zf e2=true:=by rfl)(h3:zf e3=true:=by rfl)(h4:zf e4=true:=by rfl):JA X [e,e2,e3,e4] (zu te (zu te2 (zu te3 (zu te4 Wf)))):=jac a (j3 b c d h2 h3 h4) h
theorem Dy (Z:Zs X.mg)(a:JE X e te)(hg:Gl X "len" :=by rfl)(h:zf e=true:=by rfl)(he:S1 [e] X.env=(false,J7 e X.env)::S1 [] X.env:=by rfl)(hpl:(U6 pos (S1 [] X.env)).any (·.1)=false:=by rfl):JE X (.Call (.Name "len" p) [e] [] pos) (dCB FX (zu te Wf)):=zS ON hg Z.len PySem.boot_len (j1 a h) (by decide) (by decide) he hpl
theorem jse (i:G6)(S:FnScope X.N Pn sc)(he:JE X e te)(hi:X.N[i]? =some x:=by rfl)(hx:Loc X.env.scope x:=by first|exact U7 rfl|exact aW rfl)(hs:W5 e (some (.Name x pos')) pos.line X.env=pure false:=by rfl)(hf:X.fn x=true\/X.env.scope.names.lookup x=some .local:=by first|exact .inl rfl|exact .inr rfl|assumption):JS X (.Assign [.Name x pos'] e pos) (GD i te):=Kf S.nd hi hx he hs hf
theorem jgn (i:G6)(S:FnScope X.N Pn sc)(hi:X.N[i]? =some x:=by rfl)(hx:Loc X.env.scope x:=by first|exact U7 rfl|exact aW rfl)(hf:X.fn x=true\/X.env.scope.names.lookup x=some .local:=by first|exact .inl rfl|exact .inr rfl|assumption):JG X (.Name x pos) (gN i):=Cv S.nd hi hx hf
theorem jl1 (i:G6)(S:FnScope X.N Pn sc)(hi:JI X (.Name x p) iter ti)(ht: ∀C s₀ H₀ ex,JT (wc X scope C s₀ H₀ ex) c tt)(he: ∀C s₀ H₀ ex,JE (wc X scope C s₀ H₀ ex) elt te)(hc:X.calm=true:=by rfl)(hB:Xd X.N X.env.scope.names scope [i]=true:=by rfl)(hx:X.N[i]? =some x:=by rfl)(hl:scope.names.lookup x=some .local\/scope.names.lookup x=some .cell:=by first|exact U7 rfl|exact aW rfl)(hs: ∀x,M5 iter X.env x=pure x:=by intro _;rfl):JE X (.ListComp elt [⟨.Name x p,iter,[c],0⟩] scope pos) (vU (bN i) [i] ti tt te):=
 jlc hc (zw hB) hi (G8.mpr rfl) S.nd hx hl (λX' hX=>by obtain⟨C,s₀,H₀,ex,rfl⟩:=hX;exact GY (ht C s₀ H₀ ex)) (λX' hX=>by obtain⟨C,s₀,H₀,ex,rfl⟩:=hX;exact he C s₀ H₀ ex) hs
theorem jl0 (i:G6)(S:FnScope X.N Pn sc)(hi:JI X (.Name x p) iter ti)(he: ∀C s₀ H₀ ex,JE (wc X scope C s₀ H₀ ex) elt te)(hc:X.calm=true:=by rfl)(hB:Xd X.N X.env.scope.names scope [i]=true:=by rfl)(hx:X.N[i]? =some x:=by rfl)(hl:scope.names.lookup x=some .local\/scope.names.lookup x=some .cell:=by first|exact U7 rfl|exact aW rfl)(hs: ∀x,M5 iter X.env x=pure x:=by intro _;rfl):JE X (.ListComp elt [⟨.Name x p,iter,[],0⟩] scope pos) (vU (bN i) [i] ti vp te):=
 jlc hc (zw hB) hi (G8.mpr rfl) S.nd hx hl (λX' hX=>vY) (λX' hX=>by obtain⟨C,s₀,H₀,ex,rfl⟩:=hX;exact he C s₀ H₀ ex) hs
theorem fsc {N P:G0 Str}(a:sc.kind= .function:=by rfl)(b:sc.isCoroutine=false:=by rfl)(c:sc.isGenerator=false:=by rfl)(d:N.Nodup:=by decide +kernel)(e:N.take P.length=P:=by rfl)(f: ∀x∈P,sc.names.lookup x=some .local\/sc.names.lookup x=some .cell:=by decide +kernel)(g: ∀y∈sc.names,y.2≠ .free:=by decide +kernel):FnScope N P sc:=⟨a,b,c,d,e,f,g⟩
theorem jc1 {op:nQ}{f:RD2}(ho:OpQ X (L0 op) f)(ha:JE X e te)(hb:JE X e2 te2)(hm:Y2 op e2=false:=by exact Nu _):JE X (.Compare e [op] [e2] pos) (dOp f te te2):=Hd ho ha hb hm
theorem jt1 {op:nQ}{f:RD2}(ho:OpQ X (L0 op) f)(ha:JE X e te)(hb:JE X e2 te2)(hm:Y2 op e2=false:=by exact Nu _):JT X (.Compare e [op] [e2] pos) (vn (dOp f te te2)):=RZ ho ha hb hm
theorem ji1 (ha:JE X e te)(hb:JE X e2 te2)(hs:Wy e2:=by exact λ_ _=>rfl):JE X (.Subscript e e2 pos) (dOp ixD te te2):=jix ha hb hs
theorem jrg {tg:M9}(Z:Zs X.mg)(ha:JE X e te)(hg:Gl X "range" :=by rfl)(h:zf e=true:=by rfl)(hs:S1 [e] X.env= [(false,J7 e X.env)]:=by rfl):JI X tg (.Call (.Name "range" p) [e] [] pos) (iR1 (zu te Wf)):=SG hg Z.range (j1 ha h) hs
end
section
variable {P:T3}{w:B9}{K:G7}{mg:Str->D2 G1}{base:O6}{x qual:Str}{st:Q2}{f:P3}{fd:C8}{N ps:G0 Str}{k:G6}
theorem Fun.okM {spd:RDn}(F:Fun K x qual st f fd)(S:FnScope N ps (je st)){tb:TSD}(hbody: ∀ {cdv:G1} {A:N6} {outer:G0 Env} {s:G3} {H:Hp} {E:XK},Room k (A.deeper (iZ qual (je st) s.heap.objs.size f cdv))->JSs (RG CX0 P w K mg base N qual (je st) f cdv A outer s H E).nox (zH st) tb)
 (read: ∀ds h Q,spd ds h Q->ds.length=ps.length/\tb (RT Q) (wK N ds) h):FnOk P w K mg base CX0 (k+1) f fd ps (LSp K spd):=F.okJ S (λds h Q q=>(read ds h Q q).1) tb (λ_ _ _ _ _ _ hr=>hbody hr) λds h Q q=>(read ds h Q q).2
end
theorem Jv {t u:TSD}{E:EndsD}{σ:SD}{h:HD}(σ1:SD)(first: ∀K:SD->HD->Prop,K σ1 h->t {E with nx:=K} σ h)(rest:u E σ1 h):JD t u E σ h:=first (u E) rest
theorem sz0:0<=sizeLine:=by decide
theorem sz1:1<=sizeLine:=by decide
theorem sz2:2<=sizeLine:=by decide
theorem sz3:3<=sizeLine:=by decide
theorem sz4:4<=sizeLine:=by decide
theorem sz5:5<=sizeLine:=by decide
theorem sz6:6<=sizeLine:=by decide
section
variable {X:Cx}{s0 s1 s2 s3 s4 s5 s6 s7:Q2}{t0 t1 t2 t3 t4 t5 t6 t7:TSD}{c:M9}{tc:TTD}{pos:Pos}
theorem js2 (a:JS X s0 t0)(b:JS X s1 t1):JSs X [s0,s1] (JD t0 t1):=(zg a (zr b))
theorem js3 (a:JS X s0 t0)(b:JS X s1 t1)(c:JS X s2 t2):JSs X [s0,s1,s2] (JD t0 (JD t1 t2)):=(zg a (zg b (zr c)))
theorem js4 (a:JS X s0 t0)(b:JS X s1 t1)(c:JS X s2 t2)(d:JS X s3 t3):JSs X [s0,s1,s2,s3] (JD t0 (JD t1 (JD t2 t3))):=(zg a (zg b (zg c (zr d))))
theorem js5 (a:JS X s0 t0)(b:JS X s1 t1)(c:JS X s2 t2)(d:JS X s3 t3)(e:JS X s4 t4):JSs X [s0,s1,s2,s3,s4] (JD t0 (JD t1 (JD t2 (JD t3 t4)))):=(zg a (zg b (zg c (zg d (zr e)))))
theorem js6 (a:JS X s0 t0)(b:JS X s1 t1)(c:JS X s2 t2)(d:JS X s3 t3)(e:JS X s4 t4)(f:JS X s5 t5):JSs X [s0,s1,s2,s3,s4,s5] (JD t0 (JD t1 (JD t2 (JD t3 (JD t4 t5))))):=(zg a (zg b (zg c (zg d (zg e (zr f))))))
theorem UB (hc:JT X c tc)(h:JS X s0 t0):JS X (.If c [s0] [] pos) (RQ tc t0 Uf):=SF hc (zr h) GW
end
end L2
namespace L2
open PySem PySem.Spec PyProof.Rows HT
section
variable {X:Cx}
theorem wt {α β:Type}{R:α->β->Prop}: ∀ {xs:G0 α} {ys:G0 β} {i:G6} {x:α} {y:β},Paired R xs ys->xs[i]? =some x->ys[i]? =some y->R x y
 |_,_,0,_,_,.cons r _,e1,e2=>by simp at e1 e2;subst e1 e2;exact r
 |_,_,i+1,_,_,.cons _ t,e1,e2=>wt t (by simpa using e1) (by simpa using e2)
 |_,_,_,_,_,.nil,e1,_=>by cases e1
end
theorem Dz {prog:T3}{w:B9}{A:N6}{R:pI->G3->Prop}{s:G3}{e target iter:M9}{ifs:G0 M9}{depth:G6}{it acc:G1}{env:Env}{act:Sem Unit}(I:G6->G3->Prop)
 (hq:(Code.compLoop e depth it acc env).quiet=true)(hd:(R7 prog w).den (.compLoop e depth it acc env)=(iE e depth it acc env).onRaise (λx=>do w8 x env;mZ x))(hA:A.under (.compLoop e depth it acc env)=A)
 (heq:iE e depth it acc env=vj iter target ifs it env act (.compLoop e depth it acc env))
 (turn: ∀n s,I n s->R3 (R7 prog w) A (pG it) (λr s₁=>match r with
  |none=>R (.ok .next) s₁
  |some v=>R3 (R7 prog w) A (cB target it v) (λ_ s₁=>R3 (R7 prog w) A (dP target env v) (λ_ s₂=>
   R3 (R7 prog w) A (forIn ifs true λc r=>if r=true then do let ok <-xC c env (J7 c env);pure (Z9 ok) else pure (Z9 r)) (λok s₃=>
    if ok=true then R3 (R7 prog w) A act (λ_ s₅=> ∃m,m<n/\I m s₅) (λ_ _=>False) s₃
    else ∃m,m<n/\I m s₃) (λ_ _=>False) s₂) (λ_ _=>False) s₁) (λ_ _=>False) s₁) (λ_ _=>False) s)
 (n:G6)(h:I n s):
 aZ (R7 prog w) A (.compLoop e depth it acc env) R s:=by
 refine xD hq I (λn s hI=> ?_) n h;rw [hd,hA];refine xT ?_;rw [heq];unfold vj;refine wpAny_bind (Y1 (wpAny_bind (T7 (turn n s hI) (λr s₁ h₁=> ?_) λ_ _ h'=>h'.elim)));cases r with
 |none=>exact P0 h₁
 |some v=>
  refine wpAny_bind (T7 h₁ (λ_ s₁ h₁=> ?_) λ_ _ h'=>h'.elim);refine wpAny_bind (T7 h₁ (λ_ s₂ h₂=>wpAny_bind (T7 h₂ (λok s₃ h₃=> ?_) λ_ _ h'=>h'.elim)) λ_ _ h'=>h'.elim);cases ok with
  |false=>exact P0 ⟨rfl,h₃⟩
  |true=>exact wpAny_bind (T7 h₃ (λ_ s₅ h₅=>P0 ⟨rfl,h₅⟩) λ_ _ h'=>h'.elim)
abbrev TMG (α:Type):=St->Hp->α->(α->Hp->Prop)->Prop
def AE {α:Type}(X:Cx)(Acc:α->Obj->Prop)(D:P3)(act:Sem Unit)(t:TMG α):Prop:=
 ∀ (pins:G0 (P3×Obj)) (s:G3) (σ:St) (H:Hp) (ys:α) (o:Obj) (Q:α->Hp->Prop),Inv X ([(D,o)]++pins) σ H s->Acc ys o->D∈X.ex->(∀x c,X.env.cells.lookup x=some c->c≠D)->(∀p∈X.pn++pins,p.1≠D)->t σ H ys Q->
  R3 (R7 X.prog X.w) X.A act (λ_ s'=> ∃ys' o' H',Acc ys' o'/\Inv X ([(D,o')]++pins) σ H' s'/\Q ys' H') (λ_ _=>False) s
def tCG {α : Type} (Acc : α → Obj → Prop) (ho : α → Obj → P3 → HO) (a0 : α) (js : G0 G6) (wi : TI) (g : TG) (tt : TT) (tm : TMG α) : TE := fun σ H Q => wi σ H fun J H1 =>
  ∃ W : G6 → G6 → α → Hp → Prop, (∃ m, W 0 m a0 H1) ∧ ∀ i m ys H, W i m ys H →
    ((J.stop i H ∧ ∀ p o, H p = none → Acc ys o → Q (.ref p) (upd H p (ho ys o p))) ∨
     (J.go i H ∧ ∀ x H', J.yld i H x H' → g x (zk js σ) H' fun σ2 H2 => Agree (zk js σ) σ2 ∧ tt σ2 H2 fun b H3 =>
        if b = true then tm σ2 H3 ys fun ys' H4 => ∃ m', m' < m ∧ W (i + 1) m' ys' H4 else ∃ m', m' < m ∧ W (i + 1) m' ys H3))
structure CompK (P:T3)(w:B9)(e:M9)(g:aH)(rest:G0 aH)(mk:Sem G1)(o0:Obj):Prop where
 cl:clausesOf e=g::rest
 quiet: ∀it acc env,(Code.compLoop e 0 it acc env).quiet=true
 den: ∀it acc env,(R7 P w).den (.compLoop e 0 it acc env)=(iE e 0 it acc env).onRaise (λx=>do w8 x env;mZ x)
 under: ∀A it acc env,Around.under A (.compLoop e 0 it acc env)=A
 start: ∀ {A:N6} {R:pI->G3->Prop} {s:G3} {it acc env},aZ (R7 P w) A (.compLoop e 0 it acc env) R s->R3 (R7 P w) A (pH it) (λit' s'=>aZ (R7 P w) A (.compLoop e 0 it' acc env) R s') (notedBy (R7 P w) A env λx s'=>R (.error x) s') s->aZ (R7 P w) A (.compStart e 0 it acc env) R s
 live:o0.isFreed=false
 made: ∀ {A:N6} {Q:G1->G3->Prop} {E:G1->G3->Prop} {s:G3},Q (.ref s.heap.objs.size) {s with heap:=s.heap.push o0}->R3 (R7 P w) A mk Q E s
theorem AF {α:Type}{Acc:α->Obj->Prop}{ho:α->Obj->P3->HO}{a0:α}{mk:Sem G1}{o0:Obj}{X:Cx}{e iter tg:M9}{ifs:G0 M9}{rest:G0 aH}{scope:W9}{pos0:Pos}{js:G0 G6}{wi:TI}{g:TG}{tt:TT}{tm:TMG α}{use:D2 (G1->Sem Unit)}{Qv:G1->G3->Prop}(hc:X.calm=true)(S:BlockOk X scope js)(hi:PI X tg iter wi)
 (ck:CompK X.prog X.w e ⟨tg,iter,ifs,0⟩ rest mk o0)(acc0:Acc a0 o0)(nocell: ∀a o,Acc a o-> ∀v,o.data≠ .cell v)(okO: ∀ {a o H h p},(p==bX)=false->Acc a o->h.get? p=some o->ObjOk X.prog X.w H h p (ho a o p))
 (hg: ∀X',jg X scope X'->PG X' tg g)(ht: ∀X',jg X scope X'->PTs X' ifs tt)
 (act:Env->G1->Sem Unit)(hturn: ∀it acc env,iE e 0 it acc env=vj iter tg ifs it env (act env acc) (.compLoop e 0 it acc env))(he: ∀X',jg X scope X'-> ∀D,AE X' Acc D (act X'.env (.ref D)) tm)
 (hs: ∀x,M5 iter X.env x=pure x){pins:G0 (P3×Obj)}{s:G3}{σ:St}{H:Hp}{Q:VK}(I:Inv X pins σ H s)(h:tCG Acc ho a0 js wi g tt tm σ H Q)
 (fin: ∀ (D C:P3) (H':Hp) (s':G3) (m:Str->D2 G1),s'.heap.Ns C m->(∀h',O7 C s'.heap h'->Inv X pins σ H' {s' with heap:=h'})->H' C=none->C≠X.env.locals->C ∉ X.fs->X.s₀.heap.objs.size<=C->(∀x c,X.env.cells.lookup x=some c->c≠C)->(∀p∈X.pn++pins,p.1≠C)->
  Q (.ref D) H'->tO (R7 X.prog X.w) X.A X.xe use Qv (.ref D) C (.ok .next) s'):
 R3 (R7 X.prog X.w) X.A (lF e scope X.env pos0 mk false (J7 iter X.env) use) Qv X.xe s:=by
 have hclos:=vg (scope:=scope) (env:=X.env) (λp hp e=>I.ok.has p.1 (S.free p hp e));refine lG (use:=use) ck.cl hs hclos S.kind S.locs (thn (hi pins s σ H _ I h) λv s1 h1=>thn h1 λitv s2 h2=> ?_);obtain⟨it,fp,tn,J,H2,e,I2,T,st2,f2,W,⟨m0,w0⟩,turn⟩:=h2;subst e;refine ck.made (Jt (λh₁ hns₁ hkp₁ hcl₁ hap₁=> ?_));dsimp only at hns₁ hkp₁ hcl₁ hap₁ ⊢;generalize hD:s2.heap.objs.size=D;generalize hH3:s2.heap.push o0=h3 at hns₁ hkp₁ hcl₁ hap₁ ⊢;have sz3:h3.objs.size=D+1:=by rw [<-hH3,cU,hD]
 have up3: ∀b o,s2.heap.get? b=some o->h3.get? b=some o:=λb o e=>hH3 ▸ G9 _ e
 have I3:Inv X pins σ H2 {s2 with heap:=h3}:=I2.kept (t':=s2.toks) up3;have hD3:h3.get? D=some o0:=by rw [<-hH3,<-hD];exact S5 _ ck.live
 have fD:Ua X pins H2 D:=I2.fpOk (by rw [hD];exact P6 _) (I2.hok.fresh (by rw [hD];exact P6 _));have obf: ∀b∈fp,∃o,s2.heap.get? b=some o/\ ∀v,o.data≠ .cell v:=T.obj _ _ st2;have ltf: ∀b∈fp,b<D:=λb hb=>by obtain⟨o,e,_⟩:=obf b hb;rw [<-hD];exact R0 e
 generalize hC:h3.objs.size=C at hns₁ hcl₁ hap₁ ⊢;have CD:C=D+1:=hC.symm.trans sz3;have upC: ∀b o,h3.get? b=some o->h₁.get? b=some o:=hkp₁;generalize hX:wc X scope C {s2 with heap:=h3} H2 (fp++ [D])=X';have iX:jg X scope X':=⟨C,_,_,_,hX.symm⟩;have hf: ∀b∈fp++ [D],Ua X pins H2 b:=λb hb=>(D8.mp hb).elim (f2 b) λz=>by rw [G8.mp z];exact fD
 have cl: ∀x c,(jy X scope C).lookup x=some c->X.env.cells.lookup x=some c\/C<c:=λx c e=>by
  rcases jU S e with ⟨_,z⟩|⟨_,z⟩
  ·exact .inl z
  ·exact .inr (V3 (hcl₁ x c z).2)
 have olt: ∀x c,X.env.cells.lookup x=some c->c<C:=λx c e=>by obtain⟨v,q⟩:=I3.cell x c e;rw [<-hC];exact q.lt
 have ltb: ∀b∈fp++ [D],b<C:=λb hb=>(D8.mp hb).elim (λz=>by have:=ltf b z;rw [CD];exact cN this) λz=>by rw [G8.mp z,CD];exact J0 _
 have okX:X'.Ok:=by
  subst hX;refine⟨I.ok.mod,S.kind,I.ok.glob,I.ok.blt,E5 hC,λx y c e1 e2=> ?_,λx hx=> ?_,λx c z e=> ?_,I.ok.hd,I.ok.frames,.inl rfl,λb hb=>⟨M1 (ltb b hb),λx c e=>(cl x c e).elim (λz=>(hf b hb).2.2.2.2.1 x c z) λz=>U4 (V2 (ltb b hb) z)⟩,
   I3.bs,S0 I.ok.bsz I3.sz,λb o e hb=> ?_,λb hb z=> ?_,I3.stack,I3.stkFree⟩
  ·rcases jU S e1 with ⟨_,z1⟩|⟨_,z1⟩<;>rcases jU S e2 with ⟨_,z2⟩|⟨_,z2⟩
   ·exact I.ok.inj x y c z1 z2
   ·exact absurd (V2 (olt x c z1) (V3 (hcl₁ y c z2).2)) (B7 _)
   ·exact absurd (V2 (olt y c z2) (V3 (hcl₁ x c z1).2)) (B7 _)
   ·exact p4 hap₁ z1 z2
  ·have own:scope.names.lookup x=some .cell-> ∃c,(jy X scope C).lookup x=some c:=λz=>by
    obtain⟨c,hc⟩:=vf (sc:=scope) (n:=C+1) z;exact⟨c,by unfold jy;rw [jJ,ym,hc]⟩
   have shr:scope.names.lookup x=some .free-> ∃c,(jy X scope C).lookup x=some c:=λz=>by
    have fm:=zj z;obtain⟨c,hc⟩:=I.ok.has x (S.free _ fm rfl);exact⟨c,zW S hc fm (by rw [z];decide)⟩
   rcases hx with hx|hx
   ·rcases jx (env:=X.env) hx with z|z
    ·exact own z
    ·exact shr z
   ·rcases jx (env:=X.env) hx with z|z<;>exact shr z
  ·have z':scope.names.lookup x=some .cell:=by
    have z2:(scope.names.lookup x==some U1)=true:=z;simpa using z2
   rcases jU S e with ⟨n,_⟩|⟨_,m⟩
   ·exact absurd z' n
   ·show h3.objs.size<=c;rw [hC];exact M0 (V3 (hcl₁ x c m).2)
  ·rcases (hf b hb).2.2.2.1 with z|z
   ·exact I.ok.noex b o e z
   ·exact absurd (N7 (R0 e) (S0 I.ok.bsz z)) (B7 _)
  ·rcases R5.mp (I.stkSub b z) with q|q
   ·exact(hf b hb).2.1 q
   ·exact(hf b hb).2.2.1 q
 -- the block's first state
 have I4:Inv X' [(D,o0)] (zk js σ) H2 {s2 with heap:=h₁}:=by
  subst hX;have hDC:D≠C:=by rw [CD];exact M1 (J0 _)
  refine⟨okX,rfl,I2.bare,Un.kept (λb u e=>upC b u e),⟨_,hns₁,λi x v e1 e2 e3=> ?_⟩,λx c e=> ?_,I3.hok.fresh (E5 hC),λx c e=>(cl x c e).elim (λz=>I2.freeC x c z) (λz=>I3.hok.fresh (by rw [<-hC] at z;exact M0 z)),λp hp=> ?_,I3.hok.kept upC,(vW js σ).trans I2.len⟩
  ·have fr:scope.names.lookup x=some .free:=by
    rcases e3 with e3|e3|e3
    ·rcases jx (env:=X.env) e3 with z|z
     ·exact absurd e2 (jR js σ i v (S.js i x e1 (.inl z)))
     ·exact z
    ·rcases jx (env:=X.env) e3 with z|z
     ·exact absurd e2 (jR js σ i v (S.js i x e1 (.inr z)))
     ·exact z
    ·rcases jx (env:=X.env) e3 with z|z<;>exact z
   have fm:=zj fr;obtain⟨m,hm,hl⟩:=I2.loc;have vis:=S.free _ fm rfl;obtain⟨u,r,lk⟩:=hl i x v e1 (vh js σ i v e2) (.inr vis);have kd:(xE scope X.env).names.lookup x=some .cell\/(xE scope X.env).names.lookup x=some .free:=by
    rcases e3 with e3|e3|e3
    ·rcases jx (env:=X.env) e3 with z|z
     ·rw [fr] at z;cases z
     ·exfalso;have z2:=e3
      -- a local's kind stays
      exact absurd e2 (jR js σ i v (S.js i x e1 (.inl (by
       have q: ∀ (l:G0 (Str×NameKind)),(l.map λ(n,k)=>if (k==A3&&X.env.scope.kind== .function&&X.env.kindOf n==some .cell) then (n,U1) else (n,k)).lookup x=some .local->l.lookup x=some .local:=by
        intro l
        induction l with
        |nil=>intro h;simp at h
        |cons p l ih=>
         obtain⟨n,k'⟩:=p;intro h;have h':xU x ((if (k'==A3&&X.env.scope.kind== .function&&X.env.kindOf n==some .cell)=true then (n,U1) else (n,k'))::(l.map λ(n,k)=>if (k==A3&&X.env.scope.kind== .function&&X.env.kindOf n==some .cell) then (n,U1) else (n,k)))=some .local:=h;rw [I0]
         by_cases hc:(k'==A3&&X.env.scope.kind== .function&&X.env.kindOf n==some .cell)=true
         ·rw [R8 hc,I0] at h';cases hx:x==n with
          |true=>rw [hx] at h';cases h'
          |false=>rw [hx] at h';exact ih h'
         ·rw [R9 hc,I0] at h';cases hx:x==n with
          |true=>rw [hx] at h';exact h'
          |false=>rw [hx] at h';exact ih h'
       exact q _ z2))))
    ·exact .inl e3
    ·exact .inr e3
   rcases lk with ⟨k,_⟩|⟨_,c,hc,hcell⟩
   ·have k':X.env.scope.names.lookup x=some .local:=k;rcases vis with z|z<;>(rw [k'] at z;cases z)
   ·refine⟨u,r,.inr ⟨kd,c,zW S hc fm (by rw [fr];decide),?_⟩⟩;obtain⟨o,ho,hd⟩:=hcell;exact⟨o,upC _ _ (up3 _ _ ho),hd⟩
  ·rcases jU S e with ⟨_,z⟩|⟨_,z⟩
   ·obtain⟨v,o,ho,hd⟩:=I2.cell x c z;exact⟨v,o,upC _ _ (up3 _ _ ho),hd⟩
   ·exact⟨none,(hcl₁ x c z).1⟩
  ·have hp':p∈ [(D,o0)]:=hp;rcases G8.mp hp' with rfl
   refine⟨upC _ _ hD3,fD.1,hDC,λz=> ?_,nocell _ _ acc0⟩;rcases R5.mp (I.stkSub D z) with q|q
   ·exact fD.2.1 q
   ·exact fD.2.2.1 q
 have st4:tn 0 h₁:=T.keep _ _ _ st2 λb _ o e=>upC _ _ (up3 _ _ e)
 have eA:X'.A=X.A:=by rw [<-hX];rfl
 have eP:X'.prog=X.prog:=by rw [<-hX];rfl
 have eW:X'.w=X.w:=by rw [<-hX];rfl
 have eK:X'.K=X.K:=by rw [<-hX];rfl
 have eC:X'.calm=true:=by rw [<-hX];exact hc
 have eV:X'.env=lV scope (jy X scope C) C X.env:=by rw [<-hX];rfl
 have eE:X'.xe=λ_ _=>False:=by rw [<-hX];rfl
 -- what stays true of the iterator's objects
 have stat: ∀ {us:Obj} {H':Hp},(∀b∈fp,H' b=none)-> ∀b∈fp,Ua X' [(D,us)] H' b:=λ{us H'} hn b hb=>by
  have q:=hf b (M8 _ hb);subst hX;refine⟨hn b hb,M1 (ltb b (M8 _ hb)),λz=> ?_,.inl (M8 _ hb),λx c e=>(cl x c e).elim (λz=>q.2.2.2.2.1 x c z) (λz=>U4 (V2 (ltb b (M8 _ hb)) z)),λp hp=> ?_⟩
  ·rcases R5.mp (I.stkSub b z) with r|r
   ·exact q.2.1 r
   ·exact q.2.2.1 r
  ·have hp':p∈ [(D,us)]:=hp;rcases G8.mp hp' with rfl
   exact U4 (ltf b hb)
 have loop: ∀s₃:G3,s₃= {s2 with heap:=h₁}->
  aZ (R7 X.prog X.w) X.A (.compLoop e 0 (.ref it) (.ref D) (lV scope (jy X scope C) C X.env))
   (tO (R7 X.prog X.w) X.A X.xe use Qv (.ref D) C) s₃:=by
  rintro s₃ rfl;refine Dz (act:=act (lV scope (jy X scope C) C X.env) (.ref D)) (λn s'=> ∃i ys us H',Acc ys us/\Inv X' [(D,us)] (zk js σ) H' s'/\tn i s'.heap/\(∀b∈fp,H' b=none)/\W i n ys H') (ck.quiet _ _ _) (ck.den _ _ _) (ck.under _ _ _ _) (hturn _ _ _) ?_ m0
   ⟨0,a0,o0,H2,acc0,I4,st4,λb hb=>(f2 b hb).1,w0⟩
  rintro n s5 ⟨i,ys,us,H5,hv5,I5,st5,fr5,w5⟩;have tr:=turn i n ys H5 w5;rcases tr with ⟨stop,qn⟩|⟨go,step⟩
  ·have q:=T.done X' eP eW eK eC i _ s5 _ H5 (λ_ _=>False) I5 (stat fr5) st5 stop;rw [eA] at q;refine T7 q (λr s6 ⟨hr,I6⟩=> ?_) λ_ _ z=>z
   subst hr;obtain⟨m6,hm6,_⟩:=I6.loc;rw [eV] at hm6;have zD:=I6.pin (D,us) (P5 _ P4);have HD:H5 D=none:=zD.2.1;have oD:s6.heap.get? D=some (us):=zD.1;have hDC:D≠C:=by rw [CD];exact M1 (J0 _)
   have HC:H5 C=none:=by have z:=I6.free;rw [eV] at z;exact z
   have B:=I6.base;have os6:s6.os=s2.os:=by have z:=I6.os;rw [<-hX] at z;exact z
   have Bu:Un (frs X.stack) (fp++ [D]) H2 H5 h3 s6.heap:=by rw [<-hX] at B;exact B
   have neC: ∀b o,h3.get? b=some o->b≠C:=λb o e=>by rw [<-hC];exact M1 (R0 e)
   refine fin D C (upd H5 D (ho ys us D)) s6 m6 hm6 (λh' hs'=> ?_) (by rw [jj (E4 hDC)];exact HC) ?_ ?_ ?_ (λx c e=>M1 (olt x c e)) ?_ (qn D us HD hv5)
   ·have hk5:HOk X.prog X.w H5 h':=λb u e=>by
     have z:=I6.hok b u e;rw [eP,eW] at z;refine z.stay (λc v hc q=>hs'.extBut c v ?_ q) (λ_ q=>q) λ_ _ q=>q
     rcases hc with rfl|hc
     ·exact jh e HC
     ·exact jh hc HC
    refine I3.call' (ch:=fp++ [D]) os6 ⟨λb o e n hb hx=> ?_,λb o e n hb hx=> ?_,λb o e n hx=> ?_,λb o e hx=> ?_,λb xs e=> ?_,λb o u e=> ?_,λb ps e=> ?_⟩ (hk5.track HD ?_) I6.bare λb hb=> ?_
    ·exact hs'.extBut b o (neC b o e) (Bu.keep b o e n hb hx)
    ·obtain⟨sl,q⟩:=Bu.slot b o e n hb hx;exact⟨sl,hs'.extBut b _ (neC b o e) q⟩
    ·rw [jj λz=>hx (by rw [z];exact P5 _ P4)];exact Bu.free b o e n hx
    ·obtain⟨o',q⟩:=Bu.there b o e hx;exact⟨o',hs'.extBut b _ (neC b o e) q⟩
    ·have z:=Bu.tups b xs e;rw [jj (jh z HD)];exact z
    ·have z:=Bu.frzs b o u e;rw [jj (jh z HD)];exact z
    ·obtain⟨more,z⟩:=Bu.tbls b ps e;exact⟨more,by rw [jj (jh z HD)];exact z⟩
    ·exact okO (beq_eq_false_iff_ne.mpr (by rw [<-hD];exact E4 (M1 I2.big))) hv5 (hs'.extBut D _ hDC oD)
    ·have q:=hf b hb;exact⟨q.2.2.2.1,q.2.1,q.2.2.2.2.1,q.2.2.2.2.2⟩
   ·rw [<-hC];exact U4 I3.lt
   ·exact I3.nofs (E5 hC)
   ·rw [<-hC];exact I3.sz
   ·intro p hp;have:=(I3.pin p hp).1;rw [<-hC];exact M1 (R0 this)
  ·have q:=T.item X' eP eW eK eC i _ s5 _ H5 (λ_ _=>False) I5 (stat fr5) st5 go;rw [eA] at q;refine T7 q (λr s6 ⟨u,hr,h6⟩=> ?_) λ_ _ z=>z
   subst hr;refine T7 h6 (λ_ s7 ⟨x,H7,I7,r7,y7,st7,fr7⟩=> ?_) λ_ _ z=>z
   have I7':=I7.pinned (stat fr7) (T.obj _ _ st7);have q7:=hg X' iX _ s7 _ H7 x u _ I7' r7 (step x H7 y7);rw [eP,eW,eA,eV,eE] at q7;refine T7 q7 (λ_ s8 ⟨σ8,H8,I8,ag8,q8⟩=> ?_) λ_ _ z=>z
   have q9:=ht X' iX _ s8 σ8 H8 _ I8 q8;rw [eP,eW,eA,eV,eE] at q9;refine T7 q9 (λok s9 ⟨H9,I9,q9⟩=> ?_) λ_ _ z=>z
   have keepT: ∀ {σ':St} {H':Hp} {s':G3} {us:Obj},Inv X' ([(D,us)]++wn fp s7.heap) σ' H' s'->tn (i+1) s'.heap/\ ∀b∈fp,H' b=none:=λ{σ' H' s' us} I'=>
    ⟨T.keep _ _ _ st7 λb hb o e=>(I'.pin (b,o) (P5 _ (P5 _ (zi hb e)))).1,λb hb=>by
     obtain⟨o,e,_⟩:=T.obj _ _ st7 b hb;exact(I'.pin (b,o) (P5 _ (P5 _ (zi hb e)))).2.1⟩
   cases ok with
   |false=>
    have q9: ∃m',m'<n/\W (i+1) m' ys H9:=q9;obtain⟨m',hm,w9⟩:=q9;obtain⟨t9,f9⟩:=keepT I9;exact⟨m',hm,i+1,ys,us,H9,hv5,(I9.unpinned).weak ag8.1.symm ag8.2,t9,f9,w9⟩
   |true=>
    have q9:tm σ8 H9 ys λys' H4=> ∃m',m'<n/\W (i+1) m' ys' H4:=q9
    have DX:D∈X'.ex:=by rw [<-hX];exact P5 _ P4
    have pD: ∀p∈X'.pn++wn fp s7.heap,p.1≠D:=λp hp=>by
     have hp':p∈wn fp s7.heap:=by rw [<-hX] at hp;simpa [wc] using hp
     exact M1 (ltf _ (ve hp').1)
    have cD: ∀x c,X'.env.cells.lookup x=some c->c≠D:=λx c e=>by
     rw [eV] at e;exact(cl x c e).elim (λz=>fD.2.2.2.2.1 x c z) λz=>U4 (V2 (by rw [CD];exact J0 _) z)
    have q10:=he X' iX D _ s9 σ8 H9 ys us _ I9 hv5 DX cD pD q9;rw [eP,eW,eA,eV] at q10;show R3 _ _ (act _ _) _ _ s9;refine T7 q10 (λ_ s10 ⟨ys',us',H10,hv10,I10,m',hm,w10⟩=> ?_) λ_ _ z=>z
    obtain⟨t10,f10⟩:=keepT I10;exact⟨m',hm,i+1,ys',us',H10,hv10,(I10.unpinned).weak ag8.1.symm ag8.2,t10,f10,w10⟩
 exact ck.start (loop _ rfl) (T.self X.A 0 _ _ _ st4 (loop _ rfl))
abbrev NU:=P3×G0 (G0 P2)
def Kr (P:T3)(w:B9)(ps:G0 NU)(o:Obj):Prop:= ∃f es ep t,o=wQ es ep t/\SetT (Fh P w) (wq w) (λk b=>(b,k)∈ps) f es t (ps.map (·.2)).reverse
abbrev AG (o:Obj):HO:= .frz o (.own 0)
theorem tab_of {K:G7}{H:Hp}{T:G0 (G0 P2)}{b:P3}(r:RelD K H (jp T) (.ref b)):Wp H T b:=by
 obtain⟨a,vs,e,hH,r1⟩:=(show ∃a vs,V.ref b= .ref a/\H a=some (.tup vs)/\RelDs K H (T.map zO) vs from r);cases e;exact⟨vs,hH,Uz r1⟩
theorem Vt {X:Cx}{k:G6}(hc:X.calm=true)(hr:Room k X.A):CallR X (.type "set") (λxs H Q=> ∃ (a:P3) (ps:G0 NU) (B:G0 (G0 (G0 P2))),xs= [.ref a]/\SqL X.K H a (ps.map λp=>V.ref p.1)/\B.length<1000/\(∀p∈ps,p.2∈B)/\(∀p∈ps,Wp H p.2 p.1)/\ ∀ (p:P3) (o:Obj),H p=none->Kr X.prog X.w ps o->Q (.ref p) (upd H p (AG o))):=by
 intro pins s σ H xs us Q I r h;obtain⟨a,ps,B,rfl,hS,few,inB,ht,q⟩:=h;obtain⟨u,rfl,ru⟩:=JY r;cases ru;obtain⟨its,rv,pl,hz⟩:=I.list hS;have len:its.length=ps.length:=by have:=rv.length;rw [G5] at this;exact this.symm
 have at_: ∀i v,its[i]? =some v-> ∃b,v= .ref b/\(b,(ps.map (·.2)).getD i [])∈ps:=λi v e=>by
  have il:i<ps.length:=by rw [<-len];exact(P9.mp e).1
  have e1:(ps.map λp=>V.ref p.1)[i]? =some (.ref ps[i].1):=by rw [D3,G2 il];rfl
  have e2:=wt rv e1 e;refine⟨ps[i].1,e2,?_⟩;rw [P7,D3,G2 il];exact M7 il
 have rng:(D4 its.length).map (λi=>(ps.map (·.2)).getD i [])=ps.map (·.2):=by
  have:=jP (ps.map (·.2)) ([]:G0 (G0 P2));rw [G5] at this;rw [len];exact this.symm
 refine Dl (M:=Fh X.prog X.w) (is:=λk b=>(b,k)∈ps) B few (λi hi=>by
  have il:i<ps.length:=by rw [<-len];exact hi
  rw [P7,D3,G2 il];exact inB _ (M7 il)) (by have:=hr.un;omega) (I.ok.hd hc) (.inl rfl) pl.isList at_ (λk b z=>yG I k b (ht _ z)) λh' tk f es ep t e S kept=> ?_
 rw [rng] at S;exact⟨.ref _,_,I.laid (t':=tk) (o:=AG (wQ es ep t)) kept (P6 _) ⟨e,⟨_,e⟩⟩,rfl,q _ _ (I.hok.fresh (P6 _)) ⟨f,es,ep,t,rfl,S⟩⟩
end L2
namespace L2
open PySem PySem.Spec PyProof.Rows HT PySem.SeqAt
section
variable {prog:T3}{w:B9}{A:N6}{E:G1->G3->Prop}{s:G3}
def Jw (U:G0 (G0 P2)):G6:=(U.map λr=>r.length+1).sum
theorem Wq {Q:S9 P2->G3->Prop}(hu:A.units+4<cLine): ∀ {vs:G0 G1} {U:G0 (G0 P2)} (b:S9 P2) (s1:G3),s1.heap=s.heap->RowsIn prog w s.heap U vs->Q (b++(U.map (W4 (intKind prog w))).toArray) {s1 with toks:=s1.toks+Jw U}->
 R3 (R7 prog w) A (forIn vs b λx r=>do let h <-pyHash x;pure (Z9 (r.push h))) Q E s1
 |_,_,b,s1,_,.nil,q=>P0 (by simpa [Jw] using q)
 |_,_,b,s1,e1,.cons (r:=r) (T:=U) a x,q=>by
  rw [cC];refine wpAny_bind (wpAny_bind (kI (by omega) (by rw [e1];exact a) (P0 ?_)));refine Wq hu (b.push (W4 (intKind prog w) r)) _ e1 x ?_;have e:s1.toks+(r.length+1)+Jw U=s1.toks+Jw (r::U):=by unfold Jw;rw [T5,lN];omega
  rw [T5] at q;show Q _ {s1 with toks:=s1.toks+(r.length+1)+Jw U};rw [e];simpa using q
theorem DA {T:G0 (G0 P2)}{a:P3}{Q:P2->G3->Prop}(hu:A.units+8<cLine)(hT:ZQ prog w s.heap T a)(q:Q (QC prog w T) {s with toks:=s.toks+(Jw T+1)}):R3 (R7 prog w) A (pyHash (.ref a)) Q E s:=by
 obtain⟨o,items,n,ho,hc,hd,hi⟩:=hT;have ty:s.TypeIs (.ref a) "tuple" :=⟨o,ho,hc⟩;have room:A.units<cLine:=by omega
 have slot:=λ{M:pU} {A':N6} {E':G1->G3->Prop} {P:D2 G1->G3->Prop}=>X0 (M:=M) (A:=A') (E:=E') (Q:=P) ty F.slot_tuple_hash.lookup
 unfold pyHash pyHashByItsType;refine wpAny_bind (qS (.inr room) (wpAny_bind (slot ?_)));rw [R9 (by simp)];refine wpAny_bind (slot (wpAny_bind (cL ty gQ (L9 gQ ty pQ ?_ (o3 _)))));show R3 _ _ (aN (.ref a) >>= _) _ _ s;refine wpAny_bind (pR ho hd (wpAny_bind ?_));rw [<-U8];refine Wq (A:=A.in1) (show A.units+1+4<cLine by omega) #[] s rfl hi ?_;have told:=q;unfold QC mN at told;show R3 _ _ (retInt (X5 ((#[]:S9 P2)++(T.map (W4 (intKind prog w))).toArray).toList)) _ _ _;rw [show ((#[]:S9 P2)++(T.map (W4 (intKind prog w))).toArray).toList=T.map (W4 (intKind prog w)) by simp];refine iJ ?_;show R3 _ _ (bV _) _ _ _;unfold bV;split
 ·rename_i c;rw [R8 c] at told;exact P0 told
 ·rename_i c;rw [R9 c] at told;exact wpAny_bind (g4 (P0 told))
theorem RowsIn.past {h h':O6}{d:P3}{o:Obj}{es:S9 lW}{ep:G6}(hd:h.get? d=some o)(dd:o.data= .dict es ep)(hs:O7 d h h'): ∀ {T:G0 (G0 P2)} {vs:G0 G1},RowsIn prog w h T vs->RowsIn prog w h' T vs
 |_,_,.nil=> .nil
 |_,_,.cons a x=> .cons (a.keeps hd dd hs) (x.past hd dd hs)
def Rw (prog:T3)(w:B9):HeapKind prog w (G0 (G0 P2)) where
 is:=ZQ prog w
 hash:=QC prog w
 draws:=λT=>Jw T+1
 room:=λA=>A.units+8<cLine
 inj:=λhx hy=>(Fh prog w).inj hx hy
 keeps:=λ⟨o',items,n,ho,hc,hdd,hi⟩ hd dd hs=>by
  refine⟨o',items,n,hs.extBut _ _ (λz=> ?_) ho,hc,hdd,hi.past hd dd hs⟩;rw [z,hd] at ho;cases ho;rw [dd] at hdd;cases hdd
 pyHash:=λhu hk q=>DA hu hk q
 eqBool:=λhu hx hy q=>Dp hu hx hy q
 quiet:=λhk q=>Vr hk q
end
abbrev KT2:=G0 (G0 (G0 P2)×P3×V)
def jZ {α:Type}(kv:G0 (G0 (G0 P2)×α))(k:G0 (G0 P2)):D2 α:=(kv.find? λp=>decide (p.1=k)).map (·.2)
def Vu {α:Type}(kv:G0 (G0 (G0 P2)×α))(k:G0 (G0 P2))(d:α):G0 (G0 (G0 P2)×α):=if (jZ kv k).isSome then kv.map (λp=>if p.1=k then (p.1,d) else p) else kv++ [(k,d)]
variable {T:G0 (G0 P2)}
theorem JL {K:G7}{H:Hp}{b:P3}(r:RelD K H (jp T) (.ref b)):Wp H T b:=by
 obtain⟨ps,e1,e2,e3⟩:=Ds (K:=K) (H:=H) (Ts:= [T]) (vs:= [.ref b]) ⟨_,_,rfl,r,rfl⟩;cases ps with
 |nil=>cases e1
 |cons p ps=>
  injection e1 with e4 _
  injection e2 with e5 _
  injection e4 with e4
  rw [e5,e4];exact e3 p P4
abbrev yA (p:G0 (G0 P2)×P3×V)(q:G0 (G0 P2)×P3×G1):Prop:=p.1=q.1/\p.2.1=q.2.1/\RelV p.2.2 q.2.2
theorem jQ: ∀ {xs:KT2} {ys:G0 (G0 (G0 P2)×P3×G1)},Paired yA xs ys->xs.map (·.1)=ys.map (·.1)/\xs.length=ys.length/\ ∀y∈ys,∃x∈xs,x.1=y.1/\x.2.1=y.2.1
 |_,_,.nil=>⟨rfl,rfl,λy hy=>by cases hy⟩
 |_,_,.cons (a:=x) (b:=y) r z=>by
  obtain⟨a,b,c⟩:=jQ z;refine⟨by rw [T5,T5,a,r.1],by rw [D9,D9,b],λy' hy=> ?_⟩;rcases R5.mp hy with e|e
  ·rw [e];exact⟨_,P4,r.1,r.2.1⟩
  ·obtain⟨x',hx,p⟩:=c y' e;exact⟨x',R1 _ hx,p⟩
section
variable {K:G7}{H:Hp}{k:G0 (G0 P2)}
theorem wA: ∀ {kv:G0 (G0 (G0 P2)×D)} {xs:KT2} {ys:G0 (G0 (G0 P2)×P3×G1)},kv.map (·.1)=xs.map (·.1)->RelDs K H (kv.map (·.2)) (xs.map (·.2.2))->Paired yA xs ys->
 (∀d,jZ kv k=some d-> ∃v p,f8 ys k=some p/\RelD K H d v/\RelV v p.2)/\(jZ kv k=none->f8 ys k=none)
 | [],[],_,_,_,.nil=>⟨λ_ z=>(nomatch z),λ_=>rfl⟩
 |p::r,[],_,e,_,_=>by cases e
 | [],q::xs,_,e,_,_=>by cases e
 |p::r,q::xs,_,e,h,.cons (b:=y) r1 z=>by
  rw [T5,T5] at e;injection e with e1 e2
  obtain⟨v,t,z',h1,h2⟩:=(show ∃v t,q.2.2::xs.map (·.2.2)=v::t/\RelD K H p.2 v/\RelDs K H (r.map (·.2)) t from h);injection z' with z1 z2
  subst z1 z2;have ih:=wA e2 h2 z
  by_cases c:p.1=k
  ·have g:jZ (p::r) k=some p.2:=by simp [jZ,Q1,c]
   have g': ∀xs',f8 (y::xs') k=some y.2:=λxs'=>by
    have:y.1=k:=by rw [<-r1.1,<-e1,c]
    simp [f8,Q1,this]
   rw [g];refine⟨λd hd=> ?_,λhd=>by cases hd⟩;injection hd with hd
   subst hd;exact⟨q.2.2,y.2,g' _,h1,r1.2.2⟩
  ·have g:jZ (p::r) k=jZ r k:=by simp [jZ,Q1,c]
   have g': ∀xs',f8 (y::xs') k=f8 xs' k:=λxs'=>by
    have: ¬y.1=k:=by rw [<-r1.1,<-e1];exact c
    simp [f8,Q1,this]
   rw [g,g'];exact ih
end
section
variable {X:Cx}{pins:G0 (P3×Obj)}{σ:St}{H:Hp}{s:G3}{a b:P3}{A:N6}{E:G1->G3->Prop}{T:G0 (G0 P2)}{xs xs':KT2}
theorem vJ {ep:G6}(I:Inv X pins σ H s)(hH:H a=some (JC a ep xs))(ks: ∀x∈xs,Wp H x.1 x.2.1)(nd:(xs.map (·.1)).Nodup):(a==bX)=false/\xs.length<=sizeLine/\ ∃ys,Paired yA xs ys/\s.heap.DictOfH (Rw X.prog X.w) a ys:=by
 obtain⟨⟨h1,h2,ys,pr,o,es,ho,ex,hd,he⟩,_,_⟩:=I.hok a _ hH;obtain⟨k1,k2,k3⟩:=jQ pr;refine⟨h1,h2,ys,pr,o,es,ep,ho,ex,hd,he,λy hy=> ?_,by rw [<-k1];exact nd⟩;obtain⟨x,hx,e1,e2⟩:=k3 y hy;have:=yG I x.1 x.2.1 (ks x hx);rw [e1,e2] at this;exact this
theorem MP {ep:G6}{v:V}{r:G1}{Q:Unit->G3->Prop}(hu:A.units+9<cLine)(I:Inv X pins σ H s)(hH:H a=some (JC a ep xs))(ks: ∀x∈xs,Wp H x.1 x.2.1)(nd:(xs.map (·.1)).Nodup)(hT:Wp H T b)(st: ∀ys,Paired yA xs ys->Paired yA xs' (storedH ys T b r))(lz:xs'.length<=sizeLine)
 (h: ∀ep' s',Inv X pins σ (upd H a (JC a ep' xs')) s'->Q () s'):R3 (R7 X.prog X.w) A (sR (.ref a) (.ref b) r) Q E s:=by
 obtain⟨h1,h2,ys,pr,dd⟩:=vJ I hH ks nd;refine wpAny_setItem_heap (knd:=Rw X.prog X.w) (hsz:=by have:=(jQ pr).2.1;omega) (show A.units+1+8<cLine by omega) (yG I T b hT) dd λh' dd' hs=> ?_
 obtain⟨q,es,ep,hq,e2,e3,e4,_,_⟩:=dd';refine h ep _ (Gy I (by rw [hH];exact cT) hs ⟨q,hq⟩ ⟨⟨h1,lz,_,st ys pr,q,es,hq,e2,e3,e4⟩,⟨q,hq⟩,λg1 g2 hg ke=> ?_⟩);obtain⟨a1,a2,ys',pr',o,es',ho,ex,hd,he⟩:=hg;exact⟨a1,a2,ys',pr',o,es',ke o ho,ex,hd,he⟩
end
def SU:TE:=λ_ H Q=> ∀p,H p=none->Q (.ref p) (upd H p (JC p 0 []))
theorem pe_tnew {X:Cx}{pos:Pos}:PE X (.Dict [] [] pos) SU:=λpins s σ H Q I h=>
 wpAny_Dict_empty ⟨.ref s.heap.objs.size,_,I.laid (a:=s.heap.objs.size) (o:=JC s.heap.objs.size 0 []) (t':=s.toks) (λ_ _ q=>G9 _ q) (P6 _) ⟨⟨beq_eq_false_iff_ne.mpr (E4 (M1 I.big)),N9 _,[],.nil,_,#[],S5 _ rfl,⟨rfl,rfl,rfl⟩,rfl,rfl⟩,⟨_,S5 _ rfl⟩,λg1 g2 ⟨a1,a2,ys',pr',o,es',ho,ex,hd,he⟩ ke=>⟨a1,a2,ys',pr',o,es',ke o ho,ex,hd,he⟩⟩,rfl,h _ (I.hok.fresh (P6 _))⟩
def AH:TED:=λ_ h Q=> ∀p,h.dc p=none->Q (.dct p) (QZ h p (.tk 0 []))
def ixT:RD2:=λx y h Q=> ∃a T ep kv d,x= .dct a/\y=jp T/\h.dc a=some (.tk ep kv)/\jZ kv T=some d/\Q d h
def inT (neg:N0):RD2:=λx y h Q=> ∃a T ep kv,y= .dct a/\x=jp T/\h.dc a=some (.tk ep kv)/\Q (.bl (neg !=(jZ kv T).isSome)) h
section
variable {X:Cx}
theorem DB {pos:Pos}:JE X (.Dict [] [] pos) AH:=⟨pe_tnew.imp λσ H Q ⟨σd,h,Qd,rs,rh,t,p⟩ q hq=>
 p (.dct q) (.ref q) _ _ (.new hq) (rh.newC (c:= .tk 0 []) hq ⟨[],jt,oK,rfl,λx hx=>(by cases hx),rfl⟩) rfl (t q (rh.freeC hq))⟩
theorem AI {n:G6}(hr:Room n X.A):OpQ X (L0 .In) (inT false):=λpins s σ H x y v u Q I rx ry ⟨d,d2,h,Qd,r1,r2,rh,⟨a,T,ep,kv,e1,e2,e,q⟩,post⟩=>by
 subst e1 e2;cases (show y= .ref a from r2);cases (show u=U0 a from ry);obtain⟨xs,hH,nd,ek,tv,rv⟩:=(show ∃xs:KT2,_ from rh.dc a _ e);obtain⟨b,us,ex,_⟩:=(show ∃b vs,x= .ref b/\H b=some (.tup vs)/\RelDs X.K H (T.map zO) vs from r1);subst ex;cases (show v=U0 b from rx);obtain⟨h1,h2,ys,pr,dd⟩:=vJ I hH (λx hx=>JL (tv x hx)) (by rw [<-ek];exact nd);refine wpAny_in_heap (knd:=Rw X.prog X.w) (show X.A.units+1+8<cLine by have:=hr.un;omega) (yG I T b (JL r1)) h1 dd ⟨.bl _,H,I.tok _,rfl,post (.bl _) _ _ _ (.refl H) rh ?_ q⟩;show V.bl (f8 ys T).isSome= .bl (false !=(jZ kv T).isSome);cases g:jZ kv T with
 |none=>rw [(wA ek rv pr).2 g];rfl
 |some d=>obtain⟨_,_,hp,_⟩:=(wA ek rv pr).1 d g;rw [hp];rfl
theorem Vv {n:G6}(hr:Room n X.A):OpQ X (L0 .NotIn) (inT true):=λpins s σ H x y v u Q I rx ry ⟨d,d2,h,Qd,r1,r2,rh,⟨a,T,ep,kv,e1,e2,e,q⟩,post⟩=>by
 subst e1 e2;cases (show y= .ref a from r2);cases (show u=U0 a from ry);obtain⟨xs,hH,nd,ek,tv,rv⟩:=(show ∃xs:KT2,_ from rh.dc a _ e);obtain⟨b,us,ex,_⟩:=(show ∃b vs,x= .ref b/\H b=some (.tup vs)/\RelDs X.K H (T.map zO) vs from r1);subst ex;cases (show v=U0 b from rx);obtain⟨h1,h2,ys,pr,dd⟩:=vJ I hH (λx hx=>JL (tv x hx)) (by rw [<-ek];exact nd);refine wpAny_notIn_heap (knd:=Rw X.prog X.w) (show X.A.units+1+8<cLine by have:=hr.un;omega) (yG I T b (JL r1)) h1 dd ⟨.bl _,H,I.tok _,rfl,post (.bl _) _ _ _ (.refl H) rh ?_ q⟩;show V.bl (!(f8 ys T).isSome)= .bl (true !=(jZ kv T).isSome);cases g:jZ kv T with
 |none=>rw [(wA ek rv pr).2 g];rfl
 |some d=>obtain⟨_,_,hp,_⟩:=(wA ek rv pr).1 d g;rw [hp];rfl
def SV (td ty:TE):TE:=λσ H Q=>td σ H λx H1=>ty σ H1 λy H2=> ∃ (a b:P3) (T:G0 (G0 P2)) (ep:G6) (xs:KT2),x= .ref a/\y= .ref b/\H2 a=some (JC a ep xs)/\(∀x∈xs,Wp H2 x.1 x.2.1)/\(xs.map (·.1)).Nodup/\Wp H2 T b/\ ∃v,(∀ys,Paired yA xs ys-> ∃p,f8 ys T=some p/\RelV v p.2)/\Q v H2
theorem Fk {o i:M9}{td ty:TE}{pos:Pos}(hu:X.A.units+9<cLine)(ho:PE X o td)(hi:PE X i ty)(hs:EU i):PE X (.Subscript o i pos) (SV td ty):=by
 intro pins s σ H Q I h;refine BI PySem.F.slot_dict_getitem.lookup hs (thn (ho pins s σ H _ I h) λu s1 ⟨x,H1,I1,rx,q1⟩=>thn (hi pins s1 σ H1 _ I1 q1) λiv s2 ⟨y,H2,I2,ry,a,b,T,ep,xs,ex,ey,hH,ks,nd,hT,v,g,q2⟩=> ?_);subst ex ey;obtain rfl:u=U0 a:=rx;obtain rfl:iv=U0 b:=ry;obtain⟨h1,h2,ys,pr,dd⟩:=vJ I2 hH ks nd;obtain⟨p,hp,rp⟩:=g ys pr;exact⟨dd.typeIs,wpAny_getItem_heap (knd:=Rw X.prog X.w) (show X.A.units+1+8<cLine by omega) (yG I2 T b hT) dd hp ⟨v,H2,I2.tok _,rp,q2⟩⟩
theorem SW {k : G6} {a b : M9} {ta tb : TED} {pos : Pos} (hr : Room k X.A) (ha : JE X a ta) (hb : JE X b tb) (hs : EU b := by intro _ _; rfl) : JE X (.Subscript a b pos) (dOp ixT ta tb) :=
  ⟨(Fk (by have := hr.un; omega) ha.to hb.to hs).imp fun σ H Q ⟨σd, h, Qd, rs, rh, t, post⟩ => LE.bind rs rh t fun d v h1 H1 k1 rs1 rh1 r1 t1 => LE.bind rs1 rh1 t1 fun d2 v2 h2 H2 k2 rs2 rh2 r2 ⟨a, T, ep, kv, d3, e1, e2, e, g, q⟩ => by
    subst e1 e2
    cases (show v = .ref a from r1)
    obtain ⟨b, us, ex, _⟩ := (show ∃ b vs, v2 = .ref b ∧ H2 b = some (.tup vs) ∧ RelDs X.K H2 (T.map zO) vs from r2)
    subst ex
    obtain ⟨xs, hH, nd, ek, tv, rv⟩ := (show ∃ xs : KT2, _ from rh2.dc a _ e)
    -- what stands there, whatever the heap holds
    have val : ∃ w, RelD X.K H2 d3 w ∧ ∀ ys, Paired yA xs ys → ∃ p, f8 ys T = some p ∧ RelV w p.2 := by
      clear q hH nd tv e
      induction kv generalizing xs with
      | nil => cases g
      | cons p kv ih =>
        cases xs with
        | nil => cases ek
        | cons x xs =>
          rw [T5, T5] at ek
          injection ek with ek1 ek2
          obtain ⟨v0, t, z', w1, w2⟩ := (show ∃ v t, x.2.2 :: xs.map (·.2.2) = v :: t ∧ RelD X.K H2 p.2 v ∧ RelDs X.K H2 (kv.map (·.2)) t from rv)
          injection z' with z1 z2
          subst z1 z2
          by_cases c : p.1 = T
          · have : jZ (p :: kv) T = some p.2 := by simp [jZ, Q1, c]
            rw [this] at g
            injection g with g
            subst g
            refine ⟨x.2.2, w1, fun ys pr => ?_⟩
            cases pr with
            | cons r z =>
              rename_i y ys
              have : y.1 = T := by rw [← r.1, ← ek1, c]
              exact ⟨y.2, by simp [f8, Q1, this], r.2.2⟩
          · have : jZ (p :: kv) T = jZ kv T := by simp [jZ, Q1, c]
            rw [this] at g
            obtain ⟨w, rw_, all⟩ := ih g xs ek2 w2
            refine ⟨w, rw_, fun ys pr => ?_⟩
            cases pr with
            | cons r z =>
              rename_i y ys
              have : ¬ y.1 = T := by rw [← r.1, ← ek1]; exact c
              obtain ⟨p', hp, rp⟩ := all ys z
              exact ⟨p', by rw [show f8 (y :: ys) T = f8 ys T by simp [f8, Q1, this]]; exact hp, rp⟩
    obtain ⟨w, rw_, all⟩ := val
    exact ⟨a, b, T, ep, xs, rfl, rfl, hH, fun x hx => JL (tv x hx), by rw [← ek]; exact nd, JL r2, w, all, post d3 w _ _ (k1.trans k2) rh2 rw_ q⟩⟩
end
def NV (xs:KT2)(T:G0 (G0 P2))(v:V):KT2:=xs.map λx=>if x.1=T then (x.1,x.2.1,v) else x
theorem Zy {v:V}{u:G1}(rv:RelV v u): ∀ {xs:KT2} {ys:G0 (G0 (G0 P2)×P3×G1)},Paired yA xs ys->Paired yA (NV xs T v) (ys.map (putAt T u))
 |_,_,.nil=> .nil
 |_,_,.cons (a:=x) (b:=y) r z=>by
  refine .cons ?_ (Zy rv z);show yA (if x.1=T then (x.1,x.2.1,v) else x) (putAt T u y);unfold putAt
  by_cases c:x.1=T
  ·rw [R8 c,R8 (by rw [<-r.1];exact c)];exact⟨r.1,r.2.1,rv⟩
  ·rw [R9 c,R9 (by rw [<-r.1];exact c)];exact r
theorem DD (xs:KT2)(T:G0 (G0 P2))(v:V):(NV xs T v).map (·.1)=xs.map (·.1):=by
 unfold NV;rw [B6];exact B8 λx _=>by show (if x.1=T then (x.1,x.2.1,v) else x).1=x.1;split<;>rfl
theorem MQ {xs:KT2}{v:V}{x:G0 (G0 P2)×P3×V}(h:x∈NV xs T v): ∃x0∈xs,x0.1=x.1/\x0.2.1=x.2.1:=by
 obtain⟨x0,m,rfl⟩:=R6.mp h;exact⟨x0,m,by split<;>exact⟨rfl,rfl⟩⟩
section
variable {K:G7}{H:Hp}{T:G0 (G0 P2)}{d:D}{v:V}
theorem Vw (rd:RelD K H d v): ∀ {kv:G0 (G0 (G0 P2)×D)} {xs:KT2},kv.map (·.1)=xs.map (·.1)->RelDs K H (kv.map (·.2)) (xs.map (·.2.2))->RelDs K H ((kv.map (λp=>if p.1=T then (p.1,d) else p)).map (·.2)) ((NV xs T v).map (·.2.2))
 | [],[],_,_=>rfl
 |p::r,[],e,_=>by cases e
 | [],q::xs,e,_=>by cases e
 |p::r,q::xs,e,h=>by
  rw [T5,T5] at e;injection e with e1 e2
  obtain⟨v0,t,z',h1,h2⟩:=(show ∃v t,q.2.2::xs.map (·.2.2)=v::t/\RelD K H p.2 v/\RelDs K H (r.map (·.2)) t from h);injection z' with z1 z2
  subst z1 z2;refine⟨_,_,rfl,?_,Vw rd e2 h2⟩;show RelD K H (if p.1=T then (p.1,d) else p).2 (if q.1=T then (q.1,q.2.1,v) else q).2.2
  by_cases c:p.1=T
  ·rw [R8 c,R8 (e1 ▸ c)];exact rd
  ·rw [R9 c,R9 (e1 ▸ c)];exact h1
theorem Jg: ∀ {ds:G0 D} {vs:G0 V},RelDs K H ds vs->RelD K H d v->RelDs K H (ds++ [d]) (vs++ [v])
 | [],vs,r,rd=>by
  have:vs= []:=r;subst this;exact⟨_,_,rfl,rd,rfl⟩
 |d0::ds,vs,r,rd=>by
  obtain⟨v0,t,rfl,r1,r2⟩:=(show ∃v t,vs=v::t/\RelD K H d0 v/\RelDs K H ds t from r);exact⟨_,_,rfl,r1,Jg r2 rd⟩
end
theorem Ye {α:Type}{kv:G0 (G0 (G0 P2)×α)}(h:jZ kv T=none):T ∉ kv.map (·.1):=λz=>by
 obtain⟨p,hp,e⟩:=R6.mp z;unfold jZ at h;rw [V6,aQ] at h;exact h p hp (S7 e)
def SX (td ty tv:TE):TS:=λD σ H=>tv σ H λv H1=>td σ H1 λx H2=>ty σ H2 λy H3=> ∃ (a b:P3) (T:G0 (G0 P2)) (ep:G6) (xs xs':KT2),x= .ref a/\y= .ref b/\H3 a=some (JC a ep xs)/\(∀x∈xs,Wp H3 x.1 x.2.1)/\(xs.map (·.1)).Nodup/\Wp H3 T b/\(∀ys u,Paired yA xs ys->RelV v u->Paired yA xs' (storedH ys T b u))/\xs'.length<=sizeLine/\ ∀ep',D.nx σ (upd H3 a (JC a ep' xs'))
section
variable {X:Cx}
theorem Fl {o i value:M9}{td ty tv:TE}{pos pos':Pos}(hu:X.A.units+9<cLine)(ho:PE X o td)(hi:PE X i ty)(hv:PE X value tv)(hs:W5 value (some (.Subscript o i pos')) pos.line X.env=pure false):PS X (.Assign [.Subscript o i pos'] value pos) (SX td ty tv):=by
 intro pins s σ H D I h;refine wpAny_Assign_Subscript (thn (hv pins s σ H _ I h) λr s1 ⟨v,H1,I1,rv,q1⟩=>thn (ho pins s1 σ H1 _ I1 q1) λu s2 ⟨x,H2,I2,rx,q2⟩=>thn (hi pins s2 σ H2 _ I2 q2) λiv s3 ⟨y,H3,I3,ry,a,b,T,ep,xs,xs',ex,ey,hH,ks,nd,hT,st,lz,q3⟩=> ?_) hs;subst ex ey;obtain rfl:u=U0 a:=rx;obtain rfl:iv=U0 b:=ry;exact MP (v:=v) hu I3 hH ks nd hT (λys pr=>st ys r pr rv) lz λep' s4 I4=>⟨σ,_,I4,q3 ep'⟩
def SY (td ty tv:TED):TSD:=λE σ h=>tv σ h λv h1=>td σ h1 λx h2=>ty σ h2 λy h3=> ∃a T ep kv,x= .dct a/\y=jp T/\h3.dc a=some (.tk ep kv)/\kv.length<1000/\ ∀ep',E.nx σ (QZ h3 a (.tk ep' (Vu kv T v)))
theorem Fm {k : G6} {o i value : M9} {td ty tv : TED} {pos pos' : Pos} (hr : Room k X.A) (ho : JE X o td) (hi : JE X i ty) (hv : JE X value tv) (hs : W5 value (some (.Subscript o i pos')) pos.line X.env = pure false := by rfl) : JS X (.Assign [.Subscript o i pos'] value pos) (SY td ty tv) :=
  ⟨(Fl (by have := hr.un; omega) ho.to hi.to hv.to hs).imp fun D σ H ⟨σd, h, Dd, rs, rh, t, nx, _⟩ => LE.bind rs rh t fun d v h1 H1 k1 rs1 rh1 r1 t1 => LE.bind rs1 rh1 t1 fun d2 v2 h2 H2 k2 rs2 rh2 r2 t2 => LE.bind rs2 rh2 t2 fun d3 v3 h3 H3 k3 rs3 rh3 r3 ⟨a, T, ep0, kv, e1, e2, e, hl, q⟩ => by
    subst e1 e2
    cases (show v2 = .ref a from r2)
    obtain ⟨b, us, ex, _⟩ := (show ∃ b vs, v3 = .ref b ∧ H3 b = some (.tup vs) ∧ RelDs X.K H3 (T.map zO) vs from r3)
    subst ex
    obtain ⟨xs, hH, nd, ek, tv, rv⟩ := (show ∃ xs : KT2, _ from rh3.dc a _ e)
    have ob : DObj (JC a ep0 xs) := .inr ⟨_, rfl⟩
    have rd := (r1.mono k2).mono k3
    have len : xs.length = kv.length := by have := congrArg Y4 ek; simpa using this.symm
    have big : kv.length + 1 ≤ sizeLine := S0 hl (by decide)
    cases g : jZ kv T with
    | some d0 =>
      have ep : Vu kv T d = kv.map (fun p => if p.1 = T then (p.1, d) else p) := by unfold Vu; rw [g]; rfl
      refine ⟨a, b, T, ep0, xs, NV xs T v, rfl, rfl, hH, fun x hx => JL (tv x hx), by rw [← ek]; exact nd, JL r3, fun ys u pr ru => ?_, by unfold NV; rw [G5, len]; omega, fun ep' => nx σd _ σ _ (k1.trans (k2.trans (k3.trans (.putD hH ob)))) (rs3.mono (.putD hH ob)) (rh3.putC (c := .tk ep' (Vu kv T d)) hH ob ?_) (q ep')⟩
      · obtain ⟨_, p, hp, _⟩ := (wA ek rv pr).1 d0 g
        rw [storedH_old hp]
        exact Zy ru pr
      · rw [ep]
        refine ⟨NV xs T v, jt, ?_, ?_, fun x hx => ?_, (Vw rd ek rv).mono (.putD hH ob)⟩
        · rw [B6, show kv.map ((·.1) ∘ fun p => if p.1 = T then (p.1, d) else p) = kv.map (·.1) from B8 fun p _ => by show (if p.1 = T then (p.1, d) else p).1 = p.1; split <;> rfl]
          exact nd
        · rw [DD, ← ek, B6]
          exact B8 fun p _ => by show (if p.1 = T then (p.1, d) else p).1 = p.1; split <;> rfl
        · obtain ⟨x0, m, a1, a2⟩ := MQ hx
          rw [← a1, ← a2]
          exact (tv x0 m).mono (.putD hH ob)
    | none =>
      have ep : Vu kv T d = kv ++ [(T, d)] := by unfold Vu; rw [g]; rfl
      refine ⟨a, b, T, ep0, xs, xs ++ [(T, b, v)], rfl, rfl, hH, fun x hx => JL (tv x hx), by rw [← ek]; exact nd, JL r3, fun ys u pr ru => ?_, by rw [P1, len]; exact big, fun ep' => nx σd _ σ _ (k1.trans (k2.trans (k3.trans (.putD hH ob)))) (rs3.mono (.putD hH ob)) (rh3.putC (c := .tk ep' (Vu kv T d)) hH ob ?_) (q ep')⟩
      · rw [z6 ((wA ek rv pr).2 g)]
        exact pr.snoc ⟨rfl, rfl, ru⟩
      · rw [ep]
        refine ⟨xs ++ [(T, b, v)], jt, ?_, by rw [T9, T9, ek]; rfl, fun x hx => ?_, ?_⟩
        · rw [T9]
          refine W3.mpr ⟨nd, by simp, fun x hx y hy z => ?_⟩
          rw [G8.mp hy] at z
          have z : x = T := z
          subst z
          exact Ye g hx
        · rcases D8.mp hx with m | m
          · exact (tv x m).mono (.putD hH ob)
          · rw [G8.mp m]
            exact r3.mono (.putD hH ob)
        · rw [T9, T9]
          exact (Jg rv rd).mono (.putD hH ob)⟩
end
end L2
namespace L2
open PySem PySem.Spec PyProof.Rows PySem.SeqAt
def Ks (to te:TED):TED:=λσ h Q=>to σ h λx h1=> ∃a,x= .lst a/\te σ h1 λy h2=> ∃b xs ys,y= .lst b/\h2 a=some xs/\h2 b=some ys/\xs.length+ys.length<=sizeLine/\Q .non (zB h2 a (xs++ys))
theorem Vx {K:G7}{H:Hp}: ∀ {ds es:G0 D} {vs us:G0 V},RelDs K H ds vs->RelDs K H es us->RelDs K H (ds++es) (vs++us)
 | [],es,vs,us,r,r'=>by
  have:vs= []:=r;subst this;exact r'
 |d::ds,es,vs,us,r,r'=>by
  obtain⟨v,t,rfl,r1,r2⟩:=(show ∃v t,vs=v::t/\RelD K H d v/\RelDs K H ds t from r);exact⟨_,_,rfl,r1,Vx r2 r'⟩
section
variable {X:Cx}{o e:M9}{to te:TED}{apos cpos:Pos}
theorem Hr (ho : JE X o to) (he : JE X e te) (hbase : cH o "extend" X.env (J7 o X.env) = J7 o X.env := by rfl)
    (hfew : ((U6 cpos (S1 [e] X.env)).all (fun x => !x.1) && (lU cpos (fU [] X.env)).all (fun x => x.1.isSome) && decide ([e].length + ([] : G0 dE).length + (if ([] : G0 dE).isEmpty then 0 else 1) < 30)) = true := by rfl)
    (hline : (apos.endLine == cpos.line) = true := by rfl) (hs : S1 [e] X.env = (false, J7 e X.env) :: S1 [] X.env := by rfl) (hplain : (U6 cpos (S1 [] X.env)).any (·.1) = false := by rfl) :
    JE X (.Call (.Attribute o "extend" apos) [e] [] cpos) (Ks to te) :=
  ⟨(BF fX u7 u8 Gu ho.to (wS he.to pa_nil hs) hbase hfew hline hs hplain).imp
    fun σ H Q ⟨σd, h, Qd, rs, rh, t, p⟩ => LE.bind rs rh t fun d v h1 H1 k1 rs1 rh1 r1 ⟨a, e, q⟩ => by
      subst e
      obtain ⟨e1, vs, hH⟩ := (show v = .ref a ∧ ∃ vs, H1 a = some (.lst vs) from r1)
      subst e1
      refine ⟨.inl ⟨rfl, vs, SqL.of hH⟩, ?_⟩
      refine LE.bind rs1 rh1 q fun y u h2 H2 k2 rs2 rh2 r2 ⟨b, xs, ys, ey, hx, hy, hz, q2⟩ => ?_
      subst ey
      obtain ⟨e2, _⟩ := (show u = .ref b ∧ ∃ vs, H2 b = some (.lst vs) from r2)
      subst e2
      obtain ⟨ws, hW, rW⟩ := rh2 a xs hx
      obtain ⟨zs, hZ, rZ⟩ := rh2 b ys hy
      exact ⟨a, b, ws, zs, rfl, rfl, hW, hZ, by rw [← rW.length, ← rZ.length]; exact hz, p .non _ _ _ ((k1.trans k2).trans (.put hW)) (rh2.put hW (Vx rW rZ)) rfl q2⟩⟩
end
end L2
namespace L2
open PySem PySem.Spec PyProof.Rows HT
theorem Jh {X:Cx}{pins:G0 (P3×Obj)}{σ:St}{H:Hp}{s:G3}{a:P3}{ep:G6}{xs:KT2}(I:Inv X pins σ H s)(hH:H a=some (JC a ep xs)):(a==bX)=false/\ ∃ (sl:S9 (D2 G1)) (es:S9 lW) (ys:G0 (G0 (G0 P2)×P3×G1)),s.heap.get? a=some {cls:= .type "dict",dict:=none,data:= .dict es ep,slots:=sl}/\Paired yA xs ys/\es.toList=ys.map (λx=>⟨Ue x.1,.ref x.2.1,x.2.2⟩)/\es.size=xs.length:=by
 obtain⟨⟨h1,h2,ys,pr,⟨oc,od,odt,osl⟩,es,ho,⟨c1,c2,c3⟩,hd,he⟩,_,_⟩:=I.hok a _ hH;simp only at c1 c2 hd;subst c1 c2 hd;refine⟨h1,osl,es,ys,ho,pr,he,?_⟩;rw [<-D1,he,G5];exact(jQ pr).2.1.symm
theorem Fn {X:Cx}{pins:G0 (P3×Obj)}{σ:St}{s:G3}{xs xs':KT2}{a:P3}{ep:G6}{H:Hp}(I:Inv X pins σ H s)(e:H a=some (JC a ep xs))(e':H a=some (JC a ep xs')){i:G6}{x:G0 (G0 P2)×P3×V}(hx:xs[i]? =some x): ∃T,xs'[i]? =some (T,x.2.1,x.2.2):=by
 obtain⟨_,_,es,ys,h1,pr,he,hn⟩:=Jh I e;obtain⟨_,_,es',ys',h1',pr',he',hn'⟩:=Jh I e';rw [h1] at h1';cases h1';have il:i<ys.length:=by rw [<- (jQ pr).2.1];exact(P9.mp hx).1
 have l':ys'.length=ys.length:=by have:=congrArg Y4 (he.symm.trans he');simpa using this.symm
 have lx:i<xs'.length:=by rw [(jQ pr').2.1,l'];exact il
 obtain⟨p1,p2,p3⟩:=wt pr hx (G2 il);obtain⟨q1,q2,q3⟩:=wt pr' (G2 lx) (G2 (by rw [l'];exact il));have z:=congrArg (λl=>l[i]?) (he.symm.trans he');simp only [D3,G2 il,G2 (show i<ys'.length by rw [l'];exact il),iK] at z;injection z with z
 injection z with z1 z2 z3
 injection z2 with z2
 refine⟨xs'[i].1,?_⟩;rw [G2 lx];have b:xs'[i].2.1=x.2.1:=by rw [q2,p2,z2]
 have u:xs'[i].2.2=x.2.2:=by rw [<-z3] at q3;exact q3.inj p3
 rw [<-b,<-u]
end L2
namespace L2
open PySem PySem.Spec PyProof.Rows
def XD {α:Type}(xs:G0 α):G6->G0 (G0 α)
 |0=> [[]]
 |k+1=>(XD xs k).flatMap λr=>xs.map (· ::r)
variable {α:Type}
theorem vK {xs:G0 α}: ∀ {r:G0 α},(∀x∈r,x∈xs)->r∈XD xs r.length
 | [],_=>G8.mpr rfl
 |x::r,h=>dH.mpr ⟨r,vK λy hy=>h y (R1 _ hy),R6.mpr ⟨x,h x P4,rfl⟩⟩
theorem vL (xs:G0 α): ∀k,(XD xs k).length=xs.length^k
 |0=>rfl
 |k+1=>by
  show ((XD xs k).flatMap λr=>xs.map (· ::r)).length=_;rw [List.length_flatMap,show ((XD xs k).map λr=>(xs.map (· ::r)).length)=(XD xs k).map λ_=>xs.length from B8 λr _=>G5 _,List.map_const',List.sum_replicate_nat,vL xs k,K6]
variable {n:G6}
theorem Fo (n3:n<=3){l:G0 (G0 (G0 P2))}(nd:l.Nodup)(h: ∀M∈l,Sq n 1 M):l.length<=512:=by
 have:=vA (m:=XD (XD [(0:P2),1] n) n) nd λM hM=>by
  have s:=h M hM;have z:=vK (xs:=XD [(0:P2),1] n) (r:=M) λr hr=>by
   have z:=vK (xs:= [(0:P2),1]) (r:=r) λx hx=>by
    have a:=s.nn r hr x hx;have b:x<2:=s.bit r hr x hx;rcases (show x=0\/x=1 by omega) with e|e<;>subst e<;>simp
   rw [s.row r hr] at z;exact z
  rw [s.len] at z;exact z
 rw [vL,vL] at this;rcases (show n=0\/n=1\/n=2\/n=3 by omega) with e|e|e|e<;>subst e<;>exact S0 this (by decide)
def mkW (n:G6)(Ts:G0 (G0 (G0 P2))):G0 G6->G0 (G0 P2)
 | []=>Xf n
 |a::w=>Pv n Ts (yu n (Ts.getD a [])) w
variable {Ts:G0 (G0 (G0 P2))}
theorem yr: ∀ {w:G0 G6} (_:w≠ []) (a:G6),mkW n Ts (w++ [a])=mk1 n (Ts.getD a []) (mkW n Ts w)
 | [],h,_=>absurd rfl h
 |b::w,_,a=>by
  show Pv n Ts _ (w++ [a])=_;unfold Pv;rw [gI];rfl
theorem Vy: ∀w:G0 G6,Sq n 1 (mkW n Ts w)
 | []=>Sq.one n
 |a::w=>Ak _ (Sq.mark _) w
abbrev Fnd:=G0 (G0 (G0 P2)×G0 G6)
def lvS (n:G6)(Ts:G0 (G0 (G0 P2)))(s:Fnd×G0 (G0 G6))(w:G0 G6):Fnd×G0 (G0 G6):=if (jZ s.1 (mkW n Ts w)).isSome then s else (s.1++ [(mkW n Ts w,w)],s.2++(D4 Ts.length).map λa=>w++ [a])
def Fp (n:G6)(Ts:G0 (G0 (G0 P2)))(s:Fnd×G0 (G0 G6)):Fnd×G0 (G0 G6):=s.2.foldl (lvS n Ts) (s.1,[])
def bst (n:G6)(Ts:G0 (G0 (G0 P2))):G6->Fnd×G0 (G0 G6)
 |0=>([],(D4 Ts.length).map λa=> [a])
 |k+1=>Fp n Ts (bst n Ts k)
def fnd (n:G6)(Ts:G0 (G0 (G0 P2))):Fnd:=(bst n Ts 1025).1
def QH (Ts:G0 (G0 (G0 P2)))(w:G0 G6):Prop:=w≠ []/\ ∀i∈w,i<Ts.length
structure Bin (n:G6)(Ts:G0 (G0 (G0 P2)))(k:G6)(s:Fnd×G0 (G0 G6)):Prop where
 nd:(s.1.map (·.1)).Nodup
 fd: ∀p∈s.1,p.1=mkW n Ts p.2/\QH Ts p.2/\p.2.length<=k
 fr: ∀w∈s.2,QH Ts w/\w.length=k+1
structure Mid (n:G6)(Ts:G0 (G0 (G0 P2)))(k f:G6)(s:Fnd×G0 (G0 G6)):Prop where
 nd:(s.1.map (·.1)).Nodup
 fd: ∀p∈s.1,p.1=mkW n Ts p.2/\QH Ts p.2/\p.2.length<=k+1
 fr: ∀w∈s.2,QH Ts w/\w.length=k+2
 le:f<=s.1.length
 gr:s.2.length<=3*(s.1.length-f)
section
variable {n k f:G6}{Ts:G0 (G0 (G0 P2))}{s:Fnd×G0 (G0 G6)}{w:G0 G6}
theorem XE (n3:n<=3)(nd:(s.1.map (·.1)).Nodup)(fd: ∀p∈s.1,p.1=mkW n Ts p.2):s.1.length<=512:=by
 have:=Fo n3 nd λM hM=>by
  obtain⟨p,hp,rfl⟩:=R6.mp hM;rw [fd p hp];exact Vy _
 rwa [G5] at this
theorem Mid.few (m:Mid n Ts k f s)(n3:n<=3):s.1.length<=512:=XE n3 m.nd λp hp=>(m.fd p hp).1
theorem Bin.few (m:Bin n Ts k s)(n3:n<=3):s.1.length<=512:=XE n3 m.nd λp hp=>(m.fd p hp).1
theorem Ji (h:(jZ s.1 (mkW n Ts w)).isSome=true):lvS n Ts s w=s:=R8 h
theorem Jj (h:(jZ s.1 (mkW n Ts w)).isSome=false):lvS n Ts s w=(s.1++ [(mkW n Ts w,w)],s.2++(D4 Ts.length).map λa=>w++ [a]):=R9 (by rw [h];exact D6)
theorem Mid.step (m:Mid n Ts k f s)(l3:Ts.length<=3)(hw:QH Ts w)(hl:w.length=k+1):Mid n Ts k f (lvS n Ts s w):=by
 cases h:(jZ s.1 (mkW n Ts w)).isSome with
 |true=>rw [Ji h];exact m
 |false=>
  rw [Jj h];have no:jZ s.1 (mkW n Ts w)=none:=kM.mp (by cases z:jZ s.1 (mkW n Ts w) with
   |none=>rfl
   |some _=>rw [z] at h;cases h)
  refine⟨?_,λp hp=> ?_,λv hv=> ?_,?_,?_⟩
  ·show ((s.1++ [(mkW n Ts w,w)]).map (·.1)).Nodup;rw [T9];refine W3.mpr ⟨m.nd,by simp,λx hx y hy z=> ?_⟩;rw [G8.mp hy] at z;have z:x=mkW n Ts w:=z;rw [z] at hx;exact Ye no hx
  ·rcases D8.mp hp with z|z
   ·exact m.fd p z
   ·rw [G8.mp z];exact⟨rfl,hw,E5 hl⟩
  ·rcases D8.mp hv with z|z
   ·exact m.fr v z
   ·obtain⟨a,ha,rfl⟩:=R6.mp z;refine⟨⟨by simp,λi hi=> ?_⟩,by rw [P1,hl];rfl⟩;rcases D8.mp hi with z|z
    ·exact hw.2 i z
    ·rw [G8.mp z];exact D0.mp ha
  ·show f<=(s.1++ [(mkW n Ts w,w)]).length;rw [P1];have:=m.le;omega
  ·show (s.2++(D4 Ts.length).map λa=>w++ [a]).length<=3*((s.1++ [(mkW n Ts w,w)]).length-f);rw [P1,P1,G5,S6];have:=m.le;have:=m.gr;show _<=3*(s.1.length+1-f);omega
theorem Bin.mid (b:Bin n Ts k s):Mid n Ts k s.1.length (s.1,[]):=⟨b.nd,λp hp=>let ⟨x,y,z⟩:=b.fd p hp;⟨x,y,qO z⟩,(λ_ h=>nomatch h),P6 _,N9 _⟩
theorem Bin.mids (b:Bin n Ts k s)(l3:Ts.length<=3): ∀i,Mid n Ts k s.1.length ((s.2.take i).foldl (lvS n Ts) (s.1,[]))
 |0=>b.mid
 |i+1=>by
  by_cases h:i<s.2.length
  ·rw [uC,G2 h,gI];exact(b.mids l3 i).step l3 (b.fr _ (M7 h)).1 (b.fr _ (M7 h)).2
  ·rw [M6 (by omega),<-M6 (g6 h)];exact b.mids l3 i
theorem Bin.end_ (b:Bin n Ts k s)(l3:Ts.length<=3):Mid n Ts k s.1.length (Fp n Ts s):=by
 have:=b.mids l3 s.2.length
 rwa [U9] at this
theorem Mid.bin (m:Mid n Ts k f s):Bin n Ts (k+1) s:=⟨m.nd,m.fd,m.fr⟩
theorem wX (l3:Ts.length<=3): ∀k,Bin n Ts k (bst n Ts k)
 |0=>⟨oK,(λ_ h=>nomatch h),λw hw=>by
  obtain⟨a,ha,rfl⟩:=R6.mp hw;exact⟨⟨by simp,λi hi=>by rw [G8.mp hi];exact D0.mp ha⟩,rfl⟩⟩
 |k+1=>((wX l3 k).end_ l3).bin
def QJ (s:Fnd×G0 (G0 G6)):G6:=2*(512-s.1.length)+(if s.2= [] then 0 else 1)
theorem XF (b:Bin n Ts k s)(n3:n<=3)(l3:Ts.length<=3)(h:s.2≠ []):QJ (Fp n Ts s)<QJ s:=by
 have m:=b.end_ l3;have:=m.few n3;have:=m.le;have g:=m.gr;unfold QJ;rw [R9 h]
 by_cases e:(Fp n Ts s).1.length=s.1.length
 ·rw [e] at g ⊢;rw [R8 (J6 (by omega))];omega
 ·split<;>omega
theorem Vz (h:(bst n Ts k).2= []): ∀j,bst n Ts (k+j)=bst n Ts k
 |0=>rfl
 |j+1=>by
  show Fp n Ts (bst n Ts (k+j))=_;rw [Vz h j];unfold Fp;rw [h];show ((bst n Ts k).1,[])=_;rw [<-h]
theorem DE (h:(bst n Ts k).2= [])(hk:k<=1025):(bst n Ts k).1=fnd n Ts:=by
 unfold fnd;rw [<-Vz h (1025-k),show k+(1025-k)=1025 by omega]
theorem VA (l1:1<=Ts.length):0+QJ (bst n Ts 0)<=1025:=by
 unfold QJ;show 0+(2*(512-0)+_)<=1025;split<;>omega
theorem Zz (l3:Ts.length<=3):Bin n Ts 1025 (bst n Ts 1025):=wX l3 _
end
theorem XG {β:Type}(f:α->β)(T:G0 (G0 P2)): ∀kv:G0 (G0 (G0 P2)×α),jZ (kv.map λp=>(p.1,f p.2)) T=(jZ kv T).map f
 | []=>rfl
 |p::kv=>by
  have ih:=XG f T kv;unfold jZ at ih ⊢;rw [T5,Q1,Q1];dsimp only;cases decide (p.1=T) with
  |true=>rfl
  |false=>exact ih
theorem Yf {α:Type}{kv:G0 (G0 (G0 P2)×α)}{T:G0 (G0 P2)}{d:α}(h:jZ kv T=none):Vu kv T d=kv++ [(T,d)]/\jZ (Vu kv T d) T=some d:=by
 have e:Vu kv T d=kv++ [(T,d)]:=by unfold Vu;rw [h];rfl
 refine⟨e,?_⟩;rw [e];unfold jZ at h ⊢;rw [qT,V6.mp h];rw [Option.none_or,Q1,S7 rfl];rfl
def kvW (F:Fnd):G0 (G0 (G0 P2)×D):=F.map λp=>(p.1,Xi p.2)
theorem DF {F:Fnd}{T:G0 (G0 P2)}:(jZ (kvW F) T).isSome=(jZ F T).isSome:=by
 unfold kvW;rw [XG,qU]
theorem Fq {F:Fnd}{T:G0 (G0 P2)}{w:G0 G6}(h:(jZ F T).isSome=false):Vu (kvW F) T (Xi w)=kvW (F++ [(T,w)]):=by
 have z:jZ (kvW F) T=none:=by
  cases e:jZ (kvW F) T with
  |none=>rfl
  |some _=>have:=DF (F:=F) (T:=T);rw [e,h] at this;cases this
 rw [(Yf z).1];unfold kvW;rw [T9];rfl
def wyD (n:G6)(Ts:G0 (G0 (G0 P2)))(w:G0 G6):D:= .tup [Xi w,jp (mkW n Ts w)]
theorem XH {n:G6}(g:G6->G0 (G0 P2)->G0 (G0 P2)):Vc ((D4 Ts.length).map λi=>jp (g i (Ts.getD i [])))=(D4 Ts.length).map λ(j:G6)=>D.tup [.int (j:P2),jp (g j (Ts.getD j []))]:=by
 apply cP;intro i
 by_cases hi:i<Ts.length
 ·have hi':i<(Vc ((D4 Ts.length).map λi=>jp (g i (Ts.getD i [])))).length:=by rw [yV,G5,S6];exact hi
  obtain⟨x,hx,ed⟩:=WN (G2 hi');rw [G2 hi',ed];rw [D3,W8 hi] at hx ⊢;injection hx with hx
  rw [<-hx];rfl
 ·rw [F7 (by rw [yV,G5,S6];omega),F7 (by rw [G5,S6];omega)]
theorem Wr (Ts:G0 (G0 (G0 P2))):Ts.map jp=(D4 Ts.length).map λi=>jp (Ts.getD i []):=by
 apply cP;intro i;rw [D3,D3]
 by_cases hi:i<Ts.length
 ·rw [W8 hi,G2 hi];show some (jp Ts[i])=some (jp (Ts.getD i []));rw [P7,G2 hi];rfl
 ·rw [F7 (by omega),F7 (by rw [S6];omega)];rfl
end L2
namespace L2
open PySem PySem.Spec PyProof.Rows HT PySem.SeqAt
theorem MR (r r':G0 P2):alk (yw r) (yw r')=true:=Xv r r'
section
variable {prog:T3}{w:B9}{A:N6}{E:G1->G3->Prop}{s:G3}
def IB (prog:T3)(w:B9)(h:O6)(v:G1)(T:G0 (G0 P2)):Prop:= ∃a,v= .ref a/\ZQ prog w h T a/\T≠ []
theorem IB.keeps {h h':O6}{v:G1}{T:G0 (G0 P2)}(k:Vl h h'):IB prog w h v T->IB prog w h' v T
 |⟨a,e,t,n⟩=>⟨a,e,(Fh prog w).keep (λc o _ q=>k c o q) t,n⟩
open Classical in
noncomputable def VB (prog:T3)(w:B9)(h:O6)(v:G1):G0 (G0 P2):=if e: ∃T,IB prog w h v T then e.choose else []
theorem IB.told {h:O6}{v:G1}{T:G0 (G0 P2)}(x:IB prog w h v T):VB prog w h v=T:=by
 have e: ∃T,IB prog w h v T:=⟨T,x⟩;unfold VB;rw [oU e];obtain⟨a,e1,t,_⟩:=e.choose_spec;obtain⟨b,e2,t2,_⟩:=x;rw [e1] at e2;cases e2;exact(Fh prog w).inj t t2
theorem MS {vs:G0 G1}(h2:2<=vs.length)(x: ∀v∈vs,∃T,IB prog w s.heap v T){Q:SortKind->G3->Prop}(q:Q (KL false) s):R3 (R7 prog w) A (tX vs.toArray) Q E s:=by
 have go: ∀l:G0 G1,(∀v∈l,v∈vs)-> ∃fs:G0 G1,G0b s.heap l fs/\fs.length=l.length/\ ∀f∈fs,∃b o,f= .ref b/\s.heap.get? b=some o/\o.cls= .type "tuple" :=by
  intro l
  induction l with
  |nil=>exact λ_=>⟨[],.nil,rfl,λf hf=>absurd hf C9⟩
  |cons v l ih=>
   intro sub;obtain⟨fs,e1,e2,e3⟩:=ih λu hu=>sub u (R1 _ hu)
   obtain⟨T,a,rfl,⟨o,its,n,ho,hc,hd,hi⟩,ne⟩:=x v (sub v P4);obtain⟨l⟩:=its;have hi:RowsIn prog w s.heap T l:=hi;cases hi with
   |nil=>exact absurd rfl ne
   |cons ra rest=>
    rename_i r b T' vs';refine⟨.ref b::fs,.cons ho hc hd rfl e1,by rw [D9,D9,e2],λf hf=> ?_⟩;rcases R5.mp hf with rfl|hf
    ·obtain⟨o',_,_,q1,q2,_⟩:=ra;exact⟨b,o',rfl,q1,q2⟩
    ·exact e3 f hf
 obtain⟨fs,t,len,ty⟩:=go vs λ_ h=>h
 refine PySem.W.kat_kind (T:= .type "tuple") t (by omega) (λf hf=> ?_) rfl q;obtain⟨b,o,rfl,ho,hc⟩:=ty f hf;rw [<-hc];exact(PySem.W.Looks.ld ho).andThen .now
theorem XI {fin:N0}{Q:N0->G3->Prop}(hu:A.units+16<cLine)(m n:G6)(ef:fin=decide (m<n)): ∀ {vs us:G0 G1} {T U:G0 (G0 P2)} (i:G6),RowsIn prog w s.heap T vs->RowsIn prog w s.heap U us->T.length+n=U.length+m->Q (zn T U) s->G0l prog w A false fin Q (vs.zip us) i s
 |_,_,_,_,i,.nil,.nil,l,q=>by
  subst ef;rw [qV];refine nC ?_;rw [S8 (by rw [L5] at l;omega)];exact q
 |_,_,_,_,i,.nil,.cons c y,l,q=>by
  subst ef;rw [qV];refine nC ?_;rw [S7 (by rw [L5,D9] at l;omega)];exact q
 |_,_,_,_,i,.cons a x,.nil,l,q=>by
  subst ef;rw [List.zip_nil_right];refine nC ?_;rw [S8 (by rw [L5,D9] at l;omega)];exact q
 |_,_,_,_,i,.cons (r:=r) (b:=b) (T:=T) a x,.cons (r:=r') (b:=b') (T:=U) c y,l,q=>by
  rw [aP];have q:Q (if r=r' then zn T U else HT.zt r r') s:=q;refine KY (pP (by omega) a c ?_)
  by_cases z:r=r'
  ·rw [R8 z] at q;rw [S7 z];exact G0c (XI hu m n ef (i+1) x y (by rw [D9,D9] at l;omega) q)
  ·rw [R9 z] at q;rw [S8 z];refine G0m (by
    rw [nP];refine G0d _ _ ?_;obtain⟨o,items,k,ho,hc,hd,hi⟩:=a;obtain⟨o',items',k',ho',hc',hd',hi'⟩:=c;refine Xt (yw r) (yw r') A s _ _ [] [] (.tuple ho hc hd (yq hi)) (.tuple ho' hc' hd' (yq hi')) (Wj r) (Wj r') (MR r r') (by have:=Pr r;omega) prog w _ _ ?_;rw [show ltP (yw r) (yw r')=HT.zt r r' from Xu r r'];exact q)
theorem MT (hu:A.units+16<cLine){h0 h':O6}(k:Vl h0 h'):WY prog w A (HT.Only s h') (KL false) (λx=> ∃T,IB prog w h0 x.1 T) (λx y=>zn (VB prog w h0 x.1) (VB prog w h0 y.1)):=by
 rintro ⟨x,x'⟩ ⟨y,y'⟩ ⟨T,tx⟩ ⟨U,ty⟩ s1 ⟨tk,rfl⟩;dsimp only at tx ty ⊢;have q:(zn T U=zn (VB prog w h0 x) (VB prog w h0 y)/\HT.Only s h' {s with heap:=h',toks:=tk}):=⟨by rw [tx.told,ty.told],tk,rfl⟩;obtain⟨a,rfl,⟨o,its,n,ho,hc,hd,hi⟩,_⟩:=tx.keeps k;obtain⟨b,rfl,⟨o2,its2,n2,ho2,hc2,hd2,hi2⟩,_⟩:=ty.keeps k;refine G0n ho hd ho2 hd2 (XI (s:= {s with heap:=h',toks:=tk}) hu its.size its2.size rfl 0 hi hi2 ?_ q);have z1:T.length=its.size:=hi.len;have z2:U.length=its2.size:=hi2.len;omega
theorem Fs {U:D7->Prop}(key:G1->G0 (G0 P2)):Ordd U (λx y=>zn (key x.1) (key y.1)):=⟨λx y _ _ h=>PR h,λx y z _ _ _ h=>by
 rcases Yc (key x.1) (key y.1) with e|e|e
 ·exact .inr (by rw [<-e];exact h)
 ·exact .inl e
 ·exact .inr (Yb e h)⟩
end
def Lb:G1->P3
 | .ref b=>b
 |_=>0
theorem ZR {X:Cx}{k:G6}(hc:X.calm=true)(hr:Room k X.A):CallR X (.builtin "sorted") (λxs H Q=> ∃ (p:P3) (o:Obj) (Ts B:G0 (G0 (G0 P2))),xs= [.ref p]/\H p=some (AG o)/\MO X.prog X.w H o Ts/\B.length<1000/\(∀T∈Ts,T∈B/\T≠ [])/\
 ∀ (q:P3) (qs:G0 NU),H q=none->(∀x∈qs,Wp H x.2 x.1)->(qs.map (·.2)).Pairwise (λx y=>zn x y=true)->(∀k,k∈qs.map (·.2)↔k∈Ts)->Q (.ref q) (upd H q (.lst (qs.map λp=>V.ref p.1)))):=by
 intro pins s σ H xs us Q I r h;obtain⟨p,o,Ts,B,rfl,hp,⟨es,ep,t,f,rfl,S⟩,few,ht,q⟩:=h;obtain⟨u,rfl,ru⟩:=JY r;cases ru;have hu:X.A.in1.in1.units+16<cLine:=by
  have:=hr.un;show X.A.units+1+1+16<cLine;omega
 have it: ∀e∈es.toList,IB X.prog X.w s.heap e.2 (f e)/\Wp H (f e) (Lb e.2)/\e.2= .ref (Lb e.2):=λe he=>by
  obtain⟨_,b,eb,hb⟩:=S.each e he;rw [eb];exact⟨⟨b,rfl,yG I _ _ hb,(ht _ ((S.mem _).mp (bO he))).2⟩,hb,rfl⟩
 have sz:es.size<1000:=by
  have:=vI (ys:=B) S.nd λk hk=>(ht k ((S.mem k).mp hk)).1
  rw [G5,D1] at this;omega
 refine Uy (κ:=λ_=>KL false) (U:=λx=> ∃T,IB X.prog X.w s.heap x.1 T) (R:=λx y=>zn (VB X.prog X.w s.heap x.1) (VB X.prog X.w s.heap y.1)) (I.ok.hd hc) S.tab (I.hok p _ hp).1 sz (λe he=>⟨_,(it e he).1⟩)
  (λvs s0 h' h2 x k=>MS (s:= {s0 with heap:=h'}) h2 (λv hv=>(x v hv).imp λT z=>z.keeps k) ⟨rfl,s0.toks,rfl⟩) (λvs s0 h' k=>MT hu k) (Fs _) λh1 h' d tk c out k1 k2 lies pm srt=> ?_
 obtain⟨zs,pz,rfl⟩:=Vn pm;have I1:=(I.kept (t':=s.toks) k1).drew d;have vv: ∀l:G0 (P2×G1),(∀z∈l,z∈es.toList)->Vals ((l.map λe=>((Lb e.2,f e):NU)).map λp=>V.ref p.1) (l.map (·.2)):=λl=>by
  induction l with
  |nil=>exact λ_=> .nil
  |cons z l ih=>exact λsub=> .cons (it z (sub z P4)).2.2 (ih λy hy=>sub y (R1 _ hy))
 have m2:(zs.map λe=>((Lb e.2,f e):NU)).map (·.2)=zs.map f:=by rw [B6];rfl
 refine⟨.ref _,_,I1.laid (t':=tk) (o:= .lst ((zs.map λe=>((Lb e.2,f e):NU)).map λp=>V.ref p.1)) k2 (P6 _) ⟨?_,_,c,vv zs λz hm=>pz.mem_iff.mp hm,lies⟩,rfl,q _ (zs.map λe=>(Lb e.2,f e)) (I1.hok.fresh (P6 _)) (λx hx=> ?_) ?_ λk=> ?_⟩
 ·rw [G5,G5,pz.length_eq,D1];exact S0 (show es.size<=1000 by omega) (by decide)
 ·obtain⟨e,he,rfl⟩:=R6.mp hx;exact(it e (pz.mem_iff.mp he)).2.1
 ·rw [m2];have nd:(zs.map f).Nodup:=(pz.map f).nodup_iff.mpr S.nd;unfold pO at nd;rw [W0] at srt nd ⊢;refine(srt.and nd).imp_of_mem λ{y z} hy hz ⟨e,ne⟩=> ?_
  dsimp only at e;rw [(it y (pz.mem_iff.mp hy)).1.told,(it z (pz.mem_iff.mp hz)).1.told] at e;rcases Yc (f y) (f z) with w|w|w
  ·exact absurd w ne
  ·exact w
  ·rw [w] at e;cases e
 ·rw [m2];exact(pz.map f).mem_iff.trans (S.mem k)
def Hs (ta:TAD):TED:=λσ h Q=>ta σ h λds h1=> ∃ (a:P3) (Ts B:G0 (G0 (G0 P2))),ds= [.lst a]/\h1 a=some (Ts.map jp)/\B.length<1000/\(∀T∈Ts,T∈B/\T≠ [])/\ ∀ (p:P3) (ks:G0 (G0 (G0 P2))),h1 p=none->ks.Pairwise (λx y=>zn x y=true)->(∀k,k∈ks↔k∈Ts)->Q (.lst p) (zB h1 p (ks.map jp))
variable {K:G7}{H:Hp}
theorem DG: ∀ {Ts:G0 (G0 (G0 P2))} {ws:G0 V},RelDs K H (Ts.map jp) ws-> ∃ps:G0 NU,ws=ps.map (λp=>V.ref p.1)/\Ts=ps.map (·.2)/\ ∀p∈ps,RelD K H (jp p.2) (.ref p.1)
 | [],ws,r=>by cases (show ws= [] from r);exact⟨[],rfl,rfl,λ_ z=>nomatch z⟩
 |T::Ts,ws,r=>by
  obtain⟨v,t,e,g1,g2⟩:=(show ∃v t,ws=v::t/\RelD K H (jp T) v/\RelDs K H (Ts.map jp) t from r);subst e;obtain⟨ps,rfl,rfl,hp⟩:=DG g2;obtain⟨b,us,eb,_⟩:=(show ∃a vs,v= .ref a/\H a=some (.tup vs)/\_ from g1);subst eb;exact⟨(b,T)::ps,rfl,rfl,λp hp'=>(R5.mp hp').elim (λz=>by rw [z];exact g1) (hp p)⟩
theorem DH: ∀ {qs:G0 NU},(∀x∈qs,RelD K H (jp x.2) (.ref x.1))->RelDs K H ((qs.map (·.2)).map jp) (qs.map λp=>V.ref p.1)
 | [],_=>rfl
 |q::qs,h=>⟨_,_,rfl,h q P4,DH λx hx=>h x (R1 _ hx)⟩
theorem ZA: ∀ {T:G0 (G0 P2)} {vs:G0 V},Dq H vs T->RelDs K H (T.map zO) vs
 | [],[],_=>rfl
 |r::T,v::vs,⟨⟨c,e,hc⟩,x⟩=>⟨v,vs,rfl,⟨c,_,e,hc,yn r⟩,ZA x⟩
theorem QK {T:G0 (G0 P2)}{b:P3}:Wp H T b->RelD K H (jp T) (.ref b)
 |⟨us,hb,x⟩=>⟨b,us,rfl,hb,ZA x⟩
theorem Ht {X : Cx} {k : G6} {a : M9} {ta : TAD} {p p2 pos pos2 : Pos} (hr : Room k X.A) (hc : X.calm = true) (hg : Gl X "sorted") (hm : X.mg "sorted" = none) (hg2 : Gl X "set") (hm2 : X.mg "set" = none) (ha : JA X [a] ta) (hs : S1 [a] X.env = [(false, J7 a X.env)] := by rfl)
    (h1 : S1 [.Call (.Name "set" p2) [a] [] pos2] X.env = (false, J7 (.Call (.Name "set" p2) [a] [] pos2) X.env) :: S1 [] X.env := by rfl) (h2 : (U6 pos (S1 [] X.env)).any (·.1) = false := by rfl) (h3 : (U6 pos2 (S1 [] X.env)).any (·.1) = false := by rfl) :
    JE X (.Call (.Name "sorted" p) [.Call (.Name "set" p2) [a] [] pos2] [] pos) (Hs ta) :=
  ⟨(Wx (ZR hc hr) hg hm (by decide +kernel) (wS (YL (Vt hc hr) hg2 hm2 (by decide +kernel) ha.to (by decide) (by decide) hs h3) pa_nil h1) (by decide) (by decide) h1 h2).imp
    fun σ H Q ⟨σd, h, Qd, rs, rh, t, post⟩ => LA.bind rs rh t fun ds vs h1 H1 k1 rs1 rh1 r1 ⟨a, Ts, B, e, hd, few, inB, q⟩ => by
      subst e
      obtain ⟨v, e, r2⟩ := jG r1
      obtain ⟨ws, hH, r3⟩ := rh1 a _ hd
      have e1 : v = .ref a := r2.1
      subst e e1
      obtain ⟨ps, rfl, rfl, hp⟩ := DG r3
      have inP : ∀ p ∈ ps, p.2 ∈ B ∧ p.2 ≠ [] := fun p h => inB _ (bO h)
      refine ⟨a, ps, B, rfl, SqL.of hH, few, fun p h => (inP p h).1, fun p h => tab_of (hp p h), fun c o hcn acc => ?_⟩
      have kc : Kept H1 (upd H1 c (AG o)) := .new hcn
      obtain ⟨f, es, ep, t, eo, S⟩ := acc
      refine ⟨c, o, (ps.map (·.2)).reverse, B, rfl, jt, ⟨es, ep, t, f, eo, S.imp fun k b z => tab_of ((hp _ z).mono kc)⟩, few, fun T hT => ?_, fun l qs hl sub srt mem => ?_⟩
      · obtain ⟨p, hp', rfl⟩ := R6.mp (A5.mp hT)
        exact inP p hp'
      have rh2 := rh1.new (o := AG o) hcn
      exact post (.lst l) (.ref l) _ _ (k1.trans (kc.trans (.new hl))) (rh2.newL hl (DH fun x hx => QK (sub x hx))) ⟨rfl, _, jt⟩ (q l (qs.map (·.2)) (rh2.free hl) srt fun k => by rw [mem k, A5])⟩
end L2
namespace HT
open PySem PyProof.Rows
def ZM {K α:Type}[DecidableEq K](kv:G0 (K×α))(k:K):G0 (K×α):=kv.filter λp=> !decide (p.1=k)
theorem VC {K α:Type}[DecidableEq K]{k:K}{p:α}: ∀ {xs:G0 (K×α)} {j:G6},(xs.map (·.1)).Nodup->xs[j]? =some (k,p)->xs.eraseIdx j=ZM xs k
 | [],_,_,h=>by cases h
 |x::xs,0,nd,h=>by
  injection h with h
  subst h;unfold ZM;rw [List.eraseIdx_cons_zero,J3 (by simp)];refine(dU.mpr λy hy=> ?_).symm;have ne:y.1≠k:=λz=>(E8.mp nd).1 (R6.mpr ⟨y,hy,z⟩)
  rw [S8 ne];rfl
 |x::xs,j+1,nd,h=>by
  rw [T5] at nd;have h:xs[j]? =some (k,p):=h;have ne:x.1≠k:=λz=>(E8.mp nd).1 (R6.mpr ⟨_,P8 h,z.symm⟩)
  rw [List.eraseIdx_cons_succ,VC (E8.mp nd).2 h];unfold ZM;rw [J4 (by rw [S8 ne];rfl)]
theorem DI {α β:Type}(f:α->β)(xs:G0 α)(j:G6):(xs.map f).eraseIdx j=(xs.eraseIdx j).map f:=by
 rw [gU,gU,T9,iA,lH]
section
variable {prog:T3}{w:B9}{K:Type}[DecidableEq K]{knd:HeapKind prog w K}{A:N6}{E:G1->G3->Prop}{s:G3}{d a:P3}{k:K}{xs:G0 (K×P3×G1)}
theorem DJ {Q:D2 lW->G3->Prop}(hu:knd.room A)(hkey:knd.is s.heap k a)(hm:s.heap.DictOfH knd d xs)(hp:(f8 xs k).isSome=true)(hsz:xs.length<=sizeLine)
 (q: ∀e h',h'.DictOfH knd d (ZM xs k)->O7 d s.heap h'->Q (some e) {s with heap:=h',toks:=s.toks+knd.draws k}):R3 (R7 prog w) A (Builtin.Dict.takeOut d (.ref a)) Q E s:=by
 obtain⟨o,es,ep,ho,hx,hd,he,his,nd⟩:=hm;have le:es.size=xs.length:=size_of_entries he;unfold Builtin.Dict.takeOut;refine O1 (wpAny_bind (knd.pyHash hu hkey (wpAny_bind (wpAny_dictFind_heap (s:= {s with toks:=s.toks+knd.draws k}) hu hkey ho hd he his nd (λno=> ?_) λj p hj=> ?_))))
 ·obtain⟨y,hy⟩:=dY.mp hp;unfold f8 at hy;obtain⟨x,hx,_⟩:=F4.mp hy;obtain⟨j,hj⟩:=bF (Q5 hx);have ek:x.1=k:=by have z:=cG hx;exact H0 z
  exact absurd (by rw [hj,<-ek]) (no j x.2)
 ·have jl:j<es.size:=by rw [le];exact(P9.mp hj).1
  refine wpAny_bind (qW (s:= {s with toks:=s.toks+knd.draws k}) ho hd ?_);rw [entry_at he j,hj];refine wpAny_bind (wpAny_updateDictKeys (s:= {s with toks:=s.toks+knd.draws k}) ho hd (P0 (q _ _ ?_ (O5 ..))) (by omega) ?_)
  ·refine⟨_,_,ep+1,L6 _ ho (Obj.isFreed_of_dict (oM hd _)),hx.mapDictKeys _,oM hd _,?_,λx hx'=> ?_,?_⟩
   ·rw [<-VC nd hj];show (es.eraseIdxIfInBounds j).toList=_;unfold lO;rw [oU jl,nJ,he,DI]
   ·exact knd.keeps (his x (C1.mp hx').1) ho hd (O5 ..)
   ·exact nd.sublist (G0.filter_sublist.map _)
  ·show (es.eraseIdxIfInBounds j).size<=_;unfold lO;rw [oU jl,Array.size_eraseIdx];omega
theorem MU {Q:Unit->G3->Prop}(hu:knd.room A.in1)(hkey:knd.is s.heap k a)(hm:s.heap.DictOfH knd d xs)(hp:(f8 xs k).isSome=true)(hsz:xs.length<=sizeLine)
 (q: ∀h',h'.DictOfH knd d (ZM xs k)->O7 d s.heap h'->Q () {s with heap:=h',toks:=s.toks+knd.draws k}):R3 (R7 prog w) A (delItem (.ref d) (.ref a)) Q E s:=by
 have ty:=hm.typeIs;unfold delItem;refine O1 (wpAny_bind (lA ty (by decide) (wpAny_bind (E9 (name:=aF "__delitem__") ty o5 (L9 o5 ty F.entry_dict_delitem ?_ (F.args_dict_delitem_2 _ _))))));unfold Builtin.«dict.__delitem__» Builtin.Dict.dictSlotArgs;refine wpAny_bind (wpAny_bind (gW ty (P0 ?_)));refine wpAny_bind (P0 (wpAny_bind (DJ hu hkey hm hp hsz λe h' z1 z2=> ?_)));exact wpAny_bind (wpAny_letGo (P0 ⟨_,rfl,P0 (q h' z1 z2)⟩))
end
section
variable {prog:T3}{w:B9}{A:N6}{E:G1->G3->Prop}{s:G3}{d:P3}{dd:D2 P3}{es:S9 lW}{ep:G6}{sl:S9 (D2 G1)}
theorem MV {Q:G1->G3->Prop}(hd:s.heap.get? d=some {cls:= .type "dict",dict:=dd,data:= .dict es ep,slots:=sl})(lo:(d==bX)=false)(sm:es.size<=sizeLine)
 (q:Q (.int es.size (s.toks+1)) {s with toks:=s.toks+1+1}):R3 (R7 prog w) A (Builtin.«len» ⟨[.ref d],[]⟩) (λfin s'=> ∃r,fin= .done (.ret r)/\Q r s') E s:=by
 have ty:s.TypeIs (.ref d) "dict" :=⟨_,hd,rfl⟩;have big:(es.size:P2)<2^63:=pL (Int.ofNat_le.mpr sm) (by decide);unfold Builtin.«len»;refine wpAny_bind (m:=oneArg "len" _) (P0 (wpAny_bind (m:=qE (.ref d) (aF "__len__")) (E9 (name:=aF "__len__") ty sP (L9 sP ty F.entry_dict_len ?_ (F.args_dict_len_1 _)))));unfold Builtin.«dict.__len__» Builtin.Dict.dictSlotNone dictSize;refine wpAny_bind (wpAny_bind (gW ty (P0 ?_)));refine wpAny_bind (P0 (wpAny_bind (wpAny_bind (qW hd rfl (P0 (wpAny_bind (wpAny_pendingCount_other lo (iJ ?_))))))));show R3 _ _ _ _ _ {s with toks:=s.toks+1};dsimp only
 wp_walk
 rw [R9 (show ¬ ((es.size:P2)+((0:G6):P2)>=2^63) by omega)];exact iJ (by simpa using q)
theorem QL {Q:N0->G3->Prop}(hd:s.heap.get? d=some {cls:= .type "dict",dict:=dd,data:= .dict es ep,slots:=sl})(lo:(d==bX)=false)(sm:es.size<=sizeLine)
 (q:Q (!es.isEmpty) {s with toks:=s.toks+1+1}):R3 (R7 prog w) A (mF (.ref d)) Q E s:=by
 have ty:s.TypeIs (.ref d) "dict" :=⟨_,hd,rfl⟩;have e:((es.size:P2) !=0)= !es.isEmpty:=by
  unfold u9
  by_cases c:es.size=0
  ·rw [c];rfl
  ·rw [S8 c,bne_iff_ne.mpr (by omega)];rfl
 have told:R3 (R7 prog w) A (runValue (.builtin "len" ⟨[.ref d],[]⟩)) (λr s'=>r= .int es.size (s.toks+1)/\s'= {s with toks:=s.toks+1+1}) E s:=
  uB (aC entry_len (by
   rw [Y5 plain_len _];exact T7 (MV (Q:=λr s'=>r= .int es.size (s.toks+1)/\s'= {s with toks:=s.toks+1+1}) hd lo sm ⟨rfl,rfl⟩) (λfin s' ⟨r,e1,z⟩=>by subst e1;exact z) λ_ _ z=>z))
 unfold mF;refine wpAny_bind (wpAny_callSpecial?_none (name:=aF "__bool__") ty noBool_dict (wpAny_bind (X0 (name:=aF "__len__") ty F.slot_dict_len.lookup ?_)));exact wpAny_bind (T7 told (λr s' ⟨e1,e2⟩=>by subst e1 e2;exact P0 (e ▸ q)) λ_ _ z=>z)
def KIt (h:O6)(it d:P3)(i n ep:G6):Prop:=h.get? it=some {cls:= .type "dict_keyiterator",data:= .fields #[.ref d,.int i 0,.int n 0,.int ep 0]}
theorem VD {it:P3}{i n:G6}{P:g7->G3->Prop}(hit:KIt s.heap it d i n ep)(hd:s.heap.get? d=some {cls:= .type "dict",dict:=dd,data:= .dict es ep,slots:=sl})(hn:es.size=n)
 (more: ∀ (e:lW) h',es[i]? =some e->KIt h' it d (i+1) n ep->O7 it s.heap h'->P (.done (.ret e.key)) {s with heap:=h'})
 (none_:es[i]? =none->R3 (R7 prog w) A (do mC (.ref it) 0 .none;raiseNew (<-newExc (.type "StopIteration") [])) P E s):R3 (R7 prog w) A (Builtin.«dict_keyiterator.__next__» ⟨[.ref it],[]⟩) P E s:=by
 have hT:s.TypeIs (.ref it) "dict_keyiterator" :=⟨_,hit,rfl⟩;have tn:=λ{Q:V1->G3->Prop} {E':G1->G3->Prop} {A':N6} (h:Q "dict_keyiterator" s)=>wpAny_typeNameOfWhole_keyiter (prog:=prog) (w:=w) (A:=A') (E:=E') hT h
 obtain⟨hp,g,dr,tk,os⟩:=s
 wp_walk using tn
 rw [R9 (show ¬ ((i:P2)<0) by omega),V4];cases hx:es[i]? with
 |none=>exact wpAny_bind (wpAny_bind (tn (P0 (none_ hx))))
 |some e=>
  refine wpAny_bind (wpAny_bind (tn (P0 (wpAny_bind (nM hT ?_)))));show R3 _ _ (mC (.ref it) 1 (K1 ((i:P2)+1)) >>= _) _ _ _;refine wpAny_bind (pN hit (by simp) λh1 e1 s1=> ?_);have e2:KIt h1 it d (i+1) n ep:=by unfold KIt;rw [show ((i+1:G6):P2)=(i:P2)+1 by omega];simpa [K1] using e1
  have T1:Shared.TypeIs ⟨h1,g,dr,tk,os⟩ (.ref it) "dict_keyiterator" :=⟨_,e2,rfl⟩;exact wpAny_bind (O1 (wpAny_bind (nM T1 (P0 (P0 (more e h1 hx e2 s1))))))
theorem QM {Q:G1->G3->Prop}(hd:s.heap.get? d=some {cls:= .type "dict",dict:=dd,data:= .dict es ep,slots:=sl})(lo:(d==bX)=false)
 (q:Q (.ref s.heap.objs.size) {s with heap:=s.heap.push {cls:= .type "dict_keyiterator",data:= .fields #[.ref d,.int 0 0,.int es.size 0,.int ep 0]}}):R3 (R7 prog w) A (pH (.ref d)) Q E s:=by
 have ty:s.TypeIs (.ref d) "dict" :=⟨_,hd,rfl⟩;refine lC ty rL (L9 rL ty F.entry_dict_iter ?_ (F.args_dict_iter_1 _));unfold Builtin.«dict.__iter__» Builtin.Dict.dictSlotNone Builtin.Dict.showsAll;refine wpAny_bind (wpAny_bind (gW ty (P0 ?_)));refine wpAny_bind (P0 ?_)
 wp_walk
 exact⟨_,rfl,"dict_keyiterator",_,⟨_,S5 _ rfl,rfl⟩,F.slot_dict_keyiterator_next.lookup,by simpa [K1] using q⟩
end
end HT
namespace L2
open PySem PySem.Spec PyProof.Rows HT PySem.SeqAt
theorem ZB {T:G0 (G0 P2)}: ∀ {xs:KT2} {ys:G0 (G0 (G0 P2)×P3×G1)},Paired yA xs ys->Paired yA (ZM xs T) (ZM ys T)
 |_,_,.nil=> .nil
 |_,_,.cons (a:=x) (b:=y) r z=>by
  have ih:=ZB (T:=T) z;unfold ZM at ih ⊢
  by_cases c:x.1=T
  ·rw [J3 (by rw [S7 c];exact D6),J3 (by rw [S7 (r.1 ▸ c)];exact D6)];exact ih
  ·rw [J4 (by rw [S8 c];rfl),J4 (by rw [S8 (r.1 ▸ c)];rfl)];exact .cons r ih
def SZ (td ty:TE):TS:=λD σ H=>td σ H λx H2=>ty σ H2 λy H3=> ∃ (a b:P3) (T:G0 (G0 P2)) (ep:G6) (xs:KT2),x= .ref a/\y= .ref b/\H3 a=some (JC a ep xs)/\(∀x∈xs,Wp H3 x.1 x.2.1)/\(xs.map (·.1)).Nodup/\Wp H3 T b/\T∈xs.map (·.1)/\ ∀ep',D.nx σ (upd H3 a (JC a ep' (ZM xs T)))
section
variable {X:Cx}
theorem Ft {o i:M9}{td ty:TE}{pos pos':Pos}(hu:X.A.units+9<cLine)(ho:PE X o td)(hi:PE X i ty):PS X (.Delete [.Subscript o i pos'] pos) (SZ td ty):=by
 intro pins s σ H D I h;refine wpAny_Delete (wpAny_deleteEach_cons (wpAny_delete_Subscript (thn (ho pins s σ H _ I h) λu s2 ⟨x,H2,I2,rx,q2⟩=>thn (hi pins s2 σ H2 _ I2 q2) λiv s3 ⟨y,H3,I3,ry,a,b,T,ep,xs,ex,ey,hH,ks,nd,hT,mem,q3⟩=> ?_)));subst ex ey;obtain rfl:u=U0 a:=rx;obtain rfl:iv=U0 b:=ry;obtain⟨h1,h2,ys,pr,dd⟩:=vJ I3 hH ks nd;obtain⟨k1,k2,k3⟩:=jQ pr;refine MU (knd:=Rw X.prog X.w) (show X.A.units+1+8<cLine by omega) (yG I3 T b hT) dd ?_ (by omega) λh' dd' hs=>wpAny_deleteEach_nil ?_
 ·obtain⟨y,hy,e⟩:=R6.mp (k1 ▸ mem);unfold f8;rw [qU,List.find?_isSome];exact⟨y,hy,S7 e⟩
 ·obtain⟨q,es,ep',hq,e2,e3,e4,_,_⟩:=dd';have lz:(ZM xs T).length<=sizeLine:=S0 (aR _ _) h2;refine⟨σ,_,Gy (ob:=JC a ep' (ZM xs T)) I3 (by rw [hH];exact cT) hs ⟨q,hq⟩ ⟨⟨h1,lz,_,ZB pr,q,es,hq,e2,e3,e4⟩,⟨q,hq⟩,λg1 g2 hg ke=> ?_⟩,q3 ep'⟩;obtain⟨a1,a2,ys',pr',o,es',ho,ex,hd,he⟩:=hg;exact⟨a1,a2,ys',pr',o,es',ke o ho,ex,hd,he⟩
def Ta (td ty:TED):TSD:=λE σ h=>td σ h λx h2=>ty σ h2 λy h3=> ∃a T ep kv,x= .dct a/\y=jp T/\h3.dc a=some (.tk ep kv)/\T∈kv.map (·.1)/\ ∀ep',E.nx σ (QZ h3 a (.tk ep' (ZM kv T)))
theorem VE {α β:Type}{T:G0 (G0 P2)}: ∀ {kv:G0 (G0 (G0 P2)×α)} {xs:G0 (G0 (G0 P2)×β)},kv.map (·.1)=xs.map (·.1)->(ZM kv T).map (·.1)=(ZM xs T).map (·.1)
 | [],[],_=>rfl
 |p::r,[],e=>by cases e
 | [],q::xs,e=>by cases e
 |p::r,q::xs,e=>by
  rw [T5,T5] at e;injection e with e1 e2
  have ih:=VE (T:=T) e2;unfold ZM at ih ⊢
  by_cases c:p.1=T
  ·rw [J3 (by rw [S7 c];exact D6),J3 (by rw [S7 (e1 ▸ c)];exact D6)];exact ih
  ·rw [J4 (by rw [S8 c];rfl),J4 (by rw [S8 (e1 ▸ c)];rfl),T5,T5,ih,e1]
theorem VF {K:G7}{H:Hp}{T:G0 (G0 P2)}: ∀ {kv:G0 (G0 (G0 P2)×D)} {xs:KT2},kv.map (·.1)=xs.map (·.1)->RelDs K H (kv.map (·.2)) (xs.map (·.2.2))->RelDs K H ((ZM kv T).map (·.2)) ((ZM xs T).map (·.2.2))
 | [],[],_,_=>rfl
 |p::r,[],e,_=>by cases e
 | [],q::xs,e,_=>by cases e
 |p::r,q::xs,e,h=>by
  rw [T5,T5] at e;injection e with e1 e2
  obtain⟨v0,t,z',h1,h2⟩:=(show ∃v t,q.2.2::xs.map (·.2.2)=v::t/\RelD K H p.2 v/\RelDs K H (r.map (·.2)) t from h);injection z' with z1 z2
  subst z1 z2;have ih:=VF (T:=T) e2 h2;unfold ZM at ih ⊢
  by_cases c:p.1=T
  ·rw [J3 (by rw [S7 c];exact D6),J3 (by rw [S7 (e1 ▸ c)];exact D6)];exact ih
  ·rw [J4 (by rw [S8 c];rfl),J4 (by rw [S8 (e1 ▸ c)];rfl)];exact⟨_,_,rfl,h1,ih⟩
theorem Tb {k : G6} {o i : M9} {td ty : TED} {pos pos' : Pos} (hr : Room k X.A) (ho : JE X o td) (hi : JE X i ty) : JS X (.Delete [.Subscript o i pos'] pos) (Ta td ty) :=
  ⟨(Ft (by have := hr.un; omega) ho.to hi.to).imp fun D σ H ⟨σd, h, Dd, rs, rh, t, nx, _⟩ => LE.bind rs rh t fun d2 v2 h2 H2 k2 rs2 rh2 r2 t2 => LE.bind rs2 rh2 t2 fun d3 v3 h3 H3 k3 rs3 rh3 r3 ⟨a, T, ep0, kv, e1, e2, e, mem, q⟩ => by
    subst e1 e2
    cases (show v2 = .ref a from r2)
    obtain ⟨b, us, ex, _⟩ := (show ∃ b vs, v3 = .ref b ∧ H3 b = some (.tup vs) ∧ RelDs X.K H3 (T.map zO) vs from r3)
    subst ex
    obtain ⟨xs, hH, nd, ek, tv, rv⟩ := (show ∃ xs : KT2, _ from rh3.dc a _ e)
    have ob : DObj (JC a ep0 xs) := .inr ⟨_, rfl⟩
    refine ⟨a, b, T, ep0, xs, rfl, rfl, hH, fun x hx => JL (tv x hx), by rw [← ek]; exact nd, JL r3, by rw [← ek]; exact mem, fun ep' => nx σd _ σ _ (k2.trans (k3.trans (.putD hH ob))) (rs3.mono (.putD hH ob)) (rh3.putC (c := .tk ep' (ZM kv T)) hH ob ?_) (q ep')⟩
    refine ⟨ZM xs T, jt, nd.sublist (G0.filter_sublist.map _), VE ek, fun x hx => (tv x (C1.mp hx).1).mono (.putD hH ob), (VF ek rv).mono (.putD hH ob)⟩⟩
def Tc (t:TE):TT:=λσ H Q=>t σ H λx H1=> ∃a ep xs,x= .ref a/\H1 a=some (JC a ep xs)/\Q (!xs.isEmpty) H1
theorem Fu {e:M9}{t:TE}(h:PE X e t)(he: ∀whole,isTrue e X.env whole=(do let v <-whole;fB e.pos;Y0 [v] (mF v)):=by intro _;rfl):PT X e (Tc t):=by
 intro pins s σ H Q I hw;refine pV (thn (h pins s σ H _ I hw) λv s1 ⟨x,H1,I1,r1,a,ep,xs,ex,hH,q⟩=> ?_) (he _);subst ex;cases r1;obtain⟨lo,sl,es,ys,hd,pr,hes,hn⟩:=Jh I1 hH;have sm:es.size<=sizeLine:=by rw [hn];exact(I1.hok a _ hH).1.2.1
 refine QL hd lo sm ⟨H1,I1.tok _,?_⟩;have e:(!es.isEmpty)= !xs.isEmpty:=by
  unfold u9;rw [hn];cases xs<;>rfl
 rw [e];exact q
def Td (t:TED):TTD:=λσ h Q=>t σ h λx h1=> ∃a ep kv,x= .dct a/\h1.dc a=some (.tk ep kv)/\Q (!kv.isEmpty) h1
theorem AJ {ta : TED} (ha : JE X a ta) (he : ∀ whole, isTrue a X.env whole = (do let v ← whole; fB a.pos; Y0 [v] (mF v)) := by intro _; rfl) : JT X a (Td ta) :=
  ⟨(Fu ha.to he).imp fun σ H Q ⟨σd, h, Qd, rs, rh, t, p⟩ => LE.bind rs rh t fun d v h1 H1 k1 rs1 rh1 r1 ⟨a, ep, kv, e, hc, q⟩ => by
    subst e
    cases (show v = .ref a from r1)
    obtain ⟨xs, hH, nd, ek, tv, rv⟩ := (show ∃ xs : KT2, _ from rh1.dc a _ hc)
    refine ⟨a, ep, xs, rfl, hH, ?_⟩
    have len : xs.length = kv.length := by have := congrArg Y4 ek; rw [G5, G5] at this; omega
    have e : (!xs.isEmpty) = !kv.isEmpty := by cases xs <;> cases kv <;> first | rfl | (simp at len)
    rw [e]
    exact p _ h1 H1 k1 rh1 q⟩
end
def Kyi (a : P3) (ep n : G6) : It :=
  ⟨fun i H => ∃ xs x, H a = some (JC a ep xs) ∧ xs.length = n ∧ xs[i]? = some x,
   fun i H v H' => H' = H ∧ ∃ b, v = .ref b ∧ ∀ xs, H a = some (JC a ep xs) → ∃ T u, xs[i]? = some (T, b, u),
   fun i H => ∃ xs, H a = some (JC a ep xs) ∧ xs.length = n ∧ n ≤ i⟩
variable {tg:M9}
theorem DK {P:T3}{w:B9}{K:G7}(a it:P3)(ep n:G6):Turn P w K tg (Kyi a ep n) [it] it (λi h=>KIt h it a i n ep) where
 mem:=by simp
 obj:=λi h q b hb=>by rw [G8.mp hb];exact⟨_,q,λv z=>by cases z⟩
 keep:=λi h h' q k=>k it (by simp) _ q
 item:=by
  intro X hP hw hK hc i pins s σ H E I hf hit hg;subst hP hw hK;obtain⟨xs,x,hH,hl,hx⟩:=hg;obtain⟨_,sl,es,ys,hd,pr,he,hn⟩:=Jh I hH;have ty:s.TypeIs (.ref it) "dict_keyiterator" :=⟨_,hit,rfl⟩;obtain⟨f0,f1,f2,f3,f4,f5⟩:=hf it (by simp);have il:i<ys.length:=by rw [<- (jQ pr).2.1];exact(P9.mp hx).1
  have hy:ys[i]? =some ys[i]:=G2 il;obtain⟨p1,p2,p3⟩:=wt pr hx hy;have ee:es[i]? =some ⟨Ue ys[i].1,.ref ys[i].2.1,ys[i].2.2⟩:=by rw [<-N5,he,D3,hy];rfl
  unfold pG;refine wpAny_bind (lJ (E9 (name:=aF "__next__") ty aD (L9 aD ty iG (VD hit hd (hn.trans hl) (λe h' hx' it2 same=>⟨_,rfl,P0 ⟨_,rfl,?_⟩⟩) λz=>by rw [ee] at z;cases z) (hJ _))));rw [ee] at hx';injection hx' with hx'
  subst hx';have I1:Inv X pins σ H {s with heap:=h'}:=I.turned (t':=s.toks) (λb o hb e=>same.extBut b o hb e) f0 f1 f3 f4 f5;refine RC (s:= {s with heap:=h'}) it2 rfl rfl (by decide) ⟨.ref x.2.1,H,I1,by rw [p2];rfl,⟨rfl,x.2.1,rfl,λxs' h2=> ?_⟩,it2,λb hb=>(hf b hb).1⟩;obtain⟨T,hT⟩:=Fn I hH h2 hx;exact⟨T,_,hT⟩
 done:=by
  intro X hP hw hK hc i pins s σ H E I hf hit hg;subst hP hw hK;obtain⟨xs,hH,hl,hi⟩:=hg;obtain⟨_,sl,es,ys,hd,pr,he,hn⟩:=Jh I hH;have ty:s.TypeIs (.ref it) "dict_keyiterator" :=⟨_,hit,rfl⟩;unfold pG;refine wpAny_bind (lJ (E9 (name:=aF "__next__") ty aD (L9 aD ty iG (VD hit hd (hn.trans hl) (λe h' hx' _ _=>by have:=(A2.mp hx').1;omega) λ_=>wpAny_bind (wpAny_setField hit rfl (by simp) (Zo (s:= {s with heap:=_}) (I.ok.hd hc) λh' e grown stop=> ?_))) (hJ _))));obtain⟨o,eo,co⟩:=stop;refine wpAny_bind (dG (T:= "StopIteration") (b:=true) ⟨o,eo,co⟩ tV ?_);have kp: ∀b o,b ∉ [it]->s.heap.get? b=some o->h'.get? b=some o:=λb o hb q=>grown b o ((gC _ _ (λz=>hb (by simp [z]))).trans q)
  have I2:Inv X pins σ H {s with heap:=h'}:=I.turnL (t':=s.toks) (ch:= [it]) kp hf;exact P0 ⟨rfl,I2⟩
 self:=λ_ _ _ _ _ q h=>wpAny_pyIter_keyiter ⟨_,q,rfl,rfl⟩ h
def Kt (td:TE):TI:=λσ H R=>td σ H λx H1=> ∃a ep xs,x= .ref a/\H1 a=some (JC a ep xs)/\R (Kyi a ep xs.length) H1
theorem Fv {X:Cx}{o:M9}{td:TE}(ho:PE X o td):PI X tg o (Kt td):=by
 intro pins s σ H R I h;refine thn (ho pins s σ H _ I h) λv s1 ⟨x,H1,I1,r1,a,ep,xs,ex,hH,q⟩=> ?_
 subst ex;cases r1;obtain⟨lo,sl,es,ys,hd,pr,he,hn⟩:=Jh I1 hH;refine QM hd lo ?_;rw [hn];refine⟨_,[s1.heap.objs.size],_,_,H1,rfl,I1.kept (t':=s1.toks) (λb u e=>G9 _ e),DK a _ ep xs.length,S5 _ rfl,λb hb=> ?_,q⟩;rw [G8.mp hb];exact I1.fpOk (P6 _) (I1.hok.fresh (P6 _))
def UC (a:P3)(ep n:G6):ItD:=λh=>match h.dc a with
 |some (.tk e kv)=>if e=ep/\kv.length=n then some (kv.map λp=>jp p.1) else none
 |_=>none
theorem XJ {h:HD}{a:P3}{ep:G6}{kv:G0 (G0 (G0 P2)×D)}(e:h.dc a=some (.tk ep kv)):UC a ep kv.length h=some (kv.map λp=>jp p.1):=by
 unfold UC;rw [e];exact R8 ⟨rfl,rfl⟩
theorem MW {h:HD}{a:P3}{ep n:G6}{ds:G0 D}(e:UC a ep n h=some ds): ∃kv,h.dc a=some (.tk ep kv)/\kv.length=n/\ds=kv.map λp=>jp p.1:=by
 unfold UC at e;split at e
 ·rename_i e' kv q
  by_cases c:e'=ep/\kv.length=n
  ·rw [R8 c] at e;exact⟨kv,by rw [q,c.1],c.2,(O9 e).symm⟩
  ·rw [R9 c] at e;cases e
 ·cases e
theorem DL {K:G7}{H:Hp}(a:P3)(ep n:G6):Ca K H (UC a ep n) (Kyi a ep n):=λH' h' _ rh ds e i=>by
 obtain⟨kv,hc,hl,rfl⟩:=MW e;obtain⟨xs,hH,nd,ek,tv,rv⟩:=(show ∃xs:KT2,_ from rh.dc a _ hc);have len:xs.length=n:=by have:=congrArg Y4 ek;rw [G5,G5] at this;omega
 refine⟨λd hd=> ?_,λhi=>⟨xs,hH,len,by rw [G5] at hi;omega⟩⟩;rw [D3] at hd;obtain⟨p,hp,rfl⟩:=F4.mp hd;have il:i<xs.length:=by have:=(P9.mp hp).1;omega
 have hx:xs[i]? =some xs[i]:=G2 il;refine⟨⟨xs,xs[i],hH,len,hx⟩,λx H'' ⟨eH,b,ex,all⟩=> ?_⟩;subst ex eH;obtain⟨T,u,hT⟩:=all xs hH;have e1:T=p.1:=by
  have:=congrArg (λl=>l[i]?) ek;simp only [D3,hp,hT,iK] at this;exact(O9 this).symm
 subst e1;exact⟨.refl _,rh,tv _ (P8 hT)⟩
def iKy (td:TED):TID:=λσ h R=>td σ h λx h1=> ∃a ep kv,x= .dct a/\h1.dc a=some (.tk ep kv)/\R (UC a ep kv.length) h1
theorem DM {X : Cx} {o : M9} {td : TED} (ho : JE X o td) : JI X tg o (iKy td) :=
  ⟨(Fv ho.to).imp fun σ H R ⟨σd, h, Rd, rs, rh, q, p⟩ => LE.bind rs rh q fun d v h1 H1 k1 rs1 rh1 r1 ⟨a, ep, kv, e, hc, q1⟩ => by
    subst e
    cases (show v = .ref a from r1)
    obtain ⟨xs, hH, nd, ek, tv, rv⟩ := (show ∃ xs : KT2, _ from rh1.dc a _ hc)
    have len : xs.length = kv.length := by have := congrArg Y4 ek; rw [G5, G5] at this; omega
    exact ⟨a, ep, xs, rfl, hH, by rw [len]; exact p _ _ _ _ k1 rh1 (DL a ep kv.length) q1⟩⟩
def Te (P:T3)(w:B9)(xs:KT2)(o:Obj):Prop:=xs.length<1000/\(xs.map (·.1)).Nodup/\ ∃es ep,∃ys:G0 (G0 (G0 P2)×P3×G1),o.ExactDict/\o.data= .dict es ep/\Paired yA xs ys/\es.toList=ys.map (IE (Rw P w))
def hoD (xs:KT2)(o:Obj)(p:P3):HO:=match o.data with
 | .dict _ ep=>JC p ep xs
 |_=> .own 0
def UD (kx vx:M9)(env:Env)(acc:G1):Sem Unit:=do
 let kv <-J7 kx env
 let vv <-Y0 [kv] (J7 vx env)
 match acc with
 | .ref d=>do
  fB {kx.pos with endLine:=vx.pos.endLine,endCol:=vx.pos.endCol}
  Y0 [kv,vv] (dictSet d kv vv)
 |_=>unsupported "internal:dictcomp"
def Fw (tk tv:TE):TMG KT2:=λσ H xs Q=>tk σ H λy H1=>tv σ H1 λv H2=> ∃b T,y= .ref b/\Wp H2 T b/\(∀x∈xs,Wp H2 x.1 x.2.1)/\T ∉ xs.map (·.1)/\xs.length<999/\Q (xs++ [(T,b,v)]) H2
theorem DN {X:Cx}{k:G6}{D:P3}{kx vx:M9}{tk tv:TE}(hr:Room k X.A)(hx:X.xe=λ_ _=>False)(hk:PE X kx tk)(hv:PE X vx tv):AE X (Te X.prog X.w) D (UD kx vx X.env (.ref D)) (Fw tk tv):=by
 rintro pins s σ H xs o Q I ⟨few,nd,es,ep,ys,ox,od,pr,he⟩ DX cD pD h;have q:=hk _ s σ H _ I h;rw [hx] at q;unfold UD;refine wpAny_bind (T7 q (λy s1 ⟨yv,H1,I1,r1,q1⟩=> ?_) λ_ _ z=>z);have q:=hv _ s1 σ H1 _ I1 q1;rw [hx] at q;refine wpAny_bind (O1 (T7 q (λv s2 ⟨vv,H2,I2,r2,b,T,e,hT,hks,no,lf,q2⟩=> ?_) λ_ _ z=>z));subst e;cases r1;have zD:=I2.pin (D,o) (P5 _ (M8 _ P4));have I10u:Inv X pins σ H2 s2:=I2.pins_of λp hp=>I2.pin p (P5 _ (P5 _ hp))
 obtain⟨k1,k2,k3⟩:=jQ pr;have dd:s2.heap.DictOfH (Rw X.prog X.w) D ys:=⟨o,es,ep,zD.1,ox,od,he,λy hy=>by
  obtain⟨x,hx,e1,e2⟩:=k3 y hy;have:=yG I2 x.1 x.2.1 (hks x hx);rw [e1,e2] at this;exact this,by rw [<-k1];exact nd⟩
 have none_:f8 ys T=none:=by
  unfold f8;rw [V6,aQ];intro y hy z;exact no (by rw [k1];exact R6.mpr ⟨y,hy,H0 z⟩)
 refine wpAny_bind (Y1 (O1 (wpAny_dictSet_heap (knd:=Rw X.prog X.w) (hsz:=by rw [<-k2];exact S0 (M0 few) (by decide)) (by have:=hr.un;show X.A.units+8<cLine;omega) (yG I2 T b hT) dd λh' dd' sb=> ?_)));rw [z6 none_] at dd';obtain⟨o',es',ep',e',x',d',l',_,_⟩:=dd';have I11:Inv X pins σ H2 {s2 with heap:=h',toks:=s2.toks+(Rw X.prog X.w).draws T}:=I10u.turned (it:=D) (λb o hb e=>sb.extBut b o hb e) zD.2.1 zD.2.2.1 (.inl DX) cD pD;refine⟨xs++ [(T,b,vv)],o',H2,⟨by rw [P1];exact rJ lf,?_,es',ep',_,x',d',pr.snoc ⟨rfl,rfl,r2⟩,l'⟩,I11.pins_of λp hp=> ?_,q2⟩
 ·rw [T9];refine W3.mpr ⟨nd,by simp,λx hx y hy z=> ?_⟩;rw [G8.mp hy] at z;have z:x=T:=z;exact no (z ▸ hx)
 ·rcases D8.mp hp with z|z
  ·rcases G8.mp z with rfl
   exact⟨e',zD.2.1,zD.2.2.1,zD.2.2.2.1,λv z=>by rw [d'] at z;cases z⟩
  ·exact I11.pin p (P5 _ z)
theorem DO {P:T3}{w:B9}{kx vx iter:M9}{ifs:G0 M9}{rest:G0 aH}{scope:W9}{pos:Pos}:CompK P w (.DictComp kx vx (⟨tg,iter,ifs,0⟩::rest) scope pos) ⟨tg,iter,ifs,0⟩ rest KM {cls:= .type "dict",data:= .dict #[]} where
 cl:=rfl
 quiet:=λ_ _ _=>rfl
 den:=λ_ _ _=>rfl
 under:=λ_ _ _ _=>rfl
 start:=λ{A R s it acc env} h0 h=>m5 (uK (by
  unfold compStart;show R3 (R7 P w) A (ask >>= _) _ _ s;exact wpAny_bind (aK (wpAny_ite (Ud (λ_=>wpAny_bind (P0 (P0 ⟨rfl,h0⟩))) λ_=>wpAny_bind (g4 (wpAny_bind (Y1 (wpAny_bind (T7 h (λ_ _ q=>P0 ⟨rfl,q⟩) λ_ _ q=>q))))))))))
 live:=rfl
 made:=λ{A Q E s} q=>by
  unfold KM;exact Y9 q
def dDC (bind:D->SD->SD->Prop)(js:G0 G6)(ti:TID)(tt:TTD)(tk tv:TED):TED:=λσ h Q=>ti σ h λj h1=> ∃ (n:G6) (W:G6->G0 (G0 (G0 P2)×D)->HD->Prop),W 0 [] h1/\ ∀i kv h',W i kv h'->kv.length<999/\(kv.map (·.1)).Nodup/\
 ∃ds,j h'=some ds/\ds.length<=n/\(ds.length<=i-> ∀a ep,h'.dc a=none->Q (.dct a) (QZ h' a (.tk ep kv)))/\
  ∀d,ds[i]? =some d-> ∃σ2,bind d (jW js σ) σ2/\tt σ2 h' λb h3=>if b=true then tk σ2 h3 λy h4=>tv σ2 h4 λv h5=> ∃T h6,y=jp T/\T ∉ kv.map (·.1)/\Sub h6 h5/\W (i+1) (kv++ [(T,v)]) h6 else ∃h5,Sub h5 h3/\W (i+1) kv h5
end L2
namespace L2
open PySem PySem.Spec PyProof.Rows HT
theorem Tf {X:Cx}{i:G6}{js:G0 G6}{ti:TID}{tt:TTD}{tk tv:TED}(hj:i∈js): ∀σ H Q,LE X.K (dDC (bN i) js ti tt tk tv) σ H Q->tCG (Te X.prog X.w) hoD [] js (LI X.K ti) (wa i) (LT X.K tt) (Fw (LE X.K tk) (LE X.K tv)) σ H Q:=
 λσ H Q ⟨σd,h,Qd,rs,rh,q,post⟩=>by
  refine⟨σd,h,_,rs,rh,q,λj J h1 H1 k1 rh1 jo ⟨n,W,w0,turn⟩=> ?_⟩;refine⟨λi m xs H'=>m=n-i/\Kept H1 H'/\ ∃h' kv,kv.map (·.1)=xs.map (·.1)/\RelDs X.K H' (kv.map (·.2)) (xs.map (·.2.2))/\(∀x∈xs,RelD X.K H' (jp x.1) (.ref x.2.1))/\RelH X.K h' H'/\W i kv h',⟨n-0,rfl,.refl _,h1,[],rfl,rfl,(λy hy=>nomatch hy),rh1,w0⟩,?_⟩;rintro i m xs H' ⟨rfl,kp,h',kv,ek,rv,ry,rh',w⟩;obtain⟨hz,nd,ds,ej,hn,stop,go⟩:=turn i _ h' w;have len:kv.length=xs.length:=by have:=congrArg Y4 ek;rwa [G5,G5] at this
  have jo':=jo H' h' kp rh' ds ej i;have kk:Kept H H':=k1.trans kp
  by_cases hi:i<ds.length
  ·obtain⟨g1,y1⟩:=jo'.1 ds[i] (G2 hi);refine .inr ⟨g1,λx H'' y=> ?_⟩;obtain⟨k2,rh2,r2⟩:=y1 x H'' y;obtain⟨σd2,bd,q2⟩:=go ds[i] (G2 hi);refine Cc hj σ σd σd2 H'' ds[i] x _ (((rs.mono (kk.trans k2))).clear js) r2 bd λσ2 ag rs2=>⟨ag,?_⟩
   refine LT.bind rs2 rh2 q2 λb h3 H3 k3 rs3 rh3 q3=> ?_
   cases b with
   |true=>
    rw [R8 rfl] at q3 ⊢;refine LE.bind rs3 rh3 q3 λd4 v4 h4 H4 k4 rs4 rh4 r4 q4=>LE.bind rs4 rh4 q4 λd5 v5 h5 H5 k5 rs5 rh5 r5 ⟨T,h6,ed,no,sb,w5⟩=> ?_
    subst ed;obtain⟨b,vs,eb,_⟩:=(show ∃a vs,v4= .ref a/\H4 a=some (.tup vs)/\_ from r4);subst eb;have kA:=k2.trans (k3.trans (k4.trans k5));have ry5: ∀x∈xs,RelD X.K H5 (jp x.1) (.ref x.2.1):=λy hy=>(ry y hy).mono kA
    refine⟨b,T,rfl,tab_of (r4.mono k5),λy hy=>tab_of (ry5 y hy),by rw [<-ek];exact no,by omega,n-(i+1),by omega,rfl,kp.trans kA,h6,kv++ [(T,d5)],by rw [T9,T9,ek];rfl,?_,λy hy=> ?_,rh5.sub sb,w5⟩
    ·rw [T9,T9];exact Jg (rv.mono kA) r5
    ·rcases D8.mp hy with z|z
     ·exact ry5 y z
     ·rw [G8.mp z];exact r4.mono k5
   |false=>
    rw [R9 D6] at q3 ⊢;obtain⟨h5,sb,w5⟩:=q3;exact⟨n-(i+1),by omega,rfl,kp.trans (k2.trans k3),h5,kv,ek,rv.mono (k2.trans k3),λy hy=>(ry y hy).mono (k2.trans k3),rh3.sub sb,w5⟩
  ·refine .inl ⟨jo'.2 (aA.mp hi),λp o hpn acc=> ?_⟩;obtain⟨few,nd2,es,ep,ys,ox,od,pr,he⟩:=acc;have eh:hoD xs o p=JC p ep xs:=by unfold hoD;rw [od]
   rw [eh];have kn:Kept H' (upd H' p (JC p ep xs)):= .new hpn;exact post (.dct p) (.ref p) _ _ (kk.trans kn) (rh'.newC (c:= .tk ep kv) hpn ⟨xs,jt,nd,ek,λx hx=>(ry x hx).mono kn,rv.mono kn⟩) rfl (stop (aA.mp hi) p ep (rh'.freeC hpn))
theorem MX {X:Cx}{k:G6}{kx vx iter tg:M9}{ifs:G0 M9}{scope:W9}{pos pos' spos:Pos}{x:Str}{js:G0 G6}{wi:TI}{g g':TG}{tt:TT}{tk tv:TE}(hr:Room k X.A)(hc:X.calm=true)(S:BlockOk X scope js)(hi:PI X tg iter wi)
 (hg: ∀X',jg X scope X'->PG X' tg g)(ht: ∀X',jg X scope X'->PTs X' ifs tt)(hk: ∀X',jg X scope X'->PE X' kx tk)(hv: ∀X',jg X scope X'->PE X' vx tv)
 (hg':PG X (.Name x pos') g')(hsw:W5 (.DictComp kx vx [⟨tg,iter,ifs,0⟩] scope pos) (some (.Name x pos')) spos.line X.env=pure true)
 (hs: ∀x,M5 iter X.env x=pure x:=by intro _;rfl):PS X (.Assign [.Name x pos'] (.DictComp kx vx [⟨tg,iter,ifs,0⟩] scope pos) spos) (RA (tCG (Te X.prog X.w) hoD [] js wi g tt (Fw tk tv)) g'):=by
 intro pins s σ H Dn I h;rw [nD _ _ _ _ hsw];refine wpAny_bind (Y1 (wpAny_bind ?_));show R3 _ X.A (do let _ <-lF (.DictComp kx vx [⟨tg,iter,ifs,0⟩] scope pos) scope X.env _ KM false (J7 iter X.env) (some (dP (.Name x pos') X.env))) _ _ s;refine wpAny_bind (T7 (AF (ho:=hoD) (use:=some (dP (.Name x pos') X.env)) (Qv:=λ_ s'=>SP X pins Dn .next s') hc S hi DO ⟨by decide,oK,#[],0,[],⟨rfl,rfl,rfl⟩,rfl,.nil,rfl⟩ (λa o ⟨_,_,_,_,_,_,e,_⟩ v z=>by rw [e] at z;cases z) (λ{a o H h p} lo ⟨few,nd,es,ep,ys,ox,od,pr,he⟩ e=>by
  unfold hoD;rw [od];exact⟨⟨lo,S0 (M0 few) (by decide),ys,pr,o,es,e,ox,od,he⟩,⟨_,e⟩,λh1 h2 ⟨a1,a2,ys',pr',o',es',ho,ex,hd,he⟩ ke=>⟨a1,a2,ys',pr',o',es',ke o' ho,ex,hd,he⟩⟩) hg ht (UD kx vx) (λ_ _ _=>rfl) (λX' hX D=>by
   obtain⟨C,s₀,H₀,ex,e⟩:=hX;have z:=hk X' ⟨C,s₀,H₀,ex,e⟩;have z2:=hv X' ⟨C,s₀,H₀,ex,e⟩;subst e;exact DN (X:=wc X scope C s₀ H₀ ex) hr rfl z z2) hs I h ?_) (λ_ s' hq=>P0 (P0 hq)) λ_ _ e=>e)
 intro D C H' s' m hn hk HC nL nf sz ncell npin q;show R3 _ X.A (dP (.Name x pos') X.env (.ref D)) _ _ s';obtain⟨o,es,ep,ho,hd,hr⟩:=id hn;have I1:Inv X pins σ H' s':=hk s'.heap (bE ..);have I2:Inv X (pins++ [(C,o)]) σ H' s':=I1.pins_of λp hp=>by
  rcases D8.mp hp with z|z
  ·exact I1.pin p (P5 _ z)
  ·rcases G8.mp z with rfl
   exact⟨ho,HC,nL,nf,λv z=>by rw [hd] at z;cases z⟩
 refine T7 (hg' _ s' σ H' (.ref D) (.ref D) _ I2 rfl q) (λ_ s3 ⟨σ3,H3,I3,q3⟩=> ?_) λ_ _ z=>z
 have pC:=I3.pin (C,o) (P5 _ (P5 _ P4));refine⟨m,hn.at' λo' e'=> ?_,λh' hs'=> ?_⟩
 ·rw [ho] at e';cases e';exact pC.1
 ·exact⟨σ3,H3,(I3.unpinned).turned (t':=s3.toks) (it:=C) (λb o hb e=>hs'.extBut b o hb e) pC.2.1 nL (.inr sz) ncell npin,q3⟩
theorem AK {X : Cx} {n i k : G6} {x y : Str} {p py pos spos : Pos} {kx vx iter : M9} {ifs : G0 M9} {scope : W9} {js : G0 G6} {ti : TID} {tt : TTD} {tk tv : TED} (hr : Room n X.A) (hc : X.calm = true) (hN : X.N.Nodup) (hk : X.N[k]? = some y) (hy : Loc X.env.scope y) (S : BlockOk X scope js) (hi : JI X (.Name x p) iter ti) (hj : i ∈ js) (hx : X.N[i]? = some x) (hl : scope.names.lookup x = some .local ∨ scope.names.lookup x = some .cell)
    (ht : ∀ X', jg X scope X' → PTs X' ifs (LT X'.K tt)) (hkx : ∀ X', jg X scope X' → JE X' kx tk) (hvx : ∀ X', jg X scope X' → JE X' vx tv)
    (hsw : W5 (.DictComp kx vx [⟨.Name x p, iter, ifs, 0⟩] scope pos) (some (.Name y py)) spos.line X.env = pure true := by rfl) (hf : X.fn y = true ∨ X.env.scope.names.lookup y = some .local := by first | exact .inl rfl | exact .inr rfl | assumption) (hs : ∀ x, M5 iter X.env x = pure x := by intro _; rfl) :
    JS X (.Assign [.Name y py] (.DictComp kx vx [⟨.Name x p, iter, ifs, 0⟩] scope pos) spos) (GD k (dDC (bN i) js ti tt tk tv)) :=
  ⟨(MX (g := wa i) (tt := LT X.K tt) (tk := LE X.K tk) (tv := LE X.K tv) hr hc S hi.to (fun X' hX => by obtain ⟨C, s₀, H₀, ex, rfl⟩ := hX; exact zN hN hx hl) (fun X' hX => by have := ht X' hX; obtain ⟨C, s₀, H₀, ex, rfl⟩ := hX; exact this) (fun X' hX => by have := (hkx X' hX).to; obtain ⟨C, s₀, H₀, ex, rfl⟩ := hX; exact this) (fun X' hX => by have := (hvx X' hX).to; obtain ⟨C, s₀, H₀, ex, rfl⟩ := hX; exact this) (wR hN hk hy hf) hsw hs).imp
    fun D σ H h => by
      obtain ⟨σd, hd, Qd, rs, rh, t, p⟩ := Xa (K := X.K) D σ H h
      exact Tf hj σ H _ ⟨σd, hd, Qd, rs, rh, t, p⟩⟩
end L2
namespace L2
open PySem PySem.Spec PyProof.Rows
section
variable {n k:G6}{Ts:G0 (G0 (G0 P2))}{s t:Fnd×G0 (G0 G6)}{w:G0 G6}
theorem MY {α:Type}{kv:G0 (G0 (G0 P2)×α)}{T:G0 (G0 P2)}(h:(jZ kv T).isSome=true): ∃p∈kv,p.1=T:=by
 unfold jZ at h;cases e:kv.find? λp=>decide (p.1=T) with
 |none=>rw [e] at h;cases h
 |some p=>exact⟨p,Q5 e,H0 (cG (p:=λp:G0 (G0 P2)×α=>decide (p.1=T)) e)⟩
variable {p:G0 (G0 P2)×G0 G6}
theorem MZ (h:p∈s.1):p∈(lvS n Ts s w).1:=by
 cases z:(jZ s.1 (mkW n Ts w)).isSome with
 |true=>rw [Ji z];exact h
 |false=>rw [Jj z];exact M8 _ h
theorem AL {v:G0 G6}(h:v∈s.2):v∈(lvS n Ts s w).2:=by
 cases z:(jZ s.1 (mkW n Ts w)).isSome with
 |true=>rw [Ji z];exact h
 |false=>rw [Jj z];exact M8 _ h
theorem Fx: ∃p∈(lvS n Ts s w).1,p.1=mkW n Ts w:=by
 cases z:(jZ s.1 (mkW n Ts w)).isSome with
 |true=>rw [Ji z];exact MY z
 |false=>rw [Jj z];exact⟨_,P5 _ P4,rfl⟩
theorem Fy (h:p∈(lvS n Ts s w).1):p∈s.1\/ ∀a<Ts.length,p.2++ [a]∈(lvS n Ts s w).2:=by
 cases z:(jZ s.1 (mkW n Ts w)).isSome with
 |true=>rw [Ji z] at h;exact .inl h
 |false=>
  rw [Jj z] at h ⊢;rcases D8.mp h with x|x
  ·exact .inl x
  ·rw [G8.mp x];exact .inr λa ha=>P5 _ (R6.mpr ⟨a,D0.mpr ha,rfl⟩)
theorem ZC: ∀ {ws:G0 (G0 G6)} {s:Fnd×G0 (G0 G6)},p∈s.1->p∈(ws.foldl (lvS n Ts) s).1
 | [],_,h=>h
 |_::ws,_,h=>ZC (ws:=ws) (MZ h)
theorem DP {v:G0 G6}: ∀ {ws:G0 (G0 G6)} {s:Fnd×G0 (G0 G6)},v∈s.2->v∈(ws.foldl (lvS n Ts) s).2
 | [],_,h=>h
 |_::ws,_,h=>DP (ws:=ws) (AL h)
theorem XL: ∀ {ws:G0 (G0 G6)} {s:Fnd×G0 (G0 G6)},w∈ws-> ∃p∈(ws.foldl (lvS n Ts) s).1,p.1=mkW n Ts w
 |v::ws,s,h=>by
  rcases R5.mp h with e|e
  ·obtain⟨p,hp,x⟩:=Fx (n:=n) (Ts:=Ts) (s:=s) (w:=w);exact⟨p,ZC (ws:=ws) (e ▸ hp),x⟩
  ·exact XL (ws:=ws) e
theorem XM: ∀ {ws:G0 (G0 G6)} {s:Fnd×G0 (G0 G6)},p∈(ws.foldl (lvS n Ts) s).1->p∈s.1\/ ∀a<Ts.length,p.2++ [a]∈(ws.foldl (lvS n Ts) s).2
 | [],_,h=> .inl h
 |v::ws,s,h=>by
  rcases XM (ws:=ws) h with x|x
  ·rcases Fy x with y|y
   ·exact .inl y
   ·exact .inr λa ha=>DP (ws:=ws) (y a ha)
  ·exact .inr x
theorem Yg (l3:Ts.length<=3): ∀k,(∀w,QH Ts w->w.length<=k-> ∃p∈(bst n Ts k).1,p.1=mkW n Ts w/\p.2.length<=w.length)/\(∀p∈(bst n Ts k).1,p.2.length=k-> ∀a<Ts.length,p.2++ [a]∈(bst n Ts k).2)
 |0=>⟨λw hw h=>absurd (J6 (oN.mp h)) hw.1,λ_ h=>nomatch h⟩
 |k+1=>by
  obtain⟨i1,i2⟩:=Yg l3 k;have b:=wX (n:=n) l3 k;have b':=wX (n:=n) l3 (k+1);have kp: ∀p∈(bst n Ts k).1,p∈(bst n Ts (k+1)).1:=λp hp=>ZC (s:=((bst n Ts k).1,[])) hp
  have gt: ∀w∈(bst n Ts k).2,∃p∈(bst n Ts (k+1)).1,p.1=mkW n Ts w:=λw hw=>XL hw
  refine⟨λw hw hl=> ?_,λp hp e a ha=> ?_⟩
  ·rcases F9 w.length (k+1) with c|c
   ·obtain⟨p,hp,x,y⟩:=i1 w hw (fC.mp c);exact⟨p,kp p hp,x,y⟩
   ·have el:w.length=k+1:=fE hl c;have fin: ∀v∈(bst n Ts k).2,mkW n Ts v=mkW n Ts w-> ∃p∈(bst n Ts (k+1)).1,p.1=mkW n Ts w/\p.2.length<=w.length:=λv hv e=>by
     obtain⟨p,hp,x⟩:=gt v hv;exact⟨p,hp,x.trans e,by rw [el];exact(b'.fd p hp).2.2⟩
    obtain⟨u,a,rfl⟩: ∃u a,w=u++ [a]:=⟨w.dropLast,w.getLast hw.1,(cF hw.1).symm⟩;have ha:a<Ts.length:=hw.2 a (P5 _ P4);rw [P1] at el;have lu:u.length=k:=Nat.succ.inj el
    by_cases c0:u= []
    ·subst c0;have k0:k=0:=lu.symm;subst k0;exact fin [a] (R6.mpr ⟨a,D0.mpr ha,rfl⟩) rfl
    ·obtain⟨p,hp,x,y⟩:=i1 u ⟨c0,λi hi=>hw.2 i (M8 _ hi)⟩ (E5 lu);obtain⟨f1,f2,f3⟩:=b.fd p hp;have em:mkW n Ts (p.2++ [a])=mkW n Ts (u++ [a]):=by rw [yr f2.1,yr c0,<-x,<-f1]
     by_cases c1:p.2.length=k
     ·exact fin _ (i2 p hp c1 a ha) em
     ·obtain⟨r,hr,x',y'⟩:=i1 (p.2++ [a]) ⟨by simp,λi hi=>by
       rcases D8.mp hi with z|z
       ·exact f2.2 i z
       ·rw [G8.mp z];exact ha⟩ (by rw [P1];show p.2.length+1<=k;omega)
      refine⟨r,kp r hr,x'.trans em,S0 y' ?_⟩;rw [P1,P1];exact oE y _
  ·rcases XM (ws:=(bst n Ts k).2) (s:=((bst n Ts k).1,[])) hp with x|x
   ·exact absurd (b.fd p x).2.2 (by omega)
   ·exact x a ha
theorem Fz (n3:n<=3)(l1:1<=Ts.length)(l3:Ts.length<=3):(bst n Ts 1025).2= []:=by
 have key: ∀k,(bst n Ts k).2= []\/k+QJ (bst n Ts k)<=1025:=λk=>by
  induction k with
  |zero=>exact .inr (VA l1)
  |succ k ih=>
   rcases ih with x|x
   ·exact .inl (by rw [Vz x 1];exact x)
   ·by_cases z:(bst n Ts k).2= []
    ·exact .inl (by rw [Vz z 1];exact z)
    ·have:QJ (bst n Ts (k+1))<QJ (bst n Ts k):=XF (wX l3 k) n3 l3 z;exact .inr (by omega)
 rcases key 1025 with x|x
 ·exact x
 ·by_cases z:(bst n Ts 1025).2= []
  ·exact z
  ·unfold QJ at x;rw [R9 z] at x;omega
theorem DQ (n3:n<=3)(l1:1<=Ts.length)(l3:Ts.length<=3)(hw:QH Ts w): ∃p∈fnd n Ts,p.1=mkW n Ts w/\p.2.length<=w.length:=by
 rcases mV w.length 1025 with c|c
 ·obtain⟨p,hp,x,y⟩:=(Yg (n:=n) l3 w.length).1 w hw (P6 _);obtain⟨r,hr,x',y'⟩:=(Yg (n:=n) l3 1025).1 p.2 ((wX l3 _).fd p hp).2.1 (S0 y c);exact⟨r,hr,x'.trans ((((wX l3 _).fd p hp).1).symm.trans x),S0 y' y⟩
 ·have e:=Vz (Fz n3 l1 l3) (w.length-1025);rw [show 1025+(w.length-1025)=w.length by omega] at e;obtain⟨p,hp,x⟩:=(Yg (n:=n) l3 w.length).1 w hw (P6 _);rw [e] at hp;exact⟨p,hp,x⟩
end
def spn (m:G6):G0 G6:= [0,m%8,m / 8%8,m%8 ||| m / 8%8,m / 64,m%8 ||| m / 64,m / 8%8 ||| m / 64,m%8 ||| m / 8%8 ||| m / 64]
def spK (m:G6):G6:=(spn m).foldl (λk x=>k ||| 1 <<< x) 0
theorem AM:((D4 512).all λm=>(spn m).all λx=>dI (spK m ||| 1 <<< x) (spK m))=true:=by decide +kernel
theorem AN:((D4 512).all λm=>(spn m).all λa=>(spn m).all λb=>(spn m).elem (a ||| b))=true:=by decide +kernel
def leC (N M:G6):Prop:=N%8∈spn M/\N / 8%8∈spn M/\N / 64∈spn M
theorem DR {K:G6}: ∀ (l:G0 G6) (k:G6),(∀x∈l,K ||| 1 <<< x=K)->k ||| K=K->l.foldl (λk x=>k ||| 1 <<< x) k ||| K=K
 | [],_,_,h=>h
 |x::l,k,a,h=>DR l _ (λy hy=>a y (R1 _ hy)) (by rw [Nat.or_assoc,Nat.or_comm (1 <<< x),a x P4];exact h)
theorem leK {N M:G6}(hM:M<512)(h:leC N M):spK N ||| spK M=spK M:=by
 obtain⟨a,b,c⟩:=h;have cl:=λx hx y hy=>List.elem_iff.mp (N3.mp (N3.mp (N3.mp AN M (D0.mpr hM)) x hx) y hy)
 refine DR (spn N) 0 (λx hx=> ?_) (Nat.zero_or _);have:x∈spn M:=by
  simp only [spn,R5,C9,or_false] at hx;rcases hx with e|e|e|e|e|e|e|e<;>subst e
  ·exact P4
  ·exact a
  ·exact b
  ·exact cl _ a _ b
  ·exact c
  ·exact cl _ a _ c
  ·exact cl _ b _ c
  ·exact cl _ (cl _ a _ b) _ c
 exact K2 (N3.mp (N3.mp AM M (D0.mpr hM)) x this)
def cb (x y z:N0):G6:=x.toNat+2*y.toNat+4*z.toNat
def eB (M:G0 (G0 P2))(i j:G6):N0:=decide (ent M i j≠0)
def clC (M:G0 (G0 P2))(j:G6):G6:=cb (eB M 0 j) (eB M 1 j) (eB M 2 j)
def cod (M:G0 (G0 P2)):G6:=clC M 0+8*clC M 1+64*clC M 2
theorem FA: ∀x y z,cb x y z<8:=by decide
theorem DS: ∀x y z x' y' z',cb x y z=cb x' y' z'->x=x'/\y=y'/\z=z':=by decide
theorem Na: ∀x y z x' y' z',cb x y z ||| cb x' y' z'=cb (x||x') (y||y') (z||z'):=by decide
theorem wY (M:G0 (G0 P2)):cod M<512/\cod M%8=clC M 0/\cod M / 8%8=clC M 1/\cod M / 64=clC M 2:=by
 have a:clC M 0<8:=FA _ _ _;have b:clC M 1<8:=FA _ _ _;have c:clC M 2<8:=FA _ _ _;unfold cod;omega
theorem AO {β:Type}(f:G6->β)(m:G6)(h: ∀i j,i<j->j<m->f i≠f j):((D4 m).map f).Nodup:=W0.mpr (G0.pairwise_lt_range.imp_of_mem λ{a b} _ hb lt=>h a b lt (D0.mp hb))
theorem FB {n:G6}{Ts:G0 (G0 (G0 P2))}: ∀ {u:G0 G6} (_:u≠ []) (v:G0 G6),mkW n Ts (u++v)=Pv n Ts (mkW n Ts u) v
 | [],h,_=>absurd rfl h
 |b::u,_,v=>CK _ u v
def ZN (n:G6)(Ts:G0 (G0 (G0 P2))):G0 (G0 (G0 P2)):=(fnd n Ts).map (·.1)
def chB (n:G6)(Ts:G0 (G0 (G0 P2))):G6->G0 (G0 P2)->N0
 |0,M=> !jF M
 |k+1,M=> !jF M&&(D4 Ts.length).any λi=>chB n Ts k (mk1 n (Ts.getD i []) M)
def nxA (n:G6)(Ts L:G0 (G0 (G0 P2)))(M:G0 (G0 P2)):N0:=(D4 Ts.length).any λi=>decide (mk1 n (Ts.getD i []) M∈L)
def chL (n:G6)(Ts:G0 (G0 (G0 P2))):G6->G0 (G0 (G0 P2))
 |0=>(ZN n Ts).filter λM=> !jF M
 |k+1=>(chL n Ts k).filter (nxA n Ts (chL n Ts k))
section
variable {n k r:G6}{Ts:G0 (G0 (G0 P2))}{M:G0 (G0 P2)}{w:G0 G6}
theorem UE (hT:TabsOk n Ts)(hw:QH Ts w):mkW n Ts w∈ZN n Ts:=by
 obtain⟨p,hp,e,_⟩:=DQ (n:=n) hT.n3 hT.l1 hT.l3 hw;exact R6.mpr ⟨p,hp,e⟩
theorem Yh (hT:TabsOk n Ts)(h:M∈ZN n Ts): ∃w,QH Ts w/\M=mkW n Ts w:=by
 obtain⟨p,hp,rfl⟩:=R6.mp h;obtain⟨a,b,_⟩:=(Zz (n:=n) hT.l3).fd p hp;exact⟨p.2,b,a⟩
theorem XN {i:G6}(hw:QH Ts w)(hi:i<Ts.length):QH Ts (w++ [i]):=⟨by simp,λj hj=>by
 rcases D8.mp hj with z|z
 ·exact hw.2 j z
 ·rw [G8.mp z];exact hi⟩
theorem Nb (hT:TabsOk n Ts)(h:M∈ZN n Ts){i:G6}(hi:i<Ts.length):mk1 n (Ts.getD i []) M∈ZN n Ts:=by
 obtain⟨w,hw,rfl⟩:=Yh hT h;rw [<-yr hw.1];exact UE hT (XN hw hi)
theorem UF: ∀ {k:G6} {M:G0 (G0 P2)},chB n Ts k M=true->jF M=false
 |0,M,h=>by cases z:jF M with
  |false=>rfl
  |true=>rw [show chB n Ts 0 M= !jF M from rfl,z] at h;cases h
 |k+1,M,h=>by cases z:jF M with
  |false=>rfl
  |true=>rw [show chB n Ts (k+1) M=(!jF M&&_) from rfl,z] at h;cases h
theorem JX {i:G6}(hi:i<Ts.length)(f:jF M=false)(h:chB n Ts k (mk1 n (Ts.getD i []) M)=true):chB n Ts (k+1) M=true:=by
 show (!jF M&&_)=true;rw [f];exact bW.mpr ⟨i,D0.mpr hi,h⟩
theorem Yi (h:chB n Ts (k+1) M=true): ∃i<Ts.length,chB n Ts k (mk1 n (Ts.getD i []) M)=true:=by
 obtain⟨i,hi,x⟩:=bW.mp (Bool.and_eq_true_iff.mp (show (!jF M&&_)=true from h)).2;exact⟨i,D0.mp hi,x⟩
theorem Yj: ∀ {k:G6} {M:G0 (G0 P2)},chB n Ts (k+1) M=true->chB n Ts k M=true
 |0,M,h=>by rw [show chB n Ts 0 M= !jF M from rfl,UF h];rfl
 |k+1,M,h=>by
  obtain⟨i,hi,x⟩:=Yi h;exact JX hi (UF h) (Yj x)
theorem AQ {j:G6}(hj:j<=k)(h:chB n Ts k M=true):chB n Ts j M=true:=by
 induction k with
 |zero=>rw [oN.mp hj];exact h
 |succ k ih=>
  rcases F9 j (k+1) with c|c
  ·exact ih (fC.mp c) (Yj h)
  ·rw [fE hj c];exact h
theorem Jk (hT:TabsOk n Ts): ∀ {k:G6} {M:G0 (G0 P2)},M∈chL n Ts k↔M∈ZN n Ts/\chB n Ts k M=true
 |0,M=>C1
 |k+1,M=>by
  show M∈(chL n Ts k).filter _↔_;rw [C1,Jk hT];constructor
  ·rintro ⟨⟨a,b⟩,c⟩;obtain⟨i,hi,x⟩:=bW.mp c;exact⟨a,JX (D0.mp hi) (UF b) ((Jk hT).mp (H0 x)).2⟩
  ·rintro ⟨a,b⟩;obtain⟨i,hi,x⟩:=Yi b;exact⟨⟨a,Yj b⟩,bW.mpr ⟨i,D0.mpr hi,S7 ((Jk hT).mpr ⟨Nb hT a hi,x⟩)⟩⟩
theorem XO {e:G6}{T N:G0 (G0 P2)}(hM:Sq n 1 M)(hT:Sq n e T)(hN:Sq n 1 N)(f:jF M=true)(g:jF (mk1 n T M)=false):jF (mk1 n T N)=false:=by
 cases z:jF (mk1 n T N) with
 |false=>rfl
 |true=>
  have y:jF (mk1 n T M)=true:=(WM (Sq.mark _)).mpr λi j hi hj q=>by
   have a:=(WM (Sq.mark _)).mp z i j hi hj;obtain⟨k,hk,_,b⟩:=(zE hN hT hi hj).mp λq=>a ((vy hi hj).mpr q)
   exact(zE hM hT hi hj).mpr ⟨k,hk,(WM hM).mp f i k hi hk,b⟩ ((vy hi hj).mp q)
  rw [y] at g;cases g
def FC (n:G6)(Ts:G0 (G0 (G0 P2))):Prop:= ∀i<Ts.length,∀M,Sq n 1 M->jF M=true->jF (mk1 n (Ts.getD i []) M)=true
theorem NW (hT:TabsOk n Ts){i:G6}(hi:i<Ts.length):mkW n Ts [i]=mk1 n (Ts.getD i []) (Xf n):=by
 show yu n (Ts.getD i [])=yu n (JK n (Xf n) (Ts.getD i []));rw [Xg (hT.get hi) (by have:=hT.n3;omega)]
theorem DT (hT:TabsOk n Ts)(h:chL n Ts r= []):FC n Ts:=λi hi M hM f=>by
 cases g:jF (mk1 n (Ts.getD i []) M) with
 |true=>rfl
 |false=>
  exfalso;have no: ∀N,Sq n 1 N->jF (mk1 n (Ts.getD i []) N)=false:=λN hN=>XO hM (hT.get hi) hN f g
  have go: ∀k N,Sq n 1 N->chB n Ts k (mk1 n (Ts.getD i []) N)=true:=λk=>by
   induction k with
   |zero=>exact λN hN=>by show (!jF _)=true;rw [no N hN];rfl
   |succ k ih=>exact λN hN=>JX hi (no N hN) (ih _ (Sq.mark _))
  have:mkW n Ts [i]∈chL n Ts r:=(Jk hT).mpr ⟨UE hT ⟨by simp,λj hj=>by rw [G8.mp hj];exact hi⟩,by rw [NW hT hi];exact go r _ (Sq.one n)⟩;rw [h] at this;cases this
theorem XQ (nc:FC n Ts): ∀ {v:G0 G6} {M:G0 (G0 P2)},(∀i∈v,i<Ts.length)->Sq n 1 M->jF M=true->jF (Pv n Ts M v)=true
 | [],_,_,_,f=>f
 |i::v,M,hv,hM,f=>XQ nc (v:=v) (λj hj=>hv j (R1 _ hj)) (Sq.mark _) (nc i (hv i P4) M hM f)
theorem DU (nc:FC n Ts): ∀ {v:G0 G6} {M:G0 (G0 P2)},(∀i∈v,i<Ts.length)->Sq n 1 M->jF (Pv n Ts M v)=false->chB n Ts v.length M=true
 | [],M,_,_,f=>by
  show (!jF M)=true;rw [show jF M=false from f];rfl
 |i::v,M,hv,hM,f=>by
  have hv': ∀j∈v,j<Ts.length:=λj hj=>hv j (R1 _ hj)
  refine JX (hv i P4) ?_ (DU nc hv' (Sq.mark _) f);cases z:jF M with
  |false=>rfl
  |true=>
   rw [XQ nc hv hM z] at f;cases f
theorem Nc (hT:TabsOk n Ts)(h:chL n Ts r= [])(hw:QH Ts w)(hl:r+1<=w.length):jF (mkW n Ts w)=true:=by
 cases z:jF (mkW n Ts w) with
 |true=>rfl
 |false=>
  exfalso;cases w with
  |nil=>exact hw.1 rfl
  |cons a v=>
   have ha:=hw.2 a P4;have c:=DU (DT hT h) (v:=v) (M:=mkW n Ts [a]) (λi hi=>hw.2 i (R1 _ hi)) (Vy _) z;have:mkW n Ts [a]∈chL n Ts r:=(Jk hT).mpr ⟨UE hT ⟨by simp,λj hj=>by rw [G8.mp hj];exact ha⟩,AQ (by show r<=v.length;exact Nat.le_of_succ_le_succ hl) c⟩;rw [h] at this;cases this
def AfF (n:G6)(Ts:G0 (G0 (G0 P2))):D2 G6->Prop
 |none=> ∀k,chL n Ts k≠ []
 |some m=> ∃r,m=r+1/\chL n Ts r= []/\ ∀i<r,chL n Ts i≠ []
theorem DV {j:G6}(hj:j<=k): ∀ {M},M∈chL n Ts k->M∈chL n Ts j:=by
 induction k with
 |zero=>rw [oN.mp hj];exact λh=>h
 |succ k ih=>
  rcases F9 j (k+1) with c|c
  ·exact λh=>ih (fC.mp c) (C1.mp h).1
  ·rw [fE hj c];exact λh=>h
theorem XR (h:(chL n Ts r).filter (λM=> !nxA n Ts (chL n Ts r) M)= []): ∀j,chL n Ts (r+j)=chL n Ts r
 |0=>rfl
 |j+1=>by
  show (chL n Ts (r+j)).filter (nxA n Ts (chL n Ts (r+j)))=_;rw [XR h j,dU];intro M hM;have:=List.filter_eq_nil_iff.mp h M hM;cases z:nxA n Ts (chL n Ts r) M with
  |true=>rfl
  |false=>rw [z] at this;exact absurd rfl this
theorem Tg (h:(chL n Ts r).filter (λM=> !nxA n Ts (chL n Ts r) M)= [])(lo: ∀i<r,(chL n Ts i).filter (λM=> !nxA n Ts (chL n Ts i) M)≠ []):AfF n Ts (if chL n Ts r= [] then some (r+1) else none):=by
 by_cases z:chL n Ts r= []
 ·rw [R8 z];exact⟨r,rfl,z,λi hi e=>lo i hi (by rw [e];rfl)⟩
 ·rw [R9 z];intro k e;obtain⟨M,hM⟩:=dN _ z;rcases mV k r with c|c
  ·have:=DV c hM;rw [e] at this;cases this
  ·have:=XR h (k-r);rw [show r+(k-r)=k by omega,e] at this;exact z this.symm
theorem NX {o o':D2 G6}(a:AfF n Ts o)(b:AfF n Ts o'):o=o':=by
 cases o with
 |none=>cases o' with
  |none=>rfl
  |some m=>obtain⟨r,_,e,_⟩:=b;exact absurd e (a r)
 |some m=>
  obtain⟨r,rfl,e,lo⟩:=a;cases o' with
  |none=>exact absurd e (b r)
  |some m'=>
   obtain⟨r',rfl,e',lo'⟩:=b;rcases bG r r' with c|c|c
   ·exact absurd e (lo' r c)
   ·rw [c]
   ·exact absurd e' (lo r' c)
end
theorem AR {α:Type}(Ps:G0 (G0 (G0 P2)))(T:G0 (G0 P2))(c:α):(jZ (Ps.map λM=>(M,c)) T).isSome=decide (T∈Ps):=by
 induction Ps with
 |nil=>rfl
 |cons M Ps ih=>
  by_cases z:M=T
  ·subst z;rw [S7 (P4)];show (jZ ((M,c)::_) M).isSome=true;unfold jZ;rw [List.find?_cons_of_pos (by exact S7 rfl)];rfl
  ·have:(jZ ((M::Ps).map λM=>(M,c)) T)=jZ (Ps.map λM=>(M,c)) T:=by
    show ((((M,c)::_).find? _).map _)=_;rw [List.find?_cons_of_neg (by exact λy=>z (H0 y))];rfl
   rw [this,ih];exact decide_eq_decide.mpr ⟨λh=>R1 _ h,λh=>(R5.mp h).resolve_left λy=>z y.symm⟩
end L2
namespace L2
section
variable {α:Type}{E F:α->α->Prop}{K:α->Prop}{x y z:α}{n B M P:G6}{π:α->α}
def Wlk (E:α->α->Prop):G6->α->α->Prop
 |0,x,y=>x=y
 |n+1,x,y=> ∃z,E x z/\Wlk E n z y
theorem Wlk.add: ∀ {a b:G6} {x y z:α},Wlk E a x y->Wlk E b y z->Wlk E (a+b) x z
 |0,b,x,y,z,h,g=>by rw [A8,show x=y from h];exact g
 |a+1,b,x,y,z,⟨u,e,h⟩,g=>by rw [qK];exact⟨u,e,Wlk.add h g⟩
theorem Wlk.split: ∀ {a b:G6} {x z:α},Wlk E (a+b) x z-> ∃y,Wlk E a x y/\Wlk E b y z
 |0,b,x,z,h=>⟨x,rfl,by rw [A8] at h;exact h⟩
 |a+1,b,x,z,h=>by
  rw [qK] at h;obtain⟨u,e,h⟩:=h;obtain⟨y,p,q⟩:=Wlk.split h;exact⟨y,⟨u,e,p⟩,q⟩
theorem Wlk.imp (i: ∀a b,E a b->F a b): ∀ {n:G6} {x y:α},Wlk E n x y->Wlk F n x y
 |0,_,_,h=>h
 |_+1,_,_,⟨z,e,h⟩=>⟨z,i _ _ e,Wlk.imp i h⟩
theorem Wlk.fn: ∀ {n:G6} {x y:α},Wlk E n x y-> ∃f:G6->α,f 0=x/\f n=y/\ ∀i,i<n->E (f i) (f (i+1))
 |0,x,y,h=>⟨λ_=>x,rfl,h,λi hi=>absurd hi (Q0 i)⟩
 |n+1,x,y,⟨z,e,h⟩=>by
  obtain⟨f,f0,fn,g⟩:=Wlk.fn h;refine⟨λi=>match i with|0=>x|i+1=>f i,rfl,fn,λi hi=> ?_⟩
  match i,hi with
  |0,_=>show E x (f 0);rw [f0];exact e
  |i+1,hi=>exact g i (by omega)
theorem Wlk.of_fn {f:G6->α}: ∀ {n s:G6},(∀i,s<=i->i<s+n->E (f i) (f (i+1)))->Wlk E n (f s) (f (s+n))
 |0,_,_=>rfl
 |n+1,s,h=>by
  have:=Wlk.of_fn (n:=n) (s:=s+1) λi a b=>h i (by omega) (by omega)
  rw [show s+1+n=s+(n+1) by omega] at this;exact⟨_,h s (P6 s) (by omega),this⟩
theorem Wlk.loop {c:G6}(h:Wlk E c x x): ∀r,Wlk E (c*r) x x
 |0=>rfl
 |r+1=>by rw [gS];exact(Wlk.loop h r).add h
abbrev EK (E:α->α->Prop)(K:α->Prop):α->α->Prop:=λa b=>E a b/\K a/\K b
structure Kls (E:α->α->Prop)(K:α->Prop)(B:G6)(π:α->α):Prop where
 inv: ∀x,K x->K (π x)/\π (π x)=x
 com: ∀x y,K x->K y->E x y->E (π x) (π y)
 rep: ∀f:G6->α,(∀i,i<=B->K (f i))-> ∃i j,i<j/\j<=B/\(f j=f i\/f j=π (f i))
 pos:1<=B
def twi (π:α->α)(s:N0)(x:α):α:=if s=true then π x else x
def tq (π:α->α)(s:N0)(q:G6)(x:α):α:=twi π (s&&decide (q%2=1)) x
theorem AS (h:Wlk (EK E K) (n+1) x y):K y:=by
 obtain⟨u,h,z,e,r⟩:=Wlk.split (a:=n) (b:=1) h;rw [<-show z=y from r];exact e.2.2
theorem Kls.tw (k:Kls E K B π): ∀ {n:G6} {x y:α},Wlk (EK E K) n x y->Wlk (EK E K) n (π x) (π y)
 |0,_,_,h=>by rw [show _=_ from h];rfl
 |_+1,_,_,⟨z,e,h⟩=>⟨π z,⟨k.com _ _ e.2.1 e.2.2 e.1,(k.inv _ e.2.1).1,(k.inv _ e.2.2).1⟩,k.tw h⟩
theorem Kls.turn (k:Kls E K B π)(w:Wlk (EK E K) B x y): ∃i d z u,i+d<=B/\1<=d/\Wlk (EK E K) i x z/\Wlk (EK E K) d z u/\Wlk (EK E K) (B-(i+d)) u y/\K z/\(u=z\/u=π z):=by
 obtain⟨f,f0,fn,g⟩:=w.fn;have hp:=k.pos;have fK: ∀i,i<=B->K (f i):=λi hi=>by
  rcases F9 i B with c|c
  ·exact(g i c).2.1
  ·have e:i=B-1+1:=by omega
   rw [e];exact(g (B-1) (by omega)).2.2
 obtain⟨i,j,h1,h2,e⟩:=k.rep f fK;refine⟨i,j-i,f i,f j,by omega,by omega,?_,?_,?_,fK i (by omega),e⟩
 ·have:=Wlk.of_fn (f:=f) (n:=i) (s:=0) (E:=EK E K) λa _ b=>g a (by omega)
  rw [A8,f0] at this;exact this
 ·have:=Wlk.of_fn (f:=f) (n:=j-i) (s:=i) (E:=EK E K) λa _ b=>g a (by omega)
  rw [show i+(j-i)=j by omega] at this;exact this
 ·have:=Wlk.of_fn (f:=f) (n:=B-j) (s:=j) (E:=EK E K) λa _ b=>g a (by omega)
  rw [show j+(B-j)=B by omega,fn] at this;rw [show i+(j-i)=j by omega];exact this
theorem Kls.block (k:Kls E K B π)(w:Wlk (EK E K) B x y): ∃d s,1<=d/\d<=B/\Wlk (EK E K) (B-d) x (twi π s y):=by
 obtain⟨i,d,z,u,h1,h2,a,b,c,kz,e⟩:=k.turn w;have el:i+(B-(i+d))=B-d:=by omega
 rcases e with rfl|rfl
 ·exact⟨d,false,h2,by omega,el ▸ a.add c⟩
 ·have:=k.tw c;rw [(k.inv z kz).2] at this;exact⟨d,true,h2,by omega,el ▸ a.add this⟩
theorem AT (h:π (π y)=y)(s:N0)(q:G6):twi π s (tq π s q y)=tq π s (q+1) y:=by
 cases s with
 |false=>rfl
 |true=>
  unfold tq twi;rcases Nat.mod_two_eq_zero_or_one q with c|c
  ·rw [show (q+1)%2=1 by omega,c];rfl
  ·rw [show (q+1)%2=0 by omega,c];show π (π y)=y;exact h
theorem Kls.twt (k:Kls E K B π)(s:N0){n:G6}{x y:α}(h:Wlk (EK E K) n x y):Wlk (EK E K) n (twi π s x) (twi π s y):=by
 cases s with
 |false=>exact h
 |true=>exact k.tw h
theorem Kls.seq (k:Kls E K B π): ∀ (M:G6) {x y:α},Wlk (EK E K) (B*M) x y-> ∃ts:G0 (G6×N0),ts.length=M/\(∀t∈ts,1<=t.1/\t.1<=B)/\ ∀t q,q<=ts.count t->t.1*q<=B*M/\Wlk (EK E K) (B*M-t.1*q) x (tq π t.2 q y)
 |0,x,y,h=>⟨[],rfl,λ_ h=>(nomatch h),λt q hq=>by
  have:q=0:=by simpa using hq
  subst this;refine⟨by simp,?_⟩;have e:tq π t.2 0 y=y:=by unfold tq;simp [twi]
  rw [e];simpa using h⟩
 |M+1,x,y,h=>by
  rw [gS,mM] at h;obtain⟨z,a,b⟩:=h.split;have ky:K y:=by
   have hp:=k.pos;obtain⟨m,hm⟩: ∃m,B+B*M=m+1:=⟨B+B*M-1,by omega⟩;rw [hm] at h;exact AS h
  obtain⟨ts,l,r,c⟩:=k.seq M b;obtain⟨d,s,d1,d2,sh⟩:=k.block a;refine⟨(d,s)::ts,by rw [D9,l],λt ht=> ?_,λt q hq=> ?_⟩
  ·rcases R5.mp ht with e|e
   ·rw [e];exact⟨d1,d2⟩
   ·exact r t e
  ·rw [gS];rcases F9 (ts.count t) q with g|g
   ·have e:(d,s)=t:=by
     rw [List.count_cons] at hq
     by_cases e:(d,s)=t
     ·exact e
     ·rw [R9 (by simpa using e)] at hq;omega
    subst e;rw [oO] at hq;obtain⟨q',rfl⟩: ∃q',q=q'+1:=⟨q-1,by omega⟩;obtain⟨i1,i2⟩:=c (d,s) q' (by omega);have w:=sh.add (k.twt s i2);rw [AT (k.inv y ky).2] at w;dsimp only at i1 w ⊢;rw [gS];refine⟨by omega,?_⟩;rw [show B-d+(B*M-d*q')=B*M+B-(d*q'+d) by omega] at w;exact w
   ·obtain⟨i1,i2⟩:=c t q g;refine⟨by omega,?_⟩;have w:=a.add i2;rw [show B+(B*M-t.1*q)=B*M+B-t.1*q by omega] at w;exact w
theorem XS {β:Type}[BEq β][LawfulBEq β](a:β)(ts:G0 β): ∀ {l:G0 β},a∈l->(l.map λt=>ts.count t).sum+1<=(l.map λt=>(a::ts).count t).sum
 |b::l,h=>by
  have mono: ∀l:G0 β,(l.map λt=>ts.count t).sum<=(l.map λt=>(a::ts).count t).sum:=λl=>by
   induction l with
   |nil=>exact P6 _
   |cons c l ih=>
    simp only [T5,lN];have:ts.count c<=(a::ts).count c:=lQ;omega
  simp only [T5,lN];rcases R5.mp h with e|e
  ·subst e;have:=mono l;rw [oO];omega
  ·have:=XS a ts e;have:ts.count b<=(a::ts).count b:=lQ;omega
theorem Ws {β:Type}[BEq β][LawfulBEq β]{l:G0 β}: ∀ {ts:G0 β},(∀t∈ts,t∈l)->ts.length<=(l.map λt=>ts.count t).sum
 | [],_=>N9 _
 |a::ts,h=>by
  have:=Ws (ts:=ts) λt ht=>h t (R1 _ ht)
  have:=XS a ts (h a P4);rw [D9];omega
def XT (B:G6):G0 (G6×N0):=(D4 B).flatMap λd=> [(d+1,false),(d+1,true)]
def Nd (B P:G6):G6:=((XT B).map λt=>P / t.1).sum+1
theorem DW {t:G6×N0}(h:1<=t.1/\t.1<=B):t∈XT B:=by
 obtain⟨d,s⟩:=t;obtain⟨h1,h2⟩:=h;refine dH.mpr ⟨d-1,D0.mpr (by dsimp only at*;omega),?_⟩;dsimp only at h1;rw [show d-1+1=d by omega];cases s<;>simp
theorem DY {ts:G0 (G6×N0)}(h: ∀t∈ts,1<=t.1/\t.1<=B)(hM:Nd B P<=ts.length): ∃t,1<=t.1/\t.1<=B/\P / t.1<=ts.count t:=by
 refine F6 λz=> ?_
 have lt: ∀t∈XT B,ts.count t<=P / t.1:=λt ht=>by
  obtain⟨d,hd,e⟩:=dH.mp ht;have hd:=D0.mp hd;have:t.1=d+1:=by
   simp only [R5,C9,or_false] at e;rcases e with e|e<;>rw [e]
  exact F6 λc=>z ⟨t,by omega,by omega,by omega⟩
 have a:=Ws (l:=XT B) λt ht=>DW (h t ht)
 have b: ∀l:G0 (G6×N0),(∀t∈l,ts.count t<=P / t.1)->(l.map λt=>ts.count t).sum<=(l.map λt=>P / t.1).sum:=λl=>by
  induction l with
  |nil=>exact λ_=>P6 _
  |cons c l ih=>
   intro q;simp only [T5,lN];have:=q c P4;have:=ih λt ht=>q t (R1 _ ht)
   omega
 have:=b _ lt;unfold Nd at hM;omega
theorem Kls.less (k:Kls E K B π)(hP: ∀d,1<=d->d<=B->P%(2*d)=0)(hM:Nd B P<=M)(w:Wlk (EK E K) (B*M) x y):P<=B*M/\Wlk (EK E K) (B*M-P) x y:=by
 obtain⟨ts,l,r,c⟩:=k.seq M w;obtain⟨t,t1,t2,q⟩:=DY r (by rw [l];exact hM);have hp:=hP t.1 t1 t2;obtain⟨m,hm⟩:=gO hp;have e1:P / t.1=2*m:=by rw [hm,show 2*t.1*m=t.1*(2*m) by rw [U5 2,eU]];exact Nat.mul_div_cancel_left _ (by omega)
 obtain⟨i1,i2⟩:=c t (2*m) (by rw [<-e1];exact q);have e2:t.1*(2*m)=P:=by rw [hm,U5 2 t.1,eU]
 have e3:tq π t.2 (2*m) y=y:=by unfold tq;rw [show 2*m%2=0 by omega];cases t.2<;>rfl
 rw [e2] at i1 i2;rw [e3] at i2;exact⟨i1,i2⟩
theorem Kls.more (k:Kls E K B π)(hP: ∀d,1<=d->d<=B->P%(2*d)=0)(hM:1<=M)(w:Wlk (EK E K) (B*M) x y):Wlk (EK E K) (B*M+P) x y:=by
 obtain⟨m,rfl⟩: ∃m,M=m+1:=⟨M-1,by omega⟩;rw [gS,mM] at w;obtain⟨v,a,b⟩:=w.split;obtain⟨i,d,z,u,h1,h2,p,q,r,kz,e⟩:=k.turn a;obtain⟨j,hj⟩:=gO (hP d h2 (by omega));have lp:Wlk (EK E K) P z z:=by
  rcases e with rfl|rfl
  ·have:=q.loop (2*j);rw [show d*(2*j)=P by rw [hj,U5 2 d,eU]] at this;exact this
  ·have t:=k.tw q;rw [(k.inv z kz).2] at t;have:=(q.add t).loop j;rw [show (d+d)*j=P by rw [hj,y3]] at this;exact this
 have all:=(((p.add lp).add q).add r).add b;rw [show i+P+d+(B-(i+d))+B*m=B*(m+1)+P by rw [gS];omega] at all;exact all
theorem stays {β:Type}[DecidableEq β]{key:α->β}{Nf Lf:α->G6}(hk: ∀x y,key x=key y->Nf x=Nf y/\Lf x=Lf y)(down: ∀x y,E x y->key y=key x\/Nf y+Lf x<=Nf x)(low: ∀x,Lf x<=Nf x): ∀ (n:G6) {x y:α},Wlk E n x y->Nf x<=n-> ∃a b u v,Wlk E a x u/\Wlk (EK E λz=>key z=key u) (Lf u) u v/\Wlk E b v y/\a+Lf u+b=n:=λn=>by
 induction n using G6.strongRecOn with
 |ind n ih=>
  intro x y w hn;obtain⟨f,f0,fn,g⟩:=w.fn;have ll:=low x
  by_cases al: ∀i,i<=Lf x->key (f i)=key x
  ·refine⟨0,n-Lf x,x,f (Lf x),rfl,?_,?_,by omega⟩
   ·have:=Wlk.of_fn (f:=f) (n:=Lf x) (s:=0) (E:=EK E λz=>key z=key x) λa _ b=>⟨g a (by omega),al a (by omega),al (a+1) (by omega)⟩
    rw [A8,f0] at this;exact this
   ·have:=Wlk.of_fn (f:=f) (n:=n-Lf x) (s:=Lf x) (E:=E) λa _ b=>g a (by omega)
    rw [show Lf x+(n-Lf x)=n by omega,fn] at this;exact this
  ·obtain⟨i,hi,ne,lo⟩: ∃i,i<=Lf x/\key (f i)≠key x/\ ∀j,j<i->key (f j)=key x:=by
    have key1: ∀m,(∃i,i<=m/\key (f i)≠key x)-> ∃i,i<=m/\key (f i)≠key x/\ ∀j,j<i->key (f j)=key x:=λm=>by
     induction m with
     |zero=>
      rintro ⟨i,hi,h⟩;exact⟨i,hi,h,λj hj=>by omega⟩
     |succ m ih2=>
      rintro ⟨i,hi,h⟩
      by_cases c: ∃i,i<=m/\key (f i)≠key x
      ·obtain⟨j,a,b⟩:=ih2 c;exact⟨j,by omega,b⟩
      ·refine⟨i,hi,h,λj hj=> ?_⟩;exact F6 λz=>c ⟨j,by omega,z⟩
    refine key1 (Lf x) (F6 λz=>al λi hi=>F6 λc=>z ⟨i,hi,c⟩)
   have i1:1<=i:=by
    rcases j7 i with c|c
    ·subst c;rw [f0] at ne;exact absurd rfl ne
    ·exact c
   have kp:=lo (i-1) (by omega);have st:=g (i-1) (by omega);rw [show i-1+1=i by omega] at st;have hd:=(down _ _ st).resolve_left λz=>ne (z.trans kp)
   obtain⟨n1,n2⟩:=hk _ _ kp;rw [n1,n2] at hd;have wi:=Wlk.of_fn (f:=f) (n:=i) (s:=0) (E:=E) λa _ b=>g a (by omega)
   have wr:=Wlk.of_fn (f:=f) (n:=n-i) (s:=i) (E:=E) λa _ b=>g a (by omega)
   rw [A8,f0] at wi;rw [show i+(n-i)=n by omega,fn] at wr;obtain⟨a,b,u,v,p,q,r,e⟩:=ih (n-i) (by omega) wr (by omega);exact⟨i+a,b,u,v,wi.add p,q,r,by omega⟩
end
def tabY:G0 (G6×G6×G6×G6×G6):= [1].map (·,1,110881,273,110881)++ [3,5,9,17,33,65,129].map (·,7,2123360,273,2012479)++ [11,13,35,49,69,81,131,133,137,145,161,193].map (·,12,6252380,273,4129020)++ [15].map (·,9,9075473,10,2823093)++ [51].map (·,9,9075473,68,2823093)++ [85].map (·,9,9075473,160,2823093)++ [139,141,163,177,197,209].map (·,6,9075473,273,1629942)++ [153].map (·,9,9075473,196,2823093)++ [165].map (·,9,9075473,42,2823093)++ [169].map (·,9,9075473,161,2823093)++ [195].map (·,9,9075473,14,2823093)++ [201].map (·,9,9075473,84,2823093)++ [225].map (·,9,9075473,46,2823093)++ [143,171,173,179,185,203,205,213,217,227,229,233,241].map (·,6,10705415,273,1629942)++ [175,187,207,221,243,245].map (·,6,12335357,273,1629942)++ [255].map (·,6,13965299,273,1629942)
def wP (x:G6):G6×G6×G6×G6×G6:=(tabY.find? λe=>dI e.1 (spK x)).getD (0,1,0,273,0)
def sgm (a c:G6):G6:=(if c%2=1 then a%8 else 0) ||| (if c / 2%2=1 then a / 8%8 else 0) ||| (if c / 4%2=1 then a / 64 else 0)
def lmu (a x:G6):G6:=sgm a (x%8)+8*sgm a (x / 8%8)+64*sgm a (x / 64)
def stp (x t:G6):G6:=(spn x).getD (t%8) 0+8*(spn x).getD (t / 8%8) 0+64*(spn x).getD (t / 64) 0
theorem AU:((D4 512).all λm=>tabY.any λe=>dI e.1 (spK m))=true:=by decide +kernel
theorem AV:(tabY.all λe=>tabY.all λf=> !dI (f.1 ||| e.1) e.1||dI f.1 e.1||lE (f.2.2.1+e.2.2.2.2) e.2.2.1)=true:=by decide +kernel
theorem FD:(tabY.all λe=>lE 1 e.2.1&&lE e.2.1 12&&lE e.2.2.2.2 e.2.2.1&&dI e.2.2.2.2 (e.2.1*Nd e.2.1 55440)&&lE e.2.2.1 13965299&&lE 1 (Nd e.2.1 55440))=true:=by decide +kernel
theorem AW:(tabY.all λe=>(D4 8).all λc=>Nat.blt (sgm e.2.2.2.1 c) 8&&(D4 8).all λd=>dI (sgm e.2.2.2.1 (c ||| d)) (sgm e.2.2.2.1 c ||| sgm e.2.2.2.1 d))=true:=by decide +kernel
theorem FE:(tabY.all λe=>dI (sgm e.2.2.2.1 0) 0)=true:=by decide +kernel
theorem AX:((D4 512).all λx=>dI (spK (lmu (wP x).2.2.2.1 x)) (spK x)&&dI (lmu (wP x).2.2.2.1 (lmu (wP x).2.2.2.1 x)) x)=true:=by decide +kernel
theorem AY:(tabY.all λe=>lE ((D4 512).filter λx=>dI (spK x) e.1&&lE x (lmu e.2.2.2.1 x)).length e.2.1)=true:=by decide +kernel
theorem AZ: ∀d,1<=d->d<=12->55440%(2*d)=0:=λd h1 h2=>(by decide +kernel: ∀d,d<13->1<=d->55440%(2*d)=0) d (by omega) h1
variable {x:G6}
theorem Jl (hx:x<512):wP x∈tabY/\(wP x).1=spK x:=by
 have h:=N3.mp AU x (D0.mpr hx);obtain⟨e,he,eb⟩:=bW.mp h;unfold wP;cases z:tabY.find? λe=>dI e.1 (spK x) with
 |none=>exact absurd eb (by simpa using aQ.mp z e he)
 |some f=>exact⟨Q5 z,K2 (cG (p:=λe:G6×G6×G6×G6×G6=>dI e.1 (spK x)) z)⟩
theorem DZ {y:G6}(h:spK x=spK y):wP x=wP y:=by unfold wP;rw [h]
structure NumY (e:G6×G6×G6×G6×G6):Prop where
 b1:1<=e.2.1
 b12:e.2.1<=12
 ln:e.2.2.2.2<=e.2.2.1
 lm:e.2.2.2.2=e.2.1*Nd e.2.1 55440
 nm:e.2.2.1<=13965299
 m1:1<=Nd e.2.1 55440
theorem Ng {e:G6×G6×G6×G6×G6}(h:e∈tabY):NumY e:=by
 have:=N3.mp FD e h;simp only [C6] at this;obtain⟨⟨⟨⟨⟨a,b⟩,c⟩,d⟩,f⟩,g⟩:=this;exact⟨K3 a,K3 b,K3 c,K2 d,K3 f,K3 g⟩
structure SgmY (a:G6):Prop where
 lt: ∀c,c<8->sgm a c<8
 or_: ∀c d,c<8->d<8->sgm a (c ||| d)=sgm a c ||| sgm a d
 zero:sgm a 0=0
theorem Th {e:G6×G6×G6×G6×G6}(h:e∈tabY):SgmY e.2.2.2.1:=by
 have q:=λc (hc:c<8)=>by
  have:=N3.mp (N3.mp AW e h) c (D0.mpr hc);rw [C6] at this;exact this
 exact⟨λc hc=>by have:=(q c hc).1;exact K3 this,λc d hc hd=>K2 (N3.mp (q c hc).2 d (D0.mpr hd)),K2 (N3.mp FE e h)⟩
variable {a:G6}
theorem or8 {b:G6}(ha:a<8)(hb:b<8):a ||| b<8:=Nat.or_lt_two_pow (n:=3) ha hb
theorem Ea {b c:G6}(ha:a<8)(hb:b<8)(hc:c<8):a+8*b+64*c<512/\(a+8*b+64*c)%8=a/\(a+8*b+64*c) / 8%8=b/\(a+8*b+64*c) / 64=c:=by omega
theorem Eb (hx:x<512): ∀c∈spn x,c<8:=λc hc=>by
 have a:x%8<8:=by omega
 have b:x / 8%8<8:=by omega
 have d:x / 64<8:=by omega
 simp only [spn,R5,C9,or_false] at hc;rcases hc with e|e|e|e|e|e|e|e<;>subst e
 ·decide
 ·exact a
 ·exact b
 ·exact or8 a b
 ·exact d
 ·exact or8 a d
 ·exact or8 b d
 ·exact or8 (or8 a b) d
theorem UG (hx:x<512)(m:G6):(spn x).getD m 0<8:=by
 rw [P7];cases e:(spn x)[m]? with
 |none=>decide
 |some c=>exact Eb hx c (P8 e)
theorem VG (hx:x<512)(t:G6):stp x t<512/\stp x t%8=(spn x).getD (t%8) 0/\stp x t / 8%8=(spn x).getD (t / 8%8) 0/\stp x t / 64=(spn x).getD (t / 64) 0:=Ea (UG hx _) (UG hx _) (UG hx _)
theorem UH (S:SgmY a)(hx:x<512):lmu a x<512/\spn (lmu a x)=(spn x).map (sgm a):=by
 have h1:x%8<8:=by omega
 have h2:x / 8%8<8:=by omega
 have h3:x / 64<8:=by omega
 obtain⟨p,q,r,s⟩:=Ea (S.lt _ h1) (S.lt _ h2) (S.lt _ h3);refine⟨p,?_⟩;unfold spn lmu;rw [q,r,s];simp only [T5,dF];rw [S.zero,S.or_ _ _ h1 h2,S.or_ _ _ h1 h3,S.or_ _ _ h2 h3,S.or_ _ _ (or8 h1 h2) h3,S.or_ _ _ h1 h2]
theorem FF (S:SgmY a)(hx:x<512)(t:G6):lmu a (stp x t)=stp (lmu a x) t:=by
 obtain⟨_,p,q,r⟩:=VG hx t;obtain⟨_,e⟩:=UH S hx;have g: ∀m,sgm a ((spn x).getD m 0)=(spn (lmu a x)).getD m 0:=λm=>by
  rw [e,P7,P7,D3];cases (spn x)[m]? with
  |none=>exact S.zero
  |some c=>rfl
 unfold lmu;rw [p,q,r,g,g,g];rfl
def EY (G:G0 G6)(x y:Fin 512):Prop:= ∃t∈G,y.val=stp x.val t
def piY (a:G6)(x:Fin 512):Fin 512:=if h:lmu a x.val<512 then ⟨lmu a x.val,h⟩ else x
theorem Wt (S:SgmY a)(x:Fin 512):(piY a x).val=lmu a x.val:=by unfold piY;rw [oU (UH S x.isLt).1]
theorem Ec (G:G0 G6)(u:Fin 512):Kls (EY G) (λz=>spK z.val=spK u.val) (wP u.val).2.1 (piY (wP u.val).2.2.2.1):=by
 obtain⟨hm,hk⟩:=Jl u.isLt;have S:=Th hm;have N:=Ng hm;have iv: ∀x:Fin 512,spK x.val=spK u.val->spK (lmu (wP u.val).2.2.2.1 x.val)=spK u.val/\lmu (wP u.val).2.2.2.1 (lmu (wP u.val).2.2.2.1 x.val)=x.val:=λx hx=>by
  have:=N3.mp AX x.val (D0.mpr x.isLt);rw [DZ hx,C6] at this;exact⟨(K2 this.1).trans hx,K2 this.2⟩
 refine⟨λx hx=>⟨by show spK (piY _ x).val=_;rw [Wt S];exact(iv x hx).1,Fin.ext (by rw [Wt S,Wt S];exact(iv x hx).2)⟩,λx y _ _ ⟨t,ht,e⟩=>⟨t,ht,by rw [Wt S,Wt S,e];exact FF S x.isLt t⟩,λf hf=> ?_,N.b1⟩;refine F6 λz=> ?_
 have no: ∀i j,i<j->j<=(wP u.val).2.1->f j≠f i/\f j≠piY (wP u.val).2.2.2.1 (f i):=λi j a b=>⟨λc=>z ⟨i,j,a,b,.inl c⟩,λc=>z ⟨i,j,a,b,.inr c⟩⟩
 let r:G6->G6:=λi=>min (f i).val (lmu (wP u.val).2.2.2.1 (f i).val)
 have nd:((D4 ((wP u.val).2.1+1)).map r).Nodup:=AO r _ λi j a b e=>by
  obtain⟨n1,n2⟩:=no i j a (by omega);have i1:=(iv (f i) (hf i (by omega))).2;have j1:=(iv (f j) (hf j (by omega))).2;have m1:(f j).val≠(f i).val:=λc=>n1 (Fin.ext c)
  have m2:(f j).val≠lmu (wP u.val).2.2.2.1 (f i).val:=λc=>n2 (Fin.ext (by rw [Wt S];exact c))
  have m3:lmu (wP u.val).2.2.2.1 (f j).val≠(f i).val:=λc=>m2 (by rw [<-c,j1])
  have m4:lmu (wP u.val).2.2.2.1 (f j).val≠lmu (wP u.val).2.2.2.1 (f i).val:=λc=>m1 (by rw [<-j1,c,i1])
  have e:min (f i).val (lmu (wP u.val).2.2.2.1 (f i).val)=min (f j).val (lmu (wP u.val).2.2.2.1 (f j).val):=e;omega
 have sub:=vA nd (m:=(D4 512).filter λx=>dI (spK x) (wP u.val).1&&lE x (lmu (wP u.val).2.2.2.1 x)) λx hx=>by
  obtain⟨i,hi,rfl⟩:=R6.mp hx;have hi:=D0.mp hi;have k:=hf i (by omega);obtain⟨k2,i1⟩:=iv (f i) k;have l1:=(UH S (f i).isLt).1;have li:=(f i).isLt;show min _ _∈_;rw [C1,D0,C6];rcases mV (f i).val (lmu (wP u.val).2.2.2.1 (f i).val) with c|c
  ·rw [X3 c];exact⟨li,by rw [k,hk];exact qX _,nN c⟩
  ·rw [l8 c];exact⟨l1,by rw [k2,hk];exact qX _,nN (by rw [i1];exact c)⟩
 have:=K3 (N3.mp AY _ hm);rw [G5,S6] at sub;omega
theorem Ed {G:G0 G6}{x y:Fin 512}(h:EY G x y):spK y.val=spK x.val\/(wP y.val).2.2.1+(wP x.val).2.2.2.2<=(wP x.val).2.2.1:=by
 obtain⟨t,_,e⟩:=h;obtain⟨hm,hk⟩:=Jl x.isLt;obtain⟨hm',hk'⟩:=Jl y.isLt;have le:leC y.val x.val:=by
  obtain⟨_,p,q,r⟩:=VG x.isLt t;have g: ∀m,(spn x.val).getD m 0∈spn x.val:=λm=>by
   rw [P7];cases z:(spn x.val)[m]? with
   |none=>exact P4
   |some c=>exact P8 z
  unfold leC;rw [e,p,q,r];exact⟨g _,g _,g _⟩
 have o:=leK x.isLt le;have:=N3.mp (N3.mp AV _ hm) _ hm';rw [hk,hk',o,X1,X1] at this;rcases this with (a|a)|a
 ·rw [qX] at a;cases a
 ·exact .inl (K2 a)
 ·exact .inr (K3 a)
theorem NY {G:G0 G6}{n P:G6}{x y:Fin 512}(eP:P=55440)(w:Wlk (EY G) n x y)(hn:13965299<=n):Wlk (EY G) (n+P) x y/\P<=n/\Wlk (EY G) (n-P) x y:=by
 obtain⟨a,b,u,v,p,q,r,e⟩:=stays (key:=λz:Fin 512=>spK z.val) (Nf:=λz=>(wP z.val).2.2.1) (Lf:=λz=>(wP z.val).2.2.2.2) (λx y h=>by rw [DZ h];exact⟨rfl,rfl⟩) (λx y h=>Ed h) (λx=>(Ng (Jl x.isLt).1).ln) n w (S0 (Ng (Jl x.isLt).1).nm hn);have N:=Ng (Jl u.isLt).1;have hP: ∀d,1<=d->d<=(wP u.val).2.1->P%(2*d)=0:=λd h1 h2=>by rw [eP];exact AZ d h1 (S0 h2 N.b12)
 have lm:=N.lm;have m1:=N.m1;rw [<-eP] at lm m1;rw [lm] at q e;have mo:=(Ec G u).more hP m1 q;obtain⟨l1,l2⟩:=(Ec G u).less hP (P6 _) q;have c1:=(p.add (mo.imp λ_ _ h=>h.1)).add r;have c2:=(p.add (l2.imp λ_ _ h=>h.1)).add r;rw [show a+((wP u.val).2.1*Nd (wP u.val).2.1 P+P)+b=n+P by omega] at c1;rw [show a+((wP u.val).2.1*Nd (wP u.val).2.1 P-P)+b=n-P by omega] at c2;exact⟨c1,by omega,c2⟩
end L2
namespace L2
open PySem PySem.Spec PyProof.Rows
variable {n e:G6}{M:G0 (G0 P2)}
theorem FG (h:Sq n e M){i j:G6}(o:n<=i\/n<=j):ent M i j=0:=by
 unfold ent;rw [P7,P7]
 by_cases c:i<n
 ·have hj:n<=j:=o.resolve_left (by omega);rw [G2 (show i<M.length by rw [h.len];exact c)];rw [bS,F7 (by rw [h.row _ (M7 _)];exact hj)];rfl
 ·rw [F7 (show M.length<=i by rw [h.len];omega)];rfl
theorem Jx (h:Sq n e M){i j:G6}(o:n<=i\/n<=j):eB M i j=false:=by unfold eB;rw [FG h o];rfl
theorem Ra {T:G0 (G0 P2)}(hM:Sq n 1 M)(hT:Sq n e T)(n3:n<=3)(i j:G6):eB (mk1 n T M) i j=((eB M i 0&&eB T 0 j)||(eB M i 1&&eB T 1 j)||(eB M i 2&&eB T 2 j)):=by
 have sm:Sq n 1 (mk1 n T M):=Sq.mark _
 by_cases o:n<=i\/n<=j
 ·rw [Jx sm o];rcases o with o|o
  ·rw [Jx hM (.inl o),Jx hM (.inl o),Jx hM (.inl o)];rfl
  ·rw [Jx hT (.inr o),Jx hT (.inr o),Jx hT (.inr o)];simp
 ·have hi:i<n:=by omega
  have hj:j<n:=by omega
  rw [Z7,X1,X1,C6,C6,C6];have one:eB (mk1 n T M) i j=true↔ ∃k,k<n/\eB M i k=true/\eB T k j=true:=by
   unfold eB;rw [pS];refine⟨λq=> ?_,λ⟨k,hk,a,b⟩ q=> ?_⟩
   ·obtain⟨k,hk,a,b⟩:=(zE hM hT hi hj).mp λz=>q ((vy hi hj).mpr z)
    exact⟨k,hk,S7 a,S7 b⟩
   ·exact(zE hM hT hi hj).mpr ⟨k,hk,H0 a,H0 b⟩ ((vy hi hj).mp q)
  rw [one];refine⟨λ⟨k,hk,a,b⟩=> ?_,λq=> ?_⟩
  ·rcases (show k=0\/k=1\/k=2 by omega) with z|z|z<;>subst z
   ·exact .inl (.inl ⟨a,b⟩)
   ·exact .inl (.inr ⟨a,b⟩)
   ·exact .inr ⟨a,b⟩
  ·have lt: ∀k,eB M i k=true->k<n:=λk a=>by
    rcases F9 k n with c|c
    ·exact c
    ·rw [Jx hM (.inr c)] at a;cases a
   rcases q with (⟨a,b⟩|⟨a,b⟩)|⟨a,b⟩
   ·exact⟨_,lt _ a,a,b⟩
   ·exact⟨_,lt _ a,a,b⟩
   ·exact⟨_,lt _ a,a,b⟩
theorem UI {T:G0 (G0 P2)}(hM:Sq n 1 M)(hT:Sq n e T)(n3:n<=3)(j:G6):clC (mk1 n T M) j=(spn (cod M)).getD (clC T j) 0:=by
 obtain⟨_,a,b,c⟩:=wY M;unfold spn;rw [a,b,c];unfold clC;rw [Ra hM hT n3,Ra hM hT n3,Ra hM hT n3,Na,Na,Na,Na];generalize eB T 0 j=t0;generalize eB T 1 j=t1;generalize eB T 2 j=t2;cases t0<;>cases t1<;>cases t2<;>simp only [lM,bQ,o9,Bool.false_or]<;>rfl
theorem Rb {T:G0 (G0 P2)}(hM:Sq n 1 M)(hT:Sq n e T)(n3:n<=3):cod (mk1 n T M)=stp (cod M) (cod T):=by
 obtain⟨_,a,b,c⟩:=wY T;unfold stp;rw [a,b,c,<-UI hM hT n3,<-UI hM hT n3,<-UI hM hT n3];rfl
theorem FH {N:G0 (G0 P2)}(hM:Sq n 1 M)(hN:Sq n 1 N)(n3:n<=3)(e:cod M=cod N):M=N:=by
 obtain⟨_,a,b,c⟩:=wY M;obtain⟨_,a',b',c'⟩:=wY N;rw [e] at a b c;have e0:=DS _ _ _ _ _ _ (a.symm.trans a');have e1:=DS _ _ _ _ _ _ (b.symm.trans b');have e2:=DS _ _ _ _ _ _ (c.symm.trans c');refine hM.ext hN λi j hi hj=> ?_
 have z:eB M i j=eB N i j:=by
  rcases (show i=0\/i=1\/i=2 by omega) with x|x|x<;>rcases (show j=0\/j=1\/j=2 by omega) with y|y|y<;>subst x<;>subst y
  ·exact e0.1
  ·exact e1.1
  ·exact e2.1
  ·exact e0.2.1
  ·exact e1.2.1
  ·exact e2.2.1
  ·exact e0.2.2
  ·exact e1.2.2
  ·exact e2.2.2
 have z:=decide_eq_decide.mp z;have p:=hM.ent_nn hi hj;have q:=hN.ent_nn hi hj;omega
section
variable {n k:G6}{Ts:G0 (G0 (G0 P2))}{M N:G0 (G0 P2)}
def InS (n:G6)(Ts:G0 (G0 (G0 P2)))(k:G6)(M:G0 (G0 P2)):Prop:= ∃w,QH Ts w/\w.length=k+1/\M=mkW n Ts w
theorem InS.sq (h:InS n Ts k M):Sq n 1 M:=by obtain⟨w,_,_,rfl⟩:=h;exact Vy w
theorem Wu (h:InS n Ts k M){a:G6}(ha:a<Ts.length):InS n Ts (k+1) (mk1 n (Ts.getD a []) M):=by
 obtain⟨w,hw,l,rfl⟩:=h;exact⟨w++ [a],XN hw ha,by rw [P1,l];rfl,(yr hw.1 a).symm⟩
theorem vM (h:InS n Ts (k+1) M): ∃N a,InS n Ts k N/\a<Ts.length/\M=mk1 n (Ts.getD a []) N:=by
 obtain⟨w,hw,l,rfl⟩:=h;obtain⟨u,a,rfl⟩: ∃u a,w=u++ [a]:=⟨w.dropLast,w.getLast hw.1,(cF hw.1).symm⟩;rw [P1] at l;have lu:u.length=k+1:=Nat.succ.inj l;have u0:u≠ []:=λz=>by rw [z] at lu;cases lu
 exact⟨mkW n Ts u,a,⟨u,⟨u0,λi hi=>hw.2 i (M8 _ hi)⟩,lu,rfl⟩,hw.2 a (P5 _ P4),yr u0 a⟩
theorem ins_zero:InS n Ts 0 M↔ ∃a<Ts.length,M=yu n (Ts.getD a []):=by
 refine⟨λ⟨w,hw,l,e⟩=> ?_,λ⟨a,ha,e⟩=>⟨[a],⟨by simp,λi hi=>by rw [G8.mp hi];exact ha⟩,rfl,e⟩⟩;obtain⟨a,rfl⟩:=gR.mp l;exact⟨a,hw.2 a P4,e⟩
theorem Yk (hT:TabsOk n Ts): ∀k,∃M,InS n Ts k M
 |0=>⟨_,ins_zero.mpr ⟨0,hT.l1,rfl⟩⟩
 |k+1=>let ⟨M,h⟩:=Yk hT k;⟨_,Wu h hT.l1⟩
def cdF (M:G0 (G0 P2)):Fin 512:=⟨cod M,(wY M).1⟩
def cdG (Ts:G0 (G0 (G0 P2))):G0 G6:=(D4 Ts.length).map λa=>cod (Ts.getD a [])
theorem Rc (hT:TabsOk n Ts): ∀ {k j:G6} {M:G0 (G0 P2)} {y:Fin 512},InS n Ts j M->Wlk (EY (cdG Ts)) k (cdF M) y-> ∃N,InS n Ts (j+k) N/\cdF N=y
 |0,j,M,y,h,w=>⟨M,h,w⟩
 |k+1,j,M,y,h,⟨z,⟨t,ht,e⟩,w⟩=>by
  obtain⟨a,ha,rfl⟩:=R6.mp ht;have ha:=D0.mp ha;have ez:z=cdF (mk1 n (Ts.getD a []) M):=Fin.ext (by rw [e];exact(Rb h.sq (hT.get ha) hT.n3).symm);subst ez;obtain⟨N,p,q⟩:=Rc hT (Wu h ha) w;exact⟨N,by rw [show j+(k+1)=j+1+k by omega];exact p,q⟩
theorem UJ (hT:TabsOk n Ts): ∀ {k:G6} {M:G0 (G0 P2)},InS n Ts k M-> ∃N,InS n Ts 0 N/\Wlk (EY (cdG Ts)) k (cdF N) (cdF M)
 |0,M,h=>⟨M,h,rfl⟩
 |k+1,M,h=>by
  obtain⟨N,a,hN,ha,rfl⟩:=vM h;obtain⟨O,hO,w⟩:=UJ hT hN;exact⟨O,hO,w.add (b:=1) ⟨_,⟨_,R6.mpr ⟨a,D0.mpr ha,rfl⟩,Rb hN.sq (hT.get ha) hT.n3⟩,rfl⟩⟩
theorem Re (hT:TabsOk n Ts){P:G6}(eP:P=55440)(hk:13965299<=k):InS n Ts k M↔InS n Ts (k+P) M:=by
 have back: ∀ {j:G6} {O:G0 (G0 P2)} {y:G0 (G0 P2)},InS n Ts 0 O->Sq n 1 y->Wlk (EY (cdG Ts)) j (cdF O) (cdF y)->InS n Ts j y:=λ{j O y} hO sy w=>by
  obtain⟨N,hN,e⟩:=Rc hT hO w;rw [A8] at hN;rw [<-FH hN.sq sy hT.n3 (congrArg Fin.val e)];exact hN
 refine⟨λh=> ?_,λh=> ?_⟩
 ·obtain⟨O,hO,w⟩:=UJ hT h;exact back hO h.sq (NY eP w hk).1
 ·obtain⟨O,hO,w⟩:=UJ hT h;have:=(NY eP w (S0 hk (V0 _ _))).2.2;rw [j9] at this;exact back hO h.sq this
def XU (n:G6)(Ts:G0 (G0 (G0 P2)))(k:G6):Prop:= ∀M,InS n Ts k M->jF M=true
theorem FI (hT:TabsOk n Ts)(h:XU n Ts k):XU n Ts (k+1):=λM hM=>by
 obtain⟨N,a,hN,ha,rfl⟩:=vM hM;cases z:jF (mk1 n (Ts.getD a []) N) with
 |true=>rfl
 |false=>
  exfalso;have no: ∀O,Sq n 1 O->jF (mk1 n (Ts.getD a []) O)=false:=λO hO=>XO hN.sq (hT.get ha) hO (h N hN) z
  cases k with
  |zero=>
   have:=h _ (ins_zero.mpr ⟨a,ha,rfl⟩);have q:=no _ (Sq.one n);rw [<-NW hT ha] at q;rw [show mkW n Ts [a]=yu n (Ts.getD a []) from rfl,this] at q;cases q
  |succ k=>
   obtain⟨O,hO⟩:=Yk hT k;have:=h _ (Wu hO ha);rw [no O hO.sq] at this;cases this
theorem FJ (hT:TabsOk n Ts){j:G6}(h:XU n Ts k)(hj:k<=j):XU n Ts j:=by
 induction j with
 |zero=>rw [oN.mp hj] at h;exact h
 |succ j ih=>
  rcases F9 k (j+1) with c|c
  ·exact FI hT (ih (fC.mp c))
  ·rw [fE hj c] at h;exact h
theorem XV: ∀ {r:G6} {M:G0 (G0 P2)},chB n Ts r M=true-> ∃v:G0 G6,v.length=r/\(∀i∈v,i<Ts.length)/\jF (Pv n Ts M v)=false
 |0,M,h=>⟨[],rfl,λ_ z=>(nomatch z),by
  have h:(!jF M)=true:=h;show jF M=false;cases z:jF M with
  |false=>rfl
  |true=>rw [z] at h;cases h⟩
 |r+1,M,h=>by
  obtain⟨i,hi,x⟩:=Yi h;obtain⟨v,l,lt,f⟩:=XV x;exact⟨i::v,by rw [D9,l],λj hj=>(R5.mp hj).elim (λz=>by rw [z];exact hi) (lt j),f⟩
theorem UK (hT:TabsOk n Ts){r:G6}:chL n Ts r= []↔XU n Ts r:=by
 refine⟨λh M hM=> ?_,λh=> ?_⟩
 ·obtain⟨w,hw,l,rfl⟩:=hM;exact Nc hT h hw (E5 l.symm)
 ·refine F6 λz=> ?_
  obtain⟨M,hM⟩:=dN _ z;obtain⟨a,b⟩:=(Jk hT).mp hM;obtain⟨w,hw,rfl⟩:=Yh hT a;obtain⟨v,l,lt,f⟩:=XV b;have hl:1<=w.length:=dR.mpr hw.1;have:=FJ hT (j:=w.length+v.length-1) h (by omega) (mkW n Ts (w++v)) ⟨w++v,⟨by simp [hw.1],λi hi=>(D8.mp hi).elim (hw.2 i) (lt i)⟩,by rw [P1];omega,rfl⟩;rw [FB hw.1] at this;rw [this] at f;cases f
theorem FK (hT:TabsOk n Ts){i:G6}(h:XU n Ts i)(lo: ∀j,j<i-> ¬XU n Ts j):AfF n Ts (some (i+1)):=⟨i,rfl,(UK hT).mpr h,λj hj e=>lo j hj ((UK hT).mp e)⟩
theorem Yl {i j:G6}(h: ∀M,InS n Ts j M↔InS n Ts i M): ∀m M,InS n Ts (j+m) M↔InS n Ts (i+m) M
 |0,M=>h M
 |m+1,M=>⟨λx=>by
  obtain⟨N,a,hN,ha,rfl⟩:=vM (k:=j+m) x;exact Wu ((Yl h m N).mp hN) ha,λx=>by
  obtain⟨N,a,hN,ha,rfl⟩:=vM (k:=i+m) x;exact Wu ((Yl h m N).mpr hN) ha⟩
theorem Ti (hT:TabsOk n Ts){i j:G6}(hj:j<i)(h: ∀M,InS n Ts j M↔InS n Ts i M)(lo: ∀l,l<i-> ¬XU n Ts l):AfF n Ts none:=λk e=>by
 have key: ∀k,¬XU n Ts k:=λk=>by
  induction k using G6.strongRecOn with
  |ind k ih=>
   intro a;rcases F9 k i with c|c
   ·exact lo k c a
   ·have:=Yl h (k-i);rw [show i+(k-i)=k by omega] at this;exact ih (j+(k-i)) (by omega) λM hM=>a M ((this M).mp hM)
 exact key k ((UK hT).mp e)
end
end L2
namespace L2
open PySem PySem.Spec PyProof.Rows PySem.SeqAt
theorem QN {α:Type}[DecidableEq α]{e:α->D}{p:α->aG}(E:Enc e p)(a b:G0 α):K0 (a.map p) (b.map p)=decide (a=b):=by
 induction a generalizing b with
 |nil=>
  cases b with
  |nil=>rfl
  |cons y b=>exact(S8 (rM y b).symm).symm
 |cons x a ih=>
  cases b with
  |nil=>exact(S8 (rM x a)).symm
  |cons y b=>
   refine(show K0 ((x::a).map p) ((y::b).map p)=(aB (p x) (p y)&&K0 (a.map p) (b.map p)) from rfl).trans ?_;rw [E.eq,ih b,<-Bool.decide_and];exact decide_eq_decide.mpr ⟨λh=>by rw [h.1,h.2],λh=>List.cons.inj h⟩
abbrev Tbs:=G0 (G0 (G0 P2))
def hsP (hs:Tbs):aG:= .list (hs.map Pg)
theorem NZ (a b:Tbs):aB (hsP a) (hsP b)=decide (a=b):=QN encT a b
theorem Ba (a:Tbs):(hsP a).canLay0=true:=by unfold hsP;simp only [O4];exact encT.lays a
theorem Tj (a:Tbs):(hsP a).depth<=60:=by
 have:=Ja a;unfold hsP;simp only [K5];omega
def TbL (h:HD):G0 P3->G0 Tbs->Prop
 | [],[]=>True
 |a::as,s::ss=>h a=some (s.map jp)/\TbL h as ss
 |_,_=>False
variable {h:HD}
theorem TbL.tops: ∀ {as:G0 P3} {ss:G0 Tbs},TbL h as ss->ToPs h (as.map D.lst) (ss.map hsP)
 | [],[],_=>rfl
 |a::as,s::ss,⟨k,t⟩=>⟨_,_,rfl,⟨a,_,rfl,k,encT.tos h s⟩,t.tops⟩
 | [],_::_,t=>t.elim
 |_::_,[],t=>t.elim
theorem TbL.mono {h':HD}: ∀ {as:G0 P3} {ss:G0 Tbs},TbL h as ss->(∀a s,s∈ss->h a=some (s.map jp)->h' a=some (s.map jp))->TbL h' as ss
 | [],[],_,_=>trivial
 |a::as,s::ss,⟨k,t⟩,m=>⟨m a s P4 k,t.mono λb u hu=>m b u (R1 _ hu)⟩
 | [],_::_,t,_=>t.elim
 |_::_,[],t,_=>t.elim
theorem TbL.snoc {b:P3}{u:Tbs}(kb:h b=some (u.map jp)): ∀ {as:G0 P3} {ss:G0 Tbs},TbL h as ss->TbL h (as++ [b]) (ss++ [u])
 | [],[],_=>⟨kb,trivial⟩
 |a::as,s::ss,⟨k,t⟩=>⟨k,t.snoc kb⟩
 | [],_::_,t=>t.elim
 |_::_,[],t=>t.elim
theorem TbL.len: ∀ {as:G0 P3} {ss:G0 Tbs},TbL h as ss->as.length=ss.length
 | [],[],_=>rfl
 |a::as,s::ss,⟨_,t⟩=>congrArg x3 t.len
 | [],_::_,t=>t.elim
 |_::_,[],t=>t.elim
theorem Tk {X S:P3}{hs:Tbs}{as:G0 P3}{ss:G0 Tbs}(kX:h X=some (hs.map jp))(kS:h S=some (as.map D.lst))(T:TbL h as ss){Q:KD}(q: ∀b:N0,(b=true↔hs∈ss)->Q (.bl (true !=b)) h):inE true (.lst X) (.lst S) h Q:=by
 refine⟨hsP hs,ss.map hsP,⟨X,_,rfl,kX,encT.tos h hs⟩,.inl ⟨S,_,rfl,kS,T.tops⟩,Ba hs,?_,Tj hs,q _ ?_⟩
 ·clear T q
  induction ss with
  |nil=>rfl
  |cons s ss ih=>show (O4 (hsP s)&&_)=true;rw [ih,Ba];rfl
 ·rw [qA,bW];constructor
  ·rintro ⟨y,hy,z⟩;have:y=hs:=by simpa [Q6,NZ] using z
   rw [<-this];exact hy
  ·exact λhi=>⟨hs,hi,by simp [Q6,NZ]⟩
theorem Rf {X S:P3}{hs:Tbs}{as:G0 P3}(ne:hs≠ [])(kX:h X=some (hs.map jp))(kS:h S=some (as.map D.lst)):X≠S:=λe=>by
 subst e;rw [kX] at kS;injection kS with kS
 match hs,as,ne,kS with
 | [],_,ne,_=>exact ne rfl
 |_::_,[],_,kS=>cases kS
 |T::_,a::_,_,kS=>injection kS with z _;cases z
theorem Tl {n:G6}(n3:n<=3):(XD (XD [(0:P2),1] n) n).length<1000/\ ∀M,Sq n 1 M->M∈XD (XD [(0:P2),1] n) n:=by
 refine⟨?_,λM s=> ?_⟩
 ·rw [vL,vL];rcases (show n=0\/n=1\/n=2\/n=3 by omega) with e|e|e|e<;>subst e<;>decide
 ·have z:=vK (xs:=XD [(0:P2),1] n) (r:=M) λr hr=>by
   have z:=vK (xs:= [(0:P2),1]) (r:=r) λx hx=>by
    have a:=s.nn r hr x hx;have b:x<2:=s.bit r hr x hx;rcases (show x=0\/x=1 by omega) with e|e<;>subst e<;>simp
   rw [s.row r hr] at z;exact z
  rw [s.len] at z;exact z
theorem FL {b:D->SD->SD->Prop}{js:G0 G6}{ti:TID}{tt:TTD}{te:TED}{k:G6}{E:EndsD}{σ:SD}(x:vU b js ti tt te σ h λv h1=> ∃ (a:P3) (Ts B:Tbs),[v]= [.lst a]/\h1 a=some (Ts.map jp)/\B.length<1000/\(∀T∈Ts,T∈B/\T≠ [])/\ ∀ (p:P3) (ks:Tbs),h1 p=none->ks.Pairwise (λx y=>zn x y=true)->(∀k,k∈ks↔k∈Ts)->E.nx (σ.set k (some (.lst p))) (zB h1 p (ks.map jp))):GD k (Hs (zu (vU b js ti tt te) Wf)) E σ h:=x
section
variable {n:G6}{Ts:Tbs}
def HsOk (n:G6)(Ts:Tbs)(k:G6)(hs:Tbs):Prop:=hs.Pairwise (λx y=>zn x y=true)/\ ∀M,M∈hs↔InS n Ts k M
theorem Bb (x y:G0 (G0 P2))(h:zn x y=true): ¬zn y x=true:=λz=>by rw [PR h] at z;cases z
variable {hs:Tbs}
theorem HsOk.few {k:G6}(o:HsOk n Ts k hs)(n3:n<=3):hs.length<=512:=
 Fo n3 (o.1.imp λ{x y} l e=>by subst e;exact Bb x x l l) λM hM=>((o.2 M).mp hM).sq
theorem HsOk.some {k:G6}(o:HsOk n Ts k hs)(hT:TabsOk n Ts):hs≠ []:=λe=>by
 obtain⟨M,hM⟩:=Yk hT k;have:=(o.2 M).mpr hM;rw [e] at this;cases this
theorem HsOk.one {k j:G6}{us:Tbs}(o:HsOk n Ts k hs)(u:HsOk n Ts j us)(e: ∀M,InS n Ts k M↔InS n Ts j M):hs=us:=
 NT Bb o.1 u.1 λM=>(o.2 M).trans ((e M).trans (u.2 M).symm)
def Seen (n:G6)(Ts:Tbs)(i:G6)(ss:G0 Tbs):Prop:=ss.length=i/\ ∀j s,ss[j]? =some s->HsOk n Ts j s
variable {i:G6}
theorem Seen.snoc {ss:G0 Tbs}(s:Seen n Ts i ss)(o:HsOk n Ts i hs):Seen n Ts (i+1) (ss++ [hs]):=by
 refine⟨by rw [P1,s.1];rfl,λj u hu=> ?_⟩
 by_cases z:j<ss.length
 ·rw [C3 z] at hu;exact s.2 j u hu
 ·rw [N8 (by omega)] at hu;have:j-ss.length=0:=by
   have:=(P9.mp hu).1;simp only [D9,L5] at this;omega
  rw [this] at hu;cases hu;rw [show j=i by have:=s.1;omega];exact o
theorem Tn {ss:G0 Tbs}(hT:TabsOk n Ts)(s:Seen n Ts i ss)(o:HsOk n Ts i hs)(m:hs∈ss)(lo: ∀l,l<i-> ¬XU n Ts l):AfF n Ts none:=by
 obtain⟨j,hj⟩:=gY.mp m;have jl:=(P9.mp hj).1;have u:=s.2 j hs hj;exact Ti hT (by have:=s.1;omega) (λM=>(u.2 M).symm.trans (o.2 M)) lo
theorem FM {P:G6}{ss:G0 Tbs}(hT:TabsOk n Ts)(s:Seen n Ts i ss)(o:HsOk n Ts i hs)(eP:P=55440)(hi:13965299+P<=i):hs∈ss:=by
 obtain⟨u,hu⟩: ∃u,ss[i-P]? =some u:=⟨_,G2 (by have:=s.1;omega)⟩;have x:=s.2 _ u hu;have y: ∀M,InS n Ts (i-P) M↔InS n Ts (i-P+P) M:=λM=>Re hT eP (by omega)
 have:hs=u:=o.one x λM=>by
  have:=y M;rw [show i-P+P=i by omega] at this;exact this.symm
 rw [this];exact P8 hu
theorem Bc (o:HsOk n Ts i hs):(hs.all λM=>jF M)=true↔XU n Ts i:=by
 rw [N3];exact⟨λh M hM=>h M ((o.2 M).mpr hM),λh M hM=>h M ((o.2 M).mp hM)⟩
end
end L2
namespace My
open PySem L2
def top (i:G6):Q2:=PySem.Challenge.pw_firstpowers_k68_when_all_are_full.main.body.getD i (.Pass ⟨0,0,0,0⟩)
abbrev Jm:Q2:=top 8
theorem UL:FnScope ["thing"] ["thing"] (je Jm):=fsc
abbrev wj:Q2:=top 9
theorem wZ:FnScope ["thing","size","number"] ["thing","size"] (je wj):=fsc
abbrev zI:Q2:=top 10
theorem wu:FnScope ["thing","row"] ["thing"] (je zI):=fsc
abbrev ya:Q2:=top 11
theorem Ym:FnScope ["thing"] ["thing"] (je ya):=fsc
abbrev wB:Q2:=top 12
theorem yN:FnScope ["thing","at","each"] ["thing"] (je wB):=fsc
abbrev yb:Q2:=top 14
theorem zo:FnScope ["one","other","size","row","place","by"] ["one","other"] (je yb):=fsc
abbrev Rg:Q2:=top 16
theorem Ru:FnScope ["table","row","number"] ["table"] (je Rg):=fsc
abbrev UM:Q2:=top 17
theorem Yn:FnScope ["table","row","number"] ["table"] (je UM):=fsc
abbrev wC:Q2:=top 19
theorem ZS:FnScope ["ahead","table"] ["ahead","table"] (je wC):=fsc
abbrev zJ:Q2:=top 21
theorem jz:FnScope ["tables","ways","nexts","fresh","later","way","each","at","table","behind"] ["tables"] (je zJ):=fsc
abbrev ZD:Q2:=top 22
theorem Jn:FnScope ["nexts","left","each","behind"] ["nexts","left"] (je ZD):=fsc
abbrev zb:Q2:=top 23
theorem jw:FnScope ["nexts","left","rounds","ends","each"] ["nexts"] (je zb):=fsc
abbrev zU:Q2:=top 24
theorem zL:FnScope ["tables","ways","nexts","rounds","left"] ["tables"] (je zU):=fsc
abbrev yY:Q2:=top 26
theorem VH:FnScope ["_law_script","_law_k"] ["_law_script","_law_k"] (je yY):=fsc
abbrev Jo:Q2:=top 27
theorem ZE:FnScope ["_law_cell_here","_law_left"] ["_law_cell_here"] (je Jo):=fsc
abbrev yZ:Q2:=top 28
theorem zZ:FnScope ["_law_pen_here","_law_many_here","_law_left","_law_found","_law_stir"] ["_law_pen_here","_law_many_here"] (je yZ):=fsc
abbrev va:Q2:=top 29
theorem VI:FnScope ["_law_found","_law_due"] ["_law_found","_law_due"] (je va):=fsc
abbrev yc:Q2:=top 30
theorem jD:FnScope ["_law_pen_here","_law_size","_law_way","_law_often","_law_most","_law_rows","_law_one","_law_row","_law_other","_law_goes"] ["_law_pen_here","_law_size"] (je yc):=fsc
abbrev ye:Q2:=top 31
theorem wD:FnScope ["_law_pen_here","_law_many_here","_law_found","_law_what"] ["_law_pen_here","_law_many_here"] (je ye):=fsc
abbrev yf:Q2:=top 32
theorem za:FnScope ["_law_one","_law_other","_law_size","_law_rows","_law_row","_law_place","_law_k"] ["_law_one","_law_other"] (je yf):=fsc
abbrev wE:Q2:=top 33
theorem wm:FnScope ["_law_table_here","_law_row","_law_number"] ["_law_table_here"] (je wE):=fsc
abbrev wF:Q2:=top 34
theorem yH:FnScope ["_law_table_here","_law_row"] ["_law_table_here"] (je wF):=fsc
abbrev zz:Q2:=top 35
theorem jA:FnScope ["_law_pen_here","_law_size","_law_order_here","_law_often","_law_rows","_law_at","_law_here","_law_there","_law_one","_law_other","_law_row"] ["_law_pen_here","_law_size"] (je zz):=fsc
abbrev vb:Q2:=top 36
theorem jH:FnScope ["_law_pen_here","_law_size","_law_many_here","_law_found","_law_turn","_law_table_here","_law_way","_law_place","_law_row"] ["_law_pen_here"] (je vb):=fsc
abbrev zV:Q2:=top 37
theorem jB:FnScope ["_law_tables","_law_here","_law_seen","_law_known","_law_later","_law_one","_law_table_here"] ["_law_tables"] (je zV):=fsc
abbrev yg:Q2:=top 38
theorem vN:FnScope ["_law_tables","_law_due"] ["_law_tables"] (je yg):=fsc
abbrev QP:Q2:=top 39
theorem yI:FnScope ["_law_script","_law_some","_law_cell_here","_law_pen_here","_law_tables","_law_more","_law_row","_law_number"] ["_law_script"] (je QP):=fsc
section
variable {P:T3}{w:B9}{K:G7}{mg:Str->D2 G1}{base:O6}
/-- no def is asked of the script's list: a thing -/
def Bd:D->N0
 | .int _=>true
 |_=>false
/-- a row of so many numbers from 0 on -/
def Ey:D->N0
 | .int i=>decide (0<=i)
 |_=>false
def Be (d:D)(k:P2):N0:=match d with
 | .tup ds=>decide ((ds.length:P2)=k)&&ds.all Ey
 |_=>false
/-! every part has a kind that is told,and no tuple is long -/
mutual
def okD:D->N0
 | .scr _=>false| .exc _=>false| .fn _=>false| .dct _=>false| .exf _ _=>false
 | .tup ds=>decide (ds.length<=1000)&&okDs ds
 |_=>true
def okDs:G0 D->N0
 | []=>true
 |d::ds=>okD d&&okDs ds
end
theorem XW: ∀ {ds:G0 D},okDs ds=true-> ∀d∈ds,okD d=true
 |d::ds,h,x,hx=>by
  have h':(okD d&&okDs ds)=true:=h;rw [C6] at h';rcases R5.mp hx with e|e
  ·subst e;exact h'.1
  ·exact XW h'.2 x e
theorem Rh: ∀ {ds:G0 D},(∀d∈ds,okD d=true)->okDs ds=true
 | [],_=>rfl
 |d::ds,h=>by
  show (okD d&&okDs ds)=true;rw [h d P4,Rh λx hx=>h x (R1 _ hx)];rfl
theorem Ri {ds:G0 D}(h:okD (.tup ds)=true):ds.length<=1000/\ ∀d∈ds,okD d=true:=by
 have h':(decide (ds.length<=1000)&&okDs ds)=true:=h;rw [C6] at h';exact⟨H0 h'.1,XW h'.2⟩
theorem Bf {ds:G0 D}(h:ds.length<=1000)(h2: ∀d∈ds,okD d=true):okD (.tup ds)=true:=by
 show (decide (ds.length<=1000)&&okDs ds)=true;rw [S7 h,Rh h2];rfl
theorem Yo {d:D}(h:okD d=true): ∃n,YS d=some n:=by
 cases d<;>first|exact⟨_,rfl⟩|cases h
/-- a table -/
def Lc:D->N0
 | .tup rs=>decide (1<=rs.length)&&decide (rs.length<=6)&&rs.all λr=>Be r rs.length
 |_=>false
def ZF:RDn:=λds h Q=> ∃d n,ds= [d]/\YS d=some n/\Q (.bl (Bd d)) h
variable {n:G6}{f:P3}{fd:C8}
theorem UN (Z:Zs mg)(F:Fun K "is_whole" "is_whole" Jm f fd):FnOk P w K mg base CX0 (n+1) f fd ["thing"] (LSp K ZF):=by
 refine F.okM UL (λhr=>(zr (yF (FY (GZ (T:= "int") (by decide) rfl Z.isinstance rfl Z.int (by decide +kernel) (jv 0)) (NE (Ke (GZ (T:= "bool") (by decide) rfl Z.isinstance rfl Z.bool (by decide +kernel) (jv 0)))))))) ?_;rintro ds h Q ⟨d,nm,rfl,hn,q⟩;refine⟨rfl,?_⟩;simp only [Nx,RK,dIs,Nw,wK,T5,dF,D9,L5,aJ,A4,Z6,cS,D.bl.injEq,RL,RT,fG,hn];cases d<;>cases hn<;>exact⟨h,Sub.refl h,q⟩
def yh:RDn:=λds h Q=> ∃d k,ds= [d,.int k]/\okD d=true/\Q (.bl (Be d k)) h
theorem ZG (Z:Zs mg)(F:Fun K "is_table_row" "is_table_row" wj f fd)(QV:jE P w K mg base n "is_whole" ["thing"] ZF):FnOk P w K mg base CX0 (n+1) f fd ["thing","size"] (LSp K yh):=by
 refine F.okM wZ (λhr=>(js2 (UB (jpt (Cu (vX (JH (GZ (T:= "tuple") (by decide) rfl Z.isinstance rfl Z.tuple (by decide +kernel) (jv 0)))) (Ad (jt1 oq_ne (Dy Z (jv 0)) (jv 1))))) (yF jbl)) (yF (zS (YU rfl) rfl Z.all aU (j1 (jl0 2 wZ (jX (jv 0)) (λ_ _ _ _=>(FY (jk QV hr (j1 (jv 2))) (NE (jc1 Cl (jv 2) jC)))))))))) ?_;rintro ds h Q ⟨d,k,rfl,ok,q⟩;refine⟨rfl,?_⟩;obtain⟨nm,hn⟩:=Yo ok;simp only [JD,RQ,Oi,Qf,vn,dIs,Nw,wK,T5,dF,D9,L5,B1,aJ,A4,Z6,cS,D.bl.injEq,Nx,dC,RT,Uf,dCB,zu,Wf,dOp,FX,bU,neD,fG,hn];cases d with
 |tup es=>
  cases hn;obtain⟨hl,ht⟩:=Ri ok;simp only [OP]
  by_cases hk:(es.length:P2)=k
  ·simp only [hk];simp;refine GN (ds:=es) (h1:=h) (j:=λ_=>some es) (λx=> .bl (Ey x)) (M0 (jY hl)) rfl (λR r=>⟨.tup es,rfl,r⟩) (λd hd Q' q'=> ?_) (λp hp=> ?_)
   ·obtain⟨nn,hnn⟩:=Yo (ht d hd);refine⟨d,rfl,d,nn,rfl,hnn,Bd d,rfl,?_⟩;cases d with
    |int i=>exact Gx ⟨.int i,rfl,q'⟩
    |_=>exact Wb q'
   ·refine⟨p,es.map Ey,rfl,by rw [jc];simp,h,?_,?_⟩
    ·rw [zR hp];exact Sub.refl h
    ·simpa [Be,hk,bZ,gG] using q
  ·simp [hk];exact⟨h,Sub.refl h,by simpa [Be,hk] using q⟩
 |_=>cases hn<;>exact⟨h,Sub.refl h,q⟩
def zA:RDn:=λds h Q=> ∃d,ds= [d]/\okD d=true/\Q (.bl (Lc d)) h
theorem Jp (Z:Zs mg)(F:Fun K "has_table_form" "has_table_form" zI f fd)(ZX:jE P w K mg base n "is_table_row" ["thing","size"] yh)(vc: ∃tk,mg "MOST_ROWS" =some (.int 6 tk)):FnOk P w K mg base CX0 (n+1) f fd ["thing"] (LSp K zA):=by
 obtain⟨tk_MOST_ROWS,m_MOST_ROWS⟩:=vc;refine F.okM wu (λhr=>(js2 (UB (jpt (Cu (vX (JH (GZ (T:= "tuple") (by decide) rfl Z.isinstance rfl Z.tuple (by decide +kernel) (jv 0)))) (Ad (vX (GV RU RU jC (Dy Z (jv 0)) (Ct rfl m_MOST_ROWS)))))) (yF jbl)) (yF (zS (YU rfl) rfl Z.all aU (j1 (jl0 1 wu (jX (jv 0)) (λ_ _ _ _=>(jk ZX hr (j2 (jv 1) (Dy Z (jv 0))))))))))) ?_;rintro ds h Q ⟨d,rfl,ok,q⟩;refine⟨rfl,?_⟩;obtain⟨nm,hn⟩:=Yo ok;simp only [JD,RQ,Oi,Qf,vn,dIs,Nw,wK,T5,dF,D9,L5,B1,aJ,A4,Z6,cS,D.bl.injEq,Nx,dC,RT,Uf,dCB,zu,Wf,YQ,FX,Ny,fG,hn];cases d with
 |tup es=>
  cases hn;obtain⟨hl,ht⟩:=Ri ok;simp only [OP]
  by_cases h1:1<=es.length
  ·by_cases h6:es.length<=6
   ·have h1':(1:P2)<=es.length:=by omega
    have h6':(es.length:P2)<=6:=by omega
    simp [h1',h6'];refine GN (ds:=es) (h1:=h) (j:=λ_=>some es) (λx=> .bl (Be x es.length)) (M0 (jY hl)) rfl (λR r=>⟨.tup es,rfl,r⟩) (λd hd Q' q'=> ?_) (λp hp=> ?_)
    ·exact⟨d,rfl,.tup es,rfl,d,es.length,rfl,ht d hd,q'⟩
    ·refine⟨p,es.map λx=>Be x es.length,rfl,by rw [jc];simp,h,?_,?_⟩
     ·rw [zR hp];exact Sub.refl h
     ·simpa [Lc,h1,h6,bZ,gG] using q
   ·have h1':(1:P2)<=es.length:=by omega
    have h6': ¬ (es.length:P2)<=6:=by omega
    simp [h1',h6'];exact⟨h,Sub.refl h,by simpa [Lc,h1,h6] using q⟩
  ·have h1': ¬ (1:P2)<=es.length:=by omega
   simp [h1'];exact⟨h,Sub.refl h,by simpa [Lc,h1] using q⟩
 |_=>cases hn<;>exact⟨h,Sub.refl h,q⟩
theorem FN {x:P2}(h:0<=x):Ey (.int x)=true:=S7 h
variable {T:G0 (G0 P2)}
theorem FO {e:G6}(h:Sq n e T){r:G0 P2}(hr:r∈T):Be (zO r) n=true:=by
 simp only [Be,zO,G5,h.row r hr,y9,v6,bZ,N3,Q6];intro x hx;exact FN (h.nn r hr x hx)
theorem Rj {e:G6}(h:Sq n e T)(h1:1<=n)(h6:n<=6):Lc (jp T)=true:=by
 simp only [Lc,jp,G5,h.len,S7 h1,S7 h6,v6,bZ,N3,Q6];intro r hr;exact FO h hr
theorem Bg {e:G6}(h:Sq n e T)(h6:n<=6):okD (jp T)=true:=
 Bf (by rw [G5,h.len];omega) λd hd=>by
  obtain⟨r,hr,rfl⟩:=R6.mp hd;exact Bf (by rw [G5,h.row r hr];omega) λd hd=>by obtain⟨x,_,rfl⟩:=R6.mp hd;rfl
def wG:RDn:=λds h Q=> ∃T,∃n e:G6,ds= [jp T]/\Sq n e T/\1<=n/\n<=6/\Q .non h
theorem Yp (Z:Zs mg)(F:Fun K "want_table" "want_table" ya f fd)(zK:jE P w K mg base n "has_table_form" ["thing"] zA):FnOk P w K mg base CX0 (n+1) f fd ["thing"] (LSp K wG):=by
 refine F.okM Ym (λhr=>(zr (UB (vX (JH (jk zK hr (j1 (jv 0))))) Pc))) ?_;rintro ds h Q ⟨T,k,b,rfl,hT,h1,h6,q⟩;refine⟨rfl,?_⟩;refine⟨_,rfl,jp T,rfl,Bg hT h6,_,rfl,?_⟩;rw [Rj hT h1 h6];exact Wb ⟨h,Sub.refl h,q⟩
def yJ:RDn:=λds h Q=> ∃A Ts,∃n:G6,ds= [.lst A]/\h A=some (Ts.map jp)/\TabsOk n Ts/\Q .non h
theorem ZT (Z:Zs mg)(F:Fun K "want_tables" "want_tables" wB f fd)(zK:jE P w K mg base n "has_table_form" ["thing"] zA)(wH: ∃tk,mg "MOST_TABLES" =some (.int 3 tk))(jV: ∃tk,mg "MOST_ROWS_OF_SEVERAL" =some (.int 3 tk)):FnOk P w K mg base CX0 (n+1) f fd ["thing"] (LSp K yJ):=by
 obtain⟨tk_MOST_TABLES,m_MOST_TABLES⟩:=wH;obtain⟨tk_MOST_ROWS_OF_SEVERAL,m_MOST_ROWS_OF_SEVERAL⟩:=jV;refine F.okM yN (λhr=>(js2 (UB (jpt (Cu (vX (JH (GZ (T:= "list") (by decide) rfl Z.isinstance rfl Z.list (by decide +kernel) (jv 0)))) (Ad (vX (GV RU RU jC (Dy Z (jv 0)) (Ct rfl m_MOST_TABLES)))))) Pc) (GX A7 rfl (WR rfl Z.enumerate (j1 (jv 0))) (YY (i:=1) (j:=2) rfl yN.nd rfl rfl (U7 rfl) (U7 rfl)) (zr (UB (jpt (Cu (vX (JH (jk zK hr (j1 (jv 2))))) (Cu (jt1 Ck (Dy Z (jv 2)) (Ct rfl m_MOST_ROWS_OF_SEVERAL)) (Ad (jt1 oq_ne (Dy Z (jv 2)) (Dy Z (ji1 (jv 0) jC))))))) Pc))))) ?_;rintro ds h Q ⟨A,Ts,n,rfl,kA,hT,q⟩;refine⟨rfl,?_⟩;have hlen:(((Ts.map jp).length:G6):P2)=(Ts.length:P2):=by rw [G5]
 have l1:=hT.l1;have l3:=hT.l3;refine Jv [some (.lst A),none,none] (λC hC=> ?_) ?_
 ·refine⟨_,rfl,"list",rfl,_,rfl,Wb ⟨_,rfl,_,kA,_,rfl,?_⟩⟩;rw [hlen];have e1:decide ((1:P2)<=(Ts.length:P2))=true:=S7 (by omega);have e2:decide ((Ts.length:P2)<=3)=true:=S7 (by omega);show if decide ((1:P2)<=(Ts.length:P2))=true then _ else _
  rw [e1];refine Gx ⟨_,rfl,?_⟩;show if (!decide ((Ts.length:P2)<=3))=true then _ else _
  rw [e2];exact Wb (hC)
 refine vw (h1:=h) (j:=λh=>(h A).map Vc) (Vc (Ts.map jp)) (λi σ' h'=> ∃a b,σ'= [some (.lst A),a,b]/\h=h') (λR r=>⟨_,rfl,A,rfl,r⟩) (λi σ' h' ⟨_,_,_,e⟩=>by rw [<-e];show (h A).map Vc=_;rw [kA];rfl) ⟨none,none,rfl,rfl⟩ (λσ' h' ⟨_,_,_,e⟩=>⟨h,e ▸ Sub.refl h,q⟩) ?_;rintro i d _ _ hd ⟨a,b,rfl,rfl⟩;obtain⟨x,hx,rfl⟩:=WN hd;have hil:i+1<=(Vc (Ts.map jp)).length:=(P9.mp hd).1;obtain⟨T,hTm,rfl⟩:=R6.mp (P8 hx);have sT:=hT.sq T hTm;have s0:=hT.get (i:=0) (by omega);have n1:=hT.n1;have n3:=hT.n3;have e0:=Pw hT (i:=0) (by omega);refine⟨_,_,rfl,_,rfl,jp T,rfl,Bg sT (by omega),?_⟩;rw [Rj sT n1 (by omega)];refine⟨_,rfl,Wb ⟨_,rfl,_,rfl,?_⟩⟩;have g1:decide ((((T.map zO).length:G6):P2)>3)=false:=S8 (by rw [G5,sT.len];omega);show if decide ((((T.map zO).length:G6):P2)>3)=true then _ else _
 rw [g1];refine Wb ⟨_,rfl,_,rfl,_,_,kA,e0,_,rfl,?_⟩;have g2:(!decide ((((T.map zO).length:G6):P2)=((((Ts.getD 0 []).map zO).length:G6):P2)))=false:=by rw [G5,G5,sT.len,s0.len];simp
 show if (!decide ((((T.map zO).length:G6):P2)=((((Ts.getD 0 []).map zO).length:G6):P2)))=true then _ else _
 rw [g2];exact Wb ⟨_,Sub.refl _,hil,_,_,rfl,rfl⟩
def vO:RDn:=λds h Q=> ∃T U,∃n e f:G6,ds= [jp T,jp U]/\Sq n e T/\Sq n f U/\e+f<=1000000/\n<=6/\Q (jp (JK n T U)) h
theorem Yq (Z:Zs mg)(F:Fun K "multiplied" "multiplied" yb f fd):FnOk P w K mg base CX0 (n+1) f fd ["one","other"] (LSp K vO):=by
 refine F.okM zo (λhr=>(js2 (jse 2 zo (Dy Z (jv 0))) (yF (jM jS rfl Z.tuple (by decide +kernel) (j1 (jl0 3 zo (jX (jv 0)) (λ_ _ _ _=>(jM jS rfl Z.tuple (by decide +kernel) (j1 (jl0 4 zo (jrg Z (jv 2)) (λ_ _ _ _=>(zS (GT rfl) rfl Z.sum (by decide +kernel) (j1 (jl0 5 zo (jrg Z (jv 2)) (λ_ _ _ _=>(jop Pf (ji1 (jv 3) (jv 5)) (ji1 (ji1 (jv 1) (jv 5)) (jv 4)))))))))))))))))) ?_;rintro ds h Q ⟨T,U,k,b,f,rfl,hT,hU,hb,h6,q⟩;refine⟨rfl,?_⟩;refine ji (λσ' h'=>σ'= [some (jp T),some (jp U),some (.int (k:P2)),none,none,none]/\h=h') (λC hC=>⟨_,rfl,hC _ _ ⟨by rw [G5,hT.len];rfl,rfl⟩⟩) ?_;rintro _ _ ⟨rfl,rfl⟩;refine Gb T zO (λr=> .tup ((D4 k).map λj=> .int (jT k λm=>r.getD m 0*ent U m j))) (by rw [hT.len];omega) rfl (λR r=>⟨_,rfl,r⟩) (λr hr Q' q'=> ?_) ⟨h,Sub.refl h,?_⟩
 ·refine Gb (D4 k) (λj=> .int (j:P2)) (λj=> .int (jT k λm=>r.getD m 0*ent U m j)) (by rw [S6];omega) rfl (λR rr=>⟨_,rfl,(k:P2),rfl,by omega,by omega,rr⟩) (λj hj Q'' q''=> ?_) q';refine He (D4 k) (λm=> .int (m:P2)) (λm=>r.getD m 0*ent U m j) (by rw [S6];omega) rfl (λR rr=>⟨_,rfl,(k:P2),rfl,by omega,by omega,rr⟩) (λm hm Q3 q3=> ?_) q'';have hm':=D0.mp hm;have hj':=D0.mp hj;refine⟨_,rfl,_,rfl,_,Zn (hT.row r hr) hm',_,rfl,_,rfl,_,Ph hU hm',_,rfl,_,Zn (hU.row _ (Sq.getRow hU hm')) hj',?_,q3⟩;refine Xh (e:=b) (f:=f) ?_ (hU.ent_nn hm' hj') (by omega);have hm2:m<r.length:=by rw [hT.row r hr];exact hm'
  have e1:r.getD m 0=r[m]:=by rw [P7,G2 hm2];rfl
  rw [e1];exact⟨hT.nn r hr _ (M7 hm2),hT.bit r hr _ (M7 hm2)⟩
 ·rw [Xj hT];exact q
def Rk:RDn:=λds h Q=> ∃T,∃n e:G6,ds= [jp T]/\Sq n e T/\1<=n/\n<=6/\Q (.bl (jF T)) h
theorem FP (Z:Zs mg)(F:Fun K "full" "full" Rg f fd)(yk:jE P w K mg base n "want_table" ["thing"] wG):FnOk P w K mg base CX0 (n+1) f fd ["table"] (LSp K Rk):=by
 refine F.okM Ru (λhr=>(js2 (Zj (jk yk hr (j1 (jv 0)))) (yF (zS (YU rfl) rfl Z.all aU (j1 (Kh (i:=1) (i':=2) (js:= [1,2]) rfl (zw (by rfl)) (jX (jv 0)) (by decide) (by decide) (by decide) Ru.nd rfl rfl (by first|exact U7 rfl|exact aW rfl) (by first|exact U7 rfl|exact aW rfl) (λX' hX=>vY) (λX' hX=>by obtain⟨C,s₀,H₀,ex,rfl⟩:=hX;exact(jX (jv 1))) (λX' hX=>vY) (λX' hX=>by obtain⟨C,s₀,H₀,ex,rfl⟩:=hX;exact(jc1 oq_ne (jv 2) jC)))))))) ?_;rintro ds h Q ⟨T,k,b,rfl,hT,h1,h6,q⟩;refine⟨rfl,?_⟩;refine Jv [some (jp T),none,none] (λC hC=>⟨_,rfl,T,k,b,rfl,hT,h1,h6,hC⟩) ?_;refine Km T zO (λr=>r) D.int (λ_ x=>decide (x≠0)) (Me hT h6) rfl (λR r=>⟨_,rfl,r⟩) (λr hr R rr=>⟨_,rfl,rr⟩) (λr hr x hx Q' q'=>⟨_,rfl,?_⟩) ⟨h,Sub.refl h,q⟩;show Q' (.bl (!decide (x=0))) h;have e:(!decide (x=0))=decide (x≠0):=by simp
 rw [e];exact q'
def Yr:RDn:=λds h Q=> ∃T,∃n e:G6,ds= [jp T]/\Sq n e T/\1<=n/\n<=6/\Q (jp (yu n T)) h
theorem Nh (Z:Zs mg)(F:Fun K "marks" "marks" UM f fd)(yk:jE P w K mg base n "want_table" ["thing"] wG):FnOk P w K mg base CX0 (n+1) f fd ["table"] (LSp K Yr):=by
 refine F.okM Yn (λhr=>(js2 (Zj (jk yk hr (j1 (jv 0)))) (yF (jM jS rfl Z.tuple (by decide +kernel) (j1 (jl0 1 Yn (jX (jv 0)) (λ_ _ _ _=>(jM jS rfl Z.tuple (by decide +kernel) (j1 (jl0 2 Yn (jX (jv 1)) (λ_ _ _ _=>(jif (jt1 oq_ne (jv 2) jC) jC jC)))))))))))) ?_;rintro ds h Q ⟨T,k,b,rfl,hT,h1,h6,q⟩;refine⟨rfl,?_⟩;refine Jv [some (jp T),none,none] (λC hC=>⟨_,rfl,T,k,b,rfl,hT,h1,h6,hC⟩) ?_;refine Gb T zO (λr=> .tup (r.map λx=> .int (if x≠0 then 1 else 0))) (by rw [hT.len];omega) rfl (λR r=>⟨_,rfl,r⟩) (λr hr Q' q'=> ?_) ⟨h,Sub.refl h,?_⟩
 ·refine Gb r D.int (λx=> .int (if x≠0 then 1 else 0)) (by rw [hT.row r hr];omega) rfl (λR r=>⟨_,rfl,r⟩) (λx hx Q'' q''=>⟨_,rfl,_,rfl,?_⟩) q'
  by_cases z:x=0
  ·subst z;exact Wb q''
  ·have e:(!decide (x=0))=true:=by simp [z]
   rw [e];rw [R8 z] at q'';exact Gx q''
 ·rw [Pi,<-Pj hT];exact q
def yK:RDn:=λds h Q=> ∃M T,∃n e:G6,ds= [jp M,jp T]/\Sq n 1 M/\Sq n e T/\1<=n/\n<=6/\e<=1000/\Q (jp (mk1 n T M)) h
theorem ZU (Z:Zs mg)(F:Fun K "marks_after" "marks_after" wC f fd)(US:jE P w K mg base n "marks" ["table"] Yr)(VS:jE P w K mg base n "multiplied" ["one","other"] vO):FnOk P w K mg base CX0 (n+1) f fd ["ahead","table"] (LSp K yK):=by
 refine F.okM ZS (λhr=>(zr (yF (jk US hr (j1 (jk VS hr (j2 (jv 0) (jv 1)))))))) ?_;rintro ds h Q ⟨M,T,n,b,rfl,hM,hT,h1,h6,hb,q⟩;refine⟨rfl,?_⟩;exact⟨_,rfl,_,rfl,M,T,n,1,b,rfl,hM,hT,by omega,h6,JK n M T,n,_,rfl,hM.mul hT (by omega),h1,h6,h,Sub.refl h,q⟩
/-- what comes next behind each of the marks -/
def nxD (n:G6)(Ts:G0 (G0 (G0 P2)))(M:G0 (G0 P2)):G0 D:=(D4 Ts.length).map λi=>jp (mk1 n (Ts.getD i []) M)
def NxOk (n:G6)(Ts:G0 (G0 (G0 P2)))(F:Fnd)(L:D2 P3)(kv:G0 (G0 (G0 P2)×D))(h:HD):Prop:=kv.map (·.1)=F.map (·.1)/\ ∀p∈kv,∃X,p.2= .lst X/\h X=some (nxD n Ts p.1)/\some X≠L
variable {Ts:G0 (G0 (G0 P2))}{F:Fnd}{kv:G0 (G0 (G0 P2)×D)}{h:HD}
theorem NxOk.len {L:D2 P3}(x:NxOk n Ts F L kv h):kv.length=F.length:=by
 have:=congrArg Y4 x.1
 rwa [G5,G5] at this
theorem NxOk.none {L:D2 P3}(x:NxOk n Ts F L kv h)(g:(jZ F T).isSome=false):jZ kv T=none:=by
 have no:T ∉ F.map (·.1):=Ye (by cases z:jZ F T with
  |none=>rfl
  |some _=>rw [z] at g;cases g)
 rw [<-x.1] at no;cases z:jZ kv T with
 |none=>rfl
 |some d=>
  unfold jZ at z;obtain⟨p,hp,_⟩:=F4.mp z;exact absurd (R6.mpr ⟨p,Q5 hp,by have z:=cG hp;exact H0 z⟩) no
theorem Ni {w:G0 G6}(hw:w≠ [])(a:G6):wyD n Ts (w++ [a])= .tup [.tup ((w.map λ(k:G6)=>D.int (k:P2))++ [.int (a:P2)]),jp (mk1 n (Ts.getD a []) (mkW n Ts w))]:=by
 unfold wyD Xi;rw [yr hw,T9];rfl
theorem FQ {s:Fnd×G0 (G0 G6)}{w:G0 G6}:(s.2++(D4 Ts.length).map λa=>w++ [a]).map (wyD n Ts)=s.2.map (wyD n Ts)++(D4 Ts.length).map λa=>wyD n Ts (w++ [a]):=by
 rw [T9,B6];rfl
theorem Rl {s0:Fnd×G0 (G0 G6)}{ws:G0 (G0 G6)}{i:G6}{w:G0 G6}(e:ws[i]? =some w):(ws.take (i+1)).foldl (lvS n Ts) s0=lvS n Ts ((ws.take i).foldl (lvS n Ts) s0) w:=by
 rw [uC,e,gI];rfl
def wv:RDn:=λds h Q=> ∃A Ts,∃n:G6,ds= [.lst A]/\h A=some (Ts.map jp)/\TabsOk n Ts/\ ∀W N ep ep2 kv h',h'.dc W=some (.tk ep (kvW (fnd n Ts)))->h'.dc N=some (.tk ep2 kv)->NxOk n Ts (fnd n Ts) none kv h'->Sub h h'->Q (.tup [.dct W,.dct N]) h'
theorem Jq (Z:Zs mg)(F:Fun K "ways_and_nexts" "ways_and_nexts" zJ f fd)(US:jE P w K mg base n "marks" ["table"] Yr)(Yx:jE P w K mg base n "marks_after" ["ahead","table"] yK):FnOk P w K mg base CX0 (n+1) f fd ["tables"] (LSp K wv):=by
 refine F.okM jz (λhr=>(js5 (jse 1 jz DB) (jse 2 jz DB) (Cz (i:=7) (j:=8) (k:=3) (js:= [7,8]) rfl jz.nd rfl (U7 rfl) (zw (by rfl)) (WR rfl Z.enumerate (j1 (jv 0))) (by decide) (by decide) (by decide) rfl rfl (by first|exact U7 rfl|exact aW rfl) (by first|exact U7 rfl|exact aW rfl) (λX' hX=>vY) (λX' hX=>by obtain⟨C,s₀,H₀,ex,rfl⟩:=hX;exact(yE (j2 (yE (j1 (jv 7))) (jk US hr (j1 (jv 8))))))) (Pl A7 (An (jv 3)) (js3 (jse 4 jz (JJ yD)) (GX A7 rfl (jX (jv 3)) (YY (i:=5) (j:=6) rfl jz.nd rfl rfl (by first|exact aW rfl|exact U7 rfl) (by first|exact aW rfl|exact U7 rfl)) (zr (SF (RZ (Vv hr) (jv 6) (jv 1) (by with_unfolding_all rfl)) (js3 (Fm hr (jv 1) (jv 6) (jv 5)) (Fm hr (jv 2) (jv 6) (jl0 8 jz (jX (jv 0)) (λ_ _ _ _=>(jk Yx hr (j2 (jv 6) (jv 8)))))) (Zj (Hr (jv 4) (Kg (i:=7) (j:=9) (js:= [7,9]) rfl (zw (by rfl)) (WR rfl Z.enumerate (j1 (SW hr (jv 2) (jv 6)))) (by decide) (by decide) (by decide) jz.nd rfl rfl (by first|exact U7 rfl|exact aW rfl) (by first|exact U7 rfl|exact aW rfl) (λX' hX=>vY) (λX' hX=>by obtain⟨C,s₀,H₀,ex,rfl⟩:=hX;exact(yE (j2 (jop zp (jv 5) (yE (j1 (jv 7)))) (jv 9)))))))) GW))) (jse 3 jz (jv 4)))) (yF (yE (j2 (jv 1) (jv 2)))))) ?_;rintro ds h Q ⟨A,Ts,n,rfl,kA,hT,q⟩;refine⟨rfl,?_⟩;have n1:=hT.n1;have n3:=hT.n3;have l3:=hT.l3;have big: ∀x,x<=3000->x<=sizeLine:=λx hx=>S0 hx (by decide)
 refine ji (λσ' h'=> ∃W,σ'= [some (.lst A),some (.dct W),none,none,none,none,none,none,none,none]/\h.dc W=none/\h' A=some (Ts.map jp)/\h'.dc W=some (.tk 0 [])/\Sub h h') (λC hC=>λW eW=>hC _ _ ⟨W,rfl,eW,kA,zc,.newC eW⟩) ?_;rintro _ h1 ⟨W,rfl,fW,kA1,kW,sb1⟩;refine ji (λσ' h'=> ∃N,σ'= [some (.lst A),some (.dct W),some (.dct N),none,none,none,none,none,none,none]/\h.dc N=none/\N≠W/\h' A=some (Ts.map jp)/\h'.dc W=some (.tk 0 [])/\h'.dc N=some (.tk 0 [])/\Sub h h') (λC hC=>λN eN=> ?_) ?_
 ·have nW:N≠W:=λz=>by rw [z,kW] at eN;cases eN
  have fN:h.dc N=none:=by
   cases z:h.dc N with
   |none=>rfl
   |some c=>rw [sb1.dc N c z] at eN;cases eN
  exact hC _ _ ⟨N,rfl,fN,nW,kA1,(yP (E4 nW)).trans kW,zc,sb1.overC fN⟩
 clear kA1 kW sb1;rintro _ h2 ⟨N,rfl,fN,nW,kA2,kW,kN,sb2⟩;refine ji (λσ' h'=> ∃Fr,σ'= [some (.lst A),some (.dct W),some (.dct N),some (.lst Fr),none,none,none,none,none,none]/\h' A=some (Ts.map jp)/\h'.dc W=some (.tk 0 [])/\h'.dc N=some (.tk 0 [])/\h' Fr=some ((bst n Ts 0).2.map (wyD n Ts))/\Sub h h') (λC hC=>Hh (j:=λh=>(h A).map Vc) (D4 Ts.length) (λ(x:G6)=> .int (x:P2)) (λx=>jp (Ts.getD x [])) (λx=>wyD n Ts [x]) (by rw [S6];omega) ?_ (λR r=>⟨_,rfl,A,rfl,r⟩) (λx hx Q' q'=>⟨_,rfl,sz1,_,rfl,Ts.getD x [],n,20,rfl,hT.get (D0.mp hx),n1,by omega,sz2,q'⟩) λFr eF=>hC _ _ ⟨Fr,rfl,jd kA2 eF,kW,kN,?_,sb2.newAt eF⟩) ?_
 ·show (h2 A).map Vc=_;rw [kA2,iK,Wr,XH (n:=n) (λ_ T=>T)]
 ·rw [jc];show some _=some (((D4 Ts.length).map λa=> [a]).map (wyD n Ts));rw [B6];rfl
 clear kA2 kW kN sb2;rintro _ h3 ⟨Fr,rfl,kA3,kW,kN,kF,sb3⟩;refine ji (λσ' h'=> ∃Fr b4 b5 b6 ep ep2 kv,σ'= [some (.lst A),some (.dct W),some (.dct N),some (.lst Fr),b4,b5,b6,none,none,none]/\h'.dc W=some (.tk ep (kvW (fnd n Ts)))/\h'.dc N=some (.tk ep2 kv)/\NxOk n Ts (fnd n Ts) none kv h'/\Sub h h') (λC hC=> ?_) ?_
 ·refine WO (λm σ' h'=> ∃k Fr b4 b5 b6 ep ep2 kv s,σ'= [some (.lst A),some (.dct W),some (.dct N),some (.lst Fr),b4,b5,b6,none,none,none]/\s=bst n Ts k/\h' A=some (Ts.map jp)/\h'.dc W=some (.tk ep (kvW s.1))/\h'.dc N=some (.tk ep2 kv)/\NxOk n Ts s.1 none kv h'/\h' Fr=some (s.2.map (wyD n Ts))/\Sub h h'/\m=QJ s/\k+m<=1025) _ ⟨0,Fr,_,_,_,0,0,[],_,rfl,rfl,kA3,kW,kN,⟨rfl,(λ_ z=>nomatch z)⟩,kF,sb3,rfl,VA hT.l1⟩ ?_;clear kA3 kW kN kF sb3;rintro m _ h4 ⟨k,Fr,b4,b5,b6,ep,ep2,kv,s,rfl,es,kA4,kW,kN,nx,kF,sb4,rfl,hk⟩;have bn:Bin n Ts k s:=es ▸ wX l3 k;refine⟨_,rfl,_,⟨_,kF,rfl⟩,?_⟩
  by_cases ez:s.2= []
  ·rw [ez];refine Wb (hC _ _ ⟨Fr,b4,b5,b6,ep,ep2,kv,rfl,?_,kN,?_,sb4⟩)
   ·rw [<-DE (k:=k) (es ▸ ez) (by omega),<-es];exact kW
   ·rw [<-DE (k:=k) (es ▸ ez) (by omega),<-es];exact nx
  rw [show (!(s.2.map (wyD n Ts)).isEmpty)=true from by
   cases z:s.2 with
   |nil=>exact absurd z ez
   |cons=>rfl]
  refine Gx ?_;refine ji (λσ' h'=> ∃L,σ'= [some (.lst A),some (.dct W),some (.dct N),some (.lst Fr),some (.lst L),b5,b6,none,none,none]/\L≠A/\L≠Fr/\h L=none/\h' A=some (Ts.map jp)/\h'.dc W=some (.tk ep (kvW s.1))/\h'.dc N=some (.tk ep2 kv)/\NxOk n Ts s.1 (some L) kv h'/\h' Fr=some (s.2.map (wyD n Ts))/\h' L=some []/\Sub h h') (λC hC=>⟨sz0,λL eL=>hC _ _ ⟨L,rfl,jq kA4 eL,jq kF eL,WZ sb4 eL,jd kA4 eL,kW,kN,⟨nx.1,λp hp=> ?_⟩,jd kF eL,jc,sb4.newAt eL⟩⟩) ?_
  ·obtain⟨X,e1,e2,_⟩:=nx.2 p hp;exact⟨X,e1,jd e2 eL,λz=>by injection z with z;exact jq e2 eL z.symm⟩
  clear kA4 kW kN nx kF sb4;rintro _ h5 ⟨L,rfl,nA,nF,fL,kA5,kW,kN,nx,kF,kL,sb5⟩;refine ji (λσ' h'=> ∃b5 b6 ep ep2 kv s',σ'= [some (.lst A),some (.dct W),some (.dct N),some (.lst Fr),some (.lst L),b5,b6,none,none,none]/\s'=Fp n Ts s/\h' A=some (Ts.map jp)/\h'.dc W=some (.tk ep (kvW s'.1))/\h'.dc N=some (.tk ep2 kv)/\NxOk n Ts s'.1 none kv h'/\h' L=some (s'.2.map (wyD n Ts))/\Sub h h') (λC hC=> ?_) ?_
  ·refine vw (h1:=h5) (j:=λh=>h Fr) (s.2.map (wyD n Ts)) (λi σ' h'=> ∃b5 b6 ep ep2 kv s',σ'= [some (.lst A),some (.dct W),some (.dct N),some (.lst Fr),some (.lst L),b5,b6,none,none,none]/\s'=(s.2.take i).foldl (lvS n Ts) (s.1,[])/\h' A=some (Ts.map jp)/\h'.dc W=some (.tk ep (kvW s'.1))/\h'.dc N=some (.tk ep2 kv)/\NxOk n Ts s'.1 (some L) kv h'/\h' Fr=some (s.2.map (wyD n Ts))/\h' L=some (s'.2.map (wyD n Ts))/\Sub h h') (λR r=>⟨_,rfl,r⟩) (λi σ' h' ⟨_,_,_,_,_,_,_,_,_,_,_,_,z,_⟩=>z) ⟨b5,b6,ep,ep2,kv,_,rfl,rfl,kA5,kW,kN,nx,kF,kL,sb5⟩ (λσ' h' ⟨b5,b6,ep,ep2,kv,s',e,es',a1,a2,a3,a4,_,a6,a7⟩=>hC _ _ ⟨b5,b6,ep,ep2,kv,s',e,?_,a1,a2,a3,⟨a4.1,λp hp=>let ⟨X,e1,e2,_⟩:=a4.2 p hp;⟨X,e1,e2,λz=>nomatch z⟩⟩,a6,a7⟩) ?_
   ·rw [es',G5,U9];rfl
   clear kA5 kW kN nx kF kL sb5;rintro i d _ h6 hd ⟨c5,c6,ep,ep2,kv,s',rfl,es',kA6,kW,kN,nx,kF,kL,sb6⟩;have hil:=(P9.mp hd).1;rw [D3] at hd;obtain⟨w,ew,rfl⟩:=F4.mp hd;obtain⟨hw,lw⟩:=bn.fr w (P8 ew);have md:Mid n Ts k s.1.length s':=es' ▸ bn.mids l3 i;have few:=md.few n3;have nxt:=md.step l3 hw lw;have k1025:k<=1025:=by omega
   have es2:(s.2.take (i+1)).foldl (lvS n Ts) (s.1,[])=lvS n Ts s' w:=by rw [Rl ew,<-es']
   refine⟨_,_,rfl,?_⟩;refine⟨_,rfl,_,rfl,W,mkW n Ts w,ep,_,rfl,rfl,kW,_,rfl,?_⟩;show if (true !=(jZ (kvW s'.1) (mkW n Ts w)).isSome)=true then _ else _
   rw [DF];cases hg:(jZ s'.1 (mkW n Ts w)).isSome with
   |true=>exact Wb ⟨_,Sub.refl _,hil,_,_,ep,ep2,kv,s',rfl,by rw [es2,Ji hg],kA6,kW,kN,nx,kF,kL,sb6⟩
   |false=>
    have es3:=es2.trans (Jj hg);refine Gx ?_;refine ji (λσ' h'=> ∃ep,σ'= [some (.lst A),some (.dct W),some (.dct N),some (.lst Fr),some (.lst L),some (Xi w),some (jp (mkW n Ts w)),none,none,none]/\h' A=some (Ts.map jp)/\h'.dc W=some (.tk ep (kvW (s'.1++ [(mkW n Ts w,w)])))/\h'.dc N=some (.tk ep2 kv)/\NxOk n Ts s'.1 (some L) kv h'/\h' Fr=some (s.2.map (wyD n Ts))/\h' L=some (s'.2.map (wyD n Ts))/\Sub h h') (λC hC=>⟨_,rfl,_,rfl,_,rfl,W,mkW n Ts w,ep,kvW s'.1,rfl,rfl,kW,by unfold kvW;rw [G5];omega,λep'=>hC _ _ ⟨ep',rfl,kA6,by rw [zc,Fq hg],(yP nW).trans kN,nx,kF,kL,sb6.overC fW⟩⟩) ?_;clear kA6 kW kN kF kL sb6;rintro _ h7 ⟨ep,rfl,kA7,kW,kN,nx,kF,kL,sb7⟩;refine ji (λσ' h'=> ∃X ep2,σ'= [some (.lst A),some (.dct W),some (.dct N),some (.lst Fr),some (.lst L),some (Xi w),some (jp (mkW n Ts w)),none,none,none]/\h' A=some (Ts.map jp)/\h'.dc W=some (.tk ep (kvW (s'.1++ [(mkW n Ts w,w)])))/\h'.dc N=some (.tk ep2 (kv++ [(mkW n Ts w,.lst X)]))/\NxOk n Ts (s'.1++ [(mkW n Ts w,w)]) (some L) (kv++ [(mkW n Ts w,.lst X)]) h'/\h' X=some (nxD n Ts (mkW n Ts w))/\h' Fr=some (s.2.map (wyD n Ts))/\h' L=some (s'.2.map (wyD n Ts))/\Sub h h') (λC hC=>lcA (j:=λh=>h A) (D4 Ts.length) (λx=>jp (Ts.getD x [])) (λx=>jp (mk1 n (Ts.getD x []) (mkW n Ts w))) (by rw [S6];omega) (by show h7 A=_;rw [kA7,Wr]) (λR r=>⟨_,rfl,r⟩) (λx hx Q' q'=>⟨_,rfl,_,rfl,mkW n Ts w,Ts.getD x [],n,20,rfl,Vy w,hT.get (D0.mp hx),n1,by omega,by decide,q'⟩) λX eX=>⟨_,rfl,_,rfl,N,mkW n Ts w,ep2,kv,rfl,rfl,kN,by rw [nx.len];omega,λep'=>hC _ _ ⟨X,ep',rfl,jd kA7 eX,(yP (E4 nW)).trans kW,by rw [zc,(Yf (nx.none hg)).1],⟨?_,λp hp=> ?_⟩,jc,jd kF eX,jd kL eX,(sb7.newAt eX).overC fN⟩⟩) ?_
    ·rw [T9,T9,nx.1];rfl
    ·rcases D8.mp hp with z|z
     ·obtain⟨Y,e1,e2,e3⟩:=nx.2 p z;exact⟨Y,e1,jd e2 eX,e3⟩
     ·rw [G8.mp z];exact⟨X,rfl,jc,λz=>by injection z with z;exact jq kL eX z⟩
    have gt: ∀X,jZ (kv++ [(mkW n Ts w,D.lst X)]) (mkW n Ts w)=some (.lst X):=λX=>by
     have z:=Yf (d:=D.lst X) (nx.none hg);rw [<-z.1];exact z.2
    clear kA7 kW kN kF kL sb7 nx;rintro _ h8 ⟨X,ep2,rfl,kA8,kW,kN,nx,kX,kF,kL,sb8⟩;refine⟨_,rfl,L,rfl,Hh (j:=λh=>(h X).map Vc) (D4 Ts.length) (λ(x:G6)=> .int (x:P2)) (λx=>jp (mk1 n (Ts.getD x []) (mkW n Ts w))) (λx=>wyD n Ts (w++ [x])) (by rw [S6];omega) ?_ (λR r=>⟨_,rfl,_,rfl,N,mkW n Ts w,ep2,_,.lst X,rfl,rfl,kN,gt X,X,rfl,r⟩) (λx hx Q' q'=>⟨_,rfl,_,rfl,sz1,?_,_,rfl,sz2,?_⟩) λY eY=>⟨Y,_,_,rfl,jd kL eY,jc,?_,_,Sub.refl _,hil,_,_,ep,ep2,_,(s'.1++ [(mkW n Ts w,w)],s'.2++(D4 Ts.length).map λa=>w++ [a]),rfl,es3.symm,jf (E4 nA) (jd kA8 eY),kW,kN,⟨nx.1,λp hp=> ?_⟩,jf (E4 nF) (jd kF eY),by rw [jc,FQ],(sb8.newAt eY).over fL⟩⟩
    ·show (h8 X).map Vc=_;rw [kX,iK];exact congrArg some (XH (n:=n) λ_ T=>mk1 n T (mkW n Ts w))
    ·rw [G5];exact big _ (by simp only [D9,L5];omega)
    ·rw [Ni hw.1] at q';exact q'
    ·rw [G5,G5,S6];exact big _ (by have:=md.gr;omega)
    ·obtain⟨Z,e1,e2,e3⟩:=nx.2 p hp;exact⟨Z,e1,jf (λz=>e3 (congrArg some z)) (jd e2 eY),e3⟩
  clear kA5 kW kN nx kF kL sb5;rintro _ h6 ⟨c5,c6,ep,ep2,kv,s',rfl,es',kA6,kW,kN,nx,kL,sb6⟩;have ls:QJ s'<QJ s:=by rw [es'];exact XF bn n3 l3 ez
  exact⟨_,rfl,QJ s',_,ls,Sub.refl _,k+1,L,_,_,_,ep,ep2,kv,s',rfl,by rw [es',es];rfl,kA6,kW,kN,nx,kL,sb6,rfl,by omega⟩
 clear kA3 kW kN kF sb3;rintro _ h4 ⟨Fr,b4,b5,b6,ep,ep2,kv,rfl,kW,kN,nx,sb4⟩;exact⟨_,rfl,_,rfl,sz2,h4,Sub.refl _,q W N ep ep2 kv h4 kW kN nx sb4⟩
theorem To (L:G0 (G0 (G0 P2))):(L.map λM=>(M,D.bl true)).map (λp=>jp p.1)=L.map jp:=by rw [B6];rfl
variable {M:G0 (G0 P2)}
theorem Ee (x:NxOk n Ts F none kv h)(m:M∈F.map (·.1)): ∃X,jZ kv M=some (.lst X)/\h X=some (nxD n Ts M):=by
 rw [<-x.1] at m;cases e:kv.find? λp=>decide (p.1=M) with
 |none=>
  obtain⟨p,hp,ep⟩:=R6.mp m;have:=aQ.mp e p hp;exact absurd (S7 ep) this
 |some p=>
  obtain⟨X,e1,e2,_⟩:=x.2 p (Q5 e);have ek:p.1=M:=H0 (cG (p:=λp:G0 (G0 P2)×D=>decide (p.1=M)) e);exact⟨X,by unfold jZ;rw [e];exact congrArg some e1,ek ▸ e2⟩
def Wv:RDn:=λds h Q=> ∃ (N Lf:P3) (Ts L:G0 (G0 (G0 P2))) (kv:G0 (G0 (G0 P2)×D)) (ep ep2 n:G6),ds= [.dct N,.dct Lf]/\TabsOk n Ts/\h.dc N=some (.tk ep2 kv)/\NxOk n Ts (fnd n Ts) none kv h/\h.dc Lf=some (.tk ep (L.map λM=>(M,D.bl true)))/\(∀M∈L,M∈ZN n Ts)/\L.length<=512/\ ∀p,h p=none->Q (.lst p) (zB h p ((L.filter λM=> !nxA n Ts L M).map jp))
theorem QQ (Z:Zs mg)(F:Fun K "ends_of" "ends_of" ZD f fd):FnOk P w K mg base CX0 (n+1) f fd ["nexts","left"] (LSp K Wv):=by
 refine F.okM Jn (λhr=>(zr (yF (jl1 2 Jn (DM (jv 1)) (λ_ _ _ _=>(vX (JH (zS (OQ rfl) rfl Z.any (by decide +kernel) (j1 (jl0 3 Jn (jX (SW hr (jv 0) (jv 2))) (λ_ _ _ _=>(Hd (AI hr) (jv 3) (jv 1) (by with_unfolding_all rfl))))))))) (λ_ _ _ _=>(jv 2)))))) ?_;rintro ds h Q ⟨N,Lf,Ts,L,kv,ep,ep2,n,rfl,hT,kN,nx,kL,sub,lL,q⟩;refine⟨rfl,?_⟩;have l3:=hT.l3;refine lcF (j:=UC Lf ep (L.map λM=>(M,D.bl true)).length) L jp jp (λM=> !nxA n Ts L M) (by omega) (by rw [XJ kL,To]) (λR r=>⟨_,rfl,Lf,ep,_,rfl,kL,r⟩) (λM hM Q' q'=> ?_) (λM hM _ Q' q'=>⟨_,rfl,q'⟩) (λp hp=>⟨_,Sub.refl _,q p hp⟩);obtain⟨X,gX,kX⟩:=Ee nx (sub M hM);exact Kl (j:=λh=>h X) (D4 Ts.length) (λi=>jp (mk1 n (Ts.getD i []) M)) (λi=>decide (mk1 n (Ts.getD i []) M∈L)) (by rw [S6];omega) kX (λR r=>⟨_,rfl,_,rfl,N,M,ep2,kv,_,rfl,rfl,kN,gX,r⟩) (λi hi Q'' q''=>⟨_,rfl,_,rfl,Lf,_,ep,_,rfl,rfl,kL,by rw [AR,Bool.false_bne];exact q''⟩) ⟨_,rfl,q'⟩
def chE (n:G6)(Ts:G0 (G0 (G0 P2)))(k:G6):G0 (G0 (G0 P2)):=(chL n Ts k).filter λM=> !nxA n Ts (chL n Ts k) M
variable {h':HD}
theorem Rm (x:NxOk n Ts F none kv h)(sb:Sub h h'):NxOk n Ts F none kv h':=⟨x.1,λp hp=>let ⟨X,e1,e2,e3⟩:=x.2 p hp;⟨X,e1,sb _ _ e2,e3⟩⟩
theorem Nj (L:G0 (G0 (G0 P2)))(M:G0 (G0 P2)):HT.ZM (L.map λM=>(M,D.bl true)) M=(L.filter λN=> !decide (N=M)).map λM=>(M,D.bl true):=by
 unfold HT.ZM;rw [List.filter_map];rfl
def Bh (E L:G0 (G0 (G0 P2)))(i:G6):G0 (G0 (G0 P2)):=L.filter λN=> !decide (N∈E.take i)
theorem Nk {E L:G0 (G0 (G0 P2))}:Bh E L 0=L:=dU.mpr λM _=>by rw [gK];exact congrArg (!·) (S8 λz=>nomatch z)
theorem Nl {E L:G0 (G0 (G0 P2))}{i:G6}(e:E[i]? =some M):(Bh E L i).filter (λN=> !decide (N=M))=Bh E L (i+1):=by
 unfold Bh;rw [List.filter_filter];refine lD λN _=> ?_
 rw [F8,e];show (!decide (N=M)&& !decide (N∈E.take i))= !decide (N∈E.take i++ [M]);rw [<-Bool.not_or,<-Bool.decide_or];refine congrArg (!·) (decide_eq_decide.mpr ⟨λz=> ?_,λz=> ?_⟩)
 ·rcases z with z|z
  ·rw [z];exact P5 _ P4
  ·exact M8 _ z
 ·rcases D8.mp z with z|z
  ·exact .inr z
  ·exact .inl (G8.mp z)
theorem Bi (l3:Ts.length<=3): ∀k,(chL n Ts k).Nodup
 |0=>((Zz (n:=n) l3).nd).filter _
 |k+1=>(Bi l3 k).filter _
variable {k:G6}
theorem Rn (h:M∈chL n Ts k):M∈ZN n Ts:=(C1.mp (DV (N9 k) h)).1
theorem UO (n3:n<=3)(l3:Ts.length<=3): ∀k,(chL n Ts k).length<=512
 |0=>S0 (aR _ _) (by unfold ZN;rw [G5];exact(Zz (n:=n) l3).few n3)
 |k+1=>S0 (aR _ _) (UO n3 l3 k)
theorem FR {i:G6}(l3:Ts.length<=3)(e:(chE n Ts k)[i]? =some M):M∈Bh (chE n Ts k) (chL n Ts k) i:=by
 refine C1.mpr ⟨(C1.mp (P8 e)).1,?_⟩;have nd:(chE n Ts k).Nodup:=(Bi l3 k).filter _;have il:=(P9.mp e).1;have t:(chE n Ts k).take (i+1)=(chE n Ts k).take i++ [M]:=by rw [F8,e];rfl
 have:=nd.sublist (Q7 (i+1) _);rw [t] at this;rw [S8 λz=>(W3.mp this).2.2 _ z _ P4 rfl];rfl
theorem FS:Bh (chE n Ts k) (chL n Ts k) (chE n Ts k).length=chL n Ts (k+1):=by
 unfold Bh;rw [U9];refine lD λM hM=> ?_
 cases z:nxA n Ts (chL n Ts k) M with
 |true=>rw [S8 λy=>by have:=(C1.mp y).2;rw [z] at this;cases this];rfl
 |false=>
  have y:M∈chE n Ts k:=C1.mpr ⟨hM,by rw [z];rfl⟩;rw [S7 y];rfl
theorem Nm (h:chE n Ts k≠ []):(chL n Ts (k+1)).length<(chL n Ts k).length:=by
 obtain⟨M,hM⟩:=dN _ h;obtain⟨a,b⟩:=C1.mp hM;refine List.length_filter_lt_length_iff_exists.mpr ⟨M,a,λz=> ?_⟩;rw [z] at b;cases b
def zF:RDn:=λds h Q=> ∃N Ts kv ep2,∃n:G6,ds= [.dct N]/\TabsOk n Ts/\h.dc N=some (.tk ep2 kv)/\NxOk n Ts (fnd n Ts) none kv h/\ ∀Lf r ep h',h'.dc Lf=some (.tk ep ((chL n Ts r).map λM=>(M,D.bl true)))->chE n Ts r= []->(∀i<r,chE n Ts i≠ [])->Sub h h'->Q (.tup [.int ((r:G6):P2),.dct Lf]) h'
theorem yi (Z:Zs mg)(F:Fun K "rounds_and_lasting" "rounds_and_lasting" zb f fd)(Ej:jE P w K mg base n "full" ["table"] Rk)(VR:jE P w K mg base n "ends_of" ["nexts","left"] Wv):FnOk P w K mg base CX0 (n+1) f fd ["nexts"] (LSp K zF):=by
 refine F.okM jw (λhr=>(js5 (AK (i:=4) (k:=1) (js:= [4]) hr rfl jw.nd rfl (U7 rfl) (zw (by rfl)) (DM (jv 0)) (by decide) rfl (by first|exact U7 rfl|exact aW rfl) (λX' hX=>by obtain⟨C,s₀,H₀,ex,rfl⟩:=hX;exact GY (vX (JH (jk Ej hr (j1 (jv 4)))))) (λX' hX=>by obtain⟨C,s₀,H₀,ex,rfl⟩:=hX;exact(jv 4)) (λX' hX=>by obtain⟨C,s₀,H₀,ex,rfl⟩:=hX;exact jbl)) (jse 2 jw jC) (jse 3 jw (jk VR hr (j2 (jv 0) (jv 1)))) (Pl A7 (An (jv 3)) (js3 (GX A7 rfl (jX (jv 3)) (jgn 4 jw) (zr (Tb hr (jv 1) (jv 4)))) (CG (i:=2) jw.nd rfl (U7 rfl) jC) (jse 3 jw (jk VR hr (j2 (jv 0) (jv 1)))))) (yF (yE (j2 (jv 2) (jv 1)))))) ?_;rintro ds h Q ⟨N,Ts,kv,ep2,n,rfl,hT,kN,nx,q⟩;refine⟨rfl,?_⟩;have n1:=hT.n1;have n3:=hT.n3;have l3:=hT.l3;have kk:kv.map (λp=>jp p.1)=(ZN n Ts).map jp:=by
  have:=congrArg (qR jp) nx.1
  rwa [B6] at this
 have lk:(ZN n Ts).length<=512:=by unfold ZN;rw [G5];exact(Zz (n:=n) l3).few n3
 have lkv:kv.length=(ZN n Ts).length:=by unfold ZN;rw [G5];exact nx.len
 have ndk:(ZN n Ts).Nodup:=(Zz (n:=n) l3).nd;have ky: ∀l:G0 (G0 (G0 P2)),(l.map λM=>(M,D.bl true)).map (·.1)=l:=λl=>by rw [B6];exact rT l
 refine ji (λσ' h'=> ∃Lf ep,σ'= [some (.dct N),some (.dct Lf),none,none,none]/\h'.dc Lf=some (.tk ep ((chL n Ts 0).map λM=>(M,D.bl true)))/\h.dc Lf=none/\Sub h h') (λC hC=>⟨_,rfl,N,ep2,kv,rfl,kN,kv.length,λi kv' h'=>h=h'/\kv'=(((ZN n Ts).take i).filter λM=> !jF M).map λM=>(M,D.bl true),⟨rfl,rfl⟩,?_⟩) ?_
 ·rintro i kv' _ ⟨rfl,rfl⟩;refine⟨?_,?_,_,(XJ kN).trans (congrArg some kk),?_,λhi P ep fP=>hC _ _ ⟨P,ep,rfl,?_,fP,.newC fP⟩,λd hd=> ?_⟩
  ·rw [G5];have a:=aR (λM=> !jF M) ((ZN n Ts).take i);have b:=List.length_take_le i (ZN n Ts);have c:((ZN n Ts).take i).length<=(ZN n Ts).length:=by rw [T4];exact dD _ _
   omega
  ·rw [ky];exact(ndk.sublist (Q7 _ _)).filter _
  ·rw [G5];exact E5 lkv.symm
  ·rw [G5] at hi;rw [M6 hi,zc];rfl
  ·rw [D3] at hd;obtain⟨M,hM,rfl⟩:=F4.mp hd;obtain⟨w,hw,eM⟩:=Yh hT (P8 hM);have sq:Sq n 1 M:=eM ▸ Vy w;have st:(ZN n Ts).take (i+1)=(ZN n Ts).take i++ [M]:=by rw [F8,hM];rfl
   refine⟨_,rfl,_,rfl,M,n,1,rfl,sq,n1,by omega,_,rfl,?_⟩;cases z:jF M with
   |true=>
    refine⟨_,Sub.refl _,rfl,?_⟩;rw [st,pT,J3 (by rw [z];exact D6),sQ,E7]
   |false=>
    refine⟨_,rfl,M,_,rfl,?_,Sub.refl _,rfl,?_⟩
    ·rw [ky];have:=ndk.sublist (Q7 (i+1) _);rw [st] at this;exact λy=>(W3.mp this).2.2 _ (C1.mp y).1 _ P4 rfl
    ·rw [st,pT,J4 (by rw [z];rfl),sQ,T9];rfl
 rintro _ h1 ⟨Lf,ep,rfl,kL,fL,sb⟩;refine Jv [some (.dct N),some (.dct Lf),some (.int ((0:G6):P2)),none,none] (λC hC=>hC) ?_;refine ji (λσ' h'=> ∃E,σ'= [some (.dct N),some (.dct Lf),some (.int ((0:G6):P2)),some (.lst E),none]/\h'.dc Lf=some (.tk ep ((chL n Ts 0).map λM=>(M,D.bl true)))/\h' E=some ((chE n Ts 0).map jp)/\Sub h h') (λC hC=>⟨_,rfl,_,rfl,N,Lf,Ts,_,kv,ep,ep2,n,rfl,hT,sb.dc _ _ kN,Rm nx sb,kL,λM hM=>Rn hM,UO n3 l3 0,λE eE=>hC _ _ ⟨E,rfl,kL,jc,sb.newAt eE⟩⟩) ?_;clear kL sb;rintro _ h2 ⟨E,rfl,kL,kE,sb⟩;refine ji (λσ' h'=> ∃r ep b3 b4,σ'= [some (.dct N),some (.dct Lf),some (.int ((r:G6):P2)),b3,b4]/\h'.dc Lf=some (.tk ep ((chL n Ts r).map λM=>(M,D.bl true)))/\chE n Ts r= []/\(∀i<r,chE n Ts i≠ [])/\Sub h h') (λC hC=> ?_) ?_
 ·refine WO (λm σ' h'=> ∃r ep E b4,σ'= [some (.dct N),some (.dct Lf),some (.int ((r:G6):P2)),some (.lst E),b4]/\h'.dc Lf=some (.tk ep ((chL n Ts r).map λM=>(M,D.bl true)))/\h' E=some ((chE n Ts r).map jp)/\(∀i<r,chE n Ts i≠ [])/\Sub h h'/\m=(chL n Ts r).length) _ ⟨0,ep,E,_,rfl,kL,kE,(λ_ z=>absurd z (Q0 _)),sb,rfl⟩ ?_;clear kL kE sb;rintro m _ h3 ⟨r,ep,E,b4,rfl,kL,kE,lo,sb,rfl⟩;refine⟨_,rfl,_,⟨_,kE,rfl⟩,?_⟩
  by_cases ez:chE n Ts r= []
  ·rw [ez];exact Wb (hC _ _ ⟨r,ep,_,_,rfl,kL,ez,lo,sb⟩)
  rw [show (!((chE n Ts r).map jp).isEmpty)=true from by
   cases z:chE n Ts r with
   |nil=>exact absurd z ez
   |cons=>rfl]
  refine Gx ?_;refine ji (λσ' h'=> ∃ep b4,σ'= [some (.dct N),some (.dct Lf),some (.int ((r:G6):P2)),some (.lst E),b4]/\h'.dc Lf=some (.tk ep ((chL n Ts (r+1)).map λM=>(M,D.bl true)))/\Sub h h') (λC hC=> ?_) ?_
  ·refine vw (h1:=h3) (j:=λh=>h E) ((chE n Ts r).map jp) (λi σ' h'=> ∃ep b4,σ'= [some (.dct N),some (.dct Lf),some (.int ((r:G6):P2)),some (.lst E),b4]/\h'.dc Lf=some (.tk ep ((Bh (chE n Ts r) (chL n Ts r) i).map λM=>(M,D.bl true)))/\h' E=some ((chE n Ts r).map jp)/\Sub h h') (λR q'=>⟨_,rfl,q'⟩) (λi σ' h' ⟨_,_,_,_,z,_⟩=>z) ⟨ep,b4,rfl,?_,kE,sb⟩ (λσ' h' ⟨ep,b4,e,a,_,c⟩=>hC _ _ ⟨ep,b4,e,?_,c⟩) ?_
   ·rw [kL,Nk]
   ·rw [a,G5,FS]
   clear kL kE sb;rintro i d _ h4 hd ⟨ep,b4,rfl,kL,kE,sb⟩;have hil:=(P9.mp hd).1;rw [D3] at hd;obtain⟨M,eM,rfl⟩:=F4.mp hd;refine⟨_,rfl,_,rfl,Lf,M,ep,_,rfl,rfl,kL,by rw [ky];exact FR l3 eM,λep'=>⟨_,Sub.refl _,hil,ep',_,rfl,?_,kE,sb.overC fL⟩⟩;rw [zc,Nj,Nl eM]
  clear kL kE sb;rintro _ h4 ⟨ep,b4,rfl,kL,sb⟩;refine Jv [some (.dct N),some (.dct Lf),some (.int ((r+1:G6):P2)),some (.lst E),b4] (λC hC=>⟨_,rfl,_,rfl,hC⟩) ?_;exact⟨_,rfl,_,rfl,N,Lf,Ts,_,kv,ep,ep2,n,rfl,hT,sb.dc _ _ kN,Rm nx sb,kL,λM hM=>Rn hM,UO n3 l3 _,λE' eE=>⟨_,_,Nm ez,Sub.refl _,r+1,ep,E',b4,rfl,kL,jc,λi hi=>by
   rcases F9 i r with c|c
   ·exact lo i c
   ·rw [fE (fC.mp hi) c];exact ez,sb.newAt eE,rfl⟩⟩
 clear kL kE sb;rintro _ h3 ⟨r,ep,b3,b4,rfl,kL,ez,lo,sb⟩;exact⟨_,rfl,_,rfl,sz2,h3,Sub.refl _,q Lf r ep h3 kL ez lo sb⟩
def afD:D2 G6->D
 |none=> .non
 |some m=> .int ((m:G6):P2)
def wM:RDn:=λds h Q=> ∃A Ts,∃n:G6,ds= [.lst A]/\h A=some (Ts.map jp)/\TabsOk n Ts/\ ∀o,AfF n Ts o->Q (afD o) h
theorem JM (Z:Zs mg)(F:Fun K "all_full_from" "all_full_from" zU f fd)(Yy:jE P w K mg base n "want_tables" ["thing"] yJ)(JP:jE P w K mg base n "ways_and_nexts" ["tables"] wv)(yB:jE P w K mg base n "rounds_and_lasting" ["nexts"] zF):FnOk P w K mg base CX0 (n+1) f fd ["tables"] (LSp K wM):=by
 refine F.okM zL (λhr=>(js4 (Zj (jk Yy hr (j1 (jv 0)))) (Cw (jk JP hr (j1 (jv 0))) (YY (i:=1) (j:=2) rfl zL.nd rfl rfl (U7 rfl) (U7 rfl))) (Cw (jk yB hr (j1 (jv 2))) (YY (i:=3) (j:=4) rfl zL.nd rfl rfl (U7 rfl) (U7 rfl))) (yF (jif (AJ (jv 4)) Hc (jop zp (jv 3) jC))))) ?_;rintro ds h Q ⟨A,Ts,n,rfl,kA,hT,q⟩;refine⟨rfl,?_⟩;refine Jv [some (.lst A),none,none,none,none] (λC hC=>⟨_,rfl,A,Ts,n,rfl,kA,hT,hC⟩) ?_;refine ji (λσ' h'=> ∃W N ep2 kv,σ'= [some (.lst A),some (.dct W),some (.dct N),none,none]/\h'.dc N=some (.tk ep2 kv)/\NxOk n Ts (fnd n Ts) none kv h'/\Sub h h') (λC hC=>⟨_,rfl,A,Ts,n,rfl,kA,hT,λW N ep ep2 kv h' kW kN nx sb=>⟨_,_,rfl,hC _ _ ⟨W,N,ep2,kv,rfl,kN,nx,sb⟩⟩⟩) ?_;rintro _ h1 ⟨W,N,ep2,kv,rfl,kN,nx,sb⟩;refine ji (λσ' h'=> ∃Lf r ep,σ'= [some (.lst A),some (.dct W),some (.dct N),some (.int ((r:G6):P2)),some (.dct Lf)]/\h'.dc Lf=some (.tk ep ((chL n Ts r).map λM=>(M,D.bl true)))/\chE n Ts r= []/\(∀i<r,chE n Ts i≠ [])/\Sub h h') (λC hC=>⟨_,rfl,N,Ts,kv,ep2,n,rfl,hT,kN,nx,λLf r ep h' kL ez lo sb2=>⟨_,_,rfl,hC _ _ ⟨Lf,r,ep,rfl,kL,ez,lo,sb.trans sb2⟩⟩⟩) ?_;clear kN nx sb;rintro _ h2 ⟨Lf,r,ep,rfl,kL,ez,lo,sb⟩;have q:=q _ (Tg ez lo);refine⟨_,rfl,Lf,ep,_,rfl,kL,?_⟩
 by_cases z:chL n Ts r= []
 ·rw [R8 z] at q;rw [z];exact Wb ⟨_,rfl,h,sb,q⟩
 ·rw [R9 z] at q;rw [show (!((chL n Ts r).map λM=>(M,D.bl true)).isEmpty)=true from by
   cases y:chL n Ts r with
   |nil=>exact absurd y z
   |cons=>rfl]
  exact Gx ⟨h,sb,q⟩
def Jy:RDn:=λds h Q=> ∃ns k,ds= [.scr ns,.int k]/\0<=k/\ ∀n,Q (.int n) h
theorem VJ (Z:Zs mg)(F:Fun K "_law_cell" "_law_cell" yY f fd):FnOk P w K mg base CX0 (n+1) f fd ["_law_script","_law_k"] (LSp K Jy):=by
 refine F.okM VH (λhr=>(js2 (UB (jt1 OL (jv 1) (Dy Z (jv 0))) (yF (ji1 (jv 0) (jv 1)))) (yF jC))) ?_;rintro ds h Q ⟨ns,k,rfl,h0,q⟩;refine⟨rfl,?_⟩;simp only [JD,RQ,vn,dOp,Nw,wK,T5,dF,D9,L5,aJ,A4,bU,Z6,cS,dCB,zu,Wf,FX,Ny,D.bl.injEq,Nx,ixD,RT,fG,Uf,dC];refine Ud (λc=> ?_) (λ_=>⟨h,Sub.refl h,q 0⟩);have c':k<(ns.length:P2):=H0 c;have hk:k.toNat<ns.length:=by omega
 have ek:k=((k.toNat:G6):P2):=by omega
 have z:=wT (G2 hk);rw [<-ek] at z;exact⟨ns[k.toNat],z,h,Sub.refl h,q _⟩
def ZH:RDn:=λds h Q=> ∃c,ds= [.int c]/\ ∀p l fl,h p=none->0<=l->(fl=0\/fl=1)->Q (.lst p) (zB h p [.int l,.int fl])
theorem UP (Z:Zs mg)(F:Fun K "_law_pen" "_law_pen" Jo f fd):FnOk P w K mg base CX0 (n+1) f fd ["_law_cell_here"] (LSp K ZH):=by
 refine F.okM ZE (λhr=>(js2 (jse 1 ZE (zS (OO rfl) rfl Z.max (by decide +kernel) (j2 (jv 0) (jop GG jC (jv 0))))) (yF (JJ (j2 (jv 1) (jM Xc rfl Z.int (by decide +kernel) (j1 (jc1 Cl (jv 1) (jop Nz jC jC))))))))) ?_;rintro ds h Q ⟨c,rfl,q⟩;refine⟨rfl,?_⟩;simp only [JD,GD,dCB,zu,Nw,wK,T5,dF,D9,L5,B1,aJ,A4,Z6,cS,dOp,dC,TV,Wf,Sv,Nx,Er,List.set_cons_succ,List.set_cons_zero,bU,TX,Ny,Su,RT,fG];refine⟨⟨by decide,by decide,by decide⟩,by decide,λp hp=>⟨_,Sub.refl _,q p _ _ hp ?_ ?_⟩⟩
 ·split<;>omega
 ·split<;>simp<;>omega
def zG:RDn:=λds h Q=> ∃p l fl m,ds= [.lst p,.int m]/\h p=some [.int l,.int fl]/\0<=l/\0<m/\m<1073741824/\ ∀r l',0<=r->r<m->0<=l'->Q (.int r) (zB h p [.int l',.int fl])
theorem VL (Z:Zs mg)(F:Fun K "_law_draw" "_law_draw" yZ f fd):FnOk P w K mg base CX0 (n+1) f fd ["_law_pen_here","_law_many_here"] (LSp K zG):=by
 refine F.okM zZ (λhr=>(js5 (SF (jt1 oq_eq (ji1 (jv 0) jC) jC) (js3 (Cw (zS GJ rfl Z.divmod (by decide +kernel) (j2 (ji1 (jv 0) jC) (jv 1))) (YY (i:=2) (j:=3) rfl zZ.nd rfl rfl (U7 rfl) (U7 rfl))) (Cw (jv 2) (Xe (jv 0) jC)) (yF (jv 3))) GW) (jse 4 zZ (jop vt (jop WI (jop zp (jop vt (ji1 (jv 0) jC) jC) jC) jC) jC)) (jse 4 zZ (jop vt (jop zp (jop WI (jv 4) (jv 4)) jC) jC)) (Cw (jop vt (jop zp (jop WI (jv 4) jC) jC) jC) (Xe (jv 0) jC)) (yF (jop vt (jop Cj (ji1 (jv 0) jC) jC) (jv 1))))) ?_;rintro ds h Q ⟨p,l,fl,m,rfl,hp,h0,hm,hm2,q⟩;refine⟨rfl,?_⟩;refine Jv [some (.lst p),some (.int m),none,none,none] (λC hC=>⟨_,rfl,_,_,hp,rfl,?_⟩) ?_
 ·show ∃k,D.bl (decide (fl=1))= .bl k/\_;refine⟨_,rfl,Ud (λ_=> ?_) λ_=>hC⟩;exact⟨_,rfl,_,_,hp,rfl,_,rfl,⟨hm,hm2⟩,_,_,rfl,_,rfl,_,rfl,p,0,_,0,rfl,rfl,hp,rfl,_,rfl,_,Sub.refl _,q (l%m) (l / m) (iM _ (xJ hm)) (kJ _ hm) (Int.ediv_nonneg h0 (xF hm))⟩
 refine ji (λσ' h'=> ∃z:P2,σ'= [some (.lst p),some (.int m),none,none,some (.int z)]/\(0<=z/\z<2147483629)/\h=h') (λC hC=>⟨_,rfl,_,_,hp,rfl,by decide,.inr ⟨by decide,by decide⟩,by decide,hC _ _ ⟨_,rfl,⟨iM _ (by decide),kJ _ (by decide)⟩,rfl⟩⟩) ?_;rintro _ _ ⟨z,rfl,⟨z0,z1⟩,rfl⟩;refine ji (λσ' h'=> ∃y:P2,σ'= [some (.lst p),some (.int m),none,none,some (.int y)]/\h=h') (λC hC=>⟨_,rfl,_,rfl,.inl ⟨i9 (by decide) z0,Int.lt_trans z1 (by decide)⟩,by decide,hC _ _ ⟨_,rfl,rfl⟩⟩) ?_;rintro _ _ ⟨y,rfl,rfl⟩;refine ji (λσ' h'=> ∃x:P2,σ'= [some (.lst p),some (.int m),none,none,some (.int y)]/\0<=x/\h'=zB h p [.int x,.int fl]) (λC hC=>⟨_,rfl,.inr ⟨by decide,by decide⟩,by decide,_,rfl,p,0,_,0,rfl,rfl,hp,rfl,hC _ _ ⟨_,rfl,iM _ (by decide),rfl⟩⟩) ?_;rintro _ _ ⟨x,rfl,x0,rfl⟩;exact⟨_,rfl,_,_,jc,rfl,⟨by decide,by decide⟩,_,rfl,hm,_,Sub.refl _,q (x / 32%m) x (iM _ (xJ hm)) (kJ _ hm) x0⟩
theorem VM (Z:Zs mg)(F:Fun K "_law_same" "_law_same" va f fd):FnOk P w K mg base CX0 (n+1) f fd ["_law_found","_law_due"] (LSp K NF):=by
 refine F.okM VI (λhr=>(zr (yF (jc1 oq_eq (zS (Xk hr) rfl Z.repr (by decide +kernel) (j1 (jv 0))) (zS (Xk hr) rfl Z.repr (by decide +kernel) (j1 (jv 1))))))) ?_;rintro ds h Q ⟨x,y,pd,rfl,t1,t2,so,q⟩;refine⟨rfl,?_⟩;refine⟨_,rfl,x,pd,rfl,t1,so,_,rfl,y,pd,rfl,t2,so,h,Sub.refl h,?_⟩;rw [S7 rfl];exact q
def zQ:RDn:=λds h Q=> ∃p l fl,∃k:G6,ds= [.lst p,.int (k:P2)]/\h p=some [.int l,.int fl]/\0<=l/\1<=k/\k<=6/\ ∀T l',GoodTab k T->0<=l'->Q (jp T) (zB h p [.int l',.int fl])
theorem Ys (Z:Zs mg)(F:Fun K "_law_table" "_law_table" yc f fd)(ju:jE P w K mg base n "_law_draw" ["_law_pen_here","_law_many_here"] zG):FnOk P w K mg base CX0 (n+1) f fd ["_law_pen_here","_law_size"] (LSp K zQ):=by
 refine F.okM jD (λhr=>(js5 (Et (i:=2) (j:=3) rfl jD.nd rfl rfl (by decide) rfl rfl (j2 (jk ju hr (j2 (jv 0) jC)) (ji1 (JJ (j3 jC jC jC)) (jk ju hr (j2 (jv 0) jC)))) rfl) (jse 4 jD (ji1 (JJ (j4 jC jC jC (jop Nz jC jC))) (jk ju hr (j2 (jv 0) jC)))) (jse 5 jD (JJ yD)) (GX A7 rfl (jrg Z (jv 1)) (jgn 6 jD) (js3 (jse 7 jD (JJ yD)) (GX A7 rfl (jrg Z (jv 1)) (jgn 8 jD) (js5 (jse 9 jD (jc1 oq_eq (jk ju hr (j2 (jv 0) (jv 3))) jC)) (UB (jt1 OL (jv 2) jC) (jse 9 jD (jor (jc1 oq_eq (jv 8) (jop vt (jop zp (jv 6) jC) (jv 1))) (NE (FY (jv 9) (NE (jc1 (ND hr.units) (jk ju hr (j2 (jv 0) jC)) (jv 2)))))))) (UB (jt1 oq_eq (jv 2) jC) (jse 9 jD (jor (FY (jv 9) (NE (jc1 oq_eq (jop vt (jop GG (jv 8) (jv 6)) jC) jC))) (NE (jc1 (ND hr.units) (jv 8) (jop zp (jv 6) jC)))))) (UB (jt1 oq_eq (jv 2) jC) (jse 9 jD (FY (jv 9) (NE (jc1 Cl (jv 8) (jv 6)))))) (Zj (Af (jv 7) (jop WI (jM Xc rfl Z.int (by decide +kernel) (j1 (jv 9))) (jop zp jC (jk ju hr (j2 (jv 0) (jv 4))))))))) (Zj (Af (jv 5) (jM cq_tuple rfl Z.tuple (by decide +kernel) (j1 (jv 7))))))) (yF (jM cq_tuple rfl Z.tuple (by decide +kernel) (j1 (jv 5)))))) ?_;rintro ds h Q ⟨p,l,fl,k,rfl,hp,h0,hk1,hk6,q⟩;refine⟨rfl,?_⟩;refine ji (λσ' h'=> ∃way o l2,σ'= [some (.lst p),some (.int (k:P2)),some (.int way),some (.int o),none,none,none,none,none,none]/\0<o/\o<1000/\0<=l2/\h' p=some [.int l2,.int fl]/\But p h h') (λC hC=>⟨_,rfl,p,l,fl,6,rfl,hp,h0,by decide,by decide,λway l1 w0 w1 l10=>⟨sz3,λp1 e1=>⟨_,rfl,p,l1,fl,3,rfl,jd jc e1,l10,by decide,by decide,λr l2 r0 r1 l20=> ?_⟩⟩⟩) ?_
 ·obtain⟨oft,ho,eo⟩:=Zg (xs:= [D.int 2,D.int 3,D.int 5]) r0 r1;obtain⟨o,e,o1,o2⟩: ∃o:P2,oft= .int o/\0<o/\o<1000:=by
   simp only [R5,C9,or_false] at ho;rcases ho with e|e|e<;>exact⟨_,e,by decide,by decide⟩
  subst e;exact⟨_,_,jf (jq jc e1) jc,eo,_,_,rfl,hC _ _ ⟨way,o,l2,rfl,o1,o2,l20,jc,((But.upd).new e1).put⟩⟩
 rintro _ h1 ⟨way,o,l2,rfl,o1,o2,l20,kA,bA⟩;refine ji (λσ' h'=> ∃m l3,σ'= [some (.lst p),some (.int (k:P2)),some (.int way),some (.int o),some (.int m),none,none,none,none,none]/\0<m/\m<=1000000/\0<=l3/\h' p=some [.int l3,.int fl]/\But p h h') (λC hC=>⟨⟨by decide,by decide,by decide⟩,sz4,λp1 e1=>⟨_,rfl,p,l2,fl,4,rfl,jd kA e1,l20,by decide,by decide,λr l3 r0 r1 l30=> ?_⟩⟩) ?_
 ·obtain⟨most,ho,eo⟩:=Zg (xs:= [D.int 1,D.int 1,D.int 3,D.int (10^KT 6)]) r0 r1;obtain⟨m,e,m1,m2⟩: ∃o:P2,most= .int o/\0<o/\o<=1000000:=by
   simp only [R5,C9,or_false] at ho;rcases ho with e|e|e|e<;>exact⟨_,e,by decide,by decide⟩
  subst e;exact⟨_,_,jf (jq kA e1) jc,eo,hC _ _ ⟨m,l3,rfl,m1,m2,l30,jc,(bA.new e1).put⟩⟩
 clear kA bA;rintro _ h2 ⟨m,l3,rfl,m1,m2,l30,kB,bB⟩;refine ji (λσ' h'=> ∃R,σ'= [some (.lst p),some (.int (k:P2)),some (.int way),some (.int o),some (.int m),some (.lst R),none,none,none,none]/\R≠p/\h R=none/\h' R=some []/\h' p=some [.int l3,.int fl]/\But p h h') (λC hC=>⟨sz0,λR eR=>hC _ _ ⟨R,rfl,jq kB eR,Zh bB eR (jq kB eR),jc,jd kB eR,bB.new eR⟩⟩) ?_;clear kB bB;rintro _ h3 ⟨R,rfl,nR,fR,kR,kC,bC⟩;refine ji (λσ' h'=> ∃a b c d l4 rows,σ'= [some (.lst p),some (.int (k:P2)),some (.int way),some (.int o),some (.int m),some (.lst R),a,b,c,d]/\0<=l4/\h' p=some [.int l4,.int fl]/\h' R=some (rows.map zO)/\But p h h'/\GoodTab k rows) (λC hC=> ?_) (λσ' h' ⟨a,b,c,d,l4,rows,e,l40,kD,kE,bD,g⟩=>by subst e;exact⟨_,rfl,_,kE,_,bD.sub kD,q rows l4 g l40⟩);refine Zi k (λi σ' h'=> ∃a b c d l4 rows,σ'= [some (.lst p),some (.int (k:P2)),some (.int way),some (.int o),some (.int m),some (.lst R),a,b,c,d]/\0<=l4/\h' p=some [.int l4,.int fl]/\h' R=some (rows.map zO)/\But p h h'/\rows.length=i/\ ∀r∈rows,wf k r) (by omega) (λR' r=>⟨_,rfl,r⟩)
  ⟨none,none,none,none,l3,[],rfl,l30,kC,kR,bC,rfl,λr hr=>nomatch hr⟩ (λσ' h' z=>hC _ _ z) ?_
 clear kC kR bC;rintro i _ h4 hi ⟨a,b,c,d,l4,rows,rfl,l40,kD,kE,bD,g1,g2⟩;refine ji (λσ' h'=> ∃S,σ'= [some (.lst p),some (.int (k:P2)),some (.int way),some (.int o),some (.int m),some (.lst R),some (.int (i:P2)),some (.lst S),c,d]/\S≠p/\S≠R/\h S=none/\h' S=some []/\h' p=some [.int l4,.int fl]/\h' R=some (rows.map zO)/\But p h h') (λC hC=>⟨sz0,λS eS=>hC _ _ ⟨S,rfl,jq kD eS,jq kE eS,Zh bD eS (jq kD eS),jc,jd kD eS,jd kE eS,bD.new eS⟩⟩) ?_;clear kD kE bD;rintro _ h5 ⟨S,rfl,nS,nSR,fS,kS,kD,kE,bD⟩;refine ji (λσ' h'=> ∃c d l5 row,σ'= [some (.lst p),some (.int (k:P2)),some (.int way),some (.int o),some (.int m),some (.lst R),some (.int (i:P2)),some (.lst S),c,d]/\0<=l5/\h' p=some [.int l5,.int fl]/\h' R=some (rows.map zO)/\h' S=some (row.map D.int)/\But p h h'/\wf k row) (λC hC=> ?_) ?_
 rotate_left
 ·rintro _ h6 ⟨c,d,l5,row,rfl,l50,kD,kE,kF,bD,g⟩;refine⟨_,rfl,R,rfl,_,rfl,_,kF,_,kE,?_,_,Sub.refl _,by omega,_,_,_,_,l5,rows++ [row],rfl,l50,jf (E4 nR) kD,?_,bD.putNew fR,by rw [P1,g1];rfl,?_⟩
  ·rw [G5];exact X6 (show rows.length<=1000 by omega) (by decide)
  ·rw [jc,T9];rfl
  ·intro r hr;rcases D8.mp hr with z|z
   ·exact g2 r z
   ·rw [G8.mp z];exact g
 refine Zi k (λj σ' h'=> ∃c d l5 row,σ'= [some (.lst p),some (.int (k:P2)),some (.int way),some (.int o),some (.int m),some (.lst R),some (.int (i:P2)),some (.lst S),c,d]/\0<=l5/\h' p=some [.int l5,.int fl]/\h' R=some (rows.map zO)/\h' S=some (row.map D.int)/\But p h h'/\row.length=j/\ ∀x∈row,0<=x/\x<=1000000) (by omega) (λR' r=>⟨_,rfl,r⟩)
  ⟨_,_,l4,[],rfl,l40,kD,kE,kS,bD,rfl,λr hr=>nomatch hr⟩ (λσ' h' z=>hC _ _ z) ?_
 clear kD kE kS bD;rintro j _ h6 hj ⟨c,d,l5,row,rfl,l50,kD,kE,kF,bD,g1',g2'⟩;refine ji (λσ' h'=> ∃ (g:N0) (l6:P2),σ'= [some (.lst p),some (.int (k:P2)),some (.int way),some (.int o),some (.int m),some (.lst R),some (.int (i:P2)),some (.lst S),some (.int (j:P2)),some (.bl g)]/\0<=l6/\h' p=some [.int l6,.int fl]/\h' R=some (rows.map zO)/\h' S=some (row.map D.int)/\But p h h') (λC hC=>⟨_,rfl,_,rfl,p,l5,fl,o,rfl,kD,l50,o1,by omega,λr l6 r0 r1 l60=>hC _ _ ⟨_,l6,rfl,l60,jc,jf nR kE,jf nS kF,bD.put⟩⟩) ?_;clear kD kE kF bD;rintro _ _ ⟨g,l6,rfl,l60,kD,kE,kF,bD⟩;refine ji (λσ' h'=> ∃ (g:N0) (l6:P2),σ'= [some (.lst p),some (.int (k:P2)),some (.int way),some (.int o),some (.int m),some (.lst R),some (.int (i:P2)),some (.lst S),some (.int (j:P2)),some (.bl g)]/\0<=l6/\h' p=some [.int l6,.int fl]/\h' R=some (rows.map zO)/\h' S=some (row.map D.int)/\But p h h') (λC hC=>⟨_,rfl,_,rfl,Ud (λ_=>⟨_,rfl,_,rfl,_,rfl,by omega,_,rfl,Ud (λ_=>hC _ _ ⟨_,l6,rfl,l60,kD,kE,kF,bD⟩) λ_=>⟨_,rfl,_,rfl,Ud (λ_=>⟨_,rfl,p,l6,fl,2,rfl,kD,l60,by decide,by decide,λr l7 r0 r1 l70=>⟨_,rfl,hC _ _ ⟨_,l7,rfl,l70,jc,jf nR kE,jf nS kF,bD.put⟩⟩⟩) λ_=>hC _ _ ⟨_,l6,rfl,l60,kD,kE,kF,bD⟩⟩⟩) λ_=>hC _ _ ⟨_,l6,rfl,l60,kD,kE,kF,bD⟩⟩) ?_;clear kD kE kF bD;rintro _ _ ⟨g,l6,rfl,l60,kD,kE,kF,bD⟩;refine ji (λσ' h'=> ∃ (g:N0) (l6:P2),σ'= [some (.lst p),some (.int (k:P2)),some (.int way),some (.int o),some (.int m),some (.lst R),some (.int (i:P2)),some (.lst S),some (.int (j:P2)),some (.bl g)]/\0<=l6/\h' p=some [.int l6,.int fl]/\h' R=some (rows.map zO)/\h' S=some (row.map D.int)/\But p h h') (λC hC=>⟨_,rfl,_,rfl,Ud (λ_=>⟨_,rfl,_,rfl,Ud (λ_=>⟨_,rfl,_,rfl,by decide,_,rfl,Ud (λ_=>hC _ _ ⟨_,l6,rfl,l60,kD,kE,kF,bD⟩) λ_=>⟨_,rfl,_,rfl,hC _ _ ⟨_,l6,rfl,l60,kD,kE,kF,bD⟩⟩⟩) λ_=>⟨_,rfl,Ud (λ_=>hC _ _ ⟨_,l6,rfl,l60,kD,kE,kF,bD⟩) λ_=>⟨_,rfl,_,rfl,hC _ _ ⟨_,l6,rfl,l60,kD,kE,kF,bD⟩⟩⟩⟩) λ_=>hC _ _ ⟨_,l6,rfl,l60,kD,kE,kF,bD⟩⟩) ?_;clear kD kE kF bD;rintro _ _ ⟨g,l6,rfl,l60,kD,kE,kF,bD⟩;refine ji (λσ' h'=> ∃ (g:N0) (l6:P2),σ'= [some (.lst p),some (.int (k:P2)),some (.int way),some (.int o),some (.int m),some (.lst R),some (.int (i:P2)),some (.lst S),some (.int (j:P2)),some (.bl g)]/\0<=l6/\h' p=some [.int l6,.int fl]/\h' R=some (rows.map zO)/\h' S=some (row.map D.int)/\But p h h') (λC hC=>⟨_,rfl,_,rfl,Ud (λ_=>⟨_,rfl,_,rfl,Ud (λ_=>⟨_,rfl,_,rfl,hC _ _ ⟨_,l6,rfl,l60,kD,kE,kF,bD⟩⟩) λ_=>hC _ _ ⟨_,l6,rfl,l60,kD,kE,kF,bD⟩⟩) λ_=>hC _ _ ⟨_,l6,rfl,l60,kD,kE,kF,bD⟩⟩) ?_;clear kD kE kF bD;rintro _ _ ⟨g,l6,rfl,l60,kD,kE,kF,bD⟩;have gi: ∀x r:P2,0<=r->r<m->x=0\/x=1->CMul x (1+r)/\0<=x*(1+r)/\x*(1+r)<=1000000:=λx r r0 r1 hx=>by
  rcases hx with e|e<;>subst e
  ·exact⟨.inl ⟨by decide,by decide⟩,by omega,by omega⟩
  ·exact⟨.inl ⟨by decide,by decide⟩,by omega,by omega⟩
 refine⟨_,rfl,S,rfl,_,rfl,_,rfl,_,rfl,p,l6,fl,m,rfl,kD,l60,m1,by omega,λr l7 r0 r1 l70=> ?_⟩;have gg:=gi (if g=true then 1 else 0) r r0 r1 (by cases g<;>decide);refine⟨gg.1,_,jf nS kF,?_,_,Sub.refl _,by omega,_,_,l7,row++ [(if g=true then 1 else 0)*(1+r)],rfl,l70,jf (E4 nS) jc,jf (E4 nSR) (jf nR kE),?_,(bD.put).putNew fS,by rw [P1,g1'];rfl,?_⟩
 ·rw [G5];exact X6 (show row.length<=1000 by omega) (by decide)
 ·rw [jc,T9];rfl
 ·intro x hx;rcases D8.mp hx with z|z
  ·exact g2' x z
  ·rw [G8.mp z];exact gg.2
def vP:RDn:=λds h Q=> ∃p l fl,∃k:G6,ds= [.lst p,.int (k:P2)]/\h p=some [.int l,.int fl]/\0<=l/\k<=6/\ ∀o l',Ordr k o->0<=l'->Q (Xi o) (zB h p [.int l',.int fl])
theorem Yt (Z:Zs mg)(F:Fun K "_law_order" "_law_order" ye f fd)(ju:jE P w K mg base n "_law_draw" ["_law_pen_here","_law_many_here"] zG):FnOk P w K mg base CX0 (n+1) f fd ["_law_pen_here","_law_many_here"] (LSp K vP):=by
 refine F.okM wD (λhr=>(js3 (jse 2 wD (JJ yD)) (GX A7 rfl (jrg Z (jv 1)) (jgn 3 wD) (zr (Zj (Kj (jv 2) (jk ju hr (j2 (jv 0) (jop zp (jv 3) jC))) (jv 3))))) (yF (jM cq_tuple rfl Z.tuple (by decide +kernel) (j1 (jv 2)))))) ?_;rintro ds h Q ⟨p,l,fl,k,rfl,hp,h0,hk,q⟩;refine⟨rfl,?_⟩;refine ji (λσ' h'=> ∃R,σ'= [some (.lst p),some (.int (k:P2)),some (.lst R),none]/\R≠p/\h R=none/\h' R=some []/\h' p=some [.int l,.int fl]/\But p h h') (λC hC=> ?_) ?_
 ·exact⟨sz0,λR eR=>hC _ _ ⟨R,rfl,jq hp eR,eR,jc,jd hp eR,(But.refl p h).new eR⟩⟩
 rintro σ' h1 ⟨R,rfl,nR,fR,kR,kp,bt⟩;refine ji (λσ' h'=> ∃a l2 o,σ'= [some (.lst p),some (.int (k:P2)),some (.lst R),a]/\0<=l2/\Ordr k o/\h' R=some (o.map λ(i:G6)=>D.int (i:P2))/\h' p=some [.int l2,.int fl]/\But p h h') (λC hC=> ?_) ?_
 ·refine Zi k (λi σ' h'=> ∃a l2 o,σ'= [some (.lst p),some (.int (k:P2)),some (.lst R),a]/\0<=l2/\Ordr i o/\h' R=some (o.map λ(i:G6)=>D.int (i:P2))/\h' p=some [.int l2,.int fl]/\But p h h') (by omega) (λR' r=>⟨_,rfl,r⟩) ⟨none,l,[],rfl,h0,G0q,kR,kp,bt⟩ (λσ' h' z=>hC _ _ z) ?_;rintro i _ h2 hi ⟨a,l2,o,rfl,l20,ho,kR2,kp2,bt2⟩;refine⟨_,rfl,R,rfl,_,rfl,_,rfl,p,l2,fl,(i:P2)+1,rfl,kp2,l20,by omega,by omega,λr l3 r0 r1 l30=> ?_⟩;have lo:o.length=i:=ho.ord.len;refine⟨_,rfl,r.toNat,_,by rw [Int.toNat_of_nonneg r0],by omega,jf nR kR2,?_,_,Sub.refl _,by omega,_,l3,o.take r.toNat++i::o.drop r.toNat,rfl,l30,ho.insert r.toNat,?_,jf (E4 nR) jc,(bt2.put).putNew fR⟩
  ·rw [G5];exact X6 (show o.length<=1000 by omega) (by decide)
  ·rw [jc,T9,T5,iA,lH]
 rintro _ h3 ⟨a,l2,o,rfl,l20,ho,kR3,kp3,bt3⟩;exact⟨_,rfl,_,kR3,_,bt3.sub kp3,q o l2 ho l20⟩
def vQ:RDn:=λds h Q=> ∃T U,∃n e f:G6,ds= [jp T,jp U]/\Sq n e T/\Sq n f U/\e+f<=1000000/\n<=6/\Q (jp (JK n T U)) h
theorem Yu (Z:Zs mg)(F:Fun K "_law_times" "_law_times" yf f fd):FnOk P w K mg base CX0 (n+1) f fd ["_law_one","_law_other"] (LSp K vQ):=by
 refine F.okM za (λhr=>(js4 (jse 2 za (Dy Z (jv 0))) (jse 3 za (JJ yD)) (GX A7 rfl (jX (jv 0)) (jgn 4 za) (zr (Zj (Af (jv 3) (jM jS rfl Z.tuple (by decide +kernel) (j1 (jl0 5 za (jrg Z (jv 2)) (λ_ _ _ _=>(zS (GT rfl) rfl Z.sum (by decide +kernel) (j1 (jl0 6 za (jrg Z (jv 2)) (λ_ _ _ _=>(jop Pf (ji1 (jv 4) (jv 6)) (ji1 (ji1 (jv 1) (jv 6)) (jv 5))))))))))))))) (yF (jM cq_tuple rfl Z.tuple (by decide +kernel) (j1 (jv 3)))))) ?_;rintro ds h Q ⟨T,U,k,b,f,rfl,hT,hU,hb,h6,q⟩;refine⟨rfl,?_⟩;refine ji (λσ' h'=>σ'= [some (jp T),some (jp U),some (.int (k:P2)),none,none,none,none]/\h=h') (λC hC=>⟨_,rfl,hC _ _ ⟨by rw [G5,hT.len];rfl,rfl⟩⟩) ?_;rintro _ _ ⟨rfl,rfl⟩;refine ji (λσ' h'=> ∃R,σ'= [some (jp T),some (jp U),some (.int (k:P2)),some (.lst R),none,none,none]/\h R=none/\h' R=some []/\Sub h h') (λC hC=> ?_) ?_
 ·exact⟨sz0,λR eR=>hC _ _ ⟨R,rfl,eR,jc,Sub.newAt (Sub.refl h) eR⟩⟩
 rintro _ h1 ⟨R,rfl,fR,kR,sb⟩;refine ji (λσ' h'=> ∃a b c,σ'= [some (jp T),some (jp U),some (.int (k:P2)),some (.lst R),a,b,c]/\h' R=some ((JK k T U).map zO)/\Sub h h') (λC hC=> ?_) ?_
 ·refine vw (j:=λ_=>some (T.map zO)) (T.map zO) (λi σ' h'=> ∃a b c,σ'= [some (jp T),some (jp U),some (.int (k:P2)),some (.lst R),a,b,c]/\h' R=some ((T.take i).map λr=>D.tup ((D4 k).map λj=> .int (jT k λm=>r.getD m 0*ent U m j)))/\Sub h h') (λR' r=>⟨_,rfl,r⟩) (λ_ _ _ _=>rfl) ⟨_,_,_,rfl,kR,sb⟩ ?_ ?_
  ·rintro σ' h' ⟨a,b,c,e,kR2,sb2⟩;refine hC _ _ ⟨a,b,c,e,?_,sb2⟩;rw [G5,U9,Xj hT] at kR2;exact kR2
  rintro i d _ h2 hd ⟨a,b',c,rfl,kR2,sb2⟩;rw [D3] at hd;cases hx:T[i]? with
  |none=>rw [hx] at hd;cases hd
  |some r=>
   rw [hx] at hd;cases hd;have hr:=P8 hx;have hil:i<T.length:=(P9.mp hx).1;refine⟨_,rfl,R,rfl,?_⟩;refine Gb (D4 k) (λj=> .int (j:P2)) (λj=> .int (jT k λm=>r.getD m 0*ent U m j)) (by rw [S6];omega) rfl (λR rr=>⟨_,rfl,(k:P2),rfl,by omega,by omega,rr⟩) (λj hj Q'' q''=> ?_) ?_
   ·refine He (D4 k) (λm=> .int (m:P2)) (λm=>r.getD m 0*ent U m j) (by rw [S6];omega) rfl (λR rr=>⟨_,rfl,(k:P2),rfl,by omega,by omega,rr⟩) (λm hm Q3 q3=> ?_) q'';have hm':=D0.mp hm;have hj':=D0.mp hj;refine⟨_,rfl,_,rfl,_,Zn (hT.row r hr) hm',_,rfl,_,rfl,_,Ph hU hm',_,rfl,_,Zn (hU.row _ (Sq.getRow hU hm')) hj',?_,q3⟩;refine Xh (e:=b) (f:=f) ?_ (hU.ent_nn hm' hj') (by omega);have hm2:m<r.length:=by rw [hT.row r hr];exact hm'
    have e1:r.getD m 0=r[m]:=by rw [P7,G2 hm2];rfl
    rw [e1];exact⟨hT.nn r hr _ (M7 hm2),hT.bit r hr _ (M7 hm2)⟩
   ·refine⟨_,kR2,?_,_,Sub.refl _,by rw [G5];omega,_,_,_,rfl,?_,?_⟩
    ·rw [G5,T4];exact X6 (show min i T.length<=1000 by rw [hT.len];omega) (by decide)
    ·rw [jc,F8,hx,T9];rfl
    ·exact(sb2).over fR
 rintro _ h3 ⟨a,b,c,rfl,kR3,sb3⟩;exact⟨_,rfl,_,kR3,_,sb3,q⟩
def yL:RDn:=λds h Q=> ∃T,∃n e:G6,ds= [jp T]/\Sq n e T/\n<=6/\Q (jp (yu n T)) h
theorem ZV (Z:Zs mg)(F:Fun K "_law_marked" "_law_marked" wE f fd):FnOk P w K mg base CX0 (n+1) f fd ["_law_table_here"] (LSp K yL):=by
 refine F.okM wm (λhr=>(zr (yF (jM jS rfl Z.tuple (by decide +kernel) (j1 (jl0 1 wm (jX (jv 0)) (λ_ _ _ _=>(jM jS rfl Z.tuple (by decide +kernel) (j1 (jl0 2 wm (jX (jv 1)) (λ_ _ _ _=>(jM Xc rfl Z.int (by decide +kernel) (j1 (jc1 Ck (jv 2) jC)))))))))))))) ?_;rintro ds h Q ⟨T,k,b,rfl,hT,h6,q⟩;refine⟨rfl,?_⟩;refine Gb T zO (λr=> .tup (r.map λx=> .int (if x≠0 then 1 else 0))) (by rw [hT.len];omega) rfl (λR r=>⟨_,rfl,r⟩) (λr hr Q' q'=> ?_) ⟨h,Sub.refl h,?_⟩
 ·refine Gb r D.int (λx=> .int (if x≠0 then 1 else 0)) (by rw [hT.row r hr];omega) rfl (λR r=>⟨_,rfl,r⟩) (λx hx Q'' q''=>⟨_,rfl,?_⟩) q';show Q'' (.int (if decide (x>0)=true then 1 else 0)) h;have e:(if decide (x>0)=true then (1:P2) else 0)=if x≠0 then 1 else 0:=by
   have:=hT.nn r hr x hx
   by_cases z:x=0
   ·subst z;rfl
   ·rw [R8 z,R8 (S7 (by omega))]
  rw [e];exact q''
 ·rw [Pi,<-Pj hT];exact q
def yM:RDn:=λds h Q=> ∃T,∃n e:G6,ds= [jp T]/\Sq n e T/\1<=n/\n<=6/\Q (.bl (jF T)) h
theorem ZW (Z:Zs mg)(F:Fun K "_law_filled" "_law_filled" wF f fd):FnOk P w K mg base CX0 (n+1) f fd ["_law_table_here"] (LSp K yM):=by
 refine F.okM yH (λhr=>(zr (yF (jc1 Ck (zS (Po rfl) rfl Z.min (by decide +kernel) (j1 (jl0 1 yH (jX (jv 0)) (λ_ _ _ _=>(zS (Po rfl) rfl Z.min (by decide +kernel) (j1 (jv 1))))))) jC)))) ?_;rintro ds h Q ⟨T,k,b,rfl,hT,h1,h6,q⟩;refine⟨rfl,?_⟩;have ne: ∀r∈T,r≠ []:=λr hr z=>by have:=hT.row r hr;rw [z] at this;simp at this;omega
 refine Kn T zO Ju (by rw [hT.len];omega) rfl (λR r=>⟨_,rfl,r⟩) (λr hr Q' q'=>⟨_,rfl,CH (ne r hr) λm m1 m2=>by rw [Pq m1 m2];exact q'⟩) ?_ (λm m1 m2=>⟨h,Sub.refl h,?_⟩)
 ·intro z;have:=hT.len;rw [z] at this;simp at this;omega
 ·show Q (.bl (decide (m>0))) h;rw [WP hT ne m1 m2];exact q
theorem vR (Z:Zs mg)(F:Fun K "_law_good_table" "_law_good_table" zz f fd)(VO:jE P w K mg base n "_law_order" ["_law_pen_here","_law_many_here"] vP)(ju:jE P w K mg base n "_law_draw" ["_law_pen_here","_law_many_here"] zG):FnOk P w K mg base CX0 (n+1) f fd ["_law_pen_here","_law_size"] (LSp K zQ):=by
 refine F.okM jA (λhr=>(js6 (jse 2 jA (jk VO hr (j2 (jv 0) (jv 1)))) (jse 3 jA (ji1 (JJ (j3 jC jC jC)) (jk ju hr (j2 (jv 0) jC)))) (Ae (i:=8) (k:=4) (js:= [8]) rfl jA.nd rfl (U7 rfl) (zw (by rfl)) (jrg Z (jv 1)) (by decide) rfl (by first|exact U7 rfl|exact aW rfl) (λX' hX=>vY) (λX' hX=>by obtain⟨C,s₀,H₀,ex,rfl⟩:=hX;exact(jl0 9 jA (jrg Z (jv 1)) (λ_ _ _ _=>(jM Xc rfl Z.int (by decide +kernel) (j1 (jc1 oq_eq (jk ju hr (j2 (jv 0) (jv 3))) jC))))))) (GX A7 rfl (jrg Z (jv 1)) (jgn 5 jA) (js2 (Et (i:=6) (j:=7) rfl jA.nd rfl rfl (by decide) rfl rfl (j2 (ji1 (jv 2) (jv 5)) (ji1 (jv 2) (jop vt (jop zp (jv 5) jC) (jv 1)))) rfl) (Cw (jop zp jC (jk ju hr (j2 (jv 0) jC))) (Xe (ji1 (jv 4) (jv 6)) (jv 7))))) (Cw jC (Xe (ji1 (jv 4) (ji1 (jv 2) (Ki jC))) (ji1 (jv 2) (ji1 (JJ (j2 (jop vt jC (jv 1)) (jop GG (jv 1) jC))) (jk ju hr (j2 (jv 0) jC)))))) (yF (jM jS rfl Z.tuple (by decide +kernel) (j1 (jl0 10 jA (jX (jv 4)) (λ_ _ _ _=>(jM cq_tuple rfl Z.tuple (by decide +kernel) (j1 (jv 10)))))))))) ?_;rintro ds h Q ⟨p,l,fl,k,rfl,hp,h0,hk1,hk6,q⟩;refine⟨rfl,?_⟩;refine ji (λσ' h'=> ∃o l2,σ'= [some (.lst p),some (.int (k:P2)),some (Xi o),none,none,none,none,none,none,none,none]/\Ordr k o/\0<=l2/\h' p=some [.int l2,.int fl]/\But p h h') (λC hC=>⟨_,rfl,_,rfl,p,l,fl,k,rfl,hp,h0,hk6,λo l2 ho l20=>hC _ _ ⟨o,l2,rfl,ho,l20,jc,But.upd⟩⟩) ?_;rintro _ h1 ⟨o,l2,rfl,ho,l20,kp,bt⟩;refine ji (λσ' h'=> ∃oft l3,σ'= [some (.lst p),some (.int (k:P2)),some (Xi o),some (.int oft),none,none,none,none,none,none,none]/\0<oft/\oft<1000/\0<=l3/\h' p=some [.int l3,.int fl]/\But p h h') (λC hC=> ?_) ?_
 ·refine⟨sz3,λp1 e1=>⟨_,rfl,p,l2,fl,3,rfl,jd kp e1,l20,by decide,by decide,λr l3 r0 r1 l30=> ?_⟩⟩;obtain⟨oft,ho',eo⟩:=Zg (xs:= [D.int 2,D.int 4,D.int 9]) r0 r1;refine⟨_,oft,jf (jq kp e1) jc,eo,?_⟩;obtain⟨x,rfl,x1,x2⟩: ∃x:P2,oft= .int x/\0<x/\x<1000:=by
   simp only [R5,C9,or_false] at ho';rcases ho' with e|e|e<;>exact⟨_,e,by decide,by decide⟩
  exact hC _ _ ⟨x,l3,rfl,x1,x2,l30,jc,(bt.new e1).put⟩
 rintro _ h2 ⟨oft,l3,rfl,of1,of2,l30,kp,bt⟩;refine ji (λσ' h'=> ∃R rs l4,σ'= [some (.lst p),some (.int (k:P2)),some (Xi o),some (.int oft),some (.lst R),none,none,none,none,none,none]/\0<=l4/\h' p=some [.int l4,.int fl]/\But p h h'/\Grid k h h' p R rs) (λC hC=> ?_) ?_
 ·refine NC (h1:=h2) k (λi ys h'=> ∃rs l4,ys=rs.map D.lst/\rs.length=i/\0<=l4/\h' p=some [.int l4,.int fl]/\But p h h'/\p ∉ rs/\ ∀a∈rs,h a=none/\ ∃r,h' a=some (r.map D.int)/\wf k r) (by omega) (λR r=>⟨_,rfl,r⟩) ⟨[],l3,rfl,rfl,l30,kp,bt,by simp,by simp⟩ (λi ys h' ⟨rs,l4,e,el,_⟩=>by rw [e,G5];exact el) ?_ ?_
  ·rintro i ys h3 hi ⟨rs,l4,rfl,lrs,l40,kp3,bt3,nprs,rows3⟩;refine NC (h1:=h3) k (λj zs h'=> ∃r l5,zs=r.map D.int/\r.length=j/\(∀x∈r,0<=x/\x<=1000000)/\0<=l5/\h' p=some [.int l5,.int fl]/\But p h h'/\(∀a∈rs,∃r,h' a=some (r.map D.int)/\wf k r)) (by omega) (λR r=>⟨_,rfl,r⟩) ⟨[],l4,rfl,rfl,by simp,l40,kp3,bt3,λa ha=>(rows3 a ha).2⟩ (λj zs h' ⟨r,l5,e,el,_⟩=>by rw [e,G5];exact el) ?_ ?_
   ·rintro j zs h4 hj ⟨r,l5,rfl,lr,gr,l50,kp4,bt4,rows4⟩;refine⟨_,rfl,_,rfl,p,l5,fl,oft,rfl,kp4,l50,of1,by omega,λx l6 x0 x1' l60=> ?_⟩;refine⟨_,Sub.refl _,by omega,r++ [if decide (x=1)=true then 1 else 0],l6,by rw [T9];rfl,by rw [P1,lr];rfl,?_,l60,jc,bt4.put,λa ha=> ?_⟩
    ·intro y hy;rcases D8.mp hy with z|z
     ·exact gr y z
     ·rw [G8.mp z];split<;>omega
    ·obtain⟨r',e',g'⟩:=rows4 a ha;exact⟨r',jf (λz=>nprs (z ▸ ha)) e',g'⟩
   ·rintro zs h4 ⟨r,l5,rfl,lr,gr,l50,kp4,bt4,rows4⟩ q4 e4;refine⟨_,Sub.refl _,by omega,rs++ [q4],l5,by rw [T9];rfl,by simp [lrs],l50,jd kp4 e4,bt4.new e4,?_,λa ha=> ?_⟩
    ·intro z;rcases D8.mp z with y|y
     ·exact nprs y
     ·exact jq kp4 e4 (G8.mp y).symm
    ·rcases D8.mp ha with z|z
     ·obtain⟨r',e',g'⟩:=rows4 a z;exact⟨(rows3 a z).1,r',jd e' e4,g'⟩
     ·have:=G8.mp z;subst this;exact⟨Zh bt4 e4 (jq kp4 e4),r,jc,lr,gr⟩
  ·rintro ys h3 ⟨rs,l4,rfl,lrs,l40,kp3,bt3,nprs,rows3⟩ R eR;refine hC _ _ ⟨R,rs,l4,rfl,l40,jd kp3 eR,bt3.new eR,⟨jc,lrs,?_,Zh bt3 eR (jq kp3 eR),nprs,jq kp3 eR,λa ha=>⟨(rows3 a ha).1,?_⟩⟩⟩
   ·intro hR;obtain⟨_,r,e',_⟩:=rows3 R hR;rw [e'] at eR;cases eR
   ·obtain⟨r,e',g'⟩:=(rows3 a ha).2;exact⟨r,jd e' eR,g'⟩
 rintro _ h3 ⟨R,rs,l4,rfl,l40,kp,bt,g⟩;refine ji (λσ' h'=> ∃a b c l5,σ'= [some (.lst p),some (.int (k:P2)),some (Xi o),some (.int oft),some (.lst R),a,b,c,none,none,none]/\0<=l5/\h' p=some [.int l5,.int fl]/\But p h h'/\Grid k h h' p R rs) (λC hC=> ?_) ?_
 ·refine Zi k (λi σ' h'=> ∃a b c l5,σ'= [some (.lst p),some (.int (k:P2)),some (Xi o),some (.int oft),some (.lst R),a,b,c,none,none,none]/\0<=l5/\h' p=some [.int l5,.int fl]/\But p h h'/\Grid k h h' p R rs) (by omega) (λR r=>⟨_,rfl,r⟩) ⟨none,none,none,l4,rfl,l40,kp,bt,g⟩ (λσ' h' z=>hC _ _ z) ?_;rintro i _ h4 hi ⟨a,b,c,l5,rfl,l50,kp,bt,g⟩;obtain⟨y1,hy1,ey1⟩:=Uk ho hi;obtain⟨y2,hy2,ey2⟩:=Uk ho (X9 (i+1) (by omega:0<k));have em:((i:P2)+1)%(k:P2)=(((i+1)%k:G6):P2):=by rw [rN,sF];rfl
  rw [<-em] at ey2;refine Jv [some (.lst p),some (.int (k:P2)),some (Xi o),some (.int oft),some (.lst R),some (.int (i:P2)),some (.int (y1:P2)),some (.int (y2:P2)),none,none,none] (λC2 hC2=> ?_) ?_
  ·exact⟨_,rfl,_,rfl,_,ey1,_,rfl,_,rfl,_,rfl,(by omega:(0:P2)<(k:P2)),_,ey2,_,_,rfl,hC2⟩
  refine⟨_,rfl,p,l5,fl,3,rfl,kp,l50,by decide,by decide,λr l6 r0 r1 l60=> ?_⟩;have g2:=g.pen [.int l6,.int fl];obtain⟨a',r',at',ha',er',gr',fa',na'⟩:=g2.pick hy1;exact⟨_,rfl,_,rfl,_,_,g2.at_,at',_,rfl,a',(y2:P2),_,y2,rfl,rfl,er',Pu (by rw [G5,gr'.1];exact hy2),_,Sub.refl _,by omega,_,_,_,l6,rfl,l60,jf (E4 na') jc,(bt.put).putNew fa',g2.set ha' er' gr' (by omega) (by omega)⟩
 rintro _ h5 ⟨a,b,c,l5,rfl,l50,kp,bt,g⟩;obtain⟨z1,hz1,ez1⟩:=Mj ho hk1;obtain⟨a1,r1,at1,ha1,er1,gr1,fa1,na1⟩:=g.pick hz1;refine ji (λσ' h'=> ∃l6,σ'= [some (.lst p),some (.int (k:P2)),some (Xi o),some (.int oft),some (.lst R),a,b,c,none,none,none]/\0<=l6/\h' p=some [.int l6,.int fl]/\But p h h'/\Grid k h h' p R rs) (λC hC=> ?_) ?_
 ·refine⟨_,rfl,_,rfl,_,ez1,_,_,g.at_,at1,_,rfl,_,rfl,(by omega:(0:P2)<(k:P2)),_,rfl,sz2,λq1 e1=>⟨_,rfl,p,l5,fl,2,rfl,jd kp e1,l50,by decide,by decide,λr l6 r0 r1' l60=> ?_⟩⟩;obtain⟨d,hd,ed⟩:=Zg (xs:= [D.int ((1:P2)%(k:P2)),D.int ((k:P2)-1)]) r0 r1';obtain⟨w,rfl,hw⟩: ∃w:G6,d= .int (w:P2)/\w<k:=by
   simp only [R5,C9,or_false] at hd;rcases hd with e|e
   ·exact⟨1%k,by rw [e,rN];rfl,X9 _ (by omega)⟩
   ·exact⟨k-1,by rw [e];congr 1;omega,by omega⟩
  obtain⟨w2,hw2,ew2⟩:=Uk ho hw;have g':=(g.new e1 [D.int ((1:P2)%(k:P2)),D.int ((k:P2)-1)]).pen [.int l6,.int fl];have her:zB (zB h5 q1 [D.int ((1:P2)%(k:P2)),D.int ((k:P2)-1)]) p [.int l6,.int fl] a1=some (r1.map D.int):=jf na1 (jd er1 e1);exact⟨_,_,jf (jq kp e1) jc,ed,_,ew2,a1,(w2:P2),_,w2,rfl,rfl,her,Pu (by rw [G5,gr1.1];exact hw2),hC _ _ ⟨l6,rfl,l60,jf (E4 na1) jc,((bt.new e1).put).putNew fa1,g'.set ha1 her gr1 (by decide) (by decide)⟩⟩
 rintro _ h6 ⟨l6,rfl,l60,kp,bt,g⟩;obtain⟨T,gT,eT⟩:=g.tab;refine Gb (j:=λh=>h R) rs D.lst (λa=> .tup ((h6 a).getD [])) (by rw [g.len];omega) g.at_ (λR r=>⟨_,rfl,r⟩) (λa ha Q' q'=> ?_) ⟨_,bt.sub kp,?_⟩
 ·obtain⟨_,r,er,_⟩:=g.row a ha;rw [er] at q';exact⟨_,rfl,_,er,q'⟩
 ·rw [eT];exact q T l6 gT l60
theorem Ro (g:GoodTab n T):GoodTab n (Md n T):=by
 have s:=g.sq.turn;refine⟨s.len,λr hr=>⟨s.row r hr,λx hx=>⟨s.nn r hr x hx,?_⟩⟩⟩;unfold Md mkT at hr;obtain⟨i,hi,rfl⟩:=R6.mp hr;obtain⟨j,hj,rfl⟩:=R6.mp hx;have hi':=D0.mp hi;have hr1:=g.2 _ (Sq.getRow g.sq (D0.mp hj));refine(hr1.2 (ent T j i) ?_).2;unfold ent;generalize T.getD j []=row at hr1;rw [P7,G2 (by rw [hr1.1];exact hi')];exact M7 _
def Jz:RDn:=λds h Q=> ∃p l fl,ds= [.lst p]/\h p=some [.int l,.int fl]/\0<=l/\ ∀F n Ts l' h',h F=none->h' F=some (Ts.map jp)->TabsOk n Ts->(∀T∈Ts,GoodTab n T)->But p h h'->h' p=some [.int l',.int fl]->0<=l'->Q (.lst F) h'
theorem VN (Z:Zs mg)(F:Fun K "_law_many" "_law_many" vb f fd)(ju:jE P w K mg base n "_law_draw" ["_law_pen_here","_law_many_here"] zG)(VP:jE P w K mg base n "_law_table" ["_law_pen_here","_law_size"] zQ)(Jr:jE P w K mg base n "_law_good_table" ["_law_pen_here","_law_size"] zQ):FnOk P w K mg base CX0 (n+1) f fd ["_law_pen_here"] (LSp K Jz):=by
 refine F.okM jH (λhr=>(js4 (Et (i:=1) (j:=2) rfl jH.nd rfl rfl (by decide) rfl rfl (j2 (jop zp jC (ji1 (JJ (jac jC (by exact(j4 jC jC jC jC)))) (jk ju hr (j2 (jv 0) jC)))) (jop zp jC (jk ju hr (j2 (jv 0) jC)))) rfl) (jse 3 jH (JJ yD)) (GX A7 rfl (jrg Z (jv 2)) (jgn 4 jH) (js5 (jse 5 jH (jk VP hr (j2 (jv 0) (jv 1)))) (jse 6 jH (jk ju hr (j2 (jv 0) jC))) (UB (jt1 oq_eq (jv 6) jC) (jse 5 jH (jk Jr hr (j2 (jv 0) (jv 1))))) (UB (jpt (SE (jt1 oq_eq (jv 6) jC) (SC (jt1 (Ac hr.units) (jv 3) (JJ yD))))) (jse 5 jH (jM jS rfl Z.tuple (by decide +kernel) (j1 (jl0 7 jH (jrg Z (jv 1)) (λ_ _ _ _=>(jM jS rfl Z.tuple (by decide +kernel) (j1 (jl0 8 jH (jX (ji1 (jv 3) jC)) (λ_ _ _ _=>(ji1 (jv 8) (jv 7)))))))))))) (Zj (Af (jv 3) (jv 5))))) (yF (jv 3)))) ?_;rintro ds h Q ⟨p,l,fl,rfl,hp,h0,q⟩;refine⟨rfl,?_⟩;refine ji (λσ' h'=> ∃ (k m:G6) (l1:P2),σ'= [some (.lst p),some (.int (k:P2)),some (.int (m:P2)),none,none,none,none,none,none]/\1<=k/\k<=3/\1<=m/\m<=3/\0<=l1/\h' p=some [.int l1,.int fl]/\But p h h') (λC hC=> ?_) ?_
 ·refine⟨sz5,λp1 e1=>⟨_,rfl,p,l,fl,5,rfl,jd hp e1,h0,by decide,by decide,λr l1 r0 r1 l10=> ?_⟩⟩;obtain⟨d,hd,ed⟩:=Zg (xs:= [D.int 0,D.int 1,D.int 2,D.int 2,D.int 1]) r0 r1;obtain⟨x,rfl,x0,x2⟩: ∃x:P2,d= .int x/\0<=x/\x<=2:=by
   simp only [R5,C9,or_false] at hd;rcases hd with e|e|e|e|e<;>exact⟨_,e,by decide,by decide⟩
  refine⟨_,_,jf (jq hp e1) jc,ed,_,rfl,p,l1,fl,3,rfl,jc,l10,by decide,by decide,λy l2 y0 y1 l20=> ?_⟩;obtain⟨k,hk,k1,k3⟩: ∃k:G6,1+x=(k:P2)/\1<=k/\k<=3:=⟨(1+x).toNat,by omega,by omega,by omega⟩;obtain⟨m,hm,m1,m3⟩: ∃m:G6,1+y=(m:P2)/\1<=m/\m<=3:=⟨(1+y).toNat,by omega,by omega,by omega⟩;exact⟨_,_,rfl,hC _ _ ⟨k,m,l2,by rw [<-hk,<-hm];rfl,k1,k3,m1,m3,l20,jc,((But.refl p h).new e1).put.put⟩⟩
 rintro _ h1 ⟨k,m,l1,rfl,k1,k3,m1,m3,l10,kp,bt⟩;refine ji (λσ' h'=> ∃F,σ'= [some (.lst p),some (.int (k:P2)),some (.int (m:P2)),some (.lst F),none,none,none,none,none]/\h' F=some (([]:G0 (G0 (G0 P2))).map jp)/\h F=none/\F≠p/\h' p=some [.int l1,.int fl]/\But p h h') (λC hC=>⟨sz0,λF eF=>hC _ _ ⟨F,rfl,jc,Zh bt eF (jq kp eF),jq kp eF,jd kp eF,bt.new eF⟩⟩) ?_;rintro _ h2 ⟨F,rfl,kF,fF,nF,kp,bt⟩;refine ji (λσ' h'=> ∃ (Ts:G0 (G0 (G0 P2))) (a b c:D2 D) (l2:P2),σ'= [some (.lst p),some (.int (k:P2)),some (.int (m:P2)),some (.lst F),a,b,c,none,none]/\h' F=some (Ts.map jp)/\Ts.length=m/\(∀T∈Ts,GoodTab k T)/\0<=l2/\h' p=some [.int l2,.int fl]/\But p h h') (λC hC=> ?_) ?_
 ·refine Zi m (λi σ' h'=> ∃ (Ts:G0 (G0 (G0 P2))) (a b c:D2 D) (l2:P2),σ'= [some (.lst p),some (.int (k:P2)),some (.int (m:P2)),some (.lst F),a,b,c,none,none]/\h' F=some (Ts.map jp)/\Ts.length=i/\(∀T∈Ts,GoodTab k T)/\0<=l2/\h' p=some [.int l2,.int fl]/\But p h h') (by omega) (λR r=>⟨_,rfl,r⟩) ⟨[],none,none,none,l1,rfl,kF,rfl,by simp,l10,kp,bt⟩ (λσ' h' z=>hC _ _ z) ?_;rintro i _ h3 hi ⟨Ts,a,b,c,l2,rfl,kF,lT,sT,l20,kp,bt⟩;refine ji (λσ' h'=> ∃T l2,σ'= [some (.lst p),some (.int (k:P2)),some (.int (m:P2)),some (.lst F),some (.int (i:P2)),some (jp T),c,none,none]/\GoodTab k T/\h' F=some (Ts.map jp)/\Ts.length=i/\(∀T∈Ts,GoodTab k T)/\0<=l2/\h' p=some [.int l2,.int fl]/\But p h h') (λC2 hC2=>⟨_,rfl,_,rfl,p,l2,fl,k,rfl,kp,l20,k1,by omega,λT l3 gT l30=>hC2 _ _ ⟨T,l3,rfl,gT,jf nF kF,lT,sT,l30,jc,bt.put⟩⟩) ?_;rintro _ h4 ⟨T,l2,rfl,hT,kF,lT,sT,l20,kp,bt⟩;refine ji (λσ' h'=> ∃w l2,σ'= [some (.lst p),some (.int (k:P2)),some (.int (m:P2)),some (.lst F),some (.int (i:P2)),some (jp T),some (.int w),none,none]/\h' F=some (Ts.map jp)/\Ts.length=i/\(∀T∈Ts,GoodTab k T)/\0<=l2/\h' p=some [.int l2,.int fl]/\But p h h') (λC2 hC2=>⟨_,rfl,p,l2,fl,4,rfl,kp,l20,by decide,by decide,λw l3 w0 w1 l30=>hC2 _ _ ⟨w,l3,rfl,jf nF kF,lT,sT,l30,jc,bt.put⟩⟩) ?_;rintro _ h5 ⟨w,l2,rfl,kF,lT,sT,l20,kp,bt⟩;refine ji (λσ' h'=> ∃T l2,σ'= [some (.lst p),some (.int (k:P2)),some (.int (m:P2)),some (.lst F),some (.int (i:P2)),some (jp T),some (.int w),none,none]/\GoodTab k T/\h' F=some (Ts.map jp)/\Ts.length=i/\(∀T∈Ts,GoodTab k T)/\0<=l2/\h' p=some [.int l2,.int fl]/\But p h h') (λC2 hC2=>⟨_,rfl,_,rfl,Ud (λ_=>⟨_,rfl,_,rfl,p,l2,fl,k,rfl,kp,l20,k1,by omega,λT2 l3 gT l30=>hC2 _ _ ⟨T2,l3,rfl,gT,jf nF kF,lT,sT,l30,jc,bt.put⟩⟩) (λ_=>hC2 _ _ ⟨T,l2,rfl,hT,kF,lT,sT,l20,kp,bt⟩)⟩) ?_;rintro _ h6 ⟨T,l2,rfl,hT,kF,lT,sT,l20,kp,bt⟩;refine ji (λσ' h'=> ∃T l2,σ'= [some (.lst p),some (.int (k:P2)),some (.int (m:P2)),some (.lst F),some (.int (i:P2)),some (jp T),some (.int w),none,none]/\GoodTab k T/\h' F=some (Ts.map jp)/\Ts.length=i/\(∀T∈Ts,GoodTab k T)/\0<=l2/\h' p=some [.int l2,.int fl]/\But p h h') (λC2 hC2=> ?_) ?_
  ·refine⟨_,rfl,_,rfl,Ud (λ_=> ?_) (λ_=>Wb (hC2 _ _ ⟨T,l2,rfl,hT,kF,lT,sT,l20,kp,bt⟩))⟩;refine⟨_,rfl,sz0,λp1 e1=> ?_⟩;refine⟨.list (Ts.map Pg),.list [],⟨_,_,rfl,jd kF e1,encT.tos _ Ts⟩,⟨_,_,rfl,jc,rfl⟩,Ul Ts,rfl,_,rfl,?_⟩;cases Ts with
   |nil=>exact Wb (hC2 _ _ ⟨T,l2,rfl,hT,jd kF e1,lT,sT,l20,jd kp e1,bt.new e1⟩)
   |cons T0 Ts'=>
    have s0:=sT T0 P4;have kF':zB h6 p1 [] F=some ((T0::Ts').map jp):=jd kF e1;refine Gx (Gb (D4 k) (λj=> .int (j:P2)) (λj=> .tup (T0.map λr=> .int (r.getD j 0))) (by rw [S6];omega) rfl (λR r=>⟨_,rfl,(k:P2),rfl,by omega,by omega,r⟩) (λj hj Q' q'=> ?_) ?_)
    ·refine Gb T0 zO (λr=> .int (r.getD j 0)) (by rw [s0.1];omega) rfl (λR r=>⟨_,rfl,_,_,kF',(wT (show ((T0::Ts').map jp)[0]? =some (jp T0) from rfl)),r⟩) (λr hr Q'' q''=>⟨_,rfl,_,rfl,_,Zn ((s0.2 r hr).1) (D0.mp hj),q''⟩) q'
    ·have e1': ∀j,T0.map (λr=>D.int (r.getD j 0))=(D4 k).map λi=>D.int (ent T0 i j):=λj=>by
      conv=>lhs;rw [jP T0 [],s0.1]
      rw [B6];rfl
     have e2:((D4 k).map λj=>D.tup (T0.map λr=> .int (r.getD j 0)))=(D4 k).map λj=>D.tup ((D4 k).map λi=>D.int (ent T0 i j)):=B8 λj _=>by rw [e1']
     rw [e2,Ag];exact hC2 _ _ ⟨Md k T0,l2,rfl,Ro s0,kF',lT,sT,l20,jd kp e1,bt.new e1⟩
  rintro _ h7 ⟨T,l2,rfl,hT,kF,lT,sT,l20,kp,bt⟩;refine⟨_,rfl,F,rfl,_,rfl,_,kF,?_,_,Sub.refl _,by omega,Ts++ [T],_,_,_,l2,rfl,?_,by rw [P1,lT];rfl,?_,l20,jf (E4 nF) kp,bt.putNew fF⟩
  ·rw [G5];exact jY (by omega)
  ·rw [jc,T9];rfl
  ·intro U hU;rcases D8.mp hU with z|z
   ·exact sT U z
   ·rw [G8.mp z];exact hT
 rintro _ h3 ⟨Ts,a,b,c,l2,rfl,kF,lT,sT,l20,kp,bt⟩;exact⟨_,rfl,h3,Sub.refl _,q F k Ts l2 h3 fF kF ⟨k1,k3,by omega,by omega,λT h=>(sT T h).sq⟩ sT bt kp l20⟩
theorem Ef {te:TAD}{t u:TSD}{E:EndsD}{σ:SD}(x:dCB RW te σ h λd h2=> ∃k,d= .bl k/\if k=true then t E σ h2 else u E σ h2):RQ (vn (dCB RW te)) t u E σ h:=x
theorem Tp {a:P3}(sb:Sub h h')(e:h'.dc a=none):h.dc a=none:=by
 cases z:h.dc a with
 |none=>rfl
 |some u=>rw [sb.dc _ _ z] at e;cases e
def KpL (h h':HD):Prop:= ∀p xs,h p=some xs->h' p=some xs
theorem KpL.new {p:P3}{xs:G0 D}(k:KpL h h')(e:h' p=none):KpL h (zB h' p xs):=λq ys z=>jd (k q ys z) e
theorem KpL.over {p:P3}{xs:G0 D}(k:KpL h h')(e:h p=none):KpL h (zB h' p xs):=λq ys z=>jf (λw=>by subst w;rw [e] at z;cases z) (k q ys z)
def nxT (n:G6)(Ts:Tbs)(M:G0 (G0 P2)):Tbs:=(D4 Ts.length).map λi=>mk1 n (Ts.getD i []) M
theorem FT (n:G6)(Ts:Tbs)(M:G0 (G0 P2)):Ts.map (λT=>jp (mk1 n T M))=(nxT n Ts M).map jp:=by
 conv=>lhs;rw [jP Ts []]
 unfold nxT;rw [B6,B6];rfl
def laL (n:G6)(Ts:Tbs)(hs:Tbs):Tbs:=hs.flatMap (nxT n Ts)
theorem Rp (n:G6)(Ts:Tbs): ∀hs:Tbs,(laL n Ts hs).length=hs.length*Ts.length
 | []=>by simp [laL]
 |M::hs=>by
  have:=Rp n Ts hs;unfold laL at this ⊢;rw [cO,P1,this,D9,gD,nxT,G5,S6,mM]
theorem Rq {Ts hs:Tbs}(o:HsOk n Ts k hs)(M:G0 (G0 P2)):M∈laL n Ts hs↔InS n Ts (k+1) M:=by
 unfold laL nxT;rw [dH];constructor
 ·rintro ⟨N,hN,z⟩;obtain⟨a,ha,rfl⟩:=R6.mp z;exact Wu ((o.2 N).mp hN) (D0.mp ha)
 ·intro z;obtain⟨N,a,hN,ha,rfl⟩:=vM z;exact⟨N,(o.2 N).mpr hN,R6.mpr ⟨a,D0.mpr ha,rfl⟩⟩
/-- what is known already,none of it at L -/
def KnO (n:G6)(Ts:Tbs)(L:D2 P3)(kv:G0 (G0 (G0 P2)×D))(h:HD):Prop:=(kv.map (·.1)).Nodup/\ ∀p∈kv,Sq n 1 p.1/\ ∃X,p.2= .lst X/\h X=some ((nxT n Ts p.1).map jp)/\some X≠L
section
variable {n:G6}{Ts:Tbs}{L:D2 P3}{kv:G0 (G0 (G0 P2)×D)}{h h':HD}
theorem KnO.few (o:KnO n Ts L kv h)(n3:n<=3):kv.length<=512:=by
 have:=Fo n3 o.1 λM hM=>by
  obtain⟨p,hp,rfl⟩:=R6.mp hM;exact(o.2 p hp).1
 rwa [G5] at this
theorem KnO.get {M:G0 (G0 P2)}(o:KnO n Ts L kv h)(g:(jZ kv M).isSome=true): ∃X,jZ kv M=some (.lst X)/\h X=some ((nxT n Ts M).map jp)/\some X≠L:=by
 unfold jZ at g ⊢;cases e:kv.find? λp=>decide (p.1=M) with
 |none=>rw [e] at g;cases g
 |some p=>
  obtain⟨_,X,e1,e2,e3⟩:=o.2 p (Q5 e);have ek:p.1=M:=H0 (cG (p:=λp:G0 (G0 P2)×D=>decide (p.1=M)) e);exact⟨X,congrArg some e1,ek ▸ e2,e3⟩
theorem KnO.mono {L':D2 P3}(o:KnO n Ts L kv h)(k: ∀X Ms,h X=some (qR jp Ms)->Ms≠ []->some X≠L->h' X=some (Ms.map jp)/\some X≠L')(l1:1<=Ts.length):KnO n Ts L' kv h':=
 ⟨o.1,λp hp=>let ⟨s,X,e1,e2,e3⟩:=o.2 p hp;⟨s,X,e1,k X _ e2 (λz=>by have:=congrArg Y4 z;unfold nxT at this;rw [G5,S6,L5] at this;omega) e3⟩⟩
theorem KnO.put {M:G0 (G0 P2)}{X:P3}(o:KnO n Ts L kv h)(g:jZ kv M=none)(s:Sq n 1 M)(k:h X=some ((nxT n Ts M).map jp))(x:some X≠L):KnO n Ts L (Vu kv M (.lst X)) h:=by
 have e:Vu kv M (.lst X)=kv++ [(M,.lst X)]:=by unfold Vu;rw [g];rfl
 rw [e];refine⟨?_,λp hp=> ?_⟩
 ·rw [T9,W3];refine⟨o.1,by simp,λx hx y hy e=> ?_⟩;have:y=M:=G8.mp hy;exact Ye g (by rw [<-this,<-e];exact hx)
 ·rcases D8.mp hp with w|w
  ·exact o.2 p w
  ·rw [G8.mp w];exact⟨s,X,rfl,k,x⟩
end
theorem Rr {Ts:Tbs}(M:G0 (G0 P2)):M∈Ts.map (yu n)↔InS n Ts 0 M:=by
 rw [ins_zero,R6];constructor
 ·rintro ⟨T,hT,rfl⟩;obtain⟨a,ha⟩:=gY.mp hT;exact⟨a,(P9.mp ha).1,by rw [P7,ha];rfl⟩
 ·rintro ⟨a,ha,rfl⟩;exact⟨Ts.getD a [],by rw [P7,G2 ha];exact M7 ha,rfl⟩
def wN:RDn:=λds h Q=> ∃A Ts,∃n:G6,ds= [.lst A]/\h A=some (Ts.map jp)/\TabsOk n Ts/\ ∀o,AfF n Ts o->(∀m,o=some m->m<sizeLine)->Q (afD o) h
theorem JN (Z:Zs mg)(F:Fun K "_law_all_from" "_law_all_from" zV f fd)(vT:jE P w K mg base n "_law_marked" ["_law_table_here"] yL)(Yw:jE P w K mg base n "_law_filled" ["_law_table_here"] yM)(VQ:jE P w K mg base n "_law_times" ["_law_one","_law_other"] vQ):FnOk P w K mg base CX0 (n+1) f fd ["_law_tables"] (LSp K wN):=by
 refine F.okM jB (λhr=>(js4 (jse 1 jB (Ht hr rfl rfl Z.sorted rfl Z.set (j1 (jl0 6 jB (jX (jv 0)) (λ_ _ _ _=>(jk vT hr (j1 (jv 6)))))))) (Et (i:=2) (j:=3) rfl jB.nd rfl rfl (by decide) rfl rfl (j2 (JJ yD) DB) rfl) (Pl A7 (RZ (Mh hr.units) (jv 1) (jv 2) (by with_unfolding_all rfl)) (js5 (UB (JH (zS (YU rfl) rfl Z.all aU (j1 (jl0 5 jB (jX (jv 1)) (λ_ _ _ _=>(jk Yw hr (j1 (jv 5)))))))) (yF (jop zp (Dy Z (jv 2)) jC))) (Zj (Af (jv 2) (jv 1))) (jse 4 jB (JJ yD)) (GX A7 rfl (jX (jv 1)) (jgn 5 jB) (js2 (UB (RZ (Vv hr) (jv 5) (jv 3) (by with_unfolding_all rfl)) (Fm hr (jv 3) (jv 5) (jl0 6 jB (jX (jv 0)) (λ_ _ _ _=>(jk vT hr (j1 (jk VQ hr (j2 (jv 5) (jv 6))))))))) (Zj (Hr (jv 4) (SW hr (jv 3) (jv 5)))))) (jse 1 jB (Ht hr rfl rfl Z.sorted rfl Z.set (j1 (jv 4)))))) (yF Hc))) ?_;rintro ds h Q ⟨A,Ts,n,rfl,kA,hT,q⟩;refine⟨rfl,?_⟩;have n1:=hT.n1;have n3:=hT.n3;have l1:=hT.l1;have l3:=hT.l3;have B:=Tl (n:=n) n3;have tn: ∀M,Sq n 1 M->M≠ []:=λM s e=>by have:=s.len;rw [e] at this;rw [<-this] at n1;exact absurd n1 (by decide)
 obtain⟨P,eP⟩: ∃P:G6,P=55440:=⟨_,rfl⟩;have top:13965299+P<sizeLine:=by rw [eP];decide
 refine ji (λσ' h'=> ∃X hs,σ'= [some (.lst A),some (.lst X),none,none,none,none,none]/\HsOk n Ts 0 hs/\h' X=some (hs.map jp)/\Sub h h') (λC hC=>FL ?_) ?_
 ·refine lcA (j:=λh=>h A) Ts jp (λT=>jp (yu n T)) (by omega) kA (λR r=>⟨_,rfl,r⟩) (λT hm Q' q'=>⟨_,rfl,T,n,20,rfl,hT.sq T hm,by omega,q'⟩) (λp hp=>⟨p,Ts.map (yu n),_,rfl,by rw [jc,B6];rfl,B.1,λT hm=> ?_,λX ks eX pw mem=>hC _ _ ⟨X,ks,rfl,⟨pw,λM=>(mem M).trans (Rr M)⟩,jc,((Sub.refl h).newAt hp).newAt eX⟩⟩);obtain⟨U,hU,rfl⟩:=R6.mp hm;exact⟨B.2 _ (Sq.mark U),tn _ (Sq.mark U)⟩
 rintro _ h1 ⟨X,hs,rfl,o,kX,sb⟩;refine ji (λσ' h'=> ∃S W,σ'= [some (.lst A),some (.lst X),some (.lst S),some (.dct W),none,none,none]/\h' X=some (hs.map jp)/\h' S=some []/\h'.dc W=some (.tk 0 [])/\Sub h h'/\h S=none/\h.dc W=none) (λC hC=>⟨sz0,λS eS=>λW eW=>⟨_,_,rfl,hC _ (QZ (zB h1 S []) W (.tk 0 [])) ⟨S,W,rfl,jd kX eS,jc,zc,(sb.newAt eS).trans (.newC eW),WZ sb eS,Tp (sb.newAt eS) eW⟩⟩⟩) ?_;clear kX sb;rintro _ h2 ⟨S,W,rfl,kX,kS,kW,sb,fS,fW⟩;refine ji (λσ' h'=>AfF n Ts none/\Sub h h') (λC hC=> ?_) ?_
 ·refine WO (λm σ' h'=> ∃i X hs as ss kv ep c4 c5,σ'= [some (.lst A),some (.lst X),some (.lst S),some (.dct W),c4,c5,none]/\HsOk n Ts i hs/\h' X=some (hs.map jp)/\Seen n Ts i ss/\h' S=some (as.map D.lst)/\TbL h' as ss/\(∀l,l<i-> ¬XU n Ts l)/\h'.dc W=some (.tk ep kv)/\KnO n Ts none kv h'/\Sub h h'/\m+i=13965299+P) (13965299+P) ⟨0,X,hs,[],[],[],0,_,_,rfl,o,kX,⟨rfl,λj s z=>by cases z⟩,kS,trivial,λl z=>absurd z (Q0 l),kW,⟨.nil,λp z=>by cases z⟩,sb,rfl⟩ ?_;clear o kX kS kW sb;rintro m _ h3 ⟨i,X,hs,as,ss,kv,ep,c4,c5,rfl,o,kX,sn,kS,tl,lo,kW,kn,sb,hm⟩;refine⟨_,rfl,_,rfl,Tk kX kS tl λb hb=>⟨_,rfl,Ud (λc=> ?_) (λc=> ?_)⟩⟩
  rotate_left
  ·refine hC _ _ ⟨Tn hT sn o (hb.mp ?_) lo,sb⟩;cases b with
   |true=>rfl
   |false=>exact absurd rfl c
  have new:hs ∉ ss:=λz=>by rw [hb.mpr z] at c;exact absurd c (by decide)
  have il:i<13965299+P:=Nat.lt_of_not_le λz=>new (FM hT sn o eP z)
  have f512:=o.few n3;refine ji (λσ' h'=>σ'= [some (.lst A),some (.lst X),some (.lst S),some (.dct W),c4,c5,none]/\h3=h'/\ ¬XU n Ts i) (λC hC=>Ef ?_) ?_
  ·refine Hf (j:=λh=>h X) hs jp jF (by omega) kX (λR r=>⟨_,rfl,r⟩) (λM hM Q' q'=>⟨_,rfl,M,n,1,rfl,((o.2 M).mp hM).sq,n1,by omega,q'⟩) ⟨_,rfl,?_⟩
   by_cases z:XU n Ts i
   ·rw [(Bc o).mpr z];have e:=q (some (i+1)) (FK hT z lo) (λm e=>by cases e;omega);have ln:(as.map D.lst).length=i:=by rw [G5,tl.len,sn.1]
    exact Gx ⟨_,rfl,_,kS,⟨h,sb,by rw [ln];exact e⟩⟩
   ·rw [V8.mpr λw=>z ((Bc o).mp w)];exact Wb (hC _ _ ⟨rfl,rfl,z⟩)
  rintro _ _ ⟨rfl,rfl,na⟩;have aS: ∀Y Ms,h3 Y=some (qR jp Ms)->Ms≠ []->Y≠S:=λY Ms k ne=>Rf ne k kS
  refine ji (λσ' h'=>σ'= [some (.lst A),some (.lst X),some (.lst S),some (.dct W),c4,c5,none]/\h' X=some (hs.map jp)/\h' S=some ((as++ [X]).map D.lst)/\TbL h' (as++ [X]) (ss++ [hs])/\h'.dc W=some (.tk ep kv)/\KnO n Ts none kv h'/\Sub h h') (λC hC=>⟨_,rfl,S,rfl,_,rfl,_,kS,?_,hC _ _ ⟨rfl,?_,?_,?_,kW,?_,sb.over fS⟩⟩) ?_
  ·rw [G5,tl.len,sn.1];omega
  ·exact jf (aS X hs kX (o.some hT)) kX
  ·rw [jc,T9];rfl
  ·exact(tl.mono λa s hs' k=>jf (aS a s k (by
    obtain⟨j,hj⟩:=gY.mp hs';exact(sn.2 j s hj).some hT)) k).snoc (jf (aS X hs kX (o.some hT)) kX)
  ·exact kn.mono (λY Ms k ne _=>⟨jf (aS Y Ms k ne) k,by simp⟩) l1
  clear aS kX kS tl kW kn sb;rintro _ h4 ⟨rfl,kX,kS,tl,kW,kn,sb⟩;refine ji (λσ' h'=> ∃Y,σ'= [some (.lst A),some (.lst X),some (.lst S),some (.dct W),some (.lst Y),c5,none]/\h4 Y=none/\h' Y=some []/\h'.dc W=some (.tk ep kv)/\KnO n Ts (some Y) kv h'/\KpL h4 h'/\Sub h h') (λC hC=>⟨sz0,λY eY=>hC _ _ ⟨Y,rfl,eY,jc,kW,kn.mono (λZ Ms k _ _=>⟨jd k eY,λw=>by cases w;rw [k] at eY;cases eY⟩) l1,KpL.new (λ_ _ z=>z) eY,sb.newAt eY⟩⟩) ?_;clear kW kn;rintro _ h5 ⟨Y,rfl,fY,kY,kW,kn,kp,sb5⟩;have hY:h Y=none:=WZ sb fY;refine ji (λσ' h'=> ∃c5 ep kv,σ'= [some (.lst A),some (.lst X),some (.lst S),some (.dct W),some (.lst Y),c5,none]/\h' Y=some ((laL n Ts hs).map jp)/\h'.dc W=some (.tk ep kv)/\KnO n Ts none kv h'/\KpL h4 h'/\Sub h h') (λC hC=> ?_) ?_
  ·refine vw (h1:=h5) (j:=λh=>h X) (hs.map jp) (λj σ' h'=> ∃c5 ep kv,σ'= [some (.lst A),some (.lst X),some (.lst S),some (.dct W),some (.lst Y),c5,none]/\h' Y=some ((laL n Ts (hs.take j)).map jp)/\h'.dc W=some (.tk ep kv)/\KnO n Ts (some Y) kv h'/\KpL h4 h'/\Sub h h') (λR r=>⟨_,rfl,r⟩) (λj σ' h' ⟨_,_,_,_,_,_,_,z,_⟩=>z _ _ kX) ⟨c5,ep,kv,rfl,kY,kW,kn,kp,sb5⟩ (λσ' h' ⟨c5,ep,kv,e,a1,a2,a3,a4,a5⟩=>hC _ _ ⟨c5,ep,kv,e,?_,a2,a3.mono (λZ Ms k _ _=>⟨k,by simp⟩) l1,a4,a5⟩) ?_
   ·rw [a1,G5,U9]
   clear kY kW kn kp sb5;rintro j d _ h6 hd ⟨c5,ep,kv,rfl,kY,kW,kn,kp,sb6⟩;have hil:=(P9.mp hd).1;rw [D3] at hd;obtain⟨M,eM,rfl⟩:=F4.mp hd;have sM:Sq n 1 M:=((o.2 M).mp (P8 eM)).sq;have tk:laL n Ts (hs.take (j+1))=laL n Ts (hs.take j)++nxT n Ts M:=by
    rw [F8,eM];unfold laL;rw [dQ];simp
   refine ji (λσ' h'=> ∃ep kv,σ'= [some (.lst A),some (.lst X),some (.lst S),some (.dct W),some (.lst Y),some (jp M),none]/\(jZ kv M).isSome=true/\h' Y=some ((laL n Ts (hs.take j)).map jp)/\h'.dc W=some (.tk ep kv)/\KnO n Ts (some Y) kv h'/\KpL h4 h'/\Sub h h') (λC hC=> ?_) ?_
   ·refine⟨_,rfl,_,rfl,W,M,ep,kv,rfl,rfl,kW,_,rfl,?_⟩;show if (true !=(jZ kv M).isSome)=true then _ else _
    cases hg:(jZ kv M).isSome with
    |true=>exact Wb (hC _ _ ⟨ep,kv,rfl,hg,kY,kW,kn,kp,sb6⟩)
    |false=>
     have g:jZ kv M=none:=by cases z:jZ kv M with
      |none=>rfl
      |some u=>rw [z] at hg;cases hg
     refine Gx ?_;refine lcA (j:=λh=>h A) Ts jp (λT=>jp (mk1 n T M)) (by omega) (sb6 _ _ kA) (λR r=>⟨_,rfl,r⟩) (λT hm Q' q'=>⟨_,rfl,_,rfl,M,T,n,1,20,rfl,sM,hT.sq T hm,by omega,by omega,JK n M T,n,_,rfl,sM.mul (hT.sq T hm) (by omega),by omega,q'⟩) (λZ eZ=> ?_);have few:=kn.few n3;have kZ:zB h6 Z (Ts.map λT=>jp (mk1 n T M)) Z=some ((nxT n Ts M).map jp):=by rw [jc,FT]
     have ZY:some Z≠some Y:=λw=>by cases w;rw [kY] at eZ;cases eZ
     have kn2:KnO n Ts (some Y) kv (zB h6 Z (Ts.map λT=>jp (mk1 n T M))):=kn.mono (λV Ms k _ x=>⟨jd k eZ,x⟩) l1;have pn:=kn2.put g sM kZ ZY;refine⟨_,rfl,_,rfl,W,M,ep,kv,rfl,rfl,kW,by omega,λep'=>hC _ (QZ (zB h6 Z (Ts.map λT=>jp (mk1 n T M))) W (.tk ep' (Vu kv M (.lst Z)))) ⟨ep',_,rfl,?_,jd kY eZ,zc,pn,kp.new eZ,(sb6.newAt eZ).overC fW⟩⟩;unfold Vu;rw [g];show (jZ (kv++ [(M,D.lst Z)]) M).isSome=true;unfold jZ at g ⊢;rw [qT];cases hf:kv.find? (λp=>decide (p.1=M)) with
     |some u=>rfl
     |none=>simp
   clear kY kW kn kp sb6;rintro _ h7 ⟨ep,kv,rfl,hg,kY,kW,kn,kp,sb7⟩;obtain⟨Z,gZ,kZ,ZY⟩:=kn.get hg;refine⟨_,rfl,Y,rfl,_,rfl,_,rfl,W,M,ep,kv,_,rfl,rfl,kW,gZ,Z,_,_,rfl,kY,kZ,?_,_,Sub.refl _,hil,_,ep,kv,rfl,?_,kW,kn.mono (λV Ms k _ x=>⟨jf (λw=>x (by rw [w])) k,x⟩) l1,kp.over fY,sb7.over hY⟩
   ·have:=Rp n Ts (hs.take j);have t:(hs.take j).length<=512:=S0 (List.length_take_le' _ _) f512;have u:=tR t l3;have v:(nxT n Ts M).length=Ts.length:=by unfold nxT;rw [G5,S6]
    rw [G5,G5];exact S0 (show _<=2000 by omega) (by decide)
   ·rw [jc,tk,T9]
  clear kY kW kn kp sb5;rintro _ h6 ⟨c5,ep,kv,rfl,kY,kW,kn,kp,sb6⟩;refine⟨_,rfl,Y,_,_,rfl,kY,B.1,λM hM=> ?_,λX2 ks e2 pw mem=>⟨m-1,_,by omega,Sub.refl _,i+1,X2,ks,as++ [X],ss++ [hs],kv,ep,_,_,rfl,⟨pw,λM=>(mem M).trans (Rq o M)⟩,jc,sn.snoc o,jd (kp _ _ kS) e2,(tl.mono λa s _ k=>jd (kp _ _ k) e2),λl hl=> ?_,kW,kn.mono (λV Ms k _ _=>⟨jd k e2,by simp⟩) l1,sb6.newAt e2,by omega⟩⟩
  ·have:=((Rq o M).mp hM).sq;exact⟨B.2 _ this,tn _ this⟩
  ·by_cases z:l=i
   ·subst z;exact na
   ·exact lo l (by omega)
 rintro _ h3 ⟨no,sb3⟩;exact⟨h,sb3,q none no (λm e=>nomatch e)⟩
theorem Tq {o:D2 G6}(few: ∀m,o=some m->m<sizeLine): ∃pd,(∀h,ToP h (afD o) pd)/\ShowOk pd:=by
 cases o with
 |none=>exact⟨.none,λ_=>rfl,by decide +kernel,by decide +kernel,by decide +kernel⟩
 |some k=>
  have b:=few k rfl;rw [rP] at b;have e:(2:P2)^24=16777216:=by decide
  exact⟨.int (k:P2),λ_=>rfl,Ql (Pp (e:=24) (by omega) (by rw [e];omega) (by decide))⟩
def vS:RDn:=λds h Q=> ∃A Ts,∃n:G6,ds= [.lst A]/\h A=some (Ts.map jp)/\TabsOk n Ts/\Q (.bl true) h
theorem Yv (Z:Zs mg)(F:Fun K "_law_right" "_law_right" yg f fd)(ZI:jE P w K mg base n "_law_all_from" ["_law_tables"] wN)(ZJ:jE P w K mg base n "_law_same" ["_law_found","_law_due"] NF)(yj:jE P w K mg base n "all_full_from" ["tables"] wM):FnOk P w K mg base CX0 (n+1) f fd ["_law_tables"] (LSp K vS):=by
 refine F.okM vN (λhr=>(js2 (jse 1 vN (jk ZI hr (j1 (jv 0)))) (yF (FY (jk ZJ hr (j2 (jk yj hr (j1 (jv 0))) (jv 1))) (NE (jk ZJ hr (j2 (jk yj hr (j1 (jv 0))) (jv 1)))))))) ?_;rintro ds h Q ⟨A,Ts,n,rfl,kA,hT,q⟩;refine⟨rfl,?_⟩;refine ji (λσ' h'=> ∃o,σ'= [some (.lst A),some (afD o)]/\AfF n Ts o/\(∀m,o=some m->m<sizeLine)/\h=h') (λC hC=>⟨_,rfl,A,Ts,n,rfl,kA,hT,λo ho fo=>hC _ _ ⟨o,rfl,ho,fo,rfl⟩⟩) ?_;rintro _ _ ⟨o,rfl,ho,fo,rfl⟩;obtain⟨pd,tp,so⟩:=Tq fo;refine⟨_,rfl,A,Ts,n,rfl,kA,hT,λo1 a1=> ?_⟩;rw [NX a1 ho];refine⟨_,rfl,_,_,pd,rfl,tp h,tp h,so,_,rfl,Gx ⟨_,rfl,A,Ts,n,rfl,kA,hT,λo2 a2=> ?_⟩⟩;rw [NX a2 ho];exact⟨_,rfl,_,_,pd,rfl,tp h,tp h,so,h,Sub.refl h,q⟩
theorem Nn {te:TAD}{t u:TSD}{E:EndsD}{σ:SD}(x:dCB RW te σ h λd h2=> ∃k,d= .bl k/\if (!k)=true then t E σ h2 else u E σ h2):RQ (Qf (vn (dCB RW te))) t u E σ h:=x
def sqB (n:G6)(Ts:Tbs):N0:=Ts.all λT=>decide (T.length=n)&&T.all λr=>decide (r.length=n)&&r.all λx=>decide (0<=x)&&decide (x<1000)
theorem QR {Ts:Tbs}(h:sqB n Ts=true): ∀T∈Ts,Sq n 20 T:=λT hT=>by
 unfold sqB at h;simp only [N3,C6,pS] at h;obtain⟨l,g⟩:=h T hT;exact⟨l,λr hr=>(g r hr).1,λr hr x hx=>((g r hr).2 x hx).1,λr hr x hx=>i9 ((g r hr).2 x hx).2 (by decide)⟩
def Bj (T:G0 (G0 P2)):G0 (G0 P2):=T.map λr=>r.map (· +1)
theorem Eg (g:GoodTab n T):Sq n 20 (Bj T):=by
 have e:(2:P2)^20=1048576:=by decide
 have mem: ∀r∈Bj T,∃s∈T,r=s.map (· +1):=λr hr=>let ⟨s,hs,e⟩:=R6.mp hr;⟨s,hs,e.symm⟩
 have num: ∀r∈Bj T,∀x∈r,0<=x/\x<=1000001:=λr hr x hx=>by
  obtain⟨s,hs,rfl⟩:=mem r hr;obtain⟨y,hy,rfl⟩:=R6.mp hx;have:=(g.2 s hs).2 y hy;omega
 exact⟨by unfold Bj;rw [G5];exact g.1,λr hr=>by obtain⟨s,hs,rfl⟩:=mem r hr;rw [G5];exact(g.2 s hs).1,λr hr x hx=>(num r hr x hx).1,λr hr x hx=>by have:=(num r hr x hx).2;rw [e];omega⟩
theorem FU (T:G0 (G0 P2)):D.tup (T.map λr=>D.tup (r.map λx=>D.int (x+1)))=jp (Bj T):=by
 unfold jp Bj;rw [B6]
 congr 1
 refine B8 λr _=> ?_
 show _=D.tup ((r.map (· +1)).map D.int);rw [B6];rfl
theorem No (h:TabsOk n Ts):TabsOk n (Ts.take 1):=⟨h.n1,h.n3,by rw [T4];exact Nat.le_min.mpr ⟨P6 _,h.l1⟩,by rw [T4];exact S0 (dD _ _) h.l3,λT hT=>h.sq T (O8 hT)⟩
theorem Np {Ts:Tbs}(h:TabsOk n Ts)(g: ∀T∈Ts,GoodTab n T):TabsOk n (Bj (Ts.getD 0 [])::Ts.drop 1):=by
 have l1:=h.l1;have l3:=h.l3;refine⟨h.n1,h.n3,by simp,by rw [D9,B3];omega,λT hT=> ?_⟩;rcases R5.mp hT with e|hT
 ·subst e;refine Eg (g _ ?_);rw [P7,G2 (by omega)];exact M7 _
 ·exact h.sq T (L8 hT)
theorem Eh (Z:Zs mg)(F:Fun K "law" "law" QP f fd)(zY:jE P w K mg base n "_law_right" ["_law_tables"] vS)(UQ:jE P w K mg base n "_law_cell" ["_law_script","_law_k"] Jy)(QU:jE P w K mg base n "_law_pen" ["_law_cell_here"] ZH)(UR:jE P w K mg base n "_law_many" ["_law_pen_here"] Jz):FnOk P w K mg base CX0 (n+1) f fd ["_law_script"] (LSp K GP):=by
 refine F.okM yI (λhr=>(js5 (jse 1 yI (JJ (j4 (JJ (j1 (yE (j1 (yE (j1 jC)))))) (JJ (j1 (yE (j1 (yE (j1 jC)))))) (JJ (j2 (yE (j2 (yE (j2 jC jC)) (yE (j2 jC jC)))) (yE (j2 (yE (j2 jC jC)) (yE (j2 jC jC)))))) (JJ (j2 (yE (j2 (yE (j2 jC jC)) (yE (j2 jC jC)))) (yE (j2 (yE (j2 jC jC)) (yE (j2 jC jC))))))))) (jse 1 yI (jop zp (jv 1) (JJ (j2 (JJ (j1 (yE (j3 (yE (j3 jC jC jC)) (yE (j3 jC jC jC)) (yE (j3 jC jC jC)))))) (JJ (j2 (yE (j2 (yE (j2 jC jC)) (yE (j2 jC jC)))) (yE (j2 (yE (j2 jC jC)) (yE (j2 jC jC)))))))))) (UB (vX (JH (zS (YU rfl) rfl Z.all aU (j1 (jl0 4 yI (jX (jv 1)) (λ_ _ _ _=>(jk zY hr (j1 (jv 4))))))))) (yF jbl)) (GX A7 rfl (Cy (jop zp (JJ (j1 (jk UQ hr (j2 (jv 0) jC)))) (Pb (jv 0) (WK jC) (WK jC)))) (jgn 2 yI) (js4 (jse 3 yI (jk QU hr (j1 (jv 2)))) (jse 4 yI (jk UR hr (j1 (jv 3)))) (jse 5 yI (jop zp (JJ (j1 (jM jS rfl Z.tuple (by decide +kernel) (j1 (jl0 6 yI (jX (ji1 (jv 4) jC)) (λ_ _ _ _=>(jM jS rfl Z.tuple (by decide +kernel) (j1 (jl0 7 yI (jX (jv 6)) (λ_ _ _ _=>(jop zp (jv 7) jC))))))))))) (Pb (jv 4) (WK jC) Pa))) (UB (jpt (Cu (vX (JH (jk zY hr (j1 (jv 4))))) (Cu (vX (JH (jk zY hr (j1 (Pb (jv 4) Pa (WK jC)))))) (Ad (vX (JH (jk zY hr (j1 (jv 5))))))))) (yF jbl)))) (yF jbl))) ?_;rintro ds h Q ⟨ns,rfl,hh,hns,q⟩;refine⟨rfl,?_⟩;refine ji (λσ' h'=> ∃a1 a2 a3 a4 A0,σ'= [some (.scr ns),some (.lst A0),none,none,none,none,none,none]/\h' a1=some (([[[0]]]:Tbs).map jp)/\h' a2=some (([[[1]]]:Tbs).map jp)/\h' a3=some (([[[0,1],[1,1]],[[1,1],[1,0]]]:Tbs).map jp)/\h' a4=some (([[[1,1],[1,1]],[[0,1],[1,1]]]:Tbs).map jp)/\h' A0=some [.lst a1,.lst a2,.lst a3,.lst a4]) (λC hC=>⟨sz1,sz1,sz1,λa1 e1=>⟨sz1,sz1,sz1,λa2 e2=>⟨sz2,sz2,sz2,sz2,sz2,sz2,sz2,λa3 e3=>⟨sz2,sz2,sz2,sz2,sz2,sz2,sz2,λa4 e4=>⟨sz4,λA0 e0=>hC _ _ ⟨a1,a2,a3,a4,A0,rfl,(jd (jd (jd (jd jc e2) e3) e4) e0),(jd (jd (jd jc e3) e4) e0),(jd (jd jc e4) e0),(jd jc e0),jc⟩⟩⟩⟩⟩⟩) ?_;rintro _ h1 ⟨a1,a2,a3,a4,A0,rfl,k1,k2,k3,k4,kA0⟩;refine ji (λσ' h'=> ∃A1 as,σ'= [some (.scr ns),some (.lst A1),none,none,none,none,none,none]/\h' A1=some (as.map D.lst)/\as.length<=6/\ ∀a∈as,∃Ts n,h' a=some (qR jp Ts)/\TabsOk n Ts) (λC hC=>⟨_,rfl,⟨sz3,sz3,sz3,sz3,sz1,λa5 e5=>⟨sz2,sz2,sz2,sz2,sz2,sz2,sz2,λa6 e6=>⟨sz2,λB0 e7=>⟨_,_,(jd (jd (jd kA0 e5) e6) e7),jc,sz6,λA1 e8=>hC _ _ ⟨A1,[a1,a2,a3,a4,a5,a6],rfl,jc,P6 6,λa ha=> ?_⟩⟩⟩⟩⟩⟩) ?_
 ·simp only [R5,C9,or_false] at ha;rcases ha with e|e|e|e|e|e<;>subst e
  ·exact⟨[[[0]]],1,(jd (jd (jd (jd k1 e5) e6) e7) e8),⟨by decide,by decide,by decide,by decide,λT hT=>QR (by decide +kernel) T hT⟩⟩
  ·exact⟨[[[1]]],1,(jd (jd (jd (jd k2 e5) e6) e7) e8),⟨by decide,by decide,by decide,by decide,λT hT=>QR (by decide +kernel) T hT⟩⟩
  ·exact⟨[[[0,1],[1,1]],[[1,1],[1,0]]],2,(jd (jd (jd (jd k3 e5) e6) e7) e8),⟨by decide,by decide,by decide,by decide,λT hT=>QR (by decide +kernel) T hT⟩⟩
  ·exact⟨[[[1,1],[1,1]],[[0,1],[1,1]]],2,(jd (jd (jd (jd k4 e5) e6) e7) e8),⟨by decide,by decide,by decide,by decide,λT hT=>QR (by decide +kernel) T hT⟩⟩
  ·exact⟨[[[0,1,0],[0,0,1],[1,1,0]]],3,(jd (jd (jd jc e6) e7) e8),⟨by decide,by decide,by decide,by decide,λT hT=>QR (by decide +kernel) T hT⟩⟩
  ·exact⟨[[[1,1],[0,1]],[[1,1],[1,1]]],2,(jd (jd jc e7) e8),⟨by decide,by decide,by decide,by decide,λT hT=>QR (by decide +kernel) T hT⟩⟩
 clear k1 k2 k3 k4 kA0;rintro _ h2 ⟨A1,as,rfl,kA1,l6,all⟩;refine ji (λσ' h'=>σ'= [some (.scr ns),some (.lst A1),none,none,none,none,none,none]) (λC hC=>Nn (Hf (j:=λh=>h A1) as D.lst (λ_=>true) (by omega) kA1 (λR r=>⟨_,rfl,r⟩) (λa ha Q' q'=>let ⟨Ts,n,k,hT⟩:=all a ha;⟨_,rfl,a,Ts,n,rfl,k,hT,q'⟩) ⟨_,rfl,?_⟩)) ?_
 ·rw [show (as.all λ_=>true)=true from N3.mpr λ_ _=>rfl];exact Wb (hC _ _ rfl)
 clear kA1 all;rintro _ h3 rfl;refine ji (λσ' h'=>True) (λC hC=> ?_) (λσ' h3 hV=>⟨h3,Sub.refl _,q h3⟩);refine⟨_,rfl,ns,0,rfl,(by decide),λn0=>⟨sz1,λp1 e1=>⟨_,rfl,_,rfl,_,rfl,λp2 e2=>⟨_,_,jd jc e2,jc,?_,λp3 e3=>⟨p3,rfl,?_⟩⟩⟩⟩⟩
 ·have:(WF ns (some 1) (some 2)).length<=ns.length:=by unfold WF;rw [T4,B3];omega
  rw [G5];exact M0 (jY (by simp only [D9,L5];omega))
 generalize hcs:([D.int n0]++(WF ns (some 1) (some 2)).map D.int)=cs;have hint: ∀d∈cs,∃c,d= .int c:=λd hd=>by
  rw [<-hcs] at hd;rcases D8.mp hd with z|z
  ·exact⟨n0,G8.mp z⟩
  ·obtain⟨x,_,e⟩:=R6.mp z;exact⟨x,e.symm⟩
 refine GR cs (λi σ' h'=> ∃a1 a2 a3 a4 a5 a6 a7,σ'= [some (.scr ns),a1,a2,a3,a4,a5,a6,a7]/\h' p3=some cs) (λi σ' h' ⟨_,_,_,_,_,_,_,_,k⟩=>k) ⟨_,_,_,_,_,_,_,rfl,jc⟩ (λσ' h' _=>hC _ _ cT) ?_;rintro i d _ h4 hi ⟨b1,b2,b3,b4,b5,b6,b7,rfl,k3⟩;obtain⟨c,rfl⟩:=hint d (P8 hi);have hil:i<cs.length:=(P9.mp hi).1;show JD _ _ _ [some (.scr ns),b1,some (.int c),b3,b4,b5,b6,b7] h4;refine ji (λσ' h'=> ∃p l fl,σ'= [some (.scr ns),b1,some (.int c),some (.lst p),b4,b5,b6,b7]/\h' p=some [.int l,.int fl]/\0<=l/\h' p3=some cs/\p3≠p) (λC hC=> ?_) ?_
 ·refine⟨_,rfl,c,rfl,λp l fl ep l0 _=>hC _ _ ⟨p,l,fl,rfl,jc,l0,jd k3 ep,E4 (jq k3 ep)⟩⟩
 rintro _ h5 ⟨p,l,fl,rfl,kp,l0,k3,n3⟩;refine ji (λσ' h'=> ∃F n Ts,σ'= [some (.scr ns),b1,some (.int c),some (.lst p),some (.lst F),b5,b6,b7]/\h' F=some (Ts.map jp)/\TabsOk n Ts/\(∀T∈Ts,GoodTab n T)/\h' p3=some cs) (λC hC=>⟨_,rfl,p,l,fl,rfl,kp,l0,λF n Ts l' h' fF kF hT gT bt kp' l0'=>hC _ _ ⟨F,n,Ts,rfl,kF,hT,gT,bt _ _ n3 k3⟩⟩) ?_;clear kp k3;rintro _ h6 ⟨F,n,Ts,rfl,kF,hT,gT,k3⟩;have z0:0<Ts.length:=hT.l1;have g0:=gT (Ts.getD 0 []) (by rw [P7,G2 z0];exact M7 _);have n3':=hT.n3;refine ji (λσ' h'=> ∃G,σ'= [some (.scr ns),b1,some (.int c),some (.lst p),some (.lst F),some (.lst G),b6,b7]/\h' F=some (Ts.map jp)/\h' G=some ((Bj (Ts.getD 0 [])::Ts.drop 1).map jp)/\h' p3=some cs) (λC hC=> ?_) ?_
 ·refine Gb (Ts.getD 0 []) zO (λr=> .tup (r.map λx=> .int (x+1))) (by rw [g0.1];omega) rfl (λR r=>⟨_,rfl,_,_,kF,Pw hT z0,r⟩) (λr hr Q' q'=> ?_) ?_
  ·exact Gb r D.int (λx=> .int (x+1)) (by rw [(g0.2 r hr).1];omega) rfl (λR r=>⟨_,rfl,r⟩) (λx hx Q'' q''=>⟨_,rfl,q''⟩) q'
  ·rw [FU];refine⟨sz1,λp8 e8=>⟨_,rfl,1,rfl,_,jd kF e8,λp9 e9=>⟨_,_,jd jc e9,jc,?_,λG eG=>hC _ _ ⟨G,rfl,jd (jd (jd kF e8) e9) eG,?_,jd (jd (jd k3 e8) e9) eG⟩⟩⟩⟩
   ·have:(WF (Ts.map jp) (some 1) none).length<=(Ts.map jp).length:=by unfold WF;rw [T4,B3];omega
    rw [G5] at this;exact M0 (jY (by have:=hT.l3;simp only [D9,L5];omega))
   ·rw [jc];cases Ts with
    |nil=>exact absurd z0 (B7 0)
    |cons T0 Ts=>rw [T5,CJ];rfl
 rintro _ h7 ⟨G,rfl,kF,kG,k3⟩;refine⟨_,rfl,F,Ts,n,rfl,kF,hT,_,rfl,Wb ⟨_,rfl,1,rfl,_,kF,λp8 e8=>⟨p8,Ts.take 1,n,rfl,?_,No hT,_,rfl,Wb ⟨_,rfl,G,_,n,rfl,jd kG e8,Np hT gT,_,rfl,Wb ⟨_,Sub.refl _,hil,_,_,_,_,_,_,_,rfl,jd k3 e8⟩⟩⟩⟩⟩;rw [jc];exact congrArg some ((Px _).trans iA.symm)
end
theorem Ei {l:sD}{w:B9}{K:G7}{h:O6}{mg:Str->D2 G1}{fa:P3}(X:K.In h)(G:h.Ns J5 mg)(hfa:mg "law" =some (.ref fa))
 (d0:DefIn K "is_whole" Jm fu0 eu0)
 (d1:DefIn K "is_table_row" wj fu1 eu1)
 (d2:DefIn K "has_table_form" zI fu2 eu2)
 (d3:DefIn K "want_table" ya fu3 eu3)
 (d4:DefIn K "want_tables" wB fu4 eu4)
 (d5:DefIn K "multiplied" yb fu5 eu5)
 (d6:DefIn K "full" Rg fu6 eu6)
 (d7:DefIn K "marks" UM fu7 eu7)
 (d8:DefIn K "marks_after" wC fu8 eu8)
 (d9:DefIn K "ways_and_nexts" zJ fu9 eu9)
 (d10:DefIn K "ends_of" ZD fu10 eu10)
 (d11:DefIn K "rounds_and_lasting" zb fu11 eu11)
 (d12:DefIn K "all_full_from" zU fu12 eu12)
 (d13:DefIn K "_law_cell" yY fu13 eu13)
 (d14:DefIn K "_law_pen" Jo fu14 eu14)
 (d15:DefIn K "_law_draw" yZ fu15 eu15)
 (d16:DefIn K "_law_same" va fu16 eu16)
 (d17:DefIn K "_law_table" yc fu17 eu17)
 (d18:DefIn K "_law_order" ye fu18 eu18)
 (d19:DefIn K "_law_times" yf fu19 eu19)
 (d20:DefIn K "_law_marked" wE fu20 eu20)
 (d21:DefIn K "_law_filled" wF fu21 eu21)
 (d22:DefIn K "_law_good_table" zz fu22 eu22)
 (d23:DefIn K "_law_many" vb fu23 eu23)
 (d24:DefIn K "_law_all_from" zV fu24 eu24)
 (d25:DefIn K "_law_right" yg fu25 eu25)
 (d26:DefIn K "law" QP fu26 eu26)
 {tk0:Tok}(v0:qY K J5 "MOST_ROWS" =some (some (.int 6 tk0)))
 {tk1:Tok}(v1:qY K J5 "MOST_TABLES" =some (some (.int 3 tk1)))
 {tk2:Tok}(v2:qY K J5 "MOST_ROWS_OF_SEVERAL" =some (some (.int 3 tk2)))
 (z:zsB K=true)
 : ∃fd:C8,(∀ (s:G3) (v:G1),sS s fd ⟨[v],[]⟩ [("_law_script",v)])/\ ∀base:O6,K.In base->base.Ns J5 mg->Bm mg base->FnOk l.prog w K mg base CX0 10 fa fd ["_law_script"] (LSp K GP):=by
 have e:=hfa.symm.trans (d26.nm X G);cases e;have vc: ∃tk,mg "MOST_ROWS" =some (.int 6 tk):=⟨_,pB X G v0⟩;have wH: ∃tk,mg "MOST_TABLES" =some (.int 3 tk):=⟨_,pB X G v1⟩;have jV: ∃tk,mg "MOST_ROWS_OF_SEVERAL" =some (.int 3 tk):=⟨_,pB X G v2⟩;have Z:=SS X G z;obtain⟨_,_,kV,dc,pm,an,cd,ct,_,rfl,_⟩:=d26.fn.ex;refine⟨dB "law" "law" (wU QP) (zH QP) (je QP) .none kV dc pm an cd ct,λs v=> .of_eq rfl,λbase _ _ B=> ?_⟩;have QY:=λn=>d0.cal l w base X G (UN (n:=n+0) Z d0.fn)
 have ZZ:=λn=>d1.cal l w base X G (ZG (n:=n+1) Z d1.fn (QY (n+0)))
 have wO:=λn=>d2.cal l w base X G (Jp (n:=n+2) Z d2.fn (ZZ (n+0)) vc)
 have JB:=λn=>d3.cal l w base X G (Yp (n:=n+3) Z d3.fn (wO (n+0)))
 have YC:=λn=>d4.cal l w base X G (ZT (n:=n+3) Z d4.fn (wO (n+0)) wH jV)
 have VX:=λn=>d5.cal l w base X G (Yq (n:=n+0) Z d5.fn)
 have Ek:=λn=>d6.cal l w base X G (FP (n:=n+4) Z d6.fn (JB (n+0)))
 have Rt:=λn=>d7.cal l w base X G (Nh (n:=n+4) Z d7.fn (JB (n+0)))
 have YB:=λn=>d8.cal l w base X G (ZU (n:=n+5) Z d8.fn (Rt (n+0)) (VX (n+4)))
 have JQ:=λn=>d9.cal l w base X G (Jq (n:=n+6) Z d9.fn (Rt (n+1)) (YB (n+0)))
 have Rs:=λn=>d10.cal l w base X G (QQ (n:=n+0) Z d10.fn)
 have yC:=λn=>d11.cal l w base X G (yi (n:=n+5) Z d11.fn (Ek (n+0)) (Rs (n+4)))
 have ZL:=λn=>d12.cal l w base X G (JM (n:=n+7) Z d12.fn (YC (n+3)) (JQ (n+0)) (yC (n+1)))
 have UT:=λn=>d13.cal l w base X G (VJ (n:=n+0) Z d13.fn)
 have QX:=λn=>d14.cal l w base X G (UP (n:=n+0) Z d14.fn)
 have wI:=λn=>d15.cal l w base X G (VL (n:=n+0) Z d15.fn)
 have UV:=λn=>d16.cal l w base X G (VM (n:=n+0) Z d16.fn)
 have VV:=λn=>d17.cal l w base X G (Ys (n:=n+1) Z d17.fn (wI (n+0)))
 have VT:=λn=>d18.cal l w base X G (Yt (n:=n+1) Z d18.fn (wI (n+0)))
 have VW:=λn=>d19.cal l w base X G (Yu (n:=n+0) Z d19.fn)
 have YA:=λn=>d20.cal l w base X G (ZV (n:=n+0) Z d20.fn)
 have Yz:=λn=>d21.cal l w base X G (ZW (n:=n+0) Z d21.fn)
 have Js:=λn=>d22.cal l w base X G (vR (n:=n+2) Z d22.fn (VT (n+0)) (wI (n+1)))
 have UU:=λn=>d23.cal l w base X G (VN (n:=n+3) Z d23.fn (wI (n+2)) (VV (n+1)) (Js (n+0)))
 have ZK:=λn=>d24.cal l w base X G (JN (n:=n+1) Z d24.fn (YA (n+0)) (Yz (n+0)) (VW (n+0)))
 have VU:=λn=>d25.cal l w base X G (Yv (n:=n+8) Z d25.fn (ZK (n+6)) (UV (n+7)) (ZL (n+0)))
 exact Eh (n:=9) Z d26.fn (VU 0) (UT 8) (QX 8) (UU 5)
end My
namespace PySem.W.Fast
def tw2564296287167434002:=()
def tw8986560761469624372:=()
def tw501631703224792308:=()
def tw4212790410205378270:=()
def tw18336564831771310561:=()
def tw6066155662435500109:=()
def tw16306345437149535575:=()
def tw4815323866916619198:=()
def tw6351147230200913601:=()
def tw13175827059615338330:=()
def tw6180205298625244089:=()
def tw16647142690611736370:=()
def tw6904288689645374887:=()
def tw17954758707704609291:=()
def tw1615906820700801293:=()
def tw7783695992966930840:=()
def tw7586427756202993635:=()
def tw631695981019370763:=()
def tw12265530859202104185:=()
def tw9662740870023691916:=()
def tw15718652055700620615:=()
def tw10958157989818799684:=()
def tw13916007654722255084:=()
def tw15337885523833639855:=()
def tw7669370935724533960:=()
def tw11047417577714534572:=()
def tw10465417680234220120:=()
def tw9358003377779290497:=()
def tw481280701828567827:=()
def tw12270612113997300811:=()
def tw6935730938322581718:=()
def tw15559415428228338497:=()
def tw4677238921209732485:=()
def tw16580756770197083595:=()
def tw14781686464017845602:=()
def tw2893517267008682208:=()
def tw13574418089153026210:=()
def tw7833135566722792535:=()
def tw2392305054399953943:=()
def tw2485731374319523615:=()
def tw15865313343785429250:=()
def tw6473880821298850959:=()
def tw4511327710460867148:=()
def tw6583112348025490814:=()
def tw6828683880069103382:=()
def tw10029201351067553674:=()
def tw13220027243727966077:=()
def tw17566077298381998481:=()
def tw2793076496332706489:=()
def tw17156099017871041842:=()
def tw4249298323322322628:=()
def tw129005910010322911:=()
def tw11402436084965621970:=()
def tw12723977035540810550:=()
def tw8628135419786214911:=()
def tw5053519255885779377:=()
def tw16640520584896434398:=()
def tw4771675707000821722:=()
def tw13429453709900888415:=()
def tw5728955100001991313:=()
def tw1630655900772641562:=()
def tw6530210085931441569:=()
def tw1745498199339693303:=()
def tw7919536553292526344:=()
def tw10199897959575999164:=()
def tw14269158281198650902:=()
def tw9387151427154776511:=()
def tw13451901481326957960:=()
def tw14509901223353957843:=()
def tw263895697143042782:=()
def tw2103721282556697551:=()
def tw4440598608596415976:=()
def tw2611535617624515668:=()
def tw825397542762684457:=()
def tw3788377767785293905:=()
def tw8534449951704798182:=()
def tw1244364253907489834:=()
def tw3025123503101073681:=()
def tw12851427334987264041:=()
def tw15497248294372434129:=()
def tw3756424822611634427:=()
def tw4921620749581916416:=()
def tw7558379423855859068:=()
def tw14416345333982858764:=()
def tw10212847011974551802:=()
def tw10608261650254380103:=()
def tw5059198070747589213:=()
def tw13384693983443129068:=()
def tw9432393727094053553:=()
def tw721531035273756900:=()
def tw17133404797004608709:=()
def tw5795580025817683438:=()
def tw8029030137855117920:=()
def tw11481925561898892431:=()
def tw650012006619117974:=()
def tw15730813157376869203:=()
end PySem.W.Fast
open PySem PySem.W PyProof.Rows
set_option maxRecDepth 100000 in
set_option maxHeartbeats 0 in
theorem PySem.Challenge.cw_firstpowers_k68_when_all_are_full_holds : PySem.Challenge.rw_firstpowers_k68_when_all_are_full.Holds := by
  w_on; o_law; k_head; (case hw => w_witness2)
  k_fill
  refine L2.RY (l := PySem.Challenge.rw_firstpowers_k68_when_all_are_full) (k := 10) (x := "_law_script") rfl rfl ⟨rfl, by decide, by decide, rfl⟩ (fun w h Y => PySem.W.kIn_of Y) ?B ?F
  case B => intro w; kernel_rfl
  case F =>
    intro w mg fa h KX G hmg
    refine' My.Ei KX G hmg ?d0 ?d1 ?d2 ?d3 ?d4 ?d5 ?d6 ?d7 ?d8 ?d9 ?d10 ?d11 ?d12 ?d13 ?d14 ?d15 ?d16 ?d17 ?d18 ?d19 ?d20 ?d21 ?d22 ?d23 ?d24 ?d25 ?d26 ?v0 ?v1 ?v2 ?z
    case d0 | d1 | d2 | d3 | d4 | d5 | d6 | d7 | d8 | d9 | d10 | d11 | d12 | d13 | d14 | d15 | d16 | d17 | d18 | d19 | d20 | d21 | d22 | d23 | d24 | d25 | d26 => refine' L2.AD ?a ?l ?c ?k; (case a => k_is); (case l => k_is); (case c => k_is); (case k => k_is)
    case v0 | v1 | v2 => k_is
    case z => kernel_rfl
