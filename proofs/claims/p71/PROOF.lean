import PyProof.Rows.All
import Wide.All
import OpenK.AllK
import Wide.FinOn
import Lean
import PyProof.EqAt
import PyProof.EqKinds
import PyProof.TupleCall
import PyProof.Rows.TopTwo
import KE.KIsAll
import PyProof.ExcAttrAll.ValueError
import KE.KTryMore
import KE.KRevIter
import PyProof.SetRoads
import KE.KDictList
import PySem.Challenge.RW_firstpowers_k71_fences_of_tables
set_option Elab.async false
set_option linter.all false
set_option bootstrap.genMatcherCode false
set_option genSizeOf false
set_option maxRecDepth 100000
set_option maxHeartbeats 8000000
noncomputable section
open _root_ renaming List->G0,Nat->G8,Int->P4,Option->P9,if_pos->R6,if_neg->R9,Array->S5,decide_eq_true->M1,Bool->N0,decide_eq_false->B7,decide_eq_true_iff->F6,of_decide_eq_true->A7,String->W1,decide_eq_true_eq->X4,exists_eq_left'->Y7,StateT->aC,beq_self_eq_true->a8,ForInStep->fT,of_decide_eq_false->j9,if_false->mC,if_true->oX,dif_pos->xQ,decide_true->IN
open List renaming length_map->G1,getElem?_eq_getElem->G5,mem_singleton->P0,length_append->P1,getElem?_eq_some_iff->P5,mem_of_getElem?->P6,getElem?_map->P7,mem_append->D1,length_cons->D2,mem_cons_self->D3,mem_append_right->D4,append_assoc->D5,range->D6,size_toArray->D7,getD_eq_getElem?_getD->R4,mem_map->R7,mem_cons->S0,mem_cons_of_mem->S1,mem_range->S4,length_range->S9,length_take->T3,replicate->T4,take_of_length_le->T5,map_append->T6,map_cons->M0,map_map->M7,take_append_drop->N2,getElem_mem->N6,length_nil->N8,all_eq_true->B0,length_reverse->B1,map_congr_left->B2,getElem?_append_right->B6,mem_append_left->B8,pairwise_append->B9,length_drop->C0,not_mem_nil->C5,getElem?_append_left->F4,mem_reverse->L0,take_add_one->L6,mem_of_mem_drop->O3,mem_of_mem_take->O4,nil_append->O6,getElem?_eq_none->A2,pairwise_iff_getElem->A5,pairwise_singleton->A9,getElem?_cons_zero->E1,replicate_succ->E2,drop_eq_nil_of_le->E9,mem_map_of_mem->J6,append_nil->J8,lookup_cons->J9,take_length->K0,pairwise_cons->K6,pairwise_map->Q6,getElem?_set_ne->Q7,mem_filter->U1,find?_cons->U4,cons_append->U5,extract_eq_drop_take->U7,take_sublist->V1,drop_sublist->V3,eq_nil_of_length_eq_zero->V4,nodup_cons->V9,getElem?_cons_succ->W5,flatten_cons->X1,reverse_perm->X9,getElem?_range->Y3,length_pos_iff->Y4,getElem?_drop->Z4,length->aA,drop_append_of_le_length->aD,take_append_of_le_length->aE,getElem_of_mem->aQ,map_nil->aU,all_map->aV,drop_drop->bI,zip_cons_cons->bJ,mem_replicate->bK,forIn_cons->bQ,ext_getElem?->bV,nodup_append->bY,length_erase_of_mem->b7,flatMap_append->b9,length_eq_zero_iff->cF,mem_filterMap->cI,length_pos_of_mem->cL,length_replicate->cS,length_singleton->cT,perm_append_comm->cU,getElem?_reverse->cV,flatMap_cons->cZ,mem_erase_of_ne->dF,getElem?_of_mem->dH,any_eq_true->dU,getLastD_eq_getLast?->dW,getLast?_eq_getElem?->dX,filterMap_cons->dY,getElem?_take_of_lt->eQ,range_succ->fC,getElem_range->fJ,find?_eq_none->fK,getElem?_set_self->f6,getElem?_set->gA,range_succ_eq_map->gB,reverse_cons->gC,foldl_append->gE,take_succ->gM,length_filter_le->gO,pairwise_reverse->gP,map_id->hO,drop_zero->j5,length_eraseIdx_of_lt->j8,take_zero->kG,getElem?_eq_none_iff->kY,any_cons->lM,map_take->lS,map_drop->lU,getElem?_replicate->l9,perm_middle->mF,nodup_range->mH,getElem_of_append->mT,Nodup->mW,length_eq_one_iff->mX,of_mem_zip->mZ,foldl_cons->m5,getElem?_toArray->nJ,min?_eq_some_iff->nK,set_append_right->nO,drop_take->oJ,take_take->oK,getLast?_concat->oN,nodup_nil->oU,map_eq_nil_iff->o7,take_succ_cons->o8,filter_eq_self->pA,filterMap_map->pQ,getElem?_take->pU,set_cons_succ->p0,set_cons_zero->p7,map_replicate->p9,any_map->qJ,getElem_take->qU,getElem_drop->qV,zip_nil_left->q0,append_cons->rM,mem_flatMap->rQ,length_set->sD,sum_append->sI,length_zip->sN,foldl->tQ,forIn_nil->tW,all_cons->uS,sum_cons->u5,lookup->z9,map->G0U
open PySem renaming Value->G2,Shared->G3,wpAny_pure->G9,Addr->P3,wpAny->D8,model->R3,starEach->R8,Program->S6,wpAny_mono->T7,Expr->M6,foldedSetIterable->M8,SetTable->N3,Around->N4,World->B3,FuncData->C3,wpAny_call_entry->C7,wpAny_loadPart'->C8,wpAny_callSpecial?_slot->F5,compareOp->H0,Heap->L8,wpAny_holding->O5,wpAny_setState_of->E8,eval->J3,wpAny_newObj_type->K1,rawInt->K4,mainGlobals->K5,Stmt->K9,wpAny_truthy_bool->Q1,binaryOp->Q8,backTo->U9,bootBuiltins->V8,PyData->W6,sysModules->W7,wpAny_pyIter_list->W8,tupleKeyHash->Y1,cellsFrom->Y2,Scope->Y5,codeAny_builtin->Y6,behindInMarks->Z7,swapsWith->aG,ofAClassStatement->aJ,letOwnedTupleGo->aK,wpAny_specialOf->aM,holding->aR,wpAny_standAt->aW,Comprehension->aX,wpAny_askSetting->aY,wpAny_isInstance->aZ,wpAny_pyIter_tuple->bF,IsPair->bH,wpAny_passesOwn->bP,codeAny->bR,mem_of_lookup->b8,isSubtype_type->cG,attributeBase->cO,wpAny_attempt->cP,wpAny_callSpecialIfBoundUnlessNone?_slot->cW,searchCouldBeSeen->dD,wpAny_rule->dE,wpAny_seqItems->dL,Keyword->dP,Fin->dQ,DictEntry->dS,swapsWithSole->eI,swappedStores->eJ,plainId_quiet->e9,assignEach->fE,sliceBounds->fO,keywordEach->fQ,hashByValue->fZ,wpAny_typeOf->f8,wpAny_pyIter_slot->gD,assign->gR,standAt->gX,getItem->gY,wpAny_field->g6,compTurn->g7,setField->g8,codeAny_call_builtin->g9,wpAny_execs_nil->iC,atKey->iI,codeAny_mono->iJ,pyNext->iU,wpAny_Call_Name_kw->i0,wpAny_setField->j6,isSubtype_stop->j7,IsTupleKey->kJ,wpAny_pyHash_tuple->kK,wpAny_binaryOp_repeat_ref->kT,wpAny_sequenceKey->lE,richCompare->lI,comprehension->lN,wpAny_comprehension_free->lQ,noFill_tuple_add->mB,backToKw->mD,compEnvC->mE,checkBuiltinCall->mG,builtinsNs->mI,wpAny_call->mJ,IsPart->mL,typeIs_int->mN,call_meets->mO,reduceHash->mP,richCompare_meets_room->mU,theTreesLotGoes->m7,codeAny_of_tree->m8,builtinLookup_eq_fast->nM,isSubtype_tuple_tuple->nP,wpAny_isOneOf_keyiter->nQ,pyIter->nV,CmpOp->nX,Result->n6,subscripted->n9,lookup_relabel_local->oA,intBits_le_iff->oE,wpAny_newTuple->oF,wpAny_updateSeq_pair->oG,setAddHashedIn->oT,wpAny_pyIter_keyiter->oV,PassesOwn->oW,callerA->oY,isSubtype->oZ,eqIsQuiet->o6,assignInOrder->pF,seq_tuple_add->pG,evalPart_none->pI,wpAny_newList->pL,wpAny_eqBool_tuple->pX,wpAny_tupleItemsOf->pZ,Model->qA,name_of_addr->qF,concat_meets->qG,seqIndex_neg->qH,callSpecial?->qN,wpAny_pyIter_enum->qP,entryFor->qQ,wpAny_storeSet_of->qY,wpAny_cRoomFor_or->qZ,wpAny_execs_cons->rC,stored->rH,seqSlot_of->rJ,entryFor_of_fast->rL,sizeLine_eq->rT,seqIndex_of->rV,wpAny_of_eq->rX,pushCells_keeps->sF,typeLookup_type->sO,wpAny_ret_mkInt->sW,setItem->tD,BindsTo->tE,Setting->tF,wpAny_Name->tH,truthy->tJ,bindName->tK,wpAny_bindName->tL,wpAny_load->tM,bindL->tO,bindC->tP,fitsIndex_both->tR,newFunctionEnv->tS,compPost->tT,entryFor_alias->tZ,carriedByValue->uD,wpAny_runValue->uE,intBits_le_64->uL,evalPart_some->uN,call_list_seq->uP,eval_ListComp->uQ,wpAny_notedAt->uR,wpAny_onRaise->u3,checkTypeCall->u4,setSearchFrom->w6,lastMarks->xC,noteFrame->xE,Within->xG,isTrue->xJ,codeAny_loop->xK,relabel->xL,argsOk->xO,interactive->y4,IsRangeIter->y6,Operator->y8,bindArgs->y9,wpAny_Slice->z6,wpAny_noted->z8,setRelay->IM,storedH_new->IQ,entryOfKey->IW,typeLookup->G0d,typeIs_str->G0e,call->G0g,closureFor->G0h,seqRepeat?->G0i,preSum->G0j,TypeCalled->G0k,hashInt->G0q,release->G0r,operate->G0x,newDict->G0z,data2->G0Q,Params->G0R
open PySem.Heap renaming get?_push_of_some->G6,lt_size->D0,get?_push_size->R0,get?_update_self->F7,SameBut->O9,size_push->cE,get?_update_other->cK,get?_update_ne->o9,ExtBut->r9,IsTuple->xN
open PySem.W renaming Frag->G7,kia_one->U2,keepIn->cB,fnOf->dN,methodObj->lC,cellsFrom_some->mK,instObj->mY,kat_nil->nG,lookIn->nY,kitOne->n5,codeIn->n8,tabObj->oC,tabIn->pJ,mg_of->pO,kitx_list->qD,kitx_dict->qE,nsIn->rA,plainGet->rD,OpenLaw->sH,findIn->tN,CodeHd->tU,kdl_hint_dict->x4,hideAll_size->x8,hideAll_none->y3,hideAll_get->IR,of_hideAll->IX,kitx_float->IZ,kitx_tuple->G0a,callWith_K->G0b,codeRec_of->G0c,ki_setBack->G0f,kdl_extend->G0p,hasDictIn->G0s,plainOver->G0t,specialIn->G0u,kitx_none->G0v,kitx_bool->G0w,krv_range->G0y,eq_bytes->G0A,ne_bytes->G0B,kitx_int->G0C,kitx_str->G0D,kitx_own->G0E,ki_setAt->G0F,kat_cons->G0I,hideAll->G0J,takesIn->G0K,krv_all->G0L,KatTups->G0M,kat_yes->G0N,kat_one->G0O,InstAt->G0P,tab_of->G0S,KatLex->G0Y,kat_no->G0Z,kat_lt->G00,KdlSrc->G01,mroIn->G02,WalkO->G03
open Nat renaming le_refl->P2,le_trans->R1,ne_of_lt->S8,le_of_lt->T8,lt_of_lt_of_le->N5,zero_le->N7,lt_irrefl->C1,lt_succ_self->E5,add_sub_cancel'->J7,lt_of_le_of_ne->K7,ne_of_gt->Q2,lt_or_ge->Q4,pow_succ->Q5,lt_of_le_of_lt->Q9,le_of_eq->U6,min_eq_left->W0,pow_le_pow_right->W3,le_add_right->W4,lt_trans->X2,lt_of_succ_le->X3,zero_add->X5,lt_of_succ_lt->X8,mod_lt->Z5,add_zero->Z9,not_lt->aO,not_lt_zero->aP,mul_comm->aT,succ_pos->bU,div_div_eq_div_mul->cM,le_add_left->cN,add_assoc->cQ,lt_succ_of_lt->cX,lt_trichotomy->dA,one_pos->dI,min_le_right->dO,mul_le_mul_left->dZ,add_le_add_left->eG,sub_lt->fG,pos_of_ne_zero->fH,add_right_comm->fI,add_sub_cancel_left->fX,mul_add->fY,succ_le_of_lt->gH,pow_zero->gJ,le_of_not_lt->gS,succ_le_succ->gV,mod_eq_of_lt->gW,succ_mul->iK,sub_self->iP,mod_eq_zero_of_dvd->mV,div_add_mod->nE,add_mul->oI,add_mod->oQ,div_one->oS,mul_assoc->pM,eq_zero_or_pos->pV,add_sub_cancel->pW,sub_zero->qL,le_of_succ_le->qS,sub_pos_of_lt->qT,le_succ_of_le->qW,min_eq_right->rK,succ_lt_succ->rO,pow_pos->sB,max_eq_left->sQ,min_le_left->sS,mod_add_div->sZ,gcd->tG,zero_mul->xW,log2_lt->IF,mod_mod->IK,mul_mod->IL,sub_le->G0l,succ->G0W
open Array renaming length_toList->P8,getElem?_toList->M9,getElem?_eq_some_iff->F8,toList_append->O7,getElem?_eq_none_iff->A8,forIn_toList->U0,toList_push->V2,getElem?_eq_getElem->bO,toList_extract->bX,getD_eq_getD_getElem?->dB,getElem_toList->dG,size_setIfInBounds->fA,toList_reverse->hJ,isEmpty_eq_false_iff->j0,toList_setIfInBounds->kI,getElem?_eq_none->mR,replicate->nD,mem_toList_iff->nZ,toList->qB,isEmpty_iff->qK,toList_map->rP,size_push->sU,getD->tY,size_map->uC
open PyProof.Rows renaming Keyed->D9,arrOf->T9,pendingOf->C6,SortSt->C9,slot_tuple_getitem->J4,boot_all->J5,callWith_type1->aS,failedOf->bW,seqObj->gI,IntsAre->gZ,entry_tuple_getitem->iH,assignInOrder_cons->iT,envOfC->i3,slicePart_none->i4,args_tuple_getitem->i5,AllBare->lD,subscriptTail->lL,subscriptTail_builtinR->mM,tupleItemsOf_->pH,Subscript_->pR,assignInOrder_nil->qC,callWith_builtin1->rE,boot_isinstance->sG,get?_update_seq->sR,entry_list_sort->sV,keyKind'->t8,slot_list_sort->uF,args_list_sort->uG,printed_name->uI,printed_star->uJ,slicePart_int->uM,reverseSlice'->u8,listUpdate_at->u9,IsTup->xB,isTrue_plain->xH,plain_sorted->xT,entry_sorted->xU,args_sorted1->xV,tuples'->xX,tail_any->z7,mergeAt'->IG,binarySort'->IH,seqEpoch_at->II,kind_sorted->IP,recsOf->IS,lt_int->IT,isTrue_and->IY,setPending->G0m,seen->G0X
open Bool renaming false_ne_true->R5,and_eq_true->N9,false_eq_true->F9,eq_iff_iff->A3,true_and->K3,eq_false_iff->aH,and_false->cC,or_eq_true->fB,not_true->g4,false_and->iV,or_eq_false_iff->oB,and_true->pN,not_false->uB,false_bne->uH,or_false->uO
open PySem.SetTable renaming bits->S7,below->M5,runEnd->E6,turns->I0,sizeAbove->K8,Probe->V7,insertAt->X6,advance->a9,grown->dJ,toList_insertAt->e7,insertAt_perm->gK,slot->lV,has->mS,layClean->qX,fresh->uA,fits->u7,leap->v6,laid->v7,fill->v9,probeStart->IU,sameMemory->IV,gaveWay->G0G,tooFull->G0H
open PySem.PyData renaming depthAll->C4,canLay0->L7,canLayAll0->A0,depth->A1,eqv->Q0,eqvAll->U3,int->gU,shown->mQ,showable->m9,shownAll->nB,showableAll->pT,hasDictAll->qO,hasDict->tX
open Option renaming map_eq_some_iff->L5,map_eq_none_iff->X7,getD_some->dR,map_some->iF,isNone_iff_eq_none->kU,isSome_map->lJ,isSome_iff_exists->lK,getD_none->rF
open PySem.Heap.SameBut renaming update->L9,refl->cY,trans->G0o
open Option.some renaming inj->O0,injEq->V5
open PySem.PassesOwn renaming never->O8
open PySem.F renaming slot_dict_keyiterator_next->A4,args_dict_keyiterator_next_1->Z6,entry_dict_keyiterator_next->aF,slot_tuple_iterator_next->bG,args_tuple_add_2->eU,entry_tuple_add->fM,plainAttrs_list->fV,slot_tuple_add->f7,plain_list_iadd->gG,slot_tuple_hash->gL,slot_int_rmul->iD,args_tuple_iterator_next_1->iE,entry_tuple_iterator_next->iM,entry_proto_collect->nN,args_tuple_hash_1->pB,entry_tuple_hash->pY,args_int_rmul_2->qI,entry_list_iadd->qR,entry_int_rmul->rG,slot_dict_iter->rR,fills_int_mul->sE,slot_zip_next->sK,slot_zip_iter->sL,slot_set_iter->sP,slot_list_append->uU,type_list_append->uV,slot_list_insert->uW,type_list_insert->u0,slot_list_extend->w8,type_list_extend->xA,args_tuple_lt_2->xF,called_zip->xP,entry_tuple_lt->xR,args_list_lt_2->xS,slot_tuple_lt->xZ,entry_list_lt->x3,slot_list_lt->IJ
open PySem.Value renaming ref->A6,int->gQ,none->iQ,bool->iR,str->l8,isInt->nU,type->pP,isStrOf->uK,float->x5
open PySem.NameKind renaming free->E3,cell->V6
open PySem.Builtin.Slice renaming slicePlaces->E4,sliceAdjust->Y8,sliceApplied->bE,sliceFields->kQ,slicePartIndex->sC
open Ne renaming symm->E7
open PySem.SetTable.layClean renaming free->J0
open PySem.Builtin.Tuple renaming tupleExact->J1,tupleItemsOf->X0,tupleHashOf->Y9,tupleIsExact->i8,tupleTooMany->i9,tupleCompareSizes->rB
open Int renaming toNat_natCast->K2,toNat->cR,emod_nonneg->iG,fdiv_eq_ediv_of_nonneg->iW,fmod_eq_emod_of_nonneg->iY,emod_lt_of_pos->kM,toNat_of_nonneg->pE,lt_of_lt_of_le->pS,mul_comm->qM,natCast_emod->rS,pow_pos->rY,natCast_add->sJ,mul_nonneg->tV,ediv_one->xI,le_of_lt->xM,ne_of_gt->xY,le_refl->IA,mul_pos->IC,pow_add->IE
open PySem.Builtin.SmallTypes renaming nextOf->U8,stopIteration->bT,ownedTupleIsFree->pK
open Or renaming inl->V0,inr->Z0
open PySem.Str renaming ofString->W9,empty->xD
open PySem.SetTable.probe renaming go->Y0
open PySem.Obj renaming mapFields->Z8,mapSeq->aL
open PySem.Around renaming under_plainId->aB
open ForInStep renaming yield->aN
open PySem.SetTable.sizeAbove renaming go->bL
open Classical renaming byContradiction->bM,em->G05
open PyProof.Rows.LCg renaming lst->bS
open PySem.Builtin.List renaming listTooLong->bZ,listLengthHint->iN,listExtendWith->iO,listFitsIndex->i6,listSameRef->lW
open Function renaming comp_apply->cA,comp_def->c9
open PySem.pyHashByItsType renaming reduced->cH
open True renaming intro->cJ
open Sum renaming inr->dM,inl->k9
open PySem.SetTable.below renaming go->gF
open PySem.Walks renaming list->i7,tuple->sA
open Decidable renaming byContradiction->kZ
open List.Pairwise renaming nil->lG
open List.Perm renaming trans->nC,append->rN,cons_inv->G0n,cons->G0T,swap->G0V,nil->G04
namespace L2
open PySem PySem.Spec PyProof.Rows
abbrev Ą:=Sum P4 Str
noncomputable def Gx:Ą->G2->N0
 | .inl k,v=>nU k v
 | .inr x,v=>uK x v
noncomputable def Kc (w:B3):Ą->P4
 | .inl k=>G0q k
 | .inr x=>hashStr w x
def jS: ∀ {k:Ą} {v:G2},Gx k v=true->(∃i t,k=k9 i/\v=gQ i t)\/(∃x t,k=dM x/\v=l8 x t)
 | .inl i,v,h=>by
  obtain⟨t,e⟩:=Value.isInt_shape (k:=i) (v:=v) h;exact .inl ⟨i,t,rfl,e⟩
 | .inr x,v,h=>by
  obtain⟨t,e⟩:=Value.isStrOf_shape (x:=x) (v:=v) h;exact .inr ⟨x,t,rfl,e⟩
def PD (i:P4)(t:Tok):Gx (.inl i) (.int i t)=true:=by simp [Gx,nU]
def PF (x:Str)(t:Tok):Gx (.inr x) (.str x t)=true:=by simp [Gx,uK]
def On (a b:P4):decide ((k9 a:Ą)=k9 b)=(a==b):=by
 by_cases e:a=b
 ·subst e;simp
 ·have h: ¬ (k9 a:Ą)=k9 b:=λq=>e (Sum.inl.inj q)
  rw [B7 h];exact(beq_eq_false_iff_ne.mpr e).symm
def Oo (a b:Str):decide ((dM a:Ą)=dM b)=decide (a=b):=by
 by_cases e:a=b
 ·subst e;simp
 ·have h: ¬ (dM a:Ą)=dM b:=λq=>e (Sum.inr.inj q)
  rw [B7 h,B7 e]
def Op (a:P4)(b:Str):decide ((k9 a:Ą)=dM b)=false:=B7 (λq=>nomatch q)
def Oq (a:Str)(b:P4):decide ((dM a:Ą)=k9 b)=false:=B7 (λq=>nomatch q)
noncomputable def wI (prog:S6)(w:B3):PySem.KeyKind prog w Ą where
 is:=Gx
 hash:=Kc w
 inj:=λv a b ha hb=>by
  rcases jS ha with ⟨i,t,rfl,rfl⟩|⟨x,t,rfl,rfl⟩
  ·rcases jS hb with ⟨j,u,rfl,e⟩|⟨y,u,rfl,e⟩
   ·injection e with e1 _;rw [e1]
   ·exact nomatch e
  ·rcases jS hb with ⟨j,u,rfl,e⟩|⟨y,u,rfl,e⟩
   ·exact nomatch e
   ·injection e with e1 _;rw [e1]
 byValue:=λk v h=>by
  rcases jS h with ⟨i,t,rfl,rfl⟩|⟨x,t,rfl,rfl⟩<;>rfl
 pyHash:=λhv h=>by
  rcases jS hv with ⟨i,t,rfl,rfl⟩|⟨x,t,rfl,rfl⟩
  ·exact wpAny_pyHash_int h
  ·exact wpAny_pyHash_str h
 eqBool:=λhu hv h=>by
  rcases jS hu with ⟨i,t,rfl,rfl⟩|⟨x,t,rfl,rfl⟩
  ·rcases jS hv with ⟨j,u,rfl,rfl⟩|⟨y,u,rfl,rfl⟩
   ·rw [On] at h;exact wpAny_eqBool_int h
   ·rw [Op] at h;exact SeqAt.EqAt.int_str i t y u _ _ _ _ h
  ·rcases jS hv with ⟨j,u,rfl,rfl⟩|⟨y,u,rfl,rfl⟩
   ·rw [Oq] at h;exact SeqAt.EqAt.str_int x t j u _ _ _ _ h
   ·rw [Oo] at h;exact wpAny_eqBool_str h
 «strs» :=λk x t v h=>by
  rcases jS h with ⟨i,u,rfl,e⟩|⟨y,u,rfl,e⟩
  ·exact nomatch e
  ·injection e with e1 _
   subst e1;cases v<;>rfl
def Xb (prog:S6)(w:B3)(i:P4)(t:Tok):(wI prog w).is (.inl i) (.int i t)=true:=PD i t
def Xc (prog:S6)(w:B3)(x:Str)(t:Tok):(wI prog w).is (.inr x) (.str x t)=true:=PF x t
inductive V where
 |non|bl (b:N0)|int (i:P4)|str (x:Str)|byt (b:S5 UInt8)|flt (b:UInt64)|ref (a:P3)|ty (n:W1)
 deriving DecidableEq
def RelV:V->G2->Prop
 | .non,u=>u=iQ
 | .bl b,u=>u=iR b
 | .int i,u=> ∃t,u=gQ i t
 | .str x,u=> ∃t,u=l8 x t
 | .byt b,u=> ∃t,u=Value.bytes b t
 | .flt b,u=> ∃t,u=x5 b t
 | .ref a,u=>u=A6 a
 | .ty n,u=>u=pP n
abbrev Æ:G0 V->G0 G2->Prop:=Paired RelV
def Æ.length {xs:G0 V}{us:G0 G2}(r:Æ xs us):xs.length=us.length:=Paired.length r
theorem Æ.get: ∀ {xs:G0 V} {us:G0 G2} {i:G8} {x:V},Æ xs us->xs[i]? =some x-> ∃u,us[i]? =some u/\RelV x u
 |_,_,_,_,.nil,e=>by simp at e
 |_,_,0,_,.cons r _,e=>by simp at e;subst e;exact⟨_,rfl,r⟩
 |_,_,i+1,x,.cons _ t,e=>by
  obtain⟨u,h1,h2⟩:=Æ.get (i:=i) (x:=x) t (by simpa using e);exact⟨u,by simpa using h1,h2⟩
variable {u:G2}
theorem Æ.set {x:V}(r:RelV x u): ∀ {xs:G0 V} {us:G0 G2} (i:G8),Æ xs us->Æ (xs.set i x) (us.set i u)
 |_,_,_,.nil=> .nil
 |_,_,0,.cons _ t=> .cons r t
 |_,_,i+1,.cons q t=> .cons q (Æ.set r i t)
theorem Æ.append: ∀ {xs ys:G0 V} {us ws:G0 G2},Æ xs us->Æ ys ws->Æ (xs++ys) (us++ws)
 |_,_,_,_,.nil,s=>s
 |_,_,_,_,.cons r t,s=> .cons r (Æ.append t s)
theorem Æ.take: ∀ {xs:G0 V} {us:G0 G2} (n:G8),Æ xs us->Æ (xs.take n) (us.take n)
 |_,_,0,_=> .nil
 |_,_,_+1,.nil=> .nil
 |_,_,n+1,.cons r t=> .cons r (Æ.take n t)
theorem Æ.drop: ∀ {xs:G0 V} {us:G0 G2} (n:G8),Æ xs us->Æ (xs.drop n) (us.drop n)
 |_,_,0,r=>r
 |_,_,_+1,.nil=> .nil
 |_,_,n+1,.cons _ t=>Æ.drop n t
def Si:P9 V->P9 G2->Prop
 |some v,some u=>RelV v u
 |none,none=>True
 |_,_=>False
def KV {κ:Type}:G0 (κ×V)->G0 (κ×G2)->Prop:=Paired λ(p:κ×V) (q:κ×G2)=>p.1=q.1/\RelV p.2 q.2
noncomputable def kV:Ą->V
 | .inl i=> .int i
 | .inr x=> .str x
inductive HO where
 /-- a list -/
 |lst (xs:G0 V)
 /-- a tuple (never changes) -/
 |tup (xs:G0 V)
 /-- a dict X0K keys are ints and texts;one X0K keys are tuples of ints and texts (Ŝ empty one is both) -/
 |dK (Ï:G0 (Ą×V))|dT (Ï:G0 (G0 Ą×V))
 /-- a set of ints: its members,its size -/
 |set (S:P4->N0) (n:G8)
 /-- an instance of Ŝ class at C,its dict at dx,its attributes -/
 |ins (C dx:P3) (fs:G0 (Str×V))
 /-- Ŝ dict of Ŝ instance at x -/
 |own (x:P3)
 /-- Ŝ dict of an exception -/
 |xd (fs:G0 (Str×V))
 /-- a bound method,f of x -/
 |met (f x:P3)
 /-- a range object lo,lo+1,.. below hi -/
 |rng (lo hi:P4)
 /-- a X0o X1s is known to Ŝ object (Ŝ script;a dict while a loop walks it):read,never written while it is so -/
 |frz (o:Obj) (u:HO)
 /-- a code object's table -/
 |tbl (ps:S5 G2)
 /-- any other X0o,by μ is true of its one object (a def of one's own: SetO a S n:=HO.ext λh=> ..) -/
 |ext (φ:L8->Prop)
abbrev Hp:=P3->P9 HO
noncomputable def upd (H:Hp)(a:P3)(o:HO):Hp:=λb=>if b=a then some o else H b
variable {H:Hp}{a:P3}{o:HO}
def jt:upd H a o a=some o:=by unfold upd;rw [R6 rfl]
variable {b:P3}
def jq (h:b≠a):upd H a o b=H b:=by unfold upd;rw [R9 h]
def Gy {u:HO}(h:H a=some o)(h':H b=some u)(d:o≠u):a≠b:=by
 intro e;subst e;rw [h] at h';exact d (O0 h')
def ji (h:H a=some o)(h':H b=none):a≠b:=by
 intro e;subst e;rw [h] at h';cases h'
def ë (h:L8)(a:P3)(items:S5 G2):Prop:= ∃o,h.get? a=some o/\o.cls= .type "tuple" /\o.dict=none/\ ∃n,o.data= .seq items n
def ë.tup {h:L8}{a:P3}{items:S5 G2}(x:ë h a items):xB h a items:=let ⟨o,e,c,_,n,d⟩:=x;⟨o,e,c,n,d⟩
def ë.new (h:L8)(items:S5 G2):ë (h.push {cls:= .type "tuple",data:= .seq items}) h.objs.size items:=⟨_,R0 _ rfl,rfl,rfl,_,rfl⟩
section
variable (P:S6)(w:B3)
def Ñ (H:Hp)(h:L8)(a:P3):HO->Prop
 | .lst xs=>xs.length<=sizeLine/\ ∃ (its:G0 G2) (n:G8),Æ xs its/\h.get? a=some {cls:= .type "list",data:= .seq its.toArray n}
 | .tup xs=>xs.length<=sizeLine/\ ∃its:G0 G2,Æ xs its/\ë h a its.toArray
 | .dK Ï=>Ï.length<=sizeLine/\(a==W7)=false/\ ∃vs,KV Ï vs/\h.DictOf (wI P w) a vs
 | .dT Ï=>Ï.length<=sizeLine/\(a==W7)=false/\ ∃xs:G0 (G0 Ą×P3×G2),
  Paired (λ(p:G0 Ą×V) (q:G0 Ą×P3×G2)=>p.1=q.1/\H q.2.1=some (.tup (p.1.map kV))/\RelV p.2 q.2.2) Ï xs/\
  ∃o es ep,h.get? a=some o/\o.ExactDict/\o.data= .dict es ep/\es.toList=xs.map (IW (tupleKind (wI P w)))/\(xs.map (·.1)).Nodup
 | .set S n=>h.SetOf (intKind P w) a S n
 | .ins C dx fs=>H dx=some (.own a)/\fs.length<=1000/\dx≠a/\h.get? a=some (mY C dx)/\
  ∃mA,h.Ns1 dx mA/\(∀f,Si (fs.lookup f) (mA f))/\xG mA (fs.map (·.1))
 | .own _=> ∃o,h.get? a=some o
 | .xd fs=> ∃mA,h.Ns1 a mA/\ ∀f,Si (fs.lookup f) (mA f)
 | .rng lo hi=> ∃t u v,h.get? a=some {cls:= .type "range",data:= .fields #[.int lo t,.int hi u,.int 1 v]}
 | .frz o u=>h.get? a=some o/\Ñ H h a u
 | .tbl ps=>h.get? a=some {cls:= .none,data:= .fields ps}
 | .met f x=>h.get? a=some (lC (.ref f) (.ref x))
 | .ext φ=>φ h/\(∃o,h.get? a=some o)/\ ∀h1 h2:L8,φ h1->(∀o,h1.get? a=some o->h2.get? a=some o)->φ h2
def ď (H:Hp)(h:L8):Prop:= ∀a o,H a=some o->Ñ P w H h a o
end
section
variable {P:S6}{w:B3}{H H':Hp}{h h':L8}{a:P3}{o:HO}
def Ñ.lt (x:Ñ P w H h a o):a<h.objs.size:=by
 cases o with
 |lst xs=>obtain⟨_,_,_,_,e⟩:=x;exact D0 e
 |tup xs=>obtain⟨_,_,_,p⟩:=x;exact p.tup.lt
 |dK Ï=>obtain⟨_,_,_,_,o,_,_,e,_⟩:=x;exact D0 e
 |dT Ï=>obtain⟨_,_,_,_,o,_,_,e,_⟩:=x;exact D0 e
 |set S n=>obtain⟨o,_,_,_,e,_⟩:=x;exact D0 e
 |ins C dx fs=>obtain⟨_,_,_,e,_⟩:=x;exact D0 e
 |own y=>obtain⟨_,e⟩:=x;exact D0 e
 |xd fs=>obtain⟨_,⟨_,_,_,e,_⟩,_⟩:=x;exact D0 e
 |rng lo hi=>obtain⟨_,_,_,e⟩:=x;exact D0 e
 |frz ob u=>obtain⟨e,_⟩:=x;exact D0 e
 |tbl ps=>exact D0 (show h.get? a=some _ from x)
 |met f y=>exact D0 (show h.get? a=some _ from x)
 |ext φ=>obtain⟨_,⟨_,e⟩,_⟩:=x;exact D0 e
theorem Paired.mapP {α β:Type}{F G:α->β->Prop}: ∀ {l₁:G0 α} {l₂:G0 β},Paired F l₁ l₂->(∀a b,F a b->G a b)->Paired G l₁ l₂
 |_,_,.nil,_=> .nil
 |_,_,.cons r t,f=> .cons (f _ _ r) (Paired.mapP t f)
def Ñ.stay (x:Ñ P w H h a o)(k: ∀b u,(b=a\/H b=some (.own a))->h.get? b=some u->h'.get? b=some u)
 (ho: ∀b,H b=some (.own a)->H' b=some (.own a))(ht: ∀b xs,H b=some (.tup xs)->H' b=some (.tup xs)):Ñ P w H' h' a o:=by
 induction o with
 |lst xs=>obtain⟨z,its,n,r,e⟩:=x;exact⟨z,its,n,r,k _ _ (.inl rfl) e⟩
 |tup xs=>obtain⟨z,its,r,ob,e,c⟩:=x;exact⟨z,its,r,ob,k _ _ (.inl rfl) e,c⟩
 |dK Ï=>obtain⟨z,y,vs,r,ob,es,ep,e,c⟩:=x;exact⟨z,y,vs,r,ob,es,ep,k _ _ (.inl rfl) e,c⟩
 |dT Ï=>
  obtain⟨z,y,xs,r,ob,es,ep,e,c⟩:=x;exact⟨z,y,xs,Paired.mapP r λp q z=>⟨z.1,ht _ _ z.2.1,z.2.2⟩,ob,es,ep,k _ _ (.inl rfl) e,c⟩
 |set S n=>obtain⟨ob,es,ep,t,e,c⟩:=x;exact⟨ob,es,ep,t,k _ _ (.inl rfl) e,c⟩
 |ins C dx fs=>
  obtain⟨d,z,ne,e,mA,⟨od,es,ep,e2,c⟩,r⟩:=x;exact⟨ho _ d,z,ne,k _ _ (.inl rfl) e,mA,⟨od,es,ep,k _ _ (.inr d) e2,c⟩,r⟩
 |own y=>obtain⟨ob,e⟩:=x;exact⟨ob,k _ _ (.inl rfl) e⟩
 |xd fs=>obtain⟨mA,⟨od,es,ep,e,c⟩,r⟩:=x;exact⟨mA,⟨od,es,ep,k _ _ (.inl rfl) e,c⟩,r⟩
 |rng lo hi=>obtain⟨t,u,v,e⟩:=x;exact⟨t,u,v,k _ _ (.inl rfl) e⟩
 |frz ob u ih=>obtain⟨e,q⟩:=x;exact⟨k _ _ (.inl rfl) e,ih q⟩
 |tbl ps=>
  have e:h.get? a=some {cls:= .none,data:= .fields ps}:=x;show h'.get? a=some {cls:= .none,data:= .fields ps};exact k a _ (.inl rfl) e
 |met f y=>
  have e:h.get? a=some (lC (.ref f) (.ref y)):=x;show h'.get? a=some (lC (.ref f) (.ref y));exact k a _ (.inl rfl) e
 |ext φ=>obtain⟨p,⟨o,e⟩,st⟩:=x;exact⟨st _ _ p λo q=>k _ _ (.inl rfl) q,⟨o,k _ _ (.inl rfl) e⟩,st⟩
def ď.lt (x:ď P w H h)(e:H a=some o):a<h.objs.size:=(x a o e).lt
def ď.fresh (x:ď P w H h)(e:h.objs.size<=a):H a=none:=by
 cases q:H a with
 |none=>rfl
 |some u=>exact absurd (N5 (x.lt q) e) (C1 _)
def ď.kept (x:ď P w H h)(k: ∀b u,h.get? b=some u->h'.get? b=some u):ď P w H h':=λa o e=>
 (x a o e).stay (λb u _ q=>k b u q) (λ_ q=>q) λ_ _ q=>q
def ď.laid (x:ď P w H h)(k: ∀b u,h.get? b=some u->h'.get? b=some u)(hp:h.objs.size<=a)(new:Ñ P w (upd H a o) h' a o):ď P w (upd H a o) h':=λb u e=>by
 have hn:=x.fresh hp
 by_cases hb:b=a
 ·subst hb;rw [jt] at e;cases e;exact new
 ·rw [jq hb] at e;exact(x b u e).stay (λc v _ q=>k c v q) (λc q=>by rw [jq (ji q hn)];exact q) λc xs q=>by rw [jq (ji q hn)];exact q
end
def Rd (H:Hp)(a:P3)(u:HO):Prop:=H a=some u\/ ∃o,H a=some (.frz o u)
variable {P:S6}{w:B3}{h:L8}
def Rd.ok {u:HO}(r:Rd H a u)(x:ď P w H h):Ñ P w H h a u:=by
 rcases r with r|⟨o,r⟩
 ·exact x a u r
 ·obtain⟨_,q⟩:=x a _ r;exact q
def Mut:P9 HO->Prop
 |some (.lst _)=>True
 |some (.dK _)=>True
 |some (.dT _)=>True
 |some (.set _ _)=>True
 |some (.ins _ _ _)=>True
 |some (.ext _)=>True
 |_=>False
section
variable {P:S6}{w:B3}{H:Hp}{h h':L8}{x e:P3}{o':HO}
def ď.write (ok:ď P w H h)(mu:Mut (H x))(he:e=x\/H e=some (.own x))(k: ∀b u,b≠e->h.get? b=some u->h'.get? b=some u)(heo: ∃u,h'.get? e=some u)
 (new:Ñ P w (upd H x o') h' x o'):ď P w (upd H x o') h':=λb u q=>by
 have X1g: ∀c y,H c=some (.own y)->c≠x:=λc y r z=>by subst z;rw [r] at mu;exact mu
 have X1t: ∀c xs,H c=some (.tup xs)->c≠x:=λc xs r z=>by subst z;rw [r] at mu;exact mu
 by_cases hb:b=x
 ·subst hb;rw [jt] at q;cases q;exact new
 ·rw [jq hb] at q
  by_cases hbe:b=e
  ·have q':H b=some (.own x):=by
    rcases he with z|z
    ·exact absurd (hbe.trans z) hb
    ·rw [hbe];exact z
   rw [q] at q';cases q';obtain⟨v,hv⟩:=heo;exact⟨v,by rw [hbe];exact hv⟩
  ·refine(ok b u q).stay (λc v hc r=>k c v ?_ r) (λc r=>by rw [jq (X1g c b r)];exact r) λc xs r=>by rw [jq (X1t c xs r)];exact r
   rcases hc with rfl|hc
   ·exact hbe
   ·rintro rfl;rcases he with z|z
    ·exact X1g c b hc z
    ·rw [hc] at z;cases z;exact hb rfl
end
structure Un (fs ex:G0 P3)(H H':Hp)(h h':L8):Prop where
 keep: ∀b o,h.get? b=some o->H b=none->b ∉ fs->b ∉ ex->h'.get? b=some o
 slot: ∀b o,h.get? b=some o->H b=none->b∈fs->b ∉ ex-> ∃sl,h'.get? b=some {o with slots:=sl}
 free: ∀b o,h.get? b=some o->H b=none->b ∉ ex->H' b=none
 there: ∀b o,h.get? b=some o->b ∉ ex-> ∃o',h'.get? b=some o'
 tups: ∀b xs,H b=some (.tup xs)->H' b=some (.tup xs)
 frzs: ∀b o u,H b=some (.frz o u)->H' b=some (.frz o u)
 tbls: ∀b ps,H b=some (.tbl ps)-> ∃more,H' b=some (.tbl (ps++more))
section
variable {fs fs' ex ex':G0 P3}{H H1 H2:Hp}{h h1 h2 h':L8}{a x e:P3}{o:HO}
def Un.any (u:Un fs ex H H1 h h1){b:P3}{ob:Obj}(q:h.get? b=some ob)(n:H b=none)(hx:b ∉ ex): ∃sl,h1.get? b=some {ob with slots:=sl}:=by
 by_cases hb:b∈fs
 ·exact u.slot b ob q n hb hx
 ·exact⟨ob.slots,u.keep b ob q n hb hx⟩
def Un.kept (k: ∀b u,h.get? b=some u->h'.get? b=some u):Un fs ex H H h h':=
 ⟨λb ob q _ _ _=>k b ob q,λb ob q _ _ _=>⟨ob.slots,k b ob q⟩,λ_ _ _ n _=>n,λb ob q _=>⟨ob,k b ob q⟩,λ_ _ q=>q,λ_ _ _ q=>q,λ_ ps q=>⟨#[],by rw [q];simp⟩⟩
def Un.refl:Un fs ex H H h h:=Un.kept λ_ _ q=>q
def Un.laid (k: ∀b u,h.get? b=some u->h'.get? b=some u)(hp:h.objs.size<=a)(hn:H a=none):Un fs ex H (upd H a o) h h' where
 keep:=λb u q _ _ _=>k b u q
 slot:=λb u q _ _ _=>⟨u.slots,k b u q⟩
 free:=λb u q n _=>by rw [jq (S8 (N5 (D0 q) hp))];exact n
 there:=λb u q _=>⟨u,k b u q⟩
 tups:=λb xs q=>by rw [jq (ji q hn)];exact q
 frzs:=λb u xs q=>by rw [jq (ji q hn)];exact q
 tbls:=λb ps q=>⟨#[],by rw [jq (ji q hn),q];simp⟩
def Un.write (mu:Mut (H x))(he:e=x\/H e=some (.own x))(k: ∀b u,b≠e->h.get? b=some u->h'.get? b=some u)(heo: ∃u,h'.get? e=some u):Un fs ex H (upd H x o) h h':=by
 have hx: ∀b,H b=none->b≠x:=λb n z=>by subst z;rw [n] at mu;exact mu
 have hb: ∀b,H b=none->b≠e:=λb n z=>by
  subst z;rcases he with r|r
  ·exact hx b n r
  ·rw [n] at r;cases r
 have hm: ∀b u,H b=some u-> ¬Mut (some u)->b≠x:=λb u q nm z=>by subst z;rw [q] at mu;exact nm mu
 refine⟨λb u q n _ _=>k b u (hb b n) q,λb u q n _ _=>⟨u.slots,k b u (hb b n) q⟩,λb u q n _=>by rw [jq (hx b n)];exact n,λb u q _=> ?_,
  λb xs q=>by rw [jq (hm b _ q λz=>z)];exact q,λb u xs q=>by rw [jq (hm b _ q λz=>z)];exact q,λb ps q=>⟨#[],by rw [jq (hm b _ q λz=>z),q];simp⟩⟩
 by_cases hbe:b=e
 ·subst hbe;exact heo
 ·exact⟨u,k b u hbe q⟩
end
noncomputable def trk (h:L8)(H:Hp):G0 P3:=(D6 h.objs.size).filter λa=>(H a).isSome
noncomputable def MR (h:L8)(H:Hp):L8:=G0J h (trk h H)
def PH (h:L8)(H:Hp):(MR h H).objs.size=h.objs.size:=x8 _ _
def YC {o:Obj}(e:h.get? b=some o)(n:H b=none):(MR h H).get? b=some o:=
 IR _ e λhm=>by
  have q:(H b).isSome=true:=(U1.mp hm).2;rw [n] at q;simp at q
def CC {o:Obj}(e:(MR h H).get? b=some o):h.get? b=some o/\H b=none:=by
 have e':h.get? b=some o:=IX (trk h H) e;refine⟨e',?_⟩;cases q:H b with
 |none=>rfl
 |some x=>
  have hm:b∈trk h H:=U1.mpr ⟨S4.mpr (D0 e'),by simp [q]⟩;have z:(MR h H).get? b=none:=y3 (trk h H) hm;rw [z] at e;cases e
noncomputable def CF (g h:L8)(L:P3):G0 (P3×Obj):=(D6 h.objs.size).filterMap λa=>if a=L\/(g.get? a).isSome=true then none else (h.get? a).map λo=>(a,o)
noncomputable def rest (g h:L8)(L d:P3):G0 (P3×Obj):=(CF g h L).filter λp=>decide (p.1≠d)
structure Mod (K:G7)(mg:Str->P9 G2)(base:L8):Prop where
 kin:K.In base
 glob:base.Ns K5 mg
 blt: ∃mb,base.Ns mI mb/\ ∀x:Str,x≠ "__name__" ->mb x=V8 x
 nolimit:base.NoLimit
structure Cx where
 prog:S6
 w:B3
 K:G7
 mg:Str->P9 G2
 base:L8
 A:N4
 N:G0 Str
 s₀:G3
 H₀:Hp
 env:Env
 outer:G0 Env
 stack:G0 Env
 ex:G0 P3
 fn:Str->N0
 calm:N0
 pn:G0 (P3×Obj)
 xe:G2->G3->Prop
noncomputable def Ι (l:G0 Env):G0 P3:=l.filterMap (·.frame)
noncomputable abbrev Cx.fs (X:Cx):G0 P3:=Ι X.outer
def Vis (sc:Y5)(x:Str):Prop:=sc.names.lookup x=some .local\/sc.names.lookup x=some .cell\/sc.names.lookup x=some .free
def Loc (sc:Y5)(x:Str):Prop:=sc.names.lookup x=some .local\/sc.names.lookup x=some .cell
def Kd (env:Env)(h:L8)(m:Str->P9 G2)(x:Str)(u:G2):Prop:=
 (env.kindOf x=some .local/\m x=some u)\/((env.kindOf x=some .cell\/env.kindOf x=some .free)/\ ∃c,env.cells.lookup x=some c/\h.IsCell c (some u))
structure Cx.Ok (X:Cx):Prop where
 mod:Mod X.K X.mg X.base
 kind:X.env.scope.kind= .function
 glob:X.env.globals=K5
 blt:X.env.builtins=mI
 above:X.s₀.heap.objs.size<=X.env.locals
 inj: ∀x y c,X.env.cells.lookup x=some c->X.env.cells.lookup y=some c->x=y
 has: ∀x,(X.env.kindOf x=some .cell\/X.env.kindOf x=some .free)-> ∃c,X.env.cells.lookup x=some c
 cab: ∀x c,X.fn x=true->X.env.cells.lookup x=some c->X.s₀.heap.objs.size<=c
 hd:X.calm=true->X.A.handled=none
 frames:X.A.frames=some X.stack
 stk:X.stack=X.outer\/(X.stack=X.env::X.outer/\X.env.frame=some X.env.locals)
 exf: ∀b∈X.ex,b≠X.env.locals/\ ∀x c,X.env.cells.lookup x=some c->c≠b
 bs: ∀b o,X.base.get? b=some o->X.s₀.heap.get? b=some o/\X.H₀ b=none
 bsz:X.base.objs.size<=X.s₀.heap.objs.size
 noex: ∀b o,X.base.get? b=some o->b ∉ X.ex
 exfs: ∀b∈X.ex,b ∉ X.fs
 funs:X.s₀.heap.FunFrames X.base X.outer
 frf: ∀b∈X.fs,X.H₀ b=none
structure Inv (X:Cx)(À:G0 (P3×Obj))(σ:G0 (P9 V))(H:Hp)(s:G3):Prop where
 ok:X.Ok
 os:s.os=X.s₀.os
 bare:lD s.gens
 base:Un X.fs X.ex X.H₀ H X.s₀.heap s.heap
 loc: ∃m,s.heap.Ns X.env.locals m/\ ∀ (i:G8) (x:Str) (v:V),X.N[i]? =some x->σ[i]? =some (some v)->Vis X.env.scope x-> ∃u,RelV v u/\Kd X.env s.heap m x u
 cell: ∀x c,X.env.cells.lookup x=some c-> ∃v,s.heap.IsCell c v
 free:H X.env.locals=none
 freeC: ∀x c,X.env.cells.lookup x=some c->H c=none
 pin: ∀p∈X.pn++À,s.heap.get? p.1=some p.2/\H p.1=none/\p.1≠X.env.locals/\p.1 ∉ X.fs/\ ∀v,p.2.data≠ .cell v
 hok:ď X.prog X.w H s.heap
 len:σ.length=X.N.length
section
variable {X:Cx}{À:G0 (P3×Obj)}{σ:G0 (P9 V)}{H H':Hp}{s:G3}{h':L8}
def Cx.Ok.nofr (ok:X.Ok){b:P3}{o:Obj}(e:X.base.get? b=some o):b ∉ X.fs:=λhb=>by
 have:=(ok.funs.mem hb).1;rw [e] at this;cases this
def Inv.bs (I:Inv X À σ H s): ∀b o,X.base.get? b=some o->s.heap.get? b=some o/\H b=none:=λb o e=>
 ⟨I.base.keep b o (I.ok.bs b o e).1 (I.ok.bs b o e).2 (I.ok.nofr e) (I.ok.noex b o e),I.base.free b o (I.ok.bs b o e).1 (I.ok.bs b o e).2 (I.ok.noex b o e)⟩
def Inv.bk (I:Inv X À σ H s): ∀b o,X.base.get? b=some o->s.heap.get? b=some o:=λb o e=>(I.bs b o e).1
def Inv.mod (I:Inv X À σ H s):Mod X.K X.mg X.base:=I.ok.mod
def Inv.kIn (I:Inv X À σ H s):X.K.In s.heap:=I.ok.mod.kin.keeps I.bk
def Inv.lt (I:Inv X À σ H s):X.env.locals<s.heap.objs.size:=let ⟨_,hn,_⟩:=I.loc;hn.lt
def Inv.sz (I:Inv X À σ H s):X.s₀.heap.objs.size<=s.heap.objs.size:=R1 I.ok.above (T8 I.lt)
def Inv.nofs (I:Inv X À σ H s){a:P3}(h:s.heap.objs.size<=a):a ∉ X.fs:=λhb=>by
 obtain⟨_,o,ho,_⟩:=I.ok.funs.mem hb;exact absurd (N5 (D0 ho) (R1 I.sz h)) (C1 _)
def Inv.cne (I:Inv X À σ H s): ∀x c,X.env.cells.lookup x=some c->c≠X.env.locals:=λx c e z=>by
 obtain⟨v,o,ho,hd⟩:=I.cell x c e;obtain⟨m,⟨o',es,ep,ho',hd',_⟩,_⟩:=I.loc;rw [z,ho'] at ho;cases ho;rw [hd'] at hd;cases hd
def Inv.funs (I:Inv X À σ H s):s.heap.FunFrames X.base X.outer:=by
 have all: ∀ (l:G0 Env),(∀b∈Ι l,b∈X.fs)->X.s₀.heap.FunFrames X.base l->s.heap.FunFrames X.base l:=by
  intro l
  induction l with
  |nil=>intro _ _;trivial
  |cons env r ih=>
   intro hs hl;obtain⟨hk,⟨L,o,hf,hn,ho,hd⟩,hr⟩:=hl;have hL:L∈X.fs:=hs L (by unfold Ι;rw [dY,hf];exact D3);obtain⟨sl,e⟩:=I.base.slot L o ho (I.ok.frf L hL) hL λz=>I.ok.exfs L z hL
   exact⟨hk,⟨L,_,hf,hn,e,hd⟩,ih (λb hb=>hs b (by unfold Ι;rw [dY,hf];exact S1 _ hb)) hr⟩
 exact all X.outer (λ_ hb=>hb) I.ok.funs
def Inv.stack (I:Inv X À σ H s):s.heap.FunFrames X.base X.stack:=by
 rcases I.ok.stk with e|⟨e,hf⟩
 ·rw [e];exact I.funs
 ·rw [e];obtain⟨m,hn,_⟩:=I.loc;refine .cons (by rw [I.ok.kind];decide) hf hn ?_ I.funs;exact Heap.get?_none_of_le (R1 I.ok.bsz I.ok.above)
def Inv.stkSub (I:Inv X À σ H s): ∀b∈Ι X.stack,b∈X.env.locals::X.fs:=λb hb=>by
 rcases I.ok.stk with e|⟨e,hf⟩
 ·rw [e] at hb;exact S1 _ hb
 ·rw [e] at hb;unfold Ι at hb;rw [dY,hf] at hb;exact hb
def Inv.stkFree (I:Inv X À σ H s): ∀b∈Ι X.stack,H b=none:=λb hb=>by
 rcases S0.mp (I.stkSub b hb) with e|hb
 ·rw [e];exact I.free
 ·obtain⟨_,o,ho,_⟩:=I.ok.funs.mem hb;exact I.base.free b o ho (I.ok.frf b hb) λz=>I.ok.exfs b z hb
variable {t':G8}
def Inv.step {g':S5 GenState}{d':Drawn}{ch:G0 P3}(I:Inv X À σ H s)
 (hch: ∀b∈ch,(b∈X.ex\/X.s₀.heap.objs.size<=b)/\b≠X.env.locals/\(∀x c,X.env.cells.lookup x=some c->c≠b)/\ ∀p∈X.pn++À,p.1≠b)
 (keep: ∀b o,b≠X.env.locals->b ∉ X.fs->b ∉ ch->s.heap.get? b=some o->H b=none->h'.get? b=some o)
 (slot: ∀b o,b≠X.env.locals->b∈X.fs->b ∉ ch->s.heap.get? b=some o->H b=none-> ∃sl,h'.get? b=some {o with slots:=sl})(free: ∀b o,b ∉ ch->s.heap.get? b=some o->H b=none->H' b=none)
 (there: ∀b o,b ∉ ch->s.heap.get? b=some o-> ∃o',h'.get? b=some o')
 (tups: ∀b xs,H b=some (.tup xs)->H' b=some (.tup xs))(frzs: ∀b o u,H b=some (.frz o u)->H' b=some (.frz o u))(tbls: ∀b ps,H b=some (.tbl ps)-> ∃more,H' b=some (.tbl (ps++more)))
 (ns: ∀m,s.heap.Ns X.env.locals m->h'.Ns X.env.locals m)(hok:ď X.prog X.w H' h')(hg:lD g'):
 Inv X À σ H' {s with heap:=h',gens:=g',drawn:=d',toks:=t'}:=by
 have neL: ∀b o,X.s₀.heap.get? b=some o->b≠X.env.locals:=λb o e=>S8 (N5 (D0 e) I.ok.above)
 have Χ: ∀b o,X.s₀.heap.get? b=some o->b ∉ X.ex->b ∉ ch:=λb o e hx hb=>by
  rcases (hch b hb).1 with z|z
  ·exact hx z
  ·exact absurd (N5 (D0 e) z) (C1 _)
 have cellK: ∀x c,X.env.cells.lookup x=some c-> ∀v,s.heap.IsCell c v->h'.IsCell c v:=λx c e v ⟨o,ho,hd⟩=>by
  have nch:c ∉ ch:=λz=>(hch c z).2.2.1 x c e rfl
  by_cases hc:c∈X.fs
  ·obtain⟨sl,q⟩:=slot c o (I.cne x c e) hc nch ho (I.freeC x c e);exact⟨_,q,hd⟩
  ·exact⟨o,keep c o (I.cne x c e) hc nch ho (I.freeC x c e),hd⟩
 refine⟨I.ok,I.os,hg,⟨λb o e n hb hx=> ?_,λb o e n hb hx=> ?_,λb o e n hx=> ?_,λb o e hx=> ?_,λb xs e=>tups b xs (I.base.tups b xs e),λb o xs e=>frzs b o xs (I.base.frzs b o xs e),λb ps e=> ?_⟩,?_,λx c e=> ?_,?_,λx c e=> ?_,λp hp=> ?_,hok,I.len⟩
 ·exact keep b o (neL b o e) hb (Χ b o e hx) (I.base.keep b o e n hb hx) (I.base.free b o e n hx)
 ·obtain⟨sl,e1⟩:=I.base.slot b o e n hb hx;obtain⟨ţ,e2⟩:=slot b _ (neL b o e) hb (Χ b o e hx) e1 (I.base.free b o e n hx);exact⟨ţ,e2⟩
 ·obtain⟨o',e1⟩:=I.base.there b o e hx;exact free b o' (Χ b o e hx) e1 (I.base.free b o e n hx)
 ·obtain⟨o',e1⟩:=I.base.there b o e hx;exact there b o' (Χ b o e hx) e1
 ·obtain⟨m1,e1⟩:=I.base.tbls b ps e;obtain⟨m2,e2⟩:=tbls b _ e1;exact⟨m1++m2,by rw [e2,Array.append_assoc]⟩
 ·obtain⟨m,hn,hl⟩:=I.loc;refine⟨m,ns m hn,λi x v e1 e2 e3=> ?_⟩;obtain⟨u,r,l⟩:=hl i x v e1 e2 e3;refine⟨u,r,?_⟩;rcases l with l|⟨k,c,e,z⟩
  ·exact .inl l
  ·exact .inr ⟨k,c,e,cellK x c e _ z⟩
 ·obtain⟨v,z⟩:=I.cell x c e;exact⟨v,cellK x c e v z⟩
 ·obtain⟨m,⟨o,_,_,ho,_⟩,_⟩:=I.loc;exact free _ o (λz=>(hch _ z).2.1 rfl) ho I.free
 ·obtain⟨v,o,ho,hd⟩:=I.cell x c e;exact free c o (λz=>(hch c z).2.2.1 x c e rfl) ho (I.freeC x c e)
 ·obtain⟨e,n,ne,nf,d⟩:=I.pin p hp;have nch:p.1 ∉ ch:=λz=>(hch p.1 z).2.2.2 p hp rfl
  exact⟨keep p.1 p.2 ne nf nch e n,free p.1 p.2 nch e n,ne,nf,d⟩
def Inv.un (I:Inv X À σ H s)(u:Un X.fs [] H H' s.heap h')(hok:ď X.prog X.w H' h'):Inv X À σ H' {s with heap:=h',toks:=t'}:=by
 obtain⟨m,⟨o,es,ep,ho,r⟩,_⟩:=id I.loc;obtain⟨sl,hL⟩:=u.any ho I.free (by simp);exact I.step (g':=s.gens) (d':=s.drawn) (ch:= []) (λ_ z=>nomatch z) (λb o _ hb _ e n=>u.keep b o e n hb (by simp)) (λb o _ hb _ e n=>u.slot b o e n hb (by simp)) (λb o _ e n=>u.free b o e n (by simp)) (λb o _ e=>u.there b o e (by simp)) u.tups u.frzs u.tbls (λm' hm=>by
  obtain⟨o',Ö,é,ho',r'⟩:=hm;rw [ho] at ho';cases ho';exact⟨_,Ö,é,hL,r'⟩) hok I.bare
def Inv.call {g':S5 GenState}{d':Drawn}{ch:G0 P3}(I:Inv X À σ H s)(u:Un (Ι X.stack) ch H H' s.heap h')(hok:ď X.prog X.w H' h')(hg:lD g')
 (hch: ∀b∈ch,(b∈X.ex\/X.s₀.heap.objs.size<=b)/\b≠X.env.locals/\(∀x c,X.env.cells.lookup x=some c->c≠b)/\ ∀p∈X.pn++À,p.1≠b):
 Inv X À σ H' {s with heap:=h',gens:=g',drawn:=d',toks:=t'}:=by
 obtain⟨m,⟨o,es,ep,ho,r⟩,_⟩:=id I.loc;obtain⟨sl,hL⟩:=u.any ho I.free λz=>(hch _ z).2.1 rfl
 exact I.step (ch:=ch) hch (λb o hL hb hc e n=>u.keep b o e n (λz=>(S0.mp (I.stkSub b z)).elim hL hb) hc) (λb o _ _ hc e n=>u.any e n hc) (λb o hc e n=>u.free b o e n hc) (λb o hc e=>u.there b o e hc) u.tups u.frzs u.tbls (λm' hm=>by
  obtain⟨o',Ö,é,ho',r'⟩:=hm;rw [ho] at ho';cases ho';exact⟨_,Ö,é,hL,r'⟩) hok hg
def Inv.turned {it:P3}(I:Inv X À σ H s)(k: ∀b o,b≠it->s.heap.get? b=some o->h'.get? b=some o)(hn:H it=none)(hL:it≠X.env.locals)
 (h1:it∈X.ex\/X.s₀.heap.objs.size<=it)(h2: ∀x c,X.env.cells.lookup x=some c->c≠it)(h3: ∀p∈X.pn++À,p.1≠it):Inv X À σ H {s with heap:=h',toks:=t'}:=by
 have nit: ∀b u,H b=some u->b≠it:=λb u e z=>by rw [z,hn] at e;cases e
 refine I.step (g':=s.gens) (d':=s.drawn) (ch:= [it]) (λb hb=> ?_) (λb o _ _ hc e _=>k b o (λz=>hc (by simp [z])) e) (λb o _ _ hc e _=>⟨o.slots,k b o (λz=>hc (by simp [z])) e⟩) (λ_ _ _ _ n=>n)
  (λb o hc e=>⟨o,k b o (λz=>hc (by simp [z])) e⟩) (λ_ _ e=>e) (λ_ _ _ e=>e) (λb ps e=>⟨#[],by rw [e];simp⟩) (λm hm=> ?_) (λb u e=> ?_) I.bare
 ·have e:b=it:=by simpa using hb
  subst e;exact⟨h1,hL,h2,h3⟩
 ·obtain⟨o,es,ep,ho,r⟩:=hm;exact⟨o,es,ep,k _ o (E7 hL) ho,r⟩
 ·refine(I.hok b u e).stay (λc v hc q=>k c v ?_ q) (λ_ q=>q) λ_ _ q=>q
  rcases hc with z|z
  ·rw [z];exact nit b u e
  ·exact nit c _ z
def Inv.tok (I:Inv X À σ H s)(t:G8):Inv X À σ H {s with toks:=t}:=I.un (h':=s.heap) (t':=t) Un.refl I.hok
def Inv.kept (I:Inv X À σ H s)(k: ∀b u,s.heap.get? b=some u->h'.get? b=some u):Inv X À σ H {s with heap:=h',toks:=t'}:=I.un (Un.kept k) (I.hok.kept k)
def Inv.laid {a:P3}{o:HO}(I:Inv X À σ H s)(k: ∀b u,s.heap.get? b=some u->h'.get? b=some u)(hp:s.heap.objs.size<=a)(new:Ñ X.prog X.w (upd H a o) h' a o):
 Inv X À σ (upd H a o) {s with heap:=h',toks:=t'}:=I.un (Un.laid k hp (I.hok.fresh hp)) (I.hok.laid k hp new)
def Inv.write {x e:P3}{o:HO}(I:Inv X À σ H s)(mu:Mut (H x))(he:e=x\/H e=some (.own x))(k: ∀b u,b≠e->s.heap.get? b=some u->h'.get? b=some u)(heo: ∃u,h'.get? e=some u)
 (new:Ñ X.prog X.w (upd H x o) h' x o):Inv X À σ (upd H x o) {s with heap:=h',toks:=t'}:=I.un (Un.write mu he k heo) (I.hok.write mu he k heo new)
def Inv.weak {Â:G0 (P9 V)}(I:Inv X À σ H s)(hl:Â.length=σ.length)(w: ∀ (i:G8) v,Â[i]? =some (some v)->σ[i]? =some (some v)):Inv X À Â H s:=
 ⟨I.ok,I.os,I.bare,I.base,let ⟨m,hn,hl'⟩:=I.loc;⟨m,hn,λi x v e1 e2 e3=>hl' i x v e1 (w i v e2) e3⟩,I.cell,I.free,I.freeC,I.pin,I.hok,hl.trans I.len⟩
def Inv.pins_of {X0p:G0 (P3×Obj)}(I:Inv X À σ H s)(h: ∀p∈X0p,s.heap.get? p.1=some p.2/\H p.1=none/\p.1≠X.env.locals/\p.1 ∉ X.fs/\ ∀v,p.2.data≠ .cell v):Inv X X0p σ H s:=
 ⟨I.ok,I.os,I.bare,I.base,I.loc,I.cell,I.free,I.freeC,λp hp=>(D1.mp hp).elim (λz=>I.pin p (B8 _ z)) (h p),I.hok,I.len⟩
def Qq {N:G0 Str}(hN:N.Nodup){i j:G8}{x:Str}(a:N[i]? =some x)(b:N[j]? =some x):i=j:=by
 obtain⟨h1,e1⟩:=P5.mp a;obtain⟨h2,e2⟩:=P5.mp b;exact(List.getElem_inj hN).mp (e1.trans e2.symm)
def PJ {M:qA}{A:N4}{E:G2->G3->Prop}{i:G8}{x:Str}{v:V}{u:G2}{Q:Unit->G3->Prop}(I:Inv X À σ H s)(hN:X.N.Nodup)(hi:X.N[i]? =some x)(hx:Loc X.env.scope x)(r:RelV v u)
 (h: ∀s',Inv X À (σ.set i (some v)) H s'->(∃a,O9 a s.heap s'.heap/\(a=X.env.locals\/X.env.cells.lookup x=some a))->Q () s')(hf:X.fn x=true\/X.env.scope.names.lookup x=some .local:=by first|exact .inl rfl|exact .inr rfl|assumption):D8 M A (storeName X.env x u) Q E s:=by
 obtain⟨m,hn,hl⟩:=id I.loc;have X1u:(X.env.scope.kind== .class||(X.env.scope.kind== .module&&X.env.locals !=X.env.globals))=false:=by rw [I.ok.kind];rfl
 have X1h:i<σ.length:=by rw [I.len];exact(P5.mp hi).1
 have cne:=I.cne;have tracked: ∀ {a:P3} {h':L8},(∃o,s.heap.get? a=some o/\H a=none)->O9 a s.heap h'->ď X.prog X.w H h':=λ{a h'} ha hs b ob e=>by
  obtain⟨_,_,X0q⟩:=ha;refine(I.hok b ob e).stay (λc w' hc q=>(hs.2 c ?_).trans q) (λ_ q=>q) λ_ _ q=>q
  rintro rfl;rcases hc with rfl|hc
  ·rw [X0q] at e;cases e
  ·rw [X0q] at hc;cases hc
 rcases hx with hk|hk
 ·refine wpAny_storeName_local hk hn (λh' hn' hs=> ?_) X1u;obtain⟨oL,_,_,hoL,_⟩:=id hn;refine h _ ⟨I.ok,I.os,I.bare,⟨λb o e n hb hx=> ?_,λb o e n hb hx=> ?_,I.base.free,λb o e hx=> ?_,I.base.tups,I.base.frzs,I.base.tbls⟩,⟨_,hn',λj y v' e1 e2 e3=> ?_⟩,λy c e=> ?_,I.free,I.freeC,λp hp=> ?_,tracked ⟨oL,hoL,I.free⟩ hs,by simpa using I.len⟩ ⟨_,hs,.inl rfl⟩
  ·exact(hs.2 b (S8 (N5 (D0 e) I.ok.above))).trans (I.base.keep b o e n hb hx)
  ·obtain⟨sl,e1⟩:=I.base.slot b o e n hb hx;exact⟨sl,(hs.2 b (S8 (N5 (D0 e) I.ok.above))).trans e1⟩
  ·obtain⟨o',e1⟩:=I.base.there b o e hx;exact⟨o',(hs.2 b (S8 (N5 (D0 e) I.ok.above))).trans e1⟩
  ·by_cases hj:j=i
   ·subst hj;rw [hi] at e1;cases e1;rw [f6 X1h] at e2;cases e2;exact⟨u,r,.inl ⟨hk,by simp⟩⟩
   ·rw [Q7 (E7 hj)] at e2;obtain⟨u',r',q⟩:=hl j y v' e1 e2 e3;refine⟨u',r',?_⟩;rcases q with ⟨k,e⟩|⟨k,c,e,z⟩
    ·refine .inl ⟨k,?_⟩;have:y≠x:=λe=>hj (Qq hN e1 (e ▸ hi))
     simp [this,e]
    ·exact .inr ⟨k,c,e,z.sameBut hs (cne y c e)⟩
  ·obtain⟨w',z⟩:=I.cell y c e;exact⟨w',z.sameBut hs (cne y c e)⟩
  ·obtain⟨e,n,ne,nf,d⟩:=I.pin p hp;exact⟨(hs.2 p.1 ne).trans e,n,ne,nf,d⟩
 ·have hfn:X.fn x=true:=by
   rcases hf with z|z
   ·exact z
   ·rw [z] at hk;cases hk
  obtain⟨c,hc⟩:=I.ok.has x (.inl hk);obtain⟨w',z⟩:=I.cell x c hc;refine wpAny_storeName_cell I.ok.kind hk hc z (λh' ν hs=> ?_);obtain⟨oc,hoc,X1v⟩:=id z;refine h {s with heap:=h'} ⟨I.ok,I.os,I.bare,⟨λb o e n hb hx=> ?_,λb o e n hb hx=> ?_,I.base.free,λb o e hx=> ?_,I.base.tups,I.base.frzs,I.base.tbls⟩,⟨m,hn.sameBut hs (E7 (cne x c hc)),λj y v' e1 e2 e3=> ?_⟩,λy c' e=> ?_,I.free,I.freeC,λp hp=> ?_,tracked ⟨oc,hoc,I.freeC x c hc⟩ hs,by simpa using I.len⟩ ⟨c,hs,.inr hc⟩
  ·exact(hs.2 b (S8 (N5 (D0 e) (I.ok.cab x c hfn hc)))).trans (I.base.keep b o e n hb hx)
  ·obtain⟨sl,e1⟩:=I.base.slot b o e n hb hx;exact⟨sl,(hs.2 b (S8 (N5 (D0 e) (I.ok.cab x c hfn hc)))).trans e1⟩
  ·obtain⟨o',e1⟩:=I.base.there b o e hx;exact⟨o',(hs.2 b (S8 (N5 (D0 e) (I.ok.cab x c hfn hc)))).trans e1⟩
  ·by_cases hj:j=i
   ·subst hj;rw [hi] at e1;cases e1;rw [f6 X1h] at e2;cases e2;exact⟨u,r,.inr ⟨.inl hk,c,hc,ν⟩⟩
   ·rw [Q7 (E7 hj)] at e2;obtain⟨u',r',q⟩:=hl j y v' e1 e2 e3;refine⟨u',r',?_⟩;rcases q with q|⟨k,c',e,z'⟩
    ·exact .inl q
    ·refine .inr ⟨k,c',e,z'.sameBut hs ?_⟩;rintro rfl;exact hj (Qq hN e1 (I.ok.inj _ _ _ e hc ▸ hi))
  ·by_cases hcc:c'=c
   ·subst hcc;exact⟨_,ν⟩
   ·obtain⟨w2,z2⟩:=I.cell y c' e;exact⟨w2,z2.sameBut hs hcc⟩
  ·obtain⟨e,n,ne,nf,d⟩:=I.pin p hp;refine⟨(hs.2 p.1 ?_).trans e,n,ne,nf,d⟩;intro q;rw [q,hoc] at e;have q':oc=p.2:=O0 e;exact d w' (by rw [<-q'];exact X1v)
def ZF {M:qA}{A:N4}{E:G2->G3->Prop}{i:G8}{x:Str}{v:V}{u:G2}{Q:Unit->G3->Prop}(I:Inv X À σ H s)(hN:X.N.Nodup)(hi:X.N[i]? =some x)(hx:Loc X.env.scope x)(r:RelV v u)
 (h: ∀s',Inv X À (σ.set i (some v)) H s'->Q () s')(hf:X.fn x=true\/X.env.scope.names.lookup x=some .local:=by first|exact .inl rfl|exact .inr rfl|assumption):D8 M A (storeName X.env x u) Q E s:=
 PJ I hN hi hx r (λs' I' _=>h s' I') hf
def Inv.call' {s':G3}{ch:G0 P3}(I:Inv X À σ H s)(ho:s'.os=s.os)(u:Un (Ι X.stack) ch H H' s.heap s'.heap)(hok:ď X.prog X.w H' s'.heap)(hg:lD s'.gens)
 (hch: ∀b∈ch,(b∈X.ex\/X.s₀.heap.objs.size<=b)/\b≠X.env.locals/\(∀x c,X.env.cells.lookup x=some c->c≠b)/\ ∀p∈X.pn++À,p.1≠b):Inv X À σ H' s':=by
 obtain⟨h',g',d',t',o'⟩:=s';have e:o'=s.os:=ho;subst e;exact I.call (g':=g') (t':=t') (d':=d') u hok hg hch
end
abbrev XK:=G2->P9 P3->Hp->Prop
abbrev St:=G0 (P9 V)
abbrev VK:=V->Hp->Prop
abbrev TE:=St->Hp->VK->Prop
abbrev TT:=St->Hp->(N0->Hp->Prop)->Prop
abbrev TA:=St->Hp->(G0 V->Hp->Prop)->Prop
structure Κ where
 nx:St->Hp->Prop
 rt:VK
 bk:St->Hp->Prop:=λ_ _=>False
 ct:St->Hp->Prop:=λ_ _=>False
abbrev TS:=Κ->St->Hp->Prop
def EP (X:Cx)(À:G0 (P3×Obj))(σ:St)(Q:VK)(u:G2)(s':G3):Prop:= ∃v H',Inv X À σ H' s'/\RelV v u/\Q v H'
def TP (X:Cx)(À:G0 (P3×Obj))(σ:St)(Q:N0->Hp->Prop)(b:N0)(s':G3):Prop:= ∃H',Inv X À σ H' s'/\Q b H'
def AP (X:Cx)(À:G0 (P3×Obj))(σ:St)(Q:G0 V->Hp->Prop)(us:G0 G2)(s':G3):Prop:= ∃vs H',Inv X À σ H' s'/\Æ vs us/\Q vs H'
def SP (X:Cx)(À:G0 (P3×Obj))(D:Κ)(f:Flow)(s':G3):Prop:=
 match f with
 | .next=> ∃Â H',Inv X À Â H' s'/\D.nx Â H'
 | .brk=> ∃Â H',Inv X À Â H' s'/\D.bk Â H'
 | .cont=> ∃Â H',Inv X À Â H' s'/\D.ct Â H'
 | .ret u=> ∃v Â H',Inv X À Â H' s'/\RelV v u/\D.rt v H'
def PE (X:Cx)(e:M6)(t:TE):Prop:=
 ∀ (À:G0 (P3×Obj)) (s:G3) (σ:St) (H:Hp) (Q:VK),Inv X À σ H s->t σ H Q->D8 (R3 X.prog X.w) X.A (J3 e X.env) (EP X À σ Q) X.xe s
def PT (X:Cx)(e:M6)(t:TT):Prop:=
 ∀ (À:G0 (P3×Obj)) (s:G3) (σ:St) (H:Hp) (Q:N0->Hp->Prop),Inv X À σ H s->t σ H Q->D8 (R3 X.prog X.w) X.A (isTrue e X.env (J3 e X.env)) (TP X À σ Q) X.xe s
def PW (X:Cx)(e:M6)(t:TT):Prop:=
 ∀ (whole:Sem G2) (À:G0 (P3×Obj)) (s:G3) (σ:St) (H:Hp) (Q:N0->Hp->Prop),Inv X À σ H s->t σ H Q->D8 (R3 X.prog X.w) X.A (isTrue e X.env whole) (TP X À σ Q) X.xe s
variable {X:Cx}
def PW.pt {e:M6}{t:TT}(h:PW X e t):PT X e t:=h _
def PA (X:Cx)(es:G0 M6)(t:TA):Prop:=
 ∀ (pos:Pos) (À:G0 (P3×Obj)) (s:G3) (σ:St) (H:Hp) (Q:G0 V->Hp->Prop),Inv X À σ H s->t σ H Q->D8 (R3 X.prog X.w) X.A (spliced (U9 pos (R8 es X.env))) (AP X À σ Q) X.xe s
def PS (X:Cx)(st:K9)(t:TS):Prop:=
 ∀ (À:G0 (P3×Obj)) (s:G3) (σ:St) (H:Hp) (D:Κ),Inv X À σ H s->t D σ H->D8 (R3 X.prog X.w) X.A (exec st X.env) (SP X À D) X.xe s
def Ť (X:Cx)(st:G0 K9)(t:TS):Prop:=
 ∀ (À:G0 (P3×Obj)) (s:G3) (σ:St) (H:Hp) (D:Κ),Inv X À σ H s->t D σ H->D8 (R3 X.prog X.w) X.A (execs st X.env) (SP X À D) X.xe s
variable {A:N4}{s:G3}
def Ó {α:Type}{t:Sem α}{Q Q':α->G3->Prop}{M:qA}{E:G2->G3->Prop}(h:D8 M A t Q E s)(hQ: ∀a s,Q a s->Q' a s):D8 M A t Q' E s:=T7 h hQ λ_ _ x=>x
section
variable {X:Cx}
def bin {a b:M6}{ta tb:TE}(ha:PE X a ta)(hb:PE X b tb){À:G0 (P3×Obj)}{s:G3}{σ:St}{H:Hp}{R:V->V->Hp->Prop}(I:Inv X À σ H s)(h:ta σ H λx H1=>tb σ H1 λy H2=>R x y H2)
 {α:Type}{Q:α->G3->Prop}{f:G2->G2->Sem α}
 (hf: ∀v u s2 x y H2,Inv X À σ H2 s2->RelV x v->RelV y u->R x y H2->D8 (R3 X.prog X.w) X.A (f v u) Q X.xe s2):
 D8 (R3 X.prog X.w) X.A (J3 a X.env) (λv s₁=>D8 (R3 X.prog X.w) X.A (J3 b X.env) (λu s₂=>D8 (R3 X.prog X.w) X.A (f v u) Q X.xe s₂) X.xe s₁) X.xe s:=by
 refine Ó (ha À s σ H _ I h) λv s1 ⟨x,H1,I1,r1,q1⟩=> ?_
 refine Ó (hb À s1 σ H1 _ I1 q1) λu s2 ⟨y,H2,I2,r2,q2⟩=> ?_
 exact hf v u s2 x y H2 I2 r1 r2 q2
def Sj (i:G8):TE:=λσ H Q=> ∃v,σ[i]? =some (some v)/\Q v H
def tC (v:V):TE:=λ_ H Q=>Q v H
variable {x:Str}
def BL {i:G8}{pos:Pos}(hN:X.N[i]? =some x)(hv:Vis X.env.scope x)(hd:(x==("__debug__" :Str))=false:=by decide)(hcd:(x==("__classdict__" :Str))=false:=by decide):PE X (.Name x pos) (Sj i):=by
 intro À s σ H Q I h;obtain⟨v,e,h⟩:=h;obtain⟨m,hn,hl⟩:=I.loc;obtain⟨u,r,l⟩:=hl i x v hN e hv;have fin:EP X À σ Q u s:=⟨v,H,I,r,h⟩;rcases l with ⟨hk,hm⟩|⟨hk,c,hc,ŋ⟩
 ·exact tH (wpAny_loadName_local I.ok.kind hk hn hm fin) hd
 ·rcases hk with hk|hk
  ·exact tH (wpAny_loadName_cell I.ok.kind hk hc ŋ fin) hd
  ·exact tH (wpAny_loadName_free I.ok.kind hk hc ŋ fin hcd) hd
def ξ {i j pos}:PE X (.Constant (.int i) j pos) (tC (.int i)):=λ_ _ _ H _ I h=>wpAny_Constant_int ⟨.int i,H,I.tok _,⟨_,rfl⟩,h⟩
def X0L {b j pos}:PE X (.Constant (.bool b) j pos) (tC (.bl b)):=λ_ _ _ H _ I h=>Constant_bool ⟨.bl b,H,I,rfl,h⟩
def X0r {j pos}:PE X (.Constant .none j pos) (tC .non):=λ_ _ _ H _ I h=>Constant_none ⟨.non,H,I,rfl,h⟩
def ο {x j pos}:PE X (.Constant (.str x) j pos) (tC (.str x)):=λ_ _ _ H _ I h=>Calls.Constant_str ⟨.str x,H,I.tok _,⟨_,rfl⟩,h⟩
def Gl (X:Cx)(x:Str):Prop:=X.env.kindOf x=some .globalImplicit
variable {u:G2}
def PK {E:G2->G3->Prop}{À:G0 (P3×Obj)}{s:G3}{σ:St}{H:Hp}{pos:Pos}{Q:G2->G3->Prop}(I:Inv X À σ H s)(hg:Gl X x)(hm:X.mg x=some u)(h:Q u s)
 (hd:(x==("__debug__" :Str))=false:=by decide):D8 (R3 X.prog X.w) X.A (J3 (.Name x pos) X.env) Q E s:=
 Calls.Name_function_global I.ok.kind hg (Calls.loadGlobal_global (by rw [I.ok.glob];exact I.mod.glob.keeps I.bk) hm h) hd
def Yc {E:G2->G3->Prop}{À:G0 (P3×Obj)}{s:G3}{σ:St}{H:Hp}{pos:Pos}{Q:G2->G3->Prop}(I:Inv X À σ H s)(hg:Gl X x)(hm:X.mg x=none)(hv:V8 x=some u)(h:Q u s)
 (hn:x≠ "__name__" :=by decide)(hd:(x==("__debug__" :Str))=false:=by decide):D8 (R3 X.prog X.w) X.A (J3 (.Name x pos) X.env) Q E s:=by
 obtain⟨mb,h1,h2⟩:=I.mod.blt;exact Calls.Name_function_global I.ok.kind hg (Calls.loadGlobal_builtin (by rw [I.ok.glob];exact I.mod.glob.keeps I.bk) hm (by rw [I.ok.blt];exact h1.keeps I.bk) ((h2 x hn).trans hv) h) hd
def CG {v:V}{pos:Pos}(hg:Gl X x)(hm:X.mg x=some u)(r:RelV v u)(hd:(x==("__debug__" :Str))=false:=by decide):PE X (.Name x pos) (tC v):=
 λ_ _ _ H _ I h=>PK I hg hm ⟨v,H,I,r,h⟩ hd
def CH {v:V}{pos:Pos}(hg:Gl X x)(hm:X.mg x=none)(hv:V8 x=some u)(r:RelV v u)(hn:x≠ "__name__" :=by decide)(hd:(x==("__debug__" :Str))=false:=by decide):PE X (.Name x pos) (tC v):=
 λ_ _ _ H _ I h=>Yc I hg hm hv ⟨v,H,I,r,h⟩ hn hd
variable {a b:M6}{ta tb:TE}{pos:Pos}
def tB (t:TE):TT:=λσ H Q=>t σ H λx H1=> ∃c,x= .bl c/\Q c H1
def Os {e:M6}{t:TE}(h:PE X e t)(he: ∀whole,isTrue e X.env whole=(do let v <-whole;gX e.pos;aR [v] (tJ v)):=by intro _;rfl):PT X e (tB t):=by
 intro À s σ H Q I hw;refine xH (Ó (h À s σ H _ I hw) λv s1 ⟨x,H1,I1,r1,q1⟩=> ?_) (he _);obtain⟨d,rfl,q⟩:=q1;cases r1;exact Q1 ⟨H1,I1,q⟩
variable {tA tB':TT}{rest:G0 M6}
def Hf (t u:TT):TT:=λσ H Q=>t σ H λc H1=>if c=true then u σ H1 Q else Q false H1
def tOr (t u:TT):TT:=λσ H Q=>t σ H λc H1=>if c=true then Q true H1 else u σ H1 Q
def Hg (t:TT):TT:=λσ H Q=>t σ H λc H1=>Q (!c) H1
def CI (ha:PT X a tA):PW X (.BoolOp .And [a] pos) tA:=by
 intro wh À s σ H Q I h;refine IY (Ó (ha À s σ H Q I h) λc s1 e=> ?_);cases c with
 |true=>exact isTrue_and_nil e
 |false=>exact e
def Ot (ha:PT X a tA):PW X (.BoolOp .Or [a] pos) tA:=by
 intro wh À s σ H Q I h;refine isTrue_or (Ó (ha À s σ H Q I h) λc s1 e=> ?_);cases c with
 |false=>exact isTrue_or_nil e
 |true=>exact e
def Ou (ha:PT X a tA)(hb:PW X (.BoolOp .And (b::rest) pos) tB'):PW X (.BoolOp .And (a::b::rest) pos) (Hf tA tB'):=by
 intro wh À s σ H Q I h;refine IY (Ó (ha À s σ H _ I h) λc s1 ⟨H1,I1,q1⟩=> ?_);cases c with
 |true=>exact hb wh À s1 σ H1 Q I1 q1
 |false=>exact⟨H1,I1,q1⟩
def Sk (ha:PT X a tA)(hb:PW X (.BoolOp .Or (b::rest) pos) tB'):PW X (.BoolOp .Or (a::b::rest) pos) (tOr tA tB'):=by
 intro wh À s σ H Q I h;refine isTrue_or (Ó (ha À s σ H _ I h) λc s1 ⟨H1,I1,q1⟩=> ?_);cases c with
 |true=>exact⟨H1,I1,q1⟩
 |false=>exact hb wh À s1 σ H1 Q I1 q1
def Ov (ha:PT X a tA):PT X (.UnaryOp .Not a pos) (Hg tA):=by
 intro À s σ H Q I h;exact isTrue_not (ha À s σ H (λc H1=>Q (!c) H1) I h)
def Ow (ta tb:TE):TE:=λσ H Q=>ta σ H λx H1=> ∃c,x= .bl c/\if c=true then tb σ H1 Q else Q (.bl false) H1
def Hh (ta tb:TE):TE:=λσ H Q=>ta σ H λx H1=> ∃c,x= .bl c/\if c=true then Q (.bl true) H1 else tb σ H1 Q
def Ox (ta:TE):TE:=λσ H Q=>ta σ H λx H1=> ∃c,x= .bl c/\Q (.bl (!c)) H1
def Oy {op}{t:TE}(h:PE X a t):PE X (.BoolOp op [a] pos) t:=λÀ s σ H Q I hw=>BoolOp_one (h À s σ H Q I hw)
def Oz (ha:PE X a ta)(hb:PE X (.BoolOp .And (b::rest) pos) tb):PE X (.BoolOp .And (a::b::rest) pos) (Ow ta tb):=by
 intro À s σ H Q I h;refine BoolOp_and (Ó (ha À s σ H _ I h) λv s1 ⟨x,H1,I1,r1,q1⟩=> ?_);obtain⟨c,rfl,q1⟩:=q1;cases r1;refine Q1 ?_;cases c with
 |true=>exact hb À s1 σ H1 Q I1 q1
 |false=>exact⟨.bl false,H1,I1,rfl,q1⟩
def Sl (ha:PE X a ta)(hb:PE X (.BoolOp .Or (b::rest) pos) tb):PE X (.BoolOp .Or (a::b::rest) pos) (Hh ta tb):=by
 intro À s σ H Q I h;refine BoolOp_or (Ó (ha À s σ H _ I h) λv s1 ⟨x,H1,I1,r1,q1⟩=> ?_);obtain⟨c,rfl,q1⟩:=q1;cases r1;refine Q1 ?_;cases c with
 |false=>exact hb À s1 σ H1 Q I1 q1
 |true=>exact⟨.bl true,H1,I1,rfl,q1⟩
def OA (ha:PE X a ta):PE X (.UnaryOp .Not a pos) (Ox ta):=by
 intro À s σ H Q I h;refine UnaryOp_ (Ó (ha À s σ H _ I h) λv s1 ⟨x,H1,I1,r1,q1⟩=> ?_);obtain⟨c,rfl,q1⟩:=q1;cases r1;exact not_of (Q1 ⟨.bl (!c),H1,I1,rfl,q1⟩)
def tIf (t:TT)(ta tb:TE):TE:=λσ H Q=>t σ H λc H1=>if c=true then ta σ H1 Q else tb σ H1 Q
def MS {c:M6}(hc:PT X c tA)(ha:PE X a ta)(hb:PE X b tb):PE X (.IfExp c a b pos) (tIf tA ta tb):=by
 intro À s σ H Q I h;refine wpAny_IfExp (Ó (hc À s σ H _ I h) λd s1 ⟨H1,I1,q1⟩=> ?_);cases d with
 |true=>exact ha À s1 σ H1 Q I1 q1
 |false=>exact hb À s1 σ H1 Q I1 q1
end
def ê (K:G7)(H:Hp)(a:P3)(xs:G0 V):Prop:=
 Rd H a (.lst xs)\/
  ∃ (o:Obj) (its:S5 G2) (n:G8),K.lookup a=some o/\o.cls= .type "list" /\o.dict=none/\o.data= .seq its n/\its.size<=sizeLine/\Æ xs its.toList
def ä (K:G7)(H:Hp)(a:P3)(xs:G0 V):Prop:=
 Rd H a (.tup xs)\/
  ∃ (o:Obj) (its:S5 G2) (n:G8),K.lookup a=some o/\o.cls= .type "tuple" /\o.data= .seq its n/\its.size<=sizeLine/\Æ xs its.toList
noncomputable def Ke:G2->P9 V
 | .none=>some .non
 | .bool b=>some (.bl b)
 | .int i _=>some (.int i)
 | .str x _=>some (.str x)
 | .bytes b _=>some (.byt b)
 | .float b _=>some (.flt b)
 | .ref a=>some (.ref a)
 | .type n=>some (.ty n)
 |_=>none
def RelV.abs {x:V}(r:RelV x u):Ke u=some x:=by
 cases x with
 |non=>cases r;rfl
 |bl _=>cases r;rfl
 |int _=>obtain⟨t,rfl⟩:=r;rfl
 |str _=>obtain⟨t,rfl⟩:=r;rfl
 |byt _=>obtain⟨t,rfl⟩:=r;rfl
 |flt _=>obtain⟨t,rfl⟩:=r;rfl
 |ref _=>cases r;rfl
 |ty _=>cases r;rfl
def RelV.inj {x y:V}(r:RelV x u)(q:RelV y u):x=y:=O0 (r.abs.symm.trans q.abs)
theorem Æ.inj: ∀ {xs ys:G0 V} {us:G0 G2},Æ xs us->Æ ys us->xs=ys
 |_,_,_,.nil,.nil=>rfl
 |_,_,_,.cons r t,.cons r' t'=>by rw [r.inj r',Æ.inj t t']
section
variable {X:Cx}{À:G0 (P3×Obj)}{σ:St}{H:Hp}{s:G3}{a:P3}{xs ys:G0 V}
def ê.of {K:G7}(h:H a=some (.lst xs)):ê K H a xs:= .inl (.inl h)
def ä.of {K:G7}(h:H a=some (.tup xs)):ä K H a xs:= .inl (.inl h)
def Inv.list (I:Inv X À σ H s)(h:ê X.K H a xs): ∃its:G0 G2,Æ xs its/\PlainL s.heap a its.toArray/\xs.length<=sizeLine:=by
 rcases h with h|⟨o,its,n,hk,hc,hd,hs,hz,r⟩
 ·obtain⟨z,its,n,r,e⟩:=h.ok I.hok;exact⟨its,r,⟨_,n,e,rfl,rfl,rfl⟩,z⟩
 ·refine⟨its.toList,r,⟨o,n,I.kIn a o hk,hc,hd,by simpa using hs⟩,?_⟩;have e:=r.length;simp only [P8] at e;omega
def Inv.tuple (I:Inv X À σ H s)(h:ä X.K H a xs): ∃its:G0 G2,Æ xs its/\xB s.heap a its.toArray/\xs.length<=sizeLine:=by
 rcases h with h|⟨o,its,n,hk,hc,hs,hz,r⟩
 ·obtain⟨z,its,r,p⟩:=h.ok I.hok;exact⟨its,r,p.tup,z⟩
 ·refine⟨its.toList,r,⟨o,I.kIn a o hk,hc,n,by simpa using hs⟩,?_⟩;have e:=r.length;simp only [P8] at e;omega
def Inv.list_inj (I:Inv X À σ H s)(h:ê X.K H a xs)(h':ê X.K H a ys):xs=ys:=by
 obtain⟨its,r,⟨o,n,e,_,_,d⟩,_⟩:=I.list h;obtain⟨its',r',⟨o',n',e',_,_,d'⟩,_⟩:=I.list h';rw [e] at e';cases e';rw [d] at d';injection d' with d1 _
 have:its=its':=by simpa using congrArg qB d1
 subst this;exact r.inj r'
def Inv.tuple_inj (I:Inv X À σ H s)(h:ä X.K H a xs)(h':ä X.K H a ys):xs=ys:=by
 obtain⟨its,r,⟨o,e,_,n,d⟩,_⟩:=I.tuple h;obtain⟨its',r',⟨o',e',_,n',d'⟩,_⟩:=I.tuple h';rw [e] at e';cases e';rw [d] at d';injection d' with d1 _
 have:its=its':=by simpa using congrArg qB d1
 subst this;exact r.inj r'
end
noncomputable abbrev Cx.wish (X:Cx)(E:G2->G3->Prop):Cx:= {X with xe:=E}
noncomputable abbrev Cx.nox (X:Cx):Cx:=X.wish λ_ _=>False
def Cx.Ok.wish (ok:X.Ok)(E:G2->G3->Prop):(X.wish E).Ok:=
 ⟨ok.mod,ok.kind,ok.glob,ok.blt,ok.above,ok.inj,ok.has,ok.cab,ok.hd,ok.frames,ok.stk,ok.exf,ok.bs,ok.bsz,ok.noex,ok.exfs,ok.funs,ok.frf⟩
def Cx.Ok.unwish {E:G2->G3->Prop}(ok:(X.wish E).Ok):X.Ok:=
 ⟨ok.mod,ok.kind,ok.glob,ok.blt,ok.above,ok.inj,ok.has,ok.cab,ok.hd,ok.frames,ok.stk,ok.exf,ok.bs,ok.bsz,ok.noex,ok.exfs,ok.funs,ok.frf⟩
section
variable {X:Cx}{À:G0 (P3×Obj)}{σ:St}{H:Hp}{s:G3}{E:G2->G3->Prop}
def Inv.wish (I:Inv X À σ H s)(E:G2->G3->Prop):Inv (X.wish E) À σ H s:=⟨I.ok.wish E,I.os,I.bare,I.base,I.loc,I.cell,I.free,I.freeC,I.pin,I.hok,I.len⟩
def Inv.unwish (I:Inv (X.wish E) À σ H s):Inv X À σ H s:=⟨I.ok.unwish,I.os,I.bare,I.base,I.loc,I.cell,I.free,I.freeC,I.pin,I.hok,I.len⟩
def SP.unwish {D:Κ}{f:Flow}{s':G3}(h:SP (X.wish E) À D f s'):SP X À D f s':=by
 cases f with
 |next=>obtain⟨Â,H',I,q⟩:=h;exact⟨Â,H',I.unwish,q⟩
 |brk=>obtain⟨Â,H',I,q⟩:=h;exact⟨Â,H',I.unwish,q⟩
 |cont=>obtain⟨Â,H',I,q⟩:=h;exact⟨Â,H',I.unwish,q⟩
 |ret u=>obtain⟨v,Â,H',I,r,q⟩:=h;exact⟨v,Â,H',I.unwish,r,q⟩
def Ť.nox {st:G0 K9}{t:TS}(h:Ť X.nox st t):Ť X st t:=λÀ s σ H D I hw=>
 T7 (h À s σ H D (I.wish _) hw) (λ_ _ q=>q.unwish) λ_ _ z=>False.elim z
end
section
variable {X:Cx}{st:K9}{rest:G0 K9}{t u:TS}{e:M6}{te:TE}{pos:Pos}
def OB:TS:=λD σ H=>D.nx σ H
def Hi (t u:TS):TS:=λD σ H=>t {D with nx:=u D} σ H
def X0c:Ť X [] OB:=λ_ _ σ H _ I h=>iC ⟨σ,H,I,h⟩
def MT (h1:PS X st t)(h2:Ť X rest u):Ť X (st::rest) (Hi t u):=by
 intro À s σ H D I h;refine rC (Ó (h1 À s σ H {D with nx:=u D} I h) λf s1 q=> ?_);cases f with
 |next=>
  obtain⟨Â,H',I',q⟩:=q;exact h2 À s1 Â H' D I' q
 |ret v=>exact q
 |brk=>exact q
 |cont=>exact q
def CJ (h1:PS X st t):Ť X [st] t:=by
 intro À s σ H D I h;refine rC (Ó (h1 À s σ H D I h) λf s1 q=> ?_);cases f with
 |next=>exact iC q
 |ret v=>exact q
 |brk=>exact q
 |cont=>exact q
def Inv.quiet {À:G0 (P3×Obj)}{σ:St}{H:Hp}{s:G3}(I:Inv X À σ H s):y4 X.env=false:=by simp [y4,I.ok.kind]
def OC (te:TE):TS:=λD σ H=>te σ H λ_ H1=>D.nx σ H1
def CK (he:PE X e te)(hs:aG e none pos.line X.env=pure false:=by rfl):PS X (.Expr e pos) (OC te):=by
 intro À s σ H D I h;exact wpAny_Expr_any (Ó (he À s σ H _ I h) λv s1 ⟨x,H1,I1,r1,q1⟩=>⟨σ,H1,I1,q1⟩) I.quiet hs
def Hj (te:TE):TS:=λD σ H=>te σ H D.rt
def OD (he:PE X e te):PS X (.Return (some e) pos) (Hj te):=by
 intro À s σ H D I h;exact wpAny_Return_some (Ó (he À s σ H _ I h) λv s1 ⟨x,H1,I1,r1,q1⟩=>⟨x,σ,H1,I1,r1,q1⟩)
def Hk (c:TT)(t u:TS):TS:=λD σ H=>c σ H λb H1=>if b=true then t D σ H1 else u D σ H1
def Sm {c:M6}{a b:G0 K9}{tc:TT}(hc:PT X c tc)(ha:Ť X a t)(hb:Ť X b u):PS X (.If c a b pos) (Hk tc t u):=by
 intro À s σ H D I h;refine wpAny_If (Ó (hc À s σ H _ I h) λd s1 ⟨H1,I1,q1⟩=> ?_);cases d with
 |true=>exact ha À s1 σ H1 D I1 q1
 |false=>exact hb À s1 σ H1 D I1 q1
end
abbrev TG:=V->St->Hp->(St->Hp->Prop)->Prop
abbrev TGs:=G0 V->St->Hp->(St->Hp->Prop)->Prop
def PG (X:Cx)(target:M6)(t:TG):Prop:=
 ∀ (À:G0 (P3×Obj)) (s:G3) (σ:St) (H:Hp) (v:V) (u:G2) (Q:St->Hp->Prop),Inv X À σ H s->RelV v u->t v σ H Q->
  D8 (R3 X.prog X.w) X.A (gR target X.env u) (λ_ s'=> ∃Â H',Inv X À Â H' s'/\Q Â H') X.xe s
def PGs (X:Cx)(ts:G0 M6)(t:TGs):Prop:=
 ∀ (À:G0 (P3×Obj)) (s:G3) (σ:St) (H:Hp) (vs:G0 V) (us:G0 G2) (Q:St->Hp->Prop),Inv X À σ H s->Æ vs us->t vs σ H Q->
  D8 (R3 X.prog X.w) X.A (pF ((fE ts X.env).map (·.2)) us) (λ_ s'=> ∃Â H',Inv X À Â H' s'/\Q Â H') X.xe s
abbrev Sn:=V->V->V->Hp->(Hp->Prop)->Prop
def Hl (X:Cx)(t:Sn):Prop:=
 ∀ (À:G0 (P3×Obj)) (s:G3) (σ:St) (H:Hp) (o i v:V) (ov iv u:G2) (Q:Hp->Prop),Inv X À σ H s->RelV o ov->RelV i iv->RelV v u->t o i v H Q->
  D8 (R3 X.prog X.w) X.A (tD ov iv u) (λ_ s'=> ∃H',Inv X À σ H' s'/\Q H') X.xe s
section
variable {X:Cx}{pos:Pos}
def wV (i:G8):TG:=λv σ H Q=>Q (σ.set i (some v)) H
def vG {i:G8}{x:Str}(hN:X.N.Nodup)(hi:X.N[i]? =some x)(hx:Loc X.env.scope x)(hf:X.fn x=true\/X.env.scope.names.lookup x=some .local:=by first|exact .inl rfl|exact .inr rfl|assumption):PG X (.Name x pos) (wV i):=by
 intro À s σ H v u Q I r h;exact wpAny_assign_Name (ZF I hN hi hx r (λs' I'=>⟨_,H,I',h⟩) hf)
def ET:TGs:=λvs σ H Q=>vs= []/\Q σ H
def Xd (t:TG)(u:TGs):TGs:=λvs σ H Q=> ∃v r,vs=v::r/\t v σ H λÂ H'=>u r Â H' Q
def Xe:PGs X [] ET:=by
 intro À s σ H vs us Q I r h;obtain⟨e,h⟩:=h;subst e;cases r;exact qC ⟨σ,H,I,h⟩
def vf {e:M6}{es:G0 M6}{t:TG}{u:TGs}(h1:PG X e t)(h2:PGs X es u)
 (hs:(fE (e::es) X.env).map (·.2)=gR e X.env::(fE es X.env).map (·.2):=by rfl):PGs X (e::es) (Xd t u):=by
 intro À s σ H vs us Q I r h;obtain⟨v,vr,e1,h⟩:=h;subst e1;cases r with
 |cons r rr=>
  rw [hs];refine iT (Ó (h1 À s σ H _ _ _ I r h) λ_ s1 ⟨σ1,H1,I1,q1⟩=> ?_);exact h2 À s1 σ1 H1 _ _ Q I1 rr q1
def EU (K:G7)(n:G8)(t:TGs):TG:=λv σ H Q=> ∃a xs,v= .ref a/\ä K H a xs/\xs.length=n/\t xs σ H Q
def PL {es:G0 M6}{k:G8}{t:TGs}{n:G8}(hc:X.calm=true)(h:PGs X es t)
 (hn:(fE es X.env).length=n:=by rfl)(hst:(fE es X.env).findIdx? (·.1)=none:=by rfl):PG X (.Tuple es k pos) (EU X.K n t):=by
 intro À s σ H v u Q I r hw;obtain⟨a,xs,e1,hq,hl,hw⟩:=hw;subst e1;cases r;obtain⟨its,rv,ht,hz⟩:=I.tuple hq;refine assign_Tuple_tuple (I.ok.hd hc) ht (by simp [hn,<-hl,rv.length]) hst λh' hx=> ?_
 have I1:Inv X À σ H {s with heap:=h'}:=I.kept (t':=s.toks) λb o e=>hx b o (S8 (D0 e)) e
 exact h À _ σ H xs _ Q I1 (by simpa using rv) hw
def Kf (to ti:TE)(t:Sn):TG:=λv σ H Q=>to σ H λo H1=>ti σ H1 λi H2=>t o i v H2 λH3=>Q σ H3
def OE {o i:M6}{to ti:TE}{t:Sn}(ho:PE X o to)(hi:PE X i ti)(hs:Hl X t)
 (ha: ∀v,gR (.Subscript o i pos) X.env v=(do
  let ov <-aR [v] (J3 o X.env)
  let iv <-aR [v,ov] (J3 i X.env)
  gX pos
  aR [v,ov,iv] (tD ov iv v)
  G0r [v,ov,iv] []):=by intro _;rfl):PG X (.Subscript o i pos) (Kf to ti t):=by
 intro À s σ H v u Q I r h;rw [ha];refine wpAny_bind (O5 (Ó (ho À s σ H _ I h) λov s1 ⟨x,H1,I1,r1,q1⟩=> ?_));refine wpAny_bind (O5 (Ó (hi À s1 σ H1 _ I1 q1) λiv s2 ⟨y,H2,I2,r2,q2⟩=> ?_));refine wpAny_bind (aW (wpAny_bind (O5 (Ó (hs À s2 σ H2 x y v ov iv u _ I2 r1 r2 r q2) λ_ s3 ⟨H3,I3,q3⟩=> ?_))));exact wpAny_release ⟨σ,H3,I3,q3⟩
def BM (te:TE)(g:TG):TS:=λD σ H=>te σ H λx H1=>g x σ H1 D.nx
def OF {tg e:M6}{te:TE}{g:TG}(he:PE X e te)(hg:PG X tg g)(hs:eI [tg] e pos.line X.env=pure false:=by rfl)(hw:eJ [tg] e X.env=pure none:=by rfl)
 (h1:(fE [tg] X.env).map (·.2)= [gR tg X.env]:=by rfl):PS X (.Assign [tg] e pos) (BM te g):=by
 intro À s σ H D I h;refine wpAny_Assign_stores (Ó (he À s σ H _ I h) λv s1 ⟨x,H1,I1,r1,q1⟩=> ?_) hs hw;rw [h1];exact Ó (hg À s1 σ H1 x v _ I1 r1 q1) λ_ s2 q=>q
def OG {i:G8}{x:Str}{e:M6}{te:TE}{pos':Pos}(hN:X.N.Nodup)(hi:X.N[i]? =some x)(hx:Loc X.env.scope x)(he:PE X e te)(hs:aG e (some (.Name x pos')) pos.line X.env=pure false:=by rfl)(hf:X.fn x=true\/X.env.scope.names.lookup x=some .local:=by first|exact .inl rfl|exact .inr rfl|assumption):
 PS X (.Assign [.Name x pos'] e pos) (BM te (wV i)):=by
 intro À s σ H D I h;refine wpAny_Assign_Name (Ó (he À s σ H _ I h) λv s1 ⟨y,H1,I1,r1,q1⟩=> ?_) hs;exact ZF I1 hN hi hx r1 (λs2 I2=>⟨_,H1,I2,q1⟩) hf
def Hm (i j:G8)(ta:TA):TS:=λD σ H=>ta σ H λvs H1=> ∃v w,vs= [v,w]/\D.nx ((σ.set i (some v)).set j (some w)) H1
def OH {i j:G8}{x y:Str}{a b:M6}{ta:TA}{px py pt:Pos}{kt k2 π}(hc:X.calm=true)(hN:X.N.Nodup)(hi:X.N[i]? =some x)(hj:X.N[j]? =some y)(hij:i≠j)
 (hx:X.env.scope.names.lookup x=some .local)(hy:X.env.scope.names.lookup y=some .local)(ha:PA X [a,b] ta)
 (hw:eJ [.Tuple [.Name x px,.Name y py] kt pt] (.Tuple [a,b] k2 π) X.env=pure (some [x,y]))
 (hs:eI [.Tuple [.Name x px,.Name y py] kt pt] (.Tuple [a,b] k2 π) pos.line X.env=pure false:=by rfl):
 PS X (.Assign [.Tuple [.Name x px,.Name y py] kt pt] (.Tuple [a,b] k2 π) pos) (Hm i j ta):=by
 intro À s σ H D I h;rw [exec_Assign_arm];refine wpAny_bind (aW ?_);rw [hs];refine wpAny_bind (G9 ?_);rw [R9 (by decide)];refine wpAny_bind (Tuple_ (Ó (ha _ À s σ H _ I h) λus s1 ⟨vs,H1,I1,r1,q1⟩=> ?_));obtain⟨v,w,e1,q1⟩:=q1;subst e1;obtain⟨u1,u2,rfl,rv,rw'⟩: ∃u1 u2,us= [u1,u2]/\RelV v u1/\RelV w u2:=by
  cases r1 with
  |cons p q=>
   cases q with
   |cons p' q'=>
    cases q';exact⟨_,_,rfl,p,p'⟩
 refine K1 ?_ (by show 2<=sizeLine;decide);have I2:Inv X À σ H1 {s1 with heap:=s1.heap.push {cls:= .type "tuple",data:= .seq [u1,u2].toArray}}:=I1.kept (t':=s1.toks) λb o e=>G6 _ e
 rw [hw];refine wpAny_bind (G9 ?_);show D8 (R3 X.prog X.w) X.A (do rule "assign.swapped-stores";let items <-unpackItems (.ref s1.heap.objs.size) 2 none;pF [λv=>tK X.env y v,λv=>tK X.env x v] items.reverse;pure Flow.next) _ _ _;refine wpAny_bind (dE (wpAny_bind (unpackItems_tuple (items:= #[u1,u2]) (I.ok.hd hc) (IsTup.new s1.heap _) λh' Ġ=> ?_)));have I3:=I2.kept (h':=h') (t':=s1.toks) λb o e=>Ġ b o (S8 (D0 e)) e
 show D8 _ _ (pF [λv=>tK X.env y v,λv=>tK X.env x v] [u2,u1] >>= λ_=>pure Flow.next) _ _ _;refine wpAny_bind (iT (tL (ZF I3 hN hj (.inl hy) rw' (λs2 I4=> ?_) (.inr hy))));refine iT (tL (ZF I4 hN hi (.inl hx) rv (λs3 I5=>qC (G9 ?_)) (.inr hx)));rw [List.set_comm _ _ (E7 hij)] at I5;exact⟨_,H1,I5,q1⟩
def BN (c:TT)(tb:TS):TS:=λD σ H=> ∃W:G8->St->Hp->Prop,(∃m,W m σ H)/\ ∀m σ H,W m σ H->
 c σ H λb H1=>if b=true then ∃N:St->Hp->Prop,(∀Â H',N Â H'-> ∃m',m'<m/\W m' Â H')/\tb {D with nx:=N,ct:=N,bk:=D.nx} σ H1 else D.nx σ H1
def MU {c:M6}{body:G0 K9}{tc:TT}{tb:TS}(hp:oW (R3 X.prog X.w) X.A X.env X.xe)(hc:PT X c tc)(hb:Ť X body tb):PS X (.While c body [] pos) (BN tc tb):=by
 intro À s σ H D I h;obtain⟨W,⟨m0,w0⟩,turn⟩:=h;refine wpAny_While (codeAny_whileLoop (λn s'=> ∃Â H',Inv X À Â H' s'/\W n Â H') ?_ m0 ⟨σ,H,I,w0⟩);rintro n s1 ⟨σ1,H1,I1,w1⟩;refine bP hp (Ó (hc À s1 σ1 H1 _ I1 (turn n σ1 H1 w1)) λb s2 ⟨H2,I2,q2⟩=> ?_);cases b with
 |true=>
  obtain⟨N,hN,q2⟩:=q2;rw [R6 rfl];refine bP hp (Ó (hb À s2 σ1 H2 _ I2 q2) λf s3 q3=> ?_);cases f with
  |next=>
   obtain⟨Đ,H3,I3,n3⟩:=q3;obtain⟨m',hm,w3⟩:=hN Đ H3 n3;exact⟨m',hm,Đ,H3,I3,w3⟩
  |cont=>
   obtain⟨Đ,H3,I3,n3⟩:=q3;obtain⟨m',hm,w3⟩:=hN Đ H3 n3;exact⟨m',hm,Đ,H3,I3,w3⟩
  |brk=>exact q3
  |ret v=>exact q3
 |false=>
  rw [R9 R5];exact iC ⟨σ1,H2,I2,q2⟩
end
structure It where
 go:G8->Hp->Prop
 yld:G8->Hp->V->Hp->Prop
 stop:G8->Hp->Prop
def Xf (X:Cx)(À:G0 (P3×Obj))(H:Hp)(b:P3):Prop:=
 H b=none/\b≠X.env.locals/\b ∉ X.fs/\(b∈X.ex\/X.s₀.heap.objs.size<=b)/\(∀x c,X.env.cells.lookup x=some c->c≠b)/\ ∀p∈X.pn++À,p.1≠b
def Inv.fpOk {À:G0 (P3×Obj)}{σ:St}{H':Hp}(I:Inv X À σ H s)(hb:s.heap.objs.size<=b)(hn:H' b=none):Xf X À H' b:=by
 refine⟨hn,Q2 (N5 I.lt hb),I.nofs hb,.inr (R1 I.sz hb),λx c e z=> ?_,λp hp z=> ?_⟩
 ·obtain⟨v,q⟩:=I.cell x c e;exact absurd (N5 q.lt (by rw [z];exact hb)) (C1 _)
 ·exact absurd (N5 (D0 (I.pin p hp).1) (by rw [z];exact hb)) (C1 _)
structure Ŵ (P:S6)(w:B3)(K:G7)(tg:M6)(J:It)(fp:G0 P3)(it:P3)(tn:G8->L8->Prop):Prop where
 mem:it∈fp
 obj: ∀i h,tn i h-> ∀b∈fp,∃o,h.get? b=some o/\ ∀v,o.data≠ .cell v
 keep: ∀i h h',tn i h->(∀b∈fp,∀o,h.get? b=some o->h'.get? b=some o)->tn i h'
 item: ∀ (X:Cx),X.prog=P->X.w=w->X.K=K->X.calm=true-> ∀ (i:G8) (À:G0 (P3×Obj)) (s:G3) (σ:St) (H:Hp) (E:G2->G3->Prop),Inv X À σ H s->(∀b∈fp,Xf X À H b)->tn i s.heap->J.go i H->
  D8 (R3 P w) X.A (iU (.ref it)) (λr s1=> ∃u,r=some u/\
   D8 (R3 P w) X.A (aK tg (.ref it) u) (λ_ s2=> ∃x H',Inv X À σ H' s2/\RelV x u/\J.yld i H x H'/\tn (i+1) s2.heap/\ ∀b∈fp,H' b=none) E s1) E s
 done: ∀ (X:Cx),X.prog=P->X.w=w->X.K=K->X.calm=true-> ∀ (i:G8) (À:G0 (P3×Obj)) (s:G3) (σ:St) (H:Hp) (E:G2->G3->Prop),Inv X À σ H s->(∀b∈fp,Xf X À H b)->tn i s.heap->J.stop i H->
  D8 (R3 P w) X.A (iU (.ref it)) (λr s1=>r=none/\Inv X À σ H s1) E s
 self: ∀ (A:N4) (i:G8) (s:G3) (Q:G2->G3->Prop) (E:G2->G3->Prop),tn i s.heap->Q (.ref it) s->D8 (R3 P w) A (nV (.ref it)) Q E s
abbrev TI:=St->Hp->(It->Hp->Prop)->Prop
def PIE (X:Cx)(À:G0 (P3×Obj))(σ:St)(tg:M6)(R:It->Hp->Prop)(itv:G2)(s2:G3):Prop:=
 ∃ (it:P3) (fp:G0 P3) (tn:G8->L8->Prop) (J:It) (H':Hp),itv= .ref it/\Inv X À σ H' s2/\Ŵ X.prog X.w X.K tg J fp it tn/\tn 0 s2.heap/\(∀b∈fp,Xf X À H' b)/\R J H'
def PI (X:Cx)(tg iter:M6)(wi:TI):Prop:=
 ∀ (À:G0 (P3×Obj)) (s:G3) (σ:St) (H:Hp) (R:It->Hp->Prop),Inv X À σ H s->wi σ H R->
  D8 (R3 X.prog X.w) X.A (J3 iter X.env) (λv s1=>D8 (R3 X.prog X.w) X.A (nV v) (PIE X À σ tg R) X.xe s1) X.xe s
variable {tg:M6}
def MV {M : qA} {E : G2 → G3 → Prop} {it : P3} {o : Obj} {n : W1} {vs : S5 G2} {Q : Unit → G3 → Prop} (ho : s.heap.get? it = some o) (hc : o.cls = .type n) (hd : o.data = .fields vs)
    (hn : ["enumerate", "zip", "dict_itemiterator", "dict_reverseitemiterator", "odict_iterator", "itertools.zip_longest", "itertools.pairwise"].contains n = false) (hQ : Q () s) : D8 M A (aK tg (.ref it) u) Q E s := by
  unfold aK
  cases tg <;> first
    | exact G9 hQ
    | (cases u <;> first
        | exact G9 hQ
        | (refine wpAny_bind (tM ho ?_)
           rw [hc, hd]
           show D8 M A (if (["enumerate", "zip", "dict_itemiterator", "dict_reverseitemiterator", "odict_iterator", "itertools.zip_longest", "itertools.pairwise"].contains n && vs[0]? == some (K4 _)) = true then _ else _) Q E s
           rw [R9 (by intro h; rw [hn, iV] at h; cases h)]
           exact G9 hQ))
noncomputable def Itl (K:G7)(a:P3):It:=
 ⟨λi H=> ∃xs x,ê K H a xs/\xs[i]? =some x,λi H x H'=>H'=H/\ ∀xs,ê K H a xs->xs[i]? =some x,λi H=> ∃xs,ê K H a xs/\xs.length<=i⟩
noncomputable def Itt (K:G7)(a:P3):It:=
 ⟨λi H=> ∃xs x,ä K H a xs/\xs[i]? =some x,λi H x H'=>H'=H/\ ∀xs,ä K H a xs->xs[i]? =some x,λi H=> ∃xs,ä K H a xs/\xs.length<=i⟩
noncomputable def Itr (lo:P4)(n:G8):It:=⟨λi _=>i<n,λi H x H'=>H'=H/\x= .int (lo+i),λi _=>n<=i⟩
variable {K:G7}
def VE (a it:P3):Ŵ P w K tg (Itl K a) [it] it (λi h=>h.IsListIter it a i) where
 mem:=by simp
 obj:=λi h st b hb=>by
  have e:b=it:=by simpa using hb
  subst e;obtain⟨o,e,c,d⟩:=st;exact⟨o,e,λv z=>by rw [d] at z;cases z⟩
 keep:=λi h h' st k=>st.at λo e=>k it (by simp) o e
 item:=by
  intro X hP hw hK hc i À s σ H E I hf st hg;subst hP hw hK;obtain⟨xs,x,hq,hx⟩:=hg;obtain⟨its,rv,p,hz⟩:=I.list hq;obtain⟨u,hu,ru⟩:=rv.get hx;obtain⟨f0,f1,f2,f3,f4,f5⟩:=hf it (by simp);refine wpAny_pyNext_list_item st p.isList (x:=u) (by simpa using hu) λh' Ä sb=> ?_
  have I1:Inv X À σ H {s with heap:=h'}:=I.turned (t':=s.toks) (λb o hb e=>(sb.2 b hb).trans e) f0 f1 f3 f4 f5;obtain⟨o,e,c,d⟩:=id Ä;exact⟨u,rfl,MV (s:= {s with heap:=h'}) e c d (by decide) ⟨x,H,I1,ru,⟨rfl,λys hy=>by rw [I.list_inj hy hq];exact hx⟩,Ä,λb hb=>(hf b hb).1⟩⟩
 done:=by
  intro X hP hw hK hc i À s σ H E I hf st hg;subst hP hw hK;obtain⟨xs,hq,hx⟩:=hg;obtain⟨its,rv,p,hz⟩:=I.list hq;obtain⟨f0,f1,f2,f3,f4,f5⟩:=hf it (by simp);have hl:=rv.length;exact wpAny_pyNext_list_end (I.ok.hd hc) st p.isList (by simp;omega) λh' eb=>⟨rfl,I.turned (t':=s.toks) (λb o hb e=>eb b o hb e) f0 f1 f3 f4 f5⟩
 self:=λ_ _ _ _ _ st h=>wpAny_pyIter_listiter st h
def Gz (a it:P3):Ŵ P w K tg (Itt K a) [it] it (λi h=>h.IsTupleIter it a i) where
 mem:=by simp
 obj:=λi h st b hb=>by
  have e:b=it:=by simpa using hb
  subst e;obtain⟨o,e,c,d⟩:=st;exact⟨o,e,λv z=>by rw [d] at z;cases z⟩
 keep:=λi h h' st k=>st.at λo e=>k it (by simp) o e
 item:=by
  intro X hP hw hK hc i À s σ H E I hf st hg;subst hP hw hK;obtain⟨xs,x,hq,hx⟩:=hg;obtain⟨its,rv,p,hz⟩:=I.tuple hq;obtain⟨u,hu,ru⟩:=rv.get hx;obtain⟨f0,f1,f2,f3,f4,f5⟩:=hf it (by simp);refine wpAny_pyNext_tuple_item st (show s.heap.IsTuple a its.toArray from p) (x:=u) (by simpa using hu) λh' Ä sb=> ?_
  have I1:Inv X À σ H {s with heap:=h'}:=I.turned (t':=s.toks) (λb o hb e=>(sb.2 b hb).trans e) f0 f1 f3 f4 f5;obtain⟨o,e,c,d⟩:=id Ä;exact⟨u,rfl,MV (s:= {s with heap:=h'}) e c d (by decide) ⟨x,H,I1,ru,⟨rfl,λys hy=>by rw [I.tuple_inj hy hq];exact hx⟩,Ä,λb hb=>(hf b hb).1⟩⟩
 done:=by
  intro X hP hw hK hc i À s σ H E I hf st hg;subst hP hw hK;obtain⟨xs,hq,hx⟩:=hg;obtain⟨its,rv,p,hz⟩:=I.tuple hq;obtain⟨f0,f1,f2,f3,f4,f5⟩:=hf it (by simp);have hl:=rv.length;exact wpAny_pyNext_tuple_end (I.ok.hd hc) st (show s.heap.IsTuple a its.toArray from p) (by simp;omega) λh' eb=>⟨rfl,I.turned (t':=s.toks) (λb o hb e=>eb b o hb e) f0 f1 f3 f4 f5⟩
 self:=λ_ _ _ _ _ st h=>wpAny_pyIter_tupleiter st h
def GA (it:P3)(lo:P4)(n:G8):Ŵ P w K tg (Itr lo n) [it] it (λi h=>y6 h it (lo+(i:G8)*1) ((n:P4)-(i:G8)) 1) where
 mem:=by simp
 obj:=λi h st b hb=>by
  have e:b=it:=by simpa using hb
  subst e;exact⟨_,st,λv z=>by
   have z':Data.fields _=Data.cell v:=z;cases z'⟩
 keep:=λi h h' st k=>k it (by simp) _ st
 item:=by
  intro X hP hw hK hc i À s σ H E I hf st hg;subst hP hw hK;obtain⟨f0,f1,f2,f3,f4,f5⟩:=hf it (by simp);have W:=Walks.range (prog:=X.prog) (w:=X.w) (I.ok.hd hc) it lo 1 n;refine W.item i s _ _ hg st λv h' tk hv Ä kk=> ?_
  obtain⟨t,rfl⟩:=hv;have I1:Inv X À σ H {s with heap:=h',toks:=tk}:=I.turned (λb o hb e=>kk b o (by simpa using hb) e) f0 f1 f3 f4 f5;refine⟨_,rfl,MV (s:= {s with heap:=h',toks:=tk}) (n:= "range_iterator") Ä rfl rfl (by decide) ⟨.int (lo+i),H,I1,⟨t,?_⟩,⟨rfl,rfl⟩,Ä,λb hb=>(hf b hb).1⟩⟩;rw [Int.mul_one]
 done:=by
  intro X hP hw hK hc i À s σ H E I hf st hg;subst hP hw hK;obtain⟨f0,f1,f2,f3,f4,f5⟩:=hf it (by simp);exact wpAny_pyNext_range_end (I.ok.hd hc) st (by have:n<=i:=hg;omega) λh' eb=>⟨rfl,I.turned (t':=s.toks) (λb o hb e=>eb b o hb e) f0 f1 f3 f4 f5⟩
 self:=λ_ _ _ _ _ st h=>wpAny_pyIter_rangeiter st h
section
variable {X:Cx}{tg:M6}
def OJ (K:G7)(tl:TE):TI:=λσ H R=>tl σ H λx H1=> ∃a,x= .ref a/\(∃xs,ê K H1 a xs)/\R (Itl K a) H1
def CL {l:M6}{tl:TE}(hl:PE X l tl):PI X tg l (OJ X.K tl):=by
 intro À s σ H R I h;refine Ó (hl À s σ H _ I h) λv s1 ⟨x,H1,I1,r1,q1⟩=> ?_
 obtain⟨a,e,⟨xs,hq⟩,q⟩:=q1;subst e;cases r1;obtain⟨its,rv,p,hz⟩:=I1.list hq;refine W8 p.isList ?_;refine⟨s1.heap.objs.size,[s1.heap.objs.size],_,_,H1,rfl,I1.kept (t':=s1.toks) λb o e=>G6 _ e,VE a _,⟨_,R0 _ rfl,rfl,rfl⟩,λb hb=> ?_,q⟩;have e:b=s1.heap.objs.size:=by simpa using hb
 subst e;exact I1.fpOk (P2 _) (I1.hok.fresh (P2 _))
variable {À:G0 (P3×Obj)}
def MW {σ:St}{H:Hp}{s:G3}{R:It->Hp->Prop}{E:G2->G3->Prop}{lo hi:P4}{t u v:Tok}{tk:G8}(I:Inv X À σ H s)(h1: -(2^62)<=lo)(h2:lo<2^62)(h3: -(2^62)<=hi)(h4:hi<2^62)
 (q:R (Itr lo (hi-lo).toNat) H):D8 (R3 X.prog X.w) X.A (nV (.ref s.heap.objs.size)) (PIE X À σ tg R) E {s with heap:=s.heap.push {cls:= .type "range",data:= .fields #[.int lo t,.int hi u,.int 1 v]},toks:=tk}:=by
 refine wpAny_pyIter_range (IsRange.new ..) (small_one h1 h2 h3 h4) ?_;have I1:Inv X À σ H {s with heap:=s.heap.push {cls:= .type "range",data:= .fields #[.int lo t,.int hi u,.int 1 v]},toks:=tk}:=I.kept λb o e=>G6 _ e
 refine⟨(s.heap.push {cls:= .type "range",data:= .fields #[.int lo t,.int hi u,.int 1 v]}).objs.size,[(s.heap.push {cls:= .type "range",data:= .fields #[.int lo t,.int hi u,.int 1 v]}).objs.size],_,_,H,rfl,
  I1.kept (t':=tk) λb o e=>G6 _ e,GA _ lo (hi-lo).toNat,?_,λb hb=> ?_,q⟩
 ·have e1:lo+((0:G8):P4)*1=lo:=by simp
  have e2:(((hi-lo).toNat:G8):P4)-((0:G8):P4)=Builtin.Range.rangeSize lo hi 1:=by rw [rangeSize_one];split<;>omega
  show y6 _ _ (lo+((0:G8):P4)*1) ((((hi-lo).toNat:G8):P4)-((0:G8):P4)) 1;rw [e1,e2];exact R0 _ rfl
 ·have e:b=(s.heap.push {cls:= .type "range",data:= .fields #[.int lo t,.int hi u,.int 1 v]}).objs.size:=by simpa using hb
  subst e;exact I1.fpOk (P2 _) (I1.hok.fresh (P2 _))
def OK (ta:TA):TI:=λσ H R=>ta σ H λvs H1=> ∃j:P4,vs= [.int j]/\ -(2^62)<=j/\j<2^62/\R (Itr 0 j.toNat) H1
def PM {a:M6}{ta:TA}{p pos:Pos}(hg:Gl X "range")(hm:X.mg "range" =none)(ha:PA X [a] ta)(hs:R8 [a] X.env= [(false,J3 a X.env)]:=by rfl):PI X tg (.Call (.Name "range" p) [a] [] pos) (OK ta):=by
 intro À s σ H R I h;refine Call_ (Yc I hg hm boot_range (aS (Ó (ha pos À s σ H _ I h) λus s1 ⟨vs,H1,I1,r1,q1⟩=> ?_) hs rfl));obtain⟨j,e,q1,q2,q⟩:=q1;subst e;cases r1 with
 |cons r rr=>
  cases rr;obtain⟨t,rfl⟩:=r;exact call_range_1 (MW I1 (by omega) (by omega) q1 q2 (by simpa using q))
def Hn (wi:TI)(g:TG)(tb:TS):TS:=λD σ H=>wi σ H λJ H1=> ∃W:G8->G8->St->Hp->Prop,(∃m,W 0 m σ H1)/\ ∀i m σ H,W i m σ H->
 (J.stop i H/\D.nx σ H)\/(J.go i H/\ ∃N:St->Hp->Prop,(∀Â H',N Â H'-> ∃m',m'<m/\W (i+1) m' Â H')/\ ∀x H',J.yld i H x H'->g x σ H' λã H2=>tb {D with nx:=N,ct:=N,bk:=D.nx} ã H2)
noncomputable def wW (fp:G0 P3)(h:L8):G0 (P3×Obj):=fp.filterMap λb=>(h.get? b).map λo=>(b,o)
def zw {fp:G0 P3}{h:L8}{b:P3}{o:Obj}(hb:b∈fp)(e:h.get? b=some o):(b,o)∈wW fp h:=cI.mpr ⟨b,hb,by rw [e];rfl⟩
def Jb {fp:G0 P3}{h:L8}{p:P3×Obj}(hp:p∈wW fp h):p.1∈fp/\h.get? p.1=some p.2:=by
 obtain⟨b,hb,e⟩:=cI.mp hp;cases q:h.get? b with
 |none=>rw [q] at e;cases e
 |some o=>
  rw [q] at e;have e':(b,o)=p:=O0 e;subst e';exact⟨hb,q⟩
def Inv.pinned {σ:St}{H:Hp}{s:G3}{fp:G0 P3}(I:Inv X À σ H s)(hf: ∀b∈fp,Xf X À H b)(ho: ∀b∈fp,∃o,s.heap.get? b=some o/\ ∀v,o.data≠ .cell v):Inv X (À++wW fp s.heap) σ H s:=
 I.pins_of λp hp=>(D1.mp hp).elim (λz=>I.pin p (D4 _ z)) λz=>by
  obtain⟨hb,e⟩:=Jb z;obtain⟨f0,f1,f2,_⟩:=hf p.1 hb;obtain⟨o,e',d⟩:=ho p.1 hb;rw [e] at e';cases e';exact⟨e,f0,f1,f2,d⟩
def Inv.unpinned {pl:G0 (P3×Obj)}{σ:St}{H:Hp}{s:G3}(I:Inv X (À++pl) σ H s):Inv X À σ H s:=I.pins_of λp hp=>I.pin p (D4 _ (B8 _ hp))
def OL {iter:M6}{body:G0 K9}{wi:TI}{g:TG}{tb:TS}{pos:Pos}(hp:oW (R3 X.prog X.w) X.A X.env X.xe)(hc:X.calm=true)(hi:PI X tg iter wi)(hg:PG X tg g)(hb:Ť X body tb)
 (hs: ∀x,M8 iter X.env x=pure x:=by intro _;rfl):PS X (.For tg iter body [] pos) (Hn wi g tb):=by
 intro À s σ H D I h;refine wpAny_For (Ó (hi À s σ H _ I h) λv s1 h1=>Ó h1 λitv s2 h2=> ?_) hs;obtain⟨it,fp,tn,J,H2,e,I2,T,ĭ,f2,W,⟨m0,w0⟩,turn⟩:=h2;subst e
 -- μ stays true of Ŝ ĵ objects through Ŝ loop
 have Ē: ∀ {H':Hp},(∀b∈fp,H' b=none)-> ∀b∈fp,Xf X À H' b:=λhn b hb=>⟨hn b hb,(f2 b hb).2⟩
 refine codeAny_forLoop_any (λn s'=> ∃i Â H',Inv X À Â H' s'/\tn i s'.heap/\(∀b∈fp,H' b=none)/\W i n Â H') ?_ m0 ⟨0,σ,H2,I2,ĭ,λb hb=>(f2 b hb).1,w0⟩;rintro n s3 ⟨i,Đ,H3,I3,st3,fr3,w3⟩;rcases turn i n Đ H3 w3 with ⟨stop,qn⟩|⟨go,N,hN,step⟩
 ·refine bP hp (Ó (T.done X rfl rfl rfl hc i À s3 Đ H3 X.xe I3 (Ē fr3) st3 stop) λr s4 ⟨hr,I4⟩=> ?_);subst hr;exact iC ⟨Đ,H3,I4,qn⟩
 ·refine bP hp (Ó (T.item X rfl rfl rfl hc i À s3 Đ H3 X.xe I3 (Ē fr3) st3 go) λr s4 ⟨u,hr,h4⟩=> ?_);subst hr;refine bP hp (Ó h4 λ_ s5 ⟨x,H5,I5,r5,y5,Ψ,fr5⟩=> ?_);have I5':=I5.pinned (Ē fr5) (T.obj _ _ Ψ);refine bP hp (Ó (hg _ s5 Đ H5 x u _ I5' r5 (step x H5 y5)) λ_ s6 ⟨σ6,H6,I6,q6⟩=> ?_);refine bP hp (Ó (hb _ s6 σ6 H6 _ I6 q6) λf s7 q7=> ?_);have again: ∀ {ς:St} {H7:Hp},Inv X (À++wW fp s5.heap) ς H7 s7->N ς H7-> ∃m,m<n/\ ∃i Â H',Inv X À Â H' s7/\tn i s7.heap/\(∀b∈fp,H' b=none)/\W i m Â H':=λ{ς H7} I7 n7=>by
   obtain⟨m',hm,w7⟩:=hN ς H7 n7;refine⟨m',hm,i+1,ς,H7,I7.unpinned,T.keep _ _ _ Ψ λb hb o e=>(I7.pin (b,o) (D4 _ (D4 _ (zw hb e)))).1,λb hb=> ?_,w7⟩;obtain⟨o,e,d⟩:=T.obj _ _ Ψ b hb;exact(I7.pin (b,o) (D4 _ (D4 _ (zw hb e)))).2.1
  cases f with
  |next=>obtain⟨ς,H7,I7,n7⟩:=q7;exact again I7 n7
  |cont=>obtain⟨ς,H7,I7,n7⟩:=q7;exact again I7 n7
  |brk=>obtain⟨ς,H7,I7,q7⟩:=q7;exact⟨ς,H7,I7.unpinned,q7⟩
  |ret v=>obtain⟨x7,ς,H7,I7,r7,q7⟩:=q7;exact⟨x7,ς,H7,I7.unpinned,r7,q7⟩
end
abbrev R2:=V->V->Hp->VK->Prop
def ā (X:Cx)(f:G2->G2->Sem G2)(r:R2):Prop:=
 ∀ (À:G0 (P3×Obj)) (s:G3) (σ:St) (H:Hp) (x y:V) (v u:G2) (Q:VK),Inv X À σ H s->RelV x v->RelV y u->r x y H Q->
  D8 (R3 X.prog X.w) X.A (f v u) (EP X À σ Q) X.xe s
def UnR (X:Cx)(f:G2->Sem G2)(r:V->Hp->VK->Prop):Prop:=
 ∀ (À:G0 (P3×Obj)) (s:G3) (σ:St) (H:Hp) (x:V) (v:G2) (Q:VK),Inv X À σ H s->RelV x v->r x H Q->
  D8 (R3 X.prog X.w) X.A (f v) (EP X À σ Q) X.xe s
def Ú (X:Cx)(f:G2)(r:G0 V->Hp->VK->Prop):Prop:=
 ∀ (À:G0 (P3×Obj)) (s:G3) (σ:St) (H:Hp) (xs:G0 V) (us:G0 G2) (Q:VK),Inv X À σ H s->Æ xs us->r xs H Q->
  D8 (R3 X.prog X.w) X.A (call f us) (EP X À σ Q) X.xe s
def tOp (r:R2)(ta tb:TE):TE:=λσ H Q=>ta σ H λx H1=>tb σ H1 λy H2=>r x y H2 Q
def tUn (r:V->Hp->VK->Prop)(ta:TE):TE:=λσ H Q=>ta σ H λx H1=>r x H1 Q
def rI (C:P4->P4->Prop)(g:P4->P4->V):R2:=λx y H Q=> ∃i j,x= .int i/\y= .int j/\C i j/\Q (g i j) H
def rI0 (g:P4->P4->V):R2:=λx y H Q=> ∃i j,x= .int i/\y= .int j/\Q (g i j) H
def rU (g:P4->V):V->Hp->VK->Prop:=λx H Q=> ∃i,x= .int i/\Q (g i) H
section
variable {X:Cx}{a b c:M6}{ta tb tc:TE}{pos:Pos}
def So (ha:PE X a ta)(hb:PE X b tb){À:G0 (P3×Obj)}{s:G3}{σ:St}{H:Hp}{R:V->V->Hp->Prop}(I:Inv X À σ H s)
 (h:ta σ H λx H1=>tb σ H1 λy H2=>R x y H2){Q:G2->G3->Prop}{f:G2->G2->Sem G2}
 (hf: ∀v u s2 x y H2,Inv X À σ H2 s2->RelV x v->RelV y u->R x y H2->D8 (R3 X.prog X.w) X.A (f v u) Q X.xe s2):
 D8 (R3 X.prog X.w) X.A (J3 a X.env) (λv s₁=>D8 (R3 X.prog X.w) X.A (J3 b X.env) (λu s₂=>D8 (R3 X.prog X.w) X.A (f v u) Q X.xe s₂) X.xe s₁) X.xe s:=by
 refine Ó (ha À s σ H _ I h) λv s1 ⟨x,H1,I1,r1,q1⟩=> ?_
 refine Ó (hb À s1 σ H1 _ I1 q1) λu s2 ⟨y,H2,I2,r2,q2⟩=> ?_
 exact hf v u s2 x y H2 I2 r1 r2 q2
def Sr {op:y8}{r:R2}(ho:ā X (Q8 op) r)(ha:PE X a ta)(hb:PE X b tb):PE X (.BinOp a op b pos) (tOp r ta tb):=by
 intro À s σ H Q I h;exact wpAny_BinOp (So ha hb I h λv u s2 x y H2 I2 rx ry q=>ho À s2 σ H2 x y v u Q I2 rx ry q)
def Su {op:UnaryOp}{r:V->Hp->VK->Prop}(ho:UnR X (unaryOp op) r)(ha:PE X a ta):PE X (.UnaryOp op a pos) (tUn r ta):=by
 intro À s σ H Q I h;exact UnaryOp_ (Ó (ha À s σ H _ I h) λv s1 ⟨x,H1,I1,r1,q1⟩=>ho À s1 σ H1 x v Q I1 r1 q1)
def opI {f:G2->G2->Sem G2}{C:P4->P4->Prop}{g:P4->P4->P4}
 (rule: ∀ (i j:P4) (t u:Tok) (s:G3) (Q:G2->G3->Prop) (E:G2->G3->Prop),C i j->Q (.int (g i j) s.toks) {s with toks:=s.toks+1}->D8 (R3 X.prog X.w) X.A (f (.int i t) (.int j u)) Q E s):
 ā X f (rI C λi j=> .int (g i j)):=by
 intro À s σ H x y v u Q I rx ry h;obtain⟨i,j,rfl,rfl,hc,q⟩:=h;obtain⟨t,rfl⟩:=rx;obtain⟨t',rfl⟩:=ry;exact rule i j t t' s _ _ hc ⟨.int (g i j),H,I.tok _,⟨_,rfl⟩,q⟩
def Ho {f:G2->G2->Sem G2}{g:P4->P4->P4}
 (rule: ∀ (i j:P4) (t u:Tok) (s:G3) (Q:G2->G3->Prop) (E:G2->G3->Prop),Q (.int (g i j) s.toks) {s with toks:=s.toks+1}->D8 (R3 X.prog X.w) X.A (f (.int i t) (.int j u)) Q E s):
 ā X f (rI0 λi j=> .int (g i j)):=by
 intro À s σ H x y v u Q I rx ry h;obtain⟨i,j,rfl,rfl,q⟩:=h;obtain⟨t,rfl⟩:=rx;obtain⟨t',rfl⟩:=ry;exact rule i j t t' s _ _ ⟨.int (g i j),H,I.tok _,⟨_,rfl⟩,q⟩
def EV {f:G2->G2->Sem G2}{g:P4->P4->N0}
 (rule: ∀ (i j:P4) (t u:Tok) (s:G3) (Q:G2->G3->Prop) (E:G2->G3->Prop),Q (.bool (g i j)) s->D8 (R3 X.prog X.w) X.A (f (.int i t) (.int j u)) Q E s):
 ā X f (rI0 λi j=> .bl (g i j)):=by
 intro À s σ H x y v u Q I rx ry h;obtain⟨i,j,rfl,rfl,q⟩:=h;obtain⟨t,rfl⟩:=rx;obtain⟨t',rfl⟩:=ry;exact rule i j t t' s _ _ ⟨.bl (g i j),H,I,rfl,q⟩
def EW (i j:P4):Prop:=0<j/\j<1073741824
def Hq (i j:P4):Prop:=0<=j/\j<=1000000/\i.natAbs<2^64
def υ (i j:P4):Prop:=(-(2^64)<i/\i<2^64)\/(-(2^64)<j/\j<2^64)
def υ.ok {i j:P4}(h:υ i j):IntMulOk i j:=by
 rcases h with ⟨h1,h2⟩|⟨h1,h2⟩
 ·exact .of_left (uL h1 h2)
 ·exact .of_right (uL h1 h2)
def X0s:ā X (Q8 .Add) (rI0 λi j=> .int (i+j)):=Ho λ_ _ _ _ _ _ _ q=>add_int q
def OM:ā X (Q8 .Sub) (rI0 λi j=> .int (i-j)):=Ho λ_ _ _ _ _ _ _ q=>sub_int q
def X0t:ā X (Q8 .Mult) (rI υ λi j=> .int (i*j)):=opI λ_ _ _ _ _ _ _ hc q=>mul_int q hc.ok
def CM:ā X (Q8 .FloorDiv) (rI EW λi j=> .int (i / j)):=opI λi j _ _ _ _ _ hc q=>by
 have h1:(0:P4)<j:=hc.1;have h2:j<1073741824:=hc.2;exact floordiv_int (by omega) (by rw [iW i (by omega)];exact q) (.inl (PyProof.noPylong_small (by omega)))
def ON:ā X (Q8 .Mod) (rI (λ_ j=>0<j) λi j=> .int (i%j)):=opI λi j _ _ _ _ _ hc q=>by
 have h1:(0:P4)<j:=hc;exact mod_int' (by omega) (by rw [iY i (by omega)];exact q)
def OO:ā X (Q8 .Pow) (rI Hq λi j=> .int (i^j.toNat)):=opI λ_ _ _ _ _ _ _ hc q=>pow_int_small hc.1 hc.2.1 hc.2.2 q
def unI {f:G2->Sem G2}{g:P4->P4}
 (rule: ∀ (i:P4) (t:Tok) (s:G3) (Q:G2->G3->Prop) (E:G2->G3->Prop),Q (.int (g i) s.toks) {s with toks:=s.toks+1}->D8 (R3 X.prog X.w) X.A (f (.int i t)) Q E s):
 UnR X f (rU λi=> .int (g i)):=by
 intro À s σ H x v Q I rx h;obtain⟨i,rfl,q⟩:=h;obtain⟨t,rfl⟩:=rx;exact rule i t s _ _ ⟨.int (g i),H,I.tok _,⟨_,rfl⟩,q⟩
def OP:UnR X (unaryOp .USub) (rU λi=> .int (-i)):=unI λ_ _ _ _ _ q=>neg_int q
end
noncomputable def Hr:V->V->N0
 | .non,.non=>true| .non,.int _=>true| .int _,.non=>true| .non,.bl _=>true| .bl _,.non=>true| .non,.str _=>true| .str _,.non=>true
 | .int _,.int _=>true| .bl _,.bl _=>true| .str _,.str _=>true| .byt _,.byt _=>true
 | .int _,.str _=>true| .str _,.int _=>true| .bl _,.str _=>true| .str _,.bl _=>true
 |_,_=>false
def rEq:R2:=λx y H Q=>Hr x y=true/\Q (.bl (decide (x=y))) H
def rNe:R2:=λx y H Q=>Hr x y=true/\Q (.bl (!decide (x=y))) H
def PN {i j:P4}:decide (V.int i=V.int j)=(i==j):=by
 rw [A3];simp
def BO {i j:N0}:decide (V.bl i=V.bl j)=(i==j):=by
 rw [A3];simp
def PP {i j:Str}:decide (V.str i=V.str j)=(i==j):=by
 rw [A3];simp
def PQ {i j:S5 UInt8}:decide (V.byt i=V.byt j)=(i.toList==j.toList):=by
 rw [A3];cases i;cases j;simp
section
variable {X:Cx}{a b c:M6}{ta tb tc:TE}{pos:Pos}
def jL {À:G0 (P3×Obj)}{σ:St}{H:Hp}{s:G3}{Q:VK}{k k':N0}(I:Inv X À σ H s)(q:Q (.bl k) H)(e:k=k'):EP X À σ Q (.bool k') s:=by
 subst e;exact⟨.bl k,H,I,rfl,q⟩
def X0M:ā X (H0 .Eq) rEq:=by
 intro À s σ H x y v u Q I rx ry h;obtain⟨hs,q⟩:=h;cases x with
 |non=>
  cases rx;cases y with
  |non=>cases ry;exact PySem.EqNone.eq_none_none (jL I q (by simp))
  |bl j=>cases ry;exact PySem.EqNone.eq_none_bool (jL I q (by simp))
  |int j=>obtain⟨t',rfl⟩:=ry;exact PySem.EqNone.eq_none_int (jL I q (by simp))
  |str j=>obtain⟨t',rfl⟩:=ry;exact PySem.EqNone.eq_none_str (jL I q (by simp))
  |_=>exact absurd (show false=true from hs) R5
 |bl i=>
  cases rx;cases y with
  |non=>cases ry;exact PySem.EqNone.eq_bool_none (jL I q (by simp))
  |bl j=>cases ry;exact eq_bool (jL I q BO)
  |str j=>obtain⟨t',rfl⟩:=ry;exact PySem.EqMixed.eq_bool_str (jL I q (by simp))
  |_=>exact absurd (show false=true from hs) R5
 |int i=>
  obtain⟨t,rfl⟩:=rx;cases y with
  |non=>cases ry;exact PySem.EqNone.eq_int_none (jL I q (by simp))
  |int j=>obtain⟨t',rfl⟩:=ry;exact eq_int (jL I q PN)
  |str j=>obtain⟨t',rfl⟩:=ry;exact PySem.EqMixed.eq_int_str (jL I q (by simp))
  |_=>exact absurd (show false=true from hs) R5
 |str i=>
  obtain⟨t,rfl⟩:=rx;cases y with
  |non=>cases ry;exact PySem.EqNone.eq_str_none (jL I q (by simp))
  |bl j=>cases ry;exact PySem.EqMixed.eq_str_bool (jL I q (by simp))
  |int j=>obtain⟨t',rfl⟩:=ry;exact PySem.EqMixed.eq_str_int (jL I q (by simp))
  |str j=>obtain⟨t',rfl⟩:=ry;exact eq_str (jL I q PP)
  |_=>exact absurd (show false=true from hs) R5
 |byt i=>
  obtain⟨t,rfl⟩:=rx;cases y with
  |byt j=>obtain⟨t',rfl⟩:=ry;exact G0A (jL I q PQ)
  |_=>exact absurd (show false=true from hs) R5
 |_=>cases y<;>exact absurd (show false=true from hs) R5
def X0N:ā X (H0 .NotEq) rNe:=by
 intro À s σ H x y v u Q I rx ry h;obtain⟨hs,q⟩:=h;cases x with
 |non=>
  cases rx;cases y with
  |non=>cases ry;exact PySem.EqNone.ne_none_none (jL I q (by simp))
  |bl j=>cases ry;exact PySem.EqNone.ne_none_bool (jL I q (by simp))
  |int j=>obtain⟨t',rfl⟩:=ry;exact PySem.EqNone.ne_none_int (jL I q (by simp))
  |str j=>obtain⟨t',rfl⟩:=ry;exact PySem.EqNone.ne_none_str (jL I q (by simp))
  |_=>exact absurd (show false=true from hs) R5
 |bl i=>
  cases rx;cases y with
  |non=>cases ry;exact PySem.EqNone.ne_bool_none (jL I q (by simp))
  |bl j=>cases ry;exact ne_bool (jL I q (congrArg not BO))
  |str j=>obtain⟨t',rfl⟩:=ry;exact PySem.EqMixed.ne_bool_str (jL I q (by simp))
  |_=>exact absurd (show false=true from hs) R5
 |int i=>
  obtain⟨t,rfl⟩:=rx;cases y with
  |non=>cases ry;exact PySem.EqNone.ne_int_none (jL I q (by simp))
  |int j=>obtain⟨t',rfl⟩:=ry;exact ne_int (jL I q (congrArg not PN))
  |str j=>obtain⟨t',rfl⟩:=ry;exact PySem.EqMixed.ne_int_str (jL I q (by simp))
  |_=>exact absurd (show false=true from hs) R5
 |str i=>
  obtain⟨t,rfl⟩:=rx;cases y with
  |non=>cases ry;exact PySem.EqNone.ne_str_none (jL I q (by simp))
  |bl j=>cases ry;exact PySem.EqMixed.ne_str_bool (jL I q (by simp))
  |int j=>obtain⟨t',rfl⟩:=ry;exact PySem.EqMixed.ne_str_int (jL I q (by simp))
  |str j=>obtain⟨t',rfl⟩:=ry;exact ne_str (jL I q (congrArg not PP))
  |_=>exact absurd (show false=true from hs) R5
 |byt i=>
  obtain⟨t,rfl⟩:=rx;cases y with
  |byt j=>obtain⟨t',rfl⟩:=ry;exact G0B (jL I q (congrArg not PQ))
  |_=>exact absurd (show false=true from hs) R5
 |_=>cases y<;>exact absurd (show false=true from hs) R5
def Sv:ā X (H0 .Lt) (rI0 λi j=> .bl (decide (i<j))):=EV λ_ _ _ _ _ _ _ q=>lt_int q
def Sw:ā X (H0 .LtE) (rI0 λi j=> .bl (decide (i<=j))):=EV λ_ _ _ _ _ _ _ q=>le_int q
def Sx:ā X (H0 .Gt) (rI0 λi j=> .bl (decide (j<i))):=EV λ_ _ _ _ _ _ _ q=>gt_int q
def Sy:ā X (H0 .GtE) (rI0 λi j=> .bl (decide (j<=i))):=EV λ_ _ _ _ _ _ _ q=>ge_int q
variable {r:R2}
def ā.or {f:G2->G2->Sem G2}{r':R2}(h:ā X f r)(h':ā X f r'):ā X f (λx y H Q=>r x y H Q\/r' x y H Q):=by
 intro À s σ H x y v u Q I rx ry q;rcases q with q|q
 ·exact h À s σ H x y v u Q I rx ry q
 ·exact h' À s σ H x y v u Q I rx ry q
def BP (b:M6){op:nX}(h:op≠ .In:=by decide)(h2:op≠ .NotIn:=by decide):Z7 op b=false:=by
 have e1:(op==CmpOp.In)=false:=by cases op<;>first|rfl|exact absurd rfl h
 have e2:(op==CmpOp.NotIn)=false:=by cases op<;>first|rfl|exact absurd rfl h2
 cases b<;>simp [Z7,e1,e2]
def CN {op:nX}(ho:ā X (H0 op) r)(ha:PE X a ta)(hb:PE X b tb)(hm:Z7 op b=false):PE X (.Compare a [op] [b] pos) (tOp r ta tb):=by
 intro À s σ H Q I h;exact wpAny_Compare1 (So ha hb I h λv u s2 x y H2 I2 rx ry q=>ho À s2 σ H2 x y v u Q I2 rx ry q) hm
def CO (t:TE):TT:=λσ H Q=>t σ H λx H'=> ∃k,x= .bl k/\Q k H'
def CP {op:nX}(ho:ā X (H0 op) r)(ha:PE X a ta)(hb:PE X b tb)(hm:Z7 op b=false):PT X (.Compare a [op] [b] pos) (CO (tOp r ta tb)):=by
 intro À s σ H Q I h;refine wpAny_isTrue_Compare1 (Ó (ha À s σ H _ I h) λv s1 ⟨x,H1,I1,r1,q1⟩=>Ó (hb À s1 σ H1 _ I1 q1) λu s2 ⟨y,H2,I2,r2,q2⟩=>
  Ó (ho À s2 σ H2 x y v u _ I2 r1 r2 q2) λc s3 ⟨z,H3,I3,r3,k,e,q3⟩=> ?_) hm
 subst e;cases r3;exact Q1 ⟨H3,I3,q3⟩
def BQ (r r':R2)(ta tb tc:TE):TE:=λσ H Q=>ta σ H λx H1=>tb σ H1 λy H2=>r x y H2 λz H3=> ∃k,z= .bl k/\
 (if k=true then tc σ H3 λw' H4=>r' y w' H4 Q else Q (.bl false) H3)
def MX {op χ:nX}{r':R2}(ho:ā X (H0 op) r)(ho':ā X (H0 χ) r')(ha:PE X a ta)(hb:PE X b tb)(hc:PE X c tc)
 (hm:xC [op,χ] [b,c]=false:=by with_unfolding_all rfl):PT X (.Compare a [op,χ] [b,c] pos) (CO (BQ r r' ta tb tc)):=by
 intro À s σ H Q I h;refine isTrue_chain (Ó (ha À s σ H _ I h) λv s1 ⟨x,H1,I1,r1,q1⟩=>test_link (Ó (hb À s1 σ H1 _ I1 q1) λu s2 ⟨y,H2,I2,r2,q2⟩=>
  Ó (ho À s2 σ H2 x y v u _ I2 r1 r2 q2) λd s3 ⟨z,H3,I3,r3,k,e,q3⟩=> ?_)) hm
 subst e;cases r3;refine Q1 ?_;cases k with
 |false=>
  obtain⟨k',e',q'⟩:=q3;cases e';exact ite_ff ⟨H3,I3,q'⟩
 |true=>
  refine ite_tt (test_last (Ó (hc À s3 σ H3 _ I3 q3) λw' s4 ⟨z',H4,I4,r4,q4⟩=>Ó (ho' À s4 σ H4 y z' u w' _ I4 r2 r4 q4) λd' s5 ⟨z2,H5,I5,r5,k2,e2,q5⟩=> ?_));subst e2;cases r5;exact Q1 ⟨H5,I5,q5⟩
def VF:(sizeLine:G8)<2^63:=by rw [rT];decide
def vH {x:V}{us:G0 G2}(r:Æ [x] us): ∃u,us= [u]/\RelV x u:=by
 cases r with
 |cons r1 r2=>cases r2;exact⟨_,rfl,r1⟩
def MY {x y:V}{us:G0 G2}(r:Æ [x,y] us): ∃u w',us= [u,w']/\RelV x u/\RelV y w':=by
 cases r with
 |cons r1 r2=>
  cases r2 with
  |cons r3 r4=>cases r4;exact⟨_,_,rfl,r1,r3⟩
def PR (hc:X.calm=true):Ú X (.builtin "max") (λxs H Q=> ∃i j,xs= [.int i,.int j]/\Q (.int (if j>i then j else i)) H):=by
 intro À s σ H xs us Q I r h;obtain⟨i,j,rfl,q⟩:=h;obtain⟨u,w',rfl,⟨t,rfl⟩,⟨t',rfl⟩⟩:=MY r;refine max_two_ints (I.ok.hd hc) λh' tk k=>⟨_,H,I.kept k,?_,q⟩
 by_cases hj:j>i
 ·rw [R6 hj,R6 hj];exact⟨_,rfl⟩
 ·rw [R9 hj,R9 hj];exact⟨_,rfl⟩
def Λ:Ú X (.type "int") (λxs H Q=>(∃i,xs= [.int i]/\Q (.int i) H)\/ ∃k,xs= [.bl k]/\Q (.int (if k then 1 else 0)) H):=by
 intro À s σ H xs us Q I r h;rcases h with ⟨i,rfl,q⟩|⟨k,rfl,q⟩
 ·obtain⟨u,rfl,t,rfl⟩:=vH r;exact call_int_int ⟨.int i,H,I,⟨_,rfl⟩,q⟩
 ·obtain⟨u,rfl,r1⟩:=vH r;cases r1;exact call_int_bool ⟨.int (if k then 1 else 0),H,I.tok _,⟨_,rfl⟩,q⟩
def ť:Ú X (.builtin "divmod") (λxs H Q=> ∃i j,xs= [.int i,.int j]/\EW i j/\ ∀p,H p=none->Q (.ref p) (upd H p (.tup [.int (i / j),.int (i%j)]))):=by
 intro À s σ H xs us Q I r h;obtain⟨i,j,rfl,⟨h1,h2⟩,q⟩:=h;obtain⟨u,w',rfl,⟨t,rfl⟩,⟨t',rfl⟩⟩:=MY r;refine divmod_int (by omega) ?_ (.inl (PyProof.noPylong_small (by omega)));rw [iW i (by omega),iY i (by omega)];have hn:H s.heap.objs.size=none:=I.hok.fresh (P2 _);refine⟨.ref s.heap.objs.size,_,?_,rfl,q _ hn⟩;refine I.laid (λb o e=>G6 _ e) (P2 _) ⟨by simp only [D2,N8];rw [rT];decide,[.int (i / j) s.toks,.int (i%j) (s.toks+1)],.cons ⟨_,rfl⟩ (.cons ⟨_,rfl⟩ .nil),?_⟩;exact⟨_,R0 s.heap rfl,rfl,rfl,0,rfl⟩
end
structure X0O (h:L8)(x dx C:P3)(mA:Str->P9 G2):Prop where
 obj:h.get? x=some (mY C dx)
 ns:h.Ns1 dx mA
 ne:dx≠x
def PU {dx:P3}{mA:Str->P9 G2}(n:h.Ns1 dx mA): ∃od,h.get? dx=some od/\ ∀name,nY name od=some (mA name):=by
 obtain⟨o,es,ep,ho,hd,hk,_,hm⟩:=n;refine⟨o,ho,λname=> ?_⟩;have e:=hm name;unfold nsFind findBy at e;rw [<-Array.find?_toList] at e;unfold nY;rw [hd];dsimp only;split
 ·rename_i y q;rw [q] at e;exact congrArg some e
 ·rename_i q;rw [q] at e;have a:es.toList.any (·.refKey)=false:=by
   rw [List.any_eq_false];intro y hy;obtain⟨z,t,X1w⟩:=hk y (nZ.mp hy);simp [DictEntry.refKey,X1w]
  have a': ¬es.toList.any (·.refKey)=true:=by rw [a];exact R5
  rw [R9 a'];exact congrArg some e
def X0O.look {x dx C:P3}{mA:Str->P9 G2}(I:X0O h x dx C mA): ∃od,G0P h x (mY C dx) C (some od)/\ ∀name,nY name od=some (mA name):=
 let ⟨od,ho,hl⟩:=PU I.ns
 ⟨od,⟨I.obj,rfl,rfl,ho⟩,hl⟩
section
variable {P:S6}{w:B3}{H H':Hp}{h h':L8}{a C dx:P3}{fs fs':G0 (Str×V)}
def CQ (hok:ď P w H h)(e:H a=some (.ins C dx fs)): ∃mA,X0O h a dx C mA/\(∀f,Si (fs.lookup f) (mA f))/\xG mA (fs.map (·.1))/\fs.length<=1000/\H dx=some (.own a):=by
 obtain⟨d,z,ne,ob,mA,n,r,q⟩:=(show Ñ P w H h a (.ins C dx fs) from hok a _ e);exact⟨mA,⟨ob,n,ne⟩,r,q,z,d⟩
end
structure Cls (K:G7)(C:P3):Prop where
 pg:rD K C xD=true
 hd:G0s K C=true
 po:G0t K C=true
 sa:tN K (.ref C) "__setattr__" =some (some (.builtin "object.__setattr__"))
def Cls.get {C:P3}(c:Cls K C)(f:Str):rD K C f=true:=c.pg
section
variable {X:Cx}{À:G0 (P3×Obj)}{σ:St}{H:Hp}{s:G3}{A:N4}{E:G2->G3->Prop}{Q:G2->G3->Prop}{c:G2}{b:N0}
inductive Ė (K:G7)(H:Hp):V->G2->Prop where
 |non:Ė K H .non (.type "NoneType")
 |bl (x:N0):Ė K H (.bl x) (.type "bool")
 |int (i:P4):Ė K H (.int i) (.type "int")
 |str (x:Str):Ė K H (.str x) (.type "str")
 |flt (x:UInt64):Ė K H (.flt x) (.type "float")
 |lst {a:P3} {xs:G0 V} (e:H a=some (.lst xs)):Ė K H (.ref a) (.type "list")
 |frz {a:P3} {o:Obj} {xs:G0 V} (e:H a=some (.frz o (.lst xs))):Ė K H (.ref a) (.type "list")
 |tup {a:P3} {xs:G0 V} (e:H a=some (.tup xs)):Ė K H (.ref a) (.type "tuple")
 |dK {a:P3} {Ï:G0 (Ą×V)} (e:H a=some (.dK Ï)):Ė K H (.ref a) (.type "dict")
 |dT {a:P3} {Ï:G0 (G0 Ą×V)} (e:H a=some (.dT Ï)):Ė K H (.ref a) (.type "dict")
 |ins {a C dx:P3} {fs:G0 (Str×V)} (e:H a=some (.ins C dx fs)) (cl:Cls K C) (ha:tN K (.ref C) "__class__" =some (some (.builtin "object.__class__")))
  (hn:G0u K (.builtin "object.__class__") "__get__" =some (some (.builtin "getset_descriptor.__get__"))) (htk:G0K K (.builtin "object.__class__")=some true)
  (hm:G02 K C (.type "object")=some true):Ė K H (.ref a) (.ref C)
def PV {x:V}{u t:G2}(I:Inv X À σ H s)(rx:RelV x u)(ty:Ė X.K H x t)(e:n5 X.K t c=some b)(h: ∀tk,Q (.bool b) {s with toks:=tk}):
 D8 (R3 X.prog X.w) A (call (.builtin "isinstance") [u,c]) Q E s:=by
 cases ty with
 |non=>cases (show u=iQ from rx);exact U2 G0v I.kIn cJ e (λz=>nomatch z) h
 |bl y=>cases (show u=iR y from rx);exact U2 G0w I.kIn cJ e (λz=>nomatch z) h
 |int i=>obtain⟨t,q⟩:=(show ∃t,u=gQ i t from rx);cases q;exact U2 G0C I.kIn cJ e (λz=>nomatch z) h
 |str y=>obtain⟨t,q⟩:=(show ∃t,u=l8 y t from rx);cases q;exact U2 G0D I.kIn cJ e (λz=>nomatch z) h
 |flt y=>obtain⟨t,q⟩:=(show ∃t,u=x5 y t from rx);cases q;exact U2 IZ I.kIn cJ e (λz=>nomatch z) h
 | @lst a xs ea=>
  cases (show u=A6 a from rx);obtain⟨_,_,n,_,h1⟩:=(show Ñ X.prog X.w H s.heap a (.lst xs) from I.hok a _ ea);exact U2 qD I.kIn ⟨_,h1,rfl⟩ e (λz=>nomatch z) h
 | @frz a ob xs ea=>
  cases (show u=A6 a from rx);obtain⟨_,_,_,n,_,h1⟩:=(show Ñ X.prog X.w H s.heap a (.frz ob (.lst xs)) from I.hok a _ ea);exact U2 qD I.kIn ⟨_,h1,rfl⟩ e (λz=>nomatch z) h
 | @tup a xs ea=>
  cases (show u=A6 a from rx);obtain⟨_,_,_,p⟩:=(show Ñ X.prog X.w H s.heap a (.tup xs) from I.hok a _ ea);obtain⟨o,h1,h2,_⟩:=p;exact U2 G0a I.kIn ⟨o,h1,h2⟩ e (λz=>nomatch z) h
 | @dK a Ï ea=>
  cases (show u=A6 a from rx);obtain⟨_,_,vs,_,p⟩:=(show Ñ X.prog X.w H s.heap a (.dK Ï) from I.hok a _ ea);obtain⟨o,es,ep,h1,h2,_⟩:=p;exact U2 qE I.kIn ⟨o,h1,h2.1⟩ e (λz=>nomatch z) h
 | @dT a Ï ea=>
  cases (show u=A6 a from rx);obtain⟨_,_,xs,_,o,es,ep,h1,h2,_⟩:=(show Ñ X.prog X.w H s.heap a (.dT Ï) from I.hok a _ ea);exact U2 qE I.kIn ⟨o,h1,h2.1⟩ e (λz=>nomatch z) h
 | @ins a C dx fs ea cl ha hn htk hm=>
  cases (show u=A6 a from rx);obtain⟨mA,O,_⟩:=CQ I.hok ea;obtain⟨od,J,_⟩:=O.look;exact U2 (G0E (cl.get _) cl.hd ha hn htk hm) I.kIn J e (λz=>nomatch z) h
end
structure Û (k:G8)(A:N4):Prop where
 hd:A.handled=none
 dp:A.depth+3*k+5<recursionLimit
 un:A.units+16*k+200<cLine
 gd:A.guards=some []
variable {k:G8}
def Û.deeper (r:Û (k+1) A)(env:Env):Û k (A.deeper env):=
 ⟨r.hd,by have:=r.dp;show A.depth+1+3*k+5<_;omega,by have:=r.un;show A.units+3+16*k+200<_;omega,r.gd⟩
def Û.depth (r:Û k A):A.depth<recursionLimit:=by have:=r.dp;omega
def Û.units (r:Û k A):A.units+64<cLine:=by have:=r.un;omega
def Hs:TA:=λ_ H Q=>Q [] H
def OQ (ta:TE)(tr:TA):TA:=λσ H Q=>ta σ H λx H1=>tr σ H1 λxs H2=>Q (x::xs) H2
section
variable {X:Cx}{e:M6}{es:G0 M6}{te:TE}{t:TA}{pos:Pos}
def ē:PA X [] Hs:=λ_ _ _ _ H Q I h=>Calls.spliced_nil ⟨[],H,I,.nil,h⟩
def yf (ha:PE X e te)(hr:PA X es t)(hs:R8 (e::es) X.env=(false,J3 e X.env)::R8 es X.env:=by rfl):PA X (e::es) (OQ te t):=by
 intro pos À s σ H Q I h;rw [hs];show D8 _ _ (spliced ((false,J3 e X.env)::U9 pos (R8 es X.env))) _ _ s;refine Calls.spliced_cons (Ó (ha À s σ H _ I h) λu s1 ⟨x,H1,I1,r1,q1⟩=> ?_);exact Ó (hr pos À s1 σ H1 _ I1 q1) λus s2 ⟨xs,H2,I2,r2,q2⟩=>⟨x::xs,H2,I2,.cons r1 r2,q2⟩
def Ht (t:TA):TE:=λσ H Q=>t σ H λxs H1=>xs.length<=sizeLine/\ ∀p,H1 p=none->Q (.ref p) (upd H1 p (.tup xs))
def Hu (t:TA):TE:=λσ H Q=>t σ H λxs H1=>xs.length<=sizeLine/\ ∀p,H1 p=none->Q (.ref p) (upd H1 p (.lst xs))
def OR {x1}(h:PA X es t):PE X (.Tuple es x1 pos) (Ht t):=by
 intro À s σ H Q I hq;refine wpAny_Tuple_spliced (Ó (h pos À s σ H _ I hq) λus s1 ⟨xs,H1,I1,r,z,q⟩=>⟨by rw [<-r.length];exact z,?_⟩);have hf:H1 s1.heap.objs.size=none:=I1.hok.fresh (P2 _);refine⟨.ref s1.heap.objs.size,upd H1 s1.heap.objs.size (.tup xs),I1.laid (t':=s1.toks) (λb u e=>G6 _ e) (P2 _) ?_,rfl,q _ hf⟩;exact⟨z,us,r,ë.new _ _⟩
def OS (h:PA X es t):PE X (.List es pos) (Hu t):=by
 intro À s σ H Q I hq;refine wpAny_List_spliced (Ó (h pos À s σ H _ I hq) λus s1 ⟨xs,H1,I1,r,z,q⟩=>⟨by rw [<-r.length];exact z,?_⟩);have hf:H1 s1.heap.objs.size=none:=I1.hok.fresh (P2 _);refine⟨.ref s1.heap.objs.size,upd H1 s1.heap.objs.size (.lst xs),I1.laid (t':=s1.toks) (λb u e=>G6 _ e) (P2 _) ?_,rfl,q _ hf⟩;exact⟨z,us,0,r,R0 _ rfl⟩
end
abbrev Sp:=G0 V->Hp->VK->XK->Prop
abbrev CXT:=G0 Env->Hp->G3->XK->G2->G3->Prop
structure X0F (P:S6)(w:B3)(K:G7)(mg:Str->P9 G2)(base:L8)(A:N4)(outer:G0 Env)(s:G3)(H:Hp):Prop where
 frames:A.frames=some outer
 mod:Mod K mg base
 bs: ∀b o,base.get? b=some o->s.heap.get? b=some o/\H b=none
 bsz:base.objs.size<=s.heap.objs.size
 funs:s.heap.FunFrames base outer
 frf: ∀b∈Ι outer,H b=none
 hok:ď P w H s.heap
 bare:lD s.gens
def CE (outer:G0 Env)(P:S6)(w:B3)(H:Hp)(s:G3)(Q:VK)(u:G2)(s':G3):Prop:=
 ∃v H',s'.os=s.os/\lD s'.gens/\Un (Ι outer) [] H H' s.heap s'.heap/\ď P w H' s'.heap/\RelV v u/\Q v H'
def CR (CX:CXT)(outer:G0 Env)(P:S6)(w:B3)(H:Hp)(s:G3)(Q:VK)(E:XK)(r:n6)(s':G3):Prop:=
 match r with
 | .ok (.ret u)=>CE outer P w H s Q u s'
 | .ok _=>False
 | .error e=>CX outer H s E e s'
structure Î (P:S6)(w:B3)(K:G7)(mg:Str->P9 G2)(base:L8)(CX:CXT)(k:G8)(f:P3)(fd:C3)(ps:G0 Str)(sp:Sp):Prop where
 len: ∀vs H Q E,sp vs H Q E->vs.length=ps.length
 run: ∀ (A:N4) (outer:G0 Env) (s:G3) (H:Hp) (args:Args) (us:G0 G2) (vs:G0 V) (Q:VK) (E:XK),Û k A->X0F P w K mg base A outer s H->tE s fd args (ps.zip us)->Æ vs us->sp vs H Q E->
  bR (R3 P w) A (.call (.ref f) args) (CR CX outer P w H s Q E) s
section
variable {X:Cx}{À:G0 (P3×Obj)}{σ:St}{H:Hp}{s s':G3}
def Inv.env0 (I:Inv X À σ H s):X0F X.prog X.w X.K X.mg X.base X.A X.stack s H:=
 ⟨I.ok.frames,I.ok.mod,I.bs,R1 I.ok.bsz I.sz,I.stack,I.stkFree,I.hok,I.bare⟩
def Inv.after {Q:VK}{u:G2}(I:Inv X À σ H s)(h:CE X.stack X.prog X.w H s Q u s'):EP X À σ Q u s':=by
 obtain⟨v,H',os,bare,un,hok,r,q⟩:=h;obtain⟨hh,g,d,t,os'⟩:=s';obtain rfl:os'=s.os:=os;exact⟨v,H',I.call (h':=hh) (g':=g) (d':=d) (t':=t) (ch:= []) un hok bare (λb z=>absurd z (by simp)),r,q⟩
end
def OT (sp:Sp)(dvs:G0 V)(E:XK)(t:TA):TE:=λσ H Q=>t σ H λvs H1=>sp (vs++dvs) H1 Q E
def Binds (K:G7)(fd:C3)(ps:G0 Str)(ds:G0 G2):Prop:=
 ∀ (s:G3) (us:G0 G2),K.In s.heap->(us++ds).length=ps.length->tE s fd ⟨us,[]⟩ (ps.zip (us++ds))
def Binds.all {fd:C3}{ps:G0 Str}(h: ∀us:G0 G2,us.length=ps.length->y9 fd ⟨us,[]⟩=pure (ps.zip us)):Binds K fd ps []:=λs us _ hl=>by
 rw [J8] at hl ⊢;exact .of_eq (h us hl)
def PX (CX:CXT)(X:Cx)(E:XK):Prop:= ∀ (À:G0 (P3×Obj)) (σ:St) (H:Hp) (s:G3) (e:G2) (s':G3),Inv X À σ H s->CX X.stack H s E e s'->X.xe e s'
section
variable {X:Cx}{CX:CXT}{k:G8}{f C:P3}{fd:C3}{ps:G0 Str}{sp:Sp}{dvs:G0 V}{ds:G0 G2}{E:XK}{x m:Str}{p pos apos:Pos}{e o:M6}{es:G0 M6}{ta:TE}{t:TA}
def OU {À:G0 (P3×Obj)}{σ:St}{H:Hp}{s:G3}{Q:VK}{us:G0 G2}{vs:G0 V}(F:Î X.prog X.w X.K X.mg X.base CX k f fd ps sp)(hr:Û k X.A)(hb:Binds X.K fd ps ds)(hd:Æ dvs ds)(hx:PX CX X E)
 (I:Inv X À σ H s)(r:Æ vs us)(h:sp (vs++dvs) H Q E):D8 (R3 X.prog X.w) X.A (call (.ref f) us) (EP X À σ Q) X.xe s:=by
 have r2:Æ (vs++dvs) (us++ds):=r.append hd;have hl:(us++ds).length=ps.length:=by rw [<-r2.length];exact F.len _ _ _ _ h
 refine mJ (iJ (F.run X.A X.stack s H ⟨us,[]⟩ (us++ds) (vs++dvs) Q E hr I.env0 (hb s us I.kIn hl) r2 h) λr s' hq=> ?_);cases r with
 |error e=>exact hx À σ H s e s' I hq
 |ok fl=>
  cases fl with
  |ret u=>exact I.after hq
  |next=>exact False.elim hq
  |brk=>exact False.elim hq
  |cont=>exact False.elim hq
def CS (F:Î X.prog X.w X.K X.mg X.base CX k f fd ps sp)(hr:Û k X.A)(hg:Gl X x)(hm:X.mg x=some (.ref f))(hk:cB X.K (.ref f)=true)(hb:Binds X.K fd ps ds)(hd:Æ dvs ds)(hx:PX CX X E)
 (ha:PA X (e::es) t)(hdb:(x==("__debug__" :Str))=false:=by decide)(he:R8 (e::es) X.env=(false,J3 e X.env)::R8 es X.env:=by rfl)(hpl:(U9 pos (R8 es X.env)).any (·.1)=false:=by rfl):
 PE X (.Call (.Name x p) (e::es) [] pos) (OT sp dvs E t):=by
 intro À s σ H Q I h;refine i0 (PK I hg hm ?_ hdb);refine G0b (h₀:=X.base) I.ok.mod.kin hk (Ó (ha pos À s σ H _ I h) λus s1 ⟨vs,H1,I1,r,q⟩=>⟨I1.kIn,?_⟩) he hpl;exact OU F hr hb hd hx I1 r q
end
structure Ã (N P:G0 Str)(sc:Y5):Prop where
 kind:sc.kind= .function
 co:sc.isCoroutine=false
 gen:sc.isGenerator=false
 nd:N.Nodup
 pre:N.take P.length=P
 par: ∀x∈P,sc.names.lookup x=some .local\/sc.names.lookup x=some .cell
 nofree: ∀y∈sc.names,y.2≠ .free
variable {kindOf:Str->P9 NameKind}{x:Str}
theorem VG: ∀ {binds:G0 (Str×G2)} {m:Str->P9 G2},(∀v,(x,v) ∉ binds)->tO kindOf binds m x=m x
 | [],_,_=>rfl
 |(n,v)::r,m,h=>by
  unfold tO;rw [VG λw hw=>h w (S1 _ hw)];split
  ·have:x≠n:=by rintro rfl;exact h v D3
   simp [this]
  ·rfl
theorem VH: ∀ {binds:G0 (Str×G2)} {m:Str->P9 G2},(∀v,(x,v) ∉ binds)->tP kindOf binds m x=m x
 | [],_,_=>rfl
 |(n,v)::r,m,h=>by
  unfold tP;rw [VH λw hw=>h w (S1 _ hw)];split
  ·rfl
  ·have:x≠n:=by rintro rfl;exact h v D3
   simp [this]
theorem VI {v:G2}: ∀ {P:G0 Str} {vs:G0 G2} {i:G8} {m:Str->P9 G2},P.Nodup->P[i]? =some x->vs[i]? =some v->kindOf x=some .local->
 tO kindOf (P.zip vs) m x=some v
 | [],_,_,_,_,h,_,_=>by simp at h
 |_::_,[],_,_,_,_,h,_=>by simp at h
 |p::P,w::vs,0,m,nd,h1,h2,hk=>by
  simp at h1 h2;subst h1;subst h2;show tO kindOf ((p,w)::P.zip vs) m p=_;unfold tO;rw [VG λv hv=>(V9.mp nd).1 (mZ hv).1,R6 hk];simp
 |p::P,w::vs,i+1,m,nd,h1,h2,hk=>by
  show tO kindOf ((p,w)::P.zip vs) m x=_;unfold tO;exact VI (i:=i) (V9.mp nd).2 (by simpa using h1) (by simpa using h2) hk
theorem VJ {v:G2}: ∀ {P:G0 Str} {vs:G0 G2} {i:G8} {m:Str->P9 G2},P.Nodup->P[i]? =some x->vs[i]? =some v->kindOf x≠some .local->
 tP kindOf (P.zip vs) m x=some v
 | [],_,_,_,_,h,_,_=>by simp at h
 |_::_,[],_,_,_,_,h,_=>by simp at h
 |p::P,w::vs,0,m,nd,h1,h2,hk=>by
  simp at h1 h2;subst h1;subst h2;show tP kindOf ((p,w)::P.zip vs) m p=_;unfold tP;rw [VH λv hv=>(V9.mp nd).1 (mZ hv).1,R9 hk];simp
 |p::P,w::vs,i+1,m,nd,h1,h2,hk=>by
  show tP kindOf ((p,w)::P.zip vs) m x=_;unfold tP;exact VJ (i:=i) (V9.mp nd).2 (by simpa using h1) (by simpa using h2) hk
noncomputable def start (N:G0 Str)(vs:G0 V):St:=vs.map some++T4 (N.length-vs.length) none
noncomputable def MZ (CX:CXT)(P:S6)(w:B3)(K:G7)(mg:Str->P9 G2)(base:L8)(N:G0 Str)(qual:Str)(scope:Y5)(f:P3)(cd:G2)(A:N4)(outer:G0 Env)(s:G3)(H:Hp)(E:XK):Cx where
 prog:=P
 w:=w
 K:=K
 mg:=mg
 base:=base
 A:=A.deeper (i3 qual scope s.heap.objs.size f cd)
 N:=N
 s₀:=s
 H₀:=H
 env:=i3 qual scope s.heap.objs.size f cd
 outer:=outer
 stack:=i3 qual scope s.heap.objs.size f cd::outer
 ex:= []
 calm:=true
 fn:=λ_=>true
 pn:= []
 xe:=λe s'=>D8 (R3 P w) (A.deeper (i3 qual scope s.heap.objs.size f cd)) (leaving (i3 qual scope s.heap.objs.size f cd) e) (λ_ s''=>CX outer H s E e s'') (λe' s''=>CX outer H s E e' s'') s'
def Jc {sc:Y5}{n:G8}(h:sc.names.lookup x=some .cell): ∃c,(Y2 n sc.names []).lookup x=some c:=by
 have q:=mK sc.names n [] (.inl h);exact lK.mp q
def PY {CX:CXT}{mg:Str->P9 G2}{base:L8}{N ps:G0 Str}{qual:Str}{scope:Y5}{f:P3}{cd:G2}{outer:G0 Env}{s1:G3}{E:XK}{us:G0 G2}{vs:G0 V}
 (S:Ã N ps scope)(hd:A.handled=none)(e0:X0F P w K mg base A outer s H)(hl:vs.length=ps.length)(r:Æ vs us)
 (x:InCallC s s.heap.objs.size (tO (i3 qual scope s.heap.objs.size f cd).kindOf (ps.zip us) λ_=>none) (Y2 (s.heap.objs.size+1) scope.names []) (tP (i3 qual scope s.heap.objs.size f cd).kindOf (ps.zip us) λ_=>none) s1):
 Inv (MZ CX P w K mg base N qual scope f cd A outer s H E) [] (start N vs) H s1:=by
 have hpl:ps.length<=N.length:=by have:=congrArg aA S.pre;rw [T3] at this;omega
 obtain⟨h1,tk,rfl,hk⟩:=x.done;have noA: ∀b:P3,b ∉ (MZ CX P w K mg base N qual scope f cd A outer s H E).ex:=λb z=>absurd (show b∈([]:G0 P3) from z) (by simp)
 refine⟨⟨e0.mod,S.kind,rfl,rfl,P2 _,λy z c h1 h2=> ?_,λy hy=> ?_,λy c _ h=> ?_,λ_=>hd,Around.frames_deeper e0.frames,.inr ⟨rfl,rfl⟩,λb z=>absurd z (noA b),e0.bs,e0.bsz,λb _ _=>noA b,λb z=>absurd z (noA b),e0.funs,e0.frf⟩,
  rfl,e0.bare,Un.kept hk,⟨_,x.toInCall.ns,λi y v h1 h2 h3=> ?_⟩,λy c h=>⟨_,x.cell y c h⟩,e0.hok.fresh (P2 _),λy c h=> ?_,λp hp=>absurd (show p∈([]:G0 (P3×Obj)) from hp) (by simp),e0.hok.kept hk,?_⟩
 ·exact qF x.apart (b8 h1) (b8 h2)
 ·have hy:scope.names.lookup y=some .cell\/scope.names.lookup y=some .free:=hy;rcases hy with hy|hy
  ·exact Jc hy
  ·exact absurd rfl (S.nofree _ (b8 hy))
 ·exact T8 (x.above y c (b8 h))
 ·have hi:i<vs.length:=by
   unfold start at h2
   by_cases hi:i<vs.length
   ·exact hi
   ·rw [B6 (by simpa using hi)] at h2;rw [l9] at h2;split at h2<;>cases h2
  have ha:vs[i]? =some v:=by
   unfold start at h2;rw [F4 (by simpa using hi),P7] at h2;cases e:vs[i]? with
   |none=>rw [e] at h2;cases h2
   |some a=>rw [e] at h2;cases h2;rfl
  obtain⟨u,hu,rv⟩:=r.get ha;have hp:ps[i]? =some y:=by
   rw [<-S.pre,eQ (by omega)];exact h1
  have ndP:ps.Nodup:=by rw [<-S.pre];exact S.nd.sublist (V1 _ _)
  refine⟨u,rv,?_⟩;rcases S.par y (P6 hp) with k|k
  ·exact .inl ⟨k,VI ndP hp hu k⟩
  ·obtain⟨c,e⟩:=Jc (n:=s.heap.objs.size+1) k;refine .inr ⟨.inl k,c,e,?_⟩;have q:=x.cell y c e;rw [VJ ndP hp hu (by show scope.names.lookup y≠_;rw [k];decide)] at q;exact q
 ·exact e0.hok.fresh (T8 (x.above y c (b8 h)))
 ·unfold start;show _=N.length;rw [P1,G1,cS];omega
def Sz {CX:CXT}{mg:Str->P9 G2}{base:L8}{f:P3}{name qual:Str}{params:Arguments}{body:G0 K9}{scope:Y5}{dV kV doc pm ø ct oc:G2}{an od:P9 P3}{ŵ:S5 (P9 G2)}{N ps:G0 Str}{sp:Sp}(lk:K.lookup f=some ⟨oc,od,.func (dN name qual params body scope dV kV doc pm an ø ct),ŵ⟩)(hcd:n8 K ø qual=true)(S:Ã N ps scope)
 (len: ∀vs H Q E,sp vs H Q E->vs.length=ps.length)
 (ė: ∀ (A:N4) (outer:G0 Env) (s:G3) (H:Hp) (vs:G0 V) (Q:VK) (E:XK),Û k (A.deeper (i3 qual scope s.heap.objs.size f ø))->sp vs H Q E->
  ∃t,Ť (MZ CX P w K mg base N qual scope f ø A outer s H E) body t/\t {nx:=λ_ H'=>Q .non H',rt:=Q} (start N vs) H):
 Î P w K mg base CX (k+1) f (dN name qual params body scope dV kV doc pm an ø ct) ps sp:=by
 refine⟨len,λA outer s H args us vs Q E hr e0 hb r hsp=> ?_⟩;have hl:=len _ _ _ _ hsp;have KX:K.In s.heap:=e0.mod.kin.keeps λb o e=>(e0.bs b o e).1
 have lim:s.heap.NoLimit:=e0.mod.nolimit.keeps λb o e=>(e0.bs b o e).1
 have X0P: ∀y∈ps.zip us,scope.names.lookup y.1=some .local\/(scope.names.lookup y.1=some .cell/\((Y2 (s.heap.objs.size+1) scope.names []).lookup y.1).isSome=true):=λ⟨n,v⟩ hy=>by
  rcases S.par n (mZ hy).1 with q|q
  ·exact .inl q
  ·exact .inr ⟨q,mK _ _ _ (.inl q)⟩
 refine codeAny_call_function hr.depth (KX _ _ lk) rfl S.co S.gen rfl (G0c KX hcd) (hb _ _ _ _ ?_);refine wpAny_newFunctionEnv_cells S.kind X0P λenv he s1 x=> ?_
 subst he;refine⟨lim.keeps x.toInCall.keep,codeAny_func ?_⟩;obtain⟨t,ht,hq⟩:=ė A outer s H vs Q E (hr.deeper _) hsp;have I:Inv (MZ CX P w K mg base N qual scope f ø A outer s H E) [] (start N vs) H s1:=PY S hr.hd e0 hl r x;refine T7 (ht [] s1 (start N vs) H _ I hq) (λfl s' hs=> ?_) λe s' hs=>hs
 have fin: ∀ {Â:St} {H':Hp} {v:V} {u:G2},Inv (MZ CX P w K mg base N qual scope f ø A outer s H E) [] Â H' s'->RelV v u->Q v H'->CE outer P w H s Q u s':=
  λ{Â H' v u} J rv q=>⟨v,H',J.os,J.bare,J.base,J.hok,rv,q⟩
 cases fl with
 |ret u=>
  obtain⟨v,Â,H',J,rv,q⟩:=hs;exact fin J rv q
 |next=>
  obtain⟨Â,H',J,q⟩:=hs;exact fin (v:=V.non) (u:=iQ) J rfl q
 |brk=>
  obtain⟨_,_,_,q⟩:=hs;exact False.elim q
 |cont=>
  obtain⟨_,_,_,q⟩:=hs;exact False.elim q
section
variable {X:Cx}{x:Str}{p pos:Pos}{e:M6}{es:G0 M6}{t:TA}{id T:W1}{r:G0 V->Hp->VK->Prop}
def tCB (r:G0 V->Hp->VK->Prop)(t:TA):TE:=λσ H Q=>t σ H λvs H1=>r vs H1 Q
def ZG (hc:Ú X (.builtin id) r)(hg:Gl X x)(hm:X.mg x=none)(hv:V8 x=some (.builtin id))(ha:PA X (e::es) t)(hn:x≠ "__name__" :=by decide)(hdb:(x==("__debug__" :Str))=false:=by decide)
 (he:R8 (e::es) X.env=(false,J3 e X.env)::R8 es X.env:=by rfl)(hpl:(U9 pos (R8 es X.env)).any (·.1)=false:=by rfl):PE X (.Call (.Name x p) (e::es) [] pos) (tCB r t):=by
 intro À s σ H Q I h;refine i0 (Yc I hg hm hv ?_ hn hdb);exact rE (Ó (ha pos À s σ H _ I h) λus s1 ⟨vs,H1,I1,r1,q1⟩=>hc À s1 σ H1 vs us Q I1 r1 q1) he hpl
def ZO (hc:Ú X (.type T) r)(hg:Gl X x)(hm:X.mg x=none)(hv:V8 x=some (.type T))(ha:PA X (e::es) t)(hn:x≠ "__name__" :=by decide)(hdb:(x==("__debug__" :Str))=false:=by decide)
 (he:R8 (e::es) X.env=(false,J3 e X.env)::R8 es X.env:=by rfl)(hpl:(U9 pos (R8 es X.env)).any (·.1)=false:=by rfl):PE X (.Call (.Name x p) (e::es) [] pos) (tCB r t):=by
 intro À s σ H Q I h;refine i0 (Yc I hg hm hv ?_ hn hdb);exact aS (Ó (ha pos À s σ H _ I h) λus s1 ⟨vs,H1,I1,r1,q1⟩=>hc À s1 σ H1 vs us Q I1 r1 q1) he hpl
end
end L2
namespace HT
open PySem PyProof.Rows
noncomputable def zK:G0 P4->G0 P4->N0
 | [],[]=>false
 | [],_::_=>true
 |_::_,[]=>false
 |x::xs,y::ys=>if x=y then zK xs ys else decide (x<y)
section
variable {prog:S6}{w:B3}{A:N4}{E:G2->G3->Prop}{s:G3}
def CT {t b:P3}{vs ws:G0 G2}{Q:G2->G3->Prop}(ht:xB s.heap t vs.toArray)(hb:xB s.heap b ws.toArray)(hv:vs≠ [])
 (h1:ws= []->Q (.ref t) s)(h2:ws≠ []->Q (.ref s.heap.objs.size) {s with heap:=s.heap.push {cls:= .type "tuple",data:= .seq (vs++ws).toArray}})
 (hsz:vs.length+ws.length<=sizeLine):D8 (R3 prog w) A (Q8 .Add (.ref t) (.ref b)) Q E s:=by
 obtain⟨⟨cls,dd,data,sl⟩,ho,hc,n,hd⟩:=id ht;obtain⟨⟨X0Q,ž,G0Q,Α⟩,ho2,hc2,n2,hd2⟩:=id hb;simp only at hc hd hc2 hd2;subst hc hd hc2 hd2;have e:vs.toArray++ws.toArray=(vs++ws).toArray:=by simp
 by_cases hw:ws= []
 ·exact qG ⟨_,ho,rfl⟩ ⟨_,ho2,rfl⟩ mB pG f7 fM (eU _ _)
   (tuple_addW1 t b vs.toArray ws.toArray n n2 dd ž sl Α (by simpa using hv) (by simp [hw])) ⟨ho,ho2,h1 hw⟩
 ·refine qG ⟨_,ho,rfl⟩ ⟨_,ho2,rfl⟩ mB pG f7 fM (eU _ _)
   (tuple_addW2 t b vs.toArray ws.toArray n n2 dd ž sl Α (by simpa using hv) (by simpa using hw) (by rw [D7,D7];exact hsz)) ⟨ho,ho2,?_⟩
  rw [e];exact h2 hw
noncomputable def sIx (n d:G8):P9 P4->G8
 |none=>d
 |some v=>if v<0 then (v+(n:P4)).toNat else min v.toNat n
def OV (n d:G8)(hd:d<=n)(o:P9 P4):sIx n d o<=n:=by
 cases o with
 |none=>exact hd
 |some v=>
  show (if v<0 then (v+(n:P4)).toNat else min v.toNat n)<=n
  by_cases hv:v<0
  ·rw [R6 hv];omega
  ·rw [R9 hv];exact dO _ _
def PZ (v:P4)(n d:G8):(if v<0 then max (v+(n:P4)) 0 else min v (n:P4))=((sIx n d (some v):G8):P4):=by
 show (if v<0 then max (v+(n:P4)) 0 else min v (n:P4))=(((if v<0 then (v+(n:P4)).toNat else min v.toNat n):G8):P4)
 by_cases hv:v<0
 ·simp only [R6 hv];omega
 ·simp only [R9 hv];omega
def GB (lo hi:P9 P4)(n:G8):Y8 lo hi 1 (n:P4)=(((sIx n 0 lo:G8):P4),((sIx n n hi:G8):P4)):=by
 have h1: ¬ ((1:P4)<0):=by omega
 unfold Y8;simp only [h1,mC];refine Prod.ext ?_ ?_
 ·cases lo with
  |none=>rfl
  |some v=>exact PZ v n 0
 ·cases hi with
  |none=>rfl
  |some v=>exact PZ v n n
def GC (i j:G8):E4 (i:P4) (j:P4) 1=j-i:=by
 unfold E4;have h1:(1:P4)>0:=by omega
 simp only [h1,oX,xI];split<;>omega
def Yd {v:G2}{o:P9 P4}{Q:P9 P4->G3->Prop}(p:mL v o)(h:Q o s):D8 (R3 prog w) A (sC v) Q E s:=by
 cases p with
 |none=>exact i4 h
 |int i t=>exact uM h
def yE {sl:P3}{vl vu:G2}{lo hi:P9 P4}{n:G8}{Q:P4×P4×G8->G3->Prop}(hs:s.heap.IsSliceOf sl vl vu .none)(pl:mL vl lo)(pu:mL vu hi)
 (h:Q (((sIx n 0 lo:G8):P4),1,sIx n n hi-sIx n 0 lo) s):D8 (R3 prog w) A (bE (.ref sl) (pure (n:P4))) Q E s:=by
 obtain⟨os,δ,hcs,hds⟩:=id hs;unfold bE kQ;refine wpAny_bind (wpAny_bind (g6 δ hds (x:=vl) rfl (wpAny_bind (g6 δ hds (x:=vu) rfl (wpAny_bind (g6 δ hds (x:= .none) rfl (G9 ?_)))))));refine wpAny_bind (i4 ?_);show D8 _ _ (if ((1:P4)==0)=true then _ else _) _ _ s;rw [R9 (by decide)];refine wpAny_bind (Yd pl (wpAny_bind (Yd pu (wpAny_bind (G9 ?_)))));show D8 _ _ (match Y8 lo hi 1 (n:P4) with|(lo,hi)=>pure (lo,(1:P4),E4 lo hi 1)) _ _ s;rw [GB lo hi n];show D8 _ _ (pure (((sIx n 0 lo:G8):P4),(1:P4),E4 ((sIx n 0 lo:G8):P4) ((sIx n n hi:G8):P4) 1)) _ _ s;rw [GC];exact G9 h
def Na (xs:S5 G2)(i k:G8):((D6 k).filterMap λ(m:G8)=>xs[((i:P4)+(m:P4)*1).toNat]?).toArray=((xs.toList.drop i).take k).toArray:=by
 have e:(λ(m:G8)=>xs[((i:P4)+(m:P4)*1).toNat]?)=λm=>xs[i+m]? :=by
  funext m
  have:((i:P4)+(m:P4)*1).toNat=i+m:=by omega
  rw [this]
 rw [e];have:=pick_run xs i k;rw [pQ] at this;have e2:((λx=>xs[x]?)∘λx=>i+x)=λm=>xs[i+m]? :=rfl
 rw [e2] at this;rw [this]
def JK {t sl:P3}{items:S5 G2}{vl vu:G2}{lo hi:P9 P4}{Q:G2->G3->Prop}(ht:xB s.heap t items)(hs:s.heap.IsSliceOf sl vl vu .none)(pl:mL vl lo)(pu:mL vu hi)
 (hw: ¬ (sIx items.size 0 lo=0/\sIx items.size items.size hi=items.size))
 (h:Q (.ref s.heap.objs.size) {s with heap:=s.heap.push {cls:= .type "tuple",data:= .seq ((items.toList.drop (sIx items.size 0 lo)).take (sIx items.size items.size hi-sIx items.size 0 lo)).toArray}})
 (hsz:items.size<=sizeLine):D8 (R3 prog w) A (gY (.ref t) (.ref sl)) Q E s:=by
 have Ę:sizeOk (.seq ((items.toList.drop (sIx items.size 0 lo)).take (sIx items.size items.size hi-sIx items.size 0 lo)).toArray):=by
  show ((items.toList.drop (sIx items.size 0 lo)).take (sIx items.size items.size hi-sIx items.size 0 lo)).toArray.size<=sizeLine;rw [D7,T3,C0,P8];omega
 have hj:sIx items.size items.size hi<=items.size:=OV _ _ (P2 _) hi;obtain⟨os,δ,hcs,hds⟩:=id hs;have hTs:s.TypeIs (.ref sl) "slice" :=⟨os,δ,hcs⟩;unfold gY
 try with_reducible refine O5 ?_
 first|refine wpAny_bind (G9 ?_)|skip
 refine wpAny_bind (lE ht.typeIs (by decide) ?_);refine wpAny_bind (F5 (name:=W9 "__getitem__") ht.typeIs J4
  (C7 J4 ht.typeIs iH ?_ (i5 _ _)))
 show D8 _ _ (X0 (.ref t) >>= _) _ _ s;refine wpAny_bind (pH ht ?_);refine wpAny_bind (f8 hTs ?_);rw [R6 (by decide)];refine wpAny_bind (yE hs pl pu ?_);have hno: ¬ ((((sIx items.size 0 lo:G8):P4)==0&&(1:P4)==1&&(sIx items.size items.size hi-sIx items.size 0 lo)==items.size)=true):=by
  intro q;rw [N9,N9] at q;have q1:((sIx items.size 0 lo:G8):P4)=0:=eq_of_beq q.1.1;have q2:sIx items.size items.size hi-sIx items.size 0 lo=items.size:=eq_of_beq q.2;exact hw ⟨by omega,by omega⟩
 show D8 _ _ (if (((sIx items.size 0 lo:G8):P4)==0&&(1:P4)==1&&(sIx items.size items.size hi-sIx items.size 0 lo)==items.size)=true then _ else _) _ _ s;rw [R9 hno,Na]
 first
  |exact wpAny_bind (m:=J1 _) (K1 (G9 ⟨_,rfl,G9 h⟩) Ę)
  |exact wpAny_bind (m:=J1 _) (K1 (wpAny_bind (G9 (G9 ⟨_,rfl,G9 h⟩))) Ę)
  |exact wpAny_bind (wpAny_bind (m:=J1 _) (K1 (G9 (G9 ⟨_,rfl,G9 h⟩)) Ę))
  |exact wpAny_bind (wpAny_bind (m:=J1 _) (K1 (G9 ⟨_,rfl,G9 h⟩) Ę))
end
end HT
namespace L2
open PySem PySem.Spec PyProof.Rows
abbrev TO:=St->Hp->(P9 P4->Hp->Prop)->Prop
def PO (X:Cx)(e:P9 M6)(t:TO):Prop:=
 ∀ (À:G0 (P3×Obj)) (s:G3) (σ:St) (H:Hp) (Q:P9 P4->Hp->Prop),Inv X À σ H s->t σ H Q->
  D8 (R3 X.prog X.w) X.A (evalPart e X.env) (λu s'=> ∃o H',Inv X À σ H' s'/\mL u o/\Q o H') X.xe s
def CU:TO:=λ_ H Q=>Q none H
def SA (t:TE):TO:=λσ H Q=>t σ H λx H1=> ∃i,x= .int i/\Q (some i) H1
section
variable {X:Cx}{e:M6}{te:TE}{lo hi:P9 M6}{tl th:TO}{pos p2:Pos}
def X0d:PO X none CU:=by
 intro À s σ H Q I h;rw [pI];exact G9 ⟨none,H,I,.none,h⟩
def CV (h:PE X e te):PO X (some e) (SA te):=by
 intro À s σ H Q I hw;rw [uN];refine Ó (h À s σ H _ I hw) λu s1 ⟨x,H1,I1,r1,q1⟩=> ?_
 obtain⟨i,rfl,q⟩:=q1;obtain⟨t,rfl⟩:=r1;exact⟨some i,H1,I1,.int i t,q⟩
def SlR (X:Cx)(r:V->P9 P4->P9 P4->Hp->VK->Prop):Prop:=
 ∀ (À:G0 (P3×Obj)) (s:G3) (σ:St) (H:Hp) (x:V) (v vl vu:G2) (lo hi:P9 P4) (sl:P3) (Q:VK),Inv X À σ H s->RelV x v->s.heap.IsSliceOf sl vl vu .none->mL vl lo->mL vu hi->r x lo hi H Q->
  ∃T id,G0d (.type T) "__getitem__" =pure (some (.builtin id))/\s.TypeIs v T/\D8 (R3 X.prog X.w) X.A (gY v (.ref sl)) (EP X À σ Q) X.xe s
def SlR.or {r r':V->P9 P4->P9 P4->Hp->VK->Prop}(h:SlR X r)(h':SlR X r'):SlR X (λx lo hi H Q=>r x lo hi H Q\/r' x lo hi H Q):=by
 intro À s σ H x v vl vu lo hi sl Q I rx hs pl pu q;rcases q with q|q
 ·exact h À s σ H x v vl vu lo hi sl Q I rx hs pl pu q
 ·exact h' À s σ H x v vl vu lo hi sl Q I rx hs pl pu q
def tSl (r:V->P9 P4->P9 P4->Hp->VK->Prop)(te:TE)(tl th:TO):TE:=λσ H Q=>te σ H λx H1=>tl σ H1 λl H2=>th σ H2 λu H3=>r x l u H3 Q
def Nb {r:V->P9 P4->P9 P4->Hp->VK->Prop}(hr:SlR X r)(he:PE X e te)(hl:PO X lo tl)(hu:PO X hi th):PE X (.Subscript e (.Slice lo hi none p2) pos) (tSl r te tl th):=by
 intro À s σ H Q I h;refine pR (Ó (he À s σ H _ I h) λv s1 ⟨x,H1,I1,r1,q1⟩=> ?_);refine z6 (Ó (hl À s1 σ H1 _ I1 q1) λvl s2 ⟨l,H2,I2,pl,q2⟩=>Ó (hu À s2 σ H2 _ I2 q2) λvu s3 ⟨u,H3,I3,pu,q3⟩=> ?_);rw [pI];refine G9 ?_;have I4:Inv X À σ H3 {s3 with heap:=s3.heap.push {cls:= .type "slice",data:= .fields #[vl,vu,.none]}}:=I3.kept (t':=s3.toks) λb ob q=>G6 _ q
 obtain⟨T,id,hT,ht,hg⟩:=hr À {s3 with heap:=s3.heap.push {cls:= .type "slice",data:= .fields #[vl,vu,.none]}} σ H3 x v vl vu l u s3.heap.objs.size Q I4 r1 (Heap.IsSliceOf.new ..) pl pu q3;show D8 (R3 X.prog X.w) X.A (lL e (.Slice lo hi none p2) v (.ref s3.heap.objs.size)) (EP X À σ Q) X.xe {s3 with heap:=s3.heap.push {cls:= .type "slice",data:= .fields #[vl,vu,.none]}};exact z7 (ops:= [.ref s3.heap.objs.size,v]) ht hT hg (by with_unfolding_all rfl)
noncomputable def ML (xs:G0 V)(lo hi:P9 P4):G0 V:=(xs.drop (HT.sIx xs.length 0 lo)).take (HT.sIx xs.length xs.length hi-HT.sIx xs.length 0 lo)
def ZP (xs:G0 V)(lo hi:P9 P4):(ML xs lo hi).length<=xs.length:=by
 unfold ML;rw [T3,C0];omega
def Kg (K:G7):V->P9 P4->P9 P4->Hp->VK->Prop:=λx lo hi H Q=> ∃a xs,x= .ref a/\ä K H a xs/\
 ¬ (HT.sIx xs.length 0 lo=0/\HT.sIx xs.length xs.length hi=xs.length)/\ ∀p,H p=none->Q (.ref p) (upd H p (.tup (ML xs lo hi)))
def X0u:SlR X (Kg X.K):=by
 intro À s σ H x v vl vu lo hi sl Q I rx hs pl pu h;obtain⟨a,xs,rfl,hx,hw,q⟩:=h;cases rx;obtain⟨its,r,ht,hz⟩:=I.tuple hx;have hlen:its.toArray.size=xs.length:=by rw [D7];exact r.length.symm
 refine⟨"tuple",_,PyProof.Rows.slot_tuple_getitem.lookup,ht.typeIs,?_⟩;refine HT.JK ht hs pl pu (by rw [hlen];exact hw) ?_ (by rw [hlen];exact hz);rw [hlen];refine⟨.ref s.heap.objs.size,_,I.laid (t':=s.toks) (o:= .tup (ML xs lo hi)) (λb ob q=>G6 _ q) (P2 _) ?_,rfl,q _ (I.hok.fresh (P2 _))⟩;exact⟨R1 (ZP xs lo hi) hz,_,(r.drop (HT.sIx xs.length 0 lo)).take (HT.sIx xs.length xs.length hi-HT.sIx xs.length 0 lo),ë.new _ _⟩
def SB (K:G7):R2:=λx y H Q=> ∃a b xs ys,x= .ref a/\y= .ref b/\ä K H a xs/\ä K H b ys/\xs≠ []/\xs.length+ys.length<=sizeLine/\
 (ys= []->Q (.ref a) H)/\(ys≠ []-> ∀p,H p=none->Q (.ref p) (upd H p (.tup (xs++ys))))
def Æ.nil_iff {xs:G0 V}{us:G0 G2}(r:Æ xs us):us= []↔xs= []:=by
 cases r with
 |nil=>simp
 |cons _ _=>simp
def X0e:ā X (Q8 .Add) (SB X.K):=by
 intro À s σ H x y v u Q I rx ry h;obtain⟨a,b,xs,ys,rfl,rfl,ha,hb,hx,hz,q1,q2⟩:=h;cases rx;cases ry;obtain⟨its,r1,p1,_⟩:=I.tuple ha;obtain⟨ġ,r2,p2,_⟩:=I.tuple hb;refine HT.CT p1 p2 (λz=>hx (r1.nil_iff.mp z)) (λz=>⟨.ref a,H,I,rfl,q1 (r2.nil_iff.mp z)⟩) (λz=> ?_) (by rw [<-r1.length,<-r2.length];exact hz);refine⟨.ref s.heap.objs.size,_,I.laid (t':=s.toks) (o:= .tup (xs++ys)) (λb ob q=>G6 _ q) (P2 _) ?_,rfl,q2 (λw=>z (r2.nil_iff.mpr w)) _ (I.hok.fresh (P2 _))⟩;exact⟨by rw [P1];exact hz,_,r1.append r2,ë.new _ _⟩
end
noncomputable def Β (n:G8)(i:P4):P9 G8:=if 0<=i then (if i<n then some i.toNat else none) else if-(n:P4)<=i then some (i+n).toNat else none
noncomputable def Ģ {α:Type}(xs:G0 α)(i:P4):P9 α:=(Β xs.length i).bind λj=>xs[j]?
def Da {n:G8}{i:P4}{j:G8}(h:Β n i=some j):seqIndex? i n=some j/\j<n/\ -(n:P4)<=i/\i<n:=by
 unfold Β at h
 by_cases h0:0<=i
 ·rw [R6 h0] at h
  by_cases h1:i<n
  ·rw [R6 h1] at h;have e:i.toNat=j:=O0 h;exact⟨by rw [rV h0 h1,e],by omega,by omega,h1⟩
  ·rw [R9 h1] at h;cases h
 ·rw [R9 h0] at h
  by_cases h1: -(n:P4)<=i
  ·rw [R6 h1] at h;have e:(i+n).toNat=j:=O0 h;exact⟨by rw [qH (by omega) h1,e],by omega,h1,by omega⟩
  ·rw [R9 h1] at h;cases h
def Xg {α:Type}{xs:G0 α}{i:P4}{v:α}(h:Ģ xs i=some v): ∃j,seqIndex? i xs.length=some j/\xs[j]? =some v/\j<xs.length/\ -(xs.length:P4)<=i/\i<xs.length:=by
 unfold Ģ at h;cases e:Β xs.length i with
 |none=>rw [e] at h;cases h
 |some j=>
  rw [e] at h;obtain⟨h1,h2,h3,h4⟩:=Da e;exact⟨j,h1,h,h2,h3,h4⟩
def wJ {α:Type}{xs:G0 α}{j:G8}{v:α}(h:xs[j]? =some v):Ģ xs (j:P4)=some v:=by
 have hj:j<xs.length:=(P5.mp h).1;have e:Β xs.length (j:P4)=some j:=by
  unfold Β;rw [R6 (by omega),R6 (by omega)];simp
 unfold Ģ;rw [e];exact h
def YD (b:M6):Prop:= ∀o i,n9 b false o i=G0x [o,i] (gY o i)
def IxR (X:Cx)(r:R2):Prop:=
 ∀ (value slice:M6) (À:G0 (P3×Obj)) (s:G3) (σ:St) (H:Hp) (x y:V) (v u:G2) (Q:VK),Inv X À σ H s->RelV x v->RelV y u->r x y H Q->
  n9 slice false v u=G0x [v,u] (gY v u)->D8 (R3 X.prog X.w) X.A (lL value slice v u) (EP X À σ Q) X.xe s
def MtR (X:Cx)(id:W1)(r:V->G0 V->Hp->VK->Prop):Prop:=
 ∀ (À:G0 (P3×Obj)) (s:G3) (σ:St) (H:Hp) (x:V) (xs:G0 V) (v:G2) (us:G0 G2) (Q:VK),Inv X À σ H s->RelV x v->Æ xs us->r x xs H Q->
  D8 (R3 X.prog X.w) X.A (call (.builtin id) (v::us)) (EP X À σ Q) X.xe s
section
variable {X:Cx}{a b:M6}{ta tb:TE}{pos:Pos}
def IxR.or {r r':R2}(h:IxR X r)(h':IxR X r'):IxR X (λx y H Q=>r x y H Q\/r' x y H Q):=by
 intro value slice À s σ H x y v u Q I rx ry q hs;rcases q with q|q
 ·exact h value slice À s σ H x y v u Q I rx ry q hs
 ·exact h' value slice À s σ H x y v u Q I rx ry q hs
def SC {r:R2}(hr:IxR X r)(ha:PE X a ta)(hb:PE X b tb)(hs:YD b):PE X (.Subscript a b pos) (tOp r ta tb):=by
 intro À s σ H Q I h;exact pR (So ha hb I h λv u s2 x y H2 I2 rx ry q=>hr a b À s2 σ H2 x y v u Q I2 rx ry q (hs _ _))
def Hv (K:G7):R2:=λx y H Q=> ∃p xs i v,x= .ref p/\y= .int i/\ê K H p xs/\Ģ xs i=some v/\Q v H
def Hw (K:G7):R2:=λx y H Q=> ∃p xs i v,x= .ref p/\y= .int i/\ä K H p xs/\Ģ xs i=some v/\Q v H
def Hx:R2:=λx y H Q=> ∃z i c,x= .str z/\y= .int i/\z.length<=sizeLine/\Ģ z.cps.toList i=some c/\Q (.str ⟨#[c]⟩) H
def X0f:IxR X (Hv X.K):=by
 intro value slice À s σ H x y v u Q I rx ry h hs;obtain⟨p,xs,i,z,rfl,rfl,hq,he,q⟩:=h;cases rx;obtain⟨t,rfl⟩:=ry;obtain⟨its,r,pl,hz⟩:=I.list hq;obtain⟨j,h1,h2,h3,h4,h5⟩:=Xg he;obtain⟨w,ew,rw'⟩:=r.get h2;have hl:=r.length;have hn:=VF;have fin:EP X À σ Q w s:=⟨z,H,I,rw',q⟩
 by_cases h0:0<=i
 ·have hj:i.toNat=j:=by
   rw [rV h0 h5] at h1;exact O0 h1
  exact item_listR pl.isList h0 (by omega) (by rw [hj];simpa using ew) fin hs
 ·have hj:(i+(its.toArray.size:P4)).toNat=j:=by
   rw [qH (by omega) h4] at h1;rw [D7,<-hl];exact O0 h1
  exact mM (x:=w) pl.isList.typeIs slot_list_getitem.lookup
   (wpAny_getItem_list_neg (Q:=λr s'=>r=w/\EP X À σ Q r s') pl.isList (by omega) (by rw [D7]<;>omega) (by omega) (by rw [hj];simpa using ew) ⟨rfl,fin⟩) hs
def X0v:IxR X (Hw X.K):=by
 intro value slice À s σ H x y v u Q I rx ry h hs;obtain⟨p,xs,i,z,rfl,rfl,hq,he,q⟩:=h;cases rx;obtain⟨t,rfl⟩:=ry;obtain⟨its,r,pl,hz⟩:=I.tuple hq;obtain⟨j,h1,h2,h3,h4,h5⟩:=Xg he;obtain⟨w,ew,rw'⟩:=r.get h2;have hl:=r.length;have hn:=VF;have fin:EP X À σ Q w s:=⟨z,H,I,rw',q⟩;exact mM (x:=w) pl.typeIs slot_tuple_getitem.lookup
  (getItem_tuple (j:=j) (Q:=λr s'=>r=w/\EP X À σ Q r s') pl (by omega) (by omega) (by rw [D7,<-hl];exact h1) (by simpa using ew) ⟨rfl,fin⟩) hs
def OW:IxR X Hx:=by
 intro value slice À s σ H x y v u Q I rx ry h hs;obtain⟨z,i,c,rfl,rfl,hz,he,q⟩:=h;obtain⟨t,rfl⟩:=rx;obtain⟨t',rfl⟩:=ry;obtain⟨j,h1,h2,h3,h4,h5⟩:=Xg he;have hl:z.cps.toList.length=z.length:=by simp [Str.length]
 rw [hl] at h1 h4 h5;have hn:=VF;exact z7 (G0e s z t) slot_str_getitem.lookup (getItem_str (c:=c) (by
  have e1:decide (i< -(2^63:P4))=false:=B7 (by omega);have e2:decide (i>=2^63)=false:=B7 (by omega);rw [e1,e2,uO]) (by rw [h1];simpa using h2) ⟨.str ⟨#[c]⟩,H,I.tok _,⟨_,rfl⟩,q⟩) hs
def rIx (K:G7):R2:=λx y H Q=>Hv K x y H Q\/Hw K x y H Q\/Hx x y H Q
def OX:IxR X (rIx X.K):=X0f.or (X0v.or OW)
def GD (its:G0 G2)(n j:G8)(u:G2):aL (·.setIfInBounds j u) {cls:= .type "list",data:= .seq its.toArray n}= {cls:= .type "list",data:= .seq (its.set j u).toArray n}:=by
 simp [aL]
def Inv.lst {À:G0 (P3×Obj)}{σ:St}{H:Hp}{s:G3}{p:P3}{xs:G0 V}(I:Inv X À σ H s)(h:H p=some (.lst xs)):
 ∃ (its:G0 G2) (n:G8),Æ xs its/\s.heap.get? p=some {cls:= .type "list",data:= .seq its.toArray n}/\xs.length<=sizeLine:=by
 obtain⟨z,its,n,r,e⟩:=I.hok p _ h;exact⟨its,n,r,e,z⟩
def Inv.lstUpd {À:G0 (P3×Obj)}{σ:St}{H:Hp}{s:G3}{p:P3}{xs ys:G0 V}{its its':G0 G2}{n n':G8}{f:Obj->Obj}(I:Inv X À σ H s)(h:H p=some (.lst xs))
 (ho:s.heap.get? p=some {cls:= .type "list",data:= .seq its.toArray n})(hf:f {cls:= .type "list",data:= .seq its.toArray n}= {cls:= .type "list",data:= .seq its'.toArray n'})(r:Æ ys its')(hz:ys.length<=sizeLine)(t:G8):
 Inv X À σ (upd H p (.lst ys)) {s with heap:=s.heap.update p f,toks:=t}:=by
 have e:(s.heap.update p f).get? p=some {cls:= .type "list",data:= .seq its'.toArray n'}:=by
  rw [F7 f ho (by rw [hf]<;>rfl),hf]
 refine I.write (x:=p) (e:=p) (by rw [h];trivial) (.inl rfl) (λb u hb q=>(cK _ _ (E7 hb)).trans q) ⟨_,e⟩ ?_;exact⟨hz,its',n',r,e⟩
def SE:V->V->V->Hp->(Hp->Prop)->Prop:=λo i v H Q=> ∃p xs k j,o= .ref p/\i= .int k/\H p=some (.lst xs)/\Β xs.length k=some j/\Q (upd H p (.lst (xs.set j v)))
def Nc:Hl X SE:=by
 intro À s σ H o i v ov iv u Q I ro ri rv h;obtain⟨p,xs,k,j,rfl,rfl,hp,hj,q⟩:=h;cases ro;obtain⟨t,rfl⟩:=ri;obtain⟨its,n,r,ho,hz⟩:=I.lst hp;obtain⟨h1,h2,h3,h4⟩:=Da hj;have hl:=r.length;have hn:=VF;have I':Inv X À σ (upd H p (.lst (xs.set j v))) {s with heap:=s.heap.update p (aL (·.setIfInBounds j u))}:=
  I.lstUpd hp ho (GD its n j u) (r.set rv j) (by rw [sD];exact hz) s.toks
 by_cases h0:0<=k
 ·have hk:k.toNat=j:=by
   rw [rV h0 h4] at h1;exact O0 h1
  exact G0F ho h0 (by omega) (by rw [D7,<-hl];exact h4) (by rw [hk];exact⟨_,I',q⟩)
 ·have hk:(k+(its.toArray.size:P4)).toNat=j:=by
   rw [qH (by omega) h3] at h1;rw [D7,<-hl];exact O0 h1
  exact G0f ho (by omega) (by rw [D7,<-hl];exact h3) (by omega) (by rw [hk];exact⟨_,I',q⟩)
def VL (lo hi:P9 P4)(n:G8):(fO lo hi none n).1=((HT.sIx n 0 lo:G8):P4)/\(fO lo hi none n).2.1=((HT.sIx n n hi:G8):P4)/\(fO lo hi none n).2.2=1:=by
 refine⟨?_,?_,rfl⟩
 ·cases lo with
  |none=>simp [fO,HT.sIx]
  |some i=>
   simp only [fO,HT.sIx,rF,show (1:P4)>0 by decide,oX]
   by_cases h:i<0
   ·simp only [h,oX]<;>omega
   ·simp only [h,mC]<;>omega
 ·cases hi with
  |none=>simp [fO,HT.sIx]
  |some i=>
   simp only [fO,HT.sIx,rF,show (1:P4)>0 by decide,oX]
   by_cases h:i<0
   ·simp only [h,oX]<;>omega
   ·simp only [h,mC]<;>omega
def YE (its:G0 G2)(lo hi:P9 P4):slicePick its.toArray lo hi none=((its.drop (HT.sIx its.length 0 lo)).take (HT.sIx its.length its.length hi-HT.sIx its.length 0 lo)).toArray:=by
 obtain⟨h1,h2,h3⟩:=VL lo hi its.toArray.size;unfold slicePick;rw [h1,h2,h3];simp only [sliceRange_one,pick_run,D7]<;>rfl
def Kh (K:G7):V->P9 P4->P9 P4->Hp->VK->Prop:=λx lo hi H Q=> ∃a xs,x= .ref a/\ê K H a xs/\ ∀p,H p=none->Q (.ref p) (upd H p (.lst (ML xs lo hi)))
def CW:SlR X (Kh X.K):=by
 intro À s σ H x v vl vu lo hi sl Q I rx hs pl pu h;obtain⟨a,xs,rfl,hx,q⟩:=h;cases rx;obtain⟨its,r,ht,hz⟩:=I.list hx;have hlen:=r.length;refine⟨"list",_,slot_list_getitem.lookup,ht.isList.typeIs,?_⟩;refine wpAny_getItem_list_slice ht.isList hs pl pu .none (by simp) ?_ (by rw [D7]<;>omega);rw [YE,<-hlen];refine⟨.ref s.heap.objs.size,_,I.laid (t':=s.toks) (o:= .lst (ML xs lo hi)) (λb ob q=>G6 _ q) (P2 _) ?_,rfl,q _ (I.hok.fresh (P2 _))⟩;exact⟨R1 (ZP xs lo hi) hz,_,0,(r.drop (HT.sIx xs.length 0 lo)).take (HT.sIx xs.length xs.length hi-HT.sIx xs.length 0 lo),R0 _ rfl⟩
def Ŏ:Ú X (.builtin "len") (λxs H Q=> ∃p ys,xs= [.ref p]/\(ê X.K H p ys\/ä X.K H p ys)/\Q (.int ys.length) H):=by
 intro À s σ H xs us Q I r h;obtain⟨p,ys,rfl,hq,q⟩:=h;obtain⟨u,rfl,rx⟩:=vH r;cases rx;have hn:=VF;rcases hq with hq|hq
 ·obtain⟨its,r',pl,hz⟩:=I.list hq;have hlen:=r'.length;exact Calls.call_len_list pl.isList (by simp only [D7]<;>omega) ⟨.int ys.length,H,I.tok _,⟨s.toks+1,by rw [D7,hlen]⟩,q⟩
 ·obtain⟨its,r',pl,hz⟩:=I.tuple hq;have hlen:=r'.length;exact len_tuple pl (by simp only [D7]<;>omega) ⟨.int ys.length,H,I.tok _,⟨s.toks+1,by rw [D7,hlen]⟩,q⟩
def ŏ:Ú X (.type "list") (λxs H Q=> ∃p ys,xs= [.ref p]/\(ê X.K H p ys\/ä X.K H p ys)/\ ∀l,H l=none->Q (.ref l) (upd H l (.lst ys))):=by
 intro À s σ H xs us Q I r h;obtain⟨p,ys,rfl,hq,q⟩:=h;obtain⟨u,rfl,rx⟩:=vH r;cases rx;have fin: ∀ (its:G0 G2),Æ ys its->ys.length<=sizeLine-> ∀ (h':L8) (c':G8),(∀b o',s.heap.get? b=some o'->h'.get? b=some o')->
  h'.get? s.heap.objs.size=some {cls:= .type "list",dict:=none,data:= .seq its.toArray c',slots:= #[]}->EP X À σ Q (.ref s.heap.objs.size) {s with heap:=h'}:=λits r' hz h' c' kp e=>
  ⟨.ref s.heap.objs.size,_,I.laid (t':=s.toks) kp (P2 _) (show Ñ X.prog X.w _ h' _ (.lst ys) from ⟨hz,its,c',r',e⟩),rfl,q _ (I.hok.fresh (P2 _))⟩
 rcases hq with hq|hq
 ·obtain⟨its,r',pl,hz⟩:=I.list hq;have hlen:=r'.length;obtain⟨o,ho,hc,n,hd⟩:=pl.isList;exact uP p (.inl rfl) ho hc hd (λh' c' kp e=>fin its r' hz h' c' kp e) (by simp only [D7]<;>omega)
 ·obtain⟨its,r',pl,hz⟩:=I.tuple hq;have hlen:=r'.length;obtain⟨o,ho,hc,n,hd⟩:=pl;exact uP p (.inr rfl) ho hc hd (λh' c' kp e=>fin its r' hz h' c' kp e) (by simp only [D7]<;>omega)
def Ń:Ú X (.type "tuple") (λxs H Q=> ∃p ys,xs= [.ref p]/\((ê X.K H p ys/\ ∀l,H l=none->Q (.ref l) (upd H l (.tup ys)))\/(ä X.K H p ys/\Q (.ref p) H))):=by
 intro À s σ H xs us Q I r h;obtain⟨p,ys,rfl,h⟩:=h;obtain⟨u,rfl,rx⟩:=vH r;cases rx;rcases h with ⟨hq,q⟩|⟨hq,q⟩
 ·obtain⟨its,r',pl,hz⟩:=I.list hq;have hlen:=r'.length;refine call_tuple_list pl.isList (λh' kp=> ?_) (by simp only [D7]<;>omega);have I1:Inv X À σ H {s with heap:=h'}:=I.kept (t':=s.toks) kp;have I2:Inv X À σ (upd H h'.objs.size (.tup ys)) {s with heap:=h'.push {cls:= .type "tuple",data:= .seq its.toArray}}:=
   I1.laid (t':=s.toks) (λb o e=>G6 _ e) (P2 _) (show Ñ X.prog X.w _ _ _ (.tup ys) from ⟨hz,its,r',ë.new _ _⟩)
  exact⟨.ref h'.objs.size,_,I2,rfl,q _ (I1.hok.fresh (P2 _))⟩
 ·obtain⟨its,r',pl,hz⟩:=I.tuple hq;exact call_tuple_same pl ⟨.ref p,H,I,rfl,q⟩
def tyV (K:G7)(T:W1)(x:V)(H:Hp):Prop:=match x with
 | .str _=>T= "str"
 | .int _=>T= "int"
 | .ref p=>(T= "list" /\ ∃xs,ê K H p xs)\/(T= "tuple" /\ ∃o,K.lookup p=some o/\o.cls= .type "tuple" /\o.dict=none)\/
  (T= "dict" /\((∃Ï,H p=some (.dK Ï))\/ ∃Ï,H p=some (.dT Ï)))\/(T= "set" /\ ∃S n,H p=some (.set S n))
 |_=>False
def OY {À:G0 (P3×Obj)}{σ:St}{H:Hp}{s:G3}{T:W1}{x:V}{v:G2}(I:Inv X À σ H s)(r:RelV x v)(ty:tyV X.K T x H):
 s.TypeIs v T/\ ∀a,v= .ref a-> ∃ob,s.heap.get? a=some ob/\ob.dict=none:=by
 cases x with
 |str z=>
  obtain⟨t,rfl⟩:=r;cases (show T= "str" from ty);exact⟨G0e s z t,λ_ e=>nomatch e⟩
 |int i=>
  obtain⟨t,rfl⟩:=r;cases (show T= "int" from ty);exact⟨mN s i t,λ_ e=>nomatch e⟩
 |ref p=>
  cases r;rcases ty with ⟨rfl,xs,hq⟩|⟨rfl,o,hk,hc,hd⟩|⟨rfl,hk⟩|⟨rfl,S,n,hk⟩
  ·obtain⟨its,_,pl,_⟩:=I.list hq;refine⟨pl.isList.typeIs,λa e=> ?_⟩;cases e;obtain⟨o,n,e,c,hd,_⟩:=pl;exact⟨o,e,hd⟩
  ·refine⟨⟨o,I.kIn p o hk,hc⟩,λa e=> ?_⟩;cases e;exact⟨o,I.kIn _ o hk,hd⟩
  ·have z: ∃o,s.heap.get? p=some o/\o.ExactDict:=by
    rcases hk with ⟨Ï,hk⟩|⟨Ï,hk⟩
    ·obtain⟨_,_,_,_,o,_,_,e,ex,_⟩:=I.hok p _ hk;exact⟨o,e,ex⟩
    ·obtain⟨_,_,_,_,o,_,_,e,ex,_⟩:=I.hok p _ hk;exact⟨o,e,ex⟩
   obtain⟨o,e,ex⟩:=z;refine⟨⟨o,e,ex.1⟩,λa e2=> ?_⟩;cases e2;exact⟨o,e,ex.2.1⟩
  ·obtain⟨o,_,_,_,e,ex,_⟩:=I.hok p _ hk;refine⟨⟨o,e,ex.1⟩,λa e2=> ?_⟩;cases e2;exact⟨o,e,ex.2.1⟩
 |_=>exact False.elim ty
def tBM (K:G7)(T:W1)(r:V->G0 V->Hp->VK->Prop)(to:TE)(t:TA):TE:=λσ H Q=>to σ H λx H1=>tyV K T x H1/\t σ H1 λxs H2=>r x xs H2 Q
variable {o e:M6}{es:G0 M6}{to:TE}{t:TA}{name:Str}{apos Ò:Pos}{T id:W1}{r:V->G0 V->Hp->VK->Prop}
def CY (pa:PlainAttrs T)(slot:Slot T name id)(hty:typeOf (.builtin id)=pure (.type "method_descriptor"))(hm:MtR X id r)(ho:PE X o to)(ha:PA X (e::es) t)
 (hbase:cO o name X.env (J3 o X.env)=J3 o X.env:=by rfl)
 (hfew:((U9 Ò (R8 (e::es) X.env)).all (λx=> !x.1)&&(mD Ò (fQ [] X.env)).all (λx=>x.1.isSome)
  &&decide ((e::es).length+([]:G0 dP).length+(if ([]:G0 dP).isEmpty then 0 else 1)<30))=true:=by rfl)
 (hline:(apos.endLine==Ò.line)=true:=by rfl)(hs:R8 (e::es) X.env=(false,J3 e X.env)::R8 es X.env:=by rfl)(hplain:(U9 Ò (R8 es X.env)).any (·.1)=false:=by rfl):
 PE X (.Call (.Attribute o name apos) (e::es) [] Ò) (tBM X.K T r to t):=by
 intro À s σ H Q I h;refine wpAny_Call_method_late hbase hfew hline rfl (Ó (ho À s σ H _ I h) λv s1 ⟨x,H1,I1,r1,ty,q1⟩=> ?_);obtain⟨h1,h2⟩:=OY I1 r1 ty;refine⟨T,id,pa,slot,hty,h1,h2,?_⟩;have hA:=ha Ò À s1 σ H1 _ I1 q1;rw [hs] at hA ⊢;refine Calls.callWith_builtin (by show (false||(U9 Ò (R8 es X.env)).any (·.1))=false;rw [hplain]<;>rfl) (Calls.evalArgs_plain ?_);exact Ó hA λus s2 ⟨vs,H2,I2,r2,q2⟩=>hm À s2 σ H2 x vs v us Q I2 r1 r2 q2
end
def MtM (X:Cx)(id:W1)(r:V->G0 V->Hp->VK->Prop):Prop:=
 ∀ (À:G0 (P3×Obj)) (s:G3) (σ:St) (H:Hp) (x:V) (xs:G0 V) (v:G2) (us:G0 G2) (Q:VK),Inv X À σ H s->RelV x v->Æ xs us->r x xs H Q->
  D8 (R3 X.prog X.w) X.A (call (.builtin id) (v::us)) (EP X À σ Q) X.xe s
def Æ.one: ∀ {x:V} {us:G0 G2},Æ [x] us-> ∃u,us= [u]/\RelV x u
 |_,_,.cons r .nil=>⟨_,rfl,r⟩
theorem Æ.rep {xs:G0 V}{us:G0 G2}(h:Æ xs us): ∀k:G8,Æ (T4 k xs).flatten (T4 k us).flatten
 |0=> .nil
 |k+1=>by
  rw [E2,E2,X1,X1];exact Æ.append h (Æ.rep h k)
theorem ZQ (its:G0 G2): ∀ (k:G8) (acc:G0 G2),
 tQ (λx1 x2=>x1++x2) acc.toArray (T4 k its.toArray)=(acc++(T4 k its).flatten).toArray
 |0,acc=>by simp
 |k+1,acc=>by
  have e:acc.toArray++its.toArray=(acc++its).toArray:=by simp
  have e2:(acc++its)++(T4 k its).flatten=acc++(T4 (k+1) its).flatten:=by
   rw [E2,X1,D5]
  rw [<-e2,<-ZQ its k (acc++its),<-e,E2,m5]
section
variable {X:Cx}{À:G0 (P3×Obj)}{σ:St}{H:Hp}{s:G3}{l b:P3}{xs ys zs:G0 V}
def Inv.lset {its its':G0 G2}{n:G8}{f:S5 G2->S5 G2}{t':G8}(I:Inv X À σ H s)(hH:H l=some (.lst xs))
 (e:s.heap.get? l=some {cls:= .type "list",data:= .seq its.toArray n})(hf:f its.toArray=its'.toArray)(hv:Æ ys its')(hz:ys.length<=sizeLine):
 Inv X À σ (upd H l (.lst ys)) {s with heap:=s.heap.update l (aL f),toks:=t'}:=by
 have q:=PySem.IsL.update e f;rw [hf] at q;refine I.write (x:=l) (e:=l) (by rw [hH];exact trivial) (.inl rfl) (λb' u hb hu=>(cK s.heap (aL f) (E7 hb)).trans hu) ⟨_,q⟩ ?_;exact⟨hz,its',_,hv,q⟩
def Inv.lnew {its:G0 G2}{t':G8}(I:Inv X À σ H s)(hv:Æ ys its)(hz:ys.length<=sizeLine):
 Inv X À σ (upd H s.heap.objs.size (.lst ys)) {s with heap:=s.heap.push {cls:= .type "list",data:= .seq its.toArray},toks:=t'}:=
 I.laid (λ_ _ q=>G6 _ q) (P2 _) ⟨hz,its,0,hv,R0 _ rfl⟩
def Inv.fresh (I:Inv X À σ H s):H s.heap.objs.size=none:=I.hok.fresh (P2 _)
def Inv.lstM (I:Inv X À σ H s)(hH:H l=some (.lst xs)):xs.length<=sizeLine/\ ∃ (its:G0 G2) (n:G8),Æ xs its/\xs.length=its.length/\s.heap.get? l=some {cls:= .type "list",data:= .seq its.toArray n}:=by
 obtain⟨z,its,n,r,e⟩:=I.hok l _ hH;exact⟨z,its,n,r,r.length,e⟩
def Qr {n:G8}(h:n<=sizeLine):bZ n=false:=by
 unfold bZ;exact B7 (by omega)
end
section
variable {X:Cx}
def CZ:V->G0 V->Hp->VK->Prop:=λx vs H Q=> ∃l xs y,x= .ref l/\vs= [y]/\H l=some (.lst xs)/\xs.length<sizeLine/\Q .non (upd H l (.lst (xs++ [y])))
def Db:MtM X "list.append" CZ:=by
 intro À s σ H x vs v us Q I rx rv h;obtain⟨l,xs,y,rfl,rfl,hH,hz,q⟩:=h;cases rx;obtain⟨u,rfl,ru⟩:=rv.one;obtain⟨z,its,n,r,hl,e⟩:=I.lstM hH;refine mO F.slot_list_append ⟨_,e,rfl⟩ F.entry_list_append (F.args_list_append_2 _ _) (PySem.list_append l its.toArray n u (by rw [D7];omega)) ⟨e,?_⟩;refine⟨.non,_,I.lset (its':=its++ [u]) hH e (by simp) (r.append (.cons ru .nil)) ?_,rfl,q⟩;rw [P1,cT];omega
def Fa:V->G0 V->Hp->VK->Prop:=λx vs H Q=> ∃l b xs zs,x= .ref l/\vs= [.ref b]/\H l=some (.lst xs)/\H b=some (.lst zs)/\xs.length+zs.length<=sizeLine/\Q .non (upd H l (.lst (xs++zs)))
def Dc:MtM X "list.extend" Fa:=by
 intro À s σ H x vs v us Q I rx rv h;obtain⟨l,b,xs,zs,rfl,rfl,hH,hB,hz,q⟩:=h;cases rx;obtain⟨u,rfl,ru⟩:=rv.one;cases ru;obtain⟨z,its,n,r,hl,e⟩:=I.lstM hH;obtain⟨z2,ġ,n2,r2,hl2,e2⟩:=I.lstM hB;have hsz:its.toArray.size+ġ.toArray.size<=sizeLine:=by rw [D7,D7];omega
 have ψ: ¬ (!its.toArray.isEmpty&&bZ (its.toArray.size+ġ.toArray.size))=true:=by
  rw [Qr hsz,cC];exact R5
 refine mO F.slot_list_extend ⟨_,e,rfl⟩ F.entry_list_extend (F.args_list_extend_2 _ _)
  (AutoSeq1.list_extend_list_list_0 l its.toArray n b ġ.toArray n2 ψ (by rw [D7];omega) (by omega)) ⟨e,e2,?_⟩
 refine⟨.non,_,I.lset (its':=its++ġ) hH e (by simp) (r.append r2) ?_,rfl,q⟩;rw [P1];omega
def Ki:R2:=λx y H Q=> ∃l b xs zs,x= .ref l/\y= .ref b/\H l=some (.lst xs)/\H b=some (.lst zs)/\xs.length+zs.length<=sizeLine/\ ∀p,H p=none->Q (.ref p) (upd H p (.lst (xs++zs)))
def OZ:ā X (Q8 .Add) Ki:=by
 intro À s σ H x y v u Q I rx ry h;obtain⟨l,b,xs,zs,rfl,rfl,hH,hB,hz,q⟩:=h;cases rx;cases ry;obtain⟨z,its,n,r,hl,e⟩:=I.lstM hH;obtain⟨z2,ġ,n2,r2,hl2,e2⟩:=I.lstM hB;refine PySem.P.add_list e e2 ?_ (by rw [D7,D7];omega);have ea:its.toArray++ġ.toArray=(its++ġ).toArray:=by simp
 rw [ea];exact⟨.ref _,_,I.lnew (t':=s.toks) (r.append r2) (by rw [P1];omega),rfl,q _ I.fresh⟩
def Kj:R2:=λx y H Q=> ∃l k xs,x= .ref l/\y= .int k/\H l=some (.lst xs)/\ -(2^63)<=k/\k<2^63/\xs.length*k.toNat<=sizeLine/\
 ∀p,H p=none->Q (.ref p) (upd H p (.lst (T4 k.toNat xs).flatten))
def Xh {α:Type}(xs:G0 α)(k:G8):(T4 k xs).flatten.length=k*xs.length:=by
 induction k with
 |zero=>simp
 |succ k ih=>rw [E2,X1,P1,ih,iK,Nat.add_comm]
def Aa:ā X (Q8 .Mult) Kj:=by
 intro À s σ H x y v u Q I rx ry h;obtain⟨l,k,xs,rfl,rfl,hH,h1,h2,hz,q⟩:=h;cases rx;obtain⟨t,rfl⟩:=ry;obtain⟨z,its,n,r,hl,e⟩:=I.lstM hH;have hlen:its.toArray.size*k.toNat<=sizeLine:=by rw [D7,<-hl];exact hz
 have X1x: ¬its.toArray.size*k.toNat>(2^63-1) / 8:=by
  have:(sizeLine:G8)<=(2^63-1) / 8:=by decide
  omega
 have X0G: ¬ (!i6 k)=true:=by
  rw [tR h1 h2];exact R5
 have ψ: ¬bZ (its.toArray.size*k.toNat)=true:=by
  rw [Qr hlen];exact R5
 have X0R:tQ (λx1 x2=>x1++x2) #[] (T4 (if its.toArray.isEmpty=true then 0 else k.toNat) its.toArray)=(T4 k.toNat its).flatten.toArray:=by
  have f0: ∀m:G8,tQ (λx1 x2=>x1++x2) #[] (T4 m its.toArray)=(T4 m its).flatten.toArray:=λm=>by
   have:=ZQ its m [];rw [O6] at this;exact this
  rw [f0];cases its with
  |nil=>simp
  |cons a r'=>rw [R9 (by simp)]
 refine kT (T:= "list") (U:= "int") (by decide) ⟨_,e,rfl⟩ (λs'=>mN s' k t) noFill_list_mul sE iD repeat_list F.slot_int_index.lookup
  (mO iD (mN s k t) rG (qI _ _) (int___rmul___int_list k t l its.toArray n)
   ⟨e,rfl,⟨_,e,rfl⟩,mO F.slot_list_mul ⟨_,e,rfl⟩ F.entry_list_mul (F.args_list_mul_2 _ _) (AutoListH.list___mul___list_int_3 l its.toArray n k t X0G X1x ψ) ⟨e,?_⟩⟩)
 rw [X0R];exact⟨.ref _,_,I.lnew (t':=s.toks) (r.rep k.toNat) (by rw [Xh,aT];exact hz),rfl,q _ I.fresh⟩
end
end L2
namespace Att
open PySem PySem.W PySem.Calls PyProof.Rows
def ZR {P:G0R}{h:L8}: ∀ (ns:G0 P4) (vs:G0 G2),WellAll P h vs (ns.map WData.int)->gZ vs ns:=by
 intro ns
 induction ns with
 |nil=>
  intro vs w;rw [aU] at w;cases w;exact .nil
 |cons n ns ih=>
  intro vs w;rw [M0] at w;cases w with
  |cons a b=>
   cases a;exact .cons _ _ (ih _ b)
def De {l:OpenLaw}{n:G8}(hn:l.most=some n){P:G0R}{h:L8}{args:G0 WData}{vals:G0 G2}
 (X0H:l.row.toRowW.claim.pre args=true)(hwl:WellAll P h vals args):
 ∃a vs ns,vals= [A6 a]/\args= [WData.list (ns.map WData.int)]/\h.get? a=some {cls:= .type "list",data:= .seq vs.toArray}/\gZ vs ns/\ns.length<=n:=by
 have hsh:WShape.hasAll [] args [.list .int]=true:=(pre_splitW X0H).1;have hc:l.pre.holds [] {args:=args}=true:=(pre_splitW X0H).2;obtain⟨d,r,rfl,h1,h2⟩:=hasAllW_cons hsh;obtain rfl:=hasAllW_nil h2;obtain⟨xs,rfl,h3⟩:=hasW_list h1;obtain⟨ns,rfl⟩:=items_int h3;have hlen:ns.length<=n:=by
  unfold OpenLaw.pre at hc;have h4:(WTm.not (.lt (.lit (.int (n:P4))) (.len (.arg 0)))).holds [] {args:= [.list (ns.map .int)]}=true:=by
   have h4:=(holds_andW hc).1;rw [hn] at h4;exact h4
  have h5:=condW_of h4 (w_not (w_lt w_lit (w_len_list (w_arg rfl))));rw [G1] at h5;refine gS λq=> ?_
  have q':(n:P4)<((ns.length:G8):P4):=by omega
  first
   |(rw [M1 q'] at h5;exact absurd h5 (by decide))
   |(simp at h5;omega)
 cases hwl with
 |cons w1 w2=>
  cases w2;cases w1 with
  |list ho X0S=>exact⟨_,_,ns,rfl,rfl,ho,ZR ns _ X0S,hlen⟩
def Df (l:OpenLaw)(args:G0 WData):l.row.toRowW.claim.post args (.bool true) args=true:=
 postW_of (r:=l.row.toRowW) (X:=(true==true))
  (show WShape.has [] (.bool true) .bool=true by first|rfl|decide|simp [WShape.has,WShape.arms,WShape.armsAll])
  (show (WTm.eq .res (.lit (.bool true))).value [] {args:=args,res:=some (.bool true),after:=args}=some (.bool (true==true)) from w_eq_bool (w_res rfl) w_lit) rfl
def attach_call {l:OpenLaw}{n:G8}{q:S6}{loose:G0 Str}{XP:(Str->P9 G2)->L8->Prop}{YP:B3->L8->Prop}{d:DefRec}
 (hn:l.most=some n)(hdf:d.params.defaults= [])
 (call: ∀ (w:B3) (s₀ s₁:G3) (mg mb:Str->P9 G2) (fa:P3) (o:Obj) (pm cd doc:G2) (a:P3) (vs:G0 G2) (ns:G0 P4),
  Ground q loose [] XP w s₀ mg mb s₁.heap->YP w s₁.heap->
  s₁.heap.get? fa=some o->o.data= .func (docDef d.name d.params d.body d.scope pm cd doc)->s₁.heap.CodeRec cd d.name->mg d.name=some (.ref fa)->
  s₁.heap.get? a=some {cls:= .type "list",data:= .seq vs.toArray}->gZ vs ns->ns.length<=n->s₁.gens= #[]->
  bR (R3 l.prog w) oY (.call (.ref fa) ⟨[.ref a],[]⟩) (λr s'=>r= .ok (.ret (.bool true))/\OldK s₁.heap s'.heap/\s'.os=s₁.os/\lD s'.gens) s₁):
 WalkO q loose XP YP l.row.toRowW d [] (λf vs=>G0g f vs):=by
 intro w s₀ s₁ mg mb G Y fa o pm cd doc dV kV ho hd hcd hD hmg hg args vals as X0H hlay hrd hwl hlo;obtain rfl:dV= .none:=Dflts.none hD hdf;obtain rfl:kV= .none:=Dflts.noKw hD;obtain⟨a,vs,ns,rfl,rfl,X0T,hints,hlen⟩:=De hn X0H hwl;refine enter_call (iJ (call w s₀ s₁ mg mb fa o pm cd doc a vs ns G Y ho (fd_plain hd) hcd hmg X0T hints hlen hg) λr s' hq=> ?_);obtain⟨rfl,h2,h3,h4⟩:=hq;exact⟨.inl ⟨.bool true,.bool true,[],rfl,λ_=>rfl,.bool true,Df l _,λ_=>⟨lG,λ_ hm=>(nomatch hm)⟩⟩,h2,h3,h4⟩
end Att
namespace L2
open PySem PySem.Spec PyProof.Rows
theorem VM: ∀ {vs:G0 G2} {ns:G0 P4},gZ vs ns->Æ (ns.map V.int) vs
 |_,_,.nil=> .nil
 |_,_,.cons n t h=> .cons ⟨t,rfl⟩ (VM h)
def Only (H:Hp):Prop:= ∀b,H b=none\/ ∃o xs,H b=some (.frz o (.lst xs))
noncomputable def yK (s:K9):Arguments:=match s with
 | .FunctionDef _ a _ _ _ _ _ _ _ _=>a
 |_=> {posonlyargs:= [],args:= [],vararg:=none,kwonlyargs:= [],kw_defaults:= [],kwarg:=none,defaults:= []}
noncomputable def zV (s:K9):G0 K9:=match s with
 | .FunctionDef _ _ b _ _ _ _ _ _ _=>b
 |_=> []
noncomputable def je (s:K9):Y5:=match s with
 | .FunctionDef _ _ _ _ _ _ sc _ _ _=>sc
 |_=> {kind:= .function,names:= [],isGenerator:=false,isCoroutine:=false}
abbrev ì:CXT:=λ_ _ _ _ _ _=>False
abbrev E0:XK:=λ_ _ _=>False
variable {X:Cx}
def SF:PX ì X E0:=λ_ _ _ _ _ _ _ h=>h.elim
structure ò (K:G7)(x qual:Str)(st:K9)(f:P3)(fd:C3):Prop where
 ex: ∃ (oc:G2) (od:P9 P3) (kV doc pm:G2) (an:P9 P3) (ø ct:G2) (ŵ:S5 (P9 G2)),
  fd=dN x qual (yK st) (zV st) (je st) .none kV doc pm an ø ct/\K.lookup f=some ⟨oc,od,.func fd,ŵ⟩/\n8 K ø qual=true
 kp:cB K (.ref f)=true
section
variable {P:S6}{w:B3}{K:G7}{mg:Str->P9 G2}{base:L8}
variable {qual:Str}
def ò.ok {x:Str}{st:K9}{f:P3}{fd:C3}{N ps:G0 Str}{k:G8}{sp:Sp}(F:ò K x qual st f fd)(S:Ã N ps (je st))(len: ∀vs H Q E,sp vs H Q E->vs.length=ps.length)
 (ė: ∀ (ø:G2) (A:N4) (outer:G0 Env) (s:G3) (H:Hp) (vs:G0 V) (Q:VK) (E:XK),Û k (A.deeper (i3 qual (je st) s.heap.objs.size f ø))->sp vs H Q E->
  ∃t,Ť (MZ ì P w K mg base N qual (je st) f ø A outer s H E).nox (zV st) t/\t {nx:=λ_ H'=>Q .non H',rt:=Q} (start N vs) H):Î P w K mg base ì (k+1) f fd ps sp:=by
 obtain⟨oc,od,kV,doc,pm,an,ø,ct,ŵ,rfl,lk,hcd⟩:=F.ex;refine Sz lk hcd S len λA outer s H vs Q E hr hsp=> ?_
 obtain⟨t,h,q⟩:=ė ø A outer s H vs Q E hr hsp;exact⟨t,h.nox,q⟩
def ò.binds {x:Str}{st:K9}{f:P3}{fd:C3}{ps:G0 Str}(F:ò K x qual st f fd)
 (h: ∀ (kV doc pm:G2) (an:P9 P3) (ø ct:G2) (us:G0 G2),us.length=ps.length->y9 (dN x qual (yK st) (zV st) (je st) .none kV doc pm an ø ct) ⟨us,[]⟩=pure (ps.zip us)):Binds K fd ps []:=by
 obtain⟨oc,od,kV,doc,pm,an,ø,ct,ŵ,rfl,lk,hcd⟩:=F.ex;exact .all (h kV doc pm an ø ct)
def Ab {x:Str}{st:K9}{f:P3}{oc:G2}{od an:P9 P3}{ŵ:S5 (P9 G2)}{kV doc pm ø ct:G2}(l:K.lookup f=some ⟨oc,od,.func (dN x qual (yK st) (zV st) (je st) .none kV doc pm an ø ct),ŵ⟩)
 (c:n8 K ø qual=true)(k:cB K (.ref f)=true):ò K x qual st f (dN x qual (yK st) (zV st) (je st) .none kV doc pm an ø ct):=⟨⟨oc,od,kV,doc,pm,an,ø,ct,ŵ,rfl,l,c⟩,k⟩
end
def jV {n:G8}(h:n<=1000):n<sizeLine:=Q9 h (by decide)
section
variable {X:Cx}
def pv (i:G8){x:Str}{pos:Pos}(hN:X.N[i]? =some x:=by rfl)(hv:Vis X.env.scope x:=by first|exact V0 rfl|exact Z0 (V0 rfl)|exact Z0 (Z0 rfl))(hd:(x==("__debug__" :Str))=false:=by decide)
 (hcd:(x==("__classdict__" :Str))=false:=by decide):PE X (.Name x pos) (Sj i):=BL hN hv hd hcd
end
def yF {A B:Prop}(h:B):if false=true then A else B:=by
 rw [R9 R5];exact h
def vt {A B:Prop}(h:A):if true=true then A else B:=by
 rw [R6 rfl];exact h
def Qs {c A B:Prop}[Decidable c](h1:c->A)(h2: ¬c->B):if c then A else B:=by
 by_cases h:c
 ·rw [R6 h];exact h1 h
 ·rw [R9 h];exact h2 h
section
variable {κ:Type}[DecidableEq κ]
noncomputable def BR (Ï:G0 (κ×V))(k:κ)(v:V):G0 (κ×V):=
 if (Ï.any λkv=>decide (kv.1=k))=true then Ï.map (λkv=>if kv.1=k then (kv.1,v) else kv) else Ï++ [(k,v)]
def Xi (Ï:G0 (κ×V))(k:κ)(v:V):(BR Ï k v).length<=Ï.length+1:=by
 unfold BR;split
 ·rw [G1];omega
 ·rw [P1,D2,N8];omega
def KV.any {Ï:G0 (κ×V)}{vs:G0 (κ×G2)}(r:KV Ï vs)(k:κ):(Ï.any λkv=>decide (kv.1=k))=vs.any λkv=>decide (kv.1=k):=by
 unfold KV at r
 induction r with
 |nil=>rfl
 |cons h t ih=>rw [lM,lM,ih,h.1]
def KV.repl {Ï:G0 (κ×V)}{vs:G0 (κ×G2)}(r:KV Ï vs)(k:κ){y:V}{u:G2}(ry:RelV y u):
 KV (Ï.map λkv=>if kv.1=k then (kv.1,y) else kv) (vs.map λkv=>if kv.1=k then (kv.1,u) else kv):=by
 unfold KV at r ⊢
 induction r with
 |nil=>exact .nil
 | @cons p q ps qs h t ih=>
  rw [M0,M0];refine .cons ?_ ih;obtain⟨h1,h2⟩:=h
  by_cases e:p.1=k
  ·rw [R6 e,R6 (h1.symm.trans e)];exact⟨h1,ry⟩
  ·rw [R9 e,R9 (λz=>e (h1.trans z))];exact⟨h1,h2⟩
def KV.put {Ï:G0 (κ×V)}{vs:G0 (κ×G2)}(r:KV Ï vs)(k:κ){y:V}{u:G2}(ry:RelV y u):KV (BR Ï k y) (rH vs k u):=by
 unfold BR rH;rw [r.any k]
 by_cases e:(vs.any λkv=>decide (kv.1=k))=true
 ·rw [R6 e,R6 e];exact r.repl k ry
 ·rw [R9 e,R9 e];exact Paired.snoc r ⟨rfl,ry⟩
end
variable {P:S6}{w:B3}
def SG {k:Ą}{u:G2}(r:RelV (kV k) u):(wI P w).is k u=true:=by
 cases k with
 |inl i=>obtain⟨t,e⟩:=(show ∃t,u=gQ i t from r);subst e;exact Xb P w i t
 |inr x=>obtain⟨t,e⟩:=(show ∃t,u=l8 x t from r);subst e;exact Xc P w x t
section
variable {P:S6}{w:B3}{H:Hp}{h:L8}{a:P3}
def SH {u:HO}(ok:ď P w H h)(e:Rd H a u):Ñ P w H h a u:=e.ok ok
def SJ {Ï:G0 (Ą×V)}(ok:ď P w H h)(e:Rd H a (.dK Ï)):Ï.length<=sizeLine/\(a==W7)=false/\ ∃vs,KV Ï vs/\h.DictOf (wI P w) a vs:=
 show Ñ P w H h a (.dK Ï) from SH ok e
def SK {Ï:G0 (Ą×V)}(ok:ď P w H h)(e:H a=some (.dK Ï)):Ï.length<=sizeLine/\(a==W7)=false/\ ∃vs,KV Ï vs/\h.DictOf (wI P w) a vs:=SJ ok (.inl e)
end
section
variable {X:Cx}{À:G0 (P3×Obj)}{σ:St}{H:Hp}{s:G3}{a:P3}{y v:V}{u r:G2}{o:P9 V}{A:N4}{E:G2->G3->Prop}
def Inv.big (I:Inv X À σ H s):W7<s.heap.objs.size:=by
 have h:K5<s.heap.objs.size:=(I.mod.glob.keeps I.bk).lt;exact X2 (by decide) h
def Dg {h':L8}{t':G8}{ob:HO}(I:Inv X À σ H s)(mu:Mut (H a))(hs:O9 a s.heap h')(he: ∃q,h'.get? a=some q)(new:Ñ X.prog X.w (upd H a ob) h' a ob):
 Inv X À σ (upd H a ob) {s with heap:=h',toks:=t'}:=
 I.write (x:=a) (e:=a) mu (.inl rfl) (λb q hb z=>(hs.2 b hb).trans z) he new
def Ac {P:S6}{w:B3}{H':Hp}{h':L8}{Ï:G0 (Ą×V)}{vs:G0 (Ą×G2)}(z:Ï.length<=sizeLine)(hd:(a==W7)=false)(rel:KV Ï vs)(dd:h'.DictOf (wI P w) a vs):
 Ñ P w H' h' a (.dK Ï):=⟨z,hd,vs,rel,dd⟩
end
def SL (i:M6):Prop:= ∀ov iv,n9 i false ov iv=G0x [ov,iv] (gY ov iv)
variable {prog:S6}{env:Env}{pos:Pos}
def Fb {A:N4}{E:G2->G3->Prop}{s:G3}{value slice:M6}{T id:W1}{Q:G2->G3->Prop}
 (hl:G0d (.type T) "__getitem__" =pure (some (.builtin id)))(hs:SL slice)
 (h:D8 (R3 prog w) A (J3 value env) (λo s₁=>D8 (R3 prog w) A (J3 slice env) (λi s₂=>s₂.TypeIs o T/\D8 (R3 prog w) A (gY o i) Q E s₂) E s₁) E s):
 D8 (R3 prog w) A (J3 (.Subscript value slice pos) env) Q E s:=by
 refine pR (T7 h (λo s₁ h₁=>T7 h₁ (λi s₂ î=> ?_) λ_ _ x=>x) λ_ _ x=>x);obtain⟨hT,î⟩:=î;unfold lL;refine wpAny_bind ?_;rw [getitemInPython_of_ne hT.not_modules];refine wpAny_bind (aM hT hl ?_);have fin:D8 (R3 prog w) A (n9 slice false o i) (λr s₃=>D8 (R3 prog w) A (letTemporaryGo value o r >>= λ_=>pure r) Q E s₃) E s₂:=by
  rw [hs o i];exact wpAny_operating (T7 î (λr s₃ č=>wpAny_bind (wpAny_letTemporaryGo (G9 č))) λ_ _ x=>x)
 first
  |exact G9 (wpAny_bind fin)
  |exact wpAny_bind (G9 (wpAny_bind fin))
  |exact wpAny_bind fin
variable {H:Hp}
def Nd (h:L8)(hb:W7<h.objs.size):Ñ P w H (h.push {cls:= .type "dict",data:= .dict #[]}) h.objs.size (.dK []):=
 ⟨N7 _,beq_eq_false_iff_ne.mpr (E7 (S8 hb)),[],.nil,Heap.DictOf.new h⟩
def Dh:G0 (TE×TE)->St->Hp->(G0 (V×V)->Hp->Prop)->Prop
 | [],_,H,Q=>Q [] H
 |(tk,tv)::r,σ,H,Q=>tk σ H λx H1=>tv σ H1 λy H2=>Dh r σ H2 λps H3=>Q ((x,y)::ps) H3
abbrev VV:G0 (V×V)->G0 (G2×G2)->Prop:=Paired λp q=>RelV p.1 q.1/\RelV p.2 q.2
def PPs (X:Cx)(pos:Pos)(keys:G0 (P9 M6))(values:G0 M6)(trs:G0 (TE×TE)):Prop:=
 ∀ (À:G0 (P3×Obj)) (s:G3) (σ:St) (H:Hp) (Q:G0 (V×V)->Hp->Prop),Inv X À σ H s->Dh trs σ H Q->
  D8 (R3 X.prog X.w) X.A (evalPairs (pairTrees keys values X.env pos)) (λvs s'=> ∃ps H',Inv X À σ H' s'/\VV ps vs/\Q ps H') X.xe s
def Fc:PPs X pos [] [] []:=λÀ s σ H Q I h=>pairTrees_nil_walk ⟨[],H,I,.nil,h⟩
def Nf {k v:M6}{ks:G0 (P9 M6)}{vs:G0 M6}{tk tv:TE}{trs:G0 (TE×TE)}(hk:PE X k tk)(hv:PE X v tv)(hr:PPs X pos ks vs trs):
 PPs X pos (some k::ks) (v::vs) ((tk,tv)::trs):=λÀ s σ H Q I h=>
 pairTrees_cons_walk (Ó (hk À s σ H _ I h) λu s1 ⟨x,H1,I1,rx,q1⟩=>Ó (hv À s1 σ H1 _ I1 q1) λw2 s2 ⟨y,H2,I2,ry,q2⟩=>
  Ó (hr À s2 σ H2 _ I2 q2) λws s3 ⟨ps,H3,I3,rel,q3⟩=>⟨(x,y)::ps,H3,I3,.cons ⟨rx,ry⟩ rel,q3⟩)
noncomputable def VN (Ï more:G0 (Ą×V)):G0 (Ą×V):=more.foldl (λacc kv=>BR acc kv.1 kv.2) Ï
def KV.merge: ∀ {more:G0 (Ą×V)} {rs:G0 (Ą×G2)} {Ï:G0 (Ą×V)} {vs:G0 (Ą×G2)},KV more rs->KV Ï vs->KV (VN Ï more) (merged vs rs):=by
 intro more rs Ï vs r;unfold KV at r
 induction r generalizing Ï vs with
 |nil=>intro q;exact q
 | @cons p q ps qs h t ih=>
  intro r0;have e:KV (BR Ï p.1 p.2) (rH vs q.1 q.2):=by
   have:=r0.put p.1 h.2;rw [<-h.1];exact this
  exact ih e
theorem Jd: ∀ (more Ï:G0 (Ą×V)),(VN Ï more).length<=Ï.length+more.length
 | [],Ï=>by show Ï.length<=Ï.length+0;omega
 |p::r,Ï=>by
  have h1:=Jd r (BR Ï p.1 p.2);have h2:=Xi Ï p.1 p.2;show (VN (BR Ï p.1 p.2) r).length<=_;rw [D2];omega
theorem Ye {P:S6}{w:B3}: ∀ {Ï:G0 (Ą×V)} {ws:G0 (G2×G2)},VV (Ï.map λkv=>(kV kv.1,kv.2)) ws-> ∃rs,Carries (wI P w) ws rs/\KV Ï rs
 | [],_,r=>by rw [aU] at r;cases r;exact⟨[],cJ,.nil⟩
 |p::Ï,_,r=>by
  rw [M0] at r;cases r with
  | @cons a b as bs h t=>
   obtain⟨rs,c,q⟩:=Ye (P:=P) (w:=w) t;obtain⟨b1,b2⟩:=b;exact⟨(p.1,b2)::rs,⟨SG h.1,rfl,c⟩,.cons ⟨rfl,h.2⟩ q⟩
def SM (trs:G0 (TE×TE)):TE:=λσ H Q=> ∀p,H p=none->Dh trs σ (upd H p (.dK [])) λps H2=>H2 p=some (.dK [])/\ ∃Ï:G0 (Ą×V),ps=Ï.map (λkv=>(kV kv.1,kv.2))/\Ï.length<=15/\Q (.ref p) (upd H2 p (.dK (VN [] Ï)))
def Fd {keys:G0 (P9 M6)}{values:G0 M6}{trs:G0 (TE×TE)}(h:PPs X pos keys values trs)(X0S:keys.all (·.isSome)=true)(hl:keys.length=values.length)(h0:keys≠ [])
 (h15:keys.length<=15):PE X (.Dict keys values pos) (SM trs):=by
 intro À s σ H Q I q;have hn:=I.hok.fresh (P2 s.heap.objs.size);have I1:=I.laid (a:=s.heap.objs.size) (o:= .dK []) (h':=s.heap.push {cls:= .type "dict",data:= .dict #[]}) (t':=s.toks) (λ_ _ q=>G6 _ q) (P2 _) (Nd s.heap I.big);refine wpAny_Dict_walk (knd:=wI X.prog X.w) X0S hl h0 h15 (Ó (h À _ σ _ _ I1 (q _ hn)) λws s2 ⟨ps,H2,I2,rel,e,Ï,ep,lk,q2⟩=> ?_);subst ep;obtain⟨rs,c,rk⟩:=Ye (P:=X.prog) (w:=X.w) rel;obtain⟨z,hd,vs0,r0,dd⟩:=SK I2.hok e;cases r0;refine⟨rs,c,dd,λh' dd' hs=>⟨.ref s.heap.objs.size,_,?_,rfl,q2⟩⟩;have hz:(VN [] Ï).length<=sizeLine:=by
  have h1:=Jd Ï [];rw [N8] at h1;rw [rT];omega
 have he: ∃q,h'.get? s.heap.objs.size=some q:=let ⟨q,_,_,hq,_⟩:=dd';⟨q,hq⟩;exact Dg I2 (by rw [e];exact cJ) hs he (Ac hz hd (rk.merge .nil) dd')
structure M2 (X:Cx)(o:M6)(m:Str)(apos:Pos)(e f:M6)(Ò:Pos):Prop where
 base:cO o m X.env (J3 o X.env)=J3 o X.env
 few:((U9 Ò (R8 [e,f] X.env)).all (λx=> !x.1)&&(mD Ò (fQ [] X.env)).all (λx=>x.1.isSome)
  &&decide (([e,f]:G0 M6).length+([]:G0 dP).length+(if ([]:G0 dP).isEmpty then 0 else 1)<30))=true
 line:(apos.endLine==Ò.line)=true
 trees:U9 Ò (R8 [e,f] X.env)= [(false,J3 e X.env),(false,J3 f X.env)]
noncomputable def wK (names:G0 (Str×NameKind))(env:Env)(cs:G0 (Str×P3)):G0 (Str×P3):=
 names.foldl (λcs p=>if p.2= .free then (match env.cells.lookup p.1 with|some c=>(p.1,c)::cs|none=>cs) else cs) cs
def zT (p:Str×NameKind)(l:G0 (Str×NameKind))(env:Env)(cs:G0 (Str×P3)):
 wK (p::l) env cs=wK l env (if p.2= .free then (match env.cells.lookup p.1 with|some c=>(p.1,c)::cs|none=>cs) else cs):=rfl
theorem ZS {f:Str×NameKind->G0 (Str×P3)->Sem (fT (G0 (Str×P3)))}
 (h1: ∀p cs,p.2≠ .free->f p cs=pure (.yield cs))(h2: ∀p cs c,p.2= .free->env.cells.lookup p.1=some c->f p cs=pure (.yield ((p.1,c)::cs))):
 ∀ (l:G0 (Str×NameKind)) (cs:G0 (Str×P3)),(∀p∈l,p.2= .free-> ∃c,env.cells.lookup p.1=some c)->forIn l cs f=pure (wK l env cs)
 | [],cs,_=>rfl
 |p::l,cs,h=>by
  have ih:=ZS h1 h2 l
  by_cases hp:p.2= .free
  ·obtain⟨c,hc⟩:=h p D3 hp;rw [bQ,h2 p cs c hp hc,pure_bind];show forIn l ((p.1,c)::cs) f=_;rw [ih _ λq hq=>h q (S1 _ hq),zT,R6 hp,hc]
  ·rw [bQ,h1 p cs hp,pure_bind];show forIn l cs f=_;rw [ih _ λq hq=>h q (S1 _ hq),zT,R9 hp]
variable {scope:Y5}
def Je (h: ∀p∈scope.names,p.2= .free-> ∃c,env.cells.lookup p.1=some c):G0h scope env=pure (wK scope.names env []):=by
 simp only [G0h];rw [ZS (env:=env) (λp cs hp=> ?_) (λp cs c hp hc=> ?_) _ _ h]
 ·rfl
 ·obtain⟨n,k⟩:=p;have hb:(k==E3)=false:=by simpa using hp
  simp only [hb,F9,mC]
 ·obtain⟨n,k⟩:=p;have hb:(k==E3)=true:=by simpa using hp
  have ν:env.cells.lookup n=some c:=hc;simp only [hb,oX,cellOf,ν,pure_bind]
theorem ZT: ∀ (l:G0 (Str×NameKind)) (cs:G0 (Str×P3)),(∀p∈cs,env.cells.lookup p.1=some p.2)-> ∀p∈wK l env cs,env.cells.lookup p.1=some p.2
 | [],cs,h,p,hp=>h p hp
 |q::l,cs,h,p,hp=>by
  rw [zT] at hp;refine ZT l _ (λr hr=> ?_) p hp
  by_cases hq:q.2= .free
  ·rw [R6 hq] at hr;cases e:env.cells.lookup q.1 with
   |none=>rw [e] at hr;exact h r hr
   |some c=>
    rw [e] at hr;rcases S0.mp hr with rfl|hr
    ·exact e
    ·exact h r hr
  ·rw [R9 hq] at hr;exact h r hr
theorem ZU: ∀ (l:G0 (Str×NameKind)) (cs:G0 (Str×P3)),∀p∈cs,p∈wK l env cs
 | [],cs,p,hp=>hp
 |q::l,cs,p,hp=>by
  rw [zT];refine ZU l _ p ?_
  by_cases hq:q.2= .free
  ·rw [R6 hq];cases e:env.cells.lookup q.1 with
   |none=>exact hp
   |some c=>exact S1 _ hp
  ·rw [R9 hq];exact hp
variable {x:Str}
theorem ZV {c:P3}(hc:env.cells.lookup x=some c): ∀ (l:G0 (Str×NameKind)) (cs:G0 (Str×P3)),(x,E3)∈l->(x,c)∈wK l env cs
 |q::l,cs,h=>by
  rw [zT];rcases S0.mp h with e|h
  ·subst e;rw [R6 rfl,hc];exact ZU l _ _ D3
  ·exact ZV hc l _ h
variable {α:Type}
theorem zz: ∀ {l:G0 (Str×α)} {x:Str} {c:α},l.lookup x=some c->(x,c)∈l
 | [],_,_,h=>by simp at h
 |(n,k)::r,x,c,h=>by
  rw [J9] at h;cases hx:x==n with
  |true=>
   rw [hx] at h;have e:x=n:=eq_of_beq hx;cases h;subst e;exact D3
  |false=>rw [hx] at h;exact S1 _ (zz h)
theorem Yf: ∀ {l:G0 (Str×α)} {x:Str} {c:α},(x,c)∈l-> ∃c',l.lookup x=some c'
 |(n,k)::r,x,c,h=>by
  rw [J9];cases hx:x==n with
  |true=>exact⟨_,rfl⟩
  |false=>
   rcases S0.mp h with e|h
   ·cases e;simp at hx
   ·exact Yf h
def Yg {l:G0 (Str×NameKind)}{c:P3}(h:(wK l env []).lookup x=some c):env.cells.lookup x=some c:=
 ZT l [] (λ_ z=>nomatch z) (x,c) (zz h)
def Di {l:G0 (Str×NameKind)}{c:P3}(hc:env.cells.lookup x=some c)(h:(x,E3)∈l):(wK l env []).lookup x=some c:=by
 obtain⟨c',e⟩:=Yf (ZV hc l [] h);have:=Yg e;rw [hc] at this;cases this;exact e
theorem yg {κ:Type}{f:Str×κ->Str×κ}{g:Str->κ->κ}(hf: ∀n k,f (n,k)=(n,g n k))(x:Str): ∀l:G0 (Str×κ),(l.map f).lookup x=(l.lookup x).map (g x)
 | []=>rfl
 |(n,k)::r=>by
  rw [M0,hf,J9,J9,yg hf x r];cases same:x==n with
  |false=>rfl
  |true=>rw [eq_of_beq same];rfl
def jw {names:G0 (Str×NameKind)}{k:NameKind}(found:
 (names.map λ(n,k)=>if (k==E3&&env.scope.kind== .function&&env.kindOf n==some .cell) then (n,V6) else (n,k)).lookup x=some k):
  names.lookup x=some k\/names.lookup x=some .free:=by
 rw [yg (g:=λn k=>if (k==E3&&env.scope.kind== .function&&env.kindOf n==some .cell) then .cell else k) (λn k=>by dsimp only;split<;>rfl)] at found;obtain⟨k0,was,now⟩:=L5.mp found;split at now
 ·rename_i c;simp only [N9,beq_iff_eq] at c;exact .inr (by rw [was,c.1.1])
 ·exact .inl (by rw [was,now])
theorem wc: ∀ (names:G0 (Str×NameKind)) (n:G8) (acc:G0 (Str×P3)) (p:Str×P3),p∈Y2 n names acc->p∈acc\/(n<=p.2/\(p.1,V6)∈names)
 | [],_,_,_,h=> .inl h
 |(x,k)::r,n,acc,p,h=>by
  unfold Y2 at h;split at h
  ·rename_i hk;rcases wc r (n+1) _ p h with z|⟨z1,z2⟩
   ·rcases S0.mp z with e|z
    ·subst e;have:k= .cell:=by simpa using hk
     subst this;exact .inr ⟨P2 _,D3⟩
    ·exact .inl z
   ·exact .inr ⟨by omega,S1 _ z2⟩
  ·rcases wc r n acc p h with z|⟨z1,z2⟩
   ·exact .inl z
   ·exact .inr ⟨z1,S1 _ z2⟩
theorem jK: ∀ (names:G0 (Str×NameKind)) (n:G8) (acc:G0 (Str×P3)),Y2 n names acc=Y2 n names []++acc
 | [],_,_=>rfl
 |(x,k)::r,n,acc=>by
  unfold Y2;split
  ·rw [jK r (n+1) ((x,n)::acc),jK r (n+1) [(x,n)],D5];rfl
  ·exact jK r n acc
def vg (l l':G0 (Str×α))(x:Str):(l++l').lookup x=(match l.lookup x with|some c=>some c|none=>l'.lookup x):=by
 induction l with
 |nil=>rfl
 |cons p l ih=>
  obtain⟨n,c⟩:=p;rw [U5,J9,J9];cases x==n with
  |true=>rfl
  |false=>exact ih
def vI {names:G0 (Str×NameKind)}(here:names.lookup x=some .cell):
 (names.map λ(n,k)=>if (k==E3&&env.scope.kind== .function&&env.kindOf n==some .cell) then (n,V6) else (n,k)).lookup x=some .cell:=by
 rw [yg (g:=λn k=>if (k==E3&&env.scope.kind== .function&&env.kindOf n==some .cell) then .cell else k) (λn k=>by dsimp only;split<;>rfl),here];simp
section
variable {M:qA}{A:N4}{E:G2->G3->Prop}{s:G3}
def GE (h:L8)(names:G0 (Str×NameKind)):(∀n c,(n,c)∈Y2 h.objs.size names []->(pushCells h names).IsCell c none/\h.objs.size<=c)/\(Y2 h.objs.size names []).Pairwise λx y=>x.2≠y.2:=
 have laid:=cellsFrom_ok names h h.objs.size [] ⟨by simp,.nil⟩ (P2 _)
 ⟨laid.empty,laid.apart⟩
def Zo {scope:Y5}{globals:P3}{closure:G0 (Str×P3)}{qual:Str}{func:P9 P3}{code:G2}{outer:Env}{builtins:P3}{Q:Env->G3->Prop}
 (hQ: ∀h',h'.Ns s.heap.objs.size (λ_=>none)->(∀b o,s.heap.get? b=some o->h'.get? b=some o)->(∀n c,(n,c)∈Y2 (s.heap.objs.size+1) scope.names []->h'.IsCell c none/\s.heap.objs.size+1<=c)->
  ((Y2 (s.heap.objs.size+1) scope.names []).Pairwise λx y=>x.2≠y.2)->
  Q (newEnv scope s.heap.objs.size globals (Y2 (s.heap.objs.size+1) scope.names closure) qual func code (some outer) builtins) {s with heap:=h'}):
 D8 M A (tS scope globals closure [] qual func code (some outer) builtins) Q E s:=by
 have names:=GE (s.heap.push {cls:= .type "dict",data:= .dict #[]}) scope.names;have first:(s.heap.push {cls:= .type "dict",data:= .dict #[]}).objs.size=s.heap.objs.size+1:=cE ..
 rw [first] at names;unfold tS;refine wpAny_bind (wpAny_alloc (wpAny_bind (wpAny_layCells _ (λn k cs=>rfl) _ _ _ _ ?_)));simp only [Option.isSome_some,oX];rw [first];exact wpAny_bind (G9 (G9 (hQ _ ((Heap.Ns.new _ _).keeps (sF _ _)) (λb o here=>sF _ _ b o (G6 _ here)) names.1 names.2)))
end
noncomputable def jx (X:Cx)(scope:Y5)(C:P3):G0 (Str×P3):=Y2 (C+1) scope.names (wK scope.names X.env [])
noncomputable def wL (X:Cx)(scope:Y5)(C:P3)(s₀:G3)(H₀:Hp)(ex:G0 P3):Cx:=
 {X with s₀:=s₀,H₀:=H₀,env:=mE scope (jx X scope C) C X.env,outer:=X.stack,ex:=ex,fn:=λx=>scope.names.lookup x==some .cell,pn:= [],xe:=λ_ _=>False}
def jh (X:Cx)(scope:Y5)(X':Cx):Prop:= ∃C s₀ H₀ ex,X'=wL X scope C s₀ H₀ ex
structure Ê (X:Cx)(scope:Y5)(js:G0 G8):Prop where
 kind:scope.kind= .function
 locs: ∀p∈scope.names,p.2= .local->scope.names.lookup p.1=some .local
 cels: ∀p∈scope.names,p.2= .cell->scope.names.lookup p.1=some .cell
 free: ∀p∈scope.names,p.2= .free->X.env.scope.names.lookup p.1=some .cell\/X.env.scope.names.lookup p.1=some .free
 js: ∀ (i:G8) (x:Str),X.N[i]? =some x->(scope.names.lookup x=some .local\/scope.names.lookup x=some .cell)->i∈js
variable {js:G0 G8}
def za (S:Ê X scope js){C:P3}{x:Str}{c:P3}(h:(jx X scope C).lookup x=some c):
 (scope.names.lookup x≠some .cell/\X.env.cells.lookup x=some c)\/(scope.names.lookup x=some .cell/\(x,c)∈Y2 (C+1) scope.names []):=by
 unfold jx at h;rw [jK,vg] at h;cases e:(Y2 (C+1) scope.names []).lookup x with
 |some d=>
  rw [e] at h;cases h;have m:=zz e;rcases wc _ _ _ _ m with z|⟨_,z⟩
  ·exact absurd z (by simp)
  ·exact .inr ⟨S.cels _ z rfl,m⟩
 |none=>
  rw [e] at h;refine .inl ⟨λz=> ?_,Yg h⟩;obtain⟨d,hd⟩:=Jc (sc:=scope) (n:=C+1) z;rw [e] at hd;cases hd
def wC (S:Ê X scope js){C:P3}{x:Str}{c:P3}(hc:X.env.cells.lookup x=some c)(h:(x,E3)∈scope.names)(hn:scope.names.lookup x≠some .cell):(jx X scope C).lookup x=some c:=by
 unfold jx;rw [jK,vg];cases e:(Y2 (C+1) scope.names []).lookup x with
 |some d=>
  rcases wc _ _ _ _ (zz e) with z|⟨_,z⟩
  ·exact absurd z (by simp)
  ·exact absurd (S.cels _ z rfl) hn
 |none=>exact Di hc h
noncomputable def zA:G0 G8->St->St
 | [],σ=>σ
 |j::js,σ=>zA js (σ.set j none)
theorem JL: ∀ (js:G0 G8) (σ:St),(zA js σ).length=σ.length
 | [],_=>rfl
 |j::js,σ=>by rw [zA,JL js];simp
theorem Jf: ∀ (js:G0 G8) (σ:St) (i:G8) (v:V),(zA js σ)[i]? =some (some v)->σ[i]? =some (some v)
 | [],_,_,_,h=>h
 |j::js,σ,i,v,h=>by
  have h1:=Jf js _ i v h
  by_cases e:i=j
  ·subst e;rw [gA] at h1;simp at h1
  ·rwa [Q7 (E7 e)] at h1
theorem jW: ∀ (js:G0 G8) (σ:St) (i:G8) (v:V),i∈js-> ¬ (zA js σ)[i]? =some (some v)
 |j::js,σ,i,v,hm,h=>by
  rcases S0.mp hm with rfl|hm
  ·have h1:=Jf js _ i v h;rw [gA] at h1;simp at h1
  ·exact jW js _ i v hm h
variable {a:P3}{o:HO}
def ď.track {h:L8}(x:ď P w H h)(hn:H a=none)(new:Ñ P w (upd H a o) h a o):ď P w (upd H a o) h:=λb u e=>by
 by_cases hb:b=a
 ·subst hb;rw [jt] at e;cases e;exact new
 ·rw [jq hb] at e;exact(x b u e).stay (λc v _ q=>q) (λc q=>by rw [jq (ji q hn)];exact q) λc xs q=>by rw [jq (ji q hn)];exact q
def Agree (σ Â:St):Prop:=Â.length=σ.length/\ ∀ (i:G8) (v:V),σ[i]? =some (some v)->Â[i]? =some (some v)
variable {σ:St}
def Agree.set {j:G8}(v:V)(h: ∀u,¬σ[j]? =some (some u)):Agree σ (σ.set j (some v)):=⟨by simp,λi u q=>by
 by_cases e:j=i
 ·subst e;exact absurd q (h u)
 ·rw [Q7 e];exact q⟩
def Agree.trans {a b c:St}(x:Agree a b)(y:Agree b c):Agree a c:=⟨y.1.trans x.1,λi v h=>y.2 i v (x.2 i v h)⟩
def Ĝ (X:Cx)(ifs:G0 M6)(t:TT):Prop:=
 ∀ (À:G0 (P3×Obj)) (s:G3) (σ:St) (H:Hp) (Q:N0->Hp->Prop),Inv X À σ H s->t σ H Q->
  D8 (R3 X.prog X.w) X.A (forIn ifs true λc r=>if r=true then do let ok <-isTrue c X.env (J3 c X.env);pure (aN ok) else pure (aN r)) (TP X À σ Q) X.xe s
def Hy:TT:=λ_ H Q=>Q true H
def Fe:Ĝ X [] Hy:=λ_ _ _ H _ I h=>wpAny_tests_nil ⟨H,I,h⟩
def Ff {c:M6}{t:TT}(hc:PT X c t):Ĝ X [c] t:=λÀ s σ H Q I h=>wpAny_tests_one (hc À s σ H Q I h)
noncomputable def Jg (iter target:M6)(ifs:G0 M6)(it:G2)(env:Env)(act:Sem Unit)(nxt:Code):Sem dQ:=do
 gX iter.pos
 match <-iU it with
 |none=>pure (.done .next)
 |some v=>
  aK target it v
  gR target env v
  let mut ok:=true
  for c in ifs do
   if ok then ok <-isTrue c env (J3 c env)
  if ok then act
  again nxt
variable {elt iter:M6}{ifs:G0 M6}
def Qt {A:N4}{R:n6->G3->Prop}{s:G3}{target:M6}{gens:G0 aX}{depth:G8}{it acc:G2}{act:Sem Unit}(I:G8->G3->Prop)
 (heq:g7 (.ListComp elt gens scope pos) depth it acc env=Jg iter target ifs it env act (.compLoop (.ListComp elt gens scope pos) depth it acc env))
 (turn: ∀n s,I n s->D8 (R3 prog w) A (iU it) (λr s₁=>match r with
  |none=>R (.ok .next) s₁
  |some v=>D8 (R3 prog w) A (aK target it v) (λ_ s₁=>D8 (R3 prog w) A (gR target env v) (λ_ s₂=>
   D8 (R3 prog w) A (forIn ifs true λc r=>if r=true then do let ok <-xJ c env (J3 c env);pure (aN ok) else pure (aN r)) (λok s₃=>
    if ok=true then D8 (R3 prog w) A act (λ_ ω=> ∃m,m<n/\I m ω) (λ_ _=>False) s₃
    else ∃m,m<n/\I m s₃) (λ_ _=>False) s₂) (λ_ _=>False) s₁) (λ_ _=>False) s₁) (λ_ _=>False) s)
 (n:G8)(h:I n s):
 bR (R3 prog w) A (.compLoop (.ListComp elt gens scope pos) depth it acc env) R s:=by
 refine xK rfl I (λn s hI=> ?_) n h;show D8 _ A ((g7 (.ListComp elt gens scope pos) depth it acc env).onRaise (λx=>do xE x env;m7 x)) _ _ s;refine z8 ?_;rw [heq];unfold Jg;refine wpAny_bind (aW (wpAny_bind (T7 (turn n s hI) (λr s₁ h₁=> ?_) λ_ _ h'=>h'.elim)));cases r with
 |none=>exact G9 h₁
 |some v=>
  refine wpAny_bind (T7 h₁ (λ_ s₁ h₁=> ?_) λ_ _ h'=>h'.elim);refine wpAny_bind (T7 h₁ (λ_ s₂ î=>wpAny_bind (T7 î (λok s₃ č=> ?_) λ_ _ h'=>h'.elim)) λ_ _ h'=>h'.elim);cases ok with
  |false=>exact G9 ⟨rfl,č⟩
  |true=>exact wpAny_bind (T7 č (λ_ ω X0U=>G9 ⟨rfl,X0U⟩) λ_ _ h'=>h'.elim)
abbrev TM:=St->Hp->G0 V->(G0 V->Hp->Prop)->Prop
def EX (X:Cx)(D:P3)(act:Sem Unit)(t:TM):Prop:=
 ∀ (À:G0 (P3×Obj)) (s:G3) (σ:St) (H:Hp) (ys:G0 V) (us:G0 G2) (Q:G0 V->Hp->Prop),Inv X ([(D,bS us)]++À) σ H s->Æ ys us->ys.length<=sizeLine->D∈X.ex->(∀x c,X.env.cells.lookup x=some c->c≠D)->(∀p∈X.pn++À,p.1≠D)->t σ H ys Q->
  D8 (R3 X.prog X.w) X.A act (λ_ s'=> ∃ÿ Γ H',Æ ÿ Γ/\Inv X ([(D,bS Γ)]++À) σ H' s'/\Q ÿ H') (λ_ _=>False) s
def Ad (te:TE):TM:=λσ H ys Q=>te σ H λy H1=>Q (ys++ [y]) H1
noncomputable def Yh (elt:M6)(env:Env)(acc:G2):Sem Unit:=do let _ <-call (.builtin "list.append") [acc,<-J3 elt env]
variable {te:TE}
def YF {D:P3}(hx:X.xe=λ_ _=>False)(he:PE X elt te):EX X D (Yh elt X.env (.ref D)) (Ad te):=by
 intro À s σ H ys us Q I hv hz DX cD pD h;have q:=he _ s σ H _ I h;rw [hx] at q;unfold Yh;refine wpAny_bind (T7 q (λy s1 ⟨yv,H1,I1,r1,q1⟩=> ?_) λ_ _ z=>z);have zD:=I1.pin (D,bS us) (D4 _ (B8 _ D3));refine wpAny_bind (append_at (its:=us.toArray) (n:=us.length) zD.1 (λh11 X1y X1z=>G9 ?_) (by rw [D7,<-hv.length];exact hz));have X0V:Inv X À σ H1 s1:=I1.pins_of λp hp=>I1.pin p (D4 _ (D4 _ hp))
 have I11:Inv X À σ H1 {s1 with heap:=h11}:=X0V.turned (t':=s1.toks) (it:=D) (λb o hb e=>X1y.extBut b o hb e) zD.2.1 zD.2.2.1 (.inl DX) cD pD;have eD:h11.get? D=some (bS (us++ [y])):=by rw [X1z];exact congrArg some (LCg.lst_snoc us y)
 refine⟨ys++ [yv],us++ [y],H1,hv.append (.cons r1 .nil),I11.pins_of λp hp=> ?_,q1⟩;rcases D1.mp hp with z|z
 ·rcases P0.mp z with rfl
  exact⟨eD,zD.2.1,zD.2.2.1,zD.2.2.2.1,λv z=>by cases z⟩
 ·exact I11.pin p (D4 _ z)
def EY (js : G0 G8) (wi : TI) (g : TG) (tt : TT) (tm : TM) : TE := fun σ H Q => wi σ H fun J H1 =>
  ∃ W : G8 → G8 → G0 V → Hp → Prop, (∃ m, W 0 m [] H1) ∧ ∀ i m ys H, W i m ys H → ys.length ≤ sizeLine ∧
    ((J.stop i H ∧ ∀ p, H p = none → Q (.ref p) (upd H p (.lst ys))) ∨
     (J.go i H ∧ ∀ x H', J.yld i H x H' → g x (zA js σ) H' fun ã H2 => Agree (zA js σ) ã ∧ tt ã H2 fun b H3 =>
        if b = true then tm ã H3 ys fun ÿ H4 => ∃ m', m' < m ∧ W (i + 1) m' ÿ H4 else ∃ m', m' < m ∧ W (i + 1) m' ys H3))
def tLC (js:G0 G8)(wi:TI)(g:TG)(tt:TT)(te:TE):TE:=EY js wi g tt (Ad te)
variable {e tg:M6}{wi:TI}{g:TG}{tt:TT}
def Dj {rest:G0 aX}{X0W:Pos}{tm:TM}{use:P9 (G2->Sem Unit)}{Qv:G2->G3->Prop}(hc:X.calm=true)(S:Ê X scope js)(hi:PI X tg iter wi)
 (he0:e= .ListComp elt (⟨tg,iter,ifs,0⟩::rest) scope pos)
 (hg: ∀X',jh X scope X'->PG X' tg g)(ht: ∀X',jh X scope X'->Ĝ X' ifs tt)
 (act:Env->G2->Sem Unit)(Ŧ: ∀it acc env,g7 e 0 it acc env=Jg iter tg ifs it env (act env acc) (.compLoop e 0 it acc env))(he: ∀X',jh X scope X'-> ∀D,EX X' D (act X'.env (.ref D)) tm)
 (hs: ∀x,M8 iter X.env x=pure x){À:G0 (P3×Obj)}{s:G3}{σ:St}{H:Hp}{Q:VK}(I:Inv X À σ H s)(h:EY js wi g tt tm σ H Q)
 (fin: ∀ (D C:P3) (H':Hp) (s':G3) (m:Str->P9 G2),s'.heap.Ns C m->(∀h',O9 C s'.heap h'->Inv X À σ H' {s' with heap:=h'})->H' C=none->C≠X.env.locals->C ∉ X.fs->X.s₀.heap.objs.size<=C->(∀x c,X.env.cells.lookup x=some c->c≠C)->(∀p∈X.pn++À,p.1≠C)->
  Q (.ref D) H'->tT (R3 X.prog X.w) X.A X.xe use Qv (.ref D) C (.ok .next) s'):
 D8 (R3 X.prog X.w) X.A (lN e scope X.env X0W (newList []) false (J3 iter X.env) use) Qv X.xe s:=by
 have X0g:=Je (scope:=scope) (env:=X.env) (λp hp e=>I.ok.has p.1 (S.free p hp e));subst he0;refine lQ (use:=use) rfl hs X0g S.kind S.locs (Ó (hi À s σ H _ I h) λv s1 h1=>Ó h1 λitv s2 h2=> ?_);obtain⟨it,fp,tn,J,H2,e,I2,T,ĭ,f2,W,⟨m0,w0⟩,turn⟩:=h2;subst e;refine K1 (Zo (λh₁ û Ĕ Ü ü=> ?_));dsimp only at û Ĕ Ü ü ⊢;generalize hD:s2.heap.objs.size=D;generalize hH3:s2.heap.push {cls:= .type "list",dict:=none,data:= .seq ([]:G0 G2).toArray}=h3 at û Ĕ Ü ü ⊢;have sz3:h3.objs.size=D+1:=by rw [<-hH3,cE,hD]
 have up3: ∀b o,s2.heap.get? b=some o->h3.get? b=some o:=λb o e=>hH3 ▸ G6 _ e
 have I3:Inv X À σ H2 {s2 with heap:=h3}:=I2.kept (t':=s2.toks) up3;have hD3:h3.get? D=some (bS []):=by rw [<-hH3,<-hD];exact R0 _ rfl
 have fD:Xf X À H2 D:=I2.fpOk (by rw [hD];exact P2 _) (I2.hok.fresh (by rw [hD];exact P2 _));have obf: ∀b∈fp,∃o,s2.heap.get? b=some o/\ ∀v,o.data≠ .cell v:=T.obj _ _ ĭ;have ltf: ∀b∈fp,b<D:=λb hb=>by obtain⟨o,e,_⟩:=obf b hb;rw [<-hD];exact D0 e
 generalize hC:h3.objs.size=C at û Ü ü ⊢;have CD:C=D+1:=hC.symm.trans sz3;have Μ: ∀b o,h3.get? b=some o->h₁.get? b=some o:=Ĕ;generalize hX:wL X scope C {s2 with heap:=h3} H2 (fp++ [D])=X';have iX:jh X scope X':=⟨C,_,_,_,hX.symm⟩;have hf: ∀b∈fp++ [D],Xf X À H2 b:=λb hb=>(D1.mp hb).elim (f2 b) λz=>by rw [P0.mp z];exact fD
 have cl: ∀x c,(jx X scope C).lookup x=some c->X.env.cells.lookup x=some c\/C<c:=λx c e=>by
  rcases za S e with ⟨_,z⟩|⟨_,z⟩
  ·exact .inl z
  ·exact .inr (X3 (Ü x c z).2)
 have olt: ∀x c,X.env.cells.lookup x=some c->c<C:=λx c e=>by obtain⟨v,q⟩:=I3.cell x c e;rw [<-hC];exact q.lt
 have ltb: ∀b∈fp++ [D],b<C:=λb hb=>(D1.mp hb).elim (λz=>by have:=ltf b z;rw [CD];exact cX this) λz=>by rw [P0.mp z,CD];exact E5 _
 have okX:X'.Ok:=by
  subst hX;refine⟨I.ok.mod,S.kind,I.ok.glob,I.ok.blt,U6 hC,λx y c e1 e2=> ?_,λx hx=> ?_,λx c z e=> ?_,I.ok.hd,I.ok.frames,.inl rfl,λb hb=>⟨S8 (ltb b hb),λx c e=>(cl x c e).elim (λz=>(hf b hb).2.2.2.2.1 x c z) λz=>Q2 (X2 (ltb b hb) z)⟩,
   I3.bs,R1 I.ok.bsz I3.sz,λb o e hb=> ?_,λb hb z=> ?_,I3.stack,I3.stkFree⟩
  ·rcases za S e1 with ⟨_,z1⟩|⟨_,z1⟩<;>rcases za S e2 with ⟨_,z2⟩|⟨_,z2⟩
   ·exact I.ok.inj x y c z1 z2
   ·exact absurd (X2 (olt x c z1) (X3 (Ü y c z2).2)) (C1 _)
   ·exact absurd (X2 (olt y c z2) (X3 (Ü x c z1).2)) (C1 _)
   ·exact qF ü z1 z2
  ·have own:scope.names.lookup x=some .cell-> ∃c,(jx X scope C).lookup x=some c:=λz=>by
    obtain⟨c,hc⟩:=Jc (sc:=scope) (n:=C+1) z;exact⟨c,by unfold jx;rw [jK,vg,hc]⟩
   have shr:scope.names.lookup x=some .free-> ∃c,(jx X scope C).lookup x=some c:=λz=>by
    have fm:=zz z;obtain⟨c,hc⟩:=I.ok.has x (S.free _ fm rfl);exact⟨c,wC S hc fm (by rw [z];decide)⟩
   rcases hx with hx|hx
   ·rcases jw (env:=X.env) hx with z|z
    ·exact own z
    ·exact shr z
   ·rcases jw (env:=X.env) hx with z|z<;>exact shr z
  ·have z':scope.names.lookup x=some .cell:=by
    have z2:(scope.names.lookup x==some V6)=true:=z;simpa using z2
   rcases za S e with ⟨n,_⟩|⟨_,m⟩
   ·exact absurd z' n
   ·show h3.objs.size<=c;rw [hC];exact T8 (X3 (Ü x c m).2)
  ·rcases (hf b hb).2.2.2.1 with z|z
   ·exact I.ok.noex b o e z
   ·exact absurd (N5 (D0 e) (R1 I.ok.bsz z)) (C1 _)
  ·rcases S0.mp (I.stkSub b z) with q|q
   ·exact(hf b hb).2.1 q
   ·exact(hf b hb).2.2.1 q
 -- Ŝ X0h first state
 have I4:Inv X' [(D,bS [])] (zA js σ) H2 {s2 with heap:=h₁}:=by
  subst hX;have hDC:D≠C:=by rw [CD];exact S8 (E5 _)
  refine⟨okX,rfl,I2.bare,Un.kept (λb u e=>Μ b u e),⟨_,û,λi x v e1 e2 e3=> ?_⟩,λx c e=> ?_,I3.hok.fresh (U6 hC),λx c e=>(cl x c e).elim (λz=>I2.freeC x c z) (λz=>I3.hok.fresh (by rw [<-hC] at z;exact T8 z)),λp hp=> ?_,I3.hok.kept Μ,(JL js σ).trans I2.len⟩
  ·have fr:scope.names.lookup x=some .free:=by
    rcases e3 with e3|e3|e3
    ·rcases jw (env:=X.env) e3 with z|z
     ·exact absurd e2 (jW js σ i v (S.js i x e1 (.inl z)))
     ·exact z
    ·rcases jw (env:=X.env) e3 with z|z
     ·exact absurd e2 (jW js σ i v (S.js i x e1 (.inr z)))
     ·exact z
    ·rcases jw (env:=X.env) e3 with z|z<;>exact z
   have fm:=zz fr;obtain⟨m,hm,hl⟩:=I2.loc;have vis:=S.free _ fm rfl;obtain⟨u,r,lk⟩:=hl i x v e1 (Jf js σ i v e2) (.inr vis);have kd:(xL scope X.env).names.lookup x=some .cell\/(xL scope X.env).names.lookup x=some .free:=by
    rcases e3 with e3|e3|e3
    ·rcases jw (env:=X.env) e3 with z|z
     ·rw [fr] at z;cases z
     ·exfalso;have z2:=e3
      -- a X0i kind stays
      exact absurd e2 (jW js σ i v (S.js i x e1 (.inl (by
       have q: ∀ (l:G0 (Str×NameKind)),(l.map λ(n,k)=>if (k==E3&&X.env.scope.kind== .function&&X.env.kindOf n==some .cell) then (n,V6) else (n,k)).lookup x=some .local->l.lookup x=some .local:=by
        intro l
        induction l with
        |nil=>intro h;simp at h
        |cons p l ih=>
         obtain⟨n,k'⟩:=p;intro h;have h':z9 x ((if (k'==E3&&X.env.scope.kind== .function&&X.env.kindOf n==some .cell)=true then (n,V6) else (n,k'))::(l.map λ(n,k)=>if (k==E3&&X.env.scope.kind== .function&&X.env.kindOf n==some .cell) then (n,V6) else (n,k)))=some .local:=h;rw [J9]
         by_cases hc:(k'==E3&&X.env.scope.kind== .function&&X.env.kindOf n==some .cell)=true
         ·rw [R6 hc,J9] at h';cases hx:x==n with
          |true=>rw [hx] at h';cases h'
          |false=>rw [hx] at h';exact ih h'
         ·rw [R9 hc,J9] at h';cases hx:x==n with
          |true=>rw [hx] at h';exact h'
          |false=>rw [hx] at h';exact ih h'
       exact q _ z2))))
    ·exact .inl e3
    ·exact .inr e3
   rcases lk with ⟨k,_⟩|⟨_,c,hc,ŋ⟩
   ·have k':X.env.scope.names.lookup x=some .local:=k;rcases vis with z|z<;>(rw [k'] at z;cases z)
   ·refine⟨u,r,.inr ⟨kd,c,wC S hc fm (by rw [fr];decide),?_⟩⟩;obtain⟨o,ho,hd⟩:=ŋ;exact⟨o,Μ _ _ (up3 _ _ ho),hd⟩
  ·rcases za S e with ⟨_,z⟩|⟨_,z⟩
   ·obtain⟨v,o,ho,hd⟩:=I2.cell x c z;exact⟨v,o,Μ _ _ (up3 _ _ ho),hd⟩
   ·exact⟨none,(Ü x c z).1⟩
  ·have Ŷ:p∈ [(D,bS [])]:=hp;rcases P0.mp Ŷ with rfl
   refine⟨Μ _ _ hD3,fD.1,hDC,λz=> ?_,λv z=>by cases z⟩;rcases S0.mp (I.stkSub D z) with q|q
   ·exact fD.2.1 q
   ·exact fD.2.2.1 q
 have st4:tn 0 h₁:=T.keep _ _ _ ĭ λb _ o e=>Μ _ _ (up3 _ _ e)
 have eA:X'.A=X.A:=by rw [<-hX];rfl
 have eP:X'.prog=X.prog:=by rw [<-hX];rfl
 have eW:X'.w=X.w:=by rw [<-hX];rfl
 have eK:X'.K=X.K:=by rw [<-hX];rfl
 have eC:X'.calm=true:=by rw [<-hX];exact hc
 have eV:X'.env=mE scope (jx X scope C) C X.env:=by rw [<-hX];rfl
 have eE:X'.xe=λ_ _=>False:=by rw [<-hX];rfl
 -- μ stays true of Ŝ ĵ objects
 have Ē: ∀ {us:G0 G2} {H':Hp},(∀b∈fp,H' b=none)-> ∀b∈fp,Xf X' [(D,bS us)] H' b:=λ{us H'} hn b hb=>by
  have q:=hf b (B8 _ hb);subst hX;refine⟨hn b hb,S8 (ltb b (B8 _ hb)),λz=> ?_,.inl (B8 _ hb),λx c e=>(cl x c e).elim (λz=>q.2.2.2.2.1 x c z) (λz=>Q2 (X2 (ltb b (B8 _ hb)) z)),λp hp=> ?_⟩
  ·rcases S0.mp (I.stkSub b z) with r|r
   ·exact q.2.1 r
   ·exact q.2.2.1 r
  ·have Ŷ:p∈ [(D,bS us)]:=hp;rcases P0.mp Ŷ with rfl
   exact Q2 (ltf b hb)
 have loop: ∀s₃:G3,s₃= {s2 with heap:=h₁}->
  bR (R3 X.prog X.w) X.A (.compLoop (.ListComp elt (⟨tg,iter,ifs,0⟩::rest) scope pos) 0 (.ref it) (.ref D) (mE scope (jx X scope C) C X.env))
   (tT (R3 X.prog X.w) X.A X.xe use Qv (.ref D) C) s₃:=by
  rintro s₃ rfl;refine Qt (act:=act (mE scope (jx X scope C) C X.env) (.ref D)) (λn s'=> ∃i ys us H',Æ ys us/\Inv X' [(D,bS us)] (zA js σ) H' s'/\tn i s'.heap/\(∀b∈fp,H' b=none)/\W i n ys H') (Ŧ _ _ _) ?_ m0
   ⟨0,[],[],H2,.nil,I4,st4,λb hb=>(f2 b hb).1,w0⟩
  rintro n s5 ⟨i,ys,us,H5,ε,I5,Ψ,fr5,w5⟩;obtain⟨hz,tr⟩:=turn i n ys H5 w5;rcases tr with ⟨stop,qn⟩|⟨go,step⟩
  ·have q:=T.done X' eP eW eK eC i _ s5 _ H5 (λ_ _=>False) I5 (Ē fr5) Ψ stop;rw [eA] at q;refine T7 q (λr s6 ⟨hr,I6⟩=> ?_) λ_ _ z=>z
   subst hr;obtain⟨m6,hm6,_⟩:=I6.loc;rw [eV] at hm6;have zD:=I6.pin (D,bS us) (D4 _ D3);have HD:H5 D=none:=zD.2.1;have oD:s6.heap.get? D=some (bS us):=zD.1;have hDC:D≠C:=by rw [CD];exact S8 (E5 _)
   have HC:H5 C=none:=by have z:=I6.free;rw [eV] at z;exact z
   have B:=I6.base;have os6:s6.os=s2.os:=by have z:=I6.os;rw [<-hX] at z;exact z
   have Bu:Un (Ι X.stack) (fp++ [D]) H2 H5 h3 s6.heap:=by rw [<-hX] at B;exact B
   have Χ: ∀b o,h3.get? b=some o->b≠C:=λb o e=>by rw [<-hC];exact S8 (D0 e)
   refine fin D C (upd H5 D (.lst ys)) s6 m6 hm6 (λh' hs'=> ?_) (by rw [jq (E7 hDC)];exact HC) ?_ ?_ ?_ (λx c e=>S8 (olt x c e)) ?_ (qn D HD)
   ·have hk5:ď X.prog X.w H5 h':=λb u e=>by
     have z:=I6.hok b u e;rw [eP,eW] at z;refine z.stay (λc v hc q=>hs'.extBut c v ?_ q) (λ_ q=>q) λ_ _ q=>q
     rcases hc with rfl|hc
     ·exact ji e HC
     ·exact ji hc HC
    refine I3.call' (ch:=fp++ [D]) os6 ⟨λb o e n hb hx=> ?_,λb o e n hb hx=> ?_,λb o e n hx=> ?_,λb o e hx=> ?_,λb xs e=> ?_,λb o u e=> ?_,λb ps e=> ?_⟩ (hk5.track HD ?_) I6.bare λb hb=> ?_
    ·exact hs'.extBut b o (Χ b o e) (Bu.keep b o e n hb hx)
    ·obtain⟨sl,q⟩:=Bu.slot b o e n hb hx;exact⟨sl,hs'.extBut b _ (Χ b o e) q⟩
    ·rw [jq λz=>hx (by rw [z];exact D4 _ D3)];exact Bu.free b o e n hx
    ·obtain⟨o',q⟩:=Bu.there b o e hx;exact⟨o',hs'.extBut b _ (Χ b o e) q⟩
    ·have z:=Bu.tups b xs e;rw [jq (ji z HD)];exact z
    ·have z:=Bu.frzs b o u e;rw [jq (ji z HD)];exact z
    ·obtain⟨more,z⟩:=Bu.tbls b ps e;exact⟨more,by rw [jq (ji z HD)];exact z⟩
    ·exact⟨hz,us,us.length,ε,hs'.extBut D _ hDC oD⟩
    ·have q:=hf b hb;exact⟨q.2.2.2.1,q.2.1,q.2.2.2.2.1,q.2.2.2.2.2⟩
   ·rw [<-hC];exact Q2 I3.lt
   ·exact I3.nofs (U6 hC)
   ·rw [<-hC];exact I3.sz
   ·intro p hp;have:=(I3.pin p hp).1;rw [<-hC];exact S8 (D0 this)
  ·have q:=T.item X' eP eW eK eC i _ s5 _ H5 (λ_ _=>False) I5 (Ē fr5) Ψ go;rw [eA] at q;refine T7 q (λr s6 ⟨u,hr,h6⟩=> ?_) λ_ _ z=>z
   subst hr;refine T7 h6 (λ_ s7 ⟨x,H7,I7,r7,y7,st7,fr7⟩=> ?_) λ_ _ z=>z
   have I7':=I7.pinned (Ē fr7) (T.obj _ _ st7);have q7:=hg X' iX _ s7 _ H7 x u _ I7' r7 (step x H7 y7);rw [eP,eW,eA,eV,eE] at q7;refine T7 q7 (λ_ s8 ⟨σ8,H8,I8,Δ,q8⟩=> ?_) λ_ _ z=>z
   have q9:=ht X' iX _ s8 σ8 H8 _ I8 q8;rw [eP,eW,eA,eV,eE] at q9;refine T7 q9 (λok s9 ⟨H9,I9,q9⟩=> ?_) λ_ _ z=>z
   have Ħ: ∀ {Â:St} {H':Hp} {s':G3} {us:G0 G2},Inv X' ([(D,bS us)]++wW fp s7.heap) Â H' s'->tn (i+1) s'.heap/\ ∀b∈fp,H' b=none:=λ{Â H' s' us} I'=>
    ⟨T.keep _ _ _ st7 λb hb o e=>(I'.pin (b,o) (D4 _ (D4 _ (zw hb e)))).1,λb hb=>by
     obtain⟨o,e,_⟩:=T.obj _ _ st7 b hb;exact(I'.pin (b,o) (D4 _ (D4 _ (zw hb e)))).2.1⟩
   cases ok with
   |false=>
    have q9: ∃m',m'<n/\W (i+1) m' ys H9:=q9;obtain⟨m',hm,w9⟩:=q9;obtain⟨t9,f9⟩:=Ħ I9;exact⟨m',hm,i+1,ys,us,H9,ε,(I9.unpinned).weak Δ.1.symm Δ.2,t9,f9,w9⟩
   |true=>
    have q9:tm σ8 H9 ys λÿ H4=> ∃m',m'<n/\W (i+1) m' ÿ H4:=q9
    have DX:D∈X'.ex:=by rw [<-hX];exact D4 _ D3
    have pD: ∀p∈X'.pn++wW fp s7.heap,p.1≠D:=λp hp=>by
     have Ŷ:p∈wW fp s7.heap:=by rw [<-hX] at hp;simpa [wL] using hp
     exact S8 (ltf _ (Jb Ŷ).1)
    have cD: ∀x c,X'.env.cells.lookup x=some c->c≠D:=λx c e=>by
     rw [eV] at e;exact(cl x c e).elim (λz=>fD.2.2.2.2.1 x c z) λz=>Q2 (X2 (by rw [CD];exact E5 _) z)
    have q10:=he X' iX D _ s9 σ8 H9 ys us _ I9 ε hz DX cD pD q9;rw [eP,eW,eA,eV] at q10;show D8 _ _ (act _ _) _ _ s9;refine T7 q10 (λ_ s10 ⟨ÿ,Γ,H10,X0w,I10,m',hm,w10⟩=> ?_) λ_ _ z=>z
    obtain⟨t10,f10⟩:=Ħ I10;exact⟨m',hm,i+1,ÿ,Γ,H10,X0w,(I10.unpinned).weak Δ.1.symm Δ.2,t10,f10,w10⟩
 exact codeAny_compStart_list (loop _ rfl) (T.self X.A 0 _ _ _ st4 (loop _ rfl))
def Ae (hc:X.calm=true)(S:Ê X scope js)(hi:PI X tg iter wi)
 (hg: ∀X',jh X scope X'->PG X' tg g)(ht: ∀X',jh X scope X'->Ĝ X' ifs tt)(he: ∀X',jh X scope X'->PE X' elt te)
 (hs: ∀x,M8 iter X.env x=pure x:=by intro _;rfl):PE X (.ListComp elt [⟨tg,iter,ifs,0⟩] scope pos) (tLC js wi g tt te):=by
 intro À s σ H Q I h;rw [uQ];exact Dj (use:=none) hc S hi rfl hg ht (Yh elt) (λ_ _ _=>rfl) (λX' hX D=>YF (by obtain⟨_,_,_,_,rfl⟩:=hX;rfl) (he X' hX)) hs I h
  λD C H' s' m hn hk _ _ _ _ _ _ q=>⟨m,hn,λh' hs'=>⟨.ref D,H',hk h' hs',rfl,q⟩⟩
def Fg {rest:G0 aX}{pos' ą:Pos}{g':TG}{tm:TM}(hc:X.calm=true)(S:Ê X scope js)(hi:PI X tg iter wi)
 (he0:e= .ListComp elt (⟨tg,iter,ifs,0⟩::rest) scope pos)(hg: ∀X',jh X scope X'->PG X' tg g)(ht: ∀X',jh X scope X'->Ĝ X' ifs tt)
 (act:Env->G2->Sem Unit)(Ŧ: ∀it acc env,g7 e 0 it acc env=Jg iter tg ifs it env (act env acc) (.compLoop e 0 it acc env))(he: ∀X',jh X scope X'-> ∀D,EX X' D (act X'.env (.ref D)) tm)
 (hg':PG X (.Name x pos') g')(hsw:aG e (some (.Name x pos')) ą.line X.env=pure true)
 (hs: ∀x,M8 iter X.env x=pure x):PS X (.Assign [.Name x pos'] e ą) (BM (EY js wi g tt tm) g'):=by
 intro À s σ H Dn I h;rw [exec_Assign_Name_used _ _ _ _ hsw];refine wpAny_bind (aW (wpAny_bind ?_));subst he0;rw [arm_evalThenUse_ListComp];show D8 _ X.A (do let _ <-lN (.ListComp elt (⟨tg,iter,ifs,0⟩::rest) scope pos) scope X.env _ (newList []) false (J3 iter X.env) (some (gR (.Name x pos') X.env))) _ _ s;refine wpAny_bind (T7 (Dj (use:=some (gR (.Name x pos') X.env)) (Qv:=λ_ s'=>SP X À Dn .next s') hc S hi rfl hg ht act Ŧ he hs I h ?_) (λ_ s' hq=>G9 (G9 hq)) λ_ _ e=>e);intro D C H' s' m hn hk HC nL nf sz X0X X1A q;show D8 _ X.A (gR (.Name x pos') X.env (.ref D)) _ _ s';obtain⟨o,es,ep,ho,hd,hr⟩:=id hn;have I1:Inv X À σ H' s':=hk s'.heap (cY ..);have I2:Inv X (À++ [(C,o)]) σ H' s':=I1.pins_of λp hp=>by
  rcases D1.mp hp with z|z
  ·exact I1.pin p (D4 _ z)
  ·rcases P0.mp z with rfl
   exact⟨ho,HC,nL,nf,λv z=>by rw [hd] at z;cases z⟩
 refine T7 (hg' _ s' σ H' (.ref D) (.ref D) _ I2 rfl q) (λ_ s3 ⟨Đ,H3,I3,q3⟩=> ?_) λ_ _ z=>z
 have pC:=I3.pin (C,o) (D4 _ (D4 _ D3));refine⟨m,hn.at' λo' e'=> ?_,λh' hs'=> ?_⟩
 ·rw [ho] at e';cases e';exact pC.1
 ·exact⟨Đ,H3,(I3.unpinned).turned (t':=s3.toks) (it:=C) (λb o hb e=>hs'.extBut b o hb e) pC.2.1 nL (.inr sz) X0X X1A,q3⟩
def Qu {pos' ą:Pos}{g':TG}(hc:X.calm=true)(S:Ê X scope js)(hi:PI X tg iter wi)
 (hg: ∀X',jh X scope X'->PG X' tg g)(ht: ∀X',jh X scope X'->Ĝ X' ifs tt)(he: ∀X',jh X scope X'->PE X' elt te)
 (hg':PG X (.Name x pos') g')(hsw:aG (.ListComp elt [⟨tg,iter,ifs,0⟩] scope pos) (some (.Name x pos')) ą.line X.env=pure true)
 (hs: ∀x,M8 iter X.env x=pure x:=by intro _;rfl):PS X (.Assign [.Name x pos'] (.ListComp elt [⟨tg,iter,ifs,0⟩] scope pos) ą) (BM (tLC js wi g tt te) g'):=
 Fg hc S hi rfl hg ht (Yh elt) (λ_ _ _=>rfl) (λX' hX D=>YF (by obtain⟨_,_,_,_,rfl⟩:=hX;rfl) (he X' hX)) hg' hsw hs
noncomputable def Dk (e iter:M6)(env:Env)(acc:G2):Sem Unit:=do
 let x <-J3 iter env
 gX iter.pos
 let x <-M8 iter env x
 let _ <-runOwn (.compStart e 1 (<-aR [x] (nV x)) acc env) env
def mIn (wi : TI) (g : TG) (tt : TT) (tm : TM) : TM := fun σ H ys Q => wi σ H fun J H1 =>
  ∃ W : G8 → G8 → G0 V → Hp → Prop, (∃ m, W 0 m ys H1) ∧ ∀ i m ys H, W i m ys H → ys.length ≤ sizeLine ∧
    ((J.stop i H ∧ Q ys H) ∨
     (J.go i H ∧ ∀ x H', J.yld i H x H' → g x σ H' fun ã H2 => Agree σ ã ∧ tt ã H2 fun b H3 =>
        if b = true then tm ã H3 ys fun ÿ H4 => ∃ m', m' < m ∧ W (i + 1) m' ÿ H4 else ∃ m', m' < m ∧ W (i + 1) m' ys H3))
def Jh {A:N4}{R:n6->G3->Prop}{s:G3}{g0 g1:aX}{it acc:G2}(ha:g1.is_async=0)
 (h0:bR (R3 prog w) A (.compLoop (.ListComp elt [g0,g1] scope pos) 1 it acc env) R s)
 (h:D8 (R3 prog w) A (nV it) (λit' s'=>bR (R3 prog w) A (.compLoop (.ListComp elt [g0,g1] scope pos) 1 it' acc env) R s')
  (notedBy (R3 prog w) A env λx s'=>R (.error x) s') s):
 bR (R3 prog w) A (.compStart (.ListComp elt [g0,g1] scope pos) 1 it acc env) R s:=by
 obtain⟨tg,iter,ifs,as⟩:=g1;cases (show as=0 from ha);refine m8 (uR ?_);obtain⟨hp,g,d,tk,os⟩:=s;unfold compStart
 wp_walk
 refine aY ?_;split
 ·exact G9 ⟨rfl,h0⟩
 ·exact wpAny_bind (dE (wpAny_bind (aW (wpAny_bind (T7 h (λ_ _ on=>G9 ⟨rfl,on⟩) λ_ _ x=>x)))))
def Fh {D:P3}{g0:aX}(hc:X.calm=true)(hx:X.xe=λ_ _=>False)
 (hi:PI X tg iter wi)(hg:PG X tg g)(ht:Ĝ X ifs tt)(he:PE X elt te)(hs: ∀x,M8 iter X.env x=pure x):
 EX X D (Dk (.ListComp elt [g0,⟨tg,iter,ifs,0⟩] scope pos) iter X.env (.ref D)) (mIn wi g tt (Ad te)):=by
 intro À s σ H ys us Q I hv hz DX cD pD h;have q:=hi _ s σ H _ I h;rw [hx] at q;unfold Dk;refine wpAny_bind (T7 q (λv s1 h1=>wpAny_bind (aW (wpAny_bind (rX (hs v) (wpAny_bind (O5 (T7 h1 (λitv s2 h2=> ?_) λ_ _ z=>z))))))) λ_ _ z=>z);obtain⟨it,fp,tn,J,H2,e,I2,T,ĭ,f2,W,⟨m0,w0⟩,turn⟩:=h2;subst e;refine wpAny_bind (wpAny_runOwn ?_);have neD: ∀b∈fp,b≠D:=λb hb=>by
  have z:=(f2 b hb).2.2.2.2.2 (D,bS us) (D4 _ (B8 _ D3));exact E7 z
 have Ē: ∀ {Γ:G0 G2} {H':Hp},(∀b∈fp,H' b=none)-> ∀b∈fp,Xf X ([(D,bS Γ)]++À) H' b:=λ{Γ H'} hn b hb=>by
  have q:=f2 b hb;refine⟨hn b hb,q.2.1,q.2.2.1,q.2.2.2.1,q.2.2.2.2.1,λp hp=> ?_⟩;rcases D1.mp hp with z|z
  ·exact q.2.2.2.2.2 p (B8 _ z)
  ·rcases D1.mp z with z|z
   ·rcases P0.mp z with rfl
    exact E7 (neD b hb)
   ·exact q.2.2.2.2.2 p (D4 _ (D4 _ z))
 have loop:bR (R3 X.prog X.w) X.A (.compLoop (.ListComp elt [g0,⟨tg,iter,ifs,0⟩] scope pos) 1 (.ref it) (.ref D) X.env)
  (λr s'=>match r with| .ok f=>D8 (R3 X.prog X.w) X.A (pure ()) (λ_ s'=> ∃ÿ Γ H',Æ ÿ Γ/\Inv X ([(D,bS Γ)]++À) σ H' s'/\Q ÿ H') (λ_ _=>False) s'| .error e=>cameBackBy (R3 X.prog X.w) X.A X.env (λ_ _=>False) e s') s2:=by
  refine Qt (act:=Yh elt X.env (.ref D)) (λn s'=> ∃i ys us H',Æ ys us/\Inv X ([(D,bS us)]++À) σ H' s'/\tn i s'.heap/\(∀b∈fp,H' b=none)/\W i n ys H') rfl ?_ m0
   ⟨0,ys,us,H2,hv,I2,ĭ,λb hb=>(f2 b hb).1,w0⟩
  rintro n s5 ⟨i,ys,us,H5,ε,I5,Ψ,fr5,w5⟩;obtain⟨hz,tr⟩:=turn i n ys H5 w5;rcases tr with ⟨stop,qn⟩|⟨go,step⟩
  ·refine T7 (T.done X rfl rfl rfl hc i _ s5 _ H5 (λ_ _=>False) I5 (Ē fr5) Ψ stop) (λr s6 ⟨hr,I6⟩=> ?_) λ_ _ z=>z
   subst hr;exact G9 ⟨ys,us,H5,ε,I6,qn⟩
  ·refine T7 (T.item X rfl rfl rfl hc i _ s5 _ H5 (λ_ _=>False) I5 (Ē fr5) Ψ go) (λr s6 ⟨u,hr,h6⟩=> ?_) λ_ _ z=>z
   subst hr;refine T7 h6 (λ_ s7 ⟨x,H7,I7,r7,y7,st7,fr7⟩=> ?_) λ_ _ z=>z
   have I7':=I7.pinned (Ē fr7) (T.obj _ _ st7);have q7:=hg _ s7 _ H7 x u _ I7' r7 (step x H7 y7);rw [hx] at q7;refine T7 q7 (λ_ s8 ⟨σ8,H8,I8,Δ,q8⟩=> ?_) λ_ _ z=>z
   have q9:=ht _ s8 σ8 H8 _ I8 q8;rw [hx] at q9;refine T7 q9 (λok s9 ⟨H9,I9,q9⟩=> ?_) λ_ _ z=>z
   have Ħ: ∀ {Â:St} {H':Hp} {s':G3} {us:G0 G2},Inv X (([(D,bS us)]++À)++wW fp s7.heap) Â H' s'->tn (i+1) s'.heap/\ ∀b∈fp,H' b=none:=λ{Â H' s' us} I'=>
    ⟨T.keep _ _ _ st7 λb hb o e=>(I'.pin (b,o) (D4 _ (D4 _ (zw hb e)))).1,λb hb=>by
     obtain⟨o,e,_⟩:=T.obj _ _ st7 b hb;exact(I'.pin (b,o) (D4 _ (D4 _ (zw hb e)))).2.1⟩
   cases ok with
   |false=>
    have q9: ∃m',m'<n/\W (i+1) m' ys H9:=q9;obtain⟨m',hm,w9⟩:=q9;obtain⟨t9,f9⟩:=Ħ I9;exact⟨m',hm,i+1,ys,us,H9,ε,(I9.unpinned).weak Δ.1.symm Δ.2,t9,f9,w9⟩
   |true=>
    have q9:Ad te σ8 H9 ys λÿ H4=> ∃m',m'<n/\W (i+1) m' ÿ H4:=q9
    have pD': ∀p∈X.pn++(À++wW fp s7.heap),p.1≠D:=λp hp=>by
     rcases D1.mp hp with z|z
     ·exact pD p (B8 _ z)
     ·rcases D1.mp z with z|z
      ·exact pD p (D4 _ z)
      ·exact neD _ (Jb z).1
    rw [D5] at I9;have q10:=YF (D:=D) hx he (À++wW fp s7.heap) s9 σ8 H9 ys us _ I9 ε hz DX cD pD' q9;show D8 _ _ (Yh _ _ _) _ _ s9;refine T7 q10 (λ_ s10 ⟨ÿ,Γ,H10,X0w,I10,m',hm,w10⟩=> ?_) λ_ _ z=>z
    rw [<-D5] at I10;obtain⟨t10,f10⟩:=Ħ I10;exact⟨m',hm,i+1,ÿ,Γ,H10,X0w,(I10.unpinned).weak Δ.1.symm Δ.2,t10,f10,w10⟩
 exact Jh rfl loop (T.self X.A 0 _ _ _ ĭ loop)
def Fi (elt iter tg ç tg':M6)(ifs ģ:G0 M6)(scope:Y5)(pos:Pos)(it acc:G2)(env:Env):
 g7 (.ListComp elt [⟨tg,iter,ifs,0⟩,⟨tg',ç,ģ,0⟩] scope pos) 0 it acc env=
  Jg iter tg ifs it env (Dk (.ListComp elt [⟨tg,iter,ifs,0⟩,⟨tg',ç,ģ,0⟩] scope pos) ç env acc) (.compLoop (.ListComp elt [⟨tg,iter,ifs,0⟩,⟨tg',ç,ģ,0⟩] scope pos) 0 it acc env):=by
 unfold Jg Dk;simp only [bind_assoc,pure_bind];rfl
def SN (js:G0 G8)(wi:TI)(g:TG)(tt:TT)(wi':TI)(g':TG)(Ŀ:TT)(te:TE):TE:=EY js wi g tt (mIn wi' g' Ŀ (Ad te))
def Af {ç tg':M6}{ģ:G0 M6}{wi':TI}{g':TG}{Ŀ:TT}(hc:X.calm=true)(S:Ê X scope js)(hi:PI X tg iter wi)
 (hg: ∀X',jh X scope X'->PG X' tg g)(ht: ∀X',jh X scope X'->Ĝ X' ifs tt)(hi': ∀X',jh X scope X'->PI X' tg' ç wi')
 (hg': ∀X',jh X scope X'->PG X' tg' g')(ht': ∀X',jh X scope X'->Ĝ X' ģ Ŀ)(he: ∀X',jh X scope X'->PE X' elt te)
 (hs: ∀x,M8 iter X.env x=pure x:=by intro _;rfl)(hs': ∀env x,M8 ç env x=pure x:=by intro _ _;rfl):
 PE X (.ListComp elt [⟨tg,iter,ifs,0⟩,⟨tg',ç,ģ,0⟩] scope pos) (SN js wi g tt wi' g' Ŀ te):=by
 intro À s σ H Q I h;rw [uQ];exact Dj (use:=none) hc S hi rfl hg ht (λenv acc=>Dk (.ListComp elt [⟨tg,iter,ifs,0⟩,⟨tg',ç,ģ,0⟩] scope pos) ç env acc) (λ_ _ _=>Fi ..)
  (λX' hX D=>Fh (by obtain⟨_,_,_,_,rfl⟩:=hX;exact hc) (by obtain⟨_,_,_,_,rfl⟩:=hX;rfl) (hi' X' hX) (hg' X' hX) (ht' X' hX) (he X' hX) (hs' _)) hs I h
  λD C H' s' m hn hk _ _ _ _ _ _ q=>⟨m,hn,λh' hs'=>⟨.ref D,H',hk h' hs',rfl,q⟩⟩
inductive D where
 |non|bl (b:N0)|int (i:P4)|str (x:Str)|tup (ds:G0 D)|lst (a:P3)|dic (x:Str) (i:P4)|dct (a:P3)|scr (ns:G0 P4)|exc (C:P3)|fn (a:P3)
def Scr (K:G7)(H:Hp)(a:P3)(ns:G0 P4):Prop:=
 (∃o,H a=some (.frz o (.lst (ns.map V.int))))\/
  ∃ (o:Obj) (its:S5 G2) (n:G8),K.lookup a=some o/\o.cls= .type "list" /\o.dict=none/\o.data= .seq its n/\its.size<=sizeLine/\Æ (ns.map V.int) its.toList
variable {K:G7}
def Scr.sq {ns:G0 P4}(h:Scr K H a ns):ê K H a (ns.map V.int):=h.elim (λz=> .inl (.inr z)) .inr
mutual
def È (K:G7)(H:Hp):D->V->Prop
 | .non,v=>v= .non
 | .bl b,v=>v= .bl b
 | .int i,v=>v= .int i
 | .str x,v=>v= .str x
 | .tup ds,v=> ∃a vs,v= .ref a/\H a=some (.tup vs)/\Á K H ds vs
 | .lst a,v=>v= .ref a/\ ∃vs,H a=some (.lst vs)
 | .dic x i,v=> ∃a,v= .ref a/\H a=some (.dK [(dM x,V.int i)])
 | .dct a,v=>v= .ref a
 | .scr ns,v=> ∃a,v= .ref a/\Scr K H a ns
 | .exc C,v=> ∃x o vs,v= .ref x/\H x=some (.frz o (.own 0))/\o.cls= .ref C/\o.data= .fields vs
 | .fn a,v=>v= .ref a/\cB K (.ref a)=true
def Á (K:G7)(H:Hp):G0 D->G0 V->Prop
 | [],vs=>vs= []
 |d::ds,vs=> ∃v r,vs=v::r/\È K H d v/\Á K H ds r
end
structure Kept (H H':Hp):Prop where
 tup: ∀a xs,H a=some (.tup xs)->H' a=some (.tup xs)
 lst: ∀a xs,H a=some (.lst xs)-> ∃ys,H' a=some (.lst ys)
 dic: ∀a x i,H a=some (.dK [(dM x,V.int i)])->H' a=some (.dK [(dM x,V.int i)])
 frz: ∀a o u,H a=some (.frz o u)->H' a=some (.frz o u)
def Kept.refl (H:Hp):Kept H H:=⟨λ_ _ h=>h,λ_ xs h=>⟨xs,h⟩,λ_ _ _ h=>h,λ_ _ _ h=>h⟩
def Kept.trans {A B C:Hp}(x:Kept A B)(y:Kept B C):Kept A C:=
 ⟨λa xs h=>y.tup a xs (x.tup a xs h),λa xs h=>let ⟨_,e⟩:=x.lst a xs h;y.lst a _ e,λa k i h=>y.dic a k i (x.dic a k i h),λa o u h=>y.frz a o u (x.frz a o u h)⟩
variable {p:P3}
def Kept.new (h:H p=none):Kept H (upd H p o):=
 ⟨λa xs e=>by rw [jq (ji e h)];exact e,λa xs e=>⟨xs,by rw [jq (ji e h)];exact e⟩,λa k i e=>by rw [jq (ji e h)];exact e,λa o u e=>by rw [jq (ji e h)];exact e⟩
def Kept.put {xs ys:G0 V}(h:H p=some (.lst xs)):Kept H (upd H p (.lst ys)):=
 ⟨λa zs e=>by rw [jq (Gy e h (by intro z;cases z))];exact e,λa zs e=>by
  by_cases q:a=p
  ·subst q;exact⟨ys,jt⟩
  ·exact⟨zs,by rw [jq q];exact e⟩,
  λa k i e=>by rw [jq (Gy e h (by intro z;cases z))];exact e,λa o u e=>by rw [jq (Gy e h (by intro z;cases z))];exact e⟩
def Ν (o:HO):Prop:=(∃Ï:G0 (P4×V),o= .dK (Ï.map λp=>((k9 p.1:Ą),p.2)))\/ ∃φ,o= .ext φ
def Ν.no (d:Ν o):(∀xs,o≠ .tup xs)/\(∀xs,o≠ .lst xs)/\(∀x i,o≠ .dK [(dM x,V.int i)])/\(∀p u,o≠ .frz p u)/\ ∀ps,o≠ .tbl ps:=by
 rcases d with ⟨Ï,rfl⟩|⟨φ,rfl⟩
 ·refine⟨λ_ z=>(nomatch z),λ_ z=>(nomatch z),λx i z=> ?_,λ_ _ z=>(nomatch z),λ_ z=>(nomatch z)⟩;injection z with z
  cases Ï with
  |nil=>cases z
  |cons p r=>injection z with z _;injection z with z _;cases z
 ·exact⟨λ_ z=>(nomatch z),λ_ z=>(nomatch z),λ_ _ z=>(nomatch z),λ_ _ z=>(nomatch z),λ_ z=>(nomatch z)⟩
def Kept.putD {o':HO}(h:H p=some o)(d:Ν o):Kept H (upd H p o'):=by
 obtain⟨d1,d2,d3,d4,_⟩:=d.no;have ne: ∀ {a:P3} {u:HO},H a=some u->o≠u->a≠p:=λe n z=>by subst z;rw [h] at e;injection e with e;exact n e
 exact⟨λa xs e=>by rw [jq (ne e (d1 xs))];exact e,λa xs e=>⟨xs,by rw [jq (ne e (d2 xs))];exact e⟩,λa x i e=>by rw [jq (ne e (d3 x i))];exact e,λa q u e=>by rw [jq (ne e (d4 q u))];exact e⟩
mutual
variable {H':Hp}
theorem È.mono (k:Kept H H'): ∀ {d:D} {v:V},È K H d v->È K H' d v
 | .non,_,h=>h
 | .bl _,_,h=>h
 | .int _,_,h=>h
 | .str _,_,h=>h
 | .tup ds,v,h=>by
  obtain⟨a,vs,e,h1,h2⟩:=(show ∃a vs,v= .ref a/\H a=some (.tup vs)/\Á K H ds vs from h);exact⟨a,vs,e,k.tup _ _ h1,Á.mono k h2⟩
 | .lst a,v,h=>by
  obtain⟨e,vs,h1⟩:=(show v= .ref a/\ ∃vs,H a=some (.lst vs) from h);exact⟨e,k.lst _ _ h1⟩
 | .dic x i,v,h=>by
  obtain⟨a,e,h1⟩:=(show ∃a,v= .ref a/\H a=some (.dK [(dM x,V.int i)]) from h);exact⟨a,e,k.dic _ _ _ h1⟩
 | .dct a,v,h=>h
 | .scr ns,v,h=>by
  obtain⟨a,e,h1⟩:=(show ∃a,v= .ref a/\Scr K H a ns from h);exact⟨a,e,h1.elim (λ⟨o,z⟩=> .inl ⟨o,k.frz _ _ _ z⟩) .inr⟩
 | .exc C,v,h=>by
  obtain⟨x,o,vs,e,h1,r⟩:=(show ∃x o vs,v= .ref x/\H x=some (.frz o (.own 0))/\o.cls= .ref C/\o.data= .fields vs from h);exact⟨x,o,vs,e,k.frz _ _ _ h1,r⟩
 | .fn a,v,h=>h
theorem Á.mono (k:Kept H H'): ∀ {ds:G0 D} {vs:G0 V},Á K H ds vs->Á K H' ds vs
 | [],_,h=>h
 |d::ds,vs,h=>by
  obtain⟨v,r,e,h1,h2⟩:=(show ∃v r,vs=v::r/\È K H d v/\Á K H ds r from h);exact⟨v,r,e,È.mono k h1,Á.mono k h2⟩
end
section
variable {K:G7}{H:Hp}
def Á.nil:Á K H [] []:=rfl
def Á.cons {d:D}{v:V}{ds:G0 D}{vs:G0 V}(h:È K H d v)(t:Á K H ds vs):Á K H (d::ds) (v::vs):=⟨v,vs,rfl,h,t⟩
theorem Á.length: ∀ {ds:G0 D} {vs:G0 V},Á K H ds vs->ds.length=vs.length
 | [],_,h=>by cases (show _= [] from h);rfl
 |d::ds,vs,h=>by
  obtain⟨v,r,e,_,h2⟩:=(show ∃v r,vs=v::r/\È K H d v/\Á K H ds r from h);subst e;simp [Á.length h2]
theorem Á.append: ∀ {ds es:G0 D} {vs us:G0 V},Á K H ds vs->Á K H es us->Á K H (ds++es) (vs++us)
 | [],_,_,_,h,g=>by cases (show _= [] from h);exact g
 |d::ds,es,vs,us,h,g=>by
  obtain⟨v,r,e,h1,h2⟩:=(show ∃v r,vs=v::r/\È K H d v/\Á K H ds r from h);subst e;exact .cons h1 (Á.append h2 g)
theorem Á.get: ∀ {ds:G0 D} {vs:G0 V} {i:G8} {d:D},Á K H ds vs->ds[i]? =some d-> ∃v,vs[i]? =some v/\È K H d v
 |d'::ds,vs,i,d,h,e=>by
  obtain⟨v,r,q,h1,h2⟩:=(show ∃v r,vs=v::r/\È K H d' v/\Á K H ds r from h);subst q;cases i with
  |zero=>simp at e;subst e;exact⟨v,rfl,h1⟩
  |succ i=>
   obtain⟨u,q1,q2⟩:=Á.get h2 (i:=i) (d:=d) (by simpa using e);exact⟨u,by simpa using q1,q2⟩
def Á.take (n:G8): ∀ {ds:G0 D} {vs:G0 V},Á K H ds vs->Á K H (ds.take n) (vs.take n):=by
 induction n with
 |zero=>intro ds vs _;exact(rfl:Á K H [] [])
 |succ n ih=>
  intro ds vs h;cases ds with
  |nil=>cases (show vs= [] from h);exact .nil
  |cons d ds=>
   obtain⟨v,r,e,h1,h2⟩:=(show ∃v r,vs=v::r/\È K H d v/\Á K H ds r from h);subst e;exact .cons h1 (ih h2)
def Á.drop (n:G8): ∀ {ds:G0 D} {vs:G0 V},Á K H ds vs->Á K H (ds.drop n) (vs.drop n):=by
 induction n with
 |zero=>intro ds vs h;exact h
 |succ n ih=>
  intro ds vs h;cases ds with
  |nil=>cases (show vs= [] from h);exact .nil
  |cons d ds=>
   obtain⟨v,r,e,h1,h2⟩:=(show ∃v r,vs=v::r/\È K H d v/\Á K H ds r from h);subst e;exact ih h2
theorem Á.set {d:D}{v:V}(q:È K H d v): ∀ {ds:G0 D} {vs:G0 V} (i:G8),Á K H ds vs->Á K H (ds.set i d) (vs.set i v)
 | [],_,_,h=>by cases (show _= [] from h);exact .nil
 |e::ds,vs,i,h=>by
  obtain⟨u,r,z,h1,h2⟩:=(show ∃u r,vs=u::r/\È K H e u/\Á K H ds r from h);subst z;cases i with
  |zero=>exact .cons q h2
  |succ i=>exact .cons h1 (Á.set q i h2)
theorem vh: ∀ns:G0 P4,Á K H (ns.map D.int) (ns.map V.int)
 | []=> .nil
 |n::ns=> .cons rfl (vh ns)
end
inductive DC where
 |ik (kv:G0 (P4×D))
 |tk (ep:G8) (kv:G0 (G0 (G0 P4)×D))
structure HD where
 ls:P3->P9 (G0 D)
 dc:P3->P9 DC
instance:CoeFun HD λ_=>P3->P9 (G0 D):=⟨HD.ls⟩
noncomputable def zm (h:HD)(a:P3)(ds:G0 D):HD:=⟨λb=>if b=a then some ds else h b,h.dc⟩
noncomputable def YG (h:HD)(a:P3):HD:=⟨λb=>if b=a then none else h b,h.dc⟩
variable {h:HD}{ds:G0 D}
def jc:zm h a ds a=some ds:=R6 rfl
def wm {b:P3}(e:b≠a):zm h a ds b=h b:=R9 e
def zf (e:h a=none):YG (zm h a ds) a=h:=by
 obtain⟨l,d⟩:=h;refine congrArg (HD.mk · d) ?_
 funext b
 show (if b=a then none else if b=a then some ds else l b)=l b
 by_cases q:b=a
 ·subst q;rw [R6 rfl];exact e.symm
 ·rw [R9 q,R9 q]
noncomputable def LN:G0 Str:= ["law","_law_right","_law_words","_law_other_words","_law_many_right","_law_all","_law_told_row","_law_all_right","_law_desk_right","_law_signs_right","_law_lists_right","_law_text_right"]
def X0Y (K:G7)(P:P3):Prop:= ∃x∈LN,∃c,pJ K x=some (c,P)
def Į (H:Hp)(ps:S5 G2):Prop:=TriplesOk ps.toList/\ ∀pos cv,codeAmong pos ps.toList=some cv-> ∃ (c:P3) (o:Obj) (vs:S5 G2) (q:Str) (t:Tok),cv= .ref c/\H c=some (.frz o (.own 0))/\o.data= .fields vs/\vs[1]? =some (.str q t)
def đ (K:G7)(H:Hp):Prop:= ∀P,X0Y K P-> ∃ps,H P=some (.tbl ps)/\Į H ps
def Į.mono {ps:S5 G2}(k: ∀a o u,H a=some (.frz o u)->H' a=some (.frz o u))(c:Į H ps):Į H' ps:=
 ⟨c.1,λpos cv e=>let ⟨c',o,vs,q,t,e1,e2,r⟩:=c.2 pos cv e;⟨c',o,vs,q,t,e1,k _ _ _ e2,r⟩⟩
def đ.mono (x:đ K H)(k: ∀a o u,H a=some (.frz o u)->H' a=some (.frz o u))(kt: ∀a ps,H a=some (.tbl ps)->H' a=some (.tbl ps)):đ K H':=λP hP=>
 let ⟨ps,e,c⟩:=x P hP;⟨ps,kt _ _ e,c.mono k⟩
def đ.new (x:đ K H)(e:H p=none):đ K (upd H p o):=
 x.mono (λa o' u h=>by rw [jq (ji h e)];exact h) λa ps h=>by rw [jq (ji h e)];exact h
def đ.put {xs:G0 V}(x:đ K H)(e:H p=some (.lst xs)):đ K (upd H p o):=
 x.mono (λa o' u h=>by rw [jq (Gy h e (by intro z;cases z))];exact h) λa ps h=>by rw [jq (Gy h e (by intro z;cases z))];exact h
noncomputable def YH (T:G0 (G0 P4)):P4:=mP (Y9 (T.map λr=>mP (Y9 (r.map G0q))))
noncomputable def WI (a:P3)(ep:G8)(xs:G0 (G0 (G0 P4)×P3×V)):HO:= .ext λh=>(a==W7)=false/\xs.length<=sizeLine/\ ∃ys:G0 (G0 (G0 P4)×P3×G2),Paired (λp q=>p.1=q.1/\p.2.1=q.2.1/\RelV p.2.2 q.2.2) xs ys/\
 ∃o es,h.get? a=some o/\o.ExactDict/\o.data= .dict es ep/\es.toList=ys.map λx=>⟨YH x.1,.ref x.2.1,x.2.2⟩
def Ő (K:G7)(H:Hp)(a:P3):DC->Prop
 | .ik kv=> ∃Ï:G0 (P4×V),H a=some (.dK (Ï.map λp=>((k9 p.1:Ą),p.2)))/\kv.map (·.1)=Ï.map (·.1)/\Á K H (kv.map (·.2)) (Ï.map (·.2))
 | .tk ep kv=> ∃xs:G0 (G0 (G0 P4)×P3×V),H a=some (WI a ep xs)/\(kv.map (·.1)).Nodup/\kv.map (·.1)=xs.map (·.1)/\(∀x∈xs,È K H (.tup (x.1.map λr=> .tup (r.map D.int))) (.ref x.2.1))/\Á K H (kv.map (·.2)) (xs.map (·.2.2))
def Ő.obj: ∀ {c:DC},Ő K H a c-> ∃o,H a=some o/\Ν o
 | .ik _,⟨Ï,e,_⟩=>⟨_,e,.inl ⟨Ï,rfl⟩⟩
 | .tk _ _,⟨xs,e,_⟩=>⟨_,e,.inr ⟨_,rfl⟩⟩
def Ő.mono (k:Kept H H')(z: ∀o,H a=some o->H' a=some o): ∀ {c:DC},Ő K H a c->Ő K H' a c
 | .ik _,⟨Ï,e,q,r⟩=>⟨Ï,z _ e,q,r.mono k⟩
 | .tk _ _,⟨xs,e,n,q,t,r⟩=>⟨xs,z _ e,n,q,λx hx=>(t x hx).mono k,r.mono k⟩
structure Ç (K:G7)(h:HD)(H:Hp):Prop where
 ls: ∀a ds,h a=some ds-> ∃vs,H a=some (.lst vs)/\Á K H ds vs
 tb:đ K H
 dc: ∀a c,h.dc a=some c->Ő K H a c
instance {K:G7}{h:HD}{H:Hp}:CoeFun (Ç K h H) λ_=> ∀a ds,h a=some ds-> ∃vs,H a=some (.lst vs)/\Á K H ds vs:=⟨Ç.ls⟩
structure Sub (h h':HD):Prop where
 ls: ∀a ds,h a=some ds->h' a=some ds
 dc: ∀a c,h.dc a=some c->h'.dc a=some c
instance {h h':HD}:CoeFun (Sub h h') λ_=> ∀a ds,h a=some ds->h' a=some ds:=⟨Sub.ls⟩
def Sub.refl (h:HD):Sub h h:=⟨λ_ _ e=>e,λ_ _ e=>e⟩
def Sub.trans {a b c:HD}(x:Sub a b)(y:Sub b c):Sub a c:=⟨λd ds e=>y d ds (x d ds e),λd ds e=>y.dc d ds (x.dc d ds e)⟩
def Sub.drop (h:HD)(a:P3):Sub (YG h a) h:=⟨λb ds e=>by
 have e:(if b=a then none else h b)=some ds:=e;split at e
 ·cases e
 ·exact e,λ_ _ e=>e⟩
def Sub.new (e:h p=none):Sub h (zm h p ds):=⟨λa es q=>(by
 rw [wm];exact q;intro z;subst z;rw [e] at q;cases q),λ_ _ e=>e⟩
section
variable {K:G7}{h h':HD}{H:Hp}
def Ç.sub (r:Ç K h H)(s:Sub h' h):Ç K h' H:=⟨λa ds e=>r a ds (s a ds e),r.tb,λa c e=>r.dc a c (s.dc a c e)⟩
def Ç.free (r:Ç K h H){p:P3}(e:H p=none):h p=none:=by
 cases q:h p with
 |none=>rfl
 |some ds=>obtain⟨vs,z,_⟩:=r p ds q;rw [e] at z;cases z
def Ç.freeC (r:Ç K h H){p:P3}(e:H p=none):h.dc p=none:=by
 cases q:h.dc p with
 |none=>rfl
 |some c=>obtain⟨o,z,_⟩:=(r.dc p c q).obj;rw [e] at z;cases z
def Ç.dcN (r:Ç K h H){p:P3}{o:HO}(e:H p=none): ∀a c,h.dc a=some c->Ő K (upd H p o) a c:=λa c q=>
 (r.dc a c q).mono (.new e) λu z=>by rw [jq (ji z e)];exact z
def Ç.new (r:Ç K h H){p:P3}{o:HO}(e:H p=none):Ç K h (upd H p o):=⟨λa ds q=>by
 obtain⟨vs,z,w⟩:=r a ds q;exact⟨vs,by rw [jq (ji z e)];exact z,w.mono (.new e)⟩,r.tb.new e,r.dcN e⟩
def Ç.newL (r:Ç K h H){p:P3}{ds:G0 D}{vs:G0 V}(e:H p=none)(q:Á K H ds vs):Ç K (zm h p ds) (upd H p (.lst vs)):=⟨λa es z=>by
 by_cases w:a=p
 ·subst w;rw [jc] at z;cases z;exact⟨vs,jt,q.mono (.new e)⟩
 ·rw [wm w] at z;obtain⟨us,z1,z2⟩:=r a es z;exact⟨us,by rw [jq w];exact z1,z2.mono (.new e)⟩,r.tb.new e,r.dcN e⟩
def Ç.put (r:Ç K h H){p:P3}{ds:G0 D}{vs us:G0 V}(e:H p=some (.lst us))(q:Á K H ds vs):Ç K (zm h p ds) (upd H p (.lst vs)):=⟨λa es z=>by
 by_cases w:a=p
 ·subst w;rw [jc] at z;cases z;exact⟨vs,jt,q.mono (.put e)⟩
 ·rw [wm w] at z;obtain⟨us,z1,z2⟩:=r a es z;exact⟨us,by rw [jq w];exact z1,z2.mono (.put e)⟩,r.tb.put e,λa c z=>(r.dc a c z).mono (.put e) λo w=>by
   obtain⟨u,w',d⟩:=(r.dc a c z).obj;rw [jq (Gy w' e (d.no.2.1 _))];exact w⟩
end
noncomputable def Ng (h:HD)(p:P3)(c:DC):HD:=⟨h.ls,λb=>if b=p then some c else h.dc b⟩
def zE {c:DC}:(Ng h p c).dc p=some c:=R6 rfl
def vJ {c:DC}(e:a≠p):(Ng h p c).dc a=h.dc a:=R9 e
def Sub.newC {c:DC}(e:h.dc p=none):Sub h (Ng h p c):=⟨λ_ _ e=>e,λa d q=>by
 rw [vJ];exact q;intro z;subst z;rw [e] at q;cases q⟩
section
variable {K:G7}{h:HD}{H:Hp}
def Ç.newC (r:Ç K h H){p:P3}{o:HO}{c:DC}(e:H p=none)(d:Ő K (upd H p o) p c):Ç K (Ng h p c) (upd H p o):=⟨(r.new e).ls,r.tb.new e,λa k z=>by
 by_cases w:a=p
 ·subst w;rw [zE] at z;cases z;exact d
 ·rw [vJ w] at z;exact r.dcN e a k z⟩
def Ç.putC (r:Ç K h H){p:P3}{o o':HO}{c:DC}(e:H p=some o)(ob:Ν o)(d:Ő K (upd H p o') p c):Ç K (Ng h p c) (upd H p o'):=by
 obtain⟨d1,d2,d3,d4,d5⟩:=ob.no;have ne: ∀ {a:P3} {u:HO},H a=some u->o≠u->a≠p:=λq n z=>by subst z;rw [e] at q;injection q with q;exact n q
 refine⟨λa ds z=> ?_,r.tb.mono (λa q u z=>by rw [jq (ne z (d4 q u))];exact z) (λa ps z=>by rw [jq (ne z (d5 ps))];exact z),λa k z=> ?_⟩
 ·obtain⟨vs,z1,z2⟩:=r a ds z;exact⟨vs,by rw [jq (ne z1 (d2 vs))];exact z1,z2.mono (.putD e ob)⟩
 ·by_cases w:a=p
  ·subst w;rw [zE] at z;cases z;exact d
  ·rw [vJ w] at z;exact(r.dc a k z).mono (.putD e ob) λu q=>by rw [jq w];exact q
end
abbrev SD:=G0 (P9 D)
def Ð (K:G7)(H:Hp)(Å:SD)(σ:St):Prop:=Å.length=σ.length/\ ∀ (i:G8) (d:D),Å[i]? =some (some d)-> ∃v,σ[i]? =some (some v)/\È K H d v
def Ð.mono {Å:SD}(r:Ð K H Å σ)(k:Kept H H'):Ð K H' Å σ:=⟨r.1,λi d e=>let ⟨v,a,b⟩:=r.2 i d e;⟨v,a,b.mono k⟩⟩
def Ð.set {Å:SD}{d:D}{v:V}(r:Ð K H Å σ)(q:È K H d v)(i:G8):Ð K H (Å.set i (some d)) (σ.set i (some v)):=⟨by simp [r.1],λj e h=>by
 by_cases z:i=j
 ·subst z;rw [gA] at h ⊢
  by_cases hl:i<Å.length
  ·rw [R6 rfl,R6 hl] at h;rw [R6 rfl,R6 (by rw [<-r.1];exact hl)];cases h;exact⟨v,rfl,q⟩
  ·rw [R6 rfl,R9 hl] at h;cases h
 ·rw [Q7 z] at h ⊢;exact r.2 j e h⟩
def Ð.clear1 {Å:SD}(r:Ð K H Å σ)(i:G8):Ð K H (Å.set i none) (σ.set i none):=⟨by simp [r.1],λj e h=>by
 by_cases z:i=j
 ·subst z;rw [gA] at h;split at h
  ·split at h<;>cases h
  ·contradiction
 ·rw [Q7 z] at h ⊢;exact r.2 j e h⟩
noncomputable def jM:G0 G8->SD->SD
 | [],σ=>σ
 |j::js,σ=>jM js (σ.set j none)
theorem Ð.clear: ∀ (js:G0 G8) {Å:SD} {σ:St},Ð K H Å σ->Ð K H (jM js Å) (zA js σ)
 | [],_,_,r=>r
 |j::js,_,_,r=>Ð.clear js (r.clear1 j)
abbrev KD:=D->HD->Prop
abbrev TED:=SD->HD->KD->Prop
abbrev TTD:=SD->HD->(N0->HD->Prop)->Prop
abbrev TAD:=SD->HD->(G0 D->HD->Prop)->Prop
abbrev RD2:=D->D->HD->KD->Prop
abbrev RDn:=G0 D->HD->KD->Prop
structure EndsD where
 nx:SD->HD->Prop
 rt:KD
 bk:SD->HD->Prop:=λ_ _=>False
 ct:SD->HD->Prop:=λ_ _=>False
abbrev TSD:=EndsD->SD->HD->Prop
abbrev TGD:=D->SD->HD->(SD->HD->Prop)->Prop
def Fj (K:G7)(H:Hp)(Qd:KD)(Q:VK):Prop:= ∀d v h' H',Kept H H'->Ç K h' H'->È K H' d v->Qd d h'->Q v H'
def LE (K:G7)(t:TED):TE:=λσ H Q=> ∃Å h Qd,Ð K H Å σ/\Ç K h H/\t Å h Qd/\Fj K H Qd Q
def LT (K:G7)(t:TTD):TT:=λσ H Q=> ∃Å h Qd,Ð K H Å σ/\Ç K h H/\t Å h Qd/\ ∀b h' H',Kept H H'->Ç K h' H'->Qd b h'->Q b H'
def LA (K:G7)(t:TAD):TA:=λσ H Q=> ∃Å h Qd,Ð K H Å σ/\Ç K h H/\t Å h Qd/\ ∀ds vs h' H',Kept H H'->Ç K h' H'->Á K H' ds vs->Qd ds h'->Q vs H'
def LR (K:G7)(f:RD2):R2:=λx y H Q=> ∃dx dy h Qd,È K H dx x/\È K H dy y/\Ç K h H/\f dx dy h Qd/\Fj K H Qd Q
def LC (K:G7)(f:RDn):G0 V->Hp->VK->Prop:=λxs H Q=> ∃ds h Qd,Á K H ds xs/\Ç K h H/\f ds h Qd/\Fj K H Qd Q
def LG (K:G7)(g:TGD):TG:=λv σ H Q=> ∃d Å h Qd,È K H d v/\Ð K H Å σ/\Ç K h H/\g d Å h Qd/\ ∀Ý h' Â H',Kept H H'->Ð K H' Ý Â->Ç K h' H'->Qd Ý h'->Q Â H'
def LS (K:G7)(t:TSD):TS:=λń σ H=> ∃Å h Dd,Ð K H Å σ/\Ç K h H/\t Dd Å h/\
 (∀Ý h' Â H',Kept H H'->Ð K H' Ý Â->Ç K h' H'->Dd.nx Ý h'->ń.nx Â H')/\Fj K H Dd.rt ń.rt/\
 (∀Ý h' Â H',Kept H H'->Ð K H' Ý Â->Ç K h' H'->Dd.bk Ý h'->ń.bk Â H')/\(∀Ý h' Â H',Kept H H'->Ð K H' Ý Â->Ç K h' H'->Dd.ct Ý h'->ń.ct Â H')
def PE.imp {t t':TE}(h:PE X e t)(i: ∀σ H Q,t' σ H Q->t σ H Q):PE X e t':=λÀ s σ H Q I q=>h À s σ H Q I (i σ H Q q)
def PT.imp {t t':TT}(h:PT X e t)(i: ∀σ H Q,t' σ H Q->t σ H Q):PT X e t':=λÀ s σ H Q I q=>h À s σ H Q I (i σ H Q q)
def PW.imp {t t':TT}(h:PW X e t)(i: ∀σ H Q,t' σ H Q->t σ H Q):PW X e t':=λwh À s σ H Q I q=>h wh À s σ H Q I (i σ H Q q)
def PA.imp {e:G0 M6}{t t':TA}(h:PA X e t)(i: ∀σ H Q,t' σ H Q->t σ H Q):PA X e t':=λpos À s σ H Q I q=>h pos À s σ H Q I (i σ H Q q)
def PS.imp {e:K9}{t t':TS}(h:PS X e t)(i: ∀D σ H,t' D σ H->t D σ H):PS X e t':=λÀ s σ H D I q=>h À s σ H D I (i D σ H q)
def Ť.imp {e:G0 K9}{t t':TS}(h:Ť X e t)(i: ∀D σ H,t' D σ H->t D σ H):Ť X e t':=λÀ s σ H D I q=>h À s σ H D I (i D σ H q)
def PG.imp {t t':TG}(h:PG X e t)(i: ∀v σ H Q,t' v σ H Q->t v σ H Q):PG X e t':=λÀ s σ H v u Q I r q=>h À s σ H v u Q I r (i v σ H Q q)
def ā.imp {f:G2->G2->Sem G2}{r r':R2}(h:ā X f r)(i: ∀x y H Q,r' x y H Q->r x y H Q):ā X f r':=λÀ s σ H x y v u Q I a b q=>h À s σ H x y v u Q I a b (i x y H Q q)
def Ú.imp {f:G2}{r r':G0 V->Hp->VK->Prop}(h:Ú X f r)(i: ∀xs H Q,r' xs H Q->r xs H Q):Ú X f r':=λÀ s σ H xs us Q I a q=>h À s σ H xs us Q I a (i xs H Q q)
def Pw (i:G8):TED:=λσ h Q=> ∃d,σ[i]? =some (some d)/\Q d h
def dC (d:D):TED:=λ_ h Q=>Q d h
def Ņ (f:RD2)(ta tb:TED):TED:=λσ h Q=>ta σ h λx h1=>tb σ h1 λy h2=>f x y h2 Q
def JM:TAD:=λ_ h Q=>Q [] h
def zj (ta:TED)(tr:TAD):TAD:=λσ h Q=>ta σ h λx h1=>tr σ h1 λxs h2=>Q (x::xs) h2
def EZ (t:TAD):TED:=λσ h Q=>t σ h λds h1=>ds.length<=sizeLine/\Q (.tup ds) h1
def Ag (t:TAD):TED:=λσ h Q=>t σ h λds h1=>ds.length<=sizeLine/\ ∀p,h1 p=none->Q (.lst p) (zm h1 p ds)
def ĝ (r:RDn)(t:TAD):TED:=λσ h Q=>t σ h λds h1=>r ds h1 Q
def vp (t:TED):TTD:=λσ h Q=>t σ h λx h1=> ∃k,x= .bl k/\Q k h1
def Yi (r r':RD2)(ta tb tc:TED):TED:=λσ h Q=>ta σ h λx h1=>tb σ h1 λy h2=>r x y h2 λz h3=> ∃k,z= .bl k/\
 (if k=true then tc σ h3 λw h4=>r' y w h4 Q else Q (.bl false) h3)
def Fk (t u:TTD):TTD:=λσ h Q=>t σ h λc h1=>if c=true then u σ h1 Q else Q false h1
def Fl (t u:TTD):TTD:=λσ h Q=>t σ h λc h1=>if c=true then Q true h1 else u σ h1 Q
def VO (t:TTD):TTD:=λσ h Q=>t σ h λc h1=>Q (!c) h1
def Dl (ta tb:TED):TED:=λσ h Q=>ta σ h λx h1=> ∃c,x= .bl c/\if c=true then tb σ h1 Q else Q (.bl false) h1
def SO (ta tb:TED):TED:=λσ h Q=>ta σ h λx h1=> ∃c,x= .bl c/\if c=true then Q (.bl true) h1 else tb σ h1 Q
def Dm (ta:TED):TED:=λσ h Q=>ta σ h λx h1=> ∃c,x= .bl c/\Q (.bl (!c)) h1
def dIf (t:TTD)(ta tb:TED):TED:=λσ h Q=>t σ h λc h1=>if c=true then ta σ h1 Q else tb σ h1 Q
section
variable {K:G7}
def Ah (i:G8): ∀σ H Q,LE K (Pw i) σ H Q->Sj i σ H Q:=λσ H Q ⟨Å,h,Qd,rs,rh,⟨d,e,q⟩,p⟩=>let ⟨v,e1,e2⟩:=rs.2 i d e;⟨v,e1,p d v h H (.refl H) rh e2 q⟩
def Ai {d:D}{v:V}(r: ∀H,È K H d v): ∀σ H Q,LE K (dC d) σ H Q->tC v σ H Q:=λσ H Q ⟨Å,h,Qd,rs,rh,q,p⟩=>p d v h H (.refl H) rh (r H) q
variable {H:Hp}
def jI {H1:Hp}{Qd:KD}{Q:VK}(p:Fj K H Qd Q)(k:Kept H H1):Fj K H1 Qd Q:=λd v h' H' k'=>p d v h' H' (k.trans k')
variable {ta:TED}
def LE.bind {σ:St}{Å:SD}{h:HD}{kd:KD}{k:VK}(rs:Ð K H Å σ)(rh:Ç K h H)(t:ta Å h kd)(f: ∀d v h' H',Kept H H'->Ð K H' Å σ->Ç K h' H'->È K H' d v->kd d h'->k v H'):LE K ta σ H k:=
 ⟨Å,h,kd,rs,rh,t,λd v h' H' kp r1 r2 q=>f d v h' H' kp (rs.mono kp) r1 r2 q⟩
def LT.bind {ta:TTD}{σ:St}{Å:SD}{h:HD}{kd:N0->HD->Prop}{k:N0->Hp->Prop}(rs:Ð K H Å σ)(rh:Ç K h H)(t:ta Å h kd)(f: ∀b h' H',Kept H H'->Ð K H' Å σ->Ç K h' H'->kd b h'->k b H'):LT K ta σ H k:=
 ⟨Å,h,kd,rs,rh,t,λb h' H' kp r1 q=>f b h' H' kp (rs.mono kp) r1 q⟩
def LA.bind {ta:TAD}{σ:St}{Å:SD}{h:HD}{kd:G0 D->HD->Prop}{k:G0 V->Hp->Prop}(rs:Ð K H Å σ)(rh:Ç K h H)(t:ta Å h kd)(f: ∀ds vs h' H',Kept H H'->Ð K H' Å σ->Ç K h' H'->Á K H' ds vs->kd ds h'->k vs H'):LA K ta σ H k:=
 ⟨Å,h,kd,rs,rh,t,λd v h' H' kp r1 r2 q=>f d v h' H' kp (rs.mono kp) r1 r2 q⟩
variable {tb:TED}
def Fm {f:RD2}: ∀σ H Q,LE K (Ņ f ta tb) σ H Q->tOp (LR K f) (LE K ta) (LE K tb) σ H Q:=λσ H Q ⟨Å,h,Qd,rs,rh,t,p⟩=>
 LE.bind rs rh t λd v h1 H1 k1 ß Ë r1 t1=>LE.bind ß Ë t1 λd2 v2 h2 H2 k2 ņ ô r2 t2=>⟨d,d2,h2,Qd,r1.mono k2,r2,ô,t2,jI p (k1.trans k2)⟩
def Aj: ∀σ H Q,LA K JM σ H Q->Hs σ H Q:=λσ H Q ⟨Å,h,Qd,rs,rh,t,p⟩=>p [] [] h H (.refl H) rh rfl t
def Fn {tr:TAD}: ∀σ H Q,LA K (zj ta tr) σ H Q->OQ (LE K ta) (LA K tr) σ H Q:=λσ H Q ⟨Å,h,Qd,rs,rh,t,p⟩=>
 LE.bind rs rh t λd v h1 H1 k1 ß Ë r1 t1=>LA.bind ß Ë t1 λds vs h2 H2 k2 ņ ô r2 t2=>p _ _ h2 H2 (k1.trans k2) ô (.cons (r1.mono k2) r2) t2
def Ak {t:TAD}: ∀σ H Q,LE K (EZ t) σ H Q->Ht (LA K t) σ H Q:=λσ H Q ⟨Å,h,Qd,rs,rh,t,p⟩=>
 LA.bind rs rh t λds vs h1 H1 k1 ß Ë r1 ⟨z,q⟩=>⟨by rw [<-r1.length];exact z,λa ha=>p (.tup ds) (.ref a) h1 _ (k1.trans (.new ha)) (Ë.new ha) ⟨a,vs,rfl,jt,r1.mono (.new ha)⟩ q⟩
def Al {t:TAD}: ∀σ H Q,LE K (Ag t) σ H Q->Hu (LA K t) σ H Q:=λσ H Q ⟨Å,h,Qd,rs,rh,t,p⟩=>
 LA.bind rs rh t λds vs h1 H1 k1 ß Ë r1 ⟨z,q⟩=>⟨by rw [<-r1.length];exact z,λa ha=>p (.lst a) (.ref a) _ _ (k1.trans (.new ha)) (Ë.newL ha r1) ⟨rfl,vs,jt⟩ (q a (Ë.free ha))⟩
def Am {r:RDn}{t:TAD}: ∀σ H Q,LE K (ĝ r t) σ H Q->tCB (LC K r) (LA K t) σ H Q:=λσ H Q ⟨Å,h,Qd,rs,rh,t,p⟩=>
 LA.bind rs rh t λds vs h1 H1 k1 ß Ë r1 q=>⟨ds,h1,Qd,r1,Ë,q,jI p k1⟩
def Do {t:TED}: ∀σ H Q,LT K (vp t) σ H Q->CO (LE K t) σ H Q:=λσ H Q ⟨Å,h,Qd,rs,rh,t,p⟩=>
 LE.bind rs rh t λd v h1 H1 k1 ß Ë r1 ⟨k,e,q⟩=>by subst e;exact⟨k,r1,p k h1 H1 k1 Ë q⟩
def Nh {t:TED}: ∀σ H Q,LT K (vp t) σ H Q->tB (LE K t) σ H Q:=λσ H Q ⟨Å,h,Qd,rs,rh,t,p⟩=>
 LE.bind rs rh t λd v h1 H1 k1 ß Ë r1 ⟨k,e,q⟩=>by subst e;exact⟨k,r1,p k h1 H1 k1 Ë q⟩
def Ni {r r':RD2}{tc:TED}: ∀σ H Q,LE K (Yi r r' ta tb tc) σ H Q->BQ (LR K r) (LR K r') (LE K ta) (LE K tb) (LE K tc) σ H Q:=λσ H Q ⟨Å,h,Qd,rs,rh,t,p⟩=>
 LE.bind rs rh t λd v h1 H1 k1 ß Ë r1 t1=>LE.bind ß Ë t1 λd2 v2 h2 H2 k2 ņ ô r2 t2=>⟨d,d2,h2,_,r1.mono k2,r2,ô,t2,λd3 v3 h3 H3 k3 Ğ r3 ⟨k,e,q⟩=>by
  subst e;refine⟨k,r3,?_⟩;cases k with
  |true=>
   rw [R6 rfl] at q ⊢;exact LE.bind (ņ.mono k3) Ğ q λd4 v4 h4 H4 k4 ŷ ő r4 t4=>⟨d2,d4,h4,Qd,(r2.mono k3).mono k4,r4,ő,t4,jI p (k1.trans (k2.trans (k3.trans k4)))⟩
  |false=>
   rw [R9 R5] at q ⊢;exact p (.bl false) _ h3 H3 (k1.trans (k2.trans k3)) Ğ rfl q⟩
variable {t:TTD}
def An {u:TTD}: ∀σ H Q,LT K (Fk t u) σ H Q->Hf (LT K t) (LT K u) σ H Q:=λσ H Q ⟨Å,h,Qd,rs,rh,t,p⟩=>
 LT.bind rs rh t λb h1 H1 k1 ß Ë q=>by
  cases b with
  |true=>rw [R6 rfl] at q ⊢;exact⟨Å,h1,Qd,ß,Ë,q,λb h' H' k=>p b h' H' (k1.trans k)⟩
  |false=>rw [R9 R5] at q ⊢;exact p _ _ _ k1 Ë q
def SQ {u:TTD}: ∀σ H Q,LT K (Fl t u) σ H Q->tOr (LT K t) (LT K u) σ H Q:=λσ H Q ⟨Å,h,Qd,rs,rh,t,p⟩=>
 LT.bind rs rh t λb h1 H1 k1 ß Ë q=>by
  cases b with
  |true=>rw [R6 rfl] at q ⊢;exact p _ _ _ k1 Ë q
  |false=>rw [R9 R5] at q ⊢;exact⟨Å,h1,Qd,ß,Ë,q,λb h' H' k=>p b h' H' (k1.trans k)⟩
def Ao: ∀σ H Q,LT K (VO t) σ H Q->Hg (LT K t) σ H Q:=λσ H Q ⟨Å,h,Qd,rs,rh,t,p⟩=>
 LT.bind rs rh t λb h1 H1 k1 ß Ë q=>p _ _ _ k1 Ë q
def Ap: ∀σ H Q,LE K (Dl ta tb) σ H Q->Ow (LE K ta) (LE K tb) σ H Q:=λσ H Q ⟨Å,h,Qd,rs,rh,t,p⟩=>
 LE.bind rs rh t λd v h1 H1 k1 ß Ë r1 ⟨c,e,q⟩=>by
  subst e;refine⟨c,r1,?_⟩;cases c with
  |true=>rw [R6 rfl] at q ⊢;exact⟨Å,h1,Qd,ß,Ë,q,jI p k1⟩
  |false=>rw [R9 R5] at q ⊢;exact p (.bl false) _ _ _ k1 Ë rfl q
def SR: ∀σ H Q,LE K (SO ta tb) σ H Q->Hh (LE K ta) (LE K tb) σ H Q:=λσ H Q ⟨Å,h,Qd,rs,rh,t,p⟩=>
 LE.bind rs rh t λd v h1 H1 k1 ß Ë r1 ⟨c,e,q⟩=>by
  subst e;refine⟨c,r1,?_⟩;cases c with
  |true=>rw [R6 rfl] at q ⊢;exact p (.bl true) _ _ _ k1 Ë rfl q
  |false=>rw [R9 R5] at q ⊢;exact⟨Å,h1,Qd,ß,Ë,q,jI p k1⟩
def Aq: ∀σ H Q,LE K (Dm ta) σ H Q->Ox (LE K ta) σ H Q:=λσ H Q ⟨Å,h,Qd,rs,rh,t,p⟩=>
 LE.bind rs rh t λd v h1 H1 k1 ß Ë r1 ⟨c,e,q⟩=>by subst e;exact⟨c,r1,p (.bl (!c)) _ _ _ k1 Ë rfl q⟩
def SS: ∀σ H Q,LE K (dIf t ta tb) σ H Q->tIf (LT K t) (LE K ta) (LE K tb) σ H Q:=λσ H Q ⟨Å,h,Qd,rs,rh,t,p⟩=>
 LT.bind rs rh t λb h1 H1 k1 ß Ë q=>by
  cases b with
  |true=>rw [R6 rfl] at q ⊢;exact⟨Å,h1,Qd,ß,Ë,q,jI p k1⟩
  |false=>rw [R9 R5] at q ⊢;exact⟨Å,h1,Qd,ß,Ë,q,jI p k1⟩
end
abbrev QE (X:Cx)(e:M6)(t:TED):Prop:=PE X e (LE X.K t)
abbrev QT (X:Cx)(e:M6)(t:TTD):Prop:=PT X e (LT X.K t)
abbrev QW (X:Cx)(e:M6)(t:TTD):Prop:=PW X e (LT X.K t)
abbrev QA (X:Cx)(es:G0 M6)(t:TAD):Prop:=PA X es (LA X.K t)
abbrev QS (X:Cx)(s:K9)(t:TSD):Prop:=PS X s (LS X.K t)
abbrev QSs (X:Cx)(s:G0 K9)(t:TSD):Prop:=Ť X s (LS X.K t)
abbrev QG (X:Cx)(e:M6)(t:TGD):Prop:=PG X e (LG X.K t)
abbrev ù (X:Cx)(f:G2->G2->Sem G2)(r:RD2):Prop:=ā X f (LR X.K r)
abbrev yh (X:Cx)(f:G2)(r:RDn):Prop:=Ú X f (LC X.K r)
section
variable {X:Cx}{a b c e:M6}{es rest:G0 M6}{ta tb tc te:TED}{t u:TAD}{tt tu:TTD}{pos:Pos}{f r r':RD2}
def qv (i:G8){x:Str}(hN:X.N[i]? =some x:=by rfl)(hv:Vis X.env.scope x:=by first|exact V0 rfl|exact Z0 (V0 rfl)|exact Z0 (Z0 rfl))(hd:(x==("__debug__" :Str))=false:=by decide)
 (hcd:(x==("__classdict__" :Str))=false:=by decide):QE X (.Name x pos) (Pw i):=(BL hN hv hd hcd).imp (Ah i)
variable {j:G8}
def Hz {i:P4}:QE X (.Constant (.int i) j pos) (dC (.int i)):=ξ.imp (Ai λ_=>rfl)
def qbl {i:N0}:QE X (.Constant (.bool i) j pos) (dC (.bl i)):=X0L.imp (Ai λ_=>rfl)
def Kk:QE X (.Constant .none j pos) (dC .non):=X0r.imp (Ai λ_=>rfl)
def Kl {x:Str}:QE X (.Constant (.str x) j pos) (dC (.str x)):=ο.imp (Ai λ_=>rfl)
def ST {x:Str}{i:P4}{tk:Tok}(hg:Gl X x)(hm:X.mg x=some (.int i tk))(hd:(x==("__debug__" :Str))=false:=by decide):QE X (.Name x pos) (dC (.int i)):=
 (CG (v:= .int i) hg hm ⟨tk,rfl⟩ hd).imp (Ai λ_=>rfl)
def qop {op:y8}(ho:ù X (Q8 op) f)(ha:QE X a ta)(hb:QE X b tb):QE X (.BinOp a op b pos) (Ņ f ta tb):=(Sr ho ha hb).imp Fm
def Km {op:nX}(ho:ù X (H0 op) f)(ha:QE X a ta)(hb:QE X b tb)(hm:Z7 op b=false):QE X (.Compare a [op] [b] pos) (Ņ f ta tb):=(CN ho ha hb hm).imp Fm
def SU {op:nX}(ho:ù X (H0 op) f)(ha:QE X a ta)(hb:QE X b tb)(hm:Z7 op b=false):QT X (.Compare a [op] [b] pos) (vp (Ņ f ta tb)):=
 (CP ho ha hb hm).imp λσ H Q h=>by
  obtain⟨Å,h,Qd,rs,rh,t,p⟩:=Do (t:=Ņ f ta tb) σ H Q h;exact Fm σ H _ ⟨Å,h,Qd,rs,rh,t,p⟩
def Fo {op χ:nX}(ho:ù X (H0 op) r)(ho':ù X (H0 χ) r')(ha:QE X a ta)(hb:QE X b tb)(hc:QE X c tc)(hm:xC [op,χ] [b,c]=false:=by with_unfolding_all rfl):
 QT X (.Compare a [op,χ] [b,c] pos) (vp (Yi r r' ta tb tc)):=(MX ho ho' ha hb hc hm).imp λσ H Q h=>by
 obtain⟨Å,h,Qd,rs,rh,t,p⟩:=Do (t:=Yi r r' ta tb tc) σ H Q h;exact Ni σ H _ ⟨Å,h,Qd,rs,rh,t,p⟩
def SV (ha:QE X a ta)(he: ∀whole,isTrue a X.env whole=(do let v <-whole;gX a.pos;aR [v] (tJ v)):=by intro _;rfl):QT X a (vp ta):=(Os ha he).imp Nh
def SW (ha:QT X a tt):QW X (.BoolOp .And [a] pos) tt:=CI ha
def Kn (ha:QT X a tt):QW X (.BoolOp .Or [a] pos) tt:=Ot ha
def SX (ha:QT X a tt)(hb:QW X (.BoolOp .And (b::rest) pos) tu):QW X (.BoolOp .And (a::b::rest) pos) (Fk tt tu):=(Ou ha hb).imp An
def Ko (ha:QT X a tt)(hb:QW X (.BoolOp .Or (b::rest) pos) tu):QW X (.BoolOp .Or (a::b::rest) pos) (Fl tt tu):=(Sk ha hb).imp SQ
def SY (ha:QT X a tt):QT X (.UnaryOp .Not a pos) (VO tt):=(Ov ha).imp Ao
def Kp {op:BoolOp}(ha:QE X a ta):QE X (.BoolOp op [a] pos) ta:=Oy ha
def Kq (ha:QE X a ta)(hb:QE X (.BoolOp .And (b::rest) pos) tb):QE X (.BoolOp .And (a::b::rest) pos) (Dl ta tb):=(Oz ha hb).imp Ap
def qor (ha:QE X a ta)(hb:QE X (.BoolOp .Or (b::rest) pos) tb):QE X (.BoolOp .Or (a::b::rest) pos) (SO ta tb):=(Sl ha hb).imp SR
def Kr (ha:QE X a ta):QE X (.UnaryOp .Not a pos) (Dm ta):=(OA ha).imp Aq
def qif {c:M6}(hc:QT X c tt)(ha:QE X a ta)(hb:QE X b tb):QE X (.IfExp c a b pos) (dIf tt ta tb):=(MS hc ha hb).imp SS
def Ar:QA X [] JM:=ē.imp Aj
def Fp (ha:QE X e te)(hr:QA X es t)(hs:R8 (e::es) X.env=(false,J3 e X.env)::R8 es X.env:=by rfl):QA X (e::es) (zj te t):=(yf ha hr hs).imp Fn
def Ks {k:G8}(h:QA X es t):QE X (.Tuple es k pos) (EZ t):=(OR h).imp Ak
def Kt (h:QA X es t):QE X (.List es pos) (Ag t):=(OS h).imp Al
end
def WK:TSD:=λD σ h=>D.nx σ h
def yc (t u:TSD):TSD:=λD σ h=>t {D with nx:=u D} σ h
def Fq (te:TED):TSD:=λD σ h=>te σ h λ_ h1=>D.nx σ h1
def Xj (te:TED):TSD:=λD σ h=>te σ h D.rt
def Dp (c:TTD)(t u:TSD):TSD:=λD σ h=>c σ h λb h1=>if b=true then t D σ h1 else u D σ h1
def MM (i:G8)(te:TED):TSD:=λD σ h=>te σ h λd h1=>D.nx (σ.set i (some d)) h1
def SZ (te:TED)(g:TGD):TSD:=λD σ h=>te σ h λx h1=>g x σ h1 D.nx
def Ta (i j:G8)(ta:TAD):TSD:=λD σ h=>ta σ h λds h1=> ∃v w,ds= [v,w]/\D.nx ((σ.set i (some v)).set j (some w)) h1
def gN (i:G8):TGD:=λd σ h Q=>Q (σ.set i (some d)) h
def gT2 (i j:G8):TGD:=λd σ h Q=> ∃x y,d= .tup [x,y]/\Q ((σ.set i (some x)).set j (some y)) h
section
variable {K:G7}
def LS.of {t:TSD}{ń:Κ}{σ:St}{H:Hp}{Å:SD}{h:HD}{Dd:EndsD}(rs:Ð K H Å σ)(rh:Ç K h H)(q:t Dd Å h)
 (nx: ∀Ý h' Â H',Kept H H'->Ð K H' Ý Â->Ç K h' H'->Dd.nx Ý h'->ń.nx Â H')(rt:Fj K H Dd.rt ń.rt)
 (bk: ∀Ý h' Â H',Kept H H'->Ð K H' Ý Â->Ç K h' H'->Dd.bk Ý h'->ń.bk Â H')(ct: ∀Ý h' Â H',Kept H H'->Ð K H' Ý Â->Ç K h' H'->Dd.ct Ý h'->ń.ct Â H'):LS K t ń σ H:=⟨Å,h,Dd,rs,rh,q,nx,rt,bk,ct⟩
def Fs: ∀D σ H,LS K WK D σ H->OB D σ H:=λD σ H ⟨Å,h,Dd,rs,rh,q,nx,_⟩=>nx Å h σ H (.refl H) rs rh q
def As {t u:TSD}: ∀D σ H,LS K (yc t u) D σ H->Hi (LS K t) (LS K u) D σ H:=λD σ H ⟨Å,h,Dd,rs,rh,q,nx,rt,bk,ct⟩=>
 LS.of rs rh q (λÝ h' Â H' k rs' ħ q'=>⟨Ý,h',Dd,rs',ħ,q',λa b c d k'=>nx a b c d (k.trans k'),jI rt k,λa b c d k'=>bk a b c d (k.trans k'),λa b c d k'=>ct a b c d (k.trans k')⟩) rt bk ct
variable {te:TED}
def Ft: ∀D σ H,LS K (Fq te) D σ H->OC (LE K te) D σ H:=λD σ H ⟨Å,h,Dd,rs,rh,q,nx,rt,bk,ct⟩=>
 LE.bind rs rh q λd v h1 H1 k1 ß Ë r1 q1=>nx _ _ _ _ k1 ß Ë q1
def At: ∀D σ H,LS K (Xj te) D σ H->Hj (LE K te) D σ H:=λD σ H ⟨Å,h,Dd,rs,rh,q,nx,rt,bk,ct⟩=>⟨Å,h,Dd.rt,rs,rh,q,rt⟩
def Tb {c:TTD}{t u:TSD}: ∀D σ H,LS K (Dp c t u) D σ H->Hk (LT K c) (LS K t) (LS K u) D σ H:=λD σ H ⟨Å,h,Dd,rs,rh,q,nx,rt,bk,ct⟩=>
 LT.bind rs rh q λb h1 H1 k ß Ë q1=>by
  cases b with
  |true=>rw [R6 rfl] at q1 ⊢;exact⟨Å,h1,Dd,ß,Ë,q1,λa b c d k'=>nx a b c d (k.trans k'),jI rt k,λa b c d k'=>bk a b c d (k.trans k'),λa b c d k'=>ct a b c d (k.trans k')⟩
  |false=>rw [R9 R5] at q1 ⊢;exact⟨Å,h1,Dd,ß,Ë,q1,λa b c d k'=>nx a b c d (k.trans k'),jI rt k,λa b c d k'=>bk a b c d (k.trans k'),λa b c d k'=>ct a b c d (k.trans k')⟩
def Dq {i:G8}: ∀D σ H,LS K (MM i te) D σ H->BM (LE K te) (wV i) D σ H:=λD σ H ⟨Å,h,Dd,rs,rh,q,nx,rt,bk,ct⟩=>
 LE.bind rs rh q λd v h1 H1 k1 ß Ë r1 q1=>nx _ _ _ _ k1 (ß.set r1 i) Ë q1
def Au {g:TGD}: ∀D σ H,LS K (SZ te g) D σ H->BM (LE K te) (LG K g) D σ H:=λD σ H ⟨Å,h,Dd,rs,rh,q,nx,rt,bk,ct⟩=>
 LE.bind rs rh q λd v h1 H1 k1 ß Ë r1 q1=>⟨d,Å,h1,_,r1,ß,Ë,q1,λa b c e k'=>nx a b c e (k1.trans k')⟩
def Av {i j:G8}{ta:TAD}: ∀D σ H,LS K (Ta i j ta) D σ H->Hm i j (LA K ta) D σ H:=λD σ H ⟨Å,h,Dd,rs,rh,q,nx,rt,bk,ct⟩=>
 LA.bind rs rh q λds vs h1 H1 k1 ß Ë r1 ⟨x,y,e,q1⟩=>by
  subst e;obtain⟨v,r,e,r2,r3⟩:=(show ∃v r,vs=v::r/\È K H1 x v/\Á K H1 [y] r from r1);obtain⟨w,r',e',r4,r5⟩:=(show ∃v r',r=v::r'/\È K H1 y v/\Á K H1 [] r' from r3);cases (show r'= [] from r5);subst e' e;exact⟨v,w,rfl,nx _ _ _ _ k1 ((ß.set r2 i).set r4 j) Ë q1⟩
def Fu (i:G8): ∀v σ H Q,LG K (gN i) v σ H Q->wV i v σ H Q:=λv σ H Q ⟨d,Å,h,Qd,r,rs,rh,q,p⟩=>p _ _ _ _ (.refl H) (rs.set r i) rh q
def yL {H:Hp}{x y:D}{vs:G0 V}(r:Á K H [x,y] vs): ∃v w,vs= [v,w]/\È K H x v/\È K H y w:=by
 obtain⟨v,r1,e,r2,r3⟩:=(show ∃v r,vs=v::r/\È K H x v/\Á K H [y] r from r);obtain⟨w,z,e',r4,r5⟩:=(show ∃v z,r1=v::z/\È K H y v/\Á K H [] z from r3);cases (show z= [] from r5);subst e' e;exact⟨v,w,rfl,r2,r4⟩
def jA {H:Hp}{x:D}{vs:G0 V}(r:Á K H [x] vs): ∃v,vs= [v]/\È K H x v:=by
 obtain⟨v,r1,e,r2,r3⟩:=(show ∃v r,vs=v::r/\È K H x v/\Á K H [] r from r);cases (show r1= [] from r3);exact⟨v,e,r2⟩
def Aw (i j:G8): ∀v σ H Q,LG K (gT2 i j) v σ H Q->EU K 2 (Xd (wV i) (Xd (wV j) ET)) v σ H Q:=λv σ H Q ⟨d,Å,h,Qd,r,rs,rh,⟨x,y,e,q⟩,p⟩=>by
 subst e;obtain⟨a,vs,e,hH,r1⟩:=(show ∃a vs,v= .ref a/\H a=some (.tup vs)/\Á K H [x,y] vs from r);obtain⟨v1,v2,e1,r2,r3⟩:=yL r1;subst e e1;exact⟨a,[v1,v2],rfl,ä.of hH,rfl,v1,[v2],rfl,v2,[],rfl,rfl,p _ _ _ _ (.refl H) ((rs.set r2 i).set r3 j) rh q⟩
end
section
variable {X:Cx}{st:K9}{sts:G0 K9}{t u:TSD}{e:M6}{te:TED}{pos:Pos}
def Ax:QSs X [] WK:=X0c.imp Fs
def Fv (h1:QS X st t)(h2:QSs X sts u):QSs X (st::sts) (yc t u):=(MT h1 h2).imp As
def Ay (h1:QS X st t):QSs X [st] t:=CJ h1
def Tc (he:QE X e te)(hs:aG e none pos.line X.env=pure false:=by rfl):QS X (.Expr e pos) (Fq te):=(CK he hs).imp Ft
def Ku (he:QE X e te):QS X (.Return (some e) pos) (Xj te):=(OD he).imp At
def Kv {c:M6}{a b:G0 K9}{tc:TTD}(hc:QT X c tc)(ha:QSs X a t)(hb:QSs X b u):QS X (.If c a b pos) (Dp tc t u):=(Sm hc ha hb).imp Tb
variable {i:G8}{x:Str}
def Kw {pos':Pos}(hN:X.N.Nodup)(hi:X.N[i]? =some x)(hx:Loc X.env.scope x)(he:QE X e te)(hs:aG e (some (.Name x pos')) pos.line X.env=pure false:=by rfl)
 (hf:X.fn x=true\/X.env.scope.names.lookup x=some .local:=by first|exact .inl rfl|exact .inr rfl|assumption):QS X (.Assign [.Name x pos'] e pos) (MM i te):=(OG hN hi hx he hs hf).imp Dq
def Fw (hN:X.N.Nodup)(hi:X.N[i]? =some x)(hx:Loc X.env.scope x)(hf:X.fn x=true\/X.env.scope.names.lookup x=some .local:=by first|exact .inl rfl|exact .inr rfl|assumption):QG X (.Name x pos) (gN i):=
 (vG hN hi hx hf).imp (Fu i)
def Az {j:G8}{y:Str}{p1 p2:Pos}{k:G8}(hc:X.calm=true)(hN:X.N.Nodup)(hi:X.N[i]? =some x)(hj:X.N[j]? =some y)(hx:Loc X.env.scope x)(hy:Loc X.env.scope y)
 (hf:X.fn x=true\/X.env.scope.names.lookup x=some .local:=by first|exact .inl rfl|exact .inr rfl|assumption)(hf2:X.fn y=true\/X.env.scope.names.lookup y=some .local:=by first|exact .inl rfl|exact .inr rfl|assumption):
 QG X (.Tuple [.Name x p1,.Name y p2] k pos) (gT2 i j):=(PL hc (vf (vG hN hi hx hf) (vf (vG hN hj hy hf2) Xe))).imp (Aw i j)
def Kx {tg:M6}{g:TGD}(he:QE X e te)(hg:QG X tg g)(hs:eI [tg] e pos.line X.env=pure false:=by rfl)(hsw:eJ [tg] e X.env=pure none:=by rfl)
 (h1:(fE [tg] X.env).map (·.2)= [gR tg X.env]:=by rfl):QS X (.Assign [tg] e pos) (SZ te g):=(OF he hg hs hsw h1).imp Au
def Ky {j:G8}{y:Str}{a b:M6}{ta:TAD}{px py pt:Pos}{kt k2 π}(hc:X.calm=true)(hN:X.N.Nodup)(hi:X.N[i]? =some x)(hj:X.N[j]? =some y)(hij:i≠j)
 (hx:X.env.scope.names.lookup x=some .local)(hy:X.env.scope.names.lookup y=some .local)(ha:QA X [a,b] ta)
 (hw:eJ [.Tuple [.Name x px,.Name y py] kt pt] (.Tuple [a,b] k2 π) X.env=pure (some [x,y]))
 (hs:eI [.Tuple [.Name x px,.Name y py] kt pt] (.Tuple [a,b] k2 π) pos.line X.env=pure false:=by rfl):
 QS X (.Assign [.Tuple [.Name x px,.Name y py] kt pt] (.Tuple [a,b] k2 π) pos) (Ta i j ta):=(OH hc hN hi hj hij hx hy ha hw hs).imp Av
end
abbrev ItD:=HD->P9 (G0 D)
def BS (K:G7)(H:Hp)(j:ItD)(J:It):Prop:= ∀H' h',Kept H H'->Ç K h' H'-> ∀ds,j h'=some ds-> ∀i:G8,
 (∀d,ds[i]? =some d->J.go i H'/\ ∀x ŀ,J.yld i H' x ŀ->Kept H' ŀ/\Ç K h' ŀ/\È K ŀ d x)/\(ds.length<=i->J.stop i H')
abbrev TID:=SD->HD->(ItD->HD->Prop)->Prop
def LI (K:G7)(t:TID):TI:=λσ H R=> ∃Å h Rd,Ð K H Å σ/\Ç K h H/\t Å h Rd/\ ∀j J h' H',Kept H H'->Ç K h' H'->BS K H' j J->Rd j h'->R J H'
abbrev QI (X:Cx)(tg iter:M6)(t:TID):Prop:=PI X tg iter (LI X.K t)
def PI.imp {t t':TI}(h:PI X tg e t)(i: ∀σ H R,t' σ H R->t σ H R):PI X tg e t':=λÀ s σ H R I q=>h À s σ H R I (i σ H R q)
def iL (te:TED):TID:=λσ h R=>te σ h λx h1=> ∃a,x= .lst a/\R (λh=>h a) h1
def iR1 (ta:TAD):TID:=λσ h R=>ta σ h λds h1=> ∃n:P4,ds= [.int n]/\ -(2^62)<=n/\n<2^62/\R (λ_=>some ((D6 n.toNat).map λ(k:G8)=>D.int (k:P4))) h1
section
variable {K:G7}
def VP (H:Hp)(a:P3):BS K H (λh=>h a) (Itl K a):=λH' h' k rh ds e i=>by
 obtain⟨vs,hv,r⟩:=rh a ds e;refine⟨λd hd=> ?_,λhl=>⟨vs,ê.of hv,by rw [<-r.length];exact hl⟩⟩;obtain⟨v,e1,e2⟩:=r.get hd;refine⟨⟨vs,v,ê.of hv,e1⟩,λx ŀ ⟨eH,hx⟩=> ?_⟩;subst eH;have:=hx vs (ê.of hv);rw [e1] at this;cases this;exact⟨.refl _,rh,e2⟩
def Nj {H:Hp}{a:P3}{vs:G0 V}{ds:G0 D}(hv:H a=some (.tup vs))(r:Á K H ds vs):BS K H (λ_=>some ds) (Itt K a):=λH' h' k rh ds' e i=>by
 cases e;have hv':=k.tup _ _ hv;have r':=r.mono k;refine⟨λd hd=> ?_,λhl=>⟨vs,ä.of hv',by rw [<-r.length];exact hl⟩⟩;obtain⟨v,e1,e2⟩:=r'.get hd;refine⟨⟨vs,v,ä.of hv',e1⟩,λx ŀ ⟨eH,hx⟩=> ?_⟩;subst eH;have:=hx vs (ä.of hv');rw [e1] at this;cases this;exact⟨.refl _,rh,e2⟩
def GF (H:Hp)(lo:P4)(n:G8)(ds:G0 D)(hd:ds=(D6 n).map λ(k:G8)=>D.int (lo+(k:P4))):BS K H (λ_=>some ds) (Itr lo n):=λH' h' k rh ds' e i=>by
 cases e;subst hd;refine⟨λd hd=> ?_,λhl=>(show n<=i by simpa using hl)⟩;rw [P7] at hd;have hi:i<n:=by
  by_cases z:i<n
  ·exact z
  ·rw [A2 (by simpa using z)] at hd;cases hd
 rw [Y3 hi] at hd;cases hd;refine⟨hi,λx ŀ ⟨eH,hx⟩=> ?_⟩;subst eH hx;exact⟨.refl _,rh,rfl⟩
def Fx {te:TED}: ∀σ H R,LI K (iL te) σ H R->OJ K (LE K te) σ H R:=λσ H R ⟨Å,h,Rd,rs,rh,q,p⟩=>
 LE.bind rs rh q λd v h1 H1 k1 ß Ë r1 ⟨a,e,q1⟩=>by
  subst e;obtain⟨e,vs,hv⟩:=(show v= .ref a/\ ∃vs,H1 a=some (.lst vs) from r1);exact⟨a,e,⟨vs,ê.of hv⟩,p _ _ _ _ k1 Ë (VP H1 a) q1⟩
def Td {ta:TAD}: ∀σ H R,LI K (iR1 ta) σ H R->OK (LA K ta) σ H R:=λσ H R ⟨Å,h,Rd,rs,rh,q,p⟩=>
 LA.bind rs rh q λds vs h1 H1 k1 ß Ë r1 ⟨n,e,b1,b2,q1⟩=>by
  subst e;obtain⟨v,e,r2⟩:=jA r1;cases (show v= .int n from r2);exact⟨n,e,b1,b2,p _ _ _ _ k1 Ë (GF H1 0 n.toNat _ (by simp)) q1⟩
end
def AA (ti:TID)(g:TGD)(tb:TSD):TSD:=λD σ h=>ti σ h λj h1=> ∃ (n:G8) (W:G8->SD->HD->Prop),W 0 σ h1/\ ∀i Â h',W i Â h'-> ∃ds,j h'=some ds/\ds.length<=n/\(ds.length<=i->D.nx Â h')/\
 ∀d,ds[i]? =some d->g d Â h' λã h2=>tb {D with nx:=λĐ h3=> ∃h4,Sub h4 h3/\W (i+1) Đ h4,ct:=λĐ h3=> ∃h4,Sub h4 h3/\W (i+1) Đ h4,bk:=D.nx} ã h2
variable {ti:TID}
def AB {g:TGD}{tb:TSD}: ∀D σ H,LS K (AA ti g tb) D σ H->Hn (LI K ti) (LG K g) (LS K tb) D σ H:=λD σ H ⟨Å,h,Dd,rs,rh,q,nx,rt,bk,ct⟩=>by
 refine⟨Å,h,_,rs,rh,q,λj J h1 H1 k1 Ë jo ⟨n,W,w0,turn⟩=> ?_⟩;refine⟨λi m Â H'=>m=n-i/\Kept H1 H'/\ ∃Ý h',Ð K H' Ý Â/\Ç K h' H'/\W i Ý h',⟨n-0,rfl,.refl _,Å,h1,rs.mono k1,Ë,w0⟩,?_⟩;rintro i m Â H' ⟨rfl,kp,Ý,h',rs',ħ,w⟩;obtain⟨ds,ej,hn,stop,go⟩:=turn i Ý h' w;have jo':=jo H' h' kp ħ ds ej i
 by_cases hi:i<ds.length
 ·obtain⟨g1,y1⟩:=jo'.1 ds[i] (G5 hi);refine .inr ⟨g1,λã H2=>Kept H1 H2/\ ∃ð h2,Ð K H2 ð ã/\Ç K h2 H2/\W (i+1) ð h2,λã H2 ⟨k2,a,b,c,d,e⟩=>⟨n-(i+1),by omega,rfl,k2,a,b,c,d,e⟩,λx ŀ y=> ?_⟩;obtain⟨k2,ô,r2⟩:=y1 x ŀ y;refine⟨ds[i],Ý,h',_,r2,rs'.mono k2,ô,go ds[i] (G5 hi),λX1B h3 Đ H3 k3 Ξ Ğ q3=> ?_⟩;have kk:Kept H H3:=k1.trans (kp.trans (k2.trans k3));have kk1:Kept H1 H3:=kp.trans (k2.trans k3);exact⟨X1B,h3,_,Ξ,Ğ,q3,λa b c d k4 ŷ ő ⟨h4,sb,w4⟩=>⟨kk1.trans k4,a,h4,ŷ,ő.sub sb,w4⟩,jI rt kk,λa b c d k4 ŷ ő q4=>nx a b c d (kk.trans k4) ŷ ő q4,λa b c d k4 ŷ ő ⟨h4,sb,w4⟩=>⟨kk1.trans k4,a,h4,ŷ,ő.sub sb,w4⟩⟩
 ·exact .inl ⟨jo'.2 (aO.mp hi),nx _ _ _ _ (k1.trans kp) rs' ħ (stop (aO.mp hi))⟩
def vj:TTD:=λ_ h Q=>Q true h
def vw (bind:D->SD->SD->Prop)(js:G0 G8)(ti:TID)(tt:TTD)(te:TED):TED:=λσ h Q=>ti σ h λj h1=> ∃ (n:G8) (W:G8->G0 D->HD->Prop),W 0 [] h1/\ ∀i ys h',W i ys h'->ys.length<=sizeLine/\
 ∃ds,j h'=some ds/\ds.length<=n/\(ds.length<=i-> ∀p,h' p=none->Q (.lst p) (zm h' p ys))/\
  ∀d,ds[i]? =some d-> ∃ã,bind d (jM js σ) ã/\tt ã h' λb h3=>if b=true then te ã h3 λy h4=> ∃h5,Sub h5 h4/\W (i+1) (ys++ [y]) h5 else ∃h5,Sub h5 h3/\W (i+1) ys h5
def bN (i:G8):D->SD->SD->Prop:=λd σ ã=>ã=σ.set i (some d)
def b2 (i j:G8):D->SD->SD->Prop:=λd σ ã=> ∃x y,d= .tup [x,y]/\ã=(σ.set i (some x)).set j (some y)
def AC: ∀σ H Q,LT K vj σ H Q->Hy σ H Q:=λσ H Q ⟨Å,h,Qd,rs,rh,q,p⟩=>p true h H (.refl H) rh q
def Dr (K:G7)(js:G0 G8)(bind:D->SD->SD->Prop)(g:TG):Prop:= ∀ (σ:St) (Å ð:SD) (H:Hp) (d:D) (v:V) (Q:St->Hp->Prop),Ð K H (jM js Å) (zA js σ)->È K H d v->bind d (jM js Å) ð->
 (∀ã,Agree (zA js σ) ã->Ð K H ð ã->Q ã H)->g v (zA js σ) H Q
variable {i:G8}
def Fy (hi:i∈js):Dr K js (bN i) (wV i):=λσ Å ð H d v Q rs r b q=>by
 cases (show ð=_ from b);exact q _ (.set v λu=>jW js σ i u hi) (rs.set r i)
def AD {j:G8}(hi:i∈js)(hj:j∈js)(hij:i≠j):Dr K js (b2 i j) (EU K 2 (Xd (wV i) (Xd (wV j) ET))):=λσ Å ð H d v Q rs r b q=>by
 obtain⟨x,y,e,e2⟩:=b;subst e e2;obtain⟨a,vs,e,hH,r1⟩:=(show ∃a vs,v= .ref a/\H a=some (.tup vs)/\Á K H [x,y] vs from r);obtain⟨v1,v2,e1,r2,r3⟩:=yL r1;subst e e1;refine⟨a,[v1,v2],rfl,ä.of hH,rfl,v1,[v2],rfl,v2,[],rfl,rfl,q _ (.trans (.set v1 λu=>jW js σ i u hi) (.set v2 λu z=> ?_)) ((rs.set r2 i).set r3 j)⟩;rw [Q7 hij] at z;exact jW js σ j u hj z
def Nk {bind:D->SD->SD->Prop}{tt:TTD}{te:TED}(hb:Dr K js bind g): ∀σ H Q,LE K (vw bind js ti tt te) σ H Q->tLC js (LI K ti) g (LT K tt) (LE K te) σ H Q:=
 λσ H Q ⟨Å,h,Qd,rs,rh,q,p⟩=>by
  refine⟨Å,h,_,rs,rh,q,λj J h1 H1 k1 Ë jo ⟨n,W,w0,turn⟩=> ?_⟩;refine⟨λi m ys H'=>m=n-i/\Kept H1 H'/\ ∃ds h',Á K H' ds ys/\Ç K h' H'/\W i ds h',⟨n-0,rfl,.refl _,[],h1,rfl,Ë,w0⟩,?_⟩;rintro i m ys H' ⟨rfl,kp,yd,h',ry,ħ,w⟩;obtain⟨hz,ds,ej,hn,stop,go⟩:=turn i yd h' w;refine⟨by rw [<-ry.length];exact hz,?_⟩;have jo':=jo H' h' kp ħ ds ej i;have kk:Kept H H':=k1.trans kp
  by_cases hi:i<ds.length
  ·obtain⟨g1,y1⟩:=jo'.1 ds[i] (G5 hi);refine .inr ⟨g1,λx ŀ y=> ?_⟩;obtain⟨k2,ô,r2⟩:=y1 x ŀ y;obtain⟨ð,bd,q2⟩:=go ds[i] (G5 hi);refine hb σ Å ð ŀ ds[i] x _ (((rs.mono (kk.trans k2))).clear js) r2 bd λã ag ņ=>⟨ag,?_⟩
   refine LT.bind ņ ô q2 λb h3 H3 k3 Ξ Ğ q3=> ?_
   cases b with
   |true=>
    rw [R6 rfl] at q3 ⊢;refine LE.bind Ξ Ğ q3 λd4 v4 h4 H4 k4 ŷ ő r4 ⟨h5,sb,w5⟩=>⟨n-(i+1),by omega,rfl,kp.trans (k2.trans (k3.trans k4)),yd++ [d4],h5,(ry.mono (k2.trans (k3.trans k4))).append (.cons r4 .nil),ő.sub sb,w5⟩
   |false=>
    rw [R9 R5] at q3 ⊢;obtain⟨h5,sb,w5⟩:=q3;exact⟨n-(i+1),by omega,rfl,kp.trans (k2.trans k3),yd,h5,ry.mono (k2.trans k3),Ğ.sub sb,w5⟩
  ·refine .inl ⟨jo'.2 (aO.mp hi),λa ha=>p (.lst a) (.ref a) _ _ (kk.trans (.new ha)) (ħ.newL ha ry) ⟨rfl,ys,jt⟩ (stop (aO.mp hi) a (ħ.free ha))⟩
def we {C:P3}{s₀:G3}{H₀:Hp}{ex:G0 P3}{p:Pos}(hN:X.N.Nodup)(hx:X.N[i]? =some x)(hl:scope.names.lookup x=some .local\/scope.names.lookup x=some .cell):
 PG (wL X scope C s₀ H₀ ex) (.Name x p) (wV i):=by
 rcases hl with z|z
 ·exact vG hN hx (.inl (oA z)) (.inr (oA z))
 ·exact vG hN hx (.inr (vI z)) (.inl (by show (scope.names.lookup x==some V6)=true;rw [z];rfl))
section
variable {X:Cx}{tg e iter elt:M6}{te:TED}{ti:TID}{g:TGD}{tb:TSD}{tt:TTD}{pos:Pos}{ta:TAD}{scope:Y5}{js:G0 G8}{ifs:G0 M6}
def Fz (he:QE X e te):QI X tg e (iL te):=(CL he).imp Fx
def Te {p:Pos}{a:M6}(hg:Gl X "range")(hm:X.mg "range" =none)(ha:QA X [a] ta)(hs:R8 [a] X.env= [(false,J3 a X.env)]:=by rfl):QI X tg (.Call (.Name "range" p) [a] [] pos) (iR1 ta):=(PM hg hm ha hs).imp Td
def Kz {body:G0 K9}(hp:oW (R3 X.prog X.w) X.A X.env X.xe)(hc:X.calm=true)(hi:QI X tg iter ti)(hg:QG X tg g)(hb:QSs X body tb)(hs: ∀x,M8 iter X.env x=pure x:=by intro _;rfl):
 QS X (.For tg iter body [] pos) (AA ti g tb):=(OL hp hc hi hg hb hs).imp AB
def FA:Ĝ X [] (LT X.K vj):=λÀ s σ H Q I h=>Fe À s σ H Q I (AC σ H Q h)
def FB {c:M6}(hc:QT X c tt):Ĝ X [c] (LT X.K tt):=Ff hc
def qlc {i:G8}{x:Str}{p:Pos}(hc:X.calm=true)(S:Ê X scope js)(hi:QI X (.Name x p) iter ti)(hj:i∈js)(hN:X.N.Nodup)(hx:X.N[i]? =some x)(hl:scope.names.lookup x=some .local\/scope.names.lookup x=some .cell)
 (ht: ∀X',jh X scope X'->Ĝ X' ifs (LT X'.K tt))(he: ∀X',jh X scope X'->QE X' elt te)(hs: ∀x,M8 iter X.env x=pure x:=by intro _;rfl):
 QE X (.ListComp elt [⟨.Name x p,iter,ifs,0⟩] scope pos) (vw (bN i) js ti tt te):=
 (Ae hc S hi (λX' hX=>by obtain⟨C,s₀,H₀,ex,rfl⟩:=hX;exact we hN hx hl) (λX' hX=>by have:=ht X' hX;obtain⟨C,s₀,H₀,ex,rfl⟩:=hX;exact this)
  (λX' hX=>by have:=he X' hX;obtain⟨C,s₀,H₀,ex,rfl⟩:=hX;exact this) hs).imp (Nk (Fy hj))
def KA {i j:G8}{x y:Str}{p1 p2 p3:Pos}{k:G8}(hc:X.calm=true)(S:Ê X scope js)(hi:QI X (.Tuple [.Name x p1,.Name y p2] k p3) iter ti)(hj:i∈js)(hj2:j∈js)(hij:i≠j)(hN:X.N.Nodup)(hx:X.N[i]? =some x)(hy:X.N[j]? =some y)
 (hl:scope.names.lookup x=some .local\/scope.names.lookup x=some .cell)(hl2:scope.names.lookup y=some .local\/scope.names.lookup y=some .cell)
 (ht: ∀X',jh X scope X'->Ĝ X' ifs (LT X'.K tt))(he: ∀X',jh X scope X'->QE X' elt te)(hs: ∀x,M8 iter X.env x=pure x:=by intro _;rfl):
 QE X (.ListComp elt [⟨.Tuple [.Name x p1,.Name y p2] k p3,iter,ifs,0⟩] scope pos) (vw (b2 i j) js ti tt te):=
 (Ae hc S hi (λX' hX=>by
  obtain⟨C,s₀,H₀,ex,rfl⟩:=hX;exact PL hc (vf (we hN hx hl) (vf (we hN hy hl2) Xe))) (λX' hX=>by have:=ht X' hX;obtain⟨C,s₀,H₀,ex,rfl⟩:=hX;exact this)
  (λX' hX=>by have:=he X' hX;obtain⟨C,s₀,H₀,ex,rfl⟩:=hX;exact this) hs).imp (Nk (AD hj hj2 hij))
end
def ó (K:G7)(į:RDn):Sp:=λvs H Q _=>LC K į vs H Q
def FC {į:RDn}{t:TAD}{E:XK}: ∀σ H Q,LE K (ĝ į t) σ H Q->OT (ó K į) [] E (LA K t) σ H Q:=λσ H Q ⟨Å,h,Qd,rs,rh,t,p⟩=>
 LA.bind rs rh t λds vs h1 H1 k1 ß Ë r1 q=>by rw [J8];exact⟨ds,h1,Qd,r1,Ë,q,jI p k1⟩
section
variable {X:Cx}{k:G8}{f:P3}{fd:C3}{ps:G0 Str}{į:RDn}{x:Str}{p pos:Pos}{e:M6}{es:G0 M6}{t:TAD}
def Tf (F:Î X.prog X.w X.K X.mg X.base ì k f fd ps (ó X.K į))(hr:Û k X.A)(hg:Gl X x)(hm:X.mg x=some (.ref f))(hk:cB X.K (.ref f)=true)(hb:Binds X.K fd ps [])
 (ha:QA X (e::es) t)(hdb:(x==("__debug__" :Str))=false:=by decide)(he:R8 (e::es) X.env=(false,J3 e X.env)::R8 es X.env:=by rfl)(hpl:(U9 pos (R8 es X.env)).any (·.1)=false:=by rfl):
 QE X (.Call (.Name x p) (e::es) [] pos) (ĝ į t):=(CS F hr hg hm hk hb .nil SF ha hdb he hpl).imp FC
def AE {id:W1}{r:RDn}(hc:yh X (.builtin id) r)(hg:Gl X x)(hm:X.mg x=none)(hv:V8 x=some (.builtin id))(ha:QA X (e::es) t)(hn:x≠ "__name__" :=by decide)(hdb:(x==("__debug__" :Str))=false:=by decide)
 (he:R8 (e::es) X.env=(false,J3 e X.env)::R8 es X.env:=by rfl)(hpl:(U9 pos (R8 es X.env)).any (·.1)=false:=by rfl):QE X (.Call (.Name x p) (e::es) [] pos) (ĝ r t):=(ZG hc hg hm hv ha hn hdb he hpl).imp Am
def FD {T:W1}{r:RDn}(hc:yh X (.type T) r)(hg:Gl X x)(hm:X.mg x=none)(hv:V8 x=some (.type T))(ha:QA X (e::es) t)(hn:x≠ "__name__" :=by decide)(hdb:(x==("__debug__" :Str))=false:=by decide)
 (he:R8 (e::es) X.env=(false,J3 e X.env)::R8 es X.env:=by rfl)(hpl:(U9 pos (R8 es X.env)).any (·.1)=false:=by rfl):QE X (.Call (.Name x p) (e::es) [] pos) (ĝ r t):=(ZO hc hg hm hv ha hn hdb he hpl).imp Am
end
noncomputable def wn (N:G0 Str)(ds:G0 D):SD:=ds.map some++T4 (N.length-ds.length) none
def GG {N:G0 Str}{vs:G0 V}(r:Á K H ds vs):Ð K H (wn N ds) (start N vs):=by
 have hl:=r.length;refine⟨by unfold wn start;simp [hl],λi d e=> ?_⟩;unfold wn at e;unfold start
 by_cases hi:i<ds.length
 ·rw [F4 (by simpa using hi),P7] at e;cases q:ds[i]? with
  |none=>rw [q] at e;cases e
  |some d'=>
   rw [q] at e;cases e;obtain⟨v,e1,e2⟩:=r.get q;exact⟨v,by rw [F4 (by simpa [<-hl] using hi),P7,e1];rfl,e2⟩
 ·rw [B6 (by simpa using hi),l9] at e;split at e<;>cases e
noncomputable def Xk (Q:KD):EndsD:= {nx:=λ_ h=> ∃h',Sub h' h/\Q .non h',rt:=λd h=> ∃h',Sub h' h/\Q d h'}
section
variable {P:S6}{w:B3}{K:G7}{mg:Str->P9 G2}{base:L8}
def ò.okD {x qual:Str}{st:K9}{f:P3}{fd:C3}{N ps:G0 Str}{k:G8}{į:RDn}(F:ò K x qual st f fd)(S:Ã N ps (je st))(len: ∀ds h Q,į ds h Q->ds.length=ps.length)
 (tb:TSD)(ė: ∀ (ø:G2) (A:N4) (outer:G0 Env) (s:G3) (H:Hp) (E:XK),Û k (A.deeper (i3 qual (je st) s.heap.objs.size f ø))->QSs (MZ ì P w K mg base N qual (je st) f ø A outer s H E).nox (zV st) tb)
 (read: ∀ds h Q,į ds h Q->tb (Xk Q) (wn N ds) h):Î P w K mg base ì (k+1) f fd ps (ó K į):=by
 refine F.ok S (λvs H Q E h=> ?_) (λø A outer s H vs Q E hr h=> ?_)
 ·obtain⟨ds,h,Qd,r,rh,q,p⟩:=h;rw [<-r.length];exact len _ _ _ q
 ·obtain⟨ds,h,Qd,r,rh,q,p⟩:=h;refine⟨_,ė ø A outer s H E hr,wn N ds,h,Xk Qd,GG r,rh,read ds h Qd q,λÝ h' Â H' k rs' ħ ⟨h2,sb,q'⟩=>p .non .non h2 H' k (ħ.sub sb) rfl q',λd v h' H' k ħ r' ⟨h2,sb,q'⟩=>p d v h2 H' k (ħ.sub sb) r' q',λ_ _ _ _ _ _ _ z=>z.elim,λ_ _ _ _ _ _ _ z=>z.elim⟩
end
section
variable {X:Cx}{iter elt:M6}{te:TED}{ti:TID}{tt:TTD}{pos ą:Pos}{scope:Y5}{js:G0 G8}{ifs:G0 M6}
def AF {i k:G8}{x y:Str}{p py:Pos}(hc:X.calm=true)(hN:X.N.Nodup)(hk:X.N[k]? =some y)(hy:Loc X.env.scope y)(S:Ê X scope js)(hi:QI X (.Name x p) iter ti)(hj:i∈js)(hx:X.N[i]? =some x)(hl:scope.names.lookup x=some .local\/scope.names.lookup x=some .cell)
 (ht: ∀X',jh X scope X'->Ĝ X' ifs (LT X'.K tt))(he: ∀X',jh X scope X'->QE X' elt te)
 (hsw:aG (.ListComp elt [⟨.Name x p,iter,ifs,0⟩] scope pos) (some (.Name y py)) ą.line X.env=pure true:=by rfl)
 (hf:X.fn y=true\/X.env.scope.names.lookup y=some .local:=by first|exact .inl rfl|exact .inr rfl|assumption)(hs: ∀x,M8 iter X.env x=pure x:=by intro _;rfl):
 QS X (.Assign [.Name y py] (.ListComp elt [⟨.Name x p,iter,ifs,0⟩] scope pos) ą) (MM k (vw (bN i) js ti tt te)):=by
 have base:PS X (.Assign [.Name y py] (.ListComp elt [⟨.Name x p,iter,ifs,0⟩] scope pos) ą) (BM (tLC js (LI X.K ti) (wV i) (LT X.K tt) (LE X.K te)) (wV k)):=
  Qu hc S hi (λX' hX=>by obtain⟨C,s₀,H₀,ex,rfl⟩:=hX;exact we hN hx hl) (λX' hX=>by have:=ht X' hX;obtain⟨C,s₀,H₀,ex,rfl⟩:=hX;exact this)
   (λX' hX=>by have:=he X' hX;obtain⟨C,s₀,H₀,ex,rfl⟩:=hX;exact this) (vG hN hk hy hf) hsw hs
 exact base.imp λD σ H h=>by
  obtain⟨Å,hd,Qd,rs,rh,t,p⟩:=Dq (K:=X.K) D σ H h;exact Nk (Fy hj) σ H _ ⟨Å,hd,Qd,rs,rh,t,p⟩
def FE {i j k:G8}{x1 x2 y:Str}{p1 p2 p3 py:Pos}{kk:G8}(hc:X.calm=true)(hN:X.N.Nodup)(hk:X.N[k]? =some y)(hy:Loc X.env.scope y)(S:Ê X scope js)(hi:QI X (.Tuple [.Name x1 p1,.Name x2 p2] kk p3) iter ti)(hj:i∈js)(hj2:j∈js)(hij:i≠j)(hx:X.N[i]? =some x1)(hx2:X.N[j]? =some x2)
 (hl:scope.names.lookup x1=some .local\/scope.names.lookup x1=some .cell)(hl2:scope.names.lookup x2=some .local\/scope.names.lookup x2=some .cell)
 (ht: ∀X',jh X scope X'->Ĝ X' ifs (LT X'.K tt))(he: ∀X',jh X scope X'->QE X' elt te)
 (hsw:aG (.ListComp elt [⟨.Tuple [.Name x1 p1,.Name x2 p2] kk p3,iter,ifs,0⟩] scope pos) (some (.Name y py)) ą.line X.env=pure true:=by rfl)
 (hf:X.fn y=true\/X.env.scope.names.lookup y=some .local:=by first|exact .inl rfl|exact .inr rfl|assumption)(hs: ∀x,M8 iter X.env x=pure x:=by intro _;rfl):
 QS X (.Assign [.Name y py] (.ListComp elt [⟨.Tuple [.Name x1 p1,.Name x2 p2] kk p3,iter,ifs,0⟩] scope pos) ą) (MM k (vw (b2 i j) js ti tt te)):=by
 have base:PS X (.Assign [.Name y py] (.ListComp elt [⟨.Tuple [.Name x1 p1,.Name x2 p2] kk p3,iter,ifs,0⟩] scope pos) ą) (BM (tLC js (LI X.K ti) (EU X.K 2 (Xd (wV i) (Xd (wV j) ET))) (LT X.K tt) (LE X.K te)) (wV k)):=
  Qu hc S hi (λX' hX=>by obtain⟨C,s₀,H₀,ex,rfl⟩:=hX;exact PL hc (vf (we hN hx hl) (vf (we hN hx2 hl2) Xe))) (λX' hX=>by have:=ht X' hX;obtain⟨C,s₀,H₀,ex,rfl⟩:=hX;exact this)
   (λX' hX=>by have:=he X' hX;obtain⟨C,s₀,H₀,ex,rfl⟩:=hX;exact this) (vG hN hk hy hf) hsw hs
 exact base.imp λD σ H h=>by
  obtain⟨Å,hd,Qd,rs,rh,t,p⟩:=Dq (K:=X.K) D σ H h;exact Nk (AD hj hj2 hij) σ H _ ⟨Å,hd,Qd,rs,rh,t,p⟩
end
def dIn (i':G8)(ti:TID)(tt:TTD)(te:TED)(V:G0 D->HD->Prop)(ys:G0 D):SD->HD->Prop:=λσ h=>ti σ h λj h1=> ∃ (n:G8) (W:G8->G0 D->HD->Prop),W 0 ys h1/\ ∀i ys h',W i ys h'->ys.length<=sizeLine/\
 ∃ds,j h'=some ds/\ds.length<=n/\(ds.length<=i->V ys h')/\
  ∀d,ds[i]? =some d->tt (σ.set i' (some d)) h' λb h3=>if b=true then te (σ.set i' (some d)) h3 λy h4=> ∃h5,Sub h5 h4/\W (i+1) (ys++ [y]) h5 else ∃h5,Sub h5 h3/\W (i+1) ys h5
def Nl (bind:D->SD->SD->Prop)(js:G0 G8)(ti:TID)(tt:TTD)(i':G8)(İ:TID)(Ŀ:TTD)(te:TED):TED:=λσ h Q=>ti σ h λj h1=> ∃ (n:G8) (W:G8->G0 D->HD->Prop),W 0 [] h1/\ ∀i ys h',W i ys h'->ys.length<=sizeLine/\
 ∃ds,j h'=some ds/\ds.length<=n/\(ds.length<=i-> ∀p,h' p=none->Q (.lst p) (zm h' p ys))/\
  ∀d,ds[i]? =some d-> ∃ã,bind d (jM js σ) ã/\tt ã h' λb h3=>if b=true then dIn i' İ Ŀ te (λÿ h6=> ∃h5,Sub h5 h6/\W (i+1) ÿ h5) ys ã h3 else ∃h5,Sub h5 h3/\W (i+1) ys h5
def Ds (K:G7)(js:G0 G8)(i':G8)(bind:D->SD->SD->Prop)(g:TG):Prop:= ∀ (σ:St) (Å ð:SD) (H:Hp) (d:D) (v:V) (Q:St->Hp->Prop),Ð K H (jM js Å) (zA js σ)->È K H d v->bind d (jM js Å) ð->
 (∀ã,Agree (zA js σ) ã->(∀u,¬ã[i']? =some (some u))->Ð K H ð ã->Q ã H)->g v (zA js σ) H Q
def AG {i':G8}(hi:i∈js)(hi':i'∈js)(hne:i≠i'):Ds K js i' (bN i) (wV i):=λσ Å ð H d v Q rs r b q=>by
 cases (show ð=_ from b);refine q _ (.set v λu=>jW js σ i u hi) (λu z=> ?_) (rs.set r i);rw [Q7 hne] at z;exact jW js σ i' u hi' z
def AH {bind:D->SD->SD->Prop}{i':G8}{İ:TID}{tt Ŀ:TTD}{te:TED}(hb:Ds K js i' bind g): ∀σ H Q,LE K (Nl bind js ti tt i' İ Ŀ te) σ H Q->SN js (LI K ti) g (LT K tt) (LI K İ) (wV i') (LT K Ŀ) (LE K te) σ H Q:=
 λσ H Q ⟨Å,h,Qd,rs,rh,q,p⟩=>by
  refine⟨Å,h,_,rs,rh,q,λj J h1 H1 k1 Ë jo ⟨n,W,w0,turn⟩=> ?_⟩;refine⟨λi m ys H'=>m=n-i/\Kept H1 H'/\ ∃ds h',Á K H' ds ys/\Ç K h' H'/\W i ds h',⟨n-0,rfl,.refl _,[],h1,rfl,Ë,w0⟩,?_⟩;rintro i m ys H' ⟨rfl,kp,yd,h',ry,ħ,w⟩;obtain⟨hz,ds,ej,hn,stop,go⟩:=turn i yd h' w;refine⟨by rw [<-ry.length];exact hz,?_⟩;have jo':=jo H' h' kp ħ ds ej i;have kk:Kept H H':=k1.trans kp
  by_cases hi:i<ds.length
  ·obtain⟨g1,y1⟩:=jo'.1 ds[i] (G5 hi);refine .inr ⟨g1,λx ŀ y=> ?_⟩;obtain⟨k2,ô,r2⟩:=y1 x ŀ y;obtain⟨ð,bd,q2⟩:=go ds[i] (G5 hi);refine hb σ Å ð ŀ ds[i] x _ (((rs.mono (kk.trans k2))).clear js) r2 bd λã ag un ņ=>⟨ag,?_⟩
   refine LT.bind ņ ô q2 λb h3 H3 k3 Ξ Ğ q3=> ?_
   cases b with
   |true=>
    rw [R6 rfl] at q3 ⊢
    -- Ŝ second clause
    refine⟨ð,h3,_,Ξ,Ğ,q3,λj2 J2 h4 H4 k4 ő jo2 ⟨n2,W2,w20,X0Z⟩=> ?_⟩;refine⟨λi2 m2 ys2 H5=>m2=n2-i2/\Kept H4 H5/\ ∃ds h5,Á K H5 ds ys2/\Ç K h5 H5/\W2 i2 ds h5,⟨n2-0,rfl,.refl _,yd,h4,ry.mono (k2.trans (k3.trans k4)),ő,w20⟩,?_⟩;rintro i2 m2 ys2 H5 ⟨rfl,kp5,yd5,h5,ry5,rh5,w5⟩;obtain⟨hz5,ds5,ej5,hn5,X00,go5⟩:=X0Z i2 yd5 h5 w5;refine⟨by rw [<-ry5.length];exact hz5,?_⟩;have jo5:=jo2 H5 h5 kp5 rh5 ds5 ej5 i2;have kk5:Kept H1 H5:=kp.trans (k2.trans (k3.trans (k4.trans kp5)))
    by_cases hi5:i2<ds5.length
    ·obtain⟨g5,y5⟩:=jo5.1 ds5[i2] (G5 hi5);refine .inr ⟨g5,λx6 H6 yy6=> ?_⟩;obtain⟨k6,rh6,r6⟩:=y5 x6 H6 yy6;refine⟨.set x6 un,?_⟩;have rs6:=(Ξ.mono (k4.trans (kp5.trans k6))).set r6 i';refine LT.bind rs6 rh6 (go5 ds5[i2] (G5 hi5)) λb h7 H7 k7 rs7 rh7 q7=> ?_
     cases b with
     |true=>
      rw [R6 rfl] at q7 ⊢;exact LE.bind rs7 rh7 q7 λd8 v8 h8 H8 k8 rs8 rh8 r8 ⟨h9,sb,w9⟩=>⟨n2-(i2+1),by omega,rfl,kp5.trans (k6.trans (k7.trans k8)),yd5++ [d8],h9,(ry5.mono (k6.trans (k7.trans k8))).append (.cons r8 .nil),rh8.sub sb,w9⟩
     |false=>
      rw [R9 R5] at q7 ⊢;obtain⟨h9,sb,w9⟩:=q7;exact⟨n2-(i2+1),by omega,rfl,kp5.trans (k6.trans k7),yd5,h9,ry5.mono (k6.trans k7),rh7.sub sb,w9⟩
    ·obtain⟨h9,sb,w9⟩:=X00 (aO.mp hi5);exact .inl ⟨jo5.2 (aO.mp hi5),n-(i+1),by omega,rfl,kk5,yd5,h9,ry5,rh5.sub sb,w9⟩
   |false=>
    rw [R9 R5] at q3 ⊢;obtain⟨h5,sb,w5⟩:=q3;exact⟨n-(i+1),by omega,rfl,kp.trans (k2.trans k3),yd,h5,ry.mono (k2.trans k3),Ğ.sub sb,w5⟩
  ·refine .inl ⟨jo'.2 (aO.mp hi),λa ha=>p (.lst a) (.ref a) _ _ (kk.trans (.new ha)) (ħ.newL ha ry) ⟨rfl,ys,jt⟩ (stop (aO.mp hi) a (ħ.free ha))⟩
section
variable {X:Cx}{iter ç elt:M6}{te:TED}{ti İ:TID}{tt Ŀ:TTD}{pos:Pos}{scope:Y5}{js:G0 G8}{ifs ģ:G0 M6}
def KB {i i':G8}{x y:Str}{p py:Pos}(hc:X.calm=true)(S:Ê X scope js)(hi:QI X (.Name x p) iter ti)(hj:i∈js)(hj':i'∈js)(hne:i≠i')(hN:X.N.Nodup)(hx:X.N[i]? =some x)(hy:X.N[i']? =some y)
 (hl:scope.names.lookup x=some .local\/scope.names.lookup x=some .cell)(hl':scope.names.lookup y=some .local\/scope.names.lookup y=some .cell)
 (ht: ∀X',jh X scope X'->Ĝ X' ifs (LT X'.K tt))(hi': ∀X',jh X scope X'->QI X' (.Name y py) ç İ)(ht': ∀X',jh X scope X'->Ĝ X' ģ (LT X'.K Ŀ))(he: ∀X',jh X scope X'->QE X' elt te)
 (hs: ∀x,M8 iter X.env x=pure x:=by intro _;rfl)(hs': ∀env x,M8 ç env x=pure x:=by intro _ _;rfl):
 QE X (.ListComp elt [⟨.Name x p,iter,ifs,0⟩,⟨.Name y py,ç,ģ,0⟩] scope pos) (Nl (bN i) js ti tt i' İ Ŀ te):=
 (show PE X _ (SN js (LI X.K ti) (wV i) (LT X.K tt) (LI X.K İ) (wV i') (LT X.K Ŀ) (LE X.K te)) from Af hc S hi (λX' hX=>by obtain⟨C,s₀,H₀,ex,rfl⟩:=hX;exact we hN hx hl) (λX' hX=>by have:=ht X' hX;obtain⟨C,s₀,H₀,ex,rfl⟩:=hX;exact this) (λX' hX=>by have:=hi' X' hX;obtain⟨C,s₀,H₀,ex,rfl⟩:=hX;exact this)
  (λX' hX=>by obtain⟨C,s₀,H₀,ex,rfl⟩:=hX;exact we hN hy hl') (λX' hX=>by have:=ht' X' hX;obtain⟨C,s₀,H₀,ex,rfl⟩:=hX;exact this)
  (λX' hX=>by have:=he X' hX;obtain⟨C,s₀,H₀,ex,rfl⟩:=hX;exact this) hs hs').imp (AH (AG hj hj' hne))
end
def HA:RD2:=λx y h Q=>match x,y with
 | .int i,.int j=>Q (.int (i+j)) h
 | .tup a,.tup b=>a.length+b.length<=sizeLine/\Q (.tup (a++b)) h
 | .lst a,.lst b=> ∃xs ys,h a=some xs/\h b=some ys/\xs.length+ys.length<=sizeLine/\ ∀p,h p=none->Q (.lst p) (zm h p (xs++ys))
 |_,_=>False
def HB:RD2:=λx y h Q=>match x,y with
 | .int i,.int j=>Q (.int (i-j)) h
 |_,_=>False
def HE:RD2:=λx y h Q=>match x,y with
 | .int i,.int j=>υ i j/\Q (.int (i*j)) h
 | .lst a,.int k=> ∃xs,h a=some xs/\ -(2^63)<=k/\k<2^63/\xs.length*k.toNat<=sizeLine/\ ∀p,h p=none->Q (.lst p) (zm h p (T4 k.toNat xs).flatten)
 |_,_=>False
def KC:RD2:=λx y h Q=>match x,y with
 | .int i,.int j=>0<j/\Q (.int (i%j)) h
 |_,_=>False
def Tg:RD2:=λx y h Q=>match x,y with
 | .int i,.int j=>EW i j/\Q (.int (i / j)) h
 |_,_=>False
def Th:RD2:=λx y h Q=>match x,y with
 | .int i,.int j=>Hq i j/\Q (.int (i^j.toNat)) h
 |_,_=>False
def Nm (p:P4->P4->N0):RD2:=λx y h Q=>match x,y with
 | .int i,.int j=>Q (.bl (p i j)) h
 |_,_=>False
def eqD:RD2:=λx y h Q=>match x,y with
 | .int i,.int j=>Q (.bl (decide (i=j))) h
 | .bl i,.bl j=>Q (.bl (decide (i=j))) h
 | .str i,.str j=>Q (.bl (decide (i=j))) h
 |_,_=>False
def neD:RD2:=λx y h Q=>match x,y with
 | .int i,.int j=>Q (.bl (!decide (i=j))) h
 | .bl i,.bl j=>Q (.bl (!decide (i=j))) h
 | .str i,.str j=>Q (.bl (!decide (i=j))) h
 |_,_=>False
section
variable {X:Cx}
def YI {f:G2->G2->Sem G2}{C:P4->P4->Prop}{g:P4->P4->V}{gd:P4->P4->D}{r:RD2}(ho:ā X f (rI C g))(hg: ∀i j H,È X.K H (gd i j) (g i j))
 (hr: ∀x y h Q,r x y h Q-> ∃i j,x= .int i/\y= .int j/\C i j/\Q (gd i j) h):ù X f r:=ho.imp λx y H Q ⟨dx,dy,h,Qd,rx,ry,rh,q,p⟩=>by
 obtain⟨i,j,e1,e2,c,q'⟩:=hr dx dy h Qd q;subst e1 e2;exact⟨i,j,rx,ry,c,p _ _ _ _ (.refl H) rh (hg i j H) q'⟩
def Ji {f:G2->G2->Sem G2}{g:P4->P4->V}{gd:P4->P4->D}{r:RD2}(ho:ā X f (rI0 g))(hg: ∀i j H,È X.K H (gd i j) (g i j))
 (hr: ∀x y h Q,r x y h Q-> ∃i j,x= .int i/\y= .int j/\Q (gd i j) h):ù X f r:=ho.imp λx y H Q ⟨dx,dy,h,Qd,rx,ry,rh,q,p⟩=>by
 obtain⟨i,j,e1,e2,q'⟩:=hr dx dy h Qd q;subst e1 e2;exact⟨i,j,rx,ry,p _ _ _ _ (.refl H) rh (hg i j H) q'⟩
def Dt:ù X (Q8 .Sub) HB:=Ji (gd:=λi j=> .int (i-j)) OM (λ_ _ _=>rfl) λx y h Q q=>by
 cases x<;>first|exact False.elim q|(cases y<;>first|exact False.elim q|exact⟨_,_,rfl,rfl,q⟩)
def Jj:ù X (Q8 .Mod) KC:=YI (gd:=λi j=> .int (i%j)) ON (λ_ _ _=>rfl) λx y h Q q=>by
 cases x<;>first|exact False.elim q|(cases y<;>first|exact False.elim q|exact⟨_,_,rfl,rfl,q.1,q.2⟩)
def FF:ù X (Q8 .FloorDiv) Tg:=YI (gd:=λi j=> .int (i / j)) CM (λ_ _ _=>rfl) λx y h Q q=>by
 cases x<;>first|exact False.elim q|(cases y<;>first|exact False.elim q|exact⟨_,_,rfl,rfl,q.1,q.2⟩)
def Du:ù X (Q8 .Pow) Th:=YI (gd:=λi j=> .int (i^j.toNat)) OO (λ_ _ _=>rfl) λx y h Q q=>by
 cases x<;>first|exact False.elim q|(cases y<;>first|exact False.elim q|exact⟨_,_,rfl,rfl,q.1,q.2⟩)
def YJ {p:P4->P4->N0}: ∀x y h Q,Nm p x y h Q-> ∃i j,x= .int i/\y= .int j/\Q (.bl (p i j)) h:=λx y h Q q=>by
 cases x<;>first|exact False.elim q|(cases y<;>first|exact False.elim q|exact⟨_,_,rfl,rfl,q⟩)
def AI:ù X (H0 .Lt) (Nm λi j=>decide (i<j)):=Ji (gd:=λi j=> .bl (decide (i<j))) Sv (λ_ _ _=>rfl) YJ
def GH:ù X (H0 .LtE) (Nm λi j=>decide (i<=j)):=Ji (gd:=λi j=> .bl (decide (i<=j))) Sw (λ_ _ _=>rfl) YJ
def FG:ù X (H0 .Gt) (Nm λi j=>decide (j<i)):=Ji (gd:=λi j=> .bl (decide (j<i))) Sx (λ_ _ _=>rfl) YJ
def Nn:ù X (H0 .GtE) (Nm λi j=>decide (j<=i)):=Ji (gd:=λi j=> .bl (decide (j<=i))) Sy (λ_ _ _=>rfl) YJ
def Oi {α:Type}[DecidableEq α]{f:α->V}(hf: ∀a b,f a=f b->a=b)(a b:α):decide (f a=f b)=decide (a=b):=by
 by_cases h:a=b
 ·subst h;simp
 ·rw [B7 h,B7 (λe=>h (hf a b e))]
def ú:ù X (H0 .Eq) eqD:=X0M.imp λx y H Q ⟨dx,dy,h,Qd,rx,ry,rh,q,p⟩=>by
 cases dx<;>first|exact False.elim q|(cases dy<;>first|exact False.elim q|skip)
 all_goals first
  |(cases (show x= .int _ from rx);cases (show y= .int _ from ry);refine⟨rfl,p _ _ _ _ (.refl H) rh ?_ q⟩;rw [Oi (f:=V.int) (λa b e=>by cases e;rfl)];rfl)
  |(cases (show x= .bl _ from rx);cases (show y= .bl _ from ry);refine⟨rfl,p _ _ _ _ (.refl H) rh ?_ q⟩;rw [Oi (f:=V.bl) (λa b e=>by cases e;rfl)];rfl)
  |(cases (show x= .str _ from rx);cases (show y= .str _ from ry);refine⟨rfl,p _ _ _ _ (.refl H) rh ?_ q⟩;rw [Oi (f:=V.str) (λa b e=>by cases e;rfl)];rfl)
def Ķ:ù X (H0 .NotEq) neD:=X0N.imp λx y H Q ⟨dx,dy,h,Qd,rx,ry,rh,q,p⟩=>by
 cases dx<;>first|exact False.elim q|(cases dy<;>first|exact False.elim q|skip)
 all_goals first
  |(cases (show x= .int _ from rx);cases (show y= .int _ from ry);refine⟨rfl,p _ _ _ _ (.refl H) rh ?_ q⟩;rw [Oi (f:=V.int) (λa b e=>by cases e;rfl)];rfl)
  |(cases (show x= .bl _ from rx);cases (show y= .bl _ from ry);refine⟨rfl,p _ _ _ _ (.refl H) rh ?_ q⟩;rw [Oi (f:=V.bl) (λa b e=>by cases e;rfl)];rfl)
  |(cases (show x= .str _ from rx);cases (show y= .str _ from ry);refine⟨rfl,p _ _ _ _ (.refl H) rh ?_ q⟩;rw [Oi (f:=V.str) (λa b e=>by cases e;rfl)];rfl)
def AJ (K:G7):R2:=λx y H Q=> ∃a b xs ys,x= .ref a/\y= .ref b/\ä K H a xs/\ä K H b ys/\xs= []/\Q (.ref b) H
def X0a:ā X (Q8 .Add) (AJ X.K):=by
 intro À s σ H x y v u Q I rx ry h;obtain⟨a,b,xs,ys,rfl,rfl,ha,hb,hx,q⟩:=h;cases rx;cases ry;obtain⟨its,r1,p1,_⟩:=I.tuple ha;obtain⟨ġ,r2,p2,_⟩:=I.tuple hb;have hv:its= []:=r1.nil_iff.mpr hx;obtain⟨⟨cls,dd,data,sl⟩,ho,hc,n,hd⟩:=id p1;obtain⟨⟨X0Q,ž,G0Q,Α⟩,ho2,hc2,n2,hd2⟩:=id p2;simp only at hc hd hc2 hd2;subst hc hd hc2 hd2;exact qG ⟨_,ho,rfl⟩ ⟨_,ho2,rfl⟩ mB pG f7 fM (eU _ _)
  (tuple_addW0 a b its.toArray ġ.toArray n n2 dd ž sl Α (by simp [hv])) ⟨ho,ho2,.ref b,H,I,rfl,q⟩
def jQ:ù X (Q8 .Add) HA:=(X0s.or (X0e.or (X0a.or OZ))).imp λx y H Q ⟨dx,dy,h,Qd,rx,ry,rh,q,p⟩=>by
 cases dx<;>first|exact False.elim q|(cases dy<;>first|exact False.elim q|skip)
 ·exact .inl ⟨_,_,rx,ry,p (.int _) _ _ _ (.refl H) rh rfl q⟩
 ·rename_i ds es;obtain⟨a,vs,e1,h1,r1⟩:=(show ∃a vs,x= .ref a/\H a=some (.tup vs)/\Á X.K H ds vs from rx);obtain⟨b,us,e2,h2,r2⟩:=(show ∃a vs,y= .ref a/\H a=some (.tup vs)/\Á X.K H es vs from ry);subst e1 e2;obtain⟨hz,q⟩:=q
  by_cases hv:vs= []
  ·subst hv;have e:ds= []:=cF.mp r1.length;subst e;exact .inr (.inr (.inl ⟨a,b,[],us,rfl,rfl,ä.of h1,ä.of h2,rfl,p (.tup es) _ _ _ (.refl H) rh ⟨b,us,rfl,h2,r2⟩ q⟩))
  ·refine .inr (.inl ⟨a,b,vs,us,rfl,rfl,ä.of h1,ä.of h2,hv,by rw [<-r1.length,<-r2.length];exact hz,λe=> ?_,λ_ c hc=> ?_⟩)
   ·subst e;have e:es= []:=cF.mp r2.length;subst e;rw [J8] at q;exact p (.tup ds) _ _ _ (.refl H) rh ⟨a,vs,rfl,h1,r1⟩ q
   ·exact p (.tup (ds++es)) _ _ _ (.new hc) (rh.new hc) ⟨c,vs++us,rfl,jt,(r1.append r2).mono (.new hc)⟩ q
 ·rename_i a b;obtain⟨xs,ys,h1,h2,hz,q⟩:=q;obtain⟨vs,e1,r1⟩:=rh a xs h1;obtain⟨us,e2,r2⟩:=rh b ys h2;refine .inr (.inr (.inr ⟨a,b,vs,us,rx.1,ry.1,e1,e2,by rw [<-r1.length,<-r2.length];exact hz,λc hc=> ?_⟩));exact p (.lst c) _ _ _ (.new hc) (rh.newL hc (r1.append r2)) ⟨rfl,_,jt⟩ (q c (rh.free hc))
theorem Á.flat {K:G7}{H:Hp}{ds:G0 D}{vs:G0 V}(r:Á K H ds vs): ∀k:G8,Á K H (T4 k ds).flatten (T4 k vs).flatten
 |0=>by simp;exact .nil
 |k+1=>by rw [E2,E2,X1,X1];exact r.append (Á.flat r k)
def X0x:ù X (Q8 .Mult) HE:=(X0t.or Aa).imp λx y H Q ⟨dx,dy,h,Qd,rx,ry,rh,q,p⟩=>by
 cases dx<;>first|exact False.elim q|(cases dy<;>first|exact False.elim q|skip)
 ·exact .inl ⟨_,_,rx,ry,q.1,p (.int _) _ _ _ (.refl H) rh rfl q.2⟩
 ·obtain⟨xs,h1,b1,b2,hz,q⟩:=q;obtain⟨vs,e1,r1⟩:=rh _ xs h1;refine .inr ⟨_,_,vs,rx.1,ry,e1,b1,b2,by rw [<-r1.length];exact hz,λc hc=> ?_⟩;exact p (.lst c) _ _ _ (.new hc) (rh.newL hc (r1.flat _)) ⟨rfl,_,jt⟩ (q c (rh.free hc))
end
def ixD:RD2:=λx y h Q=>match x,y with
 | .tup ds,.int i=> ∃d,Ģ ds i=some d/\Q d h
 | .lst a,.int i=> ∃ds d,h a=some ds/\Ģ ds i=some d/\Q d h
 | .scr ns,.int i=> ∃n,Ģ ns i=some n/\Q (.int n) h
 |_,_=>False
def Dv {vs:G0 V}(r:Á K H ds vs){i:P4}{d:D}(e:Ģ ds i=some d): ∃v,Ģ vs i=some v/\È K H d v:=by
 unfold Ģ at e ⊢;rw [<-r.length];cases q:Β ds.length i with
 |none=>rw [q] at e;cases e
 |some j=>rw [q] at e;exact r.get e
def FH {β:Type}(f:α->β){xs:G0 α}{i:P4}{x:α}(e:Ģ xs i=some x):Ģ (xs.map f) i=some (f x):=by
 unfold Ģ at e ⊢;rw [G1];cases q:Β xs.length i with
 |none=>rw [q] at e;cases e
 |some j=>
  rw [q] at e;show (xs.map f)[j]? =_;rw [P7,(show xs[j]? =some x from e)];rfl
section
variable {X:Cx}{a b e:M6}{ta tb te:TED}{pos p2:Pos}
def Ti: ∀σ H Q,LE X.K (Ņ ixD ta tb) σ H Q->tOp (rIx X.K) (LE X.K ta) (LE X.K tb) σ H Q:=λσ H Q ⟨Å,h,Qd,rs,rh,t,p⟩=>
 LE.bind rs rh t λdx x h1 H1 k1 ß Ë r1 t1=>LE.bind ß Ë t1 λdy y h2 H2 k2 ņ ô ry q=>by
  have rx:=r1.mono k2;have kk:=k1.trans k2;cases dx<;>first|exact False.elim q|(cases dy<;>first|exact False.elim q|skip)
  ·rename_i ds i;obtain⟨d,e,q⟩:=q;obtain⟨a,vs,e1,hH,r⟩:=(show ∃a vs,x= .ref a/\H2 a=some (.tup vs)/\Á X.K H2 ds vs from rx);obtain⟨v,e2,rv⟩:=Dv r e;exact .inr (.inl ⟨a,vs,i,v,e1,ry,ä.of hH,e2,p _ _ _ _ kk ô rv q⟩)
  ·rename_i a i;obtain⟨ds,d,hd,e,q⟩:=q;obtain⟨vs,hH,r⟩:=ô a ds hd;obtain⟨v,e2,rv⟩:=Dv r e;exact .inl ⟨a,vs,i,v,rx.1,ry,ê.of hH,e2,p _ _ _ _ kk ô rv q⟩
  ·rename_i ns i;obtain⟨n,e,q⟩:=q;obtain⟨a,e1,hS⟩:=(show ∃a,x= .ref a/\Scr X.K H2 a ns from rx);exact .inl ⟨a,_,i,.int n,e1,ry,hS.sq,FH V.int e,p (.int n) _ _ _ kk ô rfl q⟩
def qix (ha:QE X a ta)(hb:QE X b tb)(hs:YD b):QE X (.Subscript a b pos) (Ņ ixD ta tb):=(SC OX ha hb hs).imp Ti
end
def BT:RDn:=λds h Q=>match ds with
 | [.tup xs]=>Q (.int xs.length) h
 | [.lst a]=> ∃xs,h a=some xs/\Q (.int xs.length) h
 | [.scr ns]=>Q (.int ns.length) h
 |_=>False
def Tj:RDn:=λds h Q=>match ds with
 | [.int i]=>Q (.int i) h
 | [.bl k]=>Q (.int (if k then 1 else 0)) h
 |_=>False
def Tk:RDn:=λds h Q=>match ds with
 | [.int i,.int j]=>Q (.int (if j>i then j else i)) h
 |_=>False
def Dw:RDn:=λds h Q=>match ds with
 | [.int i,.int j]=>EW i j/\Q (.tup [.int (i / j),.int (i%j)]) h
 |_=>False
def BU:RDn:=λds h Q=>match ds with
 | [.tup xs]=>Q (.tup xs) h
 | [.lst a]=> ∃xs,h a=some xs/\Q (.tup xs) h
 |_=>False
def Yj:RDn:=λds h Q=>match ds with
 | [.lst a]=> ∃xs,h a=some xs/\Q (.tup xs) (YG h a)
 |_=>False
def AK:RDn:=λds h Q=>match ds with
 | [.tup xs]=> ∀p,h p=none->Q (.lst p) (zm h p xs)
 | [.lst a]=> ∃xs,h a=some xs/\ ∀p,h p=none->Q (.lst p) (zm h p xs)
 |_=>False
section
variable {X:Cx}
def AL:yh X (.builtin "len") BT:=Ŏ.imp λxs H Q ⟨ds,h,Qd,r,rh,q,p⟩=>by
 unfold BT at q;split at q
 ·rename_i es;obtain⟨v,e,r1⟩:=jA r;obtain⟨a,vs,e1,hH,r2⟩:=(show ∃a vs,v= .ref a/\H a=some (.tup vs)/\Á X.K H es vs from r1);subst e e1;exact⟨a,vs,rfl,.inr (ä.of hH),by rw [<-r2.length];exact p (.int _) _ _ _ (.refl H) rh rfl q⟩
 ·rename_i a;obtain⟨es,hd,q⟩:=q;obtain⟨v,e,r1⟩:=jA r;obtain⟨vs,hH,r2⟩:=rh a es hd;have e1:v= .ref a:=r1.1;subst e e1;exact⟨a,vs,rfl,.inl (ê.of hH),by rw [<-r2.length];exact p (.int _) _ _ _ (.refl H) rh rfl q⟩
 ·rename_i ns;obtain⟨v,e,r1⟩:=jA r;obtain⟨a,e1,hS⟩:=(show ∃a,v= .ref a/\Scr X.K H a ns from r1);subst e e1;exact⟨a,_,rfl,.inl hS.sq,by rw [G1];exact p (.int _) _ _ _ (.refl H) rh rfl q⟩
 ·exact q.elim
def VQ:yh X (.type "int") Tj:=Λ.imp λxs H Q ⟨ds,h,Qd,r,rh,q,p⟩=>by
 unfold Tj at q;split at q
 ·rename_i i;obtain⟨v,e,r1⟩:=jA r;cases (show v= .int i from r1);exact .inl ⟨i,e,p (.int i) _ _ _ (.refl H) rh rfl q⟩
 ·rename_i k;obtain⟨v,e,r1⟩:=jA r;cases (show v= .bl k from r1);exact .inr ⟨k,e,p (.int _) _ _ _ (.refl H) rh rfl q⟩
 ·exact q.elim
def AM (hc:X.calm=true):yh X (.builtin "max") Tk:=(PR hc).imp λxs H Q ⟨ds,h,Qd,r,rh,q,p⟩=>by
 unfold Tk at q;split at q
 ·rename_i i j;obtain⟨v,w,e,r1,r2⟩:=yL r;cases (show v= .int i from r1);cases (show w= .int j from r2);exact⟨i,j,e,p (.int _) _ _ _ (.refl H) rh rfl q⟩
 ·exact q.elim
def Dx:yh X (.builtin "divmod") Dw:=ť.imp λxs H Q ⟨ds,h,Qd,r,rh,q,p⟩=>by
 unfold Dw at q;split at q
 ·rename_i i j;obtain⟨c,q⟩:=q;obtain⟨v,w,e,r1,r2⟩:=yL r;cases (show v= .int i from r1);cases (show w= .int j from r2);exact⟨i,j,e,c,λa ha=>p (.tup [.int (i / j),.int (i%j)]) _ _ _ (.new ha) (rh.new ha) ⟨a,_,rfl,jt,.cons rfl (.cons rfl .nil)⟩ q⟩
 ·exact q.elim
def Þ:yh X (.type "tuple") BU:=Ń.imp λxs H Q ⟨ds,h,Qd,r,rh,q,p⟩=>by
 unfold BU at q;split at q
 ·rename_i es;obtain⟨v,e,r1⟩:=jA r;obtain⟨a,vs,e1,hH,r2⟩:=(show ∃a vs,v= .ref a/\H a=some (.tup vs)/\Á X.K H es vs from r1);subst e e1;exact⟨a,vs,rfl,.inr ⟨ä.of hH,p (.tup es) _ _ _ (.refl H) rh ⟨a,vs,rfl,hH,r2⟩ q⟩⟩
 ·rename_i a;obtain⟨es,hd,q⟩:=q;obtain⟨v,e,r1⟩:=jA r;obtain⟨vs,hH,r2⟩:=rh a es hd;have e1:v= .ref a:=r1.1;subst e e1;exact⟨a,vs,rfl,.inl ⟨ê.of hH,λc hc=>p (.tup es) _ _ _ (.new hc) (rh.new hc) ⟨c,vs,rfl,jt,r2.mono (.new hc)⟩ q⟩⟩
 ·exact q.elim
def zg:yh X (.type "tuple") Yj:=Þ.imp λxs H Q ⟨ds,h,Qd,r,rh,q,p⟩=>by
 unfold Yj at q;split at q
 ·rename_i a;obtain⟨es,hd,q⟩:=q;exact⟨[.lst a],h,λd h'=>Qd d (YG h' a),r,rh,⟨es,hd,q⟩,λd v h' H' k ħ rd q'=>p d v _ H' k (ħ.sub (Sub.drop h' a)) rd q'⟩
 ·exact q.elim
def Xl:yh X (.type "list") AK:=ŏ.imp λxs H Q ⟨ds,h,Qd,r,rh,q,p⟩=>by
 unfold AK at q;split at q
 ·rename_i es;obtain⟨v,e,r1⟩:=jA r;obtain⟨a,vs,e1,hH,r2⟩:=(show ∃a vs,v= .ref a/\H a=some (.tup vs)/\Á X.K H es vs from r1);subst e e1;exact⟨a,vs,rfl,.inr (ä.of hH),λc hc=>p (.lst c) _ _ _ (.new hc) (rh.newL hc r2) ⟨rfl,_,jt⟩ (q c (rh.free hc))⟩
 ·rename_i a;obtain⟨es,hd,q⟩:=q;obtain⟨v,e,r1⟩:=jA r;obtain⟨vs,hH,r2⟩:=rh a es hd;have e1:v= .ref a:=r1.1;subst e e1;exact⟨a,vs,rfl,.inl (ê.of hH),λc hc=>p (.lst c) _ _ _ (.new hc) (rh.newL hc r2) ⟨rfl,_,jt⟩ (q c (rh.free hc))⟩
 ·exact q.elim
end
noncomputable def VR:D->P9 W1
 | .non=>some "NoneType" | .bl _=>some "bool" | .int _=>some "int" | .str _=>some "str" | .tup _=>some "tuple" | .lst _=>some "list" | .dic _ _=>some "dict" | .dct _=>none| .scr _=>none| .exc _=>none| .fn _=>none
noncomputable def FI (T:W1)(n:W1):N0:=n==T||(T== "int" &&n== "bool")
def No {d:D}{v:V}{n:W1}(r:È K H d v)(e:VR d=some n):Ė K H v (.type n):=by
 cases d with
 |non=>cases (show v= .non from r);cases e;exact .non
 |bl b=>cases (show v= .bl b from r);cases e;exact .bl b
 |int i=>cases (show v= .int i from r);cases e;exact .int i
 |str x=>cases (show v= .str x from r);cases e;exact .str x
 |tup ds=>
  obtain⟨a,vs,e1,hH,_⟩:=(show ∃a vs,v= .ref a/\H a=some (.tup vs)/\Á K H ds vs from r);subst e1;cases e;exact .tup hH
 |lst a=>
  obtain⟨e1,vs,hH⟩:=(show v= .ref a/\ ∃vs,H a=some (.lst vs) from r);subst e1;cases e;exact .lst hH
 |dic x i=>
  obtain⟨a,e1,hH⟩:=(show ∃a,v= .ref a/\H a=some (.dK [(dM x,V.int i)]) from r);subst e1;cases e;exact .dK hH
 |dct a=>cases e
 |scr ns=>cases e
 |exc C=>cases e
 |fn a=>cases e
noncomputable def FJ:G0 W1:= ["NoneType","bool","int","str","tuple","list","dict"]
def GI {d:D}{n:W1}(e:VR d=some n):n∈FJ:=by
 cases d<;>cases e<;>decide
def Tl (K:G7):Prop:= ∀n∈FJ,∀T∈ ["tuple","int","bool","list","str"],n5 K (.type n) (.type T)=some (FI T n)
def FK (K:G7):Tl K:=by
 intro n hn T hT;simp only [FJ,S0,C5,or_false] at hn hT;rcases hn with rfl|rfl|rfl|rfl|rfl|rfl|rfl<;>rcases hT with rfl|rfl|rfl|rfl|rfl<;>with_unfolding_all rfl
def Dy (T:W1):Ú X (.builtin "isinstance") (λxs H Q=> ∃x t b,xs= [x,.ty T]/\Ė X.K H x t/\n5 X.K t (.type T)=some b/\Q (.bl b) H):=by
 intro À s σ H xs us Q I r h;obtain⟨x,t,b,rfl,ty,e,q⟩:=h;obtain⟨u,w',rfl,rx,rt⟩:=MY r;cases (show w'=pP T from rt);exact PV I rx ty e λtk=>⟨.bl b,H,I.tok tk,rfl,q⟩
def dIs (T:W1)(ta:TED):TED:=λσ h Q=>ta σ h λx h1=> ∃n,VR x=some n/\Q (.bl (FI T n)) h1
def Tn {a:M6}{ta:TED}{T:W1}{t:Str}{p p2:Pos}(hT:T∈ ["tuple","int","bool","list","str"])(hg:Gl X "isinstance")(hm:X.mg "isinstance" =none)(hg2:Gl X t)(hm2:X.mg t=none)(hv:V8 t=some (.type T))(ha:QE X a ta)
 (hn:t≠ "__name__" :=by decide)(hd:(t==("__debug__" :Str))=false:=by decide)
 (h1:R8 [a,.Name t p2] X.env=(false,J3 a X.env)::R8 [.Name t p2] X.env:=by rfl)(h2:(U9 pos (R8 [.Name t p2] X.env)).any (·.1)=false:=by rfl):
 QE X (.Call (.Name "isinstance" p) [a,.Name t p2] [] pos) (dIs T ta):=
 (ZG (Dy T) hg hm sG (yf ha (yf (CH (v:= .ty T) hg2 hm2 hv rfl hn hd) ē (by rfl)) h1) (by decide) (by decide) h1 h2).imp
  λσ H Q ⟨Å,h,Qd,rs,rh,t,p⟩=>LE.bind rs rh t λd v h1 H1 k1 ß Ë r1 ⟨n,e,q⟩=>⟨v,.type n,FI T n,rfl,No r1 e,FK _ n (GI e) T hT,p (.bl _) _ _ _ k1 Ë rfl q⟩
def Dz (bs:G0 N0):(D6 bs.length).all (λi=>bs.getD i false)=bs.all id:=by
 induction bs with
 |nil=>rfl
 |cons b bs ih=>
  rw [D2,gB,uS,aV,uS];show (b&&_)=(b&&bs.all id);rw [<-ih];rfl
def DA (bs:G0 N0):(D6 bs.length).any (λi=>bs.getD i false)=bs.any id:=by
 induction bs with
 |nil=>rfl
 |cons b bs ih=>
  rw [D2,gB,lM,qJ,lM];show (b||_)=(b||bs.any id);rw [<-ih];rfl
def VS {bs:G0 N0}{its:G0 G2}(r:Æ (bs.map V.bl) its){i:G8}{v:G2}(e:its[i]? =some v):v= .bool (bs.getD i false):=by
 have hl:=r.length;rw [G1] at hl;have hi:i<its.length:=(P5.mp e).1;have hb:(bs.map V.bl)[i]? =some (.bl bs[i]):=by rw [P7,G5 (by omega)];rfl
 obtain⟨u,e1,r1⟩:=r.get hb;rw [e] at e1;cases e1;rw [R4,G5 (by omega)];exact r1
section
variable {X:Cx}
def YK (hc:X.calm=true):Ú X (.builtin "all") (λxs H Q=> ∃ (a:P3) (bs:G0 N0),xs= [.ref a]/\ê X.K H a (bs.map V.bl)/\Q (.bl (bs.all id)) H):=by
 intro À s σ H xs us Q I r h;obtain⟨a,bs,rfl,hS,q⟩:=h;obtain⟨u,rfl,ru⟩:=vH r;cases ru;obtain⟨its,rv,pl,hz⟩:=I.list hS;have hl:=pl.isList;have hlt:a<s.heap.objs.size:=by obtain⟨_,e,_⟩:=hl;exact D0 e
 refine call_all_walk (W8 hl ?_);refine⟨s.heap.objs.size,_,_,_,_,_,λi=>bs.getD i false,rfl,i7 (A:=X.A.in1) (show X.A.in1.handled=none from I.ok.hd hc) s.heap.objs.size a (S8 hlt) its.toArray,⟨⟨_,R0 _ rfl,rfl,rfl⟩,hl.push _⟩,?_,λh' tk hk=> ?_⟩
 ·intro i v s' Q' E' hP hQ;have e:its[i]? =some v:=by simpa using hP
  rw [VS rv e];exact Q1 hQ
 ·have hn:its.toArray.size=bs.length:=by rw [D7,<-rv.length,G1]
  rw [hn,Dz];exact⟨.bl _,H,I.kept (t':=tk) (λb o e=>hk b o (λz=>by rw [P0.mp z] at e;exact absurd (D0 e) (C1 _)) (G6 _ e)),rfl,q⟩
def YL (hc:X.calm=true):Ú X (.builtin "any") (λxs H Q=> ∃ (a:P3) (bs:G0 N0),xs= [.ref a]/\ê X.K H a (bs.map V.bl)/\Q (.bl (bs.any id)) H):=by
 intro À s σ H xs us Q I r h;obtain⟨a,bs,rfl,hS,q⟩:=h;obtain⟨u,rfl,ru⟩:=vH r;cases ru;obtain⟨its,rv,pl,hz⟩:=I.list hS;have hl:=pl.isList;have hlt:a<s.heap.objs.size:=by obtain⟨_,e,_⟩:=hl;exact D0 e
 refine call_any_walk (W8 hl ?_);refine⟨s.heap.objs.size,_,_,_,_,_,λi=>bs.getD i false,rfl,i7 (A:=X.A.in1) (show X.A.in1.handled=none from I.ok.hd hc) s.heap.objs.size a (S8 hlt) its.toArray,⟨⟨_,R0 _ rfl,rfl,rfl⟩,hl.push _⟩,?_,λh' tk hk=> ?_⟩
 ·intro i v s' Q' E' hP hQ;have e:its[i]? =some v:=by simpa using hP
  rw [VS rv e];exact Q1 hQ
 ·have hn:its.toArray.size=bs.length:=by rw [D7,<-rv.length,G1]
  rw [hn,DA];exact⟨.bl _,H,I.kept (t':=tk) (λb o e=>hk b o (λz=>by rw [P0.mp z] at e;exact absurd (D0 e) (C1 _)) (G6 _ e)),rfl,q⟩
theorem vK {K:G7}{H:Hp}: ∀ {bs:G0 N0} {vs:G0 V},Á K H (bs.map D.bl) vs->vs=bs.map V.bl
 | [],_,h=>h
 |b::bs,vs,h=>by
  obtain⟨v,r,e,h1,h2⟩:=(show ∃v r,vs=v::r/\È K H (.bl b) v/\Á K H (bs.map D.bl) r from h);rw [e,vK h2,(show v= .bl b from h1)];rfl
def Np:RDn:=λds h Q=> ∃ (a:P3) (bs:G0 N0),ds= [.lst a]/\h a=some (bs.map D.bl)/\Q (.bl (bs.all id)) (YG h a)
def anyF:RDn:=λds h Q=> ∃ (a:P3) (bs:G0 N0),ds= [.lst a]/\h a=some (bs.map D.bl)/\Q (.bl (bs.any id)) (YG h a)
def Jk (hc:X.calm=true):yh X (.builtin "all") Np:=(YK hc).imp λxs H Q ⟨ds,h,Qd,r,rh,⟨a,bs,e,hd,q⟩,p⟩=>by
 subst e;obtain⟨v,e,r1⟩:=jA r;obtain⟨vs,hH,r2⟩:=rh a _ hd;have e1:v= .ref a:=r1.1;rw [vK r2] at hH;subst e e1;exact⟨a,bs,rfl,ê.of hH,p (.bl _) _ _ _ (.refl H) (rh.sub (Sub.drop h a)) rfl q⟩
def AN (hc:X.calm=true):yh X (.builtin "any") anyF:=(YL hc).imp λxs H Q ⟨ds,h,Qd,r,rh,⟨a,bs,e,hd,q⟩,p⟩=>by
 subst e;obtain⟨v,e,r1⟩:=jA r;obtain⟨vs,hH,r2⟩:=rh a _ hd;have e1:v= .ref a:=r1.1;rw [vK r2] at hH;subst e e1;exact⟨a,bs,rfl,ê.of hH,p (.bl _) _ _ _ (.refl H) (rh.sub (Sub.drop h a)) rfl q⟩
end
def HF (to:TED)(te:TED):TED:=λσ h Q=>to σ h λx h1=> ∃a,x= .lst a/\te σ h1 λy h2=> ∃xs,h2 a=some xs/\xs.length<sizeLine/\Q .non (zm h2 a (xs++ [y]))
section
variable {X:Cx}{o e i:M6}{to te ti:TED}{apos Ò pos:Pos}
def KF (ho:QE X o to)(he:QE X e te)(hbase:cO o "append" X.env (J3 o X.env)=J3 o X.env:=by rfl)
 (hfew:((U9 Ò (R8 [e] X.env)).all (λx=> !x.1)&&(mD Ò (fQ [] X.env)).all (λx=>x.1.isSome)&&decide ([e].length+([]:G0 dP).length+(if ([]:G0 dP).isEmpty then 0 else 1)<30))=true:=by rfl)
 (hline:(apos.endLine==Ò.line)=true:=by rfl)(hs:R8 [e] X.env=(false,J3 e X.env)::R8 [] X.env:=by rfl)(hplain:(U9 Ò (R8 [] X.env)).any (·.1)=false:=by rfl):
 QE X (.Call (.Attribute o "append" apos) [e] [] Ò) (HF to te):=
 (CY fV uU uV Db ho (yf he ē hs) hbase hfew hline hs hplain).imp
  λσ H Q ⟨Å,h,Qd,rs,rh,t,p⟩=>LE.bind rs rh t λd v h1 H1 k1 ß Ë r1 ⟨a,e,q⟩=>by
   subst e;obtain⟨e1,vs,hH⟩:=(show v= .ref a/\ ∃vs,H1 a=some (.lst vs) from r1);subst e1;refine⟨.inl ⟨rfl,vs,ê.of hH⟩,?_⟩;refine LE.bind ß Ë q λy u h2 H2 k2 ņ ô r2 ⟨xs,hx,hz,q2⟩=> ?_
   obtain⟨ws,hW,r3⟩:=ô a xs hx;refine⟨a,ws,u,rfl,rfl,hW,by rw [<-r3.length];exact hz,p .non _ _ _ (k1.trans (k2.trans (.put hW))) (ô.put hW (r3.append (.cons r2 .nil))) rfl q2⟩
def AO (to ti:TED):TGD:=λd σ h Q=>to σ h λo h1=>ti σ h1 λi h2=> ∃a k xs j,o= .lst a/\i= .int k/\h2 a=some xs/\Β xs.length k=some j/\Q σ (zm h2 a (xs.set j d))
def AQ (ho:QE X o to)(hi:QE X i ti)
 (ha: ∀v,gR (.Subscript o i pos) X.env v=(do
  let ov <-aR [v] (J3 o X.env)
  let iv <-aR [v,ov] (J3 i X.env)
  gX pos
  aR [v,ov,iv] (tD ov iv v)
  G0r [v,ov,iv] []):=by intro _;rfl):QG X (.Subscript o i pos) (AO to ti):=
 (OE ho hi Nc ha).imp λv σ H Q ⟨d,Å,h,Qd,r,rs,rh,q,p⟩=>
  LE.bind rs rh q λd1 v1 h1 H1 k1 ß Ë r1 q1=>LE.bind ß Ë q1 λd2 v2 h2 H2 k2 ņ ô r2 ⟨a,k,xs,j,e1,e2,hx,hj,q2⟩=>by
   subst e1 e2;have e3:v1= .ref a:=(r1.mono k2).1;obtain⟨ws,hW,r3⟩:=ô a xs hx;refine⟨a,ws,k,j,e3,r2,hW,by rw [<-r3.length];exact hj,p _ _ _ _ (k1.trans (k2.trans (.put hW))) (ņ.mono (.put hW)) (ô.put hW (Á.set ((r.mono k1).mono k2) j r3)) q2⟩
end
noncomputable def Qw (N:G0 Str)(sc:G0 (Str×NameKind))(scope:Y5)(js:G0 G8):N0:=
 scope.kind== .function&&scope.names.all (λp=>p.2 != .cell||scope.names.lookup p.1==some .cell)&&scope.names.all (λp=>p.2 != .local||scope.names.lookup p.1==some .local)&&
 scope.names.all (λp=>p.2 != .free||sc.lookup p.1==some .cell||sc.lookup p.1==some .free)&&
 (D6 N.length).all λi=>(scope.names.lookup (N.getD i xD) !=some .local&&scope.names.lookup (N.getD i xD) !=some .cell)||js.contains i
def zb (h:Qw X.N X.env.scope.names scope js=true):Ê X scope js:=by
 unfold Qw at h;simp only [N9] at h;obtain⟨⟨⟨⟨h1,h2⟩,h3⟩,h4⟩,h5⟩:=h;refine⟨eq_of_beq h1,λp hp e=> ?_,λp hp e=> ?_,λp hp e=> ?_,λi x e1 e2=> ?_⟩
 ·have:=B0.mp h3 p hp;rw [e] at this;simpa using this
 ·have:=B0.mp h2 p hp;rw [e] at this;simpa using this
 ·have:=B0.mp h4 p hp;rw [e] at this;simpa using this
 ·have hi:i<X.N.length:=(P5.mp e1).1;have:=B0.mp h5 i (S4.mpr hi);rw [R4,e1,dR] at this;rcases e2 with e2|e2<;>(rw [e2] at this;simpa using this)
def qpt {t:TTD}(h:QW X e t):QT X e t:=h.pt
def Xm {te:TED}{σ:SD}{h1:HD}{Q:KD}{j:ItD}(f:D->D)(hz:ds.length<=sizeLine)(hj:j h1=some ds)
 (ht: ∀R:ItD->HD->Prop,R j h1->ti σ h R)(he: ∀d∈ds,∀Q':KD,Q' (f d) h1->te ((jM js σ).set i (some d)) h1 Q')(hq: ∀p,h1 p=none->Q (.lst p) (zm h1 p (ds.map f))):vw (bN i) js ti vj te σ h Q:=by
 refine ht _ ⟨ds.length,λk ys h'=>h'=h1/\ys=(ds.take k).map f,⟨rfl,by simp⟩,?_⟩;rintro k ys h' ⟨rfl,rfl⟩;refine⟨by simp only [G1,T3];omega,ds,hj,P2 _,λhl p hp=> ?_,λd hd=>⟨_,rfl,?_⟩⟩
 ·rw [T5 hl];exact hq p hp
 ·unfold vj;dsimp only;rw [R6 rfl];refine he d (P6 hd) _ ⟨h',Sub.refl _,rfl,?_⟩;rw [L6,hd];simp
end L2
namespace HT
open PySem PySem.Spec PyProof.Rows
section
variable {prog:S6}{w:B3}{A:N4}{E:G2->G3->Prop}{s:G3}
def vL {t sl:P3}{items:S5 G2}{vl vu:G2}{lo hi:P9 P4}{Q:G2->G3->Prop}(ht:xB s.heap t items)(hs:s.heap.IsSliceOf sl vl vu .none)(pl:mL vl lo)(pu:mL vu hi)
 (hw:sIx items.size 0 lo=0/\sIx items.size items.size hi=items.size)(h:Q (.ref t) s):D8 (R3 prog w) A (gY (.ref t) (.ref sl)) Q E s:=by
 obtain⟨os,δ,hcs,hds⟩:=id hs;have hTs:s.TypeIs (.ref sl) "slice" :=⟨os,δ,hcs⟩;unfold gY
 try with_reducible refine O5 ?_
 first|refine wpAny_bind (G9 ?_)|skip
 refine wpAny_bind (lE ht.typeIs (by decide) ?_);refine wpAny_bind (F5 (name:=W9 "__getitem__") ht.typeIs J4
  (C7 J4 ht.typeIs iH ?_ (i5 _ _)))
 show D8 _ _ (X0 (.ref t) >>= _) _ _ s;refine wpAny_bind (pH ht ?_);refine wpAny_bind (f8 hTs ?_);rw [R6 (by decide)];refine wpAny_bind (yE hs pl pu ?_);have X1C:((((sIx items.size 0 lo:G8):P4)==0&&(1:P4)==1&&(sIx items.size items.size hi-sIx items.size 0 lo)==items.size)=true):=by
  rw [hw.1,hw.2];simp
 show D8 _ _ (if (((sIx items.size 0 lo:G8):P4)==0&&(1:P4)==1&&(sIx items.size items.size hi-sIx items.size 0 lo)==items.size)=true then _ else _) _ _ s;rw [R6 X1C];refine wpAny_bind (m:=i8 (.ref t)) ?_;unfold i8;refine wpAny_bind (f8 ht.typeIs (G9 ?_));rw [R6 (by decide)];exact wpAny_bind (dE (G9 ⟨_,rfl,G9 h⟩))
end
end HT
namespace L2
open PySem PySem.Spec PyProof.Rows
def KG (K:G7):V->P9 P4->P9 P4->Hp->VK->Prop:=λx lo hi H Q=> ∃a xs,x= .ref a/\ä K H a xs/\(HT.sIx xs.length 0 lo=0/\HT.sIx xs.length xs.length hi=xs.length)/\Q (.ref a) H
variable {X:Cx}
def X0b:SlR X (KG X.K):=by
 intro À s σ H x v vl vu lo hi sl Q I rx hs pl pu h;obtain⟨a,xs,rfl,hx,hw,q⟩:=h;cases rx;obtain⟨its,r,ht,hz⟩:=I.tuple hx;have hlen:its.toArray.size=xs.length:=by rw [D7];exact r.length.symm
 refine⟨"tuple",_,PyProof.Rows.slot_tuple_getitem.lookup,ht.typeIs,?_⟩;exact HT.vL ht hs pl pu (by rw [hlen];exact hw) ⟨.ref a,H,I,rfl,q⟩
noncomputable def vy {α:Type}(xs:G0 α)(lo hi:P9 P4):G0 α:=(xs.drop (HT.sIx xs.length 0 lo)).take (HT.sIx xs.length xs.length hi-HT.sIx xs.length 0 lo)
abbrev TOD:=SD->HD->(P9 P4->HD->Prop)->Prop
def DB:TOD:=λ_ h Q=>Q none h
def AR (t:TED):TOD:=λσ h Q=>t σ h λx h1=> ∃i,x= .int i/\Q (some i) h1
def LO (K:G7)(t:TOD):TO:=λσ H Q=> ∃Å h Qd,Ð K H Å σ/\Ç K h H/\t Å h Qd/\ ∀o h' H',Kept H H'->Ç K h' H'->Qd o h'->Q o H'
def LO.bind {K:G7}{ta:TOD}{σ:St}{H:Hp}{Å:SD}{h:HD}{kd:P9 P4->HD->Prop}{k:P9 P4->Hp->Prop}(rs:Ð K H Å σ)(rh:Ç K h H)(t:ta Å h kd)(f: ∀o h' H',Kept H H'->Ð K H' Å σ->Ç K h' H'->kd o h'->k o H'):LO K ta σ H k:=
 ⟨Å,h,kd,rs,rh,t,λo h' H' kp r1 q=>f o h' H' kp (rs.mono kp) r1 q⟩
def PO.imp {e:P9 M6}{t t':TO}(h:PO X e t)(i: ∀σ H Q,t' σ H Q->t σ H Q):PO X e t':=λÀ s σ H Q I q=>h À s σ H Q I (i σ H Q q)
abbrev QO (X:Cx)(e:P9 M6)(t:TOD):Prop:=PO X e (LO X.K t)
def FL:QO X none DB:=X0d.imp λσ H Q ⟨Å,h,Qd,rs,rh,q,p⟩=>p none h H (.refl H) rh q
def FM {e:M6}{te:TED}(he:QE X e te):QO X (some e) (AR te):=(CV he).imp λσ H Q ⟨Å,h,Qd,rs,rh,q,p⟩=>
 LE.bind rs rh q λd v h1 H1 k1 ß Ë r1 ⟨i,e,q1⟩=>by subst e;exact⟨i,r1,p _ _ _ k1 Ë q1⟩
def slD:D->P9 P4->P9 P4->HD->KD->Prop:=λx lo hi h Q=>match x with
 | .tup ds=>Q (.tup (vy ds lo hi)) h
 | .scr ns=> ∀p,h p=none->Q (.lst p) (zm h p ((vy ns lo hi).map D.int))
 | .lst a=> ∃ds,h a=some ds/\ ∀p,h p=none->Q (.lst p) (zm h p (vy ds lo hi))
 |_=>False
def dSl (te:TED)(tl th:TOD):TED:=λσ h Q=>te σ h λx h1=>tl σ h1 λl h2=>th σ h2 λu h3=>slD x l u h3 Q
def YM {K:G7}{H:Hp}{ds:G0 D}{vs:G0 V}(r:Á K H ds vs)(lo hi:P9 P4):Á K H (vy ds lo hi) (ML vs lo hi):=by
 unfold vy ML;rw [r.length];exact(r.drop _).take _
def DD {α β:Type}(f:α->β)(xs:G0 α)(lo hi:P9 P4):vy (xs.map f) lo hi=(vy xs lo hi).map f:=by
 unfold vy;rw [G1,lS,lU]
def AS {e:M6}{te:TED}{lo hi:P9 M6}{tl th:TOD}{pos p2:Pos}(he:QE X e te)(hl:QO X lo tl)(hu:QO X hi th):QE X (.Subscript e (.Slice lo hi none p2) pos) (dSl te tl th):=
 (Nb (X0u.or (X0b.or CW)) he hl hu).imp λσ H Q ⟨Å,h,Qd,rs,rh,q,p⟩=>
  LE.bind rs rh q λd v h1 H1 k1 ß Ë r1 q1=>LO.bind ß Ë q1 λl h2 H2 k2 ņ ô q2=>LO.bind ņ ô q2 λu h3 H3 k3 Ξ Ğ q3=>by
   have rv:=(r1.mono k2).mono k3;have kk:=k1.trans (k2.trans k3);cases d<;>first
    |exact False.elim q3
    |skip
   ·rename_i ds;obtain⟨a,vs,e1,hH,r⟩:=(show ∃a vs,v= .ref a/\H3 a=some (.tup vs)/\Á X.K H3 ds vs from rv)
    by_cases hw:HT.sIx vs.length 0 l=0/\HT.sIx vs.length vs.length u=vs.length
    ·refine .inr (.inl ⟨a,vs,e1,ä.of hH,hw,p (.tup (vy ds l u)) _ _ _ kk Ğ ⟨a,vs,rfl,hH,?_⟩ q3⟩);have z:=YM r l u;have e:ML vs l u=vs:=by unfold ML;rw [hw.1,hw.2];simp
     rwa [e] at z
    ·exact .inl ⟨a,vs,e1,ä.of hH,hw,λc hc=>p (.tup (vy ds l u)) _ _ _ (kk.trans (.new hc)) (Ğ.new hc) ⟨c,_,rfl,jt,(YM r l u).mono (.new hc)⟩ q3⟩
   ·rename_i a;obtain⟨ds,hd,q3⟩:=q3;obtain⟨vs,hH,r⟩:=Ğ a ds hd;exact .inr (.inr ⟨a,vs,rv.1,ê.of hH,λc hc=>p (.lst c) _ _ _ (kk.trans (.new hc)) (Ğ.newL hc (YM r l u)) ⟨rfl,_,jt⟩ (q3 c (Ğ.free hc))⟩)
   ·rename_i ns;obtain⟨a,e1,hS⟩:=(show ∃a,v= .ref a/\Scr X.K H3 a ns from rv);refine .inr (.inr ⟨a,_,e1,hS.sq,λc hc=>p (.lst c) _ _ _ (kk.trans (.new hc)) (Ğ.newL hc ?_) ⟨rfl,_,jt⟩ (q3 c (Ğ.free hc))⟩);have z:=YM (vh (K:=X.K) (H:=H3) ns) l u
    rwa [DD] at z
end L2
namespace HT
open PySem PySem.Spec PyProof.Rows
open Sem (wp)
open Builtin
def Zz:fillsNumberSlot (.type "tuple") "mul" =pure false:=
 PySem.fillsNumberSlot_seq (id:= "tuple.__mul__") (r:=some (.builtin "tuple.__rmul__")) F.slot_tuple_mul.lookup (by decide +kernel) F.slot_tuple_rmul.lookup (by decide +kernel)
def VT:G0i (.type "tuple")=pure (some (.builtin "tuple.__mul__")):=by
 unfold G0i;rw [rJ (T:= "tuple") (name:= "__mul__") (id:= "tuple.__mul__") F.slot_tuple_mul.lookup (by decide +kernel),rJ (T:= "tuple") (name:= "__rmul__") (id:= "tuple.__rmul__") F.slot_tuple_rmul.lookup (by decide +kernel)];rfl
section
variable {prog:S6}{w:B3}{A:N4}{E:G2->G3->Prop}{s:G3}
def YN {k:P4}{t:Tok}{l:P3}{o:Obj}{its:S5 G2}{n:G8}{P:dQ->G3->Prop}(at_:s.heap.get? l=some o)(tup:o.cls= .type "tuple")(dat:o.data= .seq its n)(h:P (.done (.ret .notImplemented)) s):D8 (R3 prog w) A (Builtin.«int.__rmul__» ⟨[.int k t,.ref l],[]⟩) P E s:=by
 obtain⟨c,dd,dt,sl⟩:=o;cases tup;cases dat;obtain⟨hp,g,d,tk,os⟩:=s
 wp_walk
 exact h
def Xn {l:P3}{its:S5 G2}{n:G8}{x:P4}{u:Tok}{dd:P9 P3}{sl:S5 (P9 G2)}{P:dQ->G3->Prop}(at_:s.heap.get? l=some {cls:= .type "tuple",dict:=dd,data:= .seq its n,slots:=sl})(fits: -(2^63)<=x/\x<2^63)
 (same:(its.isEmpty||x==1)=true->P (.done (.ret (.ref l))) s)
 (gone:(its.isEmpty||x==1)=false->(decide (x<=0)||its.isEmpty)=true->P (.done (.ret (.ref s.heap.objs.size))) {s with heap:=s.heap.push {cls:= .type "tuple",data:= .seq #[]}})
 (more:(its.isEmpty||x==1)=false->(decide (x<=0)||its.isEmpty)=false-> ¬ (its.size:P4)*x>(2^63-1) / 8/\i9 ((its.size:P4)*x)=false/\((T4 x.toNat its).foldl (· ++ ·) #[]).size<=sizeLine/\
  P (.done (.ret (.ref s.heap.objs.size))) {s with heap:=s.heap.push {cls:= .type "tuple",data:= .seq ((T4 x.toNat its).foldl (· ++ ·) #[])}}):
 D8 (R3 prog w) A (Builtin.«tuple.__mul__» ⟨[.ref l,.int x u],[]⟩) P E s:=by
 obtain⟨hp,g,d,tk,os⟩:=s
 wp_walk
 rw [R9 (by simp only [fB,X4];omega)]
 wp_walk
 cases c1:(its.isEmpty||x==1) with
 |true=>
  rw [R6 rfl]
  wp_walk
  exact same c1
 |false=>
  rw [R9 R5];cases c2:(decide (x<=0)||its.isEmpty) with
  |true=>
   rw [R6 rfl]
   wp_walk
   exact gone c1 c2
  |false=>
   obtain⟨m1,m2,m3,m4⟩:=more c1 c2;rw [R9 R5];dsimp only;rw [R9 m1,m2,R9 R5]
   wp_walk
   exact m4
end
end HT
namespace L2
open PySem PySem.Spec PyProof.Rows
def To (K:G7):R2:=λx y H Q=> ∃ (a:P3) (k:P4) (xs:G0 V),x= .ref a/\y= .int k/\ä K H a xs/\ -(2^63)<=k/\k<2^63/\xs.length*k.toNat<=sizeLine/\
 ((xs= []\/k=1)->Q (.ref a) H)/\(¬ (xs= []\/k=1)-> ∀p,H p=none->Q (.ref p) (upd H p (.tup (T4 k.toNat xs).flatten)))
def ZH {l:G0 G2}:l.toArray= #[]↔l= []:=by cases l<;>simp
def FN {X:Cx}:ā X (Q8 .Mult) (To X.K):=by
 intro À s σ H x y v u Q I rx ry h;obtain⟨a,k,xs,rfl,rfl,hH,h1,h2,hz,q1,q2⟩:=h;cases rx;obtain⟨t,rfl⟩:=ry;obtain⟨its,r,ht,_⟩:=I.tuple hH;obtain⟨⟨cls,dd,data,sl⟩,ho,hc,n,hd⟩:=id ht;simp only at hc hd;subst hc hd;have hl:=r.length;have X0R:(T4 k.toNat its.toArray).foldl (· ++ ·) #[]=(T4 k.toNat its).flatten.toArray:=by
  have:=ZQ its k.toNat [];rw [O6] at this;exact this
 have few:its.length*k.toNat<=sizeLine:=by rw [<-hl];exact hz
 have free:=I.hok.fresh (P2 _);refine kT (T:= "tuple") (U:= "int") (by decide) ⟨_,ho,rfl⟩ (λs'=>mN s' k t) HT.Zz sE iD HT.VT F.slot_int_index.lookup
  (C7 iD (mN s k t) rG (HT.YN ho rfl rfl ⟨_,rfl,rfl,⟨_,ho,rfl⟩,C7 F.slot_tuple_mul ⟨_,ho,rfl⟩ F.entry_tuple_mul (HT.Xn ho ⟨h1,h2⟩ (λc=> ?_) (λc c0=> ?_) (λc c0=> ?_)) (F.args_tuple_mul_2 _ _)⟩) (qI _ _))
 ·refine⟨_,rfl,.ref a,H,I,rfl,q1 ?_⟩;simp only [fB,beq_iff_eq,qK,ZH] at c;exact c.imp (λe=>r.nil_iff.mp e) id
 ·simp only [oB,beq_eq_false_iff_ne,j0,ne_eq,ZH] at c;have k0:k.toNat=0:=by
   simp only [fB,X4,qK,ZH] at c0;have:=c0.resolve_right c.1;omega
  have last:=q2 (λz=>z.elim (λe=>c.1 (r.nil_iff.mpr e)) c.2) _ free;rw [k0] at last;exact⟨_,rfl,.ref s.heap.objs.size,_,I.laid (t':=s.toks) (o:= .tup []) (λb ob q=>G6 _ q) (P2 _) ⟨by decide,[],.nil,ë.new _ _⟩,rfl,last⟩
 ·simp only [oB,beq_eq_false_iff_ne,j0,ne_eq,ZH,decide_eq_false_iff_not] at c c0;have em:((its.toArray.size:G8):P4)*k=((its.length*k.toNat:G8):P4):=by rw [Int.natCast_mul,D7,show ((k.toNat:G8):P4)=k by omega]
  have cap:(sizeLine:G8)<=(2^63-1) / 8:=by decide
  rw [em,X0R];refine⟨by omega,by unfold i9;exact B7 (by omega),by rw [D7,Xh,aT];exact few,_,rfl,.ref s.heap.objs.size,_,I.laid (t':=s.toks) (o:= .tup (T4 k.toNat xs).flatten) (λb ob q=>G6 _ q) (P2 _) ⟨by rw [Xh,aT];exact hz,_,r.rep k.toNat,ë.new _ _⟩,rfl,q2 (λz=>z.elim (λe=>c.1 (r.nil_iff.mpr e)) c.2) _ free⟩
def HG:RD2:=λx y h Q=>match x,y with
 | .tup ds,.int k=> -(2^63)<=k/\k<2^63/\ds.length*k.toNat<=sizeLine/\Q (.tup (T4 k.toNat ds).flatten) h
 |x,y=>HE x y h Q
def zW {X:Cx}:ù X (Q8 .Mult) HG:=(X0x.or FN).imp λx y H Q ⟨dx,dy,h,Qd,rx,ry,rh,q,p⟩=>by
 by_cases ht: ∃ds k,dx= .tup ds/\dy= .int k
 ·obtain⟨ds,k,e1,e2⟩:=ht;subst e1 e2;obtain⟨b1,b2,hz,q⟩:=q;obtain⟨a,vs,e,hH,r⟩:=(show ∃a vs,x= .ref a/\H a=some (.tup vs)/\Á X.K H ds vs from rx);refine .inr ⟨a,k,vs,e,ry,ä.of hH,b1,b2,by rw [<-r.length];exact hz,λhs=> ?_,λ_ c hc=>p (.tup _) _ _ _ (.new hc) (rh.new hc) ⟨c,_,rfl,jt,(r.flat _).mono (.new hc)⟩ q⟩;refine p (.tup _) _ _ _ (.refl H) rh ⟨a,vs,rfl,hH,?_⟩ q;rcases hs with e0|e1
  ·subst e0;have:ds= []:=cF.mp r.length;subst this;simpa using r
  ·subst e1;simpa using r
 ·refine .inl ⟨dx,dy,h,Qd,rx,ry,rh,?_,p⟩;unfold HG at q;split at q
  ·exact absurd ⟨_,_,rfl,rfl⟩ ht
  ·exact q
def Sa:D->HD->KD->Prop:=λx h Q=>match x with
 | .int i=>Q (.int (-i)) h
 |_=>False
def dUn (f:D->HD->KD->Prop)(ta:TED):TED:=λσ h Q=>ta σ h λx h1=>f x h1 Q
def HH {X:Cx}{a:M6}{ta:TED}{pos:Pos}(ha:QE X a ta):QE X (.UnaryOp .USub a pos) (dUn Sa ta):=
 (Su OP ha).imp λσ H Q ⟨Å,h,Qd,rs,rh,t,p⟩=>LE.bind rs rh t λd v h1 H1 k1 ß Ë r1 q=>by
  cases d<;>first
   |exact False.elim q
   |exact⟨_,r1,p (.int _) _ _ _ k1 Ë rfl q⟩
end L2
namespace HT
open PySem PySem.Spec PyProof.Rows
section
variable {prog:S6}{w:B3}{A:N4}{E:G2->G3->Prop}{s:G3}
def GJ (n:G8):Y8 none none (-1) (n:P4)=((n:P4)-1,-1):=rfl
def GK (n:G8):E4 ((n:P4)-1) (-1) (-1)=n:=by
 unfold E4;have h1: ¬ ((-1:P4)>0):=by omega
 simp only [h1,mC,show (- -1:P4)=1 by decide,xI];split<;>omega
def Nq (xs:S5 G2):((D6 xs.size).filterMap λ(k:G8)=>xs[((xs.size:P4)-1+(k:P4)*(-1)).toNat]?).toArray=xs.toList.reverse.toArray:=by
 have e:(λ(k:G8)=>xs[((xs.size:P4)-1+(k:P4)*(-1)).toNat]?)=(λk=>xs[xs.size-1-k]?):=by
  funext k
  have:((xs.size:P4)-1+(k:P4)*(-1)).toNat=xs.size-1-k:=by omega
  rw [this]
 rw [e];have h2:(D6 xs.size).filterMap (λk=>xs[xs.size-1-k]?)=((D6 xs.size).map (λk=>xs.size-1-k)).filterMap (xs[·]?):=by rw [pQ];rfl
 rw [h2,G0y,List.filterMap_reverse,G0L]
def JN {t sl:P3}{items:S5 G2}{u:Tok}{Q:G2->G3->Prop}(ht:xB s.heap t items)(hs:s.heap.IsSliceOf sl .none .none (.int (-1) u))
 (h:Q (.ref s.heap.objs.size) {s with heap:=s.heap.push {cls:= .type "tuple",data:= .seq items.toList.reverse.toArray}})
 (hsz:items.size<=sizeLine):D8 (R3 prog w) A (gY (.ref t) (.ref sl)) Q E s:=by
 have Ę:sizeOk (.seq items.toList.reverse.toArray):=by
  show items.toList.reverse.toArray.size<=sizeLine;rw [D7,B1,P8];exact hsz
 obtain⟨os,δ,hcs,hds⟩:=id hs;have hTs:s.TypeIs (.ref sl) "slice" :=⟨os,δ,hcs⟩;unfold gY
 try with_reducible refine O5 ?_
 first|refine wpAny_bind (G9 ?_)|skip
 refine wpAny_bind (lE ht.typeIs (by decide) ?_);refine wpAny_bind (F5 (name:=W9 "__getitem__") ht.typeIs J4
  (C7 J4 ht.typeIs iH ?_ (i5 _ _)))
 show D8 _ _ (X0 (.ref t) >>= _) _ _ s;refine wpAny_bind (pH ht ?_);refine wpAny_bind (f8 hTs ?_);rw [R6 (by decide)];have ap:D8 (R3 prog w) A.in1 (bE (.ref sl) (pure (items.size:P4))) (λr s'=>r=((items.size:P4)-1,-1,items.size)/\s'=s) (λ_ _=>False) s:=by
  unfold bE kQ;refine wpAny_bind (wpAny_bind (g6 δ hds (x:= .none) rfl (wpAny_bind (g6 δ hds (x:= .none) rfl (wpAny_bind (g6 δ hds (x:= .int (-1) u) rfl (G9 ?_)))))));refine wpAny_bind (uM ?_);show D8 _ _ (if ((-1:P4)==0)=true then _ else _) _ _ s;rw [R9 (by decide)];refine wpAny_bind (i4 (wpAny_bind (i4 (wpAny_bind (G9 ?_)))));show D8 _ _ (match Y8 none none (-1) (items.size:P4) with|(lo,hi)=>pure (lo,(-1:P4),E4 lo hi (-1))) _ _ s;rw [GJ];show D8 _ _ (pure ((items.size:P4)-1,(-1:P4),E4 ((items.size:P4)-1) (-1) (-1))) _ _ s;rw [GK];exact G9 ⟨rfl,rfl⟩
 refine wpAny_bind (T7 ap (λr s' e=> ?_) λ_ _ z=>z.elim);obtain⟨rfl,rfl⟩:=e;have hno: ¬ ((((items.size:P4)-1)==0&&(-1:P4)==1&&items.size==items.size)=true):=by
  rw [show ((-1:P4)==1)=false by decide];simp
 show D8 _ _ (if ((((items.size:P4)-1)==0&&(-1:P4)==1&&items.size==items.size)=true) then _ else _) _ _ s';rw [R9 hno,Nq]
 first
  |exact wpAny_bind (m:=J1 _) (K1 (G9 ⟨_,rfl,G9 h⟩) Ę)
  |exact wpAny_bind (m:=J1 _) (K1 (wpAny_bind (G9 (G9 ⟨_,rfl,G9 h⟩))) Ę)
  |exact wpAny_bind (wpAny_bind (m:=J1 _) (K1 (G9 (G9 ⟨_,rfl,G9 h⟩)) Ę))
  |exact wpAny_bind (wpAny_bind (m:=J1 _) (K1 (G9 ⟨_,rfl,G9 h⟩) Ę))
end
end HT
namespace L2
open PySem PySem.Spec PyProof.Rows
def HI (te:TED):TED:=λσ h Q=>te σ h λx h1=> ∃ds,x= .tup ds/\Q (.tup ds.reverse) h1
theorem Æ.rev: ∀ {xs:G0 V} {us:G0 G2},Æ xs us->Æ xs.reverse us.reverse
 |_,_,.nil=> .nil
 |_,_,.cons r t=>by rw [gC,gC];exact(Æ.rev t).append (.cons r .nil)
variable {K:G7}
theorem Á.rev {H:Hp}: ∀ {ds:G0 D} {vs:G0 V},Á K H ds vs->Á K H ds.reverse vs.reverse
 | [],_,h=>by cases (show _= [] from h);exact .nil
 |d::ds,vs,h=>by
  obtain⟨v,r,e,h1,h2⟩:=(show ∃v r,vs=v::r/\È K H d v/\Á K H ds r from h);subst e;rw [gC,gC];exact(Á.rev h2).append (.cons h1 .nil)
variable {X:Cx}{e:M6}{te:TED}
def KH {pos p2 p3 p4:Pos}{j:G8}(he:QE X e te):QE X (.Subscript e (.Slice none none (some (.UnaryOp .USub (.Constant (.int 1) j p4) p3)) p2) pos) (HI te):=by
 intro À s σ H Q I h;obtain⟨Å,h,Qd,rs,rh,t,p⟩:=h;refine pR (Ó (he À s σ H _ I (LE.bind rs rh t λd v h1 H1 k1 ß Ë r1 q1=>(show ∃Å h1 d,Ð X.K H1 Å σ/\Ç X.K h1 H1/\È X.K H1 d v/\Kept H H1/\ ∃ds,d= .tup ds/\Qd (.tup ds.reverse) h1 from ⟨Å,h1,d,ß,Ë,r1,k1,q1⟩))) λv s1 ⟨x,H1,I1,r1,q1⟩=> ?_);obtain⟨X1D,h1,d,ß,Ë,rd,k1,ds,e1,q1⟩:=q1;subst e1;obtain⟨a,vs,e2,hH,r2⟩:=(show ∃a vs,x= .ref a/\H1 a=some (.tup vs)/\Á X.K H1 ds vs from rd);subst e2;cases r1;refine z6 ?_;rw [pI];refine G9 ?_;refine G9 ?_;rw [uN];have X1E:LE X.K (dUn Sa (dC (.int 1))) σ H1 (λv H'=>v=V.int (-1)/\Ç X.K h1 H'/\Kept H1 H'):=
  ⟨X1D,h1,λd h'=>d= .int (-1)/\h'=h1,ß,Ë,⟨rfl,rfl⟩,λd v h' H' k ħ r' e=>by
   obtain⟨e1,e2⟩:=e;subst e1 e2;exact⟨r',ħ,k⟩⟩
 refine Ó ((HH (Hz (X:=X) (i:=1) (j:=j) (pos:=p4)) (pos:=p3)) À s1 σ H1 _ I1 X1E) λu s2 ⟨y,H2,I2,ry,ey,ô,k2⟩=> ?_
 subst ey;obtain⟨tk,rfl⟩:=ry;have hH2:=k2.tup _ _ hH;have I4:Inv X À σ H2 {s2 with heap:=s2.heap.push {cls:= .type "slice",data:= .fields #[.none,.none,.int (-1) tk]}}:=I2.kept (t':=s2.toks) λb ob q=>G6 _ q
 obtain⟨its,r,ht,hz⟩:=I4.tuple (ä.of hH2);have hlen:its.toArray.size=vs.length:=by rw [D7];exact r.length.symm
 show D8 (R3 X.prog X.w) X.A (lL e (.Slice none none (some (.UnaryOp .USub (.Constant (.int 1) j p4) p3)) p2) (.ref a) (.ref s2.heap.objs.size)) (EP X À σ Q) X.xe {s2 with heap:=s2.heap.push {cls:= .type "slice",data:= .fields #[.none,.none,.int (-1) tk]}};refine z7 (ops:= [.ref a,.ref s2.heap.objs.size]) ht.typeIs PyProof.Rows.slot_tuple_getitem.lookup ?_ (by with_unfolding_all rfl);refine HT.JN ht (Heap.IsSliceOf.new ..) ?_ (by rw [hlen];exact hz);have hf:=I4.hok.fresh (P2 _);refine⟨.ref _,_,I4.laid (t':=s2.toks) (o:= .tup vs.reverse) (λb ob q=>G6 _ q) (P2 _) ⟨by rw [B1];exact hz,_,Æ.rev r,ë.new _ _⟩,rfl,?_⟩;exact p (.tup ds.reverse) _ _ _ (k1.trans (k2.trans (.new hf))) (ô.new hf) ⟨_,_,rfl,jt,((r2.mono k2).rev).mono (.new hf)⟩ q1
def Qx (x:Str)(i:P4):TED:=λ_ h Q=>Q (.dic x i) h
variable {p:P3}
def Nr {H:Hp}{a b:HO}:upd (upd H p a) p b=upd H p b:=by
 funext q;unfold upd;split<;>rfl
variable {x:Str}
def AT {i:P4}{j k:G8}{pos p1 p2:Pos}:QE X (.Dict [some (.Constant (.str x) j p1)] [.Constant (.int i) k p2] pos) (Qx x i):=by
 have h0:PPs X pos [some (.Constant (.str x) j p1)] [.Constant (.int i) k p2] [(tC (.str x),tC (.int i))]:=Nf ο ξ Fc;refine PE.imp (Fd h0 rfl rfl (by simp) (by simp)) ?_;rintro σ H Q ⟨Å,h,Qd,rs,rh,t,p⟩ q hq;show upd H q (.dK []) q=some (.dK [])/\_;refine⟨jt,[((dM x:Ą),V.int i)],rfl,by simp,?_⟩;rw [Nr];exact p (.dic x i) (.ref q) h _ (.new hq) (rh.new hq) ⟨q,rfl,jt⟩ t
noncomputable def Xo:G0 (P9 M6)->G0 M6->P9 (Str×P4)
 | [some (.Constant (.str x) _ _)],[.Constant (.int i) _ _]=>some (x,i)
 |_,_=>none
def AU {ks:G0 (P9 M6)}{vs:G0 M6}{pos:Pos}{i:P4}(h:Xo ks vs=some (x,i):=by rfl):QE X (.Dict ks vs pos) (Qx x i):=by
 unfold Xo at h;split at h
 ·cases h;exact AT
 ·cases h
def AV (K:G7)(tl:TE):TI:=λσ H R=>tl σ H λx H1=> ∃a,x= .ref a/\((∃xs,ê K H1 a xs/\R (Itl K a) H1)\/ ∃xs,ä K H1 a xs/\R (Itt K a) H1)
def AW {tg l:M6}{tl:TE}(hl:PE X l tl):PI X tg l (AV X.K tl):=by
 intro À s σ H R I h;refine Ó (hl À s σ H _ I h) λv s1 ⟨x,H1,I1,r1,q1⟩=> ?_
 obtain⟨a,e,q⟩:=q1;subst e;cases r1;rcases q with ⟨xs,hq,q⟩|⟨xs,hq,q⟩
 ·obtain⟨its,rv,p,hz⟩:=I1.list hq;refine W8 p.isList ?_;refine⟨s1.heap.objs.size,[s1.heap.objs.size],_,_,H1,rfl,I1.kept (t':=s1.toks) λb o e=>G6 _ e,VE a _,⟨_,R0 _ rfl,rfl,rfl⟩,λb hb=> ?_,q⟩;have e:b=s1.heap.objs.size:=by simpa using hb
  subst e;exact I1.fpOk (P2 _) (I1.hok.fresh (P2 _))
 ·obtain⟨its,rv,p,hz⟩:=I1.tuple hq;refine bF (show s1.heap.IsTuple a its.toArray from p) ?_;refine⟨s1.heap.objs.size,[s1.heap.objs.size],_,_,H1,rfl,I1.kept (t':=s1.toks) λb o e=>G6 _ e,Gz a _,⟨_,R0 _ rfl,rfl,rfl⟩,λb hb=> ?_,q⟩;have e:b=s1.heap.objs.size:=by simpa using hb
  subst e;exact I1.fpOk (P2 _) (I1.hok.fresh (P2 _))
def iS (te:TED):TID:=λσ h R=>te σ h λx h1=>match x with
 | .lst a=>R (λh=>h a) h1
 | .tup ds=>R (λ_=>some ds) h1
 | .scr ns=>R (λ_=>some (ns.map D.int)) h1
 |_=>False
variable {a:P3}
def Nt {H:Hp}{ns:G0 P4}(hs:Scr K H a ns):BS K H (λ_=>some (ns.map D.int)) (Itl K a):=λH' h' k rh ds' e i=>by
 cases e;have hs':Scr K H' a ns:=hs.elim (λ⟨o,z⟩=> .inl ⟨o,k.frz _ _ _ z⟩) .inr;refine⟨λd hd=> ?_,λhl=>⟨_,hs'.sq,by simpa using hl⟩⟩;obtain⟨v,e1,e2⟩:=(vh (K:=K) (H:=H') ns).get hd;refine⟨⟨_,v,hs'.sq,e1⟩,λx ŀ ⟨eH,hx⟩=> ?_⟩;subst eH;have:=hx _ hs'.sq;rw [e1] at this;cases this;exact⟨.refl _,rh,e2⟩
def AX: ∀σ H R,LI K (iS te) σ H R->AV K (LE K te) σ H R:=λσ H R ⟨Å,h,Rd,rs,rh,q,p⟩=>
 LE.bind rs rh q λd v h1 H1 k1 ß Ë r1 q1=>by
  cases d<;>first
   |exact False.elim q1
   |skip
  ·rename_i ds;obtain⟨a,vs,e,hv,r⟩:=(show ∃a vs,v= .ref a/\H1 a=some (.tup vs)/\Á K H1 ds vs from r1);exact⟨a,e,.inr ⟨vs,ä.of hv,p _ _ _ _ k1 Ë (Nj hv r) q1⟩⟩
  ·rename_i a;obtain⟨e,vs,hv⟩:=(show v= .ref a/\ ∃vs,H1 a=some (.lst vs) from r1);exact⟨a,e,.inl ⟨vs,ê.of hv,p _ _ _ _ k1 Ë (VP H1 a) q1⟩⟩
  ·rename_i ns;obtain⟨a,e,hS⟩:=(show ∃a,v= .ref a/\Scr K H1 a ns from r1);exact⟨a,e,.inl ⟨_,hS.sq,p _ _ _ _ k1 Ë (Nt hS) q1⟩⟩
def AY {tg:M6}(he:QE X e te):QI X tg e (iS te):=(AW he).imp AX
def BV:TSD:=λ_ _ _=>False
def AZ {st:K9}:QS X st BV:=λ_ _ _ _ _ _ ⟨_,_,_,_,_,z,_⟩=>z.elim
structure Zs (mg:Str->P9 G2):Prop where
 len:mg "len" =none
 max:mg "max" =none
 min:mg "min" =none
 divmod:mg "divmod" =none
 all:mg "all" =none
 any:mg "any" =none
 repr:mg "repr" =none
 sum:mg "sum" =none
 sorted:mg "sorted" =none
 int:mg "int" =none
 tuple:mg "tuple" =none
 list:mg "list" =none
 set:mg "set" =none
 bool:mg "bool" =none
 isinstance:mg "isinstance" =none
 range:mg "range" =none
 zip:mg "zip" =none
 enumerate:mg "enumerate" =none
 reversed:mg "reversed" =none
def ju (P:S6)(w:B3)(K:G7)(mg:Str->P9 G2)(base:L8)(n:G8)(x:Str)(ps:G0 Str)(sp:RDn):Prop:=
 ∃ (g:P3) (gd:C3),Î P w K mg base ì n g gd ps (ó K sp)/\Binds K gd ps []/\cB K (.ref g)=true/\mg x=some (.ref g)
def DE:RDn:=λds h Q=> ∃ns,ds= [.scr ns]/\(∀a,h a=none)/\ns.length<=63/\ ∀h',Q (.bl true) h'
def Bm (mg:Str->P9 G2)(base:L8):Prop:= ∃bm ob,mg "__builtins__" =some (.ref bm)/\bm≠mI/\base.get? bm=some ob/\ob.cls= .type "module" /\ob.dict=some mI/\ob.data= .plain
noncomputable def wD (K:G7):G0 (P3×P3):=LN.filterMap (pJ K)
def X0Y.mem {P:P3}(h:X0Y K P): ∃c,(c,P)∈wD K:=let ⟨x,hx,c,e⟩:=h;⟨c,cI.mpr ⟨x,hx,e⟩⟩
def DF {P:S6}{w:B3}{mg mb:Str->P9 G2}{k:G8}{fa:P3}{fd:C3}{s₁:G3}{vs:G0 G2}{ns:G0 P4}
 (KX:K.In s₁.heap)(hns:s₁.heap.Ns K5 mg)(hb:s₁.heap.Ns mI mb)(hbb: ∀x:Str,x≠ "__name__" ->mb x=V8 x)(X1F:s₁.heap.NoLimit)(hg:s₁.gens= #[])
 (ha:s₁.heap.get? a=some {cls:= .type "list",data:= .seq vs.toArray})(hi:gZ vs ns)(hl:ns.length<=63)(hr:Û k oY)
 (hbm:Bm mg s₁.heap)(F: ∀base:L8,K.In base->base.Ns K5 mg->Bm mg base->Î P w K mg base ì k fa fd [x] (ó K DE))(X01: ∀ (s:G3) (u:G2),tE s fd ⟨[u],[]⟩ [(x,u)])
 (hT: ∀p∈wD K,tU s₁.heap p.1 p.2/\s₁.heap.get? p.2=some (oC #[])/\K.lookup p.2=none):
 bR (R3 P w) oY (.call (.ref fa) ⟨[.ref a],[]⟩) (λr s'=>r= .ok (.ret (.bool true))/\OldK s₁.heap s'.heap/\s'.os=s₁.os/\lD s'.gens) s₁:=by
 have rv:=VM hi;have X1G:=hi.length;have hz:ns.length<=sizeLine:=R1 hl (by decide);have hT': ∀b,b∈(wD K).map (·.2)-> ∃c,tU s₁.heap c b/\s₁.heap.get? b=some (oC #[])/\K.lookup b=none:=λb hb=>by
  obtain⟨p,hp,rfl⟩:=R7.mp hb;exact⟨p.1,hT p hp⟩
 have core: ∀H:Hp,Scr K H a ns->ď P w H s₁.heap->(∀b u,H b=some u->(b=a/\K.lookup a=none/\ ∃o xs,u= .frz o (.lst xs))\/(b∈(wD K).map (·.2)/\u= .tbl #[]))->(∀b,b∈(wD K).map (·.2)->H b=some (.tbl #[]))->
  bR (R3 P w) oY (.call (.ref fa) ⟨[.ref a],[]⟩) (λr s'=>r= .ok (.ret (.bool true))/\OldK s₁.heap s'.heap/\s'.os=s₁.os/\lD s'.gens) s₁:=by
  intro H hS hok hA hTt;have noA: ∀ {b:P3} {o:Obj} {es:S5 dS} {ep:G8},s₁.heap.get? b=some o->o.data= .dict es ep->H b=none:=λ{b o es ep} e d=>by
   cases q:H b with
   |none=>rfl
   |some u=>
    rcases hA b u q with ⟨rfl,_,_⟩|⟨z,_⟩
    ·rw [ha] at e;cases e;have d':Data.seq vs.toArray _=Data.dict es ep:=d;cases d'
    ·obtain⟨c,_,e2,_⟩:=hT' b z;rw [e2] at e;cases e;have d':Data.fields _=Data.dict es ep:=d;cases d'
  have nsK: ∀ {b:P3} {m:Str->P9 G2},s₁.heap.Ns b m->(MR s₁.heap H).Ns b m:=λ{b m} ⟨o,es,ep,e,d,r⟩=>⟨o,es,ep,YC e (noA e d),d,r⟩
  have hKb:K.In (MR s₁.heap H):=λb o e=>YC (KX b o e) (by
   cases q:H b with
   |none=>rfl
   |some u=>
    rcases hA b u q with ⟨rfl,z,_⟩|⟨z,_⟩
    ·rw [z] at e;cases e
    ·obtain⟨c,_,_,z2⟩:=hT' b z;rw [z2] at e;cases e)
  have hM:Mod K mg (MR s₁.heap H):=⟨hKb,nsK hns,⟨mb,nsK hb,hbb⟩,let ⟨mc,h1,h2⟩:=X1F;⟨mc,nsK h1,h2⟩⟩;have e0:X0F P w K mg (MR s₁.heap H) oY [] s₁ H:=⟨rfl,hM,λb o e=>CC e,U6 (PH _ _),trivial,λb hb=>absurd (show b∈([]:G0 P3) from hb) (by simp),hok,.of_eq hg⟩;have hsp:ó K DE [.ref a] H (λv _=>v= .bl true) (λ_ _ _=>False):=by
   refine⟨[.scr ns],⟨λ_=>none,λ_=>none⟩,λd _=>d= .bl true,⟨.ref a,[],rfl,⟨a,rfl,hS⟩,rfl⟩,⟨λb ds e=>(by cases e),λp hp=> ?_,λb c e=>(by cases e)⟩,⟨ns,rfl,λ_=>rfl,hl,λ_=>rfl⟩,?_⟩
   ·obtain⟨c,hc⟩:=hp.mem;exact⟨#[],hTt p (J6 (f:=(·.2)) hc),trivial,λpos cv e=>(by cases e)⟩
   ·intro d v h' H' _ _ r e;subst e;exact r
  have hBm:Bm mg (MR s₁.heap H):=by
   obtain⟨bm,ob,b1,b2,b3,b4,r⟩:=hbm;refine⟨bm,ob,b1,b2,YC b3 ?_,b4,r⟩;cases q:H bm with
   |none=>rfl
   |some u=>
    rcases hA bm u q with ⟨rfl,_,_⟩|⟨z,_⟩
    ·rw [ha] at b3;cases b3;exact absurd (Value.type.inj b4) (by decide)
    ·obtain⟨c,_,e2,_⟩:=hT' bm z;rw [e2] at b3;cases b3;cases b4
  refine iJ ((F _ hKb (nsK hns) hBm).run oY [] s₁ H ⟨[.ref a],[]⟩ [.ref a] [.ref a] _ _ hr e0 (X01 s₁ (.ref a)) (.cons rfl .nil) hsp) λr s' h=> ?_
  cases r with
  |error e=>exact False.elim h
  |ok fl=>
   cases fl with
   |next=>exact False.elim h
   |brk=>exact False.elim h
   |cont=>exact False.elim h
   |ret u=>
    obtain⟨v,H',os,bare,un,X1i,r',q⟩:=h;have q':v= .bl true:=q;subst q';obtain rfl:u=iR true:=r';have one: ∀b o,s₁.heap.get? b=some o->s'.heap.get? b=some o\/(b∈(wD K).map (·.2)/\ ∃more,s'.heap.get? b=some (oC more)):=λb o e=>by
     cases q:H b with
     |none=>exact .inl (un.keep b o e q (by intro z;exact absurd (show b∈([]:G0 P3) from z) (by simp)) (by simp))
     |some u=>
      rcases hA b u q with ⟨rfl,_,ob,xs,rfl⟩|⟨z,rfl⟩
      ·have z2:=un.frzs _ ob _ q;obtain⟨e1,_⟩:=hok _ _ q;obtain⟨e2,_⟩:=X1i _ _ z2;rw [e] at e1;cases e1;exact .inl e2
      ·obtain⟨more,z2⟩:=un.tbls b _ q;exact .inr ⟨z,_,(show s'.heap.get? b=some _ from X1i b _ z2)⟩
    refine⟨rfl,⟨λb o e=> ?_,λb o e=> ?_⟩,os,bare⟩
    ·rcases one b o e with z|⟨z,more,z2⟩
     ·exact .inl z
     ·obtain⟨c,hc,e2,_⟩:=hT' b z;rw [e] at e2;cases e2;refine .inr (.inl ⟨(hc.tab e).isCodeTable,rfl,#[],more,rfl,?_⟩);rw [z2];simp
    ·rcases one b o e with z|⟨z,more,z2⟩
     ·exact⟨_,z⟩
     ·exact⟨_,z2⟩
 have nT:a ∉ (wD K).map (·.2):=λz=>by
  obtain⟨c,_,e2,_⟩:=hT' a z;rw [ha] at e2;cases e2
 have okT: ∀ {H:Hp} (b:P3),b∈(wD K).map (·.2)->Ñ P w H s₁.heap b (.tbl #[]):=λb hb=>let ⟨_,_,e,_⟩:=hT' b hb;e
 cases hk:K.lookup a with
 |some o=>
  have e:=KX a o hk;rw [ha] at e;cases e;refine core (λb=>if b∈(wD K).map (·.2) then some (.tbl #[]) else none) (.inr ⟨_,vs.toArray,_,hk,rfl,rfl,rfl,by rw [D7,X1G];exact hz,by simpa using rv⟩) (λb u z=> ?_) (λb u z=> ?_) λb hb=>R6 hb
  ·by_cases hb:b∈(wD K).map (·.2)
   ·have z':=(R6 hb).symm.trans z;cases z';exact okT b hb
   ·have z':=(R9 hb).symm.trans z;cases z'
  ·by_cases hb:b∈(wD K).map (·.2)
   ·have z':=(R6 hb).symm.trans z;cases z';exact .inr ⟨hb,rfl⟩
   ·have z':=(R9 hb).symm.trans z;cases z'
 |none=>
  refine core (λb=>if b=a then some (.frz {cls:= .type "list",data:= .seq vs.toArray} (.lst (ns.map V.int))) else if b∈(wD K).map (·.2) then some (.tbl #[]) else none) (.inl ⟨{cls:= .type "list",data:= .seq vs.toArray},R6 rfl⟩) (λb u z=> ?_) (λb u z=> ?_) λb hb=> ?_
  ·by_cases hb:b=a
   ·have z':=(R6 hb).symm.trans z;cases z';subst hb;exact⟨ha,by rw [G1];exact hz,vs,_,rv,ha⟩
   ·have z':=(R9 hb).symm.trans z
    by_cases hb2:b∈(wD K).map (·.2)
    ·have z2:=(R6 hb2).symm.trans z';cases z2;exact okT b hb2
    ·have z2:=(R9 hb2).symm.trans z';cases z2
  ·by_cases hb:b=a
   ·have z':=(R6 hb).symm.trans z;cases z';exact .inl ⟨hb,hk,_,_,rfl⟩
   ·have z':=(R9 hb).symm.trans z
    by_cases hb2:b∈(wD K).map (·.2)
    ·have z2:=(R6 hb2).symm.trans z';cases z2;exact .inr ⟨hb2,rfl⟩
    ·have z2:=(R9 hb2).symm.trans z';cases z2
  ·have:b≠a:=λz=>nT (z ▸ hb)
   show (if b=a then _ else _)=_;rw [R9 this,R6 hb]
noncomputable def Tp (q:S6)(K:G7):N0:=LN.all λx=>match pJ K x with
 |some p=>(K.lookup p.2).isNone&&((IS q).find? (λe=>e.name==x)).isSome
 |none=>true
def Nu {l:sH}{k:G8}{q:S6}{loose:G0 Str}{XP:(Str->P9 G2)->L8->Prop}{YP:B3->L8->Prop}{d:DefRec}{K:G0R->G7}(hn:l.most=some 63)(hdf:d.params.defaults= [])(hr:Û k oY)
 (hY: ∀ (w:B3) (h:L8),YP w h->(K w.params).In h)(hB: ∀w:B3,Tp q (K w.params)=true)
 (F: ∀ (w:B3) (mg:Str->P9 G2) (fa:P3) (h:L8),(K w.params).In h->h.Ns K5 mg->mg d.name=some (.ref fa)->
  ∃fd:C3,(∀ (s:G3) (u:G2),tE s fd ⟨[u],[]⟩ [(x,u)])/\ ∀base:L8,(K w.params).In base->base.Ns K5 mg->Bm mg base->Î l.prog w (K w.params) mg base ì k fa fd [x] (ó (K w.params) DE)):
 G03 q loose XP YP l.row.toRowW d [] (λf vs=>G0g f vs):=by
 refine Att.attach_call hn hdf λw s₀ s₁ mg mb fa o pm cd doc a vs ns G Y ho hd hcd hmg X0T hints hlen hg=> ?_
 have KX:=hY w _ Y;obtain⟨fd,hb,hF⟩:=F w mg fa _ KX G.T.g hmg;refine DF KX G.T.g G.T.b G.T.builtins G.T.nolimit hg X0T hints hlen hr G.T.bmain hF hb λp hp=> ?_
 obtain⟨x,hx,e⟩:=cI.mp hp;have z:=B0.mp (hB w) x hx;rw [e] at z;simp only [N9,kU] at z;obtain⟨dd,hdd⟩:=lK.mp z.2;have t:=G0S (c:=p.1) (P:=p.2) G.T KX hdd e;exact⟨t.1,t.2,z.1⟩
noncomputable def zt:M6->N0
 | .Starred .. =>false
 |_=>true
def Xp {es:G0 M6}{env:Env}(h:zt e=true):R8 (e::es) env=(false,J3 e env)::R8 es env:=by
 cases e<;>first|rfl|cases h
def qac {es:G0 M6}{t:TAD}(ha:QE X e te)(hr:QA X es t)(h:zt e=true:=by rfl):QA X (e::es) (zj te t):=Fp ha hr (Xp h)
def yM {α:Type}{xs:G0 α}{i:P4}(h0:0<=i)(h1:i<xs.length): ∃x∈xs,Ģ xs i=some x:=by
 have hk:i.toNat<xs.length:=by omega
 have ek:i=((i.toNat:G8):P4):=by omega
 have z:=wJ (G5 hk);rw [<-ek] at z;exact⟨xs[i.toNat],N6 hk,z⟩
variable {h h':HD}{L:G0 D}
def Sub.both (s:Sub h h'):Sub (zm h p L) (zm h' p L):=⟨λa ds e=>(by
 by_cases q:a=p
 ·subst q;rw [jc] at e ⊢;exact e
 ·rw [wm q] at e ⊢;exact s a ds e),s.dc⟩
def Sub.newAt (s:Sub h h')(e:h' p=none):Sub h (zm h' p L):=s.trans (.new e)
structure Ø (p:P3)(h h':HD):Prop where
 ls: ∀a ds,a≠p->h a=some ds->h' a=some ds
 dc: ∀a c,h.dc a=some c->h'.dc a=some c
instance {p:P3}{h h':HD}:CoeFun (Ø p h h') λ_=> ∀a ds,a≠p->h a=some ds->h' a=some ds:=⟨Ø.ls⟩
def Ø.refl (p:P3)(h:HD):Ø p h h:=⟨λ_ _ _ e=>e,λ_ _ e=>e⟩
def Ø.trans {a b c:HD}(x:Ø p a b)(y:Ø p b c):Ø p a c:=⟨λd ds n e=>y d ds n (x d ds n e),λd ds e=>y.dc d ds (x.dc d ds e)⟩
variable {q:P3}
def Ø.new (s:Ø p h h')(e:h' q=none):Ø p h (zm h' q L):=⟨λa ds n z=>(by
 have:=s a ds n z;rw [wm (λw=>by subst w;rw [e] at this;cases this)];exact this),s.dc⟩
def Ø.put (s:Ø p h h'):Ø p h (zm h' p L):=⟨λa ds n z=>(by rw [wm n];exact s a ds n z),s.dc⟩
def Ø.putNew (s:Ø p h h')(e:h q=none):Ø p h (zm h' q L):=⟨λa ds n z=>(by
 rw [wm (λw=>by subst w;rw [e] at z;cases z)];exact s a ds n z),s.dc⟩
def Ø.sub (s:Ø p h h')(e:h' p=some L):Sub (zm h p L) h':=⟨λa ds z=>(by
 by_cases q:a=p
 ·subst q;rw [jc] at z;cases z;exact e
 ·rw [wm q] at z;exact s a ds q z),s.dc⟩
def Ø.upd:Ø p h (zm h p L):=⟨λa ds n z=>(by rw [wm n];exact z),λ_ _ e=>e⟩
def jl (e:h p=some L)(f:h q=none):q≠p:=λz=>by subst z;rw [e] at f;cases f
def jd {M:G0 D}(e:h p=some L)(f:h q=none):zm h q M p=some L:=by rw [wm (λz=>by subst z;rw [e] at f;cases f)];exact e
def FO {b:P3}(e:zm h a L b=none):b≠a:=λz=>by subst z;rw [jc] at e;cases e
def jf {b:P3}{M:G0 D}(n:b≠a)(e:h b=some M):zm h a L b=some M:=by rw [wm n];exact e
def VU {n:G8}{i:G8}{d:D}(h:((D6 n).map λ(k:G8)=>D.int (k:P4))[i]? =some d):i<n/\d= .int i:=by
 rw [P7] at h
 by_cases hi:i<n
 ·rw [Y3 hi] at h;cases h;exact⟨hi,rfl⟩
 ·rw [A2 (by simpa using hi)] at h;cases h
variable {E:EndsD}{σ:SD}
def jg {t u:TSD}(V:SD->HD->Prop)(first: ∀K:SD->HD->Prop,(∀Â h',V Â h'->K Â h')->t {E with nx:=K} σ h)(rest: ∀Â h',V Â h'->u E Â h'):yc t u E σ h:=first (u E) rest
def ZW (b:Ø p h h')(e:h' q=none)(n:q≠p):h q=none:=by
 cases z:h q with
 |none=>rfl
 |some ds=>rw [b q ds n z] at e;cases e
noncomputable def Nxt (E:EndsD)(V:SD->HD->Prop):EndsD:= {E with nx:=λĐ h3=> ∃h4,Sub h4 h3/\V Đ h4,ct:=λĐ h3=> ∃h4,Sub h4 h3/\V Đ h4,bk:=E.nx}
variable {h1:HD}
def ZX {ta:TAD}{g:TGD}{tb:TSD}(n:G8)(W:G8->SD->HD->Prop)(hn:n<1000000)
 (ht: ∀R:G0 D->HD->Prop,R [.int (n:P4)] h1->ta σ h R)(w0:W 0 σ h1)(done: ∀Â h',W n Â h'->E.nx Â h')
 (turn: ∀i Â h',i<n->W i Â h'->g (.int (i:P4)) Â h' λã h2=>tb (Nxt E λĐ h4=>i+1<=n/\W (i+1) Đ h4) ã h2):AA (iR1 ta) g tb E σ h:=by
 refine ht _ ⟨(n:P4),rfl,by omega,by omega,n,λi Â h'=>i<=n/\W i Â h',⟨N7 _,w0⟩,?_⟩;rintro i Â h' ⟨hi,w⟩;refine⟨_,rfl,by simp,λhl=> ?_,λd hd=> ?_⟩
 ·have:i=n:=by simp at hl;omega
  subst this;exact done _ _ w
 ·obtain⟨hi',e⟩:=VU hd;have hi2:i<n:=by omega
  subst e;exact turn i Â h' hi2 w
def wE {ti:TID}{g:TGD}{tb:TSD}{j:ItD}(ds:G0 D)(W:G8->SD->HD->Prop)
 (ht: ∀R:ItD->HD->Prop,R j h1->ti σ h R)(hj: ∀i Â h',W i Â h'->j h'=some ds)(w0:W 0 σ h1)(done: ∀Â h',W ds.length Â h'->E.nx Â h')
 (turn: ∀i d Â h',ds[i]? =some d->W i Â h'->g d Â h' λã h2=>tb (Nxt E λĐ h4=>i+1<=ds.length/\W (i+1) Đ h4) ã h2):AA ti g tb E σ h:=by
 refine ht _ ⟨ds.length,λi Â h'=>i<=ds.length/\W i Â h',⟨N7 _,w0⟩,?_⟩;rintro i Â h' ⟨hi,w⟩;refine⟨ds,hj i Â h' w,P2 _,λhl=> ?_,λd hd=>turn i d Â h' hd w⟩;have:i=ds.length:=by omega
 subst this;exact done _ _ w
def VW {g:TGD}{tb:TSD}{j:ItD}(ds:G0 D)(W:G8->SD->HD->Prop)
 (hj: ∀i Â h',W i Â h'->j h'=some ds)(w0:W 0 σ h1)(done: ∀Â h',W ds.length Â h'->E.nx Â h')
 (turn: ∀i d Â h',ds[i]? =some d->W i Â h'->g d Â h' λã h2=>tb (Nxt E λĐ h4=>i+1<=ds.length/\W (i+1) Đ h4) ã h2):
 ∃ (n:G8) (W:G8->SD->HD->Prop),W 0 σ h1/\ ∀i Â h',W i Â h'-> ∃ds,j h'=some ds/\ds.length<=n/\(ds.length<=i->E.nx Â h')/\
  ∀d,ds[i]? =some d->g d Â h' λã h2=>tb {E with nx:=λĐ h3=> ∃h4,Sub h4 h3/\W (i+1) Đ h4,ct:=λĐ h3=> ∃h4,Sub h4 h3/\W (i+1) Đ h4,bk:=E.nx} ã h2:=by
 refine⟨ds.length,λi Â h'=>i<=ds.length/\W i Â h',⟨N7 _,w0⟩,?_⟩;rintro i Â h' ⟨hi,w⟩;refine⟨ds,hj i Â h' w,P2 _,λhl=> ?_,λd hd=>turn i d Â h' hd w⟩;have:i=ds.length:=by omega
 subst this;exact done _ _ w
def VX {i:G8}{js:G0 G8}{ta:TAD}{Q:KD}(n:G8)(W:G8->G0 D->HD->Prop)(hn:n<=1000)(ht: ∀R:G0 D->HD->Prop,R [.int (n:P4)] h1->ta σ h R)
 (w0:W 0 [] h1)(wl: ∀k ys h',W k ys h'->ys.length=k)(turn: ∀k ys h',k<n->W k ys h'->te ((jM js σ).set i (some (.int (k:P4)))) h' λy h4=> ∃h5,Sub h5 h4/\(k+1<=n/\W (k+1) (ys++ [y]) h5))
 (done: ∀ys h',W n ys h'-> ∀p,h' p=none->Q (.lst p) (zm h' p ys)):vw (bN i) js (iR1 ta) vj te σ h Q:=by
 refine ht _ ⟨(n:P4),rfl,by omega,by omega,n,λk ys h'=>k<=n/\W k ys h',⟨N7 _,w0⟩,?_⟩;rintro k ys h' ⟨hk,w⟩;refine⟨by rw [wl k ys h' w];exact T8 (jV (by omega)),_,rfl,by simp,λhl p hp=> ?_,λd hd=>⟨_,rfl,?_⟩⟩
 ·have:k=n:=by simp at hl;omega
  subst this;exact done ys h' w p hp
 ·obtain⟨hi',e⟩:=VU hd;subst e;unfold vj;dsimp only;rw [R6 rfl];exact turn k ys h' (by omega) w
end L2
namespace L2
open PySem PySem.Spec PyProof.Rows PySem.SeqAt
mutual
def Ĩ (h:HD):D->W6->Prop
 |d,.none=>d= .non
 |d,.bool b=>d= .bl b
 |d,.int i=>d= .int i
 |d,.str x=>d= .str x
 |d,.tuple ps=> ∃ds,d= .tup ds/\Ć h ds ps
 |d,.list ps=> ∃a ds,d= .lst a/\h a=some ds/\Ć h ds ps
 |_,.dict _=>False
def Ć (h:HD):G0 D->G0 W6->Prop
 |ds,[]=>ds= []
 |ds,p::ps=> ∃d r,ds=d::r/\Ĩ h d p/\Ć h r ps
end
section
variable {X:Cx}{À:G0 (P3×Obj)}{σ:St}{H:Hp}{s:G3}{h:HD}
mutual
theorem zF (I:Inv X À σ H s)(rh:Ç X.K h H): ∀ {p:W6} {d:D} {v:V} {u:G2},Ĩ h d p->È X.K H d v->RelV v u-> ∃as,Reads s.heap u p as
 | .none,d,v,u,t,r,ru=>by cases (show d= .non from t);cases (show v= .non from r);cases (show u= .none from ru);exact⟨[],.none⟩
 | .bool b,d,v,u,t,r,ru=>by cases (show d= .bl b from t);cases (show v= .bl b from r);cases (show u= .bool b from ru);exact⟨[],.bool b⟩
 | .int i,d,v,u,t,r,ru=>by cases (show d= .int i from t);cases (show v= .int i from r);obtain⟨k,rfl⟩:=(show ∃t,u=gQ i t from ru);exact⟨[],.int i k⟩
 | .str x,d,v,u,t,r,ru=>by cases (show d= .str x from t);cases (show v= .str x from r);obtain⟨k,rfl⟩:=(show ∃t,u=l8 x t from ru);exact⟨[],.str x k⟩
 | .tuple ps,d,v,u,t,r,ru=>by
  obtain⟨ds,e,ts⟩:=(show ∃ds,d= .tup ds/\Ć h ds ps from t);subst e;obtain⟨a,vs,e,hH,rs⟩:=(show ∃a vs,v= .ref a/\H a=some (.tup vs)/\Á X.K H ds vs from r);subst e;cases (show u= .ref a from ru);obtain⟨its,rv,ht,_⟩:=I.tuple (ä.of hH);obtain⟨o,ho,hc,n,hd⟩:=ht;obtain⟨as,q⟩:=ķ I rh ts rs rv;exact⟨as,.tuple ho hc hd q⟩
 | .list ps,d,v,u,t,r,ru=>by
  obtain⟨a,ds,e,ha,ts⟩:=(show ∃a ds,d= .lst a/\h a=some ds/\Ć h ds ps from t);subst e;obtain⟨vs,hH,rs⟩:=rh a ds ha;have e:v= .ref a:=r.1;subst e;cases (show u= .ref a from ru);obtain⟨its,rv,pl,_⟩:=I.list (ê.of hH);obtain⟨o,ho,hc,n,hd⟩:=pl.isList;obtain⟨as,q⟩:=ķ I rh ts rs rv;exact⟨a::as,.list ho hc hd q⟩
 | .dict _,_,_,_,t,_,_=>(show False from t).elim
theorem ķ (I:Inv X À σ H s)(rh:Ç X.K h H): ∀ {ps:G0 W6} {ds:G0 D} {vs:G0 V} {us:G0 G2},Ć h ds ps->Á X.K H ds vs->Æ vs us-> ∃as,ReadsAll s.heap us ps as
 | [],ds,vs,us,t,r,rv=>by
  cases (show ds= [] from t);cases (show vs= [] from r);cases rv;exact⟨[],.nil⟩
 |p::ps,ds,vs,us,t,r,rv=>by
  obtain⟨d,dr,e,t1,t2⟩:=(show ∃d r,ds=d::r/\Ĩ h d p/\Ć h r ps from t);subst e;obtain⟨v,vr,e,r1,r2⟩:=(show ∃v r,vs=v::r/\È X.K H d v/\Á X.K H dr r from r);subst e;cases rv with
  |cons ru rt=>
   obtain⟨as,q1⟩:=zF I rh t1 r1 ru;obtain⟨bs,q2⟩:=ķ I rh t2 r2 rt;exact⟨as++bs,.cons q1 q2⟩
end
end
def eqE:RD2:=λx y h Q=>match x,y with
 | .int i,.int j=>Q (.bl (decide (i=j))) h
 | .bl i,.bl j=>Q (.bl (decide (i=j))) h
 | .str i,.str j=>Q (.bl (decide (i=j))) h
 |x,y=> ∃p q,Ĩ h x p/\Ĩ h y q/\shaped p=true/\shaped q=true/\Q (.bl (Q0 p q)) h
def neE:RD2:=λx y h Q=>match x,y with
 | .int i,.int j=>Q (.bl (!decide (i=j))) h
 | .bl i,.bl j=>Q (.bl (!decide (i=j))) h
 | .str i,.str j=>Q (.bl (!decide (i=j))) h
 |x,y=> ∃p q,Ĩ h x p/\Ĩ h y q/\shaped p=true/\shaped q=true/\Q (.bl (!Q0 p q)) h
section
variable {X:Cx}
def eqG:RD2:=λx y h Q=> ∃p q,Ĩ h x p/\Ĩ h y q/\shaped p=true/\shaped q=true/\Q (.bl (Q0 p q)) h
def neG:RD2:=λx y h Q=> ∃p q,Ĩ h x p/\Ĩ h y q/\shaped p=true/\shaped q=true/\Q (.bl (!Q0 p q)) h
def Ea (hu:X.A.units+64<cLine):ù X (H0 .Eq) eqG:=by
 intro À s σ H x y v u Q I rx ry h;obtain⟨dx,dy,h,Qd,r1,r2,rh,⟨p,q,t1,t2,s1,s2,qq⟩,post⟩:=h;obtain⟨as,a1⟩:=zF I rh t1 r1 rx;obtain⟨bs,b1⟩:=zF I rh t2 r2 ry;exact compareEq_shaped a1 b1 s1 s2 hu ⟨.bl _,H,I,rfl,post (.bl _) _ _ _ (.refl H) rh rfl qq⟩
def Eb (hu:X.A.units+64<cLine):ù X (H0 .NotEq) neG:=by
 intro À s σ H x y v u Q I rx ry h;obtain⟨dx,dy,h,Qd,r1,r2,rh,⟨p,q,t1,t2,s1,s2,qq⟩,post⟩:=h;obtain⟨as,a1⟩:=zF I rh t1 r1 rx;obtain⟨bs,b1⟩:=zF I rh t2 r2 ry;exact compareNe_shaped a1 b1 s1 s2 hu ⟨.bl _,H,I,rfl,post (.bl _) _ _ _ (.refl H) rh rfl qq⟩
def ù.or' {f:G2->G2->Sem G2}{r r' r2:RD2}(h:ù X f r)(h':ù X f r')(i: ∀x y hh Q,r2 x y hh Q->r x y hh Q\/r' x y hh Q):ù X f r2:=λÀ s σ H x y v u Q I rx ry ⟨dx,dy,hd,Qd,r1,r2',rh,q,p⟩=>
 (i dx dy hd Qd q).elim (λz=>h À s σ H x y v u Q I rx ry ⟨dx,dy,hd,Qd,r1,r2',rh,z,p⟩) λz=>h' À s σ H x y v u Q I rx ry ⟨dx,dy,hd,Qd,r1,r2',rh,z,p⟩
def Qy (hu:X.A.units+64<cLine):ù X (H0 .Eq) eqE:=ú.or' (Ea hu) λx y h Q q=>by
 unfold eqE at q;split at q
 ·exact .inl q
 ·exact .inl q
 ·exact .inl q
 ·exact .inr q
def Qz (hu:X.A.units+64<cLine):ù X (H0 .NotEq) neE:=Ķ.or' (Eb hu) λx y h Q q=>by
 unfold neE at q;split at q
 ·exact .inl q
 ·exact .inl q
 ·exact .inl q
 ·exact .inr q
end
end L2
namespace HT
open PySem PySem.Spec PyProof.Rows
section
variable {prog:S6}{w:B3}{A:N4}{E:G2->G3->Prop}{s:G3}
def DG (k:P4){vs:G0 G2}{ns:G0 P4}(hi:gZ vs ns)(j:G8)(h:j<ns.length): ∃t,vs[j]? =some (.int ns[j] t):=by
 induction hi generalizing j with
 |nil=>simp at h
 |cons n t r ih=>
  cases j with
  |zero=>exact⟨t,rfl⟩
  |succ j=>obtain⟨u,e⟩:=ih j (by simpa using h);exact⟨u,by simpa using e⟩
end
end HT
namespace L2
open PySem PySem.Spec PyProof.Rows
theorem ZY: ∀ {ns:G0 P4} {us:G0 G2},Æ (ns.map V.int) us->gZ us ns
 | [],_,r=>by cases r;exact .nil
 |n::ns,_,r=>by
  cases r with
  |cons r t=>obtain⟨k,rfl⟩:=r;exact .cons n k (ZY t)
theorem zG {K:G7}{H:Hp}: ∀ {ns:G0 P4} {vs:G0 V},Á K H (ns.map D.int) vs->vs=ns.map V.int
 | [],_,h=>h
 |n::ns,vs,h=>by
  obtain⟨v,r,e,h1,h2⟩:=(show ∃v r,vs=v::r/\È K H (.int n) v/\Á K H (ns.map D.int) r from h);rw [e,zG h2,(show v= .int n from h1)];rfl
theorem Yk (ns:G0 P4): ∀k,k<=ns.length->G0j (λi=>ns.getD i 0) k=(ns.take k).sum
 |0,_=>by simp [G0j]
 |k+1,h=>by
  have hk:k<ns.length:=by omega
  rw [G0j,Yk ns k (by omega),L6,G5 hk,sI,R4,G5 hk];simp
variable {X:Cx}
def YO (hc:X.calm=true):Ú X (.builtin "sum") (λxs H Q=> ∃ (a:P3) (ns:G0 P4),xs= [.ref a]/\ê X.K H a (ns.map V.int)/\Q (.int ns.sum) H):=by
 intro À s σ H xs us Q I r h;obtain⟨a,ns,rfl,hS,q⟩:=h;obtain⟨u,rfl,ru⟩:=vH r;cases ru;obtain⟨its,rv,pl,hz⟩:=I.list hS;have hl:=pl.isList;have hlt:a<s.heap.objs.size:=by obtain⟨_,e,_⟩:=hl;exact D0 e
 have hi:=ZY rv;have hn:its.length=ns.length:=hi.length;refine call_sum_walkAnyS (W8 hl ?_);refine⟨s.heap.objs.size,_,_,_,_,_,_,λi=>ns.getD i 0,rfl,(i7 (A:=X.A.in1) (show X.A.in1.handled=none from I.ok.hd hc) s.heap.objs.size a (S8 hlt) its.toArray).toS,⟨⟨_,R0 _ rfl,rfl,rfl⟩,hl.push _⟩,?_,?_,λs' t' hm=> ?_⟩
 ·intro b hb;simp only [S0,C5,or_false] at hb;show b<(s.heap.push _).objs.size;rw [cE];rcases hb with e|e
  ·rw [e];exact E5 _
  ·rw [e];exact cX hlt
 ·intro i v hP;have e:its[i]? =some v:=by simpa using hP
  have Œ:i<ns.length:=by rw [<-hn];exact(P5.mp e).1
  obtain⟨t,e2⟩:=HT.DG 0 hi i Œ;rw [e] at e2;cases e2;refine⟨t,?_⟩;show gQ ns[i] t=gQ (ns.getD i 0) t;rw [R4,G5 Œ];rfl
 ·have e:G0j (λi=>ns.getD i 0) its.toArray.size=ns.sum:=by
   rw [D7,hn,Yk ns _ (P2 _),K0]
  rw [e];obtain⟨h',g',d',tk',o'⟩:=s';obtain⟨m1,m2,m3,m4,_⟩:=hm;simp only at m1 m2 m3 m4;subst m2 m3 m4;refine⟨.int ns.sum,H,I.kept (t':=tk') (λb o e=>m1 b o (λz=> ?_) (G6 _ e)),⟨_,rfl⟩,q⟩;rw [P0.mp z] at e;exact absurd (D0 e) (C1 _)
def Tq:RDn:=λds h Q=> ∃ (a:P3) (ns:G0 P4),ds= [.lst a]/\h a=some (ns.map D.int)/\Q (.int ns.sum) (YG h a)
def DH (hc:X.calm=true):yh X (.builtin "sum") Tq:=(YO hc).imp λxs H Q ⟨ds,h,Qd,r,rh,⟨a,ns,e,hd,q⟩,p⟩=>by
 subst e;obtain⟨v,e,r1⟩:=jA r;obtain⟨vs,hH,r2⟩:=rh a _ hd;have e1:v= .ref a:=r1.1;rw [zG r2] at hH;subst e e1;exact⟨a,ns,rfl,ê.of hH,p (.int _) _ _ _ (.refl H) (rh.sub (Sub.drop h a)) rfl q⟩
def HJ (to ti te:TED):TED:=λσ h Q=>to σ h λx h1=> ∃a,x= .lst a/\ti σ h1 λi h2=>te σ h2 λy h3=> ∃ (k:G8) (xs:G0 D),i= .int (k:P4)/\k<=1000/\h3 a=some xs/\xs.length<sizeLine/\Q .non (zm h3 a (xs.take k++y::xs.drop k))
def DI:MtM X "list.insert" (λx vs H Q=> ∃ (l:P3) (xs:G0 V) (k:G8) (y:V),x= .ref l/\vs= [.int (k:P4),y]/\H l=some (.lst xs)/\k<=1000/\xs.length<sizeLine/\Q .non (upd H l (.lst (xs.take k++y::xs.drop k)))):=by
 intro À s σ H x vs v us Q I rx rv h;obtain⟨l,xs,k,y,rfl,rfl,hH,hk,hz,q⟩:=h;cases rx;obtain⟨u,w',rfl,⟨t,rfl⟩,ry⟩:=MY rv;obtain⟨z,its,n,r,hl,e⟩:=I.lstM hH;have X0G: ¬ (!i6 (k:P4))=true:=by rw [tR (by omega) (by omega)];exact R5
 have hsz:its.toArray.size<=sizeLine:=by rw [D7];omega
 generalize har:its.toArray=ar at e hsz;obtain⟨kk,hkk⟩: ∃kk:P4,kk=(k:P4):=⟨_,rfl⟩;rw [<-hkk] at X0G ⊢;refine mO F.slot_list_insert ⟨_,e,rfl⟩ F.entry_list_insert (F.args_list_insert_3 _ _ _) (AutoListH.list_insert_list_int_val_1 l ar n kk t w' X0G hsz) ⟨e,?_⟩;subst har hkk;refine⟨.non,_,I.lset (its':=its.take k++w'::its.drop k) hH e ?_ ((r.take k).append (.cons ry (r.drop k))) ?_,rfl,q⟩
 ·have hk0: ¬ ((k:P4)<0):=by omega
  simp only [hk0,mC,K2,D7];have e1:its.take (min k its.length)=its.take k:=by
   by_cases hh:k<=its.length
   ·rw [W0 hh]
   ·rw [rK (by omega),K0,T5 (by omega)]
  have e2:its.drop (min k its.length)=its.drop k:=by
   by_cases hh:k<=its.length
   ·rw [W0 hh]
   ·rw [rK (by omega),List.drop_length,List.drop_of_length_le (by omega)]
  have e3:(its.drop k).take (its.length-min k its.length)=its.drop k:=T5 (by rw [C0];omega);apply Array.ext';simp only [O7,V2,List.extract_toArray,U7,j5,qL];rw [e1,e2,e3,D5];rfl
 ·rw [P1,D2,T3,C0];omega
section
variable {X:Cx}{o e i:M6}{to te ti:TED}{apos Ò:Pos}
def KI (ho:QE X o to)(hi:QE X i ti)(he:QE X e te)(hbase:cO o "insert" X.env (J3 o X.env)=J3 o X.env:=by rfl)
 (hfew:((U9 Ò (R8 [i,e] X.env)).all (λx=> !x.1)&&(mD Ò (fQ [] X.env)).all (λx=>x.1.isSome)&&decide ([i,e].length+([]:G0 dP).length+(if ([]:G0 dP).isEmpty then 0 else 1)<30))=true:=by rfl)
 (hline:(apos.endLine==Ò.line)=true:=by rfl)(hs:R8 [i,e] X.env=(false,J3 i X.env)::R8 [e] X.env:=by rfl)(hs2:R8 [e] X.env=(false,J3 e X.env)::R8 [] X.env:=by rfl)(hplain:(U9 Ò (R8 [e] X.env)).any (·.1)=false:=by rfl):
 QE X (.Call (.Attribute o "insert" apos) [i,e] [] Ò) (HJ to ti te):=
 (CY fV uW u0 DI ho (yf hi (yf he ē hs2) hs) hbase hfew hline hs hplain).imp
  λσ H Q ⟨Å,h,Qd,rs,rh,t,p⟩=>LE.bind rs rh t λd v h1 H1 k1 ß Ë r1 ⟨a,e,q⟩=>by
   subst e;obtain⟨e1,vs,hH⟩:=(show v= .ref a/\ ∃vs,H1 a=some (.lst vs) from r1);subst e1;refine⟨.inl ⟨rfl,vs,ê.of hH⟩,?_⟩;refine LE.bind ß Ë q λdi vi h2 H2 k2 ņ ô r2 q2=>LE.bind ņ ô q2 λy u h3 H3 k3 Ξ Ğ r3 ⟨k,xs,ei,hk,hx,hz,q3⟩=> ?_
   subst ei;have ev:vi= .int (k:P4):=r2;obtain⟨ws,hW,r4⟩:=Ğ a xs hx;refine⟨a,ws,k,u,rfl,by rw [ev],hW,hk,by rw [<-r4.length];exact hz,p .non _ _ _ (k1.trans (k2.trans (k3.trans (.put hW)))) (Ğ.put hW ((r4.take k).append (.cons r3 (r4.drop k)))) rfl q3⟩
end
structure JE (X:Cx)(e:M6)(t:TED):Prop where
 to:QE X e t
structure JT (X:Cx)(e:M6)(t:TTD):Prop where
 to:QT X e t
structure JW (X:Cx)(e:M6)(t:TTD):Prop where
 to:QW X e t
structure JA (X:Cx)(e:G0 M6)(t:TAD):Prop where
 to:QA X e t
structure JS (X:Cx)(e:K9)(t:TSD):Prop where
 to:QS X e t
structure ŧ (X:Cx)(e:G0 K9)(t:TSD):Prop where
 to:QSs X e t
structure JG (X:Cx)(e:M6)(t:TGD):Prop where
 to:QG X e t
structure JI (X:Cx)(tg e:M6)(t:TID):Prop where
 to:QI X tg e t
structure JO (X:Cx)(e:P9 M6)(t:TOD):Prop where
 to:QO X e t
section
variable {X:Cx}{a b c e:M6}{es rest:G0 M6}{ta tb tc te:TED}{t u:TAD}{tt tu:TTD}{pos:Pos}{f r r':RD2}
def jv (i:G8){x:Str}(hN:X.N[i]? =some x:=by rfl)(hv:Vis X.env.scope x:=by first|exact V0 rfl|exact Z0 (V0 rfl)|exact Z0 (Z0 rfl))(hd:(x==("__debug__" :Str))=false:=by decide)(hcd:(x==("__classdict__" :Str))=false:=by decide):JE X (.Name x pos) (Pw i):=⟨qv (i:=i) (hN:=hN) (hv:=hv) (hd:=hd) (hcd:=hcd)⟩
variable {j:G8}
def jF {i:P4}:JE X (.Constant (.int i) j pos) (dC (.int i)):=⟨Hz⟩
def ĸ {i:N0}:JE X (.Constant (.bool i) j pos) (dC (.bl i)):=⟨qbl⟩
def Ec:JE X (.Constant .none j pos) (dC .non):=⟨Kk⟩
def HK {x:Str}:JE X (.Constant (.str x) j pos) (dC (.str x)):=⟨Kl⟩
def FP {x:Str}{i:P4}{tk:Tok}(hg:Gl X x)(hm:X.mg x=some (.int i tk))(hd:(x==("__debug__" :Str))=false:=by decide):JE X (.Name x pos) (dC (.int i)):=⟨ST (hg:=hg) (hm:=hm) (hd:=hd)⟩
def æ {op:y8}(ho:ù X (Q8 op) f)(ha:JE X a ta)(hb:JE X b tb):JE X (.BinOp a op b pos) (Ņ f ta tb):=⟨qop (ho:=ho) (ha:=ha.to) (hb:=hb.to)⟩
def Sb {op:nX}(ho:ù X (H0 op) f)(ha:JE X a ta)(hb:JE X b tb)(hm:Z7 op b=false):JE X (.Compare a [op] [b] pos) (Ņ f ta tb):=⟨Km (ho:=ho) (ha:=ha.to) (hb:=hb.to) (hm:=hm)⟩
def Nv {op:nX}(ho:ù X (H0 op) f)(ha:JE X a ta)(hb:JE X b tb)(hm:Z7 op b=false):JT X (.Compare a [op] [b] pos) (vp (Ņ f ta tb)):=⟨SU (ho:=ho) (ha:=ha.to) (hb:=hb.to) (hm:=hm)⟩
def Xq {op χ:nX}(ho:ù X (H0 op) r)(ho':ù X (H0 χ) r')(ha:JE X a ta)(hb:JE X b tb)(hc:JE X c tc)(hm:xC [op,χ] [b,c]=false:=by with_unfolding_all rfl):JT X (.Compare a [op,χ] [b,c] pos) (vp (Yi r r' ta tb tc)):=⟨Fo (ho:=ho) (ho':=ho') (ha:=ha.to) (hb:=hb.to) (hc:=hc.to) (hm:=hm)⟩
def wA (ha:JE X a ta)(he: ∀whole,isTrue a X.env whole=(do let v <-whole;gX a.pos;aR [v] (tJ v)):=by intro _;rfl):JT X a (vp ta):=⟨SV (ha:=ha.to) (he:=he)⟩
def Tr (ha:JT X a tt):JW X (.BoolOp .And [a] pos) tt:=⟨SW (ha:=ha.to)⟩
def Nw (ha:JT X a tt):JW X (.BoolOp .Or [a] pos) tt:=⟨Kn (ha:=ha.to)⟩
def Tt (ha:JT X a tt)(hb:JW X (.BoolOp .And (b::rest) pos) tu):JW X (.BoolOp .And (a::b::rest) pos) (Fk tt tu):=⟨SX (ha:=ha.to) (hb:=hb.to)⟩
def Px (ha:JT X a tt)(hb:JW X (.BoolOp .Or (b::rest) pos) tu):JW X (.BoolOp .Or (a::b::rest) pos) (Fl tt tu):=⟨Ko (ha:=ha.to) (hb:=hb.to)⟩
def wo (ha:JT X a tt):JT X (.UnaryOp .Not a pos) (VO tt):=⟨SY (ha:=ha.to)⟩
def MN {op:BoolOp}(ha:JE X a ta):JE X (.BoolOp op [a] pos) ta:=⟨Kp (ha:=ha.to)⟩
def MO (ha:JE X a ta)(hb:JE X (.BoolOp .And (b::rest) pos) tb):JE X (.BoolOp .And (a::b::rest) pos) (Dl ta tb):=⟨Kq (ha:=ha.to) (hb:=hb.to)⟩
def jor (ha:JE X a ta)(hb:JE X (.BoolOp .Or (b::rest) pos) tb):JE X (.BoolOp .Or (a::b::rest) pos) (SO ta tb):=⟨qor (ha:=ha.to) (hb:=hb.to)⟩
def Tu (ha:JE X a ta):JE X (.UnaryOp .Not a pos) (Dm ta):=⟨Kr (ha:=ha.to)⟩
def jif {c:M6}(hc:JT X c tt)(ha:JE X a ta)(hb:JE X b tb):JE X (.IfExp c a b pos) (dIf tt ta tb):=⟨qif (hc:=hc.to) (ha:=ha.to) (hb:=hb.to)⟩
def zH:JA X [] JM:=⟨Ar⟩
def vz {k:G8}(h:JA X es t):JE X (.Tuple es k pos) (EZ t):=⟨Ks (h:=h.to)⟩
def Jl (h:JA X es t):JE X (.List es pos) (Ag t):=⟨Kt (h:=h.to)⟩
end
section
variable {X:Cx}{st:K9}{sts:G0 K9}{t u:TSD}{e:M6}{te:TED}{pos:Pos}
def QB:ŧ X [] WK:=⟨Ax⟩
def jB (h1:JS X st t)(h2:ŧ X sts u):ŧ X (st::sts) (yc t u):=⟨Fv (h1:=h1.to) (h2:=h2.to)⟩
def ze (h1:JS X st t):ŧ X [st] t:=⟨Ay (h1:=h1.to)⟩
def WL (he:JE X e te)(hs:aG e none pos.line X.env=pure false:=by rfl):JS X (.Expr e pos) (Fq te):=⟨Tc (he:=he.to) (hs:=hs)⟩
def zX (he:JE X e te):JS X (.Return (some e) pos) (Xj te):=⟨Ku (he:=he.to)⟩
def Sc {c:M6}{a b:G0 K9}{tc:TTD}(hc:JT X c tc)(ha:ŧ X a t)(hb:ŧ X b u):JS X (.If c a b pos) (Dp tc t u):=⟨Kv (hc:=hc.to) (ha:=ha.to) (hb:=hb.to)⟩
variable {i:G8}{x:Str}
def KJ {pos':Pos}(hN:X.N.Nodup)(hi:X.N[i]? =some x)(hx:Loc X.env.scope x)(he:JE X e te)(hs:aG e (some (.Name x pos')) pos.line X.env=pure false:=by rfl)(hf:X.fn x=true\/X.env.scope.names.lookup x=some .local:=by first|exact .inl rfl|exact .inr rfl|assumption):JS X (.Assign [.Name x pos'] e pos) (MM i te):=⟨Kw (hN:=hN) (hi:=hi) (hx:=hx) (he:=he.to) (hs:=hs) (hf:=hf)⟩
def FQ (hN:X.N.Nodup)(hi:X.N[i]? =some x)(hx:Loc X.env.scope x)(hf:X.fn x=true\/X.env.scope.names.lookup x=some .local:=by first|exact .inl rfl|exact .inr rfl|assumption):JG X (.Name x pos) (gN i):=⟨Fw (hN:=hN) (hi:=hi) (hx:=hx) (hf:=hf)⟩
def QC {j:G8}{y:Str}{p1 p2:Pos}{k:G8}(hc:X.calm=true)(hN:X.N.Nodup)(hi:X.N[i]? =some x)(hj:X.N[j]? =some y)(hx:Loc X.env.scope x)(hy:Loc X.env.scope y)(hf:X.fn x=true\/X.env.scope.names.lookup x=some .local:=by first|exact .inl rfl|exact .inr rfl|assumption)(hf2:X.fn y=true\/X.env.scope.names.lookup y=some .local:=by first|exact .inl rfl|exact .inr rfl|assumption):JG X (.Tuple [.Name x p1,.Name y p2] k pos) (gT2 i j):=⟨Az (hc:=hc) (hN:=hN) (hi:=hi) (hj:=hj) (hx:=hx) (hy:=hy) (hf:=hf) (hf2:=hf2)⟩
def Oj {tg:M6}{g:TGD}(he:JE X e te)(hg:JG X tg g)(hs:eI [tg] e pos.line X.env=pure false:=by rfl)(hsw:eJ [tg] e X.env=pure none:=by rfl)(h1:(fE [tg] X.env).map (·.2)= [gR tg X.env]:=by rfl):JS X (.Assign [tg] e pos) (SZ te g):=⟨Kx (he:=he.to) (hg:=hg.to) (hs:=hs) (hsw:=hsw) (h1:=h1)⟩
def Tv {j:G8}{y:Str}{a b:M6}{ta:TAD}{px py pt:Pos}{kt k2 π}(hc:X.calm=true)(hN:X.N.Nodup)(hi:X.N[i]? =some x)(hj:X.N[j]? =some y)(hij:i≠j)(hx:X.env.scope.names.lookup x=some .local)(hy:X.env.scope.names.lookup y=some .local)(ha:JA X [a,b] ta)(hw:eJ [.Tuple [.Name x px,.Name y py] kt pt] (.Tuple [a,b] k2 π) X.env=pure (some [x,y]))(hs:eI [.Tuple [.Name x px,.Name y py] kt pt] (.Tuple [a,b] k2 π) pos.line X.env=pure false:=by rfl):JS X (.Assign [.Tuple [.Name x px,.Name y py] kt pt] (.Tuple [a,b] k2 π) pos) (Ta i j ta):=⟨Ky (hc:=hc) (hN:=hN) (hi:=hi) (hj:=hj) (hij:=hij) (hx:=hx) (hy:=hy) (ha:=ha.to) (hw:=hw) (hs:=hs)⟩
end
section
variable {X:Cx}{tg e iter elt:M6}{te:TED}{ti:TID}{g:TGD}{tb:TSD}{tt:TTD}{pos:Pos}{ta:TAD}{scope:Y5}{js:G0 G8}{ifs:G0 M6}
def DJ (he:JE X e te):JI X tg e (iL te):=⟨Fz (he:=he.to)⟩
def Tw {p:Pos}{a:M6}(hg:Gl X "range")(hm:X.mg "range" =none)(ha:JA X [a] ta)(hs:R8 [a] X.env= [(false,J3 a X.env)]:=by rfl):JI X tg (.Call (.Name "range" p) [a] [] pos) (iR1 ta):=⟨Te (hg:=hg) (hm:=hm) (ha:=ha.to) (hs:=hs)⟩
def Xr {body:G0 K9}(hp:oW (R3 X.prog X.w) X.A X.env X.xe)(hc:X.calm=true)(hi:JI X tg iter ti)(hg:JG X tg g)(hb:ŧ X body tb)(hs: ∀x,M8 iter X.env x=pure x:=by intro _;rfl):JS X (.For tg iter body [] pos) (AA ti g tb):=⟨Kz (hp:=hp) (hc:=hc) (hi:=hi.to) (hg:=hg.to) (hb:=hb.to) (hs:=hs)⟩
def wq:Ĝ X [] (LT X.K vj):=FA
def FR {c:M6}(hc:JT X c tt):Ĝ X [c] (LT X.K tt):=FB (hc:=hc.to)
def jlc {i:G8}{x:Str}{p:Pos}(hc:X.calm=true)(S:Ê X scope js)(hi:JI X (.Name x p) iter ti)(hj:i∈js)(hN:X.N.Nodup)(hx:X.N[i]? =some x)(hl:scope.names.lookup x=some .local\/scope.names.lookup x=some .cell)(ht: ∀X',jh X scope X'->Ĝ X' ifs (LT X'.K tt))(he: ∀X',jh X scope X'->JE X' elt te)(hs: ∀x,M8 iter X.env x=pure x:=by intro _;rfl):JE X (.ListComp elt [⟨.Name x p,iter,ifs,0⟩] scope pos) (vw (bN i) js ti tt te):=⟨qlc (hc:=hc) (S:=S) (hi:=hi.to) (hj:=hj) (hN:=hN) (hx:=hx) (hl:=hl) (ht:=ht) (he:=λX' hX=>(he X' hX).to) (hs:=hs)⟩
def HL {i j:G8}{x y:Str}{p1 p2 p3:Pos}{k:G8}(hc:X.calm=true)(S:Ê X scope js)(hi:JI X (.Tuple [.Name x p1,.Name y p2] k p3) iter ti)(hj:i∈js)(hj2:j∈js)(hij:i≠j)(hN:X.N.Nodup)(hx:X.N[i]? =some x)(hy:X.N[j]? =some y)(hl:scope.names.lookup x=some .local\/scope.names.lookup x=some .cell)(hl2:scope.names.lookup y=some .local\/scope.names.lookup y=some .cell)(ht: ∀X',jh X scope X'->Ĝ X' ifs (LT X'.K tt))(he: ∀X',jh X scope X'->JE X' elt te)(hs: ∀x,M8 iter X.env x=pure x:=by intro _;rfl):JE X (.ListComp elt [⟨.Tuple [.Name x p1,.Name y p2] k p3,iter,ifs,0⟩] scope pos) (vw (b2 i j) js ti tt te):=⟨KA (hc:=hc) (S:=S) (hi:=hi.to) (hj:=hj) (hj2:=hj2) (hij:=hij) (hN:=hN) (hx:=hx) (hy:=hy) (hl:=hl) (hl2:=hl2) (ht:=ht) (he:=λX' hX=>(he X' hX).to) (hs:=hs)⟩
end
section
variable {X:Cx}{k:G8}{f:P3}{fd:C3}{ps:G0 Str}{į:RDn}{x:Str}{p pos:Pos}{e:M6}{es:G0 M6}{t:TAD}
def Tx (F:Î X.prog X.w X.K X.mg X.base ì k f fd ps (ó X.K į))(hr:Û k X.A)(hg:Gl X x)(hm:X.mg x=some (.ref f))(hk:cB X.K (.ref f)=true)(hb:Binds X.K fd ps [])(ha:JA X (e::es) t)(hdb:(x==("__debug__" :Str))=false:=by decide)(he:R8 (e::es) X.env=(false,J3 e X.env)::R8 es X.env:=by rfl)(hpl:(U9 pos (R8 es X.env)).any (·.1)=false:=by rfl):JE X (.Call (.Name x p) (e::es) [] pos) (ĝ į t):=⟨Tf (F:=F) (hr:=hr) (hg:=hg) (hm:=hm) (hk:=hk) (hb:=hb) (ha:=ha.to) (hdb:=hdb) (he:=he) (hpl:=hpl)⟩
def zl {id:W1}{r:RDn}(hc:yh X (.builtin id) r)(hg:Gl X x)(hm:X.mg x=none)(hv:V8 x=some (.builtin id))(ha:JA X (e::es) t)(hn:x≠ "__name__" :=by decide)(hdb:(x==("__debug__" :Str))=false:=by decide)(he:R8 (e::es) X.env=(false,J3 e X.env)::R8 es X.env:=by rfl)(hpl:(U9 pos (R8 es X.env)).any (·.1)=false:=by rfl):JE X (.Call (.Name x p) (e::es) [] pos) (ĝ r t):=⟨AE (hc:=hc) (hg:=hg) (hm:=hm) (hv:=hv) (ha:=ha.to) (hn:=hn) (hdb:=hdb) (he:=he) (hpl:=hpl)⟩
def jC {T:W1}{r:RDn}(hc:yh X (.type T) r)(hg:Gl X x)(hm:X.mg x=none)(hv:V8 x=some (.type T))(ha:JA X (e::es) t)(hn:x≠ "__name__" :=by decide)(hdb:(x==("__debug__" :Str))=false:=by decide)(he:R8 (e::es) X.env=(false,J3 e X.env)::R8 es X.env:=by rfl)(hpl:(U9 pos (R8 es X.env)).any (·.1)=false:=by rfl):JE X (.Call (.Name x p) (e::es) [] pos) (ĝ r t):=⟨FD (hc:=hc) (hg:=hg) (hm:=hm) (hv:=hv) (ha:=ha.to) (hn:=hn) (hdb:=hdb) (he:=he) (hpl:=hpl)⟩
end
section
variable {X:Cx}{iter elt:M6}{te:TED}{ti:TID}{tt:TTD}{pos ą:Pos}{scope:Y5}{js:G0 G8}{ifs:G0 M6}
def BW {i k:G8}{x y:Str}{p py:Pos}(hc:X.calm=true)(hN:X.N.Nodup)(hk:X.N[k]? =some y)(hy:Loc X.env.scope y)(S:Ê X scope js)(hi:JI X (.Name x p) iter ti)(hj:i∈js)(hx:X.N[i]? =some x)(hl:scope.names.lookup x=some .local\/scope.names.lookup x=some .cell)(ht: ∀X',jh X scope X'->Ĝ X' ifs (LT X'.K tt))(he: ∀X',jh X scope X'->JE X' elt te)(hsw:aG (.ListComp elt [⟨.Name x p,iter,ifs,0⟩] scope pos) (some (.Name y py)) ą.line X.env=pure true:=by rfl)(hf:X.fn y=true\/X.env.scope.names.lookup y=some .local:=by first|exact .inl rfl|exact .inr rfl|assumption)(hs: ∀x,M8 iter X.env x=pure x:=by intro _;rfl):JS X (.Assign [.Name y py] (.ListComp elt [⟨.Name x p,iter,ifs,0⟩] scope pos) ą) (MM k (vw (bN i) js ti tt te)):=⟨AF (hc:=hc) (hN:=hN) (hk:=hk) (hy:=hy) (S:=S) (hi:=hi.to) (hj:=hj) (hx:=hx) (hl:=hl) (ht:=ht) (he:=λX' hX=>(he X' hX).to) (hsw:=hsw) (hf:=hf) (hs:=hs)⟩
def FS {i j k:G8}{x1 x2 y:Str}{p1 p2 p3 py:Pos}{kk:G8}(hc:X.calm=true)(hN:X.N.Nodup)(hk:X.N[k]? =some y)(hy:Loc X.env.scope y)(S:Ê X scope js)(hi:JI X (.Tuple [.Name x1 p1,.Name x2 p2] kk p3) iter ti)(hj:i∈js)(hj2:j∈js)(hij:i≠j)(hx:X.N[i]? =some x1)(hx2:X.N[j]? =some x2)(hl:scope.names.lookup x1=some .local\/scope.names.lookup x1=some .cell)(hl2:scope.names.lookup x2=some .local\/scope.names.lookup x2=some .cell)(ht: ∀X',jh X scope X'->Ĝ X' ifs (LT X'.K tt))(he: ∀X',jh X scope X'->JE X' elt te)(hsw:aG (.ListComp elt [⟨.Tuple [.Name x1 p1,.Name x2 p2] kk p3,iter,ifs,0⟩] scope pos) (some (.Name y py)) ą.line X.env=pure true:=by rfl)(hf:X.fn y=true\/X.env.scope.names.lookup y=some .local:=by first|exact .inl rfl|exact .inr rfl|assumption)(hs: ∀x,M8 iter X.env x=pure x:=by intro _;rfl):JS X (.Assign [.Name y py] (.ListComp elt [⟨.Tuple [.Name x1 p1,.Name x2 p2] kk p3,iter,ifs,0⟩] scope pos) ą) (MM k (vw (b2 i j) js ti tt te)):=⟨FE (hc:=hc) (hN:=hN) (hk:=hk) (hy:=hy) (S:=S) (hi:=hi.to) (hj:=hj) (hj2:=hj2) (hij:=hij) (hx:=hx) (hx2:=hx2) (hl:=hl) (hl2:=hl2) (ht:=ht) (he:=λX' hX=>(he X' hX).to) (hsw:=hsw) (hf:=hf) (hs:=hs)⟩
end
section
variable {X:Cx}{iter ç elt:M6}{te:TED}{ti İ:TID}{tt Ŀ:TTD}{pos:Pos}{scope:Y5}{js:G0 G8}{ifs ģ:G0 M6}
def HM {i i':G8}{x y:Str}{p py:Pos}(hc:X.calm=true)(S:Ê X scope js)(hi:JI X (.Name x p) iter ti)(hj:i∈js)(hj':i'∈js)(hne:i≠i')(hN:X.N.Nodup)(hx:X.N[i]? =some x)(hy:X.N[i']? =some y)(hl:scope.names.lookup x=some .local\/scope.names.lookup x=some .cell)(hl':scope.names.lookup y=some .local\/scope.names.lookup y=some .cell)(ht: ∀X',jh X scope X'->Ĝ X' ifs (LT X'.K tt))(hi': ∀X',jh X scope X'->JI X' (.Name y py) ç İ)(ht': ∀X',jh X scope X'->Ĝ X' ģ (LT X'.K Ŀ))(he: ∀X',jh X scope X'->JE X' elt te)(hs: ∀x,M8 iter X.env x=pure x:=by intro _;rfl)(hs': ∀env x,M8 ç env x=pure x:=by intro _ _;rfl):JE X (.ListComp elt [⟨.Name x p,iter,ifs,0⟩,⟨.Name y py,ç,ģ,0⟩] scope pos) (Nl (bN i) js ti tt i' İ Ŀ te):=⟨KB (hc:=hc) (S:=S) (hi:=hi.to) (hj:=hj) (hj':=hj') (hne:=hne) (hN:=hN) (hx:=hx) (hy:=hy) (hl:=hl) (hl':=hl') (ht:=ht) (hi':=λX' hX=>(hi' X' hX).to) (ht':=ht') (he:=λX' hX=>(he X' hX).to) (hs:=hs) (hs':=hs')⟩
end
section
variable {X:Cx}{a b e:M6}{ta tb te:TED}{pos p2:Pos}
def jix (ha:JE X a ta)(hb:JE X b tb)(hs:YD b):JE X (.Subscript a b pos) (Ņ ixD ta tb):=⟨qix (ha:=ha.to) (hb:=hb.to) (hs:=hs)⟩
end
variable {pos:Pos}
def ZZ {a:M6}{ta:TED}{T:W1}{t:Str}{p p2:Pos}(hT:T∈ ["tuple","int","bool","list","str"])(hg:Gl X "isinstance")(hm:X.mg "isinstance" =none)(hg2:Gl X t)(hm2:X.mg t=none)(hv:V8 t=some (.type T))(ha:JE X a ta)(hn:t≠ "__name__" :=by decide)(hd:(t==("__debug__" :Str))=false:=by decide)(h1:R8 [a,.Name t p2] X.env=(false,J3 a X.env)::R8 [.Name t p2] X.env:=by rfl)(h2:(U9 pos (R8 [.Name t p2] X.env)).any (·.1)=false:=by rfl):JE X (.Call (.Name "isinstance" p) [a,.Name t p2] [] pos) (dIs T ta):=⟨Tn (hT:=hT) (hg:=hg) (hm:=hm) (hg2:=hg2) (hm2:=hm2) (hv:=hv) (ha:=ha.to) (hn:=hn) (hd:=hd) (h1:=h1) (h2:=h2)⟩
section
variable {X:Cx}{o e i:M6}{to te ti:TED}{apos Ò pos:Pos}
def Sd (ho:JE X o to)(he:JE X e te)(hbase:cO o "append" X.env (J3 o X.env)=J3 o X.env:=by rfl)(hfew:((U9 Ò (R8 [e] X.env)).all (λx=> !x.1)&&(mD Ò (fQ [] X.env)).all (λx=>x.1.isSome)&&decide ([e].length+([]:G0 dP).length+(if ([]:G0 dP).isEmpty then 0 else 1)<30))=true:=by rfl)(hline:(apos.endLine==Ò.line)=true:=by rfl)(hs:R8 [e] X.env=(false,J3 e X.env)::R8 [] X.env:=by rfl)(hplain:(U9 Ò (R8 [] X.env)).any (·.1)=false:=by rfl):JE X (.Call (.Attribute o "append" apos) [e] [] Ò) (HF to te):=⟨KF (ho:=ho.to) (he:=he.to) (hbase:=hbase) (hfew:=hfew) (hline:=hline) (hs:=hs) (hplain:=hplain)⟩
def QD (ho:JE X o to)(hi:JE X i ti)(ha: ∀v,gR (.Subscript o i pos) X.env v=(do
 let ov <-aR [v] (J3 o X.env)
 let iv <-aR [v,ov] (J3 i X.env)
 gX pos
 aR [v,ov,iv] (tD ov iv v)
 G0r [v,ov,iv] []):=by intro _;rfl):JG X (.Subscript o i pos) (AO to ti):=⟨AQ (ho:=ho.to) (hi:=hi.to) (ha:=ha)⟩
end
def jpt {e:M6}{t:TTD}(h:JW X e t):JT X e t:=⟨qpt (h:=h.to)⟩
def wt:JO X none DB:=⟨FL⟩
variable {te:TED}
def zN {e:M6}(he:JE X e te):JO X (some e) (AR te):=⟨FM (he:=he.to)⟩
def yG {e:M6}{lo hi:P9 M6}{tl th:TOD}{p2:Pos}(he:JE X e te)(hl:JO X lo tl)(hu:JO X hi th):JE X (.Subscript e (.Slice lo hi none p2) pos) (dSl te tl th):=⟨AS (he:=he.to) (hl:=hl.to) (hu:=hu.to)⟩
def Ty {a:M6}{ta:TED}(ha:JE X a ta):JE X (.UnaryOp .USub a pos) (dUn Sa ta):=⟨HH (ha:=ha.to)⟩
def HN {e:M6}{p2 p3 p4:Pos}{j:G8}(he:JE X e te):JE X (.Subscript e (.Slice none none (some (.UnaryOp .USub (.Constant (.int 1) j p4) p3)) p2) pos) (HI te):=⟨KH (he:=he.to)⟩
def Ed {ks:G0 (P9 M6)}{vs:G0 M6}{x:Str}{i:P4}(h:Xo ks vs=some (x,i):=by rfl):JE X (.Dict ks vs pos) (Qx x i):=⟨AU (h:=h)⟩
def jP {tg e:M6}(he:JE X e te):JI X tg e (iS te):=⟨AY (he:=he.to)⟩
def DK {st:K9}:JS X st BV:=⟨AZ⟩
def œ {e:M6}{es:G0 M6}{t:TAD}(ha:JE X e te)(hr:JA X es t)(h:zt e=true:=by rfl):JA X (e::es) (zj te t):=⟨qac (ha:=ha.to) (hr:=hr.to) (h:=h)⟩
section
variable {X:Cx}{o e i:M6}{to te ti:TED}{apos Ò:Pos}
def KK (ho:JE X o to)(hi:JE X i ti)(he:JE X e te)(hbase:cO o "insert" X.env (J3 o X.env)=J3 o X.env:=by rfl)(hfew:((U9 Ò (R8 [i,e] X.env)).all (λx=> !x.1)&&(mD Ò (fQ [] X.env)).all (λx=>x.1.isSome)&&decide ([i,e].length+([]:G0 dP).length+(if ([]:G0 dP).isEmpty then 0 else 1)<30))=true:=by rfl)(hline:(apos.endLine==Ò.line)=true:=by rfl)(hs:R8 [i,e] X.env=(false,J3 i X.env)::R8 [e] X.env:=by rfl)(hs2:R8 [e] X.env=(false,J3 e X.env)::R8 [] X.env:=by rfl)(hplain:(U9 Ò (R8 [e] X.env)).any (·.1)=false:=by rfl):JE X (.Call (.Attribute o "insert" apos) [i,e] [] Ò) (HJ to ti te):=⟨KI (ho:=ho.to) (hi:=hi.to) (he:=he.to) (hbase:=hbase) (hfew:=hfew) (hline:=hline) (hs:=hs) (hs2:=hs2) (hplain:=hplain)⟩
end
section
variable {P:S6}{w:B3}{K:G7}{mg:Str->P9 G2}{base:L8}
def ò.okJ {x qual:Str}{st:K9}{f:P3}{fd:C3}{N ps:G0 Str}{k:G8}{į:RDn}(F:ò K x qual st f fd)(S:Ã N ps (je st))(len: ∀ds h Q,į ds h Q->ds.length=ps.length)
 (tb:TSD)(ė: ∀ (ø:G2) (A:N4) (outer:G0 Env) (s:G3) (H:Hp) (E:XK),Û k (A.deeper (i3 qual (je st) s.heap.objs.size f ø))->ŧ (MZ ì P w K mg base N qual (je st) f ø A outer s H E).nox (zV st) tb)
 (read: ∀ds h Q,į ds h Q->tb (Xk Q) (wn N ds) h):Î P w K mg base ì (k+1) f fd ps (ó K į):=F.okD S len tb (λø A outer s H E hr=>(ė ø A outer s H E hr).to) read
end
noncomputable def zM (r:G0 P4):D:= .tup (r.map D.int)
noncomputable def jj (T:G0 (G0 P4)):D:= .tup (T.map zM)
def wM (n:G8)(r:G0 P4):Prop:=r.length=n/\ ∀x∈r,0<=x/\x<=1000000
def ę (n:G8)(T:G0 (G0 P4)):Prop:=T.length=n/\ ∀r∈T,wM n r
structure Sq (n e:G8)(T:G0 (G0 P4)):Prop where
 len:T.length=n
 row: ∀r∈T,r.length=n
 nn: ∀r∈T,∀x∈r,0<=x
 bit: ∀r∈T,∀x∈r,x<2^e
variable {n:G8}{T:G0 (G0 P4)}
def ę.sq (g:ę n T):Sq n 20 T:=⟨g.1,λr hr=>(g.2 r hr).1,λr hr x hx=>((g.2 r hr).2 x hx).1,λr hr x hx=>Int.lt_of_le_of_lt ((g.2 r hr).2 x hx).2 (by decide)⟩
variable {e f:G8}
def Sq.mono (h:Sq n e T)(l:e<=f):Sq n f T:=⟨h.len,h.row,h.nn,λr hr x hx=>pS (h.bit r hr x hx) (by
 have:(2:G8)^e<=2^f:=W3 (by decide) l;have h2:((2^e:G8):P4)<=((2^f:G8):P4):=by exact_mod_cast this
 simpa using h2)⟩
noncomputable def á (T:G0 (G0 P4))(i j:G8):P4:=(T.getD i []).getD j 0
noncomputable def ŝ (n:G8)(f:G8->G8->P4):G0 (G0 P4):=(D6 n).map λi=>(D6 n).map λj=>f i j
def Yl {i j:G8}{f:G8->G8->P4}(hi:i<n)(hj:j<n):á (ŝ n f) i j=f i j:=by
 unfold á ŝ;simp [R4,hi,hj]
def jT {α:Type}(xs:G0 α)(d:α):xs=(D6 xs.length).map λi=>xs.getD i d:=by
 apply List.ext_getElem (by simp);intro i h1 h2;simp [R4,h1]
def Sq.eq_mk (h:Sq n e T):T=ŝ n (á T):=by
 have h1:=jT T [];rw [h.len] at h1;unfold ŝ
 conv=>lhs;rw [h1]
 apply B2;intro i hi;have hi':i<T.length:=by rw [h.len];exact S4.mp hi
 have hr:(T.getD i []).length=n:=by
  rw [R4,G5 hi'];exact h.row _ (N6 hi')
 have h2:=jT (T.getD i []) 0;rw [hr] at h2;exact h2
def Nx {f g:G8->G8->P4}(h: ∀i j,i<n->j<n->f i j=g i j):ŝ n f=ŝ n g:=by
 unfold ŝ;apply B2;intro i hi;apply B2;intro j hj;exact h i j (S4.mp hi) (S4.mp hj)
def Sq.of_mk {f:G8->G8->P4}(h0: ∀i j,i<n->j<n->0<=f i j)(h1: ∀i j,i<n->j<n->f i j<2^e):Sq n e (ŝ n f):=by
 have key: ∀r∈ŝ n f,∃i,i<n/\r=(D6 n).map λj=>f i j:=λr hr=>by
  obtain⟨i,hi,e⟩:=R7.mp hr;exact⟨i,S4.mp hi,e.symm⟩
 refine⟨by simp [ŝ],λr hr=> ?_,λr hr x hx=> ?_,λr hr x hx=> ?_⟩
 ·obtain⟨i,_,e⟩:=key r hr;rw [e];simp
 ·obtain⟨i,hi,e⟩:=key r hr;rw [e] at hx;obtain⟨j,hj,e2⟩:=R7.mp hx;rw [<-e2];exact h0 i j hi (S4.mp hj)
 ·obtain⟨i,hi,e⟩:=key r hr;rw [e] at hx;obtain⟨j,hj,e2⟩:=R7.mp hx;rw [<-e2];exact h1 i j hi (S4.mp hj)
def Sq.ent_nn (h:Sq n e T){i j:G8}(hi:i<n)(hj:j<n):0<=á T i j/\á T i j<2^e:=by
 have hi':i<T.length:=by rw [h.len];exact hi
 have hr:T.getD i []=T[i]:=by rw [R4,G5 hi'];rfl
 have hm:T[i]∈T:=N6 hi';have hj':j<T[i].length:=by rw [h.row _ hm];exact hj
 have he:á T i j=T[i][j]:=by unfold á;rw [hr,R4,G5 hj'];rfl
 rw [he];exact⟨h.nn _ hm _ (N6 hj'),h.bit _ hm _ (N6 hj')⟩
variable {U:G0 (G0 P4)}
def Sq.ext (h:Sq n e T)(g:Sq n f U)(k: ∀i j,i<n->j<n->á T i j=á U i j):T=U:=by
 rw [h.eq_mk,g.eq_mk];exact Nx k
noncomputable def jX (n:G8)(f:G8->P4):P4:=((D6 n).map f).sum
def wX (f:G8->P4):jX 0 f=0:=rfl
def jO (n:G8)(f:G8->P4):jX (n+1) f=jX n f+f n:=by
 unfold jX;rw [fC,T6,sI];simp
def zv {f g:G8->P4}(h: ∀k,k<n->f k=g k):jX n f=jX n g:=by
 unfold jX;congr 1;apply B2;intro k hk;exact h k (S4.mp hk)
def YQ {f:G8->P4}(h: ∀k,k<n->0<=f k):0<=jX n f:=by
 induction n with
 |zero=>exact IA _
 |succ n ih=>rw [jO];have:=ih λk hk=>h k (by omega);have:=h n (by omega);omega
def Ny {f:G8->P4}{b:P4}(h: ∀k,k<n->f k<=b):jX n f<=n*b:=by
 induction n with
 |zero=>simp [wX]
 |succ n ih=>
  rw [jO];have h1:=ih λk hk=>h k (by omega);have h2:=h n (by omega)
  have:((n+1:G8):P4)*b=(n:P4)*b+b:=by rw [sJ,Int.add_mul];simp
  omega
def DL (n:G8)(f g:G8->P4):jX n (λk=>f k+g k)=jX n f+jX n g:=by
 induction n with
 |zero=>rfl
 |succ n ih=>rw [jO,jO,jO,ih];omega
def Wa (n:G8)(c:P4)(f:G8->P4):jX n (λk=>c*f k)=c*jX n f:=by
 induction n with
 |zero=>simp [wX]
 |succ n ih=>rw [jO,jO,ih,Int.mul_add]
def GL (n:G8)(c:P4)(f:G8->P4):jX n (λk=>f k*c)=jX n f*c:=by
 rw [qM,<-Wa];exact zv λk _=>qM _ _
def GM (m n:G8)(f:G8->G8->P4):jX m (λi=>jX n (f i))=jX n (λj=>jX m λi=>f i j):=by
 induction m with
 |zero=>
  rw [wX]
  induction n with
  |zero=>rfl
  |succ n ih=>rw [jO,<-ih,wX];rfl
 |succ m ih=>
  rw [jO,ih,<-DL];exact zv λj _=>(jO m λi=>f i j).symm
def VY {f:G8->P4}{i:G8}(hi:i<n)(h: ∀k,k<n->k≠i->f k=0):jX n f=f i:=by
 induction n with
 |zero=>omega
 |succ n ih=>
  rw [jO]
  by_cases e:i=n
  ·subst e;have:jX i f=0:=by
    have:jX i f=jX i (λ_=>0*1):=zv λk hk=>by rw [h k (by omega) (by omega)];rfl
    rw [this,Wa];simp
   omega
  ·rw [ih (by omega) λk hk hne=>h k (by omega) hne,h n (by omega) (by omega)];omega
def DM {f:G8->P4}(h: ∀k,k<n->0<=f k):0<jX n f↔ ∃k,k<n/\0<f k:=by
 induction n with
 |zero=>simp [wX]
 |succ n ih=>
  rw [jO];have h1:=YQ λk (hk:k<n)=>h k (by omega)
  have h2:=h n (by omega);have ih':=ih λk hk=>h k (by omega)
  constructor
  ·intro z
   by_cases q:0<f n
   ·exact⟨n,by omega,q⟩
   ·obtain⟨k,a,b⟩:=ih'.mp (by omega);exact⟨k,by omega,b⟩
  ·rintro ⟨k,a,b⟩
   by_cases q:k=n
   ·subst q;omega
   ·have:=ih'.mpr ⟨k,by omega,b⟩;omega
noncomputable def ZA (n:G8)(T U:G0 (G0 P4)):G0 (G0 P4):=ŝ n λi j=>jX n λk=>á T i k*á U k j
def Sq.mul (h:Sq n e T)(g:Sq n f U)(hn:n<=8):Sq n (e+f+3) (ZA n T U):=by
 have nn: ∀i j,i<n->j<n-> ∀k,k<n->0<=á T i k*á U k j:=λi j hi hj k hk=>tV (h.ent_nn hi hk).1 (g.ent_nn hk hj).1
 refine Sq.of_mk (λi j hi hj=>YQ (nn i j hi hj)) λi j hi hj=> ?_
 have hle: ∀k,k<n->á T i k*á U k j<=2^e*2^f-1:=λk hk=>by
  have a:=h.ent_nn hi hk;have b:=g.ent_nn hk hj;have:á T i k*á U k j<2^e*2^f:=by
   have p:(0:P4)<2^f:=rY (by decide)
   calc á T i k*á U k j<=á T i k*2^f:=Int.mul_le_mul_of_nonneg_left (xM b.2) a.1
    _<2^e*2^f:=Int.mul_lt_mul_of_pos_right a.2 p
  omega
 have s:=Ny hle;have p:(0:P4)<2^e*2^f:=IC (rY (by decide)) (rY (by decide));have e1:(2:P4)^(e+f+3)=8*(2^e*2^f):=by rw [IE,IE];rw [qM];rfl
 rw [e1];have hn':(n:P4)<=8:=by omega
 have:(n:P4)*(2^e*2^f-1)<=8*(2^e*2^f-1):=Int.mul_le_mul_of_nonneg_right hn' (by omega);omega
def vM {i j:G8}(hi:i<n)(hj:j<n):á (ZA n T U) i j=jX n λk=>á T i k*á U k j:=Yl hi hj
noncomputable def Py (n:G8):G0 (G0 P4):=ŝ n λi j=>if i=j then 1 else 0
def Sq.one (n:G8):Sq n 1 (Py n):=Sq.of_mk (f:=λi j=>if i=j then 1 else 0) (λi j _ _=>by split<;>decide) λi j _ _=>by split<;>decide
def mul_assoc {g:G8}{V:G0 (G0 P4)}(hT:Sq n e T)(hU:Sq n f U)(hV:Sq n g V)(hn:n<=8):ZA n (ZA n T U) V=ZA n T (ZA n U V):=by
 refine((hT.mul hU hn).mul hV hn).ext (hT.mul (hU.mul hV hn) hn) λi j hi hj=> ?_
 rw [vM hi hj,vM hi hj];have e1:(jX n λk=>á (ZA n T U) i k*á V k j)=jX n λk=>jX n λl=>á T i l*á U l k*á V k j:=
  zv λk hk=>by rw [vM hi hk,<-GL]
 have e2:(jX n λl=>á T i l*á (ZA n U V) l j)=jX n λl=>jX n λk=>á T i l*(á U l k*á V k j):=
  zv λl hl=>by rw [vM hl hj,<-Wa]
 rw [e1,e2,GM];exact zv λl _=>zv λk _=>Int.mul_assoc _ _ _
def Nz (hT:Sq n e T)(hn:n<=8):ZA n (Py n) T=T:=by
 refine((Sq.one n).mul hT hn).ext hT λi j hi hj=> ?_
 rw [vM hi hj,VY hi λk hk hne=>by rw [Py,Yl hi hk,R9 (E7 hne)];simp];rw [Py,Yl hi hi,R6 rfl];simp
def NA (hT:Sq n e T)(hn:n<=8):ZA n T (Py n)=T:=by
 refine(hT.mul (Sq.one n) hn).ext hT λi j hi hj=> ?_
 rw [vM hi hj,VY hj λk hk hne=>by rw [Py,Yl hk hj,R9 hne];simp];rw [Py,Yl hj hj,R6 rfl];simp
noncomputable def Pz (n:G8)(T:G0 (G0 P4)):G8->G0 (G0 P4)
 |0=>Py n
 |k+1=>ZA n (Pz n T k) T
theorem Sq.pow (hT:Sq n e T)(hn:n<=8): ∀k,Sq n (k*(e+3)+1) (Pz n T k)
 |0=>(Sq.one n).mono (by omega)
 |k+1=>((Sq.pow hT hn k).mul hT hn).mono (by rw [iK];omega)
noncomputable def Ee (n:G8)(T:G0 (G0 P4)):G0 (G0 P4):=ŝ n λi j=>á T j i
noncomputable def zL (n:G8)(T:G0 (G0 P4)):G0 (G0 P4):=ŝ n λi j=>if á T i j=0 then 0 else 1
def Sq.turn (h:Sq n e T):Sq n e (Ee n T):=Sq.of_mk (λi j hi hj=>(h.ent_nn hj hi).1) λi j hi hj=>(h.ent_nn hj hi).2
def Sq.mark (T:G0 (G0 P4)):Sq n 1 (zL n T):=Sq.of_mk (f:=λi j=>if á T i j=0 then 0 else 1) (λi j _ _=>by split<;>decide) λi j _ _=>by split<;>decide
structure Ord (n:G8)(o:G0 G8):Prop where
 len:o.length=n
 all: ∀i,i<n->i∈o
noncomputable def wB (T:G0 (G0 P4)):N0:=T.all λr=>r.all λx=>decide (x≠0)
def MulOk (i j:P4):Prop:= ∃m n:G8,i.natAbs<2^m/\j.natAbs<2^n/\m+n<=134217728
def MulOk.ok {i j:P4}(h:MulOk i j):IntMulOk i j:=by
 obtain⟨m,n,a,b,c⟩:=h;exact .of_le (oE.mpr a) (oE.mpr b) c
def FT:ā X (Q8 .Mult) (rI MulOk λi j=> .int (i*j)):=opI λ_ _ _ _ _ _ _ hc q=>mul_int q hc.ok
def KL:RD2:=λx y h Q=>match x,y with
 | .int i,.int j=>MulOk i j/\Q (.int (i*j)) h
 |_,_=>False
def DN:ù X (Q8 .Mult) KL:=YI (gd:=λi j=> .int (i*j)) FT (λ_ _ _=>rfl) λx y h Q q=>by
 cases x<;>cases y<;>first|exact False.elim q|exact⟨_,_,rfl,rfl,q.1,q.2⟩
def Jm {x:P4}(h0:0<=x)(h1:x<2^e):x.natAbs<2^e:=by
 have:((2^e:G8):P4)=2^e:=by simp
 omega
def QF {x y:P4}(hx:0<=x/\x<2^e)(hy:0<=y/\y<2^f)(h:e+f<=134217728):MulOk x y:=⟨e,f,Jm hx.1 hx.2,Jm hy.1 hy.2,h⟩
section
variable {α β:Type}{i i':G8}{js:G0 G8}{ti İ:TID}{te:TED}{σ:SD}{h:HD}{Q:KD}{j:ItD}
def lcA (xs:G0 α)(c g:α->D)(hz:xs.length<=1000)(hj:j h=some (xs.map c))(ht: ∀R:ItD->HD->Prop,R j h->ti σ h R)
 (he: ∀x∈xs,∀Q':KD,Q' (g x) h->te ((jM js σ).set i (some (c x))) h Q')(hq: ∀p,h p=none->Q (.lst p) (zm h p (xs.map g))):vw (bN i) js ti vj te σ h Q:=by
 refine ht _ ⟨xs.length,λk ys h'=>h'=h/\ys=(xs.take k).map g,⟨rfl,by simp⟩,?_⟩;rintro k ys h' ⟨rfl,rfl⟩;refine⟨by simp only [G1,T3];exact T8 (jV (by omega)),xs.map c,hj,by simp,λhl p hp=> ?_,λd hd=>⟨_,rfl,?_⟩⟩
 ·rw [T5 (by simpa using hl)];exact hq p hp
 ·unfold vj;dsimp only;rw [R6 rfl];rw [P7] at hd;cases hx:xs[k]? with
  |none=>rw [hx] at hd;cases hd
  |some x=>
   rw [hx] at hd;cases hd;refine he x (P6 hx) _ ⟨h',Sub.refl _,rfl,?_⟩;rw [L6,hx];simp
def lcF (xs:G0 α)(c g:α->D)(p:α->N0){tt:TTD}(hz:xs.length<=1000)(hj:j h=some (xs.map c))(ht: ∀R:ItD->HD->Prop,R j h->ti σ h R)
 (hp: ∀x∈xs,∀Q':N0->HD->Prop,Q' (p x) h->tt ((jM js σ).set i (some (c x))) h Q')(he: ∀x∈xs,p x=true-> ∀Q':KD,Q' (g x) h->te ((jM js σ).set i (some (c x))) h Q')(hq: ∀a,h a=none->Q (.lst a) (zm h a ((xs.filter p).map g))):vw (bN i) js ti tt te σ h Q:=by
 refine ht _ ⟨xs.length,λk ys h'=>h'=h/\ys=((xs.take k).filter p).map g,⟨rfl,by simp⟩,?_⟩;rintro k ys h' ⟨rfl,rfl⟩;refine⟨?_,xs.map c,hj,by simp,λhl a ha=> ?_,λd hd=>⟨_,rfl,?_⟩⟩
 ·have:=gO p (xs.take k);simp only [G1,T3] at this ⊢;exact T8 (jV (by omega))
 ·rw [T5 (by simpa using hl)];exact hq a ha
 ·rw [P7] at hd;cases hx:xs[k]? with
  |none=>rw [hx] at hd;cases hd
  |some x=>
   rw [hx] at hd;cases hd;refine hp x (P6 hx) _ ?_;cases hb:p x with
   |true=>
    rw [R6 rfl];refine he x (P6 hx) hb _ ⟨h',Sub.refl _,rfl,?_⟩;rw [L6,hx];simp [hb]
   |false=>
    rw [R9 R5];refine⟨h',Sub.refl _,rfl,?_⟩;rw [L6,hx];simp [hb]
def lcB (xs:G0 α)(c:α->D)(ys:α->G0 β)(c':β->D)(g:α->β->D)(hz:(xs.flatMap ys).length<=1000)(hj:j h=some (xs.map c))(ht: ∀R:ItD->HD->Prop,R j h->ti σ h R)
 (hin: ∀x∈xs,∀R:ItD->HD->Prop,R (λ_=>some ((ys x).map c')) h->İ ((jM js σ).set i (some (c x))) h R)
 (he: ∀x∈xs,∀y∈ys x,∀Q':KD,Q' (g x y) h->te (((jM js σ).set i (some (c x))).set i' (some (c' y))) h Q')(hq: ∀p,h p=none->Q (.lst p) (zm h p (xs.flatMap λx=>(ys x).map (g x)))):Nl (bN i) js ti vj i' İ vj te σ h Q:=by
 have len: ∀l:G0 α,(l.flatMap λx=>(ys x).map (g x)).length=(l.flatMap ys).length:=λl=>by
  induction l with
  |nil=>rfl
  |cons x l ih=>simp [cZ,ih]
 have lek: ∀k,((xs.take k).flatMap ys).length<=(xs.flatMap ys).length:=λk=>by
  conv=>rhs;rw [<-N2 k xs,b9,P1]
  omega
 have X1H: ∀k x m,xs[k]? =some x->m<=(ys x).length->((xs.take k).flatMap ys).length+m<=(xs.flatMap ys).length:=λk x m hx hm=>by
  have:=lek (k+1);rw [L6,hx,b9,P1] at this;simp at this;simp;omega
 refine ht _ ⟨xs.length,λk zs h'=>h'=h/\zs=(xs.take k).flatMap λx=>(ys x).map (g x),⟨rfl,by simp⟩,?_⟩;rintro k zs h' ⟨rfl,rfl⟩;refine⟨by rw [len];exact T8 (jV (R1 (lek k) hz)),xs.map c,hj,by simp,λhl p hp=> ?_,λd hd=>⟨_,rfl,?_⟩⟩
 ·rw [T5 (by simpa using hl)];exact hq p hp
 ·unfold vj;dsimp only;rw [R6 rfl];rw [P7] at hd;cases hx:xs[k]? with
  |none=>rw [hx] at hd;cases hd
  |some x=>
   rw [hx] at hd;cases hd;have xm:=P6 hx;refine hin x xm _ ⟨(ys x).length,λm zs h2=>h2=h'/\zs=((xs.take k).flatMap λx=>(ys x).map (g x))++((ys x).take m).map (g x),⟨rfl,by simp⟩,?_⟩;rintro m zs h2 ⟨rfl,rfl⟩;refine⟨?_,(ys x).map c',rfl,by simp,λhl=>⟨h2,Sub.refl _,rfl,?_⟩,λd hd=> ?_⟩
   ·rw [P1,len,G1,T3];have:=X1H k x (min m (ys x).length) hx (dO _ _);exact T8 (jV (by omega))
   ·have hm:(ys x).take m=ys x:=T5 (by simpa using hl);rw [hm,L6,hx,b9];simp
   ·rw [P7] at hd;cases hy:(ys x)[m]? with
    |none=>rw [hy] at hd;cases hd
    |some y=>
     rw [hy] at hd;cases hd
     first
      |rw [R6 rfl]
      |(dsimp only;rw [R6 rfl])
     refine he x xm y (P6 hy) _ ⟨h2,Sub.refl _,rfl,?_⟩;rw [L6,hy];simp
def MP (xs:G0 α)(c g:α->D)(hz:xs.length<=1000)(hj:j h=some (xs.map c))(ht: ∀R:ItD->HD->Prop,R j h->ti σ h R)
 (he: ∀x∈xs,∀Q':KD,Q' (g x) h->te ((jM js σ).set i (some (c x))) h Q')(hq:Q (.tup (xs.map g)) h):ĝ Yj (zj (vw (bN i) js ti vj te) JM) σ h Q:=by
 show vw (bN i) js ti vj te σ h (λx h1=>Yj [x] h1 Q);exact lcA xs c g hz hj ht he λp hp=>(show ∃ys,zm h p (xs.map g) p=some ys/\Q (.tup ys) (YG (zm h p (xs.map g)) p) from ⟨_,jc,by rw [zf hp];exact hq⟩)
def Tz (xs:G0 α)(c g:α->D)(p:α->N0){tt:TTD}(hz:xs.length<=1000)(hj:j h=some (xs.map c))(ht: ∀R:ItD->HD->Prop,R j h->ti σ h R)
 (hp: ∀x∈xs,∀Q':N0->HD->Prop,Q' (p x) h->tt ((jM js σ).set i (some (c x))) h Q')(he: ∀x∈xs,p x=true-> ∀Q':KD,Q' (g x) h->te ((jM js σ).set i (some (c x))) h Q')(hq:Q (.tup ((xs.filter p).map g)) h):ĝ Yj (zj (vw (bN i) js ti tt te) JM) σ h Q:=by
 show vw (bN i) js ti tt te σ h (λx h1=>Yj [x] h1 Q);exact lcF xs c g p hz hj ht hp he λa ha=>(show ∃ys,zm h a ((xs.filter p).map g) a=some ys/\Q (.tup ys) (YG (zm h a ((xs.filter p).map g)) a) from ⟨_,jc,by rw [zf ha];exact hq⟩)
def HP (xs:G0 α)(c:α->D)(g:α->P4)(hz:xs.length<=1000)(hj:j h=some (xs.map c))(ht: ∀R:ItD->HD->Prop,R j h->ti σ h R)
 (he: ∀x∈xs,∀Q':KD,Q' (.int (g x)) h->te ((jM js σ).set i (some (c x))) h Q')(hq:Q (.int (xs.map g).sum) h):ĝ Tq (zj (vw (bN i) js ti vj te) JM) σ h Q:=by
 show vw (bN i) js ti vj te σ h (λx h1=>Tq [x] h1 Q);exact lcA xs c (λx=> .int (g x)) hz hj ht he λp hp=>⟨p,xs.map g,rfl,by rw [jc,M7];rfl,by rw [zf hp];exact hq⟩
def TB (xs:G0 α)(c:α->D)(g:α->N0)(hz:xs.length<=1000)(hj:j h=some (xs.map c))(ht: ∀R:ItD->HD->Prop,R j h->ti σ h R)
 (he: ∀x∈xs,∀Q':KD,Q' (.bl (g x)) h->te ((jM js σ).set i (some (c x))) h Q')(hq:Q (.bl (xs.all g)) h):ĝ Np (zj (vw (bN i) js ti vj te) JM) σ h Q:=by
 show vw (bN i) js ti vj te σ h (λx h1=>Np [x] h1 Q);exact lcA xs c (λx=> .bl (g x)) hz hj ht he λp hp=>⟨p,xs.map g,rfl,by rw [jc,M7];rfl,by rw [zf hp,aV];exact hq⟩
def KM (xs:G0 α)(c:α->D)(g:α->N0)(hz:xs.length<=1000)(hj:j h=some (xs.map c))(ht: ∀R:ItD->HD->Prop,R j h->ti σ h R)
 (he: ∀x∈xs,∀Q':KD,Q' (.bl (g x)) h->te ((jM js σ).set i (some (c x))) h Q')(hq:Q (.bl (xs.any g)) h):ĝ anyF (zj (vw (bN i) js ti vj te) JM) σ h Q:=by
 show vw (bN i) js ti vj te σ h (λx h1=>anyF [x] h1 Q);exact lcA xs c (λx=> .bl (g x)) hz hj ht he λp hp=>⟨p,xs.map g,rfl,by rw [jc,M7];rfl,by rw [zf hp,qJ];exact hq⟩
def KN (xs:G0 α)(c:α->D)(ys:α->G0 β)(c':β->D)(g:α->β->N0)(hz:(xs.flatMap ys).length<=1000)(hj:j h=some (xs.map c))(ht: ∀R:ItD->HD->Prop,R j h->ti σ h R)
 (hin: ∀x∈xs,∀R:ItD->HD->Prop,R (λ_=>some ((ys x).map c')) h->İ ((jM js σ).set i (some (c x))) h R)
 (he: ∀x∈xs,∀y∈ys x,∀Q':KD,Q' (.bl (g x y)) h->te (((jM js σ).set i (some (c x))).set i' (some (c' y))) h Q')(hq:Q (.bl (xs.all λx=>(ys x).all (g x))) h):ĝ Np (zj (Nl (bN i) js ti vj i' İ vj te) JM) σ h Q:=by
 show Nl (bN i) js ti vj i' İ vj te σ h (λx h1=>Np [x] h1 Q);refine lcB xs c ys c' (λx y=> .bl (g x y)) hz hj ht hin he λp hp=> ?_
 ·have e:(xs.flatMap λx=>(ys x).map λy=>D.bl (g x y))=(xs.flatMap λx=>(ys x).map (g x)).map D.bl:=by
   clear hz hj ht hin he hq
   induction xs with
   |nil=>rfl
   |cons x l ih=>simp [cZ,ih,M7]
  refine⟨p,xs.flatMap λx=>(ys x).map (g x),rfl,by rw [jc,e],?_⟩;rw [zf hp];have e2:(xs.flatMap λx=>(ys x).map (g x)).all id=xs.all λx=>(ys x).all (g x):=by
   clear hz hj ht hin he hq e
   induction xs with
   |nil=>rfl
   |cons x l ih=>simp [cZ,ih,aV]
  rw [e2];exact hq
end
end L2
namespace L2
open PySem PySem.Spec PyProof.Rows PySem.SeqAt
noncomputable def wN (o:G0 G8):D:= .tup (o.map λ(k:G8)=>D.int (k:P4))
def ĩ (n:G8)(o:G0 G8):Prop:=o.Perm (D6 n)
variable {n:G8}
def ĩ.ord {o:G0 G8}(h:ĩ n o):Ord n o:=⟨by rw [h.length_eq,S9],λi hi=>h.mem_iff.mpr (S4.mpr hi)⟩
noncomputable def GN (o:G0 G8):G0 P4:=o.map λ(k:G8)=>(k:P4)
def FU (o:G0 G8):wN o= .tup ((GN o).map D.int):=by unfold wN GN;rw [M7];rfl
def ĩ.insert {o:G0 G8}(h:ĩ n o)(k:G8):ĩ (n+1) (o.take k++n::o.drop k):=by
 unfold ĩ;rw [fC];refine mF.trans ?_;rw [N2];exact(G0T n h).trans (List.perm_append_singleton n _).symm
theorem Wb (h:HD): ∀ns:G0 P4,Ć h (ns.map D.int) (ns.map gU)
 | []=>rfl
 |n::ns=>⟨_,_,rfl,rfl,Wb h ns⟩
theorem vN: ∀ns:G0 P4,A0 (ns.map gU)=true
 | []=>rfl
 |n::ns=>by show (L7 (.int n)&&_)=true;rw [vN ns];rfl
theorem JP: ∀ns:G0 P4,C4 (ns.map gU)<=1
 | []=>by simp [C4]
 |n::ns=>by
  have:=JP ns;simp only [M0,C4,A1];omega
noncomputable def wF (r:G0 P4):W6:= .tuple (r.map .int)
noncomputable def wz (T:G0 (G0 P4)):W6:= .tuple (T.map wF)
theorem VZ (h:HD): ∀T:G0 (G0 P4),Ć h (T.map zM) (T.map wF)
 | []=>rfl
 |r::T=>⟨_,_,rfl,⟨_,rfl,Wb h r⟩,VZ h T⟩
def yN (h:HD)(T:G0 (G0 P4)):Ĩ h (jj T) (wz T):=⟨_,rfl,VZ h T⟩
theorem yi: ∀T:G0 (G0 P4),A0 (T.map wF)=true
 | []=>rfl
 |r::T=>by
  show (L7 (wF r)&&_)=true;rw [yi T];have:L7 (wF r)=true:=by unfold wF;simp only [L7];exact vN r
  rw [this];rfl
theorem wY: ∀T:G0 (G0 P4),C4 (T.map wF)<=3
 | []=>by simp [C4]
 |r::T=>by
  have:=wY T;have h2:=JP r;simp only [M0,C4,A1,wF];omega
def vk (T:G0 (G0 P4)):shaped (wz T)=true:=by
 unfold shaped;have h1:L7 (wz T)=true:=by unfold wz;simp only [L7];exact yi T
 have h2:=wY T;have h3:A1 (wz T)<=64:=by unfold wz;simp only [A1];omega
 rw [h1,M1 h3];rfl
variable {e:G8}{T:G0 (G0 P4)}
def DO (h:Sq n e T){i:G8}(hi:i<n):Ģ (T.map zM) (i:P4)=some (zM (T.getD i [])):=by
 have hi':i<T.length:=by rw [h.len];exact hi
 exact wJ (by rw [P7,R4,G5 hi'];rfl)
def Sq.getRow (h:Sq n e T){i:G8}(hi:i<n):T.getD i []∈T:=by
 have hi':i<T.length:=by rw [h.len];exact hi
 rw [R4,G5 hi'];exact N6 hi'
def Wc {r:G0 P4}(h:r.length=n){j:G8}(hj:j<n):Ģ (r.map D.int) (j:P4)=some (.int (r.getD j 0)):=by
 have hj':j<r.length:=by rw [h];exact hj
 exact wJ (by rw [P7,R4,G5 hj'];rfl)
def Ef (n:G8)(f:G8->G8->P4):D.tup ((D6 n).map λi=>D.tup ((D6 n).map λj=>D.int (f i j)))=jj (ŝ n f):=by
 unfold jj zM ŝ;rw [M7]
 congr 1
 apply B2;intro i _;simp [M7,c9]
def DP (T:G0 (G0 P4))(f:P4->P4):D.tup (T.map λr=>D.tup (r.map λx=>D.int (f x)))=jj (T.map λr=>r.map f):=by
 unfold jj zM;rw [M7]
 congr 1
 apply B2;intro r _;simp [M7,c9]
def DQ (h:Sq n e T):zL n T=T.map λr=>r.map λx=>if x≠0 then 1 else 0:=by
 conv=>rhs;rw [h.eq_mk]
 unfold zL ŝ;rw [M7];apply B2;intro i _;simp only [cA,M7];apply B2;intro j _;simp only [cA]
 by_cases z:á T i j=0
 ·rw [R6 z,R9 (by simpa using z)]
 ·rw [R9 z,R6 z]
def NB (h:Sq n e T)(h6:n<=6):(T.flatMap λr=>r).length<=1000:=by
 have: ∀U:G0 (G0 P4),(∀r∈U,r.length=n)->(U.flatMap λr=>r).length=U.length*n:=λU=>by
  induction U with
  |nil=>intro _;simp
  |cons r U ih=>
   intro hU;rw [cZ,P1,ih λr hr=>hU r (S1 _ hr),hU r D3,D2,iK];omega
 rw [this T h.row,h.len];have:=Nat.mul_le_mul h6 h6;omega
def QH {U:G0 (G0 P4)}(h:Sq n e T):(T.map λr=>D.tup ((D6 n).map λj=>D.int (jX n λm=>r.getD m 0*á U m j)))=(ZA n T U).map zM:=by
 conv=>lhs;rw [jT T [],h.len]
 unfold ZA ŝ;rw [M7,M7];apply B2;intro i _;simp only [cA,zM,M7];rfl
theorem pow_add (h:Sq n e T)(hn:n<=8)(a:G8): ∀b,Pz n T (a+b)=ZA n (Pz n T a) (Pz n T b)
 |0=>by rw [show Pz n T 0=Py n from rfl,NA (h.pow hn a) hn];rfl
 |b+1=>by
  show ZA n (Pz n T (a+b)) T=ZA n (Pz n T a) (ZA n (Pz n T b) T);rw [pow_add h hn a b,mul_assoc (h.pow hn a) (h.pow hn b) h hn]
def FV (h:Sq n e T)(hn:n<=8):Pz n T 1=T:=Nz h hn
variable {i:G8}
def Ua {f j:G8}{U:G0 (G0 P4)}(h:Sq n e T)(g:Sq n f U)(hi:i<n)(hj:j<n):á (ZA n T U) i j≠0↔ ∃k,k<n/\á T i k≠0/\á U k j≠0:=by
 rw [vM hi hj];have nn: ∀k,k<n->0<=á T i k*á U k j:=λk hk=>tV (h.ent_nn hi hk).1 (g.ent_nn hk hj).1
 have s:=YQ nn;have p:=DM nn;constructor
 ·intro z;obtain⟨k,hk,w⟩:=p.mp (by omega);refine⟨k,hk,λq=> ?_,λq=> ?_⟩
  ·rw [q] at w;simp at w
  ·rw [q] at w;simp at w
 ·rintro ⟨k,hk,a,b⟩ z;have c:=(h.ent_nn hi hk).1;have d:=(g.ent_nn hk hj).1;have:0<á T i k*á U k j:=IC (by omega) (by omega);have:=p.mpr ⟨k,hk,this⟩;omega
section
variable {prog:S6}{w:B3}{A:N4}{E:G2->G3->Prop}{s:G3}
variable {items:S5 G2}
def DR {it t:P3}{i n:G8}{d1 d2:P9 P3}{s1 s2:S5 (P9 G2)}{P:dQ->G3->Prop}(a1:s.heap.get? it=some {cls:= .type "tuple_iterator",dict:=d1,data:= .fields #[.ref t,.int i 0],slots:=s1})(a2:s.heap.get? t=some {cls:= .type "tuple",dict:=d2,data:= .seq items n,slots:=s2})
 (more: ∀x h',items[i]? =some x->h'.IsTupleIter it t (i+1)->O9 it s.heap h'->P (.done (.ret x)) {s with heap:=h'})
 (none_:items[i]? =none->D8 (R3 prog w) A (do g8 (.ref it) 0 .none;bT) P E s):D8 (R3 prog w) A (Builtin.«tuple_iterator.__next__» ⟨[.ref it],[]⟩) P E s:=by
 obtain⟨hp,g,d,tk,os⟩:=s
 wp_walk
 rw [K2];cases hx:items[i]? with
 |none=>exact wpAny_bind (dE (none_ hx))
 |some x=>
  refine wpAny_bind (j6 a1 rfl (by simp) (G9 (more x _ hx ⟨_,F7 _ a1 ?_,rfl,?_⟩ (L9 ..))))
  ·rfl
  ·simp [Z8,K4]
def yj {Q:dQ->G3->Prop}(hh:A.handled=none)(hE: ∀h' e,(∀b o,s.heap.get? b=some o->h'.get? b=some o)->(∃o,h'.get? e=some o/\o.cls= .type "StopIteration")->E (.ref e) {s with heap:=h'}):D8 (R3 prog w) A bT Q E s:=by
 obtain⟨hp,g,d,tk,os⟩:=s;unfold bT
 wp_walk
 unfold raiseNew;refine wpAny_bind (wpAny_handled ?_);rw [hh];exact wpAny_bind (G9 (wpAny_throw (hE _ _ (λb o q=>G6 _ (G6 _ q)) ⟨_,R0 _ rfl,rfl⟩)))
def Ym {it t:P3}{i:G8}{x:G2}{Q:G2->G3->Prop}(hit:s.heap.IsTupleIter it t i)(ht:s.heap.IsTuple t items)(hx:items[i]? =some x)
 (hQ: ∀h',h'.IsTupleIter it t (i+1)->O9 it s.heap h'->Q x {s with heap:=h'}):D8 (R3 prog w) A (U8 (.ref it)) Q E s:=by
 obtain⟨⟨c,d1,dt,s1⟩,ho,rfl,rfl⟩:=id hit;obtain⟨⟨c2,d2,dt2,s2⟩,Ű,rfl,nl,rfl⟩:=ht;exact wpAny_bind (F5 hit.typeIs bG (C7 bG hit.typeIs iM (DR ho Ű (λy h' e b1 b2=>⟨y,rfl,G9 (by rw [hx] at e;cases e;exact hQ h' b1 b2)⟩) λe=>by rw [hx] at e;cases e) (iE _)))
def vA {it t:P3}{i:G8}{Q:G2->G3->Prop}(hh:A.handled=none)(hit:s.heap.IsTupleIter it t i)(ht:s.heap.IsTuple t items)(hx:items[i]? =none)
 (hE: ∀h' e,r9 it s.heap h'->(∃o,h'.get? e=some o/\o.cls= .type "StopIteration")->E (.ref e) {s with heap:=h'}):D8 (R3 prog w) A (U8 (.ref it)) Q E s:=by
 obtain⟨⟨c,d1,dt,s1⟩,ho,rfl,rfl⟩:=id hit;obtain⟨⟨c2,d2,dt2,s2⟩,Ű,rfl,nl,rfl⟩:=ht;refine wpAny_bind (F5 hit.typeIs bG (C7 bG hit.typeIs iM (DR ho Ű (λy h' e b1 b2=>by rw [hx] at e;cases e) λ_=>wpAny_bind (j6 ho rfl (by simp) ?_)) (iE _)));exact yj (s:= {s with heap:=_}) hh λh' e grown stop=>hE h' e (λb o ne q=>grown b o ((L9 ..).extBut b o ne q)) stop
end
section
variable {X:Cx}{À:G0 (P3×Obj)}{σ:G0 (P9 V)}{H:Hp}{s:G3}{h':L8}
def Inv.turnL {t':G8}{ch:G0 P3}(I:Inv X À σ H s)(k: ∀b o,b ∉ ch->s.heap.get? b=some o->h'.get? b=some o)(hc: ∀b∈ch,Xf X À H b):Inv X À σ H {s with heap:=h',toks:=t'}:=by
 refine I.step (g':=s.gens) (d':=s.drawn) (ch:=ch) (λb hb=>let ⟨_,f1,_,f3,f4,f5⟩:=hc b hb;⟨f3,f1,f4,f5⟩) (λb o _ _ nb e _=>k b o nb e) (λb o _ _ nb e _=>⟨o.slots,k b o nb e⟩) (λ_ _ _ _ n=>n)
  (λb o nb e=>⟨o,k b o nb e⟩) (λ_ _ e=>e) (λ_ _ _ e=>e) (λb ps e=>⟨#[],by rw [e];simp⟩) (λm hm=> ?_) (λb u e=> ?_) I.bare
 ·obtain⟨o,es,ep,ho,r⟩:=hm;exact⟨o,es,ep,k _ o (λz=>(hc _ z).2.1 rfl) ho,r⟩
 ·refine(I.hok b u e).stay (λc v hb q=>k c v (λz=> ?_) q) (λ_ q=>q) λ_ _ q=>q
  have f:=(hc c z).1;rcases hb with w|w
  ·rw [w,e] at f;cases f
  ·rw [w] at f;cases f
def Inv.turnLaid {t':G8}{ch:G0 P3}{a:P3}{o:HO}(I:Inv X À σ H s)(k: ∀b u,b ∉ ch->s.heap.get? b=some u->h'.get? b=some u)(hc: ∀b∈ch,Xf X À H b)(hp:s.heap.objs.size<=a)
 (new:Ñ X.prog X.w (upd H a o) h' a o):Inv X À σ (upd H a o) {s with heap:=h',toks:=t'}:=by
 have hn:=I.hok.fresh hp;refine I.step (g':=s.gens) (d':=s.drawn) (ch:=ch) (λb hb=>let ⟨_,f1,_,f3,f4,f5⟩:=hc b hb;⟨f3,f1,f4,f5⟩) (λb u _ _ nb e _=>k b u nb e) (λb u _ _ nb e _=>⟨u.slots,k b u nb e⟩)
  (λb u _ e n=>by rw [jq (S8 (N5 (D0 e) hp))];exact n) (λb u nb e=>⟨u,k b u nb e⟩) (λb xs q=>by rw [jq (ji q hn)];exact q) (λb u xs q=>by rw [jq (ji q hn)];exact q)
  (λb ps q=>⟨#[],by rw [jq (ji q hn),q];simp⟩) (λm hm=> ?_) (λb u e=> ?_) I.bare
 ·obtain⟨u,es,ep,ho,r⟩:=hm;exact⟨u,es,ep,k _ u (λz=>(hc _ z).2.1 rfl) ho,r⟩
 ·by_cases hb:b=a
  ·subst hb;rw [jt] at e;cases e;exact new
  ·rw [jq hb] at e;refine(I.hok b u e).stay (λc v hb q=>k c v (λz=> ?_) q) (λc q=>by rw [jq (ji q hn)];exact q) λc xs q=>by rw [jq (ji q hn)];exact q
   have f:=(hc c z).1;rcases hb with w|w
   ·rw [w,e] at f;cases f
   ·rw [w] at f;cases f
end
noncomputable def Ub (ds:G0 D):G0 D:=ds.zipIdx.map λp=> .tup [.int (p.2:P4),p.1]
def YR {ds:G0 D}{d:D}(h:(Ub ds)[i]? =some d): ∃x,ds[i]? =some x/\d= .tup [.int (i:P4),x]:=by
 unfold Ub at h;rw [P7,List.getElem?_zipIdx] at h;cases q:ds[i]? with
 |none=>rw [q] at h;cases h
 |some x=>
  rw [q] at h;refine⟨x,rfl,?_⟩;have h':some (D.tup [.int ((0+i:G8):P4),x])=some d:=h;rw [X5] at h';exact(O0 h').symm
def vO (ds:G0 D):(Ub ds).length=ds.length:=by simp [Ub]
def DS (c:TTD)(tb:TSD):TSD:=λD σ h=> ∃W:G8->SD->HD->Prop,(∃m,W m σ h)/\ ∀m Â h',W m Â h'->c Â h' λb h1=>
 if b=true then tb {D with nx:=λã h2=> ∃m' h3,m'<m/\Sub h3 h2/\W m' ã h3,ct:=λã h2=> ∃m' h3,m'<m/\Sub h3 h2/\W m' ã h3,bk:=D.nx} Â h1 else D.nx Â h1
def NC {K:G7}{c:TTD}{tb:TSD}: ∀D σ H,LS K (DS c tb) D σ H->BN (LT K c) (LS K tb) D σ H:=λD σ H ⟨Å,h,Dd,rs,rh,⟨W,⟨m0,w0⟩,turn⟩,nx,rt,bk,ct⟩=>by
 refine⟨λm Â H'=>Kept H H'/\ ∃Ý h',Ð K H' Ý Â/\Ç K h' H'/\W m Ý h',⟨m0,.refl _,Å,h,rs,rh,w0⟩,?_⟩;rintro m Â H' ⟨kp,Ý,h',rs',ħ,w⟩;refine LT.bind rs' ħ (turn m Ý h' w) λb h1 H1 k1 ß Ë q1=> ?_
 cases b with
 |false=>
  rw [R9 R5] at q1 ⊢;exact nx _ _ _ _ (kp.trans k1) ß Ë q1
 |true=>
  rw [R6 rfl] at q1 ⊢;have kk:Kept H H1:=kp.trans k1;refine⟨λã H2=>Kept H H2/\ ∃m',m'<m/\ ∃ð h2,Ð K H2 ð ã/\Ç K h2 H2/\W m' ð h2,λã H2 ⟨k2,m',hm,a,b,c,d,e⟩=>⟨m',hm,k2,a,b,c,d,e⟩,?_⟩;exact⟨Ý,h1,_,ß,Ë,q1,λa b c d k4 ŷ ő ⟨m',h4,hm,sb,w4⟩=>⟨kk.trans k4,m',hm,a,h4,ŷ,ő.sub sb,w4⟩,jI rt kk,λa b c d k4 ŷ ő q4=>nx a b c d (kk.trans k4) ŷ ő q4,λa b c d k4 ŷ ő ⟨m',h4,hm,sb,w4⟩=>⟨kk.trans k4,m',hm,a,h4,ŷ,ő.sub sb,w4⟩⟩
section
variable {X:Cx}{pos:Pos}
def BX {c:M6}{body:G0 K9}{tc:TTD}{tb:TSD}(hp:oW (R3 X.prog X.w) X.A X.env X.xe)(hc:JT X c tc)(hb:ŧ X body tb):JS X (.While c body [] pos) (DS tc tb):=⟨(MU hp hc.to hb.to).imp NC⟩
end
def QJ {c:TTD}{tb:TSD}{E:EndsD}{σ:SD}{h:HD}(W:G8->SD->HD->Prop)(m:G8)(w0:W m σ h)
 (turn: ∀m Â h',W m Â h'->c Â h' λb h1=>if b=true then tb {E with nx:=λã h2=> ∃m' h3,m'<m/\Sub h3 h2/\W m' ã h3,ct:=λã h2=> ∃m' h3,m'<m/\Sub h3 h2/\W m' ã h3,bk:=E.nx} Â h1 else E.nx Â h1):DS c tb E σ h:=⟨W,⟨m,w0⟩,turn⟩
def Off (W:G0 P3)(h h':L8):Prop:=h'.objs.size=h.objs.size/\ ∀b o,b ∉ W->h.get? b=some o->h'.get? b=some o
def Off.refl (W:G0 P3)(h:L8):Off W h h:=⟨rfl,λ_ _ _ e=>e⟩
def Off.of {c:P3}{W:G0 P3}{h h':L8}(x:O9 c h h')(m:c∈W):Off W h h':=⟨x.1,λb o n e=>x.extBut b o (λq=>n (q ▸ m)) e⟩
def Off.trans {W:G0 P3}{h h' h'':L8}(x:Off W h h')(y:Off W h' h''):Off W h h'':=⟨y.1.trans x.1,λb o n e=>y.2 b o n (x.2 b o n e)⟩
noncomputable abbrev DT (f0:G2)(b1:N0)(TI TO:P3):Obj:= {cls:= .type "zip",dict:=none,data:= .fields #[f0,.bool b1,.bool false,.ref TI,.ref TO],slots:= #[]}
def è (h:L8)(z TI TO:P3):Prop:= ∃f0 b1,h.get? z=some (DT f0 b1 TI TO)/\(f0= .none\/ ∃a t,f0= .int a t)
def è.off {h h':L8}{z TI TO:P3}{W:G0 P3}(Z:è h z TI TO)(o:Off W h h')(n:z ∉ W):è h' z TI TO:=let ⟨f,b,e,q⟩:=Z;⟨f,b,o.2 _ _ n e,q⟩
section
variable {prog:S6}{w:B3}{A:N4}{E:G2->G3->Prop}{s:G3}{z TI TO i1 i2:P3}
def ND {Q:N0->G3->Prop}(Z:è s.heap z TI TO)(k: ∀b h',è h' z TI TO->Off [z] s.heap h'->Q b {s with heap:=h'}):D8 (R3 prog w) A (pK (.ref z)) Q E s:=by
 obtain⟨f0,b1,hz,hf⟩:=id Z;have stay:=λb=>k b s.heap Z (Off.refl _ _)
 rcases hf with rfl|⟨a,t,rfl⟩
 ·wp_walk
  exact stay true
 ·have read: ∀ {P:P9 Obj->G3->Prop} {E':G2->G3->Prop},P (s.heap.get? a.toNat) s->D8 (R3 prog w) A (loadIfAlive a.toNat) P E' s:=λp _ _ _=>p
  wp_walk using read
  cases s.heap.get? a.toNat with
  |none=>exact G9 (stay true)
  |some o=>
   wp_walk
   cases b1 with
   |true=>exact G9 (stay false)
   |false=>exact wpAny_bind <| wpAny_setField_rec hz (by simp) λh' z' same=>G9 (k false h' ⟨_,_,z',.inr ⟨a,t,rfl⟩⟩ (.of same (by simp)))
structure Ŕ (z TI TO i1 i2:P3):Prop where
 z1:z≠i1
 z2:z≠i2
 zO:z≠TO
 zI:z≠TI
 O1:TO≠i1
 O2:TO≠i2
 OI:TO≠TI
 I1:TI≠i1
 I2:TI≠i2
abbrev Eg (z:P3)(h:L8)(E:G2->G3->Prop):G2->G3->Prop:=λe s'=>(∀o,h.get? z=some o->s'.heap.get? z=some o)/\ ∀h',r9 z s'.heap h'->E e {s' with heap:=h'}
def DU {Q:G2->G3->Prop}(ap:Ŕ z TI TO i1 i2)(Z:è s.heap z TI TO)(hTI:bH s.heap TI (.ref i1) (.ref i2))(hTO: ∃a b,bH s.heap TO a b)
 (go: ∀h₁,Off [z] s.heap h₁->(∃o,h₁.get? z=some o/\o.cls= .type "zip")->D8 (R3 prog w) A (U8 (.ref i1)) (λx s₁=>Off [i1] h₁ s₁.heap/\ ∀î,Off [TO] s₁.heap î->
  D8 (R3 prog w) A (U8 (.ref i2)) (λy s₂=>Off [i2] î s₂.heap/\ ∀č,(∀b o,b ∉ [z,TO]->s₂.heap.get? b=some o->č.get? b=some o)->bH č s₂.heap.objs.size x y->
   è č z TI TO->bH č TI (.ref i1) (.ref i2)->(∃a b,bH č TO a b)->Q (.ref s₂.heap.objs.size) {s₂ with heap:=č}) (Eg z î E) {s₁ with heap:=î}) (Eg z h₁ E) {s with heap:=h₁}):
 D8 (R3 prog w) A (Builtin.«zip.__next__» ⟨[.ref z],[]⟩) (λfin s'=> ∃v,fin= .done (.ret v)/\Q v s') E s:=by
 obtain⟨f0,b1,hz,hf⟩:=id Z;have ask:=λ{P:N0->G3->Prop} {E':G2->G3->Prop} (k: ∀b h',è h' z TI TO->Off [z] s.heap h'->P b {s with heap:=h'})=>ND (prog:=prog) (w:=w) (A:=A) (E:=E') Z k
 wp_walk using ask
 intro b h₀ X02 ŕ;have X1j:=ŕ.2 _ _ (by simp [ap.zI.symm]) hTI;obtain⟨a',b',X1k⟩: ∃a b,bH h₀ TO a b:=let ⟨a,b,e⟩:=hTO;⟨a,b,ŕ.2 _ _ (by simp [ap.zO.symm]) e⟩;cases b with
 |false=>
  have d1:=go h₀ ŕ (let ⟨_,_,e,_⟩:=X02;⟨_,e,rfl⟩);rw [R9 (by decide)];refine wpAny_bind ?_;rw [<-U0];simp only [bQ,tW];refine wpAny_bind (wpAny_bind (O5 ?_));refine wpAny_bind (m:=U8 (.ref i1)) (T7 d1 (λx s₁ d=>G9 (G9 ?_)) λe s' f=>f.2 s'.heap λ_ _ _ e=>e);obtain⟨o1,d2⟩:=d;refine wpAny_bind (wpAny_bind (O5 ?_));refine wpAny_bind (m:=U8 (.ref i2)) (T7 (d2 s₁.heap (.refl _ _)) (λy s₂ d=>G9 (G9 (G9 ?_))) λe s' f=>f.2 s'.heap λ_ _ _ e=>e);obtain⟨o2,fin⟩:=d;show D8 _ _ (newTuple [x,y] >>= _) _ _ _;have n1: ∀ {b},b≠i1->b ∉ [i1]:=λh=>by simpa using h
  have n2: ∀ {b},b≠i2->b ∉ [i2]:=λh=>by simpa using h
  have X1I:=(X02.off o1 (n1 ap.z1)).off o2 (n2 ap.z2);have keep: ∀ {b o},b≠i1->b≠i2->h₀.get? b=some o->(s₂.heap.push {cls:= .type "tuple",data:= .seq #[x,y]}).get? b=some o:=λq1 q2 e=>G6 _ (o2.2 _ _ (n2 q2) (o1.2 _ _ (n1 q1) e))
  refine wpAny_bind (oF (G9 ⟨_,rfl,fin _ (λb o _ e=>G6 _ e) (R0 _ rfl) ?_ (keep ap.I1 ap.I2 X1j) ⟨_,_,keep ap.O1 ap.O2 X1k⟩⟩));exact let ⟨f,b,e,q⟩:=X1I;⟨f,b,G6 _ e,q⟩
 |true=>
  obtain⟨f0',b1',X03,_⟩:=X02;have note:=λ{P:Unit->G3->Prop} {E':G2->G3->Prop} (k: ∀h',h'.get? z=some (DT .ellipsis b1' TI TO)->O9 z h₀ h'->P () {s with heap:=h'})=>
   wpAny_setField_rec (prog:=prog) (w:=w) (A:=A) (E:=E') (s:= {s with heap:=h₀}) (k:=0) (x:= .ellipsis) X03 (by simp) k
  wp_walk using note
  intro h₁ X04 ï;have ć:Off [z] s.heap h₁:=ŕ.trans (.of ï (by simp));have X1J:=ï.extBut _ _ ap.zO.symm X1k;have X1K:=ï.extBut _ _ ap.zI.symm X1j;have X1l: ∀ {h:L8} {e:G2} {s':G3},h.get? z=some (DT .ellipsis b1' TI TO)->Eg z h E e s'->D8 (R3 prog w) A (g8 (.ref z) 0 .none) (λ_ s''=>E e s'') E s':=λı f=>
   wpAny_setField_rec (f.1 _ ı) (by simp) λh' _ same=>f.2 h' same.extBut
  have draw:=λ{P:G2->G3->Prop} {E':G2->G3->Prop} (k: ∀x s₁,_->P x s₁) (f: ∀e s',Eg z h₁ E e s'->E' e s')=>T7 (go h₁ ć ⟨_,X04,rfl⟩) k f
  wp_walk using u3,draw
  case f=>exact λe s' f=>X1l X04 f
  intro x s₁ ⟨o1,go2⟩;have X1L:=o1.2 _ _ (by simp [ap.z1]) X04;have X1M:bH s₁.heap TO a' b':=o1.2 _ _ (by simp [ap.O1]) X1J;have X1N:=o1.2 _ _ (by simp [ap.I1]) X1K;have lay:=λ{P:Unit->G3->Prop} {E':G2->G3->Prop}=>oG (prog:=prog) (w:=w) (A:=A) (E:=E') (s:=s₁) (k:=0) (x:=x) (Q:=P) X1M
  wp_walk using lay
  intro î X05 õ
  replace X05:bH î TO x b':=X05
  have X1m:=õ.extBut _ _ ap.zO X1L;have X1O:=õ.extBut _ _ ap.OI.symm X1N;have X06:=λ{P:G2->G3->Prop} {E':G2->G3->Prop} (k: ∀y s₂,_->P y s₂) (f: ∀e s',Eg z î E e s'->E' e s')=>T7 (go2 î (.of õ (by simp))) k f
  wp_walk using u3,X06
  case f=>exact λe s' f=>X1l X1m f
  intro y s₂ ⟨o2,fin⟩;have X1P:=o2.2 _ _ (by simp [ap.z2]) X1m;have X1Q:bH s₂.heap TO x b':=o2.2 _ _ (by simp [ap.O2]) X05;have X1R:=o2.2 _ _ (by simp [ap.I2]) X1O;have X1S:=λ{P:Unit->G3->Prop} {E':G2->G3->Prop}=>oG (prog:=prog) (w:=w) (A:=A) (E:=E') (s:=s₂) (k:=1) (x:=y) (Q:=P) X1Q
  wp_walk using X1S
  intro Ÿ X07 Ĳ
  replace X07:bH Ÿ TO x y:=X07
  have X1n:=Ĳ.extBut _ _ ap.zO X1P;have X1T:=Ĳ.extBut _ _ ap.OI.symm X1R
  wp_walk
  have size:Ÿ.objs.size=s₂.heap.objs.size:=Ĳ.1;have zp:=G6 {cls:= .type "tuple",data:= .seq #[x,y]} X1n;have zu:=F7 (Z8 λv=>v.setIfInBounds 0 (K4 Ÿ.objs.size)) zp rfl;have zu':=F7 (Z8 λv=>v.setIfInBounds 1 (iR false)) zu rfl;have away: ∀ {b o},b≠z->(Ÿ.push {cls:= .type "tuple",data:= .seq #[x,y]}).get? b=some o->
   (((Ÿ.push {cls:= .type "tuple",data:= .seq #[x,y]}).update z (Z8 λv=>v.setIfInBounds 0 (K4 Ÿ.objs.size))).update z (Z8 λv=>v.setIfInBounds 1 (iR false))).get? b=some o:=λn e=>
   (L9 ..).extBut _ _ n ((L9 ..).extBut _ _ n e)
  have new:=away (b:=Ÿ.objs.size) (λq=>C1 _ (q ▸ D0 X1n)) (R0 _ rfl);refine⟨_,rfl,?_⟩;have done:=fin _ (λb o n e=>away (λq=>n (by simp [q])) (G6 _ (Ĳ.extBut _ _ (λq=>n (by simp [q])) e))) (size ▸ new) ⟨_,_,zu',.inr ⟨_,_,rfl⟩⟩ (away ap.zI.symm (G6 _ X1T)) ⟨_,_,away ap.zO.symm (G6 _ X07)⟩;rw [<-size] at done;exact done
def FW {tg : M6} {v : G2} {Q : Unit → G3 → Prop} (Z : è s.heap z TI TO) (k : ∀ h', è h' z TI TO → Off [z] s.heap h' → Q () { s with heap := h' }) : D8 (R3 prog w) A (aK tg (.ref z) v) Q E s := by
  obtain ⟨f0, b1, hz, hf⟩ := id Z
  have stay := k s.heap Z (.refl _ _)
  have gone : D8 (R3 prog w) A (updateField z 0 .none) Q E s := wpAny_setField_rec (k := 0) (x := .none) hz (by simp) fun h' z' same => k h' ⟨_, _, z', .inl rfl⟩ (.of same (by simp))
  unfold aK
  cases tg <;> first
    | exact G9 stay
    | (cases v <;> wp_walk <;> first
        | exact stay
        | (split
           · exact wpAny_bind (dE gone)
           · exact G9 stay))
def NE {Q:P9 G2->G3->Prop}(Z:è s.heap z TI TO)
 (h:D8 (R3 prog w) A.in1 (Builtin.«zip.__next__» ⟨[.ref z],[]⟩) (λfin s'=> ∃v,fin= .done (.ret v)/\Q (some v) s') (λe s'=>s'.TypeIs e "StopIteration" /\Q none s') s):D8 (R3 prog w) A (iU (.ref z)) Q E s:=by
 obtain⟨_,_,hz,_⟩:=Z;have ty:s.TypeIs (.ref z) "zip" :=⟨_,hz,rfl⟩;have asked:=C7 sK ty F.entry_zip_next h (F.args_zip_next_1 _);exact wpAny_bind (cP (F5 (name:= "__next__") ty sK (T7 asked (λ_ _ q=>G9 q) λe s' q=>wpAny_bind (aZ (b:=true) q.1 j7 (G9 q.2)))))
def NF {l1 l2:P3}{xs ys:S5 G2}{P:dQ->G3->Prop}(t1:s.heap.IsTuple l1 xs)(t2:s.heap.IsTuple l2 ys)
 (h: ∀h' n,n=s.heap.objs.size->è h' (n+4) (n+2) (n+3)->bH h' (n+2) (.ref n) (.ref (n+1))->(∃a b,bH h' (n+3) a b)->h'.IsTupleIter n l1 0->h'.IsTupleIter (n+1) l2 0->
  (∀b o,s.heap.get? b=some o->h'.get? b=some o)->P (.done (.ret (.ref (n+4)))) {s with heap:=h'}):
 D8 (R3 prog w) A (Builtin.«zip.__new__» ⟨[.type "zip",.ref l1,.ref l2],[]⟩) P E s:=by
 have X1o:=sub_zip;obtain⟨hp,g,d,tk,os⟩:=s;have first:xN (Shared.heap ⟨hp,g,d,tk,os⟩) l1 xs:=t1
 have second: ∀o,xN (Shared.heap ⟨hp.push o,g,d,tk,os⟩) l2 ys:=λo=>Heap.IsTuple.push t2 o
 wp_walk using bF first,bF (second _)
 have size: ∀ (q:L8) o,(q.push o).objs.size=q.objs.size+1:=λq o=>cE ..
 have n2: ∀o1 o2,((hp.push o1).push o2).objs.size=hp.objs.size+2:=λ_ _=>by rw [size,size]
 have n3: ∀o1 o2 o3,(((hp.push o1).push o2).push o3).objs.size=hp.objs.size+3:=λ_ _ _=>by rw [size,n2]
 have n4: ∀o1 o2 o3 o4,((((hp.push o1).push o2).push o3).push o4).objs.size=hp.objs.size+4:=λ_ _ _ _=>by rw [size,n3]
 have up: ∀ {q:L8} {b o} o',q.get? b=some o->(q.push o').get? b=some o:=λo' e=>G6 o' e
 show P (.done (.ret (.ref (Heap.objs (((((hp.push _).push _).push _).push _))).size))) _;rw [n4];have ű:=R0 (hp.push {cls:= .type "tuple_iterator",data:= .fields #[.ref l1,.int 0 0]}) (o:= {cls:= .type "tuple_iterator",data:= .fields #[.ref l2,.int 0 0]}) rfl;rw [size] at ű;have þ: ∀ (q:L8) (o:Obj) (m:G8),q.objs.size=m->o.isFreed=false->(q.push o).get? m=some o:=λq o m e f=>e ▸ R0 q f
 refine h _ hp.objs.size rfl ⟨.none,false,(þ _ _ _ (n4 ..) rfl).trans ?_,.inl rfl⟩ ((up _ (up _ (þ _ _ _ (n2 ..) rfl))).trans ?_) ⟨.none,.none,up _ (þ _ _ _ (n3 ..) rfl)⟩ ⟨_,up _ (up _ (up _ (up _ (R0 _ rfl)))),rfl,rfl⟩ ⟨_,up _ (up _ (up _ ű)),rfl,rfl⟩ λb o e=>up _ (up _ (up _ (up _ (up _ e))))
 ·simp only [size,cQ];rfl
 ·simp only [size];rfl
def Wd {T newId X0y:W1}{pos:G0 G2}{kw:G0 (Str×G2)}{Made:G2->G3->Prop}{Q:G2->G3->Prop}(ft:G0k T newId X0y)(fits:u4 T ⟨pos,kw⟩=pure ())
 (made:D8 (R3 prog w) A.in1 (call (.builtin newId) (.type T::pos) kw) Made E s)
 (begun: ∀o s₁,Made o s₁->s₁.TypeIs o T/\D8 (R3 prog w) A.in1 (qN o "__init__" pos kw) (λr s₂=>r=some .none/\Q o s₂) E s₁):
 D8 (R3 prog w) A (call (.type T) pos kw) Q E s:=by
 have f1:=ft.notType;have f2:=ft.canCreate;have f3:=ft.made;have f4:=ft.sub;obtain⟨_,_,f5⟩:=ft.mro;have first:=λ{Q':G2->G3->Prop} (k: ∀o s₁,Made o s₁->Q' o s₁)=>T7 (E':=E) made k λ_ _ z=>z
 refine mJ (m8 (G9 ⟨Code.quiet_builtin _ (by decide +kernel),Y6 F.entry_type_call ?_⟩));rw [Around.under_plain (weight_type_call_type T pos kw) (units_type_call_type T pos kw)]
 wp_walk using first
 intro o s₁ m;obtain⟨ty,X08⟩:=begun o s₁ m;refine wpAny_bind (aZ (b:=true) ty f4 (wpAny_bind (O5 (T7 X08 (λr s₂ q=> ?_) λ_ _ z=>z))));obtain⟨rfl,q⟩:=q;exact G9 q
def Uc {T newId:W1}{o:G2}{pos:G0 G2}{kw:G0 (Str×G2)}{Q:P9 G2->G3->Prop}(ft:G0k T newId "object.__init__")(other:(some newId !=some "object.__new__")=true)(ty:s.TypeIs o T)
 (fits:xO "object.__init__" ⟨o::pos,kw⟩)(q:Q (some .none) s):D8 (R3 prog w) A (qN o "__init__" pos kw) Q E s:=by
 have f1:=ft.init.lookup;have f2:=ft.made;refine F5 ty ft.init (wpAny_call_entry_kw ft.init ty F.entry_object_init ?_ fits);cases e:(!pos.isEmpty|| !kw.isEmpty)<;>(wp_walk;exact⟨_,rfl,q⟩)
def Ud {l1 l2:P3}{xs ys:S5 G2}{Q:G2->G3->Prop}(t1:s.heap.IsTuple l1 xs)(t2:s.heap.IsTuple l2 ys)
 (h: ∀h' n,n=s.heap.objs.size->è h' (n+4) (n+2) (n+3)->bH h' (n+2) (.ref n) (.ref (n+1))->(∃a b,bH h' (n+3) a b)->h'.IsTupleIter n l1 0->h'.IsTupleIter (n+1) l2 0->
  (∀b o,s.heap.get? b=some o->h'.get? b=some o)->Q (.ref (n+4)) {s with heap:=h'}):D8 (R3 prog w) A (call (.type "zip") [.ref l1,.ref l2]) Q E s:=
 Wd (Made:=λo s₁=>s₁.TypeIs o "zip" /\Q o s₁) xP (F.typeCall_zip_2 _ _)
  (mJ (g9 F.called_zip.plain F.entry_zip_new (rX (F.newCall_zip_2 _ _) (NF t1 t2 λh' n en zp i o a b k=>⟨let ⟨_,_,e,_⟩:=zp;⟨_,e,rfl⟩,h h' n en zp i o a b k⟩))))
  λ_ _ ⟨ty,q⟩=>⟨ty,Uc xP (by decide) ty (F.args_object_init_3 _ _ _) ⟨rfl,q⟩⟩
end
noncomputable def Itz (K : G7) (a b : P3) : It :=
  ⟨fun i H => ∃ xs ys x y, ä K H a xs ∧ ä K H b ys ∧ xs[i]? = some x ∧ ys[i]? = some y,
   fun i H x H' => ∃ p v u, H p = none ∧ (∀ xs, ä K H a xs → xs[i]? = some v) ∧ (∀ ys, ä K H b ys → ys[i]? = some u) ∧ x = .ref p ∧ H' = upd H p (.tup [v, u]),
   fun i H => ∃ xs ys, ä K H a xs ∧ ä K H b ys ∧ (xs.length ≤ i ∨ ys.length ≤ i)⟩
def Ue {prog:S6}{w:B3}{A:N4}{Q:P9 G2->G3->Prop}{E:G2->G3->Prop}{s:G3}{z TI TO i1 i2 l1 l2:P3}{xs ys:S5 G2}(calm:A.handled=none)(ap:Ŕ z TI TO i1 i2)(n1:l1 ∉ [z,TO,i1,i2])(n2:l2 ∉ [z,TO,i1,i2])(i12:i1≠i2)
 (Z:è s.heap z TI TO)(hTI:bH s.heap TI (.ref i1) (.ref i2))(hTO: ∃a b,bH s.heap TO a b)(t1:s.heap.IsTuple l1 xs)(t2:s.heap.IsTuple l2 ys)(ű:s.heap.IsTupleIter i1 l1 i)(at2:s.heap.IsTupleIter i2 l2 i)
 (pair: ∀x y h' tk,xs[i]? =some x->ys[i]? =some y->(∀b o,b ∉ [z,TO,i1,i2]->s.heap.get? b=some o->h'.get? b=some o)->bH h' s.heap.objs.size x y->è h' z TI TO->bH h' TI (.ref i1) (.ref i2)->(∃a b,bH h' TO a b)->
  h'.IsTupleIter i1 l1 (i+1)->h'.IsTupleIter i2 l2 (i+1)->Q (some (.ref s.heap.objs.size)) {s with heap:=h',toks:=tk})
 (ended:(xs.size<=i\/ys.size<=i)-> ∀h' tk,(∀b o,b ∉ [z,TO,i1,i2]->s.heap.get? b=some o->h'.get? b=some o)->Q none {s with heap:=h',toks:=tk}):D8 (R3 prog w) A (iU (.ref z)) Q E s:=by
 have sub: ∀ {b:P3} {W:G0 P3},b ∉ [z,TO,i1,i2]->(∀c∈W,c∈ [z,TO,i1,i2])->b ∉ W:=λn m q=>n (m _ q)
 have z': ∀c∈ [z],c∈ [z,TO,i1,i2]:=by simp
 have o': ∀c∈ [TO],c∈ [z,TO,i1,i2]:=by simp
 have a': ∀c∈ [i1],c∈ [z,TO,i1,i2]:=by simp
 have b': ∀c∈ [i2],c∈ [z,TO,i1,i2]:=by simp
 have zo: ∀c∈ [z,TO],c∈ [z,TO,i1,i2]:=by simp
 refine NE Z (DU ap Z hTI hTO λh₁ ć isz=> ?_);have u1:h₁.IsTuple l1 xs:=t1.at λo e=>ć.2 _ _ (sub n1 z') e
 have v1:h₁.IsTupleIter i1 l1 i:=ű.at λo e=>ć.2 _ _ (by simp [ap.z1.symm]) e
 have stop: ∀ {h h':L8} {it e:P3},z≠it->r9 it h h'->(∃o,h.get? z=some o/\o.cls= .type "zip")->(∃o,h'.get? e=some o/\o.cls= .type "StopIteration")->e≠z:=λnz x ⟨o,e1,c1⟩ ⟨o2,e2,c2⟩ q=>by
  subst q;rw [x _ _ nz e1] at e2;cases e2;rw [c1] at c2;simp at c2
 cases hx:xs[i]? with
 |none=>
  refine vA (s:= {s with heap:=h₁}) calm v1 u1 hx λh' e grown st=>⟨λo q=>grown _ _ ap.z1 q,λh2 k=>⟨?_,ended (.inl (A8.mp hx)) _ _ λb o n q=>k _ _ (λy=>sub n z' (by simp [y])) (grown _ _ (λy=>sub n a' (by simp [y])) (ć.2 _ _ (sub n z') q))⟩⟩
  have ne:=stop ap.z1 grown isz st;obtain⟨o,q,c⟩:=st;exact⟨o,k _ _ ne q,c⟩
 |some x=>
  refine Ym (s:= {s with heap:=h₁}) v1 u1 hx λŹ w1 ï=>⟨.of ï (by simp),λî Ĺ=> ?_⟩
  have all: ∀ {b o},b ∉ [z,TO,i1,i2]->s.heap.get? b=some o->î.get? b=some o:=λn e=>Ĺ.2 _ _ (sub n o') (ï.extBut _ _ (λy=>sub n a' (by simp [y])) (ć.2 _ _ (sub n z') e))
  have u2:î.IsTuple l2 ys:=t2.at λo e=>all n2 e
  have v2:î.IsTupleIter i2 l2 i:=at2.at λo e=>Ĺ.2 _ _ (by simp [ap.O2.symm]) (ï.extBut _ _ i12.symm (ć.2 _ _ (by simp [ap.z2.symm]) e))
  have w2:î.IsTupleIter i1 l1 (i+1):=w1.at λo e=>Ĺ.2 _ _ (by simp [ap.O1.symm]) e
  have X1U: ∃o,î.get? z=some o/\o.cls= .type "zip" :=let ⟨o,e,c⟩:=isz;⟨o,Ĺ.2 _ _ (by simp [ap.zO]) (ï.extBut _ _ ap.z1 e),c⟩;cases hy:ys[i]? with
  |none=>
   refine vA (s:= {s with heap:=î}) calm v2 u2 hy λh' e grown st=>⟨λo q=>grown _ _ ap.z2 q,λh3 k=>⟨?_,ended (.inr (A8.mp hy)) _ _ λb o n q=>k _ _ (λy=>sub n z' (by simp [y])) (grown _ _ (λy=>sub n b' (by simp [y])) (all n q))⟩⟩
   have ne:=stop ap.z2 grown X1U st;obtain⟨o,q,c⟩:=st;exact⟨o,k _ _ ne q,c⟩
  |some y=>
   refine Ym (s:= {s with heap:=î}) v2 u2 hy λh2' w3 õ=>⟨.of õ (by simp),λč kept new zip its out=> ?_⟩
   have size:h2'.objs.size=s.heap.objs.size:=by rw [õ.1,Ĺ.1,ï.1,ć.1]
   have done:=pair x y č s.toks hx hy (λb o n e=>kept _ _ (sub n zo) (õ.extBut _ _ (λy=>sub n b' (by simp [y])) (all n e))) (size ▸ new) zip its out
    (w2.at λo e=>kept _ _ (by simp [ap.z1.symm,ap.O1.symm]) (õ.extBut _ _ i12 e)) (w3.at λo e=>kept _ _ (by simp [ap.z2.symm,ap.O2.symm]) e)
   rw [<-size] at done;exact done
def GO (n:G8):Ŕ (n+4) (n+2) (n+3) n (n+1):=by
 have d: ∀ {i j:G8},i≠j->n+i≠n+j:=λh q=>h (Nat.add_left_cancel q)
 exact⟨d (j:=0) (by decide),d (by decide),d (by decide),d (by decide),d (j:=0) (by decide),d (by decide),d (by decide),d (j:=0) (by decide),d (by decide)⟩
def Uf {c:G8}(h:c<n):c ∉ [n+4,n+3,n,n+1]:=by
 simp only [S0,C5,or_false,not_or];omega
def NG {c:G8}(h:c∈ [n+4,n+2,n+3,n,n+1]):n<=c:=by
 simp only [S0,C5,or_false] at h;omega
def QK {prog:S6}{w:B3}{A:N4}{E:G2->G3->Prop}{s:G3}{z TI TO:P3}{Q:G2->G3->Prop}(Z:è s.heap z TI TO)(h:Q (.ref z) s):D8 (R3 prog w) A (nV (.ref z)) Q E s:=by
 obtain⟨_,_,hz,_⟩:=Z;have ty:s.TypeIs (.ref z) "zip" :=⟨_,hz,rfl⟩;exact gD ty sL (C7 sL ty F.entry_zip_iter (G9 ⟨_,rfl,_,_,ty,F.slot_zip_next.lookup,h⟩) (F.args_zip_iter_1 _))
def NH {P:S6}{w:B3}{K:G7}(tg:M6)(l1 l2 z TI TO i1 i2:P3)(ap:Ŕ z TI TO i1 i2)(n1:l1 ∉ [z,TO,i1,i2])(n2:l2 ∉ [z,TO,i1,i2])(i12:i1≠i2):
 Ŵ P w K tg (Itz K l1 l2) [z,TI,TO,i1,i2] z (λi h=>è h z TI TO/\bH h TI (.ref i1) (.ref i2)/\(∃a b,bH h TO a b)/\h.IsTupleIter i1 l1 i/\h.IsTupleIter i2 l2 i):=by
 have inW: ∀ {b:P3},b ∉ [z,TI,TO,i1,i2]->b ∉ [z,TO,i1,i2]:=λn q=>n (by simp only [S0] at q ⊢;rcases q with q|q|q|q|q<;>simp [q] at*)
 have there: ∀ {i:G8} {h:L8},(è h z TI TO/\bH h TI (.ref i1) (.ref i2)/\(∃a b,bH h TO a b)/\h.IsTupleIter i1 l1 i/\h.IsTupleIter i2 l2 i)-> ∀b∈ [z,TI,TO,i1,i2],∃o,h.get? b=some o/\ ∀v,o.data≠ .cell v:=λ⟨⟨_,_,a1,_⟩,a2,⟨_,_,a3⟩,⟨o4,a4,_,d4⟩,⟨o5,a5,_,d5⟩⟩ b hb=>by
  simp only [S0,C5,or_false] at hb;rcases hb with e|e|e|e|e<;>subst e
  ·exact⟨_,a1,λv z=>by cases z⟩
  ·exact⟨_,a2,λv z=>by cases z⟩
  ·exact⟨_,a3,λv z=>by cases z⟩
  ·exact⟨o4,a4,λv z=>by rw [d4] at z;cases z⟩
  ·exact⟨o5,a5,λv z=>by rw [d5] at z;cases z⟩
 refine⟨by simp,λi h st=>there st,λi h h' ⟨⟨f,b,a1,qf⟩,a2,⟨x,y,a3⟩,a4,a5⟩ q=>⟨⟨f,b,q z (by simp) _ a1,qf⟩,q TI (by simp) _ a2,⟨x,y,q TO (by simp) _ a3⟩,a4.at λo e=>q i1 (by simp) o e,a5.at λo e=>q i2 (by simp) o e⟩,?_,?_,λ_ _ _ _ _ st h=>QK st.1 h⟩
 ·intro X hP hw hK hc i À s σ H E I hf st hg;subst hP hw hK;obtain⟨xs,ys,x,y,hq,hq2,hx,hy⟩:=hg;obtain⟨its,rv,p,_⟩:=I.tuple hq;obtain⟨jts,rw',p2,_⟩:=I.tuple hq2;obtain⟨u,hu,ru⟩:=rv.get hx;obtain⟨v,hv,rv'⟩:=rw'.get hy;obtain⟨a1,a2,a3,a4,a5⟩:=id st;have lt: ∀b∈ [z,TI,TO,i1,i2],b≠s.heap.objs.size:=λb hb=>let ⟨_,e,_⟩:=there st b hb;S8 (D0 e)
  have l1':i<its.toArray.size:=by have:=(P5.mp hu).1;simpa using this
  have l2':i<jts.toArray.size:=by have:=(P5.mp hv).1;simpa using this
  refine Ue (I.ok.hd hc) ap n1 n2 i12 a1 a2 a3 p p2 a4 a5 (λx' y' h' tk Ġ Ł kept new zip it out w1 w2=>⟨_,rfl,?_⟩) λends=>absurd ends (by omega)
  have ex:x'=u:=by simp only [nJ] at Ġ;rw [hu] at Ġ;cases Ġ;rfl
  have ey:y'=v:=by simp only [nJ] at Ł;rw [hv] at Ł;cases Ł;rfl
  subst ex ey;refine FW (s:= {s with heap:=h',toks:=tk}) zip λh2 zip2 off=> ?_
  have hn:H s.heap.objs.size=none:=I.hok.fresh (P2 _);have nz: ∀ {b},b≠z->b ∉ [z]:=λh=>by simpa using h
  have T2:bH h2 s.heap.objs.size x' y':=off.2 _ _ (nz (lt z (by simp)).symm) new;refine⟨.ref s.heap.objs.size,upd H s.heap.objs.size (.tup [x,y]),?_,rfl,⟨_,x,y,hn,λws hw=>by rw [I.tuple_inj hw hq];exact hx,λws hw=>by rw [I.tuple_inj hw hq2];exact hy,rfl,rfl⟩,
   ⟨zip2,off.2 _ _ (nz ap.zI.symm) it,let ⟨a,b,e⟩:=out;⟨a,b,off.2 _ _ (nz ap.zO.symm) e⟩,w1.at λo e=>off.2 _ _ (nz ap.z1.symm) e,w2.at λo e=>off.2 _ _ (nz ap.z2.symm) e⟩,λb hb=> ?_⟩
  ·refine I.turnLaid (h':=h2) (t':=tk) (ch:= [z,TI,TO,i1,i2]) (λb u hb q=>off.2 _ _ (λy=>inW hb (by simp only [P0] at y;simp [y])) (kept b u (inW hb) q)) hf (P2 _) ⟨by show 2<=sizeLine;decide,[x',y'],.cons ru (.cons rv' .nil),⟨_,T2,rfl,rfl,_,rfl⟩⟩
  ·rw [jq (lt b hb)];exact(hf b hb).1
 ·intro X hP hw hK hc i À s σ H E I hf st hg;subst hP hw hK;obtain⟨xs,ys,hq,hq2,hl⟩:=hg;obtain⟨its,rv,p,_⟩:=I.tuple hq;obtain⟨jts,rw',p2,_⟩:=I.tuple hq2;have e1:=rv.length;have e2:=rw'.length;obtain⟨a1,a2,a3,a4,a5⟩:=id st;refine Ue (I.ok.hd hc) ap n1 n2 i12 a1 a2 a3 p p2 a4 a5 (λx' y' h' tk Ġ Ł _ _ _ _ _ _ _=> ?_) λ_ h' tk kept=>⟨rfl,I.turnL (ch:= [z,TI,TO,i1,i2]) (λb o hb q=>kept b o (inW hb) q) hf⟩
  have b1:=(F8.mp Ġ).1;have b2:=(F8.mp Ł).1;simp only [D7] at b1 b2;omega
section
variable {X:Cx}
def HQ (K:G7)(ta:TA):TI:=λσ H R=>ta σ H λvs H1=> ∃a b,vs= [.ref a,.ref b]/\(∃xs,ä K H1 a xs)/\(∃ys,ä K H1 b ys)/\R (Itz K a b) H1
def Eh {tg:M6}{a b:M6}{ta:TA}{p pos:Pos}(hg:Gl X "zip")(hm:X.mg "zip" =none)(ha:PA X [a,b] ta)(hs:R8 [a,b] X.env= [(false,J3 a X.env),(false,J3 b X.env)]:=by rfl)(hs2:R8 [b] X.env= [(false,J3 b X.env)]:=by rfl):
 PI X tg (.Call (.Name "zip" p) [a,b] [] pos) (HQ X.K ta):=by
 intro À s σ H R I h;refine Call_ (Yc I hg hm boot_zip (aS (Ó (ha pos À s σ H _ I h) λus s1 ⟨vs,H1,I1,r1,q1⟩=> ?_) (by rw [hs,hs2]) (by rw [hs2];rfl)));obtain⟨a,b,e,⟨xs,hq⟩,⟨ys,hq2⟩,q⟩:=q1;subst e;cases r1 with
 |cons r rr=>
  cases rr with
  |cons r' rr=>
   cases rr;cases r;cases r';obtain⟨its,rv,p,_⟩:=I1.tuple hq;obtain⟨jts,rw',p2,_⟩:=I1.tuple hq2;have la:a<s1.heap.objs.size:=by obtain⟨o,ho,_⟩:=p;exact D0 ho
   have lb:b<s1.heap.objs.size:=by obtain⟨o,ho,_⟩:=p2;exact D0 ho
   refine Ud (show s1.heap.IsTuple a its.toArray from p) (show s1.heap.IsTuple b jts.toArray from p2) λh' n en z1 z2 z3 z4 z5 hk=> ?_
   subst en;refine QK z1 ⟨s1.heap.objs.size+4,[s1.heap.objs.size+4,s1.heap.objs.size+2,s1.heap.objs.size+3,s1.heap.objs.size,s1.heap.objs.size+1],_,_,H1,rfl,I1.kept (t':=s1.toks) hk,
    NH _ a b _ _ _ _ _ (GO _) (Uf la) (Uf lb) (S8 (E5 _)),⟨z1,z2,z3,z4,z5⟩,λc hc=> ?_,q⟩
   have ζ:s1.heap.objs.size<=c:=NG hc;exact I1.fpOk ζ (I1.hok.fresh ζ)
end
noncomputable def BY (ds es:G0 D):G0 D:=(ds.zip es).map λp=> .tup [p.1,p.2]
def iZ (ta:TAD):TID:=λσ h R=>ta σ h λxs h1=> ∃ds es,xs= [.tup ds,.tup es]/\R (λ_=>some (BY ds es)) h1
def NI {ds es:G0 D}{d:D}(h:(BY ds es)[i]? =some d): ∃x y,ds[i]? =some x/\es[i]? =some y/\d= .tup [x,y]:=by
 unfold BY at h;rw [P7] at h;cases q:(ds.zip es)[i]? with
 |none=>rw [q] at h;cases h
 |some p=>
  rw [q] at h;obtain⟨x,y⟩:=p;rw [List.getElem?_zip_eq_some] at q;exact⟨x,y,q.1,q.2,(O0 h).symm⟩
section
variable {K:G7}
def NJ {H:Hp}{a b:P3}{vs us:G0 V}{ds es:G0 D}(hv:H a=some (.tup vs))(r:Á K H ds vs)(hu:H b=some (.tup us))(ru:Á K H es us):BS K H (λ_=>some (BY ds es)) (Itz K a b):=λH' h' k rh ds' e i=>by
 cases e;have hv':=k.tup _ _ hv;have hu':=k.tup _ _ hu;have r':=r.mono k;have ru':=ru.mono k;refine⟨λd hd=> ?_,λhl=>⟨vs,us,ä.of hv',ä.of hu',?_⟩⟩
 ·obtain⟨x,y,hx,hy,ed⟩:=NI hd;subst ed;obtain⟨v,e1,e2⟩:=r'.get hx;obtain⟨u,e3,e4⟩:=ru'.get hy;refine⟨⟨vs,us,v,u,ä.of hv',ä.of hu',e1,e3⟩,λx' ŀ ⟨p,v',u',hp,Ġ,Ł,ex,eH⟩=> ?_⟩;subst ex eH;have ev:v'=v:=by have:=Ġ vs (ä.of hv');rw [e1] at this;exact(O0 this).symm
  have eu:u'=u:=by have:=Ł us (ä.of hu');rw [e3] at this;exact(O0 this).symm
  subst ev eu;have k2:Kept H' (upd H' p (.tup [v',u'])):= .new hp;exact⟨k2,Ç.new rh hp,p,[v',u'],rfl,jt,_,_,rfl,e2.mono k2,_,_,rfl,e4.mono k2,rfl⟩
 ·have l1:=r.length;have l2:=ru.length;unfold BY at hl;rw [G1,sN] at hl;omega
def Ei {ta:TAD}: ∀σ H R,LI K (iZ ta) σ H R->HQ K (LA K ta) σ H R:=λσ H R ⟨Å,h,Rd,rs,rh,q,p⟩=>
 LA.bind rs rh q λds vs h1 H1 k1 ß Ë r1 ⟨es,fs,e,q1⟩=>by
  subst e;obtain⟨v,w,e,r2,r3⟩:=yL r1;obtain⟨a,ws,e',hv,r⟩:=(show ∃a vs,v= .ref a/\H1 a=some (.tup vs)/\Á K H1 es vs from r2);obtain⟨b,us,e'',hu,r'⟩:=(show ∃a vs,w= .ref a/\H1 a=some (.tup vs)/\Á K H1 fs vs from r3);subst e' e'';exact⟨a,b,e,⟨ws,ä.of hv⟩,⟨us,ä.of hu⟩,p _ _ _ _ k1 Ë (NJ hv r hu r') q1⟩
end
section
variable {X:Cx}
def Ej {tg:M6}{a b:M6}{ta:TAD}{p pos:Pos}(hg:Gl X "zip")(hm:X.mg "zip" =none)(ha:JA X [a,b] ta)(hs:R8 [a,b] X.env= [(false,J3 a X.env),(false,J3 b X.env)]:=by rfl)(hs2:R8 [b] X.env= [(false,J3 b X.env)]:=by rfl):
 JI X tg (.Call (.Name "zip" p) [a,b] [] pos) (iZ ta):=⟨(Eh hg hm ha.to hs hs2).imp Ei⟩
end
def inE (neg:N0):RD2:=λx y h Q=> ∃ (p:W6) (ps:G0 W6),Ĩ h x p/\(Ĩ h y (.list ps)\/Ĩ h y (.tuple ps))/\p.canLay0=true/\A0 ps=true/\p.depth<=60/\Q (.bl (neg !=ps.any λz=>Q0 z p)) h
section
variable {X:Cx}
def TC (hu:X.A.units+64<cLine):ù X (H0 .In) (inE false):=by
 intro À s σ H x y v u Q I rx ry h;obtain⟨dx,dy,h,Qd,r1,r2,rh,⟨p,ps,t1,t2,c1,c2,c3,qq⟩,post⟩:=h;obtain⟨as,a1⟩:=zF I rh t1 r1 rx;have hu':X.A.units+1+min (C4 ps) p.depth<cLine:=by have:=dO (C4 ps) p.depth;omega
 have q':Qd (.bl (ps.any λz=>Q0 z p)) h:=by simpa using qq
 rcases t2 with t2|t2
 ·obtain⟨bs,b1⟩:=zF I rh t2 r2 ry;exact in_list_reads b1 a1 c2 c1 hu' ⟨.bl _,H,I,rfl,post (.bl _) _ _ _ (.refl H) rh rfl q'⟩
 ·obtain⟨bs,b1⟩:=zF I rh t2 r2 ry;exact in_tuple_reads b1 a1 c2 c1 hu' ⟨.bl _,H,I,rfl,post (.bl _) _ _ _ (.refl H) rh rfl q'⟩
def NK (hu:X.A.units+64<cLine):ù X (H0 .NotIn) (inE true):=by
 intro À s σ H x y v u Q I rx ry h;obtain⟨dx,dy,h,Qd,r1,r2,rh,⟨p,ps,t1,t2,c1,c2,c3,qq⟩,post⟩:=h;obtain⟨as,a1⟩:=zF I rh t1 r1 rx;have hu':X.A.units+1+min (C4 ps) p.depth<cLine:=by have:=dO (C4 ps) p.depth;omega
 have q':Qd (.bl (!ps.any λz=>Q0 z p)) h:=by simpa using qq
 rcases t2 with t2|t2
 ·obtain⟨bs,b1⟩:=zF I rh t2 r2 ry;exact notIn_list_reads b1 a1 c2 c1 hu' ⟨.bl _,H,I,rfl,post (.bl _) _ _ _ (.refl H) rh rfl q'⟩
 ·obtain⟨bs,b1⟩:=zF I rh t2 r2 ry;exact notIn_tuple_reads b1 a1 c2 c1 hu' ⟨.bl _,H,I,rfl,post (.bl _) _ _ _ (.refl H) rh rfl q'⟩
end
end L2
namespace L2
open PySem PySem.Spec PyProof.Rows
section
variable {prog:S6}{w:B3}{A:N4}{E:G2->G3->Prop}{s:G3}
theorem wu: ∀ {vs:G0 G2} {ns:G0 P4},gZ vs ns-> ∀ {i:G8} {v:G2},vs[i]? =some v-> ∃t,v= .int (ns.getD i 0) t/\i<ns.length
 |_,_,.nil,_,_,hv=>by simp at hv
 |_,_,.cons _ t _,0,_,hv=>⟨t,by simpa using hv.symm,by simp⟩
 |_,_,.cons _ _ r,i+1,_,hv=>by
  obtain⟨t,e,lt⟩:=wu r (i:=i) (by simpa using hv);exact⟨t,by simpa using e,by simpa using lt⟩
def Jn {l:P3}{o:Obj}(here:l<s.heap.objs.size): ∀b∈ [s.heap.objs.size,l],b<(s.heap.push o).objs.size:=λb hb=>by
 rw [cE];simp only [S0,C5,or_false] at hb;rcases hb with e|e<;>subst e
 ·exact E5 _
 ·exact cX here
def Jo {o:Obj}{h':L8}(k: ∀b u,b ∉ [s.heap.objs.size]->(s.heap.push o).get? b=some u->h'.get? b=some u): ∀b u,s.heap.get? b=some u->h'.get? b=some u:=λb u e=>
 k b u (λm=>absurd (D0 e) (by rw [P0.mp m];exact C1 _)) (G6 _ e)
end
section
variable {X:Cx}
def DV (hc:X.calm=true):Ú X (.builtin "min") (λxs H Q=> ∃ (a:P3) (ns:G0 P4),xs= [.ref a]/\ns≠ []/\(ê X.K H a (ns.map V.int)\/ä X.K H a (ns.map V.int))/\ ∀m∈ns,(∀x∈ns,m<=x)->Q (.int m) H):=by
 intro À s σ H xs us Q I r h;obtain⟨a,ns,rfl,hne,hS,q⟩:=h;obtain⟨u,rfl,ru⟩:=vH r;cases ru;have fin: ∀ {its:G0 G2} (hi:gZ its ns) (v:G2) (h':L8) (tk:G8),its.toArray[argBest (λi j=>decide (ns.getD i 0<ns.getD j 0)) (its.toArray.size-1)]? =some v->(∀b o,s.heap.get? b=some o->h'.get? b=some o)->EP X À σ Q v {s with heap:=h',toks:=tk}:=λ{its} hi v h' tk hv kept=>by
  obtain⟨t,rfl,lt⟩:=wu hi (show its[_]? =some v by simpa using hv);refine⟨.int _,H,I.kept kept,⟨t,rfl⟩,q _ (getD_mem lt) λx hx=> ?_⟩;obtain⟨j,hj,rfl⟩:=mem_getD hx;exact(argBest_lt (λi=>ns.getD i 0) (its.toArray.size-1)).2 j (by rw [D7,hi.length];omega)
 refine call_min_walk ?_;rcases hS with hS|hS
 ·obtain⟨its,rv,pl,_⟩:=I.list hS;have hi:=ZY rv;obtain⟨o,e,r⟩:=id pl.isList;have W:=i7 (prog:=X.prog) (w:=X.w) (A:=X.A.in1) (I.ok.hd hc) s.heap.objs.size a (S8 (D0 e)) its.toArray;exact W8 pl.isList ⟨_,_,_,_,_,_,_,rfl,W,⟨⟨_,R0 _ rfl,rfl,rfl⟩,⟨o,G6 _ e,r⟩⟩,Jn (D0 e),by rw [D7,hi.length];exact Y4.mpr hne,CmpOf.ints_lt (λi=>ns.getD i 0) (λi v hv=>(wu hi (by simpa using hv)).imp λ_ z=>z.1),λv h' tk hv k=>fin hi v h' tk hv (Jo k)⟩
 ·obtain⟨its,rv,pl,_⟩:=I.tuple hS;have hi:=ZY rv;obtain⟨o,e,r⟩:=id pl;have W:=sA (prog:=X.prog) (w:=X.w) (A:=X.A.in1) (I.ok.hd hc) s.heap.objs.size a (S8 (D0 e)) its.toArray;exact bF (show s.heap.IsTuple a its.toArray from pl) ⟨_,_,_,_,_,_,_,rfl,W,⟨⟨_,R0 _ rfl,rfl,rfl⟩,⟨o,G6 _ e,r⟩⟩,Jn (D0 e),by rw [D7,hi.length];exact Y4.mpr hne,CmpOf.ints_lt (λi=>ns.getD i 0) (λi v hv=>(wu hi (by simpa using hv)).imp λ_ z=>z.1),λv h' tk hv k=>fin hi v h' tk hv (Jo k)⟩
def DW (hc:X.calm=true):Ú X (.builtin "max") (λxs H Q=> ∃ (a:P3) (ns:G0 P4),xs= [.ref a]/\ns≠ []/\(ê X.K H a (ns.map V.int)\/ä X.K H a (ns.map V.int))/\ ∀m∈ns,(∀x∈ns,x<=m)->Q (.int m) H):=by
 intro À s σ H xs us Q I r h;obtain⟨a,ns,rfl,hne,hS,q⟩:=h;obtain⟨u,rfl,ru⟩:=vH r;cases ru;have fin: ∀ {its:G0 G2} (hi:gZ its ns) (v:G2) (h':L8) (tk:G8),its.toArray[argBest (λi j=>decide (ns.getD i 0>ns.getD j 0)) (its.toArray.size-1)]? =some v->(∀b o,s.heap.get? b=some o->h'.get? b=some o)->EP X À σ Q v {s with heap:=h',toks:=tk}:=λ{its} hi v h' tk hv kept=>by
  obtain⟨t,rfl,lt⟩:=wu hi (show its[_]? =some v by simpa using hv);refine⟨.int _,H,I.kept kept,⟨t,rfl⟩,q _ (getD_mem lt) λx hx=> ?_⟩;obtain⟨j,hj,rfl⟩:=mem_getD hx;exact(argBest_gt (λi=>ns.getD i 0) (its.toArray.size-1)).2 j (by rw [D7,hi.length];omega)
 refine call_max_walk ?_;rcases hS with hS|hS
 ·obtain⟨its,rv,pl,_⟩:=I.list hS;have hi:=ZY rv;obtain⟨o,e,r⟩:=id pl.isList;have W:=i7 (prog:=X.prog) (w:=X.w) (A:=X.A.in1) (I.ok.hd hc) s.heap.objs.size a (S8 (D0 e)) its.toArray;exact W8 pl.isList ⟨_,_,_,_,_,_,_,rfl,W,⟨⟨_,R0 _ rfl,rfl,rfl⟩,⟨o,G6 _ e,r⟩⟩,Jn (D0 e),by rw [D7,hi.length];exact Y4.mpr hne,CmpOf.ints_gt (λi=>ns.getD i 0) (λi v hv=>(wu hi (by simpa using hv)).imp λ_ z=>z.1),λv h' tk hv k=>fin hi v h' tk hv (Jo k)⟩
 ·obtain⟨its,rv,pl,_⟩:=I.tuple hS;have hi:=ZY rv;obtain⟨o,e,r⟩:=id pl;have W:=sA (prog:=X.prog) (w:=X.w) (A:=X.A.in1) (I.ok.hd hc) s.heap.objs.size a (S8 (D0 e)) its.toArray;exact bF (show s.heap.IsTuple a its.toArray from pl) ⟨_,_,_,_,_,_,_,rfl,W,⟨⟨_,R0 _ rfl,rfl,rfl⟩,⟨o,G6 _ e,r⟩⟩,Jn (D0 e),by rw [D7,hi.length];exact Y4.mpr hne,CmpOf.ints_gt (λi=>ns.getD i 0) (λi v hv=>(wu hi (by simpa using hv)).imp λ_ z=>z.1),λv h' tk hv k=>fin hi v h' tk hv (Jo k)⟩
def FX (B:G0 P4->P4->Prop):RDn:=λds h Q=> ∃ (ns:G0 P4) (h':HD),ns≠ []/\Sub h' h/\(ds= [.tup (ns.map D.int)]\/ ∃a,ds= [.lst a]/\h a=some (ns.map D.int))/\ ∀m∈ns,B ns m->Q (.int m) h'
abbrev Se:RDn:=FX λns m=> ∀x∈ns,m<=x
abbrev TD:RDn:=FX λns m=> ∀x∈ns,x<=m
def QL {B:G0 P4->P4->Prop}{f:G2}(c:Ú X f (λxs H Q=> ∃ (a:P3) (ns:G0 P4),xs= [.ref a]/\ns≠ []/\(ê X.K H a (ns.map V.int)\/ä X.K H a (ns.map V.int))/\ ∀m∈ns,B ns m->Q (.int m) H)):yh X f (FX B):=
 c.imp λxs H Q ⟨ds,h,Qd,r,rh,⟨ns,h',hne,hs,e,q⟩,p⟩=>by
  rcases e with e|⟨a,e,ha⟩
  ·subst e;obtain⟨v,e,r1⟩:=jA r;obtain⟨a,vs,e1,hH,r2⟩:=(show ∃a vs,v= .ref a/\H a=some (.tup vs)/\Á X.K H (ns.map D.int) vs from r1);rw [zG r2] at hH;subst e e1;exact⟨a,ns,rfl,hne,.inr (ä.of hH),λm m1 m2=>p (.int m) _ _ _ (.refl H) (rh.sub hs) rfl (q m m1 m2)⟩
  ·subst e;obtain⟨v,e,r1⟩:=jA r;obtain⟨vs,hH,r2⟩:=rh a _ ha;have e1:v= .ref a:=r1.1;rw [zG r2] at hH;subst e e1;exact⟨a,ns,rfl,hne,.inl (ê.of hH),λm m1 m2=>p (.int m) _ _ _ (.refl H) (rh.sub hs) rfl (q m m1 m2)⟩
def DY (hc:X.calm=true):yh X (.builtin "min") Se:=QL (DV hc)
def FY (hc:X.calm=true):yh X (.builtin "max") TD:=QL (DW hc)
end
structure ĺ (p:W6):Prop where
 sh:p.showable=true
 dp:p.depth<=60
 ln:p.shown.length<=sizeLine
mutual
theorem Yn {h:HD}: ∀ {p:W6} {d:D},Ĩ h d p->p.hasDict=false
 | .none,_,_=>rfl
 | .bool _,_,_=>rfl
 | .int _,_,_=>rfl
 | .str _,_,_=>rfl
 | .tuple ps,d,t=>by
  obtain⟨ds,_,ts⟩:=(show ∃ds,d= .tup ds/\Ć h ds ps from t);simpa only [tX] using Ĉ ts
 | .list ps,d,t=>by
  obtain⟨a,ds,_,_,ts⟩:=(show ∃a ds,d= .lst a/\h a=some ds/\Ć h ds ps from t);simpa only [tX] using Ĉ ts
 | .dict _,_,t=>(show False from t).elim
theorem Ĉ {h:HD}: ∀ {ps:G0 W6} {ds:G0 D},Ć h ds ps->qO ps=false
 | [],_,_=>rfl
 |p::ps,ds,t=>by
  obtain⟨d,r,_,t1,t2⟩:=(show ∃d r,ds=d::r/\Ĩ h d p/\Ć h r ps from t);simp only [qO,Yn t1,Ĉ t2,Bool.or_self]
end
def TF:RDn:=λds h Q=> ∃d p,ds= [d]/\Ĩ h d p/\ĺ p/\Q (.str p.shown) h
variable {k:G8}
def QM {X:Cx}(hr:Û k X.A):yh X (.builtin "repr") TF:=by
 intro À s σ H xs us Q I r h;obtain⟨ds,h,Qd,rs,rh,⟨d,p,e,t,so,q⟩,post⟩:=h;subst e;obtain⟨v,e,r1⟩:=jA rs;subst e;obtain⟨u,rfl,ru⟩:=vH r;have fin: ∀t',EP X À σ Q (.str p.shown t') {s with toks:=s.toks+1}:=λt'=>⟨.str p.shown,H,I.tok _,⟨_,rfl⟩,post (.str _) _ _ _ (.refl H) rh rfl q⟩
 have fin0: ∀t',EP X À σ Q (.str p.shown t') s:=λt'=>⟨.str p.shown,H,I,⟨_,rfl⟩,post (.str _) _ _ _ (.refl H) rh rfl q⟩
 have big: ∀a,u= .ref a->D8 (R3 X.prog X.w) X.A (call (.builtin "repr") [.ref a]) (EP X À σ Q) X.xe s:=λa e=>by
  obtain⟨as,rd⟩:=zF I rh t r1 ru;subst e;exact repr_of_reads' rd so.sh (PyData.noDict_hsm (Yn t)) hr.gd (by have:=hr.units;have:=so.dp;omega) (λ_ _ e=>e)
   (λh' u' tk hk=>⟨.str p.shown,H,I.kept hk,⟨_,rfl⟩,post (.str _) _ _ _ (.refl H) rh rfl q⟩) so.ln
 cases p with
 |none=>
  cases (show d= .non from t);cases (show v= .non from r1);cases (show u= .none from ru);exact PySem.P.repr_of_none (fin _)
 |bool b=>
  cases (show d= .bl b from t);cases (show v= .bl b from r1);cases (show u= .bool b from ru);exact PySem.P.repr_of_bool (fin _)
 |int i=>
  cases (show d= .int i from t);cases (show v= .int i from r1);obtain⟨k,rfl⟩:=(show ∃t,u=gQ i t from ru);exact PySem.P.repr_of_int (by simpa [m9] using so.sh) (fin _)
 |str x=>
  cases (show d= .str x from t);cases (show v= .str x from r1);obtain⟨k,rfl⟩:=(show ∃t,u=l8 x t from ru);exact PySem.P.repr_of_str (fin _) so.ln
 |tuple ps=>
  obtain⟨ds,e,ts⟩:=(show ∃ds,d= .tup ds/\Ć h ds ps from t);subst e;obtain⟨a,vs,e,hH,rs⟩:=(show ∃a vs,v= .ref a/\H a=some (.tup vs)/\Á X.K H ds vs from r1);subst e;cases (show u= .ref a from ru);exact big a rfl
 |list ps=>
  obtain⟨a,ds,e,ha,ts⟩:=(show ∃a ds,d= .lst a/\h a=some ds/\Ć h ds ps from t);subst e;have e:v= .ref a:=r1.1;subst e;cases (show u= .ref a from ru);exact big a rfl
 |dict _=>exact(show False from t).elim
variable {e:G8}
def DZ {x:P4}(h0:0<=x)(h1:x<2^e)(he:e<=1919):x.natAbs.log2<1920:=by
 have h2:x.natAbs<2^e:=Jm h0 h1
 by_cases z:x.natAbs=0
 ·rw [z];decide
 ·have h3:=IF z |>.mpr (N5 h2 (W3 (by decide) (show e<=1920 by omega)));exact h3
theorem vB: ∀ {ps:G0 W6},(∀p∈ps,p.showable=true)->pT ps=true
 | [],_=>rfl
 |p::ps,h=>by
  simp only [pT,h p D3,vB λx hx=>h x (S1 _ hx),Bool.and_self]
theorem yO: ∀ps:G0 W6,nB ps=ps.map mQ
 | []=>rfl
 |p::ps=>by simp only [nB,M0,yO ps]
theorem We: ∀ {ps:G0 W6},(∀p∈ps,p.depth<=k)->C4 ps<=k
 | [],_=>by simp [C4]
 |p::ps,h=>by
  simp only [C4];have:=h p D3;have:=We λx hx=>h x (S1 _ hx)
  omega
theorem BZ {b:G8}: ∀ {l:G0 G8},(∀x∈l,x<=b)->l.sum<=b*l.length
 | [],_=>by simp
 |x::l,h=>by
  have h1:=h x D3;have h2:=BZ λy hy=>h y (S1 _ hy)
  simp only [u5,D2,Nat.mul_succ];omega
structure ö (p:W6)(k b:G8):Prop where
 sh:p.showable=true
 dp:p.depth<=k
 ln:p.shown.length<=b
def ö.ok {p:W6}{b:G8}(h:ö p k b)(hk:k<=60)(hb:b<=16777216):ĺ p:=⟨h.sh,R1 h.dp hk,R1 h.ln hb⟩
def ö.mono {p:W6}{b k' b':G8}(h:ö p k b)(hk:k<=k')(hb:b<=b'):ö p k' b':=⟨h.sh,R1 h.dp hk,R1 h.ln hb⟩
def Ra {x:P4}(h0:0<=x)(h1:x<2^e)(he:e<=1919):ö (.int x) 0 (e+2):=by
 refine⟨by simpa [m9] using DZ h0 h1 he,by simp [A1],?_⟩;show (W9 (toString x)).length<=e+2;rw [PySem.ofString_length];have h2:x.natAbs<2^e:=Jm h0 h1;refine int_text_length_le (by omega) ?_
 by_cases z:x.natAbs=0
 ·rw [z];exact bU _
 ·exact(IF z).mpr (N5 h2 (W3 (by decide) (by omega)))
def ö.tup {ps:G0 W6}{k b:G8}(h: ∀p∈ps,ö p k b):ö (.tuple ps) (k+1) ((b+2)*ps.length+3):=by
 refine⟨?_,?_,?_⟩
 ·simpa only [m9] using vB λp hp=>(h p hp).sh
 ·simp only [A1];have:=We λp hp=>(h p hp).dp;omega
 ·simp only [mQ];have h1:=tupleText_len_le (nB ps);rw [yO,G1,M7] at h1;have h2:((ps.map ((λx=>x.length)∘mQ))).sum<=b*ps.length:=by
   have:=BZ (b:=b) (l:=ps.map ((λx:Str=>x.length)∘mQ)) (λx hx=>by obtain⟨p,hp,e⟩:=R7.mp hx;rw [<-e];exact(h p hp).ln);rw [G1] at this;exact this
  rw [yO,oI];omega
variable {r:G0 P4}
def Rb (h0: ∀x∈r,0<=x)(h1: ∀x∈r,x<2^e)(he:e<=1919):ö (.tuple (r.map .int)) 1 ((e+4)*r.length+3):=by
 have:=ö.tup (ps:=r.map gU) (k:=0) (b:=e+2) λp hp=>by obtain⟨x,hx,e⟩:=R7.mp hp;rw [<-e];exact Ra (h0 x hx) (h1 x hx) he
 rw [G1] at this;exact this
def Rc {n:G8}{T:G0 (G0 P4)}(h:Sq n e T)(h6:n<=6)(he:e<=1919):ö (wz T) 2 (60*e+300):=by
 have:=ö.tup (ps:=T.map λr=>PyData.tuple (r.map .int)) (k:=1) (b:=(e+4)*6+3) λp hp=>by
  obtain⟨r,hr,ep⟩:=R7.mp hp;rw [<-ep];refine(Rb (h.nn r hr) (h.bit r hr) he).mono (P2 _) ?_;have:=dZ (e+4) (show r.length<=6 by rw [h.row r hr];exact h6);omega
 rw [G1,h.len] at this;refine this.mono (P2 _) ?_;have:=dZ ((e+4)*6+3+2) h6;omega
def Ca:RDn:=λds h Q=> ∃x y p,ds= [x,y]/\Ĩ h x p/\Ĩ h y p/\ĺ p/\Q (.bl true) h
def FZ {h:HD}{Q:KD}(hne:r≠ [])(q: ∀m∈r,(∀x∈r,m<=x)->Q (.int m) h):Se [zM r] h Q:=⟨r,h,hne,Sub.refl h,.inl rfl,q⟩
noncomputable def Zp (r:G0 P4):P4:=(r.min?).getD 0
def Re {m:P4}(h:m∈r)(l: ∀x∈r,m<=x):m=Zp r:=by
 unfold Zp;rw [nK.mpr ⟨h,l⟩];rfl
def Yo (h:r≠ []):Zp r∈r/\ ∀x∈r,Zp r<=x:=by
 cases e:r.min? with
 |none=>exact absurd (List.min?_eq_none_iff.mp e) h
 |some m=>
  have:=nK.mp e;unfold Zp;rw [e];exact this
def YS {n:G8}{T:G0 (G0 P4)}(h:Sq n e T)(ne: ∀r∈T,r≠ []){m:P4}(m1:m∈T.map Zp)(m2: ∀x∈T.map Zp,m<=x):decide (m>0)=wB T:=by
 rw [A3,X4];unfold wB;simp only [B0,X4];constructor
 ·intro hm r hr x hx;have a:=m2 _ (R7.mpr ⟨r,hr,rfl⟩);have b:=(Yo (ne r hr)).2 x hx;omega
 ·intro z;obtain⟨r,hr,rfl⟩:=R7.mp m1;have a:=(Yo (ne r hr)).1;have b:=z r hr _ a;have c:=h.nn r hr _ a;omega
section
variable {α β:Type}{i i':G8}{js:G0 G8}{ti İ:TID}{te:TED}{σ:SD}{h:HD}{Q:KD}{j:ItD}
def KO (xs:G0 α)(c:α->D)(g:α->P4)(hz:xs.length<=1000)(hj:j h=some (xs.map c))(ht: ∀R:ItD->HD->Prop,R j h->ti σ h R)
 (he: ∀x∈xs,∀Q':KD,Q' (.int (g x)) h->te ((jM js σ).set i (some (c x))) h Q')(hne:xs≠ [])(hq: ∀m∈xs.map g,(∀x∈xs.map g,m<=x)->Q (.int m) h):ĝ Se (zj (vw (bN i) js ti vj te) JM) σ h Q:=by
 show vw (bN i) js ti vj te σ h (λx h1=>Se [x] h1 Q);exact lcA xs c (λx=> .int (g x)) hz hj ht he λp hp=>⟨xs.map g,h,λz=>hne (o7.mp z),Sub.newAt (Sub.refl h) hp,.inr ⟨p,rfl,by rw [jc,M7];rfl⟩,hq⟩
end
def La (b:N0):ĺ (.bool b):=by cases b<;>exact⟨by decide,by decide,by decide⟩
end L2
namespace L2
open PySem PySem.Spec PyProof.Rows PySem.SeqAt
section
variable {α:Type}{i i':G8}{js:G0 G8}{ti:TID}{te:TED}{σ:SD}{h:HD}{Q:KD}{j:ItD}
def TH (xs:G0 α)(c c' g:α->D)(hz:xs.length<=1000)(hj:j h=some (xs.map λx=> .tup [c x,c' x]))(ht: ∀R:ItD->HD->Prop,R j h->ti σ h R)
 (he: ∀x∈xs,∀Q':KD,Q' (g x) h->te (((jM js σ).set i (some (c x))).set i' (some (c' x))) h Q')(hq: ∀p,h p=none->Q (.lst p) (zm h p (xs.map g))):vw (b2 i i') js ti vj te σ h Q:=by
 refine ht _ ⟨xs.length,λk ys h'=>h'=h/\ys=(xs.take k).map g,⟨rfl,by simp⟩,?_⟩;rintro k ys h' ⟨rfl,rfl⟩;refine⟨by simp only [G1,T3];exact T8 (jV (by omega)),_,hj,by simp,λhl p hp=> ?_,λd hd=> ?_⟩
 ·rw [T5 (by simpa using hl)];exact hq p hp
 ·rw [P7] at hd;cases hx:xs[k]? with
  |none=>rw [hx] at hd;cases hd
  |some x=>
   rw [hx] at hd;cases hd;refine⟨_,⟨_,_,rfl,rfl⟩,?_⟩;unfold vj;dsimp only;rw [R6 rfl];refine he x (P6 hx) _ ⟨h',Sub.refl _,rfl,?_⟩;rw [L6,hx];simp
def TJ (xs:G0 α)(c c':α->D)(g:α->N0)(hz:xs.length<=1000)(hj:j h=some (xs.map λx=> .tup [c x,c' x]))(ht: ∀R:ItD->HD->Prop,R j h->ti σ h R)
 (he: ∀x∈xs,∀Q':KD,Q' (.bl (g x)) h->te (((jM js σ).set i (some (c x))).set i' (some (c' x))) h Q')(hq:Q (.bl (xs.all g)) h):ĝ Np (zj (vw (b2 i i') js ti vj te) JM) σ h Q:=by
 show vw (b2 i i') js ti vj te σ h (λx h1=>Np [x] h1 Q);exact TH xs c c' (λx=> .bl (g x)) hz hj ht he λp hp=>⟨p,xs.map g,rfl,by rw [jc,M7];rfl,by rw [zf hp,aV];exact hq⟩
end
def IsS (n:G8)(S:G0 G8):Prop:= ∃p:G8->N0,S=(D6 n).filter p
theorem Wf {α:Type}[DecidableEq α]: ∀ {l m:G0 α},l.Nodup->(∀x∈l,x∈m)->l.length<=m.length
 | [],_,_,_=>N7 _
 |a::l,m,nd,h=>by
  have hm:=h a D3;have h2:l.length<=(m.erase a).length:=Wf (V9.mp nd).2 λx hx=>by
   have hxa:x≠a:=λe=>(V9.mp nd).1 (e ▸ hx)
   exact(dF hxa).mpr (h x (S1 _ hx))
  rw [b7 hm] at h2;have:=cL hm;simp only [D2];omega
noncomputable def PB (S:G0 G8):W6:=wF (GN S)
def Rf (h:HD)(S:G0 G8):Ĩ h (wN S) (PB S):=by rw [FU];exact⟨_,rfl,Wb h _⟩
theorem Ug (h:HD): ∀Ss:G0 (G0 G8),Ć h (Ss.map wN) (Ss.map PB)
 | []=>rfl
 |S::Ss=>⟨_,_,rfl,Rf h S,Ug h Ss⟩
def JQ (r:G0 P4):(wF r).canLay0=true:=by unfold wF;simp only [L7];exact vN r
def Wg (r:G0 P4):(wF r).depth<=2:=by unfold wF;simp only [A1];have:=JP r;omega
theorem Yp: ∀a b:G0 P4,U3 (a.map gU) (b.map gU)=decide (a=b)
 | [],[]=>by simp [U3]
 | [],_::_=>by simp [U3]
 |_::_,[]=>by simp [U3]
 |x::a,y::b=>by
  show ((x==y)&&U3 (a.map .int) (b.map .int))=_;rw [Yp a b,A3];simp
def Xs (a b:G0 P4):Q0 (wF a) (wF b)=decide (a=b):=Yp a b
def Rg {a b:G0 G8}(h:GN a=GN b):a=b:=by
 have:=congrArg (G0U cR) h;unfold GN at this;simpa [M7,c9] using this
def Lb (a b:G0 G8):Q0 (PB a) (PB b)=decide (a=b):=by
 unfold PB;rw [Xs,A3,X4,X4];exact⟨Rg,λe=>by rw [e]⟩
def Rh {α:Type}(xs:G0 α):vy xs (some 1) none=xs.drop 1:=by
 unfold vy;cases xs with
 |nil=>simp
 |cons x xs=>simp [HT.sIx]
structure Enc {α:Type}[DecidableEq α](e:α->D)(p:α->W6):Prop where
 to: ∀ (h:HD) a,Ĩ h (e a) (p a)
 lay: ∀a,(p a).canLay0=true
 dp: ∀a,(p a).depth<=60
 eq: ∀a b,Q0 (p a) (p b)=decide (a=b)
section
variable {α:Type}[DecidableEq α]{e:α->D}{p:α->W6}
theorem Enc.tos (E:Enc e p)(h:HD): ∀as:G0 α,Ć h (as.map e) (as.map p)
 | []=>rfl
 |a::as=>⟨_,_,rfl,E.to h a,E.tos h as⟩
theorem Enc.lays (E:Enc e p): ∀as:G0 α,A0 (as.map p)=true
 | []=>rfl
 |a::as=>by show (L7 (p a)&&_)=true;rw [E.lays as,E.lay a];rfl
end
theorem wv: ∀a b:G0 (G0 P4),U3 (a.map wF) (b.map wF)=decide (a=b)
 | [],[]=>by simp [U3]
 | [],_::_=>by simp [U3]
 |_::_,[]=>by simp [U3]
 |x::a,y::b=>by
  show (Q0 (wF x) (wF y)&&U3 (a.map wF) (b.map wF))=_;rw [wv a b,Xs,A3];simp
def Ā:Enc jj wz:=⟨yN,λT=>by unfold wz;simp only [L7];exact yi T,λT=>by unfold wz;simp only [A1];have:=wY T;omega,wv⟩
noncomputable def Ļ (n:G8)(T:G0 (G0 P4))(M:G0 (G0 P4)):G0 (G0 P4):=zL n (ZA n M T)
def RP (n:G8)(T:G0 (G0 P4))(k i j:G8):Prop:=á (Pz n T k) i j≠0
section
variable {n e:G8}{T:G0 (G0 P4)}
def Ri (h:Sq n e T)(hn:n<=8)(a b:G8){i j:G8}(hi:i<n)(hj:j<n):RP n T (a+b) i j↔ ∃k,k<n/\RP n T a i k/\RP n T b k j:=by
 unfold RP;rw [pow_add h hn a b];exact Ua (h.pow hn a) (h.pow hn b) hi hj
def Xt {i j:G8}(hi:i<n)(hj:j<n):RP n T 0 i j↔i=j:=by
 unfold RP;show á (Py n) i j≠0↔_;unfold Py;rw [Yl hi hj]
 by_cases z:i=j
 ·simp [z]
 ·simp [z]
theorem Cb (h:Sq n e T)(hn:n<=8): ∀ (m:G8) {i j:G8},i<n->j<n->RP n T m i j-> ∃v:G8->G8,v 0=i/\v m=j/\(∀t,t<=m->v t<n)/\ ∀t,t<m->RP n T 1 (v t) (v (t+1))
 |0,i,j,hi,hj,r=>by
  have:=(Xt hi hj).mp r;exact⟨λ_=>i,rfl,this,λ_ _=>hi,λt ht=>by omega⟩
 |m+1,i,j,hi,hj,r=>by
  obtain⟨k,hk,r1,r2⟩:=(Ri h hn m 1 hi hj).mp r;obtain⟨v,v0,vm,vl,vr⟩:=Cb h hn m hi hk r1;refine⟨λt=>if t<=m then v t else j,?_,?_,λt _=> ?_,λt ht=> ?_⟩
  ·simp [v0]
  ·show (if m+1<=m then v (m+1) else j)=j;rw [R9 (by omega)]
  ·show (if t<=m then v t else j)<n;split
   ·exact vl t (by assumption)
   ·exact hj
  ·show RP n T 1 (if t<=m then v t else j) (if t+1<=m then v (t+1) else j);rw [R6 (by omega)]
   by_cases z:t+1<=m
   ·rw [R6 z];exact vr t (by omega)
   ·rw [R9 z,show t=m by omega,vm];exact r2
theorem YT (h:Sq n e T)(hn:n<=8){m:G8}{v:G8->G8}(vl: ∀t,t<=m->v t<n)(vr: ∀t,t<m->RP n T 1 (v t) (v (t+1)))(a:G8): ∀b,a+b<=m->RP n T b (v a) (v (a+b))
 |0,hb=>(Xt (vl a (by omega)) (vl a (by omega))).mpr rfl
 |b+1,hb=>(Ri h hn b 1 (vl a (by omega)) (vl _ hb)).mpr ⟨v (a+b),vl _ (by omega),YT h hn vl vr a b (by omega),vr (a+b) (by omega)⟩
end
structure ĉ (n:G8)(h0 h:HD)(p R:P3)(rs:G0 P3):Prop where
 at_:h R=some (rs.map D.lst)
 len:rs.length=n
 nR:R ∉ rs
 fR:h0 R=none
 np:p ∉ rs
 nRp:R≠p
 row: ∀a∈rs,h0 a=none/\ ∃r,h a=some (r.map D.int)/\wM n r
section
variable {n:G8}{h0 h:HD}{p R:P3}{rs:G0 P3}
def ĉ.pen (g:ĉ n h0 h p R rs)(ds:G0 D):ĉ n h0 (zm h p ds) p R rs:=
 ⟨jf g.nRp g.at_,g.len,g.nR,g.fR,g.np,g.nRp,λa ha=>⟨(g.row a ha).1,let ⟨r,e,gr⟩:=(g.row a ha).2;⟨r,jf (λz=>g.np (z ▸ ha)) e,gr⟩⟩⟩
def ĉ.new (g:ĉ n h0 h p R rs){q:P3}(f:h q=none)(ds:G0 D):ĉ n h0 (zm h q ds) p R rs:=
 ⟨jd g.at_ f,g.len,g.nR,g.fR,g.np,g.nRp,λa ha=>⟨(g.row a ha).1,let ⟨r,e,gr⟩:=(g.row a ha).2;⟨r,jd e f,gr⟩⟩⟩
def ĉ.pick (g:ĉ n h0 h p R rs){i:G8}(hi:i<n): ∃a r,Ģ (rs.map D.lst) (i:P4)=some (.lst a)/\a∈rs/\h a=some (r.map D.int)/\wM n r/\h0 a=none/\a≠p:=by
 have hi':i<rs.length:=by rw [g.len];exact hi
 have hm:=N6 hi';obtain⟨f,r,e,gr⟩:=g.row _ hm;exact⟨rs[i],r,wJ (by rw [P7,G5 hi'];rfl),hm,e,gr,f,λz=>g.np (z ▸ hm)⟩
def ĉ.set (g:ĉ n h0 h p R rs){a:P3}{r:G0 P4}(ha:a∈rs)(e:h a=some (r.map D.int))(gr:wM n r){j:G8}{v:P4}(v0:0<=v)(v1:v<=1000000):ĉ n h0 (zm h a ((r.map D.int).set j (.int v))) p R rs:=by
 refine⟨jf (λz=>g.nR (z ▸ ha)) g.at_,g.len,g.nR,g.fR,g.np,g.nRp,λb hb=>⟨(g.row b hb).1,?_⟩⟩
 by_cases z:b=a
 ·subst z;refine⟨r.set j v,by rw [jc,List.map_set],by rw [sD];exact gr.1,λx hx=> ?_⟩;rcases List.mem_or_eq_of_mem_set hx with y|y
  ·exact gr.2 x y
  ·subst y;exact⟨v0,v1⟩
 ·obtain⟨r',e',gr'⟩:=(g.row b hb).2;exact⟨r',jf z e',gr'⟩
def ĉ.tab (g:ĉ n h0 h p R rs): ∃T,ę n T/\(rs.map λa=>D.tup ((h a).getD []))=T.map zM:=by
 have key: ∀l:G0 P3,(∀a∈l,∃r,h a=some (r.map D.int)/\wM n r)-> ∃T:G0 (G0 P4),T.length=l.length/\(∀r∈T,wM n r)/\(l.map λa=>D.tup ((h a).getD []))=T.map zM:=by
  intro l
  induction l with
  |nil=>intro _;exact⟨[],rfl,by simp,rfl⟩
  |cons a l ih=>
   intro hl;obtain⟨T,a1,a2,a3⟩:=ih λb hb=>hl b (S1 _ hb)
   obtain⟨r,e,gr⟩:=hl a D3;refine⟨r::T,by simp [a1],λx hx=> ?_,?_⟩
   ·rcases S0.mp hx with z|z
    ·subst z;exact gr
    ·exact a2 x z
   ·rw [M0,M0,a3,e];rfl
 obtain⟨T,a1,a2,a3⟩:=key rs λa ha=>(g.row a ha).2
 exact⟨T,⟨by rw [a1,g.len],a2⟩,a3⟩
end
variable {n:G8}
def Xu {o:G0 G8}(ho:ĩ n o){i:G8}(hi:i<n): ∃k,k<n/\Ģ (o.map λ(k:G8)=>D.int (k:P4)) (i:P4)=some (.int (k:P4)):=by
 have hi':i<o.length:=by rw [ho.ord.len];exact hi
 refine⟨o[i],S4.mp (ho.mem_iff.mp (N6 hi')),wJ (by rw [P7,G5 hi'];rfl)⟩
def NL {o:G0 G8}(ho:ĩ n o)(hn:1<=n): ∃k,k<n/\Ģ (o.map λ(k:G8)=>D.int (k:P4)) (-1)=some (.int (k:P4)):=by
 have hl:=ho.ord.len;have hi':n-1<o.length:=by omega
 refine⟨o[n-1],S4.mp (ho.mem_iff.mp (N6 hi')),?_⟩;unfold Ģ Β;rw [G1,hl,R9 (by decide),R6 (by omega)];show (o.map λ(k:G8)=>D.int (k:P4))[(-1+(n:P4)).toNat]? =_;rw [show (-1+(n:P4)).toNat=n-1 by omega,P7,G5 hi'];rfl
def Rj {i:G8}(h:i<n):Β n (i:P4)=some i:=by
 unfold Β;simp;omega
def GP {prog:S6}{w:B3}{A:N4}(hh:A.handled=none)(it t:P3)(items:S5 G2)(n:G8)(hn:items.size<=n):
 Draws prog w A it [it,t] n (λ_ _=>False) (λi h=>i=n/\h.IsListIter it t n/\h.IsList t items) where
 live:=λ_ _ st=>let ⟨o,ho,_⟩:=st.2.1;⟨o,ho⟩
 frame:=λ_ _ _ st hk=>⟨st.1,st.2.1.at λo e=>hk it (by simp) o e,st.2.2.at λo e=>hk t (by simp) o e⟩
 item:=λi s Q E hi st hQ=>absurd st.1 (S8 hi)
 done:=λs Q E st hE=>wpAny_nextOf_list_end hh st.2.1 st.2.2 (mR hn) hE
noncomputable def TK (K:G7)(a:P3):It:=
 ⟨λi H=> ∃xs x,ê K H a xs/\xs[i]? =some x,λi H x H'=> ∃p v,H p=none/\(∀xs,ê K H a xs->xs[i]? =some v)/\x= .ref p/\H'=upd H p (.tup [.int i,v]),λi H=> ∃xs,ê K H a xs/\xs.length<=i⟩
def GQ {P:S6}{w:B3}{K:G7}{es:G0 M6}{k:G8}{pos:Pos}(a it e:P3)(hei:e≠it)(hae:a≠e)(hai:a≠it):Ŵ P w K (.Tuple es k pos) (TK K a) [e,it] e (λi h=>(∃old,IsEnum h e it i old)/\h.IsListIter it a i) where
 mem:=by simp
 obj:=λi h st b hb=>by
  rcases S0.mp hb with z|z
  ·subst z;obtain⟨old,q⟩:=st.1;exact⟨_,q,λv z=>by cases z⟩
  ·have z:=P0.mp z;subst z;obtain⟨o,q,c,d⟩:=st.2;exact⟨o,q,λv z=>by rw [d] at z;cases z⟩
 keep:=λi h h' st k=>⟨let ⟨old,q⟩:=st.1;⟨old,k e (by simp) _ q⟩,st.2.at λo q=>k it (by simp) o q⟩
 item:=by
  intro X hP hw hK hc i À s σ H E I hf st hg;subst hP hw hK;obtain⟨xs,x,hq,hx⟩:=hg;obtain⟨its,rv,p,hz⟩:=I.list hq;obtain⟨u,hu,ru⟩:=rv.get hx;have hi:i<its.toArray.size:=by have:=(P5.mp hu).1;simpa using this
  obtain⟨old,he⟩:=st.1;have X09:e<s.heap.objs.size:=D0 he;refine wpAny_pyNext_enum_itemD (Draws.list (prog:=X.prog) (w:=X.w) (A:=X.A.in1) (I.ok.hd hc) it a hai its.toArray) he ⟨st.2,p.isList⟩ hi hei (by simp [hei,E7 hae]) λx' h' tk Ġ ho hs' hT hsz hk=> ?_
  have ex:x'=u:=O0 (Ġ.symm.trans (show its.toArray[i]? =some u by simpa using hu));subst ex;refine⟨_,rfl,wpAny_letOwnedTupleGo_enum ho λh2 he2 hs2=> ?_⟩;have hn:H s.heap.objs.size=none:=I.hok.fresh (P2 _);have hT2:h2.get? s.heap.objs.size=some {cls:= .type "tuple",data:= .seq #[.int i tk,x']}:=(hs2.2 _ (Q2 X09)).trans hT;refine⟨.ref s.heap.objs.size,upd H s.heap.objs.size (.tup [.int i,x]),?_,rfl,⟨_,x,hn,λys hy=>by rw [I.list_inj hy hq];exact hx,rfl,rfl⟩,⟨⟨x',by simpa using he2⟩,hs'.1.at λo y=>(hs2.2 it (E7 hei)).trans y⟩,λb hb=> ?_⟩
  ·refine I.turnLaid (h':=h2) (t':=tk+1) (ch:= [e,it]) (λb u hb q=> ?_) hf (P2 _) ⟨by show 2<=sizeLine;decide,[.int i tk,x'],.cons ⟨tk,rfl⟩ (.cons ru .nil),⟨_,hT2,rfl,rfl,_,rfl⟩⟩;have b1:b≠e:=λz=>hb (by simp [z])
   have b2:b≠it:=λz=>hb (by simp [z])
   exact(hs2.2 b b1).trans (hk b u b1 b2 q)
  ·have f:=(hf b hb).1;have:b≠s.heap.objs.size:=λz=>by
    rcases S0.mp hb with w|w
    ·rw [<-w,z] at X09;exact absurd X09 (C1 _)
    ·have w:=P0.mp w;obtain⟨o,ho',_⟩:=st.2;have:=D0 ho';rw [<-w,z] at this;exact absurd this (C1 _)
   rw [jq this];exact f
 done:=by
  intro X hP hw hK hc i À s σ H E I hf st hg;subst hP hw hK;obtain⟨xs,hq,hx⟩:=hg;obtain⟨its,rv,p,hz⟩:=I.list hq;obtain⟨old,he⟩:=st.1;have hl:=rv.length;refine wpAny_pyNext_enum_endD (GP (prog:=X.prog) (w:=X.w) (A:=X.A.in1) (I.ok.hd hc) it a its.toArray i (by simp;omega)) he ⟨rfl,st.2,p.isList⟩ λh' Ġ=>⟨rfl,I.turnL (t':=s.toks) (ch:= [it]) (λb o hb q=>Ġ b o (λz=>hb (by simp [z])) q) λb hb=>hf b (S1 _ hb)⟩
 self:=λ_ _ _ _ _ st h=>let ⟨_,q⟩:=st.1;qP q h
section
variable {X:Cx}
def Ek (K:G7)(ta:TA):TI:=λσ H R=>ta σ H λvs H1=> ∃a,vs= [.ref a]/\(∃xs,ê K H1 a xs)/\R (TK K a) H1
def NM {es:G0 M6}{k:G8}{tp:Pos}{a:M6}{ta:TA}{p pos:Pos}(hg:Gl X "enumerate")(hm:X.mg "enumerate" =none)(ha:PA X [a] ta)(hs:R8 [a] X.env= [(false,J3 a X.env)]:=by rfl):
 PI X (.Tuple es k tp) (.Call (.Name "enumerate" p) [a] [] pos) (Ek X.K ta):=by
 intro À s σ H R I h;refine Call_ (Yc I hg hm (show V8 "enumerate" =some (.type "enumerate") by decide +kernel) (aS (Ó (ha pos À s σ H _ I h) λus s1 ⟨vs,H1,I1,r1,q1⟩=> ?_) hs rfl));obtain⟨a,e,⟨xs,hq⟩,q⟩:=q1;subst e;cases r1 with
 |cons r rr=>
  cases rr;cases r;obtain⟨its,rv,p,hz⟩:=I1.list hq;have hlt:a<s1.heap.objs.size:=by obtain⟨o,ho,_⟩:=p.isList;exact D0 ho
  refine call_enumerate_list p.isList λh' he hit _ hk=> ?_
  refine qP he ?_;refine⟨s1.heap.objs.size+1,[s1.heap.objs.size+1,s1.heap.objs.size],_,_,H1,rfl,I1.kept (t':=s1.toks) hk,GQ a s1.heap.objs.size (s1.heap.objs.size+1) (Q2 (E5 _)) (S8 (cX hlt)) (S8 hlt),⟨⟨_,he⟩,hit⟩,λb hb=> ?_,q⟩;have ζ:s1.heap.objs.size<=b:=by
   rcases S0.mp hb with w|w
   ·rw [w];exact Nat.le_succ _
   ·rw [P0.mp w];exact P2 _
  exact I1.fpOk ζ (I1.hok.fresh ζ)
end
def iEL (ta:TAD):TID:=λσ h R=>ta σ h λxs h1=> ∃a,xs= [.lst a]/\R (λh=>(h a).map Ub) h1
section
variable {K:G7}
def GR (H:Hp)(a:P3):BS K H (λh=>(h a).map Ub) (TK K a):=λH' h' k rh ds' e i=>by
 have e:(h' a).map Ub=some ds':=e;cases hd:h' a with
 |none=>rw [hd] at e;cases e
 |some ds=>
  rw [hd] at e;cases e;obtain⟨vs,hv',r'⟩:=rh a ds hd;refine⟨λd hd=> ?_,λhl=>⟨vs,ê.of hv',by rw [<-r'.length,<-vO];exact hl⟩⟩;obtain⟨x,hx,ed⟩:=YR hd;subst ed;obtain⟨v,e1,e2⟩:=r'.get hx;refine⟨⟨vs,v,ê.of hv',e1⟩,λx' ŀ ⟨p,v',hp,Ġ,ex,eH⟩=> ?_⟩;subst ex eH;have ev:v'=v:=by have:=Ġ vs (ê.of hv');rw [e1] at this;exact(O0 this).symm
  subst ev;have k2:Kept H' (upd H' p (.tup [.int i,v'])):= .new hp;exact⟨k2,Ç.new rh hp,p,[.int i,v'],rfl,jt,_,_,rfl,rfl,_,_,rfl,e2.mono k2,rfl⟩
def NN {ta:TAD}: ∀σ H R,LI K (iEL ta) σ H R->Ek K (LA K ta) σ H R:=λσ H R ⟨Å,h,Rd,rs,rh,q,p⟩=>
 LA.bind rs rh q λds vs h1 H1 k1 ß Ë r1 ⟨a,e,q1⟩=>by
  subst e;obtain⟨v,e,r2⟩:=jA r1;obtain⟨e',ws,hv⟩:=(show v= .ref a/\ ∃vs,H1 a=some (.lst vs) from r2);subst e';exact⟨a,e,⟨ws,ê.of hv⟩,p _ _ _ _ k1 Ë (GR H1 a) q1⟩
end
section
variable {X:Cx}
def YU {es:G0 M6}{k:G8}{tp:Pos}{a:M6}{ta:TAD}{p pos:Pos}(hg:Gl X "enumerate")(hm:X.mg "enumerate" =none)(ha:JA X [a] ta)(hs:R8 [a] X.env= [(false,J3 a X.env)]:=by rfl):
 JI X (.Tuple es k tp) (.Call (.Name "enumerate" p) [a] [] pos) (iEL ta):=⟨(NM hg hm ha.to hs).imp NN⟩
end
noncomputable def QN (n:G8)(Ts:G0 (G0 (G0 P4)))(M:G0 (G0 P4))(W:G0 G8):G0 (G0 P4):=W.foldl (λM i=>Ļ n (Ts.getD i []) M) M
structure å (n:G8)(Ts:G0 (G0 (G0 P4))):Prop where
 n1:1<=n
 n3:n<=3
 l1:1<=Ts.length
 l3:Ts.length<=3
 sq: ∀T∈Ts,Sq n 20 T
def å.get {Ts:G0 (G0 (G0 P4))}(h:å n Ts){i:G8}(hi:i<Ts.length):Sq n 20 (Ts.getD i []):=by
 rw [R4,G5 hi];exact h.sq _ (N6 hi)
def JR {Ts:G0 (G0 (G0 P4))}(h:å n Ts){i:G8}(hi:i<Ts.length):Ģ (Ts.map jj) ((i:G8):P4)=some (jj (Ts.getD i [])):=
 wJ (by rw [P7,R4,G5 hi];rfl)
section
variable {n:G8}{Ts:G0 (G0 (G0 P4))}
def Cc (M:G0 (G0 P4))(hM:Sq n 1 M): ∀W:G0 G8,Sq n 1 (QN n Ts M W):=λW=>by
 induction W generalizing M with
 |nil=>exact hM
 |cons i W ih=>exact ih _ (Sq.mark _)
def Lc (M:G0 (G0 P4))(V W:G0 G8):QN n Ts M (V++W)=QN n Ts (QN n Ts M V) W:=gE
end
theorem Yq: ∀Ts:G0 (G0 (G0 P4)),C4 (Ts.map wz)<=5
 | []=>by simp [C4]
 |T::Ts=>by
  have:=Yq Ts;have h2:=wY T;simp only [M0,C4,A1,wz];omega
def yk (Ts:G0 (G0 (G0 P4))):shaped (.list (Ts.map wz))=true:=by
 unfold shaped;have h1:L7 (.list (Ts.map wz))=true:=by simp only [L7];exact Ā.lays Ts
 have h2:=Yq Ts;have h3:A1 (.list (Ts.map wz))<=64:=by simp only [A1];omega
 rw [h1,M1 h3];rfl
end L2
set_option maxRecDepth 35000
namespace L2
open PySem PySem.Spec PyProof.Rows PySem.SeqAt
noncomputable def TL (T:G0 (G0 P4))(n p:G8):G0 G8:=(D6 n).filter λj=>decide (á T p j>0)
noncomputable def cnt (T:G0 (G0 P4))(n o:G8):G8->G8->P4
 |0,p=>if p=o then 1 else 0
 |t+1,p=>((TL T n p).map (cnt T n o t)).sum
section
variable {T:G0 (G0 P4)}{n o:G8}
noncomputable def KP (T:G0 (G0 P4))(n o t p:G8):G8:=(TL T n p).findIdx λj=>decide (cnt T n o t j>0)
noncomputable def nxt (T:G0 (G0 P4))(n o t p:G8):G8:=(TL T n p).getD (KP T n o t p) 0
end
def NO {α:Type}{xs:G0 α}{x:α}(h1:1<=xs.length)(h:xs[xs.length-1]? =some x):Ģ xs (-1)=some x:=by
 unfold Ģ Β;rw [R9 (by decide),R6 (by omega)];show xs[(-1+(xs.length:P4)).toNat]? =_;rw [show (-1+(xs.length:P4)).toNat=xs.length-1 by omega];exact h
def Rk {α:Type}(xs:G0 α):vy xs none (some 1)=xs.take 1:=by
 unfold vy;have e1:HT.sIx xs.length 0 none=0:=rfl;have e2:HT.sIx xs.length xs.length (some 1)=min 1 xs.length:=rfl;rw [e1,e2,j5,qL];cases xs with
 |nil=>rfl
 |cons x xs=>simp
end L2
namespace L2
open PySem PySem.Spec PyProof.Rows PySem.W
abbrev TXD:=SD->HD->(Str->HD->Prop)->Prop
abbrev RDx:=G0 D->HD->(Str->HD->Prop)->Prop
noncomputable abbrev N1:G0 Str:= ["_law_call","_law_found","_law_e","_law_word"]
end L2
namespace L2
open PySem PySem.Spec PyProof.Rows PySem.SeqAt
section
variable {n e:G8}{T:G0 (G0 P4)}
instance (k i j:G8):Decidable (RP n T k i j):=inferInstanceAs (Decidable (á (Pz n T k) i j≠0))
end
end L2
namespace L2
open PySem PySem.Spec PyProof.Rows
def TrV (K:G7)(H:Hp):V->N0->Prop
 | .bl b,c=>c=b
 | .int i,c=>c=(i !=0)
 | .non,c=>c=false
 | .ref a,c=> ∃xs,ê K H a xs/\c= !xs.isEmpty
 |_,_=>False
def TrD (h:HD):D->N0->Prop
 | .bl b,c=>c=b
 | .int i,c=>c=(i !=0)
 | .non,c=>c=false
 | .lst a,c=> ∃ds,h a=some ds/\c= !ds.isEmpty
 |_,_=>False
def TrD.to {K:G7}{H:Hp}{h:HD}{d:D}{v:V}{c:N0}(t:TrD h d c)(r:È K H d v)(rh:Ç K h H):TrV K H v c:=by
 cases d<;>try exact t.elim
 ·have e:v= .non:=r;subst e;exact t
 ·have e:v= .bl _:=r;subst e;exact t
 ·have e:v= .int _:=r;subst e;exact t
 ·obtain⟨e,_⟩:=r;subst e;obtain⟨ds,hd,e⟩:=t;obtain⟨vs,hv,r'⟩:=rh _ ds hd;refine⟨vs,ê.of hv,?_⟩;rw [e];have:=r'.length;cases ds<;>cases vs<;>first|rfl|(simp at this)
section
variable {X:Cx}{À:G0 (P3×Obj)}{σ:St}{H:Hp}{s:G3}{E:G2->G3->Prop}
def Inv.trv {v:V}{u:G2}{c:N0}{Q:N0->G3->Prop}(I:Inv X À σ H s)(r:RelV v u)(t:TrV X.K H v c)(q: ∀s',Inv X À σ H s'->Q c s'):D8 (R3 X.prog X.w) X.A (tJ u) Q E s:=by
 cases v<;>try exact t.elim
 ·have e:u=iQ:=r;subst e;have e:c=false:=t;subst e;exact truthy_none (q _ I)
 ·have e:u=iR _:=r;subst e;have e:c=_:=t;subst e;exact Q1 (q _ I)
 ·obtain⟨t',e⟩:=r;subst e;have e:c=_:=t;subst e;exact truthy_int (q _ I)
 ·have e:u=A6 _:=r;subst e;obtain⟨xs,hx,e⟩:=t;obtain⟨its,rv,p,hz⟩:=I.list hx;have hl:=rv.length;have e2:c= !its.toArray.isEmpty:=by
   rw [e];cases xs<;>cases its<;>first|rfl|(simp at hl)
  refine wpAny_truthy_list p.isList ?_ ?_
  ·have:xs.length<=16777216:=R1 hz (by decide);simp only [D7];have e3:((2:P4)^63)=9223372036854775808:=by decide
   rw [e3];omega
  ·rw [<-e2];exact q _ (I.tok _)
end
section
variable {X:Cx}{a b:M6}{rest:G0 M6}{pos:Pos}
def HR (K:G7)(t:TE):TT:=λσ H Q=>t σ H λx H1=> ∃c,TrV K H1 x c/\Q c H1
def El {e:M6}{t:TE}(h:PE X e t)(he: ∀whole,isTrue e X.env whole=(do let v <-whole;gX e.pos;aR [v] (tJ v)):=by intro _;rfl):PT X e (HR X.K t):=by
 intro À s σ H Q I hw;refine xH (Ó (h À s σ H _ I hw) λv s1 ⟨x,H1,I1,r1,q1⟩=> ?_) (he _);obtain⟨c,t1,q⟩:=q1;exact I1.trv r1 t1 λs' I'=>⟨H1,I',q⟩
def HS (t:TED):TTD:=λσ h Q=>t σ h λx h1=> ∃c,TrD h1 x c/\Q c h1
variable {K:G7}
def Em {t:TED}: ∀σ H Q,LT K (HS t) σ H Q->HR K (LE K t) σ H Q:=λσ H Q ⟨Å,h,Qd,rs,rh,t,p⟩=>
 LE.bind rs rh t λd v h1 H1 k1 ß Ë r1 ⟨k,e,q⟩=>⟨k,e.to r1 Ë,p k h1 H1 k1 Ë q⟩
def TN {ta:TED}(ha:JE X a ta)(he: ∀whole,isTrue a X.env whole=(do let v <-whole;gX a.pos;aR [v] (tJ v)):=by intro _;rfl):JT X a (HS ta):=⟨(El ha.to he).imp Em⟩
end
end L2
namespace L2
open PySem PySem.Spec PyProof.Rows PySem.SeqAt
section
variable {n e:G8}{T:G0 (G0 P4)}
def YV (h:Sq n e T)(hn:n<=8){a b i j k:G8}(hi:i<n)(hk:k<n)(hj:j<n)(x:RP n T a i k)(y:RP n T b k j):RP n T (a+b) i j:=(Ri h hn a b hi hj).mpr ⟨k,hk,x,y⟩
def Rl (h:Sq n e T)(hn:n<=8){i j:G8}:RP n T 1 i j↔á T i j≠0:=by unfold RP;rw [FV h hn]
end
end L2
namespace HT
open PySem PySem.Spec PyProof.Rows
variable {j:G8}
theorem YW {xs:S5 G8}(r:xs.toList.Pairwise (· < ·)): ∀ (fuel lo hi:G8),hi-lo<=fuel->hi<=xs.size->lo<=hi->(∀i,i<lo-> ∀v,xs[i]? =some v->v<j)->(∀i,hi<=i-> ∀v,xs[i]? =some v->j<=v)->
 (∀i,i<gF xs j fuel lo hi-> ∀v,xs[i]? =some v->v<j)/\(∀i,gF xs j fuel lo hi<=i-> ∀v,xs[i]? =some v->j<=v)/\gF xs j fuel lo hi<=xs.size
 |0,lo,hi,f,hs,lh,a,b=>by
  have:lo=hi:=by omega
  subst this;exact⟨a,b,hs⟩
 |fuel+1,lo,hi,f,hs,lh,a,b=>by
  unfold gF
  by_cases c:lo<hi
  ·rw [R6 c];have hm:(lo+hi) / 2<xs.size:=by omega
   have mono: ∀ (i k u v:G8),i<=k->xs[i]? =some u->xs[k]? =some v->u<=v:=λi k u v ik e1 e2=>by
    rcases Q4 i k with z|z
    ·have i1:=(F8.mp e1);have i2:=(F8.mp e2);obtain⟨h1,e1'⟩:=i1;obtain⟨h2,e2'⟩:=i2;have:=A5.mp r i k (by simpa using h1) (by simpa using h2) z;simp only [dG] at this;omega
    ·have:i=k:=by omega
     subst this;rw [e1] at e2;cases e2;exact P2 _
   have em:xs.getD ((lo+hi) / 2) j=xs[(lo+hi) / 2]:=by simp [tY,hm]
   dsimp only
   by_cases d:xs.getD ((lo+hi) / 2) j<j
   ·rw [R6 d];refine YW r fuel _ hi (by omega) hs (by omega) (λi hi' v hv=> ?_) b;have:=mono i ((lo+hi) / 2) v xs[(lo+hi) / 2] (by omega) hv (by simp [hm]);omega
   ·rw [R9 d];refine YW r fuel lo _ (by omega) (by omega) (by omega) a (λi hi' v hv=> ?_);have:=mono ((lo+hi) / 2) i xs[(lo+hi) / 2] v hi' (by simp [hm]) hv;omega
  ·rw [R9 c];have:lo=hi:=by omega
   subst this;exact⟨a,b,hs⟩
def Jp {xs:S5 G8}(r:xs.toList.Pairwise (· < ·))(j:G8):(∀i,i<M5 xs j-> ∀v,xs[i]? =some v->v<j)/\(∀i,M5 xs j<=i-> ∀v,xs[i]? =some v->j<=v)/\M5 xs j<=xs.size:=
 YW r xs.size 0 xs.size (by omega) (P2 _) (N7 _) (λi h=>absurd h (aP _)) (λi h v e=>by rw [mR h] at e;cases e)
def Xv {xs:S5 G8}(r:xs.toList.Pairwise (· < ·))(no:xs[M5 xs j]? ≠some j):(X6 xs (M5 xs j) j).toList.Pairwise (· < ·):=by
 obtain⟨a,b,hs⟩:=Jp r j;rw [e7,B9,K6];have low: ∀v∈xs.toList.take (M5 xs j),v<j:=λv hv=>by
  obtain⟨i,hi⟩:=dH hv;rw [pU] at hi;split at hi
  ·rename_i c;exact a i c v (by simpa using hi)
  ·cases hi
 have high: ∀v∈xs.toList.drop (M5 xs j),j<v:=λv hv=>by
  obtain⟨i,hi⟩:=dH hv;rw [Z4] at hi;have hi':xs[M5 xs j+i]? =some v:=by simpa using hi
  have le:=b _ (W4 _ _) v hi';rcases Q4 j v with z|z
  ·exact z
  ·have ev:v=j:=by omega
   subst ev;cases i with
   |zero=>exact(no hi').elim
   |succ i=>
    obtain⟨h1,e1⟩:=F8.mp hi';have h0:M5 xs v<xs.size:=by omega
    have le0:=b _ (P2 _) xs[M5 xs v] (by simp [h0]);have lt:=A5.mp r (M5 xs v) (M5 xs v+(i+1)) (by simpa using h0) (by simpa using h1) (by omega);simp only [dG] at lt;omega
 exact⟨r.sublist (V1 _ _),⟨high,r.sublist (V3 _ _)⟩,λu hu v hv=>by
  rcases S0.mp hv with e|e
  ·rw [e];exact low u hu
  ·exact X2 (low u hu) (high v e)⟩
structure Tab (L:N0)(n:G8)(t:N3):Prop where
 fits:t.fits n=true
 led:t.led=L
 dum:t.dummies= #[]
 rise:t.plain=true\/n<=1->t.place.toList.Pairwise (· < ·)
def GS {t:N3}{n:G8}(h:t.fits n=true):t.place.size=n:=by
 simp only [u7,N9,beq_iff_eq] at h;exact h.1
def GT {t:N3}(h:t.slot j= .empty):t.place[M5 t.place j]? ≠some j:=λe=>by
 unfold lV at h;dsimp only at h;rw [R6 (by rw [e];exact a8 _)] at h;cases h
def Yr {t:N3}(d:t.dummies= #[]):t.slot j≠ .dummy:=λh=>by
 unfold lV at h;dsimp only at h;split at h
 ·cases h
 ·rw [d] at h;have:mS #[] j=false:=by unfold mS;simp
  rw [this] at h;cases h
theorem YX (f:G8->P9 G8): ∀l:G0 G8,((l.filterMap λj=>(f j).map (j,·)).map (·.1)).Sublist l
 | []=> .slnil
 |j::l=>by
  rw [dY];cases e:(f j).map (j,·) with
  |none=>exact(YX f l).cons _
  |some q=>
   obtain⟨v,_,rfl⟩:=L5.mp e;exact(YX f l).cons₂ _
noncomputable abbrev yH (es:S5 (P4×G2))(ep:G8)(t:N3):Obj:= {cls:= .type "set",dict:=none,data:= .set es ep t,slots:= #[]}
noncomputable def HU (e:P4×G2):P4:=match e.2 with
 | .int n _=>n
 |_=>0
structure X1V (L:N0)(es:S5 (P4×G2))(t:N3)(ns:G0 P4):Prop where
 tab:Tab L es.size t
 nums: ∀e∈es.toList,∃n tk,e=(G0q n,.int n tk)
 nd:(es.toList.map HU).Nodup
 mem: ∀n,n∈es.toList.map HU↔n∈ns
def Wh:plainId "set.update.loop" =true:=by decide +kernel
def Uh:qQ table "set.update.loop" =some Builtin.«set.update.loop» :=rL (by kernel_rfl)
def WM:qQ table "set.__init__" =some Builtin.«set.__init__» :=rL (by kernel_rfl)
noncomputable abbrev wO (w:B3):N0:= !(w.params.followText "set-order")
def NP (L:N0):X1V L #[] (.fresh 0 0 L) []:=⟨⟨rfl,rfl,rfl,λ_=> .nil⟩,λe he=>by simp at he,by simp,λn=>by simp⟩
def vP:oZ (.type "set") (.type "set")=pure true:=by rw [cG];kernel_rfl
def Ui:oZ (.type "list") (.type "set")=pure false:=by rw [cG];kernel_rfl
def Uj:oZ (.type "list") (.type "frozenset")=pure false:=by rw [cG];kernel_rfl
def Xw:oZ (.type "tuple") (.type "set")=pure false:=by rw [cG];kernel_rfl
def Xx:oZ (.type "tuple") (.type "frozenset")=pure false:=by rw [cG];kernel_rfl
section
variable {prog:S6}{w:B3}{A:N4}{E:G2->G3->Prop}{s:G3}
def NQ {x:G2}{P:dQ->G3->Prop}(h:P (.done (.ret (.ref s.heap.objs.size))) {s with heap:=s.heap.push (yH #[] 0 (.fresh 0 0 (wO w)))}):
 D8 (R3 prog w) A (Builtin.«set.__new__» ⟨[.type "set",x],[]⟩) P E s:=by
 have X1o:=vP;obtain⟨hp,g,d,tk,os⟩:=s;have told: ∀ {Q:tF->G3->Prop} {E':G2->G3->Prop} {A':N4} {s':G3},Q ⟨prog,w.params⟩ s'->D8 (R3 prog w) A' ask Q E' s':=λq=>aY q
 wp_walk using told
 exact h
def YY {M:qA}{o x:G2}{Q:Unit->G3->Prop}(ty:s.TypeIs o "set")(q:Q () s):D8 M A (mG "set.__init__" ⟨[o,x],[]⟩) Q E s:=by
 have X1o:=vP;unfold mG;rw [kind_set_init,split_set_init,sig_set_init]
 wp_walk using uI (n:= "set") (by decide),uJ (self:=o) rfl ty
 exact q
end
def à:Slot "set_iterator" "__next__" "set_iterator.__next__" :=
 .of (owner:= "set_iterator") (n:= "__next__") (by rw [sO,nM];kernel_rfl) (by decide +kernel) (by decide +kernel) (by decide +kernel) (.inl (by kernel_rfl)) (by rw [cG];kernel_rfl)
def YZ:qQ table "set_iterator.__next__" =some Builtin.«set_iterator.__next__» :=entryFor_of_tree (by kernel_rfl)
def Uk (a:G2):xO "set_iterator.__next__" ⟨[a],[]⟩:=by unfold xO;kernel_rfl
def WN:qQ table "set.__iter__" =some Builtin.«frozenset.__iter__» :=tZ (id':= "frozenset.__iter__") (by kernel_rfl) rfl (by decide +kernel) (by kernel_rfl)
noncomputable abbrev ź (first:G2)(i:G8)(a:P3)(n ep:G8):Obj:= {cls:= .type "set_iterator",data:= .fields #[first,K4 i,.ref a,K4 n,K4 ep]}
inductive Ň (w:B3)(a:P3)(es:S5 (P4×G2))(ep:G8)(t:N3):G0 G2->(G2->G8->L8->Prop)->P3->Prop
 |text (b:w.params.followText "set-order" =true):Ň w a es ep t ((pickOrder (w.params.setOrder a ep) es).toList.map (·.2)) (λf _ _=>f=K4 0) a
 |drawn (b:w.params.followText "set-order" =false) (d:t.plain=false) (two:1<es.size) (ord:G0 G8) (p:ord.Perm (D6 es.size)) (tp:P3):
  Ň w a es ep t (ord.map λj=>(es.getD j (0,.none)).2) (λf _ h=>f= .ref tp/\h.IsTuple tp (ord.map λj=>K4 (j:G8)).toArray) tp
 |table (b:w.params.followText "set-order" =false) (d:t.plain=true\/es.size<=1):Ň w a es ep t (es.toList.map (·.2)) (λf i _=> ∃slot:G8,f=K4 slot/\M5 t.place slot=i) a
section
variable {prog:S6}{w:B3}{A:N4}{E:G2->G3->Prop}{s:G3}{a I tp:P3}{es:S5 (P4×G2)}{ep n i:G8}{t:N3}{ns:G0 P4}{first:G2}
def Rm {Q:G2->G3->Prop}(S:Tab (wO w) es.size t)(b:w.params.followText "set-order" =true)(ha:s.heap.get? a=some (yH es ep t))(hI:s.heap.get? I=some (ź (K4 0) i a es.size ep))(aI:a≠I)
 {x:G2}(hx:((pickOrder (w.params.setOrder a ep) es).toList.map (·.2))[i]? =some x)(q: ∀h',h'.get? I=some (ź (K4 0) (i+1) a es.size ep)->O9 I s.heap h'->Q x {s with heap:=h'}):
 D8 (R3 prog w) A (Builtin.«set_iterator.__next__» ⟨[.ref I],[]⟩) (λfin s'=> ∃v,fin= .done (.ret v)/\Q v s') E s:=by
 have told: ∀ {Q:tF->G3->Prop} {E':G2->G3->Prop} {A':N4} {s':G3},Q ⟨prog,w.params⟩ s'->D8 (R3 prog w) A' ask Q E' s':=λq=>aY q
 have state:=λ{P:S5 (P4×G2)×G8×N3->G3->Prop} {E':G2->G3->Prop} {A':N4}=>E8 (prog:=prog) (w:=w) (A:=A') (E:=E') (Q:=P) (s:=s) ha rfl S.fits
 obtain⟨hp,g,d,tk,os⟩:=s;rw [P7] at hx;obtain⟨⟨k,x'⟩,hx1,rfl⟩:=L5.mp hx;have Ġ:(pickOrder (w.params.setOrder a ep) es)[((i:G8):P4).toNat]? =some (k,x'):=by rw [K2,<-M9];exact hx1
 have z1:=F7 (Z8 λv=>v.setIfInBounds 0 (K4 ((cR 0:G8):P4))) hI rfl;have z2:=F7 (Z8 λv=>v.setIfInBounds 1 (K4 ((i:P4)+1))) z1 rfl;have fin:=q _ z2 ((L9 ..).trans (L9 ..))
 wp_walk using state,told
 rw [Ġ]
 wp_walk
 exact⟨_,rfl,fin⟩
def GU {Q:G2->G3->Prop}{ord:G0 G8}(S:Tab (wO w) es.size t)(ha:s.heap.get? a=some (yH es ep t))(hI:s.heap.get? I=some (ź (.ref tp) i a es.size ep))(aI:a≠I)(ht:s.heap.IsTuple tp (ord.map λj=>K4 (j:G8)).toArray)(p:ord.Perm (D6 es.size))
 {x:G2}(hx:(ord.map λj=>(es.getD j (0,.none)).2)[i]? =some x)(q: ∀h',h'.get? I=some (ź (.ref tp) (i+1) a es.size ep)->O9 I s.heap h'->Q x {s with heap:=h'}):
 D8 (R3 prog w) A (Builtin.«set_iterator.__next__» ⟨[.ref I],[]⟩) (λfin s'=> ∃v,fin= .done (.ret v)/\Q v s') E s:=by
 have state:=λ{P:S5 (P4×G2)×G8×N3->G3->Prop} {E':G2->G3->Prop} {A':N4}=>E8 (prog:=prog) (w:=w) (A:=A') (E:=E') (Q:=P) (s:=s) ha rfl S.fits
 obtain⟨⟨oc,od,odt,ŵ⟩,Ű,hc,c,hd⟩:=ht;simp only at hc hd;subst hc hd;obtain⟨hp,g,d,tk,os⟩:=s;rw [P7] at hx;obtain⟨j,hj,rfl⟩:=L5.mp hx;have jlt:j<es.size:=S4.mp (p.mem_iff.mp (P6 hj));have hj':((ord.map λj=>K4 (j:G8)).toArray)[((i:G8):P4).toNat]? =some (K4 (j:G8)):=by simp [hj]
 have ej:es[((j:G8):P4).toNat]? =some (es.getD j (0,.none)):=by simp [jlt,tY]
 have z1:=F7 (Z8 λv=>v.setIfInBounds 1 (K4 ((i:P4)+1))) hI rfl;have fin:=q _ z1 (L9 ..)
 wp_walk using state
 rw [hj'];show D8 _ _ (setNextDrawn a ((j:G8):P4).toNat ((ep:G8):P4).toNat >>= _) _ _ _
 wp_walk using state
 rw [ej]
 wp_walk
 exact⟨_,rfl,fin⟩
def GV {Q:G2->G3->Prop}{slot:G8}(S:Tab (wO w) es.size t)(b:w.params.followText "set-order" =false)(pl:t.plain=true\/es.size<=1)(ha:s.heap.get? a=some (yH es ep t))(hI:s.heap.get? I=some (ź (K4 slot) i a es.size ep))(aI:a≠I)(hs:M5 t.place slot=i)
 {x:G2}(hx:(es.toList.map (·.2))[i]? =some x)(q: ∀h' (Ε:G8),M5 t.place Ε=i+1->h'.get? I=some (ź (K4 Ε) (i+1) a es.size ep)->O9 I s.heap h'->Q x {s with heap:=h'}):
 D8 (R3 prog w) A (Builtin.«set_iterator.__next__» ⟨[.ref I],[]⟩) (λfin s'=> ∃v,fin= .done (.ret v)/\Q v s') E s:=by
 have told: ∀ {Q:tF->G3->Prop} {E':G2->G3->Prop} {A':N4} {s':G3},Q ⟨prog,w.params⟩ s'->D8 (R3 prog w) A' ask Q E' s':=λq=>aY q
 have state:=λ{P:S5 (P4×G2)×G8×N3->G3->Prop} {E':G2->G3->Prop} {A':N4}=>E8 (prog:=prog) (w:=w) (A:=A') (E:=E') (Q:=P) (s:=s) ha rfl S.fits
 have led:t.led=true:=by rw [S.led];show (!(w.params.followText "set-order"))=true;rw [b];rfl
 have nd:(!t.plain&&decide (es.size>1))=false:=by
  rcases pl with z|z
  ·rw [z];rfl
  ·rw [B7 (by omega),cC]
 obtain⟨hp,g,d,tk,os⟩:=s;rw [P7] at hx;obtain⟨⟨k,x'⟩,hx1,rfl⟩:=L5.mp hx;have lt:i<es.size:=by have:=(P5.mp hx1).1;simpa using this
 have ps:=GS S.fits;have ltp:i<t.place.size:=by omega
 have ex:es[i]? =some (k,x'):=by rw [<-M9];exact hx1
 have é:t.place[i]? =some t.place[i]:=by simp [ltp]
 have rise:=S.rise pl;have next:M5 t.place (t.place[i]+1)=i+1:=by
  obtain⟨b1,b2,b3⟩:=Jp rise (t.place[i]+1);have mono:=λ(u v:G8) (hu:u<t.place.size) (hv:v<t.place.size) (uv:u<v)=>A5.mp rise u v (by simpa using hu) (by simpa using hv) uv
  simp only [dG] at mono;rcases dA (M5 t.place (t.place[i]+1)) (i+1) with z|z|z
  ·have:=b2 i (by omega) _ é;omega
  ·exact z
  ·have h1:i+1<t.place.size:=by omega
   have:=b1 (i+1) z _ (by simp [h1]:t.place[i+1]? =some t.place[i+1]);have:=mono i (i+1) ltp h1 (by omega);omega
 have z1:=F7 (Z8 λv=>v.setIfInBounds 0 (K4 ((t.place[i]+1:G8):P4))) hI rfl;have z2:=F7 (Z8 λv=>v.setIfInBounds 1 (K4 ((i:P4)+1))) z1 rfl;have fin:=q _ _ next z2 ((L9 ..).trans (L9 ..))
 wp_walk using state,told
 split
 ·rename_i z;have z':(!t.plain&&decide (es.size>1))=true:=z;rw [nd] at z';cases z'
 wp_walk
 rw [show ((slot:G8):P4).toNat=slot from K2 _,hs,ex,é]
 wp_walk
 exact⟨_,rfl,fin⟩
def GW {vals:G0 G2}{md:G2->G8->L8->Prop}{Q:dQ->G3->Prop}(calm:A.handled=none)(S:Tab (wO w) es.size t)(M:Ň w a es ep t vals md tp)(ha:s.heap.get? a=some (yH es ep t))(hI:s.heap.get? I=some (ź first i a es.size ep))(aI:a≠I)(hm:md first i s.heap)(hx:vals[i]? =none)
 (q: ∀h' e,(∀b o,b≠I->s.heap.get? b=some o->h'.get? b=some o)->(∃o,h'.get? e=some o/\o.cls= .type "StopIteration")->E (.ref e) {s with heap:=h'}):
 D8 (R3 prog w) A (Builtin.«set_iterator.__next__» ⟨[.ref I],[]⟩) Q E s:=by
 have told: ∀ {Q:tF->G3->Prop} {E':G2->G3->Prop} {A':N4} {s':G3},Q ⟨prog,w.params⟩ s'->D8 (R3 prog w) A' ask Q E' s':=λq=>aY q
 have state:=λ{P:S5 (P4×G2)×G8×N3->G3->Prop} {E':G2->G3->Prop} {A':N4}=>E8 (prog:=prog) (w:=w) (A:=A') (E:=E') (Q:=P) (s:=s) ha rfl S.fits
 have stop:=λ{h1:L8} {Q':dQ->G3->Prop} (same:O9 I s.heap h1)=>L2.yj (prog:=prog) (w:=w) (A:=A) (E:=E) (s:= {s with heap:=h1}) (Q:=Q') calm λh' e grown st=>q h' e (λb o nb x=>grown b o (same.extBut b o nb x)) st
 obtain⟨hp,g,d,tk,os⟩:=s;have put: ∀ {P:Unit->G3->Prop} {E':G2->G3->Prop} {k:G8} {v:G2} {h1:L8},k<5->O9 I hp h1->(∃fs:S5 G2,fs.size=5/\h1.get? I=some {cls:= .type "set_iterator",data:= .fields fs})->(∀h',O9 I hp h'->(∃fs:S5 G2,fs.size=5/\h'.get? I=some {cls:= .type "set_iterator",data:= .fields fs})->P () ⟨h',g,d,tk,os⟩)->D8 (R3 prog w) A (g8 (.ref I) k v) P E' ⟨h1,g,d,tk,os⟩:=λhk same ⟨fs,hfs,e⟩ q'=>wpAny_setField_rec (s:=⟨_,g,d,tk,os⟩) e (by omega) λh' z' X1a=>q' h' (same.trans X1a) ⟨_,by simpa using hfs,z'⟩
 cases M with
 |text b=>
  subst hm;have e:(pickOrder (w.params.setOrder a ep) es)[((i:G8):P4).toNat]? =none:=by
   rw [P7] at hx;rw [K2,<-M9];exact X7.mp hx
  wp_walk using state,told
  rw [e];show D8 _ _ (g8 (.ref I) 2 .none >>= _) _ _ _;exact wpAny_bind (put (by decide) (cY _ _) ⟨_,rfl,hI⟩ λh' same _=>stop same)
 |drawn b dp two ord p tp=>
  obtain⟨rfl,⟨oc,od,odt,ŵ⟩,Ű,hc,c,hd⟩:=hm;simp only at hc hd;subst hc hd;have e:((ord.map λj=>K4 (j:G8)).toArray)[((i:G8):P4).toNat]? =none:=by
   rw [P7] at hx;simp [X7.mp hx]
  wp_walk using state
  rw [e];show D8 _ _ (g8 (.ref I) 0 (K4 0) >>= λ_=>g8 (.ref I) 2 .none >>= _) _ _ _;exact wpAny_bind (put (by decide) (cY _ _) ⟨_,rfl,hI⟩ λh1 X1b X0z=>wpAny_bind (put (by decide) X1b X0z λh' same _=>stop same))
 |table b pl=>
  obtain⟨slot,rfl,hs⟩:=hm;have led:t.led=true:=by rw [S.led];show (!(w.params.followText "set-order"))=true;rw [b];rfl
  have nd:(!t.plain&&decide (es.size>1))=false:=by
   rcases pl with z|z
   ·rw [z];rfl
   ·rw [B7 (by omega),cC]
  have e:es[i]? =none:=by
   rw [P7] at hx;rw [<-M9];exact X7.mp hx
  wp_walk using state,told
  split
  ·rename_i z;have z':(!t.plain&&decide (es.size>1))=true:=z;rw [nd] at z';cases z'
  wp_walk
  rw [show ((slot:G8):P4).toNat=slot from K2 _,hs,e];show D8 _ _ (g8 (.ref I) 2 .none >>= _) _ _ _;exact wpAny_bind (put (by decide) (cY _ _) ⟨_,rfl,hI⟩ λh' same _=>stop same)
end
def Va:qQ table "set_iterator.__iter__" =some Builtin.«dict_keyiterator.__iter__» :=tZ (id':= "dict_keyiterator.__iter__") (by kernel_rfl) (by first|rfl|decide +kernel|(unfold String.splitOn;simp +decide [String.splitOnAux])) (by decide +kernel) (by kernel_rfl)
def Jq:Slot "set_iterator" "__iter__" "set_iterator.__iter__" := .of (owner:= "set_iterator") (n:= "__iter__") (by rw [sO,nM];kernel_rfl) (by decide +kernel) (by decide +kernel) (by decide +kernel) (.inl (by kernel_rfl)) (by rw [cG];kernel_rfl)
def Ul (a:G2):xO "set_iterator.__iter__" ⟨[a],[]⟩:=by unfold xO;kernel_rfl
section
variable {prog:S6}{w:B3}{A:N4}{E:G2->G3->Prop}{s:G3}{a I tp:P3}{es:S5 (P4×G2)}{ep n i:G8}{t:N3}{ns:G0 P4}{first:G2}{vals:G0 G2}{md:G2->G8->L8->Prop}
def Ň.keep {f:G2}{h h':L8}(M:Ň w a es ep t vals md tp)(m:md f i h)(k: ∀o,h.get? tp=some o->h'.get? tp=some o):md f i h':=by
 cases M with
 |text b=>exact m
 |drawn b dp two ord p tp=>exact⟨m.1,m.2.at λo e=>k o e⟩
 |table b pl=>exact m
def Rn {Q:P9 G2->G3->Prop}(ty:s.TypeIs (.ref I) "set_iterator")
 (h:D8 (R3 prog w) A.in1 (Builtin.«set_iterator.__next__» ⟨[.ref I],[]⟩) (λfin s'=> ∃v,fin= .done (.ret v)/\Q (some v) s') (λe s'=>s'.TypeIs e "StopIteration" /\Q none s') s):D8 (R3 prog w) A (iU (.ref I)) Q E s:=
 wpAny_bind (cP (F5 (name:= "__next__") ty à (T7 (C7 à ty YZ h (Uk _)) (λ_ _ q=>G9 q) λe s' q=>wpAny_bind (aZ (b:=true) q.1 j7 (G9 q.2)))))
def Ro (calm:A.handled=none)(S:Tab (wO w) es.size t)(M:Ň w a es ep t vals md tp)(aI:a≠I)(tI:tp≠I):
 Walks prog w A I [I,a,tp] [I] vals.length (λi v=>vals[i]? =some v) (λi h=>h.get? a=some (yH es ep t)/\ ∃first,h.get? I=some (ź first i a es.size ep)/\md first i h) where
 sub:=λb hb=>by simp only [P0] at hb;simp [hb]
 frame:=λi h h' ⟨ha,f,hI,m⟩ k=>⟨k a (by simp) _ ha,f,k I (by simp) _ hI,M.keep m λo e=>k tp (by simp) o e⟩
 item:=λi s Q E hi ⟨ha,f,hI,m⟩ q=>by
  have hx:vals[i]? =some vals[i]:=by simp [hi]
  refine Rn ⟨_,hI,rfl⟩ ?_;have fin: ∀ {f':G2} h',md f' (i+1) s.heap->h'.get? I=some (ź f' (i+1) a es.size ep)->O9 I s.heap h'->Q (some vals[i]) {s with heap:=h'}:=λh' m' e same=>
   q vals[i] h' s.toks hx ⟨same.extBut _ _ aI ha,_,e,M.keep m' λo x=>same.extBut _ _ tI x⟩ λb o nb x=>same.extBut _ _ (by simpa using nb) x
  cases M with
  |text b=>
   subst m;exact Rm S b ha hI aI hx λh' e same=>fin h' rfl e same
  |drawn b dp two ord p tp=>
   obtain⟨rfl,ht⟩:=m;exact GU S ha hI aI ht p hx λh' e same=>fin h' ⟨rfl,ht⟩ e same
  |table b pl=>
   obtain⟨slot,rfl,hs⟩:=m;exact GV S b pl ha hI aI hs hx λh' Ε hs' e same=>fin h' ⟨Ε,rfl,hs'⟩ e same
 done:=λs Q E ⟨ha,f,hI,m⟩ q=>by
  refine Rn ⟨_,hI,rfl⟩ (GW calm S M ha hI aI m (by simp) λh' e kept ⟨o,ho,hc⟩=>⟨⟨o,ho,hc⟩,q h' s.toks λb ob nb x=>kept b ob (by simpa using nb) x⟩)
 self:=λi s Q E ⟨ha,f,hI,m⟩ q=>gD ⟨_,hI,rfl⟩ Jq (C7 Jq ⟨_,hI,rfl⟩ Va (G9 ⟨_,rfl,_,_,⟨_,hI,rfl⟩,à.lookup,q⟩) (Ul _))
end
theorem JU {α:Type}: ∀ (l:G0 α) (i:G8) {x:α},l[i]? =some x->(x::l.eraseIdx i).Perm l
 | [],i,x,h=>by cases h
 |y::l,0,x,h=>by cases h;exact .refl _
 |y::l,i+1,x,h=>(G0V y x _).trans ((JU l i h).cons y)
theorem Rp {α:Type}(next:G8->G8): ∀ (fuel k:G8) (left:G0 α) (out:S5 α),left.length=fuel->(pickOrder.go next fuel k left out).toList.Perm (out.toList++left)
 |0,k,left,out,h=>by
  rw [V4 h,J8];exact .refl _
 |fuel+1,k,left,out,h=>by
  unfold pickOrder.go;have lt:next k%left.length<left.length:=Z5 _ (by omega);have hx:left[next k%left.length]? =some left[next k%left.length]:=by simp [lt]
  rw [hx];refine(Rp next fuel (k+1) _ _ (by rw [j8 lt];omega)).trans ?_;rw [V2,D5];exact(JU left _ hx).append_left _
def Rq {α:Type}(next:G8->G8)(xs:S5 α):(pickOrder next xs).toList.Perm xs.toList:=by
 have:=Rp next xs.size 0 xs.toList #[] (by simp);rw [Array.toList_empty,O6] at this;exact this
section
variable {prog:S6}{w:B3}{A:N4}{E:G2->G3->Prop}{s:G3}{a I tp:P3}{es:S5 (P4×G2)}{ep n i:G8}{t:N3}{ns:G0 P4}{first:G2}{vals:G0 G2}{md:G2->G8->L8->Prop}
def Ň.perm (M:Ň w a es ep t vals md tp):vals.Perm (es.toList.map (·.2)):=by
 cases M with
 |text b=>exact(Rq _ es).map _
 |drawn b dp two ord p tp=>
  refine(p.map _).trans ?_;have:(D6 es.size).map (λj=>(es.getD j (0,.none)).2)=es.toList.map (·.2):=by
   refine bV λj=> ?_
   rw [P7,P7]
   by_cases hj:j<es.size
   ·rw [Y3 hj];simp [hj,tY]
   ·rw [A2 (by simpa using hj),A2 (by simpa using hj)];rfl
  rw [this]
 |table b pl=>exact .refl _
theorem QP {α:Type}{Q:G0 α->G3->Prop}: ∀ (n:G8) (xs:G0 α) (s:G3),xs.length=n->(∀ys d,ys.Perm xs->Q ys {s with drawn:=d})->D8 (R3 prog w) A (drawOrder n xs) Q E s
 |0,xs,s,h,q=>by
  rw [V4 h] at q;exact G9 (q [] s.drawn (.refl _))
 |n+1,[],s,h,q=>by cases h
 |n+1,x::r,s,h,q=>by
  have X1c: ∀ {P:G8->G3->Prop} {E':G2->G3->Prop},(∀i d,i<(x::r).length->P i {s with drawn:=d})->D8 (R3 prog w) A (choose .order (x::r).length) P E' s:=λp _ _ _=>⟨by simp,p _ _ (Z5 _ (by simp))⟩
  refine wpAny_bind (X1c λi d hi=> ?_);have hx:(x::r)[i]? =some (x::r)[i]:=by rw [G5 hi]
  rw [hx];refine wpAny_bind (QP n _ {s with drawn:=d} (by rw [j8 hi];simp at h ⊢;omega) λys d' p=>G9 (q _ d' ?_));exact(p.cons _).trans (JU _ _ hx)
def NR {Q:G2->G3->Prop}(S:Tab (wO w) es.size t)(ha:s.heap.get? a=some (yH es ep t))(few:es.size<1000)
 (k: ∀h' d I tp vals md first,Ň w a es ep t vals md tp->(∀b o,s.heap.get? b=some o->h'.get? b=some o)->s.heap.objs.size<=I->tp≠I->(tp=a\/s.heap.objs.size<=tp)->tp<h'.objs.size->h'.get? I=some (ź first 0 a es.size ep)->md first 0 h'->Q (.ref I) {s with heap:=h',drawn:=d}):
 D8 (R3 prog w) A (nV (.ref a)) Q E s:=by
 have ty:s.TypeIs (.ref a) "set" :=⟨_,ha,rfl⟩;have told: ∀ {Q:tF->G3->Prop} {E':G2->G3->Prop} {A':N4} {s':G3},Q ⟨prog,w.params⟩ s'->D8 (R3 prog w) A' ask Q E' s':=λq=>aY q
 have state:=λ{P:S5 (P4×G2)×G8×N3->G3->Prop} {E':G2->G3->Prop} {A':N4} {s':G3} (e:s'.heap.get? a=some (yH es ep t))=>E8 (prog:=prog) (w:=w) (A:=A') (E:=E') (Q:=P) (s:=s') e rfl S.fits
 refine gD ty sP (C7 sP ty WN ?_ (F.args_set_iter_1 _));have Ŗ:=λ{P:S5 (P4×G2)×G8×N3->G3->Prop} {E':G2->G3->Prop} {A':N4}=>state (P:=P) (E':=E') (A':=A') (s':=s) ha
 cases b:w.params.followText "set-order" with
 |true=>
  wp_walk using Ŗ,told
  have at_:(s.heap.push (ź (K4 0) 0 a es.size ep)).get? s.heap.objs.size=some (ź (K4 0) 0 a es.size ep):=R0 _ rfl;have nI:a≠s.heap.objs.size:=λz=>C1 _ (z ▸ D0 ha)
  refine⟨_,rfl,"set_iterator",_,⟨_,at_,rfl⟩,à.lookup,?_⟩;exact k _ s.drawn s.heap.objs.size a _ _ (K4 0) (.text b) (λb o e=>G6 _ e) (P2 _) nI (.inl rfl) (D0 (G6 _ ha)) at_ rfl
 |false=>
  cases dd:(!t.plain&&decide (es.size>1)) with
  |false=>
   have pl:t.plain=true\/es.size<=1:=by
    cases hp:t.plain with
    |true=>exact .inl rfl
    |false=>rw [hp] at dd;have:=j9 (show decide (es.size>1)=false from dd);exact .inr (by omega)
   have at_:(s.heap.push (ź (K4 0) 0 a es.size ep)).get? s.heap.objs.size=some (ź (K4 0) 0 a es.size ep):=R0 _ rfl;have nI:a≠s.heap.objs.size:=λz=>C1 _ (z ▸ D0 ha)
   have zero:M5 t.place 0=0:=by
    obtain⟨b1,_,b3⟩:=Jp (S.rise pl) 0;rcases pV (M5 t.place 0) with z|z
    ·exact z
    ·have h0:0<t.place.size:=by omega
     exact absurd (b1 0 z _ (by simp [h0]:t.place[0]? =some t.place[0])) (aP _)
   have fin:=k _ s.drawn s.heap.objs.size a _ _ (K4 0) (.table b pl) (λb o e=>G6 _ e) (P2 _) nI (.inl rfl) (D0 (G6 _ ha)) at_ ⟨0,rfl,zero⟩
   wp_walk using Ŗ,told
   split
   ·rename_i z;have z':(!w.params.followText "set-order" &&(!t.plain&&decide (es.size>1)))=true:=z;rw [b,dd] at z';cases z'
   wp_walk using Ŗ
   exact⟨_,rfl,"set_iterator",_,⟨_,at_,rfl⟩,à.lookup,fin⟩
  |true=>
   have pf:t.plain=false/\1<es.size:=by
    rw [N9] at dd;exact⟨by simpa using dd.1,A7 dd.2⟩
   wp_walk using Ŗ,told
   split
   rotate_left
   ·rename_i z;exact(z (show (!w.params.followText "set-order" &&(!t.plain&&decide (es.size>1)))=true by rw [b,dd];rfl)).elim
   refine wpAny_bind (QP es.size (D6 es.size) s (by simp) λord d p=> ?_);have len:ord.length=es.size:=by rw [p.length_eq];simp
   have t0:(s.heap.push {cls:= .type "tuple",data:= .seq (ord.map λ(i:G8)=>K4 i).toArray}).get? s.heap.objs.size=some {cls:= .type "tuple",data:= .seq (ord.map λ(i:G8)=>K4 i).toArray}:=R0 _ rfl;refine wpAny_bind (oF ?_ (by rw [G1,len];exact R1 (T8 few) (by decide)));have ha1:(s.heap.push {cls:= .type "tuple",data:= .seq (ord.map λ(i:G8)=>K4 i).toArray}).get? a=some (yH es ep t):=G6 _ ha;have X0A:=λ{P:S5 (P4×G2)×G8×N3->G3->Prop} {E':G2->G3->Prop} {A':N4}=>state (P:=P) (E':=E') (A':=A') (s':= {s with heap:=s.heap.push {cls:= .type "tuple",data:= .seq (ord.map λ(i:G8)=>K4 i).toArray},drawn:=d}) ha1
   wp_walk using X0A
   have at_:=R0 (s.heap.push {cls:= .type "tuple",data:= .seq (ord.map λ(i:G8)=>K4 i).toArray}) (o:=ź (.ref s.heap.objs.size) 0 a es.size ep) rfl;have lt1:s.heap.objs.size<(s.heap.push {cls:= .type "tuple",data:= .seq (ord.map λ(i:G8)=>K4 i).toArray}).objs.size:=D0 t0;refine⟨_,rfl,"set_iterator",_,⟨_,at_,rfl⟩,à.lookup,?_⟩;exact k _ d _ s.heap.objs.size _ _ (.ref s.heap.objs.size) (.drawn b pf.1 pf.2 ord p s.heap.objs.size) (λb o e=>G6 _ (G6 _ e)) (T8 lt1) (S8 lt1) (.inr (P2 _)) (D0 (G6 _ t0)) at_ ⟨rfl,⟨_,G6 _ t0,rfl,0,rfl⟩⟩
end
section
variable {prog:S6}{w:B3}{A:N4}{E:G2->G3->Prop}{s:G3}{a:P3}{es:S5 (P4×G2)}{ep:G8}{t:N3}{ns:G0 P4}
def NS {Q:N0->G3->Prop}(ty:s.TypeIs (.ref a) "set")(q:Q false s):D8 (R3 prog w) A (iN (.ref a)) Q E s:=by
 have parts:splitId "set.__len__" =some ("set","__len__"):=by decide +kernel
 have f2:=vP;unfold iN;refine wpAny_bind (aM ty F.slot_set_len.lookup ?_);dsimp only;rw [parts];dsimp only
 wp_walk
 exact q
def En (s:G3)(es:S5 (P4×G2))(r:n6)(s':G3):Prop:=
 ∃h' d tk acc c,r= .ok (.ret (.ref s.heap.objs.size))/\s'= {s with heap:=h',drawn:=d,toks:=tk}/\h'.get? s.heap.objs.size=some {cls:= .type "list",dict:=none,data:= .seq acc c,slots:= #[]}/\(∀b o,s.heap.get? b=some o->h'.get? b=some o)/\acc.toList.Perm (es.toList.map (·.2))
def GX (calm:A.handled=none)(S:Tab (wO w) es.size t)(ha:s.heap.get? a=some (yH es ep t))(few:es.size<1000):
 bR (R3 prog w) A (.builtin "proto.collect" ⟨[.ref a],[]⟩) (En s es) s:=by
 have nS:s.heap.objs.size≠a:=λz=>C1 _ (z ▸ D0 ha)
 have old: ∀ {b o o'},s.heap.get? b=some o->(s.heap.push o').get? b=some o:=λe=>G6 _ e
 refine Y6 nN ?_
 wp_walk
 refine⟨e9 gG _,Y6 qR ?_⟩;rw [aB gG];have ha1:(s.heap.push {cls:= .type "list",data:= .seq #[]}).get? a=some (yH es ep t):=old ha;have hS:(s.heap.push {cls:= .type "list",data:= .seq #[]}).get? s.heap.objs.size=some {cls:= .type "list",data:= .seq #[]}:=R0 _ rfl;have ty:Shared.TypeIs {s with heap:=s.heap.push {cls:= .type "list",data:= .seq #[]}} (.ref a) "set" :=⟨_,ha1,rfl⟩;have other:lW (.ref s.heap.objs.size) (.ref a)=false:=by simp [lW,nS]
 have iter:=λ{P:G2->G3->Prop} {E':G2->G3->Prop} {A':N4}=>NR (prog:=prog) (w:=w) (A:=A') (E:=E') (Q:=P) (s:= {s with heap:=s.heap.push {cls:= .type "list",data:= .seq #[]}}) S ha1 (by omega)
 show D8 _ A.in1 (iO (.ref s.heap.objs.size) (.ref a) (.ref s.heap.objs.size)) _ _ _
 wp_walk using iter
 intro h1 d I tp vals md first M kept lo tI tpo tpl hI hm
 have ha2:h1.get? a=some (yH es ep t):=kept _ _ ha1;have hS2:h1.get? s.heap.objs.size=some {cls:= .type "list",data:= .seq #[]}:=kept _ _ hS;have ty2:Shared.TypeIs {s with heap:=h1,drawn:=d} (.ref a) "set" :=⟨_,ha2,rfl⟩;refine wpAny_bind (O5 (NS ty2 ?_))
 wp_walk
 have lt:a<s.heap.objs.size:=D0 ha;have e1:(s.heap.push {cls:= .type "list",data:= .seq #[]}).objs.size=s.heap.objs.size+1:=cE ..;have lo':s.heap.objs.size+1<=I:=by rw [<-e1];exact lo
 have aI:a≠I:=λz=>by subst z;exact absurd lt (aO.mpr (qS lo'))
 have SI:s.heap.objs.size≠I:=S8 lo';have Stp:s.heap.objs.size≠tp:=by
  rcases tpo with z|z
  ·rw [z];exact nS
  ·exact S8 (N5 (by rw [e1];exact E5 _) z)
 have hS3:=F7 (aL λx=>x.push iQ) hS2 rfl;have hS4:=F7 (aL λx=>x.pop) hS3 rfl;have same:O9 s.heap.objs.size h1 ((h1.update s.heap.objs.size (aL λx=>x.push iQ)).update s.heap.objs.size (aL λx=>x.pop)):=(L9 ..).trans (L9 ..);have W:=Ro (prog:=prog) (A:=A.in1) calm S M aI tI;refine⟨e9 F.plain_extend_loop _,codeAny_extend_loopS W.toS ?_ s.heap.objs.size (by simp [SI,nS,Stp]) _ vals.length 0 _ #[] _ rfl (N7 _) ⟨same.extBut _ _ nS.symm ha2,first,same.extBut _ _ SI.symm hI,M.keep hm λo e=>same.extBut _ _ Stp.symm e⟩ hS4 (ItemsOf.nil _) λs' acc c' moved hS' items=> ?_⟩
 ·rw [M.perm.length_eq,G1,P8];exact R1 (T8 few) (by decide)
 have Ο:acc.toList=vals:=by
  refine bV λi=> ?_
  rw [M9];cases e:acc[i]? with
  |some v=>exact(items.2 i v e).symm
  |none=>
   have:vals.length<=i:=by rw [<-items.1];exact A8.mp e
   exact(A2 this).symm
 obtain⟨h',g',d',tk',os'⟩:=s';have mg:g'=s.gens:=moved.gens;have md':d'=d:=moved.drawn;have mo:os'=s.os:=moved.os;subst mg md' mo;refine⟨h',d',tk',acc,c',rfl,rfl,hS',λb o e=> ?_,by rw [Ο];exact M.perm⟩;have lb:=D0 e;have nb:b≠s.heap.objs.size:=S8 lb;have nbI:b≠I:=λz=>by subst z;exact absurd lb (aO.mpr (qS lo'))
 exact moved.heap b o (by simp [nb,nbI]) (same.extBut _ _ nb (kept _ _ (old e)))
end
end HT
namespace L2
open PySem PySem.Spec PyProof.Rows PySem.SeqAt
def Inv.drew {X:Cx}{À:G0 (P3×Obj)}{σ:St}{H:Hp}{s:G3}(I:Inv X À σ H s)(d:Drawn):Inv X À σ H {s with drawn:=d}:=⟨I.ok,I.os,I.bare,I.base,I.loc,I.cell,I.free,I.freeC,I.pin,I.hok,I.len⟩
end L2
namespace L2
def IsS.ext {n:G8}{S S':G0 G8}(h:IsS n S)(h':IsS n S')(m: ∀j,j∈S↔j∈S'):S=S':=by
 obtain⟨p,rfl⟩:=h;obtain⟨q,rfl⟩:=h';refine List.filter_congr λj hj=> ?_
 have:=m j;rw [U1,U1] at this;have e:p j=true↔q j=true:=⟨λz=>(this.mp ⟨hj,z⟩).2,λz=>(this.mpr ⟨hj,z⟩).2⟩;cases hp:p j<;>cases hq:q j<;>simp_all
inductive Made (L:G0 G8):G8->Prop
 |z:Made L 0
 |s {n l:G8}:Made L n->l∈L->Made L (n+l)
theorem QQ: ∀ (L:G0 G8) (g d:G8),d∣L.foldl tG g↔d∣g/\ ∀l∈L,d∣l
 | [],g,d=>by simp
 |x::L,g,d=>by
  show d∣L.foldl tG (tG g x)↔_;rw [QQ L,Nat.dvd_gcd_iff];simp only [S0,forall_eq_or_imp];exact⟨λ⟨⟨a,b⟩,c⟩=>⟨a,b,c⟩,λ⟨a,b,c⟩=>⟨⟨a,b⟩,c⟩⟩
end L2
namespace HT
open PySem PyProof.Rows
section
variable {prog:S6}{w:B3}{A:N4}{E:G2->G3->Prop}{σ α β:Type}{J:G3->Prop}
def Tm (prog:S6)(w:B3)(A:N4)(E:G2->G3->Prop)(J:G3->Prop){σ α:Type}(m:aC σ Sem α)(Q:α->σ->Prop)(st:σ):Prop:=
 ∀s,J s->D8 (R3 prog w) A (m.run st) (λr s'=>Q r.1 r.2/\J s') E s
def Tm.pure {a:α}{Q:α->σ->Prop}{st:σ}(h:Q a st):Tm prog w A E J (Pure.pure a:aC σ Sem α) Q st:=λs j=>by
 rw [StateT.run_pure];exact G9 ⟨h,j⟩
def Tm.bind {m:aC σ Sem α}{f:α->aC σ Sem β}{Q:β->σ->Prop}{st:σ}(h:Tm prog w A E J m (λa Ä=>Tm prog w A E J (f a) Q Ä) st):Tm prog w A E J (m >>= f) Q st:=λs j=>by
 rw [StateT.run_bind];exact wpAny_bind (T7 (h s j) (λr s' x=>x.1 s' x.2) λ_ _ e=>e)
def Tm.get {Q:σ->σ->Prop}{st:σ}(h:Q st st):Tm prog w A E J (MonadState.get:aC σ Sem σ) Q st:=λs j=>by
 show D8 _ _ ((StateT.get:aC σ Sem σ).run st) _ _ _;exact G9 ⟨h,j⟩
def Tm.mono {m:aC σ Sem α}{Q Q':α->σ->Prop}{st:σ}(h:Tm prog w A E J m Q st)(q: ∀a Ä,Q a Ä->Q' a Ä):Tm prog w A E J m Q' st:=λs j=>
 T7 (h s j) (λr s' x=>⟨q _ _ x.1,x.2⟩) λ_ _ e=>e
theorem Tm.range' {f:G8->β->aC σ Sem (fT β)}(I:G8->β->σ->Prop){Q:β->σ->Prop}{b:G8}(step: ∀i c st,i<b->I i c st->Tm prog w A E J (f i c) (λr Ä=>match r with| .done c'=>Q c' Ä| .yield c'=>I (i+1) c' Ä) st)(fin: ∀c st,I b c st->Q c st):
 ∀ (k i:G8) (c:β) (st:σ),i+k=b->I i c st->Tm prog w A E J (forIn (List.range' i k) c f) Q st
 |0,i,c,st,e,h=>by
  rw [List.range'_zero,tW];exact .pure (fin c st (by rw [<-e];exact h))
 |k+1,i,c,st,e,h=>by
  rw [List.range'_succ,bQ];refine .bind ((step i c st (by omega) h).mono λr Ä x=> ?_);cases r with
  |done c'=>exact .pure x
  |yield c'=>exact Tm.range' I step fin k (i+1) c' Ä (by omega) x
def Tm.range {f:G8->β->aC σ Sem (fT β)}(I:G8->β->σ->Prop){Q:β->σ->Prop}{a b:G8}{c:β}{st:σ}(hab:a<=b)(h:I a c st)(step: ∀i c st,i<b->I i c st->Tm prog w A E J (f i c) (λr Ä=>match r with| .done c'=>Q c' Ä| .yield c'=>I (i+1) c' Ä) st)(fin: ∀c st,I b c st->Q c st):
 Tm prog w A E J (forIn [a:b] c f) Q st:=λs j=>by
 rw [Std.Legacy.Range.forIn_eq_forIn_range'];have e:([a:b]:Std.Legacy.Range).size=b-a:=by simp [Std.Legacy.Range.size]
 rw [e];exact Tm.range' I step fin (b-a) a c st (by omega) h s j
end
section
variable {prog:S6}{w:B3}{A:N4}{E:G2->G3->Prop}{J:G3->Prop}{κ:SortKind}{U:D9->Prop}{R:D9->D9->N0}
def Vb (prog:S6)(w:B3)(A:N4)(J:G3->Prop)(κ:SortKind)(U:D9->Prop)(R:D9->D9->N0):Prop:=
 ∀x y,U x->U y-> ∀s,J s->D8 (R3 prog w) A (keyLt' κ x.1 y.1) (λb s'=>b=R x y/\J s') (λ_ _=>False) s
def Tm.lt {x y:D9}{st:C9}{Q:P9 N0->C9->Prop}(a:Vb prog w A J κ U R)(k:kindOf st=κ)(hx:U x)(hy:U y)(q:Q (some (R x y)) st):Tm prog w A E J (lt' x y) Q st:=by
 rw [lt'_eq];refine .bind (.get ?_);rw [k];intro s j;rw [StateT.run_bind];refine wpAny_bind ?_;show D8 _ _ ((StateT.lift _:aC C9 Sem _).run st) _ _ _;rw [StateT.run_lift];refine wpAny_bind (cP (T7 (a x y hx hy s j) (λb s' x=> ?_) λ_ _ e=>e.elim));obtain⟨rfl,j'⟩:=x;exact G9 (Tm.pure (prog:=prog) (w:=w) (A:=A) (E:=E) (J:=J) q s' j')
def Tm.elem {arr:S5 D9}{i:G8}{x:D9}{st:C9}{Q:D9->C9->Prop}(e:arr[i]? =some x)(q:Q x st):Tm prog w A E J (elem' arr i) Q st:=by
 rw [elem'_eq,e];exact .pure q
def Eo {n lo hi:G8}{g:G8->N0}{st:C9}{f:G8->P9 (P9 G8)×G8×G8->aC C9 Sem (fT (P9 (P9 G8)×G8×G8))}(Ũ: ∀i j,i<=j->j<n->g j=true->g i=true)
 (h1:lo<=hi)(h2:hi<=n)(a1: ∀i,i<lo->g i=true)(a2: ∀i,hi<=i->i<n->g i=false)
 (stop: ∀i l,Tm prog w A E J (f i (none,l,l)) (λr Ä=>Ä=st/\r= .done (none,l,l)) st)
 (step: ∀i l u,l<u->u<=n->Tm prog w A E J (f i (none,l,u)) (λr Ä=>Ä=st/\r=if g (l+(u-l) / 2)=true then .yield (none,l+(u-l) / 2+1,u) else .yield (none,l,l+(u-l) / 2)) st):
 Tm prog w A E J (forIn [0:n] (none,lo,hi) f) (λc Ä=>Ä=st/\c.1=none/\c.2.2<=n/\(∀i,i<c.2.2->g i=true)/\ ∀i,c.2.2<=i->i<n->g i=false) st:=by
 have no: ∀i j,i<=j->j<n->g i=false->g j=false:=λi j hij hj z=>by
  cases hb:g j with
  |false=>rfl
  |true=>rw [Ũ i j hij hj hb] at z;cases z
 refine Tm.range (λi c Ä=>Ä=st/\c.1=none/\c.2.1<=c.2.2/\c.2.2<=n/\(∀i,i<c.2.1->g i=true)/\(∀i,c.2.2<=i->i<n->g i=false)/\c.2.2-c.2.1+i<=n) (N7 _) ⟨rfl,rfl,h1,h2,a1,a2,by dsimp only;omega⟩ ?_ ?_
 ·rintro i ⟨r,l,u⟩ _ hi ⟨rfl,hr,b1,b2,b3,b4,b5⟩;dsimp only at hr b1 b2 b3 b4 b5;subst hr
  by_cases z:l=u
  ·subst z;refine(stop i l).mono ?_;rintro _ _ ⟨rfl,rfl⟩;exact⟨rfl,rfl,b2,b3,b4⟩
  ·refine(step i l u (by omega) b2).mono ?_;rintro _ _ ⟨rfl,rfl⟩;cases hg:g (l+(u-l) / 2) with
   |true=>
    rw [R6 rfl];exact⟨rfl,rfl,by dsimp only;omega,b2,λj hj=>Ũ j _ (by dsimp only at hj;omega) (by omega) hg,b4,by dsimp only;omega⟩
   |false=>
    rw [R9 (by decide)];exact⟨rfl,rfl,by dsimp only;omega,by dsimp only;omega,b3,λj hj hn=>no _ j hj hn hg,by dsimp only;omega⟩
 ·rintro ⟨r,l,u⟩ _ ⟨rfl,hr,b1,b2,b3,b4,b5⟩;dsimp only at hr b1 b2 b3 b4 b5 ⊢;exact⟨rfl,hr,b2,λj hj=>b3 j (by omega),b4⟩
noncomputable def gal:N0->D9->S5 D9->G8->G8->G8->aC C9 Sem (P9 G8):=sortPriv% PySem.Builtin.gallop
noncomputable def ĳ (R:D9->D9->N0)(left:N0)(key:D9)(arr:S5 D9)(base i:G8):N0:=
 match arr[base+i]? with
 |some x=>if left=true then R x key else !R key x
 |none=>false
def Rr {left:N0}{key:D9}{arr:S5 D9}{base n hint:G8}{st:C9}{Q:P9 G8->C9->Prop}(a:Vb prog w A J κ U R)(k:kindOf st=κ)(uk:U key)(ua: ∀i,i<n-> ∃x,arr[base+i]? =some x/\U x)
 (Ũ: ∀i j,i<=j->j<n->ĳ R left key arr base j=true->ĳ R left key arr base i=true)(hh:hint<n)
 (q: ∀m,m<=n->(∀i,i<m->ĳ R left key arr base i=true)->(∀i,m<=i->i<n->ĳ R left key arr base i=false)->Q (some m) st):Tm prog w A E J (gal left key arr base n hint) Q st:=by
 have ask: ∀i (Q':P9 N0->C9->Prop),i<n->Q' (some (ĳ R left key arr base i)) st->Tm prog w A E J (do let x <-elem' arr (base+i);if left=true then lt' x key else do let b <-lt' key x;Pure.pure (b.map λz=> !z)) Q' st:=λi Q' hi q'=>by
  obtain⟨x,ex,ux⟩:=ua i hi;refine .bind (.elem ex ?_);unfold ĳ at q';rw [ex] at q';cases left with
  |true=>exact .lt a k ux uk q'
  |false=>exact .bind (.lt a k uk ux (.pure q'))
 have no: ∀i j,i<=j->j<n->ĳ R left key arr base i=false->ĳ R left key arr base j=false:=λi j hij hj z=>by
  cases hb:ĳ R left key arr base j with
  |false=>rfl
  |true=>rw [Ũ i j hij hj hb] at z;cases z
 unfold gal;refine .bind (ask hint _ hh ?_);dsimp only;cases hb:ĳ R left key arr base hint with
 |true=>
  rw [R6 rfl];refine .bind (Tm.mono (Tm.range (λi c Ä=>Ä=st/\c.1=none/\c.2.1<c.2.2/\hint+c.2.1<n/\ĳ R left key arr base (hint+c.2.1)=true/\i+1<=c.2.2)
   (Q:=λc Ä=>Ä=st/\c.1=none/\c.2.1<c.2.2/\hint+c.2.1<n/\ĳ R left key arr base (hint+c.2.1)=true/\(n-hint<=c.2.2\/ĳ R left key arr base (hint+c.2.2)=false)) (N7 _) ⟨rfl,rfl,by decide,by omega,by simpa using hb,by decide⟩ ?_ ?_) ?_)
  ·rintro i ⟨r,lo,of⟩ _ hi ⟨rfl,hr,h1,h2,h3,h4⟩;dsimp only at hr h1 h2 h3 h4 ⊢;subst hr
   by_cases z:of>=n-hint
   ·rw [R6 z];exact .pure ⟨rfl,rfl,h1,h2,h3,.inl z⟩
   ·rw [R9 z];refine .bind (ask (hint+of) _ (by omega) ?_);dsimp only;cases hc:ĳ R left key arr base (hint+of) with
    |true=>exact .pure ⟨rfl,rfl,by dsimp only;omega,by dsimp only;omega,hc,by dsimp only;omega⟩
    |false=>exact .pure ⟨rfl,rfl,h1,h2,h3,.inr hc⟩
  ·rintro ⟨r,lo,of⟩ _ ⟨rfl,hr,h1,h2,h3,h4⟩;exact⟨rfl,hr,h1,h2,h3,.inl (by dsimp only at h4 ⊢;omega)⟩
  ·rintro ⟨r,lo,of⟩ _ ⟨rfl,hr,h1,h2,h3,h4⟩;dsimp only at hr h1 h2 h3 h4 ⊢;subst hr;dsimp only;refine .bind (Tm.mono (Eo (g:=ĳ R left key arr base) Ũ (by omega) (by omega) (λi hi=>Ũ i _ (by omega) h2 h3) (λi hi hn=> ?_) (λi l=> ?_) (λi l u hl hu=> ?_)) ?_)
   ·rcases h4 with z|z
    ·omega
    ·exact no (hint+of) i (by omega) hn z
   ·rw [R6 (P2 l)];exact .pure ⟨rfl,rfl⟩
   ·rw [R9 (show ¬l>=u by omega)];refine .bind (ask (l+(u-l) / 2) _ (by omega) ?_);dsimp only;cases ĳ R left key arr base (l+(u-l) / 2)<;>exact .pure ⟨rfl,rfl⟩
   ·rintro ⟨r,l,u⟩ _ ⟨rfl,hr,b2,b3,b4⟩;dsimp only at hr b2 b3 b4 ⊢;subst hr;exact .pure (q u b2 b3 b4)
 |false=>
  rw [R9 (by decide)];refine .bind (Tm.mono (Tm.range (λi c Ä=>Ä=st/\c.1=none/\c.2.1<c.2.2/\c.2.1<=hint/\ĳ R left key arr base (hint-c.2.1)=false/\i+1<=c.2.2)
   (Q:=λc Ä=>Ä=st/\c.1=none/\c.2.1<c.2.2/\c.2.1<=hint/\ĳ R left key arr base (hint-c.2.1)=false/\(hint+1<=c.2.2\/ĳ R left key arr base (hint-c.2.2)=true)) (N7 _) ⟨rfl,rfl,by decide,by dsimp only;omega,by simpa using hb,by decide⟩ ?_ ?_) ?_)
  ·rintro i ⟨r,lo,of⟩ _ hi ⟨rfl,hr,h1,h2,h3,h4⟩;dsimp only at hr h1 h2 h3 h4 ⊢;subst hr
   by_cases z:of>=hint+1
   ·rw [R6 z];exact .pure ⟨rfl,rfl,h1,h2,h3,.inl z⟩
   ·rw [R9 z];refine .bind (ask (hint-of) _ (by omega) ?_);dsimp only;cases hc:ĳ R left key arr base (hint-of) with
    |false=>exact .pure ⟨rfl,rfl,by dsimp only;omega,by dsimp only;omega,hc,by dsimp only;omega⟩
    |true=>exact .pure ⟨rfl,rfl,h1,h2,h3,.inr hc⟩
  ·rintro ⟨r,lo,of⟩ _ ⟨rfl,hr,h1,h2,h3,h4⟩;exact⟨rfl,hr,h1,h2,h3,.inl (by dsimp only at h4 ⊢;omega)⟩
  ·rintro ⟨r,lo,of⟩ _ ⟨rfl,hr,h1,h2,h3,h4⟩;dsimp only at hr h1 h2 h3 h4 ⊢;subst hr;dsimp only;refine .bind (Tm.mono (Eo (g:=ĳ R left key arr base) Ũ (by omega) (by omega) (λi hi=> ?_) (λi hi hn=>no _ i hi hn h3) (λi l=> ?_) (λi l u hl hu=> ?_)) ?_)
   ·rcases h4 with z|z
    ·omega
    ·exact Ũ i (hint-of) (by omega) (by omega) z
   ·rw [R6 (P2 l)];exact .pure ⟨rfl,rfl⟩
   ·rw [R9 (show ¬l>=u by omega)];refine .bind (ask (l+(u-l) / 2) _ (by omega) ?_);dsimp only;cases ĳ R left key arr base (l+(u-l) / 2)<;>exact .pure ⟨rfl,rfl⟩
   ·rintro ⟨r,l,u⟩ _ ⟨rfl,hr,b2,b3,b4⟩;dsimp only at hr b2 b3 b4 ⊢;subst hr;exact .pure (q u b2 b3 b4)
end
section
variable {κ:Type}{U:κ->Prop}{R:κ->κ->N0}{al bl:G0 κ}
structure Ô (U:κ->Prop)(R:κ->κ->N0):Prop where
 asym: ∀x y,U x->U y->R x y=true->R y x=false
 neg: ∀x y z,U x->U y->U z->R x z=true->R x y=true\/R y z=true
def Ô.refl (o:Ô U R){x:κ}(u:U x):R x x=false:=by
 cases h:R x x with
 |false=>rfl
 |true=>have:=o.asym x x u u h;rw [h] at this;exact this
def Ô.trans (o:Ô U R){x y z:κ}(ux:U x)(uy:U y)(uz:U z)(a:R y x=false)(b:R z y=false):R z x=false:=by
 cases h:R z x with
 |false=>rfl
 |true=>
  rcases o.neg z y x uz uy ux h with z|z
  ·rw [b] at z;cases z
  ·rw [a] at z;cases z
abbrev Õ (R:κ->κ->N0)(l:G0 κ):Prop:=l.Pairwise λx y=>R y x=false
structure MI (R:κ->κ->N0)(al bl:G0 κ)(ia ib:G8)(out:G0 κ):Prop where
 perm:out.Perm (al.take ia++bl.take ib)
 srt:Õ R out
 ra: ∀x∈out,∀y∈al.drop ia,R y x=false
 rb: ∀x∈out,∀y∈bl.drop ib,R y x=false
def zn {l:G0 κ}{i:G8}{y:κ}(h:l[i]? =some y):l.drop i=y::l.drop (i+1):=by
 obtain⟨hi,e⟩:=P5.mp h;rw [List.drop_eq_getElem_cons hi,e]
def Wi {l:G0 κ}{i:G8}{y:κ}(h:l[i]? =some y):l.take (i+1)=l.take i++ [y]:=by
 rw [L6,h];rfl
def MI.start (al bl:G0 κ):MI R al bl 0 0 []:=⟨.refl _,.nil,λx hx=>(C5 hx).elim,λx hx=>(C5 hx).elim⟩
variable {ia ib:G8}
def MI.pushB {out:G0 κ}{y:κ}(m:MI R al bl ia ib out)(o:Ô U R)(ua: ∀x∈al,U x)(ub: ∀x∈bl,U x)(sa:Õ R al)(sb:Õ R bl)(hy:bl[ib]? =some y)(lt: ∀z,al[ia]? =some z->R y z=true):MI R al bl ia (ib+1) (out++ [y]):=by
 have dy:=zn hy;have uy:=ub y (P6 hy);have sdb:Õ R (bl.drop ib):=sb.sublist (V3 _ _);rw [dy] at sdb;refine⟨?_,?_,λx hx z hz=> ?_,λx hx z hz=> ?_⟩
 ·rw [Wi hy,<-D5];exact m.perm.append_right _
 ·refine B9.mpr ⟨m.srt,A9 _ _,λx hx z hz=> ?_⟩;rw [P0.mp hz];exact m.rb x hx y (by rw [dy];exact D3 ..)
 ·rcases D1.mp hx with w|w
  ·exact m.ra x w z hz
  ·rw [P0.mp w];cases e:al[ia]? with
   |none=>rw [E9 (kY.mp e)] at hz;cases hz
   |some a0=>
    have da:=zn e;have ua0:=ua a0 (P6 e);have sda:Õ R (al.drop ia):=sa.sublist (V3 _ _);rw [da] at sda hz;have l0:=o.asym y a0 uy ua0 (lt a0 e);rcases S0.mp hz with v|v
    ·rw [v];exact l0
    ·exact o.trans uy ua0 (ua z (O3 v)) l0 ((K6.mp sda).1 z v)
 ·rcases D1.mp hx with w|w
  ·exact m.rb x w z (by rw [dy];exact S1 _ hz)
  ·rw [P0.mp w];exact(K6.mp sdb).1 z hz
def MI.pushA {out:G0 κ}{y:κ}(m:MI R al bl ia ib out)(o:Ô U R)(ua: ∀x∈al,U x)(ub: ∀x∈bl,U x)(sa:Õ R al)(sb:Õ R bl)(hy:al[ia]? =some y)(ge: ∀z,bl[ib]? =some z->R z y=false):MI R al bl (ia+1) ib (out++ [y]):=by
 have dy:=zn hy;have uy:=ua y (P6 hy);have sda:Õ R (al.drop ia):=sa.sublist (V3 _ _);rw [dy] at sda;refine⟨?_,?_,λx hx z hz=> ?_,λx hx z hz=> ?_⟩
 ·rw [Wi hy];refine(m.perm.append_right [y]).trans ?_;rw [D5,D5];exact(cU).append_left _
 ·refine B9.mpr ⟨m.srt,A9 _ _,λx hx z hz=> ?_⟩;rw [P0.mp hz];exact m.ra x hx y (by rw [dy];exact D3 ..)
 ·rcases D1.mp hx with w|w
  ·exact m.ra x w z (by rw [dy];exact S1 _ hz)
  ·rw [P0.mp w];exact(K6.mp sda).1 z hz
 ·rcases D1.mp hx with w|w
  ·exact m.rb x w z hz
  ·rw [P0.mp w];cases e:bl[ib]? with
   |none=>rw [E9 (kY.mp e)] at hz;cases hz
   |some b0=>
    have db:=zn e;have ub0:=ub b0 (P6 e);have sdb:Õ R (bl.drop ib):=sb.sublist (V3 _ _);rw [db] at sdb hz;have l0:=ge b0 e;rcases S0.mp hz with v|v
    ·rw [v];exact l0
    ·exact o.trans uy ub0 (ub z (O3 v)) l0 ((K6.mp sdb).1 z v)
theorem MI.manyA (o:Ô U R)(ua: ∀x∈al,U x)(ub: ∀x∈bl,U x)(sa:Õ R al)(sb:Õ R bl): ∀ (k:G8) {ia:G8} {out:G0 κ},MI R al bl ia ib out->ia+k<=al.length->(∀i,i<k-> ∀y,al[ia+i]? =some y-> ∀z,bl[ib]? =some z->R z y=false)->MI R al bl (ia+k) ib (out++(al.drop ia).take k)
 |0,ia,out,m,_,_=>by rw [kG,J8];exact m
 |k+1,ia,out,m,hk,h=>by
  obtain⟨y,hy⟩: ∃y,al[ia]? =some y:=⟨_,G5 (by omega)⟩;have m1:=m.pushA o ua ub sa sb hy (h 0 (by omega) y hy);have:=MI.manyA o ua ub sa sb k m1 (by omega) (λi hi y hy=>h (i+1) (by omega) y (by rw [show ia+(i+1)=ia+1+i by omega];exact hy));rw [show ia+(k+1)=ia+1+k by omega,zn hy,o8,rM];exact this
theorem MI.manyB (o:Ô U R)(ua: ∀x∈al,U x)(ub: ∀x∈bl,U x)(sa:Õ R al)(sb:Õ R bl): ∀ (k:G8) {ib:G8} {out:G0 κ},MI R al bl ia ib out->ib+k<=bl.length->(∀i,i<k-> ∀y,bl[ib+i]? =some y-> ∀z,al[ia]? =some z->R y z=true)->MI R al bl ia (ib+k) (out++(bl.drop ib).take k)
 |0,ib,out,m,_,_=>by rw [kG,J8];exact m
 |k+1,ib,out,m,hk,h=>by
  obtain⟨y,hy⟩: ∃y,bl[ib]? =some y:=⟨_,G5 (by omega)⟩;have m1:=m.pushB o ua ub sa sb hy (h 0 (by omega) y hy);have:=MI.manyB o ua ub sa sb k m1 (by omega) (λi hi y hy=>h (i+1) (by omega) y (by rw [show ib+(i+1)=ib+1+i by omega];exact hy));rw [show ib+(k+1)=ib+1+k by omega,zn hy,o8,rM];exact this
def MI.all {out:G0 κ}(m:MI R al bl al.length bl.length out):out.Perm (al++bl)/\Õ R out:=by
 have:=m.perm;rw [K0,K0] at this;exact⟨this,m.srt⟩
def MI.done {out:G0 κ}(m:MI R al bl ia ib out)(o:Ô U R)(ua: ∀x∈al,U x)(ub: ∀x∈bl,U x)(sa:Õ R al)(sb:Õ R bl)(ha:ia<=al.length)(hb:ib<=bl.length)(h:ia=al.length\/ib=bl.length):(out++al.drop ia++bl.drop ib).Perm (al++bl)/\Õ R (out++al.drop ia++bl.drop ib):=by
 have m1:=MI.manyA o ua ub sa sb (al.length-ia) m (by omega) (λi hi y hy z hz=>by
  have:=(P5.mp hz).1;omega)
 rw [show ia+(al.length-ia)=al.length by omega,T5 (by rw [C0];exact P2 _)] at m1;have m2:=MI.manyB o ua ub sa sb (bl.length-ib) m1 (by omega) (λi hi y hy z hz=>by
  have:=(P5.mp hz).1;omega)
 rw [show ib+(bl.length-ib)=bl.length by omega,T5 (l:=bl.drop ib) (by rw [C0];exact P2 _)] at m2;exact m2.all
def MI.lastA {out:G0 κ}(m:MI R al bl ia ib out)(o:Ô U R)(ua: ∀x∈al,U x)(ub: ∀x∈bl,U x)(sa:Õ R al)(sb:Õ R bl)(ha:ia+1=al.length)(hb:ib<=bl.length)(h: ∀y∈bl,∀z,al[al.length-1]? =some z->R y z=true):(out++bl.drop ib++al.drop ia).Perm (al++bl)/\Õ R (out++bl.drop ib++al.drop ia):=by
 have m2:=MI.manyB o ua ub sa sb (bl.length-ib) m (by omega) (λi hi y hy z hz=>h y (P6 hy) z (by rw [<-ha];exact hz));rw [show ib+(bl.length-ib)=bl.length by omega,T5 (by rw [C0];exact P2 _)] at m2;have m1:=MI.manyA o ua ub sa sb (al.length-ia) m2 (by omega) (λi hi y hy z hz=>by
  have:=(P5.mp hz).1;omega)
 rw [show ia+(al.length-ia)=al.length by omega,T5 (l:=al.drop ia) (by rw [C0];exact P2 _)] at m1;exact m1.all
end
section
variable {prog:S6}{w:B3}{A:N4}{E:G2->G3->Prop}{J:G3->Prop}{κ:SortKind}{U:D9->Prop}{R:D9->D9->N0}
def Tm.rule {σ:Type}{x:W1}{Q:Unit->σ->Prop}{st:σ}(q:Q () st):Tm prog w A E J (liftM (PySem.rule x):aC σ Sem Unit) Q st:=λs j=>by
 show D8 _ _ ((StateT.lift _:aC σ Sem _).run st) _ _ _;rw [StateT.run_lift];exact wpAny_bind (dE (G9 ⟨q,j⟩))
def Tm.modify {σ:Type}{f:σ->σ}{Q:Unit->σ->Prop}{st:σ}(q:Q () (f st)):Tm prog w A E J (_root_.modify f:aC σ Sem PUnit) Q st:=λs j=>by
 rw [StateT.run_modify];exact G9 ⟨q,j⟩
noncomputable def mLo:S5 D9->S5 D9->aC C9 Sem (S5 D9):=sortPriv% PySem.Builtin.mergeLo
def Ş (st Ä:C9):Prop:=kindOf Ä=kindOf st/\T9 Ä=T9 st/\C6 Ä=C6 st/\bW Ä=bW st
def Ş.refl (st:C9):Ş st st:=⟨rfl,rfl,rfl,rfl⟩
def ZI (a:S5 D9)(i:G8):(a.extract i).toList=a.toList.drop i:=by
 rw [bX,U7];exact T5 (by simp)
def QR (a:S5 D9)(i k:G8):(a.extract i (i+k)).toList=(a.toList.drop i).take k:=by
 rw [bX,U7,fX]
def vq (R:D9->D9->N0)(a b c:S5 D9):Prop:=c.toList.Perm (a.toList++b.toList)/\Õ R c.toList
structure Two (U:D9->Prop)(R:D9->D9->N0)(a b:S5 D9):Prop where
 o:Ô U R
 ua: ∀x∈a.toList,U x
 ub: ∀x∈b.toList,U x
 sa:Õ R a.toList
 sb:Õ R b.toList
 last: ∀y∈b.toList,∀z,a.toList[a.toList.length-1]? =some z->R y z=true
abbrev MA (R:D9->D9->N0)(a b:S5 D9)(ia ib:G8)(out:S5 D9):Prop:=MI R a.toList b.toList ia ib out.toList
section
variable {a b out:S5 D9}{ia ib:G8}
def MA.done (t:Two U R a b)(m:MA R a b ia ib out)(ha:ia<=a.size)(hb:ib<=b.size)(h:ia=a.size\/ib=b.size):vq R a b (out++a.extract ia++b.extract ib):=by
 have:=MI.done m t.o t.ua t.ub t.sa t.sb (by simpa using ha) (by simpa using hb) (by simpa using h);unfold vq;rw [O7,O7,ZI,ZI];exact this
def MA.lastA (t:Two U R a b)(m:MA R a b ia ib out)(ha:ia+1=a.size)(hb:ib<=b.size):vq R a b (out++b.extract ib++a.extract ia):=by
 have:=MI.lastA m t.o t.ua t.ub t.sa t.sb (by simpa using ha) (by simpa using hb) t.last;unfold vq;rw [O7,O7,ZI,ZI];exact this
def MA.pushB (t:Two U R a b){y:D9}(m:MA R a b ia ib out)(hy:b.toList[ib]? =some y)(lt: ∀z,a.toList[ia]? =some z->R y z=true):MA R a b ia (ib+1) (out.push y):=by
 have:=MI.pushB m t.o t.ua t.ub t.sa t.sb hy lt;show MI R _ _ _ _ (out.push y).toList;rw [V2];exact this
def MA.pushA (t:Two U R a b){y:D9}(m:MA R a b ia ib out)(hy:a.toList[ia]? =some y)(ge: ∀z,b.toList[ib]? =some z->R z y=false):MA R a b (ia+1) ib (out.push y):=by
 have:=MI.pushA m t.o t.ua t.ub t.sa t.sb hy ge;show MI R _ _ _ _ (out.push y).toList;rw [V2];exact this
def MA.manyA (t:Two U R a b)(m:MA R a b ia ib out)(k:G8)(hk:ia+k<=a.size)(h: ∀i,i<k-> ∀y,a.toList[ia+i]? =some y-> ∀z,b.toList[ib]? =some z->R z y=false):MA R a b (ia+k) ib (out++a.extract ia (ia+k)):=by
 have:=MI.manyA t.o t.ua t.ub t.sa t.sb k m (by simpa using hk) h;show MI R _ _ _ _ (out++a.extract ia (ia+k)).toList;rw [O7,QR];exact this
def MA.manyB (t:Two U R a b)(m:MA R a b ia ib out)(k:G8)(hk:ib+k<=b.size)(h: ∀i,i<k-> ∀y,b.toList[ib+i]? =some y-> ∀z,a.toList[ia]? =some z->R y z=true):MA R a b ia (ib+k) (out++b.extract ib (ib+k)):=by
 have:=MI.manyB t.o t.ua t.ub t.sa t.sb k m (by simpa using hk) h;show MI R _ _ _ _ (out++b.extract ib (ib+k)).toList;rw [O7,QR];exact this
end
variable {arr:S5 D9}{base:G8}
def yI {left:N0}{key x:D9}{i:G8}(h:arr.toList[base+i]? =some x):ĳ R left key arr base i=if left=true then R x key else !R key x:=by
 unfold ĳ;rw [<-M9,h]
def Wj {l:G0 D9}(s:Õ R l)(o:Ô U R)(u: ∀x∈l,U x){i j:G8}{x y:D9}(hij:i<=j)(hx:l[i]? =some x)(hy:l[j]? =some y):R y x=false:=by
 by_cases z:i=j
 ·subst z;rw [hx] at hy;injection hy with hy;subst hy
  exact o.refl (u x (P6 hx))
 ·obtain⟨h1,e1⟩:=P5.mp hx;obtain⟨h2,e2⟩:=P5.mp hy;have:=A5.mp s i j h1 h2 (by omega);rw [e1,e2] at this;exact this
def Wk {i:G8}(h:i<arr.size): ∃x,arr.toList[i]? =some x/\arr[i]? =some x:=⟨arr[i],by simp [h],by simp [h]⟩
def HV {y:D9}{n hint:G8}{st:C9}{Q:P9 G8->C9->Prop}(ak:Vb prog w A J κ U R)(kd:kindOf st=κ)(o:Ô U R)(u: ∀x∈arr.toList,U x)(s:Õ R arr.toList)(uy:U y)(hn:base+n<=arr.size)(hh:hint<n)
 (q: ∀k,k<=n->(∀i,i<k-> ∀x,arr.toList[base+i]? =some x->R y x=false)->(∀i,k<=i->i<n-> ∀x,arr.toList[base+i]? =some x->R y x=true)->Q (some k) st):Tm prog w A E J (gal false y arr base n hint) Q st:=by
 refine Rr ak kd uy (λi hi=> ?_) (λi j hij hj h=> ?_) hh (λk k1 k2 k3=>q k k1 (λi hi x hx=> ?_) (λi h1 h2 x hx=> ?_))
 ·obtain⟨x,lx,ex⟩:=Wk (show base+i<arr.size by omega);exact⟨x,ex,u x (P6 lx)⟩
 ·obtain⟨x,lx,_⟩:=Wk (show base+i<arr.size by omega);obtain⟨z,lz,_⟩:=Wk (show base+j<arr.size by omega);rw [yI lz] at h;rw [yI lx];have hz:R y z=false:=by simpa using h
  have:=o.trans (u x (P6 lx)) (u z (P6 lz)) uy (Wj s o u (by omega) lx lz) hz;simp [this]
 ·have:=k2 i hi;rw [yI hx] at this;simpa using this
 ·have:=k3 i h1 h2;rw [yI hx] at this;simpa using this
def HW {y:D9}{n hint:G8}{st:C9}{Q:P9 G8->C9->Prop}(ak:Vb prog w A J κ U R)(kd:kindOf st=κ)(o:Ô U R)(u: ∀x∈arr.toList,U x)(s:Õ R arr.toList)(uy:U y)(hn:base+n<=arr.size)(hh:hint<n)
 (q: ∀k,k<=n->(∀i,i<k-> ∀x,arr.toList[base+i]? =some x->R x y=true)->(∀i,k<=i->i<n-> ∀x,arr.toList[base+i]? =some x->R x y=false)->Q (some k) st):Tm prog w A E J (gal true y arr base n hint) Q st:=by
 refine Rr ak kd uy (λi hi=> ?_) (λi j hij hj h=> ?_) hh (λk k1 k2 k3=>q k k1 (λi hi x hx=> ?_) (λi h1 h2 x hx=> ?_))
 ·obtain⟨x,lx,ex⟩:=Wk (show base+i<arr.size by omega);exact⟨x,ex,u x (P6 lx)⟩
 ·obtain⟨x,lx,_⟩:=Wk (show base+i<arr.size by omega);obtain⟨z,lz,_⟩:=Wk (show base+j<arr.size by omega);rw [yI lz] at h;rw [yI lx];have hz:R z y=true:=by simpa using h
  rcases o.neg z x y (u z (P6 lz)) (u x (P6 lx)) uy hz with v|v
  ·rw [Wj s o u (by omega) lx lz] at v;cases v
  ·simp [v]
 ·have:=k2 i hi;rw [yI hx] at this;simpa using this
 ·have:=k3 i h1 h2;rw [yI hx] at this;simpa using this
section
variable {σ α β γ:Type}{c:Prop}[Decidable c]{t e:aC σ Sem α}{Q:α->σ->Prop}{st:σ}{x y:β}{z:γ}
def Tm.if2 (T:c->Tm prog w A E J t Q st)(F: ¬c->Tm prog w A E J e Q st):Tm prog w A E J (if c then t else e) Q st:=by
 split
 ·exact T ‹_›
 ·exact F ‹_›
def Tm.eq2 {x y:G8}(T:x=y->Tm prog w A E J t Q st)(F: ¬x=y->Tm prog w A E J e Q st):Tm prog w A E J (if (x==y)=true then t else e) Q st:=
 .if2 (λh=>T (eq_of_beq h)) λh=>F λg=>h (beq_iff_eq.mpr g)
def Tm.both {f:β->aC σ Sem α}(he:e=f y)(ht:t=f x)(H: ∀m,Tm prog w A E J (f m) Q st):Tm prog w A E J (if c then t else e) Q st:=by
 subst he ht;exact .if2 (λ_=>H _) λ_=>H _
def Tm.join {f:β->γ->aC σ Sem α}{I:β->γ->Prop}(he:e=f x z)(G: ∀m o,I m o->Tm prog w A E J (f m o) Q st)(T:c->(∀m o,I m o->Tm prog w A E J (f m o) Q st)->Tm prog w A E J t Q st)(F: ¬c->I x z):Tm prog w A E J (if c then t else e) Q st:=by
 subst he;exact .if2 (λh=>T h G) λh=>G _ _ (F h)
end
def Sf {A B C D F:Type}{P:A×B×C×D×F->Prop}(h: ∀a b c d f,P (a,b,c,d,f)): ∀c,P c:=λc=>h c.1 c.2.1 c.2.2.1 c.2.2.2.1 c.2.2.2.2
def Sg {A B C D F G:Type}{P:A×B×C×D×F×G->Prop}(h: ∀a b c d f g,P (a,b,c,d,f,g)): ∀c,P c:=λc=>h c.1 c.2.1 c.2.2.1 c.2.2.2.1 c.2.2.2.2.1 c.2.2.2.2.2
def Sh {A B C D F G H:Type}{P:A×B×C×D×F×G×H->Prop}(h: ∀a b c d f g k,P (a,b,c,d,f,g,k)): ∀c,P c:=λc=>h c.1 c.2.1 c.2.2.1 c.2.2.2.1 c.2.2.2.2.1 c.2.2.2.2.2.1 c.2.2.2.2.2.2
def wP {a:S5 D9}(u: ∀x∈a.toList,U x){i:G8}(h:i<a.size){P:Prop}(q: ∀y,a[i]? =some y->a.toList[i]? =some y->U y->P):P:=q a[i] (by simp [h]) (by simp [h]) (u _ (by simp))
structure ş (R:D9->D9->N0)(a b:S5 D9)(st Ä:C9)(n:G8)(out:S5 D9)(ia ib:G8):Prop where
 g:Ş st Ä
 m:MA R a b ia ib out
 a:ia+1<a.size
 b:ib<b.size
 n:n<=ia+ib
def LoO (R:D9->D9->N0)(a b:S5 D9)(st Ä:C9)(n:G8)(r:P9 (S5 D9))(out:S5 D9)(ia ib:G8):Prop:=Ş st Ä/\match r with|some c=>vq R a b c|none=>ş R a b st Ä n out ia ib
section
variable {a b out:S5 D9}{st Ä:C9}{n k ia ib:G8}
def ş.more (h:ş R a b st Ä n out ia ib)(l:k<=n):ş R a b st Ä k out ia ib:=⟨h.g,h.m,h.a,h.b,R1 l h.n⟩
def ş.here (h:ş R a b st Ä n out ia ib):ş R a b st Ä (ia+ib) out ia ib:=⟨h.g,h.m,h.a,h.b,P2 _⟩
def ş.at {s:C9}(h:ş R a b st Ä n out ia ib)(g:Ş st s)(l:k<=n):ş R a b st s k out ia ib:=⟨g,h.m,h.a,h.b,R1 l h.n⟩
def ş.never {P:Prop}(h:ş R a b st Ä n out ia ib)(l:a.size+b.size<=n):P:=absurd (R1 l h.n) (Nat.not_le_of_lt (Nat.add_lt_add (X8 h.a) h.b))
end
def Ep {a b:S5 D9}{st:C9}{Q:S5 D9->C9->Prop}(ak:Vb prog w A J κ U R)(kd:kindOf st=κ)(t:Two U R a b)
 (na:1<=a.size)(nb:1<=b.size)(first: ∀y z,b.toList[0]? =some y->a.toList[0]? =some z->R y z=true)
 (q: ∀c Ä,Ş st Ä->vq R a b c->Q c Ä):Tm prog w A E J (mLo a b) Q st:=by
 refine .bind (.rule (.bind (wP t.ub nb λb0 eb0 lb0 ub0=> .elem eb0 ?_)));have m0:MA R a b 0 1 #[b0]:=MA.pushB t (out:= #[]) (MI.start _ _) lb0 (λz hz=>first _ z lb0 hz);refine .eq2 (x:=1) (y:=b.size) (λz1=> .pure (q _ _ (Ş.refl st) (MA.done t m0 (N7 _) nb (.inr z1)))) λz1=> .eq2 (x:=0+1) (y:=a.size) (λz2=> .pure (q _ _ (Ş.refl st) (MA.lastA t m0 z2 nb))) λz2=> .bind (.get ?_)
 refine .bind (Tm.mono (Tm.range (λi c Ä=>ş R a b st Ä (i+1) c.2.1 c.2.2.1 c.2.2.2.1)
  (Q:=λc Ä=> ∃r,c.1=some r/\Ş st Ä/\vq R a b r) (N7 _) ⟨Ş.refl st,m0,K7 na z2,K7 nb z1,P2 _⟩ ?_ ?_) ?_)
 ·intro i c st1 hi;revert c;refine Sf λr out ia ib mg h=> ?_
  refine .bind (Tm.mono (Tm.range (λj c Ä=>ş R a b st Ä (ia+ib+j) c.2.1 c.2.2.1 c.2.2.2.1)
   (Q:=λc Ä=>LoO R a b st Ä (ia+ib+1) c.1 c.2.1 c.2.2.1 c.2.2.2.1) (N7 _) h.here ?_ ?_) ?_)
  ·intro j c ĭ hj;revert c;refine Sg λr out ja jb ac bc h=> ?_
   refine .bind (wP t.ub h.b λy ey ly uy=> .elem ey (.bind (wP t.ua (X8 h.a) λx ex lx ux=> .elem ex (.bind (.lt ak (h.g.1.trans kd) uy ux (.if2 (c:=R y x=true) (λhb=> .bind (.elem ey ?_)) λhb=> .bind (.elem ex ?_)))))))
   ·have m1:=MA.pushB t h.m ly (λz hz=>by rw [lx] at hz;injection hz with hz;rw [<-hz];exact hb);refine .eq2 (x:=jb+1) (y:=b.size) (λc1=> .pure ⟨h.g,MA.done t m1 (T8 (X8 h.a)) h.b (.inr c1)⟩) λc1=> ?_
    have d:ş R a b st ĭ (ia+ib+(j+1)) (out.push y) ja (jb+1):=⟨h.g,m1,h.a,K7 (gH h.b) c1,gV h.n⟩;exact .if2 (λ_=> .pure ⟨h.g,d.more (eG (cN _ _) _)⟩) λ_=> .pure d
   ·have m1:=MA.pushA t h.m lx (λz hz=>by rw [ly] at hz;injection hz with hz;rw [<-hz];exact aH.mpr hb);refine .eq2 (x:=ja+1+1) (y:=a.size) (λc1=> .pure ⟨h.g,MA.lastA t m1 c1 (T8 h.b)⟩) λc1=> ?_
    have d:ş R a b st ĭ (ia+ib+(j+1)) (out.push x) (ja+1) jb:=⟨h.g,m1,K7 (gH h.a) c1,h.b,R1 (gV h.n) (U6 (Nat.succ_add _ _).symm)⟩;exact .if2 (λ_=> .pure ⟨h.g,d.more (eG (cN _ _) _)⟩) λ_=> .pure d
  ·exact λc ĭ h=>h.never (cN _ _)
  ·intro c ĭ;revert c;refine Sg λr out ja jb ac bc h'=> ?_
   cases r with
   |some r=>exact .pure ⟨r,rfl,h'⟩
   |none=>
   replace h':=h'.2
   refine .bind (.rule (.bind (Tm.mono (Tm.range (λj c Ä=>ş R a b st Ä (ja+jb+j) c.2.1 c.2.2.1 c.2.2.2.1)
    (Q:=λc Ä=>LoO R a b st Ä (ja+jb) c.1 c.2.1 c.2.2.1 c.2.2.2.1) (N7 _) h'.here ?_ ?_) ?_)))
   ·clear h;intro j c ĭ hj;revert c;refine Sh λr out pa pb mg ac bc h=> ?_
    refine wP t.ub h.b λy ey ly uy=> ?_
    have g2:0<a.size-pa:=qT (X8 h.a);have g1:pa+(a.size-pa)<=a.size:=U6 (J7 (T8 (X8 h.a)));refine Tm.both (y:=mg) (x:=mg-1) (by rfl) (by rfl) λmg=> ?_
    refine .bind (Tm.modify (.bind (.elem ey (.bind (HV (base:=pa) (n:=a.size-pa) ak (h.g.1.trans kd) t.o t.ua t.sa uy g1 g2 λk k1 k2 k3=> ?_)))));refine Tm.join (I:=λo ia=>MA R a b ia pb o/\ia+1<a.size/\pa<=ia/\ ∀x,a.toList[ia]? =some x->R y x=true) (x:=out) (z:=pa) (by rfl) ?_ ?_ ?_
    ·refine λo qa i1=> ?_
     have M2:=MA.pushB t i1.1 ly i1.2.2.2;have p1:=X8 i1.2.1;refine .bind (.elem ey (.eq2 (x:=pb+1) (y:=b.size) (λc3=> .pure ⟨h.g,MA.done t M2 (T8 p1) (U6 c3) (.inr c3)⟩) λc3=> ?_));have c8:pb+1<b.size:=K7 (gH h.b) c3;have g2:=qT c8;refine .bind (wP t.ua p1 λx ex lx ux=> .elem ex (.bind (HW (base:=pb+1) (n:=b.size-(pb+1)) ak (h.g.1.trans kd) t.o t.ub t.sb ux (U6 (J7 (T8 c8))) g2 λk' q1 q2 q3=> ?_)));dsimp only;generalize ep:pb+1=p2 at M2 q1 q2 q3 c8 g2 ⊢;generalize eo:o.push y=o2 at M2 ⊢;refine Tm.join (I:=λo ib=>MA R a b qa ib o/\ib<b.size/\p2<=ib/\ ∀x',b.toList[ib]? =some x'->R x' x=false) (x:=o2) (z:=p2) (by rfl) ?_ ?_ ?_
     ·refine λo qb i2=> ?_
      have M4:=MA.pushA t i2.1 lx i2.2.2.2;refine .bind (.elem ex (.eq2 (x:=qa+1+1) (y:=a.size) (λc5=> .pure ⟨h.g,MA.lastA t M4 c5 (T8 i2.2.1)⟩) λc5=> ?_));have n1:ja+jb+j<=pa+pb:=h.n;have n2:ja+jb+(j+1)<=qa+1+qb:=by have:=i1.2.2.1;have:=i2.2.2.1;omega
      have d:ş R a b st ĭ (ja+jb+(j+1)) (o.push x) (qa+1) qb:=⟨h.g,M4,K7 (gH i1.2.1) c5,i2.2.1,n2⟩;exact .if2 (λ_=> .pure ⟨h.g,d.at h.g (W4 _ _)⟩) λ_=> .pure (d.at h.g (P2 _))
     ·intro kz' H;have g3:p2+k'<=b.size:=R1 (eG q1 _) (U6 (J7 (T8 c8)));have M3:=MA.manyB t M2 k' g3 (λi hi y' hy z hz=>by rw [lx] at hz;injection hz with hz;rw [<-hz];exact q2 i hi y' hy);exact .eq2 (x:=p2+k') (y:=b.size) (λc4=> .pure ⟨h.g,MA.done t M3 (T8 p1) g3 (.inr c4)⟩) λc4=>H _ _ ⟨M3,K7 g3 c4,W4 _ _,λz hz=>q3 k' (P2 _) (by omega) z hz⟩
     ·exact λkz'=>⟨M2,c8,P2 _,λz hz=>q3 0 (gS kz') g2 z hz⟩
    ·intro kz H;have g3:pa+k<=a.size:=R1 (eG k1 _) g1;have m1:=MA.manyA t h.m k g3 (λi hi x hx z hz=>by rw [ly] at hz;injection hz with hz;rw [<-hz];exact k2 i hi x hx);exact .eq2 (x:=pa+k+1) (y:=a.size) (λc1=> .pure ⟨h.g,MA.lastA t m1 c1 (T8 h.b)⟩) λc1=> .eq2 (x:=pa+k) (y:=a.size) (λc2=> .pure ⟨h.g,MA.done t m1 g3 (T8 h.b) (.inl c2)⟩) λc2=>H _ _ ⟨m1,K7 (K7 g3 c2) c1,W4 _ _,λx hx=>k3 k (P2 _) (by omega) x hx⟩
    ·exact λkz=>⟨h.m,h.a,P2 _,λx hx=>k3 0 (gS kz) g2 x hx⟩
   ·exact λc st3 h=>h.never (cN _ _)
   ·intro c st3;revert c;refine Sh λr out pa pb mg ac bc h3=> ?_
    cases r with
    |some r=>exact .pure ⟨r,rfl,h3⟩
    |none=>exact .bind (Tm.modify (.pure (h3.2.at h3.1 (R1 (gV h.n) h'.n))))
 ·exact λc st1 h=>h.never (W4 _ _)
 ·intro c st1;revert c;refine Sf λr out ia ib mg h=> ?_
  obtain⟨c,rfl,gl,wh⟩:=h;exact .pure (q c st1 gl wh)
end
section
variable {prog:S6}{w:B3}{A:N4}{E:G2->G3->Prop}{J:G3->Prop}{κ:SortKind}{U:D9->Prop}{R:D9->D9->N0}
noncomputable abbrev Flp (R:D9->D9->N0):D9->D9->N0:=λx y=>R y x
def Ô.flip (o:Ô U R):Ô U (Flp R):=⟨λx y ux uy h=>o.asym y x uy ux h,λx y z ux uy uz h=>(o.neg z y x uz uy ux h).symm⟩
variable {l:G0 D9}
def zr (s:Õ R l):Õ (Flp R) l.reverse:=gP.mpr s
def QU (s:Õ (Flp R) l):Õ R l.reverse:=gP.mpr s
variable {n:G8}
def Rs (h1:1<=n)(hn:n<=l.length):l.reverse[l.length-n]? =l[n-1]? :=by
 rw [cV (by omega)]
 congr 1;omega
def wf {z:D9}(hn:n<=l.length)(h:l.reverse[l.length-n]? =some z):1<=n/\l[n-1]? =some z:=by
 have:=(P5.mp h).1;rw [B1] at this;have n1:1<=n:=by omega
 exact⟨n1,by rw [<-Rs n1 hn];exact h⟩
def Jr (l:G0 D9){n:G8}(hn:n<=l.length):l.reverse.drop (l.length-n)=(l.take n).reverse:=by
 rw [List.drop_reverse]
 congr 2;omega
def MH (R:D9->D9->N0)(a b:S5 D9)(na nb:G8)(out:S5 D9):Prop:=MI (Flp R) b.toList.reverse a.toList.reverse (b.toList.length-nb) (a.toList.length-na) out.toList
structure ļ (U:D9->Prop)(R:D9->D9->N0)(a b:S5 D9):Prop where
 o:Ô U R
 ua: ∀x∈a.toList,U x
 ub: ∀x∈b.toList,U x
 sa:Õ R a.toList
 sb:Õ R b.toList
 first: ∀z∈a.toList,∀y,b.toList[0]? =some y->R y z=true
section
variable {a b out:S5 D9}{na nb:G8}
def ļ.fa (t:ļ U R a b): ∀x∈a.toList.reverse,U x:=λx hx=>t.ua x (L0.mp hx)
def ļ.fb (t:ļ U R a b): ∀x∈b.toList.reverse,U x:=λx hx=>t.ub x (L0.mp hx)
def MH.start (a b:S5 D9):MH R a b a.toList.length b.toList.length #[]:=by
 unfold MH;rw [iP,iP];exact MI.start _ _
def MH.pushA (t:ļ U R a b){y:D9}(m:MH R a b na nb out)(h1:1<=na)(hn:na<=a.toList.length)(hb:nb<=b.toList.length)(hy:a.toList[na-1]? =some y)(lt: ∀z,1<=nb->b.toList[nb-1]? =some z->R z y=true):MH R a b (na-1) nb (out.push y):=by
 have:=MI.pushB m t.o.flip t.fb t.fa (zr t.sb) (zr t.sa) (by rw [Rs h1 hn];exact hy) (λz hz=>lt z (wf hb hz).1 (wf hb hz).2);unfold MH;rw [V2,show a.toList.length-(na-1)=a.toList.length-na+1 by omega];exact this
def MH.pushB (t:ļ U R a b){y:D9}(m:MH R a b na nb out)(h1:1<=nb)(hn:nb<=b.toList.length)(ha:na<=a.toList.length)(hy:b.toList[nb-1]? =some y)(ge: ∀z,1<=na->a.toList[na-1]? =some z->R y z=false):MH R a b na (nb-1) (out.push y):=by
 have:=MI.pushA m t.o.flip t.fb t.fa (zr t.sb) (zr t.sa) (by rw [Rs h1 hn];exact hy) (λz hz=>ge z (wf ha hz).1 (wf ha hz).2);unfold MH;rw [V2,show b.toList.length-(nb-1)=b.toList.length-nb+1 by omega];exact this
def Js (a:S5 D9)(n:G8):(a.extract 0 n).toList=a.toList.take n:=by
 rw [bX,U7,j5,qL]
def MH.done (t:ļ U R a b)(m:MH R a b na nb out)(ha:na<=a.toList.length)(hb:nb<=b.toList.length)(h:na=0\/nb=0):vq R a b (a.extract 0 na++b.extract 0 nb++out.reverse):=by
 have:=MI.done m t.o.flip t.fb t.fa (zr t.sb) (zr t.sa) (by rw [B1];omega) (by rw [B1];omega) (by rw [B1,B1];omega);rw [Jr _ ha,Jr _ hb] at this;have e:(a.extract 0 na++b.extract 0 nb++out.reverse).toList=(out.toList++(b.toList.take nb).reverse++(a.toList.take na).reverse).reverse:=by
  rw [O7,O7,Js,Js,hJ];simp [D5]
 unfold vq;rw [e];refine⟨(X9 _).trans (this.1.trans ?_),QU this.2⟩;exact(rN (X9 _) (X9 _)).trans cU
def MH.firstB (t:ļ U R a b)(m:MH R a b na nb out)(ha:na<=a.toList.length)(hb:nb=1)(ζ:1<=b.toList.length):vq R a b (b.extract 0 nb++a.extract 0 na++out.reverse):=by
 subst hb;have:=MI.lastA m t.o.flip t.fb t.fa (zr t.sb) (zr t.sa) (by rw [B1];omega) (by rw [B1];omega) (λz hz y hy=>by
  rw [B1] at hy;have:=(wf ζ hy).2;exact t.first z (L0.mp hz) y (by simpa using this))
 rw [Jr _ ha,Jr _ ζ] at this;have e:(b.extract 0 1++a.extract 0 na++out.reverse).toList=(out.toList++(a.toList.take na).reverse++(b.toList.take 1).reverse).reverse:=by
  rw [O7,O7,Js,Js,hJ];simp [D5]
 unfold vq;rw [e];refine⟨(X9 _).trans (this.1.trans ?_),QU this.2⟩;exact(rN (X9 _) (X9 _)).trans cU
def QV (l:G0 D9){p n:G8}(h1:p<=n)(hn:n<=l.length):(l.reverse.drop (l.length-n)).take (n-p)=((l.drop p).take (n-p)).reverse:=by
 rw [Jr l hn,List.take_reverse,T3,oJ,W0 hn,show n-(n-p)=p by omega]
def Rt (a:S5 D9){p n:G8}(h:p<=n):(a.extract p n).reverse.toList=((a.toList.drop p).take (n-p)).reverse:=by
 rw [hJ,bX,U7]
def MH.manyA (t:ļ U R a b)(m:MH R a b na nb out)(p:G8)(hp:p<=na)(hn:na<=a.toList.length)(hb:nb<=b.toList.length)(h: ∀i,p<=i->i<na-> ∀y,a.toList[i]? =some y-> ∀z,1<=nb->b.toList[nb-1]? =some z->R z y=true):MH R a b p nb (out++(a.extract p na).reverse):=by
 have:=MI.manyB t.o.flip t.fb t.fa (zr t.sb) (zr t.sa) (na-p) m (by rw [B1];omega) (λi hi y hy z hz=>by
  rw [cV (by omega)] at hy;exact h _ (by omega) (by omega) y hy z (wf hb hz).1 (wf hb hz).2)
 rw [QV _ hp hn] at this;unfold MH;rw [O7,Rt _ hp,show a.toList.length-p=a.toList.length-na+(na-p) by omega];exact this
def MH.manyB (t:ļ U R a b)(m:MH R a b na nb out)(p:G8)(hp:p<=nb)(hn:nb<=b.toList.length)(ha:na<=a.toList.length)(h: ∀i,p<=i->i<nb-> ∀y,b.toList[i]? =some y-> ∀z,1<=na->a.toList[na-1]? =some z->R y z=false):MH R a b na p (out++(b.extract p nb).reverse):=by
 have:=MI.manyA t.o.flip t.fb t.fa (zr t.sb) (zr t.sa) (nb-p) m (by rw [B1];omega) (λi hi y hy z hz=>by
  rw [cV (by omega)] at hy;exact h _ (by omega) (by omega) y hy z (wf ha hz).1 (wf ha hz).2)
 rw [QV _ hp hn] at this;unfold MH;rw [O7,Rt _ hp,show b.toList.length-p=b.toList.length-nb+(nb-p) by omega];exact this
end
noncomputable def mHi:S5 D9->S5 D9->aC C9 Sem (S5 D9):=sortPriv% PySem.Builtin.mergeHi
section
variable {arr:S5 D9}{y:D9}{n hint:G8}{st:C9}{Q:P9 G8->C9->Prop}
def TQ (ak:Vb prog w A J κ U R)(kd:kindOf st=κ)(o:Ô U R)(u: ∀x∈arr.toList,U x)(s:Õ R arr.toList)(uy:U y)(hn:n<=arr.size)(hh:hint<n)
 (q: ∀k,k<=n->(∀i,i<k-> ∀x,arr.toList[i]? =some x->R y x=false)->(∀i,k<=i->i<n-> ∀x,arr.toList[i]? =some x->R y x=true)->Q (some k) st):Tm prog w A E J (gal false y arr 0 n hint) Q st:=
 HV ak kd o u s uy (by rw [X5];exact hn) hh λk h k2 k3=>q k h (λi hi x hx=>k2 i hi x (by rw [X5];exact hx)) λi hi hj x hx=>k3 i hi hj x (by rw [X5];exact hx)
def TR (ak:Vb prog w A J κ U R)(kd:kindOf st=κ)(o:Ô U R)(u: ∀x∈arr.toList,U x)(s:Õ R arr.toList)(uy:U y)(hn:n<=arr.size)(hh:hint<n)
 (q: ∀k,k<=n->(∀i,i<k-> ∀x,arr.toList[i]? =some x->R x y=true)->(∀i,k<=i->i<n-> ∀x,arr.toList[i]? =some x->R x y=false)->Q (some k) st):Tm prog w A E J (gal true y arr 0 n hint) Q st:=
 HW ak kd o u s uy (by rw [X5];exact hn) hh λk h k2 k3=>q k h (λi hi x hx=>k2 i hi x (by rw [X5];exact hx)) λi hi hj x hx=>k3 i hi hj x (by rw [X5];exact hx)
end
structure ň (R:D9->D9->N0)(a b:S5 D9)(st Ä:C9)(n N na nb:G8)(out:S5 D9):Prop where
 g:Ş st Ä
 m:MH R a b na nb out
 a':na<=a.size
 b':nb<=b.size
 a:1<=na
 b:2<=nb
 n:n+na+nb<=N
def HiO (R:D9->D9->N0)(a b:S5 D9)(st Ä:C9)(n N:G8)(r:P9 (S5 D9))(na nb:G8)(out:S5 D9):Prop:=Ş st Ä/\match r with|some c=>vq R a b c|none=>ň R a b st Ä n N na nb out
section
variable {a b out:S5 D9}{st Ä s:C9}{n N k M na nb:G8}
def ň.at (h:ň R a b st Ä n N na nb out)(g:Ş st s)(l:n+na+nb<=N->k+na+nb<=M):ň R a b st s k M na nb out:=⟨g,h.m,h.a',h.b',h.a,h.b,l h.n⟩
def ň.here (h:ň R a b st Ä n N na nb out):ň R a b st Ä 0 (na+nb) na nb out:=h.at h.g λ_=>by omega
def ň.never {P:Prop}(h:ň R a b st Ä n N na nb out)(l:N<=n):P:=by have:=h.n;have:=h.a;omega
def ň.le (h:ň R a b st Ä n N na nb out):na+nb<=a.size+b.size:=Nat.add_le_add h.a' h.b'
def ň.a1 (h:ň R a b st Ä n N na nb out):na-1<a.size:=N5 (fG h.a dI) h.a'
def ň.b1 (h:ň R a b st Ä n N na nb out):nb-1<b.size:=N5 (fG (X8 h.b) dI) h.b'
end
def Cd (h:2<=n)(c: ¬n-1=1):2<=n-1:=by omega
def Ru (c: ¬n-1=0):1<=n-1:=fH c
def Eq {a b:S5 D9}{st:C9}{Q:S5 D9->C9->Prop}(ak:Vb prog w A J κ U R)(kd:kindOf st=κ)(t:ļ U R a b)
 (na:1<=a.size)(nb:1<=b.size)(last: ∀y z,b.toList[b.size-1]? =some y->a.toList[a.size-1]? =some z->R y z=true)
 (q: ∀c Ä,Ş st Ä->vq R a b c->Q c Ä):Tm prog w A E J (mHi a b) Q st:=by
 refine .bind (.rule (.bind (wP t.ua (fG na dI) λa0 ea0 la0 ua0=> .elem ea0 ?_)));have m0:MH R a b (a.size-1) b.size #[a0]:=MH.pushA t (MH.start (R:=R) a b) na (P2 _) (P2 _) la0 (λz _ hz=>last z a0 hz la0);have n1:a.size-1<=a.size:=G0l _ _;refine .eq2 (x:=a.size-1) (y:=0) (λz1=> .pure (q _ _ (Ş.refl st) (MH.done t m0 n1 (P2 _) (.inl z1)))) λz1=> .eq2 (x:=b.size) (y:=1) (λz2=> .pure (q _ _ (Ş.refl st) (MH.firstB t m0 n1 z2 nb))) λz2=> .bind (.get ?_)
 refine .bind (Tm.mono (Tm.range (λi c Ä=>ň R a b st Ä (i+1) (a.size+b.size) c.2.1 c.2.2.1 c.2.2.2.1)
  (Q:=λc Ä=> ∃r,c.1=some r/\Ş st Ä/\vq R a b r) (N7 _) ⟨Ş.refl st,m0,n1,P2 _,Ru z1,by dsimp only;omega,by dsimp only;omega⟩ ?_ ?_) ?_)
 ·intro i c st1 hi;revert c;refine Sf λr ia ib out mg h=> ?_
  refine .bind (Tm.mono (Tm.range (λj c Ä=>ň R a b st Ä j (ia+ib) c.2.1 c.2.2.1 c.2.2.2.1)
   (Q:=λc Ä=>HiO R a b st Ä 1 (ia+ib) c.1 c.2.1 c.2.2.1 c.2.2.2.1) (N7 _) h.here ?_ ?_) ?_)
  ·intro j c ĭ hj;revert c;refine Sg λr ja jb out ac bc h=> ?_
   refine .bind (wP t.ub h.b1 λy ey ly uy=> .elem ey (.bind (wP t.ua h.a1 λx ex lx ux=> .elem ex (.bind (.lt ak (h.g.1.trans kd) uy ux (.if2 (c:=R y x=true) (λhb=> .bind (.elem ex ?_)) λhb=> .bind (.elem ey ?_)))))))
   ·have m1:=MH.pushA t h.m h.a h.a' h.b' lx (λz _ hz=>by rw [ly] at hz;injection hz with hz;rw [<-hz];exact hb);refine .eq2 (x:=ja-1) (y:=0) (λc1=> .pure ⟨h.g,MH.done t m1 (T8 h.a1) h.b' (.inl c1)⟩) λc1=> ?_
    have d:ň R a b st ĭ (j+1) (ia+ib) (ja-1) jb (out.push x):=⟨h.g,m1,T8 h.a1,h.b',Ru c1,h.b,by have:j+ja+jb<=ia+ib:=h.n;have:1<=ja:=h.a;have:2<=jb:=h.b;omega⟩;exact .if2 (λ_=> .pure ⟨h.g,d.at h.g λ_=>by omega⟩) λ_=> .pure d
   ·have m1:=MH.pushB t h.m (T8 h.b) h.b' h.a' ly (λz _ hz=>by rw [lx] at hz;injection hz with hz;rw [<-hz];exact aH.mpr hb);refine .eq2 (x:=jb-1) (y:=1) (λc1=> .pure ⟨h.g,MH.firstB t m1 h.a' c1 nb⟩) λc1=> ?_
    have d:ň R a b st ĭ (j+1) (ia+ib) ja (jb-1) (out.push y):=⟨h.g,m1,h.a',T8 h.b1,h.a,Cd h.b c1,by have:j+ja+jb<=ia+ib:=h.n;have:1<=ja:=h.a;have:2<=jb:=h.b;omega⟩;exact .if2 (λ_=> .pure ⟨h.g,d.at h.g λ_=>by omega⟩) λ_=> .pure d
  ·exact λc ĭ h'=>h'.never h.le
  ·intro c ĭ;revert c;refine Sg λr ja jb out ac bc h'=> ?_
   cases r with
   |some r=>exact .pure ⟨r,rfl,h'⟩
   |none=>
   replace h':=h'.2
   refine .bind (.rule (.bind (Tm.mono (Tm.range (λj c Ä=>ň R a b st Ä j (ja+jb) c.2.1 c.2.2.1 c.2.2.2.1)
    (Q:=λc Ä=>HiO R a b st Ä 0 (ja+jb) c.1 c.2.1 c.2.2.1 c.2.2.2.1) (N7 _) h'.here ?_ ?_) ?_)))
   ·clear h;intro j c ĭ hj;revert c;refine Sh λr pa pb out mg ac bc h=> ?_
    refine wP t.ub h.b1 λy ey ly uy=> ?_
    refine Tm.both (y:=mg) (x:=mg-1) (by rfl) (by rfl) λmg=> ?_
    refine .bind (Tm.modify (.bind (.elem ey (.bind (TQ (n:=pa) ak (h.g.1.trans kd) t.o t.ua t.sa uy h.a' (fG h.a dI) λk k1 k2 k3=> ?_)))));dsimp only;generalize eac:pa-k=ac;refine Tm.join (I:=λna o=>MH R a b na pb o/\1<=na/\na<=pa/\ ∀z,a.toList[na-1]? =some z->R y z=false) (x:=pa) (z:=out) (by rfl) ?_ ?_ ?_
    ·refine λqa o i1=> ?_
     have la:=R1 i1.2.2.1 h.a';have M2:=MH.pushB t i1.1 (T8 h.b) h.b' la ly (λz _ hz=>i1.2.2.2 z hz);refine .bind (.elem ey (.eq2 (x:=pb-1) (y:=1) (λc3=> .pure ⟨h.g,MH.firstB t M2 la c3 nb⟩) λc3=> ?_));have c8:=Cd h.b c3;have lb:=T8 h.b1;have n1:j+pa+pb<=ja+jb:=h.n;have n2:pb=pb-1+1:=(Nat.sub_add_cancel (T8 h.b)).symm;refine .bind (wP t.ua (N5 (fG i1.2.1 dI) la) λx ex lx ux=> .elem ex (.bind (TR (n:=pb-1) ak (h.g.1.trans kd) t.o t.ub t.sb ux lb (fG (X8 c8) dI) λk' q1 q2 q3=> ?_)));dsimp only;dsimp only at c8 lb;generalize ep:pb-1=p2 at M2 q1 q2 q3 c8 lb n2 ⊢;generalize eo:o.push y=o2 at M2 ⊢;generalize ebc:p2-k'=bc;refine Tm.join (I:=λnb o=>MH R a b qa nb o/\2<=nb/\nb<=p2/\ ∀z,b.toList[nb-1]? =some z->R z x=true) (x:=p2) (z:=o2) (by rfl) ?_ ?_ ?_
     ·refine λqb o i2=> ?_
      have lb':=R1 i2.2.2.1 lb;have M4:=MH.pushA t i2.1 i1.2.1 la lb' lx (λz _ hz=>i2.2.2.2 z hz);have la':=R1 (G0l qa 1) la;refine .bind (.elem ex (.eq2 (x:=qa-1) (y:=0) (λc5=> .pure ⟨h.g,MH.done t M4 la' lb' (.inl c5)⟩) λc5=> ?_));have n3:j+1+(qa-1)+qb<=ja+jb:=by have:=i1.2.1;have:=i1.2.2.1;have:=i2.2.2.1;omega
      have d:ň R a b st ĭ (j+1) (ja+jb) (qa-1) qb (o.push x):=⟨h.g,M4,la',lb',Ru c5,i2.2.1,n3⟩;exact .if2 (λ_=> .pure ⟨h.g,d.at h.g λ_=>by omega⟩) λ_=> .pure (d.at h.g id)
     ·intro kz' H;have M3:=MH.manyB t M2 k' q1 lb la (λi hi1 hi2 y' hy z hz1 hz=>by rw [lx] at hz;injection hz with hz;rw [<-hz];exact q3 i hi1 hi2 y' hy);exact .eq2 (x:=k') (y:=1) (λc4=> .pure ⟨h.g,MH.firstB t M3 la c4 nb⟩) λc4=> .eq2 (x:=k') (y:=0) (λc7=> .pure ⟨h.g,MH.done t M3 la (R1 q1 lb) (.inr c7)⟩) λc7=>H _ _ ⟨M3,by omega,q1,λz hz=>q2 (k'-1) (fG (fH c7) dI) z hz⟩
     ·exact λkz'=>⟨M2,c8,P2 _,λz hz=>q2 (p2-1) (by omega) z hz⟩
    ·intro kz H;have m1:=MH.manyA t h.m k k1 h.a' h.b' (λi hi1 hi2 x hx z hz1 hz=>by rw [ly] at hz;injection hz with hz;rw [<-hz];exact k3 i hi1 hi2 x hx);exact .eq2 (x:=k) (y:=0) (λc1=> .pure ⟨h.g,MH.done t m1 (R1 k1 h.a') h.b' (.inl c1)⟩) λc1=>H _ _ ⟨m1,fH c1,k1,λz hz=>k2 (k-1) (fG (fH c1) dI) z hz⟩
    ·exact λkz=>⟨h.m,h.a,P2 _,λz hz=>k2 (pa-1) (by have:1<=pa:=h.a;omega) z hz⟩
   ·exact λc st3 h=>h.never h'.le
   ·intro c st3;revert c;refine Sh λr pa pb out mg ac bc h3=> ?_
    cases r with
    |some r=>exact .pure ⟨r,rfl,h3⟩
    |none=>exact .bind (Tm.modify (.pure (h3.2.at h3.1 λl=>by have n1:i+1+ia+ib<=a.size+b.size:=h.n;have n2:1+ja+jb<=ia+ib:=h'.n;dsimp only at l ⊢;omega)))
 ·exact λc st1 h=>h.never (W4 _ _)
 ·intro c st1;revert c;refine Sf λr ia ib out mg h=> ?_
  obtain⟨c,rfl,gl,wh⟩:=h;exact .pure (q c st1 gl wh)
end
section
variable {prog:S6}{w:B3}{A:N4}{E:G2->G3->Prop}{J:G3->Prop}{κ:SortKind}{U:D9->Prop}{R:D9->D9->N0}
noncomputable def Ù (l:G0 D9)(p n:G8):G0 D9:=(l.drop p).take n
variable {n:G8}
def Ys {l:G0 D9}{p i:G8}(hi:i<n):(Ù l p n)[i]? =l[p+i]? :=by
 unfold Ù;rw [eQ hi,Z4]
def Wl {l:G0 D9}{p:G8}(h:p+n<=l.length):(Ù l p n).length=n:=by
 unfold Ù;rw [T3,C0];omega
def Xy {l:G0 D9}{p:G8}{x:D9}(h:x∈Ù l p n):x∈l:=O3 (O4 h)
def HX {left:N0}{arr:S5 D9}{y:D9}{base hint:G8}{st:C9}{Q:P9 G8->C9->Prop}(ak:Vb prog w A J κ U R)(kd:kindOf st=κ)(o:Ô U R)(u: ∀x∈arr.toList,U x)(s:Õ R (Ù arr.toList base n))(uy:U y)(hn:base+n<=arr.size)(hh:hint<n)
 (q: ∀k,k<=n->(∀x∈(Ù arr.toList base n).take k,(if left=true then R x y else !R y x)=true)->(∀x∈(Ù arr.toList base n).drop k,(if left=true then R x y else !R y x)=false)->Q (some k) st):Tm prog w A E J (gal left y arr base n hint) Q st:=by
 have ln:arr.toList.length=arr.size:=by simp
 have sl:(Ù arr.toList base n).length=n:=Wl (by omega);have us: ∀x∈Ù arr.toList base n,U x:=λx hx=>u x (Xy hx)
 refine Rr ak kd uy (λi hi=> ?_) (λi j hij hj h=> ?_) hh (λk k1 k2 k3=>q k k1 (λx hx=> ?_) (λx hx=> ?_))
 ·obtain⟨x,lx,ex⟩:=Wk (show base+i<arr.size by omega);exact⟨x,ex,u x (P6 lx)⟩
 ·obtain⟨x,lx,_⟩:=Wk (show base+i<arr.size by omega);obtain⟨z,lz,_⟩:=Wk (show base+j<arr.size by omega);have ux:=u x (P6 lx);have uz:=u z (P6 lz);have le:=Wj s o us hij (by rw [Ys (by omega)];exact lx) (by rw [Ys hj];exact lz);rw [yI lz] at h;rw [yI lx];cases left with
  |true=>
   have hz:R z y=true:=by simpa using h
   rcases o.neg z x y uz ux uy hz with v|v
   ·rw [le] at v;cases v
   ·simp [v]
  |false=>
   have hz:R y z=false:=by simpa using h
   have:=o.trans ux uz uy le hz;simp [this]
 ·obtain⟨i,hi,e⟩:=aQ hx;rw [T3,sl] at hi;have lx:arr.toList[base+i]? =some x:=by
   rw [<-Ys (n:=n) (by omega),G5 (by omega),<-e,qU]
  have:=k2 i (by omega);rw [yI lx] at this;exact this
 ·obtain⟨i,hi,e⟩:=aQ hx;rw [C0,sl] at hi;have lx:arr.toList[base+(k+i)]? =some x:=by
   rw [<-Ys (n:=n) (by omega),G5 (by omega),<-e,qV]
  have:=k3 (k+i) (by omega) (by omega);rw [yI lx] at this;exact this
theorem QX: ∀ (m:G0 D9) (arr:S5 D9) (p d:G8),p+d+m.length<=arr.size->((m.zipIdx d).foldl (λ(c:S5 D9) (x:D9×G8)=>c.setIfInBounds (p+x.2) x.1) arr).toList=arr.toList.take (p+d)++m++arr.toList.drop (p+d+m.length)
 | [],arr,p,d,_=>by simp
 |x::m,arr,p,d,h=>by
  rw [D2] at h;rw [List.zipIdx_cons,m5];rw [QX m _ p (d+1) (by rw [fA];omega)];have hl:arr.toList.length=arr.size:=by simp
  rw [kI];have e1:(arr.toList.set (p+d) x).take (p+(d+1))=arr.toList.take (p+d)++ [x]:=by
   rw [show p+(d+1)=p+d+1 by omega,L6,f6 (by omega)];rw [List.take_set_of_le (P2 _)];rfl
  have e2:(arr.toList.set (p+d) x).drop (p+(d+1)+m.length)=arr.toList.drop (p+d+(m.length+1)):=by
   rw [List.drop_set_of_lt (by omega),show p+(d+1)+m.length=p+d+(m.length+1) by omega]
  rw [e1,e2,D2];simp [D5]
end
section
variable {prog:S6}{w:B3}{A:N4}{E:G2->G3->Prop}{J:G3->Prop}{κ:SortKind}{U:D9->Prop}{R:D9->D9->N0}
def Tm.set {σ:Type}{st Ä:σ}{Q:PUnit->σ->Prop}(q:Q ⟨⟩ Ä):Tm prog w A E J (MonadStateOf.set Ä:aC σ Sem PUnit) Q st:=λs j=>by
 show D8 _ _ ((StateT.set Ä:aC σ Sem PUnit).run st) _ _ _;exact G9 ⟨q,j⟩
def Rv (a:S5 D9){p n:G8}(h:p<=n):(a.extract p n).toList=Ù a.toList p (n-p):=by
 rw [bX,U7];rfl
def Rw (o:Ô U R){l:G0 D9}(u: ∀x∈l,U x)(s:Õ R l){z:D9}(hz:l[l.length-1]? =some z){x:D9}(hx:x∈l):R z x=false:=by
 obtain⟨i,hi,e⟩:=aQ hx;exact Wj s o u (show i<=l.length-1 by omega) (by rw [G5 hi,e]) hz
def QY (o:Ô U R){l:G0 D9}(u: ∀x∈l,U x)(s:Õ R l){z:D9}(hz:l[0]? =some z){x:D9}(hx:x∈l):R x z=false:=by
 obtain⟨i,hi,e⟩:=aQ hx;exact Wj s o u (N7 _) hz (by rw [G5 hi,e])
def Wm (o:Ô U R){X Y c:G0 D9}{k k2:G8}{y0 x9:D9}(uX: ∀x∈X,U x)(uY: ∀x∈Y,U x)(sX:Õ R X)(sY:Õ R Y)(hy:Y[0]? =some y0)(hx:X[X.length-1]? =some x9)
 (f1: ∀x∈X.take k,R y0 x=false)(g2: ∀y∈Y.drop k2,R y x9=false)(hp:c.Perm (X.drop k++Y.take k2))(sc:Õ R c):(X.take k++c++Y.drop k2).Perm (X++Y)/\Õ R (X.take k++c++Y.drop k2):=by
 have uy0:=uY y0 (P6 hy);have ux9:=uX x9 (P6 hx);constructor
 ·have e:X++Y=X.take k++(X.drop k++Y.take k2)++Y.drop k2:=by
   rw [<-D5,N2,D5,N2]
  rw [e];exact(hp.append_left _).append_right _
 ·have inX: ∀x∈X.take k,∀z∈X.drop k,R z x=false:=λx hx z hz=>by
   have:Õ R (X.take k++X.drop k):=by rw [N2];exact sX
   exact(B9.mp this).2.2 x hx z hz
  have inY: ∀x∈Y.take k2,∀z∈Y.drop k2,R z x=false:=λx hx z hz=>by
   have:Õ R (Y.take k2++Y.drop k2):=by rw [N2];exact sY
   exact(B9.mp this).2.2 x hx z hz
  have xy: ∀x∈X.take k,∀y∈Y,R y x=false:=λx hx y Ł=>o.trans (uX x (O4 hx)) uy0 (uY y Ł) (f1 x hx) (QY o uY sY hy Ł)
  have yx: ∀x∈X,∀y∈Y.drop k2,R y x=false:=λx Ġ y Ł=>o.trans (uX x Ġ) ux9 (uY y (O3 Ł)) (Rw o uX sX hx Ġ) (g2 y Ł)
  have xc: ∀x∈X.take k,∀z∈c,R z x=false:=λx hx z hz=>by
   rcases D1.mp (hp.mem_iff.mp hz) with v|v
   ·exact inX x hx z v
   ·exact xy x hx z (O4 v)
  refine B9.mpr ⟨B9.mpr ⟨sX.sublist (V1 _ _),sc,xc⟩,sY.sublist (V3 _ _),λx hx y hy=> ?_⟩;rcases D1.mp hx with v|v
  ·exact xy x v y (O3 hy)
  ·rcases D1.mp (hp.mem_iff.mp v) with v|v
   ·exact yx x (O3 v) y hy
   ·exact inY x v y hy
def Um (l:G0 D9){p n m:G8}:l=l.take p++(Ù l p n++Ù l (p+n) m)++l.drop (p+n+m):=by
 unfold Ù;have e1:(l.drop (p+n)).take m++l.drop (p+n+m)=l.drop (p+n):=by
  rw [show l.drop (p+n+m)=(l.drop (p+n)).drop m by rw [bI],N2]
 have e2:(l.drop p).take n++l.drop (p+n)=l.drop p:=by
  rw [show l.drop (p+n)=(l.drop p).drop n by rw [bI],N2]
 rw [D5,D5,e1,e2,N2]
def Er {st:C9}{Q:N0->C9->Prop}{i sa na pw sb nb pw2:G8}(ak:Vb prog w A J κ U R)(kd:kindOf st=κ)(o:Ô U R)(u: ∀x∈(T9 st).toList,U x)(p1:(C6 st)[i]? =some (sa,na,pw))(p2:(C6 st)[i+1]? =some (sb,nb,pw2))
 (hs:sa+na=sb)(n1:1<=na)(n2:1<=nb)(hz:sb+nb<=(T9 st).size)(s1:Õ R (Ù (T9 st).toList sa na))(s2:Õ R (Ù (T9 st).toList sb nb))(hf:bW st=none)
 (q: ∀Ä Z,kindOf Ä=κ->bW Ä=none->C6 Ä=((C6 st).setIfInBounds i (sa,na+nb,pw)).eraseIdxIfInBounds (i+1)->(T9 Ä).toList=(T9 st).toList.take sa++Z++(T9 st).toList.drop (sb+nb)->Z.Perm (Ù (T9 st).toList sa na++Ù (T9 st).toList sb nb)->Õ R Z->Q true Ä):
 Tm prog w A E J (IG i) Q st:=by
 have ln:(T9 st).toList.length=(T9 st).size:=by simp
 unfold IG;refine .bind (.get ?_);dsimp only;rw [p1,p2];dsimp only;refine .bind (Tm.set ?_);subst hs;have lX:(Ù (T9 st).toList sa na).length=na:=Wl (by omega);have lY:(Ù (T9 st).toList (sa+na) nb).length=nb:=Wl (by omega);have uX: ∀x∈Ù (T9 st).toList sa na,U x:=λx hx=>u x (Xy hx)
 have uY: ∀x∈Ù (T9 st).toList (sa+na) nb,U x:=λx hx=>u x (Xy hx)
 obtain⟨y0,ly0,ey0⟩:=Wk (arr:=T9 st) (show sa+na<(T9 st).size by omega);obtain⟨x9,lx9,ex9⟩:=Wk (arr:=T9 st) (show sa+(na-1)<(T9 st).size by omega);have hy:(Ù (T9 st).toList (sa+na) nb)[0]? =some y0:=by rw [Ys (by omega)];exact ly0
 have hx:(Ù (T9 st).toList sa na)[(Ù (T9 st).toList sa na).length-1]? =some x9:=by rw [lX,Ys (by omega)];exact lx9
 have uy0:=u y0 (P6 ly0);have ux9:=u x9 (P6 lx9);have c3:=Um (T9 st).toList (p:=sa) (n:=na) (m:=nb);have same: ∀ (Ä:C9),T9 Ä=T9 st-> ∀k k2,(∀x∈(Ù (T9 st).toList sa na).take k,R y0 x=false)->(∀y∈(Ù (T9 st).toList (sa+na) nb).drop k2,R y x9=false)->(na<=k\/k2=0)->Õ R (Ù (T9 st).toList sa na++Ù (T9 st).toList (sa+na) nb):=λÄ e k k2 f1 g2 h=>by
  have pl:(((Ù (T9 st).toList sa na).drop k++(Ù (T9 st).toList (sa+na) nb).take k2)).Perm ((Ù (T9 st).toList sa na).drop k++(Ù (T9 st).toList (sa+na) nb).take k2):= .refl _;have sc:Õ R ((Ù (T9 st).toList sa na).drop k++(Ù (T9 st).toList (sa+na) nb).take k2):=by
   rcases h with h|h
   ·rw [E9 (by omega),O6];exact s2.sublist (V1 _ _)
   ·rw [h,kG,J8];exact s1.sublist (V3 _ _)
  have:=(Wm o uX uY s1 s2 hy hx f1 g2 pl sc).2;rw [<-D5,N2,D5,N2] at this;exact this
 refine .bind (.elem ey0 (.bind (HX (left:=false) ak kd o u s1 uy0 (show sa+na<=(T9 st).size by omega) (by omega) λk k1 f1 f2=> ?_)));have f1: ∀x∈(Ù (T9 st).toList sa na).take k,R y0 x=false:=λx hx=>by simpa using f1 x hx
 have f2: ∀x∈(Ù (T9 st).toList sa na).drop k,R y0 x=true:=λx hx=>by simpa using f2 x hx
 dsimp only
 by_cases z1:na-k=0
 ·rw [R6 (by simpa using z1)];refine .pure (q _ (Ù (T9 st).toList sa na++Ù (T9 st).toList (sa+na) nb) kd hf rfl c3 (.refl _) (same st rfl k nb f1 (λy hy=> ?_) (.inl (by omega))));rw [E9 (by omega)] at hy;cases hy
 rw [R9 (by simpa using z1)];refine .bind (.elem (show _=some x9 by rw [show sa+k+(na-k)-1=sa+(na-1) by omega];exact ex9) (.bind (HX (left:=true) ak kd o u s2 ux9 (show sa+na+nb<=(T9 st).size by omega) (by omega) λk2 j1 g1 g2=> ?_)));have g1: ∀y∈(Ù (T9 st).toList (sa+na) nb).take k2,R y x9=true:=λx hx=>by simpa using g1 x hx
 have g2: ∀y∈(Ù (T9 st).toList (sa+na) nb).drop k2,R y x9=false:=λx hx=>by simpa using g2 x hx
 dsimp only
 by_cases z2:k2=0
 ·rw [R6 (by simpa using z2)];exact .pure (q _ _ kd hf rfl c3 (.refl _) (same st rfl k k2 f1 g2 (.inr z2)))
 rw [R9 (by simpa using z2)];have eX:((T9 st).extract (sa+k) (sa+na)).toList=(Ù (T9 st).toList sa na).drop k:=by
  rw [Rv _ (by omega)];unfold Ù;rw [oJ,bI,show sa+na-(sa+k)=na-k by omega]
 have eY:((T9 st).extract (sa+na) (sa+na+k2)).toList=(Ù (T9 st).toList (sa+na) nb).take k2:=by
  rw [Rv _ (by omega)];unfold Ù;rw [oK,show sa+na+k2-(sa+na)=min k2 nb by omega]
 have sx:((T9 st).extract (sa+k) (sa+na)).size=na-k:=by rw [<-P8,eX,C0,lX]
 have sy:((T9 st).extract (sa+na) (sa+na+k2)).size=k2:=by rw [<-P8,eY,T3,lY];omega
 have hx2: ∀z,((Ù (T9 st).toList sa na).drop k)[((Ù (T9 st).toList sa na).drop k).length-1]? =some z->z=x9:=λz ı=>by
  rw [C0,Z4,lX,show k+(na-k-1)=na-1 by omega] at ı;rw [lX] at hx;rw [hx] at ı;injection ı with ı;exact ı.symm
 have hy2: ∀z,((Ù (T9 st).toList (sa+na) nb).take k2)[0]? =some z->z=y0:=λz ı=>by
  rw [eQ (by omega),hy] at ı;injection ı with ı;exact ı.symm
 have put: ∀c:S5 D9,vq R ((T9 st).extract (sa+k) (sa+na)) ((T9 st).extract (sa+na) (sa+na+k2)) c->(c.toList.zipIdx.foldl (λ(d:S5 D9) (x:D9×G8)=>d.setIfInBounds (sa+k+x.2) x.1) (T9 st)).toList=(T9 st).toList.take sa++((Ù (T9 st).toList sa na).take k++c.toList++(Ù (T9 st).toList (sa+na) nb).drop k2)++(T9 st).toList.drop (sa+na+nb):=λc wh=>by
  have lc:c.toList.length=na-k+k2:=by
   rw [wh.1.length_eq,P1,P8,P8,sx,sy]
  have:=QX c.toList (T9 st) (sa+k) 0 (by omega);rw [this,lc,Z9,show sa+k+(na-k+k2)=sa+na+k2 by omega];have e1:(T9 st).toList.take (sa+k)=(T9 st).toList.take sa++(Ù (T9 st).toList sa na).take k:=by
   unfold Ù;rw [oK,W0 k1,List.take_add]
  have e2:(T9 st).toList.drop (sa+na+k2)=(Ù (T9 st).toList (sa+na) nb).drop k2++(T9 st).toList.drop (sa+na+nb):=by
   unfold Ù;have h1:((T9 st).toList.drop (sa+na)).drop k2=(((T9 st).toList.drop (sa+na)).take nb++((T9 st).toList.drop (sa+na)).drop nb).drop k2:=by rw [N2]
   rw [aD (by rw [T3,C0];omega),bI,bI] at h1;exact h1
  rw [e1,e2];simp [D5]
 have jr: ∀c:S5 D9,vq R ((T9 st).extract (sa+k) (sa+na)) ((T9 st).extract (sa+na) (sa+na+k2)) c->_:=λc wh=>Wm o (c:=c.toList) uX uY s1 s2 hy hx f1 g2 (by have:=wh.1;rw [eX,eY] at this;exact this) wh.2
 by_cases z3:na-k<=k2
 ·rw [R6 z3];refine .bind (Ep ak kd ⟨o,λx hx=> ?_,λx hx=> ?_,?_,?_,λy hy z ı=> ?_⟩ (by rw [sx];omega) (by rw [sy];omega) (λy z Ł ı=> ?_) λc Ä gl wh=> .bind (Tm.modify (.bind (.get (.pure ?_)))))
  ·rw [eX] at hx;exact uX x (O3 hx)
  ·rw [eY] at hx;exact uY x (O4 hx)
  ·rw [eX];exact s1.sublist (V3 _ _)
  ·rw [eY];exact s2.sublist (V1 _ _)
  ·rw [eY] at hy;rw [eX] at ı;rw [hx2 z ı];exact g1 y hy
  ·rw [eY] at Ł;rw [eX] at ı;rw [hy2 y Ł];exact f2 z (P6 ı)
  ·have e:bW Ä=none:=gl.2.2.2.trans hf;show Q (bW Ä).isNone _;rw [e];refine q _ _ (gl.1.trans kd) e gl.2.2.1 ?_ (jr c wh).1 (jr c wh).2;have ea:T9 Ä=T9 st:=gl.2.1;show (c.toList.zipIdx.foldl _ (T9 Ä)).toList=_;rw [ea];exact put c wh
 ·rw [R9 z3];refine .bind (Eq ak kd ⟨o,λx hx=> ?_,λx hx=> ?_,?_,?_,λz ı y Ł=> ?_⟩ (by rw [sx];omega) (by rw [sy];omega) (λy z Ł ı=> ?_) λc Ä gl wh=> .bind (Tm.modify (.bind (.get (.pure ?_)))))
  ·rw [eX] at hx;exact uX x (O3 hx)
  ·rw [eY] at hx;exact uY x (O4 hx)
  ·rw [eX];exact s1.sublist (V3 _ _)
  ·rw [eY];exact s2.sublist (V1 _ _)
  ·rw [eY] at Ł;rw [eX] at ı;rw [hy2 y Ł];exact f2 z ı
  ·rw [eY] at Ł;rw [eX,sx] at ı;have:=hx2 z (by rw [C0,lX];exact ı);rw [this];exact g1 y (P6 Ł)
  ·have e:bW Ä=none:=gl.2.2.2.trans hf;show Q (bW Ä).isNone _;rw [e];refine q _ _ (gl.1.trans kd) e gl.2.2.1 ?_ (jr c wh).1 (jr c wh).2;have ea:T9 Ä=T9 st:=gl.2.1;show (c.toList.zipIdx.foldl _ (T9 Ä)).toList=_;rw [ea];exact put c wh
end
section
variable {prog:S6}{w:B3}{A:N4}{E:G2->G3->Prop}{J:G3->Prop}{κ:SortKind}{U:D9->Prop}{R:D9->D9->N0}
def â (st:C9)(P Z S:G0 D9):Prop:=(T9 st).toList=P++Z++S
def ũ (st Ä:C9):Prop:=kindOf Ä=kindOf st/\C6 Ä=C6 st/\bW Ä=bW st/\gallopOf Ä=gallopOf st
def ũ.refl (st:C9):ũ st st:=⟨rfl,rfl,rfl,rfl⟩
def NT (xs:S5 D9)(P Z S:G0 D9)(h:xs.toList=P++Z++S):(mirror xs P.length (P.length+Z.length) ((P.length+Z.length-P.length) / 2)).toList=P++Z.reverse++S:=by
 have hl:xs.size=P.length+Z.length+S.length:=by rw [<-P8,h];simp [cQ]
 refine bV λk=> ?_
 rw [M9,getElem?_mirror_all (by omega)]
 by_cases c:P.length<=k/\k<P.length+Z.length
 ·rw [R6 c,<-M9,h,D5,D5];have e1:(P++(Z++S))[P.length+(P.length+Z.length)-1-k]? =Z[P.length+Z.length-1-k]? :=by
   rw [B6 (by omega),F4 (by omega)]
   congr 1;omega
  have e2:(P++(Z.reverse++S))[k]? =Z[P.length+Z.length-1-k]? :=by
   rw [B6 (by omega),F4 (by rw [B1];omega),cV (by omega)]
   congr 1;omega
  rw [e1,e2]
 ·rw [R9 c,<-M9,h,D5,D5]
  by_cases d:k<P.length
  ·rw [F4 d,F4 d]
  ·have e1:(P++(Z++S))[k]? =S[k-P.length-Z.length]? :=by
    rw [B6 (by omega),B6 (by omega)]
   have e2:(P++(Z.reverse++S))[k]? =S[k-P.length-Z.length]? :=by
    rw [B6 (by omega),B6 (by rw [B1];omega),B1]
   rw [e1,e2]
def Tm.rev {st:C9}{P Z S:G0 D9}{i j:G8}{Q:Unit->C9->Prop}(h:â st P Z S)(hi:i=P.length)(hj:j=P.length+Z.length)(q: ∀Ä,ũ st Ä->â Ä P Z.reverse S->Q () Ä):Tm prog w A E J (u8 i j) Q st:=by
 rw [reverseSlice'_eq];subst hi hj;exact .modify (q _ ⟨rfl,rfl,rfl,rfl⟩ (NT _ P Z S h))
def Tm.ltAt {st:C9}{x y:D9}{i j:G8}{Q:P9 N0->C9->Prop}(ak:Vb prog w A J κ U R)(kd:kindOf st=κ)(hx:(T9 st).toList[i]? =some x)(hy:(T9 st).toList[j]? =some y)(ux:U x)(uy:U y)(q:Q (some (R x y)) st):Tm prog w A E J (ltAt' i j) Q st:=by
 rw [ltAt'_eq];exact .bind (.get (.bind (.elem (by rw [<-M9];exact hx) (.bind (.elem (by rw [<-M9];exact hy) (.lt ak kd ux uy q))))))
abbrev Dsc (R:D9->D9->N0)(l:G0 D9):Prop:=l.Pairwise λx y=>R x y=false
def Ld {l:G0 D9}(d:Dsc R l):Õ R l.reverse:=gP.mpr d
def NU (o:Ô U R){l:G0 D9}{x y:D9}(u: ∀z∈l++ [x],U z)(uy:U y)(s:Õ R (l++ [x]))(h:R y x=false):Õ R (l++ [x]++ [y]):=by
 refine B9.mpr ⟨s,A9 _ _,λz hz v hv=> ?_⟩;rw [P0.mp hv];have ux:=u x (by simp);rcases D1.mp hz with w|w
 ·exact o.trans (u z hz) ux uy ((B9.mp s).2.2 z w x (by simp)) h
 ·rw [P0.mp w];exact h
def NV {l m:G0 D9}(s:Dsc R (l++m))(alike: ∀x∈m,∀y∈m,R x y=false):Dsc R (l++m.reverse):=by
 obtain⟨a,b,c⟩:=B9.mp s;refine B9.mpr ⟨a,?_,λx hx y hy=>c x hx y (L0.mp hy)⟩;rw [A5];intro i j hi hj _;exact alike _ (L0.mp (N6 hi)) _ (L0.mp (N6 hj))
end
section
variable {prog:S6}{w:B3}{A:N4}{E:G2->G3->Prop}{J:G3->Prop}{κ:SortKind}{U:D9->Prop}{R:D9->D9->N0}
def ũ.trans {a b c:C9}(x:ũ a b)(y:ũ b c):ũ a c:=⟨y.1.trans x.1,y.2.1.trans x.2.1,y.2.2.1.trans x.2.2.1,y.2.2.2.trans x.2.2.2⟩
variable {P Z:G0 D9}
def â.rest {st:C9}{S:G0 D9}(h:â st P Z S){i:G8}:(T9 st).toList[P.length+Z.length+i]? =S[i]? :=by
 rw [h,B6 (by rw [P1];omega),P1]
 congr 1;omega
def â.end {st:C9}{W S:G0 D9}{x:D9}(h:â st P (W++ [x]) S):(T9 st).toList[P.length+W.length]? =some x:=by
 rw [h,D5,B6 (by omega),D5,B6 (by omega)];simp
def Yt {l:G0 D9}(h:1<=l.length): ∃W x,l=W++ [x]:=by
 rcases List.eq_nil_or_concat l with e|⟨W,x,e⟩
 ·subst e;simp at h
 ·exact⟨W,x,by rw [e,List.concat_eq_append]⟩
structure Ď (R:D9->D9->N0)(T Z1 Z2:G0 D9)(n:G8):Prop where
 len:(Z1++Z2).length=n
 perm:(Z1++Z2).Perm (T.take n)
 dsc:Dsc R (Z1++Z2)
 alike: ∀x∈Z2,∀y∈Z2,R x y=false
 ne:1<=Z2.length
variable {T:G0 D9}{n:G8}
def Ď.turn {Z1 Z2:G0 D9}(f:Ď R T Z1 Z2 n):Ď R T Z1 Z2.reverse n:=
 ⟨by have:=f.len;simp only [P1,B1] at this ⊢;exact this,((X9 Z2).append_left Z1).trans f.perm,NV f.dsc f.alike,λx hx y hy=>f.alike x (L0.mp hx) y (L0.mp hy),by rw [B1];exact f.ne⟩
def Ď.mem {Z1 Z2:G0 D9}(f:Ď R T Z1 Z2 n){x:D9}(h:x∈Z1++Z2):x∈T:=O4 (f.perm.mem_iff.mp h)
def Jt {y:D9}(h:Z.Perm (T.take n))(hy:T[n]? =some y):(Z++ [y]).Perm (T.take (n+1)):=by
 rw [Wi hy];exact h.append_right _
def Ď.below (o:Ô U R){T Z1 Z2:G0 D9}{n:G8}{x y:D9}(u: ∀x∈T,U x)(f:Ď R T Z1 Z2 n)(hx:x∈Z2)(hy:T[n]? =some y)(h:R y x=true):Ď R T (Z1++Z2) [y] (n+1):=by
 have uy:=u y (P6 hy);have ux:=u x (f.mem (D1.mpr (.inr hx)));have xy:=o.asym y x uy ux h;refine⟨by rw [P1,f.len];rfl,Jt f.perm hy,?_,λa ha b hb=> ?_,by simp⟩
 ·refine B9.mpr ⟨f.dsc,A9 _ _,λz hz v hv=> ?_⟩;rw [P0.mp hv];have uz:=u z (f.mem hz);have zx:R z x=false:=by
   rcases D1.mp hz with w|w
   ·exact(B9.mp f.dsc).2.2 z w x hx
   ·exact f.alike z w x hx
  exact o.trans uy ux uz xy zx
 ·rw [P0.mp ha,P0.mp hb];exact o.refl uy
def Ď.like (o:Ô U R){T Z1 Z2:G0 D9}{n:G8}{x y:D9}(u: ∀x∈T,U x)(f:Ď R T Z1 Z2 n)(hx:x∈Z2)(hy:T[n]? =some y)(h:R y x=false)(h':R x y=false):Ď R T Z1 (Z2++ [y]) (n+1):=by
 have uy:=u y (P6 hy);have ux:=u x (f.mem (D1.mpr (.inr hx)));have zy: ∀z∈Z1++Z2,R z y=false:=λz hz=>by
  have uz:=u z (f.mem hz);have zx:R z x=false:=by
   rcases D1.mp hz with w|w
   ·exact(B9.mp f.dsc).2.2 z w x hx
   ·exact f.alike z w x hx
  exact o.trans uy ux uz h' zx
 have yz: ∀z∈Z2,R y z=false:=λz hz=>o.trans (u z (f.mem (D1.mpr (.inr hz)))) ux uy (f.alike x hx z hz) h
 refine⟨by rw [<-D5,P1,f.len];rfl,by rw [<-D5];exact Jt f.perm hy,?_,λa ha b hb=> ?_,by simp⟩
 ·rw [<-D5];refine B9.mpr ⟨f.dsc,A9 _ _,λz hz v hv=> ?_⟩;rw [P0.mp hv];exact zy z hz
 ·rcases D1.mp ha with p|p<;>rcases D1.mp hb with r|r
  ·exact f.alike a p b r
  ·rw [P0.mp r];exact zy a (D1.mpr (.inr p))
  ·rw [P0.mp p];exact yz b r
  ·rw [P0.mp p,P0.mp r];exact o.refl uy
def â.more {st:C9}{m:G8}{y:D9}(L:â st P Z (T.drop m))(hy:T[m]? =some y):â st P (Z++ [y]) (T.drop (m+1)):=by
 unfold â at L ⊢;rw [L,zn hy];simp
def â.part {st:C9}{Z1 Z2 S:G0 D9}:â st P (Z1++Z2) S↔â st (P++Z1) Z2 S:=by
 unfold â;simp only [D5]
def â.two {st:C9}{m:G8}{y:D9}(L:â st P Z (T.drop m))(lz:Z.length=m)(m1:1<=m)(hy:T[m]? =some y):(T9 st).toList[P.length+m]? =some y/\ ∃W x,Z=W++ [x]/\(T9 st).toList[P.length+m-1]? =some x:=by
 have a:=L.rest (i:=0);rw [Z4,lz,Z9,Z9,hy] at a;obtain⟨W,x,e⟩:=Yt (l:=Z) (by omega);subst e;refine⟨a,W,x,rfl,?_⟩;rw [<-L.end]
 congr 1
 rw [P1,cT] at lz;omega
section
variable {σ ρ τ α:Type}{st:σ}
def Tm.rangeN {f:G8->P9 ρ×τ->aC σ Sem (fT (P9 ρ×τ))}(I:G8->τ->σ->Prop){Q:τ->σ->Prop}{Q':P9 ρ×τ->σ->Prop}{a b:G8}{c:τ}(hab:a<=b)(h:I a c st)(step: ∀i c st,i<b->I i c st->Tm prog w A E J (f i (none,c)) (λr Ä=>match r with| .done c'=>c'.1=none/\Q c'.2 Ä| .yield c'=>c'.1=none/\I (i+1) c'.2 Ä) st)(fin: ∀c st,I b c st->Q c st)(q: ∀c st,Q c st->Q' (none,c) st):Tm prog w A E J (forIn [a:b] ((none:P9 ρ),c) f) Q' st:=by
 refine Tm.mono (Tm.range (λi c st=>c.1=none/\I i c.2 st) (Q:=λc st=>c.1=none/\Q c.2 st) hab ⟨rfl,h⟩ ?_ λc st h=>⟨h.1,fin _ _ h.2⟩) ?_
 ·rintro i ⟨_,c⟩ st hi ⟨rfl,h⟩;exact(step i c st hi h).mono λr Ä x=>by cases r<;>exact x
 ·rintro ⟨_,c⟩ st ⟨rfl,h⟩;exact q c st h
def Tm.fork {c:Prop}[Decidable c]{t e:aC σ Sem α}{Q:α->σ->Prop}(I:σ->Prop)(G: ∀s,I s->Tm prog w A E J e Q s)(T:c->(∀s,I s->Tm prog w A E J e Q s)->Tm prog w A E J t Q st)(F: ¬c->I st):Tm prog w A E J (if c then t else e) Q st:=
 .if2 (λh=>T h G) λh=>G _ (F h)
end
section
variable {st:C9}{P T Z:G0 D9}{m:G8}
def Rx {f:G8->P9 (P9 G8)×G8->aC C9 Sem (fT (P9 (P9 G8)×G8))}{G:G8->P9 N0->aC C9 Sem (fT (P9 (P9 G8)×G8))}{Q:P9 (P9 G8)×G8->C9->Prop}(ak:Vb prog w A J κ U R)(kd:kindOf st=κ)(o:Ô U R)(u: ∀x∈T,U x)
 (hf: ∀i n,f i (none,n)=ltAt' (P.length+n) (P.length+n-1) >>= G n)(hG: ∀n,G n (some true)=Pure.pure (.done (none,n))/\G n (some false)=Pure.pure (.yield (none,n+1)))
 (m1:1<=m)(m2:m<=T.length)(L:â st P Z (T.drop m))(p:Z.Perm (T.take m))(s:Õ R Z)
 (q: ∀n Z',1<=n->n<=T.length->â st P Z' (T.drop n)->Z'.Perm (T.take n)->Õ R Z'->(∀y,T[n]? =some y-> ∃W x,Z'=W++ [x]/\R y x=true)->Q (none,n) st):Tm prog w A E J (forIn [m:T.length] ((none:P9 (P9 G8)),m) f) Q st:=by
 refine Tm.rangeN (λi c s=>s=st/\c=i/\1<=i/\ ∃Z,â st P Z (T.drop i)/\Z.Perm (T.take i)/\Õ R Z) (Q:=λn s=>s=st/\Q (none,n) st) m2 ⟨rfl,rfl,m1,Z,L,p,s⟩ ?_ ?_ λc s h=>h.1 ▸ h.2
 ·rintro _ i _ hi ⟨rfl,rfl,i1,Z,L,p,s⟩;have hy:=G5 hi;obtain⟨ay,W,x,rfl,ax⟩:=L.two (by rw [p.length_eq,T3,W0 (T8 hi)]) i1 hy;have uy:=u _ (N6 hi);have uZ: ∀z∈W++ [x],U z:=λz hz=>u z (O4 (p.mem_iff.mp hz))
  rw [hf];refine .bind (.ltAt ak kd ay ax uy (uZ x (by simp)) ?_);cases hb:R T[i] x with
  |true=>
   rw [(hG _).1];exact .pure ⟨rfl,rfl,q i _ i1 (T8 hi) L p s λy h=>⟨W,x,rfl,by rw [hy] at h;injection h with h;rw [<-h];exact hb⟩⟩
  |false=>
   rw [(hG _).2];exact .pure ⟨rfl,rfl,rfl,gV (N7 _),_,L.more hy,Jt p hy,NU o uZ uy s hb⟩
 ·rintro _ _ ⟨rfl,rfl,i1,Z,L,p,s⟩;exact⟨rfl,q _ Z i1 (P2 _) L p s λy h=>absurd (P5.mp h).1 (C1 _)⟩
end
def Ū (R:D9->D9->N0)(P T:G0 D9)(st Ä:C9)(n k:G8):Prop:=ũ st Ä/\ ∃Z1 Z2,â Ä P (Z1++Z2) (T.drop n)/\Ď R T Z1 Z2 n/\Z2.length=k+1
def Ū.rev {st s2:C9}{k:G8}{Q:Unit->C9->Prop}(h:Ū R P T st s2 n k)(q: ∀s3,Ū R P T st s3 n k->Q () s3):Tm prog w A E J (u8 (P.length+n-(k+1)) (P.length+n)) Q s2:=by
 obtain⟨ar,Z1,Z2,L,F,l⟩:=h;have l12:=F.len;rw [P1] at l12;exact .rev (â.part.mp L) (by rw [P1];omega) (by rw [P1];omega) λs3 ar3 L3=>q s3 ⟨ar.trans ar3,Z1,_,â.part.mpr L3,F.turn,by rw [B1];exact l⟩
def NW {st:C9}{Q:P9 G8->C9->Prop}(ak:Vb prog w A J κ U R)(kd:kindOf st=κ)(o:Ô U R)(u: ∀x∈T,U x)(h:â st P [] T)(h1:1<=T.length)
 (q: ∀n Ä Z,1<=n->n<=T.length->ũ st Ä->â Ä P Z (T.drop n)->Z.Perm (T.take n)->Õ R Z->Q (some n) Ä):Tm prog w A E J (countRun' P.length T.length) Q st:=by
 refine .bind (Rx (m:=1) (Z:=T.take 1) ak kd o u (by exact λi n=>rfl) (by exact λn=>⟨rfl,rfl⟩) (P2 _) h1 ?_ (.refl _) ?_ λn Z n1 n2 L p sr br=> ?_)
 ·unfold â at h ⊢;rw [h,J8,D5,N2]
 ·match T,h1 with
  |x::r,_=>exact A9 _ _
 refine .eq2 (x:=n) (y:=T.length) (λz1=> .pure (q n _ _ n1 n2 (ũ.refl _) L p sr)) λz1=> ?_
 have n3:n<T.length:=K7 n2 z1;have hy:=G5 n3;have uZ: ∀z∈Z,U z:=λz hz=>u z (O4 (p.mem_iff.mp hz))
 obtain⟨W,x,e,yx⟩:=br _ hy;have lz:Z.length=n:=by rw [p.length_eq,T3,W0 n2]
 have xin:x∈Z:=by rw [e];simp
 have xl:Z[Z.length-1]? =some x:=by rw [e];simp
 have F0:(∀p∈Z,∀r∈Z,R p r=false)->Ď R T [] Z n:=λal=>⟨lz,p,A5.mpr λi j hi hj _=>al _ (N6 hi) _ (N6 hj),al,by rw [lz];exact n1⟩
 refine Tm.fork (λs=>Ū R P T st s (n+1) 0) ?_ ?_ ?_
 ·intro s1 F1;refine .bind (.rule (.bind (Tm.rangeN (λi c s=>c.1=i/\Ū R P T st s c.1 c.2) (Q:=λc s=>c.1<=T.length/\Ū R P T st s c.1 c.2) n3 ⟨rfl,F1⟩ ?_ (λc s h=>⟨U6 h.1,h.2⟩) ?_)))
  ·intro i c s2 hi h2;have hc:c.1<T.length:=by rw [h2.1];exact hi
   have hy:=G5 hc;have uy:=u _ (N6 hc);obtain⟨e1,ar2,Z1,Z2,L2,F2,l2⟩:=h2;have l12:=F2.len;obtain⟨ay,W,x,eW,ax⟩:=L2.two l12 (by rw [<-l12,P1,l2];exact cN _ _) hy;have xin:x∈Z2:=by
    obtain⟨V,v,e⟩:=Yt F2.ne;have e':=congrArg List.getLast? eW;rw [e,<-D5,oN,oN] at e';injection e' with e'
    rw [e,<-e'];simp
   have ux:=u x (F2.mem (D1.mpr (.inr xin)));refine .bind (.ltAt ak (ar2.1.trans kd) ay ax uy ux (.if2 (c:=R _ x=true) (λhb=> ?_) λhb=> .bind (.ltAt ak (ar2.1.trans kd) ax ay ux uy (.if2 (c:=R x _=true) (λν=> .pure ⟨rfl,T8 hc,ar2,Z1,Z2,L2,F2,l2⟩) λν=> ?_))))
   ·refine Tm.fork (λs=>Ū R P T st s (c.1+1) 0) (λs h=> .pure ⟨rfl,congrArg G0W e1,h⟩) (λzq H=> .bind ?_) λzq=>⟨ar2,Z1++Z2,[T[c.1]],L2.more hy,F2.below o u xin hy hb,rfl⟩
    have X1W:=l12;rw [P1] at X1W;exact .rev (â.part.mp L2) (by rw [P1];dsimp only;omega) (by rw [P1];dsimp only;omega) λs3 ar3 L3=>H s3 ⟨ar2.trans ar3,Z1++Z2.reverse,[T[c.1]],(â.part.mpr L3).more hy,F2.turn.below o u (L0.mpr xin) hy hb,rfl⟩
   ·refine .pure ⟨rfl,congrArg G0W e1,ar2,Z1,Z2++ [T[c.1]],?_,F2.like o u xin hy (aH.mpr hb) (aH.mpr ν),by rw [P1,l2];rfl⟩;rw [<-D5];exact L2.more hy
  ·intro c s2 h2;refine Tm.fork (λs=> ∃k,Ū R P T st s c.1 k) ?_ (λzq H=> .bind (h2.2.rev λs h=>H s ⟨_,h⟩)) λzq=>⟨_,h2.2⟩
   intro s3 h3;obtain⟨k,ar3,Z1,Z2,L3,F3,l3⟩:=h3;have m1:1<=c.1:=by rw [<-F3.len,P1,l3];exact cN _ _
   exact .bind (.rev L3 rfl (by rw [F3.len]) λs4 ar4 L4=> .bind (Rx ak ((ar3.trans ar4).1.trans kd) o u (by exact λi n=>rfl) (by exact λn=>⟨rfl,rfl⟩) m1 h2.1 L4 ((X9 _).trans F3.perm) (Ld F3.dsc) λn Z n1 n2 L p sr _=> .pure (q n s4 Z n1 n2 (ar3.trans ar4) L p sr)))
 ·intro z2 H;obtain⟨x0,V,eV⟩: ∃x0 V,Z=x0::V:=by
   match Z,xin with
   |a::r,_=>exact⟨a,r,rfl⟩
  have ux:=uZ x xin;have ux0:=uZ x0 (by rw [eV];simp);have a0:(T9 st).toList[P.length]? =some x0:=by rw [L,eV];simp
  have a1:(T9 st).toList[P.length+n-1]? =some x:=by
   obtain⟨_,W',x',e',ax⟩:=L.two lz n1 hy;rw [e] at e';rw [ax,(List.append_inj' e' rfl).2 |> λh=>(List.cons.inj h).1]
  exact .bind (.ltAt ak kd a0 a1 ux0 ux (.if2 (c:=R x0 x=true) (λ_=> .pure (q n _ _ n1 n2 (ũ.refl _) L p sr)) λhr0=> .bind (.rev L rfl (by rw [lz]) λs1 ar1 L1=>H s1 ⟨ar1,_,_,L1.more hy,Ď.below o u (Z1:= []) (Ď.turn (F0 λp hp r hr=>o.trans (uZ r hr) ux (uZ p hp) (Rw o uZ sr xl hr) (aH.mpr λv=>(o.neg p x0 x (uZ p hp) ux0 ux v).elim (λv=>by rw [QY o uZ sr (z:=x0) (by rw [eV];rfl) hp] at v;cases v) hr0))) (L0.mpr xin) hy yx,rfl⟩)))
 ·intro z2;have w0:W= []:=V4 (by rw [e,P1,cT] at lz;omega);have f: ∀z∈Z,z=x:=λz hz=>by rw [e,w0] at hz;exact P0.mp hz
  exact⟨ũ.refl st,_,_,L.more hy,Ď.below o u (Z1:= []) (F0 λp hp r hr=>by rw [f p hp,f r hr];exact o.refl (uZ x xin)) xin hy yx,rfl⟩
end
section
variable {prog:S6}{w:B3}{A:N4}{E:G2->G3->Prop}{J:G3->Prop}{κ:SortKind}{U:D9->Prop}{R:D9->D9->N0}
def NX {B:S5 D9}{A R:G0 D9}{z y:D9}(h:B.toList=A++z::y::R):(B.swapIfInBounds (A.length+1) A.length).toList=A++y::z::R:=by
 obtain⟨l⟩:=B;cases h;have n:A.length<(A++z::y::R).length:=by rw [P1];exact Nat.lt_add_of_pos_right (bU _)
 have n1:A.length+1<(A++z::y::R).length:=by rw [P1];exact Nat.add_lt_add_left (rO (bU _)) _
 have a0:(A++z::y::R)[A.length]=z:=mT rfl rfl;have a1:(A++z::y::R)[A.length+1]=y:=mT (l₁:=A++ [z]) (l₂:=R) (by rw [D5];rfl) (by rw [P1];rfl);unfold Array.swapIfInBounds;refine(congrArg qB ((xQ n1).trans (xQ n))).trans ?_;rw [Array.toList_swap];show ((A++z::y::R).set (A.length+1) (A++z::y::R)[A.length]).set A.length (A++z::y::R)[A.length+1]=_;rw [a0,a1,nO _ _ (W4 A.length 1),nO _ _ (P2 _),iP,fX];rfl
theorem Ry {xs:S5 D9}{y:D9}{S:G0 D9}: ∀ (Z A:G0 D9),xs.toList=A++(Z++y::S)->(bubble xs (A.length+Z.length) Z.length).toList=A++y::(Z++S)
 | [],A,h=>h
 |z::Z,A,h=>by
  have ih:=Ry Z (A++ [z]) (by rw [h,D5];rfl);rw [P1,fI] at ih;rw [D2,bubble_succ,show A.length+(Z.length+1)-Z.length=A.length+1 from pW (n:=A.length+1) (m:=Z.length) ▸ by rw [fI];rfl];exact NX (ih.trans (by rw [D5];rfl))
def NY (xs:S5 D9)(P Z S:G0 D9)(y:D9)(l:G8)(hl:l<=Z.length)(h:xs.toList=P++Z++y::S):(bubble xs (P.length+Z.length) (Z.length-l)).toList=P++(Z.take l++ [y]++Z.drop l)++S:=by
 have e:=Ry (xs:=xs) (y:=y) (S:=S) (Z.drop l) (P++Z.take l) (by rw [h,D5 P (Z.take l),<-D5 (Z.take l),N2,D5]);rw [P1,T3,C0,W0 hl,cQ,J7 hl] at e;rw [e];simp only [D5,U5,O6]
def Le (o:Ô U R){Z:G0 D9}{y:D9}{l:G8}(u: ∀z∈Z,U z)(uy:U y)(s:Õ R Z)(a: ∀z∈Z.take l,R y z=false)(b: ∀z∈Z.drop l,R y z=true):Õ R (Z.take l++ [y]++Z.drop l):=by
 have s':Õ R (Z.take l++Z.drop l):=by rw [N2];exact s
 obtain⟨s1,s2,s3⟩:=B9.mp s';refine B9.mpr ⟨B9.mpr ⟨s1,A9 _ _,λx hx z hz=> ?_⟩,s2,λx hx z hz=> ?_⟩
 ·rw [P0.mp hz];exact a x hx
 ·rcases D1.mp hx with v|v
  ·exact s3 x v z hz
  ·rw [P0.mp v];exact o.asym y z uy (u z (O3 hz)) (b z hz)
def Es {st:C9}{Q:N0->C9->Prop}{P T Z:G0 D9}{n k:G8}(ak:Vb prog w A J κ U R)(kd:kindOf st=κ)(o:Ô U R)(u: ∀x∈T,U x)(h:â st P Z (T.drop k))(hp:Z.Perm (T.take k))(hs:Õ R Z)(k1:1<=k)(kn:k<=n)(hn:n<=T.length)
 (q: ∀Ä Z',ũ st Ä->â Ä P Z' (T.drop n)->Z'.Perm (T.take n)->Õ R Z'->Q true Ä):Tm prog w A E J (IH P.length n k) Q st:=by
 unfold IH;refine .bind (Tm.mono (Tm.range (λi c s1=>ũ st s1/\c.1=none/\1<=i/\ ∃Z,â s1 P Z (T.drop i)/\Z.Perm (T.take i)/\Õ R Z) (Q:=λc s1=>ũ st s1/\c.1=none/\ ∃Z,â s1 P Z (T.drop n)/\Z.Perm (T.take n)/\Õ R Z) (by omega) ⟨ũ.refl st,rfl,by omega,Z,by rw [sQ k1];exact h,by rw [sQ k1];exact hp,hs⟩ ?_ ?_) ?_)
 ·rintro i ⟨r,c2⟩ s1 hi ⟨ar,hr,i1,Z,L,p,s⟩;dsimp only at hr ⊢;subst hr;obtain⟨y,hy⟩: ∃y,T[i]? =some y:=⟨_,G5 (by omega)⟩;have uy:=u y (P6 hy);have lz:Z.length=i:=by rw [p.length_eq,T3];omega
  have uZ: ∀z∈Z,U z:=λz hz=>u z (O4 (p.mem_iff.mp hz))
  have ay:(T9 s1).toList[P.length+i]? =some y:=by
   have:=L.rest (i:=0);rw [Z4,lz] at this;rw [Z9] at this;rw [this];exact hy
  have az: ∀m,m<i-> ∃z,Z[m]? =some z/\(T9 s1).toList[P.length+m]? =some z:=λm hm=>by
   refine⟨Z[m],G5 (by omega),?_⟩;rw [L,D5,B6 (by omega),F4 (by omega),fX,G5 (by omega)]
  refine .bind (Tm.mono (Tm.range (λj c s2=>s2=s1/\c.1=none/\c.2.1<=c.2.2/\c.2.2<=i/\(∀z∈Z.take c.2.1,R y z=false)/\(∀z∈Z.drop c.2.2,R y z=true)/\c.2.2-c.2.1+j<=i) (Q:=λc s2=>s2=s1/\c.1=none/\c.2.1<=i/\(∀z∈Z.take c.2.1,R y z=false)/\(∀z∈Z.drop c.2.1,R y z=true)) (N7 _) ⟨rfl,rfl,N7 _,P2 _,λz hz=> ?_,λz hz=> ?_,by dsimp only;omega⟩ ?_ ?_) ?_)
  ·dsimp only at hz;rw [kG] at hz;cases hz
  ·dsimp only at hz;rw [E9 (by omega)] at hz;cases hz
  ·rintro j ⟨r,l,v⟩ _ hj ⟨rfl,hr,b1,b2,b3,b4,b5⟩;dsimp only at hr b1 b2 b3 b4 b5 ⊢;subst hr
   by_cases c1:l>=v
   ·rw [R6 c1];have:l=v:=by omega
    subst this;exact .pure ⟨rfl,rfl,b2,b3,b4⟩
   rw [R9 c1];obtain⟨z,hz,ez⟩:=az ((l+v) / 2) (by omega);have uz:=uZ z (P6 hz);refine .bind (.ltAt ak (ar.1.trans kd) ay ez uy uz ?_);dsimp only;cases hb:R y z with
   |true=>
    rw [R6 rfl];refine .pure ⟨rfl,rfl,by dsimp only;omega,by dsimp only;omega,b3,λx hx=> ?_,by dsimp only;omega⟩;dsimp only at hx;have zx:R x z=false:=by
     obtain⟨t,ht,e⟩:=aQ hx;rw [C0] at ht;exact Wj s o uZ (show (l+v) / 2<=(l+v) / 2+t by omega) hz (by rw [G5 (by omega),<-e,qV])
    rcases o.neg y x z uy (uZ x (O3 hx)) uz hb with w|w
    ·exact w
    ·rw [zx] at w;cases w
   |false=>
    rw [R9 (by decide)];refine .pure ⟨rfl,rfl,by dsimp only;omega,b2,λx hx=> ?_,b4,by dsimp only;omega⟩;dsimp only at hx;have xz:R z x=false:=by
     obtain⟨t,ht,e⟩:=aQ hx;rw [T3] at ht;exact Wj s o uZ (show t<=(l+v) / 2 by omega) (by rw [G5 (by omega),<-e,qU]) hz
    exact o.trans (uZ x (O4 hx)) uz uy xz hb
  ·rintro ⟨r,l,v⟩ _ ⟨rfl,hr,b1,b2,b3,b4,b5⟩;dsimp only at hr b1 b2 b3 b4 b5 ⊢;have:l=v:=by omega
   subst this;exact⟨rfl,hr,b2,b3,b4⟩
  ·rintro ⟨r,l,v⟩ s2 ⟨rfl,hr,b2,b3,b4⟩;dsimp only at hr b2 b3 b4 ⊢;subst hr;dsimp only;refine .bind ?_;show Tm prog w A E J (moveDown' (P.length+i) (P.length+l)) _ _;rw [moveDown'_eq];refine .modify (.pure ⟨ar.trans ⟨rfl,rfl,rfl,rfl⟩,rfl,by omega,Z.take l++ [y]++Z.drop l,?_,?_,Le o uZ uy s b3 b4⟩)
   ·have:=NY (T9 s2) P Z (T.drop (i+1)) y l (by omega) (by rw [<-zn hy];exact L);rw [lz] at this;rw [show P.length+i-(P.length+l)=i-l by omega];exact this
   ·refine nC ?_ (Jt p hy);rw [D5];have e:Z++ [y]=Z.take l++(Z.drop l++ [y]):=by rw [<-D5,N2]
    rw [e];exact(cU).append_left _
 ·rintro ⟨r,c2⟩ s1 ⟨ar,hr,i1,Z,L,p,s⟩;exact⟨ar,hr,Z,L,p,s⟩
 ·rintro ⟨r,c2⟩ s1 ⟨ar,hr,Z,L,p,s⟩;dsimp only at hr ⊢;subst hr;exact .pure (q s1 Z ar L p s)
end
section
variable {prog:S6}{w:B3}{A:N4}{E:G2->G3->Prop}{J:G3->Prop}{κ:SortKind}{U:D9->Prop}{R:D9->D9->N0}
def Ī (R:D9->D9->N0)(l:G0 D9):G0 (G8×G8×G8)->G8->G8->Prop
 | [],s,e=>s=e
 |(p,n,_)::rest,s,e=>p=s/\1<=n/\Õ R (Ù l p n)/\Ī R l rest (s+n) e
variable {l:G0 D9}
theorem Ī.le: ∀ {pl:G0 (G8×G8×G8)} {s e:G8},Ī R l pl s e->s+pl.length<=e
 | [],s,e,h=>by cases h;simp
 |(p,n,_)::rest,s,e,⟨_,n1,_,h⟩=>by have:=Ī.le h;simp only [D2];omega
def NZ {l':G0 D9}{p n e:G8}(h:l.take e=l'.take e)(he:p+n<=e):Ù l p n=Ù l' p n:=by
 have cut: ∀k:G0 D9,Ù k p n=Ù (k.take e) p n:=λk=>by
  unfold Ù;rw [oJ,oK,W0 (by omega)]
 rw [cut l,cut l',h]
theorem Ī.same {l l':G0 D9}: ∀ {pl:G0 (G8×G8×G8)} {s e:G8},Ī R l pl s e->l.take e=l'.take e->Ī R l' pl s e
 | [],s,e,h,_=>h
 |(p,n,_)::rest,s,e,⟨a,b,c,d⟩,h=>by
  have:=d.le;exact⟨a,b,by rw [<-NZ h (by omega)];exact c,d.same h⟩
theorem Ī.shift {l':G0 D9}: ∀ {pl:G0 (G8×G8×G8)} {s e:G8},Ī R l pl s e->l.drop s=l'.drop s->Ī R l' pl s e
 | [],s,e,h,_=>h
 |(p,n,_)::rest,s,e,⟨a,b,c,d⟩,h=>by
  subst a;refine⟨rfl,b,by unfold Ù at c ⊢;rw [<-h];exact c,d.shift ?_⟩;rw [<-bI,<-bI,h]
theorem Ī.append: ∀ {a b:G0 (G8×G8×G8)} {s e:G8},Ī R l (a++b) s e↔ ∃m,Ī R l a s m/\Ī R l b m e
 | [],b,s,e=>⟨λh=>⟨s,rfl,h⟩,λ⟨m,h,h'⟩=>by cases h;exact h'⟩
 |(p,n,w)::a,b,s,e=>by
  constructor
  ·rintro ⟨x,y,z,h⟩;obtain⟨m,h1,h2⟩:=Ī.append.mp h;exact⟨m,⟨x,y,z,h1⟩,h2⟩
  ·rintro ⟨m,⟨x,y,z,h1⟩,h2⟩;exact⟨x,y,z,Ī.append.mpr ⟨m,h1,h2⟩⟩
structure Bt (R:D9->D9->N0)(κ:SortKind)(l0:G0 D9)(lo:G8)(st:C9):Prop where
 kind:kindOf st=κ
 failed:bW st=none
 perm:(T9 st).toList.Perm l0
 stk:Ī R (T9 st).toList (C6 st).toList 0 lo
variable {l0:G0 D9}{lo:G8}
def Bt.size {st:C9}(b:Bt R κ l0 lo st):(T9 st).size=l0.length:=by rw [<-P8,b.perm.length_eq]
def Bt.merge {st:C9}{Q:N0->C9->Prop}{i:G8}(ak:Vb prog w A J κ U R)(o:Ô U R)(u: ∀x∈l0,U x)(b:Bt R κ l0 lo st)(hlo:lo<=l0.length)(hi:i+1<(C6 st).size)
 (q: ∀Ä,Bt R κ l0 lo Ä->(C6 Ä).size+1=(C6 st).size->(T9 Ä).toList.drop lo=(T9 st).toList.drop lo->Q true Ä):Tm prog w A E J (IG i) Q st:=by
 have lp:(C6 st).toList.length=(C6 st).size:=by simp
 obtain⟨⟨sa,na,pw⟩,hx⟩: ∃x,(C6 st).toList[i]? =some x:=⟨_,G5 (by omega)⟩;obtain⟨⟨sb,nb,pw2⟩,hy⟩: ∃y,(C6 st).toList[i+1]? =some y:=⟨_,G5 (by omega)⟩;have e:(C6 st).toList=(C6 st).toList.take i++(sa,na,pw)::(sb,nb,pw2)::(C6 st).toList.drop (i+2):=by
  rw [<-zn hy,<-zn hx,N2]
 have stk:=b.stk;rw [e] at stk;obtain⟨m,k1,em,n1,s1,eb,n2,s2,k2⟩:=Ī.append.mp stk;subst em;subst eb;have le:=k2.le;have sz:=b.size;have hz:sa+na+nb<=(T9 st).size:=by omega
 have ln:(T9 st).toList.length=(T9 st).size:=by simp
 refine Er ak b.kind o (λx hx=>u x (b.perm.mem_iff.mp hx)) (by rw [<-M9];exact hx) (by rw [<-M9];exact hy) rfl n1 n2 hz s1 s2 b.failed λÄ Z kd hf hp ha pz sz'=> ?_
 have hpl:(C6 Ä).toList=(C6 st).toList.take i++(sa,na+nb,pw)::(C6 st).toList.drop (i+2):=by
  rw [hp,Array.eraseIdxIfInBounds_eq,xQ (by rw [fA];exact hi),Array.toList_eraseIdx,kI];generalize (C6 st).toList.drop (i+2)=B at e ⊢;have li:((C6 st).toList.take i).length=i:=by rw [T3];omega
  generalize (C6 st).toList.take i=A at e li ⊢;rw [e];subst li;simp [List.set_append,List.eraseIdx_append];intro z;omega
 have lZ:Z.length=na+nb:=by rw [pz.length_eq,P1,Wl (by omega),Wl (by omega)]
 have lt:((T9 st).toList.take sa).length=sa:=by rw [T3];omega
 refine q Ä ⟨kd,hf,?_,?_⟩ ?_ ?_
 ·rw [ha];refine nC ?_ b.perm;have c3:=Um (T9 st).toList (p:=sa) (n:=na) (m:=nb);have pp:=(pz.append_left ((T9 st).toList.take sa)).append_right ((T9 st).toList.drop (sa+na+nb));rw [<-c3] at pp;exact pp
 ·rw [hpl,ha];refine Ī.append.mpr ⟨sa,k1.same ?_,rfl,by omega,?_,?_⟩
  ·rw [D5,aE (by omega),T5 (l:=(T9 st).toList.take sa) (by omega)]
  ·unfold Ù;rw [D5,aD (by omega),E9 (by omega),O6,aE (by omega),T5 (by omega)];exact sz'
  ·rw [<-cQ];refine k2.shift ?_;have:((T9 st).toList.take sa++Z).length=sa+na+nb:=by rw [P1,lt,lZ];omega
   rw [aD (by omega),E9 (as:=(T9 st).toList.take sa++Z) (by omega),O6]
 ·rw [<-P8,<-P8,hpl];have:(C6 st).toList.length=((C6 st).toList.take i++(sa,na,pw)::(sa+na,nb,pw2)::(C6 st).toList.drop (i+2)).length:=congrArg aA e;rw [this];simp only [P1,D2];omega
 ·rw [ha];have c1:((T9 st).toList.take sa++Z).length=sa+na+nb:=by rw [P1,lt,lZ];omega
  have c2:sa+na+nb<=lo:=by omega
  rw [List.drop_append,E9 (as:=(T9 st).toList.take sa++Z) (by omega),O6,bI,c1]
  congr 1;omega
def Bt.run {Z:G0 D9}{n:G8}{s1 s2:C9}(b:Bt R κ l0 lo s1)(hlo:lo<=l0.length)(ar:ũ s1 s2)(L:â s2 ((T9 s1).toList.take lo) Z (((T9 s1).toList.drop lo).drop n))(p:Z.Perm (((T9 s1).toList.drop lo).take n))(sr:Õ R Z)(hn:n<=l0.length-lo):Bt R κ l0 lo s2/\Õ R (Ù (T9 s2).toList lo n):=by
 have ln:(T9 s1).toList.length=l0.length:=b.perm.length_eq;have lP:((T9 s1).toList.take lo).length=lo:=by rw [T3];omega
 have lZ:Z.length=n:=by rw [p.length_eq,T3,C0];omega
 have e:(T9 s2).toList=(T9 s1).toList.take lo++Z++((T9 s1).toList.drop lo).drop n:=L;refine⟨⟨ar.1.trans b.kind,ar.2.2.1.trans b.failed,?_,?_⟩,?_⟩
 ·rw [e];refine nC ?_ b.perm;have pp:=(p.append_left ((T9 s1).toList.take lo)).append_right (((T9 s1).toList.drop lo).drop n);rw [D5 _ (((T9 s1).toList.drop lo).take n),N2,N2] at pp;exact pp
 ·rw [ar.2.1];refine b.stk.same ?_;rw [e,D5,aE (by omega),T5 (l:=(T9 s1).toList.take lo) (by omega)]
 ·rw [e];unfold Ù;rw [D5,aD (by omega),E9 (by omega),O6,aE (by omega),T5 (by omega)];exact sr
def Bt.push {n:G8}{s:C9}(b:Bt R κ l0 lo s)(n1:1<=n)(g:Õ R (Ù (T9 s).toList lo n)):Bt R κ l0 (lo+n) (G0m s ((C6 s).push (lo,n,0))):=by
 refine⟨b.kind,b.failed,b.perm,?_⟩;show Ī R (T9 s).toList ((C6 s).push (lo,n,0)).toList 0 (lo+n);rw [V2];exact Ī.append.mpr ⟨lo,b.stk,rfl,n1,g,rfl⟩
theorem Ī.mod {f:G8×G8×G8->G8×G8×G8}(hf: ∀x,(f x).1=x.1/\(f x).2.1=x.2.1): ∀ {pl:G0 (G8×G8×G8)} {k s e:G8},Ī R l pl s e->Ī R l (pl.modify k f) s e
 | [],k,s,e,h=>by rw [List.modify_nil];exact h
 |(p,n,w)::rest,0,s,e,⟨a,b,c,d⟩=>by
  rw [List.modify_zero_cons];have e1:=(hf (p,n,w)).1;have e2:=(hf (p,n,w)).2;generalize f (p,n,w)=x at e1 e2;obtain⟨p',n',w'⟩:=x;dsimp only at e1 e2;subst e1 e2;exact⟨a,b,c,d⟩
 |(p,n,w)::rest,k+1,s,e,⟨a,b,c,d⟩=>by
  rw [List.modify_succ_cons];exact⟨a,b,c,d.mod hf⟩
def Bt.mod {k:G8}{s:C9}{f:G8×G8×G8->G8×G8×G8}(b:Bt R κ l0 lo s)(hf: ∀x,(f x).1=x.1/\(f x).2.1=x.2.1):Bt R κ l0 lo (G0m s ((C6 s).modify k f)):=by
 refine⟨b.kind,b.failed,b.perm,?_⟩;show Ī R (T9 s).toList ((C6 s).modify k f).toList 0 lo;rw [Array.toList_modify];exact b.stk.mod hf
def Ba (c:N0)(x:G8):(if c=true then x-1 else x)<=x:=by cases c<;>simp
def Lf {st:C9}{Q:Unit->C9->Prop}(ak:Vb prog w A J κ U R)(o:Ô U R)(u: ∀x∈l0,U x)(kd:kindOf st=κ)(hf:bW st=none)(hp:C6 st= #[])(hl:(T9 st).toList=l0)
 (q: ∀Ä,bW Ä=none->(T9 Ä).toList.Perm l0->Õ R (T9 Ä).toList->Q () Ä):Tm prog w A E J sortRuns' Q st:=by
 have b0:Bt R κ l0 0 st:=⟨kd,hf,by rw [hl],by rw [hp];rfl⟩;rw [sortRuns'_eq];refine .bind (.get ?_);dsimp only;rw [b0.size];generalize minRun' l0.length l0.length 0=mr;refine .bind (Tm.mono (Tm.range (λi c s1=>c.1=none/\c.2<=l0.length/\i<=c.2/\Bt R κ l0 c.2 s1) (Q:=λc s1=>c.1=none/\Bt R κ l0 l0.length s1) (N7 _) ⟨rfl,N7 _,N7 _,b0⟩ ?_ ?_) ?_)
 ·rintro i ⟨r,lo⟩ s1 hi ⟨hr,h1,h2,b⟩;dsimp only at hr h1 h2 b ⊢;subst hr
  by_cases z1:lo>=l0.length
  ·rw [R6 z1];have:lo=l0.length:=by omega
   subst this;exact .pure ⟨rfl,b⟩
  rw [R9 z1];have ln:(T9 s1).toList.length=l0.length:=b.perm.length_eq;have lP:((T9 s1).toList.take lo).length=lo:=by rw [T3];omega
  have lT:((T9 s1).toList.drop lo).length=l0.length-lo:=by rw [C0,ln]
  have uT: ∀x∈(T9 s1).toList.drop lo,U x:=λx hx=>u x (b.perm.mem_iff.mp (O3 hx))
  have ct:=λ{Q}=>NW (prog:=prog) (w:=w) (A:=A) (E:=E) (J:=J) (Q:=Q) (st:=s1) (P:=(T9 s1).toList.take lo) (T:=(T9 s1).toList.drop lo) ak b.kind o uT (by unfold â;rw [J8,N2]) (by omega)
  rw [lP,lT] at ct;refine .bind (ct λn s2 Z n1 n2 ar L p sr=> ?_);dsimp only
  by_cases z2:n<mr
  ·rw [R6 z2];have bn:=λ{Q}=>Es (prog:=prog) (w:=w) (A:=A) (E:=E) (J:=J) (Q:=Q) (st:=s2) (P:=(T9 s1).toList.take lo) (T:=(T9 s1).toList.drop lo) (n:=min (l0.length-lo) mr) ak (ar.1.trans b.kind) o uT L p sr n1 (by omega) (by omega)
   rw [lP] at bn;refine .bind (.rule (.bind (bn λs3 Z3 ar3 L3 p3 sr3=> ?_)));obtain⟨B,G⟩:=b.run h1 (ar.trans ar3) L3 p3 sr3 (by omega);have N1:1<=min (l0.length-lo) mr:=by omega
   rw [R9 (by decide)];refine .bind (.get ?_);split
   ·refine .bind (Tm.mono (Tm.range (λj c s4=>c.1=none/\Bt R κ l0 lo s4/\Õ R (Ù (T9 s4).toList lo (min (l0.length-lo) mr))) (Q:=λc s4=>c.1=none/\Bt R κ l0 lo s4/\Õ R (Ù (T9 s4).toList lo (min (l0.length-lo) mr))) (N7 _) ⟨rfl,B,G⟩ ?_ (λ_ _ h=>h)) ?_)
    ·rintro j ⟨r,c⟩ s4 hj ⟨hr,B4,G4⟩;dsimp only at hr ⊢;subst hr;refine .bind (.get ?_);split
     ·rename_i X1d heq;split
      ·exact .pure ⟨rfl,B4,G4⟩
      ·have two:(C6 s4).size>1:=kZ λz=>by rw [R9 z] at heq;cases heq
       refine .bind (Bt.merge ak o u B4 h1 (by omega) λs5 B5 _ dr=> ?_);refine .pure ⟨rfl,B5,?_⟩;unfold Ù at G4 ⊢;rw [dr];exact G4
     ·exact .pure ⟨rfl,B4,G4⟩
    ·rintro ⟨r,c⟩ s4 ⟨hr,B4,G4⟩;dsimp only at hr ⊢;subst hr;dsimp only;refine .bind (.modify (.bind (.modify (.pure ⟨rfl,?_,?_,Bt.push (Bt.mod B4 λx=>⟨rfl,rfl⟩) N1 G4⟩))))
     ·dsimp only;omega
     ·dsimp only;omega
   ·refine .bind (.modify (.pure ⟨rfl,?_,?_,Bt.push B N1 G⟩))
    ·dsimp only;omega
    ·dsimp only;omega
  ·rw [R9 z2];obtain⟨B,G⟩:=b.run h1 ar L p sr n2;have N1:=n1;refine .bind (.get ?_);split
   ·refine .bind (Tm.mono (Tm.range (λj c s4=>c.1=none/\Bt R κ l0 lo s4/\Õ R (Ù (T9 s4).toList lo (n))) (Q:=λc s4=>c.1=none/\Bt R κ l0 lo s4/\Õ R (Ù (T9 s4).toList lo (n))) (N7 _) ⟨rfl,B,G⟩ ?_ (λ_ _ h=>h)) ?_)
    ·rintro j ⟨r,c⟩ s4 hj ⟨hr,B4,G4⟩;dsimp only at hr ⊢;subst hr;refine .bind (.get ?_);split
     ·rename_i X1d heq;split
      ·exact .pure ⟨rfl,B4,G4⟩
      ·have two:(C6 s4).size>1:=kZ λz=>by rw [R9 z] at heq;cases heq
       refine .bind (Bt.merge ak o u B4 h1 (by omega) λs5 B5 _ dr=> ?_);refine .pure ⟨rfl,B5,?_⟩;unfold Ù at G4 ⊢;rw [dr];exact G4
     ·exact .pure ⟨rfl,B4,G4⟩
    ·rintro ⟨r,c⟩ s4 ⟨hr,B4,G4⟩;dsimp only at hr ⊢;subst hr;dsimp only;refine .bind (.modify (.bind (.modify (.pure ⟨rfl,?_,?_,Bt.push (Bt.mod B4 λx=>⟨rfl,rfl⟩) N1 G4⟩))))
     ·dsimp only;omega
     ·dsimp only;omega
   ·refine .bind (.modify (.pure ⟨rfl,?_,?_,Bt.push B N1 G⟩))
    ·dsimp only;omega
    ·dsimp only;omega
 ·rintro ⟨r,lo⟩ s1 ⟨hr,h1,h2,b⟩;dsimp only at hr h1 h2 b;have:lo=l0.length:=by omega
  subst this;exact⟨hr,b⟩
 ·rintro ⟨r,lo⟩ s1 ⟨hr,b⟩;dsimp only at hr ⊢;subst hr;dsimp only;have le0:=b.stk.le;have lp0:(C6 s1).toList.length=(C6 s1).size:=by simp
  refine .bind (Tm.mono (Tm.range (λj c s4=>c.1=none/\Bt R κ l0 l0.length s4/\(C6 s4).size+j<=l0.length) (Q:=λc s4=>c.1=none/\Bt R κ l0 l0.length s4/\(C6 s4).size<=1) (N7 _) ⟨rfl,b,by omega⟩ ?_ (λc s4 ⟨x,y,z⟩=>⟨x,y,by omega⟩)) ?_)
  ·rintro j ⟨r,c⟩ s4 hj ⟨hr,B4,z4⟩;dsimp only at hr ⊢;subst hr;refine .bind (.get ?_)
   by_cases c1:(C6 s4).size<=1
   ·rw [R6 c1];exact .pure ⟨rfl,B4,c1⟩
   rw [R9 c1];refine .bind (Bt.merge ak o u B4 (P2 _) (Q9 (Nat.add_le_add_right (Ba _ _) 1) (by omega)) λs5 B5 z5 _=> ?_);exact .pure ⟨rfl,B5,by omega⟩
  ·rintro ⟨r,c⟩ s4 ⟨hr,B4,z4⟩;dsimp only at hr ⊢;subst hr;refine .pure (q s4 B4.failed B4.perm ?_);have stk:=B4.stk;have ln:(T9 s4).toList.length=l0.length:=B4.perm.length_eq;have lp:(C6 s4).toList.length=(C6 s4).size:=by simp
   generalize (C6 s4).toList=pl at stk lp
   match pl,stk,lp with
   | [],e,_=>
    have:l0.length=0:=e.symm;have:(T9 s4).toList= []:=cF.mp (by omega);rw [this];exact .nil
   | [(p,n,_)],⟨e1,_,sr,e2⟩,_=>
    subst e1;have en:n=l0.length:=by have:0+n=l0.length:=e2;omega
    unfold Ù at sr;rw [j5,T5 (by omega)] at sr;exact sr
   |_::_::_,_,h=>simp only [D2] at h;omega
end
section
variable {prog:S6}{w:B3}{A:N4}{E:G2->G3->Prop}{s:G3}{κ:SortKind}{U:D9->Prop}{R:D9->D9->N0}
def Ce (s:G3)(a:P3)(h':L8):Prop:= ∀b o,b≠a->s.heap.get? b=some o->h'.get? b=some o
def Only (s:G3)(h':L8):G3->Prop:=λs'=> ∃tk,s'= {s with heap:=h',toks:=tk}
def Bb {M:qA}{α β:Type}{c:Prop}[Decidable c]{m m':Sem α}{F:α->Sem β}{Q:β->G3->Prop}(h:D8 M A ((if c then m else m') >>= F) Q E s):D8 M A (if c then m >>= F else m' >>= F) Q E s:=by
 by_cases z:c
 ·rw [R6 z] at h ⊢;exact h
 ·rw [R9 z] at h ⊢;exact h
def JV (vs:G0 G2):(vs.toArray.zip vs.toArray).toList=vs.map λv=>(v,v):=by
 rw [Array.toList_zip];show vs.zip vs=_
 induction vs with
 |nil=>rfl
 |cons v vs ih=>rw [bJ,ih,M0]
def Lg {R:G2×G2->G2×G2->N0}: ∀l:G0 G2,l.length<2->Õ R (l.map λv=>(v,v))
 | [],_=>lG
 | [_],_=>A9 _ _
def QZ {a:P3}{vs:G0 G2}{n:G8}{P:Fin->G3->Prop}(ho:s.heap.get? a=some (gI "list" vs.toArray n))(hz:vs.length<=sizeLine)
 (hk:2<=vs.length-> ∀h',Ce s a h'->D8 (R3 prog w) A (t8 vs.toArray) (λk s'=>k=κ/\Only s h' s') (λ_ _=>False) {s with heap:=h'})(ak: ∀h',Ce s a h'->Vb prog w A (Only s h') κ U R)(o:Ô U R)(u: ∀v∈vs,U (v,v))
 (q: ∀ (out:G0 G2) (c tk:G8) (h':L8),Ce s a h'->h'.get? a=some (gI "list" out.toArray c)->out.Perm vs->(out.map λv=>(v,v)).Pairwise (λx y=>R y x=false)->P (.done (.ret .none)) {s with heap:=h',toks:=tk}):
 D8 (R3 prog w) A (Builtin.«list.sort» ⟨[.ref a],[]⟩) P E s:=by
 have alt:=D0 ho;have sv:vs.toArray.size=vs.length:=D7 ..;rw [list_sort_plain];refine wpAny_bind (listItems_at ho rfl ?_);obtain⟨c1,ho1⟩: ∃c,(s.heap.update a (aL λ_=>(#[]:S5 G2))).get? a=some (gI "list" #[] c):=⟨_,sR ho λ_=> #[]⟩;refine wpAny_bind (u9 ho rfl ?_ (by rw [sv];exact hz) (N7 _));refine wpAny_bind (II ho1 rfl ?_);refine wpAny_bind (oF ?_ hz);refine wpAny_bind (pL ?_ (N7 _));refine O5 ?_;have past:Ce s a (((s.heap.update a (aL λ_=>(#[]:S5 G2))).push {cls:= .type "tuple",data:= .seq vs.toArray.toList.toArray}).push {cls:= .type "list",data:= .seq ([]:G0 G2).toArray}):=λb x ne e=>by
  refine G6 _ (G6 _ ?_);rw [o9 _ _ _ _ ne];exact e
 have ho3:=G6 ({cls:= .type "list",data:= .seq ([]:G0 G2).toArray}:Obj) (G6 ({cls:= .type "tuple",data:= .seq vs.toArray.toList.toArray}:Obj) ho1);revert past ho3;generalize ((s.heap.update a (aL λ_=>(#[]:S5 G2))).push ({cls:= .type "tuple",data:= .seq vs.toArray.toList.toArray}:Obj)).push ({cls:= .type "list",data:= .seq ([]:G0 G2).toArray}:Obj)=H3;intro past ho3;have kd:D8 (R3 prog w) A (if vs.toArray.size<2 then pure general' else t8 vs.toArray) (λk s0=>(2<=vs.length->k=κ)/\Only s H3 s0) (λ_ _=>False) {s with heap:=H3}:=by
  by_cases c:vs.toArray.size<2
  ·rw [R6 c];exact G9 ⟨λz=>by omega,s.toks,rfl⟩
  ·rw [R9 c];exact T7 (hk (by omega) H3 past) (λk s0 x=>⟨λ_=>x.1,x.2⟩) λ_ _ e=>e
 have rn: ∀k s0,(2<=vs.length->k=κ)->Only s H3 s0->D8 (R3 prog w) A ((if vs.toArray.size<2 then pure () else sortRuns':aC C9 Sem Unit).run (SortSt.mk' k (vs.toArray.zip vs.toArray) #[] 7 none)) (λr s'=>(bW r.2=none/\(T9 r.2).toList.Perm (vs.map λv=>(v,v))/\Õ R (T9 r.2).toList)/\Only s H3 s') E s0:=by
  intro k s0 ek j
  by_cases c:vs.toArray.size<2
  ·rw [R6 c,StateT.run_pure];refine G9 ⟨⟨rfl,?_,?_⟩,j⟩
   ·show (vs.toArray.zip vs.toArray).toList.Perm _;rw [JV]
   ·show Õ R (vs.toArray.zip vs.toArray).toList;rw [JV];rw [sv] at c;exact Lg vs c
  ·rw [R9 c];have ek:=ek (by omega);subst ek;refine Lf (E:=E) (ak H3 past) o (l0:=vs.map λv=>(v,v)) (st:=SortSt.mk' k (vs.toArray.zip vs.toArray) #[] 7 none) (λx hx=> ?_) rfl rfl rfl (JV vs) (Q:=λ_ Ä=>bW Ä=none/\(T9 Ä).toList.Perm (vs.map λv=>(v,v))/\Õ R (T9 Ä).toList) (λÄ a1 a2 a3=>⟨a1,a2,a3⟩) s0 j;obtain⟨v,hv,rfl⟩:=R7.mp hx;exact u v hv
 dsimp only;refine Bb (wpAny_bind (T7 kd (λk s0 x=> ?_) λ_ _ e=>e.elim));refine wpAny_bind (T7 (rn k s0 x.1 x.2) ?_ λ_ _ e=>e);rintro ⟨⟨⟩,Ä⟩ s1 ⟨⟨hf,hp,hs⟩,tk,rfl⟩;dsimp only;have eo:((T9 Ä).map λx=>x.2)=((T9 Ä).toList.map λx=>x.2).toArray:=by
  rw [<-rP,Array.toArray_toList]
 have two:(T9 Ä).toList=((T9 Ä).toList.map λx=>x.2).map λv=>(v,v):=by
  rw [M7];refine(hO _).symm.trans (B2 λx hx=> ?_);obtain⟨v,_,rfl⟩:=R7.mp (hp.mem_iff.mp hx);rfl
 have po:((T9 Ä).toList.map λx=>x.2).Perm vs:=by
  have:=hp.map λx=>x.2
  rw [M7] at this;refine this.trans ?_;rw [show ((λx:D9=>x.2)∘λv:G2=>(v,v))=id from rfl,hO]
 rw [two] at hs;rw [eo];generalize (T9 Ä).toList.map (λx=>x.2)=out at hs po;obtain⟨c2,ho4⟩: ∃c,(H3.update a (aL λ_=>out.toArray)).get? a=some (gI "list" out.toArray c):=⟨_,sR ho3 λ_=>out.toArray⟩;refine wpAny_bind (II (s:= {s with heap:=H3,toks:=tk}) ho3 rfl ?_);refine wpAny_bind (u9 (s:= {s with heap:=H3,toks:=tk}) ho3 rfl ?_ (N7 _) (by rw [D7,po.length_eq];exact qW hz));rw [hf];simp only [bne_self_eq_false,F9,mC];refine G9 (q out c2 tk _ (λb x ne e=> ?_) ho4 po hs);rw [o9 _ _ _ _ ne];exact past b x ne e
abbrev WO (h h':L8):Prop:= ∀b o,h.get? b=some o->h'.get? b=some o
end
theorem JX: ∀a b:G0 P4,zK a b=true->zK b a=false
 | [],[],h=>rfl
 | [],_::_,_=>rfl
 |_::_,[],h=>by cases h
 |x::xs,y::ys,h=>by
  unfold zK at h ⊢
  by_cases e:x=y
  ·subst e;rw [R6 rfl] at h ⊢;exact JX xs ys h
  ·rw [R9 e] at h;rw [R9 (E7 e)];have:=A7 h;exact B7 (by omega)
theorem Uo: ∀a b c:G0 P4,zK a c=true->zK a b=true\/zK b c=true
 | [],[],c,h=> .inr h
 | [],_::_,_,_=> .inl rfl
 |_::_,_,[],h=>by cases h
 |x::xs,[],z::zs,h=> .inr rfl
 |x::xs,y::ys,z::zs,h=>by
  unfold zK at h ⊢
  by_cases e:x=z
  ·subst e;rw [R6 rfl] at h
   by_cases f:x=y
   ·subst f;rw [R6 rfl,R6 rfl];exact Uo xs ys zs h
   ·rw [R9 f,R9 (E7 f)]
    by_cases g:x<y
    ·exact .inl (M1 g)
    ·exact .inr (M1 (by omega))
  ·rw [R9 e] at h;have lt:=A7 h
   by_cases f:x=y
   ·subst f;rw [R9 e];exact .inr h
   ·rw [R9 f]
    by_cases g:x<y
    ·exact .inl (M1 g)
    ·refine .inr ?_;rw [R9 (by omega)];exact M1 (by omega)
theorem Wn: ∀a b:G0 P4,zK a b=false->zK b a=false->a=b
 | [],[],_,_=>rfl
 | [],_::_,h,_=>by cases h
 |_::_,[],_,h=>by cases h
 |x::xs,y::ys,h,h'=>by
  unfold zK at h h'
  by_cases e:x=y
  ·subst e;rw [R6 rfl] at h h';rw [Wn xs ys h h']
  ·rw [R9 e] at h;rw [R9 (E7 e)] at h';have:=j9 h;have:=j9 h';omega
end HT
namespace L2
open PySem PySem.Spec PyProof.Rows PySem.SeqAt HT
theorem Wo {α β:Type}{f:α->β}: ∀ {out:G0 β} {l:G0 α},out.Perm (l.map f)-> ∃l':G0 α,l'.Perm l/\l'.map f=out
 | [],l,p=>by
  have e:=p.length_eq;rw [G1,N8] at e;exact⟨[],by rw [V4 e.symm],rfl⟩
 |x::out,l,p=>by
  obtain⟨y,hy,rfl⟩:=R7.mp (p.mem_iff.mp D3);obtain⟨l1,l2,rfl⟩:=List.append_of_mem hy;have p2:out.Perm ((l1++l2).map f):=by
   refine G0n (a:=f y) (p.trans ?_);rw [T6,T6,M0];exact mF
  obtain⟨l',a,b⟩:=Wo p2;exact⟨y::l',(a.cons y).trans mF.symm,by rw [M0,b]⟩
noncomputable abbrev tI (ns:G0 P4):D:= .tup (ns.map D.int)
noncomputable abbrev toI (S:G0 G8):G0 P4:=S.map λ(k:G8)=>(k:P4)
noncomputable def leS (a b:G0 G8):N0:= !HT.zK (toI b) (toI a)
noncomputable def Et (l:G0 (G0 G8)):G0 (G0 G8):=l.mergeSort leS
def GY (l:G0 (G0 G8)):(Et l).Perm l:=List.mergeSort_perm _ _
end L2
namespace L2
open PySem PySem.Spec PyProof.Rows PySem.SeqAt
def Bc {h h':HD}{a:P3}(sb:Sub h h')(e:h' a=none):h a=none:=by
 cases z:h a with
 |none=>rfl
 |some ds=>rw [sb a ds z] at e;cases e
def Sub.over {h h':HD}{a:P3}{ds:G0 D}(sb:Sub h h')(e:h a=none):Sub h (zm h' a ds):=⟨λb xs k=>jf (λz=>by subst z;rw [e] at k;cases k) (sb b xs k),sb.dc⟩
noncomputable def wk (T:G0 (G0 P4)):G8->G8->G8->N0
 |0,i,j=>decide (i=j)|| !decide (á T i j=0)
 |b+1,i,j=>wk T b i j||(wk T b i b&&wk T b b j)
theorem Xz (T:G0 (G0 P4)): ∀b i,wk T b i i=true
 |0,i=>by unfold wk;rw [M1 rfl];rfl
 |b+1,i=>by unfold wk;rw [Xz T b i];rfl
def Eu (T:G0 (G0 P4))(b i:G8):wk T (b+1) i b=wk T b i b:=by
 show (wk T b i b||(wk T b i b&&wk T b b b))=_;cases wk T b i b<;>rfl
def Ev (T:G0 (G0 P4))(b j:G8):wk T (b+1) b j=wk T b b j:=by
 show (wk T b b j||(wk T b b b&&wk T b b j))=_;cases wk T b b j<;>cases wk T b b b<;>rfl
variable {T:G0 (G0 P4)}
def Ě {b i j:G8}:wk T (b+1) i j=true↔wk T b i j=true\/(wk T b i b=true/\wk T b b j=true):=by
 show (wk T b i j||(wk T b i b&&wk T b b j))=true↔_;rw [fB,N9]
theorem yl: ∀ {b i k j:G8},k<b->wk T b i k=true->wk T b k j=true->wk T b i j=true
 |b+1,i,k,j,hk,x,y=>by
  by_cases e:k=b
  ·subst e;rw [Eu] at x;rw [Ev] at y;exact Ě.mpr (.inr ⟨x,y⟩)
  ·have lt:k<b:=by omega
   rcases Ě.mp x with x|⟨x1,x2⟩
   ·rcases Ě.mp y with y|⟨y1,y2⟩
    ·exact Ě.mpr (.inl (yl lt x y))
    ·exact Ě.mpr (.inr ⟨yl lt x y1,y2⟩)
   ·rcases Ě.mp y with y|⟨y1,y2⟩
    ·exact Ě.mpr (.inr ⟨x1,yl lt x2 y⟩)
    ·exact Ě.mpr (.inr ⟨x1,y2⟩)
theorem ZJ {P:G8->G8->Prop}(r: ∀i,P i i)(a: ∀i j,á T i j≠0->P i j)(t: ∀i k j,P i k->P k j->P i j): ∀ {b i j:G8},wk T b i j=true->P i j
 |0,i,j,h=>by
  have h:(decide (i=j)|| !decide (á T i j=0))=true:=h;rw [fB] at h;rcases h with h|h
  ·rw [A7 h];exact r j
  ·exact a i j λz=>by rw [M1 z] at h;cases h
 |b+1,i,j,h=>by
  rcases Ě.mp h with h|⟨h1,h2⟩
  ·exact ZJ r a t h
  ·exact t _ _ _ (ZJ r a t h1) (ZJ r a t h2)
def Lh {n e:G8}(h:Sq n e T)(i j:G8)(z:á T i j≠0):j<n:=by
 by_cases hj:j<n
 ·exact hj
 ·exfalso;apply z;unfold á
  by_cases hi:i<T.length
  ·have hr:=h.row (T.getD i []) (by rw [R4,G5 hi];exact N6 hi);rw [R4,A2 (by rw [hr];omega)];rfl
  ·rw [R4 (l:=T),A2 (by omega)];rfl
noncomputable def fW (T:G0 (G0 P4))(b i j x y:G8):N0:=if x<i\/(x=i/\y<j) then wk T (b+1) x y else wk T b x y
noncomputable def HY (g:G8->G8->N0)(w:G0 G8)(j:G8):N0:=g (w.getLastD 0) j&&(decide (w.headD 0<j)&& !decide (j∈w))
noncomputable def KQ (g:G8->G8->N0)(n:G8)(w:G0 G8):G0 (G0 G8):=((D6 n).filter (HY g w)).map λj=>w++ [j]
noncomputable def lev (g:G8->G8->N0)(n:G8):G8->G0 (G0 G8)
 |0=>(D6 n).map λi=> [i]
 |t+1=>(lev g n t).flatMap (KQ g n)
noncomputable def TU (g:G8->G8->N0)(n:G8):G8->G0 (G0 G8)
 |0=> []
 |t+1=>TU g n t++(lev g n t).filter λw=>g (w.getLastD 0) (w.headD 0)
noncomputable def HZ (T:G0 (G0 P4))(i j:G8):N0:=decide (á T i j>0)
noncomputable def Ga (T:G0 (G0 P4))(n:G8):G0 (G0 G8):=Et (TU (HZ T) n n)
def ŗ {w:G0 G8}{t:G8}(h:w.length=t+1):Ģ (w.map λ(k:G8)=>D.int (k:P4)) (-1)=some (.int ((w.getLastD 0:G8):P4)):=by
 refine NO (by rw [G1];omega) ?_;rw [G1,P7,dW,dX,G5 (by omega)];rfl
def Rz {α β:Type}(f:α->G0 β){xs:G0 α}{k:G8}{x:α}(h:xs[k]? =some x):(xs.take (k+1)).flatMap f=(xs.take k).flatMap f++f x:=by
 rw [L6,h,b9];simp
def RA {α β:Type}(p:α->N0)(g:α->β){xs:G0 α}{k:G8}{x:α}(h:xs[k]? =some x):((xs.take (k+1)).filter p).map g=((xs.take k).filter p).map g++if p x=true then [g x] else []:=by
 rw [L6,h,List.filter_append,T6]
 congr 1
 by_cases c:p x=true
 ·rw [R6 c];simp [c]
 ·rw [R9 c];simp [c]
def Zq {α β:Type}(f:α->G0 β)(xs:G0 α)(k:G8):((xs.take k).flatMap f).length<=(xs.flatMap f).length:=by
 conv=>rhs;rw [<-N2 k xs,b9,P1]
 omega
section
variable {α β:Type}{i i':G8}{js:G0 G8}{ti İ:TID}{Ŀ:TTD}{te:TED}{σ:SD}{h:HD}{Q:KD}{j:ItD}
def Ew (xs:G0 α)(c:α->D)(ys:α->G0 β)(c':β->D)(p:α->β->N0)(g:α->β->D)(hz:(xs.flatMap λx=>((ys x).filter (p x)).map (g x)).length<=sizeLine)(hj: ∀h',Sub h h'->j h'=some (xs.map c))(ht: ∀R:ItD->HD->Prop,R j h->ti σ h R)
 (hin: ∀x∈xs,∀h',Sub h h'-> ∀R:ItD->HD->Prop,(∀j' h2,Sub h' h2->(∀h3,Sub h2 h3->j' h3=some ((ys x).map c'))->R j' h2)->İ ((jM js σ).set i (some (c x))) h' R)
 (hp: ∀x∈xs,∀y∈ys x,∀h',Sub h h'-> ∀Q':N0->HD->Prop,Q' (p x y) h'->Ŀ (((jM js σ).set i (some (c x))).set i' (some (c' y))) h' Q')
 (he: ∀x∈xs,∀y∈ys x,p x y=true-> ∀h',Sub h h'-> ∀Q':KD,Q' (g x y) h'->te (((jM js σ).set i (some (c x))).set i' (some (c' y))) h' Q')
 (hq: ∀a h',Sub h h'->h' a=none->Q (.lst a) (zm h' a (xs.flatMap λx=>((ys x).filter (p x)).map (g x)))):Nl (bN i) js ti vj i' İ Ŀ te σ h Q:=by
 refine ht _ ⟨xs.length,λk zs h'=>Sub h h'/\zs=(xs.take k).flatMap λx=>((ys x).filter (p x)).map (g x),⟨Sub.refl h,rfl⟩,?_⟩;rintro k zs h1 ⟨s1,rfl⟩;refine⟨R1 (Zq _ xs k) hz,xs.map c,hj h1 s1,by rw [G1];exact P2 _,λhl a ha=> ?_,λd hd=> ?_⟩
 ·rw [G1] at hl;rw [T5 hl];exact hq a h1 s1 ha
 rw [P7] at hd;cases ex:xs[k]? with
 |none=>rw [ex] at hd;cases hd
 |some x=>
  rw [ex] at hd;injection hd with hd
  subst hd;have mx:=P6 ex;refine⟨_,rfl,?_⟩;unfold vj;refine vt ?_;refine hin x mx h1 s1 _ λj' h2 s2 hj'=>⟨(ys x).length,λm zs h'=>Sub h2 h'/\zs=((xs.take k).flatMap λx=>((ys x).filter (p x)).map (g x))++(((ys x).take m).filter (p x)).map (g x),⟨Sub.refl h2,by simp⟩,?_⟩
  rintro m zs h3 ⟨s3,rfl⟩;have s03:Sub h h3:=(s1.trans s2).trans s3;have tk:=Rz (λx=>((ys x).filter (p x)).map (g x)) ex;refine⟨?_,(ys x).map c',hj' h3 s3,by rw [G1];exact P2 _,λhl=> ?_,λd hd=> ?_⟩
  ·refine R1 ?_ (R1 (Zq (λx=>((ys x).filter (p x)).map (g x)) xs (k+1)) hz);rw [tk,P1,P1,G1,G1];have:=(V1 m (ys x)).filter (p x) |>.length_le;omega
  ·rw [G1] at hl;refine⟨h3,Sub.refl _,s03,?_⟩;rw [tk,T5 hl]
  ·rw [P7] at hd;cases ey:(ys x)[m]? with
   |none=>rw [ey] at hd;cases hd
   |some y=>
    rw [ey] at hd;injection hd with hd
    subst hd;have my:=P6 ey;have tf:=RA (p x) (g x) ey;refine hp x mx y my h3 s03 _ ?_
    by_cases cp:p x y=true
    ·rw [R6 cp] at tf ⊢;refine he x mx y my cp h3 s03 _ ⟨h3,Sub.refl _,s3,?_⟩;rw [tf,D5]
    ·rw [R9 cp] at tf ⊢;refine⟨h3,Sub.refl _,s3,?_⟩;rw [tf,J8]
end
def X1X:Enc wN PB:=⟨Rf,λS=>JQ _,λS=>R1 (Wg _) (by decide),Lb⟩
theorem Yu: ∀P:G0 (G0 G8),C4 (P.map PB)<=3
 | []=>by simp [C4]
 |S::P=>by
  have:=Yu P;have h2:A1 (PB S)<=2:=Wg _;simp only [M0,C4];omega
def XA (P:G0 (G0 G8)):shaped (.list (P.map PB))=true:=by
 unfold shaped;have h1:L7 (.list (P.map PB))=true:=by simp only [L7];exact X1X.lays P
 have h2:=Yu P;have h3:A1 (.list (P.map PB))<=64:=by simp only [A1];omega
 rw [h1,M1 h3];rfl
end L2
namespace HT
open PySem PySem.Spec PyProof.Rows PySem.SeqAt
open PySem.AutoSeq1 (wpAny_loadPart')
open PySem.MeetsSeq PySem.MeetsSeq2 PySem.MeetsSeq3
inductive Lx (prog:S6)(w:B3)(A:N4)(s:G3):G0 G2->G0 G2->N0->Prop
 |nn:Lx prog w A s [] [] false
 |nc (u:G2) (us:G0 G2):Lx prog w A s [] (u::us) true
 |cn (v:G2) (vs:G0 G2):Lx prog w A s (v::vs) [] false
 |same {v u:G2} {vs us:G0 G2} {b:N0} (e:EqAt A s v u true) (t:Lx prog w A s vs us b):Lx prog w A s (v::vs) (u::us) b
 |unlike {v u:G2} {vs us:G0 G2} {b:N0} (e:EqAt A s v u false) (t: ∀ (Q E:G2->G3->Prop),Q (.bool b) s->D8 (R3 prog w) A (lI .Lt v u) Q E s):Lx prog w A s (v::vs) (u::us) b
def Lx.short {prog:S6}{w:B3}{A:N4}{s:G3}{vs us:G0 G2}{b:N0}{m n:G8}(t:Lx prog w A s vs us b)(z:vs.zip us= [])(l:vs.length+n=us.length+m):b=decide (m<n):=by
 cases t with
 |nn=>rw [N8] at l;exact(B7 (by omega)).symm
 |nc u us=>rw [N8,D2] at l;exact(M1 (by omega)).symm
 |cn v vs=>rw [N8,D2] at l;exact(B7 (by omega)).symm
 |same e t=>rw [bJ] at z;cases z
 |unlike e t=>rw [bJ] at z;cases z
def Up (l b:P3)(items Ì:S5 G2)(n n2:G8)(dd ž:P9 P3)(sl Α:S5 (P9 G2))(r:N0):
 Meets (Builtin.«tuple.__lt__» ⟨[.ref l,.ref b],[]⟩)
  (λA R s=>s.heap.get? l=some {cls:= .type "tuple",dict:=dd,data:= .seq items n,slots:=sl}/\s.heap.get? b=some {cls:= .type "tuple",dict:=ž,data:= .seq Ì n2,slots:=Α}/\
   (∀prog w,Lx prog w A.in1 s items.toList Ì.toList r)/\R (.ok (.ret (.bool r))) s):=
 .of_wp λprog w A R s h=>by
  obtain⟨hp,g,d,tk,os⟩:=s;obtain⟨hl,hb,ht,h⟩:=h;have f2:=AutoSeq1.sub_tuple_tuple
  wp_walk using C8 hl,C8 hb,wpAny_forIn_list _ (λrest b s'=>b.1=none/\s'=⟨hp,g,d,tk,os⟩/\ ∃ (vs us:G0 G2),rest=vs.zip us/\Lx prog w A.in1 ⟨hp,g,d,tk,os⟩ vs us r/\vs.length+Ì.size=us.length+items.size) _
  case turn=>
   rintro ⟨y,x⟩ rest b s' ⟨ζ,rfl,vs,us,hz,t,hlen⟩;cases t with
   |nn=>cases hz
   |nc u us=>cases hz
   |cn v vs=>cases hz
   |same e t=>
    rw [bJ] at hz;injection hz with hyx X0B
    injection hyx with hy hx
    subst hy hx;simp only [D2] at hlen;refine wpAny_bind (e prog w _ _ ?_)
    wp_walk
    exact⟨rfl,rfl,_,_,X0B,t,by omega⟩
   |unlike e t=>
    rw [bJ] at hz;injection hz with hyx X0B
    injection hyx with hy hx
    subst hy hx;refine wpAny_bind (e prog w _ _ ?_);have hri:=λ{Q E:G2->G3->Prop}=>t Q E
    wp_walk using hri
    exact⟨_,rfl,by simpa using h⟩
  case fin=>
   rintro ⟨b1,b2⟩ s' ⟨ζ,rfl,vs,us,hz,t,hlen⟩;simp only at ζ;subst ζ;have hv:=t.short hz.symm hlen;rw [hv] at h
   wp_walk
   exact⟨_,rfl,by simpa [rB] using h⟩
  case h=>
   exact⟨rfl,rfl,items.toList,Ì.toList,rfl,ht prog w,by rw [P8,P8];omega⟩
def Wp {α:Type}{p vs:G0 α}{x:α}{items:S5 α}(e:items.toList=p++x::vs){i:G8}(l:p.length=i):items[((i:G8):P4).toNat]? =some x:=by
 rw [K2,<-M9,e,<-l];simp
def ŗ {α:Type}{p:G0 α}{items:S5 α}(e:items.toList=p){i:G8}(l:p.length=i):items[((i:G8):P4).toNat]? =none:=by
 rw [K2,<-M9,e,<-l];simp
section
variable {prog:S6}{w:B3}{A:N4}{R:n6->G3->Prop}{s:G3}{l b:P3}{items Ì:S5 G2}{n n2:G8}{dd ž:P9 P3}{sl Α:S5 (P9 G2)}{r:N0}
def Vc (hl:s.heap.get? l=some {cls:= .type "list",dict:=dd,data:= .seq items n,slots:=sl})(hb:s.heap.get? b=some {cls:= .type "list",dict:=ž,data:= .seq Ì n2,slots:=Α})(h:R (.ok (.ret (.bool r))) s):
 ∀ {vs us:G0 G2},Lx prog w A.in1 s vs us r-> ∀ (i:G8) (p q:G0 G2),items.toList=p++vs->Ì.toList=q++us->p.length=i->q.length=i->
  D8 (R3 prog w) A.in1 (Builtin.«list.__eq__.loop» ⟨[.ref l,.ref b,K4 i,K4 0],[]⟩) (λfin s'=>match fin with| .done f=>R (.ok f) s'| .again c'=>c'.quiet=true/\bR (R3 prog w) A c' R s') (λe s'=>R (.error e) s') s:=by
 intro vs us t;obtain⟨hp,g,d,tk,os⟩:=s
 induction t with
 |nn=>
  intro i p q e1 e2 l1 l2;rw [J8] at e1 e2;have z1:items.size=i:=by rw [<-P8,e1];exact l1
  have z2:Ì.size=i:=by rw [<-P8,e2];exact l2
  wp_walk using C8 hl,C8 hb
  rw [ŗ e1 l1]
  wp_walk using C8 hl,C8 hb
  show R (.ok (.ret (.bool (decide (items.size<Ì.size))))) _;rw [z1,z2,show decide (i<i)=false from B7 (C1 _)];exact h
 |nc u us=>
  intro i p q e1 e2 l1 l2;rw [J8] at e1;have z1:items.size=i:=by rw [<-P8,e1];exact l1
  have z2:i<Ì.size:=by rw [<-P8,e2,P1,l2,D2];omega
  wp_walk using C8 hl,C8 hb
  rw [ŗ e1 l1]
  wp_walk using C8 hl,C8 hb
  show R (.ok (.ret (.bool (decide (items.size<Ì.size))))) _;rw [z1,show decide (i<Ì.size)=true from M1 z2];exact h
 |cn v vs=>
  intro i p q e1 e2 l1 l2;rw [J8] at e2;have z1:i<items.size:=by rw [<-P8,e1,P1,l1,D2];omega
  have z2:Ì.size=i:=by rw [<-P8,e2];exact l2
  wp_walk using C8 hl,C8 hb
  rw [Wp e1 l1,ŗ e2 l2]
  wp_walk using C8 hl,C8 hb
  show R (.ok (.ret (.bool (decide (items.size<Ì.size))))) _;rw [z2,show decide (items.size<i)=false from B7 (by omega)];exact h
 | @same v u vs us b0 e t ih=>
  intro i p q e1 e2 l1 l2
  wp_walk using C8 hl,C8 hb
  rw [Wp e1 l1,Wp e2 l2];refine wpAny_bind (e prog w _ _ ?_)
  wp_walk
  rw [show ((i:P4)+1)=((i+1:G8):P4) by omega];exact⟨e9 plain_eq_loop _,Y6 entry_eq_loop (by
   rw [aB plain_eq_loop _];exact ih h (i+1) (p++ [v]) (q++ [u]) (by rw [e1,D5];rfl) (by rw [e2,D5];rfl) (by rw [P1,l1];rfl) (by rw [P1,l2];rfl))⟩
 | @unlike v u vs us b0 e t=>
  intro i p q e1 e2 l1 l2
  wp_walk using C8 hl,C8 hb
  rw [Wp e1 l1,Wp e2 l2];refine wpAny_bind (e prog w _ _ ?_);have hri:=λ{Q E:G2->G3->Prop}=>t Q E
  wp_walk using C8 hl,C8 hb
  rw [Wp e1 l1,Wp e2 l2]
  wp_walk using hri
  exact h
end
def XB (l b:P3)(items Ì:S5 G2)(n n2:G8)(dd ž:P9 P3)(sl Α:S5 (P9 G2))(r:N0):
 Meets (Builtin.«list.__lt__» ⟨[.ref l,.ref b],[]⟩)
  (λA R s=>s.heap.get? l=some {cls:= .type "list",dict:=dd,data:= .seq items n,slots:=sl}/\s.heap.get? b=some {cls:= .type "list",dict:=ž,data:= .seq Ì n2,slots:=Α}/\
   (∀prog w,Lx prog w A.in1 s items.toList Ì.toList r)/\R (.ok (.ret (.bool r))) s):=by
 intro prog w A R s h;obtain⟨hl,hb,ht,h⟩:=h;have f3:=AutoSeq1.sub_list_list;have fin:=Vc (prog:=prog) (w:=w) (A:=A) hl hb h (ht prog w) 0 [] [] rfl rfl rfl rfl;obtain⟨hp,g,d,tk,os⟩:=s
 wp_walk using C8 hl,C8 hb
 exact⟨e9 plain_eq_loop _,Y6 entry_eq_loop (by
  rw [aB plain_eq_loop _];exact fin)⟩
end HT
namespace HT
open PySem PySem.Spec PyProof.Rows PySem.SeqAt
mutual
/-- may they be compared? -/
def alk:W6->W6->N0
 | .int _,.int _=>true
 | .tuple xs,.tuple ys=>alks xs ys
 | .list xs,.list ys=>alks xs ys
 |_,_=>false
def alks:G0 W6->G0 W6->N0
 |x::xs,y::ys=>alk x y&&alks xs ys
 |_,_=>true
end
mutual
def ltP:W6->W6->N0
 | .int i,.int j=>decide (i<j)
 | .tuple xs,.tuple ys=>ltPs xs ys
 | .list xs,.list ys=>ltPs xs ys
 |_,_=>false
def ltPs:G0 W6->G0 W6->N0
 | [],[]=>false
 | [],_::_=>true
 |_::_,[]=>false
 |x::xs,y::ys=>if Q0 x y=true then ltPs xs ys else ltP x y
end
def Li {prog:S6}{w:B3}{A:N4}{E:G2->G3->Prop}{s:G3}{l b:P3}{o o2:Obj}{items Ì:S5 G2}{n n2:G8}{r:N0}{Q:G2->G3->Prop}(e1:s.heap.get? l=some o)(c1:o.cls= .type "tuple")(d1:o.data= .seq items n)(e2:s.heap.get? b=some o2)(c2:o2.cls= .type "tuple")(d2:o2.data= .seq Ì n2)
 (t: ∀prog w,Lx prog w A.in1 s items.toList Ì.toList r)(hu:A.units<cLine)(q:Q (.bool r) s):D8 (R3 prog w) A (lI .Lt (.ref l) (.ref b)) Q E s:=by
 obtain⟨cls,dd,data,sl⟩:=o;obtain⟨X0Q,ž,G0Q,Α⟩:=o2;simp only at c1 d1 c2 d2;subst c1 d1 c2 d2;have g:=Up l b items Ì n n2 dd ž sl Α r;refine mU (op:= .Lt) ⟨_,e1,rfl⟩ ⟨_,e2,rfl⟩ xZ xR (xF _ _) g ?_ hu;refine⟨e1,e2,t,?_⟩;exact And.intro (by intro x;cases x) q
def Bd {prog:S6}{w:B3}{A:N4}{E:G2->G3->Prop}{s:G3}{l b:P3}{o o2:Obj}{items Ì:S5 G2}{n n2:G8}{r:N0}{Q:G2->G3->Prop}(e1:s.heap.get? l=some o)(c1:o.cls= .type "list")(d1:o.data= .seq items n)(e2:s.heap.get? b=some o2)(c2:o2.cls= .type "list")(d2:o2.data= .seq Ì n2)
 (t: ∀prog w,Lx prog w A.in1 s items.toList Ì.toList r)(hu:A.units<cLine)(q:Q (.bool r) s):D8 (R3 prog w) A (lI .Lt (.ref l) (.ref b)) Q E s:=by
 obtain⟨cls,dd,data,sl⟩:=o;obtain⟨X0Q,ž,G0Q,Α⟩:=o2;simp only at c1 d1 c2 d2;subst c1 d1 c2 d2;have g:=XB l b items Ì n n2 dd ž sl Α r;refine mU (op:= .Lt) ⟨_,e1,rfl⟩ ⟨_,e2,rfl⟩ IJ x3 (xS _ _) g ?_ hu;refine⟨e1,e2,t,?_⟩;exact And.intro (by intro x;cases x) q
mutual
theorem Vd: ∀ (p q:W6) (A:N4) (s:G3) (v u:G2) (as bs:G0 P3),Reads s.heap v p as->Reads s.heap u q bs->p.canLay0=true->q.canLay0=true->alk p q=true->A.units+p.depth<cLine->
 ∀ (prog:S6) (w:B3) (Q E:G2->G3->Prop),Q (.bool (ltP p q)) s->D8 (R3 prog w) A (lI .Lt v u) Q E s
 | .int i,q,A,s,v,u,as,bs,rp,rq,c1,c2,al,hu,prog,w,Q,E,h=>by
  cases q with
  |int j=>
   cases rp;cases rq;exact(IT h:D8 (R3 prog w) A (H0 .Lt (.int i _) (.int j _)) Q E s)
  |none=>cases al
  |bool _=>cases al
  |str _=>cases al
  |list _=>cases al
  |tuple _=>cases al
  |dict _=>cases al
 | .tuple xs,q,A,s,v,u,as,bs,rp,rq,c1,c2,al,hu,prog,w,Q,E,h=>by
  cases q with
  |tuple ys=>
   cases rp with
   |tuple e1 k1 d1 r1=>
    cases rq with
    |tuple e2 k2 d2 r2=>
     have c1':A0 xs=true:=by simpa only [L7] using c1
     have c2':A0 ys=true:=by simpa only [L7] using c2
     have du:A.units+(C4 xs+1)<cLine:=by simpa only [A1] using hu
     exact Li e1 k1 d1 e2 k2 d2 (λprog w=>Ľ xs ys A.in1 s _ _ _ _ r1 r2 c1' c2' al (by show A.units+1+_<_;omega) prog w) (by omega) h
  |none=>cases al
  |bool _=>cases al
  |str _=>cases al
  |list _=>cases al
  |int _=>cases al
  |dict _=>cases al
 | .none,q,A,s,v,u,as,bs,rp,rq,c1,c2,al,hu,prog,w,Q,E,h=>by cases al
 | .bool _,q,A,s,v,u,as,bs,rp,rq,c1,c2,al,hu,prog,w,Q,E,h=>by cases al
 | .str _,q,A,s,v,u,as,bs,rp,rq,c1,c2,al,hu,prog,w,Q,E,h=>by cases al
 | .list xs,q,A,s,v,u,as,bs,rp,rq,c1,c2,al,hu,prog,w,Q,E,h=>by
  cases q with
  |list ys=>
   cases rp with
   |list e1 k1 d1 r1=>
    cases rq with
    |list e2 k2 d2 r2=>
     have c1':A0 xs=true:=by simpa only [L7] using c1
     have c2':A0 ys=true:=by simpa only [L7] using c2
     have du:A.units+(C4 xs+1)<cLine:=by simpa only [A1] using hu
     exact Bd e1 k1 d1 e2 k2 d2 (λprog w=>Ľ xs ys A.in1 s _ _ _ _ r1 r2 c1' c2' al (by show A.units+1+_<_;omega) prog w) (by omega) h
  |none=>cases al
  |bool _=>cases al
  |str _=>cases al
  |tuple _=>cases al
  |int _=>cases al
  |dict _=>cases al
 | .dict _,q,A,s,v,u,as,bs,rp,rq,c1,c2,al,hu,prog,w,Q,E,h=>by cases al
theorem Ľ: ∀ (xs ys:G0 W6) (A:N4) (s:G3) (vs us:G0 G2) (as bs:G0 P3),ReadsAll s.heap vs xs as->ReadsAll s.heap us ys bs->A0 xs=true->A0 ys=true->alks xs ys=true->A.units+C4 xs<cLine->
 ∀ (prog:S6) (w:B3),Lx prog w A s vs us (ltPs xs ys)
 | [],[],A,s,vs,us,as,bs,ra,rb,_,_,_,_,prog,w=>by
  cases ra;cases rb;exact .nn
 | [],y::ys,A,s,vs,us,as,bs,ra,rb,_,_,_,_,prog,w=>by
  cases ra;cases rb with
  |cons r rs=>exact .nc _ _
 |x::xs,[],A,s,vs,us,as,bs,ra,rb,_,_,_,_,prog,w=>by
  cases rb;cases ra with
  |cons r rs=>exact .cn _ _
 |x::xs,y::ys,A,s,vs,us,as,bs,ra,rb,c1,c2,al,hu,prog,w=>by
  cases ra with
  |cons r rs=>
   cases rb with
   |cons r' rs'=>
    have d1:x.canLay0=true/\A0 xs=true:=by simpa [A0] using c1
    have d2:y.canLay0=true/\A0 ys=true:=by simpa [A0] using c2
    have al':alk x y=true/\alks xs ys=true:=by simpa [alks] using al
    have dx:A.units+x.depth<cLine/\A.units+C4 xs<cLine:=by simp only [C4] at hu;omega
    have eq:=eqAt_reads x y A s _ _ _ _ r r' d1.1 d2.1 (by have:=sS x.depth y.depth;omega);unfold ltPs;cases e:Q0 x y with
    |true=>
     rw [e] at eq;rw [R6 rfl];exact .same eq (Ľ xs ys A s _ _ _ _ rs rs' d1.2 d2.2 al'.2 dx.2 prog w)
    |false=>
     rw [e] at eq;rw [R9 R5];exact .unlike eq λQ E q=>Vd x y A s _ _ _ _ r r' d1.1 d2.1 al'.1 dx.1 prog w Q E q
end
end HT
namespace L2
open PySem PySem.Spec PyProof.Rows PySem.SeqAt
noncomputable def jR:G0 (G0 P4)->G0 (G0 P4)->N0
 | [],[]=>false
 | [],_::_=>true
 |_::_,[]=>false
 |a::A,b::B=>if a=b then jR A B else HT.zK a b
theorem Gb: ∀A:G0 (G0 P4),jR A A=false
 | []=>rfl
 |a::A=>by show (if a=a then jR A A else _)=false;rw [R6 rfl];exact Gb A
def Be {a b c:G0 P4}(x:HT.zK a b=true)(y:HT.zK b c=true):HT.zK a c=true:=by
 rcases HT.Uo a c b x with z|z
 ·exact z
 ·rw [HT.JX _ _ y] at z;cases z
theorem ZK: ∀ {A B C:G0 (G0 P4)},jR A B=true->jR B C=true->jR A C=true
 | [],[],_,x,_=>by cases x
 | [],_::_,[],_,y=>by cases y
 | [],_::_,_::_,_,_=>rfl
 |_::_,[],_,x,_=>by cases x
 |_::_,_::_,[],_,y=>by cases y
 |a::A,b::B,c::C,x,y=>by
  change (if a=b then jR A B else HT.zK a b)=true at x
  change (if b=c then jR B C else HT.zK b c)=true at y
  show (if a=c then jR A C else HT.zK a c)=true
  by_cases e1:a=b
  ·subst e1;rw [R6 rfl] at x
   by_cases e2:a=c
   ·rw [R6 e2] at y ⊢;exact ZK x y
   ·rw [R9 e2] at y ⊢;exact y
  ·rw [R9 e1] at x
   by_cases e2:b=c
   ·subst e2;rw [R9 e1];exact x
   ·rw [R9 e2] at y;have z:=Be x y;have ne:a≠c:=λw=>by subst w;rw [HT.JX _ _ x] at y;cases y
    rw [R9 ne];exact z
theorem ZL: ∀A B:G0 (G0 P4),A=B\/jR A B=true\/jR B A=true
 | [],[]=> .inl rfl
 | [],_::_=> .inr (.inl rfl)
 |_::_,[]=> .inr (.inr rfl)
 |a::A,b::B=>by
  show _\/(if a=b then jR A B else HT.zK a b)=true\/(if b=a then jR B A else HT.zK b a)=true
  by_cases e:a=b
  ·subst e;rw [R6 rfl,R6 rfl];rcases ZL A B with z|z|z
   ·exact .inl (by rw [z])
   ·exact .inr (.inl z)
   ·exact .inr (.inr z)
  ·rw [R9 e,R9 (E7 e)];cases x:HT.zK a b with
   |true=>exact .inr (.inl rfl)
   |false=>
    cases y:HT.zK b a with
    |true=>exact .inr (.inr rfl)
    |false=>exact absurd (HT.Wn _ _ x y) e
def XC {A B:G0 (G0 P4)}(x:jR A B=true):jR B A=false:=by
 cases y:jR B A with
 |false=>rfl
 |true=>have:=ZK x y;rw [Gb] at this;cases this
theorem Ve: ∀a b:G0 P4,HT.ltPs (a.map .int) (b.map .int)=HT.zK a b
 | [],[]=>rfl
 | [],_::_=>rfl
 |_::_,[]=>rfl
 |x::a,y::b=>by
  show (if (x==y)=true then HT.ltPs (a.map .int) (b.map .int) else decide (x<y))=if x=y then HT.zK a b else decide (x<y)
  rw [Ve a b]
  by_cases c:x=y
  ·rw [R6 c,R6 (by simpa using c)]
  ·rw [R9 c,R9 (by simpa using c)]
theorem Vf: ∀a b:G0 P4,HT.alks (a.map .int) (b.map .int)=true
 | [],_=>by unfold HT.alks;rfl
 |_::_,[]=>rfl
 |x::a,y::b=>by
  show (true&&HT.alks (a.map .int) (b.map .int))=true;rw [Vf a b];rfl
theorem Uq: ∀A B:G0 (G0 P4),HT.ltPs (A.map wF) (B.map wF)=jR A B
 | [],[]=>rfl
 | [],_::_=>rfl
 |_::_,[]=>rfl
 |a::A,b::B=>by
  show (if Q0 (wF a) (wF b)=true then HT.ltPs (A.map wF) (B.map wF) else HT.ltPs (a.map .int) (b.map .int))=if a=b then jR A B else HT.zK a b
  rw [Xs,Uq A B,Ve]
  by_cases c:a=b
  ·rw [R6 (M1 c),R6 c]
  ·rw [R9 (by rw [B7 c];exact R5),R9 c]
def Lj (A B:G0 (G0 P4)):HT.ltP (wz A) (wz B)=jR A B:=Uq A B
theorem Ur: ∀A B:G0 (G0 P4),HT.alks (A.map wF) (B.map wF)=true
 | [],_=>by unfold HT.alks;rfl
 |_::_,[]=>rfl
 |a::A,b::B=>by
  show (HT.alks (a.map .int) (b.map .int)&&HT.alks (A.map wF) (B.map wF))=true;rw [Vf,Ur A B];rfl
end L2
namespace L2
open PySem PySem.Spec PyProof.Rows
noncomputable def s5:G8->G8
 |0=>0
 |d+1=>5*s5 d+1
theorem RB: ∀d,4*s5 d+1=5^d
 |0=>rfl
 |d+1=>by have:=RB d;rw [Q5];show 4*(5*s5 d+1)+1=_;omega
theorem Cf (a:G8): ∀b,s5 (a+b)=5^b*s5 a+s5 b
 |0=>by show s5 a=1*s5 a+0;omega
 |b+1=>by
  show 5*s5 (a+b)+1=5^(b+1)*s5 a+(5*s5 b+1);rw [Cf a b,Q5,fY,aT (5^b) 5,pM];omega
theorem Cg: ∀d,s5 d%2=d%2
 |0=>rfl
 |d+1=>by have:=Cg d;show (5*s5 d+1)%2=_;omega
def Ex (m:G8):s5 (2*m)=2*(s5 m*(2*s5 m+1)):=by
 rw [Nat.two_mul,Cf,<-RB m];have:(4*s5 m+1)*s5 m+s5 m=2*(s5 m*(2*s5 m+1)):=by
  rw [oI,fY,fY];have e1:4*s5 m*s5 m=4*(s5 m*s5 m):=pM ..;have e2:s5 m*(2*s5 m)=2*(s5 m*s5 m):=by rw [Nat.mul_left_comm]
  rw [e1,e2];omega
 exact this
def Ch (k x:G8):Nat.Coprime (2^k) (2*x+1):=by
 refine Nat.Coprime.pow_left k ?_;show tG 2 (2*x+1)=1;rw [Nat.gcd_rec,show (2*x+1)%2=1 by omega];rfl
theorem Ci: ∀ (k d:G8),2^k∣s5 d->2^k∣d
 |0,d,_=>by rw [gJ];exact Nat.one_dvd _
 |k+1,d,h=>by
  have ev:d%2=0:=by
   rw [<-Cg d];exact mV (Nat.dvd_trans ⟨2^k,by rw [Q5,aT]⟩ h)
  obtain⟨m,rfl⟩: ∃m,d=2*m:=⟨d / 2,by omega⟩;rw [Ex,Q5,aT] at h;have h1:2^k∣s5 m*(2*s5 m+1):=Nat.dvd_of_mul_dvd_mul_left (by decide) h;have h2:=Ci k m ((Ch k (s5 m)).dvd_of_dvd_mul_right h1);rw [Q5,aT];exact Nat.mul_dvd_mul_left 2 h2
noncomputable def f5 (N:G8):G8->G8->G8
 |0,a=>a
 |d+1,a=>(f5 N d a*5+1)%N
variable {N:G8}
theorem Ey (a:G8): ∀d,f5 N d a%N=(5^d*a+s5 d)%N
 |0=>by show a%N=(1*a+0)%N;rw [Nat.one_mul,Z9]
 |d+1=>by
  show (f5 N d a*5+1)%N%N=(5^(d+1)*a+(5*s5 d+1))%N;rw [IK,oQ,IL,Ey a d,<-IL,<-oQ,oI,Q5]
  congr 1
  have:5^d*a*5=5^d*5*a:=by rw [Nat.mul_right_comm]
  omega
def Ez (hN:0<N){a:G8}(ha:a<N): ∀d,f5 N d a<N
 |0=>ha
 |d+1=>Z5 _ hN
theorem Cj (a:G8)(b:G8): ∀d,f5 N (b+d) a=f5 N d (f5 N b a)
 |0=>rfl
 |d+1=>by show (f5 N (b+d) a*5+1)%N=_;rw [Cj a b d];rfl
variable {k:G8}
def Bf {a d:G8}(ha:a<2^k)(d0:0<d)(hd:d<2^k):f5 (2^k) d a≠a:=λe=>by
 have e1:=Ey (N:=2^k) a d;rw [e] at e1;have le:a<=5^d*a+s5 d:=R1 (Nat.le_mul_of_pos_left a (sB (by decide))) (W4 _ _);have dv:2^k∣5^d*a+s5 d-a:=Nat.dvd_of_mod_eq_zero (Nat.sub_mod_eq_zero_of_mod_eq e1.symm);have e2:5^d*a+s5 d-a=s5 d*(2*(2*a)+1):=by
  rw [<-RB d,oI,fY];have:4*s5 d*a=s5 d*(2*(2*a)):=by
   rw [aT 4,pM];congr 1;omega
  omega
 rw [e2] at dv;have:=Nat.le_of_dvd d0 (Ci k d ((Ch k (2*a)).dvd_of_dvd_mul_right dv));omega
def Lk {a:G8}(hN:N=2^k)(ha:a<N): ∀ {i j:G8},i<j->j<N->f5 N i a≠f5 N j a:=λ{i j} ij jN e=>by
 subst hN;have:=Cj (N:=2^k) a i (j-i);rw [J7 (T8 ij)] at this;exact Bf (Ez (sB (by decide)) ha i) (by omega) (by omega) ((this.symm.trans e.symm))
def Ll: ∀ {xs:G0 G8},xs.Nodup->(∀x∈xs,x<N)->N<=xs.length-> ∀e,e<N->e∈xs:=λ{xs} nd lt le e he=>by
 have p:(D6 N).length<=(xs.filter λx=>decide (x<N)).length:=by
  rw [S9,pA.mpr λx hx=>M1 (lt x hx)];exact le
 refine bM λno=> ?_
 have key: ∀ (ys zs:G0 G8),ys.Nodup->(∀y∈ys,y∈zs)->ys.length<=zs.length:=by
  intro ys
  induction ys with
  |nil=>intro zs _ _;exact N7 _
  |cons y ys ih=>
   intro zs d s;obtain⟨d1,d2⟩:=V9.mp d;have hy:=s y D3;have:=ih (zs.erase y) d2 λx hx=>(dF (show x≠y from λq=>d1 (by rw [<-q];exact hx))).mpr (s x (S1 _ hx))
   rw [b7 hy] at this;have:0<zs.length:=cL hy;rw [D2];omega
 have:=key (e::xs) (D6 N) (V9.mpr ⟨no,nd⟩) λy hy=>by
  rcases S0.mp hy with q|q
  ·rw [q];exact S4.mpr he
  ·exact S4.mpr (lt y q)
 rw [D2,S9] at this;omega
def Ck {a e:G8}(hN:N=2^k)(ha:a<N)(he:e<N): ∃m,m<N/\f5 N m a=e:=by
 have nd:((D6 N).map λm=>f5 N m a).Nodup:=by
  rw [mW,Q6];refine A5.mpr λi j hi hj ij=> ?_
  rw [fJ,fJ];rw [S9] at hj;exact Lk hN ha ij hj
 have:=Ll nd (λx hx=>by
  obtain⟨m,_,rfl⟩:=R7.mp hx;exact Ez (by rw [hN];exact sB (by decide)) ha m) (by rw [G1,S9];exact P2 _) e he
 obtain⟨m,hm,e⟩:=R7.mp this;exact⟨m,S4.mp hm,e⟩
noncomputable def zC (t:N3):G8->V7->V7
 |0,p=>p
 |n+1,p=>zC t n (t.advance p)
theorem Ju (t:N3): ∀ (a b:G8) (p:V7),zC t (a+b) p=zC t b (zC t a p)
 |0,b,p=>by rw [X5];rfl
 |a+1,b,p=>by rw [fI];exact Ju t a b _
noncomputable def XD (t:N3)(i q:G8)(d:P9 G8):V7:= {j:=i,more:=E6 t.mask i-i,i:=i,perturb:=q,dummy:=d}
theorem vQ (t:N3): ∀ (m:G8) (p:V7),p.more=m->zC t (m+1) p=XD t ((p.i*5+1+p.perturb / 32)%(t.mask+1)) (p.perturb / 32) p.dummy
 |0,p,e=>by
  show t.advance p=_;unfold a9;rw [R9 (by omega)];rfl
 |m+1,p,e=>by
  have a:t.advance p= {p with j:=p.j+1,more:=p.more-1}:=by unfold a9;rw [R6 (by omega)]
  show zC t (m+1) (t.advance p)=_;rw [a,vQ t m _ (by show p.more-1=m;omega)]
def RC (mask i:G8):E6 mask i-i<=9:=by unfold E6;split<;>omega
noncomputable def VD (N:G8)(b:G8):G8->G8
 |0=>b%N
 |L+1=>(VD N b L*5+1+b / 32^(L+1))%N
theorem RD (t:N3)(h:P4): ∀L,∃n,n<=10*L/\zC t n (t.probeStart h)=XD t (VD (t.mask+1) (S7 h) L) (S7 h / 32^L) none
 |0=>⟨0,P2 _,by rw [gJ,oS];rfl⟩
 |L+1=>by
  obtain⟨n,hn,e⟩:=RD t h L;have s:=RC t.mask (VD (t.mask+1) (S7 h) L);refine⟨n+(E6 t.mask (VD (t.mask+1) (S7 h) L)-VD (t.mask+1) (S7 h) L+1),by omega,?_⟩;rw [Ju,e];refine(vQ t _ (XD t _ _ none) rfl).trans ?_;show XD t ((VD (t.mask+1) (S7 h) L*5+1+S7 h / 32^L / 32)%(t.mask+1)) (S7 h / 32^L / 32) none=_;rw [cM,<-Q5];rfl
def Lm (h:P4):S7 h<2^64:=by unfold S7;omega
theorem Vg (h:P4): ∀m,VD N (S7 h) (13+m)=f5 N m (VD N (S7 h) 13)
 |0=>rfl
 |m+1=>by
  show (VD N (S7 h) (13+m)*5+1+S7 h / 32^(13+m+1))%N=(f5 N m (VD N (S7 h) 13)*5+1)%N;rw [Vg h m,Nat.div_eq_of_lt (N5 (Lm h) ?_),Z9];exact R1 (show 2^64<=32^13 by decide) (W3 (by decide) (by omega))
variable {t:N3}
def Bg (hN:t.mask+1=2^k)(h:P4){e:G8}(he:e<=t.mask): ∃n,n<10*I0 t.mask/\(zC t n (t.probeStart h)).j=e:=by
 obtain⟨m,hm,em⟩:=Ck hN (a:=VD (t.mask+1) (S7 h) 13) (Z5 _ (bU _)) (show e<t.mask+1 by omega);obtain⟨n,hn,en⟩:=RD t h (13+m);refine⟨n,by unfold I0;omega,?_⟩;rw [en,<-em,<-Vg h m];rfl
def RE {P:G8->Prop}: ∀n,P n-> ∃m,m<=n/\P m/\ ∀k,k<m-> ¬P k:=λn=>by
 induction n using G8.strongRecOn with
 |ind n ih=>
  intro h;rcases G05 (∃k,k<n/\P k) with ⟨k,lt,pk⟩|no
  ·obtain⟨m,a,b,c⟩:=ih k lt pk;exact⟨m,by omega,b,c⟩
  ·exact⟨n,P2 _,h,λk lt pk=>no ⟨k,lt,pk⟩⟩
variable {h:P4}
theorem Cl {f:G8->P4}(d:t.dummies= #[]): ∀ (n fuel:G8) (p:V7),n<fuel->t.slot (zC t n p).j= .empty->(∀k,k<n->t.slot (zC t k p).j≠ .empty)->p.dummy=none->
 (Y0 t f h fuel p=some (.empty (zC t n p).j none)/\ ∀k,k<n-> ∀i,t.slot (zC t k p).j= .live i->f i≠h)\/
 (∃k i,k<n/\t.slot (zC t k p).j= .live i/\f i=h/\(∀k',k'<k-> ∀i',t.slot (zC t k' p).j= .live i'->f i'≠h)/\Y0 t f h fuel p=some (.candidate (zC t k p).j i (zC t (k+1) p)))
 |_,0,_,lt,_,_,_=>absurd lt (aP _)
 |0,fuel+1,p,_,he,_,hd=>by
  refine .inl ⟨?_,λk hk=>absurd hk (aP _)⟩;have he:t.slot p.j= .empty:=he;unfold Y0;rw [he,hd];rfl
 |n+1,fuel+1,p,lt,he,ne,hd=>by
  have h0:t.slot p.j≠ .empty:=ne 0 (bU _);cases hs:t.slot p.j with
  |empty=>exact absurd hs h0
  |dummy=>exact absurd hs (HT.Yr d)
  |live i=>
   by_cases e:f i=h
   ·refine .inr ⟨0,i,bU _,hs,e,λk' hk=>absurd hk (aP _),?_⟩;unfold Y0;rw [hs];show (if (f i==h)=true then _ else _)=_;rw [R6 (by rw [e];exact a8 h)];rfl
   ·have ad:(t.advance p).dummy=none:=by unfold a9;split<;>exact hd
    have step:Y0 t f h (fuel+1) p=Y0 t f h fuel (t.advance p):=by
     conv=>lhs;unfold Y0
     rw [hs];show (if (f i==h)=true then _ else _)=_;rw [R9 (by simpa using e)]
    rcases Cl d n fuel (t.advance p) (by omega) he (λk hk=>ne (k+1) (by omega)) ad with ⟨a,b⟩|⟨k,i',hk,a,b,c,g⟩
    ·refine .inl ⟨by rw [step];exact a,λk hk i2 hi=> ?_⟩;cases k with
     |zero=>rw [show t.slot (zC t 0 p).j= .live i from hs] at hi;cases hi;exact e
     |succ k=>exact b k (by omega) i2 hi
    ·refine .inr ⟨k+1,i',by omega,a,b,λk' hk' i2 hi=> ?_,by rw [step];exact g⟩;cases k' with
     |zero=>rw [show t.slot (zC t 0 p).j= .live i from hs] at hi;cases hi;exact e
     |succ k'=>exact c k' (by omega) i2 hi
def XE (hN:t.mask+1=2^k)(h:P4){e:G8}(he:e<=t.mask)(em:t.slot e= .empty): ∃n,n<10*I0 t.mask/\t.slot (zC t n (t.probeStart h)).j= .empty/\ ∀m,m<n->t.slot (zC t m (t.probeStart h)).j≠ .empty:=by
 obtain⟨n,hn,ej⟩:=Bg hN h he;obtain⟨m,a,b,c⟩:=RE (P:=λn=>t.slot (zC t n (t.probeStart h)).j= .empty) n (by rw [ej];exact em);exact⟨m,by omega,b,c⟩
def RF (r:t.place.toList.Pairwise (· < ·)){i j:G8}(h:t.place[i]? =some j):t.slot j= .live i:=by
 obtain⟨lo,hi,_⟩:=HT.Jp r j;have e:M5 t.place j=i:=by
  rcases dA (M5 t.place j) i with z|z|z
  ·obtain⟨hlt,ev⟩:=F8.mp h;have hb:M5 t.place j<t.place.size:=by omega
   have a:=hi (M5 t.place j) (P2 _) t.place[M5 t.place j] (bO hb);have b:=A5.mp r (M5 t.place j) i (by simpa using hb) (by simpa using hlt) z;simp only [dG] at b;omega
  ·exact z
  ·exact absurd (lo i z j h) (C1 _)
 unfold lV;dsimp only;rw [e,h,R6 (a8 _)]
def RG {i j:G8}(h:t.slot j= .live i):t.place[i]? =some j:=by
 unfold lV at h;dsimp only at h;split at h
 ·rename_i c;injection h with h
  subst h;exact eq_of_beq c
 ·split at h<;>cases h
def Jv (d:t.dummies= #[])(r:t.place.toList.Pairwise (· < ·)){j:G8}:t.slot j= .empty↔ ∀i:G8,t.place[i]? ≠some j:=by
 constructor
 ·intro h i e;rw [RF r e] at h;cases h
 ·intro h;cases e:t.slot j with
  |empty=>rfl
  |dummy=>exact absurd e (HT.Yr d)
  |live i=>exact absurd (RG e) (h i)
variable {u:N3}
def Bh (e:t.mask=u.mask)(p:V7):t.advance p=u.advance p:=by
 unfold a9;rw [e]
theorem yP (e:t.mask=u.mask): ∀ (n:G8) (p:V7),zC t n p=zC u n p
 |0,_=>rfl
 |n+1,p=>by show zC t n (t.advance p)=zC u n (u.advance p);rw [Bh e,yP e n]
def vn (e:t.mask=u.mask)(h:P4):t.probeStart h=u.probeStart h:=by
 unfold IU;rw [e]
def Way (t:N3)(h:P4)(j:G8):Prop:= ∃n,(zC t n (t.probeStart h)).j=j/\ ∀m,m<n->t.slot (zC t m (t.probeStart h)).j≠ .empty
def Way.more (e:t.mask=u.mask)(f: ∀j,u.slot j= .empty->t.slot j= .empty){h:P4}{j:G8}(w:Way t h j):Way u h j:=by
 obtain⟨n,a,b⟩:=w;refine⟨n,by rw [<-vn e,<-yP e];exact a,λm hm z=>b m hm ?_⟩;rw [<-vn e,<-yP e] at z;exact f _ z
def Cm {α:Type}(xs:G0 α)(x:α){p:G8}(hp:p<=xs.length)(i:G8):(xs.take p++x::xs.drop p)[i]? =if i<p then xs[i]? else if i=p then some x else xs[i-1]? :=by
 have tl:(xs.take p).length=p:=by rw [T3];omega
 by_cases a:i<p
 ·rw [R6 a,F4 (by omega),pU,R6 a]
 ·rw [R9 a,B6 (by omega),tl]
  by_cases b:i=p
  ·rw [R6 b,b,iP];rfl
  ·rw [R9 b,show i-p=(i-p-1)+1 by omega,W5,Z4]
   congr 1;omega
structure Laid (t:N3)(hs:G0 P4):Prop where
 pow: ∃k,t.mask+1=2^k
 big:7<=t.mask
 dum:t.dummies= #[]
 rise:t.place.toList.Pairwise (· < ·)
 size:t.place.size=hs.length
 room:hs.length<=t.mask
 low: ∀ (i j:G8),t.place[i]? =some j->j<=t.mask
 way: ∀ (i:G8) (h:P4) (j:G8),hs[i]? =some h->t.place[i]? =some j->Way t h j
variable {hs:G0 P4}
def Laid.free (l:Laid t hs): ∃e,e<=t.mask/\t.slot e= .empty:=by
 refine bM λno=> ?_
 have nd:t.place.toList.Nodup:=l.rise.imp λ{a b} z=>S8 z
 have all: ∀e,e<t.mask+1->e∈t.place.toList:=λe he=>by
  refine bM λz=>no ⟨e,by omega,(Jv l.dum l.rise).mpr λi q=>z ?_⟩
  exact nZ.mpr (Array.mem_of_getElem? q)
 have key: ∀ (ys zs:G0 G8),ys.Nodup->(∀y∈ys,y∈zs)->ys.length<=zs.length:=by
  intro ys
  induction ys with
  |nil=>intro zs _ _;exact N7 _
  |cons y ys ih=>
   intro zs d s;obtain⟨d1,d2⟩:=V9.mp d;have hy:=s y D3;have:=ih (zs.erase y) d2 λx hx=>(dF (show x≠y from λq=>d1 (by rw [<-q];exact hx))).mpr (s x (S1 _ hx))
   rw [b7 hy] at this;have:0<zs.length:=cL hy;rw [D2];omega
 have:=key (D6 (t.mask+1)) t.place.toList mH λy hy=>all y (S4.mp hy)
 rw [S9,P8,l.size] at this;have:=l.room;omega
def Laid.search (l:Laid t hs)(h:P4): ∃n,n<10*I0 t.mask/\t.slot (zC t n (t.probeStart h)).j= .empty/\(∀m,m<n->t.slot (zC t m (t.probeStart h)).j≠ .empty)/\ ∀i:G8,hs[i]? =some h-> ∃m,m<n/\t.slot (zC t m (t.probeStart h)).j= .live i:=by
 obtain⟨k,hk⟩:=l.pow;obtain⟨e,he,em⟩:=l.free;obtain⟨n,a,b,c⟩:=XE hk h he em;refine⟨n,a,b,c,λi hi=> ?_⟩;obtain⟨j,hj⟩: ∃j,t.place[i]? =some j:=⟨t.place[i]'(by rw [l.size];exact(P5.mp hi).1),bO _⟩;obtain⟨m,x,y⟩:=l.way i h j hi hj;have lv:t.slot (zC t m (t.probeStart h)).j= .live i:=by rw [x];exact RF l.rise hj
 refine⟨m,?_,lv⟩;rcases dA m n with z|z|z
 ·exact z
 ·rw [z,b] at lv;cases lv
 ·exact absurd b (y n z)
def RH (t:N3)(j:G8):(t.put j).1.place.toList=t.place.toList.take (M5 t.place j)++j::t.place.toList.drop (M5 t.place j):=e7 ..
def RI (d:t.dummies= #[])(j:G8):(t.put j).1.dummies= #[]:=by
 show (if mS t.dummies j then _ else t.dummies)= #[];rw [d,R9 (by simp [mS])]
def Laid.put (l:Laid t hs){h:P4}{j:G8}(em:t.slot j= .empty)(jm:j<=t.mask)(w:Way t h j)(room:hs.length+1<=t.mask):Laid (t.put j).1 (hs.take (t.put j).2++h::hs.drop (t.put j).2):=by
 have pe:(t.put j).2=M5 t.place j:=rfl;have me:t.mask=(t.put j).1.mask:=rfl;have pl:=RH t j;have hp:M5 t.place j<=t.place.size:=(HT.Jp l.rise j).2.2;have hp1:M5 t.place j<=t.place.toList.length:=by rw [P8];exact hp
 have hp2:M5 t.place j<=hs.length:=by rw [<-l.size];exact hp
 have rise:(t.put j).1.place.toList.Pairwise (· < ·):=HT.Xv l.rise (HT.GT em);have ű: ∀i:G8,(t.put j).1.place[i]? =if i<M5 t.place j then t.place[i]? else if i=M5 t.place j then some j else t.place[i-1]? :=λi=>by
  have:=Cm t.place.toList j hp1 i;rw [<-pl] at this;simpa using this
 have sl: ∀x,(t.put j).1.slot x= .empty->t.slot x= .empty:=λx hx=>by
  rw [Jv (RI l.dum j) rise] at hx;rw [Jv l.dum l.rise];intro i e
  by_cases c:i<M5 t.place j
  ·exact hx i (by rw [ű,R6 c];exact e)
  ·exact hx (i+1) (by rw [ű,R9 (by omega),R9 (by omega)];exact e)
 rw [pe];refine⟨l.pow,l.big,RI l.dum j,rise,?_,?_,λi x hx=> ?_,λi g x hg hx=> ?_⟩
 ·rw [<-P8,pl];simp only [P1,D2,T3,C0,P8];have:=l.size;omega
 ·show _<=t.mask;simp only [P1,D2,T3,C0];omega
 ·rw [ű] at hx;split at hx
  ·exact l.low _ _ hx
  ·split at hx
   ·injection hx with hx;subst hx;exact jm
   ·exact l.low _ _ hx
 ·rw [ű] at hx;rw [Cm hs h hp2] at hg
  by_cases c:i<M5 t.place j
  ·rw [R6 c] at hg hx;exact(l.way i g x hg hx).more me sl
  ·rw [R9 c] at hg hx
   by_cases b:i=M5 t.place j
   ·rw [R6 b] at hg hx;injection hg with hg;injection hx with hx
    subst hg hx;exact w.more me sl
   ·rw [R9 b] at hg hx;exact(l.way (i-1) g x hg hx).more me sl
def GZ (a b:G8)(led:N0):Laid (.fresh a b led) []:=⟨⟨3,rfl⟩,P2 7,rfl,lG,rfl,N7 _,λi j h=>by simp [uA] at h,λi h j e=>by simp at e⟩
theorem Cn (t:N3): ∀ (k i q m j:G8) (d:P9 G8),k<=m->zC t k ⟨j,m,i,q,d⟩=⟨j+k,m-k,i,q,d⟩
 |0,i,q,m,j,d,_=>rfl
 |k+1,i,q,m,j,d,h=>by
  have a:t.advance ⟨j,m,i,q,d⟩=⟨j+1,m-1,i,q,d⟩:=by unfold a9;rw [R6 (show m>0 by omega)]
  show zC t k (t.advance ⟨j,m,i,q,d⟩)=_;rw [a,Cn t k i q (m-1) (j+1) d (by omega)]
  congr 1<;>omega
def TV (t:N3)(E:G8->N0)(h:P4)(j:G8):Prop:= ∃n,(zC t n (t.probeStart h)).j=j/\ ∀m,m<n->E (zC t m (t.probeStart h)).j=false
variable {owner:S5 (P9 G8)}
theorem Gc: ∀ (fuel L n:G8) {j:G8},zC t n (t.probeStart h)=XD t (VD (t.mask+1) (S7 h) L) (S7 h / 32^L) none->(∀m,m<n->(owner.getD (zC t m (t.probeStart h)).j (some 0)).isNone=false)->
 J0 t.mask owner fuel (VD (t.mask+1) (S7 h) L) (S7 h / 32^L)=some j->(owner.getD j (some 0)).isNone=true/\TV t (λx=>(owner.getD x (some 0)).isNone) h j
 |0,_,_,_,_,_,e=>by cases e
 |fuel+1,L,n,j,hn,ne,e=>by
  unfold J0 at e;generalize hI:VD (t.mask+1) (S7 h) L=I at hn e;have run: ∀k,k<=E6 t.mask I-I->(zC t (n+k) (t.probeStart h)).j=I+k:=λk hk=>by
   rw [Ju,hn];exact congrArg SetTable.Probe.j (Cn t k I _ _ I none hk)
  have re:I<=E6 t.mask I:=by unfold E6;split<;>omega
  split at e
  ·rename_i k hk;injection e with e
   subst e;obtain⟨a,b,c⟩:=List.find?_range_eq_some.mp hk;have kl:=S4.mp b;refine⟨a,n+k,run k (by omega),λm hm=> ?_⟩;rcases Q4 m n with z|z
   ·exact ne m z
   ·have:=c (m-n) (by omega);have r:=run (m-n) (by omega);rw [J7 z] at r;show (owner.getD (zC t m (t.probeStart h)).j (some 0)).isNone=false;rw [r];simpa using this
  ·rename_i hk;have none:=fK.mp hk;have nx:=vQ t _ (XD t I (S7 h / 32^L) .none) rfl;refine Gc fuel (L+1) (n+(E6 t.mask I-I+1)) (j:=j) ?_ (λm hm=> ?_) ?_
   ·rw [Ju,hn];refine nx.trans ?_;show XD t ((I*5+1+S7 h / 32^L / 32)%(t.mask+1)) (S7 h / 32^L / 32) .none=_;rw [cM,<-Q5,<-hI];rfl
   ·rcases Q4 m n with z|z
    ·exact ne m z
    ·have:=none (m-n) (S4.mpr (by omega));have r:=run (m-n) (by omega);rw [J7 z] at r;rw [r];exact aH.mpr this
   ·rw [show v6 t.mask I (S7 h / 32^L)=((I*5+1+S7 h / 32^L / 32)%(t.mask+1),S7 h / 32^L / 32) from rfl] at e;dsimp only at e;rw [cM,<-Q5,<-hI] at e;exact e
def RJ (hN:t.mask+1=2^k){e:G8}(he:e<=t.mask)(em:(owner.getD e (some 0)).isNone=true): ∃j,J0 t.mask owner (I0 t.mask) (S7 h%(t.mask+1)) (S7 h)=some j:=by
 obtain⟨m,hm,e1⟩:=Ck hN (a:=VD (t.mask+1) (S7 h) 13) (Z5 _ (bU _)) (show e<t.mask+1 by omega);rw [<-Vg h m] at e1;have go: ∀ (fuel L:G8),(∃L',L<=L'/\L'<L+fuel/\VD (t.mask+1) (S7 h) L'=e)-> ∃j,J0 t.mask owner fuel (VD (t.mask+1) (S7 h) L) (S7 h / 32^L)=some j:=by
  intro fuel
  induction fuel with
  |zero=>rintro L ⟨L',a,b,_⟩;omega
  |succ fuel ih=>
   rintro L ⟨L',a,b,c⟩;unfold J0;generalize hI:VD (t.mask+1) (S7 h) L=I;split
   ·rename_i k hk;exact⟨_,rfl⟩
   ·rename_i hk;have none:=fK.mp hk;have ne:I≠e:=λz=>by
     have re:I<=E6 t.mask I:=by unfold E6;split<;>omega
     have:=none 0 (S4.mpr (by omega));rw [Z9,z] at this;exact this em
    have lt:L+1<=L':=by
     rcases Q4 L L' with z|z
     ·exact z
     ·have:L=L':=by omega
      subst this;exact absurd (hI.symm.trans c) ne
    obtain⟨j,hj⟩:=ih (L+1) ⟨L',lt,by omega,c⟩;refine⟨j,?_⟩;rw [show v6 t.mask I (S7 h / 32^L)=((I*5+1+S7 h / 32^L / 32)%(t.mask+1),S7 h / 32^L / 32) from rfl];dsimp only;rw [cM,<-Q5,<-hI];exact hj
 have:=go (I0 t.mask) 0 ⟨13+m,N7 _,by unfold I0;omega,e1⟩;rw [gJ,oS] at this;exact this
noncomputable def emO (owner:S5 (P9 G8))(x:G8):N0:=(owner.getD x (some 0)).isNone
def ě {x:G8}:emO owner x=true↔owner[x]? =some none:=by
 unfold emO;rw [dB];cases owner[x]? with
 |none=>simp
 |some o=>cases o<;>simp
structure Own (t:N3)(hs:G0 P4)(owner:S5 (P9 G8))(k:G8):Prop where
 size:owner.size=t.mask+1
 lt: ∀x i:G8,owner[x]? =some (some i)->i<k
 inj: ∀x y i:G8,owner[x]? =some (some i)->owner[y]? =some (some i)->x=y
 all: ∀i,i<k-> ∃x:G8,owner[x]? =some (some i)
 way: ∀ (x i:G8) (h:P4),owner[x]? =some (some i)->hs[i]? =some h->TV t (emO owner) h x
def Own.free (o:Own t hs owner k)(room:k<=t.mask): ∃e,e<=t.mask/\emO owner e=true:=by
 refine bM λno=> ?_
 have got: ∀x,x<t.mask+1-> ∃i,owner[x]? =some (some i):=λx hx=>by
  have hs':x<owner.size:=by rw [o.size];exact hx
  cases e:owner[x]? with
  |none=>rw [A8] at e;omega
  |some v=>
   cases v with
   |none=>exact absurd ⟨x,by omega,ě.mpr e⟩ no
   |some i=>exact⟨i,rfl⟩
 have gi: ∀x,x<t.mask+1->owner[x]? =some (some (((owner[x]?).getD none).getD 0)):=λx hx=>by
  obtain⟨i,e⟩:=got x hx;rw [e];rfl
 have nd:((D6 (t.mask+1)).map λx=>((owner[x]?).getD none).getD 0).Nodup:=by
  rw [mW,Q6];refine A5.mpr λa b ha hb ab e=> ?_
  rw [fJ,fJ] at e;rw [S9] at ha hb;have x1:=gi a ha;have x2:=gi b hb;rw [e] at x1;have:=o.inj a b _ x1 x2;omega
 have:=Wf (m:=D6 k) nd λy hy=>by
  obtain⟨x,hx,rfl⟩:=R7.mp hy;exact S4.mpr (o.lt x _ (gi x (S4.mp hx)))
 rw [G1,S9,S9] at this;omega
variable {n:G8}
def Own.step (hN:t.mask+1=2^n)(o:Own t hs owner k)(room:k<=t.mask)(hk:hs[k]? =some h): ∃j,J0 t.mask owner (I0 t.mask) (S7 h%(t.mask+1)) (S7 h)=some j/\Own t hs (owner.setIfInBounds j (some k)) (k+1):=by
 obtain⟨e,he,em⟩:=o.free room;obtain⟨j,hj⟩:=RJ (h:=h) hN he em;have w:=Gc (t:=t) (owner:=owner) (h:=h) (I0 t.mask) 0 0 (j:=j) (by rw [gJ,oS];rfl) (λm hm=>absurd hm (aP _)) (by rw [gJ,oS];exact hj);have jn:owner[j]? =some none:=ě.mp w.1;have js:j<owner.size:=(F8.mp jn).1;have ű: ∀x:G8,(owner.setIfInBounds j (some k))[x]? =if j=x then some (some k) else owner[x]? :=λx=>by
  rw [Array.getElem?_setIfInBounds]
  by_cases c:j=x
  ·rw [R6 c,R6 c,R6 js]
  ·rw [R9 c,R9 c]
 have old: ∀x i:G8,(owner.setIfInBounds j (some k))[x]? =some (some i)->(x=j/\i=k)\/(x≠j/\owner[x]? =some (some i)):=λx i hx=>by
  rw [ű] at hx;split at hx
  ·rename_i c;injection hx with hx;injection hx with hx;exact .inl ⟨c.symm,hx.symm⟩
  ·rename_i c;exact .inr ⟨E7 c,hx⟩
 have emm: ∀x,emO owner x=false->emO (owner.setIfInBounds j (some k)) x=false:=λx hx=>by
  refine aH.mpr λz=> ?_
  rw [ě,ű] at z;split at z
  ·cases z
  ·rw [ě.mpr z] at hx;cases hx
 refine⟨j,hj,by rw [fA];exact o.size,λx i hx=> ?_,λx y i hx hy=> ?_,λi hi=> ?_,λx i g hx hg=> ?_⟩
 ·rcases old x i hx with ⟨_,e⟩|⟨_,e⟩
  ·omega
  ·have:=o.lt x i e;omega
 ·rcases old x i hx with ⟨a,b⟩|⟨a,b⟩<;>rcases old y i hy with ⟨c,d⟩|⟨c,d⟩
  ·rw [a,c]
  ·have:=o.lt y i d;omega
  ·have:=o.lt x i b;omega
  ·exact o.inj x y i b d
 ·by_cases c:i=k
  ·exact⟨j,by rw [ű,R6 rfl,c]⟩
  ·obtain⟨x,hx⟩:=o.all i (by omega);have ne: ¬j=x:=λz=>by rw [<-z,jn] at hx;cases hx
   exact⟨x,by rw [ű,R9 ne];exact hx⟩
 ·rcases old x i hx with ⟨a,b⟩|⟨a,b⟩
  ·rw [b,hk] at hg;injection hg with hg
   rw [a,<-hg];obtain⟨m,p,q⟩:=w.2;exact⟨m,p,λm' hm=>emm _ (q m' hm)⟩
  ·obtain⟨m,p,q⟩:=o.way x i g b hg;exact⟨m,p,λm' hm=>emm _ (q m' hm)⟩
def Bi (t:N3)(hs:G0 P4):Own t hs (nD (t.mask+1) none) 0:=by
 have no: ∀x i:G8,(nD (t.mask+1) (none:P9 G8))[x]? ≠some (some i):=λx i e=>by
  rw [Array.getElem?_replicate] at e;split at e<;>cases e
 exact⟨Array.size_replicate,λx i e=>absurd e (no x i),λx y i e=>absurd e (no x i),λi hi=>absurd hi (aP _),λx i h e=>absurd e (no x i)⟩
theorem Gd (hN:t.mask+1=2^n)(room:hs.length<=t.mask){F:P9 (S5 (P9 G8)×G8)->P4->P9 (S5 (P9 G8)×G8)}
 (hF: ∀owner k h j,J0 t.mask owner (I0 t.mask) (S7 h%(t.mask+1)) (S7 h)=some j->F (some (owner,k)) h=some (owner.setIfInBounds j (some k),k+1)): ∀ (rest:G0 P4) (k:G8) (owner:S5 (P9 G8)),Own t hs owner k->k<=hs.length->hs.drop k=rest-> ∃Ř,rest.foldl F (some (owner,k))=some (Ř,hs.length)/\Own t hs Ř hs.length
 | [],k,owner,o,kl,e=>by
  have:k=hs.length:=by have:=List.drop_eq_nil_iff.mp e;omega
  subst this;exact⟨owner,rfl,o⟩
 |h::rest,k,owner,o,kl,e=>by
  have hk:hs[k]? =some h:=by
   have:(hs.drop k)[0]? =some h:=by rw [e];rfl
   rwa [Z4,Z9] at this
  have lt:k<hs.length:=(P5.mp hk).1;obtain⟨j,hj,o'⟩:=o.step hN (by omega) hk;have e2:hs.drop (k+1)=rest:=by rw [<-List.tail_drop,e];rfl
  obtain⟨Ř,a,b⟩:=Gd hN room hF rest (k+1) _ o' lt e2;exact⟨Ř,by rw [m5,hF _ _ _ _ hj];exact a,b⟩
def Bj (hN:t.mask+1=2^n)(room:hs.length<=t.mask){F:P9 (S5 (P9 G8)×G8)->P4->P9 (S5 (P9 G8)×G8)}
 (hF: ∀owner k h j,J0 t.mask owner (I0 t.mask) (S7 h%(t.mask+1)) (S7 h)=some j->F (some (owner,k)) h=some (owner.setIfInBounds j (some k),k+1)): ∃owner,(hs.foldl F (some (nD (t.mask+1) none,0))).map (·.1)=some owner/\Own t hs owner hs.length:=by
 obtain⟨owner,a,b⟩:=Gd hN room hF hs 0 _ (Bi t hs) (N7 _) rfl;exact⟨owner,by rw [a];rfl,b⟩
def Ln {hashes:S5 P4}(hN:t.mask+1=2^n)(room:hashes.size<=t.mask): ∃owner,qX t.mask hashes=some owner/\Own t hashes.toList owner hashes.toList.length:=by
 unfold qX;rw [<-Array.foldl_toList];refine Bj hN (by rw [P8];exact room) λowner k h j hj=> ?_
 show (J0 t.mask owner _ _ _).bind _=_;rw [hj];rfl
theorem XF: ∀ (n:G8) (p:V7),p.j+p.more<=t.mask->(zC t n p).j<=t.mask
 |0,p,h=>by show p.j<=t.mask;omega
 |n+1,p,h=>by
  refine XF n (t.advance p) ?_;unfold a9;split
  ·show p.j+1+(p.more-1)<=t.mask;omega
  ·have:(p.i*5+1+p.perturb / 32)%(t.mask+1)<t.mask+1:=Z5 _ (bU _);show (p.i*5+1+p.perturb / 32)%(t.mask+1)+(E6 t.mask ((p.i*5+1+p.perturb / 32)%(t.mask+1))-(p.i*5+1+p.perturb / 32)%(t.mask+1))<=t.mask;unfold E6;split<;>omega
def Us (t:N3)(h:P4):(t.probeStart h).j+(t.probeStart h).more<=t.mask:=by
 have:S7 h%(t.mask+1)<t.mask+1:=Z5 _ (bU _);show S7 h%(t.mask+1)+(E6 t.mask (S7 h%(t.mask+1))-S7 h%(t.mask+1))<=t.mask;unfold E6;split<;>omega
def EA {T0 T':N3}{E:G8->N0}{j:G8}(em:T0.mask=T'.mask)(f: ∀y,y<=T0.mask->E y=false->T'.slot y≠ .empty)(w:TV T0 E h j):Way T' h j:=by
 obtain⟨n,a,b⟩:=w;refine⟨n,by rw [<-vn em,<-yP em];exact a,λm hm=> ?_⟩;rw [<-vn em,<-yP em];exact f _ (XF m _ (Us T0 h)) (b m hm)
def Lo {mask finger moves:G8}{led plain:N0}{hashes:S5 P4}(hN:mask+1=2^n)(h7:7<=mask)(room:hashes.size<=mask): ∃t' order,v7 mask finger moves led plain hashes=some (t',order)/\t'.mask=mask/\t'.led=led/\t'.plain=plain/\order.toList.Perm (D6 hashes.size)/\Laid t' (order.toList.map λi=>hashes.toList.getD i 0):=by
 obtain⟨T0,hm⟩: ∃T0:N3,T0.mask=mask:=⟨{uA 0 0 true with mask:=mask},rfl⟩;subst hm;obtain⟨owner,ho,own⟩:=Ln (t:=T0) (hashes:=hashes) hN room;unfold v7;rw [ho];refine⟨_,_,rfl,rfl,rfl,rfl,?_⟩;generalize hl:((D6 (T0.mask+1)).filterMap λj=>(owner.getD j none).map (j,·))=live;have osz:owner.size=T0.mask+1:=own.size;have mem: ∀x i:G8,(x,i)∈live↔owner[x]? =some (some i):=λx i=>by
  rw [<-hl,cI];constructor
  ·rintro ⟨j,hj,e⟩;rw [dB] at e;cases z:owner[j]? with
   |none=>rw [z] at e;cases e
   |some v=>
    rw [z] at e;cases v with
    |none=>cases e
    |some w=>cases e;exact z
  ·intro e;have lt:x<owner.size:=(F8.mp e).1;refine⟨x,S4.mpr (by omega),?_⟩;rw [dB,e];rfl
 have sub:(live.map (·.1)).Sublist (D6 (T0.mask+1)):=by rw [<-hl];exact HT.YX _ _
 have rise:(live.map (·.1)).Pairwise (· < ·):=G0.pairwise_lt_range.sublist sub;have nd:(live.map (·.2)).Nodup:=by
  rw [mW,Q6];rw [Q6] at rise;refine rise.imp_of_mem λ{a b} ha hb lt e=> ?_
  have:=own.inj a.1 b.1 a.2 ((mem _ _).mp ha) (by rw [e];exact(mem _ _).mp hb);omega
 have len0:hashes.toList.length=hashes.size:=P8;have pm:(live.map (·.2)).Perm (D6 hashes.size):=by
  refine(List.perm_ext_iff_of_nodup nd mH).mpr λi=> ?_
  rw [S4];constructor
  ·intro h;obtain⟨⟨x,i'⟩,a,rfl⟩:=R7.mp h;have:=own.lt x i' ((mem _ _).mp a);omega
  ·intro h;obtain⟨x,hx⟩:=own.all i (by omega);exact R7.mpr ⟨(x,i),(mem _ _).mpr hx,rfl⟩
 have ll:live.length=hashes.size:=by have:=pm.length_eq;rwa [G1,S9] at this
 refine⟨pm,⟨n,hN⟩,h7,rfl,rise,?_,?_,λi j hj=> ?_,λi h x hh hx=> ?_⟩
 ·simp
 ·show _<=T0.mask;simp only [G1];omega
 ·have hj:(live.map (·.1))[i]? =some j:=by simpa using hj
  have:=S4.mp (sub.subset (P6 hj));show j<=T0.mask;omega
 ·have hx:(live.map (·.1))[i]? =some x:=by simpa using hx
  have hh:((live.map (·.2)).map λi=>hashes.toList.getD i 0)[i]? =some h:=hh;rw [P7] at hx;obtain⟨⟨x',i'⟩,e1,e2⟩:=L5.mp hx;have e2:x'=x:=e2;subst e2;rw [P7,P7,e1] at hh;have hh:hashes.toList.getD i' 0=h:=by injection hh
  have ow:=(mem _ _).mp (P6 e1);have lt:=own.lt _ _ ow;have hg:hashes.toList[i']? =some h:=by
   rw [<-hh,R4,G5 lt];rfl
  refine EA (T0:=T0) rfl (λy hy hb z=> ?_) (own.way _ _ _ ow hg);rw [Jv rfl rise] at z;cases e:owner[y]? with
  |none=>rw [A8] at e;omega
  |some v=>
   cases v with
   |none=>rw [ě.mpr e] at hb;cases hb
   |some w=>
    obtain⟨i2,h2⟩:=dH (R7.mpr ⟨(y,w),(mem _ _).mpr e,rfl⟩:y∈live.map (·.1));exact z i2 (by simpa using h2)
def Laid.stands (l:Laid t hs):t.gaveWay=false:=by
 obtain⟨k,hk⟩:=l.pow;have b:=l.big;cases k with
 |zero=>rw [gJ] at hk;omega
 |succ k=>
  rw [Q5] at hk;unfold G0G;refine beq_false_of_ne ?_;omega
theorem Ge: ∀ (fuel k n:G8),3<=k-> ∃m,3<=m/\bL n fuel (2^k)=2^m/\(n<2^(k+fuel)->n<2^m)
 |0,k,n,h=>⟨k,h,rfl,λz=>z⟩
 |fuel+1,k,n,h=>by
  unfold bL
  by_cases c:2^k<=n
  ·rw [R6 c,<-Q5];obtain⟨m,a,b,d⟩:=Ge fuel (k+1) n (by omega);exact⟨m,a,b,λz=>d (by rw [fI,cQ];exact z)⟩
  ·rw [R9 c];exact⟨k,h,rfl,λ_=>by omega⟩
def above (h:n<2^67): ∃m,K8 n=2^m/\n<K8 n/\8<=K8 n:=by
 obtain⟨m,a,b,c⟩:=Ge 64 3 n (by decide);have b:K8 n=2^m:=b;refine⟨m,b,by rw [b];exact c h,?_⟩;rw [b];exact W3 (show 0<2 by decide) a
end L2
namespace L2
open PySem PySem.Spec PyProof.Rows HT
variable {prog:S6}{w:B3}{A:N4}{E:G2->G3->Prop}{s:G3}{a:P3}{es:S5 (P4×G2)}{ep:G8}{t:N3}
def Laid.fits {hs:G0 P4}(l:Laid t hs){n:G8}(e:hs.length=n):t.fits n=true:=by
 have a:=l.size;have b:=l.room;have c:=l.dum;simp only [u7,v9,N9,beq_iff_eq,X4,c];simp;omega
def Gf (t:N3):t.sameMemory t.moves t.mask=some true:=by
 unfold IV;rw [R6 (a8 _)]
def Gg {b:P3}{Q:N0->G3->Prop}(q:Q true s):D8 (R3 prog w) A (isSame (.ref b) (.ref b)) Q E s:=by
 unfold isSame;dsimp only;rw [R6 (a8 _)];exact G9 q
variable {eqk:G8->N0}
def XG {Q:SetFound->G3->Prop}{x:G2}{h:P4}{n:G8}(l:Laid t (es.toList.map (·.1)))(ho:s.heap.get? a=some (yH es ep t))
 (refs: ∀ (i:G8) (y:G2),es[i]? =some (h,y)-> ∃b,y= .ref b)
 (G0X: ∀Q':N0->G3->Prop,Q' false s->D8 (R3 prog w) A (dD x ((es.filter (·.1==h)).toList.map (·.2))) Q' E s)
 (cmp: ∀ (i:G8) (y:G2),es[i]? =some (h,y)-> ∀Q':N0->G3->Prop,Q' (eqk i) s->D8 (R3 prog w) A (aR [y] (eqBool y x)) Q' E s)
 (em:t.slot (zC t n (t.probeStart h)).j= .empty)(nb:n<10*I0 t.mask)(ne: ∀m,m<n->t.slot (zC t m (t.probeStart h)).j≠ .empty)
 (free:(∀m i,m<n->t.slot (zC t m (t.probeStart h)).j= .live i->(es[i]?.map (·.1)).getD 0=h->eqk i=false)->Q (.free (zC t n (t.probeStart h)).j false) s)
 (there: ∀ (i:G8) (y:G2),es[i]? =some (h,y)->eqk i=true->Q (.there none) s):
 ∀ (r k fuel:G8) (ū:P9 V7),k+r=n->r<fuel->ū.getD (t.probeStart h)=zC t k (t.probeStart h)->(∀m i,m<k->t.slot (zC t m (t.probeStart h)).j= .live i->(es[i]?.map (·.1)).getD 0=h->eqk i=false)->
  D8 (R3 prog w) A (w6 a x h true fuel ū) Q E s:=by
 intro r
 induction r using G8.strongRecOn with
 |ind r ih=>
 intro k fuel ū kr rf st old;obtain⟨fuel,rfl⟩: ∃f,fuel=f+1:=⟨fuel-1,by omega⟩;have fit:t.fits es.size=true:=l.fits (by rw [G1,P8]);unfold w6;refine wpAny_bind (E8 ho rfl fit ?_);dsimp only;rw [l.stands];simp only [F9,↓reduceIte];have ad: ∀m,zC t m (zC t k (t.probeStart h))=zC t (k+m) (t.probeStart h):=λm=>(Ju t k m _).symm
 have dn: ∀ (m:G8) (p:V7),p.dummy=none->(zC t m p).dummy=none:=λm=>by
  induction m with
  |zero=>exact λp hp=>hp
  |succ m ihm=>exact λp hp=>ihm _ (by unfold a9;split<;>exact hp)
 have out:=Cl (f:=λi=>(es[i]?.map (·.1)).getD 0) (h:=h) l.dum r (10*I0 t.mask) (zC t k (t.probeStart h)) (by omega) (by rw [ad,kr];exact em) (λm hm=>by rw [ad];exact ne _ (by omega)) (dn _ _ rfl);have e0:t.probe (λi=>(es[i]?.map (·.1)).getD 0) h (ū.getD (t.probeStart h))=Y0 t (λi=>(es[i]?.map (·.1)).getD 0) h (10*I0 t.mask) (zC t k (t.probeStart h)):=by rw [st];rfl
 rw [<-e0] at out;split
 ·rename_i met X0C;have X0C:t.probe (λi=>(es[i]?.map (·.1)).getD 0) h (ū.getD (t.probeStart h))=some met:=X0C;rw [X0C] at out;rcases out with ⟨e,no⟩|⟨m,i,mr,sl,hi,no,e⟩
  ·injection e with e
   subst e;dsimp only;refine G9 ?_;rw [ad,kr];refine free λm i hm sl hi=> ?_
   rcases Q4 m k with z|z
   ·exact old m i z sl hi
   ·refine absurd hi (no (m-k) (by omega) i ?_);rw [ad,J7 z];exact sl
  ·injection e with e
   subst e;dsimp only;obtain⟨y,ei⟩: ∃y,es[i]? =some (h,y):=by
    obtain⟨lt,_⟩:=F8.mp (RG sl);have sz:i<es.size:=by have:=l.size;rw [G1,P8] at this;omega
    rw [bO sz] at hi ⊢;have hi:es[i].1=h:=hi;exact⟨es[i].2,by rw [<-hi]⟩
   cases hl:t.led
   ·simp only [uB,↓reduceIte];refine wpAny_bind (G0X _ ?_);simp only [F9,↓reduceIte];rw [ei];dsimp only;refine wpAny_bind (cmp i y ei _ ?_);refine wpAny_bind (E8 ho rfl fit ?_);dsimp only;cases ek:eqk i with
    |true=>simp only [pN,↓reduceIte];exact G9 (there i y ei ek)
    |false=>
     simp only [cC,F9,↓reduceIte,Gf,sl,ei];obtain⟨b,rfl⟩:=refs i y ei;refine wpAny_bind (Gg ?_);refine wpAny_bind (G9 ?_);simp only [↓reduceIte];refine ih (r-(m+1)) (by omega) (k+(m+1)) fuel (some _) (by omega) (by omega) (by show zC t (m+1) _=_;rw [ad]) (λm' i' Ρ ţ hi'=> ?_);rcases Q4 m' k with z|z
     ·exact old m' i' z ţ hi'
     ·have e1:zC t m' (t.probeStart h)=zC t (m'-k) (zC t k (t.probeStart h)):=by rw [ad,J7 z]
      rw [e1] at ţ;rcases Q4 (m'-k) m with y|y
      ·exact absurd hi' (no (m'-k) y i' ţ)
      ·have e2:m'-k=m:=by omega
       rw [e2,sl] at ţ;injection ţ with ţ
       rw [<-ţ];exact ek
   ·simp only [g4,F9,↓reduceIte];rw [ei];dsimp only;refine wpAny_bind (cmp i y ei _ ?_);refine wpAny_bind (E8 ho rfl fit ?_);dsimp only;cases ek:eqk i with
    |true=>simp only [pN,↓reduceIte];exact G9 (there i y ei ek)
    |false=>
     simp only [cC,F9,↓reduceIte,Gf,sl,ei];obtain⟨b,rfl⟩:=refs i y ei;refine wpAny_bind (Gg ?_);refine wpAny_bind (G9 ?_);simp only [↓reduceIte];refine ih (r-(m+1)) (by omega) (k+(m+1)) fuel (some _) (by omega) (by omega) (by show zC t (m+1) _=_;rw [ad]) (λm' i' Ρ ţ hi'=> ?_);rcases Q4 m' k with z|z
     ·exact old m' i' z ţ hi'
     ·have e1:zC t m' (t.probeStart h)=zC t (m'-k) (zC t k (t.probeStart h)):=by rw [ad,J7 z]
      rw [e1] at ţ;rcases Q4 (m'-k) m with y|y
      ·exact absurd hi' (no (m'-k) y i' ţ)
      ·have e2:m'-k=m:=by omega
       rw [e2,sl] at ţ;injection ţ with ţ
       rw [<-ţ];exact ek
 ·rename_i X0C;rcases out with ⟨e,_⟩|⟨_,_,_,_,_,_,e⟩<;>exact(X0C _ e).elim
def Pa {Q:SetFound->G3->Prop}{x:G2}{h:P4}(l:Laid t (es.toList.map (·.1)))(few:t.mask<=9000)(ho:s.heap.get? a=some (yH es ep t))
 (refs: ∀ (i:G8) (y:G2),es[i]? =some (h,y)-> ∃b,y= .ref b)
 (G0X: ∀Q':N0->G3->Prop,Q' false s->D8 (R3 prog w) A (dD x ((es.filter (·.1==h)).toList.map (·.2))) Q' E s)
 (cmp: ∀ (i:G8) (y:G2),es[i]? =some (h,y)-> ∀Q':N0->G3->Prop,Q' (eqk i) s->D8 (R3 prog w) A (aR [y] (eqBool y x)) Q' E s)
 (free: ∀j,(∀ (i:G8) (y:G2),es[i]? =some (h,y)->eqk i=false)->t.slot j= .empty->j<=t.mask->Way t h j->Q (.free j false) s)
 (there: ∀ (i:G8) (y:G2),es[i]? =some (h,y)->eqk i=true->Q (.there none) s):D8 (R3 prog w) A (setSearch a x h true) Q E s:=by
 obtain⟨n,nb,em,ne,met⟩:=l.search h;refine XG l ho refs G0X cmp em nb ne (λal=>free _ (λi y e=> ?_) em (XF n _ (Us t h)) ⟨n,rfl,ne⟩) there n 0 100000 none (X5 n) (by unfold I0 at nb;omega) rfl (λm i hm=>absurd hm (aP _));have e1:(es.toList.map (·.1))[i]? =some h:=by
  rw [P7,M9,e];rfl
 obtain⟨m,hm,sl⟩:=met i e1;exact al m i hm sl (by rw [e];rfl)
theorem Laid.plain {hs:G0 P4}(l:Laid t hs)(b:N0):Laid {t with plain:=b} hs:=
 ⟨l.pow,l.big,l.dum,l.rise,l.size,l.room,l.low,λi h j x y=>Way.more (t:=t) (u:= {t with plain:=b}) rfl (λ_ z=>z) (l.way i h j x y)⟩
def Pb (es:S5 (P4×G2))(h:P4)(x:G2)(p:G8):(X6 es p (h,x)).toList.map (·.1)=(es.toList.map (·.1)).take p++h::(es.toList.map (·.1)).drop p:=by
 rw [e7,T6,M0,lS,lU]
theorem Gh: ∀ (fuel k n:G8),bL n fuel (2^k)<=2^k\/bL n fuel (2^k)<=2*n
 |0,k,n=> .inl (P2 _)
 |fuel+1,k,n=>by
  unfold bL
  by_cases c:2^k<=n
  ·rw [R6 c,<-Q5];rcases Gh fuel (k+1) n with z|z
   ·refine .inr (R1 z ?_);rw [Q5];omega
   ·exact .inr z
  ·rw [R9 c];exact .inl (P2 _)
def XH {hashes:S5 P4}{w:G8}(hw:hashes.size<=w)(few:w<=40000):K8 w<=80008/\ ∃t' order,t.relaid hashes w=some (t',order)/\t'.led=t.led/\w<=t'.mask/\t'.mask<=2*w+8/\order.toList.Perm (D6 hashes.size)/\Laid t' (order.toList.map λi=>hashes.toList.getD i 0):=by
 obtain⟨m,a,b,c⟩:=above (n:=w) (by omega);have u:K8 w<=8\/K8 w<=2*w:=Gh 64 3 w;refine⟨by omega,?_⟩;obtain⟨t',order,x,mk,y,z,p,q⟩:=Lo (mask:=K8 w-1) (finger:=t.finger) (moves:=t.movedTo (K8 w-1)) (led:=t.led) (plain:=t.plain) (hashes:=hashes) (n:=m) (by rw [<-a];omega) (by omega) (by omega);exact⟨t',order,x,y,by rw [mk];omega,by rw [mk];omega,p,q⟩
def RK {Q:Unit->G3->Prop}{wd:G8}(l:Laid t (es.toList.map (·.1)))(ho:s.heap.get? a=some (yH es ep t))(hw:es.size<=wd)(few:wd<=40000)
 (k: ∀Ö t' h',Ö.toList.Perm es.toList->Laid t' (Ö.toList.map (·.1))->t'.led=t.led->wd<=t'.mask->t'.mask<=2*wd+8->h'.get? a=some (yH Ö (ep+1) t')->O9 a s.heap h'->Q () {s with heap:=h'}):D8 (R3 prog w) A (IM a wd) Q E s:=by
 have fit:t.fits es.size=true:=l.fits (by rw [G1,P8]);obtain⟨up,t',order,er,ld,m1,m2,pm,l'⟩:=XH (t:=t) (hashes:=es.map (·.1)) (w:=wd) (by rw [uC];exact hw) few;unfold IM;refine wpAny_bind (E8 ho rfl fit ?_);dsimp only;rw [er];have sl: ¬K8 wd>sizeLine:=aO.mpr (R1 up (by decide));simp only [sl,↓reduceIte];have fe: ∀l:G0 G8,(∀i∈l,i<es.size)->l.filterMap (λi=>es[i]?)=l.map (λi=>es.toList.getD i (0,.none)):=λl=>by
  induction l with
  |nil=>exact λ_=>rfl
  |cons i l ih=>
   intro h;have hi:=h i D3;have e:es[i]? =some (es.toList.getD i (0,.none)):=by
    rw [R4,M9,bO hi];rfl
   rw [List.filterMap_cons_some e,M0,ih λx hx=>h x (S1 _ hx)]
 rw [uC] at pm;have lt: ∀i∈order.toList,i<es.size:=λi hi=>S4.mp (pm.mem_iff.mp hi)
 have e1:(order.filterMap (es[·]?)).toList=order.toList.map (λi=>es.toList.getD i (0,.none)):=by
  rw [Array.toList_filterMap];exact fe _ lt
 have e2:es.toList=(D6 es.size).map (λi=>es.toList.getD i (0,.none)):=by
  have:=jT es.toList (0,(.none:G2))
  rwa [P8] at this
 have pe:(order.filterMap (es[·]?)).toList.Perm es.toList:=by
  have:=pm.map (λi=>es.toList.getD i (0,.none));rw [<-e2] at this;rw [e1];exact this
 have sz:(order.filterMap (es[·]?)).size=es.size:=by have:=pe.length_eq;rwa [P8,P8] at this
 have hh:(order.filterMap (es[·]?)).toList.map (·.1)=order.toList.map λi=>(es.map (·.1)).toList.getD i 0:=by
  rw [e1,M7];refine B2 λi hi=> ?_
  show (es.toList.getD i (0,.none)).1=(es.map (·.1)).toList.getD i 0;have z:i<es.toList.length:=by rw [P8];exact lt i hi
  rw [rP,R4,R4,P7,G5 z];rfl
 rw [<-hh] at l';refine wpAny_bind ?_;show D8 _ _ (ite _ _ _) _ _ _;rw [R9 (by rw [sz];simp)];refine G9 ?_;dsimp only;exact qY (s:=s) ho rfl (k _ t' _ pe l' ld m1 m2 (F7 _ ho rfl) (L9 ..)) (by rw [sz];exact R1 (show es.size<=40000 by omega) (by decide))
def Lp {Q:N0->G3->Prop}{b:P3}{h:P4}{bv:N0}{fuel:G8}(l:Laid t (es.toList.map (·.1)))(few:t.mask<=9000)(lean:es.size*5<t.mask*3)(ho:s.heap.get? a=some (yH es ep t))
 (refs: ∀ (i:G8) (y:G2),es[i]? =some (h,y)-> ∃b,y= .ref b)
 (G0X: ∀Q':N0->G3->Prop,Q' false s->D8 (R3 prog w) A (dD (.ref b) ((es.filter (·.1==h)).toList.map (·.2))) Q' E s)
 (cmp: ∀ (i:G8) (y:G2),es[i]? =some (h,y)-> ∀Q':N0->G3->Prop,Q' (eqk i) s->D8 (R3 prog w) A (aR [y] (eqBool y (.ref b))) Q' E s)
 (byv: ∀Q':N0->G3->Prop,Q' bv s->D8 (R3 prog w) A (fZ 8 (.ref b)) Q' E s)
 (new:(∀ (i:G8) (y:G2),es[i]? =some (h,y)->eqk i=false)-> ∀Ö é t' h',Ö.toList.Perm (es.push (h,.ref b)).toList->Laid t' (Ö.toList.map (·.1))->t'.mask<=max t.mask (8*es.size+16)->Ö.size*5<t'.mask*3->t'.led=t.led->h'.get? a=some (yH Ö é t')->O9 a s.heap h'->Q true {s with heap:=h'})
 (there: ∀ (i:G8) (y:G2),es[i]? =some (h,y)->eqk i=true->Q false s):D8 (R3 prog w) A (oT a (.ref b) h (fuel+1)) Q E s:=by
 have fit:t.fits es.size=true:=l.fits (by rw [G1,P8]);have sz:(es.toList.map (·.1)).length=es.size:=by rw [G1,P8]
 unfold oT;refine wpAny_bind (E8 ho rfl fit ?_);dsimp only;rw [show byScan (.ref b) es=false from rfl];simp only [F9,↓reduceIte];refine wpAny_bind (Pa (eqk:=eqk) l few ho refs G0X cmp (λj no em jm wy=> ?_) (λi y e ek=> ?_))
 ·dsimp only;refine wpAny_bind (E8 ho rfl fit ?_);dsimp only;have l1:=l.put em jm wy (by rw [sz];have:=l.big;omega);have l1:=(congrArg (Laid (t.put j).1) (Pb es h (.ref b) (t.put j).2)).mpr l1;have z0:(X6 es (t.put j).2 (h,.ref b)).size=es.size+1:=by
   have:=(gK es (t.put j).2 (h,(.ref b:G2))).length_eq;rw [P8,P8,sU] at this;exact this
  have z1:(X6 es (t.put j).2 (h,.ref b)).size<=sizeLine:=by
   rw [z0];exact R1 (show es.size+1<=10000 by omega) (by decide)
  have rest: ∀t2:N3,Laid t2 ((X6 es (t.put j).2 (h,.ref b)).toList.map (·.1))->t2.led=t.led->t2.mask=t.mask->D8 (R3 prog w) A (do storeSet a (X6 es (t.put j).2 (h,.ref b)) t2;if (!false&&t2.tooFull)=true then (do IM a (dJ (es.size+1));pure true) else pure true) Q E s:=λt2 l2 ld mk=>by
   refine wpAny_bind (qY (s:=s) ho rfl ?_ z1);have o1:(s.heap.update a (Obj.putSet (X6 es (t.put j).2 (h,.ref b)) t2)).get? a=some (yH (X6 es (t.put j).2 (h,.ref b)) (ep+1) t2):=F7 _ ho rfl;cases tf:t2.tooFull with
   |true=>
    simp only [uB,pN,↓reduceIte];refine wpAny_bind (RK (wd:=dJ (es.size+1)) (ep:=ep+1) l2 o1 (by rw [z0];unfold dJ;split<;>omega) (by unfold dJ;split<;>omega) λÖ t' h' pe l' ld' m1 m2 o2 sb=> ?_);refine G9 (new no Ö (ep+1+1) t' h' (pe.trans (gK ..)) l' ?_ ?_ (ld'.trans ld) o2 (G0o (L9 ..) sb))
    ·unfold dJ at m2;split at m2<;>omega
    ·have:=pe.length_eq;rw [P8,P8,z0] at this;unfold dJ at m1;split at m1<;>omega
   |false=>
   simp only [cC,F9,↓reduceIte];refine G9 (new no _ (ep+1) t2 _ (gK ..) l2 (by omega) ?_ ld (F7 _ ho rfl) (L9 ..));rw [z0];have s2:=l2.size;rw [G1,P8,z0] at s2;have: ¬ (t2.fill*5>=t2.mask*3):=by simpa [G0H] using tf
   have f2:t2.fill=es.size+1:=by unfold v9;rw [l2.dum,s2];rfl
   omega
  cases hp:(t.put j).1.plain
  ·simp only [F9,↓reduceIte];refine wpAny_bind (G9 ?_);simp only [↓reduceIte];exact rest (t.put j).1 l1 rfl rfl
  ·simp only [↓reduceIte];refine wpAny_bind (byv _ ?_);cases bv
   ·simp only [F9,↓reduceIte];exact rest _ (l1.plain false) rfl rfl
   ·simp only [↓reduceIte];exact rest (t.put j).1 l1 rfl rfl
 ·exact G9 (there i y e ek)
end L2
namespace L2
open PySem PySem.Spec PyProof.Rows HT
def RL (h h':L8):Prop:= ∀ (b:P3) (o:Obj),o.cls= .type "tuple" ->h.get? b=some o->h'.get? b=some o
theorem yQ {α β:Type}{M:qA}{A:N4}{E:G2->G3->Prop}{s:G3}{f:α->β->Sem (fT β)}{r:β}{Q:β->G3->Prop}: ∀ (l:G0 α),(∀x∈l,∀Q':fT β->G3->Prop,Q' (.yield r) s->D8 M A (f x r) Q' E s)->Q r s->D8 M A (forIn l r f) Q E s
 | [],_,q=>G9 q
 |x::l,h,q=>by
  rw [bQ];exact wpAny_bind (h x (.head _) _ (yQ l (λy hy=>h y (.tail _ hy)) q))
structure Ŭ (prog:S6)(w:B3)(K:Type)[DecidableEq K] where
 is:L8->K->P3->Prop
 hash:K->P4
 inj: ∀ {h:L8} {x y:K} {a:P3},is h x a->is h y a->x=y
 keep: ∀ {h h':L8} {x:K} {a:P3},RL h h'->is h x a->is h' x a
 hashed: ∀ {A:N4} {E:G2->G3->Prop} {s:G3} {x:K} {a:P3} {Q:P4->G3->Prop},A.units+8<cLine->is s.heap x a->(∀tk,Q (hash x) {s with toks:=tk})->D8 (R3 prog w) A (pyHash (.ref a)) Q E s
 same: ∀ {A:N4} {E:G2->G3->Prop} {s:G3} {x y:K} {a b:P3} {Q:N0->G3->Prop},A.units+8<cLine->is s.heap x a->is s.heap y b->Q (decide (x=y)) s->D8 (R3 prog w) A (eqBool (.ref a) (.ref b)) Q E s
 quiet: ∀ {A:N4} {E:G2->G3->Prop} {s:G3} {x:K} {a:P3} {Q:N0->G3->Prop},is s.heap x a->Q true s->D8 (R3 prog w) A (o6 8 (.ref a)) Q E s
 cls: ∀ {A:N4} {E:G2->G3->Prop} {s:G3} {x:K} {a:P3} {Q:N0->G3->Prop},is s.heap x a->Q false s->D8 (R3 prog w) A (aJ 8 (.ref a)) Q E s
 byv: ∀ {A:N4} {E:G2->G3->Prop} {s:G3} {x:K} {a:P3} {Q:N0->G3->Prop},is s.heap x a->Q true s->D8 (R3 prog w) A (fZ 8 (.ref a)) Q E s
section
variable {prog:S6}{w:B3}{A:N4}{E:G2->G3->Prop}{s:G3}{K:Type}[DecidableEq K]
def Lq (M:Ŭ prog w K){x:K}{a:P3}{rH:G0 G2}{Q:N0->G3->Prop}(hx:M.is s.heap x a)(hs: ∀y∈rH,∃k b,y= .ref b/\M.is s.heap k b)(q:Q false s):D8 (R3 prog w) A (dD (.ref a) rH) Q E s:=by
 unfold dD;refine wpAny_bind (yQ rH (λy hy Q' q'=> ?_) (G9 q));obtain⟨k,b,rfl,hk⟩:=hs y hy
 by_cases c:(a==b)=true
 ·simp only [c,Bool.true_or,↓reduceIte];exact G9 q'
 ·simp only [c,show uD (.ref a)=false from rfl,iV,uO,F9,↓reduceIte];refine wpAny_bind (M.quiet hx (wpAny_bind (M.quiet hk (wpAny_bind (M.cls hx (wpAny_bind (M.cls hk ?_)))))));exact G9 q'
structure Ċ (M:Ŭ prog w K)(L:N0)(is:K->P3->Prop)(f:P4×G2->K)(es:S5 (P4×G2))(t:N3)(ks:G0 K):Prop where
 laid:Laid t (es.toList.map (·.1))
 led:t.led=L
 lean:es.size*5<t.mask*3
 mask:t.mask<=8*es.size+16
 each: ∀e∈es.toList,e.1=M.hash (f e)/\ ∃b,e.2= .ref b/\is (f e) b
 nd:(es.toList.map f).Nodup
 mem: ∀k,k∈es.toList.map f↔k∈ks
theorem yR: ∀ {xs ys:G0 K},xs.Nodup->(∀x∈xs,x∈ys)->xs.length<=ys.length
 | [],_,_,_=>N7 _
 |x::xs,ys,nd,h=>by
  obtain⟨n1,n2⟩:=V9.mp nd;have le:=yR (ys:=ys.erase x) n2 λy hy=>(dF (λ(e:y=x)=>n1 (by rw [<-e];exact hy))).mpr (h y (.tail _ hy))
  rw [b7 (h x (.head _))] at le;have pos:=cL (h x (.head _));rw [D2];omega
def Ċ.tab {M:Ŭ prog w K}{L:N0}{is:K->P3->Prop}{f:P4×G2->K}{es:S5 (P4×G2)}{t:N3}{ks:G0 K}(S:Ċ M L is f es t ks):Tab L es.size t:=
 ⟨S.laid.fits (by rw [G1,P8]),S.led,S.laid.dum,λ_=>S.laid.rise⟩
def Ċ.imp {M:Ŭ prog w K}{L:N0}{is is':K->P3->Prop}{f:P4×G2->K}{es:S5 (P4×G2)}{t:N3}{ks:G0 K}(S:Ċ M L is f es t ks)(h: ∀k b,is k b->is' k b):Ċ M L is' f es t ks:=
 ⟨S.laid,S.led,S.lean,S.mask,λe he=>by
  obtain⟨a,b,c,d⟩:=S.each e he;exact⟨a,b,c,h _ _ d⟩,S.nd,S.mem⟩
def RM {M:Ŭ prog w K}{L:N0}{is:K->P3->Prop}{f:P4×G2->K}{es:S5 (P4×G2)}{ep:G8}{t:N3}{ks:G0 K}{a b:P3}{k:K}{Q:N0->G3->Prop}(hu:A.units+8<cLine)(S:Ċ M L is f es t ks)(ho:s.heap.get? a=some (yH es ep t))(few:es.size<1000)(to: ∀k b,is k b->M.is s.heap k b)(hk:is k b)
 (q: ∀r f' Ö é t' h' tk,Ċ M L is f' Ö t' (k::ks)->h'.get? a=some (yH Ö é t')->O9 a s.heap h'->Q r {s with heap:=h',toks:=tk}):D8 (R3 prog w) A (setAdd a (.ref b)) Q E s:=by
 refine O5 (wpAny_bind (M.hashed hu (to _ _ hk) λtk=>O5 ?_));show D8 _ _ (oT a (.ref b) (M.hash k) (99999+1)) _ _ _;have at_: ∀ (i:G8) (y:G2),es[i]? =some (M.hash k,y)->(M.hash k,y)∈es.toList:=λi y e=>by
  rw [<-M9] at e;exact P6 e
 refine Lp (s:= {s with toks:=tk}) (eqk:=λi=>match es[i]? with
  |some e=>decide (f e=k)
  |none=>false) (bv:=true) S.laid (R1 S.mask (by omega)) S.lean ho (λi y e=> ?_) (λQ' q'=> ?_) (λi y e Q' q'=> ?_) (λQ' q'=>M.byv (to _ _ hk) q') (λno Ö é t' h' pe l' mk ln ld o' sb=> ?_) (λi y e ek=> ?_)
 ·obtain⟨_,c,d,_⟩:=S.each _ (at_ i y e);exact⟨c,d⟩
 ·refine Lq M (to _ _ hk) (λy hy=> ?_) q';obtain⟨e,he,rfl⟩:=R7.mp hy;obtain⟨_,c,d,i⟩:=S.each e (by rw [Array.toList_filter] at he;exact(U1.mp he).1);exact⟨_,c,d,to _ _ i⟩
 ·obtain⟨_,c,d,i'⟩:=S.each _ (at_ i y e);have d:y= .ref c:=d;subst d;simp only [e] at q';exact O5 (M.same hu (to _ _ i') (to _ _ hk) q')
 ·have kn:k ∉ ks:=λz=>by
   obtain⟨e,he,fe⟩:=R7.mp ((S.mem k).mpr z);obtain⟨i,hi⟩:=dH he;obtain⟨e1,e2⟩:=e;have h1:=(S.each _ he).1;rw [fe] at h1;have h1:e1=M.hash k:=h1;subst h1;have hi:es[i]? =some (M.hash k,e2):=by rw [<-M9];exact hi
   have:=no i e2 hi;simp only [hi,fe,IN] at this;cases this
  have same: ∀e∈es.toList,(if e=(M.hash k,.ref b) then k else f e)=f e:=λe he=>by
   by_cases c:e=(M.hash k,.ref b)
   ·rw [R6 c];obtain⟨_,c',d,i⟩:=S.each e he;rw [c] at d;cases d;exact M.inj (to _ _ hk) (to _ _ i)
   ·rw [R9 c]
  have me:(es.toList.map λe=>if e=(M.hash k,.ref b) then k else f e)=es.toList.map f:=B2 same;have pk:=pe.map λe=>if e=(M.hash k,.ref b) then k else f e
  rw [V2,T6,me] at pk;have one:(G0U (λe=>if e=(M.hash k,.ref b) then k else f e) [(M.hash k,.ref b)])= [k]:=by simp
  rw [one] at pk;have sz:Ö.size=es.size+1:=by
   have:=pe.length_eq
   rwa [P8,P8,sU] at this
  refine q true (λe=>if e=(M.hash k,.ref b) then k else f e) Ö é t' h' tk ⟨l',ld.trans S.led,ln,?_,λe he=> ?_,pk.nodup_iff.mpr ?_,λm=>pk.mem_iff.trans ?_⟩ o' sb
  ·have:=S.mask;rw [sz];omega
  ·have z:=pe.mem_iff.mp he;rw [V2] at z;rcases D1.mp z with z|z
   ·rw [same e z];exact S.each e z
   ·have z:=P0.mp z;subst z;rw [R6 rfl];exact⟨rfl,b,rfl,hk⟩
  ·rw [bY];refine⟨S.nd,by simp,λx hx y hy e=> ?_⟩;have:y=k:=by simpa using hy
   subst this;subst e;exact kn ((S.mem _).mp hx)
  ·rw [D1,S.mem m,P0,S0,or_comm]
 ·have hin:k∈ks:=by
   simp only [e,X4] at ek;rw [<-ek];exact(S.mem _).mp (J6 (at_ i y e))
  refine q false f es ep t s.heap tk ⟨S.laid,S.led,S.lean,S.mask,S.each,S.nd,λm=>(S.mem m).trans ?_⟩ ho (cY _ _)
  ·rw [S0];exact⟨.inr,λz=>z.elim (λe=>e ▸ hin) id⟩
end
section
variable {prog:S6}{w:B3}{A:N4}{E:G2->G3->Prop}{s:G3}
def Lr (n:G8){v:G2}(h:uD v=true):aJ n v=pure false:=by
 cases v<;>first|(cases h;done)|simp [aJ]
def Co {n:P4}{v:G2}(h:(intKind prog w).is n v=true): ∃tk,v= .int n tk:=by
 cases v<;>simp [intKind,nU] at h;exact⟨_,by rw [h]⟩
def Pc {ks:G0 P4}{vs:G0 G2}(h:ItemsAre (intKind prog w) ks vs): ∀v∈vs,∃n tk,v= .int n tk:=by
 induction h with
 |nil=>exact λv hv=>absurd hv C5
 |cons h1 _ ih=>
  intro v hv;rcases S0.mp hv with rfl|hv
  ·obtain⟨tk,e⟩:=Co h1;exact⟨_,tk,e⟩
  ·exact ih v hv
def RN (d:G8){x:G0 P4}{a:P3}{Q:N0->G3->Prop}:kJ (intKind prog w) s.heap x a->Q false s->D8 (R3 prog w) A (aJ (d+1) (.ref a)) Q E s
 |⟨_,_,_,ho,hc,hd,hi⟩,q=>by
  unfold aJ;refine wpAny_bind (f8 (T:= "tuple") ⟨_,ho,hc⟩ ?_);simp only [a8,↓reduceIte,pure_bind,g4,F9];refine wpAny_bind (dL ho hd (wpAny_bind ?_));simp only [<-U0];refine yQ _ (λv hv Q' q'=> ?_) (G9 q);rw [Lr d (hi.byValue v hv)];exact G9 q'
def Ls (d:G8)(m:P4)(tk:Tok):fZ d (.int m tk)=pure true:=by cases d<;>rfl
def RO (d:G8){x:G0 P4}{a:P3}{Q:N0->G3->Prop}:kJ (intKind prog w) s.heap x a->Q true s->D8 (R3 prog w) A (fZ (d+1) (.ref a)) Q E s
 |⟨_,_,_,ho,hc,hd,hi⟩,q=>by
  unfold fZ;refine wpAny_bind (aM (T:= "tuple") ⟨_,ho,hc⟩ F.slot_tuple_hash.lookup ?_);refine wpAny_bind (dL ho hd (wpAny_bind ?_));simp only [dR,<-U0];refine yQ _ (λv hv Q' q'=> ?_) (G9 q);obtain⟨m,tk,rfl⟩:=Pc hi v hv;rw [Ls];exact G9 q'
noncomputable def KR (prog:S6)(w:B3):Ŭ prog w (G0 P4) where
 is:=λh x a=>kJ (intKind prog w) h x a
 hash:=Y1 (intKind prog w)
 inj:=λhx hy=>hx.inj hy
 keep:=λk ⟨o,items,n,ho,hc,hd,hi⟩=>⟨o,items,n,k _ o hc ho,hc,hd,hi⟩
 hashed:=λhu hk q=>kK (by omega) hk (q _)
 same:=λhu hx hy q=>pX (by omega) hx hy q
 quiet:=λhk q=>wpAny_eqIsQuiet_tuple hk q
 cls:=λhk q=>RN 7 hk q
 byv:=λhk q=>RO 7 hk q
end
end L2
namespace L2
open PySem PySem.Spec PyProof.Rows HT PySem.SeqAt
section
variable {prog:S6}{w:B3}{A:N4}{E:G2->G3->Prop}{a I:P3}{fp wr:G0 P3}{n:G8}{P:G8->G2->Prop}{St:G8->L8->Prop}{K:Type}[DecidableEq K]{M:Ŭ prog w K}{L:N0}{is:K->P3->Prop}{key:G8->K}
theorem JY {R:n6->G3->Prop}(hu:A.units+16<cLine)(W:Walks prog w A.in1 I fp wr n P St)(num: ∀i v,P i v-> ∃b,v= .ref b/\is (key i) b)(na:a ∉ fp)(B:G0 K)(few:B.length<1000)(inB: ∀i,i<n->key i∈B)(nt: ∀i h,St i h-> ∀b∈wr,∀o,h.get? b=some o->o.cls≠ .type "tuple"):
 ∀ (k i:G8) (s:G3) (f:P4×G2->K) (es:S5 (P4×G2)) (ep:G8) (t:N3),i+k=n->St i s.heap->s.heap.get? a=some (yH es ep t)->(∀k b,is k b->M.is s.heap k b)->Ċ M L is f es t ((D6 i).map key).reverse->
  (∀h' tk f' Ö é t',h'.get? a=some (yH Ö é t')->Ċ M L is f' Ö t' ((D6 n).map key).reverse->(∀b o,b≠a->b ∉ wr->s.heap.get? b=some o->h'.get? b=some o)->R (.ok (.ret .none)) {s with heap:=h',toks:=tk})->
  bR (R3 prog w) A (.builtin "set.update.loop" ⟨[.ref a,.ref I],[]⟩) R s
 |0,i,s,f,es,ep,t,hk,st,ha,to,S,q=>by
  obtain rfl:i=n:=by omega
  refine Y6 Uh ?_;rw [aB Wh];exact wpAny_bind (W.done s _ _ st λh' tk kept=>G9 (q h' tk f es ep t (kept _ _ (λz=>na (W.sub _ z)) ha) S λb o _ nb e=>kept b o nb e))
 |k+1,i,s,f,es,ep,t,hk,st,ha,to,S,q=>by
  refine Y6 Uh ?_;rw [aB Wh];refine wpAny_bind (W.item i s _ _ (by omega) st λv h1 tk1 pv st1 X0j=> ?_);obtain⟨b,rfl,hb⟩:=num i v pv;have ha1:=X0j _ _ (λz=>na (W.sub _ z)) ha;have to1: ∀k b,is k b->M.is h1 k b:=λk b z=>M.keep (λc o hc e=>X0j c o (λm=>nt i _ st c m o e hc) e) (to k b z)
  refine wpAny_bind (O5 (RM (s:= {s with heap:=h1,toks:=tk1}) (show A.units+1+8<cLine by omega) S ha1 (Q9 (by
   have:=yR (ys:=B) S.nd λk hk=>by
    obtain⟨j,hj,rfl⟩:=R7.mp (L0.mp ((S.mem k).mp hk));exact inB j (by have:=S4.mp hj;omega)
   rwa [G1,P8] at this) few) to1 hb λr f2 es2 ĕ t2 h2 tk2 S2 ha2 X0k=>G9 ⟨e9 Wh _,?_⟩))
  have S3:Ċ M L is f2 es2 t2 ((D6 (i+1)).map key).reverse:=by
   rw [fC,T6,List.reverse_append];exact S2
  have kep: ∀c o,o.cls= .type "tuple" ->h1.get? c=some o->h2.get? c=some o:=λc o hc e=>X0k.extBut _ _ (λz=>by
   subst z;rw [show h1.get? c=some (yH es ep t) from ha1] at e;cases e;exact absurd (show pP "set" =pP "tuple" from hc) (by decide)) e
  refine JY hu W num na B few inB nt k (i+1) {s with heap:=h2,toks:=tk2} f2 es2 ĕ t2 (by omega) (W.frame _ _ _ st1 λb hb o e=>X0k.extBut _ _ (λz=>na (z ▸ hb)) e) ha2 (λk b z=>M.keep kep (to1 k b z)) S3 λh' tk' f' Ö é t' ha' S' X1e=> ?_
  exact q h' tk' f' Ö é t' ha' S' λb o ba bw e=>X1e b o ba bw (X0k.extBut _ _ ba (X0j b o bw e))
def Gi (L:N0)(f:P4×G2->K):Ċ M L is f #[] (.fresh 0 0 L) []:=⟨GZ 0 0 L,rfl,(by show 0*5<7*3;decide),(by show 7<=8*0+16;decide),λe he=>absurd he (by simp),by simp,λk=>by simp⟩
variable {s:G3}
def RQ {l:P3}{vs:G0 G2}{ep:G8}{T:W1}{Q:P9 G2->G3->Prop}(B:G0 K)(X0I:B.length<1000)(inB: ∀i,i<vs.length->key i∈B)(hu:A.units+32<cLine)(calm:A.handled=none)(hT:T= "list" \/T= "tuple")
 (hl: ∃o,s.heap.get? l=some o/\o.cls= .type T/\ ∃c,o.data= .seq vs.toArray c)(hM: ∀i v,vs[i]? =some v-> ∃b,v= .ref b/\is (key i) b)(to: ∀k b,is k b->M.is s.heap k b)(ha:s.heap.get? a=some (yH #[] ep (.fresh 0 0 (wO w))))(la:l≠a)
 (k: ∀h' tk f' Ö é t',h'.get? a=some (yH Ö é t')->Ċ M (wO w) is f' Ö t' ((D6 vs.length).map key).reverse->(∀b o,b≠a->s.heap.get? b=some o->h'.get? b=some o)->Q (some .none) {s with heap:=h',toks:=tk}):
 D8 (R3 prog w) A (qN (.ref a) "__init__" [.ref l]) Q E s:=by
 have ty:s.TypeIs (.ref a) "set" :=⟨_,ha,rfl⟩;refine F5 ty F.called_set.init (mJ (g9 F.called_set.init.plain WM (YY ty ?_)));have f1:=Ui;have f2:=Uj;have f3:=Xw;have f4:=Xx;obtain⟨⟨oc,od,odt,ŵ⟩,Ű,hc,c,hd⟩:=hl;simp only at hc hd;subst hc hd;have state:=λ{P:S5 (P4×G2)×G8×N3->G3->Prop} {E':G2->G3->Prop} {A':N4}=>E8 (prog:=prog) (w:=w) (A:=A') (E:=E') (Q:=P) (s:=s) ha rfl (NP (wO w)).tab.fits
 have far:a≠s.heap.objs.size:=λz=>C1 _ (z ▸ D0 ha)
 have X1p:l≠s.heap.objs.size:=λz=>C1 _ (z ▸ D0 Ű)
 have na:a ∉ [s.heap.objs.size,l]:=by simp [far,la.symm]
 have sv:vs.toArray.size=vs.length:=D7 ..;have fin: ∀ {o:Obj} h' tk f' Ö é t',h'.get? a=some (yH Ö é t')->Ċ M (wO w) is f' Ö t' ((D6 vs.toArray.size).map key).reverse->(∀b ob,b≠a->b ∉ [s.heap.objs.size]->(s.heap.push o).get? b=some ob->h'.get? b=some ob)->Q (some .none) {s with heap:=h',toks:=tk}:=λh' tk f' Ö é t' e S kept=>by
  rw [sv] at S;exact k h' tk f' Ö é t' e S λb ob nb q=>kept b ob nb (λz=>C1 _ (P0.mp z ▸ D0 q)) (G6 _ q)
 have to1: ∀ (o:Obj) (k:K) (b:P3),is k b->M.is (s.heap.push o) k b:=λo k b z=>M.keep (λc ob hc e=>G6 _ e) (to k b z)
 rcases hT with rfl|rfl
 ·have tl:s.TypeIs (.ref l) "list" :=⟨_,Ű,rfl⟩;have isl:s.heap.IsList l vs.toArray:=⟨_,Ű,rfl,c,rfl⟩
  wp_walk using state,W8 isl
  refine JY (f:=λ_=>key 0) (M:=M) (is:=is) (key:=key) (show A.units+1+16<cLine by omega) (i7 (prog:=prog) (w:=w) (A:=A.in1.in1) calm s.heap.objs.size l X1p vs.toArray) (λi v hv=>hM i v (by simpa using hv)) na B X0I (by rw [sv];exact inB) (λi h st b hb o e=> ?_) vs.toArray.size 0 _ #[] ep _ (X5 _) ⟨⟨_,R0 _ rfl,rfl,rfl⟩,⟨_,G6 _ Ű,rfl,c,rfl⟩⟩ (G6 _ ha) (to1 _) (Gi _ _) λh' tk f' Ö é t' e S kept=>G9 (G9 (fin h' tk f' Ö é t' e S kept))
  obtain⟨⟨o',e',c',_⟩,_⟩:=st;rw [P0.mp hb,e'] at e;cases e;rw [c'];decide
 ·have tl:s.TypeIs (.ref l) "tuple" :=⟨_,Ű,rfl⟩;have isl:s.heap.IsTuple l vs.toArray:=⟨_,Ű,rfl,c,rfl⟩
  wp_walk using state,bF isl
  refine JY (f:=λ_=>key 0) (M:=M) (is:=is) (key:=key) (show A.units+1+16<cLine by omega) (sA (prog:=prog) (w:=w) (A:=A.in1.in1) calm s.heap.objs.size l X1p vs.toArray) (λi v hv=>hM i v (by simpa using hv)) na B X0I (by rw [sv];exact inB) (λi h st b hb o e=> ?_) vs.toArray.size 0 _ #[] ep _ (X5 _) ⟨⟨_,R0 _ rfl,rfl,rfl⟩,⟨_,G6 _ Ű,rfl,c,rfl⟩⟩ (G6 _ ha) (to1 _) (Gi _ _) λh' tk f' Ö é t' e S kept=>G9 (G9 (fin h' tk f' Ö é t' e S kept))
  obtain⟨⟨o',e',c',_⟩,_⟩:=st;rw [P0.mp hb,e'] at e;cases e;rw [c'];decide
def Ut {l:P3}{vs:G0 G2}{T:W1}{Q:G2->G3->Prop}(B:G0 K)(X0I:B.length<1000)(inB: ∀i,i<vs.length->key i∈B)(hu:A.units+40<cLine)(calm:A.handled=none)(hT:T= "list" \/T= "tuple")
 (hl: ∃o,s.heap.get? l=some o/\o.cls= .type T/\ ∃c,o.data= .seq vs.toArray c)(hM: ∀i v,vs[i]? =some v-> ∃b,v= .ref b/\is (key i) b)(to: ∀k b,is k b->M.is s.heap k b)
 (k: ∀h' tk f' Ö é t',h'.get? s.heap.objs.size=some (yH Ö é t')->Ċ M (wO w) is f' Ö t' ((D6 vs.length).map key).reverse->(∀b o,s.heap.get? b=some o->h'.get? b=some o)->Q (.ref s.heap.objs.size) {s with heap:=h',toks:=tk}):
 D8 (R3 prog w) A (call (.type "set") [.ref l]) Q E s:=by
 have fits:u4 "set" ⟨[.ref l],[]⟩=pure ():=by kernel_rfl
 have X0l:mG "set.__new__" ⟨[.type "set",.ref l],[]⟩=pure ():=by kernel_rfl
 obtain⟨o,Ű,r⟩:=hl;refine L2.Wd (Made:=λv s₁=>v= .ref s.heap.objs.size/\s₁= {s with heap:=s.heap.push (yH #[] 0 (.fresh 0 0 (wO w)))}) F.called_set fits
  (mJ (g9 F.called_set.plain F.entry_set_new (rX X0l (NQ ⟨rfl,rfl⟩)))) λv s₁ ⟨ev,es⟩=> ?_
 subst ev es;have at_:(s.heap.push (yH #[] 0 (.fresh 0 0 (wO w)))).get? s.heap.objs.size=some (yH #[] 0 (.fresh 0 0 (wO w))):=R0 _ rfl;refine⟨⟨_,at_,rfl⟩,RQ (s:= {s with heap:=s.heap.push (yH #[] 0 (.fresh 0 0 (wO w)))}) (M:=M) (is:=is) (key:=key) B X0I inB (show A.units+1+32<cLine by omega) calm hT ⟨o,G6 _ Ű,r⟩ hM (λk b z=>M.keep (λc o hc e=>G6 _ e) (to k b z)) at_ (λz=>C1 _ (z ▸ D0 Ű)) λh' tk f' Ö é t' e S kept=>⟨rfl,k h' tk f' Ö é t' e S λb ob q=>kept b ob (λz=>C1 _ (z ▸ D0 q)) (G6 _ q)⟩⟩
def Bk {l:P3}{vs:G0 G2}{T:W1}{Q:G2->G3->Prop}(hu:A.units+40<cLine)(calm:A.handled=none)(hT:T= "list" \/T= "tuple")
 (hl: ∃o,s.heap.get? l=some o/\o.cls= .type T/\ ∃c,o.data= .seq vs.toArray c)(hM: ∀i v,vs[i]? =some v-> ∃b,v= .ref b/\is (key i) b)(to: ∀k b,is k b->M.is s.heap k b)(few:vs.length<1000)
 (k: ∀h' tk f' Ö é t',h'.get? s.heap.objs.size=some (yH Ö é t')->Ċ M (wO w) is f' Ö t' ((D6 vs.length).map key).reverse->(∀b o,s.heap.get? b=some o->h'.get? b=some o)->Q (.ref s.heap.objs.size) {s with heap:=h',toks:=tk}):
 D8 (R3 prog w) A (call (.type "set") [.ref l]) Q E s:=
 Ut ((D6 vs.length).map key) (by rw [G1,S9];exact few) (λi hi=>J6 (S4.mpr hi)) hu calm hT hl hM to k
def XI {es:S5 (P4×G2)}{ep:G8}{t:N3}{κ:G0 G2->SortKind}{U:D9->Prop}{R:D9->D9->N0}{Q:G2->G3->Prop}(calm:A.handled=none)(S:Tab (wO w) es.size t)(ha:s.heap.get? a=some (yH es ep t))(few:es.size<1000)(x: ∀e∈es.toList,U (e.2,e.2))
 (hk: ∀ (vs:G0 G2) (s0:G3) (h':L8),2<=vs.length->(∀v∈vs,U (v,v))->WO s.heap h'->D8 (R3 prog w) A.in1.in1 (t8 vs.toArray) (λk s'=>k=κ vs/\HT.Only s0 h' s') (λ_ _=>False) {s0 with heap:=h'})(ak: ∀ (vs:G0 G2) (s0:G3) (h':L8),WO s.heap h'->Vb prog w A.in1.in1 (HT.Only s0 h') (κ vs) U R)(o:Ô U R)
 (k: ∀ (h1 h':L8) d (tk c:G8) (out:G0 G2),WO s.heap h1->WO h1 h'->h'.get? h1.objs.size=some (gI "list" out.toArray c)->out.Perm (es.toList.map (·.2))->out.Pairwise (λx y=>R (y,y) (x,x)=false)->
  Q (.ref h1.objs.size) {s with heap:=h',drawn:=d,toks:=tk}):D8 (R3 prog w) A (call (.builtin "sorted") [.ref a]) Q E s:=by
 refine Calls.call_function_entry IP xT xU (xV _) (wpAny_bind (G9 (wpAny_bind (wpAny_bind (uE (iJ (GX calm S ha few) λres s' listed=> ?_))))));obtain⟨h1,d,tk,acc,c0,rfl,rfl,made,kept,p⟩:=listed;refine wpAny_bind (tM made (G9 ?_));have len:acc.toList.length=es.size:=by rw [p.length_eq,G1,P8]
 have hz:acc.toList.length<=sizeLine:=by rw [len];exact R1 (T8 few) (by decide)
 have fresh:(h1.push (gI "list" acc.toList.toArray 0)).get? h1.objs.size=some (gI "list" acc.toList.toArray 0):=R0 _ rfl;have kp: ∀h',Ce {s with heap:=h1.push (gI "list" acc.toList.toArray 0),drawn:=d,toks:=tk} h1.objs.size h'->WO h1 h':=λh' p b x e=>p b x (S8 (D0 e)) (G6 _ e)
 have ks: ∀h',Ce {s with heap:=h1.push (gI "list" acc.toList.toArray 0),drawn:=d,toks:=tk} h1.objs.size h'->WO s.heap h':=λh' p b x e=>kp h' p b x (kept b x e)
 have it: ∀v∈acc.toList,U (v,v):=λv hv=>by
  obtain⟨e,he,rfl⟩:=R7.mp (p.mem_iff.mp hv);exact x e he
 refine wpAny_bind (pL (wpAny_bind (O5 (C7 uF ⟨_,fresh,rfl⟩ sV (QZ (s:= {s with heap:=h1.push (gI "list" acc.toList.toArray 0),drawn:=d,toks:=tk}) (κ:=κ acc.toList) (U:=U) (R:=R) fresh hz
  (λh2 h' p=>hk _ _ h' h2 it (ks h' p)) (λh' p=>ak _ _ h' (ks h' p)) o it λout c tk' h' p' e1 e2 e3=>⟨_,rfl,?_⟩) (uG _)))) hz)
 refine G9 ⟨_,rfl,k h1 h' d tk' c out kept (kp h' p') e1 (e2.trans p) ?_⟩;rw [Q6] at e3;exact e3
end
theorem Yv {prog:S6}{w:B3}: ∀ {vs:G0 G2} {ns:G0 P4},gZ vs ns->ItemsAre (intKind prog w) ns vs
 |_,_,.nil=> .nil
 |_,_,.cons n t a=> .cons (by simp [intKind,nU]) (Yv a)
def EB {X:Cx}{À:G0 (P3×Obj)}{σ:St}{H:Hp}{s:G3}(I:Inv X À σ H s)(k:G0 P4)(b:P3)(h:H b=some (.tup (k.map V.int))):(KR X.prog X.w).is s.heap k b:=by
 obtain⟨_,us,r2,o,e,c,_,n,d⟩:=I.hok b _ h;exact⟨o,us.toArray,n,e,c,d,Yv (ZY r2)⟩
end L2
namespace L2
open PySem PySem.Spec PyProof.Rows PySem.SeqAt HT
theorem RR {α:Type}{R:α->α->Prop}(no: ∀x y,R x y-> ¬R y x): ∀ {xs ys:G0 α},xs.Pairwise R->ys.Pairwise R->(∀a,a∈xs↔a∈ys)->xs=ys
 | [],[],_,_,_=>rfl
 | [],y::ys,_,_,m=>absurd ((m y).mpr D3) C5
 |x::xs,[],_,_,m=>absurd ((m x).mp D3) C5
 |x::xs,y::ys,px,py,m=>by
  obtain⟨p1,p2⟩:=K6.mp px;obtain⟨q1,q2⟩:=K6.mp py;have e:x=y:=by
   rcases S0.mp ((m x).mp D3) with e|e
   ·exact e
   rcases S0.mp ((m y).mpr D3) with e'|e'
   ·exact e'.symm
   exact absurd (p1 y e') (no _ _ (q1 x e))
  subst e;rw [RR no p2 q2 λa=>⟨λh=> ?_,λh=> ?_⟩]
  ·rcases S0.mp ((m a).mp (S1 _ h)) with e|e
   ·subst e;exact absurd (p1 _ h) (no _ _ (p1 _ h))
   ·exact e
  ·rcases S0.mp ((m a).mpr (S1 _ h)) with e|e
   ·subst e;exact absurd (q1 _ h) (no _ _ (q1 _ h))
   ·exact e
noncomputable def Ĵ (T:G0 (G0 P4))(n p:G8):G0 G8:=(D6 n).filter λj=>wk T n p j&&wk T n j p
noncomputable def Ol (T:G0 (G0 P4))(n:G8):G0 (G0 G8):=((D6 n).filter λp=>decide ((Ĵ T n p).headD 0=p)).map (Ĵ T n)
section
variable {T:G0 (G0 P4)}{n e:G8}
def EC (p:G8):IsS n (Ĵ T n p):=⟨_,rfl⟩
variable {p:G8}
def Ĥ {j:G8}:j∈Ĵ T n p↔j<n/\wk T n p j=true/\wk T n j p=true:=by
 unfold Ĵ;rw [U1,S4,N9]
def RS (hp:p<n):p∈Ĵ T n p:=Ĥ.mpr ⟨hp,Xz T n p,Xz T n p⟩
def Lt {q:G8}(hp:p<n)(h:q∈Ĵ T n p):Ĵ T n q=Ĵ T n p:=by
 obtain⟨hq,h1,h2⟩:=Ĥ.mp h;refine(EC q).ext (EC p) λj=> ?_
 rw [Ĥ,Ĥ];exact⟨λ⟨a,b,c⟩=>⟨a,yl hq h1 b,yl hq c h2⟩,λ⟨a,b,c⟩=>⟨a,yl hp h2 b,yl hp c h1⟩⟩
def Lu (hp:p<n): ∃r,Ĵ T n p=(Ĵ T n p).headD 0::r:=by
 cases h:Ĵ T n p with
 |nil=>have:=RS (T:=T) hp;rw [h] at this;cases this
 |cons x r=>exact⟨r,rfl⟩
def Lv (hp:p<n):(Ĵ T n p).headD 0<n/\Ĵ T n ((Ĵ T n p).headD 0)=Ĵ T n p:=by
 obtain⟨r,h⟩:=Lu (T:=T) hp;have m:(Ĵ T n p).headD 0∈Ĵ T n p:=by
  generalize (Ĵ T n p).headD 0=x at h;rw [h];exact D3
 exact⟨(Ĥ.mp m).1,Lt hp m⟩
def Ζ {S:G0 G8}:S∈Ol T n↔ ∃p,p<n/\S=Ĵ T n p:=by
 unfold Ol;rw [R7];constructor
 ·rintro ⟨p,hp,rfl⟩;exact⟨p,S4.mp (U1.mp hp).1,rfl⟩
 ·rintro ⟨p,hp,rfl⟩;obtain⟨a,b⟩:=Lv (T:=T) hp;exact⟨(Ĵ T n p).headD 0,U1.mpr ⟨S4.mpr a,M1 (by rw [b])⟩,b⟩
end
end L2
namespace L2
open PySem PySem.Spec PyProof.Rows HT PySem.SeqAt
section
variable {prog:S6}{w:B3}{A:N4}{E:G2->G3->Prop}{s:G3}
inductive Í (prog:S6)(w:B3)(h:L8):G0 (G0 P4)->G0 G2->Prop
 |nil:Í prog w h [] []
 |cons {r:G0 P4} {b:P3} {T:G0 (G0 P4)} {vs:G0 G2}:kJ (intKind prog w) h r b->Í prog w h T vs->Í prog w h (r::T) (.ref b::vs)
variable {h:L8}
theorem Í.one: ∀ {T U:G0 (G0 P4)} {vs:G0 G2},Í prog w h T vs->Í prog w h U vs->T=U
 |_,_,_,.nil,.nil=>rfl
 |_,_,_,.cons a x,.cons b y=>by rw [a.inj b,x.one y]
theorem Í.keep {h':L8}(k:RL h h'): ∀ {T:G0 (G0 P4)} {vs:G0 G2},Í prog w h T vs->Í prog w h' T vs
 |_,_,.nil=> .nil
 |_,_,.cons ⟨o,items,n,ho,hc,hd,hi⟩ x=> .cons ⟨o,items,n,k _ o hc ho,hc,hd,hi⟩ (x.keep k)
theorem Í.each: ∀ {T:G0 (G0 P4)} {vs:G0 G2},Í prog w h T vs-> ∀v∈vs,∃r b,v= .ref b/\kJ (intKind prog w) h r b
 |_,_,.nil,v,hv=>absurd hv C5
 |_,_,.cons a x,v,hv=>by
  rcases S0.mp hv with e|hv
  ·exact⟨_,_,e,a⟩
  ·exact x.each v hv
def WP (prog:S6)(w:B3)(h:L8)(T:G0 (G0 P4))(a:P3):Prop:= ∃o items n,h.get? a=some o/\o.cls= .type "tuple" /\o.data= .seq items n/\Í prog w h T items.toList
noncomputable def Pd (prog:S6)(w:B3)(T:G0 (G0 P4)):P4:=mP (Y9 (T.map (Y1 (intKind prog w))))
theorem Uu {Q:S5 P4->G3->Prop}(hu:A.units+4<cLine): ∀ {vs:G0 G2} {U:G0 (G0 P4)} (b:S5 P4) (s1:G3),s1.heap=s.heap->Í prog w s.heap U vs->(∀tk,Q (b++(U.map (Y1 (intKind prog w))).toArray) {s1 with toks:=tk})->
 D8 (R3 prog w) A (forIn vs b λx r=>do let h <-pyHash x;pure (aN (r.push h))) Q E s1
 |_,_,b,s1,_,.nil,q=>G9 (by have:=q s1.toks;simpa using this)
 |_,_,b,s1,e1,.cons (r:=r) (T:=U) a x,q=>by
  rw [bQ];refine wpAny_bind (wpAny_bind (kK (by omega) (by rw [e1];exact a) (G9 ?_)));exact Uu hu (b.push (Y1 (intKind prog w) r)) _ e1 x λtk=>by
   have:=q tk;rw [M0] at this;simpa using this
variable {T:G0 (G0 P4)}{a:P3}
def Bl {Q:P4->G3->Prop}(hu:A.units+8<cLine)(hT:WP prog w s.heap T a)(q: ∀tk,Q (Pd prog w T) {s with toks:=tk}):D8 (R3 prog w) A (pyHash (.ref a)) Q E s:=by
 obtain⟨o,items,n,ho,hc,hd,hi⟩:=hT;have ty:s.TypeIs (.ref a) "tuple" :=⟨o,ho,hc⟩;have room:A.units<cLine:=by omega
 have slot:=λ{M:qA} {A':N4} {E':G2->G3->Prop} {P:P9 G2->G3->Prop}=>aM (M:=M) (A:=A') (E:=E') (Q:=P) ty F.slot_tuple_hash.lookup
 unfold pyHash pyHashByItsType;refine wpAny_bind (qZ (.inr room) (wpAny_bind (slot ?_)));rw [R9 (by simp)];refine wpAny_bind (slot (wpAny_bind (cW ty gL (C7 gL ty pY ?_ (pB _)))));show D8 _ _ (X0 (.ref a) >>= _) _ _ s;refine wpAny_bind (pZ ho hd (wpAny_bind ?_));rw [<-U0];refine Uu (A:=A.in1) (show A.units+1+4<cLine by omega) #[] s rfl hi λtk=> ?_
 have told:=q (tk+1);unfold Pd mP at told;show D8 _ _ (retInt (Y9 ((#[]:S5 P4)++(T.map (Y1 (intKind prog w))).toArray).toList)) _ _ _;rw [show ((#[]:S5 P4)++(T.map (Y1 (intKind prog w))).toArray).toList=T.map (Y1 (intKind prog w)) by simp];refine sW ?_;show D8 _ _ (cH _) _ _ _;unfold cH;split
 ·rename_i c;rw [R6 c] at told;exact G9 told
 ·rename_i c;rw [R9 c] at told;exact wpAny_bind (dE (G9 told))
theorem Í.len: ∀ {T:G0 (G0 P4)} {vs:G0 G2},Í prog w h T vs->T.length=vs.length
 |_,_,.nil=>rfl
 |_,_,.cons _ x=>by rw [D2,D2,x.len]
def RT (d:G8){x:G0 P4}{a:P3}{Q:N0->G3->Prop}:kJ (intKind prog w) s.heap x a->Q true s->D8 (R3 prog w) A (o6 (d+1) (.ref a)) Q E s
 |⟨_,_,_,ho,hc,hd,hi⟩,q=>by
  unfold o6;refine wpAny_bind (aM (T:= "tuple") ⟨_,ho,hc⟩ F.slot_tuple_eq.lookup (wpAny_bind (aZ (T:= "tuple") ⟨_,ho,hc⟩ nP ?_)));simp only [g4,F9,↓reduceIte];refine wpAny_bind (dL ho hd (wpAny_bind ?_));simp only [dR,<-U0];refine yQ _ (λv hv Q' q'=> ?_) (G9 q);rw [eqIsQuiet_byValue d (hi.byValue v hv)];exact G9 q'
variable {Q:N0->G3->Prop}
def Uv:WP prog w s.heap T a->Q true s->D8 (R3 prog w) A (o6 8 (.ref a)) Q E s
 |⟨_,_,_,ho,hc,hd,hi⟩,q=>by
  unfold o6;refine wpAny_bind (aM (T:= "tuple") ⟨_,ho,hc⟩ F.slot_tuple_eq.lookup (wpAny_bind (aZ (T:= "tuple") ⟨_,ho,hc⟩ nP ?_)));simp only [g4,F9,↓reduceIte];refine wpAny_bind (dL ho hd (wpAny_bind ?_));simp only [dR,<-U0];refine yQ _ (λv hv Q' q'=> ?_) (G9 q);obtain⟨r,b,rfl,hr⟩:=hi.each v hv;exact wpAny_bind (RT 6 hr (G9 q'))
def Lw:WP prog w s.heap T a->Q false s->D8 (R3 prog w) A (aJ 8 (.ref a)) Q E s
 |⟨_,_,_,ho,hc,hd,hi⟩,q=>by
  unfold aJ;refine wpAny_bind (f8 (T:= "tuple") ⟨_,ho,hc⟩ ?_);simp only [a8,↓reduceIte,pure_bind,g4,F9];refine wpAny_bind (dL ho hd (wpAny_bind ?_));simp only [<-U0];refine yQ _ (λv hv Q' q'=> ?_) (G9 q);obtain⟨r,b,rfl,hr⟩:=hi.each v hv;exact wpAny_bind (RN 6 hr (G9 q'))
def Ly:WP prog w s.heap T a->Q true s->D8 (R3 prog w) A (fZ 8 (.ref a)) Q E s
 |⟨_,_,_,ho,hc,hd,hi⟩,q=>by
  unfold fZ;refine wpAny_bind (aM (T:= "tuple") ⟨_,ho,hc⟩ F.slot_tuple_hash.lookup (wpAny_bind (dL ho hd (wpAny_bind ?_))));simp only [dR,<-U0];refine yQ _ (λv hv Q' q'=> ?_) (G9 q);obtain⟨r,b,rfl,hr⟩:=hi.each v hv;exact wpAny_bind (RO 6 hr (G9 q'))
theorem vo: ∀ {ks:G0 P4} {vs:G0 G2},ItemsAre (intKind prog w) ks vs->ReadsAll h vs (ks.map gU) []
 |_,_,.nil=> .nil
 |_,_,.cons a x=>by
  obtain⟨tk,rfl⟩:=Co a;exact .cons (as:= []) (bs:= []) (.int _ _) (vo x)
theorem JZ: ∀ {T:G0 (G0 P4)} {vs:G0 G2},Í prog w h T vs->ReadsAll h vs (T.map wF) []
 |_,_,.nil=> .nil
 |_,_,.cons ⟨_,_,_,ho,hc,hd,hi⟩ x=> .cons (as:= []) (bs:= []) (.tuple ho hc hd (vo hi)) (JZ x)
def RU {U:G0 (G0 P4)}{b:P3}(hu:A.units+8<cLine)(hT:WP prog w s.heap T a)(hU:WP prog w s.heap U b)(q:Q (decide (T=U)) s):D8 (R3 prog w) A (eqBool (.ref a) (.ref b)) Q E s:=by
 obtain⟨_,_,_,ho,hc,hd,hi⟩:=hT;obtain⟨_,_,_,ho',ν,hd',hi'⟩:=hU;have lay: ∀V:G0 (G0 P4),L7 (.tuple (V.map wF))=true:=λV=>by simp only [L7];exact yi V
 have dep:A1 (.tuple (T.map wF))<=4:=by simp only [A1];have:=wY T;omega
 refine eqBoolOverData prog w A E s _ _ _ _ _ _ Q (.tuple ho hc hd (JZ hi)) (.tuple ho' ν hd' (JZ hi')) (lay T) (lay U) (by have:=sS (A1 (.tuple (T.map wF))) (A1 (.tuple (U.map wF)));omega) ?_;show Q (U3 (T.map wF) (U.map wF)) s;rw [wv];exact q
noncomputable def Cp (prog:S6)(w:B3):Ŭ prog w (G0 (G0 P4)) where
 is:=λh T a=>WP prog w h T a
 hash:=Pd prog w
 inj:=λ⟨_,_,_,ho,_,hd,hi⟩ ⟨_,_,_,ho',_,hd',hi'⟩=>by
  rw [ho] at ho';cases ho';rw [hd] at hd';cases hd';exact hi.one hi'
 keep:=λk ⟨o,items,n,ho,hc,hd,hi⟩=>⟨o,items,n,k _ o hc ho,hc,hd,hi.keep k⟩
 hashed:=λhu hk q=>Bl hu hk q
 same:=λhu hx hy q=>RU hu hx hy q
 quiet:=λhk q=>Uv hk q
 cls:=λhk q=>Lw hk q
 byv:=λhk q=>Ly hk q
end
def RV (H:Hp):G0 V->G0 (G0 P4)->Prop
 | [],[]=>True
 |v::vs,r::T=>(∃c,v= .ref c/\H c=some (.tup (r.map V.int)))/\RV H vs T
 |_,_=>False
def WJ (H:Hp)(T:G0 (G0 P4))(b:P3):Prop:= ∃us,H b=some (.tup us)/\RV H us T
def Gj (prog:S6)(w:B3)(H:Hp)(o:Obj)(Ts:G0 (G0 (G0 P4))):Prop:= ∃es ep t f,o=yH es ep t/\Ċ (Cp prog w) (wO w) (WJ H) f es t Ts
variable {H:Hp}
theorem RW {X:Cx}{À:G0 (P3×Obj)}{σ:St}{s:G3}(I:Inv X À σ H s): ∀ {vs:G0 V} {T:G0 (G0 P4)} {us:G0 G2},RV H vs T->Æ vs us->Í X.prog X.w s.heap T us
 | [],[],_,_,.nil=> .nil
 |_::_,r::_,_,⟨⟨c,e,hc⟩,x⟩,.cons rv y=>by
  subst e;cases rv;exact .cons (EB I r c hc) (RW I x y)
def yS {X:Cx}{À:G0 (P3×Obj)}{σ:St}{s:G3}(I:Inv X À σ H s)(T:G0 (G0 P4))(b:P3)(h:WJ H T b):(Cp X.prog X.w).is s.heap T b:=by
 obtain⟨us,hb,x⟩:=h;obtain⟨_,its,rv,o,e,c,_,n,d⟩:=I.hok b _ hb;exact⟨o,its.toArray,n,e,c,d,by rw [List.toList_toArray];exact RW I x rv⟩
def XJ {X:Cx}{k:G8}(hc:X.calm=true)(hr:Û k X.A):Ú X (.type "set") (λxs H Q=> ∃ (a:P3) (ps:G0 (P3×G0 (G0 P4))),xs= [.ref a]/\ä X.K H a (ps.map λp=>V.ref p.1)/\ps.length<1000/\(∀p∈ps,WJ H p.2 p.1)/\ ∀ (p:P3) (o:Obj),H p=none->Gj X.prog X.w H o (ps.map (·.2)).reverse->Q (.ref p) (upd H p (.frz o (.own 0)))):=by
 intro À s σ H xs us Q I r h;obtain⟨a,ps,rfl,hS,few,ht,q⟩:=h;obtain⟨u,rfl,ru⟩:=vH r;cases ru;obtain⟨its,rv,pl,hz⟩:=I.tuple hS;have len:its.length=ps.length:=by have:=rv.length;rw [G1] at this;exact this.symm
 have hu:X.A.units+40<cLine:=by have:=hr.un;omega
 have at_: ∀i v,its[i]? =some v-> ∃b,v= .ref b/\WJ H ((ps.map (·.2)).getD i []) b:=by
  clear hS q few hz pl len
  induction ps generalizing its with
  |nil=>cases rv;exact λi v e=>by cases e
  |cons p ps ih=>
   rw [M0] at rv;cases rv with
   |cons r1 r2=>
    intro i v e;cases i with
    |zero=>
     cases e;exact⟨p.1,r1,ht p D3⟩
    |succ i=>exact ih (λp hp=>ht p (S1 _ hp)) _ r2 i v e
 have rng:(D6 its.length).map (λi=>(ps.map (·.2)).getD i [])=ps.map (·.2):=by
  have:=jT (ps.map (·.2)) ([]:G0 (G0 P4));rw [G1] at this;rw [len];exact this.symm
 obtain⟨o,e1,e2,c,e3⟩:=pl;refine Bk (M:=Cp X.prog X.w) (is:=WJ H) hu (I.ok.hd hc) (.inr rfl) ⟨o,e1,e2,c,e3⟩ at_ (yS I) (by omega) λh' tk f es ep t e S kept=> ?_
 rw [rng] at S;exact⟨.ref _,_,I.laid (t':=tk) (o:= .frz (yH es ep t) (.own 0)) kept (P2 _) ⟨e,⟨_,e⟩⟩,rfl,q _ _ (I.hok.fresh (P2 _)) ⟨es,ep,t,f,rfl,S⟩⟩
theorem XL {K:G7}: ∀ {T:G0 (G0 P4)} {vs:G0 V},Á K H (T.map zM) vs->RV H vs T
 | [],vs,r=>by
  have:vs= []:=r;subst this;exact cJ
 |row::T,vs,r=>by
  obtain⟨v,us,e,r1,r2⟩:=(show ∃v r,vs=v::r/\È K H (zM row) v/\Á K H (T.map zM) r from r);obtain⟨a,ws,e4,hH,r4⟩:=(show ∃a vs,v= .ref a/\H a=some (.tup vs)/\Á K H (row.map D.int) vs from r1);rw [zG r4] at hH;subst e;exact⟨⟨a,e4,hH⟩,XL r2⟩
theorem RX {K:G7}: ∀ {Ts:G0 (G0 (G0 P4))} {vs:G0 V},Á K H (Ts.map jj) vs-> ∃ps:G0 (P3×G0 (G0 P4)),vs=ps.map (λp=>V.ref p.1)/\Ts=ps.map (·.2)/\ ∀p∈ps,WJ H p.2 p.1
 | [],vs,r=>⟨[],r,rfl,λp hp=>by cases hp⟩
 |T::Ts,vs,r=>by
  obtain⟨v,us,e,r1,r2⟩:=(show ∃v r,vs=v::r/\È K H (jj T) v/\Á K H (Ts.map jj) r from r);obtain⟨ps,e1,e2,e3⟩:=RX r2;obtain⟨a,ws,e4,hH,r4⟩:=(show ∃a vs,v= .ref a/\H a=some (.tup vs)/\Á K H (T.map zM) vs from r1);exact⟨(a,T)::ps,by rw [e,e1,e4];rfl,by rw [e2];rfl,λp hp=>by
   rcases S0.mp hp with rfl|hp
   ·exact⟨ws,hH,XL r4⟩
   ·exact e3 p hp⟩
end L2
namespace L2
open PySem PySem.Spec PyProof.Rows PySem.W
structure É (K:Frag)(x:Str)(st:K9)(f:P3)(fd:C3):Prop where
 at_:nsIn K K5 x=some (some (.ref f))
 fn:ò K x x st f fd
variable {K:Frag}{h base:L8}{mg:Str->P9 G2}{x:Str}{st:K9}{f:P3}{fd:C3}{P:S6}{w:B3}{n:G8}{ps:G0 Str}
def ED {oc:G2}{od an:P9 P3}{ŵ:S5 (P9 G2)}{kV doc pm ø ct:G2}(a:nsIn K K5 x=some (some (.ref f)))(l:K.lookup f=some ⟨oc,od,.func (fnOf x x (yK st) (zV st) (je st) .none kV doc pm an ø ct),ŵ⟩)
 (c:codeIn K ø x=true)(k:keepIn K (.ref f)=true):É K x st f (fnOf x x (yK st) (zV st) (je st) .none kV doc pm an ø ct):=⟨a,Ab l c k⟩
abbrev TW (x:Str)(st:K9)(ps:G0 Str):Prop:= ∀ (kV doc pm:G2) (an:P9 P3) (ø ct:G2) (us:G0 G2),us.length=ps.length->y9 (fnOf x x (yK st) (zV st) (je st) .none kV doc pm an ø ct) ⟨us,[]⟩=pure (ps.zip us)
def É.nm (d:É K x st f fd)(X:K.In h)(G:h.Ns K5 mg):mg x=some (.ref f):=mg_of X G d.at_
variable {C:G0 G2->Prop}
def ln1 (g: ∀a,C [a]): ∀us:G0 G2,us.length=1->C us
 | [_],_=>g _
def ln2 (g: ∀a b,C [a,b]): ∀us:G0 G2,us.length=2->C us
 | [_,_],_=>g _ _
def ln3 (g: ∀a b c,C [a,b,c]): ∀us:G0 G2,us.length=3->C us
 | [_,_,_],_=>g _ _ _
def ln4 (g: ∀a b c d,C [a,b,c,d]): ∀us:G0 G2,us.length=4->C us
 | [_,_,_,_],_=>g _ _ _ _
def ln5 (g: ∀a b c d e,C [a,b,c,d,e]): ∀us:G0 G2,us.length=5->C us
 | [_,_,_,_,_],_=>g _ _ _ _ _
def É.cal {sp:RDn}(d:É K x st f fd)(l:OpenLaw)(w:B3)(base:L8)(X:K.In h)(G:h.Ns K5 mg)(ok:Î l.prog w K mg base ì n f fd ps (ó K sp))(b:TW x st ps:=by first|exact λ_ _ _ _ _ _=>ln1 λ_=>rfl|exact λ_ _ _ _ _ _=>ln2 λ_ _=>rfl|exact λ_ _ _ _ _ _=>ln3 λ_ _ _=>rfl|exact λ_ _ _ _ _ _=>ln4 λ_ _ _ _=>rfl|exact λ_ _ _ _ _ _=>ln5 λ_ _ _ _ _=>rfl):ju l.prog w K mg base n x ps sp:=⟨_,_,ok,d.fn.binds b,d.fn.kp,d.nm X G⟩
noncomputable def zsB (K:Frag):N0:= ["len","max","min","divmod","all","any","repr","sum","sorted","int","tuple","list","set","bool","isinstance","range","zip","enumerate","reversed"].all λx=>nsIn K K5 (W9 x)==some none
def TX (X:K.In h)(G:h.Ns K5 mg)(e:zsB K=true):Zs mg:=by
 unfold zsB at e;rw [B0] at e;have m:=λ(x:W1) hx=>mg_none_of X G (beq_iff_eq.mp (e x hx))
 exact⟨m "len" (by decide),m "max" (by decide),m "min" (by decide),m "divmod" (by decide),m "all" (by decide),m "any" (by decide),m "repr" (by decide),m "sum" (by decide),m "sorted" (by decide),m "int" (by decide),m "tuple" (by decide),m "list" (by decide),m "set" (by decide),m "bool" (by decide),m "isinstance" (by decide),m "range" (by decide),m "zip" (by decide),m "enumerate" (by decide),m "reversed" (by decide)⟩
end L2
namespace L2
open PySem PySem.Spec PyProof.Rows
def Sub.overC {h h':HD}{a:P3}{c:DC}(sb:Sub h h')(e:h.dc a=none):Sub h (Ng h' a c):=⟨sb.ls,λb xs z=>by
 rw [vJ (λw=>by subst w;rw [e] at z;cases z)];exact sb.dc b xs z⟩
end L2
namespace L2
theorem RY {g:G8->G8->N0}{n:G8}: ∀ {t:G8} {w:G0 G8},w.length=t+1->(∀i∈w,i<n)->w.Nodup->(∀i∈w,w.headD 0<=i)->(∀i x y,w[i]? =some x->w[i+1]? =some y->g x y=true)->w∈lev g n t
 |0,w,hl,lt,_,_,_=>by
  obtain⟨a,rfl⟩:=mX.mp hl;exact R7.mpr ⟨a,S4.mpr (lt a (by simp)),rfl⟩
 |t+1,w,hl,lt,nd,low,go=>by
  obtain⟨v,j,rfl⟩: ∃v j,w=v++ [j]:=⟨w.dropLast,w.getLast (by intro z;rw [z] at hl;cases hl),(List.dropLast_concat_getLast _).symm⟩;have lv:v.length=t+1:=by rw [P1,cT] at hl;omega
  have hd:(v++ [j]).headD 0=v.headD 0:=by cases v with|nil=>cases lv|cons a r=>rfl
  have nv:=bY.mp nd;have jn:j ∉ v:=λz=>nv.2.2 j z j (by simp) rfl
  have hh:v.headD 0∈v:=by cases v with|nil=>cases lv|cons a r=>exact D3 ..
  rw [hd] at low;have mv:=RY (g:=g) (n:=n) lv (λi hi=>lt i (B8 _ hi)) nv.1 (λi hi=>low i (B8 _ hi)) λi x y e1 e2=>go i x y (by rw [F4 (P5.mp e1).1];exact e1) (by rw [F4 (P5.mp e2).1];exact e2)
  refine rQ.mpr ⟨v,mv,R7.mpr ⟨j,U1.mpr ⟨S4.mpr (lt j (by simp)),?_⟩,rfl⟩⟩;have la:v[t]? =some (v.getLastD 0):=by rw [dW,dX,lv,pW,G5 (by omega)];rfl
  have g1:=go t _ j (by rw [F4 (by omega)];exact la) (by rw [B6 (by omega),lv,iP];rfl);have lj:=low j (by simp);have ne:v.headD 0≠j:=λz=>jn (z ▸ hh)
  unfold HY;rw [g1,M1 (show v.headD 0<j by omega),B7 jn];rfl
theorem RZ {g:G8->G8->N0}{n s:G8}{w:G0 G8}(h:w∈lev g n s)(b:g (w.getLastD 0) (w.headD 0)=true): ∀t,s<t->w∈TU g n t
 |t+1,ht=>by
  rcases Q4 s t with z|z
  ·exact B8 _ (RZ h b t z)
  ·have:t=s:=by omega
   subst this;exact D4 _ (U1.mpr ⟨h,b⟩)
def XM {n:G8}{w:G0 G8}(nd:w.Nodup)(lt: ∀i∈w,i<n):w.length<=n:=by
 have:=yR (ys:=D6 n) nd λx hx=>S4.mpr (lt x hx)
 rwa [S9] at this
section
variable {n e:G8}{T:G0 (G0 P4)}
def Pe {w:G0 G8}(ne:w≠ [])(lt: ∀i∈w,i<n)(nd:w.Nodup)(low: ∀i∈w,w.headD 0<=i)(go: ∀i x y,w[i]? =some x->w[i+1]? =some y->á T x y>0)(back:á T (w.getLastD 0) (w.headD 0)>0):w∈Ga T n:=by
 obtain⟨t,ht⟩: ∃t,w.length=t+1:=⟨w.length-1,by have:=Y4.mpr ne;omega⟩;have:=XM nd lt;exact(GY _).mem_iff.mpr (RZ (RY (g:=HZ T) ht lt nd low λi x y e1 e2=>M1 (go i x y e1 e2)) (M1 back) n (by omega))
def Ma (h:Sq n e T){i j:G8}(hi:i<n)(hj:j<n)(z:á T i j≠0):á T i j>0:=by have:=(h.ent_nn hi hj).1;omega
def Pf (h:Sq n e T)(hn:n<=8){m:G8}(m1:1<=m){v:G8->G8}(vl: ∀t,v t<n)(per: ∀t,v (t+m)=v t)(inj: ∀a b,a<m->b<m->v a=v b->a=b)(st: ∀t,RP n T 1 (v t) (v (t+1))): ∃s,(D6 m).map (λt=>v (s+t))∈Ga T n:=by
 obtain⟨s,hs⟩: ∃s,∀t,v s<=v t:=by
  have key: ∀k,∃s,∀t,t<k+1->v s<=v t:=λk=>by
   induction k with
   |zero=>exact⟨0,λt ht=>by rw [show t=0 by omega];exact P2 _⟩
   |succ k ih=>
    obtain⟨s,hs⟩:=ih;rcases Q4 (v (k+1)) (v s) with z|z
    ·exact⟨k+1,λt ht=>by
      rcases Q4 t (k+1) with y|y
      ·have:=hs t y;omega
      ·rw [show t=k+1 by omega];exact P2 _⟩
    ·exact⟨s,λt ht=>by
      rcases Q4 t (k+1) with y|y
      ·exact hs t y
      ·rw [show t=k+1 by omega];exact z⟩
  obtain⟨s,hs⟩:=key m;have red: ∀t,v t=v (t%m):=λt=>by
   have: ∀q r,v (r+q*m)=v r:=λq r=>by
    induction q with
    |zero=>rw [xW,Z9]
    |succ q ih=>rw [iK,<-cQ,per,ih]
   have e:=this (t / m) (t%m);rw [aT,sZ] at e;exact e
  exact⟨s,λt=>by rw [red t];exact hs _ (by have:=Z5 t m1;omega)⟩
 have red: ∀t,v t=v (t%m):=λt=>by
  have: ∀q r,v (r+q*m)=v r:=λq r=>by
   induction q with
   |zero=>rw [xW,Z9]
   |succ q ih=>rw [iK,<-cQ,per,ih]
  have e:=this (t / m) (t%m);rw [aT,sZ] at e;exact e
 have hd:((D6 m).map λt=>v (s+t)).headD 0=v s:=by
  obtain⟨k,rfl⟩: ∃k,m=k+1:=⟨m-1,by omega⟩;rw [gB];rfl
 refine⟨s,Pe ?_ (λi hi=>by obtain⟨t,_,rfl⟩:=R7.mp hi;exact vl _) ?_ (λi hi=>by obtain⟨t,_,rfl⟩:=R7.mp hi;rw [hd];exact hs _) (λi x y e1 e2=> ?_) ?_⟩
 ·intro z;have:=congrArg aA z;rw [G1,S9] at this;simp at this;omega
 ·refine Q6.mpr ((mH (n:=m)).imp_of_mem λ{a b} ha hb ne z=> ?_);have ha:=S4.mp ha;have hb:=S4.mp hb;have z:v (s+a)=v (s+b):=z;rw [red (s+a),red (s+b)] at z;have:=inj _ _ (Z5 _ m1) (Z5 _ m1) z;refine ne ?_;have d1:=nE (s+a) m;have d2:=nE (s+b) m;rcases dA ((s+a) / m) ((s+b) / m) with c|c|c
  ·have:=dZ m (show (s+a) / m+1<=(s+b) / m from c);rw [fY] at this;omega
  ·rw [c] at d1;omega
  ·have:=dZ m (show (s+b) / m+1<=(s+a) / m from c);rw [fY] at this;omega
 ·have h1:=(P5.mp e2).1;rw [G1,S9] at h1;rw [P7,Y3 (by omega)] at e1 e2;injection e1 with e1
  injection e2 with e2
  subst e1;subst e2;exact Ma h (vl _) (vl _) ((Rl h hn).mp (st (s+i)))
 ·have la:((D6 m).map λt=>v (s+t)).getLastD 0=v (s+(m-1)):=by
   rw [dW,dX,G1,S9,P7,Y3 (by omega)];rfl
  rw [hd,la];have:=st (s+(m-1));rw [show s+(m-1)+1=s+m by omega,per] at this;exact Ma h (vl _) (vl _) ((Rl h hn).mp this)
noncomputable def Mb (T:G0 (G0 P4))(n:G8):G8:=((Ga T n).map aA).foldl tG 0
def Mc {w:G0 G8}(hw:w∈Ga T n):Mb T n∣w.length:=((QQ _ 0 (Mb T n)).mp (Nat.dvd_refl _)).2 _ (J6 hw)
def Uw (h:Sq n e T)(hn:n<=8): ∀ (m:G8) {p:G8},p<n->RP n T m p p->Mb T n∣m:=by
 intro m
 induction m using G8.strongRecOn with
 |_ m ih=>
  intro p hp r;rcases pV m with z|m1
  ·rw [z];exact Nat.dvd_zero _
  obtain⟨v,v0,vm,vl,vr⟩:=Cb h hn m hp hp r
  by_cases c: ∃a b,a<b/\b<m/\v a=v b
  ·obtain⟨a,b,ab,bm,e1⟩:=c;have r1:=YT h hn vl vr a (b-a) (by omega);rw [show a+(b-a)=b by omega,<-e1] at r1;have r2:=YT h hn vl vr 0 a (by omega);rw [X5,v0] at r2;have r3:=YT h hn vl vr b (m-b) (by omega);rw [show b+(m-b)=m by omega,vm,<-e1] at r3;have d1:=ih (b-a) (by omega) (vl a (by omega)) r1;have d2:=ih (a+(m-b)) (by omega) hp (YV h hn hp (vl a (by omega)) hp r2 r3);have:=Nat.dvd_add d1 d2
   rwa [show b-a+(a+(m-b))=m by omega] at this
  ·obtain⟨s,hs⟩:=Pf h hn (T:=T) (n:=n) m1 (v:=λt=>v (t%m)) (λt=>vl _ (by have:=Z5 t m1;omega)) (λt=>by show v ((t+m)%m)=_;rw [Nat.add_mod_right]) (λa b ha hb z=>by
    have z:v (a%m)=v (b%m):=z;rw [gW ha,gW hb] at z;rcases dA a b with y|y|y
    ·exact absurd ⟨a,b,y,hb,z⟩ c
    ·exact y
    ·exact absurd ⟨b,a,y,ha,z.symm⟩ c) (λt=>by
    show RP n T 1 (v (t%m)) (v ((t+1)%m));have lt:=Z5 t m1;have:=vr (t%m) lt;rcases Q4 (t%m+1) m with z|z
    ·rw [show (t+1)%m=t%m+1 by rw [oQ,gW (show 1<m by omega),gW z]];exact this
    ·have e2:(t+1)%m=0:=by
      rw [<-nE t m,show m*(t / m)+t%m+1=m*(t / m+1) by rw [fY];omega];exact Nat.mul_mod_right _ _
     rw [e2,v0,<-vm,show m=t%m+1 by omega];rw [show t%(t%m+1)=t%m by rw [show t%m+1=m by omega]];exact this)
   have:=Mc hs
   rwa [G1,S9] at this
def TY (h:Sq n e T)(hn:n<=8){i j:G8}(hi:i<n)(w:wk T n i j=true):j<n/\ ∃k,RP n T k i j:=
 ZJ (P:=λi j=>i<n->j<n/\ ∃k,RP n T k i j) (λi hi=>⟨hi,0,(Xt hi hi).mpr rfl⟩) (λi j z hi=>⟨Lh h i j z,1,(Rl h hn).mpr z⟩) (λi k j a b hi=>by
  obtain⟨hk,k1,r1⟩:=a hi;obtain⟨hj,k2,r2⟩:=b hk;exact⟨hj,k1+k2,YV h hn hi hk hj r1 r2⟩) w hi
def Lz (h:Sq n e T)(hn:n<=8)(one:(Ol T n).length=1){i j:G8}(hi:i<n)(hj:j<n): ∃k,RP n T k i j:=by
 obtain⟨S,e1⟩:=mX.mp one;have a:Ĵ T n i∈Ol T n:=Ζ.mpr ⟨i,hi,rfl⟩;have b:Ĵ T n j∈Ol T n:=Ζ.mpr ⟨j,hj,rfl⟩;rw [e1] at a b;have:j∈Ĵ T n i:=by rw [P0.mp a,<-P0.mp b];exact RS hj
 exact(TY h hn hi (Ĥ.mp this).2.1).2
end
end L2
set_option maxRecDepth 35000
namespace L2
section
variable {n e:G8}{T:G0 (G0 P4)}
def LB {a l b d:G8}(h1:d∣a+b)(h2:d∣l+b):a%d=l%d:=by
 have key: ∀a l:G8,a<=l->d∣a+b->d∣l+b->a%d=l%d:=λa l c h1 h2=>by
  obtain⟨t,rfl⟩:=Nat.exists_eq_add_of_le c;have:d∣t:=(Nat.dvd_add_right h1).mp (by rw [show a+b+t=a+t+b by omega];exact h2);rw [oQ,mV this,Z9,IK]
 rcases Nat.le_total a l with c|c
 ·exact key a l c h1 h2
 ·exact(key l a c h2 h1).symm
def fit (h:Sq n e T)(hn:n<=8)(one:(Ol T n).length=1){i j k l:G8}(hi:i<n)(hj:j<n)(a:RP n T k i j)(b:RP n T l i j):k%Mb T n=l%Mb T n:=by
 obtain⟨c,rc⟩:=Lz h hn one hj hi;exact LB (Uw h hn _ hi (YV h hn hi hj hi a rc)) (Uw h hn _ hi (YV h hn hi hj hi b rc))
end
end L2
namespace L2
open PySem PySem.Spec PyProof.Rows
section
variable {n e:G8}{T U:G0 (G0 P4)}{S P:G0 G8}
noncomputable def inP (n:G8)(D:G0 G8):G0 G8:=(D6 n).filter λj=>decide (j∈D)
end
section
variable {X:Cx}{k i:G8}{ps N Pn:G0 Str}{į:RDn}{x:Str}{p pos pos':Pos}{e e2 e3 e4 iter elt:M6}{es ifs:G0 M6}{t:TAD}{te η te3 te4:TED}{ti:TID}{tt:TTD}{scope sc:Y5}{c:M6}
def jk (C:ju X.prog X.w X.K X.mg X.base k x ps į)(hr:Û k X.A)(ha:JA X (e::es) t)(hg:Gl X x:=by rfl)(hdb:(x==("__debug__" :Str))=false:=by decide)(he:R8 (e::es) X.env=(false,J3 e X.env)::R8 es X.env:=by rfl)(hpl:(U9 pos (R8 es X.env)).any (·.1)=false:=by rfl):JE X (.Call (.Name x p) (e::es) [] pos) (ĝ į t):=by
 obtain⟨g,gd,F,hb,hk,hm⟩:=C;exact Tx F hr hg hm hk hb ha hdb he hpl
def j1 (a:JE X e te)(h:zt e=true:=by rfl):JA X [e] (zj te JM):=œ a zH h
def j2 (a:JE X e te)(b:JE X e2 η)(h:zt e=true:=by rfl)(h2:zt e2=true:=by rfl):JA X [e,e2] (zj te (zj η JM)):=œ a (j1 b h2) h
def j3 (a:JE X e te)(b:JE X e2 η)(c:JE X e3 te3)(h:zt e=true:=by rfl)(h2:zt e2=true:=by rfl)(h3:zt e3=true:=by rfl):JA X [e,e2,e3] (zj te (zj η (zj te3 JM))):=œ a (j2 b c h2 h3) h
def j4 (a:JE X e te)(b:JE X e2 η)(c:JE X e3 te3)(d:JE X e4 te4)(h:zt e=true:=by rfl)(h2:zt e2=true:=by rfl)(h3:zt e3=true:=by rfl)(h4:zt e4=true:=by rfl):JA X [e,e2,e3,e4] (zj te (zj η (zj te3 (zj te4 JM)))):=œ a (j3 b c d h2 h3 h4) h
def WQ (Z:Zs X.mg)(a:JE X e te)(hg:Gl X "len" :=by rfl)(h:zt e=true:=by rfl)(he:R8 [e] X.env=(false,J3 e X.env)::R8 [] X.env:=by rfl)(hpl:(U9 pos (R8 [] X.env)).any (·.1)=false:=by rfl):JE X (.Call (.Name "len" p) [e] [] pos) (ĝ BT (zj te JM)):=zl AL hg Z.len PySem.boot_len (j1 a h) (by decide) (by decide) he hpl
def ñ (i:G8)(S:Ã X.N Pn sc)(he:JE X e te)(hi:X.N[i]? =some x:=by rfl)(hx:Loc X.env.scope x:=by first|exact V0 rfl|exact Z0 rfl)(hs:aG e (some (.Name x pos')) pos.line X.env=pure false:=by rfl)(hf:X.fn x=true\/X.env.scope.names.lookup x=some .local:=by first|exact .inl rfl|exact .inr rfl|assumption):JS X (.Assign [.Name x pos'] e pos) (MM i te):=KJ S.nd hi hx he hs hf
def Τ (i:G8)(S:Ã X.N Pn sc)(hi:X.N[i]? =some x:=by rfl)(hx:Loc X.env.scope x:=by first|exact V0 rfl|exact Z0 rfl)(hf:X.fn x=true\/X.env.scope.names.lookup x=some .local:=by first|exact .inl rfl|exact .inr rfl|assumption):JG X (.Name x pos) (gN i):=FQ S.nd hi hx hf
def jl1 (i:G8)(S:Ã X.N Pn sc)(hi:JI X (.Name x p) iter ti)(ht: ∀C s₀ H₀ ex,JT (wL X scope C s₀ H₀ ex) c tt)(he: ∀C s₀ H₀ ex,JE (wL X scope C s₀ H₀ ex) elt te)(hc:X.calm=true:=by rfl)(hB:Qw X.N X.env.scope.names scope [i]=true:=by rfl)(hx:X.N[i]? =some x:=by rfl)(hl:scope.names.lookup x=some .local\/scope.names.lookup x=some .cell:=by first|exact V0 rfl|exact Z0 rfl)(hs: ∀x,M8 iter X.env x=pure x:=by intro _;rfl):JE X (.ListComp elt [⟨.Name x p,iter,[c],0⟩] scope pos) (vw (bN i) [i] ti tt te):=
 jlc hc (zb hB) hi (P0.mpr rfl) S.nd hx hl (λX' hX=>by obtain⟨C,s₀,H₀,ex,rfl⟩:=hX;exact FR (ht C s₀ H₀ ex)) (λX' hX=>by obtain⟨C,s₀,H₀,ex,rfl⟩:=hX;exact he C s₀ H₀ ex) hs
def ī (i:G8)(S:Ã X.N Pn sc)(hi:JI X (.Name x p) iter ti)(he: ∀C s₀ H₀ ex,JE (wL X scope C s₀ H₀ ex) elt te)(hc:X.calm=true:=by rfl)(hB:Qw X.N X.env.scope.names scope [i]=true:=by rfl)(hx:X.N[i]? =some x:=by rfl)(hl:scope.names.lookup x=some .local\/scope.names.lookup x=some .cell:=by first|exact V0 rfl|exact Z0 rfl)(hs: ∀x,M8 iter X.env x=pure x:=by intro _;rfl):JE X (.ListComp elt [⟨.Name x p,iter,[],0⟩] scope pos) (vw (bN i) [i] ti vj te):=
 jlc hc (zb hB) hi (P0.mpr rfl) S.nd hx hl (λX' hX=>wq) (λX' hX=>by obtain⟨C,s₀,H₀,ex,rfl⟩:=hX;exact he C s₀ H₀ ex) hs
def ċ {N P:G0 Str}(a:sc.kind= .function:=by rfl)(b:sc.isCoroutine=false:=by rfl)(c:sc.isGenerator=false:=by rfl)(d:N.Nodup:=by decide +kernel)(e:N.take P.length=P:=by rfl)(f: ∀x∈P,sc.names.lookup x=some .local\/sc.names.lookup x=some .cell:=by decide +kernel)(g: ∀y∈sc.names,y.2≠ .free:=by decide +kernel):Ã N P sc:=⟨a,b,c,d,e,f,g⟩
def ŭ {op:nX}{f:RD2}(ho:ù X (H0 op) f)(ha:JE X e te)(hb:JE X e2 η)(hm:Z7 op e2=false:=by exact BP _):JE X (.Compare e [op] [e2] pos) (Ņ f te η):=Sb ho ha hb hm
def ř {op:nX}{f:RD2}(ho:ù X (H0 op) f)(ha:JE X e te)(hb:JE X e2 η)(hm:Z7 op e2=false:=by exact BP _):JT X (.Compare e [op] [e2] pos) (vp (Ņ f te η)):=Nv ho ha hb hm
def Ă (ha:JE X e te)(hb:JE X e2 η)(hs:YD e2:=by exact λ_ _=>rfl):JE X (.Subscript e e2 pos) (Ņ ixD te η):=jix ha hb hs
def Ż {tg:M6}(Z:Zs X.mg)(ha:JE X e te)(hg:Gl X "range" :=by rfl)(h:zt e=true:=by rfl)(hs:R8 [e] X.env= [(false,J3 e X.env)]:=by rfl):JI X tg (.Call (.Name "range" p) [e] [] pos) (iR1 (zj te JM)):=Tw hg Z.range (j1 ha h) hs
end
section
variable {P:S6}{w:B3}{K:G7}{mg:Str->P9 G2}{base:L8}{x qual:Str}{st:K9}{f:P3}{fd:C3}{N ps:G0 Str}{k:G8}
def ò.okM {į:RDn}(F:ò K x qual st f fd)(S:Ã N ps (je st)){tb:TSD}(ė: ∀ {ø:G2} {A:N4} {outer:G0 Env} {s:G3} {H:Hp} {E:XK},Û k (A.deeper (i3 qual (je st) s.heap.objs.size f ø))->ŧ (MZ ì P w K mg base N qual (je st) f ø A outer s H E).nox (zV st) tb)
 (read: ∀ds h Q,į ds h Q->ds.length=ps.length/\tb (Xk Q) (wn N ds) h):Î P w K mg base ì (k+1) f fd ps (ó K į):=F.okJ S (λds h Q q=>(read ds h Q q).1) tb (λ_ _ _ _ _ _ hr=>ė hr) λds h Q q=>(read ds h Q q).2
end
def vC {t u:TSD}{E:EndsD}{σ:SD}{h:HD}(σ1:SD)(first: ∀K:SD->HD->Prop,K σ1 h->t {E with nx:=K} σ h)(rest:u E σ1 h):yc t u E σ h:=first (u E) rest
def sz0:0<=sizeLine:=by decide
def Š:1<=sizeLine:=by decide
def sz2:2<=sizeLine:=by decide
def sz3:3<=sizeLine:=by decide
def sz4:4<=sizeLine:=by decide
def sz5:5<=sizeLine:=by decide
def sz6:6<=sizeLine:=by decide
section
variable {X:Cx}{s0 s1 s2 s3 s4 s5 s6 s7:K9}{t0 t1 t2 t3 t4 t5 t6 t7:TSD}{c:M6}{tc:TTD}{pos:Pos}
def Ų (a:JS X s0 t0)(b:JS X s1 t1):ŧ X [s0,s1] (yc t0 t1):=(jB a (ze b))
def js3 (a:JS X s0 t0)(b:JS X s1 t1)(c:JS X s2 t2):ŧ X [s0,s1,s2] (yc t0 (yc t1 t2)):=(jB a (jB b (ze c)))
def js4 (a:JS X s0 t0)(b:JS X s1 t1)(c:JS X s2 t2)(d:JS X s3 t3):ŧ X [s0,s1,s2,s3] (yc t0 (yc t1 (yc t2 t3))):=(jB a (jB b (jB c (ze d))))
def js5 (a:JS X s0 t0)(b:JS X s1 t1)(c:JS X s2 t2)(d:JS X s3 t3)(e:JS X s4 t4):ŧ X [s0,s1,s2,s3,s4] (yc t0 (yc t1 (yc t2 (yc t3 t4)))):=(jB a (jB b (jB c (jB d (ze e)))))
def js6 (a:JS X s0 t0)(b:JS X s1 t1)(c:JS X s2 t2)(d:JS X s3 t3)(e:JS X s4 t4)(f:JS X s5 t5):ŧ X [s0,s1,s2,s3,s4,s5] (yc t0 (yc t1 (yc t2 (yc t3 (yc t4 t5))))):=(jB a (jB b (jB c (jB d (jB e (ze f))))))
def js7 (a:JS X s0 t0)(b:JS X s1 t1)(c:JS X s2 t2)(d:JS X s3 t3)(e:JS X s4 t4)(f:JS X s5 t5)(g:JS X s6 t6):ŧ X [s0,s1,s2,s3,s4,s5,s6] (yc t0 (yc t1 (yc t2 (yc t3 (yc t4 (yc t5 t6)))))):=(jB a (jB b (jB c (jB d (jB e (jB f (ze g)))))))
def js8 (a:JS X s0 t0)(b:JS X s1 t1)(c:JS X s2 t2)(d:JS X s3 t3)(e:JS X s4 t4)(f:JS X s5 t5)(g:JS X s6 t6)(h:JS X s7 t7):ŧ X [s0,s1,s2,s3,s4,s5,s6,s7] (yc t0 (yc t1 (yc t2 (yc t3 (yc t4 (yc t5 (yc t6 t7))))))):=(jB a (jB b (jB c (jB d (jB e (jB f (jB g (ze h))))))))
def Za (hc:JT X c tc)(h:JS X s0 t0):JS X (.If c [s0] [] pos) (Dp tc t0 WK):=Sc hc (ze h) QB
end
end L2
namespace L2
open PySem PySem.Spec PyProof.Rows HT
section
variable {X:Cx}
theorem wZ {α β:Type}{R:α->β->Prop}: ∀ {xs:G0 α} {ys:G0 β} {i:G8} {x:α} {y:β},Paired R xs ys->xs[i]? =some x->ys[i]? =some y->R x y
 |_,_,0,_,_,.cons r _,e1,e2=>by simp at e1 e2;subst e1 e2;exact r
 |_,_,i+1,_,_,.cons _ t,e1,e2=>wZ t (by simpa using e1) (by simpa using e2)
 |_,_,_,_,_,.nil,e1,_=>by cases e1
end
def Md {prog:S6}{w:B3}{A:N4}{R:n6->G3->Prop}{s:G3}{e target iter:M6}{ifs:G0 M6}{depth:G8}{it acc:G2}{env:Env}{act:Sem Unit}(I:G8->G3->Prop)
 (hq:(Code.compLoop e depth it acc env).quiet=true)(hd:(R3 prog w).den (.compLoop e depth it acc env)=(g7 e depth it acc env).onRaise (λx=>do xE x env;m7 x))(hA:A.under (.compLoop e depth it acc env)=A)
 (heq:g7 e depth it acc env=Jg iter target ifs it env act (.compLoop e depth it acc env))
 (turn: ∀n s,I n s->D8 (R3 prog w) A (iU it) (λr s₁=>match r with
  |none=>R (.ok .next) s₁
  |some v=>D8 (R3 prog w) A (aK target it v) (λ_ s₁=>D8 (R3 prog w) A (gR target env v) (λ_ s₂=>
   D8 (R3 prog w) A (forIn ifs true λc r=>if r=true then do let ok <-xJ c env (J3 c env);pure (aN ok) else pure (aN r)) (λok s₃=>
    if ok=true then D8 (R3 prog w) A act (λ_ ω=> ∃m,m<n/\I m ω) (λ_ _=>False) s₃
    else ∃m,m<n/\I m s₃) (λ_ _=>False) s₂) (λ_ _=>False) s₁) (λ_ _=>False) s₁) (λ_ _=>False) s)
 (n:G8)(h:I n s):
 bR (R3 prog w) A (.compLoop e depth it acc env) R s:=by
 refine xK hq I (λn s hI=> ?_) n h;rw [hd,hA];refine z8 ?_;rw [heq];unfold Jg;refine wpAny_bind (aW (wpAny_bind (T7 (turn n s hI) (λr s₁ h₁=> ?_) λ_ _ h'=>h'.elim)));cases r with
 |none=>exact G9 h₁
 |some v=>
  refine wpAny_bind (T7 h₁ (λ_ s₁ h₁=> ?_) λ_ _ h'=>h'.elim);refine wpAny_bind (T7 h₁ (λ_ s₂ î=>wpAny_bind (T7 î (λok s₃ č=> ?_) λ_ _ h'=>h'.elim)) λ_ _ h'=>h'.elim);cases ok with
  |false=>exact G9 ⟨rfl,č⟩
  |true=>exact wpAny_bind (T7 č (λ_ ω X0U=>G9 ⟨rfl,X0U⟩) λ_ _ h'=>h'.elim)
abbrev TMG (α:Type):=St->Hp->α->(α->Hp->Prop)->Prop
def EE {α:Type}(X:Cx)(Acc:α->Obj->Prop)(D:P3)(act:Sem Unit)(t:TMG α):Prop:=
 ∀ (À:G0 (P3×Obj)) (s:G3) (σ:St) (H:Hp) (ys:α) (o:Obj) (Q:α->Hp->Prop),Inv X ([(D,o)]++À) σ H s->Acc ys o->D∈X.ex->(∀x c,X.env.cells.lookup x=some c->c≠D)->(∀p∈X.pn++À,p.1≠D)->t σ H ys Q->
  D8 (R3 X.prog X.w) X.A act (λ_ s'=> ∃ÿ o' H',Acc ÿ o'/\Inv X ([(D,o')]++À) σ H' s'/\Q ÿ H') (λ_ _=>False) s
def tCG {α : Type} (Acc : α → Obj → Prop) (ho : α → Obj → P3 → HO) (a0 : α) (js : G0 G8) (wi : TI) (g : TG) (tt : TT) (tm : TMG α) : TE := fun σ H Q => wi σ H fun J H1 =>
  ∃ W : G8 → G8 → α → Hp → Prop, (∃ m, W 0 m a0 H1) ∧ ∀ i m ys H, W i m ys H →
    ((J.stop i H ∧ ∀ p o, H p = none → Acc ys o → Q (.ref p) (upd H p (ho ys o p))) ∨
     (J.go i H ∧ ∀ x H', J.yld i H x H' → g x (zA js σ) H' fun ã H2 => Agree (zA js σ) ã ∧ tt ã H2 fun b H3 =>
        if b = true then tm ã H3 ys fun ÿ H4 => ∃ m', m' < m ∧ W (i + 1) m' ÿ H4 else ∃ m', m' < m ∧ W (i + 1) m' ys H3))
structure X0D (P:S6)(w:B3)(e:M6)(g:aX)(rest:G0 aX)(mk:Sem G2)(o0:Obj):Prop where
 cl:clausesOf e=g::rest
 quiet: ∀it acc env,(Code.compLoop e 0 it acc env).quiet=true
 den: ∀it acc env,(R3 P w).den (.compLoop e 0 it acc env)=(g7 e 0 it acc env).onRaise (λx=>do xE x env;m7 x)
 under: ∀A it acc env,Around.under A (.compLoop e 0 it acc env)=A
 start: ∀ {A:N4} {R:n6->G3->Prop} {s:G3} {it acc env},bR (R3 P w) A (.compLoop e 0 it acc env) R s->D8 (R3 P w) A (nV it) (λit' s'=>bR (R3 P w) A (.compLoop e 0 it' acc env) R s') (notedBy (R3 P w) A env λx s'=>R (.error x) s') s->bR (R3 P w) A (.compStart e 0 it acc env) R s
 live:o0.isFreed=false
 made: ∀ {A:N4} {Q:G2->G3->Prop} {E:G2->G3->Prop} {s:G3},Q (.ref s.heap.objs.size) {s with heap:=s.heap.push o0}->D8 (R3 P w) A mk Q E s
def EF {α:Type}{Acc:α->Obj->Prop}{ho:α->Obj->P3->HO}{a0:α}{mk:Sem G2}{o0:Obj}{X:Cx}{e iter tg:M6}{ifs:G0 M6}{rest:G0 aX}{scope:Y5}{X0W:Pos}{js:G0 G8}{wi:TI}{g:TG}{tt:TT}{tm:TMG α}{use:P9 (G2->Sem Unit)}{Qv:G2->G3->Prop}(hc:X.calm=true)(S:Ê X scope js)(hi:PI X tg iter wi)
 (ck:X0D X.prog X.w e ⟨tg,iter,ifs,0⟩ rest mk o0)(X1q:Acc a0 o0)(X0E: ∀a o,Acc a o-> ∀v,o.data≠ .cell v)(okO: ∀ {a o H h p},(p==W7)=false->Acc a o->h.get? p=some o->Ñ X.prog X.w H h p (ho a o p))
 (hg: ∀X',jh X scope X'->PG X' tg g)(ht: ∀X',jh X scope X'->Ĝ X' ifs tt)
 (act:Env->G2->Sem Unit)(Ŧ: ∀it acc env,g7 e 0 it acc env=Jg iter tg ifs it env (act env acc) (.compLoop e 0 it acc env))(he: ∀X',jh X scope X'-> ∀D,EE X' Acc D (act X'.env (.ref D)) tm)
 (hs: ∀x,M8 iter X.env x=pure x){À:G0 (P3×Obj)}{s:G3}{σ:St}{H:Hp}{Q:VK}(I:Inv X À σ H s)(h:tCG Acc ho a0 js wi g tt tm σ H Q)
 (fin: ∀ (D C:P3) (H':Hp) (s':G3) (m:Str->P9 G2),s'.heap.Ns C m->(∀h',O9 C s'.heap h'->Inv X À σ H' {s' with heap:=h'})->H' C=none->C≠X.env.locals->C ∉ X.fs->X.s₀.heap.objs.size<=C->(∀x c,X.env.cells.lookup x=some c->c≠C)->(∀p∈X.pn++À,p.1≠C)->
  Q (.ref D) H'->tT (R3 X.prog X.w) X.A X.xe use Qv (.ref D) C (.ok .next) s'):
 D8 (R3 X.prog X.w) X.A (lN e scope X.env X0W mk false (J3 iter X.env) use) Qv X.xe s:=by
 have X0g:=Je (scope:=scope) (env:=X.env) (λp hp e=>I.ok.has p.1 (S.free p hp e));refine lQ (use:=use) ck.cl hs X0g S.kind S.locs (Ó (hi À s σ H _ I h) λv s1 h1=>Ó h1 λitv s2 h2=> ?_);obtain⟨it,fp,tn,J,H2,e,I2,T,ĭ,f2,W,⟨m0,w0⟩,turn⟩:=h2;subst e;refine ck.made (Zo (λh₁ û Ĕ Ü ü=> ?_));dsimp only at û Ĕ Ü ü ⊢;generalize hD:s2.heap.objs.size=D;generalize hH3:s2.heap.push o0=h3 at û Ĕ Ü ü ⊢;have sz3:h3.objs.size=D+1:=by rw [<-hH3,cE,hD]
 have up3: ∀b o,s2.heap.get? b=some o->h3.get? b=some o:=λb o e=>hH3 ▸ G6 _ e
 have I3:Inv X À σ H2 {s2 with heap:=h3}:=I2.kept (t':=s2.toks) up3;have hD3:h3.get? D=some o0:=by rw [<-hH3,<-hD];exact R0 _ ck.live
 have fD:Xf X À H2 D:=I2.fpOk (by rw [hD];exact P2 _) (I2.hok.fresh (by rw [hD];exact P2 _));have obf: ∀b∈fp,∃o,s2.heap.get? b=some o/\ ∀v,o.data≠ .cell v:=T.obj _ _ ĭ;have ltf: ∀b∈fp,b<D:=λb hb=>by obtain⟨o,e,_⟩:=obf b hb;rw [<-hD];exact D0 e
 generalize hC:h3.objs.size=C at û Ü ü ⊢;have CD:C=D+1:=hC.symm.trans sz3;have Μ: ∀b o,h3.get? b=some o->h₁.get? b=some o:=Ĕ;generalize hX:wL X scope C {s2 with heap:=h3} H2 (fp++ [D])=X';have iX:jh X scope X':=⟨C,_,_,_,hX.symm⟩;have hf: ∀b∈fp++ [D],Xf X À H2 b:=λb hb=>(D1.mp hb).elim (f2 b) λz=>by rw [P0.mp z];exact fD
 have cl: ∀x c,(jx X scope C).lookup x=some c->X.env.cells.lookup x=some c\/C<c:=λx c e=>by
  rcases za S e with ⟨_,z⟩|⟨_,z⟩
  ·exact .inl z
  ·exact .inr (X3 (Ü x c z).2)
 have olt: ∀x c,X.env.cells.lookup x=some c->c<C:=λx c e=>by obtain⟨v,q⟩:=I3.cell x c e;rw [<-hC];exact q.lt
 have ltb: ∀b∈fp++ [D],b<C:=λb hb=>(D1.mp hb).elim (λz=>by have:=ltf b z;rw [CD];exact cX this) λz=>by rw [P0.mp z,CD];exact E5 _
 have okX:X'.Ok:=by
  subst hX;refine⟨I.ok.mod,S.kind,I.ok.glob,I.ok.blt,U6 hC,λx y c e1 e2=> ?_,λx hx=> ?_,λx c z e=> ?_,I.ok.hd,I.ok.frames,.inl rfl,λb hb=>⟨S8 (ltb b hb),λx c e=>(cl x c e).elim (λz=>(hf b hb).2.2.2.2.1 x c z) λz=>Q2 (X2 (ltb b hb) z)⟩,
   I3.bs,R1 I.ok.bsz I3.sz,λb o e hb=> ?_,λb hb z=> ?_,I3.stack,I3.stkFree⟩
  ·rcases za S e1 with ⟨_,z1⟩|⟨_,z1⟩<;>rcases za S e2 with ⟨_,z2⟩|⟨_,z2⟩
   ·exact I.ok.inj x y c z1 z2
   ·exact absurd (X2 (olt x c z1) (X3 (Ü y c z2).2)) (C1 _)
   ·exact absurd (X2 (olt y c z2) (X3 (Ü x c z1).2)) (C1 _)
   ·exact qF ü z1 z2
  ·have own:scope.names.lookup x=some .cell-> ∃c,(jx X scope C).lookup x=some c:=λz=>by
    obtain⟨c,hc⟩:=Jc (sc:=scope) (n:=C+1) z;exact⟨c,by unfold jx;rw [jK,vg,hc]⟩
   have shr:scope.names.lookup x=some .free-> ∃c,(jx X scope C).lookup x=some c:=λz=>by
    have fm:=zz z;obtain⟨c,hc⟩:=I.ok.has x (S.free _ fm rfl);exact⟨c,wC S hc fm (by rw [z];decide)⟩
   rcases hx with hx|hx
   ·rcases jw (env:=X.env) hx with z|z
    ·exact own z
    ·exact shr z
   ·rcases jw (env:=X.env) hx with z|z<;>exact shr z
  ·have z':scope.names.lookup x=some .cell:=by
    have z2:(scope.names.lookup x==some V6)=true:=z;simpa using z2
   rcases za S e with ⟨n,_⟩|⟨_,m⟩
   ·exact absurd z' n
   ·show h3.objs.size<=c;rw [hC];exact T8 (X3 (Ü x c m).2)
  ·rcases (hf b hb).2.2.2.1 with z|z
   ·exact I.ok.noex b o e z
   ·exact absurd (N5 (D0 e) (R1 I.ok.bsz z)) (C1 _)
  ·rcases S0.mp (I.stkSub b z) with q|q
   ·exact(hf b hb).2.1 q
   ·exact(hf b hb).2.2.1 q
 -- Ŝ X0h first state
 have I4:Inv X' [(D,o0)] (zA js σ) H2 {s2 with heap:=h₁}:=by
  subst hX;have hDC:D≠C:=by rw [CD];exact S8 (E5 _)
  refine⟨okX,rfl,I2.bare,Un.kept (λb u e=>Μ b u e),⟨_,û,λi x v e1 e2 e3=> ?_⟩,λx c e=> ?_,I3.hok.fresh (U6 hC),λx c e=>(cl x c e).elim (λz=>I2.freeC x c z) (λz=>I3.hok.fresh (by rw [<-hC] at z;exact T8 z)),λp hp=> ?_,I3.hok.kept Μ,(JL js σ).trans I2.len⟩
  ·have fr:scope.names.lookup x=some .free:=by
    rcases e3 with e3|e3|e3
    ·rcases jw (env:=X.env) e3 with z|z
     ·exact absurd e2 (jW js σ i v (S.js i x e1 (.inl z)))
     ·exact z
    ·rcases jw (env:=X.env) e3 with z|z
     ·exact absurd e2 (jW js σ i v (S.js i x e1 (.inr z)))
     ·exact z
    ·rcases jw (env:=X.env) e3 with z|z<;>exact z
   have fm:=zz fr;obtain⟨m,hm,hl⟩:=I2.loc;have vis:=S.free _ fm rfl;obtain⟨u,r,lk⟩:=hl i x v e1 (Jf js σ i v e2) (.inr vis);have kd:(xL scope X.env).names.lookup x=some .cell\/(xL scope X.env).names.lookup x=some .free:=by
    rcases e3 with e3|e3|e3
    ·rcases jw (env:=X.env) e3 with z|z
     ·rw [fr] at z;cases z
     ·exfalso;have z2:=e3
      -- a X0i kind stays
      exact absurd e2 (jW js σ i v (S.js i x e1 (.inl (by
       have q: ∀ (l:G0 (Str×NameKind)),(l.map λ(n,k)=>if (k==E3&&X.env.scope.kind== .function&&X.env.kindOf n==some .cell) then (n,V6) else (n,k)).lookup x=some .local->l.lookup x=some .local:=by
        intro l
        induction l with
        |nil=>intro h;simp at h
        |cons p l ih=>
         obtain⟨n,k'⟩:=p;intro h;have h':z9 x ((if (k'==E3&&X.env.scope.kind== .function&&X.env.kindOf n==some .cell)=true then (n,V6) else (n,k'))::(l.map λ(n,k)=>if (k==E3&&X.env.scope.kind== .function&&X.env.kindOf n==some .cell) then (n,V6) else (n,k)))=some .local:=h;rw [J9]
         by_cases hc:(k'==E3&&X.env.scope.kind== .function&&X.env.kindOf n==some .cell)=true
         ·rw [R6 hc,J9] at h';cases hx:x==n with
          |true=>rw [hx] at h';cases h'
          |false=>rw [hx] at h';exact ih h'
         ·rw [R9 hc,J9] at h';cases hx:x==n with
          |true=>rw [hx] at h';exact h'
          |false=>rw [hx] at h';exact ih h'
       exact q _ z2))))
    ·exact .inl e3
    ·exact .inr e3
   rcases lk with ⟨k,_⟩|⟨_,c,hc,ŋ⟩
   ·have k':X.env.scope.names.lookup x=some .local:=k;rcases vis with z|z<;>(rw [k'] at z;cases z)
   ·refine⟨u,r,.inr ⟨kd,c,wC S hc fm (by rw [fr];decide),?_⟩⟩;obtain⟨o,ho,hd⟩:=ŋ;exact⟨o,Μ _ _ (up3 _ _ ho),hd⟩
  ·rcases za S e with ⟨_,z⟩|⟨_,z⟩
   ·obtain⟨v,o,ho,hd⟩:=I2.cell x c z;exact⟨v,o,Μ _ _ (up3 _ _ ho),hd⟩
   ·exact⟨none,(Ü x c z).1⟩
  ·have Ŷ:p∈ [(D,o0)]:=hp;rcases P0.mp Ŷ with rfl
   refine⟨Μ _ _ hD3,fD.1,hDC,λz=> ?_,X0E _ _ X1q⟩;rcases S0.mp (I.stkSub D z) with q|q
   ·exact fD.2.1 q
   ·exact fD.2.2.1 q
 have st4:tn 0 h₁:=T.keep _ _ _ ĭ λb _ o e=>Μ _ _ (up3 _ _ e)
 have eA:X'.A=X.A:=by rw [<-hX];rfl
 have eP:X'.prog=X.prog:=by rw [<-hX];rfl
 have eW:X'.w=X.w:=by rw [<-hX];rfl
 have eK:X'.K=X.K:=by rw [<-hX];rfl
 have eC:X'.calm=true:=by rw [<-hX];exact hc
 have eV:X'.env=mE scope (jx X scope C) C X.env:=by rw [<-hX];rfl
 have eE:X'.xe=λ_ _=>False:=by rw [<-hX];rfl
 -- μ stays true of Ŝ ĵ objects
 have Ē: ∀ {us:Obj} {H':Hp},(∀b∈fp,H' b=none)-> ∀b∈fp,Xf X' [(D,us)] H' b:=λ{us H'} hn b hb=>by
  have q:=hf b (B8 _ hb);subst hX;refine⟨hn b hb,S8 (ltb b (B8 _ hb)),λz=> ?_,.inl (B8 _ hb),λx c e=>(cl x c e).elim (λz=>q.2.2.2.2.1 x c z) (λz=>Q2 (X2 (ltb b (B8 _ hb)) z)),λp hp=> ?_⟩
  ·rcases S0.mp (I.stkSub b z) with r|r
   ·exact q.2.1 r
   ·exact q.2.2.1 r
  ·have Ŷ:p∈ [(D,us)]:=hp;rcases P0.mp Ŷ with rfl
   exact Q2 (ltf b hb)
 have loop: ∀s₃:G3,s₃= {s2 with heap:=h₁}->
  bR (R3 X.prog X.w) X.A (.compLoop e 0 (.ref it) (.ref D) (mE scope (jx X scope C) C X.env))
   (tT (R3 X.prog X.w) X.A X.xe use Qv (.ref D) C) s₃:=by
  rintro s₃ rfl;refine Md (act:=act (mE scope (jx X scope C) C X.env) (.ref D)) (λn s'=> ∃i ys us H',Acc ys us/\Inv X' [(D,us)] (zA js σ) H' s'/\tn i s'.heap/\(∀b∈fp,H' b=none)/\W i n ys H') (ck.quiet _ _ _) (ck.den _ _ _) (ck.under _ _ _ _) (Ŧ _ _ _) ?_ m0
   ⟨0,a0,o0,H2,X1q,I4,st4,λb hb=>(f2 b hb).1,w0⟩
  rintro n s5 ⟨i,ys,us,H5,ε,I5,Ψ,fr5,w5⟩;have tr:=turn i n ys H5 w5;rcases tr with ⟨stop,qn⟩|⟨go,step⟩
  ·have q:=T.done X' eP eW eK eC i _ s5 _ H5 (λ_ _=>False) I5 (Ē fr5) Ψ stop;rw [eA] at q;refine T7 q (λr s6 ⟨hr,I6⟩=> ?_) λ_ _ z=>z
   subst hr;obtain⟨m6,hm6,_⟩:=I6.loc;rw [eV] at hm6;have zD:=I6.pin (D,us) (D4 _ D3);have HD:H5 D=none:=zD.2.1;have oD:s6.heap.get? D=some (us):=zD.1;have hDC:D≠C:=by rw [CD];exact S8 (E5 _)
   have HC:H5 C=none:=by have z:=I6.free;rw [eV] at z;exact z
   have B:=I6.base;have os6:s6.os=s2.os:=by have z:=I6.os;rw [<-hX] at z;exact z
   have Bu:Un (Ι X.stack) (fp++ [D]) H2 H5 h3 s6.heap:=by rw [<-hX] at B;exact B
   have Χ: ∀b o,h3.get? b=some o->b≠C:=λb o e=>by rw [<-hC];exact S8 (D0 e)
   refine fin D C (upd H5 D (ho ys us D)) s6 m6 hm6 (λh' hs'=> ?_) (by rw [jq (E7 hDC)];exact HC) ?_ ?_ ?_ (λx c e=>S8 (olt x c e)) ?_ (qn D us HD ε)
   ·have hk5:ď X.prog X.w H5 h':=λb u e=>by
     have z:=I6.hok b u e;rw [eP,eW] at z;refine z.stay (λc v hc q=>hs'.extBut c v ?_ q) (λ_ q=>q) λ_ _ q=>q
     rcases hc with rfl|hc
     ·exact ji e HC
     ·exact ji hc HC
    refine I3.call' (ch:=fp++ [D]) os6 ⟨λb o e n hb hx=> ?_,λb o e n hb hx=> ?_,λb o e n hx=> ?_,λb o e hx=> ?_,λb xs e=> ?_,λb o u e=> ?_,λb ps e=> ?_⟩ (hk5.track HD ?_) I6.bare λb hb=> ?_
    ·exact hs'.extBut b o (Χ b o e) (Bu.keep b o e n hb hx)
    ·obtain⟨sl,q⟩:=Bu.slot b o e n hb hx;exact⟨sl,hs'.extBut b _ (Χ b o e) q⟩
    ·rw [jq λz=>hx (by rw [z];exact D4 _ D3)];exact Bu.free b o e n hx
    ·obtain⟨o',q⟩:=Bu.there b o e hx;exact⟨o',hs'.extBut b _ (Χ b o e) q⟩
    ·have z:=Bu.tups b xs e;rw [jq (ji z HD)];exact z
    ·have z:=Bu.frzs b o u e;rw [jq (ji z HD)];exact z
    ·obtain⟨more,z⟩:=Bu.tbls b ps e;exact⟨more,by rw [jq (ji z HD)];exact z⟩
    ·exact okO (beq_eq_false_iff_ne.mpr (by rw [<-hD];exact E7 (S8 I2.big))) ε (hs'.extBut D _ hDC oD)
    ·have q:=hf b hb;exact⟨q.2.2.2.1,q.2.1,q.2.2.2.2.1,q.2.2.2.2.2⟩
   ·rw [<-hC];exact Q2 I3.lt
   ·exact I3.nofs (U6 hC)
   ·rw [<-hC];exact I3.sz
   ·intro p hp;have:=(I3.pin p hp).1;rw [<-hC];exact S8 (D0 this)
  ·have q:=T.item X' eP eW eK eC i _ s5 _ H5 (λ_ _=>False) I5 (Ē fr5) Ψ go;rw [eA] at q;refine T7 q (λr s6 ⟨u,hr,h6⟩=> ?_) λ_ _ z=>z
   subst hr;refine T7 h6 (λ_ s7 ⟨x,H7,I7,r7,y7,st7,fr7⟩=> ?_) λ_ _ z=>z
   have I7':=I7.pinned (Ē fr7) (T.obj _ _ st7);have q7:=hg X' iX _ s7 _ H7 x u _ I7' r7 (step x H7 y7);rw [eP,eW,eA,eV,eE] at q7;refine T7 q7 (λ_ s8 ⟨σ8,H8,I8,Δ,q8⟩=> ?_) λ_ _ z=>z
   have q9:=ht X' iX _ s8 σ8 H8 _ I8 q8;rw [eP,eW,eA,eV,eE] at q9;refine T7 q9 (λok s9 ⟨H9,I9,q9⟩=> ?_) λ_ _ z=>z
   have Ħ: ∀ {Â:St} {H':Hp} {s':G3} {us:Obj},Inv X' ([(D,us)]++wW fp s7.heap) Â H' s'->tn (i+1) s'.heap/\ ∀b∈fp,H' b=none:=λ{Â H' s' us} I'=>
    ⟨T.keep _ _ _ st7 λb hb o e=>(I'.pin (b,o) (D4 _ (D4 _ (zw hb e)))).1,λb hb=>by
     obtain⟨o,e,_⟩:=T.obj _ _ st7 b hb;exact(I'.pin (b,o) (D4 _ (D4 _ (zw hb e)))).2.1⟩
   cases ok with
   |false=>
    have q9: ∃m',m'<n/\W (i+1) m' ys H9:=q9;obtain⟨m',hm,w9⟩:=q9;obtain⟨t9,f9⟩:=Ħ I9;exact⟨m',hm,i+1,ys,us,H9,ε,(I9.unpinned).weak Δ.1.symm Δ.2,t9,f9,w9⟩
   |true=>
    have q9:tm σ8 H9 ys λÿ H4=> ∃m',m'<n/\W (i+1) m' ÿ H4:=q9
    have DX:D∈X'.ex:=by rw [<-hX];exact D4 _ D3
    have pD: ∀p∈X'.pn++wW fp s7.heap,p.1≠D:=λp hp=>by
     have Ŷ:p∈wW fp s7.heap:=by rw [<-hX] at hp;simpa [wL] using hp
     exact S8 (ltf _ (Jb Ŷ).1)
    have cD: ∀x c,X'.env.cells.lookup x=some c->c≠D:=λx c e=>by
     rw [eV] at e;exact(cl x c e).elim (λz=>fD.2.2.2.2.1 x c z) λz=>Q2 (X2 (by rw [CD];exact E5 _) z)
    have q10:=he X' iX D _ s9 σ8 H9 ys us _ I9 ε DX cD pD q9;rw [eP,eW,eA,eV] at q10;show D8 _ _ (act _ _) _ _ s9;refine T7 q10 (λ_ s10 ⟨ÿ,Γ,H10,X0w,I10,m',hm,w10⟩=> ?_) λ_ _ z=>z
    obtain⟨t10,f10⟩:=Ħ I10;exact⟨m',hm,i+1,ÿ,Γ,H10,X0w,(I10.unpinned).weak Δ.1.symm Δ.2,t10,f10,w10⟩
 exact ck.start (loop _ rfl) (T.self X.A 0 _ _ _ st4 (loop _ rfl))
abbrev XN:=P3×G0 (G0 P4)
def KS (P:S6)(w:B3)(ps:G0 XN)(o:Obj):Prop:= ∃f es ep t,o=yH es ep t/\Ċ (Cp P w) (wO w) (λk b=>(b,k)∈ps) f es t (ps.map (·.2)).reverse
noncomputable abbrev LD (o:Obj):HO:= .frz o (.own 0)
def tab_of {K:G7}{H:Hp}{T:G0 (G0 P4)}{b:P3}(r:È K H (jj T) (.ref b)):WJ H T b:=by
 obtain⟨a,vs,e,hH,r1⟩:=(show ∃a vs,V.ref b= .ref a/\H a=some (.tup vs)/\Á K H (T.map zM) vs from r);cases e;exact⟨vs,hH,XL r1⟩
def Ux {X:Cx}{k:G8}(hc:X.calm=true)(hr:Û k X.A):Ú X (.type "set") (λxs H Q=> ∃ (a:P3) (ps:G0 XN) (B:G0 (G0 (G0 P4))),xs= [.ref a]/\ê X.K H a (ps.map λp=>V.ref p.1)/\B.length<1000/\(∀p∈ps,p.2∈B)/\(∀p∈ps,WJ H p.2 p.1)/\ ∀ (p:P3) (o:Obj),H p=none->KS X.prog X.w ps o->Q (.ref p) (upd H p (LD o))):=by
 intro À s σ H xs us Q I r h;obtain⟨a,ps,B,rfl,hS,few,inB,ht,q⟩:=h;obtain⟨u,rfl,ru⟩:=vH r;cases ru;obtain⟨its,rv,pl,hz⟩:=I.list hS;have len:its.length=ps.length:=by have:=rv.length;rw [G1] at this;exact this.symm
 have at_: ∀i v,its[i]? =some v-> ∃b,v= .ref b/\(b,(ps.map (·.2)).getD i [])∈ps:=λi v e=>by
  have il:i<ps.length:=by rw [<-len];exact(P5.mp e).1
  have e1:(ps.map λp=>V.ref p.1)[i]? =some (.ref ps[i].1):=by rw [P7,G5 il];rfl
  have e2:=wZ rv e1 e;refine⟨ps[i].1,e2,?_⟩;rw [R4,P7,G5 il];exact N6 il
 have rng:(D6 its.length).map (λi=>(ps.map (·.2)).getD i [])=ps.map (·.2):=by
  have:=jT (ps.map (·.2)) ([]:G0 (G0 P4));rw [G1] at this;rw [len];exact this.symm
 refine Ut (M:=Cp X.prog X.w) (is:=λk b=>(b,k)∈ps) B few (λi hi=>by
  have il:i<ps.length:=by rw [<-len];exact hi
  rw [R4,P7,G5 il];exact inB _ (N6 il)) (by have:=hr.un;omega) (I.ok.hd hc) (.inl rfl) pl.isList at_ (λk b z=>yS I k b (ht _ z)) λh' tk f es ep t e S kept=> ?_
 rw [rng] at S;exact⟨.ref _,_,I.laid (t':=tk) (o:=LD (yH es ep t)) kept (P2 _) ⟨e,⟨_,e⟩⟩,rfl,q _ _ (I.hok.fresh (P2 _)) ⟨f,es,ep,t,rfl,S⟩⟩
end L2
namespace L2
open PySem PySem.Spec PyProof.Rows HT PySem.SeqAt
section
variable {prog:S6}{w:B3}{A:N4}{E:G2->G3->Prop}{s:G3}
noncomputable def Zr (U:G0 (G0 P4)):G8:=(U.map λr=>r.length+1).sum
theorem Yw {Q:S5 P4->G3->Prop}(hu:A.units+4<cLine): ∀ {vs:G0 G2} {U:G0 (G0 P4)} (b:S5 P4) (s1:G3),s1.heap=s.heap->Í prog w s.heap U vs->Q (b++(U.map (Y1 (intKind prog w))).toArray) {s1 with toks:=s1.toks+Zr U}->
 D8 (R3 prog w) A (forIn vs b λx r=>do let h <-pyHash x;pure (aN (r.push h))) Q E s1
 |_,_,b,s1,_,.nil,q=>G9 (by simpa [Zr] using q)
 |_,_,b,s1,e1,.cons (r:=r) (T:=U) a x,q=>by
  rw [bQ];refine wpAny_bind (wpAny_bind (kK (by omega) (by rw [e1];exact a) (G9 ?_)));refine Yw hu (b.push (Y1 (intKind prog w) r)) _ e1 x ?_;have e:s1.toks+(r.length+1)+Zr U=s1.toks+Zr (r::U):=by unfold Zr;rw [M0,u5];omega
  rw [M0] at q;show Q _ {s1 with toks:=s1.toks+(r.length+1)+Zr U};rw [e];simpa using q
def Me {T:G0 (G0 P4)}{a:P3}{Q:P4->G3->Prop}(hu:A.units+8<cLine)(hT:WP prog w s.heap T a)(q:Q (Pd prog w T) {s with toks:=s.toks+(Zr T+1)}):D8 (R3 prog w) A (pyHash (.ref a)) Q E s:=by
 obtain⟨o,items,n,ho,hc,hd,hi⟩:=hT;have ty:s.TypeIs (.ref a) "tuple" :=⟨o,ho,hc⟩;have room:A.units<cLine:=by omega
 have slot:=λ{M:qA} {A':N4} {E':G2->G3->Prop} {P:P9 G2->G3->Prop}=>aM (M:=M) (A:=A') (E:=E') (Q:=P) ty F.slot_tuple_hash.lookup
 unfold pyHash pyHashByItsType;refine wpAny_bind (qZ (.inr room) (wpAny_bind (slot ?_)));rw [R9 (by simp)];refine wpAny_bind (slot (wpAny_bind (cW ty gL (C7 gL ty pY ?_ (pB _)))));show D8 _ _ (X0 (.ref a) >>= _) _ _ s;refine wpAny_bind (pZ ho hd (wpAny_bind ?_));rw [<-U0];refine Yw (A:=A.in1) (show A.units+1+4<cLine by omega) #[] s rfl hi ?_;have told:=q;unfold Pd mP at told;show D8 _ _ (retInt (Y9 ((#[]:S5 P4)++(T.map (Y1 (intKind prog w))).toArray).toList)) _ _ _;rw [show ((#[]:S5 P4)++(T.map (Y1 (intKind prog w))).toArray).toList=T.map (Y1 (intKind prog w)) by simp];refine sW ?_;show D8 _ _ (cH _) _ _ _;unfold cH;split
 ·rename_i c;rw [R6 c] at told;exact G9 told
 ·rename_i c;rw [R9 c] at told;exact wpAny_bind (dE (G9 told))
theorem Í.past {h h':L8}{d:P3}{o:Obj}{es:S5 dS}{ep:G8}(hd:h.get? d=some o)(dd:o.data= .dict es ep)(hs:O9 d h h'): ∀ {T:G0 (G0 P4)} {vs:G0 G2},Í prog w h T vs->Í prog w h' T vs
 |_,_,.nil=> .nil
 |_,_,.cons a x=> .cons (a.keeps hd dd hs) (x.past hd dd hs)
noncomputable def Bn (prog:S6)(w:B3):HeapKind prog w (G0 (G0 P4)) where
 is:=WP prog w
 hash:=Pd prog w
 draws:=λT=>Zr T+1
 room:=λA=>A.units+8<cLine
 inj:=λhx hy=>(Cp prog w).inj hx hy
 keeps:=λ⟨o',items,n,ho,hc,hdd,hi⟩ hd dd hs=>by
  refine⟨o',items,n,hs.extBut _ _ (λz=> ?_) ho,hc,hdd,hi.past hd dd hs⟩;rw [z,hd] at ho;cases ho;rw [dd] at hdd;cases hdd
 pyHash:=λhu hk q=>Me hu hk q
 eqBool:=λhu hx hy q=>RU hu hx hy q
 quiet:=λhk q=>Uv hk q
end
abbrev KT2:=G0 (G0 (G0 P4)×P3×V)
noncomputable def zU {α:Type}(kv:G0 (G0 (G0 P4)×α))(k:G0 (G0 P4)):P9 α:=(kv.find? λp=>decide (p.1=k)).map (·.2)
noncomputable def PC {α:Type}(kv:G0 (G0 (G0 P4)×α))(k:G0 (G0 P4))(d:α):G0 (G0 (G0 P4)×α):=if (zU kv k).isSome then kv.map (λp=>if p.1=k then (p.1,d) else p) else kv++ [(k,d)]
variable {T:G0 (G0 P4)}
def WR {K:G7}{H:Hp}{b:P3}(r:È K H (jj T) (.ref b)):WJ H T b:=by
 obtain⟨ps,e1,e2,e3⟩:=RX (K:=K) (H:=H) (Ts:= [T]) (vs:= [.ref b]) ⟨_,_,rfl,r,rfl⟩;cases ps with
 |nil=>cases e1
 |cons p ps=>
  injection e1 with e4 _
  injection e2 with e5 _
  injection e4 with e4
  rw [e5,e4];exact e3 p D3
abbrev vR (p:G0 (G0 P4)×P3×V)(q:G0 (G0 P4)×P3×G2):Prop:=p.1=q.1/\p.2.1=q.2.1/\RelV p.2.2 q.2.2
theorem zh: ∀ {xs:KT2} {ys:G0 (G0 (G0 P4)×P3×G2)},Paired vR xs ys->xs.map (·.1)=ys.map (·.1)/\xs.length=ys.length/\ ∀y∈ys,∃x∈xs,x.1=y.1/\x.2.1=y.2.1
 |_,_,.nil=>⟨rfl,rfl,λy hy=>by cases hy⟩
 |_,_,.cons (a:=x) (b:=y) r z=>by
  obtain⟨a,b,c⟩:=zh z;refine⟨by rw [M0,M0,a,r.1],by rw [D2,D2,b],λy' hy=> ?_⟩;rcases S0.mp hy with e|e
  ·rw [e];exact⟨_,D3,r.1,r.2.1⟩
  ·obtain⟨x',hx,p⟩:=c y' e;exact⟨x',S1 _ hx,p⟩
section
variable {K:G7}{H:Hp}{k:G0 (G0 P4)}
theorem ym: ∀ {kv:G0 (G0 (G0 P4)×D)} {xs:KT2} {ys:G0 (G0 (G0 P4)×P3×G2)},kv.map (·.1)=xs.map (·.1)->Á K H (kv.map (·.2)) (xs.map (·.2.2))->Paired vR xs ys->
 (∀d,zU kv k=some d-> ∃v p,iI ys k=some p/\È K H d v/\RelV v p.2)/\(zU kv k=none->iI ys k=none)
 | [],[],_,_,_,.nil=>⟨λ_ z=>(nomatch z),λ_=>rfl⟩
 |p::r,[],_,e,_,_=>by cases e
 | [],q::xs,_,e,_,_=>by cases e
 |p::r,q::xs,_,e,h,.cons (b:=y) r1 z=>by
  rw [M0,M0] at e;injection e with e1 e2
  obtain⟨v,t,z',h1,h2⟩:=(show ∃v t,q.2.2::xs.map (·.2.2)=v::t/\È K H p.2 v/\Á K H (r.map (·.2)) t from h);injection z' with z1 z2
  subst z1 z2;have ih:=ym e2 h2 z
  by_cases c:p.1=k
  ·have g:zU (p::r) k=some p.2:=by simp [zU,U4,c]
   have g': ∀ľ,iI (y::ľ) k=some y.2:=λľ=>by
    have:y.1=k:=by rw [<-r1.1,<-e1,c]
    simp [iI,U4,this]
   rw [g];refine⟨λd hd=> ?_,λhd=>by cases hd⟩;injection hd with hd
   subst hd;exact⟨q.2.2,y.2,g' _,h1,r1.2.2⟩
  ·have g:zU (p::r) k=zU r k:=by simp [zU,U4,c]
   have g': ∀ľ,iI (y::ľ) k=iI ľ k:=λľ=>by
    have: ¬y.1=k:=by rw [<-r1.1,<-e1];exact c
    simp [iI,U4,this]
   rw [g,g'];exact ih
end
section
variable {X:Cx}{À:G0 (P3×Obj)}{σ:St}{H:Hp}{s:G3}{a b:P3}{A:N4}{E:G2->G3->Prop}{T:G0 (G0 P4)}{xs ľ:KT2}
def ZM {ep:G8}(I:Inv X À σ H s)(hH:H a=some (WI a ep xs))(ks: ∀x∈xs,WJ H x.1 x.2.1)(nd:(xs.map (·.1)).Nodup):(a==W7)=false/\xs.length<=sizeLine/\ ∃ys,Paired vR xs ys/\s.heap.DictOfH (Bn X.prog X.w) a ys:=by
 obtain⟨⟨h1,h2,ys,pr,o,es,ho,ex,hd,he⟩,_,_⟩:=I.hok a _ hH;obtain⟨k1,k2,k3⟩:=zh pr;refine⟨h1,h2,ys,pr,o,es,ep,ho,ex,hd,he,λy hy=> ?_,by rw [<-k1];exact nd⟩;obtain⟨x,hx,e1,e2⟩:=k3 y hy;have:=yS I x.1 x.2.1 (ks x hx);rw [e1,e2] at this;exact this
def Bo {ep:G8}{v:V}{r:G2}{Q:Unit->G3->Prop}(hu:A.units+9<cLine)(I:Inv X À σ H s)(hH:H a=some (WI a ep xs))(ks: ∀x∈xs,WJ H x.1 x.2.1)(nd:(xs.map (·.1)).Nodup)(hT:WJ H T b)(st: ∀ys,Paired vR xs ys->Paired vR ľ (storedH ys T b r))(lz:ľ.length<=sizeLine)
 (h: ∀é s',Inv X À σ (upd H a (WI a é ľ)) s'->Q () s'):D8 (R3 X.prog X.w) A (tD (.ref a) (.ref b) r) Q E s:=by
 obtain⟨h1,h2,ys,pr,dd⟩:=ZM I hH ks nd;refine wpAny_setItem_heap (knd:=Bn X.prog X.w) (hsz:=by have:=(zh pr).2.1;omega) (show A.units+1+8<cLine by omega) (yS I T b hT) dd λh' dd' hs=> ?_
 obtain⟨q,es,ep,hq,e2,e3,e4,_,_⟩:=dd';refine h ep _ (Dg I (by rw [hH];exact cJ) hs ⟨q,hq⟩ ⟨⟨h1,lz,_,st ys pr,q,es,hq,e2,e3,e4⟩,⟨q,hq⟩,λg1 g2 hg ke=> ?_⟩);obtain⟨a1,a2,ÿ,pr',o,Ö,ho,ex,hd,he⟩:=hg;exact⟨a1,a2,ÿ,pr',o,Ö,ke o ho,ex,hd,he⟩
end
def TZ:TE:=λ_ H Q=> ∀p,H p=none->Q (.ref p) (upd H p (WI p 0 []))
def X0m {X:Cx}{pos:Pos}:PE X (.Dict [] [] pos) TZ:=λÀ s σ H Q I h=>
 wpAny_Dict_empty ⟨.ref s.heap.objs.size,_,I.laid (a:=s.heap.objs.size) (o:=WI s.heap.objs.size 0 []) (t':=s.toks) (λ_ _ q=>G6 _ q) (P2 _) ⟨⟨beq_eq_false_iff_ne.mpr (E7 (S8 I.big)),N7 _,[],.nil,_,#[],R0 _ rfl,⟨rfl,rfl,rfl⟩,rfl,rfl⟩,⟨_,R0 _ rfl⟩,λg1 g2 ⟨a1,a2,ÿ,pr',o,Ö,ho,ex,hd,he⟩ ke=>⟨a1,a2,ÿ,pr',o,Ö,ke o ho,ex,hd,he⟩⟩,rfl,h _ (I.hok.fresh (P2 _))⟩
def EG:TED:=λ_ h Q=> ∀p,h.dc p=none->Q (.dct p) (Ng h p (.tk 0 []))
def ixT:RD2:=λx y h Q=> ∃a T ep kv d,x= .dct a/\y=jj T/\h.dc a=some (.tk ep kv)/\zU kv T=some d/\Q d h
def inT (neg:N0):RD2:=λx y h Q=> ∃a T ep kv,y= .dct a/\x=jj T/\h.dc a=some (.tk ep kv)/\Q (.bl (neg !=(zU kv T).isSome)) h
section
variable {X:Cx}
def Mf {pos:Pos}:JE X (.Dict [] [] pos) EG:=⟨X0m.imp λσ H Q ⟨Å,h,Qd,rs,rh,t,p⟩ q hq=>
 p (.dct q) (.ref q) _ _ (.new hq) (rh.newC (c:= .tk 0 []) hq ⟨[],jt,oU,rfl,λx hx=>(by cases hx),rfl⟩) rfl (t q (rh.freeC hq))⟩
def Cq {n:G8}(hr:Û n X.A):ù X (H0 .In) (inT false):=λÀ s σ H x y v u Q I rx ry ⟨d,d2,h,Qd,r1,r2,rh,⟨a,T,ep,kv,e1,e2,e,q⟩,post⟩=>by
 subst e1 e2;cases (show y= .ref a from r2);cases (show u=A6 a from ry);obtain⟨xs,hH,nd,ek,tv,rv⟩:=(show ∃xs:KT2,_ from rh.dc a _ e);obtain⟨b,us,ex,_⟩:=(show ∃b vs,x= .ref b/\H b=some (.tup vs)/\Á X.K H (T.map zM) vs from r1);subst ex;cases (show v=A6 b from rx);obtain⟨h1,h2,ys,pr,dd⟩:=ZM I hH (λx hx=>WR (tv x hx)) (by rw [<-ek];exact nd);refine wpAny_in_heap (knd:=Bn X.prog X.w) (show X.A.units+1+8<cLine by have:=hr.un;omega) (yS I T b (WR r1)) h1 dd ⟨.bl _,H,I.tok _,rfl,post (.bl _) _ _ _ (.refl H) rh ?_ q⟩;show V.bl (iI ys T).isSome= .bl (false !=(zU kv T).isSome);cases g:zU kv T with
 |none=>rw [(ym ek rv pr).2 g];rfl
 |some d=>obtain⟨_,_,hp,_⟩:=(ym ek rv pr).1 d g;rw [hp];rfl
def Uy {n:G8}(hr:Û n X.A):ù X (H0 .NotIn) (inT true):=λÀ s σ H x y v u Q I rx ry ⟨d,d2,h,Qd,r1,r2,rh,⟨a,T,ep,kv,e1,e2,e,q⟩,post⟩=>by
 subst e1 e2;cases (show y= .ref a from r2);cases (show u=A6 a from ry);obtain⟨xs,hH,nd,ek,tv,rv⟩:=(show ∃xs:KT2,_ from rh.dc a _ e);obtain⟨b,us,ex,_⟩:=(show ∃b vs,x= .ref b/\H b=some (.tup vs)/\Á X.K H (T.map zM) vs from r1);subst ex;cases (show v=A6 b from rx);obtain⟨h1,h2,ys,pr,dd⟩:=ZM I hH (λx hx=>WR (tv x hx)) (by rw [<-ek];exact nd);refine wpAny_notIn_heap (knd:=Bn X.prog X.w) (show X.A.units+1+8<cLine by have:=hr.un;omega) (yS I T b (WR r1)) h1 dd ⟨.bl _,H,I.tok _,rfl,post (.bl _) _ _ _ (.refl H) rh ?_ q⟩;show V.bl (!(iI ys T).isSome)= .bl (true !=(zU kv T).isSome);cases g:zU kv T with
 |none=>rw [(ym ek rv pr).2 g];rfl
 |some d=>obtain⟨_,_,hp,_⟩:=(ym ek rv pr).1 d g;rw [hp];rfl
def Ha (td ty:TE):TE:=λσ H Q=>td σ H λx H1=>ty σ H1 λy H2=> ∃ (a b:P3) (T:G0 (G0 P4)) (ep:G8) (xs:KT2),x= .ref a/\y= .ref b/\H2 a=some (WI a ep xs)/\(∀x∈xs,WJ H2 x.1 x.2.1)/\(xs.map (·.1)).Nodup/\WJ H2 T b/\ ∃v,(∀ys,Paired vR xs ys-> ∃p,iI ys T=some p/\RelV v p.2)/\Q v H2
def LF {o i:M6}{td ty:TE}{pos:Pos}(hu:X.A.units+9<cLine)(ho:PE X o td)(hi:PE X i ty)(hs:SL i):PE X (.Subscript o i pos) (Ha td ty):=by
 intro À s σ H Q I h;refine Fb PySem.F.slot_dict_getitem.lookup hs (Ó (ho À s σ H _ I h) λu s1 ⟨x,H1,I1,rx,q1⟩=>Ó (hi À s1 σ H1 _ I1 q1) λiv s2 ⟨y,H2,I2,ry,a,b,T,ep,xs,ex,ey,hH,ks,nd,hT,v,g,q2⟩=> ?_);subst ex ey;obtain rfl:u=A6 a:=rx;obtain rfl:iv=A6 b:=ry;obtain⟨h1,h2,ys,pr,dd⟩:=ZM I2 hH ks nd;obtain⟨p,hp,rp⟩:=g ys pr;exact⟨dd.typeIs,wpAny_getItem_heap (knd:=Bn X.prog X.w) (show X.A.units+1+8<cLine by omega) (yS I2 T b hT) dd hp ⟨v,H2,I2.tok _,rp,q2⟩⟩
def KT {k : G8} {a b : M6} {ta tb : TED} {pos : Pos} (hr : Û k X.A) (ha : JE X a ta) (hb : JE X b tb) (hs : SL b := by intro _ _; rfl) : JE X (.Subscript a b pos) (Ņ ixT ta tb) :=
  ⟨(LF (by have := hr.un; omega) ha.to hb.to hs).imp fun σ H Q ⟨Å, h, Qd, rs, rh, t, post⟩ => LE.bind rs rh t fun d v h1 H1 k1 ß Ë r1 t1 => LE.bind ß Ë t1 fun d2 v2 h2 H2 k2 ņ ô r2 ⟨a, T, ep, kv, d3, e1, e2, e, g, q⟩ => by
    subst e1 e2
    cases (show v = .ref a from r1)
    obtain ⟨b, us, ex, _⟩ := (show ∃ b vs, v2 = .ref b ∧ H2 b = some (.tup vs) ∧ Á X.K H2 (T.map zM) vs from r2)
    subst ex
    obtain ⟨xs, hH, nd, ek, tv, rv⟩ := (show ∃ xs : KT2, _ from ô.dc a _ e)
    -- μ stands there, whatever Ŝ heap holds
    have val : ∃ w, È X.K H2 d3 w ∧ ∀ ys, Paired vR xs ys → ∃ p, iI ys T = some p ∧ RelV w p.2 := by
      clear q hH nd tv e
      induction kv generalizing xs with
      | nil => cases g
      | cons p kv ih =>
        cases xs with
        | nil => cases ek
        | cons x xs =>
          rw [M0, M0] at ek
          injection ek with ek1 ek2
          obtain ⟨v0, t, z', w1, w2⟩ := (show ∃ v t, x.2.2 :: xs.map (·.2.2) = v :: t ∧ È X.K H2 p.2 v ∧ Á X.K H2 (kv.map (·.2)) t from rv)
          injection z' with z1 z2
          subst z1 z2
          by_cases c : p.1 = T
          · have : zU (p :: kv) T = some p.2 := by simp [zU, U4, c]
            rw [this] at g
            injection g with g
            subst g
            refine ⟨x.2.2, w1, fun ys pr => ?_⟩
            cases pr with
            | cons r z =>
              rename_i y ys
              have : y.1 = T := by rw [← r.1, ← ek1, c]
              exact ⟨y.2, by simp [iI, U4, this], r.2.2⟩
          · have : zU (p :: kv) T = zU kv T := by simp [zU, U4, c]
            rw [this] at g
            obtain ⟨w, rw_, all⟩ := ih g xs ek2 w2
            refine ⟨w, rw_, fun ys pr => ?_⟩
            cases pr with
            | cons r z =>
              rename_i y ys
              have : ¬ y.1 = T := by rw [← r.1, ← ek1]; exact c
              obtain ⟨p', hp, rp⟩ := all ys z
              exact ⟨p', by rw [show iI (y :: ys) T = iI ys T by simp [iI, U4, this]]; exact hp, rp⟩
    obtain ⟨w, rw_, all⟩ := val
    exact ⟨a, b, T, ep, xs, rfl, rfl, hH, fun x hx => WR (tv x hx), by rw [← ek]; exact nd, WR r2, w, all, post d3 w _ _ (k1.trans k2) ô rw_ q⟩⟩
end
noncomputable def Cr (xs:KT2)(T:G0 (G0 P4))(v:V):KT2:=xs.map λx=>if x.1=T then (x.1,x.2.1,v) else x
theorem Wq {v:V}{u:G2}(rv:RelV v u): ∀ {xs:KT2} {ys:G0 (G0 (G0 P4)×P3×G2)},Paired vR xs ys->Paired vR (Cr xs T v) (ys.map (putAt T u))
 |_,_,.nil=> .nil
 |_,_,.cons (a:=x) (b:=y) r z=>by
  refine .cons ?_ (Wq rv z);show vR (if x.1=T then (x.1,x.2.1,v) else x) (putAt T u y);unfold putAt
  by_cases c:x.1=T
  ·rw [R6 c,R6 (by rw [<-r.1];exact c)];exact⟨r.1,r.2.1,rv⟩
  ·rw [R9 c,R9 (by rw [<-r.1];exact c)];exact r
def Mg (xs:KT2)(T:G0 (G0 P4))(v:V):(Cr xs T v).map (·.1)=xs.map (·.1):=by
 unfold Cr;rw [M7];exact B2 λx _=>by show (if x.1=T then (x.1,x.2.1,v) else x).1=x.1;split<;>rfl
def Bp {xs:KT2}{v:V}{x:G0 (G0 P4)×P3×V}(h:x∈Cr xs T v): ∃x0∈xs,x0.1=x.1/\x0.2.1=x.2.1:=by
 obtain⟨x0,m,rfl⟩:=R7.mp h;exact⟨x0,m,by split<;>exact⟨rfl,rfl⟩⟩
section
variable {K:G7}{H:Hp}{T:G0 (G0 P4)}{d:D}{v:V}
theorem Uz (rd:È K H d v): ∀ {kv:G0 (G0 (G0 P4)×D)} {xs:KT2},kv.map (·.1)=xs.map (·.1)->Á K H (kv.map (·.2)) (xs.map (·.2.2))->Á K H ((kv.map (λp=>if p.1=T then (p.1,d) else p)).map (·.2)) ((Cr xs T v).map (·.2.2))
 | [],[],_,_=>rfl
 |p::r,[],e,_=>by cases e
 | [],q::xs,e,_=>by cases e
 |p::r,q::xs,e,h=>by
  rw [M0,M0] at e;injection e with e1 e2
  obtain⟨v0,t,z',h1,h2⟩:=(show ∃v t,q.2.2::xs.map (·.2.2)=v::t/\È K H p.2 v/\Á K H (r.map (·.2)) t from h);injection z' with z1 z2
  subst z1 z2;refine⟨_,_,rfl,?_,Uz rd e2 h2⟩;show È K H (if p.1=T then (p.1,d) else p).2 (if q.1=T then (q.1,q.2.1,v) else q).2.2
  by_cases c:p.1=T
  ·rw [R6 c,R6 (e1 ▸ c)];exact rd
  ·rw [R9 c,R9 (e1 ▸ c)];exact h1
theorem Zb: ∀ {ds:G0 D} {vs:G0 V},Á K H ds vs->È K H d v->Á K H (ds++ [d]) (vs++ [v])
 | [],vs,r,rd=>by
  have:vs= []:=r;subst this;exact⟨_,_,rfl,rd,rfl⟩
 |d0::ds,vs,r,rd=>by
  obtain⟨v0,t,rfl,r1,r2⟩:=(show ∃v t,vs=v::t/\È K H d0 v/\Á K H ds t from r);exact⟨_,_,rfl,r1,Zb r2 rd⟩
end
def XO {α:Type}{kv:G0 (G0 (G0 P4)×α)}(h:zU kv T=none):T ∉ kv.map (·.1):=λz=>by
 obtain⟨p,hp,e⟩:=R7.mp z;unfold zU at h;rw [X7,fK] at h;exact h p hp (M1 e)
def Hb (td ty tv:TE):TS:=λD σ H=>tv σ H λv H1=>td σ H1 λx H2=>ty σ H2 λy H3=> ∃ (a b:P3) (T:G0 (G0 P4)) (ep:G8) (xs ľ:KT2),x= .ref a/\y= .ref b/\H3 a=some (WI a ep xs)/\(∀x∈xs,WJ H3 x.1 x.2.1)/\(xs.map (·.1)).Nodup/\WJ H3 T b/\(∀ys u,Paired vR xs ys->RelV v u->Paired vR ľ (storedH ys T b u))/\ľ.length<=sizeLine/\ ∀é,D.nx σ (upd H3 a (WI a é ľ))
section
variable {X:Cx}
def LH {o i value:M6}{td ty tv:TE}{pos pos':Pos}(hu:X.A.units+9<cLine)(ho:PE X o td)(hi:PE X i ty)(hv:PE X value tv)(hs:aG value (some (.Subscript o i pos')) pos.line X.env=pure false):PS X (.Assign [.Subscript o i pos'] value pos) (Hb td ty tv):=by
 intro À s σ H D I h;refine wpAny_Assign_Subscript (Ó (hv À s σ H _ I h) λr s1 ⟨v,H1,I1,rv,q1⟩=>Ó (ho À s1 σ H1 _ I1 q1) λu s2 ⟨x,H2,I2,rx,q2⟩=>Ó (hi À s2 σ H2 _ I2 q2) λiv s3 ⟨y,H3,I3,ry,a,b,T,ep,xs,ľ,ex,ey,hH,ks,nd,hT,st,lz,q3⟩=> ?_) hs;subst ex ey;obtain rfl:u=A6 a:=rx;obtain rfl:iv=A6 b:=ry;exact Bo (v:=v) hu I3 hH ks nd hT (λys pr=>st ys r pr rv) lz λé s4 I4=>⟨σ,_,I4,q3 é⟩
def Hc (td ty tv:TED):TSD:=λE σ h=>tv σ h λv h1=>td σ h1 λx h2=>ty σ h2 λy h3=> ∃a T ep kv,x= .dct a/\y=jj T/\h3.dc a=some (.tk ep kv)/\kv.length<1000/\ ∀é,E.nx σ (Ng h3 a (.tk é (PC kv T v)))
def LJ {k : G8} {o i value : M6} {td ty tv : TED} {pos pos' : Pos} (hr : Û k X.A) (ho : JE X o td) (hi : JE X i ty) (hv : JE X value tv) (hs : aG value (some (.Subscript o i pos')) pos.line X.env = pure false := by rfl) : JS X (.Assign [.Subscript o i pos'] value pos) (Hc td ty tv) :=
  ⟨(LH (by have := hr.un; omega) ho.to hi.to hv.to hs).imp fun D σ H ⟨Å, h, Dd, rs, rh, t, nx, _⟩ => LE.bind rs rh t fun d v h1 H1 k1 ß Ë r1 t1 => LE.bind ß Ë t1 fun d2 v2 h2 H2 k2 ņ ô r2 t2 => LE.bind ņ ô t2 fun d3 v3 h3 H3 k3 Ξ Ğ r3 ⟨a, T, ep0, kv, e1, e2, e, hl, q⟩ => by
    subst e1 e2
    cases (show v2 = .ref a from r2)
    obtain ⟨b, us, ex, _⟩ := (show ∃ b vs, v3 = .ref b ∧ H3 b = some (.tup vs) ∧ Á X.K H3 (T.map zM) vs from r3)
    subst ex
    obtain ⟨xs, hH, nd, ek, tv, rv⟩ := (show ∃ xs : KT2, _ from Ğ.dc a _ e)
    have ob : Ν (WI a ep0 xs) := .inr ⟨_, rfl⟩
    have rd := (r1.mono k2).mono k3
    have len : xs.length = kv.length := by have := congrArg aA ek; simpa using this.symm
    have big : kv.length + 1 ≤ sizeLine := R1 hl (by decide)
    cases g : zU kv T with
    | some d0 =>
      have ep : PC kv T d = kv.map (fun p => if p.1 = T then (p.1, d) else p) := by unfold PC; rw [g]; rfl
      refine ⟨a, b, T, ep0, xs, Cr xs T v, rfl, rfl, hH, fun x hx => WR (tv x hx), by rw [← ek]; exact nd, WR r3, fun ys u pr ru => ?_, by unfold Cr; rw [G1, len]; omega, fun é => nx Å _ σ _ (k1.trans (k2.trans (k3.trans (.putD hH ob)))) (Ξ.mono (.putD hH ob)) (Ğ.putC (c := .tk é (PC kv T d)) hH ob ?_) (q é)⟩
      · obtain ⟨_, p, hp, _⟩ := (ym ek rv pr).1 d0 g
        rw [storedH_old hp]
        exact Wq ru pr
      · rw [ep]
        refine ⟨Cr xs T v, jt, ?_, ?_, fun x hx => ?_, (Uz rd ek rv).mono (.putD hH ob)⟩
        · rw [M7, show kv.map ((·.1) ∘ fun p => if p.1 = T then (p.1, d) else p) = kv.map (·.1) from B2 fun p _ => by show (if p.1 = T then (p.1, d) else p).1 = p.1; split <;> rfl]
          exact nd
        · rw [Mg, ← ek, M7]
          exact B2 fun p _ => by show (if p.1 = T then (p.1, d) else p).1 = p.1; split <;> rfl
        · obtain ⟨x0, m, a1, a2⟩ := Bp hx
          rw [← a1, ← a2]
          exact (tv x0 m).mono (.putD hH ob)
    | none =>
      have ep : PC kv T d = kv ++ [(T, d)] := by unfold PC; rw [g]; rfl
      refine ⟨a, b, T, ep0, xs, xs ++ [(T, b, v)], rfl, rfl, hH, fun x hx => WR (tv x hx), by rw [← ek]; exact nd, WR r3, fun ys u pr ru => ?_, by rw [P1, len]; exact big, fun é => nx Å _ σ _ (k1.trans (k2.trans (k3.trans (.putD hH ob)))) (Ξ.mono (.putD hH ob)) (Ğ.putC (c := .tk é (PC kv T d)) hH ob ?_) (q é)⟩
      · rw [IQ ((ym ek rv pr).2 g)]
        exact pr.snoc ⟨rfl, rfl, ru⟩
      · rw [ep]
        refine ⟨xs ++ [(T, b, v)], jt, ?_, by rw [T6, T6, ek]; rfl, fun x hx => ?_, ?_⟩
        · rw [T6]
          refine bY.mpr ⟨nd, by simp, fun x hx y hy z => ?_⟩
          rw [P0.mp hy] at z
          have z : x = T := z
          subst z
          exact XO g hx
        · rcases D1.mp hx with m | m
          · exact (tv x m).mono (.putD hH ob)
          · rw [P0.mp m]
            exact r3.mono (.putD hH ob)
        · rw [T6, T6]
          exact (Zb rv rd).mono (.putD hH ob)⟩
end
end L2
namespace L2
open PySem PySem.Spec PyProof.Rows PySem.SeqAt
def KU (to te:TED):TED:=λσ h Q=>to σ h λx h1=> ∃a,x= .lst a/\te σ h1 λy h2=> ∃b xs ys,y= .lst b/\h2 a=some xs/\h2 b=some ys/\xs.length+ys.length<=sizeLine/\Q .non (zm h2 a (xs++ys))
theorem UA {K:G7}{H:Hp}: ∀ {ds es:G0 D} {vs us:G0 V},Á K H ds vs->Á K H es us->Á K H (ds++es) (vs++us)
 | [],es,vs,us,r,r'=>by
  have:vs= []:=r;subst this;exact r'
 |d::ds,es,vs,us,r,r'=>by
  obtain⟨v,t,rfl,r1,r2⟩:=(show ∃v t,vs=v::t/\È K H d v/\Á K H ds t from r);exact⟨_,_,rfl,r1,UA r2 r'⟩
section
variable {X:Cx}{o e:M6}{to te:TED}{apos Ò:Pos}
def KW (ho : JE X o to) (he : JE X e te) (hbase : cO o "extend" X.env (J3 o X.env) = J3 o X.env := by rfl)
    (hfew : ((U9 Ò (R8 [e] X.env)).all (fun x => !x.1) && (mD Ò (fQ [] X.env)).all (fun x => x.1.isSome) && decide ([e].length + ([] : G0 dP).length + (if ([] : G0 dP).isEmpty then 0 else 1) < 30)) = true := by rfl)
    (hline : (apos.endLine == Ò.line) = true := by rfl) (hs : R8 [e] X.env = (false, J3 e X.env) :: R8 [] X.env := by rfl) (hplain : (U9 Ò (R8 [] X.env)).any (·.1) = false := by rfl) :
    JE X (.Call (.Attribute o "extend" apos) [e] [] Ò) (KU to te) :=
  ⟨(CY fV w8 xA Dc ho.to (yf he.to ē hs) hbase hfew hline hs hplain).imp
    fun σ H Q ⟨Å, h, Qd, rs, rh, t, p⟩ => LE.bind rs rh t fun d v h1 H1 k1 ß Ë r1 ⟨a, e, q⟩ => by
      subst e
      obtain ⟨e1, vs, hH⟩ := (show v = .ref a ∧ ∃ vs, H1 a = some (.lst vs) from r1)
      subst e1
      refine ⟨.inl ⟨rfl, vs, ê.of hH⟩, ?_⟩
      refine LE.bind ß Ë q fun y u h2 H2 k2 ņ ô r2 ⟨b, xs, ys, ey, hx, hy, hz, q2⟩ => ?_
      subst ey
      obtain ⟨e2, _⟩ := (show u = .ref b ∧ ∃ vs, H2 b = some (.lst vs) from r2)
      subst e2
      obtain ⟨ws, hW, rW⟩ := ô a xs hx
      obtain ⟨zs, hZ, rZ⟩ := ô b ys hy
      exact ⟨a, b, ws, zs, rfl, rfl, hW, hZ, by rw [← rW.length, ← rZ.length]; exact hz, p .non _ _ _ ((k1.trans k2).trans (.put hW)) (ô.put hW (UA rW rZ)) rfl q2⟩⟩
end
end L2
namespace L2
open PySem PySem.Spec PyProof.Rows HT
def Zc {X:Cx}{À:G0 (P3×Obj)}{σ:St}{H:Hp}{s:G3}{a:P3}{ep:G8}{xs:KT2}(I:Inv X À σ H s)(hH:H a=some (WI a ep xs)):(a==W7)=false/\ ∃ (sl:S5 (P9 G2)) (es:S5 dS) (ys:G0 (G0 (G0 P4)×P3×G2)),s.heap.get? a=some {cls:= .type "dict",dict:=none,data:= .dict es ep,slots:=sl}/\Paired vR xs ys/\es.toList=ys.map (λx=>⟨YH x.1,.ref x.2.1,x.2.2⟩)/\es.size=xs.length:=by
 obtain⟨⟨h1,h2,ys,pr,⟨oc,od,odt,ŵ⟩,es,ho,⟨c1,c2,c3⟩,hd,he⟩,_,_⟩:=I.hok a _ hH;simp only at c1 c2 hd;subst c1 c2 hd;refine⟨h1,ŵ,es,ys,ho,pr,he,?_⟩;rw [<-P8,he,G1];exact(zh pr).2.1.symm
def LK {X:Cx}{À:G0 (P3×Obj)}{σ:St}{s:G3}{xs ľ:KT2}{a:P3}{ep:G8}{H:Hp}(I:Inv X À σ H s)(e:H a=some (WI a ep xs))(e':H a=some (WI a ep ľ)){i:G8}{x:G0 (G0 P4)×P3×V}(hx:xs[i]? =some x): ∃T,ľ[i]? =some (T,x.2.1,x.2.2):=by
 obtain⟨_,_,es,ys,h1,pr,he,hn⟩:=Zc I e;obtain⟨_,_,Ö,ÿ,Ź,pr',he',hn'⟩:=Zc I e';rw [h1] at Ź;cases Ź;have il:i<ys.length:=by rw [<- (zh pr).2.1];exact(P5.mp hx).1
 have l':ÿ.length=ys.length:=by have:=congrArg aA (he.symm.trans he');simpa using this.symm
 have lx:i<ľ.length:=by rw [(zh pr').2.1,l'];exact il
 obtain⟨p1,p2,p3⟩:=wZ pr hx (G5 il);obtain⟨q1,q2,q3⟩:=wZ pr' (G5 lx) (G5 (by rw [l'];exact il));have z:=congrArg (λl=>l[i]?) (he.symm.trans he');simp only [P7,G5 il,G5 (show i<ÿ.length by rw [l'];exact il),iF] at z;injection z with z
 injection z with z1 z2 z3
 injection z2 with z2
 refine⟨ľ[i].1,?_⟩;rw [G5 lx];have b:ľ[i].2.1=x.2.1:=by rw [q2,p2,z2]
 have u:ľ[i].2.2=x.2.2:=by rw [<-z3] at q3;exact q3.inj p3
 rw [<-b,<-u]
end L2
namespace L2
open PySem PySem.Spec PyProof.Rows
noncomputable def Bq {α:Type}(xs:G0 α):G8->G0 (G0 α)
 |0=> [[]]
 |k+1=>(Bq xs k).flatMap λr=>xs.map (· ::r)
variable {α:Type}
theorem Vh {xs:G0 α}: ∀ {r:G0 α},(∀x∈r,x∈xs)->r∈Bq xs r.length
 | [],_=>P0.mpr rfl
 |x::r,h=>rQ.mpr ⟨r,Vh λy hy=>h y (S1 _ hy),R7.mpr ⟨x,h x D3,rfl⟩⟩
theorem Vi (xs:G0 α): ∀k,(Bq xs k).length=xs.length^k
 |0=>rfl
 |k+1=>by
  show ((Bq xs k).flatMap λr=>xs.map (· ::r)).length=_;rw [List.length_flatMap,show ((Bq xs k).map λr=>(xs.map (· ::r)).length)=(Bq xs k).map λ_=>xs.length from B2 λr _=>G1 _,List.map_const',List.sum_replicate_nat,Vi xs k,Q5]
variable {n:G8}
def Hd (n3:n<=3){l:G0 (G0 (G0 P4))}(nd:l.Nodup)(h: ∀M∈l,Sq n 1 M):l.length<=512:=by
 have:=Wf (m:=Bq (Bq [(0:P4),1] n) n) nd λM hM=>by
  have s:=h M hM;have z:=Vh (xs:=Bq [(0:P4),1] n) (r:=M) λr hr=>by
   have z:=Vh (xs:= [(0:P4),1]) (r:=r) λx hx=>by
    have a:=s.nn r hr x hx;have b:x<2:=s.bit r hr x hx;rcases (show x=0\/x=1 by omega) with e|e<;>subst e<;>simp
   rw [s.row r hr] at z;exact z
  rw [s.len] at z;exact z
 rw [Vi,Vi] at this;rcases (show n=0\/n=1\/n=2\/n=3 by omega) with e|e|e|e<;>subst e<;>exact R1 this (by decide)
noncomputable def í (n:G8)(Ts:G0 (G0 (G0 P4))):G0 G8->G0 (G0 P4)
 | []=>Py n
 |a::w=>QN n Ts (zL n (Ts.getD a [])) w
variable {Ts:G0 (G0 (G0 P4))}
def Br: ∀ {w:G0 G8} (_:w≠ []) (a:G8),í n Ts (w++ [a])=Ļ n (Ts.getD a []) (í n Ts w)
 | [],h,_=>absurd rfl h
 |b::w,_,a=>by
  show QN n Ts _ (w++ [a])=_;unfold QN;rw [gE];rfl
def Mh: ∀w:G0 G8,Sq n 1 (í n Ts w)
 | []=>Sq.one n
 |a::w=>Cc _ (Sq.mark _) w
abbrev Fnd:=G0 (G0 (G0 P4)×G0 G8)
noncomputable def š (n:G8)(Ts:G0 (G0 (G0 P4)))(s:Fnd×G0 (G0 G8))(w:G0 G8):Fnd×G0 (G0 G8):=if (zU s.1 (í n Ts w)).isSome then s else (s.1++ [(í n Ts w,w)],s.2++(D6 Ts.length).map λa=>w++ [a])
noncomputable def Cs (n:G8)(Ts:G0 (G0 (G0 P4)))(s:Fnd×G0 (G0 G8)):Fnd×G0 (G0 G8):=s.2.foldl (š n Ts) (s.1,[])
noncomputable def Ś (n:G8)(Ts:G0 (G0 (G0 P4))):G8->Fnd×G0 (G0 G8)
 |0=>([],(D6 Ts.length).map λa=> [a])
 |k+1=>Cs n Ts (Ś n Ts k)
noncomputable def ł (n:G8)(Ts:G0 (G0 (G0 P4))):Fnd:=(Ś n Ts 1025).1
def EH (Ts:G0 (G0 (G0 P4)))(w:G0 G8):Prop:=w≠ []/\ ∀i∈w,i<Ts.length
structure Η (n:G8)(Ts:G0 (G0 (G0 P4)))(k:G8)(s:Fnd×G0 (G0 G8)):Prop where
 nd:(s.1.map (·.1)).Nodup
 fd: ∀p∈s.1,p.1=í n Ts p.2/\EH Ts p.2/\p.2.length<=k
 fr: ∀w∈s.2,EH Ts w/\w.length=k+1
structure θ (n:G8)(Ts:G0 (G0 (G0 P4)))(k f:G8)(s:Fnd×G0 (G0 G8)):Prop where
 nd:(s.1.map (·.1)).Nodup
 fd: ∀p∈s.1,p.1=í n Ts p.2/\EH Ts p.2/\p.2.length<=k+1
 fr: ∀w∈s.2,EH Ts w/\w.length=k+2
 le:f<=s.1.length
 gr:s.2.length<=3*(s.1.length-f)
section
variable {n k f:G8}{Ts:G0 (G0 (G0 P4))}{s:Fnd×G0 (G0 G8)}{w:G0 G8}
def Gk (n3:n<=3)(nd:(s.1.map (·.1)).Nodup)(fd: ∀p∈s.1,p.1=í n Ts p.2):s.1.length<=512:=by
 have:=Hd n3 nd λM hM=>by
  obtain⟨p,hp,rfl⟩:=R7.mp hM;rw [fd p hp];exact Mh _
 rwa [G1] at this
def θ.few (m:θ n Ts k f s)(n3:n<=3):s.1.length<=512:=Gk n3 m.nd λp hp=>(m.fd p hp).1
def Η.few (m:Η n Ts k s)(n3:n<=3):s.1.length<=512:=Gk n3 m.nd λp hp=>(m.fd p hp).1
def Vj (h:(zU s.1 (í n Ts w)).isSome=true):š n Ts s w=s:=R6 h
def Wr (h:(zU s.1 (í n Ts w)).isSome=false):š n Ts s w=(s.1++ [(í n Ts w,w)],s.2++(D6 Ts.length).map λa=>w++ [a]):=R9 (by rw [h];exact R5)
def θ.step (m:θ n Ts k f s)(l3:Ts.length<=3)(hw:EH Ts w)(hl:w.length=k+1):θ n Ts k f (š n Ts s w):=by
 cases h:(zU s.1 (í n Ts w)).isSome with
 |true=>rw [Vj h];exact m
 |false=>
  rw [Wr h];have no:zU s.1 (í n Ts w)=none:=kU.mp (by cases z:zU s.1 (í n Ts w) with
   |none=>rfl
   |some _=>rw [z] at h;cases h)
  refine⟨?_,λp hp=> ?_,λv hv=> ?_,?_,?_⟩
  ·show ((s.1++ [(í n Ts w,w)]).map (·.1)).Nodup;rw [T6];refine bY.mpr ⟨m.nd,by simp,λx hx y hy z=> ?_⟩;rw [P0.mp hy] at z;have z:x=í n Ts w:=z;rw [z] at hx;exact XO no hx
  ·rcases D1.mp hp with z|z
   ·exact m.fd p z
   ·rw [P0.mp z];exact⟨rfl,hw,U6 hl⟩
  ·rcases D1.mp hv with z|z
   ·exact m.fr v z
   ·obtain⟨a,ha,rfl⟩:=R7.mp z;refine⟨⟨by simp,λi hi=> ?_⟩,by rw [P1,hl];rfl⟩;rcases D1.mp hi with z|z
    ·exact hw.2 i z
    ·rw [P0.mp z];exact S4.mp ha
  ·show f<=(s.1++ [(í n Ts w,w)]).length;rw [P1];have:=m.le;omega
  ·show (s.2++(D6 Ts.length).map λa=>w++ [a]).length<=3*((s.1++ [(í n Ts w,w)]).length-f);rw [P1,P1,G1,S9];have:=m.le;have:=m.gr;show _<=3*(s.1.length+1-f);omega
def Η.mid (b:Η n Ts k s):θ n Ts k s.1.length (s.1,[]):=⟨b.nd,λp hp=>let ⟨x,y,z⟩:=b.fd p hp;⟨x,y,qW z⟩,(λ_ h=>nomatch h),P2 _,N7 _⟩
theorem Η.mids (b:Η n Ts k s)(l3:Ts.length<=3): ∀i,θ n Ts k s.1.length ((s.2.take i).foldl (š n Ts) (s.1,[]))
 |0=>b.mid
 |i+1=>by
  by_cases h:i<s.2.length
  ·rw [gM,G5 h,gE];exact(b.mids l3 i).step l3 (b.fr _ (N6 h)).1 (b.fr _ (N6 h)).2
  ·rw [T5 (by omega),<-T5 (gS h)];exact b.mids l3 i
def Η.end_ (b:Η n Ts k s)(l3:Ts.length<=3):θ n Ts k s.1.length (Cs n Ts s):=by
 have:=b.mids l3 s.2.length
 rwa [K0] at this
def θ.bin (m:θ n Ts k f s):Η n Ts (k+1) s:=⟨m.nd,m.fd,m.fr⟩
theorem Vk (l3:Ts.length<=3): ∀k,Η n Ts k (Ś n Ts k)
 |0=>⟨oU,(λ_ h=>nomatch h),λw hw=>by
  obtain⟨a,ha,rfl⟩:=R7.mp hw;exact⟨⟨by simp,λi hi=>by rw [P0.mp hi];exact S4.mp ha⟩,rfl⟩⟩
 |k+1=>((Vk l3 k).end_ l3).bin
noncomputable def Pg (s:Fnd×G0 (G0 G8)):G8:=2*(512-s.1.length)+(if s.2= [] then 0 else 1)
def Gm (b:Η n Ts k s)(n3:n<=3)(l3:Ts.length<=3)(h:s.2≠ []):Pg (Cs n Ts s)<Pg s:=by
 have m:=b.end_ l3;have:=m.few n3;have:=m.le;have g:=m.gr;unfold Pg;rw [R9 h]
 by_cases e:(Cs n Ts s).1.length=s.1.length
 ·rw [e] at g ⊢;rw [R6 (V4 (by omega))];omega
 ·split<;>omega
theorem Ct (h:(Ś n Ts k).2= []): ∀j,Ś n Ts (k+j)=Ś n Ts k
 |0=>rfl
 |j+1=>by
  show Cs n Ts (Ś n Ts (k+j))=_;rw [Ct h j];unfold Cs;rw [h];show ((Ś n Ts k).1,[])=_;rw [<-h]
def XQ (h:(Ś n Ts k).2= [])(hk:k<=1025):(Ś n Ts k).1=ł n Ts:=by
 unfold ł;rw [<-Ct h (1025-k),show k+(1025-k)=1025 by omega]
def UB (l1:1<=Ts.length):0+Pg (Ś n Ts 0)<=1025:=by
 unfold Pg;show 0+(2*(512-0)+_)<=1025;split<;>omega
def XR (l3:Ts.length<=3):Η n Ts 1025 (Ś n Ts 1025):=Vk l3 _
end
theorem Gn {β:Type}(f:α->β)(T:G0 (G0 P4)): ∀kv:G0 (G0 (G0 P4)×α),zU (kv.map λp=>(p.1,f p.2)) T=(zU kv T).map f
 | []=>rfl
 |p::kv=>by
  have ih:=Gn f T kv;unfold zU at ih ⊢;rw [M0,U4,U4];dsimp only;cases decide (p.1=T) with
  |true=>rfl
  |false=>exact ih
def Vl {α:Type}{kv:G0 (G0 (G0 P4)×α)}{T:G0 (G0 P4)}{d:α}(h:zU kv T=none):PC kv T d=kv++ [(T,d)]/\zU (PC kv T d) T=some d:=by
 have e:PC kv T d=kv++ [(T,d)]:=by unfold PC;rw [h];rfl
 refine⟨e,?_⟩;rw [e];unfold zU at h ⊢;rw [List.find?_append,X7.mp h];rw [Option.none_or,U4,M1 rfl];rfl
noncomputable def ă (F:Fnd):G0 (G0 (G0 P4)×D):=F.map λp=>(p.1,wN p.2)
def XS {F:Fnd}{T:G0 (G0 P4)}:(zU (ă F) T).isSome=(zU F T).isSome:=by
 unfold ă;rw [Gn,lJ]
def Mi {F:Fnd}{T:G0 (G0 P4)}{w:G0 G8}(h:(zU F T).isSome=false):PC (ă F) T (wN w)=ă (F++ [(T,w)]):=by
 have z:zU (ă F) T=none:=by
  cases e:zU (ă F) T with
  |none=>rfl
  |some _=>have:=XS (F:=F) (T:=T);rw [e,h] at this;cases this
 rw [(Vl z).1];unfold ă;rw [T6];rfl
noncomputable def Ō (n:G8)(Ts:G0 (G0 (G0 P4)))(w:G0 G8):D:= .tup [wN w,jj (í n Ts w)]
def Go {n:G8}(g:G8->G0 (G0 P4)->G0 (G0 P4)):Ub ((D6 Ts.length).map λi=>jj (g i (Ts.getD i [])))=(D6 Ts.length).map λ(j:G8)=>D.tup [.int (j:P4),jj (g j (Ts.getD j []))]:=by
 apply bV;intro i
 by_cases hi:i<Ts.length
 ·have hi':i<(Ub ((D6 Ts.length).map λi=>jj (g i (Ts.getD i [])))).length:=by rw [vO,G1,S9];exact hi
  obtain⟨x,hx,ed⟩:=YR (G5 hi');rw [G5 hi',ed];rw [P7,Y3 hi] at hx ⊢;injection hx with hx
  rw [<-hx];rfl
 ·rw [A2 (by rw [vO,G1,S9];omega),A2 (by rw [G1,S9];omega)]
def Yx (Ts:G0 (G0 (G0 P4))):Ts.map jj=(D6 Ts.length).map λi=>jj (Ts.getD i []):=by
 apply bV;intro i;rw [P7,P7]
 by_cases hi:i<Ts.length
 ·rw [Y3 hi,G5 hi];show some (jj Ts[i])=some (jj (Ts.getD i []));rw [R4,G5 hi];rfl
 ·rw [A2 (by omega),A2 (by rw [S9];omega)];rfl
end L2
namespace L2
open PySem PySem.Spec PyProof.Rows HT PySem.SeqAt
def Bs (r r':G0 P4):alk (wF r) (wF r')=true:=Vf r r'
section
variable {prog:S6}{w:B3}{A:N4}{E:G2->G3->Prop}{s:G3}
def IB (prog:S6)(w:B3)(h:L8)(v:G2)(T:G0 (G0 P4)):Prop:= ∃a,v= .ref a/\WP prog w h T a/\T≠ []
def IB.keeps {h h':L8}{v:G2}{T:G0 (G0 P4)}(k:WO h h'):IB prog w h v T->IB prog w h' v T
 |⟨a,e,t,n⟩=>⟨a,e,(Cp prog w).keep (λc o _ q=>k c o q) t,n⟩
open Classical in
noncomputable def WS (prog:S6)(w:B3)(h:L8)(v:G2):G0 (G0 P4):=if e: ∃T,IB prog w h v T then e.choose else []
def IB.told {h:L8}{v:G2}{T:G0 (G0 P4)}(x:IB prog w h v T):WS prog w h v=T:=by
 have e: ∃T,IB prog w h v T:=⟨T,x⟩;unfold WS;rw [xQ e];obtain⟨a,e1,t,_⟩:=e.choose_spec;obtain⟨b,e2,t2,_⟩:=x;rw [e1] at e2;cases e2;exact(Cp prog w).inj t t2
def Gp {vs:G0 G2}(h2:2<=vs.length)(x: ∀v∈vs,∃T,IB prog w s.heap v T){Q:SortKind->G3->Prop}(q:Q (xX false) s):D8 (R3 prog w) A (t8 vs.toArray) Q E s:=by
 have go: ∀l:G0 G2,(∀v∈l,v∈vs)-> ∃fs:G0 G2,G0M s.heap l fs/\fs.length=l.length/\ ∀f∈fs,∃b o,f= .ref b/\s.heap.get? b=some o/\o.cls= .type "tuple" :=by
  intro l
  induction l with
  |nil=>exact λ_=>⟨[],.nil,rfl,λf hf=>absurd hf C5⟩
  |cons v l ih=>
   intro sub;obtain⟨fs,e1,e2,e3⟩:=ih λu hu=>sub u (S1 _ hu)
   obtain⟨T,a,rfl,⟨o,its,n,ho,hc,hd,hi⟩,ne⟩:=x v (sub v D3);obtain⟨l⟩:=its;have hi:Í prog w s.heap T l:=hi;cases hi with
   |nil=>exact absurd rfl ne
   |cons ra rest=>
    rename_i r b T' vs';refine⟨.ref b::fs,.cons ho hc hd rfl e1,by rw [D2,D2,e2],λf hf=> ?_⟩;rcases S0.mp hf with rfl|hf
    ·obtain⟨o',_,_,q1,q2,_⟩:=ra;exact⟨b,o',rfl,q1,q2⟩
    ·exact e3 f hf
 obtain⟨fs,t,len,ty⟩:=go vs λ_ h=>h
 refine PySem.W.kat_kind (T:= .type "tuple") t (by omega) (λf hf=> ?_) rfl q;obtain⟨b,o,rfl,ho,hc⟩:=ty f hf;rw [<-hc];exact(PySem.W.Looks.ld ho).andThen .now
theorem Gq {fin:N0}{Q:N0->G3->Prop}(hu:A.units+16<cLine)(m n:G8)(ef:fin=decide (m<n)): ∀ {vs us:G0 G2} {T U:G0 (G0 P4)} (i:G8),Í prog w s.heap T vs->Í prog w s.heap U us->T.length+n=U.length+m->Q (jR T U) s->G0Y prog w A false fin Q (vs.zip us) i s
 |_,_,_,_,i,.nil,.nil,l,q=>by
  subst ef;rw [q0];refine nG ?_;rw [B7 (by rw [N8] at l;omega)];exact q
 |_,_,_,_,i,.nil,.cons c y,l,q=>by
  subst ef;rw [q0];refine nG ?_;rw [M1 (by rw [N8,D2] at l;omega)];exact q
 |_,_,_,_,i,.cons a x,.nil,l,q=>by
  subst ef;rw [List.zip_nil_right];refine nG ?_;rw [B7 (by rw [N8,D2] at l;omega)];exact q
 |_,_,_,_,i,.cons (r:=r) (b:=b) (T:=T) a x,.cons (r:=r') (b:=b') (T:=U) c y,l,q=>by
  rw [bJ];have q:Q (if r=r' then jR T U else HT.zK r r') s:=q;refine G0I (pX (by omega) a c ?_)
  by_cases z:r=r'
  ·rw [R6 z] at q;rw [M1 z];exact G0N (Gq hu m n ef (i+1) x y (by rw [D2,D2] at l;omega) q)
  ·rw [R9 z] at q;rw [B7 z];refine G0Z (by
    rw [iV];refine G0O _ _ ?_;obtain⟨o,items,k,ho,hc,hd,hi⟩:=a;obtain⟨o',items',k',ho',ν,hd',hi'⟩:=c;refine Vd (wF r) (wF r') A s _ _ [] [] (.tuple ho hc hd (vo hi)) (.tuple ho' ν hd' (vo hi')) (JQ r) (JQ r') (Bs r r') (by have:=Wg r;omega) prog w _ _ ?_;rw [show ltP (wF r) (wF r')=HT.zK r r' from Ve r r'];exact q)
def Gr (hu:A.units+16<cLine){h0 h':L8}(k:WO h0 h'):Vb prog w A (HT.Only s h') (xX false) (λx=> ∃T,IB prog w h0 x.1 T) (λx y=>jR (WS prog w h0 x.1) (WS prog w h0 y.1)):=by
 rintro ⟨x,x'⟩ ⟨y,y'⟩ ⟨T,tx⟩ ⟨U,ty⟩ s1 ⟨tk,rfl⟩;dsimp only at tx ty ⊢;have q:(jR T U=jR (WS prog w h0 x) (WS prog w h0 y)/\HT.Only s h' {s with heap:=h',toks:=tk}):=⟨by rw [tx.told,ty.told],tk,rfl⟩;obtain⟨a,rfl,⟨o,its,n,ho,hc,hd,hi⟩,_⟩:=tx.keeps k;obtain⟨b,rfl,⟨o2,ġ,n2,ho2,hc2,hd2,hi2⟩,_⟩:=ty.keeps k;refine G00 ho hd ho2 hd2 (Gq (s:= {s with heap:=h',toks:=tk}) hu its.size ġ.size rfl 0 hi hi2 ?_ q);have z1:T.length=its.size:=hi.len;have z2:U.length=ġ.size:=hi2.len;omega
def Mj {U:D9->Prop}(key:G2->G0 (G0 P4)):Ô U (λx y=>jR (key x.1) (key y.1)):=⟨λx y _ _ h=>XC h,λx y z _ _ _ h=>by
 rcases ZL (key x.1) (key y.1) with e|e|e
 ·exact .inr (by rw [<-e];exact h)
 ·exact .inl e
 ·exact .inr (ZK e h)⟩
end
noncomputable def Om:G2->P3
 | .ref b=>b
 |_=>0
def vD {X:Cx}{k:G8}(hc:X.calm=true)(hr:Û k X.A):Ú X (.builtin "sorted") (λxs H Q=> ∃ (p:P3) (o:Obj) (Ts B:G0 (G0 (G0 P4))),xs= [.ref p]/\H p=some (LD o)/\Gj X.prog X.w H o Ts/\B.length<1000/\(∀T∈Ts,T∈B/\T≠ [])/\
 ∀ (q:P3) (qs:G0 XN),H q=none->(∀x∈qs,WJ H x.2 x.1)->(qs.map (·.2)).Pairwise (λx y=>jR x y=true)->(∀k,k∈qs.map (·.2)↔k∈Ts)->Q (.ref q) (upd H q (.lst (qs.map λp=>V.ref p.1)))):=by
 intro À s σ H xs us Q I r h;obtain⟨p,o,Ts,B,rfl,hp,⟨es,ep,t,f,rfl,S⟩,few,ht,q⟩:=h;obtain⟨u,rfl,ru⟩:=vH r;cases ru;have hu:X.A.in1.in1.units+16<cLine:=by
  have:=hr.un;show X.A.units+1+1+16<cLine;omega
 have it: ∀e∈es.toList,IB X.prog X.w s.heap e.2 (f e)/\WJ H (f e) (Om e.2)/\e.2= .ref (Om e.2):=λe he=>by
  obtain⟨_,b,eb,hb⟩:=S.each e he;rw [eb];exact⟨⟨b,rfl,yS I _ _ hb,(ht _ ((S.mem _).mp (J6 he))).2⟩,hb,rfl⟩
 have sz:es.size<1000:=by
  have:=yR (ys:=B) S.nd λk hk=>(ht k ((S.mem k).mp hk)).1
  rw [G1,P8] at this;omega
 refine XI (κ:=λ_=>xX false) (U:=λx=> ∃T,IB X.prog X.w s.heap x.1 T) (R:=λx y=>jR (WS X.prog X.w s.heap x.1) (WS X.prog X.w s.heap y.1)) (I.ok.hd hc) S.tab (I.hok p _ hp).1 sz (λe he=>⟨_,(it e he).1⟩)
  (λvs s0 h' h2 x k=>Gp (s:= {s0 with heap:=h'}) h2 (λv hv=>(x v hv).imp λT z=>z.keeps k) ⟨rfl,s0.toks,rfl⟩) (λvs s0 h' k=>Gr hu k) (Mj _) λh1 h' d tk c out k1 k2 lies pm srt=> ?_
 obtain⟨zs,pz,rfl⟩:=Wo pm;have I1:=(I.kept (t':=s.toks) k1).drew d;have vv: ∀l:G0 (P4×G2),(∀z∈l,z∈es.toList)->Æ ((l.map λe=>((Om e.2,f e):XN)).map λp=>V.ref p.1) (l.map (·.2)):=λl=>by
  induction l with
  |nil=>exact λ_=> .nil
  |cons z l ih=>exact λsub=> .cons (it z (sub z D3)).2.2 (ih λy hy=>sub y (S1 _ hy))
 have m2:(zs.map λe=>((Om e.2,f e):XN)).map (·.2)=zs.map f:=by rw [M7];rfl
 refine⟨.ref _,_,I1.laid (t':=tk) (o:= .lst ((zs.map λe=>((Om e.2,f e):XN)).map λp=>V.ref p.1)) k2 (P2 _) ⟨?_,_,c,vv zs λz hm=>pz.mem_iff.mp hm,lies⟩,rfl,q _ (zs.map λe=>(Om e.2,f e)) (I1.hok.fresh (P2 _)) (λx hx=> ?_) ?_ λk=> ?_⟩
 ·rw [G1,G1,pz.length_eq,P8];exact R1 (show es.size<=1000 by omega) (by decide)
 ·obtain⟨e,he,rfl⟩:=R7.mp hx;exact(it e (pz.mem_iff.mp he)).2.1
 ·rw [m2];have nd:(zs.map f).Nodup:=(pz.map f).nodup_iff.mpr S.nd;unfold mW at nd;rw [Q6] at srt nd ⊢;refine(srt.and nd).imp_of_mem λ{y z} hy hz ⟨e,ne⟩=> ?_
  dsimp only at e;rw [(it y (pz.mem_iff.mp hy)).1.told,(it z (pz.mem_iff.mp hz)).1.told] at e;rcases ZL (f y) (f z) with w|w|w
  ·exact absurd w ne
  ·exact w
  ·rw [w] at e;cases e
 ·rw [m2];exact(pz.map f).mem_iff.trans (S.mem k)
def KY (ta:TAD):TED:=λσ h Q=>ta σ h λds h1=> ∃ (a:P3) (Ts B:G0 (G0 (G0 P4))),ds= [.lst a]/\h1 a=some (Ts.map jj)/\B.length<1000/\(∀T∈Ts,T∈B/\T≠ [])/\ ∀ (p:P3) (ks:G0 (G0 (G0 P4))),h1 p=none->ks.Pairwise (λx y=>jR x y=true)->(∀k,k∈ks↔k∈Ts)->Q (.lst p) (zm h1 p (ks.map jj))
variable {K:G7}{H:Hp}
theorem XT: ∀ {Ts:G0 (G0 (G0 P4))} {ws:G0 V},Á K H (Ts.map jj) ws-> ∃ps:G0 XN,ws=ps.map (λp=>V.ref p.1)/\Ts=ps.map (·.2)/\ ∀p∈ps,È K H (jj p.2) (.ref p.1)
 | [],ws,r=>by cases (show ws= [] from r);exact⟨[],rfl,rfl,λ_ z=>nomatch z⟩
 |T::Ts,ws,r=>by
  obtain⟨v,t,e,g1,g2⟩:=(show ∃v t,ws=v::t/\È K H (jj T) v/\Á K H (Ts.map jj) t from r);subst e;obtain⟨ps,rfl,rfl,hp⟩:=XT g2;obtain⟨b,us,eb,_⟩:=(show ∃a vs,v= .ref a/\H a=some (.tup vs)/\_ from g1);subst eb;exact⟨(b,T)::ps,rfl,rfl,λp Ŷ=>(S0.mp Ŷ).elim (λz=>by rw [z];exact g1) (hp p)⟩
theorem Vm: ∀ {qs:G0 XN},(∀x∈qs,È K H (jj x.2) (.ref x.1))->Á K H ((qs.map (·.2)).map jj) (qs.map λp=>V.ref p.1)
 | [],_=>rfl
 |q::qs,h=>⟨_,_,rfl,h q D3,Vm λx hx=>h x (S1 _ hx)⟩
theorem Ws: ∀ {T:G0 (G0 P4)} {vs:G0 V},RV H vs T->Á K H (T.map zM) vs
 | [],[],_=>rfl
 |r::T,v::vs,⟨⟨c,e,hc⟩,x⟩=>⟨v,vs,rfl,⟨c,_,e,hc,vh r⟩,Ws x⟩
def Zd {T:G0 (G0 P4)}{b:P3}:WJ H T b->È K H (jj T) (.ref b)
 |⟨us,hb,x⟩=>⟨b,us,rfl,hb,Ws x⟩
def KZ {X : Cx} {k : G8} {a : M6} {ta : TAD} {p p2 pos ś : Pos} (hr : Û k X.A) (hc : X.calm = true) (hg : Gl X "sorted") (hm : X.mg "sorted" = none) (hg2 : Gl X "set") (hm2 : X.mg "set" = none) (ha : JA X [a] ta) (hs : R8 [a] X.env = [(false, J3 a X.env)] := by rfl)
    (h1 : R8 [.Call (.Name "set" p2) [a] [] ś] X.env = (false, J3 (.Call (.Name "set" p2) [a] [] ś) X.env) :: R8 [] X.env := by rfl) (h2 : (U9 pos (R8 [] X.env)).any (·.1) = false := by rfl) (h3 : (U9 ś (R8 [] X.env)).any (·.1) = false := by rfl) :
    JE X (.Call (.Name "sorted" p) [.Call (.Name "set" p2) [a] [] ś] [] pos) (KY ta) :=
  ⟨(ZG (vD hc hr) hg hm (by decide +kernel) (yf (ZO (Ux hc hr) hg2 hm2 (by decide +kernel) ha.to (by decide) (by decide) hs h3) ē h1) (by decide) (by decide) h1 h2).imp
    fun σ H Q ⟨Å, h, Qd, rs, rh, t, post⟩ => LA.bind rs rh t fun ds vs h1 H1 k1 ß Ë r1 ⟨a, Ts, B, e, hd, few, inB, q⟩ => by
      subst e
      obtain ⟨v, e, r2⟩ := jA r1
      obtain ⟨ws, hH, r3⟩ := Ë a _ hd
      have e1 : v = .ref a := r2.1
      subst e e1
      obtain ⟨ps, rfl, rfl, hp⟩ := XT r3
      have inP : ∀ p ∈ ps, p.2 ∈ B ∧ p.2 ≠ [] := fun p h => inB _ (J6 h)
      refine ⟨a, ps, B, rfl, ê.of hH, few, fun p h => (inP p h).1, fun p h => tab_of (hp p h), fun c o hcn acc => ?_⟩
      have kc : Kept H1 (upd H1 c (LD o)) := .new hcn
      obtain ⟨f, es, ep, t, eo, S⟩ := acc
      refine ⟨c, o, (ps.map (·.2)).reverse, B, rfl, jt, ⟨es, ep, t, f, eo, S.imp fun k b z => tab_of ((hp _ z).mono kc)⟩, few, fun T hT => ?_, fun l qs hl sub srt mem => ?_⟩
      · obtain ⟨p, Ŷ, rfl⟩ := R7.mp (L0.mp hT)
        exact inP p Ŷ
      have ô := Ë.new (o := LD o) hcn
      exact post (.lst l) (.ref l) _ _ (k1.trans (kc.trans (.new hl))) (ô.newL hl (Vm fun x hx => Zd (sub x hx))) ⟨rfl, _, jt⟩ (q l (qs.map (·.2)) (ô.free hl) srt fun k => by rw [mem k, L0])⟩
def kf (ta:TAD):TED:=λσ h Q=>ta σ h λds h1=> ∃Ts:G0 (G0 (G0 P4)),ds= [.tup (Ts.map jj)]/\Ts.length<1000/\(∀T∈Ts,T≠ [])/\ ∀ (p:P3) (ks:G0 (G0 (G0 P4))),h1 p=none->ks.Pairwise (λx y=>jR x y=true)->(∀k,k∈ks↔k∈Ts)->Q (.lst p) (zm h1 p (ks.map jj))
def kg {X : Cx} {k : G8} {a : M6} {ta : TAD} {p p2 pos ś : Pos} (hr : Û k X.A) (hc : X.calm = true) (hg : Gl X "sorted") (hm : X.mg "sorted" = none) (hg2 : Gl X "set") (hm2 : X.mg "set" = none) (ha : JA X [a] ta) (hs : R8 [a] X.env = [(false, J3 a X.env)] := by rfl)
    (h1 : R8 [.Call (.Name "set" p2) [a] [] ś] X.env = (false, J3 (.Call (.Name "set" p2) [a] [] ś) X.env) :: R8 [] X.env := by rfl) (h2 : (U9 pos (R8 [] X.env)).any (·.1) = false := by rfl) (h3 : (U9 ś (R8 [] X.env)).any (·.1) = false := by rfl) :
    JE X (.Call (.Name "sorted" p) [.Call (.Name "set" p2) [a] [] ś] [] pos) (kf ta) :=
  ⟨(ZG (vD hc hr) hg hm (by decide +kernel) (yf (ZO (XJ hc hr) hg2 hm2 (by decide +kernel) ha.to (by decide) (by decide) hs h3) ē h1) (by decide) (by decide) h1 h2).imp
    fun σ H Q ⟨Å, h, Qd, rs, rh, t, post⟩ => LA.bind rs rh t fun ds vs h1 H1 k1 ß Ë r1 ⟨Ts, e, few, ne, q⟩ => by
      subst e
      obtain ⟨v, e, r2⟩ := jA r1
      obtain ⟨a, ws, ev, hH, r3⟩ := (show ∃ a vs, v = .ref a ∧ H1 a = some (.tup vs) ∧ Á X.K H1 (Ts.map jj) vs from r2)
      subst e ev
      obtain ⟨ps, rfl, rfl, hp⟩ := XT r3
      refine ⟨a, ps, rfl, ä.of hH, by rw [G1] at few; exact few, fun p h => tab_of (hp p h), fun c o hcn S => ?_⟩
      have kc : Kept H1 (upd H1 c (LD o)) := .new hcn
      obtain ⟨es, ep, t, f, eo, S⟩ := S
      refine ⟨c, o, (ps.map (·.2)).reverse, ps.map (·.2), rfl, jt, ⟨es, ep, t, f, eo, S.imp fun k b z => tab_of ((Zd (K := X.K) z).mono kc)⟩, few, fun T hT => ⟨L0.mp hT, ne T (L0.mp hT)⟩, fun l qs hl sub srt mem => ?_⟩
      have ô := Ë.new (o := LD o) hcn
      exact post (.lst l) (.ref l) _ _ (k1.trans (kc.trans (.new hl))) (ô.newL hl (Vm fun x hx => Zd (sub x hx))) ⟨rfl, _, jt⟩ (q l (qs.map (·.2)) (ô.free hl) srt fun k => by rw [mem k, L0])⟩
end L2
namespace HT
open PySem PyProof.Rows
section
variable {prog:S6}{w:B3}{A:N4}{E:G2->G3->Prop}{s:G3}{d:P3}{dd:P9 P3}{es:S5 dS}{ep:G8}{sl:S5 (P9 G2)}
def KIt (h:L8)(it d:P3)(i n ep:G8):Prop:=h.get? it=some {cls:= .type "dict_keyiterator",data:= .fields #[.ref d,.int i 0,.int n 0,.int ep 0]}
def Jw {it:P3}{i n:G8}{P:dQ->G3->Prop}(hit:KIt s.heap it d i n ep)(hd:s.heap.get? d=some {cls:= .type "dict",dict:=dd,data:= .dict es ep,slots:=sl})(hn:es.size=n)
 (more: ∀ (e:dS) h',es[i]? =some e->KIt h' it d (i+1) n ep->O9 it s.heap h'->P (.done (.ret e.key)) {s with heap:=h'})
 (none_:es[i]? =none->D8 (R3 prog w) A (do g8 (.ref it) 0 .none;raiseNew (<-newExc (.type "StopIteration") [])) P E s):D8 (R3 prog w) A (Builtin.«dict_keyiterator.__next__» ⟨[.ref it],[]⟩) P E s:=by
 have hT:s.TypeIs (.ref it) "dict_keyiterator" :=⟨_,hit,rfl⟩;have tn:=λ{Q:W1->G3->Prop} {E':G2->G3->Prop} {A':N4} (h:Q "dict_keyiterator" s)=>wpAny_typeNameOfWhole_keyiter (prog:=prog) (w:=w) (A:=A') (E:=E') hT h
 obtain⟨hp,g,dr,tk,os⟩:=s
 wp_walk using tn
 rw [R9 (show ¬ ((i:P4)<0) by omega),K2];cases hx:es[i]? with
 |none=>exact wpAny_bind (wpAny_bind (tn (G9 (none_ hx))))
 |some e=>
  refine wpAny_bind (wpAny_bind (tn (G9 (wpAny_bind (nQ hT ?_)))));show D8 _ _ (g8 (.ref it) 1 (K4 ((i:P4)+1)) >>= _) _ _ _;refine wpAny_bind (wpAny_setField_rec hit (by simp) λh1 e1 s1=> ?_);have e2:KIt h1 it d (i+1) n ep:=by unfold KIt;rw [show ((i+1:G8):P4)=(i:P4)+1 by omega];simpa [K4] using e1
  have T1:Shared.TypeIs ⟨h1,g,dr,tk,os⟩ (.ref it) "dict_keyiterator" :=⟨_,e2,rfl⟩;exact wpAny_bind (O5 (wpAny_bind (nQ T1 (G9 (G9 (more e h1 hx e2 s1))))))
def Yy {Q:G2->G3->Prop}(hd:s.heap.get? d=some {cls:= .type "dict",dict:=dd,data:= .dict es ep,slots:=sl})(lo:(d==W7)=false)
 (q:Q (.ref s.heap.objs.size) {s with heap:=s.heap.push {cls:= .type "dict_keyiterator",data:= .fields #[.ref d,.int 0 0,.int es.size 0,.int ep 0]}}):D8 (R3 prog w) A (nV (.ref d)) Q E s:=by
 have ty:s.TypeIs (.ref d) "dict" :=⟨_,hd,rfl⟩;refine gD ty rR (C7 rR ty F.entry_dict_iter ?_ (F.args_dict_iter_1 _));unfold Builtin.«dict.__iter__» Builtin.Dict.dictSlotNone Builtin.Dict.showsAll;refine wpAny_bind (wpAny_bind (wpAny_notOrdered_dict ty (G9 ?_)));refine wpAny_bind (G9 ?_)
 wp_walk
 exact⟨_,rfl,"dict_keyiterator",_,⟨_,R0 _ rfl,rfl⟩,F.slot_dict_keyiterator_next.lookup,by simpa [K4] using q⟩
end
end HT
namespace L2
open PySem PySem.Spec PyProof.Rows HT PySem.SeqAt
noncomputable def Kyi (a : P3) (ep n : G8) : It :=
  ⟨fun i H => ∃ xs x, H a = some (WI a ep xs) ∧ xs.length = n ∧ xs[i]? = some x,
   fun i H v H' => H' = H ∧ ∃ b, v = .ref b ∧ ∀ xs, H a = some (WI a ep xs) → ∃ T u, xs[i]? = some (T, b, u),
   fun i H => ∃ xs, H a = some (WI a ep xs) ∧ xs.length = n ∧ n ≤ i⟩
variable {tg:M6}
def Mk {P:S6}{w:B3}{K:G7}(a it:P3)(ep n:G8):Ŵ P w K tg (Kyi a ep n) [it] it (λi h=>KIt h it a i n ep) where
 mem:=by simp
 obj:=λi h q b hb=>by rw [P0.mp hb];exact⟨_,q,λv z=>by cases z⟩
 keep:=λi h h' q k=>k it (by simp) _ q
 item:=by
  intro X hP hw hK hc i À s σ H E I hf hit hg;subst hP hw hK;obtain⟨xs,x,hH,hl,hx⟩:=hg;obtain⟨_,sl,es,ys,hd,pr,he,hn⟩:=Zc I hH;have ty:s.TypeIs (.ref it) "dict_keyiterator" :=⟨_,hit,rfl⟩;obtain⟨f0,f1,f2,f3,f4,f5⟩:=hf it (by simp);have il:i<ys.length:=by rw [<- (zh pr).2.1];exact(P5.mp hx).1
  have hy:ys[i]? =some ys[i]:=G5 il;obtain⟨p1,p2,p3⟩:=wZ pr hx hy;have ee:es[i]? =some ⟨YH ys[i].1,.ref ys[i].2.1,ys[i].2.2⟩:=by rw [<-M9,he,P7,hy];rfl
  unfold iU;refine wpAny_bind (cP (F5 (name:=W9 "__next__") ty A4 (C7 A4 ty aF (Jw hit hd (hn.trans hl) (λe h' Ġ it2 same=>⟨_,rfl,G9 ⟨_,rfl,?_⟩⟩) λz=>by rw [ee] at z;cases z) (Z6 _))));rw [ee] at Ġ;injection Ġ with Ġ
  subst Ġ;have I1:Inv X À σ H {s with heap:=h'}:=I.turned (t':=s.toks) (λb o hb e=>same.extBut b o hb e) f0 f1 f3 f4 f5;refine MV (s:= {s with heap:=h'}) it2 rfl rfl (by decide) ⟨.ref x.2.1,H,I1,by rw [p2];rfl,⟨rfl,x.2.1,rfl,λľ h2=> ?_⟩,it2,λb hb=>(hf b hb).1⟩;obtain⟨T,hT⟩:=LK I hH h2 hx;exact⟨T,_,hT⟩
 done:=by
  intro X hP hw hK hc i À s σ H E I hf hit hg;subst hP hw hK;obtain⟨xs,hH,hl,hi⟩:=hg;obtain⟨_,sl,es,ys,hd,pr,he,hn⟩:=Zc I hH;have ty:s.TypeIs (.ref it) "dict_keyiterator" :=⟨_,hit,rfl⟩;unfold iU;refine wpAny_bind (cP (F5 (name:=W9 "__next__") ty A4 (C7 A4 ty aF (Jw hit hd (hn.trans hl) (λe h' Ġ _ _=>by have:=(F8.mp Ġ).1;omega) λ_=>wpAny_bind (j6 hit rfl (by simp) (yj (s:= {s with heap:=_}) (I.ok.hd hc) λh' e grown stop=> ?_))) (Z6 _))));obtain⟨o,eo,co⟩:=stop;refine wpAny_bind (aZ (T:= "StopIteration") (b:=true) ⟨o,eo,co⟩ j7 ?_);have kp: ∀b o,b ∉ [it]->s.heap.get? b=some o->h'.get? b=some o:=λb o hb q=>grown b o ((cK _ _ (λz=>hb (by simp [z]))).trans q)
  have I2:Inv X À σ H {s with heap:=h'}:=I.turnL (t':=s.toks) (ch:= [it]) kp hf;exact G9 ⟨rfl,I2⟩
 self:=λ_ _ _ _ _ q h=>oV ⟨_,q,rfl,rfl⟩ h
def kh (td:TE):TI:=λσ H R=>td σ H λx H1=> ∃a ep xs,x= .ref a/\H1 a=some (WI a ep xs)/\R (Kyi a ep xs.length) H1
variable {X:Cx}
def LL {o:M6}{td:TE}(ho:PE X o td):PI X tg o (kh td):=by
 intro À s σ H R I h;refine Ó (ho À s σ H _ I h) λv s1 ⟨x,H1,I1,r1,a,ep,xs,ex,hH,q⟩=> ?_
 subst ex;cases r1;obtain⟨lo,sl,es,ys,hd,pr,he,hn⟩:=Zc I1 hH;refine Yy hd lo ?_;rw [hn];refine⟨_,[s1.heap.objs.size],_,_,H1,rfl,I1.kept (t':=s1.toks) (λb u e=>G6 _ e),Mk a _ ep xs.length,R0 _ rfl,λb hb=> ?_,q⟩;rw [P0.mp hb];exact I1.fpOk (P2 _) (I1.hok.fresh (P2 _))
noncomputable def XU (a:P3)(ep n:G8):ItD:=λh=>match h.dc a with
 |some (.tk e kv)=>if e=ep/\kv.length=n then some (kv.map λp=>jj p.1) else none
 |_=>none
def Bv {h:HD}{a:P3}{ep:G8}{kv:G0 (G0 (G0 P4)×D)}(e:h.dc a=some (.tk ep kv)):XU a ep kv.length h=some (kv.map λp=>jj p.1):=by
 unfold XU;rw [e];exact R6 ⟨rfl,rfl⟩
def Bw {h:HD}{a:P3}{ep n:G8}{ds:G0 D}(e:XU a ep n h=some ds): ∃kv,h.dc a=some (.tk ep kv)/\kv.length=n/\ds=kv.map λp=>jj p.1:=by
 unfold XU at e;split at e
 ·rename_i e' kv q
  by_cases c:e'=ep/\kv.length=n
  ·rw [R6 c] at e;exact⟨kv,by rw [q,c.1],c.2,(O0 e).symm⟩
  ·rw [R9 c] at e;cases e
 ·cases e
def Ml {K:G7}{H:Hp}(a:P3)(ep n:G8):BS K H (XU a ep n) (Kyi a ep n):=λH' h' _ rh ds e i=>by
 obtain⟨kv,hc,hl,rfl⟩:=Bw e;obtain⟨xs,hH,nd,ek,tv,rv⟩:=(show ∃xs:KT2,_ from rh.dc a _ hc);have len:xs.length=n:=by have:=congrArg aA ek;rw [G1,G1] at this;omega
 refine⟨λd hd=> ?_,λhi=>⟨xs,hH,len,by rw [G1] at hi;omega⟩⟩;rw [P7] at hd;obtain⟨p,hp,rfl⟩:=L5.mp hd;have il:i<xs.length:=by have:=(P5.mp hp).1;omega
 have hx:xs[i]? =some xs[i]:=G5 il;refine⟨⟨xs,xs[i],hH,len,hx⟩,λx ŀ ⟨eH,b,ex,all⟩=> ?_⟩;subst ex eH;obtain⟨T,u,hT⟩:=all xs hH;have e1:T=p.1:=by
  have:=congrArg (λl=>l[i]?) ek;simp only [P7,hp,hT,iF] at this;exact(O0 this).symm
 subst e1;exact⟨.refl _,rh,tv _ (P6 hT)⟩
def iKy (td:TED):TID:=λσ h R=>td σ h λx h1=> ∃a ep kv,x= .dct a/\h1.dc a=some (.tk ep kv)/\R (XU a ep kv.length) h1
def LM {o : M6} {td : TED} (ho : JE X o td) : JI X tg o (iKy td) :=
  ⟨(LL ho.to).imp fun σ H R ⟨Å, h, Rd, rs, rh, q, p⟩ => LE.bind rs rh q fun d v h1 H1 k1 ß Ë r1 ⟨a, ep, kv, e, hc, q1⟩ => by
    subst e
    cases (show v = .ref a from r1)
    obtain ⟨xs, hH, nd, ek, tv, rv⟩ := (show ∃ xs : KT2, _ from Ë.dc a _ hc)
    have len : xs.length = kv.length := by have := congrArg aA ek; rw [G1, G1] at this; omega
    exact ⟨a, ep, xs, rfl, hH, by rw [len]; exact p _ _ _ _ k1 Ë (Ml a ep kv.length) q1⟩⟩
def Ka (P:S6)(w:B3)(xs:KT2)(o:Obj):Prop:=xs.length<1000/\(xs.map (·.1)).Nodup/\ ∃es ep,∃ys:G0 (G0 (G0 P4)×P3×G2),o.ExactDict/\o.data= .dict es ep/\Paired vR xs ys/\es.toList=ys.map (IW (Bn P w))
noncomputable def hoD (xs:KT2)(o:Obj)(p:P3):HO:=match o.data with
 | .dict _ ep=>WI p ep xs
 |_=> .own 0
noncomputable def XV (kx vx:M6)(env:Env)(acc:G2):Sem Unit:=do
 let kv <-J3 kx env
 let vv <-aR [kv] (J3 vx env)
 match acc with
 | .ref d=>do
  gX {kx.pos with endLine:=vx.pos.endLine,endCol:=vx.pos.endCol}
  aR [kv,vv] (dictSet d kv vv)
 |_=>unsupported "internal:dictcomp"
def EI (tk tv:TE):TMG KT2:=λσ H xs Q=>tk σ H λy H1=>tv σ H1 λv H2=> ∃b T,y= .ref b/\WJ H2 T b/\(∀x∈xs,WJ H2 x.1 x.2.1)/\T ∉ xs.map (·.1)/\xs.length<999/\Q (xs++ [(T,b,v)]) H2
variable {kx vx:M6}
def Mm {k:G8}{D:P3}{tk tv:TE}(hr:Û k X.A)(hx:X.xe=λ_ _=>False)(hk:PE X kx tk)(hv:PE X vx tv):EE X (Ka X.prog X.w) D (XV kx vx X.env (.ref D)) (EI tk tv):=by
 rintro À s σ H xs o Q I ⟨few,nd,es,ep,ys,ox,od,pr,he⟩ DX cD pD h;have q:=hk _ s σ H _ I h;rw [hx] at q;unfold XV;refine wpAny_bind (T7 q (λy s1 ⟨yv,H1,I1,r1,q1⟩=> ?_) λ_ _ z=>z);have q:=hv _ s1 σ H1 _ I1 q1;rw [hx] at q;refine wpAny_bind (O5 (T7 q (λv s2 ⟨vv,H2,I2,r2,b,T,e,hT,hks,no,lf,q2⟩=> ?_) λ_ _ z=>z));subst e;cases r1;have zD:=I2.pin (D,o) (D4 _ (B8 _ D3));have X0V:Inv X À σ H2 s2:=I2.pins_of λp hp=>I2.pin p (D4 _ (D4 _ hp))
 obtain⟨k1,k2,k3⟩:=zh pr;have dd:s2.heap.DictOfH (Bn X.prog X.w) D ys:=⟨o,es,ep,zD.1,ox,od,he,λy hy=>by
  obtain⟨x,hx,e1,e2⟩:=k3 y hy;have:=yS I2 x.1 x.2.1 (hks x hx);rw [e1,e2] at this;exact this,by rw [<-k1];exact nd⟩
 have none_:iI ys T=none:=by
  unfold iI;rw [X7,fK];intro y hy z;exact no (by rw [k1];exact R7.mpr ⟨y,hy,A7 z⟩)
 refine wpAny_bind (aW (O5 (wpAny_dictSet_heap (knd:=Bn X.prog X.w) (hsz:=by rw [<-k2];exact R1 (T8 few) (by decide)) (by have:=hr.un;show X.A.units+8<cLine;omega) (yS I2 T b hT) dd λh' dd' sb=> ?_)));rw [IQ none_] at dd';obtain⟨o',Ö,é,e',x',d',l',_,_⟩:=dd';have I11:Inv X À σ H2 {s2 with heap:=h',toks:=s2.toks+(Bn X.prog X.w).draws T}:=X0V.turned (it:=D) (λb o hb e=>sb.extBut b o hb e) zD.2.1 zD.2.2.1 (.inl DX) cD pD;refine⟨xs++ [(T,b,vv)],o',H2,⟨by rw [P1];exact rO lf,?_,Ö,é,_,x',d',pr.snoc ⟨rfl,rfl,r2⟩,l'⟩,I11.pins_of λp hp=> ?_,q2⟩
 ·rw [T6];refine bY.mpr ⟨nd,by simp,λx hx y hy z=> ?_⟩;rw [P0.mp hy] at z;have z:x=T:=z;exact no (z ▸ hx)
 ·rcases D1.mp hp with z|z
  ·rcases P0.mp z with rfl
   exact⟨e',zD.2.1,zD.2.2.1,zD.2.2.2.1,λv z=>by rw [d'] at z;cases z⟩
  ·exact I11.pin p (D4 _ z)
variable {iter:M6}{ifs:G0 M6}{scope:Y5}
def Mn {P:S6}{w:B3}{rest:G0 aX}{pos:Pos}:X0D P w (.DictComp kx vx (⟨tg,iter,ifs,0⟩::rest) scope pos) ⟨tg,iter,ifs,0⟩ rest G0z {cls:= .type "dict",data:= .dict #[]} where
 cl:=rfl
 quiet:=λ_ _ _=>rfl
 den:=λ_ _ _=>rfl
 under:=λ_ _ _ _=>rfl
 start:=λ{A R s it acc env} h0 h=>m8 (uR (by
  unfold compStart;show D8 (R3 P w) A (ask >>= _) _ _ s;exact wpAny_bind (aY (wpAny_ite (Qs (λ_=>wpAny_bind (G9 (G9 ⟨rfl,h0⟩))) λ_=>wpAny_bind (dE (wpAny_bind (aW (wpAny_bind (T7 h (λ_ _ q=>G9 ⟨rfl,q⟩) λ_ _ q=>q))))))))))
 live:=rfl
 made:=λ{A Q E s} q=>by
  unfold G0z;exact K1 q
def He {k:G8}{pos:Pos}{js:G0 G8}{wi:TI}{g:TG}{tt:TT}{tk tv:TE}(hr:Û k X.A)(hc:X.calm=true)(S:Ê X scope js)(hi:PI X tg iter wi)
 (hg: ∀X',jh X scope X'->PG X' tg g)(ht: ∀X',jh X scope X'->Ĝ X' ifs tt)(hk: ∀X',jh X scope X'->PE X' kx tk)(hv: ∀X',jh X scope X'->PE X' vx tv)
 (hs: ∀x,M8 iter X.env x=pure x:=by intro _;rfl):PE X (.DictComp kx vx [⟨tg,iter,ifs,0⟩] scope pos) (tCG (Ka X.prog X.w) hoD [] js wi g tt (EI tk tv)):=by
 intro À s σ H Q I h;show D8 _ _ (lN (.DictComp kx vx [⟨tg,iter,ifs,0⟩] scope pos) scope X.env _ G0z false (J3 iter X.env)) _ _ s;exact EF (ho:=hoD) (use:=none) hc S hi Mn ⟨by decide,oU,#[],0,[],⟨rfl,rfl,rfl⟩,rfl,.nil,rfl⟩ (λa o ⟨_,_,_,_,_,_,e,_⟩ v z=>by rw [e] at z;cases z) (λ{a o H h p} lo ⟨few,nd,es,ep,ys,ox,od,pr,he⟩ e=>by
  unfold hoD;rw [od];exact⟨⟨lo,R1 (T8 few) (by decide),ys,pr,o,es,e,ox,od,he⟩,⟨_,e⟩,λh1 h2 ⟨a1,a2,ÿ,pr',o',Ö,ho,ex,hd,he⟩ ke=>⟨a1,a2,ÿ,pr',o',Ö,ke o' ho,ex,hd,he⟩⟩) hg ht (XV kx vx) (λ_ _ _=>rfl) (λX' hX D=>by
   obtain⟨C,s₀,H₀,ex,e⟩:=hX;have z:=hk X' ⟨C,s₀,H₀,ex,e⟩;have z2:=hv X' ⟨C,s₀,H₀,ex,e⟩;subst e;exact Mm (X:=wL X scope C s₀ H₀ ex) hr rfl z z2) hs I h
  λD C H' s' m hn hk _ _ _ _ _ _ q=>⟨m,hn,λh' hs'=>⟨.ref D,H',hk h' hs',rfl,q⟩⟩
def dDC (bind:D->SD->SD->Prop)(js:G0 G8)(ti:TID)(tt:TTD)(tk tv:TED):TED:=λσ h Q=>ti σ h λj h1=> ∃ (n:G8) (W:G8->G0 (G0 (G0 P4)×D)->HD->Prop),W 0 [] h1/\ ∀i kv h',W i kv h'->kv.length<999/\(kv.map (·.1)).Nodup/\
 ∃ds,j h'=some ds/\ds.length<=n/\(ds.length<=i-> ∀a ep,h'.dc a=none->Q (.dct a) (Ng h' a (.tk ep kv)))/\
  ∀d,ds[i]? =some d-> ∃ã,bind d (jM js σ) ã/\tt ã h' λb h3=>if b=true then tk ã h3 λy h4=>tv ã h4 λv h5=> ∃T h6,y=jj T/\T ∉ kv.map (·.1)/\Sub h6 h5/\W (i+1) (kv++ [(T,v)]) h6 else ∃h5,Sub h5 h3/\W (i+1) kv h5
def jdc {k i : G8} {x : Str} {p pos : Pos} {js : G0 G8} {ti : TID} {tt : TTD} {tk tv : TED} (hr : Û k X.A) (hc : X.calm = true) (S : Ê X scope js) (hi : JI X (.Name x p) iter ti) (hj : i ∈ js) (hN : X.N.Nodup) (hx : X.N[i]? = some x) (hl : scope.names.lookup x = some .local ∨ scope.names.lookup x = some .cell)
    (ht : ∀ X', jh X scope X' → Ĝ X' ifs (LT X'.K tt)) (hk : ∀ X', jh X scope X' → JE X' kx tk) (hv : ∀ X', jh X scope X' → JE X' vx tv) (hs : ∀ x, M8 iter X.env x = pure x := by intro _; rfl) :
    JE X (.DictComp kx vx [⟨.Name x p, iter, ifs, 0⟩] scope pos) (dDC (bN i) js ti tt tk tv) :=
  ⟨(He (g := wV i) (tt := LT X.K tt) (tk := LE X.K tk) (tv := LE X.K tv) hr hc S hi.to (fun X' hX => by obtain ⟨C, s₀, H₀, ex, rfl⟩ := hX; exact we hN hx hl) (fun X' hX => by have := ht X' hX; obtain ⟨C, s₀, H₀, ex, rfl⟩ := hX; exact this) (fun X' hX => by have := (hk X' hX).to; obtain ⟨C, s₀, H₀, ex, rfl⟩ := hX; exact this) (fun X' hX => by have := (hv X' hX).to; obtain ⟨C, s₀, H₀, ex, rfl⟩ := hX; exact this) hs).imp
    fun σ H Q ⟨Å, h, Qd, rs, rh, q, post⟩ => by
      refine ⟨Å, h, _, rs, rh, q, fun j J h1 H1 k1 Ë jo ⟨n, W, w0, turn⟩ => ?_⟩
      refine ⟨fun i m xs H' => m = n - i ∧ Kept H1 H' ∧ ∃ h' kv, kv.map (·.1) = xs.map (·.1) ∧ Á X.K H' (kv.map (·.2)) (xs.map (·.2.2)) ∧ (∀ x ∈ xs, È X.K H' (jj x.1) (.ref x.2.1)) ∧ Ç X.K h' H' ∧ W i kv h', ⟨n - 0, rfl, .refl _, h1, [], rfl, rfl, (fun y hy => nomatch hy), Ë, w0⟩, ?_⟩
      rintro i m xs H' ⟨rfl, kp, h', kv, ek, rv, ry, ħ, w⟩
      obtain ⟨hz, nd, ds, ej, hn, stop, go⟩ := turn i _ h' w
      have len : kv.length = xs.length := by have := congrArg aA ek; rwa [G1, G1] at this
      have jo' := jo H' h' kp ħ ds ej i
      have kk : Kept H H' := k1.trans kp
      by_cases hi : i < ds.length
      · obtain ⟨g1, y1⟩ := jo'.1 ds[i] (G5 hi)
        refine .inr ⟨g1, fun x ŀ y => ?_⟩
        obtain ⟨k2, ô, r2⟩ := y1 x ŀ y
        obtain ⟨ð, bd, q2⟩ := go ds[i] (G5 hi)
        refine Fy hj σ Å ð ŀ ds[i] x _ (((rs.mono (kk.trans k2))).clear js) r2 bd fun ã ag ņ => ⟨ag, ?_⟩
        refine LT.bind ņ ô q2 fun b h3 H3 k3 Ξ Ğ q3 => ?_
        cases b with
        | true =>
          rw [R6 rfl] at q3 ⊢
          refine LE.bind Ξ Ğ q3 fun d4 v4 h4 H4 k4 ŷ ő r4 q4 => LE.bind ŷ ő q4 fun d5 v5 h5 H5 k5 rs5 rh5 r5 ⟨T, h6, ed, no, sb, w5⟩ => ?_
          subst ed
          obtain ⟨b, vs, eb, _⟩ := (show ∃ a vs, v4 = .ref a ∧ H4 a = some (.tup vs) ∧ _ from r4)
          subst eb
          have kA := k2.trans (k3.trans (k4.trans k5))
          have ry5 : ∀ x ∈ xs, È X.K H5 (jj x.1) (.ref x.2.1) := fun y hy => (ry y hy).mono kA
          refine ⟨b, T, rfl, tab_of (r4.mono k5), fun y hy => tab_of (ry5 y hy), by rw [← ek]; exact no, by omega, n - (i + 1), by omega, rfl, kp.trans kA, h6, kv ++ [(T, d5)], by rw [T6, T6, ek]; rfl, ?_, fun y hy => ?_, rh5.sub sb, w5⟩
          · rw [T6, T6]
            exact Zb (rv.mono kA) r5
          · rcases D1.mp hy with z | z
            · exact ry5 y z
            · rw [P0.mp z]; exact r4.mono k5
        | false =>
          rw [R9 R5] at q3 ⊢
          obtain ⟨h5, sb, w5⟩ := q3
          exact ⟨n - (i + 1), by omega, rfl, kp.trans (k2.trans k3), h5, kv, ek, rv.mono (k2.trans k3), fun y hy => (ry y hy).mono (k2.trans k3), Ğ.sub sb, w5⟩
      · refine .inl ⟨jo'.2 (aO.mp hi), fun p o hpn acc => ?_⟩
        obtain ⟨few, nd2, es, ep, ys, ox, od, pr, he⟩ := acc
        have eh : hoD xs o p = WI p ep xs := by unfold hoD; rw [od]
        rw [eh]
        have kn : Kept H' (upd H' p (WI p ep xs)) := .new hpn
        exact post (.dct p) (.ref p) _ _ (kk.trans kn) (ħ.newC (c := .tk ep kv) hpn ⟨xs, jt, nd, ek, fun x hx => (ry x hx).mono kn, rv.mono kn⟩) rfl (stop (aO.mp hi) p ep (ħ.freeC hpn))⟩
end L2
namespace HT
open PySem PyProof.Rows
section
variable {prog:S6}{w:B3}{A:N4}{E:G2->G3->Prop}{s:G3}{d:P3}{es:S5 dS}{ep:G8}{sl:S5 (P9 G2)}
noncomputable abbrev DOb (es:S5 dS)(ep:G8)(sl:S5 (P9 G2)):Obj:= {cls:= .type "dict",dict:=none,data:= .dict es ep,slots:=sl}
def Mo (hh:A.handled=none)(I:P3)(ne:d≠I):Walks prog w A I [I,d] [I] es.size (λi v=> ∃e,es[i]? =some e/\v=e.key) (λi h=>KIt h I d i es.size ep/\h.get? d=some (DOb es ep sl)) where
 sub:=λb hb=>by simp at hb;simp [hb]
 frame:=λ_ _ _ st hk=>⟨hk I (by simp) _ st.1,hk d (by simp) _ st.2⟩
 item:=λi s Q E hi st hQ=>by
  have ty:s.TypeIs (.ref I) "dict_keyiterator" :=⟨_,st.1,rfl⟩;unfold iU;refine wpAny_bind (cP (F5 (name:=W9 "__next__") ty A4 (C7 A4 ty aF (Jw st.1 st.2 rfl (λe h' he it2 same=>⟨_,rfl,G9 ?_⟩) λz=>by have:=A8.mp z;omega) (Z6 _))));exact hQ e.key h' s.toks ⟨e,he,rfl⟩ ⟨it2,same.extBut _ _ ne st.2⟩ λb o hb e=>same.extBut b o (λz=>hb (by simp [z])) e
 done:=λs Q E st hQ=>by
  have ty:s.TypeIs (.ref I) "dict_keyiterator" :=⟨_,st.1,rfl⟩;unfold iU;refine wpAny_bind (cP (F5 (name:=W9 "__next__") ty A4 (C7 A4 ty aF (Jw st.1 st.2 rfl (λe h' he _ _=>by have:=(F8.mp he).1;omega) λ_=>wpAny_bind (j6 st.1 rfl (by simp) (L2.yj (s:= {s with heap:=_}) hh λh' e grown stop=> ?_))) (Z6 _))));obtain⟨o,eo,co⟩:=stop;refine wpAny_bind (aZ (T:= "StopIteration") (b:=true) ⟨o,eo,co⟩ j7 ?_);exact G9 (hQ h' s.toks λb o hb e=>grown b o ((cK _ _ (λz=>hb (by simp [z]))).trans e))
 self:=λ_ _ _ _ st h=>oV ⟨_,st.1,rfl,rfl⟩ h
def Bx (lo:(d==W7)=false):G01 prog w "dict" d d es.size (λi v=> ∃e,es[i]? =some e/\v=e.key) (λh=>h.get? d=some (DOb es ep sl)) where
 type:=λ_ hm=>⟨_,hm,rfl⟩
 there:=λ_ hm=>⟨D0 hm,D0 hm⟩
 keep:=λ_ _ hm hk=>hk d (.inl rfl) _ hm
 notList:=by decide
 notTuple:=by decide
 hint:=λ_ _ _ _ hm hq=>x4 ⟨_,hm,rfl⟩ hq
 iter:=λ_ s hh hm=>⟨_,_,(λ_ _ hq=>Yy hm lo hq),Mo hh _ (S8 (D0 hm)),⟨R0 _ rfl,G6 _ hm⟩⟩
def By {acc:S5 G2}(it:ItemsOf (λi v=> ∃e,es[i]? =some e/\v=e.key) acc es.size):acc.toList=es.toList.map (·.key):=by
 refine bV λi=> ?_
 rw [M9,P7,M9];cases e:acc[i]? with
 |some v=>
  obtain⟨x,hx,rfl⟩:=it.2 i v e;rw [hx];rfl
 |none=>
  have:es.size<=i:=by rw [<-it.1];exact A8.mp e
  rw [A8.mpr this];rfl
def Mp (s:G3)(es:S5 dS)(r:n6)(s':G3):Prop:= ∃h' tk acc c,r= .ok (.ret (.ref s.heap.objs.size))/\s'= {s with heap:=h',toks:=tk}/\(∀b o,s.heap.get? b=some o->h'.get? b=some o)/\h'.get? s.heap.objs.size=some {cls:= .type "list",dict:=none,data:= .seq acc c,slots:= #[]}/\acc.toList=es.toList.map (·.key)
def WT {R:G0 G2->G3->Prop}(calm:A.handled=none)(lo:(d==W7)=false)(sm:es.size<=sizeLine)(hd:s.heap.get? d=some (DOb es ep sl))
 (q: ∀ (h':L8) (tk:G8),(∀b o,s.heap.get? b=some o->h'.get? b=some o)->R (es.toList.map (·.key)) {s with heap:=h',toks:=tk}):D8 (R3 prog w) A (collect (.ref d)) R E s:=by
 have dl:=D0 hd;unfold collect;refine wpAny_bind (uE (iJ (R:=Mp s es) (Y6 nN ?_) λr s' x=> ?_))
 ·wp_walk
  refine⟨e9 gG _,Y6 qR ?_⟩;rw [aB gG];have hS:(s.heap.push {cls:= .type "list",data:= .seq #[]}).get? s.heap.objs.size=some {cls:= .type "list",data:= .seq #[]}:=R0 _ rfl;show D8 _ A.in1 (iO (.ref s.heap.objs.size) (.ref d) (.ref s.heap.objs.size)) _ _ _;refine G0p (R:=Mp s es) (s:= {s with heap:=s.heap.push {cls:= .type "list",data:= .seq #[]}}) (Bx (es:=es) (ep:=ep) (sl:=sl) lo) calm (G6 _ hd) _ (Q2 dl) (Q2 dl) _ 0 hS (λh' tk acc c k lies items=> ?_) sm;exact⟨h',tk,acc,c,rfl,rfl,λb o e=>k b o (S8 (D0 e)) (G6 _ e),lies,By items⟩
 ·obtain⟨h',tk,acc,c,rfl,rfl,k,lies,e⟩:=x;refine wpAny_bind (tM lies (G9 ?_));rw [e];exact q h' tk k
end
end HT
namespace L2
open PySem PySem.Spec PyProof.Rows HT PySem.SeqAt
variable {X:Cx}
def Bz {À:G0 (P3×Obj)}{σ:St}{H:Hp}{s:G3}{a:P3}{ep:G8}{xs:KT2}(I:Inv X À σ H s)(hH:H a=some (WI a ep xs)):(a==W7)=false/\ ∃ (sl:S5 (P9 G2)) (es:S5 dS),s.heap.get? a=some (DOb es ep sl)/\es.toList.map (·.key)=xs.map (λx=>A6 x.2.1)/\es.size=xs.length:=by
 obtain⟨lo,sl,es,ys,hd,pr,he,hn⟩:=Zc I hH;refine⟨lo,sl,es,hd,?_,hn⟩;rw [he,M7];have go: ∀ {xs:KT2} {ys:G0 (G0 (G0 P4)×P3×G2)},Paired vR xs ys->ys.map ((·.key)∘λx:G0 (G0 P4)×P3×G2=>(⟨YH x.1,.ref x.2.1,x.2.2⟩:dS))=xs.map (λx=>A6 x.2.1):=λp=>by
  induction p with
  |nil=>rfl
  |cons r _ ih=>rw [M0,M0,ih,r.2.1];rfl
 exact go pr
def Vn {k:G8}(hc:X.calm=true)(hr:Û k X.A):Ú X (.builtin "sorted") (λxs H Q=> ∃ (a:P3) (ep:G8) (ks:KT2),xs= [.ref a]/\H a=some (WI a ep ks)/\(∀x∈ks,WJ H x.1 x.2.1/\x.1≠ [])/\(ks.map (·.1)).Nodup/\ks.length<1000/\
 ∀ (q:P3) (qs:G0 XN),H q=none->qs.Perm (ks.map λx=>(x.2.1,x.1))->(qs.map (·.2)).Pairwise (λx y=>jR x y=true)->Q (.ref q) (upd H q (.lst (qs.map λp=>V.ref p.1)))):=by
 intro À s σ H xs us Q I r h;obtain⟨a,ep,ks,rfl,hH,ht,nd,few,q⟩:=h;obtain⟨u,rfl,ru⟩:=vH r;cases ru;have hu:X.A.in1.in1.units+16<cLine:=by
  have:=hr.un;show X.A.units+1+1+16<cLine;omega
 obtain⟨lo,sl,es,hd,ek,en⟩:=Bz I hH;have sm:es.size<=sizeLine:=by rw [en];exact R1 (T8 few) (by decide)
 refine Calls.call_function_entry IP xT xU (xV _) (wpAny_bind (G9 (wpAny_bind (WT (I.ok.hd hc) lo sm hd λh1 tk kept=> ?_))));rw [ek];have em:ks.map (λx=>A6 x.2.1)=(ks.map λx=>((x.2.1,x.1):XN)).map λp=>A6 p.1:=by rw [M7];rfl
 rw [em];have IB1: ∀p∈ks.map λx=>((x.2.1,x.1):XN),IB X.prog X.w s.heap (.ref p.1) p.2:=λp hp=>by
  obtain⟨x,hx,rfl⟩:=R7.mp hp;exact⟨_,rfl,yS I _ _ (ht x hx).1,(ht x hx).2⟩
 have lz:((ks.map λx=>((x.2.1,x.1):XN)).map λp=>A6 p.1).length<=sizeLine:=by rw [G1,G1];omega
 have nd2:((ks.map λx=>((x.2.1,x.1):XN)).map (·.2)).Nodup:=by rw [M7];exact nd
 revert IB1 lz q nd2;generalize (ks.map λx=>((x.2.1,x.1):XN))=ps;intro q IB1 lz nd2;have fresh:(h1.push (gI "list" (ps.map λp=>A6 p.1).toArray 0)).get? h1.objs.size=some (gI "list" (ps.map λp=>A6 p.1).toArray 0):=R0 _ rfl;have kp: ∀h',Ce {s with heap:=h1.push (gI "list" (ps.map λp=>A6 p.1).toArray 0),toks:=tk} h1.objs.size h'->WO h1 h':=λh' p b x e=>p b x (S8 (D0 e)) (G6 _ e)
 have ks': ∀h',Ce {s with heap:=h1.push (gI "list" (ps.map λp=>A6 p.1).toArray 0),toks:=tk} h1.objs.size h'->WO s.heap h':=λh' p b x e=>kp h' p b x (kept b x e)
 have it: ∀v∈ps.map λp=>A6 p.1,∃T,IB X.prog X.w s.heap v T:=λv hv=>by
  obtain⟨p,hp,rfl⟩:=R7.mp hv;exact⟨_,IB1 p hp⟩
 refine wpAny_bind (pL (wpAny_bind (O5 (C7 uF ⟨_,fresh,rfl⟩ sV (QZ (s:= {s with heap:=h1.push (gI "list" (ps.map λp=>A6 p.1).toArray 0),toks:=tk}) (κ:=xX false) (U:=λx=> ∃T,IB X.prog X.w s.heap x.1 T) (R:=λx y=>jR (WS X.prog X.w s.heap x.1) (WS X.prog X.w s.heap y.1)) fresh lz
  (λh2 h' p=>Gp (s:= {s with heap:=h',toks:=tk}) h2 (λv hv=>(it v hv).imp λT z=>z.keeps (ks' h' p)) ⟨rfl,tk,rfl⟩) (λh' p=>Gr hu (ks' h' p)) (Mj _) it λout c tk' h' p e1 e2 e3=>⟨_,rfl,?_⟩) (uG _)))) lz)
 obtain⟨zs,pz,rfl⟩:=Wo e2;have inz: ∀z∈zs,z∈ps:=λz hz=>pz.mem_iff.mp hz
 have I1:Inv X À σ H {s with heap:=h1}:=I.kept (t':=s.toks) kept;have vv: ∀l:G0 XN,Æ (l.map λp=>V.ref p.1) (l.map λp=>A6 p.1):=λl=>by
  induction l with
  |nil=>exact .nil
  |cons z l ih=>exact .cons rfl ih
 refine G9 ⟨_,rfl,.ref _,_,I1.laid (t':=tk') (o:= .lst (zs.map λp=>V.ref p.1)) (kp h' p) (P2 _) ⟨?_,_,c,vv zs,e1⟩,rfl,q _ zs (I1.hok.fresh (P2 _)) pz ?_⟩
 ·rw [G1] at lz ⊢;rw [pz.length_eq];exact lz
 ·have nd3:(zs.map (·.2)).Nodup:=(pz.map (·.2)).nodup_iff.mpr nd2;unfold mW at nd3;rw [Q6,Q6] at e3;rw [Q6] at nd3 ⊢;refine(e3.and nd3).imp_of_mem λ{y z} hy hz ⟨e,ne⟩=> ?_
  dsimp only at e;rw [(IB1 y (inz y hy)).told,(IB1 z (inz z hz)).told] at e;rcases ZL y.2 z.2 with w|w|w
  ·exact absurd w ne
  ·exact w
  ·rw [w] at e;cases e
def BA:RDn:=λds h Q=> ∃ (a:P3) (ep:G8) (kv:G0 (G0 (G0 P4)×D)),ds= [.dct a]/\h.dc a=some (.tk ep kv)/\kv.length<1000/\(∀p∈kv,p.1≠ [])/\ ∀ (q:P3) (ks:G0 (G0 (G0 P4))),h q=none->ks.Perm (kv.map (·.1))->ks.Pairwise (λx y=>jR x y=true)->Q (.lst q) (zm h q (ks.map jj))
def Wt {k:G8}(hc:X.calm=true)(hr:Û k X.A):yh X (.builtin "sorted") BA:=(Vn hc hr).imp λxs H Q ⟨ds,h,Qd,r,rh,⟨a,ep,kv,e,hd,few,ne,q⟩,p⟩=>by
 subst e;obtain⟨v,e,r1⟩:=jA r;cases (show v= .ref a from r1);subst e;obtain⟨ks,hH,nd,ek,tv,rv⟩:=(show ∃xs:KT2,_ from rh.dc a _ hd);have len:ks.length=kv.length:=by have:=congrArg aA ek;rw [G1,G1] at this;omega
 refine⟨a,ep,ks,rfl,hH,λx hx=>⟨tab_of (tv x hx),?_⟩,by rw [<-ek];exact nd,by omega,λc qs hcn pm srt=> ?_⟩
 ·have hm:x.1∈kv.map (·.1):=by rw [ek];exact J6 (f:=(·.1)) hx
  obtain⟨p,hp,e⟩:=R7.mp hm;rw [<-e];exact ne p hp
 ·have rq: ∀x∈qs,È X.K H (jj x.2) (.ref x.1):=λx hx=>by
   obtain⟨y,hy,rfl⟩:=R7.mp (pm.mem_iff.mp hx);exact tv y hy
  refine p (.lst c) _ _ _ (.new hcn) (rh.newL hcn (Vm rq)) ⟨rfl,_,jt⟩ (q c (qs.map (·.2)) (rh.free hcn) ?_ srt);rw [ek];have:=pm.map (·.2)
  rwa [M7] at this
def ltE:RD2:=λx y h Q=> ∃p q,Ĩ h x p/\Ĩ h y q/\p.canLay0=true/\q.canLay0=true/\alk p q=true/\p.depth<=60/\Q (.bl (ltP p q)) h
def EJ (hu:X.A.units+64<cLine):ù X (H0 .Lt) ltE:=by
 intro À s σ H x y v u Q I rx ry h;obtain⟨dx,dy,h,Qd,r1,r2,rh,⟨p,q,t1,t2,c1,c2,al,dp,qq⟩,post⟩:=h;obtain⟨as,a1⟩:=zF I rh t1 r1 rx;obtain⟨bs,b1⟩:=zF I rh t2 r2 ry;exact(Vd p q X.A s v u as bs a1 b1 c1 c2 al (by omega) X.prog X.w _ _ ⟨.bl _,H,I,rfl,post (.bl _) _ _ _ (.refl H) rh rfl qq⟩:D8 (R3 X.prog X.w) X.A (lI .Lt v u) (EP X À σ Q) X.xe s)
end L2
namespace My
open PySem L2
noncomputable def þ (i:G8):K9:=PySem.Challenge.pw_firstpowers_k71_fences_of_tables.main.body.getD i (.Pass ⟨0,0,0,0⟩)
noncomputable abbrev Ze:K9:=þ 8
def XW:Ã ["thing"] ["thing"] (je Ze):=ċ
noncomputable abbrev XX:K9:=þ 9
def Gw:Ã ["row","one","other"] ["row"] (je XX):=ċ
noncomputable abbrev wQ:K9:=þ 10
def yT:Ã ["thing","size","number"] ["thing","size"] (je wQ):=ċ
noncomputable abbrev zY:K9:=þ 11
def ya:Ã ["thing","row"] ["thing"] (je zY):=ċ
noncomputable abbrev yU:K9:=þ 12
def Vo:Ã ["thing"] ["thing"] (je yU):=ċ
noncomputable abbrev yn:K9:=þ 13
def vF:Ã ["thing","at","each"] ["thing"] (je yn):=ċ
noncomputable abbrev yV:K9:=þ 15
def zJ:Ã ["one","other","size","row","place","by"] ["one","other"] (je yV):=ċ
noncomputable abbrev Mq:K9:=þ 17
def MK:Ã ["table","row","number"] ["table"] (je Mq):=ċ
noncomputable abbrev XY:K9:=þ 18
def Vp:Ã ["table","row","number"] ["table"] (je XY):=ċ
noncomputable abbrev yo:K9:=þ 20
def WU:Ã ["ahead","table"] ["ahead","table"] (je yo):=ċ
noncomputable abbrev zZ:K9:=þ 22
def jy:Ã ["tables","ways","nexts","fresh","later","way","each","at","table","behind"] ["tables"] (je zZ):=ċ
noncomputable abbrev Wu:K9:=þ 24
def Ph:Ã ["thing","size"] ["thing","size"] (je Wu):=ċ
noncomputable abbrev yp:K9:=þ 25
def zc:Ã ["tables","thing","posts","each","table"] ["tables","thing"] (je yp):=ċ
noncomputable abbrev Zf:K9:=þ 26
def Ja:Ã ["tables","ways","nexts","each"] ["tables"] (je Zf):=ċ
noncomputable abbrev vS:K9:=þ 28
def UC:Ã ["_law_script","_law_k"] ["_law_script","_law_k"] (je vS):=ċ
noncomputable abbrev Zg:K9:=þ 29
def Wv:Ã ["_law_cell_here","_law_left"] ["_law_cell_here"] (je Zg):=ċ
noncomputable abbrev vT:K9:=þ 30
def wH:Ã ["_law_pen_here","_law_many_here","_law_left","_law_found","_law_stir"] ["_law_pen_here","_law_many_here"] (je vT):=ċ
noncomputable abbrev yW:K9:=þ 31
def Vq:Ã ["_law_thing"] ["_law_thing"] (je yW):=ċ
noncomputable abbrev Zh:K9:=þ 32
def Ww:Ã ["_law_pen_here","_law_some"] ["_law_pen_here"] (je Zh):=ċ
noncomputable abbrev vU:K9:=þ 33
def UD:Ã ["_law_found","_law_due"] ["_law_found","_law_due"] (je vU):=ċ
noncomputable abbrev yX:K9:=þ 34
def jE:Ã ["_law_pen_here","_law_size","_law_way","_law_often","_law_most","_law_rows","_law_one","_law_row","_law_other","_law_goes"] ["_law_pen_here","_law_size"] (je yX):=ċ
noncomputable abbrev yY:K9:=þ 35
def yq:Ã ["_law_pen_here","_law_many_here","_law_found","_law_what"] ["_law_pen_here","_law_many_here"] (je yY):=ċ
noncomputable abbrev yZ:K9:=þ 36
def zk:Ã ["_law_one","_law_other","_law_size","_law_rows","_law_row","_law_place","_law_k"] ["_law_one","_law_other"] (je yZ):=ċ
noncomputable abbrev yr:K9:=þ 37
def wR:Ã ["_law_table_here","_law_row","_law_number"] ["_law_table_here"] (je yr):=ċ
noncomputable abbrev yt:K9:=þ 38
def vE:Ã ["_law_table_here","_law_row"] ["_law_table_here"] (je yt):=ċ
noncomputable abbrev ww:K9:=þ 39
def wa:Ã ["_law_thing","_law_row","_law_number"] ["_law_thing"] (je ww):=ċ
noncomputable abbrev zP:K9:=þ 40
def jz:Ã ["_law_pen_here","_law_size","_law_order_here","_law_often","_law_rows","_law_at","_law_here","_law_there","_law_one","_law_other","_law_row"] ["_law_pen_here","_law_size"] (je zP):=ċ
noncomputable abbrev vV:K9:=þ 41
def jH:Ã ["_law_pen_here","_law_size","_law_many_here","_law_found","_law_turn","_law_table_here","_law_way","_law_place","_law_row"] ["_law_pen_here"] (je vV):=ċ
noncomputable abbrev Zi:K9:=þ 42
def vW:Ã ["_law_here","_law_tables","_law_way","_law_at"] ["_law_here","_law_tables","_law_way"] (je Zi):=ċ
noncomputable abbrev va:K9:=þ 43
def jG:Ã ["_law_tables","_law_found","_law_rows","_law_later","_law_way","_law_here","_law_at"] ["_law_tables"] (je va):=ċ
noncomputable abbrev wx:K9:=þ 44
def jY:Ã ["_law_tables","_law_thing","_law_size","_law_one","_law_table_here"] ["_law_tables","_law_thing"] (je wx):=ċ
noncomputable abbrev vX:K9:=þ 45
def zB:Ã ["_law_pen_here","_law_fence","_law_size","_law_at","_law_one","_law_off","_law_here","_law_rows"] ["_law_pen_here","_law_fence","_law_size"] (je vX):=ċ
noncomputable abbrev vb:K9:=þ 46
def jD:Ã ["_law_pen_here","_law_tables","_law_size","_law_found","_law_due","_law_things","_law_thing","_law_one","_law_turn"] ["_law_pen_here","_law_tables"] (je vb):=ċ
noncomputable abbrev Pi:K9:=þ 47
def Gs:Ã ["_law_script","_law_cell_here","_law_pen_here","_law_tables"] ["_law_script"] (je Pi):=ċ
section
variable {P:S6}{w:B3}{K:G7}{mg:Str->P9 G2}{base:L8}
/-- no def is asked of Ŝ script's list: a X0o -/
noncomputable def Mr:D->N0
 | .int _=>true
 |_=>false
/-- a row of so many numbers from 0 on -/
noncomputable def MQ:D->N0
 | .int i=>decide (0<=i)
 |_=>false
noncomputable def UE (d:D)(k:P4):N0:=match d with
 | .tup ds=>decide ((ds.length:P4)=k)&&ds.all MQ
 |_=>false
/-! every part has a kind X1s is told,and no tuple is long -/
mutual
def okD:D->N0
 | .scr _=>false| .exc _=>false| .fn _=>false| .dct _=>false
 | .tup ds=>decide (ds.length<=1000)&&Ů ds
 |_=>true
def Ů:G0 D->N0
 | []=>true
 |d::ds=>okD d&&Ů ds
end
theorem Vr: ∀ {ds:G0 D},Ů ds=true-> ∀d∈ds,okD d=true
 |d::ds,h,x,hx=>by
  have h':(okD d&&Ů ds)=true:=h;rw [N9] at h';rcases S0.mp hx with e|e
  ·subst e;exact h'.1
  ·exact Vr h'.2 x e
theorem Ms: ∀ {ds:G0 D},(∀d∈ds,okD d=true)->Ů ds=true
 | [],_=>rfl
 |d::ds,h=>by
  show (okD d&&Ů ds)=true;rw [h d D3,Ms λx hx=>h x (S1 _ hx)];rfl
def Zj {ds:G0 D}(h:okD (.tup ds)=true):ds.length<=1000/\ ∀d∈ds,okD d=true:=by
 have h':(decide (ds.length<=1000)&&Ů ds)=true:=h;rw [N9] at h';exact⟨A7 h'.1,Vr h'.2⟩
def Gt {ds:G0 D}(h:ds.length<=1000)(h2: ∀d∈ds,okD d=true):okD (.tup ds)=true:=by
 show (decide (ds.length<=1000)&&Ů ds)=true;rw [M1 h,Ms h2];rfl
variable {d:D}
def wG (h:okD d=true): ∃n,VR d=some n:=by
 cases d<;>first|exact⟨_,rfl⟩|cases h
/-- a table -/
noncomputable def UF:D->N0
 | .tup rs=>decide (1<=rs.length)&&decide (rs.length<=6)&&rs.all λr=>UE r rs.length
 |_=>false
def yu:RDn:=λds h Q=> ∃d n,ds= [d]/\VR d=some n/\Q (.bl (Mr d)) h
variable {n:G8}{f:P3}{fd:C3}
def XZ (Z:Zs mg)(F:ò K "is_whole" "is_whole" Ze f fd):Î P w K mg base ì (n+1) f fd ["thing"] (ó K yu):=by
 refine F.okM XW (λhr=>(ze (zX (MO (ZZ (T:= "int") (by decide) rfl Z.isinstance rfl Z.int (by decide +kernel) (jv 0)) (MN (Tu (ZZ (T:= "bool") (by decide) rfl Z.isinstance rfl Z.bool (by decide +kernel) (jv 0)))))))) ?_;rintro ds h Q ⟨d,nm,rfl,hn,q⟩;refine⟨rfl,?_⟩;simp only [Xj,Dl,dIs,Pw,wn,M0,aU,D2,N8,U5,O6,E1,V5,D.bl.injEq,Dm,Xk,Y7,hn];cases d<;>cases hn<;>exact⟨h,Sub.refl h,q⟩
variable {h:HD}{Q:KD}
def EK {x y:G0 (G0 P4)}(q:Q (.bl (jR x y)) h):ltE (jj x) (jj y) h Q:=⟨wz x,wz y,yN h x,yN h y,Ā.lay x,Ā.lay y,Ur x y,Ā.dp x,by rw [Lj];exact q⟩
noncomputable def Gu (Ps:G0 (G0 (G0 P4))):N0:=(Ps.zip (Ps.drop 1)).all λp=>jR p.1 p.2
def BB (S:G0 (G0 (G0 P4))):BY (S.map jj) (vy (S.map jj) (some 1) none)=(S.zip (S.drop 1)).map λp=>D.tup [jj p.1,jj p.2]:=by
 rw [Rh];unfold BY;rw [<-lU,List.zip_map,M7];rfl
def Gv:RDn:=λds h Q=> ∃S:G0 (G0 (G0 P4)),ds= [.tup (S.map jj)]/\S.length<=1000/\Q (.bl (Gu S)) h
def BC (Z:Zs mg)(F:ò K "rises" "rises" XX f fd):Î P w K mg base ì (n+1) f fd ["row"] (ó K Gv):=by
 refine F.okM Gw (λhr=>(ze (zX (zl (Jk rfl) rfl Z.all J5 (j1 (HL (i:=1) (j:=2) (js:= [1,2]) rfl (zb (by rfl)) (Ej rfl Z.zip (j2 (jv 0) (yG (jv 0) (zN jF) wt))) (by decide) (by decide) (by decide) Gw.nd rfl rfl (by first|exact V0 rfl|exact Z0 rfl) (by first|exact V0 rfl|exact Z0 rfl) (λX' hX=>wq) (λX' hX=>by obtain⟨C,s₀,H₀,ex,rfl⟩:=hX;exact(ŭ (EJ hr.units) (jv 1) (jv 2))))))))) ?_;rintro ds h Q ⟨S,rfl,hl,q⟩;refine⟨rfl,?_⟩;refine TJ (j:=λ_=>some (BY (S.map jj) (vy (S.map jj) (some 1) none))) (S.zip (S.drop 1)) (λp=>jj p.1) (λp=>jj p.2) (λp=>jR p.1 p.2) (by rw [sN];omega) (congrArg some (BB S)) (λR r=>⟨_,rfl,_,rfl,_,rfl,_,_,rfl,r⟩) (λp hp Q' q'=>⟨_,rfl,_,rfl,EK q'⟩) ⟨h,Sub.refl h,q⟩
def vc:RDn:=λds h Q=> ∃d k,ds= [d,.int k]/\okD d=true/\Q (.bl (UE d k)) h
def Wx (Z:Zs mg)(F:ò K "is_table_row" "is_table_row" wQ f fd)(Pp:ju P w K mg base n "is_whole" ["thing"] yu):Î P w K mg base ì (n+1) f fd ["thing","size"] (ó K vc):=by
 refine F.okM yT (λhr=>(Ų (Za (jpt (Px (wo (wA (ZZ (T:= "tuple") (by decide) rfl Z.isinstance rfl Z.tuple (by decide +kernel) (jv 0)))) (Nw (ř Ķ (WQ Z (jv 0)) (jv 1))))) (zX ĸ)) (zX (zl (Jk rfl) rfl Z.all J5 (j1 (ī 2 yT (jP (jv 0)) (λ_ _ _ _=>(MO (jk Pp hr (j1 (jv 2))) (MN (ŭ Nn (jv 2) jF)))))))))) ?_;rintro ds h Q ⟨d,k,rfl,ok,q⟩;refine⟨rfl,?_⟩;obtain⟨nm,hn⟩:=wG ok;simp only [yc,Dp,Fl,VO,vp,dIs,Pw,wn,M0,aU,D2,N8,T4,U5,O6,E1,V5,D.bl.injEq,Xj,dC,Xk,WK,ĝ,zj,JM,Ņ,BT,W5,neD,Y7,hn];cases d with
 |tup es=>
  cases hn;obtain⟨hl,ht⟩:=Zj ok;simp only [FI]
  by_cases hk:(es.length:P4)=k
  ·simp only [hk];simp;refine Xm (ds:=es) (h1:=h) (j:=λ_=>some es) (λx=> .bl (MQ x)) (T8 (jV hl)) rfl (λR r=>⟨.tup es,rfl,r⟩) (λd hd Q' q'=> ?_) (λp hp=> ?_)
   ·obtain⟨nn,hnn⟩:=wG (ht d hd);refine⟨d,rfl,d,nn,rfl,hnn,Mr d,rfl,?_⟩;cases d with
    |int i=>exact vt ⟨.int i,rfl,q'⟩
    |_=>exact yF q'
   ·refine⟨p,es.map MQ,rfl,by rw [jc];simp,h,?_,?_⟩
    ·rw [zf hp];exact Sub.refl h
    ·simpa [UE,hk,aV,c9] using q
  ·simp [hk];exact⟨h,Sub.refl h,by simpa [UE,hk] using q⟩
 |_=>cases hn<;>exact⟨h,Sub.refl h,q⟩
def jJ:RDn:=λds h Q=> ∃d,ds= [d]/\okD d=true/\Q (.bl (UF d)) h
def Zk (Z:Zs mg)(F:ò K "has_table_form" "has_table_form" zY f fd)(Ya:ju P w K mg base n "is_table_row" ["thing","size"] vc)(vZ: ∃tk,mg "MOST_ROWS" =some (.int 6 tk)):Î P w K mg base ì (n+1) f fd ["thing"] (ó K jJ):=by
 obtain⟨tk_MOST_ROWS,ů⟩:=vZ;refine F.okM ya (λhr=>(Ų (Za (jpt (Px (wo (wA (ZZ (T:= "tuple") (by decide) rfl Z.isinstance rfl Z.tuple (by decide +kernel) (jv 0)))) (Nw (wo (Xq GH GH jF (WQ Z (jv 0)) (FP rfl ů)))))) (zX ĸ)) (zX (zl (Jk rfl) rfl Z.all J5 (j1 (ī 1 ya (jP (jv 0)) (λ_ _ _ _=>(jk Ya hr (j2 (jv 1) (WQ Z (jv 0))))))))))) ?_;rintro ds h Q ⟨d,rfl,ok,q⟩;refine⟨rfl,?_⟩;obtain⟨nm,hn⟩:=wG ok;simp only [yc,Dp,Fl,VO,vp,dIs,Pw,wn,M0,aU,D2,N8,T4,U5,O6,E1,V5,D.bl.injEq,Xj,dC,Xk,WK,ĝ,zj,JM,Yi,BT,Nm,Y7,hn];cases d with
 |tup es=>
  cases hn;obtain⟨hl,ht⟩:=Zj ok;simp only [FI]
  by_cases h1:1<=es.length
  ·by_cases h6:es.length<=6
   ·have Ź:(1:P4)<=es.length:=by omega
    have h6':(es.length:P4)<=6:=by omega
    simp [Ź,h6'];refine Xm (ds:=es) (h1:=h) (j:=λ_=>some es) (λx=> .bl (UE x es.length)) (T8 (jV hl)) rfl (λR r=>⟨.tup es,rfl,r⟩) (λd hd Q' q'=> ?_) (λp hp=> ?_)
    ·exact⟨d,rfl,.tup es,rfl,d,es.length,rfl,ht d hd,q'⟩
    ·refine⟨p,es.map λx=>UE x es.length,rfl,by rw [jc];simp,h,?_,?_⟩
     ·rw [zf hp];exact Sub.refl h
     ·simpa [UF,h1,h6,aV,c9] using q
   ·have Ź:(1:P4)<=es.length:=by omega
    have h6': ¬ (es.length:P4)<=6:=by omega
    simp [Ź,h6'];exact⟨h,Sub.refl h,by simpa [UF,h1,h6] using q⟩
  ·have Ź: ¬ (1:P4)<=es.length:=by omega
   simp [Ź];exact⟨h,Sub.refl h,by simpa [UF,h1] using q⟩
 |_=>cases hn<;>exact⟨h,Sub.refl h,q⟩
def LP {x:P4}(h:0<=x):MQ (.int x)=true:=M1 h
variable {T:G0 (G0 P4)}
def LQ {e:G8}(h:Sq n e T){r:G0 P4}(hr:r∈T):UE (zM r) n=true:=by
 simp only [UE,zM,G1,h.row r hr,IN,K3,aV,B0,cA];intro x hx;exact LP (h.nn r hr x hx)
def Mt {e:G8}(h:Sq n e T)(h1:1<=n)(h6:n<=6):UF (jj T)=true:=by
 simp only [UF,jj,G1,h.len,M1 h1,M1 h6,K3,aV,B0,cA];intro r hr;exact LQ h hr
def Cu {e:G8}(h:Sq n e T)(h6:n<=6):okD (jj T)=true:=
 Gt (by rw [G1,h.len];omega) λd hd=>by
  obtain⟨r,hr,rfl⟩:=R7.mp hd;exact Gt (by rw [G1,h.row r hr];omega) λd hd=>by obtain⟨x,_,rfl⟩:=R7.mp hd;rfl
def yw:RDn:=λds h Q=> ∃T,∃n e:G8,ds= [jj T]/\Sq n e T/\1<=n/\n<=6/\Q .non h
def Vs (Z:Zs mg)(F:ò K "want_table" "want_table" yU f fd)(jZ:ju P w K mg base n "has_table_form" ["thing"] jJ):Î P w K mg base ì (n+1) f fd ["thing"] (ó K yw):=by
 refine F.okM Vo (λhr=>(ze (Za (wo (wA (jk jZ hr (j1 (jv 0))))) DK))) ?_;rintro ds h Q ⟨T,k,b,rfl,hT,h1,h6,q⟩;refine⟨rfl,?_⟩;refine⟨_,rfl,jj T,rfl,Cu hT h6,_,rfl,?_⟩;rw [Mt hT h1 h6];exact yF ⟨h,Sub.refl h,q⟩
def wS:RDn:=λds h Q=> ∃A Ts,∃n:G8,ds= [.lst A]/\h A=some (Ts.map jj)/\å n Ts/\Q .non h
def WV (Z:Zs mg)(F:ò K "want_tables" "want_tables" yn f fd)(jZ:ju P w K mg base n "has_table_form" ["thing"] jJ)(yC: ∃tk,mg "MOST_TABLES" =some (.int 3 tk))(zd: ∃tk,mg "MOST_ROWS_OF_SEVERAL" =some (.int 3 tk)):Î P w K mg base ì (n+1) f fd ["thing"] (ó K wS):=by
 obtain⟨tk_MOST_TABLES,Ŋ⟩:=yC;obtain⟨tk_MOST_ROWS_OF_SEVERAL,ý⟩:=zd;refine F.okM vF (λhr=>(Ų (Za (jpt (Px (wo (wA (ZZ (T:= "list") (by decide) rfl Z.isinstance rfl Z.list (by decide +kernel) (jv 0)))) (Nw (wo (Xq GH GH jF (WQ Z (jv 0)) (FP rfl Ŋ)))))) DK) (Xr O8 rfl (YU rfl Z.enumerate (j1 (jv 0))) (QC (i:=1) (j:=2) rfl vF.nd rfl rfl (V0 rfl) (V0 rfl)) (ze (Za (jpt (Px (wo (wA (jk jZ hr (j1 (jv 2))))) (Px (ř FG (WQ Z (jv 2)) (FP rfl ý)) (Nw (ř Ķ (WQ Z (jv 2)) (WQ Z (Ă (jv 0) jF))))))) DK))))) ?_;rintro ds h Q ⟨A,Ts,n,rfl,kA,hT,q⟩;refine⟨rfl,?_⟩;have hlen:(((Ts.map jj).length:G8):P4)=(Ts.length:P4):=by rw [G1]
 have l1:=hT.l1;have l3:=hT.l3;refine vC [some (.lst A),none,none] (λC hC=> ?_) ?_
 ·refine⟨_,rfl,"list",rfl,_,rfl,yF ⟨_,rfl,_,kA,_,rfl,?_⟩⟩;rw [hlen];have e1:decide ((1:P4)<=(Ts.length:P4))=true:=M1 (by omega);have e2:decide ((Ts.length:P4)<=3)=true:=M1 (by omega);show if decide ((1:P4)<=(Ts.length:P4))=true then _ else _
  rw [e1];refine vt ⟨_,rfl,?_⟩;show if (!decide ((Ts.length:P4)<=3))=true then _ else _
  rw [e2];exact yF (hC)
 refine wE (h1:=h) (j:=λh=>(h A).map Ub) (Ub (Ts.map jj)) (λi Â h'=> ∃a b,Â= [some (.lst A),a,b]/\h=h') (λR r=>⟨_,rfl,A,rfl,r⟩) (λi Â h' ⟨_,_,_,e⟩=>by rw [<-e];show (h A).map Ub=_;rw [kA];rfl) ⟨none,none,rfl,rfl⟩ (λÂ h' ⟨_,_,_,e⟩=>⟨h,e ▸ Sub.refl h,q⟩) ?_;rintro i d _ _ hd ⟨a,b,rfl,rfl⟩;obtain⟨x,hx,rfl⟩:=YR hd;have Œ:i+1<=(Ub (Ts.map jj)).length:=(P5.mp hd).1;obtain⟨T,hTm,rfl⟩:=R7.mp (P6 hx);have sT:=hT.sq T hTm;have s0:=hT.get (i:=0) (by omega);have n1:=hT.n1;have n3:=hT.n3;have e0:=JR hT (i:=0) (by omega);refine⟨_,_,rfl,_,rfl,jj T,rfl,Cu sT (by omega),?_⟩;rw [Mt sT n1 (by omega)];refine⟨_,rfl,yF ⟨_,rfl,_,rfl,?_⟩⟩;have g1:decide ((((T.map zM).length:G8):P4)>3)=false:=B7 (by rw [G1,sT.len];omega);show if decide ((((T.map zM).length:G8):P4)>3)=true then _ else _
 rw [g1];refine yF ⟨_,rfl,_,rfl,_,_,kA,e0,_,rfl,?_⟩;have g2:(!decide ((((T.map zM).length:G8):P4)=((((Ts.getD 0 []).map zM).length:G8):P4)))=false:=by rw [G1,G1,sT.len,s0.len];simp
 show if (!decide ((((T.map zM).length:G8):P4)=((((Ts.getD 0 []).map zM).length:G8):P4)))=true then _ else _
 rw [g2];exact yF ⟨_,Sub.refl _,Œ,_,_,rfl,rfl⟩
def Jx:RDn:=λds h Q=> ∃T U,∃n e f:G8,ds= [jj T,jj U]/\Sq n e T/\Sq n f U/\e+f<=1000000/\n<=6/\Q (jj (ZA n T U)) h
def Vt (Z:Zs mg)(F:ò K "multiplied" "multiplied" yV f fd):Î P w K mg base ì (n+1) f fd ["one","other"] (ó K Jx):=by
 refine F.okM zJ (λhr=>(Ų (ñ 2 zJ (WQ Z (jv 0))) (zX (jC zg rfl Z.tuple (by decide +kernel) (j1 (ī 3 zJ (jP (jv 0)) (λ_ _ _ _=>(jC zg rfl Z.tuple (by decide +kernel) (j1 (ī 4 zJ (Ż Z (jv 2)) (λ_ _ _ _=>(zl (DH rfl) rfl Z.sum (by decide +kernel) (j1 (ī 5 zJ (Ż Z (jv 2)) (λ_ _ _ _=>(æ DN (Ă (jv 3) (jv 5)) (Ă (Ă (jv 1) (jv 5)) (jv 4)))))))))))))))))) ?_;rintro ds h Q ⟨T,U,k,b,f,rfl,hT,hU,hb,h6,q⟩;refine⟨rfl,?_⟩;refine jg (λÂ h'=>Â= [some (jj T),some (jj U),some (.int (k:P4)),none,none,none]/\h=h') (λC hC=>⟨_,rfl,hC _ _ ⟨by rw [G1,hT.len];rfl,rfl⟩⟩) ?_;rintro _ _ ⟨rfl,rfl⟩;refine MP T zM (λr=> .tup ((D6 k).map λj=> .int (jX k λm=>r.getD m 0*á U m j))) (by rw [hT.len];omega) rfl (λR r=>⟨_,rfl,r⟩) (λr hr Q' q'=> ?_) ⟨h,Sub.refl h,?_⟩
 ·refine MP (D6 k) (λj=> .int (j:P4)) (λj=> .int (jX k λm=>r.getD m 0*á U m j)) (by rw [S9];omega) rfl (λR rr=>⟨_,rfl,(k:P4),rfl,by omega,by omega,rr⟩) (λj hj Q'' q''=> ?_) q';refine HP (D6 k) (λm=> .int (m:P4)) (λm=>r.getD m 0*á U m j) (by rw [S9];omega) rfl (λR rr=>⟨_,rfl,(k:P4),rfl,by omega,by omega,rr⟩) (λm hm Q3 q3=> ?_) q'';have Ρ:=S4.mp hm;have hj':=S4.mp hj;refine⟨_,rfl,_,rfl,_,Wc (hT.row r hr) Ρ,_,rfl,_,rfl,_,DO hU Ρ,_,rfl,_,Wc (hU.row _ (Sq.getRow hU Ρ)) hj',?_,q3⟩;refine QF (e:=b) (f:=f) ?_ (hU.ent_nn Ρ hj') (by omega);have hm2:m<r.length:=by rw [hT.row r hr];exact Ρ
  have e1:r.getD m 0=r[m]:=by rw [R4,G5 hm2];rfl
  rw [e1];exact⟨hT.nn r hr _ (N6 hm2),hT.bit r hr _ (N6 hm2)⟩
 ·rw [QH hT];exact q
def Qa:RDn:=λds h Q=> ∃T,∃n e:G8,ds= [jj T]/\Sq n e T/\1<=n/\n<=6/\Q (.bl (wB T)) h
def LU (Z:Zs mg)(F:ò K "full" "full" Mq f fd)(ve:ju P w K mg base n "want_table" ["thing"] yw):Î P w K mg base ì (n+1) f fd ["table"] (ó K Qa):=by
 refine F.okM MK (λhr=>(Ų (WL (jk ve hr (j1 (jv 0)))) (zX (zl (Jk rfl) rfl Z.all J5 (j1 (HM (i:=1) (i':=2) (js:= [1,2]) rfl (zb (by rfl)) (jP (jv 0)) (by decide) (by decide) (by decide) MK.nd rfl rfl (by first|exact V0 rfl|exact Z0 rfl) (by first|exact V0 rfl|exact Z0 rfl) (λX' hX=>wq) (λX' hX=>by obtain⟨C,s₀,H₀,ex,rfl⟩:=hX;exact(jP (jv 1))) (λX' hX=>wq) (λX' hX=>by obtain⟨C,s₀,H₀,ex,rfl⟩:=hX;exact(ŭ Ķ (jv 2) jF)))))))) ?_;rintro ds h Q ⟨T,k,b,rfl,hT,h1,h6,q⟩;refine⟨rfl,?_⟩;refine vC [some (jj T),none,none] (λC hC=>⟨_,rfl,T,k,b,rfl,hT,h1,h6,hC⟩) ?_;refine KN T zM (λr=>r) D.int (λ_ x=>decide (x≠0)) (NB hT h6) rfl (λR r=>⟨_,rfl,r⟩) (λr hr R rr=>⟨_,rfl,rr⟩) (λr hr x hx Q' q'=>⟨_,rfl,?_⟩) ⟨h,Sub.refl h,q⟩;show Q' (.bl (!decide (x=0))) h;have e:(!decide (x=0))=decide (x≠0):=by simp
 rw [e];exact q'
def Jy:RDn:=λds h Q=> ∃T,∃n e:G8,ds= [jj T]/\Sq n e T/\1<=n/\n<=6/\Q (jj (zL n T)) h
def BD (Z:Zs mg)(F:ò K "marks" "marks" XY f fd)(ve:ju P w K mg base n "want_table" ["thing"] yw):Î P w K mg base ì (n+1) f fd ["table"] (ó K Jy):=by
 refine F.okM Vp (λhr=>(Ų (WL (jk ve hr (j1 (jv 0)))) (zX (jC zg rfl Z.tuple (by decide +kernel) (j1 (ī 1 Vp (jP (jv 0)) (λ_ _ _ _=>(jC zg rfl Z.tuple (by decide +kernel) (j1 (ī 2 Vp (jP (jv 1)) (λ_ _ _ _=>(jif (ř Ķ (jv 2) jF) jF jF)))))))))))) ?_;rintro ds h Q ⟨T,k,b,rfl,hT,h1,h6,q⟩;refine⟨rfl,?_⟩;refine vC [some (jj T),none,none] (λC hC=>⟨_,rfl,T,k,b,rfl,hT,h1,h6,hC⟩) ?_;refine MP T zM (λr=> .tup (r.map λx=> .int (if x≠0 then 1 else 0))) (by rw [hT.len];omega) rfl (λR r=>⟨_,rfl,r⟩) (λr hr Q' q'=> ?_) ⟨h,Sub.refl h,?_⟩
 ·refine MP r D.int (λx=> .int (if x≠0 then 1 else 0)) (by rw [hT.row r hr];omega) rfl (λR r=>⟨_,rfl,r⟩) (λx hx Q'' q''=>⟨_,rfl,_,rfl,?_⟩) q'
  by_cases z:x=0
  ·subst z;exact yF q''
  ·have e:(!decide (x=0))=true:=by simp [z]
   rw [e];rw [R6 z] at q'';exact vt q''
 ·rw [DP,<-DQ hT];exact q
def wT:RDn:=λds h Q=> ∃M T,∃n e:G8,ds= [jj M,jj T]/\Sq n 1 M/\Sq n e T/\1<=n/\n<=6/\e<=1000/\Q (jj (Ļ n T M)) h
def WW (Z:Zs mg)(F:ò K "marks_after" "marks_after" yo f fd)(vY:ju P w K mg base n "marks" ["table"] Jy)(UU:ju P w K mg base n "multiplied" ["one","other"] Jx):Î P w K mg base ì (n+1) f fd ["ahead","table"] (ó K wT):=by
 refine F.okM WU (λhr=>(ze (zX (jk vY hr (j1 (jk UU hr (j2 (jv 0) (jv 1)))))))) ?_;rintro ds h Q ⟨M,T,n,b,rfl,hM,hT,h1,h6,hb,q⟩;refine⟨rfl,?_⟩;exact⟨_,rfl,_,rfl,M,T,n,1,b,rfl,hM,hT,by omega,h6,ZA n M T,n,_,rfl,hM.mul hT (by omega),h1,h6,h,Sub.refl h,q⟩
/-- μ comes next behind each of Ŝ marks -/
noncomputable def nxD (n:G8)(Ts:G0 (G0 (G0 P4)))(M:G0 (G0 P4)):G0 D:=(D6 Ts.length).map λi=>jj (Ļ n (Ts.getD i []) M)
def Ĭ (n:G8)(Ts:G0 (G0 (G0 P4)))(F:Fnd)(L:P9 P3)(kv:G0 (G0 (G0 P4)×D))(h:HD):Prop:=kv.map (·.1)=F.map (·.1)/\ ∀p∈kv,∃X,p.2= .lst X/\h X=some (nxD n Ts p.1)/\some X≠L
variable {Ts:G0 (G0 (G0 P4))}
def Ĭ.len {F:Fnd}{L:P9 P3}{kv:G0 (G0 (G0 P4)×D)}(x:Ĭ n Ts F L kv h):kv.length=F.length:=by
 have:=congrArg aA x.1
 rwa [G1,G1] at this
theorem Ĭ.none {F:Fnd}{L:P9 P3}{kv:G0 (G0 (G0 P4)×D)}(x:Ĭ n Ts F L kv h)(g:(zU F T).isSome=false):zU kv T=none:=by
 have no:T ∉ F.map (·.1):=XO (by cases z:zU F T with
  |none=>rfl
  |some _=>rw [z] at g;cases g)
 rw [<-x.1] at no;cases z:zU kv T with
 |none=>rfl
 |some d=>
  unfold zU at z;obtain⟨p,hp,_⟩:=L5.mp z;exact absurd (R7.mpr ⟨p,List.mem_of_find?_eq_some hp,by have z:=List.find?_some hp;exact A7 z⟩) no
def BE {w:G0 G8}(hw:w≠ [])(a:G8):Ō n Ts (w++ [a])= .tup [.tup ((w.map λ(k:G8)=>D.int (k:P4))++ [.int (a:P4)]),jj (Ļ n (Ts.getD a []) (í n Ts w))]:=by
 unfold Ō wN;rw [Br hw,T6];rfl
def LV {s:Fnd×G0 (G0 G8)}{w:G0 G8}:(s.2++(D6 Ts.length).map λa=>w++ [a]).map (Ō n Ts)=s.2.map (Ō n Ts)++(D6 Ts.length).map λa=>Ō n Ts (w++ [a]):=by
 rw [T6,M7];rfl
def UG {s0:Fnd×G0 (G0 G8)}{ws:G0 (G0 G8)}{i:G8}{w:G0 G8}(e:ws[i]? =some w):(ws.take (i+1)).foldl (š n Ts) s0=š n Ts ((ws.take i).foldl (š n Ts) s0) w:=by
 rw [gM,e,gE];rfl
def yb:RDn:=λds h Q=> ∃A Ts,∃n:G8,ds= [.lst A]/\h A=some (Ts.map jj)/\å n Ts/\ ∀W N ep ĕ kv h',h'.dc W=some (.tk ep (ă (ł n Ts)))->h'.dc N=some (.tk ĕ kv)->Ĭ n Ts (ł n Ts) none kv h'->Sub h h'->Q (.tup [.dct W,.dct N]) h'
def Zl (Z:Zs mg)(F:ò K "ways_and_nexts" "ways_and_nexts" zZ f fd)(vY:ju P w K mg base n "marks" ["table"] Jy)(yA:ju P w K mg base n "marks_after" ["ahead","table"] wT):Î P w K mg base ì (n+1) f fd ["tables"] (ó K yb):=by
 refine F.okM jy (λhr=>(js5 (ñ 1 jy Mf) (ñ 2 jy Mf) (FS (i:=7) (j:=8) (k:=3) (js:= [7,8]) rfl jy.nd rfl (V0 rfl) (zb (by rfl)) (YU rfl Z.enumerate (j1 (jv 0))) (by decide) (by decide) (by decide) rfl rfl (by first|exact V0 rfl|exact Z0 rfl) (by first|exact V0 rfl|exact Z0 rfl) (λX' hX=>wq) (λX' hX=>by obtain⟨C,s₀,H₀,ex,rfl⟩:=hX;exact(vz (j2 (vz (j1 (jv 7))) (jk vY hr (j1 (jv 8))))))) (BX O8 (TN (jv 3)) (js3 (ñ 4 jy (Jl zH)) (Xr O8 rfl (jP (jv 3)) (QC (i:=5) (j:=6) rfl jy.nd rfl rfl (by first|exact Z0 rfl|exact V0 rfl) (by first|exact Z0 rfl|exact V0 rfl)) (ze (Sc (Nv (Uy hr) (jv 6) (jv 1) (by with_unfolding_all rfl)) (js3 (LJ hr (jv 1) (jv 6) (jv 5)) (LJ hr (jv 2) (jv 6) (ī 8 jy (jP (jv 0)) (λ_ _ _ _=>(jk yA hr (j2 (jv 6) (jv 8)))))) (WL (KW (jv 4) (HL (i:=7) (j:=9) (js:= [7,9]) rfl (zb (by rfl)) (YU rfl Z.enumerate (j1 (KT hr (jv 2) (jv 6)))) (by decide) (by decide) (by decide) jy.nd rfl rfl (by first|exact V0 rfl|exact Z0 rfl) (by first|exact V0 rfl|exact Z0 rfl) (λX' hX=>wq) (λX' hX=>by obtain⟨C,s₀,H₀,ex,rfl⟩:=hX;exact(vz (j2 (æ jQ (jv 5) (vz (j1 (jv 7)))) (jv 9)))))))) QB))) (ñ 3 jy (jv 4)))) (zX (vz (j2 (jv 1) (jv 2)))))) ?_;rintro ds h Q ⟨A,Ts,n,rfl,kA,hT,q⟩;refine⟨rfl,?_⟩;have n1:=hT.n1;have n3:=hT.n3;have l3:=hT.l3;have big: ∀x,x<=3000->x<=sizeLine:=λx hx=>R1 hx (by decide)
 refine jg (λÂ h'=> ∃W,Â= [some (.lst A),some (.dct W),none,none,none,none,none,none,none,none]/\h.dc W=none/\h' A=some (Ts.map jj)/\h'.dc W=some (.tk 0 [])/\Sub h h') (λC hC=>λW eW=>hC _ _ ⟨W,rfl,eW,kA,zE,.newC eW⟩) ?_;rintro _ h1 ⟨W,rfl,fW,kA1,kW,sb1⟩;refine jg (λÂ h'=> ∃N,Â= [some (.lst A),some (.dct W),some (.dct N),none,none,none,none,none,none,none]/\h.dc N=none/\N≠W/\h' A=some (Ts.map jj)/\h'.dc W=some (.tk 0 [])/\h'.dc N=some (.tk 0 [])/\Sub h h') (λC hC=>λN eN=> ?_) ?_
 ·have nW:N≠W:=λz=>by rw [z,kW] at eN;cases eN
  have fN:h.dc N=none:=by
   cases z:h.dc N with
   |none=>rfl
   |some c=>rw [sb1.dc N c z] at eN;cases eN
  exact hC _ _ ⟨N,rfl,fN,nW,kA1,(vJ (E7 nW)).trans kW,zE,sb1.overC fN⟩
 clear kA1 kW sb1;rintro _ h2 ⟨N,rfl,fN,nW,kA2,kW,kN,sb2⟩;refine jg (λÂ h'=> ∃Fr,Â= [some (.lst A),some (.dct W),some (.dct N),some (.lst Fr),none,none,none,none,none,none]/\h' A=some (Ts.map jj)/\h'.dc W=some (.tk 0 [])/\h'.dc N=some (.tk 0 [])/\h' Fr=some ((Ś n Ts 0).2.map (Ō n Ts))/\Sub h h') (λC hC=>TH (j:=λh=>(h A).map Ub) (D6 Ts.length) (λ(x:G8)=> .int (x:P4)) (λx=>jj (Ts.getD x [])) (λx=>Ō n Ts [x]) (by rw [S9];omega) ?_ (λR r=>⟨_,rfl,A,rfl,r⟩) (λx hx Q' q'=>⟨_,rfl,Š,_,rfl,Ts.getD x [],n,20,rfl,hT.get (S4.mp hx),n1,by omega,sz2,q'⟩) λFr eF=>hC _ _ ⟨Fr,rfl,jd kA2 eF,kW,kN,?_,sb2.newAt eF⟩) ?_
 ·show (h2 A).map Ub=_;rw [kA2,iF,Yx,Go (n:=n) (λ_ T=>T)]
 ·rw [jc];show some _=some (((D6 Ts.length).map λa=> [a]).map (Ō n Ts));rw [M7];rfl
 clear kA2 kW kN sb2;rintro _ h3 ⟨Fr,rfl,kA3,kW,kN,kF,ų⟩;refine jg (λÂ h'=> ∃Fr b4 b5 b6 ep ĕ kv,Â= [some (.lst A),some (.dct W),some (.dct N),some (.lst Fr),b4,b5,b6,none,none,none]/\h'.dc W=some (.tk ep (ă (ł n Ts)))/\h'.dc N=some (.tk ĕ kv)/\Ĭ n Ts (ł n Ts) none kv h'/\Sub h h') (λC hC=> ?_) ?_
 ·refine QJ (λm Â h'=> ∃k Fr b4 b5 b6 ep ĕ kv s,Â= [some (.lst A),some (.dct W),some (.dct N),some (.lst Fr),b4,b5,b6,none,none,none]/\s=Ś n Ts k/\h' A=some (Ts.map jj)/\h'.dc W=some (.tk ep (ă s.1))/\h'.dc N=some (.tk ĕ kv)/\Ĭ n Ts s.1 none kv h'/\h' Fr=some (s.2.map (Ō n Ts))/\Sub h h'/\m=Pg s/\k+m<=1025) _ ⟨0,Fr,_,_,_,0,0,[],_,rfl,rfl,kA3,kW,kN,⟨rfl,(λ_ z=>nomatch z)⟩,kF,ų,rfl,UB hT.l1⟩ ?_;clear kA3 kW kN kF ų;rintro m _ h4 ⟨k,Fr,b4,b5,b6,ep,ĕ,kv,s,rfl,es,kA4,kW,kN,nx,kF,ι,rfl,hk⟩;have bn:Η n Ts k s:=es ▸ Vk l3 k;refine⟨_,rfl,_,⟨_,kF,rfl⟩,?_⟩
  by_cases ez:s.2= []
  ·rw [ez];refine yF (hC _ _ ⟨Fr,b4,b5,b6,ep,ĕ,kv,rfl,?_,kN,?_,ι⟩)
   ·rw [<-XQ (k:=k) (es ▸ ez) (by omega),<-es];exact kW
   ·rw [<-XQ (k:=k) (es ▸ ez) (by omega),<-es];exact nx
  rw [show (!(s.2.map (Ō n Ts)).isEmpty)=true from by
   cases z:s.2 with
   |nil=>exact absurd z ez
   |cons=>rfl]
  refine vt ?_;refine jg (λÂ h'=> ∃L,Â= [some (.lst A),some (.dct W),some (.dct N),some (.lst Fr),some (.lst L),b5,b6,none,none,none]/\L≠A/\L≠Fr/\h L=none/\h' A=some (Ts.map jj)/\h'.dc W=some (.tk ep (ă s.1))/\h'.dc N=some (.tk ĕ kv)/\Ĭ n Ts s.1 (some L) kv h'/\h' Fr=some (s.2.map (Ō n Ts))/\h' L=some []/\Sub h h') (λC hC=>⟨sz0,λL eL=>hC _ _ ⟨L,rfl,jl kA4 eL,jl kF eL,Bc ι eL,jd kA4 eL,kW,kN,⟨nx.1,λp hp=> ?_⟩,jd kF eL,jc,ι.newAt eL⟩⟩) ?_
  ·obtain⟨X,e1,e2,_⟩:=nx.2 p hp;exact⟨X,e1,jd e2 eL,λz=>by injection z with z;exact jl e2 eL z.symm⟩
  clear kA4 kW kN nx kF ι;rintro _ h5 ⟨L,rfl,nA,nF,fL,kA5,kW,kN,nx,kF,kL,sb5⟩;refine jg (λÂ h'=> ∃b5 b6 ep ĕ kv s',Â= [some (.lst A),some (.dct W),some (.dct N),some (.lst Fr),some (.lst L),b5,b6,none,none,none]/\s'=Cs n Ts s/\h' A=some (Ts.map jj)/\h'.dc W=some (.tk ep (ă s'.1))/\h'.dc N=some (.tk ĕ kv)/\Ĭ n Ts s'.1 none kv h'/\h' L=some (s'.2.map (Ō n Ts))/\Sub h h') (λC hC=> ?_) ?_
  ·refine wE (h1:=h5) (j:=λh=>h Fr) (s.2.map (Ō n Ts)) (λi Â h'=> ∃b5 b6 ep ĕ kv s',Â= [some (.lst A),some (.dct W),some (.dct N),some (.lst Fr),some (.lst L),b5,b6,none,none,none]/\s'=(s.2.take i).foldl (š n Ts) (s.1,[])/\h' A=some (Ts.map jj)/\h'.dc W=some (.tk ep (ă s'.1))/\h'.dc N=some (.tk ĕ kv)/\Ĭ n Ts s'.1 (some L) kv h'/\h' Fr=some (s.2.map (Ō n Ts))/\h' L=some (s'.2.map (Ō n Ts))/\Sub h h') (λR r=>⟨_,rfl,r⟩) (λi Â h' ⟨_,_,_,_,_,_,_,_,_,_,_,_,z,_⟩=>z) ⟨b5,b6,ep,ĕ,kv,_,rfl,rfl,kA5,kW,kN,nx,kF,kL,sb5⟩ (λÂ h' ⟨b5,b6,ep,ĕ,kv,s',e,Ö,a1,a2,a3,a4,_,a6,a7⟩=>hC _ _ ⟨b5,b6,ep,ĕ,kv,s',e,?_,a1,a2,a3,⟨a4.1,λp hp=>let ⟨X,e1,e2,_⟩:=a4.2 p hp;⟨X,e1,e2,λz=>nomatch z⟩⟩,a6,a7⟩) ?_
   ·rw [Ö,G1,K0];rfl
   clear kA5 kW kN nx kF kL sb5;rintro i d _ h6 hd ⟨c5,c6,ep,ĕ,kv,s',rfl,Ö,Υ,kW,kN,nx,kF,kL,sb6⟩;have Œ:=(P5.mp hd).1;rw [P7] at hd;obtain⟨w,ew,rfl⟩:=L5.mp hd;obtain⟨hw,lw⟩:=bn.fr w (P6 ew);have md:θ n Ts k s.1.length s':=Ö ▸ bn.mids l3 i;have few:=md.few n3;have nxt:=md.step l3 hw lw;have X1f:k<=1025:=by omega
   have es2:(s.2.take (i+1)).foldl (š n Ts) (s.1,[])=š n Ts s' w:=by rw [UG ew,<-Ö]
   refine⟨_,_,rfl,?_⟩;refine⟨_,rfl,_,rfl,W,í n Ts w,ep,_,rfl,rfl,kW,_,rfl,?_⟩;show if (true !=(zU (ă s'.1) (í n Ts w)).isSome)=true then _ else _
   rw [XS];cases hg:(zU s'.1 (í n Ts w)).isSome with
   |true=>exact yF ⟨_,Sub.refl _,Œ,_,_,ep,ĕ,kv,s',rfl,by rw [es2,Vj hg],Υ,kW,kN,nx,kF,kL,sb6⟩
   |false=>
    have es3:=es2.trans (Wr hg);refine vt ?_;refine jg (λÂ h'=> ∃ep,Â= [some (.lst A),some (.dct W),some (.dct N),some (.lst Fr),some (.lst L),some (wN w),some (jj (í n Ts w)),none,none,none]/\h' A=some (Ts.map jj)/\h'.dc W=some (.tk ep (ă (s'.1++ [(í n Ts w,w)])))/\h'.dc N=some (.tk ĕ kv)/\Ĭ n Ts s'.1 (some L) kv h'/\h' Fr=some (s.2.map (Ō n Ts))/\h' L=some (s'.2.map (Ō n Ts))/\Sub h h') (λC hC=>⟨_,rfl,_,rfl,_,rfl,W,í n Ts w,ep,ă s'.1,rfl,rfl,kW,by unfold ă;rw [G1];omega,λé=>hC _ _ ⟨é,rfl,Υ,by rw [zE,Mi hg],(vJ nW).trans kN,nx,kF,kL,sb6.overC fW⟩⟩) ?_;clear Υ kW kN kF kL sb6;rintro _ h7 ⟨ep,rfl,kA7,kW,kN,nx,kF,kL,sb7⟩;refine jg (λÂ h'=> ∃X ĕ,Â= [some (.lst A),some (.dct W),some (.dct N),some (.lst Fr),some (.lst L),some (wN w),some (jj (í n Ts w)),none,none,none]/\h' A=some (Ts.map jj)/\h'.dc W=some (.tk ep (ă (s'.1++ [(í n Ts w,w)])))/\h'.dc N=some (.tk ĕ (kv++ [(í n Ts w,.lst X)]))/\Ĭ n Ts (s'.1++ [(í n Ts w,w)]) (some L) (kv++ [(í n Ts w,.lst X)]) h'/\h' X=some (nxD n Ts (í n Ts w))/\h' Fr=some (s.2.map (Ō n Ts))/\h' L=some (s'.2.map (Ō n Ts))/\Sub h h') (λC hC=>lcA (j:=λh=>h A) (D6 Ts.length) (λx=>jj (Ts.getD x [])) (λx=>jj (Ļ n (Ts.getD x []) (í n Ts w))) (by rw [S9];omega) (by show h7 A=_;rw [kA7,Yx]) (λR r=>⟨_,rfl,r⟩) (λx hx Q' q'=>⟨_,rfl,_,rfl,í n Ts w,Ts.getD x [],n,20,rfl,Mh w,hT.get (S4.mp hx),n1,by omega,by decide,q'⟩) λX eX=>⟨_,rfl,_,rfl,N,í n Ts w,ĕ,kv,rfl,rfl,kN,by rw [nx.len];omega,λé=>hC _ _ ⟨X,é,rfl,jd kA7 eX,(vJ (E7 nW)).trans kW,by rw [zE,(Vl (nx.none hg)).1],⟨?_,λp hp=> ?_⟩,jc,jd kF eX,jd kL eX,(sb7.newAt eX).overC fN⟩⟩) ?_
    ·rw [T6,T6,nx.1];rfl
    ·rcases D1.mp hp with z|z
     ·obtain⟨Y,e1,e2,e3⟩:=nx.2 p z;exact⟨Y,e1,jd e2 eX,e3⟩
     ·rw [P0.mp z];exact⟨X,rfl,jc,λz=>by injection z with z;exact jl kL eX z⟩
    have gt: ∀X,zU (kv++ [(í n Ts w,D.lst X)]) (í n Ts w)=some (.lst X):=λX=>by
     have z:=Vl (d:=D.lst X) (nx.none hg);rw [<-z.1];exact z.2
    clear kA7 kW kN kF kL sb7 nx;rintro _ h8 ⟨X,ĕ,rfl,kA8,kW,kN,nx,kX,kF,kL,sb8⟩;refine⟨_,rfl,L,rfl,TH (j:=λh=>(h X).map Ub) (D6 Ts.length) (λ(x:G8)=> .int (x:P4)) (λx=>jj (Ļ n (Ts.getD x []) (í n Ts w))) (λx=>Ō n Ts (w++ [x])) (by rw [S9];omega) ?_ (λR r=>⟨_,rfl,_,rfl,N,í n Ts w,ĕ,_,.lst X,rfl,rfl,kN,gt X,X,rfl,r⟩) (λx hx Q' q'=>⟨_,rfl,_,rfl,Š,?_,_,rfl,sz2,?_⟩) λY eY=>⟨Y,_,_,rfl,jd kL eY,jc,?_,_,Sub.refl _,Œ,_,_,ep,ĕ,_,(s'.1++ [(í n Ts w,w)],s'.2++(D6 Ts.length).map λa=>w++ [a]),rfl,es3.symm,jf (E7 nA) (jd kA8 eY),kW,kN,⟨nx.1,λp hp=> ?_⟩,jf (E7 nF) (jd kF eY),by rw [jc,LV],(sb8.newAt eY).over fL⟩⟩
    ·show (h8 X).map Ub=_;rw [kX,iF];exact congrArg some (Go (n:=n) λ_ T=>Ļ n T (í n Ts w))
    ·rw [G1];exact big _ (by simp only [D2,N8];omega)
    ·rw [BE hw.1] at q';exact q'
    ·rw [G1,G1,S9];exact big _ (by have:=md.gr;omega)
    ·obtain⟨Z,e1,e2,e3⟩:=nx.2 p hp;exact⟨Z,e1,jf (λz=>e3 (congrArg some z)) (jd e2 eY),e3⟩
  clear kA5 kW kN nx kF kL sb5;rintro _ h6 ⟨c5,c6,ep,ĕ,kv,s',rfl,Ö,Υ,kW,kN,nx,kL,sb6⟩;have ls:Pg s'<Pg s:=by rw [Ö];exact Gm bn n3 l3 ez
  exact⟨_,rfl,Pg s',_,ls,Sub.refl _,k+1,L,_,_,_,ep,ĕ,kv,s',rfl,by rw [Ö,es];rfl,Υ,kW,kN,nx,kL,sb6,rfl,by omega⟩
 clear kA3 kW kN kF ų;rintro _ h4 ⟨Fr,b4,b5,b6,ep,ĕ,kv,rfl,kW,kN,nx,ι⟩;exact⟨_,rfl,_,rfl,sz2,h4,Sub.refl _,q W N ep ĕ kv h4 kW kN nx ι⟩
noncomputable def LW:D->P4
 | .int i=>i
 |_=>0
noncomputable def Cv:D->G0 P4
 | .tup es=>es.map LW
 |_=> []
noncomputable def ye:D->G0 (G0 P4)
 | .tup rs=>rs.map Cv
 |_=> []
def Mu {k:P4}(h:UE d k=true):d=zM (Cv d)/\((Cv d).length:P4)=k/\ ∀x∈Cv d,0<=x:=by
 cases d with
 |tup es=>
  have h':(decide ((es.length:P4)=k)&&es.all MQ)=true:=h;rw [N9,F6,B0] at h';have num: ∀x∈es,x= .int (LW x)/\0<=LW x:=λx hx=>by
   have:=h'.2 x hx;cases x with
   |int i=>exact⟨rfl,A7 this⟩
   |_=>cases this
  refine⟨?_,?_,λx hx=> ?_⟩
  ·show D.tup es= .tup ((es.map LW).map D.int);rw [M7];have:es.map (D.int∘LW)=es.map id:=B2 λx hx=>(num x hx).1.symm
   rw [this,hO]
  ·show ((es.map LW).length:P4)=k;rw [G1];exact h'.1
  ·obtain⟨y,hy,rfl⟩:=R7.mp (show x∈es.map LW from hx);exact(num y hy).2
 |_=>cases h
theorem EL: ∀l:G0 P4,∃e:G8,∀x∈l,x<2^e
 | []=>⟨0,λ_ z=>nomatch z⟩
 |x::l=>by
  obtain⟨e,he⟩:=EL l;refine⟨max e x.natAbs,λy hy=> ?_⟩;rcases S0.mp hy with z|z
  ·subst z;have a:(y.natAbs:P4)<2^y.natAbs:=by exact_mod_cast Nat.lt_two_pow_self
   have b:(2:P4)^y.natAbs<=2^max e y.natAbs:=by exact_mod_cast W3 (by decide) (Nat.le_max_right _ _)
   omega
  ·have b:(2:P4)^e<=2^max e x.natAbs:=by exact_mod_cast W3 (by decide) (Nat.le_max_left _ _)
   have:=he y z;omega
def Mv (h:UF d=true):d=jj (ye d)/\(∃e,Sq (ye d).length e (ye d))/\1<=(ye d).length/\(ye d).length<=6:=by
 cases d with
 |tup rs=>
  have h':(decide (1<=rs.length)&&decide (rs.length<=6)&&rs.all λr=>UE r rs.length)=true:=h;rw [N9,N9,F6,F6,B0] at h';obtain⟨⟨t1,t6⟩,ta⟩:=h';have len:(ye (.tup rs)).length=rs.length:=G1 _;obtain⟨e,he⟩:=EL (ye (.tup rs)).flatten;have row: ∀r∈ye (.tup rs),∃q∈rs,r=Cv q:=λr hr=>by
   obtain⟨q,hq,rfl⟩:=R7.mp (show r∈rs.map Cv from hr);exact⟨q,hq,rfl⟩
  refine⟨?_,⟨e,rfl,λr hr=> ?_,λr hr x hx=> ?_,λr hr x hx=>he x (List.mem_flatten.mpr ⟨r,hr,hx⟩)⟩,by rw [len];exact t1,by rw [len];exact t6⟩
  ·show D.tup rs= .tup ((rs.map Cv).map zM);rw [M7];have:rs.map (zM∘Cv)=rs.map id:=B2 λx hx=>(Mu (ta x hx)).1.symm
   rw [this,hO]
  ·obtain⟨q,hq,rfl⟩:=row r hr;have:=(Mu (ta q hq)).2.1;rw [len];omega
  ·obtain⟨q,hq,rfl⟩:=row r hr;exact(Mu (ta q hq)).2.2 x hx
 |_=>cases h
/-- a table of 0 and 1 alone,of a size,with some 0 -/
noncomputable def yJ (n:G8)(d:D):N0:=UF d&&(decide ((ye d).length=n)&&(decide (ye d=zL (ye d).length (ye d))&& !wB (ye d)))
def Mw (h:yJ n d=true):d=jj (ye d)/\Sq n 1 (ye d)/\wB (ye d)=false:=by
 unfold yJ at h;rw [N9,N9,N9,F6,F6] at h;obtain⟨t,l,m,f⟩:=h;refine⟨(Mv t).1,?_,by simpa using f⟩;rw [m,l];exact Sq.mark _
def UH {ds:G0 D}(h: ∀d∈ds,yJ n d=true):ds=(ds.map ye).map jj/\ ∀M∈ds.map ye,Sq n 1 M/\wB M=false:=by
 refine⟨?_,λM hM=> ?_⟩
 ·rw [M7];have:ds.map (jj∘ye)=ds.map id:=B2 λx hx=>(Mw (h x hx)).1.symm
  rw [this,hO]
 ·obtain⟨d,hd,rfl⟩:=R7.mp hM;exact(Mw (h d hd)).2
noncomputable def Cw (n:G8)(Ts:G0 (G0 (G0 P4))):D->N0
 | .tup ds=>ds.all (yJ n)&&(Gu (ds.map ye)&&(Ts.all (λT=>decide (zL n T∈ds.map ye))&&(ds.map ye).all λM=>Ts.all λT=>decide (Ļ n T M∈ds.map ye)))
 |_=>false
def Yz:RDn:=λds h Q=> ∃d,∃n:G8,ds= [d,.int (n:P4)]/\okD d=true/\Q (.bl (yJ n d)) h
def Pj (Z:Zs mg)(F:ò K "is_post" "is_post" Wu f fd)(MF:ju P w K mg base n "full" ["table"] Qa)(vY:ju P w K mg base n "marks" ["table"] Jy)(jZ:ju P w K mg base n "has_table_form" ["thing"] jJ):Î P w K mg base ì (n+1) f fd ["thing","size"] (ó K Yz):=by
 refine F.okM Ph (λhr=>(ze (zX (MO (jk jZ hr (j1 (jv 0))) (MO (ŭ ú (WQ Z (jv 0)) (jv 1)) (MO (ŭ (Qy hr.units) (jv 0) (jk vY hr (j1 (jv 0)))) (MN (Tu (jk MF hr (j1 (jv 0))))))))))) ?_;rintro ds h Q ⟨d,n,rfl,ok,q⟩;refine⟨rfl,?_⟩;refine⟨_,rfl,d,rfl,ok,_,rfl,?_⟩;cases ht:UF d with
 |false=>
  unfold yJ at q;rw [ht] at q;exact yF ⟨h,Sub.refl h,q⟩
 |true=>
  obtain⟨ed,⟨e,sq⟩,l1,l6⟩:=Mv ht;unfold yJ at q;rw [ht,K3] at q;obtain⟨M,eM⟩: ∃M,M=ye d:=⟨_,rfl⟩;rw [<-eM] at ed sq l1 l6 q;clear eM ok ht;subst ed;have el:decide ((((M.map zM).length:G8):P4)=(n:P4))=decide (M.length=n):=by
   rw [G1,A3,F6,F6];omega
  refine vt ⟨_,rfl,_,rfl,_,rfl,?_⟩;show if decide ((((M.map zM).length:G8):P4)=(n:P4))=true then _ else _
  rw [el];cases hl:decide (M.length=n) with
  |false=>
   rw [hl] at q;exact yF ⟨h,Sub.refl h,q⟩
  |true=>
   rw [hl,K3] at q;refine vt ⟨_,rfl,_,rfl,M,M.length,e,rfl,sq,l1,l6,wz M,wz (zL M.length M),yN h _,yN h _,vk _,vk _,_,rfl,?_⟩;rw [Ā.eq];cases hm:decide (M=zL M.length M) with
   |false=>
    rw [hm] at q;exact yF ⟨h,Sub.refl h,q⟩
   |true=>
    rw [hm,K3] at q;exact vt ⟨_,rfl,M,M.length,e,rfl,sq,l1,l6,_,rfl,h,Sub.refl h,q⟩
def BF {b:D->SD->SD->Prop}{js:G0 G8}{ti İ:TID}{tt Ŀ:TTD}{i':G8}{te:TED}{E:EndsD}{σ:SD}(x:Nl b js ti tt i' İ Ŀ te σ h λv h1=>Np [v] h1 λd h2=>E.rt d h2):Xj (ĝ Np (zj (Nl b js ti tt i' İ Ŀ te) JM)) E σ h:=x
theorem Mx: ∀ {Ps:G0 (G0 (G0 P4))},Gu Ps=true->Ps.Pairwise (λx y=>jR x y=true)
 | [],_=> .nil
 | [a],_=>A9 _ _
 |a::b::l,h=>by
  have h':(jR a b&&Gu (b::l))=true:=h;rw [N9] at h';have ih:=Mx h'.2;refine K6.mpr ⟨λy hy=> ?_,ih⟩;rcases S0.mp hy with z|z
  ·rw [z];exact h'.1
  ·exact ZK h'.1 ((K6.mp ih).1 y z)
theorem Cy: ∀ {Ps:G0 (G0 (G0 P4))},Ps.Pairwise (λx y=>jR x y=true)->Gu Ps=true
 | [],_=>rfl
 | [a],_=>rfl
 |a::b::l,h=>by
  obtain⟨h1,h2⟩:=K6.mp h;show (jR a b&&Gu (b::l))=true;rw [h1 b D3,Cy h2];rfl
variable {Ps:G0 (G0 (G0 P4))}
def EM (h:Gu Ps=true):Ps.Nodup:=(Mx h).imp λ{x y} z e=>by
 rw [e,Gb] at z;cases z
def YA (Ps:G0 (G0 (G0 P4)))(T:G0 (G0 P4)):(false !=(zU (Ps.map λM=>(M,D.bl true)) T).isSome)=decide (T∈Ps):=by
 rw [uH];unfold zU;rw [lJ,List.find?_map,lJ,A3,List.find?_isSome,F6];exact⟨λ⟨x,hx,e⟩=>(A7 e:x=T) ▸ hx,λhx=>⟨T,hx,M1 rfl⟩⟩
def zR:RDn:=λds h Q=> ∃A Ts d,∃n:G8,ds= [.lst A,d]/\h A=some (Ts.map jj)/\å n Ts/\okD d=true/\(∀es,d= .tup es->es.length<999)/\Q (.bl (Cw n Ts d)) h
def WX (Z:Zs mg)(F:ò K "fence_holds" "fence_holds" yp f fd)(yB:ju P w K mg base n "want_tables" ["thing"] wS)(MG:ju P w K mg base n "is_post" ["thing","size"] Yz)(Og:ju P w K mg base n "rises" ["row"] Gv)(vY:ju P w K mg base n "marks" ["table"] Jy)(yA:ju P w K mg base n "marks_after" ["ahead","table"] wT):Î P w K mg base ì (n+1) f fd ["tables","thing"] (ó K zR):=by
 refine F.okM zc (λhr=>(js6 (WL (jk yB hr (j1 (jv 0)))) (Za (jpt (Px (wo (wA (ZZ (T:= "tuple") (by decide) rfl Z.isinstance rfl Z.tuple (by decide +kernel) (jv 1)))) (Nw (wo (wA (zl (Jk rfl) rfl Z.all J5 (j1 (ī 3 zc (jP (jv 1)) (λ_ _ _ _=>(jk MG hr (j2 (jv 3) (WQ Z (Ă (jv 0) jF))))))))))))) (zX ĸ)) (Za (wo (wA (jk Og hr (j1 (jv 1))))) (zX ĸ)) (ñ 2 zc (jdc (i:=3) (js:= [3]) hr rfl (zb (by rfl)) (jP (jv 1)) (by decide) zc.nd rfl (by first|exact V0 rfl|exact Z0 rfl) (λX' hX=>wq) (λX' hX=>by obtain⟨C,s₀,H₀,ex,rfl⟩:=hX;exact(jv 3)) (λX' hX=>by obtain⟨C,s₀,H₀,ex,rfl⟩:=hX;exact ĸ))) (Za (wo (wA (zl (Jk rfl) rfl Z.all J5 (j1 (ī 4 zc (jP (jv 0)) (λ_ _ _ _=>(Sb (Cq hr) (jk vY hr (j1 (jv 4))) (jv 2) (by with_unfolding_all rfl)))))))) (zX ĸ)) (zX (zl (Jk rfl) rfl Z.all J5 (j1 (HM (i:=3) (i':=4) (js:= [3,4]) rfl (zb (by rfl)) (jP (jv 1)) (by decide) (by decide) (by decide) zc.nd rfl rfl (by first|exact V0 rfl|exact Z0 rfl) (by first|exact V0 rfl|exact Z0 rfl) (λX' hX=>wq) (λX' hX=>by obtain⟨C,s₀,H₀,ex,rfl⟩:=hX;exact(jP (jv 0))) (λX' hX=>wq) (λX' hX=>by obtain⟨C,s₀,H₀,ex,rfl⟩:=hX;exact(Sb (Cq hr) (jk yA hr (j2 (jv 3) (jv 4))) (jv 2) (by with_unfolding_all rfl))))))))) ?_;rintro ds h Q ⟨A,Ts,d,n,rfl,kA,hT,ok,few,q⟩;refine⟨rfl,?_⟩;have n1:=hT.n1;have n3:=hT.n3;have l1:=hT.l1;have l3:=hT.l3;have s0:=hT.get (i:=0) (by omega);have e0:=JR hT (i:=0) (by omega);obtain⟨nm,hn⟩:=wG ok;refine vC [some (.lst A),some d,none,none,none] (λC hC=>⟨_,rfl,A,Ts,n,rfl,kA,hT,hC⟩) ?_;cases d with
 |tup ds=>
  cases hn;obtain⟨hl,ht⟩:=Zj ok
  replace few:=few ds rfl
  replace q:Q (.bl (ds.all (yJ n)&&(Gu (ds.map ye)&&(Ts.all (λT=>decide (zL n T∈ds.map ye))&&(ds.map ye).all λM=>Ts.all λT=>decide (Ļ n T M∈ds.map ye))))) h:=q
  refine jg (λÂ h'=>Â= [some (.lst A),some (.tup ds),none,none,none]/\h=h'/\ds.all (yJ n)=true) (λC hC=>⟨_,rfl,"tuple",rfl,_,rfl,yF (TB ds (λx=>x) (yJ n) hl (by rw [List.map_id']) (λR r=>⟨_,rfl,r⟩) (λx hx Q' q'=>⟨_,rfl,_,rfl,_,_,kA,e0,x,n,by rw [G1,s0.len],ht x hx,q'⟩) ⟨_,rfl,?_⟩)⟩) ?_
  ·cases hb:ds.all (yJ n) with
   |false=>
    rw [hb] at q;exact vt ⟨h,Sub.refl h,q⟩
   |true=>exact yF (hC _ _ ⟨rfl,rfl,hb⟩)
  rintro _ _ ⟨rfl,rfl,al⟩;rw [al,K3] at q;obtain⟨ed,pq⟩:=UH (B0.mp al);obtain⟨Ps,ePs⟩: ∃Ps,Ps=ds.map ye:=⟨_,rfl⟩;rw [<-ePs] at ed pq q;have lP:Ps.length<999:=by rw [ePs,G1];exact few
  clear ePs al hl ht few ok;subst ed;refine jg (λÂ h'=>Â= [some (.lst A),some (.tup (Ps.map jj)),none,none,none]/\h=h'/\Gu Ps=true) (λC hC=>⟨_,rfl,Ps,rfl,by omega,_,rfl,?_⟩) ?_
  ·cases hb:Gu Ps with
   |false=>
    rw [hb] at q;exact vt ⟨h,Sub.refl h,q⟩
   |true=>exact yF (hC _ _ ⟨rfl,rfl,hb⟩)
  rintro _ _ ⟨rfl,rfl,ris⟩;rw [ris,K3] at q;have nd:Ps.Nodup:=EM ris;refine jg (λÂ h'=> ∃P ep,Â= [some (.lst A),some (.tup (Ps.map jj)),some (.dct P),none,none]/\h'.dc P=some (.tk ep (Ps.map λM=>(M,D.bl true)))/\h' A=some (Ts.map jj)/\Sub h h') (λC hC=>⟨_,rfl,Ps.length,λi kv h'=>h=h'/\kv=(Ps.take i).map λM=>(M,D.bl true),⟨rfl,rfl⟩,?_⟩) ?_
  ·rintro i kv _ ⟨rfl,rfl⟩;have ky: ∀l:G0 (G0 (G0 P4)),(l.map λM=>(M,D.bl true)).map (·.1)=l:=λl=>by rw [M7];exact hO l
   refine⟨by rw [G1,T3];omega,by rw [ky];exact nd.sublist (V1 _ _),_,rfl,by rw [G1];exact P2 _,λhi P ep fP=>hC _ _ ⟨P,ep,rfl,?_,kA,.newC fP⟩,λd hd=> ?_⟩
   ·rw [G1] at hi;rw [T5 hi,zE]
   ·rw [P7] at hd;obtain⟨M,hM,rfl⟩:=L5.mp hd;have il:=(P5.mp hM).1;have st:Ps.take (i+1)=Ps.take i++ [M]:=by rw [gM,hM];rfl
    refine⟨_,rfl,?_⟩;unfold vj;dsimp only;rw [R6 rfl];refine⟨_,rfl,M,_,rfl,?_,Sub.refl _,rfl,by rw [st,T6];rfl⟩;rw [ky];have:=nd.sublist (V1 (i+1) Ps);rw [st] at this;exact λz=>(bY.mp this).2.2 _ z _ D3 rfl
  rintro _ h2 ⟨P,ep,rfl,kP,kA2,sb⟩;refine jg (λÂ h'=>Â= [some (.lst A),some (.tup (Ps.map jj)),some (.dct P),none,none]/\h2=h'/\Ts.all (λT=>decide (zL n T∈Ps))=true) (λC hC=>TB (j:=λh=>h A) Ts jj (λT=>decide (zL n T∈Ps)) (by omega) kA2 (λR r=>⟨_,rfl,r⟩) (λT hm Q' q'=>⟨_,rfl,T,n,20,rfl,hT.sq T hm,n1,by omega,_,rfl,P,zL n T,ep,_,rfl,rfl,kP,by rw [YA];exact q'⟩) ⟨_,rfl,?_⟩) ?_
  ·cases hb:Ts.all (λT=>decide (zL n T∈Ps)) with
   |false=>
    rw [hb] at q;exact vt ⟨h,sb,q⟩
   |true=>exact yF (hC _ _ ⟨rfl,rfl,hb⟩)
  rintro _ _ ⟨rfl,rfl,al⟩;rw [al,K3] at q;refine BF (Ew (h:=h2) (j:=λ_=>some (Ps.map jj)) Ps jj (λ_=>Ts) jj (λ_ _=>true) (λM T=> .bl (decide (Ļ n T M∈Ps))) ?_ (λ_ _=>rfl) (λR r=>⟨_,rfl,r⟩) (λM hM h' sb' R r=>⟨_,rfl,r _ h' (Sub.refl _) λh3 ų=>ų _ _ (sb' _ _ kA2)⟩) (λ_ _ _ _ h' _ Q' q'=>q') (λM hM T hm _ h' sb' Q' q'=>⟨_,rfl,_,rfl,M,T,n,20,rfl,(pq M hM).1,hT.sq T hm,n1,by omega,by decide,_,rfl,P,Ļ n T M,ep,_,rfl,rfl,sb'.dc _ _ kP,by rw [YA];exact q'⟩) λa h' sb' ha=> ?_)
  ·have ll: ∀l:G0 (G0 (G0 P4)),(l.flatMap λM=>((Ts.filter λ_=>true).map λT=>D.bl (decide (Ļ n T M∈Ps)))).length<=3*l.length:=λl=>by
    induction l with
    |nil=>exact N7 _
    |cons x l ih=>
     rw [cZ,P1,D2,G1];have:=gO (λ_=>true) Ts;omega
   exact R1 (ll Ps) (R1 (show 3*Ps.length<=3000 by omega) (by decide))
  ·refine⟨a,Ps.flatMap λM=>Ts.map λT=>decide (Ļ n T M∈Ps),rfl,?_,?_⟩
   ·rw [jc,List.map_flatMap];refine congrArg some (congrArg (λf=>List.flatMap f Ps) (funext λM=> ?_));rw [pA.mpr λ_ _=>rfl,M7];rfl
   ·rw [zf ha];refine⟨h,sb.trans sb',?_⟩;rw [List.all_flatMap];have e:(λM=>(Ts.map λT=>decide (Ļ n T M∈Ps)).all id)=λM=>Ts.all λT=>decide (Ļ n T M∈Ps):=funext λM=>aV
    rw [e];exact q
 |_=>cases hn<;>exact⟨_,rfl,_,rfl,_,rfl,vt (vt ⟨h,Sub.refl h,q⟩)⟩
def Wy (l3:Ts.length<=3){p:G0 (G0 P4)×G0 G8}(h:p∈ł n Ts):Sq n 1 p.1/\(∀i∈p.2,i<Ts.length)/\p.2.length<=1025:=by
 obtain⟨a,b,c⟩:=(XR (n:=n) l3).fd p h;exact⟨a ▸ Mh _,b.2,c⟩
/-- all marks found,rising -/
def Fks (n:G8)(Ts ks:G0 (G0 (G0 P4))):Prop:=ks.Perm ((ł n Ts).map (·.1))/\ks.Pairwise (λx y=>jR x y=true)
/-- Ŝ fence with Ŝ fewest tables -/
def EN (n:G8)(Ts:G0 (G0 (G0 P4)))(d:D):Prop:=(((ł n Ts).any λp=>wB p.1)=true/\d= .non)\/(((ł n Ts).any λp=>wB p.1)=false/\ ∃ks,Fks n Ts ks/\d= .tup (ks.map jj))
def Mz (F:Fnd):(ă F).map (λp=>jj p.1)=F.map λp=>jj p.1:=by unfold ă;rw [M7];rfl
def ZN (F:Fnd):(ă F).map (·.1)=F.map (·.1):=by unfold ă;rw [M7];rfl
def Wz:RDn:=λds h Q=> ∃A Ts,∃n:G8,ds= [.lst A]/\h A=some (Ts.map jj)/\å n Ts/\ ∀d,EN n Ts d->Q d h
def Qb (Z:Zs mg)(F:ò K "fence_of" "fence_of" Zf f fd)(yB:ju P w K mg base n "want_tables" ["thing"] wS)(ZD:ju P w K mg base n "ways_and_nexts" ["tables"] yb)(MF:ju P w K mg base n "full" ["table"] Qa):Î P w K mg base ì (n+1) f fd ["tables"] (ó K Wz):=by
 refine F.okM Ja (λhr=>(js3 (WL (jk yB hr (j1 (jv 0)))) (Oj (jk ZD hr (j1 (jv 0))) (QC (i:=1) (j:=2) rfl Ja.nd rfl rfl (V0 rfl) (V0 rfl))) (zX (jif (wA (zl (AN rfl) rfl Z.any (by decide +kernel) (j1 (ī 3 Ja (LM (jv 1)) (λ_ _ _ _=>(jk MF hr (j1 (jv 3)))))))) Ec (jC Þ rfl Z.tuple (by decide +kernel) (j1 (zl (Wt rfl hr) rfl Z.sorted (by decide +kernel) (j1 (jv 1))))))))) ?_;rintro ds h Q ⟨A,Ts,n,rfl,kA,hT,q⟩;refine⟨rfl,?_⟩;have n1:=hT.n1;have n3:=hT.n3;have l3:=hT.l3;have lf:(ł n Ts).length<=512:=(XR (n:=n) l3).few n3;refine vC [some (.lst A),none,none,none] (λC hC=>⟨_,rfl,A,Ts,n,rfl,kA,hT,hC⟩) ?_;refine jg (λÂ h'=> ∃W N ep,Â= [some (.lst A),some (.dct W),some (.dct N),none]/\h'.dc W=some (.tk ep (ă (ł n Ts)))/\Sub h h') (λC hC=>⟨_,rfl,A,Ts,n,rfl,kA,hT,λW N ep ĕ kv h' kW kN nx sb=>⟨_,_,rfl,hC _ _ ⟨W,N,ep,rfl,kW,sb⟩⟩⟩) ?_;rintro _ h1 ⟨W,N,ep,rfl,kW,sb⟩;refine KM (j:=XU W ep (ă (ł n Ts)).length) (ł n Ts) (λp=>jj p.1) (λp=>wB p.1) (by omega) (by rw [Bv kW,Mz]) (λR r=>⟨_,rfl,W,ep,_,rfl,kW,r⟩) (λp hp Q' q'=>⟨_,rfl,p.1,n,1,rfl,(Wy l3 hp).1,n1,by omega,q'⟩) ⟨_,rfl,?_⟩;cases hb:(ł n Ts).any λp=>wB p.1 with
 |true=>exact vt ⟨h,sb,q _ (.inl ⟨hb,rfl⟩)⟩
 |false=>
  refine yF ⟨_,rfl,W,ep,_,rfl,kW,by unfold ă;rw [G1];omega,λp hp=> ?_,λU ks fU pm srt=> ?_⟩
  ·have hm:p.1∈(ł n Ts).map (·.1):=by rw [<-ZN];exact J6 hp
   obtain⟨x,hx,e⟩:=R7.mp hm;have sq:=(Wy l3 hx).1;rw [e] at sq;intro z;have:=sq.len;rw [z] at this;exact absurd this (by show ¬ (0=n);omega)
  ·exact⟨_,jc,h,sb.newAt fU,q _ (.inr ⟨hb,ks,⟨by rw [<-ZN];exact pm,srt⟩,rfl⟩)⟩
def Zt:RDn:=λds h Q=> ∃ns k,ds= [.scr ns,.int k]/\0<=k/\ ∀n,Q (.int n) h
def UI (Z:Zs mg)(F:ò K "_law_cell" "_law_cell" vS f fd):Î P w K mg base ì (n+1) f fd ["_law_script","_law_k"] (ó K Zt):=by
 refine F.okM UC (λhr=>(Ų (Za (ř AI (jv 1) (WQ Z (jv 0))) (zX (Ă (jv 0) (jv 1)))) (zX jF))) ?_;rintro ds h Q ⟨ns,k,rfl,h0,q⟩;refine⟨rfl,?_⟩;simp only [yc,Dp,vp,Ņ,Pw,wn,M0,aU,D2,N8,U5,O6,W5,E1,V5,ĝ,zj,JM,BT,Nm,D.bl.injEq,Xj,ixD,Xk,Y7,WK,dC];refine Qs (λc=> ?_) (λ_=>⟨h,Sub.refl h,q 0⟩);have c':k<(ns.length:P4):=A7 c;have hk:k.toNat<ns.length:=by omega
 have ek:k=((k.toNat:G8):P4):=by omega
 have z:=wJ (G5 hk);rw [<-ek] at z;exact⟨ns[k.toNat],z,h,Sub.refl h,q _⟩
def WA:RDn:=λds h Q=> ∃c,ds= [.int c]/\ ∀p l fl,h p=none->0<=l->(fl=0\/fl=1)->Q (.lst p) (zm h p [.int l,.int fl])
def Qc (Z:Zs mg)(F:ò K "_law_pen" "_law_pen" Zg f fd):Î P w K mg base ì (n+1) f fd ["_law_cell_here"] (ó K WA):=by
 refine F.okM Wv (λhr=>(Ų (ñ 1 Wv (zl (AM rfl) rfl Z.max (by decide +kernel) (j2 (jv 0) (æ Dt jF (jv 0))))) (zX (Jl (j2 (jv 1) (jC VQ rfl Z.int (by decide +kernel) (j1 (ŭ Nn (jv 1) (æ Du jF jF))))))))) ?_;rintro ds h Q ⟨c,rfl,q⟩;refine⟨rfl,?_⟩;simp only [yc,MM,ĝ,zj,Pw,wn,M0,aU,D2,N8,T4,U5,O6,E1,V5,Ņ,dC,HB,JM,Tk,Xj,Ag,p0,p7,W5,Th,Nm,Tj,Xk,Y7];refine⟨⟨by decide,by decide,by decide⟩,by decide,λp hp=>⟨_,Sub.refl _,q p _ _ hp ?_ ?_⟩⟩
 ·split<;>omega
 ·split<;>simp<;>omega
def zi:RDn:=λds h Q=> ∃p l fl m,ds= [.lst p,.int m]/\h p=some [.int l,.int fl]/\0<=l/\0<m/\m<1073741824/\ ∀r l',0<=r->r<m->0<=l'->Q (.int r) (zm h p [.int l',.int fl])
def UJ (Z:Zs mg)(F:ò K "_law_draw" "_law_draw" vT f fd):Î P w K mg base ì (n+1) f fd ["_law_pen_here","_law_many_here"] (ó K zi):=by
 refine F.okM wH (λhr=>(js5 (Sc (ř ú (Ă (jv 0) jF) jF) (js3 (Oj (zl Dx rfl Z.divmod (by decide +kernel) (j2 (Ă (jv 0) jF) (jv 1))) (QC (i:=2) (j:=3) rfl wH.nd rfl rfl (V0 rfl) (V0 rfl))) (Oj (jv 2) (QD (jv 0) jF)) (zX (jv 3))) QB) (ñ 4 wH (æ Jj (æ zW (æ jQ (æ Jj (Ă (jv 0) jF) jF) jF) jF) jF)) (ñ 4 wH (æ Jj (æ jQ (æ zW (jv 4) (jv 4)) jF) jF)) (Oj (æ Jj (æ jQ (æ zW (jv 4) jF) jF) jF) (QD (jv 0) jF)) (zX (æ Jj (æ FF (Ă (jv 0) jF) jF) (jv 1))))) ?_;rintro ds h Q ⟨p,l,fl,m,rfl,hp,h0,hm,hm2,q⟩;refine⟨rfl,?_⟩;refine vC [some (.lst p),some (.int m),none,none,none] (λC hC=>⟨_,rfl,_,_,hp,rfl,?_⟩) ?_
 ·show ∃k,D.bl (decide (fl=1))= .bl k/\_;refine⟨_,rfl,Qs (λ_=> ?_) λ_=>hC⟩;exact⟨_,rfl,_,_,hp,rfl,_,rfl,⟨hm,hm2⟩,_,_,rfl,_,rfl,_,rfl,p,0,_,0,rfl,rfl,hp,rfl,_,rfl,_,Sub.refl _,q (l%m) (l / m) (iG _ (xY hm)) (kM _ hm) (Int.ediv_nonneg h0 (xM hm))⟩
 refine jg (λÂ h'=> ∃z:P4,Â= [some (.lst p),some (.int m),none,none,some (.int z)]/\(0<=z/\z<2147483629)/\h=h') (λC hC=>⟨_,rfl,_,_,hp,rfl,by decide,.inr ⟨by decide,by decide⟩,by decide,hC _ _ ⟨_,rfl,⟨iG _ (by decide),kM _ (by decide)⟩,rfl⟩⟩) ?_;rintro _ _ ⟨z,rfl,⟨z0,z1⟩,rfl⟩;refine jg (λÂ h'=> ∃y:P4,Â= [some (.lst p),some (.int m),none,none,some (.int y)]/\h=h') (λC hC=>⟨_,rfl,_,rfl,.inl ⟨pS (by decide) z0,Int.lt_trans z1 (by decide)⟩,by decide,hC _ _ ⟨_,rfl,rfl⟩⟩) ?_;rintro _ _ ⟨y,rfl,rfl⟩;refine jg (λÂ h'=> ∃x:P4,Â= [some (.lst p),some (.int m),none,none,some (.int y)]/\0<=x/\h'=zm h p [.int x,.int fl]) (λC hC=>⟨_,rfl,.inr ⟨by decide,by decide⟩,by decide,_,rfl,p,0,_,0,rfl,rfl,hp,rfl,hC _ _ ⟨_,rfl,iG _ (by decide),rfl⟩⟩) ?_;rintro _ _ ⟨x,rfl,x0,rfl⟩;exact⟨_,rfl,_,_,jc,rfl,⟨by decide,by decide⟩,_,rfl,hm,_,Sub.refl _,q (x / 32%m) x (iG _ (xY hm)) (kM _ hm) x0⟩
def Vu (Z:Zs mg)(F:ò K "_law_whole" "_law_whole" yW f fd):Î P w K mg base ì (n+1) f fd ["_law_thing"] (ó K yu):=by
 refine F.okM Vq (λhr=>(ze (zX (MO (ZZ (T:= "int") (by decide) rfl Z.isinstance rfl Z.int (by decide +kernel) (jv 0)) (MN (Tu (ZZ (T:= "bool") (by decide) rfl Z.isinstance rfl Z.bool (by decide +kernel) (jv 0)))))))) ?_;rintro ds h Q ⟨d,nm,rfl,hn,q⟩;refine⟨rfl,?_⟩;simp only [Xj,Dl,dIs,Pw,wn,M0,aU,D2,N8,U5,O6,E1,V5,D.bl.injEq,Dm,Xk,Y7,hn];cases d<;>cases hn<;>exact⟨h,Sub.refl h,q⟩
noncomputable def Kb:D->N0
 | .tup es=>decide (es.length<999)
 |_=>true
def LX (h:Kb d=true): ∀es,d= .tup es->es.length<999:=λes e=>by
 subst e;exact A7 h
def WB:RDn:=λds h Q=> ∃p l fl,ds= [.lst p]/\h p=some [.int l,.int fl]/\0<=l/\ ∀d l',okD d=true->(∀es,d= .tup es->es.length<999)->0<=l'->Q d (zm h p [.int l',.int fl])
def Qe (Z:Zs mg)(F:ò K "_law_odd" "_law_odd" Zh f fd)(jp:ju P w K mg base n "_law_draw" ["_law_pen_here","_law_many_here"] zi):Î P w K mg base ì (n+1) f fd ["_law_pen_here"] (ó K WB):=by
 refine F.okM Ww (λhr=>(Ų (ñ 1 Ww (Jl (œ Ec (by exact(œ ĸ (by exact(œ ĸ (by exact(œ (Ty jF) (by exact(œ HK (by exact(œ HK (by exact(œ (vz zH) (by exact(œ (Jl zH) (by exact(œ (vz (j1 jF)) (by exact(œ (Jl (j1 jF)) (by exact(œ Ed (by exact(j4 (vz (j2 jF jF)) (æ Du jF jF) (vz (j2 jF (vz zH))) (vz (j1 (vz zH)))))))))))))))))))))))))))) (zX (Ă (æ jQ (jv 1) (Jl (j1 (vz (j1 (vz (j1 jF))))))) (jk jp hr (j2 (jv 0) jF)))))) ?_;rintro ds h Q ⟨p,l,fl,rfl,hp,h0,q⟩;refine⟨rfl,?_⟩;simp only [yc,MM,Ag,zj,dC,dUn,Sa,EZ,JM,N8,D2,Qx,Ņ,Th,Xj,Pw,wn,M0,aU,T4,U5,O6,p0,p7,W5,E1,V5,HA,ĝ,ixD,Y7,Xk]
 repeat (first|intro _|refine⟨by decide,?_⟩|refine⟨⟨by decide,by decide,by decide⟩,?_⟩)
 rename_i p1 e1 p2 e2 p4 e4 p5 e5;have k1:=jd (M:= []) hp e1;have k2:=jd (M:= [.int 0]) k1 e2;refine⟨_,_,jf (E7 (FO e5)) jc,jc,by simp only [D2,N8];decide,λp6 e6=> ?_⟩;refine⟨p,l,fl,16,rfl,jd (jd (jd k2 e4) e5) e6,h0,by decide,by decide,λr l' r0 r1 l0=> ?_⟩;obtain⟨d,hd,ed⟩:=yM (xs:= [D.non,D.bl true,D.bl false,D.int (-1),D.str (W9 "1"),D.str (W9 ""),D.tup [],D.lst p1,D.tup [D.int 0],D.lst p2,D.dic (W9 "a") 1,D.tup [D.int 0,D.int 1],D.int (10^cR 30),D.tup [D.int 0,D.tup []],D.tup [D.tup []]]++ [D.tup [D.tup [D.int 0]]]) r0 r1;refine⟨_,d,jf (jl (jd (jd k2 e4) e5) e6) jc,ed,_,Sub.both (Sub.newAt (Sub.newAt (Sub.newAt (Sub.newAt (Sub.newAt (Sub.refl h) e1) e2) e4) e5) e6),q d l' (Vr ?_ d hd) (LX (B0.mp (?_:List.all _ Kb=true) d hd)) l0⟩
 ·rfl
 ·rfl
def UK (Z:Zs mg)(F:ò K "_law_same" "_law_same" vU f fd):Î P w K mg base ì (n+1) f fd ["_law_found","_law_due"] (ó K Ca):=by
 refine F.okM UD (λhr=>(ze (zX (ŭ ú (zl (QM hr) rfl Z.repr (by decide +kernel) (j1 (jv 0))) (zl (QM hr) rfl Z.repr (by decide +kernel) (j1 (jv 1))))))) ?_;rintro ds h Q ⟨x,y,pd,rfl,t1,t2,so,q⟩;refine⟨rfl,?_⟩;refine⟨_,rfl,x,pd,rfl,t1,so,_,rfl,y,pd,rfl,t2,so,h,Sub.refl h,?_⟩;rw [M1 rfl];exact q
def wg:RDn:=λds h Q=> ∃p l fl,∃k:G8,ds= [.lst p,.int (k:P4)]/\h p=some [.int l,.int fl]/\0<=l/\1<=k/\k<=6/\ ∀T l',ę k T->0<=l'->Q (jj T) (zm h p [.int l',.int fl])
def Vv (Z:Zs mg)(F:ò K "_law_table" "_law_table" yX f fd)(jp:ju P w K mg base n "_law_draw" ["_law_pen_here","_law_many_here"] zi):Î P w K mg base ì (n+1) f fd ["_law_pen_here","_law_size"] (ó K wg):=by
 refine F.okM jE (λhr=>(js5 (Tv (i:=2) (j:=3) rfl jE.nd rfl rfl (by decide) rfl rfl (j2 (jk jp hr (j2 (jv 0) jF)) (Ă (Jl (j3 jF jF jF)) (jk jp hr (j2 (jv 0) jF)))) rfl) (ñ 4 jE (Ă (Jl (j4 jF jF jF (æ Du jF jF))) (jk jp hr (j2 (jv 0) jF)))) (ñ 5 jE (Jl zH)) (Xr O8 rfl (Ż Z (jv 1)) (Τ 6 jE) (js3 (ñ 7 jE (Jl zH)) (Xr O8 rfl (Ż Z (jv 1)) (Τ 8 jE) (js5 (ñ 9 jE (ŭ ú (jk jp hr (j2 (jv 0) (jv 3))) jF)) (Za (ř AI (jv 2) jF) (ñ 9 jE (jor (ŭ ú (jv 8) (æ Jj (æ jQ (jv 6) jF) (jv 1))) (MN (MO (jv 9) (MN (ŭ (Qy hr.units) (jk jp hr (j2 (jv 0) jF)) (jv 2)))))))) (Za (ř ú (jv 2) jF) (ñ 9 jE (jor (MO (jv 9) (MN (ŭ ú (æ Jj (æ Dt (jv 8) (jv 6)) jF) jF))) (MN (ŭ (Qy hr.units) (jv 8) (æ jQ (jv 6) jF)))))) (Za (ř ú (jv 2) jF) (ñ 9 jE (MO (jv 9) (MN (ŭ Nn (jv 8) (jv 6)))))) (WL (Sd (jv 7) (æ zW (jC VQ rfl Z.int (by decide +kernel) (j1 (jv 9))) (æ jQ jF (jk jp hr (j2 (jv 0) (jv 4))))))))) (WL (Sd (jv 5) (jC Þ rfl Z.tuple (by decide +kernel) (j1 (jv 7))))))) (zX (jC Þ rfl Z.tuple (by decide +kernel) (j1 (jv 5)))))) ?_;rintro ds h Q ⟨p,l,fl,k,rfl,hp,h0,hk1,hk6,q⟩;refine⟨rfl,?_⟩;refine jg (λÂ h'=> ∃way o l2,Â= [some (.lst p),some (.int (k:P4)),some (.int way),some (.int o),none,none,none,none,none,none]/\0<o/\o<1000/\0<=l2/\h' p=some [.int l2,.int fl]/\Ø p h h') (λC hC=>⟨_,rfl,p,l,fl,6,rfl,hp,h0,by decide,by decide,λway l1 w0 w1 Φ=>⟨sz3,λp1 e1=>⟨_,rfl,p,l1,fl,3,rfl,jd jc e1,Φ,by decide,by decide,λr l2 r0 r1 Č=> ?_⟩⟩⟩) ?_
 ·obtain⟨ż,ho,eo⟩:=yM (xs:= [D.int 2,D.int 3,D.int 5]) r0 r1;obtain⟨o,e,o1,o2⟩: ∃o:P4,ż= .int o/\0<o/\o<1000:=by
   simp only [S0,C5,or_false] at ho;rcases ho with e|e|e<;>exact⟨_,e,by decide,by decide⟩
  subst e;exact⟨_,_,jf (jl jc e1) jc,eo,_,_,rfl,hC _ _ ⟨way,o,l2,rfl,o1,o2,Č,jc,((Ø.upd).new e1).put⟩⟩
 rintro _ h1 ⟨way,o,l2,rfl,o1,o2,Č,kA,bA⟩;refine jg (λÂ h'=> ∃m l3,Â= [some (.lst p),some (.int (k:P4)),some (.int way),some (.int o),some (.int m),none,none,none,none,none]/\0<m/\m<=1000000/\0<=l3/\h' p=some [.int l3,.int fl]/\Ø p h h') (λC hC=>⟨⟨by decide,by decide,by decide⟩,sz4,λp1 e1=>⟨_,rfl,p,l2,fl,4,rfl,jd kA e1,Č,by decide,by decide,λr l3 r0 r1 Ţ=> ?_⟩⟩) ?_
 ·obtain⟨most,ho,eo⟩:=yM (xs:= [D.int 1,D.int 1,D.int 3,D.int (10^cR 6)]) r0 r1;obtain⟨m,e,m1,m2⟩: ∃o:P4,most= .int o/\0<o/\o<=1000000:=by
   simp only [S0,C5,or_false] at ho;rcases ho with e|e|e|e<;>exact⟨_,e,by decide,by decide⟩
  subst e;exact⟨_,_,jf (jl kA e1) jc,eo,hC _ _ ⟨m,l3,rfl,m1,m2,Ţ,jc,(bA.new e1).put⟩⟩
 clear kA bA;rintro _ h2 ⟨m,l3,rfl,m1,m2,Ţ,kB,bB⟩;refine jg (λÂ h'=> ∃R,Â= [some (.lst p),some (.int (k:P4)),some (.int way),some (.int o),some (.int m),some (.lst R),none,none,none,none]/\R≠p/\h R=none/\h' R=some []/\h' p=some [.int l3,.int fl]/\Ø p h h') (λC hC=>⟨sz0,λR eR=>hC _ _ ⟨R,rfl,jl kB eR,ZW bB eR (jl kB eR),jc,jd kB eR,bB.new eR⟩⟩) ?_;clear kB bB;rintro _ h3 ⟨R,rfl,nR,fR,kR,kC,bC⟩;refine jg (λÂ h'=> ∃a b c d l4 rows,Â= [some (.lst p),some (.int (k:P4)),some (.int way),some (.int o),some (.int m),some (.lst R),a,b,c,d]/\0<=l4/\h' p=some [.int l4,.int fl]/\h' R=some (rows.map zM)/\Ø p h h'/\ę k rows) (λC hC=> ?_) (λÂ h' ⟨a,b,c,d,l4,rows,e,l40,kD,kE,bD,g⟩=>by subst e;exact⟨_,rfl,_,kE,_,bD.sub kD,q rows l4 g l40⟩);refine ZX k (λi Â h'=> ∃a b c d l4 rows,Â= [some (.lst p),some (.int (k:P4)),some (.int way),some (.int o),some (.int m),some (.lst R),a,b,c,d]/\0<=l4/\h' p=some [.int l4,.int fl]/\h' R=some (rows.map zM)/\Ø p h h'/\rows.length=i/\ ∀r∈rows,wM k r) (by omega) (λR' r=>⟨_,rfl,r⟩)
  ⟨none,none,none,none,l3,[],rfl,Ţ,kC,kR,bC,rfl,λr hr=>nomatch hr⟩ (λÂ h' z=>hC _ _ z) ?_
 clear kC kR bC;rintro i _ h4 hi ⟨a,b,c,d,l4,rows,rfl,l40,kD,kE,bD,g1,g2⟩;refine jg (λÂ h'=> ∃S,Â= [some (.lst p),some (.int (k:P4)),some (.int way),some (.int o),some (.int m),some (.lst R),some (.int (i:P4)),some (.lst S),c,d]/\S≠p/\S≠R/\h S=none/\h' S=some []/\h' p=some [.int l4,.int fl]/\h' R=some (rows.map zM)/\Ø p h h') (λC hC=>⟨sz0,λS eS=>hC _ _ ⟨S,rfl,jl kD eS,jl kE eS,ZW bD eS (jl kD eS),jc,jd kD eS,jd kE eS,bD.new eS⟩⟩) ?_;clear kD kE bD;rintro _ h5 ⟨S,rfl,nS,nSR,fS,kS,kD,kE,bD⟩;refine jg (λÂ h'=> ∃c d l5 row,Â= [some (.lst p),some (.int (k:P4)),some (.int way),some (.int o),some (.int m),some (.lst R),some (.int (i:P4)),some (.lst S),c,d]/\0<=l5/\h' p=some [.int l5,.int fl]/\h' R=some (rows.map zM)/\h' S=some (row.map D.int)/\Ø p h h'/\wM k row) (λC hC=> ?_) ?_
 rotate_left
 ·rintro _ h6 ⟨c,d,l5,row,rfl,Ž,kD,kE,kF,bD,g⟩;refine⟨_,rfl,R,rfl,_,rfl,_,kF,_,kE,?_,_,Sub.refl _,by omega,_,_,_,_,l5,rows++ [row],rfl,Ž,jf (E7 nR) kD,?_,bD.putNew fR,by rw [P1,g1];rfl,?_⟩
  ·rw [G1];exact Q9 (show rows.length<=1000 by omega) (by decide)
  ·rw [jc,T6];rfl
  ·intro r hr;rcases D1.mp hr with z|z
   ·exact g2 r z
   ·rw [P0.mp z];exact g
 refine ZX k (λj Â h'=> ∃c d l5 row,Â= [some (.lst p),some (.int (k:P4)),some (.int way),some (.int o),some (.int m),some (.lst R),some (.int (i:P4)),some (.lst S),c,d]/\0<=l5/\h' p=some [.int l5,.int fl]/\h' R=some (rows.map zM)/\h' S=some (row.map D.int)/\Ø p h h'/\row.length=j/\ ∀x∈row,0<=x/\x<=1000000) (by omega) (λR' r=>⟨_,rfl,r⟩)
  ⟨_,_,l4,[],rfl,l40,kD,kE,kS,bD,rfl,λr hr=>nomatch hr⟩ (λÂ h' z=>hC _ _ z) ?_
 clear kD kE kS bD;rintro j _ h6 hj ⟨c,d,l5,row,rfl,Ž,kD,kE,kF,bD,g1',g2'⟩;refine jg (λÂ h'=> ∃ (g:N0) (l6:P4),Â= [some (.lst p),some (.int (k:P4)),some (.int way),some (.int o),some (.int m),some (.lst R),some (.int (i:P4)),some (.lst S),some (.int (j:P4)),some (.bl g)]/\0<=l6/\h' p=some [.int l6,.int fl]/\h' R=some (rows.map zM)/\h' S=some (row.map D.int)/\Ø p h h') (λC hC=>⟨_,rfl,_,rfl,p,l5,fl,o,rfl,kD,Ž,o1,by omega,λr l6 r0 r1 ğ=>hC _ _ ⟨_,l6,rfl,ğ,jc,jf nR kE,jf nS kF,bD.put⟩⟩) ?_;clear kD kE kF bD;rintro _ _ ⟨g,l6,rfl,ğ,kD,kE,kF,bD⟩;refine jg (λÂ h'=> ∃ (g:N0) (l6:P4),Â= [some (.lst p),some (.int (k:P4)),some (.int way),some (.int o),some (.int m),some (.lst R),some (.int (i:P4)),some (.lst S),some (.int (j:P4)),some (.bl g)]/\0<=l6/\h' p=some [.int l6,.int fl]/\h' R=some (rows.map zM)/\h' S=some (row.map D.int)/\Ø p h h') (λC hC=>⟨_,rfl,_,rfl,Qs (λ_=>⟨_,rfl,_,rfl,_,rfl,by omega,_,rfl,Qs (λ_=>hC _ _ ⟨_,l6,rfl,ğ,kD,kE,kF,bD⟩) λ_=>⟨_,rfl,_,rfl,Qs (λ_=>⟨_,rfl,p,l6,fl,2,rfl,kD,ğ,by decide,by decide,λr l7 r0 r1 l70=>⟨_,rfl,hC _ _ ⟨_,l7,rfl,l70,jc,jf nR kE,jf nS kF,bD.put⟩⟩⟩) λ_=>hC _ _ ⟨_,l6,rfl,ğ,kD,kE,kF,bD⟩⟩⟩) λ_=>hC _ _ ⟨_,l6,rfl,ğ,kD,kE,kF,bD⟩⟩) ?_;clear kD kE kF bD;rintro _ _ ⟨g,l6,rfl,ğ,kD,kE,kF,bD⟩;refine jg (λÂ h'=> ∃ (g:N0) (l6:P4),Â= [some (.lst p),some (.int (k:P4)),some (.int way),some (.int o),some (.int m),some (.lst R),some (.int (i:P4)),some (.lst S),some (.int (j:P4)),some (.bl g)]/\0<=l6/\h' p=some [.int l6,.int fl]/\h' R=some (rows.map zM)/\h' S=some (row.map D.int)/\Ø p h h') (λC hC=>⟨_,rfl,_,rfl,Qs (λ_=>⟨_,rfl,_,rfl,Qs (λ_=>⟨_,rfl,_,rfl,by decide,_,rfl,Qs (λ_=>hC _ _ ⟨_,l6,rfl,ğ,kD,kE,kF,bD⟩) λ_=>⟨_,rfl,_,rfl,hC _ _ ⟨_,l6,rfl,ğ,kD,kE,kF,bD⟩⟩⟩) λ_=>⟨_,rfl,Qs (λ_=>hC _ _ ⟨_,l6,rfl,ğ,kD,kE,kF,bD⟩) λ_=>⟨_,rfl,_,rfl,hC _ _ ⟨_,l6,rfl,ğ,kD,kE,kF,bD⟩⟩⟩⟩) λ_=>hC _ _ ⟨_,l6,rfl,ğ,kD,kE,kF,bD⟩⟩) ?_;clear kD kE kF bD;rintro _ _ ⟨g,l6,rfl,ğ,kD,kE,kF,bD⟩;refine jg (λÂ h'=> ∃ (g:N0) (l6:P4),Â= [some (.lst p),some (.int (k:P4)),some (.int way),some (.int o),some (.int m),some (.lst R),some (.int (i:P4)),some (.lst S),some (.int (j:P4)),some (.bl g)]/\0<=l6/\h' p=some [.int l6,.int fl]/\h' R=some (rows.map zM)/\h' S=some (row.map D.int)/\Ø p h h') (λC hC=>⟨_,rfl,_,rfl,Qs (λ_=>⟨_,rfl,_,rfl,Qs (λ_=>⟨_,rfl,_,rfl,hC _ _ ⟨_,l6,rfl,ğ,kD,kE,kF,bD⟩⟩) λ_=>hC _ _ ⟨_,l6,rfl,ğ,kD,kE,kF,bD⟩⟩) λ_=>hC _ _ ⟨_,l6,rfl,ğ,kD,kE,kF,bD⟩⟩) ?_;clear kD kE kF bD;rintro _ _ ⟨g,l6,rfl,ğ,kD,kE,kF,bD⟩;have gi: ∀x r:P4,0<=r->r<m->x=0\/x=1->υ x (1+r)/\0<=x*(1+r)/\x*(1+r)<=1000000:=λx r r0 r1 hx=>by
  rcases hx with e|e<;>subst e
  ·exact⟨.inl ⟨by decide,by decide⟩,by omega,by omega⟩
  ·exact⟨.inl ⟨by decide,by decide⟩,by omega,by omega⟩
 refine⟨_,rfl,S,rfl,_,rfl,_,rfl,_,rfl,p,l6,fl,m,rfl,kD,ğ,m1,by omega,λr l7 r0 r1 l70=> ?_⟩;have gg:=gi (if g=true then 1 else 0) r r0 r1 (by cases g<;>decide);refine⟨gg.1,_,jf nS kF,?_,_,Sub.refl _,by omega,_,_,l7,row++ [(if g=true then 1 else 0)*(1+r)],rfl,l70,jf (E7 nS) jc,jf (E7 nSR) (jf nR kE),?_,(bD.put).putNew fS,by rw [P1,g1'];rfl,?_⟩
 ·rw [G1];exact Q9 (show row.length<=1000 by omega) (by decide)
 ·rw [jc,T6];rfl
 ·intro x hx;rcases D1.mp hx with z|z
  ·exact g2' x z
  ·rw [P0.mp z];exact gg.2
def Jz:RDn:=λds h Q=> ∃p l fl,∃k:G8,ds= [.lst p,.int (k:P4)]/\h p=some [.int l,.int fl]/\0<=l/\k<=6/\ ∀o l',ĩ k o->0<=l'->Q (wN o) (zm h p [.int l',.int fl])
def Vw (Z:Zs mg)(F:ò K "_law_order" "_law_order" yY f fd)(jp:ju P w K mg base n "_law_draw" ["_law_pen_here","_law_many_here"] zi):Î P w K mg base ì (n+1) f fd ["_law_pen_here","_law_many_here"] (ó K Jz):=by
 refine F.okM yq (λhr=>(js3 (ñ 2 yq (Jl zH)) (Xr O8 rfl (Ż Z (jv 1)) (Τ 3 yq) (ze (WL (KK (jv 2) (jk jp hr (j2 (jv 0) (æ jQ (jv 3) jF))) (jv 3))))) (zX (jC Þ rfl Z.tuple (by decide +kernel) (j1 (jv 2)))))) ?_;rintro ds h Q ⟨p,l,fl,k,rfl,hp,h0,hk,q⟩;refine⟨rfl,?_⟩;refine jg (λÂ h'=> ∃R,Â= [some (.lst p),some (.int (k:P4)),some (.lst R),none]/\R≠p/\h R=none/\h' R=some []/\h' p=some [.int l,.int fl]/\Ø p h h') (λC hC=> ?_) ?_
 ·exact⟨sz0,λR eR=>hC _ _ ⟨R,rfl,jl hp eR,eR,jc,jd hp eR,(Ø.refl p h).new eR⟩⟩
 rintro Â h1 ⟨R,rfl,nR,fR,kR,kp,bt⟩;refine jg (λÂ h'=> ∃a l2 o,Â= [some (.lst p),some (.int (k:P4)),some (.lst R),a]/\0<=l2/\ĩ k o/\h' R=some (o.map λ(i:G8)=>D.int (i:P4))/\h' p=some [.int l2,.int fl]/\Ø p h h') (λC hC=> ?_) ?_
 ·refine ZX k (λi Â h'=> ∃a l2 o,Â= [some (.lst p),some (.int (k:P4)),some (.lst R),a]/\0<=l2/\ĩ i o/\h' R=some (o.map λ(i:G8)=>D.int (i:P4))/\h' p=some [.int l2,.int fl]/\Ø p h h') (by omega) (λR' r=>⟨_,rfl,r⟩) ⟨none,l,[],rfl,h0,G04,kR,kp,bt⟩ (λÂ h' z=>hC _ _ z) ?_;rintro i _ h2 hi ⟨a,l2,o,rfl,Č,ho,kR2,kp2,bt2⟩;refine⟨_,rfl,R,rfl,_,rfl,_,rfl,p,l2,fl,(i:P4)+1,rfl,kp2,Č,by omega,by omega,λr l3 r0 r1 Ţ=> ?_⟩;have lo:o.length=i:=ho.ord.len;refine⟨_,rfl,r.toNat,_,by rw [pE r0],by omega,jf nR kR2,?_,_,Sub.refl _,by omega,_,l3,o.take r.toNat++i::o.drop r.toNat,rfl,Ţ,ho.insert r.toNat,?_,jf (E7 nR) jc,(bt2.put).putNew fR⟩
  ·rw [G1];exact Q9 (show o.length<=1000 by omega) (by decide)
  ·rw [jc,T6,M0,lS,lU]
 rintro _ h3 ⟨a,l2,o,rfl,Č,ho,kR3,kp3,bt3⟩;exact⟨_,rfl,_,kR3,_,bt3.sub kp3,q o l2 ho Č⟩
def yy:RDn:=λds h Q=> ∃T U,∃n e f:G8,ds= [jj T,jj U]/\Sq n e T/\Sq n f U/\e+f<=1000000/\n<=6/\Q (jj (ZA n T U)) h
def Vx (Z:Zs mg)(F:ò K "_law_times" "_law_times" yZ f fd):Î P w K mg base ì (n+1) f fd ["_law_one","_law_other"] (ó K yy):=by
 refine F.okM zk (λhr=>(js4 (ñ 2 zk (WQ Z (jv 0))) (ñ 3 zk (Jl zH)) (Xr O8 rfl (jP (jv 0)) (Τ 4 zk) (ze (WL (Sd (jv 3) (jC zg rfl Z.tuple (by decide +kernel) (j1 (ī 5 zk (Ż Z (jv 2)) (λ_ _ _ _=>(zl (DH rfl) rfl Z.sum (by decide +kernel) (j1 (ī 6 zk (Ż Z (jv 2)) (λ_ _ _ _=>(æ DN (Ă (jv 4) (jv 6)) (Ă (Ă (jv 1) (jv 6)) (jv 5))))))))))))))) (zX (jC Þ rfl Z.tuple (by decide +kernel) (j1 (jv 3)))))) ?_;rintro ds h Q ⟨T,U,k,b,f,rfl,hT,hU,hb,h6,q⟩;refine⟨rfl,?_⟩;refine jg (λÂ h'=>Â= [some (jj T),some (jj U),some (.int (k:P4)),none,none,none,none]/\h=h') (λC hC=>⟨_,rfl,hC _ _ ⟨by rw [G1,hT.len];rfl,rfl⟩⟩) ?_;rintro _ _ ⟨rfl,rfl⟩;refine jg (λÂ h'=> ∃R,Â= [some (jj T),some (jj U),some (.int (k:P4)),some (.lst R),none,none,none]/\h R=none/\h' R=some []/\Sub h h') (λC hC=> ?_) ?_
 ·exact⟨sz0,λR eR=>hC _ _ ⟨R,rfl,eR,jc,Sub.newAt (Sub.refl h) eR⟩⟩
 rintro _ h1 ⟨R,rfl,fR,kR,sb⟩;refine jg (λÂ h'=> ∃a b c,Â= [some (jj T),some (jj U),some (.int (k:P4)),some (.lst R),a,b,c]/\h' R=some ((ZA k T U).map zM)/\Sub h h') (λC hC=> ?_) ?_
 ·refine wE (j:=λ_=>some (T.map zM)) (T.map zM) (λi Â h'=> ∃a b c,Â= [some (jj T),some (jj U),some (.int (k:P4)),some (.lst R),a,b,c]/\h' R=some ((T.take i).map λr=>D.tup ((D6 k).map λj=> .int (jX k λm=>r.getD m 0*á U m j)))/\Sub h h') (λR' r=>⟨_,rfl,r⟩) (λ_ _ _ _=>rfl) ⟨_,_,_,rfl,kR,sb⟩ ?_ ?_
  ·rintro Â h' ⟨a,b,c,e,kR2,sb2⟩;refine hC _ _ ⟨a,b,c,e,?_,sb2⟩;rw [G1,K0,QH hT] at kR2;exact kR2
  rintro i d _ h2 hd ⟨a,b',c,rfl,kR2,sb2⟩;rw [P7] at hd;cases hx:T[i]? with
  |none=>rw [hx] at hd;cases hd
  |some r=>
   rw [hx] at hd;cases hd;have hr:=P6 hx;have Œ:i<T.length:=(P5.mp hx).1;refine⟨_,rfl,R,rfl,?_⟩;refine MP (D6 k) (λj=> .int (j:P4)) (λj=> .int (jX k λm=>r.getD m 0*á U m j)) (by rw [S9];omega) rfl (λR rr=>⟨_,rfl,(k:P4),rfl,by omega,by omega,rr⟩) (λj hj Q'' q''=> ?_) ?_
   ·refine HP (D6 k) (λm=> .int (m:P4)) (λm=>r.getD m 0*á U m j) (by rw [S9];omega) rfl (λR rr=>⟨_,rfl,(k:P4),rfl,by omega,by omega,rr⟩) (λm hm Q3 q3=> ?_) q'';have Ρ:=S4.mp hm;have hj':=S4.mp hj;refine⟨_,rfl,_,rfl,_,Wc (hT.row r hr) Ρ,_,rfl,_,rfl,_,DO hU Ρ,_,rfl,_,Wc (hU.row _ (Sq.getRow hU Ρ)) hj',?_,q3⟩;refine QF (e:=b) (f:=f) ?_ (hU.ent_nn Ρ hj') (by omega);have hm2:m<r.length:=by rw [hT.row r hr];exact Ρ
    have e1:r.getD m 0=r[m]:=by rw [R4,G5 hm2];rfl
    rw [e1];exact⟨hT.nn r hr _ (N6 hm2),hT.bit r hr _ (N6 hm2)⟩
   ·refine⟨_,kR2,?_,_,Sub.refl _,by rw [G1];omega,_,_,_,rfl,?_,?_⟩
    ·rw [G1,T3];exact Q9 (show min i T.length<=1000 by rw [hT.len];omega) (by decide)
    ·rw [jc,L6,hx,T6];rfl
    ·exact(sb2).over fR
 rintro _ h3 ⟨a,b,c,rfl,kR3,ų⟩;exact⟨_,rfl,_,kR3,_,ų,q⟩
def zS:RDn:=λds h Q=> ∃T,∃n e:G8,ds= [jj T]/\Sq n e T/\n<=6/\Q (jj (zL n T)) h
def WY (Z:Zs mg)(F:ò K "_law_marked" "_law_marked" yr f fd):Î P w K mg base ì (n+1) f fd ["_law_table_here"] (ó K zS):=by
 refine F.okM wR (λhr=>(ze (zX (jC zg rfl Z.tuple (by decide +kernel) (j1 (ī 1 wR (jP (jv 0)) (λ_ _ _ _=>(jC zg rfl Z.tuple (by decide +kernel) (j1 (ī 2 wR (jP (jv 1)) (λ_ _ _ _=>(jC VQ rfl Z.int (by decide +kernel) (j1 (ŭ FG (jv 2) jF)))))))))))))) ?_;rintro ds h Q ⟨T,k,b,rfl,hT,h6,q⟩;refine⟨rfl,?_⟩;refine MP T zM (λr=> .tup (r.map λx=> .int (if x≠0 then 1 else 0))) (by rw [hT.len];omega) rfl (λR r=>⟨_,rfl,r⟩) (λr hr Q' q'=> ?_) ⟨h,Sub.refl h,?_⟩
 ·refine MP r D.int (λx=> .int (if x≠0 then 1 else 0)) (by rw [hT.row r hr];omega) rfl (λR r=>⟨_,rfl,r⟩) (λx hx Q'' q''=>⟨_,rfl,?_⟩) q';show Q'' (.int (if decide (x>0)=true then 1 else 0)) h;have e:(if decide (x>0)=true then (1:P4) else 0)=if x≠0 then 1 else 0:=by
   have:=hT.nn r hr x hx
   by_cases z:x=0
   ·subst z;rfl
   ·rw [R6 z,R6 (M1 (by omega))]
  rw [e];exact q''
 ·rw [DP,<-DQ hT];exact q
def wU:RDn:=λds h Q=> ∃T,∃n e:G8,ds= [jj T]/\Sq n e T/\1<=n/\n<=6/\Q (.bl (wB T)) h
def WZ (Z:Zs mg)(F:ò K "_law_filled" "_law_filled" yt f fd):Î P w K mg base ì (n+1) f fd ["_law_table_here"] (ó K wU):=by
 refine F.okM vE (λhr=>(ze (zX (ŭ FG (zl (DY rfl) rfl Z.min (by decide +kernel) (j1 (ī 1 vE (jP (jv 0)) (λ_ _ _ _=>(zl (DY rfl) rfl Z.min (by decide +kernel) (j1 (jv 1))))))) jF)))) ?_;rintro ds h Q ⟨T,k,b,rfl,hT,h1,h6,q⟩;refine⟨rfl,?_⟩;have ne: ∀r∈T,r≠ []:=λr hr z=>by have:=hT.row r hr;rw [z] at this;simp at this;omega
 refine KO T zM Zp (by rw [hT.len];omega) rfl (λR r=>⟨_,rfl,r⟩) (λr hr Q' q'=>⟨_,rfl,FZ (ne r hr) λm m1 m2=>by rw [Re m1 m2];exact q'⟩) ?_ (λm m1 m2=>⟨h,Sub.refl h,?_⟩)
 ·intro z;have:=hT.len;rw [z] at this;simp at this;omega
 ·show Q (.bl (decide (m>0))) h;rw [YS hT ne m1 m2];exact q
def ZB (Z:Zs mg)(F:ò K "_law_is_table" "_law_is_table" ww f fd)(UT:ju P w K mg base n "_law_whole" ["_law_thing"] yu):Î P w K mg base ì (n+1) f fd ["_law_thing"] (ó K jJ):=by
 refine F.okM wa (λhr=>(js3 (Za (jpt (Px (wo (wA (ZZ (T:= "tuple") (by decide) rfl Z.isinstance rfl Z.tuple (by decide +kernel) (jv 0)))) (Nw (wo (Xq GH GH jF (WQ Z (jv 0)) jF))))) (zX ĸ)) (Xr O8 rfl (jP (jv 0)) (Τ 1 wa) (Ų (Za (jpt (Px (wo (wA (ZZ (T:= "tuple") (by decide) rfl Z.isinstance rfl Z.tuple (by decide +kernel) (jv 1)))) (Nw (ř Ķ (WQ Z (jv 1)) (WQ Z (jv 0)))))) (zX ĸ)) (Za (wo (wA (zl (Jk rfl) rfl Z.all J5 (j1 (ī 2 wa (jP (jv 1)) (λ_ _ _ _=>(MO (jk UT hr (j1 (jv 2))) (MN (ŭ Nn (jv 2) jF))))))))) (zX ĸ)))) (zX ĸ))) ?_;rintro ds h Q ⟨d,rfl,ok,q⟩;refine⟨rfl,?_⟩;obtain⟨nm,hn⟩:=wG ok;refine jg (λÂ h'=>h'=h/\Â= [some d,none,none]/\ ∃es,d= .tup es/\1<=es.length/\es.length<=6) (λC hC=> ?_) (λÂ h' hV=> ?_)
 ·simp only [Dp,Fl,VO,vp,dIs,Pw,wn,M0,aU,D2,N8,T4,U5,O6,E1,V5,D.bl.injEq,Xj,dC,Xk,WK,Yi,ĝ,zj,JM,BT,Nm,Y7,hn];cases d with
  |tup es=>
   cases hn;simp only [FI]
   by_cases h1:1<=es.length
   ·by_cases h6:es.length<=6
    ·have Ź:(1:P4)<=es.length:=by omega
     have h6':(es.length:P4)<=6:=by omega
     simp [Ź,h6'];exact hC _ _ ⟨rfl,rfl,es,rfl,h1,h6⟩
    ·have Ź:(1:P4)<=es.length:=by omega
     have h6': ¬ (es.length:P4)<=6:=by omega
     simp [Ź,h6'];exact⟨h,Sub.refl h,by simpa [UF,h1,h6] using q⟩
   ·have Ź: ¬ (1:P4)<=es.length:=by omega
    simp [Ź];exact⟨h,Sub.refl h,by simpa [UF,h1] using q⟩
  |_=>cases hn<;>exact⟨h,Sub.refl h,q⟩
 obtain⟨eh,e,es,ed,h1,h6⟩:=hV;subst eh ed e;obtain⟨hl,ht⟩:=Zj ok;have qf: ∀r∈es,UE r es.length=false->Q (.bl false) h':=λr hr z=>by
  have:UF (.tup es)=false:=by
   simp only [UF,M1 h1,M1 h6,K3];rw [List.all_eq_false];exact⟨r,hr,by simp [z]⟩
  rw [<-this];exact q
 refine jg (λÂ h2=> ∃a b,Â= [some (.tup es),a,b]/\h2=h'/\ ∀r∈es,UE r es.length=true) (λC hC=> ?_) (λÂ h2 hV=> ?_)
 rotate_left
 ·obtain⟨a,b,e,e2,hr⟩:=hV;subst e e2;simp only [Xj,dC,Xk];refine⟨_,Sub.refl _,?_⟩;have:UF (.tup es)=true:=by
   simp only [UF,M1 h1,M1 h6,K3];exact B0.mpr hr
  rw [<-this];exact q
 refine wE (j:=λ_=>some es) es (λi Â h2=> ∃a b,Â= [some (.tup es),a,b]/\h2=h'/\ ∀r∈es.take i,UE r es.length=true) (λR' r=>⟨_,rfl,r⟩) (λ_ _ _ _=>rfl) ⟨_,_,rfl,rfl,λr hr=>by simp at hr⟩
  (λÂ h2 ⟨a,b,e,e2,hr⟩=>hC _ _ ⟨a,b,e,e2,λr z=>hr r (by rw [K0];exact z)⟩) ?_
 rintro i r Â h2 hi ⟨a,b,e,e2,hr⟩;subst e e2;have rm:r∈es:=P6 hi;have Œ:i<es.length:=(P5.mp hi).1;obtain⟨rn,hrn⟩:=wG (ht r rm);show yc _ _ _ [some (.tup es),some r,b] h2;refine jg (λÂ h3=>h3=h2/\Â= [some (.tup es),some r,b]/\ ∃ns,r= .tup ns/\ns.length=es.length) (λC hC=> ?_) (λÂ h3 hV=> ?_)
 ·simp only [Dp,Fl,VO,vp,dIs,Pw,W5,E1,V5,D.bl.injEq,Xj,dC,Nxt,Xk,WK,Ņ,ĝ,zj,JM,BT,neD,Y7,hrn];cases r with
  |tup ns=>
   cases hrn;simp only [FI]
   by_cases hk:(ns.length:P4)=es.length
   ·simp [hk];exact hC _ _ ⟨rfl,rfl,ns,rfl,by omega⟩
   ·simp [hk];exact⟨h2,Sub.refl h2,qf _ rm (by simp [UE,hk])⟩
  |_=>cases hrn<;>exact⟨h2,Sub.refl h2,qf _ rm rfl⟩
 obtain⟨eh,e,ns,er,hns⟩:=hV;subst eh e er;obtain⟨hl2,ht2⟩:=Zj (ht _ rm);simp only [Dp,VO,vp,ĝ,zj,JM,Xj,dC,Nxt,Xk,WK];refine Xm (ds:=ns) (h1:=h3) (j:=λ_=>some ns) (λx=> .bl (MQ x)) (T8 (jV hl2)) rfl (λR r=>⟨.tup ns,rfl,r⟩) (λd hd Q' q'=> ?_) (λp hp=> ?_)
 ·obtain⟨nn,hnn⟩:=wG (ht2 d hd);refine⟨d,rfl,d,nn,rfl,hnn,Mr d,rfl,?_⟩;cases d with
  |int i=>exact vt ⟨.int i,rfl,q'⟩
  |_=>exact yF q'
 ·refine⟨p,ns.map MQ,rfl,by rw [jc];simp,_,rfl,?_⟩;have X1Y:UE (.tup ns) es.length=ns.all MQ:=by simp [UE,hns]
  have e1:(ns.map MQ).all id=ns.all MQ:=by rw [aV];rfl
  rw [zf hp,e1,<-X1Y];cases hb:UE (.tup ns) es.length with
  |true=>
   refine yF ⟨h3,Sub.refl _,by omega,_,_,rfl,rfl,?_⟩;intro r' hr';rw [L6,hi] at hr';rcases D1.mp hr' with z|z
   ·exact hr r' z
   ·simp at z;subst z;exact hb
  |false=>exact vt ⟨h3,Sub.refl _,qf _ rm hb⟩
def JB (Z:Zs mg)(F:ò K "_law_good_table" "_law_good_table" zP f fd)(UQ:ju P w K mg base n "_law_order" ["_law_pen_here","_law_many_here"] Jz)(jp:ju P w K mg base n "_law_draw" ["_law_pen_here","_law_many_here"] zi):Î P w K mg base ì (n+1) f fd ["_law_pen_here","_law_size"] (ó K wg):=by
 refine F.okM jz (λhr=>(js6 (ñ 2 jz (jk UQ hr (j2 (jv 0) (jv 1)))) (ñ 3 jz (Ă (Jl (j3 jF jF jF)) (jk jp hr (j2 (jv 0) jF)))) (BW (i:=8) (k:=4) (js:= [8]) rfl jz.nd rfl (V0 rfl) (zb (by rfl)) (Ż Z (jv 1)) (by decide) rfl (by first|exact V0 rfl|exact Z0 rfl) (λX' hX=>wq) (λX' hX=>by obtain⟨C,s₀,H₀,ex,rfl⟩:=hX;exact(ī 9 jz (Ż Z (jv 1)) (λ_ _ _ _=>(jC VQ rfl Z.int (by decide +kernel) (j1 (ŭ ú (jk jp hr (j2 (jv 0) (jv 3))) jF))))))) (Xr O8 rfl (Ż Z (jv 1)) (Τ 5 jz) (Ų (Tv (i:=6) (j:=7) rfl jz.nd rfl rfl (by decide) rfl rfl (j2 (Ă (jv 2) (jv 5)) (Ă (jv 2) (æ Jj (æ jQ (jv 5) jF) (jv 1)))) rfl) (Oj (æ jQ jF (jk jp hr (j2 (jv 0) jF))) (QD (Ă (jv 4) (jv 6)) (jv 7))))) (Oj jF (QD (Ă (jv 4) (Ă (jv 2) (Ty jF))) (Ă (jv 2) (Ă (Jl (j2 (æ Jj jF (jv 1)) (æ Dt (jv 1) jF))) (jk jp hr (j2 (jv 0) jF)))))) (zX (jC zg rfl Z.tuple (by decide +kernel) (j1 (ī 10 jz (jP (jv 4)) (λ_ _ _ _=>(jC Þ rfl Z.tuple (by decide +kernel) (j1 (jv 10)))))))))) ?_;rintro ds h Q ⟨p,l,fl,k,rfl,hp,h0,hk1,hk6,q⟩;refine⟨rfl,?_⟩;refine jg (λÂ h'=> ∃o l2,Â= [some (.lst p),some (.int (k:P4)),some (wN o),none,none,none,none,none,none,none,none]/\ĩ k o/\0<=l2/\h' p=some [.int l2,.int fl]/\Ø p h h') (λC hC=>⟨_,rfl,_,rfl,p,l,fl,k,rfl,hp,h0,hk6,λo l2 ho Č=>hC _ _ ⟨o,l2,rfl,ho,Č,jc,Ø.upd⟩⟩) ?_;rintro _ h1 ⟨o,l2,rfl,ho,Č,kp,bt⟩;refine jg (λÂ h'=> ∃ż l3,Â= [some (.lst p),some (.int (k:P4)),some (wN o),some (.int ż),none,none,none,none,none,none,none]/\0<ż/\ż<1000/\0<=l3/\h' p=some [.int l3,.int fl]/\Ø p h h') (λC hC=> ?_) ?_
 ·refine⟨sz3,λp1 e1=>⟨_,rfl,p,l2,fl,3,rfl,jd kp e1,Č,by decide,by decide,λr l3 r0 r1 Ţ=> ?_⟩⟩;obtain⟨ż,ho',eo⟩:=yM (xs:= [D.int 2,D.int 4,D.int 9]) r0 r1;refine⟨_,ż,jf (jl kp e1) jc,eo,?_⟩;obtain⟨x,rfl,x1,x2⟩: ∃x:P4,ż= .int x/\0<x/\x<1000:=by
   simp only [S0,C5,or_false] at ho';rcases ho' with e|e|e<;>exact⟨_,e,by decide,by decide⟩
  exact hC _ _ ⟨x,l3,rfl,x1,x2,Ţ,jc,(bt.new e1).put⟩
 rintro _ h2 ⟨ż,l3,rfl,of1,of2,Ţ,kp,bt⟩;refine jg (λÂ h'=> ∃R rs l4,Â= [some (.lst p),some (.int (k:P4)),some (wN o),some (.int ż),some (.lst R),none,none,none,none,none,none]/\0<=l4/\h' p=some [.int l4,.int fl]/\Ø p h h'/\ĉ k h h' p R rs) (λC hC=> ?_) ?_
 ·refine VX (h1:=h2) k (λi ys h'=> ∃rs l4,ys=rs.map D.lst/\rs.length=i/\0<=l4/\h' p=some [.int l4,.int fl]/\Ø p h h'/\p ∉ rs/\ ∀a∈rs,h a=none/\ ∃r,h' a=some (r.map D.int)/\wM k r) (by omega) (λR r=>⟨_,rfl,r⟩) ⟨[],l3,rfl,rfl,Ţ,kp,bt,by simp,by simp⟩ (λi ys h' ⟨rs,l4,e,el,_⟩=>by rw [e,G1];exact el) ?_ ?_
  ·rintro i ys h3 hi ⟨rs,l4,rfl,lrs,l40,kp3,bt3,X0J,ō⟩;refine VX (h1:=h3) k (λj zs h'=> ∃r l5,zs=r.map D.int/\r.length=j/\(∀x∈r,0<=x/\x<=1000000)/\0<=l5/\h' p=some [.int l5,.int fl]/\Ø p h h'/\(∀a∈rs,∃r,h' a=some (r.map D.int)/\wM k r)) (by omega) (λR r=>⟨_,rfl,r⟩) ⟨[],l4,rfl,rfl,by simp,l40,kp3,bt3,λa ha=>(ō a ha).2⟩ (λj zs h' ⟨r,l5,e,el,_⟩=>by rw [e,G1];exact el) ?_ ?_
   ·rintro j zs h4 hj ⟨r,l5,rfl,lr,gr,Ž,kp4,bt4,X0n⟩;refine⟨_,rfl,_,rfl,p,l5,fl,ż,rfl,kp4,Ž,of1,by omega,λx l6 x0 x1' ğ=> ?_⟩;refine⟨_,Sub.refl _,by omega,r++ [if decide (x=1)=true then 1 else 0],l6,by rw [T6];rfl,by rw [P1,lr];rfl,?_,ğ,jc,bt4.put,λa ha=> ?_⟩
    ·intro y hy;rcases D1.mp hy with z|z
     ·exact gr y z
     ·rw [P0.mp z];split<;>omega
    ·obtain⟨r',e',g'⟩:=X0n a ha;exact⟨r',jf (λz=>X0J (z ▸ ha)) e',g'⟩
   ·rintro zs h4 ⟨r,l5,rfl,lr,gr,Ž,kp4,bt4,X0n⟩ q4 e4;refine⟨_,Sub.refl _,by omega,rs++ [q4],l5,by rw [T6];rfl,by simp [lrs],Ž,jd kp4 e4,bt4.new e4,?_,λa ha=> ?_⟩
    ·intro z;rcases D1.mp z with y|y
     ·exact X0J y
     ·exact jl kp4 e4 (P0.mp y).symm
    ·rcases D1.mp ha with z|z
     ·obtain⟨r',e',g'⟩:=X0n a z;exact⟨(ō a z).1,r',jd e' e4,g'⟩
     ·have:=P0.mp z;subst this;exact⟨ZW bt4 e4 (jl kp4 e4),r,jc,lr,gr⟩
  ·rintro ys h3 ⟨rs,l4,rfl,lrs,l40,kp3,bt3,X0J,ō⟩ R eR;refine hC _ _ ⟨R,rs,l4,rfl,l40,jd kp3 eR,bt3.new eR,⟨jc,lrs,?_,ZW bt3 eR (jl kp3 eR),X0J,jl kp3 eR,λa ha=>⟨(ō a ha).1,?_⟩⟩⟩
   ·intro hR;obtain⟨_,r,e',_⟩:=ō R hR;rw [e'] at eR;cases eR
   ·obtain⟨r,e',g'⟩:=(ō a ha).2;exact⟨r,jd e' eR,g'⟩
 rintro _ h3 ⟨R,rs,l4,rfl,l40,kp,bt,g⟩;refine jg (λÂ h'=> ∃a b c l5,Â= [some (.lst p),some (.int (k:P4)),some (wN o),some (.int ż),some (.lst R),a,b,c,none,none,none]/\0<=l5/\h' p=some [.int l5,.int fl]/\Ø p h h'/\ĉ k h h' p R rs) (λC hC=> ?_) ?_
 ·refine ZX k (λi Â h'=> ∃a b c l5,Â= [some (.lst p),some (.int (k:P4)),some (wN o),some (.int ż),some (.lst R),a,b,c,none,none,none]/\0<=l5/\h' p=some [.int l5,.int fl]/\Ø p h h'/\ĉ k h h' p R rs) (by omega) (λR r=>⟨_,rfl,r⟩) ⟨none,none,none,l4,rfl,l40,kp,bt,g⟩ (λÂ h' z=>hC _ _ z) ?_;rintro i _ h4 hi ⟨a,b,c,l5,rfl,Ž,kp,bt,g⟩;obtain⟨y1,hy1,ey1⟩:=Xu ho hi;obtain⟨y2,hy2,ey2⟩:=Xu ho (Z5 (i+1) (by omega:0<k));have em:((i:P4)+1)%(k:P4)=(((i+1)%k:G8):P4):=by rw [rS,sJ];rfl
  rw [<-em] at ey2;refine vC [some (.lst p),some (.int (k:P4)),some (wN o),some (.int ż),some (.lst R),some (.int (i:P4)),some (.int (y1:P4)),some (.int (y2:P4)),none,none,none] (λC2 Θ=> ?_) ?_
  ·exact⟨_,rfl,_,rfl,_,ey1,_,rfl,_,rfl,_,rfl,(by omega:(0:P4)<(k:P4)),_,ey2,_,_,rfl,Θ⟩
  refine⟨_,rfl,p,l5,fl,3,rfl,kp,Ž,by decide,by decide,λr l6 r0 r1 ğ=> ?_⟩;have g2:=g.pen [.int l6,.int fl];obtain⟨a',r',at',ha',er',gr',fa',na'⟩:=g2.pick hy1;exact⟨_,rfl,_,rfl,_,_,g2.at_,at',_,rfl,a',(y2:P4),_,y2,rfl,rfl,er',Rj (by rw [G1,gr'.1];exact hy2),_,Sub.refl _,by omega,_,_,_,l6,rfl,ğ,jf (E7 na') jc,(bt.put).putNew fa',g2.set ha' er' gr' (by omega) (by omega)⟩
 rintro _ h5 ⟨a,b,c,l5,rfl,Ž,kp,bt,g⟩;obtain⟨z1,hz1,ez1⟩:=NL ho hk1;obtain⟨a1,r1,ű,ha1,er1,gr1,fa1,na1⟩:=g.pick hz1;refine jg (λÂ h'=> ∃l6,Â= [some (.lst p),some (.int (k:P4)),some (wN o),some (.int ż),some (.lst R),a,b,c,none,none,none]/\0<=l6/\h' p=some [.int l6,.int fl]/\Ø p h h'/\ĉ k h h' p R rs) (λC hC=> ?_) ?_
 ·refine⟨_,rfl,_,rfl,_,ez1,_,_,g.at_,ű,_,rfl,_,rfl,(by omega:(0:P4)<(k:P4)),_,rfl,sz2,λq1 e1=>⟨_,rfl,p,l5,fl,2,rfl,jd kp e1,Ž,by decide,by decide,λr l6 r0 r1' ğ=> ?_⟩⟩;obtain⟨d,hd,ed⟩:=yM (xs:= [D.int ((1:P4)%(k:P4)),D.int ((k:P4)-1)]) r0 r1';obtain⟨w,rfl,hw⟩: ∃w:G8,d= .int (w:P4)/\w<k:=by
   simp only [S0,C5,or_false] at hd;rcases hd with e|e
   ·exact⟨1%k,by rw [e,rS];rfl,Z5 _ (by omega)⟩
   ·exact⟨k-1,by rw [e];congr 1;omega,by omega⟩
  obtain⟨w2,hw2,ew2⟩:=Xu ho hw;have g':=(g.new e1 [D.int ((1:P4)%(k:P4)),D.int ((k:P4)-1)]).pen [.int l6,.int fl];have her:zm (zm h5 q1 [D.int ((1:P4)%(k:P4)),D.int ((k:P4)-1)]) p [.int l6,.int fl] a1=some (r1.map D.int):=jf na1 (jd er1 e1);exact⟨_,_,jf (jl kp e1) jc,ed,_,ew2,a1,(w2:P4),_,w2,rfl,rfl,her,Rj (by rw [G1,gr1.1];exact hw2),hC _ _ ⟨l6,rfl,ğ,jf (E7 na1) jc,((bt.new e1).put).putNew fa1,g'.set ha1 her gr1 (by decide) (by decide)⟩⟩
 rintro _ h6 ⟨l6,rfl,ğ,kp,bt,g⟩;obtain⟨T,gT,eT⟩:=g.tab;refine MP (j:=λh=>h R) rs D.lst (λa=> .tup ((h6 a).getD [])) (by rw [g.len];omega) g.at_ (λR r=>⟨_,rfl,r⟩) (λa ha Q' q'=> ?_) ⟨_,bt.sub kp,?_⟩
 ·obtain⟨_,r,er,_⟩:=g.row a ha;rw [er] at q';exact⟨_,rfl,_,er,q'⟩
 ·rw [eT];exact q T l6 gT ğ
def Zu:RDn:=λds h Q=> ∃p l fl,ds= [.lst p]/\h p=some [.int l,.int fl]/\0<=l/\ ∀F n Ts l' h',h F=none->h' F=some (Ts.map jj)->å n Ts->Ø p h h'->h' p=some [.int l',.int fl]->0<=l'->Q (.lst F) h'
def UL (Z:Zs mg)(F:ò K "_law_many" "_law_many" vV f fd)(jp:ju P w K mg base n "_law_draw" ["_law_pen_here","_law_many_here"] zi)(US:ju P w K mg base n "_law_table" ["_law_pen_here","_law_size"] wg)(Zm:ju P w K mg base n "_law_good_table" ["_law_pen_here","_law_size"] wg):Î P w K mg base ì (n+1) f fd ["_law_pen_here"] (ó K Zu):=by
 refine F.okM jH (λhr=>(js4 (Tv (i:=1) (j:=2) rfl jH.nd rfl rfl (by decide) rfl rfl (j2 (æ jQ jF (Ă (Jl (œ jF (by exact(j4 jF jF jF jF)))) (jk jp hr (j2 (jv 0) jF)))) (æ jQ jF (jk jp hr (j2 (jv 0) jF)))) rfl) (ñ 3 jH (Jl zH)) (Xr O8 rfl (Ż Z (jv 2)) (Τ 4 jH) (js5 (ñ 5 jH (jk US hr (j2 (jv 0) (jv 1)))) (ñ 6 jH (jk jp hr (j2 (jv 0) jF))) (Za (ř ú (jv 6) jF) (ñ 5 jH (jk Zm hr (j2 (jv 0) (jv 1))))) (Za (jpt (Tt (ř ú (jv 6) jF) (Tr (ř (Qz hr.units) (jv 3) (Jl zH))))) (ñ 5 jH (jC zg rfl Z.tuple (by decide +kernel) (j1 (ī 7 jH (Ż Z (jv 1)) (λ_ _ _ _=>(jC zg rfl Z.tuple (by decide +kernel) (j1 (ī 8 jH (jP (Ă (jv 3) jF)) (λ_ _ _ _=>(Ă (jv 8) (jv 7)))))))))))) (WL (Sd (jv 3) (jv 5))))) (zX (jv 3)))) ?_;rintro ds h Q ⟨p,l,fl,rfl,hp,h0,q⟩;refine⟨rfl,?_⟩;refine jg (λÂ h'=> ∃ (k m:G8) (l1:P4),Â= [some (.lst p),some (.int (k:P4)),some (.int (m:P4)),none,none,none,none,none,none]/\1<=k/\k<=3/\1<=m/\m<=3/\0<=l1/\h' p=some [.int l1,.int fl]/\Ø p h h') (λC hC=> ?_) ?_
 ·refine⟨sz5,λp1 e1=>⟨_,rfl,p,l,fl,5,rfl,jd hp e1,h0,by decide,by decide,λr l1 r0 r1 Φ=> ?_⟩⟩;obtain⟨d,hd,ed⟩:=yM (xs:= [D.int 0,D.int 1,D.int 2,D.int 2,D.int 1]) r0 r1;obtain⟨x,rfl,x0,x2⟩: ∃x:P4,d= .int x/\0<=x/\x<=2:=by
   simp only [S0,C5,or_false] at hd;rcases hd with e|e|e|e|e<;>exact⟨_,e,by decide,by decide⟩
  refine⟨_,_,jf (jl hp e1) jc,ed,_,rfl,p,l1,fl,3,rfl,jc,Φ,by decide,by decide,λy l2 y0 y1 Č=> ?_⟩;obtain⟨k,hk,k1,k3⟩: ∃k:G8,1+x=(k:P4)/\1<=k/\k<=3:=⟨(1+x).toNat,by omega,by omega,by omega⟩;obtain⟨m,hm,m1,m3⟩: ∃m:G8,1+y=(m:P4)/\1<=m/\m<=3:=⟨(1+y).toNat,by omega,by omega,by omega⟩;exact⟨_,_,rfl,hC _ _ ⟨k,m,l2,by rw [<-hk,<-hm];rfl,k1,k3,m1,m3,Č,jc,((Ø.refl p h).new e1).put.put⟩⟩
 rintro _ h1 ⟨k,m,l1,rfl,k1,k3,m1,m3,Φ,kp,bt⟩;refine jg (λÂ h'=> ∃F,Â= [some (.lst p),some (.int (k:P4)),some (.int (m:P4)),some (.lst F),none,none,none,none,none]/\h' F=some (([]:G0 (G0 (G0 P4))).map jj)/\h F=none/\F≠p/\h' p=some [.int l1,.int fl]/\Ø p h h') (λC hC=>⟨sz0,λF eF=>hC _ _ ⟨F,rfl,jc,ZW bt eF (jl kp eF),jl kp eF,jd kp eF,bt.new eF⟩⟩) ?_;rintro _ h2 ⟨F,rfl,kF,fF,nF,kp,bt⟩;refine jg (λÂ h'=> ∃ (Ts:G0 (G0 (G0 P4))) (a b c:P9 D) (l2:P4),Â= [some (.lst p),some (.int (k:P4)),some (.int (m:P4)),some (.lst F),a,b,c,none,none]/\h' F=some (Ts.map jj)/\Ts.length=m/\(∀T∈Ts,Sq k 20 T)/\0<=l2/\h' p=some [.int l2,.int fl]/\Ø p h h') (λC hC=> ?_) ?_
 ·refine ZX m (λi Â h'=> ∃ (Ts:G0 (G0 (G0 P4))) (a b c:P9 D) (l2:P4),Â= [some (.lst p),some (.int (k:P4)),some (.int (m:P4)),some (.lst F),a,b,c,none,none]/\h' F=some (Ts.map jj)/\Ts.length=i/\(∀T∈Ts,Sq k 20 T)/\0<=l2/\h' p=some [.int l2,.int fl]/\Ø p h h') (by omega) (λR r=>⟨_,rfl,r⟩) ⟨[],none,none,none,l1,rfl,kF,rfl,by simp,Φ,kp,bt⟩ (λÂ h' z=>hC _ _ z) ?_;rintro i _ h3 hi ⟨Ts,a,b,c,l2,rfl,kF,lT,sT,Č,kp,bt⟩;refine jg (λÂ h'=> ∃T l2,Â= [some (.lst p),some (.int (k:P4)),some (.int (m:P4)),some (.lst F),some (.int (i:P4)),some (jj T),c,none,none]/\Sq k 20 T/\h' F=some (Ts.map jj)/\Ts.length=i/\(∀T∈Ts,Sq k 20 T)/\0<=l2/\h' p=some [.int l2,.int fl]/\Ø p h h') (λC2 Θ=>⟨_,rfl,_,rfl,p,l2,fl,k,rfl,kp,Č,k1,by omega,λT l3 gT Ţ=>Θ _ _ ⟨T,l3,rfl,gT.sq,jf nF kF,lT,sT,Ţ,jc,bt.put⟩⟩) ?_;rintro _ h4 ⟨T,l2,rfl,hT,kF,lT,sT,Č,kp,bt⟩;refine jg (λÂ h'=> ∃w l2,Â= [some (.lst p),some (.int (k:P4)),some (.int (m:P4)),some (.lst F),some (.int (i:P4)),some (jj T),some (.int w),none,none]/\h' F=some (Ts.map jj)/\Ts.length=i/\(∀T∈Ts,Sq k 20 T)/\0<=l2/\h' p=some [.int l2,.int fl]/\Ø p h h') (λC2 Θ=>⟨_,rfl,p,l2,fl,4,rfl,kp,Č,by decide,by decide,λw l3 w0 w1 Ţ=>Θ _ _ ⟨w,l3,rfl,jf nF kF,lT,sT,Ţ,jc,bt.put⟩⟩) ?_;rintro _ h5 ⟨w,l2,rfl,kF,lT,sT,Č,kp,bt⟩;refine jg (λÂ h'=> ∃T l2,Â= [some (.lst p),some (.int (k:P4)),some (.int (m:P4)),some (.lst F),some (.int (i:P4)),some (jj T),some (.int w),none,none]/\Sq k 20 T/\h' F=some (Ts.map jj)/\Ts.length=i/\(∀T∈Ts,Sq k 20 T)/\0<=l2/\h' p=some [.int l2,.int fl]/\Ø p h h') (λC2 Θ=>⟨_,rfl,_,rfl,Qs (λ_=>⟨_,rfl,_,rfl,p,l2,fl,k,rfl,kp,Č,k1,by omega,λT2 l3 gT Ţ=>Θ _ _ ⟨T2,l3,rfl,gT.sq,jf nF kF,lT,sT,Ţ,jc,bt.put⟩⟩) (λ_=>Θ _ _ ⟨T,l2,rfl,hT,kF,lT,sT,Č,kp,bt⟩)⟩) ?_;rintro _ h6 ⟨T,l2,rfl,hT,kF,lT,sT,Č,kp,bt⟩;refine jg (λÂ h'=> ∃T l2,Â= [some (.lst p),some (.int (k:P4)),some (.int (m:P4)),some (.lst F),some (.int (i:P4)),some (jj T),some (.int w),none,none]/\Sq k 20 T/\h' F=some (Ts.map jj)/\Ts.length=i/\(∀T∈Ts,Sq k 20 T)/\0<=l2/\h' p=some [.int l2,.int fl]/\Ø p h h') (λC2 Θ=> ?_) ?_
  ·refine⟨_,rfl,_,rfl,Qs (λ_=> ?_) (λ_=>yF (Θ _ _ ⟨T,l2,rfl,hT,kF,lT,sT,Č,kp,bt⟩))⟩;refine⟨_,rfl,sz0,λp1 e1=> ?_⟩;refine⟨.list (Ts.map wz),.list [],⟨_,_,rfl,jd kF e1,Ā.tos _ Ts⟩,⟨_,_,rfl,jc,rfl⟩,yk Ts,rfl,_,rfl,?_⟩;cases Ts with
   |nil=>exact yF (Θ _ _ ⟨T,l2,rfl,hT,jd kF e1,lT,sT,Č,jd kp e1,bt.new e1⟩)
   |cons T0 Ts'=>
    have s0:=sT T0 D3;have kF':zm h6 p1 [] F=some ((T0::Ts').map jj):=jd kF e1;refine vt (MP (D6 k) (λj=> .int (j:P4)) (λj=> .tup (T0.map λr=> .int (r.getD j 0))) (by rw [S9];omega) rfl (λR r=>⟨_,rfl,(k:P4),rfl,by omega,by omega,r⟩) (λj hj Q' q'=> ?_) ?_)
    ·refine MP T0 zM (λr=> .int (r.getD j 0)) (by rw [s0.len];omega) rfl (λR r=>⟨_,rfl,_,_,kF',(wJ (show ((T0::Ts').map jj)[0]? =some (jj T0) from rfl)),r⟩) (λr hr Q'' q''=>⟨_,rfl,_,rfl,_,Wc (s0.row r hr) (S4.mp hj),q''⟩) q'
    ·have e1': ∀j,T0.map (λr=>D.int (r.getD j 0))=(D6 k).map λi=>D.int (á T0 i j):=λj=>by
      conv=>lhs;rw [jT T0 [],s0.len]
      rw [M7];rfl
     have e2:((D6 k).map λj=>D.tup (T0.map λr=> .int (r.getD j 0)))=(D6 k).map λj=>D.tup ((D6 k).map λi=>D.int (á T0 i j)):=B2 λj _=>by rw [e1']
     rw [e2,Ef];exact Θ _ _ ⟨Ee k T0,l2,rfl,s0.turn,kF',lT,sT,Č,jd kp e1,bt.new e1⟩
  rintro _ h7 ⟨T,l2,rfl,hT,kF,lT,sT,Č,kp,bt⟩;refine⟨_,rfl,F,rfl,_,rfl,_,kF,?_,_,Sub.refl _,by omega,Ts++ [T],_,_,_,l2,rfl,?_,by rw [P1,lT];rfl,?_,Č,jf (E7 nF) kp,bt.putNew fF⟩
  ·rw [G1];exact jV (by omega)
  ·rw [jc,T6];rfl
  ·intro U hU;rcases D1.mp hU with z|z
   ·exact sT U z
   ·rw [P0.mp z];exact hT
 rintro _ h3 ⟨Ts,a,b,c,l2,rfl,kF,lT,sT,Č,kp,bt⟩;exact⟨_,rfl,h3,Sub.refl _,q F k Ts l2 h3 fF kF ⟨k1,k3,by omega,by omega,sT⟩ bt kp Č⟩
def WC:RDn:=λds h Q=> ∃M A Ts W,∃n:G8,ds= [jj M,.lst A,wN W]/\Sq n 1 M/\h A=some (Ts.map jj)/\å n Ts/\(∀i∈W,i<Ts.length)/\W.length<=1300/\Q (jj (QN n Ts M W)) h
def Qf (Z:Zs mg)(F:ò K "_law_led" "_law_led" Zi f fd)(jU:ju P w K mg base n "_law_marked" ["_law_table_here"] zS)(vd:ju P w K mg base n "_law_times" ["_law_one","_law_other"] yy):Î P w K mg base ì (n+1) f fd ["_law_here","_law_tables","_law_way"] (ó K WC):=by
 refine F.okM vW (λhr=>(Ų (Xr O8 rfl (jP (jv 2)) (Τ 3 vW) (ze (ñ 0 vW (jk jU hr (j1 (jk vd hr (j2 (jv 0) (Ă (jv 1) (jv 3))))))))) (zX (jv 0)))) ?_;rintro ds h Q ⟨M,A,Ts,W,n,rfl,hM,kA,hT,hW,hl,q⟩;refine⟨rfl,?_⟩;have n1:=hT.n1;have n3:=hT.n3;refine jg (λÂ h'=> ∃a,Â= [some (jj (QN n Ts M W)),some (.lst A),some (wN W),a]/\h=h') (λC hC=> ?_) (λÂ h' ⟨a,e,eh⟩=>by subst e eh;exact⟨_,rfl,h,Sub.refl h,q⟩);refine wE (h1:=h) (j:=λ_=>some (W.map λ(k:G8)=>D.int (k:P4))) (W.map λ(k:G8)=>D.int (k:P4)) (λi Â h'=> ∃a,Â= [some (jj (QN n Ts M (W.take i))),some (.lst A),some (wN W),a]/\h=h') (λR r=>⟨_,rfl,r⟩) (λ_ _ _ _=>rfl) ⟨none,rfl,rfl⟩ (λÂ h' ⟨a,e,eh⟩=>hC _ _ ⟨a,by rw [e,G1,K0],eh⟩) ?_;rintro i d _ _ hd ⟨a,rfl,rfl⟩;have Œ:=(P5.mp hd).1;rw [G1] at Œ;rw [P7,G5 Œ] at hd;injection hd with hd
 subst hd;have hw:=hW _ (N6 Œ);have eT:QN n Ts M (W.take (i+1))=Ļ n (Ts.getD W[i] []) (QN n Ts M (W.take i)):=by
  rw [L6,G5 Œ];exact Lc _ _ _
 have s1:=Cc (Ts:=Ts) M hM (W.take i);refine⟨_,rfl,_,rfl,_,rfl,_,_,kA,JR hT hw,QN n Ts M (W.take i),Ts.getD W[i] [],n,1,20,rfl,s1,hT.get hw,by omega,by omega,ZA n (QN n Ts M (W.take i)) (Ts.getD W[i] []),n,24,rfl,s1.mul (hT.get hw) (by omega),by omega,_,Sub.refl _,by rw [G1];omega,some (.int ((W[i]:G8):P4)),?_,rfl⟩;rw [eT];rfl
def LY {a b:P3}{ws:G0 (G0 G8)}(ka:h a=some (ws.map wN))(kb:h b=some [])(q:Q (.bl (!ws.isEmpty)) h):neE (.lst a) (.lst b) h Q:=by
 refine⟨.list (ws.map PB),.list [],⟨a,_,rfl,ka,Ug h ws⟩,⟨b,_,rfl,kb,rfl⟩,XA ws,by decide +kernel,?_⟩;cases ws with
 |nil=>exact q
 |cons w ws=>exact q
def BG (w:G0 G8)(a:G8):wN (w++ [a])= .tup ((w.map λ(k:G8)=>D.int (k:P4))++ [.int (a:P4)]):=by
 unfold wN;rw [T6];rfl
variable {m:G8}
def MB {s:Fnd×G0 (G0 G8)}{w:G0 G8}:(s.2++(D6 m).map λa=>w++ [a]).map wN=s.2.map wN++(D6 m).map λa=>wN (w++ [a]):=by
 rw [T6,M7];rfl
def JC:RDn:=λds h Q=> ∃A Ts,∃n:G8,ds= [.lst A]/\h A=some (Ts.map jj)/\å n Ts/\ ∀W ep h',h'.dc W=some (.tk ep (ă (ł n Ts)))->Sub h h'->Q (.dct W) h'
def Vy (Z:Zs mg)(F:ò K "_law_reach" "_law_reach" va f fd)(Pk:ju P w K mg base n "_law_led" ["_law_here","_law_tables","_law_way"] WC)(jU:ju P w K mg base n "_law_marked" ["_law_table_here"] zS):Î P w K mg base ì (n+1) f fd ["_law_tables"] (ó K JC):=by
 refine F.okM jG (λhr=>(js4 (ñ 1 jG Mf) (BW (i:=6) (k:=2) (js:= [6]) rfl jG.nd rfl (V0 rfl) (zb (by rfl)) (Ż Z (WQ Z (jv 0))) (by decide) rfl (by first|exact V0 rfl|exact Z0 rfl) (λX' hX=>wq) (λX' hX=>by obtain⟨C,s₀,H₀,ex,rfl⟩:=hX;exact(vz (j1 (jv 6))))) (BX O8 (ř (Qz hr.units) (jv 2) (Jl zH)) (js3 (ñ 3 jG (Jl zH)) (Xr O8 rfl (jP (jv 2)) (Τ 4 jG) (Ų (ñ 5 jG (jk Pk hr (j3 (jk jU hr (j1 (Ă (jv 0) (Ă (jv 4) jF)))) (jv 0) (yG (jv 4) (zN jF) wt)))) (Sc (Nv (Uy hr) (jv 5) (jv 1) (by with_unfolding_all rfl)) (Ų (LJ hr (jv 1) (jv 5) (jv 4)) (ñ 3 jG (æ jQ (jv 3) (ī 6 jG (Ż Z (WQ Z (jv 0))) (λ_ _ _ _=>(æ jQ (jv 4) (vz (j1 (jv 6))))))))) QB))) (ñ 2 jG (jv 3)))) (zX (jv 1)))) ?_;rintro ds h Q ⟨A,Ts,n,rfl,kA,hT,q⟩;refine⟨rfl,?_⟩;have n1:=hT.n1;have n3:=hT.n3;have l3:=hT.l3;have big: ∀x,x<=3000->x<=sizeLine:=λx hx=>R1 hx (by decide)
 refine jg (λÂ h'=> ∃W,Â= [some (.lst A),some (.dct W),none,none,none,none,none]/\h.dc W=none/\h' A=some (Ts.map jj)/\h'.dc W=some (.tk 0 [])/\Sub h h') (λC hC=>λW eW=>hC _ _ ⟨W,rfl,eW,kA,zE,.newC eW⟩) ?_;rintro _ h1 ⟨W,rfl,fW,kA1,kW,sb1⟩;refine jg (λÂ h'=> ∃Fr,Â= [some (.lst A),some (.dct W),some (.lst Fr),none,none,none,none]/\h' A=some (Ts.map jj)/\h'.dc W=some (.tk 0 [])/\h' Fr=some ((Ś n Ts 0).2.map wN)/\Sub h h') (λC hC=>VX (h1:=h1) Ts.length (λk ys h'=>h1=h'/\ys=(D6 k).map λa=>wN [a]) (by omega) (λR r=>⟨_,rfl,_,kA1,by show R [.int (((Ts.map jj).length:G8):P4)] _;rw [G1];exact r⟩) ⟨rfl,rfl⟩ (λk ys h' ⟨_,e⟩=>by rw [e,G1,S9]) ?_ ?_) ?_
 ·rintro k ys _ hk ⟨rfl,rfl⟩;exact⟨_,rfl,Š,_,Sub.refl _,hk,rfl,by rw [fC,T6];rfl⟩
 ·rintro ys _ ⟨rfl,rfl⟩ Fr eF;refine hC _ _ ⟨Fr,rfl,jd kA1 eF,kW,?_,sb1.newAt eF⟩;rw [jc];show some _=some (((D6 Ts.length).map λa=> [a]).map wN);rw [M7];rfl
 clear kA1 kW sb1;rintro _ h3 ⟨Fr,rfl,kA3,kW,kF,ų⟩;refine jg (λÂ h'=> ∃Fr b3 b4 b5 ep,Â= [some (.lst A),some (.dct W),some (.lst Fr),b3,b4,b5,none]/\h'.dc W=some (.tk ep (ă (ł n Ts)))/\Sub h h') (λC hC=> ?_) ?_
 ·refine QJ (λm Â h'=> ∃k Fr b3 b4 b5 ep s,Â= [some (.lst A),some (.dct W),some (.lst Fr),b3,b4,b5,none]/\s=Ś n Ts k/\h' A=some (Ts.map jj)/\h'.dc W=some (.tk ep (ă s.1))/\h' Fr=some (s.2.map wN)/\Sub h h'/\m=Pg s/\k+m<=1025) _ ⟨0,Fr,_,_,_,0,_,rfl,rfl,kA3,kW,kF,ų,rfl,UB hT.l1⟩ ?_;clear kA3 kW kF ų;rintro m _ h4 ⟨k,Fr,b3,b4,b5,ep,s,rfl,es,kA4,kW,kF,ι,rfl,hk⟩;have bn:Η n Ts k s:=es ▸ Vk l3 k;refine⟨_,rfl,sz0,λP eP=>LY (jd kF eP) jc ⟨_,rfl,?_⟩⟩
  by_cases ez:s.2= []
  ·rw [ez];refine yF (hC _ _ ⟨Fr,b3,b4,b5,ep,rfl,?_,ι.newAt eP⟩);rw [<-XQ (k:=k) (es ▸ ez) (by omega),<-es];exact kW
  rw [show (!s.2.isEmpty)=true from by
   cases z:s.2 with
   |nil=>exact absurd z ez
   |cons=>rfl]
  refine vt ?_;refine jg (λÂ h'=> ∃L,Â= [some (.lst A),some (.dct W),some (.lst Fr),some (.lst L),b4,b5,none]/\h' A=some (Ts.map jj)/\h'.dc W=some (.tk ep (ă s.1))/\h' Fr=some (s.2.map wN)/\h' L=some []/\Sub h h') (λC hC=>⟨sz0,λL eL=>hC _ _ ⟨L,rfl,jd (jd kA4 eP) eL,kW,jd (jd kF eP) eL,jc,(ι.newAt eP).newAt eL⟩⟩) ?_;clear kA4 kW kF ι;rintro _ h5 ⟨L,rfl,kA5,kW,kF,kL,sb5⟩;refine jg (λÂ h'=> ∃L b4 b5 ep s',Â= [some (.lst A),some (.dct W),some (.lst Fr),some (.lst L),b4,b5,none]/\s'=Cs n Ts s/\h' A=some (Ts.map jj)/\h'.dc W=some (.tk ep (ă s'.1))/\h' L=some (s'.2.map wN)/\Sub h h') (λC hC=> ?_) ?_
  ·refine wE (h1:=h5) (j:=λh=>h Fr) (s.2.map wN) (λi Â h'=> ∃L b4 b5 ep s',Â= [some (.lst A),some (.dct W),some (.lst Fr),some (.lst L),b4,b5,none]/\s'=(s.2.take i).foldl (š n Ts) (s.1,[])/\h' A=some (Ts.map jj)/\h'.dc W=some (.tk ep (ă s'.1))/\h' Fr=some (s.2.map wN)/\h' L=some (s'.2.map wN)/\Sub h h') (λR r=>⟨_,rfl,r⟩) (λi Â h' ⟨_,_,_,_,_,_,_,_,_,z,_⟩=>z) ⟨L,b4,b5,ep,_,rfl,rfl,kA5,kW,kF,kL,sb5⟩ (λÂ h' ⟨L,b4,b5,ep,s',e,Ö,a1,a2,_,a4,a5⟩=>hC _ _ ⟨L,b4,b5,ep,s',e,?_,a1,a2,a4,a5⟩) ?_
   ·rw [Ö,G1,K0];rfl
   clear kA5 kW kF kL sb5;rintro i d _ h6 hd ⟨L,c4,c5,ep,s',rfl,Ö,Υ,kW,kF,kL,sb6⟩;have Œ:=(P5.mp hd).1;rw [P7] at hd;obtain⟨w,ew,rfl⟩:=L5.mp hd;obtain⟨hw,lw⟩:=bn.fr w (P6 ew);have md:θ n Ts k s.1.length s':=Ö ▸ bn.mids l3 i;have few:=md.few n3;have X1f:k<=1025:=by omega
   have es2:(s.2.take (i+1)).foldl (š n Ts) (s.1,[])=š n Ts s' w:=by rw [UG ew,<-Ö]
   refine jg (λÂ h'=>Â= [some (.lst A),some (.dct W),some (.lst Fr),some (.lst L),some (wN w),some (jj (í n Ts w)),none]/\h6=h') (λC hC=> ?_) ?_
   ·match w,hw,lw,hC with
    | [],hw,_,_=>exact absurd rfl hw.1
    |a::v,hw,lw,hC=>
     rw [D2] at lw;exact⟨_,rfl,_,rfl,_,wJ (j:=0) rfl,_,_,Υ,JR hT (hw.2 a D3),Ts.getD a [],n,20,rfl,hT.get (hw.2 a D3),by omega,_,rfl,_,rfl,_,rfl,zL n (Ts.getD a []),A,Ts,v,n,by rw [DD,Rh];rfl,Sq.mark _,Υ,hT,λx hx=>hw.2 x (S1 _ hx),by omega,hC _ _ ⟨rfl,rfl⟩⟩
   rintro _ _ ⟨rfl,rfl⟩;refine⟨_,rfl,_,rfl,W,í n Ts w,ep,_,rfl,rfl,kW,_,rfl,?_⟩;show if (true !=(zU (ă s'.1) (í n Ts w)).isSome)=true then _ else _
   rw [XS];cases hg:(zU s'.1 (í n Ts w)).isSome with
   |true=>exact yF ⟨_,Sub.refl _,Œ,L,_,_,ep,s',rfl,by rw [es2,Vj hg],Υ,kW,kF,kL,sb6⟩
   |false=>
    have es3:=es2.trans (Wr hg);refine vt ?_;refine jg (λÂ h'=> ∃ep,Â= [some (.lst A),some (.dct W),some (.lst Fr),some (.lst L),some (wN w),some (jj (í n Ts w)),none]/\h' A=some (Ts.map jj)/\h'.dc W=some (.tk ep (ă (s'.1++ [(í n Ts w,w)])))/\h' Fr=some (s.2.map wN)/\h' L=some (s'.2.map wN)/\Sub h h') (λC hC=>⟨_,rfl,_,rfl,_,rfl,W,í n Ts w,ep,ă s'.1,rfl,rfl,kW,by unfold ă;rw [G1];omega,λé=>hC _ _ ⟨é,rfl,Υ,by rw [zE,Mi hg],kF,kL,sb6.overC fW⟩⟩) ?_;clear Υ kW kF kL sb6;rintro _ h7 ⟨ep,rfl,kA7,kW,kF,kL,sb7⟩;refine⟨_,rfl,VX (h1:=h7) Ts.length (λk ys h'=>h7=h'/\ys=(D6 k).map λa=>wN (w++ [a])) (by omega) (λR r=>⟨_,rfl,_,kA7,by show R [.int (((Ts.map jj).length:G8):P4)] _;rw [G1];exact r⟩) ⟨rfl,rfl⟩ (λk ys h' ⟨_,e⟩=>by rw [e,G1,S9]) ?_ ?_⟩
    ·rintro a ys _ ha ⟨rfl,rfl⟩;refine⟨_,rfl,_,rfl,Š,?_,_,Sub.refl _,ha,rfl,?_⟩
     ·rw [G1];exact big _ (by simp only [D2,N8];omega)
     ·rw [fC,T6];show _=_++ [wN (w++ [a])];rw [BG]
    ·rintro ys _ ⟨rfl,rfl⟩ Y eY;refine⟨_,_,jd kL eY,jc,?_,λZ eZ=>⟨_,Sub.refl _,Œ,Z,_,_,ep,(s'.1++ [(í n Ts w,w)],s'.2++(D6 Ts.length).map λa=>w++ [a]),rfl,es3.symm,jd (jd kA7 eY) eZ,kW,jd (jd kF eY) eZ,by rw [jc,MB],(sb7.newAt eY).newAt eZ⟩⟩;rw [G1,G1,S9];exact big _ (by have:=md.gr;omega)
  clear kA5 kW kF kL sb5;rintro _ h6 ⟨L,c4,c5,ep,s',rfl,Ö,Υ,kW,kL,sb6⟩;have ls:Pg s'<Pg s:=by rw [Ö];exact Gm bn n3 l3 ez
  exact⟨_,rfl,Pg s',_,ls,Sub.refl _,k+1,L,_,_,_,ep,s',rfl,by rw [Ö,es];rfl,Υ,kW,kL,sb6,rfl,by omega⟩
 clear kA3 kW kF ų;rintro _ h4 ⟨Fr,b3,b4,b5,ep,rfl,kW,ι⟩;exact⟨_,rfl,h4,Sub.refl _,q W ep h4 kW ι⟩
theorem UM: ∀Ps ks:G0 (G0 (G0 P4)),U3 (Ps.map wz) (ks.map wz)=decide (Ps=ks)
 | [],[]=>rfl
 | [],_::_=>rfl
 |_::_,[]=>rfl
 |p::Ps,k::ks=>by
  show (Q0 (wz p) (wz k)&&U3 (Ps.map wz) (ks.map wz))=_;rw [Ā.eq,UM Ps ks,A3,N9,F6,F6,F6,List.cons.injEq]
def BH {a b:P3}{ks:G0 (G0 (G0 P4))}(ka:h a=some (Ps.map jj))(kb:h b=some (ks.map jj))(q:Q (.bl (!decide (Ps=ks))) h):neE (.lst a) (.lst b) h Q:=⟨.list (Ps.map wz),.list (ks.map wz),⟨a,_,rfl,ka,Ā.tos h Ps⟩,⟨b,_,rfl,kb,Ā.tos h ks⟩,yk Ps,yk ks,by
 have e:Q0 (.list (Ps.map wz)) (.list (ks.map wz))=decide (Ps=ks):=UM Ps ks;rw [e];exact q⟩
def MC {neg:N0}{M:G0 (G0 P4)}(q:Q (.bl (neg !=decide (M∈Ps))) h):inE neg (jj M) (.tup (Ps.map jj)) h Q:=by
 refine⟨wz M,Ps.map wz,yN h M,.inr ⟨_,rfl,Ā.tos h Ps⟩,Ā.lay M,Ā.lays Ps,Ā.dp M,?_⟩;have e:((Ps.map wz).any λz=>Q0 z (wz M))=decide (M∈Ps):=by
  rw [qJ,A3,dU,F6];refine⟨λ⟨x,hx,e⟩=> ?_,λhx=>⟨M,hx,?_⟩⟩
  ·have e:Q0 (wz x) (wz M)=true:=e;rw [Ā.eq] at e;exact(A7 e) ▸ hx
  ·show Q0 (wz M) (wz M)=true;rw [Ā.eq];exact M1 rfl
 rw [e];exact q
variable {α:Type}
def LZ {β:Type}(xs:G0 α)(ys:G0 β)(f:α->N0)(g:β->α->N0):(xs.all f&&ys.all λy=>xs.all (g y))=xs.all λx=>f x&&ys.all λy=>g y x:=by
 rw [A3,N9,B0,B0,B0];constructor
 ·rintro ⟨a,b⟩ x hx;rw [N9,B0];exact⟨a x hx,λy hy=>B0.mp (b y hy) x hx⟩
 ·intro c;refine⟨λx hx=>((N9 _ _).mp (c x hx)).1,λy hy=>B0.mpr λx hx=> ?_⟩;exact B0.mp ((N9 _ _).mp (c x hx)).2 y hy
def Cz {α:Type}{xs:G0 α}{f:α->N0}{x:α}(hx:x∈xs)(h:f x=false):xs.all f=false:=by
 cases c:xs.all f with
 |false=>rfl
 |true=>rw [B0.mp c x hx] at h;cases h
def ZC (Z:Zs mg)(F:ò K "_law_is_fence" "_law_is_fence" wx f fd)(wj:ju P w K mg base n "_law_filled" ["_law_table_here"] wU)(jU:ju P w K mg base n "_law_marked" ["_law_table_here"] zS)(WE:ju P w K mg base n "_law_is_table" ["_law_thing"] jJ)(vd:ju P w K mg base n "_law_times" ["_law_one","_law_other"] yy):Î P w K mg base ì (n+1) f fd ["_law_tables","_law_thing"] (ó K zR):=by
 refine F.okM jY (λhr=>(js6 (ñ 2 jY (WQ Z (Ă (jv 0) jF))) (Za (wo (wA (ZZ (T:= "tuple") (by decide) rfl Z.isinstance rfl Z.tuple (by decide +kernel) (jv 1)))) (zX ĸ)) (Xr O8 rfl (jP (jv 1)) (Τ 3 jY) (ze (Za (jpt (Px (wo (wA (jk WE hr (j1 (jv 3))))) (Px (ř Ķ (WQ Z (jv 3)) (jv 2)) (Px (ř (Qz hr.units) (jk jU hr (j1 (jv 3))) (jv 3)) (Nw (wA (jk wj hr (j1 (jv 3))))))))) (zX ĸ)))) (Za (ř (Qz hr.units) (jC Xl rfl Z.list (by decide +kernel) (j1 (jv 1))) (kg hr rfl rfl Z.sorted rfl Z.set (j1 (jv 1)))) (zX ĸ)) (Xr O8 rfl (jP (jv 0)) (Τ 4 jY) (Ų (Za (Nv (NK hr.units) (jk jU hr (j1 (jv 4))) (jv 1) (by with_unfolding_all rfl)) (zX ĸ)) (Za (wo (wA (zl (Jk rfl) rfl Z.all J5 (j1 (ī 3 jY (jP (jv 1)) (λ_ _ _ _=>(Sb (TC hr.units) (jk jU hr (j1 (jk vd hr (j2 (jv 3) (jv 4))))) (jv 1) (by with_unfolding_all rfl)))))))) (zX ĸ)))) (zX ĸ))) ?_;rintro ds h Q ⟨A,Ts,d,n,rfl,kA,hT,ok,few,q⟩;refine⟨rfl,?_⟩;have n1:=hT.n1;have n3:=hT.n3;have l1:=hT.l1;have l3:=hT.l3;have s0:=hT.get (i:=0) (by omega);have e0:=JR hT (i:=0) (by omega);obtain⟨nm,hn⟩:=wG ok;refine jg (λÂ h'=>Â= [some (.lst A),some d,some (.int (n:P4)),none,none]/\h=h') (λC hC=>⟨_,rfl,_,_,kA,e0,hC _ _ ⟨by rw [G1,s0.len];rfl,rfl⟩⟩) ?_;rintro _ _ ⟨rfl,rfl⟩;cases d with
 |tup ds=>
  cases hn;obtain⟨hl,ht⟩:=Zj ok
  replace few:=few ds rfl
  replace q:Q (.bl (ds.all (yJ n)&&(Gu (ds.map ye)&&(Ts.all (λT=>decide (zL n T∈ds.map ye))&&(ds.map ye).all λM=>Ts.all λT=>decide (Ļ n T M∈ds.map ye))))) h:=q
  refine vC [some (.lst A),some (.tup ds),some (.int (n:P4)),none,none] (λC hC=>⟨_,rfl,"tuple",rfl,_,rfl,yF (hC)⟩) ?_;refine jg (λÂ h'=>(∃a,Â= [some (.lst A),some (.tup ds),some (.int (n:P4)),a,none])/\h=h'/\ds.all (yJ n)=true) (λC hC=> ?_) ?_
  ·refine wE (h1:=h) (j:=λ_=>some ds) ds (λi Â h'=>(∃a,Â= [some (.lst A),some (.tup ds),some (.int (n:P4)),a,none])/\h=h'/\ ∀x∈ds.take i,yJ n x=true) (λR r=>⟨_,rfl,r⟩) (λ_ _ _ _=>rfl) ⟨⟨_,rfl⟩,rfl,(λ_ z=>nomatch z)⟩ (λÂ h' ⟨a,b,c⟩=>hC _ _ ⟨a,b,B0.mpr (by rw [K0] at c;exact c)⟩) ?_;rintro i x _ _ hx ⟨⟨a,rfl⟩,rfl,al⟩;have il:=(P5.mp hx).1;have hm:=P6 hx;have no:yJ n x=false->Q (.bl false) h:=λz=>by rw [Cz hm z,iV] at q;exact q
   have yes:yJ n x=true-> ∀y∈ds.take (i+1),yJ n y=true:=λz y hy=>by
    rw [gM,hx] at hy;rcases D1.mp hy with w|w
    ·exact al y w
    ·rw [P0.mp w];exact z
   have eP:yJ n x=(UF x&&(decide ((ye x).length=n)&&(decide (ye x=zL (ye x).length (ye x))&& !wB (ye x)))):=rfl;have okx:=ht x hm;clear al q ht hl;refine⟨_,rfl,x,rfl,okx,_,rfl,?_⟩;cases htd:UF x with
   |false=>exact vt (vt ⟨h,Sub.refl h,no (by rw [eP,htd];rfl)⟩)
   |true=>
    obtain⟨ed,⟨e,sq⟩,u1,u6⟩:=Mv htd;rw [htd,K3] at eP;obtain⟨M,eM⟩: ∃M,M=ye x:=⟨_,rfl⟩;rw [<-eM] at ed sq u1 u6 eP;clear eM htd okx;subst ed;have el:decide ((((M.map zM).length:G8):P4)=(n:P4))=decide (M.length=n):=by
     rw [G1,A3,F6,F6];omega
    refine yF ⟨_,rfl,_,rfl,_,rfl,?_⟩;show if (!decide ((((M.map zM).length:G8):P4)=(n:P4)))=true then _ else _
    rw [el];cases hl:decide (M.length=n) with
    |false=>
     rw [hl] at eP;exact vt (vt ⟨h,Sub.refl h,no eP⟩)
    |true=>
     rw [hl,K3] at eP;have hl:=A7 hl;refine yF ⟨_,rfl,M,M.length,e,rfl,sq,u6,_,rfl,wz (zL M.length M),wz M,yN h _,yN h _,vk _,vk _,_,rfl,?_⟩;rw [Ā.eq];have em:decide (zL M.length M=M)=decide (M=zL M.length M):=by
      rw [A3,F6,F6];exact eq_comm
     rw [em];cases hm2:decide (M=zL M.length M) with
     |false=>
      rw [hm2] at eP;exact vt (vt ⟨h,Sub.refl h,no eP⟩)
     |true=>
      rw [hm2,K3] at eP;refine yF ⟨_,rfl,M,M.length,e,rfl,sq,u1,u6,_,rfl,?_⟩;cases hf:wB M with
      |true=>
       rw [hf] at eP;exact vt ⟨h,Sub.refl h,no eP⟩
      |false=>
       rw [hf] at eP;exact yF ⟨_,Sub.refl _,il,⟨_,rfl⟩,rfl,yes eP⟩
  rintro _ _ ⟨⟨a,rfl⟩,rfl,al⟩;rw [al,K3] at q;obtain⟨ed,pq⟩:=UH (B0.mp al);obtain⟨Ps,ePs⟩: ∃Ps,Ps=ds.map ye:=⟨_,rfl⟩;rw [<-ePs] at ed pq q;have lP:Ps.length<999:=by rw [ePs,G1];exact few
  clear ePs al hl ht few ok;subst ed;rw [LZ] at q;refine jg (λÂ h'=>(∃a,Â= [some (.lst A),some (.tup (Ps.map jj)),some (.int (n:P4)),a,none])/\Sub h h'/\Gu Ps=true) (λC hC=>⟨_,rfl,λp1 e1=>⟨_,rfl,Ps,rfl,by omega,λT hT' z=> ?_,λp2 ks e2 srt mem=>BH (jd jc e2) jc ⟨_,rfl,?_⟩⟩⟩) ?_
  ·have:=(pq T hT').1.len;rw [z] at this;exact absurd this (by show ¬ (0=n);omega)
  ·by_cases eq:Ps=ks
   ·rw [M1 eq];exact yF (hC _ _ ⟨⟨a,rfl⟩,(Sub.newAt (Sub.refl h) e1).newAt e2,by rw [eq];exact Cy srt⟩)
   ·rw [B7 eq];have nr:Gu Ps=false:=by
     cases c:Gu Ps with
     |false=>rfl
     |true=>exact absurd (RR (λx y a b=>by rw [XC a] at b;cases b) (Mx c) srt λT=>(mem T).symm) eq
    rw [nr] at q;exact vt ⟨h,(Sub.newAt (Sub.refl h) e1).newAt e2,q⟩
  rintro _ h3 ⟨⟨a,rfl⟩,sb,ris⟩;rw [ris,K3] at q;refine jg (λÂ h'=>Sub h h'/\Ts.all (λT=>decide (zL n T∈Ps)&&Ps.all λM=>decide (Ļ n T M∈Ps))=true) (λC hC=> ?_) (λÂ h' ⟨sb',al⟩=>by rw [al] at q;exact⟨h,sb',q⟩);refine wE (h1:=h3) (j:=λh=>h A) (Ts.map jj) (λi Â h'=>(∃a b,Â= [some (.lst A),some (.tup (Ps.map jj)),some (.int (n:P4)),a,b])/\h3=h'/\ ∀T∈Ts.take i,(decide (zL n T∈Ps)&&Ps.all λM=>decide (Ļ n T M∈Ps))=true) (λR r=>⟨_,rfl,r⟩) (λ_ _ _ ⟨_,e,_⟩=>e ▸ sb _ _ kA) ⟨⟨a,_,rfl⟩,rfl,(λ_ z=>nomatch z)⟩ (λÂ h' ⟨_,e,c⟩=>hC _ _ ⟨e ▸ sb,B0.mpr (by rw [G1,K0] at c;exact c)⟩) ?_;rintro i d _ _ hd ⟨⟨a,b,rfl⟩,rfl,al⟩;have il:=(P5.mp hd).1;rw [P7] at hd;obtain⟨T,hx,rfl⟩:=L5.mp hd;have hm:=P6 hx;have no:(decide (zL n T∈Ps)&&Ps.all λM=>decide (Ļ n T M∈Ps))=false->Q (.bl false) h:=λz=>by
   rw [Cz hm z] at q;exact q
  have sT:=hT.sq T hm;refine jg (λÂ h'=>Â= [some (.lst A),some (.tup (Ps.map jj)),some (.int (n:P4)),a,some (jj T)]/\h3=h'/\decide (zL n T∈Ps)=true) (λC2 Θ=>⟨_,rfl,T,n,20,rfl,sT,by omega,_,rfl,MC ⟨_,rfl,?_⟩⟩) ?_
  ·cases c:decide (zL n T∈Ps) with
   |false=>exact vt ⟨h,sb,no (by rw [c];rfl)⟩
   |true=>exact yF (Θ _ _ ⟨rfl,rfl,c⟩)
  rintro _ _ ⟨rfl,rfl,c1⟩;refine TB (j:=λ_=>some (Ps.map jj)) Ps jj (λM=>decide (Ļ n T M∈Ps)) (by omega) rfl (λR r=>⟨_,rfl,r⟩) (λM hM Q' q'=>⟨_,rfl,_,rfl,M,T,n,1,20,rfl,(pq M hM).1,sT,by omega,by omega,ZA n M T,n,_,rfl,(pq M hM).1.mul sT (by omega),by omega,_,rfl,MC (by rw [uH];exact q')⟩) ⟨_,rfl,?_⟩;cases c:Ps.all λM=>decide (Ļ n T M∈Ps) with
  |false=>exact vt ⟨h,sb,no (by rw [c,cC])⟩
  |true=>
   refine yF ⟨_,Sub.refl _,il,⟨_,_,rfl⟩,rfl,λy hy=> ?_⟩;rw [gM,hx] at hy;rcases D1.mp hy with w|w
   ·exact al y w
   ·rw [P0.mp w,c1,c];rfl
 |_=>cases hn<;>exact⟨_,rfl,_,rfl,_,rfl,vt ⟨h,Sub.refl h,q⟩⟩
def Oa {x:D}{xs:G0 D}{lo hi:P9 P4}(h:x∈vy xs lo hi):x∈xs:=O3 (O4 h)
def Ob {xs:G0 D}{lo hi:P9 P4}:(vy xs lo hi).length<=xs.length:=by unfold vy;rw [T3,C0];omega
def ĥ (n:G8)(ds:G0 D):Prop:=ds.length<=n/\ ∀d∈ds,okD d=true
variable {a:G0 D}
def ĥ.app {b:G0 D}(x:ĥ m a)(y:ĥ n b):ĥ (m+n) (a++b):=⟨by rw [P1];have:=x.1;have:=y.1;omega,λd hd=>(D1.mp hd).elim (x.2 d) (y.2 d)⟩
def ĥ.cut (x:ĥ n a)(lo hi:P9 P4):ĥ n (vy a lo hi):=⟨R1 Ob x.1,λd hd=>x.2 d (Oa hd)⟩
def ĥ.one (h:okD d=true):ĥ 1 [d]:=⟨P2 _,λx hx=>by rw [P0.mp hx];exact h⟩
def ĥ.rev (x:ĥ n a):ĥ n a.reverse:=⟨by rw [B1];exact x.1,λd hd=>x.2 d (L0.mp hd)⟩
def ĥ.tup {n:G8}{a:G0 D}(x:ĥ n a)(h:n<=1000:=by decide):okD (.tup a)=true:=Gt (R1 x.1 h) x.2
def ĥ.sz {b:G0 D}(x:ĥ m a)(y:ĥ n b)(h:m+n<=1000:=by decide):a.length+b.length<=sizeLine:=T8 (jV (by have:=x.1;have:=y.1;omega))
def ĥ.le (x:ĥ m a)(h:m<=n):ĥ n a:=⟨R1 x.1 h,x.2⟩
def CA (xs:G0 α)(a:G8)(h:a<=xs.length):vy xs none (some (a:P4))=xs.take a:=by
 have e: ¬((a:P4)<0):=by omega
 unfold vy HT.sIx;simp [e,W0 h]
def BI (xs:G0 α)(a:G8)(h:a<=xs.length):vy xs (some (a:P4)) none=xs.drop a:=by
 have e: ¬((a:P4)<0):=by omega
 unfold vy HT.sIx;simp [e,W0 h];exact T5 (by simp)
def UN (Ps:G0 (G0 (G0 P4))):SeqAt.shaped (.tuple (Ps.map wz))=true:=by
 have:=yk Ps;unfold SeqAt.shaped at this ⊢;rw [N9,F6] at this ⊢;simpa only [L7,A1] using this
def Qg {M:G0 (G0 P4)}(s:Sq n 1 M)(h:n<=6):ĥ 6 (M.map zM):=⟨by rw [G1,s.len];exact h,λd hd=>by
 obtain⟨r,hr,rfl⟩:=R7.mp hd;exact Gt (by rw [G1,s.row r hr];omega) λx hx=>by obtain⟨y,_,rfl⟩:=R7.mp hx;rfl⟩
def YB (h:n<=6){d:D}(hd:okD d=true):ĥ 6 (T4 (cR (n:P4)) [d]).flatten:=by
 have e:(T4 (cR (n:P4)) [d]).flatten=T4 n d:=by
  rw [K2];clear h
  induction n with
  |zero=>rfl
  |succ n ih=>rw [E2,X1,ih,E2];rfl
 rw [e];exact⟨by rw [cS];exact h,λx hx=>by rw [(bK.mp hx).2];exact hd⟩
def Zv:RDn:=λds h Q=> ∃p l fl Ps,∃n:G8,ds= [.lst p,.tup (Ps.map jj),.int (n:P4)]/\h p=some [.int l,.int fl]/\0<=l/\Ps≠ []/\Ps.length<=600/\(∀M∈Ps,Sq n 1 M)/\n<=3/\ ∀d l' h',okD d=true->(∀es,d= .tup es->es.length<999)->Ø p h h'->h' p=some [.int l',.int fl]->0<=l'->Q d h'
def UO (Z:Zs mg)(F:ò K "_law_bent" "_law_bent" vX f fd)(jp:ju P w K mg base n "_law_draw" ["_law_pen_here","_law_many_here"] zi):Î P w K mg base ì (n+1) f fd ["_law_pen_here","_law_fence","_law_size"] (ó K Zv):=by
 refine F.okM zB (λhr=>(js7 (Za (ř (Qy hr.units) (jv 1) (vz zH)) (zX (Ă (Jl (œ (vz zH) (by exact(j4 (vz (j1 (vz zH))) Ec (Jl zH) (vz (j1 jF)))))) (jk jp hr (j2 (jv 0) jF))))) (ñ 3 zB (jk jp hr (j2 (jv 0) (WQ Z (jv 1))))) (ñ 4 zB (Ă (jv 1) (jv 3))) (ñ 5 zB (Jl (œ (HN (jv 4)) (by exact(œ (æ zW (vz (j1 (æ zW (vz (j1 jF)) (jv 2)))) (jv 2)) (by exact(j4 (æ zW (vz (j1 (æ zW (vz (j1 jF)) (jv 2)))) (jv 2)) (jC Xl rfl Z.list (by decide +kernel) (j1 (jv 4))) Ec (æ jQ (jv 4) (yG (jv 4) wt (zN jF)))))))))) (ñ 6 zB (Ă (æ jQ (jv 5) (Jl (j1 (æ zW (vz (j1 (æ zW (vz (j1 jF)) (jv 2)))) (jv 2))))) (jk jp hr (j2 (jv 0) jF)))) (ñ 7 zB (Jl (j4 (æ jQ (æ jQ (yG (jv 1) wt (zN (jv 3))) (vz (j1 (jv 6)))) (yG (jv 1) (zN (æ jQ (jv 3) jF)) wt)) (æ jQ (yG (jv 1) wt (zN (jv 3))) (yG (jv 1) (zN (æ jQ (jv 3) jF)) wt)) (HN (jv 1)) (æ jQ (jv 1) (yG (jv 1) wt (zN jF)))))) (zX (Ă (æ jQ (jv 7) (Jl (j4 (jC Xl rfl Z.list (by decide +kernel) (j1 (jv 1))) (vz (j1 (jv 1))) (yG (jv 1) (zN jF) wt) (yG (jv 1) wt (zN (Ty jF)))))) (jk jp hr (j2 (jv 0) jF)))))) ?_;rintro ds h Q ⟨p,l,fl,Ps,n,rfl,kp,l0,ne,lP,sq,n3,q⟩;refine⟨rfl,?_⟩;refine jg (λÂ h'=>Â= [some (.lst p),some (.tup (Ps.map jj)),some (.int (n:P4)),none,none,none,none,none]/\h=h') (λC hC=>⟨_,rfl,sz0,.tuple (Ps.map wz),.tuple [],⟨_,rfl,Ā.tos h Ps⟩,⟨_,rfl,rfl⟩,UN Ps,by decide +kernel,_,rfl,?_⟩) ?_
 ·match Ps,ne,hC with
  | [],ne,_=>exact absurd rfl ne
  |P::Ps,_,hC=>exact yF (hC _ _ ⟨rfl,rfl⟩)
 rintro _ _ ⟨rfl,rfl⟩;have pos:0<Ps.length:=Y4.mpr ne;refine jg (λÂ h'=> ∃ (a:G8) (l1:P4),Â= [some (.lst p),some (.tup (Ps.map jj)),some (.int (n:P4)),some (.int (a:P4)),none,none,none,none]/\a<Ps.length/\0<=l1/\h' p=some [.int l1,.int fl]/\Ø p h h') (λC hC=>⟨_,rfl,_,rfl,p,l,fl,_,rfl,kp,l0,by rw [G1];omega,by rw [G1];omega,λa l1 a0 a1 Φ=>hC _ _ ⟨a.toNat,l1,by rw [pE a0];rfl,by rw [G1] at a1;omega,Φ,jc,Ø.upd⟩⟩) ?_;rintro _ h1 ⟨a,l1,rfl,a1,Φ,kp,bt⟩;refine jg (λÂ h'=> ∃M,Â= [some (.lst p),some (.tup (Ps.map jj)),some (.int (n:P4)),some (.int (a:P4)),some (jj M),none,none,none]/\h1=h'/\Sq n 1 M) (λC hC=> ?_) ?_
 ·exact⟨_,rfl,_,rfl,_,wJ (by rw [P7,G5 a1];rfl),hC _ _ ⟨Ps[a],rfl,rfl,sq _ (N6 a1)⟩⟩
 rintro _ _ ⟨M,rfl,rfl,sM⟩;have oM:=Qg sM (by omega);have oP:ĥ 600 (Ps.map jj):=⟨by rw [G1];exact lP,λd hd=>by
  obtain⟨T,hT,rfl⟩:=R7.mp hd;exact(Qg (sq T hT) (by omega)).tup⟩
 have b1: -(2^63)<=(n:P4):=by omega
 have b2:(n:P4)<2^63:=by omega
 have b3:1*(n:P4).toNat<=sizeLine:=R1 (show 1*(n:P4).toNat<=3 by omega) (by decide);refine jg (λÂ h'=> ∃O os,Â= [some (.lst p),some (.tup (Ps.map jj)),some (.int (n:P4)),some (.int (a:P4)),some (jj M),some (.lst O),none,none]/\h' O=some os/\os.length=6/\(∀d∈os,okD d=true)/\h' p=some [.int l1,.int fl]/\Ø p h h') (λC hC=>⟨_,rfl,_,rfl,Š,_,rfl,b1,b2,b3,Š,_,rfl,b1,b2,b3,Š,_,rfl,b1,b2,b3,Š,_,rfl,b1,b2,b3,_,rfl,λp1 e1=>⟨_,rfl,_,rfl,_,rfl,oM.sz (oM.cut _ _),sz6,λO eO=>hC _ _ ⟨O,_,rfl,jc,rfl,?_,jd (jd kp e1) eO,(bt.new e1).new eO⟩⟩⟩) ?_
 ·intro d hd;simp only [S0,C5,or_false] at hd;rcases hd with e|e|e|e|e|e<;>subst e
  ·exact oM.rev.tup
  ·exact(YB (by omega) (YB (n:=n) (by omega) (d:= .int 1) rfl).tup).tup
  ·exact(YB (by omega) (YB (n:=n) (by omega) (d:= .int 0) rfl).tup).tup
  ·rfl
  ·rfl
  ·exact(oM.app (oM.cut none (some 1))).tup
 rintro _ h2 ⟨O,os,rfl,kO,lO,oO,kp,bt⟩;refine jg (λÂ h'=> ∃x l2,Â= [some (.lst p),some (.tup (Ps.map jj)),some (.int (n:P4)),some (.int (a:P4)),some (jj M),some (.lst O),some x,none]/\okD x=true/\0<=l2/\h' p=some [.int l2,.int fl]/\Ø p h h') (λC hC=>⟨_,rfl,Š,_,rfl,b1,b2,b3,Š,_,rfl,b1,b2,b3,Š,λp1 e1=>⟨_,_,jd kO e1,jc,?_,λp2 e2=>⟨_,rfl,p,l1,fl,7,rfl,jd (jd kp e1) e2,Φ,by decide,by decide,λr l2 r0 r1 Č=> ?_⟩⟩⟩) ?_
 ·rw [lO];show 6+1<=sizeLine;decide
 ·obtain⟨x,hx,ex⟩:=yM (xs:=os++ [D.tup (T4 (cR (n:P4)) [D.tup (T4 (cR (n:P4)) [D.int 2]).flatten]).flatten]) r0 (by rw [P1,lO];exact r1);refine⟨_,x,jf (jl (jd kp e1) e2) jc,ex,hC _ _ ⟨x,l2,rfl,?_,Č,jc,((bt.new e1).new e2).put⟩⟩;rcases D1.mp hx with z|z
  ·exact oO x z
  ·rw [P0.mp z];exact(YB (by omega) (YB (n:=n) (by omega) (d:= .int 2) rfl).tup).tup
 rintro _ h3 ⟨x,l2,rfl,ox,Č,kp,bt⟩;have big: ∀x,x<=3000->x<=sizeLine:=λx hx=>R1 hx (by decide)
 have lF:(Ps.map jj).length=Ps.length:=G1 _;have eA:vy (Ps.map jj) none (some (a:P4))=(Ps.map jj).take a:=CA _ a (by omega);have eB:vy (Ps.map jj) (some ((a:P4)+1)) none=(Ps.map jj).drop (a+1):=BI _ (a+1) (by omega);have lA:((Ps.map jj).take a).length=a:=by rw [T3];omega
 have lB:((Ps.map jj).drop (a+1)).length=Ps.length-(a+1):=by rw [C0,lF]
 have l1':(vy (Ps.map jj) none (some 1)).length<=1:=by rw [Rk,T3];omega
 have iA: ∀d∈(Ps.map jj).take a,okD d=true:=λd hd=>oP.2 d (O4 hd)
 have iB: ∀d∈(Ps.map jj).drop (a+1),okD d=true:=λd hd=>oP.2 d (O3 hd)
 refine jg (λÂ h'=> ∃R rs,Â= [some (.lst p),some (.tup (Ps.map jj)),some (.int (n:P4)),some (.int (a:P4)),some (jj M),some (.lst O),some x,some (.lst R)]/\h' R=some rs/\rs.length=4/\(∀d∈rs,∃es,d= .tup es/\ĥ 601 es)/\h' p=some [.int l2,.int fl]/\Ø p h h') (λC hC=>⟨_,rfl,_,rfl,_,rfl,_,rfl,Š,by rw [eA,lA];exact big _ (by simp only [D2,N8];omega),_,rfl,_,rfl,_,rfl,by rw [eA,eB,P1,lA,lB];exact big _ (by simp only [D2,N8];omega),_,rfl,_,rfl,_,rfl,_,rfl,_,rfl,_,rfl,by rw [eA,eB,lA,lB];exact big _ (by omega),_,rfl,_,rfl,_,rfl,_,rfl,_,rfl,by rw [lF];exact big _ (by omega),sz4,λR eR=>hC _ _ ⟨R,_,rfl,jc,rfl,?_,jd kp eR,bt.new eR⟩⟩) ?_
 ·rw [eA,eB];intro d hd;simp only [S0,C5,or_false] at hd;rcases hd with e|e|e|e<;>subst e
  ·refine⟨_,rfl,by rw [P1,P1,lA,lB];simp only [D2,N8];omega,λy hy=> ?_⟩;rcases D1.mp hy with z|z
   ·rcases D1.mp z with z|z
    ·exact iA y z
    ·rw [P0.mp z];exact ox
   ·exact iB y z
  ·refine⟨_,rfl,by rw [P1,lA,lB];omega,λy hy=> ?_⟩;rcases D1.mp hy with z|z
   ·exact iA y z
   ·exact iB y z
  ·exact⟨_,rfl,by rw [B1,lF];omega,λy hy=>oP.2 y (L0.mp hy)⟩
  ·exact⟨_,rfl,by rw [P1,lF];omega,λy hy=>(D1.mp hy).elim (oP.2 y) ((oP.cut none (some 1)).2 y)⟩
 rintro _ h4 ⟨R,rs,rfl,kR,lR,oR,kp,bt⟩;refine⟨_,rfl,_,rfl,λp1 e1=>⟨_,rfl,Š,_,rfl,_,rfl,_,rfl,_,rfl,sz4,λp2 e2=>⟨_,_,jd (jd kR e1) e2,jc,by rw [lR];show 4+4<=sizeLine;decide,λp3 e3=>⟨_,rfl,p,l2,fl,8,rfl,jd (jd (jd kp e1) e2) e3,Č,by decide,by decide,λr l3 r0 r1 Ţ=> ?_⟩⟩⟩⟩;obtain⟨y,hy,ey⟩:=yM (xs:=rs++ [D.lst p1,.tup [.tup (Ps.map jj)],.tup (vy (Ps.map jj) (some 1) none),.tup (vy (Ps.map jj) none (some (-1)))]) r0 (by rw [P1,lR];exact r1);have hy2:y= .lst p1\/ ∃es,y= .tup es/\ĥ 601 es:=by
  rcases D1.mp hy with z|z
  ·exact .inr (oR y z)
  ·simp only [S0,C5,or_false] at z;rcases z with e|e|e|e<;>subst e
   ·exact .inl rfl
   ·exact .inr ⟨_,rfl,(ĥ.one oP.tup).le (by decide)⟩
   ·exact .inr ⟨_,rfl,(oP.cut _ _).le (by decide)⟩
   ·exact .inr ⟨_,rfl,(oP.cut _ _).le (by decide)⟩
 refine⟨_,y,jf (jl (jd (jd kp e1) e2) e3) jc,ey,_,Sub.refl _,q y l3 _ ?_ ?_ ((((bt.new e1).new e2).new e3).put) jc Ţ⟩
 ·rcases hy2 with e|⟨es,e,o⟩
  ·rw [e];rfl
  ·rw [e];exact o.tup
 ·rcases hy2 with e|⟨es,e,o⟩
  ·intro Ö z;rw [e] at z;cases z
  ·intro Ö z;rw [e] at z;cases z;exact Q9 o.1 (by decide)
def EO (s:Fnd×G0 (G0 G8))(w:G0 G8):s.1.length<=(š n Ts s w).1.length:=by
 cases h:(zU s.1 (í n Ts w)).isSome with
 |true=>rw [Vj h];exact P2 _
 |false=>
  rw [Wr h];show s.1.length<=(s.1++_).length;rw [P1];exact W4 _ _
theorem Qh: ∀ (ws:G0 (G0 G8)) (s:Fnd×G0 (G0 G8)),s.1.length<=(ws.foldl (š n Ts) s).1.length
 | [],_=>P2 _
 |w::ws,s=>R1 (EO s w) (Qh ws _)
theorem MD (l1:1<=Ts.length): ∀k,1<=(Ś n Ts (k+1)).1.length
 |0=>by
  show 1<=(((D6 Ts.length).map λa=> [a]).foldl (š n Ts) ([],[])).1.length;cases e:(D6 Ts.length).map λa=> [a] with
  |nil=>
   have:=congrArg aA e;rw [G1,S9] at this;exact absurd this (by show ¬ (Ts.length=0);omega)
  |cons w ws=>
   refine R1 ?_ (Qh ws (š n Ts ([],[]) w));rw [Wr rfl];exact P2 _
 |k+1=>R1 (MD l1 k) (Qh (n:=n) (Ts:=Ts) (Ś n Ts (k+1)).2 ((Ś n Ts (k+1)).1,[]))
def Oc {d':D}(a:EN n Ts d)(b:EN n Ts d'):d=d':=by
 rcases a with ⟨a,e⟩|⟨a,ks,f,e⟩<;>rcases b with ⟨b,e'⟩|⟨b,ks',f',e'⟩
 ·rw [e,e']
 ·rw [a] at b;cases b
 ·rw [a] at b;cases b
 ·rw [e,e',RR (λx y u v=>by rw [XC u] at v;cases v) f.2 f'.2 λT=>(f.1.mem_iff).trans f'.1.mem_iff.symm]
def BJ (n3:n<=3)(l3:Ts.length<=3)(lf:(ł n Ts).length<=512)(a:EN n Ts d): ∃pd,(∀h,Ĩ h d pd)/\ĺ pd:=by
 rcases a with ⟨_,e⟩|⟨_,ks,f,e⟩
 ·exact⟨.none,λh=>e,⟨by decide +kernel,by decide +kernel,by decide +kernel⟩⟩
 ·have z:=ö.tup (ps:=ks.map wz) (k:=2) (b:=360) λp hp=>by
   obtain⟨M,hM,rfl⟩:=R7.mp hp;obtain⟨x,hx,e⟩:=R7.mp (f.1.mem_iff.mp hM);rw [<-e];exact Rc (Wy l3 hx).1 (by omega) (by decide)
  refine⟨.tuple (ks.map wz),λh=>⟨_,e,Ā.tos h ks⟩,z.ok (by decide) ?_⟩;rw [G1,f.1.length_eq,G1];omega
def Od {p:P3}{h':HD}(s:Sub h h'):Ø p h h':=⟨λa ds _ e=>s a ds e,λa c e=>s.dc a c e⟩
def Oe {b:D->SD->SD->Prop}{js:G0 G8}{ti:TID}{tt:TTD}{te tb:TED}{t u:TSD}{E:EndsD}{σ:SD}(x:vw b js ti tt te σ h λv h1=>TD [v] h1 λm h2=>tb σ h2 λy h3=>eqD m y h3 λd h4=> ∃k,d= .bl k/\if k=true then t E σ h4 else u E σ h4):Dp (vp (Ņ eqD (ĝ TD (zj (vw b js ti tt te) JM)) tb)) t u E σ h:=x
def Qi (n3:n<=3)(sq: ∀M∈Ps,Sq n 1 M)(l:Ps.length<=600):okD (.tup (Ps.map jj))=true/\ ∀es,D.tup (Ps.map jj)= .tup es->es.length<999:=by
 have o:ĥ 600 (Ps.map jj):=⟨by rw [G1];exact l,λd hd=>by
  obtain⟨T,hT,rfl⟩:=R7.mp hd;exact(Qg (sq T hT) (by omega)).tup⟩
 exact⟨o.tup,λes e=>by cases e;exact Q9 o.1 (by decide)⟩
noncomputable def UP (n:G8):G0 (G0 P4):=T4 n (T4 n 0)
def Of (n:G8):Sq n 1 (UP n):=⟨cS,λr hr=>by rw [(bK.mp hr).2,cS],λr hr x hx=>by rw [(bK.mp hr).2] at hx;rw [(bK.mp hx).2];exact IA 0,λr hr x hx=>by rw [(bK.mp hr).2] at hx;rw [(bK.mp hx).2];decide⟩
def ME (n:G8)(d:α):(T4 (cR (n:P4)) [d]).flatten=T4 n d:=by
 rw [K2]
 induction n with
 |zero=>rfl
 |succ n ih=>rw [E2,X1,ih,E2];rfl
def EQ (n:G8):D.tup (T4 (cR (n:P4)) [D.tup (T4 (cR (n:P4)) [D.int 0]).flatten]).flatten=jj (UP n):=by
 rw [ME,ME];unfold jj UP;rw [p9];unfold zM;rw [p9]
def JD:RDn:=λds h Q=> ∃p l fl A Ts,∃n:G8,ds= [.lst p,.lst A]/\h p=some [.int l,.int fl]/\0<=l/\h A=some (Ts.map jj)/\å n Ts/\A≠p/\ ∀l' h',Ø p h h'->h' p=some [.int l',.int fl]->0<=l'->Q (.bl true) h'
def Vz (Z:Zs mg)(F:ò K "_law_right" "_law_right" vb f fd)(UR:ju P w K mg base n "_law_reach" ["_law_tables"] JC)(wj:ju P w K mg base n "_law_filled" ["_law_table_here"] wU)(WF:ju P w K mg base n "_law_same" ["_law_found","_law_due"] Ca)(Po:ju P w K mg base n "fence_of" ["tables"] Wz)(Pl:ju P w K mg base n "_law_odd" ["_law_pen_here"] WB)(Qj:ju P w K mg base n "_law_bent" ["_law_pen_here","_law_fence","_law_size"] Zv)(WD:ju P w K mg base n "_law_is_fence" ["_law_tables","_law_thing"] zR)(VA:ju P w K mg base n "fence_holds" ["tables","thing"] zR):Î P w K mg base ì (n+1) f fd ["_law_pen_here","_law_tables"] (ó K JD):=by
 refine F.okM jD (λhr=>(jB (ñ 2 jD (WQ Z (Ă (jv 1) jF))) (by exact(js8 (ñ 3 jD (zl (Wt rfl hr) rfl Z.sorted (by decide +kernel) (j1 (jk UR hr (j1 (jv 1)))))) (ñ 4 jD (jC Þ rfl Z.tuple (by decide +kernel) (j1 (jv 3)))) (Za (ř ú (zl (FY rfl) rfl Z.max (by decide +kernel) (j1 (ī 7 jD (jP (jv 3)) (λ_ _ _ _=>(jC VQ rfl Z.int (by decide +kernel) (j1 (jk wj hr (j1 (jv 7))))))))) jF) (ñ 4 jD Ec)) (Za (wo (wA (jk WF hr (j2 (jk Po hr (j1 (jv 1))) (jv 4))))) (zX ĸ)) (ñ 5 jD (Jl (j4 (jC Þ rfl Z.tuple (by decide +kernel) (j1 (jv 3))) (vz zH) (jC Þ rfl Z.tuple (by decide +kernel) (j1 (KZ hr rfl rfl Z.sorted rfl Z.set (j1 (æ jQ (jv 3) (Jl (j1 (æ zW (vz (j1 (æ zW (vz (j1 jF)) (jv 2)))) (jv 2))))))))) (jk Pl hr (j1 (jv 0)))))) (ñ 5 jD (æ jQ (jv 5) (Jl (j1 (jC zg rfl Z.tuple (by decide +kernel) (j1 (jl1 7 jD (jP (jv 3)) (λ_ _ _ _=>(wo (wA (jk wj hr (j1 (jv 7)))))) (λ_ _ _ _=>(jv 7))))))))) (Xr O8 rfl (DJ (æ jQ (jv 5) (ī 8 jD (Ż Z jF) (λ_ _ _ _=>(jk Qj hr (j3 (jv 0) (jC Þ rfl Z.tuple (by decide +kernel) (j1 (jv 3))) (jv 2))))))) (Τ 6 jD) (ze (Za (wo (wA (jk WF hr (j2 (jk VA hr (j2 (jv 1) (jv 6))) (jk WD hr (j2 (jv 1) (jv 6))))))) (zX ĸ)))) (zX ĸ))))) ?_;rintro ds h Q ⟨p,l,fl,A,Ts,n,rfl,kp,l0,kA,hT,nA,q⟩;refine⟨rfl,?_⟩;have n1:=hT.n1;have n3:=hT.n3;have l1:=hT.l1;have l3:=hT.l3;have s0:=hT.get (i:=0) (by omega);have e0:=JR hT (i:=0) (by omega);have lf:(ł n Ts).length<=512:=(XR (n:=n) l3).few n3;refine jg (λÂ h'=>Â= [some (.lst p),some (.lst A),some (.int (n:P4)),none,none,none,none,none,none]/\h=h') (λC hC=>⟨_,rfl,_,_,kA,e0,hC _ _ ⟨by rw [G1,s0.len];rfl,rfl⟩⟩) ?_;rintro _ _ ⟨rfl,rfl⟩;refine jg (λÂ h'=> ∃F ks,Â= [some (.lst p),some (.lst A),some (.int (n:P4)),some (.lst F),none,none,none,none,none]/\h' F=some (ks.map jj)/\Fks n Ts ks/\Sub h h') (λC hC=>⟨_,rfl,A,Ts,n,rfl,kA,hT,λW ep h' kW sb=>⟨W,ep,_,rfl,kW,by unfold ă;rw [G1];omega,λp hp=> ?_,λF ks fF pm srt=>hC _ _ ⟨F,ks,rfl,jc,⟨by rw [<-ZN];exact pm,srt⟩,sb.newAt fF⟩⟩⟩) ?_
 ·have hm:p.1∈(ł n Ts).map (·.1):=by rw [<-ZN];exact J6 hp
  obtain⟨x,hx,e⟩:=R7.mp hm;have sq:=(Wy l3 hx).1;rw [e] at sq;intro z;have:=sq.len;rw [z] at this;exact absurd this (by show ¬ (0=n);omega)
 rintro _ h1 ⟨F,ks,rfl,kF,fk,sb⟩;have sk: ∀M∈ks,Sq n 1 M:=λM hM=>by
  obtain⟨x,hx,e⟩:=R7.mp (fk.1.mem_iff.mp hM);rw [<-e];exact(Wy l3 hx).1
 have lk:ks.length<=512:=by rw [fk.1.length_eq,G1];exact lf
 have pk:0<ks.length:=by
  rw [fk.1.length_eq,G1];exact MD hT.l1 1024
 have anyF:((ł n Ts).any λp=>wB p.1)=ks.any wB:=by
  rw [A3,dU,dU];refine⟨λ⟨x,hx,e⟩=>⟨x.1,fk.1.mem_iff.mpr (J6 hx),e⟩,λ⟨M,hM,e⟩=> ?_⟩;obtain⟨x,hx,rfl⟩:=R7.mp (fk.1.mem_iff.mp hM);exact⟨x,hx,e⟩
 refine vC [some (.lst p),some (.lst A),some (.int (n:P4)),some (.lst F),some (.tup (ks.map jj)),none,none,none,none] (λC hC=>⟨_,rfl,_,kF,hC⟩) ?_;refine jg (λÂ h'=> ∃du,Â= [some (.lst p),some (.lst A),some (.int (n:P4)),some (.lst F),some du,none,none,none,none]/\EN n Ts du/\Sub h1 h') (λC hC=>Oe (lcA (j:=λh=>h F) ks jj (λM=> .int (if wB M then 1 else 0)) (by omega) kF (λR r=>⟨_,rfl,r⟩) (λM hM Q' q'=>⟨_,rfl,M,n,1,rfl,sk M hM,n1,by omega,?_⟩) λp1 e1=>⟨ks.map λM=>if wB M then 1 else 0,h1,?_,Sub.newAt (Sub.refl _) e1,.inr ⟨p1,rfl,by rw [jc,M7];rfl⟩,λm hm low=> ?_⟩)) ?_
 ·cases hf:wB M with
  |true=>rw [hf] at q';exact q'
  |false=>rw [hf] at q';exact q'
 ·intro z;rw [o7] at z;rw [z] at pk;exact absurd pk (by decide)
 ·obtain⟨M,hM,em⟩:=R7.mp hm;cases ha:ks.any wB with
  |true=>
   obtain⟨M',hM',e'⟩:=dU.mp ha;have g:=low 1 (R7.mpr ⟨M',hM',by rw [R6 e']⟩);have m1:m=1:=by
    rw [<-em] at g ⊢
    by_cases c:wB M=true
    ·rw [R6 c]
    ·rw [R9 c] at g;exact absurd g (by decide)
   rw [m1];exact⟨_,rfl,vt (hC _ _ ⟨.non,rfl,.inl ⟨anyF.trans ha,rfl⟩,Sub.refl _⟩)⟩
  |false=>
   have m0:m=0:=by
    rw [<-em]
    by_cases c:wB M=true
    ·rw [dU.mpr ⟨M,hM,c⟩] at ha;cases ha
    ·rw [R9 c]
   rw [m0];exact⟨_,rfl,yF (hC _ _ ⟨_,rfl,.inr ⟨anyF.trans ha,ks,fk,rfl⟩,Sub.refl _⟩)⟩
 rintro _ h2 ⟨du,rfl,fdu,sb2⟩;have kF2:=sb2 _ _ kF;have ų:=sb.trans sb2;clear kF sb sb2;obtain⟨pd,tp,so⟩:=BJ n3 l3 lf fdu;refine vC [some (.lst p),some (.lst A),some (.int (n:P4)),some (.lst F),some du,none,none,none,none] (λC hC=>⟨_,rfl,A,Ts,n,rfl,ų _ _ kA,hT,λd fd=>⟨_,rfl,_,_,pd,rfl,by rw [Oc fd fdu];exact tp _,tp _,so,_,rfl,yF (hC)⟩⟩) ?_;have b1: -(2^63)<=(n:P4):=by omega
 have b2:(n:P4)<2^63:=by omega
 have b3:1*(n:P4).toNat<=sizeLine:=R1 (show 1*(n:P4).toNat<=3 by omega) (by decide);have sz: ∀M∈ks++ [UP n],Sq n 1 M:=λM hM=>by
  rcases D1.mp hM with z|z
  ·exact sk M z
  ·rw [P0.mp z];exact Of n
 have nz: ∀M∈ks++ [UP n],M≠ []:=λM hM z=>by
  have:=(sz M hM).len;rw [z] at this;exact absurd this (by show ¬ (0=n);omega)
 have kp2:=ų _ _ kp;have bt2:Ø p h h2:=Od ų;have nF:F≠p:=λz=>by
  rw [z,kp2] at kF2;injection kF2 with kF2
  cases ks with
  |nil=>cases kF2
  |cons a r=>injection kF2 with x _;cases x
 refine jg (λÂ h'=> ∃H hs l1,Â= [some (.lst p),some (.lst A),some (.int (n:P4)),some (.lst F),some du,some (.lst H),none,none,none]/\h' H=some hs/\hs.length=4/\(∀d∈hs,okD d=true/\ ∀es,d= .tup es->es.length<999)/\h' F=some (ks.map jj)/\h' p=some [.int l1,.int fl]/\0<=l1/\Ø p h h') (λC hC=>⟨_,rfl,_,kF2,sz0,_,rfl,Š,_,rfl,b1,b2,b3,Š,_,rfl,b1,b2,b3,Š,λp1 e1=>⟨_,_,jd kF2 e1,jc,?_,λp2 e2=>⟨p2,ks++ [UP n],ks++ [UP n],rfl,by rw [jc,EQ,T6];rfl,by rw [P1];simp only [D2,N8];omega,λT hT'=>⟨hT',nz T hT'⟩,λp3 k3 e3 X1Z X1r=>⟨_,jc,_,rfl,p,l,fl,rfl,jd (jd (jd kp2 e1) e2) e3,l0,λd l' od fd l0'=>⟨sz4,λH eH=>hC _ _ ⟨H,_,l',rfl,jc,rfl,?_,jd (jf nF (jd (jd (jd kF2 e1) e2) e3)) eH,jd jc eH,l0',((((bt2.new e1).new e2).new e3).put).new eH⟩⟩⟩⟩⟩⟩) ?_
 ·rw [G1];exact R1 (show ks.length+1<=3000 by omega) (by decide)
 ·have s3: ∀M∈k3,Sq n 1 M:=λM hM=>sz M ((X1r M).mp hM)
  have l3':k3.length<=513:=by
   have nd:k3.Nodup:=X1Z.imp λ{x y} z e=>by rw [e,Gb] at z;cases z
   have:=yR (ys:=ks++ [UP n]) nd λx hx=>(X1r x).mp hx
   rw [P1] at this;simp only [D2,N8] at this;omega
  intro x hx;simp only [S0,C5,or_false] at hx;rcases hx with e|e|e|e<;>subst e
  ·exact Qi n3 sk (by omega)
  ·exact⟨rfl,λes z=>by cases z;decide⟩
  ·exact Qi n3 s3 (by omega)
  ·exact⟨od,fd⟩
 clear kF2 kp2 bt2 ų;rintro _ h3 ⟨H,hs,l1,rfl,kH,lH,oH,kF3,kp3,Φ,bt3⟩;refine jg (λÂ h'=> ∃H hs,Â= [some (.lst p),some (.lst A),some (.int (n:P4)),some (.lst F),some du,some (.lst H),none,none,none]/\h' H=some hs/\H≠p/\hs.length=5/\(∀d∈hs,okD d=true/\ ∀es,d= .tup es->es.length<999)/\h' F=some (ks.map jj)/\h' p=some [.int l1,.int fl]/\Ø p h h') (λC hC=>⟨_,rfl,Tz (j:=λh=>h F) ks jj jj (λM=> !wB M) (by omega) kF3 (λR r=>⟨_,rfl,r⟩) (λM hM Q' q'=>⟨_,rfl,M,n,1,rfl,sk M hM,n1,by omega,_,rfl,q'⟩) (λM hM _ Q' q'=>⟨_,rfl,q'⟩) ⟨Š,λp1 e1=>⟨_,_,jd kH e1,jc,by rw [lH];show 4+1<=sizeLine;decide,λH2 eH2=>hC _ _ ⟨H2,_,rfl,jc,jl (jd kp3 e1) eH2,by rw [P1,lH];rfl,λd hd=> ?_,jd (jd kF3 e1) eH2,jd (jd kp3 e1) eH2,(bt3.new e1).new eH2⟩⟩⟩⟩) ?_
 ·rcases D1.mp hd with z|z
  ·exact oH d z
  ·rw [P0.mp z];exact Qi n3 (λM hM=>sk M (U1.mp hM).1) (R1 (gO _ _) (by omega))
 clear kH lH oH kF3 kp3 bt3;rintro _ h4 ⟨H,hs,rfl,kH,nH,lH,oH,kF4,kp4,bt4⟩;refine jg (λÂ h'=> ∃l',Ø p h h'/\h' p=some [.int l',.int fl]/\0<=l') (λC hC=>⟨_,rfl,?_⟩) (λÂ h' ⟨l',b,c,d⟩=>⟨_,Sub.refl _,q l' h' b c d⟩);refine VX (h1:=h4) 5 (λk bs h'=> ∃l',bs.length=k/\(∀d∈bs,okD d=true/\ ∀es,d= .tup es->es.length<999)/\h' H=some hs/\h' F=some (ks.map jj)/\h' p=some [.int l',.int fl]/\0<=l'/\Ø p h h') (by decide) (λR r=>r) ⟨l1,rfl,(λ_ z=>nomatch z),kH,kF4,kp4,Φ,bt4⟩ (λk bs h' ⟨_,e,_⟩=>e) ?_ ?_
 ·rintro k bs h5 hk ⟨l',eb,ob,kH5,kF5,kp5,Ž,bt5⟩;refine⟨_,rfl,_,rfl,_,kF5,_,rfl,p,l',fl,ks,n,rfl,kp5,Ž,Y4.mp pk,by omega,sk,n3,λd l2 h6 od fd bt6 kp6 ğ=>⟨_,Sub.refl _,hk,l2,by rw [P1,eb];rfl,λx hx=> ?_,bt6 _ _ nH kH5,bt6 _ _ nF kF5,kp6,ğ,bt5.trans bt6⟩⟩;rcases D1.mp hx with z|z
  ·exact ob x z
  ·rw [P0.mp z];exact⟨od,fd⟩
 rintro bs h5 ⟨l',eb,ob,kH5,kF5,kp5,Ž,bt5⟩ p6 e6;refine⟨_,_,jd kH5 e6,jc,by rw [lH,eb];show 5+5<=sizeLine;decide,λL eL=>⟨L,rfl,?_⟩⟩;have kA7:zm (zm h5 p6 bs) L (hs++bs) A=some (Ts.map jj):=jd (jd (bt5 _ _ nA kA) e6) eL;have kp7:zm (zm h5 p6 bs) L (hs++bs) p=some [.int l',.int fl]:=jd (jd kp5 e6) eL;have kL7:zm (zm h5 p6 bs) L (hs++bs) L=some (hs++bs):=jc;have bt7:Ø p h (zm (zm h5 p6 bs) L (hs++bs)):=(bt5.new e6).new eL;revert kA7 kp7 kL7 bt7;generalize zm (zm h5 p6 bs) L (hs++bs)=h7;intro kA7 kp7 kL7 bt7;refine VW (hs++bs) (λi Â h'=>(∃a,Â= [some (.lst p),some (.lst A),some (.int (n:P4)),some (.lst F),some du,some (.lst H),a,none,none])/\h7=h') (λi Â h' ⟨_,e⟩=>e ▸ kL7) ⟨⟨_,rfl⟩,rfl⟩ (λÂ h' ⟨_,e⟩=>hC _ _ ⟨l',e ▸ bt7,e ▸ kp7,Ž⟩) ?_;rintro i d _ _ hd ⟨⟨a,rfl⟩,rfl⟩;have il:=(P5.mp hd).1;obtain⟨od,fd⟩:okD d=true/\ ∀es,d= .tup es->es.length<999:=by
  rcases D1.mp (P6 hd) with z|z
  ·exact oH d z
  ·exact ob d z
 exact⟨_,rfl,_,rfl,A,Ts,d,n,rfl,kA7,hT,od,fd,_,rfl,_,rfl,A,Ts,d,n,rfl,kA7,hT,od,fd,_,_,.bool (Cw n Ts d),rfl,rfl,rfl,La _,_,rfl,yF ⟨_,Sub.refl _,il,⟨_,rfl⟩,rfl⟩⟩
def BK (h:å n Ts):å n (Ts.take 1):=⟨h.n1,h.n3,by rw [T3];exact Nat.le_min.mpr ⟨P2 _,h.l1⟩,by rw [T3];exact R1 (dO _ _) h.l3,λT hT=>h.sq T (O4 hT)⟩
def ER (Z:Zs mg)(F:ò K "law" "law" Pi f fd)(Qk:ju P w K mg base n "_law_cell" ["_law_script","_law_k"] Zt)(Pm:ju P w K mg base n "_law_pen" ["_law_cell_here"] WA)(Ql:ju P w K mg base n "_law_many" ["_law_pen_here"] Zu)(Zw:ju P w K mg base n "_law_right" ["_law_pen_here","_law_tables"] JD):Î P w K mg base ì (n+1) f fd ["_law_script"] (ó K DE):=by
 refine F.okM Gs (λhr=>(Ų (Xr O8 rfl (DJ (æ jQ (Jl (j1 (jk Qk hr (j2 (jv 0) jF)))) (yG (jv 0) (zN jF) (zN jF)))) (Τ 1 Gs) (js3 (ñ 2 Gs (jk Pm hr (j1 (jv 1)))) (ñ 3 Gs (jk Ql hr (j1 (jv 2)))) (Za (jpt (Px (wo (wA (jk Zw hr (j2 (jv 2) (jv 3))))) (Nw (wo (wA (jk Zw hr (j2 (jv 2) (yG (jv 3) wt (zN jF))))))))) (zX ĸ)))) (zX ĸ))) ?_;rintro ds h Q ⟨ns,rfl,hh,hns,q⟩;refine⟨rfl,?_⟩;refine jg (λÂ h'=>True) (λC hC=> ?_) (λÂ h3 hV=>⟨h3,Sub.refl _,q h3⟩);refine⟨_,rfl,ns,0,rfl,(by decide),λn0=>⟨Š,λp1 e1=>⟨_,rfl,_,rfl,_,rfl,λp2 e2=>⟨_,_,jd jc e2,jc,?_,λp3 e3=>⟨p3,rfl,?_⟩⟩⟩⟩⟩
 ·have:(vy ns (some 1) (some 4)).length<=ns.length:=by unfold vy;rw [T3,C0];omega
  rw [G1];exact T8 (jV (by simp only [D2,N8];omega))
 generalize hcs:([D.int n0]++(vy ns (some 1) (some 4)).map D.int)=cs;have hint: ∀d∈cs,∃c,d= .int c:=λd hd=>by
  rw [<-hcs] at hd;rcases D1.mp hd with z|z
  ·exact⟨n0,P0.mp z⟩
  ·obtain⟨x,_,e⟩:=R7.mp z;exact⟨x,e.symm⟩
 refine VW cs (λi Â h'=> ∃a1 a2 a3,Â= [some (.scr ns),a1,a2,a3]/\h' p3=some cs) (λi Â h' ⟨_,_,_,_,k⟩=>k) ⟨_,_,_,rfl,jc⟩ (λÂ h' _=>hC _ _ cJ) ?_;rintro i d _ h4 hi ⟨b1,b2,b3,rfl,k3⟩;obtain⟨c,rfl⟩:=hint d (P6 hi);have Œ:i<cs.length:=(P5.mp hi).1;show yc _ _ _ [some (.scr ns),some (.int c),b2,b3] h4;refine jg (λÂ h'=> ∃p l fl,Â= [some (.scr ns),some (.int c),some (.lst p),b3]/\h' p=some [.int l,.int fl]/\0<=l/\h' p3=some cs/\p3≠p) (λC hC=> ?_) ?_
 ·refine⟨_,rfl,c,rfl,λp l fl ep l0 _=>hC _ _ ⟨p,l,fl,rfl,jc,l0,jd k3 ep,E7 (jl k3 ep)⟩⟩
 rintro _ h5 ⟨p,l,fl,rfl,kp,l0,k3,n3⟩;refine jg (λÂ h'=> ∃F n Ts l1,Â= [some (.scr ns),some (.int c),some (.lst p),some (.lst F)]/\h' F=some (Ts.map jj)/\å n Ts/\F≠p/\h' p=some [.int l1,.int fl]/\0<=l1/\h' p3=some cs) (λC hC=>⟨_,rfl,p,l,fl,rfl,kp,l0,λF n Ts l' h' fF kF hT bt kp' l0'=>hC _ _ ⟨F,n,Ts,l',rfl,kF,hT,jl kp fF,kp',l0',bt _ _ n3 k3⟩⟩) ?_;rintro _ h6 ⟨F,n,Ts,l1,rfl,kF,hT,nF,kp6,Φ,k6⟩;refine⟨_,rfl,_,rfl,p,l1,fl,F,Ts,n,rfl,kp6,Φ,kF,hT,nF,λl2 h7 bt7 kp7 Č=>⟨_,rfl,yF ?_⟩⟩;refine⟨_,rfl,?_⟩;refine⟨_,rfl,1,rfl,_,bt7 _ _ nF kF,λp8 e8=>⟨p,l2,fl,p8,Ts.take 1,n,rfl,jd kp7 e8,Č,?_,BK hT,jl kp7 e8,λl3 h9 bt9 kp9 Ţ=>⟨_,rfl,yF ⟨_,Sub.refl _,Œ,_,_,_,rfl,bt9 _ _ n3 (jd (bt7 _ _ n3 k6) e8)⟩⟩⟩⟩;rw [jc];exact congrArg some ((CA _ 1 (by rw [G1];exact hT.l1)).trans lS.symm)
end
def ES {l:sH}{w:B3}{K:G7}{h:L8}{mg:Str->P9 G2}{fa:P3}(X:K.In h)(G:h.Ns K5 mg)(hfa:mg "law" =some (.ref fa))
 (d0:É K "is_whole" Ze fu0 eu0)
 (d1:É K "rises" XX fu1 eu1)
 (d2:É K "is_table_row" wQ fu2 eu2)
 (d3:É K "has_table_form" zY fu3 eu3)
 (d4:É K "want_table" yU fu4 eu4)
 (d5:É K "want_tables" yn fu5 eu5)
 (d6:É K "multiplied" yV fu6 eu6)
 (d7:É K "full" Mq fu7 eu7)
 (d8:É K "marks" XY fu8 eu8)
 (d9:É K "marks_after" yo fu9 eu9)
 (d10:É K "ways_and_nexts" zZ fu10 eu10)
 (d11:É K "is_post" Wu fu11 eu11)
 (d12:É K "fence_holds" yp fu12 eu12)
 (d13:É K "fence_of" Zf fu13 eu13)
 (d14:É K "_law_cell" vS fu14 eu14)
 (d15:É K "_law_pen" Zg fu15 eu15)
 (d16:É K "_law_draw" vT fu16 eu16)
 (d17:É K "_law_whole" yW fu17 eu17)
 (d18:É K "_law_odd" Zh fu18 eu18)
 (d19:É K "_law_same" vU fu19 eu19)
 (d20:É K "_law_table" yX fu20 eu20)
 (d21:É K "_law_order" yY fu21 eu21)
 (d22:É K "_law_times" yZ fu22 eu22)
 (d23:É K "_law_marked" yr fu23 eu23)
 (d24:É K "_law_filled" yt fu24 eu24)
 (d25:É K "_law_is_table" ww fu25 eu25)
 (d26:É K "_law_good_table" zP fu26 eu26)
 (d27:É K "_law_many" vV fu27 eu27)
 (d28:É K "_law_led" Zi fu28 eu28)
 (d29:É K "_law_reach" va fu29 eu29)
 (d30:É K "_law_is_fence" wx fu30 eu30)
 (d31:É K "_law_bent" vX fu31 eu31)
 (d32:É K "_law_right" vb fu32 eu32)
 (d33:É K "law" Pi fu33 eu33)
 {tk0:Tok}(v0:rA K K5 "MOST_ROWS" =some (some (.int 6 tk0)))
 {tk1:Tok}(v1:rA K K5 "MOST_TABLES" =some (some (.int 3 tk1)))
 {tk2:Tok}(v2:rA K K5 "MOST_ROWS_OF_SEVERAL" =some (some (.int 3 tk2)))
 (z:zsB K=true)
 : ∃fd:C3,(∀ (s:G3) (v:G2),tE s fd ⟨[v],[]⟩ [("_law_script",v)])/\ ∀base:L8,K.In base->base.Ns K5 mg->Bm mg base->Î l.prog w K mg base ì 10 fa fd ["_law_script"] (ó K DE):=by
 have e:=hfa.symm.trans (d33.nm X G);cases e;have vZ: ∃tk,mg "MOST_ROWS" =some (.int 6 tk):=⟨_,pO X G v0⟩;have yC: ∃tk,mg "MOST_TABLES" =some (.int 3 tk):=⟨_,pO X G v1⟩;have zd: ∃tk,mg "MOST_ROWS_OF_SEVERAL" =some (.int 3 tk):=⟨_,pO X G v2⟩;have Z:=TX X G z;obtain⟨_,_,kV,dc,pm,an,cd,ct,_,rfl,_⟩:=d33.fn.ex;refine⟨dN "law" "law" (yK Pi) (zV Pi) (je Pi) .none kV dc pm an cd ct,λs v=> .of_eq rfl,λbase _ _ B=> ?_⟩;have Pv:=λn=>d0.cal l w base X G (XZ (n:=n+0) Z d0.fn)
 have Oh:=λn=>d1.cal l w base X G (BC (n:=n+0) Z d1.fn)
 have Yb:=λn=>d2.cal l w base X G (Wx (n:=n+1) Z d2.fn (Pv (n+0)))
 have wb:=λn=>d3.cal l w base X G (Zk (n:=n+2) Z d3.fn (Yb (n+0)) vZ)
 have Zy:=λn=>d4.cal l w base X G (Vs (n:=n+3) Z d4.fn (wb (n+0)))
 have JJ:=λn=>d5.cal l w base X G (WV (n:=n+3) Z d5.fn (wb (n+0)) yC zd)
 have Xa:=λn=>d6.cal l w base X G (Vt (n:=n+0) Z d6.fn)
 have CB:=λn=>d7.cal l w base X G (LU (n:=n+4) Z d7.fn (Zy (n+0)))
 have VC:=λn=>d8.cal l w base X G (BD (n:=n+4) Z d8.fn (Zy (n+0)))
 have JH:=λn=>d9.cal l w base X G (WW (n:=n+5) Z d9.fn (VC (n+0)) (Xa (n+4)))
 have ZE:=λn=>d10.cal l w base X G (Zl (n:=n+6) Z d10.fn (VC (n+1)) (JH (n+0)))
 have MJ:=λn=>d11.cal l w base X G (Pj (n:=n+5) Z d11.fn (CB (n+0)) (VC (n+0)) (wb (n+2)))
 have VB:=λn=>d12.cal l w base X G (WX (n:=n+6) Z d12.fn (JJ (n+2)) (MJ (n+0)) (Oh (n+5)) (VC (n+1)) (JH (n+0)))
 have Pu:=λn=>d13.cal l w base X G (Qb (n:=n+7) Z d13.fn (JJ (n+3)) (ZE (n+0)) (CB (n+2)))
 have Qn:=λn=>d14.cal l w base X G (UI (n:=n+0) Z d14.fn)
 have Pt:=λn=>d15.cal l w base X G (Qc (n:=n+0) Z d15.fn)
 have zQ:=λn=>d16.cal l w base X G (UJ (n:=n+0) Z d16.fn)
 have UZ:=λn=>d17.cal l w base X G (Vu (n:=n+0) Z d17.fn)
 have Pr:=λn=>d18.cal l w base X G (Qe (n:=n+1) Z d18.fn (zQ (n+0)))
 have Qp:=λn=>d19.cal l w base X G (UK (n:=n+0) Z d19.fn)
 have UY:=λn=>d20.cal l w base X G (Vv (n:=n+1) Z d20.fn (zQ (n+0)))
 have UV:=λn=>d21.cal l w base X G (Vw (n:=n+1) Z d21.fn (zQ (n+0)))
 have Zx:=λn=>d22.cal l w base X G (Vx (n:=n+0) Z d22.fn)
 have yD:=λn=>d23.cal l w base X G (WY (n:=n+0) Z d23.fn)
 have JF:=λn=>d24.cal l w base X G (WZ (n:=n+0) Z d24.fn)
 have WH:=λn=>d25.cal l w base X G (ZB (n:=n+1) Z d25.fn (UZ (n+0)))
 have Zn:=λn=>d26.cal l w base X G (JB (n:=n+2) Z d26.fn (UV (n+0)) (zQ (n+1)))
 have Qo:=λn=>d27.cal l w base X G (UL (n:=n+3) Z d27.fn (zQ (n+2)) (UY (n+1)) (Zn (n+0)))
 have Pq:=λn=>d28.cal l w base X G (Qf (n:=n+1) Z d28.fn (yD (n+0)) (Zx (n+0)))
 have UW:=λn=>d29.cal l w base X G (Vy (n:=n+2) Z d29.fn (Pq (n+0)) (yD (n+1)))
 have WG:=λn=>d30.cal l w base X G (ZC (n:=n+2) Z d30.fn (JF (n+1)) (yD (n+1)) (WH (n+0)) (Zx (n+1)))
 have Qm:=λn=>d31.cal l w base X G (UO (n:=n+1) Z d31.fn (zQ (n+0)))
 have UX:=λn=>d32.cal l w base X G (Vz (n:=n+8) Z d32.fn (UW (n+5)) (JF (n+7)) (Qp (n+7)) (Pu (n+0)) (Pr (n+6)) (Qm (n+6)) (WG (n+5)) (VB (n+1)))
 exact ER (n:=9) Z d33.fn (Qn 8) (Pt 8) (Qo 5) (UX 0)
end My
namespace PySem.W.Fast
def tw1096625312297628797:=G8
def tw9642637398257124017:=G8
def tw16431849395579572002:=G8
def tw8672151056213816056:=G8
def tw2213224060952251381:=G8
def tw17183778404439107917:=G8
def tw16839142761545327199:=G8
def tw8547413373025281476:=G8
def tw5862020852072219483:=G8
def tw15367010950296268508:=G8
def tw15716964198323523289:=G8
def tw15053872345453426999:=G8
def tw12162054220787368520:=G8
def tw6990322121981907308:=G8
def tw15451275775440142924:=G8
def tw6378843643285411838:=G8
def tw13381518669911509966:=G8
def tw8462015514085813366:=G8
def tw6943055959581717117:=G8
def tw4573454003857604697:=G8
def tw5893661666012939742:=G8
def tw5633794051444313179:=G8
def tw3619957531380494661:=G8
def tw14648735162534370575:=G8
def tw9442698805362841606:=G8
def tw215649528540265426:=G8
def tw5312591228990959499:=G8
def tw14033490356324479954:=G8
def tw12369557137254262200:=G8
def tw14802640538073701781:=G8
def tw2676919248958170397:=G8
def tw12833215351109689675:=G8
def tw13500842187926610860:=G8
def tw11272075385804216296:=G8
def tw6652457813501863303:=G8
def tw4635874217577407418:=G8
def tw945479471693125654:=G8
def tw17751066148389906854:=G8
def tw18264504695460070699:=G8
def tw14947415021221470813:=G8
def tw8641545928827456385:=G8
def tw10098012294493525831:=G8
def tw7090558482090424768:=G8
def tw11435531877039354118:=G8
def tw12849927171581670735:=G8
def tw10887312662791217864:=G8
def tw4239320199222204216:=G8
def tw4854748375537904631:=G8
def tw8564660897762662833:=G8
def tw18233913806012701278:=G8
def tw2053199200854979723:=G8
def tw14007247507950648013:=G8
def tw10053362162856814584:=G8
def tw8410944431915089088:=G8
def tw14844158861692520254:=G8
def tw572679746932707536:=G8
def tw15904482029234908347:=G8
def tw13039271640494009644:=G8
def tw2086183181278233097:=G8
def tw13680561034491715299:=G8
def tw7832782540733143092:=G8
def tw7769121617885076863:=G8
def tw1079368756815093360:=G8
def tw14215132835704849702:=G8
def tw10164073704291324950:=G8
def tw4021426744805853561:=G8
def tw6767494929772486952:=G8
def tw10945469990230142617:=G8
def tw12692835823487173772:=G8
def tw16777865744558255890:=G8
def tw2821132237932213219:=G8
def tw644956382656864356:=G8
def tw14963499733171800015:=G8
def tw5786499437339814873:=G8
def tw16854885930936221304:=G8
def tw2036525844736215590:=G8
def tw4697001777875091398:=G8
def tw7097515421845713619:=G8
def tw12810106729394293304:=G8
def tw9897651464483426557:=G8
def tw8857357273769003567:=G8
def tw8870596841259448510:=G8
def tw10897909186470132014:=G8
def tw11079644312666906618:=G8
def tw9079341806720397237:=G8
def tw11880790240739502899:=G8
def tw4910667925807322149:=G8
def tw3937356537642526738:=G8
def tw13348662527562556102:=G8
def tw13365045315810036477:=G8
def tw14924559616250104603:=G8
def tw13837388002998988544:=G8
def tw10740480129388130952:=G8
def tw7022130870871141389:=G8
def tw16415281201017165341:=G8
def tw14401487990572569989:=G8
def tw5641836623597117107:=G8
def tw9009321051515467988:=G8
def tw8322415273544196882:=G8
def tw2802610379580499671:=G8
def tw9564126642950477279:=G8
def tw8639801719889777981:=G8
def tw14744794355218375709:=G8
def tw18116108630173406630:=G8
def tw15553732574413469502:=G8
def tw10579634543039123214:=G8
def tw13283670401569143495:=G8
def tw16542345022612774844:=G8
def tw3496898710257122335:=G8
def tw900466319053673048:=G8
def tw16420624422417571911:=G8
def tw6477300956932833767:=G8
def tw7816200305516584972:=G8
def tw16234373114462900559:=G8
def tw1587629184270011794:=G8
def tw3565036769776514211:=G8
def tw2930892312152123233:=G8
def tw1944262907488810795:=G8
def tw9055607059966481116:=G8
def tw4248223625988016381:=G8
def tw12663870476757888380:=G8
def tw12197973383158543284:=G8
def tw12066719352555827590:=G8
def tw13047911318655084463:=G8
def tw8920151148368797638:=G8
def tw4164271446717869534:=G8
def tw6998793729115126782:=G8
def tw421870669716761191:=G8
def tw10594341968263001633:=G8
def tw10003896534782125377:=G8
def tw7408842429092732779:=G8
def tw17914285380889062579:=G8
def tw7224082680861948468:=G8
def tw13882196927402414627:=G8
def tw11423855508622161386:=G8
def tw7696836599919451861:=G8
def tw8548513624165367812:=G8
def tw1749190649738541959:=G8
def tw11663358122758132801:=G8
def tw5605441647130310958:=G8
def tw3047193936809730822:=G8
def tw16294504172654898639:=G8
def tw15641703451772826899:=G8
def tw3520263890480065364:=G8
def tw13411013080212790857:=G8
def tw12672224435426723286:=G8
def tw6464541194536337448:=G8
def tw2372372708846344686:=G8
def tw5533355300767797379:=G8
def tw16903140201975002935:=G8
def tw13597623779166543289:=G8
def tw3951774873770600546:=G8
def tw16295535942672352634:=G8
def tw17566730104296427818:=G8
def tw15568629887863830980:=G8
def tw10159174533840470575:=G8
def tw1462174685026495359:=G8
def tw8852105536626506350:=G8
def tw13880276443522755451:=G8
def tw16895965507523089389:=G8
def tw8860480651413753190:=G8
def tw9521638335528652341:=G8
def tw5826949615951417424:=G8
def tw16402631322198310897:=G8
def tw13255005429101978299:=G8
def tw10889316424703931488:=G8
def tw1492796231463397034:=G8
def tw7351533616535613755:=G8
def tw8018428447960474302:=G8
def tw12861409678705937587:=G8
def tw370262774855626913:=G8
def tw16625015290681931826:=G8
def tw15879429548312455054:=G8
def tw1371381462496531753:=G8
def tw6575609061354375763:=G8
def tw9669304590324769993:=G8
def tw6052780738414297323:=G8
def tw1718997870420673479:=G8
def tw10103350055606315245:=G8
def tw912521605527409579:=G8
def tw2293447878281219797:=G8
def tw18405314406857532450:=G8
def tw18236748105603785783:=G8
def tw18013127060300737842:=G8
def tw16694109661342568824:=G8
def tw15801423163031183042:=G8
def tw14245383770595279627:=G8
def tw13734785316354860788:=G8
def tw1140611058699029289:=G8
def tw10611941045827906201:=G8
def tw9459638209119110902:=G8
def tw9098747408747725392:=G8
def tw9003448730457840743:=G8
def tw8325042862975639777:=G8
def tw8247389906878816731:=G8
def tw8115666123460823709:=G8
def tw7981475317013077841:=G8
def tw7431193128790353540:=G8
def tw6314235151953464367:=G8
def tw6182437871501943012:=G8
def tw6081248268113298901:=G8
def tw5922302388547783467:=G8
def tw5883042446867930468:=G8
def tw5729689795947308603:=G8
def tw5214704095900082303:=G8
def tw493913733677949315:=G8
def tw4887397274684115630:=G8
def tw4665114670977637208:=G8
def tw4317471896825574616:=G8
def tw3992447324182640636:=G8
def tw3860344592902596751:=G8
def tw3760564349294127789:=G8
def tw3325847331415800760:=G8
def tw2087419941067514666:=G8
def tw17353673657112833343:=G8
def tw16726534661146832831:=G8
def tw1643946650145087317:=G8
def tw16365597084398368619:=G8
def tw15687997929877551174:=G8
def tw15406431080883700185:=G8
def tw15038730573313525621:=G8
def tw1460820488381465545:=G8
def tw14589664781958613039:=G8
def tw14345193793422910499:=G8
def tw1390365936895946005:=G8
def tw13607014678059664159:=G8
def tw13333254097372600563:=G8
def tw13242876917038844486:=G8
def tw12490157074139256332:=G8
def tw12105334212597499606:=G8
def tw11964015086827487053:=G8
def tw11831535343838543936:=G8
def tw11672149252048935240:=G8
def tw11521061970369946916:=G8
def tw11079293475910837449:=G8
def tw10904044477000223088:=G8
def tw10406305047291513890:=G8
def tw10164597192077333585:=G8
def tw17947449109653418992:=G8
end PySem.W.Fast
open PySem PySem.W PyProof.Rows
set_option maxRecDepth 100000 in
set_option maxHeartbeats 0 in
theorem PySem.Challenge.cw_firstpowers_k71_fences_of_tables_holds : PySem.Challenge.rw_firstpowers_k71_fences_of_tables.Holds := by
  w_on; o_law; k_head; (case hw => w_witness2)
  k_fill
  refine L2.Nu (l := PySem.Challenge.rw_firstpowers_k71_fences_of_tables) (k := 10) (x := "_law_script") rfl rfl ⟨rfl, by decide, by decide, rfl⟩ (fun w h Y => PySem.W.kIn_of Y) ?B ?F
  case B => intro w; kernel_rfl
  case F =>
    intro w mg fa h KX G hmg
    refine' My.ES KX G hmg ?d0 ?d1 ?d2 ?d3 ?d4 ?d5 ?d6 ?d7 ?d8 ?d9 ?d10 ?d11 ?d12 ?d13 ?d14 ?d15 ?d16 ?d17 ?d18 ?d19 ?d20 ?d21 ?d22 ?d23 ?d24 ?d25 ?d26 ?d27 ?d28 ?d29 ?d30 ?d31 ?d32 ?d33 ?v0 ?v1 ?v2 ?z
    case d0 | d1 | d2 | d3 | d4 | d5 | d6 | d7 | d8 | d9 | d10 | d11 | d12 | d13 | d14 | d15 | d16 | d17 | d18 | d19 | d20 | d21 | d22 | d23 | d24 | d25 | d26 | d27 | d28 | d29 | d30 | d31 | d32 | d33 => refine' L2.ED ?a ?l ?c ?k; (case a => k_is); (case l => k_is); (case c => k_is); (case k => k_is)
    case v0 | v1 | v2 => k_is
    case z => kernel_rfl
