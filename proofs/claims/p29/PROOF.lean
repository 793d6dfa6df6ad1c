import PyProof.Rows.All
import Wide.All
import OpenK.AllK
import Wide.FinOn
import Lean
import PyProof.EqAt
import PyProof.EqKinds
import PyProof.TupleCall
import PyProof.Rows.TopTwo
import KE.KIsAll
import PyProof.ExcAttrAll.ValueError
import KE.KTryMore
import KE.KRevIter
import PyProof.SetRoads
import PySem.Challenge.RW_firstpowers_k29_turns_told
set_option Elab.async false
set_option linter.all false
set_option bootstrap.genMatcherCode false
set_option genSizeOf false
set_option maxRecDepth 100000
set_option maxHeartbeats 8000000
noncomputable section
open _root_ renaming List->G0,Nat->G5,Int->P1,Option->P5,decide_eq_true->D3,decide_eq_false->D9,if_pos->R8,if_neg->R9,Array->T6,Bool->M7,decide_eq_true_iff->C6,of_decide_eq_true->L8,String->U5,decide_eq_true_eq->W5,beq_self_eq_true->X8,StateT->Z4,exists_eq_left'->bL,ForInStep->fT,decide_eq_false_iff_not->fV,if_true->f8,of_decide_eq_false->kT,if_false->mC,bne_self_eq_false->qG,dif_pos->xR,decide_true->IK
open PySem renaming Value->G1,Shared->G3,Addr->G9,wpAny_pure->P2,starEach->P8,wpAny->R0,model->R7,Program->S8,Around->T8,SetTable->T9,wpAny_mono->M0,FuncData->M6,Expr->M9,World->B0,Heap->C7,foldedSetIterable->C8,compareOp->F7,wpAny_holding->L7,wpAny_setState_of->O7,eval->A2,Stmt->A6,rawInt->A7,backTo->E1,wpAny_truthy_bool->E6,mem_of_lookup->J7,Scope->K1,wpAny_call_entry->K2,wpAny_execs_cons->Q0,bootBuiltins->Q5,wpAny_callSpecial?_slot->Q7,behindInMarks->U3,cellsFrom->U7,binaryOp->V6,wpAny_Call_Name_kw->X7,codeAny_call_builtin->Y8,wpAny_pyIter_list->Z8,codeAny_builtin->aE,codeAny->aK,swapsWith->aQ,wpAny_pyIter_tuple->aU,PyData->aV,holding->aZ,wpAny_passesOwn->bJ,wpAny_newObj_type->bO,wpAny_call->bY,attributeBase->b7,wpAny_askSetting->cA,checkBuiltinCall->cE,isSubtype_type->cF,sysModules->cI,codeAny_mono->cJ,Keyword->cL,wpAny_execs_nil->cR,searchCouldBeSeen->dA,ofAClassStatement->dB,wpAny_newFunctionEnv_cells->dF,keywordEach->dG,wpAny_standAt->dZ,swapsWithSole->eI,swappedStores->eJ,letOwnedTupleGo->fC,assignEach->fI,sliceBounds->fQ,Fin->fU,setAddHashedIn->gH,codeAny_call_function->gM,wpAny_rule->gR,call_meets->gW,TriplesOk->gX,standAt->hO,Comprehension->iA,wpAny_loadName_local->iB,hashByValue->iG,assign->iI,Model->iP,CmpOp->iQ,getItem->iV,builtinsNs->i5,backToKw->j9,closureFor->kL,wpAny_binaryOp_repeat_ref->kY,wpAny_Assign_Name->lD,wpAny_storeSet_of->lJ,wpAny_attempt->lN,plainId_quiet->lQ,wpAny_newList->lS,lastMarks->lW,noFill_tuple_add->mB,codeAmong->mE,hashInt->mI,IsPart->mL,wpAny_typeOf->mN,typeIs_int->mQ,wpAny_specialOf->m5,codeAny_of_tree->m7,builtinLookup_eq_fast->nJ,wpAny_bindName->nM,sizeLine_eq->nN,Result->nQ,wpAny_field->nU,subscripted->nV,lookup_relabel_local->nW,setField->n4,PassesOwn->oH,BindsTo->oI,Arguments->oJ,callerA->oK,valueAt->oM,isSubtype->oO,wpAny_loadName_cell->oP,assignInOrder->oX,seq_tuple_add->oY,checkTypeCall->o4,wpAny_Name->pA,wpAny_load->pB,wpAny_Return_some->pQ,Operator->pR,leaving->pV,name_of_addr->pW,codeAny_func->pX,concat_meets->pY,wpAny_sequenceKey->pZ,seqIndex_neg->p0,compTurn->qB,wpAny_pyIter_enum->qE,callSpecial?->qF,entryFor->qH,wpAny_pyIter_slot->qI,wpAny_pyHash_int->qU,truthy->qV,stored->qZ,seqSlot_of->rB,wpAny_isInstance->rE,entryFor_of_fast->rF,bindL->rO,bindC->rP,seqIndex_of->rQ,wpAny_of_eq->rR,pushCells_keeps->sD,typeLookup_type->sH,Setting->sQ,wpAny_Expr_any->sS,bindName->sT,pyIter->sU,wpAny_Compare1->sV,bindArgs->sZ,fitsIndex_both->tG,newFunctionEnv->tJ,compEnvC->tK,wpAny_setField->tN,boundAndCalled->tQ,relayAll->tV,entryFor_alias->tW,wpAny_newTuple->tX,wpAny_runValue->tY,carriedByValue->uD,IsTupleKey->uE,wpAny_seqItems->uF,boot_len->uG,intBits_le_64->uM,comprehension->uR,setSearchFrom->v7,storeName->w8,atKey->xB,Within->xG,spliced->xH,setItem->xJ,pyNext->xK,callFunction->xP,interactive->y6,wpAny_If->y8,IsRangeIter->y9,setRelay->IJ,typeLookup->IW,typeIs_str->IX,typeOf->IZ,call->G0a,reduceHash->G0b,seqRepeat?->G0c,IsEnum->G0d,isInstance->G0e,layNew->G0f,argsOk->G0g,release->G0m,operate->G0s,again->G0H,data2->G0J,Params->G0K,cellOf->G0L
open List renaming length_map->G2,getElem?_eq_getElem->G8,mem_singleton->P0,range->P4,getElem?_eq_some_iff->P6,getElem?_map->P7,mem_of_getElem?->P9,length_append->D0,mem_range->D1,append_assoc->D4,mem_cons->D5,getD_eq_getElem?_getD->D7,length_cons->R1,mem_append->R4,mem_cons_self->R5,size_toArray->S0,mem_append_right->S5,length_range->S7,mem_map->S9,mem_cons_of_mem->T3,map_append->T7,length_take->N0,take_of_length_le->N2,map_cons->N4,getElem?_append_right->N5,take_append_drop->N6,map_map->N8,all_eq_true->N9,replicate->B2,pairwise_append->B3,map_congr_left->B6,getElem?_append_left->B7,mem_filter->C3,length_nil->C4,length_drop->C5,length_reverse->F9,not_mem_nil->H0,getElem_mem->L0,pairwise_map->L9,mem_append_left->O0,length->O1,nil_append->O2,pairwise_singleton->O3,getElem?_eq_none->O8,append_nil->O9,pairwise_iff_getElem->A1,mem_of_mem_drop->A4,range_succ->A5,getElem?_range->A8,lookup_cons->E3,take_add_one->E7,drop_eq_nil_of_le->E8,mem_of_mem_take->E9,filter_append->J6,nodup_cons->K0,mem_reverse->K4,getElem?_set_ne->K6,cons_append->Q1,length_filter_le->Q4,filter_cons_of_pos->Q8,filter_cons_of_neg->Q9,getElem?_cons_zero->U0,pairwise_cons->U1,extract_eq_drop_take->V0,drop_sublist->V4,eq_nil_of_length_eq_zero->V5,length_erase_of_mem->V7,take_sublist->W1,map_nil->W4,reverse_perm->X0,filterMap_cons->X1,replicate_succ->X2,getElem_of_mem->X3,getElem?_drop->X9,getElem?_take_of_lt->Y4,mem_erase_of_ne->Y7,getElem?_of_mem->Y9,drop_append_of_le_length->Z5,take_append_of_le_length->Z6,find?_cons->aB,mem_map_of_mem->aG,getElem?_set_self->aH,all_map->aN,length_pos_of_mem->aP,mem_filterMap->aR,drop_drop->aY,getLastD_eq_getLast?->bH,getLast?_eq_getElem?->bI,flatten_cons->bP,nodup_append->bT,length_eq_zero_iff->cB,getElem?_cons_succ->cH,getElem_range->cO,filter_eq_nil_iff->cP,length_singleton->cV,perm_append_comm->cW,getElem?_reverse->cX,ext_getElem?->cY,take_zero->dL,take_length->dO,any_eq_true->dP,of_mem_zip->fE,forIn_cons->fF,filter_nil->fG,zip_cons_cons->fJ,getElem?_replicate->fO,getElem?_set->gB,range_succ_eq_map->gE,map->gF,pairwise_reverse->gP,nodup_range->g9,any_cons->hZ,foldl_cons->iJ,length_pos_iff->iR,length_eraseIdx_of_lt->kQ,getElem?_eq_none_iff->k9,exists_mem_of_ne_nil->lB,zip_nil_left->lE,mapM_toArray->lK,flatMap_cons->lL,perm_middle->mF,all_toArray->mH,Nodup->mV,getElem_of_append->mW,length_eq_one_iff->mY,length_replicate->nH,set_append_right->nK,drop_zero->nZ,drop_take->n9,take_take->oA,getLast?_concat->oB,map_id->oC,reverse_append->oS,take_succ_cons->oU,flatMap_append->oV,map_take->o0,map_drop->o3,zip_nil_right->pE,getElem?_take->pI,find?_eq_none->pL,filter_filter->pN,filter_congr->qO,getElem_take->qQ,getElem_drop->qR,map_id'->qS,ext_getElem->rD,append_cons->rG,mem_flatMap->rL,length_set->sB,foldl->tF,all_cons->uS,any_map->xM
open PySem.W renaming Frag->G6,keepIn->K8,kia_one->U4,fnOf->Y5,hideAll_none->bM,hideAll_get->b9,cellsFrom_some->cK,hideAll->fB,codeIn->f6,of_hideAll->i4,kitOne->j0,callWith_K->j5,codeRec_of->j6,methodObj->lC,tabIn->lM,instObj->mZ,kat_nil->nC,lookIn->nO,tabObj->nY,kitx_list->pT,kitx_dict->pU,plainGet->qW,OpenLaw->sE,kat_one->sN,findIn->sW,CodeHd->tL,Looks->u8,nsIn->xZ,hideAll_size->y4,kas_first_eq->IF,kitx_float->IU,kitx_tuple->IV,ki_setBack->IY,hasDictIn->G0n,plainOver->G0o,specialIn->G0p,kitx_none->G0q,kitx_bool->G0r,eq_bytes->G0u,ne_bytes->G0v,kitx_int->G0w,kitx_str->G0x,kitx_own->G0y,ki_setAt->G0z,kat_cons->G0A,codeHdIn->G0D,takesIn->G0E,kat_yes->G0G,InstAt->G0I,tab_of->G0M,KatLex->G0Q,kat_go->G0R,kat_no->G0S,kat_lt->G0U,mroIn->G0W,WalkO->G0X,mg_of->G0Z
open PySem.Heap renaming get?_push_of_some->G7,lt_size->D2,get?_push_size->S4,get?_update_self->C9,SameBut->O6,size_push->gA,get?_update_ne->iT,get?_update_other->mP
open Nat renaming le_refl->P3,le_trans->R6,le_of_lt->S6,lt_of_lt_of_le->T5,ne_of_lt->M8,zero_le->N3,lt_irrefl->B1,lt_or_ge->O4,add_sub_cancel'->J8,lt_of_le_of_ne->K7,zero_add->U8,pow_succ->U9,lt_of_le_of_lt->V8,lt_succ_self->V9,mod_lt->W8,lt_of_succ_lt->W9,le_add_right->Y0,ne_of_gt->Y3,add_zero->Y6,not_lt->aC,min_eq_left->aD,not_lt_zero->aF,mul_comm->aL,le_of_eq->aM,gcd->bV,lt_trans->cM,succ_pos->cN,div_div_eq_div_mul->cQ,le_add_left->cU,lt_trichotomy->cZ,one_pos->dM,min_le_right->dN,add_le_add_left->dX,mul_le_mul_left->dY,add_assoc->e8,sub_lt->fK,pos_of_ne_zero->fL,add_right_comm->fM,add_sub_cancel_left->fX,mul_add->fY,lt_of_succ_le->gC,lt_succ_of_lt->gD,succ_le_of_lt->gJ,pow_zero->gK,succ_le_succ->g7,mod_eq_of_lt->hJ,pow_le_pow_right->iF,sub_self->iZ,dvd_refl->i0,eq_zero_or_pos->kU,add_mul_mod_self_left->lA,le_of_dvd->lU,le_of_not_lt->mD,succ_mul->mS,mod_eq_zero_of_dvd->mX,div_add_mod->nE,add_mod->oE,div_one->oF,mul_assoc->o7,dvd_trans->o8,add_sub_cancel->pJ,le_of_succ_le->qK,sub_pos_of_lt->qP,min_eq_right->rC,add_mul->rW,pow_pos->rX,dvd_gcd_iff->sJ,max_eq_left->sK,mod_add_div->sO,add_le_add->tZ,sub_zero->xN,zero_mul->xT,dvd_zero->xU,le_total->xV,gcd_comm->xW,zero_mod->xX,le_succ->z8,gcd_rec->IG,mod_mod->IH,mul_mod->II,mul_sub->IM,sub_le->G0h,succ->G0P
open PyProof.Rows renaming Keyed->D6,arrOf->M5,pendingOf->C0,SortSt->F4,envOfC->Q3,IntsAre->W0,slot_tuple_getitem->X4,callWith_type1->aJ,failedOf->bW,seqObj->cG,boot_isinstance->cT,boot_all->gQ,callWith_builtin1->gV,AllBare->iU,assignInOrder_cons->i7,subscriptTail_builtinR->mO,entry_list_sort->m8,slot_list_sort->n5,args_list_sort->n8,lt_int->oQ,entry_tuple_getitem->oR,subscriptTail->oZ,args_tuple_getitem->pF,assignInOrder_nil->pS,plain_sorted->qL,entry_sorted->qM,args_sorted1->qN,IsTup->rN,kind_sorted->rV,get?_update_seq->sL,oneTypeOnly'_eq->sM,slicePart_none->tD,Subscript_->tE,keyKind'->t8,printed_name->uJ,printed_star->uK,tupleItemsOf_->uO,reverseSlice'->u6,listUpdate_at->u7,isTrue_plain->xI,listItems_at->xS,mergeAt'->IB,binarySort'->IC,seqEpoch_at->IE,recsOf->IN,isTrue_and->IR,boot_range->IS,setPending->G0i,oneLt'->G0T,seen->G0V
open Array renaming length_toList->D8,getElem?_toList->N7,toList_append->L5,getElem?_eq_some_iff->K3,toList_push->K5,getElem?_eq_getElem->X5,toList_extract->bX,getD_eq_getD_getElem?->c9,getElem_toList->dH,getElem?_eq_none_iff->dJ,size_setIfInBounds->e7,toList_reverse->iH,isEmpty_eq_false_iff->kO,toList_setIfInBounds->kW,getElem?_eq_none->mU,replicate->nD,mem_toList_iff->nP,forIn_toList->pM,toList->pO,isEmpty_iff->qC,toList_map->rJ,getD->tU,size_map->uC
open Bool renaming false_ne_true->R3,and_eq_true->B8,false_eq_true->A0,eq_iff_iff->J9,eq_false_iff->Z9,or_eq_true->bK,false_and->dE,and_false->dI,not_eq_true'->lH,true_and->lV,or_eq_false_iff->nX,and_true->o9,not_false->uB,or_false->uP,false_or->uQ,not_true->v9,true_or->xL
open PySem.SetTable renaming bits->T4,below->M1,runEnd->E5,turns->I0,sizeAbove->J5,Probe->U2,insertAt->W7,advance->Y1,orStandIn->Y2,grown->Z0,has->dQ,toList_insertAt->eU,insertAt_perm->gL,layClean->lI,slot->lO,laid->o6,fresh->uA,fits->u5,leap->v5,fill->v6,probeStart->IP,sameMemory->IQ,freeSlot->G0t,gaveWay->G0B,tooFull->G0C,relaid->G0F
open PySem.PassesOwn renaming never->B9
open Option renaming map_eq_some_iff->F8,isSome_iff_exists->J4,map_eq_none_iff->gI,isSome_some->pG,getD_none->qX,getD_some->rA
open PySem.Heap.SameBut renaming update->L6,refl->bR,trans->G0k
open PySem.PyData renaming eqv->O5,depthAll->E4,canLayAll0->W6,depth->aO,canLay0->aW,eqvAll->eQ,int->gY,bool->rZ,str->G0l
open PySem.NameKind renaming free->A3,cell->b8
open Sum renaming inl->A9,inr->e9
open Option.some renaming inj->E2,injEq->aA
open PySem.SetTable.layClean renaming free->J0
open Or renaming inl->K9,inr->bG
open PySem.SetTable.probe renaming go->Q6
open Ne renaming symm->U6
open Decidable renaming byContradiction->V1
open PySem.Value renaming type->V2,ref->Z7,isInt->dD,none->fH,int->fN,bool->mJ,str->oG,isStrOf->uL,float->x8
open Int renaming toNat_natCast->V3,natCast_emod->dS,emod_nonneg->iO,fdiv_eq_ediv_of_nonneg->i8,fmod_eq_emod_of_nonneg->i9,emod_lt_of_pos->kX,toNat->oN,lt_of_lt_of_le->pH,mul_comm->qD,pow_pos->rS,natCast_add->sF,mul_nonneg->tM,le_of_lt->xO,ne_of_gt->xY,mul_pos->z6,pow_add->z7
open PySem.Obj renaming mapSeq->W3,mapFields->eN,putSet->gZ
open Classical renaming byContradiction->X6,em->dR
open True renaming intro->aS
open PySem.Calls renaming spliced_cons->aT,call_function_entry->dW,spliced_nil->fZ,evalArgs_plain->iD,Name_function_global->i6,callWith_builtin->mR,Constant_str->u3
open PySem.F renaming slot_tuple_iterator_next->aX,plainAttrs_list->cC,args_tuple_add_2->eL,entry_tuple_add->fP,slot_tuple_add->f7,slot_tuple_lt->gO,slot_int_rmul->iK,args_tuple_iterator_next_1->iM,slot_dict_setdefault->iN,entry_tuple_iterator_next->iW,args_tuple_lt_2->l9,slot_list_count->mG,entry_tuple_lt->mK,args_int_rmul_2->qA,plain_list_iadd->qJ,entry_int_rmul->qY,args_dict_setdefault_3->rM,entry_dict_setdefault->rY,fills_int_mul->sC,entry_set_new->sG,slot_set_iter->sI,type_dict_setdefault->sP,excBase_ValueError->tO,args_list_count_2->uI,slot_list_append->uU,type_list_append->uV,slot_list_insert->uW,type_list_insert->u0,entry_list_count->u4,slot_list_index->xC,type_list_index->xD,type_list_count->xE,plainAttrs_dict->xF,called_set->xQ,entry_bexc_ga->x5,args_bexc_ga->IA
open PySem.SetTable.sizeAbove renaming go->bE
open PySem.Builtin.Slice renaming slicePlaces->bF,sliceAdjust->dU,sliceApplied->j7,slicePartIndex->r9,sliceFields->uH
open PyProof.Rows.LCg renaming lst->bQ
open PySem.Builtin.SmallTypes renaming stopIteration->bS,nextOf->k5
open PySem.Around renaming under_plainId->bU,frames_deeper->iC
open PySem.Builtin.Tuple renaming tupleExact->bZ,tupleItemsOf->j8,tupleIsExact->kM,tupleTooMany->kN,tupleHashOf->kZ,tupleCompareSizes->qT
open ForInStep renaming yield->cS
open PySem.Builtin.List renaming listTooLong->eM,listLengthHint->iY,listFitsIndex->kK,listSameRef->lR,listExtendWith->sR
open PySem.AutoSeq1 renaming wpAny_loadPart'->eO,sub_tuple_tuple->uN
open PySem.SetTable.below renaming go->gG
open PySem.W.Looks renaming here->kP,of_pure->o5,here->pK,ld->rK,ld->z9
open List.Pairwise renaming nil->lF,filter->IL
open Function renaming comp_def->lG,comp_apply->oW
open PySem.Str renaming ofString->mM,empty->xA
open PySem.Walks renaming list->mT,tuple->rT
open List.Perm renaming trans->m9,append->rH,eq_of_pairwise->u9,cons_inv->G0j,cons->G0N,swap->G0O,nil->G0Y
namespace L2
open PySem PySem.Spec PyProof.Rows
abbrev ß:=Sum P1 Str
def Gj:ß->G1->M7
 | .inl k,v=>dD k v
 | .inr x,v=>uL x v
def Kj (w:B0):ß->P1
 | .inl k=>mI k
 | .inr x=>hashStr w x
def jR: ∀ {k:ß} {v:G1},Gj k v=true->(∃i t,k=A9 i/\v=fN i t)\/(∃x t,k=e9 x/\v=oG x t)
 | .inl i,v,h=>by
  obtain⟨t,e⟩:=Value.isInt_shape (k:=i) (v:=v) h;exact .inl ⟨i,t,rfl,e⟩
 | .inr x,v,h=>by
  obtain⟨t,e⟩:=Value.isStrOf_shape (x:=x) (v:=v) h;exact .inr ⟨x,t,rfl,e⟩
def PD (i:P1)(t:Tok):Gj (.inl i) (.int i t)=true:=by simp [Gj,dD]
def PF (x:Str)(t:Tok):Gj (.inr x) (.str x t)=true:=by simp [Gj,uL]
def Os (a b:P1):decide ((A9 a:ß)=A9 b)=(a==b):=by
 by_cases e:a=b
 ·subst e;simp
 ·have h: ¬ (A9 a:ß)=A9 b:=λq=>e (Sum.inl.inj q)
  rw [D9 h];exact(beq_eq_false_iff_ne.mpr e).symm
def Ot (a b:Str):decide ((e9 a:ß)=e9 b)=decide (a=b):=by
 by_cases e:a=b
 ·subst e;simp
 ·have h: ¬ (e9 a:ß)=e9 b:=λq=>e (Sum.inr.inj q)
  rw [D9 h,D9 e]
def Ou (a:P1)(b:Str):decide ((A9 a:ß)=e9 b)=false:=D9 (λq=>nomatch q)
def Ov (a:Str)(b:P1):decide ((e9 a:ß)=A9 b)=false:=D9 (λq=>nomatch q)
def zi (prog:S8)(w:B0):PySem.KeyKind prog w ß where
 is:=Gj
 hash:=Kj w
 inj:=λv a b ha hb=>by
  rcases jR ha with ⟨i,t,rfl,rfl⟩|⟨x,t,rfl,rfl⟩
  ·rcases jR hb with ⟨j,u,rfl,e⟩|⟨y,u,rfl,e⟩
   ·injection e with e1 _;rw [e1]
   ·exact nomatch e
  ·rcases jR hb with ⟨j,u,rfl,e⟩|⟨y,u,rfl,e⟩
   ·exact nomatch e
   ·injection e with e1 _;rw [e1]
 byValue:=λk v h=>by
  rcases jR h with ⟨i,t,rfl,rfl⟩|⟨x,t,rfl,rfl⟩<;>rfl
 pyHash:=λhv h=>by
  rcases jR hv with ⟨i,t,rfl,rfl⟩|⟨x,t,rfl,rfl⟩
  ·exact qU h
  ·exact wpAny_pyHash_str h
 eqBool:=λhu hv h=>by
  rcases jR hu with ⟨i,t,rfl,rfl⟩|⟨x,t,rfl,rfl⟩
  ·rcases jR hv with ⟨j,u,rfl,rfl⟩|⟨y,u,rfl,rfl⟩
   ·rw [Os] at h;exact wpAny_eqBool_int h
   ·rw [Ou] at h;exact SeqAt.EqAt.int_str i t y u _ _ _ _ h
  ·rcases jR hv with ⟨j,u,rfl,rfl⟩|⟨y,u,rfl,rfl⟩
   ·rw [Ov] at h;exact SeqAt.EqAt.str_int x t j u _ _ _ _ h
   ·rw [Ot] at h;exact wpAny_eqBool_str h
 «strs» :=λk x t v h=>by
  rcases jR h with ⟨i,u,rfl,e⟩|⟨y,u,rfl,e⟩
  ·exact nomatch e
  ·injection e with e1 _
   subst e1;cases v<;>rfl
def Xi (prog:S8)(w:B0)(i:P1)(t:Tok):(zi prog w).is (.inl i) (.int i t)=true:=PD i t
def Xj (prog:S8)(w:B0)(x:Str)(t:Tok):(zi prog w).is (.inr x) (.str x t)=true:=PF x t
inductive V where
 |non|bl (b:M7)|int (i:P1)|str (x:Str)|byt (b:T6 UInt8)|flt (b:UInt64)|ref (a:G9)|ty (n:U5)
 deriving DecidableEq
def RelV:V->G1->Prop
 | .non,u=>u=fH
 | .bl b,u=>u=mJ b
 | .int i,u=> ∃t,u=fN i t
 | .str x,u=> ∃t,u=oG x t
 | .byt b,u=> ∃t,u=Value.bytes b t
 | .flt b,u=> ∃t,u=x8 b t
 | .ref a,u=>u=Z7 a
 | .ty n,u=>u=V2 n
abbrev Æ:G0 V->G0 G1->Prop:=Paired RelV
def Æ.length {xs:G0 V}{us:G0 G1}(r:Æ xs us):xs.length=us.length:=Paired.length r
theorem Æ.get: ∀ {xs:G0 V} {us:G0 G1} {i:G5} {x:V},Æ xs us->xs[i]? =some x-> ∃u,us[i]? =some u/\RelV x u
 |_,_,_,_,.nil,e=>by simp at e
 |_,_,0,_,.cons r _,e=>by simp at e;subst e;exact⟨_,rfl,r⟩
 |_,_,i+1,x,.cons _ t,e=>by
  obtain⟨u,h1,h2⟩:=Æ.get (i:=i) (x:=x) t (by simpa using e);exact⟨u,by simpa using h1,h2⟩
variable {u:G1}
theorem Æ.set {x:V}(r:RelV x u): ∀ {xs:G0 V} {us:G0 G1} (i:G5),Æ xs us->Æ (xs.set i x) (us.set i u)
 |_,_,_,.nil=> .nil
 |_,_,0,.cons _ t=> .cons r t
 |_,_,i+1,.cons q t=> .cons q (Æ.set r i t)
theorem Æ.append: ∀ {xs ys:G0 V} {us ws:G0 G1},Æ xs us->Æ ys ws->Æ (xs++ys) (us++ws)
 |_,_,_,_,.nil,s=>s
 |_,_,_,_,.cons r t,s=> .cons r (Æ.append t s)
theorem Æ.take: ∀ {xs:G0 V} {us:G0 G1} (n:G5),Æ xs us->Æ (xs.take n) (us.take n)
 |_,_,0,_=> .nil
 |_,_,_+1,.nil=> .nil
 |_,_,n+1,.cons r t=> .cons r (Æ.take n t)
theorem Æ.drop: ∀ {xs:G0 V} {us:G0 G1} (n:G5),Æ xs us->Æ (xs.drop n) (us.drop n)
 |_,_,0,r=>r
 |_,_,_+1,.nil=> .nil
 |_,_,n+1,.cons _ t=>Æ.drop n t
def Ŋ:P5 V->P5 G1->Prop
 |some v,some u=>RelV v u
 |none,none=>True
 |_,_=>False
def KV {κ:Type}:G0 (κ×V)->G0 (κ×G1)->Prop:=Paired λ(p:κ×V) (q:κ×G1)=>p.1=q.1/\RelV p.2 q.2
def kV:ß->V
 | .inl i=> .int i
 | .inr x=> .str x
inductive HO where
 /-- a list -/
 |lst (xs:G0 V)
 /-- a tuple (never changes) -/
 |tup (xs:G0 V)
 /-- a dict X0Z keys are ints and texts;one X0Z keys are tuples of ints and texts (Ž empty one is both) -/
 |dK (Ã:G0 (ß×V))|dT (Ã:G0 (G0 ß×V))
 /-- a set of ints: its members,its size -/
 |set (S:P1->M7) (n:G5)
 /-- an instance of Ž class at C,its dict at dx,its attributes -/
 |ins (C dx:G9) (fs:G0 (Str×V))
 /-- Ž dict of Ž instance at x -/
 |own (x:G9)
 /-- Ž dict of an exception -/
 |xd (fs:G0 (Str×V))
 /-- a bound method,f of x -/
 |met (f x:G9)
 /-- a range object lo,lo+1,.. below hi -/
 |rng (lo hi:P1)
 /-- a X0p X00 is known to Ž object (Ž script;a dict while a loop walks it):read,never written while it is so -/
 |frz (o:Obj) (u:HO)
 /-- a code object's table -/
 |tbl (ps:T6 G1)
 /-- any other X0p,by X1w is true of its one object (a def of one's own: SetO a S n:=HO.ext λh=> ..) -/
 |ext (φ:C7->Prop)
abbrev Hp:=G9->P5 HO
def upd (H:Hp)(a:G9)(o:HO):Hp:=λb=>if b=a then some o else H b
variable {H:Hp}{a:G9}{o:HO}
def ji:upd H a o a=some o:=by unfold upd;rw [R8 rfl]
variable {b:G9}
def jf (h:b≠a):upd H a o b=H b:=by unfold upd;rw [R9 h]
def Gk {u:HO}(h:H a=some o)(h':H b=some u)(d:o≠u):a≠b:=by
 intro e;subst e;rw [h] at h';exact d (E2 h')
def jl (h:H a=some o)(h':H b=none):a≠b:=by
 intro e;subst e;rw [h] at h';cases h'
def é (h:C7)(a:G9)(items:T6 G1):Prop:= ∃o,h.get? a=some o/\o.cls= .type "tuple" /\o.dict=none/\ ∃n,o.data= .seq items n
def é.tup {h:C7}{a:G9}{items:T6 G1}(x:é h a items):rN h a items:=let ⟨o,e,c,_,n,d⟩:=x;⟨o,e,c,n,d⟩
def é.new (h:C7)(items:T6 G1):é (h.push {cls:= .type "tuple",data:= .seq items}) h.objs.size items:=⟨_,S4 _ rfl,rfl,rfl,_,rfl⟩
section
variable (P:S8)(w:B0)
def Í (H:Hp)(h:C7)(a:G9):HO->Prop
 | .lst xs=>xs.length<=sizeLine/\ ∃ (its:G0 G1) (n:G5),Æ xs its/\h.get? a=some {cls:= .type "list",data:= .seq its.toArray n}
 | .tup xs=>xs.length<=sizeLine/\ ∃its:G0 G1,Æ xs its/\é h a its.toArray
 | .dK Ã=>Ã.length<=sizeLine/\(a==cI)=false/\ ∃vs,KV Ã vs/\h.DictOf (zi P w) a vs
 | .dT Ã=>Ã.length<=sizeLine/\(a==cI)=false/\ ∃xs:G0 (G0 ß×G9×G1),
  Paired (λ(p:G0 ß×V) (q:G0 ß×G9×G1)=>p.1=q.1/\H q.2.1=some (.tup (p.1.map kV))/\RelV p.2 q.2.2) Ã xs/\
  ∃o es ep,h.get? a=some o/\o.ExactDict/\o.data= .dict es ep/\es.toList=xs.map (entryOfKey (tupleKind (zi P w)))/\(xs.map (·.1)).Nodup
 | .set S n=>h.SetOf (intKind P w) a S n
 | .ins C dx fs=>H dx=some (.own a)/\fs.length<=1000/\dx≠a/\h.get? a=some (mZ C dx)/\
  ∃mA,h.Ns1 dx mA/\(∀f,Ŋ (fs.lookup f) (mA f))/\xG mA (fs.map (·.1))
 | .own _=> ∃o,h.get? a=some o
 | .xd fs=> ∃mA,h.Ns1 a mA/\ ∀f,Ŋ (fs.lookup f) (mA f)
 | .rng lo hi=> ∃t u v,h.get? a=some {cls:= .type "range",data:= .fields #[.int lo t,.int hi u,.int 1 v]}
 | .frz o u=>h.get? a=some o/\Í H h a u
 | .tbl ps=>h.get? a=some {cls:= .none,data:= .fields ps}
 | .met f x=>h.get? a=some (lC (.ref f) (.ref x))
 | .ext φ=>φ h/\(∃o,h.get? a=some o)/\ ∀h1 h2:C7,φ h1->(∀o,h1.get? a=some o->h2.get? a=some o)->φ h2
def ù (H:Hp)(h:C7):Prop:= ∀a o,H a=some o->Í P w H h a o
end
section
variable {P:S8}{w:B0}{H H':Hp}{h h':C7}{a:G9}{o:HO}
def Í.lt (x:Í P w H h a o):a<h.objs.size:=by
 cases o with
 |lst xs=>obtain⟨_,_,_,_,e⟩:=x;exact D2 e
 |tup xs=>obtain⟨_,_,_,p⟩:=x;exact p.tup.lt
 |dK Ã=>obtain⟨_,_,_,_,o,_,_,e,_⟩:=x;exact D2 e
 |dT Ã=>obtain⟨_,_,_,_,o,_,_,e,_⟩:=x;exact D2 e
 |set S n=>obtain⟨o,_,_,_,e,_⟩:=x;exact D2 e
 |ins C dx fs=>obtain⟨_,_,_,e,_⟩:=x;exact D2 e
 |own y=>obtain⟨_,e⟩:=x;exact D2 e
 |xd fs=>obtain⟨_,⟨_,_,_,e,_⟩,_⟩:=x;exact D2 e
 |rng lo hi=>obtain⟨_,_,_,e⟩:=x;exact D2 e
 |frz ob u=>obtain⟨e,_⟩:=x;exact D2 e
 |tbl ps=>exact D2 (show h.get? a=some _ from x)
 |met f y=>exact D2 (show h.get? a=some _ from x)
 |ext φ=>obtain⟨_,⟨_,e⟩,_⟩:=x;exact D2 e
theorem Paired.mapP {α β:Type}{F G:α->β->Prop}: ∀ {l₁:G0 α} {l₂:G0 β},Paired F l₁ l₂->(∀a b,F a b->G a b)->Paired G l₁ l₂
 |_,_,.nil,_=> .nil
 |_,_,.cons r t,f=> .cons (f _ _ r) (Paired.mapP t f)
def Í.stay (x:Í P w H h a o)(k: ∀b u,(b=a\/H b=some (.own a))->h.get? b=some u->h'.get? b=some u)
 (ho: ∀b,H b=some (.own a)->H' b=some (.own a))(ht: ∀b xs,H b=some (.tup xs)->H' b=some (.tup xs)):Í P w H' h' a o:=by
 induction o with
 |lst xs=>obtain⟨z,its,n,r,e⟩:=x;exact⟨z,its,n,r,k _ _ (.inl rfl) e⟩
 |tup xs=>obtain⟨z,its,r,ob,e,c⟩:=x;exact⟨z,its,r,ob,k _ _ (.inl rfl) e,c⟩
 |dK Ã=>obtain⟨z,y,vs,r,ob,es,ep,e,c⟩:=x;exact⟨z,y,vs,r,ob,es,ep,k _ _ (.inl rfl) e,c⟩
 |dT Ã=>
  obtain⟨z,y,xs,r,ob,es,ep,e,c⟩:=x;exact⟨z,y,xs,Paired.mapP r λp q z=>⟨z.1,ht _ _ z.2.1,z.2.2⟩,ob,es,ep,k _ _ (.inl rfl) e,c⟩
 |set S n=>obtain⟨ob,es,ep,t,e,c⟩:=x;exact⟨ob,es,ep,t,k _ _ (.inl rfl) e,c⟩
 |ins C dx fs=>
  obtain⟨d,z,ne,e,mA,⟨od,es,ep,e2,c⟩,r⟩:=x;exact⟨ho _ d,z,ne,k _ _ (.inl rfl) e,mA,⟨od,es,ep,k _ _ (.inr d) e2,c⟩,r⟩
 |own y=>obtain⟨ob,e⟩:=x;exact⟨ob,k _ _ (.inl rfl) e⟩
 |xd fs=>obtain⟨mA,⟨od,es,ep,e,c⟩,r⟩:=x;exact⟨mA,⟨od,es,ep,k _ _ (.inl rfl) e,c⟩,r⟩
 |rng lo hi=>obtain⟨t,u,v,e⟩:=x;exact⟨t,u,v,k _ _ (.inl rfl) e⟩
 |frz ob u ih=>obtain⟨e,q⟩:=x;exact⟨k _ _ (.inl rfl) e,ih q⟩
 |tbl ps=>
  have e:h.get? a=some {cls:= .none,data:= .fields ps}:=x;show h'.get? a=some {cls:= .none,data:= .fields ps};exact k a _ (.inl rfl) e
 |met f y=>
  have e:h.get? a=some (lC (.ref f) (.ref y)):=x;show h'.get? a=some (lC (.ref f) (.ref y));exact k a _ (.inl rfl) e
 |ext φ=>obtain⟨p,⟨o,e⟩,st⟩:=x;exact⟨st _ _ p λo q=>k _ _ (.inl rfl) q,⟨o,k _ _ (.inl rfl) e⟩,st⟩
def ù.lt (x:ù P w H h)(e:H a=some o):a<h.objs.size:=(x a o e).lt
def ù.fresh (x:ù P w H h)(e:h.objs.size<=a):H a=none:=by
 cases q:H a with
 |none=>rfl
 |some u=>exact absurd (T5 (x.lt q) e) (B1 _)
def ù.kept (x:ù P w H h)(k: ∀b u,h.get? b=some u->h'.get? b=some u):ù P w H h':=λa o e=>
 (x a o e).stay (λb u _ q=>k b u q) (λ_ q=>q) λ_ _ q=>q
def ù.laid (x:ù P w H h)(k: ∀b u,h.get? b=some u->h'.get? b=some u)(hp:h.objs.size<=a)(new:Í P w (upd H a o) h' a o):ù P w (upd H a o) h':=λb u e=>by
 have hn:=x.fresh hp
 by_cases hb:b=a
 ·subst hb;rw [ji] at e;cases e;exact new
 ·rw [jf hb] at e;exact(x b u e).stay (λc v _ q=>k c v q) (λc q=>by rw [jf (jl q hn)];exact q) λc xs q=>by rw [jf (jl q hn)];exact q
end
def Rd (H:Hp)(a:G9)(u:HO):Prop:=H a=some u\/ ∃o,H a=some (.frz o u)
variable {P:S8}{w:B0}{h:C7}
def Rd.ok {u:HO}(r:Rd H a u)(x:ù P w H h):Í P w H h a u:=by
 rcases r with r|⟨o,r⟩
 ·exact x a u r
 ·obtain⟨_,q⟩:=x a _ r;exact q
def Mut:P5 HO->Prop
 |some (.lst _)=>True
 |some (.dK _)=>True
 |some (.dT _)=>True
 |some (.set _ _)=>True
 |some (.ins _ _ _)=>True
 |some (.ext _)=>True
 |_=>False
section
variable {P:S8}{w:B0}{H:Hp}{h h':C7}{x e:G9}{o':HO}
def ù.write (ok:ù P w H h)(mu:Mut (H x))(he:e=x\/H e=some (.own x))(k: ∀b u,b≠e->h.get? b=some u->h'.get? b=some u)(heo: ∃u,h'.get? e=some u)
 (new:Í P w (upd H x o') h' x o'):ù P w (upd H x o') h':=λb u q=>by
 have X1x: ∀c y,H c=some (.own y)->c≠x:=λc y r z=>by subst z;rw [r] at mu;exact mu
 have X1E: ∀c xs,H c=some (.tup xs)->c≠x:=λc xs r z=>by subst z;rw [r] at mu;exact mu
 by_cases hb:b=x
 ·subst hb;rw [ji] at q;cases q;exact new
 ·rw [jf hb] at q
  by_cases hbe:b=e
  ·have q':H b=some (.own x):=by
    rcases he with z|z
    ·exact absurd (hbe.trans z) hb
    ·rw [hbe];exact z
   rw [q] at q';cases q';obtain⟨v,hv⟩:=heo;exact⟨v,by rw [hbe];exact hv⟩
  ·refine(ok b u q).stay (λc v hc r=>k c v ?_ r) (λc r=>by rw [jf (X1x c b r)];exact r) λc xs r=>by rw [jf (X1E c xs r)];exact r
   rcases hc with rfl|hc
   ·exact hbe
   ·rintro rfl;rcases he with z|z
    ·exact X1x c b hc z
    ·rw [hc] at z;cases z;exact hb rfl
end
structure Un (fs ex:G0 G9)(H H':Hp)(h h':C7):Prop where
 keep: ∀b o,h.get? b=some o->H b=none->b ∉ fs->b ∉ ex->h'.get? b=some o
 slot: ∀b o,h.get? b=some o->H b=none->b∈fs->b ∉ ex-> ∃sl,h'.get? b=some {o with slots:=sl}
 free: ∀b o,h.get? b=some o->H b=none->b ∉ ex->H' b=none
 there: ∀b o,h.get? b=some o->b ∉ ex-> ∃o',h'.get? b=some o'
 tups: ∀b xs,H b=some (.tup xs)->H' b=some (.tup xs)
 frzs: ∀b o u,H b=some (.frz o u)->H' b=some (.frz o u)
 tbls: ∀b ps,H b=some (.tbl ps)-> ∃more,H' b=some (.tbl (ps++more))
section
variable {fs fs' ex ex':G0 G9}{H H1 H2:Hp}{h h1 h2 h':C7}{a x e:G9}{o:HO}
def Un.any (u:Un fs ex H H1 h h1){b:G9}{ob:Obj}(q:h.get? b=some ob)(n:H b=none)(hx:b ∉ ex): ∃sl,h1.get? b=some {ob with slots:=sl}:=by
 by_cases hb:b∈fs
 ·exact u.slot b ob q n hb hx
 ·exact⟨ob.slots,u.keep b ob q n hb hx⟩
def Un.kept (k: ∀b u,h.get? b=some u->h'.get? b=some u):Un fs ex H H h h':=
 ⟨λb ob q _ _ _=>k b ob q,λb ob q _ _ _=>⟨ob.slots,k b ob q⟩,λ_ _ _ n _=>n,λb ob q _=>⟨ob,k b ob q⟩,λ_ _ q=>q,λ_ _ _ q=>q,λ_ ps q=>⟨#[],by rw [q];simp⟩⟩
def Un.refl:Un fs ex H H h h:=Un.kept λ_ _ q=>q
def Un.laid (k: ∀b u,h.get? b=some u->h'.get? b=some u)(hp:h.objs.size<=a)(hn:H a=none):Un fs ex H (upd H a o) h h' where
 keep:=λb u q _ _ _=>k b u q
 slot:=λb u q _ _ _=>⟨u.slots,k b u q⟩
 free:=λb u q n _=>by rw [jf (M8 (T5 (D2 q) hp))];exact n
 there:=λb u q _=>⟨u,k b u q⟩
 tups:=λb xs q=>by rw [jf (jl q hn)];exact q
 frzs:=λb u xs q=>by rw [jf (jl q hn)];exact q
 tbls:=λb ps q=>⟨#[],by rw [jf (jl q hn),q];simp⟩
def Un.write (mu:Mut (H x))(he:e=x\/H e=some (.own x))(k: ∀b u,b≠e->h.get? b=some u->h'.get? b=some u)(heo: ∃u,h'.get? e=some u):Un fs ex H (upd H x o) h h':=by
 have hx: ∀b,H b=none->b≠x:=λb n z=>by subst z;rw [n] at mu;exact mu
 have hb: ∀b,H b=none->b≠e:=λb n z=>by
  subst z;rcases he with r|r
  ·exact hx b n r
  ·rw [n] at r;cases r
 have hm: ∀b u,H b=some u-> ¬Mut (some u)->b≠x:=λb u q nm z=>by subst z;rw [q] at mu;exact nm mu
 refine⟨λb u q n _ _=>k b u (hb b n) q,λb u q n _ _=>⟨u.slots,k b u (hb b n) q⟩,λb u q n _=>by rw [jf (hx b n)];exact n,λb u q _=> ?_,
  λb xs q=>by rw [jf (hm b _ q λz=>z)];exact q,λb u xs q=>by rw [jf (hm b _ q λz=>z)];exact q,λb ps q=>⟨#[],by rw [jf (hm b _ q λz=>z),q];simp⟩⟩
 by_cases hbe:b=e
 ·subst hbe;exact heo
 ·exact⟨u,k b u hbe q⟩
end
noncomputable def trk (h:C7)(H:Hp):G0 G9:=(P4 h.objs.size).filter λa=>(H a).isSome
def MF (h:C7)(H:Hp):C7:=fB h (trk h H)
def PH (h:C7)(H:Hp):(MF h H).objs.size=h.objs.size:=y4 _ _
def YC {o:Obj}(e:h.get? b=some o)(n:H b=none):(MF h H).get? b=some o:=
 b9 _ e λhm=>by
  have q:(H b).isSome=true:=(C3.mp hm).2;rw [n] at q;simp at q
def Ci {o:Obj}(e:(MF h H).get? b=some o):h.get? b=some o/\H b=none:=by
 have e':h.get? b=some o:=i4 (trk h H) e;refine⟨e',?_⟩;cases q:H b with
 |none=>rfl
 |some x=>
  have hm:b∈trk h H:=C3.mpr ⟨D1.mpr (D2 e'),by simp [q]⟩;have z:(MF h H).get? b=none:=bM (trk h H) hm;rw [z] at e;cases e
noncomputable def Cj (g h:C7)(L:G9):G0 (G9×Obj):=(P4 h.objs.size).filterMap λa=>if a=L\/(g.get? a).isSome=true then none else (h.get? a).map λo=>(a,o)
noncomputable def rest (g h:C7)(L d:G9):G0 (G9×Obj):=(Cj g h L).filter λp=>decide (p.1≠d)
structure Mod (K:G6)(mg:Str->P5 G1)(base:C7):Prop where
 kin:K.In base
 glob:base.Ns mainGlobals mg
 blt: ∃mb,base.Ns i5 mb/\ ∀x:Str,x≠ "__name__" ->mb x=Q5 x
 nolimit:base.NoLimit
structure Cx where
 prog:S8
 w:B0
 K:G6
 mg:Str->P5 G1
 base:C7
 A:T8
 N:G0 Str
 s₀:G3
 H₀:Hp
 env:Env
 outer:G0 Env
 stack:G0 Env
 ex:G0 G9
 fn:Str->M7
 calm:M7
 pn:G0 (G9×Obj)
 xe:G1->G3->Prop
def Ĉ (l:G0 Env):G0 G9:=l.filterMap (·.frame)
abbrev Cx.fs (X:Cx):G0 G9:=Ĉ X.outer
def Vis (sc:K1)(x:Str):Prop:=sc.names.lookup x=some .local\/sc.names.lookup x=some .cell\/sc.names.lookup x=some .free
def Loc (sc:K1)(x:Str):Prop:=sc.names.lookup x=some .local\/sc.names.lookup x=some .cell
def Kk (env:Env)(h:C7)(m:Str->P5 G1)(x:Str)(u:G1):Prop:=
 (env.kindOf x=some .local/\m x=some u)\/((env.kindOf x=some .cell\/env.kindOf x=some .free)/\ ∃c,env.cells.lookup x=some c/\h.IsCell c (some u))
structure Cx.Ok (X:Cx):Prop where
 mod:Mod X.K X.mg X.base
 kind:X.env.scope.kind= .function
 glob:X.env.globals=mainGlobals
 blt:X.env.builtins=i5
 above:X.s₀.heap.objs.size<=X.env.locals
 inj: ∀x y c,X.env.cells.lookup x=some c->X.env.cells.lookup y=some c->x=y
 has: ∀x,(X.env.kindOf x=some .cell\/X.env.kindOf x=some .free)-> ∃c,X.env.cells.lookup x=some c
 cab: ∀x c,X.fn x=true->X.env.cells.lookup x=some c->X.s₀.heap.objs.size<=c
 hd:X.calm=true->X.A.handled=none
 frames:X.A.frames=some X.stack
 stk:X.stack=X.outer\/(X.stack=X.env::X.outer/\X.env.frame=some X.env.locals)
 exf: ∀b∈X.ex,b≠X.env.locals/\ ∀x c,X.env.cells.lookup x=some c->c≠b
 bs: ∀b o,X.base.get? b=some o->X.s₀.heap.get? b=some o/\X.H₀ b=none
 bsz:X.base.objs.size<=X.s₀.heap.objs.size
 noex: ∀b o,X.base.get? b=some o->b ∉ X.ex
 exfs: ∀b∈X.ex,b ∉ X.fs
 funs:X.s₀.heap.FunFrames X.base X.outer
 frf: ∀b∈X.fs,X.H₀ b=none
structure Inv (X:Cx)(ID:G0 (G9×Obj))(σ:G0 (P5 V))(H:Hp)(s:G3):Prop where
 ok:X.Ok
 os:s.os=X.s₀.os
 bare:iU s.gens
 base:Un X.fs X.ex X.H₀ H X.s₀.heap s.heap
 loc: ∃m,s.heap.Ns X.env.locals m/\ ∀ (i:G5) (x:Str) (v:V),X.N[i]? =some x->σ[i]? =some (some v)->Vis X.env.scope x-> ∃u,RelV v u/\Kk X.env s.heap m x u
 cell: ∀x c,X.env.cells.lookup x=some c-> ∃v,s.heap.IsCell c v
 free:H X.env.locals=none
 freeC: ∀x c,X.env.cells.lookup x=some c->H c=none
 pin: ∀p∈X.pn++ID,s.heap.get? p.1=some p.2/\H p.1=none/\p.1≠X.env.locals/\p.1 ∉ X.fs/\ ∀v,p.2.data≠ .cell v
 hok:ù X.prog X.w H s.heap
 len:σ.length=X.N.length
section
variable {X:Cx}{ID:G0 (G9×Obj)}{σ:G0 (P5 V)}{H H':Hp}{s:G3}{h':C7}
def Cx.Ok.nofr (ok:X.Ok){b:G9}{o:Obj}(e:X.base.get? b=some o):b ∉ X.fs:=λhb=>by
 have:=(ok.funs.mem hb).1;rw [e] at this;cases this
def Inv.bs (I:Inv X ID σ H s): ∀b o,X.base.get? b=some o->s.heap.get? b=some o/\H b=none:=λb o e=>
 ⟨I.base.keep b o (I.ok.bs b o e).1 (I.ok.bs b o e).2 (I.ok.nofr e) (I.ok.noex b o e),I.base.free b o (I.ok.bs b o e).1 (I.ok.bs b o e).2 (I.ok.noex b o e)⟩
def Inv.bk (I:Inv X ID σ H s): ∀b o,X.base.get? b=some o->s.heap.get? b=some o:=λb o e=>(I.bs b o e).1
def Inv.mod (I:Inv X ID σ H s):Mod X.K X.mg X.base:=I.ok.mod
def Inv.kIn (I:Inv X ID σ H s):X.K.In s.heap:=I.ok.mod.kin.keeps I.bk
def Inv.lt (I:Inv X ID σ H s):X.env.locals<s.heap.objs.size:=let ⟨_,hn,_⟩:=I.loc;hn.lt
def Inv.sz (I:Inv X ID σ H s):X.s₀.heap.objs.size<=s.heap.objs.size:=R6 I.ok.above (S6 I.lt)
def Inv.nofs (I:Inv X ID σ H s){a:G9}(h:s.heap.objs.size<=a):a ∉ X.fs:=λhb=>by
 obtain⟨_,o,ho,_⟩:=I.ok.funs.mem hb;exact absurd (T5 (D2 ho) (R6 I.sz h)) (B1 _)
def Inv.cne (I:Inv X ID σ H s): ∀x c,X.env.cells.lookup x=some c->c≠X.env.locals:=λx c e z=>by
 obtain⟨v,o,ho,hd⟩:=I.cell x c e;obtain⟨m,⟨o',es,ep,ho',ω,_⟩,_⟩:=I.loc;rw [z,ho'] at ho;cases ho;rw [ω] at hd;cases hd
def Inv.funs (I:Inv X ID σ H s):s.heap.FunFrames X.base X.outer:=by
 have all: ∀ (l:G0 Env),(∀b∈Ĉ l,b∈X.fs)->X.s₀.heap.FunFrames X.base l->s.heap.FunFrames X.base l:=by
  intro l
  induction l with
  |nil=>intro _ _;trivial
  |cons env r ih=>
   intro hs hl;obtain⟨hk,⟨L,o,hf,hn,ho,hd⟩,hr⟩:=hl;have hL:L∈X.fs:=hs L (by unfold Ĉ;rw [X1,hf];exact R5);obtain⟨sl,e⟩:=I.base.slot L o ho (I.ok.frf L hL) hL λz=>I.ok.exfs L z hL
   exact⟨hk,⟨L,_,hf,hn,e,hd⟩,ih (λb hb=>hs b (by unfold Ĉ;rw [X1,hf];exact T3 _ hb)) hr⟩
 exact all X.outer (λ_ hb=>hb) I.ok.funs
def Inv.stack (I:Inv X ID σ H s):s.heap.FunFrames X.base X.stack:=by
 rcases I.ok.stk with e|⟨e,hf⟩
 ·rw [e];exact I.funs
 ·rw [e];obtain⟨m,hn,_⟩:=I.loc;refine .cons (by rw [I.ok.kind];decide) hf hn ?_ I.funs;exact Heap.get?_none_of_le (R6 I.ok.bsz I.ok.above)
def Inv.stkSub (I:Inv X ID σ H s): ∀b∈Ĉ X.stack,b∈X.env.locals::X.fs:=λb hb=>by
 rcases I.ok.stk with e|⟨e,hf⟩
 ·rw [e] at hb;exact T3 _ hb
 ·rw [e] at hb;unfold Ĉ at hb;rw [X1,hf] at hb;exact hb
def Inv.stkFree (I:Inv X ID σ H s): ∀b∈Ĉ X.stack,H b=none:=λb hb=>by
 rcases D5.mp (I.stkSub b hb) with e|hb
 ·rw [e];exact I.free
 ·obtain⟨_,o,ho,_⟩:=I.ok.funs.mem hb;exact I.base.free b o ho (I.ok.frf b hb) λz=>I.ok.exfs b z hb
variable {t':G5}
def Inv.step {g':T6 GenState}{d':Drawn}{ch:G0 G9}(I:Inv X ID σ H s)
 (hch: ∀b∈ch,(b∈X.ex\/X.s₀.heap.objs.size<=b)/\b≠X.env.locals/\(∀x c,X.env.cells.lookup x=some c->c≠b)/\ ∀p∈X.pn++ID,p.1≠b)
 (keep: ∀b o,b≠X.env.locals->b ∉ X.fs->b ∉ ch->s.heap.get? b=some o->H b=none->h'.get? b=some o)
 (slot: ∀b o,b≠X.env.locals->b∈X.fs->b ∉ ch->s.heap.get? b=some o->H b=none-> ∃sl,h'.get? b=some {o with slots:=sl})(free: ∀b o,b ∉ ch->s.heap.get? b=some o->H b=none->H' b=none)
 (there: ∀b o,b ∉ ch->s.heap.get? b=some o-> ∃o',h'.get? b=some o')
 (tups: ∀b xs,H b=some (.tup xs)->H' b=some (.tup xs))(frzs: ∀b o u,H b=some (.frz o u)->H' b=some (.frz o u))(tbls: ∀b ps,H b=some (.tbl ps)-> ∃more,H' b=some (.tbl (ps++more)))
 (ns: ∀m,s.heap.Ns X.env.locals m->h'.Ns X.env.locals m)(hok:ù X.prog X.w H' h')(hg:iU g'):
 Inv X ID σ H' {s with heap:=h',gens:=g',drawn:=d',toks:=t'}:=by
 have neL: ∀b o,X.s₀.heap.get? b=some o->b≠X.env.locals:=λb o e=>M8 (T5 (D2 e) I.ok.above)
 have neC: ∀b o,X.s₀.heap.get? b=some o->b ∉ X.ex->b ∉ ch:=λb o e hx hb=>by
  rcases (hch b hb).1 with z|z
  ·exact hx z
  ·exact absurd (T5 (D2 e) z) (B1 _)
 have cellK: ∀x c,X.env.cells.lookup x=some c-> ∀v,s.heap.IsCell c v->h'.IsCell c v:=λx c e v ⟨o,ho,hd⟩=>by
  have nch:c ∉ ch:=λz=>(hch c z).2.2.1 x c e rfl
  by_cases hc:c∈X.fs
  ·obtain⟨sl,q⟩:=slot c o (I.cne x c e) hc nch ho (I.freeC x c e);exact⟨_,q,hd⟩
  ·exact⟨o,keep c o (I.cne x c e) hc nch ho (I.freeC x c e),hd⟩
 refine⟨I.ok,I.os,hg,⟨λb o e n hb hx=> ?_,λb o e n hb hx=> ?_,λb o e n hx=> ?_,λb o e hx=> ?_,λb xs e=>tups b xs (I.base.tups b xs e),λb o xs e=>frzs b o xs (I.base.frzs b o xs e),λb ps e=> ?_⟩,?_,λx c e=> ?_,?_,λx c e=> ?_,λp hp=> ?_,hok,I.len⟩
 ·exact keep b o (neL b o e) hb (neC b o e hx) (I.base.keep b o e n hb hx) (I.base.free b o e n hx)
 ·obtain⟨sl,e1⟩:=I.base.slot b o e n hb hx;obtain⟨ŋ,e2⟩:=slot b _ (neL b o e) hb (neC b o e hx) e1 (I.base.free b o e n hx);exact⟨ŋ,e2⟩
 ·obtain⟨o',e1⟩:=I.base.there b o e hx;exact free b o' (neC b o e hx) e1 (I.base.free b o e n hx)
 ·obtain⟨o',e1⟩:=I.base.there b o e hx;exact there b o' (neC b o e hx) e1
 ·obtain⟨m1,e1⟩:=I.base.tbls b ps e;obtain⟨m2,e2⟩:=tbls b _ e1;exact⟨m1++m2,by rw [e2,Array.append_assoc]⟩
 ·obtain⟨m,hn,hl⟩:=I.loc;refine⟨m,ns m hn,λi x v e1 e2 e3=> ?_⟩;obtain⟨u,r,l⟩:=hl i x v e1 e2 e3;refine⟨u,r,?_⟩;rcases l with l|⟨k,c,e,z⟩
  ·exact .inl l
  ·exact .inr ⟨k,c,e,cellK x c e _ z⟩
 ·obtain⟨v,z⟩:=I.cell x c e;exact⟨v,cellK x c e v z⟩
 ·obtain⟨m,⟨o,_,_,ho,_⟩,_⟩:=I.loc;exact free _ o (λz=>(hch _ z).2.1 rfl) ho I.free
 ·obtain⟨v,o,ho,hd⟩:=I.cell x c e;exact free c o (λz=>(hch c z).2.2.1 x c e rfl) ho (I.freeC x c e)
 ·obtain⟨e,n,ne,nf,d⟩:=I.pin p hp;have nch:p.1 ∉ ch:=λz=>(hch p.1 z).2.2.2 p hp rfl
  exact⟨keep p.1 p.2 ne nf nch e n,free p.1 p.2 nch e n,ne,nf,d⟩
def Inv.un (I:Inv X ID σ H s)(u:Un X.fs [] H H' s.heap h')(hok:ù X.prog X.w H' h'):Inv X ID σ H' {s with heap:=h',toks:=t'}:=by
 obtain⟨m,⟨o,es,ep,ho,r⟩,_⟩:=id I.loc;obtain⟨sl,hL⟩:=u.any ho I.free (by simp);exact I.step (g':=s.gens) (d':=s.drawn) (ch:= []) (λ_ z=>nomatch z) (λb o _ hb _ e n=>u.keep b o e n hb (by simp)) (λb o _ hb _ e n=>u.slot b o e n hb (by simp)) (λb o _ e n=>u.free b o e n (by simp)) (λb o _ e=>u.there b o e (by simp)) u.tups u.frzs u.tbls (λm' hm=>by
  obtain⟨o',es',ä,ho',r'⟩:=hm;rw [ho] at ho';cases ho';exact⟨_,es',ä,hL,r'⟩) hok I.bare
def Inv.call {g':T6 GenState}{d':Drawn}{ch:G0 G9}(I:Inv X ID σ H s)(u:Un (Ĉ X.stack) ch H H' s.heap h')(hok:ù X.prog X.w H' h')(hg:iU g')
 (hch: ∀b∈ch,(b∈X.ex\/X.s₀.heap.objs.size<=b)/\b≠X.env.locals/\(∀x c,X.env.cells.lookup x=some c->c≠b)/\ ∀p∈X.pn++ID,p.1≠b):
 Inv X ID σ H' {s with heap:=h',gens:=g',drawn:=d',toks:=t'}:=by
 obtain⟨m,⟨o,es,ep,ho,r⟩,_⟩:=id I.loc;obtain⟨sl,hL⟩:=u.any ho I.free λz=>(hch _ z).2.1 rfl
 exact I.step (ch:=ch) hch (λb o hL hb hc e n=>u.keep b o e n (λz=>(D5.mp (I.stkSub b z)).elim hL hb) hc) (λb o _ _ hc e n=>u.any e n hc) (λb o hc e n=>u.free b o e n hc) (λb o hc e=>u.there b o e hc) u.tups u.frzs u.tbls (λm' hm=>by
  obtain⟨o',es',ä,ho',r'⟩:=hm;rw [ho] at ho';cases ho';exact⟨_,es',ä,hL,r'⟩) hok hg
def Inv.turned {it:G9}(I:Inv X ID σ H s)(k: ∀b o,b≠it->s.heap.get? b=some o->h'.get? b=some o)(hn:H it=none)(hL:it≠X.env.locals)
 (h1:it∈X.ex\/X.s₀.heap.objs.size<=it)(h2: ∀x c,X.env.cells.lookup x=some c->c≠it)(h3: ∀p∈X.pn++ID,p.1≠it):Inv X ID σ H {s with heap:=h',toks:=t'}:=by
 have nit: ∀b u,H b=some u->b≠it:=λb u e z=>by rw [z,hn] at e;cases e
 refine I.step (g':=s.gens) (d':=s.drawn) (ch:= [it]) (λb hb=> ?_) (λb o _ _ hc e _=>k b o (λz=>hc (by simp [z])) e) (λb o _ _ hc e _=>⟨o.slots,k b o (λz=>hc (by simp [z])) e⟩) (λ_ _ _ _ n=>n)
  (λb o hc e=>⟨o,k b o (λz=>hc (by simp [z])) e⟩) (λ_ _ e=>e) (λ_ _ _ e=>e) (λb ps e=>⟨#[],by rw [e];simp⟩) (λm hm=> ?_) (λb u e=> ?_) I.bare
 ·have e:b=it:=by simpa using hb
  subst e;exact⟨h1,hL,h2,h3⟩
 ·obtain⟨o,es,ep,ho,r⟩:=hm;exact⟨o,es,ep,k _ o (U6 hL) ho,r⟩
 ·refine(I.hok b u e).stay (λc v hc q=>k c v ?_ q) (λ_ q=>q) λ_ _ q=>q
  rcases hc with z|z
  ·rw [z];exact nit b u e
  ·exact nit c _ z
def Inv.tok (I:Inv X ID σ H s)(t:G5):Inv X ID σ H {s with toks:=t}:=I.un (h':=s.heap) (t':=t) Un.refl I.hok
def Inv.kept (I:Inv X ID σ H s)(k: ∀b u,s.heap.get? b=some u->h'.get? b=some u):Inv X ID σ H {s with heap:=h',toks:=t'}:=I.un (Un.kept k) (I.hok.kept k)
def Inv.laid {a:G9}{o:HO}(I:Inv X ID σ H s)(k: ∀b u,s.heap.get? b=some u->h'.get? b=some u)(hp:s.heap.objs.size<=a)(new:Í X.prog X.w (upd H a o) h' a o):
 Inv X ID σ (upd H a o) {s with heap:=h',toks:=t'}:=I.un (Un.laid k hp (I.hok.fresh hp)) (I.hok.laid k hp new)
def Inv.write {x e:G9}{o:HO}(I:Inv X ID σ H s)(mu:Mut (H x))(he:e=x\/H e=some (.own x))(k: ∀b u,b≠e->s.heap.get? b=some u->h'.get? b=some u)(heo: ∃u,h'.get? e=some u)
 (new:Í X.prog X.w (upd H x o) h' x o):Inv X ID σ (upd H x o) {s with heap:=h',toks:=t'}:=I.un (Un.write mu he k heo) (I.hok.write mu he k heo new)
def Inv.weak {IO:G0 (P5 V)}(I:Inv X ID σ H s)(hl:IO.length=σ.length)(w: ∀ (i:G5) v,IO[i]? =some (some v)->σ[i]? =some (some v)):Inv X ID IO H s:=
 ⟨I.ok,I.os,I.bare,I.base,let ⟨m,hn,hl'⟩:=I.loc;⟨m,hn,λi x v e1 e2 e3=>hl' i x v e1 (w i v e2) e3⟩,I.cell,I.free,I.freeC,I.pin,I.hok,hl.trans I.len⟩
def Inv.pins_of {X0q:G0 (G9×Obj)}(I:Inv X ID σ H s)(h: ∀p∈X0q,s.heap.get? p.1=some p.2/\H p.1=none/\p.1≠X.env.locals/\p.1 ∉ X.fs/\ ∀v,p.2.data≠ .cell v):Inv X X0q σ H s:=
 ⟨I.ok,I.os,I.bare,I.base,I.loc,I.cell,I.free,I.freeC,λp hp=>(R4.mp hp).elim (λz=>I.pin p (O0 _ z)) (h p),I.hok,I.len⟩
def YD {N:G0 Str}(hN:N.Nodup){i j:G5}{x:Str}(a:N[i]? =some x)(b:N[j]? =some x):i=j:=by
 obtain⟨h1,e1⟩:=P6.mp a;obtain⟨h2,e2⟩:=P6.mp b;exact(List.getElem_inj hN).mp (e1.trans e2.symm)
def PJ {M:iP}{A:T8}{E:G1->G3->Prop}{i:G5}{x:Str}{v:V}{u:G1}{Q:Unit->G3->Prop}(I:Inv X ID σ H s)(hN:X.N.Nodup)(hi:X.N[i]? =some x)(hx:Loc X.env.scope x)(r:RelV v u)
 (h: ∀s',Inv X ID (σ.set i (some v)) H s'->(∃a,O6 a s.heap s'.heap/\(a=X.env.locals\/X.env.cells.lookup x=some a))->Q () s')(hf:X.fn x=true\/X.env.scope.names.lookup x=some .local:=by first|exact .inl rfl|exact .inr rfl|assumption):R0 M A (w8 X.env x u) Q E s:=by
 obtain⟨m,hn,hl⟩:=id I.loc;have X01:(X.env.scope.kind== .class||(X.env.scope.kind== .module&&X.env.locals !=X.env.globals))=false:=by rw [I.ok.kind];rfl
 have X0U:i<σ.length:=by rw [I.len];exact(P6.mp hi).1
 have cne:=I.cne;have tracked: ∀ {a:G9} {h':C7},(∃o,s.heap.get? a=some o/\H a=none)->O6 a s.heap h'->ù X.prog X.w H h':=λ{a h'} ha hs b ob e=>by
  obtain⟨_,_,X0r⟩:=ha;refine(I.hok b ob e).stay (λc w' hc q=>(hs.2 c ?_).trans q) (λ_ q=>q) λ_ _ q=>q
  rintro rfl;rcases hc with rfl|hc
  ·rw [X0r] at e;cases e
  ·rw [X0r] at hc;cases hc
 rcases hx with hk|hk
 ·refine wpAny_storeName_local hk hn (λh' hn' hs=> ?_) X01;obtain⟨oL,_,_,hoL,_⟩:=id hn;refine h _ ⟨I.ok,I.os,I.bare,⟨λb o e n hb hx=> ?_,λb o e n hb hx=> ?_,I.base.free,λb o e hx=> ?_,I.base.tups,I.base.frzs,I.base.tbls⟩,⟨_,hn',λj y v' e1 e2 e3=> ?_⟩,λy c e=> ?_,I.free,I.freeC,λp hp=> ?_,tracked ⟨oL,hoL,I.free⟩ hs,by simpa using I.len⟩ ⟨_,hs,.inl rfl⟩
  ·exact(hs.2 b (M8 (T5 (D2 e) I.ok.above))).trans (I.base.keep b o e n hb hx)
  ·obtain⟨sl,e1⟩:=I.base.slot b o e n hb hx;exact⟨sl,(hs.2 b (M8 (T5 (D2 e) I.ok.above))).trans e1⟩
  ·obtain⟨o',e1⟩:=I.base.there b o e hx;exact⟨o',(hs.2 b (M8 (T5 (D2 e) I.ok.above))).trans e1⟩
  ·by_cases hj:j=i
   ·subst hj;rw [hi] at e1;cases e1;rw [aH X0U] at e2;cases e2;exact⟨u,r,.inl ⟨hk,by simp⟩⟩
   ·rw [K6 (U6 hj)] at e2;obtain⟨u',r',q⟩:=hl j y v' e1 e2 e3;refine⟨u',r',?_⟩;rcases q with ⟨k,e⟩|⟨k,c,e,z⟩
    ·refine .inl ⟨k,?_⟩;have:y≠x:=λe=>hj (YD hN e1 (e ▸ hi))
     simp [this,e]
    ·exact .inr ⟨k,c,e,z.sameBut hs (cne y c e)⟩
  ·obtain⟨w',z⟩:=I.cell y c e;exact⟨w',z.sameBut hs (cne y c e)⟩
  ·obtain⟨e,n,ne,nf,d⟩:=I.pin p hp;exact⟨(hs.2 p.1 ne).trans e,n,ne,nf,d⟩
 ·have hfn:X.fn x=true:=by
   rcases hf with z|z
   ·exact z
   ·rw [z] at hk;cases hk
  obtain⟨c,hc⟩:=I.ok.has x (.inl hk);obtain⟨w',z⟩:=I.cell x c hc;refine wpAny_storeName_cell I.ok.kind hk hc z (λh' Ļ hs=> ?_);obtain⟨oc,hoc,X1F⟩:=id z;refine h {s with heap:=h'} ⟨I.ok,I.os,I.bare,⟨λb o e n hb hx=> ?_,λb o e n hb hx=> ?_,I.base.free,λb o e hx=> ?_,I.base.tups,I.base.frzs,I.base.tbls⟩,⟨m,hn.sameBut hs (U6 (cne x c hc)),λj y v' e1 e2 e3=> ?_⟩,λy c' e=> ?_,I.free,I.freeC,λp hp=> ?_,tracked ⟨oc,hoc,I.freeC x c hc⟩ hs,by simpa using I.len⟩ ⟨c,hs,.inr hc⟩
  ·exact(hs.2 b (M8 (T5 (D2 e) (I.ok.cab x c hfn hc)))).trans (I.base.keep b o e n hb hx)
  ·obtain⟨sl,e1⟩:=I.base.slot b o e n hb hx;exact⟨sl,(hs.2 b (M8 (T5 (D2 e) (I.ok.cab x c hfn hc)))).trans e1⟩
  ·obtain⟨o',e1⟩:=I.base.there b o e hx;exact⟨o',(hs.2 b (M8 (T5 (D2 e) (I.ok.cab x c hfn hc)))).trans e1⟩
  ·by_cases hj:j=i
   ·subst hj;rw [hi] at e1;cases e1;rw [aH X0U] at e2;cases e2;exact⟨u,r,.inr ⟨.inl hk,c,hc,Ļ⟩⟩
   ·rw [K6 (U6 hj)] at e2;obtain⟨u',r',q⟩:=hl j y v' e1 e2 e3;refine⟨u',r',?_⟩;rcases q with q|⟨k,c',e,z'⟩
    ·exact .inl q
    ·refine .inr ⟨k,c',e,z'.sameBut hs ?_⟩;rintro rfl;exact hj (YD hN e1 (I.ok.inj _ _ _ e hc ▸ hi))
  ·by_cases hcc:c'=c
   ·subst hcc;exact⟨_,Ļ⟩
   ·obtain⟨w2,z2⟩:=I.cell y c' e;exact⟨w2,z2.sameBut hs hcc⟩
  ·obtain⟨e,n,ne,nf,d⟩:=I.pin p hp;refine⟨(hs.2 p.1 ?_).trans e,n,ne,nf,d⟩;intro q;rw [q,hoc] at e;have q':oc=p.2:=E2 e;exact d w' (by rw [<-q'];exact X1F)
def wB {M:iP}{A:T8}{E:G1->G3->Prop}{i:G5}{x:Str}{v:V}{u:G1}{Q:Unit->G3->Prop}(I:Inv X ID σ H s)(hN:X.N.Nodup)(hi:X.N[i]? =some x)(hx:Loc X.env.scope x)(r:RelV v u)
 (h: ∀s',Inv X ID (σ.set i (some v)) H s'->Q () s')(hf:X.fn x=true\/X.env.scope.names.lookup x=some .local:=by first|exact .inl rfl|exact .inr rfl|assumption):R0 M A (w8 X.env x u) Q E s:=
 PJ I hN hi hx r (λs' I' _=>h s' I') hf
def Inv.call' {s':G3}{ch:G0 G9}(I:Inv X ID σ H s)(ho:s'.os=s.os)(u:Un (Ĉ X.stack) ch H H' s.heap s'.heap)(hok:ù X.prog X.w H' s'.heap)(hg:iU s'.gens)
 (hch: ∀b∈ch,(b∈X.ex\/X.s₀.heap.objs.size<=b)/\b≠X.env.locals/\(∀x c,X.env.cells.lookup x=some c->c≠b)/\ ∀p∈X.pn++ID,p.1≠b):Inv X ID σ H' s':=by
 obtain⟨h',g',d',t',o'⟩:=s';have e:o'=s.os:=ho;subst e;exact I.call (g':=g') (t':=t') (d':=d') u hok hg hch
end
abbrev XK:=G1->P5 G9->Hp->Prop
abbrev St:=G0 (P5 V)
abbrev VK:=V->Hp->Prop
abbrev TE:=St->Hp->VK->Prop
abbrev TT:=St->Hp->(M7->Hp->Prop)->Prop
abbrev TA:=St->Hp->(G0 V->Hp->Prop)->Prop
structure ž where
 nx:St->Hp->Prop
 rt:VK
 bk:St->Hp->Prop:=λ_ _=>False
 ct:St->Hp->Prop:=λ_ _=>False
abbrev TS:=ž->St->Hp->Prop
def EP (X:Cx)(ID:G0 (G9×Obj))(σ:St)(Q:VK)(u:G1)(s':G3):Prop:= ∃v H',Inv X ID σ H' s'/\RelV v u/\Q v H'
def TP (X:Cx)(ID:G0 (G9×Obj))(σ:St)(Q:M7->Hp->Prop)(b:M7)(s':G3):Prop:= ∃H',Inv X ID σ H' s'/\Q b H'
def AP (X:Cx)(ID:G0 (G9×Obj))(σ:St)(Q:G0 V->Hp->Prop)(us:G0 G1)(s':G3):Prop:= ∃vs H',Inv X ID σ H' s'/\Æ vs us/\Q vs H'
def SP (X:Cx)(ID:G0 (G9×Obj))(D:ž)(f:Flow)(s':G3):Prop:=
 match f with
 | .next=> ∃IO H',Inv X ID IO H' s'/\D.nx IO H'
 | .brk=> ∃IO H',Inv X ID IO H' s'/\D.bk IO H'
 | .cont=> ∃IO H',Inv X ID IO H' s'/\D.ct IO H'
 | .ret u=> ∃v IO H',Inv X ID IO H' s'/\RelV v u/\D.rt v H'
def PE (X:Cx)(e:M9)(t:TE):Prop:=
 ∀ (ID:G0 (G9×Obj)) (s:G3) (σ:St) (H:Hp) (Q:VK),Inv X ID σ H s->t σ H Q->R0 (R7 X.prog X.w) X.A (A2 e X.env) (EP X ID σ Q) X.xe s
def PT (X:Cx)(e:M9)(t:TT):Prop:=
 ∀ (ID:G0 (G9×Obj)) (s:G3) (σ:St) (H:Hp) (Q:M7->Hp->Prop),Inv X ID σ H s->t σ H Q->R0 (R7 X.prog X.w) X.A (isTrue e X.env (A2 e X.env)) (TP X ID σ Q) X.xe s
def PW (X:Cx)(e:M9)(t:TT):Prop:=
 ∀ (whole:Sem G1) (ID:G0 (G9×Obj)) (s:G3) (σ:St) (H:Hp) (Q:M7->Hp->Prop),Inv X ID σ H s->t σ H Q->R0 (R7 X.prog X.w) X.A (isTrue e X.env whole) (TP X ID σ Q) X.xe s
variable {X:Cx}
def PW.pt {e:M9}{t:TT}(h:PW X e t):PT X e t:=h _
def PA (X:Cx)(es:G0 M9)(t:TA):Prop:=
 ∀ (pos:Pos) (ID:G0 (G9×Obj)) (s:G3) (σ:St) (H:Hp) (Q:G0 V->Hp->Prop),Inv X ID σ H s->t σ H Q->R0 (R7 X.prog X.w) X.A (xH (E1 pos (P8 es X.env))) (AP X ID σ Q) X.xe s
def PS (X:Cx)(st:A6)(t:TS):Prop:=
 ∀ (ID:G0 (G9×Obj)) (s:G3) (σ:St) (H:Hp) (D:ž),Inv X ID σ H s->t D σ H->R0 (R7 X.prog X.w) X.A (exec st X.env) (SP X ID D) X.xe s
def ļ (X:Cx)(st:G0 A6)(t:TS):Prop:=
 ∀ (ID:G0 (G9×Obj)) (s:G3) (σ:St) (H:Hp) (D:ž),Inv X ID σ H s->t D σ H->R0 (R7 X.prog X.w) X.A (execs st X.env) (SP X ID D) X.xe s
variable {A:T8}{s:G3}
def Ñ {α:Type}{t:Sem α}{Q Q':α->G3->Prop}{M:iP}{E:G1->G3->Prop}(h:R0 M A t Q E s)(hQ: ∀a s,Q a s->Q' a s):R0 M A t Q' E s:=M0 h hQ λ_ _ x=>x
section
variable {X:Cx}
def SG (i:G5):TE:=λσ H Q=> ∃v,σ[i]? =some (some v)/\Q v H
def tC (v:V):TE:=λ_ H Q=>Q v H
variable {x:Str}
def Bv {i:G5}{pos:Pos}(hN:X.N[i]? =some x)(hv:Vis X.env.scope x)(hd:(x==("__debug__" :Str))=false:=by decide)(hcd:(x==("__classdict__" :Str))=false:=by decide):PE X (.Name x pos) (SG i):=by
 intro ID s σ H Q I h;obtain⟨v,e,h⟩:=h;obtain⟨m,hn,hl⟩:=I.loc;obtain⟨u,r,l⟩:=hl i x v hN e hv;have fin:EP X ID σ Q u s:=⟨v,H,I,r,h⟩;rcases l with ⟨hk,hm⟩|⟨hk,c,hc,Ľ⟩
 ·exact pA (iB I.ok.kind hk hn hm fin) hd
 ·rcases hk with hk|hk
  ·exact pA (oP I.ok.kind hk hc Ľ fin) hd
  ·exact pA (wpAny_loadName_free I.ok.kind hk hc Ľ fin hcd) hd
def Α {i j pos}:PE X (.Constant (.int i) j pos) (tC (.int i)):=λ_ _ _ H _ I h=>wpAny_Constant_int ⟨.int i,H,I.tok _,⟨_,rfl⟩,h⟩
def X02 {b j pos}:PE X (.Constant (.bool b) j pos) (tC (.bl b)):=λ_ _ _ H _ I h=>Constant_bool ⟨.bl b,H,I,rfl,h⟩
def X0s {x j pos}:PE X (.Constant (.str x) j pos) (tC (.str x)):=λ_ _ _ H _ I h=>Calls.Constant_str ⟨.str x,H,I.tok _,⟨_,rfl⟩,h⟩
def Gl (X:Cx)(x:Str):Prop:=X.env.kindOf x=some .globalImplicit
variable {u:G1}
def Jx {E:G1->G3->Prop}{ID:G0 (G9×Obj)}{s:G3}{σ:St}{H:Hp}{pos:Pos}{Q:G1->G3->Prop}(I:Inv X ID σ H s)(hg:Gl X x)(hm:X.mg x=some u)(h:Q u s)
 (hd:(x==("__debug__" :Str))=false:=by decide):R0 (R7 X.prog X.w) X.A (A2 (.Name x pos) X.env) Q E s:=
 i6 I.ok.kind hg (Calls.loadGlobal_global (by rw [I.ok.glob];exact I.mod.glob.keeps I.bk) hm h) hd
def ZG {E:G1->G3->Prop}{ID:G0 (G9×Obj)}{s:G3}{σ:St}{H:Hp}{pos:Pos}{Q:G1->G3->Prop}(I:Inv X ID σ H s)(hg:Gl X x)(hm:X.mg x=none)(hv:Q5 x=some u)(h:Q u s)
 (hn:x≠ "__name__" :=by decide)(hd:(x==("__debug__" :Str))=false:=by decide):R0 (R7 X.prog X.w) X.A (A2 (.Name x pos) X.env) Q E s:=by
 obtain⟨mb,h1,h2⟩:=I.mod.blt;exact i6 I.ok.kind hg (Calls.loadGlobal_builtin (by rw [I.ok.glob];exact I.mod.glob.keeps I.bk) hm (by rw [I.ok.blt];exact h1.keeps I.bk) ((h2 x hn).trans hv) h) hd
def PK {v:V}{pos:Pos}(hg:Gl X x)(hm:X.mg x=some u)(r:RelV v u)(hd:(x==("__debug__" :Str))=false:=by decide):PE X (.Name x pos) (tC v):=
 λ_ _ _ H _ I h=>Jx I hg hm ⟨v,H,I,r,h⟩ hd
def PL {v:V}{pos:Pos}(hg:Gl X x)(hm:X.mg x=none)(hv:Q5 x=some u)(r:RelV v u)(hn:x≠ "__name__" :=by decide)(hd:(x==("__debug__" :Str))=false:=by decide):PE X (.Name x pos) (tC v):=
 λ_ _ _ H _ I h=>ZG I hg hm hv ⟨v,H,I,r,h⟩ hn hd
variable {a b:M9}{ta tb:TE}{pos:Pos}
def MG (b:M9){op:iQ}(h:op≠ .In)(h2:op≠ .NotIn):U3 op b=false:=by
 have e1:(op==CmpOp.In)=false:=by cases op<;>first|rfl|exact absurd rfl h
 have e2:(op==CmpOp.NotIn)=false:=by cases op<;>first|rfl|exact absurd rfl h2
 cases b<;>simp [U3,e1,e2]
def tB (t:TE):TT:=λσ H Q=>t σ H λx H1=> ∃c,x= .bl c/\Q c H1
def Ow {e:M9}{t:TE}(h:PE X e t)(he: ∀whole,isTrue e X.env whole=(do let v <-whole;hO e.pos;aZ [v] (qV v)):=by intro _;rfl):PT X e (tB t):=by
 intro ID s σ H Q I hw;refine xI (Ñ (h ID s σ H _ I hw) λv s1 ⟨x,H1,I1,r1,q1⟩=> ?_) (he _);obtain⟨d,rfl,q⟩:=q1;cases r1;exact E6 ⟨H1,I1,q⟩
variable {tA tB':TT}{rest:G0 M9}
def Ho (t u:TT):TT:=λσ H Q=>t σ H λc H1=>if c=true then u σ H1 Q else Q false H1
def tOr (t u:TT):TT:=λσ H Q=>t σ H λc H1=>if c=true then Q true H1 else u σ H1 Q
def Hq (t:TT):TT:=λσ H Q=>t σ H λc H1=>Q (!c) H1
def Ck (ha:PT X a tA):PW X (.BoolOp .And [a] pos) tA:=by
 intro wh ID s σ H Q I h;refine IR (Ñ (ha ID s σ H Q I h) λc s1 e=> ?_);cases c with
 |true=>exact isTrue_and_nil e
 |false=>exact e
def Ox (ha:PT X a tA):PW X (.BoolOp .Or [a] pos) tA:=by
 intro wh ID s σ H Q I h;refine isTrue_or (Ñ (ha ID s σ H Q I h) λc s1 e=> ?_);cases c with
 |false=>exact isTrue_or_nil e
 |true=>exact e
def Oy (ha:PT X a tA)(hb:PW X (.BoolOp .And (b::rest) pos) tB'):PW X (.BoolOp .And (a::b::rest) pos) (Ho tA tB'):=by
 intro wh ID s σ H Q I h;refine IR (Ñ (ha ID s σ H _ I h) λc s1 ⟨H1,I1,q1⟩=> ?_);cases c with
 |true=>exact hb wh ID s1 σ H1 Q I1 q1
 |false=>exact⟨H1,I1,q1⟩
def SH (ha:PT X a tA)(hb:PW X (.BoolOp .Or (b::rest) pos) tB'):PW X (.BoolOp .Or (a::b::rest) pos) (tOr tA tB'):=by
 intro wh ID s σ H Q I h;refine isTrue_or (Ñ (ha ID s σ H _ I h) λc s1 ⟨H1,I1,q1⟩=> ?_);cases c with
 |true=>exact⟨H1,I1,q1⟩
 |false=>exact hb wh ID s1 σ H1 Q I1 q1
def Oz (ha:PT X a tA):PT X (.UnaryOp .Not a pos) (Hq tA):=by
 intro ID s σ H Q I h;exact isTrue_not (ha ID s σ H (λc H1=>Q (!c) H1) I h)
def OA (ta tb:TE):TE:=λσ H Q=>ta σ H λx H1=> ∃c,x= .bl c/\if c=true then tb σ H1 Q else Q (.bl false) H1
def Hr (ta tb:TE):TE:=λσ H Q=>ta σ H λx H1=> ∃c,x= .bl c/\if c=true then Q (.bl true) H1 else tb σ H1 Q
def OB (ta:TE):TE:=λσ H Q=>ta σ H λx H1=> ∃c,x= .bl c/\Q (.bl (!c)) H1
def OC {op}{t:TE}(h:PE X a t):PE X (.BoolOp op [a] pos) t:=λID s σ H Q I hw=>BoolOp_one (h ID s σ H Q I hw)
def OD (ha:PE X a ta)(hb:PE X (.BoolOp .And (b::rest) pos) tb):PE X (.BoolOp .And (a::b::rest) pos) (OA ta tb):=by
 intro ID s σ H Q I h;refine BoolOp_and (Ñ (ha ID s σ H _ I h) λv s1 ⟨x,H1,I1,r1,q1⟩=> ?_);obtain⟨c,rfl,q1⟩:=q1;cases r1;refine E6 ?_;cases c with
 |true=>exact hb ID s1 σ H1 Q I1 q1
 |false=>exact⟨.bl false,H1,I1,rfl,q1⟩
def SJ (ha:PE X a ta)(hb:PE X (.BoolOp .Or (b::rest) pos) tb):PE X (.BoolOp .Or (a::b::rest) pos) (Hr ta tb):=by
 intro ID s σ H Q I h;refine BoolOp_or (Ñ (ha ID s σ H _ I h) λv s1 ⟨x,H1,I1,r1,q1⟩=> ?_);obtain⟨c,rfl,q1⟩:=q1;cases r1;refine E6 ?_;cases c with
 |false=>exact hb ID s1 σ H1 Q I1 q1
 |true=>exact⟨.bl true,H1,I1,rfl,q1⟩
def OE (ha:PE X a ta):PE X (.UnaryOp .Not a pos) (OB ta):=by
 intro ID s σ H Q I h;refine UnaryOp_ (Ñ (ha ID s σ H _ I h) λv s1 ⟨x,H1,I1,r1,q1⟩=> ?_);obtain⟨c,rfl,q1⟩:=q1;cases r1;exact not_of (E6 ⟨.bl (!c),H1,I1,rfl,q1⟩)
def tIf (t:TT)(ta tb:TE):TE:=λσ H Q=>t σ H λc H1=>if c=true then ta σ H1 Q else tb σ H1 Q
def MJ {c:M9}(hc:PT X c tA)(ha:PE X a ta)(hb:PE X b tb):PE X (.IfExp c a b pos) (tIf tA ta tb):=by
 intro ID s σ H Q I h;refine wpAny_IfExp (Ñ (hc ID s σ H _ I h) λd s1 ⟨H1,I1,q1⟩=> ?_);cases d with
 |true=>exact ha ID s1 σ H1 Q I1 q1
 |false=>exact hb ID s1 σ H1 Q I1 q1
end
def í (K:G6)(H:Hp)(a:G9)(xs:G0 V):Prop:=
 Rd H a (.lst xs)\/
  ∃ (o:Obj) (its:T6 G1) (n:G5),K.lookup a=some o/\o.cls= .type "list" /\o.dict=none/\o.data= .seq its n/\its.size<=sizeLine/\Æ xs its.toList
def å (K:G6)(H:Hp)(a:G9)(xs:G0 V):Prop:=
 Rd H a (.tup xs)\/
  ∃ (o:Obj) (its:T6 G1) (n:G5),K.lookup a=some o/\o.cls= .type "tuple" /\o.data= .seq its n/\its.size<=sizeLine/\Æ xs its.toList
noncomputable def Kl:G1->P5 V
 | .none=>some .non
 | .bool b=>some (.bl b)
 | .int i _=>some (.int i)
 | .str x _=>some (.str x)
 | .bytes b _=>some (.byt b)
 | .float b _=>some (.flt b)
 | .ref a=>some (.ref a)
 | .type n=>some (.ty n)
 |_=>none
def RelV.abs {x:V}(r:RelV x u):Kl u=some x:=by
 cases x with
 |non=>cases r;rfl
 |bl _=>cases r;rfl
 |int _=>obtain⟨t,rfl⟩:=r;rfl
 |str _=>obtain⟨t,rfl⟩:=r;rfl
 |byt _=>obtain⟨t,rfl⟩:=r;rfl
 |flt _=>obtain⟨t,rfl⟩:=r;rfl
 |ref _=>cases r;rfl
 |ty _=>cases r;rfl
def RelV.inj {x y:V}(r:RelV x u)(q:RelV y u):x=y:=E2 (r.abs.symm.trans q.abs)
theorem Æ.inj: ∀ {xs ys:G0 V} {us:G0 G1},Æ xs us->Æ ys us->xs=ys
 |_,_,_,.nil,.nil=>rfl
 |_,_,_,.cons r t,.cons r' t'=>by rw [r.inj r',Æ.inj t t']
section
variable {X:Cx}{ID:G0 (G9×Obj)}{σ:St}{H:Hp}{s:G3}{a:G9}{xs ys:G0 V}
def í.of {K:G6}(h:H a=some (.lst xs)):í K H a xs:= .inl (.inl h)
def å.of {K:G6}(h:H a=some (.tup xs)):å K H a xs:= .inl (.inl h)
def Inv.list (I:Inv X ID σ H s)(h:í X.K H a xs): ∃its:G0 G1,Æ xs its/\PlainL s.heap a its.toArray/\xs.length<=sizeLine:=by
 rcases h with h|⟨o,its,n,hk,hc,hd,hs,hz,r⟩
 ·obtain⟨z,its,n,r,e⟩:=h.ok I.hok;exact⟨its,r,⟨_,n,e,rfl,rfl,rfl⟩,z⟩
 ·refine⟨its.toList,r,⟨o,n,I.kIn a o hk,hc,hd,by simpa using hs⟩,?_⟩;have e:=r.length;simp only [D8] at e;omega
def Inv.tuple (I:Inv X ID σ H s)(h:å X.K H a xs): ∃its:G0 G1,Æ xs its/\rN s.heap a its.toArray/\xs.length<=sizeLine:=by
 rcases h with h|⟨o,its,n,hk,hc,hs,hz,r⟩
 ·obtain⟨z,its,r,p⟩:=h.ok I.hok;exact⟨its,r,p.tup,z⟩
 ·refine⟨its.toList,r,⟨o,I.kIn a o hk,hc,n,by simpa using hs⟩,?_⟩;have e:=r.length;simp only [D8] at e;omega
def Inv.list_inj (I:Inv X ID σ H s)(h:í X.K H a xs)(h':í X.K H a ys):xs=ys:=by
 obtain⟨its,r,⟨o,n,e,_,_,d⟩,_⟩:=I.list h;obtain⟨its',r',⟨o',n',e',_,_,d'⟩,_⟩:=I.list h';rw [e] at e';cases e';rw [d] at d';injection d' with d1 _
 have:its=its':=by simpa using congrArg pO d1
 subst this;exact r.inj r'
def Inv.tuple_inj (I:Inv X ID σ H s)(h:å X.K H a xs)(h':å X.K H a ys):xs=ys:=by
 obtain⟨its,r,⟨o,e,_,n,d⟩,_⟩:=I.tuple h;obtain⟨its',r',⟨o',e',_,n',d'⟩,_⟩:=I.tuple h';rw [e] at e';cases e';rw [d] at d';injection d' with d1 _
 have:its=its':=by simpa using congrArg pO d1
 subst this;exact r.inj r'
end
noncomputable abbrev Cx.wish (X:Cx)(E:G1->G3->Prop):Cx:= {X with xe:=E}
abbrev Cx.nox (X:Cx):Cx:=X.wish λ_ _=>False
def Cx.Ok.wish (ok:X.Ok)(E:G1->G3->Prop):(X.wish E).Ok:=
 ⟨ok.mod,ok.kind,ok.glob,ok.blt,ok.above,ok.inj,ok.has,ok.cab,ok.hd,ok.frames,ok.stk,ok.exf,ok.bs,ok.bsz,ok.noex,ok.exfs,ok.funs,ok.frf⟩
def Cx.Ok.unwish {E:G1->G3->Prop}(ok:(X.wish E).Ok):X.Ok:=
 ⟨ok.mod,ok.kind,ok.glob,ok.blt,ok.above,ok.inj,ok.has,ok.cab,ok.hd,ok.frames,ok.stk,ok.exf,ok.bs,ok.bsz,ok.noex,ok.exfs,ok.funs,ok.frf⟩
section
variable {X:Cx}{ID:G0 (G9×Obj)}{σ:St}{H:Hp}{s:G3}{E:G1->G3->Prop}
def Inv.wish (I:Inv X ID σ H s)(E:G1->G3->Prop):Inv (X.wish E) ID σ H s:=⟨I.ok.wish E,I.os,I.bare,I.base,I.loc,I.cell,I.free,I.freeC,I.pin,I.hok,I.len⟩
def Inv.unwish (I:Inv (X.wish E) ID σ H s):Inv X ID σ H s:=⟨I.ok.unwish,I.os,I.bare,I.base,I.loc,I.cell,I.free,I.freeC,I.pin,I.hok,I.len⟩
def SP.unwish {D:ž}{f:Flow}{s':G3}(h:SP (X.wish E) ID D f s'):SP X ID D f s':=by
 cases f with
 |next=>obtain⟨IO,H',I,q⟩:=h;exact⟨IO,H',I.unwish,q⟩
 |brk=>obtain⟨IO,H',I,q⟩:=h;exact⟨IO,H',I.unwish,q⟩
 |cont=>obtain⟨IO,H',I,q⟩:=h;exact⟨IO,H',I.unwish,q⟩
 |ret u=>obtain⟨v,IO,H',I,r,q⟩:=h;exact⟨v,IO,H',I.unwish,r,q⟩
def ļ.nox {st:G0 A6}{t:TS}(h:ļ X.nox st t):ļ X st t:=λID s σ H D I hw=>
 M0 (h ID s σ H D (I.wish _) hw) (λ_ _ q=>q.unwish) λ_ _ z=>False.elim z
end
section
variable {X:Cx}{st:A6}{rest:G0 A6}{t u:TS}{e:M9}{te:TE}{pos:Pos}
def OF:TS:=λD σ H=>D.nx σ H
def Hs (t u:TS):TS:=λD σ H=>t {D with nx:=u D} σ H
def X0i:ļ X [] OF:=λ_ _ σ H _ I h=>cR ⟨σ,H,I,h⟩
def MK (h1:PS X st t)(h2:ļ X rest u):ļ X (st::rest) (Hs t u):=by
 intro ID s σ H D I h;refine Q0 (Ñ (h1 ID s σ H {D with nx:=u D} I h) λf s1 q=> ?_);cases f with
 |next=>
  obtain⟨IO,H',I',q⟩:=q;exact h2 ID s1 IO H' D I' q
 |ret v=>exact q
 |brk=>exact q
 |cont=>exact q
def Cl (h1:PS X st t):ļ X [st] t:=by
 intro ID s σ H D I h;refine Q0 (Ñ (h1 ID s σ H D I h) λf s1 q=> ?_);cases f with
 |next=>exact cR q
 |ret v=>exact q
 |brk=>exact q
 |cont=>exact q
def Inv.quiet {ID:G0 (G9×Obj)}{σ:St}{H:Hp}{s:G3}(I:Inv X ID σ H s):y6 X.env=false:=by simp [y6,I.ok.kind]
def OG (te:TE):TS:=λD σ H=>te σ H λ_ H1=>D.nx σ H1
def Cm (he:PE X e te)(hs:aQ e none pos.line X.env=pure false:=by rfl):PS X (.Expr e pos) (OG te):=by
 intro ID s σ H D I h;exact sS (Ñ (he ID s σ H _ I h) λv s1 ⟨x,H1,I1,r1,q1⟩=>⟨σ,H1,I1,q1⟩) I.quiet hs
def Ht (te:TE):TS:=λD σ H=>te σ H D.rt
def OH (he:PE X e te):PS X (.Return (some e) pos) (Ht te):=by
 intro ID s σ H D I h;exact pQ (Ñ (he ID s σ H _ I h) λv s1 ⟨x,H1,I1,r1,q1⟩=>⟨x,σ,H1,I1,r1,q1⟩)
def Hu (c:TT)(t u:TS):TS:=λD σ H=>c σ H λb H1=>if b=true then t D σ H1 else u D σ H1
def SK {c:M9}{a b:G0 A6}{tc:TT}(hc:PT X c tc)(ha:ļ X a t)(hb:ļ X b u):PS X (.If c a b pos) (Hu tc t u):=by
 intro ID s σ H D I h;refine y8 (Ñ (hc ID s σ H _ I h) λd s1 ⟨H1,I1,q1⟩=> ?_);cases d with
 |true=>exact ha ID s1 σ H1 D I1 q1
 |false=>exact hb ID s1 σ H1 D I1 q1
end
abbrev TG:=V->St->Hp->(St->Hp->Prop)->Prop
abbrev TGs:=G0 V->St->Hp->(St->Hp->Prop)->Prop
def PG (X:Cx)(target:M9)(t:TG):Prop:=
 ∀ (ID:G0 (G9×Obj)) (s:G3) (σ:St) (H:Hp) (v:V) (u:G1) (Q:St->Hp->Prop),Inv X ID σ H s->RelV v u->t v σ H Q->
  R0 (R7 X.prog X.w) X.A (iI target X.env u) (λ_ s'=> ∃IO H',Inv X ID IO H' s'/\Q IO H') X.xe s
def PGs (X:Cx)(ts:G0 M9)(t:TGs):Prop:=
 ∀ (ID:G0 (G9×Obj)) (s:G3) (σ:St) (H:Hp) (vs:G0 V) (us:G0 G1) (Q:St->Hp->Prop),Inv X ID σ H s->Æ vs us->t vs σ H Q->
  R0 (R7 X.prog X.w) X.A (oX ((fI ts X.env).map (·.2)) us) (λ_ s'=> ∃IO H',Inv X ID IO H' s'/\Q IO H') X.xe s
abbrev SL:=V->V->V->Hp->(Hp->Prop)->Prop
def Hv (X:Cx)(t:SL):Prop:=
 ∀ (ID:G0 (G9×Obj)) (s:G3) (σ:St) (H:Hp) (o i v:V) (ov iv u:G1) (Q:Hp->Prop),Inv X ID σ H s->RelV o ov->RelV i iv->RelV v u->t o i v H Q->
  R0 (R7 X.prog X.w) X.A (xJ ov iv u) (λ_ s'=> ∃H',Inv X ID σ H' s'/\Q H') X.xe s
abbrev TIp:=V->V->Hp->VK->Prop
def PIp (X:Cx)(op:pR)(t:TIp):Prop:=
 ∀ (ID:G0 (G9×Obj)) (s:G3) (σ:St) (H:Hp) (x y:V) (v u:G1) (Q:VK),Inv X ID σ H s->RelV x v->RelV y u->t x y H Q->
  R0 (R7 X.prog X.w) X.A (inplaceOp op v u) (EP X ID σ Q) X.xe s
section
variable {X:Cx}{pos:Pos}
def ym (i:G5):TG:=λv σ H Q=>Q (σ.set i (some v)) H
variable {i:G5}{x:Str}
def vh (hN:X.N.Nodup)(hi:X.N[i]? =some x)(hx:Loc X.env.scope x)(hf:X.fn x=true\/X.env.scope.names.lookup x=some .local:=by first|exact .inl rfl|exact .inr rfl|assumption):PG X (.Name x pos) (ym i):=by
 intro ID s σ H v u Q I r h;exact wpAny_assign_Name (wB I hN hi hx r (λs' I'=>⟨_,H,I',h⟩) hf)
def SM:TGs:=λvs σ H Q=>vs= []/\Q σ H
def PM (t:TG)(u:TGs):TGs:=λvs σ H Q=> ∃v r,vs=v::r/\t v σ H λIO H'=>u r IO H' Q
def PN:PGs X [] SM:=by
 intro ID s σ H vs us Q I r h;obtain⟨e,h⟩:=h;subst e;cases r;exact pS ⟨σ,H,I,h⟩
variable {e:M9}
def Zq {es:G0 M9}{t:TG}{u:TGs}(h1:PG X e t)(h2:PGs X es u)
 (hs:(fI (e::es) X.env).map (·.2)=iI e X.env::(fI es X.env).map (·.2):=by rfl):PGs X (e::es) (PM t u):=by
 intro ID s σ H vs us Q I r h;obtain⟨v,vr,e1,h⟩:=h;subst e1;cases r with
 |cons r rr=>
  rw [hs];refine i7 (Ñ (h1 ID s σ H _ _ _ I r h) λ_ s1 ⟨σ1,H1,I1,q1⟩=> ?_);exact h2 ID s1 σ1 H1 _ _ Q I1 rr q1
def SN (K:G6)(n:G5)(t:TGs):TG:=λv σ H Q=> ∃a xs,v= .ref a/\å K H a xs/\xs.length=n/\t xs σ H Q
def Bw {es:G0 M9}{k:G5}{t:TGs}{n:G5}(hc:X.calm=true)(h:PGs X es t)
 (hn:(fI es X.env).length=n:=by rfl)(hst:(fI es X.env).findIdx? (·.1)=none:=by rfl):PG X (.Tuple es k pos) (SN X.K n t):=by
 intro ID s σ H v u Q I r hw;obtain⟨a,xs,e1,hq,hl,hw⟩:=hw;subst e1;cases r;obtain⟨its,rv,ht,hz⟩:=I.tuple hq;refine assign_Tuple_tuple (I.ok.hd hc) ht (by simp [hn,<-hl,rv.length]) hst λh' hx=> ?_
 have I1:Inv X ID σ H {s with heap:=h'}:=I.kept (t':=s.toks) λb o e=>hx b o (M8 (D2 e)) e
 exact h ID _ σ H xs _ Q I1 (by simpa using rv) hw
def Km (to ti:TE)(t:SL):TG:=λv σ H Q=>to σ H λo H1=>ti σ H1 λi H2=>t o i v H2 λH3=>Q σ H3
def OI {o i:M9}{to ti:TE}{t:SL}(ho:PE X o to)(hi:PE X i ti)(hs:Hv X t)
 (ha: ∀v,iI (.Subscript o i pos) X.env v=(do
  let ov <-aZ [v] (A2 o X.env)
  let iv <-aZ [v,ov] (A2 i X.env)
  hO pos
  aZ [v,ov,iv] (xJ ov iv v)
  G0m [v,ov,iv] []):=by intro _;rfl):PG X (.Subscript o i pos) (Km to ti t):=by
 intro ID s σ H v u Q I r h;rw [ha];refine wpAny_bind (L7 (Ñ (ho ID s σ H _ I h) λov s1 ⟨x,H1,I1,r1,q1⟩=> ?_));refine wpAny_bind (L7 (Ñ (hi ID s1 σ H1 _ I1 q1) λiv s2 ⟨y,H2,I2,r2,q2⟩=> ?_));refine wpAny_bind (dZ (wpAny_bind (L7 (Ñ (hs ID s2 σ H2 x y v ov iv u _ I2 r1 r2 r q2) λ_ s3 ⟨H3,I3,q3⟩=> ?_))));exact wpAny_release ⟨σ,H3,I3,q3⟩
def Bx (te:TE)(g:TG):TS:=λD σ H=>te σ H λx H1=>g x σ H1 D.nx
def OJ {tg:M9}{te:TE}{g:TG}(he:PE X e te)(hg:PG X tg g)(hs:eI [tg] e pos.line X.env=pure false:=by rfl)(hw:eJ [tg] e X.env=pure none:=by rfl)
 (h1:(fI [tg] X.env).map (·.2)= [iI tg X.env]:=by rfl):PS X (.Assign [tg] e pos) (Bx te g):=by
 intro ID s σ H D I h;refine wpAny_Assign_stores (Ñ (he ID s σ H _ I h) λv s1 ⟨x,H1,I1,r1,q1⟩=> ?_) hs hw;rw [h1];exact Ñ (hg ID s1 σ H1 x v _ I1 r1 q1) λ_ s2 q=>q
def OK {te:TE}{pos':Pos}(hN:X.N.Nodup)(hi:X.N[i]? =some x)(hx:Loc X.env.scope x)(he:PE X e te)(hs:aQ e (some (.Name x pos')) pos.line X.env=pure false:=by rfl)(hf:X.fn x=true\/X.env.scope.names.lookup x=some .local:=by first|exact .inl rfl|exact .inr rfl|assumption):
 PS X (.Assign [.Name x pos'] e pos) (Bx te (ym i)):=by
 intro ID s σ H D I h;refine lD (Ñ (he ID s σ H _ I h) λv s1 ⟨y,H1,I1,r1,q1⟩=> ?_) hs;exact wB I1 hN hi hx r1 (λs2 I2=>⟨_,H1,I2,q1⟩) hf
def Hw (i j:G5)(ta:TA):TS:=λD σ H=>ta σ H λvs H1=> ∃v w,vs= [v,w]/\D.nx ((σ.set i (some v)).set j (some w)) H1
def OL {j:G5}{y:Str}{a b:M9}{ta:TA}{px py pt:Pos}{kt k2 pt2}(hc:X.calm=true)(hN:X.N.Nodup)(hi:X.N[i]? =some x)(hj:X.N[j]? =some y)(hij:i≠j)
 (hx:X.env.scope.names.lookup x=some .local)(hy:X.env.scope.names.lookup y=some .local)(ha:PA X [a,b] ta)
 (hw:eJ [.Tuple [.Name x px,.Name y py] kt pt] (.Tuple [a,b] k2 pt2) X.env=pure (some [x,y]))
 (hs:eI [.Tuple [.Name x px,.Name y py] kt pt] (.Tuple [a,b] k2 pt2) pos.line X.env=pure false:=by rfl):
 PS X (.Assign [.Tuple [.Name x px,.Name y py] kt pt] (.Tuple [a,b] k2 pt2) pos) (Hw i j ta):=by
 intro ID s σ H D I h;rw [exec_Assign_arm];refine wpAny_bind (dZ ?_);rw [hs];refine wpAny_bind (P2 ?_);rw [R9 (by decide)];refine wpAny_bind (Tuple_ (Ñ (ha _ ID s σ H _ I h) λus s1 ⟨vs,H1,I1,r1,q1⟩=> ?_));obtain⟨v,w,e1,q1⟩:=q1;subst e1;obtain⟨u1,u2,rfl,rv,rw'⟩: ∃u1 u2,us= [u1,u2]/\RelV v u1/\RelV w u2:=by
  cases r1 with
  |cons p q=>
   cases q with
   |cons p' q'=>
    cases q';exact⟨_,_,rfl,p,p'⟩
 refine bO ?_ (by show 2<=sizeLine;decide);have I2:Inv X ID σ H1 {s1 with heap:=s1.heap.push {cls:= .type "tuple",data:= .seq [u1,u2].toArray}}:=I1.kept (t':=s1.toks) λb o e=>G7 _ e
 rw [hw];refine wpAny_bind (P2 ?_);show R0 (R7 X.prog X.w) X.A (do rule "assign.swapped-stores";let items <-unpackItems (.ref s1.heap.objs.size) 2 none;oX [λv=>sT X.env y v,λv=>sT X.env x v] items.reverse;pure Flow.next) _ _ _;refine wpAny_bind (gR (wpAny_bind (unpackItems_tuple (items:= #[u1,u2]) (I.ok.hd hc) (IsTup.new s1.heap _) λh' Ÿ=> ?_)));have I3:=I2.kept (h':=h') (t':=s1.toks) λb o e=>Ÿ b o (M8 (D2 e)) e
 show R0 _ _ (oX [λv=>sT X.env y v,λv=>sT X.env x v] [u2,u1] >>= λ_=>pure Flow.next) _ _ _;refine wpAny_bind (i7 (nM (wB I3 hN hj (.inl hy) rw' (λs2 I4=> ?_) (.inr hy))));refine i7 (nM (wB I4 hN hi (.inl hx) rv (λs3 I5=>pS (P2 ?_)) (.inr hx)));rw [List.set_comm _ _ (U6 hij)] at I5;exact⟨_,H1,I5,q1⟩
def Hx (i:G5)(te:TE)(ti:TIp):TS:=λD σ H=> ∃x,σ[i]? =some (some x)/\te σ H λy H1=>ti x y H1 λz H2=>D.nx (σ.set i (some z)) H2
def OM {te:TE}{op:pR}{ti:TIp}{pos':Pos}(hN:X.N.Nodup)(hi:X.N[i]? =some x)(hx:Loc X.env.scope x)(he:PE X e te)(ho:PIp X op ti)(hf:X.fn x=true\/X.env.scope.names.lookup x=some .local:=by first|exact .inl rfl|exact .inr rfl|assumption):
 PS X (.AugAssign (.Name x pos') op e pos) (Hx i te ti):=by
 intro ID s σ H D I h;obtain⟨v,e1,h⟩:=h;obtain⟨m,hn,hl⟩:=I.loc;have vis:Vis X.env.scope x:=by rcases hx with k|k;exact .inl k;exact .inr (.inl k)
 obtain⟨u,r,l⟩:=hl i x v hi e1 vis;refine wpAny_AugAssign_Name ?_;have go:R0 (R7 X.prog X.w) X.A (A2 e X.env) (λw s₂=>R0 (R7 X.prog X.w) X.A (inplaceOp op u w) (λr s₃=>R0 (R7 X.prog X.w) X.A (w8 X.env x r) (λ_=>SP X ID D .next) X.xe s₃) X.xe s₂) X.xe s:=by
  refine Ñ (he ID s σ H _ I h) λw s1 ⟨y,H1,I1,r1,q1⟩=> ?_
  refine Ñ (ho ID s1 σ H1 v y u w _ I1 r r1 q1) λz s2 ⟨zv,H2,I2,r2,q2⟩=> ?_
  exact wB I2 hN hi hx r2 (λs3 I3=>⟨_,H2,I3,q2⟩) hf
 rcases l with ⟨hk,hm⟩|⟨hk,c,hc,Ľ⟩
 ·exact iB I.ok.kind hk hn hm go
 ·rcases hk with hk|hk
  ·exact oP I.ok.kind hk hc Ľ go
  ·rcases hx with k|k
   ·have:X.env.scope.names.lookup x=some .free:=hk;rw [k] at this;cases this
   ·have:X.env.scope.names.lookup x=some .free:=hk;rw [k] at this;cases this
def ipI (f:P1->P1->P1):TIp:=λx y H Q=> ∃i j,x= .int i/\y= .int j/\Q (.int (f i j)) H
def ON:PIp X .Add (ipI λi j=>i+j):=by
 intro ID s σ H x y v u Q I r1 r2 h;obtain⟨i,j,e1,e2,q⟩:=h;subst e1;subst e2;obtain⟨t,rfl⟩:=r1;obtain⟨t',rfl⟩:=r2;exact iadd_int ⟨.int _,H,I.tok _,⟨_,rfl⟩,q⟩
def By (c:TT)(tb:TS):TS:=λD σ H=> ∃W:G5->St->Hp->Prop,(∃m,W m σ H)/\ ∀m σ H,W m σ H->
 c σ H λb H1=>if b=true then ∃N:St->Hp->Prop,(∀IO H',N IO H'-> ∃m',m'<m/\W m' IO H')/\tb {D with nx:=N,ct:=N,bk:=D.nx} σ H1 else D.nx σ H1
def ML {c:M9}{body:G0 A6}{tc:TT}{tb:TS}(hp:oH (R7 X.prog X.w) X.A X.env X.xe)(hc:PT X c tc)(hb:ļ X body tb):PS X (.While c body [] pos) (By tc tb):=by
 intro ID s σ H D I h;obtain⟨W,⟨m0,w0⟩,turn⟩:=h;refine wpAny_While (codeAny_whileLoop (λn s'=> ∃IO H',Inv X ID IO H' s'/\W n IO H') ?_ m0 ⟨σ,H,I,w0⟩);rintro n s1 ⟨σ1,H1,I1,w1⟩;refine bJ hp (Ñ (hc ID s1 σ1 H1 _ I1 (turn n σ1 H1 w1)) λb s2 ⟨H2,I2,q2⟩=> ?_);cases b with
 |true=>
  obtain⟨N,hN,q2⟩:=q2;rw [R8 rfl];refine bJ hp (Ñ (hb ID s2 σ1 H2 _ I2 q2) λf s3 q3=> ?_);cases f with
  |next=>
   obtain⟨ĉ,H3,I3,n3⟩:=q3;obtain⟨m',hm,w3⟩:=hN ĉ H3 n3;exact⟨m',hm,ĉ,H3,I3,w3⟩
  |cont=>
   obtain⟨ĉ,H3,I3,n3⟩:=q3;obtain⟨m',hm,w3⟩:=hN ĉ H3 n3;exact⟨m',hm,ĉ,H3,I3,w3⟩
  |brk=>exact q3
  |ret v=>exact q3
 |false=>
  rw [R9 R3];exact cR ⟨σ1,H2,I2,q2⟩
end
structure It where
 go:G5->Hp->Prop
 yld:G5->Hp->V->Hp->Prop
 stop:G5->Hp->Prop
def Py (X:Cx)(ID:G0 (G9×Obj))(H:Hp)(b:G9):Prop:=
 H b=none/\b≠X.env.locals/\b ∉ X.fs/\(b∈X.ex\/X.s₀.heap.objs.size<=b)/\(∀x c,X.env.cells.lookup x=some c->c≠b)/\ ∀p∈X.pn++ID,p.1≠b
def Inv.fpOk {ID:G0 (G9×Obj)}{σ:St}{H':Hp}(I:Inv X ID σ H s)(hb:s.heap.objs.size<=b)(hn:H' b=none):Py X ID H' b:=by
 refine⟨hn,Y3 (T5 I.lt hb),I.nofs hb,.inr (R6 I.sz hb),λx c e z=> ?_,λp hp z=> ?_⟩
 ·obtain⟨v,q⟩:=I.cell x c e;exact absurd (T5 q.lt (by rw [z];exact hb)) (B1 _)
 ·exact absurd (T5 (D2 (I.pin p hp).1) (by rw [z];exact hb)) (B1 _)
structure X0t (P:S8)(w:B0)(K:G6)(tg:M9)(J:It)(fp:G0 G9)(it:G9)(tn:G5->C7->Prop):Prop where
 mem:it∈fp
 obj: ∀i h,tn i h-> ∀b∈fp,∃o,h.get? b=some o/\ ∀v,o.data≠ .cell v
 keep: ∀i h h',tn i h->(∀b∈fp,∀o,h.get? b=some o->h'.get? b=some o)->tn i h'
 item: ∀ (X:Cx),X.prog=P->X.w=w->X.K=K->X.calm=true-> ∀ (i:G5) (ID:G0 (G9×Obj)) (s:G3) (σ:St) (H:Hp) (E:G1->G3->Prop),Inv X ID σ H s->(∀b∈fp,Py X ID H b)->tn i s.heap->J.go i H->
  R0 (R7 P w) X.A (xK (.ref it)) (λr s1=> ∃u,r=some u/\
   R0 (R7 P w) X.A (fC tg (.ref it) u) (λ_ s2=> ∃x H',Inv X ID σ H' s2/\RelV x u/\J.yld i H x H'/\tn (i+1) s2.heap/\ ∀b∈fp,H' b=none) E s1) E s
 done: ∀ (X:Cx),X.prog=P->X.w=w->X.K=K->X.calm=true-> ∀ (i:G5) (ID:G0 (G9×Obj)) (s:G3) (σ:St) (H:Hp) (E:G1->G3->Prop),Inv X ID σ H s->(∀b∈fp,Py X ID H b)->tn i s.heap->J.stop i H->
  R0 (R7 P w) X.A (xK (.ref it)) (λr s1=>r=none/\Inv X ID σ H s1) E s
 self: ∀ (A:T8) (i:G5) (s:G3) (Q:G1->G3->Prop) (E:G1->G3->Prop),tn i s.heap->Q (.ref it) s->R0 (R7 P w) A (sU (.ref it)) Q E s
abbrev TI:=St->Hp->(It->Hp->Prop)->Prop
def PIE (X:Cx)(ID:G0 (G9×Obj))(σ:St)(tg:M9)(R:It->Hp->Prop)(itv:G1)(s2:G3):Prop:=
 ∃ (it:G9) (fp:G0 G9) (tn:G5->C7->Prop) (J:It) (H':Hp),itv= .ref it/\Inv X ID σ H' s2/\X0t X.prog X.w X.K tg J fp it tn/\tn 0 s2.heap/\(∀b∈fp,Py X ID H' b)/\R J H'
def PI (X:Cx)(tg iter:M9)(wi:TI):Prop:=
 ∀ (ID:G0 (G9×Obj)) (s:G3) (σ:St) (H:Hp) (R:It->Hp->Prop),Inv X ID σ H s->wi σ H R->
  R0 (R7 X.prog X.w) X.A (A2 iter X.env) (λv s1=>R0 (R7 X.prog X.w) X.A (sU v) (PIE X ID σ tg R) X.xe s1) X.xe s
variable {tg:M9}
def Cn {M : iP} {E : G1 → G3 → Prop} {it : G9} {o : Obj} {n : U5} {vs : T6 G1} {Q : Unit → G3 → Prop} (ho : s.heap.get? it = some o) (hc : o.cls = .type n) (hd : o.data = .fields vs)
    (hn : ["enumerate", "zip", "dict_itemiterator", "dict_reverseitemiterator", "odict_iterator", "itertools.zip_longest", "itertools.pairwise"].contains n = false) (hQ : Q () s) : R0 M A (fC tg (.ref it) u) Q E s := by
  unfold fC
  cases tg <;> first
    | exact P2 hQ
    | (cases u <;> first
        | exact P2 hQ
        | (refine wpAny_bind (pB ho ?_)
           rw [hc, hd]
           show R0 M A (if (["enumerate", "zip", "dict_itemiterator", "dict_reverseitemiterator", "odict_iterator", "itertools.zip_longest", "itertools.pairwise"].contains n && vs[0]? == some (A7 _)) = true then _ else _) Q E s
           rw [R9 (by intro h; rw [hn, dE] at h; cases h)]
           exact P2 hQ))
def Itl (K:G6)(a:G9):It:=
 ⟨λi H=> ∃xs x,í K H a xs/\xs[i]? =some x,λi H x H'=>H'=H/\ ∀xs,í K H a xs->xs[i]? =some x,λi H=> ∃xs,í K H a xs/\xs.length<=i⟩
def Itt (K:G6)(a:G9):It:=
 ⟨λi H=> ∃xs x,å K H a xs/\xs[i]? =some x,λi H x H'=>H'=H/\ ∀xs,å K H a xs->xs[i]? =some x,λi H=> ∃xs,å K H a xs/\xs.length<=i⟩
def Itr (lo:P1)(n:G5):It:=⟨λi _=>i<n,λi H x H'=>H'=H/\x= .int (lo+i),λi _=>n<=i⟩
variable {K:G6}
def VG (a it:G9):X0t P w K tg (Itl K a) [it] it (λi h=>h.IsListIter it a i) where
 mem:=by simp
 obj:=λi h st b hb=>by
  have e:b=it:=by simpa using hb
  subst e;obtain⟨o,e,c,d⟩:=st;exact⟨o,e,λv z=>by rw [d] at z;cases z⟩
 keep:=λi h h' st k=>st.at λo e=>k it (by simp) o e
 item:=by
  intro X hP hw hK hc i ID s σ H E I hf st hg;subst hP hw hK;obtain⟨xs,x,hq,hx⟩:=hg;obtain⟨its,rv,p,hz⟩:=I.list hq;obtain⟨u,hu,ru⟩:=rv.get hx;obtain⟨f0,f1,f2,f3,f4,f5⟩:=hf it (by simp);refine wpAny_pyNext_list_item st p.isList (x:=u) (by simpa using hu) λh' Å sb=> ?_
  have I1:Inv X ID σ H {s with heap:=h'}:=I.turned (t':=s.toks) (λb o hb e=>(sb.2 b hb).trans e) f0 f1 f3 f4 f5;obtain⟨o,e,c,d⟩:=id Å;exact⟨u,rfl,Cn (s:= {s with heap:=h'}) e c d (by decide) ⟨x,H,I1,ru,⟨rfl,λys hy=>by rw [I.list_inj hy hq];exact hx⟩,Å,λb hb=>(hf b hb).1⟩⟩
 done:=by
  intro X hP hw hK hc i ID s σ H E I hf st hg;subst hP hw hK;obtain⟨xs,hq,hx⟩:=hg;obtain⟨its,rv,p,hz⟩:=I.list hq;obtain⟨f0,f1,f2,f3,f4,f5⟩:=hf it (by simp);have hl:=rv.length;exact wpAny_pyNext_list_end (I.ok.hd hc) st p.isList (by simp;omega) λh' eb=>⟨rfl,I.turned (t':=s.toks) (λb o hb e=>eb b o hb e) f0 f1 f3 f4 f5⟩
 self:=λ_ _ _ _ _ st h=>wpAny_pyIter_listiter st h
def Gm (a it:G9):X0t P w K tg (Itt K a) [it] it (λi h=>h.IsTupleIter it a i) where
 mem:=by simp
 obj:=λi h st b hb=>by
  have e:b=it:=by simpa using hb
  subst e;obtain⟨o,e,c,d⟩:=st;exact⟨o,e,λv z=>by rw [d] at z;cases z⟩
 keep:=λi h h' st k=>st.at λo e=>k it (by simp) o e
 item:=by
  intro X hP hw hK hc i ID s σ H E I hf st hg;subst hP hw hK;obtain⟨xs,x,hq,hx⟩:=hg;obtain⟨its,rv,p,hz⟩:=I.tuple hq;obtain⟨u,hu,ru⟩:=rv.get hx;obtain⟨f0,f1,f2,f3,f4,f5⟩:=hf it (by simp);refine wpAny_pyNext_tuple_item st (show s.heap.IsTuple a its.toArray from p) (x:=u) (by simpa using hu) λh' Å sb=> ?_
  have I1:Inv X ID σ H {s with heap:=h'}:=I.turned (t':=s.toks) (λb o hb e=>(sb.2 b hb).trans e) f0 f1 f3 f4 f5;obtain⟨o,e,c,d⟩:=id Å;exact⟨u,rfl,Cn (s:= {s with heap:=h'}) e c d (by decide) ⟨x,H,I1,ru,⟨rfl,λys hy=>by rw [I.tuple_inj hy hq];exact hx⟩,Å,λb hb=>(hf b hb).1⟩⟩
 done:=by
  intro X hP hw hK hc i ID s σ H E I hf st hg;subst hP hw hK;obtain⟨xs,hq,hx⟩:=hg;obtain⟨its,rv,p,hz⟩:=I.tuple hq;obtain⟨f0,f1,f2,f3,f4,f5⟩:=hf it (by simp);have hl:=rv.length;exact wpAny_pyNext_tuple_end (I.ok.hd hc) st (show s.heap.IsTuple a its.toArray from p) (by simp;omega) λh' eb=>⟨rfl,I.turned (t':=s.toks) (λb o hb e=>eb b o hb e) f0 f1 f3 f4 f5⟩
 self:=λ_ _ _ _ _ st h=>wpAny_pyIter_tupleiter st h
def Gn (it:G9)(lo:P1)(n:G5):X0t P w K tg (Itr lo n) [it] it (λi h=>y9 h it (lo+(i:G5)*1) ((n:P1)-(i:G5)) 1) where
 mem:=by simp
 obj:=λi h st b hb=>by
  have e:b=it:=by simpa using hb
  subst e;exact⟨_,st,λv z=>by
   have z':Data.fields _=Data.cell v:=z;cases z'⟩
 keep:=λi h h' st k=>k it (by simp) _ st
 item:=by
  intro X hP hw hK hc i ID s σ H E I hf st hg;subst hP hw hK;obtain⟨f0,f1,f2,f3,f4,f5⟩:=hf it (by simp);have W:=Walks.range (prog:=X.prog) (w:=X.w) (I.ok.hd hc) it lo 1 n;refine W.item i s _ _ hg st λv h' tk hv Å kk=> ?_
  obtain⟨t,rfl⟩:=hv;have I1:Inv X ID σ H {s with heap:=h',toks:=tk}:=I.turned (λb o hb e=>kk b o (by simpa using hb) e) f0 f1 f3 f4 f5;refine⟨_,rfl,Cn (s:= {s with heap:=h',toks:=tk}) (n:= "range_iterator") Å rfl rfl (by decide) ⟨.int (lo+i),H,I1,⟨t,?_⟩,⟨rfl,rfl⟩,Å,λb hb=>(hf b hb).1⟩⟩;rw [Int.mul_one]
 done:=by
  intro X hP hw hK hc i ID s σ H E I hf st hg;subst hP hw hK;obtain⟨f0,f1,f2,f3,f4,f5⟩:=hf it (by simp);exact wpAny_pyNext_range_end (I.ok.hd hc) st (by have:n<=i:=hg;omega) λh' eb=>⟨rfl,I.turned (t':=s.toks) (λb o hb e=>eb b o hb e) f0 f1 f3 f4 f5⟩
 self:=λ_ _ _ _ _ st h=>wpAny_pyIter_rangeiter st h
section
variable {X:Cx}{tg:M9}
def OO (K:G6)(tl:TE):TI:=λσ H R=>tl σ H λx H1=> ∃a,x= .ref a/\(∃xs,í K H1 a xs)/\R (Itl K a) H1
def Co {l:M9}{tl:TE}(hl:PE X l tl):PI X tg l (OO X.K tl):=by
 intro ID s σ H R I h;refine Ñ (hl ID s σ H _ I h) λv s1 ⟨x,H1,I1,r1,q1⟩=> ?_
 obtain⟨a,e,⟨xs,hq⟩,q⟩:=q1;subst e;cases r1;obtain⟨its,rv,p,hz⟩:=I1.list hq;refine Z8 p.isList ?_;refine⟨s1.heap.objs.size,[s1.heap.objs.size],_,_,H1,rfl,I1.kept (t':=s1.toks) λb o e=>G7 _ e,VG a _,⟨_,S4 _ rfl,rfl,rfl⟩,λb hb=> ?_,q⟩;have e:b=s1.heap.objs.size:=by simpa using hb
 subst e;exact I1.fpOk (P3 _) (I1.hok.fresh (P3 _))
variable {ID:G0 (G9×Obj)}
def Qc {σ:St}{H:Hp}{s:G3}{R:It->Hp->Prop}{E:G1->G3->Prop}{lo hi:P1}{t u v:Tok}{tk:G5}(I:Inv X ID σ H s)(h1: -(2^62)<=lo)(h2:lo<2^62)(h3: -(2^62)<=hi)(h4:hi<2^62)
 (q:R (Itr lo (hi-lo).toNat) H):R0 (R7 X.prog X.w) X.A (sU (.ref s.heap.objs.size)) (PIE X ID σ tg R) E {s with heap:=s.heap.push {cls:= .type "range",data:= .fields #[.int lo t,.int hi u,.int 1 v]},toks:=tk}:=by
 refine wpAny_pyIter_range (IsRange.new ..) (small_one h1 h2 h3 h4) ?_;have I1:Inv X ID σ H {s with heap:=s.heap.push {cls:= .type "range",data:= .fields #[.int lo t,.int hi u,.int 1 v]},toks:=tk}:=I.kept λb o e=>G7 _ e
 refine⟨(s.heap.push {cls:= .type "range",data:= .fields #[.int lo t,.int hi u,.int 1 v]}).objs.size,[(s.heap.push {cls:= .type "range",data:= .fields #[.int lo t,.int hi u,.int 1 v]}).objs.size],_,_,H,rfl,
  I1.kept (t':=tk) λb o e=>G7 _ e,Gn _ lo (hi-lo).toNat,?_,λb hb=> ?_,q⟩
 ·have e1:lo+((0:G5):P1)*1=lo:=by simp
  have e2:(((hi-lo).toNat:G5):P1)-((0:G5):P1)=Builtin.Range.rangeSize lo hi 1:=by rw [rangeSize_one];split<;>omega
  show y9 _ _ (lo+((0:G5):P1)*1) ((((hi-lo).toNat:G5):P1)-((0:G5):P1)) 1;rw [e1,e2];exact S4 _ rfl
 ·have e:b=(s.heap.push {cls:= .type "range",data:= .fields #[.int lo t,.int hi u,.int 1 v]}).objs.size:=by simpa using hb
  subst e;exact I1.fpOk (P3 _) (I1.hok.fresh (P3 _))
def OP (ta:TA):TI:=λσ H R=>ta σ H λvs H1=> ∃j:P1,vs= [.int j]/\ -(2^62)<=j/\j<2^62/\R (Itr 0 j.toNat) H1
def OQ (ta:TA):TI:=λσ H R=>ta σ H λvs H1=> ∃i j:P1,vs= [.int i,.int j]/\(-(2^62)<=i/\i<2^62/\ -(2^62)<=j/\j<2^62)/\R (Itr i (j-i).toNat) H1
def PP {a:M9}{ta:TA}{p pos:Pos}(hg:Gl X "range")(hm:X.mg "range" =none)(ha:PA X [a] ta)(hs:P8 [a] X.env= [(false,A2 a X.env)]:=by rfl):PI X tg (.Call (.Name "range" p) [a] [] pos) (OP ta):=by
 intro ID s σ H R I h;refine Call_ (ZG I hg hm IS (aJ (Ñ (ha pos ID s σ H _ I h) λus s1 ⟨vs,H1,I1,r1,q1⟩=> ?_) hs rfl));obtain⟨j,e,q1,q2,q⟩:=q1;subst e;cases r1 with
 |cons r rr=>
  cases rr;obtain⟨t,rfl⟩:=r;exact call_range_1 (Qc I1 (by omega) (by omega) q1 q2 (by simpa using q))
def PQ {a b:M9}{ta:TA}{p pos:Pos}(hg:Gl X "range")(hm:X.mg "range" =none)(ha:PA X [a,b] ta)(hs:P8 [a,b] X.env= [(false,A2 a X.env),(false,A2 b X.env)]:=by rfl)(hs2:P8 [b] X.env= [(false,A2 b X.env)]:=by rfl):
 PI X tg (.Call (.Name "range" p) [a,b] [] pos) (OQ ta):=by
 intro ID s σ H R I h;refine Call_ (ZG I hg hm IS (aJ (Ñ (ha pos ID s σ H _ I h) λus s1 ⟨vs,H1,I1,r1,q1⟩=> ?_) (by rw [hs,hs2]) (by rw [hs2];rfl)));obtain⟨i,j,e,⟨q1,q2,q3,q4⟩,q⟩:=q1;subst e;cases r1 with
 |cons r rr=>
  cases rr with
  |cons r' rr=>
   cases rr;obtain⟨t,rfl⟩:=r;obtain⟨t',rfl⟩:=r';exact call_range_2 (Qc I1 q1 q2 q3 q4 q)
def Hy (wi:TI)(g:TG)(tb:TS):TS:=λD σ H=>wi σ H λJ H1=> ∃W:G5->G5->St->Hp->Prop,(∃m,W 0 m σ H1)/\ ∀i m σ H,W i m σ H->
 (J.stop i H/\D.nx σ H)\/(J.go i H/\ ∃N:St->Hp->Prop,(∀IO H',N IO H'-> ∃m',m'<m/\W (i+1) m' IO H')/\ ∀x H',J.yld i H x H'->g x σ H' λá H2=>tb {D with nx:=N,ct:=N,bk:=D.nx} á H2)
def yY (fp:G0 G9)(h:C7):G0 (G9×Obj):=fp.filterMap λb=>(h.get? b).map λo=>(b,o)
def wf {fp:G0 G9}{h:C7}{b:G9}{o:Obj}(hb:b∈fp)(e:h.get? b=some o):(b,o)∈yY fp h:=aR.mpr ⟨b,hb,by rw [e];rfl⟩
def ZH {fp:G0 G9}{h:C7}{p:G9×Obj}(hp:p∈yY fp h):p.1∈fp/\h.get? p.1=some p.2:=by
 obtain⟨b,hb,e⟩:=aR.mp hp;cases q:h.get? b with
 |none=>rw [q] at e;cases e
 |some o=>
  rw [q] at e;have e':(b,o)=p:=E2 e;subst e';exact⟨hb,q⟩
def Inv.pinned {σ:St}{H:Hp}{s:G3}{fp:G0 G9}(I:Inv X ID σ H s)(hf: ∀b∈fp,Py X ID H b)(ho: ∀b∈fp,∃o,s.heap.get? b=some o/\ ∀v,o.data≠ .cell v):Inv X (ID++yY fp s.heap) σ H s:=
 I.pins_of λp hp=>(R4.mp hp).elim (λz=>I.pin p (S5 _ z)) λz=>by
  obtain⟨hb,e⟩:=ZH z;obtain⟨f0,f1,f2,_⟩:=hf p.1 hb;obtain⟨o,e',d⟩:=ho p.1 hb;rw [e] at e';cases e';exact⟨e,f0,f1,f2,d⟩
def Inv.unpinned {pl:G0 (G9×Obj)}{σ:St}{H:Hp}{s:G3}(I:Inv X (ID++pl) σ H s):Inv X ID σ H s:=I.pins_of λp hp=>I.pin p (S5 _ (O0 _ hp))
def OR {iter:M9}{body:G0 A6}{wi:TI}{g:TG}{tb:TS}{pos:Pos}(hp:oH (R7 X.prog X.w) X.A X.env X.xe)(hc:X.calm=true)(hi:PI X tg iter wi)(hg:PG X tg g)(hb:ļ X body tb)
 (hs: ∀x,C8 iter X.env x=pure x:=by intro _;rfl):PS X (.For tg iter body [] pos) (Hy wi g tb):=by
 intro ID s σ H D I h;refine wpAny_For (Ñ (hi ID s σ H _ I h) λv s1 h1=>Ñ h1 λitv s2 h2=> ?_) hs;obtain⟨it,fp,tn,J,H2,e,I2,T,Ĳ,f2,W,⟨m0,w0⟩,turn⟩:=h2;subst e
 -- X1w stays true of Ž Β objects through Ž loop
 have Ĥ: ∀ {H':Hp},(∀b∈fp,H' b=none)-> ∀b∈fp,Py X ID H' b:=λhn b hb=>⟨hn b hb,(f2 b hb).2⟩
 refine codeAny_forLoop_any (λn s'=> ∃i IO H',Inv X ID IO H' s'/\tn i s'.heap/\(∀b∈fp,H' b=none)/\W i n IO H') ?_ m0 ⟨0,σ,H2,I2,Ĳ,λb hb=>(f2 b hb).1,w0⟩;rintro n s3 ⟨i,ĉ,H3,I3,st3,fr3,w3⟩;rcases turn i n ĉ H3 w3 with ⟨stop,qn⟩|⟨go,N,hN,step⟩
 ·refine bJ hp (Ñ (T.done X rfl rfl rfl hc i ID s3 ĉ H3 X.xe I3 (Ĥ fr3) st3 stop) λr s4 ⟨hr,I4⟩=> ?_);subst hr;exact cR ⟨ĉ,H3,I4,qn⟩
 ·refine bJ hp (Ñ (T.item X rfl rfl rfl hc i ID s3 ĉ H3 X.xe I3 (Ĥ fr3) st3 go) λr s4 ⟨u,hr,h4⟩=> ?_);subst hr;refine bJ hp (Ñ h4 λ_ s5 ⟨x,H5,I5,r5,y5,st5,fr5⟩=> ?_);have I5':=I5.pinned (Ĥ fr5) (T.obj _ _ st5);refine bJ hp (Ñ (hg _ s5 ĉ H5 x u _ I5' r5 (step x H5 y5)) λ_ s6 ⟨σ6,H6,I6,q6⟩=> ?_);refine bJ hp (Ñ (hb _ s6 σ6 H6 _ I6 q6) λf s7 q7=> ?_);have G0H: ∀ {σ7:St} {H7:Hp},Inv X (ID++yY fp s5.heap) σ7 H7 s7->N σ7 H7-> ∃m,m<n/\ ∃i IO H',Inv X ID IO H' s7/\tn i s7.heap/\(∀b∈fp,H' b=none)/\W i m IO H':=λ{σ7 H7} I7 n7=>by
   obtain⟨m',hm,w7⟩:=hN σ7 H7 n7;refine⟨m',hm,i+1,σ7,H7,I7.unpinned,T.keep _ _ _ st5 λb hb o e=>(I7.pin (b,o) (S5 _ (S5 _ (wf hb e)))).1,λb hb=> ?_,w7⟩;obtain⟨o,e,d⟩:=T.obj _ _ st5 b hb;exact(I7.pin (b,o) (S5 _ (S5 _ (wf hb e)))).2.1
  cases f with
  |next=>obtain⟨σ7,H7,I7,n7⟩:=q7;exact G0H I7 n7
  |cont=>obtain⟨σ7,H7,I7,n7⟩:=q7;exact G0H I7 n7
  |brk=>obtain⟨σ7,H7,I7,q7⟩:=q7;exact⟨σ7,H7,I7.unpinned,q7⟩
  |ret v=>obtain⟨x7,σ7,H7,I7,r7,q7⟩:=q7;exact⟨x7,σ7,H7,I7.unpinned,r7,q7⟩
end
abbrev R2:=V->V->Hp->VK->Prop
def ü (X:Cx)(f:G1->G1->Sem G1)(r:R2):Prop:=
 ∀ (ID:G0 (G9×Obj)) (s:G3) (σ:St) (H:Hp) (x y:V) (v u:G1) (Q:VK),Inv X ID σ H s->RelV x v->RelV y u->r x y H Q->
  R0 (R7 X.prog X.w) X.A (f v u) (EP X ID σ Q) X.xe s
def UnR (X:Cx)(f:G1->Sem G1)(r:V->Hp->VK->Prop):Prop:=
 ∀ (ID:G0 (G9×Obj)) (s:G3) (σ:St) (H:Hp) (x:V) (v:G1) (Q:VK),Inv X ID σ H s->RelV x v->r x H Q->
  R0 (R7 X.prog X.w) X.A (f v) (EP X ID σ Q) X.xe s
def Ù (X:Cx)(f:G1)(r:G0 V->Hp->VK->Prop):Prop:=
 ∀ (ID:G0 (G9×Obj)) (s:G3) (σ:St) (H:Hp) (xs:G0 V) (us:G0 G1) (Q:VK),Inv X ID σ H s->Æ xs us->r xs H Q->
  R0 (R7 X.prog X.w) X.A (call f us) (EP X ID σ Q) X.xe s
def tOp (r:R2)(ta tb:TE):TE:=λσ H Q=>ta σ H λx H1=>tb σ H1 λy H2=>r x y H2 Q
def tUn (r:V->Hp->VK->Prop)(ta:TE):TE:=λσ H Q=>ta σ H λx H1=>r x H1 Q
def rI (C:P1->P1->Prop)(g:P1->P1->V):R2:=λx y H Q=> ∃i j,x= .int i/\y= .int j/\C i j/\Q (g i j) H
def rI0 (g:P1->P1->V):R2:=λx y H Q=> ∃i j,x= .int i/\y= .int j/\Q (g i j) H
def rU (g:P1->V):V->Hp->VK->Prop:=λx H Q=> ∃i,x= .int i/\Q (g i) H
section
variable {X:Cx}{a b c:M9}{ta tb tc:TE}{pos:Pos}
def SO (ha:PE X a ta)(hb:PE X b tb){ID:G0 (G9×Obj)}{s:G3}{σ:St}{H:Hp}{R:V->V->Hp->Prop}(I:Inv X ID σ H s)
 (h:ta σ H λx H1=>tb σ H1 λy H2=>R x y H2){Q:G1->G3->Prop}{f:G1->G1->Sem G1}
 (hf: ∀v u s2 x y H2,Inv X ID σ H2 s2->RelV x v->RelV y u->R x y H2->R0 (R7 X.prog X.w) X.A (f v u) Q X.xe s2):
 R0 (R7 X.prog X.w) X.A (A2 a X.env) (λv s₁=>R0 (R7 X.prog X.w) X.A (A2 b X.env) (λu s₂=>R0 (R7 X.prog X.w) X.A (f v u) Q X.xe s₂) X.xe s₁) X.xe s:=by
 refine Ñ (ha ID s σ H _ I h) λv s1 ⟨x,H1,I1,r1,q1⟩=> ?_
 refine Ñ (hb ID s1 σ H1 _ I1 q1) λu s2 ⟨y,H2,I2,r2,q2⟩=> ?_
 exact hf v u s2 x y H2 I2 r1 r2 q2
def SQ {op:pR}{r:R2}(ho:ü X (V6 op) r)(ha:PE X a ta)(hb:PE X b tb):PE X (.BinOp a op b pos) (tOp r ta tb):=by
 intro ID s σ H Q I h;exact wpAny_BinOp (SO ha hb I h λv u s2 x y H2 I2 rx ry q=>ho ID s2 σ H2 x y v u Q I2 rx ry q)
def SR {op:UnaryOp}{r:V->Hp->VK->Prop}(ho:UnR X (unaryOp op) r)(ha:PE X a ta):PE X (.UnaryOp op a pos) (tUn r ta):=by
 intro ID s σ H Q I h;exact UnaryOp_ (Ñ (ha ID s σ H _ I h) λv s1 ⟨x,H1,I1,r1,q1⟩=>ho ID s1 σ H1 x v Q I1 r1 q1)
def opI {f:G1->G1->Sem G1}{C:P1->P1->Prop}{g:P1->P1->P1}
 (rule: ∀ (i j:P1) (t u:Tok) (s:G3) (Q:G1->G3->Prop) (E:G1->G3->Prop),C i j->Q (.int (g i j) s.toks) {s with toks:=s.toks+1}->R0 (R7 X.prog X.w) X.A (f (.int i t) (.int j u)) Q E s):
 ü X f (rI C λi j=> .int (g i j)):=by
 intro ID s σ H x y v u Q I rx ry h;obtain⟨i,j,rfl,rfl,hc,q⟩:=h;obtain⟨t,rfl⟩:=rx;obtain⟨t',rfl⟩:=ry;exact rule i j t t' s _ _ hc ⟨.int (g i j),H,I.tok _,⟨_,rfl⟩,q⟩
def Hz {f:G1->G1->Sem G1}{g:P1->P1->P1}
 (rule: ∀ (i j:P1) (t u:Tok) (s:G3) (Q:G1->G3->Prop) (E:G1->G3->Prop),Q (.int (g i j) s.toks) {s with toks:=s.toks+1}->R0 (R7 X.prog X.w) X.A (f (.int i t) (.int j u)) Q E s):
 ü X f (rI0 λi j=> .int (g i j)):=by
 intro ID s σ H x y v u Q I rx ry h;obtain⟨i,j,rfl,rfl,q⟩:=h;obtain⟨t,rfl⟩:=rx;obtain⟨t',rfl⟩:=ry;exact rule i j t t' s _ _ ⟨.int (g i j),H,I.tok _,⟨_,rfl⟩,q⟩
def Sv {f:G1->G1->Sem G1}{g:P1->P1->M7}
 (rule: ∀ (i j:P1) (t u:Tok) (s:G3) (Q:G1->G3->Prop) (E:G1->G3->Prop),Q (.bool (g i j)) s->R0 (R7 X.prog X.w) X.A (f (.int i t) (.int j u)) Q E s):
 ü X f (rI0 λi j=> .bl (g i j)):=by
 intro ID s σ H x y v u Q I rx ry h;obtain⟨i,j,rfl,rfl,q⟩:=h;obtain⟨t,rfl⟩:=rx;obtain⟨t',rfl⟩:=ry;exact rule i j t t' s _ _ ⟨.bl (g i j),H,I,rfl,q⟩
def HA (i j:P1):Prop:=0<j/\j<1073741824
def HB (i j:P1):Prop:=0<=j/\j<=1000000/\i.natAbs<2^64
def X0u (i j:P1):Prop:=(-(2^64)<i/\i<2^64)\/(-(2^64)<j/\j<2^64)
def X0u.ok {i j:P1}(h:X0u i j):IntMulOk i j:=by
 rcases h with ⟨h1,h2⟩|⟨h1,h2⟩
 ·exact .of_left (uM h1 h2)
 ·exact .of_right (uM h1 h2)
def X0v:ü X (V6 .Add) (rI0 λi j=> .int (i+j)):=Hz λ_ _ _ _ _ _ _ q=>add_int q
def OS:ü X (V6 .Sub) (rI0 λi j=> .int (i-j)):=Hz λ_ _ _ _ _ _ _ q=>sub_int q
def X0w:ü X (V6 .Mult) (rI X0u λi j=> .int (i*j)):=opI λ_ _ _ _ _ _ _ hc q=>mul_int q hc.ok
def Cp:ü X (V6 .FloorDiv) (rI HA λi j=> .int (i / j)):=opI λi j _ _ _ _ _ hc q=>by
 have h1:(0:P1)<j:=hc.1;have h2:j<1073741824:=hc.2;exact floordiv_int (by omega) (by rw [i8 i (by omega)];exact q) (.inl (PyProof.noPylong_small (by omega)))
def OT:ü X (V6 .Mod) (rI (λ_ j=>0<j) λi j=> .int (i%j)):=opI λi j _ _ _ _ _ hc q=>by
 have h1:(0:P1)<j:=hc;exact mod_int' (by omega) (by rw [i9 i (by omega)];exact q)
def OU:ü X (V6 .Pow) (rI HB λi j=> .int (i^j.toNat)):=opI λ_ _ _ _ _ _ _ hc q=>pow_int_small hc.1 hc.2.1 hc.2.2 q
def unI {f:G1->Sem G1}{g:P1->P1}
 (rule: ∀ (i:P1) (t:Tok) (s:G3) (Q:G1->G3->Prop) (E:G1->G3->Prop),Q (.int (g i) s.toks) {s with toks:=s.toks+1}->R0 (R7 X.prog X.w) X.A (f (.int i t)) Q E s):
 UnR X f (rU λi=> .int (g i)):=by
 intro ID s σ H x v Q I rx h;obtain⟨i,rfl,q⟩:=h;obtain⟨t,rfl⟩:=rx;exact rule i t s _ _ ⟨.int (g i),H,I.tok _,⟨_,rfl⟩,q⟩
def OV:UnR X (unaryOp .USub) (rU λi=> .int (-i)):=unI λ_ _ _ _ _ q=>neg_int q
end
noncomputable def HE:V->V->M7
 | .non,.non=>true| .non,.int _=>true| .int _,.non=>true| .non,.bl _=>true| .bl _,.non=>true| .non,.str _=>true| .str _,.non=>true
 | .int _,.int _=>true| .bl _,.bl _=>true| .str _,.str _=>true| .byt _,.byt _=>true
 | .int _,.str _=>true| .str _,.int _=>true| .bl _,.str _=>true| .str _,.bl _=>true
 |_,_=>false
def rEq:R2:=λx y H Q=>HE x y=true/\Q (.bl (decide (x=y))) H
def rNe:R2:=λx y H Q=>HE x y=true/\Q (.bl (!decide (x=y))) H
def PR {i j:P1}:decide (V.int i=V.int j)=(i==j):=by
 rw [J9];simp
def Bz {i j:M7}:decide (V.bl i=V.bl j)=(i==j):=by
 rw [J9];simp
def PU {i j:Str}:decide (V.str i=V.str j)=(i==j):=by
 rw [J9];simp
def PV {i j:T6 UInt8}:decide (V.byt i=V.byt j)=(i.toList==j.toList):=by
 rw [J9];cases i;cases j;simp
section
variable {X:Cx}{a b c:M9}{ta tb tc:TE}{pos:Pos}
def jI {ID:G0 (G9×Obj)}{σ:St}{H:Hp}{s:G3}{Q:VK}{k k':M7}(I:Inv X ID σ H s)(q:Q (.bl k) H)(e:k=k'):EP X ID σ Q (.bool k') s:=by
 subst e;exact⟨.bl k,H,I,rfl,q⟩
def X03:ü X (F7 .Eq) rEq:=by
 intro ID s σ H x y v u Q I rx ry h;obtain⟨hs,q⟩:=h;cases x with
 |non=>
  cases rx;cases y with
  |non=>cases ry;exact PySem.EqNone.eq_none_none (jI I q (by simp))
  |bl j=>cases ry;exact PySem.EqNone.eq_none_bool (jI I q (by simp))
  |int j=>obtain⟨t',rfl⟩:=ry;exact PySem.EqNone.eq_none_int (jI I q (by simp))
  |str j=>obtain⟨t',rfl⟩:=ry;exact PySem.EqNone.eq_none_str (jI I q (by simp))
  |_=>exact absurd (show false=true from hs) R3
 |bl i=>
  cases rx;cases y with
  |non=>cases ry;exact PySem.EqNone.eq_bool_none (jI I q (by simp))
  |bl j=>cases ry;exact eq_bool (jI I q Bz)
  |str j=>obtain⟨t',rfl⟩:=ry;exact PySem.EqMixed.eq_bool_str (jI I q (by simp))
  |_=>exact absurd (show false=true from hs) R3
 |int i=>
  obtain⟨t,rfl⟩:=rx;cases y with
  |non=>cases ry;exact PySem.EqNone.eq_int_none (jI I q (by simp))
  |int j=>obtain⟨t',rfl⟩:=ry;exact eq_int (jI I q PR)
  |str j=>obtain⟨t',rfl⟩:=ry;exact PySem.EqMixed.eq_int_str (jI I q (by simp))
  |_=>exact absurd (show false=true from hs) R3
 |str i=>
  obtain⟨t,rfl⟩:=rx;cases y with
  |non=>cases ry;exact PySem.EqNone.eq_str_none (jI I q (by simp))
  |bl j=>cases ry;exact PySem.EqMixed.eq_str_bool (jI I q (by simp))
  |int j=>obtain⟨t',rfl⟩:=ry;exact PySem.EqMixed.eq_str_int (jI I q (by simp))
  |str j=>obtain⟨t',rfl⟩:=ry;exact eq_str (jI I q PU)
  |_=>exact absurd (show false=true from hs) R3
 |byt i=>
  obtain⟨t,rfl⟩:=rx;cases y with
  |byt j=>obtain⟨t',rfl⟩:=ry;exact G0u (jI I q PV)
  |_=>exact absurd (show false=true from hs) R3
 |_=>cases y<;>exact absurd (show false=true from hs) R3
def X04:ü X (F7 .NotEq) rNe:=by
 intro ID s σ H x y v u Q I rx ry h;obtain⟨hs,q⟩:=h;cases x with
 |non=>
  cases rx;cases y with
  |non=>cases ry;exact PySem.EqNone.ne_none_none (jI I q (by simp))
  |bl j=>cases ry;exact PySem.EqNone.ne_none_bool (jI I q (by simp))
  |int j=>obtain⟨t',rfl⟩:=ry;exact PySem.EqNone.ne_none_int (jI I q (by simp))
  |str j=>obtain⟨t',rfl⟩:=ry;exact PySem.EqNone.ne_none_str (jI I q (by simp))
  |_=>exact absurd (show false=true from hs) R3
 |bl i=>
  cases rx;cases y with
  |non=>cases ry;exact PySem.EqNone.ne_bool_none (jI I q (by simp))
  |bl j=>cases ry;exact ne_bool (jI I q (congrArg not Bz))
  |str j=>obtain⟨t',rfl⟩:=ry;exact PySem.EqMixed.ne_bool_str (jI I q (by simp))
  |_=>exact absurd (show false=true from hs) R3
 |int i=>
  obtain⟨t,rfl⟩:=rx;cases y with
  |non=>cases ry;exact PySem.EqNone.ne_int_none (jI I q (by simp))
  |int j=>obtain⟨t',rfl⟩:=ry;exact ne_int (jI I q (congrArg not PR))
  |str j=>obtain⟨t',rfl⟩:=ry;exact PySem.EqMixed.ne_int_str (jI I q (by simp))
  |_=>exact absurd (show false=true from hs) R3
 |str i=>
  obtain⟨t,rfl⟩:=rx;cases y with
  |non=>cases ry;exact PySem.EqNone.ne_str_none (jI I q (by simp))
  |bl j=>cases ry;exact PySem.EqMixed.ne_str_bool (jI I q (by simp))
  |int j=>obtain⟨t',rfl⟩:=ry;exact PySem.EqMixed.ne_str_int (jI I q (by simp))
  |str j=>obtain⟨t',rfl⟩:=ry;exact ne_str (jI I q (congrArg not PU))
  |_=>exact absurd (show false=true from hs) R3
 |byt i=>
  obtain⟨t,rfl⟩:=rx;cases y with
  |byt j=>obtain⟨t',rfl⟩:=ry;exact G0v (jI I q (congrArg not PV))
  |_=>exact absurd (show false=true from hs) R3
 |_=>cases y<;>exact absurd (show false=true from hs) R3
def SS:ü X (F7 .Lt) (rI0 λi j=> .bl (decide (i<j))):=Sv λ_ _ _ _ _ _ _ q=>lt_int q
def ST:ü X (F7 .LtE) (rI0 λi j=> .bl (decide (i<=j))):=Sv λ_ _ _ _ _ _ _ q=>le_int q
def SU:ü X (F7 .Gt) (rI0 λi j=> .bl (decide (j<i))):=Sv λ_ _ _ _ _ _ _ q=>gt_int q
def SV:ü X (F7 .GtE) (rI0 λi j=> .bl (decide (j<=i))):=Sv λ_ _ _ _ _ _ _ q=>ge_int q
variable {r:R2}
def ü.or {f:G1->G1->Sem G1}{r':R2}(h:ü X f r)(h':ü X f r'):ü X f (λx y H Q=>r x y H Q\/r' x y H Q):=by
 intro ID s σ H x y v u Q I rx ry q;rcases q with q|q
 ·exact h ID s σ H x y v u Q I rx ry q
 ·exact h' ID s σ H x y v u Q I rx ry q
def PX (b:M9){op:iQ}(h:op≠ .In:=by decide)(h2:op≠ .NotIn:=by decide):U3 op b=false:=by
 have e1:(op==CmpOp.In)=false:=by cases op<;>first|rfl|exact absurd rfl h
 have e2:(op==CmpOp.NotIn)=false:=by cases op<;>first|rfl|exact absurd rfl h2
 cases b<;>simp [U3,e1,e2]
def Cq {op:iQ}(ho:ü X (F7 op) r)(ha:PE X a ta)(hb:PE X b tb)(hm:U3 op b=false):PE X (.Compare a [op] [b] pos) (tOp r ta tb):=by
 intro ID s σ H Q I h;exact sV (SO ha hb I h λv u s2 x y H2 I2 rx ry q=>ho ID s2 σ H2 x y v u Q I2 rx ry q) hm
def Cr (t:TE):TT:=λσ H Q=>t σ H λx H'=> ∃k,x= .bl k/\Q k H'
def Cs {op:iQ}(ho:ü X (F7 op) r)(ha:PE X a ta)(hb:PE X b tb)(hm:U3 op b=false):PT X (.Compare a [op] [b] pos) (Cr (tOp r ta tb)):=by
 intro ID s σ H Q I h;refine wpAny_isTrue_Compare1 (Ñ (ha ID s σ H _ I h) λv s1 ⟨x,H1,I1,r1,q1⟩=>Ñ (hb ID s1 σ H1 _ I1 q1) λu s2 ⟨y,H2,I2,r2,q2⟩=>
  Ñ (ho ID s2 σ H2 x y v u _ I2 r1 r2 q2) λc s3 ⟨z,H3,I3,r3,k,e,q3⟩=> ?_) hm
 subst e;cases r3;exact E6 ⟨H3,I3,q3⟩
def PY (r r':R2)(ta tb tc:TE):TE:=λσ H Q=>ta σ H λx H1=>tb σ H1 λy H2=>r x y H2 λz H3=> ∃k,z= .bl k/\
 (if k=true then tc σ H3 λw' H4=>r' y w' H4 Q else Q (.bl false) H3)
def MM {op ĥ:iQ}{r':R2}(ho:ü X (F7 op) r)(ho':ü X (F7 ĥ) r')(ha:PE X a ta)(hb:PE X b tb)(hc:PE X c tc)
 (hm:lW [op,ĥ] [b,c]=false:=by with_unfolding_all rfl):PE X (.Compare a [op,ĥ] [b,c] pos) (PY r r' ta tb tc):=by
 intro ID s σ H Q I h;refine Compare_chain (Ñ (ha ID s σ H _ I h) λv s1 ⟨x,H1,I1,r1,q1⟩=>chain_link (Ñ (hb ID s1 σ H1 _ I1 q1) λu s2 ⟨y,H2,I2,r2,q2⟩=>
  Ñ (ho ID s2 σ H2 x y v u _ I2 r1 r2 q2) λd s3 ⟨z,H3,I3,r3,k,e,q3⟩=> ?_)) hm
 subst e;cases r3;refine E6 ?_;cases k with
 |false=>exact ite_ff ⟨.bl false,H3,I3,rfl,q3⟩
 |true=>exact ite_tt (chain_last (Ñ (hc ID s3 σ H3 _ I3 q3) λw' s4 ⟨z',H4,I4,r4,q4⟩=>ho' ID s4 σ H4 y z' u w' Q I4 r2 r4 q4))
def MN {op ĥ:iQ}{r':R2}(ho:ü X (F7 op) r)(ho':ü X (F7 ĥ) r')(ha:PE X a ta)(hb:PE X b tb)(hc:PE X c tc)
 (hm:lW [op,ĥ] [b,c]=false:=by with_unfolding_all rfl):PT X (.Compare a [op,ĥ] [b,c] pos) (Cr (PY r r' ta tb tc)):=by
 intro ID s σ H Q I h;refine isTrue_chain (Ñ (ha ID s σ H _ I h) λv s1 ⟨x,H1,I1,r1,q1⟩=>test_link (Ñ (hb ID s1 σ H1 _ I1 q1) λu s2 ⟨y,H2,I2,r2,q2⟩=>
  Ñ (ho ID s2 σ H2 x y v u _ I2 r1 r2 q2) λd s3 ⟨z,H3,I3,r3,k,e,q3⟩=> ?_)) hm
 subst e;cases r3;refine E6 ?_;cases k with
 |false=>
  obtain⟨k',e',q'⟩:=q3;cases e';exact ite_ff ⟨H3,I3,q'⟩
 |true=>
  refine ite_tt (test_last (Ñ (hc ID s3 σ H3 _ I3 q3) λw' s4 ⟨z',H4,I4,r4,q4⟩=>Ñ (ho' ID s4 σ H4 y z' u w' _ I4 r2 r4 q4) λd' s5 ⟨z2,H5,I5,r5,k2,e2,q5⟩=> ?_));subst e2;cases r5;exact E6 ⟨H5,I5,q5⟩
def VH:(sizeLine:G5)<2^63:=by rw [nN];decide
def vj {x:V}{us:G0 G1}(r:Æ [x] us): ∃u,us= [u]/\RelV x u:=by
 cases r with
 |cons r1 r2=>cases r2;exact⟨_,rfl,r1⟩
def PZ {x y:V}{us:G0 G1}(r:Æ [x,y] us): ∃u w',us= [u,w']/\RelV x u/\RelV y w':=by
 cases r with
 |cons r1 r2=>
  cases r2 with
  |cons r3 r4=>cases r4;exact⟨_,_,rfl,r1,r3⟩
def Da (hc:X.calm=true):Ù X (.builtin "max") (λxs H Q=> ∃i j,xs= [.int i,.int j]/\Q (.int (if j>i then j else i)) H):=by
 intro ID s σ H xs us Q I r h;obtain⟨i,j,rfl,q⟩:=h;obtain⟨u,w',rfl,⟨t,rfl⟩,⟨t',rfl⟩⟩:=PZ r;refine max_two_ints (I.ok.hd hc) λh' tk k=>⟨_,H,I.kept k,?_,q⟩
 by_cases hj:j>i
 ·rw [R8 hj,R8 hj];exact⟨_,rfl⟩
 ·rw [R9 hj,R9 hj];exact⟨_,rfl⟩
def δ:Ù X (.type "int") (λxs H Q=>(∃i,xs= [.int i]/\Q (.int i) H)\/ ∃k,xs= [.bl k]/\Q (.int (if k then 1 else 0)) H):=by
 intro ID s σ H xs us Q I r h;rcases h with ⟨i,rfl,q⟩|⟨k,rfl,q⟩
 ·obtain⟨u,rfl,t,rfl⟩:=vj r;exact call_int_int ⟨.int i,H,I,⟨_,rfl⟩,q⟩
 ·obtain⟨u,rfl,r1⟩:=vj r;cases r1;exact call_int_bool ⟨.int (if k then 1 else 0),H,I.tok _,⟨_,rfl⟩,q⟩
end
structure X05 (h:C7)(x dx C:G9)(mA:Str->P5 G1):Prop where
 obj:h.get? x=some (mZ C dx)
 ns:h.Ns1 dx mA
 ne:dx≠x
def Db {dx:G9}{mA:Str->P5 G1}(n:h.Ns1 dx mA): ∃od,h.get? dx=some od/\ ∀name,nO name od=some (mA name):=by
 obtain⟨o,es,ep,ho,hd,hk,_,hm⟩:=n;refine⟨o,ho,λname=> ?_⟩;have e:=hm name;unfold nsFind findBy at e;rw [<-Array.find?_toList] at e;unfold nO;rw [hd];dsimp only;split
 ·rename_i y q;rw [q] at e;exact congrArg some e
 ·rename_i q;rw [q] at e;have a:es.toList.any (·.refKey)=false:=by
   rw [List.any_eq_false];intro y hy;obtain⟨z,t,X1G⟩:=hk y (nP.mp hy);simp [DictEntry.refKey,X1G]
  have a': ¬es.toList.any (·.refKey)=true:=by rw [a];exact R3
  rw [R9 a'];exact congrArg some e
def X05.look {x dx C:G9}{mA:Str->P5 G1}(I:X05 h x dx C mA): ∃od,G0I h x (mZ C dx) C (some od)/\ ∀name,nO name od=some (mA name):=
 let ⟨od,ho,hl⟩:=Db I.ns
 ⟨od,⟨I.obj,rfl,rfl,ho⟩,hl⟩
def Ŋ.some_of {v:V}{o:P5 G1}(r:Ŋ (some v) o): ∃u,o=some u/\RelV v u:=by
 cases o with
 |none=>exact(show False from r).elim
 |some u=>exact⟨u,rfl,r⟩
section
variable {P:S8}{w:B0}{H H':Hp}{h h':C7}{a C dx:G9}{fs fs':G0 (Str×V)}
def Ct (hok:ù P w H h)(e:H a=some (.ins C dx fs)): ∃mA,X05 h a dx C mA/\(∀f,Ŋ (fs.lookup f) (mA f))/\xG mA (fs.map (·.1))/\fs.length<=1000/\H dx=some (.own a):=by
 obtain⟨d,z,ne,ob,mA,n,r,q⟩:=(show Í P w H h a (.ins C dx fs) from hok a _ e);exact⟨mA,⟨ob,n,ne⟩,r,q,z,d⟩
end
structure Cls (K:G6)(C:G9):Prop where
 pg:qW K C xA=true
 hd:G0n K C=true
 po:G0o K C=true
 sa:sW K (.ref C) "__setattr__" =some (some (.builtin "object.__setattr__"))
def Cls.get {C:G9}(c:Cls K C)(f:Str):qW K C f=true:=c.pg
section
variable {X:Cx}{ID:G0 (G9×Obj)}{σ:St}{H:Hp}{s:G3}{A:T8}{E:G1->G3->Prop}{Q:G1->G3->Prop}{c:G1}{b:M7}
inductive ď (K:G6)(H:Hp):V->G1->Prop where
 |non:ď K H .non (.type "NoneType")
 |bl (x:M7):ď K H (.bl x) (.type "bool")
 |int (i:P1):ď K H (.int i) (.type "int")
 |str (x:Str):ď K H (.str x) (.type "str")
 |flt (x:UInt64):ď K H (.flt x) (.type "float")
 |lst {a:G9} {xs:G0 V} (e:H a=some (.lst xs)):ď K H (.ref a) (.type "list")
 |frz {a:G9} {o:Obj} {xs:G0 V} (e:H a=some (.frz o (.lst xs))):ď K H (.ref a) (.type "list")
 |tup {a:G9} {xs:G0 V} (e:H a=some (.tup xs)):ď K H (.ref a) (.type "tuple")
 |dK {a:G9} {Ã:G0 (ß×V)} (e:H a=some (.dK Ã)):ď K H (.ref a) (.type "dict")
 |dT {a:G9} {Ã:G0 (G0 ß×V)} (e:H a=some (.dT Ã)):ď K H (.ref a) (.type "dict")
 |ins {a C dx:G9} {fs:G0 (Str×V)} (e:H a=some (.ins C dx fs)) (cl:Cls K C) (ha:sW K (.ref C) "__class__" =some (some (.builtin "object.__class__")))
  (hn:G0p K (.builtin "object.__class__") "__get__" =some (some (.builtin "getset_descriptor.__get__"))) (htk:G0E K (.builtin "object.__class__")=some true)
  (hm:G0W K C (.type "object")=some true):ď K H (.ref a) (.ref C)
def Dc {x:V}{u t:G1}(I:Inv X ID σ H s)(rx:RelV x u)(ty:ď X.K H x t)(e:j0 X.K t c=some b)(h: ∀tk,Q (.bool b) {s with toks:=tk}):
 R0 (R7 X.prog X.w) A (call (.builtin "isinstance") [u,c]) Q E s:=by
 cases ty with
 |non=>cases (show u=fH from rx);exact U4 G0q I.kIn aS e (λz=>nomatch z) h
 |bl y=>cases (show u=mJ y from rx);exact U4 G0r I.kIn aS e (λz=>nomatch z) h
 |int i=>obtain⟨t,q⟩:=(show ∃t,u=fN i t from rx);cases q;exact U4 G0w I.kIn aS e (λz=>nomatch z) h
 |str y=>obtain⟨t,q⟩:=(show ∃t,u=oG y t from rx);cases q;exact U4 G0x I.kIn aS e (λz=>nomatch z) h
 |flt y=>obtain⟨t,q⟩:=(show ∃t,u=x8 y t from rx);cases q;exact U4 IU I.kIn aS e (λz=>nomatch z) h
 | @lst a xs ea=>
  cases (show u=Z7 a from rx);obtain⟨_,_,n,_,h1⟩:=(show Í X.prog X.w H s.heap a (.lst xs) from I.hok a _ ea);exact U4 pT I.kIn ⟨_,h1,rfl⟩ e (λz=>nomatch z) h
 | @frz a ob xs ea=>
  cases (show u=Z7 a from rx);obtain⟨_,_,_,n,_,h1⟩:=(show Í X.prog X.w H s.heap a (.frz ob (.lst xs)) from I.hok a _ ea);exact U4 pT I.kIn ⟨_,h1,rfl⟩ e (λz=>nomatch z) h
 | @tup a xs ea=>
  cases (show u=Z7 a from rx);obtain⟨_,_,_,p⟩:=(show Í X.prog X.w H s.heap a (.tup xs) from I.hok a _ ea);obtain⟨o,h1,h2,_⟩:=p;exact U4 IV I.kIn ⟨o,h1,h2⟩ e (λz=>nomatch z) h
 | @dK a Ã ea=>
  cases (show u=Z7 a from rx);obtain⟨_,_,vs,_,p⟩:=(show Í X.prog X.w H s.heap a (.dK Ã) from I.hok a _ ea);obtain⟨o,es,ep,h1,h2,_⟩:=p;exact U4 pU I.kIn ⟨o,h1,h2.1⟩ e (λz=>nomatch z) h
 | @dT a Ã ea=>
  cases (show u=Z7 a from rx);obtain⟨_,_,xs,_,o,es,ep,h1,h2,_⟩:=(show Í X.prog X.w H s.heap a (.dT Ã) from I.hok a _ ea);exact U4 pU I.kIn ⟨o,h1,h2.1⟩ e (λz=>nomatch z) h
 | @ins a C dx fs ea cl ha hn htk hm=>
  cases (show u=Z7 a from rx);obtain⟨mA,O,_⟩:=Ct I.hok ea;obtain⟨od,J,_⟩:=O.look;exact U4 (G0y (cl.get _) cl.hd ha hn htk hm) I.kIn J e (λz=>nomatch z) h
end
structure Î (k:G5)(A:T8):Prop where
 hd:A.handled=none
 dp:A.depth+3*k+5<recursionLimit
 un:A.units+16*k+200<cLine
 gd:A.guards=some []
variable {k:G5}
def Î.mono {j:G5}(r:Î k A)(h:j<=k):Î j A:=⟨r.hd,by have:=r.dp;omega,by have:=r.un;omega,r.gd⟩
def Î.deeper (r:Î (k+1) A)(env:Env):Î k (A.deeper env):=
 ⟨r.hd,by have:=r.dp;show A.depth+1+3*k+5<_;omega,by have:=r.un;show A.units+3+16*k+200<_;omega,r.gd⟩
def Î.depth (r:Î k A):A.depth<recursionLimit:=by have:=r.dp;omega
def Î.units (r:Î k A):A.units+64<cLine:=by have:=r.un;omega
def SW:TA:=λ_ H Q=>Q [] H
def MO (ta:TE)(tr:TA):TA:=λσ H Q=>ta σ H λx H1=>tr σ H1 λxs H2=>Q (x::xs) H2
section
variable {X:Cx}{e:M9}{es:G0 M9}{te:TE}{t:TA}{pos:Pos}
def ð:PA X [] SW:=λ_ _ _ _ H Q I h=>fZ ⟨[],H,I,.nil,h⟩
def zA (ha:PE X e te)(hr:PA X es t)(hs:P8 (e::es) X.env=(false,A2 e X.env)::P8 es X.env:=by rfl):PA X (e::es) (MO te t):=by
 intro pos ID s σ H Q I h;rw [hs];show R0 _ _ (xH ((false,A2 e X.env)::E1 pos (P8 es X.env))) _ _ s;refine aT (Ñ (ha ID s σ H _ I h) λu s1 ⟨x,H1,I1,r1,q1⟩=> ?_);exact Ñ (hr pos ID s1 σ H1 _ I1 q1) λus s2 ⟨xs,H2,I2,r2,q2⟩=>⟨x::xs,H2,I2,.cons r1 r2,q2⟩
def HF (t:TA):TE:=λσ H Q=>t σ H λxs H1=>xs.length<=sizeLine/\ ∀p,H1 p=none->Q (.ref p) (upd H1 p (.tup xs))
def HG (t:TA):TE:=λσ H Q=>t σ H λxs H1=>xs.length<=sizeLine/\ ∀p,H1 p=none->Q (.ref p) (upd H1 p (.lst xs))
def OW {x1}(h:PA X es t):PE X (.Tuple es x1 pos) (HF t):=by
 intro ID s σ H Q I hq;refine wpAny_Tuple_spliced (Ñ (h pos ID s σ H _ I hq) λus s1 ⟨xs,H1,I1,r,z,q⟩=>⟨by rw [<-r.length];exact z,?_⟩);have hf:H1 s1.heap.objs.size=none:=I1.hok.fresh (P3 _);refine⟨.ref s1.heap.objs.size,upd H1 s1.heap.objs.size (.tup xs),I1.laid (t':=s1.toks) (λb u e=>G7 _ e) (P3 _) ?_,rfl,q _ hf⟩;exact⟨z,us,r,é.new _ _⟩
def OX (h:PA X es t):PE X (.List es pos) (HG t):=by
 intro ID s σ H Q I hq;refine wpAny_List_spliced (Ñ (h pos ID s σ H _ I hq) λus s1 ⟨xs,H1,I1,r,z,q⟩=>⟨by rw [<-r.length];exact z,?_⟩);have hf:H1 s1.heap.objs.size=none:=I1.hok.fresh (P3 _);refine⟨.ref s1.heap.objs.size,upd H1 s1.heap.objs.size (.lst xs),I1.laid (t':=s1.toks) (λb u e=>G7 _ e) (P3 _) ?_,rfl,q _ hf⟩;exact⟨z,us,0,r,S4 _ rfl⟩
end
abbrev Sp:=G0 V->Hp->VK->XK->Prop
abbrev CXT:=G0 Env->Hp->G3->XK->G1->G3->Prop
structure Ō (P:S8)(w:B0)(K:G6)(mg:Str->P5 G1)(base:C7)(A:T8)(outer:G0 Env)(s:G3)(H:Hp):Prop where
 frames:A.frames=some outer
 mod:Mod K mg base
 bs: ∀b o,base.get? b=some o->s.heap.get? b=some o/\H b=none
 bsz:base.objs.size<=s.heap.objs.size
 funs:s.heap.FunFrames base outer
 frf: ∀b∈Ĉ outer,H b=none
 hok:ù P w H s.heap
 bare:iU s.gens
def CE (outer:G0 Env)(P:S8)(w:B0)(H:Hp)(s:G3)(Q:VK)(u:G1)(s':G3):Prop:=
 ∃v H',s'.os=s.os/\iU s'.gens/\Un (Ĉ outer) [] H H' s.heap s'.heap/\ù P w H' s'.heap/\RelV v u/\Q v H'
def CR (CX:CXT)(outer:G0 Env)(P:S8)(w:B0)(H:Hp)(s:G3)(Q:VK)(E:XK)(r:nQ)(s':G3):Prop:=
 match r with
 | .ok (.ret u)=>CE outer P w H s Q u s'
 | .ok _=>False
 | .error e=>CX outer H s E e s'
structure È (P:S8)(w:B0)(K:G6)(mg:Str->P5 G1)(base:C7)(CX:CXT)(k:G5)(f:G9)(fd:M6)(ps:G0 Str)(sp:Sp):Prop where
 len: ∀vs H Q E,sp vs H Q E->vs.length=ps.length
 run: ∀ (A:T8) (outer:G0 Env) (s:G3) (H:Hp) (args:Args) (us:G0 G1) (vs:G0 V) (Q:VK) (E:XK),Î k A->Ō P w K mg base A outer s H->oI s fd args (ps.zip us)->Æ vs us->sp vs H Q E->
  aK (R7 P w) A (.call (.ref f) args) (CR CX outer P w H s Q E) s
section
variable {X:Cx}{ID:G0 (G9×Obj)}{σ:St}{H:Hp}{s s':G3}
def Inv.env0 (I:Inv X ID σ H s):Ō X.prog X.w X.K X.mg X.base X.A X.stack s H:=
 ⟨I.ok.frames,I.ok.mod,I.bs,R6 I.ok.bsz I.sz,I.stack,I.stkFree,I.hok,I.bare⟩
def Inv.after {Q:VK}{u:G1}(I:Inv X ID σ H s)(h:CE X.stack X.prog X.w H s Q u s'):EP X ID σ Q u s':=by
 obtain⟨v,H',os,bare,un,hok,r,q⟩:=h;obtain⟨hh,g,d,t,os'⟩:=s';obtain rfl:os'=s.os:=os;exact⟨v,H',I.call (h':=hh) (g':=g) (d':=d) (t':=t) (ch:= []) un hok bare (λb z=>absurd z (by simp)),r,q⟩
end
def Cu (sp:Sp)(dvs:G0 V)(E:XK)(t:TA):TE:=λσ H Q=>t σ H λvs H1=>sp (vs++dvs) H1 Q E
def Binds (K:G6)(fd:M6)(ps:G0 Str)(ds:G0 G1):Prop:=
 ∀ (s:G3) (us:G0 G1),K.In s.heap->(us++ds).length=ps.length->oI s fd ⟨us,[]⟩ (ps.zip (us++ds))
def Binds.all {fd:M6}{ps:G0 Str}(h: ∀us:G0 G1,us.length=ps.length->sZ fd ⟨us,[]⟩=pure (ps.zip us)):Binds K fd ps []:=λs us _ hl=>by
 rw [O9] at hl ⊢;exact .of_eq (h us hl)
def ZI (CX:CXT)(X:Cx)(E:XK):Prop:= ∀ (ID:G0 (G9×Obj)) (σ:St) (H:Hp) (s:G3) (e:G1) (s':G3),Inv X ID σ H s->CX X.stack H s E e s'->X.xe e s'
section
variable {X:Cx}{CX:CXT}{k:G5}{f C:G9}{fd:M6}{ps:G0 Str}{sp:Sp}{dvs:G0 V}{ds:G0 G1}{E:XK}{x m:Str}{p pos apos:Pos}{e o:M9}{es:G0 M9}{ta:TE}{t:TA}
def OY {ID:G0 (G9×Obj)}{σ:St}{H:Hp}{s:G3}{Q:VK}{us:G0 G1}{vs:G0 V}(F:È X.prog X.w X.K X.mg X.base CX k f fd ps sp)(hr:Î k X.A)(hb:Binds X.K fd ps ds)(hd:Æ dvs ds)(hx:ZI CX X E)
 (I:Inv X ID σ H s)(r:Æ vs us)(h:sp (vs++dvs) H Q E):R0 (R7 X.prog X.w) X.A (call (.ref f) us) (EP X ID σ Q) X.xe s:=by
 have r2:Æ (vs++dvs) (us++ds):=r.append hd;have hl:(us++ds).length=ps.length:=by rw [<-r2.length];exact F.len _ _ _ _ h
 refine bY (cJ (F.run X.A X.stack s H ⟨us,[]⟩ (us++ds) (vs++dvs) Q E hr I.env0 (hb s us I.kIn hl) r2 h) λr s' hq=> ?_);cases r with
 |error e=>exact hx ID σ H s e s' I hq
 |ok fl=>
  cases fl with
  |ret u=>exact I.after hq
  |next=>exact False.elim hq
  |brk=>exact False.elim hq
  |cont=>exact False.elim hq
def De (F:È X.prog X.w X.K X.mg X.base CX k f fd ps sp)(hr:Î k X.A)(hg:Gl X x)(hm:X.mg x=some (.ref f))(hk:K8 X.K (.ref f)=true)(hb:Binds X.K fd ps ds)(hd:Æ dvs ds)(hx:ZI CX X E)
 (ha:PA X (e::es) t)(hdb:(x==("__debug__" :Str))=false:=by decide)(he:P8 (e::es) X.env=(false,A2 e X.env)::P8 es X.env:=by rfl)(hpl:(E1 pos (P8 es X.env)).any (·.1)=false:=by rfl):
 PE X (.Call (.Name x p) (e::es) [] pos) (Cu sp dvs E t):=by
 intro ID s σ H Q I h;refine X7 (Jx I hg hm ?_ hdb);refine j5 (h₀:=X.base) I.ok.mod.kin hk (Ñ (ha pos ID s σ H _ I h) λus s1 ⟨vs,H1,I1,r,q⟩=>⟨I1.kIn,?_⟩) he hpl;exact OY F hr hb hd hx I1 r q
end
structure Á (N P:G0 Str)(sc:K1):Prop where
 kind:sc.kind= .function
 co:sc.isCoroutine=false
 gen:sc.isGenerator=false
 nd:N.Nodup
 pre:N.take P.length=P
 par: ∀x∈P,sc.names.lookup x=some .local\/sc.names.lookup x=some .cell
 nofree: ∀y∈sc.names,y.2≠ .free
variable {kindOf:Str->P5 NameKind}{x:Str}
theorem VI: ∀ {binds:G0 (Str×G1)} {m:Str->P5 G1},(∀v,(x,v) ∉ binds)->rO kindOf binds m x=m x
 | [],_,_=>rfl
 |(n,v)::r,m,h=>by
  unfold rO;rw [VI λw hw=>h w (T3 _ hw)];split
  ·have:x≠n:=by rintro rfl;exact h v R5
   simp [this]
  ·rfl
theorem VJ: ∀ {binds:G0 (Str×G1)} {m:Str->P5 G1},(∀v,(x,v) ∉ binds)->rP kindOf binds m x=m x
 | [],_,_=>rfl
 |(n,v)::r,m,h=>by
  unfold rP;rw [VJ λw hw=>h w (T3 _ hw)];split
  ·rfl
  ·have:x≠n:=by rintro rfl;exact h v R5
   simp [this]
theorem ZJ {v:G1}: ∀ {P:G0 Str} {vs:G0 G1} {i:G5} {m:Str->P5 G1},P.Nodup->P[i]? =some x->vs[i]? =some v->kindOf x=some .local->
 rO kindOf (P.zip vs) m x=some v
 | [],_,_,_,_,h,_,_=>by simp at h
 |_::_,[],_,_,_,_,h,_=>by simp at h
 |p::P,w::vs,0,m,nd,h1,h2,hk=>by
  simp at h1 h2;subst h1;subst h2;show rO kindOf ((p,w)::P.zip vs) m p=_;unfold rO;rw [VI λv hv=>(K0.mp nd).1 (fE hv).1,R8 hk];simp
 |p::P,w::vs,i+1,m,nd,h1,h2,hk=>by
  show rO kindOf ((p,w)::P.zip vs) m x=_;unfold rO;exact ZJ (i:=i) (K0.mp nd).2 (by simpa using h1) (by simpa using h2) hk
theorem ZK {v:G1}: ∀ {P:G0 Str} {vs:G0 G1} {i:G5} {m:Str->P5 G1},P.Nodup->P[i]? =some x->vs[i]? =some v->kindOf x≠some .local->
 rP kindOf (P.zip vs) m x=some v
 | [],_,_,_,_,h,_,_=>by simp at h
 |_::_,[],_,_,_,_,h,_=>by simp at h
 |p::P,w::vs,0,m,nd,h1,h2,hk=>by
  simp at h1 h2;subst h1;subst h2;show rP kindOf ((p,w)::P.zip vs) m p=_;unfold rP;rw [VJ λv hv=>(K0.mp nd).1 (fE hv).1,R9 hk];simp
 |p::P,w::vs,i+1,m,nd,h1,h2,hk=>by
  show rP kindOf ((p,w)::P.zip vs) m x=_;unfold rP;exact ZK (i:=i) (K0.mp nd).2 (by simpa using h1) (by simpa using h2) hk
noncomputable def start (N:G0 Str)(vs:G0 V):St:=vs.map some++B2 (N.length-vs.length) none
noncomputable def WG (CX:CXT)(P:S8)(w:B0)(K:G6)(mg:Str->P5 G1)(base:C7)(N:G0 Str)(qual:Str)(scope:K1)(f:G9)(cd:G1)(A:T8)(outer:G0 Env)(s:G3)(H:Hp)(E:XK):Cx where
 prog:=P
 w:=w
 K:=K
 mg:=mg
 base:=base
 A:=A.deeper (Q3 qual scope s.heap.objs.size f cd)
 N:=N
 s₀:=s
 H₀:=H
 env:=Q3 qual scope s.heap.objs.size f cd
 outer:=outer
 stack:=Q3 qual scope s.heap.objs.size f cd::outer
 ex:= []
 calm:=true
 fn:=λ_=>true
 pn:= []
 xe:=λe s'=>R0 (R7 P w) (A.deeper (Q3 qual scope s.heap.objs.size f cd)) (pV (Q3 qual scope s.heap.objs.size f cd) e) (λ_ Γ=>CX outer H s E e Γ) (λe' Γ=>CX outer H s E e' Γ) s'
def yJ {sc:K1}{n:G5}(h:sc.names.lookup x=some .cell): ∃c,(U7 n sc.names []).lookup x=some c:=by
 have q:=cK sc.names n [] (.inl h);exact J4.mp q
def VL {CX:CXT}{mg:Str->P5 G1}{base:C7}{N ps:G0 Str}{qual:Str}{scope:K1}{f:G9}{cd:G1}{outer:G0 Env}{s1:G3}{E:XK}{us:G0 G1}{vs:G0 V}
 (S:Á N ps scope)(hd:A.handled=none)(e0:Ō P w K mg base A outer s H)(hl:vs.length=ps.length)(r:Æ vs us)
 (x:InCallC s s.heap.objs.size (rO (Q3 qual scope s.heap.objs.size f cd).kindOf (ps.zip us) λ_=>none) (U7 (s.heap.objs.size+1) scope.names []) (rP (Q3 qual scope s.heap.objs.size f cd).kindOf (ps.zip us) λ_=>none) s1):
 Inv (WG CX P w K mg base N qual scope f cd A outer s H E) [] (start N vs) H s1:=by
 have hpl:ps.length<=N.length:=by have:=congrArg O1 S.pre;rw [N0] at this;omega
 obtain⟨h1,tk,rfl,hk⟩:=x.done;have ε: ∀b:G9,b ∉ (WG CX P w K mg base N qual scope f cd A outer s H E).ex:=λb z=>absurd (show b∈([]:G0 G9) from z) (by simp)
 refine⟨⟨e0.mod,S.kind,rfl,rfl,P3 _,λy z c h1 h2=> ?_,λy hy=> ?_,λy c _ h=> ?_,λ_=>hd,iC e0.frames,.inr ⟨rfl,rfl⟩,λb z=>absurd z (ε b),e0.bs,e0.bsz,λb _ _=>ε b,λb z=>absurd z (ε b),e0.funs,e0.frf⟩,
  rfl,e0.bare,Un.kept hk,⟨_,x.toInCall.ns,λi y v h1 h2 h3=> ?_⟩,λy c h=>⟨_,x.cell y c h⟩,e0.hok.fresh (P3 _),λy c h=> ?_,λp hp=>absurd (show p∈([]:G0 (G9×Obj)) from hp) (by simp),e0.hok.kept hk,?_⟩
 ·exact pW x.apart (J7 h1) (J7 h2)
 ·have hy:scope.names.lookup y=some .cell\/scope.names.lookup y=some .free:=hy;rcases hy with hy|hy
  ·exact yJ hy
  ·exact absurd rfl (S.nofree _ (J7 hy))
 ·exact S6 (x.above y c (J7 h))
 ·have hi:i<vs.length:=by
   unfold start at h2
   by_cases hi:i<vs.length
   ·exact hi
   ·rw [N5 (by simpa using hi)] at h2;rw [fO] at h2;split at h2<;>cases h2
  have ha:vs[i]? =some v:=by
   unfold start at h2;rw [B7 (by simpa using hi),P7] at h2;cases e:vs[i]? with
   |none=>rw [e] at h2;cases h2
   |some a=>rw [e] at h2;cases h2;rfl
  obtain⟨u,hu,rv⟩:=r.get ha;have hp:ps[i]? =some y:=by
   rw [<-S.pre,Y4 (by omega)];exact h1
  have ndP:ps.Nodup:=by rw [<-S.pre];exact S.nd.sublist (W1 _ _)
  refine⟨u,rv,?_⟩;rcases S.par y (P9 hp) with k|k
  ·exact .inl ⟨k,ZJ ndP hp hu k⟩
  ·obtain⟨c,e⟩:=yJ (n:=s.heap.objs.size+1) k;refine .inr ⟨.inl k,c,e,?_⟩;have q:=x.cell y c e;rw [ZK ndP hp hu (by show scope.names.lookup y≠_;rw [k];decide)] at q;exact q
 ·exact e0.hok.fresh (S6 (x.above y c (J7 h)))
 ·unfold start;show _=N.length;rw [D0,G2,nH];omega
def Cv {CX:CXT}{mg:Str->P5 G1}{base:C7}{f:G9}{name qual:Str}{params:oJ}{body:G0 A6}{scope:K1}{dV kV doc pm Ë ct oc:G1}{an od:P5 G9}{ē:T6 (P5 G1)}{N ps:G0 Str}{sp:Sp}(lk:K.lookup f=some ⟨oc,od,.func (Y5 name qual params body scope dV kV doc pm an Ë ct),ē⟩)(hcd:f6 K Ë qual=true)(S:Á N ps scope)
 (len: ∀vs H Q E,sp vs H Q E->vs.length=ps.length)
 (Ò: ∀ (A:T8) (outer:G0 Env) (s:G3) (H:Hp) (vs:G0 V) (Q:VK) (E:XK),Î k (A.deeper (Q3 qual scope s.heap.objs.size f Ë))->sp vs H Q E->
  ∃t,ļ (WG CX P w K mg base N qual scope f Ë A outer s H E) body t/\t {nx:=λ_ H'=>Q .non H',rt:=Q} (start N vs) H):
 È P w K mg base CX (k+1) f (Y5 name qual params body scope dV kV doc pm an Ë ct) ps sp:=by
 refine⟨len,λA outer s H args us vs Q E hr e0 hb r Ŝ=> ?_⟩;have hl:=len _ _ _ _ Ŝ;have KX:K.In s.heap:=e0.mod.kin.keeps λb o e=>(e0.bs b o e).1
 have lim:s.heap.NoLimit:=e0.mod.nolimit.keeps λb o e=>(e0.bs b o e).1
 have š: ∀y∈ps.zip us,scope.names.lookup y.1=some .local\/(scope.names.lookup y.1=some .cell/\((U7 (s.heap.objs.size+1) scope.names []).lookup y.1).isSome=true):=λ⟨n,v⟩ hy=>by
  rcases S.par n (fE hy).1 with q|q
  ·exact .inl q
  ·exact .inr ⟨q,cK _ _ _ (.inl q)⟩
 refine gM hr.depth (KX _ _ lk) rfl S.co S.gen rfl (j6 KX hcd) (hb _ _ _ _ ?_);refine dF S.kind š λenv he s1 x=> ?_
 subst he;refine⟨lim.keeps x.toInCall.keep,pX ?_⟩;obtain⟨t,ht,hq⟩:=Ò A outer s H vs Q E (hr.deeper _) Ŝ;have I:Inv (WG CX P w K mg base N qual scope f Ë A outer s H E) [] (start N vs) H s1:=VL S hr.hd e0 hl r x;refine M0 (ht [] s1 (start N vs) H _ I hq) (λfl s' hs=> ?_) λe s' hs=>hs
 have fin: ∀ {IO:St} {H':Hp} {v:V} {u:G1},Inv (WG CX P w K mg base N qual scope f Ë A outer s H E) [] IO H' s'->RelV v u->Q v H'->CE outer P w H s Q u s':=
  λ{IO H' v u} J rv q=>⟨v,H',J.os,J.bare,J.base,J.hok,rv,q⟩
 cases fl with
 |ret u=>
  obtain⟨v,IO,H',J,rv,q⟩:=hs;exact fin J rv q
 |next=>
  obtain⟨IO,H',J,q⟩:=hs;exact fin (v:=V.non) (u:=fH) J rfl q
 |brk=>
  obtain⟨_,_,_,q⟩:=hs;exact False.elim q
 |cont=>
  obtain⟨_,_,_,q⟩:=hs;exact False.elim q
section
variable {X:Cx}{x:Str}{p pos:Pos}{e:M9}{es:G0 M9}{t:TA}{id T:U5}{r:G0 V->Hp->VK->Prop}
def tCB (r:G0 V->Hp->VK->Prop)(t:TA):TE:=λσ H Q=>t σ H λvs H1=>r vs H1 Q
def yK (hc:Ù X (.builtin id) r)(hg:Gl X x)(hm:X.mg x=none)(hv:Q5 x=some (.builtin id))(ha:PA X (e::es) t)(hn:x≠ "__name__" :=by decide)(hdb:(x==("__debug__" :Str))=false:=by decide)
 (he:P8 (e::es) X.env=(false,A2 e X.env)::P8 es X.env:=by rfl)(hpl:(E1 pos (P8 es X.env)).any (·.1)=false:=by rfl):PE X (.Call (.Name x p) (e::es) [] pos) (tCB r t):=by
 intro ID s σ H Q I h;refine X7 (ZG I hg hm hv ?_ hn hdb);exact gV (Ñ (ha pos ID s σ H _ I h) λus s1 ⟨vs,H1,I1,r1,q1⟩=>hc ID s1 σ H1 vs us Q I1 r1 q1) he hpl
def ZL (hc:Ù X (.type T) r)(hg:Gl X x)(hm:X.mg x=none)(hv:Q5 x=some (.type T))(ha:PA X (e::es) t)(hn:x≠ "__name__" :=by decide)(hdb:(x==("__debug__" :Str))=false:=by decide)
 (he:P8 (e::es) X.env=(false,A2 e X.env)::P8 es X.env:=by rfl)(hpl:(E1 pos (P8 es X.env)).any (·.1)=false:=by rfl):PE X (.Call (.Name x p) (e::es) [] pos) (tCB r t):=by
 intro ID s σ H Q I h;refine X7 (ZG I hg hm hv ?_ hn hdb);exact aJ (Ñ (ha pos ID s σ H _ I h) λus s1 ⟨vs,H1,I1,r1,q1⟩=>hc ID s1 σ H1 vs us Q I1 r1 q1) he hpl
end
end L2
namespace HT
open PySem PyProof.Rows
def jF:G0 P1->G0 P1->M7
 | [],[]=>false
 | [],_::_=>true
 |_::_,[]=>false
 |x::xs,y::ys=>if x=y then jF xs ys else decide (x<y)
def Jy (x y:P1)(xs ys:G0 P1):jF (x::xs) (y::ys)=if x=y then jF xs ys else decide (x<y):=rfl
def YE:jF [] []=false:=rfl
def WH (y:P1)(ys:G0 P1):jF [] (y::ys)=true:=rfl
def WI (x:P1)(xs:G0 P1):jF (x::xs) []=false:=rfl
def Qe (A:T8)(s:G3)(a:P1)(t:Tok)(c:P1)(u:Tok): ∃e,SeqAt.EqAt A s (.int a t) (.int c u) e/\(e=true↔a=c):=
 ⟨(a==c),SeqAt.EqAt.int_int a t c u,by simp⟩
def MP (A:T8)(s:G3)(a:P1)(t:Tok)(c:P1)(u:Tok)(prog:S8)(w:B0)(E:G1->G3->Prop)(Q:G1->G3->Prop)(h:Q (.bool (decide (a<c))) s):
 R0 (R7 prog w) A (richCompare .Lt (.int a t) (.int c u)) Q E s:=
 (oQ h:R0 (R7 prog w) A (F7 .Lt (.int a t) (.int c u)) Q E s)
section
open PySem.SeqAt
open PySem.AutoSeq1 (wpAny_loadPart')
open PySem.MeetsSeq PySem.MeetsSeq2 PySem.MeetsSeq3
def vQ (l b:G9)(items ñ:T6 G1)(n n2:G5)(dd dd2:P5 G9)(sl sl2:T6 (P5 G1))(ns ms:G0 P1)(hi:W0 items.toList ns)(hj:W0 ñ.toList ms):
 Meets (Builtin.«tuple.__lt__» ⟨[.ref l,.ref b],[]⟩)
  (λ_ R s=>s.heap.get? l=some {cls:= .type "tuple",dict:=dd,data:= .seq items n,slots:=sl}/\s.heap.get? b=some {cls:= .type "tuple",dict:=dd2,data:= .seq ñ n2,slots:=sl2}/\
   R (.ok (.ret (.bool (jF ns ms)))) s):=
 .of_wp λprog w A R s h=>by
  obtain⟨hp,g,d,tk,os⟩:=s;obtain⟨hl,hb,h⟩:=h;have f2:=uN;have z1:items.size=ns.length:=by rw [<-hi.length];simp
  have z2:ñ.size=ms.length:=by rw [<-hj.length];simp
  wp_walk using wpAny_loadPart' hl,wpAny_loadPart' hb,wpAny_forIn_list _ (λrest b s'=>b.1=none/\s'=⟨hp,g,d,tk,os⟩/\ ∃ (vs ws:G0 G1) (ns' ms':G0 P1),rest=vs.zip ws/\
   W0 vs ns'/\W0 ws ms'/\ns'.length+ñ.size=ms'.length+items.size/\R (.ok (.ret (.bool (jF ns' ms')))) ⟨hp,g,d,tk,os⟩) _
  case turn=>
   rintro ⟨y,x⟩ rest b s' ⟨hb',rfl,vs,ws,ns',ms',hz,hvi,hwi,hlen,hR⟩;cases hvi with
   |nil=>rw [lE] at hz;cases hz
   |cons a t X1H=>
    cases hwi with
    |nil=>rw [pE] at hz;cases hz
    |cons c u X1I=>
     rw [fJ] at hz;injection hz with hyx X06
     injection hyx with hy hx
     subst hy hx;rw [Jy] at hR;simp only [R1] at hlen;obtain⟨e,he,X0x⟩:=Qe A.in1 ⟨hp,g,d,tk,os⟩ a t c u;refine wpAny_bind (he prog w _ _ ?_);cases e with
     |true=>
      rw [R8 (X0x.mp rfl)] at hR
      wp_walk
      exact⟨rfl,rfl,_,_,_,_,X06,X1H,X1I,by omega,hR⟩
     |false=>
      rw [R9 (λq=>absurd (X0x.mpr q) R3)] at hR;have hri:=MP A.in1 ⟨hp,g,d,tk,os⟩ a t c u prog w
      wp_walk using hri
      exact⟨_,rfl,by simpa using hR⟩
  case fin=>
   rintro ⟨b1,b2⟩ s' ⟨hb',rfl,vs,ws,ns',ms',hz,hvi,hwi,hlen,hR⟩;simp only at hb';subst hb';have hv:jF ns' ms'=decide (items.size<ñ.size):=by
    cases hvi with
    |nil=>
     cases hwi with
     |nil=>
      simp only [C4] at hlen;rw [YE];exact(D9 (by omega)).symm
     |cons c u hw=>
      simp only [C4,R1] at hlen;rw [WH];exact(D3 (by omega)).symm
    |cons a t hv=>
     cases hwi with
     |nil=>
      simp only [C4,R1] at hlen;rw [WI];exact(D9 (by omega)).symm
     |cons c u hw=>
      rw [fJ] at hz;cases hz
   rw [hv] at hR
   wp_walk
   exact⟨_,rfl,by simpa [qT] using hR⟩
  case h=>
   exact⟨rfl,rfl,items.toList,ñ.toList,ns,ms,rfl,hi,hj,by omega,h⟩
end
section
variable {prog:S8}{w:B0}{A:T8}{E:G1->G3->Prop}{s:G3}
def Go {l b:G9}{items ñ:T6 G1}{ns ms:G0 P1}{Q:G1->G3->Prop}(hl:rN s.heap l items)(hb:rN s.heap b ñ)(hi:W0 items.toList ns)(hj:W0 ñ.toList ms)
 (hu:A.units<cLine)(h:Q (.bool (jF ns ms)) s):R0 (R7 prog w) A (F7 .Lt (.ref l) (.ref b)) Q E s:=by
 obtain⟨⟨cls,dd,data,sl⟩,ho,hc,n,hd⟩:=id hl;obtain⟨⟨X07,dd2,G0J,sl2⟩,ho2,hc2,n2,hd2⟩:=id hb;simp only at hc hd hc2 hd2;subst hc hd hc2 hd2;exact richCompare_meets_room (op:= .Lt) ⟨_,ho,rfl⟩ ⟨_,ho2,rfl⟩ gO mK (l9 _ _) (vQ l b items ñ n n2 dd dd2 sl sl2 ns ms hi hj)
  ⟨ho,ho2,show mJ (jF ns ms)≠Value.notImplemented/\Q (.bool (jF ns ms)) s from ⟨(λx=>nomatch x),h⟩⟩ hu
def Cw {t b:G9}{vs ws:G0 G1}{Q:G1->G3->Prop}(ht:rN s.heap t vs.toArray)(hb:rN s.heap b ws.toArray)(hv:vs≠ [])
 (h1:ws= []->Q (.ref t) s)(h2:ws≠ []->Q (.ref s.heap.objs.size) {s with heap:=s.heap.push {cls:= .type "tuple",data:= .seq (vs++ws).toArray}})
 (hsz:vs.length+ws.length<=sizeLine):R0 (R7 prog w) A (V6 .Add (.ref t) (.ref b)) Q E s:=by
 obtain⟨⟨cls,dd,data,sl⟩,ho,hc,n,hd⟩:=id ht;obtain⟨⟨X07,dd2,G0J,sl2⟩,ho2,hc2,n2,hd2⟩:=id hb;simp only at hc hd hc2 hd2;subst hc hd hc2 hd2;have e:vs.toArray++ws.toArray=(vs++ws).toArray:=by simp
 by_cases hw:ws= []
 ·exact pY ⟨_,ho,rfl⟩ ⟨_,ho2,rfl⟩ mB oY f7 fP (eL _ _)
   (tuple_addW1 t b vs.toArray ws.toArray n n2 dd dd2 sl sl2 (by simpa using hv) (by simp [hw])) ⟨ho,ho2,h1 hw⟩
 ·refine pY ⟨_,ho,rfl⟩ ⟨_,ho2,rfl⟩ mB oY f7 fP (eL _ _)
   (tuple_addW2 t b vs.toArray ws.toArray n n2 dd dd2 sl sl2 (by simpa using hv) (by simpa using hw) (by rw [S0,S0];exact hsz)) ⟨ho,ho2,?_⟩
  rw [e];exact h2 hw
def sIx (n d:G5):P5 P1->G5
 |none=>d
 |some v=>if v<0 then (v+(n:P1)).toNat else min v.toNat n
def OZ (n d:G5)(hd:d<=n)(o:P5 P1):sIx n d o<=n:=by
 cases o with
 |none=>exact hd
 |some v=>
  show (if v<0 then (v+(n:P1)).toNat else min v.toNat n)<=n
  by_cases hv:v<0
  ·rw [R8 hv];omega
  ·rw [R9 hv];exact dN _ _
def Df (v:P1)(n d:G5):(if v<0 then max (v+(n:P1)) 0 else min v (n:P1))=((sIx n d (some v):G5):P1):=by
 show (if v<0 then max (v+(n:P1)) 0 else min v (n:P1))=(((if v<0 then (v+(n:P1)).toNat else min v.toNat n):G5):P1)
 by_cases hv:v<0
 ·simp only [R8 hv];omega
 ·simp only [R9 hv];omega
def Gp (lo hi:P5 P1)(n:G5):dU lo hi 1 (n:P1)=(((sIx n 0 lo:G5):P1),((sIx n n hi:G5):P1)):=by
 have h1: ¬ ((1:P1)<0):=by omega
 unfold dU;simp only [h1,mC];refine Prod.ext ?_ ?_
 ·cases lo with
  |none=>rfl
  |some v=>exact Df v n 0
 ·cases hi with
  |none=>rfl
  |some v=>exact Df v n n
def Gq (i j:G5):bF (i:P1) (j:P1) 1=j-i:=by
 unfold bF;have h1:(1:P1)>0:=by omega
 simp only [h1,f8,Int.ediv_one];split<;>omega
def WV {v:G1}{o:P5 P1}{Q:P5 P1->G3->Prop}(p:mL v o)(h:Q o s):R0 (R7 prog w) A (r9 v) Q E s:=by
 cases p with
 |none=>exact tD h
 |int i t=>exact slicePart_int h
def yg {sl:G9}{vl vu:G1}{lo hi:P5 P1}{n:G5}{Q:P1×P1×G5->G3->Prop}(hs:s.heap.IsSliceOf sl vl vu .none)(pl:mL vl lo)(pu:mL vu hi)
 (h:Q (((sIx n 0 lo:G5):P1),1,sIx n n hi-sIx n 0 lo) s):R0 (R7 prog w) A (j7 (.ref sl) (pure (n:P1))) Q E s:=by
 obtain⟨os,hos,hcs,hds⟩:=id hs;unfold j7 uH;refine wpAny_bind (wpAny_bind (nU hos hds (x:=vl) rfl (wpAny_bind (nU hos hds (x:=vu) rfl (wpAny_bind (nU hos hds (x:= .none) rfl (P2 ?_)))))));refine wpAny_bind (tD ?_);show R0 _ _ (if ((1:P1)==0)=true then _ else _) _ _ s;rw [R9 (by decide)];refine wpAny_bind (WV pl (wpAny_bind (WV pu (wpAny_bind (P2 ?_)))));show R0 _ _ (match dU lo hi 1 (n:P1) with|(lo,hi)=>pure (lo,(1:P1),bF lo hi 1)) _ _ s;rw [Gp lo hi n];show R0 _ _ (pure (((sIx n 0 lo:G5):P1),(1:P1),bF ((sIx n 0 lo:G5):P1) ((sIx n n hi:G5):P1) 1)) _ _ s;rw [Gq];exact P2 h
def MQ (xs:T6 G1)(i k:G5):((P4 k).filterMap λ(m:G5)=>xs[((i:P1)+(m:P1)*1).toNat]?).toArray=((xs.toList.drop i).take k).toArray:=by
 have e:(λ(m:G5)=>xs[((i:P1)+(m:P1)*1).toNat]?)=λm=>xs[i+m]? :=by
  funext m
  have:((i:P1)+(m:P1)*1).toNat=i+m:=by omega
  rw [this]
 rw [e];have:=pick_run xs i k;rw [List.filterMap_map] at this;have e2:((λx=>xs[x]?)∘λx=>i+x)=λm=>xs[i+m]? :=rfl
 rw [e2] at this;rw [this]
def Jz {t sl:G9}{items:T6 G1}{vl vu:G1}{lo hi:P5 P1}{Q:G1->G3->Prop}(ht:rN s.heap t items)(hs:s.heap.IsSliceOf sl vl vu .none)(pl:mL vl lo)(pu:mL vu hi)
 (hw: ¬ (sIx items.size 0 lo=0/\sIx items.size items.size hi=items.size))
 (h:Q (.ref s.heap.objs.size) {s with heap:=s.heap.push {cls:= .type "tuple",data:= .seq ((items.toList.drop (sIx items.size 0 lo)).take (sIx items.size items.size hi-sIx items.size 0 lo)).toArray}})
 (hsz:items.size<=sizeLine):R0 (R7 prog w) A (iV (.ref t) (.ref sl)) Q E s:=by
 have Λ:sizeOk (.seq ((items.toList.drop (sIx items.size 0 lo)).take (sIx items.size items.size hi-sIx items.size 0 lo)).toArray):=by
  show ((items.toList.drop (sIx items.size 0 lo)).take (sIx items.size items.size hi-sIx items.size 0 lo)).toArray.size<=sizeLine;rw [S0,N0,C5,D8];omega
 have hj:sIx items.size items.size hi<=items.size:=OZ _ _ (P3 _) hi;obtain⟨os,hos,hcs,hds⟩:=id hs;have hTs:s.TypeIs (.ref sl) "slice" :=⟨os,hos,hcs⟩;unfold iV
 try with_reducible refine L7 ?_
 first|refine wpAny_bind (P2 ?_)|skip
 refine wpAny_bind (pZ ht.typeIs (by decide) ?_);refine wpAny_bind (Q7 (name:=mM "__getitem__") ht.typeIs X4
  (K2 X4 ht.typeIs oR ?_ (pF _ _)))
 show R0 _ _ (j8 (.ref t) >>= _) _ _ s;refine wpAny_bind (uO ht ?_);refine wpAny_bind (mN hTs ?_);rw [R8 (by decide)];refine wpAny_bind (yg hs pl pu ?_);have hno: ¬ ((((sIx items.size 0 lo:G5):P1)==0&&(1:P1)==1&&(sIx items.size items.size hi-sIx items.size 0 lo)==items.size)=true):=by
  intro q;rw [B8,B8] at q;have q1:((sIx items.size 0 lo:G5):P1)=0:=eq_of_beq q.1.1;have q2:sIx items.size items.size hi-sIx items.size 0 lo=items.size:=eq_of_beq q.2;exact hw ⟨by omega,by omega⟩
 show R0 _ _ (if (((sIx items.size 0 lo:G5):P1)==0&&(1:P1)==1&&(sIx items.size items.size hi-sIx items.size 0 lo)==items.size)=true then _ else _) _ _ s;rw [R9 hno,MQ]
 first
  |exact wpAny_bind (m:=bZ _) (bO (P2 ⟨_,rfl,P2 h⟩) Λ)
  |exact wpAny_bind (m:=bZ _) (bO (wpAny_bind (P2 (P2 ⟨_,rfl,P2 h⟩))) Λ)
  |exact wpAny_bind (wpAny_bind (m:=bZ _) (bO (P2 (P2 ⟨_,rfl,P2 h⟩)) Λ))
  |exact wpAny_bind (wpAny_bind (m:=bZ _) (bO (P2 ⟨_,rfl,P2 h⟩) Λ))
end
end HT
namespace L2
open PySem PySem.Spec PyProof.Rows
abbrev TO:=St->Hp->(P5 P1->Hp->Prop)->Prop
def PO (X:Cx)(e:P5 M9)(t:TO):Prop:=
 ∀ (ID:G0 (G9×Obj)) (s:G3) (σ:St) (H:Hp) (Q:P5 P1->Hp->Prop),Inv X ID σ H s->t σ H Q->
  R0 (R7 X.prog X.w) X.A (evalPart e X.env) (λu s'=> ∃o H',Inv X ID σ H' s'/\mL u o/\Q o H') X.xe s
def SX (t:TE):TO:=λσ H Q=>t σ H λx H1=> ∃i,x= .int i/\Q (some i) H1
section
variable {X:Cx}{e:M9}{te:TE}{lo hi:P5 M9}{tl th:TO}{pos p2:Pos}
def Cy (h:PE X e te):PO X (some e) (SX te):=by
 intro ID s σ H Q I hw;rw [evalPart_some];refine Ñ (h ID s σ H _ I hw) λu s1 ⟨x,H1,I1,r1,q1⟩=> ?_
 obtain⟨i,rfl,q⟩:=q1;obtain⟨t,rfl⟩:=r1;exact⟨some i,H1,I1,.int i t,q⟩
def SlR (X:Cx)(r:V->P5 P1->P5 P1->Hp->VK->Prop):Prop:=
 ∀ (ID:G0 (G9×Obj)) (s:G3) (σ:St) (H:Hp) (x:V) (v vl vu:G1) (lo hi:P5 P1) (sl:G9) (Q:VK),Inv X ID σ H s->RelV x v->s.heap.IsSliceOf sl vl vu .none->mL vl lo->mL vu hi->r x lo hi H Q->
  ∃T id,IW (.type T) "__getitem__" =pure (some (.builtin id))/\s.TypeIs v T/\R0 (R7 X.prog X.w) X.A (iV v (.ref sl)) (EP X ID σ Q) X.xe s
def SlR.or {r r':V->P5 P1->P5 P1->Hp->VK->Prop}(h:SlR X r)(h':SlR X r'):SlR X (λx lo hi H Q=>r x lo hi H Q\/r' x lo hi H Q):=by
 intro ID s σ H x v vl vu lo hi sl Q I rx hs pl pu q;rcases q with q|q
 ·exact h ID s σ H x v vl vu lo hi sl Q I rx hs pl pu q
 ·exact h' ID s σ H x v vl vu lo hi sl Q I rx hs pl pu q
def tSl (r:V->P5 P1->P5 P1->Hp->VK->Prop)(te:TE)(tl th:TO):TE:=λσ H Q=>te σ H λx H1=>tl σ H1 λl H2=>th σ H2 λu H3=>r x l u H3 Q
def MR {r:V->P5 P1->P5 P1->Hp->VK->Prop}(hr:SlR X r)(he:PE X e te)(hl:PO X lo tl)(hu:PO X hi th):PE X (.Subscript e (.Slice lo hi none p2) pos) (tSl r te tl th):=by
 intro ID s σ H Q I h;refine tE (Ñ (he ID s σ H _ I h) λv s1 ⟨x,H1,I1,r1,q1⟩=> ?_);refine wpAny_Slice (Ñ (hl ID s1 σ H1 _ I1 q1) λvl s2 ⟨l,H2,I2,pl,q2⟩=>Ñ (hu ID s2 σ H2 _ I2 q2) λvu s3 ⟨u,H3,I3,pu,q3⟩=> ?_);rw [evalPart_none];refine P2 ?_;have I4:Inv X ID σ H3 {s3 with heap:=s3.heap.push {cls:= .type "slice",data:= .fields #[vl,vu,.none]}}:=I3.kept (t':=s3.toks) λb ob q=>G7 _ q
 obtain⟨T,id,hT,ht,hg⟩:=hr ID {s3 with heap:=s3.heap.push {cls:= .type "slice",data:= .fields #[vl,vu,.none]}} σ H3 x v vl vu l u s3.heap.objs.size Q I4 r1 (Heap.IsSliceOf.new ..) pl pu q3;show R0 (R7 X.prog X.w) X.A (oZ e (.Slice lo hi none p2) v (.ref s3.heap.objs.size)) (EP X ID σ Q) X.xe {s3 with heap:=s3.heap.push {cls:= .type "slice",data:= .fields #[vl,vu,.none]}};exact tail_any (ops:= [.ref s3.heap.objs.size,v]) ht hT hg (by with_unfolding_all rfl)
def MB (xs:G0 V)(lo hi:P5 P1):G0 V:=(xs.drop (HT.sIx xs.length 0 lo)).take (HT.sIx xs.length xs.length hi-HT.sIx xs.length 0 lo)
def ZM (xs:G0 V)(lo hi:P5 P1):(MB xs lo hi).length<=xs.length:=by
 unfold MB;rw [N0,C5];omega
def Kn (K:G6):V->P5 P1->P5 P1->Hp->VK->Prop:=λx lo hi H Q=> ∃a xs,x= .ref a/\å K H a xs/\
 ¬ (HT.sIx xs.length 0 lo=0/\HT.sIx xs.length xs.length hi=xs.length)/\ ∀p,H p=none->Q (.ref p) (upd H p (.tup (MB xs lo hi)))
def X0y:SlR X (Kn X.K):=by
 intro ID s σ H x v vl vu lo hi sl Q I rx hs pl pu h;obtain⟨a,xs,rfl,hx,hw,q⟩:=h;cases rx;obtain⟨its,r,ht,hz⟩:=I.tuple hx;have hlen:its.toArray.size=xs.length:=by rw [S0];exact r.length.symm
 refine⟨"tuple",_,PyProof.Rows.slot_tuple_getitem.lookup,ht.typeIs,?_⟩;refine HT.Jz ht hs pl pu (by rw [hlen];exact hw) ?_ (by rw [hlen];exact hz);rw [hlen];refine⟨.ref s.heap.objs.size,_,I.laid (t':=s.toks) (o:= .tup (MB xs lo hi)) (λb ob q=>G7 _ q) (P3 _) ?_,rfl,q _ (I.hok.fresh (P3 _))⟩;exact⟨R6 (ZM xs lo hi) hz,_,(r.drop (HT.sIx xs.length 0 lo)).take (HT.sIx xs.length xs.length hi-HT.sIx xs.length 0 lo),é.new _ _⟩
def SY (K:G6):R2:=λx y H Q=> ∃a b xs ys,x= .ref a/\y= .ref b/\å K H a xs/\å K H b ys/\xs≠ []/\xs.length+ys.length<=sizeLine/\
 (ys= []->Q (.ref a) H)/\(ys≠ []-> ∀p,H p=none->Q (.ref p) (upd H p (.tup (xs++ys))))
def Æ.nil_iff {xs:G0 V}{us:G0 G1}(r:Æ xs us):us= []↔xs= []:=by
 cases r with
 |nil=>simp
 |cons _ _=>simp
def X0j:ü X (V6 .Add) (SY X.K):=by
 intro ID s σ H x y v u Q I rx ry h;obtain⟨a,b,xs,ys,rfl,rfl,ha,hb,hx,hz,q1,q2⟩:=h;cases rx;cases ry;obtain⟨its,r1,p1,_⟩:=I.tuple ha;obtain⟨ō,r2,p2,_⟩:=I.tuple hb;refine HT.Cw p1 p2 (λz=>hx (r1.nil_iff.mp z)) (λz=>⟨.ref a,H,I,rfl,q1 (r2.nil_iff.mp z)⟩) (λz=> ?_) (by rw [<-r1.length,<-r2.length];exact hz);refine⟨.ref s.heap.objs.size,_,I.laid (t':=s.toks) (o:= .tup (xs++ys)) (λb ob q=>G7 _ q) (P3 _) ?_,rfl,q2 (λw=>z (r2.nil_iff.mpr w)) _ (I.hok.fresh (P3 _))⟩;exact⟨by rw [D0];exact hz,_,r1.append r2,é.new _ _⟩
end
def ζ (n:G5)(i:P1):P5 G5:=if 0<=i then (if i<n then some i.toNat else none) else if-(n:P1)<=i then some (i+n).toNat else none
def Ċ {α:Type}(xs:G0 α)(i:P1):P5 α:=(ζ xs.length i).bind λj=>xs[j]?
def Dg {n:G5}{i:P1}{j:G5}(h:ζ n i=some j):seqIndex? i n=some j/\j<n/\ -(n:P1)<=i/\i<n:=by
 unfold ζ at h
 by_cases h0:0<=i
 ·rw [R8 h0] at h
  by_cases h1:i<n
  ·rw [R8 h1] at h;have e:i.toNat=j:=E2 h;exact⟨by rw [rQ h0 h1,e],by omega,by omega,h1⟩
  ·rw [R9 h1] at h;cases h
 ·rw [R9 h0] at h
  by_cases h1: -(n:P1)<=i
  ·rw [R8 h1] at h;have e:(i+n).toNat=j:=E2 h;exact⟨by rw [p0 (by omega) h1,e],by omega,h1,by omega⟩
  ·rw [R9 h1] at h;cases h
def Xk {α:Type}{xs:G0 α}{i:P1}{v:α}(h:Ċ xs i=some v): ∃j,seqIndex? i xs.length=some j/\xs[j]? =some v/\j<xs.length/\ -(xs.length:P1)<=i/\i<xs.length:=by
 unfold Ċ at h;cases e:ζ xs.length i with
 |none=>rw [e] at h;cases h
 |some j=>
  rw [e] at h;obtain⟨h1,h2,h3,h4⟩:=Dg e;exact⟨j,h1,h,h2,h3,h4⟩
def zH {α:Type}{xs:G0 α}{j:G5}{v:α}(h:xs[j]? =some v):Ċ xs (j:P1)=some v:=by
 have hj:j<xs.length:=(P6.mp h).1;have e:ζ xs.length (j:P1)=some j:=by
  unfold ζ;rw [R8 (by omega),R8 (by omega)];simp
 unfold Ċ;rw [e];exact h
def YF (b:M9):Prop:= ∀o i,nV b false o i=G0s [o,i] (iV o i)
def IxR (X:Cx)(r:R2):Prop:=
 ∀ (value slice:M9) (ID:G0 (G9×Obj)) (s:G3) (σ:St) (H:Hp) (x y:V) (v u:G1) (Q:VK),Inv X ID σ H s->RelV x v->RelV y u->r x y H Q->
  nV slice false v u=G0s [v,u] (iV v u)->R0 (R7 X.prog X.w) X.A (oZ value slice v u) (EP X ID σ Q) X.xe s
def MtR (X:Cx)(id:U5)(r:V->G0 V->Hp->VK->Prop):Prop:=
 ∀ (ID:G0 (G9×Obj)) (s:G3) (σ:St) (H:Hp) (x:V) (xs:G0 V) (v:G1) (us:G0 G1) (Q:VK),Inv X ID σ H s->RelV x v->Æ xs us->r x xs H Q->
  R0 (R7 X.prog X.w) X.A (call (.builtin id) (v::us)) (EP X ID σ Q) X.xe s
section
variable {X:Cx}{a b:M9}{ta tb:TE}{pos:Pos}
def IxR.or {r r':R2}(h:IxR X r)(h':IxR X r'):IxR X (λx y H Q=>r x y H Q\/r' x y H Q):=by
 intro value slice ID s σ H x y v u Q I rx ry q hs;rcases q with q|q
 ·exact h value slice ID s σ H x y v u Q I rx ry q hs
 ·exact h' value slice ID s σ H x y v u Q I rx ry q hs
def SZ {r:R2}(hr:IxR X r)(ha:PE X a ta)(hb:PE X b tb)(hs:YF b):PE X (.Subscript a b pos) (tOp r ta tb):=by
 intro ID s σ H Q I h;exact tE (SO ha hb I h λv u s2 x y H2 I2 rx ry q=>hr a b ID s2 σ H2 x y v u Q I2 rx ry q (hs _ _))
def HH (K:G6):R2:=λx y H Q=> ∃p xs i v,x= .ref p/\y= .int i/\í K H p xs/\Ċ xs i=some v/\Q v H
def HI (K:G6):R2:=λx y H Q=> ∃p xs i v,x= .ref p/\y= .int i/\å K H p xs/\Ċ xs i=some v/\Q v H
def HJ:R2:=λx y H Q=> ∃z i c,x= .str z/\y= .int i/\z.length<=sizeLine/\Ċ z.cps.toList i=some c/\Q (.str ⟨#[c]⟩) H
def X0k:IxR X (HH X.K):=by
 intro value slice ID s σ H x y v u Q I rx ry h hs;obtain⟨p,xs,i,z,rfl,rfl,hq,he,q⟩:=h;cases rx;obtain⟨t,rfl⟩:=ry;obtain⟨its,r,pl,hz⟩:=I.list hq;obtain⟨j,h1,h2,h3,h4,h5⟩:=Xk he;obtain⟨w,ew,rw'⟩:=r.get h2;have hl:=r.length;have hn:=VH;have fin:EP X ID σ Q w s:=⟨z,H,I,rw',q⟩
 by_cases h0:0<=i
 ·have hj:i.toNat=j:=by
   rw [rQ h0 h5] at h1;exact E2 h1
  exact item_listR pl.isList h0 (by omega) (by rw [hj];simpa using ew) fin hs
 ·have hj:(i+(its.toArray.size:P1)).toNat=j:=by
   rw [p0 (by omega) h4] at h1;rw [S0,<-hl];exact E2 h1
  exact mO (x:=w) pl.isList.typeIs slot_list_getitem.lookup
   (wpAny_getItem_list_neg (Q:=λr s'=>r=w/\EP X ID σ Q r s') pl.isList (by omega) (by rw [S0]<;>omega) (by omega) (by rw [hj];simpa using ew) ⟨rfl,fin⟩) hs
def X0z:IxR X (HI X.K):=by
 intro value slice ID s σ H x y v u Q I rx ry h hs;obtain⟨p,xs,i,z,rfl,rfl,hq,he,q⟩:=h;cases rx;obtain⟨t,rfl⟩:=ry;obtain⟨its,r,pl,hz⟩:=I.tuple hq;obtain⟨j,h1,h2,h3,h4,h5⟩:=Xk he;obtain⟨w,ew,rw'⟩:=r.get h2;have hl:=r.length;have hn:=VH;have fin:EP X ID σ Q w s:=⟨z,H,I,rw',q⟩;exact mO (x:=w) pl.typeIs slot_tuple_getitem.lookup
  (getItem_tuple (j:=j) (Q:=λr s'=>r=w/\EP X ID σ Q r s') pl (by omega) (by omega) (by rw [S0,<-hl];exact h1) (by simpa using ew) ⟨rfl,fin⟩) hs
def Aa:IxR X HJ:=by
 intro value slice ID s σ H x y v u Q I rx ry h hs;obtain⟨z,i,c,rfl,rfl,hz,he,q⟩:=h;obtain⟨t,rfl⟩:=rx;obtain⟨t',rfl⟩:=ry;obtain⟨j,h1,h2,h3,h4,h5⟩:=Xk he;have hl:z.cps.toList.length=z.length:=by simp [Str.length]
 rw [hl] at h1 h4 h5;have hn:=VH;exact tail_any (IX s z t) slot_str_getitem.lookup (getItem_str (c:=c) (by
  have e1:decide (i< -(2^63:P1))=false:=D9 (by omega);have e2:decide (i>=2^63)=false:=D9 (by omega);rw [e1,e2,uP]) (by rw [h1];simpa using h2) ⟨.str ⟨#[c]⟩,H,I.tok _,⟨_,rfl⟩,q⟩) hs
def rIx (K:G6):R2:=λx y H Q=>HH K x y H Q\/HI K x y H Q\/HJ x y H Q
def Ab:IxR X (rIx X.K):=X0k.or (X0z.or Aa)
def Gr (its:G0 G1)(n j:G5)(u:G1):W3 (·.setIfInBounds j u) {cls:= .type "list",data:= .seq its.toArray n}= {cls:= .type "list",data:= .seq (its.set j u).toArray n}:=by
 simp [W3]
def Inv.lst {ID:G0 (G9×Obj)}{σ:St}{H:Hp}{s:G3}{p:G9}{xs:G0 V}(I:Inv X ID σ H s)(h:H p=some (.lst xs)):
 ∃ (its:G0 G1) (n:G5),Æ xs its/\s.heap.get? p=some {cls:= .type "list",data:= .seq its.toArray n}/\xs.length<=sizeLine:=by
 obtain⟨z,its,n,r,e⟩:=I.hok p _ h;exact⟨its,n,r,e,z⟩
def Inv.lstUpd {ID:G0 (G9×Obj)}{σ:St}{H:Hp}{s:G3}{p:G9}{xs ys:G0 V}{its its':G0 G1}{n n':G5}{f:Obj->Obj}(I:Inv X ID σ H s)(h:H p=some (.lst xs))
 (ho:s.heap.get? p=some {cls:= .type "list",data:= .seq its.toArray n})(hf:f {cls:= .type "list",data:= .seq its.toArray n}= {cls:= .type "list",data:= .seq its'.toArray n'})(r:Æ ys its')(hz:ys.length<=sizeLine)(t:G5):
 Inv X ID σ (upd H p (.lst ys)) {s with heap:=s.heap.update p f,toks:=t}:=by
 have e:(s.heap.update p f).get? p=some {cls:= .type "list",data:= .seq its'.toArray n'}:=by
  rw [C9 f ho (by rw [hf]<;>rfl),hf]
 refine I.write (x:=p) (e:=p) (by rw [h];trivial) (.inl rfl) (λb u hb q=>(mP _ _ (U6 hb)).trans q) ⟨_,e⟩ ?_;exact⟨hz,its',n',r,e⟩
def Ta:V->V->V->Hp->(Hp->Prop)->Prop:=λo i v H Q=> ∃p xs k j,o= .ref p/\i= .int k/\H p=some (.lst xs)/\ζ xs.length k=some j/\Q (upd H p (.lst (xs.set j v)))
def MS:Hv X Ta:=by
 intro ID s σ H o i v ov iv u Q I ro ri rv h;obtain⟨p,xs,k,j,rfl,rfl,hp,hj,q⟩:=h;cases ro;obtain⟨t,rfl⟩:=ri;obtain⟨its,n,r,ho,hz⟩:=I.lst hp;obtain⟨h1,h2,h3,h4⟩:=Dg hj;have hl:=r.length;have hn:=VH;have I':Inv X ID σ (upd H p (.lst (xs.set j v))) {s with heap:=s.heap.update p (W3 (·.setIfInBounds j u))}:=
  I.lstUpd hp ho (Gr its n j u) (r.set rv j) (by rw [sB];exact hz) s.toks
 by_cases h0:0<=k
 ·have hk:k.toNat=j:=by
   rw [rQ h0 h4] at h1;exact E2 h1
  exact G0z ho h0 (by omega) (by rw [S0,<-hl];exact h4) (by rw [hk];exact⟨_,I',q⟩)
 ·have hk:(k+(its.toArray.size:P1)).toNat=j:=by
   rw [p0 (by omega) h3] at h1;rw [S0,<-hl];exact E2 h1
  exact IY ho (by omega) (by rw [S0,<-hl];exact h3) (by omega) (by rw [hk];exact⟨_,I',q⟩)
def VM (lo hi:P5 P1)(n:G5):(fQ lo hi none n).1=((HT.sIx n 0 lo:G5):P1)/\(fQ lo hi none n).2.1=((HT.sIx n n hi:G5):P1)/\(fQ lo hi none n).2.2=1:=by
 refine⟨?_,?_,rfl⟩
 ·cases lo with
  |none=>simp [fQ,HT.sIx]
  |some i=>
   simp only [fQ,HT.sIx,qX,show (1:P1)>0 by decide,f8]
   by_cases h:i<0
   ·simp only [h,f8]<;>omega
   ·simp only [h,mC]<;>omega
 ·cases hi with
  |none=>simp [fQ,HT.sIx]
  |some i=>
   simp only [fQ,HT.sIx,qX,show (1:P1)>0 by decide,f8]
   by_cases h:i<0
   ·simp only [h,f8]<;>omega
   ·simp only [h,mC]<;>omega
def YG (its:G0 G1)(lo hi:P5 P1):slicePick its.toArray lo hi none=((its.drop (HT.sIx its.length 0 lo)).take (HT.sIx its.length its.length hi-HT.sIx its.length 0 lo)).toArray:=by
 obtain⟨h1,h2,h3⟩:=VM lo hi its.toArray.size;unfold slicePick;rw [h1,h2,h3];simp only [sliceRange_one,pick_run,S0]<;>rfl
def Ko (K:G6):V->P5 P1->P5 P1->Hp->VK->Prop:=λx lo hi H Q=> ∃a xs,x= .ref a/\í K H a xs/\ ∀p,H p=none->Q (.ref p) (upd H p (.lst (MB xs lo hi)))
def Cz:SlR X (Ko X.K):=by
 intro ID s σ H x v vl vu lo hi sl Q I rx hs pl pu h;obtain⟨a,xs,rfl,hx,q⟩:=h;cases rx;obtain⟨its,r,ht,hz⟩:=I.list hx;have hlen:=r.length;refine⟨"list",_,slot_list_getitem.lookup,ht.isList.typeIs,?_⟩;refine wpAny_getItem_list_slice ht.isList hs pl pu .none (by simp) ?_ (by rw [S0]<;>omega);rw [YG,<-hlen];refine⟨.ref s.heap.objs.size,_,I.laid (t':=s.toks) (o:= .lst (MB xs lo hi)) (λb ob q=>G7 _ q) (P3 _) ?_,rfl,q _ (I.hok.fresh (P3 _))⟩;exact⟨R6 (ZM xs lo hi) hz,_,0,(r.drop (HT.sIx xs.length 0 lo)).take (HT.sIx xs.length xs.length hi-HT.sIx xs.length 0 lo),S4 _ rfl⟩
def Ŏ:Ù X (.builtin "len") (λxs H Q=> ∃p ys,xs= [.ref p]/\(í X.K H p ys\/å X.K H p ys)/\Q (.int ys.length) H):=by
 intro ID s σ H xs us Q I r h;obtain⟨p,ys,rfl,hq,q⟩:=h;obtain⟨u,rfl,rx⟩:=vj r;cases rx;have hn:=VH;rcases hq with hq|hq
 ·obtain⟨its,r',pl,hz⟩:=I.list hq;have hlen:=r'.length;exact Calls.call_len_list pl.isList (by simp only [S0]<;>omega) ⟨.int ys.length,H,I.tok _,⟨s.toks+1,by rw [S0,hlen]⟩,q⟩
 ·obtain⟨its,r',pl,hz⟩:=I.tuple hq;have hlen:=r'.length;exact len_tuple pl (by simp only [S0]<;>omega) ⟨.int ys.length,H,I.tok _,⟨s.toks+1,by rw [S0,hlen]⟩,q⟩
def ĳ:Ù X (.type "tuple") (λxs H Q=> ∃p ys,xs= [.ref p]/\((í X.K H p ys/\ ∀l,H l=none->Q (.ref l) (upd H l (.tup ys)))\/(å X.K H p ys/\Q (.ref p) H))):=by
 intro ID s σ H xs us Q I r h;obtain⟨p,ys,rfl,h⟩:=h;obtain⟨u,rfl,rx⟩:=vj r;cases rx;rcases h with ⟨hq,q⟩|⟨hq,q⟩
 ·obtain⟨its,r',pl,hz⟩:=I.list hq;have hlen:=r'.length;refine call_tuple_list pl.isList (λh' kp=> ?_) (by simp only [S0]<;>omega);have I1:Inv X ID σ H {s with heap:=h'}:=I.kept (t':=s.toks) kp;have I2:Inv X ID σ (upd H h'.objs.size (.tup ys)) {s with heap:=h'.push {cls:= .type "tuple",data:= .seq its.toArray}}:=
   I1.laid (t':=s.toks) (λb o e=>G7 _ e) (P3 _) (show Í X.prog X.w _ _ _ (.tup ys) from ⟨hz,its,r',é.new _ _⟩)
  exact⟨.ref h'.objs.size,_,I2,rfl,q _ (I1.hok.fresh (P3 _))⟩
 ·obtain⟨its,r',pl,hz⟩:=I.tuple hq;exact call_tuple_same pl ⟨.ref p,H,I,rfl,q⟩
def tyV (K:G6)(T:U5)(x:V)(H:Hp):Prop:=match x with
 | .str _=>T= "str"
 | .int _=>T= "int"
 | .ref p=>(T= "list" /\ ∃xs,í K H p xs)\/(T= "tuple" /\ ∃o,K.lookup p=some o/\o.cls= .type "tuple" /\o.dict=none)\/
  (T= "dict" /\((∃Ã,H p=some (.dK Ã))\/ ∃Ã,H p=some (.dT Ã)))\/(T= "set" /\ ∃S n,H p=some (.set S n))
 |_=>False
def Ac {ID:G0 (G9×Obj)}{σ:St}{H:Hp}{s:G3}{T:U5}{x:V}{v:G1}(I:Inv X ID σ H s)(r:RelV x v)(ty:tyV X.K T x H):
 s.TypeIs v T/\ ∀a,v= .ref a-> ∃ob,s.heap.get? a=some ob/\ob.dict=none:=by
 cases x with
 |str z=>
  obtain⟨t,rfl⟩:=r;cases (show T= "str" from ty);exact⟨IX s z t,λ_ e=>nomatch e⟩
 |int i=>
  obtain⟨t,rfl⟩:=r;cases (show T= "int" from ty);exact⟨mQ s i t,λ_ e=>nomatch e⟩
 |ref p=>
  cases r;rcases ty with ⟨rfl,xs,hq⟩|⟨rfl,o,hk,hc,hd⟩|⟨rfl,hk⟩|⟨rfl,S,n,hk⟩
  ·obtain⟨its,_,pl,_⟩:=I.list hq;refine⟨pl.isList.typeIs,λa e=> ?_⟩;cases e;obtain⟨o,n,e,c,hd,_⟩:=pl;exact⟨o,e,hd⟩
  ·refine⟨⟨o,I.kIn p o hk,hc⟩,λa e=> ?_⟩;cases e;exact⟨o,I.kIn _ o hk,hd⟩
  ·have z: ∃o,s.heap.get? p=some o/\o.ExactDict:=by
    rcases hk with ⟨Ã,hk⟩|⟨Ã,hk⟩
    ·obtain⟨_,_,_,_,o,_,_,e,ex,_⟩:=I.hok p _ hk;exact⟨o,e,ex⟩
    ·obtain⟨_,_,_,_,o,_,_,e,ex,_⟩:=I.hok p _ hk;exact⟨o,e,ex⟩
   obtain⟨o,e,ex⟩:=z;refine⟨⟨o,e,ex.1⟩,λa e2=> ?_⟩;cases e2;exact⟨o,e,ex.2.1⟩
  ·obtain⟨o,_,_,_,e,ex,_⟩:=I.hok p _ hk;refine⟨⟨o,e,ex.1⟩,λa e2=> ?_⟩;cases e2;exact⟨o,e,ex.2.1⟩
 |_=>exact False.elim ty
def tBM (K:G6)(T:U5)(r:V->G0 V->Hp->VK->Prop)(to:TE)(t:TA):TE:=λσ H Q=>to σ H λx H1=>tyV K T x H1/\t σ H1 λxs H2=>r x xs H2 Q
variable {o e:M9}{es:G0 M9}{to:TE}{t:TA}{name:Str}{apos cpos:Pos}{T id:U5}{r:V->G0 V->Hp->VK->Prop}
def MT (pa:PlainAttrs T)(slot:Slot T name id)(hty:IZ (.builtin id)=pure (.type "method_descriptor"))(hm:MtR X id r)(ho:PE X o to)(ha:PA X (e::es) t)
 (hbase:b7 o name X.env (A2 o X.env)=A2 o X.env:=by rfl)
 (hfew:((E1 cpos (P8 (e::es) X.env)).all (λx=> !x.1)&&(j9 cpos (dG [] X.env)).all (λx=>x.1.isSome)
  &&decide ((e::es).length+([]:G0 cL).length+(if ([]:G0 cL).isEmpty then 0 else 1)<30))=true:=by rfl)
 (hline:(apos.endLine==cpos.line)=true:=by rfl)(hs:P8 (e::es) X.env=(false,A2 e X.env)::P8 es X.env:=by rfl)(hplain:(E1 cpos (P8 es X.env)).any (·.1)=false:=by rfl):
 PE X (.Call (.Attribute o name apos) (e::es) [] cpos) (tBM X.K T r to t):=by
 intro ID s σ H Q I h;refine wpAny_Call_method_late hbase hfew hline rfl (Ñ (ho ID s σ H _ I h) λv s1 ⟨x,H1,I1,r1,ty,q1⟩=> ?_);obtain⟨h1,h2⟩:=Ac I1 r1 ty;refine⟨T,id,pa,slot,hty,h1,h2,?_⟩;have hA:=ha cpos ID s1 σ H1 _ I1 q1;rw [hs] at hA ⊢;refine mR (by show (false||(E1 cpos (P8 es X.env)).any (·.1))=false;rw [hplain]<;>rfl) (iD ?_);exact Ñ hA λus s2 ⟨vs,H2,I2,r2,q2⟩=>hm ID s2 σ H2 x vs v us Q I2 r1 r2 q2
end
def MtM (X:Cx)(id:U5)(r:V->G0 V->Hp->VK->Prop):Prop:=
 ∀ (ID:G0 (G9×Obj)) (s:G3) (σ:St) (H:Hp) (x:V) (xs:G0 V) (v:G1) (us:G0 G1) (Q:VK),Inv X ID σ H s->RelV x v->Æ xs us->r x xs H Q->
  R0 (R7 X.prog X.w) X.A (call (.builtin id) (v::us)) (EP X ID σ Q) X.xe s
def Æ.one: ∀ {x:V} {us:G0 G1},Æ [x] us-> ∃u,us= [u]/\RelV x u
 |_,_,.cons r .nil=>⟨_,rfl,r⟩
theorem Æ.rep {xs:G0 V}{us:G0 G1}(h:Æ xs us): ∀k:G5,Æ (B2 k xs).flatten (B2 k us).flatten
 |0=> .nil
 |k+1=>by
  rw [X2,X2,bP,bP];exact Æ.append h (Æ.rep h k)
theorem ZN (its:G0 G1): ∀ (k:G5) (acc:G0 G1),
 tF (λx1 x2=>x1++x2) acc.toArray (B2 k its.toArray)=(acc++(B2 k its).flatten).toArray
 |0,acc=>by simp
 |k+1,acc=>by
  have e:acc.toArray++its.toArray=(acc++its).toArray:=by simp
  have e2:(acc++its)++(B2 k its).flatten=acc++(B2 (k+1) its).flatten:=by
   rw [X2,bP,D4]
  rw [<-e2,<-ZN its k (acc++its),<-e,X2,iJ]
section
variable {X:Cx}{ID:G0 (G9×Obj)}{σ:St}{H:Hp}{s:G3}{l b:G9}{xs ys zs:G0 V}
def Inv.lset {its its':G0 G1}{n:G5}{f:T6 G1->T6 G1}{t':G5}(I:Inv X ID σ H s)(hH:H l=some (.lst xs))
 (e:s.heap.get? l=some {cls:= .type "list",data:= .seq its.toArray n})(hf:f its.toArray=its'.toArray)(hv:Æ ys its')(hz:ys.length<=sizeLine):
 Inv X ID σ (upd H l (.lst ys)) {s with heap:=s.heap.update l (W3 f),toks:=t'}:=by
 have q:=PySem.IsL.update e f;rw [hf] at q;refine I.write (x:=l) (e:=l) (by rw [hH];exact trivial) (.inl rfl) (λb' u hb hu=>(mP s.heap (W3 f) (U6 hb)).trans hu) ⟨_,q⟩ ?_;exact⟨hz,its',_,hv,q⟩
def Inv.lnew {its:G0 G1}{t':G5}(I:Inv X ID σ H s)(hv:Æ ys its)(hz:ys.length<=sizeLine):
 Inv X ID σ (upd H s.heap.objs.size (.lst ys)) {s with heap:=s.heap.push {cls:= .type "list",data:= .seq its.toArray},toks:=t'}:=
 I.laid (λ_ _ q=>G7 _ q) (P3 _) ⟨hz,its,0,hv,S4 _ rfl⟩
def Inv.fresh (I:Inv X ID σ H s):H s.heap.objs.size=none:=I.hok.fresh (P3 _)
def Inv.lstM (I:Inv X ID σ H s)(hH:H l=some (.lst xs)):xs.length<=sizeLine/\ ∃ (its:G0 G1) (n:G5),Æ xs its/\xs.length=its.length/\s.heap.get? l=some {cls:= .type "list",data:= .seq its.toArray n}:=by
 obtain⟨z,its,n,r,e⟩:=I.hok l _ hH;exact⟨z,its,n,r,r.length,e⟩
def MU {n:G5}(h:n<=sizeLine):eM n=false:=by
 unfold eM;exact D9 (by omega)
end
section
variable {X:Cx}
def CA:V->G0 V->Hp->VK->Prop:=λx vs H Q=> ∃l xs y,x= .ref l/\vs= [y]/\H l=some (.lst xs)/\xs.length<sizeLine/\Q .non (upd H l (.lst (xs++ [y])))
def Dh:MtM X "list.append" CA:=by
 intro ID s σ H x vs v us Q I rx rv h;obtain⟨l,xs,y,rfl,rfl,hH,hz,q⟩:=h;cases rx;obtain⟨u,rfl,ru⟩:=rv.one;obtain⟨z,its,n,r,hl,e⟩:=I.lstM hH;refine gW F.slot_list_append ⟨_,e,rfl⟩ F.entry_list_append (F.args_list_append_2 _ _) (PySem.list_append l its.toArray n u (by rw [S0];omega)) ⟨e,?_⟩;refine⟨.non,_,I.lset (its':=its++ [u]) hH e (by simp) (r.append (.cons ru .nil)) ?_,rfl,q⟩;rw [D0,cV];omega
def Kp:R2:=λx y H Q=> ∃l b xs zs,x= .ref l/\y= .ref b/\H l=some (.lst xs)/\H b=some (.lst zs)/\xs.length+zs.length<=sizeLine/\ ∀p,H p=none->Q (.ref p) (upd H p (.lst (xs++zs)))
def Ad:ü X (V6 .Add) Kp:=by
 intro ID s σ H x y v u Q I rx ry h;obtain⟨l,b,xs,zs,rfl,rfl,hH,hB,hz,q⟩:=h;cases rx;cases ry;obtain⟨z,its,n,r,hl,e⟩:=I.lstM hH;obtain⟨z2,ō,n2,r2,hl2,e2⟩:=I.lstM hB;refine PySem.P.add_list e e2 ?_ (by rw [S0,S0];omega);have ea:its.toArray++ō.toArray=(its++ō).toArray:=by simp
 rw [ea];exact⟨.ref _,_,I.lnew (t':=s.toks) (r.append r2) (by rw [D0];omega),rfl,q _ I.fresh⟩
def Kq:R2:=λx y H Q=> ∃l k xs,x= .ref l/\y= .int k/\H l=some (.lst xs)/\ -(2^63)<=k/\k<2^63/\xs.length*k.toNat<=sizeLine/\
 ∀p,H p=none->Q (.ref p) (upd H p (.lst (B2 k.toNat xs).flatten))
def Xl {α:Type}(xs:G0 α)(k:G5):(B2 k xs).flatten.length=k*xs.length:=by
 induction k with
 |zero=>simp
 |succ k ih=>rw [X2,bP,D0,ih,mS,Nat.add_comm]
def Ae:ü X (V6 .Mult) Kq:=by
 intro ID s σ H x y v u Q I rx ry h;obtain⟨l,k,xs,rfl,rfl,hH,h1,h2,hz,q⟩:=h;cases rx;obtain⟨t,rfl⟩:=ry;obtain⟨z,its,n,r,hl,e⟩:=I.lstM hH;have hlen:its.toArray.size*k.toNat<=sizeLine:=by rw [S0,<-hl];exact hz
 have X1J: ¬its.toArray.size*k.toNat>(2^63-1) / 8:=by
  have:(sizeLine:G5)<=(2^63-1) / 8:=by decide
  omega
 have X0V: ¬ (!kK k)=true:=by
  rw [tG h1 h2];exact R3
 have X08: ¬eM (its.toArray.size*k.toNat)=true:=by
  rw [MU hlen];exact R3
 have X09:tF (λx1 x2=>x1++x2) #[] (B2 (if its.toArray.isEmpty=true then 0 else k.toNat) its.toArray)=(B2 k.toNat its).flatten.toArray:=by
  have f0: ∀m:G5,tF (λx1 x2=>x1++x2) #[] (B2 m its.toArray)=(B2 m its).flatten.toArray:=λm=>by
   have:=ZN its m [];rw [O2] at this;exact this
  rw [f0];cases its with
  |nil=>simp
  |cons a r'=>rw [R9 (by simp)]
 refine kY (T:= "list") (U:= "int") (by decide) ⟨_,e,rfl⟩ (λs'=>mQ s' k t) noFill_list_mul sC iK repeat_list F.slot_int_index.lookup
  (gW iK (mQ s k t) qY (qA _ _) (int___rmul___int_list k t l its.toArray n)
   ⟨e,rfl,⟨_,e,rfl⟩,gW F.slot_list_mul ⟨_,e,rfl⟩ F.entry_list_mul (F.args_list_mul_2 _ _) (AutoListH.list___mul___list_int_3 l its.toArray n k t X0V X1J X08) ⟨e,?_⟩⟩)
 rw [X09];exact⟨.ref _,_,I.lnew (t':=s.toks) (r.rep k.toNat) (by rw [Xl,aL];exact hz),rfl,q _ I.fresh⟩
end
end L2
namespace Att
open PySem PySem.W PySem.Calls PyProof.Rows
def ZO {P:G0K}{h:C7}: ∀ (ns:G0 P1) (vs:G0 G1),WellAll P h vs (ns.map WData.int)->W0 vs ns:=by
 intro ns
 induction ns with
 |nil=>
  intro vs w;rw [W4] at w;cases w;exact .nil
 |cons n ns ih=>
  intro vs w;rw [N4] at w;cases w with
  |cons a b=>
   cases a;exact .cons _ _ (ih _ b)
def Di {l:OpenLaw}{n:G5}(hn:l.most=some n){P:G0K}{h:C7}{args:G0 WData}{vals:G0 G1}
 (X0W:l.row.toRowW.claim.pre args=true)(hwl:WellAll P h vals args):
 ∃a vs ns,vals= [Z7 a]/\args= [WData.list (ns.map WData.int)]/\h.get? a=some {cls:= .type "list",data:= .seq vs.toArray}/\W0 vs ns/\ns.length<=n:=by
 have hsh:WShape.hasAll [] args [.list .int]=true:=(pre_splitW X0W).1;have hc:l.pre.holds [] {args:=args}=true:=(pre_splitW X0W).2;obtain⟨d,r,rfl,h1,h2⟩:=hasAllW_cons hsh;obtain rfl:=hasAllW_nil h2;obtain⟨xs,rfl,h3⟩:=hasW_list h1;obtain⟨ns,rfl⟩:=items_int h3;have hlen:ns.length<=n:=by
  unfold OpenLaw.pre at hc;have h4:(WTm.not (.lt (.lit (.int (n:P1))) (.len (.arg 0)))).holds [] {args:= [.list (ns.map .int)]}=true:=by
   have h4:=(holds_andW hc).1;rw [hn] at h4;exact h4
  have h5:=condW_of h4 (w_not (w_lt w_lit (w_len_list (w_arg rfl))));rw [G2] at h5;refine mD λq=> ?_
  have q':(n:P1)<((ns.length:G5):P1):=by omega
  first
   |(rw [D3 q'] at h5;exact absurd h5 (by decide))
   |(simp at h5;omega)
 cases hwl with
 |cons w1 w2=>
  cases w2;cases w1 with
  |list ho X0A=>exact⟨_,_,ns,rfl,rfl,ho,ZO ns _ X0A,hlen⟩
def Dj (l:OpenLaw)(args:G0 WData):l.row.toRowW.claim.post args (.bool true) args=true:=
 postW_of (r:=l.row.toRowW) (X:=(true==true))
  (show WShape.has [] (.bool true) .bool=true by first|rfl|decide|simp [WShape.has,WShape.arms,WShape.armsAll])
  (show (WTm.eq .res (.lit (.bool true))).value [] {args:=args,res:=some (.bool true),after:=args}=some (.bool (true==true)) from w_eq_bool (w_res rfl) w_lit) rfl
def attach_call {l:OpenLaw}{n:G5}{q:S8}{loose:G0 Str}{XP:(Str->P5 G1)->C7->Prop}{YP:B0->C7->Prop}{d:DefRec}
 (hn:l.most=some n)(hdf:d.params.defaults= [])
 (call: ∀ (w:B0) (s₀ s₁:G3) (mg mb:Str->P5 G1) (fa:G9) (o:Obj) (pm cd doc:G1) (a:G9) (vs:G0 G1) (ns:G0 P1),
  Ground q loose [] XP w s₀ mg mb s₁.heap->YP w s₁.heap->
  s₁.heap.get? fa=some o->o.data= .func (docDef d.name d.params d.body d.scope pm cd doc)->s₁.heap.CodeRec cd d.name->mg d.name=some (.ref fa)->
  s₁.heap.get? a=some {cls:= .type "list",data:= .seq vs.toArray}->W0 vs ns->ns.length<=n->s₁.gens= #[]->
  aK (R7 l.prog w) oK (.call (.ref fa) ⟨[.ref a],[]⟩) (λr s'=>r= .ok (.ret (.bool true))/\OldK s₁.heap s'.heap/\s'.os=s₁.os/\iU s'.gens) s₁):
 WalkO q loose XP YP l.row.toRowW d [] (λf vs=>G0a f vs):=by
 intro w s₀ s₁ mg mb G Y fa o pm cd doc dV kV ho hd hcd hD hmg hg args vals as X0W hlay hrd hwl hlo;obtain rfl:dV= .none:=Dflts.none hD hdf;obtain rfl:kV= .none:=Dflts.noKw hD;obtain⟨a,vs,ns,rfl,rfl,X1a,hints,hlen⟩:=Di hn X0W hwl;refine enter_call (cJ (call w s₀ s₁ mg mb fa o pm cd doc a vs ns G Y ho (fd_plain hd) hcd hmg X1a hints hlen hg) λr s' hq=> ?_);obtain⟨rfl,h2,h3,h4⟩:=hq;exact⟨.inl ⟨.bool true,.bool true,[],rfl,λ_=>rfl,.bool true,Dj l _,λ_=>⟨lF,λ_ hm=>(nomatch hm)⟩⟩,h2,h3,h4⟩
end Att
namespace L2
open PySem PySem.Spec PyProof.Rows
theorem VN: ∀ {vs:G0 G1} {ns:G0 P1},W0 vs ns->Æ (ns.map V.int) vs
 |_,_,.nil=> .nil
 |_,_,.cons n t h=> .cons ⟨t,rfl⟩ (VN h)
def Ĵ (H:Hp):Prop:= ∀b,H b=none\/ ∃o xs,H b=some (.frz o (.lst xs))
def yo (s:A6):oJ:=match s with
 | .FunctionDef _ a _ _ _ _ _ _ _ _=>a
 |_=> {posonlyargs:= [],args:= [],vararg:=none,kwonlyargs:= [],kw_defaults:= [],kwarg:=none,defaults:= []}
def jS (s:A6):G0 A6:=match s with
 | .FunctionDef _ _ b _ _ _ _ _ _ _=>b
 |_=> []
def jd (s:A6):K1:=match s with
 | .FunctionDef _ _ _ _ _ _ sc _ _ _=>sc
 |_=> {kind:= .function,names:= [],isGenerator:=false,isCoroutine:=false}
abbrev Û:CXT:=λ_ _ _ _ _ _=>False
abbrev E0:XK:=λ_ _ _=>False
variable {X:Cx}
def CB:ZI Û X E0:=λ_ _ _ _ _ _ _ h=>h.elim
structure Þ (K:G6)(x qual:Str)(st:A6)(f:G9)(fd:M6):Prop where
 ex: ∃ (oc:G1) (od:P5 G9) (kV doc pm:G1) (an:P5 G9) (Ë ct:G1) (ē:T6 (P5 G1)),
  fd=Y5 x qual (yo st) (jS st) (jd st) .none kV doc pm an Ë ct/\K.lookup f=some ⟨oc,od,.func fd,ē⟩/\f6 K Ë qual=true
 kp:K8 K (.ref f)=true
section
variable {P:S8}{w:B0}{K:G6}{mg:Str->P5 G1}{base:C7}
variable {qual:Str}
def Þ.ok {x:Str}{st:A6}{f:G9}{fd:M6}{N ps:G0 Str}{k:G5}{sp:Sp}(F:Þ K x qual st f fd)(S:Á N ps (jd st))(len: ∀vs H Q E,sp vs H Q E->vs.length=ps.length)
 (Ò: ∀ (Ë:G1) (A:T8) (outer:G0 Env) (s:G3) (H:Hp) (vs:G0 V) (Q:VK) (E:XK),Î k (A.deeper (Q3 qual (jd st) s.heap.objs.size f Ë))->sp vs H Q E->
  ∃t,ļ (WG Û P w K mg base N qual (jd st) f Ë A outer s H E).nox (jS st) t/\t {nx:=λ_ H'=>Q .non H',rt:=Q} (start N vs) H):È P w K mg base Û (k+1) f fd ps sp:=by
 obtain⟨oc,od,kV,doc,pm,an,Ë,ct,ē,rfl,lk,hcd⟩:=F.ex;refine Cv lk hcd S len λA outer s H vs Q E hr Ŝ=> ?_
 obtain⟨t,h,q⟩:=Ò Ë A outer s H vs Q E hr Ŝ;exact⟨t,h.nox,q⟩
def Þ.binds {x:Str}{st:A6}{f:G9}{fd:M6}{ps:G0 Str}(F:Þ K x qual st f fd)
 (h: ∀ (kV doc pm:G1) (an:P5 G9) (Ë ct:G1) (us:G0 G1),us.length=ps.length->sZ (Y5 x qual (yo st) (jS st) (jd st) .none kV doc pm an Ë ct) ⟨us,[]⟩=pure (ps.zip us)):Binds K fd ps []:=by
 obtain⟨oc,od,kV,doc,pm,an,Ë,ct,ē,rfl,lk,hcd⟩:=F.ex;exact .all (h kV doc pm an Ë ct)
def Af {x:Str}{st:A6}{f:G9}{oc:G1}{od an:P5 G9}{ē:T6 (P5 G1)}{kV doc pm Ë ct:G1}(l:K.lookup f=some ⟨oc,od,.func (Y5 x qual (yo st) (jS st) (jd st) .none kV doc pm an Ë ct),ē⟩)
 (c:f6 K Ë qual=true)(k:K8 K (.ref f)=true):Þ K x qual st f (Y5 x qual (yo st) (jS st) (jd st) .none kV doc pm an Ë ct):=⟨⟨oc,od,kV,doc,pm,an,Ë,ct,ē,rfl,l,c⟩,k⟩
end
def jw {n:G5}(h:n<=1000):n<sizeLine:=V8 h (by decide)
section
variable {X:Cx}
def pv (i:G5){x:Str}{pos:Pos}(hN:X.N[i]? =some x:=by rfl)(hv:Vis X.env.scope x:=by first|exact K9 rfl|exact bG (K9 rfl)|exact bG (bG rfl))(hd:(x==("__debug__" :Str))=false:=by decide)
 (hcd:(x==("__classdict__" :Str))=false:=by decide):PE X (.Name x pos) (SG i):=Bv hN hv hd hcd
end
def wz {A B:Prop}(h:B):if false=true then A else B:=by
 rw [R9 R3];exact h
def JB {A B:Prop}(h:A):if true=true then A else B:=by
 rw [R8 rfl];exact h
def WJ {c A B:Prop}[Decidable c](h1:c->A)(h2: ¬c->B):if c then A else B:=by
 by_cases h:c
 ·rw [R8 h];exact h1 h
 ·rw [R9 h];exact h2 h
section
variable {κ:Type}[DecidableEq κ]
noncomputable def WK (Ã:G0 (κ×V))(k:κ):P5 V:=(Ã.find? λkv=>decide (kv.1=k)).map (·.2)
noncomputable def Qf (Ã:G0 (κ×V))(k:κ)(v:V):G0 (κ×V):=
 if (Ã.any λkv=>decide (kv.1=k))=true then Ã.map (λkv=>if kv.1=k then (kv.1,v) else kv) else Ã++ [(k,v)]
def Zr {p:κ×V}{r:G0 (κ×V)}{k:κ}(e:p.1=k):WK (p::r) k=some p.2:=by simp [WK,aB,e]
def Zt {p:κ×V}{r:G0 (κ×V)}{k:κ}(e: ¬p.1=k):WK (p::r) k=WK r k:=by simp [WK,aB,e]
theorem YH (k:κ): ∀Ã:G0 (κ×V),(Ã.any λkv=>decide (kv.1=k))=(WK Ã k).isSome
 | []=>rfl
 |p::r=>by
  rw [hZ]
  by_cases e:p.1=k
  ·simp only [Zr e,D3 e,xL,pG]
  ·rw [Zt e,D9 e,uQ];exact YH k r
def ZP (Ã:G0 (κ×V))(k:κ)(v:V):(Qf Ã k v).length<=Ã.length+1:=by
 unfold Qf;split
 ·rw [G2];omega
 ·rw [D0,R1,C4];omega
def MV {Ã:G0 (κ×V)}{k:κ}(v:V)(h:WK Ã k=none):Qf Ã k v=Ã++ [(k,v)]:=by
 unfold Qf;rw [YH,h];exact R9 (by decide)
def KV.val {Ã:G0 (κ×V)}{vs:G0 (κ×G1)}(r:KV Ã vs)(k:κ):Ŋ (WK Ã k) (oM vs k):=by
 unfold KV at r
 induction r with
 |nil=>exact aS
 | @cons p q ps qs h t ih=>
  obtain⟨h1,h2⟩:=h
  by_cases e:p.1=k
  ·have e':q.1=k:=h1.symm.trans e;have b:oM (q::qs) k=some q.2:=by simp [oM,aB,e']
   rw [Zr e,b];exact h2
  ·have e': ¬q.1=k:=λz=>e (h1.trans z)
   have b:oM (q::qs) k=oM qs k:=by simp [oM,aB,e']
   rw [Zt e,b];exact ih
def KV.any {Ã:G0 (κ×V)}{vs:G0 (κ×G1)}(r:KV Ã vs)(k:κ):(Ã.any λkv=>decide (kv.1=k))=vs.any λkv=>decide (kv.1=k):=by
 unfold KV at r
 induction r with
 |nil=>rfl
 |cons h t ih=>rw [hZ,hZ,ih,h.1]
def KV.repl {Ã:G0 (κ×V)}{vs:G0 (κ×G1)}(r:KV Ã vs)(k:κ){y:V}{u:G1}(ry:RelV y u):
 KV (Ã.map λkv=>if kv.1=k then (kv.1,y) else kv) (vs.map λkv=>if kv.1=k then (kv.1,u) else kv):=by
 unfold KV at r ⊢
 induction r with
 |nil=>exact .nil
 | @cons p q ps qs h t ih=>
  rw [N4,N4];refine .cons ?_ ih;obtain⟨h1,h2⟩:=h
  by_cases e:p.1=k
  ·rw [R8 e,R8 (h1.symm.trans e)];exact⟨h1,ry⟩
  ·rw [R9 e,R9 (λz=>e (h1.trans z))];exact⟨h1,h2⟩
def KV.put {Ã:G0 (κ×V)}{vs:G0 (κ×G1)}(r:KV Ã vs)(k:κ){y:V}{u:G1}(ry:RelV y u):KV (Qf Ã k y) (qZ vs k u):=by
 unfold Qf qZ;rw [r.any k]
 by_cases e:(vs.any λkv=>decide (kv.1=k))=true
 ·rw [R8 e,R8 e];exact r.repl k ry
 ·rw [R9 e,R9 e];exact Paired.snoc r ⟨rfl,ry⟩
def KV.length {Ã:G0 (κ×V)}{vs:G0 (κ×G1)}(r:KV Ã vs):Ã.length=vs.length:=Paired.length r
end
variable {P:S8}{w:B0}
def MW {k:ß}{u:G1}(r:RelV (kV k) u):(zi P w).is k u=true:=by
 cases k with
 |inl i=>obtain⟨t,e⟩:=(show ∃t,u=fN i t from r);subst e;exact Xi P w i t
 |inr x=>obtain⟨t,e⟩:=(show ∃t,u=oG x t from r);subst e;exact Xj P w x t
theorem VO: ∀ {ks:G0 ß} {us:G0 G1},Æ (ks.map kV) us->ItemsAre (zi P w) ks us
 | [],_,r=>by rw [W4] at r;cases r;exact .nil
 |k::ks,_,r=>by
  rw [N4] at r;cases r with
  |cons h t=>exact .cons (MW h) (VO t)
abbrev KT (H:Hp):G0 (G0 ß×V)->G0 (G0 ß×G9×G1)->Prop:=Paired λp q=>p.1=q.1/\H q.2.1=some (.tup (p.1.map kV))/\RelV p.2 q.2.2
variable {H:Hp}
def KT.val {Ã:G0 (G0 ß×V)}{xs:G0 (G0 ß×G9×G1)}(r:KT H Ã xs)(k:G0 ß):Ŋ (WK Ã k) ((xB xs k).map (·.2)):=by
 induction r with
 |nil=>exact aS
 | @cons p q ps qs h t ih=>
  obtain⟨h1,_,h2⟩:=h
  by_cases e:p.1=k
  ·have e':q.1=k:=h1.symm.trans e;have b:xB (q::qs) k=some q.2:=by simp [xB,aB,e']
   rw [Zr e,b];exact h2
  ·have e': ¬q.1=k:=λz=>e (h1.trans z)
   have b:xB (q::qs) k=xB qs k:=by simp [xB,aB,e']
   rw [Zt e,b];exact ih
section
variable {P:S8}{w:B0}{H:Hp}{h:C7}{a:G9}
def Ag {u:HO}(ok:ù P w H h)(e:Rd H a u):Í P w H h a u:=e.ok ok
def Dk {Ã:G0 (ß×V)}(ok:ù P w H h)(e:Rd H a (.dK Ã)):Ã.length<=sizeLine/\(a==cI)=false/\ ∃vs,KV Ã vs/\h.DictOf (zi P w) a vs:=
 show Í P w H h a (.dK Ã) from Ag ok e
def Ah {Ã:G0 (ß×V)}(ok:ù P w H h)(e:H a=some (.dK Ã)):Ã.length<=sizeLine/\(a==cI)=false/\ ∃vs,KV Ã vs/\h.DictOf (zi P w) a vs:=Dk ok (.inl e)
def BB {ks:G0 ß}(ok:ù P w H h)(e:H a=some (.tup (ks.map kV))):(tupleKind (zi P w)).is h ks a:=by
 obtain⟨_,its,r,o,h1,h2,_,n,h3⟩:=(show Í P w H h a (.tup (ks.map kV)) from ok a _ e);exact⟨o,its.toArray,n,h1,h2,h3,by simpa using VO r⟩
def CC {Ã:G0 (G0 ß×V)}(ok:ù P w H h)(e:Rd H a (.dT Ã)):Ã.length<=sizeLine/\(a==cI)=false/\
 ∃xs,KT H Ã xs/\h.DictOfH (tupleKind (zi P w)) a xs:=by
 obtain⟨z,y,xs,r,o,es,ep,h1,h2,h3,h4,h5⟩:=(show Í P w H h a (.dT Ã) from Ag ok e);refine⟨z,y,xs,r,o,es,ep,h1,h2,h3,h4,λx hx=> ?_,h5⟩;have all: ∀ {l:G0 (G0 ß×V)} {m:G0 (G0 ß×G9×G1)},KT H l m-> ∀x∈m,(tupleKind (zi P w)).is h x.1 x.2.1:=by
  intro l m q
  induction q with
  |nil=>intro x hx;exact nomatch hx
  | @cons p q ps qs hq t ih=>
   intro x hx;rcases D5.mp hx with e|hx
   ·subst e;exact BB ok (by rw [<-hq.1];exact hq.2.1)
   ·exact ih x hx
 exact all r x hx
end
def X0B (H:Hp)(a:G9)(y:V)(r:P5 V):Prop:=
 (∃Ã k,Rd H a (.dK Ã)/\y=kV k/\r=WK Ã k)\/ ∃Ã k b,Rd H a (.dT Ã)/\y= .ref b/\H b=some (.tup (k.map kV))/\r=WK Ã k
variable {a:G9}
def X0B.k {Ã:G0 (ß×V)}{k:ß}(e:H a=some (.dK Ã)):X0B H a (kV k) (WK Ã k):= .inl ⟨Ã,k,.inl e,rfl,rfl⟩
section
variable {X:Cx}{ID:G0 (G9×Obj)}{σ:St}{H:Hp}{s:G3}{a:G9}{y v:V}{u r:G1}{o:P5 V}{A:T8}{E:G1->G3->Prop}
def Inv.big (I:Inv X ID σ H s):cI<s.heap.objs.size:=by
 have h:mainGlobals<s.heap.objs.size:=(I.mod.glob.keeps I.bk).lt;exact cM (by decide) h
def Dl {Q:G1->G3->Prop}(hu:A.units+1<cLine)(I:Inv X ID σ H s)(g:X0B H a y (some v))(ry:RelV y u)(h: ∀w' s',Inv X ID σ H s'->RelV v w'->Q w' s'):
 R0 (R7 X.prog X.w) A (iV (.ref a) u) Q E s:=by
 rcases g with ⟨Ã,k,e,ey,l⟩|⟨Ã,k,b,e,ey,eb,l⟩
 ·subst ey;obtain⟨z,hd,vs,rel,dd⟩:=Dk I.hok e;obtain⟨w',hw,rw'⟩:=Ŋ.some_of (v:=v) (o:=oM vs k) (by rw [l];exact rel.val k);exact wpAny_getItem_of (MW ry) dd.mapOf hw (h w' _ (I.tok _) rw')
 ·subst ey;cases (show u=Z7 b from ry);obtain⟨z,hd,xs,rel,dd⟩:=CC I.hok e;obtain⟨w',hw,rw'⟩:=Ŋ.some_of (v:=v) (o:=(xB xs k).map (·.2)) (by rw [l];exact rel.val k);obtain⟨p,hp,hp2⟩:=F8.mp hw;refine wpAny_getItem_heap (tupleKind_room_in1 hu) (BB I.hok eb) dd hp ?_;rw [hp2];exact h w' _ (I.tok _) rw'
def Dm {h':C7}{t':G5}{ob:HO}(I:Inv X ID σ H s)(mu:Mut (H a))(hs:O6 a s.heap h')(he: ∃q,h'.get? a=some q)(new:Í X.prog X.w (upd H a ob) h' a ob):
 Inv X ID σ (upd H a ob) {s with heap:=h',toks:=t'}:=
 I.write (x:=a) (e:=a) mu (.inl rfl) (λb q hb z=>(hs.2 b hb).trans z) he new
def BC {P:S8}{w:B0}{H':Hp}{h':C7}{Ã:G0 (ß×V)}{vs:G0 (ß×G1)}(z:Ã.length<=sizeLine)(hd:(a==cI)=false)(rel:KV Ã vs)(dd:h'.DictOf (zi P w) a vs):
 Í P w H' h' a (.dK Ã):=⟨z,hd,vs,rel,dd⟩
end
section
variable {X:Cx}{ID:G0 (G9×Obj)}{σ:St}{H:Hp}{s:G3}{a:G9}{Ã:G0 (ß×V)}{k:ß}{u:G1}{A:T8}{E:G1->G3->Prop}
def Tb {Q:G1->G3->Prop}(I:Inv X ID σ H s)(e:Rd H a (.dK Ã))(h: ∀t s',Inv X ID σ H s'->Q (.int Ã.length t) s'):R0 (R7 X.prog X.w) A (call (.builtin "len") [.ref a]) Q E s:=by
 obtain⟨z,hd,vs,rel,dd⟩:=Dk I.hok e;refine call_len_dict hd dd (by rw [<-rel.length];rw [nN] at z;omega) ?_;rw [<-rel.length];exact h _ _ (I.tok _)
end
def Tc (i:M9):Prop:= ∀ov iv,nV i false ov iv=G0s [ov,iv] (iV ov iv)
variable {prog:S8}{s:G3}{env:Env}{pos:Pos}
def CF {A:T8}{E:G1->G3->Prop}{value slice:M9}{T id:U5}{Q:G1->G3->Prop}
 (hl:IW (.type T) "__getitem__" =pure (some (.builtin id)))(hs:Tc slice)
 (h:R0 (R7 prog w) A (A2 value env) (λo s₁=>R0 (R7 prog w) A (A2 slice env) (λi s₂=>s₂.TypeIs o T/\R0 (R7 prog w) A (iV o i) Q E s₂) E s₁) E s):
 R0 (R7 prog w) A (A2 (.Subscript value slice pos) env) Q E s:=by
 refine tE (M0 h (λo s₁ h₁=>M0 h₁ (λi s₂ X0C=> ?_) λ_ _ x=>x) λ_ _ x=>x);obtain⟨hT,X0C⟩:=X0C;unfold oZ;refine wpAny_bind ?_;rw [getitemInPython_of_ne hT.not_modules];refine wpAny_bind (m5 hT hl ?_);have fin:R0 (R7 prog w) A (nV slice false o i) (λr s₃=>R0 (R7 prog w) A (letTemporaryGo value o r >>= λ_=>pure r) Q E s₃) E s₂:=by
  rw [hs o i];exact wpAny_operating (M0 X0C (λr s₃ X0X=>wpAny_bind (wpAny_letTemporaryGo (P2 X0X))) λ_ _ x=>x)
 first
  |exact P2 (wpAny_bind fin)
  |exact wpAny_bind (P2 (wpAny_bind fin))
  |exact wpAny_bind fin
variable {σ:St}
def Xm {ID:G0 (G9×Obj)}{y:V}{o:P5 V}(I:Inv X ID σ H s)(g:X0B H a y o):s.TypeIs (.ref a) "dict" :=by
 rcases g with ⟨Ã,k,e,_,_⟩|⟨Ã,k,b,e,_,_,_⟩
 ·obtain⟨_,_,vs,_,dd⟩:=Dk I.hok e;exact dd.typeIs
 ·obtain⟨_,_,xs,_,dd⟩:=CC I.hok e;exact dd.typeIs
def Td (td ty:TE):TE:=λσ H Q=>td σ H λx H1=>ty σ H1 λy H2=> ∃a v,x= .ref a/\X0B H2 a y (some v)/\Q v H2
section
variable {X:Cx}{o i e value:M9}{pos pos' tpos:Pos}{td ty tv:TE}
def CG (hu:X.A.units+1<cLine)(ho:PE X o td)(hi:PE X i ty)(hs:Tc i):PE X (.Subscript o i pos) (Td td ty):=by
 intro ID s σ H Q I h;refine CF PySem.F.slot_dict_getitem.lookup hs (Ñ (ho ID s σ H _ I h) λu s1 ⟨x,H1,I1,rx,q1⟩=>Ñ (hi ID s1 σ H1 _ I1 q1) λiv s2 ⟨y,H2,I2,ry,a,v,ex,g,q2⟩=> ?_);subst ex;obtain rfl:u=Z7 a:=rx;exact⟨Xm I2 g,Dl hu I2 g ry λw' s3 I3 rw'=>⟨v,H2,I3,rw',q2⟩⟩
end
def MX (h:C7)(hb:cI<h.objs.size):Í P w H (h.push {cls:= .type "dict",data:= .dict #[]}) h.objs.size (.dK []):=
 ⟨N3 _,beq_eq_false_iff_ne.mpr (U6 (M8 hb)),[],.nil,Heap.DictOf.new h⟩
def Do:G0 (TE×TE)->St->Hp->(G0 (V×V)->Hp->Prop)->Prop
 | [],_,H,Q=>Q [] H
 |(tk,tv)::r,σ,H,Q=>tk σ H λx H1=>tv σ H1 λy H2=>Do r σ H2 λps H3=>Q ((x,y)::ps) H3
abbrev VV:G0 (V×V)->G0 (G1×G1)->Prop:=Paired λp q=>RelV p.1 q.1/\RelV p.2 q.2
def PPs (X:Cx)(pos:Pos)(keys:G0 (P5 M9))(values:G0 M9)(trs:G0 (TE×TE)):Prop:=
 ∀ (ID:G0 (G9×Obj)) (s:G3) (σ:St) (H:Hp) (Q:G0 (V×V)->Hp->Prop),Inv X ID σ H s->Do trs σ H Q->
  R0 (R7 X.prog X.w) X.A (evalPairs (pairTrees keys values X.env pos)) (λvs s'=> ∃ps H',Inv X ID σ H' s'/\VV ps vs/\Q ps H') X.xe s
def CH:PPs X pos [] [] []:=λID s σ H Q I h=>pairTrees_nil_walk ⟨[],H,I,.nil,h⟩
def MY {k v:M9}{ks:G0 (P5 M9)}{vs:G0 M9}{tk tv:TE}{trs:G0 (TE×TE)}(hk:PE X k tk)(hv:PE X v tv)(hr:PPs X pos ks vs trs):
 PPs X pos (some k::ks) (v::vs) ((tk,tv)::trs):=λID s σ H Q I h=>
 pairTrees_cons_walk (Ñ (hk ID s σ H _ I h) λu s1 ⟨x,H1,I1,rx,q1⟩=>Ñ (hv ID s1 σ H1 _ I1 q1) λw2 s2 ⟨y,H2,I2,ry,q2⟩=>
  Ñ (hr ID s2 σ H2 _ I2 q2) λws s3 ⟨ps,H3,I3,rel,q3⟩=>⟨(x,y)::ps,H3,I3,.cons ⟨rx,ry⟩ rel,q3⟩)
noncomputable def VP (Ã more:G0 (ß×V)):G0 (ß×V):=more.foldl (λacc kv=>Qf acc kv.1 kv.2) Ã
def KV.merge: ∀ {more:G0 (ß×V)} {rs:G0 (ß×G1)} {Ã:G0 (ß×V)} {vs:G0 (ß×G1)},KV more rs->KV Ã vs->KV (VP Ã more) (merged vs rs):=by
 intro more rs Ã vs r;unfold KV at r
 induction r generalizing Ã vs with
 |nil=>intro q;exact q
 | @cons p q ps qs h t ih=>
  intro r0;have e:KV (Qf Ã p.1 p.2) (qZ vs q.1 q.2):=by
   have:=r0.put p.1 h.2;rw [<-h.1];exact this
  exact ih e
theorem vR: ∀ (more Ã:G0 (ß×V)),(VP Ã more).length<=Ã.length+more.length
 | [],Ã=>by show Ã.length<=Ã.length+0;omega
 |p::r,Ã=>by
  have h1:=vR r (Qf Ã p.1 p.2);have h2:=ZP Ã p.1 p.2;show (VP (Qf Ã p.1 p.2) r).length<=_;rw [R1];omega
theorem WW {P:S8}{w:B0}: ∀ {Ã:G0 (ß×V)} {ws:G0 (G1×G1)},VV (Ã.map λkv=>(kV kv.1,kv.2)) ws-> ∃rs,Carries (zi P w) ws rs/\KV Ã rs
 | [],_,r=>by rw [W4] at r;cases r;exact⟨[],aS,.nil⟩
 |p::Ã,_,r=>by
  rw [N4] at r;cases r with
  | @cons a b as bs h t=>
   obtain⟨rs,c,q⟩:=WW (P:=P) (w:=w) t;obtain⟨b1,b2⟩:=b;exact⟨(p.1,b2)::rs,⟨MW h.1,rfl,c⟩,.cons ⟨rfl,h.2⟩ q⟩
def Te (trs:G0 (TE×TE)):TE:=λσ H Q=> ∀p,H p=none->Do trs σ (upd H p (.dK [])) λps H2=>H2 p=some (.dK [])/\ ∃Ã:G0 (ß×V),ps=Ã.map (λkv=>(kV kv.1,kv.2))/\Ã.length<=15/\Q (.ref p) (upd H2 p (.dK (VP [] Ã)))
def CI {keys:G0 (P5 M9)}{values:G0 M9}{trs:G0 (TE×TE)}(h:PPs X pos keys values trs)(X0A:keys.all (·.isSome)=true)(hl:keys.length=values.length)(h0:keys≠ [])
 (h15:keys.length<=15):PE X (.Dict keys values pos) (Te trs):=by
 intro ID s σ H Q I q;have hn:=I.hok.fresh (P3 s.heap.objs.size);have I1:=I.laid (a:=s.heap.objs.size) (o:= .dK []) (h':=s.heap.push {cls:= .type "dict",data:= .dict #[]}) (t':=s.toks) (λ_ _ q=>G7 _ q) (P3 _) (MX s.heap I.big);refine wpAny_Dict_walk (knd:=zi X.prog X.w) X0A hl h0 h15 (Ñ (h ID _ σ _ _ I1 (q _ hn)) λws s2 ⟨ps,H2,I2,rel,e,Ã,ep,lk,q2⟩=> ?_);subst ep;obtain⟨rs,c,rk⟩:=WW (P:=X.prog) (w:=X.w) rel;obtain⟨z,hd,vs0,r0,dd⟩:=Ah I2.hok e;cases r0;refine⟨rs,c,dd,λh' dd' hs=>⟨.ref s.heap.objs.size,_,?_,rfl,q2⟩⟩;have hz:(VP [] Ã).length<=sizeLine:=by
  have h1:=vR Ã [];rw [C4] at h1;rw [nN];omega
 have he: ∃q,h'.get? s.heap.objs.size=some q:=let ⟨q,_,_,hq,_⟩:=dd';⟨q,hq⟩;exact Dm I2 (by rw [e];exact aS) hs he (BC hz hd (rk.merge .nil) dd')
structure M2 (X:Cx)(o:M9)(m:Str)(apos:Pos)(e f:M9)(cpos:Pos):Prop where
 base:b7 o m X.env (A2 o X.env)=A2 o X.env
 few:((E1 cpos (P8 [e,f] X.env)).all (λx=> !x.1)&&(j9 cpos (dG [] X.env)).all (λx=>x.1.isSome)
  &&decide (([e,f]:G0 M9).length+([]:G0 cL).length+(if ([]:G0 cL).isEmpty then 0 else 1)<30))=true
 line:(apos.endLine==cpos.line)=true
 trees:E1 cpos (P8 [e,f] X.env)= [(false,A2 e X.env),(false,A2 f X.env)]
def IsD (H:Hp)(a:G9):Prop:=(∃Ã,Rd H a (.dK Ã))\/ ∃Ã,Rd H a (.dT Ã)
def Ai {ID:G0 (G9×Obj)}(I:Inv X ID σ H s)(d:IsD H a):
 s.TypeIs (.ref a) "dict" /\(∀b,Z7 a= .ref b-> ∃ob,s.heap.get? b=some ob/\ob.dict=none)/\(a==cI)=false:=by
 rcases d with ⟨Ã,e⟩|⟨Ã,e⟩
 ·obtain⟨_,hd,vs,_,dd⟩:=Dk I.hok e;refine⟨dd.typeIs,λb q=> ?_,hd⟩;cases q;obtain⟨ob,_,_,h1,h2,_⟩:=dd;exact⟨ob,h1,h2.2.1⟩
 ·obtain⟨_,hd,xs,_,dd⟩:=CC I.hok e;refine⟨dd.typeIs,λb q=> ?_,hd⟩;cases q;obtain⟨ob,_,_,h1,h2,_⟩:=dd;exact⟨ob,h1,h2.2.1⟩
noncomputable def wI (names:G0 (Str×NameKind))(env:Env)(cs:G0 (Str×G9)):G0 (Str×G9):=
 names.foldl (λcs p=>if p.2= .free then (match env.cells.lookup p.1 with|some c=>(p.1,c)::cs|none=>cs) else cs) cs
def zN (p:Str×NameKind)(l:G0 (Str×NameKind))(env:Env)(cs:G0 (Str×G9)):
 wI (p::l) env cs=wI l env (if p.2= .free then (match env.cells.lookup p.1 with|some c=>(p.1,c)::cs|none=>cs) else cs):=rfl
theorem ZQ {f:Str×NameKind->G0 (Str×G9)->Sem (fT (G0 (Str×G9)))}
 (h1: ∀p cs,p.2≠ .free->f p cs=pure (.yield cs))(h2: ∀p cs c,p.2= .free->env.cells.lookup p.1=some c->f p cs=pure (.yield ((p.1,c)::cs))):
 ∀ (l:G0 (Str×NameKind)) (cs:G0 (Str×G9)),(∀p∈l,p.2= .free-> ∃c,env.cells.lookup p.1=some c)->forIn l cs f=pure (wI l env cs)
 | [],cs,_=>rfl
 |p::l,cs,h=>by
  have ih:=ZQ h1 h2 l
  by_cases hp:p.2= .free
  ·obtain⟨c,hc⟩:=h p R5 hp;rw [fF,h2 p cs c hp hc,pure_bind];show forIn l ((p.1,c)::cs) f=_;rw [ih _ λq hq=>h q (T3 _ hq),zN,R8 hp,hc]
  ·rw [fF,h1 p cs hp,pure_bind];show forIn l cs f=_;rw [ih _ λq hq=>h q (T3 _ hq),zN,R9 hp]
variable {scope:K1}
def YI (h: ∀p∈scope.names,p.2= .free-> ∃c,env.cells.lookup p.1=some c):kL scope env=pure (wI scope.names env []):=by
 simp only [kL];rw [ZQ (env:=env) (λp cs hp=> ?_) (λp cs c hp hc=> ?_) _ _ h]
 ·rfl
 ·obtain⟨n,k⟩:=p;have hb:(k==A3)=false:=by simpa using hp
  simp only [hb,A0,mC]
 ·obtain⟨n,k⟩:=p;have hb:(k==A3)=true:=by simpa using hp
  have Ļ:env.cells.lookup n=some c:=hc;simp only [hb,f8,G0L,Ļ,pure_bind]
theorem ZR: ∀ (l:G0 (Str×NameKind)) (cs:G0 (Str×G9)),(∀p∈cs,env.cells.lookup p.1=some p.2)-> ∀p∈wI l env cs,env.cells.lookup p.1=some p.2
 | [],cs,h,p,hp=>h p hp
 |q::l,cs,h,p,hp=>by
  rw [zN] at hp;refine ZR l _ (λr hr=> ?_) p hp
  by_cases hq:q.2= .free
  ·rw [R8 hq] at hr;cases e:env.cells.lookup q.1 with
   |none=>rw [e] at hr;exact h r hr
   |some c=>
    rw [e] at hr;rcases D5.mp hr with rfl|hr
    ·exact e
    ·exact h r hr
  ·rw [R9 hq] at hr;exact h r hr
theorem ZS: ∀ (l:G0 (Str×NameKind)) (cs:G0 (Str×G9)),∀p∈cs,p∈wI l env cs
 | [],cs,p,hp=>hp
 |q::l,cs,p,hp=>by
  rw [zN];refine ZS l _ p ?_
  by_cases hq:q.2= .free
  ·rw [R8 hq];cases e:env.cells.lookup q.1 with
   |none=>exact hp
   |some c=>exact T3 _ hp
  ·rw [R9 hq];exact hp
variable {x:Str}
theorem ZT {c:G9}(hc:env.cells.lookup x=some c): ∀ (l:G0 (Str×NameKind)) (cs:G0 (Str×G9)),(x,A3)∈l->(x,c)∈wI l env cs
 |q::l,cs,h=>by
  rw [zN];rcases D5.mp h with e|h
  ·subst e;rw [R8 rfl,hc];exact ZS l _ _ R5
  ·exact ZT hc l _ h
variable {α:Type}
theorem wg: ∀ {l:G0 (Str×α)} {x:Str} {c:α},l.lookup x=some c->(x,c)∈l
 | [],_,_,h=>by simp at h
 |(n,k)::r,x,c,h=>by
  rw [E3] at h;cases hx:x==n with
  |true=>
   rw [hx] at h;have e:x=n:=eq_of_beq hx;cases h;subst e;exact R5
  |false=>rw [hx] at h;exact T3 _ (wg h)
theorem WY: ∀ {l:G0 (Str×α)} {x:Str} {c:α},(x,c)∈l-> ∃c',l.lookup x=some c'
 |(n,k)::r,x,c,h=>by
  rw [E3];cases hx:x==n with
  |true=>exact⟨_,rfl⟩
  |false=>
   rcases D5.mp h with e|h
   ·cases e;simp at hx
   ·exact WY h
def WZ {l:G0 (Str×NameKind)}{c:G9}(h:(wI l env []).lookup x=some c):env.cells.lookup x=some c:=
 ZR l [] (λ_ z=>nomatch z) (x,c) (wg h)
def Dp {l:G0 (Str×NameKind)}{c:G9}(hc:env.cells.lookup x=some c)(h:(x,A3)∈l):(wI l env []).lookup x=some c:=by
 obtain⟨c',e⟩:=WY (ZT hc l [] h);have:=WZ e;rw [hc] at this;cases this;exact e
theorem wS {κ:Type}{f:Str×κ->Str×κ}{g:Str->κ->κ}(hf: ∀n k,f (n,k)=(n,g n k))(x:Str): ∀l:G0 (Str×κ),(l.map f).lookup x=(l.lookup x).map (g x)
 | []=>rfl
 |(n,k)::r=>by
  rw [N4,hf,E3,E3,wS hf x r];cases same:x==n with
  |false=>rfl
  |true=>rw [eq_of_beq same];rfl
def jV {names:G0 (Str×NameKind)}{k:NameKind}(found:
 (names.map λ(n,k)=>if (k==A3&&env.scope.kind== .function&&env.kindOf n==some .cell) then (n,b8) else (n,k)).lookup x=some k):
  names.lookup x=some k\/names.lookup x=some .free:=by
 rw [wS (g:=λn k=>if (k==A3&&env.scope.kind== .function&&env.kindOf n==some .cell) then .cell else k) (λn k=>by dsimp only;split<;>rfl)] at found;obtain⟨k0,was,now⟩:=F8.mp found;split at now
 ·rename_i c;simp only [B8,beq_iff_eq] at c;exact .inr (by rw [was,c.1.1])
 ·exact .inl (by rw [was,now])
theorem zY: ∀ (names:G0 (Str×NameKind)) (n:G5) (acc:G0 (Str×G9)) (p:Str×G9),p∈U7 n names acc->p∈acc\/(n<=p.2/\(p.1,b8)∈names)
 | [],_,_,_,h=> .inl h
 |(x,k)::r,n,acc,p,h=>by
  unfold U7 at h;split at h
  ·rename_i hk;rcases zY r (n+1) _ p h with z|⟨z1,z2⟩
   ·rcases D5.mp z with e|z
    ·subst e;have:k= .cell:=by simpa using hk
     subst this;exact .inr ⟨P3 _,R5⟩
    ·exact .inl z
   ·exact .inr ⟨by omega,T3 _ z2⟩
  ·rcases zY r n acc p h with z|⟨z1,z2⟩
   ·exact .inl z
   ·exact .inr ⟨z1,T3 _ z2⟩
theorem jO: ∀ (names:G0 (Str×NameKind)) (n:G5) (acc:G0 (Str×G9)),U7 n names acc=U7 n names []++acc
 | [],_,_=>rfl
 |(x,k)::r,n,acc=>by
  unfold U7;split
  ·rw [jO r (n+1) ((x,n)::acc),jO r (n+1) [(x,n)],D4];rfl
  ·exact jO r n acc
def JC (l l':G0 (Str×α))(x:Str):(l++l').lookup x=(match l.lookup x with|some c=>some c|none=>l'.lookup x):=by
 induction l with
 |nil=>rfl
 |cons p l ih=>
  obtain⟨n,c⟩:=p;rw [Q1,E3,E3];cases x==n with
  |true=>rfl
  |false=>exact ih
def vk {names:G0 (Str×NameKind)}(here:names.lookup x=some .cell):
 (names.map λ(n,k)=>if (k==A3&&env.scope.kind== .function&&env.kindOf n==some .cell) then (n,b8) else (n,k)).lookup x=some .cell:=by
 rw [wS (g:=λn k=>if (k==A3&&env.scope.kind== .function&&env.kindOf n==some .cell) then .cell else k) (λn k=>by dsimp only;split<;>rfl),here];simp
section
variable {M:iP}{A:T8}{E:G1->G3->Prop}{s:G3}
def Gs (h:C7)(names:G0 (Str×NameKind)):(∀n c,(n,c)∈U7 h.objs.size names []->(pushCells h names).IsCell c none/\h.objs.size<=c)/\(U7 h.objs.size names []).Pairwise λx y=>x.2≠y.2:=
 have laid:=cellsFrom_ok names h h.objs.size [] ⟨by simp,.nil⟩ (P3 _)
 ⟨laid.empty,laid.apart⟩
def VQ {scope:K1}{globals:G9}{closure:G0 (Str×G9)}{qual:Str}{func:P5 G9}{code:G1}{outer:Env}{builtins:G9}{Q:Env->G3->Prop}
 (hQ: ∀h',h'.Ns s.heap.objs.size (λ_=>none)->(∀b o,s.heap.get? b=some o->h'.get? b=some o)->(∀n c,(n,c)∈U7 (s.heap.objs.size+1) scope.names []->h'.IsCell c none/\s.heap.objs.size+1<=c)->
  ((U7 (s.heap.objs.size+1) scope.names []).Pairwise λx y=>x.2≠y.2)->
  Q (newEnv scope s.heap.objs.size globals (U7 (s.heap.objs.size+1) scope.names closure) qual func code (some outer) builtins) {s with heap:=h'}):
 R0 M A (tJ scope globals closure [] qual func code (some outer) builtins) Q E s:=by
 have names:=Gs (s.heap.push {cls:= .type "dict",data:= .dict #[]}) scope.names;have first:(s.heap.push {cls:= .type "dict",data:= .dict #[]}).objs.size=s.heap.objs.size+1:=gA ..
 rw [first] at names;unfold tJ;refine wpAny_bind (wpAny_alloc (wpAny_bind (wpAny_layCells _ (λn k cs=>rfl) _ _ _ _ ?_)));simp only [pG,f8];rw [first];exact wpAny_bind (P2 (P2 (hQ _ ((Heap.Ns.new _ _).keeps (sD _ _)) (λb o here=>sD _ _ b o (G7 _ here)) names.1 names.2)))
end
def jK (X:Cx)(scope:K1)(C:G9):G0 (Str×G9):=U7 (C+1) scope.names (wI scope.names X.env [])
noncomputable def vo (X:Cx)(scope:K1)(C:G9)(s₀:G3)(H₀:Hp)(ex:G0 G9):Cx:=
 {X with s₀:=s₀,H₀:=H₀,env:=tK scope (jK X scope C) C X.env,outer:=X.stack,ex:=ex,fn:=λx=>scope.names.lookup x==some .cell,pn:= [],xe:=λ_ _=>False}
def jx (X:Cx)(scope:K1)(X':Cx):Prop:= ∃C s₀ H₀ ex,X'=vo X scope C s₀ H₀ ex
structure Õ (X:Cx)(scope:K1)(js:G0 G5):Prop where
 kind:scope.kind= .function
 locs: ∀p∈scope.names,p.2= .local->scope.names.lookup p.1=some .local
 cels: ∀p∈scope.names,p.2= .cell->scope.names.lookup p.1=some .cell
 free: ∀p∈scope.names,p.2= .free->X.env.scope.names.lookup p.1=some .cell\/X.env.scope.names.lookup p.1=some .free
 js: ∀ (i:G5) (x:Str),X.N[i]? =some x->(scope.names.lookup x=some .local\/scope.names.lookup x=some .cell)->i∈js
variable {js:G0 G5}
def wL (S:Õ X scope js){C:G9}{x:Str}{c:G9}(h:(jK X scope C).lookup x=some c):
 (scope.names.lookup x≠some .cell/\X.env.cells.lookup x=some c)\/(scope.names.lookup x=some .cell/\(x,c)∈U7 (C+1) scope.names []):=by
 unfold jK at h;rw [jO,JC] at h;cases e:(U7 (C+1) scope.names []).lookup x with
 |some d=>
  rw [e] at h;cases h;have m:=wg e;rcases zY _ _ _ _ m with z|⟨_,z⟩
  ·exact absurd z (by simp)
  ·exact .inr ⟨S.cels _ z rfl,m⟩
 |none=>
  rw [e] at h;refine .inl ⟨λz=> ?_,WZ h⟩;obtain⟨d,hd⟩:=yJ (sc:=scope) (n:=C+1) z;rw [e] at hd;cases hd
def Zb (S:Õ X scope js){C:G9}{x:Str}{c:G9}(hc:X.env.cells.lookup x=some c)(h:(x,A3)∈scope.names)(hn:scope.names.lookup x≠some .cell):(jK X scope C).lookup x=some c:=by
 unfold jK;rw [jO,JC];cases e:(U7 (C+1) scope.names []).lookup x with
 |some d=>
  rcases zY _ _ _ _ (wg e) with z|⟨_,z⟩
  ·exact absurd z (by simp)
  ·exact absurd (S.cels _ z rfl) hn
 |none=>exact Dp hc h
def zW:G0 G5->St->St
 | [],σ=>σ
 |j::js,σ=>zW js (σ.set j none)
theorem Ya: ∀ (js:G0 G5) (σ:St),(zW js σ).length=σ.length
 | [],_=>rfl
 |j::js,σ=>by rw [zW,Ya js];simp
theorem ZU: ∀ (js:G0 G5) (σ:St) (i:G5) (v:V),(zW js σ)[i]? =some (some v)->σ[i]? =some (some v)
 | [],_,_,_,h=>h
 |j::js,σ,i,v,h=>by
  have h1:=ZU js _ i v h
  by_cases e:i=j
  ·subst e;rw [gB] at h1;simp at h1
  ·rwa [K6 (U6 e)] at h1
theorem zB: ∀ (js:G0 G5) (σ:St) (i:G5) (v:V),i∈js-> ¬ (zW js σ)[i]? =some (some v)
 |j::js,σ,i,v,hm,h=>by
  rcases D5.mp hm with rfl|hm
  ·have h1:=ZU js _ i v h;rw [gB] at h1;simp at h1
  ·exact zB js _ i v hm h
variable {o:HO}
def ù.track {h:C7}(x:ù P w H h)(hn:H a=none)(new:Í P w (upd H a o) h a o):ù P w (upd H a o) h:=λb u e=>by
 by_cases hb:b=a
 ·subst hb;rw [ji] at e;cases e;exact new
 ·rw [jf hb] at e;exact(x b u e).stay (λc v _ q=>q) (λc q=>by rw [jf (jl q hn)];exact q) λc xs q=>by rw [jf (jl q hn)];exact q
def Agree (σ IO:St):Prop:=IO.length=σ.length/\ ∀ (i:G5) (v:V),σ[i]? =some (some v)->IO[i]? =some (some v)
def Agree.set {j:G5}(v:V)(h: ∀u,¬σ[j]? =some (some u)):Agree σ (σ.set j (some v)):=⟨by simp,λi u q=>by
 by_cases e:j=i
 ·subst e;exact absurd q (h u)
 ·rw [K6 e];exact q⟩
def Agree.trans {a b c:St}(x:Agree a b)(y:Agree b c):Agree a c:=⟨y.1.trans x.1,λi v h=>y.2 i v (x.2 i v h)⟩
def ŏ (X:Cx)(ifs:G0 M9)(t:TT):Prop:=
 ∀ (ID:G0 (G9×Obj)) (s:G3) (σ:St) (H:Hp) (Q:M7->Hp->Prop),Inv X ID σ H s->t σ H Q->
  R0 (R7 X.prog X.w) X.A (forIn ifs true λc r=>if r=true then do let ok <-isTrue c X.env (A2 c X.env);pure (cS ok) else pure (cS r)) (TP X ID σ Q) X.xe s
def HK:TT:=λ_ H Q=>Q true H
def CJ:ŏ X [] HK:=λ_ _ _ H _ I h=>wpAny_tests_nil ⟨H,I,h⟩
def CK {c:M9}{t:TT}(hc:PT X c t):ŏ X [c] t:=λID s σ H Q I h=>wpAny_tests_one (hc ID s σ H Q I h)
noncomputable def Yb (iter target:M9)(ifs:G0 M9)(it:G1)(env:Env)(act:Sem Unit)(nxt:Code):Sem fU:=do
 hO iter.pos
 match <-xK it with
 |none=>pure (.done .next)
 |some v=>
  fC target it v
  iI target env v
  let mut ok:=true
  for c in ifs do
   if ok then ok <-isTrue c env (A2 c env)
  if ok then act
  G0H nxt
variable {elt iter:M9}{ifs:G0 M9}
def Qg {A:T8}{R:nQ->G3->Prop}{target:M9}{gens:G0 iA}{depth:G5}{it acc:G1}{act:Sem Unit}(I:G5->G3->Prop)
 (heq:qB (.ListComp elt gens scope pos) depth it acc env=Yb iter target ifs it env act (.compLoop (.ListComp elt gens scope pos) depth it acc env))
 (turn: ∀n s,I n s->R0 (R7 prog w) A (xK it) (λr s₁=>match r with
  |none=>R (.ok .next) s₁
  |some v=>R0 (R7 prog w) A (fC target it v) (λ_ s₁=>R0 (R7 prog w) A (iI target env v) (λ_ s₂=>
   R0 (R7 prog w) A (forIn ifs true λc r=>if r=true then do let ok <-PySem.isTrue c env (A2 c env);pure (cS ok) else pure (cS r)) (λok s₃=>
    if ok=true then R0 (R7 prog w) A act (λ_ X1y=> ∃m,m<n/\I m X1y) (λ_ _=>False) s₃
    else ∃m,m<n/\I m s₃) (λ_ _=>False) s₂) (λ_ _=>False) s₁) (λ_ _=>False) s₁) (λ_ _=>False) s)
 (n:G5)(h:I n s):
 aK (R7 prog w) A (.compLoop (.ListComp elt gens scope pos) depth it acc env) R s:=by
 refine codeAny_loop rfl I (λn s hI=> ?_) n h;show R0 _ A ((qB (.ListComp elt gens scope pos) depth it acc env).onRaise (λx=>do noteFrame x env;theTreesLotGoes x)) _ _ s;refine wpAny_noted ?_;rw [heq];unfold Yb;refine wpAny_bind (dZ (wpAny_bind (M0 (turn n s hI) (λr s₁ h₁=> ?_) λ_ _ h'=>h'.elim)));cases r with
 |none=>exact P2 h₁
 |some v=>
  refine wpAny_bind (M0 h₁ (λ_ s₁ h₁=> ?_) λ_ _ h'=>h'.elim);refine wpAny_bind (M0 h₁ (λ_ s₂ X0C=>wpAny_bind (M0 X0C (λok s₃ X0X=> ?_) λ_ _ h'=>h'.elim)) λ_ _ h'=>h'.elim);cases ok with
  |false=>exact P2 ⟨rfl,X0X⟩
  |true=>exact wpAny_bind (M0 X0X (λ_ X1y h₅=>P2 ⟨rfl,h₅⟩) λ_ _ h'=>h'.elim)
abbrev TM:=St->Hp->G0 V->(G0 V->Hp->Prop)->Prop
def Sw (X:Cx)(D:G9)(act:Sem Unit)(t:TM):Prop:=
 ∀ (ID:G0 (G9×Obj)) (s:G3) (σ:St) (H:Hp) (ys:G0 V) (us:G0 G1) (Q:G0 V->Hp->Prop),Inv X ([(D,bQ us)]++ID) σ H s->Æ ys us->ys.length<=sizeLine->D∈X.ex->(∀x c,X.env.cells.lookup x=some c->c≠D)->(∀p∈X.pn++ID,p.1≠D)->t σ H ys Q->
  R0 (R7 X.prog X.w) X.A act (λ_ s'=> ∃Ő us' H',Æ Ő us'/\Inv X ([(D,bQ us')]++ID) σ H' s'/\Q Ő H') (λ_ _=>False) s
def Aj (te:TE):TM:=λσ H ys Q=>te σ H λy H1=>Q (ys++ [y]) H1
def Yc (elt:M9)(env:Env)(acc:G1):Sem Unit:=do let _ <-call (.builtin "list.append") [acc,<-A2 elt env]
variable {te:TE}
def YJ {D:G9}(hx:X.xe=λ_ _=>False)(he:PE X elt te):Sw X D (Yc elt X.env (.ref D)) (Aj te):=by
 intro ID s σ H ys us Q I hv hz DX cD pD h;have q:=he _ s σ H _ I h;rw [hx] at q;unfold Yc;refine wpAny_bind (M0 q (λy s1 ⟨yv,H1,I1,r1,q1⟩=> ?_) λ_ _ z=>z);have zD:=I1.pin (D,bQ us) (S5 _ (O0 _ R5));refine wpAny_bind (append_at (its:=us.toArray) (n:=us.length) zD.1 (λh11 X1K X1L=>P2 ?_) (by rw [S0,<-hv.length];exact hz));have X1M:Inv X ID σ H1 s1:=I1.pins_of λp hp=>I1.pin p (S5 _ (S5 _ hp))
 have I11:Inv X ID σ H1 {s1 with heap:=h11}:=X1M.turned (t':=s1.toks) (it:=D) (λb o hb e=>X1K.extBut b o hb e) zD.2.1 zD.2.2.1 (.inl DX) cD pD;have eD:h11.get? D=some (bQ (us++ [y])):=by rw [X1L];exact congrArg some (LCg.lst_snoc us y)
 refine⟨ys++ [yv],us++ [y],H1,hv.append (.cons r1 .nil),I11.pins_of λp hp=> ?_,q1⟩;rcases R4.mp hp with z|z
 ·rcases P0.mp z with rfl
  exact⟨eD,zD.2.1,zD.2.2.1,zD.2.2.2.1,λv z=>by cases z⟩
 ·exact I11.pin p (S5 _ z)
def Sx (js : G0 G5) (wi : TI) (g : TG) (tt : TT) (tm : TM) : TE := fun σ H Q => wi σ H fun J H1 =>
  ∃ W : G5 → G5 → G0 V → Hp → Prop, (∃ m, W 0 m [] H1) ∧ ∀ i m ys H, W i m ys H → ys.length ≤ sizeLine ∧
    ((J.stop i H ∧ ∀ p, H p = none → Q (.ref p) (upd H p (.lst ys))) ∨
     (J.go i H ∧ ∀ x H', J.yld i H x H' → g x (zW js σ) H' fun á H2 => Agree (zW js σ) á ∧ tt á H2 fun b H3 =>
        if b = true then tm á H3 ys fun Ő H4 => ∃ m', m' < m ∧ W (i + 1) m' Ő H4 else ∃ m', m' < m ∧ W (i + 1) m' ys H3))
def tLC (js:G0 G5)(wi:TI)(g:TG)(tt:TT)(te:TE):TE:=Sx js wi g tt (Aj te)
variable {e tg:M9}{wi:TI}{g:TG}{tt:TT}
def BD {rest:G0 iA}{X1N:Pos}{tm:TM}{use:P5 (G1->Sem Unit)}{Qv:G1->G3->Prop}(hc:X.calm=true)(S:Õ X scope js)(hi:PI X tg iter wi)
 (he0:e= .ListComp elt (⟨tg,iter,ifs,0⟩::rest) scope pos)
 (hg: ∀X',jx X scope X'->PG X' tg g)(ht: ∀X',jx X scope X'->ŏ X' ifs tt)
 (act:Env->G1->Sem Unit)(X0l: ∀it acc env,qB e 0 it acc env=Yb iter tg ifs it env (act env acc) (.compLoop e 0 it acc env))(he: ∀X',jx X scope X'-> ∀D,Sw X' D (act X'.env (.ref D)) tm)
 (hs: ∀x,C8 iter X.env x=pure x){ID:G0 (G9×Obj)}{s:G3}{σ:St}{H:Hp}{Q:VK}(I:Inv X ID σ H s)(h:Sx js wi g tt tm σ H Q)
 (fin: ∀ (D C:G9) (H':Hp) (s':G3) (m:Str->P5 G1),s'.heap.Ns C m->(∀h',O6 C s'.heap h'->Inv X ID σ H' {s' with heap:=h'})->H' C=none->C≠X.env.locals->C ∉ X.fs->X.s₀.heap.objs.size<=C->(∀x c,X.env.cells.lookup x=some c->c≠C)->(∀p∈X.pn++ID,p.1≠C)->
  Q (.ref D) H'->compPost (R7 X.prog X.w) X.A X.xe use Qv (.ref D) C (.ok .next) s'):
 R0 (R7 X.prog X.w) X.A (uR e scope X.env X1N (newList []) false (A2 iter X.env) use) Qv X.xe s:=by
 have X1b:=YI (scope:=scope) (env:=X.env) (λp hp e=>I.ok.has p.1 (S.free p hp e));subst he0;refine wpAny_comprehension_free (use:=use) rfl hs X1b S.kind S.locs (Ñ (hi ID s σ H _ I h) λv s1 h1=>Ñ h1 λitv s2 h2=> ?_);obtain⟨it,fp,tn,J,H2,e,I2,T,Ĳ,f2,W,⟨m0,w0⟩,turn⟩:=h2;subst e;refine bO (VQ (λh₁ ő Δ þ Œ=> ?_));dsimp only at ő Δ þ Œ ⊢;generalize hD:s2.heap.objs.size=D;generalize hH3:s2.heap.push {cls:= .type "list",dict:=none,data:= .seq ([]:G0 G1).toArray}=h3 at ő Δ þ Œ ⊢;have sz3:h3.objs.size=D+1:=by rw [<-hH3,gA,hD]
 have up3: ∀b o,s2.heap.get? b=some o->h3.get? b=some o:=λb o e=>hH3 ▸ G7 _ e
 have I3:Inv X ID σ H2 {s2 with heap:=h3}:=I2.kept (t':=s2.toks) up3;have hD3:h3.get? D=some (bQ []):=by rw [<-hH3,<-hD];exact S4 _ rfl
 have fD:Py X ID H2 D:=I2.fpOk (by rw [hD];exact P3 _) (I2.hok.fresh (by rw [hD];exact P3 _));have obf: ∀b∈fp,∃o,s2.heap.get? b=some o/\ ∀v,o.data≠ .cell v:=T.obj _ _ Ĳ;have ltf: ∀b∈fp,b<D:=λb hb=>by obtain⟨o,e,_⟩:=obf b hb;rw [<-hD];exact D2 e
 generalize hC:h3.objs.size=C at ő þ Œ ⊢;have CD:C=D+1:=hC.symm.trans sz3;have upC: ∀b o,h3.get? b=some o->h₁.get? b=some o:=Δ;generalize hX:vo X scope C {s2 with heap:=h3} H2 (fp++ [D])=X';have iX:jx X scope X':=⟨C,_,_,_,hX.symm⟩;have hf: ∀b∈fp++ [D],Py X ID H2 b:=λb hb=>(R4.mp hb).elim (f2 b) λz=>by rw [P0.mp z];exact fD
 have cl: ∀x c,(jK X scope C).lookup x=some c->X.env.cells.lookup x=some c\/C<c:=λx c e=>by
  rcases wL S e with ⟨_,z⟩|⟨_,z⟩
  ·exact .inl z
  ·exact .inr (gC (þ x c z).2)
 have olt: ∀x c,X.env.cells.lookup x=some c->c<C:=λx c e=>by obtain⟨v,q⟩:=I3.cell x c e;rw [<-hC];exact q.lt
 have ltb: ∀b∈fp++ [D],b<C:=λb hb=>(R4.mp hb).elim (λz=>by have:=ltf b z;rw [CD];exact gD this) λz=>by rw [P0.mp z,CD];exact V9 _
 have okX:X'.Ok:=by
  subst hX;refine⟨I.ok.mod,S.kind,I.ok.glob,I.ok.blt,aM hC,λx y c e1 e2=> ?_,λx hx=> ?_,λx c z e=> ?_,I.ok.hd,I.ok.frames,.inl rfl,λb hb=>⟨M8 (ltb b hb),λx c e=>(cl x c e).elim (λz=>(hf b hb).2.2.2.2.1 x c z) λz=>Y3 (cM (ltb b hb) z)⟩,
   I3.bs,R6 I.ok.bsz I3.sz,λb o e hb=> ?_,λb hb z=> ?_,I3.stack,I3.stkFree⟩
  ·rcases wL S e1 with ⟨_,z1⟩|⟨_,z1⟩<;>rcases wL S e2 with ⟨_,z2⟩|⟨_,z2⟩
   ·exact I.ok.inj x y c z1 z2
   ·exact absurd (cM (olt x c z1) (gC (þ y c z2).2)) (B1 _)
   ·exact absurd (cM (olt y c z2) (gC (þ x c z1).2)) (B1 _)
   ·exact pW Œ z1 z2
  ·have own:scope.names.lookup x=some .cell-> ∃c,(jK X scope C).lookup x=some c:=λz=>by
    obtain⟨c,hc⟩:=yJ (sc:=scope) (n:=C+1) z;exact⟨c,by unfold jK;rw [jO,JC,hc]⟩
   have shr:scope.names.lookup x=some .free-> ∃c,(jK X scope C).lookup x=some c:=λz=>by
    have fm:=wg z;obtain⟨c,hc⟩:=I.ok.has x (S.free _ fm rfl);exact⟨c,Zb S hc fm (by rw [z];decide)⟩
   rcases hx with hx|hx
   ·rcases jV (env:=X.env) hx with z|z
    ·exact own z
    ·exact shr z
   ·rcases jV (env:=X.env) hx with z|z<;>exact shr z
  ·have z':scope.names.lookup x=some .cell:=by
    have z2:(scope.names.lookup x==some b8)=true:=z;simpa using z2
   rcases wL S e with ⟨n,_⟩|⟨_,m⟩
   ·exact absurd z' n
   ·show h3.objs.size<=c;rw [hC];exact S6 (gC (þ x c m).2)
  ·rcases (hf b hb).2.2.2.1 with z|z
   ·exact I.ok.noex b o e z
   ·exact absurd (T5 (D2 e) (R6 I.ok.bsz z)) (B1 _)
  ·rcases D5.mp (I.stkSub b z) with q|q
   ·exact(hf b hb).2.1 q
   ·exact(hf b hb).2.2.1 q
 -- Ž block's first state
 have I4:Inv X' [(D,bQ [])] (zW js σ) H2 {s2 with heap:=h₁}:=by
  subst hX;have hDC:D≠C:=by rw [CD];exact M8 (V9 _)
  refine⟨okX,rfl,I2.bare,Un.kept (λb u e=>upC b u e),⟨_,ő,λi x v e1 e2 e3=> ?_⟩,λx c e=> ?_,I3.hok.fresh (aM hC),λx c e=>(cl x c e).elim (λz=>I2.freeC x c z) (λz=>I3.hok.fresh (by rw [<-hC] at z;exact S6 z)),λp hp=> ?_,I3.hok.kept upC,(Ya js σ).trans I2.len⟩
  ·have fr:scope.names.lookup x=some .free:=by
    rcases e3 with e3|e3|e3
    ·rcases jV (env:=X.env) e3 with z|z
     ·exact absurd e2 (zB js σ i v (S.js i x e1 (.inl z)))
     ·exact z
    ·rcases jV (env:=X.env) e3 with z|z
     ·exact absurd e2 (zB js σ i v (S.js i x e1 (.inr z)))
     ·exact z
    ·rcases jV (env:=X.env) e3 with z|z<;>exact z
   have fm:=wg fr;obtain⟨m,hm,hl⟩:=I2.loc;have vis:=S.free _ fm rfl;obtain⟨u,r,lk⟩:=hl i x v e1 (ZU js σ i v e2) (.inr vis);have kd:(relabel scope X.env).names.lookup x=some .cell\/(relabel scope X.env).names.lookup x=some .free:=by
    rcases e3 with e3|e3|e3
    ·rcases jV (env:=X.env) e3 with z|z
     ·rw [fr] at z;cases z
     ·exfalso;have z2:=e3
      -- a local's kind stays
      exact absurd e2 (zB js σ i v (S.js i x e1 (.inl (by
       have q: ∀ (l:G0 (Str×NameKind)),(l.map λ(n,k)=>if (k==A3&&X.env.scope.kind== .function&&X.env.kindOf n==some .cell) then (n,b8) else (n,k)).lookup x=some .local->l.lookup x=some .local:=by
        intro l
        induction l with
        |nil=>intro h;simp at h
        |cons p l ih=>
         obtain⟨n,k'⟩:=p;intro h;have h':List.lookup x ((if (k'==A3&&X.env.scope.kind== .function&&X.env.kindOf n==some .cell)=true then (n,b8) else (n,k'))::(l.map λ(n,k)=>if (k==A3&&X.env.scope.kind== .function&&X.env.kindOf n==some .cell) then (n,b8) else (n,k)))=some .local:=h;rw [E3]
         by_cases hc:(k'==A3&&X.env.scope.kind== .function&&X.env.kindOf n==some .cell)=true
         ·rw [R8 hc,E3] at h';cases hx:x==n with
          |true=>rw [hx] at h';cases h'
          |false=>rw [hx] at h';exact ih h'
         ·rw [R9 hc,E3] at h';cases hx:x==n with
          |true=>rw [hx] at h';exact h'
          |false=>rw [hx] at h';exact ih h'
       exact q _ z2))))
    ·exact .inl e3
    ·exact .inr e3
   rcases lk with ⟨k,_⟩|⟨_,c,hc,Ľ⟩
   ·have k':X.env.scope.names.lookup x=some .local:=k;rcases vis with z|z<;>(rw [k'] at z;cases z)
   ·refine⟨u,r,.inr ⟨kd,c,Zb S hc fm (by rw [fr];decide),?_⟩⟩;obtain⟨o,ho,hd⟩:=Ľ;exact⟨o,upC _ _ (up3 _ _ ho),hd⟩
  ·rcases wL S e with ⟨_,z⟩|⟨_,z⟩
   ·obtain⟨v,o,ho,hd⟩:=I2.cell x c z;exact⟨v,o,upC _ _ (up3 _ _ ho),hd⟩
   ·exact⟨none,(þ x c z).1⟩
  ·have hp':p∈ [(D,bQ [])]:=hp;rcases P0.mp hp' with rfl
   refine⟨upC _ _ hD3,fD.1,hDC,λz=> ?_,λv z=>by cases z⟩;rcases D5.mp (I.stkSub D z) with q|q
   ·exact fD.2.1 q
   ·exact fD.2.2.1 q
 have st4:tn 0 h₁:=T.keep _ _ _ Ĳ λb _ o e=>upC _ _ (up3 _ _ e)
 have eA:X'.A=X.A:=by rw [<-hX];rfl
 have eP:X'.prog=X.prog:=by rw [<-hX];rfl
 have eW:X'.w=X.w:=by rw [<-hX];rfl
 have eK:X'.K=X.K:=by rw [<-hX];rfl
 have eC:X'.calm=true:=by rw [<-hX];exact hc
 have eV:X'.env=tK scope (jK X scope C) C X.env:=by rw [<-hX];rfl
 have eE:X'.xe=λ_ _=>False:=by rw [<-hX];rfl
 -- X1w stays true of Ž Β objects
 have Ĥ: ∀ {us:G0 G1} {H':Hp},(∀b∈fp,H' b=none)-> ∀b∈fp,Py X' [(D,bQ us)] H' b:=λ{us H'} hn b hb=>by
  have q:=hf b (O0 _ hb);subst hX;refine⟨hn b hb,M8 (ltb b (O0 _ hb)),λz=> ?_,.inl (O0 _ hb),λx c e=>(cl x c e).elim (λz=>q.2.2.2.2.1 x c z) (λz=>Y3 (cM (ltb b (O0 _ hb)) z)),λp hp=> ?_⟩
  ·rcases D5.mp (I.stkSub b z) with r|r
   ·exact q.2.1 r
   ·exact q.2.2.1 r
  ·have hp':p∈ [(D,bQ us)]:=hp;rcases P0.mp hp' with rfl
   exact Y3 (ltf b hb)
 have loop: ∀s₃:G3,s₃= {s2 with heap:=h₁}->
  aK (R7 X.prog X.w) X.A (.compLoop (.ListComp elt (⟨tg,iter,ifs,0⟩::rest) scope pos) 0 (.ref it) (.ref D) (tK scope (jK X scope C) C X.env))
   (compPost (R7 X.prog X.w) X.A X.xe use Qv (.ref D) C) s₃:=by
  rintro s₃ rfl;refine Qg (act:=act (tK scope (jK X scope C) C X.env) (.ref D)) (λn s'=> ∃i ys us H',Æ ys us/\Inv X' [(D,bQ us)] (zW js σ) H' s'/\tn i s'.heap/\(∀b∈fp,H' b=none)/\W i n ys H') (X0l _ _ _) ?_ m0
   ⟨0,[],[],H2,.nil,I4,st4,λb hb=>(f2 b hb).1,w0⟩
  rintro n s5 ⟨i,ys,us,H5,hv5,I5,st5,fr5,w5⟩;obtain⟨hz,tr⟩:=turn i n ys H5 w5;rcases tr with ⟨stop,qn⟩|⟨go,step⟩
  ·have q:=T.done X' eP eW eK eC i _ s5 _ H5 (λ_ _=>False) I5 (Ĥ fr5) st5 stop;rw [eA] at q;refine M0 q (λr s6 ⟨hr,I6⟩=> ?_) λ_ _ z=>z
   subst hr;obtain⟨m6,hm6,_⟩:=I6.loc;rw [eV] at hm6;have zD:=I6.pin (D,bQ us) (S5 _ R5);have HD:H5 D=none:=zD.2.1;have oD:s6.heap.get? D=some (bQ us):=zD.1;have hDC:D≠C:=by rw [CD];exact M8 (V9 _)
   have HC:H5 C=none:=by have z:=I6.free;rw [eV] at z;exact z
   have B:=I6.base;have os6:s6.os=s2.os:=by have z:=I6.os;rw [<-hX] at z;exact z
   have Bu:Un (Ĉ X.stack) (fp++ [D]) H2 H5 h3 s6.heap:=by rw [<-hX] at B;exact B
   have neC: ∀b o,h3.get? b=some o->b≠C:=λb o e=>by rw [<-hC];exact M8 (D2 e)
   refine fin D C (upd H5 D (.lst ys)) s6 m6 hm6 (λh' Ħ=> ?_) (by rw [jf (U6 hDC)];exact HC) ?_ ?_ ?_ (λx c e=>M8 (olt x c e)) ?_ (qn D HD)
   ·have hk5:ù X.prog X.w H5 h':=λb u e=>by
     have z:=I6.hok b u e;rw [eP,eW] at z;refine z.stay (λc v hc q=>Ħ.extBut c v ?_ q) (λ_ q=>q) λ_ _ q=>q
     rcases hc with rfl|hc
     ·exact jl e HC
     ·exact jl hc HC
    refine I3.call' (ch:=fp++ [D]) os6 ⟨λb o e n hb hx=> ?_,λb o e n hb hx=> ?_,λb o e n hx=> ?_,λb o e hx=> ?_,λb xs e=> ?_,λb o u e=> ?_,λb ps e=> ?_⟩ (hk5.track HD ?_) I6.bare λb hb=> ?_
    ·exact Ħ.extBut b o (neC b o e) (Bu.keep b o e n hb hx)
    ·obtain⟨sl,q⟩:=Bu.slot b o e n hb hx;exact⟨sl,Ħ.extBut b _ (neC b o e) q⟩
    ·rw [jf λz=>hx (by rw [z];exact S5 _ R5)];exact Bu.free b o e n hx
    ·obtain⟨o',q⟩:=Bu.there b o e hx;exact⟨o',Ħ.extBut b _ (neC b o e) q⟩
    ·have z:=Bu.tups b xs e;rw [jf (jl z HD)];exact z
    ·have z:=Bu.frzs b o u e;rw [jf (jl z HD)];exact z
    ·obtain⟨more,z⟩:=Bu.tbls b ps e;exact⟨more,by rw [jf (jl z HD)];exact z⟩
    ·exact⟨hz,us,us.length,hv5,Ħ.extBut D _ hDC oD⟩
    ·have q:=hf b hb;exact⟨q.2.2.2.1,q.2.1,q.2.2.2.2.1,q.2.2.2.2.2⟩
   ·rw [<-hC];exact Y3 I3.lt
   ·exact I3.nofs (aM hC)
   ·rw [<-hC];exact I3.sz
   ·intro p hp;have:=(I3.pin p hp).1;rw [<-hC];exact M8 (D2 this)
  ·have q:=T.item X' eP eW eK eC i _ s5 _ H5 (λ_ _=>False) I5 (Ĥ fr5) st5 go;rw [eA] at q;refine M0 q (λr s6 ⟨u,hr,h6⟩=> ?_) λ_ _ z=>z
   subst hr;refine M0 h6 (λ_ s7 ⟨x,H7,I7,r7,y7,st7,fr7⟩=> ?_) λ_ _ z=>z
   have I7':=I7.pinned (Ĥ fr7) (T.obj _ _ st7);have q7:=hg X' iX _ s7 _ H7 x u _ I7' r7 (step x H7 y7);rw [eP,eW,eA,eV,eE] at q7;refine M0 q7 (λ_ s8 ⟨σ8,H8,I8,ag8,q8⟩=> ?_) λ_ _ z=>z
   have q9:=ht X' iX _ s8 σ8 H8 _ I8 q8;rw [eP,eW,eA,eV,eE] at q9;refine M0 q9 (λok s9 ⟨H9,I9,q9⟩=> ?_) λ_ _ z=>z
   have Ţ: ∀ {IO:St} {H':Hp} {s':G3} {us:G0 G1},Inv X' ([(D,bQ us)]++yY fp s7.heap) IO H' s'->tn (i+1) s'.heap/\ ∀b∈fp,H' b=none:=λ{IO H' s' us} I'=>
    ⟨T.keep _ _ _ st7 λb hb o e=>(I'.pin (b,o) (S5 _ (S5 _ (wf hb e)))).1,λb hb=>by
     obtain⟨o,e,_⟩:=T.obj _ _ st7 b hb;exact(I'.pin (b,o) (S5 _ (S5 _ (wf hb e)))).2.1⟩
   cases ok with
   |false=>
    have q9: ∃m',m'<n/\W (i+1) m' ys H9:=q9;obtain⟨m',hm,w9⟩:=q9;obtain⟨t9,f9⟩:=Ţ I9;exact⟨m',hm,i+1,ys,us,H9,hv5,(I9.unpinned).weak ag8.1.symm ag8.2,t9,f9,w9⟩
   |true=>
    have q9:tm σ8 H9 ys λŐ H4=> ∃m',m'<n/\W (i+1) m' Ő H4:=q9
    have DX:D∈X'.ex:=by rw [<-hX];exact S5 _ R5
    have pD: ∀p∈X'.pn++yY fp s7.heap,p.1≠D:=λp hp=>by
     have hp':p∈yY fp s7.heap:=by rw [<-hX] at hp;simpa [vo] using hp
     exact M8 (ltf _ (ZH hp').1)
    have cD: ∀x c,X'.env.cells.lookup x=some c->c≠D:=λx c e=>by
     rw [eV] at e;exact(cl x c e).elim (λz=>fD.2.2.2.2.1 x c z) λz=>Y3 (cM (by rw [CD];exact V9 _) z)
    have q10:=he X' iX D _ s9 σ8 H9 ys us _ I9 hv5 hz DX cD pD q9;rw [eP,eW,eA,eV] at q10;show R0 _ _ (act _ _) _ _ s9;refine M0 q10 (λ_ s10 ⟨Ő,us',H10,X1c,I10,m',hm,w10⟩=> ?_) λ_ _ z=>z
    obtain⟨t10,f10⟩:=Ţ I10;exact⟨m',hm,i+1,Ő,us',H10,X1c,(I10.unpinned).weak ag8.1.symm ag8.2,t10,f10,w10⟩
 exact codeAny_compStart_list (loop _ rfl) (T.self X.A 0 _ _ _ st4 (loop _ rfl))
def Ak (hc:X.calm=true)(S:Õ X scope js)(hi:PI X tg iter wi)
 (hg: ∀X',jx X scope X'->PG X' tg g)(ht: ∀X',jx X scope X'->ŏ X' ifs tt)(he: ∀X',jx X scope X'->PE X' elt te)
 (hs: ∀x,C8 iter X.env x=pure x:=by intro _;rfl):PE X (.ListComp elt [⟨tg,iter,ifs,0⟩] scope pos) (tLC js wi g tt te):=by
 intro ID s σ H Q I h;rw [eval_ListComp];exact BD (use:=none) hc S hi rfl hg ht (Yc elt) (λ_ _ _=>rfl) (λX' hX D=>YJ (by obtain⟨_,_,_,_,rfl⟩:=hX;rfl) (he X' hX)) hs I h
  λD C H' s' m hn hk _ _ _ _ _ _ q=>⟨m,hn,λh' Ħ=>⟨.ref D,H',hk h' Ħ,rfl,q⟩⟩
def Dq {rest:G0 iA}{pos' Ą:Pos}{g':TG}{tm:TM}(hc:X.calm=true)(S:Õ X scope js)(hi:PI X tg iter wi)
 (he0:e= .ListComp elt (⟨tg,iter,ifs,0⟩::rest) scope pos)(hg: ∀X',jx X scope X'->PG X' tg g)(ht: ∀X',jx X scope X'->ŏ X' ifs tt)
 (act:Env->G1->Sem Unit)(X0l: ∀it acc env,qB e 0 it acc env=Yb iter tg ifs it env (act env acc) (.compLoop e 0 it acc env))(he: ∀X',jx X scope X'-> ∀D,Sw X' D (act X'.env (.ref D)) tm)
 (hg':PG X (.Name x pos') g')(hsw:aQ e (some (.Name x pos')) Ą.line X.env=pure true)
 (hs: ∀x,C8 iter X.env x=pure x):PS X (.Assign [.Name x pos'] e Ą) (Bx (Sx js wi g tt tm) g'):=by
 intro ID s σ H Dn I h;rw [exec_Assign_Name_used _ _ _ _ hsw];refine wpAny_bind (dZ (wpAny_bind ?_));subst he0;rw [arm_evalThenUse_ListComp];show R0 _ X.A (do let _ <-uR (.ListComp elt (⟨tg,iter,ifs,0⟩::rest) scope pos) scope X.env _ (newList []) false (A2 iter X.env) (some (iI (.Name x pos') X.env))) _ _ s;refine wpAny_bind (M0 (BD (use:=some (iI (.Name x pos') X.env)) (Qv:=λ_ s'=>SP X ID Dn .next s') hc S hi rfl hg ht act X0l he hs I h ?_) (λ_ s' hq=>P2 (P2 hq)) λ_ _ e=>e);intro D C H' s' m hn hk HC nL nf sz X1d X1O q;show R0 _ X.A (iI (.Name x pos') X.env (.ref D)) _ _ s';obtain⟨o,es,ep,ho,hd,hr⟩:=id hn;have I1:Inv X ID σ H' s':=hk s'.heap (bR ..);have I2:Inv X (ID++ [(C,o)]) σ H' s':=I1.pins_of λp hp=>by
  rcases R4.mp hp with z|z
  ·exact I1.pin p (S5 _ z)
  ·rcases P0.mp z with rfl
   exact⟨ho,HC,nL,nf,λv z=>by rw [hd] at z;cases z⟩
 refine M0 (hg' _ s' σ H' (.ref D) (.ref D) _ I2 rfl q) (λ_ s3 ⟨ĉ,H3,I3,q3⟩=> ?_) λ_ _ z=>z
 have pC:=I3.pin (C,o) (S5 _ (S5 _ R5));refine⟨m,hn.at' λo' e'=> ?_,λh' Ħ=> ?_⟩
 ·rw [ho] at e';cases e';exact pC.1
 ·exact⟨ĉ,H3,(I3.unpinned).turned (t':=s3.toks) (it:=C) (λb o hb e=>Ħ.extBut b o hb e) pC.2.1 nL (.inr sz) X1d X1O,q3⟩
def MZ {pos' Ą:Pos}{g':TG}(hc:X.calm=true)(S:Õ X scope js)(hi:PI X tg iter wi)
 (hg: ∀X',jx X scope X'->PG X' tg g)(ht: ∀X',jx X scope X'->ŏ X' ifs tt)(he: ∀X',jx X scope X'->PE X' elt te)
 (hg':PG X (.Name x pos') g')(hsw:aQ (.ListComp elt [⟨tg,iter,ifs,0⟩] scope pos) (some (.Name x pos')) Ą.line X.env=pure true)
 (hs: ∀x,C8 iter X.env x=pure x:=by intro _;rfl):PS X (.Assign [.Name x pos'] (.ListComp elt [⟨tg,iter,ifs,0⟩] scope pos) Ą) (Bx (tLC js wi g tt te) g'):=
 Dq hc S hi rfl hg ht (Yc elt) (λ_ _ _=>rfl) (λX' hX D=>YJ (by obtain⟨_,_,_,_,rfl⟩:=hX;rfl) (he X' hX)) hg' hsw hs
noncomputable def Dr (e iter:M9)(env:Env)(acc:G1):Sem Unit:=do
 let x <-A2 iter env
 hO iter.pos
 let x <-C8 iter env x
 let _ <-runOwn (.compStart e 1 (<-aZ [x] (sU x)) acc env) env
def mIn (wi : TI) (g : TG) (tt : TT) (tm : TM) : TM := fun σ H ys Q => wi σ H fun J H1 =>
  ∃ W : G5 → G5 → G0 V → Hp → Prop, (∃ m, W 0 m ys H1) ∧ ∀ i m ys H, W i m ys H → ys.length ≤ sizeLine ∧
    ((J.stop i H ∧ Q ys H) ∨
     (J.go i H ∧ ∀ x H', J.yld i H x H' → g x σ H' fun á H2 => Agree σ á ∧ tt á H2 fun b H3 =>
        if b = true then tm á H3 ys fun Ő H4 => ∃ m', m' < m ∧ W (i + 1) m' Ő H4 else ∃ m', m' < m ∧ W (i + 1) m' ys H3))
def vS {A:T8}{R:nQ->G3->Prop}{g0 g1:iA}{it acc:G1}(ha:g1.is_async=0)
 (h0:aK (R7 prog w) A (.compLoop (.ListComp elt [g0,g1] scope pos) 1 it acc env) R s)
 (h:R0 (R7 prog w) A (sU it) (λit' s'=>aK (R7 prog w) A (.compLoop (.ListComp elt [g0,g1] scope pos) 1 it' acc env) R s')
  (notedBy (R7 prog w) A env λx s'=>R (.error x) s') s):
 aK (R7 prog w) A (.compStart (.ListComp elt [g0,g1] scope pos) 1 it acc env) R s:=by
 obtain⟨tg,iter,ifs,as⟩:=g1;cases (show as=0 from ha);refine m7 (wpAny_notedAt ?_);obtain⟨hp,g,d,tk,os⟩:=s;unfold compStart
 wp_walk
 refine cA ?_;split
 ·exact P2 ⟨rfl,h0⟩
 ·exact wpAny_bind (gR (wpAny_bind (dZ (wpAny_bind (M0 h (λ_ _ on=>P2 ⟨rfl,on⟩) λ_ _ x=>x)))))
def CL {D:G9}{g0:iA}(hc:X.calm=true)(hx:X.xe=λ_ _=>False)
 (hi:PI X tg iter wi)(hg:PG X tg g)(ht:ŏ X ifs tt)(he:PE X elt te)(hs: ∀x,C8 iter X.env x=pure x):
 Sw X D (Dr (.ListComp elt [g0,⟨tg,iter,ifs,0⟩] scope pos) iter X.env (.ref D)) (mIn wi g tt (Aj te)):=by
 intro ID s σ H ys us Q I hv hz DX cD pD h;have q:=hi _ s σ H _ I h;rw [hx] at q;unfold Dr;refine wpAny_bind (M0 q (λv s1 h1=>wpAny_bind (dZ (wpAny_bind (rR (hs v) (wpAny_bind (L7 (M0 h1 (λitv s2 h2=> ?_) λ_ _ z=>z))))))) λ_ _ z=>z);obtain⟨it,fp,tn,J,H2,e,I2,T,Ĳ,f2,W,⟨m0,w0⟩,turn⟩:=h2;subst e;refine wpAny_bind (wpAny_runOwn ?_);have neD: ∀b∈fp,b≠D:=λb hb=>by
  have z:=(f2 b hb).2.2.2.2.2 (D,bQ us) (S5 _ (O0 _ R5));exact U6 z
 have Ĥ: ∀ {us':G0 G1} {H':Hp},(∀b∈fp,H' b=none)-> ∀b∈fp,Py X ([(D,bQ us')]++ID) H' b:=λ{us' H'} hn b hb=>by
  have q:=f2 b hb;refine⟨hn b hb,q.2.1,q.2.2.1,q.2.2.2.1,q.2.2.2.2.1,λp hp=> ?_⟩;rcases R4.mp hp with z|z
  ·exact q.2.2.2.2.2 p (O0 _ z)
  ·rcases R4.mp z with z|z
   ·rcases P0.mp z with rfl
    exact U6 (neD b hb)
   ·exact q.2.2.2.2.2 p (S5 _ (S5 _ z))
 have loop:aK (R7 X.prog X.w) X.A (.compLoop (.ListComp elt [g0,⟨tg,iter,ifs,0⟩] scope pos) 1 (.ref it) (.ref D) X.env)
  (λr s'=>match r with| .ok f=>R0 (R7 X.prog X.w) X.A (pure ()) (λ_ s'=> ∃Ő us' H',Æ Ő us'/\Inv X ([(D,bQ us')]++ID) σ H' s'/\Q Ő H') (λ_ _=>False) s'| .error e=>cameBackBy (R7 X.prog X.w) X.A X.env (λ_ _=>False) e s') s2:=by
  refine Qg (act:=Yc elt X.env (.ref D)) (λn s'=> ∃i ys us H',Æ ys us/\Inv X ([(D,bQ us)]++ID) σ H' s'/\tn i s'.heap/\(∀b∈fp,H' b=none)/\W i n ys H') rfl ?_ m0
   ⟨0,ys,us,H2,hv,I2,Ĳ,λb hb=>(f2 b hb).1,w0⟩
  rintro n s5 ⟨i,ys,us,H5,hv5,I5,st5,fr5,w5⟩;obtain⟨hz,tr⟩:=turn i n ys H5 w5;rcases tr with ⟨stop,qn⟩|⟨go,step⟩
  ·refine M0 (T.done X rfl rfl rfl hc i _ s5 _ H5 (λ_ _=>False) I5 (Ĥ fr5) st5 stop) (λr s6 ⟨hr,I6⟩=> ?_) λ_ _ z=>z
   subst hr;exact P2 ⟨ys,us,H5,hv5,I6,qn⟩
  ·refine M0 (T.item X rfl rfl rfl hc i _ s5 _ H5 (λ_ _=>False) I5 (Ĥ fr5) st5 go) (λr s6 ⟨u,hr,h6⟩=> ?_) λ_ _ z=>z
   subst hr;refine M0 h6 (λ_ s7 ⟨x,H7,I7,r7,y7,st7,fr7⟩=> ?_) λ_ _ z=>z
   have I7':=I7.pinned (Ĥ fr7) (T.obj _ _ st7);have q7:=hg _ s7 _ H7 x u _ I7' r7 (step x H7 y7);rw [hx] at q7;refine M0 q7 (λ_ s8 ⟨σ8,H8,I8,ag8,q8⟩=> ?_) λ_ _ z=>z
   have q9:=ht _ s8 σ8 H8 _ I8 q8;rw [hx] at q9;refine M0 q9 (λok s9 ⟨H9,I9,q9⟩=> ?_) λ_ _ z=>z
   have Ţ: ∀ {IO:St} {H':Hp} {s':G3} {us:G0 G1},Inv X (([(D,bQ us)]++ID)++yY fp s7.heap) IO H' s'->tn (i+1) s'.heap/\ ∀b∈fp,H' b=none:=λ{IO H' s' us} I'=>
    ⟨T.keep _ _ _ st7 λb hb o e=>(I'.pin (b,o) (S5 _ (S5 _ (wf hb e)))).1,λb hb=>by
     obtain⟨o,e,_⟩:=T.obj _ _ st7 b hb;exact(I'.pin (b,o) (S5 _ (S5 _ (wf hb e)))).2.1⟩
   cases ok with
   |false=>
    have q9: ∃m',m'<n/\W (i+1) m' ys H9:=q9;obtain⟨m',hm,w9⟩:=q9;obtain⟨t9,f9⟩:=Ţ I9;exact⟨m',hm,i+1,ys,us,H9,hv5,(I9.unpinned).weak ag8.1.symm ag8.2,t9,f9,w9⟩
   |true=>
    have q9:Aj te σ8 H9 ys λŐ H4=> ∃m',m'<n/\W (i+1) m' Ő H4:=q9
    have pD': ∀p∈X.pn++(ID++yY fp s7.heap),p.1≠D:=λp hp=>by
     rcases R4.mp hp with z|z
     ·exact pD p (O0 _ z)
     ·rcases R4.mp z with z|z
      ·exact pD p (S5 _ z)
      ·exact neD _ (ZH z).1
    rw [D4] at I9;have q10:=YJ (D:=D) hx he (ID++yY fp s7.heap) s9 σ8 H9 ys us _ I9 hv5 hz DX cD pD' q9;show R0 _ _ (Yc _ _ _) _ _ s9;refine M0 q10 (λ_ s10 ⟨Ő,us',H10,X1c,I10,m',hm,w10⟩=> ?_) λ_ _ z=>z
    rw [<-D4] at I10;obtain⟨t10,f10⟩:=Ţ I10;exact⟨m',hm,i+1,Ő,us',H10,X1c,(I10.unpinned).weak ag8.1.symm ag8.2,t10,f10,w10⟩
 exact vS rfl loop (T.self X.A 0 _ _ _ Ĳ loop)
def CM (elt iter tg ú tg':M9)(ifs œ:G0 M9)(scope:K1)(pos:Pos)(it acc:G1)(env:Env):
 qB (.ListComp elt [⟨tg,iter,ifs,0⟩,⟨tg',ú,œ,0⟩] scope pos) 0 it acc env=
  Yb iter tg ifs it env (Dr (.ListComp elt [⟨tg,iter,ifs,0⟩,⟨tg',ú,œ,0⟩] scope pos) ú env acc) (.compLoop (.ListComp elt [⟨tg,iter,ifs,0⟩,⟨tg',ú,œ,0⟩] scope pos) 0 it acc env):=by
 unfold Yb Dr;simp only [bind_assoc,pure_bind];rfl
def HL (js:G0 G5)(wi:TI)(g:TG)(tt:TT)(wi':TI)(g':TG)(η:TT)(te:TE):TE:=Sx js wi g tt (mIn wi' g' η (Aj te))
inductive D where
 |non|bl (b:M7)|int (i:P1)|str (x:Str)|tup (ds:G0 D)|lst (a:G9)|dic (x:Str) (i:P1)|dct (a:G9)|scr (ns:G0 P1)|exc (C:G9)|fn (a:G9)
def Scr (K:G6)(H:Hp)(a:G9)(ns:G0 P1):Prop:=
 (∃o,H a=some (.frz o (.lst (ns.map V.int))))\/
  ∃ (o:Obj) (its:T6 G1) (n:G5),K.lookup a=some o/\o.cls= .type "list" /\o.dict=none/\o.data= .seq its n/\its.size<=sizeLine/\Æ (ns.map V.int) its.toList
variable {K:G6}
def Scr.sq {ns:G0 P1}(h:Scr K H a ns):í K H a (ns.map V.int):=h.elim (λz=> .inl (.inr z)) .inr
mutual
def É (K:G6)(H:Hp):D->V->Prop
 | .non,v=>v= .non
 | .bl b,v=>v= .bl b
 | .int i,v=>v= .int i
 | .str x,v=>v= .str x
 | .tup ds,v=> ∃a vs,v= .ref a/\H a=some (.tup vs)/\À K H ds vs
 | .lst a,v=>v= .ref a/\ ∃vs,H a=some (.lst vs)
 | .dic x i,v=> ∃a,v= .ref a/\H a=some (.dK [(e9 x,V.int i)])
 | .dct a,v=>v= .ref a
 | .scr ns,v=> ∃a,v= .ref a/\Scr K H a ns
 | .exc C,v=> ∃x o vs,v= .ref x/\H x=some (.frz o (.own 0))/\o.cls= .ref C/\o.data= .fields vs
 | .fn a,v=>v= .ref a/\K8 K (.ref a)=true
def À (K:G6)(H:Hp):G0 D->G0 V->Prop
 | [],vs=>vs= []
 |d::ds,vs=> ∃v r,vs=v::r/\É K H d v/\À K H ds r
end
structure Kept (H H':Hp):Prop where
 tup: ∀a xs,H a=some (.tup xs)->H' a=some (.tup xs)
 lst: ∀a xs,H a=some (.lst xs)-> ∃ys,H' a=some (.lst ys)
 dic: ∀a x i,H a=some (.dK [(e9 x,V.int i)])->H' a=some (.dK [(e9 x,V.int i)])
 frz: ∀a o u,H a=some (.frz o u)->H' a=some (.frz o u)
def Kept.refl (H:Hp):Kept H H:=⟨λ_ _ h=>h,λ_ xs h=>⟨xs,h⟩,λ_ _ _ h=>h,λ_ _ _ h=>h⟩
def Kept.trans {A B C:Hp}(x:Kept A B)(y:Kept B C):Kept A C:=
 ⟨λa xs h=>y.tup a xs (x.tup a xs h),λa xs h=>let ⟨_,e⟩:=x.lst a xs h;y.lst a _ e,λa k i h=>y.dic a k i (x.dic a k i h),λa o u h=>y.frz a o u (x.frz a o u h)⟩
variable {p:G9}
def Kept.new (h:H p=none):Kept H (upd H p o):=
 ⟨λa xs e=>by rw [jf (jl e h)];exact e,λa xs e=>⟨xs,by rw [jf (jl e h)];exact e⟩,λa k i e=>by rw [jf (jl e h)];exact e,λa o u e=>by rw [jf (jl e h)];exact e⟩
def Kept.put {xs ys:G0 V}(h:H p=some (.lst xs)):Kept H (upd H p (.lst ys)):=
 ⟨λa zs e=>by rw [jf (Gk e h (by intro z;cases z))];exact e,λa zs e=>by
  by_cases q:a=p
  ·subst q;exact⟨ys,ji⟩
  ·exact⟨zs,by rw [jf q];exact e⟩,
  λa k i e=>by rw [jf (Gk e h (by intro z;cases z))];exact e,λa o u e=>by rw [jf (Gk e h (by intro z;cases z))];exact e⟩
def θ (o:HO):Prop:=(∃Ã:G0 (P1×V),o= .dK (Ã.map λp=>((A9 p.1:ß),p.2)))\/ ∃φ,o= .ext φ
def θ.no (d:θ o):(∀xs,o≠ .tup xs)/\(∀xs,o≠ .lst xs)/\(∀x i,o≠ .dK [(e9 x,V.int i)])/\(∀p u,o≠ .frz p u)/\ ∀ps,o≠ .tbl ps:=by
 rcases d with ⟨Ã,rfl⟩|⟨φ,rfl⟩
 ·refine⟨λ_ z=>(nomatch z),λ_ z=>(nomatch z),λx i z=> ?_,λ_ _ z=>(nomatch z),λ_ z=>(nomatch z)⟩;injection z with z
  cases Ã with
  |nil=>cases z
  |cons p r=>injection z with z _;injection z with z _;cases z
 ·exact⟨λ_ z=>(nomatch z),λ_ z=>(nomatch z),λ_ _ z=>(nomatch z),λ_ _ z=>(nomatch z),λ_ z=>(nomatch z)⟩
def Kept.putD {o':HO}(h:H p=some o)(d:θ o):Kept H (upd H p o'):=by
 obtain⟨d1,d2,d3,d4,_⟩:=d.no;have ne: ∀ {a:G9} {u:HO},H a=some u->o≠u->a≠p:=λe n z=>by subst z;rw [h] at e;injection e with e;exact n e
 exact⟨λa xs e=>by rw [jf (ne e (d1 xs))];exact e,λa xs e=>⟨xs,by rw [jf (ne e (d2 xs))];exact e⟩,λa x i e=>by rw [jf (ne e (d3 x i))];exact e,λa q u e=>by rw [jf (ne e (d4 q u))];exact e⟩
mutual
variable {H':Hp}
theorem É.mono (k:Kept H H'): ∀ {d:D} {v:V},É K H d v->É K H' d v
 | .non,_,h=>h
 | .bl _,_,h=>h
 | .int _,_,h=>h
 | .str _,_,h=>h
 | .tup ds,v,h=>by
  obtain⟨a,vs,e,h1,h2⟩:=(show ∃a vs,v= .ref a/\H a=some (.tup vs)/\À K H ds vs from h);exact⟨a,vs,e,k.tup _ _ h1,À.mono k h2⟩
 | .lst a,v,h=>by
  obtain⟨e,vs,h1⟩:=(show v= .ref a/\ ∃vs,H a=some (.lst vs) from h);exact⟨e,k.lst _ _ h1⟩
 | .dic x i,v,h=>by
  obtain⟨a,e,h1⟩:=(show ∃a,v= .ref a/\H a=some (.dK [(e9 x,V.int i)]) from h);exact⟨a,e,k.dic _ _ _ h1⟩
 | .dct a,v,h=>h
 | .scr ns,v,h=>by
  obtain⟨a,e,h1⟩:=(show ∃a,v= .ref a/\Scr K H a ns from h);exact⟨a,e,h1.elim (λ⟨o,z⟩=> .inl ⟨o,k.frz _ _ _ z⟩) .inr⟩
 | .exc C,v,h=>by
  obtain⟨x,o,vs,e,h1,r⟩:=(show ∃x o vs,v= .ref x/\H x=some (.frz o (.own 0))/\o.cls= .ref C/\o.data= .fields vs from h);exact⟨x,o,vs,e,k.frz _ _ _ h1,r⟩
 | .fn a,v,h=>h
theorem À.mono (k:Kept H H'): ∀ {ds:G0 D} {vs:G0 V},À K H ds vs->À K H' ds vs
 | [],_,h=>h
 |d::ds,vs,h=>by
  obtain⟨v,r,e,h1,h2⟩:=(show ∃v r,vs=v::r/\É K H d v/\À K H ds r from h);exact⟨v,r,e,É.mono k h1,À.mono k h2⟩
end
section
variable {K:G6}{H:Hp}
def À.nil:À K H [] []:=rfl
def À.cons {d:D}{v:V}{ds:G0 D}{vs:G0 V}(h:É K H d v)(t:À K H ds vs):À K H (d::ds) (v::vs):=⟨v,vs,rfl,h,t⟩
theorem À.length: ∀ {ds:G0 D} {vs:G0 V},À K H ds vs->ds.length=vs.length
 | [],_,h=>by cases (show _= [] from h);rfl
 |d::ds,vs,h=>by
  obtain⟨v,r,e,_,h2⟩:=(show ∃v r,vs=v::r/\É K H d v/\À K H ds r from h);subst e;simp [À.length h2]
theorem À.append: ∀ {ds es:G0 D} {vs us:G0 V},À K H ds vs->À K H es us->À K H (ds++es) (vs++us)
 | [],_,_,_,h,g=>by cases (show _= [] from h);exact g
 |d::ds,es,vs,us,h,g=>by
  obtain⟨v,r,e,h1,h2⟩:=(show ∃v r,vs=v::r/\É K H d v/\À K H ds r from h);subst e;exact .cons h1 (À.append h2 g)
theorem À.get: ∀ {ds:G0 D} {vs:G0 V} {i:G5} {d:D},À K H ds vs->ds[i]? =some d-> ∃v,vs[i]? =some v/\É K H d v
 |d'::ds,vs,i,d,h,e=>by
  obtain⟨v,r,q,h1,h2⟩:=(show ∃v r,vs=v::r/\É K H d' v/\À K H ds r from h);subst q;cases i with
  |zero=>simp at e;subst e;exact⟨v,rfl,h1⟩
  |succ i=>
   obtain⟨u,q1,q2⟩:=À.get h2 (i:=i) (d:=d) (by simpa using e);exact⟨u,by simpa using q1,q2⟩
def À.take (n:G5): ∀ {ds:G0 D} {vs:G0 V},À K H ds vs->À K H (ds.take n) (vs.take n):=by
 induction n with
 |zero=>intro ds vs _;exact(rfl:À K H [] [])
 |succ n ih=>
  intro ds vs h;cases ds with
  |nil=>cases (show vs= [] from h);exact .nil
  |cons d ds=>
   obtain⟨v,r,e,h1,h2⟩:=(show ∃v r,vs=v::r/\É K H d v/\À K H ds r from h);subst e;exact .cons h1 (ih h2)
def À.drop (n:G5): ∀ {ds:G0 D} {vs:G0 V},À K H ds vs->À K H (ds.drop n) (vs.drop n):=by
 induction n with
 |zero=>intro ds vs h;exact h
 |succ n ih=>
  intro ds vs h;cases ds with
  |nil=>cases (show vs= [] from h);exact .nil
  |cons d ds=>
   obtain⟨v,r,e,h1,h2⟩:=(show ∃v r,vs=v::r/\É K H d v/\À K H ds r from h);subst e;exact ih h2
theorem À.set {d:D}{v:V}(q:É K H d v): ∀ {ds:G0 D} {vs:G0 V} (i:G5),À K H ds vs->À K H (ds.set i d) (vs.set i v)
 | [],_,_,h=>by cases (show _= [] from h);exact .nil
 |e::ds,vs,i,h=>by
  obtain⟨u,r,z,h1,h2⟩:=(show ∃u r,vs=u::r/\É K H e u/\À K H ds r from h);subst z;cases i with
  |zero=>exact .cons q h2
  |succ i=>exact .cons h1 (À.set q i h2)
theorem wM: ∀ns:G0 P1,À K H (ns.map D.int) (ns.map V.int)
 | []=> .nil
 |n::ns=> .cons rfl (wM ns)
end
inductive DC where
 |ik (kv:G0 (P1×D))
 |tk (ep:G5) (kv:G0 (G0 (G0 P1)×D))
structure HD where
 ls:G9->P5 (G0 D)
 dc:G9->P5 DC
instance:CoeFun HD λ_=>G9->P5 (G0 D):=⟨HD.ls⟩
def zF (h:HD)(a:G9)(ds:G0 D):HD:=⟨λb=>if b=a then some ds else h b,h.dc⟩
def YK (h:HD)(a:G9):HD:=⟨λb=>if b=a then none else h b,h.dc⟩
variable {h:HD}{ds:G0 D}
def jc:zF h a ds a=some ds:=R8 rfl
def wm {b:G9}(e:b≠a):zF h a ds b=h b:=R9 e
def wn (e:h a=none):YK (zF h a ds) a=h:=by
 obtain⟨l,d⟩:=h;refine congrArg (HD.mk · d) ?_
 funext b
 show (if b=a then none else if b=a then some ds else l b)=l b
 by_cases q:b=a
 ·subst q;rw [R8 rfl];exact e.symm
 ·rw [R9 q,R9 q]
noncomputable def LN:G0 Str:= ["law","_law_right","_law_words","_law_other_words","_law_many_right","_law_all","_law_told_row","_law_all_right","_law_desk_right","_law_signs_right","_law_lists_right","_law_text_right"]
def X0D (K:G6)(P:G9):Prop:= ∃x∈LN,∃c,lM K x=some (c,P)
def Ă (H:Hp)(ps:T6 G1):Prop:=gX ps.toList/\ ∀pos cv,mE pos ps.toList=some cv-> ∃ (c:G9) (o:Obj) (vs:T6 G1) (q:Str) (t:Tok),cv= .ref c/\H c=some (.frz o (.own 0))/\o.data= .fields vs/\vs[1]? =some (.str q t)
def ċ (K:G6)(H:Hp):Prop:= ∀P,X0D K P-> ∃ps,H P=some (.tbl ps)/\Ă H ps
def Ă.mono {ps:T6 G1}(k: ∀a o u,H a=some (.frz o u)->H' a=some (.frz o u))(c:Ă H ps):Ă H' ps:=
 ⟨c.1,λpos cv e=>let ⟨c',o,vs,q,t,e1,e2,r⟩:=c.2 pos cv e;⟨c',o,vs,q,t,e1,k _ _ _ e2,r⟩⟩
def ċ.mono (x:ċ K H)(k: ∀a o u,H a=some (.frz o u)->H' a=some (.frz o u))(kt: ∀a ps,H a=some (.tbl ps)->H' a=some (.tbl ps)):ċ K H':=λP hP=>
 let ⟨ps,e,c⟩:=x P hP;⟨ps,kt _ _ e,c.mono k⟩
def ċ.new (x:ċ K H)(e:H p=none):ċ K (upd H p o):=
 x.mono (λa o' u h=>by rw [jf (jl h e)];exact h) λa ps h=>by rw [jf (jl h e)];exact h
def ċ.put {xs:G0 V}(x:ċ K H)(e:H p=some (.lst xs)):ċ K (upd H p o):=
 x.mono (λa o' u h=>by rw [jf (Gk h e (by intro z;cases z))];exact h) λa ps h=>by rw [jf (Gk h e (by intro z;cases z))];exact h
noncomputable def CO (T:G0 (G0 P1)):P1:=G0b (kZ (T.map λr=>G0b (kZ (r.map mI))))
def Kr (a:G9)(ep:G5)(xs:G0 (G0 (G0 P1)×G9×V)):HO:= .ext λh=>(a==cI)=false/\xs.length<=sizeLine/\ ∃ys:G0 (G0 (G0 P1)×G9×G1),Paired (λp q=>p.1=q.1/\p.2.1=q.2.1/\RelV p.2.2 q.2.2) xs ys/\
 ∃o es,h.get? a=some o/\o.ExactDict/\o.data= .dict es ep/\es.toList=ys.map λx=>⟨CO x.1,.ref x.2.1,x.2.2⟩
def Ŕ (K:G6)(H:Hp)(a:G9):DC->Prop
 | .ik kv=> ∃Ã:G0 (P1×V),H a=some (.dK (Ã.map λp=>((A9 p.1:ß),p.2)))/\kv.map (·.1)=Ã.map (·.1)/\À K H (kv.map (·.2)) (Ã.map (·.2))
 | .tk ep kv=> ∃xs:G0 (G0 (G0 P1)×G9×V),H a=some (Kr a ep xs)/\(kv.map (·.1)).Nodup/\kv.map (·.1)=xs.map (·.1)/\(∀x∈xs,É K H (.tup (x.1.map λr=> .tup (r.map D.int))) (.ref x.2.1))/\À K H (kv.map (·.2)) (xs.map (·.2.2))
def Ŕ.obj: ∀ {c:DC},Ŕ K H a c-> ∃o,H a=some o/\θ o
 | .ik _,⟨Ã,e,_⟩=>⟨_,e,.inl ⟨Ã,rfl⟩⟩
 | .tk _ _,⟨xs,e,_⟩=>⟨_,e,.inr ⟨_,rfl⟩⟩
def Ŕ.mono (k:Kept H H')(z: ∀o,H a=some o->H' a=some o): ∀ {c:DC},Ŕ K H a c->Ŕ K H' a c
 | .ik _,⟨Ã,e,q,r⟩=>⟨Ã,z _ e,q,r.mono k⟩
 | .tk _ _,⟨xs,e,n,q,t,r⟩=>⟨xs,z _ e,n,q,λx hx=>(t x hx).mono k,r.mono k⟩
structure Ä (K:G6)(h:HD)(H:Hp):Prop where
 ls: ∀a ds,h a=some ds-> ∃vs,H a=some (.lst vs)/\À K H ds vs
 tb:ċ K H
 dc: ∀a c,h.dc a=some c->Ŕ K H a c
instance {K:G6}{h:HD}{H:Hp}:CoeFun (Ä K h H) λ_=> ∀a ds,h a=some ds-> ∃vs,H a=some (.lst vs)/\À K H ds vs:=⟨Ä.ls⟩
structure Sub (h h':HD):Prop where
 ls: ∀a ds,h a=some ds->h' a=some ds
 dc: ∀a c,h.dc a=some c->h'.dc a=some c
instance {h h':HD}:CoeFun (Sub h h') λ_=> ∀a ds,h a=some ds->h' a=some ds:=⟨Sub.ls⟩
def Sub.refl (h:HD):Sub h h:=⟨λ_ _ e=>e,λ_ _ e=>e⟩
def Sub.trans {a b c:HD}(x:Sub a b)(y:Sub b c):Sub a c:=⟨λd ds e=>y d ds (x d ds e),λd ds e=>y.dc d ds (x.dc d ds e)⟩
def Sub.drop (h:HD)(a:G9):Sub (YK h a) h:=⟨λb ds e=>by
 have e:(if b=a then none else h b)=some ds:=e;split at e
 ·cases e
 ·exact e,λ_ _ e=>e⟩
def Sub.new (e:h p=none):Sub h (zF h p ds):=⟨λa es q=>(by
 rw [wm];exact q;intro z;subst z;rw [e] at q;cases q),λ_ _ e=>e⟩
section
variable {K:G6}{h h':HD}{H:Hp}
def Ä.sub (r:Ä K h H)(s:Sub h' h):Ä K h' H:=⟨λa ds e=>r a ds (s a ds e),r.tb,λa c e=>r.dc a c (s.dc a c e)⟩
def Ä.free (r:Ä K h H){p:G9}(e:H p=none):h p=none:=by
 cases q:h p with
 |none=>rfl
 |some ds=>obtain⟨vs,z,_⟩:=r p ds q;rw [e] at z;cases z
def Ä.freeC (r:Ä K h H){p:G9}(e:H p=none):h.dc p=none:=by
 cases q:h.dc p with
 |none=>rfl
 |some c=>obtain⟨o,z,_⟩:=(r.dc p c q).obj;rw [e] at z;cases z
def Ä.dcN (r:Ä K h H){p:G9}{o:HO}(e:H p=none): ∀a c,h.dc a=some c->Ŕ K (upd H p o) a c:=λa c q=>
 (r.dc a c q).mono (.new e) λu z=>by rw [jf (jl z e)];exact z
def Ä.new (r:Ä K h H){p:G9}{o:HO}(e:H p=none):Ä K h (upd H p o):=⟨λa ds q=>by
 obtain⟨vs,z,w⟩:=r a ds q;exact⟨vs,by rw [jf (jl z e)];exact z,w.mono (.new e)⟩,r.tb.new e,r.dcN e⟩
def Ä.newL (r:Ä K h H){p:G9}{ds:G0 D}{vs:G0 V}(e:H p=none)(q:À K H ds vs):Ä K (zF h p ds) (upd H p (.lst vs)):=⟨λa es z=>by
 by_cases w:a=p
 ·subst w;rw [jc] at z;cases z;exact⟨vs,ji,q.mono (.new e)⟩
 ·rw [wm w] at z;obtain⟨us,z1,z2⟩:=r a es z;exact⟨us,by rw [jf w];exact z1,z2.mono (.new e)⟩,r.tb.new e,r.dcN e⟩
def Ä.put (r:Ä K h H){p:G9}{ds:G0 D}{vs us:G0 V}(e:H p=some (.lst us))(q:À K H ds vs):Ä K (zF h p ds) (upd H p (.lst vs)):=⟨λa es z=>by
 by_cases w:a=p
 ·subst w;rw [jc] at z;cases z;exact⟨vs,ji,q.mono (.put e)⟩
 ·rw [wm w] at z;obtain⟨us,z1,z2⟩:=r a es z;exact⟨us,by rw [jf w];exact z1,z2.mono (.put e)⟩,r.tb.put e,λa c z=>(r.dc a c z).mono (.put e) λo w=>by
   obtain⟨u,w',d⟩:=(r.dc a c z).obj;rw [jf (Gk w' e (d.no.2.1 _))];exact w⟩
end
def BE (h:HD)(p:G9)(c:DC):HD:=⟨h.ls,λb=>if b=p then some c else h.dc b⟩
def vT {c:DC}:(BE h p c).dc p=some c:=R8 rfl
def YL {c:DC}(e:a≠p):(BE h p c).dc a=h.dc a:=R9 e
def Sub.newC {c:DC}(e:h.dc p=none):Sub h (BE h p c):=⟨λ_ _ e=>e,λa d q=>by
 rw [YL];exact q;intro z;subst z;rw [e] at q;cases q⟩
section
variable {K:G6}{h:HD}{H:Hp}
def Ä.newC (r:Ä K h H){p:G9}{o:HO}{c:DC}(e:H p=none)(d:Ŕ K (upd H p o) p c):Ä K (BE h p c) (upd H p o):=⟨(r.new e).ls,r.tb.new e,λa k z=>by
 by_cases w:a=p
 ·subst w;rw [vT] at z;cases z;exact d
 ·rw [YL w] at z;exact r.dcN e a k z⟩
def Ä.putC (r:Ä K h H){p:G9}{o o':HO}{c:DC}(e:H p=some o)(ob:θ o)(d:Ŕ K (upd H p o') p c):Ä K (BE h p c) (upd H p o'):=by
 obtain⟨d1,d2,d3,d4,d5⟩:=ob.no;have ne: ∀ {a:G9} {u:HO},H a=some u->o≠u->a≠p:=λq n z=>by subst z;rw [e] at q;injection q with q;exact n q
 refine⟨λa ds z=> ?_,r.tb.mono (λa q u z=>by rw [jf (ne z (d4 q u))];exact z) (λa ps z=>by rw [jf (ne z (d5 ps))];exact z),λa k z=> ?_⟩
 ·obtain⟨vs,z1,z2⟩:=r a ds z;exact⟨vs,by rw [jf (ne z1 (d2 vs))];exact z1,z2.mono (.putD e ob)⟩
 ·by_cases w:a=p
  ·subst w;rw [vT] at z;cases z;exact d
  ·rw [YL w] at z;exact(r.dc a k z).mono (.putD e ob) λu q=>by rw [jf w];exact q
end
abbrev SD:=G0 (P5 D)
def Ì (K:G6)(H:Hp)(Â:SD)(σ:St):Prop:=Â.length=σ.length/\ ∀ (i:G5) (d:D),Â[i]? =some (some d)-> ∃v,σ[i]? =some (some v)/\É K H d v
def Ì.mono {Â:SD}(r:Ì K H Â σ)(k:Kept H H'):Ì K H' Â σ:=⟨r.1,λi d e=>let ⟨v,a,b⟩:=r.2 i d e;⟨v,a,b.mono k⟩⟩
def Ì.set {Â:SD}{d:D}{v:V}(r:Ì K H Â σ)(q:É K H d v)(i:G5):Ì K H (Â.set i (some d)) (σ.set i (some v)):=⟨by simp [r.1],λj e h=>by
 by_cases z:i=j
 ·subst z;rw [gB] at h ⊢
  by_cases hl:i<Â.length
  ·rw [R8 rfl,R8 hl] at h;rw [R8 rfl,R8 (by rw [<-r.1];exact hl)];cases h;exact⟨v,rfl,q⟩
  ·rw [R8 rfl,R9 hl] at h;cases h
 ·rw [K6 z] at h ⊢;exact r.2 j e h⟩
def Ì.clear1 {Â:SD}(r:Ì K H Â σ)(i:G5):Ì K H (Â.set i none) (σ.set i none):=⟨by simp [r.1],λj e h=>by
 by_cases z:i=j
 ·subst z;rw [gB] at h;split at h
  ·split at h<;>cases h
  ·contradiction
 ·rw [K6 z] at h ⊢;exact r.2 j e h⟩
def jJ:G0 G5->SD->SD
 | [],σ=>σ
 |j::js,σ=>jJ js (σ.set j none)
theorem Ì.clear: ∀ (js:G0 G5) {Â:SD} {σ:St},Ì K H Â σ->Ì K H (jJ js Â) (zW js σ)
 | [],_,_,r=>r
 |j::js,_,_,r=>Ì.clear js (r.clear1 j)
abbrev KD:=D->HD->Prop
abbrev TED:=SD->HD->KD->Prop
abbrev TTD:=SD->HD->(M7->HD->Prop)->Prop
abbrev TAD:=SD->HD->(G0 D->HD->Prop)->Prop
abbrev RD2:=D->D->HD->KD->Prop
abbrev RDn:=G0 D->HD->KD->Prop
structure EndsD where
 nx:SD->HD->Prop
 rt:KD
 bk:SD->HD->Prop:=λ_ _=>False
 ct:SD->HD->Prop:=λ_ _=>False
abbrev TSD:=EndsD->SD->HD->Prop
abbrev TGD:=D->SD->HD->(SD->HD->Prop)->Prop
def BF (K:G6)(H:Hp)(Qd:KD)(Q:VK):Prop:= ∀d v h' H',Kept H H'->Ä K h' H'->É K H' d v->Qd d h'->Q v H'
def LE (K:G6)(t:TED):TE:=λσ H Q=> ∃Â h Qd,Ì K H Â σ/\Ä K h H/\t Â h Qd/\BF K H Qd Q
def LT (K:G6)(t:TTD):TT:=λσ H Q=> ∃Â h Qd,Ì K H Â σ/\Ä K h H/\t Â h Qd/\ ∀b h' H',Kept H H'->Ä K h' H'->Qd b h'->Q b H'
def LA (K:G6)(t:TAD):TA:=λσ H Q=> ∃Â h Qd,Ì K H Â σ/\Ä K h H/\t Â h Qd/\ ∀ds vs h' H',Kept H H'->Ä K h' H'->À K H' ds vs->Qd ds h'->Q vs H'
def LR (K:G6)(f:RD2):R2:=λx y H Q=> ∃dx dy h Qd,É K H dx x/\É K H dy y/\Ä K h H/\f dx dy h Qd/\BF K H Qd Q
def LC (K:G6)(f:RDn):G0 V->Hp->VK->Prop:=λxs H Q=> ∃ds h Qd,À K H ds xs/\Ä K h H/\f ds h Qd/\BF K H Qd Q
def LG (K:G6)(g:TGD):TG:=λv σ H Q=> ∃d Â h Qd,É K H d v/\Ì K H Â σ/\Ä K h H/\g d Â h Qd/\ ∀Ð h' IO H',Kept H H'->Ì K H' Ð IO->Ä K h' H'->Qd Ð h'->Q IO H'
def LS (K:G6)(t:TSD):TS:=λĵ σ H=> ∃Â h Dd,Ì K H Â σ/\Ä K h H/\t Dd Â h/\
 (∀Ð h' IO H',Kept H H'->Ì K H' Ð IO->Ä K h' H'->Dd.nx Ð h'->ĵ.nx IO H')/\BF K H Dd.rt ĵ.rt/\
 (∀Ð h' IO H',Kept H H'->Ì K H' Ð IO->Ä K h' H'->Dd.bk Ð h'->ĵ.bk IO H')/\(∀Ð h' IO H',Kept H H'->Ì K H' Ð IO->Ä K h' H'->Dd.ct Ð h'->ĵ.ct IO H')
def PE.imp {t t':TE}(h:PE X e t)(i: ∀σ H Q,t' σ H Q->t σ H Q):PE X e t':=λID s σ H Q I q=>h ID s σ H Q I (i σ H Q q)
def PT.imp {t t':TT}(h:PT X e t)(i: ∀σ H Q,t' σ H Q->t σ H Q):PT X e t':=λID s σ H Q I q=>h ID s σ H Q I (i σ H Q q)
def PW.imp {t t':TT}(h:PW X e t)(i: ∀σ H Q,t' σ H Q->t σ H Q):PW X e t':=λwh ID s σ H Q I q=>h wh ID s σ H Q I (i σ H Q q)
def PA.imp {e:G0 M9}{t t':TA}(h:PA X e t)(i: ∀σ H Q,t' σ H Q->t σ H Q):PA X e t':=λpos ID s σ H Q I q=>h pos ID s σ H Q I (i σ H Q q)
def PS.imp {e:A6}{t t':TS}(h:PS X e t)(i: ∀D σ H,t' D σ H->t D σ H):PS X e t':=λID s σ H D I q=>h ID s σ H D I (i D σ H q)
def ļ.imp {e:G0 A6}{t t':TS}(h:ļ X e t)(i: ∀D σ H,t' D σ H->t D σ H):ļ X e t':=λID s σ H D I q=>h ID s σ H D I (i D σ H q)
def PG.imp {t t':TG}(h:PG X e t)(i: ∀v σ H Q,t' v σ H Q->t v σ H Q):PG X e t':=λID s σ H v u Q I r q=>h ID s σ H v u Q I r (i v σ H Q q)
def ü.imp {f:G1->G1->Sem G1}{r r':R2}(h:ü X f r)(i: ∀x y H Q,r' x y H Q->r x y H Q):ü X f r':=λID s σ H x y v u Q I a b q=>h ID s σ H x y v u Q I a b (i x y H Q q)
def Ù.imp {f:G1}{r r':G0 V->Hp->VK->Prop}(h:Ù X f r)(i: ∀xs H Q,r' xs H Q->r xs H Q):Ù X f r':=λID s σ H xs us Q I a q=>h ID s σ H xs us Q I a (i xs H Q q)
def Ds (i:G5):TED:=λσ h Q=> ∃d,σ[i]? =some (some d)/\Q d h
def dC (d:D):TED:=λ_ h Q=>Q d h
def ľ (f:RD2)(ta tb:TED):TED:=λσ h Q=>ta σ h λx h1=>tb σ h1 λy h2=>f x y h2 Q
def WF:TAD:=λ_ h Q=>Q [] h
def zu (ta:TED)(tr:TAD):TAD:=λσ h Q=>ta σ h λx h1=>tr σ h1 λxs h2=>Q (x::xs) h2
def Sy (t:TAD):TED:=λσ h Q=>t σ h λds h1=>ds.length<=sizeLine/\Q (.tup ds) h1
def Al (t:TAD):TED:=λσ h Q=>t σ h λds h1=>ds.length<=sizeLine/\ ∀p,h1 p=none->Q (.lst p) (zF h1 p ds)
def ħ (r:RDn)(t:TAD):TED:=λσ h Q=>t σ h λds h1=>r ds h1 Q
def JD (t:TED):TTD:=λσ h Q=>t σ h λx h1=> ∃k,x= .bl k/\Q k h1
def ZV (r r':RD2)(ta tb tc:TED):TED:=λσ h Q=>ta σ h λx h1=>tb σ h1 λy h2=>r x y h2 λz h3=> ∃k,z= .bl k/\
 (if k=true then tc σ h3 λw h4=>r' y w h4 Q else Q (.bl false) h3)
def CP (t u:TTD):TTD:=λσ h Q=>t σ h λc h1=>if c=true then u σ h1 Q else Q false h1
def Am (t u:TTD):TTD:=λσ h Q=>t σ h λc h1=>if c=true then Q true h1 else u σ h1 Q
def Dt (t:TTD):TTD:=λσ h Q=>t σ h λc h1=>Q (!c) h1
def Du (ta tb:TED):TED:=λσ h Q=>ta σ h λx h1=> ∃c,x= .bl c/\if c=true then tb σ h1 Q else Q (.bl false) h1
def Tf (ta tb:TED):TED:=λσ h Q=>ta σ h λx h1=> ∃c,x= .bl c/\if c=true then Q (.bl true) h1 else tb σ h1 Q
def Dv (ta:TED):TED:=λσ h Q=>ta σ h λx h1=> ∃c,x= .bl c/\Q (.bl (!c)) h1
def dIf (t:TTD)(ta tb:TED):TED:=λσ h Q=>t σ h λc h1=>if c=true then ta σ h1 Q else tb σ h1 Q
section
variable {K:G6}
def An (i:G5): ∀σ H Q,LE K (Ds i) σ H Q->SG i σ H Q:=λσ H Q ⟨Â,h,Qd,rs,rh,⟨d,e,q⟩,p⟩=>let ⟨v,e1,e2⟩:=rs.2 i d e;⟨v,e1,p d v h H (.refl H) rh e2 q⟩
def Sz {d:D}{v:V}(r: ∀H,É K H d v): ∀σ H Q,LE K (dC d) σ H Q->tC v σ H Q:=λσ H Q ⟨Â,h,Qd,rs,rh,q,p⟩=>p d v h H (.refl H) rh (r H) q
variable {H:Hp}
def jC {H1:Hp}{Qd:KD}{Q:VK}(p:BF K H Qd Q)(k:Kept H H1):BF K H1 Qd Q:=λd v h' H' k'=>p d v h' H' (k.trans k')
variable {ta:TED}
def LE.bind {σ:St}{Â:SD}{h:HD}{kd:KD}{k:VK}(rs:Ì K H Â σ)(rh:Ä K h H)(t:ta Â h kd)(f: ∀d v h' H',Kept H H'->Ì K H' Â σ->Ä K h' H'->É K H' d v->kd d h'->k v H'):LE K ta σ H k:=
 ⟨Â,h,kd,rs,rh,t,λd v h' H' kp r1 r2 q=>f d v h' H' kp (rs.mono kp) r1 r2 q⟩
def LT.bind {ta:TTD}{σ:St}{Â:SD}{h:HD}{kd:M7->HD->Prop}{k:M7->Hp->Prop}(rs:Ì K H Â σ)(rh:Ä K h H)(t:ta Â h kd)(f: ∀b h' H',Kept H H'->Ì K H' Â σ->Ä K h' H'->kd b h'->k b H'):LT K ta σ H k:=
 ⟨Â,h,kd,rs,rh,t,λb h' H' kp r1 q=>f b h' H' kp (rs.mono kp) r1 q⟩
def LA.bind {ta:TAD}{σ:St}{Â:SD}{h:HD}{kd:G0 D->HD->Prop}{k:G0 V->Hp->Prop}(rs:Ì K H Â σ)(rh:Ä K h H)(t:ta Â h kd)(f: ∀ds vs h' H',Kept H H'->Ì K H' Â σ->Ä K h' H'->À K H' ds vs->kd ds h'->k vs H'):LA K ta σ H k:=
 ⟨Â,h,kd,rs,rh,t,λd v h' H' kp r1 r2 q=>f d v h' H' kp (rs.mono kp) r1 r2 q⟩
variable {tb:TED}
def CQ {f:RD2}: ∀σ H Q,LE K (ľ f ta tb) σ H Q->tOp (LR K f) (LE K ta) (LE K tb) σ H Q:=λσ H Q ⟨Â,h,Qd,rs,rh,t,p⟩=>
 LE.bind rs rh t λd v h1 H1 k1 Ö Ê r1 t1=>LE.bind Ö Ê t1 λd2 v2 h2 H2 k2 Ŀ î r2 t2=>⟨d,d2,h2,Qd,r1.mono k2,r2,î,t2,jC p (k1.trans k2)⟩
def Ao: ∀σ H Q,LA K WF σ H Q->SW σ H Q:=λσ H Q ⟨Â,h,Qd,rs,rh,t,p⟩=>p [] [] h H (.refl H) rh rfl t
def CT {tr:TAD}: ∀σ H Q,LA K (zu ta tr) σ H Q->MO (LE K ta) (LA K tr) σ H Q:=λσ H Q ⟨Â,h,Qd,rs,rh,t,p⟩=>
 LE.bind rs rh t λd v h1 H1 k1 Ö Ê r1 t1=>LA.bind Ö Ê t1 λds vs h2 H2 k2 Ŀ î r2 t2=>p _ _ h2 H2 (k1.trans k2) î (.cons (r1.mono k2) r2) t2
def Ap {t:TAD}: ∀σ H Q,LE K (Sy t) σ H Q->HF (LA K t) σ H Q:=λσ H Q ⟨Â,h,Qd,rs,rh,t,p⟩=>
 LA.bind rs rh t λds vs h1 H1 k1 Ö Ê r1 ⟨z,q⟩=>⟨by rw [<-r1.length];exact z,λa ha=>p (.tup ds) (.ref a) h1 _ (k1.trans (.new ha)) (Ê.new ha) ⟨a,vs,rfl,ji,r1.mono (.new ha)⟩ q⟩
def Aq {t:TAD}: ∀σ H Q,LE K (Al t) σ H Q->HG (LA K t) σ H Q:=λσ H Q ⟨Â,h,Qd,rs,rh,t,p⟩=>
 LA.bind rs rh t λds vs h1 H1 k1 Ö Ê r1 ⟨z,q⟩=>⟨by rw [<-r1.length];exact z,λa ha=>p (.lst a) (.ref a) _ _ (k1.trans (.new ha)) (Ê.newL ha r1) ⟨rfl,vs,ji⟩ (q a (Ê.free ha))⟩
def Ar {r:RDn}{t:TAD}: ∀σ H Q,LE K (ħ r t) σ H Q->tCB (LC K r) (LA K t) σ H Q:=λσ H Q ⟨Â,h,Qd,rs,rh,t,p⟩=>
 LA.bind rs rh t λds vs h1 H1 k1 Ö Ê r1 q=>⟨ds,h1,Qd,r1,Ê,q,jC p k1⟩
def Dw {t:TED}: ∀σ H Q,LT K (JD t) σ H Q->Cr (LE K t) σ H Q:=λσ H Q ⟨Â,h,Qd,rs,rh,t,p⟩=>
 LE.bind rs rh t λd v h1 H1 k1 Ö Ê r1 ⟨k,e,q⟩=>by subst e;exact⟨k,r1,p k h1 H1 k1 Ê q⟩
def Na {t:TED}: ∀σ H Q,LT K (JD t) σ H Q->tB (LE K t) σ H Q:=λσ H Q ⟨Â,h,Qd,rs,rh,t,p⟩=>
 LE.bind rs rh t λd v h1 H1 k1 Ö Ê r1 ⟨k,e,q⟩=>by subst e;exact⟨k,r1,p k h1 H1 k1 Ê q⟩
def Qh {r r':RD2}{tc:TED}: ∀σ H Q,LE K (ZV r r' ta tb tc) σ H Q->PY (LR K r) (LR K r') (LE K ta) (LE K tb) (LE K tc) σ H Q:=λσ H Q ⟨Â,h,Qd,rs,rh,t,p⟩=>
 LE.bind rs rh t λd v h1 H1 k1 Ö Ê r1 t1=>LE.bind Ö Ê t1 λd2 v2 h2 H2 k2 Ŀ î r2 t2=>⟨d,d2,h2,_,r1.mono k2,r2,î,t2,λd3 v3 h3 H3 k3 ě r3 ⟨k,e,q⟩=>by
  subst e;refine⟨k,r3,?_⟩;cases k with
  |true=>
   rw [R8 rfl] at q ⊢;exact LE.bind (Ŀ.mono k3) ě q λd4 v4 h4 H4 k4 ι ţ r4 t4=>⟨d2,d4,h4,Qd,(r2.mono k3).mono k4,r4,ţ,t4,jC p (k1.trans (k2.trans (k3.trans k4)))⟩
  |false=>
   rw [R9 R3] at q ⊢;exact p (.bl false) _ h3 H3 (k1.trans (k2.trans k3)) ě rfl q⟩
variable {t:TTD}
def As {u:TTD}: ∀σ H Q,LT K (CP t u) σ H Q->Ho (LT K t) (LT K u) σ H Q:=λσ H Q ⟨Â,h,Qd,rs,rh,t,p⟩=>
 LT.bind rs rh t λb h1 H1 k1 Ö Ê q=>by
  cases b with
  |true=>rw [R8 rfl] at q ⊢;exact⟨Â,h1,Qd,Ö,Ê,q,λb h' H' k=>p b h' H' (k1.trans k)⟩
  |false=>rw [R9 R3] at q ⊢;exact p _ _ _ k1 Ê q
def Tg {u:TTD}: ∀σ H Q,LT K (Am t u) σ H Q->tOr (LT K t) (LT K u) σ H Q:=λσ H Q ⟨Â,h,Qd,rs,rh,t,p⟩=>
 LT.bind rs rh t λb h1 H1 k1 Ö Ê q=>by
  cases b with
  |true=>rw [R8 rfl] at q ⊢;exact p _ _ _ k1 Ê q
  |false=>rw [R9 R3] at q ⊢;exact⟨Â,h1,Qd,Ö,Ê,q,λb h' H' k=>p b h' H' (k1.trans k)⟩
def At: ∀σ H Q,LT K (Dt t) σ H Q->Hq (LT K t) σ H Q:=λσ H Q ⟨Â,h,Qd,rs,rh,t,p⟩=>
 LT.bind rs rh t λb h1 H1 k1 Ö Ê q=>p _ _ _ k1 Ê q
def Au: ∀σ H Q,LE K (Du ta tb) σ H Q->OA (LE K ta) (LE K tb) σ H Q:=λσ H Q ⟨Â,h,Qd,rs,rh,t,p⟩=>
 LE.bind rs rh t λd v h1 H1 k1 Ö Ê r1 ⟨c,e,q⟩=>by
  subst e;refine⟨c,r1,?_⟩;cases c with
  |true=>rw [R8 rfl] at q ⊢;exact⟨Â,h1,Qd,Ö,Ê,q,jC p k1⟩
  |false=>rw [R9 R3] at q ⊢;exact p (.bl false) _ _ _ k1 Ê rfl q
def Th: ∀σ H Q,LE K (Tf ta tb) σ H Q->Hr (LE K ta) (LE K tb) σ H Q:=λσ H Q ⟨Â,h,Qd,rs,rh,t,p⟩=>
 LE.bind rs rh t λd v h1 H1 k1 Ö Ê r1 ⟨c,e,q⟩=>by
  subst e;refine⟨c,r1,?_⟩;cases c with
  |true=>rw [R8 rfl] at q ⊢;exact p (.bl true) _ _ _ k1 Ê rfl q
  |false=>rw [R9 R3] at q ⊢;exact⟨Â,h1,Qd,Ö,Ê,q,jC p k1⟩
def Av: ∀σ H Q,LE K (Dv ta) σ H Q->OB (LE K ta) σ H Q:=λσ H Q ⟨Â,h,Qd,rs,rh,t,p⟩=>
 LE.bind rs rh t λd v h1 H1 k1 Ö Ê r1 ⟨c,e,q⟩=>by subst e;exact⟨c,r1,p (.bl (!c)) _ _ _ k1 Ê rfl q⟩
def Ti: ∀σ H Q,LE K (dIf t ta tb) σ H Q->tIf (LT K t) (LE K ta) (LE K tb) σ H Q:=λσ H Q ⟨Â,h,Qd,rs,rh,t,p⟩=>
 LT.bind rs rh t λb h1 H1 k1 Ö Ê q=>by
  cases b with
  |true=>rw [R8 rfl] at q ⊢;exact⟨Â,h1,Qd,Ö,Ê,q,jC p k1⟩
  |false=>rw [R9 R3] at q ⊢;exact⟨Â,h1,Qd,Ö,Ê,q,jC p k1⟩
end
abbrev QE (X:Cx)(e:M9)(t:TED):Prop:=PE X e (LE X.K t)
abbrev QT (X:Cx)(e:M9)(t:TTD):Prop:=PT X e (LT X.K t)
abbrev QW (X:Cx)(e:M9)(t:TTD):Prop:=PW X e (LT X.K t)
abbrev QA (X:Cx)(es:G0 M9)(t:TAD):Prop:=PA X es (LA X.K t)
abbrev QS (X:Cx)(s:A6)(t:TSD):Prop:=PS X s (LS X.K t)
abbrev QSs (X:Cx)(s:G0 A6)(t:TSD):Prop:=ļ X s (LS X.K t)
abbrev QG (X:Cx)(e:M9)(t:TGD):Prop:=PG X e (LG X.K t)
abbrev ó (X:Cx)(f:G1->G1->Sem G1)(r:RD2):Prop:=ü X f (LR X.K r)
abbrev yU (X:Cx)(f:G1)(r:RDn):Prop:=Ù X f (LC X.K r)
section
variable {X:Cx}{a b c e:M9}{es rest:G0 M9}{ta tb tc te:TED}{t u:TAD}{tt tu:TTD}{pos:Pos}{f r r':RD2}
def qv (i:G5){x:Str}(hN:X.N[i]? =some x:=by rfl)(hv:Vis X.env.scope x:=by first|exact K9 rfl|exact bG (K9 rfl)|exact bG (bG rfl))(hd:(x==("__debug__" :Str))=false:=by decide)
 (hcd:(x==("__classdict__" :Str))=false:=by decide):QE X (.Name x pos) (Ds i):=(Bv hN hv hd hcd).imp (An i)
def Ks {i:P1}{j:G5}:QE X (.Constant (.int i) j pos) (dC (.int i)):=Α.imp (Sz λ_=>rfl)
def qbl {i:M7}{j:G5}:QE X (.Constant (.bool i) j pos) (dC (.bl i)):=X02.imp (Sz λ_=>rfl)
def Kt {x:Str}{j:G5}:QE X (.Constant (.str x) j pos) (dC (.str x)):=X0s.imp (Sz λ_=>rfl)
def Tj {x:Str}{i:P1}{tk:Tok}(hg:Gl X x)(hm:X.mg x=some (.int i tk))(hd:(x==("__debug__" :Str))=false:=by decide):QE X (.Name x pos) (dC (.int i)):=
 (PK (v:= .int i) hg hm ⟨tk,rfl⟩ hd).imp (Sz λ_=>rfl)
def qop {op:pR}(ho:ó X (V6 op) f)(ha:QE X a ta)(hb:QE X b tb):QE X (.BinOp a op b pos) (ľ f ta tb):=(SQ ho ha hb).imp CQ
def Ku {op:iQ}(ho:ó X (F7 op) f)(ha:QE X a ta)(hb:QE X b tb)(hm:U3 op b=false):QE X (.Compare a [op] [b] pos) (ľ f ta tb):=(Cq ho ha hb hm).imp CQ
def Tk {op:iQ}(ho:ó X (F7 op) f)(ha:QE X a ta)(hb:QE X b tb)(hm:U3 op b=false):QT X (.Compare a [op] [b] pos) (JD (ľ f ta tb)):=
 (Cs ho ha hb hm).imp λσ H Q h=>by
  obtain⟨Â,h,Qd,rs,rh,t,p⟩:=Dw (t:=ľ f ta tb) σ H Q h;exact CQ σ H _ ⟨Â,h,Qd,rs,rh,t,p⟩
def Aw {op ĥ:iQ}(ho:ó X (F7 op) r)(ho':ó X (F7 ĥ) r')(ha:QE X a ta)(hb:QE X b tb)(hc:QE X c tc)(hm:lW [op,ĥ] [b,c]=false:=by with_unfolding_all rfl):
 QE X (.Compare a [op,ĥ] [b,c] pos) (ZV r r' ta tb tc):=(MM ho ho' ha hb hc hm).imp Qh
def CV {op ĥ:iQ}(ho:ó X (F7 op) r)(ho':ó X (F7 ĥ) r')(ha:QE X a ta)(hb:QE X b tb)(hc:QE X c tc)(hm:lW [op,ĥ] [b,c]=false:=by with_unfolding_all rfl):
 QT X (.Compare a [op,ĥ] [b,c] pos) (JD (ZV r r' ta tb tc)):=(MN ho ho' ha hb hc hm).imp λσ H Q h=>by
 obtain⟨Â,h,Qd,rs,rh,t,p⟩:=Dw (t:=ZV r r' ta tb tc) σ H Q h;exact Qh σ H _ ⟨Â,h,Qd,rs,rh,t,p⟩
def Tl (ha:QE X a ta)(he: ∀whole,isTrue a X.env whole=(do let v <-whole;hO a.pos;aZ [v] (qV v)):=by intro _;rfl):QT X a (JD ta):=(Ow ha he).imp Na
def Tn (ha:QT X a tt):QW X (.BoolOp .And [a] pos) tt:=Ck ha
def Kv (ha:QT X a tt):QW X (.BoolOp .Or [a] pos) tt:=Ox ha
def To (ha:QT X a tt)(hb:QW X (.BoolOp .And (b::rest) pos) tu):QW X (.BoolOp .And (a::b::rest) pos) (CP tt tu):=(Oy ha hb).imp As
def Kw (ha:QT X a tt)(hb:QW X (.BoolOp .Or (b::rest) pos) tu):QW X (.BoolOp .Or (a::b::rest) pos) (Am tt tu):=(SH ha hb).imp Tg
def Tp (ha:QT X a tt):QT X (.UnaryOp .Not a pos) (Dt tt):=(Oz ha).imp At
def Kx {op:BoolOp}(ha:QE X a ta):QE X (.BoolOp op [a] pos) ta:=OC ha
def Ky (ha:QE X a ta)(hb:QE X (.BoolOp .And (b::rest) pos) tb):QE X (.BoolOp .And (a::b::rest) pos) (Du ta tb):=(OD ha hb).imp Au
def qor (ha:QE X a ta)(hb:QE X (.BoolOp .Or (b::rest) pos) tb):QE X (.BoolOp .Or (a::b::rest) pos) (Tf ta tb):=(SJ ha hb).imp Th
def Kz (ha:QE X a ta):QE X (.UnaryOp .Not a pos) (Dv ta):=(OE ha).imp Av
def qif {c:M9}(hc:QT X c tt)(ha:QE X a ta)(hb:QE X b tb):QE X (.IfExp c a b pos) (dIf tt ta tb):=(MJ hc ha hb).imp Ti
def Ax:QA X [] WF:=ð.imp Ao
def CY (ha:QE X e te)(hr:QA X es t)(hs:P8 (e::es) X.env=(false,A2 e X.env)::P8 es X.env:=by rfl):QA X (e::es) (zu te t):=(zA ha hr hs).imp CT
def KA {k:G5}(h:QA X es t):QE X (.Tuple es k pos) (Sy t):=(OW h).imp Ap
def KB (h:QA X es t):QE X (.List es pos) (Al t):=(OX h).imp Aq
end
def Xn:TSD:=λD σ h=>D.nx σ h
def vp (t u:TSD):TSD:=λD σ h=>t {D with nx:=u D} σ h
def CZ (te:TED):TSD:=λD σ h=>te σ h λ_ h1=>D.nx σ h1
def Pz (te:TED):TSD:=λD σ h=>te σ h D.rt
def Fa (c:TTD)(t u:TSD):TSD:=λD σ h=>c σ h λb h1=>if b=true then t D σ h1 else u D σ h1
def BG (i:G5)(te:TED):TSD:=λD σ h=>te σ h λd h1=>D.nx (σ.set i (some d)) h1
def Tq (te:TED)(g:TGD):TSD:=λD σ h=>te σ h λx h1=>g x σ h1 D.nx
def Tr (i j:G5)(ta:TAD):TSD:=λD σ h=>ta σ h λds h1=> ∃v w,ds= [v,w]/\D.nx ((σ.set i (some v)).set j (some w)) h1
def gN (i:G5):TGD:=λd σ h Q=>Q (σ.set i (some d)) h
def gT2 (i j:G5):TGD:=λd σ h Q=> ∃x y,d= .tup [x,y]/\Q ((σ.set i (some x)).set j (some y)) h
section
variable {K:G6}
def LS.of {t:TSD}{ĵ:ž}{σ:St}{H:Hp}{Â:SD}{h:HD}{Dd:EndsD}(rs:Ì K H Â σ)(rh:Ä K h H)(q:t Dd Â h)
 (nx: ∀Ð h' IO H',Kept H H'->Ì K H' Ð IO->Ä K h' H'->Dd.nx Ð h'->ĵ.nx IO H')(rt:BF K H Dd.rt ĵ.rt)
 (bk: ∀Ð h' IO H',Kept H H'->Ì K H' Ð IO->Ä K h' H'->Dd.bk Ð h'->ĵ.bk IO H')(ct: ∀Ð h' IO H',Kept H H'->Ì K H' Ð IO->Ä K h' H'->Dd.ct Ð h'->ĵ.ct IO H'):LS K t ĵ σ H:=⟨Â,h,Dd,rs,rh,q,nx,rt,bk,ct⟩
def Fb: ∀D σ H,LS K Xn D σ H->OF D σ H:=λD σ H ⟨Â,h,Dd,rs,rh,q,nx,_⟩=>nx Â h σ H (.refl H) rs rh q
def Ay {t u:TSD}: ∀D σ H,LS K (vp t u) D σ H->Hs (LS K t) (LS K u) D σ H:=λD σ H ⟨Â,h,Dd,rs,rh,q,nx,rt,bk,ct⟩=>
 LS.of rs rh q (λÐ h' IO H' k Ε ï q'=>⟨Ð,h',Dd,Ε,ï,q',λa b c d k'=>nx a b c d (k.trans k'),jC rt k,λa b c d k'=>bk a b c d (k.trans k'),λa b c d k'=>ct a b c d (k.trans k')⟩) rt bk ct
variable {te:TED}
def Fc: ∀D σ H,LS K (CZ te) D σ H->OG (LE K te) D σ H:=λD σ H ⟨Â,h,Dd,rs,rh,q,nx,rt,bk,ct⟩=>
 LE.bind rs rh q λd v h1 H1 k1 Ö Ê r1 q1=>nx _ _ _ _ k1 Ö Ê q1
def Az: ∀D σ H,LS K (Pz te) D σ H->Ht (LE K te) D σ H:=λD σ H ⟨Â,h,Dd,rs,rh,q,nx,rt,bk,ct⟩=>⟨Â,h,Dd.rt,rs,rh,q,rt⟩
def Ts {c:TTD}{t u:TSD}: ∀D σ H,LS K (Fa c t u) D σ H->Hu (LT K c) (LS K t) (LS K u) D σ H:=λD σ H ⟨Â,h,Dd,rs,rh,q,nx,rt,bk,ct⟩=>
 LT.bind rs rh q λb h1 H1 k Ö Ê q1=>by
  cases b with
  |true=>rw [R8 rfl] at q1 ⊢;exact⟨Â,h1,Dd,Ö,Ê,q1,λa b c d k'=>nx a b c d (k.trans k'),jC rt k,λa b c d k'=>bk a b c d (k.trans k'),λa b c d k'=>ct a b c d (k.trans k')⟩
  |false=>rw [R9 R3] at q1 ⊢;exact⟨Â,h1,Dd,Ö,Ê,q1,λa b c d k'=>nx a b c d (k.trans k'),jC rt k,λa b c d k'=>bk a b c d (k.trans k'),λa b c d k'=>ct a b c d (k.trans k')⟩
def Dx {i:G5}: ∀D σ H,LS K (BG i te) D σ H->Bx (LE K te) (ym i) D σ H:=λD σ H ⟨Â,h,Dd,rs,rh,q,nx,rt,bk,ct⟩=>
 LE.bind rs rh q λd v h1 H1 k1 Ö Ê r1 q1=>nx _ _ _ _ k1 (Ö.set r1 i) Ê q1
def AA {g:TGD}: ∀D σ H,LS K (Tq te g) D σ H->Bx (LE K te) (LG K g) D σ H:=λD σ H ⟨Â,h,Dd,rs,rh,q,nx,rt,bk,ct⟩=>
 LE.bind rs rh q λd v h1 H1 k1 Ö Ê r1 q1=>⟨d,Â,h1,_,r1,Ö,Ê,q1,λa b c e k'=>nx a b c e (k1.trans k')⟩
def AB {i j:G5}{ta:TAD}: ∀D σ H,LS K (Tr i j ta) D σ H->Hw i j (LA K ta) D σ H:=λD σ H ⟨Â,h,Dd,rs,rh,q,nx,rt,bk,ct⟩=>
 LA.bind rs rh q λds vs h1 H1 k1 Ö Ê r1 ⟨x,y,e,q1⟩=>by
  subst e;obtain⟨v,r,e,r2,r3⟩:=(show ∃v r,vs=v::r/\É K H1 x v/\À K H1 [y] r from r1);obtain⟨w,r',e',r4,r5⟩:=(show ∃v r',r=v::r'/\É K H1 y v/\À K H1 [] r' from r3);cases (show r'= [] from r5);subst e' e;exact⟨v,w,rfl,nx _ _ _ _ k1 ((Ö.set r2 i).set r4 j) Ê q1⟩
def Fd (i:G5): ∀v σ H Q,LG K (gN i) v σ H Q->ym i v σ H Q:=λv σ H Q ⟨d,Â,h,Qd,r,rs,rh,q,p⟩=>p _ _ _ _ (.refl H) (rs.set r i) rh q
def yq {H:Hp}{x y:D}{vs:G0 V}(r:À K H [x,y] vs): ∃v w,vs= [v,w]/\É K H x v/\É K H y w:=by
 obtain⟨v,r1,e,r2,r3⟩:=(show ∃v r,vs=v::r/\É K H x v/\À K H [y] r from r);obtain⟨w,z,e',r4,r5⟩:=(show ∃v z,r1=v::z/\É K H y v/\À K H [] z from r3);cases (show z= [] from r5);subst e' e;exact⟨v,w,rfl,r2,r4⟩
def jB {H:Hp}{x:D}{vs:G0 V}(r:À K H [x] vs): ∃v,vs= [v]/\É K H x v:=by
 obtain⟨v,r1,e,r2,r3⟩:=(show ∃v r,vs=v::r/\É K H x v/\À K H [] r from r);cases (show r1= [] from r3);exact⟨v,e,r2⟩
def AC (i j:G5): ∀v σ H Q,LG K (gT2 i j) v σ H Q->SN K 2 (PM (ym i) (PM (ym j) SM)) v σ H Q:=λv σ H Q ⟨d,Â,h,Qd,r,rs,rh,⟨x,y,e,q⟩,p⟩=>by
 subst e;obtain⟨a,vs,e,hH,r1⟩:=(show ∃a vs,v= .ref a/\H a=some (.tup vs)/\À K H [x,y] vs from r);obtain⟨v1,v2,e1,r2,r3⟩:=yq r1;subst e e1;exact⟨a,[v1,v2],rfl,å.of hH,rfl,v1,[v2],rfl,v2,[],rfl,rfl,p _ _ _ _ (.refl H) ((rs.set r2 i).set r3 j) rh q⟩
end
section
variable {X:Cx}{st:A6}{sts:G0 A6}{t u:TSD}{e:M9}{te:TED}{pos:Pos}
def AD:QSs X [] Xn:=X0i.imp Fb
def Fe (h1:QS X st t)(h2:QSs X sts u):QSs X (st::sts) (vp t u):=(MK h1 h2).imp Ay
def AE (h1:QS X st t):QSs X [st] t:=Cl h1
def Tt (he:QE X e te)(hs:aQ e none pos.line X.env=pure false:=by rfl):QS X (.Expr e pos) (CZ te):=(Cm he hs).imp Fc
def KC (he:QE X e te):QS X (.Return (some e) pos) (Pz te):=(OH he).imp Az
def KG {c:M9}{a b:G0 A6}{tc:TTD}(hc:QT X c tc)(ha:QSs X a t)(hb:QSs X b u):QS X (.If c a b pos) (Fa tc t u):=(SK hc ha hb).imp Ts
variable {i:G5}{x:Str}
def KH {pos':Pos}(hN:X.N.Nodup)(hi:X.N[i]? =some x)(hx:Loc X.env.scope x)(he:QE X e te)(hs:aQ e (some (.Name x pos')) pos.line X.env=pure false:=by rfl)
 (hf:X.fn x=true\/X.env.scope.names.lookup x=some .local:=by first|exact .inl rfl|exact .inr rfl|assumption):QS X (.Assign [.Name x pos'] e pos) (BG i te):=(OK hN hi hx he hs hf).imp Dx
def Ff (hN:X.N.Nodup)(hi:X.N[i]? =some x)(hx:Loc X.env.scope x)(hf:X.fn x=true\/X.env.scope.names.lookup x=some .local:=by first|exact .inl rfl|exact .inr rfl|assumption):QG X (.Name x pos) (gN i):=
 (vh hN hi hx hf).imp (Fd i)
def AF {j:G5}{y:Str}{p1 p2:Pos}{k:G5}(hc:X.calm=true)(hN:X.N.Nodup)(hi:X.N[i]? =some x)(hj:X.N[j]? =some y)(hx:Loc X.env.scope x)(hy:Loc X.env.scope y)
 (hf:X.fn x=true\/X.env.scope.names.lookup x=some .local:=by first|exact .inl rfl|exact .inr rfl|assumption)(hf2:X.fn y=true\/X.env.scope.names.lookup y=some .local:=by first|exact .inl rfl|exact .inr rfl|assumption):
 QG X (.Tuple [.Name x p1,.Name y p2] k pos) (gT2 i j):=(Bw hc (Zq (vh hN hi hx hf) (Zq (vh hN hj hy hf2) PN))).imp (AC i j)
def KI {tg:M9}{g:TGD}(he:QE X e te)(hg:QG X tg g)(hs:eI [tg] e pos.line X.env=pure false:=by rfl)(hsw:eJ [tg] e X.env=pure none:=by rfl)
 (h1:(fI [tg] X.env).map (·.2)= [iI tg X.env]:=by rfl):QS X (.Assign [tg] e pos) (Tq te g):=(OJ he hg hs hsw h1).imp AA
def KJ {j:G5}{y:Str}{a b:M9}{ta:TAD}{px py pt:Pos}{kt k2 pt2}(hc:X.calm=true)(hN:X.N.Nodup)(hi:X.N[i]? =some x)(hj:X.N[j]? =some y)(hij:i≠j)
 (hx:X.env.scope.names.lookup x=some .local)(hy:X.env.scope.names.lookup y=some .local)(ha:QA X [a,b] ta)
 (hw:eJ [.Tuple [.Name x px,.Name y py] kt pt] (.Tuple [a,b] k2 pt2) X.env=pure (some [x,y]))
 (hs:eI [.Tuple [.Name x px,.Name y py] kt pt] (.Tuple [a,b] k2 pt2) pos.line X.env=pure false:=by rfl):
 QS X (.Assign [.Tuple [.Name x px,.Name y py] kt pt] (.Tuple [a,b] k2 pt2) pos) (Tr i j ta):=(OL hc hN hi hj hij hx hy ha hw hs).imp AB
end
abbrev İ:=HD->P5 (G0 D)
def Oj (K:G6)(H:Hp)(j:İ)(J:It):Prop:= ∀H' h',Kept H H'->Ä K h' H'-> ∀ds,j h'=some ds-> ∀i:G5,
 (∀d,ds[i]? =some d->J.go i H'/\ ∀x Ť,J.yld i H' x Ť->Kept H' Ť/\Ä K h' Ť/\É K Ť d x)/\(ds.length<=i->J.stop i H')
abbrev TID:=SD->HD->(İ->HD->Prop)->Prop
def LI (K:G6)(t:TID):TI:=λσ H R=> ∃Â h Rd,Ì K H Â σ/\Ä K h H/\t Â h Rd/\ ∀j J h' H',Kept H H'->Ä K h' H'->Oj K H' j J->Rd j h'->R J H'
abbrev QI (X:Cx)(tg iter:M9)(t:TID):Prop:=PI X tg iter (LI X.K t)
def PI.imp {t t':TI}(h:PI X tg e t)(i: ∀σ H R,t' σ H R->t σ H R):PI X tg e t':=λID s σ H R I q=>h ID s σ H R I (i σ H R q)
def iL (te:TED):TID:=λσ h R=>te σ h λx h1=> ∃a,x= .lst a/\R (λh=>h a) h1
def iR1 (ta:TAD):TID:=λσ h R=>ta σ h λds h1=> ∃n:P1,ds= [.int n]/\ -(2^62)<=n/\n<2^62/\R (λ_=>some ((P4 n.toNat).map λ(k:G5)=>D.int (k:P1))) h1
def iR2 (ta:TAD):TID:=λσ h R=>ta σ h λds h1=> ∃m n:P1,ds= [.int m,.int n]/\(-(2^62)<=m/\m<2^62/\ -(2^62)<=n/\n<2^62)/\R (λ_=>some ((P4 (n-m).toNat).map λ(k:G5)=>D.int (m+(k:P1)))) h1
section
variable {K:G6}
def VR (H:Hp)(a:G9):Oj K H (λh=>h a) (Itl K a):=λH' h' k rh ds e i=>by
 obtain⟨vs,hv,r⟩:=rh a ds e;refine⟨λd hd=> ?_,λhl=>⟨vs,í.of hv,by rw [<-r.length];exact hl⟩⟩;obtain⟨v,e1,e2⟩:=r.get hd;refine⟨⟨vs,v,í.of hv,e1⟩,λx Ť ⟨eH,hx⟩=> ?_⟩;subst eH;have:=hx vs (í.of hv);rw [e1] at this;cases this;exact⟨.refl _,rh,e2⟩
def Nb {H:Hp}{a:G9}{vs:G0 V}{ds:G0 D}(hv:H a=some (.tup vs))(r:À K H ds vs):Oj K H (λ_=>some ds) (Itt K a):=λH' h' k rh ds' e i=>by
 cases e;have hv':=k.tup _ _ hv;have r':=r.mono k;refine⟨λd hd=> ?_,λhl=>⟨vs,å.of hv',by rw [<-r.length];exact hl⟩⟩;obtain⟨v,e1,e2⟩:=r'.get hd;refine⟨⟨vs,v,å.of hv',e1⟩,λx Ť ⟨eH,hx⟩=> ?_⟩;subst eH;have:=hx vs (å.of hv');rw [e1] at this;cases this;exact⟨.refl _,rh,e2⟩
def Yd (H:Hp)(lo:P1)(n:G5)(ds:G0 D)(hd:ds=(P4 n).map λ(k:G5)=>D.int (lo+(k:P1))):Oj K H (λ_=>some ds) (Itr lo n):=λH' h' k rh ds' e i=>by
 cases e;subst hd;refine⟨λd hd=> ?_,λhl=>(show n<=i by simpa using hl)⟩;rw [P7] at hd;have hi:i<n:=by
  by_cases z:i<n
  ·exact z
  ·rw [O8 (by simpa using z)] at hd;cases hd
 rw [A8 hi] at hd;cases hd;refine⟨hi,λx Ť ⟨eH,hx⟩=> ?_⟩;subst eH hx;exact⟨.refl _,rh,rfl⟩
def Fg {te:TED}: ∀σ H R,LI K (iL te) σ H R->OO K (LE K te) σ H R:=λσ H R ⟨Â,h,Rd,rs,rh,q,p⟩=>
 LE.bind rs rh q λd v h1 H1 k1 Ö Ê r1 ⟨a,e,q1⟩=>by
  subst e;obtain⟨e,vs,hv⟩:=(show v= .ref a/\ ∃vs,H1 a=some (.lst vs) from r1);exact⟨a,e,⟨vs,í.of hv⟩,p _ _ _ _ k1 Ê (VR H1 a) q1⟩
def Tu {ta:TAD}: ∀σ H R,LI K (iR1 ta) σ H R->OP (LA K ta) σ H R:=λσ H R ⟨Â,h,Rd,rs,rh,q,p⟩=>
 LA.bind rs rh q λds vs h1 H1 k1 Ö Ê r1 ⟨n,e,b1,b2,q1⟩=>by
  subst e;obtain⟨v,e,r2⟩:=jB r1;cases (show v= .int n from r2);exact⟨n,e,b1,b2,p _ _ _ _ k1 Ê (Yd H1 0 n.toNat _ (by simp)) q1⟩
def Tv {ta:TAD}: ∀σ H R,LI K (iR2 ta) σ H R->OQ (LA K ta) σ H R:=λσ H R ⟨Â,h,Rd,rs,rh,q,p⟩=>
 LA.bind rs rh q λds vs h1 H1 k1 Ö Ê r1 ⟨m,n,e,b,q1⟩=>by
  subst e;obtain⟨v,w,e,r2,r3⟩:=yq r1;cases (show v= .int m from r2);cases (show w= .int n from r3);exact⟨m,n,e,b,p _ _ _ _ k1 Ê (Yd H1 m (n-m).toNat _ rfl) q1⟩
end
def AG (ti:TID)(g:TGD)(tb:TSD):TSD:=λD σ h=>ti σ h λj h1=> ∃ (n:G5) (W:G5->SD->HD->Prop),W 0 σ h1/\ ∀i IO h',W i IO h'-> ∃ds,j h'=some ds/\ds.length<=n/\(ds.length<=i->D.nx IO h')/\
 ∀d,ds[i]? =some d->g d IO h' λá h2=>tb {D with nx:=λĉ h3=> ∃h4,Sub h4 h3/\W (i+1) ĉ h4,ct:=λĉ h3=> ∃h4,Sub h4 h3/\W (i+1) ĉ h4,bk:=D.nx} á h2
variable {ti:TID}
def AH {g:TGD}{tb:TSD}: ∀D σ H,LS K (AG ti g tb) D σ H->Hy (LI K ti) (LG K g) (LS K tb) D σ H:=λD σ H ⟨Â,h,Dd,rs,rh,q,nx,rt,bk,ct⟩=>by
 refine⟨Â,h,_,rs,rh,q,λj J h1 H1 k1 Ê jo ⟨n,W,w0,turn⟩=> ?_⟩;refine⟨λi m IO H'=>m=n-i/\Kept H1 H'/\ ∃Ð h',Ì K H' Ð IO/\Ä K h' H'/\W i Ð h',⟨n-0,rfl,.refl _,Â,h1,rs.mono k1,Ê,w0⟩,?_⟩;rintro i m IO H' ⟨rfl,kp,Ð,h',Ε,ï,w⟩;obtain⟨ds,ej,hn,stop,go⟩:=turn i Ð h' w;have jo':=jo H' h' kp ï ds ej i
 by_cases hi:i<ds.length
 ·obtain⟨g1,y1⟩:=jo'.1 ds[i] (G8 hi);refine .inr ⟨g1,λá H2=>Kept H1 H2/\ ∃ò h2,Ì K H2 ò á/\Ä K h2 H2/\W (i+1) ò h2,λá H2 ⟨k2,a,b,c,d,e⟩=>⟨n-(i+1),by omega,rfl,k2,a,b,c,d,e⟩,λx Ť y=> ?_⟩;obtain⟨k2,î,r2⟩:=y1 x Ť y;refine⟨ds[i],Ð,h',_,r2,Ε.mono k2,î,go ds[i] (G8 hi),λX1P h3 ĉ H3 k3 rs3 ě q3=> ?_⟩;have kk:Kept H H3:=k1.trans (kp.trans (k2.trans k3));have kk1:Kept H1 H3:=kp.trans (k2.trans k3);exact⟨X1P,h3,_,rs3,ě,q3,λa b c d k4 ι ţ ⟨h4,sb,w4⟩=>⟨kk1.trans k4,a,h4,ι,ţ.sub sb,w4⟩,jC rt kk,λa b c d k4 ι ţ q4=>nx a b c d (kk.trans k4) ι ţ q4,λa b c d k4 ι ţ ⟨h4,sb,w4⟩=>⟨kk1.trans k4,a,h4,ι,ţ.sub sb,w4⟩⟩
 ·exact .inl ⟨jo'.2 (aC.mp hi),nx _ _ _ _ (k1.trans kp) Ε ï (stop (aC.mp hi))⟩
def Ye:TTD:=λ_ h Q=>Q true h
def yV (bind:D->SD->SD->Prop)(js:G0 G5)(ti:TID)(tt:TTD)(te:TED):TED:=λσ h Q=>ti σ h λj h1=> ∃ (n:G5) (W:G5->G0 D->HD->Prop),W 0 [] h1/\ ∀i ys h',W i ys h'->ys.length<=sizeLine/\
 ∃ds,j h'=some ds/\ds.length<=n/\(ds.length<=i-> ∀p,h' p=none->Q (.lst p) (zF h' p ys))/\
  ∀d,ds[i]? =some d-> ∃á,bind d (jJ js σ) á/\tt á h' λb h3=>if b=true then te á h3 λy h4=> ∃h5,Sub h5 h4/\W (i+1) (ys++ [y]) h5 else ∃h5,Sub h5 h3/\W (i+1) ys h5
def bN (i:G5):D->SD->SD->Prop:=λd σ á=>á=σ.set i (some d)
def b2 (i j:G5):D->SD->SD->Prop:=λd σ á=> ∃x y,d= .tup [x,y]/\á=(σ.set i (some x)).set j (some y)
def AI: ∀σ H Q,LT K Ye σ H Q->HK σ H Q:=λσ H Q ⟨Â,h,Qd,rs,rh,q,p⟩=>p true h H (.refl H) rh q
def Dy (K:G6)(js:G0 G5)(bind:D->SD->SD->Prop)(g:TG):Prop:= ∀ (σ:St) (Â ò:SD) (H:Hp) (d:D) (v:V) (Q:St->Hp->Prop),Ì K H (jJ js Â) (zW js σ)->É K H d v->bind d (jJ js Â) ò->
 (∀á,Agree (zW js σ) á->Ì K H ò á->Q á H)->g v (zW js σ) H Q
variable {i:G5}
def AJ (hi:i∈js):Dy K js (bN i) (ym i):=λσ Â ò H d v Q rs r b q=>by
 cases (show ò=_ from b);exact q _ (.set v λu=>zB js σ i u hi) (rs.set r i)
def Tw {j:G5}(hi:i∈js)(hj:j∈js)(hij:i≠j):Dy K js (b2 i j) (SN K 2 (PM (ym i) (PM (ym j) SM))):=λσ Â ò H d v Q rs r b q=>by
 obtain⟨x,y,e,e2⟩:=b;subst e e2;obtain⟨a,vs,e,hH,r1⟩:=(show ∃a vs,v= .ref a/\H a=some (.tup vs)/\À K H [x,y] vs from r);obtain⟨v1,v2,e1,r2,r3⟩:=yq r1;subst e e1;refine⟨a,[v1,v2],rfl,å.of hH,rfl,v1,[v2],rfl,v2,[],rfl,rfl,q _ (.trans (.set v1 λu=>zB js σ i u hi) (.set v2 λu z=> ?_)) ((rs.set r2 i).set r3 j)⟩;rw [K6 hij] at z;exact zB js σ j u hj z
def Fh {bind:D->SD->SD->Prop}{tt:TTD}{te:TED}(hb:Dy K js bind g): ∀σ H Q,LE K (yV bind js ti tt te) σ H Q->tLC js (LI K ti) g (LT K tt) (LE K te) σ H Q:=
 λσ H Q ⟨Â,h,Qd,rs,rh,q,p⟩=>by
  refine⟨Â,h,_,rs,rh,q,λj J h1 H1 k1 Ê jo ⟨n,W,w0,turn⟩=> ?_⟩;refine⟨λi m ys H'=>m=n-i/\Kept H1 H'/\ ∃ds h',À K H' ds ys/\Ä K h' H'/\W i ds h',⟨n-0,rfl,.refl _,[],h1,rfl,Ê,w0⟩,?_⟩;rintro i m ys H' ⟨rfl,kp,yd,h',ry,ï,w⟩;obtain⟨hz,ds,ej,hn,stop,go⟩:=turn i yd h' w;refine⟨by rw [<-ry.length];exact hz,?_⟩;have jo':=jo H' h' kp ï ds ej i;have kk:Kept H H':=k1.trans kp
  by_cases hi:i<ds.length
  ·obtain⟨g1,y1⟩:=jo'.1 ds[i] (G8 hi);refine .inr ⟨g1,λx Ť y=> ?_⟩;obtain⟨k2,î,r2⟩:=y1 x Ť y;obtain⟨ò,bd,q2⟩:=go ds[i] (G8 hi);refine hb σ Â ò Ť ds[i] x _ (((rs.mono (kk.trans k2))).clear js) r2 bd λá ag Ŀ=>⟨ag,?_⟩
   refine LT.bind Ŀ î q2 λb h3 H3 k3 rs3 ě q3=> ?_
   cases b with
   |true=>
    rw [R8 rfl] at q3 ⊢;refine LE.bind rs3 ě q3 λd4 v4 h4 H4 k4 ι ţ r4 ⟨h5,sb,w5⟩=>⟨n-(i+1),by omega,rfl,kp.trans (k2.trans (k3.trans k4)),yd++ [d4],h5,(ry.mono (k2.trans (k3.trans k4))).append (.cons r4 .nil),ţ.sub sb,w5⟩
   |false=>
    rw [R9 R3] at q3 ⊢;obtain⟨h5,sb,w5⟩:=q3;exact⟨n-(i+1),by omega,rfl,kp.trans (k2.trans k3),yd,h5,ry.mono (k2.trans k3),ě.sub sb,w5⟩
  ·refine .inl ⟨jo'.2 (aC.mp hi),λa ha=>p (.lst a) (.ref a) _ _ (kk.trans (.new ha)) (ï.newL ha ry) ⟨rfl,ys,ji⟩ (stop (aC.mp hi) a (ï.free ha))⟩
def yL {C:G9}{s₀:G3}{H₀:Hp}{ex:G0 G9}{p:Pos}(hN:X.N.Nodup)(hx:X.N[i]? =some x)(hl:scope.names.lookup x=some .local\/scope.names.lookup x=some .cell):
 PG (vo X scope C s₀ H₀ ex) (.Name x p) (ym i):=by
 rcases hl with z|z
 ·exact vh hN hx (.inl (nW z)) (.inr (nW z))
 ·exact vh hN hx (.inr (vk z)) (.inl (by show (scope.names.lookup x==some b8)=true;rw [z];rfl))
section
variable {X:Cx}{tg e iter elt:M9}{te:TED}{ti:TID}{g:TGD}{tb:TSD}{tt:TTD}{pos:Pos}{ta:TAD}{scope:K1}{js:G0 G5}{ifs:G0 M9}
def Fi (he:QE X e te):QI X tg e (iL te):=(Co he).imp Fg
def Tx {p:Pos}{a:M9}(hg:Gl X "range")(hm:X.mg "range" =none)(ha:QA X [a] ta)(hs:P8 [a] X.env= [(false,A2 a X.env)]:=by rfl):QI X tg (.Call (.Name "range" p) [a] [] pos) (iR1 ta):=(PP hg hm ha hs).imp Tu
def KL {body:G0 A6}(hp:oH (R7 X.prog X.w) X.A X.env X.xe)(hc:X.calm=true)(hi:QI X tg iter ti)(hg:QG X tg g)(hb:QSs X body tb)(hs: ∀x,C8 iter X.env x=pure x:=by intro _;rfl):
 QS X (.For tg iter body [] pos) (AG ti g tb):=(OR hp hc hi hg hb hs).imp AH
def Fj:ŏ X [] (LT X.K Ye):=λID s σ H Q I h=>CJ ID s σ H Q I (AI σ H Q h)
def Fk {c:M9}(hc:QT X c tt):ŏ X [c] (LT X.K tt):=CK hc
def qlc {i:G5}{x:Str}{p:Pos}(hc:X.calm=true)(S:Õ X scope js)(hi:QI X (.Name x p) iter ti)(hj:i∈js)(hN:X.N.Nodup)(hx:X.N[i]? =some x)(hl:scope.names.lookup x=some .local\/scope.names.lookup x=some .cell)
 (ht: ∀X',jx X scope X'->ŏ X' ifs (LT X'.K tt))(he: ∀X',jx X scope X'->QE X' elt te)(hs: ∀x,C8 iter X.env x=pure x:=by intro _;rfl):
 QE X (.ListComp elt [⟨.Name x p,iter,ifs,0⟩] scope pos) (yV (bN i) js ti tt te):=
 (Ak hc S hi (λX' hX=>by obtain⟨C,s₀,H₀,ex,rfl⟩:=hX;exact yL hN hx hl) (λX' hX=>by have:=ht X' hX;obtain⟨C,s₀,H₀,ex,rfl⟩:=hX;exact this)
  (λX' hX=>by have:=he X' hX;obtain⟨C,s₀,H₀,ex,rfl⟩:=hX;exact this) hs).imp (Fh (AJ hj))
def KM {i j:G5}{x y:Str}{p1 p2 p3:Pos}{k:G5}(hc:X.calm=true)(S:Õ X scope js)(hi:QI X (.Tuple [.Name x p1,.Name y p2] k p3) iter ti)(hj:i∈js)(hj2:j∈js)(hij:i≠j)(hN:X.N.Nodup)(hx:X.N[i]? =some x)(hy:X.N[j]? =some y)
 (hl:scope.names.lookup x=some .local\/scope.names.lookup x=some .cell)(hl2:scope.names.lookup y=some .local\/scope.names.lookup y=some .cell)
 (ht: ∀X',jx X scope X'->ŏ X' ifs (LT X'.K tt))(he: ∀X',jx X scope X'->QE X' elt te)(hs: ∀x,C8 iter X.env x=pure x:=by intro _;rfl):
 QE X (.ListComp elt [⟨.Tuple [.Name x p1,.Name y p2] k p3,iter,ifs,0⟩] scope pos) (yV (b2 i j) js ti tt te):=
 (Ak hc S hi (λX' hX=>by
  obtain⟨C,s₀,H₀,ex,rfl⟩:=hX;exact Bw hc (Zq (yL hN hx hl) (Zq (yL hN hy hl2) PN))) (λX' hX=>by have:=ht X' hX;obtain⟨C,s₀,H₀,ex,rfl⟩:=hX;exact this)
  (λX' hX=>by have:=he X' hX;obtain⟨C,s₀,H₀,ex,rfl⟩:=hX;exact this) hs).imp (Fh (Tw hj hj2 hij))
end
def æ (K:G6)(ö:RDn):Sp:=λvs H Q _=>LC K ö vs H Q
def Dz {ö:RDn}{t:TAD}{E:XK}: ∀σ H Q,LE K (ħ ö t) σ H Q->Cu (æ K ö) [] E (LA K t) σ H Q:=λσ H Q ⟨Â,h,Qd,rs,rh,t,p⟩=>
 LA.bind rs rh t λds vs h1 H1 k1 Ö Ê r1 q=>by rw [O9];exact⟨ds,h1,Qd,r1,Ê,q,jC p k1⟩
section
variable {X:Cx}{k:G5}{f:G9}{fd:M6}{ps:G0 Str}{ö:RDn}{x:Str}{p pos:Pos}{e:M9}{es:G0 M9}{t:TAD}
def Ty (F:È X.prog X.w X.K X.mg X.base Û k f fd ps (æ X.K ö))(hr:Î k X.A)(hg:Gl X x)(hm:X.mg x=some (.ref f))(hk:K8 X.K (.ref f)=true)(hb:Binds X.K fd ps [])
 (ha:QA X (e::es) t)(hdb:(x==("__debug__" :Str))=false:=by decide)(he:P8 (e::es) X.env=(false,A2 e X.env)::P8 es X.env:=by rfl)(hpl:(E1 pos (P8 es X.env)).any (·.1)=false:=by rfl):
 QE X (.Call (.Name x p) (e::es) [] pos) (ħ ö t):=(De F hr hg hm hk hb .nil CB ha hdb he hpl).imp Dz
def AK {id:U5}{r:RDn}(hc:yU X (.builtin id) r)(hg:Gl X x)(hm:X.mg x=none)(hv:Q5 x=some (.builtin id))(ha:QA X (e::es) t)(hn:x≠ "__name__" :=by decide)(hdb:(x==("__debug__" :Str))=false:=by decide)
 (he:P8 (e::es) X.env=(false,A2 e X.env)::P8 es X.env:=by rfl)(hpl:(E1 pos (P8 es X.env)).any (·.1)=false:=by rfl):QE X (.Call (.Name x p) (e::es) [] pos) (ħ r t):=(yK hc hg hm hv ha hn hdb he hpl).imp Ar
def Fl {T:U5}{r:RDn}(hc:yU X (.type T) r)(hg:Gl X x)(hm:X.mg x=none)(hv:Q5 x=some (.type T))(ha:QA X (e::es) t)(hn:x≠ "__name__" :=by decide)(hdb:(x==("__debug__" :Str))=false:=by decide)
 (he:P8 (e::es) X.env=(false,A2 e X.env)::P8 es X.env:=by rfl)(hpl:(E1 pos (P8 es X.env)).any (·.1)=false:=by rfl):QE X (.Call (.Name x p) (e::es) [] pos) (ħ r t):=(ZL hc hg hm hv ha hn hdb he hpl).imp Ar
end
noncomputable def jZ (N:G0 Str)(ds:G0 D):SD:=ds.map some++B2 (N.length-ds.length) none
def yM {N:G0 Str}{vs:G0 V}(r:À K H ds vs):Ì K H (jZ N ds) (start N vs):=by
 have hl:=r.length;refine⟨by unfold jZ start;simp [hl],λi d e=> ?_⟩;unfold jZ at e;unfold start
 by_cases hi:i<ds.length
 ·rw [B7 (by simpa using hi),P7] at e;cases q:ds[i]? with
  |none=>rw [q] at e;cases e
  |some d'=>
   rw [q] at e;cases e;obtain⟨v,e1,e2⟩:=r.get q;exact⟨v,by rw [B7 (by simpa [<-hl] using hi),P7,e1];rfl,e2⟩
 ·rw [N5 (by simpa using hi),fO] at e;split at e<;>cases e
def Xg (Q:KD):EndsD:= {nx:=λ_ h=> ∃h',Sub h' h/\Q .non h',rt:=λd h=> ∃h',Sub h' h/\Q d h'}
section
variable {P:S8}{w:B0}{K:G6}{mg:Str->P5 G1}{base:C7}
def Þ.okD {x qual:Str}{st:A6}{f:G9}{fd:M6}{N ps:G0 Str}{k:G5}{ö:RDn}(F:Þ K x qual st f fd)(S:Á N ps (jd st))(len: ∀ds h Q,ö ds h Q->ds.length=ps.length)
 (tb:TSD)(Ò: ∀ (Ë:G1) (A:T8) (outer:G0 Env) (s:G3) (H:Hp) (E:XK),Î k (A.deeper (Q3 qual (jd st) s.heap.objs.size f Ë))->QSs (WG Û P w K mg base N qual (jd st) f Ë A outer s H E).nox (jS st) tb)
 (read: ∀ds h Q,ö ds h Q->tb (Xg Q) (jZ N ds) h):È P w K mg base Û (k+1) f fd ps (æ K ö):=by
 refine F.ok S (λvs H Q E h=> ?_) (λË A outer s H vs Q E hr h=> ?_)
 ·obtain⟨ds,h,Qd,r,rh,q,p⟩:=h;rw [<-r.length];exact len _ _ _ q
 ·obtain⟨ds,h,Qd,r,rh,q,p⟩:=h;refine⟨_,Ò Ë A outer s H E hr,jZ N ds,h,Xg Qd,yM r,rh,read ds h Qd q,λÐ h' IO H' k Ε ï ⟨h2,sb,q'⟩=>p .non .non h2 H' k (ï.sub sb) rfl q',λd v h' H' k ï r' ⟨h2,sb,q'⟩=>p d v h2 H' k (ï.sub sb) r' q',λ_ _ _ _ _ _ _ z=>z.elim,λ_ _ _ _ _ _ _ z=>z.elim⟩
end
section
variable {X:Cx}{iter elt:M9}{te:TED}{ti:TID}{tt:TTD}{pos Ą:Pos}{scope:K1}{js:G0 G5}{ifs:G0 M9}
def AL {i k:G5}{x y:Str}{p py:Pos}(hc:X.calm=true)(hN:X.N.Nodup)(hk:X.N[k]? =some y)(hy:Loc X.env.scope y)(S:Õ X scope js)(hi:QI X (.Name x p) iter ti)(hj:i∈js)(hx:X.N[i]? =some x)(hl:scope.names.lookup x=some .local\/scope.names.lookup x=some .cell)
 (ht: ∀X',jx X scope X'->ŏ X' ifs (LT X'.K tt))(he: ∀X',jx X scope X'->QE X' elt te)
 (hsw:aQ (.ListComp elt [⟨.Name x p,iter,ifs,0⟩] scope pos) (some (.Name y py)) Ą.line X.env=pure true:=by rfl)
 (hf:X.fn y=true\/X.env.scope.names.lookup y=some .local:=by first|exact .inl rfl|exact .inr rfl|assumption)(hs: ∀x,C8 iter X.env x=pure x:=by intro _;rfl):
 QS X (.Assign [.Name y py] (.ListComp elt [⟨.Name x p,iter,ifs,0⟩] scope pos) Ą) (BG k (yV (bN i) js ti tt te)):=by
 have base:PS X (.Assign [.Name y py] (.ListComp elt [⟨.Name x p,iter,ifs,0⟩] scope pos) Ą) (Bx (tLC js (LI X.K ti) (ym i) (LT X.K tt) (LE X.K te)) (ym k)):=
  MZ hc S hi (λX' hX=>by obtain⟨C,s₀,H₀,ex,rfl⟩:=hX;exact yL hN hx hl) (λX' hX=>by have:=ht X' hX;obtain⟨C,s₀,H₀,ex,rfl⟩:=hX;exact this)
   (λX' hX=>by have:=he X' hX;obtain⟨C,s₀,H₀,ex,rfl⟩:=hX;exact this) (vh hN hk hy hf) hsw hs
 exact base.imp λD σ H h=>by
  obtain⟨Â,hd,Qd,rs,rh,t,p⟩:=Dx (K:=X.K) D σ H h;exact Fh (AJ hj) σ H _ ⟨Â,hd,Qd,rs,rh,t,p⟩
end
def dIn (i':G5)(ti:TID)(tt:TTD)(te:TED)(V:G0 D->HD->Prop)(ys:G0 D):SD->HD->Prop:=λσ h=>ti σ h λj h1=> ∃ (n:G5) (W:G5->G0 D->HD->Prop),W 0 ys h1/\ ∀i ys h',W i ys h'->ys.length<=sizeLine/\
 ∃ds,j h'=some ds/\ds.length<=n/\(ds.length<=i->V ys h')/\
  ∀d,ds[i]? =some d->tt (σ.set i' (some d)) h' λb h3=>if b=true then te (σ.set i' (some d)) h3 λy h4=> ∃h5,Sub h5 h4/\W (i+1) (ys++ [y]) h5 else ∃h5,Sub h5 h3/\W (i+1) ys h5
def Tz (bind:D->SD->SD->Prop)(js:G0 G5)(ti:TID)(tt:TTD)(i':G5)(ti':TID)(η:TTD)(te:TED):TED:=λσ h Q=>ti σ h λj h1=> ∃ (n:G5) (W:G5->G0 D->HD->Prop),W 0 [] h1/\ ∀i ys h',W i ys h'->ys.length<=sizeLine/\
 ∃ds,j h'=some ds/\ds.length<=n/\(ds.length<=i-> ∀p,h' p=none->Q (.lst p) (zF h' p ys))/\
  ∀d,ds[i]? =some d-> ∃á,bind d (jJ js σ) á/\tt á h' λb h3=>if b=true then dIn i' ti' η te (λŐ h6=> ∃h5,Sub h5 h6/\W (i+1) Ő h5) ys á h3 else ∃h5,Sub h5 h3/\W (i+1) ys h5
def DA (K:G6)(js:G0 G5)(i':G5)(bind:D->SD->SD->Prop)(g:TG):Prop:= ∀ (σ:St) (Â ò:SD) (H:Hp) (d:D) (v:V) (Q:St->Hp->Prop),Ì K H (jJ js Â) (zW js σ)->É K H d v->bind d (jJ js Â) ò->
 (∀á,Agree (zW js σ) á->(∀u,¬á[i']? =some (some u))->Ì K H ò á->Q á H)->g v (zW js σ) H Q
def AM {i':G5}(hi:i∈js)(â:i'∈js)(ť:i≠i'):DA K js i' (bN i) (ym i):=λσ Â ò H d v Q rs r b q=>by
 cases (show ò=_ from b);refine q _ (.set v λu=>zB js σ i u hi) (λu z=> ?_) (rs.set r i);rw [K6 ť] at z;exact zB js σ i' u â z
def AN {bind:D->SD->SD->Prop}{i':G5}{ti':TID}{tt η:TTD}{te:TED}(hb:DA K js i' bind g): ∀σ H Q,LE K (Tz bind js ti tt i' ti' η te) σ H Q->HL js (LI K ti) g (LT K tt) (LI K ti') (ym i') (LT K η) (LE K te) σ H Q:=
 λσ H Q ⟨Â,h,Qd,rs,rh,q,p⟩=>by
  refine⟨Â,h,_,rs,rh,q,λj J h1 H1 k1 Ê jo ⟨n,W,w0,turn⟩=> ?_⟩;refine⟨λi m ys H'=>m=n-i/\Kept H1 H'/\ ∃ds h',À K H' ds ys/\Ä K h' H'/\W i ds h',⟨n-0,rfl,.refl _,[],h1,rfl,Ê,w0⟩,?_⟩;rintro i m ys H' ⟨rfl,kp,yd,h',ry,ï,w⟩;obtain⟨hz,ds,ej,hn,stop,go⟩:=turn i yd h' w;refine⟨by rw [<-ry.length];exact hz,?_⟩;have jo':=jo H' h' kp ï ds ej i;have kk:Kept H H':=k1.trans kp
  by_cases hi:i<ds.length
  ·obtain⟨g1,y1⟩:=jo'.1 ds[i] (G8 hi);refine .inr ⟨g1,λx Ť y=> ?_⟩;obtain⟨k2,î,r2⟩:=y1 x Ť y;obtain⟨ò,bd,q2⟩:=go ds[i] (G8 hi);refine hb σ Â ò Ť ds[i] x _ (((rs.mono (kk.trans k2))).clear js) r2 bd λá ag un Ŀ=>⟨ag,?_⟩
   refine LT.bind Ŀ î q2 λb h3 H3 k3 rs3 ě q3=> ?_
   cases b with
   |true=>
    rw [R8 rfl] at q3 ⊢
    -- Ž second clause
    refine⟨ò,h3,_,rs3,ě,q3,λj2 J2 h4 H4 k4 ţ jo2 ⟨n2,W2,w20,X1e⟩=> ?_⟩;refine⟨λi2 m2 ys2 H5=>m2=n2-i2/\Kept H4 H5/\ ∃ds h5,À K H5 ds ys2/\Ä K h5 H5/\W2 i2 ds h5,⟨n2-0,rfl,.refl _,yd,h4,ry.mono (k2.trans (k3.trans k4)),ţ,w20⟩,?_⟩;rintro i2 m2 ys2 H5 ⟨rfl,kp5,yd5,h5,ry5,rh5,w5⟩;obtain⟨hz5,ds5,ej5,hn5,X1f,go5⟩:=X1e i2 yd5 h5 w5;refine⟨by rw [<-ry5.length];exact hz5,?_⟩;have jo5:=jo2 H5 h5 kp5 rh5 ds5 ej5 i2;have kk5:Kept H1 H5:=kp.trans (k2.trans (k3.trans (k4.trans kp5)))
    by_cases hi5:i2<ds5.length
    ·obtain⟨g5,y5⟩:=jo5.1 ds5[i2] (G8 hi5);refine .inr ⟨g5,λx6 H6 yy6=> ?_⟩;obtain⟨k6,rh6,r6⟩:=y5 x6 H6 yy6;refine⟨.set x6 un,?_⟩;have rs6:=(rs3.mono (k4.trans (kp5.trans k6))).set r6 i';refine LT.bind rs6 rh6 (go5 ds5[i2] (G8 hi5)) λb h7 H7 k7 rs7 rh7 q7=> ?_
     cases b with
     |true=>
      rw [R8 rfl] at q7 ⊢;exact LE.bind rs7 rh7 q7 λd8 v8 h8 H8 k8 rs8 rh8 r8 ⟨h9,sb,w9⟩=>⟨n2-(i2+1),by omega,rfl,kp5.trans (k6.trans (k7.trans k8)),yd5++ [d8],h9,(ry5.mono (k6.trans (k7.trans k8))).append (.cons r8 .nil),rh8.sub sb,w9⟩
     |false=>
      rw [R9 R3] at q7 ⊢;obtain⟨h9,sb,w9⟩:=q7;exact⟨n2-(i2+1),by omega,rfl,kp5.trans (k6.trans k7),yd5,h9,ry5.mono (k6.trans k7),rh7.sub sb,w9⟩
    ·obtain⟨h9,sb,w9⟩:=X1f (aC.mp hi5);exact .inl ⟨jo5.2 (aC.mp hi5),n-(i+1),by omega,rfl,kk5,yd5,h9,ry5,rh5.sub sb,w9⟩
   |false=>
    rw [R9 R3] at q3 ⊢;obtain⟨h5,sb,w5⟩:=q3;exact⟨n-(i+1),by omega,rfl,kp.trans (k2.trans k3),yd,h5,ry.mono (k2.trans k3),ě.sub sb,w5⟩
  ·refine .inl ⟨jo'.2 (aC.mp hi),λa ha=>p (.lst a) (.ref a) _ _ (kk.trans (.new ha)) (ï.newL ha ry) ⟨rfl,ys,ji⟩ (stop (aC.mp hi) a (ï.free ha))⟩
def KN:RD2:=λx y h Q=>match x,y with
 | .int i,.int j=>Q (.int (i+j)) h
 | .tup a,.tup b=>a.length+b.length<=sizeLine/\Q (.tup (a++b)) h
 | .lst a,.lst b=> ∃xs ys,h a=some xs/\h b=some ys/\xs.length+ys.length<=sizeLine/\ ∀p,h p=none->Q (.lst p) (zF h p (xs++ys))
 |_,_=>False
def HM:RD2:=λx y h Q=>match x,y with
 | .int i,.int j=>Q (.int (i-j)) h
 |_,_=>False
def HN:RD2:=λx y h Q=>match x,y with
 | .int i,.int j=>X0u i j/\Q (.int (i*j)) h
 | .lst a,.int k=> ∃xs,h a=some xs/\ -(2^63)<=k/\k<2^63/\xs.length*k.toNat<=sizeLine/\ ∀p,h p=none->Q (.lst p) (zF h p (B2 k.toNat xs).flatten)
 |_,_=>False
def KO:RD2:=λx y h Q=>match x,y with
 | .int i,.int j=>0<j/\Q (.int (i%j)) h
 |_,_=>False
def TB:RD2:=λx y h Q=>match x,y with
 | .int i,.int j=>HA i j/\Q (.int (i / j)) h
 |_,_=>False
def HP:RD2:=λx y h Q=>match x,y with
 | .int i,.int j=>HB i j/\Q (.int (i^j.toNat)) h
 |_,_=>False
def BH (p:P1->P1->M7):RD2:=λx y h Q=>match x,y with
 | .int i,.int j=>Q (.bl (p i j)) h
 |_,_=>False
def eqD:RD2:=λx y h Q=>match x,y with
 | .int i,.int j=>Q (.bl (decide (i=j))) h
 | .bl i,.bl j=>Q (.bl (decide (i=j))) h
 | .str i,.str j=>Q (.bl (decide (i=j))) h
 |_,_=>False
def neD:RD2:=λx y h Q=>match x,y with
 | .int i,.int j=>Q (.bl (!decide (i=j))) h
 | .bl i,.bl j=>Q (.bl (!decide (i=j))) h
 | .str i,.str j=>Q (.bl (!decide (i=j))) h
 |_,_=>False
section
variable {X:Cx}
def Xo {f:G1->G1->Sem G1}{C:P1->P1->Prop}{g:P1->P1->V}{gd:P1->P1->D}{r:RD2}(ho:ü X f (rI C g))(hg: ∀i j H,É X.K H (gd i j) (g i j))
 (hr: ∀x y h Q,r x y h Q-> ∃i j,x= .int i/\y= .int j/\C i j/\Q (gd i j) h):ó X f r:=ho.imp λx y H Q ⟨dx,dy,h,Qd,rx,ry,rh,q,p⟩=>by
 obtain⟨i,j,e1,e2,c,q'⟩:=hr dx dy h Qd q;subst e1 e2;exact⟨i,j,rx,ry,c,p _ _ _ _ (.refl H) rh (hg i j H) q'⟩
def vU {f:G1->G1->Sem G1}{g:P1->P1->V}{gd:P1->P1->D}{r:RD2}(ho:ü X f (rI0 g))(hg: ∀i j H,É X.K H (gd i j) (g i j))
 (hr: ∀x y h Q,r x y h Q-> ∃i j,x= .int i/\y= .int j/\Q (gd i j) h):ó X f r:=ho.imp λx y H Q ⟨dx,dy,h,Qd,rx,ry,rh,q,p⟩=>by
 obtain⟨i,j,e1,e2,q'⟩:=hr dx dy h Qd q;subst e1 e2;exact⟨i,j,rx,ry,p _ _ _ _ (.refl H) rh (hg i j H) q'⟩
def Yf:ó X (V6 .Sub) HM:=vU (gd:=λi j=> .int (i-j)) OS (λ_ _ _=>rfl) λx y h Q q=>by
 cases x<;>first|exact False.elim q|(cases y<;>first|exact False.elim q|exact⟨_,_,rfl,rfl,q⟩)
def wC:ó X (V6 .Mod) KO:=Xo (gd:=λi j=> .int (i%j)) OT (λ_ _ _=>rfl) λx y h Q q=>by
 cases x<;>first|exact False.elim q|(cases y<;>first|exact False.elim q|exact⟨_,_,rfl,rfl,q.1,q.2⟩)
def Fm:ó X (V6 .FloorDiv) TB:=Xo (gd:=λi j=> .int (i / j)) Cp (λ_ _ _=>rfl) λx y h Q q=>by
 cases x<;>first|exact False.elim q|(cases y<;>first|exact False.elim q|exact⟨_,_,rfl,rfl,q.1,q.2⟩)
def BI:ó X (V6 .Pow) HP:=Xo (gd:=λi j=> .int (i^j.toNat)) OU (λ_ _ _=>rfl) λx y h Q q=>by
 cases x<;>first|exact False.elim q|(cases y<;>first|exact False.elim q|exact⟨_,_,rfl,rfl,q.1,q.2⟩)
def YM {p:P1->P1->M7}: ∀x y h Q,BH p x y h Q-> ∃i j,x= .int i/\y= .int j/\Q (.bl (p i j)) h:=λx y h Q q=>by
 cases x<;>first|exact False.elim q|(cases y<;>first|exact False.elim q|exact⟨_,_,rfl,rfl,q⟩)
def Nc:ó X (F7 .Lt) (BH λi j=>decide (i<j)):=vU (gd:=λi j=> .bl (decide (i<j))) SS (λ_ _ _=>rfl) YM
def DB:ó X (F7 .LtE) (BH λi j=>decide (i<=j)):=vU (gd:=λi j=> .bl (decide (i<=j))) ST (λ_ _ _=>rfl) YM
def Gt:ó X (F7 .Gt) (BH λi j=>decide (j<i)):=vU (gd:=λi j=> .bl (decide (j<i))) SU (λ_ _ _=>rfl) YM
def Fn:ó X (F7 .GtE) (BH λi j=>decide (j<=i)):=vU (gd:=λi j=> .bl (decide (j<=i))) SV (λ_ _ _=>rfl) YM
def Ol {α:Type}[DecidableEq α]{f:α->V}(hf: ∀a b,f a=f b->a=b)(a b:α):decide (f a=f b)=decide (a=b):=by
 by_cases h:a=b
 ·subst h;simp
 ·rw [D9 h,D9 (λe=>h (hf a b e))]
def ê:ó X (F7 .Eq) eqD:=X03.imp λx y H Q ⟨dx,dy,h,Qd,rx,ry,rh,q,p⟩=>by
 cases dx<;>first|exact False.elim q|(cases dy<;>first|exact False.elim q|skip)
 all_goals first
  |(cases (show x= .int _ from rx);cases (show y= .int _ from ry);refine⟨rfl,p _ _ _ _ (.refl H) rh ?_ q⟩;rw [Ol (f:=V.int) (λa b e=>by cases e;rfl)];rfl)
  |(cases (show x= .bl _ from rx);cases (show y= .bl _ from ry);refine⟨rfl,p _ _ _ _ (.refl H) rh ?_ q⟩;rw [Ol (f:=V.bl) (λa b e=>by cases e;rfl)];rfl)
  |(cases (show x= .str _ from rx);cases (show y= .str _ from ry);refine⟨rfl,p _ _ _ _ (.refl H) rh ?_ q⟩;rw [Ol (f:=V.str) (λa b e=>by cases e;rfl)];rfl)
def ë:ó X (F7 .NotEq) neD:=X04.imp λx y H Q ⟨dx,dy,h,Qd,rx,ry,rh,q,p⟩=>by
 cases dx<;>first|exact False.elim q|(cases dy<;>first|exact False.elim q|skip)
 all_goals first
  |(cases (show x= .int _ from rx);cases (show y= .int _ from ry);refine⟨rfl,p _ _ _ _ (.refl H) rh ?_ q⟩;rw [Ol (f:=V.int) (λa b e=>by cases e;rfl)];rfl)
  |(cases (show x= .bl _ from rx);cases (show y= .bl _ from ry);refine⟨rfl,p _ _ _ _ (.refl H) rh ?_ q⟩;rw [Ol (f:=V.bl) (λa b e=>by cases e;rfl)];rfl)
  |(cases (show x= .str _ from rx);cases (show y= .str _ from ry);refine⟨rfl,p _ _ _ _ (.refl H) rh ?_ q⟩;rw [Ol (f:=V.str) (λa b e=>by cases e;rfl)];rfl)
def AO (K:G6):R2:=λx y H Q=> ∃a b xs ys,x= .ref a/\y= .ref b/\å K H a xs/\å K H b ys/\xs= []/\Q (.ref b) H
def X0a:ü X (V6 .Add) (AO X.K):=by
 intro ID s σ H x y v u Q I rx ry h;obtain⟨a,b,xs,ys,rfl,rfl,ha,hb,hx,q⟩:=h;cases rx;cases ry;obtain⟨its,r1,p1,_⟩:=I.tuple ha;obtain⟨ō,r2,p2,_⟩:=I.tuple hb;have hv:its= []:=r1.nil_iff.mpr hx;obtain⟨⟨cls,dd,data,sl⟩,ho,hc,n,hd⟩:=id p1;obtain⟨⟨X07,dd2,G0J,sl2⟩,ho2,hc2,n2,hd2⟩:=id p2;simp only at hc hd hc2 hd2;subst hc hd hc2 hd2;exact pY ⟨_,ho,rfl⟩ ⟨_,ho2,rfl⟩ mB oY f7 fP (eL _ _)
  (tuple_addW0 a b its.toArray ō.toArray n n2 dd dd2 sl sl2 (by simp [hv])) ⟨ho,ho2,.ref b,H,I,rfl,q⟩
def za:ó X (V6 .Add) KN:=(X0v.or (X0j.or (X0a.or Ad))).imp λx y H Q ⟨dx,dy,h,Qd,rx,ry,rh,q,p⟩=>by
 cases dx<;>first|exact False.elim q|(cases dy<;>first|exact False.elim q|skip)
 ·exact .inl ⟨_,_,rx,ry,p (.int _) _ _ _ (.refl H) rh rfl q⟩
 ·rename_i ds es;obtain⟨a,vs,e1,h1,r1⟩:=(show ∃a vs,x= .ref a/\H a=some (.tup vs)/\À X.K H ds vs from rx);obtain⟨b,us,e2,h2,r2⟩:=(show ∃a vs,y= .ref a/\H a=some (.tup vs)/\À X.K H es vs from ry);subst e1 e2;obtain⟨hz,q⟩:=q
  by_cases hv:vs= []
  ·subst hv;have e:ds= []:=cB.mp r1.length;subst e;exact .inr (.inr (.inl ⟨a,b,[],us,rfl,rfl,å.of h1,å.of h2,rfl,p (.tup es) _ _ _ (.refl H) rh ⟨b,us,rfl,h2,r2⟩ q⟩))
  ·refine .inr (.inl ⟨a,b,vs,us,rfl,rfl,å.of h1,å.of h2,hv,by rw [<-r1.length,<-r2.length];exact hz,λe=> ?_,λ_ c hc=> ?_⟩)
   ·subst e;have e:es= []:=cB.mp r2.length;subst e;rw [O9] at q;exact p (.tup ds) _ _ _ (.refl H) rh ⟨a,vs,rfl,h1,r1⟩ q
   ·exact p (.tup (ds++es)) _ _ _ (.new hc) (rh.new hc) ⟨c,vs++us,rfl,ji,(r1.append r2).mono (.new hc)⟩ q
 ·rename_i a b;obtain⟨xs,ys,h1,h2,hz,q⟩:=q;obtain⟨vs,e1,r1⟩:=rh a xs h1;obtain⟨us,e2,r2⟩:=rh b ys h2;refine .inr (.inr (.inr ⟨a,b,vs,us,rx.1,ry.1,e1,e2,by rw [<-r1.length,<-r2.length];exact hz,λc hc=> ?_⟩));exact p (.lst c) _ _ _ (.new hc) (rh.newL hc (r1.append r2)) ⟨rfl,_,ji⟩ (q c (rh.free hc))
theorem À.flat {K:G6}{H:Hp}{ds:G0 D}{vs:G0 V}(r:À K H ds vs): ∀k:G5,À K H (B2 k ds).flatten (B2 k vs).flatten
 |0=>by simp;exact .nil
 |k+1=>by rw [X2,X2,bP,bP];exact r.append (À.flat r k)
def X0E:ó X (V6 .Mult) HN:=(X0w.or Ae).imp λx y H Q ⟨dx,dy,h,Qd,rx,ry,rh,q,p⟩=>by
 cases dx<;>first|exact False.elim q|(cases dy<;>first|exact False.elim q|skip)
 ·exact .inl ⟨_,_,rx,ry,q.1,p (.int _) _ _ _ (.refl H) rh rfl q.2⟩
 ·obtain⟨xs,h1,b1,b2,hz,q⟩:=q;obtain⟨vs,e1,r1⟩:=rh _ xs h1;refine .inr ⟨_,_,vs,rx.1,ry,e1,b1,b2,by rw [<-r1.length];exact hz,λc hc=> ?_⟩;exact p (.lst c) _ _ _ (.new hc) (rh.newL hc (r1.flat _)) ⟨rfl,_,ji⟩ (q c (rh.free hc))
end
def ixD:RD2:=λx y h Q=>match x,y with
 | .tup ds,.int i=> ∃d,Ċ ds i=some d/\Q d h
 | .lst a,.int i=> ∃ds d,h a=some ds/\Ċ ds i=some d/\Q d h
 | .scr ns,.int i=> ∃n,Ċ ns i=some n/\Q (.int n) h
 |_,_=>False
def DD {vs:G0 V}(r:À K H ds vs){i:P1}{d:D}(e:Ċ ds i=some d): ∃v,Ċ vs i=some v/\É K H d v:=by
 unfold Ċ at e ⊢;rw [<-r.length];cases q:ζ ds.length i with
 |none=>rw [q] at e;cases e
 |some j=>rw [q] at e;exact r.get e
def Fo {β:Type}(f:α->β){xs:G0 α}{i:P1}{x:α}(e:Ċ xs i=some x):Ċ (xs.map f) i=some (f x):=by
 unfold Ċ at e ⊢;rw [G2];cases q:ζ xs.length i with
 |none=>rw [q] at e;cases e
 |some j=>
  rw [q] at e;show (xs.map f)[j]? =_;rw [P7,(show xs[j]? =some x from e)];rfl
section
variable {X:Cx}{a b e:M9}{ta tb te:TED}{pos p2:Pos}
def TC: ∀σ H Q,LE X.K (ľ ixD ta tb) σ H Q->tOp (rIx X.K) (LE X.K ta) (LE X.K tb) σ H Q:=λσ H Q ⟨Â,h,Qd,rs,rh,t,p⟩=>
 LE.bind rs rh t λdx x h1 H1 k1 Ö Ê r1 t1=>LE.bind Ö Ê t1 λdy y h2 H2 k2 Ŀ î ry q=>by
  have rx:=r1.mono k2;have kk:=k1.trans k2;cases dx<;>first|exact False.elim q|(cases dy<;>first|exact False.elim q|skip)
  ·rename_i ds i;obtain⟨d,e,q⟩:=q;obtain⟨a,vs,e1,hH,r⟩:=(show ∃a vs,x= .ref a/\H2 a=some (.tup vs)/\À X.K H2 ds vs from rx);obtain⟨v,e2,rv⟩:=DD r e;exact .inr (.inl ⟨a,vs,i,v,e1,ry,å.of hH,e2,p _ _ _ _ kk î rv q⟩)
  ·rename_i a i;obtain⟨ds,d,hd,e,q⟩:=q;obtain⟨vs,hH,r⟩:=î a ds hd;obtain⟨v,e2,rv⟩:=DD r e;exact .inl ⟨a,vs,i,v,rx.1,ry,í.of hH,e2,p _ _ _ _ kk î rv q⟩
  ·rename_i ns i;obtain⟨n,e,q⟩:=q;obtain⟨a,e1,hS⟩:=(show ∃a,x= .ref a/\Scr X.K H2 a ns from rx);exact .inl ⟨a,_,i,.int n,e1,ry,hS.sq,Fo V.int e,p (.int n) _ _ _ kk î rfl q⟩
def qix (ha:QE X a ta)(hb:QE X b tb)(hs:YF b):QE X (.Subscript a b pos) (ľ ixD ta tb):=(SZ Ab ha hb hs).imp TC
end
def Om:RDn:=λds h Q=>match ds with
 | [.tup xs]=>Q (.int xs.length) h
 | [.lst a]=> ∃xs,h a=some xs/\Q (.int xs.length) h
 | [.scr ns]=>Q (.int ns.length) h
 |_=>False
def TD:RDn:=λds h Q=>match ds with
 | [.int i]=>Q (.int i) h
 | [.bl k]=>Q (.int (if k then 1 else 0)) h
 |_=>False
def TF:RDn:=λds h Q=>match ds with
 | [.int i,.int j]=>Q (.int (if j>i then j else i)) h
 |_=>False
def BJ:RDn:=λds h Q=>match ds with
 | [.tup xs]=>Q (.tup xs) h
 | [.lst a]=> ∃xs,h a=some xs/\Q (.tup xs) h
 |_=>False
def yZ:RDn:=λds h Q=>match ds with
 | [.lst a]=> ∃xs,h a=some xs/\Q (.tup xs) (YK h a)
 |_=>False
section
variable {X:Cx}
def AQ:yU X (.builtin "len") Om:=Ŏ.imp λxs H Q ⟨ds,h,Qd,r,rh,q,p⟩=>by
 unfold Om at q;split at q
 ·rename_i es;obtain⟨v,e,r1⟩:=jB r;obtain⟨a,vs,e1,hH,r2⟩:=(show ∃a vs,v= .ref a/\H a=some (.tup vs)/\À X.K H es vs from r1);subst e e1;exact⟨a,vs,rfl,.inr (å.of hH),by rw [<-r2.length];exact p (.int _) _ _ _ (.refl H) rh rfl q⟩
 ·rename_i a;obtain⟨es,hd,q⟩:=q;obtain⟨v,e,r1⟩:=jB r;obtain⟨vs,hH,r2⟩:=rh a es hd;have e1:v= .ref a:=r1.1;subst e e1;exact⟨a,vs,rfl,.inl (í.of hH),by rw [<-r2.length];exact p (.int _) _ _ _ (.refl H) rh rfl q⟩
 ·rename_i ns;obtain⟨v,e,r1⟩:=jB r;obtain⟨a,e1,hS⟩:=(show ∃a,v= .ref a/\Scr X.K H a ns from r1);subst e e1;exact⟨a,_,rfl,.inl hS.sq,by rw [G2];exact p (.int _) _ _ _ (.refl H) rh rfl q⟩
 ·exact q.elim
def BK:yU X (.type "int") TD:=δ.imp λxs H Q ⟨ds,h,Qd,r,rh,q,p⟩=>by
 unfold TD at q;split at q
 ·rename_i i;obtain⟨v,e,r1⟩:=jB r;cases (show v= .int i from r1);exact .inl ⟨i,e,p (.int i) _ _ _ (.refl H) rh rfl q⟩
 ·rename_i k;obtain⟨v,e,r1⟩:=jB r;cases (show v= .bl k from r1);exact .inr ⟨k,e,p (.int _) _ _ _ (.refl H) rh rfl q⟩
 ·exact q.elim
def AR (hc:X.calm=true):yU X (.builtin "max") TF:=(Da hc).imp λxs H Q ⟨ds,h,Qd,r,rh,q,p⟩=>by
 unfold TF at q;split at q
 ·rename_i i j;obtain⟨v,w,e,r1,r2⟩:=yq r;cases (show v= .int i from r1);cases (show w= .int j from r2);exact⟨i,j,e,p (.int _) _ _ _ (.refl H) rh rfl q⟩
 ·exact q.elim
def ô:yU X (.type "tuple") BJ:=ĳ.imp λxs H Q ⟨ds,h,Qd,r,rh,q,p⟩=>by
 unfold BJ at q;split at q
 ·rename_i es;obtain⟨v,e,r1⟩:=jB r;obtain⟨a,vs,e1,hH,r2⟩:=(show ∃a vs,v= .ref a/\H a=some (.tup vs)/\À X.K H es vs from r1);subst e e1;exact⟨a,vs,rfl,.inr ⟨å.of hH,p (.tup es) _ _ _ (.refl H) rh ⟨a,vs,rfl,hH,r2⟩ q⟩⟩
 ·rename_i a;obtain⟨es,hd,q⟩:=q;obtain⟨v,e,r1⟩:=jB r;obtain⟨vs,hH,r2⟩:=rh a es hd;have e1:v= .ref a:=r1.1;subst e e1;exact⟨a,vs,rfl,.inl ⟨í.of hH,λc hc=>p (.tup es) _ _ _ (.new hc) (rh.new hc) ⟨c,vs,rfl,ji,r2.mono (.new hc)⟩ q⟩⟩
 ·exact q.elim
def wN:yU X (.type "tuple") yZ:=ô.imp λxs H Q ⟨ds,h,Qd,r,rh,q,p⟩=>by
 unfold yZ at q;split at q
 ·rename_i a;obtain⟨es,hd,q⟩:=q;exact⟨[.lst a],h,λd h'=>Qd d (YK h' a),r,rh,⟨es,hd,q⟩,λd v h' H' k ï rd q'=>p d v _ H' k (ï.sub (Sub.drop h' a)) rd q'⟩
 ·exact q.elim
end
noncomputable def VS:D->P5 U5
 | .non=>some "NoneType" | .bl _=>some "bool" | .int _=>some "int" | .str _=>some "str" | .tup _=>some "tuple" | .lst _=>some "list" | .dic _ _=>some "dict" | .dct _=>none| .scr _=>none| .exc _=>none| .fn _=>none
def AS (T:U5)(n:U5):M7:=n==T||(T== "int" &&n== "bool")
def Nd {d:D}{v:V}{n:U5}(r:É K H d v)(e:VS d=some n):ď K H v (.type n):=by
 cases d with
 |non=>cases (show v= .non from r);cases e;exact .non
 |bl b=>cases (show v= .bl b from r);cases e;exact .bl b
 |int i=>cases (show v= .int i from r);cases e;exact .int i
 |str x=>cases (show v= .str x from r);cases e;exact .str x
 |tup ds=>
  obtain⟨a,vs,e1,hH,_⟩:=(show ∃a vs,v= .ref a/\H a=some (.tup vs)/\À K H ds vs from r);subst e1;cases e;exact .tup hH
 |lst a=>
  obtain⟨e1,vs,hH⟩:=(show v= .ref a/\ ∃vs,H a=some (.lst vs) from r);subst e1;cases e;exact .lst hH
 |dic x i=>
  obtain⟨a,e1,hH⟩:=(show ∃a,v= .ref a/\H a=some (.dK [(e9 x,V.int i)]) from r);subst e1;cases e;exact .dK hH
 |dct a=>cases e
 |scr ns=>cases e
 |exc C=>cases e
 |fn a=>cases e
noncomputable def Fp:G0 U5:= ["NoneType","bool","int","str","tuple","list","dict"]
def Gu {d:D}{n:U5}(e:VS d=some n):n∈Fp:=by
 cases d<;>cases e<;>decide
def TH (K:G6):Prop:= ∀n∈Fp,∀T∈ ["tuple","int","bool","list","str"],j0 K (.type n) (.type T)=some (AS T n)
def Fq (K:G6):TH K:=by
 intro n hn T hT;simp only [Fp,D5,H0,or_false] at hn hT;rcases hn with rfl|rfl|rfl|rfl|rfl|rfl|rfl<;>rcases hT with rfl|rfl|rfl|rfl|rfl<;>with_unfolding_all rfl
def DE (T:U5):Ù X (.builtin "isinstance") (λxs H Q=> ∃x t b,xs= [x,.ty T]/\ď X.K H x t/\j0 X.K t (.type T)=some b/\Q (.bl b) H):=by
 intro ID s σ H xs us Q I r h;obtain⟨x,t,b,rfl,ty,e,q⟩:=h;obtain⟨u,w',rfl,rx,rt⟩:=PZ r;cases (show w'=V2 T from rt);exact Dc I rx ty e λtk=>⟨.bl b,H,I.tok tk,rfl,q⟩
def dIs (T:U5)(ta:TED):TED:=λσ h Q=>ta σ h λx h1=> ∃n,VS x=some n/\Q (.bl (AS T n)) h1
def TJ {a:M9}{ta:TED}{T:U5}{t:Str}{p p2:Pos}(hT:T∈ ["tuple","int","bool","list","str"])(hg:Gl X "isinstance")(hm:X.mg "isinstance" =none)(hg2:Gl X t)(hm2:X.mg t=none)(hv:Q5 t=some (.type T))(ha:QE X a ta)
 (hn:t≠ "__name__" :=by decide)(hd:(t==("__debug__" :Str))=false:=by decide)
 (h1:P8 [a,.Name t p2] X.env=(false,A2 a X.env)::P8 [.Name t p2] X.env:=by rfl)(h2:(E1 pos (P8 [.Name t p2] X.env)).any (·.1)=false:=by rfl):
 QE X (.Call (.Name "isinstance" p) [a,.Name t p2] [] pos) (dIs T ta):=
 (yK (DE T) hg hm cT (zA ha (zA (PL (v:= .ty T) hg2 hm2 hv rfl hn hd) ð (by rfl)) h1) (by decide) (by decide) h1 h2).imp
  λσ H Q ⟨Â,h,Qd,rs,rh,t,p⟩=>LE.bind rs rh t λd v h1 H1 k1 Ö Ê r1 ⟨n,e,q⟩=>⟨v,.type n,AS T n,rfl,Nd r1 e,Fq _ n (Gu e) T hT,p (.bl _) _ _ _ k1 Ê rfl q⟩
def DF (bs:G0 M7):(P4 bs.length).all (λi=>bs.getD i false)=bs.all id:=by
 induction bs with
 |nil=>rfl
 |cons b bs ih=>
  rw [R1,gE,uS,aN,uS];show (b&&_)=(b&&bs.all id);rw [<-ih];rfl
def DG (bs:G0 M7):(P4 bs.length).any (λi=>bs.getD i false)=bs.any id:=by
 induction bs with
 |nil=>rfl
 |cons b bs ih=>
  rw [R1,gE,hZ,xM,hZ];show (b||_)=(b||bs.any id);rw [<-ih];rfl
def VT {bs:G0 M7}{its:G0 G1}(r:Æ (bs.map V.bl) its){i:G5}{v:G1}(e:its[i]? =some v):v= .bool (bs.getD i false):=by
 have hl:=r.length;rw [G2] at hl;have hi:i<its.length:=(P6.mp e).1;have hb:(bs.map V.bl)[i]? =some (.bl bs[i]):=by rw [P7,G8 (by omega)];rfl
 obtain⟨u,e1,r1⟩:=r.get hb;rw [e] at e1;cases e1;rw [D7,G8 (by omega)];exact r1
section
variable {X:Cx}
def YN (hc:X.calm=true):Ù X (.builtin "all") (λxs H Q=> ∃ (a:G9) (bs:G0 M7),xs= [.ref a]/\í X.K H a (bs.map V.bl)/\Q (.bl (bs.all id)) H):=by
 intro ID s σ H xs us Q I r h;obtain⟨a,bs,rfl,hS,q⟩:=h;obtain⟨u,rfl,ru⟩:=vj r;cases ru;obtain⟨its,rv,pl,hz⟩:=I.list hS;have hl:=pl.isList;have μ:a<s.heap.objs.size:=by obtain⟨_,e,_⟩:=hl;exact D2 e
 refine call_all_walk (Z8 hl ?_);refine⟨s.heap.objs.size,_,_,_,_,_,λi=>bs.getD i false,rfl,mT (A:=X.A.in1) (show X.A.in1.handled=none from I.ok.hd hc) s.heap.objs.size a (M8 μ) its.toArray,⟨⟨_,S4 _ rfl,rfl,rfl⟩,hl.push _⟩,?_,λh' tk hk=> ?_⟩
 ·intro i v s' Q' E' hP hQ;have e:its[i]? =some v:=by simpa using hP
  rw [VT rv e];exact E6 hQ
 ·have hn:its.toArray.size=bs.length:=by rw [S0,<-rv.length,G2]
  rw [hn,DF];exact⟨.bl _,H,I.kept (t':=tk) (λb o e=>hk b o (λz=>by rw [P0.mp z] at e;exact absurd (D2 e) (B1 _)) (G7 _ e)),rfl,q⟩
def YO (hc:X.calm=true):Ù X (.builtin "any") (λxs H Q=> ∃ (a:G9) (bs:G0 M7),xs= [.ref a]/\í X.K H a (bs.map V.bl)/\Q (.bl (bs.any id)) H):=by
 intro ID s σ H xs us Q I r h;obtain⟨a,bs,rfl,hS,q⟩:=h;obtain⟨u,rfl,ru⟩:=vj r;cases ru;obtain⟨its,rv,pl,hz⟩:=I.list hS;have hl:=pl.isList;have μ:a<s.heap.objs.size:=by obtain⟨_,e,_⟩:=hl;exact D2 e
 refine call_any_walk (Z8 hl ?_);refine⟨s.heap.objs.size,_,_,_,_,_,λi=>bs.getD i false,rfl,mT (A:=X.A.in1) (show X.A.in1.handled=none from I.ok.hd hc) s.heap.objs.size a (M8 μ) its.toArray,⟨⟨_,S4 _ rfl,rfl,rfl⟩,hl.push _⟩,?_,λh' tk hk=> ?_⟩
 ·intro i v s' Q' E' hP hQ;have e:its[i]? =some v:=by simpa using hP
  rw [VT rv e];exact E6 hQ
 ·have hn:its.toArray.size=bs.length:=by rw [S0,<-rv.length,G2]
  rw [hn,DG];exact⟨.bl _,H,I.kept (t':=tk) (λb o e=>hk b o (λz=>by rw [P0.mp z] at e;exact absurd (D2 e) (B1 _)) (G7 _ e)),rfl,q⟩
theorem vq {K:G6}{H:Hp}: ∀ {bs:G0 M7} {vs:G0 V},À K H (bs.map D.bl) vs->vs=bs.map V.bl
 | [],_,h=>h
 |b::bs,vs,h=>by
  obtain⟨v,r,e,h1,h2⟩:=(show ∃v r,vs=v::r/\É K H (.bl b) v/\À K H (bs.map D.bl) r from h);rw [e,vq h2,(show v= .bl b from h1)];rfl
def TK:RDn:=λds h Q=> ∃ (a:G9) (bs:G0 M7),ds= [.lst a]/\h a=some (bs.map D.bl)/\Q (.bl (bs.all id)) (YK h a)
def TL:RDn:=λds h Q=> ∃ (a:G9) (bs:G0 M7),ds= [.lst a]/\h a=some (bs.map D.bl)/\Q (.bl (bs.any id)) (YK h a)
def DH (hc:X.calm=true):yU X (.builtin "all") TK:=(YN hc).imp λxs H Q ⟨ds,h,Qd,r,rh,⟨a,bs,e,hd,q⟩,p⟩=>by
 subst e;obtain⟨v,e,r1⟩:=jB r;obtain⟨vs,hH,r2⟩:=rh a _ hd;have e1:v= .ref a:=r1.1;rw [vq r2] at hH;subst e e1;exact⟨a,bs,rfl,í.of hH,p (.bl _) _ _ _ (.refl H) (rh.sub (Sub.drop h a)) rfl q⟩
def AT (hc:X.calm=true):yU X (.builtin "any") TL:=(YO hc).imp λxs H Q ⟨ds,h,Qd,r,rh,⟨a,bs,e,hd,q⟩,p⟩=>by
 subst e;obtain⟨v,e,r1⟩:=jB r;obtain⟨vs,hH,r2⟩:=rh a _ hd;have e1:v= .ref a:=r1.1;rw [vq r2] at hH;subst e e1;exact⟨a,bs,rfl,í.of hH,p (.bl _) _ _ _ (.refl H) (rh.sub (Sub.drop h a)) rfl q⟩
end
def HQ (to:TED)(te:TED):TED:=λσ h Q=>to σ h λx h1=> ∃a,x= .lst a/\te σ h1 λy h2=> ∃xs,h2 a=some xs/\xs.length<sizeLine/\Q .non (zF h2 a (xs++ [y]))
section
variable {X:Cx}{o e i:M9}{to te ti:TED}{apos cpos pos:Pos}
def KP (ho:QE X o to)(he:QE X e te)(hbase:b7 o "append" X.env (A2 o X.env)=A2 o X.env:=by rfl)
 (hfew:((E1 cpos (P8 [e] X.env)).all (λx=> !x.1)&&(j9 cpos (dG [] X.env)).all (λx=>x.1.isSome)&&decide ([e].length+([]:G0 cL).length+(if ([]:G0 cL).isEmpty then 0 else 1)<30))=true:=by rfl)
 (hline:(apos.endLine==cpos.line)=true:=by rfl)(hs:P8 [e] X.env=(false,A2 e X.env)::P8 [] X.env:=by rfl)(hplain:(E1 cpos (P8 [] X.env)).any (·.1)=false:=by rfl):
 QE X (.Call (.Attribute o "append" apos) [e] [] cpos) (HQ to te):=
 (MT cC uU uV Dh ho (zA he ð hs) hbase hfew hline hs hplain).imp
  λσ H Q ⟨Â,h,Qd,rs,rh,t,p⟩=>LE.bind rs rh t λd v h1 H1 k1 Ö Ê r1 ⟨a,e,q⟩=>by
   subst e;obtain⟨e1,vs,hH⟩:=(show v= .ref a/\ ∃vs,H1 a=some (.lst vs) from r1);subst e1;refine⟨.inl ⟨rfl,vs,í.of hH⟩,?_⟩;refine LE.bind Ö Ê q λy u h2 H2 k2 Ŀ î r2 ⟨xs,hx,hz,q2⟩=> ?_
   obtain⟨ws,hW,r3⟩:=î a xs hx;refine⟨a,ws,u,rfl,rfl,hW,by rw [<-r3.length];exact hz,p .non _ _ _ (k1.trans (k2.trans (.put hW))) (î.put hW (r3.append (.cons r2 .nil))) rfl q2⟩
def AU (to ti:TED):TGD:=λd σ h Q=>to σ h λo h1=>ti σ h1 λi h2=> ∃a k xs j,o= .lst a/\i= .int k/\h2 a=some xs/\ζ xs.length k=some j/\Q σ (zF h2 a (xs.set j d))
def AV (ho:QE X o to)(hi:QE X i ti)
 (ha: ∀v,iI (.Subscript o i pos) X.env v=(do
  let ov <-aZ [v] (A2 o X.env)
  let iv <-aZ [v,ov] (A2 i X.env)
  hO pos
  aZ [v,ov,iv] (xJ ov iv v)
  G0m [v,ov,iv] []):=by intro _;rfl):QG X (.Subscript o i pos) (AU to ti):=
 (OI ho hi MS ha).imp λv σ H Q ⟨d,Â,h,Qd,r,rs,rh,q,p⟩=>
  LE.bind rs rh q λd1 v1 h1 H1 k1 Ö Ê r1 q1=>LE.bind Ö Ê q1 λd2 v2 h2 H2 k2 Ŀ î r2 ⟨a,k,xs,j,e1,e2,hx,hj,q2⟩=>by
   subst e1 e2;have e3:v1= .ref a:=(r1.mono k2).1;obtain⟨ws,hW,r3⟩:=î a xs hx;refine⟨a,ws,k,j,e3,r2,hW,by rw [<-r3.length];exact hj,p _ _ _ _ (k1.trans (k2.trans (.put hW))) (Ŀ.mono (.put hW)) (î.put hW (À.set ((r.mono k1).mono k2) j r3)) q2⟩
end
noncomputable def Qi (N:G0 Str)(sc:G0 (Str×NameKind))(scope:K1)(js:G0 G5):M7:=
 scope.kind== .function&&scope.names.all (λp=>p.2 != .cell||scope.names.lookup p.1==some .cell)&&scope.names.all (λp=>p.2 != .local||scope.names.lookup p.1==some .local)&&
 scope.names.all (λp=>p.2 != .free||sc.lookup p.1==some .cell||sc.lookup p.1==some .free)&&
 (P4 N.length).all λi=>(scope.names.lookup (N.getD i xA) !=some .local&&scope.names.lookup (N.getD i xA) !=some .cell)||js.contains i
def jW (h:Qi X.N X.env.scope.names scope js=true):Õ X scope js:=by
 unfold Qi at h;simp only [B8] at h;obtain⟨⟨⟨⟨h1,h2⟩,h3⟩,h4⟩,h5⟩:=h;refine⟨eq_of_beq h1,λp hp e=> ?_,λp hp e=> ?_,λp hp e=> ?_,λi x e1 e2=> ?_⟩
 ·have:=N9.mp h3 p hp;rw [e] at this;simpa using this
 ·have:=N9.mp h2 p hp;rw [e] at this;simpa using this
 ·have:=N9.mp h4 p hp;rw [e] at this;simpa using this
 ·have hi:i<X.N.length:=(P6.mp e1).1;have:=N9.mp h5 i (D1.mpr hi);rw [D7,e1,rA] at this;rcases e2 with e2|e2<;>(rw [e2] at this;simpa using this)
def qpt {t:TTD}(h:QW X e t):QT X e t:=h.pt
def DI {te:TED}{σ:SD}{h1:HD}{Q:KD}{j:İ}(f:D->D)(hz:ds.length<=sizeLine)(hj:j h1=some ds)
 (ht: ∀R:İ->HD->Prop,R j h1->ti σ h R)(he: ∀d∈ds,∀Q':KD,Q' (f d) h1->te ((jJ js σ).set i (some d)) h1 Q')(hq: ∀p,h1 p=none->Q (.lst p) (zF h1 p (ds.map f))):yV (bN i) js ti Ye te σ h Q:=by
 refine ht _ ⟨ds.length,λk ys h'=>h'=h1/\ys=(ds.take k).map f,⟨rfl,by simp⟩,?_⟩;rintro k ys h' ⟨rfl,rfl⟩;refine⟨by simp only [G2,N0];omega,ds,hj,P3 _,λhl p hp=> ?_,λd hd=>⟨_,rfl,?_⟩⟩
 ·rw [N2 hl];exact hq p hp
 ·unfold Ye;dsimp only;rw [R8 rfl];refine he d (P9 hd) _ ⟨h',Sub.refl _,rfl,?_⟩;rw [E7,hd];simp
end L2
namespace HT
open PySem PySem.Spec PyProof.Rows
section
variable {prog:S8}{w:B0}{A:T8}{E:G1->G3->Prop}{s:G3}
def vt {t sl:G9}{items:T6 G1}{vl vu:G1}{lo hi:P5 P1}{Q:G1->G3->Prop}(ht:rN s.heap t items)(hs:s.heap.IsSliceOf sl vl vu .none)(pl:mL vl lo)(pu:mL vu hi)
 (hw:sIx items.size 0 lo=0/\sIx items.size items.size hi=items.size)(h:Q (.ref t) s):R0 (R7 prog w) A (iV (.ref t) (.ref sl)) Q E s:=by
 obtain⟨os,hos,hcs,hds⟩:=id hs;have hTs:s.TypeIs (.ref sl) "slice" :=⟨os,hos,hcs⟩;unfold iV
 try with_reducible refine L7 ?_
 first|refine wpAny_bind (P2 ?_)|skip
 refine wpAny_bind (pZ ht.typeIs (by decide) ?_);refine wpAny_bind (Q7 (name:=mM "__getitem__") ht.typeIs X4
  (K2 X4 ht.typeIs oR ?_ (pF _ _)))
 show R0 _ _ (j8 (.ref t) >>= _) _ _ s;refine wpAny_bind (uO ht ?_);refine wpAny_bind (mN hTs ?_);rw [R8 (by decide)];refine wpAny_bind (yg hs pl pu ?_);have X1Q:((((sIx items.size 0 lo:G5):P1)==0&&(1:P1)==1&&(sIx items.size items.size hi-sIx items.size 0 lo)==items.size)=true):=by
  rw [hw.1,hw.2];simp
 show R0 _ _ (if (((sIx items.size 0 lo:G5):P1)==0&&(1:P1)==1&&(sIx items.size items.size hi-sIx items.size 0 lo)==items.size)=true then _ else _) _ _ s;rw [R8 X1Q];refine wpAny_bind (m:=kM (.ref t)) ?_;unfold kM;refine wpAny_bind (mN ht.typeIs (P2 ?_));rw [R8 (by decide)];exact wpAny_bind (gR (P2 ⟨_,rfl,P2 h⟩))
end
end HT
namespace L2
open PySem PySem.Spec PyProof.Rows
def KQ (K:G6):V->P5 P1->P5 P1->Hp->VK->Prop:=λx lo hi H Q=> ∃a xs,x= .ref a/\å K H a xs/\(HT.sIx xs.length 0 lo=0/\HT.sIx xs.length xs.length hi=xs.length)/\Q (.ref a) H
variable {X:Cx}
def X0b:SlR X (KQ X.K):=by
 intro ID s σ H x v vl vu lo hi sl Q I rx hs pl pu h;obtain⟨a,xs,rfl,hx,hw,q⟩:=h;cases rx;obtain⟨its,r,ht,hz⟩:=I.tuple hx;have hlen:its.toArray.size=xs.length:=by rw [S0];exact r.length.symm
 refine⟨"tuple",_,PyProof.Rows.slot_tuple_getitem.lookup,ht.typeIs,?_⟩;exact HT.vt ht hs pl pu (by rw [hlen];exact hw) ⟨.ref a,H,I,rfl,q⟩
def Gv {α:Type}(xs:G0 α)(lo hi:P5 P1):G0 α:=(xs.drop (HT.sIx xs.length 0 lo)).take (HT.sIx xs.length xs.length hi-HT.sIx xs.length 0 lo)
abbrev TOD:=SD->HD->(P5 P1->HD->Prop)->Prop
def AW (t:TED):TOD:=λσ h Q=>t σ h λx h1=> ∃i,x= .int i/\Q (some i) h1
def LO (K:G6)(t:TOD):TO:=λσ H Q=> ∃Â h Qd,Ì K H Â σ/\Ä K h H/\t Â h Qd/\ ∀o h' H',Kept H H'->Ä K h' H'->Qd o h'->Q o H'
def LO.bind {K:G6}{ta:TOD}{σ:St}{H:Hp}{Â:SD}{h:HD}{kd:P5 P1->HD->Prop}{k:P5 P1->Hp->Prop}(rs:Ì K H Â σ)(rh:Ä K h H)(t:ta Â h kd)(f: ∀o h' H',Kept H H'->Ì K H' Â σ->Ä K h' H'->kd o h'->k o H'):LO K ta σ H k:=
 ⟨Â,h,kd,rs,rh,t,λo h' H' kp r1 q=>f o h' H' kp (rs.mono kp) r1 q⟩
def PO.imp {e:P5 M9}{t t':TO}(h:PO X e t)(i: ∀σ H Q,t' σ H Q->t σ H Q):PO X e t':=λID s σ H Q I q=>h ID s σ H Q I (i σ H Q q)
abbrev QO (X:Cx)(e:P5 M9)(t:TOD):Prop:=PO X e (LO X.K t)
def Fr {e:M9}{te:TED}(he:QE X e te):QO X (some e) (AW te):=(Cy he).imp λσ H Q ⟨Â,h,Qd,rs,rh,q,p⟩=>
 LE.bind rs rh q λd v h1 H1 k1 Ö Ê r1 ⟨i,e,q1⟩=>by subst e;exact⟨i,r1,p _ _ _ k1 Ê q1⟩
def slD:D->P5 P1->P5 P1->HD->KD->Prop:=λx lo hi h Q=>match x with
 | .tup ds=>Q (.tup (Gv ds lo hi)) h
 | .scr ns=> ∀p,h p=none->Q (.lst p) (zF h p ((Gv ns lo hi).map D.int))
 | .lst a=> ∃ds,h a=some ds/\ ∀p,h p=none->Q (.lst p) (zF h p (Gv ds lo hi))
 |_=>False
def dSl (te:TED)(tl th:TOD):TED:=λσ h Q=>te σ h λx h1=>tl σ h1 λl h2=>th σ h2 λu h3=>slD x l u h3 Q
def YQ {K:G6}{H:Hp}{ds:G0 D}{vs:G0 V}(r:À K H ds vs)(lo hi:P5 P1):À K H (Gv ds lo hi) (MB vs lo hi):=by
 unfold Gv MB;rw [r.length];exact(r.drop _).take _
def Fs {α β:Type}(f:α->β)(xs:G0 α)(lo hi:P5 P1):Gv (xs.map f) lo hi=(Gv xs lo hi).map f:=by
 unfold Gv;rw [G2,o0,o3]
def AX {e:M9}{te:TED}{lo hi:P5 M9}{tl th:TOD}{pos p2:Pos}(he:QE X e te)(hl:QO X lo tl)(hu:QO X hi th):QE X (.Subscript e (.Slice lo hi none p2) pos) (dSl te tl th):=
 (MR (X0y.or (X0b.or Cz)) he hl hu).imp λσ H Q ⟨Â,h,Qd,rs,rh,q,p⟩=>
  LE.bind rs rh q λd v h1 H1 k1 Ö Ê r1 q1=>LO.bind Ö Ê q1 λl h2 H2 k2 Ŀ î q2=>LO.bind Ŀ î q2 λu h3 H3 k3 rs3 ě q3=>by
   have rv:=(r1.mono k2).mono k3;have kk:=k1.trans (k2.trans k3);cases d<;>first
    |exact False.elim q3
    |skip
   ·rename_i ds;obtain⟨a,vs,e1,hH,r⟩:=(show ∃a vs,v= .ref a/\H3 a=some (.tup vs)/\À X.K H3 ds vs from rv)
    by_cases hw:HT.sIx vs.length 0 l=0/\HT.sIx vs.length vs.length u=vs.length
    ·refine .inr (.inl ⟨a,vs,e1,å.of hH,hw,p (.tup (Gv ds l u)) _ _ _ kk ě ⟨a,vs,rfl,hH,?_⟩ q3⟩);have z:=YQ r l u;have e:MB vs l u=vs:=by unfold MB;rw [hw.1,hw.2];simp
     rwa [e] at z
    ·exact .inl ⟨a,vs,e1,å.of hH,hw,λc hc=>p (.tup (Gv ds l u)) _ _ _ (kk.trans (.new hc)) (ě.new hc) ⟨c,_,rfl,ji,(YQ r l u).mono (.new hc)⟩ q3⟩
   ·rename_i a;obtain⟨ds,hd,q3⟩:=q3;obtain⟨vs,hH,r⟩:=ě a ds hd;exact .inr (.inr ⟨a,vs,rv.1,í.of hH,λc hc=>p (.lst c) _ _ _ (kk.trans (.new hc)) (ě.newL hc (YQ r l u)) ⟨rfl,_,ji⟩ (q3 c (ě.free hc))⟩)
   ·rename_i ns;obtain⟨a,e1,hS⟩:=(show ∃a,v= .ref a/\Scr X.K H3 a ns from rv);refine .inr (.inr ⟨a,_,e1,hS.sq,λc hc=>p (.lst c) _ _ _ (kk.trans (.new hc)) (ě.newL hc ?_) ⟨rfl,_,ji⟩ (q3 c (ě.free hc))⟩);have z:=YQ (wM (K:=X.K) (H:=H3) ns) l u
    rwa [Fs] at z
end L2
namespace HT
open PySem PySem.Spec PyProof.Rows
open Sem (wp)
open Builtin
def Zn:fillsNumberSlot (.type "tuple") "mul" =pure false:=
 PySem.fillsNumberSlot_seq (id:= "tuple.__mul__") (r:=some (.builtin "tuple.__rmul__")) F.slot_tuple_mul.lookup (by decide +kernel) F.slot_tuple_rmul.lookup (by decide +kernel)
def VU:G0c (.type "tuple")=pure (some (.builtin "tuple.__mul__")):=by
 unfold G0c;rw [rB (T:= "tuple") (name:= "__mul__") (id:= "tuple.__mul__") F.slot_tuple_mul.lookup (by decide +kernel),rB (T:= "tuple") (name:= "__rmul__") (id:= "tuple.__rmul__") F.slot_tuple_rmul.lookup (by decide +kernel)];rfl
section
variable {prog:S8}{w:B0}{A:T8}{E:G1->G3->Prop}{s:G3}
def YR {k:P1}{t:Tok}{l:G9}{o:Obj}{its:T6 G1}{n:G5}{P:fU->G3->Prop}(at_:s.heap.get? l=some o)(tup:o.cls= .type "tuple")(dat:o.data= .seq its n)(h:P (.done (.ret .notImplemented)) s):R0 (R7 prog w) A (Builtin.«int.__rmul__» ⟨[.int k t,.ref l],[]⟩) P E s:=by
 obtain⟨c,dd,dt,sl⟩:=o;cases tup;cases dat;obtain⟨hp,g,d,tk,os⟩:=s
 wp_walk
 exact h
def Xp {l:G9}{its:T6 G1}{n:G5}{x:P1}{u:Tok}{dd:P5 G9}{sl:T6 (P5 G1)}{P:fU->G3->Prop}(at_:s.heap.get? l=some {cls:= .type "tuple",dict:=dd,data:= .seq its n,slots:=sl})(fits: -(2^63)<=x/\x<2^63)
 (same:(its.isEmpty||x==1)=true->P (.done (.ret (.ref l))) s)
 (gone:(its.isEmpty||x==1)=false->(decide (x<=0)||its.isEmpty)=true->P (.done (.ret (.ref s.heap.objs.size))) {s with heap:=s.heap.push {cls:= .type "tuple",data:= .seq #[]}})
 (more:(its.isEmpty||x==1)=false->(decide (x<=0)||its.isEmpty)=false-> ¬ (its.size:P1)*x>(2^63-1) / 8/\kN ((its.size:P1)*x)=false/\((B2 x.toNat its).foldl (· ++ ·) #[]).size<=sizeLine/\
  P (.done (.ret (.ref s.heap.objs.size))) {s with heap:=s.heap.push {cls:= .type "tuple",data:= .seq ((B2 x.toNat its).foldl (· ++ ·) #[])}}):
 R0 (R7 prog w) A (Builtin.«tuple.__mul__» ⟨[.ref l,.int x u],[]⟩) P E s:=by
 obtain⟨hp,g,d,tk,os⟩:=s
 wp_walk
 rw [R9 (by simp only [bK,W5];omega)]
 wp_walk
 cases c1:(its.isEmpty||x==1) with
 |true=>
  rw [R8 rfl]
  wp_walk
  exact same c1
 |false=>
  rw [R9 R3];cases c2:(decide (x<=0)||its.isEmpty) with
  |true=>
   rw [R8 rfl]
   wp_walk
   exact gone c1 c2
  |false=>
   obtain⟨m1,m2,m3,m4⟩:=more c1 c2;rw [R9 R3];dsimp only;rw [R9 m1,m2,R9 R3]
   wp_walk
   exact m4
end
end HT
namespace L2
open PySem PySem.Spec PyProof.Rows
def TN (K:G6):R2:=λx y H Q=> ∃ (a:G9) (k:P1) (xs:G0 V),x= .ref a/\y= .int k/\å K H a xs/\ -(2^63)<=k/\k<2^63/\xs.length*k.toNat<=sizeLine/\
 ((xs= []\/k=1)->Q (.ref a) H)/\(¬ (xs= []\/k=1)-> ∀p,H p=none->Q (.ref p) (upd H p (.tup (B2 k.toNat xs).flatten)))
def Zu {l:G0 G1}:l.toArray= #[]↔l= []:=by cases l<;>simp
variable {X:Cx}
def Ft:ü X (V6 .Mult) (TN X.K):=by
 intro ID s σ H x y v u Q I rx ry h;obtain⟨a,k,xs,rfl,rfl,hH,h1,h2,hz,q1,q2⟩:=h;cases rx;obtain⟨t,rfl⟩:=ry;obtain⟨its,r,ht,_⟩:=I.tuple hH;obtain⟨⟨cls,dd,data,sl⟩,ho,hc,n,hd⟩:=id ht;simp only at hc hd;subst hc hd;have hl:=r.length;have X09:(B2 k.toNat its.toArray).foldl (· ++ ·) #[]=(B2 k.toNat its).flatten.toArray:=by
  have:=ZN its k.toNat [];rw [O2] at this;exact this
 have few:its.length*k.toNat<=sizeLine:=by rw [<-hl];exact hz
 have free:=I.hok.fresh (P3 _);refine kY (T:= "tuple") (U:= "int") (by decide) ⟨_,ho,rfl⟩ (λs'=>mQ s' k t) HT.Zn sC iK HT.VU F.slot_int_index.lookup
  (K2 iK (mQ s k t) qY (HT.YR ho rfl rfl ⟨_,rfl,rfl,⟨_,ho,rfl⟩,K2 F.slot_tuple_mul ⟨_,ho,rfl⟩ F.entry_tuple_mul (HT.Xp ho ⟨h1,h2⟩ (λc=> ?_) (λc c0=> ?_) (λc c0=> ?_)) (F.args_tuple_mul_2 _ _)⟩) (qA _ _))
 ·refine⟨_,rfl,.ref a,H,I,rfl,q1 ?_⟩;simp only [bK,beq_iff_eq,qC,Zu] at c;exact c.imp (λe=>r.nil_iff.mp e) id
 ·simp only [nX,beq_eq_false_iff_ne,kO,ne_eq,Zu] at c;have k0:k.toNat=0:=by
   simp only [bK,W5,qC,Zu] at c0;have:=c0.resolve_right c.1;omega
  have last:=q2 (λz=>z.elim (λe=>c.1 (r.nil_iff.mpr e)) c.2) _ free;rw [k0] at last;exact⟨_,rfl,.ref s.heap.objs.size,_,I.laid (t':=s.toks) (o:= .tup []) (λb ob q=>G7 _ q) (P3 _) ⟨by decide,[],.nil,é.new _ _⟩,rfl,last⟩
 ·simp only [nX,beq_eq_false_iff_ne,kO,ne_eq,Zu,fV] at c c0;have em:((its.toArray.size:G5):P1)*k=((its.length*k.toNat:G5):P1):=by rw [Int.natCast_mul,S0,show ((k.toNat:G5):P1)=k by omega]
  have cap:(sizeLine:G5)<=(2^63-1) / 8:=by decide
  rw [em,X09];refine⟨by omega,by unfold kN;exact D9 (by omega),by rw [S0,Xl,aL];exact few,_,rfl,.ref s.heap.objs.size,_,I.laid (t':=s.toks) (o:= .tup (B2 k.toNat xs).flatten) (λb ob q=>G7 _ q) (P3 _) ⟨by rw [Xl,aL];exact hz,_,r.rep k.toNat,é.new _ _⟩,rfl,q2 (λz=>z.elim (λe=>c.1 (r.nil_iff.mpr e)) c.2) _ free⟩
def HR:RD2:=λx y h Q=>match x,y with
 | .tup ds,.int k=> -(2^63)<=k/\k<2^63/\ds.length*k.toNat<=sizeLine/\Q (.tup (B2 k.toNat ds).flatten) h
 |x,y=>HN x y h Q
def YS:ó X (V6 .Mult) HR:=(X0E.or Ft).imp λx y H Q ⟨dx,dy,h,Qd,rx,ry,rh,q,p⟩=>by
 by_cases ht: ∃ds k,dx= .tup ds/\dy= .int k
 ·obtain⟨ds,k,e1,e2⟩:=ht;subst e1 e2;obtain⟨b1,b2,hz,q⟩:=q;obtain⟨a,vs,e,hH,r⟩:=(show ∃a vs,x= .ref a/\H a=some (.tup vs)/\À X.K H ds vs from rx);refine .inr ⟨a,k,vs,e,ry,å.of hH,b1,b2,by rw [<-r.length];exact hz,λhs=> ?_,λ_ c hc=>p (.tup _) _ _ _ (.new hc) (rh.new hc) ⟨c,_,rfl,ji,(r.flat _).mono (.new hc)⟩ q⟩;refine p (.tup _) _ _ _ (.refl H) rh ⟨a,vs,rfl,hH,?_⟩ q;rcases hs with e0|e1
  ·subst e0;have:ds= []:=cB.mp r.length;subst this;simpa using r
  ·subst e1;simpa using r
 ·refine .inl ⟨dx,dy,h,Qd,rx,ry,rh,?_,p⟩;unfold HR at q;split at q
  ·exact absurd ⟨_,_,rfl,rfl⟩ ht
  ·exact q
def HS:D->HD->KD->Prop:=λx h Q=>match x with
 | .int i=>Q (.int (-i)) h
 |_=>False
def dUn (f:D->HD->KD->Prop)(ta:TED):TED:=λσ h Q=>ta σ h λx h1=>f x h1 Q
def KR {a:M9}{ta:TED}{pos:Pos}(ha:QE X a ta):QE X (.UnaryOp .USub a pos) (dUn HS ta):=
 (SR OV ha).imp λσ H Q ⟨Â,h,Qd,rs,rh,t,p⟩=>LE.bind rs rh t λd v h1 H1 k1 Ö Ê r1 q=>by
  cases d<;>first
   |exact False.elim q
   |exact⟨_,r1,p (.int _) _ _ _ k1 Ê rfl q⟩
variable {p:G9}
def Nf {H:Hp}{a b:HO}:upd (upd H p a) p b=upd H p b:=by
 funext q;unfold upd;split<;>rfl
def AY (K:G6)(tl:TE):TI:=λσ H R=>tl σ H λx H1=> ∃a,x= .ref a/\((∃xs,í K H1 a xs/\R (Itl K a) H1)\/ ∃xs,å K H1 a xs/\R (Itt K a) H1)
def AZ {tg l:M9}{tl:TE}(hl:PE X l tl):PI X tg l (AY X.K tl):=by
 intro ID s σ H R I h;refine Ñ (hl ID s σ H _ I h) λv s1 ⟨x,H1,I1,r1,q1⟩=> ?_
 obtain⟨a,e,q⟩:=q1;subst e;cases r1;rcases q with ⟨xs,hq,q⟩|⟨xs,hq,q⟩
 ·obtain⟨its,rv,p,hz⟩:=I1.list hq;refine Z8 p.isList ?_;refine⟨s1.heap.objs.size,[s1.heap.objs.size],_,_,H1,rfl,I1.kept (t':=s1.toks) λb o e=>G7 _ e,VG a _,⟨_,S4 _ rfl,rfl,rfl⟩,λb hb=> ?_,q⟩;have e:b=s1.heap.objs.size:=by simpa using hb
  subst e;exact I1.fpOk (P3 _) (I1.hok.fresh (P3 _))
 ·obtain⟨its,rv,p,hz⟩:=I1.tuple hq;refine aU (show s1.heap.IsTuple a its.toArray from p) ?_;refine⟨s1.heap.objs.size,[s1.heap.objs.size],_,_,H1,rfl,I1.kept (t':=s1.toks) λb o e=>G7 _ e,Gm a _,⟨_,S4 _ rfl,rfl,rfl⟩,λb hb=> ?_,q⟩;have e:b=s1.heap.objs.size:=by simpa using hb
  subst e;exact I1.fpOk (P3 _) (I1.hok.fresh (P3 _))
def iS (te:TED):TID:=λσ h R=>te σ h λx h1=>match x with
 | .lst a=>R (λh=>h a) h1
 | .tup ds=>R (λ_=>some ds) h1
 | .scr ns=>R (λ_=>some (ns.map D.int)) h1
 |_=>False
variable {K:G6}
def Ng {H:Hp}{a:G9}{ns:G0 P1}(hs:Scr K H a ns):Oj K H (λ_=>some (ns.map D.int)) (Itl K a):=λH' h' k rh ds' e i=>by
 cases e;have Ħ:Scr K H' a ns:=hs.elim (λ⟨o,z⟩=> .inl ⟨o,k.frz _ _ _ z⟩) .inr;refine⟨λd hd=> ?_,λhl=>⟨_,Ħ.sq,by simpa using hl⟩⟩;obtain⟨v,e1,e2⟩:=(wM (K:=K) (H:=H') ns).get hd;refine⟨⟨_,v,Ħ.sq,e1⟩,λx Ť ⟨eH,hx⟩=> ?_⟩;subst eH;have:=hx _ Ħ.sq;rw [e1] at this;cases this;exact⟨.refl _,rh,e2⟩
variable {te:TED}
def Ea: ∀σ H R,LI K (iS te) σ H R->AY K (LE K te) σ H R:=λσ H R ⟨Â,h,Rd,rs,rh,q,p⟩=>
 LE.bind rs rh q λd v h1 H1 k1 Ö Ê r1 q1=>by
  cases d<;>first
   |exact False.elim q1
   |skip
  ·rename_i ds;obtain⟨a,vs,e,hv,r⟩:=(show ∃a vs,v= .ref a/\H1 a=some (.tup vs)/\À K H1 ds vs from r1);exact⟨a,e,.inr ⟨vs,å.of hv,p _ _ _ _ k1 Ê (Nb hv r) q1⟩⟩
  ·rename_i a;obtain⟨e,vs,hv⟩:=(show v= .ref a/\ ∃vs,H1 a=some (.lst vs) from r1);exact⟨a,e,.inl ⟨vs,í.of hv,p _ _ _ _ k1 Ê (VR H1 a) q1⟩⟩
  ·rename_i ns;obtain⟨a,e,hS⟩:=(show ∃a,v= .ref a/\Scr K H1 a ns from r1);exact⟨a,e,.inl ⟨_,hS.sq,p _ _ _ _ k1 Ê (Ng hS) q1⟩⟩
def Eb {tg e:M9}(he:QE X e te):QI X tg e (iS te):=(AZ he).imp Ea
def BL:TSD:=λ_ _ _=>False
def Ec {st:A6}:QS X st BL:=λ_ _ _ _ _ _ ⟨_,_,_,_,_,z,_⟩=>z.elim
structure Zs (mg:Str->P5 G1):Prop where
 len:mg "len" =none
 max:mg "max" =none
 min:mg "min" =none
 divmod:mg "divmod" =none
 all:mg "all" =none
 any:mg "any" =none
 repr:mg "repr" =none
 sum:mg "sum" =none
 sorted:mg "sorted" =none
 int:mg "int" =none
 tuple:mg "tuple" =none
 list:mg "list" =none
 set:mg "set" =none
 bool:mg "bool" =none
 isinstance:mg "isinstance" =none
 range:mg "range" =none
 zip:mg "zip" =none
 enumerate:mg "enumerate" =none
 reversed:mg "reversed" =none
def jy (P:S8)(w:B0)(K:G6)(mg:Str->P5 G1)(base:C7)(n:G5)(x:Str)(ps:G0 Str)(sp:RDn):Prop:=
 ∃ (g:G9) (gd:M6),È P w K mg base Û n g gd ps (æ K sp)/\Binds K gd ps []/\K8 K (.ref g)=true/\mg x=some (.ref g)
def DJ:RDn:=λds h Q=> ∃ns,ds= [.scr ns]/\(∀a,h a=none)/\ns.length<=63/\ ∀h',Q (.bl true) h'
def Bm (mg:Str->P5 G1)(base:C7):Prop:= ∃bm ob,mg "__builtins__" =some (.ref bm)/\bm≠i5/\base.get? bm=some ob/\ob.cls= .type "module" /\ob.dict=some i5/\ob.data= .plain
def wD (K:G6):G0 (G9×G9):=LN.filterMap (lM K)
def X0D.mem {P:G9}(h:X0D K P): ∃c,(c,P)∈wD K:=let ⟨x,hx,c,e⟩:=h;⟨c,aR.mpr ⟨x,hx,e⟩⟩
def DK {P:S8}{w:B0}{mg mb:Str->P5 G1}{k:G5}{fa a:G9}{fd:M6}{x:Str}{s₁:G3}{vs:G0 G1}{ns:G0 P1}
 (KX:K.In s₁.heap)(hns:s₁.heap.Ns mainGlobals mg)(hb:s₁.heap.Ns i5 mb)(hbb: ∀x:Str,x≠ "__name__" ->mb x=Q5 x)(X1R:s₁.heap.NoLimit)(hg:s₁.gens= #[])
 (ha:s₁.heap.get? a=some {cls:= .type "list",data:= .seq vs.toArray})(hi:W0 vs ns)(hl:ns.length<=63)(hr:Î k oK)
 (hbm:Bm mg s₁.heap)(F: ∀base:C7,K.In base->base.Ns mainGlobals mg->Bm mg base->È P w K mg base Û k fa fd [x] (æ K DJ))(X1g: ∀ (s:G3) (u:G1),oI s fd ⟨[u],[]⟩ [(x,u)])
 (hT: ∀p∈wD K,tL s₁.heap p.1 p.2/\s₁.heap.get? p.2=some (nY #[])/\K.lookup p.2=none):
 aK (R7 P w) oK (.call (.ref fa) ⟨[.ref a],[]⟩) (λr s'=>r= .ok (.ret (.bool true))/\OldK s₁.heap s'.heap/\s'.os=s₁.os/\iU s'.gens) s₁:=by
 have rv:=VN hi;have X1S:=hi.length;have hz:ns.length<=sizeLine:=R6 hl (by decide);have Ζ: ∀b,b∈(wD K).map (·.2)-> ∃c,tL s₁.heap c b/\s₁.heap.get? b=some (nY #[])/\K.lookup b=none:=λb hb=>by
  obtain⟨p,hp,rfl⟩:=S9.mp hb;exact⟨p.1,hT p hp⟩
 have core: ∀H:Hp,Scr K H a ns->ù P w H s₁.heap->(∀b u,H b=some u->(b=a/\K.lookup a=none/\ ∃o xs,u= .frz o (.lst xs))\/(b∈(wD K).map (·.2)/\u= .tbl #[]))->(∀b,b∈(wD K).map (·.2)->H b=some (.tbl #[]))->
  aK (R7 P w) oK (.call (.ref fa) ⟨[.ref a],[]⟩) (λr s'=>r= .ok (.ret (.bool true))/\OldK s₁.heap s'.heap/\s'.os=s₁.os/\iU s'.gens) s₁:=by
  intro H hS hok hA hTt;have ε: ∀ {b:G9} {o:Obj} {es:T6 DictEntry} {ep:G5},s₁.heap.get? b=some o->o.data= .dict es ep->H b=none:=λ{b o es ep} e d=>by
   cases q:H b with
   |none=>rfl
   |some u=>
    rcases hA b u q with ⟨rfl,_,_⟩|⟨z,_⟩
    ·rw [ha] at e;cases e;have d':Data.seq vs.toArray _=Data.dict es ep:=d;cases d'
    ·obtain⟨c,_,e2,_⟩:=Ζ b z;rw [e2] at e;cases e;have d':Data.fields _=Data.dict es ep:=d;cases d'
  have nsK: ∀ {b:G9} {m:Str->P5 G1},s₁.heap.Ns b m->(MF s₁.heap H).Ns b m:=λ{b m} ⟨o,es,ep,e,d,r⟩=>⟨o,es,ep,YC e (ε e d),d,r⟩
  have hKb:K.In (MF s₁.heap H):=λb o e=>YC (KX b o e) (by
   cases q:H b with
   |none=>rfl
   |some u=>
    rcases hA b u q with ⟨rfl,z,_⟩|⟨z,_⟩
    ·rw [z] at e;cases e
    ·obtain⟨c,_,_,z2⟩:=Ζ b z;rw [z2] at e;cases e)
  have hM:Mod K mg (MF s₁.heap H):=⟨hKb,nsK hns,⟨mb,nsK hb,hbb⟩,let ⟨mc,h1,h2⟩:=X1R;⟨mc,nsK h1,h2⟩⟩;have e0:Ō P w K mg (MF s₁.heap H) oK [] s₁ H:=⟨rfl,hM,λb o e=>Ci e,aM (PH _ _),trivial,λb hb=>absurd (show b∈([]:G0 G9) from hb) (by simp),hok,.of_eq hg⟩;have Ŝ:æ K DJ [.ref a] H (λv _=>v= .bl true) (λ_ _ _=>False):=by
   refine⟨[.scr ns],⟨λ_=>none,λ_=>none⟩,λd _=>d= .bl true,⟨.ref a,[],rfl,⟨a,rfl,hS⟩,rfl⟩,⟨λb ds e=>(by cases e),λp hp=> ?_,λb c e=>(by cases e)⟩,⟨ns,rfl,λ_=>rfl,hl,λ_=>rfl⟩,?_⟩
   ·obtain⟨c,hc⟩:=hp.mem;exact⟨#[],hTt p (aG (f:=(·.2)) hc),trivial,λpos cv e=>(by cases e)⟩
   ·intro d v h' H' _ _ r e;subst e;exact r
  have hBm:Bm mg (MF s₁.heap H):=by
   obtain⟨bm,ob,b1,b2,b3,b4,r⟩:=hbm;refine⟨bm,ob,b1,b2,YC b3 ?_,b4,r⟩;cases q:H bm with
   |none=>rfl
   |some u=>
    rcases hA bm u q with ⟨rfl,_,_⟩|⟨z,_⟩
    ·rw [ha] at b3;cases b3;exact absurd (Value.type.inj b4) (by decide)
    ·obtain⟨c,_,e2,_⟩:=Ζ bm z;rw [e2] at b3;cases b3;cases b4
  refine cJ ((F _ hKb (nsK hns) hBm).run oK [] s₁ H ⟨[.ref a],[]⟩ [.ref a] [.ref a] _ _ hr e0 (X1g s₁ (.ref a)) (.cons rfl .nil) Ŝ) λr s' h=> ?_
  cases r with
  |error e=>exact False.elim h
  |ok fl=>
   cases fl with
   |next=>exact False.elim h
   |brk=>exact False.elim h
   |cont=>exact False.elim h
   |ret u=>
    obtain⟨v,H',os,bare,un,X1z,r',q⟩:=h;have q':v= .bl true:=q;subst q';obtain rfl:u=mJ true:=r';have one: ∀b o,s₁.heap.get? b=some o->s'.heap.get? b=some o\/(b∈(wD K).map (·.2)/\ ∃more,s'.heap.get? b=some (nY more)):=λb o e=>by
     cases q:H b with
     |none=>exact .inl (un.keep b o e q (by intro z;exact absurd (show b∈([]:G0 G9) from z) (by simp)) (by simp))
     |some u=>
      rcases hA b u q with ⟨rfl,_,ob,xs,rfl⟩|⟨z,rfl⟩
      ·have z2:=un.frzs _ ob _ q;obtain⟨e1,_⟩:=hok _ _ q;obtain⟨e2,_⟩:=X1z _ _ z2;rw [e] at e1;cases e1;exact .inl e2
      ·obtain⟨more,z2⟩:=un.tbls b _ q;exact .inr ⟨z,_,(show s'.heap.get? b=some _ from X1z b _ z2)⟩
    refine⟨rfl,⟨λb o e=> ?_,λb o e=> ?_⟩,os,bare⟩
    ·rcases one b o e with z|⟨z,more,z2⟩
     ·exact .inl z
     ·obtain⟨c,hc,e2,_⟩:=Ζ b z;rw [e] at e2;cases e2;refine .inr (.inl ⟨(hc.tab e).isCodeTable,rfl,#[],more,rfl,?_⟩);rw [z2];simp
    ·rcases one b o e with z|⟨z,more,z2⟩
     ·exact⟨_,z⟩
     ·exact⟨_,z2⟩
 have nT:a ∉ (wD K).map (·.2):=λz=>by
  obtain⟨c,_,e2,_⟩:=Ζ a z;rw [ha] at e2;cases e2
 have okT: ∀ {H:Hp} (b:G9),b∈(wD K).map (·.2)->Í P w H s₁.heap b (.tbl #[]):=λb hb=>let ⟨_,_,e,_⟩:=Ζ b hb;e
 cases hk:K.lookup a with
 |some o=>
  have e:=KX a o hk;rw [ha] at e;cases e;refine core (λb=>if b∈(wD K).map (·.2) then some (.tbl #[]) else none) (.inr ⟨_,vs.toArray,_,hk,rfl,rfl,rfl,by rw [S0,X1S];exact hz,by simpa using rv⟩) (λb u z=> ?_) (λb u z=> ?_) λb hb=>R8 hb
  ·by_cases hb:b∈(wD K).map (·.2)
   ·have z':=(R8 hb).symm.trans z;cases z';exact okT b hb
   ·have z':=(R9 hb).symm.trans z;cases z'
  ·by_cases hb:b∈(wD K).map (·.2)
   ·have z':=(R8 hb).symm.trans z;cases z';exact .inr ⟨hb,rfl⟩
   ·have z':=(R9 hb).symm.trans z;cases z'
 |none=>
  refine core (λb=>if b=a then some (.frz {cls:= .type "list",data:= .seq vs.toArray} (.lst (ns.map V.int))) else if b∈(wD K).map (·.2) then some (.tbl #[]) else none) (.inl ⟨{cls:= .type "list",data:= .seq vs.toArray},R8 rfl⟩) (λb u z=> ?_) (λb u z=> ?_) λb hb=> ?_
  ·by_cases hb:b=a
   ·have z':=(R8 hb).symm.trans z;cases z';subst hb;exact⟨ha,by rw [G2];exact hz,vs,_,rv,ha⟩
   ·have z':=(R9 hb).symm.trans z
    by_cases hb2:b∈(wD K).map (·.2)
    ·have z2:=(R8 hb2).symm.trans z';cases z2;exact okT b hb2
    ·have z2:=(R9 hb2).symm.trans z';cases z2
  ·by_cases hb:b=a
   ·have z':=(R8 hb).symm.trans z;cases z';exact .inl ⟨hb,hk,_,_,rfl⟩
   ·have z':=(R9 hb).symm.trans z
    by_cases hb2:b∈(wD K).map (·.2)
    ·have z2:=(R8 hb2).symm.trans z';cases z2;exact .inr ⟨hb2,rfl⟩
    ·have z2:=(R9 hb2).symm.trans z';cases z2
  ·have:b≠a:=λz=>nT (z ▸ hb)
   show (if b=a then _ else _)=_;rw [R9 this,R8 hb]
noncomputable def TQ (q:S8)(K:G6):M7:=LN.all λx=>match lM K x with
 |some p=>(K.lookup p.2).isNone&&((IN q).find? (λe=>e.name==x)).isSome
 |none=>true
def Nh {l:sE}{k:G5}{q:S8}{loose:G0 Str}{XP:(Str->P5 G1)->C7->Prop}{YP:B0->C7->Prop}{d:DefRec}{K:G0K->G6}{x:Str}(hn:l.most=some 63)(hdf:d.params.defaults= [])(hr:Î k oK)
 (hY: ∀ (w:B0) (h:C7),YP w h->(K w.params).In h)(hB: ∀w:B0,TQ q (K w.params)=true)
 (F: ∀ (w:B0) (mg:Str->P5 G1) (fa:G9) (h:C7),(K w.params).In h->h.Ns mainGlobals mg->mg d.name=some (.ref fa)->
  ∃fd:M6,(∀ (s:G3) (u:G1),oI s fd ⟨[u],[]⟩ [(x,u)])/\ ∀base:C7,(K w.params).In base->base.Ns mainGlobals mg->Bm mg base->È l.prog w (K w.params) mg base Û k fa fd [x] (æ (K w.params) DJ)):
 G0X q loose XP YP l.row.toRowW d [] (λf vs=>G0a f vs):=by
 refine Att.attach_call hn hdf λw s₀ s₁ mg mb fa o pm cd doc a vs ns G Y ho hd hcd hmg X1a hints hlen hg=> ?_
 have KX:=hY w _ Y;obtain⟨fd,hb,hF⟩:=F w mg fa _ KX G.T.g hmg;refine DK KX G.T.g G.T.b G.T.builtins G.T.nolimit hg X1a hints hlen hr G.T.bmain hF hb λp hp=> ?_
 obtain⟨x,hx,e⟩:=aR.mp hp;have z:=N9.mp (hB w) x hx;rw [e] at z;simp only [B8,Option.isNone_iff_eq_none] at z;obtain⟨dd,hdd⟩:=J4.mp z.2;have t:=G0M (c:=p.1) (P:=p.2) G.T KX hdd e;exact⟨t.1,t.2,z.1⟩
def zj:M9->M7
 | .Starred .. =>false
 |_=>true
def Xq {e:M9}{es:G0 M9}{env:Env}(h:zj e=true):P8 (e::es) env=(false,A2 e env)::P8 es env:=by
 cases e<;>first|rfl|cases h
def qac {e:M9}{es:G0 M9}{t:TAD}(ha:QE X e te)(hr:QA X es t)(h:zj e=true:=by rfl):QA X (e::es) (zu te t):=CY ha hr (Xq h)
def JF {α:Type}{xs:G0 α}{i:P1}(h0:0<=i)(h1:i<xs.length): ∃x∈xs,Ċ xs i=some x:=by
 have hk:i.toNat<xs.length:=by omega
 have ek:i=((i.toNat:G5):P1):=by omega
 have z:=zH (G8 hk);rw [<-ek] at z;exact⟨xs[i.toNat],L0 hk,z⟩
variable {h h':HD}{L:G0 D}
def Sub.both (s:Sub h h'):Sub (zF h p L) (zF h' p L):=⟨λa ds e=>(by
 by_cases q:a=p
 ·subst q;rw [jc] at e ⊢;exact e
 ·rw [wm q] at e ⊢;exact s a ds e),s.dc⟩
def Sub.newAt (s:Sub h h')(e:h' p=none):Sub h (zF h' p L):=s.trans (.new e)
structure ì (p:G9)(h h':HD):Prop where
 ls: ∀a ds,a≠p->h a=some ds->h' a=some ds
 dc: ∀a c,h.dc a=some c->h'.dc a=some c
instance {p:G9}{h h':HD}:CoeFun (ì p h h') λ_=> ∀a ds,a≠p->h a=some ds->h' a=some ds:=⟨ì.ls⟩
def ì.refl (p:G9)(h:HD):ì p h h:=⟨λ_ _ _ e=>e,λ_ _ e=>e⟩
variable {q:G9}
def ì.new (s:ì p h h')(e:h' q=none):ì p h (zF h' q L):=⟨λa ds n z=>(by
 have:=s a ds n z;rw [wm (λw=>by subst w;rw [e] at this;cases this)];exact this),s.dc⟩
def ì.put (s:ì p h h'):ì p h (zF h' p L):=⟨λa ds n z=>(by rw [wm n];exact s a ds n z),s.dc⟩
def ì.putNew (s:ì p h h')(e:h q=none):ì p h (zF h' q L):=⟨λa ds n z=>(by
 rw [wm (λw=>by subst w;rw [e] at z;cases z)];exact s a ds n z),s.dc⟩
def ì.sub (s:ì p h h')(e:h' p=some L):Sub (zF h p L) h':=⟨λa ds z=>(by
 by_cases q:a=p
 ·subst q;rw [jc] at z;cases z;exact e
 ·rw [wm q] at z;exact s a ds q z),s.dc⟩
def ì.upd:ì p h (zF h p L):=⟨λa ds n z=>(by rw [wm n];exact z),λ_ _ e=>e⟩
def jp (e:h p=some L)(f:h q=none):q≠p:=λz=>by subst z;rw [e] at f;cases f
def je {M:G0 D}(e:h p=some L)(f:h q=none):zF h q M p=some L:=by rw [wm (λz=>by subst z;rw [e] at f;cases f)];exact e
def jh {a b:G9}{M:G0 D}(n:b≠a)(e:h b=some M):zF h a L b=some M:=by rw [wm n];exact e
def ZW {n:G5}{i:G5}{d:D}(h:((P4 n).map λ(k:G5)=>D.int (k:P1))[i]? =some d):i<n/\d= .int i:=by
 rw [P7] at h
 by_cases hi:i<n
 ·rw [A8 hi] at h;cases h;exact⟨hi,rfl⟩
 ·rw [O8 (by simpa using hi)] at h;cases h
variable {E:EndsD}{σ:SD}
def jg {t u:TSD}(V:SD->HD->Prop)(first: ∀K:SD->HD->Prop,(∀IO h',V IO h'->K IO h')->t {E with nx:=K} σ h)(rest: ∀IO h',V IO h'->u E IO h'):vp t u E σ h:=first (u E) rest
def YT (b:ì p h h')(e:h' q=none)(n:q≠p):h q=none:=by
 cases z:h q with
 |none=>rfl
 |some ds=>rw [b q ds n z] at e;cases e
def Nxt (E:EndsD)(V:SD->HD->Prop):EndsD:= {E with nx:=λĉ h3=> ∃h4,Sub h4 h3/\V ĉ h4,ct:=λĉ h3=> ∃h4,Sub h4 h3/\V ĉ h4,bk:=E.nx}
variable {h1:HD}
def zT {ta:TAD}{g:TGD}{tb:TSD}(n:G5)(W:G5->SD->HD->Prop)(hn:n<1000000)
 (ht: ∀R:G0 D->HD->Prop,R [.int (n:P1)] h1->ta σ h R)(w0:W 0 σ h1)(done: ∀IO h',W n IO h'->E.nx IO h')
 (turn: ∀i IO h',i<n->W i IO h'->g (.int (i:P1)) IO h' λá h2=>tb (Nxt E λĉ h4=>i+1<=n/\W (i+1) ĉ h4) á h2):AG (iR1 ta) g tb E σ h:=by
 refine ht _ ⟨(n:P1),rfl,by omega,by omega,n,λi IO h'=>i<=n/\W i IO h',⟨N3 _,w0⟩,?_⟩;rintro i IO h' ⟨hi,w⟩;refine⟨_,rfl,by simp,λhl=> ?_,λd hd=> ?_⟩
 ·have:i=n:=by simp at hl;omega
  subst this;exact done _ _ w
 ·obtain⟨â,e⟩:=ZW hd;have hi2:i<n:=by omega
  subst e;exact turn i IO h' hi2 w
def yN {ti:TID}{g:TGD}{tb:TSD}{j:İ}(ds:G0 D)(W:G5->SD->HD->Prop)
 (ht: ∀R:İ->HD->Prop,R j h1->ti σ h R)(hj: ∀i IO h',W i IO h'->j h'=some ds)(w0:W 0 σ h1)(done: ∀IO h',W ds.length IO h'->E.nx IO h')
 (turn: ∀i d IO h',ds[i]? =some d->W i IO h'->g d IO h' λá h2=>tb (Nxt E λĉ h4=>i+1<=ds.length/\W (i+1) ĉ h4) á h2):AG ti g tb E σ h:=by
 refine ht _ ⟨ds.length,λi IO h'=>i<=ds.length/\W i IO h',⟨N3 _,w0⟩,?_⟩;rintro i IO h' ⟨hi,w⟩;refine⟨ds,hj i IO h' w,P3 _,λhl=> ?_,λd hd=>turn i d IO h' hd w⟩;have:i=ds.length:=by omega
 subst this;exact done _ _ w
def VW {g:TGD}{tb:TSD}{j:İ}(ds:G0 D)(W:G5->SD->HD->Prop)
 (hj: ∀i IO h',W i IO h'->j h'=some ds)(w0:W 0 σ h1)(done: ∀IO h',W ds.length IO h'->E.nx IO h')
 (turn: ∀i d IO h',ds[i]? =some d->W i IO h'->g d IO h' λá h2=>tb (Nxt E λĉ h4=>i+1<=ds.length/\W (i+1) ĉ h4) á h2):
 ∃ (n:G5) (W:G5->SD->HD->Prop),W 0 σ h1/\ ∀i IO h',W i IO h'-> ∃ds,j h'=some ds/\ds.length<=n/\(ds.length<=i->E.nx IO h')/\
  ∀d,ds[i]? =some d->g d IO h' λá h2=>tb {E with nx:=λĉ h3=> ∃h4,Sub h4 h3/\W (i+1) ĉ h4,ct:=λĉ h3=> ∃h4,Sub h4 h3/\W (i+1) ĉ h4,bk:=E.nx} á h2:=by
 refine⟨ds.length,λi IO h'=>i<=ds.length/\W i IO h',⟨N3 _,w0⟩,?_⟩;rintro i IO h' ⟨hi,w⟩;refine⟨ds,hj i IO h' w,P3 _,λhl=> ?_,λd hd=>turn i d IO h' hd w⟩;have:i=ds.length:=by omega
 subst this;exact done _ _ w
def Ed {i:G5}{js:G0 G5}{ta:TAD}{Q:KD}(n:G5)(W:G5->G0 D->HD->Prop)(hn:n<=1000)(ht: ∀R:G0 D->HD->Prop,R [.int (n:P1)] h1->ta σ h R)
 (w0:W 0 [] h1)(wl: ∀k ys h',W k ys h'->ys.length=k)(turn: ∀k ys h',k<n->W k ys h'->te ((jJ js σ).set i (some (.int (k:P1)))) h' λy h4=> ∃h5,Sub h5 h4/\(k+1<=n/\W (k+1) (ys++ [y]) h5))
 (done: ∀ys h',W n ys h'-> ∀p,h' p=none->Q (.lst p) (zF h' p ys)):yV (bN i) js (iR1 ta) Ye te σ h Q:=by
 refine ht _ ⟨(n:P1),rfl,by omega,by omega,n,λk ys h'=>k<=n/\W k ys h',⟨N3 _,w0⟩,?_⟩;rintro k ys h' ⟨hk,w⟩;refine⟨by rw [wl k ys h' w];exact S6 (jw (by omega)),_,rfl,by simp,λhl p hp=> ?_,λd hd=>⟨_,rfl,?_⟩⟩
 ·have:k=n:=by simp at hl;omega
  subst this;exact done ys h' w p hp
 ·obtain⟨â,e⟩:=ZW hd;subst e;unfold Ye;dsimp only;rw [R8 rfl];exact turn k ys h' (by omega) w
end L2
namespace L2
open PySem PySem.Spec PyProof.Rows PySem.SeqAt
mutual
def ė (h:HD):D->aV->Prop
 |d,.none=>d= .non
 |d,.bool b=>d= .bl b
 |d,.int i=>d= .int i
 |d,.str x=>d= .str x
 |d,.tuple ps=> ∃ds,d= .tup ds/\Ĝ h ds ps
 |d,.list ps=> ∃a ds,d= .lst a/\h a=some ds/\Ĝ h ds ps
 |_,.dict _=>False
def Ĝ (h:HD):G0 D->G0 aV->Prop
 |ds,[]=>ds= []
 |ds,p::ps=> ∃d r,ds=d::r/\ė h d p/\Ĝ h r ps
end
section
variable {X:Cx}{ID:G0 (G9×Obj)}{σ:St}{H:Hp}{s:G3}{h:HD}
mutual
theorem zk (I:Inv X ID σ H s)(rh:Ä X.K h H): ∀ {p:aV} {d:D} {v:V} {u:G1},ė h d p->É X.K H d v->RelV v u-> ∃as,Reads s.heap u p as
 | .none,d,v,u,t,r,ru=>by cases (show d= .non from t);cases (show v= .non from r);cases (show u= .none from ru);exact⟨[],.none⟩
 | .bool b,d,v,u,t,r,ru=>by cases (show d= .bl b from t);cases (show v= .bl b from r);cases (show u= .bool b from ru);exact⟨[],.bool b⟩
 | .int i,d,v,u,t,r,ru=>by cases (show d= .int i from t);cases (show v= .int i from r);obtain⟨k,rfl⟩:=(show ∃t,u=fN i t from ru);exact⟨[],.int i k⟩
 | .str x,d,v,u,t,r,ru=>by cases (show d= .str x from t);cases (show v= .str x from r);obtain⟨k,rfl⟩:=(show ∃t,u=oG x t from ru);exact⟨[],.str x k⟩
 | .tuple ps,d,v,u,t,r,ru=>by
  obtain⟨ds,e,ts⟩:=(show ∃ds,d= .tup ds/\Ĝ h ds ps from t);subst e;obtain⟨a,vs,e,hH,rs⟩:=(show ∃a vs,v= .ref a/\H a=some (.tup vs)/\À X.K H ds vs from r);subst e;cases (show u= .ref a from ru);obtain⟨its,rv,ht,_⟩:=I.tuple (å.of hH);obtain⟨o,ho,hc,n,hd⟩:=ht;obtain⟨as,q⟩:=Ĩ I rh ts rs rv;exact⟨as,.tuple ho hc hd q⟩
 | .list ps,d,v,u,t,r,ru=>by
  obtain⟨a,ds,e,ha,ts⟩:=(show ∃a ds,d= .lst a/\h a=some ds/\Ĝ h ds ps from t);subst e;obtain⟨vs,hH,rs⟩:=rh a ds ha;have e:v= .ref a:=r.1;subst e;cases (show u= .ref a from ru);obtain⟨its,rv,pl,_⟩:=I.list (í.of hH);obtain⟨o,ho,hc,n,hd⟩:=pl.isList;obtain⟨as,q⟩:=Ĩ I rh ts rs rv;exact⟨a::as,.list ho hc hd q⟩
 | .dict _,_,_,_,t,_,_=>(show False from t).elim
theorem Ĩ (I:Inv X ID σ H s)(rh:Ä X.K h H): ∀ {ps:G0 aV} {ds:G0 D} {vs:G0 V} {us:G0 G1},Ĝ h ds ps->À X.K H ds vs->Æ vs us-> ∃as,ReadsAll s.heap us ps as
 | [],ds,vs,us,t,r,rv=>by
  cases (show ds= [] from t);cases (show vs= [] from r);cases rv;exact⟨[],.nil⟩
 |p::ps,ds,vs,us,t,r,rv=>by
  obtain⟨d,dr,e,t1,t2⟩:=(show ∃d r,ds=d::r/\ė h d p/\Ĝ h r ps from t);subst e;obtain⟨v,vr,e,r1,r2⟩:=(show ∃v r,vs=v::r/\É X.K H d v/\À X.K H dr r from r);subst e;cases rv with
  |cons ru rt=>
   obtain⟨as,q1⟩:=zk I rh t1 r1 ru;obtain⟨bs,q2⟩:=Ĩ I rh t2 r2 rt;exact⟨as++bs,.cons q1 q2⟩
end
end
def eqE:RD2:=λx y h Q=>match x,y with
 | .int i,.int j=>Q (.bl (decide (i=j))) h
 | .bl i,.bl j=>Q (.bl (decide (i=j))) h
 | .str i,.str j=>Q (.bl (decide (i=j))) h
 |x,y=> ∃p q,ė h x p/\ė h y q/\shaped p=true/\shaped q=true/\Q (.bl (O5 p q)) h
def neE:RD2:=λx y h Q=>match x,y with
 | .int i,.int j=>Q (.bl (!decide (i=j))) h
 | .bl i,.bl j=>Q (.bl (!decide (i=j))) h
 | .str i,.str j=>Q (.bl (!decide (i=j))) h
 |x,y=> ∃p q,ė h x p/\ė h y q/\shaped p=true/\shaped q=true/\Q (.bl (!O5 p q)) h
section
variable {X:Cx}
def eqG:RD2:=λx y h Q=> ∃p q,ė h x p/\ė h y q/\shaped p=true/\shaped q=true/\Q (.bl (O5 p q)) h
def neG:RD2:=λx y h Q=> ∃p q,ė h x p/\ė h y q/\shaped p=true/\shaped q=true/\Q (.bl (!O5 p q)) h
def Ee (hu:X.A.units+64<cLine):ó X (F7 .Eq) eqG:=by
 intro ID s σ H x y v u Q I rx ry h;obtain⟨dx,dy,h,Qd,r1,r2,rh,⟨p,q,t1,t2,s1,s2,qq⟩,post⟩:=h;obtain⟨as,a1⟩:=zk I rh t1 r1 rx;obtain⟨bs,b1⟩:=zk I rh t2 r2 ry;exact compareEq_shaped a1 b1 s1 s2 hu ⟨.bl _,H,I,rfl,post (.bl _) _ _ _ (.refl H) rh rfl qq⟩
def Ef (hu:X.A.units+64<cLine):ó X (F7 .NotEq) neG:=by
 intro ID s σ H x y v u Q I rx ry h;obtain⟨dx,dy,h,Qd,r1,r2,rh,⟨p,q,t1,t2,s1,s2,qq⟩,post⟩:=h;obtain⟨as,a1⟩:=zk I rh t1 r1 rx;obtain⟨bs,b1⟩:=zk I rh t2 r2 ry;exact compareNe_shaped a1 b1 s1 s2 hu ⟨.bl _,H,I,rfl,post (.bl _) _ _ _ (.refl H) rh rfl qq⟩
def ó.or' {f:G1->G1->Sem G1}{r r' r2:RD2}(h:ó X f r)(h':ó X f r')(i: ∀x y hh Q,r2 x y hh Q->r x y hh Q\/r' x y hh Q):ó X f r2:=λID s σ H x y v u Q I rx ry ⟨dx,dy,hd,Qd,r1,r2',rh,q,p⟩=>
 (i dx dy hd Qd q).elim (λz=>h ID s σ H x y v u Q I rx ry ⟨dx,dy,hd,Qd,r1,r2',rh,z,p⟩) λz=>h' ID s σ H x y v u Q I rx ry ⟨dx,dy,hd,Qd,r1,r2',rh,z,p⟩
def VX (hu:X.A.units+64<cLine):ó X (F7 .Eq) eqE:=ê.or' (Ee hu) λx y h Q q=>by
 unfold eqE at q;split at q
 ·exact .inl q
 ·exact .inl q
 ·exact .inl q
 ·exact .inr q
def Qj (hu:X.A.units+64<cLine):ó X (F7 .NotEq) neE:=ë.or' (Ef hu) λx y h Q q=>by
 unfold neE at q;split at q
 ·exact .inl q
 ·exact .inl q
 ·exact .inl q
 ·exact .inr q
end
end L2
namespace L2
open PySem PySem.Spec PyProof.Rows
theorem Zc: ∀ {ns:G0 P1} {us:G0 G1},Æ (ns.map V.int) us->W0 us ns
 | [],_,r=>by cases r;exact .nil
 |n::ns,_,r=>by
  cases r with
  |cons r t=>obtain⟨k,rfl⟩:=r;exact .cons n k (Zc t)
theorem VY: ∀ {ns:G0 P1} {us:G0 G1},W0 us ns->Æ (ns.map V.int) us
 |_,_,.nil=> .nil
 |_,_,.cons n t r=> .cons ⟨t,rfl⟩ (VY r)
theorem jX {K:G6}{H:Hp}: ∀ {ns:G0 P1} {vs:G0 V},À K H (ns.map D.int) vs->vs=ns.map V.int
 | [],_,h=>h
 |n::ns,vs,h=>by
  obtain⟨v,r,e,h1,h2⟩:=(show ∃v r,vs=v::r/\É K H (.int n) v/\À K H (ns.map D.int) r from h);rw [e,jX h2,(show v= .int n from h1)];rfl
def HU (to ti te:TED):TED:=λσ h Q=>to σ h λx h1=> ∃a,x= .lst a/\ti σ h1 λi h2=>te σ h2 λy h3=> ∃ (k:G5) (xs:G0 D),i= .int (k:P1)/\k<=1000/\h3 a=some xs/\xs.length<sizeLine/\Q .non (zF h3 a (xs.take k++y::xs.drop k))
variable {X:Cx}
def DL:MtM X "list.insert" (λx vs H Q=> ∃ (l:G9) (xs:G0 V) (k:G5) (y:V),x= .ref l/\vs= [.int (k:P1),y]/\H l=some (.lst xs)/\k<=1000/\xs.length<sizeLine/\Q .non (upd H l (.lst (xs.take k++y::xs.drop k)))):=by
 intro ID s σ H x vs v us Q I rx rv h;obtain⟨l,xs,k,y,rfl,rfl,hH,hk,hz,q⟩:=h;cases rx;obtain⟨u,w',rfl,⟨t,rfl⟩,ry⟩:=PZ rv;obtain⟨z,its,n,r,hl,e⟩:=I.lstM hH;have X0V: ¬ (!kK (k:P1))=true:=by rw [tG (by omega) (by omega)];exact R3
 have hsz:its.toArray.size<=sizeLine:=by rw [S0];omega
 generalize har:its.toArray=ar at e hsz;obtain⟨kk,hkk⟩: ∃kk:P1,kk=(k:P1):=⟨_,rfl⟩;rw [<-hkk] at X0V ⊢;refine gW F.slot_list_insert ⟨_,e,rfl⟩ F.entry_list_insert (F.args_list_insert_3 _ _ _) (AutoListH.list_insert_list_int_val_1 l ar n kk t w' X0V hsz) ⟨e,?_⟩;subst har hkk;refine⟨.non,_,I.lset (its':=its.take k++w'::its.drop k) hH e ?_ ((r.take k).append (.cons ry (r.drop k))) ?_,rfl,q⟩
 ·have hk0: ¬ ((k:P1)<0):=by omega
  simp only [hk0,mC,V3,S0];have e1:its.take (min k its.length)=its.take k:=by
   by_cases hh:k<=its.length
   ·rw [aD hh]
   ·rw [rC (by omega),dO,N2 (by omega)]
  have e2:its.drop (min k its.length)=its.drop k:=by
   by_cases hh:k<=its.length
   ·rw [aD hh]
   ·rw [rC (by omega),List.drop_length,List.drop_of_length_le (by omega)]
  have e3:(its.drop k).take (its.length-min k its.length)=its.drop k:=N2 (by rw [C5];omega);apply Array.ext';simp only [L5,K5,List.extract_toArray,V0,nZ,xN];rw [e1,e2,e3,D4];rfl
 ·rw [D0,R1,N0,C5];omega
section
variable {X:Cx}{o e i:M9}{to te ti:TED}{apos cpos:Pos}
def KS (ho:QE X o to)(hi:QE X i ti)(he:QE X e te)(hbase:b7 o "insert" X.env (A2 o X.env)=A2 o X.env:=by rfl)
 (hfew:((E1 cpos (P8 [i,e] X.env)).all (λx=> !x.1)&&(j9 cpos (dG [] X.env)).all (λx=>x.1.isSome)&&decide ([i,e].length+([]:G0 cL).length+(if ([]:G0 cL).isEmpty then 0 else 1)<30))=true:=by rfl)
 (hline:(apos.endLine==cpos.line)=true:=by rfl)(hs:P8 [i,e] X.env=(false,A2 i X.env)::P8 [e] X.env:=by rfl)(hs2:P8 [e] X.env=(false,A2 e X.env)::P8 [] X.env:=by rfl)(hplain:(E1 cpos (P8 [e] X.env)).any (·.1)=false:=by rfl):
 QE X (.Call (.Attribute o "insert" apos) [i,e] [] cpos) (HU to ti te):=
 (MT cC uW u0 DL ho (zA hi (zA he ð hs2) hs) hbase hfew hline hs hplain).imp
  λσ H Q ⟨Â,h,Qd,rs,rh,t,p⟩=>LE.bind rs rh t λd v h1 H1 k1 Ö Ê r1 ⟨a,e,q⟩=>by
   subst e;obtain⟨e1,vs,hH⟩:=(show v= .ref a/\ ∃vs,H1 a=some (.lst vs) from r1);subst e1;refine⟨.inl ⟨rfl,vs,í.of hH⟩,?_⟩;refine LE.bind Ö Ê q λdi vi h2 H2 k2 Ŀ î r2 q2=>LE.bind Ŀ î q2 λy u h3 H3 k3 rs3 ě r3 ⟨k,xs,ei,hk,hx,hz,q3⟩=> ?_
   subst ei;have ev:vi= .int (k:P1):=r2;obtain⟨ws,hW,r4⟩:=ě a xs hx;refine⟨a,ws,k,u,rfl,by rw [ev],hW,hk,by rw [<-r4.length];exact hz,p .non _ _ _ (k1.trans (k2.trans (k3.trans (.put hW)))) (ě.put hW ((r4.take k).append (.cons r3 (r4.drop k)))) rfl q3⟩
end
structure JE (X:Cx)(e:M9)(t:TED):Prop where
 to:QE X e t
structure JT (X:Cx)(e:M9)(t:TTD):Prop where
 to:QT X e t
structure JW (X:Cx)(e:M9)(t:TTD):Prop where
 to:QW X e t
structure JA (X:Cx)(e:G0 M9)(t:TAD):Prop where
 to:QA X e t
structure JS (X:Cx)(e:A6)(t:TSD):Prop where
 to:QS X e t
structure ŀ (X:Cx)(e:G0 A6)(t:TSD):Prop where
 to:QSs X e t
structure JG (X:Cx)(e:M9)(t:TGD):Prop where
 to:QG X e t
structure JI (X:Cx)(tg e:M9)(t:TID):Prop where
 to:QI X tg e t
structure JO (X:Cx)(e:P5 M9)(t:TOD):Prop where
 to:QO X e t
section
variable {X:Cx}{a b c e:M9}{es rest:G0 M9}{ta tb tc te:TED}{t u:TAD}{tt tu:TTD}{pos:Pos}{f r r':RD2}
def jv (i:G5){x:Str}(hN:X.N[i]? =some x:=by rfl)(hv:Vis X.env.scope x:=by first|exact K9 rfl|exact bG (K9 rfl)|exact bG (bG rfl))(hd:(x==("__debug__" :Str))=false:=by decide)(hcd:(x==("__classdict__" :Str))=false:=by decide):JE X (.Name x pos) (Ds i):=⟨qv (i:=i) (hN:=hN) (hv:=hv) (hd:=hd) (hcd:=hcd)⟩
def ju {i:P1}{j:G5}:JE X (.Constant (.int i) j pos) (dC (.int i)):=⟨Ks⟩
def ŝ {i:M7}{j:G5}:JE X (.Constant (.bool i) j pos) (dC (.bl i)):=⟨qbl⟩
def Yg {x:Str}{j:G5}:JE X (.Constant (.str x) j pos) (dC (.str x)):=⟨Kt⟩
def TR {x:Str}{i:P1}{tk:Tok}(hg:Gl X x)(hm:X.mg x=some (.int i tk))(hd:(x==("__debug__" :Str))=false:=by decide):JE X (.Name x pos) (dC (.int i)):=⟨Tj (hg:=hg) (hm:=hm) (hd:=hd)⟩
def ç {op:pR}(ho:ó X (V6 op) f)(ha:JE X a ta)(hb:JE X b tb):JE X (.BinOp a op b pos) (ľ f ta tb):=⟨qop (ho:=ho) (ha:=ha.to) (hb:=hb.to)⟩
def KU {op:iQ}(ho:ó X (F7 op) f)(ha:JE X a ta)(hb:JE X b tb)(hm:U3 op b=false):JE X (.Compare a [op] [b] pos) (ľ f ta tb):=⟨Ku (ho:=ho) (ha:=ha.to) (hb:=hb.to) (hm:=hm)⟩
def Gw {op:iQ}(ho:ó X (F7 op) f)(ha:JE X a ta)(hb:JE X b tb)(hm:U3 op b=false):JT X (.Compare a [op] [b] pos) (JD (ľ f ta tb)):=⟨Tk (ho:=ho) (ha:=ha.to) (hb:=hb.to) (hm:=hm)⟩
def Eg {op ĥ:iQ}(ho:ó X (F7 op) r)(ho':ó X (F7 ĥ) r')(ha:JE X a ta)(hb:JE X b tb)(hc:JE X c tc)(hm:lW [op,ĥ] [b,c]=false:=by with_unfolding_all rfl):JE X (.Compare a [op,ĥ] [b,c] pos) (ZV r r' ta tb tc):=⟨Aw (ho:=ho) (ho':=ho') (ha:=ha.to) (hb:=hb.to) (hc:=hc.to) (hm:=hm)⟩
def DM {op ĥ:iQ}(ho:ó X (F7 op) r)(ho':ó X (F7 ĥ) r')(ha:JE X a ta)(hb:JE X b tb)(hc:JE X c tc)(hm:lW [op,ĥ] [b,c]=false:=by with_unfolding_all rfl):JT X (.Compare a [op,ĥ] [b,c] pos) (JD (ZV r r' ta tb tc)):=⟨CV (ho:=ho) (ho':=ho') (ha:=ha.to) (hb:=hb.to) (hc:=hc.to) (hm:=hm)⟩
def wA (ha:JE X a ta)(he: ∀whole,isTrue a X.env whole=(do let v <-whole;hO a.pos;aZ [v] (qV v)):=by intro _;rfl):JT X a (JD ta):=⟨Tl (ha:=ha.to) (he:=he)⟩
def Gx (ha:JT X a tt):JW X (.BoolOp .And [a] pos) tt:=⟨Tn (ha:=ha.to)⟩
def MC (ha:JT X a tt):JW X (.BoolOp .Or [a] pos) tt:=⟨Kv (ha:=ha.to)⟩
def Xr (ha:JT X a tt)(hb:JW X (.BoolOp .And (b::rest) pos) tu):JW X (.BoolOp .And (a::b::rest) pos) (CP tt tu):=⟨To (ha:=ha.to) (hb:=hb.to)⟩
def Gy (ha:JT X a tt)(hb:JW X (.BoolOp .Or (b::rest) pos) tu):JW X (.BoolOp .Or (a::b::rest) pos) (Am tt tu):=⟨Kw (ha:=ha.to) (hb:=hb.to)⟩
def wT (ha:JT X a tt):JT X (.UnaryOp .Not a pos) (Dt tt):=⟨Tp (ha:=ha.to)⟩
def MD {op:BoolOp}(ha:JE X a ta):JE X (.BoolOp op [a] pos) ta:=⟨Kx (ha:=ha.to)⟩
def Fu (ha:JE X a ta)(hb:JE X (.BoolOp .And (b::rest) pos) tb):JE X (.BoolOp .And (a::b::rest) pos) (Du ta tb):=⟨Ky (ha:=ha.to) (hb:=hb.to)⟩
def jor (ha:JE X a ta)(hb:JE X (.BoolOp .Or (b::rest) pos) tb):JE X (.BoolOp .Or (a::b::rest) pos) (Tf ta tb):=⟨qor (ha:=ha.to) (hb:=hb.to)⟩
def HV (ha:JE X a ta):JE X (.UnaryOp .Not a pos) (Dv ta):=⟨Kz (ha:=ha.to)⟩
def jif {c:M9}(hc:JT X c tt)(ha:JE X a ta)(hb:JE X b tb):JE X (.IfExp c a b pos) (dIf tt ta tb):=⟨qif (hc:=hc.to) (ha:=ha.to) (hb:=hb.to)⟩
def zO:JA X [] WF:=⟨Ax⟩
def VE {k:G5}(h:JA X es t):JE X (.Tuple es k pos) (Sy t):=⟨KA (h:=h.to)⟩
def JH (h:JA X es t):JE X (.List es pos) (Al t):=⟨KB (h:=h.to)⟩
end
section
variable {X:Cx}{st:A6}{sts:G0 A6}{t u:TSD}{e:M9}{te:TED}{pos:Pos}
def Qk:ŀ X [] Xn:=⟨AD⟩
def jH (h1:JS X st t)(h2:ŀ X sts u):ŀ X (st::sts) (vp t u):=⟨Fe (h1:=h1.to) (h2:=h2.to)⟩
def jE (h1:JS X st t):ŀ X [st] t:=⟨AE (h1:=h1.to)⟩
def WL (he:JE X e te)(hs:aQ e none pos.line X.env=pure false:=by rfl):JS X (.Expr e pos) (CZ te):=⟨Tt (he:=he.to) (hs:=hs)⟩
def wj (he:JE X e te):JS X (.Return (some e) pos) (Pz te):=⟨KC (he:=he.to)⟩
def On {c:M9}{a b:G0 A6}{tc:TTD}(hc:JT X c tc)(ha:ŀ X a t)(hb:ŀ X b u):JS X (.If c a b pos) (Fa tc t u):=⟨KG (hc:=hc.to) (ha:=ha.to) (hb:=hb.to)⟩
variable {i:G5}{x:Str}
def HW {pos':Pos}(hN:X.N.Nodup)(hi:X.N[i]? =some x)(hx:Loc X.env.scope x)(he:JE X e te)(hs:aQ e (some (.Name x pos')) pos.line X.env=pure false:=by rfl)(hf:X.fn x=true\/X.env.scope.names.lookup x=some .local:=by first|exact .inl rfl|exact .inr rfl|assumption):JS X (.Assign [.Name x pos'] e pos) (BG i te):=⟨KH (hN:=hN) (hi:=hi) (hx:=hx) (he:=he.to) (hs:=hs) (hf:=hf)⟩
def Fv (hN:X.N.Nodup)(hi:X.N[i]? =some x)(hx:Loc X.env.scope x)(hf:X.fn x=true\/X.env.scope.names.lookup x=some .local:=by first|exact .inl rfl|exact .inr rfl|assumption):JG X (.Name x pos) (gN i):=⟨Ff (hN:=hN) (hi:=hi) (hx:=hx) (hf:=hf)⟩
def Yh {j:G5}{y:Str}{p1 p2:Pos}{k:G5}(hc:X.calm=true)(hN:X.N.Nodup)(hi:X.N[i]? =some x)(hj:X.N[j]? =some y)(hx:Loc X.env.scope x)(hy:Loc X.env.scope y)(hf:X.fn x=true\/X.env.scope.names.lookup x=some .local:=by first|exact .inl rfl|exact .inr rfl|assumption)(hf2:X.fn y=true\/X.env.scope.names.lookup y=some .local:=by first|exact .inl rfl|exact .inr rfl|assumption):JG X (.Tuple [.Name x p1,.Name y p2] k pos) (gT2 i j):=⟨AF (hc:=hc) (hN:=hN) (hi:=hi) (hj:=hj) (hx:=hx) (hy:=hy) (hf:=hf) (hf2:=hf2)⟩
def Fw {tg:M9}{g:TGD}(he:JE X e te)(hg:JG X tg g)(hs:eI [tg] e pos.line X.env=pure false:=by rfl)(hsw:eJ [tg] e X.env=pure none:=by rfl)(h1:(fI [tg] X.env).map (·.2)= [iI tg X.env]:=by rfl):JS X (.Assign [tg] e pos) (Tq te g):=⟨KI (he:=he.to) (hg:=hg.to) (hs:=hs) (hsw:=hsw) (h1:=h1)⟩
def HX {j:G5}{y:Str}{a b:M9}{ta:TAD}{px py pt:Pos}{kt k2 pt2}(hc:X.calm=true)(hN:X.N.Nodup)(hi:X.N[i]? =some x)(hj:X.N[j]? =some y)(hij:i≠j)(hx:X.env.scope.names.lookup x=some .local)(hy:X.env.scope.names.lookup y=some .local)(ha:JA X [a,b] ta)(hw:eJ [.Tuple [.Name x px,.Name y py] kt pt] (.Tuple [a,b] k2 pt2) X.env=pure (some [x,y]))(hs:eI [.Tuple [.Name x px,.Name y py] kt pt] (.Tuple [a,b] k2 pt2) pos.line X.env=pure false:=by rfl):JS X (.Assign [.Tuple [.Name x px,.Name y py] kt pt] (.Tuple [a,b] k2 pt2) pos) (Tr i j ta):=⟨KJ (hc:=hc) (hN:=hN) (hi:=hi) (hj:=hj) (hij:=hij) (hx:=hx) (hy:=hy) (ha:=ha.to) (hw:=hw) (hs:=hs)⟩
end
section
variable {X:Cx}{tg e iter elt:M9}{te:TED}{ti:TID}{g:TGD}{tb:TSD}{tt:TTD}{pos:Pos}{ta:TAD}{scope:K1}{js:G0 G5}{ifs:G0 M9}
def Fx (he:JE X e te):JI X tg e (iL te):=⟨Fi (he:=he.to)⟩
def TU {p:Pos}{a:M9}(hg:Gl X "range")(hm:X.mg "range" =none)(ha:JA X [a] ta)(hs:P8 [a] X.env= [(false,A2 a X.env)]:=by rfl):JI X tg (.Call (.Name "range" p) [a] [] pos) (iR1 ta):=⟨Tx (hg:=hg) (hm:=hm) (ha:=ha.to) (hs:=hs)⟩
def Yi {body:G0 A6}(hp:oH (R7 X.prog X.w) X.A X.env X.xe)(hc:X.calm=true)(hi:JI X tg iter ti)(hg:JG X tg g)(hb:ŀ X body tb)(hs: ∀x,C8 iter X.env x=pure x:=by intro _;rfl):JS X (.For tg iter body [] pos) (AG ti g tb):=⟨KL (hp:=hp) (hc:=hc) (hi:=hi.to) (hg:=hg.to) (hb:=hb.to) (hs:=hs)⟩
def JJ:ŏ X [] (LT X.K Ye):=Fj
def YU {c:M9}(hc:JT X c tt):ŏ X [c] (LT X.K tt):=Fk (hc:=hc.to)
def jlc {i:G5}{x:Str}{p:Pos}(hc:X.calm=true)(S:Õ X scope js)(hi:JI X (.Name x p) iter ti)(hj:i∈js)(hN:X.N.Nodup)(hx:X.N[i]? =some x)(hl:scope.names.lookup x=some .local\/scope.names.lookup x=some .cell)(ht: ∀X',jx X scope X'->ŏ X' ifs (LT X'.K tt))(he: ∀X',jx X scope X'->JE X' elt te)(hs: ∀x,C8 iter X.env x=pure x:=by intro _;rfl):JE X (.ListComp elt [⟨.Name x p,iter,ifs,0⟩] scope pos) (yV (bN i) js ti tt te):=⟨qlc (hc:=hc) (S:=S) (hi:=hi.to) (hj:=hj) (hN:=hN) (hx:=hx) (hl:=hl) (ht:=ht) (he:=λX' hX=>(he X' hX).to) (hs:=hs)⟩
def KW {i j:G5}{x y:Str}{p1 p2 p3:Pos}{k:G5}(hc:X.calm=true)(S:Õ X scope js)(hi:JI X (.Tuple [.Name x p1,.Name y p2] k p3) iter ti)(hj:i∈js)(hj2:j∈js)(hij:i≠j)(hN:X.N.Nodup)(hx:X.N[i]? =some x)(hy:X.N[j]? =some y)(hl:scope.names.lookup x=some .local\/scope.names.lookup x=some .cell)(hl2:scope.names.lookup y=some .local\/scope.names.lookup y=some .cell)(ht: ∀X',jx X scope X'->ŏ X' ifs (LT X'.K tt))(he: ∀X',jx X scope X'->JE X' elt te)(hs: ∀x,C8 iter X.env x=pure x:=by intro _;rfl):JE X (.ListComp elt [⟨.Tuple [.Name x p1,.Name y p2] k p3,iter,ifs,0⟩] scope pos) (yV (b2 i j) js ti tt te):=⟨KM (hc:=hc) (S:=S) (hi:=hi.to) (hj:=hj) (hj2:=hj2) (hij:=hij) (hN:=hN) (hx:=hx) (hy:=hy) (hl:=hl) (hl2:=hl2) (ht:=ht) (he:=λX' hX=>(he X' hX).to) (hs:=hs)⟩
end
section
variable {X:Cx}{k:G5}{f:G9}{fd:M6}{ps:G0 Str}{ö:RDn}{x:Str}{p pos:Pos}{e:M9}{es:G0 M9}{t:TAD}
def TV (F:È X.prog X.w X.K X.mg X.base Û k f fd ps (æ X.K ö))(hr:Î k X.A)(hg:Gl X x)(hm:X.mg x=some (.ref f))(hk:K8 X.K (.ref f)=true)(hb:Binds X.K fd ps [])(ha:JA X (e::es) t)(hdb:(x==("__debug__" :Str))=false:=by decide)(he:P8 (e::es) X.env=(false,A2 e X.env)::P8 es X.env:=by rfl)(hpl:(E1 pos (P8 es X.env)).any (·.1)=false:=by rfl):JE X (.Call (.Name x p) (e::es) [] pos) (ħ ö t):=⟨Ty (F:=F) (hr:=hr) (hg:=hg) (hm:=hm) (hk:=hk) (hb:=hb) (ha:=ha.to) (hdb:=hdb) (he:=he) (hpl:=hpl)⟩
def yh {id:U5}{r:RDn}(hc:yU X (.builtin id) r)(hg:Gl X x)(hm:X.mg x=none)(hv:Q5 x=some (.builtin id))(ha:JA X (e::es) t)(hn:x≠ "__name__" :=by decide)(hdb:(x==("__debug__" :Str))=false:=by decide)(he:P8 (e::es) X.env=(false,A2 e X.env)::P8 es X.env:=by rfl)(hpl:(E1 pos (P8 es X.env)).any (·.1)=false:=by rfl):JE X (.Call (.Name x p) (e::es) [] pos) (ħ r t):=⟨AK (hc:=hc) (hg:=hg) (hm:=hm) (hv:=hv) (ha:=ha.to) (hn:=hn) (hdb:=hdb) (he:=he) (hpl:=hpl)⟩
def zI {T:U5}{r:RDn}(hc:yU X (.type T) r)(hg:Gl X x)(hm:X.mg x=none)(hv:Q5 x=some (.type T))(ha:JA X (e::es) t)(hn:x≠ "__name__" :=by decide)(hdb:(x==("__debug__" :Str))=false:=by decide)(he:P8 (e::es) X.env=(false,A2 e X.env)::P8 es X.env:=by rfl)(hpl:(E1 pos (P8 es X.env)).any (·.1)=false:=by rfl):JE X (.Call (.Name x p) (e::es) [] pos) (ħ r t):=⟨Fl (hc:=hc) (hg:=hg) (hm:=hm) (hv:=hv) (ha:=ha.to) (hn:=hn) (hdb:=hdb) (he:=he) (hpl:=hpl)⟩
end
section
variable {X:Cx}{iter elt:M9}{te:TED}{ti:TID}{tt:TTD}{pos Ą:Pos}{scope:K1}{js:G0 G5}{ifs:G0 M9}
def VZ {i k:G5}{x y:Str}{p py:Pos}(hc:X.calm=true)(hN:X.N.Nodup)(hk:X.N[k]? =some y)(hy:Loc X.env.scope y)(S:Õ X scope js)(hi:JI X (.Name x p) iter ti)(hj:i∈js)(hx:X.N[i]? =some x)(hl:scope.names.lookup x=some .local\/scope.names.lookup x=some .cell)(ht: ∀X',jx X scope X'->ŏ X' ifs (LT X'.K tt))(he: ∀X',jx X scope X'->JE X' elt te)(hsw:aQ (.ListComp elt [⟨.Name x p,iter,ifs,0⟩] scope pos) (some (.Name y py)) Ą.line X.env=pure true:=by rfl)(hf:X.fn y=true\/X.env.scope.names.lookup y=some .local:=by first|exact .inl rfl|exact .inr rfl|assumption)(hs: ∀x,C8 iter X.env x=pure x:=by intro _;rfl):JS X (.Assign [.Name y py] (.ListComp elt [⟨.Name x p,iter,ifs,0⟩] scope pos) Ą) (BG k (yV (bN i) js ti tt te)):=⟨AL (hc:=hc) (hN:=hN) (hk:=hk) (hy:=hy) (S:=S) (hi:=hi.to) (hj:=hj) (hx:=hx) (hl:=hl) (ht:=ht) (he:=λX' hX=>(he X' hX).to) (hsw:=hsw) (hf:=hf) (hs:=hs)⟩
end
section
variable {X:Cx}{a b e:M9}{ta tb te:TED}{pos p2:Pos}
def jix (ha:JE X a ta)(hb:JE X b tb)(hs:YF b):JE X (.Subscript a b pos) (ľ ixD ta tb):=⟨qix (ha:=ha.to) (hb:=hb.to) (hs:=hs)⟩
end
def Ua {a:M9}{ta:TED}{T:U5}{t:Str}{p p2 pos:Pos}(hT:T∈ ["tuple","int","bool","list","str"])(hg:Gl X "isinstance")(hm:X.mg "isinstance" =none)(hg2:Gl X t)(hm2:X.mg t=none)(hv:Q5 t=some (.type T))(ha:JE X a ta)(hn:t≠ "__name__" :=by decide)(hd:(t==("__debug__" :Str))=false:=by decide)(h1:P8 [a,.Name t p2] X.env=(false,A2 a X.env)::P8 [.Name t p2] X.env:=by rfl)(h2:(E1 pos (P8 [.Name t p2] X.env)).any (·.1)=false:=by rfl):JE X (.Call (.Name "isinstance" p) [a,.Name t p2] [] pos) (dIs T ta):=⟨TJ (hT:=hT) (hg:=hg) (hm:=hm) (hg2:=hg2) (hm2:=hm2) (hv:=hv) (ha:=ha.to) (hn:=hn) (hd:=hd) (h1:=h1) (h2:=h2)⟩
section
variable {X:Cx}{o e i:M9}{to te ti:TED}{apos cpos pos:Pos}
def Oo (ho:JE X o to)(he:JE X e te)(hbase:b7 o "append" X.env (A2 o X.env)=A2 o X.env:=by rfl)(hfew:((E1 cpos (P8 [e] X.env)).all (λx=> !x.1)&&(j9 cpos (dG [] X.env)).all (λx=>x.1.isSome)&&decide ([e].length+([]:G0 cL).length+(if ([]:G0 cL).isEmpty then 0 else 1)<30))=true:=by rfl)(hline:(apos.endLine==cpos.line)=true:=by rfl)(hs:P8 [e] X.env=(false,A2 e X.env)::P8 [] X.env:=by rfl)(hplain:(E1 cpos (P8 [] X.env)).any (·.1)=false:=by rfl):JE X (.Call (.Attribute o "append" apos) [e] [] cpos) (HQ to te):=⟨KP (ho:=ho.to) (he:=he.to) (hbase:=hbase) (hfew:=hfew) (hline:=hline) (hs:=hs) (hplain:=hplain)⟩
def Ub (ho:JE X o to)(hi:JE X i ti)(ha: ∀v,iI (.Subscript o i pos) X.env v=(do
 let ov <-aZ [v] (A2 o X.env)
 let iv <-aZ [v,ov] (A2 i X.env)
 hO pos
 aZ [v,ov,iv] (xJ ov iv v)
 G0m [v,ov,iv] []):=by intro _;rfl):JG X (.Subscript o i pos) (AU to ti):=⟨AV (ho:=ho.to) (hi:=hi.to) (ha:=ha)⟩
end
def Ź {e:M9}{t:TTD}(h:JW X e t):JT X e t:=⟨qpt (h:=h.to)⟩
variable {te:TED}
def DN {e:M9}(he:JE X e te):JO X (some e) (AW te):=⟨Fr (he:=he.to)⟩
def Eh {e:M9}{lo hi:P5 M9}{tl th:TOD}{pos p2:Pos}(he:JE X e te)(hl:JO X lo tl)(hu:JO X hi th):JE X (.Subscript e (.Slice lo hi none p2) pos) (dSl te tl th):=⟨AX (he:=he.to) (hl:=hl.to) (hu:=hu.to)⟩
def TW {a:M9}{ta:TED}{pos:Pos}(ha:JE X a ta):JE X (.UnaryOp .USub a pos) (dUn HS ta):=⟨KR (ha:=ha.to)⟩
def zG {tg e:M9}(he:JE X e te):JI X tg e (iS te):=⟨Eb (he:=he.to)⟩
def Uc {st:A6}:JS X st BL:=⟨Ec⟩
def ĝ {e:M9}{es:G0 M9}{t:TAD}(ha:JE X e te)(hr:JA X es t)(h:zj e=true:=by rfl):JA X (e::es) (zu te t):=⟨qac (ha:=ha.to) (hr:=hr.to) (h:=h)⟩
section
variable {X:Cx}{o e i:M9}{to te ti:TED}{apos cpos:Pos}
def KY (ho:JE X o to)(hi:JE X i ti)(he:JE X e te)(hbase:b7 o "insert" X.env (A2 o X.env)=A2 o X.env:=by rfl)(hfew:((E1 cpos (P8 [i,e] X.env)).all (λx=> !x.1)&&(j9 cpos (dG [] X.env)).all (λx=>x.1.isSome)&&decide ([i,e].length+([]:G0 cL).length+(if ([]:G0 cL).isEmpty then 0 else 1)<30))=true:=by rfl)(hline:(apos.endLine==cpos.line)=true:=by rfl)(hs:P8 [i,e] X.env=(false,A2 i X.env)::P8 [e] X.env:=by rfl)(hs2:P8 [e] X.env=(false,A2 e X.env)::P8 [] X.env:=by rfl)(hplain:(E1 cpos (P8 [e] X.env)).any (·.1)=false:=by rfl):JE X (.Call (.Attribute o "insert" apos) [i,e] [] cpos) (HU to ti te):=⟨KS (ho:=ho.to) (hi:=hi.to) (he:=he.to) (hbase:=hbase) (hfew:=hfew) (hline:=hline) (hs:=hs) (hs2:=hs2) (hplain:=hplain)⟩
end
section
variable {P:S8}{w:B0}{K:G6}{mg:Str->P5 G1}{base:C7}
def Þ.okJ {x qual:Str}{st:A6}{f:G9}{fd:M6}{N ps:G0 Str}{k:G5}{ö:RDn}(F:Þ K x qual st f fd)(S:Á N ps (jd st))(len: ∀ds h Q,ö ds h Q->ds.length=ps.length)
 (tb:TSD)(Ò: ∀ (Ë:G1) (A:T8) (outer:G0 Env) (s:G3) (H:Hp) (E:XK),Î k (A.deeper (Q3 qual (jd st) s.heap.objs.size f Ë))->ŀ (WG Û P w K mg base N qual (jd st) f Ë A outer s H E).nox (jS st) tb)
 (read: ∀ds h Q,ö ds h Q->tb (Xg Q) (jZ N ds) h):È P w K mg base Û (k+1) f fd ps (æ K ö):=F.okD S len tb (λË A outer s H E hr=>(Ò Ë A outer s H E hr).to) read
end
def Jv (r:G0 P1):D:= .tup (r.map D.int)
def jP (T:G0 (G0 P1)):D:= .tup (T.map Jv)
def wU (n:G5)(r:G0 P1):Prop:=r.length=n/\ ∀x∈r,0<=x/\x<=1000000
def Đ (n:G5)(T:G0 (G0 P1)):Prop:=T.length=n/\ ∀r∈T,wU n r
structure Sq (n e:G5)(T:G0 (G0 P1)):Prop where
 len:T.length=n
 row: ∀r∈T,r.length=n
 nn: ∀r∈T,∀x∈r,0<=x
 bit: ∀r∈T,∀x∈r,x<2^e
variable {n:G5}{T:G0 (G0 P1)}
def Đ.sq (g:Đ n T):Sq n 20 T:=⟨g.1,λr hr=>(g.2 r hr).1,λr hr x hx=>((g.2 r hr).2 x hx).1,λr hr x hx=>Int.lt_of_le_of_lt ((g.2 r hr).2 x hx).2 (by decide)⟩
variable {e:G5}
def Sq.mono {f:G5}(h:Sq n e T)(l:e<=f):Sq n f T:=⟨h.len,h.row,h.nn,λr hr x hx=>pH (h.bit r hr x hx) (by
 have:(2:G5)^e<=2^f:=iF (by decide) l;have h2:((2^e:G5):P1)<=((2^f:G5):P1):=by exact_mod_cast this
 simpa using h2)⟩
def Ï (T:G0 (G0 P1))(i j:G5):P1:=(T.getD i []).getD j 0
noncomputable def mkT (n:G5)(f:G5->G5->P1):G0 (G0 P1):=(P4 n).map λi=>(P4 n).map λj=>f i j
def Yj {i j:G5}{f:G5->G5->P1}(hi:i<n)(hj:j<n):Ï (mkT n f) i j=f i j:=by
 unfold Ï mkT;simp [D7,hi,hj]
def zZ {α:Type}(xs:G0 α)(d:α):xs=(P4 xs.length).map λi=>xs.getD i d:=by
 apply rD (by simp);intro i h1 h2;simp [D7,h1]
def Sq.eq_mk (h:Sq n e T):T=mkT n (Ï T):=by
 have h1:=zZ T [];rw [h.len] at h1;unfold mkT
 conv=>lhs;rw [h1]
 apply B6;intro i hi;have â:i<T.length:=by rw [h.len];exact D1.mp hi
 have hr:(T.getD i []).length=n:=by
  rw [D7,G8 â];exact h.row _ (L0 â)
 have h2:=zZ (T.getD i []) 0;rw [hr] at h2;exact h2
def Ni {f g:G5->G5->P1}(h: ∀i j,i<n->j<n->f i j=g i j):mkT n f=mkT n g:=by
 unfold mkT;apply B6;intro i hi;apply B6;intro j hj;exact h i j (D1.mp hi) (D1.mp hj)
def Sq.of_mk {f:G5->G5->P1}(h0: ∀i j,i<n->j<n->0<=f i j)(h1: ∀i j,i<n->j<n->f i j<2^e):Sq n e (mkT n f):=by
 have key: ∀r∈mkT n f,∃i,i<n/\r=(P4 n).map λj=>f i j:=λr hr=>by
  obtain⟨i,hi,e⟩:=S9.mp hr;exact⟨i,D1.mp hi,e.symm⟩
 refine⟨by simp [mkT],λr hr=> ?_,λr hr x hx=> ?_,λr hr x hx=> ?_⟩
 ·obtain⟨i,_,e⟩:=key r hr;rw [e];simp
 ·obtain⟨i,hi,e⟩:=key r hr;rw [e] at hx;obtain⟨j,hj,e2⟩:=S9.mp hx;rw [<-e2];exact h0 i j hi (D1.mp hj)
 ·obtain⟨i,hi,e⟩:=key r hr;rw [e] at hx;obtain⟨j,hj,e2⟩:=S9.mp hx;rw [<-e2];exact h1 i j hi (D1.mp hj)
def Sq.ent_nn (h:Sq n e T){i j:G5}(hi:i<n)(hj:j<n):0<=Ï T i j/\Ï T i j<2^e:=by
 have â:i<T.length:=by rw [h.len];exact hi
 have hr:T.getD i []=T[i]:=by rw [D7,G8 â];rfl
 have hm:T[i]∈T:=L0 â;have hj':j<T[i].length:=by rw [h.row _ hm];exact hj
 have he:Ï T i j=T[i][j]:=by unfold Ï;rw [hr,D7,G8 hj'];rfl
 rw [he];exact⟨h.nn _ hm _ (L0 hj'),h.bit _ hm _ (L0 hj')⟩
variable {U:G0 (G0 P1)}
def Sq.ext {f:G5}(h:Sq n e T)(g:Sq n f U)(k: ∀i j,i<n->j<n->Ï T i j=Ï U i j):T=U:=by
 rw [h.eq_mk,g.eq_mk];exact Ni k
def zb (n:G5)(f:G5->P1):P1:=((P4 n).map f).sum
def wO (f:G5->P1):zb 0 f=0:=rfl
def jL (n:G5)(f:G5->P1):zb (n+1) f=zb n f+f n:=by
 unfold zb;rw [A5,T7,List.sum_append];simp
variable {f:G5->P1}
def zm {g:G5->P1}(h: ∀k,k<n->f k=g k):zb n f=zb n g:=by
 unfold zb;congr 1;apply B6;intro k hk;exact h k (D1.mp hk)
def YV (h: ∀k,k<n->0<=f k):0<=zb n f:=by
 induction n with
 |zero=>exact Int.le_refl _
 |succ n ih=>rw [jL];have:=ih λk hk=>h k (by omega);have:=h n (by omega);omega
def Nj {b:P1}(h: ∀k,k<n->f k<=b):zb n f<=n*b:=by
 induction n with
 |zero=>simp [wO]
 |succ n ih=>
  rw [jL];have h1:=ih λk hk=>h k (by omega);have h2:=h n (by omega)
  have:((n+1:G5):P1)*b=(n:P1)*b+b:=by rw [sF,Int.add_mul];simp
  omega
def DO (n:G5)(f g:G5->P1):zb n (λk=>f k+g k)=zb n f+zb n g:=by
 induction n with
 |zero=>rfl
 |succ n ih=>rw [jL,jL,jL,ih];omega
def ZX (n:G5)(c:P1)(f:G5->P1):zb n (λk=>c*f k)=c*zb n f:=by
 induction n with
 |zero=>simp [wO]
 |succ n ih=>rw [jL,jL,ih,Int.mul_add]
def Gz (n:G5)(c:P1)(f:G5->P1):zb n (λk=>f k*c)=zb n f*c:=by
 rw [qD,<-ZX];exact zm λk _=>qD _ _
def GA (m n:G5)(f:G5->G5->P1):zb m (λi=>zb n (f i))=zb n (λj=>zb m λi=>f i j):=by
 induction m with
 |zero=>
  rw [wO]
  induction n with
  |zero=>rfl
  |succ n ih=>rw [jL,<-ih,wO];rfl
 |succ m ih=>
  rw [jL,ih,<-DO];exact zm λj _=>(jL m λi=>f i j).symm
def Ud {i:G5}(hi:i<n)(h: ∀k,k<n->k≠i->f k=0):zb n f=f i:=by
 induction n with
 |zero=>omega
 |succ n ih=>
  rw [jL]
  by_cases e:i=n
  ·subst e;have:zb i f=0:=by
    have:zb i f=zb i (λ_=>0*1):=zm λk hk=>by rw [h k (by omega) (by omega)];rfl
    rw [this,ZX];simp
   omega
  ·rw [ih (by omega) λk hk ť=>h k (by omega) ť,h n (by omega) (by omega)];omega
def DP (h: ∀k,k<n->0<=f k):0<zb n f↔ ∃k,k<n/\0<f k:=by
 induction n with
 |zero=>simp [wO]
 |succ n ih=>
  rw [jL];have h1:=YV λk (hk:k<n)=>h k (by omega)
  have h2:=h n (by omega);have ih':=ih λk hk=>h k (by omega)
  constructor
  ·intro z
   by_cases q:0<f n
   ·exact⟨n,by omega,q⟩
   ·obtain⟨k,a,b⟩:=ih'.mp (by omega);exact⟨k,by omega,b⟩
  ·rintro ⟨k,a,b⟩
   by_cases q:k=n
   ·subst q;omega
   ·have:=ih'.mpr ⟨k,by omega,b⟩;omega
def Xh (n:G5)(T U:G0 (G0 P1)):G0 (G0 P1):=mkT n λi j=>zb n λk=>Ï T i k*Ï U k j
def Sq.mul {f:G5}(h:Sq n e T)(g:Sq n f U)(hn:n<=8):Sq n (e+f+3) (Xh n T U):=by
 have nn: ∀i j,i<n->j<n-> ∀k,k<n->0<=Ï T i k*Ï U k j:=λi j hi hj k hk=>tM (h.ent_nn hi hk).1 (g.ent_nn hk hj).1
 refine Sq.of_mk (λi j hi hj=>YV (nn i j hi hj)) λi j hi hj=> ?_
 have hle: ∀k,k<n->Ï T i k*Ï U k j<=2^e*2^f-1:=λk hk=>by
  have a:=h.ent_nn hi hk;have b:=g.ent_nn hk hj;have:Ï T i k*Ï U k j<2^e*2^f:=by
   have p:(0:P1)<2^f:=rS (by decide)
   calc Ï T i k*Ï U k j<=Ï T i k*2^f:=Int.mul_le_mul_of_nonneg_left (xO b.2) a.1
    _<2^e*2^f:=Int.mul_lt_mul_of_pos_right a.2 p
  omega
 have s:=Nj hle;have p:(0:P1)<2^e*2^f:=z6 (rS (by decide)) (rS (by decide));have e1:(2:P1)^(e+f+3)=8*(2^e*2^f):=by rw [z7,z7];rw [qD];rfl
 rw [e1];have hn':(n:P1)<=8:=by omega
 have:(n:P1)*(2^e*2^f-1)<=8*(2^e*2^f-1):=Int.mul_le_mul_of_nonneg_right hn' (by omega);omega
def vw {i j:G5}(hi:i<n)(hj:j<n):Ï (Xh n T U) i j=zb n λk=>Ï T i k*Ï U k j:=Yj hi hj
def DQ (n:G5):G0 (G0 P1):=mkT n λi j=>if i=j then 1 else 0
def Sq.one (n:G5):Sq n 1 (DQ n):=Sq.of_mk (f:=λi j=>if i=j then 1 else 0) (λi j _ _=>by split<;>decide) λi j _ _=>by split<;>decide
def mul_assoc {f g:G5}{V:G0 (G0 P1)}(hT:Sq n e T)(hU:Sq n f U)(hV:Sq n g V)(hn:n<=8):Xh n (Xh n T U) V=Xh n T (Xh n U V):=by
 refine((hT.mul hU hn).mul hV hn).ext (hT.mul (hU.mul hV hn) hn) λi j hi hj=> ?_
 rw [vw hi hj,vw hi hj];have e1:(zb n λk=>Ï (Xh n T U) i k*Ï V k j)=zb n λk=>zb n λl=>Ï T i l*Ï U l k*Ï V k j:=
  zm λk hk=>by rw [vw hi hk,<-Gz]
 have e2:(zb n λl=>Ï T i l*Ï (Xh n U V) l j)=zb n λl=>zb n λk=>Ï T i l*(Ï U l k*Ï V k j):=
  zm λl hl=>by rw [vw hl hj,<-ZX]
 rw [e1,e2,GA];exact zm λl _=>zm λk _=>Int.mul_assoc _ _ _
def Nk (hT:Sq n e T)(hn:n<=8):Xh n (DQ n) T=T:=by
 refine((Sq.one n).mul hT hn).ext hT λi j hi hj=> ?_
 rw [vw hi hj,Ud hi λk hk ť=>by rw [DQ,Yj hi hk,R9 (U6 ť)];simp];rw [DQ,Yj hi hi,R8 rfl];simp
def Nl (hT:Sq n e T)(hn:n<=8):Xh n T (DQ n)=T:=by
 refine(hT.mul (Sq.one n) hn).ext hT λi j hi hj=> ?_
 rw [vw hi hj,Ud hj λk hk ť=>by rw [DQ,Yj hk hj,R9 ť];simp];rw [DQ,Yj hj hj,R8 rfl];simp
def PB (n:G5)(T:G0 (G0 P1)):G5->G0 (G0 P1)
 |0=>DQ n
 |k+1=>Xh n (PB n T k) T
theorem Sq.pow (hT:Sq n e T)(hn:n<=8): ∀k,Sq n (k*(e+3)+1) (PB n T k)
 |0=>(Sq.one n).mono (by omega)
 |k+1=>((Sq.pow hT hn k).mul hT hn).mono (by rw [mS];omega)
structure Ord (n:G5)(o:G0 G5):Prop where
 len:o.length=n
 all: ∀i,i<n->i∈o
def DR {x:P1}(h0:0<=x)(h1:x<2^e):x.natAbs<2^e:=by
 have:((2^e:G5):P1)=2^e:=by simp
 omega
section
variable {α β:Type}{i i':G5}{js:G0 G5}{ti ti':TID}{te:TED}{σ:SD}{h:HD}{Q:KD}{j:İ}
def lcA (xs:G0 α)(c g:α->D)(hz:xs.length<=1000)(hj:j h=some (xs.map c))(ht: ∀R:İ->HD->Prop,R j h->ti σ h R)
 (he: ∀x∈xs,∀Q':KD,Q' (g x) h->te ((jJ js σ).set i (some (c x))) h Q')(hq: ∀p,h p=none->Q (.lst p) (zF h p (xs.map g))):yV (bN i) js ti Ye te σ h Q:=by
 refine ht _ ⟨xs.length,λk ys h'=>h'=h/\ys=(xs.take k).map g,⟨rfl,by simp⟩,?_⟩;rintro k ys h' ⟨rfl,rfl⟩;refine⟨by simp only [G2,N0];exact S6 (jw (by omega)),xs.map c,hj,by simp,λhl p hp=> ?_,λd hd=>⟨_,rfl,?_⟩⟩
 ·rw [N2 (by simpa using hl)];exact hq p hp
 ·unfold Ye;dsimp only;rw [R8 rfl];rw [P7] at hd;cases hx:xs[k]? with
  |none=>rw [hx] at hd;cases hd
  |some x=>
   rw [hx] at hd;cases hd;refine he x (P9 hx) _ ⟨h',Sub.refl _,rfl,?_⟩;rw [E7,hx];simp
def lcF (xs:G0 α)(c g:α->D)(p:α->M7){tt:TTD}(hz:xs.length<=1000)(hj:j h=some (xs.map c))(ht: ∀R:İ->HD->Prop,R j h->ti σ h R)
 (hp: ∀x∈xs,∀Q':M7->HD->Prop,Q' (p x) h->tt ((jJ js σ).set i (some (c x))) h Q')(he: ∀x∈xs,p x=true-> ∀Q':KD,Q' (g x) h->te ((jJ js σ).set i (some (c x))) h Q')(hq: ∀a,h a=none->Q (.lst a) (zF h a ((xs.filter p).map g))):yV (bN i) js ti tt te σ h Q:=by
 refine ht _ ⟨xs.length,λk ys h'=>h'=h/\ys=((xs.take k).filter p).map g,⟨rfl,by simp⟩,?_⟩;rintro k ys h' ⟨rfl,rfl⟩;refine⟨?_,xs.map c,hj,by simp,λhl a ha=> ?_,λd hd=>⟨_,rfl,?_⟩⟩
 ·have:=Q4 p (xs.take k);simp only [G2,N0] at this ⊢;exact S6 (jw (by omega))
 ·rw [N2 (by simpa using hl)];exact hq a ha
 ·rw [P7] at hd;cases hx:xs[k]? with
  |none=>rw [hx] at hd;cases hd
  |some x=>
   rw [hx] at hd;cases hd;refine hp x (P9 hx) _ ?_;cases hb:p x with
   |true=>
    rw [R8 rfl];refine he x (P9 hx) hb _ ⟨h',Sub.refl _,rfl,?_⟩;rw [E7,hx];simp [hb]
   |false=>
    rw [R9 R3];refine⟨h',Sub.refl _,rfl,?_⟩;rw [E7,hx];simp [hb]
def HY (xs:G0 α)(c g:α->D)(hz:xs.length<=1000)(hj:j h=some (xs.map c))(ht: ∀R:İ->HD->Prop,R j h->ti σ h R)
 (he: ∀x∈xs,∀Q':KD,Q' (g x) h->te ((jJ js σ).set i (some (c x))) h Q')(hq:Q (.tup (xs.map g)) h):ħ yZ (zu (yV (bN i) js ti Ye te) WF) σ h Q:=by
 show yV (bN i) js ti Ye te σ h (λx h1=>yZ [x] h1 Q);exact lcA xs c g hz hj ht he λp hp=>(show ∃ys,zF h p (xs.map g) p=some ys/\Q (.tup ys) (YK (zF h p (xs.map g)) p) from ⟨_,jc,by rw [wn hp];exact hq⟩)
def Fy (xs:G0 α)(c g:α->D)(p:α->M7){tt:TTD}(hz:xs.length<=1000)(hj:j h=some (xs.map c))(ht: ∀R:İ->HD->Prop,R j h->ti σ h R)
 (hp: ∀x∈xs,∀Q':M7->HD->Prop,Q' (p x) h->tt ((jJ js σ).set i (some (c x))) h Q')(he: ∀x∈xs,p x=true-> ∀Q':KD,Q' (g x) h->te ((jJ js σ).set i (some (c x))) h Q')(hq:Q (.tup ((xs.filter p).map g)) h):ħ yZ (zu (yV (bN i) js ti tt te) WF) σ h Q:=by
 show yV (bN i) js ti tt te σ h (λx h1=>yZ [x] h1 Q);exact lcF xs c g p hz hj ht hp he λa ha=>(show ∃ys,zF h a ((xs.filter p).map g) a=some ys/\Q (.tup ys) (YK (zF h a ((xs.filter p).map g)) a) from ⟨_,jc,by rw [wn ha];exact hq⟩)
def KZ (xs:G0 α)(c:α->D)(g:α->M7)(hz:xs.length<=1000)(hj:j h=some (xs.map c))(ht: ∀R:İ->HD->Prop,R j h->ti σ h R)
 (he: ∀x∈xs,∀Q':KD,Q' (.bl (g x)) h->te ((jJ js σ).set i (some (c x))) h Q')(hq:Q (.bl (xs.all g)) h):ħ TK (zu (yV (bN i) js ti Ye te) WF) σ h Q:=by
 show yV (bN i) js ti Ye te σ h (λx h1=>TK [x] h1 Q);exact lcA xs c (λx=> .bl (g x)) hz hj ht he λp hp=>⟨p,xs.map g,rfl,by rw [jc,N8];rfl,by rw [wn hp,aN];exact hq⟩
def kc (xs:G0 α)(c:α->D)(g:α->M7)(hz:xs.length<=1000)(hj:j h=some (xs.map c))(ht: ∀R:İ->HD->Prop,R j h->ti σ h R)
 (he: ∀x∈xs,∀Q':KD,Q' (.bl (g x)) h->te ((jJ js σ).set i (some (c x))) h Q')(hq:Q (.bl (xs.any g)) h):ħ TL (zu (yV (bN i) js ti Ye te) WF) σ h Q:=by
 show yV (bN i) js ti Ye te σ h (λx h1=>TL [x] h1 Q);exact lcA xs c (λx=> .bl (g x)) hz hj ht he λp hp=>⟨p,xs.map g,rfl,by rw [jc,N8];rfl,by rw [wn hp,xM];exact hq⟩
end
end L2
namespace L2
open PySem PySem.Spec PyProof.Rows PySem.SeqAt
def TY (j:İ):TID:=λ_ h R=>R j h
def Nm {b:D->SD->SD->Prop}{js:G0 G5}{ti:TID}{tt:TTD}{te:TED}{σ:SD}{h:HD}{Q:KD}(x:ti σ h λj h1=>yV b js (TY j) tt te σ h1 Q):yV b js ti tt te σ h Q:=x
noncomputable def jA (o:G0 G5):D:= .tup (o.map λ(k:G5)=>D.int (k:P1))
def ĩ (n:G5)(o:G0 G5):Prop:=o.Perm (P4 n)
variable {n:G5}
def ĩ.ord {o:G0 G5}(h:ĩ n o):Ord n o:=⟨by rw [h.length_eq,S7],λi hi=>h.mem_iff.mpr (D1.mpr hi)⟩
def WM (o:G0 G5):G0 P1:=o.map λ(k:G5)=>(k:P1)
def Fz (o:G0 G5):jA o= .tup ((WM o).map D.int):=by unfold jA WM;rw [N8];rfl
def ĩ.insert {o:G0 G5}(h:ĩ n o)(k:G5):ĩ (n+1) (o.take k++n::o.drop k):=by
 unfold ĩ;rw [A5];refine mF.trans ?_;rw [N6];exact(G0N n h).trans (List.perm_append_singleton n _).symm
theorem vV (h:HD): ∀ns:G0 P1,Ĝ h (ns.map D.int) (ns.map gY)
 | []=>rfl
 |n::ns=>⟨_,_,rfl,rfl,vV h ns⟩
theorem vx: ∀ns:G0 P1,W6 (ns.map gY)=true
 | []=>rfl
 |n::ns=>by show (aW (.int n)&&_)=true;rw [vx ns];rfl
theorem JK: ∀ns:G0 P1,E4 (ns.map gY)<=1
 | []=>by simp [E4]
 |n::ns=>by
  have:=JK ns;simp only [N4,E4,aO];omega
def ZY (ns:G0 P1):shaped (.list (ns.map .int))=true:=by
 unfold shaped;have h1:aW (.list (ns.map .int))=true:=by simp only [aW];exact vx ns
 have h2:=JK ns;have h3:aO (.list (ns.map .int))<=64:=by simp only [aO];omega
 rw [h1,D3 h3];rfl
def BM (r:G0 P1):aV:= .tuple (r.map .int)
def HZ (T:G0 (G0 P1)):aV:= .tuple (T.map BM)
variable {e:G5}{T:G0 (G0 P1)}
def JL (h:Sq n e T){i:G5}(hi:i<n):Ċ (T.map Jv) (i:P1)=some (Jv (T.getD i [])):=by
 have â:i<T.length:=by rw [h.len];exact hi
 exact zH (by rw [P7,D7,G8 â];rfl)
def Sq.getRow (h:Sq n e T){i:G5}(hi:i<n):T.getD i []∈T:=by
 have â:i<T.length:=by rw [h.len];exact hi
 rw [D7,G8 â];exact L0 â
def JM {r:G0 P1}(h:r.length=n){j:G5}(hj:j<n):Ċ (r.map D.int) (j:P1)=some (.int (r.getD j 0)):=by
 have hj':j<r.length:=by rw [h];exact hj
 exact zH (by rw [P7,D7,G8 hj'];rfl)
theorem pow_add (h:Sq n e T)(hn:n<=8)(a:G5): ∀b,PB n T (a+b)=Xh n (PB n T a) (PB n T b)
 |0=>by rw [show PB n T 0=DQ n from rfl,Nl (h.pow hn a) hn];rfl
 |b+1=>by
  show Xh n (PB n T (a+b)) T=Xh n (PB n T a) (Xh n (PB n T b) T);rw [pow_add h hn a b,mul_assoc (h.pow hn a) (h.pow hn b) h hn]
def FA (h:Sq n e T)(hn:n<=8):PB n T 1=T:=Nk h hn
def Ue {f i j:G5}{U:G0 (G0 P1)}(h:Sq n e T)(g:Sq n f U)(hi:i<n)(hj:j<n):Ï (Xh n T U) i j≠0↔ ∃k,k<n/\Ï T i k≠0/\Ï U k j≠0:=by
 rw [vw hi hj];have nn: ∀k,k<n->0<=Ï T i k*Ï U k j:=λk hk=>tM (h.ent_nn hi hk).1 (g.ent_nn hk hj).1
 have s:=YV nn;have p:=DP nn;constructor
 ·intro z;obtain⟨k,hk,w⟩:=p.mp (by omega);refine⟨k,hk,λq=> ?_,λq=> ?_⟩
  ·rw [q] at w;simp at w
  ·rw [q] at w;simp at w
 ·rintro ⟨k,hk,a,b⟩ z;have c:=(h.ent_nn hi hk).1;have d:=(g.ent_nn hk hj).1;have:0<Ï T i k*Ï U k j:=z6 (by omega) (by omega);have:=p.mpr ⟨k,hk,this⟩;omega
section
variable {prog:S8}{w:B0}{A:T8}{E:G1->G3->Prop}{s:G3}
variable {items:T6 G1}
def DS {it t:G9}{i n:G5}{d1 d2:P5 G9}{s1 s2:T6 (P5 G1)}{P:fU->G3->Prop}(a1:s.heap.get? it=some {cls:= .type "tuple_iterator",dict:=d1,data:= .fields #[.ref t,.int i 0],slots:=s1})(a2:s.heap.get? t=some {cls:= .type "tuple",dict:=d2,data:= .seq items n,slots:=s2})
 (more: ∀x h',items[i]? =some x->h'.IsTupleIter it t (i+1)->O6 it s.heap h'->P (.done (.ret x)) {s with heap:=h'})
 (none_:items[i]? =none->R0 (R7 prog w) A (do n4 (.ref it) 0 .none;bS) P E s):R0 (R7 prog w) A (Builtin.«tuple_iterator.__next__» ⟨[.ref it],[]⟩) P E s:=by
 obtain⟨hp,g,d,tk,os⟩:=s
 wp_walk
 rw [V3];cases hx:items[i]? with
 |none=>exact wpAny_bind (gR (none_ hx))
 |some x=>
  refine wpAny_bind (tN a1 rfl (by simp) (P2 (more x _ hx ⟨_,C9 _ a1 ?_,rfl,?_⟩ (L6 ..))))
  ·rfl
  ·simp [eN,A7]
def ZZ {Q:fU->G3->Prop}(hh:A.handled=none)(hE: ∀h' e,(∀b o,s.heap.get? b=some o->h'.get? b=some o)->(∃o,h'.get? e=some o/\o.cls= .type "StopIteration")->E (.ref e) {s with heap:=h'}):R0 (R7 prog w) A bS Q E s:=by
 obtain⟨hp,g,d,tk,os⟩:=s;unfold bS
 wp_walk
 unfold raiseNew;refine wpAny_bind (wpAny_handled ?_);rw [hh];exact wpAny_bind (P2 (wpAny_throw (hE _ _ (λb o q=>G7 _ (G7 _ q)) ⟨_,S4 _ rfl,rfl⟩)))
def GC {it t:G9}{i:G5}{x:G1}{Q:G1->G3->Prop}(hit:s.heap.IsTupleIter it t i)(ht:s.heap.IsTuple t items)(hx:items[i]? =some x)
 (hQ: ∀h',h'.IsTupleIter it t (i+1)->O6 it s.heap h'->Q x {s with heap:=h'}):R0 (R7 prog w) A (k5 (.ref it)) Q E s:=by
 obtain⟨⟨c,d1,dt,s1⟩,ho,rfl,rfl⟩:=id hit;obtain⟨⟨c2,d2,dt2,s2⟩,ĕ,rfl,nl,rfl⟩:=ht;exact wpAny_bind (Q7 hit.typeIs aX (K2 aX hit.typeIs iW (DS ho ĕ (λy h' e b1 b2=>⟨y,rfl,P2 (by rw [hx] at e;cases e;exact hQ h' b1 b2)⟩) λe=>by rw [hx] at e;cases e) (iM _)))
def va {it t:G9}{i:G5}{Q:G1->G3->Prop}(hh:A.handled=none)(hit:s.heap.IsTupleIter it t i)(ht:s.heap.IsTuple t items)(hx:items[i]? =none)
 (hE: ∀h' e,Heap.ExtBut it s.heap h'->(∃o,h'.get? e=some o/\o.cls= .type "StopIteration")->E (.ref e) {s with heap:=h'}):R0 (R7 prog w) A (k5 (.ref it)) Q E s:=by
 obtain⟨⟨c,d1,dt,s1⟩,ho,rfl,rfl⟩:=id hit;obtain⟨⟨c2,d2,dt2,s2⟩,ĕ,rfl,nl,rfl⟩:=ht;refine wpAny_bind (Q7 hit.typeIs aX (K2 aX hit.typeIs iW (DS ho ĕ (λy h' e b1 b2=>by rw [hx] at e;cases e) λ_=>wpAny_bind (tN ho rfl (by simp) ?_)) (iM _)));exact ZZ (s:= {s with heap:=_}) hh λh' e grown stop=>hE h' e (λb o ne q=>grown b o ((L6 ..).extBut b o ne q)) stop
end
def DT {prog:S8}{w:B0}{A:T8}(hh:A.handled=none)(it t:G9)(ť:t≠it)(items:T6 G1):
 Draws prog w A it [it,t] items.size (λi v=>items[i]? =some v) (λi h=>h.IsTupleIter it t i/\h.IsTuple t items) where
 live:=λ_ _ st=>let ⟨o,ho,_⟩:=st.1;⟨o,ho⟩
 frame:=λ_ _ _ st hk=>⟨st.1.at λo e=>hk it (by simp) o e,st.2.at λo e=>hk t (by simp) o e⟩
 item:=λi s Q E hi st hQ=>GC st.1 st.2 (x:=items[i]) (by simp [hi]) λh' X1T Ħ=>hQ _ h' s.toks (by simp [hi]) ⟨X1T,st.2.extBut Ħ.extBut ť⟩ Ħ
 done:=λs Q E st hE=>va hh st.1 st.2 (by simp) hE
def DU {prog:S8}{w:B0}{A:T8}(hh:A.handled=none)(it t:G9)(items:T6 G1)(n:G5)(hn:items.size<=n):
 Draws prog w A it [it,t] n (λ_ _=>False) (λi h=>i=n/\h.IsTupleIter it t n/\h.IsTuple t items) where
 live:=λ_ _ st=>let ⟨o,ho,_⟩:=st.2.1;⟨o,ho⟩
 frame:=λ_ _ _ st hk=>⟨st.1,st.2.1.at λo e=>hk it (by simp) o e,st.2.2.at λo e=>hk t (by simp) o e⟩
 item:=λi s Q E hi st hQ=>absurd st.1 (M8 hi)
 done:=λs Q E st hE=>va hh st.2.1 st.2.2 (mU hn) hE
section
variable {prog:S8}{w:B0}{A:T8}{E:G1->G3->Prop}{s:G3}
def DV {l:G9}{its:T6 G1}{P:fU->G3->Prop}(at_:s.heap.IsTuple l its)
 (h: ∀h',G0d h' (s.heap.objs.size+1) s.heap.objs.size 0 .none->h'.IsTupleIter s.heap.objs.size l 0->(∀b o,s.heap.get? b=some o->h'.get? b=some o)->P (.done (.ret (.ref (s.heap.objs.size+1)))) {s with heap:=h'}):
 R0 (R7 prog w) A (Builtin.«enumerate.__new__» ⟨[.type "enumerate",.ref l],[]⟩) P E s:=by
 have X1A:=sub_enumerate;obtain⟨⟨c,dd,dt,sl⟩,there,rfl,n,rfl⟩:=id at_;obtain⟨hp,g,d,tk,os⟩:=s;have size: ∀o,(hp.push o).objs.size=hp.objs.size+1:=λo=>gA ..
 have made:=S4 (hp.push {cls:= .type "tuple_iterator",data:= .fields #[.ref l,.int 0 0]}) (o:= {cls:= .type "enumerate",data:= .fields #[.none,.bool false,.ref hp.objs.size,A7 0,.none,.none]}) rfl;have fin:=h _ (by rw [<-size];exact made) ⟨_,G7 _ (S4 _ rfl),rfl,rfl⟩ λb o old=>G7 _ (G7 _ old)
 rw [<-size {cls:= .type "tuple_iterator",data:= .fields #[.ref l,.int 0 0]}] at fin
 wp_walk using eO there
 refine wpAny_stack_any λcalls=>P2 ?_
 split
 case h_1 c _ _ _ _ _=>cases c==V2 "enumerate" <;>(wp_walk using eO there,aU at_;exact fin)
 case h_2=>wp_walk using eO there,aU at_;exact fin
def YW {l:G9}{items:T6 G1}{Q:G1->G3->Prop}(hL:s.heap.IsTuple l items)
 (h: ∀h',G0d h' (s.heap.objs.size+1) s.heap.objs.size 0 .none->h'.IsTupleIter s.heap.objs.size l 0->(∀b o,s.heap.get? b=some o->h'.get? b=some o)->Q (.ref (s.heap.objs.size+1)) {s with heap:=h'}):
 R0 (R7 prog w) A (call (.type "enumerate") [.ref l]) Q E s:=
 callType_new F.called_enumerate (by decide) (F.typeCall_enumerate_1 _) (F.newCall_enumerate_1 _) (λ_=>F.args_object_init_2 _ _) F.entry_enumerate_new
  (S:=λ_ R s=>s.heap.IsTuple l items/\ ∀h',G0d h' (s.heap.objs.size+1) s.heap.objs.size 0 .none->h'.IsTupleIter s.heap.objs.size l 0->(∀b o,s.heap.get? b=some o->h'.get? b=some o)->R (.ok (.ret (.ref (s.heap.objs.size+1)))) {s with heap:=h'})
  (.of_wp λ_ _ _ _ _ ⟨tup,k⟩=>DV tup λh' e i old=>⟨_,rfl,k h' e i old⟩) ⟨hL,λh' e i old=>⟨⟨_,e,rfl⟩,h h' e i old⟩⟩
end
section
variable {X:Cx}{ID:G0 (G9×Obj)}{σ:G0 (P5 V)}{H:Hp}{s:G3}{h':C7}
def Inv.turnL {t':G5}{ch:G0 G9}(I:Inv X ID σ H s)(k: ∀b o,b ∉ ch->s.heap.get? b=some o->h'.get? b=some o)(hc: ∀b∈ch,Py X ID H b):Inv X ID σ H {s with heap:=h',toks:=t'}:=by
 refine I.step (g':=s.gens) (d':=s.drawn) (ch:=ch) (λb hb=>let ⟨_,f1,_,f3,f4,f5⟩:=hc b hb;⟨f3,f1,f4,f5⟩) (λb o _ _ nb e _=>k b o nb e) (λb o _ _ nb e _=>⟨o.slots,k b o nb e⟩) (λ_ _ _ _ n=>n)
  (λb o nb e=>⟨o,k b o nb e⟩) (λ_ _ e=>e) (λ_ _ _ e=>e) (λb ps e=>⟨#[],by rw [e];simp⟩) (λm hm=> ?_) (λb u e=> ?_) I.bare
 ·obtain⟨o,es,ep,ho,r⟩:=hm;exact⟨o,es,ep,k _ o (λz=>(hc _ z).2.1 rfl) ho,r⟩
 ·refine(I.hok b u e).stay (λc v hb q=>k c v (λz=> ?_) q) (λ_ q=>q) λ_ _ q=>q
  have f:=(hc c z).1;rcases hb with w|w
  ·rw [w,e] at f;cases f
  ·rw [w] at f;cases f
def Inv.turnLaid {t':G5}{ch:G0 G9}{a:G9}{o:HO}(I:Inv X ID σ H s)(k: ∀b u,b ∉ ch->s.heap.get? b=some u->h'.get? b=some u)(hc: ∀b∈ch,Py X ID H b)(hp:s.heap.objs.size<=a)
 (new:Í X.prog X.w (upd H a o) h' a o):Inv X ID σ (upd H a o) {s with heap:=h',toks:=t'}:=by
 have hn:=I.hok.fresh hp;refine I.step (g':=s.gens) (d':=s.drawn) (ch:=ch) (λb hb=>let ⟨_,f1,_,f3,f4,f5⟩:=hc b hb;⟨f3,f1,f4,f5⟩) (λb u _ _ nb e _=>k b u nb e) (λb u _ _ nb e _=>⟨u.slots,k b u nb e⟩)
  (λb u _ e n=>by rw [jf (M8 (T5 (D2 e) hp))];exact n) (λb u nb e=>⟨u,k b u nb e⟩) (λb xs q=>by rw [jf (jl q hn)];exact q) (λb u xs q=>by rw [jf (jl q hn)];exact q)
  (λb ps q=>⟨#[],by rw [jf (jl q hn),q];simp⟩) (λm hm=> ?_) (λb u e=> ?_) I.bare
 ·obtain⟨u,es,ep,ho,r⟩:=hm;exact⟨u,es,ep,k _ u (λz=>(hc _ z).2.1 rfl) ho,r⟩
 ·by_cases hb:b=a
  ·subst hb;rw [ji] at e;cases e;exact new
  ·rw [jf hb] at e;refine(I.hok b u e).stay (λc v hb q=>k c v (λz=> ?_) q) (λc q=>by rw [jf (jl q hn)];exact q) λc xs q=>by rw [jf (jl q hn)];exact q
   have f:=(hc c z).1;rcases hb with w|w
   ·rw [w,e] at f;cases f
   ·rw [w] at f;cases f
end
def Ite (K:G6)(a:G9):It:=
 ⟨λi H=> ∃xs x,å K H a xs/\xs[i]? =some x,λi H x H'=> ∃p v,H p=none/\(∀xs,å K H a xs->xs[i]? =some v)/\x= .ref p/\H'=upd H p (.tup [.int i,v]),λi H=> ∃xs,å K H a xs/\xs.length<=i⟩
def DW {P:S8}{w:B0}{K:G6}{es:G0 M9}{k:G5}{pos:Pos}(a it e:G9)(hei:e≠it)(hae:a≠e)(hai:a≠it):X0t P w K (.Tuple es k pos) (Ite K a) [e,it] e (λi h=>(∃old,G0d h e it i old)/\h.IsTupleIter it a i) where
 mem:=by simp
 obj:=λi h st b hb=>by
  rcases D5.mp hb with z|z
  ·subst z;obtain⟨old,q⟩:=st.1;exact⟨_,q,λv z=>by cases z⟩
  ·have z:=P0.mp z;subst z;obtain⟨o,q,c,d⟩:=st.2;exact⟨o,q,λv z=>by rw [d] at z;cases z⟩
 keep:=λi h h' st k=>⟨let ⟨old,q⟩:=st.1;⟨old,k e (by simp) _ q⟩,st.2.at λo q=>k it (by simp) o q⟩
 item:=by
  intro X hP hw hK hc i ID s σ H E I hf st hg;subst hP hw hK;obtain⟨xs,x,hq,hx⟩:=hg;obtain⟨its,rv,p,hz⟩:=I.tuple hq;obtain⟨u,hu,ru⟩:=rv.get hx;have hi:i<its.toArray.size:=by have:=(P6.mp hu).1;simpa using this
  obtain⟨old,he⟩:=st.1;have X1h:e<s.heap.objs.size:=D2 he;refine wpAny_pyNext_enum_itemD (DT (prog:=X.prog) (w:=X.w) (A:=X.A.in1) (I.ok.hd hc) it a hai its.toArray) he ⟨st.2,p⟩ hi hei (by simp [hei,U6 hae]) λx' h' tk Ÿ ho Ħ hT hsz hk=> ?_
  have ex:x'=u:=E2 (Ÿ.symm.trans (show its.toArray[i]? =some u by simpa using hu));subst ex;refine⟨_,rfl,wpAny_letOwnedTupleGo_enum ho λh2 he2 hs2=> ?_⟩;have hn:H s.heap.objs.size=none:=I.hok.fresh (P3 _);have hT2:h2.get? s.heap.objs.size=some {cls:= .type "tuple",data:= .seq #[.int i tk,x']}:=(hs2.2 _ (Y3 X1h)).trans hT;refine⟨.ref s.heap.objs.size,upd H s.heap.objs.size (.tup [.int i,x]),?_,rfl,⟨_,x,hn,λys hy=>by rw [I.tuple_inj hy hq];exact hx,rfl,rfl⟩,⟨⟨x',by simpa using he2⟩,Ħ.1.at λo y=>(hs2.2 it (U6 hei)).trans y⟩,λb hb=> ?_⟩
  ·refine I.turnLaid (h':=h2) (t':=tk+1) (ch:= [e,it]) (λb u hb q=> ?_) hf (P3 _) ⟨by show 2<=sizeLine;decide,[.int i tk,x'],.cons ⟨tk,rfl⟩ (.cons ru .nil),⟨_,hT2,rfl,rfl,_,rfl⟩⟩;have b1:b≠e:=λz=>hb (by simp [z])
   have b2:b≠it:=λz=>hb (by simp [z])
   exact(hs2.2 b b1).trans (hk b u b1 b2 q)
  ·have f:=(hf b hb).1;have:b≠s.heap.objs.size:=λz=>by
    rcases D5.mp hb with w|w
    ·rw [<-w,z] at X1h;exact absurd X1h (B1 _)
    ·have w:=P0.mp w;obtain⟨o,ho',_⟩:=st.2;have:=D2 ho';rw [<-w,z] at this;exact absurd this (B1 _)
   rw [jf this];exact f
 done:=by
  intro X hP hw hK hc i ID s σ H E I hf st hg;subst hP hw hK;obtain⟨xs,hq,hx⟩:=hg;obtain⟨its,rv,p,hz⟩:=I.tuple hq;obtain⟨old,he⟩:=st.1;have hl:=rv.length;refine wpAny_pyNext_enum_endD (DU (prog:=X.prog) (w:=X.w) (A:=X.A.in1) (I.ok.hd hc) it a its.toArray i (by simp;omega)) he ⟨rfl,st.2,p⟩ λh' Ÿ=>⟨rfl,I.turnL (t':=s.toks) (ch:= [it]) (λb o hb q=>Ÿ b o (λz=>hb (by simp [z])) q) λb hb=>hf b (T3 _ hb)⟩
 self:=λ_ _ _ _ _ st h=>let ⟨_,q⟩:=st.1;qE q h
section
variable {X:Cx}
def Ka (K:G6)(ta:TA):TI:=λσ H R=>ta σ H λvs H1=> ∃a,vs= [.ref a]/\(∃xs,å K H1 a xs)/\R (Ite K a) H1
def FB {es:G0 M9}{k:G5}{tp:Pos}{a:M9}{ta:TA}{p pos:Pos}(hg:Gl X "enumerate")(hm:X.mg "enumerate" =none)(ha:PA X [a] ta)(hs:P8 [a] X.env= [(false,A2 a X.env)]:=by rfl):
 PI X (.Tuple es k tp) (.Call (.Name "enumerate" p) [a] [] pos) (Ka X.K ta):=by
 intro ID s σ H R I h;refine Call_ (ZG I hg hm (show Q5 "enumerate" =some (.type "enumerate") by decide +kernel) (aJ (Ñ (ha pos ID s σ H _ I h) λus s1 ⟨vs,H1,I1,r1,q1⟩=> ?_) hs rfl));obtain⟨a,e,⟨xs,hq⟩,q⟩:=q1;subst e;cases r1 with
 |cons r rr=>
  cases rr;cases r;obtain⟨its,rv,p,hz⟩:=I1.tuple hq;have μ:a<s1.heap.objs.size:=by obtain⟨o,ho,_⟩:=p;exact D2 ho
  refine YW (show s1.heap.IsTuple a its.toArray from p) λh' he hit hk=> ?_
  refine qE he ?_;refine⟨s1.heap.objs.size+1,[s1.heap.objs.size+1,s1.heap.objs.size],_,_,H1,rfl,I1.kept (t':=s1.toks) hk,DW a s1.heap.objs.size (s1.heap.objs.size+1) (Y3 (V9 _)) (M8 (gD μ)) (M8 μ),⟨⟨_,he⟩,hit⟩,λb hb=> ?_,q⟩;have hb':s1.heap.objs.size<=b:=by
   rcases D5.mp hb with w|w
   ·rw [w];exact z8 _
   ·rw [P0.mp w];exact P3 _
  exact I1.fpOk hb' (I1.hok.fresh hb')
end
noncomputable def YX (ds:G0 D):G0 D:=ds.zipIdx.map λp=> .tup [.int (p.2:P1),p.1]
def iE (ta:TAD):TID:=λσ h R=>ta σ h λxs h1=> ∃ds,xs= [.tup ds]/\R (λ_=>some (YX ds)) h1
def vW {ds:G0 D}{i:G5}{d:D}(h:(YX ds)[i]? =some d): ∃x,ds[i]? =some x/\d= .tup [.int (i:P1),x]:=by
 unfold YX at h;rw [P7,List.getElem?_zipIdx] at h;cases q:ds[i]? with
 |none=>rw [q] at h;cases h
 |some x=>
  rw [q] at h;refine⟨x,rfl,?_⟩;have h':some (D.tup [.int ((0+i:G5):P1),x])=some d:=h;rw [U8] at h';exact(E2 h').symm
def jT (ds:G0 D):(YX ds).length=ds.length:=by simp [YX]
section
variable {K:G6}
def DY {H:Hp}{a:G9}{vs:G0 V}{ds:G0 D}(hv:H a=some (.tup vs))(r:À K H ds vs):Oj K H (λ_=>some (YX ds)) (Ite K a):=λH' h' k rh ds' e i=>by
 cases e;have hv':=k.tup _ _ hv;have r':=r.mono k;refine⟨λd hd=> ?_,λhl=>⟨vs,å.of hv',by rw [<-r.length,<-jT];exact hl⟩⟩;obtain⟨x,hx,ed⟩:=vW hd;subst ed;obtain⟨v,e1,e2⟩:=r'.get hx;refine⟨⟨vs,v,å.of hv',e1⟩,λx' Ť ⟨p,v',hp,Ÿ,ex,eH⟩=> ?_⟩;subst ex eH;have ev:v'=v:=by have:=Ÿ vs (å.of hv');rw [e1] at this;exact(E2 this).symm
 subst ev;have k2:Kept H' (upd H' p (.tup [.int i,v'])):= .new hp;exact⟨k2,Ä.new rh hp,p,[.int i,v'],rfl,ji,_,_,rfl,rfl,_,_,rfl,e2.mono k2,rfl⟩
def FC {ta:TAD}: ∀σ H R,LI K (iE ta) σ H R->Ka K (LA K ta) σ H R:=λσ H R ⟨Â,h,Rd,rs,rh,q,p⟩=>
 LA.bind rs rh q λds vs h1 H1 k1 Ö Ê r1 ⟨es,e,q1⟩=>by
  subst e;obtain⟨v,e,r2⟩:=jB r1;obtain⟨a,ws,e',hv,r⟩:=(show ∃a vs,v= .ref a/\H1 a=some (.tup vs)/\À K H1 es vs from r2);subst e';exact⟨a,e,⟨ws,å.of hv⟩,p _ _ _ _ k1 Ê (DY hv r) q1⟩
end
section
variable {X:Cx}
def Wa {es:G0 M9}{k:G5}{tp:Pos}{a:M9}{ta:TAD}{p pos:Pos}(hg:Gl X "enumerate")(hm:X.mg "enumerate" =none)(ha:JA X [a] ta)(hs:P8 [a] X.env= [(false,A2 a X.env)]:=by rfl):
 JI X (.Tuple es k tp) (.Call (.Name "enumerate" p) [a] [] pos) (iE ta):=⟨(FB hg hm ha.to hs).imp FC⟩
end
def DZ (c:TTD)(tb:TSD):TSD:=λD σ h=> ∃W:G5->SD->HD->Prop,(∃m,W m σ h)/\ ∀m IO h',W m IO h'->c IO h' λb h1=>
 if b=true then tb {D with nx:=λá h2=> ∃m' h3,m'<m/\Sub h3 h2/\W m' á h3,ct:=λá h2=> ∃m' h3,m'<m/\Sub h3 h2/\W m' á h3,bk:=D.nx} IO h1 else D.nx IO h1
def Nn {K:G6}{c:TTD}{tb:TSD}: ∀D σ H,LS K (DZ c tb) D σ H->By (LT K c) (LS K tb) D σ H:=λD σ H ⟨Â,h,Dd,rs,rh,⟨W,⟨m0,w0⟩,turn⟩,nx,rt,bk,ct⟩=>by
 refine⟨λm IO H'=>Kept H H'/\ ∃Ð h',Ì K H' Ð IO/\Ä K h' H'/\W m Ð h',⟨m0,.refl _,Â,h,rs,rh,w0⟩,?_⟩;rintro m IO H' ⟨kp,Ð,h',Ε,ï,w⟩;refine LT.bind Ε ï (turn m Ð h' w) λb h1 H1 k1 Ö Ê q1=> ?_
 cases b with
 |false=>
  rw [R9 R3] at q1 ⊢;exact nx _ _ _ _ (kp.trans k1) Ö Ê q1
 |true=>
  rw [R8 rfl] at q1 ⊢;have kk:Kept H H1:=kp.trans k1;refine⟨λá H2=>Kept H H2/\ ∃m',m'<m/\ ∃ò h2,Ì K H2 ò á/\Ä K h2 H2/\W m' ò h2,λá H2 ⟨k2,m',hm,a,b,c,d,e⟩=>⟨m',hm,k2,a,b,c,d,e⟩,?_⟩;exact⟨Ð,h1,_,Ö,Ê,q1,λa b c d k4 ι ţ ⟨m',h4,hm,sb,w4⟩=>⟨kk.trans k4,m',hm,a,h4,ι,ţ.sub sb,w4⟩,jC rt kk,λa b c d k4 ι ţ q4=>nx a b c d (kk.trans k4) ι ţ q4,λa b c d k4 ι ţ ⟨m',h4,hm,sb,w4⟩=>⟨kk.trans k4,m',hm,a,h4,ι,ţ.sub sb,w4⟩⟩
section
variable {X:Cx}{pos:Pos}
def Ql {c:M9}{body:G0 A6}{tc:TTD}{tb:TSD}(hp:oH (R7 X.prog X.w) X.A X.env X.xe)(hc:JT X c tc)(hb:ŀ X body tb):JS X (.While c body [] pos) (DZ tc tb):=⟨(ML hp hc.to hb.to).imp Nn⟩
end
def Zv {c:TTD}{tb:TSD}{E:EndsD}{σ:SD}{h:HD}(W:G5->SD->HD->Prop)(m:G5)(w0:W m σ h)
 (turn: ∀m IO h',W m IO h'->c IO h' λb h1=>if b=true then tb {E with nx:=λá h2=> ∃m' h3,m'<m/\Sub h3 h2/\W m' á h3,ct:=λá h2=> ∃m' h3,m'<m/\Sub h3 h2/\W m' á h3,bk:=E.nx} IO h1 else E.nx IO h1):DZ c tb E σ h:=⟨W,⟨m,w0⟩,turn⟩
section
variable {prog:S8}{w:B0}{A:T8}{E:G1->G3->Prop}{s:G3}{z TI TO i1 i2:G9}
def Wb {T newId X0F:U5}{pos:G0 G1}{kw:G0 (Str×G1)}{Made:G1->G3->Prop}{Q:G1->G3->Prop}(ft:TypeCalled T newId X0F)(fits:o4 T ⟨pos,kw⟩=pure ())
 (made:R0 (R7 prog w) A.in1 (call (.builtin newId) (.type T::pos) kw) Made E s)
 (begun: ∀o s₁,Made o s₁->s₁.TypeIs o T/\R0 (R7 prog w) A.in1 (qF o "__init__" pos kw) (λr s₂=>r=some .none/\Q o s₂) E s₁):
 R0 (R7 prog w) A (call (.type T) pos kw) Q E s:=by
 have f1:=ft.notType;have f2:=ft.canCreate;have f3:=ft.made;have f4:=ft.sub;obtain⟨_,_,f5⟩:=ft.mro;have first:=λ{Q':G1->G3->Prop} (k: ∀o s₁,Made o s₁->Q' o s₁)=>M0 (E':=E) made k λ_ _ z=>z
 refine bY (m7 (P2 ⟨Code.quiet_builtin _ (by decide +kernel),aE F.entry_type_call ?_⟩));rw [Around.under_plain (weight_type_call_type T pos kw) (units_type_call_type T pos kw)]
 wp_walk using first
 intro o s₁ m;obtain⟨ty,X1i⟩:=begun o s₁ m;refine wpAny_bind (rE (b:=true) ty f4 (wpAny_bind (L7 (M0 X1i (λr s₂ q=> ?_) λ_ _ z=>z))));obtain⟨rfl,q⟩:=q;exact P2 q
end
def inE (neg:M7):RD2:=λx y h Q=> ∃ (p:aV) (ps:G0 aV),ė h x p/\(ė h y (.list ps)\/ė h y (.tuple ps))/\p.canLay0=true/\W6 ps=true/\p.depth<=60/\Q (.bl (neg !=ps.any λz=>O5 z p)) h
section
variable {X:Cx}
def Ei (hu:X.A.units+64<cLine):ó X (F7 .In) (inE false):=by
 intro ID s σ H x y v u Q I rx ry h;obtain⟨dx,dy,h,Qd,r1,r2,rh,⟨p,ps,t1,t2,c1,c2,c3,qq⟩,post⟩:=h;obtain⟨as,a1⟩:=zk I rh t1 r1 rx;have Η:X.A.units+1+min (E4 ps) p.depth<cLine:=by have:=dN (E4 ps) p.depth;omega
 have q':Qd (.bl (ps.any λz=>O5 z p)) h:=by simpa using qq
 rcases t2 with t2|t2
 ·obtain⟨bs,b1⟩:=zk I rh t2 r2 ry;exact in_list_reads b1 a1 c2 c1 Η ⟨.bl _,H,I,rfl,post (.bl _) _ _ _ (.refl H) rh rfl q'⟩
 ·obtain⟨bs,b1⟩:=zk I rh t2 r2 ry;exact in_tuple_reads b1 a1 c2 c1 Η ⟨.bl _,H,I,rfl,post (.bl _) _ _ _ (.refl H) rh rfl q'⟩
def Qm (hu:X.A.units+64<cLine):ó X (F7 .NotIn) (inE true):=by
 intro ID s σ H x y v u Q I rx ry h;obtain⟨dx,dy,h,Qd,r1,r2,rh,⟨p,ps,t1,t2,c1,c2,c3,qq⟩,post⟩:=h;obtain⟨as,a1⟩:=zk I rh t1 r1 rx;have Η:X.A.units+1+min (E4 ps) p.depth<cLine:=by have:=dN (E4 ps) p.depth;omega
 have q':Qd (.bl (!ps.any λz=>O5 z p)) h:=by simpa using qq
 rcases t2 with t2|t2
 ·obtain⟨bs,b1⟩:=zk I rh t2 r2 ry;exact notIn_list_reads b1 a1 c2 c1 Η ⟨.bl _,H,I,rfl,post (.bl _) _ _ _ (.refl H) rh rfl q'⟩
 ·obtain⟨bs,b1⟩:=zk I rh t2 r2 ry;exact notIn_tuple_reads b1 a1 c2 c1 Η ⟨.bl _,H,I,rfl,post (.bl _) _ _ _ (.refl H) rh rfl q'⟩
def Ej {tg:M9}{p pos:Pos}{a b:M9}{ta:TAD}(hg:Gl X "range")(hm:X.mg "range" =none)(ha:JA X [a,b] ta)(hs:P8 [a,b] X.env= [(false,A2 a X.env),(false,A2 b X.env)]:=by rfl)(hs2:P8 [b] X.env= [(false,A2 b X.env)]:=by rfl):JI X tg (.Call (.Name "range" p) [a,b] [] pos) (iR2 ta):=⟨(PQ hg hm ha.to hs hs2).imp Tv⟩
end
def Kb (i:G5)(f:P1->P1->P1)(te:TED):TSD:=λD σ h=> ∃x:P1,σ[i]? =some (some (.int x))/\te σ h λy h1=> ∃j:P1,y= .int j/\D.nx (σ.set i (some (.int (f x j)))) h1
def Ek {K:G6}{i:G5}{f:P1->P1->P1}{te:TED}: ∀D σ H,LS K (Kb i f te) D σ H->Hx i (LE K te) (ipI f) D σ H:=λD σ H ⟨Â,h,Dd,rs,rh,⟨x,hx,q⟩,nx,rt,bk,ct⟩=>by
 obtain⟨v,e1,r1⟩:=rs.2 i _ hx;cases (show v= .int x from r1);exact⟨_,e1,LE.bind rs rh q λd u h1 H1 k1 Ö Ê r1 ⟨j,e,q1⟩=>by
  subst e;cases (show u= .int j from r1);exact⟨x,j,rfl,rfl,nx _ _ _ _ k1 (Ö.set (d:= .int (f x j)) rfl i) Ê q1⟩⟩
section
variable {X:Cx}{i:G5}{x:Str}{e:M9}{te:TED}{pos pos':Pos}
def FD (hN:X.N.Nodup)(hi:X.N[i]? =some x)(hx:Loc X.env.scope x)(he:JE X e te)(hf:X.fn x=true\/X.env.scope.names.lookup x=some .local:=by first|exact .inl rfl|exact .inr rfl|assumption):JS X (.AugAssign (.Name x pos') .Add e pos) (Kb i (λa b=>a+b) te):=⟨(OM hN hi hx he.to ON hf).imp Ek⟩
end
end L2
namespace L2
open PySem PySem.Spec PyProof.Rows
section
variable {prog:S8}{w:B0}{A:T8}{E:G1->G3->Prop}{s:G3}
theorem yr: ∀ {vs:G0 G1} {ns:G0 P1},W0 vs ns-> ∀ {i:G5} {v:G1},vs[i]? =some v-> ∃t,v= .int (ns.getD i 0) t/\i<ns.length
 |_,_,.nil,_,_,hv=>by simp at hv
 |_,_,.cons _ t _,0,_,hv=>⟨t,by simpa using hv.symm,by simp⟩
 |_,_,.cons _ _ r,i+1,_,hv=>by
  obtain⟨t,e,lt⟩:=yr r (i:=i) (by simpa using hv);exact⟨t,by simpa using e,by simpa using lt⟩
def Uf {l:G9}{o:Obj}(here:l<s.heap.objs.size): ∀b∈ [s.heap.objs.size,l],b<(s.heap.push o).objs.size:=λb hb=>by
 rw [gA];simp only [D5,H0,or_false] at hb;rcases hb with e|e<;>subst e
 ·exact V9 _
 ·exact gD here
def Ug {o:Obj}{h':C7}(k: ∀b u,b ∉ [s.heap.objs.size]->(s.heap.push o).get? b=some u->h'.get? b=some u): ∀b u,s.heap.get? b=some u->h'.get? b=some u:=λb u e=>
 k b u (λm=>absurd (D2 e) (by rw [P0.mp m];exact B1 _)) (G7 _ e)
end
section
variable {X:Cx}
def Ra (hc:X.calm=true):Ù X (.builtin "max") (λxs H Q=> ∃ (a:G9) (ns:G0 P1),xs= [.ref a]/\ns≠ []/\(í X.K H a (ns.map V.int)\/å X.K H a (ns.map V.int))/\ ∀m∈ns,(∀x∈ns,x<=m)->Q (.int m) H):=by
 intro ID s σ H xs us Q I r h;obtain⟨a,ns,rfl,ť,hS,q⟩:=h;obtain⟨u,rfl,ru⟩:=vj r;cases ru;have fin: ∀ {its:G0 G1} (hi:W0 its ns) (v:G1) (h':C7) (tk:G5),its.toArray[argBest (λi j=>decide (ns.getD i 0>ns.getD j 0)) (its.toArray.size-1)]? =some v->(∀b o,s.heap.get? b=some o->h'.get? b=some o)->EP X ID σ Q v {s with heap:=h',toks:=tk}:=λ{its} hi v h' tk hv kept=>by
  obtain⟨t,rfl,lt⟩:=yr hi (show its[_]? =some v by simpa using hv);refine⟨.int _,H,I.kept kept,⟨t,rfl⟩,q _ (getD_mem lt) λx hx=> ?_⟩;obtain⟨j,hj,rfl⟩:=mem_getD hx;exact(argBest_gt (λi=>ns.getD i 0) (its.toArray.size-1)).2 j (by rw [S0,hi.length];omega)
 refine call_max_walk ?_;rcases hS with hS|hS
 ·obtain⟨its,rv,pl,_⟩:=I.list hS;have hi:=Zc rv;obtain⟨o,e,r⟩:=id pl.isList;have W:=mT (prog:=X.prog) (w:=X.w) (A:=X.A.in1) (I.ok.hd hc) s.heap.objs.size a (M8 (D2 e)) its.toArray;exact Z8 pl.isList ⟨_,_,_,_,_,_,_,rfl,W,⟨⟨_,S4 _ rfl,rfl,rfl⟩,⟨o,G7 _ e,r⟩⟩,Uf (D2 e),by rw [S0,hi.length];exact iR.mpr ť,CmpOf.ints_gt (λi=>ns.getD i 0) (λi v hv=>(yr hi (by simpa using hv)).imp λ_ z=>z.1),λv h' tk hv k=>fin hi v h' tk hv (Ug k)⟩
 ·obtain⟨its,rv,pl,_⟩:=I.tuple hS;have hi:=Zc rv;obtain⟨o,e,r⟩:=id pl;have W:=rT (prog:=X.prog) (w:=X.w) (A:=X.A.in1) (I.ok.hd hc) s.heap.objs.size a (M8 (D2 e)) its.toArray;exact aU (show s.heap.IsTuple a its.toArray from pl) ⟨_,_,_,_,_,_,_,rfl,W,⟨⟨_,S4 _ rfl,rfl,rfl⟩,⟨o,G7 _ e,r⟩⟩,Uf (D2 e),by rw [S0,hi.length];exact iR.mpr ť,CmpOf.ints_gt (λi=>ns.getD i 0) (λi v hv=>(yr hi (by simpa using hv)).imp λ_ z=>z.1),λv h' tk hv k=>fin hi v h' tk hv (Ug k)⟩
def El (B:G0 P1->P1->Prop):RDn:=λds h Q=> ∃ (ns:G0 P1) (h':HD),ns≠ []/\Sub h' h/\(ds= [.tup (ns.map D.int)]\/ ∃a,ds= [.lst a]/\h a=some (ns.map D.int))/\ ∀m∈ns,B ns m->Q (.int m) h'
abbrev ke:RDn:=El λns m=> ∀x∈ns,x<=m
def No {B:G0 P1->P1->Prop}{f:G1}(c:Ù X f (λxs H Q=> ∃ (a:G9) (ns:G0 P1),xs= [.ref a]/\ns≠ []/\(í X.K H a (ns.map V.int)\/å X.K H a (ns.map V.int))/\ ∀m∈ns,B ns m->Q (.int m) H)):yU X f (El B):=
 c.imp λxs H Q ⟨ds,h,Qd,r,rh,⟨ns,h',ť,hs,e,q⟩,p⟩=>by
  rcases e with e|⟨a,e,ha⟩
  ·subst e;obtain⟨v,e,r1⟩:=jB r;obtain⟨a,vs,e1,hH,r2⟩:=(show ∃a vs,v= .ref a/\H a=some (.tup vs)/\À X.K H (ns.map D.int) vs from r1);rw [jX r2] at hH;subst e e1;exact⟨a,ns,rfl,ť,.inr (å.of hH),λm m1 m2=>p (.int m) _ _ _ (.refl H) (rh.sub hs) rfl (q m m1 m2)⟩
  ·subst e;obtain⟨v,e,r1⟩:=jB r;obtain⟨vs,hH,r2⟩:=rh a _ ha;have e1:v= .ref a:=r1.1;rw [jX r2] at hH;subst e e1;exact⟨a,ns,rfl,ť,.inl (í.of hH),λm m1 m2=>p (.int m) _ _ _ (.refl H) (rh.sub hs) rfl (q m m1 m2)⟩
def Rb (hc:X.calm=true):yU X (.builtin "max") ke:=No (Ra hc)
end
end L2
namespace L2
open PySem PySem.Spec PyProof.Rows PySem.SeqAt
def Np {X:Cx}(hu:X.A.units+64<cLine):MtM X "list.index" (λx vs H Q=> ∃ (a:G9) (y:V) (dy:D) (h:HD) (p:aV) (ps:G0 aV) (j:G5) (z:aV),x= .ref a/\vs= [y]/\É X.K H dy y/\Ä X.K h H/\ė h (.lst a) (.list ps)/\ė h dy p/\p.canLay0=true/\W6 ps=true/\p.depth<=60/\j<1000000/\ps[j]? =some z/\O5 z p=true/\(∀m y,m<j->ps[m]? =some y->O5 y p=false)/\Q (.int (j:P1)) H):=by
 intro ID s σ H x vs v us Q I rx rv h;obtain⟨a,y,dy,h,p,ps,j,z,rfl,rfl,rd,rh,t1,t2,c1,c2,c3,hj,hz,hit,hno,q⟩:=h;cases rx;obtain⟨u,rfl,ru⟩:=vj rv;obtain⟨a',ds,ea,ha,ts⟩:=(show ∃a' ds,D.lst a= .lst a'/\h a'=some ds/\Ĝ h ds ps from t1);cases ea;obtain⟨ws,hH,_⟩:=rh a ds ha;obtain⟨as,r1⟩:=zk I rh t1 (show É X.K H (.lst a) (.ref a) from ⟨rfl,ws,hH⟩) (show RelV (.ref a) (.ref a) from rfl);obtain⟨bs,r2⟩:=zk I rh t2 rd ru;cases r1 with
 |list h1 h2 h3 h4=>
  rename_i o its n cs;have em:=readsAll_map ps _ _ c2 h4;have gm: ∀m (hm:m<its.size),ps[m]? =some (readOf s.heap its[m]):=λm hm=>by
   rw [<-em,P7,N7,X5 hm];rfl
  have hlen:its.size=ps.length:=by rw [<-em,G2,D8]
  have hjs:j<its.size:=by rw [hlen];exact(P6.mp hz).1
  have Η:X.A.units+1+min (E4 ps) p.depth<cLine:=by have:=dN (E4 ps) p.depth;omega
  obtain⟨oc,od,odt,ē⟩:=o;simp only at h2 h3;subst h2 h3;refine gW F.slot_list_index ⟨_,h1,rfl⟩ F.entry_list_index (F.args_list_index_2 _ _) (list_indexAt a its n od ē u (λy=>O5 (readOf s.heap y) p) j hjs (by omega) ?_ ?_) ⟨h1,items_eqAt h4 r2 c2 c1 Η,?_⟩
  ·have:=gm j hjs;rw [hz] at this;injection this with this
   rw [<-this];exact hit
  ·intro m hm hmj;exact hno m _ hmj (gm m hm)
  ·exact⟨.int (j:P1),H,I.tok _,⟨_,rfl⟩,q⟩
def kf (to te:TED):TED:=λσ h Q=>to σ h λx h1=> ∃a,x= .lst a/\te σ h1 λy h2=> ∃ (p:aV) (ps:G0 aV) (j:G5) (z:aV),ė h2 (.lst a) (.list ps)/\ė h2 y p/\p.canLay0=true/\W6 ps=true/\p.depth<=60/\j<1000000/\ps[j]? =some z/\O5 z p=true/\(∀m y,m<j->ps[m]? =some y->O5 y p=false)/\Q (.int (j:P1)) h2
section
variable {X:Cx}{o e i:M9}{to te ti:TED}{apos cpos:Pos}
def kg (hu : X.A.units + 64 < cLine) (ho : JE X o to) (he : JE X e te) (hbase : b7 o "index" X.env (A2 o X.env) = A2 o X.env := by rfl)
    (hfew : ((E1 cpos (P8 [e] X.env)).all (fun x => !x.1) && (j9 cpos (dG [] X.env)).all (fun x => x.1.isSome) && decide ([e].length + ([] : G0 cL).length + (if ([] : G0 cL).isEmpty then 0 else 1) < 30)) = true := by rfl)
    (hline : (apos.endLine == cpos.line) = true := by rfl) (hs : P8 [e] X.env = (false, A2 e X.env) :: P8 [] X.env := by rfl) (hplain : (E1 cpos (P8 [] X.env)).any (·.1) = false := by rfl) :
    JE X (.Call (.Attribute o "index" apos) [e] [] cpos) (kf to te) :=
  ⟨(MT cC xC xD (Np hu) ho.to (zA he.to ð hs) hbase hfew hline hs hplain).imp
    fun σ H Q ⟨Â, h, Qd, rs, rh, t, p⟩ => LE.bind rs rh t fun d v h1 H1 k1 Ö Ê r1 ⟨a, e, q⟩ => by
      subst e
      obtain ⟨e1, vs, hH⟩ := (show v = .ref a ∧ ∃ vs, H1 a = some (.lst vs) from r1)
      subst e1
      refine ⟨.inl ⟨rfl, vs, í.of hH⟩, ?_⟩
      refine LE.bind Ö Ê q fun y u h2 H2 k2 Ŀ î r2 ⟨pd, ps, j, z, t1, t2, c1, c2, c3, hj, hz, hit, hno, q2⟩ => ?_
      exact ⟨a, u, y, h2, pd, ps, j, z, rfl, rfl, r2, î, t1, t2, c1, c2, c3, hj, hz, hit, hno, p (.int _) _ _ _ (k1.trans k2) î rfl q2⟩⟩
end
variable {i:G5}
def FE {js:G0 G5}{ta:TAD}{tt:TTD}{te:TED}{σ:SD}{h h1:HD}{Q:KD}(n:G5)(W:G5->G0 D->HD->Prop)(hn:n<=1000)(ht: ∀R:G0 D->HD->Prop,R [.int (n:P1)] h1->ta σ h R)
 (w0:W 0 [] h1)(wl: ∀k ys h',W k ys h'->ys.length<=k)(turn: ∀k ys h',k<n->W k ys h'->tt ((jJ js σ).set i (some (.int (k:P1)))) h' λb h3=>if b=true then te ((jJ js σ).set i (some (.int (k:P1)))) h3 λy h4=> ∃h5,Sub h5 h4/\(k+1<=n/\W (k+1) (ys++ [y]) h5) else ∃h5,Sub h5 h3/\(k+1<=n/\W (k+1) ys h5))
 (done: ∀ys h',W n ys h'-> ∀p,h' p=none->Q (.lst p) (zF h' p ys)):yV (bN i) js (iR1 ta) tt te σ h Q:=by
 refine ht _ ⟨(n:P1),rfl,by omega,by omega,n,λk ys h'=>k<=n/\W k ys h',⟨N3 _,w0⟩,?_⟩;rintro k ys h' ⟨hk,w⟩;refine⟨R6 (wl k ys h' w) (S6 (jw (by omega))),_,rfl,by simp,λhl p hp=> ?_,λd hd=>⟨_,rfl,?_⟩⟩
 ·have:k=n:=by simp at hl;omega
  subst this;exact done _ _ w p hp
 ·obtain⟨â,e⟩:=ZW hd;have hk2:k<n:=by omega
  subst e;exact turn k ys h' hk2 w
def ø (n:G5)(S:G0 G5):Prop:= ∃p:G5->M7,S=(P4 n).filter p
variable {n:G5}{S:G0 G5}
def ø.lt (h:ø n S){i:G5}(hi:i∈S):i<n:=by
 obtain⟨p,rfl⟩:=h;exact D1.mp (C3.mp hi).1
def ø.len (h:ø n S):S.length<=n:=by
 obtain⟨p,rfl⟩:=h;have:=Q4 p (P4 n)
 rwa [S7] at this
def ø.rise (h:ø n S):S.Pairwise (· < ·):=by
 obtain⟨p,rfl⟩:=h;exact G0.pairwise_lt_range.filter p
noncomputable def yn (n:G5)(T:G0 (G0 P1))(S:G0 G5):G0 G5:=(P4 n).filter λj=>S.any λi=>decide (Ï T i j≠0)
def ø.step (T:G0 (G0 P1))(S:G0 G5):ø n (yn n T S):=⟨_,rfl⟩
def Ę {α:Type}(f:α->α)(x:α):G5->α
 |0=>x
 |k+1=>f (Ę f x k)
def ø.it {T:G0 (G0 P1)}(h:ø n S): ∀k,ø n (Ę (yn n T) S k)
 |0=>h
 |_+1=>ø.step _ _
theorem Uh {α:Type}[DecidableEq α]: ∀ {l m:G0 α},l.Nodup->(∀x∈l,x∈m)->l.length<=m.length
 | [],_,_,_=>N3 _
 |a::l,m,nd,h=>by
  have hm:=h a R5;have h2:l.length<=(m.erase a).length:=Uh (K0.mp nd).2 λx hx=>by
   have hxa:x≠a:=λe=>(K0.mp nd).1 (e ▸ hx)
   exact(Y7 hxa).mpr (h x (T3 _ hx))
  rw [V7 hm] at h2;have:=aP hm;simp only [R1];omega
def GD (S:G0 G5):aV:=BM (WM S)
def Xs (h:HD)(S:G0 G5):ė h (jA S) (GD S):=by rw [Fz];exact⟨_,rfl,vV h _⟩
theorem Ui (h:HD): ∀Ss:G0 (G0 G5),Ĝ h (Ss.map jA) (Ss.map GD)
 | []=>rfl
 |S::Ss=>⟨_,_,rfl,Xs h S,Ui h Ss⟩
def GE (r:G0 P1):(BM r).canLay0=true:=by unfold BM;simp only [aW];exact vx r
def Uj (r:G0 P1):(BM r).depth<=2:=by unfold BM;simp only [aO];have:=JK r;omega
theorem Yk: ∀a b:G0 P1,eQ (a.map gY) (b.map gY)=decide (a=b)
 | [],[]=>by simp [eQ]
 | [],_::_=>by simp [eQ]
 |_::_,[]=>by simp [eQ]
 |x::a,y::b=>by
  show ((x==y)&&eQ (a.map .int) (b.map .int))=_;rw [Yk a b,J9];simp
def FF (a b:G0 P1):O5 (BM a) (BM b)=decide (a=b):=Yk a b
def Rc {a b:G0 G5}(h:WM a=WM b):a=b:=by
 have:=congrArg (gF oN) h;unfold WM at this;simpa [N8,lG] using this
def FG (a b:G0 G5):O5 (GD a) (GD b)=decide (a=b):=by
 unfold GD;rw [FF,J9,W5,W5];exact⟨Rc,λe=>by rw [e]⟩
def FH {α:Type}{f:G5->α}{L:G5}(h:i<L):Ċ ((P4 L).map f) (i:P1)=some (f i):=
 zH (by rw [P7,A8 h];rfl)
def GF {e:G5}{T:G0 (G0 P1)}(hT:Sq n e T)(hS:ø n S){j:G5}(hj:j<n){m:P1}(m1:m∈0::S.map λi=>Ï T i j)(m2: ∀x∈0::S.map λi=>Ï T i j,x<=m):decide (m>0)=S.any λi=>decide (Ï T i j≠0):=by
 rw [J9,W5,dP];constructor
 ·intro z;rcases D5.mp m1 with e|e
  ·omega
  ·obtain⟨i,hi,rfl⟩:=S9.mp e;exact⟨i,hi,D3 (by omega)⟩
 ·rintro ⟨i,hi,z⟩;have z':=L8 z;have a:=(hT.ent_nn (hS.lt hi) hj).1;have b:=m2 _ (T3 _ (S9.mpr ⟨i,hi,rfl⟩));omega
def Nq {js:G0 G5}{ta:TAD}{tt:TTD}{te:TED}{σ:SD}{h h1:HD}{Q:KD}(n:G5)(W:G5->G0 D->HD->Prop)(hn:n<=1000)(ht: ∀R:G0 D->HD->Prop,R [.int (n:P1)] h1->ta σ h R)
 (w0:W 0 [] h1)(wl: ∀k ys h',W k ys h'->ys.length<=k)(turn: ∀k ys h',k<n->W k ys h'->tt ((jJ js σ).set i (some (.int (k:P1)))) h' λb h3=>if b=true then te ((jJ js σ).set i (some (.int (k:P1)))) h3 λy h4=> ∃h5,Sub h5 h4/\(k+1<=n/\W (k+1) (ys++ [y]) h5) else ∃h5,Sub h5 h3/\(k+1<=n/\W (k+1) ys h5))
 (done: ∀ys h',W n ys h'->Q (.tup ys) h'):ħ yZ (zu (yV (bN i) js (iR1 ta) tt te) WF) σ h Q:=by
 show yV (bN i) js (iR1 ta) tt te σ h (λx h1=>yZ [x] h1 Q);exact FE n W hn ht w0 wl turn λys h' w p hp=>(show ∃zs,zF h' p ys p=some zs/\Q (.tup zs) (YK (zF h' p ys) p) from ⟨_,jc,by rw [wn hp];exact done ys h' w⟩)
structure Enc {α:Type}[DecidableEq α](e:α->D)(p:α->aV):Prop where
 to: ∀ (h:HD) a,ė h (e a) (p a)
 lay: ∀a,(p a).canLay0=true
 dp: ∀a,(p a).depth<=60
 eq: ∀a b,O5 (p a) (p b)=decide (a=b)
section
variable {α:Type}[DecidableEq α]{e:α->D}{p:α->aV}
theorem Enc.lays (E:Enc e p): ∀as:G0 α,W6 (as.map p)=true
 | []=>rfl
 |a::as=>by show (aW (p a)&&_)=true;rw [E.lays as,E.lay a];rfl
end
def RP (n:G5)(T:G0 (G0 P1))(k i j:G5):Prop:=Ï (PB n T k) i j≠0
section
variable {n e:G5}{T:G0 (G0 P1)}
def Yl (h:Sq n e T)(hn:n<=8)(a b:G5){i j:G5}(hi:i<n)(hj:j<n):RP n T (a+b) i j↔ ∃k,k<n/\RP n T a i k/\RP n T b k j:=by
 unfold RP;rw [pow_add h hn a b];exact Ue (h.pow hn a) (h.pow hn b) hi hj
def vy {i j:G5}(hi:i<n)(hj:j<n):RP n T 0 i j↔i=j:=by
 unfold RP;show Ï (DQ n) i j≠0↔_;unfold DQ;rw [Yj hi hj]
 by_cases z:i=j
 ·simp [z]
 ·simp [z]
theorem BN (h:Sq n e T)(hn:n<=8): ∀ (m:G5) {i j:G5},i<n->j<n->RP n T m i j-> ∃v:G5->G5,v 0=i/\v m=j/\(∀t,t<=m->v t<n)/\ ∀t,t<m->RP n T 1 (v t) (v (t+1))
 |0,i,j,hi,hj,r=>by
  have:=(vy hi hj).mp r;exact⟨λ_=>i,rfl,this,λ_ _=>hi,λt ht=>by omega⟩
 |m+1,i,j,hi,hj,r=>by
  obtain⟨k,hk,r1,r2⟩:=(Yl h hn m 1 hi hj).mp r;obtain⟨v,v0,vm,vl,vr⟩:=BN h hn m hi hk r1;refine⟨λt=>if t<=m then v t else j,?_,?_,λt _=> ?_,λt ht=> ?_⟩
  ·simp [v0]
  ·show (if m+1<=m then v (m+1) else j)=j;rw [R9 (by omega)]
  ·show (if t<=m then v t else j)<n;split
   ·exact vl t (by assumption)
   ·exact hj
  ·show RP n T 1 (if t<=m then v t else j) (if t+1<=m then v (t+1) else j);rw [R8 (by omega)]
   by_cases z:t+1<=m
   ·rw [R8 z];exact vr t (by omega)
   ·rw [R9 z,show t=m by omega,vm];exact r2
theorem YY (h:Sq n e T)(hn:n<=8){m:G5}{v:G5->G5}(vl: ∀t,t<=m->v t<n)(vr: ∀t,t<m->RP n T 1 (v t) (v (t+1)))(a:G5): ∀b,a+b<=m->RP n T b (v a) (v (a+b))
 |0,hb=>(vy (vl a (by omega)) (vl a (by omega))).mpr rfl
 |b+1,hb=>(Yl h hn b 1 (vl a (by omega)) (vl _ hb)).mpr ⟨v (a+b),vl _ (by omega),YY h hn vl vr a b (by omega),vr (a+b) (by omega)⟩
end
structure Č (n:G5)(h0 h:HD)(p R:G9)(rs:G0 G9):Prop where
 at_:h R=some (rs.map D.lst)
 len:rs.length=n
 nR:R ∉ rs
 fR:h0 R=none
 np:p ∉ rs
 nRp:R≠p
 row: ∀a∈rs,h0 a=none/\ ∃r,h a=some (r.map D.int)/\wU n r
section
variable {n:G5}{h0 h:HD}{p R:G9}{rs:G0 G9}
def Č.pen (g:Č n h0 h p R rs)(ds:G0 D):Č n h0 (zF h p ds) p R rs:=
 ⟨jh g.nRp g.at_,g.len,g.nR,g.fR,g.np,g.nRp,λa ha=>⟨(g.row a ha).1,let ⟨r,e,gr⟩:=(g.row a ha).2;⟨r,jh (λz=>g.np (z ▸ ha)) e,gr⟩⟩⟩
def Č.pick (g:Č n h0 h p R rs){i:G5}(hi:i<n): ∃a r,Ċ (rs.map D.lst) (i:P1)=some (.lst a)/\a∈rs/\h a=some (r.map D.int)/\wU n r/\h0 a=none/\a≠p:=by
 have â:i<rs.length:=by rw [g.len];exact hi
 have hm:=L0 â;obtain⟨f,r,e,gr⟩:=g.row _ hm;exact⟨rs[i],r,zH (by rw [P7,G8 â];rfl),hm,e,gr,f,λz=>g.np (z ▸ hm)⟩
def Č.set (g:Č n h0 h p R rs){a:G9}{r:G0 P1}(ha:a∈rs)(e:h a=some (r.map D.int))(gr:wU n r){j:G5}{v:P1}(v0:0<=v)(v1:v<=1000000):Č n h0 (zF h a ((r.map D.int).set j (.int v))) p R rs:=by
 refine⟨jh (λz=>g.nR (z ▸ ha)) g.at_,g.len,g.nR,g.fR,g.np,g.nRp,λb hb=>⟨(g.row b hb).1,?_⟩⟩
 by_cases z:b=a
 ·subst z;refine⟨r.set j v,by rw [jc,List.map_set],by rw [sB];exact gr.1,λx hx=> ?_⟩;rcases List.mem_or_eq_of_mem_set hx with y|y
  ·exact gr.2 x y
  ·subst y;exact⟨v0,v1⟩
 ·obtain⟨r',e',gr'⟩:=(g.row b hb).2;exact⟨r',jh z e',gr'⟩
def Č.tab (g:Č n h0 h p R rs): ∃T,Đ n T/\(rs.map λa=>D.tup ((h a).getD []))=T.map Jv:=by
 have key: ∀l:G0 G9,(∀a∈l,∃r,h a=some (r.map D.int)/\wU n r)-> ∃T:G0 (G0 P1),T.length=l.length/\(∀r∈T,wU n r)/\(l.map λa=>D.tup ((h a).getD []))=T.map Jv:=by
  intro l
  induction l with
  |nil=>intro _;exact⟨[],rfl,by simp,rfl⟩
  |cons a l ih=>
   intro hl;obtain⟨T,a1,a2,a3⟩:=ih λb hb=>hl b (T3 _ hb)
   obtain⟨r,e,gr⟩:=hl a R5;refine⟨r::T,by simp [a1],λx hx=> ?_,?_⟩
   ·rcases D5.mp hx with z|z
    ·subst z;exact gr
    ·exact a2 x z
   ·rw [N4,N4,a3,e];rfl
 obtain⟨T,a1,a2,a3⟩:=key rs λa ha=>(g.row a ha).2
 exact⟨T,⟨by rw [a1,g.len],a2⟩,a3⟩
end
def FJ {js:G0 G5}{ti:TID}{te:TED}{σ:SD}{h h1:HD}{Q:KD}(ds:G0 D)(W:G5->G0 D->HD->Prop)(hn:ds.length<=1000)(ht: ∀R:İ->HD->Prop,R (λ_=>some ds) h1->ti σ h R)
 (w0:W 0 [] h1)(wl: ∀k ys h',W k ys h'->ys.length<=k)(turn: ∀k ys h' d,ds[k]? =some d->W k ys h'->te ((jJ js σ).set i (some d)) h' λy h4=> ∃h5,Sub h5 h4/\(k+1<=ds.length/\W (k+1) (ys++ [y]) h5))
 (done: ∀ys h',W ds.length ys h'-> ∀p,h' p=none->Q (.lst p) (zF h' p ys)):yV (bN i) js ti Ye te σ h Q:=by
 refine ht _ ⟨ds.length,λk ys h'=>k<=ds.length/\W k ys h',⟨N3 _,w0⟩,?_⟩;rintro k ys h' ⟨hk,w⟩;refine⟨R6 (wl k ys h' w) (S6 (jw (by omega))),ds,rfl,P3 _,λhl p hp=> ?_,λd hd=>⟨_,rfl,?_⟩⟩
 ·have:k=ds.length:=by omega
  subst this;exact done _ _ w p hp
 ·unfold Ye;dsimp only;rw [R8 rfl];exact turn k ys h' d hd w
def FK {o:G0 G5}(ho:ĩ n o){i:G5}(hi:i<n): ∃k,k<n/\Ċ (o.map λ(k:G5)=>D.int (k:P1)) (i:P1)=some (.int (k:P1)):=by
 have â:i<o.length:=by rw [ho.ord.len];exact hi
 refine⟨o[i],D1.mp (ho.mem_iff.mp (L0 â)),zH (by rw [P7,G8 â];rfl)⟩
def YZ (h:i<n):ζ n (i:P1)=some i:=by
 unfold ζ;simp;omega
def ŕ {X:Cx}:Ù X (.builtin "divmod") (λxs H Q=> ∃i j,xs= [.int i,.int j]/\(0<j/\j<2^200)/\ ∀p,H p=none->Q (.ref p) (upd H p (.tup [.int (i / j),.int (i%j)]))):=by
 intro ID s σ H xs us Q I r h;obtain⟨i,j,rfl,⟨h1,h2⟩,q⟩:=h;obtain⟨u,w',rfl,⟨t,rfl⟩,⟨t',rfl⟩⟩:=PZ r;refine divmod_int (by omega) ?_ (.inl (PyProof.noPylong_of_log2 ?_))
 ·rw [i8 i (by omega),i9 i (by omega)];have hn:H s.heap.objs.size=none:=I.hok.fresh (P3 _);refine⟨.ref s.heap.objs.size,_,?_,rfl,q _ hn⟩;refine I.laid (λb o e=>G7 _ e) (P3 _) ⟨by simp only [R1,C4];rw [nN];decide,[.int (i / j) s.toks,.int (i%j) (s.toks+1)],.cons ⟨_,rfl⟩ (.cons ⟨_,rfl⟩ .nil),?_⟩;exact⟨_,S4 s.heap rfl,rfl,rfl,0,rfl⟩
 ·have h3:j.natAbs<2^200:=DR (by omega) h2;have h4:=(Nat.log2_lt (by omega:j.natAbs≠0)).mpr h3;omega
def FL:RDn:=λds h Q=> ∃i j:P1,ds= [.int i,.int j]/\(0<j/\j<2^200)/\Q (.tup [.int (i / j),.int (i%j)]) h
def GH {X:Cx}:yU X (.builtin "divmod") FL:=ŕ.imp λxs H Q ⟨ds,h,Qd,r,rh,⟨i,j,e,c,q⟩,p⟩=>by
 subst e;obtain⟨v,w,e,r1,r2⟩:=yq r;cases (show v= .int i from r1);cases (show w= .int j from r2);exact⟨i,j,e,c,λa ha=>p (.tup [.int (i / j),.int (i%j)]) _ _ _ (.new ha) (rh.new ha) ⟨a,_,rfl,ji,.cons rfl (.cons rfl .nil)⟩ q⟩
def zn (d:D)(a b:P1):M7:=match d with
 | .int x=>decide (a<=x)&&decide (x<=b)
 |_=>false
def Em (x m:P1):decide (x<m)=decide (x<=m-1):=by
 by_cases h:x<m
 ·rw [D3 h,D3 (by omega)]
 ·rw [D9 h,D9 (by omega)]
end L2
set_option maxRecDepth 35000
namespace L2
open PySem PySem.Spec PyProof.Rows PySem.SeqAt
section
variable {α:Type}{i i':G5}{js:G0 G5}{ti:TID}{te:TED}{σ:SD}{h:HD}{Q:KD}{j:İ}
def kh (xs:G0 α)(c c' g:α->D)(p:α->M7){tt:TTD}(hz:xs.length<=1000)(hj:j h=some (xs.map λx=> .tup [c x,c' x]))(ht: ∀R:İ->HD->Prop,R j h->ti σ h R)
 (hp: ∀x∈xs,∀Q':M7->HD->Prop,Q' (p x) h->tt (((jJ js σ).set i (some (c x))).set i' (some (c' x))) h Q')(he: ∀x∈xs,p x=true-> ∀Q':KD,Q' (g x) h->te (((jJ js σ).set i (some (c x))).set i' (some (c' x))) h Q')(hq: ∀a,h a=none->Q (.lst a) (zF h a ((xs.filter p).map g))):yV (b2 i i') js ti tt te σ h Q:=by
 refine ht _ ⟨xs.length,λk ys h'=>h'=h/\ys=((xs.take k).filter p).map g,⟨rfl,by simp⟩,?_⟩;rintro k ys h' ⟨rfl,rfl⟩;refine⟨?_,_,hj,by simp,λhl a ha=> ?_,λd hd=> ?_⟩
 ·have:=Q4 p (xs.take k);simp only [G2,N0] at this ⊢;exact S6 (jw (by omega))
 ·rw [N2 (by simpa using hl)];exact hq a ha
 ·rw [P7] at hd;cases hx:xs[k]? with
  |none=>rw [hx] at hd;cases hd
  |some x=>
   rw [hx] at hd;cases hd;refine⟨_,⟨_,_,rfl,rfl⟩,?_⟩;refine hp x (P9 hx) _ ?_;cases hb:p x with
   |true=>
    rw [R8 rfl];refine he x (P9 hx) hb _ ⟨_,Sub.refl _,rfl,?_⟩;rw [E7,hx];simp [hb]
   |false=>
    rw [R9 (by decide)];refine⟨_,Sub.refl _,rfl,?_⟩;rw [E7,hx];simp [hb]
end
noncomputable def Re (T:G0 (G0 P1))(n p:G5):G0 G5:=(P4 n).filter λj=>decide (Ï T p j>0)
noncomputable def cnt (T:G0 (G0 P1))(n o:G5):G5->G5->P1
 |0,p=>if p=o then 1 else 0
 |t+1,p=>((Re T n p).map (cnt T n o t)).sum
section
variable {T:G0 (G0 P1)}{n o:G5}
noncomputable def ki (T:G0 (G0 P1))(n o t p:G5):G5:=(Re T n p).findIdx λj=>decide (cnt T n o t j>0)
def nxt (T:G0 (G0 P1))(n o t p:G5):G5:=(Re T n p).getD (ki T n o t p) 0
end
def Nr {α:Type}{xs:G0 α}{x:α}(h1:1<=xs.length)(h:xs[xs.length-1]? =some x):Ċ xs (-1)=some x:=by
 unfold Ċ ζ;rw [R9 (by decide),R8 (by omega)];show xs[(-1+(xs.length:P1)).toNat]? =_;rw [show (-1+(xs.length:P1)).toNat=xs.length-1 by omega];exact h
end L2
namespace L2
open PySem PySem.Spec PyProof.Rows
def Í.there {P:S8}{w:B0}{H:Hp}{h:C7}{a:G9}{o:HO}(x:Í P w H h a o): ∃u,h.get? a=some u:=by
 cases o with
 |lst xs=>obtain⟨_,_,_,_,e⟩:=x;exact⟨_,e⟩
 |tup xs=>obtain⟨_,_,_,p⟩:=x;obtain⟨o,e,_⟩:=p;exact⟨_,e⟩
 |dK Ã=>obtain⟨_,_,_,_,o,_,_,e,_⟩:=x;exact⟨_,e⟩
 |dT Ã=>obtain⟨_,_,_,_,o,_,_,e,_⟩:=x;exact⟨_,e⟩
 |set S n=>obtain⟨o,_,_,_,e,_⟩:=x;exact⟨_,e⟩
 |ins C dx fs=>obtain⟨_,_,_,e,_⟩:=x;exact⟨_,e⟩
 |own y=>obtain⟨_,e⟩:=x;exact⟨_,e⟩
 |xd fs=>obtain⟨_,⟨_,_,_,e,_⟩,_⟩:=x;exact⟨_,e⟩
 |rng lo hi=>obtain⟨_,_,_,e⟩:=x;exact⟨_,e⟩
 |frz ob u=>obtain⟨e,_⟩:=x;exact⟨_,e⟩
 |tbl ps=>exact⟨_,(show h.get? a=some _ from x)⟩
 |met f y=>exact⟨_,(show h.get? a=some _ from x)⟩
 |ext φ=>obtain⟨_,⟨_,e⟩,_⟩:=x;exact⟨_,e⟩
theorem zg {h b b':C7}: ∀ {l:G0 Env},h.FunFrames b l->(∀a∈Ĉ l,b'.get? a=none)->h.FunFrames b' l
 | [],_,_=>trivial
 |env::r,⟨hk,⟨L,o,hf,_,ho,hd⟩,hr⟩,n=>by
  refine⟨hk,⟨L,o,hf,n L ?_,ho,hd⟩,zg hr λa ha=>n a ?_⟩
  ·unfold Ĉ;rw [X1,hf];exact .head _
  ·unfold Ĉ;rw [X1,hf];exact .tail _ ha
structure Fly (h0:C7)(H:Hp)(h:C7)(x C:G9):Prop where
 ex: ∃ (oe:Obj) (vs:T6 G1) (a0:G1) (T:G9) (oT:Obj) (ts:T6 G1),h.get? x=some oe/\oe.cls= .ref C/\oe.data= .fields vs/\vs[0]? =some a0/\vs[1]? =some (.ref T)/\T≠x/\
  h.get? T=some oT/\oT.data= .fields ts/\ts[3]? =some .none/\H T=none/\h0.get? T=none
 nx:H x=none
 n0:h0.get? x=none
def Ķ (P:S8)(w:B0):CXT:=λouter H s E e s'=> ∃x C H',e= .ref x/\s'.os=s.os/\iU s'.gens/\Un (Ĉ outer) [] H H' s.heap s'.heap/\ù P w H' s'.heap/\Fly s.heap H' s'.heap x C/\E (.ref C) none H'
structure Rz0 (X:Cx):Prop where
 stk:X.stack=X.env::X.outer
 fr:X.env.frame=some X.env.locals
 ex:X.ex= []
structure Rz (X:Cx)(E:XK):Prop extends Rz0 X where
 xe: ∀e s',R0 (R7 X.prog X.w) X.A (pV X.env e) (λ_ Γ=>Ķ X.prog X.w X.outer X.H₀ X.s₀ E e Γ) (λe' Γ=>Ķ X.prog X.w X.outer X.H₀ X.s₀ E e' Γ) s'->X.xe e s'
section
variable {X:Cx}{ID:G0 (G9×Obj)}{σ:St}{H:Hp}{s:G3}{E:XK}{x C:G9}
def Rf (I:Inv X ID σ H s)(Z:Rz0 X){ys:G0 G9}(hy: ∀y∈ys,H y=none/\X.s₀.heap.get? y=none){h':C7}
 (kb: ∀b o,s.heap.get? b=some o->b ∉ ys->b ∉ Ĉ (X.env::X.outer)->h'.get? b=some o)
 (up: ∀b o,s.heap.get? b=some o->b∈Ĉ (X.env::X.outer)-> ∃sl,h'.get? b=some {o with slots:=sl}):
 Un X.fs [] X.H₀ H X.s₀.heap h'/\ù X.prog X.w H h'/\
  ∀T oT ts,h'.get? T=some oT->oT.data= .fields ts->(∀o,s.heap.get? T=some o->T∈ys\/T∈Ĉ (X.env::X.outer))->H T=none/\X.s₀.heap.get? T=none:=by
 have nex: ∀b,b ∉ X.ex:=λb=>by rw [Z.ex];simp
 have neL: ∀b o,X.s₀.heap.get? b=some o->b≠X.env.locals:=λb o e=>M8 (T5 (D2 e) I.ok.above)
 have mem: ∀b,b∈Ĉ (X.env::X.outer)↔b=X.env.locals\/b∈X.fs:=λb=>by
  show b∈List.filterMap _ _↔_;rw [X1,Z.fr];exact D5
 have nys: ∀b o,X.s₀.heap.get? b=some o->b ∉ ys:=λb o e z=>by rw [(hy b z).2] at e;cases e
 have trf: ∀b u,H b=some u->b ∉ ys/\b ∉ Ĉ (X.env::X.outer):=λb u e=>by
  refine⟨λz=> ?_,λz=> ?_⟩
  ·rw [(hy b z).1] at e;cases e
  ·have:=I.stkFree b (by rw [Z.stk];exact z);rw [this] at e;cases e
 refine⟨⟨λb o e n hb hx=> ?_,λb o e n hb hx=> ?_,λb o e n hx=>I.base.free b o e n (nex b),λb o e hx=> ?_,I.base.tups,I.base.frzs,I.base.tbls⟩,λa o e=> ?_,λT oT ts hT hd hn=>⟨?_,?_⟩⟩
 ·exact kb b o (I.base.keep b o e n hb (nex b)) (nys b o e) λz=>((mem b).mp z).elim (neL b o e) hb
 ·obtain⟨sl,e1⟩:=I.base.slot b o e n hb (nex b);obtain⟨ŋ,e2⟩:=up b _ e1 ((mem b).mpr (.inr hb));exact⟨ŋ,e2⟩
 ·obtain⟨o',e1⟩:=I.base.there b o e (nex b)
  by_cases hb:b∈Ĉ (X.env::X.outer)
  ·obtain⟨sl,e2⟩:=up b o' e1 hb;exact⟨_,e2⟩
  ·exact⟨_,kb b o' e1 (nys b o e) hb⟩
 ·refine(I.hok a o e).stay (λb u hb q=> ?_) (λ_ q=>q) λ_ _ q=>q
  rcases hb with rfl|hb
  ·exact kb b u q (trf b _ e).1 (trf b _ e).2
  ·exact kb b u q (trf b _ hb).1 (trf b _ hb).2
 ·cases q:H T with
  |none=>rfl
  |some u=>
   obtain⟨o,e⟩:=(I.hok T u q).there;exact absurd (hn o e) λz=>z.elim (trf T u q).1 (trf T u q).2
 ·cases q:X.s₀.heap.get? T with
  |none=>rfl
  |some o=>
   exfalso;obtain⟨o',e1⟩:=I.base.there T o q (nex T);rcases hn o' e1 with z|z
   ·exact nys T o q z
   ·rcases (mem T).mp z with z'|z'
    ·exact neL T o q z'
    ·obtain⟨_,o2,e2,nd⟩:=(show s.heap.FunFrames X.base (X.env::X.outer) from Z.stk ▸ I.stack).mem z;obtain⟨sl,e3⟩:=up T o2 e2 z;rw [hT] at e3;cases e3;exact nd ts hd
def Rg {Q:Unit->G3->Prop}{M:iP}{EE:G1->G3->Prop}(I:Inv X ID σ H s)(Z:Rz X E)(fl:Fly X.s₀.heap H s.heap x C)
 (k: ∀h',Un X.fs [] X.H₀ H X.s₀.heap h'->ù X.prog X.w H h'->Fly X.s₀.heap H h' x C->Q () {s with heap:=h'}):R0 M X.A (pV X.env (.ref x)) Q EE s:=by
 obtain⟨oe,vs,a0,T,oT,ts,he,hc,hd,h0,h1,hTx,hT,hTd,h3,hHT,h0T⟩:=fl.ex;have hfr:X.A.frames=some (X.env::X.outer):=by rw [I.ok.frames,Z.stk]
 have stk:s.heap.FunFrames X.base (X.env::X.outer):=Z.stk ▸ I.stack;have ff:s.heap.FunFrames (fB s.heap (x::T::Ĉ (X.env::X.outer))) (X.env::X.outer):=zg stk λa ha=>bM _ (.tail _ (.tail _ ha))
 refine wpAny_leaves_onW (base:=fB s.heap (x::T::Ĉ (X.env::X.outer))) (cls:= .ref C) (a0:=a0) hfr Z.fr
  ⟨λb o e=>i4 _ e,bM _ (.head _),ff,oe,vs,T,oT,ts,he,⟨hc,h0⟩,hd,h1,bM _ (.tail _ (.head _)),hTx,hT,hTd,h3⟩ λh' X1j hup=> ?_
 obtain⟨st,_,_,oe',vs',T',oT',ts',he',⟨Ļ,h0'⟩,ω,h1',hTB,X0G,Ζ,Ŧ,h3'⟩:=X1j;obtain⟨r1,r2,r3⟩:=Rf (ys:= [x,T]) (h':=h') I Z.toRz0 (λy hy=>by
  rcases D5.mp hy with rfl|hy
  ·exact⟨fl.nx,fl.n0⟩
  ·rcases D5.mp hy with rfl|hy
   ·exact⟨hHT,h0T⟩
   ·cases hy) (λb o e n1 n2=>st b o (b9 _ e λz=>by
    rcases D5.mp z with rfl|z
    ·exact n1 (.head _)
    ·rcases D5.mp z with rfl|z
     ·exact n1 (.tail _ (.head _))
     ·exact n2 z)) λb o e hb=>by
  obtain⟨_,o2,e2,nd⟩:=stk.mem hb;rw [e] at e2;cases e2;exact hup b o e nd
 obtain⟨q1,q2⟩:=r3 T' oT' ts' Ζ Ŧ λo e=>by
  by_cases z:T'∈Ĉ (X.env::X.outer)
  ·exact .inr z
  ·refine .inl ?_
   by_cases z1:T'=x
   ·rw [z1];exact .head _
   ·by_cases z2:T'=T
    ·rw [z2];exact .tail _ (.head _)
    ·rw [b9 _ e (by simp only [D5,not_or];exact⟨z1,z2,z⟩)] at hTB;cases hTB
 exact k h' r1 r2 ⟨⟨oe',vs',a0,T',oT',ts',he',Ļ,ω,h0',h1',X0G,Ζ,Ŧ,h3',q1,q2⟩,fl.nx,fl.n0⟩
def GI {Q:Unit->G3->Prop}{M:iP}{EE:G1->G3->Prop}{h1:C7}{args:G0 G1}(I:Inv X ID σ H s)(Z:Rz X E)(hm:Heap.MadeExcOf s.heap h1 x (.ref C) args)
 (k: ∀h',Un X.fs [] X.H₀ H X.s₀.heap h'->ù X.prog X.w H h'->Fly X.s₀.heap H h' x C->Q () {s with heap:=h'}):R0 M X.A (pV X.env (.ref x)) Q EE {s with heap:=h1}:=by
 have hfr:X.A.frames=some (X.env::X.outer):=by rw [I.ok.frames,Z.stk]
 have stk:s.heap.FunFrames X.base (X.env::X.outer):=Z.stk ▸ I.stack;have ff:s.heap.FunFrames (fB s.heap (Ĉ (X.env::X.outer))) (X.env::X.outer):=zg stk λa ha=>bM _ ha
 refine wpAny_leaves_madeW (base:=fB s.heap (Ĉ (X.env::X.outer))) (h:=s.heap) (s:= {s with heap:=h1}) hfr Z.fr (λb o e=>i4 _ e) ff hm λh' t X1j _ _ hup=> ?_
 obtain⟨st,_,_,oe',vs',T',oT',ts',he',⟨Ļ,h0'⟩,ω,h1',hTB,X0G,Ζ,Ŧ,h3'⟩:=X1j;obtain⟨r1,r2,r3⟩:=Rf (ys:= []) (h':=h') I Z.toRz0 (λy hy=>nomatch hy) (λb o e _ n2=>st b o (b9 _ e n2)) λb o e hb=>by
  obtain⟨_,o2,e2,nd⟩:=stk.mem hb;rw [e] at e2;cases e2;exact hup b o (hm.keeps b o e) nd
 obtain⟨q1,q2⟩:=r3 T' oT' ts' Ζ Ŧ λo e=>by
  by_cases z:T'∈Ĉ (X.env::X.outer)
  ·exact .inr z
  ·rw [b9 _ e z] at hTB;cases hTB
 obtain⟨p1,p2⟩:=r3 x oe' vs' he' ω λo e=>by rw [hm.new] at e;cases e
 exact k h' r1 r2 ⟨⟨oe',vs',_,T',oT',ts',he',Ļ,ω,h0',h1',X0G,Ζ,Ŧ,h3',q1,q2⟩,p1,p2⟩
def TZ (Z:Rz X E):ZI (Ķ X.prog X.w) X E:=by
 intro ID σ H s e s' I ⟨x,C,H',he,os,bare,un,hok,fl,q⟩;subst he;obtain⟨hh,g,d,t,os'⟩:=s';obtain rfl:os'=s.os:=os;have I':=I.call (h':=hh) (g':=g) (d':=d) (t':=t) (ch:= []) un hok bare (λb z=>absurd z (by simp));have nex: ∀b,b ∉ X.ex:=λb=>by rw [Z.ex];simp
 have f0: ∀b,s.heap.get? b=none->X.s₀.heap.get? b=none:=λb n=>by
  cases q:X.s₀.heap.get? b with
  |none=>rfl
  |some o=>obtain⟨o',e⟩:=I.base.there b o q (nex b);rw [n] at e;cases e
 have fl':Fly X.s₀.heap H' hh x C:=by
  obtain⟨⟨oe,vs,a0,T,oT,ts,a1,a2,a3,a4,a5,a6,a7,a8,a9,a10,a11⟩,nx,n0⟩:=fl;exact⟨⟨oe,vs,a0,T,oT,ts,a1,a2,a3,a4,a5,a6,a7,a8,a9,a10,f0 _ a11⟩,nx,f0 _ n0⟩
 exact Z.xe _ _ (Rg I' Z fl' λh' u hk f=>⟨x,C,H',rfl,I'.os,I'.bare,u,hk,f,q⟩)
end
end L2
namespace L2
open PySem PySem.Spec PyProof.Rows PySem.W
noncomputable def Zo (cells:G0 (Str×G9)):G0 (Str×NameKind)->G0 (Str×G9)->G0 (Str×G9)
 | [],cs=>cs
 |(n,k)::r,cs=>Zo cells r (if k== .free then (match cells.lookup n with|some c=>(n,c)::cs|none=>cs) else cs)
theorem wV {env:Env}: ∀ (names:G0 (Str×NameKind)) (cs:G0 (Str×G9)),(∀n,(n,A3)∈names-> ∃c,env.cells.lookup n=some c)->
 (forIn names cs (λ(x:Str×NameKind) (r:G0 (Str×G9))=>do
  let (name,kind):=x
  if kind== .free then
   let c <-G0L env name
   pure (cS ((name,c)::r))
  else pure (cS r)):Sem (G0 (Str×G9)))=pure (Zo env.cells names cs)
 | [],cs,_=>rfl
 |(n,k)::r,cs,h=>by
  rw [fF]
  by_cases hk:(k==A3)=true
  ·have hk':k= .free:=eq_of_beq hk;subst hk';obtain⟨c,hc⟩:=h n (.head _);unfold Zo;simp only [X8,f8,G0L,hc,pure_bind];exact wV r _ λn hn=>h n (.tail _ hn)
  ·unfold Zo;simp only [hk,mC,pure_bind];exact wV r _ λn hn=>h n (.tail _ hn)
variable {scope:K1}
def Wc {env:Env}(h: ∀n,(n,A3)∈scope.names-> ∃c,env.cells.lookup n=some c):kL scope env=pure (Zo env.cells scope.names []):=by
 have:=wV (env:=env) scope.names [] h;unfold kL
 first
  |exact this
  |simpa using this
theorem wP {cells:G0 (Str×G9)}: ∀ (names:G0 (Str×NameKind)) (cs:G0 (Str×G9)),(∀x c,cs.lookup x=some c->cells.lookup x=some c)-> ∀x c,(Zo cells names cs).lookup x=some c->cells.lookup x=some c
 | [],_,h,x,c,e=>h x c e
 |(n,k)::r,cs,h,x,c,e=>by
  unfold Zo at e;refine wP r _ (λy d hy=> ?_) x c e;split at hy
  ·split at hy
   ·rename_i c' Ļ;rw [E3] at hy
    by_cases q:(y==n)=true
    ·rw [q] at hy;cases hy;rw [eq_of_beq q];exact Ļ
    ·simp only [q] at hy;exact h y d hy
   ·exact h y d hy
  ·exact h y d hy
theorem Wd {cells:G0 (Str×G9)}: ∀ (names:G0 (Str×NameKind)) (cs:G0 (Str×G9)) (x:Str),((x,A3)∈names/\(∃c,cells.lookup x=some c)\/ ∃c,cs.lookup x=some c)-> ∃c,(Zo cells names cs).lookup x=some c
 | [],_,x,h=>h.elim (λz=>nomatch z.1) id
 |(n,k)::r,cs,x,h=>by
  unfold Zo;refine Wd r _ x ?_;rcases h with ⟨hm,c,hc⟩|⟨c,hc⟩
  ·rcases D5.mp hm with q|q
   ·cases q;right;simp only [X8,f8,hc];exact⟨c,by simp⟩
   ·exact .inl ⟨q,c,hc⟩
  ·right;split
   ·split
    ·rename_i c' Ļ
     by_cases q:(x==n)=true
     ·exact⟨c',by rw [E3,q]⟩
     ·exact⟨c,by rw [E3];simp only [q];exact hc⟩
    ·exact⟨c,hc⟩
   ·exact⟨c,hc⟩
structure Ł (sc:K1):Prop where
 kind:sc.kind= .function
 co:sc.isCoroutine=false
 gen:sc.isGenerator=false
 nocell: ∀y∈sc.names,y.2≠ .cell/\y.2≠ .local
def WN:oJ:= {posonlyargs:= [],args:= [],vararg:=none,kwonlyargs:= [],kw_defaults:= [],kwarg:=none,defaults:= []}
def Uk {a0 b0:G5}{c:G1}: ∀l:G0 G1,gX l->gX (l++ [A7 a0,A7 b0,c]):=by
 intro l h
 fun_induction gX l with
 |case1=>simp [gX,A7]
 |case2 a t b u x rest ih=>simp only [Q1,gX];exact ih h
 |case3 l h1 h2=>exact h.elim
def GJ {p:Pos}{a0 b0:G5}{c cv:G1}: ∀l:G0 G1,gX l->mE p (l++ [A7 a0,A7 b0,c])=some cv->mE p l=some cv\/cv=c:=by
 intro l h e
 fun_induction gX l with
 |case1=>
  right;simp only [O2,mE,A7] at e;split at e
  ·exact(E2 e).symm
  ·cases e
 |case2 a t b u x rest ih=>
  simp only [Q1,mE] at e ⊢;split at e
  ·rename_i hc;left;rw [R8 hc];exact e
  ·rename_i hc;rw [R9 hc];exact ih h e
 |case3 l h1 h2=>exact h.elim
def ŧ (H:Hp)(cv:G1)(q:Str):Prop:= ∃ (c:G9) (o:Obj) (vs:T6 G1) (t:Tok),cv= .ref c/\H c=some (.frz o (.own 0))/\o.data= .fields vs/\vs[1]? =some (.str q t)
variable {w:B0}{H:Hp}{q:Str}
def ŧ.rec {P:S8}{h:C7}{cv:G1}(x:ŧ H cv q)(ok:ù P w H h):h.CodeRec cv q:=let ⟨c,o,vs,t,e,e2,r⟩:=x;⟨c,o,vs,t,e,(ok c _ e2).1,r⟩
section
variable {X:Cx}{ID:G0 (G9×Obj)}{σ:St}{H:Hp}{s:G3}
def Nt {M:iP}{A:T8}{E:G1->G3->Prop}{Q:G1->G3->Prop}{body:M9}{scope:K1}{pos:Pos}{c P:G9}{ps:T6 G1}{X1B:G0 (Str×G9)}(I:Inv X ID σ H s)(B:Bm X.mg X.base)
 (Μ:X.env.code= .ref c)(hc:codeHdIn X.K c P=true)(hP:H P=some (.tbl ps))(hps:Ă H ps)(hcl:kL scope X.env=pure X1B)
 (k: ∀ (f:G9) (q qual:Str) (pm cv ź:G1) (H':Hp) (h':C7) (tk:Tok),Inv X ID σ H' {s with heap:=h',toks:=tk}->Kept H H'->(∀a o,H a=some o->(∀ł,o≠ .tbl ł)->H' a=some o)->
  (∀a ł,H a=some (.tbl ł)->a≠P->H' a=some (.tbl ł))->(∃ł,H' P=some (.tbl ł)/\Ă H' ł)->
  h'.get? f=some {cls:= .type "function",data:= .func (kla_fn "<lambda>" qual WN body scope X1B pm cv ź)}->ŧ H' cv q->H' f=none->(∀x d,X.env.cells.lookup x=some d->d≠f)->f≠X.env.locals->f ∉ X.fs->Q (.ref f) {s with heap:=h',toks:=tk}):
 R0 M A (A2 (.Lambda WN body scope pos) X.env) Q E s:=by
 have hPg:s.heap.get? P=some (tabObj ps):=I.hok P _ hP;have C:CodeHd s.heap c P:=codeHd_of_K I.kIn hc;have hgs:s.heap.Ns mainGlobals X.mg:=I.mod.glob.keeps I.bk;obtain⟨bm,ob,b1,b2,b3,b4,b5,b6⟩:=B;have bb:=I.bs _ _ b3;have hgP:mainGlobals≠P:=λq=>by
  obtain⟨o,es,ep,e,hd,_⟩:=hgs;rw [q,hPg] at e;cases e;cases hd
 have hbP:bm≠P:=λq=>by rw [q,hP] at bb;cases bb.2
 have hbG:bm≠mainGlobals:=λq=>by
  obtain⟨o,es,ep,e,hd,_⟩:=hgs;rw [q,e] at bb;cases bb.1;rw [hd] at b6;cases b6
 have BA:s.heap.BuiltinsAt X.mg P:=⟨bm,ob,b1,b2,hbG,hbP,bb.1,b4,b5,b6⟩;have away: ∀f,s.heap.objs.size<=f->(∀x d,X.env.cells.lookup x=some d->d≠f)/\f≠X.env.locals/\f ∉ X.fs:=λf hf=>⟨λx d e z=>by
  obtain⟨v,o,ho,_⟩:=I.cell x d e;exact absurd (T5 (D2 ho) (z ▸ hf)) (B1 _),λz=>absurd (T5 I.lt (z ▸ hf)) (B1 _),I.nofs hf⟩
 refine kla_eval rfl ?_;cases hf:mE pos ps.toList with
 |none=>
  refine kla_makeFunction (mg:=X.mg) hcl I.ok.glob hgs Μ C hPg hps.1 hf hgP BA λc' ź h' tk hx hge μ X1U htb=> ?_
  have hP':P<s.heap.objs.size:=D2 hPg;have hcP:c'≠P:=Y3 (T5 hP' hge);have ν:H c'=none:=I.hok.fresh hge;obtain⟨c₂,oc,vs,t,e2,hoc,hd,hv⟩:=X1U;cases e2;have X0H:s.heap.objs.size<=h'.objs.size:=S6 (V8 hge μ);have kp: ∀ (o2:Obj) b o,b≠P->s.heap.get? b=some o->(h'.push o2).get? b=some o:=λo2 b o nb e=>G7 _ (hx b o nb e)
  have hnP: ∀b u,H b=some u->(∀ł,u≠ .tbl ł)->b≠P:=λb u e n z=>by rw [z,hP] at e;cases e;exact n _ rfl
  have look: ∀b,b≠P->b≠c'->upd (upd H c' (.frz oc (.own 0))) P (.tbl (ps++ #[A7 pos.line,A7 pos.col,.ref c'])) b=H b:=λb n1 n2=>by rw [jf n1,jf n2]
  have ncs: ∀b u,H b=some u->b≠c':=λb u e z=>by rw [z,ν] at e;cases e
  have frzs: ∀b o u,H b=some (.frz o u)->upd (upd H c' (.frz oc (.own 0))) P (.tbl (ps++ #[A7 pos.line,A7 pos.col,.ref c'])) b=some (.frz o u):=λb o u e=>by
   rw [look b (hnP b _ e (by intro _ z;cases z)) (ncs b _ e)];exact e
  refine k h'.objs.size (X.env.qual++ "<lambda>") (X.env.qual++ "<lambda>") _ (.ref c') ź (upd (upd H c' (.frz oc (.own 0))) P (.tbl (ps++ #[A7 pos.line,A7 pos.col,.ref c']))) _ tk ?_ ?_ ?_ ?_ ?_ (S4 _ rfl) ⟨c',oc,vs,t,rfl,by rw [jf hcP,ji],hd,hv⟩ ?_ (away _ X0H).1 (away _ X0H).2.1 (away _ X0H).2.2
  ·refine I.un (t':=tk) ⟨λb o e n hb Ÿ=>kp _ b o (λz=>by rw [z,hP] at n;cases n) e,λb o e n hb Ÿ=>⟨o.slots,kp _ b o (λz=>by rw [z,hP] at n;cases n) e⟩,λb o e n Ÿ=> ?_,λb o e Ÿ=> ?_,λb xs e=> ?_,frzs,λb ł e=> ?_⟩ λa o e=> ?_
   ·rw [look b (λz=>by rw [z,hP] at n;cases n) (M8 (T5 (D2 e) hge))];exact n
   ·by_cases z:b=P
    ·rw [z];exact⟨_,G7 _ htb⟩
    ·exact⟨_,kp _ b o z e⟩
   ·rw [look b (hnP b _ e (by intro _ z;cases z)) (ncs b _ e)];exact e
   ·by_cases z:b=P
    ·subst z;rw [hP] at e;cases e;exact⟨_,ji⟩
    ·exact⟨#[],by rw [look b z (ncs b _ e),e];simp⟩
   ·by_cases z:a=P
    ·subst z;rw [ji] at e;cases e;exact G7 _ htb
    ·rw [jf z] at e
     by_cases z2:a=c'
     ·subst z2;rw [ji] at e;cases e;exact⟨G7 _ hoc,⟨oc,G7 _ hoc⟩⟩
     ·rw [jf z2] at e;refine(I.hok a o e).stay (λb u hb q=> ?_) (λb q=> ?_) λb xs q=> ?_
      ·rcases hb with rfl|hb
       ·exact kp _ b u z q
       ·exact kp _ b u (hnP b _ hb (by intro _ z;cases z)) q
      ·rw [look b (hnP b _ q (by intro _ z;cases z)) (ncs b _ q)];exact q
      ·rw [look b (hnP b _ q (by intro _ z;cases z)) (ncs b _ q)];exact q
  ·refine⟨λa xs e=> ?_,λa xs e=>⟨xs,?_⟩,λa kk i e=> ?_,frzs⟩<;>(rw [look a (hnP a _ e (by intro _ z;cases z)) (ncs a _ e)];exact e)
  ·intro a o e n;rw [look a (hnP a _ e n) (ncs a _ e)];exact e
  ·intro a ł e n;rw [look a n (ncs a _ e)];exact e
  ·refine⟨_,ji,?_,λp cv e=> ?_⟩
   ·simp only [L5];exact Uk _ hps.1
   ·simp only [L5] at e;rcases GJ ps.toList hps.1 e with e|e
    ·obtain⟨c1,o,vs',q',t',e1,e2,r⟩:=hps.2 p cv e;exact⟨c1,o,vs',q',t',e1,frzs _ _ _ e2,r⟩
    ·exact⟨c',oc,vs,_,t,e,by rw [jf hcP,ji],hd,hv⟩
  ·have:H h'.objs.size=none:=I.hok.fresh X0H;rw [look _ (Y3 (T5 hP' X0H)) (Y3 μ)];exact this
 |some cv=>
  obtain⟨c1,o,vs,q,t,rfl,e2,hd,hv⟩:=hps.2 pos cv hf;obtain⟨ho,_⟩:=I.hok c1 _ e2;refine kla_makeFunctionHit (mg:=X.mg) hcl I.ok.glob hgs Μ C hPg hps.1 hf BA λź h' tk hk hsz=> ?_
  exact k h'.objs.size q (X.env.qual++ "<lambda>") _ (.ref c1) ź H _ tk (I.kept (t':=tk) λb u e=>G7 _ (hk b u e)) (.refl H) (λ_ _ e _=>e) (λ_ _ e _=>e) ⟨ps,hP,hps⟩ (S4 _ rfl) ⟨c1,o,vs,t,rfl,e2,hd,hv⟩
   (I.hok.fresh hsz) (away _ hsz).1 (away _ hsz).2.1 (away _ hsz).2.2
end
structure Cap (N:G0 Str)(σ:St)(sc:K1)(cl:G0 (Str×G9))(h:C7)(H:Hp):Prop where
 len:σ.length=N.length
 inj: ∀x y c,cl.lookup x=some c->cl.lookup y=some c->x=y
 has: ∀x,sc.names.lookup x=some .free-> ∃c,cl.lookup x=some c
 cell: ∀x c,cl.lookup x=some c->(∃v,h.IsCell c v)/\H c=none
 loc: ∀ (i:G5) (x:Str) (v:V),N[i]? =some x->σ[i]? =some (some v)->sc.names.lookup x=some .free-> ∃u c,RelV v u/\cl.lookup x=some c/\h.IsCell c (some u)
theorem wo {α β:Type}[BEq α][LawfulBEq α]: ∀ {l:G0 (α×β)} {x:α} {y:β},l.lookup x=some y->(x,y)∈l
 | [],_,_,h=>by cases h
 |(a,b)::r,x,y,h=>by
  rw [E3] at h
  by_cases q:(x==a)=true
  ·rw [q] at h;cases h;rw [eq_of_beq q];exact .head _
  ·simp only [q] at h;exact .tail _ (wo h)
def Rh (sc:K1)(env:Env):Prop:= ∀n,(n,A3)∈sc.names->env.kindOf n=some .cell\/env.kindOf n=some .free
variable {σ:St}{s:G3}
def Cap.of {X:Cx}{ID:G0 (G9×Obj)}{sc:K1}(I:Inv X ID σ H s)(hf:Rh sc X.env):Cap X.N σ sc (Zo X.env.cells sc.names []) s.heap H where
 len:=I.len
 inj:=λx y c h1 h2=>I.ok.inj x y c (wP _ _ (λ_ _ z=>by cases z) _ _ h1) (wP _ _ (λ_ _ z=>by cases z) _ _ h2)
 has:=λx h=>Wd _ _ _ (.inl ⟨wo h,I.ok.has x (hf x (wo h))⟩)
 cell:=λx c h=>⟨I.cell x c (wP _ _ (λ_ _ z=>by cases z) _ _ h),I.freeC x c (wP _ _ (λ_ _ z=>by cases z) _ _ h)⟩
 loc:=λi x v h1 h2 h3=>by
  obtain⟨m,hn,hl⟩:=I.loc;have hk:=hf x (wo h3);obtain⟨u,r,l⟩:=hl i x v h1 h2 (.inr hk);obtain⟨c,hc⟩:=Wd (cells:=X.env.cells) sc.names [] x (.inl ⟨wo h3,I.ok.has x hk⟩);refine⟨u,c,r,hc,?_⟩;have Ļ:=wP _ _ (λ_ _ z=>by cases z) _ _ hc;rcases l with ⟨k,_⟩|⟨_,c2,e,z⟩
  ·rcases hk with k2|k2<;>(rw [k] at k2;cases k2)
  ·rw [Ļ] at e;cases e;exact z
variable {cl:G0 (Str×G9)}
def Cap.step {N:G0 Str}{sc:K1}{h h':C7}{H':Hp}{fs:G0 G9}(C:Cap N σ sc cl h H)(u:Un fs [] H H' h h'):Cap N σ sc cl h' H':=by
 have k: ∀x c v,cl.lookup x=some c->h.IsCell c v->h'.IsCell c v:=λx c v e ⟨o,ho,hd⟩=>by
  obtain⟨sl,q⟩:=u.any ho (C.cell x c e).2 (by simp);exact⟨_,q,hd⟩
 exact⟨C.len,C.inj,C.has,λx c e=>by
  obtain⟨⟨v,z⟩,n⟩:=C.cell x c e;obtain⟨o,ho,_⟩:=id z;exact⟨⟨v,k x c v e z⟩,u.free c o ho n (by simp)⟩,λi x v h1 h2 h3=>let ⟨uu,c,r,e,z⟩:=C.loc i x v h1 h2 h3;⟨uu,c,r,e,k x c _ e z⟩⟩
noncomputable def cxL (CX:CXT)(P:S8)(w:B0)(K:G6)(mg:Str->P5 G1)(base:C7)(N:G0 Str)(q:Str)(scope:K1)(f:G9)(cd:G1)(cl:G0 (Str×G9))(A:T8)(outer:G0 Env)(s:G3)(H:Hp)(E:XK):Cx where
 prog:=P
 w:=w
 K:=K
 mg:=mg
 base:=base
 A:=A.deeper (envX q scope s.heap.objs.size f cd cl)
 N:=N
 s₀:=s
 H₀:=H
 env:=envX q scope s.heap.objs.size f cd cl
 outer:=outer
 stack:=envX q scope s.heap.objs.size f cd cl::outer
 ex:= []
 calm:=true
 fn:=λ_=>false
 pn:= []
 xe:=λe s'=>R0 (R7 P w) (A.deeper (envX q scope s.heap.objs.size f cd cl)) (pV (envX q scope s.heap.objs.size f cd cl) e) (λ_ Γ=>CX outer H s E e Γ) (λe' Γ=>CX outer H s E e' Γ) s'
variable {mg:Str->P5 G1}{base:C7}
def FM {CX:CXT}{P:S8}{K:G6}{N:G0 Str}{f:G9}{cd:G1}{A:T8}{outer:G0 Env}{E:XK}{h₁:C7}{tk:Tok}
 (L:Ł scope)(hd:A.handled=none)(e0:Ō P w K mg base A outer s H)(C:Cap N σ scope cl s.heap H)(hns:h₁.Ns s.heap.objs.size (λ_=>none))(hk: ∀b o,s.heap.get? b=some o->h₁.get? b=some o):
 Inv (cxL CX P w K mg base N q scope f cd cl A outer s H E) [] σ H {s with heap:=h₁,toks:=tk}:=by
 have ε: ∀b:G9,b ∉ (cxL CX P w K mg base N q scope f cd cl A outer s H E).ex:=λb z=>absurd (show b∈([]:G0 G9) from z) (by simp)
 have nofr: ∀y,scope.names.lookup y=some .cell\/scope.names.lookup y=some .free->scope.names.lookup y=some .free:=λy hy=>hy.elim (λz=>absurd rfl (L.nocell _ (wo z)).1) id
 refine⟨⟨e0.mod,L.kind,rfl,rfl,P3 _,λy z c h1 h2=>C.inj y z c h1 h2,λy hy=>C.has y (nofr y hy),λy c z=>(by cases z),λ_=>hd,iC e0.frames,.inr ⟨rfl,rfl⟩,λb z=>absurd z (ε b),e0.bs,e0.bsz,λb _ _=>ε b,λb z=>absurd z (ε b),e0.funs,e0.frf⟩,
  rfl,e0.bare,Un.kept hk,⟨_,hns,λi y v h1 h2 h3=> ?_⟩,λy c h=> ?_,e0.hok.fresh (P3 _),λy c h=>(C.cell y c h).2,λp hp=>absurd (show p∈([]:G0 (G9×Obj)) from hp) (by simp),e0.hok.kept hk,C.len⟩
 ·have h3':scope.names.lookup y=some .free:=by
   rcases h3 with z|z
   ·exact absurd rfl (L.nocell _ (wo z)).2
   ·exact nofr y z
  obtain⟨u,c,r,e,o,ho,ω⟩:=C.loc i y v h1 h2 h3';exact⟨u,r,.inr ⟨.inr h3',c,e,o,hk _ _ ho,ω⟩⟩
 ·obtain⟨⟨v,o,ho,ω⟩,_⟩:=C.cell y c h;exact⟨v,o,hk _ _ ho,ω⟩
def Ri {prog:S8}{A:T8}{R:nQ->G3->Prop}{f:G9}{o:Obj}{qual:Str}{body:M9}{pm cd ź:G1}(L:Ł scope)(deep:A.depth<recursionLimit)
 (there:s.heap.get? f=some o)(lam:o.data= .func (kla_fn "<lambda>" qual WN body scope cl pm cd ź))(named:s.heap.CodeRec cd q)(lim:s.heap.NoLimit)
 (go: ∀h₁,h₁.Ns s.heap.objs.size (λ_=>none)->(∀b o,s.heap.get? b=some o->h₁.get? b=some o)->
  aK (R7 prog w) A (.expr body (envX q scope s.heap.objs.size f cd cl)) R {s with heap:=h₁,toks:=s.toks+0}):
 aK (R7 prog w) A (.call (.ref f) ⟨[],[]⟩) R s:=by
 obtain⟨c,oc,vs,t,rfl,hoc,hdc,hq⟩:=named;obtain⟨h,g,d,tk,os⟩:=s;have frame:=λ{A':T8} {Q:Env->G3->Prop} {E:G1->G3->Prop} (k: ∀h₁,_->_->Q _ _)=>wpAny_newFunctionEnv (M:=R7 prog w) (A:=A') (s:=⟨h,g,d,tk,os⟩) (E:=E) (scope:=scope) (globals:=mainGlobals) (closure:=cl) (binds:= []) (qual:=q++ ".<locals>.") (func:=some f) (code:= .ref c) (around:=none) (builtins:=i5) (Q:=Q) (λx hx=>(L.nocell x hx).1) (λx hx=>nomatch hx) k L.kind
 refine m7 ?_;show R0 _ A.in1 (callAny (.ref f) ⟨[],[]⟩) _ _ _
 wp_walk using pB there
 rw [lam];have nothing:sZ (kla_fn "<lambda>" qual WN body scope cl pm (.ref c) ź) ⟨[],[]⟩=pure []:=rfl;show R0 _ _ (xP f (kla_fn "<lambda>" qual WN body scope cl pm (.ref c) ź) ⟨[],[]⟩) _ _ _;unfold xP;rw [nothing];show R0 _ _ (field (.ref c) 1 >>= _) _ _ _;refine wpAny_bind (nU hoc hdc hq ?_)
 repeat refine wpAny_bind (P2 ?_)
 refine wpAny_bind (frame λh₁ empty same=>wpAny_bind (wpAny_enterFrame (lim.fresh _ same) deep ?_));simp only [kla_fn,L.co,L.gen];exact P2 ⟨rfl,go h₁ empty λb o old=>same.extBut _ _ (λz=>absurd (D2 old) (by rw [z];exact B1 _)) (G7 _ old)⟩
def FN {CX:CXT}{P:S8}{K:G6}{N:G0 Str}{qual:Str}{f:G9}{cd pm ź:G1}{A:T8}{outer:G0 Env}{E:XK}{o:Obj}{body:M9}{t:TE}{Q:VK}{k:G5}
 (L:Ł scope)(hr:Î (k+1) A)(e0:Ō P w K mg base A outer s H)(C:Cap N σ scope cl s.heap H)(ho:s.heap.get? f=some o)(hd:o.data= .func (kla_fn "<lambda>" qual WN body scope cl pm cd ź))(hc:ŧ H cd q)
 (hb:PE (cxL CX P w K mg base N q scope f cd cl A outer s H E) body t)(ht:t σ H Q):aK (R7 P w) A (.call (.ref f) ⟨[],[]⟩) (CR CX outer P w H s Q E) s:=by
 have lim:s.heap.NoLimit:=e0.mod.nolimit.keeps λb o e=>(e0.bs b o e).1
 refine Ri L hr.depth ho hd (hc.rec e0.hok) lim λh₁ hns X1k=> ?_
 have I:=FM (CX:=CX) (q:=q) (f:=f) (cd:=cd) (E:=E) (tk:=s.toks+0) L hr.hd e0 C hns X1k;refine kla_codeExpr (M0 (hb [] _ σ H Q I ht) (λv s' hs=> ?_) λ_ _ y=>y);obtain⟨v',H',J,rv,q'⟩:=hs;exact⟨v',H',J.os,J.bare,J.base,J.hok,rv,q'⟩
abbrev TXD:=SD->HD->(Str->HD->Prop)->Prop
def WX (X:Cx)(E:XK)(H:Hp)(R:Str->HD->Prop):Prop:= ∀c C h' H',Kept H H'->Ä X.K h' H'->X.mg c=some (.ref C)->R c h'->E (.ref C) none H'
def WX.mono {X:Cx}{E:XK}{H':Hp}{R:Str->HD->Prop}(w:WX X E H R)(k:Kept H H'):WX X E H' R:=λc C h2 H2 k2=>w c C h2 H2 (k.trans k2)
structure JX (X:Cx)(sts:G0 A6)(t:TXD):Prop where
 to: ∀ (E:XK),Rz X E-> ∀ (ID:G0 (G9×Obj)) (s:G3) (σ:St) (H:Hp) (Â:SD) (h:HD) (R:Str->HD->Prop),Inv X ID σ H s->Ì X.K H Â σ->Ä X.K h H->t Â h R->WX X E H R->
  R0 (R7 X.prog X.w) X.A (execs sts X.env) (λ_ _=>False) X.xe s
structure JXE (X:Cx)(e:M9)(t:TXD):Prop where
 to: ∀ (E:XK),Rz X E-> ∀ (ID:G0 (G9×Obj)) (s:G3) (σ:St) (H:Hp) (Â:SD) (h:HD) (R:Str->HD->Prop),Inv X ID σ H s->Ì X.K H Â σ->Ä X.K h H->t Â h R->WX X E H R->
  R0 (R7 X.prog X.w) X.A (A2 e X.env) (λ_ _=>False) X.xe s
def JS.nox {X:Cx}{st:A6}{t:TSD}(h:JS X.nox st t):JS X st t:=⟨λID s σ H D I hw=>
 M0 (h.to ID s σ H D (I.wish _) hw) (λ_ _ q=>q.unwish) λ_ _ z=>False.elim z⟩
def kj (t:TSD)(u:TXD):TXD:=λσ h R=>t {nx:=λIO h'=>u IO h' R,rt:=λ_ _=>False} σ h
def xIf (t:TTD)(u:TXD):TXD:=λσ h R=>t σ h λk h'=>k=true/\u σ h' R
def xRz (c:Str):TXD:=λ_ h R=>R c h
abbrev RDx:=G0 D->HD->(Str->HD->Prop)->Prop
def En (Ŗ:RDx)(t:TAD):TXD:=λσ h R=>t σ h λds h1=>Ŗ ds h1 R
def Rj (mg:Str->P5 G1)(K:G6)(Ŗ:RDx):Sp:=λvs H _ E=> ∃ds h R,À K H ds vs/\Ä K h H/\Ŗ ds h R/\ ∀c C h' H',Kept H H'->Ä K h' H'->mg c=some (.ref C)->R c h'->E (.ref C) none H'
noncomputable def bmV:G0 G1:= [.type "ValueError",.type "Exception",.type "BaseException",.type "object"]
def Nu {K:Frag}(P:S8)(M:Mod K mg base): ∃loose mb,TopRead P loose mg mb base:=by
 obtain⟨mb,laid,boot⟩:=M.blt;obtain⟨o,es,ep,at_,isd,texts,X1l⟩:=id M.glob;refine⟨es.toList.filterMap λe=>match e.key with| .str n _=>some n|_=>none,mb,M.glob,laid,M.nolimit,boot,λx _ out _ _ _=> ?_⟩;rw [<-X1l x];cases hit:nsFind es x with
 |none=>rfl
 |some v=>
  refine absurd ?_ out;unfold nsFind findBy at hit;obtain⟨e,hf,_⟩:=F8.mp hit;have isx:e.key.isStr x=true:=Array.find?_some (p:=λ(e:DictEntry)=>e.key.isStr x) hf;have mem:=Array.mem_of_find?_eq_some hf;obtain⟨n,t,ek⟩:=texts e mem;rw [ek] at isx;have nx:n=x:=by simpa [Value.isStr] using isx
  exact aR.mpr ⟨e,by simpa using mem,by rw [ek,nx]⟩
def X0Y (K:G6)(mg:Str->P5 G1)(c:Str):Prop:= ∃C,mg c=some (.ref C)/\nsIn K mainGlobals c=some (some (.ref C))/\excIn K C bmV "ValueError.__new__" =true
def X0Y.at {K:Frag}{h:C7}{c:Str}(P:S8)(O:X0Y K mg c)(M:Mod K mg base)(kept: ∀b o,base.get? b=some o->h.get? b=some o): ∃C,mg c=some (.ref C)/\OwnCls c C bmV "ValueError.__new__" mg h:=
 let ⟨C,hm,hn,hx⟩:=O
 let ⟨_,_,T⟩:=Nu P M
 ⟨C,hm,(own_of_in M.kin T hn hx).keeps kept⟩
section
variable {X:Cx}{c:M9}{e:M9}{es:G0 M9}{st:A6}{a b rest:G0 A6}{t:TSD}{tt:TTD}{u:TXD}{ta:TAD}{pos p:Pos}
def FO (hs:JS X st t)(hr:JX X rest u):JX X (st::rest) (kj t u):=⟨λE Z ID s σ H Â h R I rs rh ht w=>by
 refine Q0 (Ñ (hs.to ID s σ H {nx:=λIO H'=> ∃Ð h',Kept H H'/\Ì X.K H' Ð IO/\Ä X.K h' H'/\u Ð h' R,rt:=λ_ _=>False} I
  ⟨Â,h,_,rs,rh,ht,λÐ h' IO H' k Ε ï q=>⟨Ð,h',k,Ε,ï,q⟩,λ_ _ _ _ _ _ _ q=>q,λ_ _ _ _ _ _ _ q=>q,λ_ _ _ _ _ _ _ q=>q⟩) λf s1 q=> ?_)
 cases f with
 |next=>
  obtain⟨IO,H',I',Ð,h',k,Ε,ï,q⟩:=q;exact hr.to E Z ID s1 IO H' Ð h' R I' Ε ï q (w.mono k)
 |ret v=>obtain⟨_,_,_,_,_,q⟩:=q;exact q
 |brk=>obtain⟨_,_,_,q⟩:=q;exact q
 |cont=>obtain⟨_,_,_,q⟩:=q;exact q⟩
def FP (hc:JT X c tt)(ha:JX X a u):JX X (.If c a b pos::rest) (xIf tt u):=⟨λE Z ID s σ H Â h R I rs rh ht w=>by
 refine Q0 (M0 (y8 (Q:=λ_ _=>False) (Ñ (hc.to ID s σ H (λk H'=>k=true/\ ∃h',Kept H H'/\Ì X.K H' Â σ/\Ä X.K h' H'/\u Â h' R) I
  ⟨Â,h,_,rs,rh,ht,λk h' H' kp ï q=>⟨q.1,h',kp,rs.mono kp,ï,q.2⟩⟩) λd s1 q=> ?_)) (λ_ _ z=>z.elim) λ_ _ z=>z)
 obtain⟨H',I',rfl,h',kp,Ε,ï,q⟩:=q;exact ha.to E Z ID s1 σ H' Â h' R I' Ε ï q (w.mono kp)⟩
def FQ (he:JXE X e u)(hs:aQ e none pos.line X.env=pure false:=by rfl):JX X (.Expr e pos::rest) u:=⟨λE Z ID s σ H Â h R I rs rh ht w=>
 Q0 (sS (M0 (he.to E Z ID s σ H Â h R I rs rh ht w) (λ_ _ z=>z.elim) λ_ _ z=>z) I.quiet hs)⟩
def Eo (he:JXE X e u):JX X (.Return (some e) pos::rest) u:=⟨λE Z ID s σ H Â h R I rs rh ht w=>
 Q0 (pQ (M0 (he.to E Z ID s σ H Â h R I rs rh ht w) (λ_ _ z=>z.elim) λ_ _ z=>z))⟩
def Ep {x:Str}{pos':Pos}(he:JXE X e u)(hs:aQ e (some (.Name x pos')) pos.line X.env=pure false:=by rfl):JX X (.Assign [.Name x pos'] e pos::rest) u:=⟨λE Z ID s σ H Â h R I rs rh ht w=>
 Q0 (lD (M0 (he.to E Z ID s σ H Â h R I rs rh ht w) (λ_ _ z=>z.elim) λ_ _ z=>z) hs)⟩
def Va {x:Str}{np cpos p2:Pos}{m:Str}{j:G5}(hg:Gl X x)(O:X0Y X.K X.mg x)(X1m:X.calm=true)(hd:(x==("__debug__" :Str))=false:=by decide)
 (he:P8 [Expr.Constant (.str m) j p2] X.env=(false,A2 (.Constant (.str m) j p2) X.env)::P8 [] X.env:=by rfl):
 JX X (.Raise (some (.Call (.Name x np) [.Constant (.str m) j p2] [] cpos)) none pos::rest) (xRz x):=⟨λE Z ID s σ H Â h R I rs rh ht w=>by
 obtain⟨C,hm,own⟩:=O.at X.prog I.mod I.bk;refine Q0 (M0 (?_:R0 _ _ _ (λ_ _=>False) _ _) (λ_ _ z=>z.elim) λ_ _ z=>z);obtain⟨_,_,_,_,_,_,_,_,_,_,_,_,_,_,_,_,_,isC,laid,X0I,tail⟩:=own.obj;refine' wpAny_Raise_call_subT tO (tail.hasType PySem.F.excBase_ValueError.hasBase) (I.ok.hd X1m) (by rw [he];rfl) X0I (Jx I hg hm ⟨rfl,?_⟩ hd)
 rotate_right 1
 rw [he];refine iD (aT (u3 (k:=j) (pos:=p2) (fZ ⟨rfl,(by show 1<=sizeLine;decide),isC,laid,tail,λh' e hme=> ?_⟩)));refine Z.xe _ _ (GI (s:= {s with toks:=s.toks+1}) (I.tok _) Z hme λh2 un hok fl=> ?_);exact⟨e,C,H,rfl,I.os,I.bare,un,hok,fl,w x C h H (.refl H) rh hm ht⟩⟩
def FR {k:G5}{f:G9}{fd:M6}{ps:G0 Str}{Ŗ:RDx}{x:Str}(F:È X.prog X.w X.K X.mg X.base (Ķ X.prog X.w) k f fd ps (Rj X.mg X.K Ŗ))(hr:Î k X.A)(hg:Gl X x)(hm:X.mg x=some (.ref f))(hk:K8 X.K (.ref f)=true)(hb:Binds X.K fd ps [])
 (ha:JA X (e::es) ta)(hdb:(x==("__debug__" :Str))=false:=by decide)(he:P8 (e::es) X.env=(false,A2 e X.env)::P8 es X.env:=by rfl)(hpl:(E1 pos (P8 es X.env)).any (·.1)=false:=by rfl):
 JXE X (.Call (.Name x p) (e::es) [] pos) (En Ŗ ta):=⟨λE Z ID s σ H Â h R I rs rh ht w=>by
 refine Ñ (De F hr hg hm hk hb .nil (TZ Z) ha.to hdb he hpl ID s σ H (λ_ _=>False) I
  ⟨Â,h,_,rs,rh,ht,λds vs h' H' kp ï r q=>by show Rj X.mg X.K Ŗ (vs++ []) H' (λ_ _=>False) E;rw [O9];exact⟨ds,h',R,r,ï,q,λc C h2 H2 k2=>w c C h2 H2 (kp.trans k2)⟩⟩) λ_ _ ⟨_,_,_,_,z⟩=>z⟩
end
section
variable {P:S8}{w:B0}{K:G6}{mg:Str->P5 G1}{base:C7}
def FS {N:G0 Str}{qual:Str}{scope:K1}{f:G9}{cd:G1}{A:T8}{outer:G0 Env}{s:G3}{H:Hp}{E:XK}:Rz (WG (Ķ P w) P w K mg base N qual scope f cd A outer s H E) E:=⟨⟨rfl,rfl,rfl⟩,λ_ _ h=>h⟩
def Eq {N:G0 Str}{q:Str}{scope:K1}{f:G9}{cd:G1}{cl:G0 (Str×G9)}{A:T8}{outer:G0 Env}{s:G3}{H:Hp}{E:XK}:Rz (cxL (Ķ P w) P w K mg base N q scope f cd cl A outer s H E) E:=⟨⟨rfl,rfl,rfl⟩,λ_ _ h=>h⟩
def Þ.okX {x qual:Str}{st:A6}{f:G9}{fd:M6}{N ps:G0 Str}{k:G5}{Ŗ:RDx}(F:Þ K x qual st f fd)(S:Á N ps (jd st))(len: ∀ds h R,Ŗ ds h R->ds.length=ps.length)
 (tb:TXD)(Ò: ∀ (Ë:G1) (A:T8) (outer:G0 Env) (s:G3) (H:Hp) (E:XK),Î k (A.deeper (Q3 qual (jd st) s.heap.objs.size f Ë))->JX (WG (Ķ P w) P w K mg base N qual (jd st) f Ë A outer s H E) (jS st) tb)
 (read: ∀ds h R,Ŗ ds h R->tb (jZ N ds) h R):È P w K mg base (Ķ P w) (k+1) f fd ps (Rj mg K Ŗ):=by
 obtain⟨oc,od,kV,doc,pm,an,Ë,ct,ē,rfl,lk,hcd⟩:=F.ex;refine Cv lk hcd S (λvs H Q E h=> ?_) λA outer s H vs Q E hr Ŝ=> ?_
 ·obtain⟨ds,h,R,r,rh,q,p⟩:=h;rw [<-r.length];exact len _ _ _ q
 ·obtain⟨ds,h,R,r,rh,q,p⟩:=Ŝ;refine⟨λ_ σ H'=>σ=start N vs/\H'=H,λID s' σ H' D I ⟨e1,e2⟩=> ?_,rfl,rfl⟩;subst e1;subst e2;exact M0 ((Ò Ë A outer s H' E hr).to E FS ID s' _ H' (jZ N ds) h R I (yM r) rh (read ds h R q) p) (λ_ _ z=>z.elim) λ_ _ z=>z
end
def vz (P:S8)(w:B0)(K:G6)(mg:Str->P5 G1)(base:C7)(n:G5)(x:Str)(ps:G0 Str)(Ŗ:RDx):Prop:=
 ∃ (g:G9) (gd:M6),È P w K mg base (Ķ P w) n g gd ps (Rj mg K Ŗ)/\Binds K gd ps []/\K8 K (.ref g)=true/\mg x=some (.ref g)
end L2
namespace L2
open PySem PySem.Spec PyProof.Rows
structure Ý (k:G5)(A:T8):Prop where
 dp:A.depth+3*k+5<recursionLimit
 un:A.units+16*k+200<cLine
 gd:A.guards=some []
variable {k:G5}{A:T8}
def Î.u (r:Î k A):Ý k A:=⟨r.dp,r.un,r.gd⟩
def Ý.deeper (r:Ý (k+1) A)(env:Env):Ý k (A.deeper env):=
 ⟨by have:=r.dp;show A.depth+1+3*k+5<_;omega,by have:=r.un;show A.units+3+16*k+200<_;omega,r.gd⟩
def Ý.depth (r:Ý k A):A.depth<recursionLimit:=by have:=r.dp;omega
def Ý.units (r:Ý k A):A.units+64<cLine:=by have:=r.un;omega
structure đ (P:S8)(w:B0)(K:G6)(mg:Str->P5 G1)(base:C7)(CX:CXT)(k:G5)(f:G9)(fd:M6)(ps:G0 Str)(sp:Sp):Prop where
 len: ∀vs H Q E,sp vs H Q E->vs.length=ps.length
 run: ∀ (A:T8) (outer:G0 Env) (s:G3) (H:Hp) (args:Args) (us:G0 G1) (vs:G0 V) (Q:VK) (E:XK),Ý k A->Ō P w K mg base A outer s H->oI s fd args (ps.zip us)->Æ vs us->sp vs H Q E->
  aK (R7 P w) A (.call (.ref f) args) (CR CX outer P w H s Q E) s
section
variable {X:Cx}{CX:CXT}{k:G5}{f C:G9}{fd:M6}{ps:G0 Str}{sp:Sp}{dvs:G0 V}{ds:G0 G1}{E:XK}{x m:Str}{p pos apos:Pos}{e o:M9}{es:G0 M9}{ta:TE}{t:TA}
def FT {ID:G0 (G9×Obj)}{σ:St}{H:Hp}{s:G3}{Q:VK}{us:G0 G1}{vs:G0 V}(F:đ X.prog X.w X.K X.mg X.base CX k f fd ps sp)(hr:Ý k X.A)(hb:Binds X.K fd ps ds)(hd:Æ dvs ds)(hx:ZI CX X E)
 (I:Inv X ID σ H s)(r:Æ vs us)(h:sp (vs++dvs) H Q E):R0 (R7 X.prog X.w) X.A (call (.ref f) us) (EP X ID σ Q) X.xe s:=by
 have r2:Æ (vs++dvs) (us++ds):=r.append hd;have hl:(us++ds).length=ps.length:=by rw [<-r2.length];exact F.len _ _ _ _ h
 refine bY (cJ (F.run X.A X.stack s H ⟨us,[]⟩ (us++ds) (vs++dvs) Q E hr I.env0 (hb s us I.kIn hl) r2 h) λr s' hq=> ?_);cases r with
 |error e=>exact hx ID σ H s e s' I hq
 |ok fl=>
  cases fl with
  |ret u=>exact I.after hq
  |next=>exact False.elim hq
  |brk=>exact False.elim hq
  |cont=>exact False.elim hq
def Nv (F:đ X.prog X.w X.K X.mg X.base CX k f fd ps sp)(hr:Ý k X.A)(hg:Gl X x)(hm:X.mg x=some (.ref f))(hk:K8 X.K (.ref f)=true)(hb:Binds X.K fd ps ds)(hd:Æ dvs ds)(hx:ZI CX X E)
 (ha:PA X (e::es) t)(hdb:(x==("__debug__" :Str))=false:=by decide)(he:P8 (e::es) X.env=(false,A2 e X.env)::P8 es X.env:=by rfl)(hpl:(E1 pos (P8 es X.env)).any (·.1)=false:=by rfl):
 PE X (.Call (.Name x p) (e::es) [] pos) (Cu sp dvs E t):=by
 intro ID s σ H Q I h;refine X7 (Jx I hg hm ?_ hdb);refine j5 (h₀:=X.base) I.ok.mod.kin hk (Ñ (ha pos ID s σ H _ I h) λus s1 ⟨vs,H1,I1,r,q⟩=>⟨I1.kIn,?_⟩) he hpl;exact FT F hr hb hd hx I1 r q
end
noncomputable def Ul (CX:CXT)(P:S8)(w:B0)(K:G6)(mg:Str->P5 G1)(base:C7)(N:G0 Str)(qual:Str)(scope:K1)(f:G9)(cd:G1)(A:T8)(outer:G0 Env)(s:G3)(H:Hp)(E:XK):Cx where
 prog:=P
 w:=w
 K:=K
 mg:=mg
 base:=base
 A:=A.deeper (Q3 qual scope s.heap.objs.size f cd)
 N:=N
 s₀:=s
 H₀:=H
 env:=Q3 qual scope s.heap.objs.size f cd
 outer:=outer
 stack:=Q3 qual scope s.heap.objs.size f cd::outer
 ex:= []
 calm:=false
 fn:=λ_=>true
 pn:= []
 xe:=λe s'=>R0 (R7 P w) (A.deeper (Q3 qual scope s.heap.objs.size f cd)) (pV (Q3 qual scope s.heap.objs.size f cd) e) (λ_ Γ=>CX outer H s E e Γ) (λe' Γ=>CX outer H s E e' Γ) s'
variable {base:C7}{qual:Str}{scope:K1}
def GK {CX:CXT}{P:S8}{w:B0}{K:G6}{mg:Str->P5 G1}{N ps:G0 Str}{f:G9}{cd:G1}{outer:G0 Env}{s s1:G3}{H:Hp}{E:XK}{us:G0 G1}{vs:G0 V}
 (S:Á N ps scope)(e0:Ō P w K mg base A outer s H)(hl:vs.length=ps.length)(r:Æ vs us)
 (x:InCallC s s.heap.objs.size (rO (Q3 qual scope s.heap.objs.size f cd).kindOf (ps.zip us) λ_=>none) (U7 (s.heap.objs.size+1) scope.names []) (rP (Q3 qual scope s.heap.objs.size f cd).kindOf (ps.zip us) λ_=>none) s1):
 Inv (Ul CX P w K mg base N qual scope f cd A outer s H E) [] (start N vs) H s1:=by
 have hpl:ps.length<=N.length:=by have:=congrArg O1 S.pre;rw [N0] at this;omega
 obtain⟨h1,tk,rfl,hk⟩:=x.done;have ε: ∀b:G9,b ∉ (Ul CX P w K mg base N qual scope f cd A outer s H E).ex:=λb z=>absurd (show b∈([]:G0 G9) from z) (by simp)
 refine⟨⟨e0.mod,S.kind,rfl,rfl,P3 _,λy z c h1 h2=> ?_,λy hy=> ?_,λy c _ h=> ?_,λz=>(by cases z),iC e0.frames,.inr ⟨rfl,rfl⟩,λb z=>absurd z (ε b),e0.bs,e0.bsz,λb _ _=>ε b,λb z=>absurd z (ε b),e0.funs,e0.frf⟩,
  rfl,e0.bare,Un.kept hk,⟨_,x.toInCall.ns,λi y v h1 h2 h3=> ?_⟩,λy c h=>⟨_,x.cell y c h⟩,e0.hok.fresh (P3 _),λy c h=> ?_,λp hp=>absurd (show p∈([]:G0 (G9×Obj)) from hp) (by simp),e0.hok.kept hk,?_⟩
 ·exact pW x.apart (J7 h1) (J7 h2)
 ·have hy:scope.names.lookup y=some .cell\/scope.names.lookup y=some .free:=hy;rcases hy with hy|hy
  ·exact yJ hy
  ·exact absurd rfl (S.nofree _ (J7 hy))
 ·exact S6 (x.above y c (J7 h))
 ·have hi:i<vs.length:=by
   unfold start at h2
   by_cases hi:i<vs.length
   ·exact hi
   ·rw [N5 (by simpa using hi)] at h2;rw [fO] at h2;split at h2<;>cases h2
  have ha:vs[i]? =some v:=by
   unfold start at h2;rw [B7 (by simpa using hi),P7] at h2;cases e:vs[i]? with
   |none=>rw [e] at h2;cases h2
   |some a=>rw [e] at h2;cases h2;rfl
  obtain⟨u,hu,rv⟩:=r.get ha;have hp:ps[i]? =some y:=by
   rw [<-S.pre,Y4 (by omega)];exact h1
  have ndP:ps.Nodup:=by rw [<-S.pre];exact S.nd.sublist (W1 _ _)
  refine⟨u,rv,?_⟩;rcases S.par y (P9 hp) with k|k
  ·exact .inl ⟨k,ZJ ndP hp hu k⟩
  ·obtain⟨c,e⟩:=yJ (n:=s.heap.objs.size+1) k;refine .inr ⟨.inl k,c,e,?_⟩;have q:=x.cell y c e;rw [ZK ndP hp hu (by show scope.names.lookup y≠_;rw [k];decide)] at q;exact q
 ·exact e0.hok.fresh (S6 (x.above y c (J7 h)))
 ·unfold start;show _=N.length;rw [D0,G2,nH];omega
def Er {CX:CXT}{P:S8}{w:B0}{K:G6}{mg:Str->P5 G1}{f:G9}{name:Str}{params:oJ}{body:G0 A6}{dV kV doc pm Ë ct oc:G1}{an od:P5 G9}{ē:T6 (P5 G1)}{N ps:G0 Str}{sp:Sp}(lk:K.lookup f=some ⟨oc,od,.func (Y5 name qual params body scope dV kV doc pm an Ë ct),ē⟩)(hcd:f6 K Ë qual=true)(S:Á N ps scope)
 (len: ∀vs H Q E,sp vs H Q E->vs.length=ps.length)
 (Ò: ∀ (A:T8) (outer:G0 Env) (s:G3) (H:Hp) (vs:G0 V) (Q:VK) (E:XK),Ý k (A.deeper (Q3 qual scope s.heap.objs.size f Ë))->sp vs H Q E->
  ∃t,ļ (Ul CX P w K mg base N qual scope f Ë A outer s H E) body t/\t {nx:=λ_ H'=>Q .non H',rt:=Q} (start N vs) H):
 đ P w K mg base CX (k+1) f (Y5 name qual params body scope dV kV doc pm an Ë ct) ps sp:=by
 refine⟨len,λA outer s H args us vs Q E hr e0 hb r Ŝ=> ?_⟩;have hl:=len _ _ _ _ Ŝ;have KX:K.In s.heap:=e0.mod.kin.keeps λb o e=>(e0.bs b o e).1
 have lim:s.heap.NoLimit:=e0.mod.nolimit.keeps λb o e=>(e0.bs b o e).1
 have š: ∀y∈ps.zip us,scope.names.lookup y.1=some .local\/(scope.names.lookup y.1=some .cell/\((U7 (s.heap.objs.size+1) scope.names []).lookup y.1).isSome=true):=λ⟨n,v⟩ hy=>by
  rcases S.par n (fE hy).1 with q|q
  ·exact .inl q
  ·exact .inr ⟨q,cK _ _ _ (.inl q)⟩
 refine gM hr.depth (KX _ _ lk) rfl S.co S.gen rfl (j6 KX hcd) (hb _ _ _ _ ?_);refine dF S.kind š λenv he s1 x=> ?_
 subst he;refine⟨lim.keeps x.toInCall.keep,pX ?_⟩;obtain⟨t,ht,hq⟩:=Ò A outer s H vs Q E (hr.deeper _) Ŝ;have I:Inv (Ul CX P w K mg base N qual scope f Ë A outer s H E) [] (start N vs) H s1:=GK S e0 hl r x;refine M0 (ht [] s1 (start N vs) H _ I hq) (λfl s' hs=> ?_) λe s' hs=>hs
 have fin: ∀ {IO:St} {H':Hp} {v:V} {u:G1},Inv (Ul CX P w K mg base N qual scope f Ë A outer s H E) [] IO H' s'->RelV v u->Q v H'->CE outer P w H s Q u s':=
  λ{IO H' v u} J rv q=>⟨v,H',J.os,J.bare,J.base,J.hok,rv,q⟩
 cases fl with
 |ret u=>
  obtain⟨v,IO,H',J,rv,q⟩:=hs;exact fin J rv q
 |next=>
  obtain⟨IO,H',J,q⟩:=hs;exact fin (v:=V.non) (u:=fH) J rfl q
 |brk=>
  obtain⟨_,_,_,q⟩:=hs;exact False.elim q
 |cont=>
  obtain⟨_,_,_,q⟩:=hs;exact False.elim q
section
variable {P:S8}{w:B0}{K:G6}{mg:Str->P5 G1}{base:C7}
variable {qual:Str}
def Þ.okU {x:Str}{st:A6}{f:G9}{fd:M6}{N ps:G0 Str}{k:G5}{sp:Sp}(F:Þ K x qual st f fd)(S:Á N ps (jd st))(len: ∀vs H Q E,sp vs H Q E->vs.length=ps.length)
 (Ò: ∀ (Ë:G1) (A:T8) (outer:G0 Env) (s:G3) (H:Hp) (vs:G0 V) (Q:VK) (E:XK),Ý k (A.deeper (Q3 qual (jd st) s.heap.objs.size f Ë))->sp vs H Q E->
  ∃t,ļ (Ul Û P w K mg base N qual (jd st) f Ë A outer s H E).nox (jS st) t/\t {nx:=λ_ H'=>Q .non H',rt:=Q} (start N vs) H):đ P w K mg base Û (k+1) f fd ps sp:=by
 obtain⟨oc,od,kV,doc,pm,an,Ë,ct,ē,rfl,lk,hcd⟩:=F.ex;refine Er lk hcd S len λA outer s H vs Q E hr Ŝ=> ?_
 obtain⟨t,h,q⟩:=Ò Ë A outer s H vs Q E hr Ŝ;exact⟨t,h.nox,q⟩
def Þ.okDU {x:Str}{st:A6}{f:G9}{fd:M6}{N ps:G0 Str}{k:G5}{ö:RDn}(F:Þ K x qual st f fd)(S:Á N ps (jd st))(len: ∀ds h Q,ö ds h Q->ds.length=ps.length)
 (tb:TSD)(Ò: ∀ (Ë:G1) (A:T8) (outer:G0 Env) (s:G3) (H:Hp) (E:XK),Ý k (A.deeper (Q3 qual (jd st) s.heap.objs.size f Ë))->QSs (Ul Û P w K mg base N qual (jd st) f Ë A outer s H E).nox (jS st) tb)
 (read: ∀ds h Q,ö ds h Q->tb (Xg Q) (jZ N ds) h):đ P w K mg base Û (k+1) f fd ps (æ K ö):=by
 refine F.okU S (λvs H Q E h=> ?_) (λË A outer s H vs Q E hr h=> ?_)
 ·obtain⟨ds,h,Qd,r,rh,q,p⟩:=h;rw [<-r.length];exact len _ _ _ q
 ·obtain⟨ds,h,Qd,r,rh,q,p⟩:=h;refine⟨_,Ò Ë A outer s H E hr,jZ N ds,h,Xg Qd,yM r,rh,read ds h Qd q,λÐ h' IO H' k Ε ï ⟨h2,sb,q'⟩=>p .non .non h2 H' k (ï.sub sb) rfl q',λd v h' H' k ï r' ⟨h2,sb,q'⟩=>p d v h2 H' k (ï.sub sb) r' q',λ_ _ _ _ _ _ _ z=>z.elim,λ_ _ _ _ _ _ _ z=>z.elim⟩
def Þ.okJU {x:Str}{st:A6}{f:G9}{fd:M6}{N ps:G0 Str}{k:G5}{ö:RDn}(F:Þ K x qual st f fd)(S:Á N ps (jd st))(len: ∀ds h Q,ö ds h Q->ds.length=ps.length)
 (tb:TSD)(Ò: ∀ (Ë:G1) (A:T8) (outer:G0 Env) (s:G3) (H:Hp) (E:XK),Ý k (A.deeper (Q3 qual (jd st) s.heap.objs.size f Ë))->ŀ (Ul Û P w K mg base N qual (jd st) f Ë A outer s H E).nox (jS st) tb)
 (read: ∀ds h Q,ö ds h Q->tb (Xg Q) (jZ N ds) h):đ P w K mg base Û (k+1) f fd ps (æ K ö):=F.okDU S len tb (λË A outer s H E hr=>(Ò Ë A outer s H E hr).to) read
end
structure Ń (P:S8)(w:B0)(K:G6)(mg:Str->P5 G1)(base:C7)(CX:CXT)(k:G5)(f:G9)(fd:M6)(ps:G0 Str)(sp:G3->Sp):Prop where
 len: ∀s vs H Q E,sp s vs H Q E->vs.length=ps.length
 run: ∀ (A:T8) (outer:G0 Env) (s:G3) (H:Hp) (args:Args) (us:G0 G1) (vs:G0 V) (Q:VK) (E:XK),Î k A->Ō P w K mg base A outer s H->oI s fd args (ps.zip us)->Æ vs us->sp s vs H Q E->
  aK (R7 P w) A (.call (.ref f) args) (CR CX outer P w H s Q E) s
section
variable {X:Cx}{CX:CXT}{k:G5}{f C:G9}{fd:M6}{ps:G0 Str}{sp:Sp}{dvs:G0 V}{ds:G0 G1}{E:XK}{x m:Str}{p pos apos:Pos}{e o:M9}{es:G0 M9}{ta:TE}{t:TA}
def FU {ID:G0 (G9×Obj)}{σ:St}{H:Hp}{s:G3}{Q:VK}{us:G0 G1}{vs:G0 V}{sp:G3->Sp}(F:Ń X.prog X.w X.K X.mg X.base CX k f fd ps sp)(hr:Î k X.A)(hb:Binds X.K fd ps ds)(hd:Æ dvs ds)(hx:ZI CX X E)
 (I:Inv X ID σ H s)(r:Æ vs us)(h:sp s (vs++dvs) H Q E):R0 (R7 X.prog X.w) X.A (call (.ref f) us) (EP X ID σ Q) X.xe s:=by
 have r2:Æ (vs++dvs) (us++ds):=r.append hd;have hl:(us++ds).length=ps.length:=by rw [<-r2.length];exact F.len _ _ _ _ _ h
 refine bY (cJ (F.run X.A X.stack s H ⟨us,[]⟩ (us++ds) (vs++dvs) Q E hr I.env0 (hb s us I.kIn hl) r2 h) λr s' hq=> ?_);cases r with
 |error e=>exact hx ID σ H s e s' I hq
 |ok fl=>
  cases fl with
  |ret u=>exact I.after hq
  |next=>exact False.elim hq
  |brk=>exact False.elim hq
  |cont=>exact False.elim hq
end
def Es {CX:CXT}{P:S8}{w:B0}{K:G6}{mg:Str->P5 G1}{f:G9}{name:Str}{params:oJ}{body:G0 A6}{dV kV doc pm Ë ct oc:G1}{an od:P5 G9}{ē:T6 (P5 G1)}{N ps:G0 Str}{sp:G3->Sp}(lk:K.lookup f=some ⟨oc,od,.func (Y5 name qual params body scope dV kV doc pm an Ë ct),ē⟩)(hcd:f6 K Ë qual=true)(S:Á N ps scope)
 (len: ∀s vs H Q E,sp s vs H Q E->vs.length=ps.length)
 (Ò: ∀ (A:T8) (outer:G0 Env) (s:G3) (H:Hp) (vs:G0 V) (Q:VK) (E:XK),Î k (A.deeper (Q3 qual scope s.heap.objs.size f Ë))->sp s vs H Q E->
  ∀s1,Inv (WG CX P w K mg base N qual scope f Ë A outer s H E) [] (start N vs) H s1->R0 (R7 P w) (A.deeper (Q3 qual scope s.heap.objs.size f Ë)) (execs body (Q3 qual scope s.heap.objs.size f Ë)) (SP (WG CX P w K mg base N qual scope f Ë A outer s H E) [] {nx:=λ_ H'=>Q .non H',rt:=Q}) (WG CX P w K mg base N qual scope f Ë A outer s H E).xe s1):
 Ń P w K mg base CX (k+1) f (Y5 name qual params body scope dV kV doc pm an Ë ct) ps sp:=by
 refine⟨len,λA outer s H args us vs Q E hr e0 hb r Ŝ=> ?_⟩;have hl:=len _ _ _ _ _ Ŝ;have KX:K.In s.heap:=e0.mod.kin.keeps λb o e=>(e0.bs b o e).1
 have lim:s.heap.NoLimit:=e0.mod.nolimit.keeps λb o e=>(e0.bs b o e).1
 have š: ∀y∈ps.zip us,scope.names.lookup y.1=some .local\/(scope.names.lookup y.1=some .cell/\((U7 (s.heap.objs.size+1) scope.names []).lookup y.1).isSome=true):=λ⟨n,v⟩ hy=>by
  rcases S.par n (fE hy).1 with q|q
  ·exact .inl q
  ·exact .inr ⟨q,cK _ _ _ (.inl q)⟩
 refine gM hr.depth (KX _ _ lk) rfl S.co S.gen rfl (j6 KX hcd) (hb _ _ _ _ ?_);refine dF S.kind š λenv he s1 x=> ?_
 subst he;refine⟨lim.keeps x.toInCall.keep,pX ?_⟩;have ht:=Ò A outer s H vs Q E (hr.deeper _) Ŝ;have I:Inv (WG CX P w K mg base N qual scope f Ë A outer s H E) [] (start N vs) H s1:=VL S hr.hd e0 hl r x;refine M0 (ht s1 I) (λfl s' hs=> ?_) λe s' hs=>hs
 have fin: ∀ {IO:St} {H':Hp} {v:V} {u:G1},Inv (WG CX P w K mg base N qual scope f Ë A outer s H E) [] IO H' s'->RelV v u->Q v H'->CE outer P w H s Q u s':=
  λ{IO H' v u} J rv q=>⟨v,H',J.os,J.bare,J.base,J.hok,rv,q⟩
 cases fl with
 |ret u=>
  obtain⟨v,IO,H',J,rv,q⟩:=hs;exact fin J rv q
 |next=>
  obtain⟨IO,H',J,q⟩:=hs;exact fin (v:=V.non) (u:=fH) J rfl q
 |brk=>
  obtain⟨_,_,_,q⟩:=hs;exact False.elim q
 |cont=>
  obtain⟨_,_,_,q⟩:=hs;exact False.elim q
section
variable {X:Cx}{k:G5}{f:G9}{fd:M6}{ps:G0 Str}{ö:RDn}{x:Str}{p pos:Pos}{e:M9}{es:G0 M9}{t:TAD}
def Et (F:đ X.prog X.w X.K X.mg X.base Û k f fd ps (æ X.K ö))(hr:Ý k X.A)(hg:Gl X x)(hm:X.mg x=some (.ref f))(hk:K8 X.K (.ref f)=true)(hb:Binds X.K fd ps [])
 (ha:JA X (e::es) t)(hdb:(x==("__debug__" :Str))=false:=by decide)(he:P8 (e::es) X.env=(false,A2 e X.env)::P8 es X.env:=by rfl)(hpl:(E1 pos (P8 es X.env)).any (·.1)=false:=by rfl):
 JE X (.Call (.Name x p) (e::es) [] pos) (ħ ö t):=⟨(Nv F hr hg hm hk hb .nil CB ha.to hdb he hpl).imp Dz⟩
end
def Rk (P:S8)(w:B0)(K:G6)(mg:Str->P5 G1)(base:C7)(n:G5)(x:Str)(ps:G0 Str)(sp:RDn):Prop:=
 ∃ (g:G9) (gd:M6),đ P w K mg base Û n g gd ps (æ K sp)/\Binds K gd ps []/\K8 K (.ref g)=true/\mg x=some (.ref g)
end L2
namespace L2
open PySem PySem.Spec PyProof.Rows PySem.W PySem.Calls PySem.Builtin PySem.Builtin.ObjectAttr PySem.Builtin.Getset_descriptor
section
variable {prog:S8}{w:B0}{A:T8}{E:G1->G3->Prop}{s:G3}{K:Frag}{x D:G9}
structure ķ (K:Frag)(D:G9):Prop where
 cls:(clsIn K D).isSome=true
 ga:findIn K (.ref D) "__getattribute__" =some (some (.builtin "BaseException.__getattribute__"))
 hk:findIn K (.ref D) "__getattr__" =some none
 ca:findIn K (.ref D) "__class__" =some (some (.builtin "object.__class__"))
 gt:specialIn K (.builtin "object.__class__") "__get__" =some (some (.builtin "getset_descriptor.__get__"))
 tk:takesIn K (.builtin "object.__class__")=some true
 ob:mroIn K D (.type "object")=some true
 be:mroIn K D (.type "BaseException")=some true
def ExcAt (x D:G9)(h:C7):Prop:= ∃o,h.get? x=some o/\o.cls= .ref D
def ExcAt.type {M:iP}{h:C7}(I:ExcAt x D h):Looks M h (IZ (.ref x)) (.ref D):=let ⟨o,h1,h2⟩:=I;h2 ▸ (z9 h1).andThen .now
def GL {tp:G1}{R:nQ->G3->Prop}(X:K.In s.heap)(I:ExcAt x D s.heap)(ob:mroIn K D (.type "object")=some true)
 (h:R (.ok (.ret (.ref D))) s):aK (R7 prog w) A (.call (.builtin "getset_descriptor.__get__") ⟨[.builtin "object.__class__",.ref x,tp],[]⟩) R s:=by
 obtain⟨hp,g,dr,t,os⟩:=s;have known:Looks (R7 prog w) hp (G0e (.ref x) (.type "object")) true:=I.type.andThen (looks_mroIn X ob);have X0J:Looks (R7 prog w) hp (descrCheckInstance (.builtin "object.__class__") (.ref x)) ():=
  Looks.andThen (a:=(("__class__" :Str),V2 "object")) (o5 (congrArg (λp:U5×U5=>(pure (mM p.2,V2 p.1):Sem (Str×G1))) KF.owner_class)) (known.andThen .now)
 have shown:Looks (R7 prog w) hp (shownTypeOf (.ref x)) (.ref D):=I.type.andThen .now;have asked:=KF.slot_gs.check (R7 prog w) A.in1 (λe s'=>R (.error e) s') ⟨hp,g,dr,t,os⟩ (.builtin "object.__class__") [.ref x,tp] [];refine Y8 KF.slot_gs.plain KF.entry_gs (asked _ KF.type_class (KF.args_gs _ _ _) ?_);show R0 _ _ (descrGetArgs _ >>= _) _ _ _;rw [dga_obj];refine wpAny_bind (P2 (wpAny_bind (X0J.at (P2 ⟨Code.quiet_builtin _ (by decide +kernel),aE KF.entry_class ?_⟩))));exact wpAny_bind (shown.at (P2 h))
def Nw {M:iP}{h:C7}(X:K.In h)(Z:ķ K D):Looks M h (find (.ref x) (.ref D) "__class__") (.bind (.builtin "getset_descriptor.__get__") (.builtin "object.__class__")):=by
 have L1:=looks_findIn (M:=M) X Z.ca;have L2:Looks M h (getOf (some (.builtin "object.__class__"))) (some (.builtin "getset_descriptor.__get__")):=looks_specialIn X Z.gt;have L3:=looks_takesIn (M:=M) X Z.tk;exact L1.andThen (L2.andThen ((show Looks M h (dataDescriptor? (some (.builtin "object.__class__")) (some (.builtin "getset_descriptor.__get__"))) (some (.builtin "getset_descriptor.__get__",.builtin "object.__class__")) from L3.andThen .now).andThen (Looks.tag .now)))
def FV {M:iP}{h:C7}(X:K.In h)(I:ExcAt x D h)(Z:ķ K D)(n:G1):Looks M h (cE "BaseException.__getattribute__" ⟨[.ref x,n],[]⟩) ():=by
 have known:Looks M h (G0e (.ref x) (.type "BaseException")) true:=I.type.andThen (looks_mroIn X Z.be);have fits:=IA (.ref x) n;unfold cE;rw [show builtinKind "BaseException.__getattribute__" =some .slot by decide +kernel,show splitId "BaseException.__getattribute__" =some ("BaseException","__getattribute__") by decide +kernel];exact known.andThen (o5 fits)
def WO {tk:Tok}{R:nQ->G3->Prop}(X:K.In s.heap)(I:ExcAt x D s.heap)(Z:ķ K D)(h:R (.ok (.ret (.ref D))) s):
 aK (R7 prog w) A (.call (.builtin "BaseException.__getattribute__") ⟨[.ref x,.str "__class__" tk],[]⟩) R s:=
 Y8 PySem.F.attr_ValueError.ga.plain x5 (kP (FV X I Z _) (wpAny_bind (P2 (wpAny_bind (P2 (wpAny_bind (kP I.type (wpAny_bind (kP (Nw X Z) (wpAny_bind (L7 (bY (GL X I Z.ob (P2 h))))))))))))))
def GM {Q:P5 G1->G3->Prop}(X:K.In s.heap)(I:ExcAt x D s.heap)(Z:ķ K D)(h:Q (some (.ref D)) {s with toks:=s.toks+1}):R0 (R7 prog w) A (getAttr? (.ref x) "__class__") Q E s:=by
 have X0c:=PySem.F.attr_ValueError.ga.bind (.ref x);have asked: ∀ {A':T8} {P:G1->G3->Prop} {E':G1->G3->Prop},P (.ref D) {s with toks:=s.toks+1}->R0 (R7 prog w) A' (tQ (.builtin "BaseException.__getattribute__") (.ref x) (.str "__class__" s.toks)) P E' {s with toks:=s.toks+1}:=λp=>by
  unfold tQ;rw [X0c];exact wpAny_bind (P2 (bY (WO (s:= {s with toks:=s.toks+1}) X I Z p)))
 have own: ∀ {A':T8} {P:G1->G3->Prop} {E':G1->G3->Prop},P (.ref D) {s with toks:=s.toks+1}->R0 (R7 prog w) A' (getAttrByItsOwn (.ref x) (.str "__class__" s.toks) (.ref D) (.builtin "BaseException.__getattribute__") false false) P E' {s with toks:=s.toks+1}:=λp=>
  wpAny_bind (kP (s:= {s with toks:=s.toks+1}) (looks_findIn X Z.hk) (wpAny_bind (lN (L7 (asked (P2 p))))))
 exact wpAny_bind (wpAny_mkText (wpAny_bind (lN (L7 (wpAny_bind (kP (s:= {s with toks:=s.toks+1}) I.type (wpAny_bind (kP (s:= {s with toks:=s.toks+1}) (looks_findIn X Z.ga) (own (P2 h))))))))))
def Nx (Z:ķ K D):KitX K (.ref x) (.ref D) (ExcAt x D):=by
 have isClass: ∀ {h:C7},K.In h-> ∃o c,h.get? D=some o/\o.data= .cls c:=λX=>by
  obtain⟨c,hc⟩:=J4.mp Z.cls;revert hc;unfold clsIn;split
  ·rename_i ho;exact λ_=>⟨_,_,X _ _ ho,rfl⟩
  ·exact λz=>nomatch z
 refine⟨λ_ _ _ I=>I.type,λM h X _=> ?_,λh tp dd its n sl X htp=> ?_,λX I k=>GM X I Z k⟩
 ·obtain⟨o,c,ho,hd⟩:=isClass X;exact(z9 ho).andThen (o5 (by rw [hd]))
 ·obtain⟨o,c,ho,hd⟩:=isClass X;cases hq:(Z7 D==Z7 tp) with
  |false=>rfl
  |true=>
   cases (beq_iff_eq.mp hq);rw [htp] at ho;cases ho;cases hd
end
end L2
namespace L2
open PySem PySem.Spec PyProof.Rows PySem.SeqAt PySem.W
def Ny {X:Cx}(hu:X.A.units+64<cLine):MtM X "list.count" (λx vs H Q=> ∃ (a:G9) (y:V) (dy:D) (h:HD) (p:aV) (ps:G0 aV),x= .ref a/\vs= [y]/\É X.K H dy y/\Ä X.K h H/\ė h (.lst a) (.list ps)/\ė h dy p/\p.canLay0=true/\W6 ps=true/\p.depth<=60/\Q (.int ((ps.countP λz=>O5 z p:G5):P1)) H):=by
 intro ID s σ H x vs v us Q I rx rv h;obtain⟨a,y,dy,h,p,ps,rfl,rfl,rd,rh,t1,t2,c1,c2,c3,q⟩:=h;cases rx;obtain⟨u,rfl,ru⟩:=vj rv;obtain⟨a',ds,ea,ha,ts⟩:=(show ∃a' ds,D.lst a= .lst a'/\h a'=some ds/\Ĝ h ds ps from t1);cases ea;obtain⟨ws,hH,_⟩:=rh a ds ha;obtain⟨as,r1⟩:=zk I rh t1 (show É X.K H (.lst a) (.ref a) from ⟨rfl,ws,hH⟩) (show RelV (.ref a) (.ref a) from rfl);obtain⟨bs,r2⟩:=zk I rh t2 rd ru;cases r1 with
 |list h1 h2 h3 h4=>
  rename_i o its n cs;have em:=readsAll_map ps _ _ c2 h4;have Η:X.A.units+1+min (E4 ps) p.depth<cLine:=by have:=dN (E4 ps) p.depth;omega
  obtain⟨oc,od,odt,ē⟩:=o;simp only at h2 h3;subst h2 h3;refine gW mG ⟨_,h1,rfl⟩ u4 (uI _ _) (list_countAt a its n od ē u (λy=>O5 (readOf s.heap y) p)) ⟨h1,items_eqAt h4 r2 c2 c1 Η,?_⟩;have e:its.toList.countP (λy=>O5 (readOf s.heap y) p)=ps.countP λz=>O5 z p:=by
   rw [<-em,List.countP_map];rfl
  exact⟨.int _,H,I.tok _,⟨_,by rw [e]⟩,q⟩
def km (to te:TED):TED:=λσ h Q=>to σ h λx h1=> ∃a,x= .lst a/\te σ h1 λy h2=> ∃ (p:aV) (ps:G0 aV),ė h2 (.lst a) (.list ps)/\ė h2 y p/\p.canLay0=true/\W6 ps=true/\p.depth<=60/\Q (.int ((ps.countP λz=>O5 z p:G5):P1)) h2
section
variable {X:Cx}{o e i:M9}{to te ti:TED}{apos cpos:Pos}
def ko (hu : X.A.units + 64 < cLine) (ho : JE X o to) (he : JE X e te) (hbase : b7 o "count" X.env (A2 o X.env) = A2 o X.env := by rfl)
    (hfew : ((E1 cpos (P8 [e] X.env)).all (fun x => !x.1) && (j9 cpos (dG [] X.env)).all (fun x => x.1.isSome) && decide ([e].length + ([] : G0 cL).length + (if ([] : G0 cL).isEmpty then 0 else 1) < 30)) = true := by rfl)
    (hline : (apos.endLine == cpos.line) = true := by rfl) (hs : P8 [e] X.env = (false, A2 e X.env) :: P8 [] X.env := by rfl) (hplain : (E1 cpos (P8 [] X.env)).any (·.1) = false := by rfl) :
    JE X (.Call (.Attribute o "count" apos) [e] [] cpos) (km to te) :=
  ⟨(MT cC mG xE (Ny hu) ho.to (zA he.to ð hs) hbase hfew hline hs hplain).imp
    fun σ H Q ⟨Â, h, Qd, rs, rh, t, p⟩ => LE.bind rs rh t fun d v h1 H1 k1 Ö Ê r1 ⟨a, e, q⟩ => by
      subst e
      obtain ⟨e1, vs, hH⟩ := (show v = .ref a ∧ ∃ vs, H1 a = some (.lst vs) from r1)
      subst e1
      refine ⟨.inl ⟨rfl, vs, í.of hH⟩, ?_⟩
      refine LE.bind Ö Ê q fun y u h2 H2 k2 Ŀ î r2 ⟨pd, ps, t1, t2, c1, c2, c3, q2⟩ => ?_
      exact ⟨a, u, y, h2, pd, ps, rfl, rfl, r2, î, t1, t2, c1, c2, c3, p (.int _) _ _ _ (k1.trans k2) î rfl q2⟩⟩
end
def Ha (K:Frag)(c:G1)(ta:TED):TED:=λσ h Q=>ta σ h λx h1=> ∃C b,x= .exc C/\ķ K C/\kitOne K (.ref C) c=some b/\Q (.bl b) h1
def Ym {X:Cx}{v:V}{c:G1}(rc: ∀u,RelV v u->u=c):Ù X (.builtin "isinstance") (λxs H Q=> ∃x C o b,xs= [.ref x,v]/\H x=some (.frz o (.own 0))/\o.cls= .ref C/\ķ X.K C/\kitOne X.K (.ref C) c=some b/\Q (.bl b) H):=by
 intro ID s σ H xs us Q I r h;obtain⟨x,C,o,b,rfl,hx,hc,Z,e,q⟩:=h;obtain⟨u,w',rfl,rx,rt⟩:=PZ r;cases rx;cases rc _ rt;exact kia_one (Nx Z) I.kIn ⟨o,(I.hok x _ hx).1,hc⟩ e (λz=>nomatch z) λtk=>⟨.bl b,H,I.tok tk,rfl,q⟩
section
variable {X:Cx}{a:M9}{ta:TED}{t:Str}{p p2 pos:Pos}
def Rl {v:V}{c:G1}: ∀σ H Q,LE X.K (Ha X.K c ta) σ H Q->tCB (λxs H Q=> ∃x C o b,xs= [.ref x,v]/\H x=some (.frz o (.own 0))/\o.cls= .ref C/\ķ X.K C/\kitOne X.K (.ref C) c=some b/\Q (.bl b) H) (MO (LE X.K ta) (MO (tC v) SW)) σ H Q:=
 λσ H Q ⟨Â,h,Qd,rs,rh,t,p⟩=>LE.bind rs rh t λd u h1 H1 k1 Ö Ê r1 ⟨C,b,e,Z,k,q⟩=>by
  subst e;obtain⟨x,o,vs,e1,hx,hc,_⟩:=(show ∃x o vs,u= .ref x/\H1 x=some (.frz o (.own 0))/\o.cls= .ref C/\o.data= .fields vs from r1);subst e1;exact⟨x,C,o,b,rfl,hx,hc,Z,k,p (.bl b) _ _ _ k1 Ê rfl q⟩
def GN {KK:Frag}{D:G9}(hg:Gl X "isinstance")(hm:X.mg "isinstance" =none)(hg2:Gl X t)(hm2:X.mg t=some (.ref D))(ha:JE X a ta)(hd:(t==("__debug__" :Str))=false:=by decide)
 (h1:P8 [a,.Name t p2] X.env=(false,A2 a X.env)::P8 [.Name t p2] X.env:=by rfl)(h2:(E1 pos (P8 [.Name t p2] X.env)).any (·.1)=false:=by rfl)(hK:X.K=KK:=by rfl):
 JE X (.Call (.Name "isinstance" p) [a,.Name t p2] [] pos) (Ha KK (.ref D) ta):=
 hK ▸ ⟨(yK (Ym (v:= .ref D) λu r=>r) hg hm cT (zA ha.to (zA (PK (v:= .ref D) hg2 hm2 rfl hd) ð (by rfl)) h1) (by decide) (by decide) h1 h2).imp Rl⟩
def kq {KK:Frag}{T:U5}(hg:Gl X "isinstance")(hm:X.mg "isinstance" =none)(hg2:Gl X t)(hm2:X.mg t=none)(hv:Q5 t=some (.type T))(ha:JE X a ta)(hn:t≠ "__name__" :=by decide)(hd:(t==("__debug__" :Str))=false:=by decide)
 (h1:P8 [a,.Name t p2] X.env=(false,A2 a X.env)::P8 [.Name t p2] X.env:=by rfl)(h2:(E1 pos (P8 [.Name t p2] X.env)).any (·.1)=false:=by rfl)(hK:X.K=KK:=by rfl):
 JE X (.Call (.Name "isinstance" p) [a,.Name t p2] [] pos) (Ha KK (.type T) ta):=
 hK ▸ ⟨(yK (Ym (v:= .ty T) λu r=>r) hg hm cT (zA ha.to (zA (PL (v:= .ty T) hg2 hm2 hv rfl hn hd) ð (by rfl)) h1) (by decide) (by decide) h1 h2).imp Rl⟩
end
end L2
namespace L2
open PySem PySem.Spec PyProof.Rows PySem.W
section
variable {X:Cx}{σ:St}{H:Hp}{s:G3}{x C:G9}
def Inv.relaid {B h':C7}{T:G9}{a0:G1}(I:Inv X [] σ H s)(Z:Rz0 X)(hpn:X.pn= [])(hx:H x=none/\X.s₀.heap.get? x=none)(hT:H T=none/\X.s₀.heap.get? T=none)
 (hB:B=hideAll s.heap (x::T::Ĉ (X.env::X.outer)))(fl:Heap.FlyingW B (X.env::X.outer) x (.ref C) a0 h')(up:s.heap.UpToSlots h'):Inv X [] σ H {s with heap:=h'}/\Fly X.s₀.heap H h' x C:=by
 subst hB;have stk:s.heap.FunFrames X.base (X.env::X.outer):=Z.stk ▸ I.stack;obtain⟨st,_,_,oe',vs',T',oT',ts',he',⟨Ļ,h0'⟩,ω,h1',hTB,X0G,Ζ,Ŧ,h3'⟩:=fl;obtain⟨r1,r2,r3⟩:=Rf (ys:= [x,T]) (h':=h') I Z (λy hy=>by
  rcases D5.mp hy with rfl|hy
  ·exact hx
  ·rcases D5.mp hy with rfl|hy
   ·exact hT
   ·cases hy) (λb o e n1 n2=>st b o (hideAll_get _ e λz=>by
    rcases D5.mp z with rfl|z
    ·exact n1 (.head _)
    ·rcases D5.mp z with rfl|z
     ·exact n1 (.tail _ (.head _))
     ·exact n2 z)) λb o e hb=>by
  obtain⟨_,o2,e2,nd⟩:=stk.mem hb;rw [e] at e2;cases e2;exact up b o e nd
 obtain⟨q1,q2⟩:=r3 T' oT' ts' Ζ Ŧ λo e=>by
  by_cases z:T'∈Ĉ (X.env::X.outer)
  ·exact .inr z
  ·refine .inl ?_
   by_cases z1:T'=x
   ·rw [z1];exact .head _
   ·by_cases z2:T'=T
    ·rw [z2];exact .tail _ (.head _)
    ·rw [hideAll_get _ e (by simp only [D5,not_or];exact⟨z1,z2,z⟩)] at hTB;cases hTB
 have cellK: ∀c v,s.heap.IsCell c v->h'.IsCell c v:=λc v ⟨o,ho,hd⟩=>by
  obtain⟨sl,e⟩:=up c o ho λws q=>by rw [hd] at q;cases q
  exact⟨_,e,hd⟩
 refine⟨⟨I.ok,I.os,I.bare,by rw [Z.ex];exact r1,?_,λy c e=> ?_,I.free,I.freeC,λp hp=> ?_,r2,I.len⟩,⟨⟨oe',vs',a0,T',oT',ts',he',Ļ,ω,h0',h1',X0G,Ζ,Ŧ,h3',q1,q2⟩,hx.1,hx.2⟩⟩
 ·obtain⟨m,hn,hl⟩:=I.loc;refine⟨m,up.ns hn,λi y v e1 e2 e3=> ?_⟩;obtain⟨u,r,l⟩:=hl i y v e1 e2 e3;exact⟨u,r,l.imp id λ⟨k,c,e,z⟩=>⟨k,c,e,cellK c _ z⟩⟩
 ·obtain⟨v,z⟩:=I.cell y c e;exact⟨v,cellK c v z⟩
 ·rw [hpn] at hp;cases hp
def Inv.track {oe:Obj}{vs:T6 G1}(I:Inv X [] σ H s)(hpn:X.pn= [])(hn:H x=none)(h0:X.s₀.heap.get? x=none)(hx:s.heap.get? x=some oe)(hd:oe.data= .fields vs):Inv X [] σ (upd H x (.frz oe (.own 0))) s:=by
 have ne: ∀b u,H b=some u->b≠x:=λb u e z=>by rw [z,hn] at e;cases e
 have ne0: ∀b o,X.s₀.heap.get? b=some o->b≠x:=λb o e z=>by rw [z,h0] at e;cases e
 have cn: ∀y c,X.env.cells.lookup y=some c->c≠x:=λy c e z=>by
  obtain⟨v,o,ho,hc⟩:=I.cell y c e;rw [z,hx] at ho;cases ho;rw [hd] at hc;cases hc
 refine⟨I.ok,I.os,I.bare,⟨I.base.keep,I.base.slot,λb o e n hx=> ?_,I.base.there,λb xs e=> ?_,λb o u e=> ?_,λb ps e=> ?_⟩,I.loc,I.cell,?_,λy c e=> ?_,λp hp=> ?_,λa o e=> ?_,I.len⟩
 ·rw [jf (ne0 b o e)];exact I.base.free b o e n hx
 ·have:=I.base.tups b xs e;rw [jf (ne b _ this)];exact this
 ·have:=I.base.frzs b o u e;rw [jf (ne b _ this)];exact this
 ·obtain⟨more,this⟩:=I.base.tbls b ps e;exact⟨more,by rw [jf (ne b _ this)];exact this⟩
 ·rw [jf (λz=> ?_)]
  ·exact I.free
  ·obtain⟨m,⟨o,es,ep,e,d,_⟩,_⟩:=I.loc;rw [z,hx] at e;cases e;rw [hd] at d;cases d
 ·rw [jf (cn y c e)];exact I.freeC y c e
 ·rw [hpn] at hp;cases hp
 ·by_cases z:a=x
  ·subst z;rw [ji] at e;cases e;exact⟨hx,⟨oe,hx⟩⟩
  ·rw [jf z] at e;exact(I.hok a o e).stay (λ_ _ _ q=>q) (λb q=>by rw [jf (ne b _ q)];exact q) λb xs q=>by rw [jf (ne b _ q)];exact q
def Rm {M:iP}{A:T8}{E:G1->G3->Prop}{i:G5}{y:Str}{v:V}{Q:Unit->G3->Prop}(I:Inv X [] σ H s)(hpn:X.pn= [])(hN:X.N.Nodup)(hi:X.N[i]? =some y)(hk:X.env.scope.names.lookup y=some .local)(hv:σ[i]? =some (some v))
 (h: ∀s',Inv X [] (σ.set i none) H s'->Q () s'):R0 M A (unbindName X.env y) Q E s:=by
 obtain⟨m,hn,hl⟩:=id I.loc;have X01:(X.env.scope.kind== .class||(X.env.scope.kind== .module&&X.env.locals !=X.env.globals))=false:=by rw [I.ok.kind];rfl
 have X0U:i<σ.length:=by rw [I.len];exact(P6.mp hi).1
 obtain⟨u,r,l⟩:=hl i y v hi hv (.inl hk);have hm:m y=some u:=by
  rcases l with ⟨_,e⟩|⟨k,_⟩
  ·exact e
  ·rcases k with k|k<;>(have k':X.env.scope.names.lookup y=_:=k;rw [hk] at k';cases k')
 refine wpAny_unbindName_local hk hn hm X01 λh' u' hn' hs=> ?_
 obtain⟨oL,_,_,hoL,_⟩:=id hn;have cne:=I.cne;refine h _ ⟨I.ok,I.os,I.bare,⟨λb o e n hb hx=> ?_,λb o e n hb hx=> ?_,I.base.free,λb o e hx=> ?_,I.base.tups,I.base.frzs,I.base.tbls⟩,⟨_,hn',λj z v' e1 e2 e3=> ?_⟩,λz c e=> ?_,I.free,I.freeC,λp hp=> ?_,λb ob e=> ?_,by simpa using I.len⟩
 ·exact(hs.2 b (M8 (T5 (D2 e) I.ok.above))).trans (I.base.keep b o e n hb hx)
 ·obtain⟨sl,e1⟩:=I.base.slot b o e n hb hx;exact⟨sl,(hs.2 b (M8 (T5 (D2 e) I.ok.above))).trans e1⟩
 ·obtain⟨o',e1⟩:=I.base.there b o e hx;exact⟨o',(hs.2 b (M8 (T5 (D2 e) I.ok.above))).trans e1⟩
 ·by_cases hj:j=i
  ·subst hj;rw [aH X0U] at e2;cases e2
  ·rw [K6 (U6 hj)] at e2;obtain⟨u2,r',q⟩:=hl j z v' e1 e2 e3;refine⟨u2,r',?_⟩;rcases q with ⟨k,e⟩|⟨k,c,e,q⟩
   ·refine .inl ⟨k,?_⟩;have:z≠y:=λe=>hj (YD hN e1 (e ▸ hi))
    simp [this,e]
   ·exact .inr ⟨k,c,e,q.sameBut hs (cne z c e)⟩
 ·obtain⟨w',q⟩:=I.cell z c e;exact⟨w',q.sameBut hs (cne z c e)⟩
 ·rw [hpn] at hp;cases hp
 ·refine(I.hok b ob e).stay (λc w' hc q=>(hs.2 c ?_).trans q) (λ_ q=>q) λ_ _ q=>q
  rintro rfl;rcases hc with rfl|hc
  ·rw [I.free] at e;cases e
  ·rw [I.free] at hc;cases hc
end
noncomputable def cxH (X:Cx)(x:G9):Cx:= {X with A:=X.A.mark (some (.ref x)),calm:=false,xe:=λ_ _=>False}
section
variable {X:Cx}{ID:G0 (G9×Obj)}{σ:St}{H:Hp}{s:G3}{x C:G9}
def Inv.suite (I:Inv X ID σ H s)(x:G9):Inv (cxH X x) ID σ H s:=
 ⟨⟨I.ok.mod,I.ok.kind,I.ok.glob,I.ok.blt,I.ok.above,I.ok.inj,I.ok.has,I.ok.cab,λz=>(by cases z),I.ok.frames,I.ok.stk,I.ok.exf,I.ok.bs,I.ok.bsz,I.ok.noex,I.ok.exfs,I.ok.funs,I.ok.frf⟩,I.os,I.bare,I.base,I.loc,I.cell,I.free,I.freeC,I.pin,I.hok,I.len⟩
def Inv.unsuite (I:Inv (cxH X x) ID σ H s)(ok:X.Ok):Inv X ID σ H s:=⟨ok,I.os,I.bare,I.base,I.loc,I.cell,I.free,I.freeC,I.pin,I.hok,I.len⟩
def Nz {E:G1->G3->Prop}{n:Str}{i:G5}{PE:G9}{b0:A6}{suite:G0 A6}{t:TS}{D:ž}{np pos:Pos}(Z:Rz0 X)(hpn:X.pn= [])(hN:X.N.Nodup)(hi:X.N[i]? =some n)(hl:X.env.scope.names.lookup n=some .local)
 (hg:Gl X "PowerError")(hm:X.mg "PowerError" =some (.ref PE))(hex:exmOne X.K (.ref C) (.ref PE)=some true)(I:Inv X [] σ H s)(fl:Fly X.s₀.heap H s.heap x C)(hs:ļ (cxH X x) (b0::suite) t)
 (ht: ∀oe vs,oe.cls= .ref C->oe.data= .fields vs->t {nx:=λ_ _=>False,rt:=D.rt} (σ.set i (some (.ref x))) (upd H x (.frz oe (.own 0)))):
 R0 (R7 X.prog X.w) X.A (noteFrame (.ref x) X.env) (λ_ s₂=>R0 (R7 X.prog X.w) X.A (setFlight (.ref x) none) (λ_ s₃=>R0 (R7 X.prog X.w) X.A (handleBy (.ref x) X.env [.ExceptHandler (some (.Name "PowerError" np)) (some n) (b0::suite) pos]) (SP X [] D) E s₃) E s₂) E s:=by
 obtain⟨oe0,vs0,a0,T,oT,ts,he,hc,hd,h0,h1,hTx,hT,hTd,h3,hHT,h0T⟩:=fl.ex;have hfr:X.A.frames=some (X.env::X.outer):=by rw [I.ok.frames,Z.stk]
 have stk:s.heap.FunFrames X.base (X.env::X.outer):=Z.stk ▸ I.stack;have ff:s.heap.FunFrames (hideAll s.heap (x::T::Ĉ (X.env::X.outer))) (X.env::X.outer):=zg stk λa ha=>hideAll_none _ (.tail _ (.tail _ ha))
 refine wpAny_looks_onW (base:=hideAll s.heap (x::T::Ĉ (X.env::X.outer))) (cls:= .ref C) (a0:=a0) hfr Z.fr
  ⟨λb o e=>of_hideAll _ e,hideAll_none _ (.head _),ff,oe0,vs0,T,oT,ts,he,⟨hc,h0⟩,hd,h1,hideAll_none _ (.tail _ (.head _)),hTx,hT,hTd,h3⟩ λh₄ X0d X0e=> ?_
 refine wpAny_landsW X0d λh₅ X0f X0g=> ?_
 obtain⟨I5,F5⟩:=I.relaid Z hpn ⟨fl.nx,fl.n0⟩ ⟨hHT,h0T⟩ rfl X0f (X0e.trans X0g);refine wpAny_handleBy_cons (codeAny_handlers_test (Jx (X:=cxH X x) (I5.suite x) hg hm ?_)) (by intro q;cases q);have at5:ExcAt x C h₅:=let ⟨oe,_,_,_,_,_,e,c,_⟩:=F5.ex;⟨oe,e,c⟩;refine(exm_one (M:=R7 X.prog X.w) (h:=h₅) I5.kIn at5.type hex).here ?_;refine codeAny_handlers_suite_as ?_;refine lands_againW X0f λh₆ X0K X0L=> ?_
 obtain⟨I6,F6⟩:=I.relaid Z hpn ⟨fl.nx,fl.n0⟩ ⟨hHT,h0T⟩ rfl X0K (X0e.trans (X0g.trans X0L));obtain⟨oe,vs,_,_,_,_,e6,c6,d6,_⟩:=F6.ex;have I7:=I6.track hpn F6.nx F6.n0 e6 d6;refine wB I7 hN hi (.inl hl) (v:= .ref x) rfl (λs8 I8=> ?_) (.inr hl);refine M0 (hs [] s8 _ _ _ (I8.suite x) (ht oe vs c6 d6)) (λf s9 q=> ?_) λ_ _ z=>z.elim
 cases f with
 |next=>obtain⟨_,_,_,z⟩:=q;exact z.elim
 |brk=>obtain⟨_,_,_,z⟩:=q;exact z.elim
 |cont=>obtain⟨_,_,_,z⟩:=q;exact z.elim
 |ret u=>
  obtain⟨v,IO,H3,J,rv,qq⟩:=q;have J1:Inv X [] IO H3 s9:=J.unsuite I.ok;refine wpAny_bind (nM (wB J1 hN hi (.inl hl) (v:= .non) rfl (λs10 J2=> ?_) (.inr hl)));unfold unbindBehindTheSuite;have μ:i<IO.length:=by rw [J1.len];exact(P6.mp hi).1
  exact wpAny_onRaise (Rm J2 hpn hN hi hl (v:= .non) (by rw [aH μ]) λs11 J3=>⟨v,_,H3,J3,rv,qq⟩)
end
noncomputable def CW:G0 (Str×Str):= [("NoTable","table"),("NoPlace","place"),("NoNumber","number"),("NoOrder","order"),("NoSet","set"),("NoWalk","walk"),("NoLengths","lengths"),("NoWay","way"),("Apart","apart"),("NoRow","row")]
noncomputable def CN:G0 Str:= ["NoTable","NoPlace","NoNumber","NoOrder","NoSet","NoWalk","NoLengths","NoWay","Apart","NoRow"]
def vX (c:Str):Str:=(CW.lookup c).getD "other"
def Qn (P:S8)(w:B0)(K:G6)(mg:Str->P5 G1)(base:C7)(n:G5):G3->Sp:=λs vs H Q _=>
 ∃ (f:G9) (o:Obj) (qual:Str) (pm cv ź:G1) (cl:G0 (Str×G9)) (q:Str) (N:G0 Str) (σ:St) (scope:K1) (body:M9) (h:HD) (Qd:KD),vs= [.ref f]/\s.heap.get? f=some o/\o.data= .func (kla_fn "<lambda>" qual WN body scope cl pm cv ź)/\ŧ H cv q/\H f=none/\Ł scope/\Cap N σ scope cl s.heap H/\Ä K h H/\BF K H Qd Q/\
 ((∃QT:VK,(∀ (A':T8) (ÿ:G0 Env) (s':G3) (E':XK),Î n (A'.deeper (envX q scope s'.heap.objs.size f cv cl))-> ∃t,PE (cxL Û P w K mg base N q scope f cv cl A' ÿ s' H E') body t/\t σ H QT)/\
  ∀v H',QT v H'-> ∃d h',Kept H H'/\Ä K h' H'/\É K H' d v/\Qd (.tup [.str "told",d]) h')\/
  (∃RT:G9->Hp->Prop,(∀ (A':T8) (ÿ:G0 Env) (s':G3),Î n (A'.deeper (envX q scope s'.heap.objs.size f cv cl))-> ∀ID s2,Inv (cxL (Ķ P w) P w K mg base N q scope f cv cl A' ÿ s' H (λc _ H'=> ∃C,c= .ref C/\RT C H')) ID σ H s2->
   R0 (R7 P w) (A'.deeper (envX q scope s'.heap.objs.size f cv cl)) (A2 body (envX q scope s'.heap.objs.size f cv cl)) (λ_ _=>False) (cxL (Ķ P w) P w K mg base N q scope f cv cl A' ÿ s' H (λc _ H'=> ∃C,c= .ref C/\RT C H')).xe s2)/\
   ∀C H',RT C H'-> ∃c h',mg c=some (.ref C)/\c∈CN/\Kept H H'/\Ä K h' H'/\Qd (.tup [.str (vX c)]) h'))
noncomputable abbrev N1:G0 Str:= ["_law_call","_law_found","_law_e","_law_word"]
def Ý.mark {k:G5}{A:T8}{v:P5 G1}(r:Ý k A):Ý k (A.mark v):=⟨r.dp,r.un,r.gd⟩
def Rn {M:iP}{f:G9}(h:C7)(X: ∃o fd,h.get? f=some o/\o.data= .func fd): ∃k,(k=Keeper.frame\/k=Keeper.machine\/k=Keeper.boundFrame)/\Looks M h (keeperOf (.ref f)) k:=by
 obtain⟨o,fd,e,d⟩:=X;refine⟨.frame,.inl rfl,(z9 (part:=none) e).andThen ?_⟩;rw [d];exact .now
def FW {P:S8}{w:B0}{K:G6}{mg:Str->P5 G1}{base:C7}{st:A6}{fs:G9}{fds:M6}{n:G5}{pe:G9}{p1 p2 p3 p4 p5 p6 p7 p8 p9 p10 p11:Pos}{j k:G5}{b0:A6}{suite:G0 A6}
 (F:Þ K "_law_said" "_law_said" st fs fds)(S:Á N1 ["_law_call"] (jd st))
 (hb:jS st= [.Try [.Assign [.Name "_law_found" p1] (.Call (.Name "_law_call" p2) [] [] p3) p4] [.ExceptHandler (some (.Name "PowerError" p5)) (some "_law_e") (b0::suite) p6] [] [] p7,.Return (some (.Tuple [.Constant (.str "told") j p8,.Name "_law_found" p9] k p10)) p11])
 (l0:(jd st).names.lookup ("_law_call" :Str)=some .local)(l1:(jd st).names.lookup ("_law_found" :Str)=some .local)(l2:(jd st).names.lookup ("_law_e" :Str)=some .local)(lp:(jd st).names.lookup ("PowerError" :Str)=some .globalImplicit)
 (hm:mg "PowerError" =some (.ref pe))(hex: ∀c∈CN,∀C,mg c=some (.ref C)->exmOne K (.ref C) (.ref pe)=some true)(tS:TSD)
 (X0M: ∀ (Ë:G1) (A:T8) (outer:G0 Env) (s:G3) (H:Hp) (E:XK) (x:G9),Ý n ((A.deeper (Q3 "_law_said" (jd st) s.heap.objs.size fs Ë)).mark (some (.ref x)))->ŀ (cxH (WG Û P w K mg base N1 "_law_said" (jd st) fs Ë A outer s H E) x) (b0::suite) tS)
 (X1n: ∀c∈CN,∀ (C:G9) (h:HD) (Qd:KD),mg c=some (.ref C)->Qd (.tup [.str (vX c)]) h->tS {nx:=λ_ _=>False,rt:=λd h'=> ∃h2,Sub h2 h'/\Qd d h2} [none,none,some (.exc C),none] h):
 Ń P w K mg base Û (n+2) fs fds ["_law_call"] (Qn P w K mg base n):=by
 obtain⟨oc,od,kV,doc,pm,an,Ë,ct,ē,rfl,lk,hcd⟩:=F.ex;refine Es lk hcd S (λs vs H Q E h=> ?_) λA outer s H vs Q E hr Ŝ s1 I=> ?_
 ·obtain⟨f,_,_,_,_,_,_,_,_,_,_,_,_,_,rfl,_⟩:=h;rfl
 obtain⟨f,o,qual,pmv,cv,ź,cl,q,N,σ,scope,body,h,Qd,rfl,ho,hod,hcf,hHf,L,C,rh,post,alt⟩:=Ŝ;have un:=I.base;obtain⟨sl,ho1⟩:=un.any ho hHf (by intro z;cases z);have C1:Cap N σ scope cl s1.heap H:=C.step un;have hr0:Î (n+1) (A.deeper (Q3 "_law_said" (jd st) s.heap.objs.size fs Ë)):=hr;rw [hb];have callee: ∀ {CX:CXT} {E':XK} {QT:VK} {t:TE} {Q2:G1->G3->Prop} {EE:G1->G3->Prop},PE (cxL CX P w K mg base N q scope f cv cl (A.deeper (Q3 "_law_said" (jd st) s.heap.objs.size fs Ë)) (Q3 "_law_said" (jd st) s.heap.objs.size fs Ë::outer) s1 H E') body t->t σ H QT->
  (∀r s2,CR CX (Q3 "_law_said" (jd st) s.heap.objs.size fs Ë::outer) P w H s1 QT E' r s2->match r with| .ok (.ret v)=>Q2 v s2| .ok _=>False| .error e=>EE e s2)->
  R0 (R7 P w) (A.deeper (Q3 "_law_said" (jd st) s.heap.objs.size fs Ë)) (A2 (.Call (.Name "_law_call" p2) [] [] p3) (Q3 "_law_said" (jd st) s.heap.objs.size fs Ë)) Q2 EE s1:=by
  intro CX E' QT t Q2 EE hbt ht hk;refine X7 ?_;obtain⟨m,hn,hl⟩:=I.loc;obtain⟨u,ru,l⟩:=hl 0 "_law_call" (.ref f) rfl rfl (.inl l0);cases ru;have hmm:m "_law_call" =some (.ref f):=by
   rcases l with ⟨_,e⟩|⟨kk,_⟩
   ·exact e
   ·rcases kk with kk|kk<;>(have k':(jd st).names.lookup ("_law_call" :Str)=_:=kk;rw [l0] at k';cases k')
  refine pA (iB S.kind l0 hn hmm ?_) (by decide);refine callWith_of (P:=λh=> ∃o fd,h.get? f=some o/\o.data= .func fd) rfl Rn (evalArgs_nil3 ⟨⟨_,_,ho1,hod⟩,?_⟩);exact bY (cJ (FN (CX:=CX) (k:=n) L hr0 I.env0 C1 ho1 hod hcf hbt ht) hk)
 refine Q0 (wpAny_Try_except ?_);refine Q0 (lD ?_ rfl);rcases alt with ⟨QT,hT,hQ⟩|⟨RT,hR,hQ⟩
 ·obtain⟨t,hbt,ht⟩:=hT (A.deeper (Q3 "_law_said" (jd st) s.heap.objs.size fs Ë)) (Q3 "_law_said" (jd st) s.heap.objs.size fs Ë::outer) s1 E0 (hr0.deeper _);refine callee hbt ht λr s2 hq=> ?_
  cases r with
  |error e=>exact False.elim hq
  |ok fl=>
   cases fl with
   |next=>exact False.elim hq
   |brk=>exact False.elim hq
   |cont=>exact False.elim hq
   |ret u=>
    obtain⟨v,H',I2,rv,qt⟩:=I.after hq;obtain⟨d,h',kp,ï,rd,qd⟩:=hQ v H' qt;refine wB I2 (i:=1) (x:= "_law_found") S.nd rfl (.inl l1) rv (λs3 I3=> ?_) (.inr l1);refine cR (cR ?_);have X1V:ŀ (WG Û P w K mg base N1 "_law_said" (jd st) fs Ë A outer s H E) [.Return (some (.Tuple [.Constant (.str "told") j p8,.Name "_law_found" p9] k p10)) p11] (Pz (Sy (zu (dC (.str "told")) (zu (Ds 1) WF)))):=
     jE (wj (VE (ĝ Yg (ĝ (jv 1 rfl (.inl l1)) zO))))
    exact X1V.to [] s3 _ H' _ I3 ⟨[none,some d,none,none],h',{nx:=λ_ _=>False,rt:=Qd},⟨rfl,λi d' e=>by
     match i,e with
     |0,e=>cases e
     |1,e=>cases e;exact⟨v,rfl,rd⟩
     |2,e=>cases e
     |3,e=>cases e
     |i+4,e=>simp at e⟩,ï,⟨_,rfl,(by show 2<=sizeLine;decide),qd⟩,λ_ _ _ _ _ _ _ z=>z.elim,jC post kp,λ_ _ _ _ _ _ _ z=>z.elim,λ_ _ _ _ _ _ _ z=>z.elim⟩
 ·refine callee (CX:=Ķ P w) (E':=λc _ H'=> ∃C,c= .ref C/\RT C H') (QT:=λ_ _=>False) (t:=λIO H' _=>IO=σ/\H'=H)
   (λID s2 IO H' Q' I' ⟨e1,e2⟩=> ?_) ⟨rfl,rfl⟩ λr s2 hq=> ?_
  ·subst e1;subst e2;exact M0 (hR _ _ s1 (hr0.deeper _) ID s2 I') (λ_ _ z=>z.elim) λ_ _ z=>z
  cases r with
  |ok fl=>
   cases fl with
   |next=>exact False.elim hq
   |brk=>exact False.elim hq
   |cont=>exact False.elim hq
   |ret u=>obtain⟨_,_,_,_,_,_,_,z⟩:=hq;exact z.elim
  |error e=>
   obtain⟨x,C',H',rfl,os,bare,un2,hok,fl,C2,eC,rt⟩:=hq;cases eC;obtain⟨c,h',hmc,ν,kp,ï,qd⟩:=hQ C' H' rt;have I2:=I.call' (ch:= []) os un2 hok bare (λb z=>absurd z (by simp));have f0: ∀b,s1.heap.get? b=none->s.heap.get? b=none:=λb nb=>by
    cases qq:s.heap.get? b with
    |none=>rfl
    |some o=>obtain⟨o',e⟩:=I.base.there b o qq (by intro z;cases z);rw [nb] at e;cases e
   have fl':Fly s.heap H' s2.heap x C':=by
    obtain⟨⟨oe,vs,a0,T,oT,ts,a1,a2,a3,a4,a5,a6,a7,a8,a9,a10,a11⟩,nx,n0⟩:=fl;exact⟨⟨oe,vs,a0,T,oT,ts,a1,a2,a3,a4,a5,a6,a7,a8,a9,a10,f0 _ a11⟩,nx,f0 _ n0⟩
   have hsu:=X0M Ë A outer s H E x (Ý.mark ((hr0.mono (z8 n)).u));refine M0 (Nz (X:=WG Û P w K mg base N1 "_law_said" (jd st) fs Ë A outer s H E) (σ:=start N1 [V.ref f]) (i:=2) (n:= "_law_e") (C:=C') (t:=LS K tS) (D:= {nx:=λ_ _=>False,rt:=Q}) ⟨rfl,rfl,rfl⟩ rfl S.nd rfl l2 lp hm (hex c ν C' hmc) I2 fl' hsu.to λoe vs hc hd=> ?_) (λ_ s3 h3=>M0 h3 (λ_ s4 h4=>M0 h4 (λfl s5 h5=> ?_) λ_ _ z=>z) λ_ _ z=>z) λ_ _ z=>z
   ·refine⟨[none,none,some (.exc C'),none],h',_,⟨rfl,λi d' e=> ?_⟩,ï.new fl'.nx,X1n c ν C' h' Qd hmc qd,λ_ _ _ _ _ _ _ z=>z.elim,λd v h2 H2 k2 î rd ⟨h3,sb,q3⟩=>post d v h3 H2 ((kp.trans (.new fl'.nx)).trans k2) (î.sub sb) rd q3,λ_ _ _ _ _ _ _ z=>z.elim,λ_ _ _ _ _ _ _ z=>z.elim⟩
    match i,e with
    |0,e=>cases e
    |1,e=>cases e
    |3,e=>cases e
    |i+4,e=>simp at e
    |2,e=>cases e;exact⟨.ref x,rfl,x,oe,vs,rfl,ji,hc,hd⟩
   ·cases fl with
    |next=>obtain⟨_,_,_,z⟩:=h5;exact z.elim
    |brk=>obtain⟨_,_,_,z⟩:=h5;exact z.elim
    |cont=>obtain⟨_,_,_,z⟩:=h5;exact z.elim
    |ret u=>exact h5
def Hb (tT:TED)(tR:TXD):TED:=λσ h Q=>tT σ h (λd h'=>Q (.tup [.str "told",d]) h')\/tR σ h (λc h'=>c∈CN/\Q (.tup [.str (vX c)]) h')
noncomputable def Kc (sc:K1):M7:=sc.kind== .function&& !sc.isCoroutine&& !sc.isGenerator&&sc.names.all λy=>y.2 != .cell&&y.2 != .local
def Eu {sc:K1}(hk:sc.kind= .function)(h:Kc sc=true):Ł sc:=by
 unfold Kc at h;simp only [B8,lH,N9,bne_iff_ne,ne_eq] at h;exact⟨hk,h.1.1.2,h.1.2,λy hy=>h.2 y hy⟩
noncomputable def Ev (sc sc':K1):M7:=sc.names.all λy=>y.2 != .free||(sc'.names.lookup y.1==some .cell||sc'.names.lookup y.1==some .free)
def FX {sc:K1}{env:Env}(h:Ev sc env.scope=true):Rh sc env:=λn hn=>by
 have:=N9.mp h _ hn;simp only [qG,uQ,bK,beq_iff_eq] at this;exact this
def Hc {X:Cx}{n:G5}{fs:G9}{fds:M6}{scope:K1}{body:M9}{X1o p pos:Pos}{tT:TED}{tR:TXD}{c P:G9}
 (F:Ń X.prog X.w X.K X.mg X.base Û (n+2) fs fds ["_law_call"] (Qn X.prog X.w X.K X.mg X.base n))(hr:Î (n+2) X.A)(hg:Gl X "_law_said")(hm:X.mg "_law_said" =some (.ref fs))(hk:keepIn X.K (.ref fs)=true)(hb:Binds X.K fds ["_law_call"] [])
 (B:Bm X.mg X.base)(Μ:X.env.code= .ref c)(hc:codeHdIn X.K c P=true)(hTK:X0D X.K P)(L:Ł scope)(hfr:Rh scope X.env)
 (hT: ∀ (q:Str) (cv:G1) (cl:G0 (Str×G9)) (f:G9) (A:T8) (outer:G0 Env) (s:G3) (H:Hp) (E:XK),Î n (A.deeper (envX q scope s.heap.objs.size f cv cl))->JE (cxL Û X.prog X.w X.K X.mg X.base X.N q scope f cv cl A outer s H E) body tT)
 (hR: ∀ (q:Str) (cv:G1) (cl:G0 (Str×G9)) (f:G9) (A:T8) (outer:G0 Env) (s:G3) (H:Hp) (E:XK),Î n (A.deeper (envX q scope s.heap.objs.size f cv cl))->JXE (cxL (Ķ X.prog X.w) X.prog X.w X.K X.mg X.base X.N q scope f cv cl A outer s H E) body tR)
 (he:P8 [Expr.Lambda WN body scope X1o] X.env=(false,A2 (.Lambda WN body scope X1o) X.env)::P8 [] X.env:=by rfl)(hpl:(E1 pos (P8 [] X.env)).any (·.1)=false:=by rfl):
 JE X (.Call (.Name "_law_said" p) [.Lambda WN body scope X1o] [] pos) (Hb tT tR):=⟨λID s σ H Q I ⟨Â,h,Qd,rs,rh,alt,post⟩=>by
 refine X7 (Jx I hg hm ?_ (by decide));refine j5 (h₀:=X.base) I.ok.mod.kin hk ?_ he hpl;rw [he];obtain⟨ps,hP,hps⟩:=rh.tb P hTK;have hcl:kL scope X.env=pure (Zo X.env.cells scope.names []):=Wc λn hn=>I.ok.has n (hfr n hn)
 refine aT (Nt I B Μ hc hP hps hcl λf q qual pm cv ź H1 h1 tk I1 kp X1C tbls HZ hf hcf hHf _ _ _=>fZ ⟨I1.kIn,?_⟩);have Ê:Ä X.K h H1:=⟨λa ds e=>by
  obtain⟨vs,e1,e2⟩:=rh a ds e;exact⟨vs,X1C _ _ e1 (by intro _ z;cases z),e2.mono kp⟩,λP' hP'=>by
  by_cases z:P'=P
  ·subst z;exact HZ
  ·obtain⟨ł,e1,e2⟩:=rh.tb P' hP';exact⟨ł,tbls _ _ e1 z,e2.mono kp.frz⟩,λa c e=>(rh.dc a c e).mono kp λo w=>by
  obtain⟨u,w',d⟩:=(rh.dc a c e).obj;rw [w] at w';cases w';exact X1C _ _ w d.no.2.2.2.2⟩
 have Ö:Ì X.K H1 Â σ:=rs.mono kp;refine FU (us:= [.ref f]) (vs:= [.ref f]) (dvs:= []) (ds:= []) (E:=E0) F hr hb .nil CB I1 (.cons rfl .nil) ?_;refine⟨f,_,qual,pm,cv,ź,Zo X.env.cells scope.names [],q,X.N,σ,scope,body,h,Qd,rfl,hf,rfl,hcf,hHf,L,Cap.of I1 hfr,Ê,jC post kp,?_⟩;rcases alt with t|t
 ·refine .inl ⟨λv H'=> ∃d h',Kept H1 H'/\Ä X.K h' H'/\É X.K H' d v/\Qd (.tup [.str "told",d]) h',λA' ÿ s' E' hr'=>⟨_,(hT q cv _ f A' ÿ s' H1 E' hr').to,Â,h,_,Ö,Ê,t,λd v h' H' k r1 r2 q=>⟨d,h',k,r1,r2,q⟩⟩,λv H' q=>q⟩
 ·refine .inr ⟨λC H'=> ∃c h',X.mg c=some (.ref C)/\c∈CN/\Kept H1 H'/\Ä X.K h' H'/\Qd (.tup [.str (vX c)]) h',λA' ÿ s' hr' X1p s2 I2=> ?_,λC H' q=>q⟩;exact(hR q cv _ f A' ÿ s' H1 _ hr').to _ Eq X1p s2 σ H1 Â h _ I2 Ö Ê t λc C h' H' k ï hmc ⟨ν,qq⟩=>⟨C,rfl,c,h',hmc,ν,k,ï,qq⟩⟩
variable {K:Frag}{x:Str}
def NA {f c P:G9}{oc:G1}{od:P5 G9}{fd:M6}{ē:T6 (P5 G1)}(a:nsIn K mainGlobals x=some (some (.ref f)))(l:K.lookup f=some ⟨oc,od,.func fd,ē⟩)(t:tabIn K x=some (c,P)):fd.code= .ref c:=by
 unfold tabIn at t;rw [a] at t;simp only [l] at t;split at t
 ·rename_i c' Ļ;split at t
  ·split at t
   ·cases t;exact Ļ
   ·cases t
  ·cases t
 ·cases t
noncomputable def Ũ:G0 Str:= ["NoTable","NoPlace","NoNumber","NoOrder","NoSet","NoWalk","NoLengths","NoWay","Apart","NoRow","NoTables","NoText","TooGreat"]
noncomputable def adr (K:Frag)(x:Str):P5 G9:=match nsIn K mainGlobals x with
 |some (some (.ref a))=>some a
 |_=>none
noncomputable def NB (K:Frag)(C:G9):M7:=(clsIn K C).isSome&&findIn K (.ref C) "__getattribute__" ==some (some (.builtin "BaseException.__getattribute__"))&&findIn K (.ref C) "__getattr__" ==some none
 &&findIn K (.ref C) "__class__" ==some (some (.builtin "object.__class__"))&&specialIn K (.builtin "object.__class__") "__get__" ==some (some (.builtin "getset_descriptor.__get__"))
 &&takesIn K (.builtin "object.__class__")==some true&&mroIn K C (.type "object")==some true&&mroIn K C (.type "BaseException")==some true
def FY {C:G9}(h:NB K C=true):ķ K C:=by
 unfold NB at h;simp only [B8,beq_iff_eq] at h;obtain⟨⟨⟨⟨⟨⟨⟨a,b⟩,c⟩,d⟩,e⟩,f⟩,g⟩,i⟩:=h;exact⟨a,b,c,d,e,f,g,i⟩
noncomputable def BO (K:Frag)(c:Str):M7:=match adr K c,adr K "PowerError" with
 |some C,some pe=>excIn K C bmV "ValueError.__new__" &&NB K C&&kitOne K (.ref C) (.type "ValueError")==some true&&exmOne K (.ref C) (.ref pe)==some true&&Ũ.all λd=>match adr K d with
  |some D=>kitOne K (.ref C) (.ref D)==some (c==d)
  |none=>false
 |_,_=>false
noncomputable def Hd (K:Frag):M7:=CN.all (BO K)&&Ũ.all (λd=>(adr K d).isSome)&&(adr K "PowerError").isSome&&nsIn K mainGlobals "ValueError" ==some none
structure Exc (K:Frag)(mg:Str->P5 G1):Prop where
 own: ∀c∈CN,X0Y K mg c
 ek: ∀c∈CN,∀C,mg c=some (.ref C)->ķ K C
 kit: ∀c∈CN,∀d∈Ũ,∀C D,mg c=some (.ref C)->mg d=some (.ref D)->kitOne K (.ref C) (.ref D)=some (c==d)
 val: ∀c∈CN,∀C,mg c=some (.ref C)->kitOne K (.ref C) (.type "ValueError")=some true
 pe: ∃pe,mg "PowerError" =some (.ref pe)/\ ∀c∈CN,∀C,mg c=some (.ref C)->exmOne K (.ref C) (.ref pe)=some true
 cls: ∀d∈Ũ,∃D,mg d=some (.ref D)
 ve:mg "ValueError" =none
def Qo {h:C7}{mg:Str->P5 G1}{a:G9}(X:K.In h)(G:h.Ns mainGlobals mg)(e:adr K x=some a):mg x=some (.ref a):=by
 unfold adr at e;split at e
 ·rename_i q;cases e;exact mg_of X G q
 ·cases e
def Ew {a:G9}(e:adr K x=some a):nsIn K mainGlobals x=some (some (.ref a)):=by
 unfold adr at e;split at e
 ·rename_i q;cases e;exact q
 ·cases e
def Ey {h:C7}{mg:Str->P5 G1}(X:K.In h)(G:h.Ns mainGlobals mg)(e:Hd K=true):Exc K mg:=by
 unfold Hd at e;simp only [B8,N9,beq_iff_eq] at e;obtain⟨⟨⟨e1,e2⟩,e3⟩,e4⟩:=e;obtain⟨pe,hpe⟩:=J4.mp e3;have A: ∀c∈CN,∃C,adr K c=some C/\mg c=some (.ref C)/\excIn K C bmV "ValueError.__new__" =true/\NB K C=true/\kitOne K (.ref C) (.type "ValueError")=some true/\exmOne K (.ref C) (.ref pe)=some true/\ ∀d∈Ũ,∀D,adr K d=some D->kitOne K (.ref C) (.ref D)=some (c==d):=λc hc=>by
  have q:=e1 c hc;unfold BO at q;rw [hpe] at q;split at q
  ·rename_i C pe' h1 h2;cases h2;simp only [B8,N9,beq_iff_eq] at q;obtain⟨⟨⟨⟨q1,q2⟩,q3⟩,q4⟩,q5⟩:=q;refine⟨C,h1,Qo X G h1,q1,q2,q3,q4,λd hd D hD=> ?_⟩;have:=q5 d hd;rw [hD] at this;simpa using this
  ·cases q
 have same: ∀ {c:Str} {C C':G9},mg c=some (.ref C)->mg c=some (.ref C')->C=C':=λa b=>by rw [a] at b;cases b;rfl
 refine⟨λc hc=> ?_,λc hc C h=> ?_,λc hc d hd C D h1 h2=> ?_,λc hc C h=> ?_,⟨pe,Qo X G hpe,λc hc C h=> ?_⟩,λd hd=> ?_,mg_none_of X G e4⟩
 ·obtain⟨C,a,m,q,_⟩:=A c hc;exact⟨C,m,Ew a,q⟩
 ·obtain⟨C',_,m,_,q,_⟩:=A c hc;cases same h m;exact FY q
 ·obtain⟨C',_,m,_,_,_,_,q⟩:=A c hc;cases same h1 m;obtain⟨D',hD⟩:=J4.mp (e2 d hd);cases same h2 (Qo X G hD);exact q d hd D hD
 ·obtain⟨C',_,m,_,_,q,_⟩:=A c hc;cases same h m;exact q
 ·obtain⟨C',_,m,_,_,_,q,_⟩:=A c hc;cases same h m;exact q
 ·obtain⟨D',hD⟩:=J4.mp (e2 d hd);exact⟨D',Qo X G hD⟩
def xOr (t u:TXD):TXD:=λσ h R=>t σ h R\/u σ h R
def Ez {X:Cx}{sts:G0 A6}{t u:TXD}(a:JX X sts t)(b:JX X sts u):JX X sts (xOr t u):=⟨λE Z ID s σ H Â h R I rs rh ht w=>ht.elim (λq=>a.to E Z ID s σ H Â h R I rs rh q w) λq=>b.to E Z ID s σ H Â h R I rs rh q w⟩
section
variable {P:S8}{w:B0}{K:G6}{mg:Str->P5 G1}{base:C7}
def Þ.okJL {x qual:Str}{st:A6}{f c Pt:G9}{fd:M6}{N ps:G0 Str}{k:G5}{ö:RDn}(F:Þ K x qual st f fd)(a:nsIn K mainGlobals x=some (some (.ref f)))(T:tabIn K x=some (c,Pt))(S:Á N ps (jd st))(len: ∀ds h Q,ö ds h Q->ds.length=ps.length)
 (tb:TSD)(Ò: ∀ (A:T8) (outer:G0 Env) (s:G3) (H:Hp) (E:XK),Î k (A.deeper (Q3 qual (jd st) s.heap.objs.size f (.ref c)))->ŀ (WG Û P w K mg base N qual (jd st) f (.ref c) A outer s H E).nox (jS st) tb)
 (read: ∀ds h Q,ö ds h Q->tb (Xg Q) (jZ N ds) h):È P w K mg base Û (k+1) f fd ps (æ K ö):=by
 obtain⟨oc,od,kV,doc,pm,an,Ë,ct,ē,rfl,lk,hcd⟩:=F.ex;have e:Ë= .ref c:=NA a lk T;subst e;refine Cv lk hcd S (λvs H Q E h=> ?_) λA outer s H vs Q E hr h=> ?_
 ·obtain⟨ds,h,Qd,r,rh,q,p⟩:=h;rw [<-r.length];exact len _ _ _ q
 ·obtain⟨ds,h,Qd,r,rh,q,p⟩:=h;refine⟨_,((Ò A outer s H E hr).to).nox,jZ N ds,h,Xg Qd,yM r,rh,read ds h Qd q,λÐ h' IO H' k Ε ï ⟨h2,sb,q'⟩=>p .non .non h2 H' k (ï.sub sb) rfl q',λd v h' H' k ï r' ⟨h2,sb,q'⟩=>p d v h2 H' k (ï.sub sb) r' q',λ_ _ _ _ _ _ _ z=>z.elim,λ_ _ _ _ _ _ _ z=>z.elim⟩
end
def EA (P:S8)(w:B0)(K:G6)(mg:Str->P5 G1)(base:C7)(n:G5):Prop:=
 ∃ (g:G9) (gd:M6),Ń P w K mg base Û (n+2) g gd ["_law_call"] (Qn P w K mg base n)/\Binds K gd ["_law_call"] []/\K8 K (.ref g)=true/\mg "_law_said" =some (.ref g)
def FZ (K:Frag)(x:Str):M7:=match tabIn K x with
 |some p=>codeHdIn K p.1 p.2
 |none=>false
def La (h:FZ K x=true): ∃c P,tabIn K x=some (c,P)/\codeHdIn K c P=true:=by
 unfold FZ at h;split at h
 ·rename_i p e;exact⟨p.1,p.2,e,h⟩
 ·cases h
def Ro (mg:Str->P5 G1):RDn:=λds h Q=> ∃c C,ds= [.exc C]/\c∈CN/\mg c=some (.ref C)/\ ∀h',Sub h h'->Q (.str (vX c)) h'
end L2
namespace L2
open PySem PySem.Spec PyProof.Rows PySem.SeqAt
section
variable {n e:G5}{T:G0 (G0 P1)}
instance (k i j:G5):Decidable (RP n T k i j):=inferInstanceAs (Decidable (Ï (PB n T k) i j≠0))
end
end L2
namespace L2
open PySem PySem.Spec PyProof.Rows PySem.W
section
variable {X:Cx}{e a b iter:M9}{es:G0 M9}{u:TXD}{pos p:Pos}{rest:G0 A6}
def Rp (he:JXE X e u)(hs:P8 (e::es) X.env=(false,A2 e X.env)::P8 es X.env)(E:XK)(Z:Rz X E)(ID:G0 (G9×Obj))(s:G3)(σ:St)(H:Hp)(Â:SD)(h:HD)(R:Str->HD->Prop)(I:Inv X ID σ H s)(rs:Ì X.K H Â σ)(rh:Ä X.K h H)(ht:u Â h R)(w:WX X E H R):
 R0 (R7 X.prog X.w) X.A (xH (E1 pos (P8 (e::es) X.env))) (λ_ _=>False) X.xe s:=by
 rw [hs];show R0 _ _ (xH ((false,A2 e X.env)::E1 pos (P8 es X.env))) _ _ s;exact aT (M0 (he.to E Z ID s σ H Â h R I rs rh ht w) (λ_ _ z=>z.elim) λ_ _ z=>z)
def Lb {x:Str}{id:U5}(hg:Gl X x)(hm:X.mg x=none)(hv:Q5 x=some (.builtin id))(ha:JXE X e u)(hn:x≠ "__name__" :=by decide)(hdb:(x==("__debug__" :Str))=false:=by decide)
 (he:P8 (e::es) X.env=(false,A2 e X.env)::P8 es X.env:=by rfl)(hpl:(E1 pos (P8 es X.env)).any (·.1)=false:=by rfl):JXE X (.Call (.Name x p) (e::es) [] pos) u:=⟨λE Z ID s σ H Â h R I rs rh ht w=>
 X7 (ZG I hg hm hv (gV (M0 (Rp ha he E Z ID s σ H Â h R I rs rh ht w) (λ_ _ z=>z.elim) λ_ _ z=>z) he hpl) hn hdb)⟩
end
end L2
namespace L2
open PySem PySem.Spec PyProof.Rows
def TrV (K:G6)(H:Hp):V->M7->Prop
 | .bl b,c=>c=b
 | .int i,c=>c=(i !=0)
 | .non,c=>c=false
 | .ref a,c=> ∃xs,í K H a xs/\c= !xs.isEmpty
 |_,_=>False
def TrD (h:HD):D->M7->Prop
 | .bl b,c=>c=b
 | .int i,c=>c=(i !=0)
 | .non,c=>c=false
 | .lst a,c=> ∃ds,h a=some ds/\c= !ds.isEmpty
 |_,_=>False
def TrD.to {K:G6}{H:Hp}{h:HD}{d:D}{v:V}{c:M7}(t:TrD h d c)(r:É K H d v)(rh:Ä K h H):TrV K H v c:=by
 cases d<;>try exact t.elim
 ·have e:v= .non:=r;subst e;exact t
 ·have e:v= .bl _:=r;subst e;exact t
 ·have e:v= .int _:=r;subst e;exact t
 ·obtain⟨e,_⟩:=r;subst e;obtain⟨ds,hd,e⟩:=t;obtain⟨vs,hv,r'⟩:=rh _ ds hd;refine⟨vs,í.of hv,?_⟩;rw [e];have:=r'.length;cases ds<;>cases vs<;>first|rfl|(simp at this)
section
variable {X:Cx}{ID:G0 (G9×Obj)}{σ:St}{H:Hp}{s:G3}{E:G1->G3->Prop}
def Inv.trv {v:V}{u:G1}{c:M7}{Q:M7->G3->Prop}(I:Inv X ID σ H s)(r:RelV v u)(t:TrV X.K H v c)(q: ∀s',Inv X ID σ H s'->Q c s'):R0 (R7 X.prog X.w) X.A (qV u) Q E s:=by
 cases v<;>try exact t.elim
 ·have e:u=fH:=r;subst e;have e:c=false:=t;subst e;exact truthy_none (q _ I)
 ·have e:u=mJ _:=r;subst e;have e:c=_:=t;subst e;exact E6 (q _ I)
 ·obtain⟨t',e⟩:=r;subst e;have e:c=_:=t;subst e;exact truthy_int (q _ I)
 ·have e:u=Z7 _:=r;subst e;obtain⟨xs,hx,e⟩:=t;obtain⟨its,rv,p,hz⟩:=I.list hx;have hl:=rv.length;have e2:c= !its.toArray.isEmpty:=by
   rw [e];cases xs<;>cases its<;>first|rfl|(simp at hl)
  refine wpAny_truthy_list p.isList ?_ ?_
  ·have:xs.length<=16777216:=R6 hz (by decide);simp only [S0];have e3:((2:P1)^63)=9223372036854775808:=by decide
   rw [e3];omega
  ·rw [<-e2];exact q _ (I.tok _)
end
section
variable {X:Cx}{a b:M9}{rest:G0 M9}{pos:Pos}
def Kd (K:G6)(t:TE):TT:=λσ H Q=>t σ H λx H1=> ∃c,TrV K H1 x c/\Q c H1
def EB {e:M9}{t:TE}(h:PE X e t)(he: ∀whole,isTrue e X.env whole=(do let v <-whole;hO e.pos;aZ [v] (qV v)):=by intro _;rfl):PT X e (Kd X.K t):=by
 intro ID s σ H Q I hw;refine xI (Ñ (h ID s σ H _ I hw) λv s1 ⟨x,H1,I1,r1,q1⟩=> ?_) (he _);obtain⟨c,t1,q⟩:=q1;exact I1.trv r1 t1 λs' I'=>⟨H1,I',q⟩
def Ke (t:TED):TTD:=λσ h Q=>t σ h λx h1=> ∃c,TrD h1 x c/\Q c h1
variable {K:G6}
def EC {t:TED}: ∀σ H Q,LT K (Ke t) σ H Q->Kd K (LE K t) σ H Q:=λσ H Q ⟨Â,h,Qd,rs,rh,t,p⟩=>
 LE.bind rs rh t λd v h1 H1 k1 Ö Ê r1 ⟨k,e,q⟩=>⟨k,e.to r1 Ê,p k h1 H1 k1 Ê q⟩
def He {ta:TED}(ha:JE X a ta)(he: ∀whole,isTrue a X.env whole=(do let v <-whole;hO a.pos;aZ [v] (qV v)):=by intro _;rfl):JT X a (Ke ta):=⟨(EB ha.to he).imp EC⟩
end
end L2
namespace L2
open PySem PySem.Spec PyProof.Rows PySem.SeqAt
section
variable {n e:G5}{T:G0 (G0 P1)}
def yt (h:Sq n e T)(hn:n<=8){a b i j k:G5}(hi:i<n)(hk:k<n)(hj:j<n)(x:RP n T a i k)(y:RP n T b k j):RP n T (a+b) i j:=(Yl h hn a b hi hj).mpr ⟨k,hk,x,y⟩
def Yn (h:Sq n e T)(hn:n<=8){i j:G5}:RP n T 1 i j↔Ï T i j≠0:=by unfold RP;rw [FA h hn]
end
end L2
namespace HT
open PySem PySem.Spec PyProof.Rows
variable {j:G5}
theorem Vb {xs:T6 G5}(r:xs.toList.Pairwise (· < ·)): ∀ (fuel lo hi:G5),hi-lo<=fuel->hi<=xs.size->lo<=hi->(∀i,i<lo-> ∀v,xs[i]? =some v->v<j)->(∀i,hi<=i-> ∀v,xs[i]? =some v->j<=v)->
 (∀i,i<gG xs j fuel lo hi-> ∀v,xs[i]? =some v->v<j)/\(∀i,gG xs j fuel lo hi<=i-> ∀v,xs[i]? =some v->j<=v)/\gG xs j fuel lo hi<=xs.size
 |0,lo,hi,f,hs,lh,a,b=>by
  have:lo=hi:=by omega
  subst this;exact⟨a,b,hs⟩
 |fuel+1,lo,hi,f,hs,lh,a,b=>by
  unfold gG
  by_cases c:lo<hi
  ·rw [R8 c];have hm:(lo+hi) / 2<xs.size:=by omega
   have mono: ∀ (i k u v:G5),i<=k->xs[i]? =some u->xs[k]? =some v->u<=v:=λi k u v ik e1 e2=>by
    rcases O4 i k with z|z
    ·have i1:=(K3.mp e1);have i2:=(K3.mp e2);obtain⟨h1,e1'⟩:=i1;obtain⟨h2,e2'⟩:=i2;have:=A1.mp r i k (by simpa using h1) (by simpa using h2) z;simp only [dH] at this;omega
    ·have:i=k:=by omega
     subst this;rw [e1] at e2;cases e2;exact P3 _
   have em:xs.getD ((lo+hi) / 2) j=xs[(lo+hi) / 2]:=by simp [tU,hm]
   dsimp only
   by_cases d:xs.getD ((lo+hi) / 2) j<j
   ·rw [R8 d];refine Vb r fuel _ hi (by omega) hs (by omega) (λi â v hv=> ?_) b;have:=mono i ((lo+hi) / 2) v xs[(lo+hi) / 2] (by omega) hv (by simp [hm]);omega
   ·rw [R9 d];refine Vb r fuel lo _ (by omega) (by omega) (by omega) a (λi â v hv=> ?_);have:=mono ((lo+hi) / 2) i xs[(lo+hi) / 2] v â (by simp [hm]) hv;omega
  ·rw [R9 c];have:lo=hi:=by omega
   subst this;exact⟨a,b,hs⟩
def vY {xs:T6 G5}(r:xs.toList.Pairwise (· < ·))(j:G5):(∀i,i<M1 xs j-> ∀v,xs[i]? =some v->v<j)/\(∀i,M1 xs j<=i-> ∀v,xs[i]? =some v->j<=v)/\M1 xs j<=xs.size:=
 Vb r xs.size 0 xs.size (by omega) (P3 _) (N3 _) (λi h=>absurd h (aF _)) (λi h v e=>by rw [mU h] at e;cases e)
def We {xs:T6 G5}(r:xs.toList.Pairwise (· < ·))(no:xs[M1 xs j]? ≠some j):(W7 xs (M1 xs j) j).toList.Pairwise (· < ·):=by
 obtain⟨a,b,hs⟩:=vY r j;rw [eU,B3,U1];have low: ∀v∈xs.toList.take (M1 xs j),v<j:=λv hv=>by
  obtain⟨i,hi⟩:=Y9 hv;rw [pI] at hi;split at hi
  ·rename_i c;exact a i c v (by simpa using hi)
  ·cases hi
 have high: ∀v∈xs.toList.drop (M1 xs j),j<v:=λv hv=>by
  obtain⟨i,hi⟩:=Y9 hv;rw [X9] at hi;have â:xs[M1 xs j+i]? =some v:=by simpa using hi
  have le:=b _ (Y0 _ _) v â;rcases O4 j v with z|z
  ·exact z
  ·have ev:v=j:=by omega
   subst ev;cases i with
   |zero=>exact(no â).elim
   |succ i=>
    obtain⟨h1,e1⟩:=K3.mp â;have h0:M1 xs v<xs.size:=by omega
    have le0:=b _ (P3 _) xs[M1 xs v] (by simp [h0]);have lt:=A1.mp r (M1 xs v) (M1 xs v+(i+1)) (by simpa using h0) (by simpa using h1) (by omega);simp only [dH] at lt;omega
 exact⟨r.sublist (W1 _ _),⟨high,r.sublist (V4 _ _)⟩,λu hu v hv=>by
  rcases D5.mp hv with e|e
  ·rw [e];exact low u hu
  ·exact cM (low u hu) (high v e)⟩
structure Ş (L:M7)(n:G5)(t:T9):Prop where
 fits:t.fits n=true
 led:t.led=L
 dum:t.dummies= #[]
 rise:t.plain=true\/n<=1->t.place.toList.Pairwise (· < ·)
def NC {xs:G0 G5}(h:xs.length<=1):xs.Pairwise (· < ·):=by
 match xs,h with
 | [],_=>exact .nil
 | [x],_=>exact O3 _ _
variable {t:T9}
def Yo {n:G5}(h:t.fits n=true):t.place.size=n:=by
 simp only [u5,B8,beq_iff_eq] at h;exact h.1
variable {L:M7}
def Ş.mk' {n:G5}(f:t.fits n=true)(l:t.led=L)(d:t.dummies= #[])(r:t.plain=true->t.place.toList.Pairwise (· < ·)):Ş L n t:=
 ⟨f,l,d,λh=>h.elim r λz=>NC (by have:=Yo f;simpa [this] using z)⟩
def Yp (h:t.slot j= .empty):t.place[M1 t.place j]? ≠some j:=λe=>by
 unfold lO at h;dsimp only at h;rw [R8 (by rw [e];exact X8 _)] at h;cases h
def JN (d:t.dummies= #[]):t.slot j≠ .dummy:=λh=>by
 unfold lO at h;dsimp only at h;split at h
 ·cases h
 ·rw [d] at h;have:dQ #[] j=false:=by unfold dQ;simp
  rw [this] at h;cases h
theorem Wf {f:G5->P1}{h:P1}(d:t.dummies= #[]): ∀ (fuel:G5) (p:U2) {j:G5} {dm:P5 G5},p.dummy=none->Q6 t f h fuel p=some (.empty j dm)->t.slot j= .empty/\dm=none
 |0,p,j,dm,_,e=>by cases e
 |fuel+1,p,j,dm,hp,e=>by
  unfold Q6 at e;have adv:(t.advance p).dummy=none:=by
   unfold Y1;split
   ·exact hp
   ·exact hp
  split at e
  ·rename_i hs;injection e with e;injection e with e1 e2;subst e1;exact⟨hs,by rw [<-e2];exact hp⟩
  ·rename_i hs;exact(JN d hs).elim
  ·split at e
   ·cases e
   ·exact Wf d fuel _ adv e
variable {es:T6 (P1×G1)}
def GO (T:Ş L es.size t)(h:P1)(x:G1):Ş L (G0f t es h x).1.size (G0f t es h x).2.1:=by
 have Ī:=layNew_fits t es h x;revert Ī;unfold G0f;cases e:t.freeSlot h with
 |none=>intro Ī;exact .mk' Ī T.led rfl λz=>by cases z
 |some q=>
  obtain⟨slot,wd⟩:=q;intro Ī;have ne:t.place[M1 t.place slot]? ≠some slot:=by
   unfold G0t at e;split at e
   ·rename_i j dm hp;obtain⟨he,hd⟩:=Wf T.dum _ _ rfl hp;injection e with e;injection e with e1 e2
    subst hd;rw [<-e1];exact Yp he
   ·cases e
  refine .mk' Ī ?_ ?_ ?_
  ·show (Y2 _ _).led=L;unfold Y2;split
   ·exact T.led
   ·exact T.led
  ·show (Y2 _ _).dummies= #[];unfold Y2;split
   ·show (if dQ t.dummies slot then _ else t.dummies)= #[];rw [T.dum];have:dQ #[] slot=false:=by unfold dQ;simp
    rw [this];rfl
   ·rfl
  ·show (Y2 _ _).plain=true->(Y2 _ _).place.toList.Pairwise (· < ·);unfold Y2;split
   ·intro z;exact We (T.rise (.inl z)) ne
   ·intro z;cases z
theorem Zw (f:G5->P5 G5): ∀l:G0 G5,((l.filterMap λj=>(f j).map (j,·)).map (·.1)).Sublist l
 | []=> .slnil
 |j::l=>by
  rw [X1];cases e:(f j).map (j,·) with
  |none=>exact(Zw f l).cons _
  |some q=>
   obtain⟨v,_,rfl⟩:=F8.mp e;exact(Zw f l).cons₂ _
def Um (T:Ş L es.size t)(wanted:G5):Ş L (tV t es wanted).1.size (tV t es wanted).2.1:=by
 have Ī:=relayAll_fits t es wanted;revert Ī;unfold tV;cases e:t.relaid (es.map (·.1)) wanted with
 |none=>intro Ī;exact .mk' Ī T.led rfl λz=>by cases z
 |some q=>
  obtain⟨t',order⟩:=q;dsimp only;split
  ·intro Ī;unfold G0F o6 at e;cases ho:lI (J5 wanted-1) (es.map (·.1)) with
   |none=>rw [ho] at e;cases e
   |some owner=>
    rw [ho] at e;injection e with e;injection e with e1 e2
    subst e1;refine .mk' Ī T.led rfl λ_=> ?_
    show List.Pairwise (· < ·) (gF _ _).toArray.toList;rw [List.toList_toArray];exact G0.pairwise_lt_range.sublist (Zw (λj=>owner.getD j none) _)
  ·intro Ī;exact .mk' Ī T.led rfl λz=>by cases z
abbrev zJ (es:T6 (P1×G1))(ep:G5)(t:T9):Obj:= {cls:= .type "set",dict:=none,data:= .set es ep t,slots:= #[]}
def ND (e:P1×G1):P1:=match e.2 with
 | .int n _=>n
 |_=>0
structure SetI (L:M7)(es:T6 (P1×G1))(t:T9)(ns:G0 P1):Prop where
 tab:Ş L es.size t
 nums: ∀e∈es.toList,∃n tk,e=(mI n,.int n tk)
 nd:(es.toList.map ND).Nodup
 mem: ∀n,n∈es.toList.map ND↔n∈ns
theorem Zx: ∀ {xs ys:G0 P1},xs.Nodup->(∀x∈xs,x∈ys)->xs.length<=ys.length
 | [],_,_,_=>N3 _
 |x::xs,ys,nd,h=>by
  have hx:=h x (.head _);obtain⟨n1,n2⟩:=K0.mp nd;have:=Zx (ys:=ys.erase x) n2 λy hy=>(Y7 (λ(e:y=x)=>n1 (by rw [<-e];exact hy))).mpr (h y (.tail _ hy))
  rw [V7 hx] at this;have:=aP hx;rw [R1];omega
variable {ns:G0 P1}
def SetI.size (S:SetI L es t ns):es.size<=ns.length:=by
 have h:=Zx S.nd λn hn=>(S.mem n).mp hn
 simpa using h
def SetI.els (S:SetI L es t ns)(prog:S8)(w:B0):ElemsOf (intKind prog w) es.toList:=λe he=>by
 obtain⟨n,tk,rfl⟩:=S.nums e he;exact⟨⟨n,by simp [intKind,dD],rfl⟩,rfl⟩
def SetI.perm {es':T6 (P1×G1)}{t':T9}(S:SetI L es t ns)(p:es'.toList.Perm es.toList)(T:Ş L es'.size t'):SetI L es' t' ns:=
 ⟨T,λe he=>S.nums e (p.mem_iff.mp he),(p.map ND).nodup_iff.mpr S.nd,λn=>((p.map ND).mem_iff).trans (S.mem n)⟩
def SetI.push {es':T6 (P1×G1)}{t':T9}{n:P1}{tk:Tok}(S:SetI L es t ns)(hn:n ∉ ns)(p:es'.toList.Perm (es.push (mI n,.int n tk)).toList)(T:Ş L es'.size t'):SetI L es' t' (n::ns):=by
 have pk:=p.map ND;rw [K5,T7] at pk;refine⟨T,λe he=> ?_,pk.nodup_iff.mpr ?_,λm=>(pk.mem_iff).trans ?_⟩
 ·have:=p.mem_iff.mp he;rw [K5] at this;rcases R4.mp this with z|z
  ·exact S.nums e z
  ·exact⟨n,tk,P0.mp z⟩
 ·rw [bT];refine⟨S.nd,by simp,λx hx y hy e=> ?_⟩;have:y=n:=by simpa [ND] using hy
  subst this;subst e;exact hn ((S.mem _).mp hx)
 ·rw [R4,S.mem m];simp [ND,or_comm]
section
variable {prog:S8}{w:B0}{A:T8}{E:G1->G3->Prop}{s:G3}{a:G9}{L:M7}{es:T6 (P1×G1)}{ep:G5}{t:T9}{ns:G0 P1}{n:P1}{tk:Tok}
def Rq {Q:M7->G3->Prop}(S:SetI L es t ns)(ho:s.heap.get? a=some (zJ es ep t))(few:ns.length<1000)
 (k: ∀b es' ä t' h',SetI L es' t' (n::ns)->h'.get? a=some (zJ es' ä t')->O6 a s.heap h'->Q b {s with heap:=h',toks:=s.toks+1}):R0 (R7 prog w) A (setAdd a (.int n tk)) Q E s:=by
 have sz:=S.size;have is:(intKind prog w).is n (.int n tk)=true:=by simp [intKind,dD]
 have scan:byScan (.int n tk) es=true:=byScan_of (knd:=intKind prog w) rfl (V8 sz (cM few (by decide))) (S.els prog w);refine L7 (wpAny_bind (qU (L7 ?_)));show R0 _ _ (gH a (.int n tk) (mI n) (99999+1)) _ _ _;unfold gH;refine wpAny_bind (O7 (s:= {s with toks:=s.toks+1}) ho rfl S.tab.fits ?_);dsimp only;rw [R8 scan];refine wpAny_bind ?_;unfold setAddByScan;refine wpAny_bind (gR (wpAny_bind (wpAny_setScan_of (s:= {s with toks:=s.toks+1}) (knd:=intKind prog w) is ho rfl S.tab.fits (S.els prog w) ?_)));have ũ:es.toList.findIdx? (λe=>(intKind prog w).is n e.2)=none↔n ∉ ns:=by
  rw [List.findIdx?_eq_none_iff,<-S.mem n];constructor
  ·intro z hn;obtain⟨e,he,ek⟩:=S9.mp hn;obtain⟨m,tk',rfl⟩:=S.nums e he;have:m=n:=ek;subst this;have:=z _ he;simp [intKind,dD] at this
  ·intro z e he;obtain⟨m,tk',rfl⟩:=S.nums e he;have:m≠n:=λq=>z (S9.mpr ⟨_,he,q⟩)
   simp [intKind,dD,this]
 cases hf:es.toList.findIdx? (λe=>(intKind prog w).is n e.2) with
 |some j=>
  have hin:n∈ns:=V1 λz=>by rw [ũ.mpr z] at hf;cases hf
  refine P2 (P2 (k false es ep t s.heap ⟨S.tab,S.nums,S.nd,λm=>(S.mem m).trans ?_⟩ ho (bR _ _)));constructor
  ·exact λz=> .tail _ z
  ·intro z;rcases D5.mp z with e|e
   ·rw [e];exact hin
   ·exact e
 |none=>
  have hn:=ũ.mp hf;have p1:=layNew_perm t es (mI n) (.int n tk);have T1:=GO S.tab (mI n) (.int n tk);cases hl:G0f t es (mI n) (.int n tk) with
  |mk Ż r1=>
   obtain⟨t1,wd,X1W⟩:=r1;rw [hl] at p1 T1;have S1:=S.push hn p1 T1;have z1:Ż.size<=sizeLine:=R6 S1.size (R6 (show (n::ns).length<=1000 by simp;omega) (by decide));have hb:iG 8 (.int n tk)=pure true:=rfl;have put:=λ{P:Unit->G3->Prop} {E':G1->G3->Prop} (k': ∀h',h'.get? a=some (zJ Ż (ep+1) t1)->O6 a s.heap h'->P () {s with heap:=h',toks:=s.toks+1})=>
    lJ (prog:=prog) (w:=w) (A:=A) (E:=E') (s:= {s with toks:=s.toks+1}) (es':=Ż) (t':=t1) ho rfl (k' _ (C9 _ ho rfl) (L6 ..)) z1
   have p2:=relayAll_perm t1 Ż (Z0 Ż.size);have T2:=Um (es:=Ż) S1.tab (Z0 Ż.size);cases hr:tV t1 Ż (Z0 Ż.size) with
   |mk es2 r2=>
    obtain⟨t2,X1q⟩:=r2;rw [hr] at p2 T2;have S2:=S1.perm p2 T2;have z2:es2.size<=sizeLine:=R6 S2.size (R6 (show (n::ns).length<=1000 by simp;omega) (by decide));have e1:(s.heap.update a (gZ Ż t1)).get? a=some (zJ Ż (ep+1) t1):=C9 _ ho rfl;have Ν:O6 a s.heap (s.heap.update a (gZ Ż t1)):=L6 ..;have ho':({s with toks:=s.toks+1}:G3).heap.get? a=some (zJ es ep t):=ho;have big:(Ż.size>sizeLine)=False:=eq_false (aC.mpr z1);have big2:(es2.size>sizeLine)=False:=eq_false (aC.mpr z2);cases X1W<;>cases hp:t1.plain<;>wp_walk
    all_goals
     simp only [↓reduceIte,hr];cases hc:(!wd&&t1.tooFull) with
     |false=>exact P2 (P2 (k true Ż (ep+1) t1 _ S1 e1 Ν))
     |true=>
      have e2:((s.heap.update a (gZ Ż t1)).update a (gZ es2 t2)).get? a=some (zJ es2 (ep+1+1) t2):=C9 _ e1 rfl;have ę:O6 a s.heap ((s.heap.update a (gZ Ż t1)).update a (gZ es2 t2)):=Ν.trans (L6 ..);have fin:=k true es2 (ep+1+1) t2 _ S2 e2 ę;simp only [↓reduceIte];cases X1q<;>wp_walk
      all_goals exact fin
end
def wQ:plainId "set.update.loop" =true:=by decide +kernel
def vZ:qH table "set.update.loop" =some Builtin.«set.update.loop» :=rF (by kernel_rfl)
section
variable {prog:S8}{w:B0}{A:T8}{E:G1->G3->Prop}{a I:G9}{L:M7}{fp wr:G0 G9}{n:G5}{P:G5->G1->Prop}{St:G5->C7->Prop}{f:G5->P1}
theorem JP {R:nQ->G3->Prop}(W:Walks prog w A.in1 I fp wr n P St)(num: ∀i v,P i v-> ∃tk,v= .int (f i) tk)(na:a ∉ fp)(few:n<1000):
 ∀ (k i:G5) (s:G3) (es:T6 (P1×G1)) (ep:G5) (t:T9),i+k=n->St i s.heap->s.heap.get? a=some (zJ es ep t)->SetI L es t ((P4 i).map f).reverse->
  (∀h' tk es' ä t',h'.get? a=some (zJ es' ä t')->SetI L es' t' ((P4 n).map f).reverse->(∀b o,b≠a->b ∉ wr->s.heap.get? b=some o->h'.get? b=some o)->R (.ok (.ret .none)) {s with heap:=h',toks:=tk})->
  aK (R7 prog w) A (.builtin "set.update.loop" ⟨[.ref a,.ref I],[]⟩) R s
 |0,i,s,es,ep,t,hk,st,ha,S,q=>by
  have e:i=n:=by omega
  subst e;refine aE vZ ?_;rw [bU wQ];refine wpAny_bind (W.done s _ _ st λh' tk kept=>P2 ?_);exact q h' tk es ep t (kept _ _ (λz=>na (W.sub _ z)) ha) S λb o _ nb e=>kept b o nb e
 |k+1,i,s,es,ep,t,hk,st,ha,S,q=>by
  refine aE vZ ?_;rw [bU wQ];refine wpAny_bind (W.item i s _ _ (by omega) st λv h1 tk1 pv st1 ń=> ?_);obtain⟨tk,rfl⟩:=num i v pv;have ha1:=ń _ _ (λz=>na (W.sub _ z)) ha;refine wpAny_bind (L7 (Rq (s:= {s with heap:=h1,toks:=tk1}) S ha1 (by simp;omega) λb es2 ep2 t2 h2 S2 ha2 ę=>P2 ⟨lQ wQ _,?_⟩));have S3:SetI L es2 t2 ((P4 (i+1)).map f).reverse:=by
   rw [A5,T7,oS];exact S2
  refine JP W num na few k (i+1) {s with heap:=h2,toks:=tk1+1} es2 ep2 t2 (by omega) (W.frame _ _ _ st1 λb hb o e=>ę.extBut _ _ (λz=>na (z ▸ hb)) e) ha2 S3 λh' tk' es' ä t' ha' S' X0m=> ?_
  exact q h' tk' es' ä t' ha' S' λb o ba bw e=>X0m b o ba bw (ę.extBut _ _ ba (ń b o bw e))
end
def vb:qH table "set.__init__" =some Builtin.«set.__init__» :=rF (by kernel_rfl)
abbrev zc (w:B0):M7:= !(w.params.followText "set-order")
def Zy (L:M7):SetI L #[] (.fresh 0 0 L) []:=⟨⟨rfl,rfl,rfl,λ_=> .nil⟩,λe he=>by simp at he,by simp,λn=>by simp⟩
def vA:oO (.type "set") (.type "set")=pure true:=by rw [cF];kernel_rfl
def Zd:oO (.type "list") (.type "set")=pure false:=by rw [cF];kernel_rfl
def Ze:oO (.type "list") (.type "frozenset")=pure false:=by rw [cF];kernel_rfl
def Wg:oO (.type "tuple") (.type "set")=pure false:=by rw [cF];kernel_rfl
def Wh:oO (.type "tuple") (.type "frozenset")=pure false:=by rw [cF];kernel_rfl
section
variable {prog:S8}{w:B0}{A:T8}{E:G1->G3->Prop}{s:G3}
def Qp {x:G1}{P:fU->G3->Prop}(h:P (.done (.ret (.ref s.heap.objs.size))) {s with heap:=s.heap.push (zJ #[] 0 (.fresh 0 0 (zc w)))}):
 R0 (R7 prog w) A (Builtin.«set.__new__» ⟨[.type "set",x],[]⟩) P E s:=by
 have X1A:=vA;obtain⟨hp,g,d,tk,os⟩:=s;have Ė: ∀ {Q:sQ->G3->Prop} {E':G1->G3->Prop} {A':T8} {s':G3},Q ⟨prog,w.params⟩ s'->R0 (R7 prog w) A' ask Q E' s':=λq=>cA q
 wp_walk using Ė
 exact h
def Ja {M:iP}{o x:G1}{Q:Unit->G3->Prop}(ty:s.TypeIs o "set")(q:Q () s):R0 M A (cE "set.__init__" ⟨[o,x],[]⟩) Q E s:=by
 have X1A:=vA;unfold cE;rw [kind_set_init,split_set_init,sig_set_init]
 wp_walk using uJ (n:= "set") (by decide),uK (self:=o) rfl ty
 exact q
def Rr {l a:G9}{vs:G0 G1}{ns:G0 P1}{T:U5}{ep:G5}{Q:P5 G1->G3->Prop}(calm:A.handled=none)(hT:T= "list" \/T= "tuple")
 (hl: ∃o,s.heap.get? l=some o/\o.cls= .type T/\ ∃c,o.data= .seq vs.toArray c)(hI:W0 vs ns)(few:ns.length<1000)(ha:s.heap.get? a=some (zJ #[] ep (.fresh 0 0 (zc w))))(la:l≠a)
 (k: ∀h' tk es' ä t',h'.get? a=some (zJ es' ä t')->SetI (zc w) es' t' ns.reverse->(∀b o,b≠a->s.heap.get? b=some o->h'.get? b=some o)->Q (some .none) {s with heap:=h',toks:=tk}):
 R0 (R7 prog w) A (qF (.ref a) "__init__" [.ref l]) Q E s:=by
 have ty:s.TypeIs (.ref a) "set" :=⟨_,ha,rfl⟩;refine Q7 ty F.called_set.init (bY (Y8 F.called_set.init.plain vb (Ja ty ?_)));have f1:=Zd;have f2:=Ze;have f3:=Wg;have f4:=Wh;obtain⟨⟨oc,od,odt,ē⟩,ĕ,hc,c,hd⟩:=hl;simp only at hc hd;subst hc hd;have state:=λ{P:T6 (P1×G1)×G5×T9->G3->Prop} {E':G1->G3->Prop} {A':T8}=>O7 (prog:=prog) (w:=w) (A:=A') (E:=E') (Q:=P) (s:=s) ha rfl (Zy (zc w)).tab.fits
 have pick: ∀ (i:G5) (v:G1),vs.toArray[i]? =some v-> ∃tk,v=fN (ns.getD i 0) tk:=λi v hv=>(L2.yr hI (by simpa using hv)).imp λ_ z=>z.1
 have len:vs.toArray.size=ns.length:=by rw [S0,hI.length]
 have rng:(P4 ns.length).map (λi=>ns.getD i 0)=ns:=by
  refine cY λi=> ?_
  rw [P7]
  by_cases hi:i<ns.length
  ·rw [A8 hi,G8 hi];simp [hi]
  ·rw [O8 (by simpa using hi),O8 (by simpa using hi)];rfl
 have far:a≠s.heap.objs.size:=λz=>B1 _ (z ▸ D2 ha)
 have X0N:l≠s.heap.objs.size:=λz=>B1 _ (z ▸ D2 ĕ)
 have na:a ∉ [s.heap.objs.size,l]:=by simp [far,la.symm]
 have fin: ∀ {o:Obj} h' tk es' ä t',h'.get? a=some (zJ es' ä t')->SetI (zc w) es' t' ((P4 vs.toArray.size).map λi=>ns.getD i 0).reverse->(∀b ob,b≠a->b ∉ [s.heap.objs.size]->(s.heap.push o).get? b=some ob->h'.get? b=some ob)->Q (some .none) {s with heap:=h',toks:=tk}:=λh' tk es' ä t' e S kept=>by
  rw [len,rng] at S;exact k h' tk es' ä t' e S λb ob nb q=>kept b ob nb (λz=>B1 _ (P0.mp z ▸ D2 q)) (G7 _ q)
 rcases hT with rfl|rfl
 ·have tl:s.TypeIs (.ref l) "list" :=⟨_,ĕ,rfl⟩;have isl:s.heap.IsList l vs.toArray:=⟨_,ĕ,rfl,c,rfl⟩
  wp_walk using state,Z8 isl
  have W:=mT (prog:=prog) (w:=w) (A:=A.in1.in1) calm s.heap.objs.size l X0N vs.toArray;refine JP W pick na (by rw [len];exact few) vs.toArray.size 0 _ #[] ep _ (U8 _) ⟨⟨_,S4 _ rfl,rfl,rfl⟩,⟨_,G7 _ ĕ,rfl,c,rfl⟩⟩ (G7 _ ha) (Zy _) λh' tk es' ä t' e S kept=> ?_
  exact P2 (P2 (fin h' tk es' ä t' e S kept))
 ·have tl:s.TypeIs (.ref l) "tuple" :=⟨_,ĕ,rfl⟩;have isl:s.heap.IsTuple l vs.toArray:=⟨_,ĕ,rfl,c,rfl⟩
  wp_walk using state,aU isl
  have W:=rT (prog:=prog) (w:=w) (A:=A.in1.in1) calm s.heap.objs.size l X0N vs.toArray;refine JP W pick na (by rw [len];exact few) vs.toArray.size 0 _ #[] ep _ (U8 _) ⟨⟨_,S4 _ rfl,rfl,rfl⟩,⟨_,G7 _ ĕ,rfl,c,rfl⟩⟩ (G7 _ ha) (Zy _) λh' tk es' ä t' e S kept=> ?_
  exact P2 (P2 (fin h' tk es' ä t' e S kept))
def Qq {l:G9}{vs:G0 G1}{ns:G0 P1}{T:U5}{Q:G1->G3->Prop}(calm:A.handled=none)(hT:T= "list" \/T= "tuple")
 (hl: ∃o,s.heap.get? l=some o/\o.cls= .type T/\ ∃c,o.data= .seq vs.toArray c)(hI:W0 vs ns)(few:ns.length<1000)
 (k: ∀h' tk es' ä t',h'.get? s.heap.objs.size=some (zJ es' ä t')->SetI (zc w) es' t' ns.reverse->(∀b o,s.heap.get? b=some o->h'.get? b=some o)->Q (.ref s.heap.objs.size) {s with heap:=h',toks:=tk}):
 R0 (R7 prog w) A (call (.type "set") [.ref l]) Q E s:=by
 have fits:o4 "set" ⟨[.ref l],[]⟩=pure ():=by kernel_rfl
 have ŗ:cE "set.__new__" ⟨[.type "set",.ref l],[]⟩=pure ():=by kernel_rfl
 obtain⟨o,ĕ,r⟩:=hl;refine L2.Wb (Made:=λv s₁=>v= .ref s.heap.objs.size/\s₁= {s with heap:=s.heap.push (zJ #[] 0 (.fresh 0 0 (zc w)))}) xQ fits
  (bY (Y8 F.called_set.plain sG (rR ŗ (Qp ⟨rfl,rfl⟩)))) λv s₁ ⟨ev,es⟩=> ?_
 subst ev es;have at_:(s.heap.push (zJ #[] 0 (.fresh 0 0 (zc w)))).get? s.heap.objs.size=some (zJ #[] 0 (.fresh 0 0 (zc w))):=S4 _ rfl;refine⟨⟨_,at_,rfl⟩,Rr (s:= {s with heap:=s.heap.push (zJ #[] 0 (.fresh 0 0 (zc w)))}) calm hT ⟨o,G7 _ ĕ,r⟩ hI few at_ (λz=>B1 _ (z ▸ D2 ĕ)) λh' tk es' ä t' e S kept=>⟨rfl,k h' tk es' ä t' e S λb ob q=>kept b ob (λz=>B1 _ (z ▸ D2 q)) (G7 _ q)⟩⟩
end
def Ú:Slot "set_iterator" "__next__" "set_iterator.__next__" :=
 .of (owner:= "set_iterator") (n:= "__next__") (by rw [sH,nJ];kernel_rfl) (by decide +kernel) (by decide +kernel) (by decide +kernel) (.inl (by kernel_rfl)) (by rw [cF];kernel_rfl)
def Vc:qH table "set_iterator.__next__" =some Builtin.«set_iterator.__next__» :=entryFor_of_tree (by kernel_rfl)
def Uo (a:G1):G0g "set_iterator.__next__" ⟨[a],[]⟩:=by unfold G0g;kernel_rfl
def WP:qH table "set.__iter__" =some Builtin.«frozenset.__iter__» :=tW (id':= "frozenset.__iter__") (by kernel_rfl) rfl (by decide +kernel) (by kernel_rfl)
abbrev Θ (first:G1)(i:G5)(a:G9)(n ep:G5):Obj:= {cls:= .type "set_iterator",data:= .fields #[first,A7 i,.ref a,A7 n,A7 ep]}
inductive ĸ (w:B0)(a:G9)(es:T6 (P1×G1))(ep:G5)(t:T9):G0 G1->(G1->G5->C7->Prop)->G9->Prop
 |text (b:w.params.followText "set-order" =true):ĸ w a es ep t ((pickOrder (w.params.setOrder a ep) es).toList.map (·.2)) (λf _ _=>f=A7 0) a
 |drawn (b:w.params.followText "set-order" =false) (d:t.plain=false) (two:1<es.size) (ord:G0 G5) (p:ord.Perm (P4 es.size)) (tp:G9):
  ĸ w a es ep t (ord.map λj=>(es.getD j (0,.none)).2) (λf _ h=>f= .ref tp/\h.IsTuple tp (ord.map λj=>A7 (j:G5)).toArray) tp
 |table (b:w.params.followText "set-order" =false) (d:t.plain=true\/es.size<=1):ĸ w a es ep t (es.toList.map (·.2)) (λf i _=> ∃slot:G5,f=A7 slot/\M1 t.place slot=i) a
section
variable {prog:S8}{w:B0}{A:T8}{E:G1->G3->Prop}{s:G3}{a I tp:G9}{es:T6 (P1×G1)}{ep n i:G5}{t:T9}{ns:G0 P1}{first:G1}
def Rs {Q:G1->G3->Prop}(S:Ş (zc w) es.size t)(b:w.params.followText "set-order" =true)(ha:s.heap.get? a=some (zJ es ep t))(hI:s.heap.get? I=some (Θ (A7 0) i a es.size ep))(aI:a≠I)
 {x:G1}(hx:((pickOrder (w.params.setOrder a ep) es).toList.map (·.2))[i]? =some x)(q: ∀h',h'.get? I=some (Θ (A7 0) (i+1) a es.size ep)->O6 I s.heap h'->Q x {s with heap:=h'}):
 R0 (R7 prog w) A (Builtin.«set_iterator.__next__» ⟨[.ref I],[]⟩) (λfin s'=> ∃v,fin= .done (.ret v)/\Q v s') E s:=by
 have Ė: ∀ {Q:sQ->G3->Prop} {E':G1->G3->Prop} {A':T8} {s':G3},Q ⟨prog,w.params⟩ s'->R0 (R7 prog w) A' ask Q E' s':=λq=>cA q
 have state:=λ{P:T6 (P1×G1)×G5×T9->G3->Prop} {E':G1->G3->Prop} {A':T8}=>O7 (prog:=prog) (w:=w) (A:=A') (E:=E') (Q:=P) (s:=s) ha rfl S.fits
 obtain⟨hp,g,d,tk,os⟩:=s;rw [P7] at hx;obtain⟨⟨k,x'⟩,hx1,rfl⟩:=F8.mp hx;have Ÿ:(pickOrder (w.params.setOrder a ep) es)[((i:G5):P1).toNat]? =some (k,x'):=by rw [V3,<-N7];exact hx1
 have z1:=C9 (eN λv=>v.setIfInBounds 0 (A7 ((oN 0:G5):P1))) hI rfl;have z2:=C9 (eN λv=>v.setIfInBounds 1 (A7 ((i:P1)+1))) z1 rfl;have fin:=q _ z2 ((L6 ..).trans (L6 ..))
 wp_walk using state,Ė
 rw [Ÿ]
 wp_walk
 exact⟨_,rfl,fin⟩
def GP {Q:G1->G3->Prop}{ord:G0 G5}(S:Ş (zc w) es.size t)(ha:s.heap.get? a=some (zJ es ep t))(hI:s.heap.get? I=some (Θ (.ref tp) i a es.size ep))(aI:a≠I)(ht:s.heap.IsTuple tp (ord.map λj=>A7 (j:G5)).toArray)(p:ord.Perm (P4 es.size))
 {x:G1}(hx:(ord.map λj=>(es.getD j (0,.none)).2)[i]? =some x)(q: ∀h',h'.get? I=some (Θ (.ref tp) (i+1) a es.size ep)->O6 I s.heap h'->Q x {s with heap:=h'}):
 R0 (R7 prog w) A (Builtin.«set_iterator.__next__» ⟨[.ref I],[]⟩) (λfin s'=> ∃v,fin= .done (.ret v)/\Q v s') E s:=by
 have state:=λ{P:T6 (P1×G1)×G5×T9->G3->Prop} {E':G1->G3->Prop} {A':T8}=>O7 (prog:=prog) (w:=w) (A:=A') (E:=E') (Q:=P) (s:=s) ha rfl S.fits
 obtain⟨⟨oc,od,odt,ē⟩,ĕ,hc,c,hd⟩:=ht;simp only at hc hd;subst hc hd;obtain⟨hp,g,d,tk,os⟩:=s;rw [P7] at hx;obtain⟨j,hj,rfl⟩:=F8.mp hx;have jlt:j<es.size:=D1.mp (p.mem_iff.mp (P9 hj));have hj':((ord.map λj=>A7 (j:G5)).toArray)[((i:G5):P1).toNat]? =some (A7 (j:G5)):=by simp [hj]
 have ej:es[((j:G5):P1).toNat]? =some (es.getD j (0,.none)):=by simp [jlt,tU]
 have z1:=C9 (eN λv=>v.setIfInBounds 1 (A7 ((i:P1)+1))) hI rfl;have fin:=q _ z1 (L6 ..)
 wp_walk using state
 rw [hj'];show R0 _ _ (setNextDrawn a ((j:G5):P1).toNat ((ep:G5):P1).toNat >>= _) _ _ _
 wp_walk using state
 rw [ej]
 wp_walk
 exact⟨_,rfl,fin⟩
def GQ {Q:G1->G3->Prop}{slot:G5}(S:Ş (zc w) es.size t)(b:w.params.followText "set-order" =false)(pl:t.plain=true\/es.size<=1)(ha:s.heap.get? a=some (zJ es ep t))(hI:s.heap.get? I=some (Θ (A7 slot) i a es.size ep))(aI:a≠I)(hs:M1 t.place slot=i)
 {x:G1}(hx:(es.toList.map (·.2))[i]? =some x)(q: ∀h' (Ξ:G5),M1 t.place Ξ=i+1->h'.get? I=some (Θ (A7 Ξ) (i+1) a es.size ep)->O6 I s.heap h'->Q x {s with heap:=h'}):
 R0 (R7 prog w) A (Builtin.«set_iterator.__next__» ⟨[.ref I],[]⟩) (λfin s'=> ∃v,fin= .done (.ret v)/\Q v s') E s:=by
 have Ė: ∀ {Q:sQ->G3->Prop} {E':G1->G3->Prop} {A':T8} {s':G3},Q ⟨prog,w.params⟩ s'->R0 (R7 prog w) A' ask Q E' s':=λq=>cA q
 have state:=λ{P:T6 (P1×G1)×G5×T9->G3->Prop} {E':G1->G3->Prop} {A':T8}=>O7 (prog:=prog) (w:=w) (A:=A') (E:=E') (Q:=P) (s:=s) ha rfl S.fits
 have led:t.led=true:=by rw [S.led];show (!(w.params.followText "set-order"))=true;rw [b];rfl
 have nd:(!t.plain&&decide (es.size>1))=false:=by
  rcases pl with z|z
  ·rw [z];rfl
  ·rw [D9 (by omega),dI]
 obtain⟨hp,g,d,tk,os⟩:=s;rw [P7] at hx;obtain⟨⟨k,x'⟩,hx1,rfl⟩:=F8.mp hx;have lt:i<es.size:=by have:=(P6.mp hx1).1;simpa using this
 have ps:=Yo S.fits;have ltp:i<t.place.size:=by omega
 have ex:es[i]? =some (k,x'):=by rw [<-N7];exact hx1
 have ä:t.place[i]? =some t.place[i]:=by simp [ltp]
 have rise:=S.rise pl;have next:M1 t.place (t.place[i]+1)=i+1:=by
  obtain⟨b1,b2,b3⟩:=vY rise (t.place[i]+1);have mono:=λ(u v:G5) (hu:u<t.place.size) (hv:v<t.place.size) (uv:u<v)=>A1.mp rise u v (by simpa using hu) (by simpa using hv) uv
  simp only [dH] at mono;rcases cZ (M1 t.place (t.place[i]+1)) (i+1) with z|z|z
  ·have:=b2 i (by omega) _ ä;omega
  ·exact z
  ·have h1:i+1<t.place.size:=by omega
   have:=b1 (i+1) z _ (by simp [h1]:t.place[i+1]? =some t.place[i+1]);have:=mono i (i+1) ltp h1 (by omega);omega
 have z1:=C9 (eN λv=>v.setIfInBounds 0 (A7 ((t.place[i]+1:G5):P1))) hI rfl;have z2:=C9 (eN λv=>v.setIfInBounds 1 (A7 ((i:P1)+1))) z1 rfl;have fin:=q _ _ next z2 ((L6 ..).trans (L6 ..))
 wp_walk using state,Ė
 split
 ·rename_i z;have z':(!t.plain&&decide (es.size>1))=true:=z;rw [nd] at z';cases z'
 wp_walk
 rw [show ((slot:G5):P1).toNat=slot from V3 _,hs,ex,ä]
 wp_walk
 exact⟨_,rfl,fin⟩
def GR {vals:G0 G1}{md:G1->G5->C7->Prop}{Q:fU->G3->Prop}(calm:A.handled=none)(S:Ş (zc w) es.size t)(M:ĸ w a es ep t vals md tp)(ha:s.heap.get? a=some (zJ es ep t))(hI:s.heap.get? I=some (Θ first i a es.size ep))(aI:a≠I)(hm:md first i s.heap)(hx:vals[i]? =none)
 (q: ∀h' e,(∀b o,b≠I->s.heap.get? b=some o->h'.get? b=some o)->(∃o,h'.get? e=some o/\o.cls= .type "StopIteration")->E (.ref e) {s with heap:=h'}):
 R0 (R7 prog w) A (Builtin.«set_iterator.__next__» ⟨[.ref I],[]⟩) Q E s:=by
 have Ė: ∀ {Q:sQ->G3->Prop} {E':G1->G3->Prop} {A':T8} {s':G3},Q ⟨prog,w.params⟩ s'->R0 (R7 prog w) A' ask Q E' s':=λq=>cA q
 have state:=λ{P:T6 (P1×G1)×G5×T9->G3->Prop} {E':G1->G3->Prop} {A':T8}=>O7 (prog:=prog) (w:=w) (A:=A') (E:=E') (Q:=P) (s:=s) ha rfl S.fits
 have stop:=λ{h1:C7} {Q':fU->G3->Prop} (same:O6 I s.heap h1)=>L2.ZZ (prog:=prog) (w:=w) (A:=A) (E:=E) (s:= {s with heap:=h1}) (Q:=Q') calm λh' e grown st=>q h' e (λb o nb x=>grown b o (same.extBut b o nb x)) st
 obtain⟨hp,g,d,tk,os⟩:=s;have put: ∀ {P:Unit->G3->Prop} {E':G1->G3->Prop} {k:G5} {v:G1} {h1:C7},k<5->O6 I hp h1->(∃fs:T6 G1,fs.size=5/\h1.get? I=some {cls:= .type "set_iterator",data:= .fields fs})->(∀h',O6 I hp h'->(∃fs:T6 G1,fs.size=5/\h'.get? I=some {cls:= .type "set_iterator",data:= .fields fs})->P () ⟨h',g,d,tk,os⟩)->R0 (R7 prog w) A (n4 (.ref I) k v) P E' ⟨h1,g,d,tk,os⟩:=λhk same ⟨fs,hfs,e⟩ q'=>wpAny_setField_rec (s:=⟨_,g,d,tk,os⟩) e (by omega) λh' z' X1r=>q' h' (same.trans X1r) ⟨_,by simpa using hfs,z'⟩
 cases M with
 |text b=>
  subst hm;have e:(pickOrder (w.params.setOrder a ep) es)[((i:G5):P1).toNat]? =none:=by
   rw [P7] at hx;rw [V3,<-N7];exact gI.mp hx
  wp_walk using state,Ė
  rw [e];show R0 _ _ (n4 (.ref I) 2 .none >>= _) _ _ _;exact wpAny_bind (put (by decide) (bR _ _) ⟨_,rfl,hI⟩ λh' same _=>stop same)
 |drawn b dp two ord p tp=>
  obtain⟨rfl,⟨oc,od,odt,ē⟩,ĕ,hc,c,hd⟩:=hm;simp only at hc hd;subst hc hd;have e:((ord.map λj=>A7 (j:G5)).toArray)[((i:G5):P1).toNat]? =none:=by
   rw [P7] at hx;simp [gI.mp hx]
  wp_walk using state
  rw [e];show R0 _ _ (n4 (.ref I) 0 (A7 0) >>= λ_=>n4 (.ref I) 2 .none >>= _) _ _ _;exact wpAny_bind (put (by decide) (bR _ _) ⟨_,rfl,hI⟩ λh1 Ν X0O=>wpAny_bind (put (by decide) Ν X0O λh' same _=>stop same))
 |table b pl=>
  obtain⟨slot,rfl,hs⟩:=hm;have led:t.led=true:=by rw [S.led];show (!(w.params.followText "set-order"))=true;rw [b];rfl
  have nd:(!t.plain&&decide (es.size>1))=false:=by
   rcases pl with z|z
   ·rw [z];rfl
   ·rw [D9 (by omega),dI]
  have e:es[i]? =none:=by
   rw [P7] at hx;rw [<-N7];exact gI.mp hx
  wp_walk using state,Ė
  split
  ·rename_i z;have z':(!t.plain&&decide (es.size>1))=true:=z;rw [nd] at z';cases z'
  wp_walk
  rw [show ((slot:G5):P1).toNat=slot from V3 _,hs,e];show R0 _ _ (n4 (.ref I) 2 .none >>= _) _ _ _;exact wpAny_bind (put (by decide) (bR _ _) ⟨_,rfl,hI⟩ λh' same _=>stop same)
end
def Vd:qH table "set_iterator.__iter__" =some Builtin.«dict_keyiterator.__iter__» :=tW (id':= "dict_keyiterator.__iter__") (by kernel_rfl) (by first|rfl|decide +kernel|(unfold String.splitOn;simp +decide [String.splitOnAux])) (by decide +kernel) (by kernel_rfl)
def Jb:Slot "set_iterator" "__iter__" "set_iterator.__iter__" := .of (owner:= "set_iterator") (n:= "__iter__") (by rw [sH,nJ];kernel_rfl) (by decide +kernel) (by decide +kernel) (by decide +kernel) (.inl (by kernel_rfl)) (by rw [cF];kernel_rfl)
def Up (a:G1):G0g "set_iterator.__iter__" ⟨[a],[]⟩:=by unfold G0g;kernel_rfl
section
variable {prog:S8}{w:B0}{A:T8}{E:G1->G3->Prop}{s:G3}{a I tp:G9}{es:T6 (P1×G1)}{ep n i:G5}{t:T9}{ns:G0 P1}{first:G1}{vals:G0 G1}{md:G1->G5->C7->Prop}
def ĸ.keep {f:G1}{h h':C7}(M:ĸ w a es ep t vals md tp)(m:md f i h)(k: ∀o,h.get? tp=some o->h'.get? tp=some o):md f i h':=by
 cases M with
 |text b=>exact m
 |drawn b dp two ord p tp=>exact⟨m.1,m.2.at λo e=>k o e⟩
 |table b pl=>exact m
def Rt {Q:P5 G1->G3->Prop}(ty:s.TypeIs (.ref I) "set_iterator")
 (h:R0 (R7 prog w) A.in1 (Builtin.«set_iterator.__next__» ⟨[.ref I],[]⟩) (λfin s'=> ∃v,fin= .done (.ret v)/\Q (some v) s') (λe s'=>s'.TypeIs e "StopIteration" /\Q none s') s):R0 (R7 prog w) A (xK (.ref I)) Q E s:=
 wpAny_bind (lN (Q7 (name:= "__next__") ty Ú (M0 (K2 Ú ty Vc h (Uo _)) (λ_ _ q=>P2 q) λe s' q=>wpAny_bind (rE (b:=true) q.1 isSubtype_stop (P2 q.2)))))
def Ru (calm:A.handled=none)(S:Ş (zc w) es.size t)(M:ĸ w a es ep t vals md tp)(aI:a≠I)(tI:tp≠I):
 Walks prog w A I [I,a,tp] [I] vals.length (λi v=>vals[i]? =some v) (λi h=>h.get? a=some (zJ es ep t)/\ ∃first,h.get? I=some (Θ first i a es.size ep)/\md first i h) where
 sub:=λb hb=>by simp only [P0] at hb;simp [hb]
 frame:=λi h h' ⟨ha,f,hI,m⟩ k=>⟨k a (by simp) _ ha,f,k I (by simp) _ hI,M.keep m λo e=>k tp (by simp) o e⟩
 item:=λi s Q E hi ⟨ha,f,hI,m⟩ q=>by
  have hx:vals[i]? =some vals[i]:=by simp [hi]
  refine Rt ⟨_,hI,rfl⟩ ?_;have fin: ∀ {f':G1} h',md f' (i+1) s.heap->h'.get? I=some (Θ f' (i+1) a es.size ep)->O6 I s.heap h'->Q (some vals[i]) {s with heap:=h'}:=λh' m' e same=>
   q vals[i] h' s.toks hx ⟨same.extBut _ _ aI ha,_,e,M.keep m' λo x=>same.extBut _ _ tI x⟩ λb o nb x=>same.extBut _ _ (by simpa using nb) x
  cases M with
  |text b=>
   subst m;exact Rs S b ha hI aI hx λh' e same=>fin h' rfl e same
  |drawn b dp two ord p tp=>
   obtain⟨rfl,ht⟩:=m;exact GP S ha hI aI ht p hx λh' e same=>fin h' ⟨rfl,ht⟩ e same
  |table b pl=>
   obtain⟨slot,rfl,hs⟩:=m;exact GQ S b pl ha hI aI hs hx λh' Ξ Ħ e same=>fin h' ⟨Ξ,rfl,Ħ⟩ e same
 done:=λs Q E ⟨ha,f,hI,m⟩ q=>by
  refine Rt ⟨_,hI,rfl⟩ (GR calm S M ha hI aI m (by simp) λh' e kept ⟨o,ho,hc⟩=>⟨⟨o,ho,hc⟩,q h' s.toks λb ob nb x=>kept b ob (by simpa using nb) x⟩)
 self:=λi s Q E ⟨ha,f,hI,m⟩ q=>qI ⟨_,hI,rfl⟩ Jb (K2 Jb ⟨_,hI,rfl⟩ Vd (P2 ⟨_,rfl,_,_,⟨_,hI,rfl⟩,Ú.lookup,q⟩) (Up _))
end
theorem JQ {α:Type}: ∀ (l:G0 α) (i:G5) {x:α},l[i]? =some x->(x::l.eraseIdx i).Perm l
 | [],i,x,h=>by cases h
 |y::l,0,x,h=>by cases h;exact .refl _
 |y::l,i+1,x,h=>(G0O y x _).trans ((JQ l i h).cons y)
theorem Rv {α:Type}(next:G5->G5): ∀ (fuel k:G5) (left:G0 α) (out:T6 α),left.length=fuel->(pickOrder.go next fuel k left out).toList.Perm (out.toList++left)
 |0,k,left,out,h=>by
  rw [V5 h,O9];exact .refl _
 |fuel+1,k,left,out,h=>by
  unfold pickOrder.go;have lt:next k%left.length<left.length:=W8 _ (by omega);have hx:left[next k%left.length]? =some left[next k%left.length]:=by simp [lt]
  rw [hx];refine(Rv next fuel (k+1) _ _ (by rw [kQ lt];omega)).trans ?_;rw [K5,D4];exact(JQ left _ hx).append_left _
def Rw {α:Type}(next:G5->G5)(xs:T6 α):(pickOrder next xs).toList.Perm xs.toList:=by
 have:=Rv next xs.size 0 xs.toList #[] (by simp);rw [Array.toList_empty,O2] at this;exact this
section
variable {prog:S8}{w:B0}{A:T8}{E:G1->G3->Prop}{s:G3}{a I tp:G9}{es:T6 (P1×G1)}{ep n i:G5}{t:T9}{ns:G0 P1}{first:G1}{vals:G0 G1}{md:G1->G5->C7->Prop}
def ĸ.perm (M:ĸ w a es ep t vals md tp):vals.Perm (es.toList.map (·.2)):=by
 cases M with
 |text b=>exact(Rw _ es).map _
 |drawn b dp two ord p tp=>
  refine(p.map _).trans ?_;have:(P4 es.size).map (λj=>(es.getD j (0,.none)).2)=es.toList.map (·.2):=by
   refine cY λj=> ?_
   rw [P7,P7]
   by_cases hj:j<es.size
   ·rw [A8 hj];simp [hj,tU]
   ·rw [O8 (by simpa using hj),O8 (by simpa using hj)];rfl
  rw [this]
 |table b pl=>exact .refl _
theorem Qr {α:Type}{Q:G0 α->G3->Prop}: ∀ (n:G5) (xs:G0 α) (s:G3),xs.length=n->(∀ys d,ys.Perm xs->Q ys {s with drawn:=d})->R0 (R7 prog w) A (drawOrder n xs) Q E s
 |0,xs,s,h,q=>by
  rw [V5 h] at q;exact P2 (q [] s.drawn (.refl _))
 |n+1,[],s,h,q=>by cases h
 |n+1,x::r,s,h,q=>by
  have X1s: ∀ {P:G5->G3->Prop} {E':G1->G3->Prop},(∀i d,i<(x::r).length->P i {s with drawn:=d})->R0 (R7 prog w) A (choose .order (x::r).length) P E' s:=λp _ _ _=>⟨by simp,p _ _ (W8 _ (by simp))⟩
  refine wpAny_bind (X1s λi d hi=> ?_);have hx:(x::r)[i]? =some (x::r)[i]:=by rw [G8 hi]
  rw [hx];refine wpAny_bind (Qr n _ {s with drawn:=d} (by rw [kQ hi];simp at h ⊢;omega) λys d' p=>P2 (q _ d' ?_));exact(p.cons _).trans (JQ _ _ hx)
def NE {Q:G1->G3->Prop}(S:Ş (zc w) es.size t)(ha:s.heap.get? a=some (zJ es ep t))(few:es.size<1000)
 (k: ∀h' d I tp vals md first,ĸ w a es ep t vals md tp->(∀b o,s.heap.get? b=some o->h'.get? b=some o)->s.heap.objs.size<=I->tp≠I->(tp=a\/s.heap.objs.size<=tp)->tp<h'.objs.size->h'.get? I=some (Θ first 0 a es.size ep)->md first 0 h'->Q (.ref I) {s with heap:=h',drawn:=d}):
 R0 (R7 prog w) A (sU (.ref a)) Q E s:=by
 have ty:s.TypeIs (.ref a) "set" :=⟨_,ha,rfl⟩;have Ė: ∀ {Q:sQ->G3->Prop} {E':G1->G3->Prop} {A':T8} {s':G3},Q ⟨prog,w.params⟩ s'->R0 (R7 prog w) A' ask Q E' s':=λq=>cA q
 have state:=λ{P:T6 (P1×G1)×G5×T9->G3->Prop} {E':G1->G3->Prop} {A':T8} {s':G3} (e:s'.heap.get? a=some (zJ es ep t))=>O7 (prog:=prog) (w:=w) (A:=A') (E:=E') (Q:=P) (s:=s') e rfl S.fits
 refine qI ty sI (K2 sI ty WP ?_ (F.args_set_iter_1 _));have Ř:=λ{P:T6 (P1×G1)×G5×T9->G3->Prop} {E':G1->G3->Prop} {A':T8}=>state (P:=P) (E':=E') (A':=A') (s':=s) ha
 cases b:w.params.followText "set-order" with
 |true=>
  wp_walk using Ř,Ė
  have at_:(s.heap.push (Θ (A7 0) 0 a es.size ep)).get? s.heap.objs.size=some (Θ (A7 0) 0 a es.size ep):=S4 _ rfl;have nI:a≠s.heap.objs.size:=λz=>B1 _ (z ▸ D2 ha)
  refine⟨_,rfl,"set_iterator",_,⟨_,at_,rfl⟩,Ú.lookup,?_⟩;exact k _ s.drawn s.heap.objs.size a _ _ (A7 0) (.text b) (λb o e=>G7 _ e) (P3 _) nI (.inl rfl) (D2 (G7 _ ha)) at_ rfl
 |false=>
  cases dd:(!t.plain&&decide (es.size>1)) with
  |false=>
   have pl:t.plain=true\/es.size<=1:=by
    cases hp:t.plain with
    |true=>exact .inl rfl
    |false=>rw [hp] at dd;have:=kT (show decide (es.size>1)=false from dd);exact .inr (by omega)
   have at_:(s.heap.push (Θ (A7 0) 0 a es.size ep)).get? s.heap.objs.size=some (Θ (A7 0) 0 a es.size ep):=S4 _ rfl;have nI:a≠s.heap.objs.size:=λz=>B1 _ (z ▸ D2 ha)
   have zero:M1 t.place 0=0:=by
    obtain⟨b1,_,b3⟩:=vY (S.rise pl) 0;rcases kU (M1 t.place 0) with z|z
    ·exact z
    ·have h0:0<t.place.size:=by omega
     exact absurd (b1 0 z _ (by simp [h0]:t.place[0]? =some t.place[0])) (aF _)
   have fin:=k _ s.drawn s.heap.objs.size a _ _ (A7 0) (.table b pl) (λb o e=>G7 _ e) (P3 _) nI (.inl rfl) (D2 (G7 _ ha)) at_ ⟨0,rfl,zero⟩
   wp_walk using Ř,Ė
   split
   ·rename_i z;have z':(!w.params.followText "set-order" &&(!t.plain&&decide (es.size>1)))=true:=z;rw [b,dd] at z';cases z'
   wp_walk using Ř
   exact⟨_,rfl,"set_iterator",_,⟨_,at_,rfl⟩,Ú.lookup,fin⟩
  |true=>
   have pf:t.plain=false/\1<es.size:=by
    rw [B8] at dd;exact⟨by simpa using dd.1,L8 dd.2⟩
   wp_walk using Ř,Ė
   split
   rotate_left
   ·rename_i z;exact(z (show (!w.params.followText "set-order" &&(!t.plain&&decide (es.size>1)))=true by rw [b,dd];rfl)).elim
   refine wpAny_bind (Qr es.size (P4 es.size) s (by simp) λord d p=> ?_);have len:ord.length=es.size:=by rw [p.length_eq];simp
   have t0:(s.heap.push {cls:= .type "tuple",data:= .seq (ord.map λ(i:G5)=>A7 i).toArray}).get? s.heap.objs.size=some {cls:= .type "tuple",data:= .seq (ord.map λ(i:G5)=>A7 i).toArray}:=S4 _ rfl;refine wpAny_bind (tX ?_ (by rw [G2,len];exact R6 (S6 few) (by decide)));have ha1:(s.heap.push {cls:= .type "tuple",data:= .seq (ord.map λ(i:G5)=>A7 i).toArray}).get? a=some (zJ es ep t):=G7 _ ha;have X0P:=λ{P:T6 (P1×G1)×G5×T9->G3->Prop} {E':G1->G3->Prop} {A':T8}=>state (P:=P) (E':=E') (A':=A') (s':= {s with heap:=s.heap.push {cls:= .type "tuple",data:= .seq (ord.map λ(i:G5)=>A7 i).toArray},drawn:=d}) ha1
   wp_walk using X0P
   have at_:=S4 (s.heap.push {cls:= .type "tuple",data:= .seq (ord.map λ(i:G5)=>A7 i).toArray}) (o:=Θ (.ref s.heap.objs.size) 0 a es.size ep) rfl;have lt1:s.heap.objs.size<(s.heap.push {cls:= .type "tuple",data:= .seq (ord.map λ(i:G5)=>A7 i).toArray}).objs.size:=D2 t0;refine⟨_,rfl,"set_iterator",_,⟨_,at_,rfl⟩,Ú.lookup,?_⟩;exact k _ d _ s.heap.objs.size _ _ (.ref s.heap.objs.size) (.drawn b pf.1 pf.2 ord p s.heap.objs.size) (λb o e=>G7 _ (G7 _ e)) (S6 lt1) (M8 lt1) (.inr (P3 _)) (D2 (G7 _ t0)) at_ ⟨rfl,⟨_,G7 _ t0,rfl,0,rfl⟩⟩
end
section
variable {prog:S8}{w:B0}{A:T8}{E:G1->G3->Prop}{s:G3}{a:G9}{es:T6 (P1×G1)}{ep:G5}{t:T9}{ns:G0 P1}
def NF {Q:M7->G3->Prop}(ty:s.TypeIs (.ref a) "set")(q:Q false s):R0 (R7 prog w) A (iY (.ref a)) Q E s:=by
 have parts:splitId "set.__len__" =some ("set","__len__"):=by decide +kernel
 have f2:=vA;unfold iY;refine wpAny_bind (m5 ty F.slot_set_len.lookup ?_);dsimp only;rw [parts];dsimp only
 wp_walk
 exact q
def ED (s:G3)(es:T6 (P1×G1))(r:nQ)(s':G3):Prop:=
 ∃h' d tk acc c,r= .ok (.ret (.ref s.heap.objs.size))/\s'= {s with heap:=h',drawn:=d,toks:=tk}/\h'.get? s.heap.objs.size=some {cls:= .type "list",dict:=none,data:= .seq acc c,slots:= #[]}/\(∀b o,s.heap.get? b=some o->h'.get? b=some o)/\acc.toList.Perm (es.toList.map (·.2))
def Yq (calm:A.handled=none)(S:Ş (zc w) es.size t)(ha:s.heap.get? a=some (zJ es ep t))(few:es.size<1000):
 aK (R7 prog w) A (.builtin "proto.collect" ⟨[.ref a],[]⟩) (ED s es) s:=by
 have nS:s.heap.objs.size≠a:=λz=>B1 _ (z ▸ D2 ha)
 have old: ∀ {b o o'},s.heap.get? b=some o->(s.heap.push o').get? b=some o:=λe=>G7 _ e
 refine aE F.entry_proto_collect ?_
 wp_walk
 refine⟨lQ qJ _,aE F.entry_list_iadd ?_⟩;rw [bU qJ];have ha1:(s.heap.push {cls:= .type "list",data:= .seq #[]}).get? a=some (zJ es ep t):=old ha;have hS:(s.heap.push {cls:= .type "list",data:= .seq #[]}).get? s.heap.objs.size=some {cls:= .type "list",data:= .seq #[]}:=S4 _ rfl;have ty:Shared.TypeIs {s with heap:=s.heap.push {cls:= .type "list",data:= .seq #[]}} (.ref a) "set" :=⟨_,ha1,rfl⟩;have other:lR (.ref s.heap.objs.size) (.ref a)=false:=by simp [lR,nS]
 have iter:=λ{P:G1->G3->Prop} {E':G1->G3->Prop} {A':T8}=>NE (prog:=prog) (w:=w) (A:=A') (E:=E') (Q:=P) (s:= {s with heap:=s.heap.push {cls:= .type "list",data:= .seq #[]}}) S ha1 (by omega)
 show R0 _ A.in1 (sR (.ref s.heap.objs.size) (.ref a) (.ref s.heap.objs.size)) _ _ _
 wp_walk using iter
 intro h1 d I tp vals md first M kept lo tI tpo tpl hI hm
 have ha2:h1.get? a=some (zJ es ep t):=kept _ _ ha1;have hS2:h1.get? s.heap.objs.size=some {cls:= .type "list",data:= .seq #[]}:=kept _ _ hS;have ty2:Shared.TypeIs {s with heap:=h1,drawn:=d} (.ref a) "set" :=⟨_,ha2,rfl⟩;refine wpAny_bind (L7 (NF ty2 ?_))
 wp_walk
 have lt:a<s.heap.objs.size:=D2 ha;have e1:(s.heap.push {cls:= .type "list",data:= .seq #[]}).objs.size=s.heap.objs.size+1:=gA ..;have lo':s.heap.objs.size+1<=I:=by rw [<-e1];exact lo
 have aI:a≠I:=λz=>by subst z;exact absurd lt (aC.mpr (qK lo'))
 have SI:s.heap.objs.size≠I:=M8 lo';have Stp:s.heap.objs.size≠tp:=by
  rcases tpo with z|z
  ·rw [z];exact nS
  ·exact M8 (T5 (by rw [e1];exact V9 _) z)
 have hS3:=C9 (W3 λx=>x.push fH) hS2 rfl;have hS4:=C9 (W3 λx=>x.pop) hS3 rfl;have same:O6 s.heap.objs.size h1 ((h1.update s.heap.objs.size (W3 λx=>x.push fH)).update s.heap.objs.size (W3 λx=>x.pop)):=(L6 ..).trans (L6 ..);have W:=Ru (prog:=prog) (A:=A.in1) calm S M aI tI;refine⟨lQ F.plain_extend_loop _,codeAny_extend_loopS W.toS ?_ s.heap.objs.size (by simp [SI,nS,Stp]) _ vals.length 0 _ #[] _ rfl (N3 _) ⟨same.extBut _ _ nS.symm ha2,first,same.extBut _ _ SI.symm hI,M.keep hm λo e=>same.extBut _ _ Stp.symm e⟩ hS4 (ItemsOf.nil _) λs' acc c' moved hS' items=> ?_⟩
 ·rw [M.perm.length_eq,G2,D8];exact R6 (S6 few) (by decide)
 have ξ:acc.toList=vals:=by
  refine cY λi=> ?_
  rw [N7];cases e:acc[i]? with
  |some v=>exact(items.2 i v e).symm
  |none=>
   have:vals.length<=i:=by rw [<-items.1];exact dJ.mp e
   exact(O8 this).symm
 obtain⟨h',g',d',tk',os'⟩:=s';have mg:g'=s.gens:=moved.gens;have md':d'=d:=moved.drawn;have mo:os'=s.os:=moved.os;subst mg md' mo;refine⟨h',d',tk',acc,c',rfl,rfl,hS',λb o e=> ?_,by rw [ξ];exact M.perm⟩;have lb:=D2 e;have nb:b≠s.heap.objs.size:=M8 lb;have nbI:b≠I:=λz=>by subst z;exact absurd lb (aC.mpr (qK lo'))
 exact moved.heap b o (by simp [nb,nbI]) (same.extBut _ _ nb (kept _ _ (old e)))
def Xt (S:SetI (zc w) es t ns){vs:G0 G1}(p:vs.Perm (es.toList.map (·.2))): ∃ks,W0 vs ks/\ks.Nodup/\ ∀n,n∈ks↔n∈ns:=by
 have X1t: ∀v∈vs,∃n t,v=fN n t:=λv hv=>by
  obtain⟨e,he,rfl⟩:=S9.mp (p.mem_iff.mp hv);obtain⟨n,tk,rfl⟩:=S.nums e he;exact⟨n,tk,rfl⟩
 have hI:=intsAre_map vs X1t;have pk:(vs.map numOf).Perm (es.toList.map ND):=by
  refine(p.map numOf).trans ?_;rw [N8];have:es.toList.map (numOf∘λx=>x.2)=es.toList.map ND:=B6 λe he=>by
   obtain⟨n,tk,rfl⟩:=S.nums e he;rfl
  rw [this]
 exact⟨_,hI,pk.nodup_iff.mpr S.nd,λn=>pk.mem_iff.trans (S.mem n)⟩
def GT {Q:G1->G3->Prop}(calm:A.handled=none)(S:SetI (zc w) es t ns)(ha:s.heap.get? a=some (zJ es ep t))(few:ns.length<64)
 (k: ∀ (h1 h':C7) d tk (out:T6 G1) (ks:G0 P1) (c:G5),(∀b o,s.heap.get? b=some o->h1.get? b=some o)->(∀b o,h1.get? b=some o->h'.get? b=some o)->h'.get? h1.objs.size=some (cG "list" out c)->W0 out.toList ks->ks.Pairwise (· < ·)->(∀n,n∈ks↔n∈ns)->
  Q (.ref h1.objs.size) {s with heap:=h',drawn:=d,toks:=tk}):R0 (R7 prog w) A (call (.builtin "sorted") [.ref a]) Q E s:=by
 refine dW rV qL qM (qN _) (wpAny_bind (P2 (wpAny_bind (wpAny_bind (tY (cJ (Yq calm S.tab ha (V8 S.size (by omega))) λres s' listed=> ?_))))));obtain⟨h1,d,tk,acc,c0,rfl,rfl,made,kept,p⟩:=listed;refine wpAny_bind (pB made (P2 ?_));obtain⟨ks,hI,nd,mem⟩:=Xt S p;have lk:ks.length<=ns.length:=Zx nd λn hn=>(mem n).mp hn
 have len:acc.toList.length=ks.length:=hI.length;have X1D:acc.toList.length<64:=by omega
 have fresh:(h1.push (cG "list" acc.toList.toArray 0)).get? h1.objs.size=some (cG "list" acc.toList.toArray 0):=S4 _ rfl;refine wpAny_bind (lS (wpAny_bind (L7 (K2 n5 ⟨_,fresh,rfl⟩ m8 (list_sort_tree fresh hI X1D λout ns' i1 i2 i3=>⟨_,rfl,?_⟩) (n8 _)))) (R6 (S6 X1D) (by decide)));obtain⟨c,lies⟩:=sortedHeap_at (vs:=acc.toList) (out:=out) fresh;refine P2 ⟨_,rfl,k h1 _ d tk out ns' c kept (λb ob e=> ?_) lies i1 ?_ λn=>(i2.mem_iff).trans (mem n)⟩
 ·have lt:=D2 e;rw [sortedHeap_old (M8 lt) (by rw [size_push'];exact gD lt)];exact G7 _ e
 ·have nd':ns'.Nodup:=i2.nodup_iff.mpr nd;unfold mV at nd';exact(i3.and nd').imp λ⟨x,y⟩=>by omega
end
end HT
namespace L2
open PySem PySem.Spec PyProof.Rows PySem.SeqAt
variable {X:Cx}
def Inv.drew {ID:G0 (G9×Obj)}{σ:St}{H:Hp}{s:G3}(I:Inv X ID σ H s)(d:Drawn):Inv X ID σ H {s with drawn:=d}:=⟨I.ok,I.os,I.bare,I.base,I.loc,I.cell,I.free,I.freeC,I.pin,I.hok,I.len⟩
def Qs (w:B0)(o:Obj)(ns:G0 P1):Prop:= ∃es ep t,o=HT.zJ es ep t/\HT.SetI (HT.zc w) es t ns
def Rx (hc:X.calm=true):Ù X (.type "set") (λxs H Q=> ∃ (a:G9) (ns:G0 P1),xs= [.ref a]/\(í X.K H a (ns.map V.int)\/å X.K H a (ns.map V.int))/\ns.length<64/\ ∀ (p:G9) (o:Obj),H p=none->Qs X.w o ns.reverse->Q (.ref p) (upd H p (.frz o (.own 0)))):=by
 intro ID s σ H xs us Q I r h;obtain⟨a,ns,rfl,hS,few,q⟩:=h;obtain⟨u,rfl,ru⟩:=vj r;cases ru;have fin: ∀h' tk es ep t,h'.get? s.heap.objs.size=some (HT.zJ es ep t)->HT.SetI (HT.zc X.w) es t ns.reverse->(∀b o,s.heap.get? b=some o->h'.get? b=some o)->EP X ID σ Q (.ref s.heap.objs.size) {s with heap:=h',toks:=tk}:=λh' tk es ep t e S kept=>
  ⟨.ref _,_,I.laid (t':=tk) (o:= .frz (HT.zJ es ep t) (.own 0)) kept (P3 _) ⟨e,⟨_,e⟩⟩,rfl,q _ _ (I.hok.fresh (P3 _)) ⟨es,ep,t,rfl,S⟩⟩
 rcases hS with hS|hS
 ·obtain⟨its,rv,pl,hz⟩:=I.list hS;have hi:=Zc rv;obtain⟨o,e1,e2,c,e3⟩:=pl.isList;exact HT.Qq (I.ok.hd hc) (.inl rfl) ⟨o,e1,e2,c,e3⟩ hi (by omega) fin
 ·obtain⟨its,rv,pl,hz⟩:=I.tuple hS;have hi:=Zc rv;obtain⟨o,e1,e2,c,e3⟩:=pl;exact HT.Qq (I.ok.hd hc) (.inr rfl) ⟨o,e1,e2,c,e3⟩ hi (by omega) fin
def Uq (hc:X.calm=true):Ù X (.builtin "sorted") (λxs H Q=> ∃ (p:G9) (o:Obj) (ns:G0 P1),xs= [.ref p]/\H p=some (.frz o (.own 0))/\Qs X.w o ns/\ns.length<64/\ ∀ (q:G9) (ks:G0 P1),H q=none->ks.Pairwise (· < ·)->(∀n,n∈ks↔n∈ns)->Q (.ref q) (upd H q (.lst (ks.map V.int)))):=by
 intro ID s σ H xs us Q I r h;obtain⟨p,o,ns,rfl,hp,⟨es,ep,t,rfl,S⟩,few,q⟩:=h;obtain⟨u,rfl,ru⟩:=vj r;cases ru;refine HT.GT (I.ok.hd hc) S (I.hok p _ hp).1 few λh1 h' d tk out ks c k1 k2 lies a1 a2 a3=> ?_
 have I1:=(I.kept (t':=s.toks) k1).drew d;have lk:ks.length<=ns.length:=HT.Zx (a2.imp λz=>by omega) λn hn=>(a3 n).mp hn
 refine⟨.ref _,_,I1.laid (t':=tk) (o:= .lst (ks.map V.int)) k2 (P3 _) ⟨?_,out.toList,c,VY a1,lies⟩,rfl,q _ ks (I1.hok.fresh (P3 _)) a2 a3⟩;rw [G2];exact R6 lk (R6 (S6 few) (by decide))
def dSS (ta:TAD):TED:=λσ h Q=>ta σ h λds h1=> ∃ns:G0 P1,(ds= [.tup (ns.map D.int)]\/ ∃a,ds= [.lst a]/\h1 a=some (ns.map D.int))/\ns.length<64/\ ∀ (p:G9) (ks:G0 P1),h1 p=none->ks.Pairwise (· < ·)->(∀n,n∈ks↔n∈ns)->Q (.lst p) (zF h1 p (ks.map D.int))
def jss {a : M9} {ta : TAD} {p p2 pos ř : Pos} (hc : X.calm = true) (hg : Gl X "sorted") (hm : X.mg "sorted" = none) (hg2 : Gl X "set") (hm2 : X.mg "set" = none) (ha : JA X [a] ta) (hs : P8 [a] X.env = [(false, A2 a X.env)] := by rfl)
    (h1 : P8 [.Call (.Name "set" p2) [a] [] ř] X.env = (false, A2 (.Call (.Name "set" p2) [a] [] ř) X.env) :: P8 [] X.env := by rfl) (h2 : (E1 pos (P8 [] X.env)).any (·.1) = false := by rfl) (h3 : (E1 ř (P8 [] X.env)).any (·.1) = false := by rfl) :
    JE X (.Call (.Name "sorted" p) [.Call (.Name "set" p2) [a] [] ř] [] pos) (dSS ta) :=
  ⟨(yK (Uq hc) hg hm (by decide +kernel) (zA (ZL (Rx hc) hg2 hm2 (by decide +kernel) ha.to (by decide) (by decide) hs h3) ð h1) (by decide) (by decide) h1 h2).imp
    fun σ H Q ⟨Â, h, Qd, rs, rh, t, post⟩ => LA.bind rs rh t fun ds vs h1 H1 k1 Ö Ê r1 ⟨ns, hd, few, q⟩ => by
      have fin : ∀ c o, H1 c = none → Qs X.w o ns.reverse → ∃ (p : G9) (o' : Obj) (ms : G0 P1), [V.ref c] = [.ref p] ∧ upd H1 c (.frz o (.own 0)) p = some (.frz o' (.own 0)) ∧ Qs X.w o' ms ∧ ms.length < 64 ∧ ∀ (l : G9) (ks : G0 P1), upd H1 c (.frz o (.own 0)) l = none → ks.Pairwise (· < ·) → (∀ n, n ∈ ks ↔ n ∈ ms) → Q (.ref l) (upd (upd H1 c (.frz o (.own 0))) l (.lst (ks.map V.int))) := fun c o ν S =>
        ⟨c, o, ns.reverse, rfl, ji, S, by simpa using few, fun l ks hl a b => by
          have î := Ê.new (o := .frz o (.own 0)) ν
          exact post (.lst l) (.ref l) _ _ (k1.trans ((Kept.new ν).trans (.new hl))) (î.newL hl (wM ks)) ⟨rfl, _, ji⟩ (q l ks (î.free hl) a fun n => by rw [b n, K4])⟩
      rcases hd with e | ⟨a, e, ha⟩
      · subst e
        obtain ⟨v, e, r2⟩ := jB r1
        obtain ⟨a, ws, e1, hH, r3⟩ := (show ∃ a vs, v = .ref a ∧ H1 a = some (.tup vs) ∧ À X.K H1 (ns.map D.int) vs from r2)
        rw [jX r3] at hH
        subst e e1
        exact ⟨a, ns, rfl, .inr (å.of hH), few, fin⟩
      · subst e
        obtain ⟨v, e, r2⟩ := jB r1
        obtain ⟨ws, hH, r3⟩ := Ê a _ ha
        have e1 : v = .ref a := r2.1
        rw [jX r3] at hH
        subst e e1
        exact ⟨a, ns, rfl, .inl (í.of hH), few, fin⟩⟩
end L2
namespace L2
def ø.ext {n:G5}{S S':G0 G5}(h:ø n S)(h':ø n S')(m: ∀j,j∈S↔j∈S'):S=S':=by
 obtain⟨p,rfl⟩:=h;obtain⟨q,rfl⟩:=h';refine qO λj hj=> ?_
 have:=m j;rw [C3,C3] at this;have e:p j=true↔q j=true:=⟨λz=>(this.mp ⟨hj,z⟩).2,λz=>(this.mpr ⟨hj,z⟩).2⟩;cases hp:p j<;>cases hq:q j<;>simp_all
noncomputable def unS (n:G5)(A B:G0 G5):G0 G5:=(P4 n).filter λj=>decide (j∈A)||decide (j∈B)
def BP (n:G5)(A B:G0 G5):ø n (unS n A B):=⟨_,rfl⟩
def Xu {n:G5}{A B:G0 G5}(hA:ø n A)(hB:ø n B)(j:G5):j∈unS n A B↔j∈A\/j∈B:=by
 unfold unS;rw [C3,D1];simp only [bK,W5];exact⟨λz=>z.2,λz=>⟨z.elim hA.lt hB.lt,z⟩⟩
theorem Qt: ∀ {xs ys:G0 P1},xs.Pairwise (· < ·)->ys.Pairwise (· < ·)->(∀n,n∈xs↔n∈ys)->xs=ys
 | [],[],_,_,_=>rfl
 | [],y::ys,_,_,m=>by have:=(m y).mpr (.head _);cases this
 |x::xs,[],_,_,m=>by have:=(m x).mp (.head _);cases this
 |x::xs,y::ys,hx,hy,m=>by
  obtain⟨hx1,hx2⟩:=U1.mp hx;obtain⟨hy1,hy2⟩:=U1.mp hy;have a:x=y:=by
   rcases D5.mp ((m x).mp (.head _)) with z|z
   ·exact z
   ·rcases D5.mp ((m y).mpr (.head _)) with w|w
    ·exact w.symm
    ·have:=hy1 x z;have:=hx1 y w;omega
  subst a;refine congrArg _ (Qt hx2 hy2 λn=> ?_);constructor
  ·intro z;rcases D5.mp ((m n).mp (.tail _ z)) with w|w
   ·have:=hx1 n z;omega
   ·exact w
  ·intro z;rcases D5.mp ((m n).mpr (.tail _ z)) with w|w
   ·have:=hy1 n z;omega
   ·exact w
def Lc {n:G5}{A B:G0 G5}(hA:ø n A)(hB:ø n B){ks:G0 P1}(r:ks.Pairwise (· < ·))(m: ∀x,x∈ks↔x∈(A++B).map λ(j:G5)=>(j:P1)):ks=(unS n A B).map λ(j:G5)=>(j:P1):=by
 refine Qt r ?_ λx=> ?_
 ·rw [L9];exact(BP n A B).rise.imp λz=>by omega
 ·rw [m x,S9,S9];constructor
  ·rintro ⟨j,hj,e⟩;exact⟨j,(Xu hA hB j).mpr (R4.mp hj),e⟩
  ·rintro ⟨j,hj,e⟩;exact⟨j,R4.mpr ((Xu hA hB j).mp hj),e⟩
inductive Made (L:G0 G5):G5->Prop
 |z:Made L 0
 |s {n l:G5}:Made L n->l∈L->Made L (n+l)
theorem Ve: ∀ (L:G0 G5) (g d:G5),d∣L.foldl bV g↔d∣g/\ ∀l∈L,d∣l
 | [],g,d=>by simp
 |x::L,g,d=>by
  show d∣L.foldl bV (bV g x)↔_;rw [Ve L,sJ];simp only [D5,forall_eq_or_imp];exact⟨λ⟨⟨a,b⟩,c⟩=>⟨a,b,c⟩,λ⟨a,b,c⟩=>⟨⟨a,b⟩,c⟩⟩
end L2
namespace HT
open PySem PyProof.Rows
section
variable {prog:S8}{w:B0}{A:T8}{E:G1->G3->Prop}{σ α β:Type}{J:G3->Prop}
def Tm (prog:S8)(w:B0)(A:T8)(E:G1->G3->Prop)(J:G3->Prop){σ α:Type}(m:Z4 σ Sem α)(Q:α->σ->Prop)(st:σ):Prop:=
 ∀s,J s->R0 (R7 prog w) A (m.run st) (λr s'=>Q r.1 r.2/\J s') E s
def Tm.pure {a:α}{Q:α->σ->Prop}{st:σ}(h:Q a st):Tm prog w A E J (Pure.pure a:Z4 σ Sem α) Q st:=λs j=>by
 rw [StateT.run_pure];exact P2 ⟨h,j⟩
def Tm.bind {m:Z4 σ Sem α}{f:α->Z4 σ Sem β}{Q:β->σ->Prop}{st:σ}(h:Tm prog w A E J m (λa Å=>Tm prog w A E J (f a) Q Å) st):Tm prog w A E J (m >>= f) Q st:=λs j=>by
 rw [StateT.run_bind];exact wpAny_bind (M0 (h s j) (λr s' x=>x.1 s' x.2) λ_ _ e=>e)
def Tm.get {Q:σ->σ->Prop}{st:σ}(h:Q st st):Tm prog w A E J (MonadState.get:Z4 σ Sem σ) Q st:=λs j=>by
 show R0 _ _ ((StateT.get:Z4 σ Sem σ).run st) _ _ _;exact P2 ⟨h,j⟩
def Tm.mono {m:Z4 σ Sem α}{Q Q':α->σ->Prop}{st:σ}(h:Tm prog w A E J m Q st)(q: ∀a Å,Q a Å->Q' a Å):Tm prog w A E J m Q' st:=λs j=>
 M0 (h s j) (λr s' x=>⟨q _ _ x.1,x.2⟩) λ_ _ e=>e
theorem Tm.range' {f:G5->β->Z4 σ Sem (fT β)}(I:G5->β->σ->Prop){Q:β->σ->Prop}{b:G5}(step: ∀i c st,i<b->I i c st->Tm prog w A E J (f i c) (λr Å=>match r with| .done c'=>Q c' Å| .yield c'=>I (i+1) c' Å) st)(fin: ∀c st,I b c st->Q c st):
 ∀ (k i:G5) (c:β) (st:σ),i+k=b->I i c st->Tm prog w A E J (forIn (List.range' i k) c f) Q st
 |0,i,c,st,e,h=>by
  rw [List.range'_zero,List.forIn_nil];exact .pure (fin c st (by rw [<-e];exact h))
 |k+1,i,c,st,e,h=>by
  rw [List.range'_succ,fF];refine .bind ((step i c st (by omega) h).mono λr Å x=> ?_);cases r with
  |done c'=>exact .pure x
  |yield c'=>exact Tm.range' I step fin k (i+1) c' Å (by omega) x
def Tm.range {f:G5->β->Z4 σ Sem (fT β)}(I:G5->β->σ->Prop){Q:β->σ->Prop}{a b:G5}{c:β}{st:σ}(hab:a<=b)(h:I a c st)(step: ∀i c st,i<b->I i c st->Tm prog w A E J (f i c) (λr Å=>match r with| .done c'=>Q c' Å| .yield c'=>I (i+1) c' Å) st)(fin: ∀c st,I b c st->Q c st):
 Tm prog w A E J (forIn [a:b] c f) Q st:=λs j=>by
 rw [Std.Legacy.Range.forIn_eq_forIn_range'];have e:([a:b]:Std.Legacy.Range).size=b-a:=by simp [Std.Legacy.Range.size]
 rw [e];exact Tm.range' I step fin (b-a) a c st (by omega) h s j
end
section
variable {prog:S8}{w:B0}{A:T8}{E:G1->G3->Prop}{J:G3->Prop}{κ:SortKind}{U:D6->Prop}{R:D6->D6->M7}
def Vf (prog:S8)(w:B0)(A:T8)(J:G3->Prop)(κ:SortKind)(U:D6->Prop)(R:D6->D6->M7):Prop:=
 ∀x y,U x->U y-> ∀s,J s->R0 (R7 prog w) A (keyLt' κ x.1 y.1) (λb s'=>b=R x y/\J s') (λ_ _=>False) s
def Tm.lt {x y:D6}{st:F4}{Q:P5 M7->F4->Prop}(a:Vf prog w A J κ U R)(k:kindOf st=κ)(hx:U x)(hy:U y)(q:Q (some (R x y)) st):Tm prog w A E J (lt' x y) Q st:=by
 rw [lt'_eq];refine .bind (.get ?_);rw [k];intro s j;rw [StateT.run_bind];refine wpAny_bind ?_;show R0 _ _ ((StateT.lift _:Z4 F4 Sem _).run st) _ _ _;rw [StateT.run_lift];refine wpAny_bind (lN (M0 (a x y hx hy s j) (λb s' x=> ?_) λ_ _ e=>e.elim));obtain⟨rfl,j'⟩:=x;exact P2 (Tm.pure (prog:=prog) (w:=w) (A:=A) (E:=E) (J:=J) q s' j')
def Tm.elem {arr:T6 D6}{i:G5}{x:D6}{st:F4}{Q:D6->F4->Prop}(e:arr[i]? =some x)(q:Q x st):Tm prog w A E J (elem' arr i) Q st:=by
 rw [elem'_eq,e];exact .pure q
def EF {n lo hi:G5}{g:G5->M7}{st:F4}{f:G5->P5 (P5 G5)×G5×G5->Z4 F4 Sem (fT (P5 (P5 G5)×G5×G5))}(Ū: ∀i j,i<=j->j<n->g j=true->g i=true)
 (h1:lo<=hi)(h2:hi<=n)(a1: ∀i,i<lo->g i=true)(a2: ∀i,hi<=i->i<n->g i=false)
 (stop: ∀i l,Tm prog w A E J (f i (none,l,l)) (λr Å=>Å=st/\r= .done (none,l,l)) st)
 (step: ∀i l u,l<u->u<=n->Tm prog w A E J (f i (none,l,u)) (λr Å=>Å=st/\r=if g (l+(u-l) / 2)=true then .yield (none,l+(u-l) / 2+1,u) else .yield (none,l,l+(u-l) / 2)) st):
 Tm prog w A E J (forIn [0:n] (none,lo,hi) f) (λc Å=>Å=st/\c.1=none/\c.2.2<=n/\(∀i,i<c.2.2->g i=true)/\ ∀i,c.2.2<=i->i<n->g i=false) st:=by
 have no: ∀i j,i<=j->j<n->g i=false->g j=false:=λi j hij hj z=>by
  cases hb:g j with
  |false=>rfl
  |true=>rw [Ū i j hij hj hb] at z;cases z
 refine Tm.range (λi c Å=>Å=st/\c.1=none/\c.2.1<=c.2.2/\c.2.2<=n/\(∀i,i<c.2.1->g i=true)/\(∀i,c.2.2<=i->i<n->g i=false)/\c.2.2-c.2.1+i<=n) (N3 _) ⟨rfl,rfl,h1,h2,a1,a2,by dsimp only;omega⟩ ?_ ?_
 ·rintro i ⟨r,l,u⟩ _ hi ⟨rfl,hr,b1,b2,b3,b4,b5⟩;dsimp only at hr b1 b2 b3 b4 b5;subst hr
  by_cases z:l=u
  ·subst z;refine(stop i l).mono ?_;rintro _ _ ⟨rfl,rfl⟩;exact⟨rfl,rfl,b2,b3,b4⟩
  ·refine(step i l u (by omega) b2).mono ?_;rintro _ _ ⟨rfl,rfl⟩;cases hg:g (l+(u-l) / 2) with
   |true=>
    rw [R8 rfl];exact⟨rfl,rfl,by dsimp only;omega,b2,λj hj=>Ū j _ (by dsimp only at hj;omega) (by omega) hg,b4,by dsimp only;omega⟩
   |false=>
    rw [R9 (by decide)];exact⟨rfl,rfl,by dsimp only;omega,by dsimp only;omega,b3,λj hj hn=>no _ j hj hn hg,by dsimp only;omega⟩
 ·rintro ⟨r,l,u⟩ _ ⟨rfl,hr,b1,b2,b3,b4,b5⟩;dsimp only at hr b1 b2 b3 b4 b5 ⊢;exact⟨rfl,hr,b2,λj hj=>b3 j (by omega),b4⟩
def gal:M7->D6->T6 D6->G5->G5->G5->Z4 F4 Sem (P5 G5):=sortPriv% PySem.Builtin.gallop
def Ġ (R:D6->D6->M7)(left:M7)(key:D6)(arr:T6 D6)(base i:G5):M7:=
 match arr[base+i]? with
 |some x=>if left=true then R x key else !R key x
 |none=>false
def Ry {left:M7}{key:D6}{arr:T6 D6}{base n hint:G5}{st:F4}{Q:P5 G5->F4->Prop}(a:Vf prog w A J κ U R)(k:kindOf st=κ)(uk:U key)(ua: ∀i,i<n-> ∃x,arr[base+i]? =some x/\U x)
 (Ū: ∀i j,i<=j->j<n->Ġ R left key arr base j=true->Ġ R left key arr base i=true)(hh:hint<n)
 (q: ∀m,m<=n->(∀i,i<m->Ġ R left key arr base i=true)->(∀i,m<=i->i<n->Ġ R left key arr base i=false)->Q (some m) st):Tm prog w A E J (gal left key arr base n hint) Q st:=by
 have ask: ∀i (Q':P5 M7->F4->Prop),i<n->Q' (some (Ġ R left key arr base i)) st->Tm prog w A E J (do let x <-elem' arr (base+i);if left=true then lt' x key else do let b <-lt' key x;Pure.pure (b.map λz=> !z)) Q' st:=λi Q' hi q'=>by
  obtain⟨x,ex,ux⟩:=ua i hi;refine .bind (.elem ex ?_);unfold Ġ at q';rw [ex] at q';cases left with
  |true=>exact .lt a k ux uk q'
  |false=>exact .bind (.lt a k uk ux (.pure q'))
 have no: ∀i j,i<=j->j<n->Ġ R left key arr base i=false->Ġ R left key arr base j=false:=λi j hij hj z=>by
  cases hb:Ġ R left key arr base j with
  |false=>rfl
  |true=>rw [Ū i j hij hj hb] at z;cases z
 unfold gal;refine .bind (ask hint _ hh ?_);dsimp only;cases hb:Ġ R left key arr base hint with
 |true=>
  rw [R8 rfl];refine .bind (Tm.mono (Tm.range (λi c Å=>Å=st/\c.1=none/\c.2.1<c.2.2/\hint+c.2.1<n/\Ġ R left key arr base (hint+c.2.1)=true/\i+1<=c.2.2)
   (Q:=λc Å=>Å=st/\c.1=none/\c.2.1<c.2.2/\hint+c.2.1<n/\Ġ R left key arr base (hint+c.2.1)=true/\(n-hint<=c.2.2\/Ġ R left key arr base (hint+c.2.2)=false)) (N3 _) ⟨rfl,rfl,by decide,by omega,by simpa using hb,by decide⟩ ?_ ?_) ?_)
  ·rintro i ⟨r,lo,of⟩ _ hi ⟨rfl,hr,h1,h2,h3,h4⟩;dsimp only at hr h1 h2 h3 h4 ⊢;subst hr
   by_cases z:of>=n-hint
   ·rw [R8 z];exact .pure ⟨rfl,rfl,h1,h2,h3,.inl z⟩
   ·rw [R9 z];refine .bind (ask (hint+of) _ (by omega) ?_);dsimp only;cases hc:Ġ R left key arr base (hint+of) with
    |true=>exact .pure ⟨rfl,rfl,by dsimp only;omega,by dsimp only;omega,hc,by dsimp only;omega⟩
    |false=>exact .pure ⟨rfl,rfl,h1,h2,h3,.inr hc⟩
  ·rintro ⟨r,lo,of⟩ _ ⟨rfl,hr,h1,h2,h3,h4⟩;exact⟨rfl,hr,h1,h2,h3,.inl (by dsimp only at h4 ⊢;omega)⟩
  ·rintro ⟨r,lo,of⟩ _ ⟨rfl,hr,h1,h2,h3,h4⟩;dsimp only at hr h1 h2 h3 h4 ⊢;subst hr;dsimp only;refine .bind (Tm.mono (EF (g:=Ġ R left key arr base) Ū (by omega) (by omega) (λi hi=>Ū i _ (by omega) h2 h3) (λi hi hn=> ?_) (λi l=> ?_) (λi l u hl hu=> ?_)) ?_)
   ·rcases h4 with z|z
    ·omega
    ·exact no (hint+of) i (by omega) hn z
   ·rw [R8 (P3 l)];exact .pure ⟨rfl,rfl⟩
   ·rw [R9 (show ¬l>=u by omega)];refine .bind (ask (l+(u-l) / 2) _ (by omega) ?_);dsimp only;cases Ġ R left key arr base (l+(u-l) / 2)<;>exact .pure ⟨rfl,rfl⟩
   ·rintro ⟨r,l,u⟩ _ ⟨rfl,hr,b2,b3,b4⟩;dsimp only at hr b2 b3 b4 ⊢;subst hr;exact .pure (q u b2 b3 b4)
 |false=>
  rw [R9 (by decide)];refine .bind (Tm.mono (Tm.range (λi c Å=>Å=st/\c.1=none/\c.2.1<c.2.2/\c.2.1<=hint/\Ġ R left key arr base (hint-c.2.1)=false/\i+1<=c.2.2)
   (Q:=λc Å=>Å=st/\c.1=none/\c.2.1<c.2.2/\c.2.1<=hint/\Ġ R left key arr base (hint-c.2.1)=false/\(hint+1<=c.2.2\/Ġ R left key arr base (hint-c.2.2)=true)) (N3 _) ⟨rfl,rfl,by decide,by dsimp only;omega,by simpa using hb,by decide⟩ ?_ ?_) ?_)
  ·rintro i ⟨r,lo,of⟩ _ hi ⟨rfl,hr,h1,h2,h3,h4⟩;dsimp only at hr h1 h2 h3 h4 ⊢;subst hr
   by_cases z:of>=hint+1
   ·rw [R8 z];exact .pure ⟨rfl,rfl,h1,h2,h3,.inl z⟩
   ·rw [R9 z];refine .bind (ask (hint-of) _ (by omega) ?_);dsimp only;cases hc:Ġ R left key arr base (hint-of) with
    |false=>exact .pure ⟨rfl,rfl,by dsimp only;omega,by dsimp only;omega,hc,by dsimp only;omega⟩
    |true=>exact .pure ⟨rfl,rfl,h1,h2,h3,.inr hc⟩
  ·rintro ⟨r,lo,of⟩ _ ⟨rfl,hr,h1,h2,h3,h4⟩;exact⟨rfl,hr,h1,h2,h3,.inl (by dsimp only at h4 ⊢;omega)⟩
  ·rintro ⟨r,lo,of⟩ _ ⟨rfl,hr,h1,h2,h3,h4⟩;dsimp only at hr h1 h2 h3 h4 ⊢;subst hr;dsimp only;refine .bind (Tm.mono (EF (g:=Ġ R left key arr base) Ū (by omega) (by omega) (λi hi=> ?_) (λi hi hn=>no _ i hi hn h3) (λi l=> ?_) (λi l u hl hu=> ?_)) ?_)
   ·rcases h4 with z|z
    ·omega
    ·exact Ū i (hint-of) (by omega) (by omega) z
   ·rw [R8 (P3 l)];exact .pure ⟨rfl,rfl⟩
   ·rw [R9 (show ¬l>=u by omega)];refine .bind (ask (l+(u-l) / 2) _ (by omega) ?_);dsimp only;cases Ġ R left key arr base (l+(u-l) / 2)<;>exact .pure ⟨rfl,rfl⟩
   ·rintro ⟨r,l,u⟩ _ ⟨rfl,hr,b2,b3,b4⟩;dsimp only at hr b2 b3 b4 ⊢;subst hr;exact .pure (q u b2 b3 b4)
end
section
variable {κ:Type}{U:κ->Prop}{R:κ->κ->M7}{al bl:G0 κ}
structure Ó (U:κ->Prop)(R:κ->κ->M7):Prop where
 asym: ∀x y,U x->U y->R x y=true->R y x=false
 neg: ∀x y z,U x->U y->U z->R x z=true->R x y=true\/R y z=true
def Ó.refl (o:Ó U R){x:κ}(u:U x):R x x=false:=by
 cases h:R x x with
 |false=>rfl
 |true=>have:=o.asym x x u u h;rw [h] at this;exact this
def Ó.trans (o:Ó U R){x y z:κ}(ux:U x)(uy:U y)(uz:U z)(a:R y x=false)(b:R z y=false):R z x=false:=by
 cases h:R z x with
 |false=>rfl
 |true=>
  rcases o.neg z y x uz uy ux h with z|z
  ·rw [b] at z;cases z
  ·rw [a] at z;cases z
abbrev Ô (R:κ->κ->M7)(l:G0 κ):Prop:=l.Pairwise λx y=>R y x=false
structure MI (R:κ->κ->M7)(al bl:G0 κ)(ia ib:G5)(out:G0 κ):Prop where
 perm:out.Perm (al.take ia++bl.take ib)
 srt:Ô R out
 ra: ∀x∈out,∀y∈al.drop ia,R y x=false
 rb: ∀x∈out,∀y∈bl.drop ib,R y x=false
def zd {l:G0 κ}{i:G5}{y:κ}(h:l[i]? =some y):l.drop i=y::l.drop (i+1):=by
 obtain⟨hi,e⟩:=P6.mp h;rw [List.drop_eq_getElem_cons hi,e]
def Wi {l:G0 κ}{i:G5}{y:κ}(h:l[i]? =some y):l.take (i+1)=l.take i++ [y]:=by
 rw [E7,h];rfl
def MI.start (al bl:G0 κ):MI R al bl 0 0 []:=⟨.refl _,.nil,λx hx=>(H0 hx).elim,λx hx=>(H0 hx).elim⟩
variable {ia ib:G5}
def MI.pushB {out:G0 κ}{y:κ}(m:MI R al bl ia ib out)(o:Ó U R)(ua: ∀x∈al,U x)(ub: ∀x∈bl,U x)(sa:Ô R al)(sb:Ô R bl)(hy:bl[ib]? =some y)(lt: ∀z,al[ia]? =some z->R y z=true):MI R al bl ia (ib+1) (out++ [y]):=by
 have dy:=zd hy;have uy:=ub y (P9 hy);have sdb:Ô R (bl.drop ib):=sb.sublist (V4 _ _);rw [dy] at sdb;refine⟨?_,?_,λx hx z hz=> ?_,λx hx z hz=> ?_⟩
 ·rw [Wi hy,<-D4];exact m.perm.append_right _
 ·refine B3.mpr ⟨m.srt,O3 _ _,λx hx z hz=> ?_⟩;rw [P0.mp hz];exact m.rb x hx y (by rw [dy];exact R5 ..)
 ·rcases R4.mp hx with w|w
  ·exact m.ra x w z hz
  ·rw [P0.mp w];cases e:al[ia]? with
   |none=>rw [E8 (k9.mp e)] at hz;cases hz
   |some a0=>
    have da:=zd e;have ua0:=ua a0 (P9 e);have sda:Ô R (al.drop ia):=sa.sublist (V4 _ _);rw [da] at sda hz;have l0:=o.asym y a0 uy ua0 (lt a0 e);rcases D5.mp hz with v|v
    ·rw [v];exact l0
    ·exact o.trans uy ua0 (ua z (A4 v)) l0 ((U1.mp sda).1 z v)
 ·rcases R4.mp hx with w|w
  ·exact m.rb x w z (by rw [dy];exact T3 _ hz)
  ·rw [P0.mp w];exact(U1.mp sdb).1 z hz
def MI.pushA {out:G0 κ}{y:κ}(m:MI R al bl ia ib out)(o:Ó U R)(ua: ∀x∈al,U x)(ub: ∀x∈bl,U x)(sa:Ô R al)(sb:Ô R bl)(hy:al[ia]? =some y)(ge: ∀z,bl[ib]? =some z->R z y=false):MI R al bl (ia+1) ib (out++ [y]):=by
 have dy:=zd hy;have uy:=ua y (P9 hy);have sda:Ô R (al.drop ia):=sa.sublist (V4 _ _);rw [dy] at sda;refine⟨?_,?_,λx hx z hz=> ?_,λx hx z hz=> ?_⟩
 ·rw [Wi hy];refine(m.perm.append_right [y]).trans ?_;rw [D4,D4];exact(cW).append_left _
 ·refine B3.mpr ⟨m.srt,O3 _ _,λx hx z hz=> ?_⟩;rw [P0.mp hz];exact m.ra x hx y (by rw [dy];exact R5 ..)
 ·rcases R4.mp hx with w|w
  ·exact m.ra x w z (by rw [dy];exact T3 _ hz)
  ·rw [P0.mp w];exact(U1.mp sda).1 z hz
 ·rcases R4.mp hx with w|w
  ·exact m.rb x w z hz
  ·rw [P0.mp w];cases e:bl[ib]? with
   |none=>rw [E8 (k9.mp e)] at hz;cases hz
   |some b0=>
    have db:=zd e;have ub0:=ub b0 (P9 e);have sdb:Ô R (bl.drop ib):=sb.sublist (V4 _ _);rw [db] at sdb hz;have l0:=ge b0 e;rcases D5.mp hz with v|v
    ·rw [v];exact l0
    ·exact o.trans uy ub0 (ub z (A4 v)) l0 ((U1.mp sdb).1 z v)
theorem MI.manyA (o:Ó U R)(ua: ∀x∈al,U x)(ub: ∀x∈bl,U x)(sa:Ô R al)(sb:Ô R bl): ∀ (k:G5) {ia:G5} {out:G0 κ},MI R al bl ia ib out->ia+k<=al.length->(∀i,i<k-> ∀y,al[ia+i]? =some y-> ∀z,bl[ib]? =some z->R z y=false)->MI R al bl (ia+k) ib (out++(al.drop ia).take k)
 |0,ia,out,m,_,_=>by rw [dL,O9];exact m
 |k+1,ia,out,m,hk,h=>by
  obtain⟨y,hy⟩: ∃y,al[ia]? =some y:=⟨_,G8 (by omega)⟩;have m1:=m.pushA o ua ub sa sb hy (h 0 (by omega) y hy);have:=MI.manyA o ua ub sa sb k m1 (by omega) (λi hi y hy=>h (i+1) (by omega) y (by rw [show ia+(i+1)=ia+1+i by omega];exact hy));rw [show ia+(k+1)=ia+1+k by omega,zd hy,oU,rG];exact this
theorem MI.manyB (o:Ó U R)(ua: ∀x∈al,U x)(ub: ∀x∈bl,U x)(sa:Ô R al)(sb:Ô R bl): ∀ (k:G5) {ib:G5} {out:G0 κ},MI R al bl ia ib out->ib+k<=bl.length->(∀i,i<k-> ∀y,bl[ib+i]? =some y-> ∀z,al[ia]? =some z->R y z=true)->MI R al bl ia (ib+k) (out++(bl.drop ib).take k)
 |0,ib,out,m,_,_=>by rw [dL,O9];exact m
 |k+1,ib,out,m,hk,h=>by
  obtain⟨y,hy⟩: ∃y,bl[ib]? =some y:=⟨_,G8 (by omega)⟩;have m1:=m.pushB o ua ub sa sb hy (h 0 (by omega) y hy);have:=MI.manyB o ua ub sa sb k m1 (by omega) (λi hi y hy=>h (i+1) (by omega) y (by rw [show ib+(i+1)=ib+1+i by omega];exact hy));rw [show ib+(k+1)=ib+1+k by omega,zd hy,oU,rG];exact this
def MI.all {out:G0 κ}(m:MI R al bl al.length bl.length out):out.Perm (al++bl)/\Ô R out:=by
 have:=m.perm;rw [dO,dO] at this;exact⟨this,m.srt⟩
def MI.done {out:G0 κ}(m:MI R al bl ia ib out)(o:Ó U R)(ua: ∀x∈al,U x)(ub: ∀x∈bl,U x)(sa:Ô R al)(sb:Ô R bl)(ha:ia<=al.length)(hb:ib<=bl.length)(h:ia=al.length\/ib=bl.length):(out++al.drop ia++bl.drop ib).Perm (al++bl)/\Ô R (out++al.drop ia++bl.drop ib):=by
 have m1:=MI.manyA o ua ub sa sb (al.length-ia) m (by omega) (λi hi y hy z hz=>by
  have:=(P6.mp hz).1;omega)
 rw [show ia+(al.length-ia)=al.length by omega,N2 (by rw [C5];exact P3 _)] at m1;have m2:=MI.manyB o ua ub sa sb (bl.length-ib) m1 (by omega) (λi hi y hy z hz=>by
  have:=(P6.mp hz).1;omega)
 rw [show ib+(bl.length-ib)=bl.length by omega,N2 (l:=bl.drop ib) (by rw [C5];exact P3 _)] at m2;exact m2.all
def MI.lastA {out:G0 κ}(m:MI R al bl ia ib out)(o:Ó U R)(ua: ∀x∈al,U x)(ub: ∀x∈bl,U x)(sa:Ô R al)(sb:Ô R bl)(ha:ia+1=al.length)(hb:ib<=bl.length)(h: ∀y∈bl,∀z,al[al.length-1]? =some z->R y z=true):(out++bl.drop ib++al.drop ia).Perm (al++bl)/\Ô R (out++bl.drop ib++al.drop ia):=by
 have m2:=MI.manyB o ua ub sa sb (bl.length-ib) m (by omega) (λi hi y hy z hz=>h y (P9 hy) z (by rw [<-ha];exact hz));rw [show ib+(bl.length-ib)=bl.length by omega,N2 (by rw [C5];exact P3 _)] at m2;have m1:=MI.manyA o ua ub sa sb (al.length-ia) m2 (by omega) (λi hi y hy z hz=>by
  have:=(P6.mp hz).1;omega)
 rw [show ia+(al.length-ia)=al.length by omega,N2 (l:=al.drop ia) (by rw [C5];exact P3 _)] at m1;exact m1.all
end
section
variable {prog:S8}{w:B0}{A:T8}{E:G1->G3->Prop}{J:G3->Prop}{κ:SortKind}{U:D6->Prop}{R:D6->D6->M7}
def Tm.rule {σ:Type}{x:U5}{Q:Unit->σ->Prop}{st:σ}(q:Q () st):Tm prog w A E J (liftM (PySem.rule x):Z4 σ Sem Unit) Q st:=λs j=>by
 show R0 _ _ ((StateT.lift _:Z4 σ Sem _).run st) _ _ _;rw [StateT.run_lift];exact wpAny_bind (gR (P2 ⟨q,j⟩))
def Tm.modify {σ:Type}{f:σ->σ}{Q:Unit->σ->Prop}{st:σ}(q:Q () (f st)):Tm prog w A E J (_root_.modify f:Z4 σ Sem PUnit) Q st:=λs j=>by
 rw [StateT.run_modify];exact P2 ⟨q,j⟩
def mLo:T6 D6->T6 D6->Z4 F4 Sem (T6 D6):=sortPriv% PySem.Builtin.mergeLo
def ş (st Å:F4):Prop:=kindOf Å=kindOf st/\M5 Å=M5 st/\C0 Å=C0 st/\bW Å=bW st
def ş.refl (st:F4):ş st st:=⟨rfl,rfl,rfl,rfl⟩
def Zz (a:T6 D6)(i:G5):(a.extract i).toList=a.toList.drop i:=by
 rw [bX,V0];exact N2 (by simp)
def Qu (a:T6 D6)(i k:G5):(a.extract i (i+k)).toList=(a.toList.drop i).take k:=by
 rw [bX,V0,fX]
def yW (R:D6->D6->M7)(a b c:T6 D6):Prop:=c.toList.Perm (a.toList++b.toList)/\Ô R c.toList
structure Two (U:D6->Prop)(R:D6->D6->M7)(a b:T6 D6):Prop where
 o:Ó U R
 ua: ∀x∈a.toList,U x
 ub: ∀x∈b.toList,U x
 sa:Ô R a.toList
 sb:Ô R b.toList
 last: ∀y∈b.toList,∀z,a.toList[a.toList.length-1]? =some z->R y z=true
abbrev MA (R:D6->D6->M7)(a b:T6 D6)(ia ib:G5)(out:T6 D6):Prop:=MI R a.toList b.toList ia ib out.toList
section
variable {a b out:T6 D6}{ia ib:G5}
def MA.done (t:Two U R a b)(m:MA R a b ia ib out)(ha:ia<=a.size)(hb:ib<=b.size)(h:ia=a.size\/ib=b.size):yW R a b (out++a.extract ia++b.extract ib):=by
 have:=MI.done m t.o t.ua t.ub t.sa t.sb (by simpa using ha) (by simpa using hb) (by simpa using h);unfold yW;rw [L5,L5,Zz,Zz];exact this
def MA.lastA (t:Two U R a b)(m:MA R a b ia ib out)(ha:ia+1=a.size)(hb:ib<=b.size):yW R a b (out++b.extract ib++a.extract ia):=by
 have:=MI.lastA m t.o t.ua t.ub t.sa t.sb (by simpa using ha) (by simpa using hb) t.last;unfold yW;rw [L5,L5,Zz,Zz];exact this
def MA.pushB (t:Two U R a b){y:D6}(m:MA R a b ia ib out)(hy:b.toList[ib]? =some y)(lt: ∀z,a.toList[ia]? =some z->R y z=true):MA R a b ia (ib+1) (out.push y):=by
 have:=MI.pushB m t.o t.ua t.ub t.sa t.sb hy lt;show MI R _ _ _ _ (out.push y).toList;rw [K5];exact this
def MA.pushA (t:Two U R a b){y:D6}(m:MA R a b ia ib out)(hy:a.toList[ia]? =some y)(ge: ∀z,b.toList[ib]? =some z->R z y=false):MA R a b (ia+1) ib (out.push y):=by
 have:=MI.pushA m t.o t.ua t.ub t.sa t.sb hy ge;show MI R _ _ _ _ (out.push y).toList;rw [K5];exact this
def MA.manyA (t:Two U R a b)(m:MA R a b ia ib out)(k:G5)(hk:ia+k<=a.size)(h: ∀i,i<k-> ∀y,a.toList[ia+i]? =some y-> ∀z,b.toList[ib]? =some z->R z y=false):MA R a b (ia+k) ib (out++a.extract ia (ia+k)):=by
 have:=MI.manyA t.o t.ua t.ub t.sa t.sb k m (by simpa using hk) h;show MI R _ _ _ _ (out++a.extract ia (ia+k)).toList;rw [L5,Qu];exact this
def MA.manyB (t:Two U R a b)(m:MA R a b ia ib out)(k:G5)(hk:ib+k<=b.size)(h: ∀i,i<k-> ∀y,b.toList[ib+i]? =some y-> ∀z,a.toList[ia]? =some z->R y z=true):MA R a b ia (ib+k) (out++b.extract ib (ib+k)):=by
 have:=MI.manyB t.o t.ua t.ub t.sa t.sb k m (by simpa using hk) h;show MI R _ _ _ _ (out++b.extract ib (ib+k)).toList;rw [L5,Qu];exact this
end
variable {arr:T6 D6}{base:G5}
def yi {left:M7}{key x:D6}{i:G5}(h:arr.toList[base+i]? =some x):Ġ R left key arr base i=if left=true then R x key else !R key x:=by
 unfold Ġ;rw [<-N7,h]
def Wj {l:G0 D6}(s:Ô R l)(o:Ó U R)(u: ∀x∈l,U x){i j:G5}{x y:D6}(hij:i<=j)(hx:l[i]? =some x)(hy:l[j]? =some y):R y x=false:=by
 by_cases z:i=j
 ·subst z;rw [hx] at hy;injection hy with hy;subst hy
  exact o.refl (u x (P9 hx))
 ·obtain⟨h1,e1⟩:=P6.mp hx;obtain⟨h2,e2⟩:=P6.mp hy;have:=A1.mp s i j h1 h2 (by omega);rw [e1,e2] at this;exact this
def Wk {i:G5}(h:i<arr.size): ∃x,arr.toList[i]? =some x/\arr[i]? =some x:=⟨arr[i],by simp [h],by simp [h]⟩
def Kf {y:D6}{n hint:G5}{st:F4}{Q:P5 G5->F4->Prop}(ak:Vf prog w A J κ U R)(kd:kindOf st=κ)(o:Ó U R)(u: ∀x∈arr.toList,U x)(s:Ô R arr.toList)(uy:U y)(hn:base+n<=arr.size)(hh:hint<n)
 (q: ∀k,k<=n->(∀i,i<k-> ∀x,arr.toList[base+i]? =some x->R y x=false)->(∀i,k<=i->i<n-> ∀x,arr.toList[base+i]? =some x->R y x=true)->Q (some k) st):Tm prog w A E J (gal false y arr base n hint) Q st:=by
 refine Ry ak kd uy (λi hi=> ?_) (λi j hij hj h=> ?_) hh (λk k1 k2 k3=>q k k1 (λi hi x hx=> ?_) (λi h1 h2 x hx=> ?_))
 ·obtain⟨x,lx,ex⟩:=Wk (show base+i<arr.size by omega);exact⟨x,ex,u x (P9 lx)⟩
 ·obtain⟨x,lx,_⟩:=Wk (show base+i<arr.size by omega);obtain⟨z,lz,_⟩:=Wk (show base+j<arr.size by omega);rw [yi lz] at h;rw [yi lx];have hz:R y z=false:=by simpa using h
  have:=o.trans (u x (P9 lx)) (u z (P9 lz)) uy (Wj s o u (by omega) lx lz) hz;simp [this]
 ·have:=k2 i hi;rw [yi hx] at this;simpa using this
 ·have:=k3 i h1 h2;rw [yi hx] at this;simpa using this
def Kg {y:D6}{n hint:G5}{st:F4}{Q:P5 G5->F4->Prop}(ak:Vf prog w A J κ U R)(kd:kindOf st=κ)(o:Ó U R)(u: ∀x∈arr.toList,U x)(s:Ô R arr.toList)(uy:U y)(hn:base+n<=arr.size)(hh:hint<n)
 (q: ∀k,k<=n->(∀i,i<k-> ∀x,arr.toList[base+i]? =some x->R x y=true)->(∀i,k<=i->i<n-> ∀x,arr.toList[base+i]? =some x->R x y=false)->Q (some k) st):Tm prog w A E J (gal true y arr base n hint) Q st:=by
 refine Ry ak kd uy (λi hi=> ?_) (λi j hij hj h=> ?_) hh (λk k1 k2 k3=>q k k1 (λi hi x hx=> ?_) (λi h1 h2 x hx=> ?_))
 ·obtain⟨x,lx,ex⟩:=Wk (show base+i<arr.size by omega);exact⟨x,ex,u x (P9 lx)⟩
 ·obtain⟨x,lx,_⟩:=Wk (show base+i<arr.size by omega);obtain⟨z,lz,_⟩:=Wk (show base+j<arr.size by omega);rw [yi lz] at h;rw [yi lx];have hz:R z y=true:=by simpa using h
  rcases o.neg z x y (u z (P9 lz)) (u x (P9 lx)) uy hz with v|v
  ·rw [Wj s o u (by omega) lx lz] at v;cases v
  ·simp [v]
 ·have:=k2 i hi;rw [yi hx] at this;simpa using this
 ·have:=k3 i h1 h2;rw [yi hx] at this;simpa using this
section
variable {σ α β γ:Type}{c:Prop}[Decidable c]{t e:Z4 σ Sem α}{Q:α->σ->Prop}{st:σ}{x y:β}{z:γ}
def Tm.if2 (T:c->Tm prog w A E J t Q st)(F: ¬c->Tm prog w A E J e Q st):Tm prog w A E J (if c then t else e) Q st:=by
 split
 ·exact T ‹_›
 ·exact F ‹_›
def Tm.eq2 {x y:G5}(T:x=y->Tm prog w A E J t Q st)(F: ¬x=y->Tm prog w A E J e Q st):Tm prog w A E J (if (x==y)=true then t else e) Q st:=
 .if2 (λh=>T (eq_of_beq h)) λh=>F λg=>h (beq_iff_eq.mpr g)
def Tm.both {f:β->Z4 σ Sem α}(he:e=f y)(ht:t=f x)(H: ∀m,Tm prog w A E J (f m) Q st):Tm prog w A E J (if c then t else e) Q st:=by
 subst he ht;exact .if2 (λ_=>H _) λ_=>H _
def Tm.join {f:β->γ->Z4 σ Sem α}{I:β->γ->Prop}(he:e=f x z)(G: ∀m o,I m o->Tm prog w A E J (f m o) Q st)(T:c->(∀m o,I m o->Tm prog w A E J (f m o) Q st)->Tm prog w A E J t Q st)(F: ¬c->I x z):Tm prog w A E J (if c then t else e) Q st:=by
 subst he;exact .if2 (λh=>T h G) λh=>G _ _ (F h)
end
def SA {A B C D F:Type}{P:A×B×C×D×F->Prop}(h: ∀a b c d f,P (a,b,c,d,f)): ∀c,P c:=λc=>h c.1 c.2.1 c.2.2.1 c.2.2.2.1 c.2.2.2.2
def SB {A B C D F G:Type}{P:A×B×C×D×F×G->Prop}(h: ∀a b c d f g,P (a,b,c,d,f,g)): ∀c,P c:=λc=>h c.1 c.2.1 c.2.2.1 c.2.2.2.1 c.2.2.2.2.1 c.2.2.2.2.2
def SC {A B C D F G H:Type}{P:A×B×C×D×F×G×H->Prop}(h: ∀a b c d f g k,P (a,b,c,d,f,g,k)): ∀c,P c:=λc=>h c.1 c.2.1 c.2.2.1 c.2.2.2.1 c.2.2.2.2.1 c.2.2.2.2.2.1 c.2.2.2.2.2.2
def wJ {a:T6 D6}(u: ∀x∈a.toList,U x){i:G5}(h:i<a.size){P:Prop}(q: ∀y,a[i]? =some y->a.toList[i]? =some y->U y->P):P:=q a[i] (by simp [h]) (by simp [h]) (u _ (by simp))
structure Š (R:D6->D6->M7)(a b:T6 D6)(st Å:F4)(n:G5)(out:T6 D6)(ia ib:G5):Prop where
 g:ş st Å
 m:MA R a b ia ib out
 a:ia+1<a.size
 b:ib<b.size
 n:n<=ia+ib
def LoO (R:D6->D6->M7)(a b:T6 D6)(st Å:F4)(n:G5)(r:P5 (T6 D6))(out:T6 D6)(ia ib:G5):Prop:=ş st Å/\match r with|some c=>yW R a b c|none=>Š R a b st Å n out ia ib
section
variable {a b out:T6 D6}{st Å:F4}{n k ia ib:G5}
def Š.more (h:Š R a b st Å n out ia ib)(l:k<=n):Š R a b st Å k out ia ib:=⟨h.g,h.m,h.a,h.b,R6 l h.n⟩
def Š.here (h:Š R a b st Å n out ia ib):Š R a b st Å (ia+ib) out ia ib:=⟨h.g,h.m,h.a,h.b,P3 _⟩
def Š.at {s:F4}(h:Š R a b st Å n out ia ib)(g:ş st s)(l:k<=n):Š R a b st s k out ia ib:=⟨g,h.m,h.a,h.b,R6 l h.n⟩
def Š.never {P:Prop}(h:Š R a b st Å n out ia ib)(l:a.size+b.size<=n):P:=absurd (R6 l h.n) (Nat.not_le_of_lt (Nat.add_lt_add (W9 h.a) h.b))
end
def EG {a b:T6 D6}{st:F4}{Q:T6 D6->F4->Prop}(ak:Vf prog w A J κ U R)(kd:kindOf st=κ)(t:Two U R a b)
 (na:1<=a.size)(nb:1<=b.size)(first: ∀y z,b.toList[0]? =some y->a.toList[0]? =some z->R y z=true)
 (q: ∀c Å,ş st Å->yW R a b c->Q c Å):Tm prog w A E J (mLo a b) Q st:=by
 refine .bind (.rule (.bind (wJ t.ub nb λb0 eb0 lb0 ub0=> .elem eb0 ?_)));have m0:MA R a b 0 1 #[b0]:=MA.pushB t (out:= #[]) (MI.start _ _) lb0 (λz hz=>first _ z lb0 hz);refine .eq2 (x:=1) (y:=b.size) (λz1=> .pure (q _ _ (ş.refl st) (MA.done t m0 (N3 _) nb (.inr z1)))) λz1=> .eq2 (x:=0+1) (y:=a.size) (λz2=> .pure (q _ _ (ş.refl st) (MA.lastA t m0 z2 nb))) λz2=> .bind (.get ?_)
 refine .bind (Tm.mono (Tm.range (λi c Å=>Š R a b st Å (i+1) c.2.1 c.2.2.1 c.2.2.2.1)
  (Q:=λc Å=> ∃r,c.1=some r/\ş st Å/\yW R a b r) (N3 _) ⟨ş.refl st,m0,K7 na z2,K7 nb z1,P3 _⟩ ?_ ?_) ?_)
 ·intro i c st1 hi;revert c;refine SA λr out ia ib mg h=> ?_
  refine .bind (Tm.mono (Tm.range (λj c Å=>Š R a b st Å (ia+ib+j) c.2.1 c.2.2.1 c.2.2.2.1)
   (Q:=λc Å=>LoO R a b st Å (ia+ib+1) c.1 c.2.1 c.2.2.1 c.2.2.2.1) (N3 _) h.here ?_ ?_) ?_)
  ·intro j c Ĳ hj;revert c;refine SB λr out ja jb ac bc h=> ?_
   refine .bind (wJ t.ub h.b λy ey ly uy=> .elem ey (.bind (wJ t.ua (W9 h.a) λx ex lx ux=> .elem ex (.bind (.lt ak (h.g.1.trans kd) uy ux (.if2 (c:=R y x=true) (λhb=> .bind (.elem ey ?_)) λhb=> .bind (.elem ex ?_)))))))
   ·have m1:=MA.pushB t h.m ly (λz hz=>by rw [lx] at hz;injection hz with hz;rw [<-hz];exact hb);refine .eq2 (x:=jb+1) (y:=b.size) (λc1=> .pure ⟨h.g,MA.done t m1 (S6 (W9 h.a)) h.b (.inr c1)⟩) λc1=> ?_
    have d:Š R a b st Ĳ (ia+ib+(j+1)) (out.push y) ja (jb+1):=⟨h.g,m1,h.a,K7 (gJ h.b) c1,g7 h.n⟩;exact .if2 (λ_=> .pure ⟨h.g,d.more (dX (cU _ _) _)⟩) λ_=> .pure d
   ·have m1:=MA.pushA t h.m lx (λz hz=>by rw [ly] at hz;injection hz with hz;rw [<-hz];exact Z9.mpr hb);refine .eq2 (x:=ja+1+1) (y:=a.size) (λc1=> .pure ⟨h.g,MA.lastA t m1 c1 (S6 h.b)⟩) λc1=> ?_
    have d:Š R a b st Ĳ (ia+ib+(j+1)) (out.push x) (ja+1) jb:=⟨h.g,m1,K7 (gJ h.a) c1,h.b,R6 (g7 h.n) (aM (Nat.succ_add _ _).symm)⟩;exact .if2 (λ_=> .pure ⟨h.g,d.more (dX (cU _ _) _)⟩) λ_=> .pure d
  ·exact λc Ĳ h=>h.never (cU _ _)
  ·intro c Ĳ;revert c;refine SB λr out ja jb ac bc h'=> ?_
   cases r with
   |some r=>exact .pure ⟨r,rfl,h'⟩
   |none=>
   replace h':=h'.2
   refine .bind (.rule (.bind (Tm.mono (Tm.range (λj c Å=>Š R a b st Å (ja+jb+j) c.2.1 c.2.2.1 c.2.2.2.1)
    (Q:=λc Å=>LoO R a b st Å (ja+jb) c.1 c.2.1 c.2.2.1 c.2.2.2.1) (N3 _) h'.here ?_ ?_) ?_)))
   ·clear h;intro j c Ĳ hj;revert c;refine SC λr out pa pb mg ac bc h=> ?_
    refine wJ t.ub h.b λy ey ly uy=> ?_
    have g2:0<a.size-pa:=qP (W9 h.a);have g1:pa+(a.size-pa)<=a.size:=aM (J8 (S6 (W9 h.a)));refine Tm.both (y:=mg) (x:=mg-1) (by rfl) (by rfl) λmg=> ?_
    refine .bind (Tm.modify (.bind (.elem ey (.bind (Kf (base:=pa) (n:=a.size-pa) ak (h.g.1.trans kd) t.o t.ua t.sa uy g1 g2 λk k1 k2 k3=> ?_)))));refine Tm.join (I:=λo ia=>MA R a b ia pb o/\ia+1<a.size/\pa<=ia/\ ∀x,a.toList[ia]? =some x->R y x=true) (x:=out) (z:=pa) (by rfl) ?_ ?_ ?_
    ·refine λo qa i1=> ?_
     have M2:=MA.pushB t i1.1 ly i1.2.2.2;have p1:=W9 i1.2.1;refine .bind (.elem ey (.eq2 (x:=pb+1) (y:=b.size) (λc3=> .pure ⟨h.g,MA.done t M2 (S6 p1) (aM c3) (.inr c3)⟩) λc3=> ?_));have c8:pb+1<b.size:=K7 (gJ h.b) c3;have g2:=qP c8;refine .bind (wJ t.ua p1 λx ex lx ux=> .elem ex (.bind (Kg (base:=pb+1) (n:=b.size-(pb+1)) ak (h.g.1.trans kd) t.o t.ub t.sb ux (aM (J8 (S6 c8))) g2 λk' q1 q2 q3=> ?_)));dsimp only;generalize ep:pb+1=p2 at M2 q1 q2 q3 c8 g2 ⊢;generalize eo:o.push y=o2 at M2 ⊢;refine Tm.join (I:=λo ib=>MA R a b qa ib o/\ib<b.size/\p2<=ib/\ ∀x',b.toList[ib]? =some x'->R x' x=false) (x:=o2) (z:=p2) (by rfl) ?_ ?_ ?_
     ·refine λo qb i2=> ?_
      have M4:=MA.pushA t i2.1 lx i2.2.2.2;refine .bind (.elem ex (.eq2 (x:=qa+1+1) (y:=a.size) (λc5=> .pure ⟨h.g,MA.lastA t M4 c5 (S6 i2.2.1)⟩) λc5=> ?_));have n1:ja+jb+j<=pa+pb:=h.n;have n2:ja+jb+(j+1)<=qa+1+qb:=by have:=i1.2.2.1;have:=i2.2.2.1;omega
      have d:Š R a b st Ĳ (ja+jb+(j+1)) (o.push x) (qa+1) qb:=⟨h.g,M4,K7 (gJ i1.2.1) c5,i2.2.1,n2⟩;exact .if2 (λ_=> .pure ⟨h.g,d.at h.g (Y0 _ _)⟩) λ_=> .pure (d.at h.g (P3 _))
     ·intro kz' H;have g3:p2+k'<=b.size:=R6 (dX q1 _) (aM (J8 (S6 c8)));have M3:=MA.manyB t M2 k' g3 (λi hi y' hy z hz=>by rw [lx] at hz;injection hz with hz;rw [<-hz];exact q2 i hi y' hy);exact .eq2 (x:=p2+k') (y:=b.size) (λc4=> .pure ⟨h.g,MA.done t M3 (S6 p1) g3 (.inr c4)⟩) λc4=>H _ _ ⟨M3,K7 g3 c4,Y0 _ _,λz hz=>q3 k' (P3 _) (by omega) z hz⟩
     ·exact λkz'=>⟨M2,c8,P3 _,λz hz=>q3 0 (mD kz') g2 z hz⟩
    ·intro kz H;have g3:pa+k<=a.size:=R6 (dX k1 _) g1;have m1:=MA.manyA t h.m k g3 (λi hi x hx z hz=>by rw [ly] at hz;injection hz with hz;rw [<-hz];exact k2 i hi x hx);exact .eq2 (x:=pa+k+1) (y:=a.size) (λc1=> .pure ⟨h.g,MA.lastA t m1 c1 (S6 h.b)⟩) λc1=> .eq2 (x:=pa+k) (y:=a.size) (λc2=> .pure ⟨h.g,MA.done t m1 g3 (S6 h.b) (.inl c2)⟩) λc2=>H _ _ ⟨m1,K7 (K7 g3 c2) c1,Y0 _ _,λx hx=>k3 k (P3 _) (by omega) x hx⟩
    ·exact λkz=>⟨h.m,h.a,P3 _,λx hx=>k3 0 (mD kz) g2 x hx⟩
   ·exact λc st3 h=>h.never (cU _ _)
   ·intro c st3;revert c;refine SC λr out pa pb mg ac bc h3=> ?_
    cases r with
    |some r=>exact .pure ⟨r,rfl,h3⟩
    |none=>exact .bind (Tm.modify (.pure (h3.2.at h3.1 (R6 (g7 h.n) h'.n))))
 ·exact λc st1 h=>h.never (Y0 _ _)
 ·intro c st1;revert c;refine SA λr out ia ib mg h=> ?_
  obtain⟨c,rfl,gl,wh⟩:=h;exact .pure (q c st1 gl wh)
end
section
variable {prog:S8}{w:B0}{A:T8}{E:G1->G3->Prop}{J:G3->Prop}{κ:SortKind}{U:D6->Prop}{R:D6->D6->M7}
abbrev Flp (R:D6->D6->M7):D6->D6->M7:=λx y=>R y x
def Ó.flip (o:Ó U R):Ó U (Flp R):=⟨λx y ux uy h=>o.asym y x uy ux h,λx y z ux uy uz h=>(o.neg z y x uz uy ux h).symm⟩
variable {l:G0 D6}
def zh (s:Ô R l):Ô (Flp R) l.reverse:=gP.mpr s
def Qw (s:Ô (Flp R) l):Ô R l.reverse:=gP.mpr s
variable {n:G5}
def RA (h1:1<=n)(hn:n<=l.length):l.reverse[l.length-n]? =l[n-1]? :=by
 rw [cX (by omega)]
 congr 1;omega
def wa {z:D6}(hn:n<=l.length)(h:l.reverse[l.length-n]? =some z):1<=n/\l[n-1]? =some z:=by
 have:=(P6.mp h).1;rw [F9] at this;have n1:1<=n:=by omega
 exact⟨n1,by rw [<-RA n1 hn];exact h⟩
def Jc (l:G0 D6){n:G5}(hn:n<=l.length):l.reverse.drop (l.length-n)=(l.take n).reverse:=by
 rw [List.drop_reverse]
 congr 2;omega
def MH (R:D6->D6->M7)(a b:T6 D6)(na nb:G5)(out:T6 D6):Prop:=MI (Flp R) b.toList.reverse a.toList.reverse (b.toList.length-nb) (a.toList.length-na) out.toList
structure ī (U:D6->Prop)(R:D6->D6->M7)(a b:T6 D6):Prop where
 o:Ó U R
 ua: ∀x∈a.toList,U x
 ub: ∀x∈b.toList,U x
 sa:Ô R a.toList
 sb:Ô R b.toList
 first: ∀z∈a.toList,∀y,b.toList[0]? =some y->R y z=true
section
variable {a b out:T6 D6}{na nb:G5}
def ī.fa (t:ī U R a b): ∀x∈a.toList.reverse,U x:=λx hx=>t.ua x (K4.mp hx)
def ī.fb (t:ī U R a b): ∀x∈b.toList.reverse,U x:=λx hx=>t.ub x (K4.mp hx)
def MH.start (a b:T6 D6):MH R a b a.toList.length b.toList.length #[]:=by
 unfold MH;rw [iZ,iZ];exact MI.start _ _
def MH.pushA (t:ī U R a b){y:D6}(m:MH R a b na nb out)(h1:1<=na)(hn:na<=a.toList.length)(hb:nb<=b.toList.length)(hy:a.toList[na-1]? =some y)(lt: ∀z,1<=nb->b.toList[nb-1]? =some z->R z y=true):MH R a b (na-1) nb (out.push y):=by
 have:=MI.pushB m t.o.flip t.fb t.fa (zh t.sb) (zh t.sa) (by rw [RA h1 hn];exact hy) (λz hz=>lt z (wa hb hz).1 (wa hb hz).2);unfold MH;rw [K5,show a.toList.length-(na-1)=a.toList.length-na+1 by omega];exact this
def MH.pushB (t:ī U R a b){y:D6}(m:MH R a b na nb out)(h1:1<=nb)(hn:nb<=b.toList.length)(ha:na<=a.toList.length)(hy:b.toList[nb-1]? =some y)(ge: ∀z,1<=na->a.toList[na-1]? =some z->R y z=false):MH R a b na (nb-1) (out.push y):=by
 have:=MI.pushA m t.o.flip t.fb t.fa (zh t.sb) (zh t.sa) (by rw [RA h1 hn];exact hy) (λz hz=>ge z (wa ha hz).1 (wa ha hz).2);unfold MH;rw [K5,show b.toList.length-(nb-1)=b.toList.length-nb+1 by omega];exact this
def Jd (a:T6 D6)(n:G5):(a.extract 0 n).toList=a.toList.take n:=by
 rw [bX,V0,nZ,xN]
def MH.done (t:ī U R a b)(m:MH R a b na nb out)(ha:na<=a.toList.length)(hb:nb<=b.toList.length)(h:na=0\/nb=0):yW R a b (a.extract 0 na++b.extract 0 nb++out.reverse):=by
 have:=MI.done m t.o.flip t.fb t.fa (zh t.sb) (zh t.sa) (by rw [F9];omega) (by rw [F9];omega) (by rw [F9,F9];omega);rw [Jc _ ha,Jc _ hb] at this;have e:(a.extract 0 na++b.extract 0 nb++out.reverse).toList=(out.toList++(b.toList.take nb).reverse++(a.toList.take na).reverse).reverse:=by
  rw [L5,L5,Jd,Jd,iH];simp [D4]
 unfold yW;rw [e];refine⟨(X0 _).trans (this.1.trans ?_),Qw this.2⟩;exact(rH (X0 _) (X0 _)).trans cW
def MH.firstB (t:ī U R a b)(m:MH R a b na nb out)(ha:na<=a.toList.length)(hb:nb=1)(hb':1<=b.toList.length):yW R a b (b.extract 0 nb++a.extract 0 na++out.reverse):=by
 subst hb;have:=MI.lastA m t.o.flip t.fb t.fa (zh t.sb) (zh t.sa) (by rw [F9];omega) (by rw [F9];omega) (λz hz y hy=>by
  rw [F9] at hy;have:=(wa hb' hy).2;exact t.first z (K4.mp hz) y (by simpa using this))
 rw [Jc _ ha,Jc _ hb'] at this;have e:(b.extract 0 1++a.extract 0 na++out.reverse).toList=(out.toList++(a.toList.take na).reverse++(b.toList.take 1).reverse).reverse:=by
  rw [L5,L5,Jd,Jd,iH];simp [D4]
 unfold yW;rw [e];refine⟨(X0 _).trans (this.1.trans ?_),Qw this.2⟩;exact(rH (X0 _) (X0 _)).trans cW
def Qx (l:G0 D6){p n:G5}(h1:p<=n)(hn:n<=l.length):(l.reverse.drop (l.length-n)).take (n-p)=((l.drop p).take (n-p)).reverse:=by
 rw [Jc l hn,List.take_reverse,N0,n9,aD hn,show n-(n-p)=p by omega]
def RB (a:T6 D6){p n:G5}(h:p<=n):(a.extract p n).reverse.toList=((a.toList.drop p).take (n-p)).reverse:=by
 rw [iH,bX,V0]
def MH.manyA (t:ī U R a b)(m:MH R a b na nb out)(p:G5)(hp:p<=na)(hn:na<=a.toList.length)(hb:nb<=b.toList.length)(h: ∀i,p<=i->i<na-> ∀y,a.toList[i]? =some y-> ∀z,1<=nb->b.toList[nb-1]? =some z->R z y=true):MH R a b p nb (out++(a.extract p na).reverse):=by
 have:=MI.manyB t.o.flip t.fb t.fa (zh t.sb) (zh t.sa) (na-p) m (by rw [F9];omega) (λi hi y hy z hz=>by
  rw [cX (by omega)] at hy;exact h _ (by omega) (by omega) y hy z (wa hb hz).1 (wa hb hz).2)
 rw [Qx _ hp hn] at this;unfold MH;rw [L5,RB _ hp,show a.toList.length-p=a.toList.length-na+(na-p) by omega];exact this
def MH.manyB (t:ī U R a b)(m:MH R a b na nb out)(p:G5)(hp:p<=nb)(hn:nb<=b.toList.length)(ha:na<=a.toList.length)(h: ∀i,p<=i->i<nb-> ∀y,b.toList[i]? =some y-> ∀z,1<=na->a.toList[na-1]? =some z->R y z=false):MH R a b na p (out++(b.extract p nb).reverse):=by
 have:=MI.manyA t.o.flip t.fb t.fa (zh t.sb) (zh t.sa) (nb-p) m (by rw [F9];omega) (λi hi y hy z hz=>by
  rw [cX (by omega)] at hy;exact h _ (by omega) (by omega) y hy z (wa ha hz).1 (wa ha hz).2)
 rw [Qx _ hp hn] at this;unfold MH;rw [L5,RB _ hp,show b.toList.length-p=b.toList.length-nb+(nb-p) by omega];exact this
end
def mHi:T6 D6->T6 D6->Z4 F4 Sem (T6 D6):=sortPriv% PySem.Builtin.mergeHi
section
variable {arr:T6 D6}{y:D6}{n hint:G5}{st:F4}{Q:P5 G5->F4->Prop}
def Hf (ak:Vf prog w A J κ U R)(kd:kindOf st=κ)(o:Ó U R)(u: ∀x∈arr.toList,U x)(s:Ô R arr.toList)(uy:U y)(hn:n<=arr.size)(hh:hint<n)
 (q: ∀k,k<=n->(∀i,i<k-> ∀x,arr.toList[i]? =some x->R y x=false)->(∀i,k<=i->i<n-> ∀x,arr.toList[i]? =some x->R y x=true)->Q (some k) st):Tm prog w A E J (gal false y arr 0 n hint) Q st:=
 Kf ak kd o u s uy (by rw [U8];exact hn) hh λk h k2 k3=>q k h (λi hi x hx=>k2 i hi x (by rw [U8];exact hx)) λi hi hj x hx=>k3 i hi hj x (by rw [U8];exact hx)
def Hg (ak:Vf prog w A J κ U R)(kd:kindOf st=κ)(o:Ó U R)(u: ∀x∈arr.toList,U x)(s:Ô R arr.toList)(uy:U y)(hn:n<=arr.size)(hh:hint<n)
 (q: ∀k,k<=n->(∀i,i<k-> ∀x,arr.toList[i]? =some x->R x y=true)->(∀i,k<=i->i<n-> ∀x,arr.toList[i]? =some x->R x y=false)->Q (some k) st):Tm prog w A E J (gal true y arr 0 n hint) Q st:=
 Kg ak kd o u s uy (by rw [U8];exact hn) hh λk h k2 k3=>q k h (λi hi x hx=>k2 i hi x (by rw [U8];exact hx)) λi hi hj x hx=>k3 i hi hj x (by rw [U8];exact hx)
end
structure Ĺ (R:D6->D6->M7)(a b:T6 D6)(st Å:F4)(n N na nb:G5)(out:T6 D6):Prop where
 g:ş st Å
 m:MH R a b na nb out
 a':na<=a.size
 b':nb<=b.size
 a:1<=na
 b:2<=nb
 n:n+na+nb<=N
def HiO (R:D6->D6->M7)(a b:T6 D6)(st Å:F4)(n N:G5)(r:P5 (T6 D6))(na nb:G5)(out:T6 D6):Prop:=ş st Å/\match r with|some c=>yW R a b c|none=>Ĺ R a b st Å n N na nb out
section
variable {a b out:T6 D6}{st Å s:F4}{n N k M na nb:G5}
def Ĺ.at (h:Ĺ R a b st Å n N na nb out)(g:ş st s)(l:n+na+nb<=N->k+na+nb<=M):Ĺ R a b st s k M na nb out:=⟨g,h.m,h.a',h.b',h.a,h.b,l h.n⟩
def Ĺ.here (h:Ĺ R a b st Å n N na nb out):Ĺ R a b st Å 0 (na+nb) na nb out:=h.at h.g λ_=>by omega
def Ĺ.never {P:Prop}(h:Ĺ R a b st Å n N na nb out)(l:N<=n):P:=by have:=h.n;have:=h.a;omega
def Ĺ.le (h:Ĺ R a b st Å n N na nb out):na+nb<=a.size+b.size:=tZ h.a' h.b'
def Ĺ.a1 (h:Ĺ R a b st Å n N na nb out):na-1<a.size:=T5 (fK h.a dM) h.a'
def Ĺ.b1 (h:Ĺ R a b st Å n N na nb out):nb-1<b.size:=T5 (fK (W9 h.b) dM) h.b'
end
def BQ (h:2<=n)(c: ¬n-1=1):2<=n-1:=by omega
def RC (c: ¬n-1=0):1<=n-1:=fL c
def EH {a b:T6 D6}{st:F4}{Q:T6 D6->F4->Prop}(ak:Vf prog w A J κ U R)(kd:kindOf st=κ)(t:ī U R a b)
 (na:1<=a.size)(nb:1<=b.size)(last: ∀y z,b.toList[b.size-1]? =some y->a.toList[a.size-1]? =some z->R y z=true)
 (q: ∀c Å,ş st Å->yW R a b c->Q c Å):Tm prog w A E J (mHi a b) Q st:=by
 refine .bind (.rule (.bind (wJ t.ua (fK na dM) λa0 ea0 la0 ua0=> .elem ea0 ?_)));have m0:MH R a b (a.size-1) b.size #[a0]:=MH.pushA t (MH.start (R:=R) a b) na (P3 _) (P3 _) la0 (λz _ hz=>last z a0 hz la0);have n1:a.size-1<=a.size:=G0h _ _;refine .eq2 (x:=a.size-1) (y:=0) (λz1=> .pure (q _ _ (ş.refl st) (MH.done t m0 n1 (P3 _) (.inl z1)))) λz1=> .eq2 (x:=b.size) (y:=1) (λz2=> .pure (q _ _ (ş.refl st) (MH.firstB t m0 n1 z2 nb))) λz2=> .bind (.get ?_)
 refine .bind (Tm.mono (Tm.range (λi c Å=>Ĺ R a b st Å (i+1) (a.size+b.size) c.2.1 c.2.2.1 c.2.2.2.1)
  (Q:=λc Å=> ∃r,c.1=some r/\ş st Å/\yW R a b r) (N3 _) ⟨ş.refl st,m0,n1,P3 _,RC z1,by dsimp only;omega,by dsimp only;omega⟩ ?_ ?_) ?_)
 ·intro i c st1 hi;revert c;refine SA λr ia ib out mg h=> ?_
  refine .bind (Tm.mono (Tm.range (λj c Å=>Ĺ R a b st Å j (ia+ib) c.2.1 c.2.2.1 c.2.2.2.1)
   (Q:=λc Å=>HiO R a b st Å 1 (ia+ib) c.1 c.2.1 c.2.2.1 c.2.2.2.1) (N3 _) h.here ?_ ?_) ?_)
  ·intro j c Ĳ hj;revert c;refine SB λr ja jb out ac bc h=> ?_
   refine .bind (wJ t.ub h.b1 λy ey ly uy=> .elem ey (.bind (wJ t.ua h.a1 λx ex lx ux=> .elem ex (.bind (.lt ak (h.g.1.trans kd) uy ux (.if2 (c:=R y x=true) (λhb=> .bind (.elem ex ?_)) λhb=> .bind (.elem ey ?_)))))))
   ·have m1:=MH.pushA t h.m h.a h.a' h.b' lx (λz _ hz=>by rw [ly] at hz;injection hz with hz;rw [<-hz];exact hb);refine .eq2 (x:=ja-1) (y:=0) (λc1=> .pure ⟨h.g,MH.done t m1 (S6 h.a1) h.b' (.inl c1)⟩) λc1=> ?_
    have d:Ĺ R a b st Ĳ (j+1) (ia+ib) (ja-1) jb (out.push x):=⟨h.g,m1,S6 h.a1,h.b',RC c1,h.b,by have:j+ja+jb<=ia+ib:=h.n;have:1<=ja:=h.a;have:2<=jb:=h.b;omega⟩;exact .if2 (λ_=> .pure ⟨h.g,d.at h.g λ_=>by omega⟩) λ_=> .pure d
   ·have m1:=MH.pushB t h.m (S6 h.b) h.b' h.a' ly (λz _ hz=>by rw [lx] at hz;injection hz with hz;rw [<-hz];exact Z9.mpr hb);refine .eq2 (x:=jb-1) (y:=1) (λc1=> .pure ⟨h.g,MH.firstB t m1 h.a' c1 nb⟩) λc1=> ?_
    have d:Ĺ R a b st Ĳ (j+1) (ia+ib) ja (jb-1) (out.push y):=⟨h.g,m1,h.a',S6 h.b1,h.a,BQ h.b c1,by have:j+ja+jb<=ia+ib:=h.n;have:1<=ja:=h.a;have:2<=jb:=h.b;omega⟩;exact .if2 (λ_=> .pure ⟨h.g,d.at h.g λ_=>by omega⟩) λ_=> .pure d
  ·exact λc Ĳ h'=>h'.never h.le
  ·intro c Ĳ;revert c;refine SB λr ja jb out ac bc h'=> ?_
   cases r with
   |some r=>exact .pure ⟨r,rfl,h'⟩
   |none=>
   replace h':=h'.2
   refine .bind (.rule (.bind (Tm.mono (Tm.range (λj c Å=>Ĺ R a b st Å j (ja+jb) c.2.1 c.2.2.1 c.2.2.2.1)
    (Q:=λc Å=>HiO R a b st Å 0 (ja+jb) c.1 c.2.1 c.2.2.1 c.2.2.2.1) (N3 _) h'.here ?_ ?_) ?_)))
   ·clear h;intro j c Ĳ hj;revert c;refine SC λr pa pb out mg ac bc h=> ?_
    refine wJ t.ub h.b1 λy ey ly uy=> ?_
    refine Tm.both (y:=mg) (x:=mg-1) (by rfl) (by rfl) λmg=> ?_
    refine .bind (Tm.modify (.bind (.elem ey (.bind (Hf (n:=pa) ak (h.g.1.trans kd) t.o t.ua t.sa uy h.a' (fK h.a dM) λk k1 k2 k3=> ?_)))));dsimp only;generalize eac:pa-k=ac;refine Tm.join (I:=λna o=>MH R a b na pb o/\1<=na/\na<=pa/\ ∀z,a.toList[na-1]? =some z->R y z=false) (x:=pa) (z:=out) (by rfl) ?_ ?_ ?_
    ·refine λqa o i1=> ?_
     have la:=R6 i1.2.2.1 h.a';have M2:=MH.pushB t i1.1 (S6 h.b) h.b' la ly (λz _ hz=>i1.2.2.2 z hz);refine .bind (.elem ey (.eq2 (x:=pb-1) (y:=1) (λc3=> .pure ⟨h.g,MH.firstB t M2 la c3 nb⟩) λc3=> ?_));have c8:=BQ h.b c3;have lb:=S6 h.b1;have n1:j+pa+pb<=ja+jb:=h.n;have n2:pb=pb-1+1:=(Nat.sub_add_cancel (S6 h.b)).symm;refine .bind (wJ t.ua (T5 (fK i1.2.1 dM) la) λx ex lx ux=> .elem ex (.bind (Hg (n:=pb-1) ak (h.g.1.trans kd) t.o t.ub t.sb ux lb (fK (W9 c8) dM) λk' q1 q2 q3=> ?_)));dsimp only;dsimp only at c8 lb;generalize ep:pb-1=p2 at M2 q1 q2 q3 c8 lb n2 ⊢;generalize eo:o.push y=o2 at M2 ⊢;generalize ebc:p2-k'=bc;refine Tm.join (I:=λnb o=>MH R a b qa nb o/\2<=nb/\nb<=p2/\ ∀z,b.toList[nb-1]? =some z->R z x=true) (x:=p2) (z:=o2) (by rfl) ?_ ?_ ?_
     ·refine λqb o i2=> ?_
      have lb':=R6 i2.2.2.1 lb;have M4:=MH.pushA t i2.1 i1.2.1 la lb' lx (λz _ hz=>i2.2.2.2 z hz);have la':=R6 (G0h qa 1) la;refine .bind (.elem ex (.eq2 (x:=qa-1) (y:=0) (λc5=> .pure ⟨h.g,MH.done t M4 la' lb' (.inl c5)⟩) λc5=> ?_));have n3:j+1+(qa-1)+qb<=ja+jb:=by have:=i1.2.1;have:=i1.2.2.1;have:=i2.2.2.1;omega
      have d:Ĺ R a b st Ĳ (j+1) (ja+jb) (qa-1) qb (o.push x):=⟨h.g,M4,la',lb',RC c5,i2.2.1,n3⟩;exact .if2 (λ_=> .pure ⟨h.g,d.at h.g λ_=>by omega⟩) λ_=> .pure (d.at h.g id)
     ·intro kz' H;have M3:=MH.manyB t M2 k' q1 lb la (λi hi1 hi2 y' hy z hz1 hz=>by rw [lx] at hz;injection hz with hz;rw [<-hz];exact q3 i hi1 hi2 y' hy);exact .eq2 (x:=k') (y:=1) (λc4=> .pure ⟨h.g,MH.firstB t M3 la c4 nb⟩) λc4=> .eq2 (x:=k') (y:=0) (λc7=> .pure ⟨h.g,MH.done t M3 la (R6 q1 lb) (.inr c7)⟩) λc7=>H _ _ ⟨M3,by omega,q1,λz hz=>q2 (k'-1) (fK (fL c7) dM) z hz⟩
     ·exact λkz'=>⟨M2,c8,P3 _,λz hz=>q2 (p2-1) (by omega) z hz⟩
    ·intro kz H;have m1:=MH.manyA t h.m k k1 h.a' h.b' (λi hi1 hi2 x hx z hz1 hz=>by rw [ly] at hz;injection hz with hz;rw [<-hz];exact k3 i hi1 hi2 x hx);exact .eq2 (x:=k) (y:=0) (λc1=> .pure ⟨h.g,MH.done t m1 (R6 k1 h.a') h.b' (.inl c1)⟩) λc1=>H _ _ ⟨m1,fL c1,k1,λz hz=>k2 (k-1) (fK (fL c1) dM) z hz⟩
    ·exact λkz=>⟨h.m,h.a,P3 _,λz hz=>k2 (pa-1) (by have:1<=pa:=h.a;omega) z hz⟩
   ·exact λc st3 h=>h.never h'.le
   ·intro c st3;revert c;refine SC λr pa pb out mg ac bc h3=> ?_
    cases r with
    |some r=>exact .pure ⟨r,rfl,h3⟩
    |none=>exact .bind (Tm.modify (.pure (h3.2.at h3.1 λl=>by have n1:i+1+ia+ib<=a.size+b.size:=h.n;have n2:1+ja+jb<=ia+ib:=h'.n;dsimp only at l ⊢;omega)))
 ·exact λc st1 h=>h.never (Y0 _ _)
 ·intro c st1;revert c;refine SA λr ia ib out mg h=> ?_
  obtain⟨c,rfl,gl,wh⟩:=h;exact .pure (q c st1 gl wh)
end
section
variable {prog:S8}{w:B0}{A:T8}{E:G1->G3->Prop}{J:G3->Prop}{κ:SortKind}{U:D6->Prop}{R:D6->D6->M7}
def Ø (l:G0 D6)(p n:G5):G0 D6:=(l.drop p).take n
variable {n:G5}
def Yr {l:G0 D6}{p i:G5}(hi:i<n):(Ø l p n)[i]? =l[p+i]? :=by
 unfold Ø;rw [Y4 hi,X9]
def Wl {l:G0 D6}{p:G5}(h:p+n<=l.length):(Ø l p n).length=n:=by
 unfold Ø;rw [N0,C5];omega
def Xv {l:G0 D6}{p:G5}{x:D6}(h:x∈Ø l p n):x∈l:=A4 (E9 h)
def Kh {left:M7}{arr:T6 D6}{y:D6}{base hint:G5}{st:F4}{Q:P5 G5->F4->Prop}(ak:Vf prog w A J κ U R)(kd:kindOf st=κ)(o:Ó U R)(u: ∀x∈arr.toList,U x)(s:Ô R (Ø arr.toList base n))(uy:U y)(hn:base+n<=arr.size)(hh:hint<n)
 (q: ∀k,k<=n->(∀x∈(Ø arr.toList base n).take k,(if left=true then R x y else !R y x)=true)->(∀x∈(Ø arr.toList base n).drop k,(if left=true then R x y else !R y x)=false)->Q (some k) st):Tm prog w A E J (gal left y arr base n hint) Q st:=by
 have ln:arr.toList.length=arr.size:=by simp
 have sl:(Ø arr.toList base n).length=n:=Wl (by omega);have us: ∀x∈Ø arr.toList base n,U x:=λx hx=>u x (Xv hx)
 refine Ry ak kd uy (λi hi=> ?_) (λi j hij hj h=> ?_) hh (λk k1 k2 k3=>q k k1 (λx hx=> ?_) (λx hx=> ?_))
 ·obtain⟨x,lx,ex⟩:=Wk (show base+i<arr.size by omega);exact⟨x,ex,u x (P9 lx)⟩
 ·obtain⟨x,lx,_⟩:=Wk (show base+i<arr.size by omega);obtain⟨z,lz,_⟩:=Wk (show base+j<arr.size by omega);have ux:=u x (P9 lx);have uz:=u z (P9 lz);have le:=Wj s o us hij (by rw [Yr (by omega)];exact lx) (by rw [Yr hj];exact lz);rw [yi lz] at h;rw [yi lx];cases left with
  |true=>
   have hz:R z y=true:=by simpa using h
   rcases o.neg z x y uz ux uy hz with v|v
   ·rw [le] at v;cases v
   ·simp [v]
  |false=>
   have hz:R y z=false:=by simpa using h
   have:=o.trans ux uz uy le hz;simp [this]
 ·obtain⟨i,hi,e⟩:=X3 hx;rw [N0,sl] at hi;have lx:arr.toList[base+i]? =some x:=by
   rw [<-Yr (n:=n) (by omega),G8 (by omega),<-e,qQ]
  have:=k2 i (by omega);rw [yi lx] at this;exact this
 ·obtain⟨i,hi,e⟩:=X3 hx;rw [C5,sl] at hi;have lx:arr.toList[base+(k+i)]? =some x:=by
   rw [<-Yr (n:=n) (by omega),G8 (by omega),<-e,qR]
  have:=k3 (k+i) (by omega) (by omega);rw [yi lx] at this;exact this
theorem Qy: ∀ (m:G0 D6) (arr:T6 D6) (p d:G5),p+d+m.length<=arr.size->((m.zipIdx d).foldl (λ(c:T6 D6) (x:D6×G5)=>c.setIfInBounds (p+x.2) x.1) arr).toList=arr.toList.take (p+d)++m++arr.toList.drop (p+d+m.length)
 | [],arr,p,d,_=>by simp
 |x::m,arr,p,d,h=>by
  rw [R1] at h;rw [List.zipIdx_cons,iJ];rw [Qy m _ p (d+1) (by rw [e7];omega)];have hl:arr.toList.length=arr.size:=by simp
  rw [kW];have e1:(arr.toList.set (p+d) x).take (p+(d+1))=arr.toList.take (p+d)++ [x]:=by
   rw [show p+(d+1)=p+d+1 by omega,E7,aH (by omega)];rw [List.take_set_of_le (P3 _)];rfl
  have e2:(arr.toList.set (p+d) x).drop (p+(d+1)+m.length)=arr.toList.drop (p+d+(m.length+1)):=by
   rw [List.drop_set_of_lt (by omega),show p+(d+1)+m.length=p+d+(m.length+1) by omega]
  rw [e1,e2,R1];simp [D4]
end
section
variable {prog:S8}{w:B0}{A:T8}{E:G1->G3->Prop}{J:G3->Prop}{κ:SortKind}{U:D6->Prop}{R:D6->D6->M7}
def Tm.set {σ:Type}{st Å:σ}{Q:PUnit->σ->Prop}(q:Q ⟨⟩ Å):Tm prog w A E J (MonadStateOf.set Å:Z4 σ Sem PUnit) Q st:=λs j=>by
 show R0 _ _ ((StateT.set Å:Z4 σ Sem PUnit).run st) _ _ _;exact P2 ⟨q,j⟩
def RD (a:T6 D6){p n:G5}(h:p<=n):(a.extract p n).toList=Ø a.toList p (n-p):=by
 rw [bX,V0];rfl
def RE (o:Ó U R){l:G0 D6}(u: ∀x∈l,U x)(s:Ô R l){z:D6}(hz:l[l.length-1]? =some z){x:D6}(hx:x∈l):R z x=false:=by
 obtain⟨i,hi,e⟩:=X3 hx;exact Wj s o u (show i<=l.length-1 by omega) (by rw [G8 hi,e]) hz
def Qz (o:Ó U R){l:G0 D6}(u: ∀x∈l,U x)(s:Ô R l){z:D6}(hz:l[0]? =some z){x:D6}(hx:x∈l):R x z=false:=by
 obtain⟨i,hi,e⟩:=X3 hx;exact Wj s o u (N3 _) hz (by rw [G8 hi,e])
def Wm (o:Ó U R){X Y c:G0 D6}{k k2:G5}{y0 x9:D6}(uX: ∀x∈X,U x)(uY: ∀x∈Y,U x)(sX:Ô R X)(sY:Ô R Y)(hy:Y[0]? =some y0)(hx:X[X.length-1]? =some x9)
 (f1: ∀x∈X.take k,R y0 x=false)(g2: ∀y∈Y.drop k2,R y x9=false)(hp:c.Perm (X.drop k++Y.take k2))(sc:Ô R c):(X.take k++c++Y.drop k2).Perm (X++Y)/\Ô R (X.take k++c++Y.drop k2):=by
 have uy0:=uY y0 (P9 hy);have ux9:=uX x9 (P9 hx);constructor
 ·have e:X++Y=X.take k++(X.drop k++Y.take k2)++Y.drop k2:=by
   rw [<-D4,N6,D4,N6]
  rw [e];exact(hp.append_left _).append_right _
 ·have inX: ∀x∈X.take k,∀z∈X.drop k,R z x=false:=λx hx z hz=>by
   have:Ô R (X.take k++X.drop k):=by rw [N6];exact sX
   exact(B3.mp this).2.2 x hx z hz
  have inY: ∀x∈Y.take k2,∀z∈Y.drop k2,R z x=false:=λx hx z hz=>by
   have:Ô R (Y.take k2++Y.drop k2):=by rw [N6];exact sY
   exact(B3.mp this).2.2 x hx z hz
  have xy: ∀x∈X.take k,∀y∈Y,R y x=false:=λx hx y Ο=>o.trans (uX x (E9 hx)) uy0 (uY y Ο) (f1 x hx) (Qz o uY sY hy Ο)
  have yx: ∀x∈X,∀y∈Y.drop k2,R y x=false:=λx Ÿ y Ο=>o.trans (uX x Ÿ) ux9 (uY y (A4 Ο)) (RE o uX sX hx Ÿ) (g2 y Ο)
  have xc: ∀x∈X.take k,∀z∈c,R z x=false:=λx hx z hz=>by
   rcases R4.mp (hp.mem_iff.mp hz) with v|v
   ·exact inX x hx z v
   ·exact xy x hx z (E9 v)
  refine B3.mpr ⟨B3.mpr ⟨sX.sublist (W1 _ _),sc,xc⟩,sY.sublist (V4 _ _),λx hx y hy=> ?_⟩;rcases R4.mp hx with v|v
  ·exact xy x v y (A4 hy)
  ·rcases R4.mp (hp.mem_iff.mp v) with v|v
   ·exact yx x (A4 v) y hy
   ·exact inY x v y hy
def Ur (l:G0 D6){p n m:G5}:l=l.take p++(Ø l p n++Ø l (p+n) m)++l.drop (p+n+m):=by
 unfold Ø;have e1:(l.drop (p+n)).take m++l.drop (p+n+m)=l.drop (p+n):=by
  rw [show l.drop (p+n+m)=(l.drop (p+n)).drop m by rw [aY],N6]
 have e2:(l.drop p).take n++l.drop (p+n)=l.drop p:=by
  rw [show l.drop (p+n)=(l.drop p).drop n by rw [aY],N6]
 rw [D4,D4,e1,e2,N6]
def EI {st:F4}{Q:M7->F4->Prop}{i sa na pw sb nb pw2:G5}(ak:Vf prog w A J κ U R)(kd:kindOf st=κ)(o:Ó U R)(u: ∀x∈(M5 st).toList,U x)(p1:(C0 st)[i]? =some (sa,na,pw))(p2:(C0 st)[i+1]? =some (sb,nb,pw2))
 (hs:sa+na=sb)(n1:1<=na)(n2:1<=nb)(hz:sb+nb<=(M5 st).size)(s1:Ô R (Ø (M5 st).toList sa na))(s2:Ô R (Ø (M5 st).toList sb nb))(hf:bW st=none)
 (q: ∀Å Z,kindOf Å=κ->bW Å=none->C0 Å=((C0 st).setIfInBounds i (sa,na+nb,pw)).eraseIdxIfInBounds (i+1)->(M5 Å).toList=(M5 st).toList.take sa++Z++(M5 st).toList.drop (sb+nb)->Z.Perm (Ø (M5 st).toList sa na++Ø (M5 st).toList sb nb)->Ô R Z->Q true Å):
 Tm prog w A E J (IB i) Q st:=by
 have ln:(M5 st).toList.length=(M5 st).size:=by simp
 unfold IB;refine .bind (.get ?_);dsimp only;rw [p1,p2];dsimp only;refine .bind (Tm.set ?_);subst hs;have lX:(Ø (M5 st).toList sa na).length=na:=Wl (by omega);have lY:(Ø (M5 st).toList (sa+na) nb).length=nb:=Wl (by omega);have uX: ∀x∈Ø (M5 st).toList sa na,U x:=λx hx=>u x (Xv hx)
 have uY: ∀x∈Ø (M5 st).toList (sa+na) nb,U x:=λx hx=>u x (Xv hx)
 obtain⟨y0,ly0,ey0⟩:=Wk (arr:=M5 st) (show sa+na<(M5 st).size by omega);obtain⟨x9,lx9,ex9⟩:=Wk (arr:=M5 st) (show sa+(na-1)<(M5 st).size by omega);have hy:(Ø (M5 st).toList (sa+na) nb)[0]? =some y0:=by rw [Yr (by omega)];exact ly0
 have hx:(Ø (M5 st).toList sa na)[(Ø (M5 st).toList sa na).length-1]? =some x9:=by rw [lX,Yr (by omega)];exact lx9
 have uy0:=u y0 (P9 ly0);have ux9:=u x9 (P9 lx9);have c3:=Ur (M5 st).toList (p:=sa) (n:=na) (m:=nb);have same: ∀ (Å:F4),M5 Å=M5 st-> ∀k k2,(∀x∈(Ø (M5 st).toList sa na).take k,R y0 x=false)->(∀y∈(Ø (M5 st).toList (sa+na) nb).drop k2,R y x9=false)->(na<=k\/k2=0)->Ô R (Ø (M5 st).toList sa na++Ø (M5 st).toList (sa+na) nb):=λÅ e k k2 f1 g2 h=>by
  have pl:(((Ø (M5 st).toList sa na).drop k++(Ø (M5 st).toList (sa+na) nb).take k2)).Perm ((Ø (M5 st).toList sa na).drop k++(Ø (M5 st).toList (sa+na) nb).take k2):= .refl _;have sc:Ô R ((Ø (M5 st).toList sa na).drop k++(Ø (M5 st).toList (sa+na) nb).take k2):=by
   rcases h with h|h
   ·rw [E8 (by omega),O2];exact s2.sublist (W1 _ _)
   ·rw [h,dL,O9];exact s1.sublist (V4 _ _)
  have:=(Wm o uX uY s1 s2 hy hx f1 g2 pl sc).2;rw [<-D4,N6,D4,N6] at this;exact this
 refine .bind (.elem ey0 (.bind (Kh (left:=false) ak kd o u s1 uy0 (show sa+na<=(M5 st).size by omega) (by omega) λk k1 f1 f2=> ?_)));have f1: ∀x∈(Ø (M5 st).toList sa na).take k,R y0 x=false:=λx hx=>by simpa using f1 x hx
 have f2: ∀x∈(Ø (M5 st).toList sa na).drop k,R y0 x=true:=λx hx=>by simpa using f2 x hx
 dsimp only
 by_cases z1:na-k=0
 ·rw [R8 (by simpa using z1)];refine .pure (q _ (Ø (M5 st).toList sa na++Ø (M5 st).toList (sa+na) nb) kd hf rfl c3 (.refl _) (same st rfl k nb f1 (λy hy=> ?_) (.inl (by omega))));rw [E8 (by omega)] at hy;cases hy
 rw [R9 (by simpa using z1)];refine .bind (.elem (show _=some x9 by rw [show sa+k+(na-k)-1=sa+(na-1) by omega];exact ex9) (.bind (Kh (left:=true) ak kd o u s2 ux9 (show sa+na+nb<=(M5 st).size by omega) (by omega) λk2 j1 g1 g2=> ?_)));have g1: ∀y∈(Ø (M5 st).toList (sa+na) nb).take k2,R y x9=true:=λx hx=>by simpa using g1 x hx
 have g2: ∀y∈(Ø (M5 st).toList (sa+na) nb).drop k2,R y x9=false:=λx hx=>by simpa using g2 x hx
 dsimp only
 by_cases z2:k2=0
 ·rw [R8 (by simpa using z2)];exact .pure (q _ _ kd hf rfl c3 (.refl _) (same st rfl k k2 f1 g2 (.inr z2)))
 rw [R9 (by simpa using z2)];have eX:((M5 st).extract (sa+k) (sa+na)).toList=(Ø (M5 st).toList sa na).drop k:=by
  rw [RD _ (by omega)];unfold Ø;rw [n9,aY,show sa+na-(sa+k)=na-k by omega]
 have eY:((M5 st).extract (sa+na) (sa+na+k2)).toList=(Ø (M5 st).toList (sa+na) nb).take k2:=by
  rw [RD _ (by omega)];unfold Ø;rw [oA,show sa+na+k2-(sa+na)=min k2 nb by omega]
 have sx:((M5 st).extract (sa+k) (sa+na)).size=na-k:=by rw [<-D8,eX,C5,lX]
 have sy:((M5 st).extract (sa+na) (sa+na+k2)).size=k2:=by rw [<-D8,eY,N0,lY];omega
 have hx2: ∀z,((Ø (M5 st).toList sa na).drop k)[((Ø (M5 st).toList sa na).drop k).length-1]? =some z->z=x9:=λz ġ=>by
  rw [C5,X9,lX,show k+(na-k-1)=na-1 by omega] at ġ;rw [lX] at hx;rw [hx] at ġ;injection ġ with ġ;exact ġ.symm
 have hy2: ∀z,((Ø (M5 st).toList (sa+na) nb).take k2)[0]? =some z->z=y0:=λz ġ=>by
  rw [Y4 (by omega),hy] at ġ;injection ġ with ġ;exact ġ.symm
 have put: ∀c:T6 D6,yW R ((M5 st).extract (sa+k) (sa+na)) ((M5 st).extract (sa+na) (sa+na+k2)) c->(c.toList.zipIdx.foldl (λ(d:T6 D6) (x:D6×G5)=>d.setIfInBounds (sa+k+x.2) x.1) (M5 st)).toList=(M5 st).toList.take sa++((Ø (M5 st).toList sa na).take k++c.toList++(Ø (M5 st).toList (sa+na) nb).drop k2)++(M5 st).toList.drop (sa+na+nb):=λc wh=>by
  have lc:c.toList.length=na-k+k2:=by
   rw [wh.1.length_eq,D0,D8,D8,sx,sy]
  have:=Qy c.toList (M5 st) (sa+k) 0 (by omega);rw [this,lc,Y6,show sa+k+(na-k+k2)=sa+na+k2 by omega];have e1:(M5 st).toList.take (sa+k)=(M5 st).toList.take sa++(Ø (M5 st).toList sa na).take k:=by
   unfold Ø;rw [oA,aD k1,List.take_add]
  have e2:(M5 st).toList.drop (sa+na+k2)=(Ø (M5 st).toList (sa+na) nb).drop k2++(M5 st).toList.drop (sa+na+nb):=by
   unfold Ø;have h1:((M5 st).toList.drop (sa+na)).drop k2=(((M5 st).toList.drop (sa+na)).take nb++((M5 st).toList.drop (sa+na)).drop nb).drop k2:=by rw [N6]
   rw [Z5 (by rw [N0,C5];omega),aY,aY] at h1;exact h1
  rw [e1,e2];simp [D4]
 have jr: ∀c:T6 D6,yW R ((M5 st).extract (sa+k) (sa+na)) ((M5 st).extract (sa+na) (sa+na+k2)) c->_:=λc wh=>Wm o (c:=c.toList) uX uY s1 s2 hy hx f1 g2 (by have:=wh.1;rw [eX,eY] at this;exact this) wh.2
 by_cases z3:na-k<=k2
 ·rw [R8 z3];refine .bind (EG ak kd ⟨o,λx hx=> ?_,λx hx=> ?_,?_,?_,λy hy z ġ=> ?_⟩ (by rw [sx];omega) (by rw [sy];omega) (λy z Ο ġ=> ?_) λc Å gl wh=> .bind (Tm.modify (.bind (.get (.pure ?_)))))
  ·rw [eX] at hx;exact uX x (A4 hx)
  ·rw [eY] at hx;exact uY x (E9 hx)
  ·rw [eX];exact s1.sublist (V4 _ _)
  ·rw [eY];exact s2.sublist (W1 _ _)
  ·rw [eY] at hy;rw [eX] at ġ;rw [hx2 z ġ];exact g1 y hy
  ·rw [eY] at Ο;rw [eX] at ġ;rw [hy2 y Ο];exact f2 z (P9 ġ)
  ·have e:bW Å=none:=gl.2.2.2.trans hf;show Q (bW Å).isNone _;rw [e];refine q _ _ (gl.1.trans kd) e gl.2.2.1 ?_ (jr c wh).1 (jr c wh).2;have ea:M5 Å=M5 st:=gl.2.1;show (c.toList.zipIdx.foldl _ (M5 Å)).toList=_;rw [ea];exact put c wh
 ·rw [R9 z3];refine .bind (EH ak kd ⟨o,λx hx=> ?_,λx hx=> ?_,?_,?_,λz ġ y Ο=> ?_⟩ (by rw [sx];omega) (by rw [sy];omega) (λy z Ο ġ=> ?_) λc Å gl wh=> .bind (Tm.modify (.bind (.get (.pure ?_)))))
  ·rw [eX] at hx;exact uX x (A4 hx)
  ·rw [eY] at hx;exact uY x (E9 hx)
  ·rw [eX];exact s1.sublist (V4 _ _)
  ·rw [eY];exact s2.sublist (W1 _ _)
  ·rw [eY] at Ο;rw [eX] at ġ;rw [hy2 y Ο];exact f2 z ġ
  ·rw [eY] at Ο;rw [eX,sx] at ġ;have:=hx2 z (by rw [C5,lX];exact ġ);rw [this];exact g1 y (P9 Ο)
  ·have e:bW Å=none:=gl.2.2.2.trans hf;show Q (bW Å).isNone _;rw [e];refine q _ _ (gl.1.trans kd) e gl.2.2.1 ?_ (jr c wh).1 (jr c wh).2;have ea:M5 Å=M5 st:=gl.2.1;show (c.toList.zipIdx.foldl _ (M5 Å)).toList=_;rw [ea];exact put c wh
end
section
variable {prog:S8}{w:B0}{A:T8}{E:G1->G3->Prop}{J:G3->Prop}{κ:SortKind}{U:D6->Prop}{R:D6->D6->M7}
def Ü (st:F4)(P Z S:G0 D6):Prop:=(M5 st).toList=P++Z++S
def ū (st Å:F4):Prop:=kindOf Å=kindOf st/\C0 Å=C0 st/\bW Å=bW st/\gallopOf Å=gallopOf st
def ū.refl (st:F4):ū st st:=⟨rfl,rfl,rfl,rfl⟩
def NG (xs:T6 D6)(P Z S:G0 D6)(h:xs.toList=P++Z++S):(mirror xs P.length (P.length+Z.length) ((P.length+Z.length-P.length) / 2)).toList=P++Z.reverse++S:=by
 have hl:xs.size=P.length+Z.length+S.length:=by rw [<-D8,h];simp [e8]
 refine cY λk=> ?_
 rw [N7,getElem?_mirror_all (by omega)]
 by_cases c:P.length<=k/\k<P.length+Z.length
 ·rw [R8 c,<-N7,h,D4,D4];have e1:(P++(Z++S))[P.length+(P.length+Z.length)-1-k]? =Z[P.length+Z.length-1-k]? :=by
   rw [N5 (by omega),B7 (by omega)]
   congr 1;omega
  have e2:(P++(Z.reverse++S))[k]? =Z[P.length+Z.length-1-k]? :=by
   rw [N5 (by omega),B7 (by rw [F9];omega),cX (by omega)]
   congr 1;omega
  rw [e1,e2]
 ·rw [R9 c,<-N7,h,D4,D4]
  by_cases d:k<P.length
  ·rw [B7 d,B7 d]
  ·have e1:(P++(Z++S))[k]? =S[k-P.length-Z.length]? :=by
    rw [N5 (by omega),N5 (by omega)]
   have e2:(P++(Z.reverse++S))[k]? =S[k-P.length-Z.length]? :=by
    rw [N5 (by omega),N5 (by rw [F9];omega),F9]
   rw [e1,e2]
def Tm.rev {st:F4}{P Z S:G0 D6}{i j:G5}{Q:Unit->F4->Prop}(h:Ü st P Z S)(hi:i=P.length)(hj:j=P.length+Z.length)(q: ∀Å,ū st Å->Ü Å P Z.reverse S->Q () Å):Tm prog w A E J (u6 i j) Q st:=by
 rw [reverseSlice'_eq];subst hi hj;exact .modify (q _ ⟨rfl,rfl,rfl,rfl⟩ (NG _ P Z S h))
def Tm.ltAt {st:F4}{x y:D6}{i j:G5}{Q:P5 M7->F4->Prop}(ak:Vf prog w A J κ U R)(kd:kindOf st=κ)(hx:(M5 st).toList[i]? =some x)(hy:(M5 st).toList[j]? =some y)(ux:U x)(uy:U y)(q:Q (some (R x y)) st):Tm prog w A E J (ltAt' i j) Q st:=by
 rw [ltAt'_eq];exact .bind (.get (.bind (.elem (by rw [<-N7];exact hx) (.bind (.elem (by rw [<-N7];exact hy) (.lt ak kd ux uy q))))))
abbrev Dsc (R:D6->D6->M7)(l:G0 D6):Prop:=l.Pairwise λx y=>R x y=false
def Ld {l:G0 D6}(d:Dsc R l):Ô R l.reverse:=gP.mpr d
def NH (o:Ó U R){l:G0 D6}{x y:D6}(u: ∀z∈l++ [x],U z)(uy:U y)(s:Ô R (l++ [x]))(h:R y x=false):Ô R (l++ [x]++ [y]):=by
 refine B3.mpr ⟨s,O3 _ _,λz hz v hv=> ?_⟩;rw [P0.mp hv];have ux:=u x (by simp);rcases R4.mp hz with w|w
 ·exact o.trans (u z hz) ux uy ((B3.mp s).2.2 z w x (by simp)) h
 ·rw [P0.mp w];exact h
def NI {l m:G0 D6}(s:Dsc R (l++m))(alike: ∀x∈m,∀y∈m,R x y=false):Dsc R (l++m.reverse):=by
 obtain⟨a,b,c⟩:=B3.mp s;refine B3.mpr ⟨a,?_,λx hx y hy=>c x hx y (K4.mp hy)⟩;rw [A1];intro i j hi hj _;exact alike _ (K4.mp (L0 hi)) _ (K4.mp (L0 hj))
end
section
variable {prog:S8}{w:B0}{A:T8}{E:G1->G3->Prop}{J:G3->Prop}{κ:SortKind}{U:D6->Prop}{R:D6->D6->M7}
def ū.trans {a b c:F4}(x:ū a b)(y:ū b c):ū a c:=⟨y.1.trans x.1,y.2.1.trans x.2.1,y.2.2.1.trans x.2.2.1,y.2.2.2.trans x.2.2.2⟩
variable {P Z:G0 D6}
def Ü.rest {st:F4}{S:G0 D6}(h:Ü st P Z S){i:G5}:(M5 st).toList[P.length+Z.length+i]? =S[i]? :=by
 rw [h,N5 (by rw [D0];omega),D0]
 congr 1;omega
def Ü.end {st:F4}{W S:G0 D6}{x:D6}(h:Ü st P (W++ [x]) S):(M5 st).toList[P.length+W.length]? =some x:=by
 rw [h,D4,N5 (by omega),D4,N5 (by omega)];simp
def Ys {l:G0 D6}(h:1<=l.length): ∃W x,l=W++ [x]:=by
 rcases List.eq_nil_or_concat l with e|⟨W,x,e⟩
 ·subst e;simp at h
 ·exact⟨W,x,by rw [e,List.concat_eq_append]⟩
structure ą (R:D6->D6->M7)(T Z1 Z2:G0 D6)(n:G5):Prop where
 len:(Z1++Z2).length=n
 perm:(Z1++Z2).Perm (T.take n)
 dsc:Dsc R (Z1++Z2)
 alike: ∀x∈Z2,∀y∈Z2,R x y=false
 ne:1<=Z2.length
variable {T:G0 D6}{n:G5}
def ą.turn {Z1 Z2:G0 D6}(f:ą R T Z1 Z2 n):ą R T Z1 Z2.reverse n:=
 ⟨by have:=f.len;simp only [D0,F9] at this ⊢;exact this,((X0 Z2).append_left Z1).trans f.perm,NI f.dsc f.alike,λx hx y hy=>f.alike x (K4.mp hx) y (K4.mp hy),by rw [F9];exact f.ne⟩
def ą.mem {Z1 Z2:G0 D6}(f:ą R T Z1 Z2 n){x:D6}(h:x∈Z1++Z2):x∈T:=E9 (f.perm.mem_iff.mp h)
def Je {y:D6}(h:Z.Perm (T.take n))(hy:T[n]? =some y):(Z++ [y]).Perm (T.take (n+1)):=by
 rw [Wi hy];exact h.append_right _
def ą.below (o:Ó U R){T Z1 Z2:G0 D6}{n:G5}{x y:D6}(u: ∀x∈T,U x)(f:ą R T Z1 Z2 n)(hx:x∈Z2)(hy:T[n]? =some y)(h:R y x=true):ą R T (Z1++Z2) [y] (n+1):=by
 have uy:=u y (P9 hy);have ux:=u x (f.mem (R4.mpr (.inr hx)));have xy:=o.asym y x uy ux h;refine⟨by rw [D0,f.len];rfl,Je f.perm hy,?_,λa ha b hb=> ?_,by simp⟩
 ·refine B3.mpr ⟨f.dsc,O3 _ _,λz hz v hv=> ?_⟩;rw [P0.mp hv];have uz:=u z (f.mem hz);have zx:R z x=false:=by
   rcases R4.mp hz with w|w
   ·exact(B3.mp f.dsc).2.2 z w x hx
   ·exact f.alike z w x hx
  exact o.trans uy ux uz xy zx
 ·rw [P0.mp ha,P0.mp hb];exact o.refl uy
def ą.like (o:Ó U R){T Z1 Z2:G0 D6}{n:G5}{x y:D6}(u: ∀x∈T,U x)(f:ą R T Z1 Z2 n)(hx:x∈Z2)(hy:T[n]? =some y)(h:R y x=false)(h':R x y=false):ą R T Z1 (Z2++ [y]) (n+1):=by
 have uy:=u y (P9 hy);have ux:=u x (f.mem (R4.mpr (.inr hx)));have zy: ∀z∈Z1++Z2,R z y=false:=λz hz=>by
  have uz:=u z (f.mem hz);have zx:R z x=false:=by
   rcases R4.mp hz with w|w
   ·exact(B3.mp f.dsc).2.2 z w x hx
   ·exact f.alike z w x hx
  exact o.trans uy ux uz h' zx
 have yz: ∀z∈Z2,R y z=false:=λz hz=>o.trans (u z (f.mem (R4.mpr (.inr hz)))) ux uy (f.alike x hx z hz) h
 refine⟨by rw [<-D4,D0,f.len];rfl,by rw [<-D4];exact Je f.perm hy,?_,λa ha b hb=> ?_,by simp⟩
 ·rw [<-D4];refine B3.mpr ⟨f.dsc,O3 _ _,λz hz v hv=> ?_⟩;rw [P0.mp hv];exact zy z hz
 ·rcases R4.mp ha with p|p<;>rcases R4.mp hb with r|r
  ·exact f.alike a p b r
  ·rw [P0.mp r];exact zy a (R4.mpr (.inr p))
  ·rw [P0.mp p];exact yz b r
  ·rw [P0.mp p,P0.mp r];exact o.refl uy
def Ü.more {st:F4}{m:G5}{y:D6}(L:Ü st P Z (T.drop m))(hy:T[m]? =some y):Ü st P (Z++ [y]) (T.drop (m+1)):=by
 unfold Ü at L ⊢;rw [L,zd hy];simp
def Ü.part {st:F4}{Z1 Z2 S:G0 D6}:Ü st P (Z1++Z2) S↔Ü st (P++Z1) Z2 S:=by
 unfold Ü;simp only [D4]
def Ü.two {st:F4}{m:G5}{y:D6}(L:Ü st P Z (T.drop m))(lz:Z.length=m)(m1:1<=m)(hy:T[m]? =some y):(M5 st).toList[P.length+m]? =some y/\ ∃W x,Z=W++ [x]/\(M5 st).toList[P.length+m-1]? =some x:=by
 have a:=L.rest (i:=0);rw [X9,lz,Y6,Y6,hy] at a;obtain⟨W,x,e⟩:=Ys (l:=Z) (by omega);subst e;refine⟨a,W,x,rfl,?_⟩;rw [<-L.end]
 congr 1
 rw [D0,cV] at lz;omega
section
variable {σ ρ τ α:Type}{st:σ}
def Tm.rangeN {f:G5->P5 ρ×τ->Z4 σ Sem (fT (P5 ρ×τ))}(I:G5->τ->σ->Prop){Q:τ->σ->Prop}{Q':P5 ρ×τ->σ->Prop}{a b:G5}{c:τ}(hab:a<=b)(h:I a c st)(step: ∀i c st,i<b->I i c st->Tm prog w A E J (f i (none,c)) (λr Å=>match r with| .done c'=>c'.1=none/\Q c'.2 Å| .yield c'=>c'.1=none/\I (i+1) c'.2 Å) st)(fin: ∀c st,I b c st->Q c st)(q: ∀c st,Q c st->Q' (none,c) st):Tm prog w A E J (forIn [a:b] ((none:P5 ρ),c) f) Q' st:=by
 refine Tm.mono (Tm.range (λi c st=>c.1=none/\I i c.2 st) (Q:=λc st=>c.1=none/\Q c.2 st) hab ⟨rfl,h⟩ ?_ λc st h=>⟨h.1,fin _ _ h.2⟩) ?_
 ·rintro i ⟨_,c⟩ st hi ⟨rfl,h⟩;exact(step i c st hi h).mono λr Å x=>by cases r<;>exact x
 ·rintro ⟨_,c⟩ st ⟨rfl,h⟩;exact q c st h
def Tm.fork {c:Prop}[Decidable c]{t e:Z4 σ Sem α}{Q:α->σ->Prop}(I:σ->Prop)(G: ∀s,I s->Tm prog w A E J e Q s)(T:c->(∀s,I s->Tm prog w A E J e Q s)->Tm prog w A E J t Q st)(F: ¬c->I st):Tm prog w A E J (if c then t else e) Q st:=
 .if2 (λh=>T h G) λh=>G _ (F h)
end
section
variable {st:F4}{P T Z:G0 D6}{m:G5}
def RF {f:G5->P5 (P5 G5)×G5->Z4 F4 Sem (fT (P5 (P5 G5)×G5))}{G:G5->P5 M7->Z4 F4 Sem (fT (P5 (P5 G5)×G5))}{Q:P5 (P5 G5)×G5->F4->Prop}(ak:Vf prog w A J κ U R)(kd:kindOf st=κ)(o:Ó U R)(u: ∀x∈T,U x)
 (hf: ∀i n,f i (none,n)=ltAt' (P.length+n) (P.length+n-1) >>= G n)(hG: ∀n,G n (some true)=Pure.pure (.done (none,n))/\G n (some false)=Pure.pure (.yield (none,n+1)))
 (m1:1<=m)(m2:m<=T.length)(L:Ü st P Z (T.drop m))(p:Z.Perm (T.take m))(s:Ô R Z)
 (q: ∀n Z',1<=n->n<=T.length->Ü st P Z' (T.drop n)->Z'.Perm (T.take n)->Ô R Z'->(∀y,T[n]? =some y-> ∃W x,Z'=W++ [x]/\R y x=true)->Q (none,n) st):Tm prog w A E J (forIn [m:T.length] ((none:P5 (P5 G5)),m) f) Q st:=by
 refine Tm.rangeN (λi c s=>s=st/\c=i/\1<=i/\ ∃Z,Ü st P Z (T.drop i)/\Z.Perm (T.take i)/\Ô R Z) (Q:=λn s=>s=st/\Q (none,n) st) m2 ⟨rfl,rfl,m1,Z,L,p,s⟩ ?_ ?_ λc s h=>h.1 ▸ h.2
 ·rintro _ i _ hi ⟨rfl,rfl,i1,Z,L,p,s⟩;have hy:=G8 hi;obtain⟨ay,W,x,rfl,ax⟩:=L.two (by rw [p.length_eq,N0,aD (S6 hi)]) i1 hy;have uy:=u _ (L0 hi);have uZ: ∀z∈W++ [x],U z:=λz hz=>u z (E9 (p.mem_iff.mp hz))
  rw [hf];refine .bind (.ltAt ak kd ay ax uy (uZ x (by simp)) ?_);cases hb:R T[i] x with
  |true=>
   rw [(hG _).1];exact .pure ⟨rfl,rfl,q i _ i1 (S6 hi) L p s λy h=>⟨W,x,rfl,by rw [hy] at h;injection h with h;rw [<-h];exact hb⟩⟩
  |false=>
   rw [(hG _).2];exact .pure ⟨rfl,rfl,rfl,g7 (N3 _),_,L.more hy,Je p hy,NH o uZ uy s hb⟩
 ·rintro _ _ ⟨rfl,rfl,i1,Z,L,p,s⟩;exact⟨rfl,q _ Z i1 (P3 _) L p s λy h=>absurd (P6.mp h).1 (B1 _)⟩
end
def Ŭ (R:D6->D6->M7)(P T:G0 D6)(st Å:F4)(n k:G5):Prop:=ū st Å/\ ∃Z1 Z2,Ü Å P (Z1++Z2) (T.drop n)/\ą R T Z1 Z2 n/\Z2.length=k+1
def Ŭ.rev {st s2:F4}{k:G5}{Q:Unit->F4->Prop}(h:Ŭ R P T st s2 n k)(q: ∀s3,Ŭ R P T st s3 n k->Q () s3):Tm prog w A E J (u6 (P.length+n-(k+1)) (P.length+n)) Q s2:=by
 obtain⟨ar,Z1,Z2,L,F,l⟩:=h;have l12:=F.len;rw [D0] at l12;exact .rev (Ü.part.mp L) (by rw [D0];omega) (by rw [D0];omega) λs3 ar3 L3=>q s3 ⟨ar.trans ar3,Z1,_,Ü.part.mpr L3,F.turn,by rw [F9];exact l⟩
def NJ {st:F4}{Q:P5 G5->F4->Prop}(ak:Vf prog w A J κ U R)(kd:kindOf st=κ)(o:Ó U R)(u: ∀x∈T,U x)(h:Ü st P [] T)(h1:1<=T.length)
 (q: ∀n Å Z,1<=n->n<=T.length->ū st Å->Ü Å P Z (T.drop n)->Z.Perm (T.take n)->Ô R Z->Q (some n) Å):Tm prog w A E J (countRun' P.length T.length) Q st:=by
 refine .bind (RF (m:=1) (Z:=T.take 1) ak kd o u (by exact λi n=>rfl) (by exact λn=>⟨rfl,rfl⟩) (P3 _) h1 ?_ (.refl _) ?_ λn Z n1 n2 L p sr br=> ?_)
 ·unfold Ü at h ⊢;rw [h,O9,D4,N6]
 ·match T,h1 with
  |x::r,_=>exact O3 _ _
 refine .eq2 (x:=n) (y:=T.length) (λz1=> .pure (q n _ _ n1 n2 (ū.refl _) L p sr)) λz1=> ?_
 have n3:n<T.length:=K7 n2 z1;have hy:=G8 n3;have uZ: ∀z∈Z,U z:=λz hz=>u z (E9 (p.mem_iff.mp hz))
 obtain⟨W,x,e,yx⟩:=br _ hy;have lz:Z.length=n:=by rw [p.length_eq,N0,aD n2]
 have xin:x∈Z:=by rw [e];simp
 have xl:Z[Z.length-1]? =some x:=by rw [e];simp
 have F0:(∀p∈Z,∀r∈Z,R p r=false)->ą R T [] Z n:=λal=>⟨lz,p,A1.mpr λi j hi hj _=>al _ (L0 hi) _ (L0 hj),al,by rw [lz];exact n1⟩
 refine Tm.fork (λs=>Ŭ R P T st s (n+1) 0) ?_ ?_ ?_
 ·intro s1 F1;refine .bind (.rule (.bind (Tm.rangeN (λi c s=>c.1=i/\Ŭ R P T st s c.1 c.2) (Q:=λc s=>c.1<=T.length/\Ŭ R P T st s c.1 c.2) n3 ⟨rfl,F1⟩ ?_ (λc s h=>⟨aM h.1,h.2⟩) ?_)))
  ·intro i c s2 hi h2;have hc:c.1<T.length:=by rw [h2.1];exact hi
   have hy:=G8 hc;have uy:=u _ (L0 hc);obtain⟨e1,ar2,Z1,Z2,L2,F2,l2⟩:=h2;have l12:=F2.len;obtain⟨ay,W,x,eW,ax⟩:=L2.two l12 (by rw [<-l12,D0,l2];exact cU _ _) hy;have xin:x∈Z2:=by
    obtain⟨V,v,e⟩:=Ys F2.ne;have e':=congrArg List.getLast? eW;rw [e,<-D4,oB,oB] at e';injection e' with e'
    rw [e,<-e'];simp
   have ux:=u x (F2.mem (R4.mpr (.inr xin)));refine .bind (.ltAt ak (ar2.1.trans kd) ay ax uy ux (.if2 (c:=R _ x=true) (λhb=> ?_) λhb=> .bind (.ltAt ak (ar2.1.trans kd) ax ay ux uy (.if2 (c:=R x _=true) (λĻ=> .pure ⟨rfl,S6 hc,ar2,Z1,Z2,L2,F2,l2⟩) λĻ=> ?_))))
   ·refine Tm.fork (λs=>Ŭ R P T st s (c.1+1) 0) (λs h=> .pure ⟨rfl,congrArg G0P e1,h⟩) (λzq H=> .bind ?_) λzq=>⟨ar2,Z1++Z2,[T[c.1]],L2.more hy,F2.below o u xin hy hb,rfl⟩
    have X1X:=l12;rw [D0] at X1X;exact .rev (Ü.part.mp L2) (by rw [D0];dsimp only;omega) (by rw [D0];dsimp only;omega) λs3 ar3 L3=>H s3 ⟨ar2.trans ar3,Z1++Z2.reverse,[T[c.1]],(Ü.part.mpr L3).more hy,F2.turn.below o u (K4.mpr xin) hy hb,rfl⟩
   ·refine .pure ⟨rfl,congrArg G0P e1,ar2,Z1,Z2++ [T[c.1]],?_,F2.like o u xin hy (Z9.mpr hb) (Z9.mpr Ļ),by rw [D0,l2];rfl⟩;rw [<-D4];exact L2.more hy
  ·intro c s2 h2;refine Tm.fork (λs=> ∃k,Ŭ R P T st s c.1 k) ?_ (λzq H=> .bind (h2.2.rev λs h=>H s ⟨_,h⟩)) λzq=>⟨_,h2.2⟩
   intro s3 h3;obtain⟨k,ar3,Z1,Z2,L3,F3,l3⟩:=h3;have m1:1<=c.1:=by rw [<-F3.len,D0,l3];exact cU _ _
   exact .bind (.rev L3 rfl (by rw [F3.len]) λs4 ar4 L4=> .bind (RF ak ((ar3.trans ar4).1.trans kd) o u (by exact λi n=>rfl) (by exact λn=>⟨rfl,rfl⟩) m1 h2.1 L4 ((X0 _).trans F3.perm) (Ld F3.dsc) λn Z n1 n2 L p sr _=> .pure (q n s4 Z n1 n2 (ar3.trans ar4) L p sr)))
 ·intro z2 H;obtain⟨x0,V,eV⟩: ∃x0 V,Z=x0::V:=by
   match Z,xin with
   |a::r,_=>exact⟨a,r,rfl⟩
  have ux:=uZ x xin;have ux0:=uZ x0 (by rw [eV];simp);have a0:(M5 st).toList[P.length]? =some x0:=by rw [L,eV];simp
  have a1:(M5 st).toList[P.length+n-1]? =some x:=by
   obtain⟨_,W',x',e',ax⟩:=L.two lz n1 hy;rw [e] at e';rw [ax,(List.append_inj' e' rfl).2 |> λh=>(List.cons.inj h).1]
  exact .bind (.ltAt ak kd a0 a1 ux0 ux (.if2 (c:=R x0 x=true) (λ_=> .pure (q n _ _ n1 n2 (ū.refl _) L p sr)) λhr0=> .bind (.rev L rfl (by rw [lz]) λs1 ar1 L1=>H s1 ⟨ar1,_,_,L1.more hy,ą.below o u (Z1:= []) (ą.turn (F0 λp hp r hr=>o.trans (uZ r hr) ux (uZ p hp) (RE o uZ sr xl hr) (Z9.mpr λv=>(o.neg p x0 x (uZ p hp) ux0 ux v).elim (λv=>by rw [Qz o uZ sr (z:=x0) (by rw [eV];rfl) hp] at v;cases v) hr0))) (K4.mpr xin) hy yx,rfl⟩)))
 ·intro z2;have w0:W= []:=V5 (by rw [e,D0,cV] at lz;omega);have f: ∀z∈Z,z=x:=λz hz=>by rw [e,w0] at hz;exact P0.mp hz
  exact⟨ū.refl st,_,_,L.more hy,ą.below o u (Z1:= []) (F0 λp hp r hr=>by rw [f p hp,f r hr];exact o.refl (uZ x xin)) xin hy yx,rfl⟩
end
section
variable {prog:S8}{w:B0}{A:T8}{E:G1->G3->Prop}{J:G3->Prop}{κ:SortKind}{U:D6->Prop}{R:D6->D6->M7}
def NK {B:T6 D6}{A R:G0 D6}{z y:D6}(h:B.toList=A++z::y::R):(B.swapIfInBounds (A.length+1) A.length).toList=A++y::z::R:=by
 obtain⟨l⟩:=B;cases h;have n:A.length<(A++z::y::R).length:=by rw [D0];exact Nat.lt_add_of_pos_right (cN _)
 have n1:A.length+1<(A++z::y::R).length:=by rw [D0];exact Nat.add_lt_add_left (Nat.succ_lt_succ (cN _)) _
 have a0:(A++z::y::R)[A.length]=z:=mW rfl rfl;have a1:(A++z::y::R)[A.length+1]=y:=mW (l₁:=A++ [z]) (l₂:=R) (by rw [D4];rfl) (by rw [D0];rfl);unfold Array.swapIfInBounds;refine(congrArg pO ((xR n1).trans (xR n))).trans ?_;rw [Array.toList_swap];show ((A++z::y::R).set (A.length+1) (A++z::y::R)[A.length]).set A.length (A++z::y::R)[A.length+1]=_;rw [a0,a1,nK _ _ (Y0 A.length 1),nK _ _ (P3 _),iZ,fX];rfl
theorem RG {xs:T6 D6}{y:D6}{S:G0 D6}: ∀ (Z A:G0 D6),xs.toList=A++(Z++y::S)->(bubble xs (A.length+Z.length) Z.length).toList=A++y::(Z++S)
 | [],A,h=>h
 |z::Z,A,h=>by
  have ih:=RG Z (A++ [z]) (by rw [h,D4];rfl);rw [D0,fM] at ih;rw [R1,bubble_succ,show A.length+(Z.length+1)-Z.length=A.length+1 from pJ (n:=A.length+1) (m:=Z.length) ▸ by rw [fM];rfl];exact NK (ih.trans (by rw [D4];rfl))
def NL (xs:T6 D6)(P Z S:G0 D6)(y:D6)(l:G5)(hl:l<=Z.length)(h:xs.toList=P++Z++y::S):(bubble xs (P.length+Z.length) (Z.length-l)).toList=P++(Z.take l++ [y]++Z.drop l)++S:=by
 have e:=RG (xs:=xs) (y:=y) (S:=S) (Z.drop l) (P++Z.take l) (by rw [h,D4 P (Z.take l),<-D4 (Z.take l),N6,D4]);rw [D0,N0,C5,aD hl,e8,J8 hl] at e;rw [e];simp only [D4,Q1,O2]
def Le (o:Ó U R){Z:G0 D6}{y:D6}{l:G5}(u: ∀z∈Z,U z)(uy:U y)(s:Ô R Z)(a: ∀z∈Z.take l,R y z=false)(b: ∀z∈Z.drop l,R y z=true):Ô R (Z.take l++ [y]++Z.drop l):=by
 have s':Ô R (Z.take l++Z.drop l):=by rw [N6];exact s
 obtain⟨s1,s2,s3⟩:=B3.mp s';refine B3.mpr ⟨B3.mpr ⟨s1,O3 _ _,λx hx z hz=> ?_⟩,s2,λx hx z hz=> ?_⟩
 ·rw [P0.mp hz];exact a x hx
 ·rcases R4.mp hx with v|v
  ·exact s3 x v z hz
  ·rw [P0.mp v];exact o.asym y z uy (u z (A4 hz)) (b z hz)
def EJ {st:F4}{Q:M7->F4->Prop}{P T Z:G0 D6}{n k:G5}(ak:Vf prog w A J κ U R)(kd:kindOf st=κ)(o:Ó U R)(u: ∀x∈T,U x)(h:Ü st P Z (T.drop k))(hp:Z.Perm (T.take k))(hs:Ô R Z)(k1:1<=k)(kn:k<=n)(hn:n<=T.length)
 (q: ∀Å Z',ū st Å->Ü Å P Z' (T.drop n)->Z'.Perm (T.take n)->Ô R Z'->Q true Å):Tm prog w A E J (IC P.length n k) Q st:=by
 unfold IC;refine .bind (Tm.mono (Tm.range (λi c s1=>ū st s1/\c.1=none/\1<=i/\ ∃Z,Ü s1 P Z (T.drop i)/\Z.Perm (T.take i)/\Ô R Z) (Q:=λc s1=>ū st s1/\c.1=none/\ ∃Z,Ü s1 P Z (T.drop n)/\Z.Perm (T.take n)/\Ô R Z) (by omega) ⟨ū.refl st,rfl,by omega,Z,by rw [sK k1];exact h,by rw [sK k1];exact hp,hs⟩ ?_ ?_) ?_)
 ·rintro i ⟨r,c2⟩ s1 hi ⟨ar,hr,i1,Z,L,p,s⟩;dsimp only at hr ⊢;subst hr;obtain⟨y,hy⟩: ∃y,T[i]? =some y:=⟨_,G8 (by omega)⟩;have uy:=u y (P9 hy);have lz:Z.length=i:=by rw [p.length_eq,N0];omega
  have uZ: ∀z∈Z,U z:=λz hz=>u z (E9 (p.mem_iff.mp hz))
  have ay:(M5 s1).toList[P.length+i]? =some y:=by
   have:=L.rest (i:=0);rw [X9,lz] at this;rw [Y6] at this;rw [this];exact hy
  have az: ∀m,m<i-> ∃z,Z[m]? =some z/\(M5 s1).toList[P.length+m]? =some z:=λm hm=>by
   refine⟨Z[m],G8 (by omega),?_⟩;rw [L,D4,N5 (by omega),B7 (by omega),fX,G8 (by omega)]
  refine .bind (Tm.mono (Tm.range (λj c s2=>s2=s1/\c.1=none/\c.2.1<=c.2.2/\c.2.2<=i/\(∀z∈Z.take c.2.1,R y z=false)/\(∀z∈Z.drop c.2.2,R y z=true)/\c.2.2-c.2.1+j<=i) (Q:=λc s2=>s2=s1/\c.1=none/\c.2.1<=i/\(∀z∈Z.take c.2.1,R y z=false)/\(∀z∈Z.drop c.2.1,R y z=true)) (N3 _) ⟨rfl,rfl,N3 _,P3 _,λz hz=> ?_,λz hz=> ?_,by dsimp only;omega⟩ ?_ ?_) ?_)
  ·dsimp only at hz;rw [dL] at hz;cases hz
  ·dsimp only at hz;rw [E8 (by omega)] at hz;cases hz
  ·rintro j ⟨r,l,v⟩ _ hj ⟨rfl,hr,b1,b2,b3,b4,b5⟩;dsimp only at hr b1 b2 b3 b4 b5 ⊢;subst hr
   by_cases c1:l>=v
   ·rw [R8 c1];have:l=v:=by omega
    subst this;exact .pure ⟨rfl,rfl,b2,b3,b4⟩
   rw [R9 c1];obtain⟨z,hz,ez⟩:=az ((l+v) / 2) (by omega);have uz:=uZ z (P9 hz);refine .bind (.ltAt ak (ar.1.trans kd) ay ez uy uz ?_);dsimp only;cases hb:R y z with
   |true=>
    rw [R8 rfl];refine .pure ⟨rfl,rfl,by dsimp only;omega,by dsimp only;omega,b3,λx hx=> ?_,by dsimp only;omega⟩;dsimp only at hx;have zx:R x z=false:=by
     obtain⟨t,ht,e⟩:=X3 hx;rw [C5] at ht;exact Wj s o uZ (show (l+v) / 2<=(l+v) / 2+t by omega) hz (by rw [G8 (by omega),<-e,qR])
    rcases o.neg y x z uy (uZ x (A4 hx)) uz hb with w|w
    ·exact w
    ·rw [zx] at w;cases w
   |false=>
    rw [R9 (by decide)];refine .pure ⟨rfl,rfl,by dsimp only;omega,b2,λx hx=> ?_,b4,by dsimp only;omega⟩;dsimp only at hx;have xz:R z x=false:=by
     obtain⟨t,ht,e⟩:=X3 hx;rw [N0] at ht;exact Wj s o uZ (show t<=(l+v) / 2 by omega) (by rw [G8 (by omega),<-e,qQ]) hz
    exact o.trans (uZ x (E9 hx)) uz uy xz hb
  ·rintro ⟨r,l,v⟩ _ ⟨rfl,hr,b1,b2,b3,b4,b5⟩;dsimp only at hr b1 b2 b3 b4 b5 ⊢;have:l=v:=by omega
   subst this;exact⟨rfl,hr,b2,b3,b4⟩
  ·rintro ⟨r,l,v⟩ s2 ⟨rfl,hr,b2,b3,b4⟩;dsimp only at hr b2 b3 b4 ⊢;subst hr;dsimp only;refine .bind ?_;show Tm prog w A E J (moveDown' (P.length+i) (P.length+l)) _ _;rw [moveDown'_eq];refine .modify (.pure ⟨ar.trans ⟨rfl,rfl,rfl,rfl⟩,rfl,by omega,Z.take l++ [y]++Z.drop l,?_,?_,Le o uZ uy s b3 b4⟩)
   ·have:=NL (M5 s2) P Z (T.drop (i+1)) y l (by omega) (by rw [<-zd hy];exact L);rw [lz] at this;rw [show P.length+i-(P.length+l)=i-l by omega];exact this
   ·refine m9 ?_ (Je p hy);rw [D4];have e:Z++ [y]=Z.take l++(Z.drop l++ [y]):=by rw [<-D4,N6]
    rw [e];exact(cW).append_left _
 ·rintro ⟨r,c2⟩ s1 ⟨ar,hr,i1,Z,L,p,s⟩;exact⟨ar,hr,Z,L,p,s⟩
 ·rintro ⟨r,c2⟩ s1 ⟨ar,hr,Z,L,p,s⟩;dsimp only at hr ⊢;subst hr;exact .pure (q s1 Z ar L p s)
end
section
variable {prog:S8}{w:B0}{A:T8}{E:G1->G3->Prop}{J:G3->Prop}{κ:SortKind}{U:D6->Prop}{R:D6->D6->M7}
def Ğ (R:D6->D6->M7)(l:G0 D6):G0 (G5×G5×G5)->G5->G5->Prop
 | [],s,e=>s=e
 |(p,n,_)::rest,s,e=>p=s/\1<=n/\Ô R (Ø l p n)/\Ğ R l rest (s+n) e
variable {l:G0 D6}
theorem Ğ.le: ∀ {pl:G0 (G5×G5×G5)} {s e:G5},Ğ R l pl s e->s+pl.length<=e
 | [],s,e,h=>by cases h;simp
 |(p,n,_)::rest,s,e,⟨_,n1,_,h⟩=>by have:=Ğ.le h;simp only [R1];omega
def NM {l':G0 D6}{p n e:G5}(h:l.take e=l'.take e)(he:p+n<=e):Ø l p n=Ø l' p n:=by
 have cut: ∀k:G0 D6,Ø k p n=Ø (k.take e) p n:=λk=>by
  unfold Ø;rw [n9,oA,aD (by omega)]
 rw [cut l,cut l',h]
theorem Ğ.same {l':G0 D6}: ∀ {pl:G0 (G5×G5×G5)} {s e:G5},Ğ R l pl s e->l.take e=l'.take e->Ğ R l' pl s e
 | [],s,e,h,_=>h
 |(p,n,_)::rest,s,e,⟨a,b,c,d⟩,h=>by
  have:=d.le;exact⟨a,b,by rw [<-NM h (by omega)];exact c,d.same h⟩
theorem Ğ.shift {l':G0 D6}: ∀ {pl:G0 (G5×G5×G5)} {s e:G5},Ğ R l pl s e->l.drop s=l'.drop s->Ğ R l' pl s e
 | [],s,e,h,_=>h
 |(p,n,_)::rest,s,e,⟨a,b,c,d⟩,h=>by
  subst a;refine⟨rfl,b,by unfold Ø at c ⊢;rw [<-h];exact c,d.shift ?_⟩;rw [<-aY,<-aY,h]
theorem Ğ.append: ∀ {a b:G0 (G5×G5×G5)} {s e:G5},Ğ R l (a++b) s e↔ ∃m,Ğ R l a s m/\Ğ R l b m e
 | [],b,s,e=>⟨λh=>⟨s,rfl,h⟩,λ⟨m,h,h'⟩=>by cases h;exact h'⟩
 |(p,n,w)::a,b,s,e=>by
  constructor
  ·rintro ⟨x,y,z,h⟩;obtain⟨m,h1,h2⟩:=Ğ.append.mp h;exact⟨m,⟨x,y,z,h1⟩,h2⟩
  ·rintro ⟨m,⟨x,y,z,h1⟩,h2⟩;exact⟨x,y,z,Ğ.append.mpr ⟨m,h1,h2⟩⟩
structure Bt (R:D6->D6->M7)(κ:SortKind)(l0:G0 D6)(lo:G5)(st:F4):Prop where
 kind:kindOf st=κ
 failed:bW st=none
 perm:(M5 st).toList.Perm l0
 stk:Ğ R (M5 st).toList (C0 st).toList 0 lo
variable {l0:G0 D6}{lo:G5}
def Bt.size {st:F4}(b:Bt R κ l0 lo st):(M5 st).size=l0.length:=by rw [<-D8,b.perm.length_eq]
def Bt.merge {st:F4}{Q:M7->F4->Prop}{i:G5}(ak:Vf prog w A J κ U R)(o:Ó U R)(u: ∀x∈l0,U x)(b:Bt R κ l0 lo st)(hlo:lo<=l0.length)(hi:i+1<(C0 st).size)
 (q: ∀Å,Bt R κ l0 lo Å->(C0 Å).size+1=(C0 st).size->(M5 Å).toList.drop lo=(M5 st).toList.drop lo->Q true Å):Tm prog w A E J (IB i) Q st:=by
 have lp:(C0 st).toList.length=(C0 st).size:=by simp
 obtain⟨⟨sa,na,pw⟩,hx⟩: ∃x,(C0 st).toList[i]? =some x:=⟨_,G8 (by omega)⟩;obtain⟨⟨sb,nb,pw2⟩,hy⟩: ∃y,(C0 st).toList[i+1]? =some y:=⟨_,G8 (by omega)⟩;have e:(C0 st).toList=(C0 st).toList.take i++(sa,na,pw)::(sb,nb,pw2)::(C0 st).toList.drop (i+2):=by
  rw [<-zd hy,<-zd hx,N6]
 have stk:=b.stk;rw [e] at stk;obtain⟨m,k1,em,n1,s1,eb,n2,s2,k2⟩:=Ğ.append.mp stk;subst em;subst eb;have le:=k2.le;have sz:=b.size;have hz:sa+na+nb<=(M5 st).size:=by omega
 have ln:(M5 st).toList.length=(M5 st).size:=by simp
 refine EI ak b.kind o (λx hx=>u x (b.perm.mem_iff.mp hx)) (by rw [<-N7];exact hx) (by rw [<-N7];exact hy) rfl n1 n2 hz s1 s2 b.failed λÅ Z kd hf hp ha pz sz'=> ?_
 have hpl:(C0 Å).toList=(C0 st).toList.take i++(sa,na+nb,pw)::(C0 st).toList.drop (i+2):=by
  rw [hp,Array.eraseIdxIfInBounds_eq,xR (by rw [e7];exact hi),Array.toList_eraseIdx,kW];generalize (C0 st).toList.drop (i+2)=B at e ⊢;have li:((C0 st).toList.take i).length=i:=by rw [N0];omega
  generalize (C0 st).toList.take i=A at e li ⊢;rw [e];subst li;simp [List.set_append,List.eraseIdx_append];intro z;omega
 have lZ:Z.length=na+nb:=by rw [pz.length_eq,D0,Wl (by omega),Wl (by omega)]
 have lt:((M5 st).toList.take sa).length=sa:=by rw [N0];omega
 refine q Å ⟨kd,hf,?_,?_⟩ ?_ ?_
 ·rw [ha];refine m9 ?_ b.perm;have c3:=Ur (M5 st).toList (p:=sa) (n:=na) (m:=nb);have pp:=(pz.append_left ((M5 st).toList.take sa)).append_right ((M5 st).toList.drop (sa+na+nb));rw [<-c3] at pp;exact pp
 ·rw [hpl,ha];refine Ğ.append.mpr ⟨sa,k1.same ?_,rfl,by omega,?_,?_⟩
  ·rw [D4,Z6 (by omega),N2 (l:=(M5 st).toList.take sa) (by omega)]
  ·unfold Ø;rw [D4,Z5 (by omega),E8 (by omega),O2,Z6 (by omega),N2 (by omega)];exact sz'
  ·rw [<-e8];refine k2.shift ?_;have:((M5 st).toList.take sa++Z).length=sa+na+nb:=by rw [D0,lt,lZ];omega
   rw [Z5 (by omega),E8 (as:=(M5 st).toList.take sa++Z) (by omega),O2]
 ·rw [<-D8,<-D8,hpl];have:(C0 st).toList.length=((C0 st).toList.take i++(sa,na,pw)::(sa+na,nb,pw2)::(C0 st).toList.drop (i+2)).length:=congrArg O1 e;rw [this];simp only [D0,R1];omega
 ·rw [ha];have c1:((M5 st).toList.take sa++Z).length=sa+na+nb:=by rw [D0,lt,lZ];omega
  have c2:sa+na+nb<=lo:=by omega
  rw [List.drop_append,E8 (as:=(M5 st).toList.take sa++Z) (by omega),O2,aY,c1]
  congr 1;omega
def Bt.run {Z:G0 D6}{n:G5}{s1 s2:F4}(b:Bt R κ l0 lo s1)(hlo:lo<=l0.length)(ar:ū s1 s2)(L:Ü s2 ((M5 s1).toList.take lo) Z (((M5 s1).toList.drop lo).drop n))(p:Z.Perm (((M5 s1).toList.drop lo).take n))(sr:Ô R Z)(hn:n<=l0.length-lo):Bt R κ l0 lo s2/\Ô R (Ø (M5 s2).toList lo n):=by
 have ln:(M5 s1).toList.length=l0.length:=b.perm.length_eq;have lP:((M5 s1).toList.take lo).length=lo:=by rw [N0];omega
 have lZ:Z.length=n:=by rw [p.length_eq,N0,C5];omega
 have e:(M5 s2).toList=(M5 s1).toList.take lo++Z++((M5 s1).toList.drop lo).drop n:=L;refine⟨⟨ar.1.trans b.kind,ar.2.2.1.trans b.failed,?_,?_⟩,?_⟩
 ·rw [e];refine m9 ?_ b.perm;have pp:=(p.append_left ((M5 s1).toList.take lo)).append_right (((M5 s1).toList.drop lo).drop n);rw [D4 _ (((M5 s1).toList.drop lo).take n),N6,N6] at pp;exact pp
 ·rw [ar.2.1];refine b.stk.same ?_;rw [e,D4,Z6 (by omega),N2 (l:=(M5 s1).toList.take lo) (by omega)]
 ·rw [e];unfold Ø;rw [D4,Z5 (by omega),E8 (by omega),O2,Z6 (by omega),N2 (by omega)];exact sr
def Bt.push {n:G5}{s:F4}(b:Bt R κ l0 lo s)(n1:1<=n)(g:Ô R (Ø (M5 s).toList lo n)):Bt R κ l0 (lo+n) (G0i s ((C0 s).push (lo,n,0))):=by
 refine⟨b.kind,b.failed,b.perm,?_⟩;show Ğ R (M5 s).toList ((C0 s).push (lo,n,0)).toList 0 (lo+n);rw [K5];exact Ğ.append.mpr ⟨lo,b.stk,rfl,n1,g,rfl⟩
theorem Ğ.mod {f:G5×G5×G5->G5×G5×G5}(hf: ∀x,(f x).1=x.1/\(f x).2.1=x.2.1): ∀ {pl:G0 (G5×G5×G5)} {k s e:G5},Ğ R l pl s e->Ğ R l (pl.modify k f) s e
 | [],k,s,e,h=>by rw [List.modify_nil];exact h
 |(p,n,w)::rest,0,s,e,⟨a,b,c,d⟩=>by
  rw [List.modify_zero_cons];have e1:=(hf (p,n,w)).1;have e2:=(hf (p,n,w)).2;generalize f (p,n,w)=x at e1 e2;obtain⟨p',n',w'⟩:=x;dsimp only at e1 e2;subst e1 e2;exact⟨a,b,c,d⟩
 |(p,n,w)::rest,k+1,s,e,⟨a,b,c,d⟩=>by
  rw [List.modify_succ_cons];exact⟨a,b,c,d.mod hf⟩
def Bt.mod {k:G5}{s:F4}{f:G5×G5×G5->G5×G5×G5}(b:Bt R κ l0 lo s)(hf: ∀x,(f x).1=x.1/\(f x).2.1=x.2.1):Bt R κ l0 lo (G0i s ((C0 s).modify k f)):=by
 refine⟨b.kind,b.failed,b.perm,?_⟩;show Ğ R (M5 s).toList ((C0 s).modify k f).toList 0 lo;rw [Array.toList_modify];exact b.stk.mod hf
def NN (c:M7)(x:G5):(if c=true then x-1 else x)<=x:=by cases c<;>simp
def Lf {st:F4}{Q:Unit->F4->Prop}(ak:Vf prog w A J κ U R)(o:Ó U R)(u: ∀x∈l0,U x)(kd:kindOf st=κ)(hf:bW st=none)(hp:C0 st= #[])(hl:(M5 st).toList=l0)
 (q: ∀Å,bW Å=none->(M5 Å).toList.Perm l0->Ô R (M5 Å).toList->Q () Å):Tm prog w A E J sortRuns' Q st:=by
 have b0:Bt R κ l0 0 st:=⟨kd,hf,by rw [hl],by rw [hp];rfl⟩;rw [sortRuns'_eq];refine .bind (.get ?_);dsimp only;rw [b0.size];generalize minRun' l0.length l0.length 0=mr;refine .bind (Tm.mono (Tm.range (λi c s1=>c.1=none/\c.2<=l0.length/\i<=c.2/\Bt R κ l0 c.2 s1) (Q:=λc s1=>c.1=none/\Bt R κ l0 l0.length s1) (N3 _) ⟨rfl,N3 _,N3 _,b0⟩ ?_ ?_) ?_)
 ·rintro i ⟨r,lo⟩ s1 hi ⟨hr,h1,h2,b⟩;dsimp only at hr h1 h2 b ⊢;subst hr
  by_cases z1:lo>=l0.length
  ·rw [R8 z1];have:lo=l0.length:=by omega
   subst this;exact .pure ⟨rfl,b⟩
  rw [R9 z1];have ln:(M5 s1).toList.length=l0.length:=b.perm.length_eq;have lP:((M5 s1).toList.take lo).length=lo:=by rw [N0];omega
  have lT:((M5 s1).toList.drop lo).length=l0.length-lo:=by rw [C5,ln]
  have uT: ∀x∈(M5 s1).toList.drop lo,U x:=λx hx=>u x (b.perm.mem_iff.mp (A4 hx))
  have ct:=λ{Q}=>NJ (prog:=prog) (w:=w) (A:=A) (E:=E) (J:=J) (Q:=Q) (st:=s1) (P:=(M5 s1).toList.take lo) (T:=(M5 s1).toList.drop lo) ak b.kind o uT (by unfold Ü;rw [O9,N6]) (by omega)
  rw [lP,lT] at ct;refine .bind (ct λn s2 Z n1 n2 ar L p sr=> ?_);dsimp only
  by_cases z2:n<mr
  ·rw [R8 z2];have bn:=λ{Q}=>EJ (prog:=prog) (w:=w) (A:=A) (E:=E) (J:=J) (Q:=Q) (st:=s2) (P:=(M5 s1).toList.take lo) (T:=(M5 s1).toList.drop lo) (n:=min (l0.length-lo) mr) ak (ar.1.trans b.kind) o uT L p sr n1 (by omega) (by omega)
   rw [lP] at bn;refine .bind (.rule (.bind (bn λs3 Z3 ar3 L3 p3 sr3=> ?_)));obtain⟨B,G⟩:=b.run h1 (ar.trans ar3) L3 p3 sr3 (by omega);have N1:1<=min (l0.length-lo) mr:=by omega
   rw [R9 (by decide)];refine .bind (.get ?_);split
   ·refine .bind (Tm.mono (Tm.range (λj c s4=>c.1=none/\Bt R κ l0 lo s4/\Ô R (Ø (M5 s4).toList lo (min (l0.length-lo) mr))) (Q:=λc s4=>c.1=none/\Bt R κ l0 lo s4/\Ô R (Ø (M5 s4).toList lo (min (l0.length-lo) mr))) (N3 _) ⟨rfl,B,G⟩ ?_ (λ_ _ h=>h)) ?_)
    ·rintro j ⟨r,c⟩ s4 hj ⟨hr,B4,G4⟩;dsimp only at hr ⊢;subst hr;refine .bind (.get ?_);split
     ·rename_i X1u heq;split
      ·exact .pure ⟨rfl,B4,G4⟩
      ·have two:(C0 s4).size>1:=V1 λz=>by rw [R9 z] at heq;cases heq
       refine .bind (Bt.merge ak o u B4 h1 (by omega) λs5 B5 _ dr=> ?_);refine .pure ⟨rfl,B5,?_⟩;unfold Ø at G4 ⊢;rw [dr];exact G4
     ·exact .pure ⟨rfl,B4,G4⟩
    ·rintro ⟨r,c⟩ s4 ⟨hr,B4,G4⟩;dsimp only at hr ⊢;subst hr;dsimp only;refine .bind (.modify (.bind (.modify (.pure ⟨rfl,?_,?_,Bt.push (Bt.mod B4 λx=>⟨rfl,rfl⟩) N1 G4⟩))))
     ·dsimp only;omega
     ·dsimp only;omega
   ·refine .bind (.modify (.pure ⟨rfl,?_,?_,Bt.push B N1 G⟩))
    ·dsimp only;omega
    ·dsimp only;omega
  ·rw [R9 z2];obtain⟨B,G⟩:=b.run h1 ar L p sr n2;have N1:=n1;refine .bind (.get ?_);split
   ·refine .bind (Tm.mono (Tm.range (λj c s4=>c.1=none/\Bt R κ l0 lo s4/\Ô R (Ø (M5 s4).toList lo (n))) (Q:=λc s4=>c.1=none/\Bt R κ l0 lo s4/\Ô R (Ø (M5 s4).toList lo (n))) (N3 _) ⟨rfl,B,G⟩ ?_ (λ_ _ h=>h)) ?_)
    ·rintro j ⟨r,c⟩ s4 hj ⟨hr,B4,G4⟩;dsimp only at hr ⊢;subst hr;refine .bind (.get ?_);split
     ·rename_i X1u heq;split
      ·exact .pure ⟨rfl,B4,G4⟩
      ·have two:(C0 s4).size>1:=V1 λz=>by rw [R9 z] at heq;cases heq
       refine .bind (Bt.merge ak o u B4 h1 (by omega) λs5 B5 _ dr=> ?_);refine .pure ⟨rfl,B5,?_⟩;unfold Ø at G4 ⊢;rw [dr];exact G4
     ·exact .pure ⟨rfl,B4,G4⟩
    ·rintro ⟨r,c⟩ s4 ⟨hr,B4,G4⟩;dsimp only at hr ⊢;subst hr;dsimp only;refine .bind (.modify (.bind (.modify (.pure ⟨rfl,?_,?_,Bt.push (Bt.mod B4 λx=>⟨rfl,rfl⟩) N1 G4⟩))))
     ·dsimp only;omega
     ·dsimp only;omega
   ·refine .bind (.modify (.pure ⟨rfl,?_,?_,Bt.push B N1 G⟩))
    ·dsimp only;omega
    ·dsimp only;omega
 ·rintro ⟨r,lo⟩ s1 ⟨hr,h1,h2,b⟩;dsimp only at hr h1 h2 b;have:lo=l0.length:=by omega
  subst this;exact⟨hr,b⟩
 ·rintro ⟨r,lo⟩ s1 ⟨hr,b⟩;dsimp only at hr ⊢;subst hr;dsimp only;have le0:=b.stk.le;have lp0:(C0 s1).toList.length=(C0 s1).size:=by simp
  refine .bind (Tm.mono (Tm.range (λj c s4=>c.1=none/\Bt R κ l0 l0.length s4/\(C0 s4).size+j<=l0.length) (Q:=λc s4=>c.1=none/\Bt R κ l0 l0.length s4/\(C0 s4).size<=1) (N3 _) ⟨rfl,b,by omega⟩ ?_ (λc s4 ⟨x,y,z⟩=>⟨x,y,by omega⟩)) ?_)
  ·rintro j ⟨r,c⟩ s4 hj ⟨hr,B4,z4⟩;dsimp only at hr ⊢;subst hr;refine .bind (.get ?_)
   by_cases c1:(C0 s4).size<=1
   ·rw [R8 c1];exact .pure ⟨rfl,B4,c1⟩
   rw [R9 c1];refine .bind (Bt.merge ak o u B4 (P3 _) (V8 (Nat.add_le_add_right (NN _ _) 1) (by omega)) λs5 B5 z5 _=> ?_);exact .pure ⟨rfl,B5,by omega⟩
  ·rintro ⟨r,c⟩ s4 ⟨hr,B4,z4⟩;dsimp only at hr ⊢;subst hr;refine .pure (q s4 B4.failed B4.perm ?_);have stk:=B4.stk;have ln:(M5 s4).toList.length=l0.length:=B4.perm.length_eq;have lp:(C0 s4).toList.length=(C0 s4).size:=by simp
   generalize (C0 s4).toList=pl at stk lp
   match pl,stk,lp with
   | [],e,_=>
    have:l0.length=0:=e.symm;have:(M5 s4).toList= []:=cB.mp (by omega);rw [this];exact .nil
   | [(p,n,_)],⟨e1,_,sr,e2⟩,_=>
    subst e1;have en:n=l0.length:=by have:0+n=l0.length:=e2;omega
    unfold Ø at sr;rw [nZ,N2 (by omega)] at sr;exact sr
   |_::_::_,_,h=>simp only [R1] at h;omega
end
section
variable {prog:S8}{w:B0}{A:T8}{E:G1->G3->Prop}{s:G3}{κ:SortKind}{U:D6->Prop}{R:D6->D6->M7}
def Lg (s:G3)(a:G9)(h':C7):Prop:= ∀b o,b≠a->s.heap.get? b=some o->h'.get? b=some o
def Ĵ (s:G3)(h':C7):G3->Prop:=λs'=> ∃tk,s'= {s with heap:=h',toks:=tk}
def NO {M:iP}{α β:Type}{c:Prop}[Decidable c]{m m':Sem α}{F:α->Sem β}{Q:β->G3->Prop}(h:R0 M A ((if c then m else m') >>= F) Q E s):R0 M A (if c then m >>= F else m' >>= F) Q E s:=by
 by_cases z:c
 ·rw [R8 z] at h ⊢;exact h
 ·rw [R9 z] at h ⊢;exact h
def JR (vs:G0 G1):(vs.toArray.zip vs.toArray).toList=vs.map λv=>(v,v):=by
 rw [Array.toList_zip];show vs.zip vs=_
 induction vs with
 |nil=>rfl
 |cons v vs ih=>rw [fJ,ih,N4]
def Lh {R:G1×G1->G1×G1->M7}: ∀l:G0 G1,l.length<2->Ô R (l.map λv=>(v,v))
 | [],_=>lF
 | [_],_=>O3 _ _
def QB {a:G9}{vs:G0 G1}{n:G5}{P:Fin->G3->Prop}(ho:s.heap.get? a=some (cG "list" vs.toArray n))(hz:vs.length<=sizeLine)
 (hk:2<=vs.length-> ∀h',Lg s a h'->R0 (R7 prog w) A (t8 vs.toArray) (λk s'=>k=κ/\Ĵ s h' s') (λ_ _=>False) {s with heap:=h'})(ak: ∀h',Lg s a h'->Vf prog w A (Ĵ s h') κ U R)(o:Ó U R)(u: ∀v∈vs,U (v,v))
 (q: ∀ (out:G0 G1) (c tk:G5) (h':C7),Lg s a h'->h'.get? a=some (cG "list" out.toArray c)->out.Perm vs->(out.map λv=>(v,v)).Pairwise (λx y=>R y x=false)->P (.done (.ret .none)) {s with heap:=h',toks:=tk}):
 R0 (R7 prog w) A (Builtin.«list.sort» ⟨[.ref a],[]⟩) P E s:=by
 have alt:=D2 ho;have sv:vs.toArray.size=vs.length:=S0 ..;rw [list_sort_plain];refine wpAny_bind (xS ho rfl ?_);obtain⟨c1,ho1⟩: ∃c,(s.heap.update a (W3 λ_=>(#[]:T6 G1))).get? a=some (cG "list" #[] c):=⟨_,sL ho λ_=> #[]⟩;refine wpAny_bind (u7 ho rfl ?_ (by rw [sv];exact hz) (N3 _));refine wpAny_bind (IE ho1 rfl ?_);refine wpAny_bind (tX ?_ hz);refine wpAny_bind (lS ?_ (N3 _));refine L7 ?_;have past:Lg s a (((s.heap.update a (W3 λ_=>(#[]:T6 G1))).push {cls:= .type "tuple",data:= .seq vs.toArray.toList.toArray}).push {cls:= .type "list",data:= .seq ([]:G0 G1).toArray}):=λb x ne e=>by
  refine G7 _ (G7 _ ?_);rw [iT _ _ _ _ ne];exact e
 have ho3:=G7 ({cls:= .type "list",data:= .seq ([]:G0 G1).toArray}:Obj) (G7 ({cls:= .type "tuple",data:= .seq vs.toArray.toList.toArray}:Obj) ho1);revert past ho3;generalize ((s.heap.update a (W3 λ_=>(#[]:T6 G1))).push ({cls:= .type "tuple",data:= .seq vs.toArray.toList.toArray}:Obj)).push ({cls:= .type "list",data:= .seq ([]:G0 G1).toArray}:Obj)=H3;intro past ho3;have kd:R0 (R7 prog w) A (if vs.toArray.size<2 then pure general' else t8 vs.toArray) (λk s0=>(2<=vs.length->k=κ)/\Ĵ s H3 s0) (λ_ _=>False) {s with heap:=H3}:=by
  by_cases c:vs.toArray.size<2
  ·rw [R8 c];exact P2 ⟨λz=>by omega,s.toks,rfl⟩
  ·rw [R9 c];exact M0 (hk (by omega) H3 past) (λk s0 x=>⟨λ_=>x.1,x.2⟩) λ_ _ e=>e
 have rn: ∀k s0,(2<=vs.length->k=κ)->Ĵ s H3 s0->R0 (R7 prog w) A ((if vs.toArray.size<2 then pure () else sortRuns':Z4 F4 Sem Unit).run (SortSt.mk' k (vs.toArray.zip vs.toArray) #[] 7 none)) (λr s'=>(bW r.2=none/\(M5 r.2).toList.Perm (vs.map λv=>(v,v))/\Ô R (M5 r.2).toList)/\Ĵ s H3 s') E s0:=by
  intro k s0 ek j
  by_cases c:vs.toArray.size<2
  ·rw [R8 c,StateT.run_pure];refine P2 ⟨⟨rfl,?_,?_⟩,j⟩
   ·show (vs.toArray.zip vs.toArray).toList.Perm _;rw [JR]
   ·show Ô R (vs.toArray.zip vs.toArray).toList;rw [JR];rw [sv] at c;exact Lh vs c
  ·rw [R9 c];have ek:=ek (by omega);subst ek;refine Lf (E:=E) (ak H3 past) o (l0:=vs.map λv=>(v,v)) (st:=SortSt.mk' k (vs.toArray.zip vs.toArray) #[] 7 none) (λx hx=> ?_) rfl rfl rfl (JR vs) (Q:=λ_ Å=>bW Å=none/\(M5 Å).toList.Perm (vs.map λv=>(v,v))/\Ô R (M5 Å).toList) (λÅ a1 a2 a3=>⟨a1,a2,a3⟩) s0 j;obtain⟨v,hv,rfl⟩:=S9.mp hx;exact u v hv
 dsimp only;refine NO (wpAny_bind (M0 kd (λk s0 x=> ?_) λ_ _ e=>e.elim));refine wpAny_bind (M0 (rn k s0 x.1 x.2) ?_ λ_ _ e=>e);rintro ⟨⟨⟩,Å⟩ s1 ⟨⟨hf,hp,hs⟩,tk,rfl⟩;dsimp only;have eo:((M5 Å).map λx=>x.2)=((M5 Å).toList.map λx=>x.2).toArray:=by
  rw [<-rJ,Array.toArray_toList]
 have two:(M5 Å).toList=((M5 Å).toList.map λx=>x.2).map λv=>(v,v):=by
  rw [N8];refine(oC _).symm.trans (B6 λx hx=> ?_);obtain⟨v,_,rfl⟩:=S9.mp (hp.mem_iff.mp hx);rfl
 have po:((M5 Å).toList.map λx=>x.2).Perm vs:=by
  have:=hp.map λx=>x.2
  rw [N8] at this;refine this.trans ?_;rw [show ((λx:D6=>x.2)∘λv:G1=>(v,v))=id from rfl,oC]
 rw [two] at hs;rw [eo];generalize (M5 Å).toList.map (λx=>x.2)=out at hs po;obtain⟨c2,ho4⟩: ∃c,(H3.update a (W3 λ_=>out.toArray)).get? a=some (cG "list" out.toArray c):=⟨_,sL ho3 λ_=>out.toArray⟩;refine wpAny_bind (IE (s:= {s with heap:=H3,toks:=tk}) ho3 rfl ?_);refine wpAny_bind (u7 (s:= {s with heap:=H3,toks:=tk}) ho3 rfl ?_ (N3 _) (by rw [S0,po.length_eq];exact Nat.le_succ_of_le hz));rw [hf];simp only [qG,A0,mC];refine P2 (q out c2 tk _ (λb x ne e=> ?_) ho4 po hs);rw [iT _ _ _ _ ne];exact past b x ne e
abbrev vB (h h':C7):Prop:= ∀b o,h.get? b=some o->h'.get? b=some o
def GV {l:G9}{vs:G0 G1}{Q:G1->G3->Prop}(hl:s.heap.IsList l vs.toArray)(hz:vs.length<sizeLine)
 (hk:2<=vs.length-> ∀h',vB s.heap h'->R0 (R7 prog w) A.in1.in1 (t8 vs.toArray) (λk s'=>k=κ/\Ĵ s h' s') (λ_ _=>False) {s with heap:=h'})(ak: ∀h',vB s.heap h'->Vf prog w A.in1.in1 (Ĵ s h') κ U R)(o:Ó U R)(u: ∀v∈vs,U (v,v))
 (q: ∀ (h1 h':C7) (tk c:G5) (out:G0 G1),vB s.heap h1->vB h1 h'->h'.get? h1.objs.size=some (cG "list" out.toArray c)->out.Perm vs->(out.map λv=>(v,v)).Pairwise (λx y=>R y x=false)->Q (.ref h1.objs.size) {s with heap:=h',toks:=tk}):
 R0 (R7 prog w) A (call (.builtin "sorted") [.ref l]) Q E s:=by
 refine dW rV qL qM (qN _) (wpAny_bind (P2 (wpAny_bind (collect_list hl ?_ (by omega)))));have k1:vB s.heap ((s.heap.push (cG "list" #[] 0)).update s.heap.objs.size (W3 (· ++vs.toArray))):=λb x e=>by
  rw [iT _ _ _ _ (M8 (D2 e))];exact G7 _ e
 revert k1;generalize (s.heap.push (cG "list" #[] 0)).update s.heap.objs.size (W3 (· ++vs.toArray))=H1;intro k1;have fresh:(H1.push (cG "list" vs.toArray 0)).get? H1.objs.size=some (cG "list" vs.toArray 0):=S4 _ rfl;have kp: ∀h',Lg {s with heap:=H1.push (cG "list" vs.toArray 0)} H1.objs.size h'->vB H1 h':=λh' p b x e=>p b x (M8 (D2 e)) (G7 _ e)
 refine wpAny_bind (lS (wpAny_bind (L7 (K2 n5 ⟨_,fresh,rfl⟩ m8 (QB (s:= {s with heap:=H1.push (cG "list" vs.toArray 0)}) (κ:=κ) (U:=U) (R:=R) fresh (S6 hz) (λh2 h' p=>hk h2 h' λb x e=>kp h' p b x (k1 b x e)) (λh' p=>ak h' λb x e=>kp h' p b x (k1 b x e)) o u λout c tk h' p e1 e2 e3=>⟨_,rfl,?_⟩) (n8 _)))) (S6 hz));exact P2 ⟨_,rfl,q H1 h' tk c out k1 (kp h' p) e1 e2 e3⟩
end
theorem yO: ∀a b:G0 P1,jF a b=true->jF b a=false
 | [],[],h=>rfl
 | [],_::_,_=>rfl
 |_::_,[],h=>by cases h
 |x::xs,y::ys,h=>by
  unfold jF at h ⊢
  by_cases e:x=y
  ·subst e;rw [R8 rfl] at h ⊢;exact yO xs ys h
  ·rw [R9 e] at h;rw [R9 (U6 e)];have:=L8 h;exact D9 (by omega)
theorem Wn: ∀a b c:G0 P1,jF a c=true->jF a b=true\/jF b c=true
 | [],[],c,h=> .inr h
 | [],_::_,_,_=> .inl rfl
 |_::_,_,[],h=>by cases h
 |x::xs,[],z::zs,h=> .inr rfl
 |x::xs,y::ys,z::zs,h=>by
  unfold jF at h ⊢
  by_cases e:x=z
  ·subst e;rw [R8 rfl] at h
   by_cases f:x=y
   ·subst f;rw [R8 rfl,R8 rfl];exact Wn xs ys zs h
   ·rw [R9 f,R9 (U6 f)]
    by_cases g:x<y
    ·exact .inl (D3 g)
    ·exact .inr (D3 (by omega))
  ·rw [R9 e] at h;have lt:=L8 h
   by_cases f:x=y
   ·subst f;rw [R9 e];exact .inr h
   ·rw [R9 f]
    by_cases g:x<y
    ·exact .inl (D3 g)
    ·refine .inr ?_;rw [R9 (by omega)];exact D3 (by omega)
theorem vC: ∀a b:G0 P1,jF a b=false->jF b a=false->a=b
 | [],[],_,_=>rfl
 | [],_::_,h,_=>by cases h
 |_::_,[],_,h=>by cases h
 |x::xs,y::ys,h,h'=>by
  unfold jF at h h'
  by_cases e:x=y
  ·subst e;rw [R8 rfl] at h h';rw [vC xs ys h h']
  ·rw [R9 e] at h;rw [R9 (U6 e)] at h';have:=kT h;have:=kT h';omega
def Us {U:D6->Prop}(key:G1->G0 P1):Ó U (λx y=>jF (key x.1) (key y.1)):=⟨λx y _ _ h=>yO _ _ h,λx y z _ _ _ h=>Wn _ _ _ h⟩
def IT (h:C7)(v:G1)(ns:G0 P1):Prop:= ∃a its,v= .ref a/\rN h a its/\W0 its.toList ns
def IT.keeps {h h':C7}{v:G1}{ns:G0 P1}(x:IT h v ns)(k:vB h h'):IT h' v ns:=let ⟨a,its,e,t,i⟩:=x;⟨a,its,e,t.keeps k,i⟩
theorem QC: ∀ {vs:G0 G1} {ns ms:G0 P1},W0 vs ns->W0 vs ms->ns=ms
 |_,_,_,.nil,.nil=>rfl
 |_,_,_,.cons n t a,.cons _ _ b=>by rw [QC a b]
def IT.one {h:C7}{v:G1}{ns ms:G0 P1}(x:IT h v ns)(y:IT h v ms):ns=ms:=by
 obtain⟨a,its,rfl,⟨o,e,c,n,d⟩,i⟩:=x;obtain⟨a',its',e2,⟨o',e',c',n',d'⟩,i'⟩:=y;cases e2;rw [e] at e';cases e';rw [d] at d';cases d';exact QC i i'
open Classical in
noncomputable def jU (h:C7)(v:G1):G0 P1:=if e: ∃ns,IT h v ns then e.choose else []
def IT.nums {h:C7}{v:G1}{ns:G0 P1}(x:IT h v ns):jU h v=ns:=by
 have e: ∃ns,IT h v ns:=⟨ns,x⟩;unfold jU;rw [xR e];exact e.choose_spec.one x
section
variable {prog:S8}{w:B0}{A:T8}{E:G1->G3->Prop}{s:G3}
theorem Jf {α β:Type}{M:iP}{f:α->Sem β}(r:α->β): ∀ (l:G0 α) {Q:G0 β->G3->Prop},(∀v∈l,∀Q':β->G3->Prop,Q' (r v) s->R0 M A (f v) Q' E s)->Q (l.map r) s->R0 M A (l.mapM f) Q E s
 | [],_,_,q=>by
  rw [List.mapM_nil];exact P2 q
 |v::l,Q,hf,q=>by
  rw [List.mapM_cons];refine wpAny_bind (hf v R5 _ (wpAny_bind ?_));exact Jf r l (λu hu=>hf u (T3 _ hu)) (P2 q)
noncomputable def zo (h:C7):G1->P5 G1
 | .ref a=>match h.get? a with
  |some o=>match o.data with
   | .seq xs _=>xs[0]?
   |_=>none
  |none=>none
 |_=>none
variable {v:G1}{ns:G0 P1}
def NP {Q:P5 G1->G3->Prop}(x:IT s.heap v ns)(q:Q (zo s.heap v) s):R0 (R7 prog w) A (firstOfTuple' v) Q E s:=by
 obtain⟨a,its,rfl,⟨o,e,c,n,d⟩,i⟩:=x;have fe:zo s.heap (.ref a)=its[0]? :=by
  unfold zo;dsimp only;rw [e];dsimp only;rw [d]
 rw [IF];refine wpAny_bind (pK (show u8 (R7 prog w) s.heap (IZ (.ref a)) o.cls from (rK e).andThen .now) ?_);rw [c,R9 (by decide)];refine wpAny_bind (xS e d (P2 ?_));rw [<-fe];exact q
variable {h:C7}
def GW (x:IT h v []):zo h v=none:=by
 obtain⟨a,its,rfl,⟨o,e,c,n,d⟩,i⟩:=x;unfold zo;dsimp only;rw [e];dsimp only;rw [d];dsimp only;obtain⟨l⟩:=its;cases i;rfl
def Yt {n:P1}(x:IT h v (n::ns)): ∃t,zo h v=some (.int n t):=by
 obtain⟨a,its,rfl,⟨o,e,c,k,d⟩,i⟩:=x;obtain⟨l⟩:=its;cases i with
 |cons _ t i=>exact⟨t,by unfold zo;dsimp only;rw [e];dsimp only;rw [d];rfl⟩
def NQ (x:IT h v ns):(zo h v).isSome= !ns.isEmpty:=by
 cases ns with
 |nil=>rw [GW x];rfl
 |cons n ns=>obtain⟨t,e⟩:=Yt x;rw [e];rfl
noncomputable def GX (h:C7)(vs:G0 G1):SortKind:=
 if (vs.all λv=> !(jU h v).isEmpty)=true then tuples' true else if ((vs[0]?.map λv=> !(jU h v).isEmpty)=some true) then general' else oneType'
def Ut {vs:G0 G1}(h2:2<=vs.length)(x: ∀v∈vs,∃ns,IT h v ns){Q:SortKind->G3->Prop}(e:vB h s.heap)(q:Q (GX h vs) s):R0 (R7 prog w) A (t8 vs.toArray) Q E s:=by
 have fr: ∀v∈vs,(zo s.heap v).isSome= !(jU h v).isEmpty:=λv hv=>by
  obtain⟨ns,t⟩:=x v hv;rw [t.nums,NQ (t.keeps e)]
 rw [keyKind'_eq,lK,map_eq_pure_bind];refine wpAny_bind (wpAny_bind (Jf (zo s.heap) vs (λv hv Q' q'=> ?_) (P2 ?_)))
 ·obtain⟨ns,t⟩:=x v hv;exact NP (t.keeps e) q'
 have X1Y:((vs.map (zo s.heap)).toArray.all λo=>o.isSome)=vs.all λv=> !(jU h v).isEmpty:=by
  rw [mH,aN];rw [J9,N9,N9];exact⟨λz v hv=>by rw [<-fr v hv];exact z v hv,λz v hv=>by show (zo s.heap v).isSome=true;rw [fr v hv];exact z v hv⟩
 rw [X1Y];unfold GX at q
 by_cases a1:(vs.all λv=> !(jU h v).isEmpty)=true
 ·rw [R8 a1] at q;rw [R8 a1];refine wpAny_bind (gR ?_);obtain⟨fs,efs,nums,ne⟩: ∃fs:G0 G1,vs.map (zo s.heap)=fs.map some/\(∀f∈fs,∃n t,f=fN n t)/\fs.length=vs.length:=by
   have go: ∀l:G0 G1,(∀v∈l,v∈vs)-> ∃fs:G0 G1,l.map (zo s.heap)=fs.map some/\(∀f∈fs,∃n t,f=fN n t)/\fs.length=l.length:=by
    intro l
    induction l with
    |nil=>exact λ_=>⟨[],rfl,λf hf=>absurd hf H0,rfl⟩
    |cons v l ih=>
     intro sub;obtain⟨fs,e1,e2,e3⟩:=ih λu hu=>sub u (T3 _ hu)
     have hv:=sub v R5;obtain⟨ns,t⟩:=x v hv;have ne:=N9.mp a1 v hv;rw [t.nums] at ne;cases ns with
     |nil=>cases ne
     |cons n ns=>
      obtain⟨tk,ef⟩:=Yt (t.keeps e);refine⟨.int n tk::fs,by rw [N4,N4,ef,e1],λf hf=> ?_,by rw [R1,R1,e3]⟩;rcases D5.mp hf with rfl|hf
      ·exact⟨n,tk,rfl⟩
      ·exact e2 f hf
   exact go vs λ_ hv=>hv
  rw [efs];have fm:((fs.map some).toArray.filterMap id)=fs.toArray:=by simp
  rw [fm,sM,lK,map_eq_pure_bind];refine wpAny_bind (wpAny_bind (wpAny_bind (Jf (λ_=>V2 "int") fs (λf hf Q' q'=> ?_) (P2 ?_))))
  ·obtain⟨n,t,rfl⟩:=nums f hf;exact P2 q'
  ·match fs,ne with
   | [],ne=>rw [C4] at ne;omega
   |f::fs,_=>
    have h0:(gF (λ_=>V2 "int") (f::fs)).toArray[0]? =some (V2 "int"):=by simp
    have h1:((gF (λ_=>V2 "int") (f::fs)).toArray.all λy=>y==V2 "int")=true:=by
     rw [mH,aN,N9];exact λ_ _=>rfl
    rw [h0];simp only [h1,f8];exact P2 (P2 q)
 rw [R9 a1] at q;rw [R9 a1]
 match vs,h2,x,fr,q with
 |v::vs,h2,x,fr,q=>
  have h0:((gF (zo s.heap) (v::vs)).toArray[0]?.bind id).isSome= !(jU h v).isEmpty:=by
   rw [<-fr v R5];simp
  rw [h0];have h0':(((v::vs)[0]?.map λv=> !(jU h v).isEmpty)=some true)↔(!(jU h v).isEmpty)=true:=by simp
  by_cases a2:(!(jU h v).isEmpty)=true
  ·rw [R8 (h0'.mpr a2)] at q;rw [R8 a2];exact P2 q
  rw [R9 λz=>a2 (h0'.mp z)] at q;rw [R9 a2];rw [sM,lK,map_eq_pure_bind];refine wpAny_bind (wpAny_bind (wpAny_bind (Jf (λ_=>V2 "tuple") (v::vs) (λf hf Q' q'=> ?_) (P2 ?_))))
  ·obtain⟨ns,t⟩:=x f hf;obtain⟨a,its,rfl,⟨o,e1,c,n,d⟩,i⟩:=t.keeps e;refine pK (show u8 (R7 prog w) s.heap (IZ (.ref a)) o.cls from (rK e1).andThen .now) ?_;rw [c];exact q'
  ·have h3:(gF (λ_=>V2 "tuple") (v::vs)).toArray[0]? =some (V2 "tuple"):=by simp
   have h1:((gF (λ_=>V2 "tuple") (v::vs)).toArray.all λy=>y==V2 "tuple")=true:=by
    rw [mH,aN,N9];exact λ_ _=>rfl
   rw [h3];simp only [h1,f8];exact P2 (P2 q)
theorem QD {fin:M7}{Q:M7->G3->Prop}{m n:G5}(ef:fin=decide (m<n)): ∀ {vs us:G0 G1} {ns ms:G0 P1} (i:G5),W0 vs ns->W0 us ms->ns.length+n=ms.length+m->Q (jF ns ms) s->G0Q prog w A true fin Q (vs.zip us) i s
 |_,_,_,_,i,.nil,.nil,l,q=>by
  subst ef;rw [lE];refine nC ?_;rw [D9 (by rw [C4] at l;omega)];exact q
 |_,_,_,_,i,.nil,.cons c u y,l,q=>by
  subst ef;rw [lE];refine nC ?_;rw [D3 (by rw [C4,R1] at l;omega)];exact q
 |_,_,_,_,i,.cons a t x,.nil,l,q=>by
  subst ef;rw [pE];refine nC ?_;rw [D9 (by rw [C4,R1] at l;omega)];exact q
 |_,_,_,_,i,.cons a t x,.cons c u y,l,q=>by
  rw [fJ];rw [Jy] at q;obtain⟨e,he,X0x⟩:=Qe A s a t c u;refine G0A (he prog w _ _ ?_);refine G0R (λz=>G0G ?_) λz=>G0S ?_
  ·rw [R8 (X0x.mp z)] at q;exact QD ef (i+1) x y (by rw [R1,R1] at l;omega) q
  ·rw [R9 λz'=>by rw [X0x.mpr z'] at z;cases z] at q;cases (true&&i==0) with
   |true=>exact oneLt_int q
   |false=>exact sN _ _ (oQ q)
def EK {u:G1}{ms:G0 P1}{Q:M7->G3->Prop}(hu:A.units<cLine)(x:IT s.heap v ns)(y:IT s.heap u ms)(q:Q (jF ns ms) s):R0 (R7 prog w) A (G0T true v u) Q E s:=by
 obtain⟨a,its,rfl,⟨⟨cls,dd,data,sl⟩,e1,c,n,d⟩,i⟩:=x;obtain⟨b,ō,rfl,⟨⟨X07,dd2,G0J,sl2⟩,e2,c2,n2,d2⟩,i2⟩:=y;simp only at c d c2 d2;subst c d c2 d2;rw [oneLt'_eq];simp only [f8];refine wpAny_bind (wpAny_cRoomFor hu (wpAny_bind (wpAny_callSpecialIfBound?_slot ⟨_,e1,rfl⟩ gO (gW gO ⟨_,e1,rfl⟩ mK (l9 _ _) (vQ a b its ō n n2 dd dd2 sl sl2 ns ms i i2) ⟨e1,e2,?_⟩))));exact E6 q
def EL {u:G1}{ms:G0 P1}{Q:M7->G3->Prop}(hu:A.units<cLine)(x:IT s.heap v ns)(y:IT s.heap u ms)(q:Q (jF ns ms) s):R0 (R7 prog w) A (G0T false v u) Q E s:=by
 obtain⟨a,its,rfl,t,i⟩:=x;obtain⟨b,ō,rfl,t2,i2⟩:=y;exact sN _ _ (Go t t2 i i2 hu q)
def Uu {vs:G0 G1}(hu:A.units<cLine){h':C7}(k:vB s.heap h'):Vf prog w A (Ĵ s h') (GX s.heap vs) (λx=> ∃ns,IT s.heap x.1 ns) (λx y=>jF (jU s.heap x.1) (jU s.heap y.1)):=by
 rintro ⟨x,x'⟩ ⟨y,y'⟩ ⟨ns,tx⟩ ⟨ms,ty⟩ s1 ⟨tk,rfl⟩;dsimp only at tx ty ⊢;have q:(jF ns ms=jF (jU s.heap x) (jU s.heap y)/\Ĵ s h' {s with heap:=h',toks:=tk}):=⟨by rw [tx.nums,ty.nums],tk,rfl⟩;have kx:=tx.keeps k;have ky:=ty.keeps k;unfold GX
 by_cases a1:(vs.all λv=> !(jU s.heap v).isEmpty)=true
 ·rw [R8 a1];obtain⟨a,its,rfl,⟨o,e1,c,n,d⟩,i⟩:=kx;obtain⟨b,ō,rfl,⟨o2,e2,c2,n2,d2⟩,i2⟩:=ky;refine G0U e1 d e2 d2 (QD rfl 0 i i2 ?_ q);have z1:=i.length;have z2:=i2.length;rw [D8] at z1 z2;omega
 rw [R9 a1]
 by_cases a2:(vs[0]?.map λv=> !(jU s.heap v).isEmpty)=some true
 ·rw [R8 a2];show R0 _ _ (G0T false x y) _ _ _;exact EL hu kx ky q
 ·rw [R9 a2,keyLt'_oneType];exact EK hu kx ky q
def Xw {l:G9}{vs:G0 G1}{Q:G1->G3->Prop}(hu:A.in1.in1.units<cLine)(hl:s.heap.IsList l vs.toArray)(hz:vs.length<sizeLine)(x: ∀v∈vs,∃ns,IT s.heap v ns)
 (q: ∀ (h1 h':C7) (tk c:G5) (out:G0 G1),vB s.heap h1->vB h1 h'->h'.get? h1.objs.size=some (cG "list" out.toArray c)->out.Perm vs->out.Pairwise (λx y=>jF (jU s.heap y) (jU s.heap x)=false)->Q (.ref h1.objs.size) {s with heap:=h',toks:=tk}):
 R0 (R7 prog w) A (call (.builtin "sorted") [.ref l]) Q E s:=by
 refine GV (κ:=GX s.heap vs) (U:=λx=> ∃ns,IT s.heap x.1 ns) (R:=λx y=>jF (jU s.heap x.1) (jU s.heap y.1)) hl hz (λh2 h' k=> ?_) (λh' k=>Uu hu k) (Us _) x λh1 h' tk c out k1 k2 e1 e2 e3=>q h1 h' tk c out k1 k2 e1 e2 ?_
 ·exact Ut (s:= {s with heap:=h'}) h2 x k ⟨rfl,s.toks,rfl⟩
 ·rw [L9] at e3;exact e3
end
end HT
namespace L2
open PySem PySem.Spec PyProof.Rows PySem.SeqAt HT
theorem Jg {α β:Type}{f:α->β}: ∀ {out:G0 β} {l:G0 α},out.Perm (l.map f)-> ∃l':G0 α,l'.Perm l/\l'.map f=out
 | [],l,p=>by
  have e:=p.length_eq;rw [G2,C4] at e;exact⟨[],by rw [V5 e.symm],rfl⟩
 |x::out,l,p=>by
  obtain⟨y,hy,rfl⟩:=S9.mp (p.mem_iff.mp R5);obtain⟨l1,l2,rfl⟩:=List.append_of_mem hy;have p2:out.Perm ((l1++l2).map f):=by
   refine G0j (a:=f y) (p.trans ?_);rw [T7,T7,N4];exact mF
  obtain⟨l',a,b⟩:=Jg p2;exact⟨y::l',(a.cons y).trans mF.symm,by rw [N4,b]⟩
def Op (H:Hp)(v:V)(ns:G0 P1):Prop:= ∃a,v= .ref a/\H a=some (.tup (ns.map V.int))
def Uv {X:Cx}{k:G5}(hr:Î k X.A):Ù X (.builtin "sorted") (λxs H Q=> ∃ (a:G9) (ps:G0 (V×G0 P1)),xs= [.ref a]/\í X.K H a (ps.map (·.1))/\ps.length<sizeLine/\(∀p∈ps,Op H p.1 p.2)/\ ∀ (q:G9) (ł:G0 (V×G0 P1)),H q=none->ł.Perm ps->(ł.map (·.2)).Pairwise (λx y=>HT.jF y x=false)->Q (.ref q) (upd H q (.lst (ł.map (·.1))))):=by
 intro ID s σ H xs us Q I r h;obtain⟨a,ps,rfl,hS,hz,ht,q⟩:=h;obtain⟨u,rfl,ru⟩:=vj r;cases ru;obtain⟨its,rv,pl,ġ⟩:=I.list hS;obtain⟨zs,e1,e2,e3⟩: ∃zs:G0 (G1×V×G0 P1),its=zs.map (·.1)/\ps=zs.map (·.2)/\ ∀z∈zs,RelV z.2.1 z.1:=by
  clear hS q hz ht ġ pl
  induction ps generalizing its with
  |nil=>cases rv;exact⟨[],rfl,rfl,λz hz=>by cases hz⟩
  |cons p ps ih=>
   rw [N4] at rv;cases rv with
   |cons r1 r2=>
    obtain⟨zs,e1,e2,e3⟩:=ih _ r2;exact⟨(_,p)::zs,by rw [N4,<-e1],by rw [N4,<-e2],λz hz=>by
     rcases D5.mp hz with rfl|hz
     ·exact r1
     ·exact e3 z hz⟩
 subst e1 e2;have it: ∀z∈zs,IT s.heap z.1 z.2.2:=λz hm=>by
  obtain⟨b,eb,hb⟩:=ht z.2 (aG hm);have rz:=e3 z hm;rw [eb] at rz;have rz:z.1= .ref b:=rz;obtain⟨_,us,r2,p⟩:=I.hok b _ hb;exact⟨b,us.toArray,rz,p.tup,Zc r2⟩
 have hu:X.A.in1.in1.units<cLine:=by
  have:=hr.un;show X.A.units+1+1<cLine;omega
 rw [G2] at hz;refine HT.Xw hu pl.isList (by rw [G2];exact hz) (λv hv=> ?_) λh1 h' tk c out k1 k2 e4 pm srt=> ?_
 ·obtain⟨z,hm,rfl⟩:=S9.mp hv;exact⟨_,it z hm⟩
 obtain⟨zs',pz,rfl⟩:=Jg pm;have I1:=I.kept (t':=s.toks) k1;have vv: ∀l:G0 (G1×V×G0 P1),(∀z∈l,z∈zs)->Æ ((l.map (·.2)).map (·.1)) (l.map (·.1)):=λl=>by
  induction l with
  |nil=>exact λ_=> .nil
  |cons z l ih=>exact λsub=> .cons (e3 z (sub z R5)) (ih λy hy=>sub y (T3 _ hy))
 refine⟨.ref _,_,I1.laid (t':=tk) (o:= .lst ((zs'.map (·.2)).map (·.1))) k2 (P3 _) ⟨?_,_,c,vv zs' λz hm=>pz.mem_iff.mp hm,e4⟩,rfl,q _ (zs'.map (·.2)) (I1.hok.fresh (P3 _)) (pz.map _) ?_⟩
 ·rw [G2,G2,pz.length_eq];exact S6 hz
 ·rw [L9,L9];rw [L9] at srt;refine srt.imp_of_mem λ{y z} hy hz e=> ?_
  rw [<- (it y (pz.mem_iff.mp hy)).nums,<- (it z (pz.mem_iff.mp hz)).nums];exact e
abbrev tI (ns:G0 P1):D:= .tup (ns.map D.int)
def Li:RDn:=λds h Q=> ∃ (a:G9) (Ρ:G0 (G0 P1)),ds= [.lst a]/\h a=some (Ρ.map tI)/\Ρ.length<sizeLine/\ ∀ (p:G9) (mss:G0 (G0 P1)),h p=none->mss.Perm Ρ->mss.Pairwise (λx y=>HT.jF y x=false)->Q (.lst p) (zF h p (mss.map tI))
theorem Xx {K:G6}{H:Hp}: ∀ {Ρ:G0 (G0 P1)} {vs:G0 V},À K H (Ρ.map tI) vs-> ∃ps:G0 (V×G0 P1),vs=ps.map (·.1)/\Ρ=ps.map (·.2)/\ ∀p∈ps,Op H p.1 p.2
 | [],vs,r=>⟨[],r,rfl,λp hp=>by cases hp⟩
 |ns::Ρ,vs,r=>by
  obtain⟨v,us,e,r1,r2⟩:=(show ∃v r,vs=v::r/\É K H (tI ns) v/\À K H (Ρ.map tI) r from r);obtain⟨ps,e1,e2,e3⟩:=Xx r2;obtain⟨a,ws,e4,hH,r4⟩:=(show ∃a vs,v= .ref a/\H a=some (.tup vs)/\À K H (ns.map D.int) vs from r1);rw [jX r4] at hH;exact⟨(v,ns)::ps,by rw [e,e1];rfl,by rw [e2];rfl,λp hp=>by
   rcases D5.mp hp with rfl|hp
   ·exact⟨a,e4,hH⟩
   ·exact e3 p hp⟩
theorem Xy {K:G6}{H:Hp}: ∀ {ps:G0 (V×G0 P1)},(∀p∈ps,Op H p.1 p.2)->À K H ((ps.map (·.2)).map tI) (ps.map (·.1))
 | [],_=> .nil
 |p::ps,h=> .cons (by
  obtain⟨a,e,hH⟩:=h p R5;exact⟨a,_,e,hH,wM _⟩) (Xy λq hq=>h q (T3 _ hq))
def Yu {X:Cx}{k:G5}(hr:Î k X.A):yU X (.builtin "sorted") Li:=(Uv hr).imp λxs H Q ⟨ds,h,Qd,r,rh,⟨a,Ρ,e,hd,hz,q⟩,p⟩=>by
 subst e;obtain⟨v,e,r1⟩:=jB r;obtain⟨vs,hH,r2⟩:=rh a _ hd;have e1:v= .ref a:=r1.1;subst e e1;obtain⟨ps,rfl,rfl,ht⟩:=Xx r2;refine⟨a,ps,rfl,í.of hH,by rw [G2] at hz;exact hz,ht,λc ł hc pm srt=> ?_⟩;exact p (.lst c) _ _ _ (.new hc) (rh.newL hc (Xy λx hx=>ht x (pm.mem_iff.mp hx))) ⟨rfl,_,ji⟩ (q c _ (rh.free hc) (pm.map _) srt)
abbrev toI (S:G0 G5):G0 P1:=S.map λ(k:G5)=>(k:P1)
def Lj {S S':G0 G5}(h:toI S=toI S'):S=S':=by
 have:=congrArg (gF oN) h;rw [N8,N8] at this;have e:(oN∘λ(k:G5)=>(k:P1))=id:=by funext k;exact V3 k
 rw [e,oC,oC] at this;exact this
def Uw (S:G0 G5):tI (toI S)=jA S:=by
 show D.tup _=D.tup _;rw [N8];rfl
def leS (a b:G0 G5):M7:= !HT.jF (toI b) (toI a)
def RH (a b c:G0 G5)(h:leS a b=true)(h':leS b c=true):leS a c=true:=by
 unfold leS at*
 cases e:HT.jF (toI c) (toI a) with
 |false=>rfl
 |true=>
  rcases Wn _ (toI b) _ e with z|z
  ·rw [z] at h';cases h'
  ·rw [z] at h;cases h
def RI (a b:G0 G5):(leS a b||leS b a)=true:=by
 unfold leS;cases e:HT.jF (toI b) (toI a) with
 |false=>rfl
 |true=>rw [yO _ _ e];rfl
def NR {a b:G0 G5}(h:leS a b=true)(h':leS b a=true):a=b:=by
 unfold leS at*
 refine Lj (vC _ _ ?_ ?_)
 ·cases e:HT.jF (toI a) (toI b) with
  |false=>rfl
  |true=>rw [e] at h';cases h'
 ·cases e:HT.jF (toI b) (toI a) with
  |false=>rfl
  |true=>rw [e] at h;cases h
def RJ (l:G0 (G0 G5)):G0 (G0 G5):=l.mergeSort leS
def yP (l:G0 (G0 G5)):(RJ l).Perm l:=List.mergeSort_perm _ _
def GY (l:G0 (G0 G5)):(RJ l).Pairwise λa b=>leS a b=true:=List.pairwise_mergeSort RH RI l
def RK {l P:G0 (G0 G5)}(p:P.Perm l)(r:P.Pairwise λa b=>leS a b=true):P=RJ l:=
 u9 (λa b _ _ x y=>NR x y) r (GY l) (p.trans (yP l).symm)
def Ux {l:G0 (G0 G5)}{mss:G0 (G0 P1)}(p:mss.Perm (l.map toI))(r:mss.Pairwise λx y=>HT.jF y x=false):mss.map tI=(RJ l).map jA:=by
 obtain⟨P,pP,rfl⟩:=Jg p;rw [L9] at r;rw [<-RK pP (r.imp λe=>by unfold leS;rw [e];rfl),N8];exact B6 λS _=>Uw S
end L2
namespace L2
open PySem PySem.Spec PyProof.Rows PySem.SeqAt
theorem QF: ∀l:G0 P1,W6 (l.map gY)=true
 | []=>rfl
 |x::l=>by show (aW (.int x)&&_)=true;rw [QF l];rfl
variable {S:G0 G5}{h:HD}{Q:KD}
def RL {neg:M7}{x:G5}(q: ∀b:M7,(b=true↔x∈S)->Q (.bl (neg !=b)) h):inE neg (.int (x:P1)) (jA S) h Q:=by
 refine⟨.int x,(WM S).map gY,rfl,.inr (Xs h S),rfl,QF _,(by show (0:G5)<=60;decide),q _ ?_⟩;rw [dP];constructor
 ·rintro ⟨z,hz,e⟩;obtain⟨m,hm,rfl⟩:=S9.mp hz;obtain⟨y,hy,rfl⟩:=S9.mp (show m∈S.map λ(k:G5)=>(k:P1) from hm);have:(y:P1)=x:=by simpa [O5] using e
  have:y=x:=by omega
  exact this ▸ hy
 ·intro z;exact⟨.int x,S9.mpr ⟨_,S9.mpr ⟨x,z,rfl⟩,rfl⟩,by simp [O5]⟩
def Lk {x:G5}(q:Q (.bl (decide (x∈S))) h):inE false (.int (x:P1)) (jA S) h Q:=RL λbo hb=>by
 have:(false !=bo)=decide (x∈S):=by
  cases bo with
  |true=>rw [D3 (hb.mp rfl)];rfl
  |false=>rw [D9 λz=>by have:=hb.mpr z;cases this];rfl
 rw [this];exact q
def Ll (n:G5)(T:G0 (G0 P1))(S:G0 G5):M7:=(yn n T S).all λj=>decide (j∈S)
def NS {A:G9}{P:G0 (G0 G5)}(k:h A=some (P.map jA)):ė h (.lst A) (.list (P.map GD)):=⟨A,_,rfl,k,Ui h P⟩
def yQ {h':HD}{a:G9}(sb:Sub h h')(e:h' a=none):h a=none:=by
 cases z:h a with
 |none=>rfl
 |some ds=>rw [sb a ds z] at e;cases e
def Sub.over {h':HD}{a:G9}{ds:G0 D}(sb:Sub h h')(e:h a=none):Sub h (zF h' a ds):=⟨λb xs k=>jh (λz=>by subst z;rw [e] at k;cases k) (sb b xs k),sb.dc⟩
def Lm {A B:G9}(k:h A=some (S.map λ(k:G5)=>D.int (k:P1)))(k':h B=some [])(q:Q (.bl (decide (S= []))) h):eqE (.lst A) (.lst B) h Q:=by
 refine⟨.list ((WM S).map .int),.list [],⟨A,_,rfl,k,?_⟩,⟨B,_,rfl,k',rfl⟩,ZY _,by decide +kernel,?_⟩
 ·have:=vV h (WM S);unfold WM at this ⊢;rw [N8 (f:=λ(k:G5)=>(k:P1)) (g:=D.int)] at this;exact this
 ·cases S with
  |nil=>exact q
  |cons x S=>exact q
def RM {x:G5}(q:Q (.bl (!decide (x∈S))) h):inE true (.int (x:P1)) (jA S) h Q:=RL λbo hb=>by
 have:(true !=bo)= !decide (x∈S):=by
  cases bo with
  |true=>rw [D3 (hb.mp rfl)];rfl
  |false=>rw [D9 λz=>by have:=hb.mpr z;cases this];rfl
 rw [this];exact q
structure GB (n:G5)(h0 h:HD)(R:G9)(rs:G0 G9)(f:G5->G5->M7):Prop where
 at_:h R=some (rs.map D.lst)
 len:rs.length=n
 nR:R ∉ rs
 nd:rs.Nodup
 sb:Sub h0 h
 row: ∀i a,rs[i]? =some a->h0 a=none/\h a=some ((P4 n).map λj=>D.bl (f i j))
section
variable {n:G5}{h0 h:HD}{R:G9}{rs:G0 G9}{f g:G5->G5->M7}
def GB.put (G:GB n h0 h R rs f){i j:G5}{a:G9}{v:M7}(ha:rs[i]? =some a):GB n h0 (zF h a (((P4 n).map λj=>D.bl (f i j)).set j (.bl v))) R rs (λx y=>if x=i/\y=j then v else f x y):=by
 have hm:=P9 ha;have il:=(P6.mp ha).1;refine⟨jh (λz=>G.nR (z ▸ hm)) G.at_,G.len,G.nR,G.nd,G.sb.over (G.row i a ha).1,λx b hb=>⟨(G.row x b hb).1,?_⟩⟩
 by_cases z:x=i
 ·subst z;have eb:b=a:=by rw [ha] at hb;injection hb with hb;exact hb.symm
  subst eb;rw [jc];refine congrArg some (rD (by simp) λm h1 h2=> ?_);rw [List.getElem_set];simp only [List.getElem_map,cO]
  by_cases e:j=m
  ·subst e;simp
  ·rw [R9 e,R9 λw=>e w.2.symm]
 ·have ne:b≠a:=λw=>z ((List.getElem?_inj (P6.mp hb).1 G.nd).mp (hb.trans (by rw [w];exact ha.symm)))
  rw [jh ne (G.row x b hb).2];exact congrArg some (B6 λy _=>by rw [R9 λw=>z w.1])
def GB.pick (G:GB n h0 h R rs f){i:G5}(hi:i<n): ∃a,rs[i]? =some a/\Ċ (rs.map D.lst) (i:P1)=some (.lst a)/\h a=some ((P4 n).map λj=>D.bl (f i j)):=by
 have â:i<rs.length:=by rw [G.len];exact hi
 exact⟨rs[i],G8 â,zH (by rw [P7,G8 â];rfl),(G.row i _ (G8 â)).2⟩
def GB.as (G:GB n h0 h R rs f)(e: ∀i j,i<n->j<n->f i j=g i j):GB n h0 h R rs g:=
 ⟨G.at_,G.len,G.nR,G.nd,G.sb,λi a ha=>⟨(G.row i a ha).1,by
  have hi:i<n:=by rw [<-G.len];exact(P6.mp ha).1
  rw [(G.row i a ha).2];exact congrArg some (B6 λj hj=>by rw [e i j hi (D1.mp hj)])⟩⟩
def GB.up (G:GB n h0 h R rs f){h':HD}(s:Sub h h'):GB n h0 h' R rs f:=⟨s _ _ G.at_,G.len,G.nR,G.nd,G.sb.trans s,λi a ha=>⟨(G.row i a ha).1,s _ _ (G.row i a ha).2⟩⟩
end
variable {n j:G5}
def QH {f:G5->M7}(hj:j<n):Ċ ((P4 n).map λj=>D.bl (f j)) (j:P1)=some (.bl (f j)):=FH hj
def wk (T:G0 (G0 P1)):G5->G5->G5->M7
 |0,i,j=>decide (i=j)|| !decide (Ï T i j=0)
 |b+1,i,j=>wk T b i j||(wk T b i b&&wk T b b j)
theorem Vg (T:G0 (G0 P1)): ∀b i,wk T b i i=true
 |0,i=>by unfold wk;rw [D3 rfl];rfl
 |b+1,i=>by unfold wk;rw [Vg T b i];rfl
def BR (T:G0 (G0 P1))(b i:G5):wk T (b+1) i b=wk T b i b:=by
 show (wk T b i b||(wk T b i b&&wk T b b b))=_;cases wk T b i b<;>rfl
def BS (T:G0 (G0 P1))(b j:G5):wk T (b+1) b j=wk T b b j:=by
 show (wk T b b j||(wk T b b b&&wk T b b j))=_;cases wk T b b j<;>cases wk T b b b<;>rfl
variable {T:G0 (G0 P1)}{i:G5}
theorem QJ (h:Ï T i j≠0): ∀b,wk T b i j=true
 |0=>by unfold wk;rw [D9 h];simp
 |b+1=>by unfold wk;rw [QJ h b];rfl
def Ā {b:G5}:wk T (b+1) i j=true↔wk T b i j=true\/(wk T b i b=true/\wk T b b j=true):=by
 show (wk T b i j||(wk T b i b&&wk T b b j))=true↔_;rw [bK,B8]
theorem wE: ∀ {b i k j:G5},k<b->wk T b i k=true->wk T b k j=true->wk T b i j=true
 |b+1,i,k,j,hk,x,y=>by
  by_cases e:k=b
  ·subst e;rw [BR] at x;rw [BS] at y;exact Ā.mpr (.inr ⟨x,y⟩)
  ·have lt:k<b:=by omega
   rcases Ā.mp x with x|⟨x1,x2⟩
   ·rcases Ā.mp y with y|⟨y1,y2⟩
    ·exact Ā.mpr (.inl (wE lt x y))
    ·exact Ā.mpr (.inr ⟨wE lt x y1,y2⟩)
   ·rcases Ā.mp y with y|⟨y1,y2⟩
    ·exact Ā.mpr (.inr ⟨x1,wE lt x2 y⟩)
    ·exact Ā.mpr (.inr ⟨x1,y2⟩)
theorem Jh {P:G5->G5->Prop}(r: ∀i,P i i)(a: ∀i j,Ï T i j≠0->P i j)(t: ∀i k j,P i k->P k j->P i j): ∀ {b i j:G5},wk T b i j=true->P i j
 |0,i,j,h=>by
  have h:(decide (i=j)|| !decide (Ï T i j=0))=true:=h;rw [bK] at h;rcases h with h|h
  ·rw [L8 h];exact r j
  ·exact a i j λz=>by rw [D3 z] at h;cases h
 |b+1,i,j,h=>by
  rcases Ā.mp h with h|⟨h1,h2⟩
  ·exact Jh r a t h
  ·exact t _ _ _ (Jh r a t h1) (Jh r a t h2)
noncomputable def ğ (n:G5)(T:G0 (G0 P1))(S:G0 G5):G0 G5:=(P4 n).filter λj=>S.any λi=>wk T n i j
def RN (n:G5)(T:G0 (G0 P1))(S:G0 G5):ø n (ğ n T S):=⟨_,rfl⟩
def Ĭ:j∈ğ n T S↔j<n/\ ∃i∈S,wk T n i j=true:=by
 unfold ğ;rw [C3,D1,dP]
def EM (hS:ø n S){j:G5}(hj:j∈S):j∈ğ n T S:=Ĭ.mpr ⟨hS.lt hj,j,hj,Vg T n j⟩
def ă:j∈yn n T S↔j<n/\ ∃i∈S,Ï T i j≠0:=by
 unfold yn;rw [C3,D1,dP];exact⟨λ⟨a,i,hi,z⟩=>⟨a,i,hi,by simpa using z⟩,λ⟨a,i,hi,z⟩=>⟨a,i,hi,by simpa using z⟩⟩
def ŭ:Ll n T S=true↔ ∀i∈S,∀j,j<n->Ï T i j≠0->j∈S:=by
 unfold Ll;rw [N9];constructor
 ·intro h i hi j hj e;exact L8 (h j (ă.mpr ⟨hj,i,hi,e⟩))
 ·intro h j hj;obtain⟨a,i,hi,e⟩:=ă.mp hj;exact D3 (h i hi j a e)
def Hh {U:G0 G5}(hU:Ll n T U=true)(out: ∀i j,Ï T i j≠0->j<n)(sub: ∀i∈S,i∈U){j:G5}(hj:j∈ğ n T S):j∈U:=by
 obtain⟨_,s,hs,w⟩:=Ĭ.mp hj;exact Jh (P:=λi j=>i∈U->j∈U) (λ_ x=>x) (λi j e x=>ŭ.mp hU i x j (out i j e) e) (λi k j x y z=>y (x z)) w (sub s hs)
def RO {e:G5}(h:Sq n e T)(i j:G5)(z:Ï T i j≠0):j<n:=by
 by_cases hj:j<n
 ·exact hj
 ·exfalso;apply z;unfold Ï
  by_cases hi:i<T.length
  ·have hr:=h.row (T.getD i []) (by rw [D7,G8 hi];exact L0 hi);rw [D7,O8 (by rw [hr];omega)];rfl
  ·rw [D7 (l:=T),O8 (by omega)];rfl
def fW (T:G0 (G0 P1))(b i j x y:G5):M7:=if x<i\/(x=i/\y<j) then wk T (b+1) x y else wk T b x y
def EN (T:G0 (G0 P1))(b i j x:G5):fW T b i j x b=wk T b x b:=by
 unfold fW;rw [BR]
 by_cases c:x<i\/(x=i/\b<j)
 ·rw [R8 c]
 ·rw [R9 c]
def EO (T:G0 (G0 P1))(b i j y:G5):fW T b i j b y=wk T b b y:=by
 unfold fW;rw [BS]
 by_cases c:b<i\/(b=i/\y<j)
 ·rw [R8 c]
 ·rw [R9 c]
def EQ {b:G5}(h1:wk T b i b=true)(h2:wk T b b j=true)(x y:G5):(if x=i/\y=j then true else fW T b i j x y)=fW T b i (j+1) x y:=by
 by_cases e:x=i/\y=j
 ·obtain⟨rfl,rfl⟩:=e;unfold fW;rw [R8 ⟨rfl,rfl⟩,R8 (.inr ⟨rfl,V9 _⟩)];exact(Ā.mpr (.inr ⟨h1,h2⟩)).symm
 ·rw [R9 e];unfold fW
  by_cases c:x<i\/(x=i/\y<j)
  ·rw [R8 c,R8 (by omega)]
  ·rw [R9 c,R9 (by omega)]
def RQ {b:G5}(h: ¬ (wk T b i b=true/\wk T b b j=true))(x y:G5):fW T b i j x y=fW T b i (j+1) x y:=by
 unfold fW
 by_cases c:x<i\/(x=i/\y<j)
 ·rw [R8 c,R8 (by omega)]
 ·rw [R9 c]
  by_cases e:x=i/\y=j
  ·obtain⟨rfl,rfl⟩:=e;rw [R8 (by omega),J9,Ā];exact⟨.inl,λz=>z.resolve_right h⟩
  ·rw [R9 (by omega)]
def Ln (T:G0 (G0 P1))(b i x y:G5)(hy:y<n):fW T b i n x y=fW T b (i+1) 0 x y:=by
 unfold fW
 by_cases c:x<i\/(x=i/\y<n)
 ·rw [R8 c,R8 (by omega)]
 ·rw [R9 c,R9 (by omega)]
def ER (T:G0 (G0 P1))(b x y:G5)(hx:x<n):fW T b n 0 x y=wk T (b+1) x y:=by
 unfold fW;rw [R8 (.inl hx)]
def Lo (T:G0 (G0 P1))(b x y:G5):wk T b x y=fW T b 0 0 x y:=by
 unfold fW;rw [R9 (by omega)]
section
variable {X:Cx}{iter ú elt:M9}{te:TED}{ti ti':TID}{tt η:TTD}{pos Ą:Pos}{scope:K1}{js:G0 G5}{ifs œ:G0 M9}
def Lp {i i' k:G5}{x z y:Str}{p pz py:Pos}(hc:X.calm=true)(hN:X.N.Nodup)(hk:X.N[k]? =some y)(hy:Loc X.env.scope y)(S:Õ X scope js)(hi:JI X (.Name x p) iter ti)(hj:i∈js)(hj':i'∈js)(ť:i≠i')(hx:X.N[i]? =some x)(hz:X.N[i']? =some z)
 (hl:scope.names.lookup x=some .local\/scope.names.lookup x=some .cell)(hl':scope.names.lookup z=some .local\/scope.names.lookup z=some .cell)
 (ht: ∀X',jx X scope X'->ŏ X' ifs (LT X'.K tt))(â: ∀X',jx X scope X'->JI X' (.Name z pz) ú ti')(ht': ∀X',jx X scope X'->ŏ X' œ (LT X'.K η))(he: ∀X',jx X scope X'->JE X' elt te)
 (hsw:aQ (.ListComp elt [⟨.Name x p,iter,ifs,0⟩,⟨.Name z pz,ú,œ,0⟩] scope pos) (some (.Name y py)) Ą.line X.env=pure true:=by rfl)
 (hf:X.fn y=true\/X.env.scope.names.lookup y=some .local:=by first|exact .inl rfl|exact .inr rfl|assumption)(hs: ∀x,C8 iter X.env x=pure x:=by intro _;rfl)(Ħ: ∀env x,C8 ú env x=pure x:=by intro _ _;rfl):
 JS X (.Assign [.Name y py] (.ListComp elt [⟨.Name x p,iter,ifs,0⟩,⟨.Name z pz,ú,œ,0⟩] scope pos) Ą) (BG k (Tz (bN i) js ti tt i' ti' η te)):=by
 have base:PS X (.Assign [.Name y py] (.ListComp elt [⟨.Name x p,iter,ifs,0⟩,⟨.Name z pz,ú,œ,0⟩] scope pos) Ą) (Bx (HL js (LI X.K ti) (ym i) (LT X.K tt) (LI X.K ti') (ym i') (LT X.K η) (LE X.K te)) (ym k)):=
  Dq hc S hi.to rfl (λX' hX=>by obtain⟨C,s₀,H₀,ex,rfl⟩:=hX;exact yL hN hx hl) (λX' hX=>by have:=ht X' hX;obtain⟨C,s₀,H₀,ex,rfl⟩:=hX;exact this)
   (λenv acc=>Dr (.ListComp elt [⟨.Name x p,iter,ifs,0⟩,⟨.Name z pz,ú,œ,0⟩] scope pos) ú env acc) (λ_ _ _=>CM ..)
   (λX' hX D=>by
    have a:=(â X' hX).to;have b:=ht' X' hX;have c:=(he X' hX).to;obtain⟨C,s₀,H₀,ex,rfl⟩:=hX;exact CL (g:=ym i') hc rfl a (yL hN hz hl') b c (Ħ _))
   (vh hN hk hy hf) hsw hs
 exact⟨base.imp λD σ H h=>by
  obtain⟨Â,hd,Qd,rs,rh,t,p⟩:=Dx (K:=X.K) D σ H h;exact AN (AM hj hj' ť) σ H _ ⟨Â,hd,Qd,rs,rh,t,p⟩⟩
end
def BT (g:G5->G5->M7)(w:G0 G5)(j:G5):M7:=g (w.getLastD 0) j&&(decide (w.headD 0<j)&& !decide (j∈w))
noncomputable def ME (g:G5->G5->M7)(n:G5)(w:G0 G5):G0 (G0 G5):=((P4 n).filter (BT g w)).map λj=>w++ [j]
noncomputable def ã (g:G5->G5->M7)(n:G5):G5->G0 (G0 G5)
 |0=>(P4 n).map λi=> [i]
 |t+1=>(ã g n t).flatMap (ME g n)
variable {α:Type}
theorem wt {p q:α->M7}(h: ∀a,p a=true->q a=true): ∀l:G0 α,(l.filter p).Sublist (l.filter q)
 | []=> .slnil
 |a::l=>by
  cases e:p a with
  |true=>rw [Q8 e,Q8 (h a e)];exact(wt h l).cons₂ a
  |false=>
   rw [Q9 (by rw [e];exact R3)];cases e':q a with
   |true=>rw [Q8 e'];exact(wt h l).cons a
   |false=>rw [Q9 (by rw [e'];exact R3)];exact wt h l
theorem Wo {β:Type}{f g:α->G0 β}(h: ∀a,(f a).Sublist (g a)): ∀ {l m:G0 α},l.Sublist m->(l.flatMap f).Sublist (m.flatMap g)
 |_,_,.slnil=> .slnil
 |_,_,.cons a s=>by rw [lL];exact(Wo h s).trans (List.sublist_append_right _ _)
 |_,_,.cons₂ a s=>by rw [lL,lL];exact(h a).append (Wo h s)
variable {g:G5->G5->M7}
theorem ZA {g':G5->G5->M7}(h: ∀i j,g i j=true->g' i j=true)(n:G5): ∀t,(ã g n t).Sublist (ã g' n t)
 |0=>List.Sublist.refl _
 |t+1=>Wo (λw=>(wt (λj e=>by
  unfold BT at*
  rw [B8] at*
  exact⟨h _ _ e.1,e.2⟩) (P4 n)).map _) (ZA h n t)
def SE:G5->G5->M7:=λ_ _=>true
def Lq: ∀n,n<=6-> ∀t,t<=6->(ã SE n t).length<=144:=by decide +kernel
variable {t:G5}
def Vh (h6:n<=6)(ht:t<=6):(ã g n t).length<=144:=R6 (ZA (λ_ _ _=>rfl) n t).length_le (Lq n h6 t ht)
def NT (n:G5)(h6:n<=6):ã SE n n= []:=by
 have: ∀n,n<=6->ã SE n n= []:=by decide +kernel
 exact this n h6
def RR (h6:n<=6):ã g n n= []:=V5 (Nat.le_zero.mp (by rw [<-C4 (α:=G0 G5),<-NT n h6];exact(ZA (λ_ _ _=>rfl) n n).length_le))
def ES (h:ã g n t= []):ã g n (t+1)= []:=by
 show (ã g n t).flatMap _= [];rw [h];rfl
structure X0n (n t:G5)(w:G0 G5):Prop where
 len:w.length=t+1
 lt: ∀i∈w,i<n
 nd:w.Nodup
 low: ∀i∈w,w.headD 0<=i
theorem Wp: ∀ {t:G5} {w:G0 G5},w∈ã g n t->X0n n t w
 |0,w,h=>by
  obtain⟨i,hi,rfl⟩:=S9.mp h;exact⟨rfl,λj hj=>by rw [P0.mp hj];exact D1.mp hi,O3 _ _,λj hj=>by rw [P0.mp hj];exact P3 _⟩
 |t+1,w,h=>by
  obtain⟨v,hv,hw⟩:=rL.mp h;have o:=Wp hv;obtain⟨j,hj,rfl⟩:=S9.mp hw;obtain⟨hj1,hj2⟩:=C3.mp hj;unfold BT at hj2;rw [B8,B8] at hj2;obtain⟨_,h3,h4⟩:=hj2;have h3:=L8 h3;have h4:j ∉ v:=λz=>by rw [D3 z] at h4;cases h4
  have hd:(v++ [j]).headD 0=v.headD 0:=by
   cases v with
   |nil=>have:=o.len;cases this
   |cons a v=>rfl
  refine⟨by rw [D0,o.len];rfl,λi hi=> ?_,?_,λi hi=> ?_⟩
  ·rcases R4.mp hi with z|z
   ·exact o.lt i z
   ·rw [P0.mp z];exact D1.mp hj1
  ·exact bT.mpr ⟨o.nd,O3 _ _,λa ha b hb e=>by rw [P0.mp hb] at e;subst e;exact h4 ha⟩
  ·rw [hd];rcases R4.mp hi with z|z
   ·exact o.low i z
   ·rw [P0.mp z];exact S6 h3
noncomputable def Jw (g:G5->G5->M7)(n:G5):G5->G0 (G0 G5)
 |0=> []
 |t+1=>Jw g n t++(ã g n t).filter λw=>g (w.getLastD 0) (w.headD 0)
def jQ (T:G0 (G0 P1))(i j:G5):M7:=decide (Ï T i j>0)
def jG (T:G0 (G0 P1))(n:G5):G0 (G0 G5):=RJ (Jw (jQ T) n n)
theorem Uy {g':G5->G5->M7}(h: ∀i j,g i j=true->g' i j=true)(n:G5): ∀t,(Jw g n t).length<=(Jw g' n t).length
 |0=>P3 _
 |t+1=>by
  show (Jw g n t++_).length<=(Jw g' n t++_).length;rw [D0,D0];exact tZ (Uy h n t) (((ZA h n t).filter _).trans (wt (λw e=>h _ _ e) _)).length_le
def Lr: ∀n,n<=6-> ∀t,t<=6->(Jw SE n t).length<=415:=by decide +kernel
def Ji (h6:n<=6)(ht:t<=6):(Jw g n t).length<=415:=R6 (Uy (λ_ _ _=>rfl) n t) (Lr n h6 t ht)
theorem Wq: ∀ {t:G5} (k:G5),ã g n t= []->Jw g n (t+k)=Jw g n t/\ã g n (t+k)= []
 |t,0,h=>⟨rfl,h⟩
 |t,k+1,h=>by
  obtain⟨a,b⟩:=Wq k h;refine⟨?_,ES b⟩;show Jw g n (t+k)++(ã g n (t+k)).filter _=_;rw [b,a,fG,O9]
theorem RS: ∀ {t:G5} {w:G0 G5},w∈Jw g n t-> ∃s,s<t/\X0n n s w/\g (w.getLastD 0) (w.headD 0)=true
 |t+1,w,h=>by
  rcases R4.mp (show w∈Jw g n t++(ã g n t).filter _ from h) with z|z
  ·obtain⟨s,a,b⟩:=RS z;exact⟨s,by omega,b⟩
  ·obtain⟨z1,z2⟩:=C3.mp z;exact⟨t,V9 t,Wp z1,z2⟩
variable {w:G0 G5}
def Uz (h:w∈jG T n): ∃s,s<n/\X0n n s w/\Ï T (w.getLastD 0) (w.headD 0)>0:=by
 obtain⟨s,a,b,c⟩:=RS ((yP _).mem_iff.mp h);exact⟨s,a,b,L8 c⟩
def GZ (h6:n<=6):(jG T n).length<=415:=by
 unfold jG;rw [(yP _).length_eq];exact Ji h6 h6
def ZB (h:w.length=t+1):Ċ (w.map λ(k:G5)=>D.int (k:P1)) 0=some (.int ((w.headD 0:G5):P1)):=by
 cases w with
 |nil=>cases h
 |cons a w=>exact zH (j:=0) rfl
def Ś (h:w.length=t+1):Ċ (w.map λ(k:G5)=>D.int (k:P1)) (-1)=some (.int ((w.getLastD 0:G5):P1)):=by
 refine Nr (by rw [G2];omega) ?_;rw [G2,P7,bH,bI,G8 (by omega)];rfl
def Xz (h:w.length=t+1):w.getLastD 0∈w:=by
 rw [bH,bI,G8 (by omega)];exact L0 _
def QK (h:w.length=t+1):w.headD 0∈w:=by
 cases w with
 |nil=>cases h
 |cons a w=>exact R5
variable {β:Type}
def UA (f:α->G0 β){xs:G0 α}{k:G5}{x:α}(h:xs[k]? =some x):(xs.take (k+1)).flatMap f=(xs.take k).flatMap f++f x:=by
 rw [E7,h,oV];simp
def UB (p:α->M7)(g:α->β){xs:G0 α}{k:G5}{x:α}(h:xs[k]? =some x):((xs.take (k+1)).filter p).map g=((xs.take k).filter p).map g++if p x=true then [g x] else []:=by
 rw [E7,h,J6,T7]
 congr 1
 by_cases c:p x=true
 ·rw [R8 c];simp [c]
 ·rw [R9 c];simp [c]
def yu (f:α->G0 β)(xs:G0 α)(k:G5):((xs.take k).flatMap f).length<=(xs.flatMap f).length:=by
 conv=>rhs;rw [<-N6 k xs,oV,D0]
 omega
section
variable {α β:Type}{i i':G5}{js:G0 G5}{ti ti':TID}{η:TTD}{te:TED}{σ:SD}{h:HD}{Q:KD}{j:İ}
def ET (xs:G0 α)(c:α->D)(ys:α->G0 β)(c':β->D)(p:α->β->M7)(g:α->β->D)(hz:(xs.flatMap λx=>((ys x).filter (p x)).map (g x)).length<=sizeLine)(hj: ∀h',Sub h h'->j h'=some (xs.map c))(ht: ∀R:İ->HD->Prop,R j h->ti σ h R)
 (hin: ∀x∈xs,∀h',Sub h h'-> ∀R:İ->HD->Prop,(∀j' h2,Sub h' h2->(∀h3,Sub h2 h3->j' h3=some ((ys x).map c'))->R j' h2)->ti' ((jJ js σ).set i (some (c x))) h' R)
 (hp: ∀x∈xs,∀y∈ys x,∀h',Sub h h'-> ∀Q':M7->HD->Prop,Q' (p x y) h'->η (((jJ js σ).set i (some (c x))).set i' (some (c' y))) h' Q')
 (he: ∀x∈xs,∀y∈ys x,p x y=true-> ∀h',Sub h h'-> ∀Q':KD,Q' (g x y) h'->te (((jJ js σ).set i (some (c x))).set i' (some (c' y))) h' Q')
 (hq: ∀a h',Sub h h'->h' a=none->Q (.lst a) (zF h' a (xs.flatMap λx=>((ys x).filter (p x)).map (g x)))):Tz (bN i) js ti Ye i' ti' η te σ h Q:=by
 refine ht _ ⟨xs.length,λk zs h'=>Sub h h'/\zs=(xs.take k).flatMap λx=>((ys x).filter (p x)).map (g x),⟨Sub.refl h,rfl⟩,?_⟩;rintro k zs h1 ⟨s1,rfl⟩;refine⟨R6 (yu _ xs k) hz,xs.map c,hj h1 s1,by rw [G2];exact P3 _,λhl a ha=> ?_,λd hd=> ?_⟩
 ·rw [G2] at hl;rw [N2 hl];exact hq a h1 s1 ha
 rw [P7] at hd;cases ex:xs[k]? with
 |none=>rw [ex] at hd;cases hd
 |some x=>
  rw [ex] at hd;injection hd with hd
  subst hd;have mx:=P9 ex;refine⟨_,rfl,?_⟩;unfold Ye;refine JB ?_;refine hin x mx h1 s1 _ λj' h2 s2 hj'=>⟨(ys x).length,λm zs h'=>Sub h2 h'/\zs=((xs.take k).flatMap λx=>((ys x).filter (p x)).map (g x))++(((ys x).take m).filter (p x)).map (g x),⟨Sub.refl h2,by simp⟩,?_⟩
  rintro m zs h3 ⟨s3,rfl⟩;have s03:Sub h h3:=(s1.trans s2).trans s3;have tk:=UA (λx=>((ys x).filter (p x)).map (g x)) ex;refine⟨?_,(ys x).map c',hj' h3 s3,by rw [G2];exact P3 _,λhl=> ?_,λd hd=> ?_⟩
  ·refine R6 ?_ (R6 (yu (λx=>((ys x).filter (p x)).map (g x)) xs (k+1)) hz);rw [tk,D0,D0,G2,G2];have:=(W1 m (ys x)).filter (p x) |>.length_le;omega
  ·rw [G2] at hl;refine⟨h3,Sub.refl _,s03,?_⟩;rw [tk,N2 hl]
  ·rw [P7] at hd;cases ey:(ys x)[m]? with
   |none=>rw [ey] at hd;cases hd
   |some y=>
    rw [ey] at hd;injection hd with hd
    subst hd;have my:=P9 ey;have tf:=UB (p x) (g x) ey;refine hp x mx y my h3 s03 _ ?_
    by_cases cp:p x y=true
    ·rw [R8 cp] at tf ⊢;refine he x mx y my cp h3 s03 _ ⟨h3,Sub.refl _,s3,?_⟩;rw [tf,D4]
    ·rw [R9 cp] at tf ⊢;refine⟨h3,Sub.refl _,s3,?_⟩;rw [tf,O9]
end
def X1Z:Enc jA GD:=⟨Xs,λS=>GE _,λS=>R6 (Uj _) (by decide),FG⟩
theorem Yv: ∀P:G0 (G0 G5),E4 (P.map GD)<=3
 | []=>by simp [E4]
 |S::P=>by
  have:=Yv P;have h2:aO (GD S)<=2:=Uj _;simp only [N4,E4];omega
def XA (P:G0 (G0 G5)):shaped (.list (P.map GD))=true:=by
 unfold shaped;have h1:aW (.list (P.map GD))=true:=by simp only [aW];exact X1Z.lays P
 have h2:=Yv P;have h3:aO (.list (P.map GD))<=64:=by simp only [aO];omega
 rw [h1,D3 h3];rfl
def Ls {A B:G9}{P:G0 (G0 G5)}(k:h A=some (P.map jA))(k':h B=some [])(q:Q (.bl (!P.isEmpty)) h):neE (.lst A) (.lst B) h Q:=by
 refine⟨.list (P.map GD),.list [],NS k,⟨B,_,rfl,k',rfl⟩,XA P,by decide +kernel,?_⟩;cases P with
 |nil=>exact q
 |cons S P=>exact q
def NU {a:G5}(h:a<n)(q:G5->M7):(P4 n).filter (λj=>decide (a<j)&&q j)=((P4 (n-(a+1))).map λk=>a+1+k).filter q:=by
 have e:P4 n=P4 (a+1)++(P4 (n-(a+1))).map λk=>a+1+k:=by
  conv=>lhs;rw [show n=(a+1)+(n-(a+1)) by omega,List.range_add]
 rw [e,J6];have e1:(P4 (a+1)).filter (λj=>decide (a<j)&&q j)= []:=cP.mpr λj hj=>by
  have:=D1.mp hj;rw [D9 (show ¬a<j by omega)];exact R3
 rw [e1,O2];exact qO λj hj=>by
  obtain⟨k,_,rfl⟩:=S9.mp hj;rw [D3 (show a<a+1+k by omega)];rfl
def Lt (h:w.headD 0<n):((P4 (n-(w.headD 0+1))).filter λk=>jQ T (w.getLastD 0) (w.headD 0+1+k)&& !decide (w.headD 0+1+k∈w)).map (λk=>jA (w++ [w.headD 0+1+k]))=(ME (jQ T) n w).map jA:=by
 unfold ME;have:BT (jQ T) w=λj=>decide (w.headD 0<j)&&(jQ T (w.getLastD 0) j&& !decide (j∈w)):=by
  funext j
  unfold BT;cases jQ T (w.getLastD 0) j<;>cases decide (w.headD 0<j)<;>rfl
 rw [this,NU h,List.filter_map,N8,N8];rfl
end L2
namespace HT
open PySem PySem.Spec PyProof.Rows PySem.SeqAt
open PySem.AutoSeq1 (wpAny_loadPart')
open PySem.MeetsSeq PySem.MeetsSeq2 PySem.MeetsSeq3
def Ś {α:Type}{p:G0 α}{items:T6 α}(e:items.toList=p){i:G5}(l:p.length=i):items[((i:G5):P1).toNat]? =none:=by
 rw [V3,<-N7,e,<-l];simp
end HT
namespace L2
open PySem PySem.Spec PyProof.Rows PySem.SeqAt HT
open Classical in
noncomputable def readOf (h:C7)(v:G1):aV:=if e: ∃p as,p.canLay0=true/\Reads h v p as then e.choose else .none
end L2
namespace L2
open PySem PySem.Spec PyProof.Rows
def s5:G5->G5
 |0=>0
 |d+1=>5*s5 d+1
theorem RU: ∀d,4*s5 d+1=5^d
 |0=>rfl
 |d+1=>by have:=RU d;rw [U9];show 4*(5*s5 d+1)+1=_;omega
theorem BU (a:G5): ∀b,s5 (a+b)=5^b*s5 a+s5 b
 |0=>by show s5 a=1*s5 a+0;omega
 |b+1=>by
  show 5*s5 (a+b)+1=5^(b+1)*s5 a+(5*s5 b+1);rw [BU a b,U9,fY,aL (5^b) 5,o7];omega
theorem BV: ∀d,s5 d%2=d%2
 |0=>rfl
 |d+1=>by have:=BV d;show (5*s5 d+1)%2=_;omega
def EU (m:G5):s5 (2*m)=2*(s5 m*(2*s5 m+1)):=by
 rw [Nat.two_mul,BU,<-RU m];have:(4*s5 m+1)*s5 m+s5 m=2*(s5 m*(2*s5 m+1)):=by
  rw [rW,fY,fY];have e1:4*s5 m*s5 m=4*(s5 m*s5 m):=o7 ..;have e2:s5 m*(2*s5 m)=2*(s5 m*s5 m):=by rw [Nat.mul_left_comm]
  rw [e1,e2];omega
 exact this
def BW (k x:G5):Nat.Coprime (2^k) (2*x+1):=by
 refine Nat.Coprime.pow_left k ?_;show bV 2 (2*x+1)=1;rw [IG,show (2*x+1)%2=1 by omega];rfl
theorem BX: ∀ (k d:G5),2^k∣s5 d->2^k∣d
 |0,d,_=>by rw [gK];exact Nat.one_dvd _
 |k+1,d,h=>by
  have ev:d%2=0:=by
   rw [<-BV d];exact mX (o8 ⟨2^k,by rw [U9,aL]⟩ h)
  obtain⟨m,rfl⟩: ∃m,d=2*m:=⟨d / 2,by omega⟩;rw [EU,U9,aL] at h;have h1:2^k∣s5 m*(2*s5 m+1):=Nat.dvd_of_mul_dvd_mul_left (by decide) h;have h2:=BX k m ((BW k (s5 m)).dvd_of_dvd_mul_right h1);rw [U9,aL];exact Nat.mul_dvd_mul_left 2 h2
def f5 (N:G5):G5->G5->G5
 |0,a=>a
 |d+1,a=>(f5 N d a*5+1)%N
variable {N:G5}
theorem EV (a:G5): ∀d,f5 N d a%N=(5^d*a+s5 d)%N
 |0=>by show a%N=(1*a+0)%N;rw [Nat.one_mul,Y6]
 |d+1=>by
  show (f5 N d a*5+1)%N%N=(5^(d+1)*a+(5*s5 d+1))%N;rw [IH,oE,II,EV a d,<-II,<-oE,rW,U9]
  congr 1
  have:5^d*a*5=5^d*5*a:=by rw [Nat.mul_right_comm]
  omega
def EW (hN:0<N){a:G5}(ha:a<N): ∀d,f5 N d a<N
 |0=>ha
 |d+1=>W8 _ hN
theorem BY (a:G5)(b:G5): ∀d,f5 N (b+d) a=f5 N d (f5 N b a)
 |0=>rfl
 |d+1=>by show (f5 N (b+d) a*5+1)%N=_;rw [BY a b d];rfl
variable {k:G5}
def NV {a d:G5}(ha:a<2^k)(d0:0<d)(hd:d<2^k):f5 (2^k) d a≠a:=λe=>by
 have e1:=EV (N:=2^k) a d;rw [e] at e1;have le:a<=5^d*a+s5 d:=R6 (Nat.le_mul_of_pos_left a (rX (by decide))) (Y0 _ _);have dv:2^k∣5^d*a+s5 d-a:=Nat.dvd_of_mod_eq_zero (Nat.sub_mod_eq_zero_of_mod_eq e1.symm);have e2:5^d*a+s5 d-a=s5 d*(2*(2*a)+1):=by
  rw [<-RU d,rW,fY];have:4*s5 d*a=s5 d*(2*(2*a)):=by
   rw [aL 4,o7];congr 1;omega
  omega
 rw [e2] at dv;have:=lU d0 (BX k d ((BW k (2*a)).dvd_of_dvd_mul_right dv));omega
def Lu {a:G5}(hN:N=2^k)(ha:a<N): ∀ {i j:G5},i<j->j<N->f5 N i a≠f5 N j a:=λ{i j} ij jN e=>by
 subst hN;have:=BY (N:=2^k) a i (j-i);rw [J8 (S6 ij)] at this;exact NV (EW (rX (by decide)) ha i) (by omega) (by omega) ((this.symm.trans e.symm))
def Lv: ∀ {xs:G0 G5},xs.Nodup->(∀x∈xs,x<N)->N<=xs.length-> ∀e,e<N->e∈xs:=λ{xs} nd lt le e he=>by
 have p:(P4 N).length<=(xs.filter λx=>decide (x<N)).length:=by
  rw [S7,List.filter_eq_self.mpr λx hx=>D3 (lt x hx)];exact le
 refine X6 λno=> ?_
 have key: ∀ (ys zs:G0 G5),ys.Nodup->(∀y∈ys,y∈zs)->ys.length<=zs.length:=by
  intro ys
  induction ys with
  |nil=>intro zs _ _;exact N3 _
  |cons y ys ih=>
   intro zs d s;obtain⟨d1,d2⟩:=K0.mp d;have hy:=s y R5;have:=ih (zs.erase y) d2 λx hx=>(Y7 (show x≠y from λq=>d1 (by rw [<-q];exact hx))).mpr (s x (T3 _ hx))
   rw [V7 hy] at this;have:0<zs.length:=aP hy;rw [R1];omega
 have:=key (e::xs) (P4 N) (K0.mpr ⟨no,nd⟩) λy hy=>by
  rcases D5.mp hy with q|q
  ·rw [q];exact D1.mpr he
  ·exact D1.mpr (lt y q)
 rw [R1,S7] at this;omega
def BZ {a e:G5}(hN:N=2^k)(ha:a<N)(he:e<N): ∃m,m<N/\f5 N m a=e:=by
 have nd:((P4 N).map λm=>f5 N m a).Nodup:=by
  rw [mV,L9];refine A1.mpr λi j hi hj ij=> ?_
  rw [cO,cO];rw [S7] at hj;exact Lu hN ha ij hj
 have:=Lv nd (λx hx=>by
  obtain⟨m,_,rfl⟩:=S9.mp hx;exact EW (by rw [hN];exact rX (by decide)) ha m) (by rw [G2,S7];exact P3 _) e he
 obtain⟨m,hm,e⟩:=S9.mp this;exact⟨m,D1.mp hm,e⟩
def zw (t:T9):G5->U2->U2
 |0,p=>p
 |n+1,p=>zw t n (t.advance p)
theorem Jj (t:T9): ∀ (a b:G5) (p:U2),zw t (a+b) p=zw t b (zw t a p)
 |0,b,p=>by rw [U8];rfl
 |a+1,b,p=>by rw [fM];exact Jj t a b _
def XB (t:T9)(i q:G5)(d:P5 G5):U2:= {j:=i,more:=E5 t.mask i-i,i:=i,perturb:=q,dummy:=d}
theorem vD (t:T9): ∀ (m:G5) (p:U2),p.more=m->zw t (m+1) p=XB t ((p.i*5+1+p.perturb / 32)%(t.mask+1)) (p.perturb / 32) p.dummy
 |0,p,e=>by
  show t.advance p=_;unfold Y1;rw [R9 (by omega)];rfl
 |m+1,p,e=>by
  have a:t.advance p= {p with j:=p.j+1,more:=p.more-1}:=by unfold Y1;rw [R8 (by omega)]
  show zw t (m+1) (t.advance p)=_;rw [a,vD t m _ (by show p.more-1=m;omega)]
def RV (mask i:G5):E5 mask i-i<=9:=by unfold E5;split<;>omega
def VF (N:G5)(b:G5):G5->G5
 |0=>b%N
 |L+1=>(VF N b L*5+1+b / 32^(L+1))%N
theorem RW (t:T9)(h:P1): ∀L,∃n,n<=10*L/\zw t n (t.probeStart h)=XB t (VF (t.mask+1) (T4 h) L) (T4 h / 32^L) none
 |0=>⟨0,P3 _,by rw [gK,oF];rfl⟩
 |L+1=>by
  obtain⟨n,hn,e⟩:=RW t h L;have s:=RV t.mask (VF (t.mask+1) (T4 h) L);refine⟨n+(E5 t.mask (VF (t.mask+1) (T4 h) L)-VF (t.mask+1) (T4 h) L+1),by omega,?_⟩;rw [Jj,e];refine(vD t _ (XB t _ _ none) rfl).trans ?_;show XB t ((VF (t.mask+1) (T4 h) L*5+1+T4 h / 32^L / 32)%(t.mask+1)) (T4 h / 32^L / 32) none=_;rw [cQ,<-U9];rfl
def Lw (h:P1):T4 h<2^64:=by unfold T4;omega
theorem Vi (h:P1): ∀m,VF N (T4 h) (13+m)=f5 N m (VF N (T4 h) 13)
 |0=>rfl
 |m+1=>by
  show (VF N (T4 h) (13+m)*5+1+T4 h / 32^(13+m+1))%N=(f5 N m (VF N (T4 h) 13)*5+1)%N;rw [Vi h m,Nat.div_eq_of_lt (T5 (Lw h) ?_),Y6];exact R6 (show 2^64<=32^13 by decide) (iF (by decide) (by omega))
variable {t:T9}
def NW (hN:t.mask+1=2^k)(h:P1){e:G5}(he:e<=t.mask): ∃n,n<10*I0 t.mask/\(zw t n (t.probeStart h)).j=e:=by
 obtain⟨m,hm,em⟩:=BZ hN (a:=VF (t.mask+1) (T4 h) 13) (W8 _ (cN _)) (show e<t.mask+1 by omega);obtain⟨n,hn,en⟩:=RW t h (13+m);refine⟨n,by unfold I0;omega,?_⟩;rw [en,<-em,<-Vi h m];rfl
def RX {P:G5->Prop}: ∀n,P n-> ∃m,m<=n/\P m/\ ∀k,k<m-> ¬P k:=λn=>by
 induction n using G5.strongRecOn with
 |ind n ih=>
  intro h;rcases dR (∃k,k<n/\P k) with ⟨k,lt,pk⟩|no
  ·obtain⟨m,a,b,c⟩:=ih k lt pk;exact⟨m,by omega,b,c⟩
  ·exact⟨n,P3 _,h,λk lt pk=>no ⟨k,lt,pk⟩⟩
variable {h:P1}
theorem Ca {f:G5->P1}(d:t.dummies= #[]): ∀ (n fuel:G5) (p:U2),n<fuel->t.slot (zw t n p).j= .empty->(∀k,k<n->t.slot (zw t k p).j≠ .empty)->p.dummy=none->
 (Q6 t f h fuel p=some (.empty (zw t n p).j none)/\ ∀k,k<n-> ∀i,t.slot (zw t k p).j= .live i->f i≠h)\/
 (∃k i,k<n/\t.slot (zw t k p).j= .live i/\f i=h/\(∀k',k'<k-> ∀i',t.slot (zw t k' p).j= .live i'->f i'≠h)/\Q6 t f h fuel p=some (.candidate (zw t k p).j i (zw t (k+1) p)))
 |_,0,_,lt,_,_,_=>absurd lt (aF _)
 |0,fuel+1,p,_,he,_,hd=>by
  refine .inl ⟨?_,λk hk=>absurd hk (aF _)⟩;have he:t.slot p.j= .empty:=he;unfold Q6;rw [he,hd];rfl
 |n+1,fuel+1,p,lt,he,ne,hd=>by
  have h0:t.slot p.j≠ .empty:=ne 0 (cN _);cases hs:t.slot p.j with
  |empty=>exact absurd hs h0
  |dummy=>exact absurd hs (HT.JN d)
  |live i=>
   by_cases e:f i=h
   ·refine .inr ⟨0,i,cN _,hs,e,λk' hk=>absurd hk (aF _),?_⟩;unfold Q6;rw [hs];show (if (f i==h)=true then _ else _)=_;rw [R8 (by rw [e];exact X8 h)];rfl
   ·have ad:(t.advance p).dummy=none:=by unfold Y1;split<;>exact hd
    have step:Q6 t f h (fuel+1) p=Q6 t f h fuel (t.advance p):=by
     conv=>lhs;unfold Q6
     rw [hs];show (if (f i==h)=true then _ else _)=_;rw [R9 (by simpa using e)]
    rcases Ca d n fuel (t.advance p) (by omega) he (λk hk=>ne (k+1) (by omega)) ad with ⟨a,b⟩|⟨k,i',hk,a,b,c,g⟩
    ·refine .inl ⟨by rw [step];exact a,λk hk i2 hi=> ?_⟩;cases k with
     |zero=>rw [show t.slot (zw t 0 p).j= .live i from hs] at hi;cases hi;exact e
     |succ k=>exact b k (by omega) i2 hi
    ·refine .inr ⟨k+1,i',by omega,a,b,λk' hk' i2 hi=> ?_,by rw [step];exact g⟩;cases k' with
     |zero=>rw [show t.slot (zw t 0 p).j= .live i from hs] at hi;cases hi;exact e
     |succ k'=>exact c k' (by omega) i2 hi
def XC (hN:t.mask+1=2^k)(h:P1){e:G5}(he:e<=t.mask)(em:t.slot e= .empty): ∃n,n<10*I0 t.mask/\t.slot (zw t n (t.probeStart h)).j= .empty/\ ∀m,m<n->t.slot (zw t m (t.probeStart h)).j≠ .empty:=by
 obtain⟨n,hn,ej⟩:=NW hN h he;obtain⟨m,a,b,c⟩:=RX (P:=λn=>t.slot (zw t n (t.probeStart h)).j= .empty) n (by rw [ej];exact em);exact⟨m,by omega,b,c⟩
def RY (r:t.place.toList.Pairwise (· < ·)){i j:G5}(h:t.place[i]? =some j):t.slot j= .live i:=by
 obtain⟨lo,hi,_⟩:=HT.vY r j;have e:M1 t.place j=i:=by
  rcases cZ (M1 t.place j) i with z|z|z
  ·obtain⟨μ,ev⟩:=K3.mp h;have hb:M1 t.place j<t.place.size:=by omega
   have a:=hi (M1 t.place j) (P3 _) t.place[M1 t.place j] (X5 hb);have b:=A1.mp r (M1 t.place j) i (by simpa using hb) (by simpa using μ) z;simp only [dH] at b;omega
  ·exact z
  ·exact absurd (lo i z j h) (B1 _)
 unfold lO;dsimp only;rw [e,h,R8 (X8 _)]
def RZ {i j:G5}(h:t.slot j= .live i):t.place[i]? =some j:=by
 unfold lO at h;dsimp only at h;split at h
 ·rename_i c;injection h with h
  subst h;exact eq_of_beq c
 ·split at h<;>cases h
def Jk (d:t.dummies= #[])(r:t.place.toList.Pairwise (· < ·)){j:G5}:t.slot j= .empty↔ ∀i:G5,t.place[i]? ≠some j:=by
 constructor
 ·intro h i e;rw [RY r e] at h;cases h
 ·intro h;cases e:t.slot j with
  |empty=>rfl
  |dummy=>exact absurd e (HT.JN d)
  |live i=>exact absurd (RZ e) (h i)
variable {u:T9}
def NX (e:t.mask=u.mask)(p:U2):t.advance p=u.advance p:=by
 unfold Y1;rw [e]
theorem yw (e:t.mask=u.mask): ∀ (n:G5) (p:U2),zw t n p=zw u n p
 |0,_=>rfl
 |n+1,p=>by show zw t n (t.advance p)=zw u n (u.advance p);rw [NX e,yw e n]
def yR (e:t.mask=u.mask)(h:P1):t.probeStart h=u.probeStart h:=by
 unfold IP;rw [e]
def Way (t:T9)(h:P1)(j:G5):Prop:= ∃n,(zw t n (t.probeStart h)).j=j/\ ∀m,m<n->t.slot (zw t m (t.probeStart h)).j≠ .empty
def Way.more (e:t.mask=u.mask)(f: ∀j,u.slot j= .empty->t.slot j= .empty){h:P1}{j:G5}(w:Way t h j):Way u h j:=by
 obtain⟨n,a,b⟩:=w;refine⟨n,by rw [<-yR e,<-yw e];exact a,λm hm z=>b m hm ?_⟩;rw [<-yR e,<-yw e] at z;exact f _ z
def Cb {α:Type}(xs:G0 α)(x:α){p:G5}(hp:p<=xs.length)(i:G5):(xs.take p++x::xs.drop p)[i]? =if i<p then xs[i]? else if i=p then some x else xs[i-1]? :=by
 have tl:(xs.take p).length=p:=by rw [N0];omega
 by_cases a:i<p
 ·rw [R8 a,B7 (by omega),pI,R8 a]
 ·rw [R9 a,N5 (by omega),tl]
  by_cases b:i=p
  ·rw [R8 b,b,iZ];rfl
  ·rw [R9 b,show i-p=(i-p-1)+1 by omega,cH,X9]
   congr 1;omega
structure Laid (t:T9)(hs:G0 P1):Prop where
 pow: ∃k,t.mask+1=2^k
 big:7<=t.mask
 dum:t.dummies= #[]
 rise:t.place.toList.Pairwise (· < ·)
 size:t.place.size=hs.length
 room:hs.length<=t.mask
 low: ∀ (i j:G5),t.place[i]? =some j->j<=t.mask
 way: ∀ (i:G5) (h:P1) (j:G5),hs[i]? =some h->t.place[i]? =some j->Way t h j
variable {hs:G0 P1}
def Laid.free (l:Laid t hs): ∃e,e<=t.mask/\t.slot e= .empty:=by
 refine X6 λno=> ?_
 have nd:t.place.toList.Nodup:=l.rise.imp λ{a b} z=>M8 z
 have all: ∀e,e<t.mask+1->e∈t.place.toList:=λe he=>by
  refine X6 λz=>no ⟨e,by omega,(Jk l.dum l.rise).mpr λi q=>z ?_⟩
  exact nP.mpr (Array.mem_of_getElem? q)
 have key: ∀ (ys zs:G0 G5),ys.Nodup->(∀y∈ys,y∈zs)->ys.length<=zs.length:=by
  intro ys
  induction ys with
  |nil=>intro zs _ _;exact N3 _
  |cons y ys ih=>
   intro zs d s;obtain⟨d1,d2⟩:=K0.mp d;have hy:=s y R5;have:=ih (zs.erase y) d2 λx hx=>(Y7 (show x≠y from λq=>d1 (by rw [<-q];exact hx))).mpr (s x (T3 _ hx))
   rw [V7 hy] at this;have:0<zs.length:=aP hy;rw [R1];omega
 have:=key (P4 (t.mask+1)) t.place.toList g9 λy hy=>all y (D1.mp hy)
 rw [S7,D8,l.size] at this;have:=l.room;omega
def Laid.search (l:Laid t hs)(h:P1): ∃n,n<10*I0 t.mask/\t.slot (zw t n (t.probeStart h)).j= .empty/\(∀m,m<n->t.slot (zw t m (t.probeStart h)).j≠ .empty)/\ ∀i:G5,hs[i]? =some h-> ∃m,m<n/\t.slot (zw t m (t.probeStart h)).j= .live i:=by
 obtain⟨k,hk⟩:=l.pow;obtain⟨e,he,em⟩:=l.free;obtain⟨n,a,b,c⟩:=XC hk h he em;refine⟨n,a,b,c,λi hi=> ?_⟩;obtain⟨j,hj⟩: ∃j,t.place[i]? =some j:=⟨t.place[i]'(by rw [l.size];exact(P6.mp hi).1),X5 _⟩;obtain⟨m,x,y⟩:=l.way i h j hi hj;have lv:t.slot (zw t m (t.probeStart h)).j= .live i:=by rw [x];exact RY l.rise hj
 refine⟨m,?_,lv⟩;rcases cZ m n with z|z|z
 ·exact z
 ·rw [z,b] at lv;cases lv
 ·exact absurd b (y n z)
def Ma (t:T9)(j:G5):(t.put j).1.place.toList=t.place.toList.take (M1 t.place j)++j::t.place.toList.drop (M1 t.place j):=eU ..
def Mb (d:t.dummies= #[])(j:G5):(t.put j).1.dummies= #[]:=by
 show (if dQ t.dummies j then _ else t.dummies)= #[];rw [d,R9 (by simp [dQ])]
def Laid.put (l:Laid t hs){h:P1}{j:G5}(em:t.slot j= .empty)(jm:j<=t.mask)(w:Way t h j)(room:hs.length+1<=t.mask):Laid (t.put j).1 (hs.take (t.put j).2++h::hs.drop (t.put j).2):=by
 have pe:(t.put j).2=M1 t.place j:=rfl;have me:t.mask=(t.put j).1.mask:=rfl;have pl:=Ma t j;have hp:M1 t.place j<=t.place.size:=(HT.vY l.rise j).2.2;have hp1:M1 t.place j<=t.place.toList.length:=by rw [D8];exact hp
 have hp2:M1 t.place j<=hs.length:=by rw [<-l.size];exact hp
 have rise:(t.put j).1.place.toList.Pairwise (· < ·):=HT.We l.rise (HT.Yp em);have at1: ∀i:G5,(t.put j).1.place[i]? =if i<M1 t.place j then t.place[i]? else if i=M1 t.place j then some j else t.place[i-1]? :=λi=>by
  have:=Cb t.place.toList j hp1 i;rw [<-pl] at this;simpa using this
 have sl: ∀x,(t.put j).1.slot x= .empty->t.slot x= .empty:=λx hx=>by
  rw [Jk (Mb l.dum j) rise] at hx;rw [Jk l.dum l.rise];intro i e
  by_cases c:i<M1 t.place j
  ·exact hx i (by rw [at1,R8 c];exact e)
  ·exact hx (i+1) (by rw [at1,R9 (by omega),R9 (by omega)];exact e)
 rw [pe];refine⟨l.pow,l.big,Mb l.dum j,rise,?_,?_,λi x hx=> ?_,λi g x hg hx=> ?_⟩
 ·rw [<-D8,pl];simp only [D0,R1,N0,C5,D8];have:=l.size;omega
 ·show _<=t.mask;simp only [D0,R1,N0,C5];omega
 ·rw [at1] at hx;split at hx
  ·exact l.low _ _ hx
  ·split at hx
   ·injection hx with hx;subst hx;exact jm
   ·exact l.low _ _ hx
 ·rw [at1] at hx;rw [Cb hs h hp2] at hg
  by_cases c:i<M1 t.place j
  ·rw [R8 c] at hg hx;exact(l.way i g x hg hx).more me sl
  ·rw [R9 c] at hg hx
   by_cases b:i=M1 t.place j
   ·rw [R8 b] at hg hx;injection hg with hg;injection hx with hx
    subst hg hx;exact w.more me sl
   ·rw [R9 b] at hg hx;exact(l.way (i-1) g x hg hx).more me sl
def Pa (a b:G5)(led:M7):Laid (.fresh a b led) []:=⟨⟨3,rfl⟩,P3 7,rfl,lF,rfl,N3 _,λi j h=>by simp [uA] at h,λi h j e=>by simp at e⟩
theorem Cc (t:T9): ∀ (k i q m j:G5) (d:P5 G5),k<=m->zw t k ⟨j,m,i,q,d⟩=⟨j+k,m-k,i,q,d⟩
 |0,i,q,m,j,d,_=>rfl
 |k+1,i,q,m,j,d,h=>by
  have a:t.advance ⟨j,m,i,q,d⟩=⟨j+1,m-1,i,q,d⟩:=by unfold Y1;rw [R8 (show m>0 by omega)]
  show zw t k (t.advance ⟨j,m,i,q,d⟩)=_;rw [a,Cc t k i q (m-1) (j+1) d (by omega)]
  congr 1<;>omega
def Hi (t:T9)(E:G5->M7)(h:P1)(j:G5):Prop:= ∃n,(zw t n (t.probeStart h)).j=j/\ ∀m,m<n->E (zw t m (t.probeStart h)).j=false
variable {owner:T6 (P5 G5)}
theorem QL: ∀ (fuel L n:G5) {j:G5},zw t n (t.probeStart h)=XB t (VF (t.mask+1) (T4 h) L) (T4 h / 32^L) none->(∀m,m<n->(owner.getD (zw t m (t.probeStart h)).j (some 0)).isNone=false)->
 J0 t.mask owner fuel (VF (t.mask+1) (T4 h) L) (T4 h / 32^L)=some j->(owner.getD j (some 0)).isNone=true/\Hi t (λx=>(owner.getD x (some 0)).isNone) h j
 |0,_,_,_,_,_,e=>by cases e
 |fuel+1,L,n,j,hn,ne,e=>by
  unfold J0 at e;generalize hI:VF (t.mask+1) (T4 h) L=I at hn e;have run: ∀k,k<=E5 t.mask I-I->(zw t (n+k) (t.probeStart h)).j=I+k:=λk hk=>by
   rw [Jj,hn];exact congrArg SetTable.Probe.j (Cc t k I _ _ I none hk)
  have re:I<=E5 t.mask I:=by unfold E5;split<;>omega
  split at e
  ·rename_i k hk;injection e with e
   subst e;obtain⟨a,b,c⟩:=List.find?_range_eq_some.mp hk;have kl:=D1.mp b;refine⟨a,n+k,run k (by omega),λm hm=> ?_⟩;rcases O4 m n with z|z
   ·exact ne m z
   ·have:=c (m-n) (by omega);have r:=run (m-n) (by omega);rw [J8 z] at r;show (owner.getD (zw t m (t.probeStart h)).j (some 0)).isNone=false;rw [r];simpa using this
  ·rename_i hk;have none:=pL.mp hk;have nx:=vD t _ (XB t I (T4 h / 32^L) .none) rfl;refine QL fuel (L+1) (n+(E5 t.mask I-I+1)) (j:=j) ?_ (λm hm=> ?_) ?_
   ·rw [Jj,hn];refine nx.trans ?_;show XB t ((I*5+1+T4 h / 32^L / 32)%(t.mask+1)) (T4 h / 32^L / 32) .none=_;rw [cQ,<-U9,<-hI];rfl
   ·rcases O4 m n with z|z
    ·exact ne m z
    ·have:=none (m-n) (D1.mpr (by omega));have r:=run (m-n) (by omega);rw [J8 z] at r;rw [r];exact Z9.mpr this
   ·rw [show v5 t.mask I (T4 h / 32^L)=((I*5+1+T4 h / 32^L / 32)%(t.mask+1),T4 h / 32^L / 32) from rfl] at e;dsimp only at e;rw [cQ,<-U9,<-hI] at e;exact e
def Mc (hN:t.mask+1=2^k){e:G5}(he:e<=t.mask)(em:(owner.getD e (some 0)).isNone=true): ∃j,J0 t.mask owner (I0 t.mask) (T4 h%(t.mask+1)) (T4 h)=some j:=by
 obtain⟨m,hm,e1⟩:=BZ hN (a:=VF (t.mask+1) (T4 h) 13) (W8 _ (cN _)) (show e<t.mask+1 by omega);rw [<-Vi h m] at e1;have go: ∀ (fuel L:G5),(∃L',L<=L'/\L'<L+fuel/\VF (t.mask+1) (T4 h) L'=e)-> ∃j,J0 t.mask owner fuel (VF (t.mask+1) (T4 h) L) (T4 h / 32^L)=some j:=by
  intro fuel
  induction fuel with
  |zero=>rintro L ⟨L',a,b,_⟩;omega
  |succ fuel ih=>
   rintro L ⟨L',a,b,c⟩;unfold J0;generalize hI:VF (t.mask+1) (T4 h) L=I;split
   ·rename_i k hk;exact⟨_,rfl⟩
   ·rename_i hk;have none:=pL.mp hk;have ne:I≠e:=λz=>by
     have re:I<=E5 t.mask I:=by unfold E5;split<;>omega
     have:=none 0 (D1.mpr (by omega));rw [Y6,z] at this;exact this em
    have lt:L+1<=L':=by
     rcases O4 L L' with z|z
     ·exact z
     ·have:L=L':=by omega
      subst this;exact absurd (hI.symm.trans c) ne
    obtain⟨j,hj⟩:=ih (L+1) ⟨L',lt,by omega,c⟩;refine⟨j,?_⟩;rw [show v5 t.mask I (T4 h / 32^L)=((I*5+1+T4 h / 32^L / 32)%(t.mask+1),T4 h / 32^L / 32) from rfl];dsimp only;rw [cQ,<-U9,<-hI];exact hj
 have:=go (I0 t.mask) 0 ⟨13+m,N3 _,by unfold I0;omega,e1⟩;rw [gK,oF] at this;exact this
def emO (owner:T6 (P5 G5))(x:G5):M7:=(owner.getD x (some 0)).isNone
def Ē {x:G5}:emO owner x=true↔owner[x]? =some none:=by
 unfold emO;rw [c9];cases owner[x]? with
 |none=>simp
 |some o=>cases o<;>simp
structure Own (t:T9)(hs:G0 P1)(owner:T6 (P5 G5))(k:G5):Prop where
 size:owner.size=t.mask+1
 lt: ∀x i:G5,owner[x]? =some (some i)->i<k
 inj: ∀x y i:G5,owner[x]? =some (some i)->owner[y]? =some (some i)->x=y
 all: ∀i,i<k-> ∃x:G5,owner[x]? =some (some i)
 way: ∀ (x i:G5) (h:P1),owner[x]? =some (some i)->hs[i]? =some h->Hi t (emO owner) h x
def Own.free (o:Own t hs owner k)(room:k<=t.mask): ∃e,e<=t.mask/\emO owner e=true:=by
 refine X6 λno=> ?_
 have got: ∀x,x<t.mask+1-> ∃i,owner[x]? =some (some i):=λx hx=>by
  have Ħ:x<owner.size:=by rw [o.size];exact hx
  cases e:owner[x]? with
  |none=>rw [dJ] at e;omega
  |some v=>
   cases v with
   |none=>exact absurd ⟨x,by omega,Ē.mpr e⟩ no
   |some i=>exact⟨i,rfl⟩
 have gi: ∀x,x<t.mask+1->owner[x]? =some (some (((owner[x]?).getD none).getD 0)):=λx hx=>by
  obtain⟨i,e⟩:=got x hx;rw [e];rfl
 have nd:((P4 (t.mask+1)).map λx=>((owner[x]?).getD none).getD 0).Nodup:=by
  rw [mV,L9];refine A1.mpr λa b ha hb ab e=> ?_
  rw [cO,cO] at e;rw [S7] at ha hb;have x1:=gi a ha;have x2:=gi b hb;rw [e] at x1;have:=o.inj a b _ x1 x2;omega
 have:=Uh (m:=P4 k) nd λy hy=>by
  obtain⟨x,hx,rfl⟩:=S9.mp hy;exact D1.mpr (o.lt x _ (gi x (D1.mp hx)))
 rw [G2,S7,S7] at this;omega
variable {n:G5}
def Own.step (hN:t.mask+1=2^n)(o:Own t hs owner k)(room:k<=t.mask)(hk:hs[k]? =some h): ∃j,J0 t.mask owner (I0 t.mask) (T4 h%(t.mask+1)) (T4 h)=some j/\Own t hs (owner.setIfInBounds j (some k)) (k+1):=by
 obtain⟨e,he,em⟩:=o.free room;obtain⟨j,hj⟩:=Mc (h:=h) hN he em;have w:=QL (t:=t) (owner:=owner) (h:=h) (I0 t.mask) 0 0 (j:=j) (by rw [gK,oF];rfl) (λm hm=>absurd hm (aF _)) (by rw [gK,oF];exact hj);have jn:owner[j]? =some none:=Ē.mp w.1;have js:j<owner.size:=(K3.mp jn).1;have at1: ∀x:G5,(owner.setIfInBounds j (some k))[x]? =if j=x then some (some k) else owner[x]? :=λx=>by
  rw [Array.getElem?_setIfInBounds]
  by_cases c:j=x
  ·rw [R8 c,R8 c,R8 js]
  ·rw [R9 c,R9 c]
 have old: ∀x i:G5,(owner.setIfInBounds j (some k))[x]? =some (some i)->(x=j/\i=k)\/(x≠j/\owner[x]? =some (some i)):=λx i hx=>by
  rw [at1] at hx;split at hx
  ·rename_i c;injection hx with hx;injection hx with hx;exact .inl ⟨c.symm,hx.symm⟩
  ·rename_i c;exact .inr ⟨U6 c,hx⟩
 have emm: ∀x,emO owner x=false->emO (owner.setIfInBounds j (some k)) x=false:=λx hx=>by
  refine Z9.mpr λz=> ?_
  rw [Ē,at1] at z;split at z
  ·cases z
  ·rw [Ē.mpr z] at hx;cases hx
 refine⟨j,hj,by rw [e7];exact o.size,λx i hx=> ?_,λx y i hx hy=> ?_,λi hi=> ?_,λx i g hx hg=> ?_⟩
 ·rcases old x i hx with ⟨_,e⟩|⟨_,e⟩
  ·omega
  ·have:=o.lt x i e;omega
 ·rcases old x i hx with ⟨a,b⟩|⟨a,b⟩<;>rcases old y i hy with ⟨c,d⟩|⟨c,d⟩
  ·rw [a,c]
  ·have:=o.lt y i d;omega
  ·have:=o.lt x i b;omega
  ·exact o.inj x y i b d
 ·by_cases c:i=k
  ·exact⟨j,by rw [at1,R8 rfl,c]⟩
  ·obtain⟨x,hx⟩:=o.all i (by omega);have ne: ¬j=x:=λz=>by rw [<-z,jn] at hx;cases hx
   exact⟨x,by rw [at1,R9 ne];exact hx⟩
 ·rcases old x i hx with ⟨a,b⟩|⟨a,b⟩
  ·rw [b,hk] at hg;injection hg with hg
   rw [a,<-hg];obtain⟨m,p,q⟩:=w.2;exact⟨m,p,λm' hm=>emm _ (q m' hm)⟩
  ·obtain⟨m,p,q⟩:=o.way x i g b hg;exact⟨m,p,λm' hm=>emm _ (q m' hm)⟩
def NY (t:T9)(hs:G0 P1):Own t hs (nD (t.mask+1) none) 0:=by
 have no: ∀x i:G5,(nD (t.mask+1) (none:P5 G5))[x]? ≠some (some i):=λx i e=>by
  rw [Array.getElem?_replicate] at e;split at e<;>cases e
 exact⟨Array.size_replicate,λx i e=>absurd e (no x i),λx y i e=>absurd e (no x i),λi hi=>absurd hi (aF _),λx i h e=>absurd e (no x i)⟩
theorem QM (hN:t.mask+1=2^n)(room:hs.length<=t.mask){F:P5 (T6 (P5 G5)×G5)->P1->P5 (T6 (P5 G5)×G5)}
 (hF: ∀owner k h j,J0 t.mask owner (I0 t.mask) (T4 h%(t.mask+1)) (T4 h)=some j->F (some (owner,k)) h=some (owner.setIfInBounds j (some k),k+1)): ∀ (rest:G0 P1) (k:G5) (owner:T6 (P5 G5)),Own t hs owner k->k<=hs.length->hs.drop k=rest-> ∃ś,rest.foldl F (some (owner,k))=some (ś,hs.length)/\Own t hs ś hs.length
 | [],k,owner,o,kl,e=>by
  have:k=hs.length:=by have:=List.drop_eq_nil_iff.mp e;omega
  subst this;exact⟨owner,rfl,o⟩
 |h::rest,k,owner,o,kl,e=>by
  have hk:hs[k]? =some h:=by
   have:(hs.drop k)[0]? =some h:=by rw [e];rfl
   rwa [X9,Y6] at this
  have lt:k<hs.length:=(P6.mp hk).1;obtain⟨j,hj,o'⟩:=o.step hN (by omega) hk;have e2:hs.drop (k+1)=rest:=by rw [<-List.tail_drop,e];rfl
  obtain⟨ś,a,b⟩:=QM hN room hF rest (k+1) _ o' lt e2;exact⟨ś,by rw [iJ,hF _ _ _ _ hj];exact a,b⟩
def NZ (hN:t.mask+1=2^n)(room:hs.length<=t.mask){F:P5 (T6 (P5 G5)×G5)->P1->P5 (T6 (P5 G5)×G5)}
 (hF: ∀owner k h j,J0 t.mask owner (I0 t.mask) (T4 h%(t.mask+1)) (T4 h)=some j->F (some (owner,k)) h=some (owner.setIfInBounds j (some k),k+1)): ∃owner,(hs.foldl F (some (nD (t.mask+1) none,0))).map (·.1)=some owner/\Own t hs owner hs.length:=by
 obtain⟨owner,a,b⟩:=QM hN room hF hs 0 _ (NY t hs) (N3 _) rfl;exact⟨owner,by rw [a];rfl,b⟩
def Lx {hashes:T6 P1}(hN:t.mask+1=2^n)(room:hashes.size<=t.mask): ∃owner,lI t.mask hashes=some owner/\Own t hashes.toList owner hashes.toList.length:=by
 unfold lI;rw [<-Array.foldl_toList];refine NZ hN (by rw [D8];exact room) λowner k h j hj=> ?_
 show (J0 t.mask owner _ _ _).bind _=_;rw [hj];rfl
theorem XD: ∀ (n:G5) (p:U2),p.j+p.more<=t.mask->(zw t n p).j<=t.mask
 |0,p,h=>by show p.j<=t.mask;omega
 |n+1,p,h=>by
  refine XD n (t.advance p) ?_;unfold Y1;split
  ·show p.j+1+(p.more-1)<=t.mask;omega
  ·have:(p.i*5+1+p.perturb / 32)%(t.mask+1)<t.mask+1:=W8 _ (cN _);show (p.i*5+1+p.perturb / 32)%(t.mask+1)+(E5 t.mask ((p.i*5+1+p.perturb / 32)%(t.mask+1))-(p.i*5+1+p.perturb / 32)%(t.mask+1))<=t.mask;unfold E5;split<;>omega
def UC (t:T9)(h:P1):(t.probeStart h).j+(t.probeStart h).more<=t.mask:=by
 have:T4 h%(t.mask+1)<t.mask+1:=W8 _ (cN _);show T4 h%(t.mask+1)+(E5 t.mask (T4 h%(t.mask+1))-T4 h%(t.mask+1))<=t.mask;unfold E5;split<;>omega
def EX {T0 T':T9}{E:G5->M7}{j:G5}(em:T0.mask=T'.mask)(f: ∀y,y<=T0.mask->E y=false->T'.slot y≠ .empty)(w:Hi T0 E h j):Way T' h j:=by
 obtain⟨n,a,b⟩:=w;refine⟨n,by rw [<-yR em,<-yw em];exact a,λm hm=> ?_⟩;rw [<-yR em,<-yw em];exact f _ (XD m _ (UC T0 h)) (b m hm)
def Ly {mask finger moves:G5}{led plain:M7}{hashes:T6 P1}(hN:mask+1=2^n)(h7:7<=mask)(room:hashes.size<=mask): ∃t' order,o6 mask finger moves led plain hashes=some (t',order)/\t'.mask=mask/\t'.led=led/\t'.plain=plain/\order.toList.Perm (P4 hashes.size)/\Laid t' (order.toList.map λi=>hashes.toList.getD i 0):=by
 obtain⟨T0,hm⟩: ∃T0:T9,T0.mask=mask:=⟨{uA 0 0 true with mask:=mask},rfl⟩;subst hm;obtain⟨owner,ho,own⟩:=Lx (t:=T0) (hashes:=hashes) hN room;unfold o6;rw [ho];refine⟨_,_,rfl,rfl,rfl,rfl,?_⟩;generalize hl:((P4 (T0.mask+1)).filterMap λj=>(owner.getD j none).map (j,·))=live;have osz:owner.size=T0.mask+1:=own.size;have mem: ∀x i:G5,(x,i)∈live↔owner[x]? =some (some i):=λx i=>by
  rw [<-hl,aR];constructor
  ·rintro ⟨j,hj,e⟩;rw [c9] at e;cases z:owner[j]? with
   |none=>rw [z] at e;cases e
   |some v=>
    rw [z] at e;cases v with
    |none=>cases e
    |some w=>cases e;exact z
  ·intro e;have lt:x<owner.size:=(K3.mp e).1;refine⟨x,D1.mpr (by omega),?_⟩;rw [c9,e];rfl
 have sub:(live.map (·.1)).Sublist (P4 (T0.mask+1)):=by rw [<-hl];exact HT.Zw _ _
 have rise:(live.map (·.1)).Pairwise (· < ·):=G0.pairwise_lt_range.sublist sub;have nd:(live.map (·.2)).Nodup:=by
  rw [mV,L9];rw [L9] at rise;refine rise.imp_of_mem λ{a b} ha hb lt e=> ?_
  have:=own.inj a.1 b.1 a.2 ((mem _ _).mp ha) (by rw [e];exact(mem _ _).mp hb);omega
 have len0:hashes.toList.length=hashes.size:=D8;have pm:(live.map (·.2)).Perm (P4 hashes.size):=by
  refine(List.perm_ext_iff_of_nodup nd g9).mpr λi=> ?_
  rw [D1];constructor
  ·intro h;obtain⟨⟨x,i'⟩,a,rfl⟩:=S9.mp h;have:=own.lt x i' ((mem _ _).mp a);omega
  ·intro h;obtain⟨x,hx⟩:=own.all i (by omega);exact S9.mpr ⟨(x,i),(mem _ _).mpr hx,rfl⟩
 have ll:live.length=hashes.size:=by have:=pm.length_eq;rwa [G2,S7] at this
 refine⟨pm,⟨n,hN⟩,h7,rfl,rise,?_,?_,λi j hj=> ?_,λi h x hh hx=> ?_⟩
 ·simp
 ·show _<=T0.mask;simp only [G2];omega
 ·have hj:(live.map (·.1))[i]? =some j:=by simpa using hj
  have:=D1.mp (sub.subset (P9 hj));show j<=T0.mask;omega
 ·have hx:(live.map (·.1))[i]? =some x:=by simpa using hx
  have hh:((live.map (·.2)).map λi=>hashes.toList.getD i 0)[i]? =some h:=hh;rw [P7] at hx;obtain⟨⟨x',i'⟩,e1,e2⟩:=F8.mp hx;have e2:x'=x:=e2;subst e2;rw [P7,P7,e1] at hh;have hh:hashes.toList.getD i' 0=h:=by injection hh
  have ow:=(mem _ _).mp (P9 e1);have lt:=own.lt _ _ ow;have hg:hashes.toList[i']? =some h:=by
   rw [<-hh,D7,G8 lt];rfl
  refine EX (T0:=T0) rfl (λy hy hb z=> ?_) (own.way _ _ _ ow hg);rw [Jk rfl rise] at z;cases e:owner[y]? with
  |none=>rw [dJ] at e;omega
  |some v=>
   cases v with
   |none=>rw [Ē.mpr e] at hb;cases hb
   |some w=>
    obtain⟨i2,h2⟩:=Y9 (S9.mpr ⟨(y,w),(mem _ _).mpr e,rfl⟩:y∈live.map (·.1));exact z i2 (by simpa using h2)
def Laid.stands (l:Laid t hs):t.gaveWay=false:=by
 obtain⟨k,hk⟩:=l.pow;have b:=l.big;cases k with
 |zero=>rw [gK] at hk;omega
 |succ k=>
  rw [U9] at hk;unfold G0B;refine beq_false_of_ne ?_;omega
theorem QN: ∀ (fuel k n:G5),3<=k-> ∃m,3<=m/\bE n fuel (2^k)=2^m/\(n<2^(k+fuel)->n<2^m)
 |0,k,n,h=>⟨k,h,rfl,λz=>z⟩
 |fuel+1,k,n,h=>by
  unfold bE
  by_cases c:2^k<=n
  ·rw [R8 c,<-U9];obtain⟨m,a,b,d⟩:=QN fuel (k+1) n (by omega);exact⟨m,a,b,λz=>d (by rw [fM,e8];exact z)⟩
  ·rw [R9 c];exact⟨k,h,rfl,λ_=>by omega⟩
def above (h:n<2^67): ∃m,J5 n=2^m/\n<J5 n/\8<=J5 n:=by
 obtain⟨m,a,b,c⟩:=QN 64 3 n (by decide);have b:J5 n=2^m:=b;refine⟨m,b,by rw [b];exact c h,?_⟩;rw [b];exact iF (show 0<2 by decide) a
end L2
namespace L2
open PySem PySem.Spec PyProof.Rows HT
variable {prog:S8}{w:B0}{A:T8}{E:G1->G3->Prop}{s:G3}{a:G9}{es:T6 (P1×G1)}{ep:G5}{t:T9}
def Laid.fits {hs:G0 P1}(l:Laid t hs){n:G5}(e:hs.length=n):t.fits n=true:=by
 have a:=l.size;have b:=l.room;have c:=l.dum;simp only [u5,v6,B8,beq_iff_eq,W5,c];simp;omega
def QP (t:T9):t.sameMemory t.moves t.mask=some true:=by
 unfold IQ;rw [R8 (X8 _)]
def QQ {b:G9}{Q:M7->G3->Prop}(q:Q true s):R0 (R7 prog w) A (isSame (.ref b) (.ref b)) Q E s:=by
 unfold isSame;dsimp only;rw [R8 (X8 _)];exact P2 q
variable {eqk:G5->M7}
def XE {Q:SetFound->G3->Prop}{x:G1}{h:P1}{n:G5}(l:Laid t (es.toList.map (·.1)))(ho:s.heap.get? a=some (zJ es ep t))
 (refs: ∀ (i:G5) (y:G1),es[i]? =some (h,y)-> ∃b,y= .ref b)
 (G0V: ∀Q':M7->G3->Prop,Q' false s->R0 (R7 prog w) A (dA x ((es.filter (·.1==h)).toList.map (·.2))) Q' E s)
 (cmp: ∀ (i:G5) (y:G1),es[i]? =some (h,y)-> ∀Q':M7->G3->Prop,Q' (eqk i) s->R0 (R7 prog w) A (aZ [y] (eqBool y x)) Q' E s)
 (em:t.slot (zw t n (t.probeStart h)).j= .empty)(nb:n<10*I0 t.mask)(ne: ∀m,m<n->t.slot (zw t m (t.probeStart h)).j≠ .empty)
 (free:(∀m i,m<n->t.slot (zw t m (t.probeStart h)).j= .live i->(es[i]?.map (·.1)).getD 0=h->eqk i=false)->Q (.free (zw t n (t.probeStart h)).j false) s)
 (there: ∀ (i:G5) (y:G1),es[i]? =some (h,y)->eqk i=true->Q (.there none) s):
 ∀ (r k fuel:G5) (Ů:P5 U2),k+r=n->r<fuel->Ů.getD (t.probeStart h)=zw t k (t.probeStart h)->(∀m i,m<k->t.slot (zw t m (t.probeStart h)).j= .live i->(es[i]?.map (·.1)).getD 0=h->eqk i=false)->
  R0 (R7 prog w) A (v7 a x h true fuel Ů) Q E s:=by
 intro r
 induction r using G5.strongRecOn with
 |ind r ih=>
 intro k fuel Ů kr rf st old;obtain⟨fuel,rfl⟩: ∃f,fuel=f+1:=⟨fuel-1,by omega⟩;have Ī:t.fits es.size=true:=l.fits (by rw [G2,D8]);unfold v7;refine wpAny_bind (O7 ho rfl Ī ?_);dsimp only;rw [l.stands];simp only [A0,↓reduceIte];have ad: ∀m,zw t m (zw t k (t.probeStart h))=zw t (k+m) (t.probeStart h):=λm=>(Jj t k m _).symm
 have dn: ∀ (m:G5) (p:U2),p.dummy=none->(zw t m p).dummy=none:=λm=>by
  induction m with
  |zero=>exact λp hp=>hp
  |succ m ihm=>exact λp hp=>ihm _ (by unfold Y1;split<;>exact hp)
 have out:=Ca (f:=λi=>(es[i]?.map (·.1)).getD 0) (h:=h) l.dum r (10*I0 t.mask) (zw t k (t.probeStart h)) (by omega) (by rw [ad,kr];exact em) (λm hm=>by rw [ad];exact ne _ (by omega)) (dn _ _ rfl);have e0:t.probe (λi=>(es[i]?.map (·.1)).getD 0) h (Ů.getD (t.probeStart h))=Q6 t (λi=>(es[i]?.map (·.1)).getD 0) h (10*I0 t.mask) (zw t k (t.probeStart h)):=by rw [st];rfl
 rw [<-e0] at out;split
 ·rename_i met X0Q;have X0Q:t.probe (λi=>(es[i]?.map (·.1)).getD 0) h (Ů.getD (t.probeStart h))=some met:=X0Q;rw [X0Q] at out;rcases out with ⟨e,no⟩|⟨m,i,mr,sl,hi,no,e⟩
  ·injection e with e
   subst e;dsimp only;refine P2 ?_;rw [ad,kr];refine free λm i hm sl hi=> ?_
   rcases O4 m k with z|z
   ·exact old m i z sl hi
   ·refine absurd hi (no (m-k) (by omega) i ?_);rw [ad,J8 z];exact sl
  ·injection e with e
   subst e;dsimp only;obtain⟨y,ei⟩: ∃y,es[i]? =some (h,y):=by
    obtain⟨lt,_⟩:=K3.mp (RZ sl);have sz:i<es.size:=by have:=l.size;rw [G2,D8] at this;omega
    rw [X5 sz] at hi ⊢;have hi:es[i].1=h:=hi;exact⟨es[i].2,by rw [<-hi]⟩
   cases hl:t.led
   ·simp only [uB,↓reduceIte];refine wpAny_bind (G0V _ ?_);simp only [A0,↓reduceIte];rw [ei];dsimp only;refine wpAny_bind (cmp i y ei _ ?_);refine wpAny_bind (O7 ho rfl Ī ?_);dsimp only;cases ek:eqk i with
    |true=>simp only [o9,↓reduceIte];exact P2 (there i y ei ek)
    |false=>
     simp only [dI,A0,↓reduceIte,QP,sl,ei];obtain⟨b,rfl⟩:=refs i y ei;refine wpAny_bind (QQ ?_);refine wpAny_bind (P2 ?_);simp only [↓reduceIte];refine ih (r-(m+1)) (by omega) (k+(m+1)) fuel (some _) (by omega) (by omega) (by show zw t (m+1) _=_;rw [ad]) (λm' i' hm' ŋ â=> ?_);rcases O4 m' k with z|z
     ·exact old m' i' z ŋ â
     ·have e1:zw t m' (t.probeStart h)=zw t (m'-k) (zw t k (t.probeStart h)):=by rw [ad,J8 z]
      rw [e1] at ŋ;rcases O4 (m'-k) m with y|y
      ·exact absurd â (no (m'-k) y i' ŋ)
      ·have e2:m'-k=m:=by omega
       rw [e2,sl] at ŋ;injection ŋ with ŋ
       rw [<-ŋ];exact ek
   ·simp only [v9,A0,↓reduceIte];rw [ei];dsimp only;refine wpAny_bind (cmp i y ei _ ?_);refine wpAny_bind (O7 ho rfl Ī ?_);dsimp only;cases ek:eqk i with
    |true=>simp only [o9,↓reduceIte];exact P2 (there i y ei ek)
    |false=>
     simp only [dI,A0,↓reduceIte,QP,sl,ei];obtain⟨b,rfl⟩:=refs i y ei;refine wpAny_bind (QQ ?_);refine wpAny_bind (P2 ?_);simp only [↓reduceIte];refine ih (r-(m+1)) (by omega) (k+(m+1)) fuel (some _) (by omega) (by omega) (by show zw t (m+1) _=_;rw [ad]) (λm' i' hm' ŋ â=> ?_);rcases O4 m' k with z|z
     ·exact old m' i' z ŋ â
     ·have e1:zw t m' (t.probeStart h)=zw t (m'-k) (zw t k (t.probeStart h)):=by rw [ad,J8 z]
      rw [e1] at ŋ;rcases O4 (m'-k) m with y|y
      ·exact absurd â (no (m'-k) y i' ŋ)
      ·have e2:m'-k=m:=by omega
       rw [e2,sl] at ŋ;injection ŋ with ŋ
       rw [<-ŋ];exact ek
 ·rename_i X0Q;rcases out with ⟨e,_⟩|⟨_,_,_,_,_,_,e⟩<;>exact(X0Q _ e).elim
def Pb {Q:SetFound->G3->Prop}{x:G1}{h:P1}(l:Laid t (es.toList.map (·.1)))(few:t.mask<=9000)(ho:s.heap.get? a=some (zJ es ep t))
 (refs: ∀ (i:G5) (y:G1),es[i]? =some (h,y)-> ∃b,y= .ref b)
 (G0V: ∀Q':M7->G3->Prop,Q' false s->R0 (R7 prog w) A (dA x ((es.filter (·.1==h)).toList.map (·.2))) Q' E s)
 (cmp: ∀ (i:G5) (y:G1),es[i]? =some (h,y)-> ∀Q':M7->G3->Prop,Q' (eqk i) s->R0 (R7 prog w) A (aZ [y] (eqBool y x)) Q' E s)
 (free: ∀j,(∀ (i:G5) (y:G1),es[i]? =some (h,y)->eqk i=false)->t.slot j= .empty->j<=t.mask->Way t h j->Q (.free j false) s)
 (there: ∀ (i:G5) (y:G1),es[i]? =some (h,y)->eqk i=true->Q (.there none) s):R0 (R7 prog w) A (setSearch a x h true) Q E s:=by
 obtain⟨n,nb,em,ne,met⟩:=l.search h;refine XE l ho refs G0V cmp em nb ne (λal=>free _ (λi y e=> ?_) em (XD n _ (UC t h)) ⟨n,rfl,ne⟩) there n 0 100000 none (U8 n) (by unfold I0 at nb;omega) rfl (λm i hm=>absurd hm (aF _));have e1:(es.toList.map (·.1))[i]? =some h:=by
  rw [P7,N7,e];rfl
 obtain⟨m,hm,sl⟩:=met i e1;exact al m i hm sl (by rw [e];rfl)
def Laid.plain {hs:G0 P1}(l:Laid t hs)(b:M7):Laid {t with plain:=b} hs:=
 ⟨l.pow,l.big,l.dum,l.rise,l.size,l.room,l.low,λi h j x y=>Way.more (t:=t) (u:= {t with plain:=b}) rfl (λ_ z=>z) (l.way i h j x y)⟩
def Pc (es:T6 (P1×G1))(h:P1)(x:G1)(p:G5):(W7 es p (h,x)).toList.map (·.1)=(es.toList.map (·.1)).take p++h::(es.toList.map (·.1)).drop p:=by
 rw [eU,T7,N4,o0,o3]
theorem QR: ∀ (fuel k n:G5),bE n fuel (2^k)<=2^k\/bE n fuel (2^k)<=2*n
 |0,k,n=> .inl (P3 _)
 |fuel+1,k,n=>by
  unfold bE
  by_cases c:2^k<=n
  ·rw [R8 c,<-U9];rcases QR fuel (k+1) n with z|z
   ·refine .inr (R6 z ?_);rw [U9];omega
   ·exact .inr z
  ·rw [R9 c];exact .inl (P3 _)
def XF {hashes:T6 P1}{w:G5}(hw:hashes.size<=w)(few:w<=40000):J5 w<=80008/\ ∃t' order,t.relaid hashes w=some (t',order)/\t'.led=t.led/\w<=t'.mask/\t'.mask<=2*w+8/\order.toList.Perm (P4 hashes.size)/\Laid t' (order.toList.map λi=>hashes.toList.getD i 0):=by
 obtain⟨m,a,b,c⟩:=above (n:=w) (by omega);have u:J5 w<=8\/J5 w<=2*w:=QR 64 3 w;refine⟨by omega,?_⟩;obtain⟨t',order,x,mk,y,z,p,q⟩:=Ly (mask:=J5 w-1) (finger:=t.finger) (moves:=t.movedTo (J5 w-1)) (led:=t.led) (plain:=t.plain) (hashes:=hashes) (n:=m) (by rw [<-a];omega) (by omega) (by omega);exact⟨t',order,x,y,by rw [mk];omega,by rw [mk];omega,p,q⟩
def Md {Q:Unit->G3->Prop}{wd:G5}(l:Laid t (es.toList.map (·.1)))(ho:s.heap.get? a=some (zJ es ep t))(hw:es.size<=wd)(few:wd<=40000)
 (k: ∀es' t' h',es'.toList.Perm es.toList->Laid t' (es'.toList.map (·.1))->t'.led=t.led->wd<=t'.mask->t'.mask<=2*wd+8->h'.get? a=some (zJ es' (ep+1) t')->O6 a s.heap h'->Q () {s with heap:=h'}):R0 (R7 prog w) A (IJ a wd) Q E s:=by
 have Ī:t.fits es.size=true:=l.fits (by rw [G2,D8]);obtain⟨up,t',order,er,ld,m1,m2,pm,l'⟩:=XF (t:=t) (hashes:=es.map (·.1)) (w:=wd) (by rw [uC];exact hw) few;unfold IJ;refine wpAny_bind (O7 ho rfl Ī ?_);dsimp only;rw [er];have sl: ¬J5 wd>sizeLine:=aC.mpr (R6 up (by decide));simp only [sl,↓reduceIte];have fe: ∀l:G0 G5,(∀i∈l,i<es.size)->l.filterMap (λi=>es[i]?)=l.map (λi=>es.toList.getD i (0,.none)):=λl=>by
  induction l with
  |nil=>exact λ_=>rfl
  |cons i l ih=>
   intro h;have hi:=h i R5;have e:es[i]? =some (es.toList.getD i (0,.none)):=by
    rw [D7,N7,X5 hi];rfl
   rw [List.filterMap_cons_some e,N4,ih λx hx=>h x (T3 _ hx)]
 rw [uC] at pm;have lt: ∀i∈order.toList,i<es.size:=λi hi=>D1.mp (pm.mem_iff.mp hi)
 have e1:(order.filterMap (es[·]?)).toList=order.toList.map (λi=>es.toList.getD i (0,.none)):=by
  rw [Array.toList_filterMap];exact fe _ lt
 have e2:es.toList=(P4 es.size).map (λi=>es.toList.getD i (0,.none)):=by
  have:=zZ es.toList (0,(.none:G1))
  rwa [D8] at this
 have pe:(order.filterMap (es[·]?)).toList.Perm es.toList:=by
  have:=pm.map (λi=>es.toList.getD i (0,.none));rw [<-e2] at this;rw [e1];exact this
 have sz:(order.filterMap (es[·]?)).size=es.size:=by have:=pe.length_eq;rwa [D8,D8] at this
 have hh:(order.filterMap (es[·]?)).toList.map (·.1)=order.toList.map λi=>(es.map (·.1)).toList.getD i 0:=by
  rw [e1,N8];refine B6 λi hi=> ?_
  show (es.toList.getD i (0,.none)).1=(es.map (·.1)).toList.getD i 0;have z:i<es.toList.length:=by rw [D8];exact lt i hi
  rw [rJ,D7,D7,P7,G8 z];rfl
 rw [<-hh] at l';refine wpAny_bind ?_;show R0 _ _ (ite _ _ _) _ _ _;rw [R9 (by rw [sz];simp)];refine P2 ?_;dsimp only;exact lJ (s:=s) ho rfl (k _ t' _ pe l' ld m1 m2 (C9 _ ho rfl) (L6 ..)) (by rw [sz];exact R6 (show es.size<=40000 by omega) (by decide))
def Lz {Q:M7->G3->Prop}{b:G9}{h:P1}{bv:M7}{fuel:G5}(l:Laid t (es.toList.map (·.1)))(few:t.mask<=9000)(lean:es.size*5<t.mask*3)(ho:s.heap.get? a=some (zJ es ep t))
 (refs: ∀ (i:G5) (y:G1),es[i]? =some (h,y)-> ∃b,y= .ref b)
 (G0V: ∀Q':M7->G3->Prop,Q' false s->R0 (R7 prog w) A (dA (.ref b) ((es.filter (·.1==h)).toList.map (·.2))) Q' E s)
 (cmp: ∀ (i:G5) (y:G1),es[i]? =some (h,y)-> ∀Q':M7->G3->Prop,Q' (eqk i) s->R0 (R7 prog w) A (aZ [y] (eqBool y (.ref b))) Q' E s)
 (byv: ∀Q':M7->G3->Prop,Q' bv s->R0 (R7 prog w) A (iG 8 (.ref b)) Q' E s)
 (new:(∀ (i:G5) (y:G1),es[i]? =some (h,y)->eqk i=false)-> ∀es' ä t' h',es'.toList.Perm (es.push (h,.ref b)).toList->Laid t' (es'.toList.map (·.1))->t'.mask<=max t.mask (8*es.size+16)->es'.size*5<t'.mask*3->t'.led=t.led->h'.get? a=some (zJ es' ä t')->O6 a s.heap h'->Q true {s with heap:=h'})
 (there: ∀ (i:G5) (y:G1),es[i]? =some (h,y)->eqk i=true->Q false s):R0 (R7 prog w) A (gH a (.ref b) h (fuel+1)) Q E s:=by
 have Ī:t.fits es.size=true:=l.fits (by rw [G2,D8]);have sz:(es.toList.map (·.1)).length=es.size:=by rw [G2,D8]
 unfold gH;refine wpAny_bind (O7 ho rfl Ī ?_);dsimp only;rw [show byScan (.ref b) es=false from rfl];simp only [A0,↓reduceIte];refine wpAny_bind (Pb (eqk:=eqk) l few ho refs G0V cmp (λj no em jm wy=> ?_) (λi y e ek=> ?_))
 ·dsimp only;refine wpAny_bind (O7 ho rfl Ī ?_);dsimp only;have l1:=l.put em jm wy (by rw [sz];have:=l.big;omega);have l1:=(congrArg (Laid (t.put j).1) (Pc es h (.ref b) (t.put j).2)).mpr l1;have z0:(W7 es (t.put j).2 (h,.ref b)).size=es.size+1:=by
   have:=(gL es (t.put j).2 (h,(.ref b:G1))).length_eq;rw [D8,D8,Array.size_push] at this;exact this
  have z1:(W7 es (t.put j).2 (h,.ref b)).size<=sizeLine:=by
   rw [z0];exact R6 (show es.size+1<=10000 by omega) (by decide)
  have rest: ∀t2:T9,Laid t2 ((W7 es (t.put j).2 (h,.ref b)).toList.map (·.1))->t2.led=t.led->t2.mask=t.mask->R0 (R7 prog w) A (do storeSet a (W7 es (t.put j).2 (h,.ref b)) t2;if (!false&&t2.tooFull)=true then (do IJ a (Z0 (es.size+1));pure true) else pure true) Q E s:=λt2 l2 ld mk=>by
   refine wpAny_bind (lJ (s:=s) ho rfl ?_ z1);have o1:(s.heap.update a (gZ (W7 es (t.put j).2 (h,.ref b)) t2)).get? a=some (zJ (W7 es (t.put j).2 (h,.ref b)) (ep+1) t2):=C9 _ ho rfl;cases tf:t2.tooFull with
   |true=>
    simp only [uB,o9,↓reduceIte];refine wpAny_bind (Md (wd:=Z0 (es.size+1)) (ep:=ep+1) l2 o1 (by rw [z0];unfold Z0;split<;>omega) (by unfold Z0;split<;>omega) λes' t' h' pe l' ld' m1 m2 o2 sb=> ?_);refine P2 (new no es' (ep+1+1) t' h' (pe.trans (gL ..)) l' ?_ ?_ (ld'.trans ld) o2 (G0k (L6 ..) sb))
    ·unfold Z0 at m2;split at m2<;>omega
    ·have:=pe.length_eq;rw [D8,D8,z0] at this;unfold Z0 at m1;split at m1<;>omega
   |false=>
   simp only [dI,A0,↓reduceIte];refine P2 (new no _ (ep+1) t2 _ (gL ..) l2 (by omega) ?_ ld (C9 _ ho rfl) (L6 ..));rw [z0];have s2:=l2.size;rw [G2,D8,z0] at s2;have: ¬ (t2.fill*5>=t2.mask*3):=by simpa [G0C] using tf
   have f2:t2.fill=es.size+1:=by unfold v6;rw [l2.dum,s2];rfl
   omega
  cases hp:(t.put j).1.plain
  ·simp only [A0,↓reduceIte];refine wpAny_bind (P2 ?_);simp only [↓reduceIte];exact rest (t.put j).1 l1 rfl rfl
  ·simp only [↓reduceIte];refine wpAny_bind (byv _ ?_);cases bv
   ·simp only [A0,↓reduceIte];exact rest _ (l1.plain false) rfl rfl
   ·simp only [↓reduceIte];exact rest (t.put j).1 l1 rfl rfl
 ·exact P2 (there i y e ek)
end L2
namespace L2
open PySem PySem.Spec PyProof.Rows HT
def LB (h h':C7):Prop:= ∀ (b:G9) (o:Obj),o.cls= .type "tuple" ->h.get? b=some o->h'.get? b=some o
theorem Vj {α β:Type}{M:iP}{A:T8}{E:G1->G3->Prop}{s:G3}{f:α->β->Sem (fT β)}{r:β}{Q:β->G3->Prop}: ∀ (l:G0 α),(∀x∈l,∀Q':fT β->G3->Prop,Q' (.yield r) s->R0 M A (f x r) Q' E s)->Q r s->R0 M A (forIn l r f) Q E s
 | [],_,q=>P2 q
 |x::l,h,q=>by
  rw [fF];exact wpAny_bind (h x (.head _) _ (Vj l (λy hy=>h y (.tail _ hy)) q))
structure ů (prog:S8)(w:B0)(K:Type)[DecidableEq K] where
 is:C7->K->G9->Prop
 hash:K->P1
 inj: ∀ {h:C7} {x y:K} {a:G9},is h x a->is h y a->x=y
 keep: ∀ {h h':C7} {x:K} {a:G9},LB h h'->is h x a->is h' x a
 hashed: ∀ {A:T8} {E:G1->G3->Prop} {s:G3} {x:K} {a:G9} {Q:P1->G3->Prop},A.units+8<cLine->is s.heap x a->(∀tk,Q (hash x) {s with toks:=tk})->R0 (R7 prog w) A (pyHash (.ref a)) Q E s
 same: ∀ {A:T8} {E:G1->G3->Prop} {s:G3} {x y:K} {a b:G9} {Q:M7->G3->Prop},A.units+8<cLine->is s.heap x a->is s.heap y b->Q (decide (x=y)) s->R0 (R7 prog w) A (eqBool (.ref a) (.ref b)) Q E s
 quiet: ∀ {A:T8} {E:G1->G3->Prop} {s:G3} {x:K} {a:G9} {Q:M7->G3->Prop},is s.heap x a->Q true s->R0 (R7 prog w) A (eqIsQuiet 8 (.ref a)) Q E s
 cls: ∀ {A:T8} {E:G1->G3->Prop} {s:G3} {x:K} {a:G9} {Q:M7->G3->Prop},is s.heap x a->Q false s->R0 (R7 prog w) A (dB 8 (.ref a)) Q E s
 byv: ∀ {A:T8} {E:G1->G3->Prop} {s:G3} {x:K} {a:G9} {Q:M7->G3->Prop},is s.heap x a->Q true s->R0 (R7 prog w) A (iG 8 (.ref a)) Q E s
section
variable {prog:S8}{w:B0}{A:T8}{E:G1->G3->Prop}{s:G3}{K:Type}[DecidableEq K]
def LD (M:ů prog w K){x:K}{a:G9}{qZ:G0 G1}{Q:M7->G3->Prop}(hx:M.is s.heap x a)(hs: ∀y∈qZ,∃k b,y= .ref b/\M.is s.heap k b)(q:Q false s):R0 (R7 prog w) A (dA (.ref a) qZ) Q E s:=by
 unfold dA;refine wpAny_bind (Vj qZ (λy hy Q' q'=> ?_) (P2 q));obtain⟨k,b,rfl,hk⟩:=hs y hy
 by_cases c:(a==b)=true
 ·simp only [c,xL,↓reduceIte];exact P2 q'
 ·simp only [c,show uD (.ref a)=false from rfl,dE,uP,A0,↓reduceIte];refine wpAny_bind (M.quiet hx (wpAny_bind (M.quiet hk (wpAny_bind (M.cls hx (wpAny_bind (M.cls hk ?_)))))));exact P2 q'
structure ā (M:ů prog w K)(L:M7)(is:K->G9->Prop)(f:P1×G1->K)(es:T6 (P1×G1))(t:T9)(ks:G0 K):Prop where
 laid:Laid t (es.toList.map (·.1))
 led:t.led=L
 lean:es.size*5<t.mask*3
 mask:t.mask<=8*ks.length+16
 each: ∀e∈es.toList,e.1=M.hash (f e)/\ ∃b,e.2= .ref b/\is (f e) b
 nd:(es.toList.map f).Nodup
 mem: ∀k,k∈es.toList.map f↔k∈ks
theorem zP: ∀ {xs ys:G0 K},xs.Nodup->(∀x∈xs,x∈ys)->xs.length<=ys.length
 | [],_,_,_=>N3 _
 |x::xs,ys,nd,h=>by
  obtain⟨n1,n2⟩:=K0.mp nd;have le:=zP (ys:=ys.erase x) n2 λy hy=>(Y7 (λ(e:y=x)=>n1 (by rw [<-e];exact hy))).mpr (h y (.tail _ hy))
  rw [V7 (h x (.head _))] at le;have pos:=aP (h x (.head _));rw [R1];omega
variable {L:M7}{is:K->G9->Prop}{f:P1×G1->K}{es:T6 (P1×G1)}{t:T9}{ks:G0 K}
def ā.size {M:ů prog w K}(S:ā M L is f es t ks):es.size<=ks.length:=by
 have:=zP S.nd λk hk=>(S.mem k).mp hk
 rwa [G2,D8] at this
def ā.tab {M:ů prog w K}(S:ā M L is f es t ks):Ş L es.size t:=
 ⟨S.laid.fits (by rw [G2,D8]),S.led,S.laid.dum,λ_=>S.laid.rise⟩
def ā.imp {M:ů prog w K}{is':K->G9->Prop}(S:ā M L is f es t ks)(h: ∀k b,is k b->is' k b):ā M L is' f es t ks:=
 ⟨S.laid,S.led,S.lean,S.mask,λe he=>by
  obtain⟨a,b,c,d⟩:=S.each e he;exact⟨a,b,c,h _ _ d⟩,S.nd,S.mem⟩
def Me {M:ů prog w K}{ep:G5}{a b:G9}{k:K}{Q:M7->G3->Prop}(hu:A.units+8<cLine)(S:ā M L is f es t ks)(ho:s.heap.get? a=some (zJ es ep t))(few:ks.length<1000)(to: ∀k b,is k b->M.is s.heap k b)(hk:is k b)
 (q: ∀r f' es' ä t' h' tk,ā M L is f' es' t' (k::ks)->h'.get? a=some (zJ es' ä t')->O6 a s.heap h'->Q r {s with heap:=h',toks:=tk}):R0 (R7 prog w) A (setAdd a (.ref b)) Q E s:=by
 refine L7 (wpAny_bind (M.hashed hu (to _ _ hk) λtk=>L7 ?_));show R0 _ _ (gH a (.ref b) (M.hash k) (99999+1)) _ _ _;have at_: ∀ (i:G5) (y:G1),es[i]? =some (M.hash k,y)->(M.hash k,y)∈es.toList:=λi y e=>by
  rw [<-N7] at e;exact P9 e
 refine Lz (s:= {s with toks:=tk}) (eqk:=λi=>match es[i]? with
  |some e=>decide (f e=k)
  |none=>false) (bv:=true) S.laid (R6 S.mask (by omega)) S.lean ho (λi y e=> ?_) (λQ' q'=> ?_) (λi y e Q' q'=> ?_) (λQ' q'=>M.byv (to _ _ hk) q') (λno es' ä t' h' pe l' mk ln ld o' sb=> ?_) (λi y e ek=> ?_)
 ·obtain⟨_,c,d,_⟩:=S.each _ (at_ i y e);exact⟨c,d⟩
 ·refine LD M (to _ _ hk) (λy hy=> ?_) q';obtain⟨e,he,rfl⟩:=S9.mp hy;obtain⟨_,c,d,i⟩:=S.each e (by rw [Array.toList_filter] at he;exact(C3.mp he).1);exact⟨_,c,d,to _ _ i⟩
 ·obtain⟨_,c,d,i'⟩:=S.each _ (at_ i y e);have d:y= .ref c:=d;subst d;simp only [e] at q';exact L7 (M.same hu (to _ _ i') (to _ _ hk) q')
 ·have kn:k ∉ ks:=λz=>by
   obtain⟨e,he,fe⟩:=S9.mp ((S.mem k).mpr z);obtain⟨i,hi⟩:=Y9 he;obtain⟨e1,e2⟩:=e;have h1:=(S.each _ he).1;rw [fe] at h1;have h1:e1=M.hash k:=h1;subst h1;have hi:es[i]? =some (M.hash k,e2):=by rw [<-N7];exact hi
   have:=no i e2 hi;simp only [hi,fe,IK] at this;cases this
  have same: ∀e∈es.toList,(if e=(M.hash k,.ref b) then k else f e)=f e:=λe he=>by
   by_cases c:e=(M.hash k,.ref b)
   ·rw [R8 c];obtain⟨_,c',d,i⟩:=S.each e he;rw [c] at d;cases d;exact M.inj (to _ _ hk) (to _ _ i)
   ·rw [R9 c]
  have me:(es.toList.map λe=>if e=(M.hash k,.ref b) then k else f e)=es.toList.map f:=B6 same;have pk:=pe.map λe=>if e=(M.hash k,.ref b) then k else f e
  rw [K5,T7,me] at pk;have one:(gF (λe=>if e=(M.hash k,.ref b) then k else f e) [(M.hash k,.ref b)])= [k]:=by simp
  rw [one] at pk;have sz:=S.size;refine q true (λe=>if e=(M.hash k,.ref b) then k else f e) es' ä t' h' tk ⟨l',ld.trans S.led,ln,?_,λe he=> ?_,pk.nodup_iff.mpr ?_,λm=>pk.mem_iff.trans ?_⟩ o' sb
  ·have:=S.mask;rw [R1];omega
  ·have z:=pe.mem_iff.mp he;rw [K5] at z;rcases R4.mp z with z|z
   ·rw [same e z];exact S.each e z
   ·have z:=P0.mp z;subst z;rw [R8 rfl];exact⟨rfl,b,rfl,hk⟩
  ·rw [bT];refine⟨S.nd,by simp,λx hx y hy e=> ?_⟩;have:y=k:=by simpa using hy
   subst this;subst e;exact kn ((S.mem _).mp hx)
  ·rw [R4,S.mem m,P0,D5,or_comm]
 ·have hin:k∈ks:=by
   simp only [e,W5] at ek;rw [<-ek];exact(S.mem _).mp (aG (at_ i y e))
  refine q false f es ep t s.heap tk ⟨S.laid,S.led,S.lean,?_,S.each,S.nd,λm=>(S.mem m).trans ?_⟩ ho (bR _ _)
  ·have:=S.mask;rw [R1];omega
  ·rw [D5];exact⟨.inr,λz=>z.elim (λe=>e ▸ hin) id⟩
end
section
variable {prog:S8}{w:B0}{A:T8}{E:G1->G3->Prop}{s:G3}
def LF (n:G5){v:G1}(h:uD v=true):dB n v=pure false:=by
 cases v<;>first|(cases h;done)|simp [dB]
def EY {n:P1}{v:G1}(h:(intKind prog w).is n v=true): ∃tk,v= .int n tk:=by
 cases v<;>simp [intKind,dD] at h;exact⟨_,by rw [h]⟩
def Pd {ks:G0 P1}{vs:G0 G1}(h:ItemsAre (intKind prog w) ks vs): ∀v∈vs,∃n tk,v= .int n tk:=by
 induction h with
 |nil=>exact λv hv=>absurd hv H0
 |cons h1 _ ih=>
  intro v hv;rcases D5.mp hv with rfl|hv
  ·obtain⟨tk,e⟩:=EY h1;exact⟨_,tk,e⟩
  ·exact ih v hv
def LH (d:G5){x:G0 P1}{a:G9}{Q:M7->G3->Prop}:uE (intKind prog w) s.heap x a->Q false s->R0 (R7 prog w) A (dB (d+1) (.ref a)) Q E s
 |⟨_,_,_,ho,hc,hd,hi⟩,q=>by
  unfold dB;refine wpAny_bind (mN (T:= "tuple") ⟨_,ho,hc⟩ ?_);simp only [X8,↓reduceIte,pure_bind,v9,A0];refine wpAny_bind (uF ho hd (wpAny_bind ?_));simp only [<-pM];refine Vj _ (λv hv Q' q'=> ?_) (P2 q);rw [LF d (hi.byValue v hv)];exact P2 q'
def LJ (d:G5)(m:P1)(tk:Tok):iG d (.int m tk)=pure true:=by cases d<;>rfl
def LK (d:G5){x:G0 P1}{a:G9}{Q:M7->G3->Prop}:uE (intKind prog w) s.heap x a->Q true s->R0 (R7 prog w) A (iG (d+1) (.ref a)) Q E s
 |⟨_,_,_,ho,hc,hd,hi⟩,q=>by
  unfold iG;refine wpAny_bind (m5 (T:= "tuple") ⟨_,ho,hc⟩ F.slot_tuple_hash.lookup ?_);refine wpAny_bind (uF ho hd (wpAny_bind ?_));simp only [rA,<-pM];refine Vj _ (λv hv Q' q'=> ?_) (P2 q);obtain⟨m,tk,rfl⟩:=Pd hi v hv;rw [LJ];exact P2 q'
noncomputable def Hj (prog:S8)(w:B0):ů prog w (G0 P1) where
 is:=λh x a=>uE (intKind prog w) h x a
 hash:=tupleKeyHash (intKind prog w)
 inj:=λhx hy=>hx.inj hy
 keep:=λk ⟨o,items,n,ho,hc,hd,hi⟩=>⟨o,items,n,k _ o hc ho,hc,hd,hi⟩
 hashed:=λhu hk q=>wpAny_pyHash_tuple (by omega) hk (q _)
 same:=λhu hx hy q=>wpAny_eqBool_tuple (by omega) hx hy q
 quiet:=λhk q=>wpAny_eqIsQuiet_tuple hk q
 cls:=λhk q=>LH 7 hk q
 byv:=λhk q=>LK 7 hk q
end
end L2
namespace L2
open PySem PySem.Spec PyProof.Rows HT PySem.SeqAt
section
variable {prog:S8}{w:B0}{A:T8}{E:G1->G3->Prop}{a I:G9}{fp wr:G0 G9}{n:G5}{P:G5->G1->Prop}{St:G5->C7->Prop}{K:Type}[DecidableEq K]{M:ů prog w K}{L:M7}{is:K->G9->Prop}{key:G5->K}
theorem JU {R:nQ->G3->Prop}(hu:A.units+16<cLine)(W:Walks prog w A.in1 I fp wr n P St)(num: ∀i v,P i v-> ∃b,v= .ref b/\is (key i) b)(na:a ∉ fp)(few:n<1000)(nt: ∀i h,St i h-> ∀b∈wr,∀o,h.get? b=some o->o.cls≠ .type "tuple"):
 ∀ (k i:G5) (s:G3) (f:P1×G1->K) (es:T6 (P1×G1)) (ep:G5) (t:T9),i+k=n->St i s.heap->s.heap.get? a=some (zJ es ep t)->(∀k b,is k b->M.is s.heap k b)->ā M L is f es t ((P4 i).map key).reverse->
  (∀h' tk f' es' ä t',h'.get? a=some (zJ es' ä t')->ā M L is f' es' t' ((P4 n).map key).reverse->(∀b o,b≠a->b ∉ wr->s.heap.get? b=some o->h'.get? b=some o)->R (.ok (.ret .none)) {s with heap:=h',toks:=tk})->
  aK (R7 prog w) A (.builtin "set.update.loop" ⟨[.ref a,.ref I],[]⟩) R s
 |0,i,s,f,es,ep,t,hk,st,ha,to,S,q=>by
  obtain rfl:i=n:=by omega
  refine aE vZ ?_;rw [bU wQ];exact wpAny_bind (W.done s _ _ st λh' tk kept=>P2 (q h' tk f es ep t (kept _ _ (λz=>na (W.sub _ z)) ha) S λb o _ nb e=>kept b o nb e))
 |k+1,i,s,f,es,ep,t,hk,st,ha,to,S,q=>by
  refine aE vZ ?_;rw [bU wQ];refine wpAny_bind (W.item i s _ _ (by omega) st λv h1 tk1 pv st1 ń=> ?_);obtain⟨b,rfl,hb⟩:=num i v pv;have ha1:=ń _ _ (λz=>na (W.sub _ z)) ha;have to1: ∀k b,is k b->M.is h1 k b:=λk b z=>M.keep (λc o hc e=>ń c o (λm=>nt i _ st c m o e hc) e) (to k b z)
  refine wpAny_bind (L7 (Me (s:= {s with heap:=h1,toks:=tk1}) (show A.units+1+8<cLine by omega) S ha1 (by simp;omega) to1 hb λr f2 es2 ep2 t2 h2 tk2 S2 ha2 ę=>P2 ⟨lQ wQ _,?_⟩));have S3:ā M L is f2 es2 t2 ((P4 (i+1)).map key).reverse:=by
   rw [A5,T7,oS];exact S2
  have kep: ∀c o,o.cls= .type "tuple" ->h1.get? c=some o->h2.get? c=some o:=λc o hc e=>ę.extBut _ _ (λz=>by
   subst z;rw [show h1.get? c=some (zJ es ep t) from ha1] at e;cases e;exact absurd (show V2 "set" =V2 "tuple" from hc) (by decide)) e
  refine JU hu W num na few nt k (i+1) {s with heap:=h2,toks:=tk2} f2 es2 ep2 t2 (by omega) (W.frame _ _ _ st1 λb hb o e=>ę.extBut _ _ (λz=>na (z ▸ hb)) e) ha2 (λk b z=>M.keep kep (to1 k b z)) S3 λh' tk' f' es' ä t' ha' S' X0m=> ?_
  exact q h' tk' f' es' ä t' ha' S' λb o ba bw e=>X0m b o ba bw (ę.extBut _ _ ba (ń b o bw e))
def QU (L:M7)(f:P1×G1->K):ā M L is f #[] (.fresh 0 0 L) []:=⟨Pa 0 0 L,rfl,(by show 0*5<7*3;decide),(by show 7<=8*0+16;decide),λe he=>absurd he (by simp),by simp,λk=>by simp⟩
variable {s:G3}
def Mf {l:G9}{vs:G0 G1}{ep:G5}{T:U5}{Q:P5 G1->G3->Prop}(hu:A.units+32<cLine)(calm:A.handled=none)(hT:T= "list" \/T= "tuple")
 (hl: ∃o,s.heap.get? l=some o/\o.cls= .type T/\ ∃c,o.data= .seq vs.toArray c)(hM: ∀i v,vs[i]? =some v-> ∃b,v= .ref b/\is (key i) b)(to: ∀k b,is k b->M.is s.heap k b)(few:vs.length<1000)(ha:s.heap.get? a=some (zJ #[] ep (.fresh 0 0 (zc w))))(la:l≠a)
 (k: ∀h' tk f' es' ä t',h'.get? a=some (zJ es' ä t')->ā M (zc w) is f' es' t' ((P4 vs.length).map key).reverse->(∀b o,b≠a->s.heap.get? b=some o->h'.get? b=some o)->Q (some .none) {s with heap:=h',toks:=tk}):
 R0 (R7 prog w) A (qF (.ref a) "__init__" [.ref l]) Q E s:=by
 have ty:s.TypeIs (.ref a) "set" :=⟨_,ha,rfl⟩;refine Q7 ty F.called_set.init (bY (Y8 F.called_set.init.plain vb (Ja ty ?_)));have f1:=Zd;have f2:=Ze;have f3:=Wg;have f4:=Wh;obtain⟨⟨oc,od,odt,ē⟩,ĕ,hc,c,hd⟩:=hl;simp only at hc hd;subst hc hd;have state:=λ{P:T6 (P1×G1)×G5×T9->G3->Prop} {E':G1->G3->Prop} {A':T8}=>O7 (prog:=prog) (w:=w) (A:=A') (E:=E') (Q:=P) (s:=s) ha rfl (Zy (zc w)).tab.fits
 have far:a≠s.heap.objs.size:=λz=>B1 _ (z ▸ D2 ha)
 have X0N:l≠s.heap.objs.size:=λz=>B1 _ (z ▸ D2 ĕ)
 have na:a ∉ [s.heap.objs.size,l]:=by simp [far,la.symm]
 have sv:vs.toArray.size=vs.length:=S0 ..;have fin: ∀ {o:Obj} h' tk f' es' ä t',h'.get? a=some (zJ es' ä t')->ā M (zc w) is f' es' t' ((P4 vs.toArray.size).map key).reverse->(∀b ob,b≠a->b ∉ [s.heap.objs.size]->(s.heap.push o).get? b=some ob->h'.get? b=some ob)->Q (some .none) {s with heap:=h',toks:=tk}:=λh' tk f' es' ä t' e S kept=>by
  rw [sv] at S;exact k h' tk f' es' ä t' e S λb ob nb q=>kept b ob nb (λz=>B1 _ (P0.mp z ▸ D2 q)) (G7 _ q)
 have to1: ∀ (o:Obj) (k:K) (b:G9),is k b->M.is (s.heap.push o) k b:=λo k b z=>M.keep (λc ob hc e=>G7 _ e) (to k b z)
 rcases hT with rfl|rfl
 ·have tl:s.TypeIs (.ref l) "list" :=⟨_,ĕ,rfl⟩;have isl:s.heap.IsList l vs.toArray:=⟨_,ĕ,rfl,c,rfl⟩
  wp_walk using state,Z8 isl
  refine JU (f:=λ_=>key 0) (M:=M) (is:=is) (key:=key) (show A.units+1+16<cLine by omega) (mT (prog:=prog) (w:=w) (A:=A.in1.in1) calm s.heap.objs.size l X0N vs.toArray) (λi v hv=>hM i v (by simpa using hv)) na (by rw [sv];exact few) (λi h st b hb o e=> ?_) vs.toArray.size 0 _ #[] ep _ (U8 _) ⟨⟨_,S4 _ rfl,rfl,rfl⟩,⟨_,G7 _ ĕ,rfl,c,rfl⟩⟩ (G7 _ ha) (to1 _) (QU _ _) λh' tk f' es' ä t' e S kept=>P2 (P2 (fin h' tk f' es' ä t' e S kept))
  obtain⟨⟨o',e',c',_⟩,_⟩:=st;rw [P0.mp hb,e'] at e;cases e;rw [c'];decide
 ·have tl:s.TypeIs (.ref l) "tuple" :=⟨_,ĕ,rfl⟩;have isl:s.heap.IsTuple l vs.toArray:=⟨_,ĕ,rfl,c,rfl⟩
  wp_walk using state,aU isl
  refine JU (f:=λ_=>key 0) (M:=M) (is:=is) (key:=key) (show A.units+1+16<cLine by omega) (rT (prog:=prog) (w:=w) (A:=A.in1.in1) calm s.heap.objs.size l X0N vs.toArray) (λi v hv=>hM i v (by simpa using hv)) na (by rw [sv];exact few) (λi h st b hb o e=> ?_) vs.toArray.size 0 _ #[] ep _ (U8 _) ⟨⟨_,S4 _ rfl,rfl,rfl⟩,⟨_,G7 _ ĕ,rfl,c,rfl⟩⟩ (G7 _ ha) (to1 _) (QU _ _) λh' tk f' es' ä t' e S kept=>P2 (P2 (fin h' tk f' es' ä t' e S kept))
  obtain⟨⟨o',e',c',_⟩,_⟩:=st;rw [P0.mp hb,e'] at e;cases e;rw [c'];decide
def Ba {l:G9}{vs:G0 G1}{T:U5}{Q:G1->G3->Prop}(hu:A.units+40<cLine)(calm:A.handled=none)(hT:T= "list" \/T= "tuple")
 (hl: ∃o,s.heap.get? l=some o/\o.cls= .type T/\ ∃c,o.data= .seq vs.toArray c)(hM: ∀i v,vs[i]? =some v-> ∃b,v= .ref b/\is (key i) b)(to: ∀k b,is k b->M.is s.heap k b)(few:vs.length<1000)
 (k: ∀h' tk f' es' ä t',h'.get? s.heap.objs.size=some (zJ es' ä t')->ā M (zc w) is f' es' t' ((P4 vs.length).map key).reverse->(∀b o,s.heap.get? b=some o->h'.get? b=some o)->Q (.ref s.heap.objs.size) {s with heap:=h',toks:=tk}):
 R0 (R7 prog w) A (call (.type "set") [.ref l]) Q E s:=by
 have fits:o4 "set" ⟨[.ref l],[]⟩=pure ():=by kernel_rfl
 have ŗ:cE "set.__new__" ⟨[.type "set",.ref l],[]⟩=pure ():=by kernel_rfl
 obtain⟨o,ĕ,r⟩:=hl;refine L2.Wb (Made:=λv s₁=>v= .ref s.heap.objs.size/\s₁= {s with heap:=s.heap.push (zJ #[] 0 (.fresh 0 0 (zc w)))}) xQ fits
  (bY (Y8 F.called_set.plain sG (rR ŗ (Qp ⟨rfl,rfl⟩)))) λv s₁ ⟨ev,es⟩=> ?_
 subst ev es;have at_:(s.heap.push (zJ #[] 0 (.fresh 0 0 (zc w)))).get? s.heap.objs.size=some (zJ #[] 0 (.fresh 0 0 (zc w))):=S4 _ rfl;refine⟨⟨_,at_,rfl⟩,Mf (s:= {s with heap:=s.heap.push (zJ #[] 0 (.fresh 0 0 (zc w)))}) (M:=M) (is:=is) (key:=key) (show A.units+1+32<cLine by omega) calm hT ⟨o,G7 _ ĕ,r⟩ hM (λk b z=>M.keep (λc o hc e=>G7 _ e) (to k b z)) few at_ (λz=>B1 _ (z ▸ D2 ĕ)) λh' tk f' es' ä t' e S kept=>⟨rfl,k h' tk f' es' ä t' e S λb ob q=>kept b ob (λz=>B1 _ (z ▸ D2 q)) (G7 _ q)⟩⟩
def XG {es:T6 (P1×G1)}{ep:G5}{t:T9}{Q:G1->G3->Prop}(hu:A.in1.in1.units<cLine)(calm:A.handled=none)(S:Ş (zc w) es.size t)(ha:s.heap.get? a=some (zJ es ep t))(few:es.size<1000)(x: ∀e∈es.toList,∃ns,IT s.heap e.2 ns)
 (k: ∀ (h1 h':C7) d (tk c:G5) (out:G0 G1),vB s.heap h1->vB h1 h'->h'.get? h1.objs.size=some (cG "list" out.toArray c)->out.Perm (es.toList.map (·.2))->out.Pairwise (λx y=>HT.jF (jU s.heap y) (jU s.heap x)=false)->
  Q (.ref h1.objs.size) {s with heap:=h',drawn:=d,toks:=tk}):R0 (R7 prog w) A (call (.builtin "sorted") [.ref a]) Q E s:=by
 refine dW rV qL qM (qN _) (wpAny_bind (P2 (wpAny_bind (wpAny_bind (tY (cJ (Yq calm S ha few) λres s' listed=> ?_))))));obtain⟨h1,d,tk,acc,c0,rfl,rfl,made,kept,p⟩:=listed;refine wpAny_bind (pB made (P2 ?_));have len:acc.toList.length=es.size:=by rw [p.length_eq,G2,D8]
 have hz:acc.toList.length<=sizeLine:=by rw [len];exact R6 (S6 few) (by decide)
 have fresh:(h1.push (cG "list" acc.toList.toArray 0)).get? h1.objs.size=some (cG "list" acc.toList.toArray 0):=S4 _ rfl;have kp: ∀h',Lg {s with heap:=h1.push (cG "list" acc.toList.toArray 0),drawn:=d,toks:=tk} h1.objs.size h'->vB h1 h':=λh' p b x e=>p b x (M8 (D2 e)) (G7 _ e)
 have ks: ∀h',Lg {s with heap:=h1.push (cG "list" acc.toList.toArray 0),drawn:=d,toks:=tk} h1.objs.size h'->vB s.heap h':=λh' p b x e=>kp h' p b x (kept b x e)
 have it: ∀v∈acc.toList,∃ns,IT s.heap v ns:=λv hv=>by
  obtain⟨e,he,rfl⟩:=S9.mp (p.mem_iff.mp hv);exact x e he
 refine wpAny_bind (lS (wpAny_bind (L7 (K2 n5 ⟨_,fresh,rfl⟩ m8 (QB (s:= {s with heap:=h1.push (cG "list" acc.toList.toArray 0),drawn:=d,toks:=tk}) (κ:=GX s.heap acc.toList) (U:=λx=> ∃ns,IT s.heap x.1 ns) (R:=λx y=>HT.jF (jU s.heap x.1) (jU s.heap y.1)) fresh hz
  (λh2 h' p=>Ut (s:= {s with heap:=h',drawn:=d,toks:=tk}) h2 it (ks h' p) ⟨rfl,tk,rfl⟩) (λh' p=>Uu (s:= {s with drawn:=d}) hu (ks h' p)) (Us _) it λout c tk' h' p' e1 e2 e3=>⟨_,rfl,?_⟩) (n8 _)))) hz)
 refine P2 ⟨_,rfl,k h1 h' d tk' c out kept (kp h' p') e1 (e2.trans p) ?_⟩;rw [L9] at e3;exact e3
end
theorem Yw {prog:S8}{w:B0}: ∀ {vs:G0 G1} {ns:G0 P1},W0 vs ns->ItemsAre (intKind prog w) ns vs
 |_,_,.nil=> .nil
 |_,_,.cons n t a=> .cons (by simp [intKind,dD]) (Yw a)
def Cd (prog:S8)(w:B0)(H:Hp)(o:Obj)(ks:G0 (G0 P1)):Prop:= ∃es ep t f,o=zJ es ep t/\ā (Hj prog w) (zc w) (λk b=>H b=some (.tup (k.map V.int))) f es t ks
variable {X:Cx}
def EZ {ID:G0 (G9×Obj)}{σ:St}{H:Hp}{s:G3}(I:Inv X ID σ H s)(k:G0 P1)(b:G9)(h:H b=some (.tup (k.map V.int))):(Hj X.prog X.w).is s.heap k b:=by
 obtain⟨_,us,r2,o,e,c,_,n,d⟩:=I.hok b _ h;exact⟨o,us.toArray,n,e,c,d,Yw (Zc r2)⟩
def Sa {ID:G0 (G9×Obj)}{σ:St}{H:Hp}{s:G3}(I:Inv X ID σ H s)(k:G0 P1)(b:G9)(h:H b=some (.tup (k.map V.int))):IT s.heap (.ref b) k:=by
 obtain⟨_,us,r2,p⟩:=I.hok b _ h;exact⟨b,us.toArray,rfl,p.tup,Zc r2⟩
def Mg {k:G5}(hc:X.calm=true)(hr:Î k X.A):Ù X (.type "set") (λxs H Q=> ∃ (a:G9) (ps:G0 (V×G0 P1)),xs= [.ref a]/\í X.K H a (ps.map (·.1))/\ps.length<1000/\(∀p∈ps,Op H p.1 p.2)/\ ∀ (p:G9) (o:Obj),H p=none->Cd X.prog X.w H o (ps.map (·.2)).reverse->Q (.ref p) (upd H p (.frz o (.own 0)))):=by
 intro ID s σ H xs us Q I r h;obtain⟨a,ps,rfl,hS,few,ht,q⟩:=h;obtain⟨u,rfl,ru⟩:=vj r;cases ru;obtain⟨its,rv,pl,hz⟩:=I.list hS;have len:its.length=ps.length:=by have:=rv.length;rw [G2] at this;exact this.symm
 have hu:X.A.units+40<cLine:=by have:=hr.un;omega
 have at_: ∀i v,its[i]? =some v-> ∃b,v= .ref b/\H b=some (.tup (((ps.map (·.2)).getD i []).map V.int)):=by
  clear hS q few hz pl len
  induction ps generalizing its with
  |nil=>cases rv;exact λi v e=>by cases e
  |cons p ps ih=>
   rw [N4] at rv;cases rv with
   |cons r1 r2=>
    intro i v e;cases i with
    |zero=>
     obtain⟨b,eb,hb⟩:=ht p R5;rw [eb] at r1;cases e;exact⟨b,r1,hb⟩
    |succ i=>exact ih (λp hp=>ht p (T3 _ hp)) _ r2 i v e
 have rng:(P4 its.length).map (λi=>(ps.map (·.2)).getD i [])=ps.map (·.2):=by
  have:=zZ (ps.map (·.2)) ([]:G0 P1);rw [G2] at this;rw [len];exact this.symm
 refine Ba (M:=Hj X.prog X.w) (is:=λk b=>H b=some (.tup (k.map V.int))) hu (I.ok.hd hc) (.inl rfl) pl.isList at_ (EZ I) (by omega) λh' tk f es ep t e S kept=> ?_
 rw [rng] at S;exact⟨.ref _,_,I.laid (t':=tk) (o:= .frz (zJ es ep t) (.own 0)) kept (P3 _) ⟨e,⟨_,e⟩⟩,rfl,q _ _ (I.hok.fresh (P3 _)) ⟨es,ep,t,f,rfl,S⟩⟩
def Oq:G1->V
 | .ref b=> .ref b
 |_=> .int 0
def Pe {x y:G0 P1}(h:HT.jF y x=false)(ne:x≠y):HT.jF x y=true:=by
 cases e:HT.jF x y with
 |true=>rfl
 |false=>exact absurd (vC _ _ e h) ne
def Vk {k:G5}(hc:X.calm=true)(hr:Î k X.A):Ù X (.builtin "sorted") (λxs H Q=> ∃ (p:G9) (o:Obj) (ks:G0 (G0 P1)),xs= [.ref p]/\H p=some (.frz o (.own 0))/\Cd X.prog X.w H o ks/\ks.length<1000/\ ∀ (q:G9) (ps:G0 (V×G0 P1)),H q=none->(∀x∈ps,Op H x.1 x.2)->(ps.map (·.2)).Pairwise (λx y=>HT.jF x y=true)->(∀k,k∈ps.map (·.2)↔k∈ks)->Q (.ref q) (upd H q (.lst (ps.map (·.1))))):=by
 intro ID s σ H xs us Q I r h;obtain⟨p,o,ks,rfl,hp,⟨es,ep,t,f,rfl,S⟩,few,q⟩:=h;obtain⟨u,rfl,ru⟩:=vj r;cases ru;have hu:X.A.in1.in1.units<cLine:=by
  have:=hr.un;show X.A.units+1+1<cLine;omega
 have it: ∀e∈es.toList,IT s.heap e.2 (f e)/\Op H (Oq e.2) (f e)/\RelV (Oq e.2) e.2:=λe he=>by
  obtain⟨_,b,eb,hb⟩:=S.each e he;rw [eb];exact⟨Sa I _ _ hb,⟨b,rfl,hb⟩,rfl⟩
 have sz:=S.size;refine XG hu (I.ok.hd hc) S.tab (I.hok p _ hp).1 (by omega) (λe he=>⟨_,(it e he).1⟩) λh1 h' d tk c out k1 k2 lies pm srt=> ?_
 obtain⟨zs,pz,rfl⟩:=Jg pm;have I1:=(I.kept (t':=s.toks) k1).drew d;have vv: ∀l:G0 (P1×G1),(∀z∈l,z∈es.toList)->Æ ((l.map λe=>(Oq e.2,f e)).map (·.1)) (l.map (·.2)):=λl=>by
  induction l with
  |nil=>exact λ_=> .nil
  |cons z l ih=>exact λsub=> .cons (it z (sub z R5)).2.2 (ih λy hy=>sub y (T3 _ hy))
 have m2:(zs.map λe=>(Oq e.2,f e)).map (·.2)=zs.map f:=by rw [N8];rfl
 refine⟨.ref _,_,I1.laid (t':=tk) (o:= .lst ((zs.map λe=>(Oq e.2,f e)).map (·.1))) k2 (P3 _) ⟨?_,_,c,vv zs λz hm=>pz.mem_iff.mp hm,lies⟩,rfl,q _ (zs.map λe=>(Oq e.2,f e)) (I1.hok.fresh (P3 _)) (λx hx=> ?_) ?_ λk=> ?_⟩
 ·rw [G2,G2,pz.length_eq,D8];exact R6 (show es.size<=1000 by omega) (by decide)
 ·obtain⟨e,he,rfl⟩:=S9.mp hx;exact(it e (pz.mem_iff.mp he)).2.1
 ·rw [m2];have nd:(zs.map f).Nodup:=(pz.map f).nodup_iff.mpr S.nd;unfold mV at nd;rw [L9] at srt nd ⊢;refine(srt.and nd).imp_of_mem λ{y z} hy hz ⟨e,ne⟩=> ?_
  rw [(it y (pz.mem_iff.mp hy)).1.nums,(it z (pz.mem_iff.mp hz)).1.nums] at e;exact Pe e ne
 ·rw [m2];exact(pz.map f).mem_iff.trans (S.mem k)
def dST (ta:TAD):TED:=λσ h Q=>ta σ h λds h1=> ∃ (a:G9) (Ρ:G0 (G0 P1)),ds= [.lst a]/\h1 a=some (Ρ.map tI)/\Ρ.length<1000/\ ∀ (p:G9) (kss:G0 (G0 P1)),h1 p=none->kss.Pairwise (λx y=>HT.jF x y=true)->(∀k,k∈kss↔k∈Ρ)->Q (.lst p) (zF h1 p (kss.map tI))
def jst {k : G5} {a : M9} {ta : TAD} {p p2 pos ř : Pos} (hr : Î k X.A) (hc : X.calm = true) (hg : Gl X "sorted") (hm : X.mg "sorted" = none) (hg2 : Gl X "set") (hm2 : X.mg "set" = none) (ha : JA X [a] ta) (hs : P8 [a] X.env = [(false, A2 a X.env)] := by rfl)
    (h1 : P8 [.Call (.Name "set" p2) [a] [] ř] X.env = (false, A2 (.Call (.Name "set" p2) [a] [] ř) X.env) :: P8 [] X.env := by rfl) (h2 : (E1 pos (P8 [] X.env)).any (·.1) = false := by rfl) (h3 : (E1 ř (P8 [] X.env)).any (·.1) = false := by rfl) :
    JE X (.Call (.Name "sorted" p) [.Call (.Name "set" p2) [a] [] ř] [] pos) (dST ta) :=
  ⟨(yK (Vk hc hr) hg hm (by decide +kernel) (zA (ZL (Mg hc hr) hg2 hm2 (by decide +kernel) ha.to (by decide) (by decide) hs h3) ð h1) (by decide) (by decide) h1 h2).imp
    fun σ H Q ⟨Â, h, Qd, rs, rh, t, post⟩ => LA.bind rs rh t fun ds vs h1 H1 k1 Ö Ê r1 ⟨a, Ρ, e, hd, few, q⟩ => by
      subst e
      obtain ⟨v, e, r2⟩ := jB r1
      obtain ⟨ws, hH, r3⟩ := Ê a _ hd
      have e1 : v = .ref a := r2.1
      subst e e1
      obtain ⟨ps, rfl, rfl, ht⟩ := Xx r3
      rw [G2] at few
      refine ⟨a, ps, rfl, í.of hH, few, ht, fun c o ν S => ?_⟩
      have î := Ê.new (o := .frz o (.own 0)) ν
      have up : ∀ {b : G9} {ob : _}, H1 b = some ob → upd H1 c (.frz o (.own 0)) b = some ob := fun {b ob} e => by
        rw [jf (fun z => by subst z; rw [ν] at e; cases e)]; exact e
      obtain ⟨es, ep, t, f, eo, S⟩ := S
      refine ⟨c, o, (ps.map (·.2)).reverse, rfl, ji, ⟨es, ep, t, f, eo, S.imp fun k b z => up z⟩, by simpa using few, fun l ł hl ht' srt mem => ?_⟩
      exact post (.lst l) (.ref l) _ _ (k1.trans ((Kept.new ν).trans (.new hl))) (î.newL hl (Xy ht')) ⟨rfl, _, ji⟩ (q l (ł.map (·.2)) (î.free hl) srt fun k => by rw [mem k, K4])⟩
end L2
namespace L2
open PySem PySem.Spec PyProof.Rows PySem.SeqAt HT
theorem Ce {α:Type}{R:α->α->Prop}(no: ∀x y,R x y-> ¬R y x): ∀ {xs ys:G0 α},xs.Pairwise R->ys.Pairwise R->(∀a,a∈xs↔a∈ys)->xs=ys
 | [],[],_,_,_=>rfl
 | [],y::ys,_,_,m=>absurd ((m y).mpr R5) H0
 |x::xs,[],_,_,m=>absurd ((m x).mp R5) H0
 |x::xs,y::ys,px,py,m=>by
  obtain⟨p1,p2⟩:=U1.mp px;obtain⟨q1,q2⟩:=U1.mp py;have e:x=y:=by
   rcases D5.mp ((m x).mp R5) with e|e
   ·exact e
   rcases D5.mp ((m y).mpr R5) with e'|e'
   ·exact e'.symm
   exact absurd (p1 y e') (no _ _ (q1 x e))
  subst e;rw [Ce no p2 q2 λa=>⟨λh=> ?_,λh=> ?_⟩]
  ·rcases D5.mp ((m a).mp (T3 _ h)) with e|e
   ·subst e;exact absurd (p1 _ h) (no _ _ (p1 _ h))
   ·exact e
  ·rcases D5.mp ((m a).mpr (T3 _ h)) with e|e
   ·subst e;exact absurd (q1 _ h) (no _ _ (q1 _ h))
   ·exact e
def Sb (x y:G0 P1)(h:HT.jF x y=true): ¬HT.jF y x=true:=λz=>by rw [yO _ _ h] at z;cases z
section
variable {X:Cx}{e r:M9}{op:iQ}{u:TXD}{pos p:Pos}{a b rest:G0 A6}
def Sc (he:JXE X e u)(hm:U3 op r=false:=by first|exact MG _ (by decide) (by decide)|rfl):JXE X (.Compare e [op] [r] pos) u:=⟨λE Z ID s σ H Â h R I rs rh ht w=>
 sV (M0 (he.to E Z ID s σ H Â h R I rs rh ht w) (λ_ _ z=>z.elim) λ_ _ z=>z) hm⟩
def Sd (he:JXE X e u)(hv: ∀whole,isTrue e X.env whole=(do let v <-whole;hO e.pos;aZ [v] (qV v)):=by intro _;rfl):JX X (.If (.UnaryOp .Not e p) a b pos::rest) u:=⟨λE Z ID s σ H Â h R I rs rh ht w=>
 Q0 (y8 (wpAny_isTrue_Not (wpAny_isTrue_value (M0 (he.to E Z ID s σ H Â h R I rs rh ht w) (λ_ _ z=>z.elim) λ_ _ z=>z) (hv _))))⟩
end
noncomputable def û (T:G0 (G0 P1))(n p:G5):G0 G5:=(P4 n).filter λj=>wk T n p j&&wk T n j p
noncomputable def vP (T:G0 (G0 P1))(n:G5):G0 (G0 G5):=((P4 n).filter λp=>decide ((û T n p).headD 0=p)).map (û T n)
section
variable {T:G0 (G0 P1)}{n e:G5}
def LL (p:G5):ø n (û T n p):=⟨_,rfl⟩
variable {p:G5}
def č {j:G5}:j∈û T n p↔j<n/\wk T n p j=true/\wk T n j p=true:=by
 unfold û;rw [C3,D1,B8]
def Mh (hp:p<n):p∈û T n p:=č.mpr ⟨hp,Vg T n p,Vg T n p⟩
def LM {q:G5}(hp:p<n)(h:q∈û T n p):û T n q=û T n p:=by
 obtain⟨hq,h1,h2⟩:=č.mp h;refine(LL q).ext (LL p) λj=> ?_
 rw [č,č];exact⟨λ⟨a,b,c⟩=>⟨a,wE hq h1 b,wE hq c h2⟩,λ⟨a,b,c⟩=>⟨a,wE hp h2 b,wE hp c h1⟩⟩
def Vl (hp:p<n): ∃r,û T n p=(û T n p).headD 0::r:=by
 cases h:û T n p with
 |nil=>have:=Mh (T:=T) hp;rw [h] at this;cases this
 |cons x r=>exact⟨r,rfl⟩
def LP (hp:p<n):(û T n p).headD 0<n/\û T n ((û T n p).headD 0)=û T n p:=by
 obtain⟨r,h⟩:=Vl (T:=T) hp;have m:(û T n p).headD 0∈û T n p:=by
  generalize (û T n p).headD 0=x at h;rw [h];exact R5
 exact⟨(č.mp m).1,LM hp m⟩
variable {S:G0 G5}
def Ģ:S∈vP T n↔ ∃p,p<n/\S=û T n p:=by
 unfold vP;rw [S9];constructor
 ·rintro ⟨p,hp,rfl⟩;exact⟨p,D1.mp (C3.mp hp).1,rfl⟩
 ·rintro ⟨p,hp,rfl⟩;obtain⟨a,b⟩:=LP (T:=T) hp;exact⟨(û T n p).headD 0,C3.mpr ⟨D1.mpr a,D3 (by rw [b])⟩,b⟩
def Bb:(vP T n).Pairwise λx y=>HT.jF (toI x) (toI y)=true:=by
 unfold vP;rw [L9];refine(IL _ List.pairwise_lt_range).imp_of_mem λ{p q} hp hq lt=> ?_
 obtain⟨p1,p2⟩:=C3.mp hp;obtain⟨q1,q2⟩:=C3.mp hq;obtain⟨r,e1⟩:=Vl (T:=T) (D1.mp p1);obtain⟨r',e2⟩:=Vl (T:=T) (D1.mp q1);rw [L8 p2] at e1;rw [L8 q2] at e2;rw [e1,e2];show HT.jF ((p:P1)::toI r) ((q:P1)::toI r')=true;rw [Jy,R9 (by omega)];exact D3 (by omega)
def Ď (n:G5)(T:G0 (G0 P1))(S:G0 G5):G0 G5:=unS n S (yn n T S)
def Se (S:G0 G5):ø n (Ď n T S):=BP n _ _
def wW (h:ø n S): ∀k,ø n (Ę (Ď n T) S k)
 |0=>h
 |k+1=>Se _
def UD (h:ø n S){j:G5}:j∈Ď n T S↔j∈S\/j∈yn n T S:=Xu h (ø.step T S) j
def Mi (h:ø n S)(ne:Ď n T S≠S):S.length+1<=(Ď n T S).length:=by
 rcases O4 S.length (Ď n T S).length with z|z
 ·exact z
 ·exfalso;refine ne (h.ext (Se S) λj=>⟨λhj=>(UD h).mpr (.inl hj),λhj=> ?_⟩).symm;rcases dR (j∈S) with c|c
  ·exact c
  ·exfalso;have nd:(j::S).Nodup:=K0.mpr ⟨c,h.rise.imp λz=>M8 z⟩;have:=zP nd (ys:=Ď n T S) λx hx=>by
    rcases D5.mp hx with rfl|hx
    ·exact hj
    ·exact(UD h).mpr (.inl hx)
   rw [R1] at this;omega
theorem UE (h:ø n S): ∀k,Ď n T (Ę (Ď n T) S k)=Ę (Ď n T) S k\/S.length+k+1<=(Ę (Ď n T) S (k+1)).length
 |0=>by
  rcases dR (Ď n T S=S) with z|z
  ·exact .inl z
  ·exact .inr (Mi h z)
 |k+1=>by
  rcases UE h k with z|z
  ·refine .inl ?_;show Ď n T (Ď n T (Ę (Ď n T) S k))=Ď n T (Ę (Ď n T) S k);rw [z,z]
  ·rcases dR (Ď n T (Ę (Ď n T) S (k+1))=Ę (Ď n T) S (k+1)) with y|y
   ·exact .inl y
   ·have m:=Mi (wW h (k+1)) y;refine .inr ?_;show _<=(Ď n T (Ę (Ď n T) S (k+1))).length;omega
def LQ (hT:Sq n e T){S:G0 G5}(h:ø n S):Ę (Ď n T) S n=ğ n T S:=by
 have st:Ď n T (Ę (Ď n T) S n)=Ę (Ď n T) S n:=by
  rcases UE (T:=T) h n with z|z
  ·exact z
  ·have:=(wW (T:=T) h (n+1)).len;omega
 have inn: ∀k,∀j∈Ę (Ď n T) S k,j∈ğ n T S:=λk=>by
  induction k with
  |zero=>exact λj hj=>EM h hj
  |succ k ih=>
   intro j hj;rcases (UD (wW h k)).mp hj with z|z
   ·exact ih j z
   ·obtain⟨hj,i,hi,a⟩:=ă.mp z;obtain⟨â,q,hq,wq⟩:=Ĭ.mp (ih i hi);exact Ĭ.mpr ⟨hj,q,hq,wE â wq (QJ a n)⟩
 have sub: ∀k,∀j∈S,j∈Ę (Ď n T) S k:=λk=>by
  induction k with
  |zero=>exact λj hj=>hj
  |succ k ih=>exact λj hj=>(UD (wW h k)).mpr (.inl (ih j hj))
 refine(wW h n).ext (RN n T S) λj=>⟨inn n j,λhj=> ?_⟩
 refine Hh (ŭ.mpr λi hi j hj a=> ?_) (RO hT) (sub n) hj;rw [<-st];exact(UD (wW h n)).mpr (.inr (ă.mpr ⟨hj,i,hi,a⟩))
def Mj {j:G5}:j∈ğ n T [p]↔j<n/\wk T n p j=true:=by
 rw [Ĭ];exact⟨λ⟨a,i,hi,b⟩=>⟨a,by rw [P0.mp hi] at b;exact b⟩,λ⟨a,b⟩=>⟨a,p,P0.mpr rfl,b⟩⟩
def Sf (hp:p<n):(ğ n T [p]).filter (λi=>decide (p∈ğ n T [i]))=û T n p:=by
 have is:ø n ((ğ n T [p]).filter (λi=>decide (p∈ğ n T [i]))):=by
  unfold ğ;rw [pN];exact⟨_,rfl⟩
 refine is.ext (LL p) λj=> ?_
 rw [C3,č,Mj,C6,Mj];exact⟨λ⟨⟨a,b⟩,_,c⟩=>⟨a,b,c⟩,λ⟨a,b,c⟩=>⟨⟨a,b⟩,hp,c⟩⟩
def Pf {kss:G0 (G0 P1)}(r:kss.Pairwise λx y=>HT.jF x y=true)(m: ∀k,k∈kss↔k∈(P4 n).map λp=>toI (û T n p)):kss=(vP T n).map toI:=by
 refine Ce Sb r (by rw [L9];exact Bb) λk=> ?_
 rw [m k,S9,S9];constructor
 ·rintro ⟨p,hp,rfl⟩;exact⟨_,Ģ.mpr ⟨p,D1.mp hp,rfl⟩,rfl⟩
 ·rintro ⟨S,hS,rfl⟩;obtain⟨p,hp,rfl⟩:=Ģ.mp hS;exact⟨p,D1.mpr hp,rfl⟩
end
end L2
namespace L2
open PySem PySem.Spec PyProof.Rows PySem.W
structure Ç (K:Frag)(x:Str)(st:A6)(f:G9)(fd:M6):Prop where
 at_:nsIn K mainGlobals x=some (some (.ref f))
 fn:Þ K x x st f fd
variable {K:Frag}{h base:C7}{mg:Str->P5 G1}{x:Str}{st:A6}{f:G9}{fd:M6}{P:S8}{w:B0}{n:G5}{ps:G0 Str}
def Sg {oc:G1}{od an:P5 G9}{ē:T6 (P5 G1)}{kV doc pm Ë ct:G1}(a:nsIn K mainGlobals x=some (some (.ref f)))(l:K.lookup f=some ⟨oc,od,.func (fnOf x x (yo st) (jS st) (jd st) .none kV doc pm an Ë ct),ē⟩)
 (c:codeIn K Ë x=true)(k:keepIn K (.ref f)=true):Ç K x st f (fnOf x x (yo st) (jS st) (jd st) .none kV doc pm an Ë ct):=⟨a,Af l c k⟩
abbrev Sh (x:Str)(st:A6)(ps:G0 Str):Prop:= ∀ (kV doc pm:G1) (an:P5 G9) (Ë ct:G1) (us:G0 G1),us.length=ps.length->sZ (fnOf x x (yo st) (jS st) (jd st) .none kV doc pm an Ë ct) ⟨us,[]⟩=pure (ps.zip us)
def Ç.nm (d:Ç K x st f fd)(X:K.In h)(G:h.Ns mainGlobals mg):mg x=some (.ref f):=mg_of X G d.at_
variable {C:G0 G1->Prop}
def ln1 (g: ∀a,C [a]): ∀us:G0 G1,us.length=1->C us
 | [_],_=>g _
def ln2 (g: ∀a b,C [a,b]): ∀us:G0 G1,us.length=2->C us
 | [_,_],_=>g _ _
def ln3 (g: ∀a b c,C [a,b,c]): ∀us:G0 G1,us.length=3->C us
 | [_,_,_],_=>g _ _ _
def ln4 (g: ∀a b c d,C [a,b,c,d]): ∀us:G0 G1,us.length=4->C us
 | [_,_,_,_],_=>g _ _ _ _
def ln5 (g: ∀a b c d e,C [a,b,c,d,e]): ∀us:G0 G1,us.length=5->C us
 | [_,_,_,_,_],_=>g _ _ _ _ _
def Ç.cal {sp:RDn}(d:Ç K x st f fd)(l:OpenLaw)(w:B0)(base:C7)(X:K.In h)(G:h.Ns mainGlobals mg)(ok:È l.prog w K mg base Û n f fd ps (æ K sp))(b:Sh x st ps:=by first|exact λ_ _ _ _ _ _=>ln1 λ_=>rfl|exact λ_ _ _ _ _ _=>ln2 λ_ _=>rfl|exact λ_ _ _ _ _ _=>ln3 λ_ _ _=>rfl|exact λ_ _ _ _ _ _=>ln4 λ_ _ _ _=>rfl|exact λ_ _ _ _ _ _=>ln5 λ_ _ _ _ _=>rfl):jy l.prog w K mg base n x ps sp:=⟨_,_,ok,d.fn.binds b,d.fn.kp,d.nm X G⟩
def Ç.rai {sp:RDx}(d:Ç K x st f fd)(l:OpenLaw)(w:B0)(base:C7)(X:K.In h)(G:h.Ns mainGlobals mg)(ok:È l.prog w K mg base (Ķ l.prog w) n f fd ps (Rj mg K sp))(b:Sh x st ps:=by first|exact λ_ _ _ _ _ _=>ln1 λ_=>rfl|exact λ_ _ _ _ _ _=>ln2 λ_ _=>rfl|exact λ_ _ _ _ _ _=>ln3 λ_ _ _=>rfl|exact λ_ _ _ _ _ _=>ln4 λ_ _ _ _=>rfl|exact λ_ _ _ _ _ _=>ln5 λ_ _ _ _ _=>rfl):vz l.prog w K mg base n x ps sp:=⟨_,_,ok,d.fn.binds b,d.fn.kp,d.nm X G⟩
noncomputable def zsB (K:Frag):M7:= ["len","max","min","divmod","all","any","repr","sum","sorted","int","tuple","list","set","bool","isinstance","range","zip","enumerate","reversed"].all λx=>nsIn K mainGlobals (mM x)==some none
def Hk (X:K.In h)(G:h.Ns mainGlobals mg)(e:zsB K=true):Zs mg:=by
 unfold zsB at e;rw [N9] at e;have m:=λ(x:U5) hx=>mg_none_of X G (beq_iff_eq.mp (e x hx))
 exact⟨m "len" (by decide),m "max" (by decide),m "min" (by decide),m "divmod" (by decide),m "all" (by decide),m "any" (by decide),m "repr" (by decide),m "sum" (by decide),m "sorted" (by decide),m "int" (by decide),m "tuple" (by decide),m "list" (by decide),m "set" (by decide),m "bool" (by decide),m "isinstance" (by decide),m "range" (by decide),m "zip" (by decide),m "enumerate" (by decide),m "reversed" (by decide)⟩
end L2
namespace L2
open PySem PySem.Spec PyProof.Rows
noncomputable def ı (Ã:G0 (P1×V)):G0 (ß×V):=Ã.map λp=>((A9 p.1:ß),p.2)
noncomputable def vc {α:Type}(kv:G0 (P1×α))(k:P1):P5 α:=(kv.find? λp=>decide (p.1=k)).map (·.2)
noncomputable def PC {α:Type}(kv:G0 (P1×α))(k:P1)(d:α):G0 (P1×α):=if (vc kv k).isSome then kv.map (λp=>if p.1=k then (p.1,d) else p) else kv++ [(k,d)]
section
variable {α:Type}{kv r:G0 (P1×α)}{p:P1×α}{k:P1}
def Bc (e:p.1=k):vc (p::r) k=some p.2:=by simp [vc,aB,e]
def Bd (e: ¬p.1=k):vc (p::r) k=vc r k:=by simp [vc,aB,e]
end
section
variable {K:G6}{H:Hp}{k:P1}
theorem yS: ∀ {kv:G0 (P1×D)} {Ã:G0 (P1×V)},kv.map (·.1)=Ã.map (·.1)->À K H (kv.map (·.2)) (Ã.map (·.2))->(∀d,vc kv k=some d-> ∃v,WK (ı Ã) (A9 k)=some v/\É K H d v)/\(vc kv k=none->WK (ı Ã) (A9 k)=none)
 | [],[],_,_=>⟨λ_ z=>(nomatch z),λ_=>rfl⟩
 |p::r,[],e,_=>by cases e
 | [],q::s,e,_=>by cases e
 |p::r,q::s,e,h=>by
  rw [N4,N4] at e;injection e with e1 e2
  obtain⟨v,t,z,h1,h2⟩:=(show ∃v t,q.2::s.map (·.2)=v::t/\É K H p.2 v/\À K H (r.map (·.2)) t from h);injection z with z1 z2
  subst z1;subst z2
  by_cases c:p.1=k
  ·rw [Bc c];refine⟨λd z=> ?_,λz=>by cases z⟩;injection z with z
   subst z;exact⟨q.2,Zr (by show (A9 q.1:ß)=_;rw [<-e1,c]),h1⟩
  ·rw [Bd c];have n: ¬ (A9 q.1:ß)=A9 k:=λz=>by injection z with z;exact c (e1.trans z)
   show (∀d,_-> ∃v,WK ((A9 q.1,q.2)::ı s) _=_/\_)/\(_->WK ((A9 q.1,q.2)::ı s) _=_);rw [Zt n];exact yS e2 h2
def Be {kv:G0 (P1×D)}{Ã:G0 (P1×V)}{d:D}{v:V}(e:kv.map (·.1)=Ã.map (·.1))(r:À K H (kv.map (·.2)) (Ã.map (·.2)))(rd:É K H d v): ∃X0R,Qf (ı Ã) (A9 k) v=ı X0R/\(PC kv k d).map (·.1)=X0R.map (·.1)/\À K H ((PC kv k d).map (·.2)) (X0R.map (·.2)):=by
 have g:=yS (k:=k) e r
 by_cases c:(vc kv k).isSome
 ·obtain⟨d0,hd0⟩:=J4.mp c;obtain⟨v0,hv0,_⟩:=g.1 d0 hd0;refine⟨Ã.map λp=>if p.1=k then (p.1,v) else p,?_,?_,?_⟩
  ·unfold Qf;rw [YH,hv0];show gF _ (ı Ã)=_;unfold ı;rw [N8,N8];refine B6 λp _=> ?_
   show (if (A9 p.1:ß)=A9 k then _ else _)=_
   by_cases z:p.1=k
   ·rw [R8 (by rw [z])];show _=((A9 (if p.1=k then (p.1,v) else p).1:ß),(if p.1=k then (p.1,v) else p).2);rw [R8 z]
   ·rw [R9 (λw=>z (by injection w))];show _=((A9 (if p.1=k then (p.1,v) else p).1:ß),(if p.1=k then (p.1,v) else p).2);rw [R9 z]
  ·unfold PC;rw [R8 c,N8,N8];have a1:kv.map ((·.1)∘λp=>if p.1=k then (p.1,d) else p)=kv.map (·.1):=B6 λp _=>by show (if p.1=k then (p.1,d) else p).1=p.1;split<;>rfl
   have a2:Ã.map ((·.1)∘λp=>if p.1=k then (p.1,v) else p)=Ã.map (·.1):=B6 λp _=>by show (if p.1=k then (p.1,v) else p).1=p.1;split<;>rfl
   rw [a1,a2,e]
  ·unfold PC;rw [R8 c];clear g c hd0 hv0
   induction kv generalizing Ã with
   |nil=>cases Ã with
    |nil=>exact .nil
    |cons q s=>cases e
   |cons p t ih=>cases Ã with
    |nil=>cases e
    |cons q s=>
     rw [N4,N4] at e;injection e with e1 e2
     obtain⟨u,w,z,h1,h2⟩:=(show ∃v t',q.2::s.map (·.2)=v::t'/\É K H p.2 v/\À K H (t.map (·.2)) t' from r);injection z with z1 z2
     subst z1;subst z2;refine⟨(if q.1=k then (q.1,v) else q).2,_,rfl,?_,ih e2 h2⟩;show É K H (if p.1=k then (p.1,d) else p).2 _
     by_cases z:p.1=k
     ·rw [R8 z,R8 (e1 ▸ z)];exact rd
     ·rw [R9 z,R9 (e1 ▸ z)];exact h1
 ·have hn:vc kv k=none:=by simpa using c
  refine⟨Ã++ [(k,v)],?_,?_,?_⟩
  ·rw [MV v (g.2 hn)];unfold ı;rw [T7];rfl
  ·unfold PC;rw [R9 c,T7,T7,e];rfl
  ·unfold PC;rw [R9 c,T7,T7];exact r.append (.cons rd .nil)
end
def Si (x i:P1):TED:=λ_ h Q=> ∀p,h.dc p=none->Q (.dct p) (BE h p (.ik [(x,.int i)]))
section
variable {X:Cx}
def Sj {x i:P1}{j k:G5}{pos p1 p2:Pos}:JE X (.Dict [some (.Constant (.int x) j p1)] [.Constant (.int i) k p2] pos) (Si x i):=⟨by
 have h0:PPs X pos [some (.Constant (.int x) j p1)] [.Constant (.int i) k p2] [(tC (.int x),tC (.int i))]:=MY Α Α CH;refine PE.imp (CI h0 rfl rfl (by simp) (by simp)) ?_;rintro σ H Q ⟨Â,h,Qd,rs,rh,t,p⟩ q hq;show upd H q (.dK []) q=some (.dK [])/\_;refine⟨ji,[((A9 x:ß),V.int i)],rfl,by simp,?_⟩;rw [Nf];exact p (.dct q) (.ref q) _ _ (.new hq) (rh.newC (c:= .ik [(x,.int i)]) hq ⟨[(x,.int i)],ji,rfl,.cons rfl .nil⟩) rfl (t q (rh.freeC hq))⟩
end
def ixC:RD2:=λx y h Q=> ∃a k kv d,x= .dct a/\y= .int k/\h.dc a=some (.ik kv)/\vc kv k=some d/\Q d h
def ku:RDn:=λds h Q=> ∃a kv,ds= [.dct a]/\h.dc a=some (.ik kv)/\Q (.int ((kv.length:G5):P1)) h
section
variable {X:Cx}
def kH {k : G5} {a b : M9} {ta tb : TED} {pos : Pos} (hr : Î k X.A) (ha : JE X a ta) (hb : JE X b tb) (hs : Tc b := by intro _ _; rfl) : JE X (.Subscript a b pos) (ľ ixC ta tb) :=
  ⟨(CG (by have := hr.un; omega) ha.to hb.to hs).imp fun σ H Q ⟨Â, h, Qd, rs, rh, t, post⟩ => LE.bind rs rh t fun d v h1 H1 k1 Ö Ê r1 t1 => LE.bind Ö Ê t1 fun d2 v2 h2 H2 k2 Ŀ î r2 ⟨a, x, kv, d3, e1, e2, e, g, q⟩ => by
    subst e1 e2
    cases (show v = .ref a from r1)
    cases (show v2 = .int x from r2)
    obtain ⟨Ã, hH, ek, rv⟩ := (show ∃ Ã : G0 (P1 × V), _ from î.dc a _ e)
    obtain ⟨u, hu, ru⟩ := (yS ek rv).1 d3 g
    refine ⟨a, u, rfl, ?_, post d3 u _ _ (k1.trans k2) î ru q⟩
    rw [← hu]
    exact .k (k := A9 x) hH⟩
def LU:yU X (.builtin "len") ku:=(show Ù X (.builtin "len") (λxs H Q=> ∃ (a:G9) (kv:G0 (ß×V)),xs= [.ref a]/\H a=some (.dK kv)/\Q (.int ((kv.length:G5):P1)) H) from by
 intro ID s σ H xs us Q I r h;obtain⟨a,kv,rfl,e,q⟩:=h;obtain⟨u,rfl,ru⟩:=vj r;cases ru;exact Tb I (.inl e) λt s' I'=>⟨.int _,H,I',⟨_,rfl⟩,q⟩).imp λxs H Q ⟨ds,h,Qd,r,rh,⟨a,kv,e,z,q⟩,p⟩=>by
 subst e;obtain⟨v,e,r1⟩:=jB r;cases (show v= .ref a from r1);subst e;obtain⟨Ã,hH,ek,rv⟩:=(show ∃Ã:G0 (P1×V),_ from rh.dc a _ z);refine⟨a,_,rfl,hH,?_⟩;rw [show (Ã.map λp=>((A9 p.1:ß),p.2)).length=kv.length by rw [G2];have:=congrArg O1 ek;simpa using this.symm];exact p (.int _) _ _ _ (.refl H) rh rfl q
end
def Sub.overC {h h':HD}{a:G9}{c:DC}(sb:Sub h h')(e:h.dc a=none):Sub h (BE h' a c):=⟨sb.ls,λb xs z=>by
 rw [YL (λw=>by subst w;rw [e] at z;cases z)];exact sb.dc b xs z⟩
end L2
namespace L2
theorem Mk {g:G5->G5->M7}{n:G5}: ∀ {t:G5} {w:G0 G5},w.length=t+1->(∀i∈w,i<n)->w.Nodup->(∀i∈w,w.headD 0<=i)->(∀i x y,w[i]? =some x->w[i+1]? =some y->g x y=true)->w∈ã g n t
 |0,w,hl,lt,_,_,_=>by
  obtain⟨a,rfl⟩:=mY.mp hl;exact S9.mpr ⟨a,D1.mpr (lt a (by simp)),rfl⟩
 |t+1,w,hl,lt,nd,low,go=>by
  obtain⟨v,j,rfl⟩: ∃v j,w=v++ [j]:=⟨w.dropLast,w.getLast (by intro z;rw [z] at hl;cases hl),(List.dropLast_concat_getLast _).symm⟩;have lv:v.length=t+1:=by rw [D0,cV] at hl;omega
  have hd:(v++ [j]).headD 0=v.headD 0:=by cases v with|nil=>cases lv|cons a r=>rfl
  have nv:=bT.mp nd;have jn:j ∉ v:=λz=>nv.2.2 j z j (by simp) rfl
  have hh:v.headD 0∈v:=by cases v with|nil=>cases lv|cons a r=>exact R5 ..
  rw [hd] at low;have mv:=Mk (g:=g) (n:=n) lv (λi hi=>lt i (O0 _ hi)) nv.1 (λi hi=>low i (O0 _ hi)) λi x y e1 e2=>go i x y (by rw [B7 (P6.mp e1).1];exact e1) (by rw [B7 (P6.mp e2).1];exact e2)
  refine rL.mpr ⟨v,mv,S9.mpr ⟨j,C3.mpr ⟨D1.mpr (lt j (by simp)),?_⟩,rfl⟩⟩;have la:v[t]? =some (v.getLastD 0):=by rw [bH,bI,lv,pJ,G8 (by omega)];rfl
  have g1:=go t _ j (by rw [B7 (by omega)];exact la) (by rw [N5 (by omega),lv,iZ];rfl);have lj:=low j (by simp);have ne:v.headD 0≠j:=λz=>jn (z ▸ hh)
  unfold BT;rw [g1,D3 (show v.headD 0<j by omega),D9 jn];rfl
theorem Ml {g:G5->G5->M7}{n s:G5}{w:G0 G5}(h:w∈ã g n s)(b:g (w.getLastD 0) (w.headD 0)=true): ∀t,s<t->w∈Jw g n t
 |t+1,ht=>by
  rcases O4 s t with z|z
  ·exact O0 _ (Ml h b t z)
  ·have:t=s:=by omega
   subst this;exact S5 _ (C3.mpr ⟨h,b⟩)
def XH {n:G5}{w:G0 G5}(nd:w.Nodup)(lt: ∀i∈w,i<n):w.length<=n:=by
 have:=zP (ys:=P4 n) nd λx hx=>D1.mpr (lt x hx)
 rwa [S7] at this
section
variable {n e:G5}{T:G0 (G0 P1)}
def Pg {w:G0 G5}(ne:w≠ [])(lt: ∀i∈w,i<n)(nd:w.Nodup)(low: ∀i∈w,w.headD 0<=i)(go: ∀i x y,w[i]? =some x->w[i+1]? =some y->Ï T x y>0)(back:Ï T (w.getLastD 0) (w.headD 0)>0):w∈jG T n:=by
 obtain⟨t,ht⟩: ∃t,w.length=t+1:=⟨w.length-1,by have:=iR.mpr ne;omega⟩;have:=XH nd lt;exact(yP _).mem_iff.mpr (Ml (Mk (g:=jQ T) ht lt nd low λi x y e1 e2=>D3 (go i x y e1 e2)) (D3 back) n (by omega))
def Mm (h:Sq n e T){i j:G5}(hi:i<n)(hj:j<n)(z:Ï T i j≠0):Ï T i j>0:=by have:=(h.ent_nn hi hj).1;omega
def Ph (h:Sq n e T)(hn:n<=8){m:G5}(m1:1<=m){v:G5->G5}(vl: ∀t,v t<n)(per: ∀t,v (t+m)=v t)(inj: ∀a b,a<m->b<m->v a=v b->a=b)(st: ∀t,RP n T 1 (v t) (v (t+1))): ∃s,(P4 m).map (λt=>v (s+t))∈jG T n:=by
 obtain⟨s,hs⟩: ∃s,∀t,v s<=v t:=by
  have key: ∀k,∃s,∀t,t<k+1->v s<=v t:=λk=>by
   induction k with
   |zero=>exact⟨0,λt ht=>by rw [show t=0 by omega];exact P3 _⟩
   |succ k ih=>
    obtain⟨s,hs⟩:=ih;rcases O4 (v (k+1)) (v s) with z|z
    ·exact⟨k+1,λt ht=>by
      rcases O4 t (k+1) with y|y
      ·have:=hs t y;omega
      ·rw [show t=k+1 by omega];exact P3 _⟩
    ·exact⟨s,λt ht=>by
      rcases O4 t (k+1) with y|y
      ·exact hs t y
      ·rw [show t=k+1 by omega];exact z⟩
  obtain⟨s,hs⟩:=key m;have red: ∀t,v t=v (t%m):=λt=>by
   have: ∀q r,v (r+q*m)=v r:=λq r=>by
    induction q with
    |zero=>rw [xT,Y6]
    |succ q ih=>rw [mS,<-e8,per,ih]
   have e:=this (t / m) (t%m);rw [aL,sO] at e;exact e
  exact⟨s,λt=>by rw [red t];exact hs _ (by have:=W8 t m1;omega)⟩
 have red: ∀t,v t=v (t%m):=λt=>by
  have: ∀q r,v (r+q*m)=v r:=λq r=>by
   induction q with
   |zero=>rw [xT,Y6]
   |succ q ih=>rw [mS,<-e8,per,ih]
  have e:=this (t / m) (t%m);rw [aL,sO] at e;exact e
 have hd:((P4 m).map λt=>v (s+t)).headD 0=v s:=by
  obtain⟨k,rfl⟩: ∃k,m=k+1:=⟨m-1,by omega⟩;rw [gE];rfl
 refine⟨s,Pg ?_ (λi hi=>by obtain⟨t,_,rfl⟩:=S9.mp hi;exact vl _) ?_ (λi hi=>by obtain⟨t,_,rfl⟩:=S9.mp hi;rw [hd];exact hs _) (λi x y e1 e2=> ?_) ?_⟩
 ·intro z;have:=congrArg O1 z;rw [G2,S7] at this;simp at this;omega
 ·refine L9.mpr ((g9 (n:=m)).imp_of_mem λ{a b} ha hb ne z=> ?_);have ha:=D1.mp ha;have hb:=D1.mp hb;have z:v (s+a)=v (s+b):=z;rw [red (s+a),red (s+b)] at z;have:=inj _ _ (W8 _ m1) (W8 _ m1) z;refine ne ?_;have d1:=nE (s+a) m;have d2:=nE (s+b) m;rcases cZ ((s+a) / m) ((s+b) / m) with c|c|c
  ·have:=dY m (show (s+a) / m+1<=(s+b) / m from c);rw [fY] at this;omega
  ·rw [c] at d1;omega
  ·have:=dY m (show (s+b) / m+1<=(s+a) / m from c);rw [fY] at this;omega
 ·have h1:=(P6.mp e2).1;rw [G2,S7] at h1;rw [P7,A8 (by omega)] at e1 e2;injection e1 with e1
  injection e2 with e2
  subst e1;subst e2;exact Mm h (vl _) (vl _) ((Yn h hn).mp (st (s+i)))
 ·have la:((P4 m).map λt=>v (s+t)).getLastD 0=v (s+(m-1)):=by
   rw [bH,bI,G2,S7,P7,A8 (by omega)];rfl
  rw [hd,la];have:=st (s+(m-1));rw [show s+(m-1)+1=s+m by omega,per] at this;exact Mm h (vl _) (vl _) ((Yn h hn).mp this)
noncomputable def Pi (T:G0 (G0 P1))(n:G5):G5:=((jG T n).map O1).foldl bV 0
def Mn {w:G0 G5}(hw:w∈jG T n):Pi T n∣w.length:=((Ve _ 0 (Pi T n)).mp (i0 _)).2 _ (aG hw)
def Jl (h:Sq n e T)(hn:n<=8): ∀ (m:G5) {p:G5},p<n->RP n T m p p->Pi T n∣m:=by
 intro m
 induction m using G5.strongRecOn with
 |_ m ih=>
  intro p hp r;rcases kU m with z|m1
  ·rw [z];exact xU _
  obtain⟨v,v0,vm,vl,vr⟩:=BN h hn m hp hp r
  by_cases c: ∃a b,a<b/\b<m/\v a=v b
  ·obtain⟨a,b,ab,bm,e1⟩:=c;have r1:=YY h hn vl vr a (b-a) (by omega);rw [show a+(b-a)=b by omega,<-e1] at r1;have r2:=YY h hn vl vr 0 a (by omega);rw [U8,v0] at r2;have r3:=YY h hn vl vr b (m-b) (by omega);rw [show b+(m-b)=m by omega,vm,<-e1] at r3;have d1:=ih (b-a) (by omega) (vl a (by omega)) r1;have d2:=ih (a+(m-b)) (by omega) hp (yt h hn hp (vl a (by omega)) hp r2 r3);have:=Nat.dvd_add d1 d2
   rwa [show b-a+(a+(m-b))=m by omega] at this
  ·obtain⟨s,hs⟩:=Ph h hn (T:=T) (n:=n) m1 (v:=λt=>v (t%m)) (λt=>vl _ (by have:=W8 t m1;omega)) (λt=>by show v ((t+m)%m)=_;rw [Nat.add_mod_right]) (λa b ha hb z=>by
    have z:v (a%m)=v (b%m):=z;rw [hJ ha,hJ hb] at z;rcases cZ a b with y|y|y
    ·exact absurd ⟨a,b,y,hb,z⟩ c
    ·exact y
    ·exact absurd ⟨b,a,y,ha,z.symm⟩ c) (λt=>by
    show RP n T 1 (v (t%m)) (v ((t+1)%m));have lt:=W8 t m1;have:=vr (t%m) lt;rcases O4 (t%m+1) m with z|z
    ·rw [show (t+1)%m=t%m+1 by rw [oE,hJ (show 1<m by omega),hJ z]];exact this
    ·have e2:(t+1)%m=0:=by
      rw [<-nE t m,show m*(t / m)+t%m+1=m*(t / m+1) by rw [fY];omega];exact Nat.mul_mod_right _ _
     rw [e2,v0,<-vm,show m=t%m+1 by omega];rw [show t%(t%m+1)=t%m by rw [show t%m+1=m by omega]];exact this)
   have:=Mn hs
   rwa [G2,S7] at this
def Hl (h:Sq n e T)(hn:n<=8){i j:G5}(hi:i<n)(w:wk T n i j=true):j<n/\ ∃k,RP n T k i j:=
 Jh (P:=λi j=>i<n->j<n/\ ∃k,RP n T k i j) (λi hi=>⟨hi,0,(vy hi hi).mpr rfl⟩) (λi j z hi=>⟨RO h i j z,1,(Yn h hn).mpr z⟩) (λi k j a b hi=>by
  obtain⟨hk,k1,r1⟩:=a hi;obtain⟨hj,k2,r2⟩:=b hk;exact⟨hj,k1+k2,yt h hn hi hk hj r1 r2⟩) w hi
def XI (h:Sq n e T)(hn:n<=8)(one:(vP T n).length=1){i j:G5}(hi:i<n)(hj:j<n): ∃k,RP n T k i j:=by
 obtain⟨S,e1⟩:=mY.mp one;have a:û T n i∈vP T n:=Ģ.mpr ⟨i,hi,rfl⟩;have b:û T n j∈vP T n:=Ģ.mpr ⟨j,hj,rfl⟩;rw [e1] at a b;have:j∈û T n i:=by rw [P0.mp a,<-P0.mp b];exact Mh hj
 exact(Hl h hn hi (č.mp this).2.1).2
def Bf (h:Sq n e T)(hn:n<=8)(one:(vP T n).length=1){a b i j:G5}(hi:i<n)(hj:j<n)(n1:1<=n)(ra:RP n T a 0 i)(rb:RP n T b 0 j)(ar:Ï T i j≠0){d:G5}(hd:d∣Pi T n):b%d=(a+1)%d:=by
 obtain⟨k,rk⟩:=XI h hn one hj (show 0<n by omega);have z:0<n:=by omega
 have c1:=o8 hd (Jl h hn _ z (yt h hn z hj z (yt h hn z hi hj ra ((Yn h hn).mpr ar)) rk));have c2:=o8 hd (Jl h hn _ z (yt h hn z hj z rb rk));obtain⟨x,hx⟩:=c1;obtain⟨y,hy⟩:=c2;rcases xV x y with w|w
 ·have:b=a+1+d*(y-x):=by
   have:=dY d w;rw [IM];omega
  rw [this,lA]
 ·have:a+1=b+d*(x-y):=by
   have:=dY d w;rw [IM];omega
  rw [this,lA]
end
end L2
namespace L2
open PySem PySem.Spec PyProof.Rows
def kI (td ty tx:TED):TED:=λσ h Q=>td σ h λx h1=> ∃a kv0,x= .dct a/\h1.dc a=some (.ik kv0)/\ty σ h1 λy h2=>tx σ h2 λz h3=> ∃k kv,y= .int k/\h3.dc a=some (.ik kv)/\kv.length<1000/\
 (∀d,vc kv k=some d->Q d h3)/\(vc kv k=none->Q z (BE h3 a (.ik (PC kv k z))))
def kJ {X:Cx}{n:G5}{o e f:M9}{td ty tx:TED}{apos cpos:Pos}(hr:Î n X.A)(ho:JE X o td)(he:JE X e ty)(hf:JE X f tx)(m:M2 X o "setdefault" apos e f cpos:=by exact⟨rfl,rfl,rfl,rfl⟩):JE X (.Call (.Attribute o "setdefault" apos) [e,f] [] cpos) (kI td ty tx):=⟨λID s σ H Q I ⟨Â,h,Qd,rs,rh,t,post⟩=>by
 have hw:LE X.K td σ H λx H1=> ∃a,x= .ref a/\IsD H1 a/\LE X.K ty σ H1 λy H2=>LE X.K tx σ H2 λz H3=> ∃k Ã,y= .int k/\H3 a=some (.dK (ı Ã))/\Ã.length<1000/\(∀v,WK (ı Ã) (A9 k)=some v->Q v H3)/\(WK (ı Ã) (A9 k)=none->Q z (upd H3 a (.dK (Qf (ı Ã) (A9 k) z)))):=
  LE.bind rs rh t λd v h1 H1 k1 Ö Ê r1 ⟨a,kv0,e1,z1,t1⟩=>by
   subst e1;cases (show v= .ref a from r1);obtain⟨kvs0,hH0,_⟩:=(show ∃Ã:G0 (P1×V),_ from Ê.dc a _ z1);refine⟨a,rfl,.inl ⟨_,.inl hH0⟩,LE.bind Ö Ê t1 λd2 v2 h2 H2 k2 Ŀ î r2 t2=>LE.bind Ŀ î t2 λd3 v3 h3 H3 k3 rs3 ě r3 ⟨x,kv,e2,e,hl,q1,q2⟩=> ?_⟩;subst e2;cases (show v2= .int x from r2);obtain⟨Ã,hH,ek,rv⟩:=(show ∃Ã:G0 (P1×V),_ from ě.dc a _ e);have ll:Ã.length=kv.length:=by have:=congrArg O1 ek;simpa using this.symm
   refine⟨x,Ã,rfl,hH,by omega,λu hu=> ?_,λhn=> ?_⟩
   ·cases g:vc kv x with
    |none=>rw [(yS ek rv).2 g] at hu;cases hu
    |some d=>obtain⟨u',Η,ru⟩:=(yS ek rv).1 d g;rw [hu] at Η;cases Η;exact post d u _ _ (k1.trans (k2.trans k3)) ě ru (q1 d g)
   ·cases g:vc kv x with
    |some d=>obtain⟨u',Η,ru⟩:=(yS ek rv).1 d g;rw [hn] at Η;cases Η
    |none=>
     obtain⟨X0R,p1,p2,p3⟩:=Be (k:=x) ek rv r3;have ob:θ (.dK (ı Ã)):= .inl ⟨Ã,rfl⟩;refine post d3 v3 _ _ (k1.trans (k2.trans (k3.trans (.putD hH ob)))) (ě.putC (c:= .ik (PC kv x d3)) hH ob ⟨X0R,?_,p2,p3.mono (.putD hH ob)⟩) (r3.mono (.putD hH ob)) (q2 g);rw [ji];exact congrArg (λz=>some (HO.dK z)) p1
 refine wpAny_Call_method m.base m.few m.line xF iN sP (Ñ (ho.to ID s σ H _ I hw) λu s1 ⟨x,H1,I1,rx,a,ex,d,q1⟩=> ?_);subst ex;obtain rfl:u=Z7 a:=rx;obtain⟨t1,t2,_⟩:=Ai I1 d;refine⟨t1,t2,?_⟩;rw [m.trees];refine mR rfl (iD (aT (Ñ (he.to ID s1 σ H1 _ I1 q1) λiv s2 ⟨y,H2,I2,ry,q2⟩=>
  aT (Ñ (hf.to ID s2 σ H2 _ I2 q2) λfv s3 ⟨z,H3,I3,rz,k,Ã,ey,ea,hl,c1,c2⟩=>fZ ?_))))
 subst ey;obtain⟨zl,hd,vs,rel,dd⟩:=Ah I3.hok ea;have l2:(ı Ã).length<sizeLine:=T5 (show (ı Ã).length<1000 by unfold ı;rw [G2];exact hl) (by decide);refine call_meetsIn iN dd.typeIs rY (rM _ _ _) (kt_meets_setdefault (zi X.prog X.w) a (MW (k:=A9 k) ry) hd fv) ⟨vs,dd,by rw [<-rel.length];exact zl,λv hv=> ?_,λhn h' dd' hs=> ?_⟩
 ·have rv:=rel.val (A9 k);rw [hv] at rv;cases g:WK (ı Ã) (A9 k) with
  |none=>rw [g] at rv;exact absurd rv (by intro z;cases z)
  |some v0=>rw [g] at rv;exact⟨v0,H3,I3.tok _,rv,c1 v0 g⟩
 ·have rv:=rel.val (A9 k);rw [hn] at rv;have g:WK (ı Ã) (A9 k)=none:=by
   cases g:WK (ı Ã) (A9 k) with
   |none=>rfl
   |some v0=>rw [g] at rv;exact absurd rv (by intro z;cases z)
  have he: ∃q,h'.get? a=some q:=let ⟨q,_,_,hq,_⟩:=dd';⟨q,hq⟩;have hl':(Qf (ı Ã) (A9 k) z).length<=sizeLine:=by have:=ZP (ı Ã) (A9 k) z;omega
  exact⟨z,_,Dm I3 (by rw [ea];exact aS) hs he (BC hl' hd (rel.put (A9 k) rz) dd'),rz,c2 g⟩⟩
variable {kv:G0 (P1×D)}{x:P1}
def QV {d:D}(h:vc kv x=some d):(x,d)∈kv:=by
 unfold vc at h;obtain⟨p,e,rfl⟩:=F8.mp h;have e0:=List.find?_some e;have e1:p.1=x:=L8 e0;rw [<-e1];exact List.mem_of_find?_eq_some e
def QX (h:x∈kv.map (·.1)):(vc kv x).isSome=true:=by
 obtain⟨p,hp,rfl⟩:=S9.mp h;unfold vc;rw [Option.isSome_map,List.find?_isSome];exact⟨p,hp,D3 rfl⟩
def Bg (h:vc kv x=none):x ∉ kv.map (·.1):=λz=>by
 have:=QX z;rw [h] at this;cases this
def ZC {d:D}(h:vc kv x=none):PC kv x d=kv++ [(x,d)]:=by unfold PC;rw [h];rfl
def ZD {d:D}(h:vc kv x=none)(y:P1):y∈(PC kv x d).map (·.1)↔y∈kv.map (·.1)\/y=x:=by
 rw [ZC h,T7,R4,N4,W4,P0]
section
variable {n e:G5}{T:G0 (G0 P1)}
theorem Mo (h:Sq n e T)(hn:n<=8){p:G5}(hp:p<n): ∀ (m j:G5),j∈Ę (yn n T) [p] m↔j<n/\RP n T m p j
 |0,j=>by
  show j∈ [p]↔_;rw [P0];exact⟨λe=>⟨e ▸ hp,(vy hp (e ▸ hp)).mpr e.symm⟩,λ⟨hj,r⟩=>((vy hp hj).mp r).symm⟩
 |m+1,j=>by
  show j∈yn n T (Ę (yn n T) [p] m)↔_;unfold yn;rw [C3,D1,dP];constructor
  ·rintro ⟨hj,i,hi,r⟩;obtain⟨hi,ri⟩:=(Mo h hn hp m i).mp hi;exact⟨hj,(Yl h hn m 1 hp hj).mpr ⟨i,hi,ri,(Yn h hn).mpr (L8 r)⟩⟩
  ·rintro ⟨hj,r⟩;obtain⟨i,hi,a,b⟩:=(Yl h hn m 1 hp hj).mp r;exact⟨hj,i,(Mo h hn hp m i).mpr ⟨hi,a⟩,D3 ((Yn h hn).mp b)⟩
structure FI (n:G5)(T:G0 (G0 P1))(s b:G5)(kv:G0 (P1×D)):Prop where
 nd:(kv.map (·.1)).Nodup
 ok: ∀p∈kv,∃j v:G5,p=((j:P1),.int (v:P1))/\j<n/\v<=b/\RP n T v 0 j
 all: ∀j v,j<n->v<=s->RP n T v 0 j->(j:P1)∈kv.map (·.1)
 zero:vc kv 0=some (.int 0)
def FI.first (n1:1<=n):FI n T 0 0 [(0,.int 0)]:=⟨by simp,λp hp=>by rw [P0.mp hp];exact⟨0,0,rfl,by omega,P3 _,(vy (by omega) (by omega)).mpr rfl⟩,λj v hj hv r=>by
 rw [show v=0 by omega] at r;rw [<- (vy (by omega) hj).mp r];simp,rfl⟩
variable {s b:G5}{kv:G0 (P1×D)}
def FI.len (g:FI n T s b kv):kv.length<=n:=by
 have:=zP (ys:=(P4 n).map λ(i:G5)=>(i:P1)) g.nd λx hx=>by
  obtain⟨p,hp,rfl⟩:=S9.mp hx;obtain⟨j,v,rfl,hj,_⟩:=g.ok p hp;exact S9.mpr ⟨j,D1.mpr hj,rfl⟩
 rw [G2,G2,S7] at this;exact this
def FI.full (g:FI n T s b kv)(hl:n<=kv.length){j:G5}(hj:j<n):(j:P1)∈kv.map (·.1):=by
 rcases dR ((j:P1)∈kv.map (·.1)) with z|z
 ·exact z
 ·have:=zP (ys:=((P4 n).erase j).map λ(i:G5)=>(i:P1)) g.nd λx hx=>by
   obtain⟨p,hp,rfl⟩:=S9.mp hx;obtain⟨i,v,rfl,hi,_⟩:=g.ok p hp;exact S9.mpr ⟨i,(Y7 (λw=>by subst w;exact z hx)).mpr (D1.mpr hi),rfl⟩
  rw [G2,G2,V7 (D1.mpr hj),S7] at this;omega
def FI.get (g:FI n T s b kv){j:G5}(h:(j:P1)∈kv.map (·.1)): ∃v:G5,vc kv (j:P1)=some (.int (v:P1))/\v<=b/\RP n T v 0 j:=by
 obtain⟨d,hd⟩:=J4.mp (QX h);obtain⟨i,v,e1,hi,hv,r⟩:=g.ok _ (QV hd);injection e1 with e1 e2
 have:j=i:=by omega
 subst this;subst e2;exact⟨v,hd,hv,r⟩
def FI.put (g:FI n T s b kv){j v:G5}(h:vc kv (j:P1)=none)(hj:j<n)(hv:v<=b)(r:RP n T v 0 j):FI n T s b (PC kv (j:P1) (.int (v:P1))):=by
 refine⟨?_,λp hp=> ?_,λi w hi hw rw_=>(ZD h _).mpr (.inl (g.all i w hi hw rw_)),?_⟩
 ·rw [ZC h,T7,bT];refine⟨g.nd,by simp,λa ha c hc e1=> ?_⟩;have:c=(j:P1):=by simpa using hc
  subst this;subst e1;exact Bg h ha
 ·rw [ZC h] at hp;rcases R4.mp hp with z|z
  ·exact g.ok p z
  ·rw [P0.mp z];exact⟨j,v,rfl,hj,hv,r⟩
 ·have:=g.zero;rw [ZC h];unfold vc at this ⊢;rw [List.find?_append];cases q:kv.find? λp=>decide (p.1=0) with
  |none=>rw [q] at this;cases this
  |some p=>rw [q] at this;exact this
def FI.grow (h:Sq n e T)(hn:n<=8)(n1:1<=n)(one:(vP T n).length=1){s:G5}{kv:G0 (P1×D)}(g:FI n T s s kv)(hl:kv.length<n): ∃v,v<n/\RP n T (s+1) 0 v/\(v:P1) ∉ kv.map (·.1):=by
 obtain⟨j,hj,jn⟩: ∃j,j<n/\(j:P1) ∉ kv.map (·.1):=by
  rcases dR (∃j,j<n/\(j:P1) ∉ kv.map (·.1)) with z|z
  ·exact z
  ·have:=zP (xs:=(P4 n).map λ(i:G5)=>(i:P1)) (ys:=kv.map (·.1)) (L9.mpr ((g9 (n:=n)).imp λ{a b} ne w=>ne (by omega))) λx hx=>by
    obtain⟨i,hi,rfl⟩:=S9.mp hx;exact X6 λw=>z ⟨i,D1.mp hi,w⟩
   rw [G2,S7,G2] at this;omega
 have key: ∀k j,j<n->(j:P1) ∉ kv.map (·.1)->RP n T k 0 j-> ∃v,v<n/\RP n T (s+1) 0 v/\(v:P1) ∉ kv.map (·.1):=λk=>by
  induction k with
  |zero=>exact λj hj jn r=>absurd (g.all j 0 hj (N3 _) r) jn
  |succ k ih=>
   intro j hj jn r;obtain⟨u,hu,a,b⟩:=(Yl h hn k 1 (by omega) hj).mp r;rcases dR ((u:P1)∈kv.map (·.1)) with z|z
   ·obtain⟨v,_,hv,rv⟩:=g.get z;have r2:=yt h hn (by omega) hu hj rv b;rcases O4 v s with y|y
    ·exact absurd (g.all j (v+1) hj (by omega) r2) jn
    ·exact⟨j,hj,by rw [show s+1=v+1 by omega];exact r2,jn⟩
   ·exact ih u hu z a
 obtain⟨k,r⟩:=XI h hn one (show 0<n by omega) hj;exact key k j hj jn r
end
def LV {n i:G5}(hi:i<n):ø n [i]:=by
 refine⟨λj=>decide (j=i),?_⟩
 induction n with
 |zero=>omega
 |succ n ih=>
  rw [A5,J6]
  by_cases z:i<n
  ·rw [<-ih z];have: ¬n=i:=by omega
   simp [this]
  ·have e:i=n:=by omega
   subst e;have:(P4 i).filter (λj=>decide (j=i))= []:=cP.mpr λj hj=>by have:=D1.mp hj;simp;omega
   rw [this];simp
end L2
set_option maxRecDepth 35000
namespace L2
section
variable {n e:G5}{T:G0 (G0 P1)}
def LW {a l b d:G5}(h1:d∣a+b)(h2:d∣l+b):a%d=l%d:=by
 have key: ∀a l:G5,a<=l->d∣a+b->d∣l+b->a%d=l%d:=λa l c h1 h2=>by
  obtain⟨t,rfl⟩:=Nat.exists_eq_add_of_le c;have:d∣t:=(Nat.dvd_add_right h1).mp (by rw [show a+b+t=a+t+b by omega];exact h2);rw [oE,mX this,Y6,IH]
 rcases xV a l with c|c
 ·exact key a l c h1 h2
 ·exact(key l a c h2 h1).symm
def Ī (h:Sq n e T)(hn:n<=8)(one:(vP T n).length=1){i j k l:G5}(hi:i<n)(hj:j<n)(a:RP n T k i j)(b:RP n T l i j):k%Pi T n=l%Pi T n:=by
 obtain⟨c,rc⟩:=XI h hn one hj hi;exact LW (Jl h hn _ hi (yt h hn hi hj hi a rc)) (Jl h hn _ hi (yt h hn hi hj hi b rc))
end
end L2
namespace L2
open PySem PySem.Spec PyProof.Rows
section
variable {X:Cx}{k i:G5}{ps N Pn:G0 Str}{ö:RDn}{x:Str}{p pos pos':Pos}{e e2 e3 e4 iter elt:M9}{es ifs:G0 M9}{t:TAD}{te te2 te3 te4:TED}{ti:TID}{tt:TTD}{scope sc:K1}{c:M9}
def jk (C:jy X.prog X.w X.K X.mg X.base k x ps ö)(hr:Î k X.A)(ha:JA X (e::es) t)(hg:Gl X x:=by rfl)(hdb:(x==("__debug__" :Str))=false:=by decide)(he:P8 (e::es) X.env=(false,A2 e X.env)::P8 es X.env:=by rfl)(hpl:(E1 pos (P8 es X.env)).any (·.1)=false:=by rfl):JE X (.Call (.Name x p) (e::es) [] pos) (ħ ö t):=by
 obtain⟨g,gd,F,hb,hk,hm⟩:=C;exact TV F hr hg hm hk hb ha hdb he hpl
def jxk {Ŗ:RDx}(C:vz X.prog X.w X.K X.mg X.base k x ps Ŗ)(hr:Î k X.A)(ha:JA X (e::es) t)(hg:Gl X x:=by rfl)(hdb:(x==("__debug__" :Str))=false:=by decide)(he:P8 (e::es) X.env=(false,A2 e X.env)::P8 es X.env:=by rfl)(hpl:(E1 pos (P8 es X.env)).any (·.1)=false:=by rfl):JXE X (.Call (.Name x p) (e::es) [] pos) (En Ŗ t):=by
 obtain⟨g,gd,F,hb,hk,hm⟩:=C;exact FR F hr hg hm hk hb ha hdb he hpl
def j1 (a:JE X e te)(h:zj e=true:=by rfl):JA X [e] (zu te WF):=ĝ a zO h
def j2 (a:JE X e te)(b:JE X e2 te2)(h:zj e=true:=by rfl)(h2:zj e2=true:=by rfl):JA X [e,e2] (zu te (zu te2 WF)):=ĝ a (j1 b h2) h
def j3 (a:JE X e te)(b:JE X e2 te2)(c:JE X e3 te3)(h:zj e=true:=by rfl)(h2:zj e2=true:=by rfl)(h3:zj e3=true:=by rfl):JA X [e,e2,e3] (zu te (zu te2 (zu te3 WF))):=ĝ a (j2 b c h2 h3) h
def j4 (a:JE X e te)(b:JE X e2 te2)(c:JE X e3 te3)(d:JE X e4 te4)(h:zj e=true:=by rfl)(h2:zj e2=true:=by rfl)(h3:zj e3=true:=by rfl)(h4:zj e4=true:=by rfl):JA X [e,e2,e3,e4] (zu te (zu te2 (zu te3 (zu te4 WF)))):=ĝ a (j3 b c d h2 h3 h4) h
def Wr (Z:Zs X.mg)(a:JE X e te)(hg:Gl X "len" :=by rfl)(h:zj e=true:=by rfl)(he:P8 [e] X.env=(false,A2 e X.env)::P8 [] X.env:=by rfl)(hpl:(E1 pos (P8 [] X.env)).any (·.1)=false:=by rfl):JE X (.Call (.Name "len" p) [e] [] pos) (ħ Om (zu te WF)):=yh AQ hg Z.len uG (j1 a h) (by decide) (by decide) he hpl
def è (i:G5)(S:Á X.N Pn sc)(he:JE X e te)(hi:X.N[i]? =some x:=by rfl)(hx:Loc X.env.scope x:=by first|exact K9 rfl|exact bG rfl)(hs:aQ e (some (.Name x pos')) pos.line X.env=pure false:=by rfl)(hf:X.fn x=true\/X.env.scope.names.lookup x=some .local:=by first|exact .inl rfl|exact .inr rfl|assumption):JS X (.Assign [.Name x pos'] e pos) (BG i te):=HW S.nd hi hx he hs hf
def ż (i:G5)(S:Á X.N Pn sc)(hi:X.N[i]? =some x:=by rfl)(hx:Loc X.env.scope x:=by first|exact K9 rfl|exact bG rfl)(hf:X.fn x=true\/X.env.scope.names.lookup x=some .local:=by first|exact .inl rfl|exact .inr rfl|assumption):JG X (.Name x pos) (gN i):=Fv S.nd hi hx hf
def jl1 (i:G5)(S:Á X.N Pn sc)(hi:JI X (.Name x p) iter ti)(ht: ∀C s₀ H₀ ex,JT (vo X scope C s₀ H₀ ex) c tt)(he: ∀C s₀ H₀ ex,JE (vo X scope C s₀ H₀ ex) elt te)(hc:X.calm=true:=by rfl)(hB:Qi X.N X.env.scope.names scope [i]=true:=by rfl)(hx:X.N[i]? =some x:=by rfl)(hl:scope.names.lookup x=some .local\/scope.names.lookup x=some .cell:=by first|exact K9 rfl|exact bG rfl)(hs: ∀x,C8 iter X.env x=pure x:=by intro _;rfl):JE X (.ListComp elt [⟨.Name x p,iter,[c],0⟩] scope pos) (yV (bN i) [i] ti tt te):=
 jlc hc (jW hB) hi (P0.mpr rfl) S.nd hx hl (λX' hX=>by obtain⟨C,s₀,H₀,ex,rfl⟩:=hX;exact YU (ht C s₀ H₀ ex)) (λX' hX=>by obtain⟨C,s₀,H₀,ex,rfl⟩:=hX;exact he C s₀ H₀ ex) hs
def jl0 (i:G5)(S:Á X.N Pn sc)(hi:JI X (.Name x p) iter ti)(he: ∀C s₀ H₀ ex,JE (vo X scope C s₀ H₀ ex) elt te)(hc:X.calm=true:=by rfl)(hB:Qi X.N X.env.scope.names scope [i]=true:=by rfl)(hx:X.N[i]? =some x:=by rfl)(hl:scope.names.lookup x=some .local\/scope.names.lookup x=some .cell:=by first|exact K9 rfl|exact bG rfl)(hs: ∀x,C8 iter X.env x=pure x:=by intro _;rfl):JE X (.ListComp elt [⟨.Name x p,iter,[],0⟩] scope pos) (yV (bN i) [i] ti Ye te):=
 jlc hc (jW hB) hi (P0.mpr rfl) S.nd hx hl (λX' hX=>JJ) (λX' hX=>by obtain⟨C,s₀,H₀,ex,rfl⟩:=hX;exact he C s₀ H₀ ex) hs
def Ć {N P:G0 Str}(a:sc.kind= .function:=by rfl)(b:sc.isCoroutine=false:=by rfl)(c:sc.isGenerator=false:=by rfl)(d:N.Nodup:=by decide +kernel)(e:N.take P.length=P:=by rfl)(f: ∀x∈P,sc.names.lookup x=some .local\/sc.names.lookup x=some .cell:=by decide +kernel)(g: ∀y∈sc.names,y.2≠ .free:=by decide +kernel):Á N P sc:=⟨a,b,c,d,e,f,g⟩
def jc1 {op:iQ}{f:RD2}(ho:ó X (F7 op) f)(ha:JE X e te)(hb:JE X e2 te2)(hm:U3 op e2=false:=by exact PX _):JE X (.Compare e [op] [e2] pos) (ľ f te te2):=KU ho ha hb hm
def ý {op:iQ}{f:RD2}(ho:ó X (F7 op) f)(ha:JE X e te)(hb:JE X e2 te2)(hm:U3 op e2=false:=by exact PX _):JT X (.Compare e [op] [e2] pos) (JD (ľ f te te2)):=Gw ho ha hb hm
def à (ha:JE X e te)(hb:JE X e2 te2)(hs:YF e2:=by exact λ_ _=>rfl):JE X (.Subscript e e2 pos) (ľ ixD te te2):=jix ha hb hs
def Ņ {tg:M9}(Z:Zs X.mg)(ha:JE X e te)(hg:Gl X "range" :=by rfl)(h:zj e=true:=by rfl)(hs:P8 [e] X.env= [(false,A2 e X.env)]:=by rfl):JI X tg (.Call (.Name "range" p) [e] [] pos) (iR1 (zu te WF)):=TU hg Z.range (j1 ha h) hs
end
section
variable {P:S8}{w:B0}{K:G6}{mg:Str->P5 G1}{base:C7}{x qual:Str}{st:A6}{f:G9}{fd:M6}{N ps:G0 Str}{k:G5}
def Þ.okM {ö:RDn}(F:Þ K x qual st f fd)(S:Á N ps (jd st)){tb:TSD}(Ò: ∀ {Ë:G1} {A:T8} {outer:G0 Env} {s:G3} {H:Hp} {E:XK},Î k (A.deeper (Q3 qual (jd st) s.heap.objs.size f Ë))->ŀ (WG Û P w K mg base N qual (jd st) f Ë A outer s H E).nox (jS st) tb)
 (read: ∀ds h Q,ö ds h Q->ds.length=ps.length/\tb (Xg Q) (jZ N ds) h):È P w K mg base Û (k+1) f fd ps (æ K ö):=F.okJ S (λds h Q q=>(read ds h Q q).1) tb (λ_ _ _ _ _ _ hr=>Ò hr) λds h Q q=>(read ds h Q q).2
def Þ.okMX {Ŗ:RDx}(F:Þ K x qual st f fd)(S:Á N ps (jd st)){tb:TXD}(Ò: ∀ {Ë:G1} {A:T8} {outer:G0 Env} {s:G3} {H:Hp} {E:XK},Î k (A.deeper (Q3 qual (jd st) s.heap.objs.size f Ë))->JX (WG (Ķ P w) P w K mg base N qual (jd st) f Ë A outer s H E) (jS st) tb)
 (read: ∀ds h R,Ŗ ds h R->ds.length=ps.length/\tb (jZ N ds) h R):È P w K mg base (Ķ P w) (k+1) f fd ps (Rj mg K Ŗ):=F.okX S (λds h Q q=>(read ds h Q q).1) tb (λ_ _ _ _ _ _ hr=>Ò hr) λds h Q q=>(read ds h Q q).2
end
def wu {t u:TSD}{E:EndsD}{σ:SD}{h:HD}(σ1:SD)(first: ∀K:SD->HD->Prop,K σ1 h->t {E with nx:=K} σ h)(rest:u E σ1 h):vp t u E σ h:=first (u E) rest
def sz0:0<=sizeLine:=by decide
def Τ:1<=sizeLine:=by decide
def sz2:2<=sizeLine:=by decide
def sz3:3<=sizeLine:=by decide
def sz4:4<=sizeLine:=by decide
def sz5:5<=sizeLine:=by decide
section
variable {X:Cx}{s0 s1 s2 s3 s4 s5 s6 s7:A6}{t0 t1 t2 t3 t4 t5 t6 t7:TSD}{c:M9}{tc:TTD}{pos:Pos}
def js2 (a:JS X s0 t0)(b:JS X s1 t1):ŀ X [s0,s1] (vp t0 t1):=(jH a (jE b))
def ο (a:JS X s0 t0)(b:JS X s1 t1)(c:JS X s2 t2):ŀ X [s0,s1,s2] (vp t0 (vp t1 t2)):=(jH a (jH b (jE c)))
def js4 (a:JS X s0 t0)(b:JS X s1 t1)(c:JS X s2 t2)(d:JS X s3 t3):ŀ X [s0,s1,s2,s3] (vp t0 (vp t1 (vp t2 t3))):=(jH a (jH b (jH c (jE d))))
def js5 (a:JS X s0 t0)(b:JS X s1 t1)(c:JS X s2 t2)(d:JS X s3 t3)(e:JS X s4 t4):ŀ X [s0,s1,s2,s3,s4] (vp t0 (vp t1 (vp t2 (vp t3 t4)))):=(jH a (jH b (jH c (jH d (jE e)))))
def js6 (a:JS X s0 t0)(b:JS X s1 t1)(c:JS X s2 t2)(d:JS X s3 t3)(e:JS X s4 t4)(f:JS X s5 t5):ŀ X [s0,s1,s2,s3,s4,s5] (vp t0 (vp t1 (vp t2 (vp t3 (vp t4 t5))))):=(jH a (jH b (jH c (jH d (jH e (jE f))))))
def js7 (a:JS X s0 t0)(b:JS X s1 t1)(c:JS X s2 t2)(d:JS X s3 t3)(e:JS X s4 t4)(f:JS X s5 t5)(g:JS X s6 t6):ŀ X [s0,s1,s2,s3,s4,s5,s6] (vp t0 (vp t1 (vp t2 (vp t3 (vp t4 (vp t5 t6)))))):=(jH a (jH b (jH c (jH d (jH e (jH f (jE g)))))))
def Ws (hc:JT X c tc)(h:JS X s0 t0):JS X (.If c [s0] [] pos) (Fa tc t0 Xn):=On hc (jE h) Qk
end
end L2
namespace My
open PySem L2
def ć (i:G5):A6:=PySem.Challenge.pw_firstpowers_k29_turns_told.main.body.getD i (.Pass ⟨0,0,0,0⟩)
abbrev JV:A6:=ć 17
def XJ:Á ["thing"] ["thing"] (jd JV):=Ć
abbrev wK:A6:=ć 18
def yy:Á ["thing","size","number"] ["thing","size"] (jd wK):=Ć
abbrev zU:A6:=ć 19
def wR:Á ["thing","row"] ["thing"] (jd zU):=Ć
abbrev wF:A6:=ć 20
def Jm:Á ["thing"] ["thing"] (jd wF):=Ć
abbrev yA:A6:=ć 22
def wX:Á ["table","some","head","place"] ["table","some"] (jd yA):=Ć
abbrev Wt:A6:=ć 24
def zM:Á ["table","size","come","by","one","other"] ["table"] (jd Wt):=Ć
abbrev vE:A6:=ć 25
def zr:Á ["come","size","told","place","piece","other"] ["come"] (jd vE):=Ć
abbrev ZE:A6:=ć 26
def UF:Á ["table"] ["table"] (jd ZE):=Ć
abbrev ZF:A6:=ć 27
def UG:Á ["table"] ["table"] (jd ZF):=Ć
abbrev XL:A6:=ć 29
def Gi:Á ["table","place","head","number"] ["table","place"] (jd XL):=Ć
abbrev wv:A6:=ć 31
def yl:Á ["one","other"] ["one","other"] (jd wv):=Ć
abbrev yB:A6:=ć 32
def jY:Á ["table","told","paths","place","path","head"] ["table"] (jd yB):=Ć
abbrev QY:A6:=ć 33
def Wu:Á ["table","told","each"] ["table"] (jd QY):=Ć
abbrev zC:A6:=ć 35
def jt:Á ["table","fewest","some","steps","place"] ["table"] (jd zC):=Ć
abbrev yT:A6:=ć 36
def ww:Á ["table","d","steps"] ["table"] (jd yT):=Ć
abbrev vF:A6:=ć 38
def UH:Á ["_law_script","_law_k"] ["_law_script","_law_k"] (jd vF):=Ć
abbrev JY:A6:=ć 39
def Wv:Á ["_law_cell_here","_law_left"] ["_law_cell_here"] (jd JY):=Ć
abbrev vG:A6:=ć 40
def wH:Á ["_law_pen_here","_law_many","_law_left","_law_found","_law_stir"] ["_law_pen_here","_law_many"] (jd vG):=Ć
abbrev yC:A6:=ć 41
def Vm:Á ["_law_thing"] ["_law_thing"] (jd yC):=Ć
abbrev vH:A6:=ć 42
def zt:Á ["_law_e","_law_seen","_law_words"] ["_law_e"] (jd vH):=Ć
abbrev vI:A6:=ć 43
def Zm:Á ["_law_call","_law_found","_law_e","_law_word"] ["_law_call"] (jd vI):=Ć
abbrev vJ:A6:=ć 44
def UI:Á ["_law_pen_here"] ["_law_pen_here"] (jd vJ):=Ć
abbrev yD:A6:=ć 45
def jz:Á ["_law_pen_here","_law_size_here","_law_way","_law_often","_law_most","_law_rows","_law_one","_law_row","_law_other","_law_goes"] ["_law_pen_here","_law_size_here"] (jd yD):=Ć
abbrev yE:A6:=ć 46
def wb:Á ["_law_table_here","_law_some","_law_size_here","_law_place","_law_one"] ["_law_table_here","_law_some"] (jd yE):=Ć
abbrev yF:A6:=ć 47
def wY:Á ["_law_pen_here","_law_many","_law_found","_law_what"] ["_law_pen_here","_law_many"] (jd yF):=Ć
abbrev JZ:A6:=ć 48
def zK:Á ["_law_table_here","_law_found","_law_place","_law_some","_law_turn"] ["_law_table_here"] (jd JZ):=Ć
abbrev wZ:A6:=ć 49
def ze:Á ["_law_table_here","_law_far_here","_law_found","_law_place","_law_one"] ["_law_table_here"] (jd wZ):=Ć
abbrev yG:A6:=ć 50
def zE:Á ["_law_table_here","_law_thing","_law_d","_law_rests","_law_one","_law_row","_law_other","_law_number","_law_rest"] ["_law_table_here","_law_thing"] (jd yG):=Ć
abbrev zp:A6:=ć 51
def jj:Á ["_law_pen_here","_law_size_here","_law_order_here","_law_d","_law_often","_law_most","_law_found","_law_at","_law_one","_law_to","_law_other","_law_row","_law_place"] ["_law_pen_here","_law_size_here"] (jd zp):=Ć
abbrev ya:A6:=ć 52
def jD:Á ["_law_table_here","_law_found","_law_walks","_law_later","_law_walk","_law_row","_law_place","_law_to"] ["_law_table_here"] (jd ya):=Ć
abbrev vK:A6:=ć 53
def zS:Á ["_law_table_here","_law_sizes","_law_good","_law_some","_law_d","_law_size_here"] ["_law_table_here"] (jd vK):=Ć
abbrev wG:A6:=ć 54
def wc:Á ["_law_table_here","_law_d","_law_turn","_law_said_here"] ["_law_table_here"] (jd wG):=Ć
abbrev Pj:A6:=ć 55
def QZ:Á ["_law_script","_law_cell_here","_law_pen_here","_law_turn"] ["_law_script"] (jd Pj):=Ć
section
variable {P:S8}{w:B0}{K:G6}{mg:Str->P5 G1}{base:C7}
/-- no def is asked of Ž script's list: a X0p -/
def Mp:D->M7
 | .int _=>true
 |_=>false
/-- a row of so many numbers from 0 on -/
def SF:D->M7
 | .int i=>decide (0<=i)
 |_=>false
def Cf (d:D)(k:P1):M7:=match d with
 | .tup ds=>decide ((ds.length:P1)=k)&&ds.all SF
 |_=>false
/-! every part has a kind X00 is Ė,and no tuple is long -/
mutual
def okD:D->M7
 | .scr _=>false| .exc _=>false| .fn _=>false| .dct _=>false
 | .tup ds=>decide (ds.length<=1000)&&Ű ds
 |_=>true
def Ű:G0 D->M7
 | []=>true
 |d::ds=>okD d&&Ű ds
end
theorem Ga: ∀ {ds:G0 D},Ű ds=true-> ∀d∈ds,okD d=true
 |d::ds,h,x,hx=>by
  have h':(okD d&&Ű ds)=true:=h;rw [B8] at h';rcases D5.mp hx with e|e
  ·subst e;exact h'.1
  ·exact Ga h'.2 x e
theorem Mq: ∀ {ds:G0 D},(∀d∈ds,okD d=true)->Ű ds=true
 | [],_=>rfl
 |d::ds,h=>by
  show (okD d&&Ű ds)=true;rw [h d R5,Mq λx hx=>h x (T3 _ hx)];rfl
def Vn {ds:G0 D}(h:okD (.tup ds)=true):ds.length<=1000/\ ∀d∈ds,okD d=true:=by
 have h':(decide (ds.length<=1000)&&Ű ds)=true:=h;rw [B8] at h';exact⟨L8 h'.1,Ga h'.2⟩
def Gb {ds:G0 D}(h:ds.length<=1000)(h2: ∀d∈ds,okD d=true):okD (.tup ds)=true:=by
 show (decide (ds.length<=1000)&&Ű ds)=true;rw [D3 h,Mq h2];rfl
def yb {d:D}(h:okD d=true): ∃n,VS d=some n:=by
 cases d<;>first|exact⟨_,rfl⟩|cases h
/-- a table -/
noncomputable def Mr:D->M7
 | .tup rs=>decide (1<=rs.length)&&decide (rs.length<=6)&&rs.all λr=>Cf r rs.length
 |_=>false
def yc:RDn:=λds h Q=> ∃d n,ds= [d]/\VS d=some n/\Q (.bl (Mp d)) h
variable {n:G5}{f:G9}{fd:M6}
def XM (Z:Zs mg)(F:Þ K "is_whole" "is_whole" JV f fd):È P w K mg base Û (n+1) f fd ["thing"] (æ K yc):=by
 refine F.okM XJ (λhr=>(jE (wj (Fu (Ua (T:= "int") (by decide) rfl Z.isinstance rfl Z.int (by decide +kernel) (jv 0)) (MD (HV (Ua (T:= "bool") (by decide) rfl Z.isinstance rfl Z.bool (by decide +kernel) (jv 0)))))))) ?_;rintro ds h Q ⟨d,nm,rfl,hn,q⟩;refine⟨rfl,?_⟩;simp only [Pz,Du,dIs,Ds,jZ,N4,W4,R1,C4,Q1,O2,U0,aA,D.bl.injEq,Dv,Xg,bL,hn];cases d<;>cases hn<;>exact⟨h,Sub.refl h,q⟩
def yH:RDn:=λds h Q=> ∃d k,ds= [d,.int k]/\okD d=true/\Q (.bl (Cf d k)) h
def Ww (Z:Zs mg)(F:Þ K "is_table_row" "is_table_row" wK f fd)(Pr:jy P w K mg base n "is_whole" ["thing"] yc):È P w K mg base Û (n+1) f fd ["thing","size"] (æ K yH):=by
 refine F.okM yy (λhr=>(js2 (Ws (Ź (Gy (wT (wA (Ua (T:= "tuple") (by decide) rfl Z.isinstance rfl Z.tuple (by decide +kernel) (jv 0)))) (MC (ý ë (Wr Z (jv 0)) (jv 1))))) (wj ŝ)) (wj (yh (DH rfl) rfl Z.all gQ (j1 (jl0 2 yy (zG (jv 0)) (λ_ _ _ _=>(Fu (jk Pr hr (j1 (jv 2))) (MD (jc1 Fn (jv 2) ju)))))))))) ?_;rintro ds h Q ⟨d,k,rfl,ok,q⟩;refine⟨rfl,?_⟩;obtain⟨nm,hn⟩:=yb ok;simp only [vp,Fa,Am,Dt,JD,dIs,Ds,jZ,N4,W4,R1,C4,B2,Q1,O2,U0,aA,D.bl.injEq,Pz,dC,Xg,Xn,ħ,zu,WF,ľ,Om,cH,neD,bL,hn];cases d with
 |tup es=>
  cases hn;obtain⟨hl,ht⟩:=Vn ok;simp only [AS]
  by_cases hk:(es.length:P1)=k
  ·simp only [hk];simp;refine DI (ds:=es) (h1:=h) (j:=λ_=>some es) (λx=> .bl (SF x)) (S6 (jw hl)) rfl (λR r=>⟨.tup es,rfl,r⟩) (λd hd Q' q'=> ?_) (λp hp=> ?_)
   ·obtain⟨nn,hnn⟩:=yb (ht d hd);refine⟨d,rfl,d,nn,rfl,hnn,Mp d,rfl,?_⟩;cases d with
    |int i=>exact JB ⟨.int i,rfl,q'⟩
    |_=>exact wz q'
   ·refine⟨p,es.map SF,rfl,by rw [jc];simp,h,?_,?_⟩
    ·rw [wn hp];exact Sub.refl h
    ·simpa [Cf,hk,aN,lG] using q
  ·simp [hk];exact⟨h,Sub.refl h,by simpa [Cf,hk] using q⟩
 |_=>cases hn<;>exact⟨h,Sub.refl h,q⟩
def zL:RDn:=λds h Q=> ∃d,ds= [d]/\okD d=true/\Q (.bl (Mr d)) h
def Za (Z:Zs mg)(F:Þ K "has_table_form" "has_table_form" zU f fd)(WT:jy P w K mg base n "is_table_row" ["thing","size"] yH)(vN: ∃tk,mg "MOST_ROWS" =some (.int 6 tk)):È P w K mg base Û (n+1) f fd ["thing"] (æ K zL):=by
 obtain⟨tk_MOST_ROWS,ű⟩:=vN;refine F.okM wR (λhr=>(js2 (Ws (Ź (Gy (wT (wA (Ua (T:= "tuple") (by decide) rfl Z.isinstance rfl Z.tuple (by decide +kernel) (jv 0)))) (MC (wT (DM DB DB ju (Wr Z (jv 0)) (TR rfl ű)))))) (wj ŝ)) (wj (yh (DH rfl) rfl Z.all gQ (j1 (jl0 1 wR (zG (jv 0)) (λ_ _ _ _=>(jk WT hr (j2 (jv 1) (Wr Z (jv 0))))))))))) ?_;rintro ds h Q ⟨d,rfl,ok,q⟩;refine⟨rfl,?_⟩;obtain⟨nm,hn⟩:=yb ok;simp only [vp,Fa,Am,Dt,JD,dIs,Ds,jZ,N4,W4,R1,C4,B2,Q1,O2,U0,aA,D.bl.injEq,Pz,dC,Xg,Xn,ħ,zu,WF,ZV,Om,BH,bL,hn];cases d with
 |tup es=>
  cases hn;obtain⟨hl,ht⟩:=Vn ok;simp only [AS]
  by_cases h1:1<=es.length
  ·by_cases h6:es.length<=6
   ·have h1':(1:P1)<=es.length:=by omega
    have h6':(es.length:P1)<=6:=by omega
    simp [h1',h6'];refine DI (ds:=es) (h1:=h) (j:=λ_=>some es) (λx=> .bl (Cf x es.length)) (S6 (jw hl)) rfl (λR r=>⟨.tup es,rfl,r⟩) (λd hd Q' q'=> ?_) (λp hp=> ?_)
    ·exact⟨d,rfl,.tup es,rfl,d,es.length,rfl,ht d hd,q'⟩
    ·refine⟨p,es.map λx=>Cf x es.length,rfl,by rw [jc];simp,h,?_,?_⟩
     ·rw [wn hp];exact Sub.refl h
     ·simpa [Mr,h1,h6,aN,lG] using q
   ·have h1':(1:P1)<=es.length:=by omega
    have h6': ¬ (es.length:P1)<=6:=by omega
    simp [h1',h6'];exact⟨h,Sub.refl h,by simpa [Mr,h1,h6] using q⟩
  ·have h1': ¬ (1:P1)<=es.length:=by omega
   simp [h1'];exact⟨h,Sub.refl h,by simpa [Mr,h1] using q⟩
 |_=>cases hn<;>exact⟨h,Sub.refl h,q⟩
def LX {x:P1}(h:0<=x):SF (.int x)=true:=D3 h
variable {T:G0 (G0 P1)}
def LY {e:G5}(h:Sq n e T){r:G0 P1}(hr:r∈T):Cf (Jv r) n=true:=by
 simp only [Cf,Jv,G2,h.row r hr,IK,lV,aN,N9,oW];intro x hx;exact LX (h.nn r hr x hx)
def LZ {e:G5}(h:Sq n e T)(h1:1<=n)(h6:n<=6):Mr (jP T)=true:=by
 simp only [Mr,jP,G2,h.len,D3 h1,D3 h6,lV,aN,N9,oW];intro r hr;exact LY h hr
def Sk {e:G5}(h:Sq n e T)(h6:n<=6):okD (jP T)=true:=
 Gb (by rw [G2,h.len];omega) λd hd=>by
  obtain⟨r,hr,rfl⟩:=S9.mp hd;exact Gb (by rw [G2,h.row r hr];omega) λd hd=>by obtain⟨x,_,rfl⟩:=S9.mp hd;rfl
def ye:RDn:=λds h Q=> ∃T,∃n e:G5,ds= [jP T]/\Sq n e T/\1<=n/\n<=6/\Q .non h
def Vo (Z:Zs mg)(F:Þ K "want_table" "want_table" wF f fd)(zV:jy P w K mg base n "has_table_form" ["thing"] zL):È P w K mg base Û (n+1) f fd ["thing"] (æ K ye):=by
 refine F.okM Jm (λhr=>(jE (Ws (wT (wA (jk zV hr (j1 (jv 0))))) Uc))) ?_;rintro ds h Q ⟨T,k,b,rfl,hT,h1,h6,q⟩;refine⟨rfl,?_⟩;refine⟨_,rfl,jP T,rfl,Sk hT h6,_,rfl,?_⟩;rw [LZ hT h1 h6];exact wz ⟨h,Sub.refl h,q⟩
def vd:RDx:=λds h R=> ∃d,ds= [d]/\okD d=true/\Mr d=false/\R "NoTable" h
def WQ (Z:Zs mg)(Ex:Exc K mg)(F:Þ K "want_table" "want_table" wF f fd)(zV:jy P w K mg base n "has_table_form" ["thing"] zL):È P w K mg base (Ķ P w) (n+1) f fd ["thing"] (Rj mg K vd):=by
 refine F.okMX Jm (λhr=>(FP (wT (wA (jk zV hr (j1 (jv 0))))) (Va rfl (Ex.own "NoTable" (by decide)) rfl))) ?_;rintro ds h R ⟨d,rfl,ok,bad,q⟩;refine⟨rfl,?_⟩;refine⟨_,rfl,d,rfl,ok,_,rfl,?_⟩;rw [bad];exact⟨rfl,q⟩
def Jn:RDn:=λds h Q=> ∃T S,∃n e:G5,ds= [jP T,jA S]/\Sq n e T/\ø n S/\n<=6/\Q (jA (yn n T S)) h
def Vp (Z:Zs mg)(F:Þ K "step_after" "step_after" yA f fd):È P w K mg base Û (n+1) f fd ["table","some"] (æ K Jn):=by
 refine F.okM wX (λhr=>(jE (wj (zI wN rfl Z.tuple (by decide +kernel) (j1 (jl1 2 wX (Ņ Z (Wr Z (jv 0))) (λ_ _ _ _=>(wA (yh (AT rfl) rfl Z.any (by decide +kernel) (j1 (jl0 3 wX (zG (jv 1)) (λ_ _ _ _=>(jc1 ë (à (à (jv 0) (jv 3)) (jv 2)) ju))))))) (λ_ _ _ _=>(jv 2)))))))) ?_;rintro ds h Q ⟨T,S,k,b,rfl,hT,hS,h6,q⟩;refine⟨rfl,?_⟩;have hlen:=hS.len;refine Fy (P4 k) (λj=> .int (j:P1)) (λj=> .int (j:P1)) (λj=>S.any λi=>decide (Ï T i j≠0)) (by rw [S7];omega) rfl (λR r=>⟨_,rfl,(k:P1),by rw [G2,hT.len],by omega,by omega,r⟩) (λj hj Q' q'=> ?_) (λj hj hp Q' q'=>⟨_,rfl,q'⟩) ⟨h,Sub.refl h,q⟩;refine kc S (λi=> .int (i:P1)) (λi=>decide (Ï T i j≠0)) (by omega) rfl (λR r=>⟨_,rfl,r⟩) (λi hi Q'' q''=> ?_) ⟨_,rfl,q'⟩;have â:=hS.lt hi;refine⟨_,rfl,_,rfl,_,JL hT â,_,rfl,_,JM (hT.row _ (Sq.getRow hT â)) (D1.mp hj),?_⟩;have e:(!decide (((T.getD i []).getD j 0)=0))=decide (Ï T i j≠0):=by simp [Ï]
 rw [<-e] at q'';exact q''
def Yx:RDn:=λds h Q=> ∃T,∃n e:G5,ds= [jP T]/\Sq n e T/\n<=6/\ ∀R rs h',GB n h h' R rs (wk T n)->Q (.lst R) h'
def Pk (Z:Zs mg)(F:Þ K "reaches" "reaches" Wt f fd):È P w K mg base Û (n+1) f fd ["table"] (æ K Yx):=by
 refine F.okM zM (λhr=>(js4 (è 1 zM (Wr Z (jv 0))) (VZ (i:=4) (k:=2) (js:= [4]) rfl zM.nd rfl (K9 rfl) (jW (by rfl)) (Ņ Z (jv 1)) (by decide) rfl (by first|exact K9 rfl|exact bG rfl) (λX' hX=>JJ) (λX' hX=>by obtain⟨C,s₀,H₀,ex,rfl⟩:=hX;exact(jl0 5 zM (Ņ Z (jv 1)) (λ_ _ _ _=>(jor (jc1 (VX hr.units) (jv 4) (jv 5)) (MD (jc1 ë (à (à (jv 0) (jv 4)) (jv 5)) ju))))))) (Yi B9 rfl (Ņ Z (jv 1)) (ż 3 zM) (jE (Yi B9 rfl (Ņ Z (jv 1)) (ż 4 zM) (jE (Yi B9 rfl (Ņ Z (jv 1)) (ż 5 zM) (jE (Ws (Ź (Xr (wA (à (à (jv 2) (jv 4)) (jv 3))) (Gx (wA (à (à (jv 2) (jv 3)) (jv 5)))))) (Fw ŝ (Ub (à (jv 2) (jv 4)) (jv 5)))))))))) (wj (jv 2)))) ?_;rintro ds h Q ⟨T,n,b,rfl,hT,h6,q⟩;refine⟨rfl,?_⟩;refine jg (λIO h'=>IO= [some (jP T),some (.int (n:P1)),none,none,none,none]/\h=h') (λC hC=>⟨_,rfl,hC _ _ ⟨by rw [G2,hT.len];rfl,rfl⟩⟩) ?_;rintro _ _ ⟨rfl,rfl⟩;refine jg (λIO h'=> ∃R rs u v w,IO= [some (jP T),some (.int (n:P1)),some (.lst R),u,v,w]/\GB n h h' R rs (wk T 0)) (λC hC=> ?_) ?_
 ·refine Ed (h1:=h) n (λi ys h'=> ∃rs,ys=rs.map D.lst/\rs.length=i/\Sub h h'/\rs.Nodup/\ ∀m a,rs[m]? =some a->h a=none/\h' a=some ((P4 n).map λj=>D.bl (wk T 0 m j))) (by omega) (λR r=>⟨_,rfl,r⟩) ⟨[],rfl,rfl,Sub.refl h,List.nodup_nil,by simp⟩ (λi ys h' ⟨rs,e,el,_⟩=>by rw [e,G2];exact el) ?_ ?_
  ·rintro i ys h3 hi ⟨rs,rfl,lrs,sb3,nd3,õ⟩;refine lcA (P4 n) (λj=> .int (j:P1)) (λj=> .bl (wk T 0 i j)) (by rw [S7];omega) rfl (λR r=>⟨_,rfl,(n:P1),rfl,by omega,by omega,r⟩) (λj hj Q' q'=>⟨_,rfl,_,rfl,_,rfl,?_⟩) (λp5 e5=> ?_)
   ·have hj:=D1.mp hj;have q':Q' (.bl (decide (i=j)|| !decide (Ï T i j=0))) h3:=q';have ed:decide ((i:P1)=(j:P1))=decide (i=j):=by rw [J9,C6,C6];omega
    rw [ed]
    by_cases c:i=j
    ·rw [D3 c] at q' ⊢;exact JB q'
    ·rw [D9 c] at q' ⊢;exact wz ⟨_,rfl,_,rfl,_,JL hT hi,_,rfl,_,JM (hT.row _ (Sq.getRow hT hi)) hj,q'⟩
   ·refine⟨_,Sub.refl _,by omega,rs++ [p5],by rw [T7];rfl,by rw [D0,lrs];rfl,Sub.newAt sb3 e5,?_,λm a ha=> ?_⟩
    ·rw [bT];refine⟨nd3,by simp,λa ha b hb z=> ?_⟩;rw [P0.mp hb] at z;subst z;obtain⟨m,hm⟩:=Y9 ha;rw [(õ m _ hm).2] at e5;cases e5
    ·by_cases hm:m<rs.length
     ·rw [B7 hm] at ha;exact⟨(õ m a ha).1,je (õ m a ha).2 e5⟩
     ·rw [N5 (by omega)] at ha;have em:m-rs.length=0:=by
       have:=(P6.mp ha).1;simp at this;omega
      rw [em] at ha;have ea:p5=a:=by simpa using ha
      subst ea;have:m=i:=by omega
      subst this;exact⟨yQ sb3 e5,jc⟩
  ·rintro ys h3 ⟨rs,rfl,lrs,sb3,nd3,õ⟩ R eR;refine hC _ _ ⟨R,rs,_,_,_,rfl,jc,lrs,λhR=> ?_,nd3,Sub.newAt sb3 eR,λi a ha=>⟨(õ i a ha).1,je (õ i a ha).2 eR⟩⟩;obtain⟨m,hm⟩:=Y9 hR;rw [(õ m _ hm).2] at eR;cases eR
 rintro _ h3 ⟨R,rs,u,v,w,rfl,G⟩;refine jg (λIO h'=> ∃u v w,IO= [some (jP T),some (.int (n:P1)),some (.lst R),u,v,w]/\GB n h h' R rs (wk T n)) (λC hC=> ?_) ?_
 ·refine zT n (λk IO h'=> ∃u v w,IO= [some (jP T),some (.int (n:P1)),some (.lst R),u,v,w]/\GB n h h' R rs (wk T k)) (by omega) (λR r=>⟨_,rfl,r⟩) ⟨u,v,w,rfl,G⟩ (λIO h' z=>hC _ _ z) ?_;clear G;rintro k _ h4 hk ⟨u,v,w,rfl,G⟩;refine zT n (λi IO h'=> ∃v w,IO= [some (jP T),some (.int (n:P1)),some (.lst R),some (.int (k:P1)),v,w]/\GB n h h' R rs (fW T k i 0)) (by omega) (λR r=>⟨_,rfl,r⟩) ⟨v,w,rfl,G.as λx y _ _=>Lo T k x y⟩ (λIO h' ⟨v,w,e,G⟩=>⟨_,Sub.refl _,by omega,_,v,w,e,G.as λx y hx _=>ER T k x y hx⟩) ?_;clear G;rintro i _ h5 hi ⟨v,w,rfl,G⟩;refine zT n (λj IO h'=> ∃w,IO= [some (jP T),some (.int (n:P1)),some (.lst R),some (.int (k:P1)),some (.int (i:P1)),w]/\GB n h h' R rs (fW T k i j)) (by omega) (λR r=>⟨_,rfl,r⟩) ⟨w,rfl,G⟩ (λIO h' ⟨w,e,G⟩=>⟨_,Sub.refl _,by omega,_,w,e,G.as λx y _ hy=>Ln T k i x y hy⟩) ?_;clear G;rintro j _ h6' hj ⟨w,rfl,G⟩;obtain⟨a,ha,a1,a2⟩:=G.pick hi;obtain⟨c,hc,c1,c2⟩:=G.pick hk;refine⟨_,rfl,_,rfl,_,_,G.at_,a1,_,rfl,_,_,a2,QH hk,_,rfl,?_⟩;rw [EN];refine WJ (λz1=> ?_) λz1=> ?_
  ·refine⟨_,rfl,_,rfl,_,_,G.at_,c1,_,rfl,_,_,c2,QH hj,_,rfl,?_⟩;rw [EO];refine WJ (λz2=> ?_) λz2=> ?_
   ·exact⟨_,rfl,_,rfl,_,_,G.at_,a1,_,rfl,a,(j:P1),_,j,rfl,rfl,a2,YZ (by rw [G2,S7];exact hj),_,Sub.refl _,by omega,_,rfl,(G.put ha).as λx y _ _=>EQ z1 z2 x y⟩
   ·exact⟨_,Sub.refl _,by omega,_,rfl,G.as λx y _ _=>RQ (λz=>z2 z.2) x y⟩
  ·exact⟨_,Sub.refl _,by omega,_,rfl,G.as λx y _ _=>RQ (λz=>z1 z.1) x y⟩
 rintro _ h4 ⟨u,v,w,rfl,G⟩;exact⟨_,rfl,_,Sub.refl _,q R rs h4 G⟩
def Zf:RDn:=λds h Q=> ∃R rs h0 T,∃n:G5,ds= [.lst R]/\GB n h0 h R rs (wk T n)/\n<=6/\ ∀A h',h A=none->h' A=some ((vP T n).map jA)->Sub h h'->Q (.lst A) h'
def UJ (Z:Zs mg)(F:Þ K "pieces_by" "pieces_by" vE f fd):È P w K mg base Û (n+1) f fd ["come"] (æ K Zf):=by
 refine F.okM zr (λhr=>(js4 (è 1 zr (Wr Z (jv 0))) (è 2 zr (JH zO)) (Yi B9 rfl (Ņ Z (jv 1)) (ż 3 zr) (js2 (è 4 zr (zI wN rfl Z.tuple (by decide +kernel) (j1 (jl1 5 zr (Ņ Z (jv 1)) (λ_ _ _ _=>(Ź (Xr (wA (à (à (jv 0) (jv 3)) (jv 5))) (Gx (wA (à (à (jv 0) (jv 5)) (jv 3))))))) (λ_ _ _ _=>(jv 5)))))) (Ws (ý (VX hr.units) (à (jv 4) ju) (jv 3)) (WL (Oo (jv 2) (jv 4)))))) (wj (jv 2)))) ?_;rintro ds h Q ⟨R,rs,h0,T,n,rfl,G,h6,q⟩;refine⟨rfl,?_⟩;refine jg (λIO h'=>IO= [some (.lst R),some (.int (n:P1)),none,none,none,none]/\h=h') (λC hC=> ?_) ?_
 ·exact⟨_,rfl,_,G.at_,hC _ _ ⟨by rw [G2,G.len];rfl,rfl⟩⟩
 rintro _ _ ⟨rfl,rfl⟩;refine jg (λIO h'=> ∃A,IO= [some (.lst R),some (.int (n:P1)),some (.lst A),none,none,none]/\h A=none/\Sub h h'/\h' A=some []) (λC hC=>⟨sz0,λA eA=>hC _ _ ⟨A,rfl,eA,Sub.newAt (Sub.refl h) eA,jc⟩⟩) ?_;rintro _ h1 ⟨A,rfl,nA,sb,kA⟩;refine jg (λIO h'=> ∃u v w,IO= [some (.lst R),some (.int (n:P1)),some (.lst A),u,v,w]/\Sub h h'/\h' A=some ((vP T n).map jA)) (λC hC=> ?_) ?_
 ·refine zT n (λk IO h'=> ∃u v w,IO= [some (.lst R),some (.int (n:P1)),some (.lst A),u,v,w]/\Sub h h'/\h' A=some (((((P4 k).filter (λp=>decide ((û T n p).headD 0=p))).map (û T n))).map jA)) (by omega) (λR r=>⟨_,rfl,r⟩) ⟨_,_,_,rfl,sb,kA⟩ (λIO h' z=>hC _ _ z) ?_;clear sb kA;rintro k _ h2 hk ⟨u,v,w,rfl,sb,kA⟩;have GG:=G.up sb;obtain⟨a,ha,a1,a2⟩:=GG.pick hk;refine jg (λIO h'=> ∃w,IO= [some (.lst R),some (.int (n:P1)),some (.lst A),some (.int (k:P1)),some (jA (û T n k)),w]/\h2=h') (λC hC=> ?_) ?_
  ·refine Nq n (λj ys h'=>h'=h2/\ys=((P4 j).filter λi=>wk T n k i&&wk T n i k).map λ(i:G5)=>D.int (i:P1)) (by omega) (λR r=>⟨_,rfl,r⟩) ⟨rfl,rfl⟩ (λj ys h' w=> ?_) (λj ys h' hj w=> ?_) (λys h' w=> ?_)
   ·rw [w.2,G2];exact R6 (Q4 _ _) (by rw [S7];exact P3 _)
   ·obtain⟨rfl,rfl⟩:=w;obtain⟨c,hc,c1,c2⟩:=GG.pick hj;refine⟨_,rfl,_,rfl,_,_,GG.at_,a1,_,rfl,_,_,a2,QH hj,_,rfl,WJ (λz1=> ?_) λz1=> ?_⟩
    ·refine⟨_,rfl,_,rfl,_,_,GG.at_,c1,_,rfl,_,_,c2,QH hk,_,rfl,WJ (λz2=> ?_) λz2=> ?_⟩
     ·refine⟨_,rfl,_,Sub.refl _,by omega,rfl,?_⟩;rw [A5,J6,T7,Q8 (by rw [z1,z2];rfl)];rfl
     ·refine⟨_,Sub.refl _,by omega,rfl,?_⟩;rw [A5,J6,T7,Q9 (by rw [B8];exact λz=>z2 z.2)];simp
    ·refine⟨_,Sub.refl _,by omega,rfl,?_⟩;rw [A5,J6,T7,Q9 (by rw [B8];exact λz=>z1 z.1)];simp
   ·obtain⟨rfl,rfl⟩:=w;exact hC _ _ ⟨_,rfl,rfl⟩
  rintro _ _ ⟨w',rfl,rfl⟩;obtain⟨r,er⟩:=Vl (T:=T) hk;have a0:((û T n k).map λ(i:G5)=>D.int (i:P1))[0]? =some (.int (((û T n k).headD 0:G5):P1)):=by
   cases z:û T n k with
   |nil=>rw [z] at er;cases er
   |cons x r=>rfl
  refine⟨_,rfl,_,zH (j:=0) a0,_,rfl,?_⟩;show ∃k_1,D.bl (decide ((((û T n k).headD 0:G5):P1)=(k:P1)))= .bl k_1/\_;refine⟨_,rfl,WJ (λz=> ?_) λz=> ?_⟩
  ·have z:(û T n k).headD 0=k:=by have:=L8 z;omega
   refine⟨_,rfl,A,rfl,_,rfl,_,kA,?_,_,Sub.refl _,by omega,_,_,_,rfl,sb.over nA,?_⟩
   ·rw [G2,G2];exact jw (R6 (Q4 _ _) (by rw [S7];omega))
   ·rw [jc,A5,J6,Q8 (by rw [C6];exact z),fG,T7,T7];rfl
  ·have z: ¬ (û T n k).headD 0=k:=λe=>z (D3 (by omega))
   refine⟨_,Sub.refl _,by omega,_,_,_,rfl,sb,?_⟩;rw [kA,A5,J6,Q9 (by rw [C6];exact z),fG,O9]
 rintro _ h4 ⟨u,v,w,rfl,sb4,k4⟩;exact⟨_,rfl,_,Sub.refl _,q A h4 nA k4 sb4⟩
def UK:RDn:=λds h Q=> ∃T,∃n e:G5,ds= [jP T]/\Sq n e T/\1<=n/\n<=6/\ ∀A h',h A=none->h' A=some ((vP T n).map jA)->Sub h h'->Q (.lst A) h'
def Ms (Z:Zs mg)(F:Þ K "pieces" "pieces" ZE f fd)(yI:jy P w K mg base n "want_table" ["thing"] ye)(XX:jy P w K mg base n "pieces_by" ["come"] Zf)(Mx:jy P w K mg base n "reaches" ["table"] Yx):È P w K mg base Û (n+1) f fd ["table"] (æ K UK):=by
 refine F.okM UF (λhr=>(js2 (WL (jk yI hr (j1 (jv 0)))) (wj (jk XX hr (j1 (jk Mx hr (j1 (jv 0)))))))) ?_;rintro ds h Q ⟨T,n,b,rfl,hT,h1,h6,q⟩;refine⟨rfl,?_⟩;refine wu [some (jP T)] (λC hC=>⟨_,rfl,T,n,b,rfl,hT,h1,h6,hC⟩) ?_;exact⟨_,rfl,T,n,b,rfl,hT,h6,λR rs h2 G=>⟨R,rs,h,T,n,rfl,G,h6,λA h3 nA kA sb=>⟨_,Sub.refl _,q A h3 (yQ G.sb nA) kA ((G.sb).trans sb)⟩⟩⟩
def Yy:RDx:=λds h R=> ∃d,ds= [d]/\okD d=true/\Mr d=false/\R "NoTable" h
def Pl (Z:Zs mg)(Ex:Exc K mg)(F:Þ K "pieces" "pieces" ZE f fd)(ĺ:vz P w K mg base n "want_table" ["thing"] vd):È P w K mg base (Ķ P w) (n+1) f fd ["table"] (Rj mg K Yy):=by
 refine F.okMX UF (λhr=>(FQ (jxk ĺ hr (j1 (jv 0))))) ?_;rintro ds h R ⟨d,rfl,ok,bad,q⟩;refine⟨rfl,?_⟩;exact⟨_,rfl,d,rfl,ok,bad,q⟩
def Wx:RDn:=λds h Q=> ∃T,∃n e:G5,ds= [jP T]/\Sq n e T/\1<=n/\n<=6/\Q (.bl (decide ((vP T n).length=1))) h
def Mt (Z:Zs mg)(F:Þ K "joined" "joined" ZF f fd)(Bp:jy P w K mg base n "pieces" ["table"] UK):È P w K mg base Û (n+1) f fd ["table"] (æ K Wx):=by
 refine F.okM UG (λhr=>(jE (wj (jc1 ê (Wr Z (jk Bp hr (j1 (jv 0)))) ju)))) ?_;rintro ds h Q ⟨T,n,b,rfl,hT,h1,h6,q⟩;refine⟨rfl,?_⟩;refine⟨_,rfl,T,n,b,rfl,hT,h1,h6,λA h2 nA kA sb=>⟨_,kA,?_⟩⟩;show ∃h0,Sub h0 h2/\Q (.bl (decide (((((vP T n).map jA).length:G5):P1)=1))) h0;refine⟨h,sb,?_⟩;rw [G2,show decide ((((vP T n).length:G5):P1)=1)=decide ((vP T n).length=1) from by rw [J9,C6,C6];omega];exact q
def Yz:RDx:=λds h R=> ∃d,ds= [d]/\okD d=true/\Mr d=false/\R "NoTable" h
def Pm (Z:Zs mg)(Ex:Exc K mg)(F:Þ K "joined" "joined" ZF f fd)(π:vz P w K mg base n "pieces" ["table"] Yy):È P w K mg base (Ķ P w) (n+1) f fd ["table"] (Rj mg K Yz):=by
 refine F.okMX UG (λhr=>(Eo (Sc (Lb (id:= "len") rfl Z.len (by decide +kernel) (jxk π hr (j1 (jv 0))))))) ?_;rintro ds h R ⟨d,rfl,ok,bad,q⟩;refine⟨rfl,?_⟩;exact⟨_,rfl,d,rfl,ok,bad,q⟩
def Oa {r:G0 P1}(h:r.length=n):YX (r.map D.int)=(P4 n).map λ(j:G5)=>D.tup [.int (j:P1),.int (r.getD j 0)]:=by
 apply cY;intro i
 by_cases hi:i<n
 ·have â:i<(YX (r.map D.int)).length:=by rw [jT,G2,h];exact hi
  obtain⟨x,hx,ed⟩:=vW (G8 â);rw [G8 â,ed];rw [P7,A8 hi];rw [P7,G8 (by omega)] at hx;injection hx with hx
  rw [<-hx];show some (D.tup [D.int (i:P1),D.int r[i]])=some (D.tup [D.int (i:P1),D.int (r.getD i 0)]);rw [D7,G8 (show i<r.length by omega)];rfl
 ·rw [O8 (by rw [jT,G2];omega),O8 (by simp;omega)]
def Gc:RDn:=λds h Q=> ∃T,∃n e p:G5,ds= [jP T,.int (p:P1)]/\Sq n e T/\n<=6/\p<n/\ ∀F,h F=none->Q (.lst F) (zF h F ((Re T n p).map λ(k:G5)=>D.int (k:P1)))
def Bh (Z:Zs mg)(F:Þ K "heads" "heads" XL f fd):È P w K mg base Û (n+1) f fd ["table","place"] (æ K Gc):=by
 refine F.okM Gi (λhr=>(jE (wj (KW (i:=2) (j:=3) (js:= [2,3]) rfl (jW (by rfl)) (Wa rfl Z.enumerate (j1 (à (jv 0) (jv 1)))) (by decide) (by decide) (by decide) Gi.nd rfl rfl (by first|exact K9 rfl|exact bG rfl) (by first|exact K9 rfl|exact bG rfl) (λX' hX=>by obtain⟨C,s₀,H₀,ex,rfl⟩:=hX;exact YU (ý ë (jv 3) ju)) (λX' hX=>by obtain⟨C,s₀,H₀,ex,rfl⟩:=hX;exact(jv 2)))))) ?_;rintro ds h Q ⟨T,n,bb,p,rfl,hT,n6,hp,q⟩;refine⟨rfl,?_⟩;refine kh (j:=λ_=>some (YX ((T.getD p []).map D.int))) (P4 n) (λj=> .int (j:P1)) (λj=> .int ((T.getD p []).getD j 0)) (λj=> .int (j:P1)) (λj=>decide (Ï T p j>0)) (by rw [S7];omega) (congrArg some (Oa (hT.row _ (Sq.getRow hT hp)))) (λR r=>⟨_,rfl,_,rfl,_,JL hT hp,_,rfl,r⟩) (λx hx Q' q'=>⟨_,rfl,_,rfl,?_⟩) (λx hx _ Q' q'=>⟨_,rfl,q'⟩) (λF eF=>⟨_,Sub.refl _,q F eF⟩);have hnn:=(hT.ent_nn hp (D1.mp hx)).1;have e4:(!decide (((T.getD p []).getD x 0)=0))=decide (Ï T p x>0):=by
  show (!decide (Ï T p x=0))=_
  by_cases z:Ï T p x=0
  ·rw [z];rfl
  ·rw [D9 z,D3 (by omega)];rfl
 rw [<-e4] at q';exact q'
def ifT {c:M7}{A B:Prop}(e:c=true)(a:A):if c=true then A else B:=by rw [R8 e];exact a
def ifF {c:M7}{A B:Prop}(e:c=false)(b:B):if c=true then A else B:=by subst e;exact b
def yj:RDn:=λds h Q=> ∃a b:G5,ds= [.int (a:P1),.int (b:P1)]/\Q (.int ((bV a b:G5):P1)) h
def Zp (Z:Zs mg)(F:Þ K "greatest_into" "greatest_into" wv f fd):È P w K mg base Û (n+1) f fd ["one","other"] (æ K yj):=by
 refine F.okM yl (λhr=>(js2 (Ql B9 (ý ë (jv 1) ju) (jE (HX (i:=0) (j:=1) rfl yl.nd rfl rfl (by decide) rfl rfl (j2 (jv 1) (ç wC (jv 0) (jv 1))) rfl))) (wj (jv 0)))) ?_;rintro ds h Q ⟨a,b,rfl,q⟩;refine⟨rfl,?_⟩;refine jg (λIO h'=> ∃d,IO= [some (.int ((bV a b:G5):P1)),d]/\h=h') (λC hC=> ?_) ?_
 ·refine Zv (λm IO h'=> ∃x:G5,IO= [some (.int (x:P1)),some (.int (m:P1))]/\h=h'/\bV x m=bV a b) b ⟨a,rfl,rfl,rfl⟩ ?_;rintro m _ _ ⟨x,rfl,rfl,hg⟩;refine⟨_,rfl,_,rfl,?_⟩
  by_cases z:m=0
  ·subst z;rw [Nat.gcd_zero_right] at hg;subst hg;exact ifF (by decide) (hC _ _ ⟨_,rfl,rfl⟩)
  ·refine ifT (congrArg not (D9 (show ¬ (m:P1)=0 by omega))) ⟨_,rfl,_,rfl,_,rfl,(by omega:(0:P1)<(m:P1)),_,_,rfl,x%m,_,W8 _ (by omega),Sub.refl _,m,?_,rfl,?_⟩
   ·rw [dS];rfl
   ·rw [xW,<-IG,xW];exact hg
 rintro _ _ ⟨d,rfl,rfl⟩;exact⟨_,rfl,h,Sub.refl h,q⟩
def Mu (w:G0 G5):((Re T n (w.getLastD 0)).filter λj=>decide (w.headD 0<j)&& !decide (j∈w)).map (λj=>jA (w++ [j]))=(ME (jQ T) n w).map jA:=by
 unfold ME Re;rw [pN,N8];have:(λj=>(decide (w.headD 0<j)&& !decide (j∈w))&&decide (Ï T (w.getLastD 0) j>0))=BT (jQ T) w:=by
  funext j
  unfold BT jQ;rw [Bool.and_comm]
 rw [this];rfl
def Gd {t:G5}:((ã (jQ T) n t).flatMap λw=>((Re T n (w.getLastD 0)).filter λj=>decide (w.headD 0<j)&& !decide (j∈w)).map λj=>jA (w++ [j]))=(ã (jQ T) n (t+1)).map jA:=by
 show _=((ã (jQ T) n t).flatMap (ME (jQ T) n)).map jA;rw [List.map_flatMap];exact congrArg (λf=>(ã (jQ T) n t).flatMap f) (funext λw=>Mu w)
def Jo:RDn:=λds h Q=> ∃T,∃n e:G5,ds= [jP T]/\Sq n e T/\1<=n/\n<=6/\ ∀A h',h A=none->h' A=some ((jG T n).map jA)->Sub h h'->Q (.lst A) h'
def Vq (Z:Zs mg)(F:Þ K "all_rounds" "all_rounds" yB f fd)(yI:jy P w K mg base n "want_table" ["thing"] ye)(Oh:jy P w K mg base n "heads" ["table","place"] Gc):È P w K mg base Û (n+1) f fd ["table"] (æ K Jo):=by
 refine F.okM jY (λhr=>(js5 (WL (jk yI hr (j1 (jv 0)))) (è 1 jY (JH zO)) (VZ (i:=3) (k:=2) (js:= [3]) rfl jY.nd rfl (K9 rfl) (jW (by rfl)) (Ņ Z (Wr Z (jv 0))) (by decide) rfl (by first|exact K9 rfl|exact bG rfl) (λX' hX=>JJ) (λX' hX=>by obtain⟨C,s₀,H₀,ex,rfl⟩:=hX;exact(VE (j1 (jv 3))))) (Ql B9 (He (jv 2)) (js2 (è 1 jY (ç za (jv 1) (jl1 4 jY (zG (jv 2)) (λ_ _ _ _=>(ý ë (à (à (jv 0) (à (jv 4) (TW ju))) (à (jv 4) ju)) ju)) (λ_ _ _ _=>(jv 4))))) (Lp (i:=4) (i':=5) (k:=2) (js:= [4,5]) rfl jY.nd rfl (K9 rfl) (jW (by rfl)) (zG (jv 2)) (by decide) (by decide) (by decide) rfl rfl (by first|exact K9 rfl|exact bG rfl) (by first|exact K9 rfl|exact bG rfl) (λX' hX=>JJ) (λX' hX=>by obtain⟨C,s₀,H₀,ex,rfl⟩:=hX;exact(zG (jk Oh hr (j2 (jv 0) (à (jv 4) (TW ju)))))) (λX' hX=>by obtain⟨C,s₀,H₀,ex,rfl⟩:=hX;exact YU (Ź (Xr (ý Gt (jv 5) (à (jv 4) ju)) (Gx (Gw (Qm hr.units) (jv 5) (jv 4) (by with_unfolding_all rfl)))))) (λX' hX=>by obtain⟨C,s₀,H₀,ex,rfl⟩:=hX;exact(ç za (jv 4) (VE (j1 (jv 5)))))))) (wj (yh (Yu hr) rfl Z.sorted (by decide +kernel) (j1 (jv 1)))))) ?_;rintro ds h Q ⟨T,n,b,rfl,hT,h1,h6,q⟩;refine⟨rfl,?_⟩;refine wu [some (jP T),none,none,none,none,none] (λC hC=>⟨_,rfl,T,n,b,rfl,hT,h1,h6,hC⟩) ?_;refine jg (λIO h'=> ∃A,IO= [some (jP T),some (.lst A),none,none,none,none]/\h' A=some []/\Sub h h') (λC hC=>⟨sz0,λA eA=>hC _ _ ⟨A,rfl,jc,Sub.newAt (Sub.refl h) eA⟩⟩) ?_;rintro _ h2 ⟨A,rfl,kA,sA⟩;refine jg (λIO h'=> ∃B c,IO= [some (jP T),some (.lst A),some (.lst B),c,none,none]/\h' A=some ((Jw (jQ T) n 0).map jA)/\h' B=some ((ã (jQ T) n 0).map jA)/\Sub h h') (λC hC=> ?_) ?_
 ·refine lcA (P4 n) (λj=> .int (j:P1)) (λi=>jA [i]) (by rw [S7];omega) rfl (λR r=>⟨_,rfl,(n:P1),by rw [G2,hT.len],by omega,by omega,r⟩) (λj hj Q' q'=>⟨_,rfl,Τ,q'⟩) (λB eB=>hC _ _ ⟨B,_,rfl,je kA eB,?_,Sub.newAt sA eB⟩);rw [jc];show _=some (((P4 n).map λi=> [i]).map jA);rw [N8];rfl
 rintro _ h3 ⟨B,c,rfl,kA,kB,sb⟩;refine jg (λIO h'=> ∃A B c,IO= [some (jP T),some (.lst A),some (.lst B),c,none,none]/\h' A=some ((Jw (jQ T) n n).map jA)/\Sub h h') (λC hC=> ?_) ?_
 ·refine Zv (λm IO h'=> ∃ (t:G5) (A B:G9) (c:P5 D),IO= [some (jP T),some (.lst A),some (.lst B),c,none,none]/\m=n-t/\t<=n/\h' A=some ((Jw (jQ T) n t).map jA)/\h' B=some ((ã (jQ T) n t).map jA)/\Sub h h') n ⟨0,A,B,c,rfl,rfl,N3 _,kA,kB,sb⟩ ?_;clear kA kB sb;rintro m _ h4 ⟨t,A,B,c,rfl,rfl,tn,kA,kB,sb⟩;refine⟨_,rfl,!((ã (jQ T) n t).map jA).isEmpty,⟨_,kB,rfl⟩,?_⟩
  by_cases z:(ã (jQ T) n t)= []
  ·rw [z];refine wz (hC _ _ ⟨A,B,c,rfl,?_,sb⟩);have:=(Wq (n-t) z).1;rw [show t+(n-t)=n by omega] at this;rw [this];exact kA
  ·have tl:t<n:=by
    rcases O4 t n with w|w
    ·exact w
    ·have:t=n:=by omega
     subst this;exact absurd (RR h6) z
   have ll:=Vh (g:=jQ T) h6 (show t<=6 by omega);have rl:=Ji (g:=jQ T) h6 (show t<=6 by omega);have l2:=Vh (g:=jQ T) h6 (show t+1<=6 by omega);rw [show (!((ã (jQ T) n t).map jA).isEmpty)=true from by cases e:(ã (jQ T) n t) with|nil=>exact absurd e z|cons _ _=>rfl];refine JB ?_;refine jg (λIO h'=> ∃A,IO= [some (jP T),some (.lst A),some (.lst B),c,none,none]/\h' A=some ((Jw (jQ T) n (t+1)).map jA)/\h' B=some ((ã (jQ T) n t).map jA)/\Sub h h') (λC hC=>⟨_,rfl,?_⟩) ?_
   ·refine lcF (j:=λh=>h B) (ã (jQ T) n t) jA jA (λw=>jQ T (w.getLastD 0) (w.headD 0)) (by omega) kB (λR r=>⟨_,rfl,r⟩) (λw hw Q' q'=> ?_) (λw hw _ Q' q'=>⟨_,rfl,q'⟩) (λF eF=>⟨_,_,je kA eF,jc,?_,λp e=>hC _ _ ⟨p,rfl,?_,je (je kB eF) e,(((sb).newAt eF).newAt e)⟩⟩)
    ·have o:=Wp hw;have he:=o.lt _ (Xz o.len);have hh:=o.lt _ (QK o.len);refine⟨_,rfl,_,rfl,_,Ś o.len,_,JL hT he,_,rfl,_,ZB o.len,_,JM (hT.row _ (Sq.getRow hT he)) hh,?_⟩;have nn:=(hT.ent_nn he hh).1;have:(!decide (Ï T (w.getLastD 0) (w.headD 0)=0))=jQ T (w.getLastD 0) (w.headD 0):=by
      unfold jQ;rw [J9,C6,lH,fV];omega
     rw [<-this] at q';exact⟨_,rfl,q'⟩
    ·have:=Q4 (λw=>jQ T (w.getLastD 0) (w.headD 0)) (ã (jQ T) n t);rw [G2,G2];exact S6 (jw (by omega))
    ·rw [jc];show _=some (((Jw (jQ T) n t)++(ã (jQ T) n t).filter λw=>jQ T (w.getLastD 0) (w.headD 0)).map jA);rw [T7]
   clear kA kB sb;rintro _ h5 ⟨A,rfl,kA,kB,sb⟩;refine ET (j:=λh=>h B) (ã (jQ T) n t) jA (λw=>Re T n (w.getLastD 0)) (λ(j:G5)=> .int (j:P1)) (λw j=>decide (w.headD 0<j)&& !decide (j∈w)) (λw j=>jA (w++ [j])) ?_ (λh' s=>s _ _ kB) (λR r=>⟨_,rfl,r⟩) (λw hw h' s R r=> ?_) (λw hw j hj h' s Q' q'=> ?_) (λw hw j hj _ h' s Q' q'=> ?_) (λa h' s ea=> ?_)
   ·rw [Gd,G2];exact S6 (jw (by omega))
   ·have o:=Wp hw;exact⟨_,rfl,_,rfl,_,Ś o.len,T,n,b,w.getLastD 0,rfl,hT,h6,o.lt _ (Xz o.len),λF eF=>r _ _ (Sub.newAt (Sub.refl _) eF) λh3 s3=>s3 _ _ jc⟩
   ·have o:=Wp hw;refine⟨_,rfl,_,rfl,_,ZB o.len,?_⟩;show ∃k,D.bl (decide (((w.headD 0:G5):P1)<(j:P1)))=D.bl k/\_;rw [show decide (((w.headD 0:G5):P1)<(j:P1))=decide (w.headD 0<j) from by rw [J9,C6,C6];omega];refine⟨_,rfl,?_⟩
    by_cases c:w.headD 0<j
    ·rw [D3 c] at q' ⊢;exact JB ⟨_,rfl,_,rfl,RM ⟨_,rfl,q'⟩⟩
    ·rw [D9 c] at q' ⊢;exact wz q'
   ·have o:=Wp hw;have e:jA (w++ [j])= .tup ((w.map λ(k:G5)=>D.int (k:P1))++ [.int (j:P1)]):=by unfold jA;rw [T7];rfl
    rw [e] at q';refine⟨_,rfl,_,rfl,Τ,?_,q'⟩;rw [G2,o.len];exact S6 (jw (by simp only [R1,C4];omega))
   ·rw [Gd];exact⟨n-(t+1),_,by omega,Sub.refl _,t+1,A,a,_,rfl,rfl,by omega,je (s _ _ kA) ea,jc,(((sb).trans s).newAt ea)⟩
 clear kA kB sb;rintro _ h4 ⟨A,B,c,rfl,kA,sb⟩;refine⟨_,rfl,A,(Jw (jQ T) n n).map toI,rfl,?_,?_,λp mss hp pm sr=>⟨_,Sub.refl _,q p _ (yQ sb hp) (by rw [jc,Ux pm sr];rfl) (Sub.newAt sb hp)⟩⟩
 ·rw [kA,N8];exact congrArg some (B6 λS _=>(Uw S).symm)
 ·rw [G2];have:=Ji (g:=jQ T) h6 h6;exact jw (by omega)
/-- Ž greatest number X00 X10 into Ž lengths of all jG -/
def jM (T:G0 (G0 P1))(n:G5):G5:=((jG T n).map O1).foldl bV 0
def XN:RDn:=λds h Q=> ∃T,∃n e:G5,ds= [jP T]/\Sq n e T/\1<=n/\n<=6/\(vP T n).length=1/\Q (.int ((jM T n:G5):P1)) h
def Ob (Z:Zs mg)(F:Þ K "beat" "beat" QY f fd)(VA:jy P w K mg base n "joined" ["table"] Wx)(UV:jy P w K mg base n "all_rounds" ["table"] Jo)(WD:jy P w K mg base n "greatest_into" ["one","other"] yj):È P w K mg base Û (n+1) f fd ["table"] (æ K XN):=by
 refine F.okM Wu (λhr=>(js4 (Ws (wT (wA (jk VA hr (j1 (jv 0))))) Uc) (è 1 Wu ju) (Yi B9 rfl (zG (jk UV hr (j1 (jv 0)))) (ż 2 Wu) (jE (è 1 Wu (jk WD hr (j2 (jv 1) (Wr Z (jv 2))))))) (wj (jv 1)))) ?_;rintro ds h Q ⟨T,n,b,rfl,hT,h1,h6,one,q⟩;refine⟨rfl,?_⟩;refine wu [some (jP T),none,none] (λC hC=>⟨_,rfl,T,n,b,rfl,hT,h1,h6,_,rfl,?_⟩) ?_
 ·rw [D3 one];exact wz (hC)
 refine wu [some (jP T),some (.int 0),none] (λC hC=>hC) ?_;refine jg (λIO h'=> ∃v,IO= [some (jP T),some (.int ((jM T n:G5):P1)),v]/\Sub h h') (λC hC=>⟨_,rfl,T,n,b,rfl,hT,h1,h6,λA h2 nA kA sb=> ?_⟩) (λ_ h' ⟨v,e,sb⟩=>by subst e;exact⟨_,rfl,_,sb,q⟩);refine VW (j:=λh=>h A) ((jG T n).map jA) (λi IO h'=> ∃v,IO= [some (jP T),some (.int (((((jG T n).take i).map O1).foldl bV 0:G5):P1)),v]/\h2=h') (λi IO h' ⟨_,_,z⟩=>by rw [<-z];exact kA) ⟨_,rfl,rfl⟩ (λIO h' ⟨v,e,z⟩=>hC _ _ ⟨v,by rw [e,G2,dO];rfl,by rw [<-z];exact sb⟩) ?_;rintro i d _ _ hi ⟨v,rfl,rfl⟩;rw [P7] at hi;obtain⟨W,hW,rfl⟩:=F8.mp hi;have hil:=(P6.mp hW).1;refine⟨_,rfl,_,rfl,_,_,rfl,_,Sub.refl _,by rw [G2];omega,some (jA W),?_,rfl⟩;rw [E7,hW,T7,List.foldl_append,G2];rfl
def Ge:RDx:=λds h R=> ∃d,ds= [d]/\((okD d=true/\Mr d=false/\R "NoTable" h)\/ ∃T,∃n e:G5,d=jP T/\Sq n e T/\1<=n/\n<=6/\(vP T n).length≠1/\R "Apart" h)
def Bi (Z:Zs mg)(Ex:Exc K mg)(F:Þ K "beat" "beat" QY f fd)(VA:jy P w K mg base n "joined" ["table"] Wx)(ς:vz P w K mg base n "joined" ["table"] Yz):È P w K mg base (Ķ P w) (n+1) f fd ["table"] (Rj mg K Ge):=by
 refine F.okMX Wu (λhr=>(Ez (Sd (jxk ς hr (j1 (jv 0)))) (FP (wT (wA (jk VA hr (j1 (jv 0))))) (Va rfl (Ex.own "Apart" (by decide)) rfl)))) ?_;rintro ds h R ⟨d,rfl,q⟩;refine⟨rfl,?_⟩;rcases q with ⟨ok,bad,q⟩|⟨T,n,b,rfl,hT,h1,h6,no,q⟩
 ·exact .inl ⟨_,rfl,d,rfl,ok,bad,q⟩
 ·refine .inr ⟨_,rfl,T,n,b,rfl,hT,h1,h6,_,rfl,?_⟩;rw [D9 no];exact⟨rfl,q⟩
variable {te:TED}{σ:SD}{h:HD}
def Sl {b:D->SD->SD->Prop}{js:G0 G5}{ti:TID}{tt:TTD}{E:EndsD}(x:yV b js ti tt te σ h λv h1=>E.rt v h1):Pz (yV b js ti tt te) E σ h:=x
def wx:RDn:=λds h Q=> ∃T,∃n e:G5,ds= [jP T]/\Sq n e T/\1<=n/\n<=6/\(vP T n).length=1/\ ∀ (st:G0 G5) (A:G9) (h':HD),st.length=n->(∀j,j<n->RP n T (st.getD j 0) 0 j)->st.getD 0 0=0->h' A=some (st.map λ(k:G5)=>D.int (k:P1))->Sub h h'->Q (.lst A) h'
def vL (Z:Zs mg)(F:Þ K "steps_from_start" "steps_from_start" zC f fd)(UW:jy P w K mg base n "step_after" ["table","some"] Jn):È P w K mg base Û (n+1) f fd ["table"] (æ K wx):=by
 refine F.okM jt (λhr=>(js5 (è 1 jt Sj) (è 2 jt (VE (j1 ju))) (è 3 jt ju) (Ql B9 (ý Nc (yh LU rfl Z.len uG (j1 (jv 1))) (Wr Z (jv 0))) (ο (è 2 jt (jk UW hr (j2 (jv 0) (jv 2)))) (FD (i:=3) jt.nd rfl (K9 rfl) ju) (Yi B9 rfl (zG (jv 2)) (ż 4 jt) (jE (WL (kJ hr (jv 1) (jv 4) (jv 3))))))) (wj (jl0 4 jt (Ņ Z (Wr Z (jv 0))) (λ_ _ _ _=>(kH hr (jv 1) (jv 4))))))) ?_;rintro ds h Q ⟨T,n,b,rfl,hT,n1,n6,one,q⟩;refine⟨rfl,?_⟩;have h8:n<=8:=by omega
 have hlen:(((T.map Jv).length:G5):P1)=(n:P1):=by rw [G2,hT.len]
 refine jg (λIO h'=> ∃a,IO= [some (jP T),some (.dct a),none,none,none]/\h.dc a=none/\h'.dc a=some (.ik [(0,.int 0)])/\Sub h h') (λC hC=>λa ea=>hC _ _ ⟨a,rfl,ea,vT,.newC ea⟩) ?_;rintro _ h1 ⟨a,rfl,fa,ka,sb⟩;refine wu [some (jP T),some (.dct a),some (jA [0]),none,none] (λC hC=>⟨Τ,hC⟩) ?_;refine wu [some (jP T),some (.dct a),some (jA [0]),some (.int 0),none] (λC hC=>hC) ?_;refine jg (λIO h'=> ∃kv s x2 x3 x4,IO= [some (jP T),some (.dct a),x2,x3,x4]/\h'.dc a=some (.ik kv)/\FI n T s s kv/\n<=kv.length/\Sub h h') (λC hC=> ?_) ?_
 ·refine Zv (λm IO h'=> ∃ (kv:G0 (P1×D)) (s:G5) (x4:P5 D),IO= [some (jP T),some (.dct a),some (jA (Ę (yn n T) [0] s)),some (.int (s:P1)),x4]/\m=n-kv.length/\h'.dc a=some (.ik kv)/\FI n T s s kv/\Sub h h') (n-1) ⟨_,0,none,rfl,rfl,ka,.first n1,sb⟩ ?_;clear ka sb;rintro m _ h2 ⟨kv,s,x4,rfl,rfl,ka,g,sb⟩;refine⟨_,rfl,a,kv,rfl,ka,_,rfl,_,rfl,?_⟩;show if decide (((kv.length:G5):P1)<(((T.map Jv).length:G5):P1))=true then _ else _
  rw [hlen];have gl:=g.len
  by_cases full:kv.length<n
  ·rw [D3 (by omega)];refine JB ?_;have isS:ø n (Ę (yn n T) [0] s):=(LV (show 0<n by omega)).it s;refine wu [some (jP T),some (.dct a),some (jA (Ę (yn n T) [0] (s+1))),some (.int (s:P1)),x4] (λC hC=>⟨_,rfl,_,rfl,T,_,n,b,rfl,hT,isS,n6,hC⟩) ?_;refine wu [some (jP T),some (.dct a),some (jA (Ę (yn n T) [0] (s+1))),some (.int ((s+1:G5):P1)),x4] (λC hC=>⟨_,rfl,1,rfl,hC⟩) ?_;have mem:=Mo hT h8 (show 0<n by omega) (s+1);generalize hSe:Ę (yn n T) [0] (s+1)=S at mem;refine yN (j:=λ_=>some (S.map λ(k:G5)=>D.int (k:P1))) (S.map λ(k:G5)=>D.int (k:P1)) (λi IO h'=> ∃ (υ:G0 (P1×D)) (x4:P5 D),IO= [some (jP T),some (.dct a),some (jA S),some (.int ((s+1:G5):P1)),x4]/\h'.dc a=some (.ik υ)/\FI n T s (s+1) υ/\(∀y∈kv.map (·.1),y∈υ.map (·.1))/\(∀j∈S.take i,(j:P1)∈υ.map (·.1))/\Sub h h') (λR r=>⟨_,rfl,r⟩) (λ_ _ _ _=>rfl) ⟨kv,x4,rfl,ka,⟨g.nd,λp hp=>by
    obtain⟨j,v,e1,hj,hv,r⟩:=g.ok p hp;exact⟨j,v,e1,hj,by omega,r⟩,g.all,g.zero⟩,λy hy=>hy,(λj hj=>by rw [dL] at hj;cases hj),sb⟩ ?_ ?_
   ·rintro _ h3 ⟨υ,x4',rfl,ka',g',old,new,sb'⟩;rw [G2,dO] at new;obtain⟨v,hv,rv,vn⟩:=FI.grow hT h8 n1 one g full;have big:kv.length<υ.length:=by
     have:=zP (xs:=(v:P1)::kv.map (·.1)) (ys:=υ.map (·.1)) (K0.mpr ⟨vn,g.nd⟩) λy hy=>by
      rcases D5.mp hy with z|z
      ·rw [z];exact new v ((mem v).mpr ⟨hv,rv⟩)
      ·exact old y z
     rw [R1,G2,G2] at this;omega
    refine⟨n-υ.length,h3,by omega,Sub.refl _,υ,s+1,x4',?_,rfl,ka',⟨g'.nd,g'.ok,λj w hj hw r=> ?_,g'.zero⟩,sb'⟩
    ·rw [hSe]
    ·rcases O4 s w with z|z
     ·rw [show w=s+1 by omega] at r;exact new j ((mem j).mpr ⟨hj,r⟩)
     ·exact g'.all j w hj z r
   ·rintro i d _ h3 hd ⟨υ,x4',rfl,ka',g',old,new,sb'⟩;rw [P7] at hd;obtain⟨j,hj,rfl⟩:=F8.mp hd;have il:i<(S.map λ(k:G5)=>D.int (k:P1)).length:=by rw [G2];exact(P6.mp hj).1
    obtain⟨jn,rj⟩:=(mem j).mp (P9 hj);have tk:S.take (i+1)=S.take i++ [j]:=by rw [E7,hj];rfl
    refine⟨_,rfl,a,υ,rfl,ka',_,rfl,_,rfl,(j:P1),υ,rfl,ka',by have:=g'.len;omega,λd hd=> ?_,λhn=> ?_⟩
    ·refine⟨_,Sub.refl _,by omega,υ,_,rfl,ka',g',old,λx hx=> ?_,sb'⟩;rw [tk] at hx;rcases R4.mp hx with z|z
     ·exact new x z
     ·rw [P0.mp z];exact S9.mpr ⟨_,QV hd,rfl⟩
    ·refine⟨_,Sub.refl _,by omega,_,_,rfl,vT,g'.put hn jn (P3 _) rj,λy hy=>(ZD hn y).mpr (.inl (old y hy)),λx hx=> ?_,sb'.overC fa⟩;rw [tk] at hx;rcases R4.mp hx with z|z
     ·exact(ZD hn _).mpr (.inl (new x z))
     ·rw [P0.mp z];exact(ZD hn _).mpr (.inr rfl)
  ·rw [D9 (by omega)];exact wz (hC _ _ ⟨kv,s,_,_,_,rfl,ka,g,by omega,sb⟩)
 rintro _ h2 ⟨kv,s,x2,x3,x4,rfl,ka',g,fl,sb⟩;have get:=λj hj=>g.get (j:=j) (g.full fl hj)
 refine Sl (lcA (P4 n) (λ(i:G5)=> .int (i:P1)) (λ(i:G5)=>(vc kv (i:P1)).getD .non) (by rw [S7];omega) rfl (λR r=>⟨_,rfl,(n:P1),by rw [hlen],by omega,by omega,r⟩) (λi hi Q' q'=> ?_) λA eA=> ?_)
 ·obtain⟨v,hv,_⟩:=get i (D1.mp hi);rw [hv] at q';exact⟨_,rfl,_,rfl,a,_,kv,_,rfl,rfl,ka',hv,q'⟩
 ·let st:G0 G5:=(P4 n).map λ(j:G5)=>match vc kv (j:P1) with
   |some (.int v)=>v.toNat
   |_=>0
  have at_: ∀j,j<n-> ∃v:G5,vc kv (j:P1)=some (.int (v:P1))/\st.getD j 0=v/\RP n T v 0 j:=λj hj=>by
   obtain⟨v,hv,_,r⟩:=get j hj;refine⟨v,hv,?_,r⟩;show ((P4 n).map _).getD j 0=v;rw [D7,P7,A8 hj];show (match vc kv (j:P1) with|some (.int v)=>v.toNat|_=>0)=v;rw [hv];rfl
  refine⟨_,Sub.refl _,q st A _ (by show ((P4 n).map _).length=n;rw [G2,S7]) (λj hj=>by obtain⟨v,_,e1,r⟩:=at_ j hj;rw [e1];exact r) ?_ ?_ (sb.newAt eA)⟩
  ·obtain⟨v,hv,e1,_⟩:=at_ 0 (by omega);have:=g.zero;rw [show (0:P1)=((0:G5):P1) from rfl,hv] at this;injection this with this
   injection this with this
   rw [e1];omega
  ·rw [jc];show _=some (((P4 n).map _).map _);rw [N8];refine congrArg some (B6 λj hj=> ?_);obtain⟨v,hv,e1,_⟩:=at_ j (D1.mp hj);show (vc kv (j:P1)).getD .non=D.int (((match vc kv (j:P1) with|some (.int v)=>v.toNat|_=>0:G5)):P1);rw [hv];rfl
/-- turns: a rest for each place,X00 go on by one along arrows -/
structure ģ (T:G0 (G0 P1))(n d:G5)(rs:G0 G5):Prop where
 len:rs.length=n
 lt: ∀j,j<n->rs.getD j 0<d
 go: ∀i j,i<n->j<n->Ï T i j≠0->rs.getD j 0=(rs.getD i 0+1)%d
variable {Q:KD}
def Bj {b:D->SD->SD->Prop}{js:G0 G5}{ti:TID}{tt:TTD}(x:ti σ h λj h1=>ħ yZ (zu (yV b js (λ_ _ R=>R j h1) tt te) WF) σ h1 Q):ħ yZ (zu (yV b js ti tt te) WF) σ h Q:=x
def YA (h6:n<=6)(nz:jM T n≠0):1<=jM T n/\jM T n<=6:=by
 have ne:jG T n≠ []:=λz=>nz (by show ((jG T n).map O1).foldl bV 0=0;rw [z];rfl)
 obtain⟨w,hw⟩:=lB _ ne;obtain⟨s,hs,o,_⟩:=Uz hw;have dv:jM T n∣w.length:=((Ve ((jG T n).map O1) 0 (jM T n)).mp (i0 _)).2 _ (aG hw);have:=lU (by rw [o.len];omega) dv;have:=o.len;omega
def Wy:RDn:=λds h Q=> ∃T,∃n e:G5,ds= [jP T]/\Sq n e T/\1<=n/\n<=6/\(vP T n).length=1/\jM T n≠0/\ ∀ (rs:G0 G5) (h':HD),ģ T n (jM T n) rs->rs.getD 0 0=0->Sub h h'->Q (.tup [.int ((jM T n:G5):P1),jA rs]) h'
def XO (Z:Zs mg)(F:Þ K "turns_of" "turns_of" yT f fd)(Mw:jy P w K mg base n "beat" ["table"] XN)(Jt:jy P w K mg base n "steps_from_start" ["table"] wx):È P w K mg base Û (n+1) f fd ["table"] (æ K Wy):=by
 refine F.okM ww (λhr=>(ο (è 1 ww (jk Mw hr (j1 (jv 0)))) (Ws (ý ê (jv 1) ju) Uc) (wj (VE (j2 (jv 1) (zI wN rfl Z.tuple (by decide +kernel) (j1 (jl0 2 ww (zG (jk Jt hr (j1 (jv 0)))) (λ_ _ _ _=>(ç wC (jv 2) (jv 1))))))))))) ?_;rintro ds h Q ⟨T,n,b,rfl,hT,n1,n6,one,nz,q⟩;refine⟨rfl,?_⟩;obtain⟨b1,b6⟩:=YA n6 nz;refine wu [some (jP T),some (.int ((jM T n:G5):P1)),none] (λC hC=>⟨_,rfl,T,n,b,rfl,hT,n1,n6,one,hC⟩) ?_;refine wu [some (jP T),some (.int ((jM T n:G5):P1)),none] (λC hC=>⟨_,rfl,_,rfl,?_⟩) ?_
 ·show if decide (((jM T n:G5):P1)=0)=true then _ else _
  rw [D9 (by omega)];exact wz (hC)
 refine⟨_,rfl,Bj ⟨_,rfl,T,n,b,rfl,hT,n1,n6,one,λst A h' sl sr s0 kA sb=> ?_⟩⟩;refine HY (j:=λh=>h A) st (λ(k:G5)=> .int (k:P1)) (λ(k:G5)=> .int ((k%jM T n:G5):P1)) (by omega) kA (λR r=>r) (λk hk Q' q'=>⟨_,rfl,_,rfl,by omega,?_⟩) ⟨sz2,h,sb,?_⟩
 ·rw [<-dS];exact q'
 ·have at_: ∀j,(st.map λk=>k%jM T n).getD j 0=st.getD j 0%jM T n:=λj=>by
   rw [D7,D7,P7];cases st[j]? with
   |none=>rw [Option.map_none];exact(xX _).symm
   |some x=>rfl
  have:=q (st.map λk=>k%jM T n) h ⟨by rw [G2];exact sl,λj hj=>by rw [at_];exact W8 _ b1,λi j hi hj ar=>by
   rw [at_,at_,Nat.mod_add_mod];exact Bf hT (by omega) one hi hj n1 (sr i hi) (sr j hj) ar (i0 (jM T n))⟩ (by rw [at_,s0];exact xX _) (Sub.refl h)
  unfold jA at this;rw [N8] at this;exact this
def Zg:RDx:=λds h R=> ∃d,ds= [d]/\((okD d=true/\Mr d=false/\R "NoTable" h)\/ ∃T,∃n e:G5,d=jP T/\Sq n e T/\1<=n/\n<=6/\(((vP T n).length≠1/\R "Apart" h)\/((vP T n).length=1/\jM T n=0/\R "Apart" h)))
def UL (Z:Zs mg)(Ex:Exc K mg)(F:Þ K "turns_of" "turns_of" yT f fd)(Mw:jy P w K mg base n "beat" ["table"] XN)(X0o:vz P w K mg base n "beat" ["table"] Ge):È P w K mg base (Ķ P w) (n+1) f fd ["table"] (Rj mg K Zg):=by
 refine F.okMX ww (λhr=>(Ez (Ep (jxk X0o hr (j1 (jv 0)))) (FO (JS.nox (è 1 ww (jk Mw hr (j1 (jv 0))))) (FP (ý ê (jv 1) ju) (Va rfl (Ex.own "Apart" (by decide)) rfl))))) ?_;rintro ds h R ⟨d,rfl,q⟩;refine⟨rfl,?_⟩;rcases q with ⟨ok,bad,q⟩|⟨T,n,b,rfl,hT,h1,h6,⟨no,q⟩|⟨one,b0,q⟩⟩
 ·exact .inl ⟨_,rfl,d,rfl,.inl ⟨ok,bad,q⟩⟩
 ·exact .inl ⟨_,rfl,_,rfl,.inr ⟨T,n,b,rfl,hT,h1,h6,no,q⟩⟩
 ·refine .inr ⟨_,rfl,T,n,b,rfl,hT,h1,h6,one,_,rfl,?_⟩;show ∃k,D.bl (decide (((jM T n:G5):P1)=0))= .bl k/\_;rw [b0];exact⟨_,rfl,rfl,q⟩
def Zh:RDn:=λds h Q=> ∃ns k,ds= [.scr ns,.int k]/\0<=k/\ ∀n,Q (.int n) h
def UM (Z:Zs mg)(F:Þ K "_law_cell" "_law_cell" vF f fd):È P w K mg base Û (n+1) f fd ["_law_script","_law_k"] (æ K Zh):=by
 refine F.okM UH (λhr=>(js2 (Ws (ý Nc (jv 1) (Wr Z (jv 0))) (wj (à (jv 0) (jv 1)))) (wj ju))) ?_;rintro ds h Q ⟨ns,k,rfl,h0,q⟩;refine⟨rfl,?_⟩;simp only [vp,Fa,JD,ľ,Ds,jZ,N4,W4,R1,C4,Q1,O2,cH,U0,aA,ħ,zu,WF,Om,BH,D.bl.injEq,Pz,ixD,Xg,bL,Xn,dC];refine WJ (λc=> ?_) (λ_=>⟨h,Sub.refl h,q 0⟩);have c':k<(ns.length:P1):=L8 c;have hk:k.toNat<ns.length:=by omega
 have ek:k=((k.toNat:G5):P1):=by omega
 have z:=zH (G8 hk);rw [<-ek] at z;exact⟨ns[k.toNat],z,h,Sub.refl h,q _⟩
def Wz:RDn:=λds h Q=> ∃c,ds= [.int c]/\ ∀p l fl,h p=none->0<=l->(fl=0\/fl=1)->Q (.lst p) (zF h p [.int l,.int fl])
def XQ (Z:Zs mg)(F:Þ K "_law_pen" "_law_pen" JY f fd):È P w K mg base Û (n+1) f fd ["_law_cell_here"] (æ K Wz):=by
 refine F.okM Wv (λhr=>(js2 (è 1 Wv (yh (AR rfl) rfl Z.max (by decide +kernel) (j2 (jv 0) (ç Yf ju (jv 0))))) (wj (JH (j2 (jv 1) (zI BK rfl Z.int (by decide +kernel) (j1 (jc1 Fn (jv 1) (ç BI ju ju))))))))) ?_;rintro ds h Q ⟨c,rfl,q⟩;refine⟨rfl,?_⟩;simp only [vp,BG,ħ,zu,Ds,jZ,N4,W4,R1,C4,B2,Q1,O2,U0,aA,ľ,dC,HM,WF,TF,Pz,Al,List.set_cons_succ,List.set_cons_zero,cH,HP,BH,TD,Xg,bL];refine⟨⟨by decide,by decide,by decide⟩,by decide,λp hp=>⟨_,Sub.refl _,q p _ _ hp ?_ ?_⟩⟩
 ·split<;>omega
 ·split<;>simp<;>omega
def zQ:RDn:=λds h Q=> ∃p l fl m,ds= [.lst p,.int m]/\h p=some [.int l,.int fl]/\0<=l/\0<m/\m<2^200/\ ∀r l',0<=r->r<m->0<=l'->Q (.int r) (zF h p [.int l',.int fl])
def UN (Z:Zs mg)(F:Þ K "_law_draw" "_law_draw" vG f fd):È P w K mg base Û (n+1) f fd ["_law_pen_here","_law_many"] (æ K zQ):=by
 refine F.okM wH (λhr=>(js5 (On (ý ê (à (jv 0) ju) ju) (ο (Fw (yh GH rfl Z.divmod (by decide +kernel) (j2 (à (jv 0) ju) (jv 1))) (Yh (i:=2) (j:=3) rfl wH.nd rfl rfl (K9 rfl) (K9 rfl))) (Fw (jv 2) (Ub (jv 0) ju)) (wj (jv 3))) Qk) (è 4 wH (ç wC (ç YS (ç za (ç wC (à (jv 0) ju) ju) ju) ju) ju)) (è 4 wH (ç wC (ç za (ç YS (jv 4) (jv 4)) ju) ju)) (Fw (ç wC (ç za (ç YS (jv 4) ju) ju) ju) (Ub (jv 0) ju)) (wj (ç wC (ç Fm (à (jv 0) ju) ju) (jv 1))))) ?_;rintro ds h Q ⟨p,l,fl,m,rfl,hp,h0,hm,hm2,q⟩;refine⟨rfl,?_⟩;refine wu [some (.lst p),some (.int m),none,none,none] (λC hC=>⟨_,rfl,_,_,hp,rfl,?_⟩) ?_
 ·show ∃k,D.bl (decide (fl=1))= .bl k/\_;refine⟨_,rfl,WJ (λ_=> ?_) λ_=>hC⟩;exact⟨_,rfl,_,_,hp,rfl,_,rfl,_,_,rfl,⟨hm,hm2⟩,_,_,rfl,_,rfl,_,rfl,p,0,_,0,rfl,rfl,hp,rfl,_,rfl,_,Sub.refl _,q (l%m) (l / m) (iO _ (xY hm)) (kX _ hm) (Int.ediv_nonneg h0 (xO hm))⟩
 refine jg (λIO h'=> ∃z:P1,IO= [some (.lst p),some (.int m),none,none,some (.int z)]/\(0<=z/\z<2147483629)/\h=h') (λC hC=>⟨_,rfl,_,_,hp,rfl,by decide,.inr ⟨by decide,by decide⟩,by decide,hC _ _ ⟨_,rfl,⟨iO _ (by decide),kX _ (by decide)⟩,rfl⟩⟩) ?_;rintro _ _ ⟨z,rfl,⟨z0,z1⟩,rfl⟩;refine jg (λIO h'=> ∃y:P1,IO= [some (.lst p),some (.int m),none,none,some (.int y)]/\h=h') (λC hC=>⟨_,rfl,_,rfl,.inl ⟨pH (by decide) z0,Int.lt_trans z1 (by decide)⟩,by decide,hC _ _ ⟨_,rfl,rfl⟩⟩) ?_;rintro _ _ ⟨y,rfl,rfl⟩;refine jg (λIO h'=> ∃x:P1,IO= [some (.lst p),some (.int m),none,none,some (.int y)]/\0<=x/\h'=zF h p [.int x,.int fl]) (λC hC=>⟨_,rfl,.inr ⟨by decide,by decide⟩,by decide,_,rfl,p,0,_,0,rfl,rfl,hp,rfl,hC _ _ ⟨_,rfl,iO _ (by decide),rfl⟩⟩) ?_;rintro _ _ ⟨x,rfl,x0,rfl⟩;exact⟨_,rfl,_,_,jc,rfl,⟨by decide,by decide⟩,_,rfl,hm,_,Sub.refl _,q (x / 32%m) x (iO _ (xY hm)) (kX _ hm) x0⟩
def Vr (Z:Zs mg)(F:Þ K "_law_whole" "_law_whole" yC f fd):È P w K mg base Û (n+1) f fd ["_law_thing"] (æ K yc):=by
 refine F.okM Vm (λhr=>(jE (wj (Fu (Ua (T:= "int") (by decide) rfl Z.isinstance rfl Z.int (by decide +kernel) (jv 0)) (MD (HV (Ua (T:= "bool") (by decide) rfl Z.isinstance rfl Z.bool (by decide +kernel) (jv 0)))))))) ?_;rintro ds h Q ⟨d,nm,rfl,hn,q⟩;refine⟨rfl,?_⟩;simp only [Pz,Du,dIs,Ds,jZ,N4,W4,R1,C4,Q1,O2,U0,aA,D.bl.injEq,Dv,Xg,bL,hn];cases d<;>cases hn<;>exact⟨h,Sub.refl h,q⟩
noncomputable def Po (c:Str)(n:G5):G0 D:=((Ũ.map λd=>c==d).take n).map D.bl
noncomputable def Bk (c:Str):G0 aV:=(Ũ.map λd=>c==d).map rZ
noncomputable def X0h:G0 D:=(["table","place","number","order","set","walk","lengths","way","apart","row","tables","text","great"]:G0 Str).map D.str
theorem Mv: ∀bs:G0 M7,Ĝ h (bs.map D.bl) (bs.map rZ)
 | []=>rfl
 |b::bs=>⟨_,_,rfl,rfl,Mv bs⟩
variable {j:G5}
def zf {l:G0 M7}(h:(l.take j).all (!·)=true){m:G5}{y:aV}(hm:m<j)(e:(l.map rZ)[m]? =some y):O5 y (.bool true)=false:=by
 rw [P7] at e;obtain⟨b,e1,rfl⟩:=F8.mp e;have:=N9.mp h b (P9 (i:=m) (by rw [Y4 hm];exact e1));cases b with
 |true=>cases this
 |false=>rfl
def Hm {c:Str}(hc:c∈CN): ∃j:G5,j<10/\(Bk c)[j]? =some (.bool true)/\(∀m y,m<j->(Bk c)[m]? =some y->O5 y (.bool true)=false)/\Ċ X0h (j:P1)=some (D.str (vX c))/\((Bk c).countP λz=>O5 z (.bool true))=1:=by
 simp only [CN,D5,H0,or_false] at hc;rcases hc with rfl|rfl|rfl|rfl|rfl|rfl|rfl|rfl|rfl|rfl
 ·exact⟨0,by decide,rfl,λm y=>zf rfl,rfl,rfl⟩
 ·exact⟨1,by decide,rfl,λm y=>zf rfl,rfl,rfl⟩
 ·exact⟨2,by decide,rfl,λm y=>zf rfl,rfl,rfl⟩
 ·exact⟨3,by decide,rfl,λm y=>zf rfl,rfl,rfl⟩
 ·exact⟨4,by decide,rfl,λm y=>zf rfl,rfl,rfl⟩
 ·exact⟨5,by decide,rfl,λm y=>zf rfl,rfl,rfl⟩
 ·exact⟨6,by decide,rfl,λm y=>zf rfl,rfl,rfl⟩
 ·exact⟨7,by decide,rfl,λm y=>zf rfl,rfl,rfl⟩
 ·exact⟨8,by decide,rfl,λm y=>zf rfl,rfl,rfl⟩
 ·exact⟨9,by decide,rfl,λm y=>zf rfl,rfl,rfl⟩
def Vs (Z:Zs mg)(Ex:Exc K mg)(F:Þ K "_law_kind" "_law_kind" vH f fd):đ P w K mg base Û (n+1) f fd ["_law_e"] (æ K (Ro mg)):=by
 obtain⟨D_NoOrder,ņ⟩:=Ex.cls "NoOrder" (by decide);obtain⟨D_NoNumber,ĭ⟩:=Ex.cls "NoNumber" (by decide);obtain⟨D_NoPlace,Ň⟩:=Ex.cls "NoPlace" (by decide);obtain⟨D_NoTable,ň⟩:=Ex.cls "NoTable" (by decide);obtain⟨D_NoLengths,Ě⟩:=Ex.cls "NoLengths" (by decide);obtain⟨D_NoWalk,Ų⟩:=Ex.cls "NoWalk" (by decide);obtain⟨D_NoSet,Υ⟩:=Ex.cls "NoSet" (by decide);obtain⟨D_NoRow,Φ⟩:=Ex.cls "NoRow" (by decide);obtain⟨D_Apart,Χ⟩:=Ex.cls "Apart" (by decide);obtain⟨D_NoWay,Ψ⟩:=Ex.cls "NoWay" (by decide);obtain⟨D_TooGreat,Į⟩:=Ex.cls "TooGreat" (by decide);obtain⟨D_NoText,ų⟩:=Ex.cls "NoText" (by decide);obtain⟨D_NoTables,į⟩:=Ex.cls "NoTables" (by decide);refine F.okJU zt (λds h Q q=>by obtain⟨c,C,e,hc,hm,q⟩:=q;subst e;rfl) _ (λË A outer s H E hr=>(js7 (è 1 zt (JH (j4 (GN rfl Z.isinstance rfl ň (jv 0)) (GN rfl Z.isinstance rfl Ň (jv 0)) (GN rfl Z.isinstance rfl ĭ (jv 0)) (GN rfl Z.isinstance rfl ņ (jv 0))))) (è 1 zt (ç za (jv 1) (JH (j3 (GN rfl Z.isinstance rfl Υ (jv 0)) (GN rfl Z.isinstance rfl Ų (jv 0)) (GN rfl Z.isinstance rfl Ě (jv 0)))))) (è 1 zt (ç za (jv 1) (JH (j3 (GN rfl Z.isinstance rfl Ψ (jv 0)) (GN rfl Z.isinstance rfl Χ (jv 0)) (GN rfl Z.isinstance rfl Φ (jv 0)))))) (è 1 zt (ç za (jv 1) (JH (j3 (GN rfl Z.isinstance rfl į (jv 0)) (GN rfl Z.isinstance rfl ų (jv 0)) (GN rfl Z.isinstance rfl Į (jv 0)))))) (Ws (Ź (Gy (wT (wA (kq (T:= "ValueError") rfl Z.isinstance rfl Ex.ve (by decide +kernel) (jv 0)))) (MC (ý ë (ko hr.units (jv 1) ŝ) ju)))) (wj Yg)) (è 2 zt (JH (ĝ Yg (by exact(ĝ Yg (by exact(ĝ Yg (by exact(ĝ Yg (by exact(ĝ Yg (by exact(ĝ Yg (by exact(j4 Yg Yg Yg Yg))))))))))))))) (wj (à (ç za (jv 2) (JH (j3 Yg Yg Yg))) (kg hr.units (jv 1) ŝ))))) ?_;intro ds h Q q;obtain⟨c,C,e,hc,hm,q⟩:=q;subst e;have kit: ∀d∈Ũ,∀D,mg d=some (.ref D)->j0 K (.ref C) (.ref D)=some (c==d):=λd hd D hD=>Ex.kit c hc d hd C D hm hD
 have ek:=Ex.ek c hc C hm;have kv:=Ex.val c hc C hm;refine jg (λIO h'=> ∃p,IO= [some (.exc C),some (.lst p),none]/\Sub h h'/\h' p=some (Po c 4)) (λC2 hC=>⟨_,rfl,C,_,rfl,ek,kit _ (by decide) _ ň,_,rfl,C,_,rfl,ek,kit _ (by decide) _ Ň,_,rfl,C,_,rfl,ek,kit _ (by decide) _ ĭ,_,rfl,C,_,rfl,ek,kit _ (by decide) _ ņ,sz4,λp e=>hC _ _ ⟨p,rfl,Sub.newAt (Sub.refl h) e,jc⟩⟩) ?_;rintro _ h1 ⟨p,rfl,sb,k1⟩;refine jg (λIO h'=> ∃p,IO= [some (.exc C),some (.lst p),none]/\Sub h h'/\h' p=some (Po c 7)) (λC2 hC=>⟨_,rfl,_,rfl,C,_,rfl,ek,kit _ (by decide) _ Υ,_,rfl,C,_,rfl,ek,kit _ (by decide) _ Ų,_,rfl,C,_,rfl,ek,kit _ (by decide) _ Ě,sz3,λp2 e2=>⟨_,_,je k1 e2,jc,(by show 7<=sizeLine;decide),λp3 e3=>hC _ _ ⟨p3,rfl,Sub.newAt (Sub.newAt sb e2) e3,jc⟩⟩⟩) ?_;rintro _ h1 ⟨p,rfl,sb,k1⟩;refine jg (λIO h'=> ∃p,IO= [some (.exc C),some (.lst p),none]/\Sub h h'/\h' p=some (Po c 10)) (λC2 hC=>⟨_,rfl,_,rfl,C,_,rfl,ek,kit _ (by decide) _ Ψ,_,rfl,C,_,rfl,ek,kit _ (by decide) _ Χ,_,rfl,C,_,rfl,ek,kit _ (by decide) _ Φ,sz3,λp2 e2=>⟨_,_,je k1 e2,jc,(by show 10<=sizeLine;decide),λp3 e3=>hC _ _ ⟨p3,rfl,Sub.newAt (Sub.newAt sb e2) e3,jc⟩⟩⟩) ?_;rintro _ h1 ⟨p,rfl,sb,k1⟩;refine jg (λIO h'=> ∃p,IO= [some (.exc C),some (.lst p),none]/\Sub h h'/\h' p=some (Po c 13)) (λC2 hC=>⟨_,rfl,_,rfl,C,_,rfl,ek,kit _ (by decide) _ į,_,rfl,C,_,rfl,ek,kit _ (by decide) _ ų,_,rfl,C,_,rfl,ek,kit _ (by decide) _ Į,sz3,λp2 e2=>⟨_,_,je k1 e2,jc,(by show 13<=sizeLine;decide),λp3 e3=>hC _ _ ⟨p3,rfl,Sub.newAt (Sub.newAt sb e2) e3,jc⟩⟩⟩) ?_;rintro _ h1 ⟨p,rfl,sb,k1⟩;have hpG: ∀h':HD,h' p=some (Po c 13)->ė h' (.lst p) (.list (Bk c)):=λh' k=>⟨p,_,rfl,k,Mv _⟩
 obtain⟨j,hj,hz,hno,hw,X11⟩:=Hm hc;refine wu [some (.exc C),some (.lst p),none] (λC2 hC=>⟨_,rfl,C,_,rfl,ek,kv,_,rfl,wz ⟨_,rfl,p,rfl,.bool true,_,hpG h1 k1,rfl,rfl,rfl,by simp [aO],_,rfl,?_⟩⟩) ?_
 ·rw [X11];exact wz (hC)
 refine jg (λIO h'=> ∃w,IO= [some (.exc C),some (.lst p),some (.lst w)]/\Sub h1 h'/\h' p=some (Po c 13)/\h' w=some (X0h.take 10)) (λC2 hC=>⟨(by show 10<=sizeLine;decide),λw e=>hC _ _ ⟨w,rfl,Sub.newAt (Sub.refl h1) e,je k1 e,jc⟩⟩) ?_;rintro _ h2 ⟨w,rfl,sb2,kp2,kw⟩;exact⟨_,rfl,sz3,λp4 e4=>⟨_,_,je kw e4,jc,(by show 13<=sizeLine;decide),λp5 e5=>⟨_,rfl,p,rfl,.bool true,_,j,_,hpG _ (je (je kp2 e4) e5),rfl,rfl,rfl,by simp [aO],by omega,hz,rfl,hno,_,_,jc,hw,_,Sub.refl _,q _ (Sub.newAt (Sub.newAt (sb.trans sb2) e4) e5)⟩⟩⟩
def Oc (Z:Zs mg)(Ex:Exc K mg)(F:Þ K "_law_said" "_law_said" vI f fd)(CU:Rk P w K mg base n "_law_kind" ["_law_e"] (Ro mg)):Ń P w K mg base Û (n+2) f fd ["_law_call"] (Qn P w K mg base n):=by
 obtain⟨gU,gdU,GU,bGU,kGU,mGU⟩:=CU;obtain⟨pe,hpe,hex⟩:=Ex.pe;refine FW F Zm rfl rfl rfl rfl rfl hpe hex _ (λË A outer s H E x hr=>jH (HW (i:=3) Zm.nd rfl (K9 rfl) (Et GU hr rfl mGU kGU bGU (ĝ (jv 2) zO))) (jH (On (Gw (Ei hr.units) (jv 3) (VE (ĝ Yg (ĝ Yg zO))) (by with_unfolding_all rfl)) (jE Uc) Qk) (jH (On (Gw ê (jv 3) Yg (PX _)) (jE Uc) Qk) (jE (wj (VE (ĝ (jv 3) zO))))))) ?_;intro c hc C h Qd hm q;refine⟨_,rfl,c,C,rfl,hc,hm,λh' sb=> ?_⟩;refine⟨_,rfl,(by show 2<=sizeLine;decide),.str (vX c),[.str "tables",.str "text"],rfl,.inr ⟨_,rfl,⟨_,_,rfl,rfl,_,_,rfl,rfl,rfl⟩⟩,?_,by decide +kernel,by simp [aO],_,rfl,?_⟩
 ·simp only [CN,D5,H0,or_false] at hc;rcases hc with rfl|rfl|rfl|rfl|rfl|rfl|rfl|rfl|rfl|rfl<;>decide +kernel
 have e1:((false !=List.any [G0l "tables",G0l "text"] λz=>O5 z (.str (vX c))))=false:=by
  simp only [CN,D5,H0,or_false] at hc;rcases hc with rfl|rfl|rfl|rfl|rfl|rfl|rfl|rfl|rfl|rfl<;>rfl
 rw [e1];refine wz ⟨_,rfl,_,rfl,?_⟩;have e2:decide (vX c= "great")=false:=by
  simp only [CN,D5,H0,or_false] at hc;rcases hc with rfl|rfl|rfl|rfl|rfl|rfl|rfl|rfl|rfl|rfl<;>rfl
 rw [e2];exact wz ⟨_,rfl,(by show 1<=sizeLine;decide),h,sb,q⟩
def Zi:RDn:=λds h Q=> ∃p l fl,ds= [.lst p]/\h p=some [.int l,.int fl]/\0<=l/\ ∀ (k:G5) l',1<=k->k<=6->0<=l'->Q (.int (k:P1)) (zF h p [.int l',.int fl])
def UO (Z:Zs mg)(F:Þ K "_law_size" "_law_size" vJ f fd)(jq:jy P w K mg base n "_law_draw" ["_law_pen_here","_law_many"] zQ):È P w K mg base Û (n+1) f fd ["_law_pen_here"] (æ K Zi):=by
 refine F.okM UI (λhr=>(jE (wj (à (JH (ĝ ju (by exact(ĝ ju (by exact(ĝ ju (by exact(ĝ ju (by exact(ĝ ju (by exact(ĝ ju (by exact(ĝ ju (by exact(ĝ ju (by exact(j4 ju ju ju ju)))))))))))))))))) (jk jq hr (j2 (jv 0) ju)))))) ?_;rintro ds h Q ⟨p,l,fl,rfl,hp,h0,q⟩;refine⟨rfl,?_⟩;simp only [Pz,ľ,Al,zu,dC,WF,R1,C4,ħ,Ds,jZ,N4,W4,Q1,O2,U0,aA,ixD,Xg,bL];refine⟨by decide,λp1 e1=>⟨p,l,fl,12,rfl,je hp e1,h0,by decide,by decide,λr l' r0 r1 l0=> ?_⟩⟩;obtain⟨d,hd,ed⟩:=JF (xs:= [D.int 1,D.int 2,D.int 3,D.int 4,D.int 5,D.int 3,D.int 4,D.int 2,D.int 6,D.int 5,D.int 4,D.int 3]) r0 r1;refine⟨_,d,jh (jp hp e1) jc,ed,_,Sub.both (Sub.newAt (Sub.refl h) e1),?_⟩;have q': ∀k:G5,1<=k->k<=6->Q (.int (k:P1)) (zF h p [.int l',.int fl]):=λk a b=>q k l' a b l0
 simp only [D5,H0,or_false] at hd;rcases hd with e|e|e|e|e|e|e|e|e|e|e|e<;>subst e
 ·exact q' 1 (by decide) (by decide)
 ·exact q' 2 (by decide) (by decide)
 ·exact q' 3 (by decide) (by decide)
 ·exact q' 4 (by decide) (by decide)
 ·exact q' 5 (by decide) (by decide)
 ·exact q' 3 (by decide) (by decide)
 ·exact q' 4 (by decide) (by decide)
 ·exact q' 2 (by decide) (by decide)
 ·exact q' 6 (by decide) (by decide)
 ·exact q' 5 (by decide) (by decide)
 ·exact q' 4 (by decide) (by decide)
 ·exact q' 3 (by decide) (by decide)
def we:RDn:=λds h Q=> ∃p l fl,∃k:G5,ds= [.lst p,.int (k:P1)]/\h p=some [.int l,.int fl]/\0<=l/\1<=k/\k<=6/\ ∀T l',Đ k T->0<=l'->Q (jP T) (zF h p [.int l',.int fl])
def Vt (Z:Zs mg)(F:Þ K "_law_table" "_law_table" yD f fd)(jq:jy P w K mg base n "_law_draw" ["_law_pen_here","_law_many"] zQ):È P w K mg base Û (n+1) f fd ["_law_pen_here","_law_size_here"] (æ K we):=by
 refine F.okM jz (λhr=>(js5 (HX (i:=2) (j:=3) rfl jz.nd rfl rfl (by decide) rfl rfl (j2 (jk jq hr (j2 (jv 0) ju)) (à (JH (j3 ju ju ju)) (jk jq hr (j2 (jv 0) ju)))) rfl) (è 4 jz (à (JH (j4 ju ju ju (ç BI ju ju))) (jk jq hr (j2 (jv 0) ju)))) (è 5 jz (JH zO)) (Yi B9 rfl (Ņ Z (jv 1)) (ż 6 jz) (ο (è 7 jz (JH zO)) (Yi B9 rfl (Ņ Z (jv 1)) (ż 8 jz) (js5 (è 9 jz (jc1 ê (jk jq hr (j2 (jv 0) (jv 3))) ju)) (Ws (ý Nc (jv 2) ju) (è 9 jz (jor (jc1 ê (jv 8) (ç wC (ç za (jv 6) ju) (jv 1))) (MD (Fu (jv 9) (MD (jc1 (VX hr.units) (jk jq hr (j2 (jv 0) ju)) (jv 2)))))))) (Ws (ý ê (jv 2) ju) (è 9 jz (jor (Fu (jv 9) (MD (jc1 ê (ç wC (ç Yf (jv 8) (jv 6)) ju) ju))) (MD (jc1 (VX hr.units) (jv 8) (ç za (jv 6) ju)))))) (Ws (ý ê (jv 2) ju) (è 9 jz (Fu (jv 9) (MD (jc1 Fn (jv 8) (jv 6)))))) (WL (Oo (jv 7) (ç YS (zI BK rfl Z.int (by decide +kernel) (j1 (jv 9))) (ç za ju (jk jq hr (j2 (jv 0) (jv 4))))))))) (WL (Oo (jv 5) (zI ô rfl Z.tuple (by decide +kernel) (j1 (jv 7))))))) (wj (zI ô rfl Z.tuple (by decide +kernel) (j1 (jv 5)))))) ?_;rintro ds h Q ⟨p,l,fl,k,rfl,hp,h0,hk1,hk6,q⟩;refine⟨rfl,?_⟩;refine jg (λIO h'=> ∃way o l2,IO= [some (.lst p),some (.int (k:P1)),some (.int way),some (.int o),none,none,none,none,none,none]/\0<o/\o<1000/\0<=l2/\h' p=some [.int l2,.int fl]/\ì p h h') (λC hC=>⟨_,rfl,p,l,fl,6,rfl,hp,h0,by decide,by decide,λway l1 w0 w1 l10=>⟨sz3,λp1 e1=>⟨_,rfl,p,l1,fl,3,rfl,je jc e1,l10,by decide,by decide,λr l2 r0 r1 Ι=> ?_⟩⟩⟩) ?_
 ·obtain⟨χ,ho,eo⟩:=JF (xs:= [D.int 2,D.int 3,D.int 5]) r0 r1;obtain⟨o,e,o1,o2⟩: ∃o:P1,χ= .int o/\0<o/\o<1000:=by
   simp only [D5,H0,or_false] at ho;rcases ho with e|e|e<;>exact⟨_,e,by decide,by decide⟩
  subst e;exact⟨_,_,jh (jp jc e1) jc,eo,_,_,rfl,hC _ _ ⟨way,o,l2,rfl,o1,o2,Ι,jc,((ì.upd).new e1).put⟩⟩
 rintro _ h1 ⟨way,o,l2,rfl,o1,o2,Ι,kA,bA⟩;refine jg (λIO h'=> ∃m l3,IO= [some (.lst p),some (.int (k:P1)),some (.int way),some (.int o),some (.int m),none,none,none,none,none]/\0<m/\m<=1000000/\0<=l3/\h' p=some [.int l3,.int fl]/\ì p h h') (λC hC=>⟨⟨by decide,by decide,by decide⟩,sz4,λp1 e1=>⟨_,rfl,p,l2,fl,4,rfl,je kA e1,Ι,by decide,by decide,λr l3 r0 r1 ψ=> ?_⟩⟩) ?_
 ·obtain⟨most,ho,eo⟩:=JF (xs:= [D.int 1,D.int 1,D.int 3,D.int (10^oN 6)]) r0 r1;obtain⟨m,e,m1,m2⟩: ∃o:P1,most= .int o/\0<o/\o<=1000000:=by
   simp only [D5,H0,or_false] at ho;rcases ho with e|e|e|e<;>exact⟨_,e,by decide,by decide⟩
  subst e;exact⟨_,_,jh (jp kA e1) jc,eo,hC _ _ ⟨m,l3,rfl,m1,m2,ψ,jc,(bA.new e1).put⟩⟩
 clear kA bA;rintro _ h2 ⟨m,l3,rfl,m1,m2,ψ,kB,bB⟩;refine jg (λIO h'=> ∃R,IO= [some (.lst p),some (.int (k:P1)),some (.int way),some (.int o),some (.int m),some (.lst R),none,none,none,none]/\R≠p/\h R=none/\h' R=some []/\h' p=some [.int l3,.int fl]/\ì p h h') (λC hC=>⟨sz0,λR eR=>hC _ _ ⟨R,rfl,jp kB eR,YT bB eR (jp kB eR),jc,je kB eR,bB.new eR⟩⟩) ?_;clear kB bB;rintro _ h3 ⟨R,rfl,nR,fR,kR,kC,bC⟩;refine jg (λIO h'=> ∃a b c d l4 rows,IO= [some (.lst p),some (.int (k:P1)),some (.int way),some (.int o),some (.int m),some (.lst R),a,b,c,d]/\0<=l4/\h' p=some [.int l4,.int fl]/\h' R=some (rows.map Jv)/\ì p h h'/\Đ k rows) (λC hC=> ?_) (λIO h' ⟨a,b,c,d,l4,rows,e,l40,kD,kE,bD,g⟩=>by subst e;exact⟨_,rfl,_,kE,_,bD.sub kD,q rows l4 g l40⟩);refine zT k (λi IO h'=> ∃a b c d l4 rows,IO= [some (.lst p),some (.int (k:P1)),some (.int way),some (.int o),some (.int m),some (.lst R),a,b,c,d]/\0<=l4/\h' p=some [.int l4,.int fl]/\h' R=some (rows.map Jv)/\ì p h h'/\rows.length=i/\ ∀r∈rows,wU k r) (by omega) (λR' r=>⟨_,rfl,r⟩)
  ⟨none,none,none,none,l3,[],rfl,ψ,kC,kR,bC,rfl,λr hr=>nomatch hr⟩ (λIO h' z=>hC _ _ z) ?_
 clear kC kR bC;rintro i _ h4 hi ⟨a,b,c,d,l4,rows,rfl,l40,kD,kE,bD,g1,g2⟩;refine jg (λIO h'=> ∃S,IO= [some (.lst p),some (.int (k:P1)),some (.int way),some (.int o),some (.int m),some (.lst R),some (.int (i:P1)),some (.lst S),c,d]/\S≠p/\S≠R/\h S=none/\h' S=some []/\h' p=some [.int l4,.int fl]/\h' R=some (rows.map Jv)/\ì p h h') (λC hC=>⟨sz0,λS eS=>hC _ _ ⟨S,rfl,jp kD eS,jp kE eS,YT bD eS (jp kD eS),jc,je kD eS,je kE eS,bD.new eS⟩⟩) ?_;clear kD kE bD;rintro _ h5 ⟨S,rfl,nS,nSR,fS,kS,kD,kE,bD⟩;refine jg (λIO h'=> ∃c d l5 row,IO= [some (.lst p),some (.int (k:P1)),some (.int way),some (.int o),some (.int m),some (.lst R),some (.int (i:P1)),some (.lst S),c,d]/\0<=l5/\h' p=some [.int l5,.int fl]/\h' R=some (rows.map Jv)/\h' S=some (row.map D.int)/\ì p h h'/\wU k row) (λC hC=> ?_) ?_
 rotate_left
 ·rintro _ h6 ⟨c,d,l5,row,rfl,l50,kD,kE,kF,bD,g⟩;refine⟨_,rfl,R,rfl,_,rfl,_,kF,_,kE,?_,_,Sub.refl _,by omega,_,_,_,_,l5,rows++ [row],rfl,l50,jh (U6 nR) kD,?_,bD.putNew fR,by rw [D0,g1];rfl,?_⟩
  ·rw [G2];exact V8 (show rows.length<=1000 by omega) (by decide)
  ·rw [jc,T7];rfl
  ·intro r hr;rcases R4.mp hr with z|z
   ·exact g2 r z
   ·rw [P0.mp z];exact g
 refine zT k (λj IO h'=> ∃c d l5 row,IO= [some (.lst p),some (.int (k:P1)),some (.int way),some (.int o),some (.int m),some (.lst R),some (.int (i:P1)),some (.lst S),c,d]/\0<=l5/\h' p=some [.int l5,.int fl]/\h' R=some (rows.map Jv)/\h' S=some (row.map D.int)/\ì p h h'/\row.length=j/\ ∀x∈row,0<=x/\x<=1000000) (by omega) (λR' r=>⟨_,rfl,r⟩)
  ⟨_,_,l4,[],rfl,l40,kD,kE,kS,bD,rfl,λr hr=>nomatch hr⟩ (λIO h' z=>hC _ _ z) ?_
 clear kD kE kS bD;rintro j _ h6 hj ⟨c,d,l5,row,rfl,l50,kD,kE,kF,bD,g1',g2'⟩;refine jg (λIO h'=> ∃ (g:M7) (l6:P1),IO= [some (.lst p),some (.int (k:P1)),some (.int way),some (.int o),some (.int m),some (.lst R),some (.int (i:P1)),some (.lst S),some (.int (j:P1)),some (.bl g)]/\0<=l6/\h' p=some [.int l6,.int fl]/\h' R=some (rows.map Jv)/\h' S=some (row.map D.int)/\ì p h h') (λC hC=>⟨_,rfl,_,rfl,p,l5,fl,o,rfl,kD,l50,o1,by omega,λr l6 r0 r1 Ĕ=>hC _ _ ⟨_,l6,rfl,Ĕ,jc,jh nR kE,jh nS kF,bD.put⟩⟩) ?_;clear kD kE kF bD;rintro _ _ ⟨g,l6,rfl,Ĕ,kD,kE,kF,bD⟩;refine jg (λIO h'=> ∃ (g:M7) (l6:P1),IO= [some (.lst p),some (.int (k:P1)),some (.int way),some (.int o),some (.int m),some (.lst R),some (.int (i:P1)),some (.lst S),some (.int (j:P1)),some (.bl g)]/\0<=l6/\h' p=some [.int l6,.int fl]/\h' R=some (rows.map Jv)/\h' S=some (row.map D.int)/\ì p h h') (λC hC=>⟨_,rfl,_,rfl,WJ (λ_=>⟨_,rfl,_,rfl,_,rfl,by omega,_,rfl,WJ (λ_=>hC _ _ ⟨_,l6,rfl,Ĕ,kD,kE,kF,bD⟩) λ_=>⟨_,rfl,_,rfl,WJ (λ_=>⟨_,rfl,p,l6,fl,2,rfl,kD,Ĕ,by decide,by decide,λr l7 r0 r1 l70=>⟨_,rfl,hC _ _ ⟨_,l7,rfl,l70,jc,jh nR kE,jh nS kF,bD.put⟩⟩⟩) λ_=>hC _ _ ⟨_,l6,rfl,Ĕ,kD,kE,kF,bD⟩⟩⟩) λ_=>hC _ _ ⟨_,l6,rfl,Ĕ,kD,kE,kF,bD⟩⟩) ?_;clear kD kE kF bD;rintro _ _ ⟨g,l6,rfl,Ĕ,kD,kE,kF,bD⟩;refine jg (λIO h'=> ∃ (g:M7) (l6:P1),IO= [some (.lst p),some (.int (k:P1)),some (.int way),some (.int o),some (.int m),some (.lst R),some (.int (i:P1)),some (.lst S),some (.int (j:P1)),some (.bl g)]/\0<=l6/\h' p=some [.int l6,.int fl]/\h' R=some (rows.map Jv)/\h' S=some (row.map D.int)/\ì p h h') (λC hC=>⟨_,rfl,_,rfl,WJ (λ_=>⟨_,rfl,_,rfl,WJ (λ_=>⟨_,rfl,_,rfl,by decide,_,rfl,WJ (λ_=>hC _ _ ⟨_,l6,rfl,Ĕ,kD,kE,kF,bD⟩) λ_=>⟨_,rfl,_,rfl,hC _ _ ⟨_,l6,rfl,Ĕ,kD,kE,kF,bD⟩⟩⟩) λ_=>⟨_,rfl,WJ (λ_=>hC _ _ ⟨_,l6,rfl,Ĕ,kD,kE,kF,bD⟩) λ_=>⟨_,rfl,_,rfl,hC _ _ ⟨_,l6,rfl,Ĕ,kD,kE,kF,bD⟩⟩⟩⟩) λ_=>hC _ _ ⟨_,l6,rfl,Ĕ,kD,kE,kF,bD⟩⟩) ?_;clear kD kE kF bD;rintro _ _ ⟨g,l6,rfl,Ĕ,kD,kE,kF,bD⟩;refine jg (λIO h'=> ∃ (g:M7) (l6:P1),IO= [some (.lst p),some (.int (k:P1)),some (.int way),some (.int o),some (.int m),some (.lst R),some (.int (i:P1)),some (.lst S),some (.int (j:P1)),some (.bl g)]/\0<=l6/\h' p=some [.int l6,.int fl]/\h' R=some (rows.map Jv)/\h' S=some (row.map D.int)/\ì p h h') (λC hC=>⟨_,rfl,_,rfl,WJ (λ_=>⟨_,rfl,_,rfl,WJ (λ_=>⟨_,rfl,_,rfl,hC _ _ ⟨_,l6,rfl,Ĕ,kD,kE,kF,bD⟩⟩) λ_=>hC _ _ ⟨_,l6,rfl,Ĕ,kD,kE,kF,bD⟩⟩) λ_=>hC _ _ ⟨_,l6,rfl,Ĕ,kD,kE,kF,bD⟩⟩) ?_;clear kD kE kF bD;rintro _ _ ⟨g,l6,rfl,Ĕ,kD,kE,kF,bD⟩;have gi: ∀x r:P1,0<=r->r<m->x=0\/x=1->X0u x (1+r)/\0<=x*(1+r)/\x*(1+r)<=1000000:=λx r r0 r1 hx=>by
  rcases hx with e|e<;>subst e
  ·exact⟨.inl ⟨by decide,by decide⟩,by omega,by omega⟩
  ·exact⟨.inl ⟨by decide,by decide⟩,by omega,by omega⟩
 refine⟨_,rfl,S,rfl,_,rfl,_,rfl,_,rfl,p,l6,fl,m,rfl,kD,Ĕ,m1,by omega,λr l7 r0 r1 l70=> ?_⟩;have gg:=gi (if g=true then 1 else 0) r r0 r1 (by cases g<;>decide);refine⟨gg.1,_,jh nS kF,?_,_,Sub.refl _,by omega,_,_,l7,row++ [(if g=true then 1 else 0)*(1+r)],rfl,l70,jh (U6 nS) jc,jh (U6 nSR) (jh nR kE),?_,(bD.put).putNew fS,by rw [D0,g1'];rfl,?_⟩
 ·rw [G2];exact V8 (show row.length<=1000 by omega) (by decide)
 ·rw [jc,T7];rfl
 ·intro x hx;rcases R4.mp hx with z|z
  ·exact g2' x z
  ·rw [P0.mp z];exact gg.2
def Jp:RDn:=λds h Q=> ∃T S,∃n e:G5,ds= [jP T,jA S]/\Sq n e T/\ø n S/\n<=6/\Q (jA (yn n T S)) h
def Vu (Z:Zs mg)(F:Þ K "_law_after" "_law_after" yE f fd):È P w K mg base Û (n+1) f fd ["_law_table_here","_law_some"] (æ K Jp):=by
 refine F.okM wb (λhr=>(js2 (è 2 wb (Wr Z (jv 0))) (wj (zI wN rfl Z.tuple (by decide +kernel) (j1 (jl1 3 wb (Ņ Z (jv 2)) (λ_ _ _ _=>(ý Gt (yh (Rb rfl) rfl Z.max (by decide +kernel) (j1 (ç za (JH (j1 ju)) (jl0 4 wb (zG (jv 1)) (λ_ _ _ _=>(à (à (jv 0) (jv 4)) (jv 3))))))) ju)) (λ_ _ _ _=>(jv 3)))))))) ?_;rintro ds h Q ⟨T,S,k,b,rfl,hT,hS,h6,q⟩;refine⟨rfl,?_⟩;have hlen:=hS.len;refine jg (λIO h'=>IO= [some (jP T),some (jA S),some (.int (k:P1)),none,none]/\h=h') (λC hC=>⟨_,rfl,hC _ _ ⟨by rw [G2,hT.len];rfl,rfl⟩⟩) ?_;rintro _ _ ⟨rfl,rfl⟩;refine Fy (P4 k) (λj=> .int (j:P1)) (λj=> .int (j:P1)) (λj=>S.any λi=>decide (Ï T i j≠0)) (by rw [S7];omega) rfl (λR r=>⟨_,rfl,(k:P1),rfl,by omega,by omega,r⟩) (λj hj Q' q'=> ?_) (λj hj hp Q' q'=>⟨_,rfl,q'⟩) ⟨h,Sub.refl h,q⟩;refine⟨Τ,λp1 e1=> ?_⟩;refine lcA S (λi=> .int (i:P1)) (λi=> .int (Ï T i j)) (by omega) rfl (λR r=>⟨_,rfl,r⟩) (λi hi Q'' q''=> ?_) (λp2 e2=> ?_)
 ·have â:=hS.lt hi;exact⟨_,rfl,_,rfl,_,JL hT â,_,rfl,_,JM (hT.row _ (Sq.getRow hT â)) (D1.mp hj),q''⟩
 ·refine⟨_,_,je jc e2,jc,?_,λp3 e3=> ?_⟩
  ·simp only [G2,R1,C4];exact S6 (jw (by omega))
  refine⟨0::S.map (λi=>Ï T i j),h,by simp,Sub.newAt (Sub.newAt (Sub.newAt (Sub.refl h) e1) e2) e3,.inr ⟨p3,rfl,?_⟩,λm m1 m2=>⟨_,rfl,?_⟩⟩
  ·rw [jc,N4,N8];rfl
  ·show Q' (decide (m>0)) h;rw [GF hT hS (D1.mp hj) m1 m2];exact q'
def Jq:RDn:=λds h Q=> ∃p l fl,∃k:G5,ds= [.lst p,.int (k:P1)]/\h p=some [.int l,.int fl]/\0<=l/\k<=6/\ ∀o l',ĩ k o->0<=l'->Q (jA o) (zF h p [.int l',.int fl])
def Vv (Z:Zs mg)(F:Þ K "_law_order" "_law_order" yF f fd)(jq:jy P w K mg base n "_law_draw" ["_law_pen_here","_law_many"] zQ):È P w K mg base Û (n+1) f fd ["_law_pen_here","_law_many"] (æ K Jq):=by
 refine F.okM wY (λhr=>(ο (è 2 wY (JH zO)) (Yi B9 rfl (Ņ Z (jv 1)) (ż 3 wY) (jE (WL (KY (jv 2) (jk jq hr (j2 (jv 0) (ç za (jv 3) ju))) (jv 3))))) (wj (zI ô rfl Z.tuple (by decide +kernel) (j1 (jv 2)))))) ?_;rintro ds h Q ⟨p,l,fl,k,rfl,hp,h0,hk,q⟩;refine⟨rfl,?_⟩;refine jg (λIO h'=> ∃R,IO= [some (.lst p),some (.int (k:P1)),some (.lst R),none]/\R≠p/\h R=none/\h' R=some []/\h' p=some [.int l,.int fl]/\ì p h h') (λC hC=> ?_) ?_
 ·exact⟨sz0,λR eR=>hC _ _ ⟨R,rfl,jp hp eR,eR,jc,je hp eR,(ì.refl p h).new eR⟩⟩
 rintro IO h1 ⟨R,rfl,nR,fR,kR,kp,bt⟩;refine jg (λIO h'=> ∃a l2 o,IO= [some (.lst p),some (.int (k:P1)),some (.lst R),a]/\0<=l2/\ĩ k o/\h' R=some (o.map λ(i:G5)=>D.int (i:P1))/\h' p=some [.int l2,.int fl]/\ì p h h') (λC hC=> ?_) ?_
 ·refine zT k (λi IO h'=> ∃a l2 o,IO= [some (.lst p),some (.int (k:P1)),some (.lst R),a]/\0<=l2/\ĩ i o/\h' R=some (o.map λ(i:G5)=>D.int (i:P1))/\h' p=some [.int l2,.int fl]/\ì p h h') (by omega) (λR' r=>⟨_,rfl,r⟩) ⟨none,l,[],rfl,h0,G0Y,kR,kp,bt⟩ (λIO h' z=>hC _ _ z) ?_;rintro i _ h2 hi ⟨a,l2,o,rfl,Ι,ho,kR2,kp2,bt2⟩;refine⟨_,rfl,R,rfl,_,rfl,_,rfl,p,l2,fl,(i:P1)+1,rfl,kp2,Ι,by omega,by omega,λr l3 r0 r1 ψ=> ?_⟩;have lo:o.length=i:=ho.ord.len;refine⟨_,rfl,r.toNat,_,by rw [Int.toNat_of_nonneg r0],by omega,jh nR kR2,?_,_,Sub.refl _,by omega,_,l3,o.take r.toNat++i::o.drop r.toNat,rfl,ψ,ho.insert r.toNat,?_,jh (U6 nR) jc,(bt2.put).putNew fR⟩
  ·rw [G2];exact V8 (show o.length<=1000 by omega) (by decide)
  ·rw [jc,T7,N4,o0,o3]
 rintro _ h3 ⟨a,l2,o,rfl,Ι,ho,kR3,kp3,bt3⟩;exact⟨_,rfl,_,kR3,_,bt3.sub kp3,q o l2 ho Ι⟩
def Hn {i:G5}(hi:i<n):ø n [i]:=by
 refine⟨λj=>decide (j=i),?_⟩;have e:(P4 n).filter (λj=>decide (j=i))= [i]:=by
  induction n with
  |zero=>omega
  |succ n ih=>
   rw [A5,J6]
   by_cases z:i<n
   ·rw [ih z,Q9 (by rw [C6];omega)];rfl
   ·have e:i=n:=by omega
    subst e;rw [cP.mpr λj hj=>by have:=D1.mp hj;rw [C6];omega,Q8 (by rw [C6])];rfl
 exact e.symm
def WA:RDn:=λds h Q=> ∃T,∃n e:G5,ds= [jP T]/\Sq n e T/\n<=6/\ ∀A h',h A=none->h' A=some ((P4 n).map λp=>jA (ğ n T [p]))->Sub h h'->Q (.lst A) h'
def XR (Z:Zs mg)(F:Þ K "_law_far" "_law_far" JZ f fd)(UR:jy P w K mg base n "_law_after" ["_law_table_here","_law_some"] Jp):È P w K mg base Û (n+1) f fd ["_law_table_here"] (æ K WA):=by
 refine F.okM zK (λhr=>(ο (è 1 zK (JH zO)) (Yi B9 rfl (Ņ Z (Wr Z (jv 0))) (ż 2 zK) (ο (è 3 zK (VE (j1 (jv 2)))) (Yi B9 rfl (Ņ Z (Wr Z (jv 0))) (ż 4 zK) (jE (è 3 zK (zI ô rfl Z.tuple (by decide +kernel) (j1 (jss rfl rfl Z.sorted rfl Z.set (j1 (ç za (jv 3) (jk UR hr (j2 (jv 0) (jv 3))))))))))) (WL (Oo (jv 1) (jv 3))))) (wj (jv 1)))) ?_;rintro ds h Q ⟨T,n,b,rfl,hT,h6,q⟩;refine⟨rfl,?_⟩;have two: ∀X Y:G0 G5,(X.map λ(k:G5)=>D.int (k:P1))++(Y.map λ(k:G5)=>D.int (k:P1))=((X++Y).map λ(j:G5)=>(j:P1)).map D.int:=λX Y=>by rw [N8,T7];rfl
 refine jg (λIO h'=> ∃A,IO= [some (jP T),some (.lst A),none,none,none]/\h A=none/\Sub h h'/\h' A=some []) (λC hC=>⟨sz0,λA eA=>hC _ _ ⟨A,rfl,eA,Sub.newAt (Sub.refl h) eA,jc⟩⟩) ?_;rintro _ h1 ⟨A,rfl,nA,sb,kA⟩;refine jg (λIO h'=> ∃u v w,IO= [some (jP T),some (.lst A),u,v,w]/\Sub h h'/\h' A=some ((P4 n).map λp=>jA (ğ n T [p]))) (λC hC=> ?_) ?_
 ·refine zT n (λk IO h'=> ∃u v w,IO= [some (jP T),some (.lst A),u,v,w]/\Sub h h'/\h' A=some ((P4 k).map λp=>jA (ğ n T [p]))) (by omega) (λR r=>⟨_,rfl,by show R [.int (((T.map Jv).length:G5):P1)] _;rw [G2,hT.len];exact r⟩) ⟨_,_,_,rfl,sb,kA⟩ (λIO h' z=>hC _ _ z) ?_;clear sb kA;rintro k _ h2 hk ⟨u,v,w,rfl,sb,kA⟩;refine wu [some (jP T),some (.lst A),some (.int (k:P1)),some (jA [k]),w] (λC hC=>⟨_,rfl,Τ,hC⟩) ?_;have iS:=Hn hk;refine jg (λIO h'=> ∃w,IO= [some (jP T),some (.lst A),some (.int (k:P1)),some (jA (ğ n T [k])),w]/\Sub h h'/\h' A=some ((P4 k).map λp=>jA (ğ n T [p]))) (λC hC=> ?_) ?_
  ·refine zT n (λi IO h'=> ∃w,IO= [some (jP T),some (.lst A),some (.int (k:P1)),some (jA (Ę (Ď n T) [k] i)),w]/\Sub h h'/\h' A=some ((P4 k).map λp=>jA (ğ n T [p]))) (by omega) (λR r=>⟨_,rfl,by show R [.int (((T.map Jv).length:G5):P1)] _;rw [G2,hT.len];exact r⟩) ⟨_,rfl,sb,kA⟩ (λIO h' ⟨w,e,s,z⟩=>hC _ _ ⟨w,by rw [e,LQ hT iS],s,z⟩) ?_;clear sb kA;rintro i _ h3 hi ⟨w,rfl,sb,kA⟩;have hS:=wW (T:=T) iS i;have hS':=ø.step (n:=n) T (Ę (Ď n T) [k] i);have l1:=hS.len;have l2:=hS'.len;refine⟨_,rfl,_,rfl,_,rfl,T,Ę (Ď n T) [k] i,n,b,rfl,hT,hS,h6,?_,_,.inl (congrArg (λx=> [D.tup x]) (two _ _)),?_,λp ks hp r m=>⟨_,jc,?_⟩⟩
   ·rw [G2,G2];exact S6 (jw (by omega))
   ·rw [G2,D0];omega
   ·rw [Lc hS hS' r m];exact⟨_,Sub.refl _,by omega,_,by rw [N8];rfl,sb.newAt hp,je kA hp⟩
  clear sb kA;rintro _ h4 ⟨w,rfl,sb,kA⟩;refine⟨_,rfl,A,rfl,_,rfl,_,kA,?_,_,Sub.refl _,by omega,_,_,_,rfl,sb.over nA,?_⟩
  ·rw [G2,S7];exact jw (by omega)
  ·rw [jc,A5,T7];rfl
 rintro _ h4 ⟨u,v,w,rfl,sb4,k4⟩;exact⟨_,rfl,_,Sub.refl _,q A h4 nA k4 sb4⟩
def vf:RDn:=λds h Q=> ∃T,∃n e:G5,ds= [jP T]/\Sq n e T/\n<=6/\ ∀A h',h A=none->h' A=some ((vP T n).map jA)->Sub h h'->Q (.lst A) h'
def WR (Z:Zs mg)(F:Þ K "_law_pieces" "_law_pieces" wZ f fd)(Pp:jy P w K mg base n "_law_far" ["_law_table_here"] WA):È P w K mg base Û (n+1) f fd ["_law_table_here"] (æ K vf):=by
 refine F.okM ze (λhr=>(js4 (è 1 ze (jk Pp hr (j1 (jv 0)))) (è 2 ze (JH zO)) (Yi B9 rfl (Ņ Z (Wr Z (jv 0))) (ż 3 ze) (jE (WL (Oo (jv 2) (zI wN rfl Z.tuple (by decide +kernel) (j1 (jl1 4 ze (zG (à (jv 1) (jv 3))) (λ_ _ _ _=>(Gw (Ei hr.units) (jv 3) (à (jv 1) (jv 4)) (by with_unfolding_all rfl))) (λ_ _ _ _=>(jv 4))))))))) (wj (jst hr rfl rfl Z.sorted rfl Z.set (j1 (jv 2)))))) ?_;rintro ds h Q ⟨T,n,b,rfl,hT,h6,q⟩;refine⟨rfl,?_⟩;refine jg (λIO h'=> ∃F,IO= [some (jP T),some (.lst F),none,none,none]/\Sub h h'/\h' F=some ((P4 n).map λp=>jA (ğ n T [p]))) (λC hC=>⟨_,rfl,T,n,b,rfl,hT,h6,λF h' nF kF sb=>hC _ _ ⟨F,rfl,sb,kF⟩⟩) ?_;rintro _ h1 ⟨F,rfl,sb,kF⟩;refine jg (λIO h'=> ∃A,IO= [some (jP T),some (.lst F),some (.lst A),none,none]/\h1 A=none/\Sub h1 h'/\h' A=some []) (λC hC=>⟨sz0,λA eA=>hC _ _ ⟨A,rfl,eA,Sub.newAt (Sub.refl h1) eA,jc⟩⟩) ?_;rintro _ h2 ⟨A,rfl,nA,sb2,kA⟩;have atF: ∀k,k<n->Ċ ((P4 n).map λp=>jA (ğ n T [p])) (k:P1)=some (jA (ğ n T [k])):=λk hk=>zH (by rw [P7,A8 hk];rfl)
 refine jg (λIO h'=> ∃u v,IO= [some (jP T),some (.lst F),some (.lst A),u,v]/\Sub h1 h'/\h' A=some ((P4 n).map λp=>jA (û T n p))) (λC hC=> ?_) ?_
 ·refine zT n (λk IO h'=> ∃u v,IO= [some (jP T),some (.lst F),some (.lst A),u,v]/\Sub h1 h'/\h' A=some ((P4 k).map λp=>jA (û T n p))) (by omega) (λR r=>⟨_,rfl,by show R [.int (((T.map Jv).length:G5):P1)] _;rw [G2,hT.len];exact r⟩) ⟨_,_,rfl,sb2,kA⟩ (λIO h' z=>hC _ _ z) ?_;clear sb2 kA;rintro k _ h3 hk ⟨u,v,rfl,sb2,kA⟩;have kF3:=sb2 _ _ kF;refine⟨_,rfl,A,rfl,Fy (j:=λ_=>some ((ğ n T [k]).map λ(i:G5)=>D.int (i:P1))) (ğ n T [k]) (λ(i:G5)=> .int (i:P1)) (λ(i:G5)=> .int (i:P1)) (λi=>decide (k∈ğ n T [i])) (by have:=(RN n T [k]).len;omega) rfl (λR r=>⟨_,rfl,_,rfl,_,_,kF3,atF k hk,r⟩) (λi hi Q' q'=>⟨_,rfl,_,rfl,_,rfl,_,_,kF3,atF i ((RN n T [k]).lt hi),Lk ⟨_,rfl,q'⟩⟩) (λi hi z Q' q'=>⟨_,rfl,q'⟩) ?_⟩;rw [Sf hk];refine⟨_,kA,?_,_,Sub.refl _,by omega,_,_,rfl,sb2.over nA,?_⟩
  ·rw [G2,S7];exact jw (by omega)
  ·rw [jc,A5,T7];rfl
 rintro _ h4 ⟨u,v,rfl,sb4,k4⟩;refine⟨_,rfl,A,(P4 n).map (λp=>toI (û T n p)),rfl,?_,by rw [G2,S7];omega,λp kss hp r m=>⟨_,Sub.refl _,q p _ ?_ ?_ ?_⟩⟩
 ·rw [k4,N8];exact congrArg some (B6 λS _=>(Uw _).symm)
 ·exact yQ sb (yQ sb4 hp)
 ·rw [jc,Pf r m,N8];exact congrArg some (B6 λS _=>Uw S)
 ·exact(((sb).trans sb4).newAt hp)
noncomputable def WB (d:D)(n k:P1):M7:=match d with
 | .tup es=>decide ((es.length:P1)=n)&&es.all (λx=>zn x 0 (k-1))
 |_=>false
def zX (d:D)(j:G5):P1:=match d with
 | .tup es=>(match es.getD j .non with| .int x=>x|_=>0)
 |_=>0
noncomputable def Cg (T:G0 (G0 P1))(n:G5)(x:D)(k:P1):M7:=(P4 n).all λp=>(Re T n p).all λj=>decide (zX x j=(zX x p+1)%k)
/-- turns of a table,whatever both are -/
def Sm (T:G0 (G0 P1))(n:G5)(d x:D):M7:=match d with
 | .int k=>zn (.int k) 1 6&&(WB x n k&&Cg T n x k)
 |_=>false
variable {k:P1}
def Bl {es:G0 D}{n:P1}(h:WB (.tup es) n k=true):(es.length:P1)=n/\ ∀j:G5,j<es.length-> ∃r:P1,Ċ es (j:P1)=some (.int r)/\zX (.tup es) j=r/\0<=r/\r<=k-1:=by
 have h':(decide ((es.length:P1)=n)&&es.all (λx=>zn x 0 (k-1)))=true:=h;rw [B8,C6,N9] at h';refine⟨h'.1,λj hj=> ?_⟩;have w:=h'.2 es[j] (L0 hj);cases e:es[j] with
 |int r=>
  rw [e] at w;have w':(decide ((0:P1)<=r)&&decide (r<=k-1))=true:=w;rw [B8,C6,C6] at w';refine⟨r,zH (by rw [G8 hj,e]),?_,w'.1,w'.2⟩;unfold zX;dsimp only;rw [D7,G8 hj,e];rfl
 |_=>rw [e] at w;cases w
/-- a number of turns and a rest for each place -/
def XS (T:G0 (G0 P1))(n:G5)(d:D):M7:=match d with
 | .tup [a,x]=>Sm T n a x
 |_=>false
def Sn {es:G0 D}(h:((es.length:G5):P1)=2): ∃a x,es= [a,x]:=by
 cases es with
 |nil=>cases h
 |cons a r=>cases r with
  |nil=>cases h
  |cons x r=>cases r with
   |nil=>exact⟨a,x,rfl⟩
   |cons y r=>simp only [R1] at h;omega
def Bn {es:G0 D}(h: ¬ ((es.length:G5):P1)=2):XS T n (.tup es)=false:=by
 unfold XS;split
 ·rename_i e;injection e with e;rw [e] at h;exact absurd rfl h
 ·rfl
def Gf {a b:P1}(k0:0<k)(b0:0<=b)(b1:b<=k-1):((b-a-1)%k=0)↔b=(a+1)%k:=by
 have eb:b%k=b:=Int.emod_eq_of_lt b0 (by omega);rw [show b-a-1=b-(a+1) by omega,<-Int.emod_eq_emod_iff_emod_sub_eq_zero,eb]
def Κ {p:G5}:j∈Re T n p↔j<n/\Ï T p j>0:=by unfold Re;rw [C3,D1,C6]
def Od {x:D}{p:G5}(hp:p<n)(hj:j<n)(ha:Ï T p j>0)(h: ¬zX x j=(zX x p+1)%k):Cg T n x k=false:=by
 cases c:Cg T n x k with
 |false=>rfl
 |true=>exact absurd (L8 (N9.mp (N9.mp c p (D1.mpr hp)) j (Κ.mpr ⟨hj,ha⟩))) h
def Gg {x:D}(h: ∀p j,p<n->j<n->Ï T p j>0->zX x j=(zX x p+1)%k):Cg T n x k=true:=
 N9.mpr λp hp=>N9.mpr λj hj=>D3 (h p j (D1.mp hp) (Κ.mp hj).1 (Κ.mp hj).2)
def Jr:RDn:=λds h Q=> ∃T d,∃n e:G5,ds= [jP T,d]/\Sq n e T/\1<=n/\n<=6/\okD d=true/\Q (.bl (XS T n d)) h
def Vw (Z:Zs mg)(F:Þ K "_law_turns" "_law_turns" yG f fd)(Zk:jy P w K mg base n "_law_whole" ["_law_thing"] yc):È P w K mg base Û (n+1) f fd ["_law_table_here","_law_thing"] (æ K Jr):=by
 refine F.okM zE (λhr=>(js6 (Ws (Ź (Gy (wT (wA (Ua (T:= "tuple") (by decide) rfl Z.isinstance rfl Z.tuple (by decide +kernel) (jv 1)))) (Gy (ý ë (Wr Z (jv 1)) ju) (Gy (wT (wA (jk Zk hr (j1 (à (jv 1) ju))))) (MC (wT (DM DB DB ju (à (jv 1) ju) ju))))))) (wj ŝ)) (Fw (jv 1) (Yh (i:=2) (j:=3) rfl zE.nd rfl rfl (by first|exact bG rfl|exact K9 rfl) (K9 rfl))) (Ws (Ź (Gy (wT (wA (Ua (T:= "tuple") (by decide) rfl Z.isinstance rfl Z.tuple (by decide +kernel) (jv 3)))) (MC (ý ë (Wr Z (jv 3)) (Wr Z (jv 0)))))) (wj ŝ)) (Ws (wT (wA (yh (DH rfl) rfl Z.all gQ (j1 (jl0 8 zE (zG (jv 3)) (λ_ _ _ _=>(Fu (jk Zk hr (j1 (jv 8))) (MD (Eg DB Nc ju (jv 8) (jv 2)))))))))) (wj ŝ)) (Yi B9 rfl (Wa rfl Z.enumerate (j1 (jv 0))) (Yh (i:=4) (j:=5) rfl zE.nd rfl rfl (K9 rfl) (K9 rfl)) (jE (Yi B9 rfl (Wa rfl Z.enumerate (j1 (jv 5))) (Yh (i:=6) (j:=7) rfl zE.nd rfl rfl (K9 rfl) (K9 rfl)) (jE (Ws (Ź (Xr (ý Gt (jv 7) ju) (Gx (ý ë (ç wC (ç Yf (ç Yf (à (jv 3) (jv 6)) (à (jv 3) (jv 4))) ju) (jv 2)) ju)))) (wj ŝ)))))) (wj ŝ))) ?_;rintro ds h Q ⟨T,d,n,b,rfl,hT,h1,h6,ok,q⟩;refine⟨rfl,?_⟩;have hlen:(((T.map Jv).length:G5):P1)=(n:P1):=by rw [G2,hT.len]
 obtain⟨nm,hn⟩:=yb ok;cases d with
 |tup es=>
  cases hn;obtain⟨hl,ht⟩:=Vn ok;refine jg (λIO h'=>(∃k x,es= [.int k,x]/\1<=k/\k<=6)/\IO= [some (jP T),some (.tup es),none,none,none,none,none,none,none]/\h=h') (λC hC=>⟨_,rfl,"tuple",rfl,_,rfl,wz ⟨_,rfl,_,rfl,?_⟩⟩) ?_
  ·show if (!decide (((es.length:G5):P1)=2))=true then _ else _
   by_cases z:((es.length:G5):P1)=2
   ·rw [D3 z];obtain⟨a,x,rfl⟩:=Sn z;obtain⟨na,hna⟩:=yb (ht a (by simp));refine wz ⟨_,rfl,_,rfl,a,na,rfl,hna,_,rfl,?_⟩;cases a with
    |int k=>
     refine wz ⟨_,rfl,_,rfl,_,rfl,?_⟩;show if decide ((1:P1)<=k)=true then _ else _
     by_cases c1:(1:P1)<=k
     ·rw [D3 c1];refine JB ⟨_,rfl,?_⟩;show if (!decide (k<=6))=true then _ else _
      by_cases c2:k<=6
      ·rw [D3 c2];exact wz (hC _ _ ⟨⟨k,x,rfl,c1,c2⟩,rfl,rfl⟩)
      ·rw [D9 c2];have e:XS T n (.tup [.int k,x])=false:=by
        show ((decide ((1:P1)<=k)&&decide (k<=6))&&_)=false;rw [D9 c2,dI,dE]
       rw [e] at q;exact JB ⟨h,Sub.refl h,q⟩
     ·rw [D9 c1];have e:XS T n (.tup [.int k,x])=false:=by
       show ((decide ((1:P1)<=k)&&decide (k<=6))&&_)=false;rw [D9 c1,dE,dE]
      rw [e] at q;exact wz ⟨_,rfl,JB ⟨h,Sub.refl h,q⟩⟩
    |_=>exact JB ⟨h,Sub.refl h,q⟩
   ·rw [D9 z];rw [Bn z] at q;exact JB ⟨h,Sub.refl h,q⟩
  rintro _ _ ⟨⟨k,x,rfl,k1,k6⟩,rfl,rfl⟩;have w6:zn (.int k) 1 6=true:=by show (decide ((1:P1)<=k)&&decide (k<=6))=true;rw [D3 k1,D3 k6];rfl
  have e0:XS T n (.tup [.int k,x])=(WB x n k&&Cg T n x k):=by show (zn (.int k) 1 6&&_)=_;rw [w6];rfl
  rw [e0] at q;refine wu [some (jP T),some (.tup [.int k,x]),some (.int k),some x,none,none,none,none,none] (λC hC=>⟨_,rfl,_,_,rfl,hC⟩) ?_;have okx:=ht x (by simp);obtain⟨nx,hnx⟩:=yb okx;cases x with
  |tup rs=>
   cases hnx;obtain⟨hrl,hrt⟩:=Vn okx;refine jg (λIO h'=>((rs.length:G5):P1)=n/\IO= [some (jP T),some (.tup [.int k,.tup rs]),some (.int k),some (.tup rs),none,none,none,none,none]/\h=h') (λC hC=>⟨_,rfl,"tuple",rfl,_,rfl,wz ⟨_,rfl,_,rfl,_,rfl,?_⟩⟩) ?_
   ·show if (!decide (((rs.length:G5):P1)=(((T.map Jv).length:G5):P1)))=true then _ else _
    rw [hlen]
    by_cases z:((rs.length:G5):P1)=n
    ·rw [D3 z];exact wz (hC _ _ ⟨z,rfl,rfl⟩)
    ·rw [D9 z];have e:WB (.tup rs) n k=false:=by show (decide _&&_)=false;rw [D9 z];rfl
     rw [e] at q;exact JB ⟨h,Sub.refl h,q⟩
   rintro _ _ ⟨z,rfl,rfl⟩;have e1:WB (.tup rs) n k=rs.all λx=>zn x 0 (k-1):=by show (decide _&&_)=_;rw [D3 z];rfl
   refine jg (λIO h'=>(rs.all λx=>zn x 0 (k-1))=true/\IO= [some (jP T),some (.tup [.int k,.tup rs]),some (.int k),some (.tup rs),none,none,none,none,none]/\h=h') (λC hC=> ?_) ?_
   ·refine KZ rs (λx=>x) (λx=>zn x 0 (k-1)) hrl (by rw [qS]) (λR r=>⟨_,rfl,r⟩) (λx hx Q' q'=> ?_) ⟨_,rfl,?_⟩
    ·obtain⟨ny,hny⟩:=yb (hrt x hx);refine⟨_,rfl,x,ny,rfl,hny,Mp x,rfl,?_⟩;cases x with
     |int y=>
      refine JB ⟨_,rfl,_,rfl,?_⟩;show if decide (0<=y)=true then _ else _
      by_cases y0:0<=y
      ·rw [D3 y0];simp only [zn,D3 y0,lV] at q';rw [<-Em] at q';exact JB ⟨_,rfl,q'⟩
      ·rw [D9 y0];simp only [zn,D9 y0,dE] at q';exact wz q'
     |_=>exact wz q'
    ·show if (!(rs.all λx=>zn x 0 (k-1)))=true then _ else _
     cases hp:rs.all λx=>zn x 0 (k-1) with
     |false=>
      rw [e1,hp] at q;exact JB ⟨h,Sub.refl h,q⟩
     |true=>exact wz (hC _ _ ⟨hp,rfl,rfl⟩)
   rintro _ _ ⟨X0A,rfl,rfl⟩;rw [X0A] at e1;rw [e1] at q;have q:Q (.bl (Cg T n (.tup rs) k)) h:=q;obtain⟨el,at_⟩:=Bl e1;refine jg (λIO h'=>(∀p j,p<n->j<n->Ï T p j>0->zX (.tup rs) j=(zX (.tup rs) p+1)%k)/\h=h') (λC hC=> ?_) (λ_ _ ⟨g,e⟩=>by subst e;rw [Gg g] at q;exact⟨h,Sub.refl h,q⟩);refine yN (h1:=h) (j:=λ_=>some (YX (T.map Jv))) (YX (T.map Jv)) (λi IO h'=> ∃a b c d e,IO= [some (jP T),some (.tup [.int k,.tup rs]),some (.int k),some (.tup rs),a,b,c,d,e]/\(∀p j,p<i->j<n->Ï T p j>0->zX (.tup rs) j=(zX (.tup rs) p+1)%k)/\h=h') (λR r=>⟨_,rfl,_,rfl,r⟩) (λ_ _ _ _=>rfl) ⟨_,_,_,_,_,rfl,λp j z=>by omega,rfl⟩ (λIO h' ⟨_,_,_,_,_,_,g,e⟩=>hC _ _ ⟨by rw [jT,G2,hT.len] at g;exact g,e⟩) ?_;rintro i dd _ _ hdd ⟨a,b',c,d,e,rfl,g,rfl⟩;obtain⟨rw_,hrw,rfl⟩:=vW hdd;rw [P7] at hrw;obtain⟨r,hr,rfl⟩:=F8.mp hrw;have hi:i<n:=by rw [<-hT.len];exact(P6.mp hr).1
   have er:T.getD i []=r:=by rw [D7,hr];rfl
   have gr:=hT.row r (P9 hr);refine⟨_,_,rfl,?_⟩;refine yN (h1:=h) (j:=λ_=>some (YX (r.map D.int))) (YX (r.map D.int)) (λi2 IO h'=> ∃c d,IO= [some (jP T),some (.tup [.int k,.tup rs]),some (.int k),some (.tup rs),some (.int (i:P1)),some (Jv r),c,d,e]/\(∀j,j<i2->Ï T i j>0->zX (.tup rs) j=(zX (.tup rs) i+1)%k)/\h=h') (λR r=>⟨_,rfl,_,rfl,r⟩) (λ_ _ _ _=>rfl) ⟨_,_,rfl,λj z=>by omega,rfl⟩ ?_ ?_
   ·rintro _ _ ⟨c,d,rfl,g2,rfl⟩;refine⟨_,Sub.refl _,by rw [jT,G2,hT.len];omega,_,_,_,_,_,rfl,λp j hp hj ha=> ?_,rfl⟩;rcases O4 p i with zz|zz
    ·exact g p j zz hj ha
    ·have:p=i:=by omega
     subst this;exact g2 j (by rw [jT,G2,gr];exact hj) ha
   rintro i2 dd _ _ hdd ⟨c,d,rfl,g2,rfl⟩;obtain⟨x,hx,rfl⟩:=vW hdd;rw [P7] at hx;obtain⟨y,hy,rfl⟩:=F8.mp hx;have hi2:i2<n:=by rw [<-gr];exact(P6.mp hy).1
   have ey:Ï T i i2=y:=by unfold Ï;rw [er,D7,hy];rfl
   refine⟨_,_,rfl,⟨_,rfl,_,rfl,?_⟩⟩;obtain⟨ra,a1,a2,a3,a4⟩:=at_ i2 (by omega);obtain⟨rb,b1,b2,b3,b4⟩:=at_ i (by omega);show if decide (y>0)=true then _ else _
   by_cases yp:y>0
   ·rw [D3 yp];refine JB ⟨_,rfl,_,rfl,_,a1,_,rfl,_,rfl,_,b1,_,rfl,by omega,_,rfl,?_⟩;show if (!decide ((ra-rb-1)%k=0))=true then _ else _
    by_cases yz:(ra-rb-1)%k=0
    ·rw [D3 yz];refine wz ⟨_,Sub.refl _,by rw [jT,G2,gr];omega,_,_,rfl,λj hj ha=> ?_,rfl⟩;rcases O4 j i2 with zz|zz
     ·exact g2 j zz ha
     ·have:j=i2:=by omega
      subst this;rw [a2,b2];exact(Gf (by omega) a3 a4).mp yz
    ·rw [D9 yz];have e5:Cg T n (.tup rs) k=false:=Od hi hi2 (by omega) (by rw [a2,b2];exact λw=>yz ((Gf (by omega) a3 a4).mpr w));rw [e5] at q;exact JB ⟨h,Sub.refl h,q⟩
   ·rw [D9 yp];refine wz (wz ⟨_,Sub.refl _,by rw [jT,G2,gr];omega,_,_,rfl,λj hj ha=> ?_,rfl⟩);rcases O4 j i2 with zz|zz
    ·exact g2 j zz ha
    ·have:j=i2:=by omega
     subst this;omega
  |_=>cases hnx<;>exact jg (λ_ _=>False) (λC hC=>⟨_,rfl,_,rfl,_,rfl,JB ⟨h,Sub.refl h,q⟩⟩) (λ_ _ z=>z.elim)
 |_=>cases hn<;>exact jg (λ_ _=>False) (λC hC=>⟨_,rfl,_,rfl,_,rfl,JB ⟨h,Sub.refl h,q⟩⟩) (λ_ _ z=>z.elim)
def yX (Z:Zs mg)(F:Þ K "_law_joined_table" "_law_joined_table" zp f fd)(US:jy P w K mg base n "_law_order" ["_law_pen_here","_law_many"] Jq)(jq:jy P w K mg base n "_law_draw" ["_law_pen_here","_law_many"] zQ):È P w K mg base Û (n+1) f fd ["_law_pen_here","_law_size_here"] (æ K we):=by
 refine F.okM jj (λhr=>(js7 (è 2 jj (jk US hr (j2 (jv 0) (jv 1)))) (è 3 jj (à (JH (ĝ ju (by exact(j4 ju ju (jv 1) ju)))) (jk jq hr (j2 (jv 0) ju)))) (è 4 jj (à (JH (j3 ju ju ju)) (jk jq hr (j2 (jv 0) ju)))) (è 5 jj (à (JH (j3 ju ju ju)) (jk jq hr (j2 (jv 0) ju)))) (VZ (i:=11) (k:=6) (js:= [11]) rfl jj.nd rfl (K9 rfl) (jW (by rfl)) (zG (jv 2)) (by decide) rfl (by first|exact K9 rfl|exact bG rfl) (λX' hX=>JJ) (λX' hX=>by obtain⟨C,s₀,H₀,ex,rfl⟩:=hX;exact(jl0 12 jj (zG (jv 2)) (λ_ _ _ _=>ju)))) (Yi B9 rfl (Wa rfl Z.enumerate (j1 (jv 2))) (Yh (i:=7) (j:=8) rfl jj.nd rfl rfl (K9 rfl) (K9 rfl)) (js2 (Fw (ç za ju (jk jq hr (j2 (jv 0) (jv 5)))) (Ub (à (jv 6) (jv 8)) (à (jv 2) (ç wC (ç za (jv 7) ju) (jv 1))))) (Yi B9 rfl (Wa rfl Z.enumerate (j1 (jv 2))) (Yh (i:=9) (j:=10) rfl jj.nd rfl rfl (K9 rfl) (K9 rfl)) (jE (Ws (Ź (Xr (ý ê (jk jq hr (j2 (jv 0) (jv 4))) ju) (Xr (ý ê (ç wC (ç Yf (ç Yf (jv 9) (jv 7)) ju) (jv 3)) ju) (Gx (Ź (Gy (ý ê (ç wC (jv 1) (jv 3)) ju) (MC (ý Gt (jv 9) (jv 7))))))))) (Fw (ç za ju (jk jq hr (j2 (jv 0) (jv 5)))) (Ub (à (jv 6) (jv 8)) (jv 10)))))))) (wj (zI wN rfl Z.tuple (by decide +kernel) (j1 (jl0 11 jj (zG (jv 6)) (λ_ _ _ _=>(zI ô rfl Z.tuple (by decide +kernel) (j1 (jv 11)))))))))) ?_;rintro ds h Q ⟨p,l,fl,k,rfl,hp,h0,hk1,hk6,q⟩;refine⟨rfl,?_⟩;refine jg (λIO h'=> ∃o l2,IO= [some (.lst p),some (.int (k:P1)),some (jA o),none,none,none,none,none,none,none,none,none,none]/\ĩ k o/\0<=l2/\h' p=some [.int l2,.int fl]/\ì p h h') (λC hC=>⟨_,rfl,_,rfl,p,l,fl,k,rfl,hp,h0,hk6,λo l2 ho Ι=>hC _ _ ⟨o,l2,rfl,ho,Ι,jc,ì.upd⟩⟩) ?_;rintro _ h1 ⟨o,l2,rfl,ho,Ι,kp,bt⟩;have hlo:o.length=k:=ho.ord.len;refine jg (λIO h'=> ∃dv l3,IO= [some (.lst p),some (.int (k:P1)),some (jA o),some (.int dv),none,none,none,none,none,none,none,none,none]/\0<dv/\dv<1000/\0<=l3/\h' p=some [.int l3,.int fl]/\ì p h h') (λC hC=> ?_) ?_
 ·refine⟨_,rfl,sz5,λp1 e1=>⟨_,rfl,p,l2,fl,5,rfl,je kp e1,Ι,by decide,by decide,λr l3 r0 r1 ψ=> ?_⟩⟩;obtain⟨Ŵ,ho',eo⟩:=JF (xs:= [D.int 1,D.int 2,D.int 3,D.int (k:P1),D.int 1]) r0 r1;refine⟨_,Ŵ,jh (jp kp e1) jc,eo,?_⟩;obtain⟨x,rfl,x1,x2⟩: ∃x:P1,Ŵ= .int x/\0<x/\x<1000:=by
   simp only [D5,H0,or_false] at ho';rcases ho' with e|e|e|e|e<;>exact⟨_,e,by omega,by omega⟩
  exact hC _ _ ⟨x,l3,rfl,x1,x2,ψ,jc,(bt.new e1).put⟩
 rintro _ h2 ⟨dv,l3,rfl,dv1,dv2,ψ,kp,bt⟩;refine jg (λIO h'=> ∃χ l4,IO= [some (.lst p),some (.int (k:P1)),some (jA o),some (.int dv),some (.int χ),none,none,none,none,none,none,none,none]/\0<χ/\χ<1000/\0<=l4/\h' p=some [.int l4,.int fl]/\ì p h h') (λC hC=> ?_) ?_
 ·refine⟨sz3,λp1 e1=>⟨_,rfl,p,l3,fl,3,rfl,je kp e1,ψ,by decide,by decide,λr l4 r0 r1 l40=> ?_⟩⟩;obtain⟨Ŵ,ho',eo⟩:=JF (xs:= [D.int 2,D.int 3,D.int 6]) r0 r1;refine⟨_,Ŵ,jh (jp kp e1) jc,eo,?_⟩;obtain⟨x,rfl,x1,x2⟩: ∃x:P1,Ŵ= .int x/\0<x/\x<1000:=by
   simp only [D5,H0,or_false] at ho';rcases ho' with e|e|e<;>exact⟨_,e,by omega,by omega⟩
  exact hC _ _ ⟨x,l4,rfl,x1,x2,l40,jc,(bt.new e1).put⟩
 rintro _ h2 ⟨χ,l4,rfl,of1,of2,l40,kp,bt⟩;refine jg (λIO h'=> ∃mo l5,IO= [some (.lst p),some (.int (k:P1)),some (jA o),some (.int dv),some (.int χ),some (.int mo),none,none,none,none,none,none,none]/\0<mo/\mo<1000/\0<=l5/\h' p=some [.int l5,.int fl]/\ì p h h') (λC hC=> ?_) ?_
 ·refine⟨sz3,λp1 e1=>⟨_,rfl,p,l4,fl,3,rfl,je kp e1,l40,by decide,by decide,λr l5 r0 r1 l50=> ?_⟩⟩;obtain⟨Ŵ,ho',eo⟩:=JF (xs:= [D.int 1,D.int 1,D.int 5]) r0 r1;refine⟨_,Ŵ,jh (jp kp e1) jc,eo,?_⟩;obtain⟨x,rfl,x1,x2⟩: ∃x:P1,Ŵ= .int x/\0<x/\x<1000:=by
   simp only [D5,H0,or_false] at ho';rcases ho' with e|e|e<;>exact⟨_,e,by omega,by omega⟩
  exact hC _ _ ⟨x,l5,rfl,x1,x2,l50,jc,(bt.new e1).put⟩
 rintro _ h2 ⟨mo,l5,rfl,mo1,mo2,l50,kp,bt⟩;refine jg (λIO h'=> ∃R rs,IO= [some (.lst p),some (.int (k:P1)),some (jA o),some (.int dv),some (.int χ),some (.int mo),some (.lst R),none,none,none,none,none,none]/\h' p=some [.int l5,.int fl]/\ì p h h'/\Č k h h' p R rs) (λC hC=> ?_) ?_
 ·refine FJ (h1:=h2) (o.map λ(k:G5)=>D.int (k:P1)) (λi ys h'=> ∃rs,ys=rs.map D.lst/\rs.length=i/\h' p=some [.int l5,.int fl]/\ì p h h'/\p ∉ rs/\ ∀a∈rs,h a=none/\ ∃r,h' a=some (r.map D.int)/\wU k r) (by rw [G2];omega) (λR r=>⟨_,rfl,r⟩) ⟨[],rfl,rfl,kp,bt,by simp,by simp⟩ (λi ys h' ⟨rs,e,el,_⟩=>by rw [e,G2];omega) ?_ ?_
  ·rintro i ys h3 d hd ⟨rs,rfl,lrs,kp3,bt3,X1v,õ⟩;have hi:i<k:=by have:=(P6.mp hd).1;rw [G2] at this;omega
   refine lcA o (λ(k:G5)=>D.int (k:P1)) (λ_=>D.int 0) (by omega) rfl (λR r=>⟨_,rfl,r⟩) (λx hx Q' q'=>q') (λq4 e4=> ?_);refine⟨_,Sub.refl _,by rw [G2];omega,rs++ [q4],by rw [T7];rfl,by simp [lrs],je kp3 e4,bt3.new e4,?_,λa ha=> ?_⟩
   ·intro z;rcases R4.mp z with y|y
    ·exact X1v y
    ·exact jp kp3 e4 (P0.mp y).symm
   ·rcases R4.mp ha with z|z
    ·obtain⟨f',r',e',g'⟩:=õ a z;exact⟨f',r',je e' e4,g'⟩
    ·have:=P0.mp z;subst this;refine⟨YT bt3 e4 (jp kp3 e4),o.map λ_=>(0:P1),by rw [jc,N8];rfl,by rw [G2];exact hlo,λx hx=> ?_⟩;obtain⟨_,_,rfl⟩:=S9.mp hx;exact⟨by decide,by decide⟩
  ·rintro ys h3 ⟨rs,rfl,lrs,kp3,bt3,X1v,õ⟩ R eR;rw [G2] at lrs;refine hC _ _ ⟨R,rs,rfl,je kp3 eR,bt3.new eR,⟨jc,by rw [lrs];exact hlo,?_,YT bt3 eR (jp kp3 eR),X1v,jp kp3 eR,λa ha=>⟨(õ a ha).1,?_⟩⟩⟩
   ·intro hR;obtain⟨_,r,e',_⟩:=õ R hR;rw [e'] at eR;cases eR
   ·obtain⟨r,e',g'⟩:=(õ a ha).2;exact⟨r,je e' eR,g'⟩
 rintro _ h3 ⟨R,rs,rfl,kp,bt,g⟩;have hen:(YX (o.map λ(k:G5)=>D.int (k:P1))).length=k:=by rw [jT,G2];exact hlo
 have hel: ∀i d,(YX (o.map λ(k:G5)=>D.int (k:P1)))[i]? =some d->i<k/\ ∃y,y<k/\d= .tup [.int (i:P1),.int (y:P1)]:=λi d hd=>by
  have hi:i<k:=by have:=(P6.mp hd).1;omega
  obtain⟨x,hx,ed⟩:=vW hd;have â:i<o.length:=by omega
  rw [P7,G8 â] at hx;injection hx with hx
  exact⟨hi,o[i],D1.mp (ho.mem_iff.mp (L0 â)),by rw [ed,<-hx]⟩
 refine jg (λIO h'=> ∃a b c d l6,IO= [some (.lst p),some (.int (k:P1)),some (jA o),some (.int dv),some (.int χ),some (.int mo),some (.lst R),a,b,c,d,none,none]/\0<=l6/\h' p=some [.int l6,.int fl]/\ì p h h'/\Č k h h' p R rs) (λC hC=> ?_) ?_
 ·refine yN (h1:=h3) (j:=λ_=>some (YX (o.map λ(k:G5)=>D.int (k:P1)))) (YX (o.map λ(k:G5)=>D.int (k:P1))) (λi IO h'=> ∃a b c d l6,IO= [some (.lst p),some (.int (k:P1)),some (jA o),some (.int dv),some (.int χ),some (.int mo),some (.lst R),a,b,c,d,none,none]/\0<=l6/\h' p=some [.int l6,.int fl]/\ì p h h'/\Č k h h' p R rs) (λR r=>⟨_,rfl,_,rfl,r⟩) (λ_ _ _ _=>rfl) ⟨none,none,none,none,l5,rfl,l50,kp,bt,g⟩ (λIO h' z=>hC _ _ z) ?_;rintro i dd _ h4 hdd ⟨a,b,c,d,l6,rfl,Ĕ,kp4,bt4,g4⟩;obtain⟨hi,y1,hy1,rfl⟩:=hel i dd hdd;refine⟨_,_,rfl,?_⟩;obtain⟨y3,hy3,ey3⟩:=FK ho (W8 (i+1) (by omega:0<k));have em:((i:P1)+1)%(k:P1)=(((i+1)%k:G5):P1):=by rw [dS,sF];rfl
  rw [<-em] at ey3;refine jg (λIO h'=> ∃l6,IO= [some (.lst p),some (.int (k:P1)),some (jA o),some (.int dv),some (.int χ),some (.int mo),some (.lst R),some (.int (i:P1)),some (.int (y1:P1)),c,d,none,none]/\0<=l6/\h' p=some [.int l6,.int fl]/\ì p h h'/\Č k h h' p R rs) (λC2 hC2=> ?_) ?_
  ·refine⟨_,rfl,_,rfl,p,l6,fl,mo,rfl,kp4,Ĕ,mo1,by omega,λv l7 v0 v1 l70=> ?_⟩;have g5:=g4.pen [.int l7,.int fl];obtain⟨a',r',at',ha',er',gr',fa',na'⟩:=g5.pick hy1;exact⟨_,rfl,_,rfl,_,_,g5.at_,at',_,rfl,_,rfl,_,rfl,(by omega:(0:P1)<(k:P1)),_,ey3,a',(y3:P1),_,y3,rfl,rfl,er',YZ (by rw [G2,gr'.1];exact hy3),hC2 _ _ ⟨l7,rfl,l70,jh (U6 na') jc,(bt4.put).putNew fa',g5.set ha' er' gr' (by omega) (by omega)⟩⟩
  rintro _ h5 ⟨l6,rfl,Ĕ,kp5,bt5,g5⟩;refine yN (h1:=h5) (j:=λ_=>some (YX (o.map λ(k:G5)=>D.int (k:P1)))) (YX (o.map λ(k:G5)=>D.int (k:P1))) (λ_ IO h'=> ∃c d l6,IO= [some (.lst p),some (.int (k:P1)),some (jA o),some (.int dv),some (.int χ),some (.int mo),some (.lst R),some (.int (i:P1)),some (.int (y1:P1)),c,d,none,none]/\0<=l6/\h' p=some [.int l6,.int fl]/\ì p h h'/\Č k h h' p R rs) (λR r=>⟨_,rfl,_,rfl,r⟩) (λ_ _ _ _=>rfl) ⟨c,d,l6,rfl,Ĕ,kp5,bt5,g5⟩ ?_ ?_
  ·rintro _ h6 ⟨c,d,l6,rfl,Ĕ,kp6,bt6,g6⟩;exact⟨_,Sub.refl _,by omega,_,_,_,_,l6,rfl,Ĕ,kp6,bt6,g6⟩
  rintro i2 dd _ h6 X12 ⟨c,d,l6,rfl,Ĕ,kp6,bt6,g6⟩;obtain⟨hi2,y2,hy2,rfl⟩:=hel i2 dd X12;refine⟨_,_,rfl,?_⟩;refine⟨_,rfl,_,rfl,p,l6,fl,χ,rfl,kp6,Ĕ,of1,by omega,λw l7 w0 w1 l70=>⟨_,rfl,WJ (λ_=> ?_) (λ_=>wz ⟨_,Sub.refl _,by omega,_,_,l7,rfl,l70,jc,bt6.put,g6.pen _⟩)⟩⟩;refine⟨_,rfl,_,rfl,_,rfl,dv1,_,rfl,WJ (λ_=> ?_) (λ_=>wz ⟨_,Sub.refl _,by omega,_,_,l7,rfl,l70,jc,bt6.put,g6.pen _⟩)⟩;refine⟨_,rfl,_,rfl,dv1,_,rfl,WJ (λ_=>JB ?_) (λ_=> ?_)⟩
  ·refine⟨_,rfl,_,rfl,p,l7,fl,mo,rfl,jc,l70,mo1,by omega,λv l8 v0 v1 l80=> ?_⟩;have g8:=(g6.pen [.int l7,.int fl]).pen [.int l8,.int fl];obtain⟨a',r',at',ha',er',gr',fa',na'⟩:=g8.pick hy1;exact⟨_,rfl,_,rfl,_,_,g8.at_,at',_,rfl,a',(y2:P1),_,y2,rfl,rfl,er',YZ (by rw [G2,gr'.1];exact hy2),_,Sub.refl _,by omega,_,_,l8,rfl,l80,jh (U6 na') jc,((bt6.put).put).putNew fa',g8.set ha' er' gr' (by omega) (by omega)⟩
  ·refine⟨_,rfl,_,rfl,_,rfl,WJ (λ_=> ?_) (λ_=>⟨_,Sub.refl _,by omega,_,_,l7,rfl,l70,jc,bt6.put,g6.pen _⟩)⟩;refine⟨_,rfl,_,rfl,p,l7,fl,mo,rfl,jc,l70,mo1,by omega,λv l8 v0 v1 l80=> ?_⟩;have g8:=(g6.pen [.int l7,.int fl]).pen [.int l8,.int fl];obtain⟨a',r',at',ha',er',gr',fa',na'⟩:=g8.pick hy1;exact⟨_,rfl,_,rfl,_,_,g8.at_,at',_,rfl,a',(y2:P1),_,y2,rfl,rfl,er',YZ (by rw [G2,gr'.1];exact hy2),_,Sub.refl _,by omega,_,_,l8,rfl,l80,jh (U6 na') jc,((bt6.put).put).putNew fa',g8.set ha' er' gr' (by omega) (by omega)⟩
 rintro _ h6 ⟨a,b,c,d,l6,rfl,Ĕ,kp,bt,g⟩;obtain⟨T,gT,eT⟩:=g.tab;refine HY (j:=λh=>h R) rs D.lst (λa=> .tup ((h6 a).getD [])) (by rw [g.len];omega) g.at_ (λR r=>⟨_,rfl,r⟩) (λa ha Q' q'=> ?_) ⟨_,bt.sub kp,?_⟩
 ·obtain⟨_,r,er,_⟩:=g.row a ha;rw [er] at q';exact⟨_,rfl,_,er,q'⟩
 ·rw [eT];exact q T l6 gT Ĕ
def vg:RDn:=λds h Q=> ∃T,∃n e:G5,ds= [jP T]/\Sq n e T/\1<=n/\n<=6/\ ∀A h',h A=none->h' A=some ((jG T n).map jA)->Sub h h'->Q (.lst A) h'
def WS (Z:Zs mg)(F:Þ K "_law_rounds" "_law_rounds" ya f fd):È P w K mg base Û (n+1) f fd ["_law_table_here"] (æ K vg):=by
 refine F.okM jD (λhr=>(js4 (è 1 jD (JH zO)) (VZ (i:=6) (k:=2) (js:= [6]) rfl jD.nd rfl (K9 rfl) (jW (by rfl)) (Ņ Z (Wr Z (jv 0))) (by decide) rfl (by first|exact K9 rfl|exact bG rfl) (λX' hX=>JJ) (λX' hX=>by obtain⟨C,s₀,H₀,ex,rfl⟩:=hX;exact(VE (j1 (jv 6))))) (Ql B9 (ý (Qj hr.units) (jv 2) (JH zO)) (ο (è 3 jD (JH zO)) (Yi B9 rfl (zG (jv 2)) (ż 4 jD) (ο (è 5 jD (à (jv 0) (à (jv 4) (TW ju)))) (Ws (ý Gt (à (jv 5) (à (jv 4) ju)) ju) (WL (Oo (jv 1) (jv 4)))) (è 3 jD (ç za (jv 3) (jl1 7 jD (Ej rfl Z.range (j2 (ç za (à (jv 4) ju) ju) (Wr Z (jv 0)))) (λ_ _ _ _=>(Ź (Xr (ý Gt (à (jv 5) (jv 7)) ju) (Gx (Gw (Qm hr.units) (jv 7) (jv 4) (by with_unfolding_all rfl)))))) (λ_ _ _ _=>(ç za (jv 4) (VE (j1 (jv 7)))))))))) (è 2 jD (jv 3)))) (wj (yh (Yu hr) rfl Z.sorted (by decide +kernel) (j1 (jv 1)))))) ?_;rintro ds h Q ⟨T,n,b,rfl,hT,h1,h6,q⟩;refine⟨rfl,?_⟩;refine jg (λIO h'=> ∃A,IO= [some (jP T),some (.lst A),none,none,none,none,none,none]/\h A=none/\h' A=some []/\Sub h h') (λC hC=>⟨sz0,λA eA=>hC _ _ ⟨A,rfl,eA,jc,Sub.newAt (Sub.refl h) eA⟩⟩) ?_;rintro _ h2 ⟨A,rfl,fA,kA,sA⟩;refine jg (λIO h'=> ∃B c,IO= [some (jP T),some (.lst A),some (.lst B),none,none,none,c,none]/\B≠A/\h' A=some ((Jw (jQ T) n 0).map jA)/\h' B=some ((ã (jQ T) n 0).map jA)/\Sub h h') (λC hC=> ?_) ?_
 ·refine lcA (P4 n) (λj=> .int (j:P1)) (λi=>jA [i]) (by rw [S7];omega) rfl (λR r=>⟨_,rfl,(n:P1),by rw [G2,hT.len],by omega,by omega,r⟩) (λj hj Q' q'=>⟨_,rfl,Τ,q'⟩) (λB eB=>hC _ _ ⟨B,_,rfl,jp kA eB,je kA eB,?_,Sub.newAt sA eB⟩);rw [jc];show _=some (((P4 n).map λi=> [i]).map jA);rw [N8];rfl
 rintro _ h3 ⟨B,c,rfl,nB,kA,kB,sb⟩;refine jg (λIO h'=> ∃B c d e f,IO= [some (jP T),some (.lst A),some (.lst B),c,d,e,f,none]/\h' A=some ((Jw (jQ T) n n).map jA)/\Sub h h') (λC hC=> ?_) ?_
 ·refine Zv (λm IO h'=> ∃ (t:G5) (B:G9) (c d e f:P5 D),IO= [some (jP T),some (.lst A),some (.lst B),c,d,e,f,none]/\m=n-t/\t<=n/\B≠A/\h' A=some ((Jw (jQ T) n t).map jA)/\h' B=some ((ã (jQ T) n t).map jA)/\Sub h h') n ⟨0,B,none,none,none,c,rfl,rfl,N3 _,nB,kA,kB,sb⟩ ?_;clear kA kB sb nB;rintro m _ h4 ⟨t,B,c,d,e,f,rfl,rfl,tn,nB,kA,kB,sb⟩;refine⟨_,rfl,sz0,λZ eZ=>Ls (je kB eZ) jc ⟨_,rfl,?_⟩⟩
  by_cases z:(ã (jQ T) n t)= []
  ·rw [z];refine wz (hC _ _ ⟨B,c,d,e,f,rfl,?_,Sub.newAt sb eZ⟩);have:=(Wq (n-t) z).1;rw [show t+(n-t)=n by omega] at this;rw [this];exact je kA eZ
  ·have tl:t<n:=by
    rcases O4 t n with w|w
    ·exact w
    ·have:t=n:=by omega
     subst this;exact absurd (RR h6) z
   have ll:=Vh (g:=jQ T) h6 (show t<=6 by omega);have rl:=Ji (g:=jQ T) h6 (show t<=6 by omega);have l2:=Vh (g:=jQ T) h6 (show t+1<=6 by omega);have kA:=je (M:= []) kA eZ;have kB:=je (M:= []) kB eZ;have sb:=Sub.newAt (L:= []) sb eZ;revert kA kB sb;generalize zF h4 Z []=h4;intro kA kB sb;rw [show (!((ã (jQ T) n t)).isEmpty)=true from by cases e:(ã (jQ T) n t) with|nil=>exact absurd e z|cons _ _=>rfl];refine JB ?_;refine jg (λIO h'=> ∃G,IO= [some (jP T),some (.lst A),some (.lst B),some (.lst G),d,e,f,none]/\G≠A/\h' G=some []/\h' A=some ((Jw (jQ T) n t).map jA)/\h' B=some ((ã (jQ T) n t).map jA)/\Sub h h') (λC hC=>⟨sz0,λG eG=>hC _ _ ⟨G,rfl,jp kA eG,jc,je kA eG,je kB eG,Sub.newAt sb eG⟩⟩) ?_;clear kA kB sb;rintro _ h5 ⟨G,rfl,nG,kG,kA,kB,sb⟩;refine jg (λIO h'=> ∃G d e f,IO= [some (jP T),some (.lst A),some (.lst B),some (.lst G),d,e,f,none]/\G≠A/\h' G=some ((ã (jQ T) n (t+1)).map jA)/\h' A=some ((Jw (jQ T) n (t+1)).map jA)/\Sub h h') (λC hC=> ?_) ?_
   ·refine yN (h1:=h5) (j:=λh=>h B) ((ã (jQ T) n t).map jA) (λi IO h'=> ∃G d e f,IO= [some (jP T),some (.lst A),some (.lst B),some (.lst G),d,e,f,none]/\G≠A/\h' G=some ((((ã (jQ T) n t).take i).flatMap (ME (jQ T) n)).map jA)/\h' A=some (((Jw (jQ T) n t)++(((ã (jQ T) n t).take i).filter λw=>jQ T (w.getLastD 0) (w.headD 0))).map jA)/\h' B=some ((ã (jQ T) n t).map jA)/\Sub h h') (λR r=>⟨_,rfl,r⟩) (λ_ _ _ ⟨_,_,_,_,_,_,_,_,k,_⟩=>k) ⟨G,d,e,f,rfl,nG,kG,by rw [dL,fG,O9];exact kA,kB,sb⟩ (λIO h' ⟨G,d,e,f,es,nG,kG,kA,_,s⟩=>hC _ _ ⟨G,d,e,f,es,nG,by rw [G2,N2 (P3 _)] at kG;exact kG,by rw [G2,N2 (P3 _)] at kA;exact kA,s⟩) ?_;clear kA kB sb kG nG;rintro i dd _ h6' hd ⟨G,d,e,f,rfl,nG,kG,kA,kB,sb⟩;have hil:=(P6.mp hd).1;rw [G2] at hil;rw [P7,G8 hil] at hd;injection hd with hd
    subst hd;have hw:=L0 hil;have etk:=UA (ME (jQ T) n) (G8 hil);have etf:=UB (λw=>jQ T (w.getLastD 0) (w.headD 0)) (λw=>w) (G8 hil);have lel:(((ã (jQ T) n t).take (i+1)).flatMap (ME (jQ T) n)).length<=144:=R6 (yu _ _ _) l2;have lfl:(((ã (jQ T) n t).take i).filter λw=>jQ T (w.getLastD 0) (w.headD 0)).length<=144:=R6 (Q4 ..) (R6 (by rw [N0];omega) ll);rw [qS,qS] at etf;generalize (ã (jQ T) n t)[i]=w at hw etk etf;have o:=Wp hw;have he:=o.lt _ (Xz o.len);have hh:=o.lt _ (QK o.len);refine wu [some (jP T),some (.lst A),some (.lst B),some (.lst G),some (jA w),some (Jv (T.getD (w.getLastD 0) [])),f,none] (λC hC=>⟨_,rfl,_,rfl,_,Ś o.len,_,JL hT he,hC⟩) ?_;refine jg (λIO h'=>IO= [some (jP T),some (.lst A),some (.lst B),some (.lst G),some (jA w),some (Jv (T.getD (w.getLastD 0) [])),f,none]/\h' G=some ((((ã (jQ T) n t).take i).flatMap (ME (jQ T) n)).map jA)/\h' A=some (((Jw (jQ T) n t)++(((ã (jQ T) n t).take (i+1)).filter λw=>jQ T (w.getLastD 0) (w.headD 0))).map jA)/\h' B=some ((ã (jQ T) n t).map jA)/\Sub h h') (λC hC=>⟨_,rfl,_,rfl,_,ZB o.len,_,JM (hT.row _ (Sq.getRow hT he)) hh,?_⟩) ?_
    ·show ∃k,D.bl (decide (Ï T (w.getLastD 0) (w.headD 0)>0))=D.bl k/\_
     by_cases c:Ï T (w.getLastD 0) (w.headD 0)>0
     ·rw [D3 c];refine⟨_,rfl,JB ⟨_,rfl,_,rfl,_,rfl,_,kA,?_,hC _ _ ⟨rfl,jh nG kG,?_,jh nB kB,sb.over fA⟩⟩⟩
      ·rw [G2,D0];exact jw (by omega)
      ·rw [jc,etf,show jQ T (w.getLastD 0) (w.headD 0)=true from D3 c,R8 rfl,<-D4,T7 (l₂:= [w])];rfl
     ·rw [D9 c];refine⟨_,rfl,wz (hC _ _ ⟨rfl,kG,?_,kB,sb⟩)⟩;rw [etf,show jQ T (w.getLastD 0) (w.headD 0)=false from D9 c,R9 R3,O9];exact kA
    clear kA kB sb kG;rintro _ h7 ⟨rfl,kG,kA,kB,sb⟩;refine⟨_,rfl,?_⟩;have ew:(n:P1)-(((w.headD 0:G5):P1)+1)=((n-(w.headD 0+1):G5):P1):=by omega
    refine lcF (j:=λ_=>some ((P4 ((n:P1)-(((w.headD 0:G5):P1)+1)).toNat).map λ(k:G5)=>D.int (((w.headD 0:G5):P1)+1+(k:P1)))) (P4 (n-(w.headD 0+1))) (λ(k:G5)=> .int (((w.headD 0:G5):P1)+1+(k:P1))) (λk=>jA (w++ [w.headD 0+1+k])) (λk=>jQ T (w.getLastD 0) (w.headD 0+1+k)&& !decide (w.headD 0+1+k∈w)) (by rw [S7];omega) (by rw [ew,V3]) (λR r=>⟨_,rfl,_,ZB o.len,_,rfl,_,_,by rw [G2,hT.len],⟨by omega,by omega,by omega,by omega⟩,r⟩) (λk hk Q' q'=> ?_) (λk hk _ Q' q'=> ?_) (λF eF=> ?_)
    ·have hk:=D1.mp hk;have ek:((w.headD 0:G5):P1)+1+(k:P1)=((w.headD 0+1+k:G5):P1):=by omega
     rw [ek];refine⟨_,rfl,_,rfl,_,JM (hT.row _ (Sq.getRow hT he)) (show w.headD 0+1+k<n by omega),?_⟩;show ∃c,D.bl (jQ T (w.getLastD 0) (w.headD 0+1+k))=D.bl c/\_;refine⟨_,rfl,?_⟩;cases c:jQ T (w.getLastD 0) (w.headD 0+1+k) with
     |true=>
      rw [c] at q';exact JB ⟨_,rfl,_,rfl,RM ⟨_,rfl,q'⟩⟩
     |false=>
      rw [c] at q';exact wz q'
    ·have ek:((w.headD 0:G5):P1)+1+(k:P1)=((w.headD 0+1+k:G5):P1):=by omega
     rw [ek];have e:jA (w++ [w.headD 0+1+k])= .tup ((w.map λ(k:G5)=>D.int (k:P1))++ [.int ((w.headD 0+1+k:G5):P1)]):=by unfold jA;rw [T7];rfl
     rw [e] at q';refine⟨_,rfl,_,rfl,Τ,?_,q'⟩;rw [G2,o.len];exact S6 (jw (by simp only [R1,C4];omega))
    ·rw [Lt hh];refine⟨_,_,je kG eF,jc,?_,λp e=>⟨_,Sub.refl _,by rw [G2];omega,p,_,_,_,rfl,jp (je kA eF) e,?_,je (je kA eF) e,je (je kB eF) e,(((sb).newAt eF).newAt e)⟩⟩
     ·rw [etk,D0] at lel;rw [G2,G2];exact R6 lel (by decide)
     ·rw [jc,etk,T7]
   clear kA kB sb kG nG;rintro _ h6' ⟨G,d,e,f,rfl,nG,kG,kA,sb⟩;exact⟨_,rfl,n-(t+1),_,by omega,Sub.refl _,t+1,G,_,_,_,_,rfl,rfl,by omega,nG,kA,kG,sb⟩
 clear kA kB sb;rintro _ h4 ⟨B,c,d,e,f,rfl,kA,sb⟩;refine⟨_,rfl,A,(Jw (jQ T) n n).map toI,rfl,?_,?_,λp mss hp pm sr=>⟨_,Sub.refl _,q p _ (yQ sb hp) (by rw [jc,Ux pm sr];rfl) (Sub.newAt sb hp)⟩⟩
 ·rw [kA,N8];exact congrArg some (B6 λS _=>(Uw S).symm)
 ·rw [G2];have:=Ji (g:=jQ T) h6 h6;exact jw (by omega)
def Oe {A B:G9}{S:G0 G5}(k:h A=some (S.map λ(l:G5)=>D.int (l:P1)))(k':h B=some [])(q:Q (.bl (!decide (S= []))) h):neE (.lst A) (.lst B) h Q:=by
 have e:S.map (λ(l:G5)=>D.int (l:P1))=(S.map λ(l:G5)=>(l:P1)).map D.int:=by rw [N8];rfl
 rw [e] at k;refine⟨.list ((S.map λ(l:G5)=>(l:P1)).map .int),.list [],⟨_,_,rfl,k,vV _ _⟩,⟨_,_,rfl,k',rfl⟩,ZY _,rfl,?_⟩;cases S<;>exact q
def Bo {i:G5}{js:G0 G5}{ti:TID}{tt:TTD}{h1:HD}(ds:G0 D)(W:G5->G0 D->HD->Prop)(hn:ds.length<=1000)(ht: ∀R:İ->HD->Prop,R (λ_=>some ds) h1->ti σ h R)
 (w0:W 0 [] h1)(wl: ∀k ys h',W k ys h'->ys.length<=k)(turn: ∀k d ys h',ds[k]? =some d->W k ys h'->tt ((jJ js σ).set i (some d)) h' λb h3=>if b=true then te ((jJ js σ).set i (some d)) h3 λy h4=> ∃h5,Sub h5 h4/\(k+1<=ds.length/\W (k+1) (ys++ [y]) h5) else ∃h5,Sub h5 h3/\(k+1<=ds.length/\W (k+1) ys h5))
 (done: ∀ys h',W ds.length ys h'-> ∀p,h' p=none->Q (.lst p) (zF h' p ys)):yV (bN i) js ti tt te σ h Q:=by
 refine ht _ ⟨ds.length,λk ys h'=>k<=ds.length/\W k ys h',⟨N3 _,w0⟩,?_⟩;rintro k ys h' ⟨hk,w⟩;refine⟨R6 (wl k ys h' w) (S6 (jw (by omega))),ds,rfl,P3 _,λhl p hp=> ?_,λd hd=>⟨_,rfl,turn k d ys h' hd w⟩⟩;have:k=ds.length:=by omega
 subst this;exact done _ _ w p hp
def Of {r:RD2}{tu:TED}{Q:M7->HD->Prop}(x:te σ h λa h1=>tu σ h1 λb h2=>r a b h2 λv h3=> ∃k,v= .bl k/\Q k h3):JD (ľ r te tu) σ h Q:=x
theorem XT: ∀ (S:G0 G5) (a d:G5),d∣S.foldl bV a↔d∣a/\ ∀l∈S,d∣l
 | [],a,d=>⟨λh=>⟨h,λl hl=>absurd hl H0⟩,λh=>h.1⟩
 |x::S,a,d=>by
  rw [iJ,XT S _ d,sJ];constructor
  ·rintro ⟨⟨p,q⟩,r⟩;exact⟨p,λl hl=>by rcases D5.mp hl with rfl|hl;exact q;exact r l hl⟩
  ·rintro ⟨p,q⟩;exact⟨⟨p,q x R5⟩,λl hl=>q l (T3 _ hl)⟩
/-- Ž number 1+i X10 into all -/
noncomputable def XU (S:G0 G5)(i:G5):M7:=decide ((S.filter λ(l:G5)=> !decide ((l:P1)%(1+(i:P1))=0))= [])
def ŵ {S:G0 G5}{i:G5}:XU S i=true↔(1+i)∣S.foldl bV 0:=by
 unfold XU;rw [C6,cP,XT];have e: ∀l:G5,(!decide ((l:P1)%(1+(i:P1))=0))=true↔ ¬ (1+i)∣l:=λl=>by
  rw [lH,fV,Nat.dvd_iff_mod_eq_zero,show (1:P1)+(i:P1)=((1+i:G5):P1) by omega,<-dS];omega
 exact⟨λh=>⟨xU _,λl hl=>V1 λz=>h l hl ((e l).mpr z)⟩,λh l hl z=>(e l).mp z (h.2 l hl)⟩
def Og (h6:n<=6)(ne:((jG T n).map O1)≠ []):1<=jM T n/\jM T n<=6:=by
 obtain⟨l,hl⟩:=lB _ ne;obtain⟨W,hW,rfl⟩:=S9.mp hl;obtain⟨s,hs,ok,_⟩:=Uz hW;have d:=((XT ((jG T n).map O1) 0 _).mp (i0 _)).2 _ hl;have w1:1<=W.length:=by rw [ok.len];omega
 have w6:W.length<=6:=by rw [ok.len];omega
 have le:=lU (by omega) d;refine⟨?_,R6 le w6⟩;rcases kU (jM T n) with z|z
 ·exfalso;have z:((jG T n).map O1).foldl bV 0=0:=z;rw [z,Nat.zero_dvd] at d;omega
 ·exact z
def UP (g1:1<=jM T n)(g6:jM T n<=6):jM T n-1∈(P4 6).filter (XU ((jG T n).map O1)):=by
 rw [C3,D1];refine⟨by omega,ŵ.mpr ?_⟩;rw [show 1+(jM T n-1)=jM T n by omega];exact i0 _
def Zj:RDn:=λds h Q=> ∃T,∃n e:G5,ds= [jP T]/\Sq n e T/\1<=n/\n<=6/\ ∀h',Sub h h'->Q (.int ((jM T n:G5):P1)) h'
def UQ (Z:Zs mg)(F:Þ K "_law_beat" "_law_beat" vK f fd)(Vz:jy P w K mg base n "_law_rounds" ["_law_table_here"] vg):È P w K mg base Û (n+1) f fd ["_law_table_here"] (æ K Zj):=by
 refine F.okM zS (λhr=>(ο (è 1 zS (jl0 3 zS (zG (jk Vz hr (j1 (jv 0)))) (λ_ _ _ _=>(Wr Z (jv 3))))) (VZ (i:=4) (k:=2) (js:= [4]) rfl zS.nd rfl (K9 rfl) (jW (by rfl)) (Ej rfl Z.range (j2 ju ju)) (by decide) rfl (by first|exact K9 rfl|exact bG rfl) (λX' hX=>by obtain⟨C,s₀,H₀,ex,rfl⟩:=hX;exact YU (ý (VX hr.units) (jl1 5 zS (zG (jv 1)) (λ_ _ _ _=>(ý ë (ç wC (jv 5) (jv 4)) ju)) (λ_ _ _ _=>(jv 5))) (JH zO))) (λX' hX=>by obtain⟨C,s₀,H₀,ex,rfl⟩:=hX;exact(jv 4))) (wj (jif (ý (Qj hr.units) (jv 1) (JH zO)) (yh (Rb rfl) rfl Z.max (by decide +kernel) (j1 (jv 2))) ju)))) ?_;rintro ds h Q ⟨T,n,b,rfl,hT,h1,h6,q⟩;refine⟨rfl,?_⟩;have ll:(jG T n).length<=1000:=R6 (GZ h6) (by decide);refine jg (λIO h'=> ∃A v,IO= [some (jP T),some (.lst A),none,v,none,none]/\Sub h h'/\h' A=some (((jG T n).map O1).map λ(l:G5)=>D.int (l:P1))) (λC hC=>Nm ⟨_,rfl,T,n,b,rfl,hT,h1,h6,λA h2 nA kA sb=> ?_⟩) ?_
 ·refine lcA (j:=λh=>h A) (jG T n) jA (λW=> .int ((W.length:G5):P1)) ll kA (λR r=>r) (λW hW Q' q'=>⟨_,rfl,?_⟩) (λp hp=>hC _ _ ⟨p,_,rfl,sb.newAt hp,?_⟩)
  ·show Q' (.int (((W.map λ(k:G5)=>D.int (k:P1)).length:G5):P1)) _;rw [G2];exact q'
  ·rw [jc,N8];rfl
 rintro _ h2 ⟨A,v,rfl,sb,kA⟩;refine jg (λIO h'=> ∃B u v w,IO= [some (jP T),some (.lst A),some (.lst B),u,v,w]/\Sub h h'/\h' A=some (((jG T n).map O1).map λ(l:G5)=>D.int (l:P1))/\h' B=some (((P4 6).filter (XU ((jG T n).map O1))).map λ(i:G5)=>D.int (1+(i:P1)))) (λC hC=> ?_) ?_
 ·refine Bo (h1:=h2) ((P4 6).map λ(k:G5)=>D.int (1+(k:P1))) (λk ys h'=>h'=h2/\ys=(((P4 k).filter (XU ((jG T n).map O1))).map λ(i:G5)=>D.int (1+(i:P1)))) (by decide) (λR r=>⟨1,7,rfl,by decide,r⟩) ⟨rfl,rfl⟩ (λk ys h' w=> ?_) (λk d ys h' hd w=> ?_) (λys h' w p hp=> ?_)
  ·rw [w.2,G2];exact R6 (Q4 _ _) (by rw [S7];exact P3 _)
  ·obtain⟨rfl,rfl⟩:=w;have hkl:=(P6.mp hd).1;have hk:k<6:=by rw [G2,S7] at hkl;exact hkl
   rw [P7,A8 hk] at hd;injection hd with hd
   subst hd;refine Of (lcF (j:=λh=>h A) ((jG T n).map O1) (λ(l:G5)=> .int (l:P1)) (λ(l:G5)=> .int (l:P1)) (λl=> !decide ((l:P1)%(1+(k:P1))=0)) (by rw [G2];exact ll) kA (λR r=>⟨_,rfl,r⟩) (λl hl Q' q'=>⟨_,rfl,_,rfl,by omega,_,rfl,q'⟩) (λl hl _ Q' q'=>⟨_,rfl,q'⟩) (λF eF=>⟨sz0,λG eG=>Lm (je jc eG) jc ⟨_,rfl,?_⟩⟩));have sb3:=Sub.newAt (L:=([]:G0 D)) (Sub.newAt (Sub.refl h') eF) eG;show if XU ((jG T n).map O1) k=true then _ else _
   refine WJ (λz=> ?_) λz=> ?_
   ·refine⟨_,rfl,h',sb3,hkl,rfl,?_⟩;rw [A5,J6,T7,Q8 z];rfl
   ·refine⟨h',sb3,hkl,rfl,?_⟩;rw [A5,J6,T7,Q9 z,fG,W4,O9]
  ·obtain⟨rfl,rfl⟩:=w;exact hC _ _ ⟨p,_,_,_,rfl,sb.newAt hp,je kA hp,jc⟩
 clear sb kA;rintro _ h3 ⟨B,u,v,w,rfl,sb,kA,kB⟩;refine⟨_,rfl,sz0,λp e=>Oe (je kA e) jc ⟨_,rfl,?_⟩⟩;have sb2:=Sub.newAt (L:=([]:G0 D)) sb e
 by_cases z:((jG T n).map O1)= []
 ·rw [D3 z];refine wz ⟨_,Sub.refl _,?_⟩;have q0:=q _ sb2;unfold jM at q0;rw [z] at q0;exact q0
 ·rw [D9 z];obtain⟨g1,g6⟩:=Og h6 z;refine JB ⟨_,rfl,((P4 6).filter (XU ((jG T n).map O1))).map (λ(i:G5)=>1+(i:P1)),_,?_,Sub.refl _,.inr ⟨B,rfl,je (by rw [kB,N8];rfl) e⟩,λm m1 m2=>⟨_,Sub.refl _,?_⟩⟩
  ·intro w;have:=UP g1 g6;rw [List.map_eq_nil_iff] at w;rw [w] at this;cases this
  ·have em:m=((jM T n:G5):P1):=by
    obtain⟨i,hi,rfl⟩:=S9.mp m1;have d:=ŵ.mp (C3.mp hi).2;have le:=lU (by exact g1) d;have ge:=m2 _ (aG (UP g1 g6));show (1:P1)+(i:P1)=((((jG T n).map O1).foldl bV 0:G5):P1);have ge:(1:P1)+(((((jG T n).map O1).foldl bV 0-1:G5)):P1)<=1+(i:P1):=ge;have g1:1<=((jG T n).map O1).foldl bV 0:=g1;omega
   rw [em];exact q _ sb2
def YB {rs:G0 G5}:zX (jA rs) j=(rs.getD j 0:P1):=by
 unfold zX jA;dsimp only;rw [D7,D7,P7];cases rs[j]? with
 |none=>rfl
 |some x=>rfl
def ģ.hold {d:G5}{rs:G0 G5}(t:ģ T n d rs)(d1:1<=d)(d6:d<=6):XS T n (.tup [.int (d:P1),jA rs])=true:=by
 show (zn (.int (d:P1)) 1 6&&(WB (jA rs) n (d:P1)&&Cg T n (jA rs) (d:P1)))=true;have a:zn (.int (d:P1)) 1 6=true:=by show (decide ((1:P1)<=d)&&decide ((d:P1)<=6))=true;rw [D3 (by omega),D3 (by omega)];rfl
 have b:WB (jA rs) n (d:P1)=true:=by
  show (decide (((rs.map λ(k:G5)=>D.int (k:P1)).length:P1)=n)&&(rs.map λ(k:G5)=>D.int (k:P1)).all (λx=>zn x 0 ((d:P1)-1)))=true;rw [G2,t.len,D3 rfl,lV,aN,N9];intro x hx;obtain⟨j,hj,rfl⟩:=X3 hx;have:=t.lt j (by rw [<-t.len];exact hj);rw [D7,G8 hj] at this;have this:rs[j]<d:=this;show (decide ((0:P1)<=(rs[j]:P1))&&decide ((rs[j]:P1)<=(d:P1)-1))=true;rw [D3 (by omega),D3 (by omega)];rfl
 rw [a,b,Gg λp j hp hj ar=>by rw [YB,YB,t.go p j hp hj (by omega),dS];rfl];rfl
def Ki {w:Str}(q:Q (.bl false) h)(hs:SeqAt.shaped (.tuple [.str w])=true:=by decide +kernel):neE (.tup [.str w]) (.tup [.str w]) h Q:=by
 refine⟨.tuple [.str w],.tuple [.str w],⟨_,rfl,_,_,rfl,rfl,rfl⟩,⟨_,rfl,_,_,rfl,rfl,rfl⟩,hs,hs,?_⟩;have e:O5 (.tuple [.str w]) (.tuple [.str w])=true:=by simp [O5,eQ]
 rw [e];exact q
def Js:RDn:=λds h Q=> ∃T,∃n e:G5,ds= [jP T]/\Sq n e T/\1<=n/\n<=6/\ ∀h',Sub h h'->Q (.bl true) h'
def Vx (Z:Zs mg)(B:Bm mg base)(a:xZ K mainGlobals "_law_right" =some (some (.ref f)))(TX: ∃c P,lM K "_law_right" =some (c,P)/\G0D K c P=true)(F:Þ K "_law_right" "_law_right" wG f fd)(XV:jy P w K mg base (n+2) "_law_beat" ["_law_table_here"] Zj)(Vy:jy P w K mg base (n+2) "_law_pieces" ["_law_table_here"] vf)(UU:jy P w K mg base (n+2) "_law_turns" ["_law_table_here","_law_thing"] Jr)(Ŷ:jy P w K mg base n "turns_of" ["table"] Wy)(ŷ:vz P w K mg base n "turns_of" ["table"] Zg)(CS:EA P w K mg base n):È P w K mg base Û ((n+2)+1) f fd ["_law_table_here"] (æ K Js):=by
 obtain⟨gS,gdS,GS,bGS,kGS,mGS⟩:=CS;obtain⟨tc,tP,T,tH⟩:=TX;have hTK:X0D K tP:=⟨"_law_right",by decide,tc,T⟩;refine F.okJL a T wc (λds h Q q=>by obtain⟨T,n,b,e,hT,h1,h6,q⟩:=q;subst e;rfl) _ (λA outer s H E hr=>(ο (è 1 wc (jk XV hr (j1 (jv 0)))) (Yi B9 rfl (Ņ Z ju) (ż 2 wc) (js2 (è 3 wc (Hc GS hr rfl mGS kGS bGS B rfl tH hTK (Eu rfl (by decide +kernel)) (FX (by show Ev _ (jd wG)=true;decide +kernel)) (λ_ _ _ _ _ _ _ _ _ hr=>(jk Ŷ hr (j1 (jv 0)))) (λ_ _ _ _ _ _ _ _ _ hr=>(jxk ŷ hr (j1 (jv 0)))))) (On (Ź (Gy (ý ë (Wr Z (jk Vy hr (j1 (jv 0)))) ju) (MC (ý ê (jv 1) ju)))) (jE (Ws (ý (Qj hr.units) (jv 3) (VE (j1 Yg))) (wj ŝ))) (jE (On (Ź (Gy (ý ë (à (jv 3) ju) Yg) (MC (wT (wA (jk UU hr (j2 (jv 0) (à (jv 3) ju)))))))) (jE (wj ŝ)) (jE (Ws (Ź (Gy (ý (Qj hr.units) (à (à (jv 3) ju) ju) (jv 1)) (MC (ý ë (à (à (à (jv 3) ju) ju) ju) ju)))) (wj ŝ)))))))) (wj ŝ))) ?_;intro ds h Q q;obtain⟨T,n,b,e,hT,h1,h6,q⟩:=q;subst e;refine jg (λIO h'=>IO= [some (jP T),some (.int ((jM T n:G5):P1)),none,none]/\Sub h h') (λC hC=>⟨_,rfl,T,n,b,rfl,hT,h1,h6,λh' sb=>hC _ _ ⟨rfl,sb⟩⟩) ?_;rintro _ h2 ⟨rfl,sb⟩;refine jg (λIO h'=>Sub h h') (λC hC=> ?_) (λ_ h' sb=>⟨_,Sub.refl _,q h' sb⟩);refine zT 2 (λi IO h'=> ∃u v,IO= [some (jP T),some (.int ((jM T n:G5):P1)),u,v]/\Sub h h') (by decide) (λR r=>r) ⟨_,_,rfl,sb⟩ (λIO h' ⟨_,_,_,z⟩=>hC _ _ z) ?_;clear sb;rintro i _ h3 hi ⟨u,v,rfl,sb⟩
 by_cases go:(vP T n).length=1/\jM T n≠0
 ·refine jg (λIO h'=> ∃rs,ģ T n (jM T n) rs/\rs.getD 0 0=0/\IO= [some (jP T),some (.int ((jM T n:G5):P1)),some (.int (i:P1)),some (.tup [.str "told",.tup [.int ((jM T n:G5):P1),jA rs]])]/\Sub h h') (λC hC=> .inl ⟨_,rfl,T,n,b,rfl,hT,h1,h6,go.1,go.2,λrs h' tu r0 sb'=>hC _ _ ⟨rs,tu,r0,rfl,sb.trans sb'⟩⟩) ?_;rintro _ h4 ⟨rs,tu,r0,rfl,sb4⟩;have g1:=go.1;have g2:=go.2;have bb:=YA h6 g2;have ok:okD (.tup [.int ((jM T n:G5):P1),jA rs])=true:=Gb (by show 2<=1000;decide) λx hx=>by
   rcases D5.mp hx with rfl|hx
   ·rfl
   ·rw [P0.mp hx];exact Gb (by rw [G2,tu.len];omega) λd hd=>by obtain⟨x,_,rfl⟩:=S9.mp hd;rfl
  have at0:Ċ (rs.map λ(k:G5)=>D.int (k:P1)) 0=some (.int 0):=by
   refine zH (j:=0) ?_;have l0:0<rs.length:=by rw [tu.len];omega
   rw [P7,G8 l0];rw [D7,G8 l0] at r0;have r0:rs[0]=0:=r0;rw [r0];rfl
  refine⟨_,rfl,T,n,b,rfl,hT,h6,λA h' fA kA sb'=>⟨_,kA,_,rfl,?_⟩⟩;show if (!decide (((((vP T n).map jA).length:G5):P1)=1))=true then _ else _
  rw [G2,D3 (by omega)];refine wz ⟨_,rfl,_,rfl,?_⟩;show if decide (((jM T n:G5):P1)=0)=true then _ else _
  rw [D9 (by omega)];refine wz ⟨_,rfl,_,rfl,_,rfl,wz ⟨_,rfl,_,rfl,_,rfl,T,_,n,b,rfl,hT,h1,h6,ok,_,rfl,?_⟩⟩;rw [tu.hold bb.1 bb.2];refine wz ⟨_,rfl,_,rfl,_,rfl,_,rfl,?_⟩;show ∃c,D.bl (!decide (((jM T n:G5):P1)=((jM T n:G5):P1)))= .bl c/\_;rw [D3 rfl];exact⟨_,rfl,wz ⟨_,rfl,_,rfl,_,rfl,_,at0,_,rfl,wz ⟨_,Sub.refl _,by omega,_,_,rfl,sb4.trans sb'⟩⟩⟩
 ·refine jg (λIO h'=>IO= [some (jP T),some (.int ((jM T n:G5):P1)),some (.int (i:P1)),some (.tup [.str "apart"])]/\Sub h h') (λC hC=> .inr ⟨_,rfl,_,rfl,.inr ⟨T,n,b,rfl,hT,h1,h6,?_⟩⟩) ?_
  ·by_cases one:(vP T n).length=1
   ·exact .inr ⟨one,V1 λz=>go ⟨one,z⟩,by decide,hC _ _ ⟨rfl,sb⟩⟩
   ·exact .inl ⟨one,by decide,hC _ _ ⟨rfl,sb⟩⟩
  rintro _ h4 ⟨rfl,sb4⟩;refine⟨_,rfl,T,n,b,rfl,hT,h6,λA h' fA kA sb'=>⟨_,kA,_,rfl,?_⟩⟩;show if (!decide (((((vP T n).map jA).length:G5):P1)=1))=true then _ else _
  rw [G2]
  by_cases one:(vP T n).length=1
  ·rw [D3 (by omega)];refine wz ⟨_,rfl,_,rfl,?_⟩;show if decide (((jM T n:G5):P1)=0)=true then _ else _
   rw [D3 (by have:jM T n=0:=V1 λz=>go ⟨one,z⟩;omega)];exact JB ⟨_,rfl,Τ,Ki ⟨_,rfl,wz ⟨_,Sub.refl _,by omega,_,_,rfl,sb4.trans sb'⟩⟩⟩
  ·rw [D9 (by omega)];exact JB (JB ⟨_,rfl,Τ,Ki ⟨_,rfl,wz ⟨_,Sub.refl _,by omega,_,_,rfl,sb4.trans sb'⟩⟩⟩)
def So (Z:Zs mg)(F:Þ K "law" "law" Pj f fd)(zR:jy P w K mg base n "_law_right" ["_law_table_here"] Js)(XW:jy P w K mg base n "_law_cell" ["_law_script","_law_k"] Zh)(Pq:jy P w K mg base n "_law_pen" ["_law_cell_here"] Wz)(vM:jy P w K mg base n "_law_joined_table" ["_law_pen_here","_law_size_here"] we)(WC:jy P w K mg base n "_law_size" ["_law_pen_here"] Zi)(UT:jy P w K mg base n "_law_table" ["_law_pen_here","_law_size_here"] we):È P w K mg base Û (n+1) f fd ["_law_script"] (æ K DJ):=by
 refine F.okM QZ (λhr=>(ο (Ws (Ź (Gy (wT (wA (jk zR hr (j1 (VE (j1 (VE (j1 ju)))))))) (Gy (wT (wA (jk zR hr (j1 (VE (j1 (VE (j1 ju)))))))) (MC (wT (wA (jk zR hr (j1 (VE (j2 (VE (j2 ju ju)) (VE (j2 ju ju)))))))))))) (wj ŝ)) (Yi B9 rfl (Fx (ç za (JH (j1 (jk XW hr (j2 (jv 0) ju)))) (Eh (jv 0) (DN ju) (DN ju)))) (ż 1 QZ) (ο (è 2 QZ (jk Pq hr (j1 (jv 1)))) (Yi B9 rfl (Ņ Z ju) (ż 3 QZ) (jE (Ws (wT (wA (jk zR hr (j1 (jk vM hr (j2 (jv 2) (jk WC hr (j1 (jv 2))))))))) (wj ŝ)))) (Ws (wT (wA (jk zR hr (j1 (jk UT hr (j2 (jv 2) (jk WC hr (j1 (jv 2))))))))) (wj ŝ)))) (wj ŝ))) ?_;rintro ds h Q ⟨ns,rfl,hh,hns,q⟩;refine⟨rfl,?_⟩;have hA:Sq 1 3 [[(0:P1)]]:=⟨by decide,by decide,by decide,by decide⟩;have hA4:Sq 1 3 [[(4:P1)]]:=⟨by decide,by decide,by decide,by decide⟩;have hB:Sq 2 3 [[(0:P1),1],[0,0]]:=⟨by decide,by decide,by decide,by decide⟩;refine jg (λIO h'=>IO= [some (.scr ns),none,none,none]/\True) (λC hC=>⟨Τ,Τ,[[0]],1,3,rfl,hA,by decide,by decide,λh' sb=>⟨_,rfl,wz ⟨Τ,Τ,[[4]],1,3,rfl,hA4,by decide,by decide,λh' sb=>⟨_,rfl,wz ⟨sz2,sz2,sz2,[[0,1],[0,0]],2,3,rfl,hB,by decide,by decide,λh' sb=>⟨_,rfl,wz (hC _ _ ⟨rfl,aS⟩)⟩⟩⟩⟩⟩⟩) ?_;rintro _ h ⟨rfl,_⟩;refine jg (λIO h'=>True) (λC hC=> ?_) (λIO h3 hV=>⟨h3,Sub.refl _,q h3⟩);refine⟨_,rfl,ns,0,rfl,(by decide),λn0=>⟨Τ,λp1 e1=>⟨_,rfl,_,rfl,_,rfl,λp2 e2=>⟨_,_,je jc e2,jc,?_,λp3 e3=>⟨p3,rfl,?_⟩⟩⟩⟩⟩
 ·have:(Gv ns (some 1) (some 5)).length<=ns.length:=by unfold Gv;rw [N0,C5];omega
  rw [G2];exact S6 (jw (by simp only [R1,C4];omega))
 generalize hcs:([D.int n0]++(Gv ns (some 1) (some 5)).map D.int)=cs;have hint: ∀d∈cs,∃c,d= .int c:=λd hd=>by
  rw [<-hcs] at hd;rcases R4.mp hd with z|z
  ·exact⟨n0,P0.mp z⟩
  ·obtain⟨x,_,e⟩:=S9.mp z;exact⟨x,e.symm⟩
 refine VW cs (λi IO h'=> ∃a1 a2 a3,IO= [some (.scr ns),a1,a2,a3]/\h' p3=some cs) (λi IO h' ⟨_,_,_,_,k⟩=>k) ⟨_,_,_,rfl,jc⟩ (λIO h' _=>hC _ _ aS) ?_;rintro i d _ h4 hi ⟨b1,b2,b3,rfl,k3⟩;obtain⟨c,rfl⟩:=hint d (P9 hi);have hil:i<cs.length:=(P6.mp hi).1;show vp _ _ _ [some (.scr ns),some (.int c),b2,b3] h4;refine jg (λIO h'=> ∃p l fl,IO= [some (.scr ns),some (.int c),some (.lst p),b3]/\h' p=some [.int l,.int fl]/\0<=l/\h' p3=some cs/\p3≠p) (λC hC=> ?_) ?_
 ·refine⟨_,rfl,c,rfl,λp l fl ep l0 _=>hC _ _ ⟨p,l,fl,rfl,jc,l0,je k3 ep,U6 (jp k3 ep)⟩⟩
 rintro _ h5 ⟨p,l,fl,rfl,kp,l0,k3,n3⟩;refine jg (λIO h'=> ∃b3 l2,IO= [some (.scr ns),some (.int c),some (.lst p),b3]/\h' p=some [.int l2,.int fl]/\0<=l2/\h' p3=some cs) (λC hC=> ?_) ?_
 ·refine zT 3 (λi IO h'=> ∃b3 l2,IO= [some (.scr ns),some (.int c),some (.lst p),b3]/\h' p=some [.int l2,.int fl]/\0<=l2/\h' p3=some cs) (by decide) (λR r=>r) ⟨_,l,rfl,kp,l0,k3⟩ (λIO h' z=>hC _ _ z) ?_;clear kp l0 k3;rintro t _ h6 ht ⟨b3',l2,rfl,kp,Ι,k3⟩;exact⟨_,rfl,_,rfl,p,l2,fl,rfl,kp,Ι,λn l3 n1 n6 ψ=>⟨p,l3,fl,n,rfl,jc,ψ,n1,n6,λT l4 gT l40=>⟨T,n,20,rfl,gT.sq,n1,n6,λh' sb=>⟨_,rfl,wz ⟨_,Sub.refl _,by omega,_,l4,rfl,sb _ _ jc,l40,sb _ _ (jh n3 (jh n3 k3))⟩⟩⟩⟩⟩
 clear kp l0 k3;rintro _ h7 ⟨c3,l2,rfl,kp,Ι,k3⟩;exact⟨_,rfl,_,rfl,p,l2,fl,rfl,kp,Ι,λn l3 n1 n6 ψ=>⟨p,l3,fl,n,rfl,jc,ψ,n1,n6,λT l4 gT l40=>⟨T,n,20,rfl,gT.sq,n1,n6,λh' sb=>⟨_,rfl,wz ⟨_,Sub.refl _,by omega,_,_,_,rfl,sb _ _ (jh n3 (jh n3 k3))⟩⟩⟩⟩⟩
end
def Sr {l:sE}{w:B0}{K:G6}{h:C7}{mg:Str->P5 G1}{fa:G9}(X:K.In h)(G:h.Ns mainGlobals mg)(hfa:mg "law" =some (.ref fa))
 (d0:Ç K "is_whole" JV fu0 eu0)
 (d1:Ç K "is_table_row" wK fu1 eu1)
 (d2:Ç K "has_table_form" zU fu2 eu2)
 (d3:Ç K "want_table" wF fu3 eu3)
 (d4:Ç K "step_after" yA fu4 eu4)
 (d5:Ç K "reaches" Wt fu5 eu5)
 (d6:Ç K "pieces_by" vE fu6 eu6)
 (d7:Ç K "pieces" ZE fu7 eu7)
 (d8:Ç K "joined" ZF fu8 eu8)
 (d9:Ç K "heads" XL fu9 eu9)
 (d10:Ç K "greatest_into" wv fu10 eu10)
 (d11:Ç K "all_rounds" yB fu11 eu11)
 (d12:Ç K "beat" QY fu12 eu12)
 (d13:Ç K "steps_from_start" zC fu13 eu13)
 (d14:Ç K "turns_of" yT fu14 eu14)
 (d15:Ç K "_law_cell" vF fu15 eu15)
 (d16:Ç K "_law_pen" JY fu16 eu16)
 (d17:Ç K "_law_draw" vG fu17 eu17)
 (d18:Ç K "_law_whole" yC fu18 eu18)
 (d19:Ç K "_law_kind" vH fu19 eu19)
 (d20:Ç K "_law_said" vI fu20 eu20)
 (d21:Ç K "_law_size" vJ fu21 eu21)
 (d22:Ç K "_law_table" yD fu22 eu22)
 (d23:Ç K "_law_after" yE fu23 eu23)
 (d24:Ç K "_law_order" yF fu24 eu24)
 (d25:Ç K "_law_far" JZ fu25 eu25)
 (d26:Ç K "_law_pieces" wZ fu26 eu26)
 (d27:Ç K "_law_turns" yG fu27 eu27)
 (d28:Ç K "_law_joined_table" zp fu28 eu28)
 (d29:Ç K "_law_rounds" ya fu29 eu29)
 (d30:Ç K "_law_beat" vK fu30 eu30)
 (d31:Ç K "_law_right" wG fu31 eu31)
 (d32:Ç K "law" Pj fu32 eu32)
 {tk0:Tok}(v0:xZ K mainGlobals "MOST_ROWS" =some (some (.int 6 tk0)))
 (z:zsB K=true)
 (ex:Hd K=true)
 (tb0:FZ K "_law_right" =true)
 : ∃fd:M6,(∀ (s:G3) (v:G1),oI s fd ⟨[v],[]⟩ [("_law_script",v)])/\ ∀base:C7,K.In base->base.Ns mainGlobals mg->Bm mg base->È l.prog w K mg base Û 12 fa fd ["_law_script"] (æ K DJ):=by
 have e:=hfa.symm.trans (d32.nm X G);cases e;have vN: ∃tk,mg "MOST_ROWS" =some (.int 6 tk):=⟨_,G0Z X G v0⟩;have Z:=Hk X G z;have Ex:Exc K mg:=Ey X G ex;have VB:=La tb0;obtain⟨_,_,kV,dc,pm,an,cd,ct,_,rfl,_⟩:=d32.fn.ex;refine⟨Y5 "law" "law" (yo Pj) (jS Pj) (jd Pj) .none kV dc pm an cd ct,λs v=> .of_eq rfl,λbase _ _ B=> ?_⟩;have Pv:=λn=>d0.cal l w base X G (XM (n:=n+0) Z d0.fn)
 have WU:=λn=>d1.cal l w base X G (Ww (n:=n+1) Z d1.fn (Pv (n+0)))
 have yk:=λn=>d2.cal l w base X G (Za (n:=n+2) Z d2.fn (WU (n+0)) vN)
 have Zl:=λn=>d3.cal l w base X G (Vo (n:=n+3) Z d3.fn (yk (n+0)))
 have Xf:=λn=>d3.rai l w base X G (WQ (n:=n+3) Z Ex d3.fn (yk (n+0)))
 have Xe:=λn=>d4.cal l w base X G (Vp (n:=n+0) Z d4.fn)
 have Mz:=λn=>d5.cal l w base X G (Pk (n:=n+0) Z d5.fn)
 have Qb:=λn=>d6.cal l w base X G (UJ (n:=n+0) Z d6.fn)
 have Bq:=λn=>d7.cal l w base X G (Ms (n:=n+4) Z d7.fn (Zl (n+0)) (Qb (n+3)) (Mz (n+3)))
 have Bs:=λn=>d7.rai l w base X G (Pl (n:=n+4) Z Ex d7.fn (Xf (n+0)))
 have Gh:=λn=>d8.cal l w base X G (Mt (n:=n+5) Z d8.fn (Bq (n+0)))
 have Br:=λn=>d8.rai l w base X G (Pm (n:=n+5) Z Ex d8.fn (Bs (n+0)))
 have Oi:=λn=>d9.cal l w base X G (Bh (n:=n+0) Z d9.fn)
 have WE:=λn=>d10.cal l w base X G (Zp (n:=n+0) Z d10.fn)
 have Xd:=λn=>d11.cal l w base X G (Vq (n:=n+4) Z d11.fn (Zl (n+0)) (Oi (n+3)))
 have Ch:=λn=>d12.cal l w base X G (Ob (n:=n+6) Z d12.fn (Gh (n+0)) (Xd (n+1)) (WE (n+5)))
 have Su:=λn=>d12.rai l w base X G (Bi (n:=n+6) Z Ex d12.fn (Gh (n+0)) (Br (n+0)))
 have Ju:=λn=>d13.cal l w base X G (vL (n:=n+1) Z d13.fn (Xe (n+0)))
 have Pw:=λn=>d14.cal l w base X G (XO (n:=n+7) Z d14.fn (Ch (n+0)) (Ju (n+5)))
 have Px:=λn=>d14.rai l w base X G (UL (n:=n+7) Z Ex d14.fn (Ch (n+0)) (Su (n+0)))
 have XZ:=λn=>d15.cal l w base X G (UM (n:=n+0) Z d15.fn)
 have Pu:=λn=>d16.cal l w base X G (XQ (n:=n+0) Z d16.fn)
 have yf:=λn=>d17.cal l w base X G (UN (n:=n+0) Z d17.fn)
 have Xc:=λn=>d18.cal l w base X G (Vr (n:=n+0) Z d18.fn)
 have X0S: ∀n,Rk l.prog w K mg base (n+1) "_law_kind" ["_law_e"] (Ro mg):=λn=>⟨_,_,Vs (n:=n) Z Ex d19.fn,d19.fn.binds (ps:= ["_law_e"]) λ_ _ _ _ _ _ us hl=>match us,hl with| [_],_=>rfl,d19.fn.kp,d19.nm X G⟩
 have X0T: ∀n,EA l.prog w K mg base (n+1):=λn=>⟨_,_,Oc (n:=n+1) Z Ex d20.fn (X0S n),d20.fn.binds (ps:= ["_law_call"]) λ_ _ _ _ _ _ us hl=>match us,hl with| [_],_=>rfl,d20.fn.kp,d20.nm X G⟩
 have Qa:=λn=>d21.cal l w base X G (UO (n:=n+1) Z d21.fn (yf (n+0)))
 have Xa:=λn=>d22.cal l w base X G (Vt (n:=n+1) Z d22.fn (yf (n+0)))
 have UX:=λn=>d23.cal l w base X G (Vu (n:=n+0) Z d23.fn)
 have UY:=λn=>d24.cal l w base X G (Vv (n:=n+1) Z d24.fn (yf (n+0)))
 have Ps:=λn=>d25.cal l w base X G (XR (n:=n+1) Z d25.fn (UX (n+0)))
 have VC:=λn=>d26.cal l w base X G (WR (n:=n+2) Z d26.fn (Ps (n+0)))
 have Xb:=λn=>d27.cal l w base X G (Vw (n:=n+1) Z d27.fn (Xc (n+0)))
 have vO:=λn=>d28.cal l w base X G (yX (n:=n+2) Z d28.fn (UY (n+0)) (yf (n+1)))
 have VD:=λn=>d29.cal l w base X G (WS (n:=n+0) Z d29.fn)
 have XY:=λn=>d30.cal l w base X G (UQ (n:=n+1) Z d30.fn (VD (n+0)))
 have UZ:=λn=>d31.cal l w base X G (Vx (n:=n+8) Z B d31.at_ VB d31.fn (XY (n+8)) (VC (n+7)) (Xb (n+8)) (Pw (n+0)) (Px (n+0)) (X0T (n+7)))
 exact So (n:=11) Z d32.fn (UZ 0) (XZ 10) (Pu 10) (vO 8) (Qa 9) (Xa 9)
end My
namespace PySem.W.Fast
def tw15997049418225841322:=G5
def tw5181012022623893915:=G5
def tw16639329120618979824:=G5
def tw14508849686691552207:=G5
def tw11848905507618341977:=G5
def tw17940009691875894713:=G5
def tw12337675850006388004:=G5
def tw5119693478837295915:=G5
def tw6802505792210470019:=G5
def tw12925214245646336896:=G5
def tw8737641422014253663:=G5
def tw15971084686146704516:=G5
def tw10035037601076657902:=G5
def tw9663717955954398970:=G5
def tw9186416042723059501:=G5
def tw17968237780972168489:=G5
def tw1365940574665469499:=G5
def tw10283865351875869875:=G5
def tw9254853548940920809:=G5
def tw3723604810912907720:=G5
def tw12287159748447434356:=G5
def tw1051975861449142401:=G5
def tw595136403867570956:=G5
def tw12455580019438465691:=G5
def tw6246032543061444985:=G5
def tw7411025270406790072:=G5
def tw15672421967361400122:=G5
def tw11325113818281517412:=G5
def tw6424560872866521943:=G5
def tw9667431713477413610:=G5
def tw6583339016343312437:=G5
def tw7840400771170302443:=G5
def tw18332919354261376115:=G5
def tw8088255859130844912:=G5
def tw258657816714302111:=G5
def tw14192845960383650176:=G5
def tw2695384664705437693:=G5
def tw17008844901221235007:=G5
def tw2763698245131240425:=G5
def tw18066137032087106691:=G5
def tw5089128653216962782:=G5
def tw10723398837052193258:=G5
def tw10559028546892348852:=G5
def tw3066023442533583218:=G5
def tw3639629760467455093:=G5
def tw8611629808440008649:=G5
def tw16988915250253412453:=G5
def tw9022555113375864684:=G5
def tw6765573303660569546:=G5
def tw16094515009269158476:=G5
def tw7601045241353770708:=G5
def tw18080870223840117406:=G5
def tw4251994952979880499:=G5
def tw1670148802970034314:=G5
def tw18255598660101856471:=G5
def tw770306527929148357:=G5
def tw14620219485652889259:=G5
def tw5564458063434042601:=G5
def tw16598881179470429046:=G5
def tw17322319632573246237:=G5
def tw13586338358107286190:=G5
def tw707759635606882123:=G5
def tw12296236451892516127:=G5
def tw15939662440973054609:=G5
def tw3738623850245687906:=G5
def tw15940405942054971281:=G5
def tw9632244441556573025:=G5
def tw5825849360993075654:=G5
def tw17992488680260961029:=G5
def tw9961234143963389633:=G5
def tw13951524366149746966:=G5
def tw12974796040543427873:=G5
def tw14401938111839671988:=G5
def tw17805074999684697119:=G5
def tw3130507134300138329:=G5
def tw3425927109825860563:=G5
def tw5542412316621278153:=G5
def tw2156354413379782848:=G5
def tw9885507073882567452:=G5
def tw13431281605327134402:=G5
def tw17784845607185906223:=G5
def tw3184079774728087583:=G5
def tw10304347801357841023:=G5
def tw16015277689077491190:=G5
def tw13794788491428488431:=G5
def tw2421305011896351323:=G5
def tw17541613617669716028:=G5
def tw15209116037483968872:=G5
def tw13558222288615816557:=G5
def tw6322307938458312521:=G5
def tw8983373458539470910:=G5
def tw455383197296749337:=G5
def tw2294515569235773524:=G5
def tw5555108133834508785:=G5
def tw16427188390278160970:=G5
def tw17039496607025666991:=G5
def tw5758156248581846581:=G5
def tw3221968600178966171:=G5
def tw9780935147236609080:=G5
def tw3765593037957814961:=G5
def tw16510187012646547116:=G5
def tw16653242537036841956:=G5
def tw6214627725668470734:=G5
def tw12698736481035068874:=G5
def tw4656318381415126692:=G5
def tw5574268463088140663:=G5
def tw673300502188817919:=G5
def tw560868971841860622:=G5
def tw8423276592957460282:=G5
def tw13331916028985754378:=G5
def tw17013542079093560850:=G5
def tw4687869947019218608:=G5
def tw17688086354402314012:=G5
def tw10431408582082162984:=G5
def tw11145847976436666414:=G5
def tw13116834272024611734:=G5
def tw656882674536852529:=G5
def tw11089260975356520423:=G5
def tw13418139558862601129:=G5
def tw13811022901098607691:=G5
def tw12697970887604900135:=G5
def tw5870253975800472780:=G5
def tw8798499595458168916:=G5
def tw13889702176953545665:=G5
def tw7979421329554994125:=G5
def tw7954937675640723384:=G5
def tw16320746271315432769:=G5
def tw14560622600398345695:=G5
def tw4035724322138077128:=G5
def tw15856496722003198505:=G5
def tw2839066112132586293:=G5
def tw11693899912135297772:=G5
def tw8737582584929948617:=G5
def tw2724046862736519944:=G5
def tw17808892154495593834:=G5
def tw12703854583900032477:=G5
def tw3131186123400031947:=G5
def tw15549836256911596521:=G5
def tw9343172375768255149:=G5
def tw3581734917686032650:=G5
def tw4536484186696499970:=G5
def tw9143084820562720820:=G5
def tw8604395958810916651:=G5
def tw755465668033731929:=G5
def tw13760938861627797771:=G5
def tw471431590016045920:=G5
def tw8619924837486058275:=G5
def tw16038037818209745826:=G5
def tw2873071856532125026:=G5
def tw15512440361713442372:=G5
def tw6136969503461516548:=G5
def tw12489680999698604699:=G5
def tw5289298521679159253:=G5
def tw9466210214539353367:=G5
def tw15521167127784992619:=G5
def tw10392626915591841217:=G5
def tw8815491774762926980:=G5
def tw17420846425414385450:=G5
def tw15434602094411104694:=G5
def tw12607843938613770610:=G5
def tw929432129637890704:=G5
def tw10084847608365589906:=G5
def tw11469438076577196208:=G5
def tw1522822515474071916:=G5
def tw8684469026115150750:=G5
def tw9921487775640662814:=G5
def tw16228519798640026542:=G5
def tw11358404719643291293:=G5
def tw11242412950822742214:=G5
def tw3284165189702681897:=G5
def tw4648163207479220015:=G5
def tw9732439744405270055:=G5
def tw18416077366298394799:=G5
def tw2946945148497825983:=G5
def tw10876365127499759654:=G5
def tw6668823900924525891:=G5
def tw7980678647351264121:=G5
def tw17447357759668898196:=G5
def tw4890695895551535941:=G5
def tw8370364813280437542:=G5
def tw194673183223686522:=G5
def tw14244726058967970893:=G5
def tw1307645180876634185:=G5
def tw7871424520443601905:=G5
def tw4371642267626408303:=G5
def tw14126515453925577403:=G5
def tw3779515879227576494:=G5
def tw4194772406174524830:=G5
def tw18051324717621891683:=G5
def tw16882789635213243381:=G5
def tw6723182586757941360:=G5
def tw9788056732581800590:=G5
def tw7989580546478215620:=G5
def tw7774245598506133923:=G5
def tw14183180153732470823:=G5
def tw1930614041176385631:=G5
def tw12769097398808110969:=G5
def tw13595883918904767160:=G5
def tw4084888503121785852:=G5
def tw17153489635426627247:=G5
end PySem.W.Fast
open PySem PySem.W PyProof.Rows
set_option maxRecDepth 100000 in
set_option maxHeartbeats 0 in
theorem PySem.Challenge.cw_firstpowers_k29_turns_told_holds : PySem.Challenge.rw_firstpowers_k29_turns_told.Holds := by
  w_on; o_law; k_head; (case hw => w_witness2)
  k_fill
  refine L2.Nh (l := PySem.Challenge.rw_firstpowers_k29_turns_told) (k := 12) (x := "_law_script") rfl rfl ⟨rfl, by decide, by decide, rfl⟩ (fun w h Y => PySem.W.km_in_of Y) ?B ?F
  case B => intro w; kernel_rfl
  case F =>
    intro w mg fa h KX G hmg
    refine' My.Sr KX G hmg ?d0 ?d1 ?d2 ?d3 ?d4 ?d5 ?d6 ?d7 ?d8 ?d9 ?d10 ?d11 ?d12 ?d13 ?d14 ?d15 ?d16 ?d17 ?d18 ?d19 ?d20 ?d21 ?d22 ?d23 ?d24 ?d25 ?d26 ?d27 ?d28 ?d29 ?d30 ?d31 ?d32 ?v0 ?z ?ex ?tb0
    case d0 | d1 | d2 | d3 | d4 | d5 | d6 | d7 | d8 | d9 | d10 | d11 | d12 | d13 | d14 | d15 | d16 | d17 | d18 | d19 | d20 | d21 | d22 | d23 | d24 | d25 | d26 | d27 | d28 | d29 | d30 | d31 | d32 => refine' L2.Sg ?a ?l ?c ?k; (case a => k_is); (case l => k_is); (case c => k_is); (case k => k_is)
    case v0 => k_is
    case z | ex | tb0 => kernel_rfl
