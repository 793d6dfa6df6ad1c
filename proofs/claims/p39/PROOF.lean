import PyProof.Rows.All
import Wide.All
import OpenK.AllK
import Wide.FinOn
import Lean
import PyProof.EqAt
import PyProof.EqKinds
import PyProof.TupleCall
import PyProof.Rows.TopTwo
import KE.KIsAll
import PyProof.ExcAttrAll.ValueError
import KE.KTryMore
import KE.KRevIter
import PyProof.SetRoads
import PySem.Challenge.RW_firstpowers_k39_whole_first_or_never
set_option Elab.async false
set_option linter.all false
set_option maxRecDepth 100000
set_option maxHeartbeats 8000000
open _root_ renaming List->G0,Nat->G5,Int->G8,decide_eq_true->G9,Option->D4,decide_eq_false->D5,if_pos->D8,if_neg->D9,Bool->T9,decide_eq_true_iff->M6,of_decide_eq_true->N2,Array->N8,decide_eq_true_eq->K1,String->U1,StateT->V1,exists_eq_left'->aU,if_true->fE,ForInStep->fL,decide_eq_false_iff_not->hZ,if_false->lG,of_decide_eq_false->mY
open List renaming length_map->G1,getElem?_eq_getElem->G2,range->G3,mem_singleton->P1,length_append->P2,length_range->P3,mem_range->P6,getElem?_eq_some_iff->P8,getElem?_map->P9,mem_of_getElem?->D0,getD_eq_getElem?_getD->D1,append_assoc->D3,mem_append->R1,mem_cons_self->R3,getElem?_append_right->R4,mem_append_right->R5,length_cons->R7,mem_map->R8,size_toArray->R9,map_map->S2,mem_cons_of_mem->S3,getElem?_append_left->S4,take_of_length_le->S5,map_append->S8,length_take->T0,mem_cons->T6,take_append_drop->T7,all_eq_true->T8,map_cons->M1,map_congr_left->M5,mem_filter->M7,length_reverse->M8,replicate->N3,length_drop->N5,take_add_one->N7,pairwise_append->B0,getElem_mem->B3,length_nil->B9,getElem?_range->C0,mem_append_left->C8,range_succ->F7,mem_of_mem_drop->F9,flatMap_cons->H0,pairwise_singleton->L0,getElem?_eq_none->L5,drop_eq_nil_of_le->L7,getElem?_set_ne->L8,mem_of_mem_take->O7,length_filter_le->O9,append_nil->A2,nil_append->A3,filter_append->A4,not_mem_nil->A8,idxOf_lt_length_iff->A9,getElem_of_mem->E1,length_singleton->E2,all_map->E4,pairwise_map->E5,mem_reverse->J3,extract_eq_drop_take->J4,getLastD_eq_getLast?->J7,getLast?_eq_getElem?->J8,flatMap_append->K0,getElem_idxOf->K4,lookup_cons->K6,filter_cons_of_pos->K7,getElem?_cons_zero->K8,range_succ_eq_map->Q0,drop_sublist->Q1,reverse_perm->Q5,replicate_succ->Q7,getElem?_reverse->U0,cons_append->U3,any_eq_true->U4,map_nil->U7,drop_append_of_le_length->V2,take_append_of_le_length->V3,filter_cons_of_neg->V5,nodup_cons->V7,find?_cons->V8,take_length->W6,drop_drop->X1,pairwise_iff_getElem->X4,length->X9,take_sublist->Y0,flatten_cons->Y2,nodup_append->Y9,length_eq_zero_iff->aG,eq_nil_of_length_eq_zero->aI,zip_cons_cons->aL,pairwise_cons->aO,getElem?_drop->aP,perm_append_comm->aX,ext_getElem?->a9,take_zero->bI,mem_map_of_mem->bT,getElem?_take_of_lt->bX,length_erase_of_mem->b8,sum_cons->b9,of_mem_zip->cC,length_zip->cF,mem_filterMap->cI,getElem_range->cJ,getElem?_cons_succ->cR,getElem?_set_self->cS,getElem?_set->cZ,drop_zero->dD,length_pos_of_mem->dF,pairwise_reverse->dJ,nodup_range->dN,any_cons->dQ,mem_erase_of_ne->dY,map_id->dZ,forIn_cons->eO,filterMap_cons->e6,filter_eq_self->e9,any_map->fI,map->gD,drop_eq_getElem_cons->gJ,getElem?_eq_none_iff->gK,zip_nil_left->gR,filter_congr->gS,getElem_drop->gV,mapM_toArray->gW,set_comm->gX,all_cons->gY,getElem?_replicate->g8,range'_succ->iA,ext_getElem->iB,perm_middle->iC,getElem_map->iD,all_toArray->iI,mem_flatMap->iJ,not_of_lt_findIdx->i5,length_eq_one_iff->i8,filter_eq_nil_iff->i9,sum_append->j6,filter_nil->k5,getElem?_toArray->k9,getElem?_zipIdx->lO,drop_take->lS,take_take->lU,getLast?_concat->lV,getElem?_of_mem->lW,take_succ_cons->mH,map_take->mN,map_drop->mO,zip_nil_right->mT,append_of_mem->mZ,getElem_take->nU,countP_cons->oO,append_cons->oP,map_flatMap->oS,foldl_cons->o6,idxOf_cons->pF,foldl->p0,forIn_nil->rG,map_id'->tM,range'->t8,Nodup->IE
open PySem.W renaming Frag->G6,kia_one->I0,keepIn->aE,fnOf->bL,mg_of->cB,nsIn->dH,methodObj->gM,cellsFrom_some->iM,instObj->j5,kat_nil->j9,lookIn->lD,kitOne->lE,codeIn->lF,tabObj->lK,tabIn->mM,kitx_list->m9,kitx_dict->nB,plainGet->oE,OpenLaw->pB,kat_one->pL,findIn->pU,CodeHd->q0,Looks->sH,hideAll_size->tS,hideAll_none->tT,kas_first_eq->u9,hideAll_get->v9,of_hideAll->w8,kitx_float->y3,kitx_tuple->y4,callWith_K->y6,codeRec_of->y8,ki_setBack->z7,hasDictIn->IJ,plainOver->IK,specialIn->IL,kitx_none->IM,kitx_bool->IN,eq_bytes->IR,ne_bytes->IS,kitx_int->IU,kitx_str->IV,kitx_own->IW,ki_setAt->IX,kat_cons->IY,hideAll->IZ,takesIn->G0a,kat_yes->G0b,InstAt->G0d,tab_of->G0j,KatLex->G0n,kat_go->G0o,kat_no->G0p,kat_lt->G0r,mroIn->G0s,WalkO->G0t
open PySem renaming Value->G7,Shared->P0,Addr->P4,wpAny_pure->D2,starEach->D6,FuncData->R6,wpAny->S6,foldedSetIterable->S9,Expr->T1,model->T4,Program->M0,wpAny_mono->N0,compareOp->N9,Around->C5,World->C6,Stmt->C9,Heap->L6,mainGlobals->L9,eval->O5,wpAny_truthy_bool->O6,wpAny_call_entry->A7,bootBuiltins->E3,backTo->E7,binaryOp->E9,wpAny_holding->K2,wpAny_callSpecial?_slot->K5,cellsFrom->Q6,Scope->U5,behindInMarks->U6,wpAny_newObj_type->V4,PyData->W3,attributeBase->W4,IsPair->X0,wpAny_passesOwn->X6,letOwnedTupleGo->X7,Keyword->Y1,swapsWithSole->Z5,swappedStores->Z6,mem_of_lookup->aC,swapsWith->aD,keywordEach->aH,sysModules->aJ,wpAny_pyIter_tuple->aM,wpAny_standAt->aV,holding->aY,wpAny_pyIter_list->aZ,assignEach->cG,wpAny_rule->cH,sliceBounds->cP,bindName->cT,wpAny_bindName->cU,wpAny_pyIter_enum->dE,Fin->dM,assignInOrder->dP,Comprehension->dR,backToKw->dW,wpAny_execs_nil->eJ,assign->eM,standAt->fB,codeAny->fC,getItem->fF,wpAny_Call_Name_kw->fQ,call_meets->fX,wpAny_letOwnedTupleGo_enum->gA,wpAny_binaryOp_repeat_ref->gG,CmpOp->gQ,lastMarks->g7,noFill_tuple_add->hO,wpAny_pyNext_enum_itemD->iF,builtinsNs->iK,IsPart->iO,typeIs_int->iR,wpAny_Call_method_late->iT,wpAny_pyNext_enum_endD->iY,wpAny_loadName_local->lA,sizeLine_eq->lC,subscripted->lH,lookup_relabel_local->lI,intBits_le_iff->lM,wpAny_updateSeq_pair->lQ,wpAny_pyIter_revIter->lR,PassesOwn->l9,callerA->mB,valueAt->mC,wpAny_loadName_cell->mD,seq_tuple_add->mJ,wpAny_newList->mP,Operator->m7,codeAny_mono->nD,concat_meets->nE,wpAny_sequenceKey->nF,wpAny_typeOf->nG,seqIndex_neg->nH,compTurn->nJ,wpAny_isNot_plain->nM,wpAny_eqBool_int->oB,wpAny_execs_cons->oC,wpAny_forIn_list->oG,seqSlot_of->oJ,wpAny_isInstance->oM,wpAny_field->oT,seqIndex_of->oU,exec_Assign_arm->oZ,pushCells_keeps->o8,codeAny_of_tree->o9,BindsTo->pO,wpAny_Name->pQ,truthy->pR,pyNext->pS,pyIter->pT,wpAny_call->pV,bindL->pW,bindC->pX,fitsIndex_both->p7,newFunctionEnv->p8,compEnvC->p9,wpAny_is_plain->rA,wpAny_setField->rF,wpAny_newTuple->rH,boot_len->rL,rangeSize_one->rP,intBits_le_64->rQ,evalPart_none->rS,comprehension->rT,eval_ListComp->rV,wpAny_onRaise->sC,wpAny_attempt->sD,Model->sJ,storeName->sK,atKey->sL,Within->sP,setItem->sS,rawInt->sT,call_range_1->sV,name_of_addr->sW,IsEnum->tG,callSpecial?->tJ,interactive->tU,unpackItems->tV,IsRangeIter->tW,bindArgs->tY,wpAny_of_eq->tZ,typeLookup->y9,typeIs_str->z6,call->z8,closureFor->z9,reduceHash->IA,seqRepeat?->IB,preSum->IC,TypeCalled->ID,release->II,operate->IO,again->G0c,Result->G0e,data2->G0f,typeOf->G0g,Params->G0h,stored->G0i
open Nat renaming le_refl->P5,le_of_lt->S1,le_trans->T5,ne_of_lt->M9,zero_le->N4,lt_of_lt_of_le->N6,lt_irrefl->O0,lt_of_le_of_ne->A5,lt_succ_self->J1,lt_of_succ_lt->Q4,lt_of_le_of_lt->U2,zero_add->U8,lt_or_ge->U9,pow_le_pow_right->V0,mod_lt->V9,ne_of_gt->W0,le_of_eq->W1,add_assoc->W5,mod_eq_of_lt->W7,min_eq_left->X8,lt_trans->Y3,min_le_right->aF,eq_zero_or_pos->aQ,div_add_mod->aS,le_add_left->aT,lt_succ_of_lt->a6,not_lt->bF,one_pos->bJ,gcd->bO,le_add_right->bP,add_zero->bQ,add_le_add_left->bV,mul_le_mul_left->bW,sub_lt->cK,pos_of_ne_zero->cL,add_comm->cX,lt_of_succ_le->c9,succ_le_of_lt->dG,le_of_not_lt->dL,succ_le_succ->dO,mul_add->eI,add_sub_cancel'->e7,succ_mul->fG,mul_comm->fH,sub_self->fK,add_mul_mod_self_left->gL,dvd_add_right->gU,add_sub_cancel_left->iH,mul_succ->i4,zero_mod->i6,dvd_of_mod_eq_zero->i7,le_succ->lL,mul_le_mul->lN,gcd_zero_right->m5,sub_zero->nN,pow_succ->nO,mul_zero->nP,sub_pos_of_lt->nQ,mul_mod_right->nV,add_mod_right->nW,zero_mul->nX,lt_trichotomy->nY,dvd_refl->nZ,le_total->n5,gcd_zero_left->n9,min_eq_right->oK,add_mod->oX,max_eq_left->pI,mod_add_div->pM,add_le_add->rJ,le_of_dvd->sE,dvd_trans->sI,gcd_comm->tN,mul_sub->v6,mod_one->v7,sub_le->IF,succ->G0m
open PySem.Heap renaming get?_push_of_some->P7,lt_size->S0,get?_push_size->T3,SameBut->aK,get?_update_self->aW,size_push->cY,get?_update_ne->e8,get?_update_other->iQ,ExtBut->oW,IsTuple->tH
open PyProof.Rows renaming Keyed->D7,arrOf->S7,pendingOf->B1,SortSt->B6,boot_all->C4,callWith_type1->O8,slot_tuple_getitem->Q8,IntsAre->Q9,assignInOrder_cons->W8,failedOf->Y7,seqObj->dA,envOfC->fT,AllBare->gO,assignInOrder_nil->gP,subscriptTail_builtinR->iP,lt_int->mE,entry_tuple_getitem->mF,IsTup->mI,tupleItemsOf_->mK,subscriptTail->mL,args_tuple_getitem->mU,unpackItems_tuple->m8,callWith_builtin1->oF,boot_isinstance->pA,entry_list_sort->pE,get?_update_seq->pJ,oneTypeOnly'_eq->pK,slicePart_none->pY,Subscript_->pZ,slot_list_sort->rC,args_list_sort->rD,keyKind'->rK,reverseSlice'->sF,listUpdate_at->sG,isTrue_plain->sQ,plain_sorted->sZ,entry_sorted->tD,args_sorted1->tE,listItems_at->tL,Call_->tX,kind_sorted->u0,mergeAt'->u6,binarySort'->u7,seqEpoch_at->u8,recsOf->w6,isTrue_and->x5,boot_range->x8,setPending->IG,oneLt'->G0q
open Bool renaming false_ne_true->R0,and_eq_true->B7,eq_iff_iff->B8,eq_false_iff->a8,or_eq_true->cE,true_and->dU,noConfusion->iG,false_and->lB,or_eq_false_iff->lJ,false_eq_true->mW
open PySem.PassesOwn renaming never->B2
open Option.some renaming inj->C1,injEq->Z0
open Array renaming length_toList->C7,getElem?_toList->F4,toList_append->F6,toList_push->Y5,toList_extract->Y8,toList_reverse->eG,isEmpty_eq_false_iff->f7,getElem?_eq_none_iff->gB,getElem?_eq_some_iff->gC,toList_setIfInBounds->gE,size_setIfInBounds->g6,getElem?_eq_none->iW,isEmpty_iff->nK,toList->sR
open PySem.PyData renaming eqv->F5,eqvAll->O3,depthAll->A6,canLayAll0->E6,canLay0->K3,int->aN,depth->bM
open Or renaming inl->F8,inr->J9
open Sum renaming inl->O4,inr->bK
open Function renaming comp_apply->A1,comp_def->a7
open Ne renaming symm->E8
open PySem.NameKind renaming free->J0,cell->aB
open PySem.Builtin.SmallTypes renaming nextOf->J5,stopIteration->Y6,ownedTupleIsFree->mQ
open Classical renaming byContradiction->J6,em->n8
open Option renaming map_eq_some_iff->K9,isSome_iff_exists->Z8,isSome_some->mV,getD_none->oH
open PySem.Value renaming type->V6,ref->X5,bool->Z4,int->cN,str->l8,none->mR,isStrOf->rO,isInt->tQ,float->tR
open PySem.F renaming slot_tuple_iterator_next->W9,args_tuple_add_2->bY,entry_tuple_add->cO,plainAttrs_list->cQ,slot_tuple_add->cV,slot_tuple_lt->dI,slot_int_rmul->eN,args_tuple_iterator_next_1->eQ,slot_dict_setdefault->eT,entry_tuple_iterator_next->fJ,slot_tuple_index->gZ,args_tuple_lt_2->g9,entry_tuple_lt->iN,args_int_rmul_2->nI,entry_int_rmul->oI,args_dict_setdefault_3->oR,entry_dict_setdefault->oY,fills_int_mul->o7,slot_zip_next->pG,slot_zip_iter->pH,type_dict_setdefault->pN,args_tuple_index_2->rB,entry_tuple_index->rN,slot_list_append->rW,type_list_append->rX,plainAttrs_tuple->rY,type_tuple_index->rZ,slot_list_insert->r9,type_list_insert->sB,slot_list_index->sM,type_list_index->sN,plainAttrs_dict->sO,called_zip->tK
open PySem.Builtin.Slice renaming slicePlaces->X2,sliceAdjust->bS,sliceApplied->fV,slicePartIndex->o0,sliceFields->rM
open Decidable renaming byContradiction->X3,not_not->IQ
open PyProof.Rows.LCg renaming lst->Y4
open True renaming intro->Z7
open PySem.Builtin.Tuple renaming tupleExact->Z9,tupleItemsOf->bE,tupleIsExact->fZ,tupleTooMany->f6,tupleHashOf->gH,tupleCompareSizes->oA
open PySem.Obj renaming mapSeq->aA,mapFields->dS
open ForInStep renaming yield->aR,done->G0k
open Std.Legacy.Range renaming forIn_eq_forIn_range'->bG,size->tP
open Int renaming le_refl->bH,natCast_emod->bR,toNat_natCast->dB,natCast_sub->eU,emod_nonneg->eZ,fdiv_eq_ediv_of_nonneg->fN,fmod_eq_emod_of_nonneg->fO,emod_lt_of_pos->gF,mul_comm->iU,natCast_add->j7,toNat_of_nonneg->mG,lt_of_lt_of_le->mX,toNat->oN,pow_pos->oV,mul_nonneg->rE,le_of_lt->tF,ne_of_gt->tO,mul_pos->u4,pow_add->u5
open PySem.Heap.SameBut renaming update->bU,refl->IP
open PySem.Builtin.List renaming listTooLong->bZ,listFitsIndex->fY
open PySem.AutoSeq1 renaming wpAny_loadPart'->b7,sub_tuple_tuple->rR
open PySem.SetTable renaming sizeAbove->cM
open PySem.Calls renaming callWith_builtin->cW,evalArgs_plain->dX,Name_function_global->fM,spliced_cons->fP,call_function_entry->gI,spliced_nil->nC
open PySem.SeqAt renaming shaped->f8
open List.Perm renaming trans->j8,append->oQ,cons_inv->IH,cons->G0l,nil->G0u
namespace L2
open PySem PySem.Spec PyProof.Rows
abbrev Key:=Sum G8 Str
def MU:Key->G7->T9
 | .inl k,v=>tQ k v
 | .inr x,v=>rO x v
def jaD (w:C6):Key->G8
 | .inl k=>hashInt k
 | .inr x=>hashStr w x
theorem jZ: ∀ {k:Key} {v:G7},MU k v=true->(∃i t,k=O4 i/\v=cN i t)\/(∃x t,k=bK x/\v=l8 x t)
 | .inl i,v,h=>by
  obtain⟨t,e⟩:=Value.isInt_shape (k:=i) (v:=v) h;exact .inl ⟨i,t,rfl,e⟩
 | .inr x,v,h=>by
  obtain⟨t,e⟩:=Value.isStrOf_shape (x:=x) (v:=v) h;exact .inr ⟨x,t,rfl,e⟩
theorem Bh (i:G8)(t:Tok):MU (.inl i) (.int i t)=true:=by simp [MU,tQ]
theorem Bi (x:Str)(t:Tok):MU (.inr x) (.str x t)=true:=by simp [MU,rO]
theorem He (a b:G8):decide ((O4 a:Key)=O4 b)=(a==b):=by
 by_cases e:a=b
 ·subst e;simp
 ·have h: ¬ (O4 a:Key)=O4 b:=λq=>e (Sum.inl.inj q)
  rw [D5 h];exact(beq_eq_false_iff_ne.mpr e).symm
theorem Hf (a b:Str):decide ((bK a:Key)=bK b)=decide (a=b):=by
 by_cases e:a=b
 ·subst e;simp
 ·have h: ¬ (bK a:Key)=bK b:=λq=>e (Sum.inr.inj q)
  rw [D5 h,D5 e]
theorem Hg (a:G8)(b:Str):decide ((O4 a:Key)=bK b)=false:=D5 (λq=>nomatch q)
theorem Hh (a:Str)(b:G8):decide ((bK a:Key)=O4 b)=false:=D5 (λq=>nomatch q)
def zU (prog:M0)(w:C6):PySem.KeyKind prog w Key where
 is:=MU
 hash:=jaD w
 inj:=λv a b ha hb=>by
  rcases jZ ha with ⟨i,t,rfl,rfl⟩|⟨x,t,rfl,rfl⟩
  ·rcases jZ hb with ⟨j,u,rfl,e⟩|⟨y,u,rfl,e⟩
   ·injection e with e1 _;rw [e1]
   ·exact nomatch e
  ·rcases jZ hb with ⟨j,u,rfl,e⟩|⟨y,u,rfl,e⟩
   ·exact nomatch e
   ·injection e with e1 _;rw [e1]
 byValue:=λk v h=>by
  rcases jZ h with ⟨i,t,rfl,rfl⟩|⟨x,t,rfl,rfl⟩<;>rfl
 pyHash:=λhv h=>by
  rcases jZ hv with ⟨i,t,rfl,rfl⟩|⟨x,t,rfl,rfl⟩
  ·exact wpAny_pyHash_int h
  ·exact wpAny_pyHash_str h
 eqBool:=λhu hv h=>by
  rcases jZ hu with ⟨i,t,rfl,rfl⟩|⟨x,t,rfl,rfl⟩
  ·rcases jZ hv with ⟨j,u,rfl,rfl⟩|⟨y,u,rfl,rfl⟩
   ·rw [He] at h;exact oB h
   ·rw [Hg] at h;exact SeqAt.EqAt.int_str i t y u _ _ _ _ h
  ·rcases jZ hv with ⟨j,u,rfl,rfl⟩|⟨y,u,rfl,rfl⟩
   ·rw [Hh] at h;exact SeqAt.EqAt.str_int x t j u _ _ _ _ h
   ·rw [Hf] at h;exact wpAny_eqBool_str h
 «strs» :=λk x t v h=>by
  rcases jZ h with ⟨i,u,rfl,e⟩|⟨y,u,rfl,e⟩
  ·exact nomatch e
  ·injection e with e1 _
   subst e1;cases v<;>rfl
theorem Dm (prog:M0)(w:C6)(i:G8)(t:Tok):(zU prog w).is (.inl i) (.int i t)=true:=Bh i t
theorem Do (prog:M0)(w:C6)(x:Str)(t:Tok):(zU prog w).is (.inr x) (.str x t)=true:=Bi x t
inductive V where
 |non|bl (b:T9)|int (i:G8)|str (x:Str)|byt (b:N8 UInt8)|flt (b:UInt64)|ref (a:P4)|ty (n:U1)
 deriving DecidableEq
def RelV:V->G7->Prop
 | .non,u=>u=mR
 | .bl b,u=>u=Z4 b
 | .int i,u=> ∃t,u=cN i t
 | .str x,u=> ∃t,u=l8 x t
 | .byt b,u=> ∃t,u=Value.bytes b t
 | .flt b,u=> ∃t,u=tR b t
 | .ref a,u=>u=X5 a
 | .ty n,u=>u=V6 n
abbrev Vals:G0 V->G0 G7->Prop:=Paired RelV
theorem Vals.length {xs:G0 V}{us:G0 G7}(r:Vals xs us):xs.length=us.length:=Paired.length r
theorem Vals.get: ∀ {xs:G0 V} {us:G0 G7} {i:G5} {x:V},Vals xs us->xs[i]? =some x-> ∃u,us[i]? =some u/\RelV x u
 |_,_,_,_,.nil,e=>by simp at e
 |_,_,0,_,.cons r _,e=>by simp at e;subst e;exact⟨_,rfl,r⟩
 |_,_,i+1,x,.cons _ t,e=>by
  obtain⟨u,h1,h2⟩:=Vals.get (i:=i) (x:=x) t (by simpa using e);exact⟨u,by simpa using h1,h2⟩
variable {u:G7}
theorem Vals.set {x:V}(r:RelV x u): ∀ {xs:G0 V} {us:G0 G7} (i:G5),Vals xs us->Vals (xs.set i x) (us.set i u)
 |_,_,_,.nil=> .nil
 |_,_,0,.cons _ t=> .cons r t
 |_,_,i+1,.cons q t=> .cons q (Vals.set r i t)
theorem Vals.append: ∀ {xs ys:G0 V} {us ws:G0 G7},Vals xs us->Vals ys ws->Vals (xs++ys) (us++ws)
 |_,_,_,_,.nil,s=>s
 |_,_,_,_,.cons r t,s=> .cons r (Vals.append t s)
theorem Vals.take: ∀ {xs:G0 V} {us:G0 G7} (n:G5),Vals xs us->Vals (xs.take n) (us.take n)
 |_,_,0,_=> .nil
 |_,_,_+1,.nil=> .nil
 |_,_,n+1,.cons r t=> .cons r (Vals.take n t)
theorem Vals.drop: ∀ {xs:G0 V} {us:G0 G7} (n:G5),Vals xs us->Vals (xs.drop n) (us.drop n)
 |_,_,0,r=>r
 |_,_,_+1,.nil=> .nil
 |_,_,n+1,.cons _ t=>Vals.drop n t
def RelO:D4 V->D4 G7->Prop
 |some v,some u=>RelV v u
 |none,none=>True
 |_,_=>False
def KV {κ:Type}:G0 (κ×V)->G0 (κ×G7)->Prop:=Paired λ(p:κ×V) (q:κ×G7)=>p.1=q.1/\RelV p.2 q.2
def kV:Key->V
 | .inl i=> .int i
 | .inr x=> .str x
inductive HO where
 /-- a list -/
 |lst (xs:G0 V)
 /-- a tuple (never changes) -/
 |tup (xs:G0 V)
 /-- a dict whose keys are ints and texts;one whose keys are tuples of ints and texts (the empty one is both) -/
 |dK (kvs:G0 (Key×V))|dT (kvs:G0 (G0 Key×V))
 /-- a set of ints: its members,its size -/
 |set (S:G8->T9) (n:G5)
 /-- an instance of the class at C,its dict at dx,its attributes -/
 |ins (C dx:P4) (fs:G0 (Str×V))
 /-- the dict of the instance at x -/
 |own (x:P4)
 /-- the dict of an exception -/
 |xd (fs:G0 (Str×V))
 /-- a bound method,f of x -/
 |met (f x:P4)
 /-- a range object lo,lo+1,.. below hi -/
 |rng (lo hi:G8)
 /-- a thing that is known to the object (the script;a dict while a loop walks it):read,never written while it is so -/
 |frz (o:Obj) (u:HO)
 /-- a code object's table -/
 |tbl (ps:N8 G7)
 /-- any other thing,by what is true of its one object (a def of one's own: SetO a S n:=HO.ext λh=> ..) -/
 |ext (φ:L6->Prop)
abbrev Hp:=P4->D4 HO
def upd (H:Hp)(a:P4)(o:HO):Hp:=λb=>if b=a then some o else H b
variable {H:Hp}{a:P4}{o:HO}
theorem jw:upd H a o a=some o:=by unfold upd;rw [D8 rfl]
variable {b:P4}
theorem jt (h:b≠a):upd H a o b=H b:=by unfold upd;rw [D9 h]
theorem MV {u:HO}(h:H a=some o)(h':H b=some u)(d:o≠u):a≠b:=by
 intro e;subst e;rw [h] at h';exact d (C1 h')
theorem jp (h:H a=some o)(h':H b=none):a≠b:=by
 intro e;subst e;rw [h] at h';cases h'
def IsTupN (h:L6)(a:P4)(items:N8 G7):Prop:= ∃o,h.get? a=some o/\o.cls= .type "tuple" /\o.dict=none/\ ∃n,o.data= .seq items n
theorem IsTupN.tup {h:L6}{a:P4}{items:N8 G7}(x:IsTupN h a items):mI h a items:=let ⟨o,e,c,_,n,d⟩:=x;⟨o,e,c,n,d⟩
theorem IsTupN.new (h:L6)(items:N8 G7):IsTupN (h.push {cls:= .type "tuple",data:= .seq items}) h.objs.size items:=⟨_,T3 _ rfl,rfl,rfl,_,rfl⟩
section
variable (P:M0)(w:C6)
def ObjOk (H:Hp)(h:L6)(a:P4):HO->Prop
 | .lst xs=>xs.length<=sizeLine/\ ∃ (its:G0 G7) (n:G5),Vals xs its/\h.get? a=some {cls:= .type "list",data:= .seq its.toArray n}
 | .tup xs=>xs.length<=sizeLine/\ ∃its:G0 G7,Vals xs its/\IsTupN h a its.toArray
 | .dK kvs=>kvs.length<=sizeLine/\(a==aJ)=false/\ ∃vs,KV kvs vs/\h.DictOf (zU P w) a vs
 | .dT kvs=>kvs.length<=sizeLine/\(a==aJ)=false/\ ∃xs:G0 (G0 Key×P4×G7),
  Paired (λ(p:G0 Key×V) (q:G0 Key×P4×G7)=>p.1=q.1/\H q.2.1=some (.tup (p.1.map kV))/\RelV p.2 q.2.2) kvs xs/\
  ∃o es ep,h.get? a=some o/\o.ExactDict/\o.data= .dict es ep/\es.toList=xs.map (entryOfKey (tupleKind (zU P w)))/\(xs.map (·.1)).Nodup
 | .set S n=>h.SetOf (intKind P w) a S n
 | .ins C dx fs=>H dx=some (.own a)/\fs.length<=1000/\dx≠a/\h.get? a=some (j5 C dx)/\
  ∃mA,h.Ns1 dx mA/\(∀f,RelO (fs.lookup f) (mA f))/\sP mA (fs.map (·.1))
 | .own _=> ∃o,h.get? a=some o
 | .xd fs=> ∃mA,h.Ns1 a mA/\ ∀f,RelO (fs.lookup f) (mA f)
 | .rng lo hi=> ∃t u v,h.get? a=some {cls:= .type "range",data:= .fields #[.int lo t,.int hi u,.int 1 v]}
 | .frz o u=>h.get? a=some o/\ObjOk H h a u
 | .tbl ps=>h.get? a=some {cls:= .none,data:= .fields ps}
 | .met f x=>h.get? a=some (gM (.ref f) (.ref x))
 | .ext φ=>φ h/\(∃o,h.get? a=some o)/\ ∀h1 h2:L6,φ h1->(∀o,h1.get? a=some o->h2.get? a=some o)->φ h2
def HOk (H:Hp)(h:L6):Prop:= ∀a o,H a=some o->ObjOk P w H h a o
end
section
variable {P:M0}{w:C6}{H H':Hp}{h h':L6}{a:P4}{o:HO}
theorem ObjOk.lt (x:ObjOk P w H h a o):a<h.objs.size:=by
 cases o with
 |lst xs=>obtain⟨_,_,_,_,e⟩:=x;exact S0 e
 |tup xs=>obtain⟨_,_,_,p⟩:=x;exact p.tup.lt
 |dK kvs=>obtain⟨_,_,_,_,o,_,_,e,_⟩:=x;exact S0 e
 |dT kvs=>obtain⟨_,_,_,_,o,_,_,e,_⟩:=x;exact S0 e
 |set S n=>obtain⟨o,_,_,_,e,_⟩:=x;exact S0 e
 |ins C dx fs=>obtain⟨_,_,_,e,_⟩:=x;exact S0 e
 |own y=>obtain⟨_,e⟩:=x;exact S0 e
 |xd fs=>obtain⟨_,⟨_,_,_,e,_⟩,_⟩:=x;exact S0 e
 |rng lo hi=>obtain⟨_,_,_,e⟩:=x;exact S0 e
 |frz ob u=>obtain⟨e,_⟩:=x;exact S0 e
 |tbl ps=>exact S0 (show h.get? a=some _ from x)
 |met f y=>exact S0 (show h.get? a=some _ from x)
 |ext φ=>obtain⟨_,⟨_,e⟩,_⟩:=x;exact S0 e
theorem Paired.mapP {α β:Type}{F G:α->β->Prop}: ∀ {l₁:G0 α} {l₂:G0 β},Paired F l₁ l₂->(∀a b,F a b->G a b)->Paired G l₁ l₂
 |_,_,.nil,_=> .nil
 |_,_,.cons r t,f=> .cons (f _ _ r) (Paired.mapP t f)
theorem ObjOk.stay (x:ObjOk P w H h a o)(k: ∀b u,(b=a\/H b=some (.own a))->h.get? b=some u->h'.get? b=some u)
 (ho: ∀b,H b=some (.own a)->H' b=some (.own a))(ht: ∀b xs,H b=some (.tup xs)->H' b=some (.tup xs)):ObjOk P w H' h' a o:=by
 induction o with
 |lst xs=>obtain⟨z,its,n,r,e⟩:=x;exact⟨z,its,n,r,k _ _ (.inl rfl) e⟩
 |tup xs=>obtain⟨z,its,r,ob,e,c⟩:=x;exact⟨z,its,r,ob,k _ _ (.inl rfl) e,c⟩
 |dK kvs=>obtain⟨z,y,vs,r,ob,es,ep,e,c⟩:=x;exact⟨z,y,vs,r,ob,es,ep,k _ _ (.inl rfl) e,c⟩
 |dT kvs=>
  obtain⟨z,y,xs,r,ob,es,ep,e,c⟩:=x;exact⟨z,y,xs,Paired.mapP r λp q z=>⟨z.1,ht _ _ z.2.1,z.2.2⟩,ob,es,ep,k _ _ (.inl rfl) e,c⟩
 |set S n=>obtain⟨ob,es,ep,t,e,c⟩:=x;exact⟨ob,es,ep,t,k _ _ (.inl rfl) e,c⟩
 |ins C dx fs=>
  obtain⟨d,z,ne,e,mA,⟨od,es,ep,e2,c⟩,r⟩:=x;exact⟨ho _ d,z,ne,k _ _ (.inl rfl) e,mA,⟨od,es,ep,k _ _ (.inr d) e2,c⟩,r⟩
 |own y=>obtain⟨ob,e⟩:=x;exact⟨ob,k _ _ (.inl rfl) e⟩
 |xd fs=>obtain⟨mA,⟨od,es,ep,e,c⟩,r⟩:=x;exact⟨mA,⟨od,es,ep,k _ _ (.inl rfl) e,c⟩,r⟩
 |rng lo hi=>obtain⟨t,u,v,e⟩:=x;exact⟨t,u,v,k _ _ (.inl rfl) e⟩
 |frz ob u ih=>obtain⟨e,q⟩:=x;exact⟨k _ _ (.inl rfl) e,ih q⟩
 |tbl ps=>
  have e:h.get? a=some {cls:= .none,data:= .fields ps}:=x;show h'.get? a=some {cls:= .none,data:= .fields ps};exact k a _ (.inl rfl) e
 |met f y=>
  have e:h.get? a=some (gM (.ref f) (.ref y)):=x;show h'.get? a=some (gM (.ref f) (.ref y));exact k a _ (.inl rfl) e
 |ext φ=>obtain⟨p,⟨o,e⟩,st⟩:=x;exact⟨st _ _ p λo q=>k _ _ (.inl rfl) q,⟨o,k _ _ (.inl rfl) e⟩,st⟩
theorem HOk.lt (x:HOk P w H h)(e:H a=some o):a<h.objs.size:=(x a o e).lt
theorem HOk.fresh (x:HOk P w H h)(e:h.objs.size<=a):H a=none:=by
 cases q:H a with
 |none=>rfl
 |some u=>exact absurd (N6 (x.lt q) e) (O0 _)
theorem HOk.kept (x:HOk P w H h)(k: ∀b u,h.get? b=some u->h'.get? b=some u):HOk P w H h':=λa o e=>
 (x a o e).stay (λb u _ q=>k b u q) (λ_ q=>q) λ_ _ q=>q
theorem HOk.laid (x:HOk P w H h)(k: ∀b u,h.get? b=some u->h'.get? b=some u)(hp:h.objs.size<=a)(new:ObjOk P w (upd H a o) h' a o):HOk P w (upd H a o) h':=λb u e=>by
 have hn:=x.fresh hp
 by_cases hb:b=a
 ·subst hb;rw [jw] at e;cases e;exact new
 ·rw [jt hb] at e;exact(x b u e).stay (λc v _ q=>k c v q) (λc q=>by rw [jt (jp q hn)];exact q) λc xs q=>by rw [jt (jp q hn)];exact q
end
def Rd (H:Hp)(a:P4)(u:HO):Prop:=H a=some u\/ ∃o,H a=some (.frz o u)
variable {P:M0}{w:C6}{h:L6}
theorem Rd.ok {u:HO}(r:Rd H a u)(x:HOk P w H h):ObjOk P w H h a u:=by
 rcases r with r|⟨o,r⟩
 ·exact x a u r
 ·obtain⟨_,q⟩:=x a _ r;exact q
def Mut:D4 HO->Prop
 |some (.lst _)=>True
 |some (.dK _)=>True
 |some (.dT _)=>True
 |some (.set _ _)=>True
 |some (.ins _ _ _)=>True
 |some (.ext _)=>True
 |_=>False
section
variable {P:M0}{w:C6}{H:Hp}{h h':L6}{x e:P4}{o':HO}
theorem HOk.write (ok:HOk P w H h)(mu:Mut (H x))(he:e=x\/H e=some (.own x))(k: ∀b u,b≠e->h.get? b=some u->h'.get? b=some u)(heo: ∃u,h'.get? e=some u)
 (new:ObjOk P w (upd H x o') h' x o'):HOk P w (upd H x o') h':=λb u q=>by
 have nown: ∀c y,H c=some (.own y)->c≠x:=λc y r z=>by subst z;rw [r] at mu;exact mu
 have ntup: ∀c xs,H c=some (.tup xs)->c≠x:=λc xs r z=>by subst z;rw [r] at mu;exact mu
 by_cases hb:b=x
 ·subst hb;rw [jw] at q;cases q;exact new
 ·rw [jt hb] at q
  by_cases hbe:b=e
  ·have q':H b=some (.own x):=by
    rcases he with z|z
    ·exact absurd (hbe.trans z) hb
    ·rw [hbe];exact z
   rw [q] at q';cases q';obtain⟨v,hv⟩:=heo;exact⟨v,by rw [hbe];exact hv⟩
  ·refine(ok b u q).stay (λc v hc r=>k c v ?_ r) (λc r=>by rw [jt (nown c b r)];exact r) λc xs r=>by rw [jt (ntup c xs r)];exact r
   rcases hc with rfl|hc
   ·exact hbe
   ·rintro rfl;rcases he with z|z
    ·exact nown c b hc z
    ·rw [hc] at z;cases z;exact hb rfl
end
structure Un (fs ex:G0 P4)(H H':Hp)(h h':L6):Prop where
 keep: ∀b o,h.get? b=some o->H b=none->b ∉ fs->b ∉ ex->h'.get? b=some o
 slot: ∀b o,h.get? b=some o->H b=none->b∈fs->b ∉ ex-> ∃sl,h'.get? b=some {o with slots:=sl}
 free: ∀b o,h.get? b=some o->H b=none->b ∉ ex->H' b=none
 there: ∀b o,h.get? b=some o->b ∉ ex-> ∃o',h'.get? b=some o'
 tups: ∀b xs,H b=some (.tup xs)->H' b=some (.tup xs)
 frzs: ∀b o u,H b=some (.frz o u)->H' b=some (.frz o u)
 tbls: ∀b ps,H b=some (.tbl ps)-> ∃more,H' b=some (.tbl (ps++more))
section
variable {fs fs' ex ex':G0 P4}{H H1 H2:Hp}{h h1 h2 h':L6}{a x e:P4}{o:HO}
theorem Un.any (u:Un fs ex H H1 h h1){b:P4}{ob:Obj}(q:h.get? b=some ob)(n:H b=none)(hx:b ∉ ex): ∃sl,h1.get? b=some {ob with slots:=sl}:=by
 by_cases hb:b∈fs
 ·exact u.slot b ob q n hb hx
 ·exact⟨ob.slots,u.keep b ob q n hb hx⟩
theorem Un.kept (k: ∀b u,h.get? b=some u->h'.get? b=some u):Un fs ex H H h h':=
 ⟨λb ob q _ _ _=>k b ob q,λb ob q _ _ _=>⟨ob.slots,k b ob q⟩,λ_ _ _ n _=>n,λb ob q _=>⟨ob,k b ob q⟩,λ_ _ q=>q,λ_ _ _ q=>q,λ_ ps q=>⟨#[],by rw [q];simp⟩⟩
theorem Un.refl:Un fs ex H H h h:=Un.kept λ_ _ q=>q
theorem Un.laid (k: ∀b u,h.get? b=some u->h'.get? b=some u)(hp:h.objs.size<=a)(hn:H a=none):Un fs ex H (upd H a o) h h' where
 keep:=λb u q _ _ _=>k b u q
 slot:=λb u q _ _ _=>⟨u.slots,k b u q⟩
 free:=λb u q n _=>by rw [jt (M9 (N6 (S0 q) hp))];exact n
 there:=λb u q _=>⟨u,k b u q⟩
 tups:=λb xs q=>by rw [jt (jp q hn)];exact q
 frzs:=λb u xs q=>by rw [jt (jp q hn)];exact q
 tbls:=λb ps q=>⟨#[],by rw [jt (jp q hn),q];simp⟩
theorem Un.write (mu:Mut (H x))(he:e=x\/H e=some (.own x))(k: ∀b u,b≠e->h.get? b=some u->h'.get? b=some u)(heo: ∃u,h'.get? e=some u):Un fs ex H (upd H x o) h h':=by
 have hx: ∀b,H b=none->b≠x:=λb n z=>by subst z;rw [n] at mu;exact mu
 have hb: ∀b,H b=none->b≠e:=λb n z=>by
  subst z;rcases he with r|r
  ·exact hx b n r
  ·rw [n] at r;cases r
 have hm: ∀b u,H b=some u-> ¬Mut (some u)->b≠x:=λb u q nm z=>by subst z;rw [q] at mu;exact nm mu
 refine⟨λb u q n _ _=>k b u (hb b n) q,λb u q n _ _=>⟨u.slots,k b u (hb b n) q⟩,λb u q n _=>by rw [jt (hx b n)];exact n,λb u q _=> ?_,
  λb xs q=>by rw [jt (hm b _ q λz=>z)];exact q,λb u xs q=>by rw [jt (hm b _ q λz=>z)];exact q,λb ps q=>⟨#[],by rw [jt (hm b _ q λz=>z),q];simp⟩⟩
 by_cases hbe:b=e
 ·subst hbe;exact heo
 ·exact⟨u,k b u hbe q⟩
end
def trk (h:L6)(H:Hp):G0 P4:=(G3 h.objs.size).filter λa=>(H a).isSome
def Lw (h:L6)(H:Hp):L6:=IZ h (trk h H)
theorem Bj (h:L6)(H:Hp):(Lw h H).objs.size=h.objs.size:=tS _ _
theorem XV {o:Obj}(e:h.get? b=some o)(n:H b=none):(Lw h H).get? b=some o:=
 v9 _ e λhm=>by
  have q:(H b).isSome=true:=(M7.mp hm).2;rw [n] at q;simp at q
theorem Et {o:Obj}(e:(Lw h H).get? b=some o):h.get? b=some o/\H b=none:=by
 have e':h.get? b=some o:=w8 (trk h H) e;refine⟨e',?_⟩;cases q:H b with
 |none=>rfl
 |some x=>
  have hm:b∈trk h H:=M7.mpr ⟨P6.mpr (S0 e'),by simp [q]⟩;have z:(Lw h H).get? b=none:=tT (trk h H) hm;rw [z] at e;cases e
def Eu (g h:L6)(L:P4):G0 (P4×Obj):=(G3 h.objs.size).filterMap λa=>if a=L\/(g.get? a).isSome=true then none else (h.get? a).map λo=>(a,o)
def rest (g h:L6)(L d:P4):G0 (P4×Obj):=(Eu g h L).filter λp=>decide (p.1≠d)
structure Mod (K:G6)(mg:Str->D4 G7)(base:L6):Prop where
 kin:K.In base
 glob:base.Ns L9 mg
 blt: ∃mb,base.Ns iK mb/\ ∀x:Str,x≠ "__name__" ->mb x=E3 x
 nolimit:base.NoLimit
structure Cx where
 prog:M0
 w:C6
 K:G6
 mg:Str->D4 G7
 base:L6
 A:C5
 N:G0 Str
 s₀:P0
 H₀:Hp
 env:Env
 outer:G0 Env
 stack:G0 Env
 ex:G0 P4
 fn:Str->T9
 calm:T9
 pn:G0 (P4×Obj)
 xe:G7->P0->Prop
def frs (l:G0 Env):G0 P4:=l.filterMap (·.frame)
abbrev Cx.fs (X:Cx):G0 P4:=frs X.outer
def Vis (sc:U5)(x:Str):Prop:=sc.names.lookup x=some .local\/sc.names.lookup x=some .cell\/sc.names.lookup x=some .free
def Loc (sc:U5)(x:Str):Prop:=sc.names.lookup x=some .local\/sc.names.lookup x=some .cell
def jaE (env:Env)(h:L6)(m:Str->D4 G7)(x:Str)(u:G7):Prop:=
 (env.kindOf x=some .local/\m x=some u)\/((env.kindOf x=some .cell\/env.kindOf x=some .free)/\ ∃c,env.cells.lookup x=some c/\h.IsCell c (some u))
structure Cx.Ok (X:Cx):Prop where
 mod:Mod X.K X.mg X.base
 kind:X.env.scope.kind= .function
 glob:X.env.globals=L9
 blt:X.env.builtins=iK
 above:X.s₀.heap.objs.size<=X.env.locals
 inj: ∀x y c,X.env.cells.lookup x=some c->X.env.cells.lookup y=some c->x=y
 has: ∀x,(X.env.kindOf x=some .cell\/X.env.kindOf x=some .free)-> ∃c,X.env.cells.lookup x=some c
 cab: ∀x c,X.fn x=true->X.env.cells.lookup x=some c->X.s₀.heap.objs.size<=c
 hd:X.calm=true->X.A.handled=none
 frames:X.A.frames=some X.stack
 stk:X.stack=X.outer\/(X.stack=X.env::X.outer/\X.env.frame=some X.env.locals)
 exf: ∀b∈X.ex,b≠X.env.locals/\ ∀x c,X.env.cells.lookup x=some c->c≠b
 bs: ∀b o,X.base.get? b=some o->X.s₀.heap.get? b=some o/\X.H₀ b=none
 bsz:X.base.objs.size<=X.s₀.heap.objs.size
 noex: ∀b o,X.base.get? b=some o->b ∉ X.ex
 exfs: ∀b∈X.ex,b ∉ X.fs
 funs:X.s₀.heap.FunFrames X.base X.outer
 frf: ∀b∈X.fs,X.H₀ b=none
structure Inv (X:Cx)(pins:G0 (P4×Obj))(σ:G0 (D4 V))(H:Hp)(s:P0):Prop where
 ok:X.Ok
 os:s.os=X.s₀.os
 bare:gO s.gens
 base:Un X.fs X.ex X.H₀ H X.s₀.heap s.heap
 loc: ∃m,s.heap.Ns X.env.locals m/\ ∀ (i:G5) (x:Str) (v:V),X.N[i]? =some x->σ[i]? =some (some v)->Vis X.env.scope x-> ∃u,RelV v u/\jaE X.env s.heap m x u
 cell: ∀x c,X.env.cells.lookup x=some c-> ∃v,s.heap.IsCell c v
 free:H X.env.locals=none
 freeC: ∀x c,X.env.cells.lookup x=some c->H c=none
 pin: ∀p∈X.pn++pins,s.heap.get? p.1=some p.2/\H p.1=none/\p.1≠X.env.locals/\p.1 ∉ X.fs/\ ∀v,p.2.data≠ .cell v
 hok:HOk X.prog X.w H s.heap
 len:σ.length=X.N.length
section
variable {X:Cx}{pins:G0 (P4×Obj)}{σ:G0 (D4 V)}{H H':Hp}{s:P0}{h':L6}
theorem Cx.Ok.nofr (ok:X.Ok){b:P4}{o:Obj}(e:X.base.get? b=some o):b ∉ X.fs:=λhb=>by
 have:=(ok.funs.mem hb).1;rw [e] at this;cases this
theorem Inv.bs (I:Inv X pins σ H s): ∀b o,X.base.get? b=some o->s.heap.get? b=some o/\H b=none:=λb o e=>
 ⟨I.base.keep b o (I.ok.bs b o e).1 (I.ok.bs b o e).2 (I.ok.nofr e) (I.ok.noex b o e),I.base.free b o (I.ok.bs b o e).1 (I.ok.bs b o e).2 (I.ok.noex b o e)⟩
theorem Inv.bk (I:Inv X pins σ H s): ∀b o,X.base.get? b=some o->s.heap.get? b=some o:=λb o e=>(I.bs b o e).1
theorem Inv.mod (I:Inv X pins σ H s):Mod X.K X.mg X.base:=I.ok.mod
theorem Inv.kIn (I:Inv X pins σ H s):X.K.In s.heap:=I.ok.mod.kin.keeps I.bk
theorem Inv.lt (I:Inv X pins σ H s):X.env.locals<s.heap.objs.size:=let ⟨_,hn,_⟩:=I.loc;hn.lt
theorem Inv.sz (I:Inv X pins σ H s):X.s₀.heap.objs.size<=s.heap.objs.size:=T5 I.ok.above (S1 I.lt)
theorem Inv.nofs (I:Inv X pins σ H s){a:P4}(h:s.heap.objs.size<=a):a ∉ X.fs:=λhb=>by
 obtain⟨_,o,ho,_⟩:=I.ok.funs.mem hb;exact absurd (N6 (S0 ho) (T5 I.sz h)) (O0 _)
theorem Inv.cne (I:Inv X pins σ H s): ∀x c,X.env.cells.lookup x=some c->c≠X.env.locals:=λx c e z=>by
 obtain⟨v,o,ho,hd⟩:=I.cell x c e;obtain⟨m,⟨o',es,ep,ho',hd',_⟩,_⟩:=I.loc;rw [z,ho'] at ho;cases ho;rw [hd'] at hd;cases hd
theorem Inv.funs (I:Inv X pins σ H s):s.heap.FunFrames X.base X.outer:=by
 have all: ∀ (l:G0 Env),(∀b∈frs l,b∈X.fs)->X.s₀.heap.FunFrames X.base l->s.heap.FunFrames X.base l:=by
  intro l
  induction l with
  |nil=>intro _ _;trivial
  |cons env r ih=>
   intro hs hl;obtain⟨hk,⟨L,o,hf,hn,ho,hd⟩,hr⟩:=hl;have hL:L∈X.fs:=hs L (by unfold frs;rw [e6,hf];exact R3);obtain⟨sl,e⟩:=I.base.slot L o ho (I.ok.frf L hL) hL λz=>I.ok.exfs L z hL
   exact⟨hk,⟨L,_,hf,hn,e,hd⟩,ih (λb hb=>hs b (by unfold frs;rw [e6,hf];exact S3 _ hb)) hr⟩
 exact all X.outer (λ_ hb=>hb) I.ok.funs
theorem Inv.stack (I:Inv X pins σ H s):s.heap.FunFrames X.base X.stack:=by
 rcases I.ok.stk with e|⟨e,hf⟩
 ·rw [e];exact I.funs
 ·rw [e];obtain⟨m,hn,_⟩:=I.loc;refine .cons (by rw [I.ok.kind];decide) hf hn ?_ I.funs;exact Heap.get?_none_of_le (T5 I.ok.bsz I.ok.above)
theorem Inv.stkSub (I:Inv X pins σ H s): ∀b∈frs X.stack,b∈X.env.locals::X.fs:=λb hb=>by
 rcases I.ok.stk with e|⟨e,hf⟩
 ·rw [e] at hb;exact S3 _ hb
 ·rw [e] at hb;unfold frs at hb;rw [e6,hf] at hb;exact hb
theorem Inv.stkFree (I:Inv X pins σ H s): ∀b∈frs X.stack,H b=none:=λb hb=>by
 rcases T6.mp (I.stkSub b hb) with e|hb
 ·rw [e];exact I.free
 ·obtain⟨_,o,ho,_⟩:=I.ok.funs.mem hb;exact I.base.free b o ho (I.ok.frf b hb) λz=>I.ok.exfs b z hb
variable {t':G5}
theorem Inv.step {g':N8 GenState}{d':Drawn}{ch:G0 P4}(I:Inv X pins σ H s)
 (hch: ∀b∈ch,(b∈X.ex\/X.s₀.heap.objs.size<=b)/\b≠X.env.locals/\(∀x c,X.env.cells.lookup x=some c->c≠b)/\ ∀p∈X.pn++pins,p.1≠b)
 (keep: ∀b o,b≠X.env.locals->b ∉ X.fs->b ∉ ch->s.heap.get? b=some o->H b=none->h'.get? b=some o)
 (slot: ∀b o,b≠X.env.locals->b∈X.fs->b ∉ ch->s.heap.get? b=some o->H b=none-> ∃sl,h'.get? b=some {o with slots:=sl})(free: ∀b o,b ∉ ch->s.heap.get? b=some o->H b=none->H' b=none)
 (there: ∀b o,b ∉ ch->s.heap.get? b=some o-> ∃o',h'.get? b=some o')
 (tups: ∀b xs,H b=some (.tup xs)->H' b=some (.tup xs))(frzs: ∀b o u,H b=some (.frz o u)->H' b=some (.frz o u))(tbls: ∀b ps,H b=some (.tbl ps)-> ∃more,H' b=some (.tbl (ps++more)))
 (ns: ∀m,s.heap.Ns X.env.locals m->h'.Ns X.env.locals m)(hok:HOk X.prog X.w H' h')(hg:gO g'):
 Inv X pins σ H' {s with heap:=h',gens:=g',drawn:=d',toks:=t'}:=by
 have neL: ∀b o,X.s₀.heap.get? b=some o->b≠X.env.locals:=λb o e=>M9 (N6 (S0 e) I.ok.above)
 have neC: ∀b o,X.s₀.heap.get? b=some o->b ∉ X.ex->b ∉ ch:=λb o e hx hb=>by
  rcases (hch b hb).1 with z|z
  ·exact hx z
  ·exact absurd (N6 (S0 e) z) (O0 _)
 have cellK: ∀x c,X.env.cells.lookup x=some c-> ∀v,s.heap.IsCell c v->h'.IsCell c v:=λx c e v ⟨o,ho,hd⟩=>by
  have nch:c ∉ ch:=λz=>(hch c z).2.2.1 x c e rfl
  by_cases hc:c∈X.fs
  ·obtain⟨sl,q⟩:=slot c o (I.cne x c e) hc nch ho (I.freeC x c e);exact⟨_,q,hd⟩
  ·exact⟨o,keep c o (I.cne x c e) hc nch ho (I.freeC x c e),hd⟩
 refine⟨I.ok,I.os,hg,⟨λb o e n hb hx=> ?_,λb o e n hb hx=> ?_,λb o e n hx=> ?_,λb o e hx=> ?_,λb xs e=>tups b xs (I.base.tups b xs e),λb o xs e=>frzs b o xs (I.base.frzs b o xs e),λb ps e=> ?_⟩,?_,λx c e=> ?_,?_,λx c e=> ?_,λp hp=> ?_,hok,I.len⟩
 ·exact keep b o (neL b o e) hb (neC b o e hx) (I.base.keep b o e n hb hx) (I.base.free b o e n hx)
 ·obtain⟨sl,e1⟩:=I.base.slot b o e n hb hx;obtain⟨sl',e2⟩:=slot b _ (neL b o e) hb (neC b o e hx) e1 (I.base.free b o e n hx);exact⟨sl',e2⟩
 ·obtain⟨o',e1⟩:=I.base.there b o e hx;exact free b o' (neC b o e hx) e1 (I.base.free b o e n hx)
 ·obtain⟨o',e1⟩:=I.base.there b o e hx;exact there b o' (neC b o e hx) e1
 ·obtain⟨m1,e1⟩:=I.base.tbls b ps e;obtain⟨m2,e2⟩:=tbls b _ e1;exact⟨m1++m2,by rw [e2,Array.append_assoc]⟩
 ·obtain⟨m,hn,hl⟩:=I.loc;refine⟨m,ns m hn,λi x v e1 e2 e3=> ?_⟩;obtain⟨u,r,l⟩:=hl i x v e1 e2 e3;refine⟨u,r,?_⟩;rcases l with l|⟨k,c,e,z⟩
  ·exact .inl l
  ·exact .inr ⟨k,c,e,cellK x c e _ z⟩
 ·obtain⟨v,z⟩:=I.cell x c e;exact⟨v,cellK x c e v z⟩
 ·obtain⟨m,⟨o,_,_,ho,_⟩,_⟩:=I.loc;exact free _ o (λz=>(hch _ z).2.1 rfl) ho I.free
 ·obtain⟨v,o,ho,hd⟩:=I.cell x c e;exact free c o (λz=>(hch c z).2.2.1 x c e rfl) ho (I.freeC x c e)
 ·obtain⟨e,n,ne,nf,d⟩:=I.pin p hp;have nch:p.1 ∉ ch:=λz=>(hch p.1 z).2.2.2 p hp rfl
  exact⟨keep p.1 p.2 ne nf nch e n,free p.1 p.2 nch e n,ne,nf,d⟩
theorem Inv.un (I:Inv X pins σ H s)(u:Un X.fs [] H H' s.heap h')(hok:HOk X.prog X.w H' h'):Inv X pins σ H' {s with heap:=h',toks:=t'}:=by
 obtain⟨m,⟨o,es,ep,ho,r⟩,_⟩:=id I.loc;obtain⟨sl,hL⟩:=u.any ho I.free (by simp);exact I.step (g':=s.gens) (d':=s.drawn) (ch:= []) (λ_ z=>nomatch z) (λb o _ hb _ e n=>u.keep b o e n hb (by simp)) (λb o _ hb _ e n=>u.slot b o e n hb (by simp)) (λb o _ e n=>u.free b o e n (by simp)) (λb o _ e=>u.there b o e (by simp)) u.tups u.frzs u.tbls (λm' hm=>by
  obtain⟨o',es',ep',ho',r'⟩:=hm;rw [ho] at ho';cases ho';exact⟨_,es',ep',hL,r'⟩) hok I.bare
theorem Inv.call {g':N8 GenState}{d':Drawn}{ch:G0 P4}(I:Inv X pins σ H s)(u:Un (frs X.stack) ch H H' s.heap h')(hok:HOk X.prog X.w H' h')(hg:gO g')
 (hch: ∀b∈ch,(b∈X.ex\/X.s₀.heap.objs.size<=b)/\b≠X.env.locals/\(∀x c,X.env.cells.lookup x=some c->c≠b)/\ ∀p∈X.pn++pins,p.1≠b):
 Inv X pins σ H' {s with heap:=h',gens:=g',drawn:=d',toks:=t'}:=by
 obtain⟨m,⟨o,es,ep,ho,r⟩,_⟩:=id I.loc;obtain⟨sl,hL⟩:=u.any ho I.free λz=>(hch _ z).2.1 rfl
 exact I.step (ch:=ch) hch (λb o hL hb hc e n=>u.keep b o e n (λz=>(T6.mp (I.stkSub b z)).elim hL hb) hc) (λb o _ _ hc e n=>u.any e n hc) (λb o hc e n=>u.free b o e n hc) (λb o hc e=>u.there b o e hc) u.tups u.frzs u.tbls (λm' hm=>by
  obtain⟨o',es',ep',ho',r'⟩:=hm;rw [ho] at ho';cases ho';exact⟨_,es',ep',hL,r'⟩) hok hg
theorem Inv.turned {it:P4}(I:Inv X pins σ H s)(k: ∀b o,b≠it->s.heap.get? b=some o->h'.get? b=some o)(hn:H it=none)(hL:it≠X.env.locals)
 (h1:it∈X.ex\/X.s₀.heap.objs.size<=it)(h2: ∀x c,X.env.cells.lookup x=some c->c≠it)(h3: ∀p∈X.pn++pins,p.1≠it):Inv X pins σ H {s with heap:=h',toks:=t'}:=by
 have nit: ∀b u,H b=some u->b≠it:=λb u e z=>by rw [z,hn] at e;cases e
 refine I.step (g':=s.gens) (d':=s.drawn) (ch:= [it]) (λb hb=> ?_) (λb o _ _ hc e _=>k b o (λz=>hc (by simp [z])) e) (λb o _ _ hc e _=>⟨o.slots,k b o (λz=>hc (by simp [z])) e⟩) (λ_ _ _ _ n=>n)
  (λb o hc e=>⟨o,k b o (λz=>hc (by simp [z])) e⟩) (λ_ _ e=>e) (λ_ _ _ e=>e) (λb ps e=>⟨#[],by rw [e];simp⟩) (λm hm=> ?_) (λb u e=> ?_) I.bare
 ·have e:b=it:=by simpa using hb
  subst e;exact⟨h1,hL,h2,h3⟩
 ·obtain⟨o,es,ep,ho,r⟩:=hm;exact⟨o,es,ep,k _ o (E8 hL) ho,r⟩
 ·refine(I.hok b u e).stay (λc v hc q=>k c v ?_ q) (λ_ q=>q) λ_ _ q=>q
  rcases hc with z|z
  ·rw [z];exact nit b u e
  ·exact nit c _ z
theorem Inv.tok (I:Inv X pins σ H s)(t:G5):Inv X pins σ H {s with toks:=t}:=I.un (h':=s.heap) (t':=t) Un.refl I.hok
theorem Inv.kept (I:Inv X pins σ H s)(k: ∀b u,s.heap.get? b=some u->h'.get? b=some u):Inv X pins σ H {s with heap:=h',toks:=t'}:=I.un (Un.kept k) (I.hok.kept k)
theorem Inv.laid {a:P4}{o:HO}(I:Inv X pins σ H s)(k: ∀b u,s.heap.get? b=some u->h'.get? b=some u)(hp:s.heap.objs.size<=a)(new:ObjOk X.prog X.w (upd H a o) h' a o):
 Inv X pins σ (upd H a o) {s with heap:=h',toks:=t'}:=I.un (Un.laid k hp (I.hok.fresh hp)) (I.hok.laid k hp new)
theorem Inv.write {x e:P4}{o:HO}(I:Inv X pins σ H s)(mu:Mut (H x))(he:e=x\/H e=some (.own x))(k: ∀b u,b≠e->s.heap.get? b=some u->h'.get? b=some u)(heo: ∃u,h'.get? e=some u)
 (new:ObjOk X.prog X.w (upd H x o) h' x o):Inv X pins σ (upd H x o) {s with heap:=h',toks:=t'}:=I.un (Un.write mu he k heo) (I.hok.write mu he k heo new)
theorem Inv.weak {σ':G0 (D4 V)}(I:Inv X pins σ H s)(hl:σ'.length=σ.length)(w: ∀ (i:G5) v,σ'[i]? =some (some v)->σ[i]? =some (some v)):Inv X pins σ' H s:=
 ⟨I.ok,I.os,I.bare,I.base,let ⟨m,hn,hl'⟩:=I.loc;⟨m,hn,λi x v e1 e2 e3=>hl' i x v e1 (w i v e2) e3⟩,I.cell,I.free,I.freeC,I.pin,I.hok,hl.trans I.len⟩
theorem Inv.pins_of {pins':G0 (P4×Obj)}(I:Inv X pins σ H s)(h: ∀p∈pins',s.heap.get? p.1=some p.2/\H p.1=none/\p.1≠X.env.locals/\p.1 ∉ X.fs/\ ∀v,p.2.data≠ .cell v):Inv X pins' σ H s:=
 ⟨I.ok,I.os,I.bare,I.base,I.loc,I.cell,I.free,I.freeC,λp hp=>(R1.mp hp).elim (λz=>I.pin p (C8 _ z)) (h p),I.hok,I.len⟩
theorem RQ {N:G0 Str}(hN:N.Nodup){i j:G5}{x:Str}(a:N[i]? =some x)(b:N[j]? =some x):i=j:=by
 obtain⟨h1,e1⟩:=P8.mp a;obtain⟨h2,e2⟩:=P8.mp b;exact(List.getElem_inj hN).mp (e1.trans e2.symm)
theorem Bk {M:sJ}{A:C5}{E:G7->P0->Prop}{i:G5}{x:Str}{v:V}{u:G7}{Q:Unit->P0->Prop}(I:Inv X pins σ H s)(hN:X.N.Nodup)(hi:X.N[i]? =some x)(hx:Loc X.env.scope x)(r:RelV v u)
 (h: ∀s',Inv X pins (σ.set i (some v)) H s'->(∃a,aK a s.heap s'.heap/\(a=X.env.locals\/X.env.cells.lookup x=some a))->Q () s')(hf:X.fn x=true\/X.env.scope.names.lookup x=some .local:=by first|exact .inl rfl|exact .inr rfl|assumption):S6 M A (sK X.env x u) Q E s:=by
 obtain⟨m,hn,hl⟩:=id I.loc;have hcls:(X.env.scope.kind== .class||(X.env.scope.kind== .module&&X.env.locals !=X.env.globals))=false:=by rw [I.ok.kind];rfl
 have hiσ:i<σ.length:=by rw [I.len];exact(P8.mp hi).1
 have cne:=I.cne;have tracked: ∀ {a:P4} {h':L6},(∃o,s.heap.get? a=some o/\H a=none)->aK a s.heap h'->HOk X.prog X.w H h':=λ{a h'} ha hs b ob e=>by
  obtain⟨_,_,hfree⟩:=ha;refine(I.hok b ob e).stay (λc w' hc q=>(hs.2 c ?_).trans q) (λ_ q=>q) λ_ _ q=>q
  rintro rfl;rcases hc with rfl|hc
  ·rw [hfree] at e;cases e
  ·rw [hfree] at hc;cases hc
 rcases hx with hk|hk
 ·refine wpAny_storeName_local hk hn (λh' hn' hs=> ?_) hcls;obtain⟨oL,_,_,hoL,_⟩:=id hn;refine h _ ⟨I.ok,I.os,I.bare,⟨λb o e n hb hx=> ?_,λb o e n hb hx=> ?_,I.base.free,λb o e hx=> ?_,I.base.tups,I.base.frzs,I.base.tbls⟩,⟨_,hn',λj y v' e1 e2 e3=> ?_⟩,λy c e=> ?_,I.free,I.freeC,λp hp=> ?_,tracked ⟨oL,hoL,I.free⟩ hs,by simpa using I.len⟩ ⟨_,hs,.inl rfl⟩
  ·exact(hs.2 b (M9 (N6 (S0 e) I.ok.above))).trans (I.base.keep b o e n hb hx)
  ·obtain⟨sl,e1⟩:=I.base.slot b o e n hb hx;exact⟨sl,(hs.2 b (M9 (N6 (S0 e) I.ok.above))).trans e1⟩
  ·obtain⟨o',e1⟩:=I.base.there b o e hx;exact⟨o',(hs.2 b (M9 (N6 (S0 e) I.ok.above))).trans e1⟩
  ·by_cases hj:j=i
   ·subst hj;rw [hi] at e1;cases e1;rw [cS hiσ] at e2;cases e2;exact⟨u,r,.inl ⟨hk,by simp⟩⟩
   ·rw [L8 (E8 hj)] at e2;obtain⟨u',r',q⟩:=hl j y v' e1 e2 e3;refine⟨u',r',?_⟩;rcases q with ⟨k,e⟩|⟨k,c,e,z⟩
    ·refine .inl ⟨k,?_⟩;have:y≠x:=λe=>hj (RQ hN e1 (e ▸ hi))
     simp [this,e]
    ·exact .inr ⟨k,c,e,z.sameBut hs (cne y c e)⟩
  ·obtain⟨w',z⟩:=I.cell y c e;exact⟨w',z.sameBut hs (cne y c e)⟩
  ·obtain⟨e,n,ne,nf,d⟩:=I.pin p hp;exact⟨(hs.2 p.1 ne).trans e,n,ne,nf,d⟩
 ·have hfn:X.fn x=true:=by
   rcases hf with z|z
   ·exact z
   ·rw [z] at hk;cases hk
  obtain⟨c,hc⟩:=I.ok.has x (.inl hk);obtain⟨w',z⟩:=I.cell x c hc;refine wpAny_storeName_cell I.ok.kind hk hc z (λh' hc' hs=> ?_);obtain⟨oc,hoc,hocd⟩:=id z;refine h {s with heap:=h'} ⟨I.ok,I.os,I.bare,⟨λb o e n hb hx=> ?_,λb o e n hb hx=> ?_,I.base.free,λb o e hx=> ?_,I.base.tups,I.base.frzs,I.base.tbls⟩,⟨m,hn.sameBut hs (E8 (cne x c hc)),λj y v' e1 e2 e3=> ?_⟩,λy c' e=> ?_,I.free,I.freeC,λp hp=> ?_,tracked ⟨oc,hoc,I.freeC x c hc⟩ hs,by simpa using I.len⟩ ⟨c,hs,.inr hc⟩
  ·exact(hs.2 b (M9 (N6 (S0 e) (I.ok.cab x c hfn hc)))).trans (I.base.keep b o e n hb hx)
  ·obtain⟨sl,e1⟩:=I.base.slot b o e n hb hx;exact⟨sl,(hs.2 b (M9 (N6 (S0 e) (I.ok.cab x c hfn hc)))).trans e1⟩
  ·obtain⟨o',e1⟩:=I.base.there b o e hx;exact⟨o',(hs.2 b (M9 (N6 (S0 e) (I.ok.cab x c hfn hc)))).trans e1⟩
  ·by_cases hj:j=i
   ·subst hj;rw [hi] at e1;cases e1;rw [cS hiσ] at e2;cases e2;exact⟨u,r,.inr ⟨.inl hk,c,hc,hc'⟩⟩
   ·rw [L8 (E8 hj)] at e2;obtain⟨u',r',q⟩:=hl j y v' e1 e2 e3;refine⟨u',r',?_⟩;rcases q with q|⟨k,c',e,z'⟩
    ·exact .inl q
    ·refine .inr ⟨k,c',e,z'.sameBut hs ?_⟩;rintro rfl;exact hj (RQ hN e1 (I.ok.inj _ _ _ e hc ▸ hi))
  ·by_cases hcc:c'=c
   ·subst hcc;exact⟨_,hc'⟩
   ·obtain⟨w2,z2⟩:=I.cell y c' e;exact⟨w2,z2.sameBut hs hcc⟩
  ·obtain⟨e,n,ne,nf,d⟩:=I.pin p hp;refine⟨(hs.2 p.1 ?_).trans e,n,ne,nf,d⟩;intro q;rw [q,hoc] at e;have q':oc=p.2:=C1 e;exact d w' (by rw [<-q'];exact hocd)
theorem yF {M:sJ}{A:C5}{E:G7->P0->Prop}{i:G5}{x:Str}{v:V}{u:G7}{Q:Unit->P0->Prop}(I:Inv X pins σ H s)(hN:X.N.Nodup)(hi:X.N[i]? =some x)(hx:Loc X.env.scope x)(r:RelV v u)
 (h: ∀s',Inv X pins (σ.set i (some v)) H s'->Q () s')(hf:X.fn x=true\/X.env.scope.names.lookup x=some .local:=by first|exact .inl rfl|exact .inr rfl|assumption):S6 M A (sK X.env x u) Q E s:=
 Bk I hN hi hx r (λs' I' _=>h s' I') hf
theorem Inv.call' {s':P0}{ch:G0 P4}(I:Inv X pins σ H s)(ho:s'.os=s.os)(u:Un (frs X.stack) ch H H' s.heap s'.heap)(hok:HOk X.prog X.w H' s'.heap)(hg:gO s'.gens)
 (hch: ∀b∈ch,(b∈X.ex\/X.s₀.heap.objs.size<=b)/\b≠X.env.locals/\(∀x c,X.env.cells.lookup x=some c->c≠b)/\ ∀p∈X.pn++pins,p.1≠b):Inv X pins σ H' s':=by
 obtain⟨h',g',d',t',o'⟩:=s';have e:o'=s.os:=ho;subst e;exact I.call (g':=g') (t':=t') (d':=d') u hok hg hch
end
abbrev XK:=G7->D4 P4->Hp->Prop
abbrev St:=G0 (D4 V)
abbrev VK:=V->Hp->Prop
abbrev TE:=St->Hp->VK->Prop
abbrev TT:=St->Hp->(T9->Hp->Prop)->Prop
abbrev TA:=St->Hp->(G0 V->Hp->Prop)->Prop
structure Ends where
 nx:St->Hp->Prop
 rt:VK
 bk:St->Hp->Prop:=λ_ _=>False
 ct:St->Hp->Prop:=λ_ _=>False
abbrev TS:=Ends->St->Hp->Prop
def EP (X:Cx)(pins:G0 (P4×Obj))(σ:St)(Q:VK)(u:G7)(s':P0):Prop:= ∃v H',Inv X pins σ H' s'/\RelV v u/\Q v H'
def TP (X:Cx)(pins:G0 (P4×Obj))(σ:St)(Q:T9->Hp->Prop)(b:T9)(s':P0):Prop:= ∃H',Inv X pins σ H' s'/\Q b H'
def AP (X:Cx)(pins:G0 (P4×Obj))(σ:St)(Q:G0 V->Hp->Prop)(us:G0 G7)(s':P0):Prop:= ∃vs H',Inv X pins σ H' s'/\Vals vs us/\Q vs H'
def SP (X:Cx)(pins:G0 (P4×Obj))(D:Ends)(f:Flow)(s':P0):Prop:=
 match f with
 | .next=> ∃σ' H',Inv X pins σ' H' s'/\D.nx σ' H'
 | .brk=> ∃σ' H',Inv X pins σ' H' s'/\D.bk σ' H'
 | .cont=> ∃σ' H',Inv X pins σ' H' s'/\D.ct σ' H'
 | .ret u=> ∃v σ' H',Inv X pins σ' H' s'/\RelV v u/\D.rt v H'
def PE (X:Cx)(e:T1)(t:TE):Prop:=
 ∀ (pins:G0 (P4×Obj)) (s:P0) (σ:St) (H:Hp) (Q:VK),Inv X pins σ H s->t σ H Q->S6 (T4 X.prog X.w) X.A (O5 e X.env) (EP X pins σ Q) X.xe s
def PT (X:Cx)(e:T1)(t:TT):Prop:=
 ∀ (pins:G0 (P4×Obj)) (s:P0) (σ:St) (H:Hp) (Q:T9->Hp->Prop),Inv X pins σ H s->t σ H Q->S6 (T4 X.prog X.w) X.A (isTrue e X.env (O5 e X.env)) (TP X pins σ Q) X.xe s
def PW (X:Cx)(e:T1)(t:TT):Prop:=
 ∀ (whole:Sem G7) (pins:G0 (P4×Obj)) (s:P0) (σ:St) (H:Hp) (Q:T9->Hp->Prop),Inv X pins σ H s->t σ H Q->S6 (T4 X.prog X.w) X.A (isTrue e X.env whole) (TP X pins σ Q) X.xe s
variable {X:Cx}
theorem PW.pt {e:T1}{t:TT}(h:PW X e t):PT X e t:=h _
def PA (X:Cx)(es:G0 T1)(t:TA):Prop:=
 ∀ (pos:Pos) (pins:G0 (P4×Obj)) (s:P0) (σ:St) (H:Hp) (Q:G0 V->Hp->Prop),Inv X pins σ H s->t σ H Q->S6 (T4 X.prog X.w) X.A (spliced (E7 pos (D6 es X.env))) (AP X pins σ Q) X.xe s
def PS (X:Cx)(st:C9)(t:TS):Prop:=
 ∀ (pins:G0 (P4×Obj)) (s:P0) (σ:St) (H:Hp) (D:Ends),Inv X pins σ H s->t D σ H->S6 (T4 X.prog X.w) X.A (exec st X.env) (SP X pins D) X.xe s
def PSs (X:Cx)(st:G0 C9)(t:TS):Prop:=
 ∀ (pins:G0 (P4×Obj)) (s:P0) (σ:St) (H:Hp) (D:Ends),Inv X pins σ H s->t D σ H->S6 (T4 X.prog X.w) X.A (execs st X.env) (SP X pins D) X.xe s
variable {A:C5}{s:P0}
theorem thn {α:Type}{t:Sem α}{Q Q':α->P0->Prop}{M:sJ}{E:G7->P0->Prop}(h:S6 M A t Q E s)(hQ: ∀a s,Q a s->Q' a s):S6 M A t Q' E s:=N0 h hQ λ_ _ x=>x
section
variable {X:Cx}
def qD (i:G5):TE:=λσ H Q=> ∃v,σ[i]? =some (some v)/\Q v H
def tC (v:V):TE:=λ_ H Q=>Q v H
variable {x:Str}
theorem Hi {i:G5}{pos:Pos}(hN:X.N[i]? =some x)(hv:Vis X.env.scope x)(hd:(x==("__debug__" :Str))=false:=by decide)(hcd:(x==("__classdict__" :Str))=false:=by decide):PE X (.Name x pos) (qD i):=by
 intro pins s σ H Q I h;obtain⟨v,e,h⟩:=h;obtain⟨m,hn,hl⟩:=I.loc;obtain⟨u,r,l⟩:=hl i x v hN e hv;have fin:EP X pins σ Q u s:=⟨v,H,I,r,h⟩;rcases l with ⟨hk,hm⟩|⟨hk,c,hc,hcell⟩
 ·exact pQ (lA I.ok.kind hk hn hm fin) hd
 ·rcases hk with hk|hk
  ·exact pQ (mD I.ok.kind hk hc hcell fin) hd
  ·exact pQ (wpAny_loadName_free I.ok.kind hk hc hcell fin hcd) hd
theorem pe_int {i j pos}:PE X (.Constant (.int i) j pos) (tC (.int i)):=λ_ _ _ H _ I h=>wpAny_Constant_int ⟨.int i,H,I.tok _,⟨_,rfl⟩,h⟩
theorem pe_bl {b j pos}:PE X (.Constant (.bool b) j pos) (tC (.bl b)):=λ_ _ _ H _ I h=>Constant_bool ⟨.bl b,H,I,rfl,h⟩
theorem pe_non {j pos}:PE X (.Constant .none j pos) (tC .non):=λ_ _ _ H _ I h=>Constant_none ⟨.non,H,I,rfl,h⟩
theorem pe_str {x j pos}:PE X (.Constant (.str x) j pos) (tC (.str x)):=λ_ _ _ H _ I h=>Calls.Constant_str ⟨.str x,H,I.tok _,⟨_,rfl⟩,h⟩
def Gl (X:Cx)(x:Str):Prop:=X.env.kindOf x=some .globalImplicit
variable {u:G7}
theorem Bl {E:G7->P0->Prop}{pins:G0 (P4×Obj)}{s:P0}{σ:St}{H:Hp}{pos:Pos}{Q:G7->P0->Prop}(I:Inv X pins σ H s)(hg:Gl X x)(hm:X.mg x=some u)(h:Q u s)
 (hd:(x==("__debug__" :Str))=false:=by decide):S6 (T4 X.prog X.w) X.A (O5 (.Name x pos) X.env) Q E s:=
 fM I.ok.kind hg (Calls.loadGlobal_global (by rw [I.ok.glob];exact I.mod.glob.keeps I.bk) hm h) hd
theorem ZX {E:G7->P0->Prop}{pins:G0 (P4×Obj)}{s:P0}{σ:St}{H:Hp}{pos:Pos}{Q:G7->P0->Prop}(I:Inv X pins σ H s)(hg:Gl X x)(hm:X.mg x=none)(hv:E3 x=some u)(h:Q u s)
 (hn:x≠ "__name__" :=by decide)(hd:(x==("__debug__" :Str))=false:=by decide):S6 (T4 X.prog X.w) X.A (O5 (.Name x pos) X.env) Q E s:=by
 obtain⟨mb,h1,h2⟩:=I.mod.blt;exact fM I.ok.kind hg (Calls.loadGlobal_builtin (by rw [I.ok.glob];exact I.mod.glob.keeps I.bk) hm (by rw [I.ok.blt];exact h1.keeps I.bk) ((h2 x hn).trans hv) h) hd
theorem Ev {v:V}{pos:Pos}(hg:Gl X x)(hm:X.mg x=some u)(r:RelV v u)(hd:(x==("__debug__" :Str))=false:=by decide):PE X (.Name x pos) (tC v):=
 λ_ _ _ H _ I h=>Bl I hg hm ⟨v,H,I,r,h⟩ hd
theorem Ew {v:V}{pos:Pos}(hg:Gl X x)(hm:X.mg x=none)(hv:E3 x=some u)(r:RelV v u)(hn:x≠ "__name__" :=by decide)(hd:(x==("__debug__" :Str))=false:=by decide):PE X (.Name x pos) (tC v):=
 λ_ _ _ H _ I h=>ZX I hg hm hv ⟨v,H,I,r,h⟩ hn hd
variable {a b:T1}{ta tb:TE}{pos:Pos}
def tB (t:TE):TT:=λσ H Q=>t σ H λx H1=> ∃c,x= .bl c/\Q c H1
theorem Hj {e:T1}{t:TE}(h:PE X e t)(he: ∀whole,isTrue e X.env whole=(do let v <-whole;fB e.pos;aY [v] (pR v)):=by intro _;rfl):PT X e (tB t):=by
 intro pins s σ H Q I hw;refine sQ (thn (h pins s σ H _ I hw) λv s1 ⟨x,H1,I1,r1,q1⟩=> ?_) (he _);obtain⟨d,rfl,q⟩:=q1;cases r1;exact O6 ⟨H1,I1,q⟩
variable {tA tB':TT}{rest:G0 T1}
def qE (t u:TT):TT:=λσ H Q=>t σ H λc H1=>if c=true then u σ H1 Q else Q false H1
def tOr (t u:TT):TT:=λσ H Q=>t σ H λc H1=>if c=true then Q true H1 else u σ H1 Q
def qF (t:TT):TT:=λσ H Q=>t σ H λc H1=>Q (!c) H1
theorem Ex (ha:PT X a tA):PW X (.BoolOp .And [a] pos) tA:=by
 intro wh pins s σ H Q I h;refine x5 (thn (ha pins s σ H Q I h) λc s1 e=> ?_);cases c with
 |true=>exact isTrue_and_nil e
 |false=>exact e
theorem Hk (ha:PT X a tA):PW X (.BoolOp .Or [a] pos) tA:=by
 intro wh pins s σ H Q I h;refine isTrue_or (thn (ha pins s σ H Q I h) λc s1 e=> ?_);cases c with
 |false=>exact isTrue_or_nil e
 |true=>exact e
theorem Hl (ha:PT X a tA)(hb:PW X (.BoolOp .And (b::rest) pos) tB'):PW X (.BoolOp .And (a::b::rest) pos) (qE tA tB'):=by
 intro wh pins s σ H Q I h;refine x5 (thn (ha pins s σ H _ I h) λc s1 ⟨H1,I1,q1⟩=> ?_);cases c with
 |true=>exact hb wh pins s1 σ H1 Q I1 q1
 |false=>exact⟨H1,I1,q1⟩
theorem uV (ha:PT X a tA)(hb:PW X (.BoolOp .Or (b::rest) pos) tB'):PW X (.BoolOp .Or (a::b::rest) pos) (tOr tA tB'):=by
 intro wh pins s σ H Q I h;refine isTrue_or (thn (ha pins s σ H _ I h) λc s1 ⟨H1,I1,q1⟩=> ?_);cases c with
 |true=>exact⟨H1,I1,q1⟩
 |false=>exact hb wh pins s1 σ H1 Q I1 q1
theorem Hm (ha:PT X a tA):PT X (.UnaryOp .Not a pos) (qF tA):=by
 intro pins s σ H Q I h;exact isTrue_not (ha pins s σ H (λc H1=>Q (!c) H1) I h)
def Hn (ta tb:TE):TE:=λσ H Q=>ta σ H λx H1=> ∃c,x= .bl c/\if c=true then tb σ H1 Q else Q (.bl false) H1
def qG (ta tb:TE):TE:=λσ H Q=>ta σ H λx H1=> ∃c,x= .bl c/\if c=true then Q (.bl true) H1 else tb σ H1 Q
def Ho (ta:TE):TE:=λσ H Q=>ta σ H λx H1=> ∃c,x= .bl c/\Q (.bl (!c)) H1
theorem Hq {op}{t:TE}(h:PE X a t):PE X (.BoolOp op [a] pos) t:=λpins s σ H Q I hw=>BoolOp_one (h pins s σ H Q I hw)
theorem Hr (ha:PE X a ta)(hb:PE X (.BoolOp .And (b::rest) pos) tb):PE X (.BoolOp .And (a::b::rest) pos) (Hn ta tb):=by
 intro pins s σ H Q I h;refine BoolOp_and (thn (ha pins s σ H _ I h) λv s1 ⟨x,H1,I1,r1,q1⟩=> ?_);obtain⟨c,rfl,q1⟩:=q1;cases r1;refine O6 ?_;cases c with
 |true=>exact hb pins s1 σ H1 Q I1 q1
 |false=>exact⟨.bl false,H1,I1,rfl,q1⟩
theorem uW (ha:PE X a ta)(hb:PE X (.BoolOp .Or (b::rest) pos) tb):PE X (.BoolOp .Or (a::b::rest) pos) (qG ta tb):=by
 intro pins s σ H Q I h;refine BoolOp_or (thn (ha pins s σ H _ I h) λv s1 ⟨x,H1,I1,r1,q1⟩=> ?_);obtain⟨c,rfl,q1⟩:=q1;cases r1;refine O6 ?_;cases c with
 |false=>exact hb pins s1 σ H1 Q I1 q1
 |true=>exact⟨.bl true,H1,I1,rfl,q1⟩
theorem Hs (ha:PE X a ta):PE X (.UnaryOp .Not a pos) (Ho ta):=by
 intro pins s σ H Q I h;refine UnaryOp_ (thn (ha pins s σ H _ I h) λv s1 ⟨x,H1,I1,r1,q1⟩=> ?_);obtain⟨c,rfl,q1⟩:=q1;cases r1;exact not_of (O6 ⟨.bl (!c),H1,I1,rfl,q1⟩)
def tIf (t:TT)(ta tb:TE):TE:=λσ H Q=>t σ H λc H1=>if c=true then ta σ H1 Q else tb σ H1 Q
theorem Lx {c:T1}(hc:PT X c tA)(ha:PE X a ta)(hb:PE X b tb):PE X (.IfExp c a b pos) (tIf tA ta tb):=by
 intro pins s σ H Q I h;refine wpAny_IfExp (thn (hc pins s σ H _ I h) λd s1 ⟨H1,I1,q1⟩=> ?_);cases d with
 |true=>exact ha pins s1 σ H1 Q I1 q1
 |false=>exact hb pins s1 σ H1 Q I1 q1
end
def SqL (K:G6)(H:Hp)(a:P4)(xs:G0 V):Prop:=
 Rd H a (.lst xs)\/
  ∃ (o:Obj) (its:N8 G7) (n:G5),K.lookup a=some o/\o.cls= .type "list" /\o.dict=none/\o.data= .seq its n/\its.size<=sizeLine/\Vals xs its.toList
def SqT (K:G6)(H:Hp)(a:P4)(xs:G0 V):Prop:=
 Rd H a (.tup xs)\/
  ∃ (o:Obj) (its:N8 G7) (n:G5),K.lookup a=some o/\o.cls= .type "tuple" /\o.data= .seq its n/\its.size<=sizeLine/\Vals xs its.toList
def jaF:G7->D4 V
 | .none=>some .non
 | .bool b=>some (.bl b)
 | .int i _=>some (.int i)
 | .str x _=>some (.str x)
 | .bytes b _=>some (.byt b)
 | .float b _=>some (.flt b)
 | .ref a=>some (.ref a)
 | .type n=>some (.ty n)
 |_=>none
theorem RelV.abs {x:V}(r:RelV x u):jaF u=some x:=by
 cases x with
 |non=>cases r;rfl
 |bl _=>cases r;rfl
 |int _=>obtain⟨t,rfl⟩:=r;rfl
 |str _=>obtain⟨t,rfl⟩:=r;rfl
 |byt _=>obtain⟨t,rfl⟩:=r;rfl
 |flt _=>obtain⟨t,rfl⟩:=r;rfl
 |ref _=>cases r;rfl
 |ty _=>cases r;rfl
theorem RelV.inj {x y:V}(r:RelV x u)(q:RelV y u):x=y:=C1 (r.abs.symm.trans q.abs)
theorem Vals.inj: ∀ {xs ys:G0 V} {us:G0 G7},Vals xs us->Vals ys us->xs=ys
 |_,_,_,.nil,.nil=>rfl
 |_,_,_,.cons r t,.cons r' t'=>by rw [r.inj r',Vals.inj t t']
section
variable {X:Cx}{pins:G0 (P4×Obj)}{σ:St}{H:Hp}{s:P0}{a:P4}{xs ys:G0 V}
theorem SqL.of {K:G6}(h:H a=some (.lst xs)):SqL K H a xs:= .inl (.inl h)
theorem SqT.of {K:G6}(h:H a=some (.tup xs)):SqT K H a xs:= .inl (.inl h)
theorem Inv.list (I:Inv X pins σ H s)(h:SqL X.K H a xs): ∃its:G0 G7,Vals xs its/\PlainL s.heap a its.toArray/\xs.length<=sizeLine:=by
 rcases h with h|⟨o,its,n,hk,hc,hd,hs,hz,r⟩
 ·obtain⟨z,its,n,r,e⟩:=h.ok I.hok;exact⟨its,r,⟨_,n,e,rfl,rfl,rfl⟩,z⟩
 ·refine⟨its.toList,r,⟨o,n,I.kIn a o hk,hc,hd,by simpa using hs⟩,?_⟩;have e:=r.length;simp only [C7] at e;omega
theorem Inv.tuple (I:Inv X pins σ H s)(h:SqT X.K H a xs): ∃its:G0 G7,Vals xs its/\mI s.heap a its.toArray/\xs.length<=sizeLine:=by
 rcases h with h|⟨o,its,n,hk,hc,hs,hz,r⟩
 ·obtain⟨z,its,r,p⟩:=h.ok I.hok;exact⟨its,r,p.tup,z⟩
 ·refine⟨its.toList,r,⟨o,I.kIn a o hk,hc,n,by simpa using hs⟩,?_⟩;have e:=r.length;simp only [C7] at e;omega
theorem Inv.list_inj (I:Inv X pins σ H s)(h:SqL X.K H a xs)(h':SqL X.K H a ys):xs=ys:=by
 obtain⟨its,r,⟨o,n,e,_,_,d⟩,_⟩:=I.list h;obtain⟨its',r',⟨o',n',e',_,_,d'⟩,_⟩:=I.list h';rw [e] at e';cases e';rw [d] at d';injection d' with d1 _
 have:its=its':=by simpa using congrArg sR d1
 subst this;exact r.inj r'
theorem Inv.tuple_inj (I:Inv X pins σ H s)(h:SqT X.K H a xs)(h':SqT X.K H a ys):xs=ys:=by
 obtain⟨its,r,⟨o,e,_,n,d⟩,_⟩:=I.tuple h;obtain⟨its',r',⟨o',e',_,n',d'⟩,_⟩:=I.tuple h';rw [e] at e';cases e';rw [d] at d';injection d' with d1 _
 have:its=its':=by simpa using congrArg sR d1
 subst this;exact r.inj r'
end
abbrev Cx.wish (X:Cx)(E:G7->P0->Prop):Cx:= {X with xe:=E}
abbrev Cx.nox (X:Cx):Cx:=X.wish λ_ _=>False
theorem Cx.Ok.wish (ok:X.Ok)(E:G7->P0->Prop):(X.wish E).Ok:=
 ⟨ok.mod,ok.kind,ok.glob,ok.blt,ok.above,ok.inj,ok.has,ok.cab,ok.hd,ok.frames,ok.stk,ok.exf,ok.bs,ok.bsz,ok.noex,ok.exfs,ok.funs,ok.frf⟩
theorem Cx.Ok.unwish {E:G7->P0->Prop}(ok:(X.wish E).Ok):X.Ok:=
 ⟨ok.mod,ok.kind,ok.glob,ok.blt,ok.above,ok.inj,ok.has,ok.cab,ok.hd,ok.frames,ok.stk,ok.exf,ok.bs,ok.bsz,ok.noex,ok.exfs,ok.funs,ok.frf⟩
section
variable {X:Cx}{pins:G0 (P4×Obj)}{σ:St}{H:Hp}{s:P0}{E:G7->P0->Prop}
theorem Inv.wish (I:Inv X pins σ H s)(E:G7->P0->Prop):Inv (X.wish E) pins σ H s:=⟨I.ok.wish E,I.os,I.bare,I.base,I.loc,I.cell,I.free,I.freeC,I.pin,I.hok,I.len⟩
theorem Inv.unwish (I:Inv (X.wish E) pins σ H s):Inv X pins σ H s:=⟨I.ok.unwish,I.os,I.bare,I.base,I.loc,I.cell,I.free,I.freeC,I.pin,I.hok,I.len⟩
theorem SP.unwish {D:Ends}{f:Flow}{s':P0}(h:SP (X.wish E) pins D f s'):SP X pins D f s':=by
 cases f with
 |next=>obtain⟨σ',H',I,q⟩:=h;exact⟨σ',H',I.unwish,q⟩
 |brk=>obtain⟨σ',H',I,q⟩:=h;exact⟨σ',H',I.unwish,q⟩
 |cont=>obtain⟨σ',H',I,q⟩:=h;exact⟨σ',H',I.unwish,q⟩
 |ret u=>obtain⟨v,σ',H',I,r,q⟩:=h;exact⟨v,σ',H',I.unwish,r,q⟩
theorem PSs.nox {st:G0 C9}{t:TS}(h:PSs X.nox st t):PSs X st t:=λpins s σ H D I hw=>
 N0 (h pins s σ H D (I.wish _) hw) (λ_ _ q=>q.unwish) λ_ _ z=>False.elim z
end
section
variable {X:Cx}{st:C9}{rest:G0 C9}{t u:TS}{e:T1}{te:TE}{pos:Pos}
def Ht:TS:=λD σ H=>D.nx σ H
def qH (t u:TS):TS:=λD σ H=>t {D with nx:=u D} σ H
theorem pss_nil:PSs X [] Ht:=λ_ _ σ H _ I h=>eJ ⟨σ,H,I,h⟩
theorem Ly (h1:PS X st t)(h2:PSs X rest u):PSs X (st::rest) (qH t u):=by
 intro pins s σ H D I h;refine oC (thn (h1 pins s σ H {D with nx:=u D} I h) λf s1 q=> ?_);cases f with
 |next=>
  obtain⟨σ',H',I',q⟩:=q;exact h2 pins s1 σ' H' D I' q
 |ret v=>exact q
 |brk=>exact q
 |cont=>exact q
theorem Ey (h1:PS X st t):PSs X [st] t:=by
 intro pins s σ H D I h;refine oC (thn (h1 pins s σ H D I h) λf s1 q=> ?_);cases f with
 |next=>exact eJ q
 |ret v=>exact q
 |brk=>exact q
 |cont=>exact q
theorem Inv.quiet {pins:G0 (P4×Obj)}{σ:St}{H:Hp}{s:P0}(I:Inv X pins σ H s):tU X.env=false:=by simp [tU,I.ok.kind]
def Hu (te:TE):TS:=λD σ H=>te σ H λ_ H1=>D.nx σ H1
theorem Ez (he:PE X e te)(hs:aD e none pos.line X.env=pure false:=by rfl):PS X (.Expr e pos) (Hu te):=by
 intro pins s σ H D I h;exact wpAny_Expr_any (thn (he pins s σ H _ I h) λv s1 ⟨x,H1,I1,r1,q1⟩=>⟨σ,H1,I1,q1⟩) I.quiet hs
def qI (te:TE):TS:=λD σ H=>te σ H D.rt
theorem Hv (he:PE X e te):PS X (.Return (some e) pos) (qI te):=by
 intro pins s σ H D I h;exact wpAny_Return_some (thn (he pins s σ H _ I h) λv s1 ⟨x,H1,I1,r1,q1⟩=>⟨x,σ,H1,I1,r1,q1⟩)
def qJ (c:TT)(t u:TS):TS:=λD σ H=>c σ H λb H1=>if b=true then t D σ H1 else u D σ H1
theorem xa {c:T1}{a b:G0 C9}{tc:TT}(hc:PT X c tc)(ha:PSs X a t)(hb:PSs X b u):PS X (.If c a b pos) (qJ tc t u):=by
 intro pins s σ H D I h;refine wpAny_If (thn (hc pins s σ H _ I h) λd s1 ⟨H1,I1,q1⟩=> ?_);cases d with
 |true=>exact ha pins s1 σ H1 D I1 q1
 |false=>exact hb pins s1 σ H1 D I1 q1
end
abbrev TG:=V->St->Hp->(St->Hp->Prop)->Prop
abbrev TGs:=G0 V->St->Hp->(St->Hp->Prop)->Prop
def PG (X:Cx)(target:T1)(t:TG):Prop:=
 ∀ (pins:G0 (P4×Obj)) (s:P0) (σ:St) (H:Hp) (v:V) (u:G7) (Q:St->Hp->Prop),Inv X pins σ H s->RelV v u->t v σ H Q->
  S6 (T4 X.prog X.w) X.A (eM target X.env u) (λ_ s'=> ∃σ' H',Inv X pins σ' H' s'/\Q σ' H') X.xe s
def PGs (X:Cx)(ts:G0 T1)(t:TGs):Prop:=
 ∀ (pins:G0 (P4×Obj)) (s:P0) (σ:St) (H:Hp) (vs:G0 V) (us:G0 G7) (Q:St->Hp->Prop),Inv X pins σ H s->Vals vs us->t vs σ H Q->
  S6 (T4 X.prog X.w) X.A (dP ((cG ts X.env).map (·.2)) us) (λ_ s'=> ∃σ' H',Inv X pins σ' H' s'/\Q σ' H') X.xe s
abbrev xb:=V->V->V->Hp->(Hp->Prop)->Prop
def qK (X:Cx)(t:xb):Prop:=
 ∀ (pins:G0 (P4×Obj)) (s:P0) (σ:St) (H:Hp) (o i v:V) (ov iv u:G7) (Q:Hp->Prop),Inv X pins σ H s->RelV o ov->RelV i iv->RelV v u->t o i v H Q->
  S6 (T4 X.prog X.w) X.A (sS ov iv u) (λ_ s'=> ∃H',Inv X pins σ H' s'/\Q H') X.xe s
abbrev TIp:=V->V->Hp->VK->Prop
def PIp (X:Cx)(op:m7)(t:TIp):Prop:=
 ∀ (pins:G0 (P4×Obj)) (s:P0) (σ:St) (H:Hp) (x y:V) (v u:G7) (Q:VK),Inv X pins σ H s->RelV x v->RelV y u->t x y H Q->
  S6 (T4 X.prog X.w) X.A (inplaceOp op v u) (EP X pins σ Q) X.xe s
section
variable {X:Cx}{pos:Pos}
def wA (i:G5):TG:=λv σ H Q=>Q (σ.set i (some v)) H
variable {i:G5}{x:Str}
theorem yQ (hN:X.N.Nodup)(hi:X.N[i]? =some x)(hx:Loc X.env.scope x)(hf:X.fn x=true\/X.env.scope.names.lookup x=some .local:=by first|exact .inl rfl|exact .inr rfl|assumption):PG X (.Name x pos) (wA i):=by
 intro pins s σ H v u Q I r h;exact wpAny_assign_Name (yF I hN hi hx r (λs' I'=>⟨_,H,I',h⟩) hf)
def TW:TGs:=λvs σ H Q=>vs= []/\Q σ H
def YI (t:TG)(u:TGs):TGs:=λvs σ H Q=> ∃v r,vs=v::r/\t v σ H λσ' H'=>u r σ' H' Q
theorem XW:PGs X [] TW:=by
 intro pins s σ H vs us Q I r h;obtain⟨e,h⟩:=h;subst e;cases r;exact gP ⟨σ,H,I,h⟩
variable {e:T1}
theorem ya {es:G0 T1}{t:TG}{u:TGs}(h1:PG X e t)(h2:PGs X es u)
 (hs:(cG (e::es) X.env).map (·.2)=eM e X.env::(cG es X.env).map (·.2):=by rfl):PGs X (e::es) (YI t u):=by
 intro pins s σ H vs us Q I r h;obtain⟨v,vr,e1,h⟩:=h;subst e1;cases r with
 |cons r rr=>
  rw [hs];refine W8 (thn (h1 pins s σ H _ _ _ I r h) λ_ s1 ⟨σ1,H1,I1,q1⟩=> ?_);exact h2 pins s1 σ1 H1 _ _ Q I1 rr q1
def TX (K:G6)(n:G5)(t:TGs):TG:=λv σ H Q=> ∃a xs,v= .ref a/\SqT K H a xs/\xs.length=n/\t xs σ H Q
theorem RR {es:G0 T1}{k:G5}{t:TGs}{n:G5}(hc:X.calm=true)(h:PGs X es t)
 (hn:(cG es X.env).length=n:=by rfl)(hst:(cG es X.env).findIdx? (·.1)=none:=by rfl):PG X (.Tuple es k pos) (TX X.K n t):=by
 intro pins s σ H v u Q I r hw;obtain⟨a,xs,e1,hq,hl,hw⟩:=hw;subst e1;cases r;obtain⟨its,rv,ht,hz⟩:=I.tuple hq;refine assign_Tuple_tuple (I.ok.hd hc) ht (by simp [hn,<-hl,rv.length]) hst λh' hx=> ?_
 have I1:Inv X pins σ H {s with heap:=h'}:=I.kept (t':=s.toks) λb o e=>hx b o (M9 (S0 e)) e
 exact h pins _ σ H xs _ Q I1 (by simpa using rv) hw
def jaG (to ti:TE)(t:xb):TG:=λv σ H Q=>to σ H λo H1=>ti σ H1 λi H2=>t o i v H2 λH3=>Q σ H3
theorem Hw {o i:T1}{to ti:TE}{t:xb}(ho:PE X o to)(hi:PE X i ti)(hs:qK X t)
 (ha: ∀v,eM (.Subscript o i pos) X.env v=(do
  let ov <-aY [v] (O5 o X.env)
  let iv <-aY [v,ov] (O5 i X.env)
  fB pos
  aY [v,ov,iv] (sS ov iv v)
  II [v,ov,iv] []):=by intro _;rfl):PG X (.Subscript o i pos) (jaG to ti t):=by
 intro pins s σ H v u Q I r h;rw [ha];refine wpAny_bind (K2 (thn (ho pins s σ H _ I h) λov s1 ⟨x,H1,I1,r1,q1⟩=> ?_));refine wpAny_bind (K2 (thn (hi pins s1 σ H1 _ I1 q1) λiv s2 ⟨y,H2,I2,r2,q2⟩=> ?_));refine wpAny_bind (aV (wpAny_bind (K2 (thn (hs pins s2 σ H2 x y v ov iv u _ I2 r1 r2 r q2) λ_ s3 ⟨H3,I3,q3⟩=> ?_))));exact wpAny_release ⟨σ,H3,I3,q3⟩
def AK (te:TE)(g:TG):TS:=λD σ H=>te σ H λx H1=>g x σ H1 D.nx
theorem Hx {tg:T1}{te:TE}{g:TG}(he:PE X e te)(hg:PG X tg g)(hs:Z5 [tg] e pos.line X.env=pure false:=by rfl)(hw:Z6 [tg] e X.env=pure none:=by rfl)
 (h1:(cG [tg] X.env).map (·.2)= [eM tg X.env]:=by rfl):PS X (.Assign [tg] e pos) (AK te g):=by
 intro pins s σ H D I h;refine wpAny_Assign_stores (thn (he pins s σ H _ I h) λv s1 ⟨x,H1,I1,r1,q1⟩=> ?_) hs hw;rw [h1];exact thn (hg pins s1 σ H1 x v _ I1 r1 q1) λ_ s2 q=>q
theorem Hy {te:TE}{pos':Pos}(hN:X.N.Nodup)(hi:X.N[i]? =some x)(hx:Loc X.env.scope x)(he:PE X e te)(hs:aD e (some (.Name x pos')) pos.line X.env=pure false:=by rfl)(hf:X.fn x=true\/X.env.scope.names.lookup x=some .local:=by first|exact .inl rfl|exact .inr rfl|assumption):
 PS X (.Assign [.Name x pos'] e pos) (AK te (wA i)):=by
 intro pins s σ H D I h;refine wpAny_Assign_Name (thn (he pins s σ H _ I h) λv s1 ⟨y,H1,I1,r1,q1⟩=> ?_) hs;exact yF I1 hN hi hx r1 (λs2 I2=>⟨_,H1,I2,q1⟩) hf
def qL (i j:G5)(ta:TA):TS:=λD σ H=>ta σ H λvs H1=> ∃v w,vs= [v,w]/\D.nx ((σ.set i (some v)).set j (some w)) H1
theorem Hz {j:G5}{y:Str}{a b:T1}{ta:TA}{px py pt:Pos}{kt k2 pt2}(hc:X.calm=true)(hN:X.N.Nodup)(hi:X.N[i]? =some x)(hj:X.N[j]? =some y)(hij:i≠j)
 (hx:X.env.scope.names.lookup x=some .local)(hy:X.env.scope.names.lookup y=some .local)(ha:PA X [a,b] ta)
 (hw:Z6 [.Tuple [.Name x px,.Name y py] kt pt] (.Tuple [a,b] k2 pt2) X.env=pure (some [x,y]))
 (hs:Z5 [.Tuple [.Name x px,.Name y py] kt pt] (.Tuple [a,b] k2 pt2) pos.line X.env=pure false:=by rfl):
 PS X (.Assign [.Tuple [.Name x px,.Name y py] kt pt] (.Tuple [a,b] k2 pt2) pos) (qL i j ta):=by
 intro pins s σ H D I h;rw [oZ];refine wpAny_bind (aV ?_);rw [hs];refine wpAny_bind (D2 ?_);rw [D9 (by decide)];refine wpAny_bind (Tuple_ (thn (ha _ pins s σ H _ I h) λus s1 ⟨vs,H1,I1,r1,q1⟩=> ?_));obtain⟨v,w,e1,q1⟩:=q1;subst e1;obtain⟨u1,u2,rfl,rv,rw'⟩: ∃u1 u2,us= [u1,u2]/\RelV v u1/\RelV w u2:=by
  cases r1 with
  |cons p q=>
   cases q with
   |cons p' q'=>
    cases q';exact⟨_,_,rfl,p,p'⟩
 refine V4 ?_ (by show 2<=sizeLine;decide);have I2:Inv X pins σ H1 {s1 with heap:=s1.heap.push {cls:= .type "tuple",data:= .seq [u1,u2].toArray}}:=I1.kept (t':=s1.toks) λb o e=>P7 _ e
 rw [hw];refine wpAny_bind (D2 ?_);show S6 (T4 X.prog X.w) X.A (do rule "assign.swapped-stores";let items <-tV (.ref s1.heap.objs.size) 2 none;dP [λv=>cT X.env y v,λv=>cT X.env x v] items.reverse;pure Flow.next) _ _ _;refine wpAny_bind (cH (wpAny_bind (m8 (items:= #[u1,u2]) (I.ok.hd hc) (IsTup.new s1.heap _) λh' hx'=> ?_)));have I3:=I2.kept (h':=h') (t':=s1.toks) λb o e=>hx' b o (M9 (S0 e)) e
 show S6 _ _ (dP [λv=>cT X.env y v,λv=>cT X.env x v] [u2,u1] >>= λ_=>pure Flow.next) _ _ _;refine wpAny_bind (W8 (cU (yF I3 hN hj (.inl hy) rw' (λs2 I4=> ?_) (.inr hy))));refine W8 (cU (yF I4 hN hi (.inl hx) rv (λs3 I5=>gP (D2 ?_)) (.inr hx)));rw [gX _ _ (E8 hij)] at I5;exact⟨_,H1,I5,q1⟩
def qM (i:G5)(te:TE)(ti:TIp):TS:=λD σ H=> ∃x,σ[i]? =some (some x)/\te σ H λy H1=>ti x y H1 λz H2=>D.nx (σ.set i (some z)) H2
theorem AL {te:TE}{op:m7}{ti:TIp}{pos':Pos}(hN:X.N.Nodup)(hi:X.N[i]? =some x)(hx:Loc X.env.scope x)(he:PE X e te)(ho:PIp X op ti)(hf:X.fn x=true\/X.env.scope.names.lookup x=some .local:=by first|exact .inl rfl|exact .inr rfl|assumption):
 PS X (.AugAssign (.Name x pos') op e pos) (qM i te ti):=by
 intro pins s σ H D I h;obtain⟨v,e1,h⟩:=h;obtain⟨m,hn,hl⟩:=I.loc;have vis:Vis X.env.scope x:=by rcases hx with k|k;exact .inl k;exact .inr (.inl k)
 obtain⟨u,r,l⟩:=hl i x v hi e1 vis;refine wpAny_AugAssign_Name ?_;have go:S6 (T4 X.prog X.w) X.A (O5 e X.env) (λw s₂=>S6 (T4 X.prog X.w) X.A (inplaceOp op u w) (λr s₃=>S6 (T4 X.prog X.w) X.A (sK X.env x r) (λ_=>SP X pins D .next) X.xe s₃) X.xe s₂) X.xe s:=by
  refine thn (he pins s σ H _ I h) λw s1 ⟨y,H1,I1,r1,q1⟩=> ?_
  refine thn (ho pins s1 σ H1 v y u w _ I1 r r1 q1) λz s2 ⟨zv,H2,I2,r2,q2⟩=> ?_
  exact yF I2 hN hi hx r2 (λs3 I3=>⟨_,H2,I3,q2⟩) hf
 rcases l with ⟨hk,hm⟩|⟨hk,c,hc,hcell⟩
 ·exact lA I.ok.kind hk hn hm go
 ·rcases hk with hk|hk
  ·exact mD I.ok.kind hk hc hcell go
  ·rcases hx with k|k
   ·have:X.env.scope.names.lookup x=some .free:=hk;rw [k] at this;cases this
   ·have:X.env.scope.names.lookup x=some .free:=hk;rw [k] at this;cases this
def ipI (f:G8->G8->G8):TIp:=λx y H Q=> ∃i j,x= .int i/\y= .int j/\Q (.int (f i j)) H
theorem HA:PIp X .Add (ipI λi j=>i+j):=by
 intro pins s σ H x y v u Q I r1 r2 h;obtain⟨i,j,e1,e2,q⟩:=h;subst e1;subst e2;obtain⟨t,rfl⟩:=r1;obtain⟨t',rfl⟩:=r2;exact iadd_int ⟨.int _,H,I.tok _,⟨_,rfl⟩,q⟩
theorem HB:PIp X .Sub (ipI λi j=>i-j):=by
 intro pins s σ H x y v u Q I r1 r2 h;obtain⟨i,j,e1,e2,q⟩:=h;subst e1;subst e2;obtain⟨t,rfl⟩:=r1;obtain⟨t',rfl⟩:=r2;exact isub_int ⟨.int _,H,I.tok _,⟨_,rfl⟩,q⟩
def AM (c:TT)(tb:TS):TS:=λD σ H=> ∃W:G5->St->Hp->Prop,(∃m,W m σ H)/\ ∀m σ H,W m σ H->
 c σ H λb H1=>if b=true then ∃N:St->Hp->Prop,(∀σ' H',N σ' H'-> ∃m',m'<m/\W m' σ' H')/\tb {D with nx:=N,ct:=N,bk:=D.nx} σ H1 else D.nx σ H1
theorem Lz {c:T1}{body:G0 C9}{tc:TT}{tb:TS}(hp:l9 (T4 X.prog X.w) X.A X.env X.xe)(hc:PT X c tc)(hb:PSs X body tb):PS X (.While c body [] pos) (AM tc tb):=by
 intro pins s σ H D I h;obtain⟨W,⟨m0,w0⟩,turn⟩:=h;refine wpAny_While (codeAny_whileLoop (λn s'=> ∃σ' H',Inv X pins σ' H' s'/\W n σ' H') ?_ m0 ⟨σ,H,I,w0⟩);rintro n s1 ⟨σ1,H1,I1,w1⟩;refine X6 hp (thn (hc pins s1 σ1 H1 _ I1 (turn n σ1 H1 w1)) λb s2 ⟨H2,I2,q2⟩=> ?_);cases b with
 |true=>
  obtain⟨N,hN,q2⟩:=q2;rw [D8 rfl];refine X6 hp (thn (hb pins s2 σ1 H2 _ I2 q2) λf s3 q3=> ?_);cases f with
  |next=>
   obtain⟨σ3,H3,I3,n3⟩:=q3;obtain⟨m',hm,w3⟩:=hN σ3 H3 n3;exact⟨m',hm,σ3,H3,I3,w3⟩
  |cont=>
   obtain⟨σ3,H3,I3,n3⟩:=q3;obtain⟨m',hm,w3⟩:=hN σ3 H3 n3;exact⟨m',hm,σ3,H3,I3,w3⟩
  |brk=>exact q3
  |ret v=>exact q3
 |false=>
  rw [D9 R0];exact eJ ⟨σ1,H2,I2,q2⟩
end
structure It where
 go:G5->Hp->Prop
 yld:G5->Hp->V->Hp->Prop
 stop:G5->Hp->Prop
def Bd (X:Cx)(pins:G0 (P4×Obj))(H:Hp)(b:P4):Prop:=
 H b=none/\b≠X.env.locals/\b ∉ X.fs/\(b∈X.ex\/X.s₀.heap.objs.size<=b)/\(∀x c,X.env.cells.lookup x=some c->c≠b)/\ ∀p∈X.pn++pins,p.1≠b
theorem Inv.fpOk {pins:G0 (P4×Obj)}{σ:St}{H':Hp}(I:Inv X pins σ H s)(hb:s.heap.objs.size<=b)(hn:H' b=none):Bd X pins H' b:=by
 refine⟨hn,W0 (N6 I.lt hb),I.nofs hb,.inr (T5 I.sz hb),λx c e z=> ?_,λp hp z=> ?_⟩
 ·obtain⟨v,q⟩:=I.cell x c e;exact absurd (N6 q.lt (by rw [z];exact hb)) (O0 _)
 ·exact absurd (N6 (S0 (I.pin p hp).1) (by rw [z];exact hb)) (O0 _)
structure Turn (P:M0)(w:C6)(K:G6)(tg:T1)(J:It)(fp:G0 P4)(it:P4)(tn:G5->L6->Prop):Prop where
 mem:it∈fp
 obj: ∀i h,tn i h-> ∀b∈fp,∃o,h.get? b=some o/\ ∀v,o.data≠ .cell v
 keep: ∀i h h',tn i h->(∀b∈fp,∀o,h.get? b=some o->h'.get? b=some o)->tn i h'
 item: ∀ (X:Cx),X.prog=P->X.w=w->X.K=K->X.calm=true-> ∀ (i:G5) (pins:G0 (P4×Obj)) (s:P0) (σ:St) (H:Hp) (E:G7->P0->Prop),Inv X pins σ H s->(∀b∈fp,Bd X pins H b)->tn i s.heap->J.go i H->
  S6 (T4 P w) X.A (pS (.ref it)) (λr s1=> ∃u,r=some u/\
   S6 (T4 P w) X.A (X7 tg (.ref it) u) (λ_ s2=> ∃x H',Inv X pins σ H' s2/\RelV x u/\J.yld i H x H'/\tn (i+1) s2.heap/\ ∀b∈fp,H' b=none) E s1) E s
 done: ∀ (X:Cx),X.prog=P->X.w=w->X.K=K->X.calm=true-> ∀ (i:G5) (pins:G0 (P4×Obj)) (s:P0) (σ:St) (H:Hp) (E:G7->P0->Prop),Inv X pins σ H s->(∀b∈fp,Bd X pins H b)->tn i s.heap->J.stop i H->
  S6 (T4 P w) X.A (pS (.ref it)) (λr s1=>r=none/\Inv X pins σ H s1) E s
 self: ∀ (A:C5) (i:G5) (s:P0) (Q:G7->P0->Prop) (E:G7->P0->Prop),tn i s.heap->Q (.ref it) s->S6 (T4 P w) A (pT (.ref it)) Q E s
abbrev TI:=St->Hp->(It->Hp->Prop)->Prop
def PIE (X:Cx)(pins:G0 (P4×Obj))(σ:St)(tg:T1)(R:It->Hp->Prop)(itv:G7)(s2:P0):Prop:=
 ∃ (it:P4) (fp:G0 P4) (tn:G5->L6->Prop) (J:It) (H':Hp),itv= .ref it/\Inv X pins σ H' s2/\Turn X.prog X.w X.K tg J fp it tn/\tn 0 s2.heap/\(∀b∈fp,Bd X pins H' b)/\R J H'
def PI (X:Cx)(tg iter:T1)(wi:TI):Prop:=
 ∀ (pins:G0 (P4×Obj)) (s:P0) (σ:St) (H:Hp) (R:It->Hp->Prop),Inv X pins σ H s->wi σ H R->
  S6 (T4 X.prog X.w) X.A (O5 iter X.env) (λv s1=>S6 (T4 X.prog X.w) X.A (pT v) (PIE X pins σ tg R) X.xe s1) X.xe s
variable {tg:T1}
theorem LB {M : sJ} {E : G7 → P0 → Prop} {it : P4} {o : Obj} {n : U1} {vs : N8 G7} {Q : Unit → P0 → Prop} (ho : s.heap.get? it = some o) (hc : o.cls = .type n) (hd : o.data = .fields vs)
    (hn : ["enumerate", "zip", "dict_itemiterator", "dict_reverseitemiterator", "odict_iterator", "itertools.zip_longest", "itertools.pairwise"].contains n = false) (hQ : Q () s) : S6 M A (X7 tg (.ref it) u) Q E s := by
  unfold X7
  cases tg <;> first
    | exact D2 hQ
    | (cases u <;> first
        | exact D2 hQ
        | (refine wpAny_bind (wpAny_load ho ?_)
           rw [hc, hd]
           show S6 M A (if (["enumerate", "zip", "dict_itemiterator", "dict_reverseitemiterator", "odict_iterator", "itertools.zip_longest", "itertools.pairwise"].contains n && vs[0]? == some (sT _)) = true then _ else _) Q E s
           rw [D9 (by intro h; rw [hn, lB] at h; cases h)]
           exact D2 hQ))
def Itl (K:G6)(a:P4):It:=
 ⟨λi H=> ∃xs x,SqL K H a xs/\xs[i]? =some x,λi H x H'=>H'=H/\ ∀xs,SqL K H a xs->xs[i]? =some x,λi H=> ∃xs,SqL K H a xs/\xs.length<=i⟩
def Itt (K:G6)(a:P4):It:=
 ⟨λi H=> ∃xs x,SqT K H a xs/\xs[i]? =some x,λi H x H'=>H'=H/\ ∀xs,SqT K H a xs->xs[i]? =some x,λi H=> ∃xs,SqT K H a xs/\xs.length<=i⟩
def Itr (lo:G8)(n:G5):It:=⟨λi _=>i<n,λi H x H'=>H'=H/\x= .int (lo+i),λi _=>n<=i⟩
variable {K:G6}
theorem Gv (a it:P4):Turn P w K tg (Itl K a) [it] it (λi h=>h.IsListIter it a i) where
 mem:=by simp
 obj:=λi h st b hb=>by
  have e:b=it:=by simpa using hb
  subst e;obtain⟨o,e,c,d⟩:=st;exact⟨o,e,λv z=>by rw [d] at z;cases z⟩
 keep:=λi h h' st k=>st.at λo e=>k it (by simp) o e
 item:=by
  intro X hP hw hK hc i pins s σ H E I hf st hg;subst hP hw hK;obtain⟨xs,x,hq,hx⟩:=hg;obtain⟨its,rv,p,hz⟩:=I.list hq;obtain⟨u,hu,ru⟩:=rv.get hx;obtain⟨f0,f1,f2,f3,f4,f5⟩:=hf it (by simp);refine wpAny_pyNext_list_item st p.isList (x:=u) (by simpa using hu) λh' st' sb=> ?_
  have I1:Inv X pins σ H {s with heap:=h'}:=I.turned (t':=s.toks) (λb o hb e=>(sb.2 b hb).trans e) f0 f1 f3 f4 f5;obtain⟨o,e,c,d⟩:=id st';exact⟨u,rfl,LB (s:= {s with heap:=h'}) e c d (by decide) ⟨x,H,I1,ru,⟨rfl,λys hy=>by rw [I.list_inj hy hq];exact hx⟩,st',λb hb=>(hf b hb).1⟩⟩
 done:=by
  intro X hP hw hK hc i pins s σ H E I hf st hg;subst hP hw hK;obtain⟨xs,hq,hx⟩:=hg;obtain⟨its,rv,p,hz⟩:=I.list hq;obtain⟨f0,f1,f2,f3,f4,f5⟩:=hf it (by simp);have hl:=rv.length;exact wpAny_pyNext_list_end (I.ok.hd hc) st p.isList (by simp;omega) λh' eb=>⟨rfl,I.turned (t':=s.toks) (λb o hb e=>eb b o hb e) f0 f1 f3 f4 f5⟩
 self:=λ_ _ _ _ _ st h=>wpAny_pyIter_listiter st h
theorem MW (a it:P4):Turn P w K tg (Itt K a) [it] it (λi h=>h.IsTupleIter it a i) where
 mem:=by simp
 obj:=λi h st b hb=>by
  have e:b=it:=by simpa using hb
  subst e;obtain⟨o,e,c,d⟩:=st;exact⟨o,e,λv z=>by rw [d] at z;cases z⟩
 keep:=λi h h' st k=>st.at λo e=>k it (by simp) o e
 item:=by
  intro X hP hw hK hc i pins s σ H E I hf st hg;subst hP hw hK;obtain⟨xs,x,hq,hx⟩:=hg;obtain⟨its,rv,p,hz⟩:=I.tuple hq;obtain⟨u,hu,ru⟩:=rv.get hx;obtain⟨f0,f1,f2,f3,f4,f5⟩:=hf it (by simp);refine wpAny_pyNext_tuple_item st (show s.heap.IsTuple a its.toArray from p) (x:=u) (by simpa using hu) λh' st' sb=> ?_
  have I1:Inv X pins σ H {s with heap:=h'}:=I.turned (t':=s.toks) (λb o hb e=>(sb.2 b hb).trans e) f0 f1 f3 f4 f5;obtain⟨o,e,c,d⟩:=id st';exact⟨u,rfl,LB (s:= {s with heap:=h'}) e c d (by decide) ⟨x,H,I1,ru,⟨rfl,λys hy=>by rw [I.tuple_inj hy hq];exact hx⟩,st',λb hb=>(hf b hb).1⟩⟩
 done:=by
  intro X hP hw hK hc i pins s σ H E I hf st hg;subst hP hw hK;obtain⟨xs,hq,hx⟩:=hg;obtain⟨its,rv,p,hz⟩:=I.tuple hq;obtain⟨f0,f1,f2,f3,f4,f5⟩:=hf it (by simp);have hl:=rv.length;exact wpAny_pyNext_tuple_end (I.ok.hd hc) st (show s.heap.IsTuple a its.toArray from p) (by simp;omega) λh' eb=>⟨rfl,I.turned (t':=s.toks) (λb o hb e=>eb b o hb e) f0 f1 f3 f4 f5⟩
 self:=λ_ _ _ _ _ st h=>wpAny_pyIter_tupleiter st h
theorem MX (it:P4)(lo:G8)(n:G5):Turn P w K tg (Itr lo n) [it] it (λi h=>tW h it (lo+(i:G5)*1) ((n:G8)-(i:G5)) 1) where
 mem:=by simp
 obj:=λi h st b hb=>by
  have e:b=it:=by simpa using hb
  subst e;exact⟨_,st,λv z=>by
   have z':Data.fields _=Data.cell v:=z;cases z'⟩
 keep:=λi h h' st k=>k it (by simp) _ st
 item:=by
  intro X hP hw hK hc i pins s σ H E I hf st hg;subst hP hw hK;obtain⟨f0,f1,f2,f3,f4,f5⟩:=hf it (by simp);have W:=Walks.range (prog:=X.prog) (w:=X.w) (I.ok.hd hc) it lo 1 n;refine W.item i s _ _ hg st λv h' tk hv st' kk=> ?_
  obtain⟨t,rfl⟩:=hv;have I1:Inv X pins σ H {s with heap:=h',toks:=tk}:=I.turned (λb o hb e=>kk b o (by simpa using hb) e) f0 f1 f3 f4 f5;refine⟨_,rfl,LB (s:= {s with heap:=h',toks:=tk}) (n:= "range_iterator") st' rfl rfl (by decide) ⟨.int (lo+i),H,I1,⟨t,?_⟩,⟨rfl,rfl⟩,st',λb hb=>(hf b hb).1⟩⟩;rw [Int.mul_one]
 done:=by
  intro X hP hw hK hc i pins s σ H E I hf st hg;subst hP hw hK;obtain⟨f0,f1,f2,f3,f4,f5⟩:=hf it (by simp);exact wpAny_pyNext_range_end (I.ok.hd hc) st (by have:n<=i:=hg;omega) λh' eb=>⟨rfl,I.turned (t':=s.toks) (λb o hb e=>eb b o hb e) f0 f1 f3 f4 f5⟩
 self:=λ_ _ _ _ _ st h=>wpAny_pyIter_rangeiter st h
section
variable {X:Cx}{tg:T1}
def HE (K:G6)(tl:TE):TI:=λσ H R=>tl σ H λx H1=> ∃a,x= .ref a/\(∃xs,SqL K H1 a xs)/\R (Itl K a) H1
theorem EA {l:T1}{tl:TE}(hl:PE X l tl):PI X tg l (HE X.K tl):=by
 intro pins s σ H R I h;refine thn (hl pins s σ H _ I h) λv s1 ⟨x,H1,I1,r1,q1⟩=> ?_
 obtain⟨a,e,⟨xs,hq⟩,q⟩:=q1;subst e;cases r1;obtain⟨its,rv,p,hz⟩:=I1.list hq;refine aZ p.isList ?_;refine⟨s1.heap.objs.size,[s1.heap.objs.size],_,_,H1,rfl,I1.kept (t':=s1.toks) λb o e=>P7 _ e,Gv a _,⟨_,T3 _ rfl,rfl,rfl⟩,λb hb=> ?_,q⟩;have e:b=s1.heap.objs.size:=by simpa using hb
 subst e;exact I1.fpOk (P5 _) (I1.hok.fresh (P5 _))
variable {pins:G0 (P4×Obj)}
theorem LD {σ:St}{H:Hp}{s:P0}{R:It->Hp->Prop}{E:G7->P0->Prop}{lo hi:G8}{t u v:Tok}{tk:G5}(I:Inv X pins σ H s)(h1: -(2^62)<=lo)(h2:lo<2^62)(h3: -(2^62)<=hi)(h4:hi<2^62)
 (q:R (Itr lo (hi-lo).toNat) H):S6 (T4 X.prog X.w) X.A (pT (.ref s.heap.objs.size)) (PIE X pins σ tg R) E {s with heap:=s.heap.push {cls:= .type "range",data:= .fields #[.int lo t,.int hi u,.int 1 v]},toks:=tk}:=by
 refine wpAny_pyIter_range (IsRange.new ..) (small_one h1 h2 h3 h4) ?_;have I1:Inv X pins σ H {s with heap:=s.heap.push {cls:= .type "range",data:= .fields #[.int lo t,.int hi u,.int 1 v]},toks:=tk}:=I.kept λb o e=>P7 _ e
 refine⟨(s.heap.push {cls:= .type "range",data:= .fields #[.int lo t,.int hi u,.int 1 v]}).objs.size,[(s.heap.push {cls:= .type "range",data:= .fields #[.int lo t,.int hi u,.int 1 v]}).objs.size],_,_,H,rfl,
  I1.kept (t':=tk) λb o e=>P7 _ e,MX _ lo (hi-lo).toNat,?_,λb hb=> ?_,q⟩
 ·have e1:lo+((0:G5):G8)*1=lo:=by simp
  have e2:(((hi-lo).toNat:G5):G8)-((0:G5):G8)=Builtin.Range.rangeSize lo hi 1:=by rw [rP];split<;>omega
  show tW _ _ (lo+((0:G5):G8)*1) ((((hi-lo).toNat:G5):G8)-((0:G5):G8)) 1;rw [e1,e2];exact T3 _ rfl
 ·have e:b=(s.heap.push {cls:= .type "range",data:= .fields #[.int lo t,.int hi u,.int 1 v]}).objs.size:=by simpa using hb
  subst e;exact I1.fpOk (P5 _) (I1.hok.fresh (P5 _))
def HF (ta:TA):TI:=λσ H R=>ta σ H λvs H1=> ∃j:G8,vs= [.int j]/\ -(2^62)<=j/\j<2^62/\R (Itr 0 j.toNat) H1
theorem Bn {a:T1}{ta:TA}{p pos:Pos}(hg:Gl X "range")(hm:X.mg "range" =none)(ha:PA X [a] ta)(hs:D6 [a] X.env= [(false,O5 a X.env)]:=by rfl):PI X tg (.Call (.Name "range" p) [a] [] pos) (HF ta):=by
 intro pins s σ H R I h;refine tX (ZX I hg hm x8 (O8 (thn (ha pos pins s σ H _ I h) λus s1 ⟨vs,H1,I1,r1,q1⟩=> ?_) hs rfl));obtain⟨j,e,q1,q2,q⟩:=q1;subst e;cases r1 with
 |cons r rr=>
  cases rr;obtain⟨t,rfl⟩:=r;exact sV (LD I1 (by omega) (by omega) q1 q2 (by simpa using q))
def qN (wi:TI)(g:TG)(tb:TS):TS:=λD σ H=>wi σ H λJ H1=> ∃W:G5->G5->St->Hp->Prop,(∃m,W 0 m σ H1)/\ ∀i m σ H,W i m σ H->
 (J.stop i H/\D.nx σ H)\/(J.go i H/\ ∃N:St->Hp->Prop,(∀σ' H',N σ' H'-> ∃m',m'<m/\W (i+1) m' σ' H')/\ ∀x H',J.yld i H x H'->g x σ H' λσ2 H2=>tb {D with nx:=N,ct:=N,bk:=D.nx} σ2 H2)
def Zj (fp:G0 P4)(h:L6):G0 (P4×Obj):=fp.filterMap λb=>(h.get? b).map λo=>(b,o)
theorem yi {fp:G0 P4}{h:L6}{b:P4}{o:Obj}(hb:b∈fp)(e:h.get? b=some o):(b,o)∈Zj fp h:=cI.mpr ⟨b,hb,by rw [e];rfl⟩
theorem Vt {fp:G0 P4}{h:L6}{p:P4×Obj}(hp:p∈Zj fp h):p.1∈fp/\h.get? p.1=some p.2:=by
 obtain⟨b,hb,e⟩:=cI.mp hp;cases q:h.get? b with
 |none=>rw [q] at e;cases e
 |some o=>
  rw [q] at e;have e':(b,o)=p:=C1 e;subst e';exact⟨hb,q⟩
theorem Inv.pinned {σ:St}{H:Hp}{s:P0}{fp:G0 P4}(I:Inv X pins σ H s)(hf: ∀b∈fp,Bd X pins H b)(ho: ∀b∈fp,∃o,s.heap.get? b=some o/\ ∀v,o.data≠ .cell v):Inv X (pins++Zj fp s.heap) σ H s:=
 I.pins_of λp hp=>(R1.mp hp).elim (λz=>I.pin p (R5 _ z)) λz=>by
  obtain⟨hb,e⟩:=Vt z;obtain⟨f0,f1,f2,_⟩:=hf p.1 hb;obtain⟨o,e',d⟩:=ho p.1 hb;rw [e] at e';cases e';exact⟨e,f0,f1,f2,d⟩
theorem Inv.unpinned {pl:G0 (P4×Obj)}{σ:St}{H:Hp}{s:P0}(I:Inv X (pins++pl) σ H s):Inv X pins σ H s:=I.pins_of λp hp=>I.pin p (R5 _ (C8 _ hp))
theorem HG {iter:T1}{body:G0 C9}{wi:TI}{g:TG}{tb:TS}{pos:Pos}(hp:l9 (T4 X.prog X.w) X.A X.env X.xe)(hc:X.calm=true)(hi:PI X tg iter wi)(hg:PG X tg g)(hb:PSs X body tb)
 (hs: ∀x,S9 iter X.env x=pure x:=by intro _;rfl):PS X (.For tg iter body [] pos) (qN wi g tb):=by
 intro pins s σ H D I h;refine wpAny_For (thn (hi pins s σ H _ I h) λv s1 h1=>thn h1 λitv s2 h2=> ?_) hs;obtain⟨it,fp,tn,J,H2,e,I2,T,st2,f2,W,⟨m0,w0⟩,turn⟩:=h2;subst e
 -- what stays true of the iterator's objects through the loop
 have stat: ∀ {H':Hp},(∀b∈fp,H' b=none)-> ∀b∈fp,Bd X pins H' b:=λhn b hb=>⟨hn b hb,(f2 b hb).2⟩
 refine codeAny_forLoop_any (λn s'=> ∃i σ' H',Inv X pins σ' H' s'/\tn i s'.heap/\(∀b∈fp,H' b=none)/\W i n σ' H') ?_ m0 ⟨0,σ,H2,I2,st2,λb hb=>(f2 b hb).1,w0⟩;rintro n s3 ⟨i,σ3,H3,I3,st3,fr3,w3⟩;rcases turn i n σ3 H3 w3 with ⟨stop,qn⟩|⟨go,N,hN,step⟩
 ·refine X6 hp (thn (T.done X rfl rfl rfl hc i pins s3 σ3 H3 X.xe I3 (stat fr3) st3 stop) λr s4 ⟨hr,I4⟩=> ?_);subst hr;exact eJ ⟨σ3,H3,I4,qn⟩
 ·refine X6 hp (thn (T.item X rfl rfl rfl hc i pins s3 σ3 H3 X.xe I3 (stat fr3) st3 go) λr s4 ⟨u,hr,h4⟩=> ?_);subst hr;refine X6 hp (thn h4 λ_ s5 ⟨x,H5,I5,r5,y5,st5,fr5⟩=> ?_);have I5':=I5.pinned (stat fr5) (T.obj _ _ st5);refine X6 hp (thn (hg _ s5 σ3 H5 x u _ I5' r5 (step x H5 y5)) λ_ s6 ⟨σ6,H6,I6,q6⟩=> ?_);refine X6 hp (thn (hb _ s6 σ6 H6 _ I6 q6) λf s7 q7=> ?_);have G0c: ∀ {σ7:St} {H7:Hp},Inv X (pins++Zj fp s5.heap) σ7 H7 s7->N σ7 H7-> ∃m,m<n/\ ∃i σ' H',Inv X pins σ' H' s7/\tn i s7.heap/\(∀b∈fp,H' b=none)/\W i m σ' H':=λ{σ7 H7} I7 n7=>by
   obtain⟨m',hm,w7⟩:=hN σ7 H7 n7;refine⟨m',hm,i+1,σ7,H7,I7.unpinned,T.keep _ _ _ st5 λb hb o e=>(I7.pin (b,o) (R5 _ (R5 _ (yi hb e)))).1,λb hb=> ?_,w7⟩;obtain⟨o,e,d⟩:=T.obj _ _ st5 b hb;exact(I7.pin (b,o) (R5 _ (R5 _ (yi hb e)))).2.1
  cases f with
  |next=>obtain⟨σ7,H7,I7,n7⟩:=q7;exact G0c I7 n7
  |cont=>obtain⟨σ7,H7,I7,n7⟩:=q7;exact G0c I7 n7
  |brk=>obtain⟨σ7,H7,I7,q7⟩:=q7;exact⟨σ7,H7,I7.unpinned,q7⟩
  |ret v=>obtain⟨x7,σ7,H7,I7,r7,q7⟩:=q7;exact⟨x7,σ7,H7,I7.unpinned,r7,q7⟩
end
abbrev R2:=V->V->Hp->VK->Prop
def OpR (X:Cx)(f:G7->G7->Sem G7)(r:R2):Prop:=
 ∀ (pins:G0 (P4×Obj)) (s:P0) (σ:St) (H:Hp) (x y:V) (v u:G7) (Q:VK),Inv X pins σ H s->RelV x v->RelV y u->r x y H Q->
  S6 (T4 X.prog X.w) X.A (f v u) (EP X pins σ Q) X.xe s
def UnR (X:Cx)(f:G7->Sem G7)(r:V->Hp->VK->Prop):Prop:=
 ∀ (pins:G0 (P4×Obj)) (s:P0) (σ:St) (H:Hp) (x:V) (v:G7) (Q:VK),Inv X pins σ H s->RelV x v->r x H Q->
  S6 (T4 X.prog X.w) X.A (f v) (EP X pins σ Q) X.xe s
def CallR (X:Cx)(f:G7)(r:G0 V->Hp->VK->Prop):Prop:=
 ∀ (pins:G0 (P4×Obj)) (s:P0) (σ:St) (H:Hp) (xs:G0 V) (us:G0 G7) (Q:VK),Inv X pins σ H s->Vals xs us->r xs H Q->
  S6 (T4 X.prog X.w) X.A (call f us) (EP X pins σ Q) X.xe s
def tOp (r:R2)(ta tb:TE):TE:=λσ H Q=>ta σ H λx H1=>tb σ H1 λy H2=>r x y H2 Q
def tUn (r:V->Hp->VK->Prop)(ta:TE):TE:=λσ H Q=>ta σ H λx H1=>r x H1 Q
def rI (C:G8->G8->Prop)(g:G8->G8->V):R2:=λx y H Q=> ∃i j,x= .int i/\y= .int j/\C i j/\Q (g i j) H
def rI0 (g:G8->G8->V):R2:=λx y H Q=> ∃i j,x= .int i/\y= .int j/\Q (g i j) H
def rU (g:G8->V):V->Hp->VK->Prop:=λx H Q=> ∃i,x= .int i/\Q (g i) H
section
variable {X:Cx}{a b c:T1}{ta tb tc:TE}{pos:Pos}
theorem xf (ha:PE X a ta)(hb:PE X b tb){pins:G0 (P4×Obj)}{s:P0}{σ:St}{H:Hp}{R:V->V->Hp->Prop}(I:Inv X pins σ H s)
 (h:ta σ H λx H1=>tb σ H1 λy H2=>R x y H2){Q:G7->P0->Prop}{f:G7->G7->Sem G7}
 (hf: ∀v u s2 x y H2,Inv X pins σ H2 s2->RelV x v->RelV y u->R x y H2->S6 (T4 X.prog X.w) X.A (f v u) Q X.xe s2):
 S6 (T4 X.prog X.w) X.A (O5 a X.env) (λv s₁=>S6 (T4 X.prog X.w) X.A (O5 b X.env) (λu s₂=>S6 (T4 X.prog X.w) X.A (f v u) Q X.xe s₂) X.xe s₁) X.xe s:=by
 refine thn (ha pins s σ H _ I h) λv s1 ⟨x,H1,I1,r1,q1⟩=> ?_
 refine thn (hb pins s1 σ H1 _ I1 q1) λu s2 ⟨y,H2,I2,r2,q2⟩=> ?_
 exact hf v u s2 x y H2 I2 r1 r2 q2
theorem xg {op:m7}{r:R2}(ho:OpR X (E9 op) r)(ha:PE X a ta)(hb:PE X b tb):PE X (.BinOp a op b pos) (tOp r ta tb):=by
 intro pins s σ H Q I h;exact wpAny_BinOp (xf ha hb I h λv u s2 x y H2 I2 rx ry q=>ho pins s2 σ H2 x y v u Q I2 rx ry q)
theorem xh {op:UnaryOp}{r:V->Hp->VK->Prop}(ho:UnR X (unaryOp op) r)(ha:PE X a ta):PE X (.UnaryOp op a pos) (tUn r ta):=by
 intro pins s σ H Q I h;exact UnaryOp_ (thn (ha pins s σ H _ I h) λv s1 ⟨x,H1,I1,r1,q1⟩=>ho pins s1 σ H1 x v Q I1 r1 q1)
theorem opI {f:G7->G7->Sem G7}{C:G8->G8->Prop}{g:G8->G8->G8}
 (rule: ∀ (i j:G8) (t u:Tok) (s:P0) (Q:G7->P0->Prop) (E:G7->P0->Prop),C i j->Q (.int (g i j) s.toks) {s with toks:=s.toks+1}->S6 (T4 X.prog X.w) X.A (f (.int i t) (.int j u)) Q E s):
 OpR X f (rI C λi j=> .int (g i j)):=by
 intro pins s σ H x y v u Q I rx ry h;obtain⟨i,j,rfl,rfl,hc,q⟩:=h;obtain⟨t,rfl⟩:=rx;obtain⟨t',rfl⟩:=ry;exact rule i j t t' s _ _ hc ⟨.int (g i j),H,I.tok _,⟨_,rfl⟩,q⟩
theorem qO {f:G7->G7->Sem G7}{g:G8->G8->G8}
 (rule: ∀ (i j:G8) (t u:Tok) (s:P0) (Q:G7->P0->Prop) (E:G7->P0->Prop),Q (.int (g i j) s.toks) {s with toks:=s.toks+1}->S6 (T4 X.prog X.w) X.A (f (.int i t) (.int j u)) Q E s):
 OpR X f (rI0 λi j=> .int (g i j)):=by
 intro pins s σ H x y v u Q I rx ry h;obtain⟨i,j,rfl,rfl,q⟩:=h;obtain⟨t,rfl⟩:=rx;obtain⟨t',rfl⟩:=ry;exact rule i j t t' s _ _ ⟨.int (g i j),H,I.tok _,⟨_,rfl⟩,q⟩
theorem uI {f:G7->G7->Sem G7}{g:G8->G8->T9}
 (rule: ∀ (i j:G8) (t u:Tok) (s:P0) (Q:G7->P0->Prop) (E:G7->P0->Prop),Q (.bool (g i j)) s->S6 (T4 X.prog X.w) X.A (f (.int i t) (.int j u)) Q E s):
 OpR X f (rI0 λi j=> .bl (g i j)):=by
 intro pins s σ H x y v u Q I rx ry h;obtain⟨i,j,rfl,rfl,q⟩:=h;obtain⟨t,rfl⟩:=rx;obtain⟨t',rfl⟩:=ry;exact rule i j t t' s _ _ ⟨.bl (g i j),H,I,rfl,q⟩
def qP (i j:G8):Prop:=0<j/\j<1073741824
def qQ (i j:G8):Prop:=0<=j/\j<=1000000/\i.natAbs<2^64
def CMul (i j:G8):Prop:=(-(2^64)<i/\i<2^64)\/(-(2^64)<j/\j<2^64)
theorem CMul.ok {i j:G8}(h:CMul i j):IntMulOk i j:=by
 rcases h with ⟨h1,h2⟩|⟨h1,h2⟩
 ·exact .of_left (rQ h1 h2)
 ·exact .of_right (rQ h1 h2)
theorem op_add:OpR X (E9 .Add) (rI0 λi j=> .int (i+j)):=qO λ_ _ _ _ _ _ _ q=>add_int q
theorem HH:OpR X (E9 .Sub) (rI0 λi j=> .int (i-j)):=qO λ_ _ _ _ _ _ _ q=>sub_int q
theorem op_mul:OpR X (E9 .Mult) (rI CMul λi j=> .int (i*j)):=opI λ_ _ _ _ _ _ _ hc q=>mul_int q hc.ok
theorem EB:OpR X (E9 .FloorDiv) (rI qP λi j=> .int (i / j)):=opI λi j _ _ _ _ _ hc q=>by
 have h1:(0:G8)<j:=hc.1;have h2:j<1073741824:=hc.2;exact floordiv_int (by omega) (by rw [fN i (by omega)];exact q) (.inl (PyProof.noPylong_small (by omega)))
theorem HI:OpR X (E9 .Mod) (rI (λ_ j=>0<j) λi j=> .int (i%j)):=opI λi j _ _ _ _ _ hc q=>by
 have h1:(0:G8)<j:=hc;exact mod_int' (by omega) (by rw [fO i (by omega)];exact q)
theorem HJ:OpR X (E9 .Pow) (rI qQ λi j=> .int (i^j.toNat)):=opI λ_ _ _ _ _ _ _ hc q=>pow_int_small hc.1 hc.2.1 hc.2.2 q
theorem unI {f:G7->Sem G7}{g:G8->G8}
 (rule: ∀ (i:G8) (t:Tok) (s:P0) (Q:G7->P0->Prop) (E:G7->P0->Prop),Q (.int (g i) s.toks) {s with toks:=s.toks+1}->S6 (T4 X.prog X.w) X.A (f (.int i t)) Q E s):
 UnR X f (rU λi=> .int (g i)):=by
 intro pins s σ H x v Q I rx h;obtain⟨i,rfl,q⟩:=h;obtain⟨t,rfl⟩:=rx;exact rule i t s _ _ ⟨.int (g i),H,I.tok _,⟨_,rfl⟩,q⟩
theorem HK:UnR X (unaryOp .USub) (rU λi=> .int (-i)):=unI λ_ _ _ _ _ q=>neg_int q
end
def qR:V->V->T9
 | .non,.non=>true| .non,.int _=>true| .int _,.non=>true| .non,.bl _=>true| .bl _,.non=>true| .non,.str _=>true| .str _,.non=>true
 | .int _,.int _=>true| .bl _,.bl _=>true| .str _,.str _=>true| .byt _,.byt _=>true
 | .int _,.str _=>true| .str _,.int _=>true| .bl _,.str _=>true| .str _,.bl _=>true
 |_,_=>false
def rEq:R2:=λx y H Q=>qR x y=true/\Q (.bl (decide (x=y))) H
def rNe:R2:=λx y H Q=>qR x y=true/\Q (.bl (!decide (x=y))) H
theorem Bo {i j:G8}:decide (V.int i=V.int j)=(i==j):=by
 rw [B8];simp
theorem AN {i j:T9}:decide (V.bl i=V.bl j)=(i==j):=by
 rw [B8];simp
theorem Bp {i j:Str}:decide (V.str i=V.str j)=(i==j):=by
 rw [B8];simp
theorem Bq {i j:N8 UInt8}:decide (V.byt i=V.byt j)=(i.toList==j.toList):=by
 rw [B8];cases i;cases j;simp
section
variable {X:Cx}{a b c:T1}{ta tb tc:TE}{pos:Pos}
theorem jO {pins:G0 (P4×Obj)}{σ:St}{H:Hp}{s:P0}{Q:VK}{k k':T9}(I:Inv X pins σ H s)(q:Q (.bl k) H)(e:k=k'):EP X pins σ Q (.bool k') s:=by
 subst e;exact⟨.bl k,H,I,rfl,q⟩
theorem op_eq:OpR X (N9 .Eq) rEq:=by
 intro pins s σ H x y v u Q I rx ry h;obtain⟨hs,q⟩:=h;cases x with
 |non=>
  cases rx;cases y with
  |non=>cases ry;exact PySem.EqNone.eq_none_none (jO I q (by simp))
  |bl j=>cases ry;exact PySem.EqNone.eq_none_bool (jO I q (by simp))
  |int j=>obtain⟨t',rfl⟩:=ry;exact PySem.EqNone.eq_none_int (jO I q (by simp))
  |str j=>obtain⟨t',rfl⟩:=ry;exact PySem.EqNone.eq_none_str (jO I q (by simp))
  |_=>exact absurd (show false=true from hs) R0
 |bl i=>
  cases rx;cases y with
  |non=>cases ry;exact PySem.EqNone.eq_bool_none (jO I q (by simp))
  |bl j=>cases ry;exact eq_bool (jO I q AN)
  |str j=>obtain⟨t',rfl⟩:=ry;exact PySem.EqMixed.eq_bool_str (jO I q (by simp))
  |_=>exact absurd (show false=true from hs) R0
 |int i=>
  obtain⟨t,rfl⟩:=rx;cases y with
  |non=>cases ry;exact PySem.EqNone.eq_int_none (jO I q (by simp))
  |int j=>obtain⟨t',rfl⟩:=ry;exact eq_int (jO I q Bo)
  |str j=>obtain⟨t',rfl⟩:=ry;exact PySem.EqMixed.eq_int_str (jO I q (by simp))
  |_=>exact absurd (show false=true from hs) R0
 |str i=>
  obtain⟨t,rfl⟩:=rx;cases y with
  |non=>cases ry;exact PySem.EqNone.eq_str_none (jO I q (by simp))
  |bl j=>cases ry;exact PySem.EqMixed.eq_str_bool (jO I q (by simp))
  |int j=>obtain⟨t',rfl⟩:=ry;exact PySem.EqMixed.eq_str_int (jO I q (by simp))
  |str j=>obtain⟨t',rfl⟩:=ry;exact eq_str (jO I q Bp)
  |_=>exact absurd (show false=true from hs) R0
 |byt i=>
  obtain⟨t,rfl⟩:=rx;cases y with
  |byt j=>obtain⟨t',rfl⟩:=ry;exact IR (jO I q Bq)
  |_=>exact absurd (show false=true from hs) R0
 |_=>cases y<;>exact absurd (show false=true from hs) R0
theorem op_ne:OpR X (N9 .NotEq) rNe:=by
 intro pins s σ H x y v u Q I rx ry h;obtain⟨hs,q⟩:=h;cases x with
 |non=>
  cases rx;cases y with
  |non=>cases ry;exact PySem.EqNone.ne_none_none (jO I q (by simp))
  |bl j=>cases ry;exact PySem.EqNone.ne_none_bool (jO I q (by simp))
  |int j=>obtain⟨t',rfl⟩:=ry;exact PySem.EqNone.ne_none_int (jO I q (by simp))
  |str j=>obtain⟨t',rfl⟩:=ry;exact PySem.EqNone.ne_none_str (jO I q (by simp))
  |_=>exact absurd (show false=true from hs) R0
 |bl i=>
  cases rx;cases y with
  |non=>cases ry;exact PySem.EqNone.ne_bool_none (jO I q (by simp))
  |bl j=>cases ry;exact ne_bool (jO I q (congrArg not AN))
  |str j=>obtain⟨t',rfl⟩:=ry;exact PySem.EqMixed.ne_bool_str (jO I q (by simp))
  |_=>exact absurd (show false=true from hs) R0
 |int i=>
  obtain⟨t,rfl⟩:=rx;cases y with
  |non=>cases ry;exact PySem.EqNone.ne_int_none (jO I q (by simp))
  |int j=>obtain⟨t',rfl⟩:=ry;exact ne_int (jO I q (congrArg not Bo))
  |str j=>obtain⟨t',rfl⟩:=ry;exact PySem.EqMixed.ne_int_str (jO I q (by simp))
  |_=>exact absurd (show false=true from hs) R0
 |str i=>
  obtain⟨t,rfl⟩:=rx;cases y with
  |non=>cases ry;exact PySem.EqNone.ne_str_none (jO I q (by simp))
  |bl j=>cases ry;exact PySem.EqMixed.ne_str_bool (jO I q (by simp))
  |int j=>obtain⟨t',rfl⟩:=ry;exact PySem.EqMixed.ne_str_int (jO I q (by simp))
  |str j=>obtain⟨t',rfl⟩:=ry;exact ne_str (jO I q (congrArg not Bp))
  |_=>exact absurd (show false=true from hs) R0
 |byt i=>
  obtain⟨t,rfl⟩:=rx;cases y with
  |byt j=>obtain⟨t',rfl⟩:=ry;exact IS (jO I q (congrArg not Bq))
  |_=>exact absurd (show false=true from hs) R0
 |_=>cases y<;>exact absurd (show false=true from hs) R0
theorem xi:OpR X (N9 .Lt) (rI0 λi j=> .bl (decide (i<j))):=uI λ_ _ _ _ _ _ _ q=>lt_int q
theorem xj:OpR X (N9 .LtE) (rI0 λi j=> .bl (decide (i<=j))):=uI λ_ _ _ _ _ _ _ q=>le_int q
theorem xk:OpR X (N9 .Gt) (rI0 λi j=> .bl (decide (j<i))):=uI λ_ _ _ _ _ _ _ q=>gt_int q
theorem xn:OpR X (N9 .GtE) (rI0 λi j=> .bl (decide (j<=i))):=uI λ_ _ _ _ _ _ _ q=>ge_int q
theorem HL:OpR X (N9 .Is) (λx y H Q=>y= .non/\Q (.bl (decide (x= .non))) H):=by
 intro pins s σ H x y v u Q I rx ry h;obtain⟨rfl,q⟩:=h;cases ry;refine is_none_gen (jO I q ?_);cases x<;>first
  |(cases rx;rfl)
  |(obtain⟨t,rfl⟩:=rx;rfl)
theorem EC:OpR X (N9 .IsNot) (λx y H Q=>y= .non/\Q (.bl (!decide (x= .non))) H):=by
 intro pins s σ H x y v u Q I rx ry h;obtain⟨rfl,q⟩:=h;cases ry;refine isnot_none_gen (jO I q ?_);cases x<;>first
  |(cases rx;rfl)
  |(obtain⟨t,rfl⟩:=rx;rfl)
variable {r:R2}
theorem OpR.or {f:G7->G7->Sem G7}{r':R2}(h:OpR X f r)(h':OpR X f r'):OpR X f (λx y H Q=>r x y H Q\/r' x y H Q):=by
 intro pins s σ H x y v u Q I rx ry q;rcases q with q|q
 ·exact h pins s σ H x y v u Q I rx ry q
 ·exact h' pins s σ H x y v u Q I rx ry q
theorem AO (b:T1){op:gQ}(h:op≠ .In:=by decide)(h2:op≠ .NotIn:=by decide):U6 op b=false:=by
 have e1:(op==CmpOp.In)=false:=by cases op<;>first|rfl|exact absurd rfl h
 have e2:(op==CmpOp.NotIn)=false:=by cases op<;>first|rfl|exact absurd rfl h2
 cases b<;>simp [U6,e1,e2]
theorem ED {op:gQ}(ho:OpR X (N9 op) r)(ha:PE X a ta)(hb:PE X b tb)(hm:U6 op b=false):PE X (.Compare a [op] [b] pos) (tOp r ta tb):=by
 intro pins s σ H Q I h;exact wpAny_Compare1 (xf ha hb I h λv u s2 x y H2 I2 rx ry q=>ho pins s2 σ H2 x y v u Q I2 rx ry q) hm
def EE (t:TE):TT:=λσ H Q=>t σ H λx H'=> ∃k,x= .bl k/\Q k H'
theorem EF {op:gQ}(ho:OpR X (N9 op) r)(ha:PE X a ta)(hb:PE X b tb)(hm:U6 op b=false):PT X (.Compare a [op] [b] pos) (EE (tOp r ta tb)):=by
 intro pins s σ H Q I h;refine wpAny_isTrue_Compare1 (thn (ha pins s σ H _ I h) λv s1 ⟨x,H1,I1,r1,q1⟩=>thn (hb pins s1 σ H1 _ I1 q1) λu s2 ⟨y,H2,I2,r2,q2⟩=>
  thn (ho pins s2 σ H2 x y v u _ I2 r1 r2 q2) λc s3 ⟨z,H3,I3,r3,k,e,q3⟩=> ?_) hm
 subst e;cases r3;exact O6 ⟨H3,I3,q3⟩
def Br (r r':R2)(ta tb tc:TE):TE:=λσ H Q=>ta σ H λx H1=>tb σ H1 λy H2=>r x y H2 λz H3=> ∃k,z= .bl k/\
 (if k=true then tc σ H3 λw' H4=>r' y w' H4 Q else Q (.bl false) H3)
theorem LF {op op':gQ}{r':R2}(ho:OpR X (N9 op) r)(ho':OpR X (N9 op') r')(ha:PE X a ta)(hb:PE X b tb)(hc:PE X c tc)
 (hm:g7 [op,op'] [b,c]=false:=by with_unfolding_all rfl):PE X (.Compare a [op,op'] [b,c] pos) (Br r r' ta tb tc):=by
 intro pins s σ H Q I h;refine Compare_chain (thn (ha pins s σ H _ I h) λv s1 ⟨x,H1,I1,r1,q1⟩=>chain_link (thn (hb pins s1 σ H1 _ I1 q1) λu s2 ⟨y,H2,I2,r2,q2⟩=>
  thn (ho pins s2 σ H2 x y v u _ I2 r1 r2 q2) λd s3 ⟨z,H3,I3,r3,k,e,q3⟩=> ?_)) hm
 subst e;cases r3;refine O6 ?_;cases k with
 |false=>exact ite_ff ⟨.bl false,H3,I3,rfl,q3⟩
 |true=>exact ite_tt (chain_last (thn (hc pins s3 σ H3 _ I3 q3) λw' s4 ⟨z',H4,I4,r4,q4⟩=>ho' pins s4 σ H4 y z' u w' Q I4 r2 r4 q4))
theorem LH {op op':gQ}{r':R2}(ho:OpR X (N9 op) r)(ho':OpR X (N9 op') r')(ha:PE X a ta)(hb:PE X b tb)(hc:PE X c tc)
 (hm:g7 [op,op'] [b,c]=false:=by with_unfolding_all rfl):PT X (.Compare a [op,op'] [b,c] pos) (EE (Br r r' ta tb tc)):=by
 intro pins s σ H Q I h;refine isTrue_chain (thn (ha pins s σ H _ I h) λv s1 ⟨x,H1,I1,r1,q1⟩=>test_link (thn (hb pins s1 σ H1 _ I1 q1) λu s2 ⟨y,H2,I2,r2,q2⟩=>
  thn (ho pins s2 σ H2 x y v u _ I2 r1 r2 q2) λd s3 ⟨z,H3,I3,r3,k,e,q3⟩=> ?_)) hm
 subst e;cases r3;refine O6 ?_;cases k with
 |false=>
  obtain⟨k',e',q'⟩:=q3;cases e';exact ite_ff ⟨H3,I3,q'⟩
 |true=>
  refine ite_tt (test_last (thn (hc pins s3 σ H3 _ I3 q3) λw' s4 ⟨z',H4,I4,r4,q4⟩=>thn (ho' pins s4 σ H4 y z' u w' _ I4 r2 r4 q4) λd' s5 ⟨z2,H5,I5,r5,k2,e2,q5⟩=> ?_));subst e2;cases r5;exact O6 ⟨H5,I5,q5⟩
theorem Gw:(sizeLine:G5)<2^63:=by rw [lC];decide
theorem ZY {x:V}{us:G0 G7}(r:Vals [x] us): ∃u,us= [u]/\RelV x u:=by
 cases r with
 |cons r1 r2=>cases r2;exact⟨_,rfl,r1⟩
theorem LJ {x y:V}{us:G0 G7}(r:Vals [x,y] us): ∃u w',us= [u,w']/\RelV x u/\RelV y w':=by
 cases r with
 |cons r1 r2=>
  cases r2 with
  |cons r3 r4=>cases r4;exact⟨_,_,rfl,r1,r3⟩
theorem Bs (hc:X.calm=true):CallR X (.builtin "max") (λxs H Q=> ∃i j,xs= [.int i,.int j]/\Q (.int (if j>i then j else i)) H):=by
 intro pins s σ H xs us Q I r h;obtain⟨i,j,rfl,q⟩:=h;obtain⟨u,w',rfl,⟨t,rfl⟩,⟨t',rfl⟩⟩:=LJ r;refine max_two_ints (I.ok.hd hc) λh' tk k=>⟨_,H,I.kept k,?_,q⟩
 by_cases hj:j>i
 ·rw [D8 hj,D8 hj];exact⟨_,rfl⟩
 ·rw [D9 hj,D9 hj];exact⟨_,rfl⟩
theorem call_int1:CallR X (.type "int") (λxs H Q=>(∃i,xs= [.int i]/\Q (.int i) H)\/ ∃k,xs= [.bl k]/\Q (.int (if k then 1 else 0)) H):=by
 intro pins s σ H xs us Q I r h;rcases h with ⟨i,rfl,q⟩|⟨k,rfl,q⟩
 ·obtain⟨u,rfl,t,rfl⟩:=ZY r;exact call_int_int ⟨.int i,H,I,⟨_,rfl⟩,q⟩
 ·obtain⟨u,rfl,r1⟩:=ZY r;cases r1;exact call_int_bool ⟨.int (if k then 1 else 0),H,I.tok _,⟨_,rfl⟩,q⟩
end
structure ObjM (h:L6)(x dx C:P4)(mA:Str->D4 G7):Prop where
 obj:h.get? x=some (j5 C dx)
 ns:h.Ns1 dx mA
 ne:dx≠x
theorem Bv {dx:P4}{mA:Str->D4 G7}(n:h.Ns1 dx mA): ∃od,h.get? dx=some od/\ ∀name,lD name od=some (mA name):=by
 obtain⟨o,es,ep,ho,hd,hk,_,hm⟩:=n;refine⟨o,ho,λname=> ?_⟩;have e:=hm name;unfold nsFind findBy at e;rw [<-Array.find?_toList] at e;unfold lD;rw [hd];dsimp only;split
 ·rename_i y q;rw [q] at e;exact congrArg some e
 ·rename_i q;rw [q] at e;have a:es.toList.any (·.refKey)=false:=by
   rw [List.any_eq_false];intro y hy;obtain⟨z,t,hkey⟩:=hk y (Array.mem_toList_iff.mp hy);simp [DictEntry.refKey,hkey]
  have a': ¬es.toList.any (·.refKey)=true:=by rw [a];exact R0
  rw [D9 a'];exact congrArg some e
theorem ObjM.look {x dx C:P4}{mA:Str->D4 G7}(I:ObjM h x dx C mA): ∃od,G0d h x (j5 C dx) C (some od)/\ ∀name,lD name od=some (mA name):=
 let ⟨od,ho,hl⟩:=Bv I.ns
 ⟨od,⟨I.obj,rfl,rfl,ho⟩,hl⟩
theorem RelO.some_of {v:V}{o:D4 G7}(r:RelO (some v) o): ∃u,o=some u/\RelV v u:=by
 cases o with
 |none=>exact(show False from r).elim
 |some u=>exact⟨u,rfl,r⟩
section
variable {P:M0}{w:C6}{H H':Hp}{h h':L6}{a C dx:P4}{fs fs':G0 (Str×V)}
theorem EG (hok:HOk P w H h)(e:H a=some (.ins C dx fs)): ∃mA,ObjM h a dx C mA/\(∀f,RelO (fs.lookup f) (mA f))/\sP mA (fs.map (·.1))/\fs.length<=1000/\H dx=some (.own a):=by
 obtain⟨d,z,ne,ob,mA,n,r,q⟩:=(show ObjOk P w H h a (.ins C dx fs) from hok a _ e);exact⟨mA,⟨ob,n,ne⟩,r,q,z,d⟩
end
structure Cls (K:G6)(C:P4):Prop where
 pg:oE K C Str.empty=true
 hd:IJ K C=true
 po:IK K C=true
 sa:pU K (.ref C) "__setattr__" =some (some (.builtin "object.__setattr__"))
theorem Cls.get {C:P4}(c:Cls K C)(f:Str):oE K C f=true:=c.pg
section
variable {X:Cx}{pins:G0 (P4×Obj)}{σ:St}{H:Hp}{s:P0}{A:C5}{E:G7->P0->Prop}{Q:G7->P0->Prop}{c:G7}{b:T9}
inductive TyOf (K:G6)(H:Hp):V->G7->Prop where
 |non:TyOf K H .non (.type "NoneType")
 |bl (x:T9):TyOf K H (.bl x) (.type "bool")
 |int (i:G8):TyOf K H (.int i) (.type "int")
 |str (x:Str):TyOf K H (.str x) (.type "str")
 |flt (x:UInt64):TyOf K H (.flt x) (.type "float")
 |lst {a:P4} {xs:G0 V} (e:H a=some (.lst xs)):TyOf K H (.ref a) (.type "list")
 |frz {a:P4} {o:Obj} {xs:G0 V} (e:H a=some (.frz o (.lst xs))):TyOf K H (.ref a) (.type "list")
 |tup {a:P4} {xs:G0 V} (e:H a=some (.tup xs)):TyOf K H (.ref a) (.type "tuple")
 |dK {a:P4} {kvs:G0 (Key×V)} (e:H a=some (.dK kvs)):TyOf K H (.ref a) (.type "dict")
 |dT {a:P4} {kvs:G0 (G0 Key×V)} (e:H a=some (.dT kvs)):TyOf K H (.ref a) (.type "dict")
 |ins {a C dx:P4} {fs:G0 (Str×V)} (e:H a=some (.ins C dx fs)) (cl:Cls K C) (ha:pU K (.ref C) "__class__" =some (some (.builtin "object.__class__")))
  (hn:IL K (.builtin "object.__class__") "__get__" =some (some (.builtin "getset_descriptor.__get__"))) (htk:G0a K (.builtin "object.__class__")=some true)
  (hm:G0s K C (.type "object")=some true):TyOf K H (.ref a) (.ref C)
theorem Bw {x:V}{u t:G7}(I:Inv X pins σ H s)(rx:RelV x u)(ty:TyOf X.K H x t)(e:lE X.K t c=some b)(h: ∀tk,Q (.bool b) {s with toks:=tk}):
 S6 (T4 X.prog X.w) A (call (.builtin "isinstance") [u,c]) Q E s:=by
 cases ty with
 |non=>cases (show u=mR from rx);exact I0 IM I.kIn Z7 e (λz=>nomatch z) h
 |bl y=>cases (show u=Z4 y from rx);exact I0 IN I.kIn Z7 e (λz=>nomatch z) h
 |int i=>obtain⟨t,q⟩:=(show ∃t,u=cN i t from rx);cases q;exact I0 IU I.kIn Z7 e (λz=>nomatch z) h
 |str y=>obtain⟨t,q⟩:=(show ∃t,u=l8 y t from rx);cases q;exact I0 IV I.kIn Z7 e (λz=>nomatch z) h
 |flt y=>obtain⟨t,q⟩:=(show ∃t,u=tR y t from rx);cases q;exact I0 y3 I.kIn Z7 e (λz=>nomatch z) h
 | @lst a xs ea=>
  cases (show u=X5 a from rx);obtain⟨_,_,n,_,h1⟩:=(show ObjOk X.prog X.w H s.heap a (.lst xs) from I.hok a _ ea);exact I0 m9 I.kIn ⟨_,h1,rfl⟩ e (λz=>nomatch z) h
 | @frz a ob xs ea=>
  cases (show u=X5 a from rx);obtain⟨_,_,_,n,_,h1⟩:=(show ObjOk X.prog X.w H s.heap a (.frz ob (.lst xs)) from I.hok a _ ea);exact I0 m9 I.kIn ⟨_,h1,rfl⟩ e (λz=>nomatch z) h
 | @tup a xs ea=>
  cases (show u=X5 a from rx);obtain⟨_,_,_,p⟩:=(show ObjOk X.prog X.w H s.heap a (.tup xs) from I.hok a _ ea);obtain⟨o,h1,h2,_⟩:=p;exact I0 y4 I.kIn ⟨o,h1,h2⟩ e (λz=>nomatch z) h
 | @dK a kvs ea=>
  cases (show u=X5 a from rx);obtain⟨_,_,vs,_,p⟩:=(show ObjOk X.prog X.w H s.heap a (.dK kvs) from I.hok a _ ea);obtain⟨o,es,ep,h1,h2,_⟩:=p;exact I0 nB I.kIn ⟨o,h1,h2.1⟩ e (λz=>nomatch z) h
 | @dT a kvs ea=>
  cases (show u=X5 a from rx);obtain⟨_,_,xs,_,o,es,ep,h1,h2,_⟩:=(show ObjOk X.prog X.w H s.heap a (.dT kvs) from I.hok a _ ea);exact I0 nB I.kIn ⟨o,h1,h2.1⟩ e (λz=>nomatch z) h
 | @ins a C dx fs ea cl ha hn htk hm=>
  cases (show u=X5 a from rx);obtain⟨mA,O,_⟩:=EG I.hok ea;obtain⟨od,J,_⟩:=O.look;exact I0 (IW (cl.get _) cl.hd ha hn htk hm) I.kIn J e (λz=>nomatch z) h
end
structure Room (k:G5)(A:C5):Prop where
 hd:A.handled=none
 dp:A.depth+3*k+5<recursionLimit
 un:A.units+16*k+200<cLine
 gd:A.guards=some []
variable {k:G5}
theorem Room.deeper (r:Room (k+1) A)(env:Env):Room k (A.deeper env):=
 ⟨r.hd,by have:=r.dp;show A.depth+1+3*k+5<_;omega,by have:=r.un;show A.units+3+16*k+200<_;omega,r.gd⟩
theorem Room.depth (r:Room k A):A.depth<recursionLimit:=by have:=r.dp;omega
theorem Room.units (r:Room k A):A.units+64<cLine:=by have:=r.un;omega
def qS:TA:=λ_ H Q=>Q [] H
def HM (ta:TE)(tr:TA):TA:=λσ H Q=>ta σ H λx H1=>tr σ H1 λxs H2=>Q (x::xs) H2
section
variable {X:Cx}{e:T1}{es:G0 T1}{te:TE}{t:TA}{pos:Pos}
theorem pa_nil:PA X [] qS:=λ_ _ _ _ H Q I h=>nC ⟨[],H,I,.nil,h⟩
theorem Jj (ha:PE X e te)(hr:PA X es t)(hs:D6 (e::es) X.env=(false,O5 e X.env)::D6 es X.env:=by rfl):PA X (e::es) (HM te t):=by
 intro pos pins s σ H Q I h;rw [hs];show S6 _ _ (spliced ((false,O5 e X.env)::E7 pos (D6 es X.env))) _ _ s;refine fP (thn (ha pins s σ H _ I h) λu s1 ⟨x,H1,I1,r1,q1⟩=> ?_);exact thn (hr pos pins s1 σ H1 _ I1 q1) λus s2 ⟨xs,H2,I2,r2,q2⟩=>⟨x::xs,H2,I2,.cons r1 r2,q2⟩
def qT (t:TA):TE:=λσ H Q=>t σ H λxs H1=>xs.length<=sizeLine/\ ∀p,H1 p=none->Q (.ref p) (upd H1 p (.tup xs))
def qU (t:TA):TE:=λσ H Q=>t σ H λxs H1=>xs.length<=sizeLine/\ ∀p,H1 p=none->Q (.ref p) (upd H1 p (.lst xs))
theorem HN {x1}(h:PA X es t):PE X (.Tuple es x1 pos) (qT t):=by
 intro pins s σ H Q I hq;refine wpAny_Tuple_spliced (thn (h pos pins s σ H _ I hq) λus s1 ⟨xs,H1,I1,r,z,q⟩=>⟨by rw [<-r.length];exact z,?_⟩);have hf:H1 s1.heap.objs.size=none:=I1.hok.fresh (P5 _);refine⟨.ref s1.heap.objs.size,upd H1 s1.heap.objs.size (.tup xs),I1.laid (t':=s1.toks) (λb u e=>P7 _ e) (P5 _) ?_,rfl,q _ hf⟩;exact⟨z,us,r,IsTupN.new _ _⟩
theorem HP (h:PA X es t):PE X (.List es pos) (qU t):=by
 intro pins s σ H Q I hq;refine wpAny_List_spliced (thn (h pos pins s σ H _ I hq) λus s1 ⟨xs,H1,I1,r,z,q⟩=>⟨by rw [<-r.length];exact z,?_⟩);have hf:H1 s1.heap.objs.size=none:=I1.hok.fresh (P5 _);refine⟨.ref s1.heap.objs.size,upd H1 s1.heap.objs.size (.lst xs),I1.laid (t':=s1.toks) (λb u e=>P7 _ e) (P5 _) ?_,rfl,q _ hf⟩;exact⟨z,us,0,r,T3 _ rfl⟩
end
abbrev Sp:=G0 V->Hp->VK->XK->Prop
abbrev CXT:=G0 Env->Hp->P0->XK->G7->P0->Prop
structure Env0 (P:M0)(w:C6)(K:G6)(mg:Str->D4 G7)(base:L6)(A:C5)(outer:G0 Env)(s:P0)(H:Hp):Prop where
 frames:A.frames=some outer
 mod:Mod K mg base
 bs: ∀b o,base.get? b=some o->s.heap.get? b=some o/\H b=none
 bsz:base.objs.size<=s.heap.objs.size
 funs:s.heap.FunFrames base outer
 frf: ∀b∈frs outer,H b=none
 hok:HOk P w H s.heap
 bare:gO s.gens
def CE (outer:G0 Env)(P:M0)(w:C6)(H:Hp)(s:P0)(Q:VK)(u:G7)(s':P0):Prop:=
 ∃v H',s'.os=s.os/\gO s'.gens/\Un (frs outer) [] H H' s.heap s'.heap/\HOk P w H' s'.heap/\RelV v u/\Q v H'
def CR (CX:CXT)(outer:G0 Env)(P:M0)(w:C6)(H:Hp)(s:P0)(Q:VK)(E:XK)(r:G0e)(s':P0):Prop:=
 match r with
 | .ok (.ret u)=>CE outer P w H s Q u s'
 | .ok _=>False
 | .error e=>CX outer H s E e s'
structure FnOk (P:M0)(w:C6)(K:G6)(mg:Str->D4 G7)(base:L6)(CX:CXT)(k:G5)(f:P4)(fd:R6)(ps:G0 Str)(sp:Sp):Prop where
 len: ∀vs H Q E,sp vs H Q E->vs.length=ps.length
 run: ∀ (A:C5) (outer:G0 Env) (s:P0) (H:Hp) (args:Args) (us:G0 G7) (vs:G0 V) (Q:VK) (E:XK),Room k A->Env0 P w K mg base A outer s H->pO s fd args (ps.zip us)->Vals vs us->sp vs H Q E->
  fC (T4 P w) A (.call (.ref f) args) (CR CX outer P w H s Q E) s
section
variable {X:Cx}{pins:G0 (P4×Obj)}{σ:St}{H:Hp}{s s':P0}
theorem Inv.env0 (I:Inv X pins σ H s):Env0 X.prog X.w X.K X.mg X.base X.A X.stack s H:=
 ⟨I.ok.frames,I.ok.mod,I.bs,T5 I.ok.bsz I.sz,I.stack,I.stkFree,I.hok,I.bare⟩
theorem Inv.after {Q:VK}{u:G7}(I:Inv X pins σ H s)(h:CE X.stack X.prog X.w H s Q u s'):EP X pins σ Q u s':=by
 obtain⟨v,H',os,bare,un,hok,r,q⟩:=h;obtain⟨hh,g,d,t,os'⟩:=s';obtain rfl:os'=s.os:=os;exact⟨v,H',I.call (h':=hh) (g':=g) (d':=d) (t':=t) (ch:= []) un hok bare (λb z=>absurd z (by simp)),r,q⟩
end
def HQ (sp:Sp)(dvs:G0 V)(E:XK)(t:TA):TE:=λσ H Q=>t σ H λvs H1=>sp (vs++dvs) H1 Q E
def Binds (K:G6)(fd:R6)(ps:G0 Str)(ds:G0 G7):Prop:=
 ∀ (s:P0) (us:G0 G7),K.In s.heap->(us++ds).length=ps.length->pO s fd ⟨us,[]⟩ (ps.zip (us++ds))
theorem Binds.all {fd:R6}{ps:G0 Str}(h: ∀us:G0 G7,us.length=ps.length->tY fd ⟨us,[]⟩=pure (ps.zip us)):Binds K fd ps []:=λs us _ hl=>by
 rw [A2] at hl ⊢;exact .of_eq (h us hl)
def Bx (CX:CXT)(X:Cx)(E:XK):Prop:= ∀ (pins:G0 (P4×Obj)) (σ:St) (H:Hp) (s:P0) (e:G7) (s':P0),Inv X pins σ H s->CX X.stack H s E e s'->X.xe e s'
section
variable {X:Cx}{CX:CXT}{k:G5}{f C:P4}{fd:R6}{ps:G0 Str}{sp:Sp}{dvs:G0 V}{ds:G0 G7}{E:XK}{x m:Str}{p pos apos:Pos}{e o:T1}{es:G0 T1}{ta:TE}{t:TA}
theorem HR {pins:G0 (P4×Obj)}{σ:St}{H:Hp}{s:P0}{Q:VK}{us:G0 G7}{vs:G0 V}(F:FnOk X.prog X.w X.K X.mg X.base CX k f fd ps sp)(hr:Room k X.A)(hb:Binds X.K fd ps ds)(hd:Vals dvs ds)(hx:Bx CX X E)
 (I:Inv X pins σ H s)(r:Vals vs us)(h:sp (vs++dvs) H Q E):S6 (T4 X.prog X.w) X.A (call (.ref f) us) (EP X pins σ Q) X.xe s:=by
 have r2:Vals (vs++dvs) (us++ds):=r.append hd;have hl:(us++ds).length=ps.length:=by rw [<-r2.length];exact F.len _ _ _ _ h
 refine pV (nD (F.run X.A X.stack s H ⟨us,[]⟩ (us++ds) (vs++dvs) Q E hr I.env0 (hb s us I.kIn hl) r2 h) λr s' hq=> ?_);cases r with
 |error e=>exact hx pins σ H s e s' I hq
 |ok fl=>
  cases fl with
  |ret u=>exact I.after hq
  |next=>exact False.elim hq
  |brk=>exact False.elim hq
  |cont=>exact False.elim hq
theorem EH (F:FnOk X.prog X.w X.K X.mg X.base CX k f fd ps sp)(hr:Room k X.A)(hg:Gl X x)(hm:X.mg x=some (.ref f))(hk:aE X.K (.ref f)=true)(hb:Binds X.K fd ps ds)(hd:Vals dvs ds)(hx:Bx CX X E)
 (ha:PA X (e::es) t)(hdb:(x==("__debug__" :Str))=false:=by decide)(he:D6 (e::es) X.env=(false,O5 e X.env)::D6 es X.env:=by rfl)(hpl:(E7 pos (D6 es X.env)).any (·.1)=false:=by rfl):
 PE X (.Call (.Name x p) (e::es) [] pos) (HQ sp dvs E t):=by
 intro pins s σ H Q I h;refine fQ (Bl I hg hm ?_ hdb);refine y6 (h₀:=X.base) I.ok.mod.kin hk (thn (ha pos pins s σ H _ I h) λus s1 ⟨vs,H1,I1,r,q⟩=>⟨I1.kIn,?_⟩) he hpl;exact HR F hr hb hd hx I1 r q
end
structure FnScope (N P:G0 Str)(sc:U5):Prop where
 kind:sc.kind= .function
 co:sc.isCoroutine=false
 gen:sc.isGenerator=false
 nd:N.Nodup
 pre:N.take P.length=P
 par: ∀x∈P,sc.names.lookup x=some .local\/sc.names.lookup x=some .cell
 nofree: ∀y∈sc.names,y.2≠ .free
variable {kindOf:Str->D4 NameKind}{x:Str}
theorem Gx: ∀ {binds:G0 (Str×G7)} {m:Str->D4 G7},(∀v,(x,v) ∉ binds)->pW kindOf binds m x=m x
 | [],_,_=>rfl
 |(n,v)::r,m,h=>by
  unfold pW;rw [Gx λw hw=>h w (S3 _ hw)];split
  ·have:x≠n:=by rintro rfl;exact h v R3
   simp [this]
  ·rfl
theorem Gy: ∀ {binds:G0 (Str×G7)} {m:Str->D4 G7},(∀v,(x,v) ∉ binds)->pX kindOf binds m x=m x
 | [],_,_=>rfl
 |(n,v)::r,m,h=>by
  unfold pX;rw [Gy λw hw=>h w (S3 _ hw)];split
  ·rfl
  ·have:x≠n:=by rintro rfl;exact h v R3
   simp [this]
theorem Gz {v:G7}: ∀ {P:G0 Str} {vs:G0 G7} {i:G5} {m:Str->D4 G7},P.Nodup->P[i]? =some x->vs[i]? =some v->kindOf x=some .local->
 pW kindOf (P.zip vs) m x=some v
 | [],_,_,_,_,h,_,_=>by simp at h
 |_::_,[],_,_,_,_,h,_=>by simp at h
 |p::P,w::vs,0,m,nd,h1,h2,hk=>by
  simp at h1 h2;subst h1;subst h2;show pW kindOf ((p,w)::P.zip vs) m p=_;unfold pW;rw [Gx λv hv=>(V7.mp nd).1 (cC hv).1,D8 hk];simp
 |p::P,w::vs,i+1,m,nd,h1,h2,hk=>by
  show pW kindOf ((p,w)::P.zip vs) m x=_;unfold pW;exact Gz (i:=i) (V7.mp nd).2 (by simpa using h1) (by simpa using h2) hk
theorem GA {v:G7}: ∀ {P:G0 Str} {vs:G0 G7} {i:G5} {m:Str->D4 G7},P.Nodup->P[i]? =some x->vs[i]? =some v->kindOf x≠some .local->
 pX kindOf (P.zip vs) m x=some v
 | [],_,_,_,_,h,_,_=>by simp at h
 |_::_,[],_,_,_,_,h,_=>by simp at h
 |p::P,w::vs,0,m,nd,h1,h2,hk=>by
  simp at h1 h2;subst h1;subst h2;show pX kindOf ((p,w)::P.zip vs) m p=_;unfold pX;rw [Gy λv hv=>(V7.mp nd).1 (cC hv).1,D9 hk];simp
 |p::P,w::vs,i+1,m,nd,h1,h2,hk=>by
  show pX kindOf ((p,w)::P.zip vs) m x=_;unfold pX;exact GA (i:=i) (V7.mp nd).2 (by simpa using h1) (by simpa using h2) hk
def start (N:G0 Str)(vs:G0 V):St:=vs.map some++N3 (N.length-vs.length) none
def LK (CX:CXT)(P:M0)(w:C6)(K:G6)(mg:Str->D4 G7)(base:L6)(N:G0 Str)(qual:Str)(scope:U5)(f:P4)(cd:G7)(A:C5)(outer:G0 Env)(s:P0)(H:Hp)(E:XK):Cx where
 prog:=P
 w:=w
 K:=K
 mg:=mg
 base:=base
 A:=A.deeper (fT qual scope s.heap.objs.size f cd)
 N:=N
 s₀:=s
 H₀:=H
 env:=fT qual scope s.heap.objs.size f cd
 outer:=outer
 stack:=fT qual scope s.heap.objs.size f cd::outer
 ex:= []
 calm:=true
 fn:=λ_=>true
 pn:= []
 xe:=λe s'=>S6 (T4 P w) (A.deeper (fT qual scope s.heap.objs.size f cd)) (leaving (fT qual scope s.heap.objs.size f cd) e) (λ_ s''=>CX outer H s E e s'') (λe' s''=>CX outer H s E e' s'') s'
theorem Ve {sc:U5}{n:G5}(h:sc.names.lookup x=some .cell): ∃c,(Q6 n sc.names []).lookup x=some c:=by
 have q:=iM sc.names n [] (.inl h);exact Z8.mp q
theorem By {CX:CXT}{mg:Str->D4 G7}{base:L6}{N ps:G0 Str}{qual:Str}{scope:U5}{f:P4}{cd:G7}{outer:G0 Env}{s1:P0}{E:XK}{us:G0 G7}{vs:G0 V}
 (S:FnScope N ps scope)(hd:A.handled=none)(e0:Env0 P w K mg base A outer s H)(hl:vs.length=ps.length)(r:Vals vs us)
 (x:InCallC s s.heap.objs.size (pW (fT qual scope s.heap.objs.size f cd).kindOf (ps.zip us) λ_=>none) (Q6 (s.heap.objs.size+1) scope.names []) (pX (fT qual scope s.heap.objs.size f cd).kindOf (ps.zip us) λ_=>none) s1):
 Inv (LK CX P w K mg base N qual scope f cd A outer s H E) [] (start N vs) H s1:=by
 have hpl:ps.length<=N.length:=by have:=congrArg X9 S.pre;rw [T0] at this;omega
 obtain⟨h1,tk,rfl,hk⟩:=x.done;have noA: ∀b:P4,b ∉ (LK CX P w K mg base N qual scope f cd A outer s H E).ex:=λb z=>absurd (show b∈([]:G0 P4) from z) (by simp)
 refine⟨⟨e0.mod,S.kind,rfl,rfl,P5 _,λy z c h1 h2=> ?_,λy hy=> ?_,λy c _ h=> ?_,λ_=>hd,Around.frames_deeper e0.frames,.inr ⟨rfl,rfl⟩,λb z=>absurd z (noA b),e0.bs,e0.bsz,λb _ _=>noA b,λb z=>absurd z (noA b),e0.funs,e0.frf⟩,
  rfl,e0.bare,Un.kept hk,⟨_,x.toInCall.ns,λi y v h1 h2 h3=> ?_⟩,λy c h=>⟨_,x.cell y c h⟩,e0.hok.fresh (P5 _),λy c h=> ?_,λp hp=>absurd (show p∈([]:G0 (P4×Obj)) from hp) (by simp),e0.hok.kept hk,?_⟩
 ·exact sW x.apart (aC h1) (aC h2)
 ·have hy:scope.names.lookup y=some .cell\/scope.names.lookup y=some .free:=hy;rcases hy with hy|hy
  ·exact Ve hy
  ·exact absurd rfl (S.nofree _ (aC hy))
 ·exact S1 (x.above y c (aC h))
 ·have hi:i<vs.length:=by
   unfold start at h2
   by_cases hi:i<vs.length
   ·exact hi
   ·rw [R4 (by simpa using hi)] at h2;rw [g8] at h2;split at h2<;>cases h2
  have ha:vs[i]? =some v:=by
   unfold start at h2;rw [S4 (by simpa using hi),P9] at h2;cases e:vs[i]? with
   |none=>rw [e] at h2;cases h2
   |some a=>rw [e] at h2;cases h2;rfl
  obtain⟨u,hu,rv⟩:=r.get ha;have hp:ps[i]? =some y:=by
   rw [<-S.pre,bX (by omega)];exact h1
  have ndP:ps.Nodup:=by rw [<-S.pre];exact S.nd.sublist (Y0 _ _)
  refine⟨u,rv,?_⟩;rcases S.par y (D0 hp) with k|k
  ·exact .inl ⟨k,Gz ndP hp hu k⟩
  ·obtain⟨c,e⟩:=Ve (n:=s.heap.objs.size+1) k;refine .inr ⟨.inl k,c,e,?_⟩;have q:=x.cell y c e;rw [GA ndP hp hu (by show scope.names.lookup y≠_;rw [k];decide)] at q;exact q
 ·exact e0.hok.fresh (S1 (x.above y c (aC h)))
 ·unfold start;show _=N.length;rw [P2,G1,List.length_replicate];omega
theorem xo {CX:CXT}{mg:Str->D4 G7}{base:L6}{f:P4}{name qual:Str}{params:Arguments}{body:G0 C9}{scope:U5}{dV kV doc pm cdv ct oc:G7}{an od:D4 P4}{osl:N8 (D4 G7)}{N ps:G0 Str}{sp:Sp}(lk:K.lookup f=some ⟨oc,od,.func (bL name qual params body scope dV kV doc pm an cdv ct),osl⟩)(hcd:lF K cdv qual=true)(S:FnScope N ps scope)
 (len: ∀vs H Q E,sp vs H Q E->vs.length=ps.length)
 (hbody: ∀ (A:C5) (outer:G0 Env) (s:P0) (H:Hp) (vs:G0 V) (Q:VK) (E:XK),Room k (A.deeper (fT qual scope s.heap.objs.size f cdv))->sp vs H Q E->
  ∃t,PSs (LK CX P w K mg base N qual scope f cdv A outer s H E) body t/\t {nx:=λ_ H'=>Q .non H',rt:=Q} (start N vs) H):
 FnOk P w K mg base CX (k+1) f (bL name qual params body scope dV kV doc pm an cdv ct) ps sp:=by
 refine⟨len,λA outer s H args us vs Q E hr e0 hb r hsp=> ?_⟩;have hl:=len _ _ _ _ hsp;have KX:K.In s.heap:=e0.mod.kin.keeps λb o e=>(e0.bs b o e).1
 have lim:s.heap.NoLimit:=e0.mod.nolimit.keeps λb o e=>(e0.bs b o e).1
 have hkind: ∀y∈ps.zip us,scope.names.lookup y.1=some .local\/(scope.names.lookup y.1=some .cell/\((Q6 (s.heap.objs.size+1) scope.names []).lookup y.1).isSome=true):=λ⟨n,v⟩ hy=>by
  rcases S.par n (cC hy).1 with q|q
  ·exact .inl q
  ·exact .inr ⟨q,iM _ _ _ (.inl q)⟩
 refine codeAny_call_function hr.depth (KX _ _ lk) rfl S.co S.gen rfl (y8 KX hcd) (hb _ _ _ _ ?_);refine wpAny_newFunctionEnv_cells S.kind hkind λenv he s1 x=> ?_
 subst he;refine⟨lim.keeps x.toInCall.keep,codeAny_func ?_⟩;obtain⟨t,ht,hq⟩:=hbody A outer s H vs Q E (hr.deeper _) hsp;have I:Inv (LK CX P w K mg base N qual scope f cdv A outer s H E) [] (start N vs) H s1:=By S hr.hd e0 hl r x;refine N0 (ht [] s1 (start N vs) H _ I hq) (λfl s' hs=> ?_) λe s' hs=>hs
 have fin: ∀ {σ':St} {H':Hp} {v:V} {u:G7},Inv (LK CX P w K mg base N qual scope f cdv A outer s H E) [] σ' H' s'->RelV v u->Q v H'->CE outer P w H s Q u s':=
  λ{σ' H' v u} J rv q=>⟨v,H',J.os,J.bare,J.base,J.hok,rv,q⟩
 cases fl with
 |ret u=>
  obtain⟨v,σ',H',J,rv,q⟩:=hs;exact fin J rv q
 |next=>
  obtain⟨σ',H',J,q⟩:=hs;exact fin (v:=V.non) (u:=mR) J rfl q
 |brk=>
  obtain⟨_,_,_,q⟩:=hs;exact False.elim q
 |cont=>
  obtain⟨_,_,_,q⟩:=hs;exact False.elim q
section
variable {X:Cx}{x:Str}{p pos:Pos}{e:T1}{es:G0 T1}{t:TA}{id T:U1}{r:G0 V->Hp->VK->Prop}
def tCB (r:G0 V->Hp->VK->Prop)(t:TA):TE:=λσ H Q=>t σ H λvs H1=>r vs H1 Q
theorem RS (hc:CallR X (.builtin id) r)(hg:Gl X x)(hm:X.mg x=none)(hv:E3 x=some (.builtin id))(ha:PA X (e::es) t)(hn:x≠ "__name__" :=by decide)(hdb:(x==("__debug__" :Str))=false:=by decide)
 (he:D6 (e::es) X.env=(false,O5 e X.env)::D6 es X.env:=by rfl)(hpl:(E7 pos (D6 es X.env)).any (·.1)=false:=by rfl):PE X (.Call (.Name x p) (e::es) [] pos) (tCB r t):=by
 intro pins s σ H Q I h;refine fQ (ZX I hg hm hv ?_ hn hdb);exact oF (thn (ha pos pins s σ H _ I h) λus s1 ⟨vs,H1,I1,r1,q1⟩=>hc pins s1 σ H1 vs us Q I1 r1 q1) he hpl
theorem GC (hc:CallR X (.type T) r)(hg:Gl X x)(hm:X.mg x=none)(hv:E3 x=some (.type T))(ha:PA X (e::es) t)(hn:x≠ "__name__" :=by decide)(hdb:(x==("__debug__" :Str))=false:=by decide)
 (he:D6 (e::es) X.env=(false,O5 e X.env)::D6 es X.env:=by rfl)(hpl:(E7 pos (D6 es X.env)).any (·.1)=false:=by rfl):PE X (.Call (.Name x p) (e::es) [] pos) (tCB r t):=by
 intro pins s σ H Q I h;refine fQ (ZX I hg hm hv ?_ hn hdb);exact O8 (thn (ha pos pins s σ H _ I h) λus s1 ⟨vs,H1,I1,r1,q1⟩=>hc pins s1 σ H1 vs us Q I1 r1 q1) he hpl
end
end L2
namespace HT
open PySem PyProof.Rows
def za:G0 G8->G0 G8->T9
 | [],[]=>false
 | [],_::_=>true
 |_::_,[]=>false
 |x::xs,y::ys=>if x=y then za xs ys else decide (x<y)
theorem Xq (x y:G8)(xs ys:G0 G8):za (x::xs) (y::ys)=if x=y then za xs ys else decide (x<y):=rfl
theorem XX:za [] []=false:=rfl
theorem UY (y:G8)(ys:G0 G8):za [] (y::ys)=true:=rfl
theorem UZ (x:G8)(xs:G0 G8):za (x::xs) []=false:=rfl
theorem RT (A:C5)(s:P0)(a:G8)(t:Tok)(c:G8)(u:Tok): ∃e,SeqAt.EqAt A s (.int a t) (.int c u) e/\(e=true↔a=c):=
 ⟨(a==c),SeqAt.EqAt.int_int a t c u,by simp⟩
theorem LL (A:C5)(s:P0)(a:G8)(t:Tok)(c:G8)(u:Tok)(prog:M0)(w:C6)(E:G7->P0->Prop)(Q:G7->P0->Prop)(h:Q (.bool (decide (a<c))) s):
 S6 (T4 prog w) A (richCompare .Lt (.int a t) (.int c u)) Q E s:=
 (mE h:S6 (T4 prog w) A (N9 .Lt (.int a t) (.int c u)) Q E s)
section
open PySem.SeqAt
open PySem.AutoSeq1 (wpAny_loadPart')
open PySem.MeetsSeq PySem.MeetsSeq2 PySem.MeetsSeq3
theorem ZZ (l b:P4)(items items2:N8 G7)(n n2:G5)(dd dd2:D4 P4)(sl sl2:N8 (D4 G7))(ns ms:G0 G8)(hi:Q9 items.toList ns)(hj:Q9 items2.toList ms):
 Meets (Builtin.«tuple.__lt__» ⟨[.ref l,.ref b],[]⟩)
  (λ_ R s=>s.heap.get? l=some {cls:= .type "tuple",dict:=dd,data:= .seq items n,slots:=sl}/\s.heap.get? b=some {cls:= .type "tuple",dict:=dd2,data:= .seq items2 n2,slots:=sl2}/\
   R (.ok (.ret (.bool (za ns ms)))) s):=
 .of_wp λprog w A R s h=>by
  obtain⟨hp,g,d,tk,os⟩:=s;obtain⟨hl,hb,h⟩:=h;have f2:=rR;have z1:items.size=ns.length:=by rw [<-hi.length];simp
  have z2:items2.size=ms.length:=by rw [<-hj.length];simp
  wp_walk using wpAny_loadPart' hl,wpAny_loadPart' hb,oG _ (λrest b s'=>b.1=none/\s'=⟨hp,g,d,tk,os⟩/\ ∃ (vs ws:G0 G7) (ns' ms':G0 G8),rest=vs.zip ws/\
   Q9 vs ns'/\Q9 ws ms'/\ns'.length+items2.size=ms'.length+items.size/\R (.ok (.ret (.bool (za ns' ms')))) ⟨hp,g,d,tk,os⟩) _
  case turn=>
   rintro ⟨y,x⟩ rest b s' ⟨hb',rfl,vs,ws,ns',ms',hz,hvi,hwi,hlen,hR⟩;cases hvi with
   |nil=>rw [gR] at hz;cases hz
   |cons a t hvi'=>
    cases hwi with
    |nil=>rw [mT] at hz;cases hz
    |cons c u hwi'=>
     rw [aL] at hz;injection hz with hyx hrest
     injection hyx with hy hx
     subst hy hx;rw [Xq] at hR;simp only [R7] at hlen;obtain⟨e,he,hiff⟩:=RT A.in1 ⟨hp,g,d,tk,os⟩ a t c u;refine wpAny_bind (he prog w _ _ ?_);cases e with
     |true=>
      rw [D8 (hiff.mp rfl)] at hR
      wp_walk
      exact⟨rfl,rfl,_,_,_,_,hrest,hvi',hwi',by omega,hR⟩
     |false=>
      rw [D9 (λq=>absurd (hiff.mpr q) R0)] at hR;have hri:=LL A.in1 ⟨hp,g,d,tk,os⟩ a t c u prog w
      wp_walk using hri
      exact⟨_,rfl,by simpa using hR⟩
  case fin=>
   rintro ⟨b1,b2⟩ s' ⟨hb',rfl,vs,ws,ns',ms',hz,hvi,hwi,hlen,hR⟩;simp only at hb';subst hb';have hv:za ns' ms'=decide (items.size<items2.size):=by
    cases hvi with
    |nil=>
     cases hwi with
     |nil=>
      simp only [B9] at hlen;rw [XX];exact(D5 (by omega)).symm
     |cons c u hw=>
      simp only [B9,R7] at hlen;rw [UY];exact(G9 (by omega)).symm
    |cons a t hv=>
     cases hwi with
     |nil=>
      simp only [B9,R7] at hlen;rw [UZ];exact(D5 (by omega)).symm
     |cons c u hw=>
      rw [aL] at hz;cases hz
   rw [hv] at hR
   wp_walk
   exact⟨_,rfl,by simpa [oA] using hR⟩
  case h=>
   exact⟨rfl,rfl,items.toList,items2.toList,ns,ms,rfl,hi,hj,by omega,h⟩
end
section
variable {prog:M0}{w:C6}{A:C5}{E:G7->P0->Prop}{s:P0}
theorem MY {l b:P4}{items items2:N8 G7}{ns ms:G0 G8}{Q:G7->P0->Prop}(hl:mI s.heap l items)(hb:mI s.heap b items2)(hi:Q9 items.toList ns)(hj:Q9 items2.toList ms)
 (hu:A.units<cLine)(h:Q (.bool (za ns ms)) s):S6 (T4 prog w) A (N9 .Lt (.ref l) (.ref b)) Q E s:=by
 obtain⟨⟨cls,dd,data,sl⟩,ho,hc,n,hd⟩:=id hl;obtain⟨⟨cls2,dd2,G0f,sl2⟩,ho2,hc2,n2,hd2⟩:=id hb;simp only at hc hd hc2 hd2;subst hc hd hc2 hd2;exact richCompare_meets_room (op:= .Lt) ⟨_,ho,rfl⟩ ⟨_,ho2,rfl⟩ dI iN (g9 _ _) (ZZ l b items items2 n n2 dd dd2 sl sl2 ns ms hi hj)
  ⟨ho,ho2,show Z4 (za ns ms)≠Value.notImplemented/\Q (.bool (za ns ms)) s from ⟨(λx=>nomatch x),h⟩⟩ hu
theorem EI {t b:P4}{vs ws:G0 G7}{Q:G7->P0->Prop}(ht:mI s.heap t vs.toArray)(hb:mI s.heap b ws.toArray)(hv:vs≠ [])
 (h1:ws= []->Q (.ref t) s)(h2:ws≠ []->Q (.ref s.heap.objs.size) {s with heap:=s.heap.push {cls:= .type "tuple",data:= .seq (vs++ws).toArray}})
 (hsz:vs.length+ws.length<=sizeLine):S6 (T4 prog w) A (E9 .Add (.ref t) (.ref b)) Q E s:=by
 obtain⟨⟨cls,dd,data,sl⟩,ho,hc,n,hd⟩:=id ht;obtain⟨⟨cls2,dd2,G0f,sl2⟩,ho2,hc2,n2,hd2⟩:=id hb;simp only at hc hd hc2 hd2;subst hc hd hc2 hd2;have e:vs.toArray++ws.toArray=(vs++ws).toArray:=by simp
 by_cases hw:ws= []
 ·exact nE ⟨_,ho,rfl⟩ ⟨_,ho2,rfl⟩ hO mJ cV cO (bY _ _)
   (tuple_addW1 t b vs.toArray ws.toArray n n2 dd dd2 sl sl2 (by simpa using hv) (by simp [hw])) ⟨ho,ho2,h1 hw⟩
 ·refine nE ⟨_,ho,rfl⟩ ⟨_,ho2,rfl⟩ hO mJ cV cO (bY _ _)
   (tuple_addW2 t b vs.toArray ws.toArray n n2 dd dd2 sl sl2 (by simpa using hv) (by simpa using hw) (by rw [R9,R9];exact hsz)) ⟨ho,ho2,?_⟩
  rw [e];exact h2 hw
def sIx (n d:G5):D4 G8->G5
 |none=>d
 |some v=>if v<0 then (v+(n:G8)).toNat else min v.toNat n
theorem HS (n d:G5)(hd:d<=n)(o:D4 G8):sIx n d o<=n:=by
 cases o with
 |none=>exact hd
 |some v=>
  show (if v<0 then (v+(n:G8)).toNat else min v.toNat n)<=n
  by_cases hv:v<0
  ·rw [D8 hv];omega
  ·rw [D9 hv];exact aF _ _
theorem Bz (v:G8)(n d:G5):(if v<0 then max (v+(n:G8)) 0 else min v (n:G8))=((sIx n d (some v):G5):G8):=by
 show (if v<0 then max (v+(n:G8)) 0 else min v (n:G8))=(((if v<0 then (v+(n:G8)).toNat else min v.toNat n):G5):G8)
 by_cases hv:v<0
 ·simp only [D8 hv];omega
 ·simp only [D9 hv];omega
theorem MZ (lo hi:D4 G8)(n:G5):bS lo hi 1 (n:G8)=(((sIx n 0 lo:G5):G8),((sIx n n hi:G5):G8)):=by
 have h1: ¬ ((1:G8)<0):=by omega
 unfold bS;simp only [h1,lG];refine Prod.ext ?_ ?_
 ·cases lo with
  |none=>rfl
  |some v=>exact Bz v n 0
 ·cases hi with
  |none=>rfl
  |some v=>exact Bz v n n
theorem Na (i j:G5):X2 (i:G8) (j:G8) 1=j-i:=by
 unfold X2;have h1:(1:G8)>0:=by omega
 simp only [h1,fE,Int.ediv_one];split<;>omega
theorem Xr {v:G7}{o:D4 G8}{Q:D4 G8->P0->Prop}(p:iO v o)(h:Q o s):S6 (T4 prog w) A (o0 v) Q E s:=by
 cases p with
 |none=>exact pY h
 |int i t=>exact slicePart_int h
theorem vS {sl:P4}{vl vu:G7}{lo hi:D4 G8}{n:G5}{Q:G8×G8×G5->P0->Prop}(hs:s.heap.IsSliceOf sl vl vu .none)(pl:iO vl lo)(pu:iO vu hi)
 (h:Q (((sIx n 0 lo:G5):G8),1,sIx n n hi-sIx n 0 lo) s):S6 (T4 prog w) A (fV (.ref sl) (pure (n:G8))) Q E s:=by
 obtain⟨os,hos,hcs,hds⟩:=id hs;unfold fV rM;refine wpAny_bind (wpAny_bind (oT hos hds (x:=vl) rfl (wpAny_bind (oT hos hds (x:=vu) rfl (wpAny_bind (oT hos hds (x:= .none) rfl (D2 ?_)))))));refine wpAny_bind (pY ?_);show S6 _ _ (if ((1:G8)==0)=true then _ else _) _ _ s;rw [D9 (by decide)];refine wpAny_bind (Xr pl (wpAny_bind (Xr pu (wpAny_bind (D2 ?_)))));show S6 _ _ (match bS lo hi 1 (n:G8) with|(lo,hi)=>pure (lo,(1:G8),X2 lo hi 1)) _ _ s;rw [MZ lo hi n];show S6 _ _ (pure (((sIx n 0 lo:G5):G8),(1:G8),X2 ((sIx n 0 lo:G5):G8) ((sIx n n hi:G5):G8) 1)) _ _ s;rw [Na];exact D2 h
theorem LM (xs:N8 G7)(i k:G5):((G3 k).filterMap λ(m:G5)=>xs[((i:G8)+(m:G8)*1).toNat]?).toArray=((xs.toList.drop i).take k).toArray:=by
 have e:(λ(m:G5)=>xs[((i:G8)+(m:G8)*1).toNat]?)=λm=>xs[i+m]? :=by
  funext m
  have:((i:G8)+(m:G8)*1).toNat=i+m:=by omega
  rw [this]
 rw [e];have:=pick_run xs i k;rw [List.filterMap_map] at this;have e2:((λx=>xs[x]?)∘λx=>i+x)=λm=>xs[i+m]? :=rfl
 rw [e2] at this;rw [this]
theorem WI {t sl:P4}{items:N8 G7}{vl vu:G7}{lo hi:D4 G8}{Q:G7->P0->Prop}(ht:mI s.heap t items)(hs:s.heap.IsSliceOf sl vl vu .none)(pl:iO vl lo)(pu:iO vu hi)
 (hw: ¬ (sIx items.size 0 lo=0/\sIx items.size items.size hi=items.size))
 (h:Q (.ref s.heap.objs.size) {s with heap:=s.heap.push {cls:= .type "tuple",data:= .seq ((items.toList.drop (sIx items.size 0 lo)).take (sIx items.size items.size hi-sIx items.size 0 lo)).toArray}})
 (hsz:items.size<=sizeLine):S6 (T4 prog w) A (fF (.ref t) (.ref sl)) Q E s:=by
 have htake:sizeOk (.seq ((items.toList.drop (sIx items.size 0 lo)).take (sIx items.size items.size hi-sIx items.size 0 lo)).toArray):=by
  show ((items.toList.drop (sIx items.size 0 lo)).take (sIx items.size items.size hi-sIx items.size 0 lo)).toArray.size<=sizeLine;rw [R9,T0,N5,C7];omega
 have hj:sIx items.size items.size hi<=items.size:=HS _ _ (P5 _) hi;obtain⟨os,hos,hcs,hds⟩:=id hs;have hTs:s.TypeIs (.ref sl) "slice" :=⟨os,hos,hcs⟩;unfold fF
 try with_reducible refine K2 ?_
 first|refine wpAny_bind (D2 ?_)|skip
 refine wpAny_bind (nF ht.typeIs (by decide) ?_);refine wpAny_bind (K5 (name:=Str.ofString "__getitem__") ht.typeIs Q8
  (A7 Q8 ht.typeIs mF ?_ (mU _ _)))
 show S6 _ _ (bE (.ref t) >>= _) _ _ s;refine wpAny_bind (mK ht ?_);refine wpAny_bind (nG hTs ?_);rw [D8 (by decide)];refine wpAny_bind (vS hs pl pu ?_);have hno: ¬ ((((sIx items.size 0 lo:G5):G8)==0&&(1:G8)==1&&(sIx items.size items.size hi-sIx items.size 0 lo)==items.size)=true):=by
  intro q;rw [B7,B7] at q;have q1:((sIx items.size 0 lo:G5):G8)=0:=eq_of_beq q.1.1;have q2:sIx items.size items.size hi-sIx items.size 0 lo=items.size:=eq_of_beq q.2;exact hw ⟨by omega,by omega⟩
 show S6 _ _ (if (((sIx items.size 0 lo:G5):G8)==0&&(1:G8)==1&&(sIx items.size items.size hi-sIx items.size 0 lo)==items.size)=true then _ else _) _ _ s;rw [D9 hno,LM]
 first
  |exact wpAny_bind (m:=Z9 _) (V4 (D2 ⟨_,rfl,D2 h⟩) htake)
  |exact wpAny_bind (m:=Z9 _) (V4 (wpAny_bind (D2 (D2 ⟨_,rfl,D2 h⟩))) htake)
  |exact wpAny_bind (wpAny_bind (m:=Z9 _) (V4 (D2 (D2 ⟨_,rfl,D2 h⟩)) htake))
  |exact wpAny_bind (wpAny_bind (m:=Z9 _) (V4 (D2 ⟨_,rfl,D2 h⟩) htake))
end
end HT
namespace L2
open PySem PySem.Spec PyProof.Rows
abbrev TO:=St->Hp->(D4 G8->Hp->Prop)->Prop
def PO (X:Cx)(e:D4 T1)(t:TO):Prop:=
 ∀ (pins:G0 (P4×Obj)) (s:P0) (σ:St) (H:Hp) (Q:D4 G8->Hp->Prop),Inv X pins σ H s->t σ H Q->
  S6 (T4 X.prog X.w) X.A (evalPart e X.env) (λu s'=> ∃o H',Inv X pins σ H' s'/\iO u o/\Q o H') X.xe s
def EJ:TO:=λ_ H Q=>Q none H
def xp (t:TE):TO:=λσ H Q=>t σ H λx H1=> ∃i,x= .int i/\Q (some i) H1
section
variable {X:Cx}{e:T1}{te:TE}{lo hi:D4 T1}{tl th:TO}{pos p2:Pos}
theorem po_none:PO X none EJ:=by
 intro pins s σ H Q I h;rw [rS];exact D2 ⟨none,H,I,.none,h⟩
theorem EK (h:PE X e te):PO X (some e) (xp te):=by
 intro pins s σ H Q I hw;rw [evalPart_some];refine thn (h pins s σ H _ I hw) λu s1 ⟨x,H1,I1,r1,q1⟩=> ?_
 obtain⟨i,rfl,q⟩:=q1;obtain⟨t,rfl⟩:=r1;exact⟨some i,H1,I1,.int i t,q⟩
def SlR (X:Cx)(r:V->D4 G8->D4 G8->Hp->VK->Prop):Prop:=
 ∀ (pins:G0 (P4×Obj)) (s:P0) (σ:St) (H:Hp) (x:V) (v vl vu:G7) (lo hi:D4 G8) (sl:P4) (Q:VK),Inv X pins σ H s->RelV x v->s.heap.IsSliceOf sl vl vu .none->iO vl lo->iO vu hi->r x lo hi H Q->
  ∃T id,y9 (.type T) "__getitem__" =pure (some (.builtin id))/\s.TypeIs v T/\S6 (T4 X.prog X.w) X.A (fF v (.ref sl)) (EP X pins σ Q) X.xe s
theorem SlR.or {r r':V->D4 G8->D4 G8->Hp->VK->Prop}(h:SlR X r)(h':SlR X r'):SlR X (λx lo hi H Q=>r x lo hi H Q\/r' x lo hi H Q):=by
 intro pins s σ H x v vl vu lo hi sl Q I rx hs pl pu q;rcases q with q|q
 ·exact h pins s σ H x v vl vu lo hi sl Q I rx hs pl pu q
 ·exact h' pins s σ H x v vl vu lo hi sl Q I rx hs pl pu q
def tSl (r:V->D4 G8->D4 G8->Hp->VK->Prop)(te:TE)(tl th:TO):TE:=λσ H Q=>te σ H λx H1=>tl σ H1 λl H2=>th σ H2 λu H3=>r x l u H3 Q
theorem LP {r:V->D4 G8->D4 G8->Hp->VK->Prop}(hr:SlR X r)(he:PE X e te)(hl:PO X lo tl)(hu:PO X hi th):PE X (.Subscript e (.Slice lo hi none p2) pos) (tSl r te tl th):=by
 intro pins s σ H Q I h;refine pZ (thn (he pins s σ H _ I h) λv s1 ⟨x,H1,I1,r1,q1⟩=> ?_);refine wpAny_Slice (thn (hl pins s1 σ H1 _ I1 q1) λvl s2 ⟨l,H2,I2,pl,q2⟩=>thn (hu pins s2 σ H2 _ I2 q2) λvu s3 ⟨u,H3,I3,pu,q3⟩=> ?_);rw [rS];refine D2 ?_;have I4:Inv X pins σ H3 {s3 with heap:=s3.heap.push {cls:= .type "slice",data:= .fields #[vl,vu,.none]}}:=I3.kept (t':=s3.toks) λb ob q=>P7 _ q
 obtain⟨T,id,hT,ht,hg⟩:=hr pins {s3 with heap:=s3.heap.push {cls:= .type "slice",data:= .fields #[vl,vu,.none]}} σ H3 x v vl vu l u s3.heap.objs.size Q I4 r1 (Heap.IsSliceOf.new ..) pl pu q3;show S6 (T4 X.prog X.w) X.A (mL e (.Slice lo hi none p2) v (.ref s3.heap.objs.size)) (EP X pins σ Q) X.xe {s3 with heap:=s3.heap.push {cls:= .type "slice",data:= .fields #[vl,vu,.none]}};exact tail_any (ops:= [.ref s3.heap.objs.size,v]) ht hT hg (by with_unfolding_all rfl)
def Lt (xs:G0 V)(lo hi:D4 G8):G0 V:=(xs.drop (HT.sIx xs.length 0 lo)).take (HT.sIx xs.length xs.length hi-HT.sIx xs.length 0 lo)
theorem Vu (xs:G0 V)(lo hi:D4 G8):(Lt xs lo hi).length<=xs.length:=by
 unfold Lt;rw [T0,N5];omega
def jaH (K:G6):V->D4 G8->D4 G8->Hp->VK->Prop:=λx lo hi H Q=> ∃a xs,x= .ref a/\SqT K H a xs/\
 ¬ (HT.sIx xs.length 0 lo=0/\HT.sIx xs.length xs.length hi=xs.length)/\ ∀p,H p=none->Q (.ref p) (upd H p (.tup (Lt xs lo hi)))
theorem sl_tup:SlR X (jaH X.K):=by
 intro pins s σ H x v vl vu lo hi sl Q I rx hs pl pu h;obtain⟨a,xs,rfl,hx,hw,q⟩:=h;cases rx;obtain⟨its,r,ht,hz⟩:=I.tuple hx;have hlen:its.toArray.size=xs.length:=by rw [R9];exact r.length.symm
 refine⟨"tuple",_,PyProof.Rows.slot_tuple_getitem.lookup,ht.typeIs,?_⟩;refine HT.WI ht hs pl pu (by rw [hlen];exact hw) ?_ (by rw [hlen];exact hz);rw [hlen];refine⟨.ref s.heap.objs.size,_,I.laid (t':=s.toks) (o:= .tup (Lt xs lo hi)) (λb ob q=>P7 _ q) (P5 _) ?_,rfl,q _ (I.hok.fresh (P5 _))⟩;exact⟨T5 (Vu xs lo hi) hz,_,(r.drop (HT.sIx xs.length 0 lo)).take (HT.sIx xs.length xs.length hi-HT.sIx xs.length 0 lo),IsTupN.new _ _⟩
def xq (K:G6):R2:=λx y H Q=> ∃a b xs ys,x= .ref a/\y= .ref b/\SqT K H a xs/\SqT K H b ys/\xs≠ []/\xs.length+ys.length<=sizeLine/\
 (ys= []->Q (.ref a) H)/\(ys≠ []-> ∀p,H p=none->Q (.ref p) (upd H p (.tup (xs++ys))))
theorem Vals.nil_iff {xs:G0 V}{us:G0 G7}(r:Vals xs us):us= []↔xs= []:=by
 cases r with
 |nil=>simp
 |cons _ _=>simp
theorem op_catT:OpR X (E9 .Add) (xq X.K):=by
 intro pins s σ H x y v u Q I rx ry h;obtain⟨a,b,xs,ys,rfl,rfl,ha,hb,hx,hz,q1,q2⟩:=h;cases rx;cases ry;obtain⟨its,r1,p1,_⟩:=I.tuple ha;obtain⟨its2,r2,p2,_⟩:=I.tuple hb;refine HT.EI p1 p2 (λz=>hx (r1.nil_iff.mp z)) (λz=>⟨.ref a,H,I,rfl,q1 (r2.nil_iff.mp z)⟩) (λz=> ?_) (by rw [<-r1.length,<-r2.length];exact hz);refine⟨.ref s.heap.objs.size,_,I.laid (t':=s.toks) (o:= .tup (xs++ys)) (λb ob q=>P7 _ q) (P5 _) ?_,rfl,q2 (λw=>z (r2.nil_iff.mpr w)) _ (I.hok.fresh (P5 _))⟩;exact⟨by rw [P2];exact hz,_,r1.append r2,IsTupN.new _ _⟩
end
def ixN (n:G5)(i:G8):D4 G5:=if 0<=i then (if i<n then some i.toNat else none) else if-(n:G8)<=i then some (i+n).toNat else none
def atI {α:Type}(xs:G0 α)(i:G8):D4 α:=(ixN xs.length i).bind λj=>xs[j]?
theorem BA {n:G5}{i:G8}{j:G5}(h:ixN n i=some j):seqIndex? i n=some j/\j<n/\ -(n:G8)<=i/\i<n:=by
 unfold ixN at h
 by_cases h0:0<=i
 ·rw [D8 h0] at h
  by_cases h1:i<n
  ·rw [D8 h1] at h;have e:i.toNat=j:=C1 h;exact⟨by rw [oU h0 h1,e],by omega,by omega,h1⟩
  ·rw [D9 h1] at h;cases h
 ·rw [D9 h0] at h
  by_cases h1: -(n:G8)<=i
  ·rw [D8 h1] at h;have e:(i+n).toNat=j:=C1 h;exact⟨by rw [nH (by omega) h1,e],by omega,h1,by omega⟩
  ·rw [D9 h1] at h;cases h
theorem Dp {α:Type}{xs:G0 α}{i:G8}{v:α}(h:atI xs i=some v): ∃j,seqIndex? i xs.length=some j/\xs[j]? =some v/\j<xs.length/\ -(xs.length:G8)<=i/\i<xs.length:=by
 unfold atI at h;cases e:ixN xs.length i with
 |none=>rw [e] at h;cases h
 |some j=>
  rw [e] at h;obtain⟨h1,h2,h3,h4⟩:=BA e;exact⟨j,h1,h,h2,h3,h4⟩
theorem zK {α:Type}{xs:G0 α}{j:G5}{v:α}(h:xs[j]? =some v):atI xs (j:G8)=some v:=by
 have hj:j<xs.length:=(P8.mp h).1;have e:ixN xs.length (j:G8)=some j:=by
  unfold ixN;rw [D8 (by omega),D8 (by omega)];simp
 unfold atI;rw [e];exact h
def XY (b:T1):Prop:= ∀o i,lH b false o i=IO [o,i] (fF o i)
def IxR (X:Cx)(r:R2):Prop:=
 ∀ (value slice:T1) (pins:G0 (P4×Obj)) (s:P0) (σ:St) (H:Hp) (x y:V) (v u:G7) (Q:VK),Inv X pins σ H s->RelV x v->RelV y u->r x y H Q->
  lH slice false v u=IO [v,u] (fF v u)->S6 (T4 X.prog X.w) X.A (mL value slice v u) (EP X pins σ Q) X.xe s
def MtR (X:Cx)(id:U1)(r:V->G0 V->Hp->VK->Prop):Prop:=
 ∀ (pins:G0 (P4×Obj)) (s:P0) (σ:St) (H:Hp) (x:V) (xs:G0 V) (v:G7) (us:G0 G7) (Q:VK),Inv X pins σ H s->RelV x v->Vals xs us->r x xs H Q->
  S6 (T4 X.prog X.w) X.A (call (.builtin id) (v::us)) (EP X pins σ Q) X.xe s
section
variable {X:Cx}{a b:T1}{ta tb:TE}{pos:Pos}
theorem IxR.or {r r':R2}(h:IxR X r)(h':IxR X r'):IxR X (λx y H Q=>r x y H Q\/r' x y H Q):=by
 intro value slice pins s σ H x y v u Q I rx ry q hs;rcases q with q|q
 ·exact h value slice pins s σ H x y v u Q I rx ry q hs
 ·exact h' value slice pins s σ H x y v u Q I rx ry q hs
theorem xr {r:R2}(hr:IxR X r)(ha:PE X a ta)(hb:PE X b tb)(hs:XY b):PE X (.Subscript a b pos) (tOp r ta tb):=by
 intro pins s σ H Q I h;exact pZ (xf ha hb I h λv u s2 x y H2 I2 rx ry q=>hr a b pins s2 σ H2 x y v u Q I2 rx ry q (hs _ _))
def qV (K:G6):R2:=λx y H Q=> ∃p xs i v,x= .ref p/\y= .int i/\SqL K H p xs/\atI xs i=some v/\Q v H
def qW (K:G6):R2:=λx y H Q=> ∃p xs i v,x= .ref p/\y= .int i/\SqT K H p xs/\atI xs i=some v/\Q v H
def qX:R2:=λx y H Q=> ∃z i c,x= .str z/\y= .int i/\z.length<=sizeLine/\atI z.cps.toList i=some c/\Q (.str ⟨#[c]⟩) H
theorem ix_list:IxR X (qV X.K):=by
 intro value slice pins s σ H x y v u Q I rx ry h hs;obtain⟨p,xs,i,z,rfl,rfl,hq,he,q⟩:=h;cases rx;obtain⟨t,rfl⟩:=ry;obtain⟨its,r,pl,hz⟩:=I.list hq;obtain⟨j,h1,h2,h3,h4,h5⟩:=Dp he;obtain⟨w,ew,rw'⟩:=r.get h2;have hl:=r.length;have hn:=Gw;have fin:EP X pins σ Q w s:=⟨z,H,I,rw',q⟩
 by_cases h0:0<=i
 ·have hj:i.toNat=j:=by
   rw [oU h0 h5] at h1;exact C1 h1
  exact item_listR pl.isList h0 (by omega) (by rw [hj];simpa using ew) fin hs
 ·have hj:(i+(its.toArray.size:G8)).toNat=j:=by
   rw [nH (by omega) h4] at h1;rw [R9,<-hl];exact C1 h1
  exact iP (x:=w) pl.isList.typeIs slot_list_getitem.lookup
   (wpAny_getItem_list_neg (Q:=λr s'=>r=w/\EP X pins σ Q r s') pl.isList (by omega) (by rw [R9]<;>omega) (by omega) (by rw [hj];simpa using ew) ⟨rfl,fin⟩) hs
theorem ix_tup:IxR X (qW X.K):=by
 intro value slice pins s σ H x y v u Q I rx ry h hs;obtain⟨p,xs,i,z,rfl,rfl,hq,he,q⟩:=h;cases rx;obtain⟨t,rfl⟩:=ry;obtain⟨its,r,pl,hz⟩:=I.tuple hq;obtain⟨j,h1,h2,h3,h4,h5⟩:=Dp he;obtain⟨w,ew,rw'⟩:=r.get h2;have hl:=r.length;have hn:=Gw;have fin:EP X pins σ Q w s:=⟨z,H,I,rw',q⟩;exact iP (x:=w) pl.typeIs slot_tuple_getitem.lookup
  (getItem_tuple (j:=j) (Q:=λr s'=>r=w/\EP X pins σ Q r s') pl (by omega) (by omega) (by rw [R9,<-hl];exact h1) (by simpa using ew) ⟨rfl,fin⟩) hs
theorem HU:IxR X qX:=by
 intro value slice pins s σ H x y v u Q I rx ry h hs;obtain⟨z,i,c,rfl,rfl,hz,he,q⟩:=h;obtain⟨t,rfl⟩:=rx;obtain⟨t',rfl⟩:=ry;obtain⟨j,h1,h2,h3,h4,h5⟩:=Dp he;have hl:z.cps.toList.length=z.length:=by simp [Str.length]
 rw [hl] at h1 h4 h5;have hn:=Gw;exact tail_any (z6 s z t) slot_str_getitem.lookup (getItem_str (c:=c) (by
  have e1:decide (i< -(2^63:G8))=false:=D5 (by omega);have e2:decide (i>=2^63)=false:=D5 (by omega);rw [e1,e2,Bool.or_false]) (by rw [h1];simpa using h2) ⟨.str ⟨#[c]⟩,H,I.tok _,⟨_,rfl⟩,q⟩) hs
def rIx (K:G6):R2:=λx y H Q=>qV K x y H Q\/qW K x y H Q\/qX x y H Q
theorem HV:IxR X (rIx X.K):=ix_list.or (ix_tup.or HU)
theorem Nb (its:G0 G7)(n j:G5)(u:G7):aA (·.setIfInBounds j u) {cls:= .type "list",data:= .seq its.toArray n}= {cls:= .type "list",data:= .seq (its.set j u).toArray n}:=by
 simp [aA]
theorem Inv.lst {pins:G0 (P4×Obj)}{σ:St}{H:Hp}{s:P0}{p:P4}{xs:G0 V}(I:Inv X pins σ H s)(h:H p=some (.lst xs)):
 ∃ (its:G0 G7) (n:G5),Vals xs its/\s.heap.get? p=some {cls:= .type "list",data:= .seq its.toArray n}/\xs.length<=sizeLine:=by
 obtain⟨z,its,n,r,e⟩:=I.hok p _ h;exact⟨its,n,r,e,z⟩
theorem Inv.lstUpd {pins:G0 (P4×Obj)}{σ:St}{H:Hp}{s:P0}{p:P4}{xs ys:G0 V}{its its':G0 G7}{n n':G5}{f:Obj->Obj}(I:Inv X pins σ H s)(h:H p=some (.lst xs))
 (ho:s.heap.get? p=some {cls:= .type "list",data:= .seq its.toArray n})(hf:f {cls:= .type "list",data:= .seq its.toArray n}= {cls:= .type "list",data:= .seq its'.toArray n'})(r:Vals ys its')(hz:ys.length<=sizeLine)(t:G5):
 Inv X pins σ (upd H p (.lst ys)) {s with heap:=s.heap.update p f,toks:=t}:=by
 have e:(s.heap.update p f).get? p=some {cls:= .type "list",data:= .seq its'.toArray n'}:=by
  rw [aW f ho (by rw [hf]<;>rfl),hf]
 refine I.write (x:=p) (e:=p) (by rw [h];trivial) (.inl rfl) (λb u hb q=>(iQ _ _ (E8 hb)).trans q) ⟨_,e⟩ ?_;exact⟨hz,its',n',r,e⟩
def xt:V->V->V->Hp->(Hp->Prop)->Prop:=λo i v H Q=> ∃p xs k j,o= .ref p/\i= .int k/\H p=some (.lst xs)/\ixN xs.length k=some j/\Q (upd H p (.lst (xs.set j v)))
theorem LQ:qK X xt:=by
 intro pins s σ H o i v ov iv u Q I ro ri rv h;obtain⟨p,xs,k,j,rfl,rfl,hp,hj,q⟩:=h;cases ro;obtain⟨t,rfl⟩:=ri;obtain⟨its,n,r,ho,hz⟩:=I.lst hp;obtain⟨h1,h2,h3,h4⟩:=BA hj;have hl:=r.length;have hn:=Gw;have I':Inv X pins σ (upd H p (.lst (xs.set j v))) {s with heap:=s.heap.update p (aA (·.setIfInBounds j u))}:=
  I.lstUpd hp ho (Nb its n j u) (r.set rv j) (by rw [List.length_set];exact hz) s.toks
 by_cases h0:0<=k
 ·have hk:k.toNat=j:=by
   rw [oU h0 h4] at h1;exact C1 h1
  exact IX ho h0 (by omega) (by rw [R9,<-hl];exact h4) (by rw [hk];exact⟨_,I',q⟩)
 ·have hk:(k+(its.toArray.size:G8)).toNat=j:=by
   rw [nH (by omega) h3] at h1;rw [R9,<-hl];exact C1 h1
  exact z7 ho (by omega) (by rw [R9,<-hl];exact h3) (by omega) (by rw [hk];exact⟨_,I',q⟩)
theorem GD (lo hi:D4 G8)(n:G5):(cP lo hi none n).1=((HT.sIx n 0 lo:G5):G8)/\(cP lo hi none n).2.1=((HT.sIx n n hi:G5):G8)/\(cP lo hi none n).2.2=1:=by
 refine⟨?_,?_,rfl⟩
 ·cases lo with
  |none=>simp [cP,HT.sIx]
  |some i=>
   simp only [cP,HT.sIx,oH,show (1:G8)>0 by decide,fE]
   by_cases h:i<0
   ·simp only [h,fE]<;>omega
   ·simp only [h,lG]<;>omega
 ·cases hi with
  |none=>simp [cP,HT.sIx]
  |some i=>
   simp only [cP,HT.sIx,oH,show (1:G8)>0 by decide,fE]
   by_cases h:i<0
   ·simp only [h,fE]<;>omega
   ·simp only [h,lG]<;>omega
theorem XZ (its:G0 G7)(lo hi:D4 G8):slicePick its.toArray lo hi none=((its.drop (HT.sIx its.length 0 lo)).take (HT.sIx its.length its.length hi-HT.sIx its.length 0 lo)).toArray:=by
 obtain⟨h1,h2,h3⟩:=GD lo hi its.toArray.size;unfold slicePick;rw [h1,h2,h3];simp only [sliceRange_one,pick_run,R9]<;>rfl
def jaI (K:G6):V->D4 G8->D4 G8->Hp->VK->Prop:=λx lo hi H Q=> ∃a xs,x= .ref a/\SqL K H a xs/\ ∀p,H p=none->Q (.ref p) (upd H p (.lst (Lt xs lo hi)))
theorem EL:SlR X (jaI X.K):=by
 intro pins s σ H x v vl vu lo hi sl Q I rx hs pl pu h;obtain⟨a,xs,rfl,hx,q⟩:=h;cases rx;obtain⟨its,r,ht,hz⟩:=I.list hx;have hlen:=r.length;refine⟨"list",_,slot_list_getitem.lookup,ht.isList.typeIs,?_⟩;refine wpAny_getItem_list_slice ht.isList hs pl pu .none (by simp) ?_ (by rw [R9]<;>omega);rw [XZ,<-hlen];refine⟨.ref s.heap.objs.size,_,I.laid (t':=s.toks) (o:= .lst (Lt xs lo hi)) (λb ob q=>P7 _ q) (P5 _) ?_,rfl,q _ (I.hok.fresh (P5 _))⟩;exact⟨T5 (Vu xs lo hi) hz,_,0,(r.drop (HT.sIx xs.length 0 lo)).take (HT.sIx xs.length xs.length hi-HT.sIx xs.length 0 lo),T3 _ rfl⟩
theorem call_len_seq:CallR X (.builtin "len") (λxs H Q=> ∃p ys,xs= [.ref p]/\(SqL X.K H p ys\/SqT X.K H p ys)/\Q (.int ys.length) H):=by
 intro pins s σ H xs us Q I r h;obtain⟨p,ys,rfl,hq,q⟩:=h;obtain⟨u,rfl,rx⟩:=ZY r;cases rx;have hn:=Gw;rcases hq with hq|hq
 ·obtain⟨its,r',pl,hz⟩:=I.list hq;have hlen:=r'.length;exact Calls.call_len_list pl.isList (by simp only [R9]<;>omega) ⟨.int ys.length,H,I.tok _,⟨s.toks+1,by rw [R9,hlen]⟩,q⟩
 ·obtain⟨its,r',pl,hz⟩:=I.tuple hq;have hlen:=r'.length;exact len_tuple pl (by simp only [R9]<;>omega) ⟨.int ys.length,H,I.tok _,⟨s.toks+1,by rw [R9,hlen]⟩,q⟩
theorem call_tuple_of:CallR X (.type "tuple") (λxs H Q=> ∃p ys,xs= [.ref p]/\((SqL X.K H p ys/\ ∀l,H l=none->Q (.ref l) (upd H l (.tup ys)))\/(SqT X.K H p ys/\Q (.ref p) H))):=by
 intro pins s σ H xs us Q I r h;obtain⟨p,ys,rfl,h⟩:=h;obtain⟨u,rfl,rx⟩:=ZY r;cases rx;rcases h with ⟨hq,q⟩|⟨hq,q⟩
 ·obtain⟨its,r',pl,hz⟩:=I.list hq;have hlen:=r'.length;refine call_tuple_list pl.isList (λh' kp=> ?_) (by simp only [R9]<;>omega);have I1:Inv X pins σ H {s with heap:=h'}:=I.kept (t':=s.toks) kp;have I2:Inv X pins σ (upd H h'.objs.size (.tup ys)) {s with heap:=h'.push {cls:= .type "tuple",data:= .seq its.toArray}}:=
   I1.laid (t':=s.toks) (λb o e=>P7 _ e) (P5 _) (show ObjOk X.prog X.w _ _ _ (.tup ys) from ⟨hz,its,r',IsTupN.new _ _⟩)
  exact⟨.ref h'.objs.size,_,I2,rfl,q _ (I1.hok.fresh (P5 _))⟩
 ·obtain⟨its,r',pl,hz⟩:=I.tuple hq;exact call_tuple_same pl ⟨.ref p,H,I,rfl,q⟩
def tyV (K:G6)(T:U1)(x:V)(H:Hp):Prop:=match x with
 | .str _=>T= "str"
 | .int _=>T= "int"
 | .ref p=>(T= "list" /\ ∃xs,SqL K H p xs)\/(T= "tuple" /\ ∃o,K.lookup p=some o/\o.cls= .type "tuple" /\o.dict=none)\/
  (T= "dict" /\((∃kvs,H p=some (.dK kvs))\/ ∃kvs,H p=some (.dT kvs)))\/(T= "set" /\ ∃S n,H p=some (.set S n))
 |_=>False
theorem HW {pins:G0 (P4×Obj)}{σ:St}{H:Hp}{s:P0}{T:U1}{x:V}{v:G7}(I:Inv X pins σ H s)(r:RelV x v)(ty:tyV X.K T x H):
 s.TypeIs v T/\ ∀a,v= .ref a-> ∃ob,s.heap.get? a=some ob/\ob.dict=none:=by
 cases x with
 |str z=>
  obtain⟨t,rfl⟩:=r;cases (show T= "str" from ty);exact⟨z6 s z t,λ_ e=>nomatch e⟩
 |int i=>
  obtain⟨t,rfl⟩:=r;cases (show T= "int" from ty);exact⟨iR s i t,λ_ e=>nomatch e⟩
 |ref p=>
  cases r;rcases ty with ⟨rfl,xs,hq⟩|⟨rfl,o,hk,hc,hd⟩|⟨rfl,hk⟩|⟨rfl,S,n,hk⟩
  ·obtain⟨its,_,pl,_⟩:=I.list hq;refine⟨pl.isList.typeIs,λa e=> ?_⟩;cases e;obtain⟨o,n,e,c,hd,_⟩:=pl;exact⟨o,e,hd⟩
  ·refine⟨⟨o,I.kIn p o hk,hc⟩,λa e=> ?_⟩;cases e;exact⟨o,I.kIn _ o hk,hd⟩
  ·have z: ∃o,s.heap.get? p=some o/\o.ExactDict:=by
    rcases hk with ⟨kvs,hk⟩|⟨kvs,hk⟩
    ·obtain⟨_,_,_,_,o,_,_,e,ex,_⟩:=I.hok p _ hk;exact⟨o,e,ex⟩
    ·obtain⟨_,_,_,_,o,_,_,e,ex,_⟩:=I.hok p _ hk;exact⟨o,e,ex⟩
   obtain⟨o,e,ex⟩:=z;refine⟨⟨o,e,ex.1⟩,λa e2=> ?_⟩;cases e2;exact⟨o,e,ex.2.1⟩
  ·obtain⟨o,_,_,_,e,ex,_⟩:=I.hok p _ hk;refine⟨⟨o,e,ex.1⟩,λa e2=> ?_⟩;cases e2;exact⟨o,e,ex.2.1⟩
 |_=>exact False.elim ty
def tBM (K:G6)(T:U1)(r:V->G0 V->Hp->VK->Prop)(to:TE)(t:TA):TE:=λσ H Q=>to σ H λx H1=>tyV K T x H1/\t σ H1 λxs H2=>r x xs H2 Q
variable {o e:T1}{es:G0 T1}{to:TE}{t:TA}{name:Str}{apos cpos:Pos}{T id:U1}{r:V->G0 V->Hp->VK->Prop}
theorem EM (pa:PlainAttrs T)(slot:Slot T name id)(hty:G0g (.builtin id)=pure (.type "method_descriptor"))(hm:MtR X id r)(ho:PE X o to)(ha:PA X (e::es) t)
 (hbase:W4 o name X.env (O5 o X.env)=O5 o X.env:=by rfl)
 (hfew:((E7 cpos (D6 (e::es) X.env)).all (λx=> !x.1)&&(dW cpos (aH [] X.env)).all (λx=>x.1.isSome)
  &&decide ((e::es).length+([]:G0 Y1).length+(if ([]:G0 Y1).isEmpty then 0 else 1)<30))=true:=by rfl)
 (hline:(apos.endLine==cpos.line)=true:=by rfl)(hs:D6 (e::es) X.env=(false,O5 e X.env)::D6 es X.env:=by rfl)(hplain:(E7 cpos (D6 es X.env)).any (·.1)=false:=by rfl):
 PE X (.Call (.Attribute o name apos) (e::es) [] cpos) (tBM X.K T r to t):=by
 intro pins s σ H Q I h;refine iT hbase hfew hline rfl (thn (ho pins s σ H _ I h) λv s1 ⟨x,H1,I1,r1,ty,q1⟩=> ?_);obtain⟨h1,h2⟩:=HW I1 r1 ty;refine⟨T,id,pa,slot,hty,h1,h2,?_⟩;have hA:=ha cpos pins s1 σ H1 _ I1 q1;rw [hs] at hA ⊢;refine cW (by show (false||(E7 cpos (D6 es X.env)).any (·.1))=false;rw [hplain]<;>rfl) (dX ?_);exact thn hA λus s2 ⟨vs,H2,I2,r2,q2⟩=>hm pins s2 σ H2 x vs v us Q I2 r1 r2 q2
end
def MtM (X:Cx)(id:U1)(r:V->G0 V->Hp->VK->Prop):Prop:=
 ∀ (pins:G0 (P4×Obj)) (s:P0) (σ:St) (H:Hp) (x:V) (xs:G0 V) (v:G7) (us:G0 G7) (Q:VK),Inv X pins σ H s->RelV x v->Vals xs us->r x xs H Q->
  S6 (T4 X.prog X.w) X.A (call (.builtin id) (v::us)) (EP X pins σ Q) X.xe s
theorem Vals.one: ∀ {x:V} {us:G0 G7},Vals [x] us-> ∃u,us= [u]/\RelV x u
 |_,_,.cons r .nil=>⟨_,rfl,r⟩
theorem Vals.rep {xs:G0 V}{us:G0 G7}(h:Vals xs us): ∀k:G5,Vals (N3 k xs).flatten (N3 k us).flatten
 |0=> .nil
 |k+1=>by
  rw [Q7,Q7,Y2,Y2];exact Vals.append h (Vals.rep h k)
theorem Vv (its:G0 G7): ∀ (k:G5) (acc:G0 G7),
 p0 (λx1 x2=>x1++x2) acc.toArray (N3 k its.toArray)=(acc++(N3 k its).flatten).toArray
 |0,acc=>by simp
 |k+1,acc=>by
  have e:acc.toArray++its.toArray=(acc++its).toArray:=by simp
  have e2:(acc++its)++(N3 k its).flatten=acc++(N3 (k+1) its).flatten:=by
   rw [Q7,Y2,D3]
  rw [<-e2,<-Vv its k (acc++its),<-e,Q7,o6]
section
variable {X:Cx}{pins:G0 (P4×Obj)}{σ:St}{H:Hp}{s:P0}{l b:P4}{xs ys zs:G0 V}
theorem Inv.lset {its its':G0 G7}{n:G5}{f:N8 G7->N8 G7}{t':G5}(I:Inv X pins σ H s)(hH:H l=some (.lst xs))
 (e:s.heap.get? l=some {cls:= .type "list",data:= .seq its.toArray n})(hf:f its.toArray=its'.toArray)(hv:Vals ys its')(hz:ys.length<=sizeLine):
 Inv X pins σ (upd H l (.lst ys)) {s with heap:=s.heap.update l (aA f),toks:=t'}:=by
 have q:=PySem.IsL.update e f;rw [hf] at q;refine I.write (x:=l) (e:=l) (by rw [hH];exact trivial) (.inl rfl) (λb' u hb hu=>(iQ s.heap (aA f) (E8 hb)).trans hu) ⟨_,q⟩ ?_;exact⟨hz,its',_,hv,q⟩
theorem Inv.lnew {its:G0 G7}{t':G5}(I:Inv X pins σ H s)(hv:Vals ys its)(hz:ys.length<=sizeLine):
 Inv X pins σ (upd H s.heap.objs.size (.lst ys)) {s with heap:=s.heap.push {cls:= .type "list",data:= .seq its.toArray},toks:=t'}:=
 I.laid (λ_ _ q=>P7 _ q) (P5 _) ⟨hz,its,0,hv,T3 _ rfl⟩
theorem Inv.fresh (I:Inv X pins σ H s):H s.heap.objs.size=none:=I.hok.fresh (P5 _)
theorem Inv.lstM (I:Inv X pins σ H s)(hH:H l=some (.lst xs)):xs.length<=sizeLine/\ ∃ (its:G0 G7) (n:G5),Vals xs its/\xs.length=its.length/\s.heap.get? l=some {cls:= .type "list",data:= .seq its.toArray n}:=by
 obtain⟨z,its,n,r,e⟩:=I.hok l _ hH;exact⟨z,its,n,r,r.length,e⟩
theorem LU {n:G5}(h:n<=sizeLine):bZ n=false:=by
 unfold bZ;exact D5 (by omega)
end
section
variable {X:Cx}
def EN:V->G0 V->Hp->VK->Prop:=λx vs H Q=> ∃l xs y,x= .ref l/\vs= [y]/\H l=some (.lst xs)/\xs.length<sizeLine/\Q .non (upd H l (.lst (xs++ [y])))
theorem BB:MtM X "list.append" EN:=by
 intro pins s σ H x vs v us Q I rx rv h;obtain⟨l,xs,y,rfl,rfl,hH,hz,q⟩:=h;cases rx;obtain⟨u,rfl,ru⟩:=rv.one;obtain⟨z,its,n,r,hl,e⟩:=I.lstM hH;refine fX F.slot_list_append ⟨_,e,rfl⟩ F.entry_list_append (F.args_list_append_2 _ _) (PySem.list_append l its.toArray n u (by rw [R9];omega)) ⟨e,?_⟩;refine⟨.non,_,I.lset (its':=its++ [u]) hH e (by simp) (r.append (.cons ru .nil)) ?_,rfl,q⟩;rw [P2,E2];omega
def jaJ:R2:=λx y H Q=> ∃l b xs zs,x= .ref l/\y= .ref b/\H l=some (.lst xs)/\H b=some (.lst zs)/\xs.length+zs.length<=sizeLine/\ ∀p,H p=none->Q (.ref p) (upd H p (.lst (xs++zs)))
theorem HX:OpR X (E9 .Add) jaJ:=by
 intro pins s σ H x y v u Q I rx ry h;obtain⟨l,b,xs,zs,rfl,rfl,hH,hB,hz,q⟩:=h;cases rx;cases ry;obtain⟨z,its,n,r,hl,e⟩:=I.lstM hH;obtain⟨z2,its2,n2,r2,hl2,e2⟩:=I.lstM hB;refine PySem.P.add_list e e2 ?_ (by rw [R9,R9];omega);have ea:its.toArray++its2.toArray=(its++its2).toArray:=by simp
 rw [ea];exact⟨.ref _,_,I.lnew (t':=s.toks) (r.append r2) (by rw [P2];omega),rfl,q _ I.fresh⟩
def jaK:R2:=λx y H Q=> ∃l k xs,x= .ref l/\y= .int k/\H l=some (.lst xs)/\ -(2^63)<=k/\k<2^63/\xs.length*k.toNat<=sizeLine/\
 ∀p,H p=none->Q (.ref p) (upd H p (.lst (N3 k.toNat xs).flatten))
theorem Dq {α:Type}(xs:G0 α)(k:G5):(N3 k xs).flatten.length=k*xs.length:=by
 induction k with
 |zero=>simp
 |succ k ih=>rw [Q7,Y2,P2,ih,fG,cX]
theorem HY:OpR X (E9 .Mult) jaK:=by
 intro pins s σ H x y v u Q I rx ry h;obtain⟨l,k,xs,rfl,rfl,hH,h1,h2,hz,q⟩:=h;cases rx;obtain⟨t,rfl⟩:=ry;obtain⟨z,its,n,r,hl,e⟩:=I.lstM hH;have hlen:its.toArray.size*k.toNat<=sizeLine:=by rw [R9,<-hl];exact hz
 have hcap: ¬its.toArray.size*k.toNat>(2^63-1) / 8:=by
  have:(sizeLine:G5)<=(2^63-1) / 8:=by decide
  omega
 have hfit: ¬ (!fY k)=true:=by
  rw [p7 h1 h2];exact R0
 have hlong: ¬bZ (its.toArray.size*k.toNat)=true:=by
  rw [LU hlen];exact R0
 have hnew:p0 (λx1 x2=>x1++x2) #[] (N3 (if its.toArray.isEmpty=true then 0 else k.toNat) its.toArray)=(N3 k.toNat its).flatten.toArray:=by
  have f0: ∀m:G5,p0 (λx1 x2=>x1++x2) #[] (N3 m its.toArray)=(N3 m its).flatten.toArray:=λm=>by
   have:=Vv its m [];rw [A3] at this;exact this
  rw [f0];cases its with
  |nil=>simp
  |cons a r'=>rw [D9 (by simp)]
 refine gG (T:= "list") (U:= "int") (by decide) ⟨_,e,rfl⟩ (λs'=>iR s' k t) noFill_list_mul o7 eN repeat_list F.slot_int_index.lookup
  (fX eN (iR s k t) oI (nI _ _) (int___rmul___int_list k t l its.toArray n)
   ⟨e,rfl,⟨_,e,rfl⟩,fX F.slot_list_mul ⟨_,e,rfl⟩ F.entry_list_mul (F.args_list_mul_2 _ _) (AutoListH.list___mul___list_int_3 l its.toArray n k t hfit hcap hlong) ⟨e,?_⟩⟩)
 rw [hnew];exact⟨.ref _,_,I.lnew (t':=s.toks) (r.rep k.toNat) (by rw [Dq,fH];exact hz),rfl,q _ I.fresh⟩
end
end L2
namespace Att
open PySem PySem.W PySem.Calls PyProof.Rows
theorem Vw {P:G0h}{h:L6}: ∀ (ns:G0 G8) (vs:G0 G7),WellAll P h vs (ns.map WData.int)->Q9 vs ns:=by
 intro ns
 induction ns with
 |nil=>
  intro vs w;rw [U7] at w;cases w;exact .nil
 |cons n ns ih=>
  intro vs w;rw [M1] at w;cases w with
  |cons a b=>
   cases a;exact .cons _ _ (ih _ b)
theorem BC {l:OpenLaw}{n:G5}(hn:l.most=some n){P:G0h}{h:L6}{args:G0 WData}{vals:G0 G7}
 (hpre:l.row.toRowW.claim.pre args=true)(hwl:WellAll P h vals args):
 ∃a vs ns,vals= [X5 a]/\args= [WData.list (ns.map WData.int)]/\h.get? a=some {cls:= .type "list",data:= .seq vs.toArray}/\Q9 vs ns/\ns.length<=n:=by
 have hsh:WShape.hasAll [] args [.list .int]=true:=(pre_splitW hpre).1;have hc:l.pre.holds [] {args:=args}=true:=(pre_splitW hpre).2;obtain⟨d,r,rfl,h1,h2⟩:=hasAllW_cons hsh;obtain rfl:=hasAllW_nil h2;obtain⟨xs,rfl,h3⟩:=hasW_list h1;obtain⟨ns,rfl⟩:=items_int h3;have hlen:ns.length<=n:=by
  unfold OpenLaw.pre at hc;have h4:(WTm.not (.lt (.lit (.int (n:G8))) (.len (.arg 0)))).holds [] {args:= [.list (ns.map .int)]}=true:=by
   have h4:=(holds_andW hc).1;rw [hn] at h4;exact h4
  have h5:=condW_of h4 (w_not (w_lt w_lit (w_len_list (w_arg rfl))));rw [G1] at h5;refine dL λq=> ?_
  have q':(n:G8)<((ns.length:G5):G8):=by omega
  first
   |(rw [G9 q'] at h5;exact absurd h5 (by decide))
   |(simp at h5;omega)
 cases hwl with
 |cons w1 w2=>
  cases w2;cases w1 with
  |list ho hall=>exact⟨_,_,ns,rfl,rfl,ho,Vw ns _ hall,hlen⟩
theorem BD (l:OpenLaw)(args:G0 WData):l.row.toRowW.claim.post args (.bool true) args=true:=
 postW_of (r:=l.row.toRowW) (X:=(true==true))
  (show WShape.has [] (.bool true) .bool=true by first|rfl|decide|simp [WShape.has,WShape.arms,WShape.armsAll])
  (show (WTm.eq .res (.lit (.bool true))).value [] {args:=args,res:=some (.bool true),after:=args}=some (.bool (true==true)) from w_eq_bool (w_res rfl) w_lit) rfl
theorem attach_call {l:OpenLaw}{n:G5}{q:M0}{loose:G0 Str}{XP:(Str->D4 G7)->L6->Prop}{YP:C6->L6->Prop}{d:DefRec}
 (hn:l.most=some n)(hdf:d.params.defaults= [])
 (call: ∀ (w:C6) (s₀ s₁:P0) (mg mb:Str->D4 G7) (fa:P4) (o:Obj) (pm cd doc:G7) (a:P4) (vs:G0 G7) (ns:G0 G8),
  Ground q loose [] XP w s₀ mg mb s₁.heap->YP w s₁.heap->
  s₁.heap.get? fa=some o->o.data= .func (docDef d.name d.params d.body d.scope pm cd doc)->s₁.heap.CodeRec cd d.name->mg d.name=some (.ref fa)->
  s₁.heap.get? a=some {cls:= .type "list",data:= .seq vs.toArray}->Q9 vs ns->ns.length<=n->s₁.gens= #[]->
  fC (T4 l.prog w) mB (.call (.ref fa) ⟨[.ref a],[]⟩) (λr s'=>r= .ok (.ret (.bool true))/\OldK s₁.heap s'.heap/\s'.os=s₁.os/\gO s'.gens) s₁):
 WalkO q loose XP YP l.row.toRowW d [] (λf vs=>z8 f vs):=by
 intro w s₀ s₁ mg mb G Y fa o pm cd doc dV kV ho hd hcd hD hmg hg args vals as hpre hlay hrd hwl hlo;obtain rfl:dV= .none:=Dflts.none hD hdf;obtain rfl:kV= .none:=Dflts.noKw hD;obtain⟨a,vs,ns,rfl,rfl,hobj,hints,hlen⟩:=BC hn hpre hwl;refine enter_call (nD (call w s₀ s₁ mg mb fa o pm cd doc a vs ns G Y ho (fd_plain hd) hcd hmg hobj hints hlen hg) λr s' hq=> ?_);obtain⟨rfl,h2,h3,h4⟩:=hq;exact⟨.inl ⟨.bool true,.bool true,[],rfl,λ_=>rfl,.bool true,BD l _,λ_=>⟨List.Pairwise.nil,λ_ hm=>(nomatch hm)⟩⟩,h2,h3,h4⟩
end Att
namespace L2
open PySem PySem.Spec PyProof.Rows
theorem GE: ∀ {vs:G0 G7} {ns:G0 G8},Q9 vs ns->Vals (ns.map V.int) vs
 |_,_,.nil=> .nil
 |_,_,.cons n t h=> .cons ⟨t,rfl⟩ (GE h)
def Only (H:Hp):Prop:= ∀b,H b=none\/ ∃o xs,H b=some (.frz o (.lst xs))
def Jk (s:C9):Arguments:=match s with
 | .FunctionDef _ a _ _ _ _ _ _ _ _=>a
 |_=> {posonlyargs:= [],args:= [],vararg:=none,kwonlyargs:= [],kw_defaults:= [],kwarg:=none,defaults:= []}
def wR (s:C9):G0 C9:=match s with
 | .FunctionDef _ _ b _ _ _ _ _ _ _=>b
 |_=> []
def jd (s:C9):U5:=match s with
 | .FunctionDef _ _ _ _ _ _ sc _ _ _=>sc
 |_=> {kind:= .function,names:= [],isGenerator:=false,isCoroutine:=false}
abbrev CX0:CXT:=λ_ _ _ _ _ _=>False
abbrev E0:XK:=λ_ _ _=>False
variable {X:Cx}
theorem xu:Bx CX0 X E0:=λ_ _ _ _ _ _ _ h=>h.elim
structure Fun (K:G6)(x qual:Str)(st:C9)(f:P4)(fd:R6):Prop where
 ex: ∃ (oc:G7) (od:D4 P4) (kV doc pm:G7) (an:D4 P4) (cdv ct:G7) (osl:N8 (D4 G7)),
  fd=bL x qual (Jk st) (wR st) (jd st) .none kV doc pm an cdv ct/\K.lookup f=some ⟨oc,od,.func fd,osl⟩/\lF K cdv qual=true
 kp:aE K (.ref f)=true
section
variable {P:M0}{w:C6}{K:G6}{mg:Str->D4 G7}{base:L6}
variable {qual:Str}
theorem Fun.ok {x:Str}{st:C9}{f:P4}{fd:R6}{N ps:G0 Str}{k:G5}{sp:Sp}(F:Fun K x qual st f fd)(S:FnScope N ps (jd st))(len: ∀vs H Q E,sp vs H Q E->vs.length=ps.length)
 (hbody: ∀ (cdv:G7) (A:C5) (outer:G0 Env) (s:P0) (H:Hp) (vs:G0 V) (Q:VK) (E:XK),Room k (A.deeper (fT qual (jd st) s.heap.objs.size f cdv))->sp vs H Q E->
  ∃t,PSs (LK CX0 P w K mg base N qual (jd st) f cdv A outer s H E).nox (wR st) t/\t {nx:=λ_ H'=>Q .non H',rt:=Q} (start N vs) H):FnOk P w K mg base CX0 (k+1) f fd ps sp:=by
 obtain⟨oc,od,kV,doc,pm,an,cdv,ct,osl,rfl,lk,hcd⟩:=F.ex;refine xo lk hcd S len λA outer s H vs Q E hr hsp=> ?_
 obtain⟨t,h,q⟩:=hbody cdv A outer s H vs Q E hr hsp;exact⟨t,h.nox,q⟩
theorem Fun.binds {x:Str}{st:C9}{f:P4}{fd:R6}{ps:G0 Str}(F:Fun K x qual st f fd)
 (h: ∀ (kV doc pm:G7) (an:D4 P4) (cdv ct:G7) (us:G0 G7),us.length=ps.length->tY (bL x qual (Jk st) (wR st) (jd st) .none kV doc pm an cdv ct) ⟨us,[]⟩=pure (ps.zip us)):Binds K fd ps []:=by
 obtain⟨oc,od,kV,doc,pm,an,cdv,ct,osl,rfl,lk,hcd⟩:=F.ex;exact .all (h kV doc pm an cdv ct)
theorem HZ {x:Str}{st:C9}{f:P4}{oc:G7}{od an:D4 P4}{osl:N8 (D4 G7)}{kV doc pm cdv ct:G7}(l:K.lookup f=some ⟨oc,od,.func (bL x qual (Jk st) (wR st) (jd st) .none kV doc pm an cdv ct),osl⟩)
 (c:lF K cdv qual=true)(k:aE K (.ref f)=true):Fun K x qual st f (bL x qual (Jk st) (wR st) (jd st) .none kV doc pm an cdv ct):=⟨⟨oc,od,kV,doc,pm,an,cdv,ct,osl,rfl,l,c⟩,k⟩
end
theorem ju {n:G5}(h:n<=1000):n<sizeLine:=U2 h (by decide)
theorem zA {A B:Prop}(h:B):if false=true then A else B:=by
 rw [D9 R0];exact h
theorem wc {A B:Prop}(h:A):if true=true then A else B:=by
 rw [D8 rfl];exact h
theorem Xs {c A B:Prop}[Decidable c](h1:c->A)(h2: ¬c->B):if c then A else B:=by
 by_cases h:c
 ·rw [D8 h];exact h1 h
 ·rw [D9 h];exact h2 h
section
variable {κ:Type}[DecidableEq κ]
def Xa (kvs:G0 (κ×V))(k:κ):D4 V:=(kvs.find? λkv=>decide (kv.1=k)).map (·.2)
def RU (kvs:G0 (κ×V))(k:κ)(v:V):G0 (κ×V):=
 if (kvs.any λkv=>decide (kv.1=k))=true then kvs.map (λkv=>if kv.1=k then (kv.1,v) else kv) else kvs++ [(k,v)]
theorem Vf {p:κ×V}{r:G0 (κ×V)}{k:κ}(e:p.1=k):Xa (p::r) k=some p.2:=by simp [Xa,V8,e]
theorem Vg {p:κ×V}{r:G0 (κ×V)}{k:κ}(e: ¬p.1=k):Xa (p::r) k=Xa r k:=by simp [Xa,V8,e]
theorem Qa (k:κ): ∀kvs:G0 (κ×V),(kvs.any λkv=>decide (kv.1=k))=(Xa kvs k).isSome
 | []=>rfl
 |p::r=>by
  rw [dQ]
  by_cases e:p.1=k
  ·simp only [Vf e,G9 e,Bool.true_or,mV]
  ·rw [Vg e,D5 e,Bool.false_or];exact Qa k r
theorem Vx (kvs:G0 (κ×V))(k:κ)(v:V):(RU kvs k v).length<=kvs.length+1:=by
 unfold RU;split
 ·rw [G1];omega
 ·rw [P2,R7,B9];omega
theorem LV {kvs:G0 (κ×V)}{k:κ}(v:V)(h:Xa kvs k=none):RU kvs k v=kvs++ [(k,v)]:=by
 unfold RU;rw [Qa,h];exact D9 (by decide)
theorem KV.val {kvs:G0 (κ×V)}{vs:G0 (κ×G7)}(r:KV kvs vs)(k:κ):RelO (Xa kvs k) (mC vs k):=by
 unfold KV at r
 induction r with
 |nil=>exact Z7
 | @cons p q ps qs h t ih=>
  obtain⟨h1,h2⟩:=h
  by_cases e:p.1=k
  ·have e':q.1=k:=h1.symm.trans e;have b:mC (q::qs) k=some q.2:=by simp [mC,V8,e']
   rw [Vf e,b];exact h2
  ·have e': ¬q.1=k:=λz=>e (h1.trans z)
   have b:mC (q::qs) k=mC qs k:=by simp [mC,V8,e']
   rw [Vg e,b];exact ih
theorem KV.any {kvs:G0 (κ×V)}{vs:G0 (κ×G7)}(r:KV kvs vs)(k:κ):(kvs.any λkv=>decide (kv.1=k))=vs.any λkv=>decide (kv.1=k):=by
 unfold KV at r
 induction r with
 |nil=>rfl
 |cons h t ih=>rw [dQ,dQ,ih,h.1]
theorem KV.repl {kvs:G0 (κ×V)}{vs:G0 (κ×G7)}(r:KV kvs vs)(k:κ){y:V}{u:G7}(ry:RelV y u):
 KV (kvs.map λkv=>if kv.1=k then (kv.1,y) else kv) (vs.map λkv=>if kv.1=k then (kv.1,u) else kv):=by
 unfold KV at r ⊢
 induction r with
 |nil=>exact .nil
 | @cons p q ps qs h t ih=>
  rw [M1,M1];refine .cons ?_ ih;obtain⟨h1,h2⟩:=h
  by_cases e:p.1=k
  ·rw [D8 e,D8 (h1.symm.trans e)];exact⟨h1,ry⟩
  ·rw [D9 e,D9 (λz=>e (h1.trans z))];exact⟨h1,h2⟩
theorem KV.put {kvs:G0 (κ×V)}{vs:G0 (κ×G7)}(r:KV kvs vs)(k:κ){y:V}{u:G7}(ry:RelV y u):KV (RU kvs k y) (G0i vs k u):=by
 unfold RU G0i;rw [r.any k]
 by_cases e:(vs.any λkv=>decide (kv.1=k))=true
 ·rw [D8 e,D8 e];exact r.repl k ry
 ·rw [D9 e,D9 e];exact Paired.snoc r ⟨rfl,ry⟩
theorem KV.length {kvs:G0 (κ×V)}{vs:G0 (κ×G7)}(r:KV kvs vs):kvs.length=vs.length:=Paired.length r
end
variable {P:M0}{w:C6}
theorem LW {k:Key}{u:G7}(r:RelV (kV k) u):(zU P w).is k u=true:=by
 cases k with
 |inl i=>obtain⟨t,e⟩:=(show ∃t,u=cN i t from r);subst e;exact Dm P w i t
 |inr x=>obtain⟨t,e⟩:=(show ∃t,u=l8 x t from r);subst e;exact Do P w x t
theorem GF: ∀ {ks:G0 Key} {us:G0 G7},Vals (ks.map kV) us->ItemsAre (zU P w) ks us
 | [],_,r=>by rw [U7] at r;cases r;exact .nil
 |k::ks,_,r=>by
  rw [M1] at r;cases r with
  |cons h t=>exact .cons (LW h) (GF t)
abbrev KT (H:Hp):G0 (G0 Key×V)->G0 (G0 Key×P4×G7)->Prop:=Paired λp q=>p.1=q.1/\H q.2.1=some (.tup (p.1.map kV))/\RelV p.2 q.2.2
variable {H:Hp}
theorem KT.val {kvs:G0 (G0 Key×V)}{xs:G0 (G0 Key×P4×G7)}(r:KT H kvs xs)(k:G0 Key):RelO (Xa kvs k) ((sL xs k).map (·.2)):=by
 induction r with
 |nil=>exact Z7
 | @cons p q ps qs h t ih=>
  obtain⟨h1,_,h2⟩:=h
  by_cases e:p.1=k
  ·have e':q.1=k:=h1.symm.trans e;have b:sL (q::qs) k=some q.2:=by simp [sL,V8,e']
   rw [Vf e,b];exact h2
  ·have e': ¬q.1=k:=λz=>e (h1.trans z)
   have b:sL (q::qs) k=sL qs k:=by simp [sL,V8,e']
   rw [Vg e,b];exact ih
section
variable {P:M0}{w:C6}{H:Hp}{h:L6}{a:P4}
theorem Ka {u:HO}(ok:HOk P w H h)(e:Rd H a u):ObjOk P w H h a u:=e.ok ok
theorem BE {kvs:G0 (Key×V)}(ok:HOk P w H h)(e:Rd H a (.dK kvs)):kvs.length<=sizeLine/\(a==aJ)=false/\ ∃vs,KV kvs vs/\h.DictOf (zU P w) a vs:=
 show ObjOk P w H h a (.dK kvs) from Ka ok e
theorem Kb {kvs:G0 (Key×V)}(ok:HOk P w H h)(e:H a=some (.dK kvs)):kvs.length<=sizeLine/\(a==aJ)=false/\ ∃vs,KV kvs vs/\h.DictOf (zU P w) a vs:=BE ok (.inl e)
theorem AQ {ks:G0 Key}(ok:HOk P w H h)(e:H a=some (.tup (ks.map kV))):(tupleKind (zU P w)).is h ks a:=by
 obtain⟨_,its,r,o,h1,h2,_,n,h3⟩:=(show ObjOk P w H h a (.tup (ks.map kV)) from ok a _ e);exact⟨o,its.toArray,n,h1,h2,h3,by simpa using GF r⟩
theorem EO {kvs:G0 (G0 Key×V)}(ok:HOk P w H h)(e:Rd H a (.dT kvs)):kvs.length<=sizeLine/\(a==aJ)=false/\
 ∃xs,KT H kvs xs/\h.DictOfH (tupleKind (zU P w)) a xs:=by
 obtain⟨z,y,xs,r,o,es,ep,h1,h2,h3,h4,h5⟩:=(show ObjOk P w H h a (.dT kvs) from Ka ok e);refine⟨z,y,xs,r,o,es,ep,h1,h2,h3,h4,λx hx=> ?_,h5⟩;have all: ∀ {l:G0 (G0 Key×V)} {m:G0 (G0 Key×P4×G7)},KT H l m-> ∀x∈m,(tupleKind (zU P w)).is h x.1 x.2.1:=by
  intro l m q
  induction q with
  |nil=>intro x hx;exact nomatch hx
  | @cons p q ps qs hq t ih=>
   intro x hx;rcases T6.mp hx with e|hx
   ·subst e;exact AQ ok (by rw [<-hq.1];exact hq.2.1)
   ·exact ih x hx
 exact all r x hx
end
def DGet (H:Hp)(a:P4)(y:V)(r:D4 V):Prop:=
 (∃kvs k,Rd H a (.dK kvs)/\y=kV k/\r=Xa kvs k)\/ ∃kvs k b,Rd H a (.dT kvs)/\y= .ref b/\H b=some (.tup (k.map kV))/\r=Xa kvs k
variable {a:P4}
theorem DGet.k {kvs:G0 (Key×V)}{k:Key}(e:H a=some (.dK kvs)):DGet H a (kV k) (Xa kvs k):= .inl ⟨kvs,k,.inl e,rfl,rfl⟩
section
variable {X:Cx}{pins:G0 (P4×Obj)}{σ:St}{H:Hp}{s:P0}{a:P4}{y v:V}{u r:G7}{o:D4 V}{A:C5}{E:G7->P0->Prop}
theorem Inv.big (I:Inv X pins σ H s):aJ<s.heap.objs.size:=by
 have h:L9<s.heap.objs.size:=(I.mod.glob.keeps I.bk).lt;exact Y3 (by decide) h
theorem BF {Q:G7->P0->Prop}(hu:A.units+1<cLine)(I:Inv X pins σ H s)(g:DGet H a y (some v))(ry:RelV y u)(h: ∀w' s',Inv X pins σ H s'->RelV v w'->Q w' s'):
 S6 (T4 X.prog X.w) A (fF (.ref a) u) Q E s:=by
 rcases g with ⟨kvs,k,e,ey,l⟩|⟨kvs,k,b,e,ey,eb,l⟩
 ·subst ey;obtain⟨z,hd,vs,rel,dd⟩:=BE I.hok e;obtain⟨w',hw,rw'⟩:=RelO.some_of (v:=v) (o:=mC vs k) (by rw [l];exact rel.val k);exact wpAny_getItem_of (LW ry) dd.mapOf hw (h w' _ (I.tok _) rw')
 ·subst ey;cases (show u=X5 b from ry);obtain⟨z,hd,xs,rel,dd⟩:=EO I.hok e;obtain⟨w',hw,rw'⟩:=RelO.some_of (v:=v) (o:=(sL xs k).map (·.2)) (by rw [l];exact rel.val k);obtain⟨p,hp,hp2⟩:=K9.mp hw;refine wpAny_getItem_heap (tupleKind_room_in1 hu) (AQ I.hok eb) dd hp ?_;rw [hp2];exact h w' _ (I.tok _) rw'
theorem BG {h':L6}{t':G5}{ob:HO}(I:Inv X pins σ H s)(mu:Mut (H a))(hs:aK a s.heap h')(he: ∃q,h'.get? a=some q)(new:ObjOk X.prog X.w (upd H a ob) h' a ob):
 Inv X pins σ (upd H a ob) {s with heap:=h',toks:=t'}:=
 I.write (x:=a) (e:=a) mu (.inl rfl) (λb q hb z=>(hs.2 b hb).trans z) he new
theorem AR {P:M0}{w:C6}{H':Hp}{h':L6}{kvs:G0 (Key×V)}{vs:G0 (Key×G7)}(z:kvs.length<=sizeLine)(hd:(a==aJ)=false)(rel:KV kvs vs)(dd:h'.DictOf (zU P w) a vs):
 ObjOk P w H' h' a (.dK kvs):=⟨z,hd,vs,rel,dd⟩
end
section
variable {X:Cx}{pins:G0 (P4×Obj)}{σ:St}{H:Hp}{s:P0}{a:P4}{kvs:G0 (Key×V)}{k:Key}{u:G7}{A:C5}{E:G7->P0->Prop}
theorem xv {Q:G7->P0->Prop}(I:Inv X pins σ H s)(e:Rd H a (.dK kvs))(h: ∀t s',Inv X pins σ H s'->Q (.int kvs.length t) s'):S6 (T4 X.prog X.w) A (call (.builtin "len") [.ref a]) Q E s:=by
 obtain⟨z,hd,vs,rel,dd⟩:=BE I.hok e;refine call_len_dict hd dd (by rw [<-rel.length];rw [lC] at z;omega) ?_;rw [<-rel.length];exact h _ _ (I.tok _)
end
def xw (i:T1):Prop:= ∀ov iv,lH i false ov iv=IO [ov,iv] (fF ov iv)
variable {prog:M0}{s:P0}{env:Env}{pos:Pos}
theorem EQ {A:C5}{E:G7->P0->Prop}{value slice:T1}{T id:U1}{Q:G7->P0->Prop}
 (hl:y9 (.type T) "__getitem__" =pure (some (.builtin id)))(hs:xw slice)
 (h:S6 (T4 prog w) A (O5 value env) (λo s₁=>S6 (T4 prog w) A (O5 slice env) (λi s₂=>s₂.TypeIs o T/\S6 (T4 prog w) A (fF o i) Q E s₂) E s₁) E s):
 S6 (T4 prog w) A (O5 (.Subscript value slice pos) env) Q E s:=by
 refine pZ (N0 h (λo s₁ h₁=>N0 h₁ (λi s₂ h₂=> ?_) λ_ _ x=>x) λ_ _ x=>x);obtain⟨hT,h₂⟩:=h₂;unfold mL;refine wpAny_bind ?_;rw [getitemInPython_of_ne hT.not_modules];refine wpAny_bind (wpAny_specialOf hT hl ?_);have fin:S6 (T4 prog w) A (lH slice false o i) (λr s₃=>S6 (T4 prog w) A (letTemporaryGo value o r >>= λ_=>pure r) Q E s₃) E s₂:=by
  rw [hs o i];exact wpAny_operating (N0 h₂ (λr s₃ h₃=>wpAny_bind (wpAny_letTemporaryGo (D2 h₃))) λ_ _ x=>x)
 first
  |exact D2 (wpAny_bind fin)
  |exact wpAny_bind (D2 (wpAny_bind fin))
  |exact wpAny_bind fin
theorem Dr {pins:G0 (P4×Obj)}{σ:St}{y:V}{o:D4 V}(I:Inv X pins σ H s)(g:DGet H a y o):s.TypeIs (.ref a) "dict" :=by
 rcases g with ⟨kvs,k,e,_,_⟩|⟨kvs,k,b,e,_,_,_⟩
 ·obtain⟨_,_,vs,_,dd⟩:=BE I.hok e;exact dd.typeIs
 ·obtain⟨_,_,xs,_,dd⟩:=EO I.hok e;exact dd.typeIs
def xx (td ty:TE):TE:=λσ H Q=>td σ H λx H1=>ty σ H1 λy H2=> ∃a v,x= .ref a/\DGet H2 a y (some v)/\Q v H2
section
variable {X:Cx}{o i e value:T1}{pos pos' tpos:Pos}{td ty tv:TE}
theorem ER (hu:X.A.units+1<cLine)(ho:PE X o td)(hi:PE X i ty)(hs:xw i):PE X (.Subscript o i pos) (xx td ty):=by
 intro pins s σ H Q I h;refine EQ PySem.F.slot_dict_getitem.lookup hs (thn (ho pins s σ H _ I h) λu s1 ⟨x,H1,I1,rx,q1⟩=>thn (hi pins s1 σ H1 _ I1 q1) λiv s2 ⟨y,H2,I2,ry,a,v,ex,g,q2⟩=> ?_);subst ex;obtain rfl:u=X5 a:=rx;exact⟨Dr I2 g,BF hu I2 g ry λw' s3 I3 rw'=>⟨v,H2,I3,rw',q2⟩⟩
end
theorem LX (h:L6)(hb:aJ<h.objs.size):ObjOk P w H (h.push {cls:= .type "dict",data:= .dict #[]}) h.objs.size (.dK []):=
 ⟨N4 _,beq_eq_false_iff_ne.mpr (E8 (M9 hb)),[],.nil,Heap.DictOf.new h⟩
def BH:G0 (TE×TE)->St->Hp->(G0 (V×V)->Hp->Prop)->Prop
 | [],_,H,Q=>Q [] H
 |(tk,tv)::r,σ,H,Q=>tk σ H λx H1=>tv σ H1 λy H2=>BH r σ H2 λps H3=>Q ((x,y)::ps) H3
abbrev VV:G0 (V×V)->G0 (G7×G7)->Prop:=Paired λp q=>RelV p.1 q.1/\RelV p.2 q.2
def PPs (X:Cx)(pos:Pos)(keys:G0 (D4 T1))(values:G0 T1)(trs:G0 (TE×TE)):Prop:=
 ∀ (pins:G0 (P4×Obj)) (s:P0) (σ:St) (H:Hp) (Q:G0 (V×V)->Hp->Prop),Inv X pins σ H s->BH trs σ H Q->
  S6 (T4 X.prog X.w) X.A (evalPairs (pairTrees keys values X.env pos)) (λvs s'=> ∃ps H',Inv X pins σ H' s'/\VV ps vs/\Q ps H') X.xe s
theorem ES:PPs X pos [] [] []:=λpins s σ H Q I h=>pairTrees_nil_walk ⟨[],H,I,.nil,h⟩
theorem LY {k v:T1}{ks:G0 (D4 T1)}{vs:G0 T1}{tk tv:TE}{trs:G0 (TE×TE)}(hk:PE X k tk)(hv:PE X v tv)(hr:PPs X pos ks vs trs):
 PPs X pos (some k::ks) (v::vs) ((tk,tv)::trs):=λpins s σ H Q I h=>
 pairTrees_cons_walk (thn (hk pins s σ H _ I h) λu s1 ⟨x,H1,I1,rx,q1⟩=>thn (hv pins s1 σ H1 _ I1 q1) λw2 s2 ⟨y,H2,I2,ry,q2⟩=>
  thn (hr pins s2 σ H2 _ I2 q2) λws s3 ⟨ps,H3,I3,rel,q3⟩=>⟨(x,y)::ps,H3,I3,.cons ⟨rx,ry⟩ rel,q3⟩)
def GH (kvs more:G0 (Key×V)):G0 (Key×V):=more.foldl (λacc kv=>RU acc kv.1 kv.2) kvs
theorem KV.merge: ∀ {more:G0 (Key×V)} {rs:G0 (Key×G7)} {kvs:G0 (Key×V)} {vs:G0 (Key×G7)},KV more rs->KV kvs vs->KV (GH kvs more) (merged vs rs):=by
 intro more rs kvs vs r;unfold KV at r
 induction r generalizing kvs vs with
 |nil=>intro q;exact q
 | @cons p q ps qs h t ih=>
  intro r0;have e:KV (RU kvs p.1 p.2) (G0i vs q.1 q.2):=by
   have:=r0.put p.1 h.2;rw [<-h.1];exact this
  exact ih e
theorem Wa: ∀ (more kvs:G0 (Key×V)),(GH kvs more).length<=kvs.length+more.length
 | [],kvs=>by show kvs.length<=kvs.length+0;omega
 |p::r,kvs=>by
  have h1:=Wa r (RU kvs p.1 p.2);have h2:=Vx kvs p.1 p.2;show (GH (RU kvs p.1 p.2) r).length<=_;rw [R7];omega
theorem Xt {P:M0}{w:C6}: ∀ {kvs:G0 (Key×V)} {ws:G0 (G7×G7)},VV (kvs.map λkv=>(kV kv.1,kv.2)) ws-> ∃rs,Carries (zU P w) ws rs/\KV kvs rs
 | [],_,r=>by rw [U7] at r;cases r;exact⟨[],Z7,.nil⟩
 |p::kvs,_,r=>by
  rw [M1] at r;cases r with
  | @cons a b as bs h t=>
   obtain⟨rs,c,q⟩:=Xt (P:=P) (w:=w) t;obtain⟨b1,b2⟩:=b;exact⟨(p.1,b2)::rs,⟨LW h.1,rfl,c⟩,.cons ⟨rfl,h.2⟩ q⟩
def xA (trs:G0 (TE×TE)):TE:=λσ H Q=> ∀p,H p=none->BH trs σ (upd H p (.dK [])) λps H2=>H2 p=some (.dK [])/\ ∃kvs:G0 (Key×V),ps=kvs.map (λkv=>(kV kv.1,kv.2))/\kvs.length<=15/\Q (.ref p) (upd H2 p (.dK (GH [] kvs)))
theorem ET {keys:G0 (D4 T1)}{values:G0 T1}{trs:G0 (TE×TE)}(h:PPs X pos keys values trs)(hall:keys.all (·.isSome)=true)(hl:keys.length=values.length)(h0:keys≠ [])
 (h15:keys.length<=15):PE X (.Dict keys values pos) (xA trs):=by
 intro pins s σ H Q I q;have hn:=I.hok.fresh (P5 s.heap.objs.size);have I1:=I.laid (a:=s.heap.objs.size) (o:= .dK []) (h':=s.heap.push {cls:= .type "dict",data:= .dict #[]}) (t':=s.toks) (λ_ _ q=>P7 _ q) (P5 _) (LX s.heap I.big);refine wpAny_Dict_walk (knd:=zU X.prog X.w) hall hl h0 h15 (thn (h pins _ σ _ _ I1 (q _ hn)) λws s2 ⟨ps,H2,I2,rel,e,kvs,ep,lk,q2⟩=> ?_);subst ep;obtain⟨rs,c,rk⟩:=Xt (P:=X.prog) (w:=X.w) rel;obtain⟨z,hd,vs0,r0,dd⟩:=Kb I2.hok e;cases r0;refine⟨rs,c,dd,λh' dd' hs=>⟨.ref s.heap.objs.size,_,?_,rfl,q2⟩⟩;have hz:(GH [] kvs).length<=sizeLine:=by
  have h1:=Wa kvs [];rw [B9] at h1;rw [lC];omega
 have he: ∃q,h'.get? s.heap.objs.size=some q:=let ⟨q,_,_,hq,_⟩:=dd';⟨q,hq⟩;exact BG I2 (by rw [e];exact Z7) hs he (AR hz hd (rk.merge .nil) dd')
structure M2 (X:Cx)(o:T1)(m:Str)(apos:Pos)(e f:T1)(cpos:Pos):Prop where
 base:W4 o m X.env (O5 o X.env)=O5 o X.env
 few:((E7 cpos (D6 [e,f] X.env)).all (λx=> !x.1)&&(dW cpos (aH [] X.env)).all (λx=>x.1.isSome)
  &&decide (([e,f]:G0 T1).length+([]:G0 Y1).length+(if ([]:G0 Y1).isEmpty then 0 else 1)<30))=true
 line:(apos.endLine==cpos.line)=true
 trees:E7 cpos (D6 [e,f] X.env)= [(false,O5 e X.env),(false,O5 f X.env)]
def IsD (H:Hp)(a:P4):Prop:=(∃kvs,Rd H a (.dK kvs))\/ ∃kvs,Rd H a (.dT kvs)
theorem Kc {pins:G0 (P4×Obj)}{σ:St}(I:Inv X pins σ H s)(d:IsD H a):
 s.TypeIs (.ref a) "dict" /\(∀b,X5 a= .ref b-> ∃ob,s.heap.get? b=some ob/\ob.dict=none)/\(a==aJ)=false:=by
 rcases d with ⟨kvs,e⟩|⟨kvs,e⟩
 ·obtain⟨_,hd,vs,_,dd⟩:=BE I.hok e;refine⟨dd.typeIs,λb q=> ?_,hd⟩;cases q;obtain⟨ob,_,_,h1,h2,_⟩:=dd;exact⟨ob,h1,h2.2.1⟩
 ·obtain⟨_,hd,xs,_,dd⟩:=EO I.hok e;refine⟨dd.typeIs,λb q=> ?_,hd⟩;cases q;obtain⟨ob,_,_,h1,h2,_⟩:=dd;exact⟨ob,h1,h2.2.1⟩
def yR (names:G0 (Str×NameKind))(env:Env)(cs:G0 (Str×P4)):G0 (Str×P4):=
 names.foldl (λcs p=>if p.2= .free then (match env.cells.lookup p.1 with|some c=>(p.1,c)::cs|none=>cs) else cs) cs
theorem wI (p:Str×NameKind)(l:G0 (Str×NameKind))(env:Env)(cs:G0 (Str×P4)):
 yR (p::l) env cs=yR l env (if p.2= .free then (match env.cells.lookup p.1 with|some c=>(p.1,c)::cs|none=>cs) else cs):=rfl
theorem Vy {f:Str×NameKind->G0 (Str×P4)->Sem (fL (G0 (Str×P4)))}
 (h1: ∀p cs,p.2≠ .free->f p cs=pure (.yield cs))(h2: ∀p cs c,p.2= .free->env.cells.lookup p.1=some c->f p cs=pure (.yield ((p.1,c)::cs))):
 ∀ (l:G0 (Str×NameKind)) (cs:G0 (Str×P4)),(∀p∈l,p.2= .free-> ∃c,env.cells.lookup p.1=some c)->forIn l cs f=pure (yR l env cs)
 | [],cs,_=>rfl
 |p::l,cs,h=>by
  have ih:=Vy h1 h2 l
  by_cases hp:p.2= .free
  ·obtain⟨c,hc⟩:=h p R3 hp;rw [eO,h2 p cs c hp hc,pure_bind];show forIn l ((p.1,c)::cs) f=_;rw [ih _ λq hq=>h q (S3 _ hq),wI,D8 hp,hc]
  ·rw [eO,h1 p cs hp,pure_bind];show forIn l cs f=_;rw [ih _ λq hq=>h q (S3 _ hq),wI,D9 hp]
variable {scope:U5}
theorem Qb (h: ∀p∈scope.names,p.2= .free-> ∃c,env.cells.lookup p.1=some c):z9 scope env=pure (yR scope.names env []):=by
 simp only [z9];rw [Vy (env:=env) (λp cs hp=> ?_) (λp cs c hp hc=> ?_) _ _ h]
 ·rfl
 ·obtain⟨n,k⟩:=p;have hb:(k==J0)=false:=by simpa using hp
  simp only [hb,mW,lG]
 ·obtain⟨n,k⟩:=p;have hb:(k==J0)=true:=by simpa using hp
  have hc':env.cells.lookup n=some c:=hc;simp only [hb,fE,cellOf,hc',pure_bind]
theorem Vz: ∀ (l:G0 (Str×NameKind)) (cs:G0 (Str×P4)),(∀p∈cs,env.cells.lookup p.1=some p.2)-> ∀p∈yR l env cs,env.cells.lookup p.1=some p.2
 | [],cs,h,p,hp=>h p hp
 |q::l,cs,h,p,hp=>by
  rw [wI] at hp;refine Vz l _ (λr hr=> ?_) p hp
  by_cases hq:q.2= .free
  ·rw [D8 hq] at hr;cases e:env.cells.lookup q.1 with
   |none=>rw [e] at hr;exact h r hr
   |some c=>
    rw [e] at hr;rcases T6.mp hr with rfl|hr
    ·exact e
    ·exact h r hr
  ·rw [D9 hq] at hr;exact h r hr
theorem VA: ∀ (l:G0 (Str×NameKind)) (cs:G0 (Str×P4)),∀p∈cs,p∈yR l env cs
 | [],cs,p,hp=>hp
 |q::l,cs,p,hp=>by
  rw [wI];refine VA l _ p ?_
  by_cases hq:q.2= .free
  ·rw [D8 hq];cases e:env.cells.lookup q.1 with
   |none=>exact hp
   |some c=>exact S3 _ hp
  ·rw [D9 hq];exact hp
variable {x:Str}
theorem VB {c:P4}(hc:env.cells.lookup x=some c): ∀ (l:G0 (Str×NameKind)) (cs:G0 (Str×P4)),(x,J0)∈l->(x,c)∈yR l env cs
 |q::l,cs,h=>by
  rw [wI];rcases T6.mp h with e|h
  ·subst e;rw [D8 rfl,hc];exact VA l _ _ R3
  ·exact VB hc l _ h
theorem yj {α:Type}: ∀ {l:G0 (Str×α)} {x:Str} {c:α},l.lookup x=some c->(x,c)∈l
 | [],_,_,h=>by simp at h
 |(n,k)::r,x,c,h=>by
  rw [K6] at h;cases hx:x==n with
  |true=>
   rw [hx] at h;have e:x=n:=eq_of_beq hx;cases h;subst e;exact R3
  |false=>rw [hx] at h;exact S3 _ (yj h)
theorem Xu {α:Type}: ∀ {l:G0 (Str×α)} {x:Str} {c:α},(x,c)∈l-> ∃c',l.lookup x=some c'
 |(n,k)::r,x,c,h=>by
  rw [K6];cases hx:x==n with
  |true=>exact⟨_,rfl⟩
  |false=>
   rcases T6.mp h with e|h
   ·cases e;simp at hx
   ·exact Xu h
theorem Xv {l:G0 (Str×NameKind)}{c:P4}(h:(yR l env []).lookup x=some c):env.cells.lookup x=some c:=
 Vz l [] (λ_ z=>nomatch z) (x,c) (yj h)
theorem BI {l:G0 (Str×NameKind)}{c:P4}(hc:env.cells.lookup x=some c)(h:(x,J0)∈l):(yR l env []).lookup x=some c:=by
 obtain⟨c',e⟩:=Xu (VB hc l [] h);have:=Xv e;rw [hc] at this;cases this;exact e
theorem vC {κ:Type}{f:Str×κ->Str×κ}{g:Str->κ->κ}(hf: ∀n k,f (n,k)=(n,g n k))(x:Str): ∀l:G0 (Str×κ),(l.map f).lookup x=(l.lookup x).map (g x)
 | []=>rfl
 |(n,k)::r=>by
  rw [M1,hf,K6,K6,vC hf x r];cases same:x==n with
  |false=>rfl
  |true=>rw [eq_of_beq same];rfl
theorem zh {names:G0 (Str×NameKind)}{k:NameKind}(found:
 (names.map λ(n,k)=>if (k==J0&&env.scope.kind== .function&&env.kindOf n==some .cell) then (n,aB) else (n,k)).lookup x=some k):
  names.lookup x=some k\/names.lookup x=some .free:=by
 rw [vC (g:=λn k=>if (k==J0&&env.scope.kind== .function&&env.kindOf n==some .cell) then .cell else k) (λn k=>by dsimp only;split<;>rfl)] at found;obtain⟨k0,was,now⟩:=K9.mp found;split at now
 ·rename_i c;simp only [B7,beq_iff_eq] at c;exact .inr (by rw [was,c.1.1])
 ·exact .inl (by rw [was,now])
theorem yb: ∀ (names:G0 (Str×NameKind)) (n:G5) (acc:G0 (Str×P4)) (p:Str×P4),p∈Q6 n names acc->p∈acc\/(n<=p.2/\(p.1,aB)∈names)
 | [],_,_,_,h=> .inl h
 |(x,k)::r,n,acc,p,h=>by
  unfold Q6 at h;split at h
  ·rename_i hk;rcases yb r (n+1) _ p h with z|⟨z1,z2⟩
   ·rcases T6.mp z with e|z
    ·subst e;have:k= .cell:=by simpa using hk
     subst this;exact .inr ⟨P5 _,R3⟩
    ·exact .inl z
   ·exact .inr ⟨by omega,S3 _ z2⟩
  ·rcases yb r n acc p h with z|⟨z1,z2⟩
   ·exact .inl z
   ·exact .inr ⟨z1,S3 _ z2⟩
theorem jX: ∀ (names:G0 (Str×NameKind)) (n:G5) (acc:G0 (Str×P4)),Q6 n names acc=Q6 n names []++acc
 | [],_,_=>rfl
 |(x,k)::r,n,acc=>by
  unfold Q6;split
  ·rw [jX r (n+1) ((x,n)::acc),jX r (n+1) [(x,n)],D3];rfl
  ·exact jX r n acc
theorem WJ {α:Type}(l l':G0 (Str×α))(x:Str):(l++l').lookup x=(match l.lookup x with|some c=>some c|none=>l'.lookup x):=by
 induction l with
 |nil=>rfl
 |cons p l ih=>
  obtain⟨n,c⟩:=p;rw [U3,K6,K6];cases x==n with
  |true=>rfl
  |false=>exact ih
theorem Zv {names:G0 (Str×NameKind)}(here:names.lookup x=some .cell):
 (names.map λ(n,k)=>if (k==J0&&env.scope.kind== .function&&env.kindOf n==some .cell) then (n,aB) else (n,k)).lookup x=some .cell:=by
 rw [vC (g:=λn k=>if (k==J0&&env.scope.kind== .function&&env.kindOf n==some .cell) then .cell else k) (λn k=>by dsimp only;split<;>rfl),here];simp
section
variable {M:sJ}{A:C5}{E:G7->P0->Prop}{s:P0}
theorem Nc (h:L6)(names:G0 (Str×NameKind)):(∀n c,(n,c)∈Q6 h.objs.size names []->(pushCells h names).IsCell c none/\h.objs.size<=c)/\(Q6 h.objs.size names []).Pairwise λx y=>x.2≠y.2:=
 have laid:=cellsFrom_ok names h h.objs.size [] ⟨by simp,.nil⟩ (P5 _)
 ⟨laid.empty,laid.apart⟩
theorem GI {scope:U5}{globals:P4}{closure:G0 (Str×P4)}{qual:Str}{func:D4 P4}{code:G7}{outer:Env}{builtins:P4}{Q:Env->P0->Prop}
 (hQ: ∀h',h'.Ns s.heap.objs.size (λ_=>none)->(∀b o,s.heap.get? b=some o->h'.get? b=some o)->(∀n c,(n,c)∈Q6 (s.heap.objs.size+1) scope.names []->h'.IsCell c none/\s.heap.objs.size+1<=c)->
  ((Q6 (s.heap.objs.size+1) scope.names []).Pairwise λx y=>x.2≠y.2)->
  Q (newEnv scope s.heap.objs.size globals (Q6 (s.heap.objs.size+1) scope.names closure) qual func code (some outer) builtins) {s with heap:=h'}):
 S6 M A (p8 scope globals closure [] qual func code (some outer) builtins) Q E s:=by
 have names:=Nc (s.heap.push {cls:= .type "dict",data:= .dict #[]}) scope.names;have first:(s.heap.push {cls:= .type "dict",data:= .dict #[]}).objs.size=s.heap.objs.size+1:=cY ..
 rw [first] at names;unfold p8;refine wpAny_bind (wpAny_alloc (wpAny_bind (wpAny_layCells _ (λn k cs=>rfl) _ _ _ _ ?_)));simp only [mV,fE];rw [first];exact wpAny_bind (D2 (D2 (hQ _ ((Heap.Ns.new _ _).keeps (o8 _ _)) (λb o here=>o8 _ _ b o (P7 _ here)) names.1 names.2)))
end
def jT (X:Cx)(scope:U5)(C:P4):G0 (Str×P4):=Q6 (C+1) scope.names (yR scope.names X.env [])
def Zw (X:Cx)(scope:U5)(C:P4)(s₀:P0)(H₀:Hp)(ex:G0 P4):Cx:=
 {X with s₀:=s₀,H₀:=H₀,env:=p9 scope (jT X scope C) C X.env,outer:=X.stack,ex:=ex,fn:=λx=>scope.names.lookup x==some .cell,pn:= [],xe:=λ_ _=>False}
def ji (X:Cx)(scope:U5)(X':Cx):Prop:= ∃C s₀ H₀ ex,X'=Zw X scope C s₀ H₀ ex
structure BlockOk (X:Cx)(scope:U5)(js:G0 G5):Prop where
 kind:scope.kind= .function
 locs: ∀p∈scope.names,p.2= .local->scope.names.lookup p.1=some .local
 cels: ∀p∈scope.names,p.2= .cell->scope.names.lookup p.1=some .cell
 free: ∀p∈scope.names,p.2= .free->X.env.scope.names.lookup p.1=some .cell\/X.env.scope.names.lookup p.1=some .free
 js: ∀ (i:G5) (x:Str),X.N[i]? =some x->(scope.names.lookup x=some .local\/scope.names.lookup x=some .cell)->i∈js
variable {js:G0 G5}
theorem va (S:BlockOk X scope js){C:P4}{x:Str}{c:P4}(h:(jT X scope C).lookup x=some c):
 (scope.names.lookup x≠some .cell/\X.env.cells.lookup x=some c)\/(scope.names.lookup x=some .cell/\(x,c)∈Q6 (C+1) scope.names []):=by
 unfold jT at h;rw [jX,WJ] at h;cases e:(Q6 (C+1) scope.names []).lookup x with
 |some d=>
  rw [e] at h;cases h;have m:=yj e;rcases yb _ _ _ _ m with z|⟨_,z⟩
  ·exact absurd z (by simp)
  ·exact .inr ⟨S.cels _ z rfl,m⟩
 |none=>
  rw [e] at h;refine .inl ⟨λz=> ?_,Xv h⟩;obtain⟨d,hd⟩:=Ve (sc:=scope) (n:=C+1) z;rw [e] at hd;cases hd
theorem Yn (S:BlockOk X scope js){C:P4}{x:Str}{c:P4}(hc:X.env.cells.lookup x=some c)(h:(x,J0)∈scope.names)(hn:scope.names.lookup x≠some .cell):(jT X scope C).lookup x=some c:=by
 unfold jT;rw [jX,WJ];cases e:(Q6 (C+1) scope.names []).lookup x with
 |some d=>
  rcases yb _ _ _ _ (yj e) with z|⟨_,z⟩
  ·exact absurd z (by simp)
  ·exact absurd (S.cels _ z rfl) hn
 |none=>exact BI hc h
def wZ:G0 G5->St->St
 | [],σ=>σ
 |j::js,σ=>wZ js (σ.set j none)
theorem Xw: ∀ (js:G0 G5) (σ:St),(wZ js σ).length=σ.length
 | [],_=>rfl
 |j::js,σ=>by rw [wZ,Xw js];simp
theorem VC: ∀ (js:G0 G5) (σ:St) (i:G5) (v:V),(wZ js σ)[i]? =some (some v)->σ[i]? =some (some v)
 | [],_,_,_,h=>h
 |j::js,σ,i,v,h=>by
  have h1:=VC js _ i v h
  by_cases e:i=j
  ·subst e;rw [cZ] at h1;simp at h1
  ·rwa [L8 (E8 e)] at h1
theorem ze: ∀ (js:G0 G5) (σ:St) (i:G5) (v:V),i∈js-> ¬ (wZ js σ)[i]? =some (some v)
 |j::js,σ,i,v,hm,h=>by
  rcases T6.mp hm with rfl|hm
  ·have h1:=VC js _ i v h;rw [cZ] at h1;simp at h1
  ·exact ze js _ i v hm h
theorem HOk.track {h:L6}{o:HO}(x:HOk P w H h)(hn:H a=none)(new:ObjOk P w (upd H a o) h a o):HOk P w (upd H a o) h:=λb u e=>by
 by_cases hb:b=a
 ·subst hb;rw [jw] at e;cases e;exact new
 ·rw [jt hb] at e;exact(x b u e).stay (λc v _ q=>q) (λc q=>by rw [jt (jp q hn)];exact q) λc xs q=>by rw [jt (jp q hn)];exact q
def Agree (σ σ':St):Prop:=σ'.length=σ.length/\ ∀ (i:G5) (v:V),σ[i]? =some (some v)->σ'[i]? =some (some v)
theorem Agree.set {σ:St}{j:G5}(v:V)(h: ∀u,¬σ[j]? =some (some u)):Agree σ (σ.set j (some v)):=⟨by simp,λi u q=>by
 by_cases e:j=i
 ·subst e;exact absurd q (h u)
 ·rw [L8 e];exact q⟩
theorem Agree.trans {a b c:St}(x:Agree a b)(y:Agree b c):Agree a c:=⟨y.1.trans x.1,λi v h=>y.2 i v (x.2 i v h)⟩
def PTs (X:Cx)(ifs:G0 T1)(t:TT):Prop:=
 ∀ (pins:G0 (P4×Obj)) (s:P0) (σ:St) (H:Hp) (Q:T9->Hp->Prop),Inv X pins σ H s->t σ H Q->
  S6 (T4 X.prog X.w) X.A (forIn ifs true λc r=>if r=true then do let ok <-isTrue c X.env (O5 c X.env);pure (aR ok) else pure (aR r)) (TP X pins σ Q) X.xe s
def qY:TT:=λ_ H Q=>Q true H
theorem EU:PTs X [] qY:=λ_ _ _ H _ I h=>wpAny_tests_nil ⟨H,I,h⟩
theorem EV {c:T1}{t:TT}(hc:PT X c t):PTs X [c] t:=λpins s σ H Q I h=>wpAny_tests_one (hc pins s σ H Q I h)
def Xx (iter target:T1)(ifs:G0 T1)(it:G7)(env:Env)(act:Sem Unit)(nxt:Code):Sem dM:=do
 fB iter.pos
 match <-pS it with
 |none=>pure (.done .next)
 |some v=>
  X7 target it v
  eM target env v
  let mut ok:=true
  for c in ifs do
   if ok then ok <-isTrue c env (O5 c env)
  if ok then act
  G0c nxt
variable {elt iter:T1}{ifs:G0 T1}
theorem RV {A:C5}{R:G0e->P0->Prop}{target:T1}{gens:G0 dR}{depth:G5}{it acc:G7}{act:Sem Unit}(I:G5->P0->Prop)
 (heq:nJ (.ListComp elt gens scope pos) depth it acc env=Xx iter target ifs it env act (.compLoop (.ListComp elt gens scope pos) depth it acc env))
 (turn: ∀n s,I n s->S6 (T4 prog w) A (pS it) (λr s₁=>match r with
  |none=>R (.ok .next) s₁
  |some v=>S6 (T4 prog w) A (X7 target it v) (λ_ s₁=>S6 (T4 prog w) A (eM target env v) (λ_ s₂=>
   S6 (T4 prog w) A (forIn ifs true λc r=>if r=true then do let ok <-PySem.isTrue c env (O5 c env);pure (aR ok) else pure (aR r)) (λok s₃=>
    if ok=true then S6 (T4 prog w) A act (λ_ s₅=> ∃m,m<n/\I m s₅) (λ_ _=>False) s₃
    else ∃m,m<n/\I m s₃) (λ_ _=>False) s₂) (λ_ _=>False) s₁) (λ_ _=>False) s₁) (λ_ _=>False) s)
 (n:G5)(h:I n s):
 fC (T4 prog w) A (.compLoop (.ListComp elt gens scope pos) depth it acc env) R s:=by
 refine codeAny_loop rfl I (λn s hI=> ?_) n h;show S6 _ A ((nJ (.ListComp elt gens scope pos) depth it acc env).onRaise (λx=>do noteFrame x env;theTreesLotGoes x)) _ _ s;refine wpAny_noted ?_;rw [heq];unfold Xx;refine wpAny_bind (aV (wpAny_bind (N0 (turn n s hI) (λr s₁ h₁=> ?_) λ_ _ h'=>h'.elim)));cases r with
 |none=>exact D2 h₁
 |some v=>
  refine wpAny_bind (N0 h₁ (λ_ s₁ h₁=> ?_) λ_ _ h'=>h'.elim);refine wpAny_bind (N0 h₁ (λ_ s₂ h₂=>wpAny_bind (N0 h₂ (λok s₃ h₃=> ?_) λ_ _ h'=>h'.elim)) λ_ _ h'=>h'.elim);cases ok with
  |false=>exact D2 ⟨rfl,h₃⟩
  |true=>exact wpAny_bind (N0 h₃ (λ_ s₅ h₅=>D2 ⟨rfl,h₅⟩) λ_ _ h'=>h'.elim)
abbrev TM:=St->Hp->G0 V->(G0 V->Hp->Prop)->Prop
def uJ (X:Cx)(D:P4)(act:Sem Unit)(t:TM):Prop:=
 ∀ (pins:G0 (P4×Obj)) (s:P0) (σ:St) (H:Hp) (ys:G0 V) (us:G0 G7) (Q:G0 V->Hp->Prop),Inv X ([(D,Y4 us)]++pins) σ H s->Vals ys us->ys.length<=sizeLine->D∈X.ex->(∀x c,X.env.cells.lookup x=some c->c≠D)->(∀p∈X.pn++pins,p.1≠D)->t σ H ys Q->
  S6 (T4 X.prog X.w) X.A act (λ_ s'=> ∃ys' us' H',Vals ys' us'/\Inv X ([(D,Y4 us')]++pins) σ H' s'/\Q ys' H') (λ_ _=>False) s
def Kd (te:TE):TM:=λσ H ys Q=>te σ H λy H1=>Q (ys++ [y]) H1
def Xy (elt:T1)(env:Env)(acc:G7):Sem Unit:=do let _ <-call (.builtin "list.append") [acc,<-O5 elt env]
variable {te:TE}
theorem Qc {D:P4}(hx:X.xe=λ_ _=>False)(he:PE X elt te):uJ X D (Xy elt X.env (.ref D)) (Kd te):=by
 intro pins s σ H ys us Q I hv hz DX cD pD h;have q:=he _ s σ H _ I h;rw [hx] at q;unfold Xy;refine wpAny_bind (N0 q (λy s1 ⟨yv,H1,I1,r1,q1⟩=> ?_) λ_ _ z=>z);have zD:=I1.pin (D,Y4 us) (R5 _ (C8 _ R3));refine wpAny_bind (append_at (its:=us.toArray) (n:=us.length) zD.1 (λh11 hs11 hD11=>D2 ?_) (by rw [R9,<-hv.length];exact hz));have I10u:Inv X pins σ H1 s1:=I1.pins_of λp hp=>I1.pin p (R5 _ (R5 _ hp))
 have I11:Inv X pins σ H1 {s1 with heap:=h11}:=I10u.turned (t':=s1.toks) (it:=D) (λb o hb e=>hs11.extBut b o hb e) zD.2.1 zD.2.2.1 (.inl DX) cD pD;have eD:h11.get? D=some (Y4 (us++ [y])):=by rw [hD11];exact congrArg some (LCg.lst_snoc us y)
 refine⟨ys++ [yv],us++ [y],H1,hv.append (.cons r1 .nil),I11.pins_of λp hp=> ?_,q1⟩;rcases R1.mp hp with z|z
 ·rcases P1.mp z with rfl
  exact⟨eD,zD.2.1,zD.2.2.1,zD.2.2.2.1,λv z=>by cases z⟩
 ·exact I11.pin p (R5 _ z)
def uK (js : G0 G5) (wi : TI) (g : TG) (tt : TT) (tm : TM) : TE := fun σ H Q => wi σ H fun J H1 =>
  ∃ W : G5 → G5 → G0 V → Hp → Prop, (∃ m, W 0 m [] H1) ∧ ∀ i m ys H, W i m ys H → ys.length ≤ sizeLine ∧
    ((J.stop i H ∧ ∀ p, H p = none → Q (.ref p) (upd H p (.lst ys))) ∨
     (J.go i H ∧ ∀ x H', J.yld i H x H' → g x (wZ js σ) H' fun σ2 H2 => Agree (wZ js σ) σ2 ∧ tt σ2 H2 fun b H3 =>
        if b = true then tm σ2 H3 ys fun ys' H4 => ∃ m', m' < m ∧ W (i + 1) m' ys' H4 else ∃ m', m' < m ∧ W (i + 1) m' ys H3))
def tLC (js:G0 G5)(wi:TI)(g:TG)(tt:TT)(te:TE):TE:=uK js wi g tt (Kd te)
variable {tg:T1}{wi:TI}{g:TG}{tt:TT}
theorem BJ {e:T1}{rest:G0 dR}{pos0:Pos}{tm:TM}{use:D4 (G7->Sem Unit)}{Qv:G7->P0->Prop}(hc:X.calm=true)(S:BlockOk X scope js)(hi:PI X tg iter wi)
 (he0:e= .ListComp elt (⟨tg,iter,ifs,0⟩::rest) scope pos)
 (hg: ∀X',ji X scope X'->PG X' tg g)(ht: ∀X',ji X scope X'->PTs X' ifs tt)
 (act:Env->G7->Sem Unit)(hturn: ∀it acc env,nJ e 0 it acc env=Xx iter tg ifs it env (act env acc) (.compLoop e 0 it acc env))(he: ∀X',ji X scope X'-> ∀D,uJ X' D (act X'.env (.ref D)) tm)
 (hs: ∀x,S9 iter X.env x=pure x){pins:G0 (P4×Obj)}{s:P0}{σ:St}{H:Hp}{Q:VK}(I:Inv X pins σ H s)(h:uK js wi g tt tm σ H Q)
 (fin: ∀ (D C:P4) (H':Hp) (s':P0) (m:Str->D4 G7),s'.heap.Ns C m->(∀h',aK C s'.heap h'->Inv X pins σ H' {s' with heap:=h'})->H' C=none->C≠X.env.locals->C ∉ X.fs->X.s₀.heap.objs.size<=C->(∀x c,X.env.cells.lookup x=some c->c≠C)->(∀p∈X.pn++pins,p.1≠C)->
  Q (.ref D) H'->compPost (T4 X.prog X.w) X.A X.xe use Qv (.ref D) C (.ok .next) s'):
 S6 (T4 X.prog X.w) X.A (rT e scope X.env pos0 (newList []) false (O5 iter X.env) use) Qv X.xe s:=by
 have hclos:=Qb (scope:=scope) (env:=X.env) (λp hp e=>I.ok.has p.1 (S.free p hp e));subst he0;refine wpAny_comprehension_free (use:=use) rfl hs hclos S.kind S.locs (thn (hi pins s σ H _ I h) λv s1 h1=>thn h1 λitv s2 h2=> ?_);obtain⟨it,fp,tn,J,H2,e,I2,T,st2,f2,W,⟨m0,w0⟩,turn⟩:=h2;subst e;refine V4 (GI (λh₁ hns₁ hkp₁ hcl₁ hap₁=> ?_));dsimp only at hns₁ hkp₁ hcl₁ hap₁ ⊢;generalize hD:s2.heap.objs.size=D;generalize hH3:s2.heap.push {cls:= .type "list",dict:=none,data:= .seq ([]:G0 G7).toArray}=h3 at hns₁ hkp₁ hcl₁ hap₁ ⊢;have sz3:h3.objs.size=D+1:=by rw [<-hH3,cY,hD]
 have up3: ∀b o,s2.heap.get? b=some o->h3.get? b=some o:=λb o e=>hH3 ▸ P7 _ e
 have I3:Inv X pins σ H2 {s2 with heap:=h3}:=I2.kept (t':=s2.toks) up3;have hD3:h3.get? D=some (Y4 []):=by rw [<-hH3,<-hD];exact T3 _ rfl
 have fD:Bd X pins H2 D:=I2.fpOk (by rw [hD];exact P5 _) (I2.hok.fresh (by rw [hD];exact P5 _));have obf: ∀b∈fp,∃o,s2.heap.get? b=some o/\ ∀v,o.data≠ .cell v:=T.obj _ _ st2;have ltf: ∀b∈fp,b<D:=λb hb=>by obtain⟨o,e,_⟩:=obf b hb;rw [<-hD];exact S0 e
 generalize hC:h3.objs.size=C at hns₁ hcl₁ hap₁ ⊢;have CD:C=D+1:=hC.symm.trans sz3;have upC: ∀b o,h3.get? b=some o->h₁.get? b=some o:=hkp₁;generalize hX:Zw X scope C {s2 with heap:=h3} H2 (fp++ [D])=X';have iX:ji X scope X':=⟨C,_,_,_,hX.symm⟩;have hf: ∀b∈fp++ [D],Bd X pins H2 b:=λb hb=>(R1.mp hb).elim (f2 b) λz=>by rw [P1.mp z];exact fD
 have cl: ∀x c,(jT X scope C).lookup x=some c->X.env.cells.lookup x=some c\/C<c:=λx c e=>by
  rcases va S e with ⟨_,z⟩|⟨_,z⟩
  ·exact .inl z
  ·exact .inr (c9 (hcl₁ x c z).2)
 have olt: ∀x c,X.env.cells.lookup x=some c->c<C:=λx c e=>by obtain⟨v,q⟩:=I3.cell x c e;rw [<-hC];exact q.lt
 have ltb: ∀b∈fp++ [D],b<C:=λb hb=>(R1.mp hb).elim (λz=>by have:=ltf b z;rw [CD];exact a6 this) λz=>by rw [P1.mp z,CD];exact J1 _
 have okX:X'.Ok:=by
  subst hX;refine⟨I.ok.mod,S.kind,I.ok.glob,I.ok.blt,W1 hC,λx y c e1 e2=> ?_,λx hx=> ?_,λx c z e=> ?_,I.ok.hd,I.ok.frames,.inl rfl,λb hb=>⟨M9 (ltb b hb),λx c e=>(cl x c e).elim (λz=>(hf b hb).2.2.2.2.1 x c z) λz=>W0 (Y3 (ltb b hb) z)⟩,
   I3.bs,T5 I.ok.bsz I3.sz,λb o e hb=> ?_,λb hb z=> ?_,I3.stack,I3.stkFree⟩
  ·rcases va S e1 with ⟨_,z1⟩|⟨_,z1⟩<;>rcases va S e2 with ⟨_,z2⟩|⟨_,z2⟩
   ·exact I.ok.inj x y c z1 z2
   ·exact absurd (Y3 (olt x c z1) (c9 (hcl₁ y c z2).2)) (O0 _)
   ·exact absurd (Y3 (olt y c z2) (c9 (hcl₁ x c z1).2)) (O0 _)
   ·exact sW hap₁ z1 z2
  ·have own:scope.names.lookup x=some .cell-> ∃c,(jT X scope C).lookup x=some c:=λz=>by
    obtain⟨c,hc⟩:=Ve (sc:=scope) (n:=C+1) z;exact⟨c,by unfold jT;rw [jX,WJ,hc]⟩
   have shr:scope.names.lookup x=some .free-> ∃c,(jT X scope C).lookup x=some c:=λz=>by
    have fm:=yj z;obtain⟨c,hc⟩:=I.ok.has x (S.free _ fm rfl);exact⟨c,Yn S hc fm (by rw [z];decide)⟩
   rcases hx with hx|hx
   ·rcases zh (env:=X.env) hx with z|z
    ·exact own z
    ·exact shr z
   ·rcases zh (env:=X.env) hx with z|z<;>exact shr z
  ·have z':scope.names.lookup x=some .cell:=by
    have z2:(scope.names.lookup x==some aB)=true:=z;simpa using z2
   rcases va S e with ⟨n,_⟩|⟨_,m⟩
   ·exact absurd z' n
   ·show h3.objs.size<=c;rw [hC];exact S1 (c9 (hcl₁ x c m).2)
  ·rcases (hf b hb).2.2.2.1 with z|z
   ·exact I.ok.noex b o e z
   ·exact absurd (N6 (S0 e) (T5 I.ok.bsz z)) (O0 _)
  ·rcases T6.mp (I.stkSub b z) with q|q
   ·exact(hf b hb).2.1 q
   ·exact(hf b hb).2.2.1 q
 -- the block's first state
 have I4:Inv X' [(D,Y4 [])] (wZ js σ) H2 {s2 with heap:=h₁}:=by
  subst hX;have hDC:D≠C:=by rw [CD];exact M9 (J1 _)
  refine⟨okX,rfl,I2.bare,Un.kept (λb u e=>upC b u e),⟨_,hns₁,λi x v e1 e2 e3=> ?_⟩,λx c e=> ?_,I3.hok.fresh (W1 hC),λx c e=>(cl x c e).elim (λz=>I2.freeC x c z) (λz=>I3.hok.fresh (by rw [<-hC] at z;exact S1 z)),λp hp=> ?_,I3.hok.kept upC,(Xw js σ).trans I2.len⟩
  ·have fr:scope.names.lookup x=some .free:=by
    rcases e3 with e3|e3|e3
    ·rcases zh (env:=X.env) e3 with z|z
     ·exact absurd e2 (ze js σ i v (S.js i x e1 (.inl z)))
     ·exact z
    ·rcases zh (env:=X.env) e3 with z|z
     ·exact absurd e2 (ze js σ i v (S.js i x e1 (.inr z)))
     ·exact z
    ·rcases zh (env:=X.env) e3 with z|z<;>exact z
   have fm:=yj fr;obtain⟨m,hm,hl⟩:=I2.loc;have vis:=S.free _ fm rfl;obtain⟨u,r,lk⟩:=hl i x v e1 (VC js σ i v e2) (.inr vis);have kd:(relabel scope X.env).names.lookup x=some .cell\/(relabel scope X.env).names.lookup x=some .free:=by
    rcases e3 with e3|e3|e3
    ·rcases zh (env:=X.env) e3 with z|z
     ·rw [fr] at z;cases z
     ·exfalso;have z2:=e3
      -- a local's kind stays
      exact absurd e2 (ze js σ i v (S.js i x e1 (.inl (by
       have q: ∀ (l:G0 (Str×NameKind)),(l.map λ(n,k)=>if (k==J0&&X.env.scope.kind== .function&&X.env.kindOf n==some .cell) then (n,aB) else (n,k)).lookup x=some .local->l.lookup x=some .local:=by
        intro l
        induction l with
        |nil=>intro h;simp at h
        |cons p l ih=>
         obtain⟨n,k'⟩:=p;intro h;have h':List.lookup x ((if (k'==J0&&X.env.scope.kind== .function&&X.env.kindOf n==some .cell)=true then (n,aB) else (n,k'))::(l.map λ(n,k)=>if (k==J0&&X.env.scope.kind== .function&&X.env.kindOf n==some .cell) then (n,aB) else (n,k)))=some .local:=h;rw [K6]
         by_cases hc:(k'==J0&&X.env.scope.kind== .function&&X.env.kindOf n==some .cell)=true
         ·rw [D8 hc,K6] at h';cases hx:x==n with
          |true=>rw [hx] at h';cases h'
          |false=>rw [hx] at h';exact ih h'
         ·rw [D9 hc,K6] at h';cases hx:x==n with
          |true=>rw [hx] at h';exact h'
          |false=>rw [hx] at h';exact ih h'
       exact q _ z2))))
    ·exact .inl e3
    ·exact .inr e3
   rcases lk with ⟨k,_⟩|⟨_,c,hc,hcell⟩
   ·have k':X.env.scope.names.lookup x=some .local:=k;rcases vis with z|z<;>(rw [k'] at z;cases z)
   ·refine⟨u,r,.inr ⟨kd,c,Yn S hc fm (by rw [fr];decide),?_⟩⟩;obtain⟨o,ho,hd⟩:=hcell;exact⟨o,upC _ _ (up3 _ _ ho),hd⟩
  ·rcases va S e with ⟨_,z⟩|⟨_,z⟩
   ·obtain⟨v,o,ho,hd⟩:=I2.cell x c z;exact⟨v,o,upC _ _ (up3 _ _ ho),hd⟩
   ·exact⟨none,(hcl₁ x c z).1⟩
  ·have hp':p∈ [(D,Y4 [])]:=hp;rcases P1.mp hp' with rfl
   refine⟨upC _ _ hD3,fD.1,hDC,λz=> ?_,λv z=>by cases z⟩;rcases T6.mp (I.stkSub D z) with q|q
   ·exact fD.2.1 q
   ·exact fD.2.2.1 q
 have st4:tn 0 h₁:=T.keep _ _ _ st2 λb _ o e=>upC _ _ (up3 _ _ e)
 have eA:X'.A=X.A:=by rw [<-hX];rfl
 have eP:X'.prog=X.prog:=by rw [<-hX];rfl
 have eW:X'.w=X.w:=by rw [<-hX];rfl
 have eK:X'.K=X.K:=by rw [<-hX];rfl
 have eC:X'.calm=true:=by rw [<-hX];exact hc
 have eV:X'.env=p9 scope (jT X scope C) C X.env:=by rw [<-hX];rfl
 have eE:X'.xe=λ_ _=>False:=by rw [<-hX];rfl
 -- what stays true of the iterator's objects
 have stat: ∀ {us:G0 G7} {H':Hp},(∀b∈fp,H' b=none)-> ∀b∈fp,Bd X' [(D,Y4 us)] H' b:=λ{us H'} hn b hb=>by
  have q:=hf b (C8 _ hb);subst hX;refine⟨hn b hb,M9 (ltb b (C8 _ hb)),λz=> ?_,.inl (C8 _ hb),λx c e=>(cl x c e).elim (λz=>q.2.2.2.2.1 x c z) (λz=>W0 (Y3 (ltb b (C8 _ hb)) z)),λp hp=> ?_⟩
  ·rcases T6.mp (I.stkSub b z) with r|r
   ·exact q.2.1 r
   ·exact q.2.2.1 r
  ·have hp':p∈ [(D,Y4 us)]:=hp;rcases P1.mp hp' with rfl
   exact W0 (ltf b hb)
 have loop: ∀s₃:P0,s₃= {s2 with heap:=h₁}->
  fC (T4 X.prog X.w) X.A (.compLoop (.ListComp elt (⟨tg,iter,ifs,0⟩::rest) scope pos) 0 (.ref it) (.ref D) (p9 scope (jT X scope C) C X.env))
   (compPost (T4 X.prog X.w) X.A X.xe use Qv (.ref D) C) s₃:=by
  rintro s₃ rfl;refine RV (act:=act (p9 scope (jT X scope C) C X.env) (.ref D)) (λn s'=> ∃i ys us H',Vals ys us/\Inv X' [(D,Y4 us)] (wZ js σ) H' s'/\tn i s'.heap/\(∀b∈fp,H' b=none)/\W i n ys H') (hturn _ _ _) ?_ m0
   ⟨0,[],[],H2,.nil,I4,st4,λb hb=>(f2 b hb).1,w0⟩
  rintro n s5 ⟨i,ys,us,H5,hv5,I5,st5,fr5,w5⟩;obtain⟨hz,tr⟩:=turn i n ys H5 w5;rcases tr with ⟨stop,qn⟩|⟨go,step⟩
  ·have q:=T.done X' eP eW eK eC i _ s5 _ H5 (λ_ _=>False) I5 (stat fr5) st5 stop;rw [eA] at q;refine N0 q (λr s6 ⟨hr,I6⟩=> ?_) λ_ _ z=>z
   subst hr;obtain⟨m6,hm6,_⟩:=I6.loc;rw [eV] at hm6;have zD:=I6.pin (D,Y4 us) (R5 _ R3);have HD:H5 D=none:=zD.2.1;have oD:s6.heap.get? D=some (Y4 us):=zD.1;have hDC:D≠C:=by rw [CD];exact M9 (J1 _)
   have HC:H5 C=none:=by have z:=I6.free;rw [eV] at z;exact z
   have B:=I6.base;have os6:s6.os=s2.os:=by have z:=I6.os;rw [<-hX] at z;exact z
   have Bu:Un (frs X.stack) (fp++ [D]) H2 H5 h3 s6.heap:=by rw [<-hX] at B;exact B
   have neC: ∀b o,h3.get? b=some o->b≠C:=λb o e=>by rw [<-hC];exact M9 (S0 e)
   refine fin D C (upd H5 D (.lst ys)) s6 m6 hm6 (λh' hs'=> ?_) (by rw [jt (E8 hDC)];exact HC) ?_ ?_ ?_ (λx c e=>M9 (olt x c e)) ?_ (qn D HD)
   ·have hk5:HOk X.prog X.w H5 h':=λb u e=>by
     have z:=I6.hok b u e;rw [eP,eW] at z;refine z.stay (λc v hc q=>hs'.extBut c v ?_ q) (λ_ q=>q) λ_ _ q=>q
     rcases hc with rfl|hc
     ·exact jp e HC
     ·exact jp hc HC
    refine I3.call' (ch:=fp++ [D]) os6 ⟨λb o e n hb hx=> ?_,λb o e n hb hx=> ?_,λb o e n hx=> ?_,λb o e hx=> ?_,λb xs e=> ?_,λb o u e=> ?_,λb ps e=> ?_⟩ (hk5.track HD ?_) I6.bare λb hb=> ?_
    ·exact hs'.extBut b o (neC b o e) (Bu.keep b o e n hb hx)
    ·obtain⟨sl,q⟩:=Bu.slot b o e n hb hx;exact⟨sl,hs'.extBut b _ (neC b o e) q⟩
    ·rw [jt λz=>hx (by rw [z];exact R5 _ R3)];exact Bu.free b o e n hx
    ·obtain⟨o',q⟩:=Bu.there b o e hx;exact⟨o',hs'.extBut b _ (neC b o e) q⟩
    ·have z:=Bu.tups b xs e;rw [jt (jp z HD)];exact z
    ·have z:=Bu.frzs b o u e;rw [jt (jp z HD)];exact z
    ·obtain⟨more,z⟩:=Bu.tbls b ps e;exact⟨more,by rw [jt (jp z HD)];exact z⟩
    ·exact⟨hz,us,us.length,hv5,hs'.extBut D _ hDC oD⟩
    ·have q:=hf b hb;exact⟨q.2.2.2.1,q.2.1,q.2.2.2.2.1,q.2.2.2.2.2⟩
   ·rw [<-hC];exact W0 I3.lt
   ·exact I3.nofs (W1 hC)
   ·rw [<-hC];exact I3.sz
   ·intro p hp;have:=(I3.pin p hp).1;rw [<-hC];exact M9 (S0 this)
  ·have q:=T.item X' eP eW eK eC i _ s5 _ H5 (λ_ _=>False) I5 (stat fr5) st5 go;rw [eA] at q;refine N0 q (λr s6 ⟨u,hr,h6⟩=> ?_) λ_ _ z=>z
   subst hr;refine N0 h6 (λ_ s7 ⟨x,H7,I7,r7,y7,st7,fr7⟩=> ?_) λ_ _ z=>z
   have I7':=I7.pinned (stat fr7) (T.obj _ _ st7);have q7:=hg X' iX _ s7 _ H7 x u _ I7' r7 (step x H7 y7);rw [eP,eW,eA,eV,eE] at q7;refine N0 q7 (λ_ s8 ⟨σ8,H8,I8,ag8,q8⟩=> ?_) λ_ _ z=>z
   have q9:=ht X' iX _ s8 σ8 H8 _ I8 q8;rw [eP,eW,eA,eV,eE] at q9;refine N0 q9 (λok s9 ⟨H9,I9,q9⟩=> ?_) λ_ _ z=>z
   have keepT: ∀ {σ':St} {H':Hp} {s':P0} {us:G0 G7},Inv X' ([(D,Y4 us)]++Zj fp s7.heap) σ' H' s'->tn (i+1) s'.heap/\ ∀b∈fp,H' b=none:=λ{σ' H' s' us} I'=>
    ⟨T.keep _ _ _ st7 λb hb o e=>(I'.pin (b,o) (R5 _ (R5 _ (yi hb e)))).1,λb hb=>by
     obtain⟨o,e,_⟩:=T.obj _ _ st7 b hb;exact(I'.pin (b,o) (R5 _ (R5 _ (yi hb e)))).2.1⟩
   cases ok with
   |false=>
    have q9: ∃m',m'<n/\W (i+1) m' ys H9:=q9;obtain⟨m',hm,w9⟩:=q9;obtain⟨t9,f9⟩:=keepT I9;exact⟨m',hm,i+1,ys,us,H9,hv5,(I9.unpinned).weak ag8.1.symm ag8.2,t9,f9,w9⟩
   |true=>
    have q9:tm σ8 H9 ys λys' H4=> ∃m',m'<n/\W (i+1) m' ys' H4:=q9
    have DX:D∈X'.ex:=by rw [<-hX];exact R5 _ R3
    have pD: ∀p∈X'.pn++Zj fp s7.heap,p.1≠D:=λp hp=>by
     have hp':p∈Zj fp s7.heap:=by rw [<-hX] at hp;simpa [Zw] using hp
     exact M9 (ltf _ (Vt hp').1)
    have cD: ∀x c,X'.env.cells.lookup x=some c->c≠D:=λx c e=>by
     rw [eV] at e;exact(cl x c e).elim (λz=>fD.2.2.2.2.1 x c z) λz=>W0 (Y3 (by rw [CD];exact J1 _) z)
    have q10:=he X' iX D _ s9 σ8 H9 ys us _ I9 hv5 hz DX cD pD q9;rw [eP,eW,eA,eV] at q10;show S6 _ _ (act _ _) _ _ s9;refine N0 q10 (λ_ s10 ⟨ys',us',H10,hv10,I10,m',hm,w10⟩=> ?_) λ_ _ z=>z
    obtain⟨t10,f10⟩:=keepT I10;exact⟨m',hm,i+1,ys',us',H10,hv10,(I10.unpinned).weak ag8.1.symm ag8.2,t10,f10,w10⟩
 exact codeAny_compStart_list (loop _ rfl) (T.self X.A 0 _ _ _ st4 (loop _ rfl))
theorem Ke (hc:X.calm=true)(S:BlockOk X scope js)(hi:PI X tg iter wi)
 (hg: ∀X',ji X scope X'->PG X' tg g)(ht: ∀X',ji X scope X'->PTs X' ifs tt)(he: ∀X',ji X scope X'->PE X' elt te)
 (hs: ∀x,S9 iter X.env x=pure x:=by intro _;rfl):PE X (.ListComp elt [⟨tg,iter,ifs,0⟩] scope pos) (tLC js wi g tt te):=by
 intro pins s σ H Q I h;rw [rV];exact BJ (use:=none) hc S hi rfl hg ht (Xy elt) (λ_ _ _=>rfl) (λX' hX D=>Qc (by obtain⟨_,_,_,_,rfl⟩:=hX;rfl) (he X' hX)) hs I h
  λD C H' s' m hn hk _ _ _ _ _ _ q=>⟨m,hn,λh' hs'=>⟨.ref D,H',hk h' hs',rfl,q⟩⟩
theorem BK {e:T1}{rest:G0 dR}{pos' spos:Pos}{g':TG}{tm:TM}(hc:X.calm=true)(S:BlockOk X scope js)(hi:PI X tg iter wi)
 (he0:e= .ListComp elt (⟨tg,iter,ifs,0⟩::rest) scope pos)(hg: ∀X',ji X scope X'->PG X' tg g)(ht: ∀X',ji X scope X'->PTs X' ifs tt)
 (act:Env->G7->Sem Unit)(hturn: ∀it acc env,nJ e 0 it acc env=Xx iter tg ifs it env (act env acc) (.compLoop e 0 it acc env))(he: ∀X',ji X scope X'-> ∀D,uJ X' D (act X'.env (.ref D)) tm)
 (hg':PG X (.Name x pos') g')(hsw:aD e (some (.Name x pos')) spos.line X.env=pure true)
 (hs: ∀x,S9 iter X.env x=pure x):PS X (.Assign [.Name x pos'] e spos) (AK (uK js wi g tt tm) g'):=by
 intro pins s σ H Dn I h;rw [exec_Assign_Name_used _ _ _ _ hsw];refine wpAny_bind (aV (wpAny_bind ?_));subst he0;rw [arm_evalThenUse_ListComp];show S6 _ X.A (do let _ <-rT (.ListComp elt (⟨tg,iter,ifs,0⟩::rest) scope pos) scope X.env _ (newList []) false (O5 iter X.env) (some (eM (.Name x pos') X.env))) _ _ s;refine wpAny_bind (N0 (BJ (use:=some (eM (.Name x pos') X.env)) (Qv:=λ_ s'=>SP X pins Dn .next s') hc S hi rfl hg ht act hturn he hs I h ?_) (λ_ s' hq=>D2 (D2 hq)) λ_ _ e=>e);intro D C H' s' m hn hk HC nL nf sz ncell npin q;show S6 _ X.A (eM (.Name x pos') X.env (.ref D)) _ _ s';obtain⟨o,es,ep,ho,hd,hr⟩:=id hn;have I1:Inv X pins σ H' s':=hk s'.heap (IP ..);have I2:Inv X (pins++ [(C,o)]) σ H' s':=I1.pins_of λp hp=>by
  rcases R1.mp hp with z|z
  ·exact I1.pin p (R5 _ z)
  ·rcases P1.mp z with rfl
   exact⟨ho,HC,nL,nf,λv z=>by rw [hd] at z;cases z⟩
 refine N0 (hg' _ s' σ H' (.ref D) (.ref D) _ I2 rfl q) (λ_ s3 ⟨σ3,H3,I3,q3⟩=> ?_) λ_ _ z=>z
 have pC:=I3.pin (C,o) (R5 _ (R5 _ R3));refine⟨m,hn.at' λo' e'=> ?_,λh' hs'=> ?_⟩
 ·rw [ho] at e';cases e';exact pC.1
 ·exact⟨σ3,H3,(I3.unpinned).turned (t':=s3.toks) (it:=C) (λb o hb e=>hs'.extBut b o hb e) pC.2.1 nL (.inr sz) ncell npin,q3⟩
theorem LZ {pos' spos:Pos}{g':TG}(hc:X.calm=true)(S:BlockOk X scope js)(hi:PI X tg iter wi)
 (hg: ∀X',ji X scope X'->PG X' tg g)(ht: ∀X',ji X scope X'->PTs X' ifs tt)(he: ∀X',ji X scope X'->PE X' elt te)
 (hg':PG X (.Name x pos') g')(hsw:aD (.ListComp elt [⟨tg,iter,ifs,0⟩] scope pos) (some (.Name x pos')) spos.line X.env=pure true)
 (hs: ∀x,S9 iter X.env x=pure x:=by intro _;rfl):PS X (.Assign [.Name x pos'] (.ListComp elt [⟨tg,iter,ifs,0⟩] scope pos) spos) (AK (tLC js wi g tt te) g'):=
 BK hc S hi rfl hg ht (Xy elt) (λ_ _ _=>rfl) (λX' hX D=>Qc (by obtain⟨_,_,_,_,rfl⟩:=hX;rfl) (he X' hX)) hg' hsw hs
def Nd (e iter:T1)(env:Env)(acc:G7):Sem Unit:=do
 let x <-O5 iter env
 fB iter.pos
 let x <-S9 iter env x
 let _ <-runOwn (.compStart e 1 (<-aY [x] (pT x)) acc env) env
def mIn (wi : TI) (g : TG) (tt : TT) (tm : TM) : TM := fun σ H ys Q => wi σ H fun J H1 =>
  ∃ W : G5 → G5 → G0 V → Hp → Prop, (∃ m, W 0 m ys H1) ∧ ∀ i m ys H, W i m ys H → ys.length ≤ sizeLine ∧
    ((J.stop i H ∧ Q ys H) ∨
     (J.go i H ∧ ∀ x H', J.yld i H x H' → g x σ H' fun σ2 H2 => Agree σ σ2 ∧ tt σ2 H2 fun b H3 =>
        if b = true then tm σ2 H3 ys fun ys' H4 => ∃ m', m' < m ∧ W (i + 1) m' ys' H4 else ∃ m', m' < m ∧ W (i + 1) m' ys H3))
theorem Wb {A:C5}{R:G0e->P0->Prop}{g0 g1:dR}{it acc:G7}(ha:g1.is_async=0)
 (h0:fC (T4 prog w) A (.compLoop (.ListComp elt [g0,g1] scope pos) 1 it acc env) R s)
 (h:S6 (T4 prog w) A (pT it) (λit' s'=>fC (T4 prog w) A (.compLoop (.ListComp elt [g0,g1] scope pos) 1 it' acc env) R s')
  (notedBy (T4 prog w) A env λx s'=>R (.error x) s') s):
 fC (T4 prog w) A (.compStart (.ListComp elt [g0,g1] scope pos) 1 it acc env) R s:=by
 obtain⟨tg,iter,ifs,as⟩:=g1;cases (show as=0 from ha);refine o9 (wpAny_notedAt ?_);obtain⟨hp,g,d,tk,os⟩:=s;unfold compStart
 wp_walk
 refine wpAny_askSetting ?_;split
 ·exact D2 ⟨rfl,h0⟩
 ·exact wpAny_bind (cH (wpAny_bind (aV (wpAny_bind (N0 h (λ_ _ on=>D2 ⟨rfl,on⟩) λ_ _ x=>x)))))
theorem BL {D:P4}{g0:dR}(hc:X.calm=true)(hx:X.xe=λ_ _=>False)
 (hi:PI X tg iter wi)(hg:PG X tg g)(ht:PTs X ifs tt)(he:PE X elt te)(hs: ∀x,S9 iter X.env x=pure x):
 uJ X D (Nd (.ListComp elt [g0,⟨tg,iter,ifs,0⟩] scope pos) iter X.env (.ref D)) (mIn wi g tt (Kd te)):=by
 intro pins s σ H ys us Q I hv hz DX cD pD h;have q:=hi _ s σ H _ I h;rw [hx] at q;unfold Nd;refine wpAny_bind (N0 q (λv s1 h1=>wpAny_bind (aV (wpAny_bind (tZ (hs v) (wpAny_bind (K2 (N0 h1 (λitv s2 h2=> ?_) λ_ _ z=>z))))))) λ_ _ z=>z);obtain⟨it,fp,tn,J,H2,e,I2,T,st2,f2,W,⟨m0,w0⟩,turn⟩:=h2;subst e;refine wpAny_bind (wpAny_runOwn ?_);have neD: ∀b∈fp,b≠D:=λb hb=>by
  have z:=(f2 b hb).2.2.2.2.2 (D,Y4 us) (R5 _ (C8 _ R3));exact E8 z
 have stat: ∀ {us':G0 G7} {H':Hp},(∀b∈fp,H' b=none)-> ∀b∈fp,Bd X ([(D,Y4 us')]++pins) H' b:=λ{us' H'} hn b hb=>by
  have q:=f2 b hb;refine⟨hn b hb,q.2.1,q.2.2.1,q.2.2.2.1,q.2.2.2.2.1,λp hp=> ?_⟩;rcases R1.mp hp with z|z
  ·exact q.2.2.2.2.2 p (C8 _ z)
  ·rcases R1.mp z with z|z
   ·rcases P1.mp z with rfl
    exact E8 (neD b hb)
   ·exact q.2.2.2.2.2 p (R5 _ (R5 _ z))
 have loop:fC (T4 X.prog X.w) X.A (.compLoop (.ListComp elt [g0,⟨tg,iter,ifs,0⟩] scope pos) 1 (.ref it) (.ref D) X.env)
  (λr s'=>match r with| .ok f=>S6 (T4 X.prog X.w) X.A (pure ()) (λ_ s'=> ∃ys' us' H',Vals ys' us'/\Inv X ([(D,Y4 us')]++pins) σ H' s'/\Q ys' H') (λ_ _=>False) s'| .error e=>cameBackBy (T4 X.prog X.w) X.A X.env (λ_ _=>False) e s') s2:=by
  refine RV (act:=Xy elt X.env (.ref D)) (λn s'=> ∃i ys us H',Vals ys us/\Inv X ([(D,Y4 us)]++pins) σ H' s'/\tn i s'.heap/\(∀b∈fp,H' b=none)/\W i n ys H') rfl ?_ m0
   ⟨0,ys,us,H2,hv,I2,st2,λb hb=>(f2 b hb).1,w0⟩
  rintro n s5 ⟨i,ys,us,H5,hv5,I5,st5,fr5,w5⟩;obtain⟨hz,tr⟩:=turn i n ys H5 w5;rcases tr with ⟨stop,qn⟩|⟨go,step⟩
  ·refine N0 (T.done X rfl rfl rfl hc i _ s5 _ H5 (λ_ _=>False) I5 (stat fr5) st5 stop) (λr s6 ⟨hr,I6⟩=> ?_) λ_ _ z=>z
   subst hr;exact D2 ⟨ys,us,H5,hv5,I6,qn⟩
  ·refine N0 (T.item X rfl rfl rfl hc i _ s5 _ H5 (λ_ _=>False) I5 (stat fr5) st5 go) (λr s6 ⟨u,hr,h6⟩=> ?_) λ_ _ z=>z
   subst hr;refine N0 h6 (λ_ s7 ⟨x,H7,I7,r7,y7,st7,fr7⟩=> ?_) λ_ _ z=>z
   have I7':=I7.pinned (stat fr7) (T.obj _ _ st7);have q7:=hg _ s7 _ H7 x u _ I7' r7 (step x H7 y7);rw [hx] at q7;refine N0 q7 (λ_ s8 ⟨σ8,H8,I8,ag8,q8⟩=> ?_) λ_ _ z=>z
   have q9:=ht _ s8 σ8 H8 _ I8 q8;rw [hx] at q9;refine N0 q9 (λok s9 ⟨H9,I9,q9⟩=> ?_) λ_ _ z=>z
   have keepT: ∀ {σ':St} {H':Hp} {s':P0} {us:G0 G7},Inv X (([(D,Y4 us)]++pins)++Zj fp s7.heap) σ' H' s'->tn (i+1) s'.heap/\ ∀b∈fp,H' b=none:=λ{σ' H' s' us} I'=>
    ⟨T.keep _ _ _ st7 λb hb o e=>(I'.pin (b,o) (R5 _ (R5 _ (yi hb e)))).1,λb hb=>by
     obtain⟨o,e,_⟩:=T.obj _ _ st7 b hb;exact(I'.pin (b,o) (R5 _ (R5 _ (yi hb e)))).2.1⟩
   cases ok with
   |false=>
    have q9: ∃m',m'<n/\W (i+1) m' ys H9:=q9;obtain⟨m',hm,w9⟩:=q9;obtain⟨t9,f9⟩:=keepT I9;exact⟨m',hm,i+1,ys,us,H9,hv5,(I9.unpinned).weak ag8.1.symm ag8.2,t9,f9,w9⟩
   |true=>
    have q9:Kd te σ8 H9 ys λys' H4=> ∃m',m'<n/\W (i+1) m' ys' H4:=q9
    have pD': ∀p∈X.pn++(pins++Zj fp s7.heap),p.1≠D:=λp hp=>by
     rcases R1.mp hp with z|z
     ·exact pD p (C8 _ z)
     ·rcases R1.mp z with z|z
      ·exact pD p (R5 _ z)
      ·exact neD _ (Vt z).1
    rw [D3] at I9;have q10:=Qc (D:=D) hx he (pins++Zj fp s7.heap) s9 σ8 H9 ys us _ I9 hv5 hz DX cD pD' q9;show S6 _ _ (Xy _ _ _) _ _ s9;refine N0 q10 (λ_ s10 ⟨ys',us',H10,hv10,I10,m',hm,w10⟩=> ?_) λ_ _ z=>z
    rw [<-D3] at I10;obtain⟨t10,f10⟩:=keepT I10;exact⟨m',hm,i+1,ys',us',H10,hv10,(I10.unpinned).weak ag8.1.symm ag8.2,t10,f10,w10⟩
 exact Wb rfl loop (T.self X.A 0 _ _ _ st2 loop)
theorem BM (elt iter tg iter' tg':T1)(ifs ifs':G0 T1)(scope:U5)(pos:Pos)(it acc:G7)(env:Env):
 nJ (.ListComp elt [⟨tg,iter,ifs,0⟩,⟨tg',iter',ifs',0⟩] scope pos) 0 it acc env=
  Xx iter tg ifs it env (Nd (.ListComp elt [⟨tg,iter,ifs,0⟩,⟨tg',iter',ifs',0⟩] scope pos) iter' env acc) (.compLoop (.ListComp elt [⟨tg,iter,ifs,0⟩,⟨tg',iter',ifs',0⟩] scope pos) 0 it acc env):=by
 unfold Xx Nd;simp only [bind_assoc,pure_bind];rfl
def Kf (js:G0 G5)(wi:TI)(g:TG)(tt:TT)(wi':TI)(g':TG)(tt':TT)(te:TE):TE:=uK js wi g tt (mIn wi' g' tt' (Kd te))
theorem AS {iter' tg':T1}{ifs':G0 T1}{wi':TI}{g':TG}{tt':TT}(hc:X.calm=true)(S:BlockOk X scope js)(hi:PI X tg iter wi)
 (hg: ∀X',ji X scope X'->PG X' tg g)(ht: ∀X',ji X scope X'->PTs X' ifs tt)(hi': ∀X',ji X scope X'->PI X' tg' iter' wi')
 (hg': ∀X',ji X scope X'->PG X' tg' g')(ht': ∀X',ji X scope X'->PTs X' ifs' tt')(he: ∀X',ji X scope X'->PE X' elt te)
 (hs: ∀x,S9 iter X.env x=pure x:=by intro _;rfl)(hs': ∀env x,S9 iter' env x=pure x:=by intro _ _;rfl):
 PE X (.ListComp elt [⟨tg,iter,ifs,0⟩,⟨tg',iter',ifs',0⟩] scope pos) (Kf js wi g tt wi' g' tt' te):=by
 intro pins s σ H Q I h;rw [rV];exact BJ (use:=none) hc S hi rfl hg ht (λenv acc=>Nd (.ListComp elt [⟨tg,iter,ifs,0⟩,⟨tg',iter',ifs',0⟩] scope pos) iter' env acc) (λ_ _ _=>BM ..)
  (λX' hX D=>BL (by obtain⟨_,_,_,_,rfl⟩:=hX;exact hc) (by obtain⟨_,_,_,_,rfl⟩:=hX;rfl) (hi' X' hX) (hg' X' hX) (ht' X' hX) (he X' hX) (hs' _)) hs I h
  λD C H' s' m hn hk _ _ _ _ _ _ q=>⟨m,hn,λh' hs'=>⟨.ref D,H',hk h' hs',rfl,q⟩⟩
inductive D where
 |non|bl (b:T9)|int (i:G8)|str (x:Str)|tup (ds:G0 D)|lst (a:P4)|dic (x:Str) (i:G8)|dct (a:P4)|scr (ns:G0 G8)|exc (C:P4)|fn (a:P4)
def Scr (K:G6)(H:Hp)(a:P4)(ns:G0 G8):Prop:=
 (∃o,H a=some (.frz o (.lst (ns.map V.int))))\/
  ∃ (o:Obj) (its:N8 G7) (n:G5),K.lookup a=some o/\o.cls= .type "list" /\o.dict=none/\o.data= .seq its n/\its.size<=sizeLine/\Vals (ns.map V.int) its.toList
theorem Scr.sq {K:G6}{ns:G0 G8}(h:Scr K H a ns):SqL K H a (ns.map V.int):=h.elim (λz=> .inl (.inr z)) .inr
mutual
def RelD (K:G6)(H:Hp):D->V->Prop
 | .non,v=>v= .non
 | .bl b,v=>v= .bl b
 | .int i,v=>v= .int i
 | .str x,v=>v= .str x
 | .tup ds,v=> ∃a vs,v= .ref a/\H a=some (.tup vs)/\RelDs K H ds vs
 | .lst a,v=>v= .ref a/\ ∃vs,H a=some (.lst vs)
 | .dic x i,v=> ∃a,v= .ref a/\H a=some (.dK [(bK x,V.int i)])
 | .dct a,v=>v= .ref a
 | .scr ns,v=> ∃a,v= .ref a/\Scr K H a ns
 | .exc C,v=> ∃x o vs,v= .ref x/\H x=some (.frz o (.own 0))/\o.cls= .ref C/\o.data= .fields vs
 | .fn a,v=>v= .ref a/\aE K (.ref a)=true
def RelDs (K:G6)(H:Hp):G0 D->G0 V->Prop
 | [],vs=>vs= []
 |d::ds,vs=> ∃v r,vs=v::r/\RelD K H d v/\RelDs K H ds r
end
structure Kept (H H':Hp):Prop where
 tup: ∀a xs,H a=some (.tup xs)->H' a=some (.tup xs)
 lst: ∀a xs,H a=some (.lst xs)-> ∃ys,H' a=some (.lst ys)
 dic: ∀a x i,H a=some (.dK [(bK x,V.int i)])->H' a=some (.dK [(bK x,V.int i)])
 frz: ∀a o u,H a=some (.frz o u)->H' a=some (.frz o u)
theorem Kept.refl (H:Hp):Kept H H:=⟨λ_ _ h=>h,λ_ xs h=>⟨xs,h⟩,λ_ _ _ h=>h,λ_ _ _ h=>h⟩
theorem Kept.trans {A B C:Hp}(x:Kept A B)(y:Kept B C):Kept A C:=
 ⟨λa xs h=>y.tup a xs (x.tup a xs h),λa xs h=>let ⟨_,e⟩:=x.lst a xs h;y.lst a _ e,λa k i h=>y.dic a k i (x.dic a k i h),λa o u h=>y.frz a o u (x.frz a o u h)⟩
theorem Kept.new {H:Hp}{p:P4}{o:HO}(h:H p=none):Kept H (upd H p o):=
 ⟨λa xs e=>by rw [jt (jp e h)];exact e,λa xs e=>⟨xs,by rw [jt (jp e h)];exact e⟩,λa k i e=>by rw [jt (jp e h)];exact e,λa o u e=>by rw [jt (jp e h)];exact e⟩
theorem Kept.put {H:Hp}{p:P4}{xs ys:G0 V}(h:H p=some (.lst xs)):Kept H (upd H p (.lst ys)):=
 ⟨λa zs e=>by rw [jt (MV e h (by intro z;cases z))];exact e,λa zs e=>by
  by_cases q:a=p
  ·subst q;exact⟨ys,jw⟩
  ·exact⟨zs,by rw [jt q];exact e⟩,
  λa k i e=>by rw [jt (MV e h (by intro z;cases z))];exact e,λa o u e=>by rw [jt (MV e h (by intro z;cases z))];exact e⟩
def DObj (o:HO):Prop:=(∃kvs:G0 (G8×V),o= .dK (kvs.map λp=>((O4 p.1:Key),p.2)))\/ ∃φ,o= .ext φ
theorem DObj.no {o:HO}(d:DObj o):(∀xs,o≠ .tup xs)/\(∀xs,o≠ .lst xs)/\(∀x i,o≠ .dK [(bK x,V.int i)])/\(∀p u,o≠ .frz p u)/\ ∀ps,o≠ .tbl ps:=by
 rcases d with ⟨kvs,rfl⟩|⟨φ,rfl⟩
 ·refine⟨λ_ z=>(nomatch z),λ_ z=>(nomatch z),λx i z=> ?_,λ_ _ z=>(nomatch z),λ_ z=>(nomatch z)⟩;injection z with z
  cases kvs with
  |nil=>cases z
  |cons p r=>injection z with z _;injection z with z _;cases z
 ·exact⟨λ_ z=>(nomatch z),λ_ z=>(nomatch z),λ_ _ z=>(nomatch z),λ_ _ z=>(nomatch z),λ_ z=>(nomatch z)⟩
theorem Kept.putD {H:Hp}{p:P4}{o o':HO}(h:H p=some o)(d:DObj o):Kept H (upd H p o'):=by
 obtain⟨d1,d2,d3,d4,_⟩:=d.no;have ne: ∀ {a:P4} {u:HO},H a=some u->o≠u->a≠p:=λe n z=>by subst z;rw [h] at e;injection e with e;exact n e
 exact⟨λa xs e=>by rw [jt (ne e (d1 xs))];exact e,λa xs e=>⟨xs,by rw [jt (ne e (d2 xs))];exact e⟩,λa x i e=>by rw [jt (ne e (d3 x i))];exact e,λa q u e=>by rw [jt (ne e (d4 q u))];exact e⟩
mutual
theorem RelD.mono {K:G6}{H H':Hp}(k:Kept H H'): ∀ {d:D} {v:V},RelD K H d v->RelD K H' d v
 | .non,_,h=>h
 | .bl _,_,h=>h
 | .int _,_,h=>h
 | .str _,_,h=>h
 | .tup ds,v,h=>by
  obtain⟨a,vs,e,h1,h2⟩:=(show ∃a vs,v= .ref a/\H a=some (.tup vs)/\RelDs K H ds vs from h);exact⟨a,vs,e,k.tup _ _ h1,RelDs.mono k h2⟩
 | .lst a,v,h=>by
  obtain⟨e,vs,h1⟩:=(show v= .ref a/\ ∃vs,H a=some (.lst vs) from h);exact⟨e,k.lst _ _ h1⟩
 | .dic x i,v,h=>by
  obtain⟨a,e,h1⟩:=(show ∃a,v= .ref a/\H a=some (.dK [(bK x,V.int i)]) from h);exact⟨a,e,k.dic _ _ _ h1⟩
 | .dct a,v,h=>h
 | .scr ns,v,h=>by
  obtain⟨a,e,h1⟩:=(show ∃a,v= .ref a/\Scr K H a ns from h);exact⟨a,e,h1.elim (λ⟨o,z⟩=> .inl ⟨o,k.frz _ _ _ z⟩) .inr⟩
 | .exc C,v,h=>by
  obtain⟨x,o,vs,e,h1,r⟩:=(show ∃x o vs,v= .ref x/\H x=some (.frz o (.own 0))/\o.cls= .ref C/\o.data= .fields vs from h);exact⟨x,o,vs,e,k.frz _ _ _ h1,r⟩
 | .fn a,v,h=>h
theorem RelDs.mono {K:G6}{H H':Hp}(k:Kept H H'): ∀ {ds:G0 D} {vs:G0 V},RelDs K H ds vs->RelDs K H' ds vs
 | [],_,h=>h
 |d::ds,vs,h=>by
  obtain⟨v,r,e,h1,h2⟩:=(show ∃v r,vs=v::r/\RelD K H d v/\RelDs K H ds r from h);exact⟨v,r,e,RelD.mono k h1,RelDs.mono k h2⟩
end
section
variable {K:G6}{H:Hp}
theorem RelDs.nil:RelDs K H [] []:=rfl
theorem RelDs.cons {d:D}{v:V}{ds:G0 D}{vs:G0 V}(h:RelD K H d v)(t:RelDs K H ds vs):RelDs K H (d::ds) (v::vs):=⟨v,vs,rfl,h,t⟩
theorem RelDs.length: ∀ {ds:G0 D} {vs:G0 V},RelDs K H ds vs->ds.length=vs.length
 | [],_,h=>by cases (show _= [] from h);rfl
 |d::ds,vs,h=>by
  obtain⟨v,r,e,_,h2⟩:=(show ∃v r,vs=v::r/\RelD K H d v/\RelDs K H ds r from h);subst e;simp [RelDs.length h2]
theorem RelDs.append: ∀ {ds es:G0 D} {vs us:G0 V},RelDs K H ds vs->RelDs K H es us->RelDs K H (ds++es) (vs++us)
 | [],_,_,_,h,g=>by cases (show _= [] from h);exact g
 |d::ds,es,vs,us,h,g=>by
  obtain⟨v,r,e,h1,h2⟩:=(show ∃v r,vs=v::r/\RelD K H d v/\RelDs K H ds r from h);subst e;exact .cons h1 (RelDs.append h2 g)
theorem RelDs.get: ∀ {ds:G0 D} {vs:G0 V} {i:G5} {d:D},RelDs K H ds vs->ds[i]? =some d-> ∃v,vs[i]? =some v/\RelD K H d v
 |d'::ds,vs,i,d,h,e=>by
  obtain⟨v,r,q,h1,h2⟩:=(show ∃v r,vs=v::r/\RelD K H d' v/\RelDs K H ds r from h);subst q;cases i with
  |zero=>simp at e;subst e;exact⟨v,rfl,h1⟩
  |succ i=>
   obtain⟨u,q1,q2⟩:=RelDs.get h2 (i:=i) (d:=d) (by simpa using e);exact⟨u,by simpa using q1,q2⟩
theorem RelDs.take (n:G5): ∀ {ds:G0 D} {vs:G0 V},RelDs K H ds vs->RelDs K H (ds.take n) (vs.take n):=by
 induction n with
 |zero=>intro ds vs _;exact(rfl:RelDs K H [] [])
 |succ n ih=>
  intro ds vs h;cases ds with
  |nil=>cases (show vs= [] from h);exact .nil
  |cons d ds=>
   obtain⟨v,r,e,h1,h2⟩:=(show ∃v r,vs=v::r/\RelD K H d v/\RelDs K H ds r from h);subst e;exact .cons h1 (ih h2)
theorem RelDs.drop (n:G5): ∀ {ds:G0 D} {vs:G0 V},RelDs K H ds vs->RelDs K H (ds.drop n) (vs.drop n):=by
 induction n with
 |zero=>intro ds vs h;exact h
 |succ n ih=>
  intro ds vs h;cases ds with
  |nil=>cases (show vs= [] from h);exact .nil
  |cons d ds=>
   obtain⟨v,r,e,h1,h2⟩:=(show ∃v r,vs=v::r/\RelD K H d v/\RelDs K H ds r from h);subst e;exact ih h2
theorem RelDs.set {d:D}{v:V}(q:RelD K H d v): ∀ {ds:G0 D} {vs:G0 V} (i:G5),RelDs K H ds vs->RelDs K H (ds.set i d) (vs.set i v)
 | [],_,_,h=>by cases (show _= [] from h);exact .nil
 |e::ds,vs,i,h=>by
  obtain⟨u,r,z,h1,h2⟩:=(show ∃u r,vs=u::r/\RelD K H e u/\RelDs K H ds r from h);subst z;cases i with
  |zero=>exact .cons q h2
  |succ i=>exact .cons h1 (RelDs.set q i h2)
theorem vb: ∀ns:G0 G8,RelDs K H (ns.map D.int) (ns.map V.int)
 | []=> .nil
 |n::ns=> .cons rfl (vb ns)
end
inductive DC where
 |ik (kv:G0 (G8×D))
 |tk (ep:G5) (kv:G0 (G0 (G0 G8)×D))
structure HD where
 ls:P4->D4 (G0 D)
 dc:P4->D4 DC
instance:CoeFun HD λ_=>P4->D4 (G0 D):=⟨HD.ls⟩
def wB (h:HD)(a:P4)(ds:G0 D):HD:=⟨λb=>if b=a then some ds else h b,h.dc⟩
def Xb (h:HD)(a:P4):HD:=⟨λb=>if b=a then none else h b,h.dc⟩
theorem jc {h:HD}{a:P4}{ds:G0 D}:wB h a ds a=some ds:=D8 rfl
theorem ym {h:HD}{a b:P4}{ds:G0 D}(e:b≠a):wB h a ds b=h b:=D9 e
theorem zf {h:HD}{a:P4}{ds:G0 D}(e:h a=none):Xb (wB h a ds) a=h:=by
 obtain⟨l,d⟩:=h;refine congrArg (HD.mk · d) ?_
 funext b
 show (if b=a then none else if b=a then some ds else l b)=l b
 by_cases q:b=a
 ·subst q;rw [D8 rfl];exact e.symm
 ·rw [D9 q,D9 q]
def LN:G0 Str:= ["law","_law_right","_law_words","_law_other_words","_law_many_right","_law_all","_law_told_row","_law_all_right","_law_desk_right","_law_signs_right","_law_lists_right","_law_text_right"]
def TabK (K:G6)(P:P4):Prop:= ∃x∈LN,∃c,mM K x=some (c,P)
def CodesOk (H:Hp)(ps:N8 G7):Prop:=TriplesOk ps.toList/\ ∀pos cv,codeAmong pos ps.toList=some cv-> ∃ (c:P4) (o:Obj) (vs:N8 G7) (q:Str) (t:Tok),cv= .ref c/\H c=some (.frz o (.own 0))/\o.data= .fields vs/\vs[1]? =some (.str q t)
def CTabs (K:G6)(H:Hp):Prop:= ∀P,TabK K P-> ∃ps,H P=some (.tbl ps)/\CodesOk H ps
theorem CodesOk.mono {H H':Hp}{ps:N8 G7}(k: ∀a o u,H a=some (.frz o u)->H' a=some (.frz o u))(c:CodesOk H ps):CodesOk H' ps:=
 ⟨c.1,λpos cv e=>let ⟨c',o,vs,q,t,e1,e2,r⟩:=c.2 pos cv e;⟨c',o,vs,q,t,e1,k _ _ _ e2,r⟩⟩
theorem CTabs.mono {K:G6}{H H':Hp}(x:CTabs K H)(k: ∀a o u,H a=some (.frz o u)->H' a=some (.frz o u))(kt: ∀a ps,H a=some (.tbl ps)->H' a=some (.tbl ps)):CTabs K H':=λP hP=>
 let ⟨ps,e,c⟩:=x P hP;⟨ps,kt _ _ e,c.mono k⟩
theorem CTabs.new {K:G6}{H:Hp}{p:P4}{o:HO}(x:CTabs K H)(e:H p=none):CTabs K (upd H p o):=
 x.mono (λa o' u h=>by rw [jt (jp h e)];exact h) λa ps h=>by rw [jt (jp h e)];exact h
theorem CTabs.put {K:G6}{H:Hp}{p:P4}{o:HO}{xs:G0 V}(x:CTabs K H)(e:H p=some (.lst xs)):CTabs K (upd H p o):=
 x.mono (λa o' u h=>by rw [jt (MV h e (by intro z;cases z))];exact h) λa ps h=>by rw [jt (MV h e (by intro z;cases z))];exact h
def EW (T:G0 (G0 G8)):G8:=IA (gH (T.map λr=>IA (gH (r.map hashInt))))
def jaL (a:P4)(ep:G5)(xs:G0 (G0 (G0 G8)×P4×V)):HO:= .ext λh=>(a==aJ)=false/\xs.length<=sizeLine/\ ∃ys:G0 (G0 (G0 G8)×P4×G7),Paired (λp q=>p.1=q.1/\p.2.1=q.2.1/\RelV p.2.2 q.2.2) xs ys/\
 ∃o es,h.get? a=some o/\o.ExactDict/\o.data= .dict es ep/\es.toList=ys.map λx=>⟨EW x.1,.ref x.2.1,x.2.2⟩
def DRel (K:G6)(H:Hp)(a:P4):DC->Prop
 | .ik kv=> ∃kvs:G0 (G8×V),H a=some (.dK (kvs.map λp=>((O4 p.1:Key),p.2)))/\kv.map (·.1)=kvs.map (·.1)/\RelDs K H (kv.map (·.2)) (kvs.map (·.2))
 | .tk ep kv=> ∃xs:G0 (G0 (G0 G8)×P4×V),H a=some (jaL a ep xs)/\(kv.map (·.1)).Nodup/\kv.map (·.1)=xs.map (·.1)/\(∀x∈xs,RelD K H (.tup (x.1.map λr=> .tup (r.map D.int))) (.ref x.2.1))/\RelDs K H (kv.map (·.2)) (xs.map (·.2.2))
theorem DRel.obj {K:G6}{H:Hp}{a:P4}: ∀ {c:DC},DRel K H a c-> ∃o,H a=some o/\DObj o
 | .ik _,⟨kvs,e,_⟩=>⟨_,e,.inl ⟨kvs,rfl⟩⟩
 | .tk _ _,⟨xs,e,_⟩=>⟨_,e,.inr ⟨_,rfl⟩⟩
theorem DRel.mono {K:G6}{H H':Hp}{a:P4}(k:Kept H H')(z: ∀o,H a=some o->H' a=some o): ∀ {c:DC},DRel K H a c->DRel K H' a c
 | .ik _,⟨kvs,e,q,r⟩=>⟨kvs,z _ e,q,r.mono k⟩
 | .tk _ _,⟨xs,e,n,q,t,r⟩=>⟨xs,z _ e,n,q,λx hx=>(t x hx).mono k,r.mono k⟩
structure RelH (K:G6)(h:HD)(H:Hp):Prop where
 ls: ∀a ds,h a=some ds-> ∃vs,H a=some (.lst vs)/\RelDs K H ds vs
 tb:CTabs K H
 dc: ∀a c,h.dc a=some c->DRel K H a c
instance {K:G6}{h:HD}{H:Hp}:CoeFun (RelH K h H) λ_=> ∀a ds,h a=some ds-> ∃vs,H a=some (.lst vs)/\RelDs K H ds vs:=⟨RelH.ls⟩
structure Sub (h h':HD):Prop where
 ls: ∀a ds,h a=some ds->h' a=some ds
 dc: ∀a c,h.dc a=some c->h'.dc a=some c
instance {h h':HD}:CoeFun (Sub h h') λ_=> ∀a ds,h a=some ds->h' a=some ds:=⟨Sub.ls⟩
theorem Sub.refl (h:HD):Sub h h:=⟨λ_ _ e=>e,λ_ _ e=>e⟩
theorem Sub.trans {a b c:HD}(x:Sub a b)(y:Sub b c):Sub a c:=⟨λd ds e=>y d ds (x d ds e),λd ds e=>y.dc d ds (x.dc d ds e)⟩
theorem Sub.drop (h:HD)(a:P4):Sub (Xb h a) h:=⟨λb ds e=>by
 have e:(if b=a then none else h b)=some ds:=e;split at e
 ·cases e
 ·exact e,λ_ _ e=>e⟩
theorem Sub.new {h:HD}{p:P4}{ds:G0 D}(e:h p=none):Sub h (wB h p ds):=⟨λa es q=>(by
 rw [ym];exact q;intro z;subst z;rw [e] at q;cases q),λ_ _ e=>e⟩
section
variable {K:G6}{h h':HD}{H:Hp}
theorem RelH.sub (r:RelH K h H)(s:Sub h' h):RelH K h' H:=⟨λa ds e=>r a ds (s a ds e),r.tb,λa c e=>r.dc a c (s.dc a c e)⟩
theorem RelH.free (r:RelH K h H){p:P4}(e:H p=none):h p=none:=by
 cases q:h p with
 |none=>rfl
 |some ds=>obtain⟨vs,z,_⟩:=r p ds q;rw [e] at z;cases z
theorem RelH.freeC (r:RelH K h H){p:P4}(e:H p=none):h.dc p=none:=by
 cases q:h.dc p with
 |none=>rfl
 |some c=>obtain⟨o,z,_⟩:=(r.dc p c q).obj;rw [e] at z;cases z
theorem RelH.dcN (r:RelH K h H){p:P4}{o:HO}(e:H p=none): ∀a c,h.dc a=some c->DRel K (upd H p o) a c:=λa c q=>
 (r.dc a c q).mono (.new e) λu z=>by rw [jt (jp z e)];exact z
theorem RelH.new (r:RelH K h H){p:P4}{o:HO}(e:H p=none):RelH K h (upd H p o):=⟨λa ds q=>by
 obtain⟨vs,z,w⟩:=r a ds q;exact⟨vs,by rw [jt (jp z e)];exact z,w.mono (.new e)⟩,r.tb.new e,r.dcN e⟩
theorem RelH.newL (r:RelH K h H){p:P4}{ds:G0 D}{vs:G0 V}(e:H p=none)(q:RelDs K H ds vs):RelH K (wB h p ds) (upd H p (.lst vs)):=⟨λa es z=>by
 by_cases w:a=p
 ·subst w;rw [jc] at z;cases z;exact⟨vs,jw,q.mono (.new e)⟩
 ·rw [ym w] at z;obtain⟨us,z1,z2⟩:=r a es z;exact⟨us,by rw [jt w];exact z1,z2.mono (.new e)⟩,r.tb.new e,r.dcN e⟩
theorem RelH.put (r:RelH K h H){p:P4}{ds:G0 D}{vs us:G0 V}(e:H p=some (.lst us))(q:RelDs K H ds vs):RelH K (wB h p ds) (upd H p (.lst vs)):=⟨λa es z=>by
 by_cases w:a=p
 ·subst w;rw [jc] at z;cases z;exact⟨vs,jw,q.mono (.put e)⟩
 ·rw [ym w] at z;obtain⟨us,z1,z2⟩:=r a es z;exact⟨us,by rw [jt w];exact z1,z2.mono (.put e)⟩,r.tb.put e,λa c z=>(r.dc a c z).mono (.put e) λo w=>by
   obtain⟨u,w',d⟩:=(r.dc a c z).obj;rw [jt (MV w' e (d.no.2.1 _))];exact w⟩
end
def AT (h:HD)(p:P4)(c:DC):HD:=⟨h.ls,λb=>if b=p then some c else h.dc b⟩
theorem Wc {h:HD}{p:P4}{c:DC}:(AT h p c).dc p=some c:=D8 rfl
theorem Qe {h:HD}{a p:P4}{c:DC}(e:a≠p):(AT h p c).dc a=h.dc a:=D9 e
theorem Sub.newC {h:HD}{p:P4}{c:DC}(e:h.dc p=none):Sub h (AT h p c):=⟨λ_ _ e=>e,λa d q=>by
 rw [Qe];exact q;intro z;subst z;rw [e] at q;cases q⟩
section
variable {K:G6}{h:HD}{H:Hp}
theorem RelH.newC (r:RelH K h H){p:P4}{o:HO}{c:DC}(e:H p=none)(d:DRel K (upd H p o) p c):RelH K (AT h p c) (upd H p o):=⟨(r.new e).ls,r.tb.new e,λa k z=>by
 by_cases w:a=p
 ·subst w;rw [Wc] at z;cases z;exact d
 ·rw [Qe w] at z;exact r.dcN e a k z⟩
theorem RelH.putC (r:RelH K h H){p:P4}{o o':HO}{c:DC}(e:H p=some o)(ob:DObj o)(d:DRel K (upd H p o') p c):RelH K (AT h p c) (upd H p o'):=by
 obtain⟨d1,d2,d3,d4,d5⟩:=ob.no;have ne: ∀ {a:P4} {u:HO},H a=some u->o≠u->a≠p:=λq n z=>by subst z;rw [e] at q;injection q with q;exact n q
 refine⟨λa ds z=> ?_,r.tb.mono (λa q u z=>by rw [jt (ne z (d4 q u))];exact z) (λa ps z=>by rw [jt (ne z (d5 ps))];exact z),λa k z=> ?_⟩
 ·obtain⟨vs,z1,z2⟩:=r a ds z;exact⟨vs,by rw [jt (ne z1 (d2 vs))];exact z1,z2.mono (.putD e ob)⟩
 ·by_cases w:a=p
  ·subst w;rw [Wc] at z;cases z;exact d
  ·rw [Qe w] at z;exact(r.dc a k z).mono (.putD e ob) λu q=>by rw [jt w];exact q
end
abbrev SD:=G0 (D4 D)
def RelS (K:G6)(H:Hp)(σd:SD)(σ:St):Prop:=σd.length=σ.length/\ ∀ (i:G5) (d:D),σd[i]? =some (some d)-> ∃v,σ[i]? =some (some v)/\RelD K H d v
theorem RelS.mono {K:G6}{H H':Hp}{σd:SD}{σ:St}(r:RelS K H σd σ)(k:Kept H H'):RelS K H' σd σ:=⟨r.1,λi d e=>let ⟨v,a,b⟩:=r.2 i d e;⟨v,a,b.mono k⟩⟩
theorem RelS.set {K:G6}{H:Hp}{σd:SD}{σ:St}{d:D}{v:V}(r:RelS K H σd σ)(q:RelD K H d v)(i:G5):RelS K H (σd.set i (some d)) (σ.set i (some v)):=⟨by simp [r.1],λj e h=>by
 by_cases z:i=j
 ·subst z;rw [cZ] at h ⊢
  by_cases hl:i<σd.length
  ·rw [D8 rfl,D8 hl] at h;rw [D8 rfl,D8 (by rw [<-r.1];exact hl)];cases h;exact⟨v,rfl,q⟩
  ·rw [D8 rfl,D9 hl] at h;cases h
 ·rw [L8 z] at h ⊢;exact r.2 j e h⟩
theorem RelS.clear1 {K:G6}{H:Hp}{σd:SD}{σ:St}(r:RelS K H σd σ)(i:G5):RelS K H (σd.set i none) (σ.set i none):=⟨by simp [r.1],λj e h=>by
 by_cases z:i=j
 ·subst z;rw [cZ] at h;split at h
  ·split at h<;>cases h
  ·contradiction
 ·rw [L8 z] at h ⊢;exact r.2 j e h⟩
def jJ:G0 G5->SD->SD
 | [],σ=>σ
 |j::js,σ=>jJ js (σ.set j none)
theorem RelS.clear {K:G6}{H:Hp}: ∀ (js:G0 G5) {σd:SD} {σ:St},RelS K H σd σ->RelS K H (jJ js σd) (wZ js σ)
 | [],_,_,r=>r
 |j::js,_,_,r=>RelS.clear js (r.clear1 j)
abbrev KD:=D->HD->Prop
abbrev TED:=SD->HD->KD->Prop
abbrev TTD:=SD->HD->(T9->HD->Prop)->Prop
abbrev TAD:=SD->HD->(G0 D->HD->Prop)->Prop
abbrev RD2:=D->D->HD->KD->Prop
abbrev RDn:=G0 D->HD->KD->Prop
structure EndsD where
 nx:SD->HD->Prop
 rt:KD
 bk:SD->HD->Prop:=λ_ _=>False
 ct:SD->HD->Prop:=λ_ _=>False
abbrev TSD:=EndsD->SD->HD->Prop
abbrev TGD:=D->SD->HD->(SD->HD->Prop)->Prop
def EX (K:G6)(H:Hp)(Qd:KD)(Q:VK):Prop:= ∀d v h' H',Kept H H'->RelH K h' H'->RelD K H' d v->Qd d h'->Q v H'
def LE (K:G6)(t:TED):TE:=λσ H Q=> ∃σd h Qd,RelS K H σd σ/\RelH K h H/\t σd h Qd/\EX K H Qd Q
def LT (K:G6)(t:TTD):TT:=λσ H Q=> ∃σd h Qd,RelS K H σd σ/\RelH K h H/\t σd h Qd/\ ∀b h' H',Kept H H'->RelH K h' H'->Qd b h'->Q b H'
def LA (K:G6)(t:TAD):TA:=λσ H Q=> ∃σd h Qd,RelS K H σd σ/\RelH K h H/\t σd h Qd/\ ∀ds vs h' H',Kept H H'->RelH K h' H'->RelDs K H' ds vs->Qd ds h'->Q vs H'
def LR (K:G6)(f:RD2):R2:=λx y H Q=> ∃dx dy h Qd,RelD K H dx x/\RelD K H dy y/\RelH K h H/\f dx dy h Qd/\EX K H Qd Q
def LC (K:G6)(f:RDn):G0 V->Hp->VK->Prop:=λxs H Q=> ∃ds h Qd,RelDs K H ds xs/\RelH K h H/\f ds h Qd/\EX K H Qd Q
def LG (K:G6)(g:TGD):TG:=λv σ H Q=> ∃d σd h Qd,RelD K H d v/\RelS K H σd σ/\RelH K h H/\g d σd h Qd/\ ∀σd' h' σ' H',Kept H H'->RelS K H' σd' σ'->RelH K h' H'->Qd σd' h'->Q σ' H'
def LS (K:G6)(t:TSD):TS:=λD₀ σ H=> ∃σd h Dd,RelS K H σd σ/\RelH K h H/\t Dd σd h/\
 (∀σd' h' σ' H',Kept H H'->RelS K H' σd' σ'->RelH K h' H'->Dd.nx σd' h'->D₀.nx σ' H')/\EX K H Dd.rt D₀.rt/\
 (∀σd' h' σ' H',Kept H H'->RelS K H' σd' σ'->RelH K h' H'->Dd.bk σd' h'->D₀.bk σ' H')/\(∀σd' h' σ' H',Kept H H'->RelS K H' σd' σ'->RelH K h' H'->Dd.ct σd' h'->D₀.ct σ' H')
theorem PE.imp {X:Cx}{e:T1}{t t':TE}(h:PE X e t)(i: ∀σ H Q,t' σ H Q->t σ H Q):PE X e t':=λpins s σ H Q I q=>h pins s σ H Q I (i σ H Q q)
theorem PT.imp {X:Cx}{e:T1}{t t':TT}(h:PT X e t)(i: ∀σ H Q,t' σ H Q->t σ H Q):PT X e t':=λpins s σ H Q I q=>h pins s σ H Q I (i σ H Q q)
theorem PW.imp {X:Cx}{e:T1}{t t':TT}(h:PW X e t)(i: ∀σ H Q,t' σ H Q->t σ H Q):PW X e t':=λwh pins s σ H Q I q=>h wh pins s σ H Q I (i σ H Q q)
theorem PA.imp {X:Cx}{e:G0 T1}{t t':TA}(h:PA X e t)(i: ∀σ H Q,t' σ H Q->t σ H Q):PA X e t':=λpos pins s σ H Q I q=>h pos pins s σ H Q I (i σ H Q q)
theorem PS.imp {X:Cx}{e:C9}{t t':TS}(h:PS X e t)(i: ∀D σ H,t' D σ H->t D σ H):PS X e t':=λpins s σ H D I q=>h pins s σ H D I (i D σ H q)
theorem PSs.imp {X:Cx}{e:G0 C9}{t t':TS}(h:PSs X e t)(i: ∀D σ H,t' D σ H->t D σ H):PSs X e t':=λpins s σ H D I q=>h pins s σ H D I (i D σ H q)
theorem PG.imp {X:Cx}{e:T1}{t t':TG}(h:PG X e t)(i: ∀v σ H Q,t' v σ H Q->t v σ H Q):PG X e t':=λpins s σ H v u Q I r q=>h pins s σ H v u Q I r (i v σ H Q q)
theorem OpR.imp {X:Cx}{f:G7->G7->Sem G7}{r r':R2}(h:OpR X f r)(i: ∀x y H Q,r' x y H Q->r x y H Q):OpR X f r':=λpins s σ H x y v u Q I a b q=>h pins s σ H x y v u Q I a b (i x y H Q q)
theorem CallR.imp {X:Cx}{f:G7}{r r':G0 V->Hp->VK->Prop}(h:CallR X f r)(i: ∀xs H Q,r' xs H Q->r xs H Q):CallR X f r':=λpins s σ H xs us Q I a q=>h pins s σ H xs us Q I a (i xs H Q q)
def Oa (i:G5):TED:=λσ h Q=> ∃d,σ[i]? =some (some d)/\Q d h
def dC (d:D):TED:=λ_ h Q=>Q d h
def dOp (f:RD2)(ta tb:TED):TED:=λσ h Q=>ta σ h λx h1=>tb σ h1 λy h2=>f x y h2 Q
def Zx:TAD:=λ_ h Q=>Q [] h
def zg (ta:TED)(tr:TAD):TAD:=λσ h Q=>ta σ h λx h1=>tr σ h1 λxs h2=>Q (x::xs) h2
def xB (t:TAD):TED:=λσ h Q=>t σ h λds h1=>ds.length<=sizeLine/\Q (.tup ds) h1
def TY (t:TAD):TED:=λσ h Q=>t σ h λds h1=>ds.length<=sizeLine/\ ∀p,h1 p=none->Q (.lst p) (wB h1 p ds)
def dCB (r:RDn)(t:TAD):TED:=λσ h Q=>t σ h λds h1=>r ds h1 Q
def YJ (t:TED):TTD:=λσ h Q=>t σ h λx h1=> ∃k,x= .bl k/\Q k h1
def VD (r r':RD2)(ta tb tc:TED):TED:=λσ h Q=>ta σ h λx h1=>tb σ h1 λy h2=>r x y h2 λz h3=> ∃k,z= .bl k/\
 (if k=true then tc σ h3 λw h4=>r' y w h4 Q else Q (.bl false) h3)
def EY (t u:TTD):TTD:=λσ h Q=>t σ h λc h1=>if c=true then u σ h1 Q else Q false h1
def Kg (t u:TTD):TTD:=λσ h Q=>t σ h λc h1=>if c=true then Q true h1 else u σ h1 Q
def BN (t:TTD):TTD:=λσ h Q=>t σ h λc h1=>Q (!c) h1
def Ob (ta tb:TED):TED:=λσ h Q=>ta σ h λx h1=> ∃c,x= .bl c/\if c=true then tb σ h1 Q else Q (.bl false) h1
def xC (ta tb:TED):TED:=λσ h Q=>ta σ h λx h1=> ∃c,x= .bl c/\if c=true then Q (.bl true) h1 else tb σ h1 Q
def Oc (ta:TED):TED:=λσ h Q=>ta σ h λx h1=> ∃c,x= .bl c/\Q (.bl (!c)) h1
def dIf (t:TTD)(ta tb:TED):TED:=λσ h Q=>t σ h λc h1=>if c=true then ta σ h1 Q else tb σ h1 Q
section
variable {K:G6}
theorem Kh (i:G5): ∀σ H Q,LE K (Oa i) σ H Q->qD i σ H Q:=λσ H Q ⟨σd,h,Qd,rs,rh,⟨d,e,q⟩,p⟩=>let ⟨v,e1,e2⟩:=rs.2 i d e;⟨v,e1,p d v h H (.refl H) rh e2 q⟩
theorem Ki {d:D}{v:V}(r: ∀H,RelD K H d v): ∀σ H Q,LE K (dC d) σ H Q->tC v σ H Q:=λσ H Q ⟨σd,h,Qd,rs,rh,q,p⟩=>p d v h H (.refl H) rh (r H) q
variable {H:Hp}
theorem jP {H1:Hp}{Qd:KD}{Q:VK}(p:EX K H Qd Q)(k:Kept H H1):EX K H1 Qd Q:=λd v h' H' k'=>p d v h' H' (k.trans k')
variable {ta:TED}
theorem LE.bind {σ:St}{σd:SD}{h:HD}{kd:KD}{k:VK}(rs:RelS K H σd σ)(rh:RelH K h H)(t:ta σd h kd)(f: ∀d v h' H',Kept H H'->RelS K H' σd σ->RelH K h' H'->RelD K H' d v->kd d h'->k v H'):LE K ta σ H k:=
 ⟨σd,h,kd,rs,rh,t,λd v h' H' kp r1 r2 q=>f d v h' H' kp (rs.mono kp) r1 r2 q⟩
theorem LT.bind {ta:TTD}{σ:St}{σd:SD}{h:HD}{kd:T9->HD->Prop}{k:T9->Hp->Prop}(rs:RelS K H σd σ)(rh:RelH K h H)(t:ta σd h kd)(f: ∀b h' H',Kept H H'->RelS K H' σd σ->RelH K h' H'->kd b h'->k b H'):LT K ta σ H k:=
 ⟨σd,h,kd,rs,rh,t,λb h' H' kp r1 q=>f b h' H' kp (rs.mono kp) r1 q⟩
theorem LA.bind {ta:TAD}{σ:St}{σd:SD}{h:HD}{kd:G0 D->HD->Prop}{k:G0 V->Hp->Prop}(rs:RelS K H σd σ)(rh:RelH K h H)(t:ta σd h kd)(f: ∀ds vs h' H',Kept H H'->RelS K H' σd σ->RelH K h' H'->RelDs K H' ds vs->kd ds h'->k vs H'):LA K ta σ H k:=
 ⟨σd,h,kd,rs,rh,t,λd v h' H' kp r1 r2 q=>f d v h' H' kp (rs.mono kp) r1 r2 q⟩
variable {tb:TED}
theorem EZ {f:RD2}: ∀σ H Q,LE K (dOp f ta tb) σ H Q->tOp (LR K f) (LE K ta) (LE K tb) σ H Q:=λσ H Q ⟨σd,h,Qd,rs,rh,t,p⟩=>
 LE.bind rs rh t λd v h1 H1 k1 rs1 rh1 r1 t1=>LE.bind rs1 rh1 t1 λd2 v2 h2 H2 k2 rs2 rh2 r2 t2=>⟨d,d2,h2,Qd,r1.mono k2,r2,rh2,t2,jP p (k1.trans k2)⟩
theorem Kj: ∀σ H Q,LA K Zx σ H Q->qS σ H Q:=λσ H Q ⟨σd,h,Qd,rs,rh,t,p⟩=>p [] [] h H (.refl H) rh rfl t
theorem Sa {tr:TAD}: ∀σ H Q,LA K (zg ta tr) σ H Q->HM (LE K ta) (LA K tr) σ H Q:=λσ H Q ⟨σd,h,Qd,rs,rh,t,p⟩=>
 LE.bind rs rh t λd v h1 H1 k1 rs1 rh1 r1 t1=>LA.bind rs1 rh1 t1 λds vs h2 H2 k2 rs2 rh2 r2 t2=>p _ _ h2 H2 (k1.trans k2) rh2 (.cons (r1.mono k2) r2) t2
theorem Kk {t:TAD}: ∀σ H Q,LE K (xB t) σ H Q->qT (LA K t) σ H Q:=λσ H Q ⟨σd,h,Qd,rs,rh,t,p⟩=>
 LA.bind rs rh t λds vs h1 H1 k1 rs1 rh1 r1 ⟨z,q⟩=>⟨by rw [<-r1.length];exact z,λa ha=>p (.tup ds) (.ref a) h1 _ (k1.trans (.new ha)) (rh1.new ha) ⟨a,vs,rfl,jw,r1.mono (.new ha)⟩ q⟩
theorem Kl {t:TAD}: ∀σ H Q,LE K (TY t) σ H Q->qU (LA K t) σ H Q:=λσ H Q ⟨σd,h,Qd,rs,rh,t,p⟩=>
 LA.bind rs rh t λds vs h1 H1 k1 rs1 rh1 r1 ⟨z,q⟩=>⟨by rw [<-r1.length];exact z,λa ha=>p (.lst a) (.ref a) _ _ (k1.trans (.new ha)) (rh1.newL ha r1) ⟨rfl,vs,jw⟩ (q a (rh1.free ha))⟩
theorem Km {r:RDn}{t:TAD}: ∀σ H Q,LE K (dCB r t) σ H Q->tCB (LC K r) (LA K t) σ H Q:=λσ H Q ⟨σd,h,Qd,rs,rh,t,p⟩=>
 LA.bind rs rh t λds vs h1 H1 k1 rs1 rh1 r1 q=>⟨ds,h1,Qd,r1,rh1,q,jP p k1⟩
theorem BO {t:TED}: ∀σ H Q,LT K (YJ t) σ H Q->EE (LE K t) σ H Q:=λσ H Q ⟨σd,h,Qd,rs,rh,t,p⟩=>
 LE.bind rs rh t λd v h1 H1 k1 rs1 rh1 r1 ⟨k,e,q⟩=>by subst e;exact⟨k,r1,p k h1 H1 k1 rh1 q⟩
theorem Od {t:TED}: ∀σ H Q,LT K (YJ t) σ H Q->tB (LE K t) σ H Q:=λσ H Q ⟨σd,h,Qd,rs,rh,t,p⟩=>
 LE.bind rs rh t λd v h1 H1 k1 rs1 rh1 r1 ⟨k,e,q⟩=>by subst e;exact⟨k,r1,p k h1 H1 k1 rh1 q⟩
theorem RW {r r':RD2}{tc:TED}: ∀σ H Q,LE K (VD r r' ta tb tc) σ H Q->Br (LR K r) (LR K r') (LE K ta) (LE K tb) (LE K tc) σ H Q:=λσ H Q ⟨σd,h,Qd,rs,rh,t,p⟩=>
 LE.bind rs rh t λd v h1 H1 k1 rs1 rh1 r1 t1=>LE.bind rs1 rh1 t1 λd2 v2 h2 H2 k2 rs2 rh2 r2 t2=>⟨d,d2,h2,_,r1.mono k2,r2,rh2,t2,λd3 v3 h3 H3 k3 rh3 r3 ⟨k,e,q⟩=>by
  subst e;refine⟨k,r3,?_⟩;cases k with
  |true=>
   rw [D8 rfl] at q ⊢;exact LE.bind (rs2.mono k3) rh3 q λd4 v4 h4 H4 k4 rs4 rh4 r4 t4=>⟨d2,d4,h4,Qd,(r2.mono k3).mono k4,r4,rh4,t4,jP p (k1.trans (k2.trans (k3.trans k4)))⟩
  |false=>
   rw [D9 R0] at q ⊢;exact p (.bl false) _ h3 H3 (k1.trans (k2.trans k3)) rh3 rfl q⟩
variable {t:TTD}
theorem Kn {u:TTD}: ∀σ H Q,LT K (EY t u) σ H Q->qE (LT K t) (LT K u) σ H Q:=λσ H Q ⟨σd,h,Qd,rs,rh,t,p⟩=>
 LT.bind rs rh t λb h1 H1 k1 rs1 rh1 q=>by
  cases b with
  |true=>rw [D8 rfl] at q ⊢;exact⟨σd,h1,Qd,rs1,rh1,q,λb h' H' k=>p b h' H' (k1.trans k)⟩
  |false=>rw [D9 R0] at q ⊢;exact p _ _ _ k1 rh1 q
theorem xD {u:TTD}: ∀σ H Q,LT K (Kg t u) σ H Q->tOr (LT K t) (LT K u) σ H Q:=λσ H Q ⟨σd,h,Qd,rs,rh,t,p⟩=>
 LT.bind rs rh t λb h1 H1 k1 rs1 rh1 q=>by
  cases b with
  |true=>rw [D8 rfl] at q ⊢;exact p _ _ _ k1 rh1 q
  |false=>rw [D9 R0] at q ⊢;exact⟨σd,h1,Qd,rs1,rh1,q,λb h' H' k=>p b h' H' (k1.trans k)⟩
theorem Ko: ∀σ H Q,LT K (BN t) σ H Q->qF (LT K t) σ H Q:=λσ H Q ⟨σd,h,Qd,rs,rh,t,p⟩=>
 LT.bind rs rh t λb h1 H1 k1 rs1 rh1 q=>p _ _ _ k1 rh1 q
theorem Kp: ∀σ H Q,LE K (Ob ta tb) σ H Q->Hn (LE K ta) (LE K tb) σ H Q:=λσ H Q ⟨σd,h,Qd,rs,rh,t,p⟩=>
 LE.bind rs rh t λd v h1 H1 k1 rs1 rh1 r1 ⟨c,e,q⟩=>by
  subst e;refine⟨c,r1,?_⟩;cases c with
  |true=>rw [D8 rfl] at q ⊢;exact⟨σd,h1,Qd,rs1,rh1,q,jP p k1⟩
  |false=>rw [D9 R0] at q ⊢;exact p (.bl false) _ _ _ k1 rh1 rfl q
theorem xE: ∀σ H Q,LE K (xC ta tb) σ H Q->qG (LE K ta) (LE K tb) σ H Q:=λσ H Q ⟨σd,h,Qd,rs,rh,t,p⟩=>
 LE.bind rs rh t λd v h1 H1 k1 rs1 rh1 r1 ⟨c,e,q⟩=>by
  subst e;refine⟨c,r1,?_⟩;cases c with
  |true=>rw [D8 rfl] at q ⊢;exact p (.bl true) _ _ _ k1 rh1 rfl q
  |false=>rw [D9 R0] at q ⊢;exact⟨σd,h1,Qd,rs1,rh1,q,jP p k1⟩
theorem Kq: ∀σ H Q,LE K (Oc ta) σ H Q->Ho (LE K ta) σ H Q:=λσ H Q ⟨σd,h,Qd,rs,rh,t,p⟩=>
 LE.bind rs rh t λd v h1 H1 k1 rs1 rh1 r1 ⟨c,e,q⟩=>by subst e;exact⟨c,r1,p (.bl (!c)) _ _ _ k1 rh1 rfl q⟩
theorem xF: ∀σ H Q,LE K (dIf t ta tb) σ H Q->tIf (LT K t) (LE K ta) (LE K tb) σ H Q:=λσ H Q ⟨σd,h,Qd,rs,rh,t,p⟩=>
 LT.bind rs rh t λb h1 H1 k1 rs1 rh1 q=>by
  cases b with
  |true=>rw [D8 rfl] at q ⊢;exact⟨σd,h1,Qd,rs1,rh1,q,jP p k1⟩
  |false=>rw [D9 R0] at q ⊢;exact⟨σd,h1,Qd,rs1,rh1,q,jP p k1⟩
end
abbrev QE (X:Cx)(e:T1)(t:TED):Prop:=PE X e (LE X.K t)
abbrev QT (X:Cx)(e:T1)(t:TTD):Prop:=PT X e (LT X.K t)
abbrev QW (X:Cx)(e:T1)(t:TTD):Prop:=PW X e (LT X.K t)
abbrev QA (X:Cx)(es:G0 T1)(t:TAD):Prop:=PA X es (LA X.K t)
abbrev QS (X:Cx)(s:C9)(t:TSD):Prop:=PS X s (LS X.K t)
abbrev QSs (X:Cx)(s:G0 C9)(t:TSD):Prop:=PSs X s (LS X.K t)
abbrev QG (X:Cx)(e:T1)(t:TGD):Prop:=PG X e (LG X.K t)
abbrev OpQ (X:Cx)(f:G7->G7->Sem G7)(r:RD2):Prop:=OpR X f (LR X.K r)
abbrev Zh (X:Cx)(f:G7)(r:RDn):Prop:=CallR X f (LC X.K r)
section
variable {X:Cx}{a b c e:T1}{es rest:G0 T1}{ta tb tc te:TED}{t u:TAD}{tt tu:TTD}{pos:Pos}{f r r':RD2}
theorem qv (i:G5){x:Str}(hN:X.N[i]? =some x:=by rfl)(hv:Vis X.env.scope x:=by first|exact F8 rfl|exact J9 (F8 rfl)|exact J9 (J9 rfl))(hd:(x==("__debug__" :Str))=false:=by decide)
 (hcd:(x==("__classdict__" :Str))=false:=by decide):QE X (.Name x pos) (Oa i):=(Hi hN hv hd hcd).imp (Kh i)
variable {j:G5}
theorem jaM {i:G8}:QE X (.Constant (.int i) j pos) (dC (.int i)):=pe_int.imp (Ki λ_=>rfl)
theorem qbl {i:T9}:QE X (.Constant (.bool i) j pos) (dC (.bl i)):=pe_bl.imp (Ki λ_=>rfl)
theorem jaN:QE X (.Constant .none j pos) (dC .non):=pe_non.imp (Ki λ_=>rfl)
theorem jaO {x:Str}:QE X (.Constant (.str x) j pos) (dC (.str x)):=pe_str.imp (Ki λ_=>rfl)
theorem xG {x:Str}{i:G8}{tk:Tok}(hg:Gl X x)(hm:X.mg x=some (.int i tk))(hd:(x==("__debug__" :Str))=false:=by decide):QE X (.Name x pos) (dC (.int i)):=
 (Ev (v:= .int i) hg hm ⟨tk,rfl⟩ hd).imp (Ki λ_=>rfl)
theorem qop {op:m7}(ho:OpQ X (E9 op) f)(ha:QE X a ta)(hb:QE X b tb):QE X (.BinOp a op b pos) (dOp f ta tb):=(xg ho ha hb).imp EZ
theorem jaP {op:gQ}(ho:OpQ X (N9 op) f)(ha:QE X a ta)(hb:QE X b tb)(hm:U6 op b=false):QE X (.Compare a [op] [b] pos) (dOp f ta tb):=(ED ho ha hb hm).imp EZ
theorem xH {op:gQ}(ho:OpQ X (N9 op) f)(ha:QE X a ta)(hb:QE X b tb)(hm:U6 op b=false):QT X (.Compare a [op] [b] pos) (YJ (dOp f ta tb)):=
 (EF ho ha hb hm).imp λσ H Q h=>by
  obtain⟨σd,h,Qd,rs,rh,t,p⟩:=BO (t:=dOp f ta tb) σ H Q h;exact EZ σ H _ ⟨σd,h,Qd,rs,rh,t,p⟩
theorem Kr {op op':gQ}(ho:OpQ X (N9 op) r)(ho':OpQ X (N9 op') r')(ha:QE X a ta)(hb:QE X b tb)(hc:QE X c tc)(hm:g7 [op,op'] [b,c]=false:=by with_unfolding_all rfl):
 QE X (.Compare a [op,op'] [b,c] pos) (VD r r' ta tb tc):=(LF ho ho' ha hb hc hm).imp RW
theorem Sb {op op':gQ}(ho:OpQ X (N9 op) r)(ho':OpQ X (N9 op') r')(ha:QE X a ta)(hb:QE X b tb)(hc:QE X c tc)(hm:g7 [op,op'] [b,c]=false:=by with_unfolding_all rfl):
 QT X (.Compare a [op,op'] [b,c] pos) (YJ (VD r r' ta tb tc)):=(LH ho ho' ha hb hc hm).imp λσ H Q h=>by
 obtain⟨σd,h,Qd,rs,rh,t,p⟩:=BO (t:=VD r r' ta tb tc) σ H Q h;exact RW σ H _ ⟨σd,h,Qd,rs,rh,t,p⟩
theorem xI (ha:QE X a ta)(he: ∀whole,isTrue a X.env whole=(do let v <-whole;fB a.pos;aY [v] (pR v)):=by intro _;rfl):QT X a (YJ ta):=(Hj ha he).imp Od
theorem xJ (ha:QT X a tt):QW X (.BoolOp .And [a] pos) tt:=Ex ha
theorem jaQ (ha:QT X a tt):QW X (.BoolOp .Or [a] pos) tt:=Hk ha
theorem xK (ha:QT X a tt)(hb:QW X (.BoolOp .And (b::rest) pos) tu):QW X (.BoolOp .And (a::b::rest) pos) (EY tt tu):=(Hl ha hb).imp Kn
theorem jaR (ha:QT X a tt)(hb:QW X (.BoolOp .Or (b::rest) pos) tu):QW X (.BoolOp .Or (a::b::rest) pos) (Kg tt tu):=(uV ha hb).imp xD
theorem xL (ha:QT X a tt):QT X (.UnaryOp .Not a pos) (BN tt):=(Hm ha).imp Ko
theorem jaS {op:BoolOp}(ha:QE X a ta):QE X (.BoolOp op [a] pos) ta:=Hq ha
theorem jaT (ha:QE X a ta)(hb:QE X (.BoolOp .And (b::rest) pos) tb):QE X (.BoolOp .And (a::b::rest) pos) (Ob ta tb):=(Hr ha hb).imp Kp
theorem qor (ha:QE X a ta)(hb:QE X (.BoolOp .Or (b::rest) pos) tb):QE X (.BoolOp .Or (a::b::rest) pos) (xC ta tb):=(uW ha hb).imp xE
theorem jaU (ha:QE X a ta):QE X (.UnaryOp .Not a pos) (Oc ta):=(Hs ha).imp Kq
theorem qif {c:T1}(hc:QT X c tt)(ha:QE X a ta)(hb:QE X b tb):QE X (.IfExp c a b pos) (dIf tt ta tb):=(Lx hc ha hb).imp xF
theorem AU:QA X [] Zx:=pa_nil.imp Kj
theorem BP (ha:QE X e te)(hr:QA X es t)(hs:D6 (e::es) X.env=(false,O5 e X.env)::D6 es X.env:=by rfl):QA X (e::es) (zg te t):=(Jj ha hr hs).imp Sa
theorem jaV {k:G5}(h:QA X es t):QE X (.Tuple es k pos) (xB t):=(HN h).imp Kk
theorem jaW (h:QA X es t):QE X (.List es pos) (TY t):=(HP h).imp Kl
end
def Ds:TSD:=λD σ h=>D.nx σ h
def Zy (t u:TSD):TSD:=λD σ h=>t {D with nx:=u D} σ h
def Sc (te:TED):TSD:=λD σ h=>te σ h λ_ h1=>D.nx σ h1
def BQ (te:TED):TSD:=λD σ h=>te σ h D.rt
def Sd (c:TTD)(t u:TSD):TSD:=λD σ h=>c σ h λb h1=>if b=true then t D σ h1 else u D σ h1
def Lu (i:G5)(te:TED):TSD:=λD σ h=>te σ h λd h1=>D.nx (σ.set i (some d)) h1
def xM (te:TED)(g:TGD):TSD:=λD σ h=>te σ h λx h1=>g x σ h1 D.nx
def xN (i j:G5)(ta:TAD):TSD:=λD σ h=>ta σ h λds h1=> ∃v w,ds= [v,w]/\D.nx ((σ.set i (some v)).set j (some w)) h1
def gN (i:G5):TGD:=λd σ h Q=>Q (σ.set i (some d)) h
def gT2 (i j:G5):TGD:=λd σ h Q=> ∃x y,d= .tup [x,y]/\Q ((σ.set i (some x)).set j (some y)) h
section
variable {K:G6}
theorem LS.of {t:TSD}{D₀:Ends}{σ:St}{H:Hp}{σd:SD}{h:HD}{Dd:EndsD}(rs:RelS K H σd σ)(rh:RelH K h H)(q:t Dd σd h)
 (nx: ∀σd' h' σ' H',Kept H H'->RelS K H' σd' σ'->RelH K h' H'->Dd.nx σd' h'->D₀.nx σ' H')(rt:EX K H Dd.rt D₀.rt)
 (bk: ∀σd' h' σ' H',Kept H H'->RelS K H' σd' σ'->RelH K h' H'->Dd.bk σd' h'->D₀.bk σ' H')(ct: ∀σd' h' σ' H',Kept H H'->RelS K H' σd' σ'->RelH K h' H'->Dd.ct σd' h'->D₀.ct σ' H'):LS K t D₀ σ H:=⟨σd,h,Dd,rs,rh,q,nx,rt,bk,ct⟩
theorem Se: ∀D σ H,LS K Ds D σ H->Ht D σ H:=λD σ H ⟨σd,h,Dd,rs,rh,q,nx,_⟩=>nx σd h σ H (.refl H) rs rh q
theorem Ks {t u:TSD}: ∀D σ H,LS K (Zy t u) D σ H->qH (LS K t) (LS K u) D σ H:=λD σ H ⟨σd,h,Dd,rs,rh,q,nx,rt,bk,ct⟩=>
 LS.of rs rh q (λσd' h' σ' H' k rs' rh' q'=>⟨σd',h',Dd,rs',rh',q',λa b c d k'=>nx a b c d (k.trans k'),jP rt k,λa b c d k'=>bk a b c d (k.trans k'),λa b c d k'=>ct a b c d (k.trans k')⟩) rt bk ct
variable {te:TED}
theorem Sf: ∀D σ H,LS K (Sc te) D σ H->Hu (LE K te) D σ H:=λD σ H ⟨σd,h,Dd,rs,rh,q,nx,rt,bk,ct⟩=>
 LE.bind rs rh q λd v h1 H1 k1 rs1 rh1 r1 q1=>nx _ _ _ _ k1 rs1 rh1 q1
theorem Kt: ∀D σ H,LS K (BQ te) D σ H->qI (LE K te) D σ H:=λD σ H ⟨σd,h,Dd,rs,rh,q,nx,rt,bk,ct⟩=>⟨σd,h,Dd.rt,rs,rh,q,rt⟩
theorem xO {c:TTD}{t u:TSD}: ∀D σ H,LS K (Sd c t u) D σ H->qJ (LT K c) (LS K t) (LS K u) D σ H:=λD σ H ⟨σd,h,Dd,rs,rh,q,nx,rt,bk,ct⟩=>
 LT.bind rs rh q λb h1 H1 k rs1 rh1 q1=>by
  cases b with
  |true=>rw [D8 rfl] at q1 ⊢;exact⟨σd,h1,Dd,rs1,rh1,q1,λa b c d k'=>nx a b c d (k.trans k'),jP rt k,λa b c d k'=>bk a b c d (k.trans k'),λa b c d k'=>ct a b c d (k.trans k')⟩
  |false=>rw [D9 R0] at q1 ⊢;exact⟨σd,h1,Dd,rs1,rh1,q1,λa b c d k'=>nx a b c d (k.trans k'),jP rt k,λa b c d k'=>bk a b c d (k.trans k'),λa b c d k'=>ct a b c d (k.trans k')⟩
theorem BR {i:G5}: ∀D σ H,LS K (Lu i te) D σ H->AK (LE K te) (wA i) D σ H:=λD σ H ⟨σd,h,Dd,rs,rh,q,nx,rt,bk,ct⟩=>
 LE.bind rs rh q λd v h1 H1 k1 rs1 rh1 r1 q1=>nx _ _ _ _ k1 (rs1.set r1 i) rh1 q1
theorem Ku {g:TGD}: ∀D σ H,LS K (xM te g) D σ H->AK (LE K te) (LG K g) D σ H:=λD σ H ⟨σd,h,Dd,rs,rh,q,nx,rt,bk,ct⟩=>
 LE.bind rs rh q λd v h1 H1 k1 rs1 rh1 r1 q1=>⟨d,σd,h1,_,r1,rs1,rh1,q1,λa b c e k'=>nx a b c e (k1.trans k')⟩
theorem Kv {i j:G5}{ta:TAD}: ∀D σ H,LS K (xN i j ta) D σ H->qL i j (LA K ta) D σ H:=λD σ H ⟨σd,h,Dd,rs,rh,q,nx,rt,bk,ct⟩=>
 LA.bind rs rh q λds vs h1 H1 k1 rs1 rh1 r1 ⟨x,y,e,q1⟩=>by
  subst e;obtain⟨v,r,e,r2,r3⟩:=(show ∃v r,vs=v::r/\RelD K H1 x v/\RelDs K H1 [y] r from r1);obtain⟨w,r',e',r4,r5⟩:=(show ∃v r',r=v::r'/\RelD K H1 y v/\RelDs K H1 [] r' from r3);cases (show r'= [] from r5);subst e' e;exact⟨v,w,rfl,nx _ _ _ _ k1 ((rs1.set r2 i).set r4 j) rh1 q1⟩
theorem Sg (i:G5): ∀v σ H Q,LG K (gN i) v σ H Q->wA i v σ H Q:=λv σ H Q ⟨d,σd,h,Qd,r,rs,rh,q,p⟩=>p _ _ _ _ (.refl H) (rs.set r i) rh q
theorem wJ {H:Hp}{x y:D}{vs:G0 V}(r:RelDs K H [x,y] vs): ∃v w,vs= [v,w]/\RelD K H x v/\RelD K H y w:=by
 obtain⟨v,r1,e,r2,r3⟩:=(show ∃v r,vs=v::r/\RelD K H x v/\RelDs K H [y] r from r);obtain⟨w,z,e',r4,r5⟩:=(show ∃v z,r1=v::z/\RelD K H y v/\RelDs K H [] z from r3);cases (show z= [] from r5);subst e' e;exact⟨v,w,rfl,r2,r4⟩
theorem jF {H:Hp}{x:D}{vs:G0 V}(r:RelDs K H [x] vs): ∃v,vs= [v]/\RelD K H x v:=by
 obtain⟨v,r1,e,r2,r3⟩:=(show ∃v r,vs=v::r/\RelD K H x v/\RelDs K H [] r from r);cases (show r1= [] from r3);exact⟨v,e,r2⟩
theorem Kw (i j:G5): ∀v σ H Q,LG K (gT2 i j) v σ H Q->TX K 2 (YI (wA i) (YI (wA j) TW)) v σ H Q:=λv σ H Q ⟨d,σd,h,Qd,r,rs,rh,⟨x,y,e,q⟩,p⟩=>by
 subst e;obtain⟨a,vs,e,hH,r1⟩:=(show ∃a vs,v= .ref a/\H a=some (.tup vs)/\RelDs K H [x,y] vs from r);obtain⟨v1,v2,e1,r2,r3⟩:=wJ r1;subst e e1;exact⟨a,[v1,v2],rfl,SqT.of hH,rfl,v1,[v2],rfl,v2,[],rfl,rfl,p _ _ _ _ (.refl H) ((rs.set r2 i).set r3 j) rh q⟩
end
section
variable {X:Cx}{st:C9}{sts:G0 C9}{t u:TSD}{e:T1}{te:TED}{pos:Pos}
theorem Kx:QSs X [] Ds:=pss_nil.imp Se
theorem Sh (h1:QS X st t)(h2:QSs X sts u):QSs X (st::sts) (Zy t u):=(Ly h1 h2).imp Ks
theorem Ky (h1:QS X st t):QSs X [st] t:=Ey h1
theorem xP (he:QE X e te)(hs:aD e none pos.line X.env=pure false:=by rfl):QS X (.Expr e pos) (Sc te):=(Ez he hs).imp Sf
theorem jaX (he:QE X e te):QS X (.Return (some e) pos) (BQ te):=(Hv he).imp Kt
theorem jaY {c:T1}{a b:G0 C9}{tc:TTD}(hc:QT X c tc)(ha:QSs X a t)(hb:QSs X b u):QS X (.If c a b pos) (Sd tc t u):=(xa hc ha hb).imp xO
variable {i:G5}{x:Str}
theorem jaZ {pos':Pos}(hN:X.N.Nodup)(hi:X.N[i]? =some x)(hx:Loc X.env.scope x)(he:QE X e te)(hs:aD e (some (.Name x pos')) pos.line X.env=pure false:=by rfl)
 (hf:X.fn x=true\/X.env.scope.names.lookup x=some .local:=by first|exact .inl rfl|exact .inr rfl|assumption):QS X (.Assign [.Name x pos'] e pos) (Lu i te):=(Hy hN hi hx he hs hf).imp BR
theorem Si (hN:X.N.Nodup)(hi:X.N[i]? =some x)(hx:Loc X.env.scope x)(hf:X.fn x=true\/X.env.scope.names.lookup x=some .local:=by first|exact .inl rfl|exact .inr rfl|assumption):QG X (.Name x pos) (gN i):=
 (yQ hN hi hx hf).imp (Sg i)
theorem Kz {j:G5}{y:Str}{p1 p2:Pos}{k:G5}(hc:X.calm=true)(hN:X.N.Nodup)(hi:X.N[i]? =some x)(hj:X.N[j]? =some y)(hx:Loc X.env.scope x)(hy:Loc X.env.scope y)
 (hf:X.fn x=true\/X.env.scope.names.lookup x=some .local:=by first|exact .inl rfl|exact .inr rfl|assumption)(hf2:X.fn y=true\/X.env.scope.names.lookup y=some .local:=by first|exact .inl rfl|exact .inr rfl|assumption):
 QG X (.Tuple [.Name x p1,.Name y p2] k pos) (gT2 i j):=(RR hc (ya (yQ hN hi hx hf) (ya (yQ hN hj hy hf2) XW))).imp (Kw i j)
theorem ja0 {tg:T1}{g:TGD}(he:QE X e te)(hg:QG X tg g)(hs:Z5 [tg] e pos.line X.env=pure false:=by rfl)(hsw:Z6 [tg] e X.env=pure none:=by rfl)
 (h1:(cG [tg] X.env).map (·.2)= [eM tg X.env]:=by rfl):QS X (.Assign [tg] e pos) (xM te g):=(Hx he hg hs hsw h1).imp Ku
theorem ja1 {j:G5}{y:Str}{a b:T1}{ta:TAD}{px py pt:Pos}{kt k2 pt2}(hc:X.calm=true)(hN:X.N.Nodup)(hi:X.N[i]? =some x)(hj:X.N[j]? =some y)(hij:i≠j)
 (hx:X.env.scope.names.lookup x=some .local)(hy:X.env.scope.names.lookup y=some .local)(ha:QA X [a,b] ta)
 (hw:Z6 [.Tuple [.Name x px,.Name y py] kt pt] (.Tuple [a,b] k2 pt2) X.env=pure (some [x,y]))
 (hs:Z5 [.Tuple [.Name x px,.Name y py] kt pt] (.Tuple [a,b] k2 pt2) pos.line X.env=pure false:=by rfl):
 QS X (.Assign [.Tuple [.Name x px,.Name y py] kt pt] (.Tuple [a,b] k2 pt2) pos) (xN i j ta):=(Hz hc hN hi hj hij hx hy ha hw hs).imp Kv
end
abbrev ItD:=HD->D4 (G0 D)
def Oe (K:G6)(H:Hp)(j:ItD)(J:It):Prop:= ∀H' h',Kept H H'->RelH K h' H'-> ∀ds,j h'=some ds-> ∀i:G5,
 (∀d,ds[i]? =some d->J.go i H'/\ ∀x H'',J.yld i H' x H''->Kept H' H''/\RelH K h' H''/\RelD K H'' d x)/\(ds.length<=i->J.stop i H')
abbrev TID:=SD->HD->(ItD->HD->Prop)->Prop
def LI (K:G6)(t:TID):TI:=λσ H R=> ∃σd h Rd,RelS K H σd σ/\RelH K h H/\t σd h Rd/\ ∀j J h' H',Kept H H'->RelH K h' H'->Oe K H' j J->Rd j h'->R J H'
abbrev QI (X:Cx)(tg iter:T1)(t:TID):Prop:=PI X tg iter (LI X.K t)
theorem PI.imp {X:Cx}{tg e:T1}{t t':TI}(h:PI X tg e t)(i: ∀σ H R,t' σ H R->t σ H R):PI X tg e t':=λpins s σ H R I q=>h pins s σ H R I (i σ H R q)
def iL (te:TED):TID:=λσ h R=>te σ h λx h1=> ∃a,x= .lst a/\R (λh=>h a) h1
def iR1 (ta:TAD):TID:=λσ h R=>ta σ h λds h1=> ∃n:G8,ds= [.int n]/\ -(2^62)<=n/\n<2^62/\R (λ_=>some ((G3 n.toNat).map λ(k:G5)=>D.int (k:G8))) h1
section
variable {K:G6}
theorem GJ (H:Hp)(a:P4):Oe K H (λh=>h a) (Itl K a):=λH' h' k rh ds e i=>by
 obtain⟨vs,hv,r⟩:=rh a ds e;refine⟨λd hd=> ?_,λhl=>⟨vs,SqL.of hv,by rw [<-r.length];exact hl⟩⟩;obtain⟨v,e1,e2⟩:=r.get hd;refine⟨⟨vs,v,SqL.of hv,e1⟩,λx H'' ⟨eH,hx⟩=> ?_⟩;subst eH;have:=hx vs (SqL.of hv);rw [e1] at this;cases this;exact⟨.refl _,rh,e2⟩
theorem Of {H:Hp}{a:P4}{vs:G0 V}{ds:G0 D}(hv:H a=some (.tup vs))(r:RelDs K H ds vs):Oe K H (λ_=>some ds) (Itt K a):=λH' h' k rh ds' e i=>by
 cases e;have hv':=k.tup _ _ hv;have r':=r.mono k;refine⟨λd hd=> ?_,λhl=>⟨vs,SqT.of hv',by rw [<-r.length];exact hl⟩⟩;obtain⟨v,e1,e2⟩:=r'.get hd;refine⟨⟨vs,v,SqT.of hv',e1⟩,λx H'' ⟨eH,hx⟩=> ?_⟩;subst eH;have:=hx vs (SqT.of hv');rw [e1] at this;cases this;exact⟨.refl _,rh,e2⟩
theorem Nf (H:Hp)(lo:G8)(n:G5)(ds:G0 D)(hd:ds=(G3 n).map λ(k:G5)=>D.int (lo+(k:G8))):Oe K H (λ_=>some ds) (Itr lo n):=λH' h' k rh ds' e i=>by
 cases e;subst hd;refine⟨λd hd=> ?_,λhl=>(show n<=i by simpa using hl)⟩;rw [P9] at hd;have hi:i<n:=by
  by_cases z:i<n
  ·exact z
  ·rw [L5 (by simpa using z)] at hd;cases hd
 rw [C0 hi] at hd;cases hd;refine⟨hi,λx H'' ⟨eH,hx⟩=> ?_⟩;subst eH hx;exact⟨.refl _,rh,rfl⟩
theorem Sj {te:TED}: ∀σ H R,LI K (iL te) σ H R->HE K (LE K te) σ H R:=λσ H R ⟨σd,h,Rd,rs,rh,q,p⟩=>
 LE.bind rs rh q λd v h1 H1 k1 rs1 rh1 r1 ⟨a,e,q1⟩=>by
  subst e;obtain⟨e,vs,hv⟩:=(show v= .ref a/\ ∃vs,H1 a=some (.lst vs) from r1);exact⟨a,e,⟨vs,SqL.of hv⟩,p _ _ _ _ k1 rh1 (GJ H1 a) q1⟩
theorem xQ {ta:TAD}: ∀σ H R,LI K (iR1 ta) σ H R->HF (LA K ta) σ H R:=λσ H R ⟨σd,h,Rd,rs,rh,q,p⟩=>
 LA.bind rs rh q λds vs h1 H1 k1 rs1 rh1 r1 ⟨n,e,b1,b2,q1⟩=>by
  subst e;obtain⟨v,e,r2⟩:=jF r1;cases (show v= .int n from r2);exact⟨n,e,b1,b2,p _ _ _ _ k1 rh1 (Nf H1 0 n.toNat _ (by simp)) q1⟩
end
def KA (ti:TID)(g:TGD)(tb:TSD):TSD:=λD σ h=>ti σ h λj h1=> ∃ (n:G5) (W:G5->SD->HD->Prop),W 0 σ h1/\ ∀i σ' h',W i σ' h'-> ∃ds,j h'=some ds/\ds.length<=n/\(ds.length<=i->D.nx σ' h')/\
 ∀d,ds[i]? =some d->g d σ' h' λσ2 h2=>tb {D with nx:=λσ3 h3=> ∃h4,Sub h4 h3/\W (i+1) σ3 h4,ct:=λσ3 h3=> ∃h4,Sub h4 h3/\W (i+1) σ3 h4,bk:=D.nx} σ2 h2
theorem KB {K:G6}{ti:TID}{g:TGD}{tb:TSD}: ∀D σ H,LS K (KA ti g tb) D σ H->qN (LI K ti) (LG K g) (LS K tb) D σ H:=λD σ H ⟨σd,h,Dd,rs,rh,q,nx,rt,bk,ct⟩=>by
 refine⟨σd,h,_,rs,rh,q,λj J h1 H1 k1 rh1 jo ⟨n,W,w0,turn⟩=> ?_⟩;refine⟨λi m σ' H'=>m=n-i/\Kept H1 H'/\ ∃σd' h',RelS K H' σd' σ'/\RelH K h' H'/\W i σd' h',⟨n-0,rfl,.refl _,σd,h1,rs.mono k1,rh1,w0⟩,?_⟩;rintro i m σ' H' ⟨rfl,kp,σd',h',rs',rh',w⟩;obtain⟨ds,ej,hn,stop,go⟩:=turn i σd' h' w;have jo':=jo H' h' kp rh' ds ej i
 by_cases hi:i<ds.length
 ·obtain⟨g1,y1⟩:=jo'.1 ds[i] (G2 hi);refine .inr ⟨g1,λσ2 H2=>Kept H1 H2/\ ∃σd2 h2,RelS K H2 σd2 σ2/\RelH K h2 H2/\W (i+1) σd2 h2,λσ2 H2 ⟨k2,a,b,c,d,e⟩=>⟨n-(i+1),by omega,rfl,k2,a,b,c,d,e⟩,λx H'' y=> ?_⟩;obtain⟨k2,rh2,r2⟩:=y1 x H'' y;refine⟨ds[i],σd',h',_,r2,rs'.mono k2,rh2,go ds[i] (G2 hi),λσd3 h3 σ3 H3 k3 rs3 rh3 q3=> ?_⟩;have kk:Kept H H3:=k1.trans (kp.trans (k2.trans k3));have kk1:Kept H1 H3:=kp.trans (k2.trans k3);exact⟨σd3,h3,_,rs3,rh3,q3,λa b c d k4 rs4 rh4 ⟨h4,sb,w4⟩=>⟨kk1.trans k4,a,h4,rs4,rh4.sub sb,w4⟩,jP rt kk,λa b c d k4 rs4 rh4 q4=>nx a b c d (kk.trans k4) rs4 rh4 q4,λa b c d k4 rs4 rh4 ⟨h4,sb,w4⟩=>⟨kk1.trans k4,a,h4,rs4,rh4.sub sb,w4⟩⟩
 ·exact .inl ⟨jo'.2 (bF.mp hi),nx _ _ _ _ (k1.trans kp) rs' rh' (stop (bF.mp hi))⟩
def vT:TTD:=λ_ h Q=>Q true h
def vU (bind:D->SD->SD->Prop)(js:G0 G5)(ti:TID)(tt:TTD)(te:TED):TED:=λσ h Q=>ti σ h λj h1=> ∃ (n:G5) (W:G5->G0 D->HD->Prop),W 0 [] h1/\ ∀i ys h',W i ys h'->ys.length<=sizeLine/\
 ∃ds,j h'=some ds/\ds.length<=n/\(ds.length<=i-> ∀p,h' p=none->Q (.lst p) (wB h' p ys))/\
  ∀d,ds[i]? =some d-> ∃σ2,bind d (jJ js σ) σ2/\tt σ2 h' λb h3=>if b=true then te σ2 h3 λy h4=> ∃h5,Sub h5 h4/\W (i+1) (ys++ [y]) h5 else ∃h5,Sub h5 h3/\W (i+1) ys h5
def bN (i:G5):D->SD->SD->Prop:=λd σ σ2=>σ2=σ.set i (some d)
def b2 (i j:G5):D->SD->SD->Prop:=λd σ σ2=> ∃x y,d= .tup [x,y]/\σ2=(σ.set i (some x)).set j (some y)
theorem KC {K:G6}: ∀σ H Q,LT K vT σ H Q->qY σ H Q:=λσ H Q ⟨σd,h,Qd,rs,rh,q,p⟩=>p true h H (.refl H) rh q
def BS (K:G6)(js:G0 G5)(bind:D->SD->SD->Prop)(g:TG):Prop:= ∀ (σ:St) (σd σd2:SD) (H:Hp) (d:D) (v:V) (Q:St->Hp->Prop),RelS K H (jJ js σd) (wZ js σ)->RelD K H d v->bind d (jJ js σd) σd2->
 (∀σ2,Agree (wZ js σ) σ2->RelS K H σd2 σ2->Q σ2 H)->g v (wZ js σ) H Q
theorem KF {K:G6}{js:G0 G5}{i:G5}(hi:i∈js):BS K js (bN i) (wA i):=λσ σd σd2 H d v Q rs r b q=>by
 cases (show σd2=_ from b);exact q _ (.set v λu=>ze js σ i u hi) (rs.set r i)
theorem xR {K:G6}{js:G0 G5}{i j:G5}(hi:i∈js)(hj:j∈js)(hij:i≠j):BS K js (b2 i j) (TX K 2 (YI (wA i) (YI (wA j) TW))):=λσ σd σd2 H d v Q rs r b q=>by
 obtain⟨x,y,e,e2⟩:=b;subst e e2;obtain⟨a,vs,e,hH,r1⟩:=(show ∃a vs,v= .ref a/\H a=some (.tup vs)/\RelDs K H [x,y] vs from r);obtain⟨v1,v2,e1,r2,r3⟩:=wJ r1;subst e e1;refine⟨a,[v1,v2],rfl,SqT.of hH,rfl,v1,[v2],rfl,v2,[],rfl,rfl,q _ (.trans (.set v1 λu=>ze js σ i u hi) (.set v2 λu z=> ?_)) ((rs.set r2 i).set r3 j)⟩;rw [L8 hij] at z;exact ze js σ j u hj z
theorem Sk {K:G6}{bind:D->SD->SD->Prop}{js:G0 G5}{ti:TID}{tt:TTD}{te:TED}{g:TG}(hb:BS K js bind g): ∀σ H Q,LE K (vU bind js ti tt te) σ H Q->tLC js (LI K ti) g (LT K tt) (LE K te) σ H Q:=
 λσ H Q ⟨σd,h,Qd,rs,rh,q,p⟩=>by
  refine⟨σd,h,_,rs,rh,q,λj J h1 H1 k1 rh1 jo ⟨n,W,w0,turn⟩=> ?_⟩;refine⟨λi m ys H'=>m=n-i/\Kept H1 H'/\ ∃ds h',RelDs K H' ds ys/\RelH K h' H'/\W i ds h',⟨n-0,rfl,.refl _,[],h1,rfl,rh1,w0⟩,?_⟩;rintro i m ys H' ⟨rfl,kp,yd,h',ry,rh',w⟩;obtain⟨hz,ds,ej,hn,stop,go⟩:=turn i yd h' w;refine⟨by rw [<-ry.length];exact hz,?_⟩;have jo':=jo H' h' kp rh' ds ej i;have kk:Kept H H':=k1.trans kp
  by_cases hi:i<ds.length
  ·obtain⟨g1,y1⟩:=jo'.1 ds[i] (G2 hi);refine .inr ⟨g1,λx H'' y=> ?_⟩;obtain⟨k2,rh2,r2⟩:=y1 x H'' y;obtain⟨σd2,bd,q2⟩:=go ds[i] (G2 hi);refine hb σ σd σd2 H'' ds[i] x _ (((rs.mono (kk.trans k2))).clear js) r2 bd λσ2 ag rs2=>⟨ag,?_⟩
   refine LT.bind rs2 rh2 q2 λb h3 H3 k3 rs3 rh3 q3=> ?_
   cases b with
   |true=>
    rw [D8 rfl] at q3 ⊢;refine LE.bind rs3 rh3 q3 λd4 v4 h4 H4 k4 rs4 rh4 r4 ⟨h5,sb,w5⟩=>⟨n-(i+1),by omega,rfl,kp.trans (k2.trans (k3.trans k4)),yd++ [d4],h5,(ry.mono (k2.trans (k3.trans k4))).append (.cons r4 .nil),rh4.sub sb,w5⟩
   |false=>
    rw [D9 R0] at q3 ⊢;obtain⟨h5,sb,w5⟩:=q3;exact⟨n-(i+1),by omega,rfl,kp.trans (k2.trans k3),yd,h5,ry.mono (k2.trans k3),rh3.sub sb,w5⟩
  ·refine .inl ⟨jo'.2 (bF.mp hi),λa ha=>p (.lst a) (.ref a) _ _ (kk.trans (.new ha)) (rh'.newL ha ry) ⟨rfl,ys,jw⟩ (stop (bF.mp hi) a (rh'.free ha))⟩
theorem wj {X:Cx}{scope:U5}{C:P4}{s₀:P0}{H₀:Hp}{ex:G0 P4}{i:G5}{x:Str}{p:Pos}(hN:X.N.Nodup)(hx:X.N[i]? =some x)(hl:scope.names.lookup x=some .local\/scope.names.lookup x=some .cell):
 PG (Zw X scope C s₀ H₀ ex) (.Name x p) (wA i):=by
 rcases hl with z|z
 ·exact yQ hN hx (.inl (lI z)) (.inr (lI z))
 ·exact yQ hN hx (.inr (Zv z)) (.inl (by show (scope.names.lookup x==some aB)=true;rw [z];rfl))
section
variable {X:Cx}{tg e iter elt:T1}{te:TED}{ti:TID}{g:TGD}{tb:TSD}{tt:TTD}{pos:Pos}{ta:TAD}{scope:U5}{js:G0 G5}{ifs:G0 T1}
theorem Sl (he:QE X e te):QI X tg e (iL te):=(EA he).imp Sj
theorem xS {p:Pos}{a:T1}(hg:Gl X "range")(hm:X.mg "range" =none)(ha:QA X [a] ta)(hs:D6 [a] X.env= [(false,O5 a X.env)]:=by rfl):QI X tg (.Call (.Name "range" p) [a] [] pos) (iR1 ta):=(Bn hg hm ha hs).imp xQ
theorem ja2 {body:G0 C9}(hp:l9 (T4 X.prog X.w) X.A X.env X.xe)(hc:X.calm=true)(hi:QI X tg iter ti)(hg:QG X tg g)(hb:QSs X body tb)(hs: ∀x,S9 iter X.env x=pure x:=by intro _;rfl):
 QS X (.For tg iter body [] pos) (KA ti g tb):=(HG hp hc hi hg hb hs).imp KB
theorem Sm:PTs X [] (LT X.K vT):=λpins s σ H Q I h=>EU pins s σ H Q I (KC σ H Q h)
theorem Sn {c:T1}(hc:QT X c tt):PTs X [c] (LT X.K tt):=EV hc
theorem qlc {i:G5}{x:Str}{p:Pos}(hc:X.calm=true)(S:BlockOk X scope js)(hi:QI X (.Name x p) iter ti)(hj:i∈js)(hN:X.N.Nodup)(hx:X.N[i]? =some x)(hl:scope.names.lookup x=some .local\/scope.names.lookup x=some .cell)
 (ht: ∀X',ji X scope X'->PTs X' ifs (LT X'.K tt))(he: ∀X',ji X scope X'->QE X' elt te)(hs: ∀x,S9 iter X.env x=pure x:=by intro _;rfl):
 QE X (.ListComp elt [⟨.Name x p,iter,ifs,0⟩] scope pos) (vU (bN i) js ti tt te):=
 (Ke hc S hi (λX' hX=>by obtain⟨C,s₀,H₀,ex,rfl⟩:=hX;exact wj hN hx hl) (λX' hX=>by have:=ht X' hX;obtain⟨C,s₀,H₀,ex,rfl⟩:=hX;exact this)
  (λX' hX=>by have:=he X' hX;obtain⟨C,s₀,H₀,ex,rfl⟩:=hX;exact this) hs).imp (Sk (KF hj))
theorem ja3 {i j:G5}{x y:Str}{p1 p2 p3:Pos}{k:G5}(hc:X.calm=true)(S:BlockOk X scope js)(hi:QI X (.Tuple [.Name x p1,.Name y p2] k p3) iter ti)(hj:i∈js)(hj2:j∈js)(hij:i≠j)(hN:X.N.Nodup)(hx:X.N[i]? =some x)(hy:X.N[j]? =some y)
 (hl:scope.names.lookup x=some .local\/scope.names.lookup x=some .cell)(hl2:scope.names.lookup y=some .local\/scope.names.lookup y=some .cell)
 (ht: ∀X',ji X scope X'->PTs X' ifs (LT X'.K tt))(he: ∀X',ji X scope X'->QE X' elt te)(hs: ∀x,S9 iter X.env x=pure x:=by intro _;rfl):
 QE X (.ListComp elt [⟨.Tuple [.Name x p1,.Name y p2] k p3,iter,ifs,0⟩] scope pos) (vU (b2 i j) js ti tt te):=
 (Ke hc S hi (λX' hX=>by
  obtain⟨C,s₀,H₀,ex,rfl⟩:=hX;exact RR hc (ya (wj hN hx hl) (ya (wj hN hy hl2) XW))) (λX' hX=>by have:=ht X' hX;obtain⟨C,s₀,H₀,ex,rfl⟩:=hX;exact this)
  (λX' hX=>by have:=he X' hX;obtain⟨C,s₀,H₀,ex,rfl⟩:=hX;exact this) hs).imp (Sk (xR hj hj2 hij))
end
def LSp (K:G6)(spd:RDn):Sp:=λvs H Q _=>LC K spd vs H Q
theorem So {K:G6}{spd:RDn}{t:TAD}{E:XK}: ∀σ H Q,LE K (dCB spd t) σ H Q->HQ (LSp K spd) [] E (LA K t) σ H Q:=λσ H Q ⟨σd,h,Qd,rs,rh,t,p⟩=>
 LA.bind rs rh t λds vs h1 H1 k1 rs1 rh1 r1 q=>by rw [A2];exact⟨ds,h1,Qd,r1,rh1,q,jP p k1⟩
section
variable {X:Cx}{k:G5}{f:P4}{fd:R6}{ps:G0 Str}{spd:RDn}{x:Str}{p pos:Pos}{e:T1}{es:G0 T1}{t:TAD}
theorem xT (F:FnOk X.prog X.w X.K X.mg X.base CX0 k f fd ps (LSp X.K spd))(hr:Room k X.A)(hg:Gl X x)(hm:X.mg x=some (.ref f))(hk:aE X.K (.ref f)=true)(hb:Binds X.K fd ps [])
 (ha:QA X (e::es) t)(hdb:(x==("__debug__" :Str))=false:=by decide)(he:D6 (e::es) X.env=(false,O5 e X.env)::D6 es X.env:=by rfl)(hpl:(E7 pos (D6 es X.env)).any (·.1)=false:=by rfl):
 QE X (.Call (.Name x p) (e::es) [] pos) (dCB spd t):=(EH F hr hg hm hk hb .nil xu ha hdb he hpl).imp So
theorem KG {id:U1}{r:RDn}(hc:Zh X (.builtin id) r)(hg:Gl X x)(hm:X.mg x=none)(hv:E3 x=some (.builtin id))(ha:QA X (e::es) t)(hn:x≠ "__name__" :=by decide)(hdb:(x==("__debug__" :Str))=false:=by decide)
 (he:D6 (e::es) X.env=(false,O5 e X.env)::D6 es X.env:=by rfl)(hpl:(E7 pos (D6 es X.env)).any (·.1)=false:=by rfl):QE X (.Call (.Name x p) (e::es) [] pos) (dCB r t):=(RS hc hg hm hv ha hn hdb he hpl).imp Km
theorem Sr {T:U1}{r:RDn}(hc:Zh X (.type T) r)(hg:Gl X x)(hm:X.mg x=none)(hv:E3 x=some (.type T))(ha:QA X (e::es) t)(hn:x≠ "__name__" :=by decide)(hdb:(x==("__debug__" :Str))=false:=by decide)
 (he:D6 (e::es) X.env=(false,O5 e X.env)::D6 es X.env:=by rfl)(hpl:(E7 pos (D6 es X.env)).any (·.1)=false:=by rfl):QE X (.Call (.Name x p) (e::es) [] pos) (dCB r t):=(GC hc hg hm hv ha hn hdb he hpl).imp Km
end
def vc (N:G0 Str)(ds:G0 D):SD:=ds.map some++N3 (N.length-ds.length) none
theorem Ng {K:G6}{H:Hp}{N:G0 Str}{ds:G0 D}{vs:G0 V}(r:RelDs K H ds vs):RelS K H (vc N ds) (start N vs):=by
 have hl:=r.length;refine⟨by unfold vc start;simp [hl],λi d e=> ?_⟩;unfold vc at e;unfold start
 by_cases hi:i<ds.length
 ·rw [S4 (by simpa using hi),P9] at e;cases q:ds[i]? with
  |none=>rw [q] at e;cases e
  |some d'=>
   rw [q] at e;cases e;obtain⟨v,e1,e2⟩:=r.get q;exact⟨v,by rw [S4 (by simpa [<-hl] using hi),P9,e1];rfl,e2⟩
 ·rw [R4 (by simpa using hi),g8] at e;split at e<;>cases e
def Lv (Q:KD):EndsD:= {nx:=λ_ h=> ∃h',Sub h' h/\Q .non h',rt:=λd h=> ∃h',Sub h' h/\Q d h'}
section
variable {P:M0}{w:C6}{K:G6}{mg:Str->D4 G7}{base:L6}
theorem Fun.okD {x qual:Str}{st:C9}{f:P4}{fd:R6}{N ps:G0 Str}{k:G5}{spd:RDn}(F:Fun K x qual st f fd)(S:FnScope N ps (jd st))(len: ∀ds h Q,spd ds h Q->ds.length=ps.length)
 (tb:TSD)(hbody: ∀ (cdv:G7) (A:C5) (outer:G0 Env) (s:P0) (H:Hp) (E:XK),Room k (A.deeper (fT qual (jd st) s.heap.objs.size f cdv))->QSs (LK CX0 P w K mg base N qual (jd st) f cdv A outer s H E).nox (wR st) tb)
 (read: ∀ds h Q,spd ds h Q->tb (Lv Q) (vc N ds) h):FnOk P w K mg base CX0 (k+1) f fd ps (LSp K spd):=by
 refine F.ok S (λvs H Q E h=> ?_) (λcdv A outer s H vs Q E hr h=> ?_)
 ·obtain⟨ds,h,Qd,r,rh,q,p⟩:=h;rw [<-r.length];exact len _ _ _ q
 ·obtain⟨ds,h,Qd,r,rh,q,p⟩:=h;refine⟨_,hbody cdv A outer s H E hr,vc N ds,h,Lv Qd,Ng r,rh,read ds h Qd q,λσd' h' σ' H' k rs' rh' ⟨h2,sb,q'⟩=>p .non .non h2 H' k (rh'.sub sb) rfl q',λd v h' H' k rh' r' ⟨h2,sb,q'⟩=>p d v h2 H' k (rh'.sub sb) r' q',λ_ _ _ _ _ _ _ z=>z.elim,λ_ _ _ _ _ _ _ z=>z.elim⟩
end
section
variable {X:Cx}{iter elt:T1}{te:TED}{ti:TID}{tt:TTD}{pos spos:Pos}{scope:U5}{js:G0 G5}{ifs:G0 T1}
theorem KH {i k:G5}{x y:Str}{p py:Pos}(hc:X.calm=true)(hN:X.N.Nodup)(hk:X.N[k]? =some y)(hy:Loc X.env.scope y)(S:BlockOk X scope js)(hi:QI X (.Name x p) iter ti)(hj:i∈js)(hx:X.N[i]? =some x)(hl:scope.names.lookup x=some .local\/scope.names.lookup x=some .cell)
 (ht: ∀X',ji X scope X'->PTs X' ifs (LT X'.K tt))(he: ∀X',ji X scope X'->QE X' elt te)
 (hsw:aD (.ListComp elt [⟨.Name x p,iter,ifs,0⟩] scope pos) (some (.Name y py)) spos.line X.env=pure true:=by rfl)
 (hf:X.fn y=true\/X.env.scope.names.lookup y=some .local:=by first|exact .inl rfl|exact .inr rfl|assumption)(hs: ∀x,S9 iter X.env x=pure x:=by intro _;rfl):
 QS X (.Assign [.Name y py] (.ListComp elt [⟨.Name x p,iter,ifs,0⟩] scope pos) spos) (Lu k (vU (bN i) js ti tt te)):=by
 have base:PS X (.Assign [.Name y py] (.ListComp elt [⟨.Name x p,iter,ifs,0⟩] scope pos) spos) (AK (tLC js (LI X.K ti) (wA i) (LT X.K tt) (LE X.K te)) (wA k)):=
  LZ hc S hi (λX' hX=>by obtain⟨C,s₀,H₀,ex,rfl⟩:=hX;exact wj hN hx hl) (λX' hX=>by have:=ht X' hX;obtain⟨C,s₀,H₀,ex,rfl⟩:=hX;exact this)
   (λX' hX=>by have:=he X' hX;obtain⟨C,s₀,H₀,ex,rfl⟩:=hX;exact this) (yQ hN hk hy hf) hsw hs
 exact base.imp λD σ H h=>by
  obtain⟨σd,hd,Qd,rs,rh,t,p⟩:=BR (K:=X.K) D σ H h;exact Sk (KF hj) σ H _ ⟨σd,hd,Qd,rs,rh,t,p⟩
end
def dIn (i':G5)(ti:TID)(tt:TTD)(te:TED)(V:G0 D->HD->Prop)(ys:G0 D):SD->HD->Prop:=λσ h=>ti σ h λj h1=> ∃ (n:G5) (W:G5->G0 D->HD->Prop),W 0 ys h1/\ ∀i ys h',W i ys h'->ys.length<=sizeLine/\
 ∃ds,j h'=some ds/\ds.length<=n/\(ds.length<=i->V ys h')/\
  ∀d,ds[i]? =some d->tt (σ.set i' (some d)) h' λb h3=>if b=true then te (σ.set i' (some d)) h3 λy h4=> ∃h5,Sub h5 h4/\W (i+1) (ys++ [y]) h5 else ∃h5,Sub h5 h3/\W (i+1) ys h5
def Dt (bind:D->SD->SD->Prop)(js:G0 G5)(ti:TID)(tt:TTD)(i':G5)(ti':TID)(tt':TTD)(te:TED):TED:=λσ h Q=>ti σ h λj h1=> ∃ (n:G5) (W:G5->G0 D->HD->Prop),W 0 [] h1/\ ∀i ys h',W i ys h'->ys.length<=sizeLine/\
 ∃ds,j h'=some ds/\ds.length<=n/\(ds.length<=i-> ∀p,h' p=none->Q (.lst p) (wB h' p ys))/\
  ∀d,ds[i]? =some d-> ∃σ2,bind d (jJ js σ) σ2/\tt σ2 h' λb h3=>if b=true then dIn i' ti' tt' te (λys' h6=> ∃h5,Sub h5 h6/\W (i+1) ys' h5) ys σ2 h3 else ∃h5,Sub h5 h3/\W (i+1) ys h5
def Du (K:G6)(js:G0 G5)(i':G5)(bind:D->SD->SD->Prop)(g:TG):Prop:= ∀ (σ:St) (σd σd2:SD) (H:Hp) (d:D) (v:V) (Q:St->Hp->Prop),RelS K H (jJ js σd) (wZ js σ)->RelD K H d v->bind d (jJ js σd) σd2->
 (∀σ2,Agree (wZ js σ) σ2->(∀u,¬σ2[i']? =some (some u))->RelS K H σd2 σ2->Q σ2 H)->g v (wZ js σ) H Q
theorem AV {K:G6}{js:G0 G5}{i i':G5}(hi:i∈js)(hi':i'∈js)(hne:i≠i'):Du K js i' (bN i) (wA i):=λσ σd σd2 H d v Q rs r b q=>by
 cases (show σd2=_ from b);refine q _ (.set v λu=>ze js σ i u hi) (λu z=> ?_) (rs.set r i);rw [L8 hne] at z;exact ze js σ i' u hi' z
theorem KI {K:G6}{js:G0 G5}{i j i':G5}(hi:i∈js)(hj:j∈js)(hi':i'∈js)(hij:i≠j)(h1:i≠i')(h2:j≠i'):Du K js i' (b2 i j) (TX K 2 (YI (wA i) (YI (wA j) TW))):=λσ σd σd2 H d v Q rs r b q=>by
 obtain⟨x,y,e,e2⟩:=b;subst e e2;obtain⟨a,vs,e,hH,r1⟩:=(show ∃a vs,v= .ref a/\H a=some (.tup vs)/\RelDs K H [x,y] vs from r);obtain⟨v1,v2,e1,r2,r3⟩:=wJ r1;subst e e1;refine⟨a,[v1,v2],rfl,SqT.of hH,rfl,v1,[v2],rfl,v2,[],rfl,rfl,q _ (.trans (.set v1 λu=>ze js σ i u hi) (.set v2 λu z=> ?_)) (λu z=> ?_) ((rs.set r2 i).set r3 j)⟩
 ·rw [L8 hij] at z;exact ze js σ j u hj z
 ·rw [L8 h2,L8 h1] at z;exact ze js σ i' u hi' z
theorem BT {K:G6}{bind:D->SD->SD->Prop}{js:G0 G5}{i':G5}{ti ti':TID}{tt tt':TTD}{te:TED}{g:TG}(hb:Du K js i' bind g): ∀σ H Q,LE K (Dt bind js ti tt i' ti' tt' te) σ H Q->Kf js (LI K ti) g (LT K tt) (LI K ti') (wA i') (LT K tt') (LE K te) σ H Q:=
 λσ H Q ⟨σd,h,Qd,rs,rh,q,p⟩=>by
  refine⟨σd,h,_,rs,rh,q,λj J h1 H1 k1 rh1 jo ⟨n,W,w0,turn⟩=> ?_⟩;refine⟨λi m ys H'=>m=n-i/\Kept H1 H'/\ ∃ds h',RelDs K H' ds ys/\RelH K h' H'/\W i ds h',⟨n-0,rfl,.refl _,[],h1,rfl,rh1,w0⟩,?_⟩;rintro i m ys H' ⟨rfl,kp,yd,h',ry,rh',w⟩;obtain⟨hz,ds,ej,hn,stop,go⟩:=turn i yd h' w;refine⟨by rw [<-ry.length];exact hz,?_⟩;have jo':=jo H' h' kp rh' ds ej i;have kk:Kept H H':=k1.trans kp
  by_cases hi:i<ds.length
  ·obtain⟨g1,y1⟩:=jo'.1 ds[i] (G2 hi);refine .inr ⟨g1,λx H'' y=> ?_⟩;obtain⟨k2,rh2,r2⟩:=y1 x H'' y;obtain⟨σd2,bd,q2⟩:=go ds[i] (G2 hi);refine hb σ σd σd2 H'' ds[i] x _ (((rs.mono (kk.trans k2))).clear js) r2 bd λσ2 ag un rs2=>⟨ag,?_⟩
   refine LT.bind rs2 rh2 q2 λb h3 H3 k3 rs3 rh3 q3=> ?_
   cases b with
   |true=>
    rw [D8 rfl] at q3 ⊢
    -- the second clause
    refine⟨σd2,h3,_,rs3,rh3,q3,λj2 J2 h4 H4 k4 rh4 jo2 ⟨n2,W2,w20,turn2⟩=> ?_⟩;refine⟨λi2 m2 ys2 H5=>m2=n2-i2/\Kept H4 H5/\ ∃ds h5,RelDs K H5 ds ys2/\RelH K h5 H5/\W2 i2 ds h5,⟨n2-0,rfl,.refl _,yd,h4,ry.mono (k2.trans (k3.trans k4)),rh4,w20⟩,?_⟩;rintro i2 m2 ys2 H5 ⟨rfl,kp5,yd5,h5,ry5,rh5,w5⟩;obtain⟨hz5,ds5,ej5,hn5,stop5,go5⟩:=turn2 i2 yd5 h5 w5;refine⟨by rw [<-ry5.length];exact hz5,?_⟩;have jo5:=jo2 H5 h5 kp5 rh5 ds5 ej5 i2;have kk5:Kept H1 H5:=kp.trans (k2.trans (k3.trans (k4.trans kp5)))
    by_cases hi5:i2<ds5.length
    ·obtain⟨g5,y5⟩:=jo5.1 ds5[i2] (G2 hi5);refine .inr ⟨g5,λx6 H6 yy6=> ?_⟩;obtain⟨k6,rh6,r6⟩:=y5 x6 H6 yy6;refine⟨.set x6 un,?_⟩;have rs6:=(rs3.mono (k4.trans (kp5.trans k6))).set r6 i';refine LT.bind rs6 rh6 (go5 ds5[i2] (G2 hi5)) λb h7 H7 k7 rs7 rh7 q7=> ?_
     cases b with
     |true=>
      rw [D8 rfl] at q7 ⊢;exact LE.bind rs7 rh7 q7 λd8 v8 h8 H8 k8 rs8 rh8 r8 ⟨h9,sb,w9⟩=>⟨n2-(i2+1),by omega,rfl,kp5.trans (k6.trans (k7.trans k8)),yd5++ [d8],h9,(ry5.mono (k6.trans (k7.trans k8))).append (.cons r8 .nil),rh8.sub sb,w9⟩
     |false=>
      rw [D9 R0] at q7 ⊢;obtain⟨h9,sb,w9⟩:=q7;exact⟨n2-(i2+1),by omega,rfl,kp5.trans (k6.trans k7),yd5,h9,ry5.mono (k6.trans k7),rh7.sub sb,w9⟩
    ·obtain⟨h9,sb,w9⟩:=stop5 (bF.mp hi5);exact .inl ⟨jo5.2 (bF.mp hi5),n-(i+1),by omega,rfl,kk5,yd5,h9,ry5,rh5.sub sb,w9⟩
   |false=>
    rw [D9 R0] at q3 ⊢;obtain⟨h5,sb,w5⟩:=q3;exact⟨n-(i+1),by omega,rfl,kp.trans (k2.trans k3),yd,h5,ry.mono (k2.trans k3),rh3.sub sb,w5⟩
  ·refine .inl ⟨jo'.2 (bF.mp hi),λa ha=>p (.lst a) (.ref a) _ _ (kk.trans (.new ha)) (rh'.newL ha ry) ⟨rfl,ys,jw⟩ (stop (bF.mp hi) a (rh'.free ha))⟩
section
variable {X:Cx}{iter iter' elt:T1}{te:TED}{ti ti':TID}{tt tt':TTD}{pos:Pos}{scope:U5}{js:G0 G5}{ifs ifs':G0 T1}
theorem ja4 {i i':G5}{x y:Str}{p py:Pos}(hc:X.calm=true)(S:BlockOk X scope js)(hi:QI X (.Name x p) iter ti)(hj:i∈js)(hj':i'∈js)(hne:i≠i')(hN:X.N.Nodup)(hx:X.N[i]? =some x)(hy:X.N[i']? =some y)
 (hl:scope.names.lookup x=some .local\/scope.names.lookup x=some .cell)(hl':scope.names.lookup y=some .local\/scope.names.lookup y=some .cell)
 (ht: ∀X',ji X scope X'->PTs X' ifs (LT X'.K tt))(hi': ∀X',ji X scope X'->QI X' (.Name y py) iter' ti')(ht': ∀X',ji X scope X'->PTs X' ifs' (LT X'.K tt'))(he: ∀X',ji X scope X'->QE X' elt te)
 (hs: ∀x,S9 iter X.env x=pure x:=by intro _;rfl)(hs': ∀env x,S9 iter' env x=pure x:=by intro _ _;rfl):
 QE X (.ListComp elt [⟨.Name x p,iter,ifs,0⟩,⟨.Name y py,iter',ifs',0⟩] scope pos) (Dt (bN i) js ti tt i' ti' tt' te):=
 (show PE X _ (Kf js (LI X.K ti) (wA i) (LT X.K tt) (LI X.K ti') (wA i') (LT X.K tt') (LE X.K te)) from AS hc S hi (λX' hX=>by obtain⟨C,s₀,H₀,ex,rfl⟩:=hX;exact wj hN hx hl) (λX' hX=>by have:=ht X' hX;obtain⟨C,s₀,H₀,ex,rfl⟩:=hX;exact this) (λX' hX=>by have:=hi' X' hX;obtain⟨C,s₀,H₀,ex,rfl⟩:=hX;exact this)
  (λX' hX=>by obtain⟨C,s₀,H₀,ex,rfl⟩:=hX;exact wj hN hy hl') (λX' hX=>by have:=ht' X' hX;obtain⟨C,s₀,H₀,ex,rfl⟩:=hX;exact this)
  (λX' hX=>by have:=he X' hX;obtain⟨C,s₀,H₀,ex,rfl⟩:=hX;exact this) hs hs').imp (BT (AV hj hj' hne))
end
def ja5:RD2:=λx y h Q=>match x,y with
 | .int i,.int j=>Q (.int (i+j)) h
 | .tup a,.tup b=>a.length+b.length<=sizeLine/\Q (.tup (a++b)) h
 | .lst a,.lst b=> ∃xs ys,h a=some xs/\h b=some ys/\xs.length+ys.length<=sizeLine/\ ∀p,h p=none->Q (.lst p) (wB h p (xs++ys))
 |_,_=>False
def qZ:RD2:=λx y h Q=>match x,y with
 | .int i,.int j=>Q (.int (i-j)) h
 |_,_=>False
def jaa:RD2:=λx y h Q=>match x,y with
 | .int i,.int j=>CMul i j/\Q (.int (i*j)) h
 | .lst a,.int k=> ∃xs,h a=some xs/\ -(2^63)<=k/\k<2^63/\xs.length*k.toNat<=sizeLine/\ ∀p,h p=none->Q (.lst p) (wB h p (N3 k.toNat xs).flatten)
 |_,_=>False
def ja6:RD2:=λx y h Q=>match x,y with
 | .int i,.int j=>0<j/\Q (.int (i%j)) h
 |_,_=>False
def xU:RD2:=λx y h Q=>match x,y with
 | .int i,.int j=>qP i j/\Q (.int (i / j)) h
 |_,_=>False
def jab:RD2:=λx y h Q=>match x,y with
 | .int i,.int j=>qQ i j/\Q (.int (i^j.toNat)) h
 |_,_=>False
def AW (p:G8->G8->T9):RD2:=λx y h Q=>match x,y with
 | .int i,.int j=>Q (.bl (p i j)) h
 |_,_=>False
def eqD:RD2:=λx y h Q=>match x,y with
 | .int i,.int j=>Q (.bl (decide (i=j))) h
 | .bl i,.bl j=>Q (.bl (decide (i=j))) h
 | .str i,.str j=>Q (.bl (decide (i=j))) h
 |_,_=>False
def neD:RD2:=λx y h Q=>match x,y with
 | .int i,.int j=>Q (.bl (!decide (i=j))) h
 | .bl i,.bl j=>Q (.bl (!decide (i=j))) h
 | .str i,.str j=>Q (.bl (!decide (i=j))) h
 |_,_=>False
section
variable {X:Cx}
theorem Qf {f:G7->G7->Sem G7}{C:G8->G8->Prop}{g:G8->G8->V}{gd:G8->G8->D}{r:RD2}(ho:OpR X f (rI C g))(hg: ∀i j H,RelD X.K H (gd i j) (g i j))
 (hr: ∀x y h Q,r x y h Q-> ∃i j,x= .int i/\y= .int j/\C i j/\Q (gd i j) h):OpQ X f r:=ho.imp λx y H Q ⟨dx,dy,h,Qd,rx,ry,rh,q,p⟩=>by
 obtain⟨i,j,e1,e2,c,q'⟩:=hr dx dy h Qd q;subst e1 e2;exact⟨i,j,rx,ry,c,p _ _ _ _ (.refl H) rh (hg i j H) q'⟩
theorem Wd {f:G7->G7->Sem G7}{g:G8->G8->V}{gd:G8->G8->D}{r:RD2}(ho:OpR X f (rI0 g))(hg: ∀i j H,RelD X.K H (gd i j) (g i j))
 (hr: ∀x y h Q,r x y h Q-> ∃i j,x= .int i/\y= .int j/\Q (gd i j) h):OpQ X f r:=ho.imp λx y H Q ⟨dx,dy,h,Qd,rx,ry,rh,q,p⟩=>by
 obtain⟨i,j,e1,e2,q'⟩:=hr dx dy h Qd q;subst e1 e2;exact⟨i,j,rx,ry,p _ _ _ _ (.refl H) rh (hg i j H) q'⟩
theorem Jl:OpQ X (E9 .Sub) qZ:=Wd (gd:=λi j=> .int (i-j)) HH (λ_ _ _=>rfl) λx y h Q q=>by
 cases x<;>cases y<;>first|exact False.elim q|exact⟨_,_,rfl,rfl,q⟩
theorem vV:OpQ X (E9 .Mod) ja6:=Qf (gd:=λi j=> .int (i%j)) HI (λ_ _ _=>rfl) λx y h Q q=>by
 cases x<;>cases y<;>first|exact False.elim q|exact⟨_,_,rfl,rfl,q.1,q.2⟩
theorem Su:OpQ X (E9 .FloorDiv) xU:=Qf (gd:=λi j=> .int (i / j)) EB (λ_ _ _=>rfl) λx y h Q q=>by
 cases x<;>cases y<;>first|exact False.elim q|exact⟨_,_,rfl,rfl,q.1,q.2⟩
theorem AX:OpQ X (E9 .Pow) jab:=Qf (gd:=λi j=> .int (i^j.toNat)) HJ (λ_ _ _=>rfl) λx y h Q q=>by
 cases x<;>cases y<;>first|exact False.elim q|exact⟨_,_,rfl,rfl,q.1,q.2⟩
theorem Qg {p:G8->G8->T9}: ∀x y h Q,AW p x y h Q-> ∃i j,x= .int i/\y= .int j/\Q (.bl (p i j)) h:=λx y h Q q=>by
 cases x<;>cases y<;>first|exact False.elim q|exact⟨_,_,rfl,rfl,q⟩
theorem Qh:OpQ X (N9 .Lt) (AW λi j=>decide (i<j)):=Wd (gd:=λi j=> .bl (decide (i<j))) xi (λ_ _ _=>rfl) Qg
theorem BU:OpQ X (N9 .LtE) (AW λi j=>decide (i<=j)):=Wd (gd:=λi j=> .bl (decide (i<=j))) xj (λ_ _ _=>rfl) Qg
theorem Sv:OpQ X (N9 .Gt) (AW λi j=>decide (j<i)):=Wd (gd:=λi j=> .bl (decide (j<i))) xk (λ_ _ _=>rfl) Qg
theorem Dv:OpQ X (N9 .GtE) (AW λi j=>decide (j<=i)):=Wd (gd:=λi j=> .bl (decide (j<=i))) xn (λ_ _ _=>rfl) Qg
theorem TZ {α:Type}[DecidableEq α]{f:α->V}(hf: ∀a b,f a=f b->a=b)(a b:α):decide (f a=f b)=decide (a=b):=by
 by_cases h:a=b
 ·subst h;simp
 ·rw [D5 h,D5 (λe=>h (hf a b e))]
theorem oq_eq:OpQ X (N9 .Eq) eqD:=op_eq.imp λx y H Q ⟨dx,dy,h,Qd,rx,ry,rh,q,p⟩=>by
 cases dx<;>cases dy<;>first
  |exact False.elim q
  |(cases (show x= .int _ from rx);cases (show y= .int _ from ry);refine⟨rfl,p _ _ _ _ (.refl H) rh ?_ q⟩;rw [TZ (f:=V.int) (λa b e=>by cases e;rfl)];rfl)
  |(cases (show x= .bl _ from rx);cases (show y= .bl _ from ry);refine⟨rfl,p _ _ _ _ (.refl H) rh ?_ q⟩;rw [TZ (f:=V.bl) (λa b e=>by cases e;rfl)];rfl)
  |(cases (show x= .str _ from rx);cases (show y= .str _ from ry);refine⟨rfl,p _ _ _ _ (.refl H) rh ?_ q⟩;rw [TZ (f:=V.str) (λa b e=>by cases e;rfl)];rfl)
theorem oq_ne:OpQ X (N9 .NotEq) neD:=op_ne.imp λx y H Q ⟨dx,dy,h,Qd,rx,ry,rh,q,p⟩=>by
 cases dx<;>cases dy<;>first
  |exact False.elim q
  |(cases (show x= .int _ from rx);cases (show y= .int _ from ry);refine⟨rfl,p _ _ _ _ (.refl H) rh ?_ q⟩;rw [TZ (f:=V.int) (λa b e=>by cases e;rfl)];rfl)
  |(cases (show x= .bl _ from rx);cases (show y= .bl _ from ry);refine⟨rfl,p _ _ _ _ (.refl H) rh ?_ q⟩;rw [TZ (f:=V.bl) (λa b e=>by cases e;rfl)];rfl)
  |(cases (show x= .str _ from rx);cases (show y= .str _ from ry);refine⟨rfl,p _ _ _ _ (.refl H) rh ?_ q⟩;rw [TZ (f:=V.str) (λa b e=>by cases e;rfl)];rfl)
def KJ (K:G6):R2:=λx y H Q=> ∃a b xs ys,x= .ref a/\y= .ref b/\SqT K H a xs/\SqT K H b ys/\xs= []/\Q (.ref b) H
theorem op_catT0:OpR X (E9 .Add) (KJ X.K):=by
 intro pins s σ H x y v u Q I rx ry h;obtain⟨a,b,xs,ys,rfl,rfl,ha,hb,hx,q⟩:=h;cases rx;cases ry;obtain⟨its,r1,p1,_⟩:=I.tuple ha;obtain⟨its2,r2,p2,_⟩:=I.tuple hb;have hv:its= []:=r1.nil_iff.mpr hx;obtain⟨⟨cls,dd,data,sl⟩,ho,hc,n,hd⟩:=id p1;obtain⟨⟨cls2,dd2,G0f,sl2⟩,ho2,hc2,n2,hd2⟩:=id p2;simp only at hc hd hc2 hd2;subst hc hd hc2 hd2;exact nE ⟨_,ho,rfl⟩ ⟨_,ho2,rfl⟩ hO mJ cV cO (bY _ _)
  (tuple_addW0 a b its.toArray its2.toArray n n2 dd dd2 sl sl2 (by simp [hv])) ⟨ho,ho2,.ref b,H,I,rfl,q⟩
theorem we:OpQ X (E9 .Add) ja5:=(op_add.or (op_catT.or (op_catT0.or HX))).imp λx y H Q ⟨dx,dy,h,Qd,rx,ry,rh,q,p⟩=>by
 cases dx<;>cases dy<;>first
  |exact False.elim q
  |skip
 ·exact .inl ⟨_,_,rx,ry,p (.int _) _ _ _ (.refl H) rh rfl q⟩
 ·rename_i ds es;obtain⟨a,vs,e1,h1,r1⟩:=(show ∃a vs,x= .ref a/\H a=some (.tup vs)/\RelDs X.K H ds vs from rx);obtain⟨b,us,e2,h2,r2⟩:=(show ∃a vs,y= .ref a/\H a=some (.tup vs)/\RelDs X.K H es vs from ry);subst e1 e2;obtain⟨hz,q⟩:=q
  by_cases hv:vs= []
  ·subst hv;have e:ds= []:=aG.mp r1.length;subst e;exact .inr (.inr (.inl ⟨a,b,[],us,rfl,rfl,SqT.of h1,SqT.of h2,rfl,p (.tup es) _ _ _ (.refl H) rh ⟨b,us,rfl,h2,r2⟩ q⟩))
  ·refine .inr (.inl ⟨a,b,vs,us,rfl,rfl,SqT.of h1,SqT.of h2,hv,by rw [<-r1.length,<-r2.length];exact hz,λe=> ?_,λ_ c hc=> ?_⟩)
   ·subst e;have e:es= []:=aG.mp r2.length;subst e;rw [A2] at q;exact p (.tup ds) _ _ _ (.refl H) rh ⟨a,vs,rfl,h1,r1⟩ q
   ·exact p (.tup (ds++es)) _ _ _ (.new hc) (rh.new hc) ⟨c,vs++us,rfl,jw,(r1.append r2).mono (.new hc)⟩ q
 ·rename_i a b;obtain⟨xs,ys,h1,h2,hz,q⟩:=q;obtain⟨vs,e1,r1⟩:=rh a xs h1;obtain⟨us,e2,r2⟩:=rh b ys h2;refine .inr (.inr (.inr ⟨a,b,vs,us,rx.1,ry.1,e1,e2,by rw [<-r1.length,<-r2.length];exact hz,λc hc=> ?_⟩));exact p (.lst c) _ _ _ (.new hc) (rh.newL hc (r1.append r2)) ⟨rfl,_,jw⟩ (q c (rh.free hc))
theorem RelDs.flat {K:G6}{H:Hp}{ds:G0 D}{vs:G0 V}(r:RelDs K H ds vs): ∀k:G5,RelDs K H (N3 k ds).flatten (N3 k vs).flatten
 |0=>by simp;exact .nil
 |k+1=>by rw [Q7,Q7,Y2,Y2];exact r.append (RelDs.flat r k)
theorem oq_mul:OpQ X (E9 .Mult) jaa:=(op_mul.or HY).imp λx y H Q ⟨dx,dy,h,Qd,rx,ry,rh,q,p⟩=>by
 cases dx<;>cases dy<;>first
  |exact False.elim q
  |skip
 ·exact .inl ⟨_,_,rx,ry,q.1,p (.int _) _ _ _ (.refl H) rh rfl q.2⟩
 ·obtain⟨xs,h1,b1,b2,hz,q⟩:=q;obtain⟨vs,e1,r1⟩:=rh _ xs h1;refine .inr ⟨_,_,vs,rx.1,ry,e1,b1,b2,by rw [<-r1.length];exact hz,λc hc=> ?_⟩;exact p (.lst c) _ _ _ (.new hc) (rh.newL hc (r1.flat _)) ⟨rfl,_,jw⟩ (q c (rh.free hc))
end
def ixD:RD2:=λx y h Q=>match x,y with
 | .tup ds,.int i=> ∃d,atI ds i=some d/\Q d h
 | .lst a,.int i=> ∃ds d,h a=some ds/\atI ds i=some d/\Q d h
 | .scr ns,.int i=> ∃n,atI ns i=some n/\Q (.int n) h
 |_,_=>False
theorem BV {K:G6}{H:Hp}{ds:G0 D}{vs:G0 V}(r:RelDs K H ds vs){i:G8}{d:D}(e:atI ds i=some d): ∃v,atI vs i=some v/\RelD K H d v:=by
 unfold atI at e ⊢;rw [<-r.length];cases q:ixN ds.length i with
 |none=>rw [q] at e;cases e
 |some j=>rw [q] at e;exact r.get e
theorem Sw {α β:Type}(f:α->β){xs:G0 α}{i:G8}{x:α}(e:atI xs i=some x):atI (xs.map f) i=some (f x):=by
 unfold atI at e ⊢;rw [G1];cases q:ixN xs.length i with
 |none=>rw [q] at e;cases e
 |some j=>
  rw [q] at e;show (xs.map f)[j]? =_;rw [P9,(show xs[j]? =some x from e)];rfl
section
variable {X:Cx}{a b e:T1}{ta tb te:TED}{pos p2:Pos}
theorem xV: ∀σ H Q,LE X.K (dOp ixD ta tb) σ H Q->tOp (rIx X.K) (LE X.K ta) (LE X.K tb) σ H Q:=λσ H Q ⟨σd,h,Qd,rs,rh,t,p⟩=>
 LE.bind rs rh t λdx x h1 H1 k1 rs1 rh1 r1 t1=>LE.bind rs1 rh1 t1 λdy y h2 H2 k2 rs2 rh2 ry q=>by
  have rx:=r1.mono k2;have kk:=k1.trans k2;cases dx<;>cases dy<;>first
   |exact False.elim q
   |skip
  ·rename_i ds i;obtain⟨d,e,q⟩:=q;obtain⟨a,vs,e1,hH,r⟩:=(show ∃a vs,x= .ref a/\H2 a=some (.tup vs)/\RelDs X.K H2 ds vs from rx);obtain⟨v,e2,rv⟩:=BV r e;exact .inr (.inl ⟨a,vs,i,v,e1,ry,SqT.of hH,e2,p _ _ _ _ kk rh2 rv q⟩)
  ·rename_i a i;obtain⟨ds,d,hd,e,q⟩:=q;obtain⟨vs,hH,r⟩:=rh2 a ds hd;obtain⟨v,e2,rv⟩:=BV r e;exact .inl ⟨a,vs,i,v,rx.1,ry,SqL.of hH,e2,p _ _ _ _ kk rh2 rv q⟩
  ·rename_i ns i;obtain⟨n,e,q⟩:=q;obtain⟨a,e1,hS⟩:=(show ∃a,x= .ref a/\Scr X.K H2 a ns from rx);exact .inl ⟨a,_,i,.int n,e1,ry,hS.sq,Sw V.int e,p (.int n) _ _ _ kk rh2 rfl q⟩
theorem qix (ha:QE X a ta)(hb:QE X b tb)(hs:XY b):QE X (.Subscript a b pos) (dOp ixD ta tb):=(xr HV ha hb hs).imp xV
end
def Ha:RDn:=λds h Q=>match ds with
 | [.tup xs]=>Q (.int xs.length) h
 | [.lst a]=> ∃xs,h a=some xs/\Q (.int xs.length) h
 | [.scr ns]=>Q (.int ns.length) h
 |_=>False
def xW:RDn:=λds h Q=>match ds with
 | [.int i]=>Q (.int i) h
 | [.bl k]=>Q (.int (if k then 1 else 0)) h
 |_=>False
def xX:RDn:=λds h Q=>match ds with
 | [.int i,.int j]=>Q (.int (if j>i then j else i)) h
 |_=>False
def AY:RDn:=λds h Q=>match ds with
 | [.tup xs]=>Q (.tup xs) h
 | [.lst a]=> ∃xs,h a=some xs/\Q (.tup xs) h
 |_=>False
def Zk:RDn:=λds h Q=>match ds with
 | [.lst a]=> ∃xs,h a=some xs/\Q (.tup xs) (Xb h a)
 |_=>False
section
variable {X:Cx}
theorem KK:Zh X (.builtin "len") Ha:=call_len_seq.imp λxs H Q ⟨ds,h,Qd,r,rh,q,p⟩=>by
 unfold Ha at q;split at q
 ·rename_i es;obtain⟨v,e,r1⟩:=jF r;obtain⟨a,vs,e1,hH,r2⟩:=(show ∃a vs,v= .ref a/\H a=some (.tup vs)/\RelDs X.K H es vs from r1);subst e e1;exact⟨a,vs,rfl,.inr (SqT.of hH),by rw [<-r2.length];exact p (.int _) _ _ _ (.refl H) rh rfl q⟩
 ·rename_i a;obtain⟨es,hd,q⟩:=q;obtain⟨v,e,r1⟩:=jF r;obtain⟨vs,hH,r2⟩:=rh a es hd;have e1:v= .ref a:=r1.1;subst e e1;exact⟨a,vs,rfl,.inl (SqL.of hH),by rw [<-r2.length];exact p (.int _) _ _ _ (.refl H) rh rfl q⟩
 ·rename_i ns;obtain⟨v,e,r1⟩:=jF r;obtain⟨a,e1,hS⟩:=(show ∃a,v= .ref a/\Scr X.K H a ns from r1);subst e e1;exact⟨a,_,rfl,.inl hS.sq,by rw [G1];exact p (.int _) _ _ _ (.refl H) rh rfl q⟩
 ·exact q.elim
theorem AZ:Zh X (.type "int") xW:=call_int1.imp λxs H Q ⟨ds,h,Qd,r,rh,q,p⟩=>by
 unfold xW at q;split at q
 ·rename_i i;obtain⟨v,e,r1⟩:=jF r;cases (show v= .int i from r1);exact .inl ⟨i,e,p (.int i) _ _ _ (.refl H) rh rfl q⟩
 ·rename_i k;obtain⟨v,e,r1⟩:=jF r;cases (show v= .bl k from r1);exact .inr ⟨k,e,p (.int _) _ _ _ (.refl H) rh rfl q⟩
 ·exact q.elim
theorem KL (hc:X.calm=true):Zh X (.builtin "max") xX:=(Bs hc).imp λxs H Q ⟨ds,h,Qd,r,rh,q,p⟩=>by
 unfold xX at q;split at q
 ·rename_i i j;obtain⟨v,w,e,r1,r2⟩:=wJ r;cases (show v= .int i from r1);cases (show w= .int j from r2);exact⟨i,j,e,p (.int _) _ _ _ (.refl H) rh rfl q⟩
 ·exact q.elim
theorem cq_tuple:Zh X (.type "tuple") AY:=call_tuple_of.imp λxs H Q ⟨ds,h,Qd,r,rh,q,p⟩=>by
 unfold AY at q;split at q
 ·rename_i es;obtain⟨v,e,r1⟩:=jF r;obtain⟨a,vs,e1,hH,r2⟩:=(show ∃a vs,v= .ref a/\H a=some (.tup vs)/\RelDs X.K H es vs from r1);subst e e1;exact⟨a,vs,rfl,.inr ⟨SqT.of hH,p (.tup es) _ _ _ (.refl H) rh ⟨a,vs,rfl,hH,r2⟩ q⟩⟩
 ·rename_i a;obtain⟨es,hd,q⟩:=q;obtain⟨v,e,r1⟩:=jF r;obtain⟨vs,hH,r2⟩:=rh a es hd;have e1:v= .ref a:=r1.1;subst e e1;exact⟨a,vs,rfl,.inl ⟨SqL.of hH,λc hc=>p (.tup es) _ _ _ (.new hc) (rh.new hc) ⟨c,vs,rfl,jw,r2.mono (.new hc)⟩ q⟩⟩
 ·exact q.elim
theorem jN:Zh X (.type "tuple") Zk:=cq_tuple.imp λxs H Q ⟨ds,h,Qd,r,rh,q,p⟩=>by
 unfold Zk at q;split at q
 ·rename_i a;obtain⟨es,hd,q⟩:=q;exact⟨[.lst a],h,λd h'=>Qd d (Xb h' a),r,rh,⟨es,hd,q⟩,λd v h' H' k rh' rd q'=>p d v _ H' k (rh'.sub (Sub.drop h' a)) rd q'⟩
 ·exact q.elim
end
def GK:D->D4 U1
 | .non=>some "NoneType" | .bl _=>some "bool" | .int _=>some "int" | .str _=>some "str" | .tup _=>some "tuple" | .lst _=>some "list" | .dic _ _=>some "dict" | .dct _=>none| .scr _=>none| .exc _=>none| .fn _=>none
def KM (T:U1)(n:U1):T9:=n==T||(T== "int" &&n== "bool")
theorem Og {K:G6}{H:Hp}{d:D}{v:V}{n:U1}(r:RelD K H d v)(e:GK d=some n):TyOf K H v (.type n):=by
 cases d with
 |non=>cases (show v= .non from r);cases e;exact .non
 |bl b=>cases (show v= .bl b from r);cases e;exact .bl b
 |int i=>cases (show v= .int i from r);cases e;exact .int i
 |str x=>cases (show v= .str x from r);cases e;exact .str x
 |tup ds=>
  obtain⟨a,vs,e1,hH,_⟩:=(show ∃a vs,v= .ref a/\H a=some (.tup vs)/\RelDs K H ds vs from r);subst e1;cases e;exact .tup hH
 |lst a=>
  obtain⟨e1,vs,hH⟩:=(show v= .ref a/\ ∃vs,H a=some (.lst vs) from r);subst e1;cases e;exact .lst hH
 |dic x i=>
  obtain⟨a,e1,hH⟩:=(show ∃a,v= .ref a/\H a=some (.dK [(bK x,V.int i)]) from r);subst e1;cases e;exact .dK hH
 |dct a=>cases e
 |scr ns=>cases e
 |exc C=>cases e
 |fn a=>cases e
def Sx:G0 U1:= ["NoneType","bool","int","str","tuple","list","dict"]
theorem Nh {d:D}{n:U1}(e:GK d=some n):n∈Sx:=by
 cases d<;>cases e<;>decide
def xY (K:G6):Prop:= ∀n∈Sx,∀T∈ ["tuple","int","bool","list","str"],lE K (.type n) (.type T)=some (KM T n)
theorem Sy (K:G6):xY K:=by
 intro n hn T hT;simp only [Sx,T6,A8,or_false] at hn hT;rcases hn with rfl|rfl|rfl|rfl|rfl|rfl|rfl<;>rcases hT with rfl|rfl|rfl|rfl|rfl<;>with_unfolding_all rfl
theorem BW {X:Cx}(T:U1):CallR X (.builtin "isinstance") (λxs H Q=> ∃x t b,xs= [x,.ty T]/\TyOf X.K H x t/\lE X.K t (.type T)=some b/\Q (.bl b) H):=by
 intro pins s σ H xs us Q I r h;obtain⟨x,t,b,rfl,ty,e,q⟩:=h;obtain⟨u,w',rfl,rx,rt⟩:=LJ r;cases (show w'=V6 T from rt);exact Bw I rx ty e λtk=>⟨.bl b,H,I.tok tk,rfl,q⟩
def dIs (T:U1)(ta:TED):TED:=λσ h Q=>ta σ h λx h1=> ∃n,GK x=some n/\Q (.bl (KM T n)) h1
theorem xZ {X:Cx}{a:T1}{ta:TED}{T:U1}{t:Str}{p p2 pos:Pos}(hT:T∈ ["tuple","int","bool","list","str"])(hg:Gl X "isinstance")(hm:X.mg "isinstance" =none)(hg2:Gl X t)(hm2:X.mg t=none)(hv:E3 t=some (.type T))(ha:QE X a ta)
 (hn:t≠ "__name__" :=by decide)(hd:(t==("__debug__" :Str))=false:=by decide)
 (h1:D6 [a,.Name t p2] X.env=(false,O5 a X.env)::D6 [.Name t p2] X.env:=by rfl)(h2:(E7 pos (D6 [.Name t p2] X.env)).any (·.1)=false:=by rfl):
 QE X (.Call (.Name "isinstance" p) [a,.Name t p2] [] pos) (dIs T ta):=
 (RS (BW T) hg hm pA (Jj ha (Jj (Ew (v:= .ty T) hg2 hm2 hv rfl hn hd) pa_nil (by rfl)) h1) (by decide) (by decide) h1 h2).imp
  λσ H Q ⟨σd,h,Qd,rs,rh,t,p⟩=>LE.bind rs rh t λd v h1 H1 k1 rs1 rh1 r1 ⟨n,e,q⟩=>⟨v,.type n,KM T n,rfl,Og r1 e,Sy _ n (Nh e) T hT,p (.bl _) _ _ _ k1 rh1 rfl q⟩
theorem BX (bs:G0 T9):(G3 bs.length).all (λi=>bs.getD i false)=bs.all id:=by
 induction bs with
 |nil=>rfl
 |cons b bs ih=>
  rw [R7,Q0,gY,E4,gY];show (b&&_)=(b&&bs.all id);rw [<-ih];rfl
theorem BY (bs:G0 T9):(G3 bs.length).any (λi=>bs.getD i false)=bs.any id:=by
 induction bs with
 |nil=>rfl
 |cons b bs ih=>
  rw [R7,Q0,dQ,fI,dQ];show (b||_)=(b||bs.any id);rw [<-ih];rfl
theorem GL {bs:G0 T9}{its:G0 G7}(r:Vals (bs.map V.bl) its){i:G5}{v:G7}(e:its[i]? =some v):v= .bool (bs.getD i false):=by
 have hl:=r.length;rw [G1] at hl;have hi:i<its.length:=(P8.mp e).1;have hb:(bs.map V.bl)[i]? =some (.bl bs[i]):=by rw [P9,G2 (by omega)];rfl
 obtain⟨u,e1,r1⟩:=r.get hb;rw [e] at e1;cases e1;rw [D1,G2 (by omega)];exact r1
section
variable {X:Cx}
theorem Qi (hc:X.calm=true):CallR X (.builtin "all") (λxs H Q=> ∃ (a:P4) (bs:G0 T9),xs= [.ref a]/\SqL X.K H a (bs.map V.bl)/\Q (.bl (bs.all id)) H):=by
 intro pins s σ H xs us Q I r h;obtain⟨a,bs,rfl,hS,q⟩:=h;obtain⟨u,rfl,ru⟩:=ZY r;cases ru;obtain⟨its,rv,pl,hz⟩:=I.list hS;have hl:=pl.isList;have hlt:a<s.heap.objs.size:=by obtain⟨_,e,_⟩:=hl;exact S0 e
 refine call_all_walk (aZ hl ?_);refine⟨s.heap.objs.size,_,_,_,_,_,λi=>bs.getD i false,rfl,Walks.list (A:=X.A.in1) (show X.A.in1.handled=none from I.ok.hd hc) s.heap.objs.size a (M9 hlt) its.toArray,⟨⟨_,T3 _ rfl,rfl,rfl⟩,hl.push _⟩,?_,λh' tk hk=> ?_⟩
 ·intro i v s' Q' E' hP hQ;have e:its[i]? =some v:=by simpa using hP
  rw [GL rv e];exact O6 hQ
 ·have hn:its.toArray.size=bs.length:=by rw [R9,<-rv.length,G1]
  rw [hn,BX];exact⟨.bl _,H,I.kept (t':=tk) (λb o e=>hk b o (λz=>by rw [P1.mp z] at e;exact absurd (S0 e) (O0 _)) (P7 _ e)),rfl,q⟩
theorem Qj (hc:X.calm=true):CallR X (.builtin "any") (λxs H Q=> ∃ (a:P4) (bs:G0 T9),xs= [.ref a]/\SqL X.K H a (bs.map V.bl)/\Q (.bl (bs.any id)) H):=by
 intro pins s σ H xs us Q I r h;obtain⟨a,bs,rfl,hS,q⟩:=h;obtain⟨u,rfl,ru⟩:=ZY r;cases ru;obtain⟨its,rv,pl,hz⟩:=I.list hS;have hl:=pl.isList;have hlt:a<s.heap.objs.size:=by obtain⟨_,e,_⟩:=hl;exact S0 e
 refine call_any_walk (aZ hl ?_);refine⟨s.heap.objs.size,_,_,_,_,_,λi=>bs.getD i false,rfl,Walks.list (A:=X.A.in1) (show X.A.in1.handled=none from I.ok.hd hc) s.heap.objs.size a (M9 hlt) its.toArray,⟨⟨_,T3 _ rfl,rfl,rfl⟩,hl.push _⟩,?_,λh' tk hk=> ?_⟩
 ·intro i v s' Q' E' hP hQ;have e:its[i]? =some v:=by simpa using hP
  rw [GL rv e];exact O6 hQ
 ·have hn:its.toArray.size=bs.length:=by rw [R9,<-rv.length,G1]
  rw [hn,BY];exact⟨.bl _,H,I.kept (t':=tk) (λb o e=>hk b o (λz=>by rw [P1.mp z] at e;exact absurd (S0 e) (O0 _)) (P7 _ e)),rfl,q⟩
theorem Zz {K:G6}{H:Hp}: ∀ {bs:G0 T9} {vs:G0 V},RelDs K H (bs.map D.bl) vs->vs=bs.map V.bl
 | [],_,h=>h
 |b::bs,vs,h=>by
  obtain⟨v,r,e,h1,h2⟩:=(show ∃v r,vs=v::r/\RelD K H (.bl b) v/\RelDs K H (bs.map D.bl) r from h);rw [e,Zz h2,(show v= .bl b from h1)];rfl
def BZ:RDn:=λds h Q=> ∃ (a:P4) (bs:G0 T9),ds= [.lst a]/\h a=some (bs.map D.bl)/\Q (.bl (bs.all id)) (Xb h a)
def qc:RDn:=λds h Q=> ∃ (a:P4) (bs:G0 T9),ds= [.lst a]/\h a=some (bs.map D.bl)/\Q (.bl (bs.any id)) (Xb h a)
theorem vd (hc:X.calm=true):Zh X (.builtin "all") BZ:=(Qi hc).imp λxs H Q ⟨ds,h,Qd,r,rh,⟨a,bs,e,hd,q⟩,p⟩=>by
 subst e;obtain⟨v,e,r1⟩:=jF r;obtain⟨vs,hH,r2⟩:=rh a _ hd;have e1:v= .ref a:=r1.1;rw [Zz r2] at hH;subst e e1;exact⟨a,bs,rfl,SqL.of hH,p (.bl _) _ _ _ (.refl H) (rh.sub (Sub.drop h a)) rfl q⟩
theorem KN (hc:X.calm=true):Zh X (.builtin "any") qc:=(Qj hc).imp λxs H Q ⟨ds,h,Qd,r,rh,⟨a,bs,e,hd,q⟩,p⟩=>by
 subst e;obtain⟨v,e,r1⟩:=jF r;obtain⟨vs,hH,r2⟩:=rh a _ hd;have e1:v= .ref a:=r1.1;rw [Zz r2] at hH;subst e e1;exact⟨a,bs,rfl,SqL.of hH,p (.bl _) _ _ _ (.refl H) (rh.sub (Sub.drop h a)) rfl q⟩
end
def jad (to:TED)(te:TED):TED:=λσ h Q=>to σ h λx h1=> ∃a,x= .lst a/\te σ h1 λy h2=> ∃xs,h2 a=some xs/\xs.length<sizeLine/\Q .non (wB h2 a (xs++ [y]))
section
variable {X:Cx}{o e i:T1}{to te ti:TED}{apos cpos pos:Pos}
theorem ja7 (ho:QE X o to)(he:QE X e te)(hbase:W4 o "append" X.env (O5 o X.env)=O5 o X.env:=by rfl)
 (hfew:((E7 cpos (D6 [e] X.env)).all (λx=> !x.1)&&(dW cpos (aH [] X.env)).all (λx=>x.1.isSome)&&decide ([e].length+([]:G0 Y1).length+(if ([]:G0 Y1).isEmpty then 0 else 1)<30))=true:=by rfl)
 (hline:(apos.endLine==cpos.line)=true:=by rfl)(hs:D6 [e] X.env=(false,O5 e X.env)::D6 [] X.env:=by rfl)(hplain:(E7 cpos (D6 [] X.env)).any (·.1)=false:=by rfl):
 QE X (.Call (.Attribute o "append" apos) [e] [] cpos) (jad to te):=
 (EM cQ rW rX BB ho (Jj he pa_nil hs) hbase hfew hline hs hplain).imp
  λσ H Q ⟨σd,h,Qd,rs,rh,t,p⟩=>LE.bind rs rh t λd v h1 H1 k1 rs1 rh1 r1 ⟨a,e,q⟩=>by
   subst e;obtain⟨e1,vs,hH⟩:=(show v= .ref a/\ ∃vs,H1 a=some (.lst vs) from r1);subst e1;refine⟨.inl ⟨rfl,vs,SqL.of hH⟩,?_⟩;refine LE.bind rs1 rh1 q λy u h2 H2 k2 rs2 rh2 r2 ⟨xs,hx,hz,q2⟩=> ?_
   obtain⟨ws,hW,r3⟩:=rh2 a xs hx;refine⟨a,ws,u,rfl,rfl,hW,by rw [<-r3.length];exact hz,p .non _ _ _ (k1.trans (k2.trans (.put hW))) (rh2.put hW (r3.append (.cons r2 .nil))) rfl q2⟩
def KO (to ti:TED):TGD:=λd σ h Q=>to σ h λo h1=>ti σ h1 λi h2=> ∃a k xs j,o= .lst a/\i= .int k/\h2 a=some xs/\ixN xs.length k=some j/\Q σ (wB h2 a (xs.set j d))
theorem KP (ho:QE X o to)(hi:QE X i ti)
 (ha: ∀v,eM (.Subscript o i pos) X.env v=(do
  let ov <-aY [v] (O5 o X.env)
  let iv <-aY [v,ov] (O5 i X.env)
  fB pos
  aY [v,ov,iv] (sS ov iv v)
  II [v,ov,iv] []):=by intro _;rfl):QG X (.Subscript o i pos) (KO to ti):=
 (Hw ho hi LQ ha).imp λv σ H Q ⟨d,σd,h,Qd,r,rs,rh,q,p⟩=>
  LE.bind rs rh q λd1 v1 h1 H1 k1 rs1 rh1 r1 q1=>LE.bind rs1 rh1 q1 λd2 v2 h2 H2 k2 rs2 rh2 r2 ⟨a,k,xs,j,e1,e2,hx,hj,q2⟩=>by
   subst e1 e2;have e3:v1= .ref a:=(r1.mono k2).1;obtain⟨ws,hW,r3⟩:=rh2 a xs hx;refine⟨a,ws,k,j,e3,r2,hW,by rw [<-r3.length];exact hj,p _ _ _ _ (k1.trans (k2.trans (.put hW))) (rs2.mono (.put hW)) (rh2.put hW (RelDs.set ((r.mono k1).mono k2) j r3)) q2⟩
end
def RX (N:G0 Str)(sc:G0 (Str×NameKind))(scope:U5)(js:G0 G5):T9:=
 scope.kind== .function&&scope.names.all (λp=>p.2 != .cell||scope.names.lookup p.1==some .cell)&&scope.names.all (λp=>p.2 != .local||scope.names.lookup p.1==some .local)&&
 scope.names.all (λp=>p.2 != .free||sc.lookup p.1==some .cell||sc.lookup p.1==some .free)&&
 (G3 N.length).all λi=>(scope.names.lookup (N.getD i Str.empty) !=some .local&&scope.names.lookup (N.getD i Str.empty) !=some .cell)||js.contains i
theorem jL {X:Cx}{scope:U5}{js:G0 G5}(h:RX X.N X.env.scope.names scope js=true):BlockOk X scope js:=by
 unfold RX at h;simp only [B7] at h;obtain⟨⟨⟨⟨h1,h2⟩,h3⟩,h4⟩,h5⟩:=h;refine⟨eq_of_beq h1,λp hp e=> ?_,λp hp e=> ?_,λp hp e=> ?_,λi x e1 e2=> ?_⟩
 ·have:=T8.mp h3 p hp;rw [e] at this;simpa using this
 ·have:=T8.mp h2 p hp;rw [e] at this;simpa using this
 ·have:=T8.mp h4 p hp;rw [e] at this;simpa using this
 ·have hi:i<X.N.length:=(P8.mp e1).1;have:=T8.mp h5 i (P6.mpr hi);rw [D1,e1,Option.getD_some] at this;rcases e2 with e2|e2<;>(rw [e2] at this;simpa using this)
theorem qpt {X:Cx}{e:T1}{t:TTD}(h:QW X e t):QT X e t:=h.pt
theorem Ca {i:G5}{js:G0 G5}{ti:TID}{te:TED}{σ:SD}{h h1:HD}{Q:KD}{ds:G0 D}{j:ItD}(f:D->D)(hz:ds.length<=sizeLine)(hj:j h1=some ds)
 (ht: ∀R:ItD->HD->Prop,R j h1->ti σ h R)(he: ∀d∈ds,∀Q':KD,Q' (f d) h1->te ((jJ js σ).set i (some d)) h1 Q')(hq: ∀p,h1 p=none->Q (.lst p) (wB h1 p (ds.map f))):vU (bN i) js ti vT te σ h Q:=by
 refine ht _ ⟨ds.length,λk ys h'=>h'=h1/\ys=(ds.take k).map f,⟨rfl,by simp⟩,?_⟩;rintro k ys h' ⟨rfl,rfl⟩;refine⟨by simp only [G1,T0];omega,ds,hj,P5 _,λhl p hp=> ?_,λd hd=>⟨_,rfl,?_⟩⟩
 ·rw [S5 hl];exact hq p hp
 ·unfold vT;dsimp only;rw [D8 rfl];refine he d (D0 hd) _ ⟨h',Sub.refl _,rfl,?_⟩;rw [N7,hd];simp
end L2
namespace HT
open PySem PySem.Spec PyProof.Rows
section
variable {prog:M0}{w:C6}{A:C5}{E:G7->P0->Prop}{s:P0}
theorem ZA {t sl:P4}{items:N8 G7}{vl vu:G7}{lo hi:D4 G8}{Q:G7->P0->Prop}(ht:mI s.heap t items)(hs:s.heap.IsSliceOf sl vl vu .none)(pl:iO vl lo)(pu:iO vu hi)
 (hw:sIx items.size 0 lo=0/\sIx items.size items.size hi=items.size)(h:Q (.ref t) s):S6 (T4 prog w) A (fF (.ref t) (.ref sl)) Q E s:=by
 obtain⟨os,hos,hcs,hds⟩:=id hs;have hTs:s.TypeIs (.ref sl) "slice" :=⟨os,hos,hcs⟩;unfold fF
 try with_reducible refine K2 ?_
 first|refine wpAny_bind (D2 ?_)|skip
 refine wpAny_bind (nF ht.typeIs (by decide) ?_);refine wpAny_bind (K5 (name:=Str.ofString "__getitem__") ht.typeIs Q8
  (A7 Q8 ht.typeIs mF ?_ (mU _ _)))
 show S6 _ _ (bE (.ref t) >>= _) _ _ s;refine wpAny_bind (mK ht ?_);refine wpAny_bind (nG hTs ?_);rw [D8 (by decide)];refine wpAny_bind (vS hs pl pu ?_);have hyes:((((sIx items.size 0 lo:G5):G8)==0&&(1:G8)==1&&(sIx items.size items.size hi-sIx items.size 0 lo)==items.size)=true):=by
  rw [hw.1,hw.2];simp
 show S6 _ _ (if (((sIx items.size 0 lo:G5):G8)==0&&(1:G8)==1&&(sIx items.size items.size hi-sIx items.size 0 lo)==items.size)=true then _ else _) _ _ s;rw [D8 hyes];refine wpAny_bind (m:=fZ (.ref t)) ?_;unfold fZ;refine wpAny_bind (nG ht.typeIs (D2 ?_));rw [D8 (by decide)];exact wpAny_bind (cH (D2 ⟨_,rfl,D2 h⟩))
end
end HT
namespace L2
open PySem PySem.Spec PyProof.Rows
def ja8 (K:G6):V->D4 G8->D4 G8->Hp->VK->Prop:=λx lo hi H Q=> ∃a xs,x= .ref a/\SqT K H a xs/\(HT.sIx xs.length 0 lo=0/\HT.sIx xs.length xs.length hi=xs.length)/\Q (.ref a) H
variable {X:Cx}
theorem sl_whole:SlR X (ja8 X.K):=by
 intro pins s σ H x v vl vu lo hi sl Q I rx hs pl pu h;obtain⟨a,xs,rfl,hx,hw,q⟩:=h;cases rx;obtain⟨its,r,ht,hz⟩:=I.tuple hx;have hlen:its.toArray.size=xs.length:=by rw [R9];exact r.length.symm
 refine⟨"tuple",_,PyProof.Rows.slot_tuple_getitem.lookup,ht.typeIs,?_⟩;exact HT.ZA ht hs pl pu (by rw [hlen];exact hw) ⟨.ref a,H,I,rfl,q⟩
def UV {α:Type}(xs:G0 α)(lo hi:D4 G8):G0 α:=(xs.drop (HT.sIx xs.length 0 lo)).take (HT.sIx xs.length xs.length hi-HT.sIx xs.length 0 lo)
abbrev TOD:=SD->HD->(D4 G8->HD->Prop)->Prop
def Cb:TOD:=λ_ h Q=>Q none h
def KQ (t:TED):TOD:=λσ h Q=>t σ h λx h1=> ∃i,x= .int i/\Q (some i) h1
def LO (K:G6)(t:TOD):TO:=λσ H Q=> ∃σd h Qd,RelS K H σd σ/\RelH K h H/\t σd h Qd/\ ∀o h' H',Kept H H'->RelH K h' H'->Qd o h'->Q o H'
theorem LO.bind {K:G6}{ta:TOD}{σ:St}{H:Hp}{σd:SD}{h:HD}{kd:D4 G8->HD->Prop}{k:D4 G8->Hp->Prop}(rs:RelS K H σd σ)(rh:RelH K h H)(t:ta σd h kd)(f: ∀o h' H',Kept H H'->RelS K H' σd σ->RelH K h' H'->kd o h'->k o H'):LO K ta σ H k:=
 ⟨σd,h,kd,rs,rh,t,λo h' H' kp r1 q=>f o h' H' kp (rs.mono kp) r1 q⟩
theorem PO.imp {e:D4 T1}{t t':TO}(h:PO X e t)(i: ∀σ H Q,t' σ H Q->t σ H Q):PO X e t':=λpins s σ H Q I q=>h pins s σ H Q I (i σ H Q q)
abbrev QO (X:Cx)(e:D4 T1)(t:TOD):Prop:=PO X e (LO X.K t)
theorem Sz:QO X none Cb:=po_none.imp λσ H Q ⟨σd,h,Qd,rs,rh,q,p⟩=>p none h H (.refl H) rh q
theorem SA {e:T1}{te:TED}(he:QE X e te):QO X (some e) (KQ te):=(EK he).imp λσ H Q ⟨σd,h,Qd,rs,rh,q,p⟩=>
 LE.bind rs rh q λd v h1 H1 k1 rs1 rh1 r1 ⟨i,e,q1⟩=>by subst e;exact⟨i,r1,p _ _ _ k1 rh1 q1⟩
def slD:D->D4 G8->D4 G8->HD->KD->Prop:=λx lo hi h Q=>match x with
 | .tup ds=>Q (.tup (UV ds lo hi)) h
 | .scr ns=> ∀p,h p=none->Q (.lst p) (wB h p ((UV ns lo hi).map D.int))
 | .lst a=> ∃ds,h a=some ds/\ ∀p,h p=none->Q (.lst p) (wB h p (UV ds lo hi))
 |_=>False
def dSl (te:TED)(tl th:TOD):TED:=λσ h Q=>te σ h λx h1=>tl σ h1 λl h2=>th σ h2 λu h3=>slD x l u h3 Q
theorem Qk {K:G6}{H:Hp}{ds:G0 D}{vs:G0 V}(r:RelDs K H ds vs)(lo hi:D4 G8):RelDs K H (UV ds lo hi) (Lt vs lo hi):=by
 unfold UV Lt;rw [r.length];exact(r.drop _).take _
theorem SB {α β:Type}(f:α->β)(xs:G0 α)(lo hi:D4 G8):UV (xs.map f) lo hi=(UV xs lo hi).map f:=by
 unfold UV;rw [G1,mN,mO]
theorem KR {e:T1}{te:TED}{lo hi:D4 T1}{tl th:TOD}{pos p2:Pos}(he:QE X e te)(hl:QO X lo tl)(hu:QO X hi th):QE X (.Subscript e (.Slice lo hi none p2) pos) (dSl te tl th):=
 (LP (sl_tup.or (sl_whole.or EL)) he hl hu).imp λσ H Q ⟨σd,h,Qd,rs,rh,q,p⟩=>
  LE.bind rs rh q λd v h1 H1 k1 rs1 rh1 r1 q1=>LO.bind rs1 rh1 q1 λl h2 H2 k2 rs2 rh2 q2=>LO.bind rs2 rh2 q2 λu h3 H3 k3 rs3 rh3 q3=>by
   have rv:=(r1.mono k2).mono k3;have kk:=k1.trans (k2.trans k3);cases d<;>first
    |exact False.elim q3
    |skip
   ·rename_i ds;obtain⟨a,vs,e1,hH,r⟩:=(show ∃a vs,v= .ref a/\H3 a=some (.tup vs)/\RelDs X.K H3 ds vs from rv)
    by_cases hw:HT.sIx vs.length 0 l=0/\HT.sIx vs.length vs.length u=vs.length
    ·refine .inr (.inl ⟨a,vs,e1,SqT.of hH,hw,p (.tup (UV ds l u)) _ _ _ kk rh3 ⟨a,vs,rfl,hH,?_⟩ q3⟩);have z:=Qk r l u;have e:Lt vs l u=vs:=by unfold Lt;rw [hw.1,hw.2];simp
     rwa [e] at z
    ·exact .inl ⟨a,vs,e1,SqT.of hH,hw,λc hc=>p (.tup (UV ds l u)) _ _ _ (kk.trans (.new hc)) (rh3.new hc) ⟨c,_,rfl,jw,(Qk r l u).mono (.new hc)⟩ q3⟩
   ·rename_i a;obtain⟨ds,hd,q3⟩:=q3;obtain⟨vs,hH,r⟩:=rh3 a ds hd;exact .inr (.inr ⟨a,vs,rv.1,SqL.of hH,λc hc=>p (.lst c) _ _ _ (kk.trans (.new hc)) (rh3.newL hc (Qk r l u)) ⟨rfl,_,jw⟩ (q3 c (rh3.free hc))⟩)
   ·rename_i ns;obtain⟨a,e1,hS⟩:=(show ∃a,v= .ref a/\Scr X.K H3 a ns from rv);refine .inr (.inr ⟨a,_,e1,hS.sq,λc hc=>p (.lst c) _ _ _ (kk.trans (.new hc)) (rh3.newL hc ?_) ⟨rfl,_,jw⟩ (q3 c (rh3.free hc))⟩);have z:=Qk (vb (K:=X.K) (H:=H3) ns) l u
    rwa [SB] at z
end L2
namespace HT
open PySem PySem.Spec PyProof.Rows
open Sem (wp)
open Builtin
theorem YK:fillsNumberSlot (.type "tuple") "mul" =pure false:=
 PySem.fillsNumberSlot_seq (id:= "tuple.__mul__") (r:=some (.builtin "tuple.__rmul__")) F.slot_tuple_mul.lookup (by decide +kernel) F.slot_tuple_rmul.lookup (by decide +kernel)
theorem GM:IB (.type "tuple")=pure (some (.builtin "tuple.__mul__")):=by
 unfold IB;rw [oJ (T:= "tuple") (name:= "__mul__") (id:= "tuple.__mul__") F.slot_tuple_mul.lookup (by decide +kernel),oJ (T:= "tuple") (name:= "__rmul__") (id:= "tuple.__rmul__") F.slot_tuple_rmul.lookup (by decide +kernel)];rfl
section
variable {prog:M0}{w:C6}{A:C5}{E:G7->P0->Prop}{s:P0}
theorem Ql {k:G8}{t:Tok}{l:P4}{o:Obj}{its:N8 G7}{n:G5}{P:dM->P0->Prop}(at_:s.heap.get? l=some o)(tup:o.cls= .type "tuple")(dat:o.data= .seq its n)(h:P (.done (.ret .notImplemented)) s):S6 (T4 prog w) A (Builtin.«int.__rmul__» ⟨[.int k t,.ref l],[]⟩) P E s:=by
 obtain⟨c,dd,dt,sl⟩:=o;cases tup;cases dat;obtain⟨hp,g,d,tk,os⟩:=s
 wp_walk
 exact h
theorem Dw {l:P4}{its:N8 G7}{n:G5}{x:G8}{u:Tok}{dd:D4 P4}{sl:N8 (D4 G7)}{P:dM->P0->Prop}(at_:s.heap.get? l=some {cls:= .type "tuple",dict:=dd,data:= .seq its n,slots:=sl})(fits: -(2^63)<=x/\x<2^63)
 (same:(its.isEmpty||x==1)=true->P (.done (.ret (.ref l))) s)
 (gone:(its.isEmpty||x==1)=false->(decide (x<=0)||its.isEmpty)=true->P (.done (.ret (.ref s.heap.objs.size))) {s with heap:=s.heap.push {cls:= .type "tuple",data:= .seq #[]}})
 (more:(its.isEmpty||x==1)=false->(decide (x<=0)||its.isEmpty)=false-> ¬ (its.size:G8)*x>(2^63-1) / 8/\f6 ((its.size:G8)*x)=false/\((N3 x.toNat its).foldl (· ++ ·) #[]).size<=sizeLine/\
  P (.done (.ret (.ref s.heap.objs.size))) {s with heap:=s.heap.push {cls:= .type "tuple",data:= .seq ((N3 x.toNat its).foldl (· ++ ·) #[])}}):
 S6 (T4 prog w) A (Builtin.«tuple.__mul__» ⟨[.ref l,.int x u],[]⟩) P E s:=by
 obtain⟨hp,g,d,tk,os⟩:=s
 wp_walk
 rw [D9 (by simp only [cE,K1];omega)]
 wp_walk
 cases c1:(its.isEmpty||x==1) with
 |true=>
  rw [D8 rfl]
  wp_walk
  exact same c1
 |false=>
  rw [D9 R0];cases c2:(decide (x<=0)||its.isEmpty) with
  |true=>
   rw [D8 rfl]
   wp_walk
   exact gone c1 c2
  |false=>
   obtain⟨m1,m2,m3,m4⟩:=more c1 c2;rw [D9 R0];dsimp only;rw [D9 m1,m2,D9 R0]
   wp_walk
   exact m4
end
end HT
namespace L2
open PySem PySem.Spec PyProof.Rows
def qd (K:G6):R2:=λx y H Q=> ∃ (a:P4) (k:G8) (xs:G0 V),x= .ref a/\y= .int k/\SqT K H a xs/\ -(2^63)<=k/\k<2^63/\xs.length*k.toNat<=sizeLine/\
 ((xs= []\/k=1)->Q (.ref a) H)/\(¬ (xs= []\/k=1)-> ∀p,H p=none->Q (.ref p) (upd H p (.tup (N3 k.toNat xs).flatten)))
theorem Vh {l:G0 G7}:l.toArray= #[]↔l= []:=by cases l<;>simp
variable {X:Cx}
theorem SC:OpR X (E9 .Mult) (qd X.K):=by
 intro pins s σ H x y v u Q I rx ry h;obtain⟨a,k,xs,rfl,rfl,hH,h1,h2,hz,q1,q2⟩:=h;cases rx;obtain⟨t,rfl⟩:=ry;obtain⟨its,r,ht,_⟩:=I.tuple hH;obtain⟨⟨cls,dd,data,sl⟩,ho,hc,n,hd⟩:=id ht;simp only at hc hd;subst hc hd;have hl:=r.length;have hnew:(N3 k.toNat its.toArray).foldl (· ++ ·) #[]=(N3 k.toNat its).flatten.toArray:=by
  have:=Vv its k.toNat [];rw [A3] at this;exact this
 have few:its.length*k.toNat<=sizeLine:=by rw [<-hl];exact hz
 have free:=I.hok.fresh (P5 _);refine gG (T:= "tuple") (U:= "int") (by decide) ⟨_,ho,rfl⟩ (λs'=>iR s' k t) HT.YK o7 eN HT.GM F.slot_int_index.lookup
  (A7 eN (iR s k t) oI (HT.Ql ho rfl rfl ⟨_,rfl,rfl,⟨_,ho,rfl⟩,A7 F.slot_tuple_mul ⟨_,ho,rfl⟩ F.entry_tuple_mul (HT.Dw ho ⟨h1,h2⟩ (λc=> ?_) (λc c0=> ?_) (λc c0=> ?_)) (F.args_tuple_mul_2 _ _)⟩) (nI _ _))
 ·refine⟨_,rfl,.ref a,H,I,rfl,q1 ?_⟩;simp only [cE,beq_iff_eq,nK,Vh] at c;exact c.imp (λe=>r.nil_iff.mp e) id
 ·simp only [lJ,beq_eq_false_iff_ne,f7,ne_eq,Vh] at c;have k0:k.toNat=0:=by
   simp only [cE,K1,nK,Vh] at c0;have:=c0.resolve_right c.1;omega
  have last:=q2 (λz=>z.elim (λe=>c.1 (r.nil_iff.mpr e)) c.2) _ free;rw [k0] at last;exact⟨_,rfl,.ref s.heap.objs.size,_,I.laid (t':=s.toks) (o:= .tup []) (λb ob q=>P7 _ q) (P5 _) ⟨by decide,[],.nil,IsTupN.new _ _⟩,rfl,last⟩
 ·simp only [lJ,beq_eq_false_iff_ne,f7,ne_eq,Vh,hZ] at c c0;have em:((its.toArray.size:G5):G8)*k=((its.length*k.toNat:G5):G8):=by rw [Int.natCast_mul,R9,show ((k.toNat:G5):G8)=k by omega]
  have cap:(sizeLine:G5)<=(2^63-1) / 8:=by decide
  rw [em,hnew];refine⟨by omega,by unfold f6;exact D5 (by omega),by rw [R9,Dq,fH];exact few,_,rfl,.ref s.heap.objs.size,_,I.laid (t':=s.toks) (o:= .tup (N3 k.toNat xs).flatten) (λb ob q=>P7 _ q) (P5 _) ⟨by rw [Dq,fH];exact hz,_,r.rep k.toNat,IsTupN.new _ _⟩,rfl,q2 (λz=>z.elim (λe=>c.1 (r.nil_iff.mpr e)) c.2) _ free⟩
def jae:RD2:=λx y h Q=>match x,y with
 | .tup ds,.int k=> -(2^63)<=k/\k<2^63/\ds.length*k.toNat<=sizeLine/\Q (.tup (N3 k.toNat ds).flatten) h
 |x,y=>jaa x y h Q
theorem Qm:OpQ X (E9 .Mult) jae:=(oq_mul.or SC).imp λx y H Q ⟨dx,dy,h,Qd,rx,ry,rh,q,p⟩=>by
 by_cases ht: ∃ds k,dx= .tup ds/\dy= .int k
 ·obtain⟨ds,k,e1,e2⟩:=ht;subst e1 e2;obtain⟨b1,b2,hz,q⟩:=q;obtain⟨a,vs,e,hH,r⟩:=(show ∃a vs,x= .ref a/\H a=some (.tup vs)/\RelDs X.K H ds vs from rx);refine .inr ⟨a,k,vs,e,ry,SqT.of hH,b1,b2,by rw [<-r.length];exact hz,λhs=> ?_,λ_ c hc=>p (.tup _) _ _ _ (.new hc) (rh.new hc) ⟨c,_,rfl,jw,(r.flat _).mono (.new hc)⟩ q⟩;refine p (.tup _) _ _ _ (.refl H) rh ⟨a,vs,rfl,hH,?_⟩ q;rcases hs with e0|e1
  ·subst e0;have:ds= []:=aG.mp r.length;subst this;simpa using r
  ·subst e1;simpa using r
 ·refine .inl ⟨dx,dy,h,Qd,rx,ry,rh,?_,p⟩;unfold jae at q;split at q
  ·exact absurd ⟨_,_,rfl,rfl⟩ ht
  ·exact q
def jaf:D->HD->KD->Prop:=λx h Q=>match x with
 | .int i=>Q (.int (-i)) h
 |_=>False
def dUn (f:D->HD->KD->Prop)(ta:TED):TED:=λσ h Q=>ta σ h λx h1=>f x h1 Q
theorem ja9 {a:T1}{ta:TED}{pos:Pos}(ha:QE X a ta):QE X (.UnaryOp .USub a pos) (dUn jaf ta):=
 (xh HK ha).imp λσ H Q ⟨σd,h,Qd,rs,rh,t,p⟩=>LE.bind rs rh t λd v h1 H1 k1 rs1 rh1 r1 q=>by
  cases d<;>first
   |exact False.elim q
   |exact⟨_,r1,p (.int _) _ _ _ k1 rh1 rfl q⟩
variable {p:P4}
theorem Oh {H:Hp}{a b:HO}:upd (upd H p a) p b=upd H p b:=by
 funext q;unfold upd;split<;>rfl
def KS (K:G6)(tl:TE):TI:=λσ H R=>tl σ H λx H1=> ∃a,x= .ref a/\((∃xs,SqL K H1 a xs/\R (Itl K a) H1)\/ ∃xs,SqT K H1 a xs/\R (Itt K a) H1)
theorem KU {tg l:T1}{tl:TE}(hl:PE X l tl):PI X tg l (KS X.K tl):=by
 intro pins s σ H R I h;refine thn (hl pins s σ H _ I h) λv s1 ⟨x,H1,I1,r1,q1⟩=> ?_
 obtain⟨a,e,q⟩:=q1;subst e;cases r1;rcases q with ⟨xs,hq,q⟩|⟨xs,hq,q⟩
 ·obtain⟨its,rv,p,hz⟩:=I1.list hq;refine aZ p.isList ?_;refine⟨s1.heap.objs.size,[s1.heap.objs.size],_,_,H1,rfl,I1.kept (t':=s1.toks) λb o e=>P7 _ e,Gv a _,⟨_,T3 _ rfl,rfl,rfl⟩,λb hb=> ?_,q⟩;have e:b=s1.heap.objs.size:=by simpa using hb
  subst e;exact I1.fpOk (P5 _) (I1.hok.fresh (P5 _))
 ·obtain⟨its,rv,p,hz⟩:=I1.tuple hq;refine aM (show s1.heap.IsTuple a its.toArray from p) ?_;refine⟨s1.heap.objs.size,[s1.heap.objs.size],_,_,H1,rfl,I1.kept (t':=s1.toks) λb o e=>P7 _ e,MW a _,⟨_,T3 _ rfl,rfl,rfl⟩,λb hb=> ?_,q⟩;have e:b=s1.heap.objs.size:=by simpa using hb
  subst e;exact I1.fpOk (P5 _) (I1.hok.fresh (P5 _))
def iS (te:TED):TID:=λσ h R=>te σ h λx h1=>match x with
 | .lst a=>R (λh=>h a) h1
 | .tup ds=>R (λ_=>some ds) h1
 | .scr ns=>R (λ_=>some (ns.map D.int)) h1
 |_=>False
variable {K:G6}
theorem Oi {H:Hp}{a:P4}{ns:G0 G8}(hs:Scr K H a ns):Oe K H (λ_=>some (ns.map D.int)) (Itl K a):=λH' h' k rh ds' e i=>by
 cases e;have hs':Scr K H' a ns:=hs.elim (λ⟨o,z⟩=> .inl ⟨o,k.frz _ _ _ z⟩) .inr;refine⟨λd hd=> ?_,λhl=>⟨_,hs'.sq,by simpa using hl⟩⟩;obtain⟨v,e1,e2⟩:=(vb (K:=K) (H:=H') ns).get hd;refine⟨⟨_,v,hs'.sq,e1⟩,λx H'' ⟨eH,hx⟩=> ?_⟩;subst eH;have:=hx _ hs'.sq;rw [e1] at this;cases this;exact⟨.refl _,rh,e2⟩
variable {te:TED}
theorem KW: ∀σ H R,LI K (iS te) σ H R->KS K (LE K te) σ H R:=λσ H R ⟨σd,h,Rd,rs,rh,q,p⟩=>
 LE.bind rs rh q λd v h1 H1 k1 rs1 rh1 r1 q1=>by
  cases d<;>first
   |exact False.elim q1
   |skip
  ·rename_i ds;obtain⟨a,vs,e,hv,r⟩:=(show ∃a vs,v= .ref a/\H1 a=some (.tup vs)/\RelDs K H1 ds vs from r1);exact⟨a,e,.inr ⟨vs,SqT.of hv,p _ _ _ _ k1 rh1 (Of hv r) q1⟩⟩
  ·rename_i a;obtain⟨e,vs,hv⟩:=(show v= .ref a/\ ∃vs,H1 a=some (.lst vs) from r1);exact⟨a,e,.inl ⟨vs,SqL.of hv,p _ _ _ _ k1 rh1 (GJ H1 a) q1⟩⟩
  ·rename_i ns;obtain⟨a,e,hS⟩:=(show ∃a,v= .ref a/\Scr K H1 a ns from r1);exact⟨a,e,.inl ⟨_,hS.sq,p _ _ _ _ k1 rh1 (Oi hS) q1⟩⟩
theorem KY {tg e:T1}(he:QE X e te):QI X tg e (iS te):=(KU he).imp KW
def Ea:TSD:=λ_ _ _=>False
theorem KZ {st:C9}:QS X st Ea:=λ_ _ _ _ _ _ ⟨_,_,_,_,_,z,_⟩=>z.elim
structure Zs (mg:Str->D4 G7):Prop where
 len:mg "len" =none
 max:mg "max" =none
 min:mg "min" =none
 divmod:mg "divmod" =none
 all:mg "all" =none
 any:mg "any" =none
 repr:mg "repr" =none
 sum:mg "sum" =none
 sorted:mg "sorted" =none
 int:mg "int" =none
 tuple:mg "tuple" =none
 list:mg "list" =none
 set:mg "set" =none
 bool:mg "bool" =none
 isinstance:mg "isinstance" =none
 range:mg "range" =none
 zip:mg "zip" =none
 enumerate:mg "enumerate" =none
 reversed:mg "reversed" =none
def je (P:M0)(w:C6)(K:G6)(mg:Str->D4 G7)(base:L6)(n:G5)(x:Str)(ps:G0 Str)(sp:RDn):Prop:=
 ∃ (g:P4) (gd:R6),FnOk P w K mg base CX0 n g gd ps (LSp K sp)/\Binds K gd ps []/\aE K (.ref g)=true/\mg x=some (.ref g)
def Cc:RDn:=λds h Q=> ∃ns,ds= [.scr ns]/\(∀a,h a=none)/\ns.length<=63/\ ∀h',Q (.bl true) h'
def Bm (mg:Str->D4 G7)(base:L6):Prop:= ∃bm ob,mg "__builtins__" =some (.ref bm)/\bm≠iK/\base.get? bm=some ob/\ob.cls= .type "module" /\ob.dict=some iK/\ob.data= .plain
def yG (K:G6):G0 (P4×P4):=LN.filterMap (mM K)
theorem TabK.mem {P:P4}(h:TabK K P): ∃c,(c,P)∈yG K:=let ⟨x,hx,c,e⟩:=h;⟨c,cI.mpr ⟨x,hx,e⟩⟩
theorem Cd {P:M0}{w:C6}{mg mb:Str->D4 G7}{k:G5}{fa a:P4}{fd:R6}{x:Str}{s₁:P0}{vs:G0 G7}{ns:G0 G8}
 (KX:K.In s₁.heap)(hns:s₁.heap.Ns L9 mg)(hb:s₁.heap.Ns iK mb)(hbb: ∀x:Str,x≠ "__name__" ->mb x=E3 x)(hlim:s₁.heap.NoLimit)(hg:s₁.gens= #[])
 (ha:s₁.heap.get? a=some {cls:= .type "list",data:= .seq vs.toArray})(hi:Q9 vs ns)(hl:ns.length<=63)(hr:Room k mB)
 (hbm:Bm mg s₁.heap)(F: ∀base:L6,K.In base->base.Ns L9 mg->Bm mg base->FnOk P w K mg base CX0 k fa fd [x] (LSp K Cc))(hbind: ∀ (s:P0) (u:G7),pO s fd ⟨[u],[]⟩ [(x,u)])
 (hT: ∀p∈yG K,q0 s₁.heap p.1 p.2/\s₁.heap.get? p.2=some (lK #[])/\K.lookup p.2=none):
 fC (T4 P w) mB (.call (.ref fa) ⟨[.ref a],[]⟩) (λr s'=>r= .ok (.ret (.bool true))/\OldK s₁.heap s'.heap/\s'.os=s₁.os/\gO s'.gens) s₁:=by
 have rv:=GE hi;have lenV:=hi.length;have hz:ns.length<=sizeLine:=T5 hl (by decide);have hT': ∀b,b∈(yG K).map (·.2)-> ∃c,q0 s₁.heap c b/\s₁.heap.get? b=some (lK #[])/\K.lookup b=none:=λb hb=>by
  obtain⟨p,hp,rfl⟩:=R8.mp hb;exact⟨p.1,hT p hp⟩
 have core: ∀H:Hp,Scr K H a ns->HOk P w H s₁.heap->(∀b u,H b=some u->(b=a/\K.lookup a=none/\ ∃o xs,u= .frz o (.lst xs))\/(b∈(yG K).map (·.2)/\u= .tbl #[]))->(∀b,b∈(yG K).map (·.2)->H b=some (.tbl #[]))->
  fC (T4 P w) mB (.call (.ref fa) ⟨[.ref a],[]⟩) (λr s'=>r= .ok (.ret (.bool true))/\OldK s₁.heap s'.heap/\s'.os=s₁.os/\gO s'.gens) s₁:=by
  intro H hS hok hA hTt;have noA: ∀ {b:P4} {o:Obj} {es:N8 DictEntry} {ep:G5},s₁.heap.get? b=some o->o.data= .dict es ep->H b=none:=λ{b o es ep} e d=>by
   cases q:H b with
   |none=>rfl
   |some u=>
    rcases hA b u q with ⟨rfl,_,_⟩|⟨z,_⟩
    ·rw [ha] at e;cases e;have d':Data.seq vs.toArray _=Data.dict es ep:=d;cases d'
    ·obtain⟨c,_,e2,_⟩:=hT' b z;rw [e2] at e;cases e;have d':Data.fields _=Data.dict es ep:=d;cases d'
  have nsK: ∀ {b:P4} {m:Str->D4 G7},s₁.heap.Ns b m->(Lw s₁.heap H).Ns b m:=λ{b m} ⟨o,es,ep,e,d,r⟩=>⟨o,es,ep,XV e (noA e d),d,r⟩
  have hKb:K.In (Lw s₁.heap H):=λb o e=>XV (KX b o e) (by
   cases q:H b with
   |none=>rfl
   |some u=>
    rcases hA b u q with ⟨rfl,z,_⟩|⟨z,_⟩
    ·rw [z] at e;cases e
    ·obtain⟨c,_,_,z2⟩:=hT' b z;rw [z2] at e;cases e)
  have hM:Mod K mg (Lw s₁.heap H):=⟨hKb,nsK hns,⟨mb,nsK hb,hbb⟩,let ⟨mc,h1,h2⟩:=hlim;⟨mc,nsK h1,h2⟩⟩;have e0:Env0 P w K mg (Lw s₁.heap H) mB [] s₁ H:=⟨rfl,hM,λb o e=>Et e,W1 (Bj _ _),trivial,λb hb=>absurd (show b∈([]:G0 P4) from hb) (by simp),hok,.of_eq hg⟩;have hsp:LSp K Cc [.ref a] H (λv _=>v= .bl true) (λ_ _ _=>False):=by
   refine⟨[.scr ns],⟨λ_=>none,λ_=>none⟩,λd _=>d= .bl true,⟨.ref a,[],rfl,⟨a,rfl,hS⟩,rfl⟩,⟨λb ds e=>(by cases e),λp hp=> ?_,λb c e=>(by cases e)⟩,⟨ns,rfl,λ_=>rfl,hl,λ_=>rfl⟩,?_⟩
   ·obtain⟨c,hc⟩:=hp.mem;exact⟨#[],hTt p (bT (f:=(·.2)) hc),trivial,λpos cv e=>(by cases e)⟩
   ·intro d v h' H' _ _ r e;subst e;exact r
  have hBm:Bm mg (Lw s₁.heap H):=by
   obtain⟨bm,ob,b1,b2,b3,b4,r⟩:=hbm;refine⟨bm,ob,b1,b2,XV b3 ?_,b4,r⟩;cases q:H bm with
   |none=>rfl
   |some u=>
    rcases hA bm u q with ⟨rfl,_,_⟩|⟨z,_⟩
    ·rw [ha] at b3;cases b3;exact absurd (Value.type.inj b4) (by decide)
    ·obtain⟨c,_,e2,_⟩:=hT' bm z;rw [e2] at b3;cases b3;cases b4
  refine nD ((F _ hKb (nsK hns) hBm).run mB [] s₁ H ⟨[.ref a],[]⟩ [.ref a] [.ref a] _ _ hr e0 (hbind s₁ (.ref a)) (.cons rfl .nil) hsp) λr s' h=> ?_
  cases r with
  |error e=>exact False.elim h
  |ok fl=>
   cases fl with
   |next=>exact False.elim h
   |brk=>exact False.elim h
   |cont=>exact False.elim h
   |ret u=>
    obtain⟨v,H',os,bare,un,hok',r',q⟩:=h;have q':v= .bl true:=q;subst q';obtain rfl:u=Z4 true:=r';have one: ∀b o,s₁.heap.get? b=some o->s'.heap.get? b=some o\/(b∈(yG K).map (·.2)/\ ∃more,s'.heap.get? b=some (lK more)):=λb o e=>by
     cases q:H b with
     |none=>exact .inl (un.keep b o e q (by intro z;exact absurd (show b∈([]:G0 P4) from z) (by simp)) (by simp))
     |some u=>
      rcases hA b u q with ⟨rfl,_,ob,xs,rfl⟩|⟨z,rfl⟩
      ·have z2:=un.frzs _ ob _ q;obtain⟨e1,_⟩:=hok _ _ q;obtain⟨e2,_⟩:=hok' _ _ z2;rw [e] at e1;cases e1;exact .inl e2
      ·obtain⟨more,z2⟩:=un.tbls b _ q;exact .inr ⟨z,_,(show s'.heap.get? b=some _ from hok' b _ z2)⟩
    refine⟨rfl,⟨λb o e=> ?_,λb o e=> ?_⟩,os,bare⟩
    ·rcases one b o e with z|⟨z,more,z2⟩
     ·exact .inl z
     ·obtain⟨c,hc,e2,_⟩:=hT' b z;rw [e] at e2;cases e2;refine .inr (.inl ⟨(hc.tab e).isCodeTable,rfl,#[],more,rfl,?_⟩);rw [z2];simp
    ·rcases one b o e with z|⟨z,more,z2⟩
     ·exact⟨_,z⟩
     ·exact⟨_,z2⟩
 have nT:a ∉ (yG K).map (·.2):=λz=>by
  obtain⟨c,_,e2,_⟩:=hT' a z;rw [ha] at e2;cases e2
 have okT: ∀ {H:Hp} (b:P4),b∈(yG K).map (·.2)->ObjOk P w H s₁.heap b (.tbl #[]):=λb hb=>let ⟨_,_,e,_⟩:=hT' b hb;e
 cases hk:K.lookup a with
 |some o=>
  have e:=KX a o hk;rw [ha] at e;cases e;refine core (λb=>if b∈(yG K).map (·.2) then some (.tbl #[]) else none) (.inr ⟨_,vs.toArray,_,hk,rfl,rfl,rfl,by rw [R9,lenV];exact hz,by simpa using rv⟩) (λb u z=> ?_) (λb u z=> ?_) λb hb=>D8 hb
  ·by_cases hb:b∈(yG K).map (·.2)
   ·have z':=(D8 hb).symm.trans z;cases z';exact okT b hb
   ·have z':=(D9 hb).symm.trans z;cases z'
  ·by_cases hb:b∈(yG K).map (·.2)
   ·have z':=(D8 hb).symm.trans z;cases z';exact .inr ⟨hb,rfl⟩
   ·have z':=(D9 hb).symm.trans z;cases z'
 |none=>
  refine core (λb=>if b=a then some (.frz {cls:= .type "list",data:= .seq vs.toArray} (.lst (ns.map V.int))) else if b∈(yG K).map (·.2) then some (.tbl #[]) else none) (.inl ⟨{cls:= .type "list",data:= .seq vs.toArray},D8 rfl⟩) (λb u z=> ?_) (λb u z=> ?_) λb hb=> ?_
  ·by_cases hb:b=a
   ·have z':=(D8 hb).symm.trans z;cases z';subst hb;exact⟨ha,by rw [G1];exact hz,vs,_,rv,ha⟩
   ·have z':=(D9 hb).symm.trans z
    by_cases hb2:b∈(yG K).map (·.2)
    ·have z2:=(D8 hb2).symm.trans z';cases z2;exact okT b hb2
    ·have z2:=(D9 hb2).symm.trans z';cases z2
  ·by_cases hb:b=a
   ·have z':=(D8 hb).symm.trans z;cases z';exact .inl ⟨hb,hk,_,_,rfl⟩
   ·have z':=(D9 hb).symm.trans z
    by_cases hb2:b∈(yG K).map (·.2)
    ·have z2:=(D8 hb2).symm.trans z';cases z2;exact .inr ⟨hb2,rfl⟩
    ·have z2:=(D9 hb2).symm.trans z';cases z2
  ·have:b≠a:=λz=>nT (z ▸ hb)
   show (if b=a then _ else _)=_;rw [D9 this,D8 hb]
def qe (q:M0)(K:G6):T9:=LN.all λx=>match mM K x with
 |some p=>(K.lookup p.2).isNone&&((w6 q).find? (λe=>e.name==x)).isSome
 |none=>true
theorem Oj {l:pB}{k:G5}{q:M0}{loose:G0 Str}{XP:(Str->D4 G7)->L6->Prop}{YP:C6->L6->Prop}{d:DefRec}{K:G0h->G6}{x:Str}(hn:l.most=some 63)(hdf:d.params.defaults= [])(hr:Room k mB)
 (hY: ∀ (w:C6) (h:L6),YP w h->(K w.params).In h)(hB: ∀w:C6,qe q (K w.params)=true)
 (F: ∀ (w:C6) (mg:Str->D4 G7) (fa:P4) (h:L6),(K w.params).In h->h.Ns L9 mg->mg d.name=some (.ref fa)->
  ∃fd:R6,(∀ (s:P0) (u:G7),pO s fd ⟨[u],[]⟩ [(x,u)])/\ ∀base:L6,(K w.params).In base->base.Ns L9 mg->Bm mg base->FnOk l.prog w (K w.params) mg base CX0 k fa fd [x] (LSp (K w.params) Cc)):
 G0t q loose XP YP l.row.toRowW d [] (λf vs=>z8 f vs):=by
 refine Att.attach_call hn hdf λw s₀ s₁ mg mb fa o pm cd doc a vs ns G Y ho hd hcd hmg hobj hints hlen hg=> ?_
 have KX:=hY w _ Y;obtain⟨fd,hb,hF⟩:=F w mg fa _ KX G.T.g hmg;refine Cd KX G.T.g G.T.b G.T.builtins G.T.nolimit hg hobj hints hlen hr G.T.bmain hF hb λp hp=> ?_
 obtain⟨x,hx,e⟩:=cI.mp hp;have z:=T8.mp (hB w) x hx;rw [e] at z;simp only [B7,Option.isNone_iff_eq_none] at z;obtain⟨dd,hdd⟩:=Z8.mp z.2;have t:=G0j (c:=p.1) (P:=p.2) G.T KX hdd e;exact⟨t.1,t.2,z.1⟩
def zV:T1->T9
 | .Starred .. =>false
 |_=>true
theorem Dx {e:T1}{es:G0 T1}{env:Env}(h:zV e=true):D6 (e::es) env=(false,O5 e env)::D6 es env:=by
 cases e<;>first|rfl|cases h
theorem qac {e:T1}{es:G0 T1}{t:TAD}(ha:QE X e te)(hr:QA X es t)(h:zV e=true:=by rfl):QA X (e::es) (zg te t):=BP ha hr (Dx h)
theorem Dy {α:Type}{xs:G0 α}{i:G8}(h0:0<=i)(h1:i<xs.length): ∃x∈xs,atI xs i=some x:=by
 have hk:i.toNat<xs.length:=by omega
 have ek:i=((i.toNat:G5):G8):=by omega
 have z:=zK (G2 hk);rw [<-ek] at z;exact⟨xs[i.toNat],B3 hk,z⟩
variable {h h':HD}{L:G0 D}
theorem Sub.both (s:Sub h h'):Sub (wB h p L) (wB h' p L):=⟨λa ds e=>(by
 by_cases q:a=p
 ·subst q;rw [jc] at e ⊢;exact e
 ·rw [ym q] at e ⊢;exact s a ds e),s.dc⟩
theorem Sub.newAt (s:Sub h h')(e:h' p=none):Sub h (wB h' p L):=s.trans (.new e)
structure But (p:P4)(h h':HD):Prop where
 ls: ∀a ds,a≠p->h a=some ds->h' a=some ds
 dc: ∀a c,h.dc a=some c->h'.dc a=some c
instance {p:P4}{h h':HD}:CoeFun (But p h h') λ_=> ∀a ds,a≠p->h a=some ds->h' a=some ds:=⟨But.ls⟩
theorem But.refl (p:P4)(h:HD):But p h h:=⟨λ_ _ _ e=>e,λ_ _ e=>e⟩
variable {q:P4}
theorem But.new (s:But p h h')(e:h' q=none):But p h (wB h' q L):=⟨λa ds n z=>(by
 have:=s a ds n z;rw [ym (λw=>by subst w;rw [e] at this;cases this)];exact this),s.dc⟩
theorem But.put (s:But p h h'):But p h (wB h' p L):=⟨λa ds n z=>(by rw [ym n];exact s a ds n z),s.dc⟩
theorem But.putNew (s:But p h h')(e:h q=none):But p h (wB h' q L):=⟨λa ds n z=>(by
 rw [ym (λw=>by subst w;rw [e] at z;cases z)];exact s a ds n z),s.dc⟩
theorem But.sub (s:But p h h')(e:h' p=some L):Sub (wB h p L) h':=⟨λa ds z=>(by
 by_cases q:a=p
 ·subst q;rw [jc] at z;cases z;exact e
 ·rw [ym q] at z;exact s a ds q z),s.dc⟩
theorem But.upd:But p h (wB h p L):=⟨λa ds n z=>(by rw [ym n];exact z),λ_ _ e=>e⟩
theorem jY (e:h p=some L)(f:h q=none):q≠p:=λz=>by subst z;rw [e] at f;cases f
theorem jD {M:G0 D}(e:h p=some L)(f:h q=none):wB h q M p=some L:=by rw [ym (λz=>by subst z;rw [e] at f;cases f)];exact e
theorem jA {a b:P4}{M:G0 D}(n:b≠a)(e:h b=some M):wB h a L b=some M:=by rw [ym n];exact e
theorem VE {n:G5}{i:G5}{d:D}(h:((G3 n).map λ(k:G5)=>D.int (k:G8))[i]? =some d):i<n/\d= .int i:=by
 rw [P9] at h
 by_cases hi:i<n
 ·rw [C0 hi] at h;cases h;exact⟨hi,rfl⟩
 ·rw [L5 (by simpa using hi)] at h;cases h
variable {E:EndsD}{σ:SD}
theorem jf {t u:TSD}(V:SD->HD->Prop)(first: ∀K:SD->HD->Prop,(∀σ' h',V σ' h'->K σ' h')->t {E with nx:=K} σ h)(rest: ∀σ' h',V σ' h'->u E σ' h'):Zy t u E σ h:=first (u E) rest
theorem Ce (b:But p h h')(e:h' q=none)(n:q≠p):h q=none:=by
 cases z:h q with
 |none=>rfl
 |some ds=>rw [b q ds n z] at e;cases e
def Nxt (E:EndsD)(V:SD->HD->Prop):EndsD:= {E with nx:=λσ3 h3=> ∃h4,Sub h4 h3/\V σ3 h4,ct:=λσ3 h3=> ∃h4,Sub h4 h3/\V σ3 h4,bk:=E.nx}
variable {h1:HD}
theorem yS {ta:TAD}{g:TGD}{tb:TSD}(n:G5)(W:G5->SD->HD->Prop)(hn:n<1000000)
 (ht: ∀R:G0 D->HD->Prop,R [.int (n:G8)] h1->ta σ h R)(w0:W 0 σ h1)(done: ∀σ' h',W n σ' h'->E.nx σ' h')
 (turn: ∀i σ' h',i<n->W i σ' h'->g (.int (i:G8)) σ' h' λσ2 h2=>tb (Nxt E λσ3 h4=>i+1<=n/\W (i+1) σ3 h4) σ2 h2):KA (iR1 ta) g tb E σ h:=by
 refine ht _ ⟨(n:G8),rfl,by omega,by omega,n,λi σ' h'=>i<=n/\W i σ' h',⟨N4 _,w0⟩,?_⟩;rintro i σ' h' ⟨hi,w⟩;refine⟨_,rfl,by simp,λhl=> ?_,λd hd=> ?_⟩
 ·have:i=n:=by simp at hl;omega
  subst this;exact done _ _ w
 ·obtain⟨hi',e⟩:=VE hd;have hi2:i<n:=by omega
  subst e;exact turn i σ' h' hi2 w
theorem Ol {ti:TID}{g:TGD}{tb:TSD}{j:ItD}(ds:G0 D)(W:G5->SD->HD->Prop)
 (ht: ∀R:ItD->HD->Prop,R j h1->ti σ h R)(hj: ∀i σ' h',W i σ' h'->j h'=some ds)(w0:W 0 σ h1)(done: ∀σ' h',W ds.length σ' h'->E.nx σ' h')
 (turn: ∀i d σ' h',ds[i]? =some d->W i σ' h'->g d σ' h' λσ2 h2=>tb (Nxt E λσ3 h4=>i+1<=ds.length/\W (i+1) σ3 h4) σ2 h2):KA ti g tb E σ h:=by
 refine ht _ ⟨ds.length,λi σ' h'=>i<=ds.length/\W i σ' h',⟨N4 _,w0⟩,?_⟩;rintro i σ' h' ⟨hi,w⟩;refine⟨ds,hj i σ' h' w,P5 _,λhl=> ?_,λd hd=>turn i d σ' h' hd w⟩;have:i=ds.length:=by omega
 subst this;exact done _ _ w
theorem ve {g:TGD}{tb:TSD}{j:ItD}(ds:G0 D)(W:G5->SD->HD->Prop)
 (hj: ∀i σ' h',W i σ' h'->j h'=some ds)(w0:W 0 σ h1)(done: ∀σ' h',W ds.length σ' h'->E.nx σ' h')
 (turn: ∀i d σ' h',ds[i]? =some d->W i σ' h'->g d σ' h' λσ2 h2=>tb (Nxt E λσ3 h4=>i+1<=ds.length/\W (i+1) σ3 h4) σ2 h2):
 ∃ (n:G5) (W:G5->SD->HD->Prop),W 0 σ h1/\ ∀i σ' h',W i σ' h'-> ∃ds,j h'=some ds/\ds.length<=n/\(ds.length<=i->E.nx σ' h')/\
  ∀d,ds[i]? =some d->g d σ' h' λσ2 h2=>tb {E with nx:=λσ3 h3=> ∃h4,Sub h4 h3/\W (i+1) σ3 h4,ct:=λσ3 h3=> ∃h4,Sub h4 h3/\W (i+1) σ3 h4,bk:=E.nx} σ2 h2:=by
 refine⟨ds.length,λi σ' h'=>i<=ds.length/\W i σ' h',⟨N4 _,w0⟩,?_⟩;rintro i σ' h' ⟨hi,w⟩;refine⟨ds,hj i σ' h' w,P5 _,λhl=> ?_,λd hd=>turn i d σ' h' hd w⟩;have:i=ds.length:=by omega
 subst this;exact done _ _ w
theorem Eb {i:G5}{js:G0 G5}{ta:TAD}{Q:KD}(n:G5)(W:G5->G0 D->HD->Prop)(hn:n<=1000)(ht: ∀R:G0 D->HD->Prop,R [.int (n:G8)] h1->ta σ h R)
 (w0:W 0 [] h1)(wl: ∀k ys h',W k ys h'->ys.length=k)(turn: ∀k ys h',k<n->W k ys h'->te ((jJ js σ).set i (some (.int (k:G8)))) h' λy h4=> ∃h5,Sub h5 h4/\(k+1<=n/\W (k+1) (ys++ [y]) h5))
 (done: ∀ys h',W n ys h'-> ∀p,h' p=none->Q (.lst p) (wB h' p ys)):vU (bN i) js (iR1 ta) vT te σ h Q:=by
 refine ht _ ⟨(n:G8),rfl,by omega,by omega,n,λk ys h'=>k<=n/\W k ys h',⟨N4 _,w0⟩,?_⟩;rintro k ys h' ⟨hk,w⟩;refine⟨by rw [wl k ys h' w];exact S1 (ju (by omega)),_,rfl,by simp,λhl p hp=> ?_,λd hd=>⟨_,rfl,?_⟩⟩
 ·have:k=n:=by simp at hl;omega
  subst this;exact done ys h' w p hp
 ·obtain⟨hi',e⟩:=VE hd;subst e;unfold vT;dsimp only;rw [D8 rfl];exact turn k ys h' (by omega) w
end L2
namespace L2
open PySem PySem.Spec PyProof.Rows PySem.SeqAt
mutual
def ToP (h:HD):D->W3->Prop
 |d,.none=>d= .non
 |d,.bool b=>d= .bl b
 |d,.int i=>d= .int i
 |d,.str x=>d= .str x
 |d,.tuple ps=> ∃ds,d= .tup ds/\ToPs h ds ps
 |d,.list ps=> ∃a ds,d= .lst a/\h a=some ds/\ToPs h ds ps
 |_,.dict _=>False
def ToPs (h:HD):G0 D->G0 W3->Prop
 |ds,[]=>ds= []
 |ds,p::ps=> ∃d r,ds=d::r/\ToP h d p/\ToPs h r ps
end
section
variable {X:Cx}{pins:G0 (P4×Obj)}{σ:St}{H:Hp}{s:P0}{h:HD}
mutual
theorem wD (I:Inv X pins σ H s)(rh:RelH X.K h H): ∀ {p:W3} {d:D} {v:V} {u:G7},ToP h d p->RelD X.K H d v->RelV v u-> ∃as,Reads s.heap u p as
 | .none,d,v,u,t,r,ru=>by cases (show d= .non from t);cases (show v= .non from r);cases (show u= .none from ru);exact⟨[],.none⟩
 | .bool b,d,v,u,t,r,ru=>by cases (show d= .bl b from t);cases (show v= .bl b from r);cases (show u= .bool b from ru);exact⟨[],.bool b⟩
 | .int i,d,v,u,t,r,ru=>by cases (show d= .int i from t);cases (show v= .int i from r);obtain⟨k,rfl⟩:=(show ∃t,u=cN i t from ru);exact⟨[],.int i k⟩
 | .str x,d,v,u,t,r,ru=>by cases (show d= .str x from t);cases (show v= .str x from r);obtain⟨k,rfl⟩:=(show ∃t,u=l8 x t from ru);exact⟨[],.str x k⟩
 | .tuple ps,d,v,u,t,r,ru=>by
  obtain⟨ds,e,ts⟩:=(show ∃ds,d= .tup ds/\ToPs h ds ps from t);subst e;obtain⟨a,vs,e,hH,rs⟩:=(show ∃a vs,v= .ref a/\H a=some (.tup vs)/\RelDs X.K H ds vs from r);subst e;cases (show u= .ref a from ru);obtain⟨its,rv,ht,_⟩:=I.tuple (SqT.of hH);obtain⟨o,ho,hc,n,hd⟩:=ht;obtain⟨as,q⟩:=reads_Ds I rh ts rs rv;exact⟨as,.tuple ho hc hd q⟩
 | .list ps,d,v,u,t,r,ru=>by
  obtain⟨a,ds,e,ha,ts⟩:=(show ∃a ds,d= .lst a/\h a=some ds/\ToPs h ds ps from t);subst e;obtain⟨vs,hH,rs⟩:=rh a ds ha;have e:v= .ref a:=r.1;subst e;cases (show u= .ref a from ru);obtain⟨its,rv,pl,_⟩:=I.list (SqL.of hH);obtain⟨o,ho,hc,n,hd⟩:=pl.isList;obtain⟨as,q⟩:=reads_Ds I rh ts rs rv;exact⟨a::as,.list ho hc hd q⟩
 | .dict _,_,_,_,t,_,_=>(show False from t).elim
theorem reads_Ds (I:Inv X pins σ H s)(rh:RelH X.K h H): ∀ {ps:G0 W3} {ds:G0 D} {vs:G0 V} {us:G0 G7},ToPs h ds ps->RelDs X.K H ds vs->Vals vs us-> ∃as,ReadsAll s.heap us ps as
 | [],ds,vs,us,t,r,rv=>by
  cases (show ds= [] from t);cases (show vs= [] from r);cases rv;exact⟨[],.nil⟩
 |p::ps,ds,vs,us,t,r,rv=>by
  obtain⟨d,dr,e,t1,t2⟩:=(show ∃d r,ds=d::r/\ToP h d p/\ToPs h r ps from t);subst e;obtain⟨v,vr,e,r1,r2⟩:=(show ∃v r,vs=v::r/\RelD X.K H d v/\RelDs X.K H dr r from r);subst e;cases rv with
  |cons ru rt=>
   obtain⟨as,q1⟩:=wD I rh t1 r1 ru;obtain⟨bs,q2⟩:=reads_Ds I rh t2 r2 rt;exact⟨as++bs,.cons q1 q2⟩
end
end
def eqE:RD2:=λx y h Q=>match x,y with
 | .int i,.int j=>Q (.bl (decide (i=j))) h
 | .bl i,.bl j=>Q (.bl (decide (i=j))) h
 | .str i,.str j=>Q (.bl (decide (i=j))) h
 |x,y=> ∃p q,ToP h x p/\ToP h y q/\f8 p=true/\f8 q=true/\Q (.bl (F5 p q)) h
def neE:RD2:=λx y h Q=>match x,y with
 | .int i,.int j=>Q (.bl (!decide (i=j))) h
 | .bl i,.bl j=>Q (.bl (!decide (i=j))) h
 | .str i,.str j=>Q (.bl (!decide (i=j))) h
 |x,y=> ∃p q,ToP h x p/\ToP h y q/\f8 p=true/\f8 q=true/\Q (.bl (!F5 p q)) h
section
variable {X:Cx}
def eqG:RD2:=λx y h Q=> ∃p q,ToP h x p/\ToP h y q/\f8 p=true/\f8 q=true/\Q (.bl (F5 p q)) h
def neG:RD2:=λx y h Q=> ∃p q,ToP h x p/\ToP h y q/\f8 p=true/\f8 q=true/\Q (.bl (!F5 p q)) h
theorem kb (hu:X.A.units+64<cLine):OpQ X (N9 .Eq) eqG:=by
 intro pins s σ H x y v u Q I rx ry h;obtain⟨dx,dy,h,Qd,r1,r2,rh,⟨p,q,t1,t2,s1,s2,qq⟩,post⟩:=h;obtain⟨as,a1⟩:=wD I rh t1 r1 rx;obtain⟨bs,b1⟩:=wD I rh t2 r2 ry;exact compareEq_shaped a1 b1 s1 s2 hu ⟨.bl _,H,I,rfl,post (.bl _) _ _ _ (.refl H) rh rfl qq⟩
theorem kc (hu:X.A.units+64<cLine):OpQ X (N9 .NotEq) neG:=by
 intro pins s σ H x y v u Q I rx ry h;obtain⟨dx,dy,h,Qd,r1,r2,rh,⟨p,q,t1,t2,s1,s2,qq⟩,post⟩:=h;obtain⟨as,a1⟩:=wD I rh t1 r1 rx;obtain⟨bs,b1⟩:=wD I rh t2 r2 ry;exact compareNe_shaped a1 b1 s1 s2 hu ⟨.bl _,H,I,rfl,post (.bl _) _ _ _ (.refl H) rh rfl qq⟩
theorem OpQ.or' {f:G7->G7->Sem G7}{r r' r2:RD2}(h:OpQ X f r)(h':OpQ X f r')(i: ∀x y hh Q,r2 x y hh Q->r x y hh Q\/r' x y hh Q):OpQ X f r2:=λpins s σ H x y v u Q I rx ry ⟨dx,dy,hd,Qd,r1,r2',rh,q,p⟩=>
 (i dx dy hd Qd q).elim (λz=>h pins s σ H x y v u Q I rx ry ⟨dx,dy,hd,Qd,r1,r2',rh,z,p⟩) λz=>h' pins s σ H x y v u Q I rx ry ⟨dx,dy,hd,Qd,r1,r2',rh,z,p⟩
theorem Zl (hu:X.A.units+64<cLine):OpQ X (N9 .Eq) eqE:=oq_eq.or' (kb hu) λx y h Q q=>by
 unfold eqE at q;split at q
 ·exact .inl q
 ·exact .inl q
 ·exact .inl q
 ·exact .inr q
theorem Cf (hu:X.A.units+64<cLine):OpQ X (N9 .NotEq) neE:=oq_ne.or' (kc hu) λx y h Q q=>by
 unfold neE at q;split at q
 ·exact .inl q
 ·exact .inl q
 ·exact .inl q
 ·exact .inr q
def isN:D->T9
 | .non=>true
 |_=>false
def isV (neg:T9):RD2:=λx y h Q=>match y with
 | .non=>Q (.bl (neg !=isN x)) h
 | .bl c=>match x with
  | .bl b=>Q (.bl (neg !=(b==c))) h
  | .non=>Q (.bl neg) h
  |_=>False
 |_=>False
theorem Cg {K:G6}{H:Hp}{d:D}{v:V}(r:RelD K H d v):decide (v=V.non)=isN d:=by
 cases d with
 |non=>cases (show v= .non from r);rfl
 |bl b=>cases (show v= .bl b from r);rfl
 |int b=>cases (show v= .int b from r);rfl
 |str b=>cases (show v= .str b from r);rfl
 |tup ds=>obtain⟨a,vs,e,_⟩:=(show ∃a vs,v= .ref a/\H a=some (.tup vs)/\RelDs K H ds vs from r);subst e;rfl
 |lst a=>cases (show v= .ref a from r.1);rfl
 |dic x i=>obtain⟨a,e,_⟩:=(show ∃a,v= .ref a/\H a=some (.dK [(bK x,V.int i)]) from r);subst e;rfl
 |dct a=>cases (show v= .ref a from r);rfl
 |scr ns=>obtain⟨a,e,_⟩:=(show ∃a,v= .ref a/\Scr K H a ns from r);subst e;rfl
 |exc C=>obtain⟨x,o,vs,e,_⟩:=(show ∃x o vs,v= .ref x/\H x=some (.frz o (.own 0))/\o.cls= .ref C/\o.data= .fields vs from r);subst e;rfl
 |fn a=>cases (show v= .ref a from r.1);rfl
theorem Dz:OpQ X (N9 .Is) (isV false):=by
 intro pins s σ H x y v u Q I rx ry h;obtain⟨dx,dy,h,Qd,r1,r2,rh,q,post⟩:=h;cases dy with
 |non=>
  have e:y= .non:=r2;subst e;refine HL pins s σ H x .non v u Q I rx ry ⟨rfl,?_⟩;rw [Cg r1];have q':Qd (.bl (isN dx)) h:=by simpa [isV] using q
  exact post (.bl _) _ _ _ (.refl H) rh rfl q'
 |bl c=>
  have e:y= .bl c:=r2;subst e;cases (show u= .bool c from ry);cases dx<;>first
   |exact False.elim q
   |skip
  ·have e:x= .non:=r1;subst e;cases (show v= .none from rx);exact rA (by rfl) ⟨.bl false,H,I,rfl,post (.bl false) _ _ _ (.refl H) rh rfl q⟩
  ·rename_i b;have e:x= .bl b:=r1;subst e;cases (show v= .bool b from rx);have eb:(Z4 b==Z4 c)=(b==c):=by cases b<;>cases c<;>rfl
   refine rA (by rfl) ⟨.bl (b==c),H,I,by rw [eb];rfl,post (.bl (b==c)) _ _ _ (.refl H) rh rfl ?_⟩;simpa [isV] using q
 |_=>exact False.elim q
theorem RY:OpQ X (N9 .IsNot) (isV true):=by
 intro pins s σ H x y v u Q I rx ry h;obtain⟨dx,dy,h,Qd,r1,r2,rh,q,post⟩:=h;cases dy with
 |non=>
  have e:y= .non:=r2;subst e;refine EC pins s σ H x .non v u Q I rx ry ⟨rfl,?_⟩;rw [Cg r1];have q':Qd (.bl (!isN dx)) h:=by simpa [isV] using q
  exact post (.bl _) _ _ _ (.refl H) rh rfl q'
 |bl c=>
  have e:y= .bl c:=r2;subst e;cases (show u= .bool c from ry);cases dx<;>first
   |exact False.elim q
   |skip
  ·have e:x= .non:=r1;subst e;cases (show v= .none from rx);exact nM (by rfl) ⟨.bl true,H,I,rfl,post (.bl true) _ _ _ (.refl H) rh rfl q⟩
  ·rename_i b;have e:x= .bl b:=r1;subst e;cases (show v= .bool b from rx);have eb:(!(Z4 b==Z4 c))= !(b==c):=by cases b<;>cases c<;>rfl
   refine nM (by rfl) ⟨.bl (!(b==c)),H,I,by rw [eb];rfl,post (.bl (!(b==c))) _ _ _ (.refl H) rh rfl ?_⟩;simpa [isV] using q
 |_=>exact False.elim q
end
end L2
namespace HT
open PySem PySem.Spec PyProof.Rows
section
variable {prog:M0}{w:C6}{A:C5}{E:G7->P0->Prop}{s:P0}
theorem GN (k:G8){vs:G0 G7}{ns:G0 G8}(hi:Q9 vs ns)(j:G5)(h:j<ns.length): ∃t,vs[j]? =some (.int ns[j] t):=by
 induction hi generalizing j with
 |nil=>simp at h
 |cons n t r ih=>
  cases j with
  |zero=>exact⟨t,rfl⟩
  |succ j=>obtain⟨u,e⟩:=ih j (by simpa using h);exact⟨u,by simpa using e⟩
theorem DA {a:P4}{vs:G0 G7}{ns:G0 G8}{k:G8}{t:Tok}{Q:G7->P0->Prop}(ht:mI s.heap a vs.toArray)(hi:Q9 vs ns)(hk:k∈ns)(h:Q (.int (ns.idxOf k:G5) s.toks) {s with toks:=s.toks+1}):
 S6 (T4 prog w) A (call (.builtin "tuple.index") [.ref a,.int k t]) Q E s:=by
 refine A7 gZ ht.typeIs rN ?_ (rB _ _);unfold Builtin.«tuple.index»;have hj:ns.idxOf k<ns.length:=A9.mpr hk;have hlen:=hi.length;show S6 _ _ (bE (.ref a) >>= _) _ _ s;refine wpAny_bind (mK ht ?_);have go:S6 (T4 prog w) A.in1 (forIn [0:min vs.toArray.size vs.toArray.size] ((none,()):D4 dM×Unit) λi __s=>
  match vs.toArray[i]? with
  |some y=>do
   let b <-eqBool y (.int k t)
   if b=true then do
    let r <-retInt ((i:G5):G8)
    pure (G0k (some r,()))
    else pure (aR (none,()))
  |x=>pure (aR (none,())))
  (λr s'=>r=(some (.done (.ret (.int (ns.idxOf k:G5) s.toks))),())/\s'= {s with toks:=s.toks+1}) E s:=by
  rw [bG];refine oG _ (λrest b s'=>b=(none,())/\s'=s/\ ∃i,i<=ns.idxOf k/\rest=t8 i (ns.length-i)) _ ?_ ?_ _ _ ⟨rfl,rfl,0,N4 _,?_⟩
  ·rintro x rest b s' ⟨rfl,rfl,i,hil,e⟩;have hin:i<ns.length:=by omega
   obtain⟨n,hn⟩: ∃n,ns.length-i=n+1:=⟨ns.length-i-1,by omega⟩;rw [hn,iA] at e;injection e with e1 e2
   subst e1 e2;obtain⟨u,hu⟩:=GN k hi x hin;have hu':vs.toArray[x]? =some (.int ns[x] u):=by simpa using hu
   rw [hu'];refine wpAny_bind (oB ?_)
   by_cases hx:x=ns.idxOf k
   ·have he:(ns[x]==k)=true:=by subst hx;simpa using K4 hj
    rw [D8 he];subst hx;refine wpAny_bind ?_;exact wpAny_bind (wpAny_mkInt (D2 (D2 ⟨rfl,rfl⟩)))
   ·have hlt:x<ns.idxOf k:=by omega
    have he: ¬ (ns[x]==k)=true:=by rw [ne_of_lt_idxOf hlt hin];exact R0
    rw [D9 he];refine D2 ⟨rfl,rfl,x+1,hlt,?_⟩;have:n=ns.length-(x+1):=by omega
    rw [this]
  ·rintro b s' ⟨rfl,rfl,i,hil,e⟩;have hin:i<ns.length:=by omega
   obtain⟨n,hn⟩: ∃n,ns.length-i=n+1:=⟨ns.length-i-1,by omega⟩;rw [hn,iA] at e;cases e
  ·simp [hlen]
 refine wpAny_bind (D2 (wpAny_bind (D2 (wpAny_bind (N0 go (λr s' e=> ?_) λ_ _ e=>e)))));obtain⟨rfl,rfl⟩:=e;exact D2 ⟨_,rfl,h⟩
end
section
variable {prog:M0}{w:C6}{A:C5}{E:G7->P0->Prop}{s:P0}
theorem Ni {l:P4}{vs:G0 G7}{ns:G0 G8}{Q:G7->P0->Prop}(hl:mI s.heap l vs.toArray)(hI:Q9 vs ns)(h64:vs.length<64)
 (h: ∀ (h1 h':L6) (out:N8 G7) (ns':G0 G8) (c:G5),(∀b o,s.heap.get? b=some o->h1.get? b=some o)->(∀b o,h1.get? b=some o->h'.get? b=some o)->h'.get? h1.objs.size=some (dA "list" out c)->
  Q9 out.toList ns'->ns'.Perm ns->ns'.Pairwise (· <= ·)->Q (.ref h1.objs.size) {s with heap:=h'}):S6 (T4 prog w) A (call (.builtin "sorted") [.ref l]) Q E s:=by
 have few:vs.length<=sizeLine:=S1 (Y3 h64 (by decide));obtain⟨o,at_,cl,n,dat⟩:=hl;refine gI u0 sZ tD (tE _) (wpAny_bind (D2 (wpAny_bind (wpAny_collect_seq l (.inr rfl) at_ cl dat (λh1 grown=> ?_) (by simpa using few)))));have fresh:(h1.push (dA "list" vs.toArray 0)).get? h1.objs.size=some (dA "list" vs.toArray 0):=T3 _ rfl;refine wpAny_bind (mP (wpAny_bind (K2 (A7 rC ⟨_,fresh,rfl⟩ pE (list_sort_tree fresh hI h64 λout ns' i1 i2 i3=>⟨_,rfl,?_⟩) (rD _)))) few);obtain⟨c,lies⟩:=sortedHeap_at (vs:=vs) (out:=out) fresh;refine D2 ⟨_,rfl,h h1 _ out ns' c grown (λb ob e=> ?_) lies i1 i2 i3⟩;have lt:=S0 e;rw [sortedHeap_old (M9 lt) (by rw [size_push'];exact a6 lt)];exact P7 _ e
end
end HT
namespace L2
open PySem PySem.Spec PyProof.Rows
theorem Xz: ∀ {ns:G0 G8} {us:G0 G7},Vals (ns.map V.int) us->Q9 us ns
 | [],_,r=>by cases r;exact .nil
 |n::ns,_,r=>by
  cases r with
  |cons r t=>obtain⟨k,rfl⟩:=r;exact .cons n k (Xz t)
theorem VF: ∀ {ns:G0 G8} {us:G0 G7},Q9 us ns->Vals (ns.map V.int) us
 |_,_,.nil=> .nil
 |_,_,.cons n t r=> .cons ⟨t,rfl⟩ (VF r)
theorem zG {K:G6}{H:Hp}: ∀ {ns:G0 G8} {vs:G0 V},RelDs K H (ns.map D.int) vs->vs=ns.map V.int
 | [],_,h=>h
 |n::ns,vs,h=>by
  obtain⟨v,r,e,h1,h2⟩:=(show ∃v r,vs=v::r/\RelD K H (.int n) v/\RelDs K H (ns.map D.int) r from h);rw [e,zG h2,(show v= .int n from h1)];rfl
theorem VG: ∀ {xs:G0 V} {us:G0 G7},xs.length=us.length->(∀ (i:G5) (x:V) (u:G7),xs[i]? =some x->us[i]? =some u->RelV x u)->Vals xs us
 | [],[],_,_=> .nil
 |x::xs,u::us,hl,h=> .cons (h 0 x u rfl rfl) (VG (by simpa using hl) λi y w e1 e2=>h (i+1) y w (by simpa using e1) (by simpa using e2))
 | [],_::_,hl,_=>by simp at hl
 |_::_,[],hl,_=>by simp at hl
theorem XA (ns:G0 G8): ∀k,k<=ns.length->IC (λi=>ns.getD i 0) k=(ns.take k).sum
 |0,_=>by simp [IC]
 |k+1,h=>by
  have hk:k<ns.length:=by omega
  rw [IC,XA ns k (by omega),N7,G2 hk,j6,D1,G2 hk];simp
variable {X:Cx}
theorem Qn (hc:X.calm=true):CallR X (.builtin "sum") (λxs H Q=> ∃ (a:P4) (ns:G0 G8),xs= [.ref a]/\SqL X.K H a (ns.map V.int)/\Q (.int ns.sum) H):=by
 intro pins s σ H xs us Q I r h;obtain⟨a,ns,rfl,hS,q⟩:=h;obtain⟨u,rfl,ru⟩:=ZY r;cases ru;obtain⟨its,rv,pl,hz⟩:=I.list hS;have hl:=pl.isList;have hlt:a<s.heap.objs.size:=by obtain⟨_,e,_⟩:=hl;exact S0 e
 have hi:=Xz rv;have hn:its.length=ns.length:=hi.length;refine call_sum_walkAnyS (aZ hl ?_);refine⟨s.heap.objs.size,_,_,_,_,_,_,λi=>ns.getD i 0,rfl,(Walks.list (A:=X.A.in1) (show X.A.in1.handled=none from I.ok.hd hc) s.heap.objs.size a (M9 hlt) its.toArray).toS,⟨⟨_,T3 _ rfl,rfl,rfl⟩,hl.push _⟩,?_,?_,λs' t' hm=> ?_⟩
 ·intro b hb;simp only [T6,A8,or_false] at hb;show b<(s.heap.push _).objs.size;rw [cY];rcases hb with e|e
  ·rw [e];exact J1 _
  ·rw [e];exact a6 hlt
 ·intro i v hP;have e:its[i]? =some v:=by simpa using hP
  have hil:i<ns.length:=by rw [<-hn];exact(P8.mp e).1
  obtain⟨t,e2⟩:=HT.GN 0 hi i hil;rw [e] at e2;cases e2;refine⟨t,?_⟩;show cN ns[i] t=cN (ns.getD i 0) t;rw [D1,G2 hil];rfl
 ·have e:IC (λi=>ns.getD i 0) its.toArray.size=ns.sum:=by
   rw [R9,hn,XA ns _ (P5 _),W6]
  rw [e];obtain⟨h',g',d',tk',o'⟩:=s';obtain⟨m1,m2,m3,m4,_⟩:=hm;simp only at m1 m2 m3 m4;subst m2 m3 m4;refine⟨.int ns.sum,H,I.kept (t':=tk') (λb o e=>m1 b o (λz=> ?_) (P7 _ e)),⟨_,rfl⟩,q⟩;rw [P1.mp z] at e;exact absurd (S0 e) (O0 _)
def ke:RDn:=λds h Q=> ∃ (a:P4) (ns:G0 G8),ds= [.lst a]/\h a=some (ns.map D.int)/\Q (.int ns.sum) (Xb h a)
theorem Ch (hc:X.calm=true):Zh X (.builtin "sum") ke:=(Qn hc).imp λxs H Q ⟨ds,h,Qd,r,rh,⟨a,ns,e,hd,q⟩,p⟩=>by
 subst e;obtain⟨v,e,r1⟩:=jF r;obtain⟨vs,hH,r2⟩:=rh a _ hd;have e1:v= .ref a:=r1.1;rw [zG r2] at hH;subst e e1;exact⟨a,ns,rfl,SqL.of hH,p (.int _) _ _ _ (.refl H) (rh.sub (Sub.drop h a)) rfl q⟩
def SE:RDn:=λds h Q=> ∃ns:G0 G8,(ds= [.tup (ns.map D.int)]\/ ∃a,ds= [.lst a]/\h a=some (ns.map D.int))/\ns.length<64/\ ∀ (p:P4) (ns':G0 G8),h p=none->ns'.Perm ns->ns'.Pairwise (· <= ·)->Q (.lst p) (wB h p (ns'.map D.int))
theorem call_sorted_ints:CallR X (.builtin "sorted") (λxs H Q=> ∃ (a:P4) (ns:G0 G8),xs= [.ref a]/\(SqL X.K H a (ns.map V.int)\/SqT X.K H a (ns.map V.int))/\ns.length<64/\ ∀ (p:P4) (ns':G0 G8),H p=none->ns'.Perm ns->ns'.Pairwise (· <= ·)->Q (.ref p) (upd H p (.lst (ns'.map V.int)))):=by
 intro pins s σ H xs us Q I r h;obtain⟨a,ns,rfl,hS,h64,q⟩:=h;obtain⟨u,rfl,ru⟩:=ZY r;cases ru;have fin: ∀ (vs:G0 G7) (out:N8 G7) (ns':G0 G8),Q9 out.toList ns'->ns'.Perm ns->ns'.Pairwise (· <= ·)->EP X pins σ Q (.ref (s.heap.objs.size+1)) {s with heap:=sortedAll s.heap vs out}:=λvs out ns' a1 a2 a3=>by
  obtain⟨e,he⟩:=sortedAll_at s.heap vs out;have hf:H (s.heap.objs.size+1)=none:=I.hok.fresh (lL _);refine⟨.ref _,_,I.laid (t':=s.toks) (o:= .lst (ns'.map V.int)) (λb ob q=>sortedAll_old q) (lL _) ?_,rfl,q _ ns' hf a2 a3⟩;refine⟨?_,out.toList,e,VF a1,he⟩;rw [G1,a2.length_eq];exact S1 (Y3 h64 (by decide))
 rcases hS with hS|hS
 ·obtain⟨its,rv,pl,hz⟩:=I.list hS;have hi:=Xz rv;exact sorted_ints pl.isList hi (by rw [hi.length];exact h64) (fin its)
 ·obtain⟨its,rv,pl,hz⟩:=I.tuple hS;have hi:=Xz rv;refine HT.Ni pl hi (by rw [hi.length];exact h64) λh1 h' out ns' c k1 k2 lies a1 a2 a3=> ?_
  have I1:=I.kept (t':=s.toks) k1;refine⟨.ref _,_,I1.laid (t':=s.toks) (o:= .lst (ns'.map V.int)) k2 (P5 _) ⟨?_,out.toList,c,VF a1,lies⟩,rfl,q _ ns' (I1.hok.fresh (P5 _)) a2 a3⟩;rw [G1,a2.length_eq];exact S1 (Y3 h64 (by decide))
theorem Ci:Zh X (.builtin "sorted") SE:=call_sorted_ints.imp λxs H Q ⟨ds,h,Qd,r,rh,⟨ns,hd,h64,q⟩,p⟩=>by
 have fin: ∀ (c:P4) (ns':G0 G8),H c=none->ns'.Perm ns->ns'.Pairwise (· <= ·)->Q (.ref c) (upd H c (.lst (ns'.map V.int))):=λc ns' hc a b=>
  p (.lst c) _ _ _ (.new hc) (rh.newL hc (vb ns')) ⟨rfl,_,jw⟩ (q c ns' (rh.free hc) a b)
 rcases hd with e|⟨a,e,ha⟩
 ·subst e;obtain⟨v,e,r1⟩:=jF r;obtain⟨a,vs,e1,hH,r2⟩:=(show ∃a vs,v= .ref a/\H a=some (.tup vs)/\RelDs X.K H (ns.map D.int) vs from r1);rw [zG r2] at hH;subst e e1;exact⟨a,ns,rfl,.inr (SqT.of hH),h64,fin⟩
 ·subst e;obtain⟨v,e,r1⟩:=jF r;obtain⟨vs,hH,r2⟩:=rh a _ ha;have e1:v= .ref a:=r1.1;rw [zG r2] at hH;subst e e1;exact⟨a,ns,rfl,.inl (SqL.of hH),h64,fin⟩
def jag (to te:TED):TED:=λσ h Q=>to σ h λx h1=> ∃ns:G0 G8,x= .tup (ns.map D.int)/\te σ h1 λy h2=> ∃k:G8,y= .int k/\k∈ns/\Q (.int (ns.idxOf k:G5)) h2
def jah (to ti te:TED):TED:=λσ h Q=>to σ h λx h1=> ∃a,x= .lst a/\ti σ h1 λi h2=>te σ h2 λy h3=> ∃ (k:G5) (xs:G0 D),i= .int (k:G8)/\k<=1000/\h3 a=some xs/\xs.length<sizeLine/\Q .non (wB h3 a (xs.take k++y::xs.drop k))
section
variable {X:Cx}{o e i:T1}{to te ti:TED}{apos cpos:Pos}
theorem jba (ho:QE X o to)(he:QE X e te)(hbase:W4 o "index" X.env (O5 o X.env)=O5 o X.env:=by rfl)
 (hfew:((E7 cpos (D6 [e] X.env)).all (λx=> !x.1)&&(dW cpos (aH [] X.env)).all (λx=>x.1.isSome)&&decide ([e].length+([]:G0 Y1).length+(if ([]:G0 Y1).isEmpty then 0 else 1)<30))=true:=by rfl)
 (hline:(apos.endLine==cpos.line)=true:=by rfl)(hs:D6 [e] X.env=(false,O5 e X.env)::D6 [] X.env:=by rfl)(hplain:(E7 cpos (D6 [] X.env)).any (·.1)=false:=by rfl):
 QE X (.Call (.Attribute o "index" apos) [e] [] cpos) (jag to te):=by
 intro pins s σ H Q I h;obtain⟨σd,h,Qd,rs,rh,t,p⟩:=h;have h1:LE X.K to σ H (λv H1=> ∃ (ns:G0 G8) (a:P4) (h1:HD),v= .ref a/\H1 a=some (.tup (ns.map V.int))/\RelH X.K h1 H1/\Kept H H1/\te σd h1 λy h2=> ∃k:G8,y= .int k/\k∈ns/\Qd (.int (ns.idxOf k:G5)) h2):=
  ⟨σd,h,_,rs,rh,t,λd v h' H' k rh' rd ⟨ns,e,q⟩=>by
   subst e;obtain⟨a,vs,e1,hH,r2⟩:=(show ∃a vs,v= .ref a/\H' a=some (.tup vs)/\RelDs X.K H' (ns.map D.int) vs from rd);rw [zG r2] at hH;exact⟨ns,a,h',e1,hH,rh',k,q⟩⟩
 refine iT hbase hfew hline rfl (thn (ho pins s σ H _ I h1) λv s1 ⟨x,H1,I1,r1,ns,a,h1,ex,hH,rh1,k1,q1⟩=> ?_);subst ex;cases (show v= .ref a from r1);obtain⟨z,its,rv,ob,g1,g2,g3,g4⟩:=(show ObjOk X.prog X.w H1 s1.heap a (.tup (ns.map V.int)) from I1.hok a _ hH);refine⟨"tuple","tuple.index",rY,gZ,rZ,⟨ob,g1,g2⟩,λb e=>by cases e;exact⟨ob,g1,g3⟩,?_⟩;have h2:LA X.K (zg te Zx) σ H1 (λus H2=> ∃ (k:G8) (h2:HD),us= [.int k]/\k∈ns/\RelH X.K h2 H2/\Kept H1 H2/\Qd (.int (ns.idxOf k:G5)) h2):=
  ⟨σd,h1,λds h2=> ∃k:G8,ds= [.int k]/\k∈ns/\Qd (.int (ns.idxOf k:G5)) h2,rs.mono k1,rh1,by
   show te σd h1 λy h2=> ∃k:G8,[y]= [.int k]/\k∈ns/\Qd (.int (ns.idxOf k:G5)) h2
   have:(λy h2=> ∃k:G8,y=D.int k/\k∈ns/\Qd (.int (ns.idxOf k:G5)) h2)=λy h2=> ∃k:G8,[y]= [D.int k]/\k∈ns/\Qd (.int (ns.idxOf k:G5)) h2:=by
    funext y h2;simp
   rw [<-this];exact q1,λds vs h' H' k rh' rd ⟨kk,e,hm,q⟩=>by
   subst e;obtain⟨v,e,r2⟩:=jF rd;cases (show v= .int kk from r2);exact⟨kk,h',e,hm,rh',k,q⟩⟩
 have hA:=(BP he AU hs:QA X [e] (zg te Zx)) cpos pins s1 σ H1 _ I1 h2;rw [hs] at hA ⊢;refine cW (by show (false||(E7 cpos (D6 [] X.env)).any (·.1))=false;rw [hplain]<;>rfl) (dX ?_);refine thn hA λus s2 ⟨vs,H2,I2,r2,k,h2,ev,hm,rh2,k2,q2⟩=> ?_
 subst ev;obtain⟨u,rfl,ru⟩:=ZY r2;obtain⟨tk,rfl⟩:=ru;obtain⟨its2,rv2,ht2,_⟩:=I2.tuple (SqT.of (k2.tup _ _ hH));exact HT.DA ht2 (Xz rv2) hm ⟨.int _,H2,I2.tok _,⟨_,rfl⟩,p (.int _) _ _ _ (k1.trans k2) rh2 rfl q2⟩
end
theorem Cj:MtM X "list.insert" (λx vs H Q=> ∃ (l:P4) (xs:G0 V) (k:G5) (y:V),x= .ref l/\vs= [.int (k:G8),y]/\H l=some (.lst xs)/\k<=1000/\xs.length<sizeLine/\Q .non (upd H l (.lst (xs.take k++y::xs.drop k)))):=by
 intro pins s σ H x vs v us Q I rx rv h;obtain⟨l,xs,k,y,rfl,rfl,hH,hk,hz,q⟩:=h;cases rx;obtain⟨u,w',rfl,⟨t,rfl⟩,ry⟩:=LJ rv;obtain⟨z,its,n,r,hl,e⟩:=I.lstM hH;have hfit: ¬ (!fY (k:G8))=true:=by rw [p7 (by omega) (by omega)];exact R0
 have hsz:its.toArray.size<=sizeLine:=by rw [R9];omega
 generalize har:its.toArray=ar at e hsz;obtain⟨kk,hkk⟩: ∃kk:G8,kk=(k:G8):=⟨_,rfl⟩;rw [<-hkk] at hfit ⊢;refine fX F.slot_list_insert ⟨_,e,rfl⟩ F.entry_list_insert (F.args_list_insert_3 _ _ _) (AutoListH.list_insert_list_int_val_1 l ar n kk t w' hfit hsz) ⟨e,?_⟩;subst har hkk;refine⟨.non,_,I.lset (its':=its.take k++w'::its.drop k) hH e ?_ ((r.take k).append (.cons ry (r.drop k))) ?_,rfl,q⟩
 ·have hk0: ¬ ((k:G8)<0):=by omega
  simp only [hk0,lG,dB,R9];have e1:its.take (min k its.length)=its.take k:=by
   by_cases hh:k<=its.length
   ·rw [X8 hh]
   ·rw [oK (by omega),W6,S5 (by omega)]
  have e2:its.drop (min k its.length)=its.drop k:=by
   by_cases hh:k<=its.length
   ·rw [X8 hh]
   ·rw [oK (by omega),List.drop_length,List.drop_of_length_le (by omega)]
  have e3:(its.drop k).take (its.length-min k its.length)=its.drop k:=S5 (by rw [N5];omega);apply Array.ext';simp only [F6,Y5,List.extract_toArray,J4,dD,nN];rw [e1,e2,e3,D3];rfl
 ·rw [P2,R7,T0,N5];omega
section
variable {X:Cx}{o e i:T1}{to te ti:TED}{apos cpos:Pos}
theorem jbb (ho:QE X o to)(hi:QE X i ti)(he:QE X e te)(hbase:W4 o "insert" X.env (O5 o X.env)=O5 o X.env:=by rfl)
 (hfew:((E7 cpos (D6 [i,e] X.env)).all (λx=> !x.1)&&(dW cpos (aH [] X.env)).all (λx=>x.1.isSome)&&decide ([i,e].length+([]:G0 Y1).length+(if ([]:G0 Y1).isEmpty then 0 else 1)<30))=true:=by rfl)
 (hline:(apos.endLine==cpos.line)=true:=by rfl)(hs:D6 [i,e] X.env=(false,O5 i X.env)::D6 [e] X.env:=by rfl)(hs2:D6 [e] X.env=(false,O5 e X.env)::D6 [] X.env:=by rfl)(hplain:(E7 cpos (D6 [e] X.env)).any (·.1)=false:=by rfl):
 QE X (.Call (.Attribute o "insert" apos) [i,e] [] cpos) (jah to ti te):=
 (EM cQ r9 sB Cj ho (Jj hi (Jj he pa_nil hs2) hs) hbase hfew hline hs hplain).imp
  λσ H Q ⟨σd,h,Qd,rs,rh,t,p⟩=>LE.bind rs rh t λd v h1 H1 k1 rs1 rh1 r1 ⟨a,e,q⟩=>by
   subst e;obtain⟨e1,vs,hH⟩:=(show v= .ref a/\ ∃vs,H1 a=some (.lst vs) from r1);subst e1;refine⟨.inl ⟨rfl,vs,SqL.of hH⟩,?_⟩;refine LE.bind rs1 rh1 q λdi vi h2 H2 k2 rs2 rh2 r2 q2=>LE.bind rs2 rh2 q2 λy u h3 H3 k3 rs3 rh3 r3 ⟨k,xs,ei,hk,hx,hz,q3⟩=> ?_
   subst ei;have ev:vi= .int (k:G8):=r2;obtain⟨ws,hW,r4⟩:=rh3 a xs hx;refine⟨a,ws,k,u,rfl,by rw [ev],hW,hk,by rw [<-r4.length];exact hz,p .non _ _ _ (k1.trans (k2.trans (k3.trans (.put hW)))) (rh3.put hW ((r4.take k).append (.cons r3 (r4.drop k)))) rfl q3⟩
end
def kf (ta:TA):TE:=λσ H Q=>ta σ H λvs H1=> ∃j:G8,vs= [.int j]/\ ∀p,H1 p=none->Q (.ref p) (upd H1 p (.rng 0 j))
variable {a:T1}{p pos:Pos}
theorem Om {ta:TA}(hg:Gl X "range")(hm:X.mg "range" =none)(ha:PA X [a] ta)(hs:D6 [a] X.env= [(false,O5 a X.env)]:=by rfl):PE X (.Call (.Name "range" p) [a] [] pos) (kf ta):=by
 intro pins s σ H Q I h;refine tX (ZX I hg hm x8 (O8 (thn (ha pos pins s σ H _ I h) λus s1 ⟨vs,H1,I1,r1,q1⟩=> ?_) hs rfl));obtain⟨j,e,q⟩:=q1;subst e;obtain⟨u,rfl,ru⟩:=ZY r1;obtain⟨t,rfl⟩:=ru;refine sV ⟨.ref s1.heap.objs.size,_,I1.laid (o:= .rng 0 j) (λb ob q=>P7 _ q) (P5 _) ?_,rfl,q _ (I1.hok.fresh (P5 _))⟩;exact⟨_,_,_,T3 _ rfl⟩
theorem Qo (hc:X.calm=true):CallR X (.type "list") (λxs H Q=> ∃ (p:P4) (n:G5),xs= [.ref p]/\H p=some (.rng 0 (n:G8))/\n<=1000/\ ∀l,H l=none->Q (.ref l) (upd H l (.lst ((G3 n).map λ(k:G5)=>V.int (k:G8))))):=by
 intro pins s σ H xs us Q I r h;obtain⟨p,n,rfl,hH,hn,q⟩:=h;obtain⟨u,rfl,ru⟩:=ZY r;cases ru;obtain⟨t,u,v,e⟩:=(show ObjOk X.prog X.w H s.heap p (.rng 0 (n:G8)) from I.hok p _ hH);refine call_list_range (n:=n) (I.ok.hd hc) e (small_one (by decide) (by decide) (by omega) (by omega)) ?_ (T5 hn (by decide)) λh' tk acc c' kp e' hacc=> ?_
 ·rw [rP];try (split<;>omega)
 ·refine⟨.ref s.heap.objs.size,_,I.laid (t':=tk) (o:= .lst ((G3 n).map λ(k:G5)=>V.int (k:G8))) (λb ob q=>kp b ob q) (P5 _) ?_,rfl,q _ (I.hok.fresh (P5 _))⟩;obtain⟨hs,hit⟩:=hacc;refine⟨by rw [G1,P3];exact S1 (ju hn),acc.toList,c',?_,by simpa using e'⟩;refine VG (by simp [hs]) λi x u hx hu=> ?_
  rw [P9] at hx;have hi:i<n:=by
   by_cases z:i<n
   ·exact z
   ·rw [L5 (by simpa using z)] at hx;cases hx
  rw [C0 hi] at hx;cases hx;obtain⟨t,e⟩:=hit i u (by simpa using hu);exact⟨t,by rw [e];simp⟩
def kg (ta:TAD):TED:=λσ h Q=>ta σ h λds h1=> ∃n:G5,ds= [.int (n:G8)]/\n<=1000/\ ∀p,h1 p=none->Q (.lst p) (wB h1 p ((G3 n).map λ(k:G5)=>D.int (k:G8)))
theorem GO {K:G6}{H:Hp}(f:G5->G8): ∀l:G0 G5,RelDs K H (l.map λk=>D.int (f k)) (l.map λk=>V.int (f k))
 | []=> .nil
 |k::l=> .cons rfl (GO f l)
theorem Kept.drop2 {H:Hp}{p q:P4}{o o':HO}(hp:H p=none)(hq:upd H p o q=none):Kept H (upd (upd H p o) q o'):=(Kept.new hp).trans (.new hq)
variable {p2:Pos}
theorem qg {ta:TAD}{pos2:Pos}(hc:X.calm=true)(hg:Gl X "list")(hm:X.mg "list" =none)(hg2:Gl X "range")(hm2:X.mg "range" =none)(ha:QA X [a] ta)(hs:D6 [a] X.env= [(false,O5 a X.env)]:=by rfl)
 (h1:D6 [.Call (.Name "range" p2) [a] [] pos2] X.env=(false,O5 (.Call (.Name "range" p2) [a] [] pos2) X.env)::D6 [] X.env:=by rfl)(h2:(E7 pos (D6 [] X.env)).any (·.1)=false:=by rfl):
 QE X (.Call (.Name "list" p) [.Call (.Name "range" p2) [a] [] pos2] [] pos) (kg ta):=
 (GC (Qo hc) hg hm (by decide +kernel) (Jj (Om hg2 hm2 ha hs) pa_nil h1) (by decide) (by decide) h1 h2).imp
  λσ H Q ⟨σd,h,Qd,rs,rh,t,post⟩=>LA.bind rs rh t λds vs h1 H1 k1 rs1 rh1 r1 ⟨n,e,hn,q⟩=>by
   subst e;obtain⟨v,e,r2⟩:=jF r1;cases (show v= .int (n:G8) from r2);refine⟨n,e,λc hcn=>⟨c,n,rfl,jw,hn,λl hl=> ?_⟩⟩;have rh2:=(rh1.new (o:= .rng 0 (n:G8)) hcn);exact post (.lst l) (.ref l) _ _ (k1.trans (.drop2 hcn hl)) (rh2.newL hl (GO (λk=>(k:G8)) (G3 n))) ⟨rfl,_,jw⟩ (q l (rh2.free hl))
structure JE (X:Cx)(e:T1)(t:TED):Prop where
 to:QE X e t
structure JT (X:Cx)(e:T1)(t:TTD):Prop where
 to:QT X e t
structure JW (X:Cx)(e:T1)(t:TTD):Prop where
 to:QW X e t
structure JA (X:Cx)(e:G0 T1)(t:TAD):Prop where
 to:QA X e t
structure JS (X:Cx)(e:C9)(t:TSD):Prop where
 to:QS X e t
structure JSs (X:Cx)(e:G0 C9)(t:TSD):Prop where
 to:QSs X e t
structure JG (X:Cx)(e:T1)(t:TGD):Prop where
 to:QG X e t
structure JI (X:Cx)(tg e:T1)(t:TID):Prop where
 to:QI X tg e t
structure JO (X:Cx)(e:D4 T1)(t:TOD):Prop where
 to:QO X e t
section
variable {X:Cx}{a b c e:T1}{es rest:G0 T1}{ta tb tc te:TED}{t u:TAD}{tt tu:TTD}{pos:Pos}{f r r':RD2}
theorem jv (i:G5){x:Str}(hN:X.N[i]? =some x:=by rfl)(hv:Vis X.env.scope x:=by first|exact F8 rfl|exact J9 (F8 rfl)|exact J9 (J9 rfl))(hd:(x==("__debug__" :Str))=false:=by decide)(hcd:(x==("__classdict__" :Str))=false:=by decide):JE X (.Name x pos) (Oa i):=⟨qv (i:=i) (hN:=hN) (hv:=hv) (hd:=hd) (hcd:=hcd)⟩
variable {j:G5}
theorem jz {i:G8}:JE X (.Constant (.int i) j pos) (dC (.int i)):=⟨jaM⟩
theorem jbl {i:T9}:JE X (.Constant (.bool i) j pos) (dC (.bl i)):=⟨qbl⟩
theorem Be:JE X (.Constant .none j pos) (dC .non):=⟨jaN⟩
theorem kh {x:Str}:JE X (.Constant (.str x) j pos) (dC (.str x)):=⟨jaO⟩
theorem Nj {x:Str}{i:G8}{tk:Tok}(hg:Gl X x)(hm:X.mg x=some (.int i tk))(hd:(x==("__debug__" :Str))=false:=by decide):JE X (.Name x pos) (dC (.int i)):=⟨xG (hg:=hg) (hm:=hm) (hd:=hd)⟩
theorem jop {op:m7}(ho:OpQ X (E9 op) f)(ha:JE X a ta)(hb:JE X b tb):JE X (.BinOp a op b pos) (dOp f ta tb):=⟨qop (ho:=ho) (ha:=ha.to) (hb:=hb.to)⟩
theorem ki {op:gQ}(ho:OpQ X (N9 op) f)(ha:JE X a ta)(hb:JE X b tb)(hm:U6 op b=false):JE X (.Compare a [op] [b] pos) (dOp f ta tb):=⟨jaP (ho:=ho) (ha:=ha.to) (hb:=hb.to) (hm:=hm)⟩
theorem Ck {op:gQ}(ho:OpQ X (N9 op) f)(ha:JE X a ta)(hb:JE X b tb)(hm:U6 op b=false):JT X (.Compare a [op] [b] pos) (YJ (dOp f ta tb)):=⟨xH (ho:=ho) (ha:=ha.to) (hb:=hb.to) (hm:=hm)⟩
theorem Ec {op op':gQ}(ho:OpQ X (N9 op) r)(ho':OpQ X (N9 op') r')(ha:JE X a ta)(hb:JE X b tb)(hc:JE X c tc)(hm:g7 [op,op'] [b,c]=false:=by with_unfolding_all rfl):JE X (.Compare a [op,op'] [b,c] pos) (VD r r' ta tb tc):=⟨Kr (ho:=ho) (ho':=ho') (ha:=ha.to) (hb:=hb.to) (hc:=hc.to) (hm:=hm)⟩
theorem Cl {op op':gQ}(ho:OpQ X (N9 op) r)(ho':OpQ X (N9 op') r')(ha:JE X a ta)(hb:JE X b tb)(hc:JE X c tc)(hm:g7 [op,op'] [b,c]=false:=by with_unfolding_all rfl):JT X (.Compare a [op,op'] [b,c] pos) (YJ (VD r r' ta tb tc)):=⟨Sb (ho:=ho) (ho':=ho') (ha:=ha.to) (hb:=hb.to) (hc:=hc.to) (hm:=hm)⟩
theorem zN (ha:JE X a ta)(he: ∀whole,isTrue a X.env whole=(do let v <-whole;fB a.pos;aY [v] (pR v)):=by intro _;rfl):JT X a (YJ ta):=⟨xI (ha:=ha.to) (he:=he)⟩
theorem Nk (ha:JT X a tt):JW X (.BoolOp .And [a] pos) tt:=⟨xJ (ha:=ha.to)⟩
theorem Nl (ha:JT X a tt):JW X (.BoolOp .Or [a] pos) tt:=⟨jaQ (ha:=ha.to)⟩
theorem Nm (ha:JT X a tt)(hb:JW X (.BoolOp .And (b::rest) pos) tu):JW X (.BoolOp .And (a::b::rest) pos) (EY tt tu):=⟨xK (ha:=ha.to) (hb:=hb.to)⟩
theorem DB (ha:JT X a tt)(hb:JW X (.BoolOp .Or (b::rest) pos) tu):JW X (.BoolOp .Or (a::b::rest) pos) (Kg tt tu):=⟨jaR (ha:=ha.to) (hb:=hb.to)⟩
theorem wS (ha:JT X a tt):JT X (.UnaryOp .Not a pos) (BN tt):=⟨xL (ha:=ha.to)⟩
theorem Xc {op:BoolOp}(ha:JE X a ta):JE X (.BoolOp op [a] pos) ta:=⟨jaS (ha:=ha.to)⟩
theorem VH (ha:JE X a ta)(hb:JE X (.BoolOp .And (b::rest) pos) tb):JE X (.BoolOp .And (a::b::rest) pos) (Ob ta tb):=⟨jaT (ha:=ha.to) (hb:=hb.to)⟩
theorem jor (ha:JE X a ta)(hb:JE X (.BoolOp .Or (b::rest) pos) tb):JE X (.BoolOp .Or (a::b::rest) pos) (xC ta tb):=⟨qor (ha:=ha.to) (hb:=hb.to)⟩
theorem jai (ha:JE X a ta):JE X (.UnaryOp .Not a pos) (Oc ta):=⟨jaU (ha:=ha.to)⟩
theorem jif {c:T1}(hc:JT X c tt)(ha:JE X a ta)(hb:JE X b tb):JE X (.IfExp c a b pos) (dIf tt ta tb):=⟨qif (hc:=hc.to) (ha:=ha.to) (hb:=hb.to)⟩
theorem Yo:JA X [] Zx:=⟨AU⟩
theorem GP {k:G5}(h:JA X es t):JE X (.Tuple es k pos) (xB t):=⟨jaV (h:=h.to)⟩
theorem Dk (h:JA X es t):JE X (.List es pos) (TY t):=⟨jaW (h:=h.to)⟩
end
section
variable {X:Cx}{st:C9}{sts:G0 C9}{t u:TSD}{e:T1}{te:TED}{pos:Pos}
theorem Cm:JSs X [] Ds:=⟨Kx⟩
theorem jV (h1:JS X st t)(h2:JSs X sts u):JSs X (st::sts) (Zy t u):=⟨Sh (h1:=h1.to) (h2:=h2.to)⟩
theorem jC (h1:JS X st t):JSs X [st] t:=⟨Ky (h1:=h1.to)⟩
theorem zW (he:JE X e te)(hs:aD e none pos.line X.env=pure false:=by rfl):JS X (.Expr e pos) (Sc te):=⟨xP (he:=he.to) (hs:=hs)⟩
theorem jR (he:JE X e te):JS X (.Return (some e) pos) (BQ te):=⟨jaX (he:=he.to)⟩
theorem qh {c:T1}{a b:G0 C9}{tc:TTD}(hc:JT X c tc)(ha:JSs X a t)(hb:JSs X b u):JS X (.If c a b pos) (Sd tc t u):=⟨jaY (hc:=hc.to) (ha:=ha.to) (hb:=hb.to)⟩
variable {i:G5}{x:Str}
theorem jbc {pos':Pos}(hN:X.N.Nodup)(hi:X.N[i]? =some x)(hx:Loc X.env.scope x)(he:JE X e te)(hs:aD e (some (.Name x pos')) pos.line X.env=pure false:=by rfl)(hf:X.fn x=true\/X.env.scope.names.lookup x=some .local:=by first|exact .inl rfl|exact .inr rfl|assumption):JS X (.Assign [.Name x pos'] e pos) (Lu i te):=⟨jaZ (hN:=hN) (hi:=hi) (hx:=hx) (he:=he.to) (hs:=hs) (hf:=hf)⟩
theorem SF (hN:X.N.Nodup)(hi:X.N[i]? =some x)(hx:Loc X.env.scope x)(hf:X.fn x=true\/X.env.scope.names.lookup x=some .local:=by first|exact .inl rfl|exact .inr rfl|assumption):JG X (.Name x pos) (gN i):=⟨Si (hN:=hN) (hi:=hi) (hx:=hx) (hf:=hf)⟩
theorem GQ {j:G5}{y:Str}{p1 p2:Pos}{k:G5}(hc:X.calm=true)(hN:X.N.Nodup)(hi:X.N[i]? =some x)(hj:X.N[j]? =some y)(hx:Loc X.env.scope x)(hy:Loc X.env.scope y)(hf:X.fn x=true\/X.env.scope.names.lookup x=some .local:=by first|exact .inl rfl|exact .inr rfl|assumption)(hf2:X.fn y=true\/X.env.scope.names.lookup y=some .local:=by first|exact .inl rfl|exact .inr rfl|assumption):JG X (.Tuple [.Name x p1,.Name y p2] k pos) (gT2 i j):=⟨Kz (hc:=hc) (hN:=hN) (hi:=hi) (hj:=hj) (hx:=hx) (hy:=hy) (hf:=hf) (hf2:=hf2)⟩
theorem On {tg:T1}{g:TGD}(he:JE X e te)(hg:JG X tg g)(hs:Z5 [tg] e pos.line X.env=pure false:=by rfl)(hsw:Z6 [tg] e X.env=pure none:=by rfl)(h1:(cG [tg] X.env).map (·.2)= [eM tg X.env]:=by rfl):JS X (.Assign [tg] e pos) (xM te g):=⟨ja0 (he:=he.to) (hg:=hg.to) (hs:=hs) (hsw:=hsw) (h1:=h1)⟩
theorem jaj {j:G5}{y:Str}{a b:T1}{ta:TAD}{px py pt:Pos}{kt k2 pt2}(hc:X.calm=true)(hN:X.N.Nodup)(hi:X.N[i]? =some x)(hj:X.N[j]? =some y)(hij:i≠j)(hx:X.env.scope.names.lookup x=some .local)(hy:X.env.scope.names.lookup y=some .local)(ha:JA X [a,b] ta)(hw:Z6 [.Tuple [.Name x px,.Name y py] kt pt] (.Tuple [a,b] k2 pt2) X.env=pure (some [x,y]))(hs:Z5 [.Tuple [.Name x px,.Name y py] kt pt] (.Tuple [a,b] k2 pt2) pos.line X.env=pure false:=by rfl):JS X (.Assign [.Tuple [.Name x px,.Name y py] kt pt] (.Tuple [a,b] k2 pt2) pos) (xN i j ta):=⟨ja1 (hc:=hc) (hN:=hN) (hi:=hi) (hj:=hj) (hij:=hij) (hx:=hx) (hy:=hy) (ha:=ha.to) (hw:=hw) (hs:=hs)⟩
end
section
variable {X:Cx}{tg e iter elt:T1}{te:TED}{ti:TID}{g:TGD}{tb:TSD}{tt:TTD}{pos:Pos}{ta:TAD}{scope:U5}{js:G0 G5}{ifs:G0 T1}
theorem Cn (he:JE X e te):JI X tg e (iL te):=⟨Sl (he:=he.to)⟩
theorem qi {p:Pos}{a:T1}(hg:Gl X "range")(hm:X.mg "range" =none)(ha:JA X [a] ta)(hs:D6 [a] X.env= [(false,O5 a X.env)]:=by rfl):JI X tg (.Call (.Name "range" p) [a] [] pos) (iR1 ta):=⟨xS (hg:=hg) (hm:=hm) (ha:=ha.to) (hs:=hs)⟩
theorem GR {body:G0 C9}(hp:l9 (T4 X.prog X.w) X.A X.env X.xe)(hc:X.calm=true)(hi:JI X tg iter ti)(hg:JG X tg g)(hb:JSs X body tb)(hs: ∀x,S9 iter X.env x=pure x:=by intro _;rfl):JS X (.For tg iter body [] pos) (KA ti g tb):=⟨ja2 (hp:=hp) (hc:=hc) (hi:=hi.to) (hg:=hg.to) (hb:=hb.to) (hs:=hs)⟩
theorem wm:PTs X [] (LT X.K vT):=Sm
theorem Qp {c:T1}(hc:JT X c tt):PTs X [c] (LT X.K tt):=Sn (hc:=hc.to)
theorem jlc {i:G5}{x:Str}{p:Pos}(hc:X.calm=true)(S:BlockOk X scope js)(hi:JI X (.Name x p) iter ti)(hj:i∈js)(hN:X.N.Nodup)(hx:X.N[i]? =some x)(hl:scope.names.lookup x=some .local\/scope.names.lookup x=some .cell)(ht: ∀X',ji X scope X'->PTs X' ifs (LT X'.K tt))(he: ∀X',ji X scope X'->JE X' elt te)(hs: ∀x,S9 iter X.env x=pure x:=by intro _;rfl):JE X (.ListComp elt [⟨.Name x p,iter,ifs,0⟩] scope pos) (vU (bN i) js ti tt te):=⟨qlc (hc:=hc) (S:=S) (hi:=hi.to) (hj:=hj) (hN:=hN) (hx:=hx) (hl:=hl) (ht:=ht) (he:=λX' hX=>(he X' hX).to) (hs:=hs)⟩
theorem Hb {i j:G5}{x y:Str}{p1 p2 p3:Pos}{k:G5}(hc:X.calm=true)(S:BlockOk X scope js)(hi:JI X (.Tuple [.Name x p1,.Name y p2] k p3) iter ti)(hj:i∈js)(hj2:j∈js)(hij:i≠j)(hN:X.N.Nodup)(hx:X.N[i]? =some x)(hy:X.N[j]? =some y)(hl:scope.names.lookup x=some .local\/scope.names.lookup x=some .cell)(hl2:scope.names.lookup y=some .local\/scope.names.lookup y=some .cell)(ht: ∀X',ji X scope X'->PTs X' ifs (LT X'.K tt))(he: ∀X',ji X scope X'->JE X' elt te)(hs: ∀x,S9 iter X.env x=pure x:=by intro _;rfl):JE X (.ListComp elt [⟨.Tuple [.Name x p1,.Name y p2] k p3,iter,ifs,0⟩] scope pos) (vU (b2 i j) js ti tt te):=⟨ja3 (hc:=hc) (S:=S) (hi:=hi.to) (hj:=hj) (hj2:=hj2) (hij:=hij) (hN:=hN) (hx:=hx) (hy:=hy) (hl:=hl) (hl2:=hl2) (ht:=ht) (he:=λX' hX=>(he X' hX).to) (hs:=hs)⟩
end
section
variable {X:Cx}{k:G5}{f:P4}{fd:R6}{ps:G0 Str}{spd:RDn}{x:Str}{p pos:Pos}{e:T1}{es:G0 T1}{t:TAD}
theorem qj (F:FnOk X.prog X.w X.K X.mg X.base CX0 k f fd ps (LSp X.K spd))(hr:Room k X.A)(hg:Gl X x)(hm:X.mg x=some (.ref f))(hk:aE X.K (.ref f)=true)(hb:Binds X.K fd ps [])(ha:JA X (e::es) t)(hdb:(x==("__debug__" :Str))=false:=by decide)(he:D6 (e::es) X.env=(false,O5 e X.env)::D6 es X.env:=by rfl)(hpl:(E7 pos (D6 es X.env)).any (·.1)=false:=by rfl):JE X (.Call (.Name x p) (e::es) [] pos) (dCB spd t):=⟨xT (F:=F) (hr:=hr) (hg:=hg) (hm:=hm) (hk:=hk) (hb:=hb) (ha:=ha.to) (hdb:=hdb) (he:=he) (hpl:=hpl)⟩
theorem zB {id:U1}{r:RDn}(hc:Zh X (.builtin id) r)(hg:Gl X x)(hm:X.mg x=none)(hv:E3 x=some (.builtin id))(ha:JA X (e::es) t)(hn:x≠ "__name__" :=by decide)(hdb:(x==("__debug__" :Str))=false:=by decide)(he:D6 (e::es) X.env=(false,O5 e X.env)::D6 es X.env:=by rfl)(hpl:(E7 pos (D6 es X.env)).any (·.1)=false:=by rfl):JE X (.Call (.Name x p) (e::es) [] pos) (dCB r t):=⟨KG (hc:=hc) (hg:=hg) (hm:=hm) (hv:=hv) (ha:=ha.to) (hn:=hn) (hdb:=hdb) (he:=he) (hpl:=hpl)⟩
theorem jS {T:U1}{r:RDn}(hc:Zh X (.type T) r)(hg:Gl X x)(hm:X.mg x=none)(hv:E3 x=some (.type T))(ha:JA X (e::es) t)(hn:x≠ "__name__" :=by decide)(hdb:(x==("__debug__" :Str))=false:=by decide)(he:D6 (e::es) X.env=(false,O5 e X.env)::D6 es X.env:=by rfl)(hpl:(E7 pos (D6 es X.env)).any (·.1)=false:=by rfl):JE X (.Call (.Name x p) (e::es) [] pos) (dCB r t):=⟨Sr (hc:=hc) (hg:=hg) (hm:=hm) (hv:=hv) (ha:=ha.to) (hn:=hn) (hdb:=hdb) (he:=he) (hpl:=hpl)⟩
end
section
variable {X:Cx}{iter elt:T1}{te:TED}{ti:TID}{tt:TTD}{pos spos:Pos}{scope:U5}{js:G0 G5}{ifs:G0 T1}
theorem Ed {i k:G5}{x y:Str}{p py:Pos}(hc:X.calm=true)(hN:X.N.Nodup)(hk:X.N[k]? =some y)(hy:Loc X.env.scope y)(S:BlockOk X scope js)(hi:JI X (.Name x p) iter ti)(hj:i∈js)(hx:X.N[i]? =some x)(hl:scope.names.lookup x=some .local\/scope.names.lookup x=some .cell)(ht: ∀X',ji X scope X'->PTs X' ifs (LT X'.K tt))(he: ∀X',ji X scope X'->JE X' elt te)(hsw:aD (.ListComp elt [⟨.Name x p,iter,ifs,0⟩] scope pos) (some (.Name y py)) spos.line X.env=pure true:=by rfl)(hf:X.fn y=true\/X.env.scope.names.lookup y=some .local:=by first|exact .inl rfl|exact .inr rfl|assumption)(hs: ∀x,S9 iter X.env x=pure x:=by intro _;rfl):JS X (.Assign [.Name y py] (.ListComp elt [⟨.Name x p,iter,ifs,0⟩] scope pos) spos) (Lu k (vU (bN i) js ti tt te)):=⟨KH (hc:=hc) (hN:=hN) (hk:=hk) (hy:=hy) (S:=S) (hi:=hi.to) (hj:=hj) (hx:=hx) (hl:=hl) (ht:=ht) (he:=λX' hX=>(he X' hX).to) (hsw:=hsw) (hf:=hf) (hs:=hs)⟩
end
section
variable {X:Cx}{iter iter' elt:T1}{te:TED}{ti ti':TID}{tt tt':TTD}{pos:Pos}{scope:U5}{js:G0 G5}{ifs ifs':G0 T1}
theorem jak {i i':G5}{x y:Str}{p py:Pos}(hc:X.calm=true)(S:BlockOk X scope js)(hi:JI X (.Name x p) iter ti)(hj:i∈js)(hj':i'∈js)(hne:i≠i')(hN:X.N.Nodup)(hx:X.N[i]? =some x)(hy:X.N[i']? =some y)(hl:scope.names.lookup x=some .local\/scope.names.lookup x=some .cell)(hl':scope.names.lookup y=some .local\/scope.names.lookup y=some .cell)(ht: ∀X',ji X scope X'->PTs X' ifs (LT X'.K tt))(hi': ∀X',ji X scope X'->JI X' (.Name y py) iter' ti')(ht': ∀X',ji X scope X'->PTs X' ifs' (LT X'.K tt'))(he: ∀X',ji X scope X'->JE X' elt te)(hs: ∀x,S9 iter X.env x=pure x:=by intro _;rfl)(hs': ∀env x,S9 iter' env x=pure x:=by intro _ _;rfl):JE X (.ListComp elt [⟨.Name x p,iter,ifs,0⟩,⟨.Name y py,iter',ifs',0⟩] scope pos) (Dt (bN i) js ti tt i' ti' tt' te):=⟨ja4 (hc:=hc) (S:=S) (hi:=hi.to) (hj:=hj) (hj':=hj') (hne:=hne) (hN:=hN) (hx:=hx) (hy:=hy) (hl:=hl) (hl':=hl') (ht:=ht) (hi':=λX' hX=>(hi' X' hX).to) (ht':=ht') (he:=λX' hX=>(he X' hX).to) (hs:=hs) (hs':=hs')⟩
end
section
variable {X:Cx}{a b e:T1}{ta tb te:TED}{pos p2:Pos}
theorem jix (ha:JE X a ta)(hb:JE X b tb)(hs:XY b):JE X (.Subscript a b pos) (dOp ixD ta tb):=⟨qix (ha:=ha.to) (hb:=hb.to) (hs:=hs)⟩
end
theorem YL {ta:TED}{T:U1}{t:Str}(hT:T∈ ["tuple","int","bool","list","str"])(hg:Gl X "isinstance")(hm:X.mg "isinstance" =none)(hg2:Gl X t)(hm2:X.mg t=none)(hv:E3 t=some (.type T))(ha:JE X a ta)(hn:t≠ "__name__" :=by decide)(hd:(t==("__debug__" :Str))=false:=by decide)(h1:D6 [a,.Name t p2] X.env=(false,O5 a X.env)::D6 [.Name t p2] X.env:=by rfl)(h2:(E7 pos (D6 [.Name t p2] X.env)).any (·.1)=false:=by rfl):JE X (.Call (.Name "isinstance" p) [a,.Name t p2] [] pos) (dIs T ta):=⟨xZ (hT:=hT) (hg:=hg) (hm:=hm) (hg2:=hg2) (hm2:=hm2) (hv:=hv) (ha:=ha.to) (hn:=hn) (hd:=hd) (h1:=h1) (h2:=h2)⟩
section
variable {X:Cx}{o e i:T1}{to te ti:TED}{apos cpos pos:Pos}
theorem SG (ho:JE X o to)(he:JE X e te)(hbase:W4 o "append" X.env (O5 o X.env)=O5 o X.env:=by rfl)(hfew:((E7 cpos (D6 [e] X.env)).all (λx=> !x.1)&&(dW cpos (aH [] X.env)).all (λx=>x.1.isSome)&&decide ([e].length+([]:G0 Y1).length+(if ([]:G0 Y1).isEmpty then 0 else 1)<30))=true:=by rfl)(hline:(apos.endLine==cpos.line)=true:=by rfl)(hs:D6 [e] X.env=(false,O5 e X.env)::D6 [] X.env:=by rfl)(hplain:(E7 cpos (D6 [] X.env)).any (·.1)=false:=by rfl):JE X (.Call (.Attribute o "append" apos) [e] [] cpos) (jad to te):=⟨ja7 (ho:=ho.to) (he:=he.to) (hbase:=hbase) (hfew:=hfew) (hline:=hline) (hs:=hs) (hplain:=hplain)⟩
theorem Co (ho:JE X o to)(hi:JE X i ti)(ha: ∀v,eM (.Subscript o i pos) X.env v=(do
 let ov <-aY [v] (O5 o X.env)
 let iv <-aY [v,ov] (O5 i X.env)
 fB pos
 aY [v,ov,iv] (sS ov iv v)
 II [v,ov,iv] []):=by intro _;rfl):JG X (.Subscript o i pos) (KO to ti):=⟨KP (ho:=ho.to) (hi:=hi.to) (ha:=ha)⟩
end
theorem jpt {e:T1}{t:TTD}(h:JW X e t):JT X e t:=⟨qpt (h:=h.to)⟩
theorem Qq:JO X none Cb:=⟨Sz⟩
variable {te:TED}
theorem WK {e:T1}(he:JE X e te):JO X (some e) (KQ te):=⟨SA (he:=he.to)⟩
theorem GS {e:T1}{lo hi:D4 T1}{tl th:TOD}(he:JE X e te)(hl:JO X lo tl)(hu:JO X hi th):JE X (.Subscript e (.Slice lo hi none p2) pos) (dSl te tl th):=⟨KR (he:=he.to) (hl:=hl.to) (hu:=hu.to)⟩
theorem Ee {ta:TED}(ha:JE X a ta):JE X (.UnaryOp .USub a pos) (dUn jaf ta):=⟨ja9 (ha:=ha.to)⟩
theorem jU {tg e:T1}(he:JE X e te):JI X tg e (iS te):=⟨KY (he:=he.to)⟩
theorem VI {st:C9}:JS X st Ea:=⟨KZ⟩
theorem jac {e:T1}{es:G0 T1}{t:TAD}(ha:JE X e te)(hr:JA X es t)(h:zV e=true:=by rfl):JA X (e::es) (zg te t):=⟨qac (ha:=ha.to) (hr:=hr.to) (h:=h)⟩
section
variable {X:Cx}{o e i:T1}{to te ti:TED}{apos cpos:Pos}
theorem jal (ho:JE X o to)(he:JE X e te)(hbase:W4 o "index" X.env (O5 o X.env)=O5 o X.env:=by rfl)(hfew:((E7 cpos (D6 [e] X.env)).all (λx=> !x.1)&&(dW cpos (aH [] X.env)).all (λx=>x.1.isSome)&&decide ([e].length+([]:G0 Y1).length+(if ([]:G0 Y1).isEmpty then 0 else 1)<30))=true:=by rfl)(hline:(apos.endLine==cpos.line)=true:=by rfl)(hs:D6 [e] X.env=(false,O5 e X.env)::D6 [] X.env:=by rfl)(hplain:(E7 cpos (D6 [] X.env)).any (·.1)=false:=by rfl):JE X (.Call (.Attribute o "index" apos) [e] [] cpos) (jag to te):=⟨jba (ho:=ho.to) (he:=he.to) (hbase:=hbase) (hfew:=hfew) (hline:=hline) (hs:=hs) (hplain:=hplain)⟩
theorem jbd (ho:JE X o to)(hi:JE X i ti)(he:JE X e te)(hbase:W4 o "insert" X.env (O5 o X.env)=O5 o X.env:=by rfl)(hfew:((E7 cpos (D6 [i,e] X.env)).all (λx=> !x.1)&&(dW cpos (aH [] X.env)).all (λx=>x.1.isSome)&&decide ([i,e].length+([]:G0 Y1).length+(if ([]:G0 Y1).isEmpty then 0 else 1)<30))=true:=by rfl)(hline:(apos.endLine==cpos.line)=true:=by rfl)(hs:D6 [i,e] X.env=(false,O5 i X.env)::D6 [e] X.env:=by rfl)(hs2:D6 [e] X.env=(false,O5 e X.env)::D6 [] X.env:=by rfl)(hplain:(E7 cpos (D6 [e] X.env)).any (·.1)=false:=by rfl):JE X (.Call (.Attribute o "insert" apos) [i,e] [] cpos) (jah to ti te):=⟨jbb (ho:=ho.to) (hi:=hi.to) (he:=he.to) (hbase:=hbase) (hfew:=hfew) (hline:=hline) (hs:=hs) (hs2:=hs2) (hplain:=hplain)⟩
end
theorem kj {ta:TAD}{pos2:Pos}(hc:X.calm=true)(hg:Gl X "list")(hm:X.mg "list" =none)(hg2:Gl X "range")(hm2:X.mg "range" =none)(ha:JA X [a] ta)(hs:D6 [a] X.env= [(false,O5 a X.env)]:=by rfl)(h1:D6 [.Call (.Name "range" p2) [a] [] pos2] X.env=(false,O5 (.Call (.Name "range" p2) [a] [] pos2) X.env)::D6 [] X.env:=by rfl)(h2:(E7 pos (D6 [] X.env)).any (·.1)=false:=by rfl):JE X (.Call (.Name "list" p) [.Call (.Name "range" p2) [a] [] pos2] [] pos) (kg ta):=⟨qg (hc:=hc) (hg:=hg) (hm:=hm) (hg2:=hg2) (hm2:=hm2) (ha:=ha.to) (hs:=hs) (h1:=h1) (h2:=h2)⟩
section
variable {P:M0}{w:C6}{K:G6}{mg:Str->D4 G7}{base:L6}
theorem Fun.okJ {x qual:Str}{st:C9}{f:P4}{fd:R6}{N ps:G0 Str}{k:G5}{spd:RDn}(F:Fun K x qual st f fd)(S:FnScope N ps (jd st))(len: ∀ds h Q,spd ds h Q->ds.length=ps.length)
 (tb:TSD)(hbody: ∀ (cdv:G7) (A:C5) (outer:G0 Env) (s:P0) (H:Hp) (E:XK),Room k (A.deeper (fT qual (jd st) s.heap.objs.size f cdv))->JSs (LK CX0 P w K mg base N qual (jd st) f cdv A outer s H E).nox (wR st) tb)
 (read: ∀ds h Q,spd ds h Q->tb (Lv Q) (vc N ds) h):FnOk P w K mg base CX0 (k+1) f fd ps (LSp K spd):=F.okD S len tb (λcdv A outer s H E hr=>(hbody cdv A outer s H E hr).to) read
end
def vB (r:G0 G8):D:= .tup (r.map D.int)
def jh (T:G0 (G0 G8)):D:= .tup (T.map vB)
def DD (n:G5)(r:G0 G8):Prop:=r.length=n/\ ∀x∈r,0<=x/\x<=1000000
def GoodTab (n:G5)(T:G0 (G0 G8)):Prop:=T.length=n/\ ∀r∈T,DD n r
structure Sq (n e:G5)(T:G0 (G0 G8)):Prop where
 len:T.length=n
 row: ∀r∈T,r.length=n
 nn: ∀r∈T,∀x∈r,0<=x
 bit: ∀r∈T,∀x∈r,x<2^e
variable {n:G5}{T:G0 (G0 G8)}
theorem GoodTab.sq (g:GoodTab n T):Sq n 20 T:=⟨g.1,λr hr=>(g.2 r hr).1,λr hr x hx=>((g.2 r hr).2 x hx).1,λr hr x hx=>Int.lt_of_le_of_lt ((g.2 r hr).2 x hx).2 (by decide)⟩
variable {e f:G5}
theorem Sq.mono (h:Sq n e T)(l:e<=f):Sq n f T:=⟨h.len,h.row,h.nn,λr hr x hx=>mX (h.bit r hr x hx) (by
 have:(2:G5)^e<=2^f:=V0 (by decide) l;have h2:((2^e:G5):G8)<=((2^f:G5):G8):=by exact_mod_cast this
 simpa using h2)⟩
def ent (T:G0 (G0 G8))(i j:G5):G8:=(T.getD i []).getD j 0
def mkT (n:G5)(f:G5->G5->G8):G0 (G0 G8):=(G3 n).map λi=>(G3 n).map λj=>f i j
theorem yH {i j:G5}{f:G5->G5->G8}(hi:i<n)(hj:j<n):ent (mkT n f) i j=f i j:=by
 unfold ent mkT;simp [D1,hi,hj]
theorem wo {α:Type}(xs:G0 α)(d:α):xs=(G3 xs.length).map λi=>xs.getD i d:=by
 apply iB (by simp);intro i h1 h2;simp [D1,h1]
theorem Sq.eq_mk (h:Sq n e T):T=mkT n (ent T):=by
 have h1:=wo T [];rw [h.len] at h1;unfold mkT
 conv=>lhs;rw [h1]
 apply M5;intro i hi;have hi':i<T.length:=by rw [h.len];exact P6.mp hi
 have hr:(T.getD i []).length=n:=by
  rw [D1,G2 hi'];exact h.row _ (B3 hi')
 have h2:=wo (T.getD i []) 0;rw [hr] at h2;exact h2
theorem RZ {f g:G5->G5->G8}(h: ∀i j,i<n->j<n->f i j=g i j):mkT n f=mkT n g:=by
 unfold mkT;apply M5;intro i hi;apply M5;intro j hj;exact h i j (P6.mp hi) (P6.mp hj)
theorem Sq.of_mk {f:G5->G5->G8}(h0: ∀i j,i<n->j<n->0<=f i j)(h1: ∀i j,i<n->j<n->f i j<2^e):Sq n e (mkT n f):=by
 have key: ∀r∈mkT n f,∃i,i<n/\r=(G3 n).map λj=>f i j:=λr hr=>by
  obtain⟨i,hi,e⟩:=R8.mp hr;exact⟨i,P6.mp hi,e.symm⟩
 refine⟨by simp [mkT],λr hr=> ?_,λr hr x hx=> ?_,λr hr x hx=> ?_⟩
 ·obtain⟨i,_,e⟩:=key r hr;rw [e];simp
 ·obtain⟨i,hi,e⟩:=key r hr;rw [e] at hx;obtain⟨j,hj,e2⟩:=R8.mp hx;rw [<-e2];exact h0 i j hi (P6.mp hj)
 ·obtain⟨i,hi,e⟩:=key r hr;rw [e] at hx;obtain⟨j,hj,e2⟩:=R8.mp hx;rw [<-e2];exact h1 i j hi (P6.mp hj)
theorem Sq.ent_nn (h:Sq n e T){i j:G5}(hi:i<n)(hj:j<n):0<=ent T i j/\ent T i j<2^e:=by
 have hi':i<T.length:=by rw [h.len];exact hi
 have hr:T.getD i []=T[i]:=by rw [D1,G2 hi'];rfl
 have hm:T[i]∈T:=B3 hi';have hj':j<T[i].length:=by rw [h.row _ hm];exact hj
 have he:ent T i j=T[i][j]:=by unfold ent;rw [hr,D1,G2 hj'];rfl
 rw [he];exact⟨h.nn _ hm _ (B3 hj'),h.bit _ hm _ (B3 hj')⟩
variable {U:G0 (G0 G8)}
theorem Sq.ext (h:Sq n e T)(g:Sq n f U)(k: ∀i j,i<n->j<n->ent T i j=ent U i j):T=U:=by
 rw [h.eq_mk,g.eq_mk];exact RZ k
def jQ (n:G5)(f:G5->G8):G8:=((G3 n).map f).sum
theorem vf (f:G5->G8):jQ 0 f=0:=rfl
theorem jI (n:G5)(f:G5->G8):jQ (n+1) f=jQ n f+f n:=by
 unfold jQ;rw [F7,S8,j6];simp
theorem zb {f g:G5->G8}(h: ∀k,k<n->f k=g k):jQ n f=jQ n g:=by
 unfold jQ;congr 1;apply M5;intro k hk;exact h k (P6.mp hk)
theorem We {f:G5->G8}(h: ∀k,k<n->0<=f k):0<=jQ n f:=by
 induction n with
 |zero=>exact bH _
 |succ n ih=>rw [jI];have:=ih λk hk=>h k (by omega);have:=h n (by omega);omega
theorem Qr {f:G5->G8}{b:G8}(h: ∀k,k<n->f k<=b):jQ n f<=n*b:=by
 induction n with
 |zero=>simp [vf]
 |succ n ih=>
  rw [jI];have h1:=ih λk hk=>h k (by omega);have h2:=h n (by omega)
  have:((n+1:G5):G8)*b=(n:G8)*b+b:=by rw [j7,Int.add_mul];simp
  omega
theorem Cp (n:G5)(f g:G5->G8):jQ n (λk=>f k+g k)=jQ n f+jQ n g:=by
 induction n with
 |zero=>rfl
 |succ n ih=>rw [jI,jI,jI,ih];omega
theorem VJ (n:G5)(c:G8)(f:G5->G8):jQ n (λk=>c*f k)=c*jQ n f:=by
 induction n with
 |zero=>simp [vf]
 |succ n ih=>rw [jI,jI,ih,Int.mul_add]
theorem Nn (n:G5)(c:G8)(f:G5->G8):jQ n (λk=>f k*c)=jQ n f*c:=by
 rw [iU,<-VJ];exact zb λk _=>iU _ _
theorem No (m n:G5)(f:G5->G5->G8):jQ m (λi=>jQ n (f i))=jQ n (λj=>jQ m λi=>f i j):=by
 induction m with
 |zero=>
  rw [vf]
  induction n with
  |zero=>rfl
  |succ n ih=>rw [jI,<-ih,vf];rfl
 |succ m ih=>
  rw [jI,ih,<-Cp];exact zb λj _=>(jI m λi=>f i j).symm
theorem GT {f:G5->G8}{i:G5}(hi:i<n)(h: ∀k,k<n->k≠i->f k=0):jQ n f=f i:=by
 induction n with
 |zero=>omega
 |succ n ih=>
  rw [jI]
  by_cases e:i=n
  ·subst e;have:jQ i f=0:=by
    have:jQ i f=jQ i (λ_=>0*1):=zb λk hk=>by rw [h k (by omega) (by omega)];rfl
    rw [this,VJ];simp
   omega
  ·rw [ih (by omega) λk hk hne=>h k (by omega) hne,h n (by omega) (by omega)];omega
theorem Cq {f:G5->G8}(h: ∀k,k<n->0<=f k):0<jQ n f↔ ∃k,k<n/\0<f k:=by
 induction n with
 |zero=>simp [vf]
 |succ n ih=>
  rw [jI];have h1:=We λk (hk:k<n)=>h k (by omega)
  have h2:=h n (by omega);have ih':=ih λk hk=>h k (by omega)
  constructor
  ·intro z
   by_cases q:0<f n
   ·exact⟨n,by omega,q⟩
   ·obtain⟨k,a,b⟩:=ih'.mp (by omega);exact⟨k,by omega,b⟩
  ·rintro ⟨k,a,b⟩
   by_cases q:k=n
   ·subst q;omega
   ·have:=ih'.mpr ⟨k,by omega,b⟩;omega
def Jm (n:G5)(T U:G0 (G0 G8)):G0 (G0 G8):=mkT n λi j=>jQ n λk=>ent T i k*ent U k j
theorem Sq.mul (h:Sq n e T)(g:Sq n f U)(hn:n<=8):Sq n (e+f+3) (Jm n T U):=by
 have nn: ∀i j,i<n->j<n-> ∀k,k<n->0<=ent T i k*ent U k j:=λi j hi hj k hk=>rE (h.ent_nn hi hk).1 (g.ent_nn hk hj).1
 refine Sq.of_mk (λi j hi hj=>We (nn i j hi hj)) λi j hi hj=> ?_
 have hle: ∀k,k<n->ent T i k*ent U k j<=2^e*2^f-1:=λk hk=>by
  have a:=h.ent_nn hi hk;have b:=g.ent_nn hk hj;have:ent T i k*ent U k j<2^e*2^f:=by
   have p:(0:G8)<2^f:=oV (by decide)
   calc ent T i k*ent U k j<=ent T i k*2^f:=Int.mul_le_mul_of_nonneg_left (tF b.2) a.1
    _<2^e*2^f:=Int.mul_lt_mul_of_pos_right a.2 p
  omega
 have s:=Qr hle;have p:(0:G8)<2^e*2^f:=u4 (oV (by decide)) (oV (by decide));have e1:(2:G8)^(e+f+3)=8*(2^e*2^f):=by rw [u5,u5];rw [iU];rfl
 rw [e1];have hn':(n:G8)<=8:=by omega
 have:(n:G8)*(2^e*2^f-1)<=8*(2^e*2^f-1):=Int.mul_le_mul_of_nonneg_right hn' (by omega);omega
theorem yn {i j:G5}(hi:i<n)(hj:j<n):ent (Jm n T U) i j=jQ n λk=>ent T i k*ent U k j:=yH hi hj
def XB (n:G5):G0 (G0 G8):=mkT n λi j=>if i=j then 1 else 0
theorem Sq.one (n:G5):Sq n 1 (XB n):=Sq.of_mk (f:=λi j=>if i=j then 1 else 0) (λi j _ _=>by split<;>decide) λi j _ _=>by split<;>decide
theorem mul_assoc {g:G5}{V:G0 (G0 G8)}(hT:Sq n e T)(hU:Sq n f U)(hV:Sq n g V)(hn:n<=8):Jm n (Jm n T U) V=Jm n T (Jm n U V):=by
 refine((hT.mul hU hn).mul hV hn).ext (hT.mul (hU.mul hV hn) hn) λi j hi hj=> ?_
 rw [yn hi hj,yn hi hj];have e1:(jQ n λk=>ent (Jm n T U) i k*ent V k j)=jQ n λk=>jQ n λl=>ent T i l*ent U l k*ent V k j:=
  zb λk hk=>by rw [yn hi hk,<-Nn]
 have e2:(jQ n λl=>ent T i l*ent (Jm n U V) l j)=jQ n λl=>jQ n λk=>ent T i l*(ent U l k*ent V k j):=
  zb λl hl=>by rw [yn hl hj,<-VJ]
 rw [e1,e2,No];exact zb λl _=>zb λk _=>Int.mul_assoc _ _ _
theorem Ma (hT:Sq n e T)(hn:n<=8):Jm n (XB n) T=T:=by
 refine((Sq.one n).mul hT hn).ext hT λi j hi hj=> ?_
 rw [yn hi hj,GT hi λk hk hne=>by rw [XB,yH hi hk,D9 (E8 hne)];simp];rw [XB,yH hi hi,D8 rfl];simp
theorem Oo (hT:Sq n e T)(hn:n<=8):Jm n T (XB n)=T:=by
 refine(hT.mul (Sq.one n) hn).ext hT λi j hi hj=> ?_
 rw [yn hi hj,GT hj λk hk hne=>by rw [XB,yH hk hj,D9 hne];simp];rw [XB,yH hj hj,D8 rfl];simp
def zk (n:G5)(T:G0 (G0 G8)):G5->G0 (G0 G8)
 |0=>XB n
 |k+1=>Jm n (zk n T k) T
theorem Sq.pow (hT:Sq n e T)(hn:n<=8): ∀k,Sq n (k*(e+3)+1) (zk n T k)
 |0=>(Sq.one n).mono (by omega)
 |k+1=>((Sq.pow hT hn k).mul hT hn).mono (by rw [fG];omega)
def YM (n:G5)(T:G0 (G0 G8)):G0 (G0 G8):=mkT n λi j=>ent T j i
def jK (n:G5)(T:G0 (G0 G8)):G0 (G0 G8):=mkT n λi j=>if ent T i j=0 then 0 else 1
def DE (n:G5)(o:G0 G5)(T:G0 (G0 G8)):G0 (G0 G8):=mkT n λi j=>ent T (o.idxOf i) (o.idxOf j)
theorem Sq.turn (h:Sq n e T):Sq n e (YM n T):=Sq.of_mk (λi j hi hj=>(h.ent_nn hj hi).1) λi j hi hj=>(h.ent_nn hj hi).2
theorem Sq.mark (T:G0 (G0 G8)):Sq n 1 (jK n T):=Sq.of_mk (f:=λi j=>if ent T i j=0 then 0 else 1) (λi j _ _=>by split<;>decide) λi j _ _=>by split<;>decide
structure Ord (n:G5)(o:G0 G5):Prop where
 len:o.length=n
 all: ∀i,i<n->i∈o
theorem Ord.lt {o:G0 G5}(h:Ord n o){i:G5}(hi:i<n):o.idxOf i<n:=by rw [<-h.len];exact A9.mpr (h.all i hi)
theorem Sq.ren {o:G0 G5}(h:Sq n e T)(ho:Ord n o):Sq n e (DE n o T):=Sq.of_mk (λi j hi hj=>(h.ent_nn (ho.lt hi) (ho.lt hj)).1) λi j hi hj=>(h.ent_nn (ho.lt hi) (ho.lt hj)).2
def zm (T:G0 (G0 G8)):T9:=T.all λr=>r.all λx=>decide (x≠0)
theorem DF (n:G5)(f:G5->G5->G8):zm (mkT n f)=true↔ ∀i j,i<n->j<n->f i j≠0:=by
 unfold zm mkT;simp only [E4,T8,P6,A1,K1];exact⟨λh i j hi hj=>h i hi j hj,λh i hi j hj=>h i j hi hj⟩
theorem VL (h:Sq n e T):zm (jK n T)=zm T:=by
 have h1:zm T=zm (mkT n (ent T)):=by rw [<-h.eq_mk]
 rw [h1,B8,jK,DF,DF];constructor
 ·intro z i j hi hj w;exact z i j hi hj (by rw [D8 w])
 ·intro z i j hi hj w;rw [D9 (z i j hi hj)] at w;cases w
def MulOk (i j:G8):Prop:= ∃m n:G5,i.natAbs<2^m/\j.natAbs<2^n/\m+n<=134217728
theorem MulOk.ok {i j:G8}(h:MulOk i j):IntMulOk i j:=by
 obtain⟨m,n,a,b,c⟩:=h;exact .of_le (lM.mpr a) (lM.mpr b) c
theorem SH:OpR X (E9 .Mult) (rI MulOk λi j=> .int (i*j)):=opI λ_ _ _ _ _ _ _ hc q=>mul_int q hc.ok
def jbe:RD2:=λx y h Q=>match x,y with
 | .int i,.int j=>MulOk i j/\Q (.int (i*j)) h
 |_,_=>False
theorem SI:OpQ X (E9 .Mult) jbe:=Qf (gd:=λi j=> .int (i*j)) SH (λ_ _ _=>rfl) λx y h Q q=>by
 cases x<;>cases y<;>first|exact False.elim q|exact⟨_,_,rfl,rfl,q.1,q.2⟩
theorem VM {x:G8}(h0:0<=x)(h1:x<2^e):x.natAbs<2^e:=by
 have:((2^e:G5):G8)=2^e:=by simp
 omega
theorem Op {x y:G8}(hx:0<=x/\x<2^e)(hy:0<=y/\y<2^f)(h:e+f<=134217728):MulOk x y:=⟨e,f,VM hx.1 hx.2,VM hy.1 hy.2,h⟩
section
variable {α β:Type}{i i':G5}{js:G0 G5}{ti ti':TID}{te:TED}{σ:SD}{h:HD}{Q:KD}{j:ItD}
theorem lcA (xs:G0 α)(c g:α->D)(hz:xs.length<=1000)(hj:j h=some (xs.map c))(ht: ∀R:ItD->HD->Prop,R j h->ti σ h R)
 (he: ∀x∈xs,∀Q':KD,Q' (g x) h->te ((jJ js σ).set i (some (c x))) h Q')(hq: ∀p,h p=none->Q (.lst p) (wB h p (xs.map g))):vU (bN i) js ti vT te σ h Q:=by
 refine ht _ ⟨xs.length,λk ys h'=>h'=h/\ys=(xs.take k).map g,⟨rfl,by simp⟩,?_⟩;rintro k ys h' ⟨rfl,rfl⟩;refine⟨by simp only [G1,T0];exact S1 (ju (by omega)),xs.map c,hj,by simp,λhl p hp=> ?_,λd hd=>⟨_,rfl,?_⟩⟩
 ·rw [S5 (by simpa using hl)];exact hq p hp
 ·unfold vT;dsimp only;rw [D8 rfl];rw [P9] at hd;cases hx:xs[k]? with
  |none=>rw [hx] at hd;cases hd
  |some x=>
   rw [hx] at hd;cases hd;refine he x (D0 hx) _ ⟨h',Sub.refl _,rfl,?_⟩;rw [N7,hx];simp
theorem lcF (xs:G0 α)(c g:α->D)(p:α->T9){tt:TTD}(hz:xs.length<=1000)(hj:j h=some (xs.map c))(ht: ∀R:ItD->HD->Prop,R j h->ti σ h R)
 (hp: ∀x∈xs,∀Q':T9->HD->Prop,Q' (p x) h->tt ((jJ js σ).set i (some (c x))) h Q')(he: ∀x∈xs,p x=true-> ∀Q':KD,Q' (g x) h->te ((jJ js σ).set i (some (c x))) h Q')(hq: ∀a,h a=none->Q (.lst a) (wB h a ((xs.filter p).map g))):vU (bN i) js ti tt te σ h Q:=by
 refine ht _ ⟨xs.length,λk ys h'=>h'=h/\ys=((xs.take k).filter p).map g,⟨rfl,by simp⟩,?_⟩;rintro k ys h' ⟨rfl,rfl⟩;refine⟨?_,xs.map c,hj,by simp,λhl a ha=> ?_,λd hd=>⟨_,rfl,?_⟩⟩
 ·have:=O9 p (xs.take k);simp only [G1,T0] at this ⊢;exact S1 (ju (by omega))
 ·rw [S5 (by simpa using hl)];exact hq a ha
 ·rw [P9] at hd;cases hx:xs[k]? with
  |none=>rw [hx] at hd;cases hd
  |some x=>
   rw [hx] at hd;cases hd;refine hp x (D0 hx) _ ?_;cases hb:p x with
   |true=>
    rw [D8 rfl];refine he x (D0 hx) hb _ ⟨h',Sub.refl _,rfl,?_⟩;rw [N7,hx];simp [hb]
   |false=>
    rw [D9 R0];refine⟨h',Sub.refl _,rfl,?_⟩;rw [N7,hx];simp [hb]
theorem lcB (xs:G0 α)(c:α->D)(ys:α->G0 β)(c':β->D)(g:α->β->D)(hz:(xs.flatMap ys).length<=1000)(hj:j h=some (xs.map c))(ht: ∀R:ItD->HD->Prop,R j h->ti σ h R)
 (hin: ∀x∈xs,∀R:ItD->HD->Prop,R (λ_=>some ((ys x).map c')) h->ti' ((jJ js σ).set i (some (c x))) h R)
 (he: ∀x∈xs,∀y∈ys x,∀Q':KD,Q' (g x y) h->te (((jJ js σ).set i (some (c x))).set i' (some (c' y))) h Q')(hq: ∀p,h p=none->Q (.lst p) (wB h p (xs.flatMap λx=>(ys x).map (g x)))):Dt (bN i) js ti vT i' ti' vT te σ h Q:=by
 have len: ∀l:G0 α,(l.flatMap λx=>(ys x).map (g x)).length=(l.flatMap ys).length:=λl=>by
  induction l with
  |nil=>rfl
  |cons x l ih=>simp [H0,ih]
 have lek: ∀k,((xs.take k).flatMap ys).length<=(xs.flatMap ys).length:=λk=>by
  conv=>rhs;rw [<-T7 k xs,K0,P2]
  omega
 have lek1: ∀k x m,xs[k]? =some x->m<=(ys x).length->((xs.take k).flatMap ys).length+m<=(xs.flatMap ys).length:=λk x m hx hm=>by
  have:=lek (k+1);rw [N7,hx,K0,P2] at this;simp at this;simp;omega
 refine ht _ ⟨xs.length,λk zs h'=>h'=h/\zs=(xs.take k).flatMap λx=>(ys x).map (g x),⟨rfl,by simp⟩,?_⟩;rintro k zs h' ⟨rfl,rfl⟩;refine⟨by rw [len];exact S1 (ju (T5 (lek k) hz)),xs.map c,hj,by simp,λhl p hp=> ?_,λd hd=>⟨_,rfl,?_⟩⟩
 ·rw [S5 (by simpa using hl)];exact hq p hp
 ·unfold vT;dsimp only;rw [D8 rfl];rw [P9] at hd;cases hx:xs[k]? with
  |none=>rw [hx] at hd;cases hd
  |some x=>
   rw [hx] at hd;cases hd;have xm:=D0 hx;refine hin x xm _ ⟨(ys x).length,λm zs h2=>h2=h'/\zs=((xs.take k).flatMap λx=>(ys x).map (g x))++((ys x).take m).map (g x),⟨rfl,by simp⟩,?_⟩;rintro m zs h2 ⟨rfl,rfl⟩;refine⟨?_,(ys x).map c',rfl,by simp,λhl=>⟨h2,Sub.refl _,rfl,?_⟩,λd hd=> ?_⟩
   ·rw [P2,len,G1,T0];have:=lek1 k x (min m (ys x).length) hx (aF _ _);exact S1 (ju (by omega))
   ·have hm:(ys x).take m=ys x:=S5 (by simpa using hl);rw [hm,N7,hx,K0];simp
   ·rw [P9] at hd;cases hy:(ys x)[m]? with
    |none=>rw [hy] at hd;cases hd
    |some y=>
     rw [hy] at hd;cases hd
     first
      |rw [D8 rfl]
      |(dsimp only;rw [D8 rfl])
     refine he x xm y (D0 hy) _ ⟨h2,Sub.refl _,rfl,?_⟩;rw [N7,hy];simp
theorem Mb (xs:G0 α)(c g:α->D)(hz:xs.length<=1000)(hj:j h=some (xs.map c))(ht: ∀R:ItD->HD->Prop,R j h->ti σ h R)
 (he: ∀x∈xs,∀Q':KD,Q' (g x) h->te ((jJ js σ).set i (some (c x))) h Q')(hq:Q (.tup (xs.map g)) h):dCB Zk (zg (vU (bN i) js ti vT te) Zx) σ h Q:=by
 show vU (bN i) js ti vT te σ h (λx h1=>Zk [x] h1 Q);exact lcA xs c g hz hj ht he λp hp=>(show ∃ys,wB h p (xs.map g) p=some ys/\Q (.tup ys) (Xb (wB h p (xs.map g)) p) from ⟨_,jc,by rw [zf hp];exact hq⟩)
theorem qk (xs:G0 α)(c g:α->D)(p:α->T9){tt:TTD}(hz:xs.length<=1000)(hj:j h=some (xs.map c))(ht: ∀R:ItD->HD->Prop,R j h->ti σ h R)
 (hp: ∀x∈xs,∀Q':T9->HD->Prop,Q' (p x) h->tt ((jJ js σ).set i (some (c x))) h Q')(he: ∀x∈xs,p x=true-> ∀Q':KD,Q' (g x) h->te ((jJ js σ).set i (some (c x))) h Q')(hq:Q (.tup ((xs.filter p).map g)) h):dCB Zk (zg (vU (bN i) js ti tt te) Zx) σ h Q:=by
 show vU (bN i) js ti tt te σ h (λx h1=>Zk [x] h1 Q);exact lcF xs c g p hz hj ht hp he λa ha=>(show ∃ys,wB h a ((xs.filter p).map g) a=some ys/\Q (.tup ys) (Xb (wB h a ((xs.filter p).map g)) a) from ⟨_,jc,by rw [zf ha];exact hq⟩)
theorem jam (xs:G0 α)(c:α->D)(g:α->G8)(hz:xs.length<=1000)(hj:j h=some (xs.map c))(ht: ∀R:ItD->HD->Prop,R j h->ti σ h R)
 (he: ∀x∈xs,∀Q':KD,Q' (.int (g x)) h->te ((jJ js σ).set i (some (c x))) h Q')(hq:Q (.int (xs.map g).sum) h):dCB ke (zg (vU (bN i) js ti vT te) Zx) σ h Q:=by
 show vU (bN i) js ti vT te σ h (λx h1=>ke [x] h1 Q);exact lcA xs c (λx=> .int (g x)) hz hj ht he λp hp=>⟨p,xs.map g,rfl,by rw [jc,S2];rfl,by rw [zf hp];exact hq⟩
theorem uL (xs:G0 α)(c:α->D)(g:α->T9)(hz:xs.length<=1000)(hj:j h=some (xs.map c))(ht: ∀R:ItD->HD->Prop,R j h->ti σ h R)
 (he: ∀x∈xs,∀Q':KD,Q' (.bl (g x)) h->te ((jJ js σ).set i (some (c x))) h Q')(hq:Q (.bl (xs.all g)) h):dCB BZ (zg (vU (bN i) js ti vT te) Zx) σ h Q:=by
 show vU (bN i) js ti vT te σ h (λx h1=>BZ [x] h1 Q);exact lcA xs c (λx=> .bl (g x)) hz hj ht he λp hp=>⟨p,xs.map g,rfl,by rw [jc,S2];rfl,by rw [zf hp,E4];exact hq⟩
theorem jbf (xs:G0 α)(c:α->D)(g:α->T9)(hz:xs.length<=1000)(hj:j h=some (xs.map c))(ht: ∀R:ItD->HD->Prop,R j h->ti σ h R)
 (he: ∀x∈xs,∀Q':KD,Q' (.bl (g x)) h->te ((jJ js σ).set i (some (c x))) h Q')(hq:Q (.bl (xs.any g)) h):dCB qc (zg (vU (bN i) js ti vT te) Zx) σ h Q:=by
 show vU (bN i) js ti vT te σ h (λx h1=>qc [x] h1 Q);exact lcA xs c (λx=> .bl (g x)) hz hj ht he λp hp=>⟨p,xs.map g,rfl,by rw [jc,S2];rfl,by rw [zf hp,fI];exact hq⟩
theorem jbg (xs:G0 α)(c:α->D)(ys:α->G0 β)(c':β->D)(g:α->β->T9)(hz:(xs.flatMap ys).length<=1000)(hj:j h=some (xs.map c))(ht: ∀R:ItD->HD->Prop,R j h->ti σ h R)
 (hin: ∀x∈xs,∀R:ItD->HD->Prop,R (λ_=>some ((ys x).map c')) h->ti' ((jJ js σ).set i (some (c x))) h R)
 (he: ∀x∈xs,∀y∈ys x,∀Q':KD,Q' (.bl (g x y)) h->te (((jJ js σ).set i (some (c x))).set i' (some (c' y))) h Q')(hq:Q (.bl (xs.all λx=>(ys x).all (g x))) h):dCB BZ (zg (Dt (bN i) js ti vT i' ti' vT te) Zx) σ h Q:=by
 show Dt (bN i) js ti vT i' ti' vT te σ h (λx h1=>BZ [x] h1 Q);refine lcB xs c ys c' (λx y=> .bl (g x y)) hz hj ht hin he λp hp=> ?_
 ·have e:(xs.flatMap λx=>(ys x).map λy=>D.bl (g x y))=(xs.flatMap λx=>(ys x).map (g x)).map D.bl:=by
   clear hz hj ht hin he hq
   induction xs with
   |nil=>rfl
   |cons x l ih=>simp [H0,ih,S2]
  refine⟨p,xs.flatMap λx=>(ys x).map (g x),rfl,by rw [jc,e],?_⟩;rw [zf hp];have e2:(xs.flatMap λx=>(ys x).map (g x)).all id=xs.all λx=>(ys x).all (g x):=by
   clear hz hj ht hin he hq e
   induction xs with
   |nil=>rfl
   |cons x l ih=>simp [H0,ih,E4]
  rw [e2];exact hq
end
end L2
namespace L2
open PySem PySem.Spec PyProof.Rows PySem.SeqAt
def kl (j:ItD):TID:=λ_ h R=>R j h
variable {te:TED}{σ:SD}{h:HD}{Q:KD}
theorem Oq {b:D->SD->SD->Prop}{js:G0 G5}{ti:TID}{tt:TTD}(x:ti σ h λj h1=>vU b js (kl j) tt te σ h1 Q):vU b js ti tt te σ h Q:=x
def jq (o:G0 G5):D:= .tup (o.map λ(k:G5)=>D.int (k:G8))
def Ordr (n:G5)(o:G0 G5):Prop:=o.Perm (G3 n)
variable {n:G5}{o:G0 G5}
theorem Ordr.ord (h:Ordr n o):Ord n o:=⟨by rw [h.length_eq,P3],λi hi=>h.mem_iff.mpr (P6.mpr hi)⟩
def zP (o:G0 G5):G0 G8:=o.map λ(k:G5)=>(k:G8)
theorem VN (o:G0 G5):jq o= .tup ((zP o).map D.int):=by unfold jq zP;rw [S2];rfl
theorem Os (o:G0 G5)(i:G5):(zP o).idxOf (i:G8)=o.idxOf i:=by
 induction o with
 |nil=>rfl
 |cons a o ih=>
  show ((a:G8)::zP o).idxOf (i:G8)=_;rw [pF,pF,ih]
  by_cases e:a=i
  ·subst e;simp
  ·have e1:(a==i)=false:=by simpa using e
   have e2:((a:G8)==(i:G8))=false:=by simp;omega
   rw [e1,e2]
variable {i:G5}
theorem Mc (h:i∈o):(i:G8)∈zP o:=R8.mpr ⟨i,h,rfl⟩
theorem GU: ∀n:G5,(zP (G3 n)).Pairwise (· <= ·):=λn=>by
 unfold zP;rw [E5];exact G0.pairwise_le_range.imp λh=>by omega
theorem Ordr.insert (h:Ordr n o)(k:G5):Ordr (n+1) (o.take k++n::o.drop k):=by
 unfold Ordr;rw [F7];refine iC.trans ?_;rw [T7];exact(G0l n h).trans (List.perm_append_singleton n _).symm
theorem wK (h:HD): ∀ns:G0 G8,ToPs h (ns.map D.int) (ns.map aN)
 | []=>rfl
 |n::ns=>⟨_,_,rfl,rfl,wK h ns⟩
theorem yo: ∀ns:G0 G8,E6 (ns.map aN)=true
 | []=>rfl
 |n::ns=>by show (K3 (.int n)&&_)=true;rw [yo ns];rfl
theorem VO: ∀ns:G0 G8,O3 (ns.map aN) (ns.map aN)=true
 | []=>rfl
 |n::ns=>by show ((n==n)&&O3 _ _)=true;rw [VO ns];simp
theorem Za: ∀ns:G0 G8,A6 (ns.map aN)<=1
 | []=>by simp [A6]
 |n::ns=>by
  have:=Za ns;simp only [M1,A6,bM];omega
theorem vD (ns:G0 G8):f8 (.list (ns.map .int))=true:=by
 unfold f8;have h1:K3 (.list (ns.map .int))=true:=by simp only [K3];exact yo ns
 have h2:=Za ns;have h3:bM (.list (ns.map .int))<=64:=by simp only [bM];omega
 rw [h1,G9 h3];rfl
def UW (r:G0 G8):W3:= .tuple (r.map .int)
def uM (T:G0 (G0 G8)):W3:= .tuple (T.map UW)
theorem GV (h:HD): ∀T:G0 (G0 G8),ToPs h (T.map vB) (T.map UW)
 | []=>rfl
 |r::T=>⟨_,_,rfl,⟨_,rfl,wK h r⟩,GV h T⟩
theorem SJ (h:HD)(T:G0 (G0 G8)):ToP h (jh T) (uM T):=⟨_,rfl,GV h T⟩
theorem VP: ∀T:G0 (G0 G8),E6 (T.map UW)=true
 | []=>rfl
 |r::T=>by
  show (K3 (UW r)&&_)=true;rw [VP T];have:K3 (UW r)=true:=by unfold UW;simp only [K3];exact yo r
  rw [this];rfl
theorem XC: ∀T:G0 (G0 G8),A6 (T.map UW)<=3
 | []=>by simp [A6]
 |r::T=>by
  have:=XC T;have h2:=Za r;simp only [M1,A6,bM,UW];omega
variable {e:G5}{T:G0 (G0 G8)}
theorem Jn (h:Sq n e T){i:G5}(hi:i<n):atI (T.map vB) (i:G8)=some (vB (T.getD i [])):=by
 have hi':i<T.length:=by rw [h.len];exact hi
 exact zK (by rw [P9,D1,G2 hi'];rfl)
theorem Sq.getRow (h:Sq n e T){i:G5}(hi:i<n):T.getD i []∈T:=by
 have hi':i<T.length:=by rw [h.len];exact hi
 rw [D1,G2 hi'];exact B3 hi'
theorem Jo {r:G0 G8}(h:r.length=n){j:G5}(hj:j<n):atI (r.map D.int) (j:G8)=some (.int (r.getD j 0)):=by
 have hj':j<r.length:=by rw [h];exact hj
 exact zK (by rw [P9,D1,G2 hj'];rfl)
theorem Cr (n:G5)(f:G5->G5->G8):D.tup ((G3 n).map λi=>D.tup ((G3 n).map λj=>D.int (f i j)))=jh (mkT n f):=by
 unfold jh vB mkT;rw [S2]
 congr 1
 apply M5;intro i _;simp [S2,a7]
theorem SK (T:G0 (G0 G8))(f:G8->G8):D.tup (T.map λr=>D.tup (r.map λx=>D.int (f x)))=jh (T.map λr=>r.map f):=by
 unfold jh vB;rw [S2]
 congr 1
 apply M5;intro r _;simp [S2,a7]
theorem SL (h:Sq n e T):jK n T=T.map λr=>r.map λx=>if x≠0 then 1 else 0:=by
 conv=>rhs;rw [h.eq_mk]
 unfold jK mkT;rw [S2];apply M5;intro i _;simp only [A1,S2];apply M5;intro j _;simp only [A1]
 by_cases z:ent T i j=0
 ·rw [D8 z,D9 (by simpa using z)]
 ·rw [D9 z,D8 z]
theorem Ot (h:Sq n e T)(h6:n<=6):(T.flatMap λr=>r).length<=1000:=by
 have: ∀U:G0 (G0 G8),(∀r∈U,r.length=n)->(U.flatMap λr=>r).length=U.length*n:=λU=>by
  induction U with
  |nil=>intro _;simp
  |cons r U ih=>
   intro hU;rw [H0,P2,ih λr hr=>hU r (S3 _ hr),hU r R3,R7,fG];omega
 rw [this T h.row,h.len];have:=lN h6 h6;omega
variable {U:G0 (G0 G8)}
theorem Ou (h:Sq n e T):(T.map λr=>D.tup ((G3 n).map λj=>D.int (jQ n λm=>r.getD m 0*ent U m j)))=(Jm n T U).map vB:=by
 conv=>lhs;rw [wo T [],h.len]
 unfold Jm mkT;rw [S2,S2];apply M5;intro i _;simp only [A1,vB,S2];rfl
theorem pow_add (h:Sq n e T)(hn:n<=8)(a:G5): ∀b,zk n T (a+b)=Jm n (zk n T a) (zk n T b)
 |0=>by rw [show zk n T 0=XB n from rfl,Oo (h.pow hn a) hn];rfl
 |b+1=>by
  show Jm n (zk n T (a+b)) T=Jm n (zk n T a) (Jm n (zk n T b) T);rw [pow_add h hn a b,mul_assoc (h.pow hn a) (h.pow hn b) h hn]
theorem Cs (h:Sq n e T)(hn:n<=8):zk n T 1=T:=Ma h hn
theorem VQ (h:Sq n e T)(hn:n<=8)(b:G5):zk n T (b+1)=Jm n T (zk n T b):=by
 rw [cX,pow_add h hn,Cs h hn]
variable {j:G5}
theorem Wf (hi:i<n)(hj:j<n):ent (YM n T) i j=ent T j i:=yH hi hj
variable {f:G5}
theorem Ov (h:Sq n e T)(g:Sq n f U)(hn:n<=8):YM n (Jm n T U)=Jm n (YM n U) (YM n T):=
 (h.mul g hn).turn.ext (g.turn.mul h.turn hn) λi j hi hj=>by
  rw [Wf hi hj,yn hj hi,yn hi hj];exact zb λk hk=>by rw [Wf hi hk,Wf hk hj,iU]
theorem Ow (n:G5):YM n (XB n)=XB n:=
 (Sq.one n).turn.ext (Sq.one n) λi j hi hj=>by
  rw [Wf hi hj,XB,yH hj hi,yH hi hj]
  by_cases e:i=j
  ·rw [D8 e,D8 e.symm]
  ·rw [D9 e,D9 (λz=>e z.symm)]
theorem Md (h:Sq n e T)(hn:n<=8): ∀k,YM n (zk n T k)=zk n (YM n T) k
 |0=>Ow n
 |k+1=>by
  rw [VQ h hn,Ov h (h.pow hn k) hn,Md h hn k];rfl
theorem Ox {a b:G0 G8}(h:a.Perm b):a.sum=b.sum:=by
 induction h with
 |nil=>rfl
 |cons x _ ih=>simp [ih]
 |swap x y l=>simp;omega
 |trans _ _ i1 i2=>rw [i1,i2]
theorem Ordr.nodup (h:Ordr n o):o.Nodup:=h.symm.nodup dN
theorem Ct (h:Ordr n o)(f:G5->G8):jQ n (λm=>f (o.idxOf m))=jQ n f:=by
 unfold jQ;have h1:((G3 n).map λm=>f (o.idxOf m)).sum=(o.map λm=>f (o.idxOf m)).sum:=Ox (h.symm.map _);have hl:=h.ord.len;have h2:(o.map λm=>f (o.idxOf m))=(G3 n).map f:=by
  apply iB (by simp [hl]);intro i a b;simp only [iD,cJ];rw [h.nodup.idxOf_getElem]
 rw [h1,h2]
theorem VR (hi:i<n)(hj:j<n):ent (DE n o T) i j=ent T (o.idxOf i) (o.idxOf j):=yH hi hj
theorem SM (h : Sq n e T) (g : Sq n f U) (ho : Ordr n o) (hn : n ≤ 8) : DE n o (Jm n T U) = Jm n (DE n o T) (DE n o U) :=
  ((h.mul g hn).ren ho.ord).ext ((h.ren ho.ord).mul (g.ren ho.ord) hn) fun i j hi hj => by
    rw [VR hi hj, yn (ho.ord.lt hi) (ho.ord.lt hj), yn hi hj, ← Ct ho]
    exact zb fun k hk => by rw [VR hi hk, VR hk hj]
theorem SN (ho:Ordr n o){i j:G5}(hi:i<n)(hj:j<n)(e:o.idxOf i=o.idxOf j):i=j:=by
 have a:o.idxOf i<o.length:=by rw [ho.ord.len];exact ho.ord.lt hi
 have b:o.idxOf j<o.length:=by rw [ho.ord.len];exact ho.ord.lt hj
 have c:=K4 a;have d:=K4 b;rw [<-c,<-d];simp only [e]
theorem SO (ho : Ordr n o) : DE n o (XB n) = XB n :=
  ((Sq.one n).ren ho.ord).ext (Sq.one n) fun i j hi hj => by
    rw [VR hi hj, XB, yH (ho.ord.lt hi) (ho.ord.lt hj), yH hi hj]
    by_cases e : i = j
    · rw [D8 e, D8 (by rw [e])]
    · rw [D9 e, D9 (fun z => e (SN ho hi hj z))]
theorem Cu (h:Sq n e T)(ho:Ordr n o)(hn:n<=8): ∀k,DE n o (zk n T k)=zk n (DE n o T) k
 |0=>SO ho
 |k+1=>by
  show DE n o (Jm n (zk n T k) T)=Jm n (zk n (DE n o T) k) (DE n o T);rw [SM (h.pow hn k) h ho hn,Cu h ho hn k]
theorem Oy (hi:i<n)(hj:j<n):ent (jK n T) i j=if ent T i j=0 then 0 else 1:=yH hi hj
theorem Me (h: ∀i j,i<n->j<n->(ent T i j=0↔ent U i j=0)):jK n T=jK n U:=RZ λi j hi hj=>by
 by_cases z:ent T i j=0
 ·rw [D8 z,D8 ((h i j hi hj).mp z)]
 ·rw [D9 z,D9 (λw=>z ((h i j hi hj).mpr w))]
theorem vg (hi:i<n)(hj:j<n):ent (jK n T) i j=0↔ent T i j=0:=by
 rw [Oy hi hj]
 by_cases z:ent T i j=0
 ·rw [D8 z];simp [z]
 ·rw [D9 z];simp [z]
theorem GW (T:G0 (G0 G8)):jK n (jK n T)=jK n T:=Me λi j hi hj=>vg hi hj
theorem wL (h:Sq n e T)(g:Sq n f U)(hi:i<n)(hj:j<n):ent (Jm n T U) i j≠0↔ ∃k,k<n/\ent T i k≠0/\ent U k j≠0:=by
 rw [yn hi hj];have nn: ∀k,k<n->0<=ent T i k*ent U k j:=λk hk=>rE (h.ent_nn hi hk).1 (g.ent_nn hk hj).1
 have s:=We nn;have p:=Cq nn;constructor
 ·intro z;obtain⟨k,hk,w⟩:=p.mp (by omega);refine⟨k,hk,λq=> ?_,λq=> ?_⟩
  ·rw [q] at w;simp at w
  ·rw [q] at w;simp at w
 ·rintro ⟨k,hk,a,b⟩ z;have c:=(h.ent_nn hi hk).1;have d:=(g.ent_nn hk hj).1;have:0<ent T i k*ent U k j:=u4 (by omega) (by omega);have:=p.mpr ⟨k,hk,this⟩;omega
theorem Vi (h:Sq n e T)(g:Sq n f U):jK n (Jm n T U)=jK n (Jm n (jK n T) (jK n U)):=
 Me λi j hi hj=>by
  have a:=wL h g hi hj;have b:=wL (Sq.mark (n:=n) T) (Sq.mark (n:=n) U) hi hj;have c:(∃k,k<n/\ent T i k≠0/\ent U k j≠0)↔ ∃k,k<n/\ent (jK n T) i k≠0/\ent (jK n U) k j≠0:=
   ⟨λ⟨k,hk,x,y⟩=>⟨k,hk,λz=>x ((vg hi hk).mp z),λz=>y ((vg hk hj).mp z)⟩,λ⟨k,hk,x,y⟩=>⟨k,hk,λz=>x ((vg hi hk).mpr z),λz=>y ((vg hk hj).mpr z)⟩⟩
  exact⟨λz=>X3 λw=>(a.mpr (c.mpr (b.mp w))) z,λz=>X3 λw=>(b.mpr (c.mp (a.mp w))) z⟩
theorem Mf (h:Sq n e T)(hn:n<=8): ∀k,jK n (zk n T k)=jK n (zk n (jK n T) k)
 |0=>rfl
 |k+1=>by
  show jK n (Jm n (zk n T k) T)=jK n (Jm n (zk n (jK n T) k) (jK n T));rw [Vi (h.pow hn k) h,Vi ((Sq.mark (n:=n) T).pow hn k) (Sq.mark (n:=n) T),GW,Mf h hn k]
theorem Wg (h:Sq n e T):zm T=true↔ ∀i j,i<n->j<n->ent T i j≠0:=by
 have h1:zm T=zm (mkT n (ent T)):=by rw [<-h.eq_mk]
 rw [h1,DF]
variable {a:G5}
theorem Cv (h:Sq n e T)(hn:n<=8)(ha:0<a)(f:zm (zk n T a)=true):zm (zk n T (a+1))=true:=by
 rw [Wg (h.pow hn _)] at f ⊢;intro i j hi hj;obtain⟨b,rfl⟩: ∃b,a=b+1:=⟨a-1,by omega⟩;have z:=f i j hi hj;rw [VQ h hn b,wL h (h.pow hn b) hi hj] at z;obtain⟨k,hk,x,_⟩:=z;rw [VQ h hn (b+1),wL h (h.pow hn (b+1)) hi hj];exact⟨k,hk,x,f k j hk hj⟩
theorem VS (h:Sq n e T)(hn:n<=8)(ha:0<a)(f:zm (zk n T a)=true): ∀b,zm (zk n T (a+b))=true
 |0=>f
 |b+1=>Cv (a:=a+b) h hn (by omega) (VS h hn ha f b)
section
variable {prog:M0}{w:C6}{A:C5}{E:G7->P0->Prop}{s:P0}
variable {items:N8 G7}
theorem Cw {it t:P4}{i n:G5}{d1 d2:D4 P4}{s1 s2:N8 (D4 G7)}{P:dM->P0->Prop}(a1:s.heap.get? it=some {cls:= .type "tuple_iterator",dict:=d1,data:= .fields #[.ref t,.int i 0],slots:=s1})(a2:s.heap.get? t=some {cls:= .type "tuple",dict:=d2,data:= .seq items n,slots:=s2})
 (more: ∀x h',items[i]? =some x->h'.IsTupleIter it t (i+1)->aK it s.heap h'->P (.done (.ret x)) {s with heap:=h'})
 (none_:items[i]? =none->S6 (T4 prog w) A (do setField (.ref it) 0 .none;Y6) P E s):S6 (T4 prog w) A (Builtin.«tuple_iterator.__next__» ⟨[.ref it],[]⟩) P E s:=by
 obtain⟨hp,g,d,tk,os⟩:=s
 wp_walk
 rw [dB];cases hx:items[i]? with
 |none=>exact wpAny_bind (cH (none_ hx))
 |some x=>
  refine wpAny_bind (rF a1 rfl (by simp) (D2 (more x _ hx ⟨_,aW _ a1 ?_,rfl,?_⟩ (bU ..))))
  ·rfl
  ·simp [dS,sT]
theorem DG {Q:dM->P0->Prop}(hh:A.handled=none)(hE: ∀h' e,(∀b o,s.heap.get? b=some o->h'.get? b=some o)->(∃o,h'.get? e=some o/\o.cls= .type "StopIteration")->E (.ref e) {s with heap:=h'}):S6 (T4 prog w) A Y6 Q E s:=by
 obtain⟨hp,g,d,tk,os⟩:=s;unfold Y6
 wp_walk
 unfold raiseNew;refine wpAny_bind (wpAny_handled ?_);rw [hh];exact wpAny_bind (D2 (wpAny_throw (hE _ _ (λb o q=>P7 _ (P7 _ q)) ⟨_,T3 _ rfl,rfl⟩)))
theorem WL {it t:P4}{i:G5}{x:G7}{Q:G7->P0->Prop}(hit:s.heap.IsTupleIter it t i)(ht:s.heap.IsTuple t items)(hx:items[i]? =some x)
 (hQ: ∀h',h'.IsTupleIter it t (i+1)->aK it s.heap h'->Q x {s with heap:=h'}):S6 (T4 prog w) A (J5 (.ref it)) Q E s:=by
 obtain⟨⟨c,d1,dt,s1⟩,ho,rfl,rfl⟩:=id hit;obtain⟨⟨c2,d2,dt2,s2⟩,hol,rfl,nl,rfl⟩:=ht;exact wpAny_bind (K5 hit.typeIs W9 (A7 W9 hit.typeIs fJ (Cw ho hol (λy h' e b1 b2=>⟨y,rfl,D2 (by rw [hx] at e;cases e;exact hQ h' b1 b2)⟩) λe=>by rw [hx] at e;cases e) (eQ _)))
theorem wH {it t:P4}{i:G5}{Q:G7->P0->Prop}(hh:A.handled=none)(hit:s.heap.IsTupleIter it t i)(ht:s.heap.IsTuple t items)(hx:items[i]? =none)
 (hE: ∀h' e,oW it s.heap h'->(∃o,h'.get? e=some o/\o.cls= .type "StopIteration")->E (.ref e) {s with heap:=h'}):S6 (T4 prog w) A (J5 (.ref it)) Q E s:=by
 obtain⟨⟨c,d1,dt,s1⟩,ho,rfl,rfl⟩:=id hit;obtain⟨⟨c2,d2,dt2,s2⟩,hol,rfl,nl,rfl⟩:=ht;refine wpAny_bind (K5 hit.typeIs W9 (A7 W9 hit.typeIs fJ (Cw ho hol (λy h' e b1 b2=>by rw [hx] at e;cases e) λ_=>wpAny_bind (rF ho rfl (by simp) ?_)) (eQ _)));exact DG (s:= {s with heap:=_}) hh λh' e grown stop=>hE h' e (λb o ne q=>grown b o ((bU ..).extBut b o ne q)) stop
end
variable {prog:M0}{w:C6}{A:C5}
theorem Cy (hh:A.handled=none)(it t:P4)(hne:t≠it)(items:N8 G7):
 Draws prog w A it [it,t] items.size (λi v=>items[i]? =some v) (λi h=>h.IsTupleIter it t i/\h.IsTuple t items) where
 live:=λ_ _ st=>let ⟨o,ho,_⟩:=st.1;⟨o,ho⟩
 frame:=λ_ _ _ st hk=>⟨st.1.at λo e=>hk it (by simp) o e,st.2.at λo e=>hk t (by simp) o e⟩
 item:=λi s Q E hi st hQ=>WL st.1 st.2 (x:=items[i]) (by simp [hi]) λh' hit' hs'=>hQ _ h' s.toks (by simp [hi]) ⟨hit',st.2.extBut hs'.extBut hne⟩ hs'
 done:=λs Q E st hE=>wH hh st.1 st.2 (by simp) hE
theorem Cz (hh:A.handled=none)(it t:P4)(items:N8 G7)(n:G5)(hn:items.size<=n):
 Draws prog w A it [it,t] n (λ_ _=>False) (λi h=>i=n/\h.IsTupleIter it t n/\h.IsTuple t items) where
 live:=λ_ _ st=>let ⟨o,ho,_⟩:=st.2.1;⟨o,ho⟩
 frame:=λ_ _ _ st hk=>⟨st.1,st.2.1.at λo e=>hk it (by simp) o e,st.2.2.at λo e=>hk t (by simp) o e⟩
 item:=λi s Q E hi st hQ=>absurd st.1 (M9 hi)
 done:=λs Q E st hE=>wH hh st.2.1 st.2.2 (iW hn) hE
section
variable {prog:M0}{w:C6}{A:C5}{E:G7->P0->Prop}{s:P0}
theorem CA {l:P4}{its:N8 G7}{P:dM->P0->Prop}(at_:s.heap.IsTuple l its)
 (h: ∀h',tG h' (s.heap.objs.size+1) s.heap.objs.size 0 .none->h'.IsTupleIter s.heap.objs.size l 0->(∀b o,s.heap.get? b=some o->h'.get? b=some o)->P (.done (.ret (.ref (s.heap.objs.size+1)))) {s with heap:=h'}):
 S6 (T4 prog w) A (Builtin.«enumerate.__new__» ⟨[.type "enumerate",.ref l],[]⟩) P E s:=by
 have fine:=sub_enumerate;obtain⟨⟨c,dd,dt,sl⟩,there,rfl,n,rfl⟩:=id at_;obtain⟨hp,g,d,tk,os⟩:=s;have size: ∀o,(hp.push o).objs.size=hp.objs.size+1:=λo=>cY ..
 have made:=T3 (hp.push {cls:= .type "tuple_iterator",data:= .fields #[.ref l,.int 0 0]}) (o:= {cls:= .type "enumerate",data:= .fields #[.none,.bool false,.ref hp.objs.size,sT 0,.none,.none]}) rfl;have fin:=h _ (by rw [<-size];exact made) ⟨_,P7 _ (T3 _ rfl),rfl,rfl⟩ λb o old=>P7 _ (P7 _ old)
 rw [<-size {cls:= .type "tuple_iterator",data:= .fields #[.ref l,.int 0 0]}] at fin
 wp_walk using b7 there
 refine wpAny_stack_any λcalls=>D2 ?_
 split
 case h_1 c _ _ _ _ _=>cases c==V6 "enumerate" <;>(wp_walk using b7 there,aM at_;exact fin)
 case h_2=>wp_walk using b7 there,aM at_;exact fin
theorem Qs {l:P4}{items:N8 G7}{Q:G7->P0->Prop}(hL:s.heap.IsTuple l items)
 (h: ∀h',tG h' (s.heap.objs.size+1) s.heap.objs.size 0 .none->h'.IsTupleIter s.heap.objs.size l 0->(∀b o,s.heap.get? b=some o->h'.get? b=some o)->Q (.ref (s.heap.objs.size+1)) {s with heap:=h'}):
 S6 (T4 prog w) A (call (.type "enumerate") [.ref l]) Q E s:=
 callType_new F.called_enumerate (by decide) (F.typeCall_enumerate_1 _) (F.newCall_enumerate_1 _) (λ_=>F.args_object_init_2 _ _) F.entry_enumerate_new
  (S:=λ_ R s=>s.heap.IsTuple l items/\ ∀h',tG h' (s.heap.objs.size+1) s.heap.objs.size 0 .none->h'.IsTupleIter s.heap.objs.size l 0->(∀b o,s.heap.get? b=some o->h'.get? b=some o)->R (.ok (.ret (.ref (s.heap.objs.size+1)))) {s with heap:=h'})
  (.of_wp λ_ _ _ _ _ ⟨tup,k⟩=>CA tup λh' e i old=>⟨_,rfl,k h' e i old⟩) ⟨hL,λh' e i old=>⟨⟨_,e,rfl⟩,h h' e i old⟩⟩
end
section
variable {X:Cx}{pins:G0 (P4×Obj)}{σ:G0 (D4 V)}{H:Hp}{s:P0}{h':L6}
theorem Inv.turnL {t':G5}{ch:G0 P4}(I:Inv X pins σ H s)(k: ∀b o,b ∉ ch->s.heap.get? b=some o->h'.get? b=some o)(hc: ∀b∈ch,Bd X pins H b):Inv X pins σ H {s with heap:=h',toks:=t'}:=by
 refine I.step (g':=s.gens) (d':=s.drawn) (ch:=ch) (λb hb=>let ⟨_,f1,_,f3,f4,f5⟩:=hc b hb;⟨f3,f1,f4,f5⟩) (λb o _ _ nb e _=>k b o nb e) (λb o _ _ nb e _=>⟨o.slots,k b o nb e⟩) (λ_ _ _ _ n=>n)
  (λb o nb e=>⟨o,k b o nb e⟩) (λ_ _ e=>e) (λ_ _ _ e=>e) (λb ps e=>⟨#[],by rw [e];simp⟩) (λm hm=> ?_) (λb u e=> ?_) I.bare
 ·obtain⟨o,es,ep,ho,r⟩:=hm;exact⟨o,es,ep,k _ o (λz=>(hc _ z).2.1 rfl) ho,r⟩
 ·refine(I.hok b u e).stay (λc v hb q=>k c v (λz=> ?_) q) (λ_ q=>q) λ_ _ q=>q
  have f:=(hc c z).1;rcases hb with w|w
  ·rw [w,e] at f;cases f
  ·rw [w] at f;cases f
theorem Inv.turnLaid {t':G5}{ch:G0 P4}{a:P4}{o:HO}(I:Inv X pins σ H s)(k: ∀b u,b ∉ ch->s.heap.get? b=some u->h'.get? b=some u)(hc: ∀b∈ch,Bd X pins H b)(hp:s.heap.objs.size<=a)
 (new:ObjOk X.prog X.w (upd H a o) h' a o):Inv X pins σ (upd H a o) {s with heap:=h',toks:=t'}:=by
 have hn:=I.hok.fresh hp;refine I.step (g':=s.gens) (d':=s.drawn) (ch:=ch) (λb hb=>let ⟨_,f1,_,f3,f4,f5⟩:=hc b hb;⟨f3,f1,f4,f5⟩) (λb u _ _ nb e _=>k b u nb e) (λb u _ _ nb e _=>⟨u.slots,k b u nb e⟩)
  (λb u _ e n=>by rw [jt (M9 (N6 (S0 e) hp))];exact n) (λb u nb e=>⟨u,k b u nb e⟩) (λb xs q=>by rw [jt (jp q hn)];exact q) (λb u xs q=>by rw [jt (jp q hn)];exact q)
  (λb ps q=>⟨#[],by rw [jt (jp q hn),q];simp⟩) (λm hm=> ?_) (λb u e=> ?_) I.bare
 ·obtain⟨u,es,ep,ho,r⟩:=hm;exact⟨u,es,ep,k _ u (λz=>(hc _ z).2.1 rfl) ho,r⟩
 ·by_cases hb:b=a
  ·subst hb;rw [jw] at e;cases e;exact new
  ·rw [jt hb] at e;refine(I.hok b u e).stay (λc v hb q=>k c v (λz=> ?_) q) (λc q=>by rw [jt (jp q hn)];exact q) λc xs q=>by rw [jt (jp q hn)];exact q
   have f:=(hc c z).1;rcases hb with w|w
   ·rw [w,e] at f;cases f
   ·rw [w] at f;cases f
end
def Ite (K:G6)(a:P4):It:=
 ⟨λi H=> ∃xs x,SqT K H a xs/\xs[i]? =some x,λi H x H'=> ∃p v,H p=none/\(∀xs,SqT K H a xs->xs[i]? =some v)/\x= .ref p/\H'=upd H p (.tup [.int i,v]),λi H=> ∃xs,SqT K H a xs/\xs.length<=i⟩
variable {K:G6}{k:G5}
theorem CB {P:M0}{es:G0 T1}{pos:Pos}(a it e:P4)(hei:e≠it)(hae:a≠e)(hai:a≠it):Turn P w K (.Tuple es k pos) (Ite K a) [e,it] e (λi h=>(∃old,tG h e it i old)/\h.IsTupleIter it a i) where
 mem:=by simp
 obj:=λi h st b hb=>by
  rcases T6.mp hb with z|z
  ·subst z;obtain⟨old,q⟩:=st.1;exact⟨_,q,λv z=>by cases z⟩
  ·have z:=P1.mp z;subst z;obtain⟨o,q,c,d⟩:=st.2;exact⟨o,q,λv z=>by rw [d] at z;cases z⟩
 keep:=λi h h' st k=>⟨let ⟨old,q⟩:=st.1;⟨old,k e (by simp) _ q⟩,st.2.at λo q=>k it (by simp) o q⟩
 item:=by
  intro X hP hw hK hc i pins s σ H E I hf st hg;subst hP hw hK;obtain⟨xs,x,hq,hx⟩:=hg;obtain⟨its,rv,p,hz⟩:=I.tuple hq;obtain⟨u,hu,ru⟩:=rv.get hx;have hi:i<its.toArray.size:=by have:=(P8.mp hu).1;simpa using this
  obtain⟨old,he⟩:=st.1;have helt:e<s.heap.objs.size:=S0 he;refine iF (Cy (prog:=X.prog) (w:=X.w) (A:=X.A.in1) (I.ok.hd hc) it a hai its.toArray) he ⟨st.2,p⟩ hi hei (by simp [hei,E8 hae]) λx' h' tk hx' ho hs' hT hsz hk=> ?_
  have ex:x'=u:=C1 (hx'.symm.trans (show its.toArray[i]? =some u by simpa using hu));subst ex;refine⟨_,rfl,gA ho λh2 he2 hs2=> ?_⟩;have hn:H s.heap.objs.size=none:=I.hok.fresh (P5 _);have hT2:h2.get? s.heap.objs.size=some {cls:= .type "tuple",data:= .seq #[.int i tk,x']}:=(hs2.2 _ (W0 helt)).trans hT;refine⟨.ref s.heap.objs.size,upd H s.heap.objs.size (.tup [.int i,x]),?_,rfl,⟨_,x,hn,λys hy=>by rw [I.tuple_inj hy hq];exact hx,rfl,rfl⟩,⟨⟨x',by simpa using he2⟩,hs'.1.at λo y=>(hs2.2 it (E8 hei)).trans y⟩,λb hb=> ?_⟩
  ·refine I.turnLaid (h':=h2) (t':=tk+1) (ch:= [e,it]) (λb u hb q=> ?_) hf (P5 _) ⟨by show 2<=sizeLine;decide,[.int i tk,x'],.cons ⟨tk,rfl⟩ (.cons ru .nil),⟨_,hT2,rfl,rfl,_,rfl⟩⟩;have b1:b≠e:=λz=>hb (by simp [z])
   have b2:b≠it:=λz=>hb (by simp [z])
   exact(hs2.2 b b1).trans (hk b u b1 b2 q)
  ·have f:=(hf b hb).1;have:b≠s.heap.objs.size:=λz=>by
    rcases T6.mp hb with w|w
    ·rw [<-w,z] at helt;exact absurd helt (O0 _)
    ·have w:=P1.mp w;obtain⟨o,ho',_⟩:=st.2;have:=S0 ho';rw [<-w,z] at this;exact absurd this (O0 _)
   rw [jt this];exact f
 done:=by
  intro X hP hw hK hc i pins s σ H E I hf st hg;subst hP hw hK;obtain⟨xs,hq,hx⟩:=hg;obtain⟨its,rv,p,hz⟩:=I.tuple hq;obtain⟨old,he⟩:=st.1;have hl:=rv.length;refine iY (Cz (prog:=X.prog) (w:=X.w) (A:=X.A.in1) (I.ok.hd hc) it a its.toArray i (by simp;omega)) he ⟨rfl,st.2,p⟩ λh' hx'=>⟨rfl,I.turnL (t':=s.toks) (ch:= [it]) (λb o hb q=>hx' b o (λz=>hb (by simp [z])) q) λb hb=>hf b (S3 _ hb)⟩
 self:=λ_ _ _ _ _ st h=>let ⟨_,q⟩:=st.1;dE q h
section
variable {X:Cx}
def jan (K:G6)(ta:TA):TI:=λσ H R=>ta σ H λvs H1=> ∃a,vs= [.ref a]/\(∃xs,SqT K H1 a xs)/\R (Ite K a) H1
theorem SQ {es:G0 T1}{k:G5}{tp:Pos}{a:T1}{ta:TA}{p pos:Pos}(hg:Gl X "enumerate")(hm:X.mg "enumerate" =none)(ha:PA X [a] ta)(hs:D6 [a] X.env= [(false,O5 a X.env)]:=by rfl):
 PI X (.Tuple es k tp) (.Call (.Name "enumerate" p) [a] [] pos) (jan X.K ta):=by
 intro pins s σ H R I h;refine tX (ZX I hg hm (show E3 "enumerate" =some (.type "enumerate") by decide +kernel) (O8 (thn (ha pos pins s σ H _ I h) λus s1 ⟨vs,H1,I1,r1,q1⟩=> ?_) hs rfl));obtain⟨a,e,⟨xs,hq⟩,q⟩:=q1;subst e;cases r1 with
 |cons r rr=>
  cases rr;cases r;obtain⟨its,rv,p,hz⟩:=I1.tuple hq;have hlt:a<s1.heap.objs.size:=by obtain⟨o,ho,_⟩:=p;exact S0 ho
  refine Qs (show s1.heap.IsTuple a its.toArray from p) λh' he hit hk=> ?_
  refine dE he ?_;refine⟨s1.heap.objs.size+1,[s1.heap.objs.size+1,s1.heap.objs.size],_,_,H1,rfl,I1.kept (t':=s1.toks) hk,CB a s1.heap.objs.size (s1.heap.objs.size+1) (W0 (J1 _)) (M9 (a6 hlt)) (M9 hlt),⟨⟨_,he⟩,hit⟩,λb hb=> ?_,q⟩;have hb':s1.heap.objs.size<=b:=by
   rcases T6.mp hb with w|w
   ·rw [w];exact lL _
   ·rw [P1.mp w];exact P5 _
  exact I1.fpOk hb' (I1.hok.fresh hb')
end
def UX (ds:G0 D):G0 D:=ds.zipIdx.map λp=> .tup [.int (p.2:G8),p.1]
def iE (ta:TAD):TID:=λσ h R=>ta σ h λxs h1=> ∃ds,xs= [.tup ds]/\R (λ_=>some (UX ds)) h1
theorem Vj {ds:G0 D}{d:D}(h:(UX ds)[i]? =some d): ∃x,ds[i]? =some x/\d= .tup [.int (i:G8),x]:=by
 unfold UX at h;rw [P9,lO] at h;cases q:ds[i]? with
 |none=>rw [q] at h;cases h
 |some x=>
  rw [q] at h;refine⟨x,rfl,?_⟩;have h':some (D.tup [.int ((0+i:G5):G8),x])=some d:=h;rw [U8] at h';exact(C1 h').symm
theorem wE (ds:G0 D):(UX ds).length=ds.length:=by simp [UX]
section
variable {K:G6}
theorem CC {H:Hp}{a:P4}{vs:G0 V}{ds:G0 D}(hv:H a=some (.tup vs))(r:RelDs K H ds vs):Oe K H (λ_=>some (UX ds)) (Ite K a):=λH' h' k rh ds' e i=>by
 cases e;have hv':=k.tup _ _ hv;have r':=r.mono k;refine⟨λd hd=> ?_,λhl=>⟨vs,SqT.of hv',by rw [<-r.length,<-wE];exact hl⟩⟩;obtain⟨x,hx,ed⟩:=Vj hd;subst ed;obtain⟨v,e1,e2⟩:=r'.get hx;refine⟨⟨vs,v,SqT.of hv',e1⟩,λx' H'' ⟨p,v',hp,hx',ex,eH⟩=> ?_⟩;subst ex eH;have ev:v'=v:=by have:=hx' vs (SqT.of hv');rw [e1] at this;exact(C1 this).symm
 subst ev;have k2:Kept H' (upd H' p (.tup [.int i,v'])):= .new hp;exact⟨k2,RelH.new rh hp,p,[.int i,v'],rfl,jw,_,_,rfl,rfl,_,_,rfl,e2.mono k2,rfl⟩
theorem SR {ta:TAD}: ∀σ H R,LI K (iE ta) σ H R->jan K (LA K ta) σ H R:=λσ H R ⟨σd,h,Rd,rs,rh,q,p⟩=>
 LA.bind rs rh q λds vs h1 H1 k1 rs1 rh1 r1 ⟨es,e,q1⟩=>by
  subst e;obtain⟨v,e,r2⟩:=jF r1;obtain⟨a,ws,e',hv,r⟩:=(show ∃a vs,v= .ref a/\H1 a=some (.tup vs)/\RelDs K H1 es vs from r2);subst e';exact⟨a,e,⟨ws,SqT.of hv⟩,p _ _ _ _ k1 rh1 (CC hv r) q1⟩
end
section
variable {X:Cx}
theorem Qt {es:G0 T1}{k:G5}{tp:Pos}{a:T1}{ta:TAD}{p pos:Pos}(hg:Gl X "enumerate")(hm:X.mg "enumerate" =none)(ha:JA X [a] ta)(hs:D6 [a] X.env= [(false,O5 a X.env)]:=by rfl):
 JI X (.Tuple es k tp) (.Call (.Name "enumerate" p) [a] [] pos) (iE ta):=⟨(SQ hg hm ha.to hs).imp SR⟩
end
def CF (c:TTD)(tb:TSD):TSD:=λD σ h=> ∃W:G5->SD->HD->Prop,(∃m,W m σ h)/\ ∀m σ' h',W m σ' h'->c σ' h' λb h1=>
 if b=true then tb {D with nx:=λσ2 h2=> ∃m' h3,m'<m/\Sub h3 h2/\W m' σ2 h3,ct:=λσ2 h2=> ∃m' h3,m'<m/\Sub h3 h2/\W m' σ2 h3,bk:=D.nx} σ' h1 else D.nx σ' h1
theorem Oz {c:TTD}{tb:TSD}: ∀D σ H,LS K (CF c tb) D σ H->AM (LT K c) (LS K tb) D σ H:=λD σ H ⟨σd,h,Dd,rs,rh,⟨W,⟨m0,w0⟩,turn⟩,nx,rt,bk,ct⟩=>by
 refine⟨λm σ' H'=>Kept H H'/\ ∃σd' h',RelS K H' σd' σ'/\RelH K h' H'/\W m σd' h',⟨m0,.refl _,σd,h,rs,rh,w0⟩,?_⟩;rintro m σ' H' ⟨kp,σd',h',rs',rh',w⟩;refine LT.bind rs' rh' (turn m σd' h' w) λb h1 H1 k1 rs1 rh1 q1=> ?_
 cases b with
 |false=>
  rw [D9 R0] at q1 ⊢;exact nx _ _ _ _ (kp.trans k1) rs1 rh1 q1
 |true=>
  rw [D8 rfl] at q1 ⊢;have kk:Kept H H1:=kp.trans k1;refine⟨λσ2 H2=>Kept H H2/\ ∃m',m'<m/\ ∃σd2 h2,RelS K H2 σd2 σ2/\RelH K h2 H2/\W m' σd2 h2,λσ2 H2 ⟨k2,m',hm,a,b,c,d,e⟩=>⟨m',hm,k2,a,b,c,d,e⟩,?_⟩;exact⟨σd',h1,_,rs1,rh1,q1,λa b c d k4 rs4 rh4 ⟨m',h4,hm,sb,w4⟩=>⟨kk.trans k4,m',hm,a,h4,rs4,rh4.sub sb,w4⟩,jP rt kk,λa b c d k4 rs4 rh4 q4=>nx a b c d (kk.trans k4) rs4 rh4 q4,λa b c d k4 rs4 rh4 ⟨m',h4,hm,sb,w4⟩=>⟨kk.trans k4,m',hm,a,h4,rs4,rh4.sub sb,w4⟩⟩
section
variable {X:Cx}{pos:Pos}
theorem XD {c:T1}{body:G0 C9}{tc:TTD}{tb:TSD}(hp:l9 (T4 X.prog X.w) X.A X.env X.xe)(hc:JT X c tc)(hb:JSs X body tb):JS X (.While c body [] pos) (CF tc tb):=⟨(Lz hp hc.to hb.to).imp Oz⟩
end
theorem Zb {c:TTD}{tb:TSD}{E:EndsD}(W:G5->SD->HD->Prop)(m:G5)(w0:W m σ h)
 (turn: ∀m σ' h',W m σ' h'->c σ' h' λb h1=>if b=true then tb {E with nx:=λσ2 h2=> ∃m' h3,m'<m/\Sub h3 h2/\W m' σ2 h3,ct:=λσ2 h2=> ∃m' h3,m'<m/\Sub h3 h2/\W m' σ2 h3,bk:=E.nx} σ' h1 else E.nx σ' h1):CF c tb E σ h:=⟨W,⟨m,w0⟩,turn⟩
def Off (W:G0 P4)(h h':L6):Prop:=h'.objs.size=h.objs.size/\ ∀b o,b ∉ W->h.get? b=some o->h'.get? b=some o
theorem Off.refl (W:G0 P4)(h:L6):Off W h h:=⟨rfl,λ_ _ _ e=>e⟩
theorem Off.of {c:P4}{W:G0 P4}{h h':L6}(x:aK c h h')(m:c∈W):Off W h h':=⟨x.1,λb o n e=>x.extBut b o (λq=>n (q ▸ m)) e⟩
theorem Off.trans {W:G0 P4}{h h' h'':L6}(x:Off W h h')(y:Off W h' h''):Off W h h'':=⟨y.1.trans x.1,λb o n e=>y.2 b o n (x.2 b o n e)⟩
abbrev CG (f0:G7)(b1:T9)(TI TO:P4):Obj:= {cls:= .type "zip",dict:=none,data:= .fields #[f0,.bool b1,.bool false,.ref TI,.ref TO],slots:= #[]}
def ZipAt (h:L6)(z TI TO:P4):Prop:= ∃f0 b1,h.get? z=some (CG f0 b1 TI TO)/\(f0= .none\/ ∃a t,f0= .int a t)
theorem ZipAt.off {h h':L6}{z TI TO:P4}{W:G0 P4}(Z:ZipAt h z TI TO)(o:Off W h h')(n:z ∉ W):ZipAt h' z TI TO:=let ⟨f,b,e,q⟩:=Z;⟨f,b,o.2 _ _ n e,q⟩
section
variable {prog:M0}{w:C6}{A:C5}{E:G7->P0->Prop}{s:P0}{z TI TO i1 i2:P4}
theorem OA {Q:T9->P0->Prop}(Z:ZipAt s.heap z TI TO)(k: ∀b h',ZipAt h' z TI TO->Off [z] s.heap h'->Q b {s with heap:=h'}):S6 (T4 prog w) A (mQ (.ref z)) Q E s:=by
 obtain⟨f0,b1,hz,hf⟩:=id Z;have stay:=λb=>k b s.heap Z (Off.refl _ _)
 rcases hf with rfl|⟨a,t,rfl⟩
 ·wp_walk
  exact stay true
 ·have read: ∀ {P:D4 Obj->P0->Prop} {E':G7->P0->Prop},P (s.heap.get? a.toNat) s->S6 (T4 prog w) A (loadIfAlive a.toNat) P E' s:=λp _ _ _=>p
  wp_walk using read
  cases s.heap.get? a.toNat with
  |none=>exact D2 (stay true)
  |some o=>
   wp_walk
   cases b1 with
   |true=>exact D2 (stay false)
   |false=>exact wpAny_bind <| wpAny_setField_rec hz (by simp) λh' z' same=>D2 (k false h' ⟨_,_,z',.inr ⟨a,t,rfl⟩⟩ (.of same (by simp)))
structure ZApart (z TI TO i1 i2:P4):Prop where
 z1:z≠i1
 z2:z≠i2
 zO:z≠TO
 zI:z≠TI
 O1:TO≠i1
 O2:TO≠i2
 OI:TO≠TI
 I1:TI≠i1
 I2:TI≠i2
abbrev km (z:P4)(h:L6)(E:G7->P0->Prop):G7->P0->Prop:=λe s'=>(∀o,h.get? z=some o->s'.heap.get? z=some o)/\ ∀h',oW z s'.heap h'->E e {s' with heap:=h'}
theorem CH {Q:G7->P0->Prop}(ap:ZApart z TI TO i1 i2)(Z:ZipAt s.heap z TI TO)(hTI:X0 s.heap TI (.ref i1) (.ref i2))(hTO: ∃a b,X0 s.heap TO a b)
 (go: ∀h₁,Off [z] s.heap h₁->(∃o,h₁.get? z=some o/\o.cls= .type "zip")->S6 (T4 prog w) A (J5 (.ref i1)) (λx s₁=>Off [i1] h₁ s₁.heap/\ ∀h₂,Off [TO] s₁.heap h₂->
  S6 (T4 prog w) A (J5 (.ref i2)) (λy s₂=>Off [i2] h₂ s₂.heap/\ ∀h₃,(∀b o,b ∉ [z,TO]->s₂.heap.get? b=some o->h₃.get? b=some o)->X0 h₃ s₂.heap.objs.size x y->
   ZipAt h₃ z TI TO->X0 h₃ TI (.ref i1) (.ref i2)->(∃a b,X0 h₃ TO a b)->Q (.ref s₂.heap.objs.size) {s₂ with heap:=h₃}) (km z h₂ E) {s₁ with heap:=h₂}) (km z h₁ E) {s with heap:=h₁}):
 S6 (T4 prog w) A (Builtin.«zip.__next__» ⟨[.ref z],[]⟩) (λfin s'=> ∃v,fin= .done (.ret v)/\Q v s') E s:=by
 obtain⟨f0,b1,hz,hf⟩:=id Z;have ask:=λ{P:T9->P0->Prop} {E':G7->P0->Prop} (k: ∀b h',ZipAt h' z TI TO->Off [z] s.heap h'->P b {s with heap:=h'})=>OA (prog:=prog) (w:=w) (A:=A) (E:=E') Z k
 wp_walk using ask
 intro b h₀ Z₀ off₀;have I₀:=off₀.2 _ _ (by simp [ap.zI.symm]) hTI;obtain⟨a',b',O₀⟩: ∃a b,X0 h₀ TO a b:=let ⟨a,b,e⟩:=hTO;⟨a,b,off₀.2 _ _ (by simp [ap.zO.symm]) e⟩;cases b with
 |false=>
  have d1:=go h₀ off₀ (let ⟨_,_,e,_⟩:=Z₀;⟨_,e,rfl⟩);rw [D9 (by decide)];refine wpAny_bind ?_;rw [<-Array.forIn_toList];simp only [eO,rG];refine wpAny_bind (wpAny_bind (K2 ?_));refine wpAny_bind (m:=J5 (.ref i1)) (N0 d1 (λx s₁ d=>D2 (D2 ?_)) λe s' f=>f.2 s'.heap λ_ _ _ e=>e);obtain⟨o1,d2⟩:=d;refine wpAny_bind (wpAny_bind (K2 ?_));refine wpAny_bind (m:=J5 (.ref i2)) (N0 (d2 s₁.heap (.refl _ _)) (λy s₂ d=>D2 (D2 (D2 ?_))) λe s' f=>f.2 s'.heap λ_ _ _ e=>e);obtain⟨o2,fin⟩:=d;show S6 _ _ (newTuple [x,y] >>= _) _ _ _;have n1: ∀ {b},b≠i1->b ∉ [i1]:=λh=>by simpa using h
  have n2: ∀ {b},b≠i2->b ∉ [i2]:=λh=>by simpa using h
  have Z₂:=(Z₀.off o1 (n1 ap.z1)).off o2 (n2 ap.z2);have keep: ∀ {b o},b≠i1->b≠i2->h₀.get? b=some o->(s₂.heap.push {cls:= .type "tuple",data:= .seq #[x,y]}).get? b=some o:=λq1 q2 e=>P7 _ (o2.2 _ _ (n2 q2) (o1.2 _ _ (n1 q1) e))
  refine wpAny_bind (rH (D2 ⟨_,rfl,fin _ (λb o _ e=>P7 _ e) (T3 _ rfl) ?_ (keep ap.I1 ap.I2 I₀) ⟨_,_,keep ap.O1 ap.O2 O₀⟩⟩));exact let ⟨f,b,e,q⟩:=Z₂;⟨f,b,P7 _ e,q⟩
 |true=>
  obtain⟨f0',b1',hz₀,_⟩:=Z₀;have note:=λ{P:Unit->P0->Prop} {E':G7->P0->Prop} (k: ∀h',h'.get? z=some (CG .ellipsis b1' TI TO)->aK z h₀ h'->P () {s with heap:=h'})=>
   wpAny_setField_rec (prog:=prog) (w:=w) (A:=A) (E:=E') (s:= {s with heap:=h₀}) (k:=0) (x:= .ellipsis) hz₀ (by simp) k
  wp_walk using note
  intro h₁ z₁ same₁;have off₁:Off [z] s.heap h₁:=off₀.trans (.of same₁ (by simp));have O₁:=same₁.extBut _ _ ap.zO.symm O₀;have I₁:=same₁.extBut _ _ ap.zI.symm I₀;have fell: ∀ {h:L6} {e:G7} {s':P0},h.get? z=some (CG .ellipsis b1' TI TO)->km z h E e s'->S6 (T4 prog w) A (setField (.ref z) 0 .none) (λ_ s''=>E e s'') E s':=λhz' f=>
   wpAny_setField_rec (f.1 _ hz') (by simp) λh' _ same=>f.2 h' same.extBut
  have draw:=λ{P:G7->P0->Prop} {E':G7->P0->Prop} (k: ∀x s₁,_->P x s₁) (f: ∀e s',km z h₁ E e s'->E' e s')=>N0 (go h₁ off₁ ⟨_,z₁,rfl⟩) k f
  wp_walk using sC,draw
  case f=>exact λe s' f=>fell z₁ f
  intro x s₁ ⟨o1,go2⟩;have z₂:=o1.2 _ _ (by simp [ap.z1]) z₁;have O₂:X0 s₁.heap TO a' b':=o1.2 _ _ (by simp [ap.O1]) O₁;have I₂:=o1.2 _ _ (by simp [ap.I1]) I₁;have lay:=λ{P:Unit->P0->Prop} {E':G7->P0->Prop}=>lQ (prog:=prog) (w:=w) (A:=A) (E:=E') (s:=s₁) (k:=0) (x:=x) (Q:=P) O₂
  wp_walk using lay
  intro h₂ O₃ same₂
  replace O₃:X0 h₂ TO x b':=O₃
  have z₃:=same₂.extBut _ _ ap.zO z₂;have I₃:=same₂.extBut _ _ ap.OI.symm I₂;have draw2:=λ{P:G7->P0->Prop} {E':G7->P0->Prop} (k: ∀y s₂,_->P y s₂) (f: ∀e s',km z h₂ E e s'->E' e s')=>N0 (go2 h₂ (.of same₂ (by simp))) k f
  wp_walk using sC,draw2
  case f=>exact λe s' f=>fell z₃ f
  intro y s₂ ⟨o2,fin⟩;have z₄:=o2.2 _ _ (by simp [ap.z2]) z₃;have O₄:X0 s₂.heap TO x b':=o2.2 _ _ (by simp [ap.O2]) O₃;have I₄:=o2.2 _ _ (by simp [ap.I2]) I₃;have lay2:=λ{P:Unit->P0->Prop} {E':G7->P0->Prop}=>lQ (prog:=prog) (w:=w) (A:=A) (E:=E') (s:=s₂) (k:=1) (x:=y) (Q:=P) O₄
  wp_walk using lay2
  intro h₄ O₅ same₃
  replace O₅:X0 h₄ TO x y:=O₅
  have z₅:=same₃.extBut _ _ ap.zO z₄;have I₅:=same₃.extBut _ _ ap.OI.symm I₄
  wp_walk
  have size:h₄.objs.size=s₂.heap.objs.size:=same₃.1;have zp:=P7 {cls:= .type "tuple",data:= .seq #[x,y]} z₅;have zu:=aW (dS λv=>v.setIfInBounds 0 (sT h₄.objs.size)) zp rfl;have zu':=aW (dS λv=>v.setIfInBounds 1 (Z4 false)) zu rfl;have away: ∀ {b o},b≠z->(h₄.push {cls:= .type "tuple",data:= .seq #[x,y]}).get? b=some o->
   (((h₄.push {cls:= .type "tuple",data:= .seq #[x,y]}).update z (dS λv=>v.setIfInBounds 0 (sT h₄.objs.size))).update z (dS λv=>v.setIfInBounds 1 (Z4 false))).get? b=some o:=λn e=>
   (bU ..).extBut _ _ n ((bU ..).extBut _ _ n e)
  have new:=away (b:=h₄.objs.size) (λq=>O0 _ (q ▸ S0 z₅)) (T3 _ rfl);refine⟨_,rfl,?_⟩;have done:=fin _ (λb o n e=>away (λq=>n (by simp [q])) (P7 _ (same₃.extBut _ _ (λq=>n (by simp [q])) e))) (size ▸ new) ⟨_,_,zu',.inr ⟨_,_,rfl⟩⟩ (away ap.zI.symm (P7 _ I₅)) ⟨_,_,away ap.zO.symm (P7 _ O₅)⟩;rw [<-size] at done;exact done
theorem SS {tg : T1} {v : G7} {Q : Unit → P0 → Prop} (Z : ZipAt s.heap z TI TO) (k : ∀ h', ZipAt h' z TI TO → Off [z] s.heap h' → Q () { s with heap := h' }) : S6 (T4 prog w) A (X7 tg (.ref z) v) Q E s := by
  obtain ⟨f0, b1, hz, hf⟩ := id Z
  have stay := k s.heap Z (.refl _ _)
  have gone : S6 (T4 prog w) A (updateField z 0 .none) Q E s := wpAny_setField_rec (k := 0) (x := .none) hz (by simp) fun h' z' same => k h' ⟨_, _, z', .inl rfl⟩ (.of same (by simp))
  unfold X7
  cases tg <;> first
    | exact D2 stay
    | (cases v <;> wp_walk <;> first
        | exact stay
        | (split
           · exact wpAny_bind (cH gone)
           · exact D2 stay))
theorem OB {Q:D4 G7->P0->Prop}(Z:ZipAt s.heap z TI TO)
 (h:S6 (T4 prog w) A.in1 (Builtin.«zip.__next__» ⟨[.ref z],[]⟩) (λfin s'=> ∃v,fin= .done (.ret v)/\Q (some v) s') (λe s'=>s'.TypeIs e "StopIteration" /\Q none s') s):S6 (T4 prog w) A (pS (.ref z)) Q E s:=by
 obtain⟨_,_,hz,_⟩:=Z;have ty:s.TypeIs (.ref z) "zip" :=⟨_,hz,rfl⟩;have asked:=A7 pG ty F.entry_zip_next h (F.args_zip_next_1 _);exact wpAny_bind (sD (K5 (name:= "__next__") ty pG (N0 asked (λ_ _ q=>D2 q) λe s' q=>wpAny_bind (oM (b:=true) q.1 isSubtype_stop (D2 q.2)))))
theorem OC {l1 l2:P4}{xs ys:N8 G7}{P:dM->P0->Prop}(t1:s.heap.IsTuple l1 xs)(t2:s.heap.IsTuple l2 ys)
 (h: ∀h' n,n=s.heap.objs.size->ZipAt h' (n+4) (n+2) (n+3)->X0 h' (n+2) (.ref n) (.ref (n+1))->(∃a b,X0 h' (n+3) a b)->h'.IsTupleIter n l1 0->h'.IsTupleIter (n+1) l2 0->
  (∀b o,s.heap.get? b=some o->h'.get? b=some o)->P (.done (.ret (.ref (n+4)))) {s with heap:=h'}):
 S6 (T4 prog w) A (Builtin.«zip.__new__» ⟨[.type "zip",.ref l1,.ref l2],[]⟩) P E s:=by
 have fine:=sub_zip;obtain⟨hp,g,d,tk,os⟩:=s;have first:tH (Shared.heap ⟨hp,g,d,tk,os⟩) l1 xs:=t1
 have second: ∀o,tH (Shared.heap ⟨hp.push o,g,d,tk,os⟩) l2 ys:=λo=>Heap.IsTuple.push t2 o
 wp_walk using aM first,aM (second _)
 have size: ∀ (q:L6) o,(q.push o).objs.size=q.objs.size+1:=λq o=>cY ..
 have n2: ∀o1 o2,((hp.push o1).push o2).objs.size=hp.objs.size+2:=λ_ _=>by rw [size,size]
 have n3: ∀o1 o2 o3,(((hp.push o1).push o2).push o3).objs.size=hp.objs.size+3:=λ_ _ _=>by rw [size,n2]
 have n4: ∀o1 o2 o3 o4,((((hp.push o1).push o2).push o3).push o4).objs.size=hp.objs.size+4:=λ_ _ _ _=>by rw [size,n3]
 have up: ∀ {q:L6} {b o} o',q.get? b=some o->(q.push o').get? b=some o:=λo' e=>P7 o' e
 show P (.done (.ret (.ref (Heap.objs (((((hp.push _).push _).push _).push _))).size))) _;rw [n4];have at1:=T3 (hp.push {cls:= .type "tuple_iterator",data:= .fields #[.ref l1,.int 0 0]}) (o:= {cls:= .type "tuple_iterator",data:= .fields #[.ref l2,.int 0 0]}) rfl;rw [size] at at1;have top: ∀ (q:L6) (o:Obj) (m:G5),q.objs.size=m->o.isFreed=false->(q.push o).get? m=some o:=λq o m e f=>e ▸ T3 q f
 refine h _ hp.objs.size rfl ⟨.none,false,(top _ _ _ (n4 ..) rfl).trans ?_,.inl rfl⟩ ((up _ (up _ (top _ _ _ (n2 ..) rfl))).trans ?_) ⟨.none,.none,up _ (top _ _ _ (n3 ..) rfl)⟩ ⟨_,up _ (up _ (up _ (up _ (T3 _ rfl)))),rfl,rfl⟩ ⟨_,up _ (up _ (up _ at1)),rfl,rfl⟩ λb o e=>up _ (up _ (up _ (up _ (up _ e))))
 ·simp only [size,W5];rfl
 ·simp only [size];rfl
theorem DH {T newId initId:U1}{pos:G0 G7}{kw:G0 (Str×G7)}{Made:G7->P0->Prop}{Q:G7->P0->Prop}(ft:ID T newId initId)(fits:checkTypeCall T ⟨pos,kw⟩=pure ())
 (made:S6 (T4 prog w) A.in1 (call (.builtin newId) (.type T::pos) kw) Made E s)
 (begun: ∀o s₁,Made o s₁->s₁.TypeIs o T/\S6 (T4 prog w) A.in1 (tJ o "__init__" pos kw) (λr s₂=>r=some .none/\Q o s₂) E s₁):
 S6 (T4 prog w) A (call (.type T) pos kw) Q E s:=by
 have f1:=ft.notType;have f2:=ft.canCreate;have f3:=ft.made;have f4:=ft.sub;obtain⟨_,_,f5⟩:=ft.mro;have first:=λ{Q':G7->P0->Prop} (k: ∀o s₁,Made o s₁->Q' o s₁)=>N0 (E':=E) made k λ_ _ z=>z
 refine pV (o9 (D2 ⟨Code.quiet_builtin _ (by decide +kernel),codeAny_builtin F.entry_type_call ?_⟩));rw [Around.under_plain (weight_type_call_type T pos kw) (units_type_call_type T pos kw)]
 wp_walk using first
 intro o s₁ m;obtain⟨ty,then_⟩:=begun o s₁ m;refine wpAny_bind (oM (b:=true) ty f4 (wpAny_bind (K2 (N0 then_ (λr s₂ q=> ?_) λ_ _ z=>z))));obtain⟨rfl,q⟩:=q;exact D2 q
theorem GX {T newId:U1}{o:G7}{pos:G0 G7}{kw:G0 (Str×G7)}{Q:D4 G7->P0->Prop}(ft:ID T newId "object.__init__")(other:(some newId !=some "object.__new__")=true)(ty:s.TypeIs o T)
 (fits:argsOk "object.__init__" ⟨o::pos,kw⟩)(q:Q (some .none) s):S6 (T4 prog w) A (tJ o "__init__" pos kw) Q E s:=by
 have f1:=ft.init.lookup;have f2:=ft.made;refine K5 ty ft.init (wpAny_call_entry_kw ft.init ty F.entry_object_init ?_ fits);cases e:(!pos.isEmpty|| !kw.isEmpty)<;>(wp_walk;exact⟨_,rfl,q⟩)
theorem GY {l1 l2:P4}{xs ys:N8 G7}{Q:G7->P0->Prop}(t1:s.heap.IsTuple l1 xs)(t2:s.heap.IsTuple l2 ys)
 (h: ∀h' n,n=s.heap.objs.size->ZipAt h' (n+4) (n+2) (n+3)->X0 h' (n+2) (.ref n) (.ref (n+1))->(∃a b,X0 h' (n+3) a b)->h'.IsTupleIter n l1 0->h'.IsTupleIter (n+1) l2 0->
  (∀b o,s.heap.get? b=some o->h'.get? b=some o)->Q (.ref (n+4)) {s with heap:=h'}):S6 (T4 prog w) A (call (.type "zip") [.ref l1,.ref l2]) Q E s:=
 DH (Made:=λo s₁=>s₁.TypeIs o "zip" /\Q o s₁) tK (F.typeCall_zip_2 _ _)
  (pV (codeAny_call_builtin F.called_zip.plain F.entry_zip_new (tZ (F.newCall_zip_2 _ _) (OC t1 t2 λh' n en zp i o a b k=>⟨let ⟨_,_,e,_⟩:=zp;⟨_,e,rfl⟩,h h' n en zp i o a b k⟩))))
  λ_ _ ⟨ty,q⟩=>⟨ty,GX tK (by decide) ty (F.args_object_init_3 _ _ _) ⟨rfl,q⟩⟩
end
def Itz (K : G6) (a b : P4) : It :=
  ⟨fun i H => ∃ xs ys x y, SqT K H a xs ∧ SqT K H b ys ∧ xs[i]? = some x ∧ ys[i]? = some y,
   fun i H x H' => ∃ p v u, H p = none ∧ (∀ xs, SqT K H a xs → xs[i]? = some v) ∧ (∀ ys, SqT K H b ys → ys[i]? = some u) ∧ x = .ref p ∧ H' = upd H p (.tup [v, u]),
   fun i H => ∃ xs ys, SqT K H a xs ∧ SqT K H b ys ∧ (xs.length ≤ i ∨ ys.length ≤ i)⟩
theorem GZ {Q:D4 G7->P0->Prop}{E:G7->P0->Prop}{s:P0}{z TI TO i1 i2 l1 l2:P4}{xs ys:N8 G7}(calm:A.handled=none)(ap:ZApart z TI TO i1 i2)(n1:l1 ∉ [z,TO,i1,i2])(n2:l2 ∉ [z,TO,i1,i2])(i12:i1≠i2)
 (Z:ZipAt s.heap z TI TO)(hTI:X0 s.heap TI (.ref i1) (.ref i2))(hTO: ∃a b,X0 s.heap TO a b)(t1:s.heap.IsTuple l1 xs)(t2:s.heap.IsTuple l2 ys)(at1:s.heap.IsTupleIter i1 l1 i)(at2:s.heap.IsTupleIter i2 l2 i)
 (pair: ∀x y h' tk,xs[i]? =some x->ys[i]? =some y->(∀b o,b ∉ [z,TO,i1,i2]->s.heap.get? b=some o->h'.get? b=some o)->X0 h' s.heap.objs.size x y->ZipAt h' z TI TO->X0 h' TI (.ref i1) (.ref i2)->(∃a b,X0 h' TO a b)->
  h'.IsTupleIter i1 l1 (i+1)->h'.IsTupleIter i2 l2 (i+1)->Q (some (.ref s.heap.objs.size)) {s with heap:=h',toks:=tk})
 (ended:(xs.size<=i\/ys.size<=i)-> ∀h' tk,(∀b o,b ∉ [z,TO,i1,i2]->s.heap.get? b=some o->h'.get? b=some o)->Q none {s with heap:=h',toks:=tk}):S6 (T4 prog w) A (pS (.ref z)) Q E s:=by
 have sub: ∀ {b:P4} {W:G0 P4},b ∉ [z,TO,i1,i2]->(∀c∈W,c∈ [z,TO,i1,i2])->b ∉ W:=λn m q=>n (m _ q)
 have z': ∀c∈ [z],c∈ [z,TO,i1,i2]:=by simp
 have o': ∀c∈ [TO],c∈ [z,TO,i1,i2]:=by simp
 have a': ∀c∈ [i1],c∈ [z,TO,i1,i2]:=by simp
 have b': ∀c∈ [i2],c∈ [z,TO,i1,i2]:=by simp
 have zo: ∀c∈ [z,TO],c∈ [z,TO,i1,i2]:=by simp
 refine OB Z (CH ap Z hTI hTO λh₁ off₁ isz=> ?_);have u1:h₁.IsTuple l1 xs:=t1.at λo e=>off₁.2 _ _ (sub n1 z') e
 have v1:h₁.IsTupleIter i1 l1 i:=at1.at λo e=>off₁.2 _ _ (by simp [ap.z1.symm]) e
 have stop: ∀ {h h':L6} {it e:P4},z≠it->oW it h h'->(∃o,h.get? z=some o/\o.cls= .type "zip")->(∃o,h'.get? e=some o/\o.cls= .type "StopIteration")->e≠z:=λnz x ⟨o,e1,c1⟩ ⟨o2,e2,c2⟩ q=>by
  subst q;rw [x _ _ nz e1] at e2;cases e2;rw [c1] at c2;simp at c2
 cases hx:xs[i]? with
 |none=>
  refine wH (s:= {s with heap:=h₁}) calm v1 u1 hx λh' e grown st=>⟨λo q=>grown _ _ ap.z1 q,λh2 k=>⟨?_,ended (.inl (gB.mp hx)) _ _ λb o n q=>k _ _ (λy=>sub n z' (by simp [y])) (grown _ _ (λy=>sub n a' (by simp [y])) (off₁.2 _ _ (sub n z') q))⟩⟩
  have ne:=stop ap.z1 grown isz st;obtain⟨o,q,c⟩:=st;exact⟨o,k _ _ ne q,c⟩
 |some x=>
  refine WL (s:= {s with heap:=h₁}) v1 u1 hx λh1' w1 same₁=>⟨.of same₁ (by simp),λh₂ off₂=> ?_⟩
  have all: ∀ {b o},b ∉ [z,TO,i1,i2]->s.heap.get? b=some o->h₂.get? b=some o:=λn e=>off₂.2 _ _ (sub n o') (same₁.extBut _ _ (λy=>sub n a' (by simp [y])) (off₁.2 _ _ (sub n z') e))
  have u2:h₂.IsTuple l2 ys:=t2.at λo e=>all n2 e
  have v2:h₂.IsTupleIter i2 l2 i:=at2.at λo e=>off₂.2 _ _ (by simp [ap.O2.symm]) (same₁.extBut _ _ i12.symm (off₁.2 _ _ (by simp [ap.z2.symm]) e))
  have w2:h₂.IsTupleIter i1 l1 (i+1):=w1.at λo e=>off₂.2 _ _ (by simp [ap.O1.symm]) e
  have isz2: ∃o,h₂.get? z=some o/\o.cls= .type "zip" :=let ⟨o,e,c⟩:=isz;⟨o,off₂.2 _ _ (by simp [ap.zO]) (same₁.extBut _ _ ap.z1 e),c⟩;cases hy:ys[i]? with
  |none=>
   refine wH (s:= {s with heap:=h₂}) calm v2 u2 hy λh' e grown st=>⟨λo q=>grown _ _ ap.z2 q,λh3 k=>⟨?_,ended (.inr (gB.mp hy)) _ _ λb o n q=>k _ _ (λy=>sub n z' (by simp [y])) (grown _ _ (λy=>sub n b' (by simp [y])) (all n q))⟩⟩
   have ne:=stop ap.z2 grown isz2 st;obtain⟨o,q,c⟩:=st;exact⟨o,k _ _ ne q,c⟩
  |some y=>
   refine WL (s:= {s with heap:=h₂}) v2 u2 hy λh2' w3 same₂=>⟨.of same₂ (by simp),λh₃ kept new zip its out=> ?_⟩
   have size:h2'.objs.size=s.heap.objs.size:=by rw [same₂.1,off₂.1,same₁.1,off₁.1]
   have done:=pair x y h₃ s.toks hx hy (λb o n e=>kept _ _ (sub n zo) (same₂.extBut _ _ (λy=>sub n b' (by simp [y])) (all n e))) (size ▸ new) zip its out
    (w2.at λo e=>kept _ _ (by simp [ap.z1.symm,ap.O1.symm]) (same₂.extBut _ _ i12 e)) (w3.at λo e=>kept _ _ (by simp [ap.z2.symm,ap.O2.symm]) e)
   rw [<-size] at done;exact done
theorem Np (n:G5):ZApart (n+4) (n+2) (n+3) n (n+1):=by
 have d: ∀ {i j:G5},i≠j->n+i≠n+j:=λh q=>h (Nat.add_left_cancel q)
 exact⟨d (j:=0) (by decide),d (by decide),d (by decide),d (by decide),d (j:=0) (by decide),d (by decide),d (by decide),d (j:=0) (by decide),d (by decide)⟩
theorem Pa {c:G5}(h:c<n):c ∉ [n+4,n+3,n,n+1]:=by
 simp only [T6,A8,or_false,not_or];omega
theorem OD {c:G5}(h:c∈ [n+4,n+2,n+3,n,n+1]):n<=c:=by
 simp only [T6,A8,or_false] at h;omega
theorem Mg {E:G7->P0->Prop}{s:P0}{z TI TO:P4}{Q:G7->P0->Prop}(Z:ZipAt s.heap z TI TO)(h:Q (.ref z) s):S6 (T4 prog w) A (pT (.ref z)) Q E s:=by
 obtain⟨_,_,hz,_⟩:=Z;have ty:s.TypeIs (.ref z) "zip" :=⟨_,hz,rfl⟩;exact wpAny_pyIter_slot ty pH (A7 pH ty F.entry_zip_iter (D2 ⟨_,rfl,_,_,ty,F.slot_zip_next.lookup,h⟩) (F.args_zip_iter_1 _))
theorem OE {P:M0}(tg:T1)(l1 l2 z TI TO i1 i2:P4)(ap:ZApart z TI TO i1 i2)(n1:l1 ∉ [z,TO,i1,i2])(n2:l2 ∉ [z,TO,i1,i2])(i12:i1≠i2):
 Turn P w K tg (Itz K l1 l2) [z,TI,TO,i1,i2] z (λi h=>ZipAt h z TI TO/\X0 h TI (.ref i1) (.ref i2)/\(∃a b,X0 h TO a b)/\h.IsTupleIter i1 l1 i/\h.IsTupleIter i2 l2 i):=by
 have inW: ∀ {b:P4},b ∉ [z,TI,TO,i1,i2]->b ∉ [z,TO,i1,i2]:=λn q=>n (by simp only [T6] at q ⊢;rcases q with q|q|q|q|q<;>simp [q] at*)
 have there: ∀ {i:G5} {h:L6},(ZipAt h z TI TO/\X0 h TI (.ref i1) (.ref i2)/\(∃a b,X0 h TO a b)/\h.IsTupleIter i1 l1 i/\h.IsTupleIter i2 l2 i)-> ∀b∈ [z,TI,TO,i1,i2],∃o,h.get? b=some o/\ ∀v,o.data≠ .cell v:=λ⟨⟨_,_,a1,_⟩,a2,⟨_,_,a3⟩,⟨o4,a4,_,d4⟩,⟨o5,a5,_,d5⟩⟩ b hb=>by
  simp only [T6,A8,or_false] at hb;rcases hb with e|e|e|e|e<;>subst e
  ·exact⟨_,a1,λv z=>by cases z⟩
  ·exact⟨_,a2,λv z=>by cases z⟩
  ·exact⟨_,a3,λv z=>by cases z⟩
  ·exact⟨o4,a4,λv z=>by rw [d4] at z;cases z⟩
  ·exact⟨o5,a5,λv z=>by rw [d5] at z;cases z⟩
 refine⟨by simp,λi h st=>there st,λi h h' ⟨⟨f,b,a1,qf⟩,a2,⟨x,y,a3⟩,a4,a5⟩ q=>⟨⟨f,b,q z (by simp) _ a1,qf⟩,q TI (by simp) _ a2,⟨x,y,q TO (by simp) _ a3⟩,a4.at λo e=>q i1 (by simp) o e,a5.at λo e=>q i2 (by simp) o e⟩,?_,?_,λ_ _ _ _ _ st h=>Mg st.1 h⟩
 ·intro X hP hw hK hc i pins s σ H E I hf st hg;subst hP hw hK;obtain⟨xs,ys,x,y,hq,hq2,hx,hy⟩:=hg;obtain⟨its,rv,p,_⟩:=I.tuple hq;obtain⟨jts,rw',p2,_⟩:=I.tuple hq2;obtain⟨u,hu,ru⟩:=rv.get hx;obtain⟨v,hv,rv'⟩:=rw'.get hy;obtain⟨a1,a2,a3,a4,a5⟩:=id st;have lt: ∀b∈ [z,TI,TO,i1,i2],b≠s.heap.objs.size:=λb hb=>let ⟨_,e,_⟩:=there st b hb;M9 (S0 e)
  have l1':i<its.toArray.size:=by have:=(P8.mp hu).1;simpa using this
  have l2':i<jts.toArray.size:=by have:=(P8.mp hv).1;simpa using this
  refine GZ (I.ok.hd hc) ap n1 n2 i12 a1 a2 a3 p p2 a4 a5 (λx' y' h' tk hx' hy' kept new zip it out w1 w2=>⟨_,rfl,?_⟩) λends=>absurd ends (by omega)
  have ex:x'=u:=by simp only [k9] at hx';rw [hu] at hx';cases hx';rfl
  have ey:y'=v:=by simp only [k9] at hy';rw [hv] at hy';cases hy';rfl
  subst ex ey;refine SS (s:= {s with heap:=h',toks:=tk}) zip λh2 zip2 off=> ?_
  have hn:H s.heap.objs.size=none:=I.hok.fresh (P5 _);have nz: ∀ {b},b≠z->b ∉ [z]:=λh=>by simpa using h
  have T2:X0 h2 s.heap.objs.size x' y':=off.2 _ _ (nz (lt z (by simp)).symm) new;refine⟨.ref s.heap.objs.size,upd H s.heap.objs.size (.tup [x,y]),?_,rfl,⟨_,x,y,hn,λws hw=>by rw [I.tuple_inj hw hq];exact hx,λws hw=>by rw [I.tuple_inj hw hq2];exact hy,rfl,rfl⟩,
   ⟨zip2,off.2 _ _ (nz ap.zI.symm) it,let ⟨a,b,e⟩:=out;⟨a,b,off.2 _ _ (nz ap.zO.symm) e⟩,w1.at λo e=>off.2 _ _ (nz ap.z1.symm) e,w2.at λo e=>off.2 _ _ (nz ap.z2.symm) e⟩,λb hb=> ?_⟩
  ·refine I.turnLaid (h':=h2) (t':=tk) (ch:= [z,TI,TO,i1,i2]) (λb u hb q=>off.2 _ _ (λy=>inW hb (by simp only [P1] at y;simp [y])) (kept b u (inW hb) q)) hf (P5 _) ⟨by show 2<=sizeLine;decide,[x',y'],.cons ru (.cons rv' .nil),⟨_,T2,rfl,rfl,_,rfl⟩⟩
  ·rw [jt (lt b hb)];exact(hf b hb).1
 ·intro X hP hw hK hc i pins s σ H E I hf st hg;subst hP hw hK;obtain⟨xs,ys,hq,hq2,hl⟩:=hg;obtain⟨its,rv,p,_⟩:=I.tuple hq;obtain⟨jts,rw',p2,_⟩:=I.tuple hq2;have e1:=rv.length;have e2:=rw'.length;obtain⟨a1,a2,a3,a4,a5⟩:=id st;refine GZ (I.ok.hd hc) ap n1 n2 i12 a1 a2 a3 p p2 a4 a5 (λx' y' h' tk hx' hy' _ _ _ _ _ _ _=> ?_) λ_ h' tk kept=>⟨rfl,I.turnL (ch:= [z,TI,TO,i1,i2]) (λb o hb q=>kept b o (inW hb) q) hf⟩
  have b1:=(gC.mp hx').1;have b2:=(gC.mp hy').1;simp only [R9] at b1 b2;omega
section
variable {X:Cx}
def jao (K:G6)(ta:TA):TI:=λσ H R=>ta σ H λvs H1=> ∃a b,vs= [.ref a,.ref b]/\(∃xs,SqT K H1 a xs)/\(∃ys,SqT K H1 b ys)/\R (Itz K a b) H1
theorem ko {tg:T1}{a b:T1}{ta:TA}{p pos:Pos}(hg:Gl X "zip")(hm:X.mg "zip" =none)(ha:PA X [a,b] ta)(hs:D6 [a,b] X.env= [(false,O5 a X.env),(false,O5 b X.env)]:=by rfl)(hs2:D6 [b] X.env= [(false,O5 b X.env)]:=by rfl):
 PI X tg (.Call (.Name "zip" p) [a,b] [] pos) (jao X.K ta):=by
 intro pins s σ H R I h;refine tX (ZX I hg hm boot_zip (O8 (thn (ha pos pins s σ H _ I h) λus s1 ⟨vs,H1,I1,r1,q1⟩=> ?_) (by rw [hs,hs2]) (by rw [hs2];rfl)));obtain⟨a,b,e,⟨xs,hq⟩,⟨ys,hq2⟩,q⟩:=q1;subst e;cases r1 with
 |cons r rr=>
  cases rr with
  |cons r' rr=>
   cases rr;cases r;cases r';obtain⟨its,rv,p,_⟩:=I1.tuple hq;obtain⟨jts,rw',p2,_⟩:=I1.tuple hq2;have la:a<s1.heap.objs.size:=by obtain⟨o,ho,_⟩:=p;exact S0 ho
   have lb:b<s1.heap.objs.size:=by obtain⟨o,ho,_⟩:=p2;exact S0 ho
   refine GY (show s1.heap.IsTuple a its.toArray from p) (show s1.heap.IsTuple b jts.toArray from p2) λh' n en z1 z2 z3 z4 z5 hk=> ?_
   subst en;refine Mg z1 ⟨s1.heap.objs.size+4,[s1.heap.objs.size+4,s1.heap.objs.size+2,s1.heap.objs.size+3,s1.heap.objs.size,s1.heap.objs.size+1],_,_,H1,rfl,I1.kept (t':=s1.toks) hk,
    OE _ a b _ _ _ _ _ (Np _) (Pa la) (Pa lb) (M9 (J1 _)),⟨z1,z2,z3,z4,z5⟩,λc hc=> ?_,q⟩
   have hb':s1.heap.objs.size<=c:=OD hc;exact I1.fpOk hb' (I1.hok.fresh hb')
end
def Bf (ds es:G0 D):G0 D:=(ds.zip es).map λp=> .tup [p.1,p.2]
def iZ (ta:TAD):TID:=λσ h R=>ta σ h λxs h1=> ∃ds es,xs= [.tup ds,.tup es]/\R (λ_=>some (Bf ds es)) h1
theorem OF {ds es:G0 D}{d:D}(h:(Bf ds es)[i]? =some d): ∃x y,ds[i]? =some x/\es[i]? =some y/\d= .tup [x,y]:=by
 unfold Bf at h;rw [P9] at h;cases q:(ds.zip es)[i]? with
 |none=>rw [q] at h;cases h
 |some p=>
  rw [q] at h;obtain⟨x,y⟩:=p;rw [List.getElem?_zip_eq_some] at q;exact⟨x,y,q.1,q.2,(C1 h).symm⟩
section
variable {K:G6}
theorem OG {H:Hp}{a b:P4}{vs us:G0 V}{ds es:G0 D}(hv:H a=some (.tup vs))(r:RelDs K H ds vs)(hu:H b=some (.tup us))(ru:RelDs K H es us):Oe K H (λ_=>some (Bf ds es)) (Itz K a b):=λH' h' k rh ds' e i=>by
 cases e;have hv':=k.tup _ _ hv;have hu':=k.tup _ _ hu;have r':=r.mono k;have ru':=ru.mono k;refine⟨λd hd=> ?_,λhl=>⟨vs,us,SqT.of hv',SqT.of hu',?_⟩⟩
 ·obtain⟨x,y,hx,hy,ed⟩:=OF hd;subst ed;obtain⟨v,e1,e2⟩:=r'.get hx;obtain⟨u,e3,e4⟩:=ru'.get hy;refine⟨⟨vs,us,v,u,SqT.of hv',SqT.of hu',e1,e3⟩,λx' H'' ⟨p,v',u',hp,hx',hy',ex,eH⟩=> ?_⟩;subst ex eH;have ev:v'=v:=by have:=hx' vs (SqT.of hv');rw [e1] at this;exact(C1 this).symm
  have eu:u'=u:=by have:=hy' us (SqT.of hu');rw [e3] at this;exact(C1 this).symm
  subst ev eu;have k2:Kept H' (upd H' p (.tup [v',u'])):= .new hp;exact⟨k2,RelH.new rh hp,p,[v',u'],rfl,jw,_,_,rfl,e2.mono k2,_,_,rfl,e4.mono k2,rfl⟩
 ·have l1:=r.length;have l2:=ru.length;unfold Bf at hl;rw [G1,cF] at hl;omega
theorem kq {ta:TAD}: ∀σ H R,LI K (iZ ta) σ H R->jao K (LA K ta) σ H R:=λσ H R ⟨σd,h,Rd,rs,rh,q,p⟩=>
 LA.bind rs rh q λds vs h1 H1 k1 rs1 rh1 r1 ⟨es,fs,e,q1⟩=>by
  subst e;obtain⟨v,w,e,r2,r3⟩:=wJ r1;obtain⟨a,ws,e',hv,r⟩:=(show ∃a vs,v= .ref a/\H1 a=some (.tup vs)/\RelDs K H1 es vs from r2);obtain⟨b,us,e'',hu,r'⟩:=(show ∃a vs,w= .ref a/\H1 a=some (.tup vs)/\RelDs K H1 fs vs from r3);subst e' e'';exact⟨a,b,e,⟨ws,SqT.of hv⟩,⟨us,SqT.of hu⟩,p _ _ _ _ k1 rh1 (OG hv r hu r') q1⟩
end
section
variable {X:Cx}
theorem CI {tg:T1}{a b:T1}{ta:TAD}{p pos:Pos}(hg:Gl X "zip")(hm:X.mg "zip" =none)(ha:JA X [a,b] ta)(hs:D6 [a,b] X.env= [(false,O5 a X.env),(false,O5 b X.env)]:=by rfl)(hs2:D6 [b] X.env= [(false,O5 b X.env)]:=by rfl):
 JI X tg (.Call (.Name "zip" p) [a,b] [] pos) (iZ ta):=⟨(ko hg hm ha.to hs hs2).imp kq⟩
end
def inE (neg:T9):RD2:=λx y h Q=> ∃ (p:W3) (ps:G0 W3),ToP h x p/\(ToP h y (.list ps)\/ToP h y (.tuple ps))/\p.canLay0=true/\E6 ps=true/\p.depth<=60/\Q (.bl (neg !=ps.any λz=>F5 z p)) h
section
variable {X:Cx}
theorem CJ (hu:X.A.units+64<cLine):OpQ X (N9 .In) (inE false):=by
 intro pins s σ H x y v u Q I rx ry h;obtain⟨dx,dy,h,Qd,r1,r2,rh,⟨p,ps,t1,t2,c1,c2,c3,qq⟩,post⟩:=h;obtain⟨as,a1⟩:=wD I rh t1 r1 rx;have hu':X.A.units+1+min (A6 ps) p.depth<cLine:=by have:=aF (A6 ps) p.depth;omega
 have q':Qd (.bl (ps.any λz=>F5 z p)) h:=by simpa using qq
 rcases t2 with t2|t2
 ·obtain⟨bs,b1⟩:=wD I rh t2 r2 ry;exact in_list_reads b1 a1 c2 c1 hu' ⟨.bl _,H,I,rfl,post (.bl _) _ _ _ (.refl H) rh rfl q'⟩
 ·obtain⟨bs,b1⟩:=wD I rh t2 r2 ry;exact in_tuple_reads b1 a1 c2 c1 hu' ⟨.bl _,H,I,rfl,post (.bl _) _ _ _ (.refl H) rh rfl q'⟩
theorem Qu (hu:X.A.units+64<cLine):OpQ X (N9 .NotIn) (inE true):=by
 intro pins s σ H x y v u Q I rx ry h;obtain⟨dx,dy,h,Qd,r1,r2,rh,⟨p,ps,t1,t2,c1,c2,c3,qq⟩,post⟩:=h;obtain⟨as,a1⟩:=wD I rh t1 r1 rx;have hu':X.A.units+1+min (A6 ps) p.depth<cLine:=by have:=aF (A6 ps) p.depth;omega
 have q':Qd (.bl (!ps.any λz=>F5 z p)) h:=by simpa using qq
 rcases t2 with t2|t2
 ·obtain⟨bs,b1⟩:=wD I rh t2 r2 ry;exact notIn_list_reads b1 a1 c2 c1 hu' ⟨.bl _,H,I,rfl,post (.bl _) _ _ _ (.refl H) rh rfl q'⟩
 ·obtain⟨bs,b1⟩:=wD I rh t2 r2 ry;exact notIn_tuple_reads b1 a1 c2 c1 hu' ⟨.bl _,H,I,rfl,post (.bl _) _ _ _ (.refl H) rh rfl q'⟩
theorem Mh {neg:T9}{i:G8}{ns:G0 G8}{h:HD}{Q:KD}(q:Q (.bl (neg !=decide (i∈ns))) h):inE neg (.int i) (.tup (ns.map D.int)) h Q:=by
 refine⟨.int i,ns.map .int,rfl,.inr ⟨_,rfl,wK h ns⟩,rfl,yo ns,by simp [bM],?_⟩;have e:((ns.map aN).any λz=>F5 z (.int i))=decide (i∈ns):=by
  rw [B8,fI,U4,K1];constructor
  ·rintro ⟨x,hx,e⟩;have e':(x==i)=true:=e;have:x=i:=by simpa using e'
   rw [<-this];exact hx
  ·intro hi;exact⟨i,hi,show (i==i)=true by simp⟩
 rw [e];exact q
end
def ql (i:G5)(f:G8->G8->G8)(te:TED):TSD:=λD σ h=> ∃x:G8,σ[i]? =some (some (.int x))/\te σ h λy h1=> ∃j:G8,y= .int j/\D.nx (σ.set i (some (.int (f x j)))) h1
theorem Ef {f:G8->G8->G8}: ∀D σ H,LS K (ql i f te) D σ H->qM i (LE K te) (ipI f) D σ H:=λD σ H ⟨σd,h,Dd,rs,rh,⟨x,hx,q⟩,nx,rt,bk,ct⟩=>by
 obtain⟨v,e1,r1⟩:=rs.2 i _ hx;cases (show v= .int x from r1);exact⟨_,e1,LE.bind rs rh q λd u h1 H1 k1 rs1 rh1 r1 ⟨j,e,q1⟩=>by
  subst e;cases (show u= .int j from r1);exact⟨x,j,rfl,rfl,nx _ _ _ _ k1 (rs1.set (d:= .int (f x j)) rfl i) rh1 q1⟩⟩
section
variable {X:Cx}{i:G5}{x:Str}{e:T1}{te:TED}{pos pos':Pos}
theorem CK (hN:X.N.Nodup)(hi:X.N[i]? =some x)(hx:Loc X.env.scope x)(he:JE X e te)(hf:X.fn x=true\/X.env.scope.names.lookup x=some .local:=by first|exact .inl rfl|exact .inr rfl|assumption):JS X (.AugAssign (.Name x pos') .Add e pos) (ql i (λa b=>a+b) te):=⟨(AL hN hi hx he.to HA hf).imp Ef⟩
theorem ST (hN:X.N.Nodup)(hi:X.N[i]? =some x)(hx:Loc X.env.scope x)(he:JE X e te)(hf:X.fn x=true\/X.env.scope.names.lookup x=some .local:=by first|exact .inl rfl|exact .inr rfl|assumption):JS X (.AugAssign (.Name x pos') .Sub e pos) (ql i (λa b=>a-b) te):=⟨(AL hN hi hx he.to HB hf).imp Ef⟩
end
theorem OH {X:Cx}(hu:X.A.units+64<cLine):MtM X "list.index" (λx vs H Q=> ∃ (a:P4) (y:V) (dy:D) (h:HD) (p:W3) (ps:G0 W3) (j:G5) (z:W3),x= .ref a/\vs= [y]/\RelD X.K H dy y/\RelH X.K h H/\ToP h (.lst a) (.list ps)/\ToP h dy p/\p.canLay0=true/\E6 ps=true/\p.depth<=60/\j<1000000/\ps[j]? =some z/\F5 z p=true/\(∀m y,m<j->ps[m]? =some y->F5 y p=false)/\Q (.int (j:G8)) H):=by
 intro pins s σ H x vs v us Q I rx rv h;obtain⟨a,y,dy,h,p,ps,j,z,rfl,rfl,rd,rh,t1,t2,c1,c2,c3,hj,hz,hit,hno,q⟩:=h;cases rx;obtain⟨u,rfl,ru⟩:=ZY rv;obtain⟨a',ds,ea,ha,ts⟩:=(show ∃a' ds,D.lst a= .lst a'/\h a'=some ds/\ToPs h ds ps from t1);cases ea;obtain⟨ws,hH,_⟩:=rh a ds ha;obtain⟨as,r1⟩:=wD I rh t1 (show RelD X.K H (.lst a) (.ref a) from ⟨rfl,ws,hH⟩) (show RelV (.ref a) (.ref a) from rfl);obtain⟨bs,r2⟩:=wD I rh t2 rd ru;cases r1 with
 |list h1 h2 h3 h4=>
  rename_i o its n cs;have em:=readsAll_map ps _ _ c2 h4;have gm: ∀m (hm:m<its.size),ps[m]? =some (readOf s.heap its[m]):=λm hm=>by
   rw [<-em,P9,F4,Array.getElem?_eq_getElem hm];rfl
  have hlen:its.size=ps.length:=by rw [<-em,G1,C7]
  have hjs:j<its.size:=by rw [hlen];exact(P8.mp hz).1
  have hu':X.A.units+1+min (A6 ps) p.depth<cLine:=by have:=aF (A6 ps) p.depth;omega
  obtain⟨oc,od,odt,osl⟩:=o;simp only at h2 h3;subst h2 h3;refine fX F.slot_list_index ⟨_,h1,rfl⟩ F.entry_list_index (F.args_list_index_2 _ _) (list_indexAt a its n od osl u (λy=>F5 (readOf s.heap y) p) j hjs (by omega) ?_ ?_) ⟨h1,items_eqAt h4 r2 c2 c1 hu',?_⟩
  ·have:=gm j hjs;rw [hz] at this;injection this with this
   rw [<-this];exact hit
  ·intro m hm hmj;exact hno m _ hmj (gm m hm)
  ·exact⟨.int (j:G8),H,I.tok _,⟨_,rfl⟩,q⟩
def jbh (to te:TED):TED:=λσ h Q=>to σ h λx h1=> ∃a,x= .lst a/\te σ h1 λy h2=> ∃ (p:W3) (ps:G0 W3) (j:G5) (z:W3),ToP h2 (.lst a) (.list ps)/\ToP h2 y p/\p.canLay0=true/\E6 ps=true/\p.depth<=60/\j<1000000/\ps[j]? =some z/\F5 z p=true/\(∀m y,m<j->ps[m]? =some y->F5 y p=false)/\Q (.int (j:G8)) h2
section
variable {X:Cx}{o e i:T1}{to te ti:TED}{apos cpos:Pos}
theorem jap (hu : X.A.units + 64 < cLine) (ho : JE X o to) (he : JE X e te) (hbase : W4 o "index" X.env (O5 o X.env) = O5 o X.env := by rfl)
    (hfew : ((E7 cpos (D6 [e] X.env)).all (fun x => !x.1) && (dW cpos (aH [] X.env)).all (fun x => x.1.isSome) && decide ([e].length + ([] : G0 Y1).length + (if ([] : G0 Y1).isEmpty then 0 else 1) < 30)) = true := by rfl)
    (hline : (apos.endLine == cpos.line) = true := by rfl) (hs : D6 [e] X.env = (false, O5 e X.env) :: D6 [] X.env := by rfl) (hplain : (E7 cpos (D6 [] X.env)).any (·.1) = false := by rfl) :
    JE X (.Call (.Attribute o "index" apos) [e] [] cpos) (jbh to te) :=
  ⟨(EM cQ sM sN (OH hu) ho.to (Jj he.to pa_nil hs) hbase hfew hline hs hplain).imp
    fun σ H Q ⟨σd, h, Qd, rs, rh, t, p⟩ => LE.bind rs rh t fun d v h1 H1 k1 rs1 rh1 r1 ⟨a, e, q⟩ => by
      subst e
      obtain ⟨e1, vs, hH⟩ := (show v = .ref a ∧ ∃ vs, H1 a = some (.lst vs) from r1)
      subst e1
      refine ⟨.inl ⟨rfl, vs, SqL.of hH⟩, ?_⟩
      refine LE.bind rs1 rh1 q fun y u h2 H2 k2 rs2 rh2 r2 ⟨pd, ps, j, z, t1, t2, c1, c2, c3, hj, hz, hit, hno, q2⟩ => ?_
      exact ⟨a, u, y, h2, pd, ps, j, z, rfl, rfl, r2, rh2, t1, t2, c1, c2, c3, hj, hz, hit, hno, p (.int _) _ _ _ (k1.trans k2) rh2 rfl q2⟩⟩
end
theorem SU {js:G0 G5}{ta:TAD}{tt:TTD}{h1:HD}(n:G5)(W:G5->G0 D->HD->Prop)(hn:n<=1000)(ht: ∀R:G0 D->HD->Prop,R [.int (n:G8)] h1->ta σ h R)
 (w0:W 0 [] h1)(wl: ∀k ys h',W k ys h'->ys.length<=k)(turn: ∀k ys h',k<n->W k ys h'->tt ((jJ js σ).set i (some (.int (k:G8)))) h' λb h3=>if b=true then te ((jJ js σ).set i (some (.int (k:G8)))) h3 λy h4=> ∃h5,Sub h5 h4/\(k+1<=n/\W (k+1) (ys++ [y]) h5) else ∃h5,Sub h5 h3/\(k+1<=n/\W (k+1) ys h5))
 (done: ∀ys h',W n ys h'-> ∀p,h' p=none->Q (.lst p) (wB h' p ys)):vU (bN i) js (iR1 ta) tt te σ h Q:=by
 refine ht _ ⟨(n:G8),rfl,by omega,by omega,n,λk ys h'=>k<=n/\W k ys h',⟨N4 _,w0⟩,?_⟩;rintro k ys h' ⟨hk,w⟩;refine⟨T5 (wl k ys h' w) (S1 (ju (by omega))),_,rfl,by simp,λhl p hp=> ?_,λd hd=>⟨_,rfl,?_⟩⟩
 ·have:k=n:=by simp at hl;omega
  subst this;exact done _ _ w p hp
 ·obtain⟨hi',e⟩:=VE hd;have hk2:k<n:=by omega
  subst e;exact turn k ys h' hk2 w
section
variable {α:Type}{i i':G5}{js:G0 G5}{ti:TID}{te:TED}{σ:SD}{h:HD}{Q:KD}{j:ItD}
theorem jbi (xs:G0 α)(c c' g:α->D)(hz:xs.length<=1000)(hj:j h=some (xs.map λx=> .tup [c x,c' x]))(ht: ∀R:ItD->HD->Prop,R j h->ti σ h R)
 (he: ∀x∈xs,∀Q':KD,Q' (g x) h->te (((jJ js σ).set i (some (c x))).set i' (some (c' x))) h Q')(hq: ∀p,h p=none->Q (.lst p) (wB h p (xs.map g))):vU (b2 i i') js ti vT te σ h Q:=by
 refine ht _ ⟨xs.length,λk ys h'=>h'=h/\ys=(xs.take k).map g,⟨rfl,by simp⟩,?_⟩;rintro k ys h' ⟨rfl,rfl⟩;refine⟨by simp only [G1,T0];exact S1 (ju (by omega)),_,hj,by simp,λhl p hp=> ?_,λd hd=> ?_⟩
 ·rw [S5 (by simpa using hl)];exact hq p hp
 ·rw [P9] at hd;cases hx:xs[k]? with
  |none=>rw [hx] at hd;cases hd
  |some x=>
   rw [hx] at hd;cases hd;refine⟨_,⟨_,_,rfl,rfl⟩,?_⟩;unfold vT;dsimp only;rw [D8 rfl];refine he x (D0 hx) _ ⟨h',Sub.refl _,rfl,?_⟩;rw [N7,hx];simp
theorem OJ (xs:G0 α)(c c':α->D)(g:α->T9)(hz:xs.length<=1000)(hj:j h=some (xs.map λx=> .tup [c x,c' x]))(ht: ∀R:ItD->HD->Prop,R j h->ti σ h R)
 (he: ∀x∈xs,∀Q':KD,Q' (.bl (g x)) h->te (((jJ js σ).set i (some (c x))).set i' (some (c' x))) h Q')(hq:Q (.bl (xs.all g)) h):dCB BZ (zg (vU (b2 i i') js ti vT te) Zx) σ h Q:=by
 show vU (b2 i i') js ti vT te σ h (λx h1=>BZ [x] h1 Q);exact jbi xs c c' (λx=> .bl (g x)) hz hj ht he λp hp=>⟨p,xs.map g,rfl,by rw [jc,S2];rfl,by rw [zf hp,E4];exact hq⟩
end
def IsS (n:G5)(S:G0 G5):Prop:= ∃p:G5->T9,S=(G3 n).filter p
variable {S:G0 G5}
theorem IsS.lt (h:IsS n S){i:G5}(hi:i∈S):i<n:=by
 obtain⟨p,rfl⟩:=h;exact P6.mp (M7.mp hi).1
theorem IsS.len (h:IsS n S):S.length<=n:=by
 obtain⟨p,rfl⟩:=h;have:=O9 p (G3 n)
 rwa [P3] at this
theorem IsS.rise (h:IsS n S):S.Pairwise (· < ·):=by
 obtain⟨p,rfl⟩:=h;exact G0.pairwise_lt_range.filter p
def jE (n:G5)(T:G0 (G0 G8))(S:G0 G5):G0 G5:=(G3 n).filter λj=>S.any λi=>decide (ent T i j≠0)
theorem IsS.step (T:G0 (G0 G8))(S:G0 G5):IsS n (jE n T S):=⟨_,rfl⟩
def itF {α:Type}(f:α->α)(x:α):G5->α
 |0=>x
 |k+1=>f (itF f x k)
variable {α:Type}
theorem DI (f:α->α)(x:α)(a:G5): ∀b,itF f x (a+b)=itF f (itF f x a) b
 |0=>rfl
 |b+1=>by show f (itF f x (a+b))=f (itF f (itF f x a) b);rw [DI f x a b]
theorem Pb {α:Type}{f:α->α}{x:α}{p:G5}(e:itF f x (a+p)=itF f x a)(r:G5): ∀q,itF f x (a+p*q+r)=itF f x (a+r)
 |0=>by simp
 |q+1=>by
  have h1:a+p*(q+1)+r=(a+p)+(p*q+r):=by rw [i4];omega
  rw [h1,DI,e,<-DI,<-W5,Pb e r q]
theorem CL {α:Type}{f:α->α}{x:α}{m:G5}(e:itF f x m=itF f x a)(ha:a<m)(hk:a<=k):itF f x (a+(k-a)%(m-a))=itF f x k:=by
 have e':itF f x (a+(m-a))=itF f x a:=by rw [show a+(m-a)=m by omega];exact e
 have h:=Pb e' ((k-a)%(m-a)) ((k-a) / (m-a));have h2:=aS (k-a) (m-a);rw [show a+(m-a)*((k-a) / (m-a))+(k-a)%(m-a)=k by omega] at h;exact h.symm
theorem IsS.it (h:IsS n S): ∀k,IsS n (itF (jE n T) S k)
 |0=>h
 |_+1=>IsS.step _ _
theorem VT [DecidableEq α]: ∀ {l m:G0 α},l.Nodup->(∀x∈l,x∈m)->l.length<=m.length
 | [],_,_,_=>N4 _
 |a::l,m,nd,h=>by
  have hm:=h a R3;have h2:l.length<=(m.erase a).length:=VT (V7.mp nd).2 λx hx=>by
   have hxa:x≠a:=λe=>(V7.mp nd).1 (e ▸ hx)
   exact(dY hxa).mpr (h x (S3 _ hx))
  rw [b8 hm] at h2;have:=dF hm;simp only [R7];omega
def Xd:G5->G0 (G0 G5)
 |0=> [[]]
 |n+1=>Xd n++(Xd n).map (· ++ [n])
theorem Pc: ∀n,(Xd n).length=2^n
 |0=>rfl
 |n+1=>by
  show (Xd n++(Xd n).map (· ++ [n])).length=_;rw [P2,G1,Pc n,nO];omega
theorem VU (p:G5->T9): ∀n,(G3 n).filter p∈Xd n
 |0=>by simp [Xd]
 |n+1=>by
  rw [F7,A4];show _∈Xd n++(Xd n).map (· ++ [n]);cases e:p n with
  |true=>
   refine R1.mpr (.inr (R8.mpr ⟨_,VU p n,?_⟩));simp [e]
  |false=>
   refine R1.mpr (.inl ?_);have: [n].filter p= []:=by simp [e]
   rw [this,A2];exact VU p n
theorem OK (h6:n<=6){l:G0 (G0 G5)}(nd:l.Nodup)(hS: ∀S∈l,IsS n S):l.length<=64:=by
 have h:=VT nd (m:=Xd n) λS hs=>by obtain⟨p,rfl⟩:=hS S hs;exact VU p n
 rw [Pc] at h;exact T5 h (V0 (by decide) h6:2^n<=2^6)
def Dl (S:G0 G5):W3:=UW (zP S)
theorem VW (h:HD)(S:G0 G5):ToP h (jq S) (Dl S):=by rw [VN];exact⟨_,rfl,wK h _⟩
theorem VX (h:HD): ∀Ss:G0 (G0 G5),ToPs h (Ss.map jq) (Ss.map Dl)
 | []=>rfl
 |S::Ss=>⟨_,_,rfl,VW h S,VX h Ss⟩
theorem Zc (r:G0 G8):(UW r).canLay0=true:=by unfold UW;simp only [K3];exact yo r
theorem ZB: ∀Ss:G0 (G0 G5),E6 (Ss.map Dl)=true
 | []=>rfl
 |S::Ss=>by show (K3 (Dl S)&&_)=true;rw [ZB Ss];rw [show (Dl S).canLay0=true from Zc _];rfl
theorem VY (r:G0 G8):(UW r).depth<=2:=by unfold UW;simp only [bM];have:=Za r;omega
theorem XE: ∀a b:G0 G8,O3 (a.map aN) (b.map aN)=decide (a=b)
 | [],[]=>by simp [O3]
 | [],_::_=>by simp [O3]
 |_::_,[]=>by simp [O3]
 |x::a,y::b=>by
  show ((x==y)&&O3 (a.map .int) (b.map .int))=_;rw [XE a b,B8];simp
theorem CM (a b:G0 G8):F5 (UW a) (UW b)=decide (a=b):=XE a b
theorem CN {a b:G0 G5}(h:zP a=zP b):a=b:=by
 have:=congrArg (gD oN) h;unfold zP at this;simpa [S2,a7] using this
theorem Qw (a b:G0 G5):F5 (Dl a) (Dl b)=decide (a=b):=by
 unfold Dl;rw [CM,B8,K1,K1];exact⟨CN,λe=>by rw [e]⟩
theorem Nq (r:G0 G8):f8 (UW r)=true:=by
 unfold f8;rw [Zc,G9 (by have:=VY r;omega)];rfl
theorem SV {neg:T9}{Ss:G0 (G0 G5)}{a:P4}(ha:h a=some (Ss.map jq))(q:Q (.bl (neg !=decide (S∈Ss))) h):inE neg (jq S) (.lst a) h Q:=by
 refine⟨Dl S,Ss.map Dl,VW h S,.inl ⟨a,_,rfl,ha,VX h Ss⟩,Zc _,ZB Ss,T5 (VY _) (by decide),?_⟩;have e:((Ss.map Dl).any λz=>F5 z (Dl S))=decide (S∈Ss):=by
  rw [B8,fI,U4,K1];constructor
  ·rintro ⟨x,hx,e⟩;have:x=S:=by simpa [A1,Qw] using e
   rw [<-this];exact hx
  ·intro hi;exact⟨S,hi,by simp [A1,Qw]⟩
 rw [e];exact q
theorem SW {Ss:G0 (G0 G5)}{a:P4}(ha:h a=some (Ss.map jq))(hS:S∈Ss)(hl:Ss.length<=1000)(q:Q (.int ((Ss.idxOf S:G5):G8)) h):
 ∃ (p:W3) (ps:G0 W3) (j:G5) (z:W3),ToP h (.lst a) (.list ps)/\ToP h (jq S) p/\p.canLay0=true/\E6 ps=true/\p.depth<=60/\j<1000000/\ps[j]? =some z/\F5 z p=true/\(∀m y,m<j->ps[m]? =some y->F5 y p=false)/\Q (.int (j:G8)) h:=by
 have hj:=A9.mpr hS;refine⟨Dl S,Ss.map Dl,Ss.idxOf S,Dl S,⟨a,_,rfl,ha,VX h Ss⟩,VW h S,Zc _,ZB Ss,T5 (VY _) (by decide),by omega,?_,by rw [Qw,G9 rfl],λm y hm hy=> ?_,q⟩
 ·rw [P9,G2 hj,K4 hj];rfl
 ·rw [P9] at hy;have hml:m<Ss.length:=by omega
  rw [G2 hml] at hy;cases hy;rw [Qw];have:=i5 (p:=(· ==S)) (xs:=Ss) hm;simpa using this
theorem Wh {α:Type}{f:G5->α}{L:G5}(h:1<=L):atI ((G3 L).map f) (-1)=some (f (L-1)):=by
 unfold atI ixN;rw [G1,P3,D9 (by decide),D8 (by omega)];show ((G3 L).map f)[(-1+(L:G8)).toNat]? =_;rw [show (-1+(L:G8)).toNat=L-1 by omega,P9,C0 (by omega)];rfl
theorem VZ {α:Type}{f:G5->α}{L:G5}(h:i<L):atI ((G3 L).map f) (i:G8)=some (f i):=
 zK (by rw [P9,C0 h];rfl)
theorem CO (xs:G0 α):UV xs (some 1) none=xs.drop 1:=by
 unfold UV;cases xs with
 |nil=>simp
 |cons x xs=>simp [HT.sIx]
theorem CP (S:G0 G5):Bf (S.map λ(k:G5)=>D.int (k:G8)) (UV (S.map λ(k:G5)=>D.int (k:G8)) (some 1) none)=(S.zip (S.drop 1)).map λp=>D.tup [.int (p.1:G8),.int (p.2:G8)]:=by
 rw [CO];unfold Bf;rw [<-mO,List.zip_map,S2];rfl
theorem Mi: ∀ {S:G0 G5},S.Pairwise (· < ·)-> ∀p∈S.zip (S.drop 1),p.1<p.2
 | [],_,p,hp=>by simp at hp
 | [a],_,p,hp=>by simp at hp
 |a::b::l,h,p,hp=>by
  have h':=aO.mp h;rcases T6.mp (show p∈(a,b)::(b::l).zip ((b::l).drop 1) from hp) with e|e
  ·subst e;exact h'.1 b R3
  ·exact Mi h'.2 p e
theorem OL {js:G0 G5}{ta:TAD}{tt:TTD}{h1:HD}(n:G5)(W:G5->G0 D->HD->Prop)(hn:n<=1000)(ht: ∀R:G0 D->HD->Prop,R [.int (n:G8)] h1->ta σ h R)
 (w0:W 0 [] h1)(wl: ∀k ys h',W k ys h'->ys.length<=k)(turn: ∀k ys h',k<n->W k ys h'->tt ((jJ js σ).set i (some (.int (k:G8)))) h' λb h3=>if b=true then te ((jJ js σ).set i (some (.int (k:G8)))) h3 λy h4=> ∃h5,Sub h5 h4/\(k+1<=n/\W (k+1) (ys++ [y]) h5) else ∃h5,Sub h5 h3/\(k+1<=n/\W (k+1) ys h5))
 (done: ∀ys h',W n ys h'->Q (.tup ys) h'):dCB Zk (zg (vU (bN i) js (iR1 ta) tt te) Zx) σ h Q:=by
 show vU (bN i) js (iR1 ta) tt te σ h (λx h1=>Zk [x] h1 Q);exact SU n W hn ht w0 wl turn λys h' w p hp=>(show ∃zs,wB h' p ys p=some zs/\Q (.tup zs) (Xb (wB h' p ys) p) from ⟨_,jc,by rw [zf hp];exact done ys h' w⟩)
theorem IsS.more (h:IsS k S)(b:T9):IsS (k+1) (if b=true then S++ [k] else S):=by
 obtain⟨p,rfl⟩:=h;refine⟨λi=>if i=k then b else p i,?_⟩;rw [F7,A4];have e:(G3 k).filter (λi=>if i=k then b else p i)=(G3 k).filter p:=gS λi hi=>by
  rw [D9 (by have:=P6.mp hi;omega)]
 rw [e];cases b<;>simp
theorem IsS.nil (n:G5):IsS n []:=⟨λ_=>false,by simp⟩
structure Enc {α:Type}[DecidableEq α](e:α->D)(p:α->W3):Prop where
 to: ∀ (h:HD) a,ToP h (e a) (p a)
 lay: ∀a,(p a).canLay0=true
 dp: ∀a,(p a).depth<=60
 eq: ∀a b,F5 (p a) (p b)=decide (a=b)
section
variable {α:Type}[DecidableEq α]{e:α->D}{p:α->W3}
theorem Enc.tos (E:Enc e p)(h:HD): ∀as:G0 α,ToPs h (as.map e) (as.map p)
 | []=>rfl
 |a::as=>⟨_,_,rfl,E.to h a,E.tos h as⟩
theorem Enc.lays (E:Enc e p): ∀as:G0 α,E6 (as.map p)=true
 | []=>rfl
 |a::as=>by show (K3 (p a)&&_)=true;rw [E.lays as,E.lay a];rfl
theorem kr (E:Enc e p){neg:T9}{x:α}{as:G0 α}{a:P4}{h:HD}{Q:KD}(ha:h a=some (as.map e))(q: ∀b:T9,(b=true↔x∈as)->Q (.bl (neg !=b)) h):inE neg (e x) (.lst a) h Q:=by
 refine⟨p x,as.map p,E.to h x,.inl ⟨a,_,rfl,ha,E.tos h as⟩,E.lay x,E.lays as,E.dp x,q _ ?_⟩;rw [fI,U4];constructor
 ·rintro ⟨y,hy,z⟩;have:y=x:=by simpa [A1,E.eq] using z
  rw [<-this];exact hy
 ·intro hi;exact⟨x,hi,by simp [A1,E.eq]⟩
theorem ku (E:Enc e p){x:α}{as:G0 α}{a:P4}{h:HD}(ha:h a=some (as.map e))(hx:x∈as)(hl:as.length<=100000):
 ∃ (j:G5) (q:W3) (qs:G0 W3) (z:W3),as[j]? =some x/\ToP h (.lst a) (.list qs)/\ToP h (e x) q/\q.canLay0=true/\E6 qs=true/\q.depth<=60/\j<1000000/\qs[j]? =some z/\F5 z q=true/\(∀m y,m<j->qs[m]? =some y->F5 y q=false):=by
 have hj:=A9.mpr hx;have ex:as[as.idxOf x]? =some x:=by rw [G2 hj,K4 hj]
 refine⟨as.idxOf x,p x,as.map p,p x,ex,⟨a,_,rfl,ha,E.tos h as⟩,E.to h x,E.lay x,E.lays as,E.dp x,by omega,?_,by rw [E.eq,G9 rfl],λm y hm hy=> ?_⟩
 ·rw [P9,ex];rfl
 ·rw [P9] at hy;have hml:m<as.length:=by omega
  rw [G2 hml] at hy;cases hy;rw [E.eq];have:=i5 (p:=(· ==x)) (xs:=as) hm;simpa using this
end
theorem Jp: ∀a b:G0 (G0 G8),O3 (a.map UW) (b.map UW)=decide (a=b)
 | [],[]=>by simp [O3]
 | [],_::_=>by simp [O3]
 |_::_,[]=>by simp [O3]
 |x::a,y::b=>by
  show (F5 (UW x) (UW y)&&O3 (a.map UW) (b.map UW))=_;rw [Jp a b,CM,B8];simp
theorem jaq:Enc jh uM:=⟨SJ,λT=>by unfold uM;simp only [K3];exact VP T,λT=>by unfold uM;simp only [bM];have:=XC T;omega,Jp⟩
def mk1 (n:G5)(T:G0 (G0 G8))(M:G0 (G0 G8)):G0 (G0 G8):=jK n (Jm n M T)
def wP (n:G5)(T:G0 (G0 G8))(i:G5):G0 (G0 G8):=itF (mk1 n T) (jK n T) i
theorem CQ (n:G5)(T:G0 (G0 G8)): ∀i,∃M,wP n T i=jK n M
 |0=>⟨T,rfl⟩
 |_+1=>⟨_,rfl⟩
theorem Qx (n:G5)(T:G0 (G0 G8))(i:G5):Sq n 1 (wP n T i):=by
 obtain⟨M,e⟩:=CQ n T i;rw [e];exact Sq.mark M
theorem Wi (h:Sq n e T)(hn:n<=8): ∀i,wP n T i=jK n (zk n T (i+1))
 |0=>by
  show jK n T=jK n (Jm n (XB n) T);rw [Ma h hn]
 |i+1=>by
  show jK n (Jm n (wP n T i) T)=jK n (Jm n (zk n T (i+1)) T);rw [Wi h hn i,Vi (Sq.mark (n:=n) _) h,Vi (h.pow hn (i+1)) h,GW]
def RP (n:G5)(T:G0 (G0 G8))(k i j:G5):Prop:=ent (zk n T k) i j≠0
section
variable {n e:G5}{T:G0 (G0 G8)}
theorem wq (h:Sq n e T)(hn:n<=8)(a b:G5){i j:G5}(hi:i<n)(hj:j<n):RP n T (a+b) i j↔ ∃k,k<n/\RP n T a i k/\RP n T b k j:=by
 unfold RP;rw [pow_add h hn a b];exact wL (h.pow hn a) (h.pow hn b) hi hj
theorem Jq (h:Sq n e T)(hn:n<=8){c x:G5}(hx:x<n)(l:RP n T c x x): ∀q,RP n T (c*(q+1)) x x
 |0=>by rw [U8,Nat.mul_one];exact l
 |q+1=>by
  rw [i4];exact(wq h hn _ _ hx hx).mpr ⟨x,hx,Jq h hn hx l q,l⟩
theorem zn {i j:G5}(hi:i<n)(hj:j<n):RP n T 0 i j↔i=j:=by
 unfold RP;show ent (XB n) i j≠0↔_;unfold XB;rw [yH hi hj]
 by_cases z:i=j
 ·simp [z]
 ·simp [z]
theorem Mj (h:Sq n e T)(hn:n<=8): ∀ (m:G5) {i j:G5},i<n->j<n->RP n T m i j-> ∃v:G5->G5,v 0=i/\v m=j/\(∀t,t<=m->v t<n)/\ ∀t,t<m->RP n T 1 (v t) (v (t+1))
 |0,i,j,hi,hj,r=>by
  have:=(zn hi hj).mp r;exact⟨λ_=>i,rfl,this,λ_ _=>hi,λt ht=>by omega⟩
 |m+1,i,j,hi,hj,r=>by
  obtain⟨k,hk,r1,r2⟩:=(wq h hn m 1 hi hj).mp r;obtain⟨v,v0,vm,vl,vr⟩:=Mj h hn m hi hk r1;refine⟨λt=>if t<=m then v t else j,?_,?_,λt _=> ?_,λt ht=> ?_⟩
  ·simp [v0]
  ·show (if m+1<=m then v (m+1) else j)=j;rw [D9 (by omega)]
  ·show (if t<=m then v t else j)<n;split
   ·exact vl t (by assumption)
   ·exact hj
  ·show RP n T 1 (if t<=m then v t else j) (if t+1<=m then v (t+1) else j);rw [D8 (by omega)]
   by_cases z:t+1<=m
   ·rw [D8 z];exact vr t (by omega)
   ·rw [D9 z,show t=m by omega,vm];exact r2
theorem vE (h:Sq n e T)(hn:n<=8){m:G5}{v:G5->G5}(vl: ∀t,t<=m->v t<n)(vr: ∀t,t<m->RP n T 1 (v t) (v (t+1)))(a:G5): ∀b,a+b<=m->RP n T b (v a) (v (a+b))
 |0,hb=>(zn (vl a (by omega)) (vl a (by omega))).mpr rfl
 |b+1,hb=>(wq h hn b 1 (vl a (by omega)) (vl _ hb)).mpr ⟨v (a+b),vl _ (by omega),vE h hn vl vr a b (by omega),vr (a+b) (by omega)⟩
theorem Eg {n:G5}{v:G5->G5}(hv: ∀t,t<=n->v t<n): ∃a b,a<b/\b<=n/\v a=v b:=by
 by_cases z: ∃a b,a<b/\b<=n/\v a=v b
 ·exact z
 ·exfalso;have nd:((G3 (n+1)).map v).Nodup:=by
   unfold IE;rw [E5];refine List.Pairwise.imp_of_mem (λ{a b} _ hb hab=> ?_) (List.pairwise_lt_range (n:=n+1));intro e;exact z ⟨a,b,hab,by have:=P6.mp hb;omega,e⟩
  have:=VT nd (m:=G3 n) λx hx=>by
   obtain⟨t,ht,e⟩:=R8.mp hx;rw [<-e];exact P6.mpr (hv t (by have:=P6.mp ht;omega))
  simp at this;omega
theorem SX (h:Sq n e T)(h6:n<=6){m i j:G5}(hm:n<=m)(hi:i<n)(hj:j<n)(r:RP n T m i j):RP n T (m+60) i j:=by
 have hn:n<=8:=by omega
 obtain⟨v,v0,vm,vl,vr⟩:=Mj h hn m hi hj r;obtain⟨a,b,hab,hbn,eq⟩:=Eg (n:=n) (v:=v) λt ht=>vl t (by omega)
 have ha:=vl a (by omega);have p1:RP n T a i (v a):=by have:=vE h hn vl vr 0 a (by omega);rw [v0,U8] at this;exact this
 have p2:RP n T (b-a) (v a) (v a):=by
  have:=vE h hn vl vr a (b-a) (by omega);rw [show a+(b-a)=b by omega,<-eq] at this;exact this
 have p3:RP n T (m-a) (v a) j:=by
  have:=vE h hn vl vr a (m-a) (by omega);rw [show a+(m-a)=m by omega,vm] at this;exact this
 have p4:RP n T 60 (v a) (v a):=by
  have hc:b-a=1\/b-a=2\/b-a=3\/b-a=4\/b-a=5\/b-a=6:=by omega
  rcases hc with c|c|c|c|c|c<;>rw [c] at p2
  ·exact Jq h hn ha p2 59
  ·exact Jq h hn ha p2 29
  ·exact Jq h hn ha p2 19
  ·exact Jq h hn ha p2 14
  ·exact Jq h hn ha p2 11
  ·exact Jq h hn ha p2 9
 have p5:RP n T (60+(m-a)) (v a) j:=(wq h hn _ _ ha hj).mpr ⟨v a,ha,p4,p3⟩;have p6:RP n T (a+(60+(m-a))) i j:=(wq h hn _ _ hi hj).mpr ⟨v a,ha,p1,p5⟩;rw [show a+(60+(m-a))=m+60 by omega] at p6;exact p6
end
theorem Zd {f g:G5->G8}(h: ∀k,k<n->f k<=g k):jQ n f<=jQ n g:=by
 induction n with
 |zero=>exact bH _
 |succ n ih=>rw [jI,jI];have:=ih λk hk=>h k (by omega);have:=h n (by omega);omega
theorem XF {f g:G5->G8}(h: ∀k,k<n->f k<=g k)(e:jQ n g<=jQ n f): ∀k,k<n->f k=g k:=by
 induction n with
 |zero=>intro k hk;omega
 |succ n ih=>
  rw [jI,jI] at e;have a:=Zd λk (hk:k<n)=>h k (by omega)
  have b:=h n (by omega);intro k hk
  by_cases z:k=n
  ·subst z;omega
  ·exact ih (λk hk=>h k (by omega)) (by omega) k (by omega)
section
variable {n e:G5}{T:G0 (G0 G8)}
def tot (n:G5)(T:G0 (G0 G8))(k:G5):G8:=jQ n λi=>jQ n λj=>ent (jK n (zk n T k)) i j
theorem WM {M:G0 (G0 G8)}{i j:G5}(hi:i<n)(hj:j<n):ent (jK n M) i j=if ent M i j=0 then 0 else 1:=yH hi hj
theorem SY (h:Sq n e T)(h6:n<=6){m:G5}(hm:n<=m): ∀i j,i<n->j<n->ent (jK n (zk n T m)) i j<=ent (jK n (zk n T (m+60))) i j:=λi j hi hj=>by
 rw [WM hi hj,WM hi hj]
 by_cases z:ent (zk n T m) i j=0
 ·rw [D8 z];split<;>omega
 ·rw [D9 z,D9 (SX h h6 hm hi hj z)];exact bH _
theorem OM (h:Sq n e T)(h6:n<=6){m:G5}(hm:n<=m):jK n (zk n T m)=jK n (zk n T (m+60))\/tot n T m+1<=tot n T (m+60):=by
 have le:=SY h h6 hm;have a:tot n T m<=tot n T (m+60):=Zd λi hi=>Zd λj hj=>le i j hi hj
 by_cases z:tot n T (m+60)<=tot n T m
 ·left;refine(Sq.mark (n:=n) _).ext (Sq.mark (n:=n) _) λi j hi hj=> ?_
  have b:=XF (λi hi=>Zd λj hj=>le i j hi hj) z i hi;exact XF (λj hj=>le i j hi hj) (by rw [b];exact bH _) j hj
 ·right;omega
theorem Pd (k:G5)(h6:n<=6):0<=tot n T k/\tot n T k<=36:=by
 have r: ∀i,i<n->0<=(jQ n λj=>ent (jK n (zk n T k)) i j)/\(jQ n λj=>ent (jK n (zk n T k)) i j)<=6:=λi hi=>by
  have a: ∀j,j<n->0<=ent (jK n (zk n T k)) i j/\ent (jK n (zk n T k)) i j<=1:=λj hj=>by
   rw [WM hi hj];split<;>omega
  refine⟨We λj hj=>(a j hj).1,?_⟩;have:=Qr (f:=λj=>ent (jK n (zk n T k)) i j) λj hj=>(a j hj).2
  omega
 refine⟨We λi hi=>(r i hi).1,?_⟩;have b:=Qr (f:=λi=>jQ n λj=>ent (jK n (zk n T k)) i j) λi hi=>(r i hi).2
 unfold tot;omega
theorem Nr (h:Sq n e T)(h6:n<=6): ∃t,t<=36/\jK n (zk n T (n+60*t))=jK n (zk n T (n+60*(t+1))):=by
 by_cases z: ∃t,t<=36/\jK n (zk n T (n+60*t))=jK n (zk n T (n+60*(t+1)))
 ·exact z
 ·exfalso;have g: ∀t:G5,t<=37->(t:G8)<=tot n T (n+60*t):=by
   intro t
   induction t with
   |zero=>intro _;exact(Pd _ h6).1
   |succ t ih=>
    intro ht;have a:=ih (by omega);rcases OM h h6 (m:=n+60*t) (by omega) with b|b
    ·exact(z ⟨t,by omega,by rw [b];rfl⟩).elim
    ·have e1:n+60*t+60=n+60*(t+1):=by omega
     rw [e1] at b;omega
  have a:=g 37 (P5 _);have b:=(Pd (T:=T) (n+60*37) h6).2;omega
theorem CS (h:Sq n e T)(h1:1<=n)(h6:n<=6){L:G5}(nd:((G3 L).map (wP n T)).Nodup):L<=2225:=by
 by_cases z:L<=2225
 ·exact z
 ·exfalso;obtain⟨t,ht,eq⟩:=Nr h h6;have e1:wP n T (n+60*t-1)=wP n T (n+60*t+59):=by
   rw [Wi h (by omega),Wi h (by omega),show n+60*t-1+1=n+60*t by omega,show n+60*t+59+1=n+60*(t+1) by omega];exact eq
  have inj:=nd;unfold IE at inj;rw [E5] at inj;have h2:=X4.mp inj (n+60*t-1) (n+60*t+59) (by simp;omega) (by simp;omega) (by omega);simp only [cJ] at h2;exact h2 e1
structure Course (n:G5)(T:G0 (G0 G8))(L J:G5):Prop where
 nd:((G3 L).map (wP n T)).Nodup
 lt:J<L
 eq:wP n T L=wP n T J
end
theorem SZ (h:i<n):ixN n (i:G8)=some i:=by
 unfold ixN;simp;omega
theorem call_divmodB {X:Cx}:CallR X (.builtin "divmod") (λxs H Q=> ∃i j,xs= [.int i,.int j]/\(0<j/\j<2^200)/\ ∀p,H p=none->Q (.ref p) (upd H p (.tup [.int (i / j),.int (i%j)]))):=by
 intro pins s σ H xs us Q I r h;obtain⟨i,j,rfl,⟨h1,h2⟩,q⟩:=h;obtain⟨u,w',rfl,⟨t,rfl⟩,⟨t',rfl⟩⟩:=LJ r;refine divmod_int (by omega) ?_ (.inl (PyProof.noPylong_of_log2 ?_))
 ·rw [fN i (by omega),fO i (by omega)];have hn:H s.heap.objs.size=none:=I.hok.fresh (P5 _);refine⟨.ref s.heap.objs.size,_,?_,rfl,q _ hn⟩;refine I.laid (λb o e=>P7 _ e) (P5 _) ⟨by simp only [R7,B9];rw [lC];decide,[.int (i / j) s.toks,.int (i%j) (s.toks+1)],.cons ⟨_,rfl⟩ (.cons ⟨_,rfl⟩ .nil),?_⟩;exact⟨_,T3 s.heap rfl,rfl,rfl,0,rfl⟩
 ·have h3:j.natAbs<2^200:=VM (by omega) h2;have h4:=(Nat.log2_lt (by omega:j.natAbs≠0)).mpr h3;omega
def Ta:RDn:=λds h Q=> ∃i j:G8,ds= [.int i,.int j]/\(0<j/\j<2^200)/\Q (.tup [.int (i / j),.int (i%j)]) h
theorem Nt {X:Cx}:Zh X (.builtin "divmod") Ta:=call_divmodB.imp λxs H Q ⟨ds,h,Qd,r,rh,⟨i,j,e,c,q⟩,p⟩=>by
 subst e;obtain⟨v,w,e,r1,r2⟩:=wJ r;cases (show v= .int i from r1);cases (show w= .int j from r2);exact⟨i,j,e,c,λa ha=>p (.tup [.int (i / j),.int (i%j)]) _ _ _ (.new ha) (rh.new ha) ⟨a,_,rfl,jw,.cons rfl (.cons rfl .nil)⟩ q⟩
theorem Eh {L J:G5}(c:Course n T L J){i:G5}(hi:J<=i):wP n T (J+(i-J)%(L-J))=wP n T i:=CL c.eq c.lt hi
theorem Nu (hh:A.handled=none)(it t:P4)(items:N8 G7)(n:G5)(hn:items.size<=n):
 Draws prog w A it [it,t] n (λ_ _=>False) (λi h=>i=n/\h.IsListIter it t n/\h.IsList t items) where
 live:=λ_ _ st=>let ⟨o,ho,_⟩:=st.2.1;⟨o,ho⟩
 frame:=λ_ _ _ st hk=>⟨st.1,st.2.1.at λo e=>hk it (by simp) o e,st.2.2.at λo e=>hk t (by simp) o e⟩
 item:=λi s Q E hi st hQ=>absurd st.1 (M9 hi)
 done:=λs Q E st hE=>wpAny_nextOf_list_end hh st.2.1 st.2.2 (iW hn) hE
def qm (K:G6)(a:P4):It:=
 ⟨λi H=> ∃xs x,SqL K H a xs/\xs[i]? =some x,λi H x H'=> ∃p v,H p=none/\(∀xs,SqL K H a xs->xs[i]? =some v)/\x= .ref p/\H'=upd H p (.tup [.int i,v]),λi H=> ∃xs,SqL K H a xs/\xs.length<=i⟩
theorem Nv {P:M0}{es:G0 T1}{pos:Pos}(a it e:P4)(hei:e≠it)(hae:a≠e)(hai:a≠it):Turn P w K (.Tuple es k pos) (qm K a) [e,it] e (λi h=>(∃old,tG h e it i old)/\h.IsListIter it a i) where
 mem:=by simp
 obj:=λi h st b hb=>by
  rcases T6.mp hb with z|z
  ·subst z;obtain⟨old,q⟩:=st.1;exact⟨_,q,λv z=>by cases z⟩
  ·have z:=P1.mp z;subst z;obtain⟨o,q,c,d⟩:=st.2;exact⟨o,q,λv z=>by rw [d] at z;cases z⟩
 keep:=λi h h' st k=>⟨let ⟨old,q⟩:=st.1;⟨old,k e (by simp) _ q⟩,st.2.at λo q=>k it (by simp) o q⟩
 item:=by
  intro X hP hw hK hc i pins s σ H E I hf st hg;subst hP hw hK;obtain⟨xs,x,hq,hx⟩:=hg;obtain⟨its,rv,p,hz⟩:=I.list hq;obtain⟨u,hu,ru⟩:=rv.get hx;have hi:i<its.toArray.size:=by have:=(P8.mp hu).1;simpa using this
  obtain⟨old,he⟩:=st.1;have helt:e<s.heap.objs.size:=S0 he;refine iF (Draws.list (prog:=X.prog) (w:=X.w) (A:=X.A.in1) (I.ok.hd hc) it a hai its.toArray) he ⟨st.2,p.isList⟩ hi hei (by simp [hei,E8 hae]) λx' h' tk hx' ho hs' hT hsz hk=> ?_
  have ex:x'=u:=C1 (hx'.symm.trans (show its.toArray[i]? =some u by simpa using hu));subst ex;refine⟨_,rfl,gA ho λh2 he2 hs2=> ?_⟩;have hn:H s.heap.objs.size=none:=I.hok.fresh (P5 _);have hT2:h2.get? s.heap.objs.size=some {cls:= .type "tuple",data:= .seq #[.int i tk,x']}:=(hs2.2 _ (W0 helt)).trans hT;refine⟨.ref s.heap.objs.size,upd H s.heap.objs.size (.tup [.int i,x]),?_,rfl,⟨_,x,hn,λys hy=>by rw [I.list_inj hy hq];exact hx,rfl,rfl⟩,⟨⟨x',by simpa using he2⟩,hs'.1.at λo y=>(hs2.2 it (E8 hei)).trans y⟩,λb hb=> ?_⟩
  ·refine I.turnLaid (h':=h2) (t':=tk+1) (ch:= [e,it]) (λb u hb q=> ?_) hf (P5 _) ⟨by show 2<=sizeLine;decide,[.int i tk,x'],.cons ⟨tk,rfl⟩ (.cons ru .nil),⟨_,hT2,rfl,rfl,_,rfl⟩⟩;have b1:b≠e:=λz=>hb (by simp [z])
   have b2:b≠it:=λz=>hb (by simp [z])
   exact(hs2.2 b b1).trans (hk b u b1 b2 q)
  ·have f:=(hf b hb).1;have:b≠s.heap.objs.size:=λz=>by
    rcases T6.mp hb with w|w
    ·rw [<-w,z] at helt;exact absurd helt (O0 _)
    ·have w:=P1.mp w;obtain⟨o,ho',_⟩:=st.2;have:=S0 ho';rw [<-w,z] at this;exact absurd this (O0 _)
   rw [jt this];exact f
 done:=by
  intro X hP hw hK hc i pins s σ H E I hf st hg;subst hP hw hK;obtain⟨xs,hq,hx⟩:=hg;obtain⟨its,rv,p,hz⟩:=I.list hq;obtain⟨old,he⟩:=st.1;have hl:=rv.length;refine iY (Nu (prog:=X.prog) (w:=X.w) (A:=X.A.in1) (I.ok.hd hc) it a its.toArray i (by simp;omega)) he ⟨rfl,st.2,p.isList⟩ λh' hx'=>⟨rfl,I.turnL (t':=s.toks) (ch:= [it]) (λb o hb q=>hx' b o (λz=>hb (by simp [z])) q) λb hb=>hf b (S3 _ hb)⟩
 self:=λ_ _ _ _ _ st h=>let ⟨_,q⟩:=st.1;dE q h
section
variable {X:Cx}
def kG (K:G6)(ta:TA):TI:=λσ H R=>ta σ H λvs H1=> ∃a,vs= [.ref a]/\(∃xs,SqL K H1 a xs)/\R (qm K a) H1
theorem ON {es:G0 T1}{k:G5}{tp:Pos}{a:T1}{ta:TA}{p pos:Pos}(hg:Gl X "enumerate")(hm:X.mg "enumerate" =none)(ha:PA X [a] ta)(hs:D6 [a] X.env= [(false,O5 a X.env)]:=by rfl):
 PI X (.Tuple es k tp) (.Call (.Name "enumerate" p) [a] [] pos) (kG X.K ta):=by
 intro pins s σ H R I h;refine tX (ZX I hg hm (show E3 "enumerate" =some (.type "enumerate") by decide +kernel) (O8 (thn (ha pos pins s σ H _ I h) λus s1 ⟨vs,H1,I1,r1,q1⟩=> ?_) hs rfl));obtain⟨a,e,⟨xs,hq⟩,q⟩:=q1;subst e;cases r1 with
 |cons r rr=>
  cases rr;cases r;obtain⟨its,rv,p,hz⟩:=I1.list hq;have hlt:a<s1.heap.objs.size:=by obtain⟨o,ho,_⟩:=p.isList;exact S0 ho
  refine call_enumerate_list p.isList λh' he hit _ hk=> ?_
  refine dE he ?_;refine⟨s1.heap.objs.size+1,[s1.heap.objs.size+1,s1.heap.objs.size],_,_,H1,rfl,I1.kept (t':=s1.toks) hk,Nv a s1.heap.objs.size (s1.heap.objs.size+1) (W0 (J1 _)) (M9 (a6 hlt)) (M9 hlt),⟨⟨_,he⟩,hit⟩,λb hb=> ?_,q⟩;have hb':s1.heap.objs.size<=b:=by
   rcases T6.mp hb with w|w
   ·rw [w];exact lL _
   ·rw [P1.mp w];exact P5 _
  exact I1.fpOk hb' (I1.hok.fresh hb')
end
def iEL (ta:TAD):TID:=λσ h R=>ta σ h λxs h1=> ∃a,xs= [.lst a]/\R (λh=>(h a).map UX) h1
section
variable {K:G6}
theorem Nw (H:Hp)(a:P4):Oe K H (λh=>(h a).map UX) (qm K a):=λH' h' k rh ds' e i=>by
 have e:(h' a).map UX=some ds':=e;cases hd:h' a with
 |none=>rw [hd] at e;cases e
 |some ds=>
  rw [hd] at e;cases e;obtain⟨vs,hv',r'⟩:=rh a ds hd;refine⟨λd hd=> ?_,λhl=>⟨vs,SqL.of hv',by rw [<-r'.length,<-wE];exact hl⟩⟩;obtain⟨x,hx,ed⟩:=Vj hd;subst ed;obtain⟨v,e1,e2⟩:=r'.get hx;refine⟨⟨vs,v,SqL.of hv',e1⟩,λx' H'' ⟨p,v',hp,hx',ex,eH⟩=> ?_⟩;subst ex eH;have ev:v'=v:=by have:=hx' vs (SqL.of hv');rw [e1] at this;exact(C1 this).symm
  subst ev;have k2:Kept H' (upd H' p (.tup [.int i,v'])):= .new hp;exact⟨k2,RelH.new rh hp,p,[.int i,v'],rfl,jw,_,_,rfl,rfl,_,_,rfl,e2.mono k2,rfl⟩
theorem OO {ta:TAD}: ∀σ H R,LI K (iEL ta) σ H R->kG K (LA K ta) σ H R:=λσ H R ⟨σd,h,Rd,rs,rh,q,p⟩=>
 LA.bind rs rh q λds vs h1 H1 k1 rs1 rh1 r1 ⟨a,e,q1⟩=>by
  subst e;obtain⟨v,e,r2⟩:=jF r1;obtain⟨e',ws,hv⟩:=(show v= .ref a/\ ∃vs,H1 a=some (.lst vs) from r2);subst e';exact⟨a,e,⟨ws,SqL.of hv⟩,p _ _ _ _ k1 rh1 (Nw H1 a) q1⟩
end
section
variable {X:Cx}
theorem OP {es:G0 T1}{k:G5}{tp:Pos}{a:T1}{ta:TAD}{p pos:Pos}(hg:Gl X "enumerate")(hm:X.mg "enumerate" =none)(ha:JA X [a] ta)(hs:D6 [a] X.env= [(false,O5 a X.env)]:=by rfl):
 JI X (.Tuple es k tp) (.Call (.Name "enumerate" p) [a] [] pos) (iEL ta):=⟨(ON hg hm ha.to hs).imp OO⟩
end
def jM (d:D)(a b:G8):T9:=match d with
 | .int x=>decide (a<=x)&&decide (x<=b)
 |_=>false
def yT (d:D)(m:G8):T9:=match d with
 | .tup es=>es.all λx=>jM x 0 (m-1)
 |_=>false
def jar (d:D)(m lo hi:G8):T9:=match d with
 | .tup es=>(es.all λx=>jM x 0 (m-1))&&(decide (lo<=(es.length:G8))&&decide ((es.length:G8)<=hi))
 |_=>false
def CT:D->G5
 | .int x=>x.toNat
 |_=>0
def vW:D->G0 G5
 | .tup es=>es.map CT
 |_=> []
theorem OQ {d:D}{m:G5}{lo hi:G8}(h:jar d m lo hi=true):d=jq (vW d)/\(∀i∈vW d,i<m)/\lo<=((vW d).length:G8)/\((vW d).length:G8)<=hi:=by
 cases d with
 |tup es=>
  simp only [jar,B7,T8,K1] at h;obtain⟨h1,h2,h3⟩:=h;have key: ∀x∈es,x= .int ((CT x:G5):G8)/\CT x<m:=λx hx=>by
   have:=h1 x hx;cases x with
   |int y=>
    simp only [jM,B7,K1] at this;refine⟨by show D.int y=D.int ((y.toNat:G5):G8);rw [mG this.1],by show y.toNat<m;omega⟩
   |_=>exact iG this
  refine⟨?_,λi hi=> ?_,by simpa [vW] using h2,by simpa [vW] using h3⟩
  ·show D.tup es=D.tup ((es.map CT).map λ(k:G5)=>D.int (k:G8));rw [S2]
   congr 1
   conv=>lhs;rw [<-dZ es]
   exact M5 λx hx=>(key x hx).1
  ·obtain⟨x,hx,e⟩:=R8.mp hi;rw [<-e];exact(key x hx).2
 |_=>exact iG h
end L2
set_option maxRecDepth 35000
namespace L2
open PySem PySem.Spec PyProof.Rows PySem.SeqAt
theorem Nx {d:D}{m:G5}(h:yT d m=true):d=jq (vW d)/\ ∀i∈vW d,i<m:=by
 cases d with
 |tup es=>
  have:=OQ (d:= .tup es) (m:=m) (lo:=0) (hi:=(es.length:G8)) (by
   show ((es.all λx=>jM x 0 ((m:G8)-1))&&(decide ((0:G8)<=(es.length:G8))&&decide ((es.length:G8)<=(es.length:G8))))=true;rw [show (es.all λx=>jM x 0 ((m:G8)-1))=true from h,G9 (by omega),G9 (by omega)];rfl)
  exact⟨this.1,this.2.1⟩
 |_=>exact iG h
def Qy (T:G0 (G0 G8))(W:G0 G5):T9:= !W.isEmpty&&(W.zip (W.drop 1)).all λp=>decide (ent T p.1 p.2>0)
def Xe (T:G0 (G0 G8))(n:G5)(d:D):T9:=yT d n&&Qy T (vW d)
section
variable {α:Type}{i i':G5}{js:G0 G5}{ti:TID}{te:TED}{σ:SD}{h:HD}{Q:KD}{j:ItD}
theorem jas (xs:G0 α)(c c' g:α->D)(p:α->T9){tt:TTD}(hz:xs.length<=1000)(hj:j h=some (xs.map λx=> .tup [c x,c' x]))(ht: ∀R:ItD->HD->Prop,R j h->ti σ h R)
 (hp: ∀x∈xs,∀Q':T9->HD->Prop,Q' (p x) h->tt (((jJ js σ).set i (some (c x))).set i' (some (c' x))) h Q')(he: ∀x∈xs,p x=true-> ∀Q':KD,Q' (g x) h->te (((jJ js σ).set i (some (c x))).set i' (some (c' x))) h Q')(hq: ∀a,h a=none->Q (.lst a) (wB h a ((xs.filter p).map g))):vU (b2 i i') js ti tt te σ h Q:=by
 refine ht _ ⟨xs.length,λk ys h'=>h'=h/\ys=((xs.take k).filter p).map g,⟨rfl,by simp⟩,?_⟩;rintro k ys h' ⟨rfl,rfl⟩;refine⟨?_,_,hj,by simp,λhl a ha=> ?_,λd hd=> ?_⟩
 ·have:=O9 p (xs.take k);simp only [G1,T0] at this ⊢;exact S1 (ju (by omega))
 ·rw [S5 (by simpa using hl)];exact hq a ha
 ·rw [P9] at hd;cases hx:xs[k]? with
  |none=>rw [hx] at hd;cases hd
  |some x=>
   rw [hx] at hd;cases hd;refine⟨_,⟨_,_,rfl,rfl⟩,?_⟩;refine hp x (D0 hx) _ ?_;cases hb:p x with
   |true=>
    rw [D8 rfl];refine he x (D0 hx) hb _ ⟨_,Sub.refl _,rfl,?_⟩;rw [N7,hx];simp [hb]
   |false=>
    rw [D9 (by decide)];refine⟨_,Sub.refl _,rfl,?_⟩;rw [N7,hx];simp [hb]
end
def Itv (K:G6)(a:P4)(n:G5):It:=
 ⟨λi H=>i<n/\ ∃xs x,SqL K H a xs/\xs[n-1-i]? =some x,λi H x H'=>H'=H/\ ∀xs,SqL K H a xs->xs[n-1-i]? =some x,λi _=>n<=i⟩
theorem OR {P:M0}{w:C6}{K:G6}{tg:T1}(a it:P4)(n:G5):Turn P w K tg (Itv K a n) [it] it (λi h=>i<=n/\h.IsRevIter it a ((n:G8)-1-(i:G8))) where
 mem:=by simp
 obj:=λi h st b hb=>by
  have e:b=it:=by simpa using hb
  subst e;obtain⟨_,o,e,c,d⟩:=st;exact⟨o,e,λv z=>by rw [d] at z;cases z⟩
 keep:=λi h h' st k=>⟨st.1,st.2.at λo e=>k it (by simp) o e⟩
 item:=by
  intro X hP hw hK hc i pins s σ H E I hf st hg;subst hP hw hK;obtain⟨hi,xs,x,hq,hx⟩:=hg;obtain⟨its,rv,p,hz⟩:=I.list hq;obtain⟨u,hu,ru⟩:=rv.get hx;obtain⟨f0,f1,f2,f3,f4,f5⟩:=hf it (by simp);have st2:s.heap.IsRevIter it a (((n-1-i:G5):G5):G8):=by
   have:=st.2;rw [show ((n:G8)-1-(i:G8))=(((n-1-i:G5):G5):G8) by omega] at this;exact this
  refine wpAny_pyNext_rev_item st2 p.isList (x:=u) (by simpa using hu) λh' st' sb=> ?_
  have I1:Inv X pins σ H {s with heap:=h'}:=I.turned (t':=s.toks) (λb o hb e=>(sb.2 b hb).trans e) f0 f1 f3 f4 f5;obtain⟨o,e,c,d⟩:=id st';refine⟨u,rfl,LB (s:= {s with heap:=h'}) e c d (by decide) ⟨x,H,I1,ru,⟨rfl,λys hy=>by rw [I.list_inj hy hq];exact hx⟩,⟨by omega,?_⟩,λb hb=>(hf b hb).1⟩⟩;rw [show ((n:G8)-1-((i+1:G5):G8))=(((n-1-i:G5):G5):G8)-1 by omega];exact st'
 done:=by
  intro X hP hw hK hc i pins s σ H E I hf st hg;subst hP hw hK;have hg:n<=i:=hg;obtain⟨f0,f1,f2,f3,f4,f5⟩:=hf it (by simp);have st2:s.heap.IsRevIter it a (-1):=by
   have:=st.2;rw [show ((n:G8)-1-(i:G8))= -1 by have:=st.1;omega] at this;exact this
  exact wpAny_pyNext_rev_end (I.ok.hd hc) st2 λh' eb=>⟨rfl,I.turned (t':=s.toks) (λb o hb e=>eb b o hb e) f0 f1 f3 f4 f5⟩
 self:=λ_ _ _ _ _ st h=>lR st.2 h
section
variable {X:Cx}
def jat (K:G6)(ta:TA):TI:=λσ H R=>ta σ H λvs H1=> ∃a xs,vs= [.ref a]/\SqL K H1 a xs/\R (Itv K a xs.length) H1
theorem kH {tg:T1}{a:T1}{ta:TA}{p pos:Pos}(hg:Gl X "reversed")(hm:X.mg "reversed" =none)(ha:PA X [a] ta)(hs:D6 [a] X.env= [(false,O5 a X.env)]:=by rfl):
 PI X tg (.Call (.Name "reversed" p) [a] [] pos) (jat X.K ta):=by
 intro pins s σ H R I h;refine tX (ZX I hg hm (show E3 "reversed" =some (.type "reversed") by decide +kernel) (O8 (thn (ha pos pins s σ H _ I h) λus s1 ⟨vs,H1,I1,r1,q1⟩=> ?_) hs rfl));obtain⟨a,xs,e,hq,q⟩:=q1;subst e;cases r1 with
 |cons r rr=>
  cases rr;cases r;obtain⟨its,rv,p,hz⟩:=I1.list hq;have hl:=rv.length;refine call_reversed_list p.isList ?_;have hr:(s1.heap.push (revObj a ((its.toArray.size:G8)-1))).IsRevIter s1.heap.objs.size a ((xs.length:G8)-1-((0:G5):G8)):=by
   rw [show ((xs.length:G8)-1-((0:G5):G8))=((its.toArray.size:G8)-1) by simp;omega];exact⟨_,T3 _ rfl,rfl,rfl⟩
  refine lR hr ?_;refine⟨s1.heap.objs.size,[s1.heap.objs.size],_,_,H1,rfl,I1.kept (t':=s1.toks) λb o e=>P7 _ e,OR a _ xs.length,⟨N4 _,hr⟩,λb hb=> ?_,q⟩;have e:b=s1.heap.objs.size:=by simpa using hb
  subst e;exact I1.fpOk (P5 _) (I1.hok.fresh (P5 _))
end
def jau (a:P4)(n:G5):ItD:=λh=>(h a).bind λds=>if ds.length=n then some ds.reverse else none
def iV (ta:TAD):TID:=λσ h R=>ta σ h λxs h1=> ∃a ds,xs= [.lst a]/\h1 a=some ds/\R (jau a ds.length) h1
section
variable {K:G6}
theorem OS (H:Hp)(a:P4)(n:G5):Oe K H (jau a n) (Itv K a n):=λH' h' k rh ds' e i=>by
 have e:(h' a).bind (λds=>if ds.length=n then some ds.reverse else none)=some ds':=e;cases hd:h' a with
 |none=>rw [hd] at e;cases e
 |some ds=>
  rw [hd] at e;have e:(if ds.length=n then some ds.reverse else none)=some ds':=e
  by_cases hn:ds.length=n
  ·rw [D8 hn] at e;cases e;obtain⟨vs,hv',r'⟩:=rh a ds hd;refine⟨λd hd=> ?_,λhl=>by show n<=i;rw [M8] at hl;omega⟩;have hi:i<ds.length:=by have:=(P8.mp hd).1;rwa [M8] at this
   rw [U0 hi,hn] at hd;obtain⟨v,e1,e2⟩:=r'.get hd;refine⟨⟨by omega,vs,v,SqL.of hv',e1⟩,λx' H'' ⟨eH,hx'⟩=> ?_⟩;subst eH;have ev:x'=v:=by have:=hx' vs (SqL.of hv');rw [e1] at this;exact(C1 this).symm
   subst ev;exact⟨.refl _,rh,e2⟩
  ·rw [D9 hn] at e;cases e
theorem kI {ta:TAD}: ∀σ H R,LI K (iV ta) σ H R->jat K (LA K ta) σ H R:=λσ H R ⟨σd,h,Rd,rs,rh,q,p⟩=>
 LA.bind rs rh q λds vs h1 H1 k1 rs1 rh1 r1 ⟨a,es,e,he,q1⟩=>by
  subst e;obtain⟨v,e,r2⟩:=jF r1;have e':v= .ref a:=r2.1;obtain⟨ws,hv,rw'⟩:=rh1 a es he;subst e';rw [rw'.length] at q1;exact⟨a,ws,e,SqL.of hv,p _ _ _ _ k1 rh1 (OS H1 a _) q1⟩
end
section
variable {X:Cx}
theorem kJ {tg:T1}{a:T1}{ta:TAD}{p pos:Pos}(hg:Gl X "reversed")(hm:X.mg "reversed" =none)(ha:JA X [a] ta)(hs:D6 [a] X.env= [(false,O5 a X.env)]:=by rfl):
 JI X tg (.Call (.Name "reversed" p) [a] [] pos) (iV ta):=⟨(kH hg hm ha.to hs).imp kI⟩
end
def wQ (T:G0 (G0 G8))(n p:G5):G0 G5:=(G3 n).filter λj=>decide (ent T p j>0)
def cnt (T:G0 (G0 G8))(n o:G5):G5->G5->G8
 |0,p=>if p=o then 1 else 0
 |t+1,p=>((wQ T n p).map (cnt T n o t)).sum
def Ny (T:G0 (G0 G8))(n o t:G5):G0 G8:=(G3 n).map (cnt T n o t)
section
variable {T:G0 (G0 G8)}{n o:G5}
theorem Pe {p j:G5}(h:j∈wQ T n p):j<n:=P6.mp (M7.mp h).1
theorem CU (p:G5):(wQ T n p).length<=n:=by
 have:=O9 (λj=>decide (ent T p j>0)) (G3 n)
 rwa [P3] at this
theorem Mk: ∀ {l:G0 G8},(∀x∈l,0<=x)->0<=l.sum
 | [],_=>by simp
 |x::l,h=>by
  have:=h x R3;have:=Mk λy hy=>h y (S3 _ hy)
  rw [b9];omega
theorem Ua: ∀ (t p:G5),0<=cnt T n o t p
 |0,p=>by show 0<=(if p=o then (1:G8) else 0);split<;>decide
 |t+1,p=>Mk λx hx=>by obtain⟨j,_,rfl⟩:=R8.mp hx;exact Ua t j
theorem CV: ∀ {l:G0 G5} {f:G5->G8},(∀j,0<=f j)->0<(l.map f).sum-> ∃j∈l,0<f j
 | [],_,_,h=>by simp at h
 |x::l,f,nn,h=>by
  by_cases z:0<f x
  ·exact⟨x,R3,z⟩
  ·have:0<(l.map f).sum:=by
    rw [M1,b9] at h;have:=nn x;omega
   obtain⟨j,hj,hp⟩:=CV nn this;exact⟨j,S3 _ hj,hp⟩
def jbj (T:G0 (G0 G8))(n o t p:G5):G5:=(wQ T n p).findIdx λj=>decide (cnt T n o t j>0)
def nxt (T:G0 (G0 G8))(n o t p:G5):G5:=(wQ T n p).getD (jbj T n o t p) 0
def gp (T:G0 (G0 G8))(n o k one:G5):G5->G5
 |0=>one
 |i+1=>nxt T n o (k-1-i) (gp T n o k one i)
end
def Cnts (h:HD)(A:P4)(T:G0 (G0 G8))(n o k:G5):Prop:= ∃rs:G0 P4,h A=some (rs.map D.lst)/\rs.length=k+1/\ ∀t a,rs[t]? =some a->h a=some ((Ny T n o t).map D.int)
theorem Cnts.at {h:HD}{A:P4}{T:G0 (G0 G8)}{n o k:G5}(c:Cnts h A T n o k){t:G5}(ht:t<=k): ∃ (rs:G0 P4) (a:P4),h A=some (rs.map D.lst)/\atI (rs.map D.lst) (t:G8)=some (.lst a)/\h a=some ((Ny T n o t).map D.int):=by
 obtain⟨rs,hA,hl,hr⟩:=c;have hi:t<rs.length:=by omega
 exact⟨rs,rs[t],hA,zK (by rw [P9,G2 hi];rfl),hr t _ (G2 hi)⟩
theorem Qz {T:G0 (G0 G8)}{n o t p:G5}(hp:p<n):atI ((Ny T n o t).map D.int) (p:G8)=some (.int (cnt T n o t p)):=
 zK (by unfold Ny;rw [S2,P9,C0 hp];rfl)
theorem CW {b:D->SD->SD->Prop}{js:G0 G5}{ti:TID}{tt:TTD}{te:TED}{σ:SD}{h:HD}{Q:KD}(x:ti σ h λj h1=>dCB ke (zg (vU b js (kl j) tt te) Zx) σ h1 Q):dCB ke (zg (vU b js ti tt te) Zx) σ h Q:=x
theorem Ml {α:Type}{xs:G0 α}{x:α}(h1:1<=xs.length)(h:xs[xs.length-1]? =some x):atI xs (-1)=some x:=by
 unfold atI ixN;rw [D9 (by decide),D8 (by omega)];show xs[(-1+(xs.length:G8)).toNat]? =_;rw [show (-1+(xs.length:G8)).toNat=xs.length-1 by omega];exact h
end L2
namespace L2
open PySem PySem.Spec PyProof.Rows PySem.W
abbrev TXD:=SD->HD->(Str->HD->Prop)->Prop
abbrev RDx:=G0 D->HD->(Str->HD->Prop)->Prop
abbrev N1:G0 Str:= ["_law_call","_law_found","_law_e","_law_word"]
end L2
namespace L2
open PySem PySem.Spec PyProof.Rows PySem.SeqAt
theorem Pf {α:Type}{p q:α->T9}: ∀ {l:G0 α},(∀x∈l,p x=true->q x=true)->(∃x,x∈l/\p x=false/\q x=true)->l.countP p+1<=l.countP q
 | [],_,⟨_,hx,_⟩=>by cases hx
 |a::l,hm,⟨x,hx,h1,h2⟩=>by
  have hm': ∀x∈l,p x=true->q x=true:=λy hy=>hm y (S3 _ hy)
  have le:l.countP p<=l.countP q:=List.countP_mono_left hm';rw [oO,oO]
  by_cases z:x=a
  ·subst z;rw [h1,h2];simp;omega
  ·have hx':x∈l:=(T6.mp hx).resolve_left z;have:=Pf hm' ⟨x,hx',h1,h2⟩
   by_cases w:p a=true
   ·rw [w,hm a R3 w];simp;omega
   ·rw [show p a=false by simpa using w];simp;omega
theorem kK {n:G5}(P:G5->G5->T9)(up: ∀m i,i<n->P m i=true->P (m+1) i=true)(st: ∀m,(∀i,i<n->P (m+1) i=P m i)-> ∀i,i<n->P (m+2) i=P (m+1) i)
 (M:G5)(hM: ∀m,M<=m-> ∀i,i<n->P m i=true)(ne: ∃i,i<n/\P 0 i=true): ∀i,i<n->P (n-1) i=true:=by
 have key: ∀m,(∀i,i<n->P m i=true)\/m+1<=(G3 n).countP (P m):=by
  intro m
  induction m with
  |zero=>
   obtain⟨i,hi,e⟩:=ne;exact .inr (List.countP_pos_iff.mpr ⟨i,P6.mpr hi,e⟩)
  |succ m ih=>
   rcases ih with ih|ih
   ·exact .inl λi hi=>up m i hi (ih i hi)
   ·by_cases eq: ∀i,i<n->P (m+1) i=P m i
    ·left;have go: ∀t i,i<n->P (m+t+1) i=P (m+t) i:=by
      intro t
      induction t with
      |zero=>exact eq
      |succ t iht=>exact st (m+t) iht
     have all: ∀t i,i<n->P (m+t) i=P m i:=by
      intro t
      induction t with
      |zero=>intro i _;rfl
      |succ t iht=>intro i hi;rw [<-iht i hi];exact go t i hi
     intro i hi;rw [eq i hi,<-all M i hi];exact hM (m+M) (by omega) i hi
    ·right;have ⟨i,hi⟩: ∃i,i<n/\P (m+1) i≠P m i:=J6 λw=>eq λi hi=>J6 λw2=>w ⟨i,hi,w2⟩
     have hf:P m i=false:=by
      cases hp:P m i with
      |false=>rfl
      |true=>exact absurd ((up m i hi.1 hp).trans hp.symm) hi.2
     have ht:P (m+1) i=true:=by
      cases hp:P (m+1) i with
      |true=>rfl
      |false=>exact absurd (hp.trans hf.symm) hi.2
     have:=Pf (l:=G3 n) (p:=P m) (q:=P (m+1)) (λx hx=>up m x (P6.mp hx)) ⟨i,P6.mpr hi.1,hf,ht⟩;omega
 intro i hi;rcases key (n-1) with h|h
 ·exact h i hi
 ·have hle:(G3 n).countP (P (n-1))<=(G3 n).length:=List.countP_le_length;rw [P3] at hle;have:(G3 n).countP (P (n-1))=(G3 n).length:=by rw [P3];omega
  exact List.countP_eq_length.mp this i (P6.mpr hi)
section
variable {n e:G5}{T:G0 (G0 G8)}
instance (k i j:G5):Decidable (RP n T k i j):=inferInstanceAs (Decidable (ent (zk n T k) i j≠0))
theorem DJ (h:Sq n e T)(hn:n<=8)(n2:2<=n){K:G5}(f: ∀i j,i<n->j<n->RP n T K i j)(f1: ∀i j,i<n->j<n->RP n T (K+1) i j): ∃s c,1<=s/\s<=n-1/\c<n/\RP n T s c c:=by
 refine J6 λz=> ?_
 have drop: ∀m i j,i<n->j<n->n<=m->RP n T m i j->RP n T (m-n) i j:=by
  intro m i j hi hj hm r;obtain⟨v,v0,vm,vl,vr⟩:=Mj h hn m hi hj r;obtain⟨a,b,hab,hbn,eq⟩:=Eg (n:=n) (v:=v) λt ht=>vl t (by omega)
  have ha:=vl a (by omega);have p2:RP n T (b-a) (v a) (v a):=by
   have:=vE h hn vl vr a (b-a) (by omega);rw [show a+(b-a)=b by omega,<-eq] at this;exact this
  have hba:b-a=n:=by
   by_cases w:b-a<=n-1
   ·exact absurd ⟨b-a,v a,by omega,w,ha,p2⟩ z
   ·omega
  have a0:a=0:=by omega
  have bn:b=n:=by omega
  subst a0;subst bn;have p3:=vE h hn vl vr b (m-b) (by omega);rw [show b+(m-b)=m by omega,vm,<-eq,v0] at p3;exact p3
 have h0:0<n:=by omega
 have mod0: ∀m,RP n T m 0 0->m%n=0:=by
  intro m
  induction m using G5.strongRecOn with
  |_ m ih=>
   intro r
   by_cases w:m<n
   ·by_cases y:m=0
    ·subst y;exact i6 n
    ·exact absurd ⟨m,0,by omega,by omega,h0,r⟩ z
   ·rw [Nat.mod_eq_sub_mod (by omega)];exact ih (m-n) (by omega) (drop m 0 0 h0 h0 (by omega) r)
 have a:=i7 (mod0 K (f 0 0 h0 h0));have b:=i7 (mod0 (K+1) (f1 0 0 h0 h0));have c:=(gU a).mp b;have:=sE (by decide) c;omega
theorem jbk (h:Sq n e T)(n1:1<=n)(h6:n<=6){K:G5}(hK:1<=K)(f:zm (zk n T K)=true): ∃k,1<=k/\k<=30/\zm (zk n T k)=true:=by
 have hn:n<=8:=by omega
 have all: ∀m,K<=m-> ∀i j,i<n->j<n->RP n T m i j:=λm hm=>by
  have:=VS h hn (a:=K) (by omega) f (m-K);rw [show K+(m-K)=m by omega] at this;exact(Wg (h.pow hn m)).mp this
 have pre: ∀j,j<n-> ∃k,k<n/\RP n T 1 k j:=λj hj=>by
  have:=all (K-1+1) (by omega) 0 j (by omega) hj;obtain⟨k,hk,_,r⟩:=(wq h hn (K-1) 1 (by omega) hj).mp this;exact⟨k,hk,r⟩
 have keep: ∀i m t,i<n->(∀j,j<n->RP n T m i j)-> ∀j,j<n->RP n T (m+t) i j:=by
  intro i m t hi r
  induction t with
  |zero=>exact r
  |succ t ih=>intro j hj;obtain⟨k,hk,r1⟩:=pre j hj;exact(wq h hn (m+t) 1 hi hj).mpr ⟨k,hk,ih k hk,r1⟩
 by_cases n2:2<=n
 ·obtain⟨s,c,s1,sn,hc,rc⟩:=DJ h hn n2 (all K (P5 _)) (all (K+1) (by omega));have e1: ∀m,s*(m+1)=s+s*m:=λm=>by rw [i4];omega
  have A:=kK (n:=n) (λm j=>decide (RP n T (s*m) c j)) (λm j hj r=>G9 (by rw [e1];exact(wq h hn s (s*m) hc hj).mpr ⟨c,hc,rc,N2 r⟩))
   (λm eq j hj=>by
    have key: ∀m,RP n T (s*(m+1)) c j↔ ∃k,k<n/\RP n T (s*m) c k/\RP n T s k j:=λm=>by rw [i4];exact wq h hn (s*m) s hc hj
    have eq2: ∀k,k<n->(RP n T (s*(m+1)) c k↔RP n T (s*m) c k):=λk hk=>by simpa using eq k hk
    have:RP n T (s*(m+1+1)) c j↔RP n T (s*(m+1)) c j:=by
     rw [key (m+1),key m];exact⟨λ⟨k,hk,a,b⟩=>⟨k,hk,(eq2 k hk).mp a,b⟩,λ⟨k,hk,a,b⟩=>⟨k,hk,(eq2 k hk).mpr a,b⟩⟩
    simpa using this) K (λm hm j hj=>G9 (all _ (T5 hm (Nat.le_mul_of_pos_left m s1)) c j hc hj)) ⟨c,hc,G9 (by rw [nP];exact(zn hc hc).mpr rfl)⟩
  have any_iff: ∀m i,((G3 (m+1)).any (λt=>decide (RP n T t i c))=true)↔ ∃t,t<=m/\RP n T t i c:=λm i=>by
   rw [U4];exact⟨λ⟨t,ht,r⟩=>⟨t,by have:=P6.mp ht;omega,N2 r⟩,λ⟨t,ht,r⟩=>⟨t,P6.mpr (by omega),G9 r⟩⟩
  have stp: ∀m i,i<n->((∃t,t<=m+1/\RP n T t i c)↔(i=c\/ ∃k,k<n/\RP n T 1 i k/\ ∃t,t<=m/\RP n T t k c)):=λm i hi=>by
   constructor
   ·rintro ⟨t,ht,r⟩;cases t with
    |zero=>exact .inl ((zn hi hc).mp r)
    |succ t=>
     rw [cX] at r;obtain⟨k,hk,a,b⟩:=(wq h hn 1 t hi hc).mp r;exact .inr ⟨k,hk,a,t,by omega,b⟩
   ·rintro (r|⟨k,hk,a,t,ht,b⟩)
    ·exact⟨0,by omega,(zn hi hc).mpr r⟩
    ·exact⟨1+t,by omega,(wq h hn 1 t hi hc).mpr ⟨k,hk,a,b⟩⟩
  have beq: ∀ {a b:T9},(a=true↔b=true)->a=b:=λ{a b} h=>by cases a<;>cases b<;>simp_all
  have B:=kK (n:=n) (λm i=>(G3 (m+1)).any (λt=>decide (RP n T t i c))) (λm i hi r=>by
   obtain⟨t,ht,r⟩:=(any_iff m i).mp r;exact(any_iff (m+1) i).mpr ⟨t,by omega,r⟩)
   (λm eq i hi=>beq (by
    have eq2: ∀k,k<n->((∃t,t<=m+1/\RP n T t k c)↔ ∃t,t<=m/\RP n T t k c):=λk hk=>by
     rw [<-any_iff (m+1) k,<-any_iff m k];have:=eq k hk;rw [this]
    rw [any_iff (m+2) i,any_iff (m+1) i,stp (m+1) i hi,stp m i hi];exact⟨λw=>w.elim .inl λ⟨k,hk,a,b⟩=> .inr ⟨k,hk,a,(eq2 k hk).mp b⟩,λw=>w.elim .inl λ⟨k,hk,a,b⟩=> .inr ⟨k,hk,a,(eq2 k hk).mpr b⟩⟩))
   K (λm hm i hi=>(any_iff m i).mpr ⟨K,hm,all K (P5 _) i c hi hc⟩) ⟨c,hc,(any_iff 0 c).mpr ⟨0,P5 _,(zn hc hc).mpr rfl⟩⟩
  refine⟨(n-1)+s*(n-1),by omega,?_,(Wg (h.pow hn _)).mpr λi j hi hj=> ?_⟩
  ·have a:=lN (show s<=5 by omega) (show n-1<=5 by omega);omega
  ·obtain⟨t,ht,r⟩:=(any_iff (n-1) i).mp (B i hi);have row: ∀j,j<n->RP n T (t+s*(n-1)) i j:=λj hj=>(wq h hn t (s*(n-1)) hi hj).mpr ⟨c,hc,r,N2 (A j hj)⟩
   have:=keep i (t+s*(n-1)) (n-1-t) hi row j hj;rw [show t+s*(n-1)+(n-1-t)=n-1+s*(n-1) by omega] at this;exact this
 ·have hn1:n=1:=by omega
  refine⟨1,P5 _,by decide,(Wg (h.pow hn 1)).mpr λi j hi hj=> ?_⟩;obtain⟨k,hk,r⟩:=pre j hj;rw [show i=k by omega];exact r
end
end L2
namespace L2
open PySem PySem.Spec PyProof.Rows
def TrV (K:G6)(H:Hp):V->T9->Prop
 | .bl b,c=>c=b
 | .int i,c=>c=(i !=0)
 | .non,c=>c=false
 | .ref a,c=> ∃xs,SqL K H a xs/\c= !xs.isEmpty
 |_,_=>False
def TrD (h:HD):D->T9->Prop
 | .bl b,c=>c=b
 | .int i,c=>c=(i !=0)
 | .non,c=>c=false
 | .lst a,c=> ∃ds,h a=some ds/\c= !ds.isEmpty
 |_,_=>False
theorem TrD.to {K:G6}{H:Hp}{h:HD}{d:D}{v:V}{c:T9}(t:TrD h d c)(r:RelD K H d v)(rh:RelH K h H):TrV K H v c:=by
 cases d<;>try exact t.elim
 ·have e:v= .non:=r;subst e;exact t
 ·have e:v= .bl _:=r;subst e;exact t
 ·have e:v= .int _:=r;subst e;exact t
 ·obtain⟨e,_⟩:=r;subst e;obtain⟨ds,hd,e⟩:=t;obtain⟨vs,hv,r'⟩:=rh _ ds hd;refine⟨vs,SqL.of hv,?_⟩;rw [e];have:=r'.length;cases ds<;>cases vs<;>first|rfl|(simp at this)
section
variable {X:Cx}{pins:G0 (P4×Obj)}{σ:St}{H:Hp}{s:P0}{E:G7->P0->Prop}
theorem Inv.trv {v:V}{u:G7}{c:T9}{Q:T9->P0->Prop}(I:Inv X pins σ H s)(r:RelV v u)(t:TrV X.K H v c)(q: ∀s',Inv X pins σ H s'->Q c s'):S6 (T4 X.prog X.w) X.A (pR u) Q E s:=by
 cases v<;>try exact t.elim
 ·have e:u=mR:=r;subst e;have e:c=false:=t;subst e;exact truthy_none (q _ I)
 ·have e:u=Z4 _:=r;subst e;have e:c=_:=t;subst e;exact O6 (q _ I)
 ·obtain⟨t',e⟩:=r;subst e;have e:c=_:=t;subst e;exact truthy_int (q _ I)
 ·have e:u=X5 _:=r;subst e;obtain⟨xs,hx,e⟩:=t;obtain⟨its,rv,p,hz⟩:=I.list hx;have hl:=rv.length;have e2:c= !its.toArray.isEmpty:=by
   rw [e];cases xs<;>cases its<;>first|rfl|(simp at hl)
  refine wpAny_truthy_list p.isList ?_ ?_
  ·have:xs.length<=16777216:=T5 hz (by decide);simp only [R9];have e3:((2:G8)^63)=9223372036854775808:=by decide
   rw [e3];omega
  ·rw [<-e2];exact q _ (I.tok _)
end
section
variable {X:Cx}{a b:T1}{rest:G0 T1}{pos:Pos}
def jav (K:G6)(t:TE):TT:=λσ H Q=>t σ H λx H1=> ∃c,TrV K H1 x c/\Q c H1
theorem kL {e:T1}{t:TE}(h:PE X e t)(he: ∀whole,isTrue e X.env whole=(do let v <-whole;fB e.pos;aY [v] (pR v)):=by intro _;rfl):PT X e (jav X.K t):=by
 intro pins s σ H Q I hw;refine sQ (thn (h pins s σ H _ I hw) λv s1 ⟨x,H1,I1,r1,q1⟩=> ?_) (he _);obtain⟨c,t1,q⟩:=q1;exact I1.trv r1 t1 λs' I'=>⟨H1,I',q⟩
def jaw (t:TED):TTD:=λσ h Q=>t σ h λx h1=> ∃c,TrD h1 x c/\Q c h1
variable {K:G6}
theorem kM {t:TED}: ∀σ H Q,LT K (jaw t) σ H Q->jav K (LE K t) σ H Q:=λσ H Q ⟨σd,h,Qd,rs,rh,t,p⟩=>
 LE.bind rs rh t λd v h1 H1 k1 rs1 rh1 r1 ⟨k,e,q⟩=>⟨k,e.to r1 rh1,p k h1 H1 k1 rh1 q⟩
theorem qo {ta:TED}(ha:JE X a ta)(he: ∀whole,isTrue a X.env whole=(do let v <-whole;fB a.pos;aY [v] (pR v)):=by intro _;rfl):JT X a (jaw ta):=⟨(kL ha.to he).imp kM⟩
end
end L2
namespace L2
open PySem PySem.Spec PyProof.Rows PySem.SeqAt
section
variable {n e:G5}{T:G0 (G0 G8)}
theorem DK (h:Sq n e T)(hn:n<=8){c x:G5}(hx:x<n)(l:RP n T c x x): ∀q,RP n T (c*q) x x
 |0=>by rw [nP];exact(zn hx hx).mpr rfl
 |q+1=>Jq h hn hx l q
theorem zL (h:Sq n e T)(hn:n<=8){a b i j k:G5}(hi:i<n)(hk:k<n)(hj:j<n)(x:RP n T a i k)(y:RP n T b k j):RP n T (a+b) i j:=(wq h hn a b hi hj).mpr ⟨k,hk,x,y⟩
theorem WN (h:Sq n e T)(hn:n<=8){k:G5}:zm (zk n T k)=true↔ ∀i j,i<n->j<n->RP n T k i j:=Wg (h.pow hn k)
theorem CY (h:Sq n e T)(hn:n<=8){c:G5->G5}(cl: ∀t,c t<n)(st: ∀t,RP n T 1 (c t) (c (t+1)))(t:G5): ∀s,RP n T s (c t) (c (t+s))
 |0=>(zn (cl t) (cl t)).mpr rfl
 |s+1=>zL h hn (cl _) (cl (t+s)) (cl _) (CY h hn cl st t s) (st (t+s))
theorem Jr (h:Sq n e T)(hn:n<=8){i j:G5}:RP n T 1 i j↔ent T i j≠0:=by unfold RP;rw [Cs h hn]
end
def gT3 (i j k:G5):TGD:=λd σ h Q=> ∃x y z,d= .tup [x,y,z]/\Q (((σ.set i (some x)).set j (some y)).set k (some z)) h
theorem qp {K:G6}(i j k:G5): ∀v σ H Q,LG K (gT3 i j k) v σ H Q->TX K 3 (YI (wA i) (YI (wA j) (YI (wA k) TW))) v σ H Q:=λv σ H Q ⟨d,σd,h,Qd,r,rs,rh,⟨x,y,z,e,q⟩,p⟩=>by
 subst e;obtain⟨a,vs,e,hH,rr⟩:=(show ∃a vs,v= .ref a/\H a=some (.tup vs)/\RelDs K H [x,y,z] vs from r);subst e;obtain⟨v1,vr,e1,r1,rr⟩:=(show ∃v r,vs=v::r/\RelD K H x v/\RelDs K H [y,z] r from rr);obtain⟨v2,v3,e2,r2,r3⟩:=wJ rr;subst e1 e2;exact⟨a,[v1,v2,v3],rfl,SqT.of hH,rfl,v1,[v2,v3],rfl,v2,[v3],rfl,v3,[],rfl,rfl,p _ _ _ _ (.refl H) (((rs.set r1 i).set r2 j).set r3 k) rh q⟩
section
variable {X:Cx}{pos:Pos}
theorem kN {i j l:G5}{x y z:Str}{p1 p2 p3:Pos}{k:G5}(hc:X.calm=true)(hN:X.N.Nodup)(hi:X.N[i]? =some x)(hj:X.N[j]? =some y)(hl:X.N[l]? =some z)(hx:Loc X.env.scope x)(hy:Loc X.env.scope y)(hz:Loc X.env.scope z)
 (hf:X.fn x=true\/X.env.scope.names.lookup x=some .local:=by first|exact .inl rfl|exact .inr rfl|assumption)(hf2:X.fn y=true\/X.env.scope.names.lookup y=some .local:=by first|exact .inl rfl|exact .inr rfl|assumption)(hf3:X.fn z=true\/X.env.scope.names.lookup z=some .local:=by first|exact .inl rfl|exact .inr rfl|assumption):
 JG X (.Tuple [.Name x p1,.Name y p2,.Name z p3] k pos) (gT3 i j l):=⟨(RR hc (ya (yQ hN hi hx hf) (ya (yQ hN hj hy hf2) (ya (yQ hN hl hz hf3) XW)))).imp (qp i j l)⟩
end
def kO (i j l:G5)(ta:TA):TS:=λD σ H=>ta σ H λvs H1=> ∃v w z,vs= [v,w,z]/\D.nx (((σ.set i (some v)).set j (some w)).set l (some z)) H1
def kQ (i j l:G5)(ta:TAD):TSD:=λD σ h=>ta σ h λds h1=> ∃v w z,ds= [v,w,z]/\D.nx (((σ.set i (some v)).set j (some w)).set l (some z)) h1
section
variable {X:Cx}{pos:Pos}
theorem Tb {i j l:G5}{x y z:Str}{a b c:T1}{ta:TA}{px py pz pt:Pos}{kt k2 pt2}(hc:X.calm=true)(hN:X.N.Nodup)(hi:X.N[i]? =some x)(hj:X.N[j]? =some y)(hl:X.N[l]? =some z)(hij:i≠j)(hil:i≠l)(hjl:j≠l)
 (hx:X.env.scope.names.lookup x=some .local)(hy:X.env.scope.names.lookup y=some .local)(hz:X.env.scope.names.lookup z=some .local)(ha:PA X [a,b,c] ta)
 (hw:Z6 [.Tuple [.Name x px,.Name y py,.Name z pz] kt pt] (.Tuple [a,b,c] k2 pt2) X.env=pure (some [x,y,z]))
 (hs:Z5 [.Tuple [.Name x px,.Name y py,.Name z pz] kt pt] (.Tuple [a,b,c] k2 pt2) pos.line X.env=pure false:=by rfl):
 PS X (.Assign [.Tuple [.Name x px,.Name y py,.Name z pz] kt pt] (.Tuple [a,b,c] k2 pt2) pos) (kO i j l ta):=by
 intro pins s σ H D I h;rw [oZ];refine wpAny_bind (aV ?_);rw [hs];refine wpAny_bind (D2 ?_);rw [D9 (by decide)];refine wpAny_bind (Tuple_ (thn (ha _ pins s σ H _ I h) λus s1 ⟨vs,H1,I1,r1,v,w,t,e1,q1⟩=> ?_));subst e1;obtain⟨u1,u2,u3,rfl,rv,rw',rt⟩: ∃u1 u2 u3,us= [u1,u2,u3]/\RelV v u1/\RelV w u2/\RelV t u3:=by
  cases r1 with
  |cons p q=>
   cases q with
   |cons p' q'=>
    cases q' with
    |cons p2 q2=>
     cases q2;exact⟨_,_,_,rfl,p,p',p2⟩
 refine V4 ?_ (by show 3<=sizeLine;decide);have I2:Inv X pins σ H1 {s1 with heap:=s1.heap.push {cls:= .type "tuple",data:= .seq [u1,u2,u3].toArray}}:=I1.kept (t':=s1.toks) λb o e=>P7 _ e
 rw [hw];refine wpAny_bind (D2 ?_);show S6 (T4 X.prog X.w) X.A (do rule "assign.swapped-stores";let items <-tV (.ref s1.heap.objs.size) 3 none;dP [λv=>cT X.env z v,λv=>cT X.env y v,λv=>cT X.env x v] items.reverse;pure Flow.next) _ _ _;refine wpAny_bind (cH (wpAny_bind (m8 (items:= #[u1,u2,u3]) (I.ok.hd hc) (IsTup.new s1.heap _) λh' hx'=> ?_)));have I3:=I2.kept (h':=h') (t':=s1.toks) λb o e=>hx' b o (M9 (S0 e)) e
 show S6 _ _ (dP [λv=>cT X.env z v,λv=>cT X.env y v,λv=>cT X.env x v] [u3,u2,u1] >>= λ_=>pure Flow.next) _ _ _;refine wpAny_bind (W8 (cU (yF I3 hN hl (.inl hz) rt (λs2 I4=> ?_) (.inr hz))));refine W8 (cU (yF I4 hN hj (.inl hy) rw' (λs3 I5=> ?_) (.inr hy)));refine W8 (cU (yF I5 hN hi (.inl hx) rv (λs4 I6=>gP (D2 ?_)) (.inr hx)));have e:((σ.set l (some t)).set j (some w)).set i (some v)=((σ.set i (some v)).set j (some w)).set l (some t):=by
  rw [gX _ _ (E8 hij),gX (i:=l) (j:=i) _ _ (E8 hil),gX (i:=l) (j:=j) _ _ (E8 hjl)]
 rw [e] at I6;exact⟨_,H1,I6,q1⟩
theorem Tc {K:G6}{i j l:G5}{ta:TAD}: ∀D σ H,LS K (kQ i j l ta) D σ H->kO i j l (LA K ta) D σ H:=λD σ H ⟨σd,h,Dd,rs,rh,q,nx,rt,bk,ct⟩=>
 LA.bind rs rh q λds vs h1 H1 k1 rs1 rh1 r1 ⟨x,y,z,e,q1⟩=>by
  subst e;obtain⟨v1,vr,e1,r0,rr⟩:=(show ∃v r,vs=v::r/\RelD K H1 x v/\RelDs K H1 [y,z] r from r1);obtain⟨v2,v3,e2,r2,r3⟩:=wJ rr;subst e1 e2;exact⟨v1,v2,v3,rfl,nx _ _ _ _ k1 (((rs1.set r0 i).set r2 j).set r3 l) rh1 q1⟩
theorem qr {i j l:G5}{x y z:Str}{a b c:T1}{ta:TAD}{px py pz pt:Pos}{kt k2 pt2}(hc:X.calm=true)(hN:X.N.Nodup)(hi:X.N[i]? =some x)(hj:X.N[j]? =some y)(hl:X.N[l]? =some z)(hij:i≠j)(hil:i≠l)(hjl:j≠l)
 (hx:X.env.scope.names.lookup x=some .local)(hy:X.env.scope.names.lookup y=some .local)(hz:X.env.scope.names.lookup z=some .local)(ha:JA X [a,b,c] ta)
 (hw:Z6 [.Tuple [.Name x px,.Name y py,.Name z pz] kt pt] (.Tuple [a,b,c] k2 pt2) X.env=pure (some [x,y,z]))
 (hs:Z5 [.Tuple [.Name x px,.Name y py,.Name z pz] kt pt] (.Tuple [a,b,c] k2 pt2) pos.line X.env=pure false:=by rfl):
 JS X (.Assign [.Tuple [.Name x px,.Name y py,.Name z pz] kt pt] (.Tuple [a,b,c] k2 pt2) pos) (kQ i j l ta):=⟨(Tb hc hN hi hj hl hij hil hjl hx hy hz ha.to hw hs).imp Tc⟩
end
def wr (f:G5->G8):G0 G5->G8->G5×G8
 | [],m=>(0,m)
 |j::l,m=>if f j<=m then wr f l (m-f j) else (j,m)
theorem Ze {f:G5->G8}(nn: ∀j,0<=f j): ∀ {l:G0 G5} {m:G8},0<=m->m<(l.map f).sum-> ∃l1 l2,l=l1++(wr f l m).1::l2/\m=(l1.map f).sum+(wr f l m).2/\0<=(wr f l m).2/\(wr f l m).2<f (wr f l m).1
 | [],m,h0,h=>by simp at h;omega
 |j::l,m,h0,h=>by
  unfold wr
  by_cases z:f j<=m
  ·rw [D8 z];rw [M1,b9] at h;obtain⟨l1,l2,e,s,a,b⟩:=Ze nn (l:=l) (m:=m-f j) (by omega) (by omega);exact⟨j::l1,l2,by rw [U3,<-e],by rw [M1,b9];omega,a,b⟩
  ·rw [D9 z];exact⟨[],l,rfl,by simp,h0,by show m<f j;omega⟩
section
variable (T:G0 (G0 G8))(n o:G5)
def wn:G5->G5->G8->G0 G5
 |0,p,_=> [p]
 |t+1,p,m=>p::wn t (wr (cnt T n o t) (wQ T n p) m).1 (wr (cnt T n o t) (wQ T n p) m).2
def gpN (k one:G5)(m:G8):G5->G5×G8
 |0=>(one,m)
 |i+1=>wr (cnt T n o (k-1-i)) (wQ T n (gpN k one m i).1) (gpN k one m i).2
def gwN (k one:G5)(m:G8)(i:G5):G0 G5:=(G3 (i+1)).map λt=>(gpN T n o k one m t).1
end
section
variable {T:G0 (G0 G8)}{n o:G5}
theorem Pg (k p:G5)(m:G8): ∀i,gpN T n o (k+1) p m (i+1)=gpN T n o k (wr (cnt T n o k) (wQ T n p) m).1 (wr (cnt T n o k) (wQ T n p) m).2 i
 |0=>by
  show wr (cnt T n o (k+1-1-0)) (wQ T n p) m=(_,_);rw [show k+1-1-0=k by omega]
 |i+1=>by
  show wr (cnt T n o (k+1-1-(i+1))) (wQ T n (gpN T n o (k+1) p m (i+1)).1) (gpN T n o (k+1) p m (i+1)).2=wr (cnt T n o (k-1-i)) _ _;rw [Pg k p m i,show k+1-1-(i+1)=k-1-i by omega]
theorem CZ: ∀ (k p:G5) (m:G8),gwN T n o k p m k=wn T n o k p m
 |0,p,m=>rfl
 |k+1,p,m=>by
  unfold gwN;rw [Q0,M1,S2];show p::_=p::_
  congr 1
  rw [<-CZ k];unfold gwN;refine M5 λi _=> ?_
  show (gpN T n o (k+1) p m (i+1)).1=_;rw [Pg]
theorem Fa {k one:G5}{m:G8}(h1:one<n)(h0:0<=m)(h:m<cnt T n o k one): ∀i,i<=k->(gpN T n o k one m i).1<n/\0<=(gpN T n o k one m i).2/\(gpN T n o k one m i).2<cnt T n o (k-i) (gpN T n o k one m i).1
 |0,_=>⟨h1,h0,h⟩
 |i+1,hi=>by
  obtain⟨a,b,c⟩:=Fa h1 h0 h i (by omega);rw [show k-i=(k-1-i)+1 by omega] at c;obtain⟨l1,l2,e,s,x,y⟩:=Ze (f:=cnt T n o (k-1-i)) (λj=>Ua _ j) b c;refine⟨Pe (p:=(gpN T n o k one m i).1) (by rw [e];simp [gpN]),x,?_⟩;rw [show k-(i+1)=k-1-i by omega];exact y
theorem DL (t p:G5)(m:G8): ∃r,wn T n o t p m=p::r/\r.length=t:=by
 induction t generalizing p m with
 |zero=>exact⟨[],rfl,rfl⟩
 |succ t ih=>
  obtain⟨r,e,l⟩:=ih (wr (cnt T n o t) (wQ T n p) m).1 (wr (cnt T n o t) (wQ T n p) m).2;exact⟨_,rfl,by rw [e,R7,l]⟩
theorem kT {k one:G5}{m:G8}(h1:one<n)(h0:0<=m)(h:m<cnt T n o k one): ∀x∈wn T n o k one m,x<n:=λx hx=>by
 rw [<-CZ] at hx;obtain⟨t,ht,rfl⟩:=R8.mp hx;exact(Fa h1 h0 h t (by have:=P6.mp ht;omega)).1
theorem kU (t p:G5)(m:G8):(wn T n o t p m).length=t+1:=by
 obtain⟨r,e,l⟩:=DL (T:=T) (n:=n) (o:=o) t p m;rw [e,R7,l]
theorem Fb: ∀ (t p:G5) {m:G8},0<=m->m<cnt T n o t p->(wn T n o t p m)[t]? =some o
 |0,p,m,h0,h=>by
  have h':m<if p=o then 1 else 0:=h
  by_cases z:p=o
  ·rw [z];rfl
  ·rw [D9 z] at h';omega
 |t+1,p,m,h0,h=>by
  obtain⟨l1,l2,e,s,a,b⟩:=Ze (f:=cnt T n o t) (λj=>Ua t j) h0 h;exact Fb t _ a b
theorem Fc: ∀ (t p:G5) {m:G8},0<=m->m<cnt T n o t p->Qy T (wn T n o t p m)=true
 |0,p,m,h0,h=>rfl
 |t+1,p,m,h0,h=>by
  obtain⟨l1,l2,e,s,a,b⟩:=Ze (f:=cnt T n o t) (λj=>Ua t j) h0 h;have ih:=Fc t _ a b;show Qy T (p::wn T n o t (wr (cnt T n o t) (wQ T n p) m).1 (wr (cnt T n o t) (wQ T n p) m).2)=true;generalize (wr (cnt T n o t) (wQ T n p) m).1=j at*
  generalize (wr (cnt T n o t) (wQ T n p) m).2=m' at*
  obtain⟨r,er,lr⟩:=DL (T:=T) (n:=n) (o:=o) t j m';have hj:ent T p j>0:=N2 (M7.mp (show j∈wQ T n p by rw [e];simp)).2;rw [er] at ih ⊢;unfold Qy at ih ⊢;simp only [List.drop_succ_cons,dD,aL,gY,List.isEmpty_cons,Bool.not_false,dU] at ih ⊢;rw [G9 hj,ih];rfl
end
section
variable {X:Cx}{iter iter' elt:T1}{ti ti':TID}{tt tt':TTD}{te:TED}{pos:Pos}{scope:U5}{js:G0 G5}{ifs ifs':G0 T1}
theorem jbm {i j l:G5}{x y z:Str}{p1 p2 p3 pz:Pos}{k:G5}(hc:X.calm=true)(S:BlockOk X scope js)(hi:QI X (.Tuple [.Name x p1,.Name y p2] k p3) iter ti)(mi:i∈js)(mj:j∈js)(ml:l∈js)(hij:i≠j)(hil:i≠l)(hjl:j≠l)(hN:X.N.Nodup)(hx:X.N[i]? =some x)(hy:X.N[j]? =some y)(hz:X.N[l]? =some z)
 (h1:scope.names.lookup x=some .local\/scope.names.lookup x=some .cell)(h2:scope.names.lookup y=some .local\/scope.names.lookup y=some .cell)(h3:scope.names.lookup z=some .local\/scope.names.lookup z=some .cell)
 (ht: ∀X',ji X scope X'->PTs X' ifs (LT X'.K tt))(hi': ∀X',ji X scope X'->QI X' (.Name z pz) iter' ti')(ht': ∀X',ji X scope X'->PTs X' ifs' (LT X'.K tt'))(he: ∀X',ji X scope X'->QE X' elt te)
 (hs: ∀x,S9 iter X.env x=pure x:=by intro _;rfl)(hs': ∀env x,S9 iter' env x=pure x:=by intro _ _;rfl):
 QE X (.ListComp elt [⟨.Tuple [.Name x p1,.Name y p2] k p3,iter,ifs,0⟩,⟨.Name z pz,iter',ifs',0⟩] scope pos) (Dt (b2 i j) js ti tt l ti' tt' te):=
 (show PE X _ (Kf js (LI X.K ti) (TX X.K 2 (YI (wA i) (YI (wA j) TW))) (LT X.K tt) (LI X.K ti') (wA l) (LT X.K tt') (LE X.K te)) from AS hc S hi (λX' hX=>by
  obtain⟨C,s₀,H₀,ex,rfl⟩:=hX;exact RR hc (ya (wj hN hx h1) (ya (wj hN hy h2) XW))) (λX' hX=>by have:=ht X' hX;obtain⟨C,s₀,H₀,ex,rfl⟩:=hX;exact this) (λX' hX=>by have:=hi' X' hX;obtain⟨C,s₀,H₀,ex,rfl⟩:=hX;exact this)
  (λX' hX=>by obtain⟨C,s₀,H₀,ex,rfl⟩:=hX;exact wj hN hz h3) (λX' hX=>by have:=ht' X' hX;obtain⟨C,s₀,H₀,ex,rfl⟩:=hX;exact this)
  (λX' hX=>by have:=he X' hX;obtain⟨C,s₀,H₀,ex,rfl⟩:=hX;exact this) hs hs').imp (BT (KI mi mj ml hij hil hjl))
theorem jbn {i j l:G5}{x y z:Str}{p1 p2 p3 pz:Pos}{k:G5}(hc:X.calm=true)(S:BlockOk X scope js)(hi:JI X (.Tuple [.Name x p1,.Name y p2] k p3) iter ti)(mi:i∈js)(mj:j∈js)(ml:l∈js)(hij:i≠j)(hil:i≠l)(hjl:j≠l)(hN:X.N.Nodup)(hx:X.N[i]? =some x)(hy:X.N[j]? =some y)(hz:X.N[l]? =some z)
 (h1:scope.names.lookup x=some .local\/scope.names.lookup x=some .cell)(h2:scope.names.lookup y=some .local\/scope.names.lookup y=some .cell)(h3:scope.names.lookup z=some .local\/scope.names.lookup z=some .cell)
 (ht: ∀X',ji X scope X'->PTs X' ifs (LT X'.K tt))(hi': ∀X',ji X scope X'->JI X' (.Name z pz) iter' ti')(ht': ∀X',ji X scope X'->PTs X' ifs' (LT X'.K tt'))(he: ∀X',ji X scope X'->JE X' elt te)
 (hs: ∀x,S9 iter X.env x=pure x:=by intro _;rfl)(hs': ∀env x,S9 iter' env x=pure x:=by intro _ _;rfl):
 JE X (.ListComp elt [⟨.Tuple [.Name x p1,.Name y p2] k p3,iter,ifs,0⟩,⟨.Name z pz,iter',ifs',0⟩] scope pos) (Dt (b2 i j) js ti tt l ti' tt' te):=⟨jbm hc S hi.to mi mj ml hij hil hjl hN hx hy hz h1 h2 h3 ht (λX' hX=>(hi' X' hX).to) ht' (λX' hX=>(he X' hX).to) hs hs'⟩
end
section
variable {α β:Type}{i i2 i':G5}{js:G0 G5}{ti ti':TID}{te:TED}{σ:SD}{h:HD}{Q:KD}{j:ItD}
theorem lcT (xs:G0 α)(c c2:α->D)(ys:α->G0 β)(c':β->D)(g:α->β->D)(hz:(xs.flatMap ys).length<=1000)(hj:j h=some (xs.map λx=> .tup [c x,c2 x]))(ht: ∀R:ItD->HD->Prop,R j h->ti σ h R)
 (hin: ∀x∈xs,∀R:ItD->HD->Prop,R (λ_=>some ((ys x).map c')) h->ti' (((jJ js σ).set i (some (c x))).set i2 (some (c2 x))) h R)
 (he: ∀x∈xs,∀y∈ys x,∀Q':KD,Q' (g x y) h->te ((((jJ js σ).set i (some (c x))).set i2 (some (c2 x))).set i' (some (c' y))) h Q')(hq: ∀p,h p=none->Q (.lst p) (wB h p (xs.flatMap λx=>(ys x).map (g x)))):Dt (b2 i i2) js ti vT i' ti' vT te σ h Q:=by
 have len: ∀l:G0 α,(l.flatMap λx=>(ys x).map (g x)).length=(l.flatMap ys).length:=λl=>by
  induction l with
  |nil=>rfl
  |cons x l ih=>simp [H0,ih]
 have lek: ∀k,((xs.take k).flatMap ys).length<=(xs.flatMap ys).length:=λk=>by
  conv=>rhs;rw [<-T7 k xs,K0,P2]
  omega
 have lek1: ∀k x m,xs[k]? =some x->m<=(ys x).length->((xs.take k).flatMap ys).length+m<=(xs.flatMap ys).length:=λk x m hx hm=>by
  have:=lek (k+1);rw [N7,hx,K0,P2] at this;simp at this;simp;omega
 refine ht _ ⟨xs.length,λk zs h'=>h'=h/\zs=(xs.take k).flatMap λx=>(ys x).map (g x),⟨rfl,by simp⟩,?_⟩;rintro k zs h' ⟨rfl,rfl⟩;refine⟨by rw [len];exact S1 (ju (T5 (lek k) hz)),_,hj,by simp,λhl p hp=> ?_,λd hd=> ?_⟩
 ·rw [S5 (by simpa using hl)];exact hq p hp
 ·rw [P9] at hd;cases hx:xs[k]? with
  |none=>rw [hx] at hd;cases hd
  |some x=>
   rw [hx] at hd;injection hd with hd
   refine⟨_,⟨c x,c2 x,hd.symm,rfl⟩,?_⟩;unfold vT;dsimp only;rw [D8 rfl];have xm:=D0 hx;refine hin x xm _ ⟨(ys x).length,λm zs h2=>h2=h'/\zs=((xs.take k).flatMap λx=>(ys x).map (g x))++((ys x).take m).map (g x),⟨rfl,by simp⟩,?_⟩;rintro m zs h2 ⟨rfl,rfl⟩;refine⟨?_,(ys x).map c',rfl,by simp,λhl=>⟨h2,Sub.refl _,rfl,?_⟩,λd hd=> ?_⟩
   ·rw [P2,len,G1,T0];have:=lek1 k x (min m (ys x).length) hx (aF _ _);exact S1 (ju (by omega))
   ·have hm:(ys x).take m=ys x:=S5 (by simpa using hl);rw [hm,N7,hx,K0];simp
   ·rw [P9] at hd;cases hy:(ys x)[m]? with
    |none=>rw [hy] at hd;cases hd
    |some y=>
     rw [hy] at hd;cases hd
     first
      |rw [D8 rfl]
      |(dsimp only;rw [D8 rfl])
     refine he x xm y (D0 hy) _ ⟨h2,Sub.refl _,rfl,?_⟩;rw [N7,hy];simp
theorem jbo (xs:G0 α)(c c2:α->D)(ys:α->G0 β)(c':β->D)(g:α->β->T9)(hz:(xs.flatMap ys).length<=1000)(hj:j h=some (xs.map λx=> .tup [c x,c2 x]))(ht: ∀R:ItD->HD->Prop,R j h->ti σ h R)
 (hin: ∀x∈xs,∀R:ItD->HD->Prop,R (λ_=>some ((ys x).map c')) h->ti' (((jJ js σ).set i (some (c x))).set i2 (some (c2 x))) h R)
 (he: ∀x∈xs,∀y∈ys x,∀Q':KD,Q' (.bl (g x y)) h->te ((((jJ js σ).set i (some (c x))).set i2 (some (c2 x))).set i' (some (c' y))) h Q')(hq:Q (.bl (xs.all λx=>(ys x).all (g x))) h):dCB BZ (zg (Dt (b2 i i2) js ti vT i' ti' vT te) Zx) σ h Q:=by
 show Dt (b2 i i2) js ti vT i' ti' vT te σ h (λx h1=>BZ [x] h1 Q);refine lcT xs c c2 ys c' (λx y=> .bl (g x y)) hz hj ht hin he λp hp=> ?_
 have e:(xs.flatMap λx=>(ys x).map λy=>D.bl (g x y))=(xs.flatMap λx=>(ys x).map (g x)).map D.bl:=by
  clear hz hj ht hin he hq
  induction xs with
  |nil=>rfl
  |cons x l ih=>simp [H0,ih,S2]
 refine⟨p,xs.flatMap λx=>(ys x).map (g x),rfl,by rw [jc,e],?_⟩;have e2:(xs.flatMap λx=>(ys x).map (g x)).all id=xs.all λx=>(ys x).all (g x):=by
  clear hz hj ht hin he hq e
  induction xs with
  |nil=>rfl
  |cons x l ih=>rw [H0,List.all_append,ih,gY,E4];rfl
 rw [zf hp]
 first
  |(rw [e2];exact hq)
  |(show Q (.bl ((xs.flatMap λx=>(ys x).map (g x)).all λb=>b)) h;rw [show ((xs.flatMap λx=>(ys x).map (g x)).all λb=>b)=_ from e2];exact hq)
end
end L2
namespace L2
theorem IsS.ext {n:G5}{S S':G0 G5}(h:IsS n S)(h':IsS n S')(m: ∀j,j∈S↔j∈S'):S=S':=by
 obtain⟨p,rfl⟩:=h;obtain⟨q,rfl⟩:=h';refine gS λj hj=> ?_
 have:=m j;rw [M7,M7] at this;have e:p j=true↔q j=true:=⟨λz=>(this.mp ⟨hj,z⟩).2,λz=>(this.mpr ⟨hj,z⟩).2⟩;cases hp:p j<;>cases hq:q j<;>simp_all
inductive Made (L:G0 G5):G5->Prop
 |z:Made L 0
 |s {n l:G5}:Made L n->l∈L->Made L (n+l)
theorem QB: ∀ (L:G0 G5) (g d:G5),d∣L.foldl bO g↔d∣g/\ ∀l∈L,d∣l
 | [],g,d=>by simp
 |x::L,g,d=>by
  show d∣L.foldl bO (bO g x)↔_;rw [QB L,Nat.dvd_gcd_iff];simp only [T6,forall_eq_or_imp];exact⟨λ⟨⟨a,b⟩,c⟩=>⟨a,b,c⟩,λ⟨a,b,c⟩=>⟨⟨a,b⟩,c⟩⟩
end L2
namespace HT
open PySem PyProof.Rows
section
variable {prog:M0}{w:C6}{A:C5}{E:G7->P0->Prop}{σ α β:Type}{J:P0->Prop}
def Tm (prog:M0)(w:C6)(A:C5)(E:G7->P0->Prop)(J:P0->Prop){σ α:Type}(m:V1 σ Sem α)(Q:α->σ->Prop)(st:σ):Prop:=
 ∀s,J s->S6 (T4 prog w) A (m.run st) (λr s'=>Q r.1 r.2/\J s') E s
theorem Tm.pure {a:α}{Q:α->σ->Prop}{st:σ}(h:Q a st):Tm prog w A E J (Pure.pure a:V1 σ Sem α) Q st:=λs j=>by
 rw [StateT.run_pure];exact D2 ⟨h,j⟩
theorem Tm.bind {m:V1 σ Sem α}{f:α->V1 σ Sem β}{Q:β->σ->Prop}{st:σ}(h:Tm prog w A E J m (λa st'=>Tm prog w A E J (f a) Q st') st):Tm prog w A E J (m >>= f) Q st:=λs j=>by
 rw [StateT.run_bind];exact wpAny_bind (N0 (h s j) (λr s' x=>x.1 s' x.2) λ_ _ e=>e)
theorem Tm.get {Q:σ->σ->Prop}{st:σ}(h:Q st st):Tm prog w A E J (MonadState.get:V1 σ Sem σ) Q st:=λs j=>by
 show S6 _ _ ((StateT.get:V1 σ Sem σ).run st) _ _ _;exact D2 ⟨h,j⟩
theorem Tm.mono {m:V1 σ Sem α}{Q Q':α->σ->Prop}{st:σ}(h:Tm prog w A E J m Q st)(q: ∀a st',Q a st'->Q' a st'):Tm prog w A E J m Q' st:=λs j=>
 N0 (h s j) (λr s' x=>⟨q _ _ x.1,x.2⟩) λ_ _ e=>e
theorem Tm.range' {f:G5->β->V1 σ Sem (fL β)}(I:G5->β->σ->Prop){Q:β->σ->Prop}{b:G5}(step: ∀i c st,i<b->I i c st->Tm prog w A E J (f i c) (λr st'=>match r with| .done c'=>Q c' st'| .yield c'=>I (i+1) c' st') st)(fin: ∀c st,I b c st->Q c st):
 ∀ (k i:G5) (c:β) (st:σ),i+k=b->I i c st->Tm prog w A E J (forIn (t8 i k) c f) Q st
 |0,i,c,st,e,h=>by
  rw [List.range'_zero,rG];exact .pure (fin c st (by rw [<-e];exact h))
 |k+1,i,c,st,e,h=>by
  rw [iA,eO];refine .bind ((step i c st (by omega) h).mono λr st' x=> ?_);cases r with
  |done c'=>exact .pure x
  |yield c'=>exact Tm.range' I step fin k (i+1) c' st' (by omega) x
theorem Tm.range {f:G5->β->V1 σ Sem (fL β)}(I:G5->β->σ->Prop){Q:β->σ->Prop}{a b:G5}{c:β}{st:σ}(hab:a<=b)(h:I a c st)(step: ∀i c st,i<b->I i c st->Tm prog w A E J (f i c) (λr st'=>match r with| .done c'=>Q c' st'| .yield c'=>I (i+1) c' st') st)(fin: ∀c st,I b c st->Q c st):
 Tm prog w A E J (forIn [a:b] c f) Q st:=λs j=>by
 rw [bG];have e:([a:b]:Std.Legacy.Range).size=b-a:=by simp [tP]
 rw [e];exact Tm.range' I step fin (b-a) a c st (by omega) h s j
end
section
variable {prog:M0}{w:C6}{A:C5}{E:G7->P0->Prop}{J:P0->Prop}{κ:SortKind}{U:D7->Prop}{R:D7->D7->T9}
def QC (prog:M0)(w:C6)(A:C5)(J:P0->Prop)(κ:SortKind)(U:D7->Prop)(R:D7->D7->T9):Prop:=
 ∀x y,U x->U y-> ∀s,J s->S6 (T4 prog w) A (keyLt' κ x.1 y.1) (λb s'=>b=R x y/\J s') (λ_ _=>False) s
theorem Tm.lt {x y:D7}{st:B6}{Q:D4 T9->B6->Prop}(a:QC prog w A J κ U R)(k:kindOf st=κ)(hx:U x)(hy:U y)(q:Q (some (R x y)) st):Tm prog w A E J (lt' x y) Q st:=by
 rw [lt'_eq];refine .bind (.get ?_);rw [k];intro s j;rw [StateT.run_bind];refine wpAny_bind ?_;show S6 _ _ ((StateT.lift _:V1 B6 Sem _).run st) _ _ _;rw [StateT.run_lift];refine wpAny_bind (sD (N0 (a x y hx hy s j) (λb s' x=> ?_) λ_ _ e=>e.elim));obtain⟨rfl,j'⟩:=x;exact D2 (Tm.pure (prog:=prog) (w:=w) (A:=A) (E:=E) (J:=J) q s' j')
theorem Tm.elem {arr:N8 D7}{i:G5}{x:D7}{st:B6}{Q:D7->B6->Prop}(e:arr[i]? =some x)(q:Q x st):Tm prog w A E J (elem' arr i) Q st:=by
 rw [elem'_eq,e];exact .pure q
theorem kX {n lo hi:G5}{g:G5->T9}{st:B6}{f:G5->D4 (D4 G5)×G5×G5->V1 B6 Sem (fL (D4 (D4 G5)×G5×G5))}(anti: ∀i j,i<=j->j<n->g j=true->g i=true)
 (h1:lo<=hi)(h2:hi<=n)(a1: ∀i,i<lo->g i=true)(a2: ∀i,hi<=i->i<n->g i=false)
 (stop: ∀i l,Tm prog w A E J (f i (none,l,l)) (λr st'=>st'=st/\r= .done (none,l,l)) st)
 (step: ∀i l u,l<u->u<=n->Tm prog w A E J (f i (none,l,u)) (λr st'=>st'=st/\r=if g (l+(u-l) / 2)=true then .yield (none,l+(u-l) / 2+1,u) else .yield (none,l,l+(u-l) / 2)) st):
 Tm prog w A E J (forIn [0:n] (none,lo,hi) f) (λc st'=>st'=st/\c.1=none/\c.2.2<=n/\(∀i,i<c.2.2->g i=true)/\ ∀i,c.2.2<=i->i<n->g i=false) st:=by
 have no: ∀i j,i<=j->j<n->g i=false->g j=false:=λi j hij hj z=>by
  cases hb:g j with
  |false=>rfl
  |true=>rw [anti i j hij hj hb] at z;cases z
 refine Tm.range (λi c st'=>st'=st/\c.1=none/\c.2.1<=c.2.2/\c.2.2<=n/\(∀i,i<c.2.1->g i=true)/\(∀i,c.2.2<=i->i<n->g i=false)/\c.2.2-c.2.1+i<=n) (N4 _) ⟨rfl,rfl,h1,h2,a1,a2,by dsimp only;omega⟩ ?_ ?_
 ·rintro i ⟨r,l,u⟩ _ hi ⟨rfl,hr,b1,b2,b3,b4,b5⟩;dsimp only at hr b1 b2 b3 b4 b5;subst hr
  by_cases z:l=u
  ·subst z;refine(stop i l).mono ?_;rintro _ _ ⟨rfl,rfl⟩;exact⟨rfl,rfl,b2,b3,b4⟩
  ·refine(step i l u (by omega) b2).mono ?_;rintro _ _ ⟨rfl,rfl⟩;cases hg:g (l+(u-l) / 2) with
   |true=>
    rw [D8 rfl];exact⟨rfl,rfl,by dsimp only;omega,b2,λj hj=>anti j _ (by dsimp only at hj;omega) (by omega) hg,b4,by dsimp only;omega⟩
   |false=>
    rw [D9 (by decide)];exact⟨rfl,rfl,by dsimp only;omega,by dsimp only;omega,b3,λj hj hn=>no _ j hj hn hg,by dsimp only;omega⟩
 ·rintro ⟨r,l,u⟩ _ ⟨rfl,hr,b1,b2,b3,b4,b5⟩;dsimp only at hr b1 b2 b3 b4 b5 ⊢;exact⟨rfl,hr,b2,λj hj=>b3 j (by omega),b4⟩
def gal:T9->D7->N8 D7->G5->G5->G5->V1 B6 Sem (D4 G5):=sortPriv% PySem.Builtin.gallop
def byd (R:D7->D7->T9)(left:T9)(key:D7)(arr:N8 D7)(base i:G5):T9:=
 match arr[base+i]? with
 |some x=>if left=true then R x key else !R key x
 |none=>false
theorem Fd {left:T9}{key:D7}{arr:N8 D7}{base n hint:G5}{st:B6}{Q:D4 G5->B6->Prop}(a:QC prog w A J κ U R)(k:kindOf st=κ)(uk:U key)(ua: ∀i,i<n-> ∃x,arr[base+i]? =some x/\U x)
 (anti: ∀i j,i<=j->j<n->byd R left key arr base j=true->byd R left key arr base i=true)(hh:hint<n)
 (q: ∀m,m<=n->(∀i,i<m->byd R left key arr base i=true)->(∀i,m<=i->i<n->byd R left key arr base i=false)->Q (some m) st):Tm prog w A E J (gal left key arr base n hint) Q st:=by
 have ask: ∀i (Q':D4 T9->B6->Prop),i<n->Q' (some (byd R left key arr base i)) st->Tm prog w A E J (do let x <-elem' arr (base+i);if left=true then lt' x key else do let b <-lt' key x;Pure.pure (b.map λz=> !z)) Q' st:=λi Q' hi q'=>by
  obtain⟨x,ex,ux⟩:=ua i hi;refine .bind (.elem ex ?_);unfold byd at q';rw [ex] at q';cases left with
  |true=>exact .lt a k ux uk q'
  |false=>exact .bind (.lt a k uk ux (.pure q'))
 have no: ∀i j,i<=j->j<n->byd R left key arr base i=false->byd R left key arr base j=false:=λi j hij hj z=>by
  cases hb:byd R left key arr base j with
  |false=>rfl
  |true=>rw [anti i j hij hj hb] at z;cases z
 unfold gal;refine .bind (ask hint _ hh ?_);dsimp only;cases hb:byd R left key arr base hint with
 |true=>
  rw [D8 rfl];refine .bind (Tm.mono (Tm.range (λi c st'=>st'=st/\c.1=none/\c.2.1<c.2.2/\hint+c.2.1<n/\byd R left key arr base (hint+c.2.1)=true/\i+1<=c.2.2)
   (Q:=λc st'=>st'=st/\c.1=none/\c.2.1<c.2.2/\hint+c.2.1<n/\byd R left key arr base (hint+c.2.1)=true/\(n-hint<=c.2.2\/byd R left key arr base (hint+c.2.2)=false)) (N4 _) ⟨rfl,rfl,by decide,by omega,by simpa using hb,by decide⟩ ?_ ?_) ?_)
  ·rintro i ⟨r,lo,of⟩ _ hi ⟨rfl,hr,h1,h2,h3,h4⟩;dsimp only at hr h1 h2 h3 h4 ⊢;subst hr
   by_cases z:of>=n-hint
   ·rw [D8 z];exact .pure ⟨rfl,rfl,h1,h2,h3,.inl z⟩
   ·rw [D9 z];refine .bind (ask (hint+of) _ (by omega) ?_);dsimp only;cases hc:byd R left key arr base (hint+of) with
    |true=>exact .pure ⟨rfl,rfl,by dsimp only;omega,by dsimp only;omega,hc,by dsimp only;omega⟩
    |false=>exact .pure ⟨rfl,rfl,h1,h2,h3,.inr hc⟩
  ·rintro ⟨r,lo,of⟩ _ ⟨rfl,hr,h1,h2,h3,h4⟩;exact⟨rfl,hr,h1,h2,h3,.inl (by dsimp only at h4 ⊢;omega)⟩
  ·rintro ⟨r,lo,of⟩ _ ⟨rfl,hr,h1,h2,h3,h4⟩;dsimp only at hr h1 h2 h3 h4 ⊢;subst hr;dsimp only;refine .bind (Tm.mono (kX (g:=byd R left key arr base) anti (by omega) (by omega) (λi hi=>anti i _ (by omega) h2 h3) (λi hi hn=> ?_) (λi l=> ?_) (λi l u hl hu=> ?_)) ?_)
   ·rcases h4 with z|z
    ·omega
    ·exact no (hint+of) i (by omega) hn z
   ·rw [D8 (P5 l)];exact .pure ⟨rfl,rfl⟩
   ·rw [D9 (show ¬l>=u by omega)];refine .bind (ask (l+(u-l) / 2) _ (by omega) ?_);dsimp only;cases byd R left key arr base (l+(u-l) / 2)<;>exact .pure ⟨rfl,rfl⟩
   ·rintro ⟨r,l,u⟩ _ ⟨rfl,hr,b2,b3,b4⟩;dsimp only at hr b2 b3 b4 ⊢;subst hr;exact .pure (q u b2 b3 b4)
 |false=>
  rw [D9 (by decide)];refine .bind (Tm.mono (Tm.range (λi c st'=>st'=st/\c.1=none/\c.2.1<c.2.2/\c.2.1<=hint/\byd R left key arr base (hint-c.2.1)=false/\i+1<=c.2.2)
   (Q:=λc st'=>st'=st/\c.1=none/\c.2.1<c.2.2/\c.2.1<=hint/\byd R left key arr base (hint-c.2.1)=false/\(hint+1<=c.2.2\/byd R left key arr base (hint-c.2.2)=true)) (N4 _) ⟨rfl,rfl,by decide,by dsimp only;omega,by simpa using hb,by decide⟩ ?_ ?_) ?_)
  ·rintro i ⟨r,lo,of⟩ _ hi ⟨rfl,hr,h1,h2,h3,h4⟩;dsimp only at hr h1 h2 h3 h4 ⊢;subst hr
   by_cases z:of>=hint+1
   ·rw [D8 z];exact .pure ⟨rfl,rfl,h1,h2,h3,.inl z⟩
   ·rw [D9 z];refine .bind (ask (hint-of) _ (by omega) ?_);dsimp only;cases hc:byd R left key arr base (hint-of) with
    |false=>exact .pure ⟨rfl,rfl,by dsimp only;omega,by dsimp only;omega,hc,by dsimp only;omega⟩
    |true=>exact .pure ⟨rfl,rfl,h1,h2,h3,.inr hc⟩
  ·rintro ⟨r,lo,of⟩ _ ⟨rfl,hr,h1,h2,h3,h4⟩;exact⟨rfl,hr,h1,h2,h3,.inl (by dsimp only at h4 ⊢;omega)⟩
  ·rintro ⟨r,lo,of⟩ _ ⟨rfl,hr,h1,h2,h3,h4⟩;dsimp only at hr h1 h2 h3 h4 ⊢;subst hr;dsimp only;refine .bind (Tm.mono (kX (g:=byd R left key arr base) anti (by omega) (by omega) (λi hi=> ?_) (λi hi hn=>no _ i hi hn h3) (λi l=> ?_) (λi l u hl hu=> ?_)) ?_)
   ·rcases h4 with z|z
    ·omega
    ·exact anti i (hint-of) (by omega) (by omega) z
   ·rw [D8 (P5 l)];exact .pure ⟨rfl,rfl⟩
   ·rw [D9 (show ¬l>=u by omega)];refine .bind (ask (l+(u-l) / 2) _ (by omega) ?_);dsimp only;cases byd R left key arr base (l+(u-l) / 2)<;>exact .pure ⟨rfl,rfl⟩
   ·rintro ⟨r,l,u⟩ _ ⟨rfl,hr,b2,b3,b4⟩;dsimp only at hr b2 b3 b4 ⊢;subst hr;exact .pure (q u b2 b3 b4)
end
section
variable {κ:Type}{U:κ->Prop}{R:κ->κ->T9}{al bl:G0 κ}
structure Ordd (U:κ->Prop)(R:κ->κ->T9):Prop where
 asym: ∀x y,U x->U y->R x y=true->R y x=false
 neg: ∀x y z,U x->U y->U z->R x z=true->R x y=true\/R y z=true
theorem Ordd.refl (o:Ordd U R){x:κ}(u:U x):R x x=false:=by
 cases h:R x x with
 |false=>rfl
 |true=>have:=o.asym x x u u h;rw [h] at this;exact this
theorem Ordd.trans (o:Ordd U R){x y z:κ}(ux:U x)(uy:U y)(uz:U z)(a:R y x=false)(b:R z y=false):R z x=false:=by
 cases h:R z x with
 |false=>rfl
 |true=>
  rcases o.neg z y x uz uy ux h with z|z
  ·rw [b] at z;cases z
  ·rw [a] at z;cases z
abbrev Srt (R:κ->κ->T9)(l:G0 κ):Prop:=l.Pairwise λx y=>R y x=false
structure MI (R:κ->κ->T9)(al bl:G0 κ)(ia ib:G5)(out:G0 κ):Prop where
 perm:out.Perm (al.take ia++bl.take ib)
 srt:Srt R out
 ra: ∀x∈out,∀y∈al.drop ia,R y x=false
 rb: ∀x∈out,∀y∈bl.drop ib,R y x=false
theorem zQ {l:G0 κ}{i:G5}{y:κ}(h:l[i]? =some y):l.drop i=y::l.drop (i+1):=by
 obtain⟨hi,e⟩:=P8.mp h;rw [gJ hi,e]
theorem Ub {l:G0 κ}{i:G5}{y:κ}(h:l[i]? =some y):l.take (i+1)=l.take i++ [y]:=by
 rw [N7,h];rfl
theorem MI.start (al bl:G0 κ):MI R al bl 0 0 []:=⟨.refl _,.nil,λx hx=>(A8 hx).elim,λx hx=>(A8 hx).elim⟩
variable {ia ib:G5}
theorem MI.pushB {out:G0 κ}{y:κ}(m:MI R al bl ia ib out)(o:Ordd U R)(ua: ∀x∈al,U x)(ub: ∀x∈bl,U x)(sa:Srt R al)(sb:Srt R bl)(hy:bl[ib]? =some y)(lt: ∀z,al[ia]? =some z->R y z=true):MI R al bl ia (ib+1) (out++ [y]):=by
 have dy:=zQ hy;have uy:=ub y (D0 hy);have sdb:Srt R (bl.drop ib):=sb.sublist (Q1 _ _);rw [dy] at sdb;refine⟨?_,?_,λx hx z hz=> ?_,λx hx z hz=> ?_⟩
 ·rw [Ub hy,<-D3];exact m.perm.append_right _
 ·refine B0.mpr ⟨m.srt,L0 _ _,λx hx z hz=> ?_⟩;rw [P1.mp hz];exact m.rb x hx y (by rw [dy];exact R3 ..)
 ·rcases R1.mp hx with w|w
  ·exact m.ra x w z hz
  ·rw [P1.mp w];cases e:al[ia]? with
   |none=>rw [L7 (gK.mp e)] at hz;cases hz
   |some a0=>
    have da:=zQ e;have ua0:=ua a0 (D0 e);have sda:Srt R (al.drop ia):=sa.sublist (Q1 _ _);rw [da] at sda hz;have l0:=o.asym y a0 uy ua0 (lt a0 e);rcases T6.mp hz with v|v
    ·rw [v];exact l0
    ·exact o.trans uy ua0 (ua z (F9 v)) l0 ((aO.mp sda).1 z v)
 ·rcases R1.mp hx with w|w
  ·exact m.rb x w z (by rw [dy];exact S3 _ hz)
  ·rw [P1.mp w];exact(aO.mp sdb).1 z hz
theorem MI.pushA {out:G0 κ}{y:κ}(m:MI R al bl ia ib out)(o:Ordd U R)(ua: ∀x∈al,U x)(ub: ∀x∈bl,U x)(sa:Srt R al)(sb:Srt R bl)(hy:al[ia]? =some y)(ge: ∀z,bl[ib]? =some z->R z y=false):MI R al bl (ia+1) ib (out++ [y]):=by
 have dy:=zQ hy;have uy:=ua y (D0 hy);have sda:Srt R (al.drop ia):=sa.sublist (Q1 _ _);rw [dy] at sda;refine⟨?_,?_,λx hx z hz=> ?_,λx hx z hz=> ?_⟩
 ·rw [Ub hy];refine(m.perm.append_right [y]).trans ?_;rw [D3,D3];exact(aX).append_left _
 ·refine B0.mpr ⟨m.srt,L0 _ _,λx hx z hz=> ?_⟩;rw [P1.mp hz];exact m.ra x hx y (by rw [dy];exact R3 ..)
 ·rcases R1.mp hx with w|w
  ·exact m.ra x w z (by rw [dy];exact S3 _ hz)
  ·rw [P1.mp w];exact(aO.mp sda).1 z hz
 ·rcases R1.mp hx with w|w
  ·exact m.rb x w z hz
  ·rw [P1.mp w];cases e:bl[ib]? with
   |none=>rw [L7 (gK.mp e)] at hz;cases hz
   |some b0=>
    have db:=zQ e;have ub0:=ub b0 (D0 e);have sdb:Srt R (bl.drop ib):=sb.sublist (Q1 _ _);rw [db] at sdb hz;have l0:=ge b0 e;rcases T6.mp hz with v|v
    ·rw [v];exact l0
    ·exact o.trans uy ub0 (ub z (F9 v)) l0 ((aO.mp sdb).1 z v)
theorem MI.manyA (o:Ordd U R)(ua: ∀x∈al,U x)(ub: ∀x∈bl,U x)(sa:Srt R al)(sb:Srt R bl): ∀ (k:G5) {ia:G5} {out:G0 κ},MI R al bl ia ib out->ia+k<=al.length->(∀i,i<k-> ∀y,al[ia+i]? =some y-> ∀z,bl[ib]? =some z->R z y=false)->MI R al bl (ia+k) ib (out++(al.drop ia).take k)
 |0,ia,out,m,_,_=>by rw [bI,A2];exact m
 |k+1,ia,out,m,hk,h=>by
  obtain⟨y,hy⟩: ∃y,al[ia]? =some y:=⟨_,G2 (by omega)⟩;have m1:=m.pushA o ua ub sa sb hy (h 0 (by omega) y hy);have:=MI.manyA o ua ub sa sb k m1 (by omega) (λi hi y hy=>h (i+1) (by omega) y (by rw [show ia+(i+1)=ia+1+i by omega];exact hy));rw [show ia+(k+1)=ia+1+k by omega,zQ hy,mH,oP];exact this
theorem MI.manyB (o:Ordd U R)(ua: ∀x∈al,U x)(ub: ∀x∈bl,U x)(sa:Srt R al)(sb:Srt R bl): ∀ (k:G5) {ib:G5} {out:G0 κ},MI R al bl ia ib out->ib+k<=bl.length->(∀i,i<k-> ∀y,bl[ib+i]? =some y-> ∀z,al[ia]? =some z->R y z=true)->MI R al bl ia (ib+k) (out++(bl.drop ib).take k)
 |0,ib,out,m,_,_=>by rw [bI,A2];exact m
 |k+1,ib,out,m,hk,h=>by
  obtain⟨y,hy⟩: ∃y,bl[ib]? =some y:=⟨_,G2 (by omega)⟩;have m1:=m.pushB o ua ub sa sb hy (h 0 (by omega) y hy);have:=MI.manyB o ua ub sa sb k m1 (by omega) (λi hi y hy=>h (i+1) (by omega) y (by rw [show ib+(i+1)=ib+1+i by omega];exact hy));rw [show ib+(k+1)=ib+1+k by omega,zQ hy,mH,oP];exact this
theorem MI.all {out:G0 κ}(m:MI R al bl al.length bl.length out):out.Perm (al++bl)/\Srt R out:=by
 have:=m.perm;rw [W6,W6] at this;exact⟨this,m.srt⟩
theorem MI.done {out:G0 κ}(m:MI R al bl ia ib out)(o:Ordd U R)(ua: ∀x∈al,U x)(ub: ∀x∈bl,U x)(sa:Srt R al)(sb:Srt R bl)(ha:ia<=al.length)(hb:ib<=bl.length)(h:ia=al.length\/ib=bl.length):(out++al.drop ia++bl.drop ib).Perm (al++bl)/\Srt R (out++al.drop ia++bl.drop ib):=by
 have m1:=MI.manyA o ua ub sa sb (al.length-ia) m (by omega) (λi hi y hy z hz=>by
  have:=(P8.mp hz).1;omega)
 rw [show ia+(al.length-ia)=al.length by omega,S5 (by rw [N5];exact P5 _)] at m1;have m2:=MI.manyB o ua ub sa sb (bl.length-ib) m1 (by omega) (λi hi y hy z hz=>by
  have:=(P8.mp hz).1;omega)
 rw [show ib+(bl.length-ib)=bl.length by omega,S5 (l:=bl.drop ib) (by rw [N5];exact P5 _)] at m2;exact m2.all
theorem MI.lastA {out:G0 κ}(m:MI R al bl ia ib out)(o:Ordd U R)(ua: ∀x∈al,U x)(ub: ∀x∈bl,U x)(sa:Srt R al)(sb:Srt R bl)(ha:ia+1=al.length)(hb:ib<=bl.length)(h: ∀y∈bl,∀z,al[al.length-1]? =some z->R y z=true):(out++bl.drop ib++al.drop ia).Perm (al++bl)/\Srt R (out++bl.drop ib++al.drop ia):=by
 have m2:=MI.manyB o ua ub sa sb (bl.length-ib) m (by omega) (λi hi y hy z hz=>h y (D0 hy) z (by rw [<-ha];exact hz));rw [show ib+(bl.length-ib)=bl.length by omega,S5 (by rw [N5];exact P5 _)] at m2;have m1:=MI.manyA o ua ub sa sb (al.length-ia) m2 (by omega) (λi hi y hy z hz=>by
  have:=(P8.mp hz).1;omega)
 rw [show ia+(al.length-ia)=al.length by omega,S5 (l:=al.drop ia) (by rw [N5];exact P5 _)] at m1;exact m1.all
end
section
variable {prog:M0}{w:C6}{A:C5}{E:G7->P0->Prop}{J:P0->Prop}{κ:SortKind}{U:D7->Prop}{R:D7->D7->T9}
theorem Tm.rule {σ:Type}{x:U1}{Q:Unit->σ->Prop}{st:σ}(q:Q () st):Tm prog w A E J (liftM (PySem.rule x):V1 σ Sem Unit) Q st:=λs j=>by
 show S6 _ _ ((StateT.lift _:V1 σ Sem _).run st) _ _ _;rw [StateT.run_lift];exact wpAny_bind (cH (D2 ⟨q,j⟩))
theorem Tm.modify {σ:Type}{f:σ->σ}{Q:Unit->σ->Prop}{st:σ}(q:Q () (f st)):Tm prog w A E J (_root_.modify f:V1 σ Sem PUnit) Q st:=λs j=>by
 rw [StateT.run_modify];exact D2 ⟨q,j⟩
def mLo:N8 D7->N8 D7->V1 B6 Sem (N8 D7):=sortPriv% PySem.Builtin.mergeLo
def Gal (st st':B6):Prop:=kindOf st'=kindOf st/\S7 st'=S7 st/\B1 st'=B1 st/\Y7 st'=Y7 st
theorem Gal.refl (st:B6):Gal st st:=⟨rfl,rfl,rfl,rfl⟩
theorem Vk (a:N8 D7)(i:G5):(a.extract i).toList=a.toList.drop i:=by
 rw [Y8,J4];exact S5 (by simp)
theorem Mm (a:N8 D7)(i k:G5):(a.extract i (i+k)).toList=(a.toList.drop i).take k:=by
 rw [Y8,J4,iH]
def Zi (R:D7->D7->T9)(a b c:N8 D7):Prop:=c.toList.Perm (a.toList++b.toList)/\Srt R c.toList
structure Two (U:D7->Prop)(R:D7->D7->T9)(a b:N8 D7):Prop where
 o:Ordd U R
 ua: ∀x∈a.toList,U x
 ub: ∀x∈b.toList,U x
 sa:Srt R a.toList
 sb:Srt R b.toList
 last: ∀y∈b.toList,∀z,a.toList[a.toList.length-1]? =some z->R y z=true
abbrev MA (R:D7->D7->T9)(a b:N8 D7)(ia ib:G5)(out:N8 D7):Prop:=MI R a.toList b.toList ia ib out.toList
section
variable {a b out:N8 D7}{ia ib:G5}
theorem MA.done (t:Two U R a b)(m:MA R a b ia ib out)(ha:ia<=a.size)(hb:ib<=b.size)(h:ia=a.size\/ib=b.size):Zi R a b (out++a.extract ia++b.extract ib):=by
 have:=MI.done m t.o t.ua t.ub t.sa t.sb (by simpa using ha) (by simpa using hb) (by simpa using h);unfold Zi;rw [F6,F6,Vk,Vk];exact this
theorem MA.lastA (t:Two U R a b)(m:MA R a b ia ib out)(ha:ia+1=a.size)(hb:ib<=b.size):Zi R a b (out++b.extract ib++a.extract ia):=by
 have:=MI.lastA m t.o t.ua t.ub t.sa t.sb (by simpa using ha) (by simpa using hb) t.last;unfold Zi;rw [F6,F6,Vk,Vk];exact this
theorem MA.pushB (t:Two U R a b){y:D7}(m:MA R a b ia ib out)(hy:b.toList[ib]? =some y)(lt: ∀z,a.toList[ia]? =some z->R y z=true):MA R a b ia (ib+1) (out.push y):=by
 have:=MI.pushB m t.o t.ua t.ub t.sa t.sb hy lt;show MI R _ _ _ _ (out.push y).toList;rw [Y5];exact this
theorem MA.pushA (t:Two U R a b){y:D7}(m:MA R a b ia ib out)(hy:a.toList[ia]? =some y)(ge: ∀z,b.toList[ib]? =some z->R z y=false):MA R a b (ia+1) ib (out.push y):=by
 have:=MI.pushA m t.o t.ua t.ub t.sa t.sb hy ge;show MI R _ _ _ _ (out.push y).toList;rw [Y5];exact this
theorem MA.manyA (t:Two U R a b)(m:MA R a b ia ib out)(k:G5)(hk:ia+k<=a.size)(h: ∀i,i<k-> ∀y,a.toList[ia+i]? =some y-> ∀z,b.toList[ib]? =some z->R z y=false):MA R a b (ia+k) ib (out++a.extract ia (ia+k)):=by
 have:=MI.manyA t.o t.ua t.ub t.sa t.sb k m (by simpa using hk) h;show MI R _ _ _ _ (out++a.extract ia (ia+k)).toList;rw [F6,Mm];exact this
theorem MA.manyB (t:Two U R a b)(m:MA R a b ia ib out)(k:G5)(hk:ib+k<=b.size)(h: ∀i,i<k-> ∀y,b.toList[ib+i]? =some y-> ∀z,a.toList[ia]? =some z->R y z=true):MA R a b ia (ib+k) (out++b.extract ib (ib+k)):=by
 have:=MI.manyB t.o t.ua t.ub t.sa t.sb k m (by simpa using hk) h;show MI R _ _ _ _ (out++b.extract ib (ib+k)).toList;rw [F6,Mm];exact this
end
variable {arr:N8 D7}{base:G5}
theorem vX {left:T9}{key x:D7}{i:G5}(h:arr.toList[base+i]? =some x):byd R left key arr base i=if left=true then R x key else !R key x:=by
 unfold byd;rw [<-F4,h]
theorem Uc {l:G0 D7}(s:Srt R l)(o:Ordd U R)(u: ∀x∈l,U x){i j:G5}{x y:D7}(hij:i<=j)(hx:l[i]? =some x)(hy:l[j]? =some y):R y x=false:=by
 by_cases z:i=j
 ·subst z;rw [hx] at hy;injection hy with hy;subst hy
  exact o.refl (u x (D0 hx))
 ·obtain⟨h1,e1⟩:=P8.mp hx;obtain⟨h2,e2⟩:=P8.mp hy;have:=X4.mp s i j h1 h2 (by omega);rw [e1,e2] at this;exact this
theorem Ud {i:G5}(h:i<arr.size): ∃x,arr.toList[i]? =some x/\arr[i]? =some x:=⟨arr[i],by simp [h],by simp [h]⟩
theorem jax {y:D7}{n hint:G5}{st:B6}{Q:D4 G5->B6->Prop}(ak:QC prog w A J κ U R)(kd:kindOf st=κ)(o:Ordd U R)(u: ∀x∈arr.toList,U x)(s:Srt R arr.toList)(uy:U y)(hn:base+n<=arr.size)(hh:hint<n)
 (q: ∀k,k<=n->(∀i,i<k-> ∀x,arr.toList[base+i]? =some x->R y x=false)->(∀i,k<=i->i<n-> ∀x,arr.toList[base+i]? =some x->R y x=true)->Q (some k) st):Tm prog w A E J (gal false y arr base n hint) Q st:=by
 refine Fd ak kd uy (λi hi=> ?_) (λi j hij hj h=> ?_) hh (λk k1 k2 k3=>q k k1 (λi hi x hx=> ?_) (λi h1 h2 x hx=> ?_))
 ·obtain⟨x,lx,ex⟩:=Ud (show base+i<arr.size by omega);exact⟨x,ex,u x (D0 lx)⟩
 ·obtain⟨x,lx,_⟩:=Ud (show base+i<arr.size by omega);obtain⟨z,lz,_⟩:=Ud (show base+j<arr.size by omega);rw [vX lz] at h;rw [vX lx];have hz:R y z=false:=by simpa using h
  have:=o.trans (u x (D0 lx)) (u z (D0 lz)) uy (Uc s o u (by omega) lx lz) hz;simp [this]
 ·have:=k2 i hi;rw [vX hx] at this;simpa using this
 ·have:=k3 i h1 h2;rw [vX hx] at this;simpa using this
theorem jay {y:D7}{n hint:G5}{st:B6}{Q:D4 G5->B6->Prop}(ak:QC prog w A J κ U R)(kd:kindOf st=κ)(o:Ordd U R)(u: ∀x∈arr.toList,U x)(s:Srt R arr.toList)(uy:U y)(hn:base+n<=arr.size)(hh:hint<n)
 (q: ∀k,k<=n->(∀i,i<k-> ∀x,arr.toList[base+i]? =some x->R x y=true)->(∀i,k<=i->i<n-> ∀x,arr.toList[base+i]? =some x->R x y=false)->Q (some k) st):Tm prog w A E J (gal true y arr base n hint) Q st:=by
 refine Fd ak kd uy (λi hi=> ?_) (λi j hij hj h=> ?_) hh (λk k1 k2 k3=>q k k1 (λi hi x hx=> ?_) (λi h1 h2 x hx=> ?_))
 ·obtain⟨x,lx,ex⟩:=Ud (show base+i<arr.size by omega);exact⟨x,ex,u x (D0 lx)⟩
 ·obtain⟨x,lx,_⟩:=Ud (show base+i<arr.size by omega);obtain⟨z,lz,_⟩:=Ud (show base+j<arr.size by omega);rw [vX lz] at h;rw [vX lx];have hz:R z y=true:=by simpa using h
  rcases o.neg z x y (u z (D0 lz)) (u x (D0 lx)) uy hz with v|v
  ·rw [Uc s o u (by omega) lx lz] at v;cases v
  ·simp [v]
 ·have:=k2 i hi;rw [vX hx] at this;simpa using this
 ·have:=k3 i h1 h2;rw [vX hx] at this;simpa using this
section
variable {σ α β γ:Type}{c:Prop}[Decidable c]{t e:V1 σ Sem α}{Q:α->σ->Prop}{st:σ}{x y:β}{z:γ}
theorem Tm.if2 (T:c->Tm prog w A E J t Q st)(F: ¬c->Tm prog w A E J e Q st):Tm prog w A E J (if c then t else e) Q st:=by
 split
 ·exact T ‹_›
 ·exact F ‹_›
theorem Tm.eq2 {x y:G5}(T:x=y->Tm prog w A E J t Q st)(F: ¬x=y->Tm prog w A E J e Q st):Tm prog w A E J (if (x==y)=true then t else e) Q st:=
 .if2 (λh=>T (eq_of_beq h)) λh=>F λg=>h (beq_iff_eq.mpr g)
theorem Tm.both {f:β->V1 σ Sem α}(he:e=f y)(ht:t=f x)(H: ∀m,Tm prog w A E J (f m) Q st):Tm prog w A E J (if c then t else e) Q st:=by
 subst he ht;exact .if2 (λ_=>H _) λ_=>H _
theorem Tm.join {f:β->γ->V1 σ Sem α}{I:β->γ->Prop}(he:e=f x z)(G: ∀m o,I m o->Tm prog w A E J (f m o) Q st)(T:c->(∀m o,I m o->Tm prog w A E J (f m o) Q st)->Tm prog w A E J t Q st)(F: ¬c->I x z):Tm prog w A E J (if c then t else e) Q st:=by
 subst he;exact .if2 (λh=>T h G) λh=>G _ _ (F h)
end
theorem uN {A B C D F:Type}{P:A×B×C×D×F->Prop}(h: ∀a b c d f,P (a,b,c,d,f)): ∀c,P c:=λc=>h c.1 c.2.1 c.2.2.1 c.2.2.2.1 c.2.2.2.2
theorem uO {A B C D F G:Type}{P:A×B×C×D×F×G->Prop}(h: ∀a b c d f g,P (a,b,c,d,f,g)): ∀c,P c:=λc=>h c.1 c.2.1 c.2.2.1 c.2.2.2.1 c.2.2.2.2.1 c.2.2.2.2.2
theorem uP {A B C D F G H:Type}{P:A×B×C×D×F×G×H->Prop}(h: ∀a b c d f g k,P (a,b,c,d,f,g,k)): ∀c,P c:=λc=>h c.1 c.2.1 c.2.2.1 c.2.2.2.1 c.2.2.2.2.1 c.2.2.2.2.2.1 c.2.2.2.2.2.2
theorem yU {a:N8 D7}(u: ∀x∈a.toList,U x){i:G5}(h:i<a.size){P:Prop}(q: ∀y,a[i]? =some y->a.toList[i]? =some y->U y->P):P:=q a[i] (by simp [h]) (by simp [h]) (u _ (by simp))
structure LoI (R:D7->D7->T9)(a b:N8 D7)(st st':B6)(n:G5)(out:N8 D7)(ia ib:G5):Prop where
 g:Gal st st'
 m:MA R a b ia ib out
 a:ia+1<a.size
 b:ib<b.size
 n:n<=ia+ib
def LoO (R:D7->D7->T9)(a b:N8 D7)(st st':B6)(n:G5)(r:D4 (N8 D7))(out:N8 D7)(ia ib:G5):Prop:=Gal st st'/\match r with|some c=>Zi R a b c|none=>LoI R a b st st' n out ia ib
section
variable {a b out:N8 D7}{st st':B6}{n k ia ib:G5}
theorem LoI.more (h:LoI R a b st st' n out ia ib)(l:k<=n):LoI R a b st st' k out ia ib:=⟨h.g,h.m,h.a,h.b,T5 l h.n⟩
theorem LoI.here (h:LoI R a b st st' n out ia ib):LoI R a b st st' (ia+ib) out ia ib:=⟨h.g,h.m,h.a,h.b,P5 _⟩
theorem LoI.at {s:B6}(h:LoI R a b st st' n out ia ib)(g:Gal st s)(l:k<=n):LoI R a b st s k out ia ib:=⟨g,h.m,h.a,h.b,T5 l h.n⟩
theorem LoI.never {P:Prop}(h:LoI R a b st st' n out ia ib)(l:a.size+b.size<=n):P:=absurd (T5 l h.n) (Nat.not_le_of_lt (Nat.add_lt_add (Q4 h.a) h.b))
end
theorem kY {a b:N8 D7}{st:B6}{Q:N8 D7->B6->Prop}(ak:QC prog w A J κ U R)(kd:kindOf st=κ)(t:Two U R a b)
 (na:1<=a.size)(nb:1<=b.size)(first: ∀y z,b.toList[0]? =some y->a.toList[0]? =some z->R y z=true)
 (q: ∀c st',Gal st st'->Zi R a b c->Q c st'):Tm prog w A E J (mLo a b) Q st:=by
 refine .bind (.rule (.bind (yU t.ub nb λb0 eb0 lb0 ub0=> .elem eb0 ?_)));have m0:MA R a b 0 1 #[b0]:=MA.pushB t (out:= #[]) (MI.start _ _) lb0 (λz hz=>first _ z lb0 hz);refine .eq2 (x:=1) (y:=b.size) (λz1=> .pure (q _ _ (Gal.refl st) (MA.done t m0 (N4 _) nb (.inr z1)))) λz1=> .eq2 (x:=0+1) (y:=a.size) (λz2=> .pure (q _ _ (Gal.refl st) (MA.lastA t m0 z2 nb))) λz2=> .bind (.get ?_)
 refine .bind (Tm.mono (Tm.range (λi c st'=>LoI R a b st st' (i+1) c.2.1 c.2.2.1 c.2.2.2.1)
  (Q:=λc st'=> ∃r,c.1=some r/\Gal st st'/\Zi R a b r) (N4 _) ⟨Gal.refl st,m0,A5 na z2,A5 nb z1,P5 _⟩ ?_ ?_) ?_)
 ·intro i c st1 hi;revert c;refine uN λr out ia ib mg h=> ?_
  refine .bind (Tm.mono (Tm.range (λj c st'=>LoI R a b st st' (ia+ib+j) c.2.1 c.2.2.1 c.2.2.2.1)
   (Q:=λc st'=>LoO R a b st st' (ia+ib+1) c.1 c.2.1 c.2.2.1 c.2.2.2.1) (N4 _) h.here ?_ ?_) ?_)
  ·intro j c st2 hj;revert c;refine uO λr out ja jb ac bc h=> ?_
   refine .bind (yU t.ub h.b λy ey ly uy=> .elem ey (.bind (yU t.ua (Q4 h.a) λx ex lx ux=> .elem ex (.bind (.lt ak (h.g.1.trans kd) uy ux (.if2 (c:=R y x=true) (λhb=> .bind (.elem ey ?_)) λhb=> .bind (.elem ex ?_)))))))
   ·have m1:=MA.pushB t h.m ly (λz hz=>by rw [lx] at hz;injection hz with hz;rw [<-hz];exact hb);refine .eq2 (x:=jb+1) (y:=b.size) (λc1=> .pure ⟨h.g,MA.done t m1 (S1 (Q4 h.a)) h.b (.inr c1)⟩) λc1=> ?_
    have d:LoI R a b st st2 (ia+ib+(j+1)) (out.push y) ja (jb+1):=⟨h.g,m1,h.a,A5 (dG h.b) c1,dO h.n⟩;exact .if2 (λ_=> .pure ⟨h.g,d.more (bV (aT _ _) _)⟩) λ_=> .pure d
   ·have m1:=MA.pushA t h.m lx (λz hz=>by rw [ly] at hz;injection hz with hz;rw [<-hz];exact a8.mpr hb);refine .eq2 (x:=ja+1+1) (y:=a.size) (λc1=> .pure ⟨h.g,MA.lastA t m1 c1 (S1 h.b)⟩) λc1=> ?_
    have d:LoI R a b st st2 (ia+ib+(j+1)) (out.push x) (ja+1) jb:=⟨h.g,m1,A5 (dG h.a) c1,h.b,T5 (dO h.n) (W1 (Nat.succ_add _ _).symm)⟩;exact .if2 (λ_=> .pure ⟨h.g,d.more (bV (aT _ _) _)⟩) λ_=> .pure d
  ·exact λc st2 h=>h.never (aT _ _)
  ·intro c st2;revert c;refine uO λr out ja jb ac bc h'=> ?_
   cases r with
   |some r=>exact .pure ⟨r,rfl,h'⟩
   |none=>
   replace h':=h'.2
   refine .bind (.rule (.bind (Tm.mono (Tm.range (λj c st'=>LoI R a b st st' (ja+jb+j) c.2.1 c.2.2.1 c.2.2.2.1)
    (Q:=λc st'=>LoO R a b st st' (ja+jb) c.1 c.2.1 c.2.2.1 c.2.2.2.1) (N4 _) h'.here ?_ ?_) ?_)))
   ·clear h;intro j c st2 hj;revert c;refine uP λr out pa pb mg ac bc h=> ?_
    refine yU t.ub h.b λy ey ly uy=> ?_
    have g2:0<a.size-pa:=nQ (Q4 h.a);have g1:pa+(a.size-pa)<=a.size:=W1 (e7 (S1 (Q4 h.a)));refine Tm.both (y:=mg) (x:=mg-1) (by rfl) (by rfl) λmg=> ?_
    refine .bind (Tm.modify (.bind (.elem ey (.bind (jax (base:=pa) (n:=a.size-pa) ak (h.g.1.trans kd) t.o t.ua t.sa uy g1 g2 λk k1 k2 k3=> ?_)))));refine Tm.join (I:=λo ia=>MA R a b ia pb o/\ia+1<a.size/\pa<=ia/\ ∀x,a.toList[ia]? =some x->R y x=true) (x:=out) (z:=pa) (by rfl) ?_ ?_ ?_
    ·refine λo qa i1=> ?_
     have M2:=MA.pushB t i1.1 ly i1.2.2.2;have p1:=Q4 i1.2.1;refine .bind (.elem ey (.eq2 (x:=pb+1) (y:=b.size) (λc3=> .pure ⟨h.g,MA.done t M2 (S1 p1) (W1 c3) (.inr c3)⟩) λc3=> ?_));have c8:pb+1<b.size:=A5 (dG h.b) c3;have g2:=nQ c8;refine .bind (yU t.ua p1 λx ex lx ux=> .elem ex (.bind (jay (base:=pb+1) (n:=b.size-(pb+1)) ak (h.g.1.trans kd) t.o t.ub t.sb ux (W1 (e7 (S1 c8))) g2 λk' q1 q2 q3=> ?_)));dsimp only;generalize ep:pb+1=p2 at M2 q1 q2 q3 c8 g2 ⊢;generalize eo:o.push y=o2 at M2 ⊢;refine Tm.join (I:=λo ib=>MA R a b qa ib o/\ib<b.size/\p2<=ib/\ ∀x',b.toList[ib]? =some x'->R x' x=false) (x:=o2) (z:=p2) (by rfl) ?_ ?_ ?_
     ·refine λo qb i2=> ?_
      have M4:=MA.pushA t i2.1 lx i2.2.2.2;refine .bind (.elem ex (.eq2 (x:=qa+1+1) (y:=a.size) (λc5=> .pure ⟨h.g,MA.lastA t M4 c5 (S1 i2.2.1)⟩) λc5=> ?_));have n1:ja+jb+j<=pa+pb:=h.n;have n2:ja+jb+(j+1)<=qa+1+qb:=by have:=i1.2.2.1;have:=i2.2.2.1;omega
      have d:LoI R a b st st2 (ja+jb+(j+1)) (o.push x) (qa+1) qb:=⟨h.g,M4,A5 (dG i1.2.1) c5,i2.2.1,n2⟩;exact .if2 (λ_=> .pure ⟨h.g,d.at h.g (bP _ _)⟩) λ_=> .pure (d.at h.g (P5 _))
     ·intro kz' H;have g3:p2+k'<=b.size:=T5 (bV q1 _) (W1 (e7 (S1 c8)));have M3:=MA.manyB t M2 k' g3 (λi hi y' hy z hz=>by rw [lx] at hz;injection hz with hz;rw [<-hz];exact q2 i hi y' hy);exact .eq2 (x:=p2+k') (y:=b.size) (λc4=> .pure ⟨h.g,MA.done t M3 (S1 p1) g3 (.inr c4)⟩) λc4=>H _ _ ⟨M3,A5 g3 c4,bP _ _,λz hz=>q3 k' (P5 _) (by omega) z hz⟩
     ·exact λkz'=>⟨M2,c8,P5 _,λz hz=>q3 0 (dL kz') g2 z hz⟩
    ·intro kz H;have g3:pa+k<=a.size:=T5 (bV k1 _) g1;have m1:=MA.manyA t h.m k g3 (λi hi x hx z hz=>by rw [ly] at hz;injection hz with hz;rw [<-hz];exact k2 i hi x hx);exact .eq2 (x:=pa+k+1) (y:=a.size) (λc1=> .pure ⟨h.g,MA.lastA t m1 c1 (S1 h.b)⟩) λc1=> .eq2 (x:=pa+k) (y:=a.size) (λc2=> .pure ⟨h.g,MA.done t m1 g3 (S1 h.b) (.inl c2)⟩) λc2=>H _ _ ⟨m1,A5 (A5 g3 c2) c1,bP _ _,λx hx=>k3 k (P5 _) (by omega) x hx⟩
    ·exact λkz=>⟨h.m,h.a,P5 _,λx hx=>k3 0 (dL kz) g2 x hx⟩
   ·exact λc st3 h=>h.never (aT _ _)
   ·intro c st3;revert c;refine uP λr out pa pb mg ac bc h3=> ?_
    cases r with
    |some r=>exact .pure ⟨r,rfl,h3⟩
    |none=>exact .bind (Tm.modify (.pure (h3.2.at h3.1 (T5 (dO h.n) h'.n))))
 ·exact λc st1 h=>h.never (bP _ _)
 ·intro c st1;revert c;refine uN λr out ia ib mg h=> ?_
  obtain⟨c,rfl,gl,wh⟩:=h;exact .pure (q c st1 gl wh)
end
section
variable {prog:M0}{w:C6}{A:C5}{E:G7->P0->Prop}{J:P0->Prop}{κ:SortKind}{U:D7->Prop}{R:D7->D7->T9}
abbrev Flp (R:D7->D7->T9):D7->D7->T9:=λx y=>R y x
theorem Ordd.flip (o:Ordd U R):Ordd U (Flp R):=⟨λx y ux uy h=>o.asym y x uy ux h,λx y z ux uy uz h=>(o.neg z y x uz uy ux h).symm⟩
variable {l:G0 D7}
theorem zT (s:Srt R l):Srt (Flp R) l.reverse:=dJ.mpr s
theorem Mn (s:Srt (Flp R) l):Srt R l.reverse:=dJ.mpr s
variable {n:G5}
theorem Fe (h1:1<=n)(hn:n<=l.length):l.reverse[l.length-n]? =l[n-1]? :=by
 rw [U0 (by omega)]
 congr 1;omega
theorem yc {z:D7}(hn:n<=l.length)(h:l.reverse[l.length-n]? =some z):1<=n/\l[n-1]? =some z:=by
 have:=(P8.mp h).1;rw [M8] at this;have n1:1<=n:=by omega
 exact⟨n1,by rw [<-Fe n1 hn];exact h⟩
theorem Wj (l:G0 D7){n:G5}(hn:n<=l.length):l.reverse.drop (l.length-n)=(l.take n).reverse:=by
 rw [List.drop_reverse]
 congr 2;omega
def MH (R:D7->D7->T9)(a b:N8 D7)(na nb:G5)(out:N8 D7):Prop:=MI (Flp R) b.toList.reverse a.toList.reverse (b.toList.length-nb) (a.toList.length-na) out.toList
structure TwoH (U:D7->Prop)(R:D7->D7->T9)(a b:N8 D7):Prop where
 o:Ordd U R
 ua: ∀x∈a.toList,U x
 ub: ∀x∈b.toList,U x
 sa:Srt R a.toList
 sb:Srt R b.toList
 first: ∀z∈a.toList,∀y,b.toList[0]? =some y->R y z=true
section
variable {a b out:N8 D7}{na nb:G5}
theorem TwoH.fa (t:TwoH U R a b): ∀x∈a.toList.reverse,U x:=λx hx=>t.ua x (J3.mp hx)
theorem TwoH.fb (t:TwoH U R a b): ∀x∈b.toList.reverse,U x:=λx hx=>t.ub x (J3.mp hx)
theorem MH.start (a b:N8 D7):MH R a b a.toList.length b.toList.length #[]:=by
 unfold MH;rw [fK,fK];exact MI.start _ _
theorem MH.pushA (t:TwoH U R a b){y:D7}(m:MH R a b na nb out)(h1:1<=na)(hn:na<=a.toList.length)(hb:nb<=b.toList.length)(hy:a.toList[na-1]? =some y)(lt: ∀z,1<=nb->b.toList[nb-1]? =some z->R z y=true):MH R a b (na-1) nb (out.push y):=by
 have:=MI.pushB m t.o.flip t.fb t.fa (zT t.sb) (zT t.sa) (by rw [Fe h1 hn];exact hy) (λz hz=>lt z (yc hb hz).1 (yc hb hz).2);unfold MH;rw [Y5,show a.toList.length-(na-1)=a.toList.length-na+1 by omega];exact this
theorem MH.pushB (t:TwoH U R a b){y:D7}(m:MH R a b na nb out)(h1:1<=nb)(hn:nb<=b.toList.length)(ha:na<=a.toList.length)(hy:b.toList[nb-1]? =some y)(ge: ∀z,1<=na->a.toList[na-1]? =some z->R y z=false):MH R a b na (nb-1) (out.push y):=by
 have:=MI.pushA m t.o.flip t.fb t.fa (zT t.sb) (zT t.sa) (by rw [Fe h1 hn];exact hy) (λz hz=>ge z (yc ha hz).1 (yc ha hz).2);unfold MH;rw [Y5,show b.toList.length-(nb-1)=b.toList.length-nb+1 by omega];exact this
theorem Wk (a:N8 D7)(n:G5):(a.extract 0 n).toList=a.toList.take n:=by
 rw [Y8,J4,dD,nN]
theorem MH.done (t:TwoH U R a b)(m:MH R a b na nb out)(ha:na<=a.toList.length)(hb:nb<=b.toList.length)(h:na=0\/nb=0):Zi R a b (a.extract 0 na++b.extract 0 nb++out.reverse):=by
 have:=MI.done m t.o.flip t.fb t.fa (zT t.sb) (zT t.sa) (by rw [M8];omega) (by rw [M8];omega) (by rw [M8,M8];omega);rw [Wj _ ha,Wj _ hb] at this;have e:(a.extract 0 na++b.extract 0 nb++out.reverse).toList=(out.toList++(b.toList.take nb).reverse++(a.toList.take na).reverse).reverse:=by
  rw [F6,F6,Wk,Wk,eG];simp [D3]
 unfold Zi;rw [e];refine⟨(Q5 _).trans (this.1.trans ?_),Mn this.2⟩;exact(oQ (Q5 _) (Q5 _)).trans aX
theorem MH.firstB (t:TwoH U R a b)(m:MH R a b na nb out)(ha:na<=a.toList.length)(hb:nb=1)(hb':1<=b.toList.length):Zi R a b (b.extract 0 nb++a.extract 0 na++out.reverse):=by
 subst hb;have:=MI.lastA m t.o.flip t.fb t.fa (zT t.sb) (zT t.sa) (by rw [M8];omega) (by rw [M8];omega) (λz hz y hy=>by
  rw [M8] at hy;have:=(yc hb' hy).2;exact t.first z (J3.mp hz) y (by simpa using this))
 rw [Wj _ ha,Wj _ hb'] at this;have e:(b.extract 0 1++a.extract 0 na++out.reverse).toList=(out.toList++(a.toList.take na).reverse++(b.toList.take 1).reverse).reverse:=by
  rw [F6,F6,Wk,Wk,eG];simp [D3]
 unfold Zi;rw [e];refine⟨(Q5 _).trans (this.1.trans ?_),Mn this.2⟩;exact(oQ (Q5 _) (Q5 _)).trans aX
theorem Mo (l:G0 D7){p n:G5}(h1:p<=n)(hn:n<=l.length):(l.reverse.drop (l.length-n)).take (n-p)=((l.drop p).take (n-p)).reverse:=by
 rw [Wj l hn,List.take_reverse,T0,lS,X8 hn,show n-(n-p)=p by omega]
theorem Ff (a:N8 D7){p n:G5}(h:p<=n):(a.extract p n).reverse.toList=((a.toList.drop p).take (n-p)).reverse:=by
 rw [eG,Y8,J4]
theorem MH.manyA (t:TwoH U R a b)(m:MH R a b na nb out)(p:G5)(hp:p<=na)(hn:na<=a.toList.length)(hb:nb<=b.toList.length)(h: ∀i,p<=i->i<na-> ∀y,a.toList[i]? =some y-> ∀z,1<=nb->b.toList[nb-1]? =some z->R z y=true):MH R a b p nb (out++(a.extract p na).reverse):=by
 have:=MI.manyB t.o.flip t.fb t.fa (zT t.sb) (zT t.sa) (na-p) m (by rw [M8];omega) (λi hi y hy z hz=>by
  rw [U0 (by omega)] at hy;exact h _ (by omega) (by omega) y hy z (yc hb hz).1 (yc hb hz).2)
 rw [Mo _ hp hn] at this;unfold MH;rw [F6,Ff _ hp,show a.toList.length-p=a.toList.length-na+(na-p) by omega];exact this
theorem MH.manyB (t:TwoH U R a b)(m:MH R a b na nb out)(p:G5)(hp:p<=nb)(hn:nb<=b.toList.length)(ha:na<=a.toList.length)(h: ∀i,p<=i->i<nb-> ∀y,b.toList[i]? =some y-> ∀z,1<=na->a.toList[na-1]? =some z->R y z=false):MH R a b na p (out++(b.extract p nb).reverse):=by
 have:=MI.manyA t.o.flip t.fb t.fa (zT t.sb) (zT t.sa) (nb-p) m (by rw [M8];omega) (λi hi y hy z hz=>by
  rw [U0 (by omega)] at hy;exact h _ (by omega) (by omega) y hy z (yc ha hz).1 (yc ha hz).2)
 rw [Mo _ hp hn] at this;unfold MH;rw [F6,Ff _ hp,show b.toList.length-p=b.toList.length-nb+(nb-p) by omega];exact this
end
def mHi:N8 D7->N8 D7->V1 B6 Sem (N8 D7):=sortPriv% PySem.Builtin.mergeHi
section
variable {arr:N8 D7}{y:D7}{n hint:G5}{st:B6}{Q:D4 G5->B6->Prop}
theorem qu (ak:QC prog w A J κ U R)(kd:kindOf st=κ)(o:Ordd U R)(u: ∀x∈arr.toList,U x)(s:Srt R arr.toList)(uy:U y)(hn:n<=arr.size)(hh:hint<n)
 (q: ∀k,k<=n->(∀i,i<k-> ∀x,arr.toList[i]? =some x->R y x=false)->(∀i,k<=i->i<n-> ∀x,arr.toList[i]? =some x->R y x=true)->Q (some k) st):Tm prog w A E J (gal false y arr 0 n hint) Q st:=
 jax ak kd o u s uy (by rw [U8];exact hn) hh λk h k2 k3=>q k h (λi hi x hx=>k2 i hi x (by rw [U8];exact hx)) λi hi hj x hx=>k3 i hi hj x (by rw [U8];exact hx)
theorem qw (ak:QC prog w A J κ U R)(kd:kindOf st=κ)(o:Ordd U R)(u: ∀x∈arr.toList,U x)(s:Srt R arr.toList)(uy:U y)(hn:n<=arr.size)(hh:hint<n)
 (q: ∀k,k<=n->(∀i,i<k-> ∀x,arr.toList[i]? =some x->R x y=true)->(∀i,k<=i->i<n-> ∀x,arr.toList[i]? =some x->R x y=false)->Q (some k) st):Tm prog w A E J (gal true y arr 0 n hint) Q st:=
 jay ak kd o u s uy (by rw [U8];exact hn) hh λk h k2 k3=>q k h (λi hi x hx=>k2 i hi x (by rw [U8];exact hx)) λi hi hj x hx=>k3 i hi hj x (by rw [U8];exact hx)
end
structure HiI (R:D7->D7->T9)(a b:N8 D7)(st st':B6)(n N na nb:G5)(out:N8 D7):Prop where
 g:Gal st st'
 m:MH R a b na nb out
 a':na<=a.size
 b':nb<=b.size
 a:1<=na
 b:2<=nb
 n:n+na+nb<=N
def HiO (R:D7->D7->T9)(a b:N8 D7)(st st':B6)(n N:G5)(r:D4 (N8 D7))(na nb:G5)(out:N8 D7):Prop:=Gal st st'/\match r with|some c=>Zi R a b c|none=>HiI R a b st st' n N na nb out
section
variable {a b out:N8 D7}{st st' s:B6}{n N k M na nb:G5}
theorem HiI.at (h:HiI R a b st st' n N na nb out)(g:Gal st s)(l:n+na+nb<=N->k+na+nb<=M):HiI R a b st s k M na nb out:=⟨g,h.m,h.a',h.b',h.a,h.b,l h.n⟩
theorem HiI.here (h:HiI R a b st st' n N na nb out):HiI R a b st st' 0 (na+nb) na nb out:=h.at h.g λ_=>by omega
theorem HiI.never {P:Prop}(h:HiI R a b st st' n N na nb out)(l:N<=n):P:=by have:=h.n;have:=h.a;omega
theorem HiI.le (h:HiI R a b st st' n N na nb out):na+nb<=a.size+b.size:=rJ h.a' h.b'
theorem HiI.a1 (h:HiI R a b st st' n N na nb out):na-1<a.size:=N6 (cK h.a bJ) h.a'
theorem HiI.b1 (h:HiI R a b st st' n N na nb out):nb-1<b.size:=N6 (cK (Q4 h.b) bJ) h.b'
end
theorem Ei (h:2<=n)(c: ¬n-1=1):2<=n-1:=by omega
theorem Fg (c: ¬n-1=0):1<=n-1:=cL c
theorem kZ {a b:N8 D7}{st:B6}{Q:N8 D7->B6->Prop}(ak:QC prog w A J κ U R)(kd:kindOf st=κ)(t:TwoH U R a b)
 (na:1<=a.size)(nb:1<=b.size)(last: ∀y z,b.toList[b.size-1]? =some y->a.toList[a.size-1]? =some z->R y z=true)
 (q: ∀c st',Gal st st'->Zi R a b c->Q c st'):Tm prog w A E J (mHi a b) Q st:=by
 refine .bind (.rule (.bind (yU t.ua (cK na bJ) λa0 ea0 la0 ua0=> .elem ea0 ?_)));have m0:MH R a b (a.size-1) b.size #[a0]:=MH.pushA t (MH.start (R:=R) a b) na (P5 _) (P5 _) la0 (λz _ hz=>last z a0 hz la0);have n1:a.size-1<=a.size:=IF _ _;refine .eq2 (x:=a.size-1) (y:=0) (λz1=> .pure (q _ _ (Gal.refl st) (MH.done t m0 n1 (P5 _) (.inl z1)))) λz1=> .eq2 (x:=b.size) (y:=1) (λz2=> .pure (q _ _ (Gal.refl st) (MH.firstB t m0 n1 z2 nb))) λz2=> .bind (.get ?_)
 refine .bind (Tm.mono (Tm.range (λi c st'=>HiI R a b st st' (i+1) (a.size+b.size) c.2.1 c.2.2.1 c.2.2.2.1)
  (Q:=λc st'=> ∃r,c.1=some r/\Gal st st'/\Zi R a b r) (N4 _) ⟨Gal.refl st,m0,n1,P5 _,Fg z1,by dsimp only;omega,by dsimp only;omega⟩ ?_ ?_) ?_)
 ·intro i c st1 hi;revert c;refine uN λr ia ib out mg h=> ?_
  refine .bind (Tm.mono (Tm.range (λj c st'=>HiI R a b st st' j (ia+ib) c.2.1 c.2.2.1 c.2.2.2.1)
   (Q:=λc st'=>HiO R a b st st' 1 (ia+ib) c.1 c.2.1 c.2.2.1 c.2.2.2.1) (N4 _) h.here ?_ ?_) ?_)
  ·intro j c st2 hj;revert c;refine uO λr ja jb out ac bc h=> ?_
   refine .bind (yU t.ub h.b1 λy ey ly uy=> .elem ey (.bind (yU t.ua h.a1 λx ex lx ux=> .elem ex (.bind (.lt ak (h.g.1.trans kd) uy ux (.if2 (c:=R y x=true) (λhb=> .bind (.elem ex ?_)) λhb=> .bind (.elem ey ?_)))))))
   ·have m1:=MH.pushA t h.m h.a h.a' h.b' lx (λz _ hz=>by rw [ly] at hz;injection hz with hz;rw [<-hz];exact hb);refine .eq2 (x:=ja-1) (y:=0) (λc1=> .pure ⟨h.g,MH.done t m1 (S1 h.a1) h.b' (.inl c1)⟩) λc1=> ?_
    have d:HiI R a b st st2 (j+1) (ia+ib) (ja-1) jb (out.push x):=⟨h.g,m1,S1 h.a1,h.b',Fg c1,h.b,by have:j+ja+jb<=ia+ib:=h.n;have:1<=ja:=h.a;have:2<=jb:=h.b;omega⟩;exact .if2 (λ_=> .pure ⟨h.g,d.at h.g λ_=>by omega⟩) λ_=> .pure d
   ·have m1:=MH.pushB t h.m (S1 h.b) h.b' h.a' ly (λz _ hz=>by rw [lx] at hz;injection hz with hz;rw [<-hz];exact a8.mpr hb);refine .eq2 (x:=jb-1) (y:=1) (λc1=> .pure ⟨h.g,MH.firstB t m1 h.a' c1 nb⟩) λc1=> ?_
    have d:HiI R a b st st2 (j+1) (ia+ib) ja (jb-1) (out.push y):=⟨h.g,m1,h.a',S1 h.b1,h.a,Ei h.b c1,by have:j+ja+jb<=ia+ib:=h.n;have:1<=ja:=h.a;have:2<=jb:=h.b;omega⟩;exact .if2 (λ_=> .pure ⟨h.g,d.at h.g λ_=>by omega⟩) λ_=> .pure d
  ·exact λc st2 h'=>h'.never h.le
  ·intro c st2;revert c;refine uO λr ja jb out ac bc h'=> ?_
   cases r with
   |some r=>exact .pure ⟨r,rfl,h'⟩
   |none=>
   replace h':=h'.2
   refine .bind (.rule (.bind (Tm.mono (Tm.range (λj c st'=>HiI R a b st st' j (ja+jb) c.2.1 c.2.2.1 c.2.2.2.1)
    (Q:=λc st'=>HiO R a b st st' 0 (ja+jb) c.1 c.2.1 c.2.2.1 c.2.2.2.1) (N4 _) h'.here ?_ ?_) ?_)))
   ·clear h;intro j c st2 hj;revert c;refine uP λr pa pb out mg ac bc h=> ?_
    refine yU t.ub h.b1 λy ey ly uy=> ?_
    refine Tm.both (y:=mg) (x:=mg-1) (by rfl) (by rfl) λmg=> ?_
    refine .bind (Tm.modify (.bind (.elem ey (.bind (qu (n:=pa) ak (h.g.1.trans kd) t.o t.ua t.sa uy h.a' (cK h.a bJ) λk k1 k2 k3=> ?_)))));dsimp only;generalize eac:pa-k=ac;refine Tm.join (I:=λna o=>MH R a b na pb o/\1<=na/\na<=pa/\ ∀z,a.toList[na-1]? =some z->R y z=false) (x:=pa) (z:=out) (by rfl) ?_ ?_ ?_
    ·refine λqa o i1=> ?_
     have la:=T5 i1.2.2.1 h.a';have M2:=MH.pushB t i1.1 (S1 h.b) h.b' la ly (λz _ hz=>i1.2.2.2 z hz);refine .bind (.elem ey (.eq2 (x:=pb-1) (y:=1) (λc3=> .pure ⟨h.g,MH.firstB t M2 la c3 nb⟩) λc3=> ?_));have c8:=Ei h.b c3;have lb:=S1 h.b1;have n1:j+pa+pb<=ja+jb:=h.n;have n2:pb=pb-1+1:=(Nat.sub_add_cancel (S1 h.b)).symm;refine .bind (yU t.ua (N6 (cK i1.2.1 bJ) la) λx ex lx ux=> .elem ex (.bind (qw (n:=pb-1) ak (h.g.1.trans kd) t.o t.ub t.sb ux lb (cK (Q4 c8) bJ) λk' q1 q2 q3=> ?_)));dsimp only;dsimp only at c8 lb;generalize ep:pb-1=p2 at M2 q1 q2 q3 c8 lb n2 ⊢;generalize eo:o.push y=o2 at M2 ⊢;generalize ebc:p2-k'=bc;refine Tm.join (I:=λnb o=>MH R a b qa nb o/\2<=nb/\nb<=p2/\ ∀z,b.toList[nb-1]? =some z->R z x=true) (x:=p2) (z:=o2) (by rfl) ?_ ?_ ?_
     ·refine λqb o i2=> ?_
      have lb':=T5 i2.2.2.1 lb;have M4:=MH.pushA t i2.1 i1.2.1 la lb' lx (λz _ hz=>i2.2.2.2 z hz);have la':=T5 (IF qa 1) la;refine .bind (.elem ex (.eq2 (x:=qa-1) (y:=0) (λc5=> .pure ⟨h.g,MH.done t M4 la' lb' (.inl c5)⟩) λc5=> ?_));have n3:j+1+(qa-1)+qb<=ja+jb:=by have:=i1.2.1;have:=i1.2.2.1;have:=i2.2.2.1;omega
      have d:HiI R a b st st2 (j+1) (ja+jb) (qa-1) qb (o.push x):=⟨h.g,M4,la',lb',Fg c5,i2.2.1,n3⟩;exact .if2 (λ_=> .pure ⟨h.g,d.at h.g λ_=>by omega⟩) λ_=> .pure (d.at h.g id)
     ·intro kz' H;have M3:=MH.manyB t M2 k' q1 lb la (λi hi1 hi2 y' hy z hz1 hz=>by rw [lx] at hz;injection hz with hz;rw [<-hz];exact q3 i hi1 hi2 y' hy);exact .eq2 (x:=k') (y:=1) (λc4=> .pure ⟨h.g,MH.firstB t M3 la c4 nb⟩) λc4=> .eq2 (x:=k') (y:=0) (λc7=> .pure ⟨h.g,MH.done t M3 la (T5 q1 lb) (.inr c7)⟩) λc7=>H _ _ ⟨M3,by omega,q1,λz hz=>q2 (k'-1) (cK (cL c7) bJ) z hz⟩
     ·exact λkz'=>⟨M2,c8,P5 _,λz hz=>q2 (p2-1) (by omega) z hz⟩
    ·intro kz H;have m1:=MH.manyA t h.m k k1 h.a' h.b' (λi hi1 hi2 x hx z hz1 hz=>by rw [ly] at hz;injection hz with hz;rw [<-hz];exact k3 i hi1 hi2 x hx);exact .eq2 (x:=k) (y:=0) (λc1=> .pure ⟨h.g,MH.done t m1 (T5 k1 h.a') h.b' (.inl c1)⟩) λc1=>H _ _ ⟨m1,cL c1,k1,λz hz=>k2 (k-1) (cK (cL c1) bJ) z hz⟩
    ·exact λkz=>⟨h.m,h.a,P5 _,λz hz=>k2 (pa-1) (by have:1<=pa:=h.a;omega) z hz⟩
   ·exact λc st3 h=>h.never h'.le
   ·intro c st3;revert c;refine uP λr pa pb out mg ac bc h3=> ?_
    cases r with
    |some r=>exact .pure ⟨r,rfl,h3⟩
    |none=>exact .bind (Tm.modify (.pure (h3.2.at h3.1 λl=>by have n1:i+1+ia+ib<=a.size+b.size:=h.n;have n2:1+ja+jb<=ia+ib:=h'.n;dsimp only at l ⊢;omega)))
 ·exact λc st1 h=>h.never (bP _ _)
 ·intro c st1;revert c;refine uN λr ia ib out mg h=> ?_
  obtain⟨c,rfl,gl,wh⟩:=h;exact .pure (q c st1 gl wh)
end
section
variable {prog:M0}{w:C6}{A:C5}{E:G7->P0->Prop}{J:P0->Prop}{κ:SortKind}{U:D7->Prop}{R:D7->D7->T9}
def seg (l:G0 D7)(p n:G5):G0 D7:=(l.drop p).take n
variable {n:G5}
theorem XG {l:G0 D7}{p i:G5}(hi:i<n):(seg l p n)[i]? =l[p+i]? :=by
 unfold seg;rw [bX hi,aP]
theorem Ue {l:G0 D7}{p:G5}(h:p+n<=l.length):(seg l p n).length=n:=by
 unfold seg;rw [T0,N5];omega
theorem DM {l:G0 D7}{p:G5}{x:D7}(h:x∈seg l p n):x∈l:=F9 (O7 h)
theorem jaz {left:T9}{arr:N8 D7}{y:D7}{base hint:G5}{st:B6}{Q:D4 G5->B6->Prop}(ak:QC prog w A J κ U R)(kd:kindOf st=κ)(o:Ordd U R)(u: ∀x∈arr.toList,U x)(s:Srt R (seg arr.toList base n))(uy:U y)(hn:base+n<=arr.size)(hh:hint<n)
 (q: ∀k,k<=n->(∀x∈(seg arr.toList base n).take k,(if left=true then R x y else !R y x)=true)->(∀x∈(seg arr.toList base n).drop k,(if left=true then R x y else !R y x)=false)->Q (some k) st):Tm prog w A E J (gal left y arr base n hint) Q st:=by
 have ln:arr.toList.length=arr.size:=by simp
 have sl:(seg arr.toList base n).length=n:=Ue (by omega);have us: ∀x∈seg arr.toList base n,U x:=λx hx=>u x (DM hx)
 refine Fd ak kd uy (λi hi=> ?_) (λi j hij hj h=> ?_) hh (λk k1 k2 k3=>q k k1 (λx hx=> ?_) (λx hx=> ?_))
 ·obtain⟨x,lx,ex⟩:=Ud (show base+i<arr.size by omega);exact⟨x,ex,u x (D0 lx)⟩
 ·obtain⟨x,lx,_⟩:=Ud (show base+i<arr.size by omega);obtain⟨z,lz,_⟩:=Ud (show base+j<arr.size by omega);have ux:=u x (D0 lx);have uz:=u z (D0 lz);have le:=Uc s o us hij (by rw [XG (by omega)];exact lx) (by rw [XG hj];exact lz);rw [vX lz] at h;rw [vX lx];cases left with
  |true=>
   have hz:R z y=true:=by simpa using h
   rcases o.neg z x y uz ux uy hz with v|v
   ·rw [le] at v;cases v
   ·simp [v]
  |false=>
   have hz:R y z=false:=by simpa using h
   have:=o.trans ux uz uy le hz;simp [this]
 ·obtain⟨i,hi,e⟩:=E1 hx;rw [T0,sl] at hi;have lx:arr.toList[base+i]? =some x:=by
   rw [<-XG (n:=n) (by omega),G2 (by omega),<-e,nU]
  have:=k2 i (by omega);rw [vX lx] at this;exact this
 ·obtain⟨i,hi,e⟩:=E1 hx;rw [N5,sl] at hi;have lx:arr.toList[base+(k+i)]? =some x:=by
   rw [<-XG (n:=n) (by omega),G2 (by omega),<-e,gV]
  have:=k3 (k+i) (by omega) (by omega);rw [vX lx] at this;exact this
theorem Mp: ∀ (m:G0 D7) (arr:N8 D7) (p d:G5),p+d+m.length<=arr.size->((m.zipIdx d).foldl (λ(c:N8 D7) (x:D7×G5)=>c.setIfInBounds (p+x.2) x.1) arr).toList=arr.toList.take (p+d)++m++arr.toList.drop (p+d+m.length)
 | [],arr,p,d,_=>by simp
 |x::m,arr,p,d,h=>by
  rw [R7] at h;rw [List.zipIdx_cons,o6];rw [Mp m _ p (d+1) (by rw [g6];omega)];have hl:arr.toList.length=arr.size:=by simp
  rw [gE];have e1:(arr.toList.set (p+d) x).take (p+(d+1))=arr.toList.take (p+d)++ [x]:=by
   rw [show p+(d+1)=p+d+1 by omega,N7,cS (by omega)];rw [List.take_set_of_le (P5 _)];rfl
  have e2:(arr.toList.set (p+d) x).drop (p+(d+1)+m.length)=arr.toList.drop (p+d+(m.length+1)):=by
   rw [List.drop_set_of_lt (by omega),show p+(d+1)+m.length=p+d+(m.length+1) by omega]
  rw [e1,e2,R7];simp [D3]
end
section
variable {prog:M0}{w:C6}{A:C5}{E:G7->P0->Prop}{J:P0->Prop}{κ:SortKind}{U:D7->Prop}{R:D7->D7->T9}
theorem Tm.set {σ:Type}{st st':σ}{Q:PUnit->σ->Prop}(q:Q ⟨⟩ st'):Tm prog w A E J (MonadStateOf.set st':V1 σ Sem PUnit) Q st:=λs j=>by
 show S6 _ _ ((StateT.set st':V1 σ Sem PUnit).run st) _ _ _;exact D2 ⟨q,j⟩
theorem Fh (a:N8 D7){p n:G5}(h:p<=n):(a.extract p n).toList=seg a.toList p (n-p):=by
 rw [Y8,J4];rfl
theorem Fi (o:Ordd U R){l:G0 D7}(u: ∀x∈l,U x)(s:Srt R l){z:D7}(hz:l[l.length-1]? =some z){x:D7}(hx:x∈l):R z x=false:=by
 obtain⟨i,hi,e⟩:=E1 hx;exact Uc s o u (show i<=l.length-1 by omega) (by rw [G2 hi,e]) hz
theorem Mq (o:Ordd U R){l:G0 D7}(u: ∀x∈l,U x)(s:Srt R l){z:D7}(hz:l[0]? =some z){x:D7}(hx:x∈l):R x z=false:=by
 obtain⟨i,hi,e⟩:=E1 hx;exact Uc s o u (N4 _) hz (by rw [G2 hi,e])
theorem Uf (o:Ordd U R){X Y c:G0 D7}{k k2:G5}{y0 x9:D7}(uX: ∀x∈X,U x)(uY: ∀x∈Y,U x)(sX:Srt R X)(sY:Srt R Y)(hy:Y[0]? =some y0)(hx:X[X.length-1]? =some x9)
 (f1: ∀x∈X.take k,R y0 x=false)(g2: ∀y∈Y.drop k2,R y x9=false)(hp:c.Perm (X.drop k++Y.take k2))(sc:Srt R c):(X.take k++c++Y.drop k2).Perm (X++Y)/\Srt R (X.take k++c++Y.drop k2):=by
 have uy0:=uY y0 (D0 hy);have ux9:=uX x9 (D0 hx);constructor
 ·have e:X++Y=X.take k++(X.drop k++Y.take k2)++Y.drop k2:=by
   rw [<-D3,T7,D3,T7]
  rw [e];exact(hp.append_left _).append_right _
 ·have inX: ∀x∈X.take k,∀z∈X.drop k,R z x=false:=λx hx z hz=>by
   have:Srt R (X.take k++X.drop k):=by rw [T7];exact sX
   exact(B0.mp this).2.2 x hx z hz
  have inY: ∀x∈Y.take k2,∀z∈Y.drop k2,R z x=false:=λx hx z hz=>by
   have:Srt R (Y.take k2++Y.drop k2):=by rw [T7];exact sY
   exact(B0.mp this).2.2 x hx z hz
  have xy: ∀x∈X.take k,∀y∈Y,R y x=false:=λx hx y hy'=>o.trans (uX x (O7 hx)) uy0 (uY y hy') (f1 x hx) (Mq o uY sY hy hy')
  have yx: ∀x∈X,∀y∈Y.drop k2,R y x=false:=λx hx' y hy'=>o.trans (uX x hx') ux9 (uY y (F9 hy')) (Fi o uX sX hx hx') (g2 y hy')
  have xc: ∀x∈X.take k,∀z∈c,R z x=false:=λx hx z hz=>by
   rcases R1.mp (hp.mem_iff.mp hz) with v|v
   ·exact inX x hx z v
   ·exact xy x hx z (O7 v)
  refine B0.mpr ⟨B0.mpr ⟨sX.sublist (Y0 _ _),sc,xc⟩,sY.sublist (Q1 _ _),λx hx y hy=> ?_⟩;rcases R1.mp hx with v|v
  ·exact xy x v y (F9 hy)
  ·rcases R1.mp (hp.mem_iff.mp v) with v|v
   ·exact yx x (F9 v) y hy
   ·exact inY x v y hy
theorem Ph (l:G0 D7){p n m:G5}:l=l.take p++(seg l p n++seg l (p+n) m)++l.drop (p+n+m):=by
 unfold seg;have e1:(l.drop (p+n)).take m++l.drop (p+n+m)=l.drop (p+n):=by
  rw [show l.drop (p+n+m)=(l.drop (p+n)).drop m by rw [X1],T7]
 have e2:(l.drop p).take n++l.drop (p+n)=l.drop p:=by
  rw [show l.drop (p+n)=(l.drop p).drop n by rw [X1],T7]
 rw [D3,D3,e1,e2,T7]
theorem uc {st:B6}{Q:T9->B6->Prop}{i sa na pw sb nb pw2:G5}(ak:QC prog w A J κ U R)(kd:kindOf st=κ)(o:Ordd U R)(u: ∀x∈(S7 st).toList,U x)(p1:(B1 st)[i]? =some (sa,na,pw))(p2:(B1 st)[i+1]? =some (sb,nb,pw2))
 (hs:sa+na=sb)(n1:1<=na)(n2:1<=nb)(hz:sb+nb<=(S7 st).size)(s1:Srt R (seg (S7 st).toList sa na))(s2:Srt R (seg (S7 st).toList sb nb))(hf:Y7 st=none)
 (q: ∀st' Z,kindOf st'=κ->Y7 st'=none->B1 st'=((B1 st).setIfInBounds i (sa,na+nb,pw)).eraseIdxIfInBounds (i+1)->(S7 st').toList=(S7 st).toList.take sa++Z++(S7 st).toList.drop (sb+nb)->Z.Perm (seg (S7 st).toList sa na++seg (S7 st).toList sb nb)->Srt R Z->Q true st'):
 Tm prog w A E J (u6 i) Q st:=by
 have ln:(S7 st).toList.length=(S7 st).size:=by simp
 unfold u6;refine .bind (.get ?_);dsimp only;rw [p1,p2];dsimp only;refine .bind (Tm.set ?_);subst hs;have lX:(seg (S7 st).toList sa na).length=na:=Ue (by omega);have lY:(seg (S7 st).toList (sa+na) nb).length=nb:=Ue (by omega);have uX: ∀x∈seg (S7 st).toList sa na,U x:=λx hx=>u x (DM hx)
 have uY: ∀x∈seg (S7 st).toList (sa+na) nb,U x:=λx hx=>u x (DM hx)
 obtain⟨y0,ly0,ey0⟩:=Ud (arr:=S7 st) (show sa+na<(S7 st).size by omega);obtain⟨x9,lx9,ex9⟩:=Ud (arr:=S7 st) (show sa+(na-1)<(S7 st).size by omega);have hy:(seg (S7 st).toList (sa+na) nb)[0]? =some y0:=by rw [XG (by omega)];exact ly0
 have hx:(seg (S7 st).toList sa na)[(seg (S7 st).toList sa na).length-1]? =some x9:=by rw [lX,XG (by omega)];exact lx9
 have uy0:=u y0 (D0 ly0);have ux9:=u x9 (D0 lx9);have c3:=Ph (S7 st).toList (p:=sa) (n:=na) (m:=nb);have same: ∀ (st':B6),S7 st'=S7 st-> ∀k k2,(∀x∈(seg (S7 st).toList sa na).take k,R y0 x=false)->(∀y∈(seg (S7 st).toList (sa+na) nb).drop k2,R y x9=false)->(na<=k\/k2=0)->Srt R (seg (S7 st).toList sa na++seg (S7 st).toList (sa+na) nb):=λst' e k k2 f1 g2 h=>by
  have pl:(((seg (S7 st).toList sa na).drop k++(seg (S7 st).toList (sa+na) nb).take k2)).Perm ((seg (S7 st).toList sa na).drop k++(seg (S7 st).toList (sa+na) nb).take k2):= .refl _;have sc:Srt R ((seg (S7 st).toList sa na).drop k++(seg (S7 st).toList (sa+na) nb).take k2):=by
   rcases h with h|h
   ·rw [L7 (by omega),A3];exact s2.sublist (Y0 _ _)
   ·rw [h,bI,A2];exact s1.sublist (Q1 _ _)
  have:=(Uf o uX uY s1 s2 hy hx f1 g2 pl sc).2;rw [<-D3,T7,D3,T7] at this;exact this
 refine .bind (.elem ey0 (.bind (jaz (left:=false) ak kd o u s1 uy0 (show sa+na<=(S7 st).size by omega) (by omega) λk k1 f1 f2=> ?_)));have f1: ∀x∈(seg (S7 st).toList sa na).take k,R y0 x=false:=λx hx=>by simpa using f1 x hx
 have f2: ∀x∈(seg (S7 st).toList sa na).drop k,R y0 x=true:=λx hx=>by simpa using f2 x hx
 dsimp only
 by_cases z1:na-k=0
 ·rw [D8 (by simpa using z1)];refine .pure (q _ (seg (S7 st).toList sa na++seg (S7 st).toList (sa+na) nb) kd hf rfl c3 (.refl _) (same st rfl k nb f1 (λy hy=> ?_) (.inl (by omega))));rw [L7 (by omega)] at hy;cases hy
 rw [D9 (by simpa using z1)];refine .bind (.elem (show _=some x9 by rw [show sa+k+(na-k)-1=sa+(na-1) by omega];exact ex9) (.bind (jaz (left:=true) ak kd o u s2 ux9 (show sa+na+nb<=(S7 st).size by omega) (by omega) λk2 j1 g1 g2=> ?_)));have g1: ∀y∈(seg (S7 st).toList (sa+na) nb).take k2,R y x9=true:=λx hx=>by simpa using g1 x hx
 have g2: ∀y∈(seg (S7 st).toList (sa+na) nb).drop k2,R y x9=false:=λx hx=>by simpa using g2 x hx
 dsimp only
 by_cases z2:k2=0
 ·rw [D8 (by simpa using z2)];exact .pure (q _ _ kd hf rfl c3 (.refl _) (same st rfl k k2 f1 g2 (.inr z2)))
 rw [D9 (by simpa using z2)];have eX:((S7 st).extract (sa+k) (sa+na)).toList=(seg (S7 st).toList sa na).drop k:=by
  rw [Fh _ (by omega)];unfold seg;rw [lS,X1,show sa+na-(sa+k)=na-k by omega]
 have eY:((S7 st).extract (sa+na) (sa+na+k2)).toList=(seg (S7 st).toList (sa+na) nb).take k2:=by
  rw [Fh _ (by omega)];unfold seg;rw [lU,show sa+na+k2-(sa+na)=min k2 nb by omega]
 have sx:((S7 st).extract (sa+k) (sa+na)).size=na-k:=by rw [<-C7,eX,N5,lX]
 have sy:((S7 st).extract (sa+na) (sa+na+k2)).size=k2:=by rw [<-C7,eY,T0,lY];omega
 have hx2: ∀z,((seg (S7 st).toList sa na).drop k)[((seg (S7 st).toList sa na).drop k).length-1]? =some z->z=x9:=λz hz'=>by
  rw [N5,aP,lX,show k+(na-k-1)=na-1 by omega] at hz';rw [lX] at hx;rw [hx] at hz';injection hz' with hz';exact hz'.symm
 have hy2: ∀z,((seg (S7 st).toList (sa+na) nb).take k2)[0]? =some z->z=y0:=λz hz'=>by
  rw [bX (by omega),hy] at hz';injection hz' with hz';exact hz'.symm
 have put: ∀c:N8 D7,Zi R ((S7 st).extract (sa+k) (sa+na)) ((S7 st).extract (sa+na) (sa+na+k2)) c->(c.toList.zipIdx.foldl (λ(d:N8 D7) (x:D7×G5)=>d.setIfInBounds (sa+k+x.2) x.1) (S7 st)).toList=(S7 st).toList.take sa++((seg (S7 st).toList sa na).take k++c.toList++(seg (S7 st).toList (sa+na) nb).drop k2)++(S7 st).toList.drop (sa+na+nb):=λc wh=>by
  have lc:c.toList.length=na-k+k2:=by
   rw [wh.1.length_eq,P2,C7,C7,sx,sy]
  have:=Mp c.toList (S7 st) (sa+k) 0 (by omega);rw [this,lc,bQ,show sa+k+(na-k+k2)=sa+na+k2 by omega];have e1:(S7 st).toList.take (sa+k)=(S7 st).toList.take sa++(seg (S7 st).toList sa na).take k:=by
   unfold seg;rw [lU,X8 k1,List.take_add]
  have e2:(S7 st).toList.drop (sa+na+k2)=(seg (S7 st).toList (sa+na) nb).drop k2++(S7 st).toList.drop (sa+na+nb):=by
   unfold seg;have h1:((S7 st).toList.drop (sa+na)).drop k2=(((S7 st).toList.drop (sa+na)).take nb++((S7 st).toList.drop (sa+na)).drop nb).drop k2:=by rw [T7]
   rw [V2 (by rw [T0,N5];omega),X1,X1] at h1;exact h1
  rw [e1,e2];simp [D3]
 have jr: ∀c:N8 D7,Zi R ((S7 st).extract (sa+k) (sa+na)) ((S7 st).extract (sa+na) (sa+na+k2)) c->_:=λc wh=>Uf o (c:=c.toList) uX uY s1 s2 hy hx f1 g2 (by have:=wh.1;rw [eX,eY] at this;exact this) wh.2
 by_cases z3:na-k<=k2
 ·rw [D8 z3];refine .bind (kY ak kd ⟨o,λx hx=> ?_,λx hx=> ?_,?_,?_,λy hy z hz'=> ?_⟩ (by rw [sx];omega) (by rw [sy];omega) (λy z hy' hz'=> ?_) λc st' gl wh=> .bind (Tm.modify (.bind (.get (.pure ?_)))))
  ·rw [eX] at hx;exact uX x (F9 hx)
  ·rw [eY] at hx;exact uY x (O7 hx)
  ·rw [eX];exact s1.sublist (Q1 _ _)
  ·rw [eY];exact s2.sublist (Y0 _ _)
  ·rw [eY] at hy;rw [eX] at hz';rw [hx2 z hz'];exact g1 y hy
  ·rw [eY] at hy';rw [eX] at hz';rw [hy2 y hy'];exact f2 z (D0 hz')
  ·have e:Y7 st'=none:=gl.2.2.2.trans hf;show Q (Y7 st').isNone _;rw [e];refine q _ _ (gl.1.trans kd) e gl.2.2.1 ?_ (jr c wh).1 (jr c wh).2;have ea:S7 st'=S7 st:=gl.2.1;show (c.toList.zipIdx.foldl _ (S7 st')).toList=_;rw [ea];exact put c wh
 ·rw [D9 z3];refine .bind (kZ ak kd ⟨o,λx hx=> ?_,λx hx=> ?_,?_,?_,λz hz' y hy'=> ?_⟩ (by rw [sx];omega) (by rw [sy];omega) (λy z hy' hz'=> ?_) λc st' gl wh=> .bind (Tm.modify (.bind (.get (.pure ?_)))))
  ·rw [eX] at hx;exact uX x (F9 hx)
  ·rw [eY] at hx;exact uY x (O7 hx)
  ·rw [eX];exact s1.sublist (Q1 _ _)
  ·rw [eY];exact s2.sublist (Y0 _ _)
  ·rw [eY] at hy';rw [eX] at hz';rw [hy2 y hy'];exact f2 z hz'
  ·rw [eY] at hy';rw [eX,sx] at hz';have:=hx2 z (by rw [N5,lX];exact hz');rw [this];exact g1 y (D0 hy')
  ·have e:Y7 st'=none:=gl.2.2.2.trans hf;show Q (Y7 st').isNone _;rw [e];refine q _ _ (gl.1.trans kd) e gl.2.2.1 ?_ (jr c wh).1 (jr c wh).2;have ea:S7 st'=S7 st:=gl.2.1;show (c.toList.zipIdx.foldl _ (S7 st')).toList=_;rw [ea];exact put c wh
end
section
variable {prog:M0}{w:C6}{A:C5}{E:G7->P0->Prop}{J:P0->Prop}{κ:SortKind}{U:D7->Prop}{R:D7->D7->T9}
def Lies (st:B6)(P Z S:G0 D7):Prop:=(S7 st).toList=P++Z++S
def Arr (st st':B6):Prop:=kindOf st'=kindOf st/\B1 st'=B1 st/\Y7 st'=Y7 st/\gallopOf st'=gallopOf st
theorem Arr.refl (st:B6):Arr st st:=⟨rfl,rfl,rfl,rfl⟩
theorem OT (xs:N8 D7)(P Z S:G0 D7)(h:xs.toList=P++Z++S):(mirror xs P.length (P.length+Z.length) ((P.length+Z.length-P.length) / 2)).toList=P++Z.reverse++S:=by
 have hl:xs.size=P.length+Z.length+S.length:=by rw [<-C7,h];simp [W5]
 refine a9 λk=> ?_
 rw [F4,getElem?_mirror_all (by omega)]
 by_cases c:P.length<=k/\k<P.length+Z.length
 ·rw [D8 c,<-F4,h,D3,D3];have e1:(P++(Z++S))[P.length+(P.length+Z.length)-1-k]? =Z[P.length+Z.length-1-k]? :=by
   rw [R4 (by omega),S4 (by omega)]
   congr 1;omega
  have e2:(P++(Z.reverse++S))[k]? =Z[P.length+Z.length-1-k]? :=by
   rw [R4 (by omega),S4 (by rw [M8];omega),U0 (by omega)]
   congr 1;omega
  rw [e1,e2]
 ·rw [D9 c,<-F4,h,D3,D3]
  by_cases d:k<P.length
  ·rw [S4 d,S4 d]
  ·have e1:(P++(Z++S))[k]? =S[k-P.length-Z.length]? :=by
    rw [R4 (by omega),R4 (by omega)]
   have e2:(P++(Z.reverse++S))[k]? =S[k-P.length-Z.length]? :=by
    rw [R4 (by omega),R4 (by rw [M8];omega),M8]
   rw [e1,e2]
theorem Tm.rev {st:B6}{P Z S:G0 D7}{i j:G5}{Q:Unit->B6->Prop}(h:Lies st P Z S)(hi:i=P.length)(hj:j=P.length+Z.length)(q: ∀st',Arr st st'->Lies st' P Z.reverse S->Q () st'):Tm prog w A E J (sF i j) Q st:=by
 rw [reverseSlice'_eq];subst hi hj;exact .modify (q _ ⟨rfl,rfl,rfl,rfl⟩ (OT _ P Z S h))
theorem Tm.ltAt {st:B6}{x y:D7}{i j:G5}{Q:D4 T9->B6->Prop}(ak:QC prog w A J κ U R)(kd:kindOf st=κ)(hx:(S7 st).toList[i]? =some x)(hy:(S7 st).toList[j]? =some y)(ux:U x)(uy:U y)(q:Q (some (R x y)) st):Tm prog w A E J (ltAt' i j) Q st:=by
 rw [ltAt'_eq];exact .bind (.get (.bind (.elem (by rw [<-F4];exact hx) (.bind (.elem (by rw [<-F4];exact hy) (.lt ak kd ux uy q))))))
abbrev Dsc (R:D7->D7->T9)(l:G0 D7):Prop:=l.Pairwise λx y=>R x y=false
theorem Td {l:G0 D7}(d:Dsc R l):Srt R l.reverse:=dJ.mpr d
theorem OU (o:Ordd U R){l:G0 D7}{x y:D7}(u: ∀z∈l++ [x],U z)(uy:U y)(s:Srt R (l++ [x]))(h:R y x=false):Srt R (l++ [x]++ [y]):=by
 refine B0.mpr ⟨s,L0 _ _,λz hz v hv=> ?_⟩;rw [P1.mp hv];have ux:=u x (by simp);rcases R1.mp hz with w|w
 ·exact o.trans (u z hz) ux uy ((B0.mp s).2.2 z w x (by simp)) h
 ·rw [P1.mp w];exact h
theorem OV {l m:G0 D7}(s:Dsc R (l++m))(alike: ∀x∈m,∀y∈m,R x y=false):Dsc R (l++m.reverse):=by
 obtain⟨a,b,c⟩:=B0.mp s;refine B0.mpr ⟨a,?_,λx hx y hy=>c x hx y (J3.mp hy)⟩;rw [X4];intro i j hi hj _;exact alike _ (J3.mp (B3 hi)) _ (J3.mp (B3 hj))
end
section
variable {prog:M0}{w:C6}{A:C5}{E:G7->P0->Prop}{J:P0->Prop}{κ:SortKind}{U:D7->Prop}{R:D7->D7->T9}
theorem Arr.trans {a b c:B6}(x:Arr a b)(y:Arr b c):Arr a c:=⟨y.1.trans x.1,y.2.1.trans x.2.1,y.2.2.1.trans x.2.2.1,y.2.2.2.trans x.2.2.2⟩
variable {P Z:G0 D7}
theorem Lies.rest {st:B6}{S:G0 D7}(h:Lies st P Z S){i:G5}:(S7 st).toList[P.length+Z.length+i]? =S[i]? :=by
 rw [h,R4 (by rw [P2];omega),P2]
 congr 1;omega
theorem Lies.end {st:B6}{W S:G0 D7}{x:D7}(h:Lies st P (W++ [x]) S):(S7 st).toList[P.length+W.length]? =some x:=by
 rw [h,D3,R4 (by omega),D3,R4 (by omega)];simp
theorem XH {l:G0 D7}(h:1<=l.length): ∃W x,l=W++ [x]:=by
 rcases List.eq_nil_or_concat l with e|⟨W,x,e⟩
 ·subst e;simp at h
 ·exact⟨W,x,by rw [e,List.concat_eq_append]⟩
structure Fall (R:D7->D7->T9)(T Z1 Z2:G0 D7)(n:G5):Prop where
 len:(Z1++Z2).length=n
 perm:(Z1++Z2).Perm (T.take n)
 dsc:Dsc R (Z1++Z2)
 alike: ∀x∈Z2,∀y∈Z2,R x y=false
 ne:1<=Z2.length
variable {T:G0 D7}{n:G5}
theorem Fall.turn {Z1 Z2:G0 D7}(f:Fall R T Z1 Z2 n):Fall R T Z1 Z2.reverse n:=
 ⟨by have:=f.len;simp only [P2,M8] at this ⊢;exact this,((Q5 Z2).append_left Z1).trans f.perm,OV f.dsc f.alike,λx hx y hy=>f.alike x (J3.mp hx) y (J3.mp hy),by rw [M8];exact f.ne⟩
theorem Fall.mem {Z1 Z2:G0 D7}(f:Fall R T Z1 Z2 n){x:D7}(h:x∈Z1++Z2):x∈T:=O7 (f.perm.mem_iff.mp h)
theorem Wl {y:D7}(h:Z.Perm (T.take n))(hy:T[n]? =some y):(Z++ [y]).Perm (T.take (n+1)):=by
 rw [Ub hy];exact h.append_right _
theorem Fall.below (o:Ordd U R){T Z1 Z2:G0 D7}{n:G5}{x y:D7}(u: ∀x∈T,U x)(f:Fall R T Z1 Z2 n)(hx:x∈Z2)(hy:T[n]? =some y)(h:R y x=true):Fall R T (Z1++Z2) [y] (n+1):=by
 have uy:=u y (D0 hy);have ux:=u x (f.mem (R1.mpr (.inr hx)));have xy:=o.asym y x uy ux h;refine⟨by rw [P2,f.len];rfl,Wl f.perm hy,?_,λa ha b hb=> ?_,by simp⟩
 ·refine B0.mpr ⟨f.dsc,L0 _ _,λz hz v hv=> ?_⟩;rw [P1.mp hv];have uz:=u z (f.mem hz);have zx:R z x=false:=by
   rcases R1.mp hz with w|w
   ·exact(B0.mp f.dsc).2.2 z w x hx
   ·exact f.alike z w x hx
  exact o.trans uy ux uz xy zx
 ·rw [P1.mp ha,P1.mp hb];exact o.refl uy
theorem Fall.like (o:Ordd U R){T Z1 Z2:G0 D7}{n:G5}{x y:D7}(u: ∀x∈T,U x)(f:Fall R T Z1 Z2 n)(hx:x∈Z2)(hy:T[n]? =some y)(h:R y x=false)(h':R x y=false):Fall R T Z1 (Z2++ [y]) (n+1):=by
 have uy:=u y (D0 hy);have ux:=u x (f.mem (R1.mpr (.inr hx)));have zy: ∀z∈Z1++Z2,R z y=false:=λz hz=>by
  have uz:=u z (f.mem hz);have zx:R z x=false:=by
   rcases R1.mp hz with w|w
   ·exact(B0.mp f.dsc).2.2 z w x hx
   ·exact f.alike z w x hx
  exact o.trans uy ux uz h' zx
 have yz: ∀z∈Z2,R y z=false:=λz hz=>o.trans (u z (f.mem (R1.mpr (.inr hz)))) ux uy (f.alike x hx z hz) h
 refine⟨by rw [<-D3,P2,f.len];rfl,by rw [<-D3];exact Wl f.perm hy,?_,λa ha b hb=> ?_,by simp⟩
 ·rw [<-D3];refine B0.mpr ⟨f.dsc,L0 _ _,λz hz v hv=> ?_⟩;rw [P1.mp hv];exact zy z hz
 ·rcases R1.mp ha with p|p<;>rcases R1.mp hb with r|r
  ·exact f.alike a p b r
  ·rw [P1.mp r];exact zy a (R1.mpr (.inr p))
  ·rw [P1.mp p];exact yz b r
  ·rw [P1.mp p,P1.mp r];exact o.refl uy
theorem Lies.more {st:B6}{m:G5}{y:D7}(L:Lies st P Z (T.drop m))(hy:T[m]? =some y):Lies st P (Z++ [y]) (T.drop (m+1)):=by
 unfold Lies at L ⊢;rw [L,zQ hy];simp
theorem Lies.part {st:B6}{Z1 Z2 S:G0 D7}:Lies st P (Z1++Z2) S↔Lies st (P++Z1) Z2 S:=by
 unfold Lies;simp only [D3]
theorem Lies.two {st:B6}{m:G5}{y:D7}(L:Lies st P Z (T.drop m))(lz:Z.length=m)(m1:1<=m)(hy:T[m]? =some y):(S7 st).toList[P.length+m]? =some y/\ ∃W x,Z=W++ [x]/\(S7 st).toList[P.length+m-1]? =some x:=by
 have a:=L.rest (i:=0);rw [aP,lz,bQ,bQ,hy] at a;obtain⟨W,x,e⟩:=XH (l:=Z) (by omega);subst e;refine⟨a,W,x,rfl,?_⟩;rw [<-L.end]
 congr 1
 rw [P2,E2] at lz;omega
section
variable {σ ρ τ α:Type}{st:σ}
theorem Tm.rangeN {f:G5->D4 ρ×τ->V1 σ Sem (fL (D4 ρ×τ))}(I:G5->τ->σ->Prop){Q:τ->σ->Prop}{Q':D4 ρ×τ->σ->Prop}{a b:G5}{c:τ}(hab:a<=b)(h:I a c st)(step: ∀i c st,i<b->I i c st->Tm prog w A E J (f i (none,c)) (λr st'=>match r with| .done c'=>c'.1=none/\Q c'.2 st'| .yield c'=>c'.1=none/\I (i+1) c'.2 st') st)(fin: ∀c st,I b c st->Q c st)(q: ∀c st,Q c st->Q' (none,c) st):Tm prog w A E J (forIn [a:b] ((none:D4 ρ),c) f) Q' st:=by
 refine Tm.mono (Tm.range (λi c st=>c.1=none/\I i c.2 st) (Q:=λc st=>c.1=none/\Q c.2 st) hab ⟨rfl,h⟩ ?_ λc st h=>⟨h.1,fin _ _ h.2⟩) ?_
 ·rintro i ⟨_,c⟩ st hi ⟨rfl,h⟩;exact(step i c st hi h).mono λr st' x=>by cases r<;>exact x
 ·rintro ⟨_,c⟩ st ⟨rfl,h⟩;exact q c st h
theorem Tm.fork {c:Prop}[Decidable c]{t e:V1 σ Sem α}{Q:α->σ->Prop}(I:σ->Prop)(G: ∀s,I s->Tm prog w A E J e Q s)(T:c->(∀s,I s->Tm prog w A E J e Q s)->Tm prog w A E J t Q st)(F: ¬c->I st):Tm prog w A E J (if c then t else e) Q st:=
 .if2 (λh=>T h G) λh=>G _ (F h)
end
section
variable {st:B6}{P T Z:G0 D7}{m:G5}
theorem Fj {f:G5->D4 (D4 G5)×G5->V1 B6 Sem (fL (D4 (D4 G5)×G5))}{G:G5->D4 T9->V1 B6 Sem (fL (D4 (D4 G5)×G5))}{Q:D4 (D4 G5)×G5->B6->Prop}(ak:QC prog w A J κ U R)(kd:kindOf st=κ)(o:Ordd U R)(u: ∀x∈T,U x)
 (hf: ∀i n,f i (none,n)=ltAt' (P.length+n) (P.length+n-1) >>= G n)(hG: ∀n,G n (some true)=Pure.pure (.done (none,n))/\G n (some false)=Pure.pure (.yield (none,n+1)))
 (m1:1<=m)(m2:m<=T.length)(L:Lies st P Z (T.drop m))(p:Z.Perm (T.take m))(s:Srt R Z)
 (q: ∀n Z',1<=n->n<=T.length->Lies st P Z' (T.drop n)->Z'.Perm (T.take n)->Srt R Z'->(∀y,T[n]? =some y-> ∃W x,Z'=W++ [x]/\R y x=true)->Q (none,n) st):Tm prog w A E J (forIn [m:T.length] ((none:D4 (D4 G5)),m) f) Q st:=by
 refine Tm.rangeN (λi c s=>s=st/\c=i/\1<=i/\ ∃Z,Lies st P Z (T.drop i)/\Z.Perm (T.take i)/\Srt R Z) (Q:=λn s=>s=st/\Q (none,n) st) m2 ⟨rfl,rfl,m1,Z,L,p,s⟩ ?_ ?_ λc s h=>h.1 ▸ h.2
 ·rintro _ i _ hi ⟨rfl,rfl,i1,Z,L,p,s⟩;have hy:=G2 hi;obtain⟨ay,W,x,rfl,ax⟩:=L.two (by rw [p.length_eq,T0,X8 (S1 hi)]) i1 hy;have uy:=u _ (B3 hi);have uZ: ∀z∈W++ [x],U z:=λz hz=>u z (O7 (p.mem_iff.mp hz))
  rw [hf];refine .bind (.ltAt ak kd ay ax uy (uZ x (by simp)) ?_);cases hb:R T[i] x with
  |true=>
   rw [(hG _).1];exact .pure ⟨rfl,rfl,q i _ i1 (S1 hi) L p s λy h=>⟨W,x,rfl,by rw [hy] at h;injection h with h;rw [<-h];exact hb⟩⟩
  |false=>
   rw [(hG _).2];exact .pure ⟨rfl,rfl,rfl,dO (N4 _),_,L.more hy,Wl p hy,OU o uZ uy s hb⟩
 ·rintro _ _ ⟨rfl,rfl,i1,Z,L,p,s⟩;exact⟨rfl,q _ Z i1 (P5 _) L p s λy h=>absurd (P8.mp h).1 (O0 _)⟩
end
def Fell (R:D7->D7->T9)(P T:G0 D7)(st st':B6)(n k:G5):Prop:=Arr st st'/\ ∃Z1 Z2,Lies st' P (Z1++Z2) (T.drop n)/\Fall R T Z1 Z2 n/\Z2.length=k+1
theorem Fell.rev {st s2:B6}{k:G5}{Q:Unit->B6->Prop}(h:Fell R P T st s2 n k)(q: ∀s3,Fell R P T st s3 n k->Q () s3):Tm prog w A E J (sF (P.length+n-(k+1)) (P.length+n)) Q s2:=by
 obtain⟨ar,Z1,Z2,L,F,l⟩:=h;have l12:=F.len;rw [P2] at l12;exact .rev (Lies.part.mp L) (by rw [P2];omega) (by rw [P2];omega) λs3 ar3 L3=>q s3 ⟨ar.trans ar3,Z1,_,Lies.part.mpr L3,F.turn,by rw [M8];exact l⟩
theorem OW {st:B6}{Q:D4 G5->B6->Prop}(ak:QC prog w A J κ U R)(kd:kindOf st=κ)(o:Ordd U R)(u: ∀x∈T,U x)(h:Lies st P [] T)(h1:1<=T.length)
 (q: ∀n st' Z,1<=n->n<=T.length->Arr st st'->Lies st' P Z (T.drop n)->Z.Perm (T.take n)->Srt R Z->Q (some n) st'):Tm prog w A E J (countRun' P.length T.length) Q st:=by
 refine .bind (Fj (m:=1) (Z:=T.take 1) ak kd o u (by exact λi n=>rfl) (by exact λn=>⟨rfl,rfl⟩) (P5 _) h1 ?_ (.refl _) ?_ λn Z n1 n2 L p sr br=> ?_)
 ·unfold Lies at h ⊢;rw [h,A2,D3,T7]
 ·match T,h1 with
  |x::r,_=>exact L0 _ _
 refine .eq2 (x:=n) (y:=T.length) (λz1=> .pure (q n _ _ n1 n2 (Arr.refl _) L p sr)) λz1=> ?_
 have n3:n<T.length:=A5 n2 z1;have hy:=G2 n3;have uZ: ∀z∈Z,U z:=λz hz=>u z (O7 (p.mem_iff.mp hz))
 obtain⟨W,x,e,yx⟩:=br _ hy;have lz:Z.length=n:=by rw [p.length_eq,T0,X8 n2]
 have xin:x∈Z:=by rw [e];simp
 have xl:Z[Z.length-1]? =some x:=by rw [e];simp
 have F0:(∀p∈Z,∀r∈Z,R p r=false)->Fall R T [] Z n:=λal=>⟨lz,p,X4.mpr λi j hi hj _=>al _ (B3 hi) _ (B3 hj),al,by rw [lz];exact n1⟩
 refine Tm.fork (λs=>Fell R P T st s (n+1) 0) ?_ ?_ ?_
 ·intro s1 F1;refine .bind (.rule (.bind (Tm.rangeN (λi c s=>c.1=i/\Fell R P T st s c.1 c.2) (Q:=λc s=>c.1<=T.length/\Fell R P T st s c.1 c.2) n3 ⟨rfl,F1⟩ ?_ (λc s h=>⟨W1 h.1,h.2⟩) ?_)))
  ·intro i c s2 hi h2;have hc:c.1<T.length:=by rw [h2.1];exact hi
   have hy:=G2 hc;have uy:=u _ (B3 hc);obtain⟨e1,ar2,Z1,Z2,L2,F2,l2⟩:=h2;have l12:=F2.len;obtain⟨ay,W,x,eW,ax⟩:=L2.two l12 (by rw [<-l12,P2,l2];exact aT _ _) hy;have xin:x∈Z2:=by
    obtain⟨V,v,e⟩:=XH F2.ne;have e':=congrArg List.getLast? eW;rw [e,<-D3,lV,lV] at e';injection e' with e'
    rw [e,<-e'];simp
   have ux:=u x (F2.mem (R1.mpr (.inr xin)));refine .bind (.ltAt ak (ar2.1.trans kd) ay ax uy ux (.if2 (c:=R _ x=true) (λhb=> ?_) λhb=> .bind (.ltAt ak (ar2.1.trans kd) ax ay ux uy (.if2 (c:=R x _=true) (λhc'=> .pure ⟨rfl,S1 hc,ar2,Z1,Z2,L2,F2,l2⟩) λhc'=> ?_))))
   ·refine Tm.fork (λs=>Fell R P T st s (c.1+1) 0) (λs h=> .pure ⟨rfl,congrArg G0m e1,h⟩) (λzq H=> .bind ?_) λzq=>⟨ar2,Z1++Z2,[T[c.1]],L2.more hy,F2.below o u xin hy hb,rfl⟩
    have l12':=l12;rw [P2] at l12';exact .rev (Lies.part.mp L2) (by rw [P2];dsimp only;omega) (by rw [P2];dsimp only;omega) λs3 ar3 L3=>H s3 ⟨ar2.trans ar3,Z1++Z2.reverse,[T[c.1]],(Lies.part.mpr L3).more hy,F2.turn.below o u (J3.mpr xin) hy hb,rfl⟩
   ·refine .pure ⟨rfl,congrArg G0m e1,ar2,Z1,Z2++ [T[c.1]],?_,F2.like o u xin hy (a8.mpr hb) (a8.mpr hc'),by rw [P2,l2];rfl⟩;rw [<-D3];exact L2.more hy
  ·intro c s2 h2;refine Tm.fork (λs=> ∃k,Fell R P T st s c.1 k) ?_ (λzq H=> .bind (h2.2.rev λs h=>H s ⟨_,h⟩)) λzq=>⟨_,h2.2⟩
   intro s3 h3;obtain⟨k,ar3,Z1,Z2,L3,F3,l3⟩:=h3;have m1:1<=c.1:=by rw [<-F3.len,P2,l3];exact aT _ _
   exact .bind (.rev L3 rfl (by rw [F3.len]) λs4 ar4 L4=> .bind (Fj ak ((ar3.trans ar4).1.trans kd) o u (by exact λi n=>rfl) (by exact λn=>⟨rfl,rfl⟩) m1 h2.1 L4 ((Q5 _).trans F3.perm) (Td F3.dsc) λn Z n1 n2 L p sr _=> .pure (q n s4 Z n1 n2 (ar3.trans ar4) L p sr)))
 ·intro z2 H;obtain⟨x0,V,eV⟩: ∃x0 V,Z=x0::V:=by
   match Z,xin with
   |a::r,_=>exact⟨a,r,rfl⟩
  have ux:=uZ x xin;have ux0:=uZ x0 (by rw [eV];simp);have a0:(S7 st).toList[P.length]? =some x0:=by rw [L,eV];simp
  have a1:(S7 st).toList[P.length+n-1]? =some x:=by
   obtain⟨_,W',x',e',ax⟩:=L.two lz n1 hy;rw [e] at e';rw [ax,(List.append_inj' e' rfl).2 |> λh=>(List.cons.inj h).1]
  exact .bind (.ltAt ak kd a0 a1 ux0 ux (.if2 (c:=R x0 x=true) (λ_=> .pure (q n _ _ n1 n2 (Arr.refl _) L p sr)) λhr0=> .bind (.rev L rfl (by rw [lz]) λs1 ar1 L1=>H s1 ⟨ar1,_,_,L1.more hy,Fall.below o u (Z1:= []) (Fall.turn (F0 λp hp r hr=>o.trans (uZ r hr) ux (uZ p hp) (Fi o uZ sr xl hr) (a8.mpr λv=>(o.neg p x0 x (uZ p hp) ux0 ux v).elim (λv=>by rw [Mq o uZ sr (z:=x0) (by rw [eV];rfl) hp] at v;cases v) hr0))) (J3.mpr xin) hy yx,rfl⟩)))
 ·intro z2;have w0:W= []:=aI (by rw [e,P2,E2] at lz;omega);have f: ∀z∈Z,z=x:=λz hz=>by rw [e,w0] at hz;exact P1.mp hz
  exact⟨Arr.refl st,_,_,L.more hy,Fall.below o u (Z1:= []) (F0 λp hp r hr=>by rw [f p hp,f r hr];exact o.refl (uZ x xin)) xin hy yx,rfl⟩
end
section
variable {prog:M0}{w:C6}{A:C5}{E:G7->P0->Prop}{J:P0->Prop}{κ:SortKind}{U:D7->Prop}{R:D7->D7->T9}
theorem OX (xs:N8 D7)(P Z S:G0 D7)(y:D7)(l:G5)(hl:l<=Z.length)(h:xs.toList=P++Z++y::S):(bubble xs (P.length+Z.length) (Z.length-l)).toList=P++(Z.take l++ [y]++Z.drop l)++S:=by
 have hz:xs.size=P.length+Z.length+(S.length+1):=by rw [<-C7,h];simp [W5]
 have at_: ∀k,xs[k]? =(P++Z++y::S)[k]? :=λk=>by rw [<-F4,h]
 refine a9 λk=> ?_
 rw [F4,getElem?_bubble (by omega) _ (by omega)];have lt:(Z.take l).length=l:=by rw [T0];omega
 by_cases c:k=P.length+Z.length-(Z.length-l)
 ·rw [D8 c,at_];have e1:(P++Z++y::S)[P.length+Z.length]? =some y:=by
   rw [R4 (by rw [P2];omega),P2,fK];rfl
  have e2:(P++(Z.take l++ [y]++Z.drop l)++S)[k]? =some y:=by
   rw [D3,R4 (by omega),D3,D3,R4 (by rw [lt];omega),lt,show k-P.length-l=0 by omega];rfl
  rw [e1,e2]
 ·rw [D9 c]
  by_cases d:P.length+Z.length-(Z.length-l)<k/\k<=P.length+Z.length
  ·rw [D8 d,at_];have e1:(P++Z++y::S)[k-1]? =Z[k-1-P.length]? :=by
    rw [D3,R4 (by omega),S4 (by omega)]
   have e2:(P++(Z.take l++ [y]++Z.drop l)++S)[k]? =Z[k-1-P.length]? :=by
    rw [D3,R4 (by omega),S4 (by simp only [P2,T0,N5,E2];omega),R4 (by rw [P2,lt];simp;omega),P2,lt,aP]
    congr 1;simp;omega
   rw [e1,e2]
  ·rw [D9 d,at_]
   by_cases f:k<P.length+l
   ·have e1:(P++Z++y::S)[k]? =(P++Z.take l)[k]? :=by
     have:P++Z++y::S=P++Z.take l++(Z.drop l++y::S):=by
      rw [D3,D3,<-D3 (Z.take l),T7]
     rw [this,S4 (by rw [P2,lt];omega)]
    have e2:(P++(Z.take l++ [y]++Z.drop l)++S)[k]? =(P++Z.take l)[k]? :=by
     have:P++(Z.take l++ [y]++Z.drop l)++S=P++Z.take l++([y]++Z.drop l++S):=by simp [D3]
     rw [this,S4 (by rw [P2,lt];omega)]
    rw [e1,e2]
   ·have e1:(P++Z++y::S)[k]? =S[k-P.length-Z.length-1]? :=by
     rw [R4 (by rw [P2];omega),P2,List.getElem?_cons,D9 (by omega)]
     congr 1;omega
    have e2:(P++(Z.take l++ [y]++Z.drop l)++S)[k]? =S[k-P.length-Z.length-1]? :=by
     rw [R4 (by simp only [P2,T0,N5,E2];omega)]
     congr 1;simp only [P2,T0,N5,E2];omega
    rw [e1,e2]
theorem Te (o:Ordd U R){Z:G0 D7}{y:D7}{l:G5}(u: ∀z∈Z,U z)(uy:U y)(s:Srt R Z)(a: ∀z∈Z.take l,R y z=false)(b: ∀z∈Z.drop l,R y z=true):Srt R (Z.take l++ [y]++Z.drop l):=by
 have s':Srt R (Z.take l++Z.drop l):=by rw [T7];exact s
 obtain⟨s1,s2,s3⟩:=B0.mp s';refine B0.mpr ⟨B0.mpr ⟨s1,L0 _ _,λx hx z hz=> ?_⟩,s2,λx hx z hz=> ?_⟩
 ·rw [P1.mp hz];exact a x hx
 ·rcases R1.mp hx with v|v
  ·exact s3 x v z hz
  ·rw [P1.mp v];exact o.asym y z uy (u z (F9 hz)) (b z hz)
theorem ud {st:B6}{Q:T9->B6->Prop}{P T Z:G0 D7}{n k:G5}(ak:QC prog w A J κ U R)(kd:kindOf st=κ)(o:Ordd U R)(u: ∀x∈T,U x)(h:Lies st P Z (T.drop k))(hp:Z.Perm (T.take k))(hs:Srt R Z)(k1:1<=k)(kn:k<=n)(hn:n<=T.length)
 (q: ∀st' Z',Arr st st'->Lies st' P Z' (T.drop n)->Z'.Perm (T.take n)->Srt R Z'->Q true st'):Tm prog w A E J (u7 P.length n k) Q st:=by
 unfold u7;refine .bind (Tm.mono (Tm.range (λi c s1=>Arr st s1/\c.1=none/\1<=i/\ ∃Z,Lies s1 P Z (T.drop i)/\Z.Perm (T.take i)/\Srt R Z) (Q:=λc s1=>Arr st s1/\c.1=none/\ ∃Z,Lies s1 P Z (T.drop n)/\Z.Perm (T.take n)/\Srt R Z) (by omega) ⟨Arr.refl st,rfl,by omega,Z,by rw [pI k1];exact h,by rw [pI k1];exact hp,hs⟩ ?_ ?_) ?_)
 ·rintro i ⟨r,c2⟩ s1 hi ⟨ar,hr,i1,Z,L,p,s⟩;dsimp only at hr ⊢;subst hr;obtain⟨y,hy⟩: ∃y,T[i]? =some y:=⟨_,G2 (by omega)⟩;have uy:=u y (D0 hy);have lz:Z.length=i:=by rw [p.length_eq,T0];omega
  have uZ: ∀z∈Z,U z:=λz hz=>u z (O7 (p.mem_iff.mp hz))
  have ay:(S7 s1).toList[P.length+i]? =some y:=by
   have:=L.rest (i:=0);rw [aP,lz] at this;rw [bQ] at this;rw [this];exact hy
  have az: ∀m,m<i-> ∃z,Z[m]? =some z/\(S7 s1).toList[P.length+m]? =some z:=λm hm=>by
   refine⟨Z[m],G2 (by omega),?_⟩;rw [L,D3,R4 (by omega),S4 (by omega),iH,G2 (by omega)]
  refine .bind (Tm.mono (Tm.range (λj c s2=>s2=s1/\c.1=none/\c.2.1<=c.2.2/\c.2.2<=i/\(∀z∈Z.take c.2.1,R y z=false)/\(∀z∈Z.drop c.2.2,R y z=true)/\c.2.2-c.2.1+j<=i) (Q:=λc s2=>s2=s1/\c.1=none/\c.2.1<=i/\(∀z∈Z.take c.2.1,R y z=false)/\(∀z∈Z.drop c.2.1,R y z=true)) (N4 _) ⟨rfl,rfl,N4 _,P5 _,λz hz=> ?_,λz hz=> ?_,by dsimp only;omega⟩ ?_ ?_) ?_)
  ·dsimp only at hz;rw [bI] at hz;cases hz
  ·dsimp only at hz;rw [L7 (by omega)] at hz;cases hz
  ·rintro j ⟨r,l,v⟩ _ hj ⟨rfl,hr,b1,b2,b3,b4,b5⟩;dsimp only at hr b1 b2 b3 b4 b5 ⊢;subst hr
   by_cases c1:l>=v
   ·rw [D8 c1];have:l=v:=by omega
    subst this;exact .pure ⟨rfl,rfl,b2,b3,b4⟩
   rw [D9 c1];obtain⟨z,hz,ez⟩:=az ((l+v) / 2) (by omega);have uz:=uZ z (D0 hz);refine .bind (.ltAt ak (ar.1.trans kd) ay ez uy uz ?_);dsimp only;cases hb:R y z with
   |true=>
    rw [D8 rfl];refine .pure ⟨rfl,rfl,by dsimp only;omega,by dsimp only;omega,b3,λx hx=> ?_,by dsimp only;omega⟩;dsimp only at hx;have zx:R x z=false:=by
     obtain⟨t,ht,e⟩:=E1 hx;rw [N5] at ht;exact Uc s o uZ (show (l+v) / 2<=(l+v) / 2+t by omega) hz (by rw [G2 (by omega),<-e,gV])
    rcases o.neg y x z uy (uZ x (F9 hx)) uz hb with w|w
    ·exact w
    ·rw [zx] at w;cases w
   |false=>
    rw [D9 (by decide)];refine .pure ⟨rfl,rfl,by dsimp only;omega,b2,λx hx=> ?_,b4,by dsimp only;omega⟩;dsimp only at hx;have xz:R z x=false:=by
     obtain⟨t,ht,e⟩:=E1 hx;rw [T0] at ht;exact Uc s o uZ (show t<=(l+v) / 2 by omega) (by rw [G2 (by omega),<-e,nU]) hz
    exact o.trans (uZ x (O7 hx)) uz uy xz hb
  ·rintro ⟨r,l,v⟩ _ ⟨rfl,hr,b1,b2,b3,b4,b5⟩;dsimp only at hr b1 b2 b3 b4 b5 ⊢;have:l=v:=by omega
   subst this;exact⟨rfl,hr,b2,b3,b4⟩
  ·rintro ⟨r,l,v⟩ s2 ⟨rfl,hr,b2,b3,b4⟩;dsimp only at hr b2 b3 b4 ⊢;subst hr;dsimp only;refine .bind ?_;show Tm prog w A E J (moveDown' (P.length+i) (P.length+l)) _ _;rw [moveDown'_eq];refine .modify (.pure ⟨ar.trans ⟨rfl,rfl,rfl,rfl⟩,rfl,by omega,Z.take l++ [y]++Z.drop l,?_,?_,Te o uZ uy s b3 b4⟩)
   ·have:=OX (S7 s2) P Z (T.drop (i+1)) y l (by omega) (by rw [<-zQ hy];exact L);rw [lz] at this;rw [show P.length+i-(P.length+l)=i-l by omega];exact this
   ·refine j8 ?_ (Wl p hy);rw [D3];have e:Z++ [y]=Z.take l++(Z.drop l++ [y]):=by rw [<-D3,T7]
    rw [e];exact(aX).append_left _
 ·rintro ⟨r,c2⟩ s1 ⟨ar,hr,i1,Z,L,p,s⟩;exact⟨ar,hr,Z,L,p,s⟩
 ·rintro ⟨r,c2⟩ s1 ⟨ar,hr,Z,L,p,s⟩;dsimp only at hr ⊢;subst hr;exact .pure (q s1 Z ar L p s)
end
section
variable {prog:M0}{w:C6}{A:C5}{E:G7->P0->Prop}{J:P0->Prop}{κ:SortKind}{U:D7->Prop}{R:D7->D7->T9}
def Stk (R:D7->D7->T9)(l:G0 D7):G0 (G5×G5×G5)->G5->G5->Prop
 | [],s,e=>s=e
 |(p,n,_)::rest,s,e=>p=s/\1<=n/\Srt R (seg l p n)/\Stk R l rest (s+n) e
variable {l:G0 D7}
theorem Stk.le: ∀ {pl:G0 (G5×G5×G5)} {s e:G5},Stk R l pl s e->s+pl.length<=e
 | [],s,e,h=>by cases h;simp
 |(p,n,_)::rest,s,e,⟨_,n1,_,h⟩=>by have:=Stk.le h;simp only [R7];omega
theorem OY {l':G0 D7}{p n e:G5}(h:l.take e=l'.take e)(he:p+n<=e):seg l p n=seg l' p n:=by
 have cut: ∀k:G0 D7,seg k p n=seg (k.take e) p n:=λk=>by
  unfold seg;rw [lS,lU,X8 (by omega)]
 rw [cut l,cut l',h]
theorem Stk.same {l':G0 D7}: ∀ {pl:G0 (G5×G5×G5)} {s e:G5},Stk R l pl s e->l.take e=l'.take e->Stk R l' pl s e
 | [],s,e,h,_=>h
 |(p,n,_)::rest,s,e,⟨a,b,c,d⟩,h=>by
  have:=d.le;exact⟨a,b,by rw [<-OY h (by omega)];exact c,d.same h⟩
theorem Stk.shift {l':G0 D7}: ∀ {pl:G0 (G5×G5×G5)} {s e:G5},Stk R l pl s e->l.drop s=l'.drop s->Stk R l' pl s e
 | [],s,e,h,_=>h
 |(p,n,_)::rest,s,e,⟨a,b,c,d⟩,h=>by
  subst a;refine⟨rfl,b,by unfold seg at c ⊢;rw [<-h];exact c,d.shift ?_⟩;rw [<-X1,<-X1,h]
theorem Stk.append: ∀ {a b:G0 (G5×G5×G5)} {s e:G5},Stk R l (a++b) s e↔ ∃m,Stk R l a s m/\Stk R l b m e
 | [],b,s,e=>⟨λh=>⟨s,rfl,h⟩,λ⟨m,h,h'⟩=>by cases h;exact h'⟩
 |(p,n,w)::a,b,s,e=>by
  constructor
  ·rintro ⟨x,y,z,h⟩;obtain⟨m,h1,h2⟩:=Stk.append.mp h;exact⟨m,⟨x,y,z,h1⟩,h2⟩
  ·rintro ⟨m,⟨x,y,z,h1⟩,h2⟩;exact⟨x,y,z,Stk.append.mpr ⟨m,h1,h2⟩⟩
structure Bt (R:D7->D7->T9)(κ:SortKind)(l0:G0 D7)(lo:G5)(st:B6):Prop where
 kind:kindOf st=κ
 failed:Y7 st=none
 perm:(S7 st).toList.Perm l0
 stk:Stk R (S7 st).toList (B1 st).toList 0 lo
variable {l0:G0 D7}{lo:G5}
theorem Bt.size {st:B6}(b:Bt R κ l0 lo st):(S7 st).size=l0.length:=by rw [<-C7,b.perm.length_eq]
theorem Bt.merge {st:B6}{Q:T9->B6->Prop}{i:G5}(ak:QC prog w A J κ U R)(o:Ordd U R)(u: ∀x∈l0,U x)(b:Bt R κ l0 lo st)(hlo:lo<=l0.length)(hi:i+1<(B1 st).size)
 (q: ∀st',Bt R κ l0 lo st'->(B1 st').size+1=(B1 st).size->(S7 st').toList.drop lo=(S7 st).toList.drop lo->Q true st'):Tm prog w A E J (u6 i) Q st:=by
 have lp:(B1 st).toList.length=(B1 st).size:=by simp
 obtain⟨⟨sa,na,pw⟩,hx⟩: ∃x,(B1 st).toList[i]? =some x:=⟨_,G2 (by omega)⟩;obtain⟨⟨sb,nb,pw2⟩,hy⟩: ∃y,(B1 st).toList[i+1]? =some y:=⟨_,G2 (by omega)⟩;have e:(B1 st).toList=(B1 st).toList.take i++(sa,na,pw)::(sb,nb,pw2)::(B1 st).toList.drop (i+2):=by
  rw [<-zQ hy,<-zQ hx,T7]
 have stk:=b.stk;rw [e] at stk;obtain⟨m,k1,em,n1,s1,eb,n2,s2,k2⟩:=Stk.append.mp stk;subst em;subst eb;have le:=k2.le;have sz:=b.size;have hz:sa+na+nb<=(S7 st).size:=by omega
 have ln:(S7 st).toList.length=(S7 st).size:=by simp
 refine uc ak b.kind o (λx hx=>u x (b.perm.mem_iff.mp hx)) (by rw [<-F4];exact hx) (by rw [<-F4];exact hy) rfl n1 n2 hz s1 s2 b.failed λst' Z kd hf hp ha pz sz'=> ?_
 have hpl:(B1 st').toList=(B1 st).toList.take i++(sa,na+nb,pw)::(B1 st).toList.drop (i+2):=by
  rw [hp,Array.eraseIdxIfInBounds_eq,dif_pos (by rw [g6];exact hi),Array.toList_eraseIdx,gE];generalize (B1 st).toList.drop (i+2)=B at e ⊢;have li:((B1 st).toList.take i).length=i:=by rw [T0];omega
  generalize (B1 st).toList.take i=A at e li ⊢;rw [e];subst li;simp [List.set_append,List.eraseIdx_append];intro z;omega
 have lZ:Z.length=na+nb:=by rw [pz.length_eq,P2,Ue (by omega),Ue (by omega)]
 have lt:((S7 st).toList.take sa).length=sa:=by rw [T0];omega
 refine q st' ⟨kd,hf,?_,?_⟩ ?_ ?_
 ·rw [ha];refine j8 ?_ b.perm;have c3:=Ph (S7 st).toList (p:=sa) (n:=na) (m:=nb);have pp:=(pz.append_left ((S7 st).toList.take sa)).append_right ((S7 st).toList.drop (sa+na+nb));rw [<-c3] at pp;exact pp
 ·rw [hpl,ha];refine Stk.append.mpr ⟨sa,k1.same ?_,rfl,by omega,?_,?_⟩
  ·rw [D3,V3 (by omega),S5 (l:=(S7 st).toList.take sa) (by omega)]
  ·unfold seg;rw [D3,V2 (by omega),L7 (by omega),A3,V3 (by omega),S5 (by omega)];exact sz'
  ·rw [<-W5];refine k2.shift ?_;have:((S7 st).toList.take sa++Z).length=sa+na+nb:=by rw [P2,lt,lZ];omega
   rw [V2 (by omega),L7 (as:=(S7 st).toList.take sa++Z) (by omega),A3]
 ·rw [<-C7,<-C7,hpl];have:(B1 st).toList.length=((B1 st).toList.take i++(sa,na,pw)::(sa+na,nb,pw2)::(B1 st).toList.drop (i+2)).length:=congrArg X9 e;rw [this];simp only [P2,R7];omega
 ·rw [ha];have c1:((S7 st).toList.take sa++Z).length=sa+na+nb:=by rw [P2,lt,lZ];omega
  have c2:sa+na+nb<=lo:=by omega
  rw [List.drop_append,L7 (as:=(S7 st).toList.take sa++Z) (by omega),A3,X1,c1]
  congr 1;omega
theorem Bt.run {Z:G0 D7}{n:G5}{s1 s2:B6}(b:Bt R κ l0 lo s1)(hlo:lo<=l0.length)(ar:Arr s1 s2)(L:Lies s2 ((S7 s1).toList.take lo) Z (((S7 s1).toList.drop lo).drop n))(p:Z.Perm (((S7 s1).toList.drop lo).take n))(sr:Srt R Z)(hn:n<=l0.length-lo):Bt R κ l0 lo s2/\Srt R (seg (S7 s2).toList lo n):=by
 have ln:(S7 s1).toList.length=l0.length:=b.perm.length_eq;have lP:((S7 s1).toList.take lo).length=lo:=by rw [T0];omega
 have lZ:Z.length=n:=by rw [p.length_eq,T0,N5];omega
 have e:(S7 s2).toList=(S7 s1).toList.take lo++Z++((S7 s1).toList.drop lo).drop n:=L;refine⟨⟨ar.1.trans b.kind,ar.2.2.1.trans b.failed,?_,?_⟩,?_⟩
 ·rw [e];refine j8 ?_ b.perm;have pp:=(p.append_left ((S7 s1).toList.take lo)).append_right (((S7 s1).toList.drop lo).drop n);rw [D3 _ (((S7 s1).toList.drop lo).take n),T7,T7] at pp;exact pp
 ·rw [ar.2.1];refine b.stk.same ?_;rw [e,D3,V3 (by omega),S5 (l:=(S7 s1).toList.take lo) (by omega)]
 ·rw [e];unfold seg;rw [D3,V2 (by omega),L7 (by omega),A3,V3 (by omega),S5 (by omega)];exact sr
theorem Bt.push {n:G5}{s:B6}(b:Bt R κ l0 lo s)(n1:1<=n)(g:Srt R (seg (S7 s).toList lo n)):Bt R κ l0 (lo+n) (IG s ((B1 s).push (lo,n,0))):=by
 refine⟨b.kind,b.failed,b.perm,?_⟩;show Stk R (S7 s).toList ((B1 s).push (lo,n,0)).toList 0 (lo+n);rw [Y5];exact Stk.append.mpr ⟨lo,b.stk,rfl,n1,g,rfl⟩
theorem Stk.mod {f:G5×G5×G5->G5×G5×G5}(hf: ∀x,(f x).1=x.1/\(f x).2.1=x.2.1): ∀ {pl:G0 (G5×G5×G5)} {k s e:G5},Stk R l pl s e->Stk R l (pl.modify k f) s e
 | [],k,s,e,h=>by rw [List.modify_nil];exact h
 |(p,n,w)::rest,0,s,e,⟨a,b,c,d⟩=>by
  rw [List.modify_zero_cons];have e1:=(hf (p,n,w)).1;have e2:=(hf (p,n,w)).2;generalize f (p,n,w)=x at e1 e2;obtain⟨p',n',w'⟩:=x;dsimp only at e1 e2;subst e1 e2;exact⟨a,b,c,d⟩
 |(p,n,w)::rest,k+1,s,e,⟨a,b,c,d⟩=>by
  rw [List.modify_succ_cons];exact⟨a,b,c,d.mod hf⟩
theorem Bt.mod {k:G5}{s:B6}{f:G5×G5×G5->G5×G5×G5}(b:Bt R κ l0 lo s)(hf: ∀x,(f x).1=x.1/\(f x).2.1=x.2.1):Bt R κ l0 lo (IG s ((B1 s).modify k f)):=by
 refine⟨b.kind,b.failed,b.perm,?_⟩;show Stk R (S7 s).toList ((B1 s).modify k f).toList 0 lo;rw [Array.toList_modify];exact b.stk.mod hf
theorem OZ (c:T9)(x:G5):(if c=true then x-1 else x)<=x:=by cases c<;>simp
theorem Tf {st:B6}{Q:Unit->B6->Prop}(ak:QC prog w A J κ U R)(o:Ordd U R)(u: ∀x∈l0,U x)(kd:kindOf st=κ)(hf:Y7 st=none)(hp:B1 st= #[])(hl:(S7 st).toList=l0)
 (q: ∀st',Y7 st'=none->(S7 st').toList.Perm l0->Srt R (S7 st').toList->Q () st'):Tm prog w A E J sortRuns' Q st:=by
 have b0:Bt R κ l0 0 st:=⟨kd,hf,by rw [hl],by rw [hp];rfl⟩;rw [sortRuns'_eq];refine .bind (.get ?_);dsimp only;rw [b0.size];generalize minRun' l0.length l0.length 0=mr;refine .bind (Tm.mono (Tm.range (λi c s1=>c.1=none/\c.2<=l0.length/\i<=c.2/\Bt R κ l0 c.2 s1) (Q:=λc s1=>c.1=none/\Bt R κ l0 l0.length s1) (N4 _) ⟨rfl,N4 _,N4 _,b0⟩ ?_ ?_) ?_)
 ·rintro i ⟨r,lo⟩ s1 hi ⟨hr,h1,h2,b⟩;dsimp only at hr h1 h2 b ⊢;subst hr
  by_cases z1:lo>=l0.length
  ·rw [D8 z1];have:lo=l0.length:=by omega
   subst this;exact .pure ⟨rfl,b⟩
  rw [D9 z1];have ln:(S7 s1).toList.length=l0.length:=b.perm.length_eq;have lP:((S7 s1).toList.take lo).length=lo:=by rw [T0];omega
  have lT:((S7 s1).toList.drop lo).length=l0.length-lo:=by rw [N5,ln]
  have uT: ∀x∈(S7 s1).toList.drop lo,U x:=λx hx=>u x (b.perm.mem_iff.mp (F9 hx))
  have ct:=λ{Q}=>OW (prog:=prog) (w:=w) (A:=A) (E:=E) (J:=J) (Q:=Q) (st:=s1) (P:=(S7 s1).toList.take lo) (T:=(S7 s1).toList.drop lo) ak b.kind o uT (by unfold Lies;rw [A2,T7]) (by omega)
  rw [lP,lT] at ct;refine .bind (ct λn s2 Z n1 n2 ar L p sr=> ?_);dsimp only
  by_cases z2:n<mr
  ·rw [D8 z2];have bn:=λ{Q}=>ud (prog:=prog) (w:=w) (A:=A) (E:=E) (J:=J) (Q:=Q) (st:=s2) (P:=(S7 s1).toList.take lo) (T:=(S7 s1).toList.drop lo) (n:=min (l0.length-lo) mr) ak (ar.1.trans b.kind) o uT L p sr n1 (by omega) (by omega)
   rw [lP] at bn;refine .bind (.rule (.bind (bn λs3 Z3 ar3 L3 p3 sr3=> ?_)));obtain⟨B,G⟩:=b.run h1 (ar.trans ar3) L3 p3 sr3 (by omega);have N1:1<=min (l0.length-lo) mr:=by omega
   rw [D9 (by decide)];refine .bind (.get ?_);split
   ·refine .bind (Tm.mono (Tm.range (λj c s4=>c.1=none/\Bt R κ l0 lo s4/\Srt R (seg (S7 s4).toList lo (min (l0.length-lo) mr))) (Q:=λc s4=>c.1=none/\Bt R κ l0 lo s4/\Srt R (seg (S7 s4).toList lo (min (l0.length-lo) mr))) (N4 _) ⟨rfl,B,G⟩ ?_ (λ_ _ h=>h)) ?_)
    ·rintro j ⟨r,c⟩ s4 hj ⟨hr,B4,G4⟩;dsimp only at hr ⊢;subst hr;refine .bind (.get ?_);split
     ·rename_i older heq;split
      ·exact .pure ⟨rfl,B4,G4⟩
      ·have two:(B1 s4).size>1:=X3 λz=>by rw [D9 z] at heq;cases heq
       refine .bind (Bt.merge ak o u B4 h1 (by omega) λs5 B5 _ dr=> ?_);refine .pure ⟨rfl,B5,?_⟩;unfold seg at G4 ⊢;rw [dr];exact G4
     ·exact .pure ⟨rfl,B4,G4⟩
    ·rintro ⟨r,c⟩ s4 ⟨hr,B4,G4⟩;dsimp only at hr ⊢;subst hr;dsimp only;refine .bind (.modify (.bind (.modify (.pure ⟨rfl,?_,?_,Bt.push (Bt.mod B4 λx=>⟨rfl,rfl⟩) N1 G4⟩))))
     ·dsimp only;omega
     ·dsimp only;omega
   ·refine .bind (.modify (.pure ⟨rfl,?_,?_,Bt.push B N1 G⟩))
    ·dsimp only;omega
    ·dsimp only;omega
  ·rw [D9 z2];obtain⟨B,G⟩:=b.run h1 ar L p sr n2;have N1:=n1;refine .bind (.get ?_);split
   ·refine .bind (Tm.mono (Tm.range (λj c s4=>c.1=none/\Bt R κ l0 lo s4/\Srt R (seg (S7 s4).toList lo (n))) (Q:=λc s4=>c.1=none/\Bt R κ l0 lo s4/\Srt R (seg (S7 s4).toList lo (n))) (N4 _) ⟨rfl,B,G⟩ ?_ (λ_ _ h=>h)) ?_)
    ·rintro j ⟨r,c⟩ s4 hj ⟨hr,B4,G4⟩;dsimp only at hr ⊢;subst hr;refine .bind (.get ?_);split
     ·rename_i older heq;split
      ·exact .pure ⟨rfl,B4,G4⟩
      ·have two:(B1 s4).size>1:=X3 λz=>by rw [D9 z] at heq;cases heq
       refine .bind (Bt.merge ak o u B4 h1 (by omega) λs5 B5 _ dr=> ?_);refine .pure ⟨rfl,B5,?_⟩;unfold seg at G4 ⊢;rw [dr];exact G4
     ·exact .pure ⟨rfl,B4,G4⟩
    ·rintro ⟨r,c⟩ s4 ⟨hr,B4,G4⟩;dsimp only at hr ⊢;subst hr;dsimp only;refine .bind (.modify (.bind (.modify (.pure ⟨rfl,?_,?_,Bt.push (Bt.mod B4 λx=>⟨rfl,rfl⟩) N1 G4⟩))))
     ·dsimp only;omega
     ·dsimp only;omega
   ·refine .bind (.modify (.pure ⟨rfl,?_,?_,Bt.push B N1 G⟩))
    ·dsimp only;omega
    ·dsimp only;omega
 ·rintro ⟨r,lo⟩ s1 ⟨hr,h1,h2,b⟩;dsimp only at hr h1 h2 b;have:lo=l0.length:=by omega
  subst this;exact⟨hr,b⟩
 ·rintro ⟨r,lo⟩ s1 ⟨hr,b⟩;dsimp only at hr ⊢;subst hr;dsimp only;have le0:=b.stk.le;have lp0:(B1 s1).toList.length=(B1 s1).size:=by simp
  refine .bind (Tm.mono (Tm.range (λj c s4=>c.1=none/\Bt R κ l0 l0.length s4/\(B1 s4).size+j<=l0.length) (Q:=λc s4=>c.1=none/\Bt R κ l0 l0.length s4/\(B1 s4).size<=1) (N4 _) ⟨rfl,b,by omega⟩ ?_ (λc s4 ⟨x,y,z⟩=>⟨x,y,by omega⟩)) ?_)
  ·rintro j ⟨r,c⟩ s4 hj ⟨hr,B4,z4⟩;dsimp only at hr ⊢;subst hr;refine .bind (.get ?_)
   by_cases c1:(B1 s4).size<=1
   ·rw [D8 c1];exact .pure ⟨rfl,B4,c1⟩
   rw [D9 c1];refine .bind (Bt.merge ak o u B4 (P5 _) (U2 (Nat.add_le_add_right (OZ _ _) 1) (by omega)) λs5 B5 z5 _=> ?_);exact .pure ⟨rfl,B5,by omega⟩
  ·rintro ⟨r,c⟩ s4 ⟨hr,B4,z4⟩;dsimp only at hr ⊢;subst hr;refine .pure (q s4 B4.failed B4.perm ?_);have stk:=B4.stk;have ln:(S7 s4).toList.length=l0.length:=B4.perm.length_eq;have lp:(B1 s4).toList.length=(B1 s4).size:=by simp
   generalize (B1 s4).toList=pl at stk lp
   match pl,stk,lp with
   | [],e,_=>
    have:l0.length=0:=e.symm;have:(S7 s4).toList= []:=aG.mp (by omega);rw [this];exact .nil
   | [(p,n,_)],⟨e1,_,sr,e2⟩,_=>
    subst e1;have en:n=l0.length:=by have:0+n=l0.length:=e2;omega
    unfold seg at sr;rw [dD,S5 (by omega)] at sr;exact sr
   |_::_::_,_,h=>simp only [R7] at h;omega
end
section
variable {prog:M0}{w:C6}{A:C5}{E:G7->P0->Prop}{s:P0}{κ:SortKind}{U:D7->Prop}{R:D7->D7->T9}
def ue (s:P0)(a:P4)(h':L6):Prop:= ∀b o,b≠a->s.heap.get? b=some o->h'.get? b=some o
def Only (s:P0)(h':L6):P0->Prop:=λs'=> ∃tk,s'= {s with heap:=h',toks:=tk}
theorem Aa {M:sJ}{α β:Type}{c:Prop}[Decidable c]{m m':Sem α}{F:α->Sem β}{Q:β->P0->Prop}(h:S6 M A ((if c then m else m') >>= F) Q E s):S6 M A (if c then m >>= F else m' >>= F) Q E s:=by
 by_cases z:c
 ·rw [D8 z] at h ⊢;exact h
 ·rw [D9 z] at h ⊢;exact h
theorem WO (vs:G0 G7):(vs.toArray.zip vs.toArray).toList=vs.map λv=>(v,v):=by
 rw [Array.toList_zip];show vs.zip vs=_
 induction vs with
 |nil=>rfl
 |cons v vs ih=>rw [aL,ih,M1]
theorem Tg {R:G7×G7->G7×G7->T9}: ∀l:G0 G7,l.length<2->Srt R (l.map λv=>(v,v))
 | [],_=>List.Pairwise.nil
 | [_],_=>L0 _ _
theorem Ab {a:P4}{vs:G0 G7}{n:G5}{P:Fin->P0->Prop}(ho:s.heap.get? a=some (dA "list" vs.toArray n))(hz:vs.length<=sizeLine)
 (hk:2<=vs.length-> ∀h',ue s a h'->S6 (T4 prog w) A (rK vs.toArray) (λk s'=>k=κ/\Only s h' s') (λ_ _=>False) {s with heap:=h'})(ak: ∀h',ue s a h'->QC prog w A (Only s h') κ U R)(o:Ordd U R)(u: ∀v∈vs,U (v,v))
 (q: ∀ (out:G0 G7) (c tk:G5) (h':L6),ue s a h'->h'.get? a=some (dA "list" out.toArray c)->out.Perm vs->(out.map λv=>(v,v)).Pairwise (λx y=>R y x=false)->P (.done (.ret .none)) {s with heap:=h',toks:=tk}):
 S6 (T4 prog w) A (Builtin.«list.sort» ⟨[.ref a],[]⟩) P E s:=by
 have alt:=S0 ho;have sv:vs.toArray.size=vs.length:=R9 ..;rw [list_sort_plain];refine wpAny_bind (tL ho rfl ?_);obtain⟨c1,ho1⟩: ∃c,(s.heap.update a (aA λ_=>(#[]:N8 G7))).get? a=some (dA "list" #[] c):=⟨_,pJ ho λ_=> #[]⟩;refine wpAny_bind (sG ho rfl ?_ (by rw [sv];exact hz) (N4 _));refine wpAny_bind (u8 ho1 rfl ?_);refine wpAny_bind (rH ?_ hz);refine wpAny_bind (mP ?_ (N4 _));refine K2 ?_;have past:ue s a (((s.heap.update a (aA λ_=>(#[]:N8 G7))).push {cls:= .type "tuple",data:= .seq vs.toArray.toList.toArray}).push {cls:= .type "list",data:= .seq ([]:G0 G7).toArray}):=λb x ne e=>by
  refine P7 _ (P7 _ ?_);rw [e8 _ _ _ _ ne];exact e
 have ho3:=P7 ({cls:= .type "list",data:= .seq ([]:G0 G7).toArray}:Obj) (P7 ({cls:= .type "tuple",data:= .seq vs.toArray.toList.toArray}:Obj) ho1);revert past ho3;generalize ((s.heap.update a (aA λ_=>(#[]:N8 G7))).push ({cls:= .type "tuple",data:= .seq vs.toArray.toList.toArray}:Obj)).push ({cls:= .type "list",data:= .seq ([]:G0 G7).toArray}:Obj)=H3;intro past ho3;have kd:S6 (T4 prog w) A (if vs.toArray.size<2 then pure general' else rK vs.toArray) (λk s0=>(2<=vs.length->k=κ)/\Only s H3 s0) (λ_ _=>False) {s with heap:=H3}:=by
  by_cases c:vs.toArray.size<2
  ·rw [D8 c];exact D2 ⟨λz=>by omega,s.toks,rfl⟩
  ·rw [D9 c];exact N0 (hk (by omega) H3 past) (λk s0 x=>⟨λ_=>x.1,x.2⟩) λ_ _ e=>e
 have rn: ∀k s0,(2<=vs.length->k=κ)->Only s H3 s0->S6 (T4 prog w) A ((if vs.toArray.size<2 then pure () else sortRuns':V1 B6 Sem Unit).run (SortSt.mk' k (vs.toArray.zip vs.toArray) #[] 7 none)) (λr s'=>(Y7 r.2=none/\(S7 r.2).toList.Perm (vs.map λv=>(v,v))/\Srt R (S7 r.2).toList)/\Only s H3 s') E s0:=by
  intro k s0 ek j
  by_cases c:vs.toArray.size<2
  ·rw [D8 c,StateT.run_pure];refine D2 ⟨⟨rfl,?_,?_⟩,j⟩
   ·show (vs.toArray.zip vs.toArray).toList.Perm _;rw [WO]
   ·show Srt R (vs.toArray.zip vs.toArray).toList;rw [WO];rw [sv] at c;exact Tg vs c
  ·rw [D9 c];have ek:=ek (by omega);subst ek;refine Tf (E:=E) (ak H3 past) o (l0:=vs.map λv=>(v,v)) (st:=SortSt.mk' k (vs.toArray.zip vs.toArray) #[] 7 none) (λx hx=> ?_) rfl rfl rfl (WO vs) (Q:=λ_ st'=>Y7 st'=none/\(S7 st').toList.Perm (vs.map λv=>(v,v))/\Srt R (S7 st').toList) (λst' a1 a2 a3=>⟨a1,a2,a3⟩) s0 j;obtain⟨v,hv,rfl⟩:=R8.mp hx;exact u v hv
 dsimp only;refine Aa (wpAny_bind (N0 kd (λk s0 x=> ?_) λ_ _ e=>e.elim));refine wpAny_bind (N0 (rn k s0 x.1 x.2) ?_ λ_ _ e=>e);rintro ⟨⟨⟩,st'⟩ s1 ⟨⟨hf,hp,hs⟩,tk,rfl⟩;dsimp only;have eo:((S7 st').map λx=>x.2)=((S7 st').toList.map λx=>x.2).toArray:=by
  rw [<-Array.toList_map,Array.toArray_toList]
 have two:(S7 st').toList=((S7 st').toList.map λx=>x.2).map λv=>(v,v):=by
  rw [S2];refine(dZ _).symm.trans (M5 λx hx=> ?_);obtain⟨v,_,rfl⟩:=R8.mp (hp.mem_iff.mp hx);rfl
 have po:((S7 st').toList.map λx=>x.2).Perm vs:=by
  have:=hp.map λx=>x.2
  rw [S2] at this;refine this.trans ?_;rw [show ((λx:D7=>x.2)∘λv:G7=>(v,v))=id from rfl,dZ]
 rw [two] at hs;rw [eo];generalize (S7 st').toList.map (λx=>x.2)=out at hs po;obtain⟨c2,ho4⟩: ∃c,(H3.update a (aA λ_=>out.toArray)).get? a=some (dA "list" out.toArray c):=⟨_,pJ ho3 λ_=>out.toArray⟩;refine wpAny_bind (u8 (s:= {s with heap:=H3,toks:=tk}) ho3 rfl ?_);refine wpAny_bind (sG (s:= {s with heap:=H3,toks:=tk}) ho3 rfl ?_ (N4 _) (by rw [R9,po.length_eq];exact Nat.le_succ_of_le hz));rw [hf];simp only [bne_self_eq_false,mW,lG];refine D2 (q out c2 tk _ (λb x ne e=> ?_) ho4 po hs);rw [e8 _ _ _ _ ne];exact past b x ne e
abbrev Ug (h h':L6):Prop:= ∀b o,h.get? b=some o->h'.get? b=some o
theorem Nz {l:P4}{vs:G0 G7}{Q:G7->P0->Prop}(hl:s.heap.IsList l vs.toArray)(hz:vs.length<sizeLine)
 (hk:2<=vs.length-> ∀h',Ug s.heap h'->S6 (T4 prog w) A.in1.in1 (rK vs.toArray) (λk s'=>k=κ/\Only s h' s') (λ_ _=>False) {s with heap:=h'})(ak: ∀h',Ug s.heap h'->QC prog w A.in1.in1 (Only s h') κ U R)(o:Ordd U R)(u: ∀v∈vs,U (v,v))
 (q: ∀ (h1 h':L6) (tk c:G5) (out:G0 G7),Ug s.heap h1->Ug h1 h'->h'.get? h1.objs.size=some (dA "list" out.toArray c)->out.Perm vs->(out.map λv=>(v,v)).Pairwise (λx y=>R y x=false)->Q (.ref h1.objs.size) {s with heap:=h',toks:=tk}):
 S6 (T4 prog w) A (call (.builtin "sorted") [.ref l]) Q E s:=by
 refine gI u0 sZ tD (tE _) (wpAny_bind (D2 (wpAny_bind (collect_list hl ?_ (by omega)))));have k1:Ug s.heap ((s.heap.push (dA "list" #[] 0)).update s.heap.objs.size (aA (· ++vs.toArray))):=λb x e=>by
  rw [e8 _ _ _ _ (M9 (S0 e))];exact P7 _ e
 revert k1;generalize (s.heap.push (dA "list" #[] 0)).update s.heap.objs.size (aA (· ++vs.toArray))=H1;intro k1;have fresh:(H1.push (dA "list" vs.toArray 0)).get? H1.objs.size=some (dA "list" vs.toArray 0):=T3 _ rfl;have kp: ∀h',ue {s with heap:=H1.push (dA "list" vs.toArray 0)} H1.objs.size h'->Ug H1 h':=λh' p b x e=>p b x (M9 (S0 e)) (P7 _ e)
 refine wpAny_bind (mP (wpAny_bind (K2 (A7 rC ⟨_,fresh,rfl⟩ pE (Ab (s:= {s with heap:=H1.push (dA "list" vs.toArray 0)}) (κ:=κ) (U:=U) (R:=R) fresh (S1 hz) (λh2 h' p=>hk h2 h' λb x e=>kp h' p b x (k1 b x e)) (λh' p=>ak h' λb x e=>kp h' p b x (k1 b x e)) o u λout c tk h' p e1 e2 e3=>⟨_,rfl,?_⟩) (rD _)))) (S1 hz));exact D2 ⟨_,rfl,q H1 h' tk c out k1 (kp h' p) e1 e2 e3⟩
end
theorem WP: ∀a b:G0 G8,za a b=true->za b a=false
 | [],[],h=>rfl
 | [],_::_,_=>rfl
 |_::_,[],h=>by cases h
 |x::xs,y::ys,h=>by
  unfold za at h ⊢
  by_cases e:x=y
  ·subst e;rw [D8 rfl] at h ⊢;exact WP xs ys h
  ·rw [D9 e] at h;rw [D9 (E8 e)];have:=N2 h;exact D5 (by omega)
theorem Uh: ∀a b c:G0 G8,za a c=true->za a b=true\/za b c=true
 | [],[],c,h=> .inr h
 | [],_::_,_,_=> .inl rfl
 |_::_,_,[],h=>by cases h
 |x::xs,[],z::zs,h=> .inr rfl
 |x::xs,y::ys,z::zs,h=>by
  unfold za at h ⊢
  by_cases e:x=z
  ·subst e;rw [D8 rfl] at h
   by_cases f:x=y
   ·subst f;rw [D8 rfl,D8 rfl];exact Uh xs ys zs h
   ·rw [D9 f,D9 (E8 f)]
    by_cases g:x<y
    ·exact .inl (G9 g)
    ·exact .inr (G9 (by omega))
  ·rw [D9 e] at h;have lt:=N2 h
   by_cases f:x=y
   ·subst f;rw [D9 e];exact .inr h
   ·rw [D9 f]
    by_cases g:x<y
    ·exact .inl (G9 g)
    ·refine .inr ?_;rw [D9 (by omega)];exact G9 (by omega)
theorem Ui: ∀a b:G0 G8,za a b=false->za b a=false->a=b
 | [],[],_,_=>rfl
 | [],_::_,h,_=>by cases h
 |_::_,[],_,h=>by cases h
 |x::xs,y::ys,h,h'=>by
  unfold za at h h'
  by_cases e:x=y
  ·subst e;rw [D8 rfl] at h h';rw [Ui xs ys h h']
  ·rw [D9 e] at h;rw [D9 (E8 e)] at h';have:=mY h;have:=mY h';omega
theorem Fk {U:D7->Prop}(key:G7->G0 G8):Ordd U (λx y=>za (key x.1) (key y.1)):=⟨λx y _ _ h=>WP _ _ h,λx y z _ _ _ h=>Uh _ _ _ h⟩
def IT (h:L6)(v:G7)(ns:G0 G8):Prop:= ∃a its,v= .ref a/\mI h a its/\Q9 its.toList ns
theorem IT.keeps {h h':L6}{v:G7}{ns:G0 G8}(x:IT h v ns)(k:Ug h h'):IT h' v ns:=let ⟨a,its,e,t,i⟩:=x;⟨a,its,e,t.keeps k,i⟩
theorem Mr: ∀ {vs:G0 G7} {ns ms:G0 G8},Q9 vs ns->Q9 vs ms->ns=ms
 |_,_,_,.nil,.nil=>rfl
 |_,_,_,.cons n t a,.cons _ _ b=>by rw [Mr a b]
theorem IT.one {h:L6}{v:G7}{ns ms:G0 G8}(x:IT h v ns)(y:IT h v ms):ns=ms:=by
 obtain⟨a,its,rfl,⟨o,e,c,n,d⟩,i⟩:=x;obtain⟨a',its',e2,⟨o',e',c',n',d'⟩,i'⟩:=y;cases e2;rw [e] at e';cases e';rw [d] at d';cases d';exact Mr i i'
open Classical in
noncomputable def zR (h:L6)(v:G7):G0 G8:=if e: ∃ns,IT h v ns then e.choose else []
theorem IT.nums {h:L6}{v:G7}{ns:G0 G8}(x:IT h v ns):zR h v=ns:=by
 have e: ∃ns,IT h v ns:=⟨ns,x⟩;unfold zR;rw [dif_pos e];exact e.choose_spec.one x
section
variable {prog:M0}{w:C6}{A:C5}{E:G7->P0->Prop}{s:P0}
theorem Wm {α β:Type}{M:sJ}{f:α->Sem β}(r:α->β): ∀ (l:G0 α) {Q:G0 β->P0->Prop},(∀v∈l,∀Q':β->P0->Prop,Q' (r v) s->S6 M A (f v) Q' E s)->Q (l.map r) s->S6 M A (l.mapM f) Q E s
 | [],_,_,q=>by
  rw [List.mapM_nil];exact D2 q
 |v::l,Q,hf,q=>by
  rw [List.mapM_cons];refine wpAny_bind (hf v R3 _ (wpAny_bind ?_));exact Wm r l (λu hu=>hf u (S3 _ hu)) (D2 q)
def zX (h:L6):G7->D4 G7
 | .ref a=>match h.get? a with
  |some o=>match o.data with
   | .seq xs _=>xs[0]?
   |_=>none
  |none=>none
 |_=>none
variable {v:G7}{ns:G0 G8}
theorem Ac {Q:D4 G7->P0->Prop}(x:IT s.heap v ns)(q:Q (zX s.heap v) s):S6 (T4 prog w) A (firstOfTuple' v) Q E s:=by
 obtain⟨a,its,rfl,⟨o,e,c,n,d⟩,i⟩:=x;have fe:zX s.heap (.ref a)=its[0]? :=by
  unfold zX;dsimp only;rw [e];dsimp only;rw [d]
 rw [u9];refine wpAny_bind (PySem.W.Looks.here (show sH (T4 prog w) s.heap (G0g (.ref a)) o.cls from (PySem.W.Looks.ld e).andThen .now) ?_);rw [c,D9 (by decide)];refine wpAny_bind (tL e d (D2 ?_));rw [<-fe];exact q
variable {h:L6}
theorem NA (x:IT h v []):zX h v=none:=by
 obtain⟨a,its,rfl,⟨o,e,c,n,d⟩,i⟩:=x;unfold zX;dsimp only;rw [e];dsimp only;rw [d];dsimp only;obtain⟨l⟩:=its;cases i;rfl
theorem XI {n:G8}(x:IT h v (n::ns)): ∃t,zX h v=some (.int n t):=by
 obtain⟨a,its,rfl,⟨o,e,c,k,d⟩,i⟩:=x;obtain⟨l⟩:=its;cases i with
 |cons _ t i=>exact⟨t,by unfold zX;dsimp only;rw [e];dsimp only;rw [d];rfl⟩
theorem Ad (x:IT h v ns):(zX h v).isSome= !ns.isEmpty:=by
 cases ns with
 |nil=>rw [NA x];rfl
 |cons n ns=>obtain⟨t,e⟩:=XI x;rw [e];rfl
noncomputable def Fl (h:L6)(vs:G0 G7):SortKind:=
 if (vs.all λv=> !(zR h v).isEmpty)=true then tuples' true else if ((vs[0]?.map λv=> !(zR h v).isEmpty)=some true) then general' else oneType'
theorem Fm {vs:G0 G7}(h2:2<=vs.length)(x: ∀v∈vs,∃ns,IT h v ns){Q:SortKind->P0->Prop}(e:Ug h s.heap)(q:Q (Fl h vs) s):S6 (T4 prog w) A (rK vs.toArray) Q E s:=by
 have fr: ∀v∈vs,(zX s.heap v).isSome= !(zR h v).isEmpty:=λv hv=>by
  obtain⟨ns,t⟩:=x v hv;rw [t.nums,Ad (t.keeps e)]
 rw [keyKind'_eq,gW,map_eq_pure_bind];refine wpAny_bind (wpAny_bind (Wm (zX s.heap) vs (λv hv Q' q'=> ?_) (D2 ?_)))
 ·obtain⟨ns,t⟩:=x v hv;exact Ac (t.keeps e) q'
 have all_:((vs.map (zX s.heap)).toArray.all λo=>o.isSome)=vs.all λv=> !(zR h v).isEmpty:=by
  rw [iI,E4];rw [B8,T8,T8];exact⟨λz v hv=>by rw [<-fr v hv];exact z v hv,λz v hv=>by show (zX s.heap v).isSome=true;rw [fr v hv];exact z v hv⟩
 rw [all_];unfold Fl at q
 by_cases a1:(vs.all λv=> !(zR h v).isEmpty)=true
 ·rw [D8 a1] at q;rw [D8 a1];refine wpAny_bind (cH ?_);obtain⟨fs,efs,nums,ne⟩: ∃fs:G0 G7,vs.map (zX s.heap)=fs.map some/\(∀f∈fs,∃n t,f=cN n t)/\fs.length=vs.length:=by
   have go: ∀l:G0 G7,(∀v∈l,v∈vs)-> ∃fs:G0 G7,l.map (zX s.heap)=fs.map some/\(∀f∈fs,∃n t,f=cN n t)/\fs.length=l.length:=by
    intro l
    induction l with
    |nil=>exact λ_=>⟨[],rfl,λf hf=>absurd hf A8,rfl⟩
    |cons v l ih=>
     intro sub;obtain⟨fs,e1,e2,e3⟩:=ih λu hu=>sub u (S3 _ hu)
     have hv:=sub v R3;obtain⟨ns,t⟩:=x v hv;have ne:=T8.mp a1 v hv;rw [t.nums] at ne;cases ns with
     |nil=>cases ne
     |cons n ns=>
      obtain⟨tk,ef⟩:=XI (t.keeps e);refine⟨.int n tk::fs,by rw [M1,M1,ef,e1],λf hf=> ?_,by rw [R7,R7,e3]⟩;rcases T6.mp hf with rfl|hf
      ·exact⟨n,tk,rfl⟩
      ·exact e2 f hf
   exact go vs λ_ hv=>hv
  rw [efs];have fm:((fs.map some).toArray.filterMap id)=fs.toArray:=by simp
  rw [fm,pK,gW,map_eq_pure_bind];refine wpAny_bind (wpAny_bind (wpAny_bind (Wm (λ_=>V6 "int") fs (λf hf Q' q'=> ?_) (D2 ?_))))
  ·obtain⟨n,t,rfl⟩:=nums f hf;exact D2 q'
  ·match fs,ne with
   | [],ne=>rw [B9] at ne;omega
   |f::fs,_=>
    have h0:(gD (λ_=>V6 "int") (f::fs)).toArray[0]? =some (V6 "int"):=by simp
    have h1:((gD (λ_=>V6 "int") (f::fs)).toArray.all λy=>y==V6 "int")=true:=by
     rw [iI,E4,T8];exact λ_ _=>rfl
    rw [h0];simp only [h1,fE];exact D2 (D2 q)
 rw [D9 a1] at q;rw [D9 a1]
 match vs,h2,x,fr,q with
 |v::vs,h2,x,fr,q=>
  have h0:((gD (zX s.heap) (v::vs)).toArray[0]?.bind id).isSome= !(zR h v).isEmpty:=by
   rw [<-fr v R3];simp
  rw [h0];have h0':(((v::vs)[0]?.map λv=> !(zR h v).isEmpty)=some true)↔(!(zR h v).isEmpty)=true:=by simp
  by_cases a2:(!(zR h v).isEmpty)=true
  ·rw [D8 (h0'.mpr a2)] at q;rw [D8 a2];exact D2 q
  rw [D9 λz=>a2 (h0'.mp z)] at q;rw [D9 a2];rw [pK,gW,map_eq_pure_bind];refine wpAny_bind (wpAny_bind (wpAny_bind (Wm (λ_=>V6 "tuple") (v::vs) (λf hf Q' q'=> ?_) (D2 ?_))))
  ·obtain⟨ns,t⟩:=x f hf;obtain⟨a,its,rfl,⟨o,e1,c,n,d⟩,i⟩:=t.keeps e;refine PySem.W.Looks.here (show sH (T4 prog w) s.heap (G0g (.ref a)) o.cls from (PySem.W.Looks.ld e1).andThen .now) ?_;rw [c];exact q'
  ·have h3:(gD (λ_=>V6 "tuple") (v::vs)).toArray[0]? =some (V6 "tuple"):=by simp
   have h1:((gD (λ_=>V6 "tuple") (v::vs)).toArray.all λy=>y==V6 "tuple")=true:=by
    rw [iI,E4,T8];exact λ_ _=>rfl
   rw [h3];simp only [h1,fE];exact D2 (D2 q)
theorem Ms {fin:T9}{Q:T9->P0->Prop}{m n:G5}(ef:fin=decide (m<n)): ∀ {vs us:G0 G7} {ns ms:G0 G8} (i:G5),Q9 vs ns->Q9 us ms->ns.length+n=ms.length+m->Q (za ns ms) s->G0n prog w A true fin Q (vs.zip us) i s
 |_,_,_,_,i,.nil,.nil,l,q=>by
  subst ef;rw [gR];refine j9 ?_;rw [D5 (by rw [B9] at l;omega)];exact q
 |_,_,_,_,i,.nil,.cons c u y,l,q=>by
  subst ef;rw [gR];refine j9 ?_;rw [G9 (by rw [B9,R7] at l;omega)];exact q
 |_,_,_,_,i,.cons a t x,.nil,l,q=>by
  subst ef;rw [mT];refine j9 ?_;rw [D5 (by rw [B9,R7] at l;omega)];exact q
 |_,_,_,_,i,.cons a t x,.cons c u y,l,q=>by
  rw [aL];rw [Xq] at q;obtain⟨e,he,hiff⟩:=RT A s a t c u;refine IY (he prog w _ _ ?_);refine G0o (λz=>G0b ?_) λz=>G0p ?_
  ·rw [D8 (hiff.mp z)] at q;exact Ms ef (i+1) x y (by rw [R7,R7] at l;omega) q
  ·rw [D9 λz'=>by rw [hiff.mpr z'] at z;cases z] at q;cases (true&&i==0) with
   |true=>exact oneLt_int q
   |false=>exact pL _ _ (mE q)
theorem uf {u:G7}{ms:G0 G8}{Q:T9->P0->Prop}(hu:A.units<cLine)(x:IT s.heap v ns)(y:IT s.heap u ms)(q:Q (za ns ms) s):S6 (T4 prog w) A (G0q true v u) Q E s:=by
 obtain⟨a,its,rfl,⟨⟨cls,dd,data,sl⟩,e1,c,n,d⟩,i⟩:=x;obtain⟨b,its2,rfl,⟨⟨cls2,dd2,G0f,sl2⟩,e2,c2,n2,d2⟩,i2⟩:=y;simp only at c d c2 d2;subst c d c2 d2;rw [oneLt'_eq];simp only [fE];refine wpAny_bind (wpAny_cRoomFor hu (wpAny_bind (wpAny_callSpecialIfBound?_slot ⟨_,e1,rfl⟩ dI (fX dI ⟨_,e1,rfl⟩ iN (g9 _ _) (ZZ a b its its2 n n2 dd dd2 sl sl2 ns ms i i2) ⟨e1,e2,?_⟩))));exact O6 q
theorem ug {u:G7}{ms:G0 G8}{Q:T9->P0->Prop}(hu:A.units<cLine)(x:IT s.heap v ns)(y:IT s.heap u ms)(q:Q (za ns ms) s):S6 (T4 prog w) A (G0q false v u) Q E s:=by
 obtain⟨a,its,rfl,t,i⟩:=x;obtain⟨b,its2,rfl,t2,i2⟩:=y;exact pL _ _ (MY t t2 i i2 hu q)
theorem Fn {vs:G0 G7}(hu:A.units<cLine){h':L6}(k:Ug s.heap h'):QC prog w A (Only s h') (Fl s.heap vs) (λx=> ∃ns,IT s.heap x.1 ns) (λx y=>za (zR s.heap x.1) (zR s.heap y.1)):=by
 rintro ⟨x,x'⟩ ⟨y,y'⟩ ⟨ns,tx⟩ ⟨ms,ty⟩ s1 ⟨tk,rfl⟩;dsimp only at tx ty ⊢;have q:(za ns ms=za (zR s.heap x) (zR s.heap y)/\Only s h' {s with heap:=h',toks:=tk}):=⟨by rw [tx.nums,ty.nums],tk,rfl⟩;have kx:=tx.keeps k;have ky:=ty.keeps k;unfold Fl
 by_cases a1:(vs.all λv=> !(zR s.heap v).isEmpty)=true
 ·rw [D8 a1];obtain⟨a,its,rfl,⟨o,e1,c,n,d⟩,i⟩:=kx;obtain⟨b,its2,rfl,⟨o2,e2,c2,n2,d2⟩,i2⟩:=ky;refine G0r e1 d e2 d2 (Ms rfl 0 i i2 ?_ q);have z1:=i.length;have z2:=i2.length;rw [C7] at z1 z2;omega
 rw [D9 a1]
 by_cases a2:(vs[0]?.map λv=> !(zR s.heap v).isEmpty)=some true
 ·rw [D8 a2];show S6 _ _ (G0q false x y) _ _ _;exact ug hu kx ky q
 ·rw [D9 a2,keyLt'_oneType];exact uf hu kx ky q
theorem DN {l:P4}{vs:G0 G7}{Q:G7->P0->Prop}(hu:A.in1.in1.units<cLine)(hl:s.heap.IsList l vs.toArray)(hz:vs.length<sizeLine)(x: ∀v∈vs,∃ns,IT s.heap v ns)
 (q: ∀ (h1 h':L6) (tk c:G5) (out:G0 G7),Ug s.heap h1->Ug h1 h'->h'.get? h1.objs.size=some (dA "list" out.toArray c)->out.Perm vs->out.Pairwise (λx y=>za (zR s.heap y) (zR s.heap x)=false)->Q (.ref h1.objs.size) {s with heap:=h',toks:=tk}):
 S6 (T4 prog w) A (call (.builtin "sorted") [.ref l]) Q E s:=by
 refine Nz (κ:=Fl s.heap vs) (U:=λx=> ∃ns,IT s.heap x.1 ns) (R:=λx y=>za (zR s.heap x.1) (zR s.heap y.1)) hl hz (λh2 h' k=> ?_) (λh' k=>Fn hu k) (Fk _) x λh1 h' tk c out k1 k2 e1 e2 e3=>q h1 h' tk c out k1 k2 e1 e2 ?_
 ·exact Fm (s:= {s with heap:=h'}) h2 x k ⟨rfl,s.toks,rfl⟩
 ·rw [E5] at e3;exact e3
end
end HT
namespace L2
open PySem PySem.Spec PyProof.Rows PySem.SeqAt HT
theorem Uj {α β:Type}{f:α->β}: ∀ {out:G0 β} {l:G0 α},out.Perm (l.map f)-> ∃l':G0 α,l'.Perm l/\l'.map f=out
 | [],l,p=>by
  have e:=p.length_eq;rw [G1,B9] at e;exact⟨[],by rw [aI e.symm],rfl⟩
 |x::out,l,p=>by
  obtain⟨y,hy,rfl⟩:=R8.mp (p.mem_iff.mp R3);obtain⟨l1,l2,rfl⟩:=mZ hy;have p2:out.Perm ((l1++l2).map f):=by
   refine IH (a:=f y) (p.trans ?_);rw [S8,S8,M1];exact iC
  obtain⟨l',a,b⟩:=Uj p2;exact⟨y::l',(a.cons y).trans iC.symm,by rw [M1,b]⟩
def qx (H:Hp)(v:V)(ns:G0 G8):Prop:= ∃a,v= .ref a/\H a=some (.tup (ns.map V.int))
theorem Pi {X:Cx}{k:G5}(hr:Room k X.A):CallR X (.builtin "sorted") (λxs H Q=> ∃ (a:P4) (ps:G0 (V×G0 G8)),xs= [.ref a]/\SqL X.K H a (ps.map (·.1))/\ps.length<sizeLine/\(∀p∈ps,qx H p.1 p.2)/\ ∀ (q:P4) (ps':G0 (V×G0 G8)),H q=none->ps'.Perm ps->(ps'.map (·.2)).Pairwise (λx y=>HT.za y x=false)->Q (.ref q) (upd H q (.lst (ps'.map (·.1))))):=by
 intro pins s σ H xs us Q I r h;obtain⟨a,ps,rfl,hS,hz,ht,q⟩:=h;obtain⟨u,rfl,ru⟩:=ZY r;cases ru;obtain⟨its,rv,pl,hz'⟩:=I.list hS;obtain⟨zs,e1,e2,e3⟩: ∃zs:G0 (G7×V×G0 G8),its=zs.map (·.1)/\ps=zs.map (·.2)/\ ∀z∈zs,RelV z.2.1 z.1:=by
  clear hS q hz ht hz' pl
  induction ps generalizing its with
  |nil=>cases rv;exact⟨[],rfl,rfl,λz hz=>by cases hz⟩
  |cons p ps ih=>
   rw [M1] at rv;cases rv with
   |cons r1 r2=>
    obtain⟨zs,e1,e2,e3⟩:=ih _ r2;exact⟨(_,p)::zs,by rw [M1,<-e1],by rw [M1,<-e2],λz hz=>by
     rcases T6.mp hz with rfl|hz
     ·exact r1
     ·exact e3 z hz⟩
 subst e1 e2;have it: ∀z∈zs,IT s.heap z.1 z.2.2:=λz hm=>by
  obtain⟨b,eb,hb⟩:=ht z.2 (bT hm);have rz:=e3 z hm;rw [eb] at rz;have rz:z.1= .ref b:=rz;obtain⟨_,us,r2,p⟩:=I.hok b _ hb;exact⟨b,us.toArray,rz,p.tup,Xz r2⟩
 have hu:X.A.in1.in1.units<cLine:=by
  have:=hr.un;show X.A.units+1+1<cLine;omega
 rw [G1] at hz;refine HT.DN hu pl.isList (by rw [G1];exact hz) (λv hv=> ?_) λh1 h' tk c out k1 k2 e4 pm srt=> ?_
 ·obtain⟨z,hm,rfl⟩:=R8.mp hv;exact⟨_,it z hm⟩
 obtain⟨zs',pz,rfl⟩:=Uj pm;have I1:=I.kept (t':=s.toks) k1;have vv: ∀l:G0 (G7×V×G0 G8),(∀z∈l,z∈zs)->Vals ((l.map (·.2)).map (·.1)) (l.map (·.1)):=λl=>by
  induction l with
  |nil=>exact λ_=> .nil
  |cons z l ih=>exact λsub=> .cons (e3 z (sub z R3)) (ih λy hy=>sub y (S3 _ hy))
 refine⟨.ref _,_,I1.laid (t':=tk) (o:= .lst ((zs'.map (·.2)).map (·.1))) k2 (P5 _) ⟨?_,_,c,vv zs' λz hm=>pz.mem_iff.mp hm,e4⟩,rfl,q _ (zs'.map (·.2)) (I1.hok.fresh (P5 _)) (pz.map _) ?_⟩
 ·rw [G1,G1,pz.length_eq];exact S1 hz
 ·rw [E5,E5];rw [E5] at srt;refine srt.imp_of_mem λ{y z} hy hz e=> ?_
  rw [<- (it y (pz.mem_iff.mp hy)).nums,<- (it z (pz.mem_iff.mp hz)).nums];exact e
abbrev tI (ns:G0 G8):D:= .tup (ns.map D.int)
def Th:RDn:=λds h Q=> ∃ (a:P4) (nss:G0 (G0 G8)),ds= [.lst a]/\h a=some (nss.map tI)/\nss.length<sizeLine/\ ∀ (p:P4) (mss:G0 (G0 G8)),h p=none->mss.Perm nss->mss.Pairwise (λx y=>HT.za y x=false)->Q (.lst p) (wB h p (mss.map tI))
theorem Fo {K:G6}{H:Hp}: ∀ {nss:G0 (G0 G8)} {vs:G0 V},RelDs K H (nss.map tI) vs-> ∃ps:G0 (V×G0 G8),vs=ps.map (·.1)/\nss=ps.map (·.2)/\ ∀p∈ps,qx H p.1 p.2
 | [],vs,r=>⟨[],r,rfl,λp hp=>by cases hp⟩
 |ns::nss,vs,r=>by
  obtain⟨v,us,e,r1,r2⟩:=(show ∃v r,vs=v::r/\RelD K H (tI ns) v/\RelDs K H (nss.map tI) r from r);obtain⟨ps,e1,e2,e3⟩:=Fo r2;obtain⟨a,ws,e4,hH,r4⟩:=(show ∃a vs,v= .ref a/\H a=some (.tup vs)/\RelDs K H (ns.map D.int) vs from r1);rw [zG r4] at hH;exact⟨(v,ns)::ps,by rw [e,e1];rfl,by rw [e2];rfl,λp hp=>by
   rcases T6.mp hp with rfl|hp
   ·exact⟨a,e4,hH⟩
   ·exact e3 p hp⟩
theorem Fp {K:G6}{H:Hp}: ∀ {ps:G0 (V×G0 G8)},(∀p∈ps,qx H p.1 p.2)->RelDs K H ((ps.map (·.2)).map tI) (ps.map (·.1))
 | [],_=> .nil
 |p::ps,h=> .cons (by
  obtain⟨a,e,hH⟩:=h p R3;exact⟨a,_,e,hH,vb _⟩) (Fp λq hq=>h q (S3 _ hq))
theorem XJ {X:Cx}{k:G5}(hr:Room k X.A):Zh X (.builtin "sorted") Th:=(Pi hr).imp λxs H Q ⟨ds,h,Qd,r,rh,⟨a,nss,e,hd,hz,q⟩,p⟩=>by
 subst e;obtain⟨v,e,r1⟩:=jF r;obtain⟨vs,hH,r2⟩:=rh a _ hd;have e1:v= .ref a:=r1.1;subst e e1;obtain⟨ps,rfl,rfl,ht⟩:=Fo r2;refine⟨a,ps,rfl,SqL.of hH,by rw [G1] at hz;exact hz,ht,λc ps' hc pm srt=> ?_⟩;exact p (.lst c) _ _ _ (.new hc) (rh.newL hc (Fp λx hx=>ht x (pm.mem_iff.mp hx))) ⟨rfl,_,jw⟩ (q c _ (rh.free hc) (pm.map _) srt)
def yE:G5->G0 (G0 G5)
 |0=> [[]]
 |k+1=>yE k++(yE k).map λS=>S++ [k]
theorem Wn: ∀n,(yE n).length=2^n
 |0=>rfl
 |k+1=>by
  show (yE k++(yE k).map λS=>S++ [k]).length=_;rw [P2,G1,Wn k,nO];omega
theorem Vl: ∀ {n:G5} {S:G0 G5},S∈yE n->IsS n S
 |0,S,h=>by
  rw [show yE 0= [[]] from rfl,P1] at h;subst h;exact IsS.nil 0
 |k+1,S,h=>by
  rcases R1.mp (show S∈yE k++(yE k).map λS=>S++ [k] from h) with h|h
  ·exact(Vl h).more false
  ·obtain⟨S',h',rfl⟩:=R8.mp h;exact(Vl h').more true
theorem Uk: ∀ {n:G5} (p:G5->T9),(G3 n).filter p∈yE n
 |0,p=>P1.mpr rfl
 |k+1,p=>by
  show _∈yE k++(yE k).map λS=>S++ [k]
  rw [F7,A4,R1];cases e:p k with
  |false=>
   left;rw [show [k].filter p= [] by simp [e],A2];exact Uk p
  |true=>
   right;rw [show [k].filter p= [k] by simp [e]];exact R8.mpr ⟨_,Uk p,rfl⟩
theorem Fq {n:G5}{S:G0 G5}:S∈yE n↔IsS n S:=⟨Vl,λ⟨p,e⟩=>by rw [e];exact Uk p⟩
abbrev toI (S:G0 G5):G0 G8:=S.map λ(k:G5)=>(k:G8)
theorem Ti {S S':G0 G5}(h:toI S=toI S'):S=S':=by
 have:=congrArg (gD oN) h;rw [S2,S2] at this;have e:(oN∘λ(k:G5)=>(k:G8))=id:=by funext k;exact dB k
 rw [e,dZ,dZ] at this;exact this
theorem Fr (S:G0 G5):tI (toI S)=jq S:=by
 show D.tup _=D.tup _;rw [S2];rfl
def leS (a b:G0 G5):T9:= !HT.za (toI b) (toI a)
theorem Fs (a b c:G0 G5)(h:leS a b=true)(h':leS b c=true):leS a c=true:=by
 unfold leS at*
 cases e:HT.za (toI c) (toI a) with
 |false=>rfl
 |true=>
  rcases Uh _ (toI b) _ e with z|z
  ·rw [z] at h';cases h'
  ·rw [z] at h;cases h
theorem Ft (a b:G0 G5):(leS a b||leS b a)=true:=by
 unfold leS;cases e:HT.za (toI b) (toI a) with
 |false=>rfl
 |true=>rw [WP _ _ e];rfl
theorem Ae {a b:G0 G5}(h:leS a b=true)(h':leS b a=true):a=b:=by
 unfold leS at*
 refine Ti (Ui _ _ ?_ ?_)
 ·cases e:HT.za (toI a) (toI b) with
  |false=>rfl
  |true=>rw [e] at h';cases h'
 ·cases e:HT.za (toI b) (toI a) with
  |false=>rfl
  |true=>rw [e] at h;cases h
def NB (l:G0 (G0 G5)):G0 (G0 G5):=l.mergeSort leS
theorem yk (l:G0 (G0 G5)):(NB l).Perm l:=List.mergeSort_perm _ _
theorem NC (l:G0 (G0 G5)):(NB l).Pairwise λa b=>leS a b=true:=List.pairwise_mergeSort Fs Ft l
theorem Fu {l P:G0 (G0 G5)}(p:P.Perm l)(r:P.Pairwise λa b=>leS a b=true):P=NB l:=
 List.Perm.eq_of_pairwise (λa b _ _ x y=>Ae x y) r (NC l) (p.trans (yk l).symm)
theorem Pj {l:G0 (G0 G5)}{mss:G0 (G0 G8)}(p:mss.Perm (l.map toI))(r:mss.Pairwise λx y=>HT.za y x=false):mss.map tI=(NB l).map jq:=by
 obtain⟨P,pP,rfl⟩:=Uj p;rw [E5] at r;rw [<-Fu pP (r.imp λe=>by unfold leS;rw [e];rfl),S2];exact M5 λS _=>Fr S
def QD (n:G5):G0 (G0 G5):=NB (yE n)
theorem setsS_mem {n:G5}{S:G0 G5}:S∈QD n↔IsS n S:=(yk _).mem_iff.trans Fq
theorem Fv (n:G5):(QD n).length=2^n:=(yk _).length_eq.trans (Wn n)
theorem Af {n:G5}(h:n<=6):(QD n).length<=64:=by
 rw [Fv];exact V0 (by decide) h
end L2
namespace L2
open PySem PySem.Spec PyProof.Rows PySem.SeqAt
theorem Mt: ∀l:G0 G8,E6 (l.map aN)=true
 | []=>rfl
 |x::l=>by show (K3 (.int x)&&_)=true;rw [Mt l];rfl
variable {S:G0 G5}{h:HD}
theorem Fw {neg:T9}{x:G5}{Q:KD}(q: ∀b:T9,(b=true↔x∈S)->Q (.bl (neg !=b)) h):inE neg (.int (x:G8)) (jq S) h Q:=by
 refine⟨.int x,(zP S).map aN,rfl,.inr (VW h S),rfl,Mt _,(by show (0:G5)<=60;decide),q _ ?_⟩;rw [U4];constructor
 ·rintro ⟨z,hz,e⟩;obtain⟨m,hm,rfl⟩:=R8.mp hz;obtain⟨y,hy,rfl⟩:=R8.mp (show m∈S.map λ(k:G5)=>(k:G8) from hm);have:(y:G8)=x:=by simpa [F5] using e
  have:y=x:=by omega
  exact this ▸ hy
 ·intro z;exact⟨.int x,R8.mpr ⟨_,R8.mpr ⟨x,z,rfl⟩,rfl⟩,by simp [F5]⟩
theorem Tj {x:G5}{Q:KD}(q:Q (.bl (decide (x∈S))) h):inE false (.int (x:G8)) (jq S) h Q:=Fw λbo hb=>by
 have:(false !=bo)=decide (x∈S):=by
  cases bo with
  |true=>rw [G9 (hb.mp rfl)];rfl
  |false=>rw [D5 λz=>by have:=hb.mpr z;cases this];rfl
 rw [this];exact q
def Js (n:G5)(T:G0 (G0 G8))(S:G0 G5):T9:=(jE n T S).all λj=>decide (j∈S)
variable {n:G5}{T:G0 (G0 G8)}
theorem Fx:(jE n T S).length<=n:=(IsS.step T S).len
theorem Vm {h':HD}{a:P4}(sb:Sub h h')(e:h' a=none):h a=none:=by
 cases z:h a with
 |none=>rfl
 |some ds=>rw [sb a ds z] at e;cases e
theorem Sub.over {h':HD}{a:P4}{ds:G0 D}(sb:Sub h h')(e:h a=none):Sub h (wB h' a ds):=⟨λb xs k=>jA (λz=>by subst z;rw [e] at k;cases k) (sb b xs k),sb.dc⟩
theorem Tk {x:G5}{Q:KD}(q:Q (.bl (!decide (x∈S))) h):inE true (.int (x:G8)) (jq S) h Q:=Fw λbo hb=>by
 have:(true !=bo)= !decide (x∈S):=by
  cases bo with
  |true=>rw [G9 (hb.mp rfl)];rfl
  |false=>rw [D5 λz=>by have:=hb.mpr z;cases this];rfl
 rw [this];exact q
structure GB (n:G5)(h0 h:HD)(R:P4)(rs:G0 P4)(f:G5->G5->T9):Prop where
 at_:h R=some (rs.map D.lst)
 len:rs.length=n
 nR:R ∉ rs
 nd:rs.Nodup
 sb:Sub h0 h
 row: ∀i a,rs[i]? =some a->h0 a=none/\h a=some ((G3 n).map λj=>D.bl (f i j))
section
variable {n:G5}{h0 h:HD}{R:P4}{rs:G0 P4}{f g:G5->G5->T9}
theorem GB.put (G:GB n h0 h R rs f){i j:G5}{a:P4}{v:T9}(ha:rs[i]? =some a):GB n h0 (wB h a (((G3 n).map λj=>D.bl (f i j)).set j (.bl v))) R rs (λx y=>if x=i/\y=j then v else f x y):=by
 have hm:=D0 ha;have il:=(P8.mp ha).1;refine⟨jA (λz=>G.nR (z ▸ hm)) G.at_,G.len,G.nR,G.nd,G.sb.over (G.row i a ha).1,λx b hb=>⟨(G.row x b hb).1,?_⟩⟩
 by_cases z:x=i
 ·subst z;have eb:b=a:=by rw [ha] at hb;injection hb with hb;exact hb.symm
  subst eb;rw [jc];refine congrArg some (iB (by simp) λm h1 h2=> ?_);rw [List.getElem_set];simp only [iD,cJ]
  by_cases e:j=m
  ·subst e;simp
  ·rw [D9 e,D9 λw=>e w.2.symm]
 ·have ne:b≠a:=λw=>z ((List.getElem?_inj (P8.mp hb).1 G.nd).mp (hb.trans (by rw [w];exact ha.symm)))
  rw [jA ne (G.row x b hb).2];exact congrArg some (M5 λy _=>by rw [D9 λw=>z w.1])
theorem GB.pick (G:GB n h0 h R rs f){i:G5}(hi:i<n): ∃a,rs[i]? =some a/\atI (rs.map D.lst) (i:G8)=some (.lst a)/\h a=some ((G3 n).map λj=>D.bl (f i j)):=by
 have hi':i<rs.length:=by rw [G.len];exact hi
 exact⟨rs[i],G2 hi',zK (by rw [P9,G2 hi'];rfl),(G.row i _ (G2 hi')).2⟩
theorem GB.as (G:GB n h0 h R rs f)(e: ∀i j,i<n->j<n->f i j=g i j):GB n h0 h R rs g:=
 ⟨G.at_,G.len,G.nR,G.nd,G.sb,λi a ha=>⟨(G.row i a ha).1,by
  have hi:i<n:=by rw [<-G.len];exact(P8.mp ha).1
  rw [(G.row i a ha).2];exact congrArg some (M5 λj hj=>by rw [e i j hi (P6.mp hj)])⟩⟩
theorem GB.up (G:GB n h0 h R rs f){h':HD}(s:Sub h h'):GB n h0 h' R rs f:=⟨s _ _ G.at_,G.len,G.nR,G.nd,G.sb.trans s,λi a ha=>⟨(G.row i a ha).1,s _ _ (G.row i a ha).2⟩⟩
end
variable {j:G5}
theorem Mu {f:G5->T9}(hj:j<n):atI ((G3 n).map λj=>D.bl (f j)) (j:G8)=some (.bl (f j)):=VZ hj
def wk (T:G0 (G0 G8)):G5->G5->G5->T9
 |0,i,j=>decide (i=j)|| !decide (ent T i j=0)
 |b+1,i,j=>wk T b i j||(wk T b i b&&wk T b b j)
theorem WQ (T:G0 (G0 G8)): ∀b i,wk T b i i=true
 |0,i=>by unfold wk;rw [G9 rfl];rfl
 |b+1,i=>by unfold wk;rw [WQ T b i];rfl
theorem Ej (T:G0 (G0 G8))(b i:G5):wk T (b+1) i b=wk T b i b:=by
 show (wk T b i b||(wk T b i b&&wk T b b b))=_;cases wk T b i b<;>rfl
theorem Ek (T:G0 (G0 G8))(b j:G5):wk T (b+1) b j=wk T b b j:=by
 show (wk T b b j||(wk T b b b&&wk T b b j))=_;cases wk T b b j<;>cases wk T b b b<;>rfl
variable {i:G5}
theorem QF (h:ent T i j≠0): ∀b,wk T b i j=true
 |0=>by unfold wk;rw [D5 h];simp
 |b+1=>by unfold wk;rw [QF h b];rfl
theorem wk_by {b:G5}:wk T (b+1) i j=true↔wk T b i j=true\/(wk T b i b=true/\wk T b b j=true):=by
 show (wk T b i j||(wk T b i b&&wk T b b j))=true↔_;rw [cE,B7]
theorem ye: ∀ {b i k j:G5},k<b->wk T b i k=true->wk T b k j=true->wk T b i j=true
 |b+1,i,k,j,hk,x,y=>by
  by_cases e:k=b
  ·subst e;rw [Ej] at x;rw [Ek] at y;exact wk_by.mpr (.inr ⟨x,y⟩)
  ·have lt:k<b:=by omega
   rcases wk_by.mp x with x|⟨x1,x2⟩
   ·rcases wk_by.mp y with y|⟨y1,y2⟩
    ·exact wk_by.mpr (.inl (ye lt x y))
    ·exact wk_by.mpr (.inr ⟨ye lt x y1,y2⟩)
   ·rcases wk_by.mp y with y|⟨y1,y2⟩
    ·exact wk_by.mpr (.inr ⟨x1,ye lt x2 y⟩)
    ·exact wk_by.mpr (.inr ⟨x1,y2⟩)
theorem Wo {P:G5->G5->Prop}(r: ∀i,P i i)(a: ∀i j,ent T i j≠0->P i j)(t: ∀i k j,P i k->P k j->P i j): ∀ {b i j:G5},wk T b i j=true->P i j
 |0,i,j,h=>by
  have h:(decide (i=j)|| !decide (ent T i j=0))=true:=h;rw [cE] at h;rcases h with h|h
  ·rw [N2 h];exact r j
  ·exact a i j λz=>by rw [G9 z] at h;cases h
 |b+1,i,j,h=>by
  rcases wk_by.mp h with h|⟨h1,h2⟩
  ·exact Wo r a t h
  ·exact t _ _ _ (Wo r a t h1) (Wo r a t h2)
def clS (n:G5)(T:G0 (G0 G8))(S:G0 G5):G0 G5:=(G3 n).filter λj=>S.any λi=>wk T n i j
theorem Fy (n:G5)(T:G0 (G0 G8))(S:G0 G5):IsS n (clS n T S):=⟨_,rfl⟩
theorem mem_cl:j∈clS n T S↔j<n/\ ∃i∈S,wk T n i j=true:=by
 unfold clS;rw [M7,P6,U4]
theorem uh (hS:IsS n S){j:G5}(hj:j∈S):j∈clS n T S:=mem_cl.mpr ⟨hS.lt hj,j,hj,WQ T n j⟩
theorem mem_stepS:j∈jE n T S↔j<n/\ ∃i∈S,ent T i j≠0:=by
 unfold jE;rw [M7,P6,U4];exact⟨λ⟨a,i,hi,z⟩=>⟨a,i,hi,by simpa using z⟩,λ⟨a,i,hi,z⟩=>⟨a,i,hi,by simpa using z⟩⟩
theorem shut_iff:Js n T S=true↔ ∀i∈S,∀j,j<n->ent T i j≠0->j∈S:=by
 unfold Js;rw [T8];constructor
 ·intro h i hi j hj e;exact N2 (h j (mem_stepS.mpr ⟨hj,i,hi,e⟩))
 ·intro h j hj;obtain⟨a,i,hi,e⟩:=mem_stepS.mp hj;exact G9 (h i hi j a e)
theorem Tl (n:G5)(T:G0 (G0 G8))(S:G0 G5):Js n T (clS n T S)=true:=by
 rw [shut_iff];intro i hi j hj e;obtain⟨a,s,hs,w⟩:=mem_cl.mp hi;exact mem_cl.mpr ⟨hj,s,hs,ye a w (QF e n)⟩
theorem qy {U:G0 G5}(hU:Js n T U=true)(out: ∀i j,ent T i j≠0->j<n)(sub: ∀i∈S,i∈U){j:G5}(hj:j∈clS n T S):j∈U:=by
 obtain⟨_,s,hs,w⟩:=mem_cl.mp hj;exact Wo (P:=λi j=>i∈U->j∈U) (λ_ x=>x) (λi j e x=>shut_iff.mp hU i x j (out i j e) e) (λi k j x y z=>y (x z)) w (sub s hs)
theorem Fz {e:G5}(h:Sq n e T)(i j:G5)(z:ent T i j≠0):j<n:=by
 by_cases hj:j<n
 ·exact hj
 ·exfalso;apply z;unfold ent
  by_cases hi:i<T.length
  ·have hr:=h.row (T.getD i []) (by rw [D1,G2 hi];exact B3 hi);rw [D1,L5 (by rw [hr];omega)];rfl
  ·rw [D1 (l:=T),L5 (by omega)];rfl
theorem qz {e:G5}(h:Sq n e T){S:G0 G5}(hS:IsS n S)(sh:Js n T S=true):clS n T S=S:=
 IsS.ext (Fy n T S) hS λj=>⟨λhj=>qy sh (Fz h) (λ_ x=>x) hj,λhj=>uh hS hj⟩
def fW (T:G0 (G0 G8))(b i j x y:G5):T9:=if x<i\/(x=i/\y<j) then wk T (b+1) x y else wk T b x y
theorem ui (T:G0 (G0 G8))(b i j x:G5):fW T b i j x b=wk T b x b:=by
 unfold fW;rw [Ej]
 by_cases c:x<i\/(x=i/\b<j)
 ·rw [D8 c]
 ·rw [D9 c]
theorem uj (T:G0 (G0 G8))(b i j y:G5):fW T b i j b y=wk T b b y:=by
 unfold fW;rw [Ek]
 by_cases c:b<i\/(b=i/\y<j)
 ·rw [D8 c]
 ·rw [D9 c]
theorem ul {b:G5}(h1:wk T b i b=true)(h2:wk T b b j=true)(x y:G5):(if x=i/\y=j then true else fW T b i j x y)=fW T b i (j+1) x y:=by
 by_cases e:x=i/\y=j
 ·obtain⟨rfl,rfl⟩:=e;unfold fW;rw [D8 ⟨rfl,rfl⟩,D8 (.inr ⟨rfl,J1 _⟩)];exact(wk_by.mpr (.inr ⟨h1,h2⟩)).symm
 ·rw [D9 e];unfold fW
  by_cases c:x<i\/(x=i/\y<j)
  ·rw [D8 c,D8 (by omega)]
  ·rw [D9 c,D9 (by omega)]
theorem FA {b:G5}(h: ¬ (wk T b i b=true/\wk T b b j=true))(x y:G5):fW T b i j x y=fW T b i (j+1) x y:=by
 unfold fW
 by_cases c:x<i\/(x=i/\y<j)
 ·rw [D8 c,D8 (by omega)]
 ·rw [D9 c]
  by_cases e:x=i/\y=j
  ·obtain⟨rfl,rfl⟩:=e;rw [D8 (by omega),B8,wk_by];exact⟨.inl,λz=>z.resolve_right h⟩
  ·rw [D9 (by omega)]
theorem Tn (T:G0 (G0 G8))(b i x y:G5)(hy:y<n):fW T b i n x y=fW T b (i+1) 0 x y:=by
 unfold fW
 by_cases c:x<i\/(x=i/\y<n)
 ·rw [D8 c,D8 (by omega)]
 ·rw [D9 c,D9 (by omega)]
theorem um (T:G0 (G0 G8))(b x y:G5)(hx:x<n):fW T b n 0 x y=wk T (b+1) x y:=by
 unfold fW;rw [D8 (.inl hx)]
theorem To (T:G0 (G0 G8))(b x y:G5):wk T b x y=fW T b 0 0 x y:=by
 unfold fW;rw [D9 (by omega)]
section
variable {X:Cx}{iter iter' elt:T1}{te:TED}{ti ti':TID}{tt tt':TTD}{pos spos:Pos}{scope:U5}{js:G0 G5}{ifs ifs':G0 T1}
theorem Tp {i i' k:G5}{x z y:Str}{p pz py:Pos}(hc:X.calm=true)(hN:X.N.Nodup)(hk:X.N[k]? =some y)(hy:Loc X.env.scope y)(S:BlockOk X scope js)(hi:JI X (.Name x p) iter ti)(hj:i∈js)(hj':i'∈js)(hne:i≠i')(hx:X.N[i]? =some x)(hz:X.N[i']? =some z)
 (hl:scope.names.lookup x=some .local\/scope.names.lookup x=some .cell)(hl':scope.names.lookup z=some .local\/scope.names.lookup z=some .cell)
 (ht: ∀X',ji X scope X'->PTs X' ifs (LT X'.K tt))(hi': ∀X',ji X scope X'->JI X' (.Name z pz) iter' ti')(ht': ∀X',ji X scope X'->PTs X' ifs' (LT X'.K tt'))(he: ∀X',ji X scope X'->JE X' elt te)
 (hsw:aD (.ListComp elt [⟨.Name x p,iter,ifs,0⟩,⟨.Name z pz,iter',ifs',0⟩] scope pos) (some (.Name y py)) spos.line X.env=pure true:=by rfl)
 (hf:X.fn y=true\/X.env.scope.names.lookup y=some .local:=by first|exact .inl rfl|exact .inr rfl|assumption)(hs: ∀x,S9 iter X.env x=pure x:=by intro _;rfl)(hs': ∀env x,S9 iter' env x=pure x:=by intro _ _;rfl):
 JS X (.Assign [.Name y py] (.ListComp elt [⟨.Name x p,iter,ifs,0⟩,⟨.Name z pz,iter',ifs',0⟩] scope pos) spos) (Lu k (Dt (bN i) js ti tt i' ti' tt' te)):=by
 have base:PS X (.Assign [.Name y py] (.ListComp elt [⟨.Name x p,iter,ifs,0⟩,⟨.Name z pz,iter',ifs',0⟩] scope pos) spos) (AK (Kf js (LI X.K ti) (wA i) (LT X.K tt) (LI X.K ti') (wA i') (LT X.K tt') (LE X.K te)) (wA k)):=
  BK hc S hi.to rfl (λX' hX=>by obtain⟨C,s₀,H₀,ex,rfl⟩:=hX;exact wj hN hx hl) (λX' hX=>by have:=ht X' hX;obtain⟨C,s₀,H₀,ex,rfl⟩:=hX;exact this)
   (λenv acc=>Nd (.ListComp elt [⟨.Name x p,iter,ifs,0⟩,⟨.Name z pz,iter',ifs',0⟩] scope pos) iter' env acc) (λ_ _ _=>BM ..)
   (λX' hX D=>by
    have a:=(hi' X' hX).to;have b:=ht' X' hX;have c:=(he X' hX).to;obtain⟨C,s₀,H₀,ex,rfl⟩:=hX;exact BL (g:=wA i') hc rfl a (wj hN hz hl') b c (hs' _))
   (yQ hN hk hy hf) hsw hs
 exact⟨base.imp λD σ H h=>by
  obtain⟨σd,hd,Qd,rs,rh,t,p⟩:=BR (K:=X.K) D σ H h;exact BT (AV hj hj' hne) σ H _ ⟨σd,hd,Qd,rs,rh,t,p⟩⟩
end
def Tq (g:G5->G5->T9)(w:G0 G5)(j:G5):T9:=g (w.getLastD 0) j&&(decide (w.headD 0<j)&& !decide (j∈w))
def uQ (g:G5->G5->T9)(n:G5)(w:G0 G5):G0 (G0 G5):=((G3 n).filter (Tq g w)).map λj=>w++ [j]
def lev (g:G5->G5->T9)(n:G5):G5->G0 (G0 G5)
 |0=>(G3 n).map λi=> [i]
 |t+1=>(lev g n t).flatMap (uQ g n)
variable {α:Type}
theorem yp {p q:α->T9}(h: ∀a,p a=true->q a=true): ∀l:G0 α,(l.filter p).Sublist (l.filter q)
 | []=> .slnil
 |a::l=>by
  cases e:p a with
  |true=>rw [K7 e,K7 (h a e)];exact(yp h l).cons₂ a
  |false=>
   rw [V5 (by rw [e];exact R0)];cases e':q a with
   |true=>rw [K7 e'];exact(yp h l).cons a
   |false=>rw [V5 (by rw [e'];exact R0)];exact yp h l
theorem Ul {β:Type}{f g:α->G0 β}(h: ∀a,(f a).Sublist (g a)): ∀ {l m:G0 α},l.Sublist m->(l.flatMap f).Sublist (m.flatMap g)
 |_,_,.slnil=> .slnil
 |_,_,.cons a s=>by rw [H0];exact(Ul h s).trans (List.sublist_append_right _ _)
 |_,_,.cons₂ a s=>by rw [H0,H0];exact(h a).append (Ul h s)
variable {g:G5->G5->T9}
theorem Vn {g':G5->G5->T9}(h: ∀i j,g i j=true->g' i j=true)(n:G5): ∀t,(lev g n t).Sublist (lev g' n t)
 |0=>List.Sublist.refl _
 |t+1=>Ul (λw=>(yp (λj e=>by
  unfold Tq at*
  rw [B7] at*
  exact⟨h _ _ e.1,e.2⟩) (G3 n)).map _) (Vn h n t)
def uR:G5->G5->T9:=λ_ _=>true
theorem Tr: ∀n,n<=6-> ∀t,t<=6->(lev uR n t).length<=144:=by decide +kernel
variable {t:G5}
theorem FB (h6:n<=6)(ht:t<=6):(lev g n t).length<=144:=T5 (Vn (λ_ _ _=>rfl) n t).length_le (Tr n h6 t ht)
theorem Ag (n:G5)(h6:n<=6):lev uR n n= []:=by
 have: ∀n,n<=6->lev uR n n= []:=by decide +kernel
 exact this n h6
theorem Ts (h6:n<=6):lev g n n= []:=aI (Nat.le_zero.mp (by rw [<-B9 (α:=G0 G5),<-Ag n h6];exact(Vn (λ_ _ _=>rfl) n n).length_le))
theorem uo (h:lev g n t= []):lev g n (t+1)= []:=by
 show (lev g n t).flatMap _= [];rw [h];rfl
structure LevOk (n t:G5)(w:G0 G5):Prop where
 len:w.length=t+1
 lt: ∀i∈w,i<n
 nd:w.Nodup
 low: ∀i∈w,w.headD 0<=i
theorem Um: ∀ {t:G5} {w:G0 G5},w∈lev g n t->LevOk n t w
 |0,w,h=>by
  obtain⟨i,hi,rfl⟩:=R8.mp h;exact⟨rfl,λj hj=>by rw [P1.mp hj];exact P6.mp hi,L0 _ _,λj hj=>by rw [P1.mp hj];exact P5 _⟩
 |t+1,w,h=>by
  obtain⟨v,hv,hw⟩:=iJ.mp h;have o:=Um hv;obtain⟨j,hj,rfl⟩:=R8.mp hw;obtain⟨hj1,hj2⟩:=M7.mp hj;unfold Tq at hj2;rw [B7,B7] at hj2;obtain⟨_,h3,h4⟩:=hj2;have h3:=N2 h3;have h4:j ∉ v:=λz=>by rw [G9 z] at h4;cases h4
  have hd:(v++ [j]).headD 0=v.headD 0:=by
   cases v with
   |nil=>have:=o.len;cases this
   |cons a v=>rfl
  refine⟨by rw [P2,o.len];rfl,λi hi=> ?_,?_,λi hi=> ?_⟩
  ·rcases R1.mp hi with z|z
   ·exact o.lt i z
   ·rw [P1.mp z];exact P6.mp hj1
  ·exact Y9.mpr ⟨o.nd,L0 _ _,λa ha b hb e=>by rw [P1.mp hb] at e;subst e;exact h4 ha⟩
  ·rw [hd];rcases R1.mp hi with z|z
   ·exact o.low i z
   ·rw [P1.mp z];exact S1 h3
def Xf (g:G5->G5->T9)(n:G5):G5->G0 (G0 G5)
 |0=> []
 |t+1=>Xf g n t++(lev g n t).filter λw=>g (w.getLastD 0) (w.headD 0)
def Ji (T:G0 (G0 G8))(i j:G5):T9:=decide (ent T i j>0)
def yq (T:G0 (G0 G8))(n:G5):G0 (G0 G5):=NB (Xf (Ji T) n n)
theorem Pk {g':G5->G5->T9}(h: ∀i j,g i j=true->g' i j=true)(n:G5): ∀t,(Xf g n t).length<=(Xf g' n t).length
 |0=>P5 _
 |t+1=>by
  show (Xf g n t++_).length<=(Xf g' n t++_).length;rw [P2,P2];exact rJ (Pk h n t) (((Vn h n t).filter _).trans (yp (λw e=>h _ _ e) _)).length_le
theorem Tt: ∀n,n<=6-> ∀t,t<=6->(Xf uR n t).length<=415:=by decide +kernel
theorem Mv (h6:n<=6)(ht:t<=6):(Xf g n t).length<=415:=T5 (Pk (λ_ _ _=>rfl) n t) (Tt n h6 t ht)
theorem Pl: ∀ {t:G5} (k:G5),lev g n t= []->Xf g n (t+k)=Xf g n t/\lev g n (t+k)= []
 |t,0,h=>⟨rfl,h⟩
 |t,k+1,h=>by
  obtain⟨a,b⟩:=Pl k h;refine⟨?_,uo b⟩;show Xf g n (t+k)++(lev g n (t+k)).filter _=_;rw [b,a,k5,A2]
theorem FC: ∀ {t:G5} {w:G0 G5},w∈Xf g n t-> ∃s,s<t/\LevOk n s w/\g (w.getLastD 0) (w.headD 0)=true
 |t+1,w,h=>by
  rcases R1.mp (show w∈Xf g n t++(lev g n t).filter _ from h) with z|z
  ·obtain⟨s,a,b⟩:=FC z;exact⟨s,by omega,b⟩
  ·obtain⟨z1,z2⟩:=M7.mp z;exact⟨t,J1 t,Um z1,z2⟩
variable {w:G0 G5}
theorem FD (h:w∈yq T n): ∃s,s<n/\LevOk n s w/\ent T (w.getLastD 0) (w.headD 0)>0:=by
 obtain⟨s,a,b,c⟩:=FC ((yk _).mem_iff.mp h);exact⟨s,a,b,N2 c⟩
theorem Mw (h:w.length=t+1):atI (w.map λ(k:G5)=>D.int (k:G8)) 0=some (.int ((w.headD 0:G5):G8)):=by
 cases w with
 |nil=>cases h
 |cons a w=>exact zK (j:=0) rfl
theorem at_end (h:w.length=t+1):atI (w.map λ(k:G5)=>D.int (k:G8)) (-1)=some (.int ((w.getLastD 0:G5):G8)):=by
 refine Ml (by rw [G1];omega) ?_;rw [G1,P9,J7,J8,G2 (by omega)];rfl
theorem FE (h:w.length=t+1):w.getLastD 0∈w:=by
 rw [J7,J8,G2 (by omega)];exact B3 _
theorem Ah (h:w.length=t+1):w.headD 0∈w:=by
 cases w with
 |nil=>cases h
 |cons a w=>exact R3
variable {β:Type}
theorem FF (f:α->G0 β){xs:G0 α}{k:G5}{x:α}(h:xs[k]? =some x):(xs.take (k+1)).flatMap f=(xs.take k).flatMap f++f x:=by
 rw [N7,h,K0];simp
theorem FG (p:α->T9)(g:α->β){xs:G0 α}{k:G5}{x:α}(h:xs[k]? =some x):((xs.take (k+1)).filter p).map g=((xs.take k).filter p).map g++if p x=true then [g x] else []:=by
 rw [N7,h,A4,S8]
 congr 1
 by_cases c:p x=true
 ·rw [D8 c];simp [c]
 ·rw [D9 c];simp [c]
theorem Yp (f:α->G0 β)(xs:G0 α)(k:G5):((xs.take k).flatMap f).length<=(xs.flatMap f).length:=by
 conv=>rhs;rw [<-T7 k xs,K0,P2]
 omega
section
variable {α β:Type}{i i':G5}{js:G0 G5}{ti ti':TID}{tt':TTD}{te:TED}{σ:SD}{h:HD}{Q:KD}{j:ItD}
theorem El (xs:G0 α)(c:α->D)(ys:α->G0 β)(c':β->D)(p:α->β->T9)(g:α->β->D)(hz:(xs.flatMap λx=>((ys x).filter (p x)).map (g x)).length<=sizeLine)(hj: ∀h',Sub h h'->j h'=some (xs.map c))(ht: ∀R:ItD->HD->Prop,R j h->ti σ h R)
 (hin: ∀x∈xs,∀h',Sub h h'-> ∀R:ItD->HD->Prop,(∀j' h2,Sub h' h2->(∀h3,Sub h2 h3->j' h3=some ((ys x).map c'))->R j' h2)->ti' ((jJ js σ).set i (some (c x))) h' R)
 (hp: ∀x∈xs,∀y∈ys x,∀h',Sub h h'-> ∀Q':T9->HD->Prop,Q' (p x y) h'->tt' (((jJ js σ).set i (some (c x))).set i' (some (c' y))) h' Q')
 (he: ∀x∈xs,∀y∈ys x,p x y=true-> ∀h',Sub h h'-> ∀Q':KD,Q' (g x y) h'->te (((jJ js σ).set i (some (c x))).set i' (some (c' y))) h' Q')
 (hq: ∀a h',Sub h h'->h' a=none->Q (.lst a) (wB h' a (xs.flatMap λx=>((ys x).filter (p x)).map (g x)))):Dt (bN i) js ti vT i' ti' tt' te σ h Q:=by
 refine ht _ ⟨xs.length,λk zs h'=>Sub h h'/\zs=(xs.take k).flatMap λx=>((ys x).filter (p x)).map (g x),⟨Sub.refl h,rfl⟩,?_⟩;rintro k zs h1 ⟨s1,rfl⟩;refine⟨T5 (Yp _ xs k) hz,xs.map c,hj h1 s1,by rw [G1];exact P5 _,λhl a ha=> ?_,λd hd=> ?_⟩
 ·rw [G1] at hl;rw [S5 hl];exact hq a h1 s1 ha
 rw [P9] at hd;cases ex:xs[k]? with
 |none=>rw [ex] at hd;cases hd
 |some x=>
  rw [ex] at hd;injection hd with hd
  subst hd;have mx:=D0 ex;refine⟨_,rfl,?_⟩;unfold vT;refine wc ?_;refine hin x mx h1 s1 _ λj' h2 s2 hj'=>⟨(ys x).length,λm zs h'=>Sub h2 h'/\zs=((xs.take k).flatMap λx=>((ys x).filter (p x)).map (g x))++(((ys x).take m).filter (p x)).map (g x),⟨Sub.refl h2,by simp⟩,?_⟩
  rintro m zs h3 ⟨s3,rfl⟩;have s03:Sub h h3:=(s1.trans s2).trans s3;have tk:=FF (λx=>((ys x).filter (p x)).map (g x)) ex;refine⟨?_,(ys x).map c',hj' h3 s3,by rw [G1];exact P5 _,λhl=> ?_,λd hd=> ?_⟩
  ·refine T5 ?_ (T5 (Yp (λx=>((ys x).filter (p x)).map (g x)) xs (k+1)) hz);rw [tk,P2,P2,G1,G1];have:=(Y0 m (ys x)).filter (p x) |>.length_le;omega
  ·rw [G1] at hl;refine⟨h3,Sub.refl _,s03,?_⟩;rw [tk,S5 hl]
  ·rw [P9] at hd;cases ey:(ys x)[m]? with
   |none=>rw [ey] at hd;cases hd
   |some y=>
    rw [ey] at hd;injection hd with hd
    subst hd;have my:=D0 ey;have tf:=FG (p x) (g x) ey;refine hp x mx y my h3 s03 _ ?_
    by_cases cp:p x y=true
    ·rw [D8 cp] at tf ⊢;refine he x mx y my cp h3 s03 _ ⟨h3,Sub.refl _,s3,?_⟩;rw [tf,D3]
    ·rw [D9 cp] at tf ⊢;refine⟨h3,Sub.refl _,s3,?_⟩;rw [tf,A2]
end
end L2
namespace HT
open PySem PySem.Spec PyProof.Rows PySem.SeqAt
open PySem.AutoSeq1 (wpAny_loadPart')
open PySem.MeetsSeq PySem.MeetsSeq2 PySem.MeetsSeq3
theorem at_end {α:Type}{p:G0 α}{items:N8 α}(e:items.toList=p){i:G5}(l:p.length=i):items[((i:G5):G8).toNat]? =none:=by
 rw [dB,<-F4,e,<-l];simp
end HT
namespace L2
open PySem PySem.Spec PyProof.Rows PySem.SeqAt HT
open Classical in
noncomputable def readOf (h:L6)(v:G7):W3:=if e: ∃p as,p.canLay0=true/\Reads h v p as then e.choose else .none
end L2
namespace L2
open PySem PySem.Spec PyProof.Rows
def s5:G5->G5
 |0=>0
 |d+1=>5*s5 d+1
def f5 (N:G5):G5->G5->G5
 |0,a=>a
 |d+1,a=>(f5 N d a*5+1)%N
theorem Mx: ∀ (fuel k n:G5),3<=k-> ∃m,3<=m/\SetTable.sizeAbove.go n fuel (2^k)=2^m/\(n<2^(k+fuel)->n<2^m)
 |0,k,n,h=>⟨k,h,rfl,λz=>z⟩
 |fuel+1,k,n,h=>by
  unfold SetTable.sizeAbove.go
  by_cases c:2^k<=n
  ·rw [D8 c,<-nO];obtain⟨m,a,b,d⟩:=Mx fuel (k+1) n (by omega);exact⟨m,a,b,λz=>d (by rw [Nat.add_right_comm,W5];exact z)⟩
  ·rw [D9 c];exact⟨k,h,rfl,λ_=>by omega⟩
theorem above {n:G5}(h:n<2^67): ∃m,cM n=2^m/\n<cM n/\8<=cM n:=by
 obtain⟨m,a,b,c⟩:=Mx 64 3 n (by decide);have b:cM n=2^m:=b;refine⟨m,b,by rw [b];exact c h,?_⟩;rw [b];exact V0 (show 0<2 by decide) a
end L2
namespace L2
open PySem PySem.Spec PyProof.Rows HT
def Tu (h h':L6):Prop:= ∀ (b:P4) (o:Obj),o.cls= .type "tuple" ->h.get? b=some o->h'.get? b=some o
structure MemK (prog:M0)(w:C6)(K:Type)[DecidableEq K] where
 is:L6->K->P4->Prop
 hash:K->G8
 inj: ∀ {h:L6} {x y:K} {a:P4},is h x a->is h y a->x=y
 keep: ∀ {h h':L6} {x:K} {a:P4},Tu h h'->is h x a->is h' x a
 hashed: ∀ {A:C5} {E:G7->P0->Prop} {s:P0} {x:K} {a:P4} {Q:G8->P0->Prop},A.units+8<cLine->is s.heap x a->(∀tk,Q (hash x) {s with toks:=tk})->S6 (T4 prog w) A (pyHash (.ref a)) Q E s
 same: ∀ {A:C5} {E:G7->P0->Prop} {s:P0} {x y:K} {a b:P4} {Q:T9->P0->Prop},A.units+8<cLine->is s.heap x a->is s.heap y b->Q (decide (x=y)) s->S6 (T4 prog w) A (eqBool (.ref a) (.ref b)) Q E s
 quiet: ∀ {A:C5} {E:G7->P0->Prop} {s:P0} {x:K} {a:P4} {Q:T9->P0->Prop},is s.heap x a->Q true s->S6 (T4 prog w) A (eqIsQuiet 8 (.ref a)) Q E s
 cls: ∀ {A:C5} {E:G7->P0->Prop} {s:P0} {x:K} {a:P4} {Q:T9->P0->Prop},is s.heap x a->Q false s->S6 (T4 prog w) A (ofAClassStatement 8 (.ref a)) Q E s
 byv: ∀ {A:C5} {E:G7->P0->Prop} {s:P0} {x:K} {a:P4} {Q:T9->P0->Prop},is s.heap x a->Q true s->S6 (T4 prog w) A (hashByValue 8 (.ref a)) Q E s
section
variable {prog:M0}{w:C6}{A:C5}{E:G7->P0->Prop}{s:P0}{K:Type}[DecidableEq K]
theorem vh: ∀ {xs ys:G0 K},xs.Nodup->(∀x∈xs,x∈ys)->xs.length<=ys.length
 | [],_,_,_=>N4 _
 |x::xs,ys,nd,h=>by
  obtain⟨n1,n2⟩:=V7.mp nd;have le:=vh (ys:=ys.erase x) n2 λy hy=>(dY (λ(e:y=x)=>n1 (by rw [<-e];exact hy))).mpr (h y (.tail _ hy))
  rw [b8 (h x (.head _))] at le;have pos:=dF (h x (.head _));rw [R7];omega
end
end L2
namespace L2
open PySem PySem.Spec PyProof.Rows PySem.SeqAt HT
def pcS (T:G0 (G0 G8))(n p:G5):G0 G5:=(G3 n).filter λj=>wk T n p j&&wk T n j p
def Zm (T:G0 (G0 G8))(n:G5):G0 (G0 G5):=((G3 n).filter λp=>decide ((pcS T n p).headD 0=p)).map (pcS T n)
section
variable {T:G0 (G0 G8)}{n e:G5}
theorem uq (p:G5):IsS n (pcS T n p):=⟨_,rfl⟩
variable {p:G5}
theorem mem_pc {j:G5}:j∈pcS T n p↔j<n/\wk T n p j=true/\wk T n j p=true:=by
 unfold pcS;rw [M7,P6,B7]
theorem FH (hp:p<n):p∈pcS T n p:=mem_pc.mpr ⟨hp,WQ T n p,WQ T n p⟩
theorem Tv {q:G5}(hp:p<n)(h:q∈pcS T n p):pcS T n q=pcS T n p:=by
 obtain⟨hq,h1,h2⟩:=mem_pc.mp h;refine(uq q).ext (uq p) λj=> ?_
 rw [mem_pc,mem_pc];exact⟨λ⟨a,b,c⟩=>⟨a,ye hq h1 b,ye hq c h2⟩,λ⟨a,b,c⟩=>⟨a,ye hp h2 b,ye hp c h1⟩⟩
theorem FJ (hp:p<n): ∃r,pcS T n p=(pcS T n p).headD 0::r:=by
 cases h:pcS T n p with
 |nil=>have:=FH (T:=T) hp;rw [h] at this;cases this
 |cons x r=>exact⟨r,rfl⟩
theorem Tw (hp:p<n):(pcS T n p).headD 0<n/\pcS T n ((pcS T n p).headD 0)=pcS T n p:=by
 obtain⟨r,h⟩:=FJ (T:=T) hp;have m:(pcS T n p).headD 0∈pcS T n p:=by
  generalize (pcS T n p).headD 0=x at h;rw [h];exact R3
 exact⟨(mem_pc.mp m).1,Tv hp m⟩
theorem mem_pcs {S:G0 G5}:S∈Zm T n↔ ∃p,p<n/\S=pcS T n p:=by
 unfold Zm;rw [R8];constructor
 ·rintro ⟨p,hp,rfl⟩;exact⟨p,P6.mp (M7.mp hp).1,rfl⟩
 ·rintro ⟨p,hp,rfl⟩;obtain⟨a,b⟩:=Tw (T:=T) hp;exact⟨(pcS T n p).headD 0,M7.mpr ⟨P6.mpr a,G9 (by rw [b])⟩,b⟩
end
end L2
namespace L2
open PySem PySem.Spec PyProof.Rows PySem.W
structure DefIn (K:Frag)(x:Str)(st:C9)(f:P4)(fd:R6):Prop where
 at_:nsIn K L9 x=some (some (.ref f))
 fn:Fun K x x st f fd
variable {K:Frag}{h base:L6}{mg:Str->D4 G7}{x:Str}{st:C9}{f:P4}{fd:R6}{P:M0}{w:C6}{n:G5}{ps:G0 Str}
theorem ur {oc:G7}{od an:D4 P4}{osl:N8 (D4 G7)}{kV doc pm cdv ct:G7}(a:nsIn K L9 x=some (some (.ref f)))(l:K.lookup f=some ⟨oc,od,.func (fnOf x x (Jk st) (wR st) (jd st) .none kV doc pm an cdv ct),osl⟩)
 (c:codeIn K cdv x=true)(k:keepIn K (.ref f)=true):DefIn K x st f (fnOf x x (Jk st) (wR st) (jd st) .none kV doc pm an cdv ct):=⟨a,HZ l c k⟩
abbrev qA (x:Str)(st:C9)(ps:G0 Str):Prop:= ∀ (kV doc pm:G7) (an:D4 P4) (cdv ct:G7) (us:G0 G7),us.length=ps.length->tY (fnOf x x (Jk st) (wR st) (jd st) .none kV doc pm an cdv ct) ⟨us,[]⟩=pure (ps.zip us)
theorem DefIn.nm (d:DefIn K x st f fd)(X:K.In h)(G:h.Ns L9 mg):mg x=some (.ref f):=mg_of X G d.at_
variable {C:G0 G7->Prop}
theorem ln1 (g: ∀a,C [a]): ∀us:G0 G7,us.length=1->C us
 | [_],_=>g _
theorem ln2 (g: ∀a b,C [a,b]): ∀us:G0 G7,us.length=2->C us
 | [_,_],_=>g _ _
theorem ln3 (g: ∀a b c,C [a,b,c]): ∀us:G0 G7,us.length=3->C us
 | [_,_,_],_=>g _ _ _
theorem ln4 (g: ∀a b c d,C [a,b,c,d]): ∀us:G0 G7,us.length=4->C us
 | [_,_,_,_],_=>g _ _ _ _
theorem ln5 (g: ∀a b c d e,C [a,b,c,d,e]): ∀us:G0 G7,us.length=5->C us
 | [_,_,_,_,_],_=>g _ _ _ _ _
theorem DefIn.cal {sp:RDn}(d:DefIn K x st f fd)(l:OpenLaw)(w:C6)(base:L6)(X:K.In h)(G:h.Ns L9 mg)(ok:FnOk l.prog w K mg base CX0 n f fd ps (LSp K sp))(b:qA x st ps:=by first|exact λ_ _ _ _ _ _=>ln1 λ_=>rfl|exact λ_ _ _ _ _ _=>ln2 λ_ _=>rfl|exact λ_ _ _ _ _ _=>ln3 λ_ _ _=>rfl|exact λ_ _ _ _ _ _=>ln4 λ_ _ _ _=>rfl|exact λ_ _ _ _ _ _=>ln5 λ_ _ _ _ _=>rfl):je l.prog w K mg base n x ps sp:=⟨_,_,ok,d.fn.binds b,d.fn.kp,d.nm X G⟩
def zsB (K:Frag):T9:= ["len","max","min","divmod","all","any","repr","sum","sorted","int","tuple","list","set","bool","isinstance","range","zip","enumerate","reversed"].all λx=>nsIn K L9 (Str.ofString x)==some none
theorem qB (X:K.In h)(G:h.Ns L9 mg)(e:zsB K=true):Zs mg:=by
 unfold zsB at e;rw [T8] at e;have m:=λ(x:U1) hx=>mg_none_of X G (beq_iff_eq.mp (e x hx))
 exact⟨m "len" (by decide),m "max" (by decide),m "min" (by decide),m "divmod" (by decide),m "all" (by decide),m "any" (by decide),m "repr" (by decide),m "sum" (by decide),m "sorted" (by decide),m "int" (by decide),m "tuple" (by decide),m "list" (by decide),m "set" (by decide),m "bool" (by decide),m "isinstance" (by decide),m "range" (by decide),m "zip" (by decide),m "enumerate" (by decide),m "reversed" (by decide)⟩
end L2
namespace L2
open PySem PySem.Spec PyProof.Rows
def kvV (kvs:G0 (G8×V)):G0 (Key×V):=kvs.map λp=>((O4 p.1:Key),p.2)
def Zn {α:Type}(kv:G0 (G8×α))(k:G8):D4 α:=(kv.find? λp=>decide (p.1=k)).map (·.2)
def Bg {α:Type}(kv:G0 (G8×α))(k:G8)(d:α):G0 (G8×α):=if (Zn kv k).isSome then kv.map (λp=>if p.1=k then (p.1,d) else p) else kv++ [(k,d)]
section
variable {α:Type}{kv r:G0 (G8×α)}{p:G8×α}{k:G8}
theorem Ai (e:p.1=k):Zn (p::r) k=some p.2:=by simp [Zn,V8,e]
theorem Aj (e: ¬p.1=k):Zn (p::r) k=Zn r k:=by simp [Zn,V8,e]
end
section
variable {K:G6}{H:Hp}{k:G8}
theorem Zf: ∀ {kv:G0 (G8×D)} {kvs:G0 (G8×V)},kv.map (·.1)=kvs.map (·.1)->RelDs K H (kv.map (·.2)) (kvs.map (·.2))->(∀d,Zn kv k=some d-> ∃v,Xa (kvV kvs) (O4 k)=some v/\RelD K H d v)/\(Zn kv k=none->Xa (kvV kvs) (O4 k)=none)
 | [],[],_,_=>⟨λ_ z=>(nomatch z),λ_=>rfl⟩
 |p::r,[],e,_=>by cases e
 | [],q::s,e,_=>by cases e
 |p::r,q::s,e,h=>by
  rw [M1,M1] at e;injection e with e1 e2
  obtain⟨v,t,z,h1,h2⟩:=(show ∃v t,q.2::s.map (·.2)=v::t/\RelD K H p.2 v/\RelDs K H (r.map (·.2)) t from h);injection z with z1 z2
  subst z1;subst z2
  by_cases c:p.1=k
  ·rw [Ai c];refine⟨λd z=> ?_,λz=>by cases z⟩;injection z with z
   subst z;exact⟨q.2,Vf (by show (O4 q.1:Key)=_;rw [<-e1,c]),h1⟩
  ·rw [Aj c];have n: ¬ (O4 q.1:Key)=O4 k:=λz=>by injection z with z;exact c (e1.trans z)
   show (∀d,_-> ∃v,Xa ((O4 q.1,q.2)::kvV s) _=_/\_)/\(_->Xa ((O4 q.1,q.2)::kvV s) _=_);rw [Vg n];exact Zf e2 h2
theorem Ak {kv:G0 (G8×D)}{kvs:G0 (G8×V)}{d:D}{v:V}(e:kv.map (·.1)=kvs.map (·.1))(r:RelDs K H (kv.map (·.2)) (kvs.map (·.2)))(rd:RelD K H d v): ∃kvs',RU (kvV kvs) (O4 k) v=kvV kvs'/\(Bg kv k d).map (·.1)=kvs'.map (·.1)/\RelDs K H ((Bg kv k d).map (·.2)) (kvs'.map (·.2)):=by
 have g:=Zf (k:=k) e r
 by_cases c:(Zn kv k).isSome
 ·obtain⟨d0,hd0⟩:=Z8.mp c;obtain⟨v0,hv0,_⟩:=g.1 d0 hd0;refine⟨kvs.map λp=>if p.1=k then (p.1,v) else p,?_,?_,?_⟩
  ·unfold RU;rw [Qa,hv0];show gD _ (kvV kvs)=_;unfold kvV;rw [S2,S2];refine M5 λp _=> ?_
   show (if (O4 p.1:Key)=O4 k then _ else _)=_
   by_cases z:p.1=k
   ·rw [D8 (by rw [z])];show _=((O4 (if p.1=k then (p.1,v) else p).1:Key),(if p.1=k then (p.1,v) else p).2);rw [D8 z]
   ·rw [D9 (λw=>z (by injection w))];show _=((O4 (if p.1=k then (p.1,v) else p).1:Key),(if p.1=k then (p.1,v) else p).2);rw [D9 z]
  ·unfold Bg;rw [D8 c,S2,S2];have a1:kv.map ((·.1)∘λp=>if p.1=k then (p.1,d) else p)=kv.map (·.1):=M5 λp _=>by show (if p.1=k then (p.1,d) else p).1=p.1;split<;>rfl
   have a2:kvs.map ((·.1)∘λp=>if p.1=k then (p.1,v) else p)=kvs.map (·.1):=M5 λp _=>by show (if p.1=k then (p.1,v) else p).1=p.1;split<;>rfl
   rw [a1,a2,e]
  ·unfold Bg;rw [D8 c];clear g c hd0 hv0
   induction kv generalizing kvs with
   |nil=>cases kvs with
    |nil=>exact .nil
    |cons q s=>cases e
   |cons p t ih=>cases kvs with
    |nil=>cases e
    |cons q s=>
     rw [M1,M1] at e;injection e with e1 e2
     obtain⟨u,w,z,h1,h2⟩:=(show ∃v t',q.2::s.map (·.2)=v::t'/\RelD K H p.2 v/\RelDs K H (t.map (·.2)) t' from r);injection z with z1 z2
     subst z1;subst z2;refine⟨(if q.1=k then (q.1,v) else q).2,_,rfl,?_,ih e2 h2⟩;show RelD K H (if p.1=k then (p.1,d) else p).2 _
     by_cases z:p.1=k
     ·rw [D8 z,D8 (e1 ▸ z)];exact rd
     ·rw [D9 z,D9 (e1 ▸ z)];exact h1
 ·have hn:Zn kv k=none:=by simpa using c
  refine⟨kvs++ [(k,v)],?_,?_,?_⟩
  ·rw [LV v (g.2 hn)];unfold kvV;rw [S8];rfl
  ·unfold Bg;rw [D9 c,S8,S8,e];rfl
  ·unfold Bg;rw [D9 c,S8,S8];exact r.append (.cons rd .nil)
end
def ut (x i:G8):TED:=λ_ h Q=> ∀p,h.dc p=none->Q (.dct p) (AT h p (.ik [(x,.int i)]))
section
variable {X:Cx}
theorem uu {x i:G8}{j k:G5}{pos p1 p2:Pos}:JE X (.Dict [some (.Constant (.int x) j p1)] [.Constant (.int i) k p2] pos) (ut x i):=⟨by
 have h0:PPs X pos [some (.Constant (.int x) j p1)] [.Constant (.int i) k p2] [(tC (.int x),tC (.int i))]:=LY pe_int pe_int ES;refine PE.imp (ET h0 rfl rfl (by simp) (by simp)) ?_;rintro σ H Q ⟨σd,h,Qd,rs,rh,t,p⟩ q hq;show upd H q (.dK []) q=some (.dK [])/\_;refine⟨jw,[((O4 x:Key),V.int i)],rfl,by simp,?_⟩;rw [Oh];exact p (.dct q) (.ref q) _ _ (.new hq) (rh.newC (c:= .ik [(x,.int i)]) hq ⟨[(x,.int i)],jw,rfl,.cons rfl .nil⟩) rfl (t q (rh.freeC hq))⟩
end
def ixC:RD2:=λx y h Q=> ∃a k kv d,x= .dct a/\y= .int k/\h.dc a=some (.ik kv)/\Zn kv k=some d/\Q d h
def jbp:RDn:=λds h Q=> ∃a kv,ds= [.dct a]/\h.dc a=some (.ik kv)/\Q (.int ((kv.length:G5):G8)) h
section
variable {X:Cx}
theorem jbq {k : G5} {a b : T1} {ta tb : TED} {pos : Pos} (hr : Room k X.A) (ha : JE X a ta) (hb : JE X b tb) (hs : xw b := by intro _ _; rfl) : JE X (.Subscript a b pos) (dOp ixC ta tb) :=
  ⟨(ER (by have := hr.un; omega) ha.to hb.to hs).imp fun σ H Q ⟨σd, h, Qd, rs, rh, t, post⟩ => LE.bind rs rh t fun d v h1 H1 k1 rs1 rh1 r1 t1 => LE.bind rs1 rh1 t1 fun d2 v2 h2 H2 k2 rs2 rh2 r2 ⟨a, x, kv, d3, e1, e2, e, g, q⟩ => by
    subst e1 e2
    cases (show v = .ref a from r1)
    cases (show v2 = .int x from r2)
    obtain ⟨kvs, hH, ek, rv⟩ := (show ∃ kvs : G0 (G8 × V), _ from rh2.dc a _ e)
    obtain ⟨u, hu, ru⟩ := (Zf ek rv).1 d3 g
    refine ⟨a, u, rfl, ?_, post d3 u _ _ (k1.trans k2) rh2 ru q⟩
    rw [← hu]
    exact .k (k := O4 x) hH⟩
theorem Tx:Zh X (.builtin "len") jbp:=(show CallR X (.builtin "len") (λxs H Q=> ∃ (a:P4) (kv:G0 (Key×V)),xs= [.ref a]/\H a=some (.dK kv)/\Q (.int ((kv.length:G5):G8)) H) from by
 intro pins s σ H xs us Q I r h;obtain⟨a,kv,rfl,e,q⟩:=h;obtain⟨u,rfl,ru⟩:=ZY r;cases ru;exact xv I (.inl e) λt s' I'=>⟨.int _,H,I',⟨_,rfl⟩,q⟩).imp λxs H Q ⟨ds,h,Qd,r,rh,⟨a,kv,e,z,q⟩,p⟩=>by
 subst e;obtain⟨v,e,r1⟩:=jF r;cases (show v= .ref a from r1);subst e;obtain⟨kvs,hH,ek,rv⟩:=(show ∃kvs:G0 (G8×V),_ from rh.dc a _ z);refine⟨a,_,rfl,hH,?_⟩;rw [show (kvs.map λp=>((O4 p.1:Key),p.2)).length=kv.length by rw [G1];have:=congrArg X9 ek;simpa using this.symm];exact p (.int _) _ _ _ (.refl H) rh rfl q
end
theorem Sub.overC {h h':HD}{a:P4}{c:DC}(sb:Sub h h')(e:h.dc a=none):Sub h (AT h' a c):=⟨sb.ls,λb xs z=>by
 rw [Qe (λw=>by subst w;rw [e] at z;cases z)];exact sb.dc b xs z⟩
end L2
namespace L2
variable {n:G5}
theorem Mz {e:G5}{T:G0 (G0 G8)}(h:Sq n e T)(hn:n<=8){o:G5}(ho:o<n): ∀ (t:G5) {p:G5},p<n->(0<cnt T n o t p↔RP n T t p o)
 |0,p,hp=>by
  rw [zn hp ho];show 0<(if p=o then (1:G8) else 0)↔_
  by_cases z:p=o
  ·rw [D8 z];exact⟨λ_=>z,λ_=>by decide⟩
  ·rw [D9 z];exact⟨λw=>absurd w (by decide),λw=>absurd w z⟩
 |t+1,p,hp=>by
  rw [cX t 1,wq h hn 1 t hp ho,cX 1 t];constructor
  ·intro w;obtain⟨j,hj,c⟩:=CV (λj=>Ua t j) w;have jl:=Pe hj;exact⟨j,jl,(Jr h hn).mpr (by have:=N2 (M7.mp hj).2;omega),(Mz h hn ho t jl).mp c⟩
  ·rintro ⟨j,hj,a,c⟩;have c:=(Mz h hn ho t hj).mpr c;have a:=(Jr h hn).mp a;have nn:=(h.ent_nn hp hj).1;have jm:j∈wQ T n p:=M7.mpr ⟨P6.mpr hj,G9 (by omega)⟩;obtain⟨l1,l2,e⟩:=mZ jm;show 0<((wQ T n p).map (cnt T n o t)).sum;rw [e,S8,M1,j6,b9];have x1:0<=(l1.map (cnt T n o t)).sum:=Mk λx hx=>by obtain⟨y,_,rfl⟩:=R8.mp hx;exact Ua t y
   have x2:0<=(l2.map (cnt T n o t)).sum:=Mk λx hx=>by obtain⟨y,_,rfl⟩:=R8.mp hx;exact Ua t y
   omega
variable {g:G5->G5->T9}
theorem Em: ∀ {t:G5} {w:G0 G5},w∈lev g n t-> ∀i x y,w[i]? =some x->w[i+1]? =some y->g x y=true
 |0,w,h=>λi x y e1 e2=>by
  obtain⟨z,_,rfl⟩:=R8.mp h;rw [L5 (by simp)] at e2;cases e2
 |t+1,w,h=>λi x y e1 e2=>by
  obtain⟨v,hv,hw⟩:=iJ.mp h;obtain⟨j,hj,rfl⟩:=R8.mp hw;have fj:=(M7.mp hj).2;unfold Tq at fj;rw [B7] at fj;rcases U9 (i+1) v.length with z|z
  ·rw [S4 (by omega)] at e1;rw [S4 z] at e2;exact Em hv i x y e1 e2
  ·have hi:i+1=v.length:=by
    have:=(P8.mp e2).1;rw [P2,E2] at this;omega
   rw [S4 (by omega)] at e1;rw [R4 (by omega),hi,fK] at e2;injection e2 with e2
   subst e2;have lx:v.getLastD 0=x:=by
    rw [J7,J8,show v.length-1=i by omega,e1];rfl
   rw [<-lx];exact fj.1
theorem MB {w:G0 G5}: ∀ {t:G5},w∈Xf g n t-> ∃s,s<t/\w∈lev g n s/\g (w.getLastD 0) (w.headD 0)=true
 |t+1,h=>by
  rcases R1.mp h with z|z
  ·obtain⟨s,a,b⟩:=MB z;exact⟨s,by omega,b⟩
  ·obtain⟨a,b⟩:=M7.mp z;exact⟨t,by omega,a,b⟩
section
variable {n e:G5}{T:G0 (G0 G8)}
theorem MC (h:Sq n e T)(hn:n<=8){w:G0 G5}(hw:w∈yq T n):1<=w.length/\w.length<=n/\(∀t,w.getD (t%w.length) 0<n)/\ ∀t,RP n T 1 (w.getD (t%w.length) 0) (w.getD ((t+1)%w.length) 0):=by
 obtain⟨s,hs,lv,back⟩:=MB ((yk _).mem_iff.mp hw);have o:=Um lv;have l1:1<=w.length:=by rw [o.len];omega
 refine⟨l1,by rw [o.len];omega,λt=> ?_,λt=> ?_⟩
 ·have:=V9 t l1;rw [D1,G2 this];exact o.lt _ (B3 this)
 ·have m1:=V9 t l1;have e1:w.getD (t%w.length) 0=w[t%w.length]:=by rw [D1,G2 m1];rfl
  rw [Jr h hn];rcases U9 (t%w.length+1) w.length with z|z
  ·have e2:(t+1)%w.length=t%w.length+1:=by rw [oX,W7 (show 1<w.length by omega),W7 z]
   have e3:w.getD ((t+1)%w.length) 0=w[t%w.length+1]:=by rw [e2,D1,G2 z];rfl
   rw [e1,e3];have:=N2 (Em lv (t%w.length) _ _ (G2 m1) (G2 z));omega
  ·have e2:(t+1)%w.length=0:=by
    rw [<-aS t w.length,show w.length*(t / w.length)+t%w.length+1=w.length*(t / w.length+1) by rw [eI];omega];exact nV _ _
   have la:w.getLastD 0=w[t%w.length]:=by
    rw [J7,J8,show w.length-1=t%w.length by omega,G2 m1];rfl
   have he:w.headD 0=w.getD 0 0:=by cases w<;>rfl
   rw [e1,e2,<-he,<-la];have:=N2 back;omega
theorem Al (h:Sq n e T)(hn:n<=8){w:G0 G5}(hw:w∈yq T n){p:G5}(hp:p∈w):RP n T w.length p p:=by
 obtain⟨l1,_,cl,st⟩:=MC h hn hw;obtain⟨i,hi,e⟩:=E1 hp;have:=CY h hn (c:=λt=>w.getD (t%w.length) 0) cl st i w.length;have e1:w.getD (i%w.length) 0=p:=by rw [W7 hi,D1,G2 hi,e];rfl
 have e2:w.getD ((i+w.length)%w.length) 0=p:=by rw [nW,e1]
 rw [e1,e2] at this;exact this
end
theorem FK {g:G5->G5->T9}{n:G5}: ∀ {t:G5} {w:G0 G5},w.length=t+1->(∀i∈w,i<n)->w.Nodup->(∀i∈w,w.headD 0<=i)->(∀i x y,w[i]? =some x->w[i+1]? =some y->g x y=true)->w∈lev g n t
 |0,w,hl,lt,_,_,_=>by
  obtain⟨a,rfl⟩:=i8.mp hl;exact R8.mpr ⟨a,P6.mpr (lt a (by simp)),rfl⟩
 |t+1,w,hl,lt,nd,low,go=>by
  obtain⟨v,j,rfl⟩: ∃v j,w=v++ [j]:=⟨w.dropLast,w.getLast (by intro z;rw [z] at hl;cases hl),(List.dropLast_concat_getLast _).symm⟩;have lv:v.length=t+1:=by rw [P2,E2] at hl;omega
  have hd:(v++ [j]).headD 0=v.headD 0:=by cases v with|nil=>cases lv|cons a r=>rfl
  have nv:=Y9.mp nd;have jn:j ∉ v:=λz=>nv.2.2 j z j (by simp) rfl
  have hh:v.headD 0∈v:=by cases v with|nil=>cases lv|cons a r=>exact R3 ..
  rw [hd] at low;have mv:=FK (g:=g) (n:=n) lv (λi hi=>lt i (C8 _ hi)) nv.1 (λi hi=>low i (C8 _ hi)) λi x y e1 e2=>go i x y (by rw [S4 (P8.mp e1).1];exact e1) (by rw [S4 (P8.mp e2).1];exact e2)
  refine iJ.mpr ⟨v,mv,R8.mpr ⟨j,M7.mpr ⟨P6.mpr (lt j (by simp)),?_⟩,rfl⟩⟩;have la:v[t]? =some (v.getLastD 0):=by rw [J7,J8,lv,Nat.add_sub_cancel,G2 (by omega)];rfl
  have g1:=go t _ j (by rw [S4 (by omega)];exact la) (by rw [R4 (by omega),lv,fK];rfl);have lj:=low j (by simp);have ne:v.headD 0≠j:=λz=>jn (z ▸ hh)
  unfold Tq;rw [g1,G9 (show v.headD 0<j by omega),D5 jn];rfl
theorem FL {s:G5}{w:G0 G5}(h:w∈lev g n s)(b:g (w.getLastD 0) (w.headD 0)=true): ∀t,s<t->w∈Xf g n t
 |t+1,ht=>by
  rcases U9 s t with z|z
  ·exact C8 _ (FL h b t z)
  ·have:t=s:=by omega
   subst this;exact R5 _ (M7.mpr ⟨h,b⟩)
theorem DO {w:G0 G5}(nd:w.Nodup)(lt: ∀i∈w,i<n):w.length<=n:=by
 have:=vh (ys:=G3 n) nd λx hx=>P6.mpr (lt x hx)
 rwa [P3] at this
section
variable {n e:G5}{T:G0 (G0 G8)}
theorem ND {w:G0 G5}(ne:w≠ [])(lt: ∀i∈w,i<n)(nd:w.Nodup)(low: ∀i∈w,w.headD 0<=i)(go: ∀i x y,w[i]? =some x->w[i+1]? =some y->ent T x y>0)(back:ent T (w.getLastD 0) (w.headD 0)>0):w∈yq T n:=by
 obtain⟨t,ht⟩: ∃t,w.length=t+1:=⟨w.length-1,by have:=List.length_pos_iff.mpr ne;omega⟩;have:=DO nd lt;exact(yk _).mem_iff.mpr (FL (FK (g:=Ji T) ht lt nd low λi x y e1 e2=>G9 (go i x y e1 e2)) (G9 back) n (by omega))
theorem FM (h:Sq n e T){i j:G5}(hi:i<n)(hj:j<n)(z:ent T i j≠0):ent T i j>0:=by have:=(h.ent_nn hi hj).1;omega
theorem NE (h:Sq n e T)(hn:n<=8){m:G5}(m1:1<=m){v:G5->G5}(vl: ∀t,v t<n)(per: ∀t,v (t+m)=v t)(inj: ∀a b,a<m->b<m->v a=v b->a=b)(st: ∀t,RP n T 1 (v t) (v (t+1))): ∃s,(G3 m).map (λt=>v (s+t))∈yq T n:=by
 obtain⟨s,hs⟩: ∃s,∀t,v s<=v t:=by
  have key: ∀k,∃s,∀t,t<k+1->v s<=v t:=λk=>by
   induction k with
   |zero=>exact⟨0,λt ht=>by rw [show t=0 by omega];exact P5 _⟩
   |succ k ih=>
    obtain⟨s,hs⟩:=ih;rcases U9 (v (k+1)) (v s) with z|z
    ·exact⟨k+1,λt ht=>by
      rcases U9 t (k+1) with y|y
      ·have:=hs t y;omega
      ·rw [show t=k+1 by omega];exact P5 _⟩
    ·exact⟨s,λt ht=>by
      rcases U9 t (k+1) with y|y
      ·exact hs t y
      ·rw [show t=k+1 by omega];exact z⟩
  obtain⟨s,hs⟩:=key m;have red: ∀t,v t=v (t%m):=λt=>by
   have: ∀q r,v (r+q*m)=v r:=λq r=>by
    induction q with
    |zero=>rw [nX,bQ]
    |succ q ih=>rw [fG,<-W5,per,ih]
   have e:=this (t / m) (t%m);rw [fH,pM] at e;exact e
  exact⟨s,λt=>by rw [red t];exact hs _ (by have:=V9 t m1;omega)⟩
 have red: ∀t,v t=v (t%m):=λt=>by
  have: ∀q r,v (r+q*m)=v r:=λq r=>by
   induction q with
   |zero=>rw [nX,bQ]
   |succ q ih=>rw [fG,<-W5,per,ih]
  have e:=this (t / m) (t%m);rw [fH,pM] at e;exact e
 have hd:((G3 m).map λt=>v (s+t)).headD 0=v s:=by
  obtain⟨k,rfl⟩: ∃k,m=k+1:=⟨m-1,by omega⟩;rw [Q0];rfl
 refine⟨s,ND ?_ (λi hi=>by obtain⟨t,_,rfl⟩:=R8.mp hi;exact vl _) ?_ (λi hi=>by obtain⟨t,_,rfl⟩:=R8.mp hi;rw [hd];exact hs _) (λi x y e1 e2=> ?_) ?_⟩
 ·intro z;have:=congrArg X9 z;rw [G1,P3] at this;simp at this;omega
 ·refine E5.mpr ((dN (n:=m)).imp_of_mem λ{a b} ha hb ne z=> ?_);have ha:=P6.mp ha;have hb:=P6.mp hb;have z:v (s+a)=v (s+b):=z;rw [red (s+a),red (s+b)] at z;have:=inj _ _ (V9 _ m1) (V9 _ m1) z;refine ne ?_;have d1:=aS (s+a) m;have d2:=aS (s+b) m;rcases nY ((s+a) / m) ((s+b) / m) with c|c|c
  ·have:=bW m (show (s+a) / m+1<=(s+b) / m from c);rw [eI] at this;omega
  ·rw [c] at d1;omega
  ·have:=bW m (show (s+b) / m+1<=(s+a) / m from c);rw [eI] at this;omega
 ·have h1:=(P8.mp e2).1;rw [G1,P3] at h1;rw [P9,C0 (by omega)] at e1 e2;injection e1 with e1
  injection e2 with e2
  subst e1;subst e2;exact FM h (vl _) (vl _) ((Jr h hn).mp (st (s+i)))
 ·have la:((G3 m).map λt=>v (s+t)).getLastD 0=v (s+(m-1)):=by
   rw [J7,J8,G1,P3,P9,C0 (by omega)];rfl
  rw [hd,la];have:=st (s+(m-1));rw [show s+(m-1)+1=s+m by omega,per] at this;exact FM h (vl _) (vl _) ((Jr h hn).mp this)
def vj (T:G0 (G0 G8))(n:G5):G5:=((yq T n).map X9).foldl bO 0
theorem FN {w:G0 G5}(hw:w∈yq T n):vj T n∣w.length:=((QB _ 0 (vj T n)).mp (nZ _)).2 _ (bT hw)
theorem wM (h:Sq n e T)(hn:n<=8): ∀ (m:G5) {p:G5},p<n->RP n T m p p->vj T n∣m:=by
 intro m
 induction m using G5.strongRecOn with
 |_ m ih=>
  intro p hp r;rcases aQ m with z|m1
  ·rw [z];exact Nat.dvd_zero _
  obtain⟨v,v0,vm,vl,vr⟩:=Mj h hn m hp hp r
  by_cases c: ∃a b,a<b/\b<m/\v a=v b
  ·obtain⟨a,b,ab,bm,e1⟩:=c;have r1:=vE h hn vl vr a (b-a) (by omega);rw [show a+(b-a)=b by omega,<-e1] at r1;have r2:=vE h hn vl vr 0 a (by omega);rw [U8,v0] at r2;have r3:=vE h hn vl vr b (m-b) (by omega);rw [show b+(m-b)=m by omega,vm,<-e1] at r3;have d1:=ih (b-a) (by omega) (vl a (by omega)) r1;have d2:=ih (a+(m-b)) (by omega) hp (zL h hn hp (vl a (by omega)) hp r2 r3);have:=Nat.dvd_add d1 d2
   rwa [show b-a+(a+(m-b))=m by omega] at this
  ·obtain⟨s,hs⟩:=NE h hn (T:=T) (n:=n) m1 (v:=λt=>v (t%m)) (λt=>vl _ (by have:=V9 t m1;omega)) (λt=>by show v ((t+m)%m)=_;rw [nW]) (λa b ha hb z=>by
    have z:v (a%m)=v (b%m):=z;rw [W7 ha,W7 hb] at z;rcases nY a b with y|y|y
    ·exact absurd ⟨a,b,y,hb,z⟩ c
    ·exact y
    ·exact absurd ⟨b,a,y,ha,z.symm⟩ c) (λt=>by
    show RP n T 1 (v (t%m)) (v ((t+1)%m));have lt:=V9 t m1;have:=vr (t%m) lt;rcases U9 (t%m+1) m with z|z
    ·rw [show (t+1)%m=t%m+1 by rw [oX,W7 (show 1<m by omega),W7 z]];exact this
    ·have e2:(t+1)%m=0:=by
      rw [<-aS t m,show m*(t / m)+t%m+1=m*(t / m+1) by rw [eI];omega];exact nV _ _
     rw [e2,v0,<-vm,show m=t%m+1 by omega];rw [show t%(t%m+1)=t%m by rw [show t%m+1=m by omega]];exact this)
   have:=FN hs
   rwa [G1,P3] at this
theorem uv (h:Sq n e T)(hn:n<=8){i j:G5}(hi:i<n)(w:wk T n i j=true):j<n/\ ∃k,RP n T k i j:=
 Wo (P:=λi j=>i<n->j<n/\ ∃k,RP n T k i j) (λi hi=>⟨hi,0,(zn hi hi).mpr rfl⟩) (λi j z hi=>⟨Fz h i j z,1,(Jr h hn).mpr z⟩) (λi k j a b hi=>by
  obtain⟨hk,k1,r1⟩:=a hi;obtain⟨hj,k2,r2⟩:=b hk;exact⟨hj,k1+k2,zL h hn hi hk hj r1 r2⟩) w hi
theorem Am (h:Sq n e T)(hn:n<=8): ∀ (k:G5) {i j:G5},i<n->j<n->RP n T k i j->wk T n i j=true
 |0,i,j,hi,hj,r=>by rw [(zn hi hj).mp r];exact WQ T n j
 |k+1,i,j,hi,hj,r=>by
  obtain⟨x,hx,a,b⟩:=(wq h hn k 1 hi hj).mp r;exact ye hx (Am h hn k hi hx a) (QF ((Jr h hn).mp b) n)
theorem yV (h:Sq n e T)(hn:n<=8)(one:(Zm T n).length=1){i j:G5}(hi:i<n)(hj:j<n): ∃k,RP n T k i j:=by
 obtain⟨S,e1⟩:=i8.mp one;have a:pcS T n i∈Zm T n:=mem_pcs.mpr ⟨i,hi,rfl⟩;have b:pcS T n j∈Zm T n:=mem_pcs.mpr ⟨j,hj,rfl⟩;rw [e1] at a b;have:j∈pcS T n i:=by rw [P1.mp a,<-P1.mp b];exact FH hj
 exact(uv h hn hi (mem_pc.mp this).2.1).2
theorem FO (h:Sq n e T)(hn:n<=8)(n1:1<=n)(all: ∀i j,i<n->j<n-> ∃k,RP n T k i j):(Zm T n).length=1:=by
 have same: ∀p,p<n->pcS T n p=G3 n:=λp hp=>e9.mpr λj hj=>by
  have hj:=P6.mp hj;obtain⟨k,r⟩:=all p j hp hj;obtain⟨k',r'⟩:=all j p hj hp;rw [Am h hn k hp hj r,Am h hn k' hj hp r'];rfl
 have hd:(G3 n).headD 0=0:=by
  obtain⟨k,rfl⟩: ∃k,n=k+1:=⟨n-1,by omega⟩;rw [Q0];rfl
 unfold Zm;rw [G1];have e1:((G3 n).filter λp=>decide ((pcS T n p).headD 0=p))= [0]:=by
  have:((G3 n).filter λp=>decide ((pcS T n p).headD 0=p))=(G3 n).filter λp=>decide (p=0):=gS λp hp=>by
   rw [same p (P6.mp hp),hd];exact decide_eq_decide.mpr ⟨Eq.symm,Eq.symm⟩
  rw [this];obtain⟨k,rfl⟩: ∃k,n=k+1:=⟨n-1,by omega⟩;rw [Q0,K7 (by decide),List.filter_map,i9.mpr (by intro a _;simp),U7]
 rw [e1];rfl
theorem An (h:Sq n e T)(hn:n<=8)(one:(Zm T n).length=1){a b i j:G5}(hi:i<n)(hj:j<n)(n1:1<=n)(ra:RP n T a 0 i)(rb:RP n T b 0 j)(ar:ent T i j≠0){d:G5}(hd:d∣vj T n):b%d=(a+1)%d:=by
 obtain⟨k,rk⟩:=yV h hn one hj (show 0<n by omega);have z:0<n:=by omega
 have c1:=sI hd (wM h hn _ z (zL h hn z hj z (zL h hn z hi hj ra ((Jr h hn).mpr ar)) rk));have c2:=sI hd (wM h hn _ z (zL h hn z hj z rb rk));obtain⟨x,hx⟩:=c1;obtain⟨y,hy⟩:=c2;rcases n5 x y with w|w
 ·have:b=a+1+d*(y-x):=by
   have:=bW d w;rw [v6];omega
  rw [this,gL]
 ·have:a+1=b+d*(x-y):=by
   have:=bW d w;rw [v6];omega
  rw [this,gL]
end
end L2
namespace L2
open PySem PySem.Spec PyProof.Rows
def jbr (td ty tx:TED):TED:=λσ h Q=>td σ h λx h1=> ∃a kv0,x= .dct a/\h1.dc a=some (.ik kv0)/\ty σ h1 λy h2=>tx σ h2 λz h3=> ∃k kv,y= .int k/\h3.dc a=some (.ik kv)/\kv.length<1000/\
 (∀d,Zn kv k=some d->Q d h3)/\(Zn kv k=none->Q z (AT h3 a (.ik (Bg kv k z))))
theorem jbs {X:Cx}{n:G5}{o e f:T1}{td ty tx:TED}{apos cpos:Pos}(hr:Room n X.A)(ho:JE X o td)(he:JE X e ty)(hf:JE X f tx)(m:M2 X o "setdefault" apos e f cpos:=by exact⟨rfl,rfl,rfl,rfl⟩):JE X (.Call (.Attribute o "setdefault" apos) [e,f] [] cpos) (jbr td ty tx):=⟨λpins s σ H Q I ⟨σd,h,Qd,rs,rh,t,post⟩=>by
 have hw:LE X.K td σ H λx H1=> ∃a,x= .ref a/\IsD H1 a/\LE X.K ty σ H1 λy H2=>LE X.K tx σ H2 λz H3=> ∃k kvs,y= .int k/\H3 a=some (.dK (kvV kvs))/\kvs.length<1000/\(∀v,Xa (kvV kvs) (O4 k)=some v->Q v H3)/\(Xa (kvV kvs) (O4 k)=none->Q z (upd H3 a (.dK (RU (kvV kvs) (O4 k) z)))):=
  LE.bind rs rh t λd v h1 H1 k1 rs1 rh1 r1 ⟨a,kv0,e1,z1,t1⟩=>by
   subst e1;cases (show v= .ref a from r1);obtain⟨kvs0,hH0,_⟩:=(show ∃kvs:G0 (G8×V),_ from rh1.dc a _ z1);refine⟨a,rfl,.inl ⟨_,.inl hH0⟩,LE.bind rs1 rh1 t1 λd2 v2 h2 H2 k2 rs2 rh2 r2 t2=>LE.bind rs2 rh2 t2 λd3 v3 h3 H3 k3 rs3 rh3 r3 ⟨x,kv,e2,e,hl,q1,q2⟩=> ?_⟩;subst e2;cases (show v2= .int x from r2);obtain⟨kvs,hH,ek,rv⟩:=(show ∃kvs:G0 (G8×V),_ from rh3.dc a _ e);have ll:kvs.length=kv.length:=by have:=congrArg X9 ek;simpa using this.symm
   refine⟨x,kvs,rfl,hH,by omega,λu hu=> ?_,λhn=> ?_⟩
   ·cases g:Zn kv x with
    |none=>rw [(Zf ek rv).2 g] at hu;cases hu
    |some d=>obtain⟨u',hu',ru⟩:=(Zf ek rv).1 d g;rw [hu] at hu';cases hu';exact post d u _ _ (k1.trans (k2.trans k3)) rh3 ru (q1 d g)
   ·cases g:Zn kv x with
    |some d=>obtain⟨u',hu',ru⟩:=(Zf ek rv).1 d g;rw [hn] at hu';cases hu'
    |none=>
     obtain⟨kvs',p1,p2,p3⟩:=Ak (k:=x) ek rv r3;have ob:DObj (.dK (kvV kvs)):= .inl ⟨kvs,rfl⟩;refine post d3 v3 _ _ (k1.trans (k2.trans (k3.trans (.putD hH ob)))) (rh3.putC (c:= .ik (Bg kv x d3)) hH ob ⟨kvs',?_,p2,p3.mono (.putD hH ob)⟩) (r3.mono (.putD hH ob)) (q2 g);rw [jw];exact congrArg (λz=>some (HO.dK z)) p1
 refine wpAny_Call_method m.base m.few m.line sO eT pN (thn (ho.to pins s σ H _ I hw) λu s1 ⟨x,H1,I1,rx,a,ex,d,q1⟩=> ?_);subst ex;obtain rfl:u=X5 a:=rx;obtain⟨t1,t2,_⟩:=Kc I1 d;refine⟨t1,t2,?_⟩;rw [m.trees];refine cW rfl (dX (fP (thn (he.to pins s1 σ H1 _ I1 q1) λiv s2 ⟨y,H2,I2,ry,q2⟩=>
  fP (thn (hf.to pins s2 σ H2 _ I2 q2) λfv s3 ⟨z,H3,I3,rz,k,kvs,ey,ea,hl,c1,c2⟩=>nC ?_))))
 subst ey;obtain⟨zl,hd,vs,rel,dd⟩:=Kb I3.hok ea;have l2:(kvV kvs).length<sizeLine:=N6 (show (kvV kvs).length<1000 by unfold kvV;rw [G1];exact hl) (by decide);refine call_meetsIn eT dd.typeIs oY (oR _ _ _) (kt_meets_setdefault (zU X.prog X.w) a (LW (k:=O4 k) ry) hd fv) ⟨vs,dd,by rw [<-rel.length];exact zl,λv hv=> ?_,λhn h' dd' hs=> ?_⟩
 ·have rv:=rel.val (O4 k);rw [hv] at rv;cases g:Xa (kvV kvs) (O4 k) with
  |none=>rw [g] at rv;exact absurd rv (by intro z;cases z)
  |some v0=>rw [g] at rv;exact⟨v0,H3,I3.tok _,rv,c1 v0 g⟩
 ·have rv:=rel.val (O4 k);rw [hn] at rv;have g:Xa (kvV kvs) (O4 k)=none:=by
   cases g:Xa (kvV kvs) (O4 k) with
   |none=>rfl
   |some v0=>rw [g] at rv;exact absurd rv (by intro z;cases z)
  have he: ∃q,h'.get? a=some q:=let ⟨q,_,_,hq,_⟩:=dd';⟨q,hq⟩;have hl':(RU (kvV kvs) (O4 k) z).length<=sizeLine:=by have:=Vx (kvV kvs) (O4 k) z;omega
  exact⟨z,_,BG I3 (by rw [ea];exact Z7) hs he (AR hl' hd (rel.put (O4 k) rz) dd'),rz,c2 g⟩⟩
variable {kv:G0 (G8×D)}{x:G8}
theorem MD {d:D}(h:Zn kv x=some d):(x,d)∈kv:=by
 unfold Zn at h;obtain⟨p,e,rfl⟩:=K9.mp h;have e0:=List.find?_some e;have e1:p.1=x:=N2 e0;rw [<-e1];exact List.mem_of_find?_eq_some e
theorem ME (h:x∈kv.map (·.1)):(Zn kv x).isSome=true:=by
 obtain⟨p,hp,rfl⟩:=R8.mp h;unfold Zn;rw [Option.isSome_map,List.find?_isSome];exact⟨p,hp,G9 rfl⟩
theorem Ao (h:Zn kv x=none):x ∉ kv.map (·.1):=λz=>by
 have:=ME z;rw [h] at this;cases this
theorem Vo {d:D}(h:Zn kv x=none):Bg kv x d=kv++ [(x,d)]:=by unfold Bg;rw [h];rfl
theorem Vp {d:D}(h:Zn kv x=none)(y:G8):y∈(Bg kv x d).map (·.1)↔y∈kv.map (·.1)\/y=x:=by
 rw [Vo h,S8,R1,M1,U7,P1]
section
variable {n e:G5}{T:G0 (G0 G8)}
theorem MF (h:Sq n e T)(hn:n<=8){p:G5}(hp:p<n): ∀ (m j:G5),j∈itF (jE n T) [p] m↔j<n/\RP n T m p j
 |0,j=>by
  show j∈ [p]↔_;rw [P1];exact⟨λe=>⟨e ▸ hp,(zn hp (e ▸ hp)).mpr e.symm⟩,λ⟨hj,r⟩=>((zn hp hj).mp r).symm⟩
 |m+1,j=>by
  show j∈jE n T (itF (jE n T) [p] m)↔_;unfold jE;rw [M7,P6,U4];constructor
  ·rintro ⟨hj,i,hi,r⟩;obtain⟨hi,ri⟩:=(MF h hn hp m i).mp hi;exact⟨hj,(wq h hn m 1 hp hj).mpr ⟨i,hi,ri,(Jr h hn).mpr (N2 r)⟩⟩
  ·rintro ⟨hj,r⟩;obtain⟨i,hi,a,b⟩:=(wq h hn m 1 hp hj).mp r;exact⟨hj,i,(MF h hn hp m i).mpr ⟨hi,a⟩,G9 ((Jr h hn).mp b)⟩
structure FI (n:G5)(T:G0 (G0 G8))(s b:G5)(kv:G0 (G8×D)):Prop where
 nd:(kv.map (·.1)).Nodup
 ok: ∀p∈kv,∃j v:G5,p=((j:G8),.int (v:G8))/\j<n/\v<=b/\RP n T v 0 j
 all: ∀j v,j<n->v<=s->RP n T v 0 j->(j:G8)∈kv.map (·.1)
 zero:Zn kv 0=some (.int 0)
theorem FI.first (n1:1<=n):FI n T 0 0 [(0,.int 0)]:=⟨by simp,λp hp=>by rw [P1.mp hp];exact⟨0,0,rfl,by omega,P5 _,(zn (by omega) (by omega)).mpr rfl⟩,λj v hj hv r=>by
 rw [show v=0 by omega] at r;rw [<- (zn (by omega) hj).mp r];simp,rfl⟩
variable {s b:G5}{kv:G0 (G8×D)}
theorem FI.len (g:FI n T s b kv):kv.length<=n:=by
 have:=vh (ys:=(G3 n).map λ(i:G5)=>(i:G8)) g.nd λx hx=>by
  obtain⟨p,hp,rfl⟩:=R8.mp hx;obtain⟨j,v,rfl,hj,_⟩:=g.ok p hp;exact R8.mpr ⟨j,P6.mpr hj,rfl⟩
 rw [G1,G1,P3] at this;exact this
theorem FI.full (g:FI n T s b kv)(hl:n<=kv.length){j:G5}(hj:j<n):(j:G8)∈kv.map (·.1):=by
 rcases n8 ((j:G8)∈kv.map (·.1)) with z|z
 ·exact z
 ·have:=vh (ys:=((G3 n).erase j).map λ(i:G5)=>(i:G8)) g.nd λx hx=>by
   obtain⟨p,hp,rfl⟩:=R8.mp hx;obtain⟨i,v,rfl,hi,_⟩:=g.ok p hp;exact R8.mpr ⟨i,(dY (λw=>by subst w;exact z hx)).mpr (P6.mpr hi),rfl⟩
  rw [G1,G1,b8 (P6.mpr hj),P3] at this;omega
theorem FI.get (g:FI n T s b kv){j:G5}(h:(j:G8)∈kv.map (·.1)): ∃v:G5,Zn kv (j:G8)=some (.int (v:G8))/\v<=b/\RP n T v 0 j:=by
 obtain⟨d,hd⟩:=Z8.mp (ME h);obtain⟨i,v,e1,hi,hv,r⟩:=g.ok _ (MD hd);injection e1 with e1 e2
 have:j=i:=by omega
 subst this;subst e2;exact⟨v,hd,hv,r⟩
theorem FI.put (g:FI n T s b kv){j v:G5}(h:Zn kv (j:G8)=none)(hj:j<n)(hv:v<=b)(r:RP n T v 0 j):FI n T s b (Bg kv (j:G8) (.int (v:G8))):=by
 refine⟨?_,λp hp=> ?_,λi w hi hw rw_=>(Vp h _).mpr (.inl (g.all i w hi hw rw_)),?_⟩
 ·rw [Vo h,S8,Y9];refine⟨g.nd,by simp,λa ha c hc e1=> ?_⟩;have:c=(j:G8):=by simpa using hc
  subst this;subst e1;exact Ao h ha
 ·rw [Vo h] at hp;rcases R1.mp hp with z|z
  ·exact g.ok p z
  ·rw [P1.mp z];exact⟨j,v,rfl,hj,hv,r⟩
 ·have:=g.zero;rw [Vo h];unfold Zn at this ⊢;rw [List.find?_append];cases q:kv.find? λp=>decide (p.1=0) with
  |none=>rw [q] at this;cases this
  |some p=>rw [q] at this;exact this
theorem FI.grow (h:Sq n e T)(hn:n<=8)(n1:1<=n)(one:(Zm T n).length=1){s:G5}{kv:G0 (G8×D)}(g:FI n T s s kv)(hl:kv.length<n): ∃v,v<n/\RP n T (s+1) 0 v/\(v:G8) ∉ kv.map (·.1):=by
 obtain⟨j,hj,jn⟩: ∃j,j<n/\(j:G8) ∉ kv.map (·.1):=by
  rcases n8 (∃j,j<n/\(j:G8) ∉ kv.map (·.1)) with z|z
  ·exact z
  ·have:=vh (xs:=(G3 n).map λ(i:G5)=>(i:G8)) (ys:=kv.map (·.1)) (E5.mpr ((dN (n:=n)).imp λ{a b} ne w=>ne (by omega))) λx hx=>by
    obtain⟨i,hi,rfl⟩:=R8.mp hx;exact J6 λw=>z ⟨i,P6.mp hi,w⟩
   rw [G1,P3,G1] at this;omega
 have key: ∀k j,j<n->(j:G8) ∉ kv.map (·.1)->RP n T k 0 j-> ∃v,v<n/\RP n T (s+1) 0 v/\(v:G8) ∉ kv.map (·.1):=λk=>by
  induction k with
  |zero=>exact λj hj jn r=>absurd (g.all j 0 hj (N4 _) r) jn
  |succ k ih=>
   intro j hj jn r;obtain⟨u,hu,a,b⟩:=(wq h hn k 1 (by omega) hj).mp r;rcases n8 ((u:G8)∈kv.map (·.1)) with z|z
   ·obtain⟨v,_,hv,rv⟩:=g.get z;have r2:=zL h hn (by omega) hu hj rv b;rcases U9 v s with y|y
    ·exact absurd (g.all j (v+1) hj (by omega) r2) jn
    ·exact⟨j,hj,by rw [show s+1=v+1 by omega];exact r2,jn⟩
   ·exact ih u hu z a
 obtain⟨k,r⟩:=yV h hn one (show 0<n by omega) hj;exact key k j hj jn r
end
theorem QH {n i:G5}(hi:i<n):IsS n [i]:=by
 refine⟨λj=>decide (j=i),?_⟩
 induction n with
 |zero=>omega
 |succ n ih=>
  rw [F7,A4]
  by_cases z:i<n
  ·rw [<-ih z];have: ¬n=i:=by omega
   simp [this]
  ·have e:i=n:=by omega
   subst e;have:(G3 i).filter (λj=>decide (j=i))= []:=i9.mpr λj hj=>by have:=P6.mp hj;simp;omega
   rw [this];simp
end L2
namespace L2
section
variable {n e:G5}{T U:G0 (G0 G8)}
theorem MG (h:Sq n e T)(hn:n<=8){k i j:G5}(hi:i<n)(hj:j<n):RP n (YM n T) k i j↔RP n T k j i:=by
 unfold RP;rw [<-Md h hn,Wf hi hj]
theorem FP (h:Sq n e T){o:G0 G5}(ho:Ordr n o)(hn:n<=8){k i j:G5}(hi:i<n)(hj:j<n):RP n (DE n o T) k i j↔RP n T k (o.idxOf i) (o.idxOf j):=by
 unfold RP;rw [<-Cu h ho hn,VR hi hj]
theorem En {o:G0 G5}(ho:Ordr n o){i:G5}(hi:i<n):o.idxOf i<n/\o.getD (o.idxOf i) 0=i:=by
 have hm:i∈o:=ho.mem_iff.mpr (P6.mpr hi);have hl:o.length=n:=by have:=ho.length_eq;rwa [P3] at this
 have:=A9.mpr hm;refine⟨by omega,?_⟩;rw [D1,G2 this,K4 this];rfl
theorem XL {o:G0 G5}(ho:Ordr n o){i:G5}(hi:i<n):o.getD i 0<n/\o.idxOf (o.getD i 0)=i:=by
 have hl:o.length=n:=by have:=ho.length_eq;rwa [P3] at this
 have e1:o.getD i 0=o[i]'(by omega):=by rw [D1,G2 (show i<o.length by omega)];rfl
 have nd:o.Nodup:=ho.nodup_iff.mpr dN;have lt:=P6.mp (ho.mem_iff.mp (B3 (show i<o.length by omega)));rw [e1];exact⟨lt,nd.idxOf_getElem i (by omega)⟩
end
end L2
set_option maxRecDepth 35000
namespace L2
section
variable {n e:G5}{T:G0 (G0 G8)}
def Df (n:G5)(T:G0 (G0 G8))(x d:G5):Prop:= ∃q,RP n T q x x/\RP n T (q+d) x x
theorem Eo (h:Sq n e T)(hn:n<=8){x a b:G5}(hx:x<n)(da:Df n T x a)(db:Df n T x b)(l:b<=a):Df n T x (a-b):=by
 obtain⟨q,a1,a2⟩:=da;obtain⟨r,b1,b2⟩:=db;refine⟨q+(r+b),zL h hn hx hx hx a1 b2,?_⟩;rw [show q+(r+b)+(a-b)=q+a+r by omega];exact zL h hn hx hx hx a2 b1
theorem FQ (h:Sq n e T)(hn:n<=8){x:G5}(hx:x<n): ∀ (m:G5) {a b:G5},a+b<=m->Df n T x a->Df n T x b->Df n T x (bO a b)
 |0,a,b,l,da,db=>by
  have:a=0:=by omega
  subst this;rw [n9];exact db
 |m+1,a,b,l,da,db=>by
  rcases aQ a with z|pa
  ·subst z;rw [n9];exact db
  rcases aQ b with z|pb
  ·subst z;rw [m5];exact da
  rcases n5 b a with c|c
  ·have:=FQ h hn hx m (a:=a-b) (b:=b) (by omega) (Eo h hn hx da db c) db
   rwa [Nat.gcd_sub_self_left c] at this
  ·have:=FQ h hn hx m (a:=a) (b:=b-a) (by omega) da (Eo h hn hx db da c)
   rwa [Nat.gcd_sub_self_right c] at this
theorem FR (h:Sq n e T)(hn:n<=8){x:G5}(hx:x<n): ∀ (L:G0 G5) (g:G5),Df n T x g->(∀l∈L,Df n T x l)->Df n T x (L.foldl bO g)
 | [],_,dg,_=>dg
 |l::L,g,dg,dl=>FR h hn hx L (bO g l) (FQ h hn hx _ (P5 _) dg (dl l R3)) λk hk=>dl k (S3 _ hk)
theorem Ty (h:Sq n e T)(hn:n<=8)(one:(Zm T n).length=1){x:G5}(hx:x<n):Df n T x (vj T n):=by
 have z0:RP n T 0 x x:=(zn hx hx).mpr rfl;refine FR h hn hx _ 0 ⟨0,z0,z0⟩ λl hl=> ?_
 obtain⟨w,hw,rfl⟩:=R8.mp hl;obtain⟨w1,_,wl,_⟩:=MC h hn hw;have hm:w.getD 0 0∈w:=by
  cases w with
  |nil=>simp at w1
  |cons a r=>exact R3
 have hy:w.getD 0 0<n:=by have:=wl 0;rwa [i6] at this
 obtain⟨a,ra⟩:=yV h hn one hx hy;obtain⟨b,rb⟩:=yV h hn one hy hx;refine⟨a+b,zL h hn hx hy hx ra rb,?_⟩;rw [show a+b+w.length=a+w.length+b by omega];exact zL h hn hx hy hx (zL h hn hx hy hy ra (Al h hn hw hm)) rb
theorem Ap (h:Sq n e T)(hn:n<=8)(one:(Zm T n).length=1){x:G5}(hx:x<n): ∃B,∀m,B<=m->vj T n∣m->RP n T m x x:=by
 obtain⟨q,r1,r2⟩:=Ty h hn one hx;obtain⟨c,hc⟩:=wM h hn q hx r1;refine⟨vj T n*(c*c),λm hm ⟨t,ht⟩=> ?_⟩;rcases aQ (vj T n) with z|d0
 ·rw [z,nX] at ht;rw [ht];exact(zn hx hx).mpr rfl
 have tc:c*c<=t:=Nat.le_of_mul_le_mul_left (by rw [<-ht];exact hm) d0;rcases aQ c with z|c0
 ·rw [z,nP] at hc;subst hc;rw [U8] at r2;rw [ht];exact DK h hn hx r2 t
 have e1:=aS t c;have e2:=V9 t c0;have e3:c<=t / c:=(Nat.le_div_iff_mul_le c0).mpr tc;have:m=q*(t / c-t%c)+(q+vj T n)*(t%c):=by
  rw [Nat.add_mul];have:q*(t / c-t%c)+q*(t%c)=q*(t / c):=by rw [<-eI];congr 1;omega
  rw [<-W5,this,ht,hc,Nat.mul_assoc,<-eI,e1]
 rw [this];exact zL h hn hx hx hx (DK h hn hx r1 _) (DK h hn hx r2 _)
theorem WR {P:G5->G5->Prop}(up: ∀i a b,a<=b->P i a->P i b): ∀n,(∀i,i<n-> ∃B,P i B)-> ∃B,∀i,i<n->P i B
 |0,_=>⟨0,λi hi=>by omega⟩
 |n+1,g=>by
  obtain⟨B,hB⟩:=WR up n λi hi=>g i (by omega)
  obtain⟨C,hC⟩:=g n (by omega);refine⟨B+C,λi hi=> ?_⟩;rcases U9 i n with c|c
  ·exact up i B _ (by omega) (hB i c)
  ·have:i=n:=by omega
   subst this;exact up i C _ (by omega) hC
theorem Tz {a l b d:G5}(h1:d∣a+b)(h2:d∣l+b):a%d=l%d:=by
 have key: ∀a l:G5,a<=l->d∣a+b->d∣l+b->a%d=l%d:=λa l c h1 h2=>by
  obtain⟨t,rfl⟩:=Nat.exists_eq_add_of_le c;have:d∣t:=(gU h1).mp (by rw [show a+b+t=a+t+b by omega];exact h2);rw [oX,Nat.mod_eq_zero_of_dvd this,bQ,Nat.mod_mod]
 rcases n5 a l with c|c
 ·exact key a l c h1 h2
 ·exact(key l a c h2 h1).symm
theorem Aq (h:Sq n e T)(hn:n<=8)(one:(Zm T n).length=1): ∃B,∀i,i<n-> ∀j,j<n-> ∀k l,B<=k->RP n T l i j->l%vj T n=k%vj T n->RP n T k i j:=by
 refine WR (P:=λi B=> ∀j,j<n-> ∀k l,B<=k->RP n T l i j->l%vj T n=k%vj T n->RP n T k i j) (λi a b ab g j hj k l hk=>g j hj k l (by omega)) n λi hi=> ?_
 refine WR (P:=λj B=> ∀k l,B<=k->RP n T l i j->l%vj T n=k%vj T n->RP n T k i j) (λj a b ab g k l hk=>g k l (by omega)) n λj hj=> ?_
 obtain⟨B,hB⟩:=Ap h hn one hi;obtain⟨a,ra⟩:=yV h hn one hi hj;obtain⟨b,rb⟩:=yV h hn one hj hi;refine⟨B+a,λk l hk rl el=> ?_⟩;have d1:=wM h hn _ hi (zL h hn hi hj hi rl rb);have d2:=wM h hn _ hi (zL h hn hi hj hi ra rb);have ea:a%vj T n=k%vj T n:=by
  rw [<-el];exact Tz d2 d1
 have:=zL h hn hi hi hj (hB (k-a) (by omega) ((Nat.dvd_iff_mod_eq_zero ..).mpr (Nat.sub_mod_eq_zero_of_mod_eq ea.symm))) ra
 rwa [show k-a+a=k by omega] at this
theorem DP (h:Sq n e T)(hn:n<=8)(one:(Zm T n).length=1)(d1:vj T n=1): ∃B,∀k,B<=k-> ∀i j,i<n->j<n->RP n T k i j:=by
 obtain⟨B,hB⟩:=Aq h hn one;refine⟨B,λk hk i j hi hj=> ?_⟩;obtain⟨l,r⟩:=yV h hn one hi hj;exact hB i hi j hj k l hk r (by rw [d1,v7,v7])
theorem DQ (h:Sq n e T)(hn:n<=8)(n1:1<=n){K:G5}(all: ∀m,K<=m-> ∀i j,i<n->j<n->RP n T m i j):(Zm T n).length=1/\vj T n=1:=by
 refine⟨FO h hn n1 λi j hi hj=>⟨K,all K (P5 _) i j hi hj⟩,?_⟩;have a:=wM h hn _ (show 0<n by omega) (all K (P5 _) 0 0 (by omega) (by omega));have b:=wM h hn _ (show 0<n by omega) (all (K+1) (by omega) 0 0 (by omega) (by omega));exact Nat.dvd_one.mp ((gU a).mp b)
end
end L2
namespace L2
open PySem PySem.Spec PyProof.Rows
section
variable {X:Cx}{k i:G5}{ps N Pn:G0 Str}{spd:RDn}{x:Str}{p pos pos':Pos}{e e2 e3 e4 iter elt:T1}{es ifs:G0 T1}{t:TAD}{te te2 te3 te4:TED}{ti:TID}{tt:TTD}{scope sc:U5}{c:T1}
theorem jk (C:je X.prog X.w X.K X.mg X.base k x ps spd)(hr:Room k X.A)(ha:JA X (e::es) t)(hg:Gl X x:=by rfl)(hdb:(x==("__debug__" :Str))=false:=by decide)(he:D6 (e::es) X.env=(false,O5 e X.env)::D6 es X.env:=by rfl)(hpl:(E7 pos (D6 es X.env)).any (·.1)=false:=by rfl):JE X (.Call (.Name x p) (e::es) [] pos) (dCB spd t):=by
 obtain⟨g,gd,F,hb,hk,hm⟩:=C;exact qj F hr hg hm hk hb ha hdb he hpl
theorem j1 (a:JE X e te)(h:zV e=true:=by rfl):JA X [e] (zg te Zx):=jac a Yo h
theorem j2 (a:JE X e te)(b:JE X e2 te2)(h:zV e=true:=by rfl)(h2:zV e2=true:=by rfl):JA X [e,e2] (zg te (zg te2 Zx)):=jac a (j1 b h2) h
theorem j3 (a:JE X e te)(b:JE X e2 te2)(c:JE X e3 te3)(h:zV e=true:=by rfl)(h2:zV e2=true:=by rfl)(h3:zV e3=true:=by rfl):JA X [e,e2,e3] (zg te (zg te2 (zg te3 Zx))):=jac a (j2 b c h2 h3) h
theorem j4 (a:JE X e te)(b:JE X e2 te2)(c:JE X e3 te3)(d:JE X e4 te4)(h:zV e=true:=by rfl)(h2:zV e2=true:=by rfl)(h3:zV e3=true:=by rfl)(h4:zV e4=true:=by rfl):JA X [e,e2,e3,e4] (zg te (zg te2 (zg te3 (zg te4 Zx)))):=jac a (j3 b c d h2 h3 h4) h
theorem yD (Z:Zs X.mg)(a:JE X e te)(hg:Gl X "len" :=by rfl)(h:zV e=true:=by rfl)(he:D6 [e] X.env=(false,O5 e X.env)::D6 [] X.env:=by rfl)(hpl:(E7 pos (D6 [] X.env)).any (·.1)=false:=by rfl):JE X (.Call (.Name "len" p) [e] [] pos) (dCB Ha (zg te Zx)):=zB KK hg Z.len rL (j1 a h) (by decide) (by decide) he hpl
theorem jse (i:G5)(S:FnScope X.N Pn sc)(he:JE X e te)(hi:X.N[i]? =some x:=by rfl)(hx:Loc X.env.scope x:=by first|exact F8 rfl|exact J9 rfl)(hs:aD e (some (.Name x pos')) pos.line X.env=pure false:=by rfl)(hf:X.fn x=true\/X.env.scope.names.lookup x=some .local:=by first|exact .inl rfl|exact .inr rfl|assumption):JS X (.Assign [.Name x pos'] e pos) (Lu i te):=jbc S.nd hi hx he hs hf
theorem jgn (i:G5)(S:FnScope X.N Pn sc)(hi:X.N[i]? =some x:=by rfl)(hx:Loc X.env.scope x:=by first|exact F8 rfl|exact J9 rfl)(hf:X.fn x=true\/X.env.scope.names.lookup x=some .local:=by first|exact .inl rfl|exact .inr rfl|assumption):JG X (.Name x pos) (gN i):=SF S.nd hi hx hf
theorem jl1 (i:G5)(S:FnScope X.N Pn sc)(hi:JI X (.Name x p) iter ti)(ht: ∀C s₀ H₀ ex,JT (Zw X scope C s₀ H₀ ex) c tt)(he: ∀C s₀ H₀ ex,JE (Zw X scope C s₀ H₀ ex) elt te)(hc:X.calm=true:=by rfl)(hB:RX X.N X.env.scope.names scope [i]=true:=by rfl)(hx:X.N[i]? =some x:=by rfl)(hl:scope.names.lookup x=some .local\/scope.names.lookup x=some .cell:=by first|exact F8 rfl|exact J9 rfl)(hs: ∀x,S9 iter X.env x=pure x:=by intro _;rfl):JE X (.ListComp elt [⟨.Name x p,iter,[c],0⟩] scope pos) (vU (bN i) [i] ti tt te):=
 jlc hc (jL hB) hi (P1.mpr rfl) S.nd hx hl (λX' hX=>by obtain⟨C,s₀,H₀,ex,rfl⟩:=hX;exact Qp (ht C s₀ H₀ ex)) (λX' hX=>by obtain⟨C,s₀,H₀,ex,rfl⟩:=hX;exact he C s₀ H₀ ex) hs
theorem jl0 (i:G5)(S:FnScope X.N Pn sc)(hi:JI X (.Name x p) iter ti)(he: ∀C s₀ H₀ ex,JE (Zw X scope C s₀ H₀ ex) elt te)(hc:X.calm=true:=by rfl)(hB:RX X.N X.env.scope.names scope [i]=true:=by rfl)(hx:X.N[i]? =some x:=by rfl)(hl:scope.names.lookup x=some .local\/scope.names.lookup x=some .cell:=by first|exact F8 rfl|exact J9 rfl)(hs: ∀x,S9 iter X.env x=pure x:=by intro _;rfl):JE X (.ListComp elt [⟨.Name x p,iter,[],0⟩] scope pos) (vU (bN i) [i] ti vT te):=
 jlc hc (jL hB) hi (P1.mpr rfl) S.nd hx hl (λX' hX=>wm) (λX' hX=>by obtain⟨C,s₀,H₀,ex,rfl⟩:=hX;exact he C s₀ H₀ ex) hs
theorem fsc {N P:G0 Str}(a:sc.kind= .function:=by rfl)(b:sc.isCoroutine=false:=by rfl)(c:sc.isGenerator=false:=by rfl)(d:N.Nodup:=by decide +kernel)(e:N.take P.length=P:=by rfl)(f: ∀x∈P,sc.names.lookup x=some .local\/sc.names.lookup x=some .cell:=by decide +kernel)(g: ∀y∈sc.names,y.2≠ .free:=by decide +kernel):FnScope N P sc:=⟨a,b,c,d,e,f,g⟩
theorem jc1 {op:gQ}{f:RD2}(ho:OpQ X (N9 op) f)(ha:JE X e te)(hb:JE X e2 te2)(hm:U6 op e2=false:=by exact AO _):JE X (.Compare e [op] [e2] pos) (dOp f te te2):=ki ho ha hb hm
theorem jt1 {op:gQ}{f:RD2}(ho:OpQ X (N9 op) f)(ha:JE X e te)(hb:JE X e2 te2)(hm:U6 op e2=false:=by exact AO _):JT X (.Compare e [op] [e2] pos) (YJ (dOp f te te2)):=Ck ho ha hb hm
theorem ji1 (ha:JE X e te)(hb:JE X e2 te2)(hs:XY e2:=by exact λ_ _=>rfl):JE X (.Subscript e e2 pos) (dOp ixD te te2):=jix ha hb hs
theorem jrg {tg:T1}(Z:Zs X.mg)(ha:JE X e te)(hg:Gl X "range" :=by rfl)(h:zV e=true:=by rfl)(hs:D6 [e] X.env= [(false,O5 e X.env)]:=by rfl):JI X tg (.Call (.Name "range" p) [e] [] pos) (iR1 (zg te Zx)):=qi hg Z.range (j1 ha h) hs
end
section
variable {P:M0}{w:C6}{K:G6}{mg:Str->D4 G7}{base:L6}{x qual:Str}{st:C9}{f:P4}{fd:R6}{N ps:G0 Str}{k:G5}
theorem Fun.okM {spd:RDn}(F:Fun K x qual st f fd)(S:FnScope N ps (jd st)){tb:TSD}(hbody: ∀ {cdv:G7} {A:C5} {outer:G0 Env} {s:P0} {H:Hp} {E:XK},Room k (A.deeper (fT qual (jd st) s.heap.objs.size f cdv))->JSs (LK CX0 P w K mg base N qual (jd st) f cdv A outer s H E).nox (wR st) tb)
 (read: ∀ds h Q,spd ds h Q->ds.length=ps.length/\tb (Lv Q) (vc N ds) h):FnOk P w K mg base CX0 (k+1) f fd ps (LSp K spd):=F.okJ S (λds h Q q=>(read ds h Q q).1) tb (λ_ _ _ _ _ _ hr=>hbody hr) λds h Q q=>(read ds h Q q).2
end
theorem jx {t u:TSD}{E:EndsD}{σ:SD}{h:HD}(σ1:SD)(first: ∀K:SD->HD->Prop,K σ1 h->t {E with nx:=K} σ h)(rest:u E σ1 h):Zy t u E σ h:=first (u E) rest
theorem sz0:0<=sizeLine:=by decide
theorem sz1:1<=sizeLine:=by decide
theorem sz2:2<=sizeLine:=by decide
theorem sz3:3<=sizeLine:=by decide
theorem sz4:4<=sizeLine:=by decide
section
variable {X:Cx}{s0 s1 s2 s3 s4 s5 s6 s7:C9}{t0 t1 t2 t3 t4 t5 t6 t7:TSD}{c:T1}{tc:TTD}{pos:Pos}
theorem js2 (a:JS X s0 t0)(b:JS X s1 t1):JSs X [s0,s1] (Zy t0 t1):=(jV a (jC b))
theorem js3 (a:JS X s0 t0)(b:JS X s1 t1)(c:JS X s2 t2):JSs X [s0,s1,s2] (Zy t0 (Zy t1 t2)):=(jV a (jV b (jC c)))
theorem js4 (a:JS X s0 t0)(b:JS X s1 t1)(c:JS X s2 t2)(d:JS X s3 t3):JSs X [s0,s1,s2,s3] (Zy t0 (Zy t1 (Zy t2 t3))):=(jV a (jV b (jV c (jC d))))
theorem js5 (a:JS X s0 t0)(b:JS X s1 t1)(c:JS X s2 t2)(d:JS X s3 t3)(e:JS X s4 t4):JSs X [s0,s1,s2,s3,s4] (Zy t0 (Zy t1 (Zy t2 (Zy t3 t4)))):=(jV a (jV b (jV c (jV d (jC e)))))
theorem js6 (a:JS X s0 t0)(b:JS X s1 t1)(c:JS X s2 t2)(d:JS X s3 t3)(e:JS X s4 t4)(f:JS X s5 t5):JSs X [s0,s1,s2,s3,s4,s5] (Zy t0 (Zy t1 (Zy t2 (Zy t3 (Zy t4 t5))))):=(jV a (jV b (jV c (jV d (jV e (jC f))))))
theorem js7 (a:JS X s0 t0)(b:JS X s1 t1)(c:JS X s2 t2)(d:JS X s3 t3)(e:JS X s4 t4)(f:JS X s5 t5)(g:JS X s6 t6):JSs X [s0,s1,s2,s3,s4,s5,s6] (Zy t0 (Zy t1 (Zy t2 (Zy t3 (Zy t4 (Zy t5 t6)))))):=(jV a (jV b (jV c (jV d (jV e (jV f (jC g)))))))
theorem vF (hc:JT X c tc)(h:JS X s0 t0):JS X (.If c [s0] [] pos) (Sd tc t0 Ds):=qh hc (jC h) Cm
end
end L2
namespace My
open PySem L2
def top (i:G5):C9:=PySem.Challenge.pw_firstpowers_k39_whole_first_or_never.main.body.getD i (.Pass ⟨0,0,0,0⟩)
abbrev WS:C9:=top 10
theorem DR:FnScope ["thing"] ["thing"] (jd WS):=fsc
abbrev ZC:C9:=top 11
theorem Pm:FnScope ["thing","least","most"] ["thing","least","most"] (jd ZC):=fsc
abbrev Uo:C9:=top 12
theorem NF:FnScope ["thing","least"] ["thing","least"] (jd Uo):=fsc
abbrev WT:C9:=top 13
theorem DS:FnScope ["thing","size"] ["thing","size"] (jd WT):=fsc
abbrev Jt:C9:=top 14
theorem Wp:FnScope ["thing","size","each"] ["thing","size"] (jd Jt):=fsc
abbrev DT:C9:=top 15
theorem MT:FnScope ["row","one","other"] ["row"] (jd DT):=fsc
abbrev QJ:C9:=top 16
theorem FS:FnScope ["thing","size"] ["thing","size"] (jd QJ):=fsc
abbrev WU:C9:=top 17
theorem DU:FnScope ["thing","size"] ["thing","size"] (jd WU):=fsc
abbrev yW:C9:=top 18
theorem Ju:FnScope ["thing","size","number"] ["thing","size"] (jd yW):=fsc
abbrev wT:C9:=top 19
theorem vk:FnScope ["thing","row"] ["thing"] (jd wT):=fsc
abbrev Jv:C9:=top 20
theorem QK:FnScope ["thing"] ["thing"] (jd Jv):=fsc
abbrev Jw:C9:=top 21
theorem QL:FnScope ["table","thing"] ["table","thing"] (jd Jw):=fsc
abbrev WV:C9:=top 22
theorem DV:FnScope ["table","thing"] ["table","thing"] (jd WV):=fsc
abbrev Jx:C9:=top 23
theorem QM:FnScope ["table","thing"] ["table","thing"] (jd Jx):=fsc
abbrev vG:C9:=top 24
theorem Xg:FnScope ["thing","least","most"] ["thing","least","most"] (jd vG):=fsc
abbrev Jy:C9:=top 27
theorem vH:FnScope ["table","some","head","place"] ["table","some"] (jd Jy):=fsc
abbrev ZD:C9:=top 28
theorem yI:FnScope ["table","some","k","sets","later","start"] ["table","some","k"] (jd ZD):=fsc
abbrev Jz:C9:=top 31
theorem wt:FnScope ["one","other","size","row","place","by"] ["one","other"] (jd Jz):=fsc
abbrev yr:C9:=top 32
theorem wU:FnScope ["size","row","place"] ["size"] (jd yr):=fsc
abbrev DW:C9:=top 33
theorem Vq:FnScope ["table","k","told","step"] ["table","k"] (jd DW):=fsc
abbrev FT:C9:=top 35
theorem Ls:FnScope ["table","row","number"] ["table"] (jd FT):=fsc
abbrev DY:C9:=top 36
theorem QN:FnScope ["table","row","number"] ["table"] (jd DY):=fsc
abbrev QP:C9:=top 37
theorem Up:FnScope ["table","place","row"] ["table"] (jd QP):=fsc
abbrev Uq:C9:=top 38
theorem vo:FnScope ["table","order","olds","name","one","other"] ["table","order"] (jd Uq):=fsc
abbrev vI:C9:=top 41
theorem Xh:FnScope ["ahead","table"] ["ahead","table"] (jd vI):=fsc
abbrev wu:C9:=top 42
theorem zc:FnScope ["table","told","later"] ["table"] (jd wu):=fsc
abbrev WW:C9:=top 43
theorem Ur:FnScope ["told","back","k","at"] ["told","back","k"] (jd WW):=fsc
abbrev ZE:C9:=top 44
theorem Po:FnScope ["table"] ["table"] (jd ZE):=fsc
abbrev WX:C9:=top 45
theorem UU:FnScope ["table","k","told","back"] ["table","k"] (jd WX):=fsc
abbrev DZ:C9:=top 48
theorem MS:FnScope ["table","place","head","number"] ["table","place"] (jd DZ):=fsc
abbrev yt:C9:=top 49
theorem Jf:FnScope ["table","thing","one","other"] ["table","thing"] (jd yt):=fsc
abbrev zC:C9:=top 50
theorem Jg:FnScope ["table","one","other","k"] ["table","one","other","k"] (jd zC):=fsc
abbrev ZF:C9:=top 51
theorem zE:FnScope ["table","other","k","size","counts","left","place","head"] ["table","other","k"] (jd ZF):=fsc
abbrev JB:C9:=top 52
theorem wz:FnScope ["table","place","ahead","number","ways","at"] ["table","place","ahead","number"] (jd JB):=fsc
abbrev wV:C9:=top 53
theorem zJ:FnScope ["table","one","counts","number","walk","ahead","place"] ["table","one","counts","number"] (jd wV):=fsc
abbrev JC:C9:=top 54
theorem Wq:FnScope ["table","one","other","k","counts"] ["table","one","other","k"] (jd JC):=fsc
abbrev vJ:C9:=top 56
theorem Zu:FnScope ["table","at","each"] ["table"] (jd vJ):=fsc
abbrev wF:C9:=top 57
theorem Wr:FnScope ["table","thing","one","other","k"] ["table","thing","one","other","k"] (jd wF):=fsc
abbrev wW:C9:=top 58
theorem vz:FnScope ["table","thing","one","k","other","walk"] ["table","thing","one","k"] (jd wW):=fsc
abbrev yu:C9:=top 59
theorem Jd:FnScope ["table","thing","k","one","walks"] ["table","thing","k"] (jd yu):=fsc
abbrev WY:C9:=top 60
theorem Us:FnScope ["thing","many","size","each"] ["thing","many","size"] (jd WY):=fsc
abbrev wX:C9:=top 61
theorem vA:FnScope ["table","sets","ahead","later","head"] ["table","sets"] (jd wX):=fsc
abbrev QQ:C9:=top 62
theorem UT:FnScope ["table","thing","k","one","other","sets","size"] ["table","thing","k"] (jd QQ):=fsc
abbrev vK:C9:=top 63
theorem Zt:FnScope ["table","thing","k","walks","gap"] ["table","thing"] (jd vK):=fsc
abbrev ZG:C9:=top 64
theorem JZ:FnScope ["table","one","row","numbers"] ["table"] (jd ZG):=fsc
abbrev ZH:C9:=top 65
theorem JY:FnScope ["table","k","one","other","steps"] ["table","k"] (jd ZH):=fsc
abbrev ZI:C9:=top 66
theorem wf:FnScope ["table","k","places","walks","one","other"] ["table"] (jd ZI):=fsc
abbrev Ut:C9:=top 68
theorem wG:FnScope ["table","size","come","by","one","other"] ["table"] (jd Ut):=fsc
abbrev ZJ:C9:=top 69
theorem wg:FnScope ["come","size","told","place","piece","other"] ["come"] (jd ZJ):=fsc
abbrev QR:C9:=top 70
theorem FU:FnScope ["table"] ["table"] (jd QR):=fsc
abbrev QU:C9:=top 71
theorem FV:FnScope ["table"] ["table"] (jd QU):=fsc
abbrev yw:C9:=top 73
theorem Je:FnScope ["one","other"] ["one","other"] (jd yw):=fsc
abbrev JD:C9:=top 74
theorem zH:FnScope ["table","told","paths","place","path","head"] ["table"] (jd JD):=fsc
abbrev FW:C9:=top 75
theorem QV:FnScope ["table","told","each"] ["table"] (jd FW):=fsc
abbrev yX:C9:=top 77
theorem JF:FnScope ["table","some","head"] ["table","some"] (jd yX):=fsc
abbrev WZ:C9:=top 78
theorem yy:FnScope ["size","told","place","some"] ["size"] (jd WZ):=fsc
abbrev ZK:C9:=top 79
theorem Yq:FnScope ["table","some"] ["table"] (jd ZK):=fsc
abbrev ZL:C9:=top 82
theorem Yr:FnScope ["thing","size","d","rest"] ["thing","size","d"] (jd ZL):=fsc
abbrev ZM:C9:=top 83
theorem YH:FnScope ["table","d","rests","place","head"] ["table","d","rests"] (jd ZM):=fsc
abbrev wv:C9:=top 84
theorem jB:FnScope ["table","fewest","some","steps","place"] ["table"] (jd wv):=fsc
abbrev Ya:C9:=top 85
theorem ZN:FnScope ["table","d","steps"] ["table"] (jd Ya):=fsc
abbrev yA:C9:=top 87
theorem YN:FnScope ["table","some"] ["table","some"] (jd yA):=fsc
abbrev wY:C9:=top 88
theorem Yb:FnScope ["table","d","rests"] ["table","d","rests"] (jd wY):=fsc
abbrev vL:C9:=top 89
theorem Xi:FnScope ["table","thing"] ["table","thing"] (jd vL):=fsc
abbrev ZO:C9:=top 90
theorem JH:FnScope ["table","some","d"] ["table"] (jd ZO):=fsc
abbrev ZP:C9:=top 92
theorem Pp:FnScope ["_law_script","_law_k"] ["_law_script","_law_k"] (jd ZP):=fsc
abbrev Yc:C9:=top 93
theorem Uu:FnScope ["_law_cell_here","_law_left"] ["_law_cell_here"] (jd Yc):=fsc
abbrev ZQ:C9:=top 94
theorem yP:FnScope ["_law_pen_here","_law_many","_law_left","_law_found","_law_stir"] ["_law_pen_here","_law_many"] (jd ZQ):=fsc
abbrev ZR:C9:=top 95
theorem Pq:FnScope ["_law_pen_here"] ["_law_pen_here"] (jd ZR):=fsc
abbrev JJ:C9:=top 96
theorem jH:FnScope ["_law_pen_here","_law_size_here","_law_way","_law_often","_law_most","_law_rows","_law_one","_law_row","_law_other","_law_goes"] ["_law_pen_here","_law_size_here"] (jd JJ):=fsc
abbrev JK:C9:=top 97
theorem vM:FnScope ["_law_pen_here","_law_many","_law_found","_law_what"] ["_law_pen_here","_law_many"] (jd JK):=fsc
abbrev JL:C9:=top 98
theorem vR:FnScope ["_law_table_here","_law_order_here","_law_k","_law_why","_law_never","_law_other"] ["_law_table_here","_law_order_here"] (jd JL):=fsc
abbrev NG:C9:=top 99
theorem MJ:FnScope ["_law_script","_law_cell_here","_law_pen_here","_law_size_here"] ["_law_script"] (jd NG):=fsc
section
variable {P:M0}{w:C6}{K:G6}{mg:Str->D4 G7}{base:L6}
/-- no def is asked of the script's list: a thing -/
def FX:D->T9
 | .int _=>true
 |_=>false
/-- a row of so many numbers from 0 on -/
def uS:D->T9
 | .int i=>decide (0<=i)
 |_=>false
def Ep (d:D)(k:G8):T9:=match d with
 | .tup ds=>decide ((ds.length:G8)=k)&&ds.all uS
 |_=>false
/-! every part has a kind that is told,and no tuple is long -/
mutual
def okD:D->T9
 | .scr _=>false| .exc _=>false| .fn _=>false| .dct _=>false
 | .tup ds=>decide (ds.length<=1000)&&okDs ds
 |_=>true
def okDs:G0 D->T9
 | []=>true
 |d::ds=>okD d&&okDs ds
end
theorem MK: ∀ {ds:G0 D},okDs ds=true-> ∀d∈ds,okD d=true
 |d::ds,h,x,hx=>by
  have h':(okD d&&okDs ds)=true:=h;rw [B7] at h';rcases T6.mp hx with e|e
  ·subst e;exact h'.1
  ·exact MK h'.2 x e
theorem FY: ∀ {ds:G0 D},(∀d∈ds,okD d=true)->okDs ds=true
 | [],_=>rfl
 |d::ds,h=>by
  show (okD d&&okDs ds)=true;rw [h d R3,FY λx hx=>h x (S3 _ hx)];rfl
theorem Uv {ds:G0 D}(h:okD (.tup ds)=true):ds.length<=1000/\ ∀d∈ds,okD d=true:=by
 have h':(decide (ds.length<=1000)&&okDs ds)=true:=h;rw [B7] at h';exact⟨N2 h'.1,MK h'.2⟩
theorem Uw {ds:G0 D}(h:ds.length<=1000)(h2: ∀d∈ds,okD d=true):okD (.tup ds)=true:=by
 show (decide (ds.length<=1000)&&okDs ds)=true;rw [G9 h,FY h2];rfl
theorem Zg {d:D}(h:okD d=true): ∃n,GK d=some n:=by
 cases d<;>first|exact⟨_,rfl⟩|cases h
/-- a table -/
def Hc:D->T9
 | .tup rs=>decide (1<=rs.length)&&decide (rs.length<=6)&&rs.all λr=>Ep r rs.length
 |_=>false
def vN:RDn:=λds h Q=> ∃d n,ds= [d]/\GK d=some n/\Q (.bl (FX d)) h
variable {n:G5}{f:P4}{fd:R6}
theorem Ra (Z:Zs mg)(F:Fun K "is_whole" "is_whole" WS f fd):FnOk P w K mg base CX0 (n+1) f fd ["thing"] (LSp K vN):=by
 refine F.okM DR (λhr=>(jC (jR (VH (YL (T:= "int") (by decide) rfl Z.isinstance rfl Z.int (by decide +kernel) (jv 0)) (Xc (jai (YL (T:= "bool") (by decide) rfl Z.isinstance rfl Z.bool (by decide +kernel) (jv 0)))))))) ?_;rintro ds h Q ⟨d,nm,rfl,hn,q⟩;refine⟨rfl,?_⟩;simp only [BQ,Ob,dIs,Oa,vc,M1,U7,R7,B9,U3,A3,K8,Z0,D.bl.injEq,Oc,Lv,aU,hn];cases d<;>cases hn<;>exact⟨h,Sub.refl h,q⟩
def wN:RDn:=λds h Q=> ∃d,∃a b:G8,ds= [d,.int a,.int b]/\okD d=true/\Q (.bl (jM d a b)) h
theorem Pr (Z:Zs mg)(F:Fun K "is_within" "is_within" ZC f fd)(vy:je P w K mg base n "is_whole" ["thing"] vN):FnOk P w K mg base CX0 (n+1) f fd ["thing","least","most"] (LSp K wN):=by
 refine F.okM Pm (λhr=>(jC (jR (VH (jk vy hr (j1 (jv 0))) (Xc (Ec BU BU (jv 1) (jv 0) (jv 2))))))) ?_;rintro ds h Q ⟨d,a,b,rfl,ok,q⟩;refine⟨rfl,?_⟩;obtain⟨nm,hn⟩:=Zg ok;refine⟨_,rfl,d,nm,rfl,hn,FX d,rfl,?_⟩;cases d with
 |int x=>
  refine wc ⟨_,rfl,_,rfl,_,rfl,?_⟩;show if decide (a<=x)=true then _ else _
  by_cases h1:a<=x
  ·rw [G9 h1];simp only [jM,G9 h1,dU] at q;exact wc ⟨_,rfl,h,Sub.refl h,q⟩
  ·rw [D5 h1];simp only [jM,D5 h1,lB] at q;exact zA ⟨h,Sub.refl h,q⟩
 |_=>exact zA ⟨h,Sub.refl h,q⟩
def XM:RDn:=λds h Q=> ∃k a:G8,ds= [.int k,.int a]/\Q (.bl (decide (a<=k))) h
theorem NH (Z:Zs mg)(F:Fun K "is_from" "is_from" Uo f fd)(vy:je P w K mg base n "is_whole" ["thing"] vN):FnOk P w K mg base CX0 (n+1) f fd ["thing","least"] (LSp K XM):=by
 refine F.okM NF (λhr=>(jC (jR (VH (jk vy hr (j1 (jv 0))) (Xc (jc1 Dv (jv 0) (jv 1))))))) ?_;rintro ds h Q ⟨k,a,rfl,q⟩;refine⟨rfl,?_⟩;refine⟨_,rfl,.int k,"int",rfl,rfl,_,rfl,wc ⟨_,rfl,_,rfl,h,Sub.refl h,q⟩⟩
def vO:RDn:=λds h Q=> ∃d,∃n:G8,ds= [d,.int n]/\okD d=true/\Q (.bl (jM d 0 (n-1))) h
theorem Rb (Z:Zs mg)(F:Fun K "is_place" "is_place" WT f fd)(zZ:je P w K mg base n "is_within" ["thing","least","most"] wN):FnOk P w K mg base CX0 (n+1) f fd ["thing","size"] (LSp K vO):=by
 refine F.okM DS (λhr=>(jC (jR (jk zZ hr (j3 (jv 0) jz (jop Jl (jv 1) jz)))))) ?_;rintro ds h Q ⟨d,k,rfl,ok,q⟩;refine⟨rfl,?_⟩;exact⟨_,rfl,_,rfl,d,0,k-1,rfl,ok,h,Sub.refl h,q⟩
def yf:RDn:=λds h Q=> ∃d,∃n:G8,ds= [d,.int n]/\okD d=true/\Q (.bl (yT d n)) h
theorem QX (Z:Zs mg)(F:Fun K "are_places" "are_places" Jt f fd)(yl:je P w K mg base n "is_place" ["thing","size"] vO):FnOk P w K mg base CX0 (n+1) f fd ["thing","size"] (LSp K yf):=by
 refine F.okM Wp (λhr=>(jC (jR (VH (YL (T:= "tuple") (by decide) rfl Z.isinstance rfl Z.tuple (by decide +kernel) (jv 0)) (Xc (zB (vd rfl) rfl Z.all C4 (j1 (jl0 2 Wp (jU (jv 0)) (λ_ _ _ _=>(jk yl hr (j2 (jv 2) (jv 1)))))))))))) ?_;rintro ds h Q ⟨d,k,rfl,ok,q⟩;refine⟨rfl,?_⟩;obtain⟨nm,hn⟩:=Zg ok;refine⟨_,rfl,nm,hn,?_⟩;cases d with
 |tup es=>
  cases hn;obtain⟨hl,ht⟩:=Uv ok;refine⟨_,rfl,wc ?_⟩;exact uL es (λx=>x) (λx=>jM x 0 (k-1)) hl (by rw [tM]) (λR r=>⟨_,rfl,r⟩) (λx hx Q' q'=>⟨_,rfl,_,rfl,x,k,rfl,ht x hx,q'⟩) ⟨h,Sub.refl h,q⟩
 |_=>cases hn<;>exact⟨_,rfl,zA ⟨h,Sub.refl h,q⟩⟩
def ML:RDn:=λds h Q=> ∃S:G0 G5,ds= [jq S]/\S.length<=1000/\Q (.bl ((S.zip (S.drop 1)).all λp=>decide ((p.1:G8)<(p.2:G8)))) h
theorem Ar (Z:Zs mg)(F:Fun K "rises" "rises" DT f fd):FnOk P w K mg base CX0 (n+1) f fd ["row"] (LSp K ML):=by
 refine F.okM MT (λhr=>(jC (jR (zB (vd rfl) rfl Z.all C4 (j1 (Hb (i:=1) (j:=2) (js:= [1,2]) rfl (jL (by rfl)) (CI rfl Z.zip (j2 (jv 0) (GS (jv 0) (WK jz) Qq))) (by decide) (by decide) (by decide) MT.nd rfl rfl (by first|exact F8 rfl|exact J9 rfl) (by first|exact F8 rfl|exact J9 rfl) (λX' hX=>wm) (λX' hX=>by obtain⟨C,s₀,H₀,ex,rfl⟩:=hX;exact(jc1 Qh (jv 1) (jv 2))))))))) ?_;rintro ds h Q ⟨S,rfl,hl,q⟩;refine⟨rfl,?_⟩;refine OJ (j:=λ_=>some (Bf (S.map λ(k:G5)=>D.int (k:G8)) (UV (S.map λ(k:G5)=>D.int (k:G8)) (some 1) none))) (S.zip (S.drop 1)) (λp=> .int (p.1:G8)) (λp=> .int (p.2:G8)) (λp=>decide ((p.1:G8)<(p.2:G8))) (by rw [cF];omega) (congrArg some (CP S)) (λR r=>⟨_,rfl,_,rfl,_,rfl,_,_,rfl,r⟩) (λp hp Q' q'=>⟨_,rfl,_,rfl,q'⟩) ⟨h,Sub.refl h,q⟩
theorem As {S:G0 G5}(h:S.Pairwise (· < ·)):((S.zip (S.drop 1)).all λp=>decide ((p.1:G8)<(p.2:G8)))=true:=by
 rw [T8];intro p hp;have:=Mi h p hp;exact G9 (by omega)
def jaA (n:G5)(d:D):Prop:=(okD d=true/\yT d (n:G8)=false)\/ ∃S:G0 G5,d=jq S/\(∀i∈S,i<n)/\S.length<=1000/\((S.zip (S.drop 1)).all λp=>decide ((p.1:G8)<(p.2:G8)))=false
def Ws:RDn:=λds h Q=> ∃d,∃n:G5,ds= [d,.int (n:G8)]/\n<=6/\((∃S,d=jq S/\IsS n S/\Q (.bl true) h)\/(jaA n d/\Q (.bl false) h))
theorem FZ (Z:Zs mg)(F:Fun K "is_set" "is_set" QJ f fd)(TR:je P w K mg base n "rises" ["row"] ML)(wO:je P w K mg base n "are_places" ["thing","size"] yf):FnOk P w K mg base CX0 (n+1) f fd ["thing","size"] (LSp K Ws):=by
 refine F.okM FS (λhr=>(jC (jR (VH (jk wO hr (j2 (jv 0) (jv 1))) (Xc (jk TR hr (j1 (jv 0)))))))) ?_;rintro ds h Q ⟨d,n,rfl,hn,q⟩;refine⟨rfl,?_⟩;have okO: ∀S:G0 G5,S.length<=1000->okD (jq S)=true:=λS hS=>Uw (by rw [G1];exact hS) λd hd=>by obtain⟨x,_,rfl⟩:=R8.mp hd;rfl
 have plO: ∀S:G0 G5,(∀i∈S,i<n)->yT (jq S) (n:G8)=true:=λS hS=>by
  show (S.map _).all _=true;rw [T8];intro x hx;obtain⟨i,hi,rfl⟩:=R8.mp hx;have:=hS i hi;show (decide ((0:G8)<=(i:G8))&&decide ((i:G8)<=(n:G8)-1))=true;rw [G9 (show (0:G8)<=(i:G8) by omega),G9 (show (i:G8)<=(n:G8)-1 by omega)];rfl
 rcases q with ⟨S,rfl,hS,q⟩|⟨⟨ok,bad⟩|⟨S,rfl,hS,hl,hr⟩,q⟩
 ·have hlen:=hS.len;refine⟨_,rfl,_,rfl,jq S,(n:G8),rfl,okO S (by omega),?_⟩;rw [plO S λi hi=>hS.lt hi];refine⟨_,rfl,wc ⟨_,rfl,S,rfl,by omega,?_⟩⟩;rw [As hS.rise];exact⟨h,Sub.refl h,q⟩
 ·refine⟨_,rfl,_,rfl,d,(n:G8),rfl,ok,?_⟩;rw [bad];exact⟨_,rfl,zA ⟨h,Sub.refl h,q⟩⟩
 ·refine⟨_,rfl,_,rfl,jq S,(n:G8),rfl,okO S hl,?_⟩;rw [plO S hS];refine⟨_,rfl,wc ⟨_,rfl,S,rfl,hl,?_⟩⟩;rw [hr];exact⟨h,Sub.refl h,q⟩
theorem XN: ∀ {a b:G0 W3},O3 a b=true->a.length=b.length
 | [],[],_=>rfl
 | [],_::_,h=>by simp [O3] at h
 |_::_,[],h=>by simp [O3] at h
 |x::a,y::b,h=>by
  have h2:(F5 x y&&O3 a b)=true:=h;rw [R7,R7,XN (Bool.and_eq_true_iff.mp h2).2]
def jbt (n:G5)(d:D):Prop:=(okD d=true/\yT d (n:G8)=false)\/ ∃o:G0 G5,d=jq o/\(∀x∈o,x<n)/\o.length<=60/\o.length≠n
def Ux:RDn:=λds h Q=> ∃d,∃n:G5,ds= [d,.int (n:G8)]/\n<=6/\((∃o,d=jq o/\Ordr n o/\Q (.bl true) h)\/(jbt n d/\Q (.bl false) h))
theorem Rc (Z:Zs mg)(F:Fun K "is_order" "is_order" WU f fd)(wO:je P w K mg base n "are_places" ["thing","size"] yf):FnOk P w K mg base CX0 (n+1) f fd ["thing","size"] (LSp K Ux):=by
 refine F.okM DU (λhr=>(jC (jR (VH (jk wO hr (j2 (jv 0) (jv 1))) (Xc (jc1 (Zl hr.units) (zB Ci rfl Z.sorted (by decide +kernel) (j1 (jv 0))) (kj rfl rfl Z.list rfl Z.range (j1 (jv 1))))))))) ?_;rintro ds h Q ⟨d,k,rfl,hk,q⟩;refine⟨rfl,?_⟩;rcases q with ⟨o,rfl,ho,q⟩|⟨⟨ok,bad⟩|⟨o,rfl,hlt,hle,hne⟩,q⟩
 ·have hlen:o.length=k:=ho.ord.len;have hle:o.length<=60:=by omega
  have hlt: ∀x∈o,x<k:=λx hx=>P6.mp (ho.mem_iff.mp hx)
  have okO:okD (jq o)=true:=Uw (by rw [G1];omega) λd hd=>by obtain⟨x,_,rfl⟩:=R8.mp hd;rfl
  have plO:yT (jq o) (k:G8)=true:=by
   show (o.map _).all _=true;rw [T8];intro x hx;obtain⟨i,hi,rfl⟩:=R8.mp hx;have:=hlt i hi;show (decide ((0:G8)<=(i:G8))&&decide ((i:G8)<=(k:G8)-1))=true;rw [G9 (show (0:G8)<=(i:G8) by omega),G9 (show (i:G8)<=(k:G8)-1 by omega)];rfl
  have hlc:(zP o).length<=60:=by unfold zP;rw [G1];exact hle
  refine⟨_,rfl,_,rfl,jq o,(k:G8),rfl,okO,?_⟩;rw [plO];refine⟨_,rfl,wc ⟨_,rfl,zP o,F8 (by rw [VN]),by omega,λp1 ns' e1 hp hpw=>⟨_,rfl,k,rfl,by omega,λp2 e2=> ?_⟩⟩⟩;have er:((G3 k).map λ(i:G5)=>D.int (i:G8))=(zP (G3 k)).map D.int:=by unfold zP;rw [S2];rfl
  refine⟨.list (ns'.map .int),.list ((zP (G3 k)).map .int),⟨p1,_,rfl,jD jc e2,wK _ _⟩,⟨p2,_,rfl,by rw [jc,er],wK _ _⟩,vD _,vD _,h,Sub.newAt (Sub.newAt (Sub.refl h) e1) e2,?_⟩;have ee:F5 (.list (ns'.map .int)) (.list ((zP (G3 k)).map .int))=true:=by
   have es:ns'=zP (G3 k):=List.Perm.eq_of_pairwise (le:=λ(x y:G8)=>x<=y) (λ_ _ _ _ a b=>Int.le_antisymm a b) hpw (GU k) (hp.trans (ho.map _));rw [es];exact VO _
  rw [ee];exact q
 ·refine⟨_,rfl,_,rfl,d,(k:G8),rfl,ok,?_⟩;rw [bad];exact⟨_,rfl,zA ⟨h,Sub.refl h,q⟩⟩
 ·skip
  have okO:okD (jq o)=true:=Uw (by rw [G1];omega) λd hd=>by obtain⟨x,_,rfl⟩:=R8.mp hd;rfl
  have plO:yT (jq o) (k:G8)=true:=by
   show (o.map _).all _=true;rw [T8];intro x hx;obtain⟨i,hi,rfl⟩:=R8.mp hx;have:=hlt i hi;show (decide ((0:G8)<=(i:G8))&&decide ((i:G8)<=(k:G8)-1))=true;rw [G9 (show (0:G8)<=(i:G8) by omega),G9 (show (i:G8)<=(k:G8)-1 by omega)];rfl
  have hlc:(zP o).length<=60:=by unfold zP;rw [G1];exact hle
  refine⟨_,rfl,_,rfl,jq o,(k:G8),rfl,okO,?_⟩;rw [plO];refine⟨_,rfl,wc ⟨_,rfl,zP o,F8 (by rw [VN]),by omega,λp1 ns' e1 hp hpw=>⟨_,rfl,k,rfl,by omega,λp2 e2=> ?_⟩⟩⟩;have er:((G3 k).map λ(i:G5)=>D.int (i:G8))=(zP (G3 k)).map D.int:=by unfold zP;rw [S2];rfl
  refine⟨.list (ns'.map .int),.list ((zP (G3 k)).map .int),⟨p1,_,rfl,jD jc e2,wK _ _⟩,⟨p2,_,rfl,by rw [jc,er],wK _ _⟩,vD _,vD _,h,Sub.newAt (Sub.newAt (Sub.refl h) e1) e2,?_⟩;have ee:F5 (.list (ns'.map .int)) (.list ((zP (G3 k)).map .int))=false:=by
   cases hb:F5 (.list (ns'.map .int)) (.list ((zP (G3 k)).map .int)) with
   |false=>rfl
   |true=>
    have:=XN (show O3 (ns'.map .int) ((zP (G3 k)).map .int)=true from hb);rw [G1,G1,hp.length_eq] at this;unfold zP at this;rw [G1,G1,P3] at this;exact absurd this hne
  rw [ee];exact q
def JM:RDn:=λds h Q=> ∃d k,ds= [d,.int k]/\okD d=true/\Q (.bl (Ep d k)) h
theorem Uy (Z:Zs mg)(F:Fun K "is_table_row" "is_table_row" yW f fd)(vy:je P w K mg base n "is_whole" ["thing"] vN):FnOk P w K mg base CX0 (n+1) f fd ["thing","size"] (LSp K JM):=by
 refine F.okM Ju (λhr=>(js2 (vF (jpt (DB (wS (zN (YL (T:= "tuple") (by decide) rfl Z.isinstance rfl Z.tuple (by decide +kernel) (jv 0)))) (Nl (jt1 oq_ne (yD Z (jv 0)) (jv 1))))) (jR jbl)) (jR (zB (vd rfl) rfl Z.all C4 (j1 (jl0 2 Ju (jU (jv 0)) (λ_ _ _ _=>(VH (jk vy hr (j1 (jv 2))) (Xc (jc1 Dv (jv 2) jz)))))))))) ?_;rintro ds h Q ⟨d,k,rfl,ok,q⟩;refine⟨rfl,?_⟩;obtain⟨nm,hn⟩:=Zg ok;simp only [Zy,Sd,Kg,BN,YJ,dIs,Oa,vc,M1,U7,R7,B9,N3,U3,A3,K8,Z0,D.bl.injEq,BQ,dC,Lv,Ds,dCB,zg,Zx,dOp,Ha,cR,neD,aU,hn];cases d with
 |tup es=>
  cases hn;obtain⟨hl,ht⟩:=Uv ok;simp only [KM]
  by_cases hk:(es.length:G8)=k
  ·simp only [hk];simp;refine Ca (ds:=es) (h1:=h) (j:=λ_=>some es) (λx=> .bl (uS x)) (S1 (ju hl)) rfl (λR r=>⟨.tup es,rfl,r⟩) (λd hd Q' q'=> ?_) (λp hp=> ?_)
   ·obtain⟨nn,hnn⟩:=Zg (ht d hd);refine⟨d,rfl,d,nn,rfl,hnn,FX d,rfl,?_⟩;cases d with
    |int i=>exact wc ⟨.int i,rfl,q'⟩
    |_=>exact zA q'
   ·refine⟨p,es.map uS,rfl,by rw [jc];simp,h,?_,?_⟩
    ·rw [zf hp];exact Sub.refl h
    ·simpa [Ep,hk,E4,a7] using q
  ·simp [hk];exact⟨h,Sub.refl h,by simpa [Ep,hk] using q⟩
 |_=>cases hn<;>exact⟨h,Sub.refl h,q⟩
def vp:RDn:=λds h Q=> ∃d,ds= [d]/\okD d=true/\Q (.bl (Hc d)) h
theorem Yd (Z:Zs mg)(F:Fun K "has_table_form" "has_table_form" wT f fd)(Xo:je P w K mg base n "is_table_row" ["thing","size"] JM)(ZV: ∃tk,mg "MOST_ROWS" =some (.int 6 tk)):FnOk P w K mg base CX0 (n+1) f fd ["thing"] (LSp K vp):=by
 obtain⟨tk_MOST_ROWS,m_MOST_ROWS⟩:=ZV;refine F.okM vk (λhr=>(js2 (vF (jpt (DB (wS (zN (YL (T:= "tuple") (by decide) rfl Z.isinstance rfl Z.tuple (by decide +kernel) (jv 0)))) (Nl (wS (Cl BU BU jz (yD Z (jv 0)) (Nj rfl m_MOST_ROWS)))))) (jR jbl)) (jR (zB (vd rfl) rfl Z.all C4 (j1 (jl0 1 vk (jU (jv 0)) (λ_ _ _ _=>(jk Xo hr (j2 (jv 1) (yD Z (jv 0))))))))))) ?_;rintro ds h Q ⟨d,rfl,ok,q⟩;refine⟨rfl,?_⟩;obtain⟨nm,hn⟩:=Zg ok;simp only [Zy,Sd,Kg,BN,YJ,dIs,Oa,vc,M1,U7,R7,B9,N3,U3,A3,K8,Z0,D.bl.injEq,BQ,dC,Lv,Ds,dCB,zg,Zx,VD,Ha,AW,aU,hn];cases d with
 |tup es=>
  cases hn;obtain⟨hl,ht⟩:=Uv ok;simp only [KM]
  by_cases h1:1<=es.length
  ·by_cases h6:es.length<=6
   ·have h1':(1:G8)<=es.length:=by omega
    have h6':(es.length:G8)<=6:=by omega
    simp [h1',h6'];refine Ca (ds:=es) (h1:=h) (j:=λ_=>some es) (λx=> .bl (Ep x es.length)) (S1 (ju hl)) rfl (λR r=>⟨.tup es,rfl,r⟩) (λd hd Q' q'=> ?_) (λp hp=> ?_)
    ·exact⟨d,rfl,.tup es,rfl,d,es.length,rfl,ht d hd,q'⟩
    ·refine⟨p,es.map λx=>Ep x es.length,rfl,by rw [jc];simp,h,?_,?_⟩
     ·rw [zf hp];exact Sub.refl h
     ·simpa [Hc,h1,h6,E4,a7] using q
   ·have h1':(1:G8)<=es.length:=by omega
    have h6': ¬ (es.length:G8)<=6:=by omega
    simp [h1',h6'];exact⟨h,Sub.refl h,by simpa [Hc,h1,h6] using q⟩
  ·have h1': ¬ (1:G8)<=es.length:=by omega
   simp [h1'];exact⟨h,Sub.refl h,by simpa [Hc,h1] using q⟩
 |_=>cases hn<;>exact⟨h,Sub.refl h,q⟩
theorem TB {x:G8}(h:0<=x):uS (.int x)=true:=G9 h
variable {e:G5}{T:G0 (G0 G8)}
theorem TC (h:Sq n e T){r:G0 G8}(hr:r∈T):Ep (vB r) n=true:=by
 simp only [Ep,vB,G1,h.row r hr,decide_true,dU,E4,T8,A1];intro x hx;exact TB (h.nn r hr x hx)
theorem TD (h:Sq n e T)(h1:1<=n)(h6:n<=6):Hc (jh T)=true:=by
 simp only [Hc,jh,G1,h.len,G9 h1,G9 h6,dU,E4,T8,A1];intro r hr;exact TC h hr
theorem uw (h:Sq n e T)(h6:n<=6):okD (jh T)=true:=
 Uw (by rw [G1,h.len];omega) λd hd=>by
  obtain⟨r,hr,rfl⟩:=R8.mp hd;exact Uw (by rw [G1,h.row r hr];omega) λd hd=>by obtain⟨x,_,rfl⟩:=R8.mp hd;rfl
def jy:RDn:=λds h Q=> ∃T,∃n e:G5,ds= [jh T]/\Sq n e T/\1<=n/\n<=6/\Q .non h
theorem QY (Z:Zs mg)(F:Fun K "want_table" "want_table" Jv f fd)(YV:je P w K mg base n "has_table_form" ["thing"] vp):FnOk P w K mg base CX0 (n+1) f fd ["thing"] (LSp K jy):=by
 refine F.okM QK (λhr=>(jC (vF (wS (zN (jk YV hr (j1 (jv 0))))) VI))) ?_;rintro ds h Q ⟨T,k,b,rfl,hT,h1,h6,q⟩;refine⟨rfl,?_⟩;refine⟨_,rfl,jh T,rfl,uw hT h6,_,rfl,?_⟩;rw [TD hT h1 h6];exact zA ⟨h,Sub.refl h,q⟩
def Wt:RDn:=λds h Q=> ∃T,∃n e p:G5,ds= [jh T,.int (p:G8)]/\Sq n e T/\p<n/\Q .non h
theorem QZ (Z:Zs mg)(F:Fun K "want_place" "want_place" Jw f fd)(yl:je P w K mg base n "is_place" ["thing","size"] vO):FnOk P w K mg base CX0 (n+1) f fd ["table","thing"] (LSp K Wt):=by
 refine F.okM QL (λhr=>(jC (vF (wS (zN (jk yl hr (j2 (jv 1) (yD Z (jv 0)))))) VI))) ?_;rintro ds h Q ⟨T,n,bb,p,rfl,hT,hp,q⟩;refine⟨rfl,?_⟩;refine⟨_,rfl,_,rfl,.int (p:G8),_,rfl,rfl,_,rfl,?_⟩;have e0:jM (.int (p:G8)) 0 ((((T.map vB).length:G5):G8)-1)=true:=by
  rw [G1,hT.len];show (decide ((0:G8)<=(p:G8))&&decide ((p:G8)<=(n:G8)-1))=true;rw [G9 (by omega),G9 (by omega)];rfl
 rw [e0];exact zA ⟨h,Sub.refl h,q⟩
def Uz:RDn:=λds h Q=> ∃ (T:G0 (G0 G8)) (S:G0 G5) (n:G5),ds= [jh T,jq S]/\T.length=n/\IsS n S/\n<=6/\Q .non h
theorem Re (Z:Zs mg)(F:Fun K "want_set" "want_set" WV f fd)(WD:je P w K mg base n "is_set" ["thing","size"] Ws):FnOk P w K mg base CX0 (n+1) f fd ["table","thing"] (LSp K Uz):=by
 refine F.okM DV (λhr=>(jC (vF (wS (zN (jk WD hr (j2 (jv 1) (yD Z (jv 0)))))) VI))) ?_;rintro ds h Q ⟨T,S,k,rfl,hT,hS,h6,q⟩;refine⟨rfl,?_⟩;refine⟨_,rfl,_,rfl,_,k,by rw [G1,hT],h6,.inl ⟨S,rfl,hS,_,rfl,?_⟩⟩;exact zA ⟨h,Sub.refl h,q⟩
def Wu:RDn:=λds h Q=> ∃ (T:G0 (G0 G8)) (o:G0 G5) (n:G5),ds= [jh T,jq o]/\T.length=n/\Ordr n o/\n<=6/\Q .non h
theorem Ga (Z:Zs mg)(F:Fun K "want_order" "want_order" Jx f fd)(NQ:je P w K mg base n "is_order" ["thing","size"] Ux):FnOk P w K mg base CX0 (n+1) f fd ["table","thing"] (LSp K Wu):=by
 refine F.okM QM (λhr=>(jC (vF (wS (zN (jk NQ hr (j2 (jv 1) (yD Z (jv 0)))))) VI))) ?_;rintro ds h Q ⟨T,o,k,rfl,hT,ho,h6,q⟩;refine⟨rfl,?_⟩;refine⟨_,rfl,_,rfl,_,k,by rw [G1,hT],h6,.inl ⟨o,rfl,ho,_,rfl,?_⟩⟩;exact zA ⟨h,Sub.refl h,q⟩
def zS:RDn:=λds h Q=> ∃k lo hi:G8,ds= [.int k,.int lo,.int hi]/\lo<=k/\k<=hi/\Q .non h
theorem Xj (Z:Zs mg)(F:Fun K "want_number" "want_number" vG f fd)(zZ:je P w K mg base n "is_within" ["thing","least","most"] wN):FnOk P w K mg base CX0 (n+1) f fd ["thing","least","most"] (LSp K zS):=by
 refine F.okM Xg (λhr=>(jC (vF (wS (zN (jk zZ hr (j3 (jv 0) (jv 1) (jv 2))))) VI))) ?_;rintro ds h Q ⟨k,lo,hi,rfl,h1,h2,q⟩;refine⟨rfl,?_⟩;refine⟨_,rfl,_,rfl,_,rfl,.int k,lo,hi,rfl,rfl,_,rfl,?_⟩;have e0:jM (.int k) lo hi=true:=by
  show (decide (lo<=k)&&decide (k<=hi))=true;rw [G9 h1,G9 h2];rfl
 rw [e0];exact zA ⟨h,Sub.refl h,q⟩
def ww:RDn:=λds h Q=> ∃T S,∃n e:G5,ds= [jh T,jq S]/\Sq n e T/\IsS n S/\n<=6/\Q (jq (jE n T S)) h
theorem Gb (Z:Zs mg)(F:Fun K "step_after" "step_after" Jy f fd):FnOk P w K mg base CX0 (n+1) f fd ["table","some"] (LSp K ww):=by
 refine F.okM vH (λhr=>(jC (jR (jS jN rfl Z.tuple (by decide +kernel) (j1 (jl1 2 vH (jrg Z (yD Z (jv 0))) (λ_ _ _ _=>(zN (zB (KN rfl) rfl Z.any (by decide +kernel) (j1 (jl0 3 vH (jU (jv 1)) (λ_ _ _ _=>(jc1 oq_ne (ji1 (ji1 (jv 0) (jv 3)) (jv 2)) jz))))))) (λ_ _ _ _=>(jv 2)))))))) ?_;rintro ds h Q ⟨T,S,k,b,rfl,hT,hS,h6,q⟩;refine⟨rfl,?_⟩;have hlen:=hS.len;refine qk (G3 k) (λj=> .int (j:G8)) (λj=> .int (j:G8)) (λj=>S.any λi=>decide (ent T i j≠0)) (by rw [P3];omega) rfl (λR r=>⟨_,rfl,(k:G8),by rw [G1,hT.len],by omega,by omega,r⟩) (λj hj Q' q'=> ?_) (λj hj hp Q' q'=>⟨_,rfl,q'⟩) ⟨h,Sub.refl h,q⟩;refine jbf S (λi=> .int (i:G8)) (λi=>decide (ent T i j≠0)) (by omega) rfl (λR r=>⟨_,rfl,r⟩) (λi hi Q'' q''=> ?_) ⟨_,rfl,q'⟩;have hi':=hS.lt hi;refine⟨_,rfl,_,rfl,_,Jn hT hi',_,rfl,_,Jo (hT.row _ (Sq.getRow hT hi')) (P6.mp hj),?_⟩;have e:(!decide (((T.getD i []).getD j 0)=0))=decide (ent T i j≠0):=by simp [ent]
 rw [<-e] at q'';exact q''
def Ys:RDn:=λds h Q=> ∃T S,∃n e k:G5,ds= [jh T,jq S,.int (k:G8)]/\Sq n e T/\1<=n/\n<=6/\IsS n S/\k<=1000000000/\Q (jq (itF (jE n T) S k)) h
theorem Ps (Z:Zs mg)(F:Fun K "set_after" "set_after" ZD f fd)(jg:je P w K mg base n "want_table" ["thing"] jy)(NU:je P w K mg base n "want_set" ["table","thing"] Uz)(zd:je P w K mg base n "want_number" ["thing","least","most"] zS)(zF:je P w K mg base n "step_after" ["table","some"] ww)(wb: ∃tk,mg "MOST_STEPS_afters" =some (.int 1000000000 tk)):FnOk P w K mg base CX0 (n+1) f fd ["table","some","k"] (LSp K Ys):=by
 obtain⟨tk_MOST_STEPS_afters,m_MOST_STEPS_afters⟩:=wb;refine F.okM yI (λhr=>(js6 (zW (jk jg hr (j1 (jv 0)))) (zW (jk NU hr (j2 (jv 0) (jv 1)))) (zW (jk zd hr (j3 (jv 2) jz (Nj rfl m_MOST_STEPS_afters)))) (jse 3 yI (Dk (j1 (jv 1)))) (XD B2 (jt1 BU (yD Z (jv 3)) (jv 2)) (js3 (jse 4 yI (jk zF hr (j2 (jv 0) (ji1 (jv 3) (Ee jz))))) (qh (Ck (CJ hr.units) (jv 4) (jv 3) (by with_unfolding_all rfl)) (js2 (jse 5 yI (jap hr.units (jv 3) (jv 4))) (jR (ji1 (jv 3) (jop we (jv 5) (jop vV (jop Jl (jv 2) (jv 5)) (jop Jl (yD Z (jv 3)) (jv 5))))))) Cm) (zW (SG (jv 3) (jv 4))))) (jR (ji1 (jv 3) (jv 2))))) ?_;rintro ds h Q ⟨T,S,n,bb,k,rfl,hT,h1,h6,hS,hk,q⟩;refine⟨rfl,?_⟩;refine jx [some (jh T),some (jq S),some (.int (k:G8)),none,none,none] (λC hC=>⟨_,rfl,T,n,bb,rfl,hT,h1,h6,hC⟩) ?_;refine jx [some (jh T),some (jq S),some (.int (k:G8)),none,none,none] (λC hC=>⟨_,rfl,_,rfl,T,S,n,rfl,hT.len,hS,h6,hC⟩) ?_;refine jx [some (jh T),some (jq S),some (.int (k:G8)),none,none,none] (λC hC=>⟨_,rfl,(k:G8),0,1000000000,rfl,by omega,by omega,hC⟩) ?_;have itS: ∀j,IsS n (itF (jE n T) S j):=λj=>hS.it j
 refine jf (λσ' h'=> ∃A,σ'= [some (jh T),some (jq S),some (.int (k:G8)),some (.lst A),none,none]/\h A=none/\h' A=some ((G3 1).map λj=>jq (itF (jE n T) S j))/\Sub h h') (λC hC=> ?_) ?_
 ·exact⟨_,rfl,sz1,λA eA=>hC _ _ ⟨A,rfl,eA,jc,Sub.newAt (Sub.refl h) eA⟩⟩
 rintro _ h1' ⟨A,rfl,fA,kA,sbA⟩;refine jf (λσ' h'=> ∃a b,σ'= [some (jh T),some (jq S),some (.int (k:G8)),some (.lst A),a,b]/\h' A=some ((G3 (k+1)).map λj=>jq (itF (jE n T) S j))/\Sub h h') (λC hC=> ?_) ?_
 ·refine Zb (λm σ' h'=> ∃L a b,σ'= [some (jh T),some (jq S),some (.int (k:G8)),some (.lst A),a,b]/\h' A=some ((G3 L).map λj=>jq (itF (jE n T) S j))/\Sub h h'/\1<=L/\L<=k+1/\m=k+1-L/\((G3 L).map (itF (jE n T) S)).Nodup) k ⟨1,none,none,rfl,kA,sbA,by decide,by omega,by omega,by simp⟩ ?_;rintro m _ h2 ⟨L,a,b,rfl,kA2,sb2,hL1,hLk,hm,nd⟩;have hL64:L<=64:=by
   have:=OK h6 nd λX hX=>by obtain⟨j,_,rfl⟩:=R8.mp hX;exact itS j
   simpa using this
  refine⟨_,rfl,_,kA2,_,rfl,_,rfl,Xs (λc=> ?_) (λc=> ?_)⟩
  rotate_left
  ·have c': ¬ (((G3 L).map λj=>jq (itF (jE n T) S j)).length:G8)<=(k:G8):=λz=>c (G9 z)
   rw [G1,P3] at c';have eL:L=k+1:=by omega
   subst eL;exact hC _ _ ⟨a,b,rfl,kA2,sb2⟩
  have c':(((G3 L).map λj=>jq (itF (jE n T) S j)).length:G8)<=(k:G8):=N2 c;rw [G1,P3] at c';have hLk2:L<=k:=by omega
  have eqL:jE n T (itF (jE n T) S (L-1))=itF (jE n T) S L:=by
   obtain⟨L',rfl⟩: ∃L',L=L'+1:=⟨L-1,by omega⟩;rfl
  refine jf (λσ' h'=>σ'= [some (jh T),some (jq S),some (.int (k:G8)),some (.lst A),some (jq (itF (jE n T) S L)),b]/\h2=h') (λC2 hC2=> ?_) ?_
  ·refine⟨_,rfl,_,rfl,_,_,kA2,Wh hL1,T,_,n,bb,rfl,hT,itS _,h6,hC2 _ _ ⟨?_,rfl⟩⟩;rw [eqL];rfl
  rintro _ _ ⟨rfl,rfl⟩;have kA3:h2 A=some (((G3 L).map (itF (jE n T) S)).map jq):=by rw [kA2,S2];rfl
  refine jf (λσ' h'=>σ'= [some (jh T),some (jq S),some (.int (k:G8)),some (.lst A),some (jq (itF (jE n T) S L)),b]/\h2=h'/\itF (jE n T) S L ∉ (G3 L).map (itF (jE n T) S)) (λC2 hC2=> ?_) ?_
  ·refine⟨_,rfl,_,rfl,SV kA3 ⟨_,rfl,Xs (λc=> ?_) (λc=>hC2 _ _ ⟨rfl,rfl,λz=>c (by rw [G9 z];rfl)⟩)⟩⟩;have hin:itF (jE n T) S L∈(G3 L).map (itF (jE n T) S):=by
    cases z:decide (itF (jE n T) S L∈(G3 L).map (itF (jE n T) S)) with
    |true=>exact N2 z
    |false=>rw [z] at c;exact absurd c (by decide)
   have hjl:=A9.mpr hin;have hat:=K4 hjl;generalize hJ:((G3 L).map (itF (jE n T) S)).idxOf (itF (jE n T) S L)=J at hjl hat;have hJL:J<L:=by simpa using hjl
   have hJe:itF (jE n T) S L=itF (jE n T) S J:=by
    rw [<-hat];simp
   refine jx [some (jh T),some (jq S),some (.int (k:G8)),some (.lst A),some (jq (itF (jE n T) S L)),some (.int (J:G8))] (λC3 hC3=> ?_) ?_
   ·refine⟨_,rfl,A,rfl,_,rfl,?_⟩;obtain⟨pd,ps,jj,zz,t1,t2,c1,c2,c3,c4,c5,c6,c7,ej⟩:=SW (Q:=λd _=>d= .int (J:G8)) kA3 hin (by simp;omega) (by rw [hJ]);have ejj:jj=J:=by injection ej with ej;omega
    subst ejj;exact⟨pd,ps,jj,zz,t1,t2,c1,c2,c3,c4,c5,c6,c7,hC3⟩
   have hpos:(0:G8)<(((G3 L).map λj=>jq (itF (jE n T) S j)).length:G8)-(J:G8):=by
    rw [G1,P3];omega
   have hix:(J:G8)+((k:G8)-(J:G8))%((((G3 L).map λj=>jq (itF (jE n T) S j)).length:G8)-(J:G8))=((J+(k-J)%(L-J):G5):G8):=by
    rw [G1,P3,j7,bR,eU (by omega),eU (by omega)]
   have hlt:J+(k-J)%(L-J)<L:=by
    have:=V9 (k-J) (show 0<L-J by omega);omega
   refine⟨_,rfl,_,rfl,_,rfl,_,rfl,_,rfl,_,kA2,_,rfl,hpos,_,jq (itF (jE n T) S (J+(k-J)%(L-J))),kA2,?_,h,sb2,?_⟩
   ·rw [hix];exact VZ hlt
   ·rw [CL hJe hJL (by omega)];exact q
  rintro _ _ ⟨rfl,rfl,hni⟩;refine⟨_,rfl,A,rfl,_,rfl,_,kA2,?_,k+1-(L+1),_,by omega,Sub.refl _,L+1,_,_,rfl,?_,?_,by omega,by omega,rfl,?_⟩
  ·rw [G1,P3];exact ju (by omega)
  ·rw [jc,F7,S8];rfl
  ·exact(sb2).over fA
  ·rw [F7,S8,Y9];exact⟨nd,by simp,λx hx y hy=>by rw [P1.mp (show y∈ [itF (jE n T) S L] from hy)];intro e;exact hni (e ▸ hx)⟩
 rintro _ h3 ⟨a,b,rfl,kA3,sb3⟩;exact⟨_,rfl,_,rfl,_,_,kA3,VZ (by omega),h,sb3,q⟩
def vP:RDn:=λds h Q=> ∃T U,∃n e f:G5,ds= [jh T,jh U]/\Sq n e T/\Sq n f U/\e+f<=1000000/\n<=6/\Q (jh (Jm n T U)) h
theorem Gc (Z:Zs mg)(F:Fun K "multiplied" "multiplied" Jz f fd):FnOk P w K mg base CX0 (n+1) f fd ["one","other"] (LSp K vP):=by
 refine F.okM wt (λhr=>(js2 (jse 2 wt (yD Z (jv 0))) (jR (jS jN rfl Z.tuple (by decide +kernel) (j1 (jl0 3 wt (jU (jv 0)) (λ_ _ _ _=>(jS jN rfl Z.tuple (by decide +kernel) (j1 (jl0 4 wt (jrg Z (jv 2)) (λ_ _ _ _=>(zB (Ch rfl) rfl Z.sum (by decide +kernel) (j1 (jl0 5 wt (jrg Z (jv 2)) (λ_ _ _ _=>(jop SI (ji1 (jv 3) (jv 5)) (ji1 (ji1 (jv 1) (jv 5)) (jv 4)))))))))))))))))) ?_;rintro ds h Q ⟨T,U,k,b,f,rfl,hT,hU,hb,h6,q⟩;refine⟨rfl,?_⟩;refine jf (λσ' h'=>σ'= [some (jh T),some (jh U),some (.int (k:G8)),none,none,none]/\h=h') (λC hC=>⟨_,rfl,hC _ _ ⟨by rw [G1,hT.len];rfl,rfl⟩⟩) ?_;rintro _ _ ⟨rfl,rfl⟩;refine Mb T vB (λr=> .tup ((G3 k).map λj=> .int (jQ k λm=>r.getD m 0*ent U m j))) (by rw [hT.len];omega) rfl (λR r=>⟨_,rfl,r⟩) (λr hr Q' q'=> ?_) ⟨h,Sub.refl h,?_⟩
 ·refine Mb (G3 k) (λj=> .int (j:G8)) (λj=> .int (jQ k λm=>r.getD m 0*ent U m j)) (by rw [P3];omega) rfl (λR rr=>⟨_,rfl,(k:G8),rfl,by omega,by omega,rr⟩) (λj hj Q'' q''=> ?_) q';refine jam (G3 k) (λm=> .int (m:G8)) (λm=>r.getD m 0*ent U m j) (by rw [P3];omega) rfl (λR rr=>⟨_,rfl,(k:G8),rfl,by omega,by omega,rr⟩) (λm hm Q3 q3=> ?_) q'';have hm':=P6.mp hm;have hj':=P6.mp hj;refine⟨_,rfl,_,rfl,_,Jo (hT.row r hr) hm',_,rfl,_,rfl,_,Jn hU hm',_,rfl,_,Jo (hU.row _ (Sq.getRow hU hm')) hj',?_,q3⟩;refine Op (e:=b) (f:=f) ?_ (hU.ent_nn hm' hj') (by omega);have hm2:m<r.length:=by rw [hT.row r hr];exact hm'
  have e1:r.getD m 0=r[m]:=by rw [D1,G2 hm2];rfl
  rw [e1];exact⟨hT.nn r hr _ (B3 hm2),hT.bit r hr _ (B3 hm2)⟩
 ·rw [Ou hT];exact q
def vY:RDn:=λds h Q=> ∃n:G5,ds= [.int (n:G8)]/\n<=6/\Q (jh (XB n)) h
theorem YO (Z:Zs mg)(F:Fun K "power_of_none" "power_of_none" yr f fd):FnOk P w K mg base CX0 (n+1) f fd ["size"] (LSp K vY):=by
 refine F.okM wU (λhr=>(jC (jR (jS jN rfl Z.tuple (by decide +kernel) (j1 (jl0 1 wU (jrg Z (jv 0)) (λ_ _ _ _=>(jS jN rfl Z.tuple (by decide +kernel) (j1 (jl0 2 wU (jrg Z (jv 0)) (λ_ _ _ _=>(jif (jt1 (Zl hr.units) (jv 1) (jv 2)) jz jz)))))))))))) ?_;rintro ds h Q ⟨k,rfl,h6,q⟩;refine⟨rfl,?_⟩;refine Mb (G3 k) (λj=> .int (j:G8)) (λi=> .tup ((G3 k).map λj=> .int (if i=j then 1 else 0))) (by rw [P3];omega) rfl (λR r=>⟨_,rfl,(k:G8),rfl,by omega,by omega,r⟩) (λi hi Q' q'=> ?_) ⟨h,Sub.refl h,?_⟩
 ·refine Mb (G3 k) (λj=> .int (j:G8)) (λj=> .int (if i=j then 1 else 0)) (by rw [P3];omega) rfl (λR rr=>⟨_,rfl,(k:G8),rfl,by omega,by omega,rr⟩) (λj hj Q'' q''=>⟨_,rfl,_,rfl,_,rfl,?_⟩) q'
  by_cases z:i=j
  ·subst z;rw [D8 rfl] at q'';rw [G9 rfl];exact wc q''
  ·rw [D9 z] at q'';have:decide ((i:G8)=(j:G8))=false:=D5 (by omega);rw [this];exact zA q''
 ·rw [Cr];exact q
def MM:RDn:=λds h Q=> ∃T,∃n e m:G5,ds= [jh T,.int (m:G8)]/\Sq n e T/\1<=n/\n<=6/\m<=60/\e<=10000/\Q (jh (zk n T m)) h
theorem At (Z:Zs mg)(F:Fun K "power" "power" DW f fd)(jg:je P w K mg base n "want_table" ["thing"] jy)(zd:je P w K mg base n "want_number" ["thing","least","most"] zS)(UM:je P w K mg base n "power_of_none" ["size"] vY)(JQ:je P w K mg base n "multiplied" ["one","other"] vP)(wa: ∃tk,mg "MOST_POWER_powers" =some (.int 60 tk)):FnOk P w K mg base CX0 (n+1) f fd ["table","k"] (LSp K MM):=by
 obtain⟨tk_MOST_POWER_powers,m_MOST_POWER_powers⟩:=wa;refine F.okM Vq (λhr=>(js5 (zW (jk jg hr (j1 (jv 0)))) (zW (jk zd hr (j3 (jv 1) jz (Nj rfl m_MOST_POWER_powers)))) (jse 2 Vq (jk UM hr (j1 (yD Z (jv 0))))) (GR B2 rfl (jrg Z (jv 1)) (jgn 3 Vq) (jC (jse 2 Vq (jk JQ hr (j2 (jv 2) (jv 0)))))) (jR (jv 2)))) ?_;rintro ds h Q ⟨T,k,b,m,rfl,hT,h1,h6,hm,hb,q⟩;refine⟨rfl,?_⟩;refine jx [some (jh T),some (.int (m:G8)),none,none] (λC hC=>⟨_,rfl,T,k,b,rfl,hT,h1,h6,hC⟩) ?_;refine jx [some (jh T),some (.int (m:G8)),none,none] (λC hC=>⟨_,rfl,(m:G8),0,60,rfl,by omega,by omega,hC⟩) ?_;refine jx [some (jh T),some (.int (m:G8)),some (jh (XB k)),none] (λC hC=>⟨_,rfl,k,by rw [G1,hT.len],h6,hC⟩) ?_;refine jf (λσ' h'=> ∃a,σ'= [some (jh T),some (.int (m:G8)),some (jh (zk k T m)),a]/\h=h') (λC hC=> ?_) ?_
 ·refine yS m (λi σ' h'=> ∃a,σ'= [some (jh T),some (.int (m:G8)),some (jh (zk k T i)),a]/\h=h') (by omega) (λR r=>⟨_,rfl,r⟩) ⟨none,rfl,rfl⟩ (λσ' h' z=>hC _ _ z) ?_;rintro i _ _ hi ⟨a,rfl,rfl⟩;refine⟨_,rfl,_,rfl,zk k T i,T,k,_,b,rfl,hT.pow (by omega) i,hT,?_,h6,_,Sub.refl _,by omega,_,rfl,rfl⟩;have:=lN (show i<=60 by omega) (show b+3<=10003 by omega);omega
 rintro _ _ ⟨a,rfl,rfl⟩;exact⟨_,rfl,_,Sub.refl _,q⟩
def Rf:RDn:=λds h Q=> ∃T,∃n e:G5,ds= [jh T]/\Sq n e T/\1<=n/\n<=6/\Q (.bl (zm T)) h
theorem TF (Z:Zs mg)(F:Fun K "full" "full" FT f fd)(jg:je P w K mg base n "want_table" ["thing"] jy):FnOk P w K mg base CX0 (n+1) f fd ["table"] (LSp K Rf):=by
 refine F.okM Ls (λhr=>(js2 (zW (jk jg hr (j1 (jv 0)))) (jR (zB (vd rfl) rfl Z.all C4 (j1 (jak (i:=1) (i':=2) (js:= [1,2]) rfl (jL (by rfl)) (jU (jv 0)) (by decide) (by decide) (by decide) Ls.nd rfl rfl (by first|exact F8 rfl|exact J9 rfl) (by first|exact F8 rfl|exact J9 rfl) (λX' hX=>wm) (λX' hX=>by obtain⟨C,s₀,H₀,ex,rfl⟩:=hX;exact(jU (jv 1))) (λX' hX=>wm) (λX' hX=>by obtain⟨C,s₀,H₀,ex,rfl⟩:=hX;exact(jc1 oq_ne (jv 2) jz)))))))) ?_;rintro ds h Q ⟨T,k,b,rfl,hT,h1,h6,q⟩;refine⟨rfl,?_⟩;refine jx [some (jh T),none,none] (λC hC=>⟨_,rfl,T,k,b,rfl,hT,h1,h6,hC⟩) ?_;refine jbg T vB (λr=>r) D.int (λ_ x=>decide (x≠0)) (Ot hT h6) rfl (λR r=>⟨_,rfl,r⟩) (λr hr R rr=>⟨_,rfl,rr⟩) (λr hr x hx Q' q'=>⟨_,rfl,?_⟩) ⟨h,Sub.refl h,q⟩;show Q' (.bl (!decide (x=0))) h;have e:(!decide (x=0))=decide (x≠0):=by simp
 rw [e];exact q'
def Vr:RDn:=λds h Q=> ∃T,∃n e:G5,ds= [jh T]/\Sq n e T/\1<=n/\n<=6/\Q (jh (jK n T)) h
theorem Au (Z:Zs mg)(F:Fun K "marks" "marks" DY f fd)(jg:je P w K mg base n "want_table" ["thing"] jy):FnOk P w K mg base CX0 (n+1) f fd ["table"] (LSp K Vr):=by
 refine F.okM QN (λhr=>(js2 (zW (jk jg hr (j1 (jv 0)))) (jR (jS jN rfl Z.tuple (by decide +kernel) (j1 (jl0 1 QN (jU (jv 0)) (λ_ _ _ _=>(jS jN rfl Z.tuple (by decide +kernel) (j1 (jl0 2 QN (jU (jv 1)) (λ_ _ _ _=>(jif (jt1 oq_ne (jv 2) jz) jz jz)))))))))))) ?_;rintro ds h Q ⟨T,k,b,rfl,hT,h1,h6,q⟩;refine⟨rfl,?_⟩;refine jx [some (jh T),none,none] (λC hC=>⟨_,rfl,T,k,b,rfl,hT,h1,h6,hC⟩) ?_;refine Mb T vB (λr=> .tup (r.map λx=> .int (if x≠0 then 1 else 0))) (by rw [hT.len];omega) rfl (λR r=>⟨_,rfl,r⟩) (λr hr Q' q'=> ?_) ⟨h,Sub.refl h,?_⟩
 ·refine Mb r D.int (λx=> .int (if x≠0 then 1 else 0)) (by rw [hT.row r hr];omega) rfl (λR r=>⟨_,rfl,r⟩) (λx hx Q'' q''=>⟨_,rfl,_,rfl,?_⟩) q'
  by_cases z:x=0
  ·subst z;exact zA q''
  ·have e:(!decide (x=0))=true:=by simp [z]
   rw [e];rw [D8 z] at q'';exact wc q''
 ·rw [SK,<-SL hT];exact q
def Pt:RDn:=λds h Q=> ∃T,∃n e:G5,ds= [jh T]/\Sq n e T/\1<=n/\n<=6/\Q (jh (YM n T)) h
theorem La (Z:Zs mg)(F:Fun K "turned" "turned" QP f fd)(jg:je P w K mg base n "want_table" ["thing"] jy):FnOk P w K mg base CX0 (n+1) f fd ["table"] (LSp K Pt):=by
 refine F.okM Up (λhr=>(js2 (zW (jk jg hr (j1 (jv 0)))) (jR (jS jN rfl Z.tuple (by decide +kernel) (j1 (jl0 1 Up (jrg Z (yD Z (jv 0))) (λ_ _ _ _=>(jS jN rfl Z.tuple (by decide +kernel) (j1 (jl0 2 Up (jU (jv 0)) (λ_ _ _ _=>(ji1 (jv 2) (jv 1))))))))))))) ?_;rintro ds h Q ⟨T,k,b,rfl,hT,h1,h6,q⟩;refine⟨rfl,?_⟩;refine jx [some (jh T),none,none] (λC hC=>⟨_,rfl,T,k,b,rfl,hT,h1,h6,hC⟩) ?_;refine Mb (G3 k) (λj=> .int (j:G8)) (λj=> .tup (T.map λr=> .int (r.getD j 0))) (by rw [P3];omega) rfl (λR r=>⟨_,rfl,(k:G8),by rw [G1,hT.len],by omega,by omega,r⟩) (λj hj Q' q'=> ?_) ⟨h,Sub.refl h,?_⟩
 ·refine Mb T vB (λr=> .int (r.getD j 0)) (by rw [hT.len];omega) rfl (λR r=>⟨_,rfl,r⟩) (λr hr Q'' q''=>⟨_,rfl,_,rfl,_,Jo (hT.row r hr) (P6.mp hj),q''⟩) q'
 ·have e1: ∀j,T.map (λr=>D.int (r.getD j 0))=(G3 k).map λi=>D.int (ent T i j):=λj=>by
   conv=>lhs;rw [wo T [],hT.len]
   rw [S2];rfl
  have e2:((G3 k).map λj=>D.tup (T.map λr=> .int (r.getD j 0)))=(G3 k).map λj=>D.tup ((G3 k).map λi=>D.int (ent T i j)):=M5 λj _=>by rw [e1]
  rw [e2,Cr];exact q
def XO:RDn:=λds h Q=> ∃T,∃n e:G5,∃o,ds= [jh T,jq o]/\Sq n e T/\Ordr n o/\1<=n/\n<=6/\Q (jh (DE n o T)) h
theorem NI (Z:Zs mg)(F:Fun K "renamed" "renamed" Uq f fd)(jg:je P w K mg base n "want_table" ["thing"] jy)(PZ:je P w K mg base n "want_order" ["table","thing"] Wu):FnOk P w K mg base CX0 (n+1) f fd ["table","order"] (LSp K XO):=by
 refine F.okM vo (λhr=>(js4 (zW (jk jg hr (j1 (jv 0)))) (zW (jk PZ hr (j2 (jv 0) (jv 1)))) (jse 2 vo (jl0 3 vo (jrg Z (yD Z (jv 0))) (λ_ _ _ _=>(jal (jv 1) (jv 3))))) (jR (jS jN rfl Z.tuple (by decide +kernel) (j1 (jl0 4 vo (jU (jv 2)) (λ_ _ _ _=>(jS jN rfl Z.tuple (by decide +kernel) (j1 (jl0 5 vo (jU (jv 2)) (λ_ _ _ _=>(ji1 (ji1 (jv 0) (jv 4)) (jv 5))))))))))))) ?_;rintro ds h Q ⟨T,k,b,o,rfl,hT,ho,h1,h6,q⟩;refine⟨rfl,?_⟩;refine jx [some (jh T),some (jq o),none,none,none,none] (λC hC=>⟨_,rfl,T,k,b,rfl,hT,h1,h6,hC⟩) ?_;refine jx [some (jh T),some (jq o),none,none,none,none] (λC hC=>⟨_,rfl,_,rfl,T,o,k,rfl,hT.len,ho,h6,hC⟩) ?_;have lt: ∀i,i∈G3 k->o.idxOf i<k:=λi hi=>ho.ord.lt (P6.mp hi)
 refine jf (λσ' h'=> ∃p,σ'= [some (jh T),some (jq o),some (.lst p),none,none,none]/\h p=none/\h'=wB h p ((G3 k).map λi=> .int ((o.idxOf i:G5):G8))) (λC hC=> ?_) ?_
 ·refine lcA (G3 k) (λj=> .int (j:G8)) (λi=> .int ((o.idxOf i:G5):G8)) (by rw [P3];omega) rfl (λR r=>⟨_,rfl,(k:G8),by rw [G1,hT.len],by omega,by omega,r⟩) (λi hi Q' q'=> ?_) (λp hp=>hC _ _ ⟨p,rfl,hp,rfl⟩);refine⟨_,rfl,zP o,VN o,_,rfl,(i:G8),rfl,Mc (ho.mem_iff.mpr hi),?_⟩;rw [Os];exact q'
 rintro _ _ ⟨p,rfl,hp,rfl⟩;refine Mb (j:=λh=>h p) (G3 k) (λi=> .int ((o.idxOf i:G5):G8)) (λi=> .tup ((G3 k).map λj=> .int (ent T (o.idxOf i) (o.idxOf j)))) (by rw [P3];omega) jc (λR r=>⟨_,rfl,r⟩) (λi hi Q' q'=> ?_) ⟨h,Sub.newAt (Sub.refl h) hp,?_⟩
 ·refine Mb (j:=λh=>h p) (G3 k) (λi=> .int ((o.idxOf i:G5):G8)) (λj=> .int (ent T (o.idxOf i) (o.idxOf j))) (by rw [P3];omega) jc (λR r=>⟨_,rfl,r⟩) (λj hj Q'' q''=> ?_) q';exact⟨_,rfl,_,rfl,_,Jn hT (lt i hi),_,rfl,_,Jo (hT.row _ (Sq.getRow hT (lt i hi))) (lt j hj),q''⟩
 ·rw [Cr];exact q
def Zo:RDn:=λds h Q=> ∃M T,∃n e:G5,ds= [jh M,jh T]/\Sq n 1 M/\Sq n e T/\1<=n/\n<=6/\e<=1000/\Q (jh (mk1 n T M)) h
theorem Xk (Z:Zs mg)(F:Fun K "marks_after" "marks_after" vI f fd)(UL:je P w K mg base n "marks" ["table"] Vr)(JQ:je P w K mg base n "multiplied" ["one","other"] vP):FnOk P w K mg base CX0 (n+1) f fd ["ahead","table"] (LSp K Zo):=by
 refine F.okM Xh (λhr=>(jC (jR (jk UL hr (j1 (jk JQ hr (j2 (jv 0) (jv 1)))))))) ?_;rintro ds h Q ⟨M,T,n,b,rfl,hM,hT,h1,h6,hb,q⟩;refine⟨rfl,?_⟩;exact⟨_,rfl,_,rfl,M,T,n,1,b,rfl,hM,hT,by omega,h6,Jm n M T,n,_,rfl,hM.mul hT (by omega),h1,h6,h,Sub.refl h,q⟩
def zY:RDn:=λds h Q=> ∃T,∃n e:G5,ds= [jh T]/\Sq n e T/\1<=n/\n<=6/\e<=1000/\ ∀A L J h',h A=none->h' A=some ((G3 L).map λi=>jh (wP n T i))->Sub h h'->Course n T L J->L<=2225->Q (.tup [.lst A,.int ((J:G5):G8)]) h'
theorem ZS (Z:Zs mg)(F:Fun K "marks_and_return" "marks_and_return" wu f fd)(UL:je P w K mg base n "marks" ["table"] Vr)(WE:je P w K mg base n "marks_after" ["ahead","table"] Zo):FnOk P w K mg base CX0 (n+1) f fd ["table"] (LSp K zY):=by
 refine F.okM zc (λhr=>(js4 (jse 1 zc (Dk (j1 (jk UL hr (j1 (jv 0)))))) (jse 2 zc (jk WE hr (j2 (ji1 (jv 1) (Ee jz)) (jv 0)))) (XD B2 (Ck (Qu hr.units) (jv 2) (jv 1) (by with_unfolding_all rfl)) (js2 (zW (SG (jv 1) (jv 2))) (jse 2 zc (jk WE hr (j2 (jv 2) (jv 0)))))) (jR (GP (j2 (jv 1) (jap hr.units (jv 1) (jv 2))))))) ?_;rintro ds h Q ⟨T,n,bb,rfl,hT,h1,h6,hb,q⟩;refine⟨rfl,?_⟩;refine jf (λσ' h'=> ∃A,σ'= [some (jh T),some (.lst A),none]/\h A=none/\h' A=some ((G3 1).map λi=>jh (wP n T i))/\Sub h h') (λC hC=>⟨_,rfl,T,n,bb,rfl,hT,h1,h6,sz1,λA eA=>hC _ _ ⟨A,rfl,eA,jc,Sub.newAt (Sub.refl h) eA⟩⟩) ?_;rintro _ h1' ⟨A,rfl,fA,kA,sbA⟩;refine jx [some (jh T),some (.lst A),some (jh (wP n T 1))] (λC hC=>⟨_,rfl,_,_,kA,Wh (by decide),_,rfl,wP n T 0,T,n,bb,rfl,Qx n T 0,hT,h1,h6,hb,hC⟩) ?_;refine jf (λσ' h'=> ∃L,σ'= [some (jh T),some (.lst A),some (jh (wP n T L))]/\h' A=some ((G3 L).map λi=>jh (wP n T i))/\Sub h h'/\L<=2225/\((G3 L).map (wP n T)).Nodup/\wP n T L∈(G3 L).map (wP n T)) (λC hC=> ?_) ?_
 ·refine Zb (λm σ' h'=> ∃L,σ'= [some (jh T),some (.lst A),some (jh (wP n T L))]/\h' A=some ((G3 L).map λi=>jh (wP n T i))/\Sub h h'/\m=2226-L/\((G3 L).map (wP n T)).Nodup) _ ⟨_,rfl,kA,sbA,rfl,by simp⟩ ?_;rintro m _ h2 ⟨L,rfl,kA2,sb2,hm,nd⟩;have hL:=CS hT h1 h6 nd;have kA3:h2 A=some (((G3 L).map (wP n T)).map jh):=by rw [kA2,S2];rfl
  refine⟨_,rfl,_,rfl,kr jaq kA3 λbo hbo=>⟨_,rfl,Xs (λc=> ?_) (λc=> ?_)⟩⟩
  rotate_left
  ·refine hC _ _ ⟨L,rfl,kA2,sb2,hL,nd,hbo.mp ?_⟩;cases bo with
   |true=>rfl
   |false=>exact absurd rfl c
  have hni:wP n T L ∉ (G3 L).map (wP n T):=λz=>by rw [hbo.mpr z] at c;exact absurd c (by decide)
  refine jf (λσ' h'=>σ'= [some (jh T),some (.lst A),some (jh (wP n T L))]/\h' A=some ((G3 (L+1)).map λi=>jh (wP n T i))/\Sub h h') (λC2 hC2=> ?_) ?_
  ·refine⟨_,rfl,A,rfl,_,rfl,_,kA2,?_,hC2 _ _ ⟨rfl,?_,?_⟩⟩
   ·rw [G1,P3];exact U2 hL (by decide)
   ·rw [jc,F7,S8];rfl
   ·exact(sb2).over fA
  rintro _ h3 ⟨rfl,kA4,sb4⟩;refine⟨_,rfl,_,rfl,wP n T L,T,n,bb,rfl,Qx n T L,hT,h1,h6,hb,2226-(L+1),_,by omega,Sub.refl _,L+1,rfl,kA4,sb4,rfl,?_⟩;rw [F7,S8,Y9];exact⟨nd,by simp,λx hx y hy=>by rw [P1.mp (show y∈ [wP n T L] from hy)];intro e;exact hni (e ▸ hx)⟩
 rintro _ h3 ⟨L,rfl,kA3,sb3,hL,nd,hin⟩;have kA4:h3 A=some (((G3 L).map (wP n T)).map jh):=by rw [kA3,S2];rfl
 obtain⟨J,pd,ps,zz,hat,t1,t2,c1,c2,c3,c4,c5,c6,c7⟩:=ku jaq kA4 hin (by simp;omega);have hJL:J<L:=by have:=(P8.mp hat).1;simpa using this
 have hJe:wP n T L=wP n T J:=by
  rw [P9,C0 hJL] at hat;injection hat with hat
  exact hat.symm
 exact⟨_,rfl,_,rfl,A,rfl,_,rfl,pd,ps,J,zz,t1,t2,c1,c2,c3,c4,c5,c6,c7,sz2,h3,Sub.refl _,q A L J h3 fA kA3 sb3 ⟨nd,hJL,hJe⟩ hL⟩
def UA:RDn:=λds h Q=> ∃T,∃n L J k:G5,∃A,ds= [.lst A,.int (J:G8),.int (k:G8)]/\h A=some ((G3 L).map λi=>jh (wP n T i))/\Course n T L J/\1<=k/\Q (jh (wP n T (k-1))) h
theorem Rg (Z:Zs mg)(F:Fun K "marks_at" "marks_at" WW f fd):FnOk P w K mg base CX0 (n+1) f fd ["told","back","k"] (LSp K UA):=by
 refine F.okM Ur (λhr=>(js3 (jse 3 Ur (jop Jl (jv 2) jz)) (vF (jt1 Qh (jv 3) (yD Z (jv 0))) (jR (ji1 (jv 0) (jv 3)))) (jR (ji1 (jv 0) (jop we (jv 1) (jop vV (jop Jl (jv 3) (jv 1)) (jop Jl (yD Z (jv 0)) (jv 1)))))))) ?_;rintro ds h Q ⟨T,n,L,J,k,A,rfl,kA,c,hk,q⟩;refine⟨rfl,?_⟩;have hJ:=c.lt;have hl:((((G3 L).map λi=>jh (wP n T i)).length:G5):G8)=(L:G8):=by rw [G1,P3]
 have ek:(k:G8)-1=((k-1:G5):G8):=by omega
 refine jf (λσ' h'=>σ'= [some (.lst A),some (.int (J:G8)),some (.int (k:G8)),some (.int ((k-1:G5):G8))]/\h=h') (λC hC=>⟨_,rfl,hC _ _ ⟨by rw [<-ek];rfl,rfl⟩⟩) ?_;rintro _ _ ⟨rfl,rfl⟩;refine jf (λσ' h'=>σ'= [some (.lst A),some (.int (J:G8)),some (.int (k:G8)),some (.int ((k-1:G5):G8))]/\h=h'/\L<=k-1) (λC hC=>⟨_,rfl,_,rfl,_,kA,_,rfl,Xs (λz=> ?_) (λz=>hC _ _ ⟨rfl,rfl,?_⟩)⟩) ?_
 ·have z':((k-1:G5):G8)<((((G3 L).map λi=>jh (wP n T i)).length:G5):G8):=N2 z;rw [hl] at z';exact⟨_,rfl,_,rfl,_,_,kA,VZ (by omega),h,Sub.refl h,q⟩
 ·have z': ¬ ((k-1:G5):G8)<((((G3 L).map λi=>jh (wP n T i)).length:G5):G8):=λw=>z (G9 w)
  rw [hl] at z';omega
 rintro _ _ ⟨rfl,rfl,hLk⟩;have hpos:(0:G8)<((((G3 L).map λi=>jh (wP n T i)).length:G5):G8)-(J:G8):=by rw [hl];omega
 have hix:(J:G8)+(((k-1:G5):G8)-(J:G8))%(((((G3 L).map λi=>jh (wP n T i)).length:G5):G8)-(J:G8))=((J+(k-1-J)%(L-J):G5):G8):=by
  rw [hl,j7,bR,eU (by omega:J<=k-1),eU (by omega:J<=L)]
 have hlt:J+(k-1-J)%(L-J)<L:=by
  have:=V9 (k-1-J) (show 0<L-J by omega);omega
 refine⟨_,rfl,_,rfl,_,rfl,_,rfl,_,rfl,_,kA,_,rfl,hpos,_,jh (wP n T (J+(k-1-J)%(L-J))),kA,?_,h,Sub.refl h,?_⟩
 ·rw [hix];exact VZ hlt
 ·rw [Eh c (by omega)];exact q
def Yt:RDn:=λds h Q=> ∃T,∃n e:G5,ds= [jh T]/\Sq n e T/\1<=n/\n<=6/\e<=1000/\ ∀A L J h',h A=none->h' A=some ((G3 L).map λi=>jh (wP n T i))->Sub h h'->Course n T L J->L<=2225->Q (.lst A) h'
theorem Pu (Z:Zs mg)(F:Fun K "all_marks" "all_marks" ZE f fd)(wx:je P w K mg base n "marks_and_return" ["table"] zY):FnOk P w K mg base CX0 (n+1) f fd ["table"] (LSp K Yt):=by
 refine F.okM Po (λhr=>(jC (jR (ji1 (jk wx hr (j1 (jv 0))) jz)))) ?_;rintro ds h Q ⟨T,n,bb,rfl,hT,h1,h6,hb,q⟩;refine⟨rfl,?_⟩;exact⟨_,rfl,T,n,bb,rfl,hT,h1,h6,hb,λA L J h' fA kA sb c hL=>⟨_,rfl,h',Sub.refl _,q A L J h' fA kA sb c hL⟩⟩
def UB:RDn:=λds h Q=> ∃T,∃n e k:G5,ds= [jh T,.int (k:G8)]/\Sq n e T/\1<=n/\n<=6/\e<=1000/\1<=k/\k<=1000000000000000000000000000000/\Q (jh (wP n T (k-1))) h
theorem Rh (Z:Zs mg)(F:Fun K "marks_of" "marks_of" WX f fd)(jg:je P w K mg base n "want_table" ["thing"] jy)(zd:je P w K mg base n "want_number" ["thing","least","most"] zS)(wx:je P w K mg base n "marks_and_return" ["table"] zY)(NR:je P w K mg base n "marks_at" ["told","back","k"] UA)(zM: ∃tk,mg "MOST_POWER_comings" =some (.int 1000000000000000000000000000000 tk)):FnOk P w K mg base CX0 (n+1) f fd ["table","k"] (LSp K UB):=by
 obtain⟨tk_MOST_POWER_comings,m_MOST_POWER_comings⟩:=zM;refine F.okM UU (λhr=>(js4 (zW (jk jg hr (j1 (jv 0)))) (zW (jk zd hr (j3 (jv 1) jz (Nj rfl m_MOST_POWER_comings)))) (On (jk wx hr (j1 (jv 0))) (GQ (i:=2) (j:=3) rfl UU.nd rfl rfl (F8 rfl) (F8 rfl))) (jR (jk NR hr (j3 (jv 2) (jv 3) (jv 1)))))) ?_;rintro ds h Q ⟨T,n,bb,k,rfl,hT,h1,h6,hb,hk,hk2,q⟩;refine⟨rfl,?_⟩;refine jx [some (jh T),some (.int (k:G8)),none,none] (λC hC=>⟨_,rfl,T,n,bb,rfl,hT,h1,h6,hC⟩) ?_;refine jx [some (jh T),some (.int (k:G8)),none,none] (λC hC=>⟨_,rfl,(k:G8),1,1000000000000000000000000000000,rfl,by omega,by omega,hC⟩) ?_;refine jf (λσ' h'=> ∃A L J,σ'= [some (jh T),some (.int (k:G8)),some (.lst A),some (.int ((J:G5):G8))]/\h' A=some ((G3 L).map λi=>jh (wP n T i))/\Sub h h'/\Course n T L J) (λC hC=>⟨_,rfl,T,n,bb,rfl,hT,h1,h6,hb,λA L J h' fA kA sb c hL=>⟨_,_,rfl,hC _ _ ⟨A,L,J,rfl,kA,sb,c⟩⟩⟩) ?_;rintro _ h2 ⟨A,L,J,rfl,kA,sb,c⟩;exact⟨_,rfl,_,rfl,_,rfl,T,n,L,J,k,A,rfl,kA,c,hk,h,sb,q⟩
theorem TH {r:G0 G8}(h:r.length=n):UX (r.map D.int)=(G3 n).map λ(j:G5)=>D.tup [.int (j:G8),.int (r.getD j 0)]:=by
 apply a9;intro i
 by_cases hi:i<n
 ·have hi':i<(UX (r.map D.int)).length:=by rw [wE,G1,h];exact hi
  obtain⟨x,hx,ed⟩:=Vj (G2 hi');rw [G2 hi',ed];rw [P9,C0 hi];rw [P9,G2 (by omega)] at hx;injection hx with hx
  rw [<-hx];show some (D.tup [D.int (i:G8),D.int r[i]])=some (D.tup [D.int (i:G8),D.int (r.getD i 0)]);rw [D1,G2 (show i<r.length by omega)];rfl
 ·rw [L5 (by rw [wE,G1];omega),L5 (by simp;omega)]
def Wv:RDn:=λds h Q=> ∃T,∃n e p:G5,ds= [jh T,.int (p:G8)]/\Sq n e T/\n<=6/\p<n/\ ∀F,h F=none->Q (.lst F) (wB h F ((wQ T n p).map λ(k:G5)=>D.int (k:G8)))
theorem Av (Z:Zs mg)(F:Fun K "heads" "heads" DZ f fd):FnOk P w K mg base CX0 (n+1) f fd ["table","place"] (LSp K Wv):=by
 refine F.okM MS (λhr=>(jC (jR (Hb (i:=2) (j:=3) (js:= [2,3]) rfl (jL (by rfl)) (Qt rfl Z.enumerate (j1 (ji1 (jv 0) (jv 1)))) (by decide) (by decide) (by decide) MS.nd rfl rfl (by first|exact F8 rfl|exact J9 rfl) (by first|exact F8 rfl|exact J9 rfl) (λX' hX=>by obtain⟨C,s₀,H₀,ex,rfl⟩:=hX;exact Qp (jt1 oq_ne (jv 3) jz)) (λX' hX=>by obtain⟨C,s₀,H₀,ex,rfl⟩:=hX;exact(jv 2)))))) ?_;rintro ds h Q ⟨T,n,bb,p,rfl,hT,n6,hp,q⟩;refine⟨rfl,?_⟩;refine jas (j:=λ_=>some (UX ((T.getD p []).map D.int))) (G3 n) (λj=> .int (j:G8)) (λj=> .int ((T.getD p []).getD j 0)) (λj=> .int (j:G8)) (λj=>decide (ent T p j>0)) (by rw [P3];omega) (congrArg some (TH (hT.row _ (Sq.getRow hT hp)))) (λR r=>⟨_,rfl,_,rfl,_,Jn hT hp,_,rfl,r⟩) (λx hx Q' q'=>⟨_,rfl,_,rfl,?_⟩) (λx hx _ Q' q'=>⟨_,rfl,q'⟩) (λF eF=>⟨_,Sub.refl _,q F eF⟩);have hnn:=(hT.ent_nn hp (P6.mp hx)).1;have e4:(!decide (((T.getD p []).getD x 0)=0))=decide (ent T p x>0):=by
  show (!decide (ent T p x=0))=_
  by_cases z:ent T p x=0
  ·rw [z];rfl
  ·rw [D5 z,G9 (by omega)];rfl
 rw [<-e4] at q';exact q'
def vZ:RDn:=λds h Q=> ∃T d,∃n e:G5,ds= [jh T,d]/\Sq n e T/\1<=n/\n<=6/\okD d=true/\Q (.bl (Xe T n d)) h
theorem YQ (Z:Zs mg)(F:Fun K "has_walk_form" "has_walk_form" yt f fd)(wO:je P w K mg base n "are_places" ["thing","size"] yf):FnOk P w K mg base CX0 (n+1) f fd ["table","thing"] (LSp K vZ):=by
 refine F.okM Jf (λhr=>(js2 (vF (jpt (DB (wS (zN (jk wO hr (j2 (jv 1) (yD Z (jv 0)))))) (Nl (jt1 (Zl hr.units) (jv 1) (GP Yo))))) (jR jbl)) (jR (zB (vd rfl) rfl Z.all C4 (j1 (Hb (i:=2) (j:=3) (js:= [2,3]) rfl (jL (by rfl)) (CI rfl Z.zip (j2 (jv 1) (GS (jv 1) (WK jz) Qq))) (by decide) (by decide) (by decide) Jf.nd rfl rfl (by first|exact F8 rfl|exact J9 rfl) (by first|exact F8 rfl|exact J9 rfl) (λX' hX=>wm) (λX' hX=>by obtain⟨C,s₀,H₀,ex,rfl⟩:=hX;exact(jc1 oq_ne (ji1 (ji1 (jv 0) (jv 2)) (jv 3)) jz)))))))) ?_;rintro ds h Q ⟨T,d,n,bb,rfl,hT,n1,n6,ok,q⟩;refine⟨rfl,?_⟩;have hlen:(((T.map vB).length:G5):G8)=(n:G8):=by rw [G1,hT.len]
 refine jf (λσ' h'=> ∃W,d=jq W/\(∀i∈W,i<n)/\W.length<=1000/\Xe T n d=Qy T W/\W.isEmpty=false/\σ'= [some (jh T),some (jq W),none,none]/\h=h') (λC hC=> ?_) ?_
 ·refine⟨_,rfl,_,rfl,d,_,rfl,ok,_,rfl,?_⟩;rw [hlen];cases hp:yT d n with
  |false=>
   have:Xe T n d=false:=by unfold Xe;rw [hp];rfl
   rw [this] at q;exact wc (wc ⟨h,Sub.refl h,q⟩)
  |true=>
   obtain⟨e1,hW⟩:=Nx hp;have e2:Xe T n d=Qy T (vW d):=by unfold Xe;rw [hp];rfl
   generalize vW d=W at e1 hW e2;have hl:W.length<=1000:=by
    have:=(Uv (e1 ▸ ok)).1
    rwa [G1] at this
   refine zA ⟨_,rfl,sz0,?_⟩;rw [e1];refine⟨Dl W,.tuple [],VW h W,⟨_,rfl,rfl⟩,Nq _,rfl,_,rfl,?_⟩;cases W with
   |nil=>
    have:Xe T n d=false:=by rw [e2];rfl
    rw [this] at q;exact wc ⟨h,Sub.refl h,q⟩
   |cons w W=>exact zA (hC _ _ ⟨w::W,e1,hW,hl,e2,rfl,rfl,rfl⟩)
 rintro _ _ ⟨W,e1,hW,hl,e2,hne,rfl,rfl⟩;rw [e2] at q;have e3:Qy T W=(W.zip (W.drop 1)).all λp=>decide (ent T p.1 p.2>0):=by unfold Qy;rw [hne];rfl
 rw [e3] at q;refine OJ (j:=λ_=>some (Bf (W.map λ(k:G5)=>D.int (k:G8)) (UV (W.map λ(k:G5)=>D.int (k:G8)) (some 1) none))) (W.zip (W.drop 1)) (λp=> .int (p.1:G8)) (λp=> .int (p.2:G8)) (λp=>decide (ent T p.1 p.2>0)) (by rw [cF];omega) (congrArg some (CP W)) (λR r=>⟨_,rfl,_,rfl,_,rfl,_,_,rfl,r⟩) (λp hp Q' q'=> ?_) ⟨h,Sub.refl h,q⟩;have hi:=hW _ (cC hp).1;have hj:=hW _ (F9 (cC hp).2);refine⟨_,rfl,_,rfl,_,Jn hT hi,_,rfl,_,Jo (hT.row _ (Sq.getRow hT hi)) hj,?_⟩;have hnn:=(hT.ent_nn hi hj).1;have e4:(!decide (((T.getD p.1 []).getD p.2 0)=0))=decide (ent T p.1 p.2>0):=by
  show (!decide (ent T p.1 p.2=0))=_
  by_cases z:ent T p.1 p.2=0
  ·rw [z];rfl
  ·rw [D5 z,G9 (by omega)];rfl
 rw [<-e4] at q';exact q'
def wC:RDn:=λds h Q=> ∃T,∃n e one o k:G5,ds= [jh T,.int (one:G8),.int (o:G8),.int (k:G8)]/\Sq n e T/\1<=n/\n<=6/\one<n/\o<n/\k<=40/\Q .non h
theorem Jh (Z:Zs mg)(F:Fun K "want_ends_and_steps" "want_ends_and_steps" zC f fd)(jg:je P w K mg base n "want_table" ["thing"] jy)(YF:je P w K mg base n "want_place" ["table","thing"] Wt)(zd:je P w K mg base n "want_number" ["thing","least","most"] zS)(wy: ∃tk,mg "MOST_STEPS_walks" =some (.int 40 tk)):FnOk P w K mg base CX0 (n+1) f fd ["table","one","other","k"] (LSp K wC):=by
 obtain⟨tk_MOST_STEPS_walks,m_MOST_STEPS_walks⟩:=wy;refine F.okM Jg (λhr=>(js4 (zW (jk jg hr (j1 (jv 0)))) (zW (jk YF hr (j2 (jv 0) (jv 1)))) (zW (jk YF hr (j2 (jv 0) (jv 2)))) (zW (jk zd hr (j3 (jv 3) jz (Nj rfl m_MOST_STEPS_walks)))))) ?_;rintro ds h Q ⟨T,n,bb,one,o,k,rfl,hT,n1,n6,h1,ho,hk,q⟩;refine⟨rfl,?_⟩;refine jx [some (jh T),some (.int (one:G8)),some (.int (o:G8)),some (.int (k:G8))] (λC hC=>⟨_,rfl,T,n,bb,rfl,hT,n1,n6,hC⟩) ?_;refine jx [some (jh T),some (.int (one:G8)),some (.int (o:G8)),some (.int (k:G8))] (λC hC=>⟨_,rfl,_,rfl,T,n,bb,one,rfl,hT,h1,hC⟩) ?_;refine jx [some (jh T),some (.int (one:G8)),some (.int (o:G8)),some (.int (k:G8))] (λC hC=>⟨_,rfl,_,rfl,T,n,bb,o,rfl,hT,ho,hC⟩) ?_;exact⟨_,rfl,(k:G8),0,40,rfl,by omega,by omega,h,Sub.refl h,q⟩
def Yu:RDn:=λds h Q=> ∃T,∃n e o k:G5,ds= [jh T,.int (o:G8),.int (k:G8)]/\Sq n e T/\1<=n/\n<=6/\o<n/\k<=40/\ ∀A h',Sub h h'->Cnts h' A T n o k->Q (.lst A) h'
theorem Pv (Z:Zs mg)(F:Fun K "counts_to" "counts_to" ZF f fd)(ZU:je P w K mg base n "heads" ["table","place"] Wv):FnOk P w K mg base CX0 (n+1) f fd ["table","other","k"] (LSp K Yu):=by
 refine F.okM zE (λhr=>(js4 (jse 3 zE (yD Z (jv 0))) (jse 4 zE (Dk (j1 (jl0 6 zE (jrg Z (jv 3)) (λ_ _ _ _=>(jif (jt1 (Zl hr.units) (jv 6) (jv 1)) jz jz)))))) (GR B2 rfl (jrg Z (jv 2)) (jgn 5 zE) (jC (zW (SG (jv 4) (jl0 6 zE (jrg Z (jv 3)) (λ_ _ _ _=>(zB (Ch rfl) rfl Z.sum (by decide +kernel) (j1 (jl0 7 zE (jU (jk ZU hr (j2 (jv 0) (jv 6)))) (λ_ _ _ _=>(ji1 (ji1 (jv 4) (jv 5)) (jv 7)))))))))))) (jR (jv 4)))) ?_;rintro ds h Q ⟨T,n,bb,o,k,rfl,hT,n1,n6,ho,hk,q⟩;refine⟨rfl,?_⟩;refine jf (λσ' h'=>σ'= [some (jh T),some (.int (o:G8)),some (.int (k:G8)),some (.int (n:G8)),none,none,none,none]/\h=h') (λC hC=>⟨_,rfl,hC _ _ ⟨by rw [G1,hT.len];rfl,rfl⟩⟩) ?_;rintro _ _ ⟨rfl,rfl⟩;refine jf (λσ' h'=> ∃A,∃ (rs:G0 P4),σ'= [some (jh T),some (.int (o:G8)),some (.int (k:G8)),some (.int (n:G8)),some (.lst A),none,none,none]/\h A=none/\h' A=some (rs.map D.lst)/\rs.length=0+1/\(∀t a,rs[t]? =some a->h' a=some ((Ny T n o t).map D.int))/\A ∉ rs/\Sub h h') (λC hC=> ?_) ?_
 ·simp only [Lu,TY,zg,Zx];refine lcA (G3 n) (λj=> .int (j:G8)) (λj=> .int (cnt T n o 0 j)) (by rw [P3];omega) rfl (λR r=>⟨_,rfl,(n:G8),rfl,by omega,by omega,r⟩) (λj hj Q' q'=>⟨_,rfl,_,rfl,_,rfl,?_⟩) (λa ea=>⟨sz1,λA eA=>hC _ _ ⟨A,[a],rfl,?_,jc,rfl,?_,?_,Sub.newAt (Sub.newAt (Sub.refl h) ea) eA⟩⟩)
  ·by_cases z:j=o
   ·subst z;have:cnt T n j 0 j=1:=D8 rfl;rw [this] at q';rw [G9 rfl];exact wc q'
   ·have:cnt T n o 0 j=0:=D9 z;rw [this] at q';have e0:decide ((j:G8)=(o:G8))=false:=D5 (by omega);rw [e0];exact zA q'
  ·cases z:h A with
   |none=>rfl
   |some ds=>rw [jD z ea] at eA;cases eA
  ·intro t b e;cases t with
   |zero=>
    cases (show some a=some b from e);refine jD (L:=(Ny T n o 0).map D.int) ?_ eA;rw [jc];unfold Ny;rw [S2];rfl
   |succ t=>cases e
  ·intro z;rw [P1.mp z,jc] at eA;cases eA
 rintro _ h1 ⟨A,rs,rfl,fA,kA,lr,rows,nA,sb⟩;refine jf (λσ' h'=> ∃a b c,∃ (rs:G0 P4),σ'= [some (jh T),some (.int (o:G8)),some (.int (k:G8)),some (.int (n:G8)),some (.lst A),a,b,c]/\h' A=some (rs.map D.lst)/\rs.length=k+1/\(∀t a,rs[t]? =some a->h' a=some ((Ny T n o t).map D.int))/\A ∉ rs/\Sub h h') (λC hC=> ?_) (λσ' h2 ⟨a,b,c,rs,e,kA,lr,rows,nA,sb⟩=>by subst e;exact⟨_,rfl,h2,Sub.refl _,q A h2 sb ⟨rs,kA,lr,rows⟩⟩);refine yS k (λi σ' h'=> ∃a b c,∃ (rs:G0 P4),σ'= [some (jh T),some (.int (o:G8)),some (.int (k:G8)),some (.int (n:G8)),some (.lst A),a,b,c]/\h' A=some (rs.map D.lst)/\rs.length=i+1/\(∀t a,rs[t]? =some a->h' a=some ((Ny T n o t).map D.int))/\A ∉ rs/\Sub h h') (by omega) (λR r=>⟨_,rfl,r⟩) ⟨none,none,none,rs,rfl,kA,lr,rows,nA,sb⟩ (λσ' h' z=>hC _ _ z) ?_;clear kA lr rows nA sb;rintro i _ h2 hi ⟨a,b,c,rs,rfl,kA,lr,rows,nA,sb⟩;have hil:i<rs.length:=by omega
 have hat:atI (rs.map D.lst) (i:G8)=some (.lst rs[i]):=zK (by rw [P9,G2 hil];rfl);have hrow:=rows i _ (G2 hil);refine⟨_,rfl,A,rfl,Eb (h1:=h2) n (λp ys h'=>ys=(G3 p).map (λp=>D.int (cnt T n o (i+1) p))/\h'=h2) (by omega) (λR r=>⟨_,rfl,r⟩) ⟨rfl,rfl⟩ (λp ys h' ⟨e,_⟩=>by rw [e,G1,P3]) ?_ ?_⟩
 ·rintro p ys h3 hp ⟨rfl,rfl⟩;refine CW ⟨_,rfl,_,rfl,T,n,bb,p,rfl,hT,n6,hp,λF eF=> ?_⟩;refine jam (j:=λh=>h F) (wQ T n p) (λj=> .int (j:G8)) (λj=>cnt T n o i j) (by have:=CU (T:=T) (n:=n) p;omega) jc (λR r=>r) (λj hj Q' q'=>⟨_,rfl,_,rfl,_,_,jD kA eF,hat,_,rfl,_,_,jD hrow eF,Qz (Pe hj),q'⟩) ⟨h3,Sub.newAt (Sub.refl _) eF,by omega,?_,rfl⟩;rw [F7,S8];rfl
 ·rintro ys h3 ⟨rfl,rfl⟩ r er;have nr:r≠A:=jY kA er;refine⟨_,jD kA er,?_,_,Sub.refl _,by omega,_,_,_,rs++ [r],rfl,?_,by rw [P2,lr];rfl,λt b e=> ?_,?_,?_⟩
  ·rw [G1];exact ju (by omega)
  ·rw [jc,S8];rfl
  ·by_cases z:t<rs.length
   ·rw [S4 z] at e;have hb:=rows t b e;have nb:b≠A:=λw=>nA (w ▸ D0 e)
    exact jA nb (jD hb er)
   ·rw [R4 (by omega)] at e;have zt:t-rs.length=0:=by
     have:=(P8.mp e).1;simp at this;omega
    rw [zt] at e;cases (show some r=some b from e);have:t=i+1:=by omega
    subst this;refine jA (M:=(Ny T n o (i+1)).map D.int) nr ?_;rw [jc];unfold Ny;rw [S2];rfl
  ·intro z;rcases R1.mp z with y|y
   ·exact nA y
   ·exact nr (P1.mp y).symm
  ·exact(Sub.newAt sb er).over fA
def Ww:RDn:=λds h Q=> ∃T a,∃n e p o t:G5,∃m:G8,ds= [jh T,.int (p:G8),.lst a,.int m]/\Sq n e T/\n<=6/\p<n/\h a=some ((Ny T n o t).map D.int)/\0<=m/\m<cnt T n o (t+1) p/\Q (.tup [.int (((wr (cnt T n o t) (wQ T n p) m).1:G5):G8),.int (wr (cnt T n o t) (wQ T n p) m).2]) h
theorem Gd (Z:Zs mg)(F:Fun K "next_place" "next_place" JB f fd)(ZU:je P w K mg base n "heads" ["table","place"] Wv):FnOk P w K mg base CX0 (n+1) f fd ["table","place","ahead","number"] (LSp K Ww):=by
 refine F.okM wz (λhr=>(js4 (jse 4 wz (jk ZU hr (j2 (jv 0) (jv 1)))) (jse 5 wz jz) (XD B2 (jt1 Dv (jv 3) (ji1 (jv 2) (ji1 (jv 4) (jv 5)))) (js2 (ST (i:=3) wz.nd rfl (F8 rfl) (ji1 (jv 2) (ji1 (jv 4) (jv 5)))) (CK (i:=5) wz.nd rfl (F8 rfl) jz))) (jR (GP (j2 (ji1 (jv 4) (jv 5)) (jv 3)))))) ?_;rintro ds h Q ⟨T,a,n,bb,p,o,t,m,rfl,hT,n6,hp,ka,m0,hm,q⟩;refine⟨rfl,?_⟩;refine jf (λσ' h'=> ∃F,σ'= [some (jh T),some (.int (p:G8)),some (.lst a),some (.int m),some (.lst F),none]/\h' F=some ((wQ T n p).map λ(k:G5)=>D.int (k:G8))/\h' a=some ((Ny T n o t).map D.int)/\Sub h h') (λC hC=>⟨_,rfl,_,rfl,T,n,bb,p,rfl,hT,n6,hp,λF eF=>hC _ _ ⟨F,rfl,jc,jD ka eF,Sub.newAt (Sub.refl h) eF⟩⟩) ?_;rintro _ h1 ⟨F,rfl,kF,ka1,sb⟩;refine jx [some (jh T),some (.int (p:G8)),some (.lst a),some (.int m),some (.lst F),some (.int 0)] (λC hC=>hC) ?_;have hat: ∀i j:G5,(wQ T n p)[i]? =some j->atI ((wQ T n p).map λ(k:G5)=>D.int (k:G8)) ((i:G5):G8)=some (.int (j:G8)):=λi j hi=>zK (by rw [P9,hi];rfl)
 refine jf (λσ' h'=> ∃ (i:G5) (m':G8) (j:G5),σ'= [some (jh T),some (.int (p:G8)),some (.lst a),some (.int m'),some (.lst F),some (.int (i:G8))]/\h1=h'/\(wQ T n p)[i]? =some j/\wr (cnt T n o t) (wQ T n p) m=(j,m')) (λC hC=> ?_) ?_
 ·refine Zb (λw σ' h'=> ∃ (i:G5) (m':G8),σ'= [some (jh T),some (.int (p:G8)),some (.lst a),some (.int m'),some (.lst F),some (.int (i:G8))]/\h1=h'/\w=(wQ T n p).length-i/\0<=m'/\m'<(((wQ T n p).drop i).map (cnt T n o t)).sum/\wr (cnt T n o t) (wQ T n p) m=wr (cnt T n o t) ((wQ T n p).drop i) m') _ ⟨0,m,rfl,rfl,rfl,m0,hm,rfl⟩ ?_;rintro w _ _ ⟨i,m',rfl,rfl,hw,m0',hm',pk⟩;have hil:i<(wQ T n p).length:=Nat.lt_of_not_le λz=>by rw [L7 z] at hm';simp at hm';omega
  have hj:=G2 hil;have ed:(wQ T n p).drop i=(wQ T n p)[i]::(wQ T n p).drop (i+1):=gJ hil;have jl:(wQ T n p)[i]<n:=Pe (B3 hil);generalize (wQ T n p)[i]=j at hj ed jl;rw [ed] at hm' pk;rw [M1,b9] at hm';refine⟨_,rfl,_,rfl,_,rfl,_,rfl,_,_,kF,hat i j hj,_,_,ka1,Qz jl,?_⟩;refine⟨_,rfl,?_⟩;show if decide (cnt T n o t j<=m')=true then _ else _
  by_cases z:cnt T n o t j<=m'
  ·rw [G9 z];refine wc ?_;refine jx [some (jh T),some (.int (p:G8)),some (.lst a),some (.int (m'-cnt T n o t j)),some (.lst F),some (.int (i:G8))] (λC2 hC2=>⟨m',rfl,_,rfl,_,rfl,_,rfl,_,_,kF,hat i j hj,_,_,ka1,Qz jl,_,rfl,hC2⟩) ?_;refine⟨(i:G8),rfl,_,rfl,(wQ T n p).length-(i+1),_,by omega,Sub.refl _,i+1,m'-cnt T n o t j,rfl,rfl,rfl,by omega,by omega,?_⟩;rw [pk];show wr (cnt T n o t) (j::(wQ T n p).drop (i+1)) m'=_
   conv=>lhs;unfold wr
   rw [D8 z]
  ·rw [D5 z];refine zA (hC _ _ ⟨i,m',j,rfl,rfl,hj,?_⟩);rw [pk]
   conv=>lhs;unfold wr
   rw [D9 z]
 rintro _ _ ⟨i,m',j,rfl,rfl,hj,pk⟩;rw [pk] at q;exact⟨_,rfl,_,rfl,_,_,kF,hat _ _ hj,_,rfl,sz2,h,sb,q⟩
def vq:RDn:=λds h Q=> ∃T A,∃n e one o k:G5,∃m:G8,ds= [jh T,.int (one:G8),.lst A,.int m]/\Sq n e T/\n<=6/\one<n/\k<=40/\Cnts h A T n o k/\0<=m/\m<cnt T n o k one/\Q (jq (wn T n o k one m)) h
theorem Ye (Z:Zs mg)(F:Fun K "walk_of_number" "walk_of_number" wV f fd)(PY:je P w K mg base n "next_place" ["table","place","ahead","number"] Ww):FnOk P w K mg base CX0 (n+1) f fd ["table","one","counts","number"] (LSp K vq):=by
 refine F.okM zJ (λhr=>(js3 (jse 4 zJ (Dk (j1 (jv 1)))) (GR B2 rfl (kJ rfl Z.reversed (j1 (GS (jv 2) Qq (WK (Ee jz))))) (jgn 5 zJ) (js2 (On (jk PY hr (j4 (jv 0) (ji1 (jv 4) (Ee jz)) (jv 5) (jv 3))) (GQ (i:=6) (j:=3) rfl zJ.nd rfl rfl (F8 rfl) (F8 rfl))) (zW (SG (jv 4) (jv 6))))) (jR (jS cq_tuple rfl Z.tuple (by decide +kernel) (j1 (jv 4)))))) ?_;rintro ds h Q ⟨T,A,n,bb,one,o,k,m,rfl,hT,n6,h1,hk,cA,m0,hm,q⟩;refine⟨rfl,?_⟩;refine jf (λσ' h'=> ∃W,σ'= [some (jh T),some (.int (one:G8)),some (.lst A),some (.int m),some (.lst W),none,none]/\h W=none/\h' W=some ((gwN T n o k one m 0).map λ(k:G5)=>D.int (k:G8))/\Sub h h') (λC hC=>⟨_,rfl,sz1,λW eW=>hC _ _ ⟨W,rfl,eW,jc,Sub.newAt (Sub.refl h) eW⟩⟩) ?_;rintro _ h2 ⟨W,rfl,fW,kW,sb⟩;obtain⟨rs,kA,lr,rows⟩:=cA;have hcut:UV (rs.map D.lst) none (some (-1))=(rs.take k).map D.lst:=by
  unfold UV;have e1:HT.sIx (rs.map D.lst).length 0 none=0:=rfl;have e2:HT.sIx (rs.map D.lst).length (rs.map D.lst).length (some (-1))=k:=by
   show (if (-1:G8)<0 then ((-1:G8)+(((rs.map D.lst).length:G5):G8)).toNat else min (-1:G8).toNat (rs.map D.lst).length)=k;rw [D8 (by decide),G1,lr];omega
  rw [e1,e2,dD,nN,mN]
 refine jf (λσ' h'=> ∃m' a b,σ'= [some (jh T),some (.int (one:G8)),some (.lst A),some (.int m'),some (.lst W),a,b]/\h' W=some ((gwN T n o k one m k).map λ(k:G5)=>D.int (k:G8))/\Sub h h') (λC hC=> ?_) ?_
 ·refine⟨_,rfl,_,rfl,_,sb _ _ kA,λp ep=>⟨p,_,rfl,jc,?_⟩⟩;have lt:((rs.take k).map D.lst).length=k:=by rw [G1,T0];omega
  rw [hcut,lt];refine ve (((rs.take k).map D.lst).reverse) (λi σ' h'=> ∃a b,σ'= [some (jh T),some (.int (one:G8)),some (.lst A),some (.int (gpN T n o k one m i).2),some (.lst W),a,b]/\h' p=some ((rs.take k).map D.lst)/\h' W=some ((gwN T n o k one m i).map λ(k:G5)=>D.int (k:G8))/\Sub h h') (λi σ' h' ⟨_,_,_,kp,_⟩=> ?_) ⟨none,none,rfl,jc,jD kW ep,Sub.newAt sb ep⟩ (λσ' h' ⟨a,b,e,_,kW,sb⟩=>hC _ _ ⟨_,a,b,e,by rw [M8,lt] at kW;exact kW,sb⟩) ?_
  ·show (h' p).bind _=_;rw [kp];show (if ((rs.take k).map D.lst).length=k then _ else _)=_;rw [D8 lt]
  have nWp:W≠p:=λz=>by subst z;rw [kW] at ep;cases ep
  clear kW sb;rintro i d _ h3 hd ⟨a,b,rfl,kp,kW,sb⟩;have hi:i<k:=by have:=(P8.mp hd).1;rwa [M8,lt] at this
  rw [U0 (by rw [lt];exact hi),lt,P9,List.getElem?_take,D8 (by omega)] at hd;have hil:k-1-i<rs.length:=by omega
  rw [G2 hil] at hd;cases hd;have hrow:=sb _ _ (rows _ _ (G2 hil));obtain⟨g1,g2,g3⟩:=Fa h1 m0 hm i (by omega);rw [show k-i=(k-1-i)+1 by omega] at g3;have hlast:atI ((gwN T n o k one m i).map λ(k:G5)=>D.int (k:G8)) (-1)=some (.int (((gpN T n o k one m i).1:G5):G8)):=by
   unfold gwN;rw [S2];exact Wh (f:=(λ(k:G5)=>D.int (k:G8))∘λt=>(gpN T n o k one m t).1) (show 1<=i+1 by omega)
  refine jf (λσ' h'=> ∃b,σ'= [some (jh T),some (.int (one:G8)),some (.lst A),some (.int (gpN T n o k one m (i+1)).2),some (.lst W),b,some (.int (((gpN T n o k one m (i+1)).1:G5):G8))]/\h3=h') (λC2 hC2=>⟨_,rfl,_,rfl,_,_,kW,hlast,_,rfl,_,rfl,T,rs[k-1-i],n,bb,(gpN T n o k one m i).1,o,k-1-i,(gpN T n o k one m i).2,rfl,hT,n6,g1,hrow,g2,g3,_,_,rfl,hC2 _ _ ⟨_,rfl,rfl⟩⟩) ?_;rintro _ _ ⟨b,rfl,rfl⟩;refine⟨_,rfl,W,rfl,_,rfl,_,kW,?_,_,Sub.refl _,by rw [M8,lt];omega,_,_,rfl,jA (E8 nWp) kp,?_,?_⟩
  ·rw [G1];unfold gwN;rw [G1,P3];exact ju (by omega)
  ·rw [jc];unfold gwN;rw [F7 (n:=i+1),S8,S8];rfl
  ·exact(sb).over fW
 rintro _ h3 ⟨m',a,b,rfl,kW,sb⟩;rw [CZ] at kW;exact⟨_,rfl,_,kW,h,sb,q⟩
def Wx:RDn:=λds h Q=> ∃T,∃n e one o k:G5,ds= [jh T,.int (one:G8),.int (o:G8),.int (k:G8)]/\Sq n e T/\1<=n/\n<=6/\one<n/\o<n/\k<=40/\Q (if 0<cnt T n o k one then jq (wn T n o k one 0) else .non) h
theorem Ge (Z:Zs mg)(F:Fun K "first_walk" "first_walk" JC f fd)(JR:je P w K mg base n "want_ends_and_steps" ["table","one","other","k"] wC)(Rt:je P w K mg base n "counts_to" ["table","other","k"] Yu)(YY:je P w K mg base n "walk_of_number" ["table","one","counts","number"] vq):FnOk P w K mg base CX0 (n+1) f fd ["table","one","other","k"] (LSp K Wx):=by
 refine F.okM Wq (λhr=>(js3 (zW (jk JR hr (j4 (jv 0) (jv 1) (jv 2) (jv 3)))) (jse 4 Wq (jk Rt hr (j3 (jv 0) (jv 2) (jv 3)))) (jR (jif (jt1 Sv (ji1 (ji1 (jv 4) (jv 3)) (jv 1)) jz) (jk YY hr (j4 (jv 0) (jv 1) (jv 4) jz)) Be)))) ?_;rintro ds h Q ⟨T,n,bb,one,o,k,rfl,hT,n1,n6,h1,ho,hk,q⟩;refine⟨rfl,?_⟩;refine jx [some (jh T),some (.int (one:G8)),some (.int (o:G8)),some (.int (k:G8)),none] (λC hC=>⟨_,rfl,_,rfl,_,rfl,_,rfl,T,n,bb,one,o,k,rfl,hT,n1,n6,h1,ho,hk,hC⟩) ?_;refine jf (λσ' h'=> ∃A,σ'= [some (jh T),some (.int (one:G8)),some (.int (o:G8)),some (.int (k:G8)),some (.lst A)]/\Sub h h'/\Cnts h' A T n o k) (λC hC=>⟨_,rfl,_,rfl,_,rfl,T,n,bb,o,k,rfl,hT,n1,n6,ho,hk,λA h2 sb cA=>hC _ _ ⟨A,rfl,sb,cA⟩⟩) ?_;rintro _ h2 ⟨A,rfl,sb,cA⟩;obtain⟨rs,a,kA,hat,ka⟩:=cA.at (P5 k);refine⟨_,rfl,_,rfl,_,_,kA,hat,_,rfl,_,_,ka,Qz h1,_,rfl,?_⟩;show if decide (cnt T n o k one>0)=true then _ else _
 by_cases z:0<cnt T n o k one
 ·rw [G9 z];rw [D8 z] at q;exact wc ⟨_,rfl,_,rfl,_,rfl,T,A,n,bb,one,o,k,0,rfl,hT,n6,h1,hk,cA,by decide,z,h,sb,q⟩
 ·rw [D5 z];rw [D9 z] at q;exact zA ⟨h,sb,q⟩
def Fst (n:G5)(T:G0 (G0 G8)):D4 G5->Prop
 |none=> ∀k,1<=k->zm (zk n T k)=false
 |some k=>1<=k/\k<=30/\zm (zk n T k)=true/\ ∀j,1<=j->j<k->zm (zk n T j)=false
def NJ:D4 G5->D
 |none=> .non
 |some k=> .int (k:G8)
section
variable {n e:G5}{T:G0 (G0 G8)}
theorem uA (h:Sq n e T)(n1:1<=n)(h6:n<=6): ∃o,Fst n T o:=by
 by_cases z: ∃k,1<=k/\zm (zk n T k)=true
 ·obtain⟨K,hK,f⟩:=z;obtain⟨k,k1,k30,fk⟩:=jbk h n1 h6 hK f;clear f hK
  induction k using G5.strongRecOn with
  |_ k ih=>
   by_cases w: ∃j,1<=j/\j<k/\zm (zk n T j)=true
   ·obtain⟨j,j1,jk,fj⟩:=w;exact ih j jk j1 (by omega) fj
   ·exact⟨some k,k1,k30,fk,λj j1 jk=>by
     cases hf:zm (zk n T j) with
     |false=>rfl
     |true=>exact absurd ⟨j,j1,jk,hf⟩ w⟩
 ·exact⟨none,λk hk=>by
   cases hf:zm (zk n T k) with
   |false=>rfl
   |true=>exact absurd ⟨k,hk,hf⟩ z⟩
theorem TJ {o:D4 G5}(ho:Fst n T o){i:G5}(hi:zm (zk n T (i+1))=true)(lo: ∀m,m<i->zm (zk n T (m+1))=false):o=some (i+1):=by
 cases o with
 |none=>have:=ho (i+1) (by omega);rw [hi] at this;cases this
 |some k=>
  obtain⟨k1,k30,fk,fl⟩:=ho;have a: ¬ (i+1<k):=λz=>by have:=fl (i+1) (by omega) z;rw [hi] at this;cases this
  have b: ¬ (k<i+1):=λz=>by have:=lo (k-1) (by omega);rw [show k-1+1=k by omega,fk] at this;cases this
  rw [show k=i+1 by omega]
theorem Aw {o:D4 G5}(ho:Fst n T o)(lo: ∀m,m<30->zm (zk n T (m+1))=false):o=none:=by
 cases o with
 |none=>rfl
 |some k=>
  obtain⟨k1,k30,fk,fl⟩:=ho;have:=lo (k-1) (by omega);rw [show k-1+1=k by omega,fk] at this;cases this
theorem Gf (h:Sq n e T)(hn:n<=8)(i:G5):zm (wP n T i)=zm (zk n T (i+1)):=by rw [Wi h hn,VL (h.pow hn _)]
end
def yY:RDn:=λds h Q=> ∃T,∃n e:G5,∃o,ds= [jh T]/\Sq n e T/\1<=n/\n<=6/\e<=1000/\Fst n T o/\Q (NJ o) h
theorem Xl (Z:Zs mg)(F:Fun K "first_power" "first_power" vJ f fd)(Rq:je P w K mg base n "all_marks" ["table"] Yt)(XU:je P w K mg base n "full" ["table"] Rf):FnOk P w K mg base CX0 (n+1) f fd ["table"] (LSp K yY):=by
 refine F.okM Zu (λhr=>(js2 (GR B2 rfl (OP rfl Z.enumerate (j1 (jk Rq hr (j1 (jv 0))))) (GQ (i:=1) (j:=2) rfl Zu.nd rfl rfl (F8 rfl) (F8 rfl)) (jC (vF (zN (jk XU hr (j1 (jv 2)))) (jR (jop we (jv 1) jz))))) (jR Be))) ?_;rintro ds h Q ⟨T,k,b,o,rfl,hT,h1,h6,hb,ho,q⟩;refine⟨rfl,?_⟩;have hn:k<=8:=by omega
 refine jf (λσ' h'=>o=none/\Sub h h') (λC hC=> ?_) ?_
 ·refine⟨_,rfl,T,k,b,rfl,hT,h1,h6,hb,λA L J h' fA kA sb hc hL=>⟨A,rfl,?_⟩⟩;refine ve (j:=λh=>(h A).map UX) (UX ((G3 L).map λi=>jh (wP k T i))) (λi σ' h2=> ∃a b',σ'= [some (jh T),a,b']/\h'=h2/\ ∀m,m<i->zm (zk k T (m+1))=false) (λi σ' h2 ⟨_,_,_,e,_⟩=>by rw [<-e];show (h' A).map UX=_;rw [kA];rfl) ⟨none,none,rfl,rfl,λm hm=>absurd hm (Nat.not_lt_zero _)⟩ ?_ ?_
  ·rintro σ' h2 ⟨a,b',e,eh,lo⟩;rw [wE,G1,P3] at lo;refine hC _ _ ⟨Aw ho λm _=> ?_,eh ▸ sb⟩
   by_cases z:m<L
   ·exact lo m z
   ·have lt:=hc.lt;rw [<-Gf hT hn m,<-Eh hc (show J<=m by omega),Gf hT hn];exact lo _ (by have:=V9 (m-J) (show 0<L-J by omega);omega)
  rintro i d _ _ hd ⟨a,b',rfl,rfl,lo⟩;obtain⟨x,hx,rfl⟩:=Vj hd;have hil:i+1<=(UX ((G3 L).map λi=>jh (wP k T i))).length:=(P8.mp hd).1;have hiL:i<L:=by rw [wE,G1,P3] at hil;exact hil
  rw [P9,C0 hiL] at hx;injection hx with hx
  subst hx;refine⟨_,_,rfl,_,rfl,wP k T i,k,1,rfl,Qx k T i,h1,h6,_,rfl,?_⟩;rw [Gf hT hn];cases hf:zm (zk k T (i+1)) with
  |true=>
   refine wc ⟨_,rfl,h,sb,?_⟩;rw [TJ ho hf lo] at q;exact q
  |false=>
   refine zA ⟨_,Sub.refl _,hil,_,_,rfl,rfl,λm hm=> ?_⟩
   by_cases z:m=i
   ·subst z;exact hf
   ·exact lo m (by omega)
 rintro _ h2 ⟨e,sb⟩;subst e;exact⟨h,sb,q⟩
structure WalkOk (T:G0 (G0 G8))(n:G5)(W:G0 G5)(i j m:G5):Prop where
 wd:Xe T n (jq W)=true
 lt: ∀x∈W,x<n
 len:W.length=m+1
 fst:W[0]? =some i
 lst:W[m]? =some j
def yJ:RDn:=λds h Q=> ∃T W,∃n e i j m:G5,∃k:G8,ds= [jh T,jq W,.int (i:G8),.int (j:G8),.int k]/\Sq n e T/\1<=n/\n<=6/\m<=60/\WalkOk T n W i j m/\Q (.bl (decide ((m:G8)=k))) h
theorem Wy (Z:Zs mg)(F:Fun K "is_walk_between" "is_walk_between" wF f fd)(UK:je P w K mg base n "has_walk_form" ["table","thing"] vZ):FnOk P w K mg base CX0 (n+1) f fd ["table","thing","one","other","k"] (LSp K yJ):=by
 refine F.okM Wr (λhr=>(jC (jR (VH (jk UK hr (j2 (jv 0) (jv 1))) (VH (jc1 oq_eq (yD Z (jv 1)) (jop we (jv 4) jz)) (VH (jc1 (Zl hr.units) (ji1 (jv 1) jz) (jv 2)) (Xc (jc1 (Zl hr.units) (ji1 (jv 1) (Ee jz)) (jv 3))))))))) ?_;rintro ds h Q ⟨T,W,n,b,i,j,m,k,rfl,hT,h1,h6,hm,w,q⟩;refine⟨rfl,?_⟩;have okW:okD (jq W)=true:=Uw (by rw [G1,w.len];omega) λd hd=>by obtain⟨x,_,rfl⟩:=R8.mp hd;rfl
 have a0:atI (W.map λ(k:G5)=>D.int (k:G8)) 0=some (.int (i:G8)):=zK (j:=0) (by rw [P9,w.fst];rfl);have a1:atI (W.map λ(k:G5)=>D.int (k:G8)) (-1)=some (.int (j:G8)):=Ml (by rw [G1,w.len];omega) (by rw [G1,w.len,P9,show m+1-1=m by omega,w.lst];rfl);refine⟨_,rfl,_,rfl,T,jq W,n,b,rfl,hT,h1,h6,okW,_,rfl,?_⟩;rw [w.wd];refine wc ⟨_,rfl,_,rfl,?_⟩;show ∃c,D.bl (decide ((((W.map λ(k:G5)=>D.int (k:G8)).length:G5):G8)=k+1))=D.bl c/\_;rw [G1,w.len,show decide ((((m+1:G5):G5):G8)=k+1)=decide ((m:G8)=k) from by rw [B8,M6,M6];omega]
 by_cases z:(m:G8)=k
 ·rw [G9 z] at q ⊢;refine⟨_,rfl,wc ⟨_,rfl,_,a0,_,rfl,?_⟩⟩;show ∃c,D.bl (decide ((i:G8)=(i:G8)))=D.bl c/\_;rw [G9 rfl];refine⟨_,rfl,wc ⟨_,rfl,_,a1,_,rfl,?_⟩⟩;show ∃h',_/\Q (.bl (decide ((j:G8)=(j:G8)))) h';rw [G9 rfl];exact⟨h,Sub.refl h,q⟩
 ·rw [D5 z] at q ⊢;exact⟨_,rfl,zA ⟨h,Sub.refl h,q⟩⟩
theorem Gg (n:G5)(f:G5->D):UX ((G3 n).map f)=(G3 n).map λ(j:G5)=>D.tup [.int (j:G8),f j]:=by
 refine a9 λi=> ?_
 unfold UX;rw [P9,lO,P9,P9]
 by_cases z:i<n
 ·rw [C0 z];simp
 ·rw [L5 (by rw [P3];omega)];rfl
theorem Pw (n1:1<=n)(b:T9):((G3 n).all λ_=>b)=b:=by
 cases b with
 |true=>rw [T8];exact λ_ _=>rfl
 |false=>
  rw [List.all_eq_false];exact⟨0,P6.mpr n1,by decide⟩
def Ri (n:G5)(f:G5->G0 G5):D:= .tup ((G3 n).map λj=>jq (f j))
def vt:RDn:=λds h Q=> ∃T f,∃n e i m:G5,∃k:G8,ds= [jh T,Ri n f,.int (i:G8),.int k]/\Sq n e T/\1<=n/\n<=6/\m<=60/\(∀j,j<n->WalkOk T n (f j) i j m)/\Q (.bl (decide ((m:G8)=k))) h
theorem Yf (Z:Zs mg)(F:Fun K "are_walks_from" "are_walks_from" wW f fd)(Yj:je P w K mg base n "is_walk_between" ["table","thing","one","other","k"] yJ):FnOk P w K mg base CX0 (n+1) f fd ["table","thing","one","k"] (LSp K vt):=by
 refine F.okM vz (λhr=>(js2 (vF (jpt (DB (wS (zN (YL (T:= "tuple") (by decide) rfl Z.isinstance rfl Z.tuple (by decide +kernel) (jv 1)))) (Nl (jt1 oq_ne (yD Z (jv 1)) (yD Z (jv 0)))))) (jR jbl)) (jR (zB (vd rfl) rfl Z.all C4 (j1 (Hb (i:=4) (j:=5) (js:= [4,5]) rfl (jL (by rfl)) (Qt rfl Z.enumerate (j1 (jv 1))) (by decide) (by decide) (by decide) vz.nd rfl rfl (by first|exact F8 rfl|exact J9 rfl) (by first|exact F8 rfl|exact J9 rfl) (λX' hX=>wm) (λX' hX=>by obtain⟨C,s₀,H₀,ex,rfl⟩:=hX;exact(jk Yj hr (jac (jv 0) (by exact(j4 (jv 5) (jv 2) (jv 4) (jv 3)))))))))))) ?_;rintro ds h Q ⟨T,f,n,b,i,m,k,rfl,hT,h1,h6,hm,w,q⟩;refine⟨rfl,?_⟩;refine jx [some (jh T),some (Ri n f),some (.int (i:G8)),some (.int k),none,none] (λC hC=> ?_) ?_
 ·refine⟨_,rfl,_,rfl,_,rfl,zA ⟨_,rfl,_,rfl,?_⟩⟩;show ∃c,D.bl (!decide (((((G3 n).map λj=>jq (f j)).length:G5):G8)=(((T.map vB).length:G5):G8)))=D.bl c/\_;rw [G1,P3,G1,hT.len,G9 rfl];exact⟨_,rfl,zA (hC)⟩
 refine OJ (j:=λ_=>some (UX ((G3 n).map λj=>jq (f j)))) (G3 n) (λj=> .int (j:G8)) (λj=>jq (f j)) (λ_=>decide ((m:G8)=k)) (by rw [P3];omega) (congrArg some (Gg n _)) (λR r=>⟨_,rfl,_,rfl,r⟩) (λj hj Q' q'=>⟨_,rfl,_,rfl,_,rfl,_,rfl,_,rfl,T,f j,n,b,i,j,m,k,rfl,hT,h1,h6,hm,w j (P6.mp hj),q'⟩) ⟨h,Sub.refl h,?_⟩;rw [Pw h1];exact q
def yK (n:G5)(f:G5->G5->G0 G5):D:= .tup ((G3 n).map λi=>Ri n (f i))
def Ja:RDn:=λds h Q=> ∃T f,∃n e m:G5,∃k:G8,ds= [jh T,yK n f,.int k]/\Sq n e T/\1<=n/\n<=6/\m<=60/\(∀i j,i<n->j<n->WalkOk T n (f i j) i j m)/\Q (.bl (decide ((m:G8)=k))) h
theorem YR (Z:Zs mg)(F:Fun K "are_all_walks" "are_all_walks" yu f fd)(YU:je P w K mg base n "are_walks_from" ["table","thing","one","k"] vt):FnOk P w K mg base CX0 (n+1) f fd ["table","thing","k"] (LSp K Ja):=by
 refine F.okM Jd (λhr=>(js2 (vF (jpt (DB (wS (zN (YL (T:= "tuple") (by decide) rfl Z.isinstance rfl Z.tuple (by decide +kernel) (jv 1)))) (Nl (jt1 oq_ne (yD Z (jv 1)) (yD Z (jv 0)))))) (jR jbl)) (jR (zB (vd rfl) rfl Z.all C4 (j1 (Hb (i:=3) (j:=4) (js:= [3,4]) rfl (jL (by rfl)) (Qt rfl Z.enumerate (j1 (jv 1))) (by decide) (by decide) (by decide) Jd.nd rfl rfl (by first|exact F8 rfl|exact J9 rfl) (by first|exact F8 rfl|exact J9 rfl) (λX' hX=>wm) (λX' hX=>by obtain⟨C,s₀,H₀,ex,rfl⟩:=hX;exact(jk YU hr (j4 (jv 0) (jv 4) (jv 3) (jv 2)))))))))) ?_;rintro ds h Q ⟨T,f,n,b,m,k,rfl,hT,h1,h6,hm,w,q⟩;refine⟨rfl,?_⟩;refine jx [some (jh T),some (yK n f),some (.int k),none,none] (λC hC=> ?_) ?_
 ·refine⟨_,rfl,_,rfl,_,rfl,zA ⟨_,rfl,_,rfl,?_⟩⟩;show ∃c,D.bl (!decide (((((G3 n).map λi=>Ri n (f i)).length:G5):G8)=(((T.map vB).length:G5):G8)))=D.bl c/\_;rw [G1,P3,G1,hT.len,G9 rfl];exact⟨_,rfl,zA (hC)⟩
 refine OJ (j:=λ_=>some (UX ((G3 n).map λi=>Ri n (f i)))) (G3 n) (λj=> .int (j:G8)) (λi=>Ri n (f i)) (λ_=>decide ((m:G8)=k)) (by rw [P3];omega) (congrArg some (Gg n _)) (λR r=>⟨_,rfl,_,rfl,r⟩) (λi hi Q' q'=>⟨_,rfl,_,rfl,_,rfl,_,rfl,T,f i,n,b,i,m,k,rfl,hT,h1,h6,hm,λj hj=>w i j (P6.mp hi) hj,q'⟩) ⟨h,Sub.refl h,?_⟩;rw [Pw h1];exact q
def NK (k:G5)(f:G5->G0 G5):D:= .tup ((G3 k).map λt=>jq (f t))
def UC:RDn:=λds h Q=> ∃f,∃k n:G5,ds= [NK k f,.int (k:G8),.int (n:G8)]/\n<=6/\k<=60/\(∀t,t<k->IsS n (f t))/\Q (.bl true) h
theorem Rj (Z:Zs mg)(F:Fun K "are_sets" "are_sets" WY f fd)(WD:je P w K mg base n "is_set" ["thing","size"] Ws):FnOk P w K mg base CX0 (n+1) f fd ["thing","many","size"] (LSp K UC):=by
 refine F.okM Us (λhr=>(jC (jR (VH (YL (T:= "tuple") (by decide) rfl Z.isinstance rfl Z.tuple (by decide +kernel) (jv 0)) (VH (jc1 oq_eq (yD Z (jv 0)) (jv 1)) (Xc (zB (vd rfl) rfl Z.all C4 (j1 (jl0 3 Us (jU (jv 0)) (λ_ _ _ _=>(jk WD hr (j2 (jv 3) (jv 2))))))))))))) ?_;rintro ds h Q ⟨f,k,n,rfl,h6,hk,w,q⟩;refine⟨rfl,?_⟩;refine⟨_,rfl,_,rfl,_,rfl,wc ⟨_,rfl,_,rfl,?_⟩⟩;show ∃c,D.bl (decide (((((G3 k).map λt=>jq (f t)).length:G5):G8)=(k:G8)))=D.bl c/\_;rw [G1,P3,G9 rfl];refine⟨_,rfl,wc ?_⟩;refine uL (j:=λ_=>some ((G3 k).map λt=>jq (f t))) (G3 k) (λt=>jq (f t)) (λ_=>true) (by rw [P3];omega) rfl (λR r=>⟨_,rfl,r⟩) (λt ht Q' q'=>⟨_,rfl,_,rfl,_,n,rfl,h6,.inl ⟨f t,rfl,w t (P6.mp ht),q'⟩⟩) ⟨h,Sub.refl h,?_⟩;rw [show ((G3 k).all λ_=>true)=true from by rw [T8];exact λ_ _=>rfl];exact q
theorem TK (k:G5)(f:G5->D):Bf ((G3 k).map f) (UV ((G3 k).map f) (some 1) none)=(G3 (k-1)).map λt=>D.tup [f t,f (t+1)]:=by
 rw [CO];unfold Bf;refine a9 λi=> ?_
 rw [P9,P9]
 by_cases z:i<k-1
 ·rw [C0 z];have h1:i<((G3 k).map f).length:=by rw [G1,P3];omega
  have h2:i<(((G3 k).map f).drop 1).length:=by rw [N5,G1,P3];omega
  rw [G2 (by rw [cF];omega),List.getElem_zip,gV];simp only [iD,cJ,Option.map_some,cX 1 i]
 ·rw [L5 (by rw [cF,N5,G1,P3];omega),L5 (by rw [P3];omega)];rfl
variable {h:HD}{Q:KD}
theorem Lb {neg:T9}{x:G5}{S:G0 G5}(q:Q (.bl (neg !=decide (x∈S))) h):inE neg (.int (x:G8)) (jq S) h Q:=by
 rw [VN];refine Mh ?_;have:decide ((x:G8)∈zP S)=decide (x∈S):=by
  rw [B8,M6,M6];constructor
  ·intro z;obtain⟨y,hy,e⟩:=R8.mp z;rw [show x=y by omega];exact hy
  ·exact Mc
 rw [this];exact q
def vw:RDn:=λds h Q=> ∃T S,∃n e k:G5,ds= [jh T,NK k (λt=>itF (jE n T) S t)]/\Sq n e T/\n<=6/\k<=60/\IsS n S/\Q (.bl true) h
theorem Yg (Z:Zs mg)(F:Fun K "take_in_arrows" "take_in_arrows" wX f fd)(zF:je P w K mg base n "step_after" ["table","some"] ww):FnOk P w K mg base CX0 (n+1) f fd ["table","sets"] (LSp K vw):=by
 refine F.okM vA (λhr=>(jC (jR (zB (vd rfl) rfl Z.all C4 (j1 (jbn (i:=2) (j:=3) (l:=4) (js:= [2,3,4]) rfl (jL (by rfl)) (CI rfl Z.zip (j2 (jv 1) (GS (jv 1) (WK jz) Qq))) (by decide) (by decide) (by decide) (by decide) (by decide) (by decide) vA.nd rfl rfl rfl (by first|exact F8 rfl|exact J9 rfl) (by first|exact F8 rfl|exact J9 rfl) (by first|exact F8 rfl|exact J9 rfl) (λX' hX=>wm) (λX' hX=>by obtain⟨C,s₀,H₀,ex,rfl⟩:=hX;exact(jU (jk zF hr (j2 (jv 0) (jv 2))))) (λX' hX=>wm) (λX' hX=>by obtain⟨C,s₀,H₀,ex,rfl⟩:=hX;exact(ki (CJ hr.units) (jv 4) (jv 3) (by with_unfolding_all rfl))))))))) ?_;rintro ds h Q ⟨T,S,n,b,k,rfl,hT,h6,hk,hS,q⟩;refine⟨rfl,?_⟩;refine jbo (j:=λ_=>some (Bf ((G3 k).map λt=>jq (itF (jE n T) S t)) (UV ((G3 k).map λt=>jq (itF (jE n T) S t)) (some 1) none))) (G3 (k-1)) (λt=>jq (itF (jE n T) S t)) (λt=>jq (itF (jE n T) S (t+1))) (λt=>itF (jE n T) S (t+1)) (λx=> .int (x:G8)) (λ_ _=>true) ?_ (congrArg some (TK k _)) (λR r=>⟨_,rfl,_,rfl,_,rfl,_,_,rfl,r⟩) (λt ht R r=>⟨_,rfl,_,rfl,T,itF (jE n T) S t,n,b,rfl,hT,hS.it t,h6,r⟩) (λt ht x hx Q' q'=>⟨_,rfl,_,rfl,Lb ?_⟩) ⟨h,Sub.refl h,?_⟩
 ·have: ∀l:G0 G5,(l.flatMap λt=>itF (jE n T) S (t+1)).length<=6*l.length:=by
   intro l
   induction l with
   |nil=>exact P5 _
   |cons t l ih=>
    rw [H0,P2,R7];have:=(hS.it (T:=T) (t+1)).len;omega
  have:=this (G3 (k-1));rw [P3] at this;omega
 ·rw [G9 hx];exact q'
 ·rw [show ((G3 (k-1)).all λt=>(itF (jE n T) S (t+1)).all λ_=>true)=true from by rw [T8];exact λ_ _=>by rw [T8];exact λ_ _=>rfl];exact q
section
variable {n e:G5}{T:G0 (G0 G8)}
theorem uB (h:Sq n e T)(hn:n<=8){m i j:G5}(hi:i<n)(hj:j<n):ent (wP n T m) i j≠0↔RP n T (m+1) i j:=by
 rw [Wi h hn];exact not_congr (vg hi hj)
theorem Er (h:Sq n e T)(hn:n<=8){k:G5}(ho:Fst n T (some k)){m:G5}(hm:k<=m){i j:G5}(hi:i<n)(hj:j<n):RP n T m i j:=by
 have:=VS h hn ho.1 ho.2.2.1 (m-k);rw [show k+(m-k)=m by omega] at this;exact(WN h hn).mp this i j hi hj
theorem Ax (h:Sq n e T)(hn:n<=8){k:G5}(f:zm (zk n T k)=false): ∃i j,i<n/\j<n/\ ¬RP n T k i j:=by
 refine J6 λz=> ?_
 have:zm (zk n T k)=true:=(WN h hn).mpr λi j hi hj=>J6 λw=>z ⟨i,j,hi,hj,w⟩
 rw [f] at this;cases this
end
def Hd (n:G5)(T:G0 (G0 G8))(k one o:G5):D:= .tup [.int (one:G8),.int (o:G8),NK k (λt=>itF (jE n T) [one] t)]
theorem Yh {x:G5}(h:x<n):jM (.int (x:G8)) 0 ((n:G8)-1)=true:=by
 show (decide ((0:G8)<=(x:G8))&&decide ((x:G8)<=(n:G8)-1))=true;rw [G9 (show (0:G8)<=(x:G8) by omega),G9 (show (x:G8)<=(n:G8)-1 by omega)];rfl
def Px:RDn:=λds h Q=> ∃T,∃n e k one o:G5,ds= [jh T,Hd n T k one o,.int (k:G8)]/\Sq n e T/\1<=n/\n<=6/\1<=k/\k<=60/\one<n/\o<n/\ ¬RP n T (k-1) one o/\Q (.bl true) h
theorem Lc (Z:Zs mg)(F:Fun K "is_gap" "is_gap" QQ f fd)(NP:je P w K mg base n "are_sets" ["thing","many","size"] UC)(yl:je P w K mg base n "is_place" ["thing","size"] vO)(YX:je P w K mg base n "take_in_arrows" ["table","sets"] vw):FnOk P w K mg base CX0 (n+1) f fd ["table","thing","k"] (LSp K Px):=by
 refine F.okM UT (λhr=>(js5 (vF (jpt (DB (wS (zN (YL (T:= "tuple") (by decide) rfl Z.isinstance rfl Z.tuple (by decide +kernel) (jv 1)))) (Nl (jt1 oq_ne (yD Z (jv 1)) jz)))) (jR jbl)) (On (jv 1) (kN (i:=3) (j:=4) (l:=5) rfl UT.nd rfl rfl rfl (F8 rfl) (F8 rfl) (F8 rfl))) (jse 6 UT (yD Z (jv 0))) (vF (jpt (DB (wS (zN (jk yl hr (j2 (jv 3) (jv 6))))) (DB (wS (zN (jk yl hr (j2 (jv 4) (jv 6))))) (Nl (wS (zN (jk NP hr (j3 (jv 5) (jv 2) (jv 6))))))))) (jR jbl)) (jR (VH (ki (CJ hr.units) (jv 3) (ji1 (jv 5) jz) (by with_unfolding_all rfl)) (VH (jk YX hr (j2 (jv 0) (jv 5))) (Xc (ki (Qu hr.units) (jv 4) (ji1 (jv 5) (Ee jz)) (by with_unfolding_all rfl)))))))) ?_;rintro ds h Q ⟨T,n,b,k,one,o,rfl,hT,h1,h6,k1,k60,h2,ho,nr,q⟩;refine⟨rfl,?_⟩;have hn:n<=8:=by omega
 refine jx [some (jh T),some (Hd n T k one o),some (.int (k:G8)),none,none,none,none] (λC hC=>⟨_,rfl,_,rfl,_,rfl,zA ⟨_,rfl,_,rfl,zA (hC)⟩⟩) ?_;refine jx [some (jh T),some (Hd n T k one o),some (.int (k:G8)),some (.int (one:G8)),some (.int (o:G8)),some (NK k (λt=>itF (jE n T) [one] t)),none] (λC hC=>⟨_,rfl,_,_,_,rfl,hC⟩) ?_;refine jf (λσ' h'=>σ'= [some (jh T),some (Hd n T k one o),some (.int (k:G8)),some (.int (one:G8)),some (.int (o:G8)),some (NK k (λt=>itF (jE n T) [one] t)),some (.int (n:G8))]/\h=h') (λC hC=>⟨_,rfl,hC _ _ ⟨by rw [G1,hT.len];rfl,rfl⟩⟩) ?_;rintro _ _ ⟨rfl,rfl⟩;refine jx [some (jh T),some (Hd n T k one o),some (.int (k:G8)),some (.int (one:G8)),some (.int (o:G8)),some (NK k (λt=>itF (jE n T) [one] t)),some (.int (n:G8))] (λC hC=>⟨_,rfl,_,rfl,.int (one:G8),(n:G8),rfl,rfl,?_⟩) ?_
 ·rw [Yh h2];refine⟨_,rfl,zA ⟨_,rfl,_,rfl,.int (o:G8),(n:G8),rfl,rfl,?_⟩⟩;rw [Yh ho];exact⟨_,rfl,zA ⟨_,rfl,_,rfl,_,rfl,λt=>itF (jE n T) [one] t,k,n,rfl,h6,k60,λt _=>IsS.it (QH h2) t,_,rfl,zA (hC)⟩⟩
 have at0:atI ((G3 k).map λt=>jq (itF (jE n T) [one] t)) 0=some (jq [one]):=zK (j:=0) (by rw [P9,C0 (by omega)];rfl);have atL:atI ((G3 k).map λt=>jq (itF (jE n T) [one] t)) (-1)=some (jq (itF (jE n T) [one] (k-1))):=Wh k1;refine⟨_,rfl,_,rfl,_,at0,Lb ⟨_,rfl,?_⟩⟩;rw [G9 (show one∈ [one] from P1.mpr rfl)];refine wc ⟨_,rfl,_,rfl,T,[one],n,b,k,rfl,hT,h6,k60,QH h2,_,rfl,wc ⟨_,rfl,_,rfl,_,atL,Lb ⟨h,Sub.refl h,?_⟩⟩⟩;rw [D5 (show ¬o∈itF (jE n T) [one] (k-1) from λz=>nr ((MF hT hn h2 (k-1) o).mp z).2)];exact q
def Ld (n:G5)(T:G0 (G0 G8))(k:G5)(g:D):Prop:=(k=1/\g= .non)\/ ∃one o,2<=k/\one<n/\o<n/\ ¬RP n T (k-1) one o/\g=Hd n T k one o
def Zp:RDn:=λds h Q=> ∃T f g,∃n e m:G5,∃k:G8,ds= [jh T,.tup [.int k,yK n f,g]]/\Sq n e T/\1<=n/\n<=6/\1<=m/\m<=60/\(∀i j,i<n->j<n->WalkOk T n (f i j) i j m)/\(((m:G8)≠k/\Q (.bl false) h)\/((m:G8)=k/\Ld n T m g/\Q (.bl true) h))
theorem Xm (Z:Zs mg)(F:Fun K "first_holds" "first_holds" vK f fd)(jg:je P w K mg base n "want_table" ["thing"] jy)(UI:je P w K mg base n "are_all_walks" ["table","thing","k"] Ja)(Ll:je P w K mg base n "is_from" ["thing","least"] XM)(AE:je P w K mg base n "is_gap" ["table","thing","k"] Px):FnOk P w K mg base CX0 (n+1) f fd ["table","thing"] (LSp K Zp):=by
 refine F.okM Zt (λhr=>(js5 (zW (jk jg hr (j1 (jv 0)))) (vF (jpt (DB (wS (zN (YL (T:= "tuple") (by decide) rfl Z.isinstance rfl Z.tuple (by decide +kernel) (jv 1)))) (Nl (jt1 oq_ne (yD Z (jv 1)) jz)))) (jR jbl)) (On (jv 1) (kN (i:=2) (j:=3) (l:=4) rfl Zt.nd rfl rfl rfl (F8 rfl) (F8 rfl) (F8 rfl))) (vF (jpt (DB (wS (zN (jk Ll hr (j2 (jv 2) jz)))) (Nl (wS (zN (jk UI hr (j3 (jv 0) (jv 3) (jv 2)))))))) (jR jbl)) (jR (jif (jt1 oq_eq (jv 2) jz) (jc1 Dz (jv 4) Be) (jk AE hr (j3 (jv 0) (jv 4) (jv 2))))))) ?_;rintro ds h Q ⟨T,f,g,n,b,m,k,rfl,hT,h1,h6,m1,m60,w,q⟩;refine⟨rfl,?_⟩;refine jx [some (jh T),some (.tup [.int k,yK n f,g]),none,none,none] (λC hC=>⟨_,rfl,T,n,b,rfl,hT,h1,h6,hC⟩) ?_;refine jx [some (jh T),some (.tup [.int k,yK n f,g]),none,none,none] (λC hC=>⟨_,rfl,_,rfl,_,rfl,zA ⟨_,rfl,_,rfl,zA (hC)⟩⟩) ?_;refine jx [some (jh T),some (.tup [.int k,yK n f,g]),some (.int k),some (yK n f),some g] (λC hC=>⟨_,rfl,_,_,_,rfl,hC⟩) ?_;refine jf (λσ' h'=>σ'= [some (jh T),some (.tup [.int k,yK n f,g]),some (.int k),some (yK n f),some g]/\h=h'/\(m:G8)=k/\Ld n T m g/\Q (.bl true) h) (λC hC=>⟨_,rfl,k,1,rfl,?_⟩) ?_
 ·by_cases z:(1:G8)<=k
  ·rw [G9 z];refine⟨_,rfl,zA ⟨_,rfl,_,rfl,_,rfl,T,f,n,b,m,k,rfl,hT,h1,h6,m60,w,_,rfl,?_⟩⟩;rcases q with ⟨ne,q⟩|⟨e,ig,q⟩
   ·rw [D5 ne];exact wc ⟨h,Sub.refl h,q⟩
   ·rw [G9 e];exact zA (hC _ _ ⟨rfl,rfl,e,ig,q⟩)
  ·rw [D5 z];rcases q with ⟨ne,q⟩|⟨e,ig,q⟩
   ·exact⟨_,rfl,wc (wc ⟨h,Sub.refl h,q⟩)⟩
   ·omega
 rintro _ _ ⟨rfl,rfl,e,ig,qt⟩;clear q;subst e;refine⟨_,rfl,?_⟩;show ∃c,D.bl (decide ((m:G8)=1))=D.bl c/\_;rcases ig with ⟨rfl,rfl⟩|⟨one,o,m2,h2,ho,nr,rfl⟩
 ·exact⟨_,rfl,wc ⟨_,rfl,h,Sub.refl h,qt⟩⟩
 ·rw [D5 (show ¬ (m:G8)=1 by omega)];exact⟨_,rfl,zA ⟨_,rfl,_,rfl,_,rfl,T,n,b,m,one,o,rfl,hT,h1,h6,m1,m60,h2,ho,nr,h,Sub.refl h,qt⟩⟩
def Yv:RDn:=λds h Q=> ∃M,∃n e:G5,ds= [jh M]/\Sq n e M/\n<=6/\(∃i j,i<n/\j<n/\ent M i j=0)/\ ∀i j:G5,i<n->j<n->ent M i j=0->Q (.tup [.int (i:G8),.int (j:G8)]) h
theorem Py (Z:Zs mg)(F:Fun K "nought_of" "nought_of" ZG f fd):FnOk P w K mg base CX0 (n+1) f fd ["table"] (LSp K Yv):=by
 refine F.okM JZ (λhr=>(js2 (jse 1 JZ (ji1 (Hb (i:=2) (j:=3) (js:= [2,3]) rfl (jL (by rfl)) (Qt rfl Z.enumerate (j1 (jv 0))) (by decide) (by decide) (by decide) JZ.nd rfl rfl (by first|exact F8 rfl|exact J9 rfl) (by first|exact F8 rfl|exact J9 rfl) (λX' hX=>by obtain⟨C,s₀,H₀,ex,rfl⟩:=hX;exact Qp (Ck (CJ hr.units) jz (jv 3) (by with_unfolding_all rfl))) (λX' hX=>by obtain⟨C,s₀,H₀,ex,rfl⟩:=hX;exact(jv 2))) jz)) (jR (GP (j2 (jv 1) (jal (ji1 (jv 0) (jv 1)) jz)))))) ?_;rintro ds h Q ⟨M,n,b,rfl,hM,h6,⟨i0,j0,hi0,hj0,z0⟩,q⟩;refine⟨rfl,?_⟩;have rowz: ∀i,i<n->(decide ((0:G8)∈M.getD i [])=true↔ ∃j,j<n/\ent M i j=0):=λi hi=>by
  have hl:=hM.row _ (Sq.getRow hM hi);rw [M6];unfold ent;generalize M.getD i []=r at hl;constructor
  ·intro w;obtain⟨j,hj,ej⟩:=E1 w;exact⟨j,by omega,by rw [D1,G2 hj,ej];rfl⟩
  ·rintro ⟨j,hj,ej⟩;rw [<-ej,D1,G2 (by omega)];exact B3 _
 have en:UX (M.map vB)=(G3 n).map λ(i:G5)=>D.tup [.int (i:G8),vB (M.getD i [])]:=by
  conv=>lhs;rw [wo M [],hM.len,S2]
  exact Gg n (λi=>vB (M.getD i []))
 refine jf (λσ' h'=> ∃i:G5,σ'= [some (jh M),some (.int (i:G8)),none,none]/\Sub h h'/\i<n/\ ∃j,j<n/\ent M i j=0) (λC hC=> ?_) ?_
 ·unfold Lu dOp;refine jas (j:=λ_=>some (UX (M.map vB))) (G3 n) (λi=> .int (i:G8)) (λi=>vB (M.getD i [])) (λi=> .int (i:G8)) (λi=>decide ((0:G8)∈M.getD i [])) (by rw [P3];omega) (congrArg some en) (λR r=>⟨_,rfl,_,rfl,r⟩) (λi hi Q' q'=>⟨_,rfl,Mh ⟨_,rfl,by rw [show ((false !=decide ((0:G8)∈M.getD i [])))=decide ((0:G8)∈M.getD i []) from by cases decide ((0:G8)∈M.getD i [])<;>rfl];exact q'⟩⟩) (λi hi _ Q' q'=>⟨_,rfl,q'⟩) (λF eF=> ?_);have ne:(G3 n).filter (λi=>decide ((0:G8)∈M.getD i []))≠ []:=λz=>by
   have:i0∈(G3 n).filter (λi=>decide ((0:G8)∈M.getD i [])):=M7.mpr ⟨P6.mpr hi0,(rowz i0 hi0).mpr ⟨j0,hj0,z0⟩⟩;rw [z] at this;cases this
  obtain⟨i,r,er⟩:=List.exists_cons_of_ne_nil ne;have im:i∈(G3 n).filter (λi=>decide ((0:G8)∈M.getD i [])):=by rw [er];exact R3
  obtain⟨hi,zi⟩:=M7.mp im;exact⟨_,_,jc,zK (j:=0) (by rw [P9,er];rfl),hC _ _ ⟨i,rfl,Sub.newAt (Sub.refl h) eF,P6.mp hi,(rowz i (P6.mp hi)).mp zi⟩⟩
 rintro _ h2 ⟨i,rfl,sb,hi,j,hj,zj⟩;have hl:=hM.row _ (Sq.getRow hM hi);have mem:(0:G8)∈M.getD i []:=N2 ((rowz i hi).mpr ⟨j,hj,zj⟩);have il:(M.getD i []).idxOf 0<(M.getD i []).length:=A9.mpr mem;have ez:ent M i ((M.getD i []).idxOf 0)=0:=by
  unfold ent;rw [D1,G2 il,K4 il];rfl
 exact⟨_,rfl,_,rfl,_,rfl,_,Jn hM hi,M.getD i [],rfl,0,rfl,mem,sz2,h,sb,q i _ hi (by omega) ez⟩
def Yw:RDn:=λds h Q=> ∃T,∃n e k:G5,ds= [jh T,.int (k:G8)]/\Sq n e T/\1<=n/\n<=6/\e<=1000/\Fst n T (some k)/\ ∀g,Ld n T k g->Q g h
theorem Pz (Z:Zs mg)(F:Fun K "gap_ahead" "gap_ahead" ZH f fd)(Rv:je P w K mg base n "nought_of" ["table"] Yv)(NS:je P w K mg base n "marks_of" ["table","k"] UB)(Rx:je P w K mg base n "set_after" ["table","some","k"] Ys):FnOk P w K mg base CX0 (n+1) f fd ["table","k"] (LSp K Yw):=by
 refine F.okM JY (λhr=>(js3 (vF (jt1 oq_eq (jv 1) jz) (jR Be)) (On (jk Rv hr (j1 (jk NS hr (j2 (jv 0) (jop Jl (jv 1) jz))))) (GQ (i:=2) (j:=3) rfl JY.nd rfl rfl (by first|exact J9 rfl|exact F8 rfl) (F8 rfl))) (jR (GP (j3 (jv 2) (jv 3) (jS jN rfl Z.tuple (by decide +kernel) (j1 (jl0 4 JY (jrg Z (jv 1)) (λ_ _ _ _=>(jk Rx hr (j3 (jv 0) (GP (j1 (jv 2))) (jv 4)))))))))))) ?_;rintro ds h Q ⟨T,n,b,k,rfl,hT,h1,h6,hb,hk,q⟩;refine⟨rfl,?_⟩;have hn:n<=8:=by omega
 have k1:=hk.1;have k30:=hk.2.1;refine jf (λσ' h'=>σ'= [some (jh T),some (.int (k:G8)),none,none,none]/\h=h'/\2<=k) (λC hC=>⟨_,rfl,?_⟩) ?_
 ·show ∃c,D.bl (decide ((k:G8)=1))=D.bl c/\_
  by_cases z:k=1
  ·rw [G9 (show (k:G8)=1 by omega)];exact⟨_,rfl,wc ⟨h,Sub.refl h,q _ (.inl ⟨z,rfl⟩)⟩⟩
  ·rw [D5 (show ¬ (k:G8)=1 by omega)];exact⟨_,rfl,zA (hC _ _ ⟨rfl,rfl,by omega⟩)⟩
 rintro _ _ ⟨rfl,rfl,k2⟩;obtain⟨i0,j0,hi0,hj0,nr0⟩:=Ax hT hn (hk.2.2.2 (k-1) (by omega) (by omega));have zr: ∀i j,i<n->j<n->(ent (wP n T (k-1-1)) i j=0↔ ¬RP n T (k-1) i j):=λi j hi hj=>by
  have:=uB hT hn hi hj (m:=k-1-1);rw [show k-1-1+1=k-1 by omega] at this;rw [<-this];exact IQ.symm
 refine jf (λσ' h'=> ∃i j:G5,σ'= [some (jh T),some (.int (k:G8)),some (.int (i:G8)),some (.int (j:G8)),none]/\h=h'/\i<n/\j<n/\ ¬RP n T (k-1) i j) (λC hC=>⟨_,rfl,_,rfl,T,n,b,k-1,?_,hT,h1,h6,hb,by omega,?_,wP n T (k-1-1),n,1,rfl,Qx n T _,h6,⟨i0,j0,hi0,hj0,(zr i0 j0 hi0 hj0).mpr nr0⟩,λi j hi hj z=>⟨_,_,rfl,hC _ _ ⟨i,j,rfl,rfl,hi,hj,(zr i j hi hj).mp z⟩⟩⟩) ?_
 ·rw [show (k:G8)-1=((k-1:G5):G8) by omega]
 ·exact T5 (show _<=100 by omega) (by decide)
 rintro _ _ ⟨i,j,rfl,rfl,hi,hj,nr⟩;refine⟨_,rfl,_,rfl,?_⟩;refine Mb (j:=λ_=>some ((G3 k).map λ(t:G5)=>D.int (t:G8))) (G3 k) (λt=> .int (t:G8)) (λt=>jq (itF (jE n T) [i] t)) (by rw [P3];omega) rfl (λR r=>⟨_,rfl,(k:G8),rfl,by omega,by omega,r⟩) (λt ht Q' q'=>⟨_,rfl,_,rfl,sz1,_,rfl,T,[i],n,b,t,rfl,hT,h1,h6,QH hi,by have:=P6.mp ht;omega,q'⟩) ⟨sz3,h,Sub.refl h,q _ (.inr ⟨i,j,k2,hi,hj,nr,rfl⟩)⟩
theorem Ay {W:G0 G5}(h: ∀i∈W,i<n)(w:Qy T W=true):Xe T n (jq W)=true:=by
 have e:vW (jq W)=W:=by
  show (W.map λ(k:G5)=>D.int (k:G8)).map CT=W;rw [S2]
  conv=>rhs;rw [<-dZ W]
  rfl
 have p:yT (jq W) (n:G8)=true:=by
  show (W.map λ(k:G5)=>D.int (k:G8)).all (λx=>jM x 0 ((n:G8)-1))=true;rw [T8];intro x hx;obtain⟨i,hi,rfl⟩:=R8.mp hx;exact Yh (h i hi)
 unfold Xe;rw [p,e,w];rfl
theorem qC (h:Sq n e T){i j k:G5}(hi:i<n)(hj:j<n)(c:0<cnt T n j k i):WalkOk T n (wn T n j k i 0) i j k:=by
 refine⟨Ay (kT hi (bH _) c) (Fc k i (bH _) c),kT hi (bH _) c,kU k i 0,?_,Fb k i (bH _) c⟩;obtain⟨r,er,_⟩:=DL (T:=T) (n:=n) (o:=j) k i 0;rw [er];rfl
def Yx:RDn:=λds h Q=> ∃T,∃n e:G5,∃o,ds= [jh T]/\Sq n e T/\1<=n/\n<=6/\e<=1000/\Fst n T o/\((o=none/\Q .non h)\/ ∃k,o=some k/\ ∀g,Ld n T k g->Q (.tup [.int (k:G8),yK n (λi j=>wn T n j k i 0),g]) h)
theorem PB (Z:Zs mg)(F:Fun K "why_first" "why_first" ZI f fd)(yg:je P w K mg base n "first_power" ["table"] yY)(PX:je P w K mg base n "first_walk" ["table","one","other","k"] Wx)(Ru:je P w K mg base n "gap_ahead" ["table","k"] Yw):FnOk P w K mg base CX0 (n+1) f fd ["table"] (LSp K Yx):=by
 refine F.okM wf (λhr=>(js5 (jse 1 wf (jk yg hr (j1 (jv 0)))) (vF (jt1 Dz (jv 1) Be) (jR Be)) (jse 2 wf (kj rfl rfl Z.list rfl Z.range (j1 (yD Z (jv 0))))) (jse 3 wf (jS jN rfl Z.tuple (by decide +kernel) (j1 (jl0 4 wf (jU (jv 2)) (λ_ _ _ _=>(jS jN rfl Z.tuple (by decide +kernel) (j1 (jl0 5 wf (jU (jv 2)) (λ_ _ _ _=>(jk PX hr (j4 (jv 0) (jv 4) (jv 5) (jv 1)))))))))))) (jR (GP (j3 (jv 1) (jv 3) (jk Ru hr (j2 (jv 0) (jv 1)))))))) ?_;rintro ds h Q ⟨T,n,b,o,rfl,hT,h1,h6,hb,ho,q⟩;refine⟨rfl,?_⟩;have hn:n<=8:=by omega
 refine jx [some (jh T),some (NJ o),none,none,none,none] (λC hC=>⟨_,rfl,T,n,b,o,rfl,hT,h1,h6,hb,ho,hC⟩) ?_;rcases q with ⟨rfl,q⟩|⟨k,rfl,q⟩
 ·refine jf (λ_ _=>False) (λC hC=>⟨_,rfl,_,rfl,wc ⟨h,Sub.refl h,q⟩⟩) (λ_ _ z=>z.elim)
 have k30:=ho.2.1;refine jx [some (jh T),some (.int (k:G8)),none,none,none,none] (λC hC=>⟨_,rfl,_,rfl,zA (hC)⟩) ?_;refine jf (λσ' h'=> ∃P,σ'= [some (jh T),some (.int (k:G8)),some (.lst P),none,none,none]/\h' P=some ((G3 n).map λ(k:G5)=>D.int (k:G8))/\Sub h h') (λC hC=>⟨_,rfl,n,by rw [G1,hT.len],by omega,λP eP=>hC _ _ ⟨P,rfl,jc,Sub.newAt (Sub.refl h) eP⟩⟩) ?_;rintro _ h2 ⟨P,rfl,kP,sb⟩;refine jx [some (jh T),some (.int (k:G8)),some (.lst P),some (yK n (λi j=>wn T n j k i 0)),none,none] (λC hC=> ?_) ?_
 ·refine Mb (j:=λh=>h P) (G3 n) (λi=> .int (i:G8)) (λi=>Ri n (λj=>wn T n j k i 0)) (by rw [P3];omega) kP (λR r=>⟨_,rfl,r⟩) (λi hi Q' q'=> ?_) (hC);have hi:=P6.mp hi;refine Mb (j:=λh=>h P) (G3 n) (λj=> .int (j:G8)) (λj=>jq (wn T n j k i 0)) (by rw [P3];omega) kP (λR r=>⟨_,rfl,r⟩) (λj hj Q2 q2=>⟨_,rfl,_,rfl,_,rfl,_,rfl,T,n,b,i,j,k,rfl,hT,h1,h6,hi,P6.mp hj,by omega,?_⟩) q';rw [D8 ((Mz hT hn (P6.mp hj) k hi).mpr (Er hT hn ho (P5 _) hi (P6.mp hj)))];exact q2
 exact⟨_,rfl,_,rfl,_,rfl,_,rfl,T,n,b,k,rfl,hT,h1,h6,hb,ho,λg ig=>⟨sz3,h,sb,q g ig⟩⟩
def XQ:RDn:=λds h Q=> ∃T,∃n e:G5,ds= [jh T]/\Sq n e T/\n<=6/\ ∀R rs h',GB n h h' R rs (wk T n)->Q (.lst R) h'
theorem NL (Z:Zs mg)(F:Fun K "reaches" "reaches" Ut f fd):FnOk P w K mg base CX0 (n+1) f fd ["table"] (LSp K XQ):=by
 refine F.okM wG (λhr=>(js4 (jse 1 wG (yD Z (jv 0))) (Ed (i:=4) (k:=2) (js:= [4]) rfl wG.nd rfl (F8 rfl) (jL (by rfl)) (jrg Z (jv 1)) (by decide) rfl (by first|exact F8 rfl|exact J9 rfl) (λX' hX=>wm) (λX' hX=>by obtain⟨C,s₀,H₀,ex,rfl⟩:=hX;exact(jl0 5 wG (jrg Z (jv 1)) (λ_ _ _ _=>(jor (jc1 (Zl hr.units) (jv 4) (jv 5)) (Xc (jc1 oq_ne (ji1 (ji1 (jv 0) (jv 4)) (jv 5)) jz))))))) (GR B2 rfl (jrg Z (jv 1)) (jgn 3 wG) (jC (GR B2 rfl (jrg Z (jv 1)) (jgn 4 wG) (jC (GR B2 rfl (jrg Z (jv 1)) (jgn 5 wG) (jC (vF (jpt (Nm (zN (ji1 (ji1 (jv 2) (jv 4)) (jv 3))) (Nk (zN (ji1 (ji1 (jv 2) (jv 3)) (jv 5)))))) (On jbl (Co (ji1 (jv 2) (jv 4)) (jv 5)))))))))) (jR (jv 2)))) ?_;rintro ds h Q ⟨T,n,b,rfl,hT,h6,q⟩;refine⟨rfl,?_⟩;refine jf (λσ' h'=>σ'= [some (jh T),some (.int (n:G8)),none,none,none,none]/\h=h') (λC hC=>⟨_,rfl,hC _ _ ⟨by rw [G1,hT.len];rfl,rfl⟩⟩) ?_;rintro _ _ ⟨rfl,rfl⟩;refine jf (λσ' h'=> ∃R rs u v w,σ'= [some (jh T),some (.int (n:G8)),some (.lst R),u,v,w]/\GB n h h' R rs (wk T 0)) (λC hC=> ?_) ?_
 ·refine Eb (h1:=h) n (λi ys h'=> ∃rs,ys=rs.map D.lst/\rs.length=i/\Sub h h'/\rs.Nodup/\ ∀m a,rs[m]? =some a->h a=none/\h' a=some ((G3 n).map λj=>D.bl (wk T 0 m j))) (by omega) (λR r=>⟨_,rfl,r⟩) ⟨[],rfl,rfl,Sub.refl h,List.nodup_nil,by simp⟩ (λi ys h' ⟨rs,e,el,_⟩=>by rw [e,G1];exact el) ?_ ?_
  ·rintro i ys h3 hi ⟨rs,rfl,lrs,sb3,nd3,rows3⟩;refine lcA (G3 n) (λj=> .int (j:G8)) (λj=> .bl (wk T 0 i j)) (by rw [P3];omega) rfl (λR r=>⟨_,rfl,(n:G8),rfl,by omega,by omega,r⟩) (λj hj Q' q'=>⟨_,rfl,_,rfl,_,rfl,?_⟩) (λp5 e5=> ?_)
   ·have hj:=P6.mp hj;have q':Q' (.bl (decide (i=j)|| !decide (ent T i j=0))) h3:=q';have ed:decide ((i:G8)=(j:G8))=decide (i=j):=by rw [B8,M6,M6];omega
    rw [ed]
    by_cases c:i=j
    ·rw [G9 c] at q' ⊢;exact wc q'
    ·rw [D5 c] at q' ⊢;exact zA ⟨_,rfl,_,rfl,_,Jn hT hi,_,rfl,_,Jo (hT.row _ (Sq.getRow hT hi)) hj,q'⟩
   ·refine⟨_,Sub.refl _,by omega,rs++ [p5],by rw [S8];rfl,by rw [P2,lrs];rfl,Sub.newAt sb3 e5,?_,λm a ha=> ?_⟩
    ·rw [Y9];refine⟨nd3,by simp,λa ha b hb z=> ?_⟩;rw [P1.mp hb] at z;subst z;obtain⟨m,hm⟩:=lW ha;rw [(rows3 m _ hm).2] at e5;cases e5
    ·by_cases hm:m<rs.length
     ·rw [S4 hm] at ha;exact⟨(rows3 m a ha).1,jD (rows3 m a ha).2 e5⟩
     ·rw [R4 (by omega)] at ha;have em:m-rs.length=0:=by
       have:=(P8.mp ha).1;simp at this;omega
      rw [em] at ha;have ea:p5=a:=by simpa using ha
      subst ea;have:m=i:=by omega
      subst this;exact⟨Vm sb3 e5,jc⟩
  ·rintro ys h3 ⟨rs,rfl,lrs,sb3,nd3,rows3⟩ R eR;refine hC _ _ ⟨R,rs,_,_,_,rfl,jc,lrs,λhR=> ?_,nd3,Sub.newAt sb3 eR,λi a ha=>⟨(rows3 i a ha).1,jD (rows3 i a ha).2 eR⟩⟩;obtain⟨m,hm⟩:=lW hR;rw [(rows3 m _ hm).2] at eR;cases eR
 rintro _ h3 ⟨R,rs,u,v,w,rfl,G⟩;refine jf (λσ' h'=> ∃u v w,σ'= [some (jh T),some (.int (n:G8)),some (.lst R),u,v,w]/\GB n h h' R rs (wk T n)) (λC hC=> ?_) ?_
 ·refine yS n (λk σ' h'=> ∃u v w,σ'= [some (jh T),some (.int (n:G8)),some (.lst R),u,v,w]/\GB n h h' R rs (wk T k)) (by omega) (λR r=>⟨_,rfl,r⟩) ⟨u,v,w,rfl,G⟩ (λσ' h' z=>hC _ _ z) ?_;clear G;rintro k _ h4 hk ⟨u,v,w,rfl,G⟩;refine yS n (λi σ' h'=> ∃v w,σ'= [some (jh T),some (.int (n:G8)),some (.lst R),some (.int (k:G8)),v,w]/\GB n h h' R rs (fW T k i 0)) (by omega) (λR r=>⟨_,rfl,r⟩) ⟨v,w,rfl,G.as λx y _ _=>To T k x y⟩ (λσ' h' ⟨v,w,e,G⟩=>⟨_,Sub.refl _,by omega,_,v,w,e,G.as λx y hx _=>um T k x y hx⟩) ?_;clear G;rintro i _ h5 hi ⟨v,w,rfl,G⟩;refine yS n (λj σ' h'=> ∃w,σ'= [some (jh T),some (.int (n:G8)),some (.lst R),some (.int (k:G8)),some (.int (i:G8)),w]/\GB n h h' R rs (fW T k i j)) (by omega) (λR r=>⟨_,rfl,r⟩) ⟨w,rfl,G⟩ (λσ' h' ⟨w,e,G⟩=>⟨_,Sub.refl _,by omega,_,w,e,G.as λx y _ hy=>Tn T k i x y hy⟩) ?_;clear G;rintro j _ h6' hj ⟨w,rfl,G⟩;obtain⟨a,ha,a1,a2⟩:=G.pick hi;obtain⟨c,hc,c1,c2⟩:=G.pick hk;refine⟨_,rfl,_,rfl,_,_,G.at_,a1,_,rfl,_,_,a2,Mu hk,_,rfl,?_⟩;rw [ui];refine Xs (λz1=> ?_) λz1=> ?_
  ·refine⟨_,rfl,_,rfl,_,_,G.at_,c1,_,rfl,_,_,c2,Mu hj,_,rfl,?_⟩;rw [uj];refine Xs (λz2=> ?_) λz2=> ?_
   ·exact⟨_,rfl,_,rfl,_,_,G.at_,a1,_,rfl,a,(j:G8),_,j,rfl,rfl,a2,SZ (by rw [G1,P3];exact hj),_,Sub.refl _,by omega,_,rfl,(G.put ha).as λx y _ _=>ul z1 z2 x y⟩
   ·exact⟨_,Sub.refl _,by omega,_,rfl,G.as λx y _ _=>FA (λz=>z2 z.2) x y⟩
  ·exact⟨_,Sub.refl _,by omega,_,rfl,G.as λx y _ _=>FA (λz=>z1 z.1) x y⟩
 rintro _ h4 ⟨u,v,w,rfl,G⟩;exact⟨_,rfl,_,Sub.refl _,q R rs h4 G⟩
def Yy:RDn:=λds h Q=> ∃R rs h0 T,∃n:G5,ds= [.lst R]/\GB n h0 h R rs (wk T n)/\n<=6/\ ∀A h',h A=none->h' A=some ((Zm T n).map jq)->Sub h h'->Q (.lst A) h'
theorem PC (Z:Zs mg)(F:Fun K "pieces_by" "pieces_by" ZJ f fd):FnOk P w K mg base CX0 (n+1) f fd ["come"] (LSp K Yy):=by
 refine F.okM wg (λhr=>(js4 (jse 1 wg (yD Z (jv 0))) (jse 2 wg (Dk Yo)) (GR B2 rfl (jrg Z (jv 1)) (jgn 3 wg) (js2 (jse 4 wg (jS jN rfl Z.tuple (by decide +kernel) (j1 (jl1 5 wg (jrg Z (jv 1)) (λ_ _ _ _=>(jpt (Nm (zN (ji1 (ji1 (jv 0) (jv 3)) (jv 5))) (Nk (zN (ji1 (ji1 (jv 0) (jv 5)) (jv 3))))))) (λ_ _ _ _=>(jv 5)))))) (vF (jt1 (Zl hr.units) (ji1 (jv 4) jz) (jv 3)) (zW (SG (jv 2) (jv 4)))))) (jR (jv 2)))) ?_;rintro ds h Q ⟨R,rs,h0,T,n,rfl,G,h6,q⟩;refine⟨rfl,?_⟩;refine jf (λσ' h'=>σ'= [some (.lst R),some (.int (n:G8)),none,none,none,none]/\h=h') (λC hC=> ?_) ?_
 ·exact⟨_,rfl,_,G.at_,hC _ _ ⟨by rw [G1,G.len];rfl,rfl⟩⟩
 rintro _ _ ⟨rfl,rfl⟩;refine jf (λσ' h'=> ∃A,σ'= [some (.lst R),some (.int (n:G8)),some (.lst A),none,none,none]/\h A=none/\Sub h h'/\h' A=some []) (λC hC=>⟨sz0,λA eA=>hC _ _ ⟨A,rfl,eA,Sub.newAt (Sub.refl h) eA,jc⟩⟩) ?_;rintro _ h1 ⟨A,rfl,nA,sb,kA⟩;refine jf (λσ' h'=> ∃u v w,σ'= [some (.lst R),some (.int (n:G8)),some (.lst A),u,v,w]/\Sub h h'/\h' A=some ((Zm T n).map jq)) (λC hC=> ?_) ?_
 ·refine yS n (λk σ' h'=> ∃u v w,σ'= [some (.lst R),some (.int (n:G8)),some (.lst A),u,v,w]/\Sub h h'/\h' A=some (((((G3 k).filter (λp=>decide ((pcS T n p).headD 0=p))).map (pcS T n))).map jq)) (by omega) (λR r=>⟨_,rfl,r⟩) ⟨_,_,_,rfl,sb,kA⟩ (λσ' h' z=>hC _ _ z) ?_;clear sb kA;rintro k _ h2 hk ⟨u,v,w,rfl,sb,kA⟩;have GG:=G.up sb;obtain⟨a,ha,a1,a2⟩:=GG.pick hk;refine jf (λσ' h'=> ∃w,σ'= [some (.lst R),some (.int (n:G8)),some (.lst A),some (.int (k:G8)),some (jq (pcS T n k)),w]/\h2=h') (λC hC=> ?_) ?_
  ·refine OL n (λj ys h'=>h'=h2/\ys=((G3 j).filter λi=>wk T n k i&&wk T n i k).map λ(i:G5)=>D.int (i:G8)) (by omega) (λR r=>⟨_,rfl,r⟩) ⟨rfl,rfl⟩ (λj ys h' w=> ?_) (λj ys h' hj w=> ?_) (λys h' w=> ?_)
   ·rw [w.2,G1];exact T5 (O9 _ _) (by rw [P3];exact P5 _)
   ·obtain⟨rfl,rfl⟩:=w;obtain⟨c,hc,c1,c2⟩:=GG.pick hj;refine⟨_,rfl,_,rfl,_,_,GG.at_,a1,_,rfl,_,_,a2,Mu hj,_,rfl,Xs (λz1=> ?_) λz1=> ?_⟩
    ·refine⟨_,rfl,_,rfl,_,_,GG.at_,c1,_,rfl,_,_,c2,Mu hk,_,rfl,Xs (λz2=> ?_) λz2=> ?_⟩
     ·refine⟨_,rfl,_,Sub.refl _,by omega,rfl,?_⟩;rw [F7,A4,S8,K7 (by rw [z1,z2];rfl)];rfl
     ·refine⟨_,Sub.refl _,by omega,rfl,?_⟩;rw [F7,A4,S8,V5 (by rw [B7];exact λz=>z2 z.2)];simp
    ·refine⟨_,Sub.refl _,by omega,rfl,?_⟩;rw [F7,A4,S8,V5 (by rw [B7];exact λz=>z1 z.1)];simp
   ·obtain⟨rfl,rfl⟩:=w;exact hC _ _ ⟨_,rfl,rfl⟩
  rintro _ _ ⟨w',rfl,rfl⟩;obtain⟨r,er⟩:=FJ (T:=T) hk;have a0:((pcS T n k).map λ(i:G5)=>D.int (i:G8))[0]? =some (.int (((pcS T n k).headD 0:G5):G8)):=by
   cases z:pcS T n k with
   |nil=>rw [z] at er;cases er
   |cons x r=>rfl
  refine⟨_,rfl,_,zK (j:=0) a0,_,rfl,?_⟩;show ∃k_1,D.bl (decide ((((pcS T n k).headD 0:G5):G8)=(k:G8)))= .bl k_1/\_;refine⟨_,rfl,Xs (λz=> ?_) λz=> ?_⟩
  ·have z:(pcS T n k).headD 0=k:=by have:=N2 z;omega
   refine⟨_,rfl,A,rfl,_,rfl,_,kA,?_,_,Sub.refl _,by omega,_,_,_,rfl,sb.over nA,?_⟩
   ·rw [G1,G1];exact ju (T5 (O9 _ _) (by rw [P3];omega))
   ·rw [jc,F7,A4,K7 (by rw [M6];exact z),k5,S8,S8];rfl
  ·have z: ¬ (pcS T n k).headD 0=k:=λe=>z (G9 (by omega))
   refine⟨_,Sub.refl _,by omega,_,_,_,rfl,sb,?_⟩;rw [kA,F7,A4,V5 (by rw [M6];exact z),k5,A2]
 rintro _ h4 ⟨u,v,w,rfl,sb4,k4⟩;exact⟨_,rfl,_,Sub.refl _,q A h4 nA k4 sb4⟩
def PD:RDn:=λds h Q=> ∃T,∃n e:G5,ds= [jh T]/\Sq n e T/\1<=n/\n<=6/\ ∀A h',h A=none->h' A=some ((Zm T n).map jq)->Sub h h'->Q (.lst A) h'
theorem Le (Z:Zs mg)(F:Fun K "pieces" "pieces" QR f fd)(jg:je P w K mg base n "want_table" ["thing"] jy)(Rw:je P w K mg base n "pieces_by" ["come"] Yy)(Lm:je P w K mg base n "reaches" ["table"] XQ):FnOk P w K mg base CX0 (n+1) f fd ["table"] (LSp K PD):=by
 refine F.okM FU (λhr=>(js2 (zW (jk jg hr (j1 (jv 0)))) (jR (jk Rw hr (j1 (jk Lm hr (j1 (jv 0)))))))) ?_;rintro ds h Q ⟨T,n,b,rfl,hT,h1,h6,q⟩;refine⟨rfl,?_⟩;refine jx [some (jh T)] (λC hC=>⟨_,rfl,T,n,b,rfl,hT,h1,h6,hC⟩) ?_;exact⟨_,rfl,T,n,b,rfl,hT,h6,λR rs h2 G=>⟨R,rs,h,T,n,rfl,G,h6,λA h3 nA kA sb=>⟨_,Sub.refl _,q A h3 (Vm G.sb nA) kA ((G.sb).trans sb)⟩⟩⟩
def UD:RDn:=λds h Q=> ∃T,∃n e:G5,ds= [jh T]/\Sq n e T/\1<=n/\n<=6/\Q (.bl (decide ((Zm T n).length=1))) h
theorem Lf (Z:Zs mg)(F:Fun K "joined" "joined" QU f fd)(AF:je P w K mg base n "pieces" ["table"] PD):FnOk P w K mg base CX0 (n+1) f fd ["table"] (LSp K UD):=by
 refine F.okM FV (λhr=>(jC (jR (jc1 oq_eq (yD Z (jk AF hr (j1 (jv 0)))) jz)))) ?_;rintro ds h Q ⟨T,n,b,rfl,hT,h1,h6,q⟩;refine⟨rfl,?_⟩;refine⟨_,rfl,T,n,b,rfl,hT,h1,h6,λA h2 nA kA sb=>⟨_,kA,?_⟩⟩;show ∃h0,Sub h0 h2/\Q (.bl (decide (((((Zm T n).map jq).length:G5):G8)=1))) h0;refine⟨h,sb,?_⟩;rw [G1,show decide ((((Zm T n).length:G5):G8)=1)=decide ((Zm T n).length=1) from by rw [B8,M6,M6];omega];exact q
theorem ifT {c:T9}{A B:Prop}(e:c=true)(a:A):if c=true then A else B:=by rw [D8 e];exact a
theorem ifF {c:T9}{A B:Prop}(e:c=false)(b:B):if c=true then A else B:=by subst e;exact b
def Jb:RDn:=λds h Q=> ∃a b:G5,ds= [.int (a:G8),.int (b:G8)]/\Q (.int ((bO a b:G5):G8)) h
theorem YS (Z:Zs mg)(F:Fun K "greatest_into" "greatest_into" yw f fd):FnOk P w K mg base CX0 (n+1) f fd ["one","other"] (LSp K Jb):=by
 refine F.okM Je (λhr=>(js2 (XD B2 (jt1 oq_ne (jv 1) jz) (jC (jaj (i:=0) (j:=1) rfl Je.nd rfl rfl (by decide) rfl rfl (j2 (jv 1) (jop vV (jv 0) (jv 1))) rfl))) (jR (jv 0)))) ?_;rintro ds h Q ⟨a,b,rfl,q⟩;refine⟨rfl,?_⟩;refine jf (λσ' h'=> ∃d,σ'= [some (.int ((bO a b:G5):G8)),d]/\h=h') (λC hC=> ?_) ?_
 ·refine Zb (λm σ' h'=> ∃x:G5,σ'= [some (.int (x:G8)),some (.int (m:G8))]/\h=h'/\bO x m=bO a b) b ⟨a,rfl,rfl,rfl⟩ ?_;rintro m _ _ ⟨x,rfl,rfl,hg⟩;refine⟨_,rfl,_,rfl,?_⟩
  by_cases z:m=0
  ·subst z;rw [m5] at hg;subst hg;exact ifF (by decide) (hC _ _ ⟨_,rfl,rfl⟩)
  ·refine ifT (congrArg not (D5 (show ¬ (m:G8)=0 by omega))) ⟨_,rfl,_,rfl,_,rfl,(by omega:(0:G8)<(m:G8)),_,_,rfl,x%m,_,V9 _ (by omega),Sub.refl _,m,?_,rfl,?_⟩
   ·rw [bR];rfl
   ·rw [tN,<-Nat.gcd_rec,tN];exact hg
 rintro _ _ ⟨d,rfl,rfl⟩;exact⟨_,rfl,h,Sub.refl h,q⟩
theorem Lg (w:G0 G5):((wQ T n (w.getLastD 0)).filter λj=>decide (w.headD 0<j)&& !decide (j∈w)).map (λj=>jq (w++ [j]))=(uQ (Ji T) n w).map jq:=by
 unfold uQ wQ;rw [List.filter_filter,S2];have:(λj=>(decide (w.headD 0<j)&& !decide (j∈w))&&decide (ent T (w.getLastD 0) j>0))=Tq (Ji T) w:=by
  funext j
  unfold Tq Ji;rw [Bool.and_comm]
 rw [this];rfl
theorem MN {t:G5}:((lev (Ji T) n t).flatMap λw=>((wQ T n (w.getLastD 0)).filter λj=>decide (w.headD 0<j)&& !decide (j∈w)).map λj=>jq (w++ [j]))=(lev (Ji T) n (t+1)).map jq:=by
 show _=((lev (Ji T) n t).flatMap (uQ (Ji T) n)).map jq;rw [oS];exact congrArg (λf=>(lev (Ji T) n t).flatMap f) (funext λw=>Lg w)
def Wz:RDn:=λds h Q=> ∃T,∃n e:G5,ds= [jh T]/\Sq n e T/\1<=n/\n<=6/\ ∀A h',h A=none->h' A=some ((yq T n).map jq)->Sub h h'->Q (.lst A) h'
theorem Gh (Z:Zs mg)(F:Fun K "all_rounds" "all_rounds" JD f fd)(jg:je P w K mg base n "want_table" ["thing"] jy)(ZU:je P w K mg base n "heads" ["table","place"] Wv):FnOk P w K mg base CX0 (n+1) f fd ["table"] (LSp K Wz):=by
 refine F.okM zH (λhr=>(js5 (zW (jk jg hr (j1 (jv 0)))) (jse 1 zH (Dk Yo)) (Ed (i:=3) (k:=2) (js:= [3]) rfl zH.nd rfl (F8 rfl) (jL (by rfl)) (jrg Z (yD Z (jv 0))) (by decide) rfl (by first|exact F8 rfl|exact J9 rfl) (λX' hX=>wm) (λX' hX=>by obtain⟨C,s₀,H₀,ex,rfl⟩:=hX;exact(GP (j1 (jv 3))))) (XD B2 (qo (jv 2)) (js2 (jse 1 zH (jop we (jv 1) (jl1 4 zH (jU (jv 2)) (λ_ _ _ _=>(jt1 oq_ne (ji1 (ji1 (jv 0) (ji1 (jv 4) (Ee jz))) (ji1 (jv 4) jz)) jz)) (λ_ _ _ _=>(jv 4))))) (Tp (i:=4) (i':=5) (k:=2) (js:= [4,5]) rfl zH.nd rfl (F8 rfl) (jL (by rfl)) (jU (jv 2)) (by decide) (by decide) (by decide) rfl rfl (by first|exact F8 rfl|exact J9 rfl) (by first|exact F8 rfl|exact J9 rfl) (λX' hX=>wm) (λX' hX=>by obtain⟨C,s₀,H₀,ex,rfl⟩:=hX;exact(jU (jk ZU hr (j2 (jv 0) (ji1 (jv 4) (Ee jz)))))) (λX' hX=>by obtain⟨C,s₀,H₀,ex,rfl⟩:=hX;exact Qp (jpt (Nm (jt1 Sv (jv 5) (ji1 (jv 4) jz)) (Nk (Ck (Qu hr.units) (jv 5) (jv 4) (by with_unfolding_all rfl)))))) (λX' hX=>by obtain⟨C,s₀,H₀,ex,rfl⟩:=hX;exact(jop we (jv 4) (GP (j1 (jv 5)))))))) (jR (zB (XJ hr) rfl Z.sorted (by decide +kernel) (j1 (jv 1)))))) ?_;rintro ds h Q ⟨T,n,b,rfl,hT,h1,h6,q⟩;refine⟨rfl,?_⟩;refine jx [some (jh T),none,none,none,none,none] (λC hC=>⟨_,rfl,T,n,b,rfl,hT,h1,h6,hC⟩) ?_;refine jf (λσ' h'=> ∃A,σ'= [some (jh T),some (.lst A),none,none,none,none]/\h' A=some []/\Sub h h') (λC hC=>⟨sz0,λA eA=>hC _ _ ⟨A,rfl,jc,Sub.newAt (Sub.refl h) eA⟩⟩) ?_;rintro _ h2 ⟨A,rfl,kA,sA⟩;refine jf (λσ' h'=> ∃B c,σ'= [some (jh T),some (.lst A),some (.lst B),c,none,none]/\h' A=some ((Xf (Ji T) n 0).map jq)/\h' B=some ((lev (Ji T) n 0).map jq)/\Sub h h') (λC hC=> ?_) ?_
 ·refine lcA (G3 n) (λj=> .int (j:G8)) (λi=>jq [i]) (by rw [P3];omega) rfl (λR r=>⟨_,rfl,(n:G8),by rw [G1,hT.len],by omega,by omega,r⟩) (λj hj Q' q'=>⟨_,rfl,sz1,q'⟩) (λB eB=>hC _ _ ⟨B,_,rfl,jD kA eB,?_,Sub.newAt sA eB⟩);rw [jc];show _=some (((G3 n).map λi=> [i]).map jq);rw [S2];rfl
 rintro _ h3 ⟨B,c,rfl,kA,kB,sb⟩;refine jf (λσ' h'=> ∃A B c,σ'= [some (jh T),some (.lst A),some (.lst B),c,none,none]/\h' A=some ((Xf (Ji T) n n).map jq)/\Sub h h') (λC hC=> ?_) ?_
 ·refine Zb (λm σ' h'=> ∃ (t:G5) (A B:P4) (c:D4 D),σ'= [some (jh T),some (.lst A),some (.lst B),c,none,none]/\m=n-t/\t<=n/\h' A=some ((Xf (Ji T) n t).map jq)/\h' B=some ((lev (Ji T) n t).map jq)/\Sub h h') n ⟨0,A,B,c,rfl,rfl,N4 _,kA,kB,sb⟩ ?_;clear kA kB sb;rintro m _ h4 ⟨t,A,B,c,rfl,rfl,tn,kA,kB,sb⟩;refine⟨_,rfl,!((lev (Ji T) n t).map jq).isEmpty,⟨_,kB,rfl⟩,?_⟩
  by_cases z:(lev (Ji T) n t)= []
  ·rw [z];refine zA (hC _ _ ⟨A,B,c,rfl,?_,sb⟩);have:=(Pl (n-t) z).1;rw [show t+(n-t)=n by omega] at this;rw [this];exact kA
  ·have tl:t<n:=by
    rcases U9 t n with w|w
    ·exact w
    ·have:t=n:=by omega
     subst this;exact absurd (Ts h6) z
   have ll:=FB (g:=Ji T) h6 (show t<=6 by omega);have rl:=Mv (g:=Ji T) h6 (show t<=6 by omega);have l2:=FB (g:=Ji T) h6 (show t+1<=6 by omega);rw [show (!((lev (Ji T) n t).map jq).isEmpty)=true from by cases e:(lev (Ji T) n t) with|nil=>exact absurd e z|cons _ _=>rfl];refine wc ?_;refine jf (λσ' h'=> ∃A,σ'= [some (jh T),some (.lst A),some (.lst B),c,none,none]/\h' A=some ((Xf (Ji T) n (t+1)).map jq)/\h' B=some ((lev (Ji T) n t).map jq)/\Sub h h') (λC hC=>⟨_,rfl,?_⟩) ?_
   ·refine lcF (j:=λh=>h B) (lev (Ji T) n t) jq jq (λw=>Ji T (w.getLastD 0) (w.headD 0)) (by omega) kB (λR r=>⟨_,rfl,r⟩) (λw hw Q' q'=> ?_) (λw hw _ Q' q'=>⟨_,rfl,q'⟩) (λF eF=>⟨_,_,jD kA eF,jc,?_,λp e=>hC _ _ ⟨p,rfl,?_,jD (jD kB eF) e,(((sb).newAt eF).newAt e)⟩⟩)
    ·have o:=Um hw;have he:=o.lt _ (FE o.len);have hh:=o.lt _ (Ah o.len);refine⟨_,rfl,_,rfl,_,at_end o.len,_,Jn hT he,_,rfl,_,Mw o.len,_,Jo (hT.row _ (Sq.getRow hT he)) hh,?_⟩;have nn:=(hT.ent_nn he hh).1;have:(!decide (ent T (w.getLastD 0) (w.headD 0)=0))=Ji T (w.getLastD 0) (w.headD 0):=by
      unfold Ji;rw [B8,M6,Bool.not_eq_true',hZ];omega
     rw [<-this] at q';exact⟨_,rfl,q'⟩
    ·have:=O9 (λw=>Ji T (w.getLastD 0) (w.headD 0)) (lev (Ji T) n t);rw [G1,G1];exact S1 (ju (by omega))
    ·rw [jc];show _=some (((Xf (Ji T) n t)++(lev (Ji T) n t).filter λw=>Ji T (w.getLastD 0) (w.headD 0)).map jq);rw [S8]
   clear kA kB sb;rintro _ h5 ⟨A,rfl,kA,kB,sb⟩;refine El (j:=λh=>h B) (lev (Ji T) n t) jq (λw=>wQ T n (w.getLastD 0)) (λ(j:G5)=> .int (j:G8)) (λw j=>decide (w.headD 0<j)&& !decide (j∈w)) (λw j=>jq (w++ [j])) ?_ (λh' s=>s _ _ kB) (λR r=>⟨_,rfl,r⟩) (λw hw h' s R r=> ?_) (λw hw j hj h' s Q' q'=> ?_) (λw hw j hj _ h' s Q' q'=> ?_) (λa h' s ea=> ?_)
   ·rw [MN,G1];exact S1 (ju (by omega))
   ·have o:=Um hw;exact⟨_,rfl,_,rfl,_,at_end o.len,T,n,b,w.getLastD 0,rfl,hT,h6,o.lt _ (FE o.len),λF eF=>r _ _ (Sub.newAt (Sub.refl _) eF) λh3 s3=>s3 _ _ jc⟩
   ·have o:=Um hw;refine⟨_,rfl,_,rfl,_,Mw o.len,?_⟩;show ∃k,D.bl (decide (((w.headD 0:G5):G8)<(j:G8)))=D.bl k/\_;rw [show decide (((w.headD 0:G5):G8)<(j:G8))=decide (w.headD 0<j) from by rw [B8,M6,M6];omega];refine⟨_,rfl,?_⟩
    by_cases c:w.headD 0<j
    ·rw [G9 c] at q' ⊢;exact wc ⟨_,rfl,_,rfl,Tk ⟨_,rfl,q'⟩⟩
    ·rw [D5 c] at q' ⊢;exact zA q'
   ·have o:=Um hw;have e:jq (w++ [j])= .tup ((w.map λ(k:G5)=>D.int (k:G8))++ [.int (j:G8)]):=by unfold jq;rw [S8];rfl
    rw [e] at q';refine⟨_,rfl,_,rfl,sz1,?_,q'⟩;rw [G1,o.len];exact S1 (ju (by simp only [R7,B9];omega))
   ·rw [MN];exact⟨n-(t+1),_,by omega,Sub.refl _,t+1,A,a,_,rfl,rfl,by omega,jD (s _ _ kA) ea,jc,(((sb).trans s).newAt ea)⟩
 clear kA kB sb;rintro _ h4 ⟨A,B,c,rfl,kA,sb⟩;refine⟨_,rfl,A,(Xf (Ji T) n n).map toI,rfl,?_,?_,λp mss hp pm sr=>⟨_,Sub.refl _,q p _ (Vm sb hp) (by rw [jc,Pj pm sr];rfl) (Sub.newAt sb hp)⟩⟩
 ·rw [kA,S2];exact congrArg some (M5 λS _=>(Fr S).symm)
 ·rw [G1];have:=Mv (g:=Ji T) h6 h6;exact ju (by omega)
/-- the greatest number that goes into the lengths of all yq -/
def zw (T:G0 (G0 G8))(n:G5):G5:=((yq T n).map X9).foldl bO 0
def Gi:RDn:=λds h Q=> ∃T,∃n e:G5,ds= [jh T]/\Sq n e T/\1<=n/\n<=6/\(Zm T n).length=1/\Q (.int ((zw T n:G5):G8)) h
theorem TL (Z:Zs mg)(F:Fun K "beat" "beat" FW f fd)(Vs:je P w K mg base n "joined" ["table"] UD)(PV:je P w K mg base n "all_rounds" ["table"] Wz)(UJ:je P w K mg base n "greatest_into" ["one","other"] Jb):FnOk P w K mg base CX0 (n+1) f fd ["table"] (LSp K Gi):=by
 refine F.okM QV (λhr=>(js4 (vF (wS (zN (jk Vs hr (j1 (jv 0))))) VI) (jse 1 QV jz) (GR B2 rfl (jU (jk PV hr (j1 (jv 0)))) (jgn 2 QV) (jC (jse 1 QV (jk UJ hr (j2 (jv 1) (yD Z (jv 2))))))) (jR (jv 1)))) ?_;rintro ds h Q ⟨T,n,b,rfl,hT,h1,h6,one,q⟩;refine⟨rfl,?_⟩;refine jx [some (jh T),none,none] (λC hC=>⟨_,rfl,T,n,b,rfl,hT,h1,h6,_,rfl,?_⟩) ?_
 ·rw [G9 one];exact zA (hC)
 refine jx [some (jh T),some (.int 0),none] (λC hC=>hC) ?_;refine jf (λσ' h'=> ∃v,σ'= [some (jh T),some (.int ((zw T n:G5):G8)),v]/\Sub h h') (λC hC=>⟨_,rfl,T,n,b,rfl,hT,h1,h6,λA h2 nA kA sb=> ?_⟩) (λ_ h' ⟨v,e,sb⟩=>by subst e;exact⟨_,rfl,_,sb,q⟩);refine ve (j:=λh=>h A) ((yq T n).map jq) (λi σ' h'=> ∃v,σ'= [some (jh T),some (.int (((((yq T n).take i).map X9).foldl bO 0:G5):G8)),v]/\h2=h') (λi σ' h' ⟨_,_,z⟩=>by rw [<-z];exact kA) ⟨_,rfl,rfl⟩ (λσ' h' ⟨v,e,z⟩=>hC _ _ ⟨v,by rw [e,G1,W6];rfl,by rw [<-z];exact sb⟩) ?_;rintro i d _ _ hi ⟨v,rfl,rfl⟩;rw [P9] at hi;obtain⟨W,hW,rfl⟩:=K9.mp hi;have hil:=(P8.mp hW).1;refine⟨_,rfl,_,rfl,_,_,rfl,_,Sub.refl _,by rw [G1];omega,some (jq W),?_,rfl⟩;rw [N7,hW,S8,List.foldl_append,G1];rfl
def yB:RDn:=λds h Q=> ∃T S,∃n e:G5,ds= [jh T,jq S]/\Sq n e T/\IsS n S/\n<=6/\Q (.bl (Js n T S)) h
theorem UE (Z:Zs mg)(F:Fun K "keeps_arrows" "keeps_arrows" yX f fd)(zF:je P w K mg base n "step_after" ["table","some"] ww):FnOk P w K mg base CX0 (n+1) f fd ["table","some"] (LSp K yB):=by
 refine F.okM JF (λhr=>(jC (jR (zB (vd rfl) rfl Z.all C4 (j1 (jl0 2 JF (jU (jk zF hr (j2 (jv 0) (jv 1)))) (λ_ _ _ _=>(ki (CJ hr.units) (jv 2) (jv 1) (by with_unfolding_all rfl))))))))) ?_;rintro ds h Q ⟨T,S,n,b,rfl,hT,hS,h6,q⟩;refine⟨rfl,?_⟩;have l:=Fx (n:=n) (T:=T) (S:=S);exact uL (j:=λ_=>some ((jE n T S).map λ(k:G5)=>D.int (k:G8))) (jE n T S) (λ(k:G5)=> .int (k:G8)) (λj=>decide (j∈S)) (by omega) rfl (λR r=>⟨_,rfl,_,rfl,T,S,n,b,rfl,hT,hS,h6,r⟩) (λj hj Q' q'=>⟨_,rfl,_,rfl,Tj q'⟩) ⟨h,Sub.refl h,q⟩
def UF:RDn:=λds h Q=> ∃n:G5,ds= [.int (n:G8)]/\n<=6/\ ∀A h',h' A=some ((QD n).map jq)->Sub h h'->Q (.lst A) h'
theorem Rk (Z:Zs mg)(F:Fun K "all_sets" "all_sets" WZ f fd):FnOk P w K mg base CX0 (n+1) f fd ["size"] (LSp K UF):=by
 refine F.okM yy (λhr=>(js3 (jse 1 yy (Dk (j1 (GP Yo)))) (GR B2 rfl (jrg Z (jv 0)) (jgn 2 yy) (jC (jse 1 yy (jop we (jv 1) (jl0 3 yy (jU (jv 1)) (λ_ _ _ _=>(jop we (jv 3) (GP (j1 (jv 2)))))))))) (jR (zB (XJ hr) rfl Z.sorted (by decide +kernel) (j1 (jv 1)))))) ?_;rintro ds h Q ⟨n,rfl,h6,q⟩;refine⟨rfl,?_⟩;refine jf (λσ' h'=> ∃A,σ'= [some (.int (n:G8)),some (.lst A),none,none]/\h' A=some ((yE 0).map jq)/\Sub h h') (λC hC=>⟨sz0,sz1,λA eA=>hC _ _ ⟨A,rfl,jc,Sub.newAt (Sub.refl h) eA⟩⟩) ?_;rintro _ h2 ⟨A0,rfl,kA0,sb0⟩;refine jf (λσ' h'=> ∃A a b,σ'= [some (.int (n:G8)),some (.lst A),a,b]/\h' A=some ((yE n).map jq)/\Sub h h') (λC hC=> ?_) ?_
 ·refine yS n (λt σ' h'=> ∃A a b,σ'= [some (.int (n:G8)),some (.lst A),a,b]/\h' A=some ((yE t).map jq)/\Sub h h') (by omega) (λR r=>⟨_,rfl,r⟩) ⟨A0,none,none,rfl,kA0,sb0⟩ (λσ' h' z=>hC _ _ z) ?_;clear kA0 sb0;rintro t _ h3 ht ⟨A,a,b,rfl,kA,sb⟩;have l64:(yE t).length<=64:=by rw [Wn];exact V0 (by decide) (show t<=6 by omega)
  refine⟨_,rfl,?_⟩;refine lcA (j:=λh=>h A) (yE t) jq (λS=>jq (S++ [t])) (by omega) kA (λR r=>⟨_,rfl,r⟩) (λS hS Q' q'=>⟨_,rfl,_,rfl,sz1,?_,?_⟩) (λF eF=> ?_)
  ·have:=(Vl hS).len;rw [G1];exact S1 (ju (by simp only [R7,B9];omega))
  ·have:jq (S++ [t])= .tup ((S.map λ(k:G5)=>D.int (k:G8))++ [.int (t:G8)]):=by unfold jq;rw [S8];rfl
   rw [this] at q';exact q'
  ·refine⟨_,_,jD kA eF,jc,?_,λp3 e3=>⟨_,Sub.refl _,by omega,p3,_,_,rfl,?_,(((sb).newAt eF).newAt e3)⟩⟩
   ·rw [G1,G1];exact S1 (ju (by omega))
   ·rw [jc];show _=some ((yE t++(yE t).map λS=>S++ [t]).map jq);rw [S8,S2];rfl
 rintro _ h3 ⟨A,a,b,rfl,kA,sb⟩;refine⟨_,rfl,A,(yE n).map toI,rfl,?_,?_,λp mss hp pm sr=>⟨_,Sub.refl _,q p _ (by rw [jc,Pj pm sr];rfl) (Sub.newAt sb hp)⟩⟩
 ·rw [kA,S2];exact congrArg some (M5 λS _=>(Fr S).symm)
 ·rw [G1,Wn];exact U2 (V0 (by decide) h6) (by decide)
def Yz:RDn:=λds h Q=> ∃T,∃n e:G5,ds= [jh T]/\Sq n e T/\1<=n/\n<=6/\ ∀A h',h A=none->h' A=some (((QD n).filter (Js n T)).map jq)->Sub h h'->Q (.lst A) h'
theorem PF (Z:Zs mg)(F:Fun K "shut_sets" "shut_sets" ZK f fd)(jg:je P w K mg base n "want_table" ["thing"] jy)(NO:je P w K mg base n "all_sets" ["size"] UF)(yZ:je P w K mg base n "keeps_arrows" ["table","some"] yB):FnOk P w K mg base CX0 (n+1) f fd ["table"] (LSp K Yz):=by
 refine F.okM Yq (λhr=>(js2 (zW (jk jg hr (j1 (jv 0)))) (jR (jl1 1 Yq (jU (jk NO hr (j1 (yD Z (jv 0))))) (λ_ _ _ _=>(zN (jk yZ hr (j2 (jv 0) (jv 1))))) (λ_ _ _ _=>(jv 1)))))) ?_;rintro ds h Q ⟨T,n,b,rfl,hT,h1,h6,q⟩;refine⟨rfl,?_⟩;refine jx [some (jh T),none] (λC hC=>⟨_,rfl,T,n,b,rfl,hT,h1,h6,hC⟩) ?_;have l64:=Af h6;refine Oq ⟨_,rfl,n,by rw [G1,hT.len],h6,λA h2 kA sb=> ?_⟩;refine lcF (j:=λh=>h A) (QD n) jq jq (Js n T) (by omega) kA (λR r=>r) (λS hS Q' q'=>⟨_,rfl,_,rfl,T,S,n,b,rfl,hT,setsS_mem.mp hS,h6,_,rfl,q'⟩) (λS hS _ Q' q'=>⟨_,rfl,q'⟩) (λF eF=>⟨_,Sub.refl _,q F _ (Vm sb eF) jc (Sub.newAt sb eF)⟩)
def JN (d:D)(n k:G8):T9:=match d with
 | .tup es=>decide ((es.length:G8)=n)&&es.all (λx=>jM x 0 (k-1))
 |_=>false
def YA:RDn:=λds h Q=> ∃d,∃n k:G8,ds= [d,.int n,.int k]/\okD d=true/\Q (.bl (JN d n k)) h
theorem PH (Z:Zs mg)(F:Fun K "are_rests" "are_rests" ZL f fd)(zZ:je P w K mg base n "is_within" ["thing","least","most"] wN):FnOk P w K mg base CX0 (n+1) f fd ["thing","size","d"] (LSp K YA):=by
 refine F.okM Yr (λhr=>(js2 (vF (jpt (DB (wS (zN (YL (T:= "tuple") (by decide) rfl Z.isinstance rfl Z.tuple (by decide +kernel) (jv 0)))) (Nl (jt1 oq_ne (yD Z (jv 0)) (jv 1))))) (jR jbl)) (jR (zB (vd rfl) rfl Z.all C4 (j1 (jl0 3 Yr (jU (jv 0)) (λ_ _ _ _=>(jk zZ hr (j3 (jv 3) jz (jop Jl (jv 2) jz)))))))))) ?_;rintro ds h Q ⟨d,n,k,rfl,ok,q⟩;refine⟨rfl,?_⟩;obtain⟨nm,hn⟩:=Zg ok;cases d with
 |tup es=>
  obtain⟨hl,ht⟩:=Uv ok;refine jf (λσ' h'=>(es.length:G8)=n/\σ'= [some (.tup es),some (.int n),some (.int k),none]/\h=h') (λC hC=>⟨_,rfl,_,rfl,_,rfl,zA ⟨_,rfl,_,rfl,?_⟩⟩) ?_
  ·show ∃b,D.bl (!decide ((es.length:G8)=n))= .bl b/\_
   by_cases z:(es.length:G8)=n
   ·rw [G9 z];exact⟨_,rfl,zA (hC _ _ ⟨z,rfl,rfl⟩)⟩
   ·have e:JN (.tup es) n k=false:=by show (decide _&&_)=false;rw [D5 z];rfl
    rw [e] at q;rw [D5 z];exact⟨_,rfl,wc ⟨h,Sub.refl h,q⟩⟩
  rintro _ _ ⟨z,rfl,rfl⟩;have e:JN (.tup es) n k=es.all (λx=>jM x 0 (k-1)):=by show (decide _&&_)=_;rw [G9 z];rfl
  rw [e] at q;exact uL es (λx=>x) (λx=>jM x 0 (k-1)) hl (by rw [tM]) (λR r=>⟨_,rfl,r⟩) (λx hx Q' q'=>⟨_,rfl,_,rfl,x,0,k-1,rfl,ht x hx,q'⟩) ⟨h,Sub.refl h,q⟩
 |_=>cases hn<;>exact jf (λ_ _=>False) (λC hC=>⟨_,rfl,_,rfl,_,rfl,wc (wc ⟨h,Sub.refl h,q⟩)⟩) (λ_ _ z=>z.elim)
variable {σ:SD}
theorem Az {b:D->SD->SD->Prop}{js:G0 G5}{ti ti':TID}{tt tt':TTD}{i':G5}{te:TED}{E:EndsD}(x:Dt b js ti tt i' ti' tt' te σ h λv h1=>BZ [v] h1 λd h2=>E.rt d h2):BQ (dCB BZ (zg (Dt b js ti tt i' ti' tt' te) Zx)) E σ h:=x
theorem MO {α:Type}{f:G5->G0 α}: ∀ {xs:G0 G5},(∀x∈xs,(f x).length<=6)->(xs.flatMap f).length<=6*xs.length
 | [],_=>N4 _
 |x::xs,h=>by
  have a:=h x R3;have b:=MO (xs:=xs) λy hy=>h y (S3 _ hy)
  rw [H0,P2,R7];omega
def yL (d:D)(j:G5):G8:=match d with
 | .tup es=>(match es.getD j .non with| .int x=>x|_=>0)
 |_=>0
def uC (T:G0 (G0 G8))(n:G5)(x:D)(k:G8):T9:=(G3 n).all λp=>(wQ T n p).all λj=>decide (yL x j=(yL x p+1)%k)
/-- turns of a table,whatever both are -/
def JP (T:G0 (G0 G8))(n:G5)(d x:D):T9:=match d with
 | .int k=>jM (.int k) 1 6&&(JN x n k&&uC T n x k)
 |_=>false
theorem AA {es:G0 D}{n k:G8}(h:JN (.tup es) n k=true):(es.length:G8)=n/\ ∀j:G5,j<es.length-> ∃r:G8,atI es (j:G8)=some (.int r)/\yL (.tup es) j=r/\0<=r/\r<=k-1:=by
 have h':(decide ((es.length:G8)=n)&&es.all (λx=>jM x 0 (k-1)))=true:=h;rw [B7,M6,T8] at h';refine⟨h'.1,λj hj=> ?_⟩;have w:=h'.2 es[j] (B3 hj);cases e:es[j] with
 |int r=>
  rw [e] at w;have w':(decide ((0:G8)<=r)&&decide (r<=k-1))=true:=w;rw [B7,M6,M6] at w';refine⟨r,zK (by rw [G2 hj,e]),?_,w'.1,w'.2⟩;unfold yL;dsimp only;rw [D1,G2 hj,e];rfl
 |_=>rw [e] at w;cases w
theorem Lh {α β:Type}{f g:α->G0 β}: ∀ {xs:G0 α},(∀x∈xs,f x=g x)->xs.flatMap f=xs.flatMap g
 | [],_=>rfl
 |x::xs,h=>by rw [H0,H0,h x R3,Lh λy hy=>h y (S3 _ hy)]
def YB:RDn:=λds h Q=> ∃T d x,∃n e:G5,ds= [jh T,d,x]/\Sq n e T/\1<=n/\n<=6/\okD d=true/\okD x=true/\Q (.bl (JP T n d x)) h
theorem PJ (Z:Zs mg)(F:Fun K "are_turns" "are_turns" ZM f fd)(Rr:je P w K mg base n "are_rests" ["thing","size","d"] YA)(zZ:je P w K mg base n "is_within" ["thing","least","most"] wN)(ZU:je P w K mg base n "heads" ["table","place"] Wv)(JU: ∃tk,mg "MOST_TURNS" =some (.int 6 tk)):FnOk P w K mg base CX0 (n+1) f fd ["table","d","rests"] (LSp K YB):=by
 obtain⟨tk_MOST_TURNS,m_MOST_TURNS⟩:=JU;refine F.okM YH (λhr=>(js2 (vF (jpt (DB (wS (zN (jk zZ hr (j3 (jv 1) jz (Nj rfl m_MOST_TURNS))))) (Nl (wS (zN (jk Rr hr (j3 (jv 2) (yD Z (jv 0)) (jv 1)))))))) (jR jbl)) (jR (zB (vd rfl) rfl Z.all C4 (j1 (jak (i:=3) (i':=4) (js:= [3,4]) rfl (jL (by rfl)) (jrg Z (yD Z (jv 0))) (by decide) (by decide) (by decide) YH.nd rfl rfl (by first|exact F8 rfl|exact J9 rfl) (by first|exact F8 rfl|exact J9 rfl) (λX' hX=>wm) (λX' hX=>by obtain⟨C,s₀,H₀,ex,rfl⟩:=hX;exact(jU (jk ZU hr (j2 (jv 0) (jv 3))))) (λX' hX=>wm) (λX' hX=>by obtain⟨C,s₀,H₀,ex,rfl⟩:=hX;exact(jc1 oq_eq (ji1 (jv 2) (jv 4)) (jop vV (jop we (ji1 (jv 2) (jv 3)) jz) (jv 1)))))))))) ?_;rintro ds h Q ⟨T,d,x,n,b,rfl,hT,h1,h6,okd,okx,q⟩;refine⟨rfl,?_⟩;have hlen:(((T.map vB).length:G5):G8)=(n:G8):=by rw [G1,hT.len]
 refine jf (λσ' h'=> ∃k es,d= .int k/\x= .tup es/\jM (.int k) 1 6=true/\JN (.tup es) n k=true/\σ'= [some (jh T),some (.int k),some (.tup es),none,none]/\h=h') (λC hC=>⟨_,rfl,d,1,6,rfl,okd,_,rfl,?_⟩) ?_
 ·cases hw:jM d 1 6 with
  |false=>
   have e:JP T n d x=false:=by
    cases d with
    |int k=>show (jM (.int k) 1 6&&_)=false;rw [hw];rfl
    |_=>rfl
   rw [e] at q;exact wc (wc ⟨h,Sub.refl h,q⟩)
  |true=>
   cases d with
   |int k=>
    refine zA ⟨_,rfl,_,rfl,_,rfl,x,_,k,rfl,okx,_,rfl,?_⟩;rw [hlen];cases hr:JN x n k with
    |false=>
     have e:JP T n (.int k) x=false:=by show (_&&(JN x n k&&_))=false;rw [hr,lB,Bool.and_false]
     rw [e] at q;exact wc ⟨h,Sub.refl h,q⟩
    |true=>
     cases x with
     |tup es=>exact zA (hC _ _ ⟨k,es,rfl,rfl,hw,hr,rfl,rfl⟩)
     |_=>cases hr
   |_=>cases hw
 rintro _ _ ⟨k,es,rfl,rfl,hw,hr,rfl,rfl⟩;have e:JP T n (.int k) (.tup es)=uC T n (.tup es) k:=by show (_&&(JN _ n k&&_))=_;rw [hw,hr];rfl
 rw [e] at q;obtain⟨el,at_⟩:=AA hr;have kp:0<k:=by
  have w':(decide ((1:G8)<=k)&&decide (k<=6))=true:=hw;rw [B7,M6] at w';omega
 refine Az (El (G3 n) (λ(i:G5)=> .int (i:G8)) (λp=>wQ T n p) (λ(j:G5)=> .int (j:G8)) (λ_ _=>true) (λp j=> .bl (decide (yL (.tup es) j=(yL (.tup es) p+1)%k))) ?_ (λh' _=>rfl) (λR r=>⟨_,rfl,(n:G8),by rw [G1,hT.len],by omega,by omega,r⟩) (λp hp h' s R r=>⟨_,rfl,_,rfl,T,n,b,p,rfl,hT,h6,P6.mp hp,λF eF=>r (λh=>h F) _ (Sub.newAt (Sub.refl _) eF) λh3 s3=>s3 _ _ jc⟩) (λp hp j hj h' s Q' q'=>q') (λp hp j hj _ h' s Q' q'=> ?_) λa h' s ha=> ?_)
 ·exact T5 (MO λp _=>by rw [G1];exact T5 (O9 _ _) (T5 (CU p) h6)) (S1 (ju (by rw [P3];omega)))
 ·have hp:=P6.mp hp;have hj:=Pe hj;obtain⟨r,a1,a2,_⟩:=at_ j (by omega);obtain⟨r',b1,b2,_⟩:=at_ p (by omega);rw [a2,b2] at q';exact⟨_,rfl,_,rfl,_,a1,_,rfl,_,rfl,_,b1,_,rfl,kp,q'⟩
 ·refine⟨a,(G3 n).flatMap λp=>(wQ T n p).map λj=>decide (yL (.tup es) j=(yL (.tup es) p+1)%k),rfl,?_,?_⟩
  ·rw [jc,oS];refine congrArg some (Lh λp _=> ?_);rw [e9.mpr (λ_ _=>rfl),S2];rfl
  ·rw [zf ha,List.all_flatMap];refine⟨h,s,?_⟩;rw [show ((G3 n).all λp=>((wQ T n p).map λj=>decide (yL (.tup es) j=(yL (.tup es) p+1)%k)).all id)=uC T n (.tup es) k from congrArg (List.all (G3 n)) (funext λp=>by rw [E4];rfl)];exact q
theorem uD {b:D->SD->SD->Prop}{js:G0 G5}{ti:TID}{tt:TTD}{te:TED}{E:EndsD}(x:vU b js ti tt te σ h λv h1=>E.rt v h1):BQ (vU b js ti tt te) E σ h:=x
def yC:RDn:=λds h Q=> ∃T,∃n e:G5,ds= [jh T]/\Sq n e T/\1<=n/\n<=6/\(Zm T n).length=1/\ ∀ (st:G0 G5) (A:P4) (h':HD),st.length=n->(∀j,j<n->RP n T (st.getD j 0) 0 j)->st.getD 0 0=0->h' A=some (st.map λ(k:G5)=>D.int (k:G8))->Sub h h'->Q (.lst A) h'
theorem ZT (Z:Zs mg)(F:Fun K "steps_from_start" "steps_from_start" wv f fd)(zF:je P w K mg base n "step_after" ["table","some"] ww):FnOk P w K mg base CX0 (n+1) f fd ["table"] (LSp K yC):=by
 refine F.okM jB (λhr=>(js5 (jse 1 jB uu) (jse 2 jB (GP (j1 jz))) (jse 3 jB jz) (XD B2 (jt1 Qh (zB Tx rfl Z.len rL (j1 (jv 1))) (yD Z (jv 0))) (js3 (jse 2 jB (jk zF hr (j2 (jv 0) (jv 2)))) (CK (i:=3) jB.nd rfl (F8 rfl) jz) (GR B2 rfl (jU (jv 2)) (jgn 4 jB) (jC (zW (jbs hr (jv 1) (jv 4) (jv 3))))))) (jR (jl0 4 jB (jrg Z (yD Z (jv 0))) (λ_ _ _ _=>(jbq hr (jv 1) (jv 4))))))) ?_;rintro ds h Q ⟨T,n,b,rfl,hT,n1,n6,one,q⟩;refine⟨rfl,?_⟩;have h8:n<=8:=by omega
 have hlen:(((T.map vB).length:G5):G8)=(n:G8):=by rw [G1,hT.len]
 refine jf (λσ' h'=> ∃a,σ'= [some (jh T),some (.dct a),none,none,none]/\h.dc a=none/\h'.dc a=some (.ik [(0,.int 0)])/\Sub h h') (λC hC=>λa ea=>hC _ _ ⟨a,rfl,ea,Wc,.newC ea⟩) ?_;rintro _ h1 ⟨a,rfl,fa,ka,sb⟩;refine jx [some (jh T),some (.dct a),some (jq [0]),none,none] (λC hC=>⟨sz1,hC⟩) ?_;refine jx [some (jh T),some (.dct a),some (jq [0]),some (.int 0),none] (λC hC=>hC) ?_;refine jf (λσ' h'=> ∃kv s x2 x3 x4,σ'= [some (jh T),some (.dct a),x2,x3,x4]/\h'.dc a=some (.ik kv)/\FI n T s s kv/\n<=kv.length/\Sub h h') (λC hC=> ?_) ?_
 ·refine Zb (λm σ' h'=> ∃ (kv:G0 (G8×D)) (s:G5) (x4:D4 D),σ'= [some (jh T),some (.dct a),some (jq (itF (jE n T) [0] s)),some (.int (s:G8)),x4]/\m=n-kv.length/\h'.dc a=some (.ik kv)/\FI n T s s kv/\Sub h h') (n-1) ⟨_,0,none,rfl,rfl,ka,.first n1,sb⟩ ?_;clear ka sb;rintro m _ h2 ⟨kv,s,x4,rfl,rfl,ka,g,sb⟩;refine⟨_,rfl,a,kv,rfl,ka,_,rfl,_,rfl,?_⟩;show if decide (((kv.length:G5):G8)<(((T.map vB).length:G5):G8))=true then _ else _
  rw [hlen];have gl:=g.len
  by_cases full:kv.length<n
  ·rw [G9 (by omega)];refine wc ?_;have isS:IsS n (itF (jE n T) [0] s):=(QH (show 0<n by omega)).it s;refine jx [some (jh T),some (.dct a),some (jq (itF (jE n T) [0] (s+1))),some (.int (s:G8)),x4] (λC hC=>⟨_,rfl,_,rfl,T,_,n,b,rfl,hT,isS,n6,hC⟩) ?_;refine jx [some (jh T),some (.dct a),some (jq (itF (jE n T) [0] (s+1))),some (.int ((s+1:G5):G8)),x4] (λC hC=>⟨_,rfl,1,rfl,hC⟩) ?_;have mem:=MF hT h8 (show 0<n by omega) (s+1);generalize hSe:itF (jE n T) [0] (s+1)=S at mem;refine Ol (j:=λ_=>some (S.map λ(k:G5)=>D.int (k:G8))) (S.map λ(k:G5)=>D.int (k:G8)) (λi σ' h'=> ∃ (kv':G0 (G8×D)) (x4:D4 D),σ'= [some (jh T),some (.dct a),some (jq S),some (.int ((s+1:G5):G8)),x4]/\h'.dc a=some (.ik kv')/\FI n T s (s+1) kv'/\(∀y∈kv.map (·.1),y∈kv'.map (·.1))/\(∀j∈S.take i,(j:G8)∈kv'.map (·.1))/\Sub h h') (λR r=>⟨_,rfl,r⟩) (λ_ _ _ _=>rfl) ⟨kv,x4,rfl,ka,⟨g.nd,λp hp=>by
    obtain⟨j,v,e1,hj,hv,r⟩:=g.ok p hp;exact⟨j,v,e1,hj,by omega,r⟩,g.all,g.zero⟩,λy hy=>hy,(λj hj=>by rw [bI] at hj;cases hj),sb⟩ ?_ ?_
   ·rintro _ h3 ⟨kv',x4',rfl,ka',g',old,new,sb'⟩;rw [G1,W6] at new;obtain⟨v,hv,rv,vn⟩:=FI.grow hT h8 n1 one g full;have big:kv.length<kv'.length:=by
     have:=vh (xs:=(v:G8)::kv.map (·.1)) (ys:=kv'.map (·.1)) (V7.mpr ⟨vn,g.nd⟩) λy hy=>by
      rcases T6.mp hy with z|z
      ·rw [z];exact new v ((mem v).mpr ⟨hv,rv⟩)
      ·exact old y z
     rw [R7,G1,G1] at this;omega
    refine⟨n-kv'.length,h3,by omega,Sub.refl _,kv',s+1,x4',?_,rfl,ka',⟨g'.nd,g'.ok,λj w hj hw r=> ?_,g'.zero⟩,sb'⟩
    ·rw [hSe]
    ·rcases U9 s w with z|z
     ·rw [show w=s+1 by omega] at r;exact new j ((mem j).mpr ⟨hj,r⟩)
     ·exact g'.all j w hj z r
   ·rintro i d _ h3 hd ⟨kv',x4',rfl,ka',g',old,new,sb'⟩;rw [P9] at hd;obtain⟨j,hj,rfl⟩:=K9.mp hd;have il:i<(S.map λ(k:G5)=>D.int (k:G8)).length:=by rw [G1];exact(P8.mp hj).1
    obtain⟨jn,rj⟩:=(mem j).mp (D0 hj);have tk:S.take (i+1)=S.take i++ [j]:=by rw [N7,hj];rfl
    refine⟨_,rfl,a,kv',rfl,ka',_,rfl,_,rfl,(j:G8),kv',rfl,ka',by have:=g'.len;omega,λd hd=> ?_,λhn=> ?_⟩
    ·refine⟨_,Sub.refl _,by omega,kv',_,rfl,ka',g',old,λx hx=> ?_,sb'⟩;rw [tk] at hx;rcases R1.mp hx with z|z
     ·exact new x z
     ·rw [P1.mp z];exact R8.mpr ⟨_,MD hd,rfl⟩
    ·refine⟨_,Sub.refl _,by omega,_,_,rfl,Wc,g'.put hn jn (P5 _) rj,λy hy=>(Vp hn y).mpr (.inl (old y hy)),λx hx=> ?_,sb'.overC fa⟩;rw [tk] at hx;rcases R1.mp hx with z|z
     ·exact(Vp hn _).mpr (.inl (new x z))
     ·rw [P1.mp z];exact(Vp hn _).mpr (.inr rfl)
  ·rw [D5 (by omega)];exact zA (hC _ _ ⟨kv,s,_,_,_,rfl,ka,g,by omega,sb⟩)
 rintro _ h2 ⟨kv,s,x2,x3,x4,rfl,ka',g,fl,sb⟩;have get:=λj hj=>g.get (j:=j) (g.full fl hj)
 refine uD (lcA (G3 n) (λ(i:G5)=> .int (i:G8)) (λ(i:G5)=>(Zn kv (i:G8)).getD .non) (by rw [P3];omega) rfl (λR r=>⟨_,rfl,(n:G8),by rw [hlen],by omega,by omega,r⟩) (λi hi Q' q'=> ?_) λA eA=> ?_)
 ·obtain⟨v,hv,_⟩:=get i (P6.mp hi);rw [hv] at q';exact⟨_,rfl,_,rfl,a,_,kv,_,rfl,rfl,ka',hv,q'⟩
 ·let st:G0 G5:=(G3 n).map λ(j:G5)=>match Zn kv (j:G8) with
   |some (.int v)=>v.toNat
   |_=>0
  have at_: ∀j,j<n-> ∃v:G5,Zn kv (j:G8)=some (.int (v:G8))/\st.getD j 0=v/\RP n T v 0 j:=λj hj=>by
   obtain⟨v,hv,_,r⟩:=get j hj;refine⟨v,hv,?_,r⟩;show ((G3 n).map _).getD j 0=v;rw [D1,P9,C0 hj];show (match Zn kv (j:G8) with|some (.int v)=>v.toNat|_=>0)=v;rw [hv];rfl
  refine⟨_,Sub.refl _,q st A _ (by show ((G3 n).map _).length=n;rw [G1,P3]) (λj hj=>by obtain⟨v,_,e1,r⟩:=at_ j hj;rw [e1];exact r) ?_ ?_ (sb.newAt eA)⟩
  ·obtain⟨v,hv,e1,_⟩:=at_ 0 (by omega);have:=g.zero;rw [show (0:G8)=((0:G5):G8) from rfl,hv] at this;injection this with this
   injection this with this
   rw [e1];omega
  ·rw [jc];show _=some (((G3 n).map _).map _);rw [S2];refine congrArg some (M5 λj hj=> ?_);obtain⟨v,hv,e1,_⟩:=at_ j (P6.mp hj);show (Zn kv (j:G8)).getD .non=D.int (((match Zn kv (j:G8) with|some (.int v)=>v.toNat|_=>0:G5)):G8);rw [hv];rfl
/-- turns: a rest for each place,that go on by one along arrows -/
structure TurnsOf (T:G0 (G0 G8))(n d:G5)(rs:G0 G5):Prop where
 len:rs.length=n
 lt: ∀j,j<n->rs.getD j 0<d
 go: ∀i j,i<n->j<n->ent T i j≠0->rs.getD j 0=(rs.getD i 0+1)%d
theorem AB {b:D->SD->SD->Prop}{js:G0 G5}{ti:TID}{tt:TTD}{te:TED}(x:ti σ h λj h1=>dCB Zk (zg (vU b js (λ_ _ R=>R j h1) tt te) Zx) σ h1 Q):dCB Zk (zg (vU b js ti tt te) Zx) σ h Q:=x
theorem XR (h6:n<=6)(nz:zw T n≠0):1<=zw T n/\zw T n<=6:=by
 have ne:yq T n≠ []:=λz=>nz (by show ((yq T n).map X9).foldl bO 0=0;rw [z];rfl)
 obtain⟨w,hw⟩:=List.exists_mem_of_ne_nil _ ne;obtain⟨s,hs,o,_⟩:=FD hw;have dv:zw T n∣w.length:=((QB ((yq T n).map X9) 0 (zw T n)).mp (nZ _)).2 _ (bT hw);have:=sE (by rw [o.len];omega) dv;have:=o.len;omega
def UG:RDn:=λds h Q=> ∃T,∃n e:G5,ds= [jh T]/\Sq n e T/\1<=n/\n<=6/\(Zm T n).length=1/\zw T n≠0/\ ∀ (rs:G0 G5) (h':HD),TurnsOf T n (zw T n) rs->rs.getD 0 0=0->Sub h h'->Q (.tup [.int ((zw T n:G5):G8),jq rs]) h'
theorem Rl (Z:Zs mg)(F:Fun K "turns_of" "turns_of" Ya f fd)(XT:je P w K mg base n "beat" ["table"] Gi)(WF:je P w K mg base n "steps_from_start" ["table"] yC):FnOk P w K mg base CX0 (n+1) f fd ["table"] (LSp K UG):=by
 refine F.okM ZN (λhr=>(js3 (jse 1 ZN (jk XT hr (j1 (jv 0)))) (vF (jt1 oq_eq (jv 1) jz) VI) (jR (GP (j2 (jv 1) (jS jN rfl Z.tuple (by decide +kernel) (j1 (jl0 2 ZN (jU (jk WF hr (j1 (jv 0)))) (λ_ _ _ _=>(jop vV (jv 2) (jv 1))))))))))) ?_;rintro ds h Q ⟨T,n,b,rfl,hT,n1,n6,one,nz,q⟩;refine⟨rfl,?_⟩;obtain⟨b1,b6⟩:=XR n6 nz;refine jx [some (jh T),some (.int ((zw T n:G5):G8)),none] (λC hC=>⟨_,rfl,T,n,b,rfl,hT,n1,n6,one,hC⟩) ?_;refine jx [some (jh T),some (.int ((zw T n:G5):G8)),none] (λC hC=>⟨_,rfl,_,rfl,?_⟩) ?_
 ·show if decide (((zw T n:G5):G8)=0)=true then _ else _
  rw [D5 (by omega)];exact zA (hC)
 refine⟨_,rfl,AB ⟨_,rfl,T,n,b,rfl,hT,n1,n6,one,λst A h' sl sr s0 kA sb=> ?_⟩⟩;refine Mb (j:=λh=>h A) st (λ(k:G5)=> .int (k:G8)) (λ(k:G5)=> .int ((k%zw T n:G5):G8)) (by omega) kA (λR r=>r) (λk hk Q' q'=>⟨_,rfl,_,rfl,by omega,?_⟩) ⟨sz2,h,sb,?_⟩
 ·rw [<-bR];exact q'
 ·have at_: ∀j,(st.map λk=>k%zw T n).getD j 0=st.getD j 0%zw T n:=λj=>by
   rw [D1,D1,P9];cases st[j]? with
   |none=>rw [Option.map_none];exact(i6 _).symm
   |some x=>rfl
  have:=q (st.map λk=>k%zw T n) h ⟨by rw [G1];exact sl,λj hj=>by rw [at_];exact V9 _ b1,λi j hi hj ar=>by
   rw [at_,at_,Nat.mod_add_mod];exact An hT (by omega) one hi hj n1 (sr i hi) (sr j hj) ar (nZ (zw T n))⟩ (by rw [at_,s0];exact i6 _) (Sub.refl h)
  unfold jq at this;rw [S2] at this;exact this
def Jc:RDn:=λds h Q=> ∃T d,∃n e:G5,ds= [jh T,d]/\Sq n e T/\1<=n/\n<=6/\((∃S,d=jq S/\IsS n S/\Q (.bl (decide (0<S.length)&&(decide (S.length<n)&&Js n T S))) h)\/(jaA n d/\Q (.bl false) h))
theorem YT (Z:Zs mg)(F:Fun K "shows_by_shut" "shows_by_shut" yA f fd)(yZ:je P w K mg base n "keeps_arrows" ["table","some"] yB)(WD:je P w K mg base n "is_set" ["thing","size"] Ws):FnOk P w K mg base CX0 (n+1) f fd ["table","some"] (LSp K Jc):=by
 refine F.okM YN (λhr=>(jC (jR (VH (jk WD hr (j2 (jv 1) (yD Z (jv 0)))) (VH (Ec Qh Qh jz (yD Z (jv 1)) (yD Z (jv 0))) (Xc (jk yZ hr (j2 (jv 0) (jv 1))))))))) ?_;rintro ds h Q ⟨T,d,n,b,rfl,hT,h1,h6,q⟩;refine⟨rfl,?_⟩;have hlen:(((T.map vB).length:G5):G8)=(n:G8):=by rw [G1,hT.len]
 refine⟨_,rfl,_,rfl,d,n,by show [d,D.int (((T.map vB).length:G5):G8)]=_;rw [hlen],h6,?_⟩;rcases q with ⟨S,rfl,hS,q⟩|⟨bad,q⟩
 ·refine .inl ⟨S,rfl,hS,_,rfl,wc ⟨_,rfl,?_⟩⟩;show ∃k,D.bl (decide ((0:G8)<(((S.map λ(k:G5)=>D.int (k:G8)).length:G5):G8)))= .bl k/\_;rw [G1,show decide ((0:G8)<((S.length:G5):G8))=decide (0<S.length) from by rw [B8,M6,M6];omega];cases c1:decide (0<S.length) with
  |false=>
   rw [c1] at q;exact⟨_,rfl,zA ⟨_,rfl,zA ⟨h,Sub.refl h,q⟩⟩⟩
  |true=>
   rw [c1] at q;refine⟨_,rfl,wc ⟨_,rfl,?_⟩⟩;show ∃k,D.bl (decide (((S.length:G5):G8)<(((T.map vB).length:G5):G8)))= .bl k/\_;rw [hlen,show decide (((S.length:G5):G8)<(n:G8))=decide (S.length<n) from by rw [B8,M6,M6];omega];cases c2:decide (S.length<n) with
   |false=>rw [c2] at q;exact⟨_,rfl,zA ⟨h,Sub.refl h,q⟩⟩
   |true=>rw [c2] at q;exact⟨_,rfl,wc ⟨_,rfl,_,rfl,T,S,n,b,rfl,hT,hS,h6,h,Sub.refl h,q⟩⟩
 ·exact .inr ⟨bad,_,rfl,zA ⟨h,Sub.refl h,q⟩⟩
def MP (d:D):T9:=match d with
 | .int k=>decide (2<=k)
 |_=>false
def vx:RDn:=λds h Q=> ∃T d x,∃n e:G5,ds= [jh T,d,x]/\Sq n e T/\1<=n/\n<=6/\okD d=true/\okD x=true/\Q (.bl (JP T n d x&&MP d)) h
theorem Yi (Z:Zs mg)(F:Fun K "shows_by_turns" "shows_by_turns" wY f fd)(Rs:je P w K mg base n "are_turns" ["table","d","rests"] YB):FnOk P w K mg base CX0 (n+1) f fd ["table","d","rests"] (LSp K vx):=by
 refine F.okM Yb (λhr=>(jC (jR (VH (jk Rs hr (j3 (jv 0) (jv 1) (jv 2))) (Xc (jc1 Dv (jv 1) jz)))))) ?_;rintro ds h Q ⟨T,d,x,n,b,rfl,hT,h1,h6,okd,okx,q⟩;refine⟨rfl,?_⟩;refine⟨_,rfl,_,rfl,_,rfl,T,d,x,n,b,rfl,hT,h1,h6,okd,okx,_,rfl,?_⟩;cases z:JP T n d x with
 |false=>rw [z] at q;exact zA ⟨h,Sub.refl h,q⟩
 |true=>
  rw [z] at q;cases d with
  |int k=>exact wc ⟨_,rfl,h,Sub.refl h,q⟩
  |_=>cases z
def Zq:RDn:=λds h Q=> ∃T t,∃n e:G5,ds= [jh T,t]/\Sq n e T/\1<=n/\n<=6/\((∃S,t= .tup [.str "shut",jq S]/\IsS n S/\Q (.bl (decide (0<S.length)&&(decide (S.length<n)&&Js n T S))) h)\/(∃k:G8,∃rs:G0 G5,t= .tup [.str "turns",.int k,jq rs]/\rs.length<=6/\Q (.bl (JP T n (.int k) (jq rs)&&MP (.int k))) h))
theorem Xn (Z:Zs mg)(F:Fun K "never_holds" "never_holds" vL f fd)(jg:je P w K mg base n "want_table" ["thing"] jy)(UN:je P w K mg base n "shows_by_shut" ["table","some"] Jc)(YW:je P w K mg base n "shows_by_turns" ["table","d","rests"] vx):FnOk P w K mg base CX0 (n+1) f fd ["table","thing"] (LSp K Zq):=by
 refine F.okM Xi (λhr=>(js5 (zW (jk jg hr (j1 (jv 0)))) (vF (wS (zN (YL (T:= "tuple") (by decide) rfl Z.isinstance rfl Z.tuple (by decide +kernel) (jv 1)))) (jR jbl)) (vF (jpt (Nm (jt1 oq_eq (yD Z (jv 1)) jz) (Nk (jt1 oq_eq (ji1 (jv 1) jz) kh)))) (jR (jk UN hr (j2 (jv 0) (ji1 (jv 1) jz))))) (vF (jpt (Nm (jt1 oq_eq (yD Z (jv 1)) jz) (Nk (jt1 oq_eq (ji1 (jv 1) jz) kh)))) (jR (jk YW hr (j3 (jv 0) (ji1 (jv 1) jz) (ji1 (jv 1) jz))))) (jR jbl))) ?_;rintro ds h Q ⟨T,t,n,b,rfl,hT,h1,h6,q⟩;refine⟨rfl,?_⟩;refine jx [some (jh T),some t] (λC hC=>⟨_,rfl,T,n,b,rfl,hT,h1,h6,hC⟩) ?_;rcases q with ⟨S,rfl,hS,q⟩|⟨k,rs,rfl,rl,q⟩
 ·refine jx [some (jh T),some (.tup [.str "shut",jq S])] (λC hC=>⟨_,rfl,"tuple",rfl,_,rfl,zA (hC)⟩) ?_;exact jf (λ_ _=>False) (λC hC=>⟨_,rfl,_,rfl,wc ⟨_,rfl,_,rfl,_,rfl,wc ⟨_,rfl,_,rfl,_,rfl,T,jq S,n,b,rfl,hT,h1,h6,.inl ⟨S,rfl,hS,h,Sub.refl h,q⟩⟩⟩⟩) (λ_ _ z=>z.elim)
 ·refine jx [some (jh T),some (.tup [.str "turns",.int k,jq rs])] (λC hC=>⟨_,rfl,"tuple",rfl,_,rfl,zA (hC)⟩) ?_;refine jx [some (jh T),some (.tup [.str "turns",.int k,jq rs])] (λC hC=>⟨_,rfl,_,rfl,zA (zA (hC))⟩) ?_;exact jf (λ_ _=>False) (λC hC=>⟨_,rfl,_,rfl,wc ⟨_,rfl,_,rfl,_,rfl,wc ⟨_,rfl,_,rfl,_,rfl,_,rfl,_,rfl,T,.int k,jq rs,n,b,rfl,hT,h1,h6,rfl,Uw (by rw [G1];omega) λd hd=>by obtain⟨x,_,rfl⟩:=R8.mp hd;rfl,h,Sub.refl h,q⟩⟩⟩) (λ_ _ z=>z.elim)
/-- what is told where no power is full,or nothing -/
def uU (n:G5)(T:G0 (G0 G8))(t:D):Prop:=(∃S,t= .tup [.str "shut",jq S]/\IsS n S/\0<S.length/\S.length<n/\Js n T S=true)\/((Zm T n).length=1/\((t= .tup [.str "turns",.int 2,jq [0]]/\zw T n=0)\/(∃rs,t= .tup [.str "turns",.int ((zw T n:G5):G8),jq rs]/\TurnsOf T n (zw T n) rs/\2<=zw T n)\/(t= .non/\zw T n=1)))
theorem TN {S:G0 G5}(h:IsS n S)(l: ¬S.length<n){j:G5}(hj:j<n):j∈S:=by
 obtain⟨p,rfl⟩:=h;have:((G3 n).filter p).length=(G3 n).length:=by
  have:=O9 p (G3 n);rw [P3] at this ⊢;omega
 exact M7.mpr ⟨P6.mpr hj,List.length_filter_eq_length_iff.mp this j (P6.mpr hj)⟩
theorem Rm (h:Sq n e T)(hn:n<=8)(n1:1<=n)(no: ∀S,IsS n S->Js n T S=true-> ¬ (0<S.length/\S.length<n)):(Zm T n).length=1:=
 FO h hn n1 λi j hi hj=>by
  have a:=no (clS n T [i]) (Fy n T [i]) (Tl n T [i]);have m:i∈clS n T [i]:=mem_cl.mpr ⟨hi,i,P1.mpr rfl,WQ T n i⟩;have pos:0<(clS n T [i]).length:=dF m;obtain⟨_,x,hx,w⟩:=mem_cl.mp (TN (Fy n T [i]) (λz=>a ⟨pos,z⟩) hj);rw [P1.mp hx] at w;exact(uv h hn hi w).2
def YC:RDn:=λds h Q=> ∃T,∃n e:G5,ds= [jh T]/\Sq n e T/\1<=n/\n<=6/\ ∀t,uU n T t->Q t h
theorem PK (Z:Zs mg)(F:Fun K "why_never" "why_never" ZO f fd)(Ry:je P w K mg base n "shut_sets" ["table"] Yz)(XT:je P w K mg base n "beat" ["table"] Gi)(NT:je P w K mg base n "turns_of" ["table"] UG):FnOk P w K mg base CX0 (n+1) f fd ["table"] (LSp K YC):=by
 refine F.okM JH (λhr=>(js4 (GR B2 rfl (jU (jk Ry hr (j1 (jv 0)))) (jgn 1 JH) (jC (vF (Cl Qh Qh jz (yD Z (jv 1)) (yD Z (jv 0))) (jR (GP (j2 kh (jv 1))))))) (jse 2 JH (jk XT hr (j1 (jv 0)))) (vF (jt1 oq_eq (jv 2) jz) (jR (GP (j3 kh jz (GP (j1 jz)))))) (jR (jif (jt1 Dv (jv 2) jz) (jop we (GP (j1 kh)) (jk NT hr (j1 (jv 0)))) Be)))) ?_;rintro ds h Q ⟨T,n,b,rfl,hT,h1,h6,q⟩;refine⟨rfl,?_⟩;have h8:n<=8:=by omega
 have hlen:(((T.map vB).length:G5):G8)=(n:G8):=by rw [G1,hT.len]
 refine jf (λσ' h'=> ∃a,σ'= [some (jh T),a,none]/\Sub h h'/\(Zm T n).length=1) (λC hC=> ?_) ?_
 ·refine⟨_,rfl,T,n,b,rfl,hT,h1,h6,λA h' fA kA sb=> ?_⟩;refine ve (j:=λh=>h A) (((QD n).filter (Js n T)).map jq) (λi σ' h2=> ∃a,σ'= [some (jh T),a,none]/\h'=h2/\ ∀S∈((QD n).filter (Js n T)).take i,¬ (0<S.length/\S.length<n)) (λi σ' h2 ⟨_,_,e,_⟩=>by rw [<-e];exact kA) ⟨none,rfl,rfl,λS hS=>by rw [bI] at hS;cases hS⟩ ?_ ?_
  ·rintro σ' h2 ⟨a,e,eh,lo⟩;rw [G1,W6] at lo;exact hC _ _ ⟨a,e,eh ▸ sb,Rm hT h8 h1 λS hS sh=>lo S (M7.mpr ⟨setsS_mem.mpr hS,sh⟩)⟩
  rintro i d _ _ hd ⟨a,rfl,rfl,lo⟩;have hil:=(P8.mp hd).1;rw [P9] at hd;obtain⟨S,eS,rfl⟩:=K9.mp hd;have mS:=M7.mp (D0 eS);have iS:=setsS_mem.mp mS.1;refine⟨_,rfl,?_⟩;show ∃k,D.bl (decide ((0:G8)<(((S.map λ(k:G5)=>D.int (k:G8)).length:G5):G8)))= .bl k/\_;rw [G1];have go: ¬ (0<S.length/\S.length<n)-> ∀S'∈((QD n).filter (Js n T)).take (i+1),¬ (0<S'.length/\S'.length<n):=λz S' hS'=>by
   rw [N7,eS] at hS';rcases R1.mp hS' with w|w
   ·exact lo S' w
   ·rw [P1.mp w];exact z
  by_cases p1:0<S.length
  ·rw [G9 (by omega)];refine⟨_,rfl,wc ⟨_,rfl,?_⟩⟩;show ∃k,D.bl (decide (((S.length:G5):G8)<(((T.map vB).length:G5):G8)))= .bl k/\_;rw [hlen]
   by_cases p2:S.length<n
   ·rw [G9 (by omega)];exact⟨_,rfl,wc ⟨_,rfl,sz2,h,sb,q _ (.inl ⟨S,rfl,iS,p1,p2,mS.2⟩)⟩⟩
   ·rw [D5 (by omega)];exact⟨_,rfl,zA ⟨_,Sub.refl _,hil,_,rfl,rfl,go λz=>p2 z.2⟩⟩
  ·rw [D5 (by omega)];exact⟨_,rfl,zA ⟨_,rfl,zA ⟨_,Sub.refl _,hil,_,rfl,rfl,go λz=>p1 z.1⟩⟩⟩
 rintro _ h' ⟨a,rfl,sb,one⟩;refine jf (λσ' h2=>σ'= [some (jh T),a,some (.int ((zw T n:G5):G8))]/\h'=h2) (λC hC=>⟨_,rfl,T,n,b,rfl,hT,h1,h6,one,hC _ _ ⟨rfl,rfl⟩⟩) ?_;rintro _ _ ⟨rfl,rfl⟩;refine jf (λσ' h2=>σ'= [some (jh T),a,some (.int ((zw T n:G5):G8))]/\h'=h2/\zw T n≠0) (λC hC=>⟨_,rfl,_,rfl,?_⟩) ?_
 ·show if decide (((zw T n:G5):G8)=0)=true then _ else _
  by_cases z:zw T n=0
  ·rw [G9 (by omega)];exact wc ⟨sz1,sz3,h,sb,q _ (.inr ⟨one,.inl ⟨rfl,z⟩⟩)⟩
  ·rw [D5 (by omega)];exact zA (hC _ _ ⟨rfl,rfl,z⟩)
 rintro _ _ ⟨rfl,rfl,nz⟩;refine⟨_,rfl,_,rfl,?_⟩;show if decide ((2:G8)<=((zw T n:G5):G8))=true then _ else _
 by_cases z:2<=zw T n
 ·rw [G9 (by omega)];exact wc ⟨sz1,_,rfl,T,n,b,rfl,hT,h1,h6,one,nz,λrs h3 t _ sb3=>⟨sz3,h,sb.trans sb3,q _ (.inr ⟨one,.inr (.inl ⟨rs,rfl,t,z⟩)⟩)⟩⟩
 ·rw [D5 (by omega)];exact zA ⟨h,sb,q _ (.inr ⟨one,.inr (.inr ⟨rfl,by omega⟩)⟩)⟩
def YD:RDn:=λds h Q=> ∃ns k,ds= [.scr ns,.int k]/\0<=k/\ ∀n,Q (.int n) h
theorem PL (Z:Zs mg)(F:Fun K "_law_cell" "_law_cell" ZP f fd):FnOk P w K mg base CX0 (n+1) f fd ["_law_script","_law_k"] (LSp K YD):=by
 refine F.okM Pp (λhr=>(js2 (vF (jt1 Qh (jv 1) (yD Z (jv 0))) (jR (ji1 (jv 0) (jv 1)))) (jR jz))) ?_;rintro ds h Q ⟨ns,k,rfl,h0,q⟩;refine⟨rfl,?_⟩;simp only [Zy,Sd,YJ,dOp,Oa,vc,M1,U7,R7,B9,U3,A3,cR,K8,Z0,dCB,zg,Zx,Ha,AW,D.bl.injEq,BQ,ixD,Lv,aU,Ds,dC];refine Xs (λc=> ?_) (λ_=>⟨h,Sub.refl h,q 0⟩);have c':k<(ns.length:G8):=N2 c;have hk:k.toNat<ns.length:=by omega
 have ek:k=((k.toNat:G5):G8):=by omega
 have z:=zK (G2 hk);rw [<-ek] at z;exact⟨ns[k.toNat],z,h,Sub.refl h,q _⟩
def UH:RDn:=λds h Q=> ∃c,ds= [.int c]/\ ∀p l fl,h p=none->0<=l->(fl=0\/fl=1)->Q (.lst p) (wB h p [.int l,.int fl])
theorem Rn (Z:Zs mg)(F:Fun K "_law_pen" "_law_pen" Yc f fd):FnOk P w K mg base CX0 (n+1) f fd ["_law_cell_here"] (LSp K UH):=by
 refine F.okM Uu (λhr=>(js2 (jse 1 Uu (zB (KL rfl) rfl Z.max (by decide +kernel) (j2 (jv 0) (jop Jl jz (jv 0))))) (jR (Dk (j2 (jv 1) (jS AZ rfl Z.int (by decide +kernel) (j1 (jc1 Dv (jv 1) (jop AX jz jz))))))))) ?_;rintro ds h Q ⟨c,rfl,q⟩;refine⟨rfl,?_⟩;simp only [Zy,Lu,dCB,zg,Oa,vc,M1,U7,R7,B9,N3,U3,A3,K8,Z0,dOp,dC,qZ,Zx,xX,BQ,TY,List.set_cons_succ,List.set_cons_zero,cR,jab,AW,xW,Lv,aU];refine⟨⟨by decide,by decide,by decide⟩,by decide,λp hp=>⟨_,Sub.refl _,q p _ _ hp ?_ ?_⟩⟩
 ·split<;>omega
 ·split<;>simp<;>omega
def yM:RDn:=λds h Q=> ∃p l fl m,ds= [.lst p,.int m]/\h p=some [.int l,.int fl]/\0<=l/\0<m/\m<2^200/\ ∀r l',0<=r->r<m->0<=l'->Q (.int r) (wB h p [.int l',.int fl])
theorem PM (Z:Zs mg)(F:Fun K "_law_draw" "_law_draw" ZQ f fd):FnOk P w K mg base CX0 (n+1) f fd ["_law_pen_here","_law_many"] (LSp K yM):=by
 refine F.okM yP (λhr=>(js5 (qh (jt1 oq_eq (ji1 (jv 0) jz) jz) (js3 (On (zB Nt rfl Z.divmod (by decide +kernel) (j2 (ji1 (jv 0) jz) (jv 1))) (GQ (i:=2) (j:=3) rfl yP.nd rfl rfl (F8 rfl) (F8 rfl))) (On (jv 2) (Co (jv 0) jz)) (jR (jv 3))) Cm) (jse 4 yP (jop vV (jop Qm (jop we (jop vV (ji1 (jv 0) jz) jz) jz) jz) jz)) (jse 4 yP (jop vV (jop we (jop Qm (jv 4) (jv 4)) jz) jz)) (On (jop vV (jop we (jop Qm (jv 4) jz) jz) jz) (Co (jv 0) jz)) (jR (jop vV (jop Su (ji1 (jv 0) jz) jz) (jv 1))))) ?_;rintro ds h Q ⟨p,l,fl,m,rfl,hp,h0,hm,hm2,q⟩;refine⟨rfl,?_⟩;refine jx [some (.lst p),some (.int m),none,none,none] (λC hC=>⟨_,rfl,_,_,hp,rfl,?_⟩) ?_
 ·show ∃k,D.bl (decide (fl=1))= .bl k/\_;refine⟨_,rfl,Xs (λ_=> ?_) λ_=>hC⟩;exact⟨_,rfl,_,_,hp,rfl,_,rfl,_,_,rfl,⟨hm,hm2⟩,_,_,rfl,_,rfl,_,rfl,p,0,_,0,rfl,rfl,hp,rfl,_,rfl,_,Sub.refl _,q (l%m) (l / m) (eZ _ (tO hm)) (gF _ hm) (Int.ediv_nonneg h0 (tF hm))⟩
 refine jf (λσ' h'=> ∃z:G8,σ'= [some (.lst p),some (.int m),none,none,some (.int z)]/\(0<=z/\z<2147483629)/\h=h') (λC hC=>⟨_,rfl,_,_,hp,rfl,by decide,.inr ⟨by decide,by decide⟩,by decide,hC _ _ ⟨_,rfl,⟨eZ _ (by decide),gF _ (by decide)⟩,rfl⟩⟩) ?_;rintro _ _ ⟨z,rfl,⟨z0,z1⟩,rfl⟩;refine jf (λσ' h'=> ∃y:G8,σ'= [some (.lst p),some (.int m),none,none,some (.int y)]/\h=h') (λC hC=>⟨_,rfl,_,rfl,.inl ⟨mX (by decide) z0,Int.lt_trans z1 (by decide)⟩,by decide,hC _ _ ⟨_,rfl,rfl⟩⟩) ?_;rintro _ _ ⟨y,rfl,rfl⟩;refine jf (λσ' h'=> ∃x:G8,σ'= [some (.lst p),some (.int m),none,none,some (.int y)]/\0<=x/\h'=wB h p [.int x,.int fl]) (λC hC=>⟨_,rfl,.inr ⟨by decide,by decide⟩,by decide,_,rfl,p,0,_,0,rfl,rfl,hp,rfl,hC _ _ ⟨_,rfl,eZ _ (by decide),rfl⟩⟩) ?_;rintro _ _ ⟨x,rfl,x0,rfl⟩;exact⟨_,rfl,_,_,jc,rfl,⟨by decide,by decide⟩,_,rfl,hm,_,Sub.refl _,q (x / 32%m) x (eZ _ (tO hm)) (gF _ hm) x0⟩
def YE:RDn:=λds h Q=> ∃p l fl,ds= [.lst p]/\h p=some [.int l,.int fl]/\0<=l/\ ∀ (k:G5) l',1<=k->k<=6->0<=l'->Q (.int (k:G8)) (wB h p [.int l',.int fl])
theorem PN (Z:Zs mg)(F:Fun K "_law_size" "_law_size" ZR f fd)(jW:je P w K mg base n "_law_draw" ["_law_pen_here","_law_many"] yM):FnOk P w K mg base CX0 (n+1) f fd ["_law_pen_here"] (LSp K YE):=by
 refine F.okM Pq (λhr=>(jC (jR (ji1 (Dk (jac jz (by exact(jac jz (by exact(jac jz (by exact(jac jz (by exact(jac jz (by exact(jac jz (by exact(jac jz (by exact(jac jz (by exact(j4 jz jz jz jz)))))))))))))))))) (jk jW hr (j2 (jv 0) jz)))))) ?_;rintro ds h Q ⟨p,l,fl,rfl,hp,h0,q⟩;refine⟨rfl,?_⟩;simp only [BQ,dOp,TY,zg,dC,Zx,R7,B9,dCB,Oa,vc,M1,U7,U3,A3,K8,Z0,ixD,Lv,aU];refine⟨by decide,λp1 e1=>⟨p,l,fl,12,rfl,jD hp e1,h0,by decide,by decide,λr l' r0 r1 l0=> ?_⟩⟩;obtain⟨d,hd,ed⟩:=Dy (xs:= [D.int 1,D.int 2,D.int 3,D.int 4,D.int 5,D.int 3,D.int 4,D.int 2,D.int 6,D.int 5,D.int 4,D.int 3]) r0 r1;refine⟨_,d,jA (jY hp e1) jc,ed,_,Sub.both (Sub.newAt (Sub.refl h) e1),?_⟩;have q': ∀k:G5,1<=k->k<=6->Q (.int (k:G8)) (wB h p [.int l',.int fl]):=λk a b=>q k l' a b l0
 simp only [T6,A8,or_false] at hd;rcases hd with e|e|e|e|e|e|e|e|e|e|e|e<;>subst e
 ·exact q' 1 (by decide) (by decide)
 ·exact q' 2 (by decide) (by decide)
 ·exact q' 3 (by decide) (by decide)
 ·exact q' 4 (by decide) (by decide)
 ·exact q' 5 (by decide) (by decide)
 ·exact q' 3 (by decide) (by decide)
 ·exact q' 4 (by decide) (by decide)
 ·exact q' 2 (by decide) (by decide)
 ·exact q' 6 (by decide) (by decide)
 ·exact q' 5 (by decide) (by decide)
 ·exact q' 4 (by decide) (by decide)
 ·exact q' 3 (by decide) (by decide)
def WA:RDn:=λds h Q=> ∃p l fl,∃k:G5,ds= [.lst p,.int (k:G8)]/\h p=some [.int l,.int fl]/\0<=l/\1<=k/\k<=6/\ ∀T l',GoodTab k T->0<=l'->Q (jh T) (wB h p [.int l',.int fl])
theorem Gj (Z:Zs mg)(F:Fun K "_law_table" "_law_table" JJ f fd)(jW:je P w K mg base n "_law_draw" ["_law_pen_here","_law_many"] yM):FnOk P w K mg base CX0 (n+1) f fd ["_law_pen_here","_law_size_here"] (LSp K WA):=by
 refine F.okM jH (λhr=>(js5 (jaj (i:=2) (j:=3) rfl jH.nd rfl rfl (by decide) rfl rfl (j2 (jk jW hr (j2 (jv 0) jz)) (ji1 (Dk (j3 jz jz jz)) (jk jW hr (j2 (jv 0) jz)))) rfl) (jse 4 jH (ji1 (Dk (j4 jz jz jz (jop AX jz jz))) (jk jW hr (j2 (jv 0) jz)))) (jse 5 jH (Dk Yo)) (GR B2 rfl (jrg Z (jv 1)) (jgn 6 jH) (js3 (jse 7 jH (Dk Yo)) (GR B2 rfl (jrg Z (jv 1)) (jgn 8 jH) (js5 (jse 9 jH (jc1 oq_eq (jk jW hr (j2 (jv 0) (jv 3))) jz)) (vF (jt1 Qh (jv 2) jz) (jse 9 jH (jor (jc1 oq_eq (jv 8) (jop vV (jop we (jv 6) jz) (jv 1))) (Xc (VH (jv 9) (Xc (jc1 (Zl hr.units) (jk jW hr (j2 (jv 0) jz)) (jv 2)))))))) (vF (jt1 oq_eq (jv 2) jz) (jse 9 jH (jor (VH (jv 9) (Xc (jc1 oq_eq (jop vV (jop Jl (jv 8) (jv 6)) jz) jz))) (Xc (jc1 (Zl hr.units) (jv 8) (jop we (jv 6) jz)))))) (vF (jt1 oq_eq (jv 2) jz) (jse 9 jH (VH (jv 9) (Xc (jc1 Dv (jv 8) (jv 6)))))) (zW (SG (jv 7) (jop Qm (jS AZ rfl Z.int (by decide +kernel) (j1 (jv 9))) (jop we jz (jk jW hr (j2 (jv 0) (jv 4))))))))) (zW (SG (jv 5) (jS cq_tuple rfl Z.tuple (by decide +kernel) (j1 (jv 7))))))) (jR (jS cq_tuple rfl Z.tuple (by decide +kernel) (j1 (jv 5)))))) ?_;rintro ds h Q ⟨p,l,fl,k,rfl,hp,h0,hk1,hk6,q⟩;refine⟨rfl,?_⟩;refine jf (λσ' h'=> ∃way o l2,σ'= [some (.lst p),some (.int (k:G8)),some (.int way),some (.int o),none,none,none,none,none,none]/\0<o/\o<1000/\0<=l2/\h' p=some [.int l2,.int fl]/\But p h h') (λC hC=>⟨_,rfl,p,l,fl,6,rfl,hp,h0,by decide,by decide,λway l1 w0 w1 l10=>⟨sz3,λp1 e1=>⟨_,rfl,p,l1,fl,3,rfl,jD jc e1,l10,by decide,by decide,λr l2 r0 r1 l20=> ?_⟩⟩⟩) ?_
 ·obtain⟨oft,ho,eo⟩:=Dy (xs:= [D.int 2,D.int 3,D.int 5]) r0 r1;obtain⟨o,e,o1,o2⟩: ∃o:G8,oft= .int o/\0<o/\o<1000:=by
   simp only [T6,A8,or_false] at ho;rcases ho with e|e|e<;>exact⟨_,e,by decide,by decide⟩
  subst e;exact⟨_,_,jA (jY jc e1) jc,eo,_,_,rfl,hC _ _ ⟨way,o,l2,rfl,o1,o2,l20,jc,((But.upd).new e1).put⟩⟩
 rintro _ h1 ⟨way,o,l2,rfl,o1,o2,l20,kA,bA⟩;refine jf (λσ' h'=> ∃m l3,σ'= [some (.lst p),some (.int (k:G8)),some (.int way),some (.int o),some (.int m),none,none,none,none,none]/\0<m/\m<=1000000/\0<=l3/\h' p=some [.int l3,.int fl]/\But p h h') (λC hC=>⟨⟨by decide,by decide,by decide⟩,sz4,λp1 e1=>⟨_,rfl,p,l2,fl,4,rfl,jD kA e1,l20,by decide,by decide,λr l3 r0 r1 l30=> ?_⟩⟩) ?_
 ·obtain⟨most,ho,eo⟩:=Dy (xs:= [D.int 1,D.int 1,D.int 3,D.int (10^oN 6)]) r0 r1;obtain⟨m,e,m1,m2⟩: ∃o:G8,most= .int o/\0<o/\o<=1000000:=by
   simp only [T6,A8,or_false] at ho;rcases ho with e|e|e|e<;>exact⟨_,e,by decide,by decide⟩
  subst e;exact⟨_,_,jA (jY kA e1) jc,eo,hC _ _ ⟨m,l3,rfl,m1,m2,l30,jc,(bA.new e1).put⟩⟩
 clear kA bA;rintro _ h2 ⟨m,l3,rfl,m1,m2,l30,kB,bB⟩;refine jf (λσ' h'=> ∃R,σ'= [some (.lst p),some (.int (k:G8)),some (.int way),some (.int o),some (.int m),some (.lst R),none,none,none,none]/\R≠p/\h R=none/\h' R=some []/\h' p=some [.int l3,.int fl]/\But p h h') (λC hC=>⟨sz0,λR eR=>hC _ _ ⟨R,rfl,jY kB eR,Ce bB eR (jY kB eR),jc,jD kB eR,bB.new eR⟩⟩) ?_;clear kB bB;rintro _ h3 ⟨R,rfl,nR,fR,kR,kC,bC⟩;refine jf (λσ' h'=> ∃a b c d l4 rows,σ'= [some (.lst p),some (.int (k:G8)),some (.int way),some (.int o),some (.int m),some (.lst R),a,b,c,d]/\0<=l4/\h' p=some [.int l4,.int fl]/\h' R=some (rows.map vB)/\But p h h'/\GoodTab k rows) (λC hC=> ?_) (λσ' h' ⟨a,b,c,d,l4,rows,e,l40,kD,kE,bD,g⟩=>by subst e;exact⟨_,rfl,_,kE,_,bD.sub kD,q rows l4 g l40⟩);refine yS k (λi σ' h'=> ∃a b c d l4 rows,σ'= [some (.lst p),some (.int (k:G8)),some (.int way),some (.int o),some (.int m),some (.lst R),a,b,c,d]/\0<=l4/\h' p=some [.int l4,.int fl]/\h' R=some (rows.map vB)/\But p h h'/\rows.length=i/\ ∀r∈rows,DD k r) (by omega) (λR' r=>⟨_,rfl,r⟩)
  ⟨none,none,none,none,l3,[],rfl,l30,kC,kR,bC,rfl,λr hr=>nomatch hr⟩ (λσ' h' z=>hC _ _ z) ?_
 clear kC kR bC;rintro i _ h4 hi ⟨a,b,c,d,l4,rows,rfl,l40,kD,kE,bD,g1,g2⟩;refine jf (λσ' h'=> ∃S,σ'= [some (.lst p),some (.int (k:G8)),some (.int way),some (.int o),some (.int m),some (.lst R),some (.int (i:G8)),some (.lst S),c,d]/\S≠p/\S≠R/\h S=none/\h' S=some []/\h' p=some [.int l4,.int fl]/\h' R=some (rows.map vB)/\But p h h') (λC hC=>⟨sz0,λS eS=>hC _ _ ⟨S,rfl,jY kD eS,jY kE eS,Ce bD eS (jY kD eS),jc,jD kD eS,jD kE eS,bD.new eS⟩⟩) ?_;clear kD kE bD;rintro _ h5 ⟨S,rfl,nS,nSR,fS,kS,kD,kE,bD⟩;refine jf (λσ' h'=> ∃c d l5 row,σ'= [some (.lst p),some (.int (k:G8)),some (.int way),some (.int o),some (.int m),some (.lst R),some (.int (i:G8)),some (.lst S),c,d]/\0<=l5/\h' p=some [.int l5,.int fl]/\h' R=some (rows.map vB)/\h' S=some (row.map D.int)/\But p h h'/\DD k row) (λC hC=> ?_) ?_
 rotate_left
 ·rintro _ h6 ⟨c,d,l5,row,rfl,l50,kD,kE,kF,bD,g⟩;refine⟨_,rfl,R,rfl,_,rfl,_,kF,_,kE,?_,_,Sub.refl _,by omega,_,_,_,_,l5,rows++ [row],rfl,l50,jA (E8 nR) kD,?_,bD.putNew fR,by rw [P2,g1];rfl,?_⟩
  ·rw [G1];exact U2 (show rows.length<=1000 by omega) (by decide)
  ·rw [jc,S8];rfl
  ·intro r hr;rcases R1.mp hr with z|z
   ·exact g2 r z
   ·rw [P1.mp z];exact g
 refine yS k (λj σ' h'=> ∃c d l5 row,σ'= [some (.lst p),some (.int (k:G8)),some (.int way),some (.int o),some (.int m),some (.lst R),some (.int (i:G8)),some (.lst S),c,d]/\0<=l5/\h' p=some [.int l5,.int fl]/\h' R=some (rows.map vB)/\h' S=some (row.map D.int)/\But p h h'/\row.length=j/\ ∀x∈row,0<=x/\x<=1000000) (by omega) (λR' r=>⟨_,rfl,r⟩)
  ⟨_,_,l4,[],rfl,l40,kD,kE,kS,bD,rfl,λr hr=>nomatch hr⟩ (λσ' h' z=>hC _ _ z) ?_
 clear kD kE kS bD;rintro j _ h6 hj ⟨c,d,l5,row,rfl,l50,kD,kE,kF,bD,g1',g2'⟩;refine jf (λσ' h'=> ∃ (g:T9) (l6:G8),σ'= [some (.lst p),some (.int (k:G8)),some (.int way),some (.int o),some (.int m),some (.lst R),some (.int (i:G8)),some (.lst S),some (.int (j:G8)),some (.bl g)]/\0<=l6/\h' p=some [.int l6,.int fl]/\h' R=some (rows.map vB)/\h' S=some (row.map D.int)/\But p h h') (λC hC=>⟨_,rfl,_,rfl,p,l5,fl,o,rfl,kD,l50,o1,by omega,λr l6 r0 r1 l60=>hC _ _ ⟨_,l6,rfl,l60,jc,jA nR kE,jA nS kF,bD.put⟩⟩) ?_;clear kD kE kF bD;rintro _ _ ⟨g,l6,rfl,l60,kD,kE,kF,bD⟩;refine jf (λσ' h'=> ∃ (g:T9) (l6:G8),σ'= [some (.lst p),some (.int (k:G8)),some (.int way),some (.int o),some (.int m),some (.lst R),some (.int (i:G8)),some (.lst S),some (.int (j:G8)),some (.bl g)]/\0<=l6/\h' p=some [.int l6,.int fl]/\h' R=some (rows.map vB)/\h' S=some (row.map D.int)/\But p h h') (λC hC=>⟨_,rfl,_,rfl,Xs (λ_=>⟨_,rfl,_,rfl,_,rfl,by omega,_,rfl,Xs (λ_=>hC _ _ ⟨_,l6,rfl,l60,kD,kE,kF,bD⟩) λ_=>⟨_,rfl,_,rfl,Xs (λ_=>⟨_,rfl,p,l6,fl,2,rfl,kD,l60,by decide,by decide,λr l7 r0 r1 l70=>⟨_,rfl,hC _ _ ⟨_,l7,rfl,l70,jc,jA nR kE,jA nS kF,bD.put⟩⟩⟩) λ_=>hC _ _ ⟨_,l6,rfl,l60,kD,kE,kF,bD⟩⟩⟩) λ_=>hC _ _ ⟨_,l6,rfl,l60,kD,kE,kF,bD⟩⟩) ?_;clear kD kE kF bD;rintro _ _ ⟨g,l6,rfl,l60,kD,kE,kF,bD⟩;refine jf (λσ' h'=> ∃ (g:T9) (l6:G8),σ'= [some (.lst p),some (.int (k:G8)),some (.int way),some (.int o),some (.int m),some (.lst R),some (.int (i:G8)),some (.lst S),some (.int (j:G8)),some (.bl g)]/\0<=l6/\h' p=some [.int l6,.int fl]/\h' R=some (rows.map vB)/\h' S=some (row.map D.int)/\But p h h') (λC hC=>⟨_,rfl,_,rfl,Xs (λ_=>⟨_,rfl,_,rfl,Xs (λ_=>⟨_,rfl,_,rfl,by decide,_,rfl,Xs (λ_=>hC _ _ ⟨_,l6,rfl,l60,kD,kE,kF,bD⟩) λ_=>⟨_,rfl,_,rfl,hC _ _ ⟨_,l6,rfl,l60,kD,kE,kF,bD⟩⟩⟩) λ_=>⟨_,rfl,Xs (λ_=>hC _ _ ⟨_,l6,rfl,l60,kD,kE,kF,bD⟩) λ_=>⟨_,rfl,_,rfl,hC _ _ ⟨_,l6,rfl,l60,kD,kE,kF,bD⟩⟩⟩⟩) λ_=>hC _ _ ⟨_,l6,rfl,l60,kD,kE,kF,bD⟩⟩) ?_;clear kD kE kF bD;rintro _ _ ⟨g,l6,rfl,l60,kD,kE,kF,bD⟩;refine jf (λσ' h'=> ∃ (g:T9) (l6:G8),σ'= [some (.lst p),some (.int (k:G8)),some (.int way),some (.int o),some (.int m),some (.lst R),some (.int (i:G8)),some (.lst S),some (.int (j:G8)),some (.bl g)]/\0<=l6/\h' p=some [.int l6,.int fl]/\h' R=some (rows.map vB)/\h' S=some (row.map D.int)/\But p h h') (λC hC=>⟨_,rfl,_,rfl,Xs (λ_=>⟨_,rfl,_,rfl,Xs (λ_=>⟨_,rfl,_,rfl,hC _ _ ⟨_,l6,rfl,l60,kD,kE,kF,bD⟩⟩) λ_=>hC _ _ ⟨_,l6,rfl,l60,kD,kE,kF,bD⟩⟩) λ_=>hC _ _ ⟨_,l6,rfl,l60,kD,kE,kF,bD⟩⟩) ?_;clear kD kE kF bD;rintro _ _ ⟨g,l6,rfl,l60,kD,kE,kF,bD⟩;have gi: ∀x r:G8,0<=r->r<m->x=0\/x=1->CMul x (1+r)/\0<=x*(1+r)/\x*(1+r)<=1000000:=λx r r0 r1 hx=>by
  rcases hx with e|e<;>subst e
  ·exact⟨.inl ⟨by decide,by decide⟩,by omega,by omega⟩
  ·exact⟨.inl ⟨by decide,by decide⟩,by omega,by omega⟩
 refine⟨_,rfl,S,rfl,_,rfl,_,rfl,_,rfl,p,l6,fl,m,rfl,kD,l60,m1,by omega,λr l7 r0 r1 l70=> ?_⟩;have gg:=gi (if g=true then 1 else 0) r r0 r1 (by cases g<;>decide);refine⟨gg.1,_,jA nS kF,?_,_,Sub.refl _,by omega,_,_,l7,row++ [(if g=true then 1 else 0)*(1+r)],rfl,l70,jA (E8 nS) jc,jA (E8 nSR) (jA nR kE),?_,(bD.put).putNew fS,by rw [P2,g1'];rfl,?_⟩
 ·rw [G1];exact U2 (show row.length<=1000 by omega) (by decide)
 ·rw [jc,S8];rfl
 ·intro x hx;rcases R1.mp hx with z|z
  ·exact g2' x z
  ·rw [P1.mp z];exact gg.2
def WB:RDn:=λds h Q=> ∃p l fl,∃k:G5,ds= [.lst p,.int (k:G8)]/\h p=some [.int l,.int fl]/\0<=l/\k<=6/\ ∀o l',Ordr k o->0<=l'->Q (jq o) (wB h p [.int l',.int fl])
theorem Gk (Z:Zs mg)(F:Fun K "_law_order" "_law_order" JK f fd)(jW:je P w K mg base n "_law_draw" ["_law_pen_here","_law_many"] yM):FnOk P w K mg base CX0 (n+1) f fd ["_law_pen_here","_law_many"] (LSp K WB):=by
 refine F.okM vM (λhr=>(js3 (jse 2 vM (Dk Yo)) (GR B2 rfl (jrg Z (jv 1)) (jgn 3 vM) (jC (zW (jbd (jv 2) (jk jW hr (j2 (jv 0) (jop we (jv 3) jz))) (jv 3))))) (jR (jS cq_tuple rfl Z.tuple (by decide +kernel) (j1 (jv 2)))))) ?_;rintro ds h Q ⟨p,l,fl,k,rfl,hp,h0,hk,q⟩;refine⟨rfl,?_⟩;refine jf (λσ' h'=> ∃R,σ'= [some (.lst p),some (.int (k:G8)),some (.lst R),none]/\R≠p/\h R=none/\h' R=some []/\h' p=some [.int l,.int fl]/\But p h h') (λC hC=> ?_) ?_
 ·exact⟨sz0,λR eR=>hC _ _ ⟨R,rfl,jY hp eR,eR,jc,jD hp eR,(But.refl p h).new eR⟩⟩
 rintro σ' h1 ⟨R,rfl,nR,fR,kR,kp,bt⟩;refine jf (λσ' h'=> ∃a l2 o,σ'= [some (.lst p),some (.int (k:G8)),some (.lst R),a]/\0<=l2/\Ordr k o/\h' R=some (o.map λ(i:G5)=>D.int (i:G8))/\h' p=some [.int l2,.int fl]/\But p h h') (λC hC=> ?_) ?_
 ·refine yS k (λi σ' h'=> ∃a l2 o,σ'= [some (.lst p),some (.int (k:G8)),some (.lst R),a]/\0<=l2/\Ordr i o/\h' R=some (o.map λ(i:G5)=>D.int (i:G8))/\h' p=some [.int l2,.int fl]/\But p h h') (by omega) (λR' r=>⟨_,rfl,r⟩) ⟨none,l,[],rfl,h0,G0u,kR,kp,bt⟩ (λσ' h' z=>hC _ _ z) ?_;rintro i _ h2 hi ⟨a,l2,o,rfl,l20,ho,kR2,kp2,bt2⟩;refine⟨_,rfl,R,rfl,_,rfl,_,rfl,p,l2,fl,(i:G8)+1,rfl,kp2,l20,by omega,by omega,λr l3 r0 r1 l30=> ?_⟩;have lo:o.length=i:=ho.ord.len;refine⟨_,rfl,r.toNat,_,by rw [mG r0],by omega,jA nR kR2,?_,_,Sub.refl _,by omega,_,l3,o.take r.toNat++i::o.drop r.toNat,rfl,l30,ho.insert r.toNat,?_,jA (E8 nR) jc,(bt2.put).putNew fR⟩
  ·rw [G1];exact U2 (show o.length<=1000 by omega) (by decide)
  ·rw [jc,S8,M1,mN,mO]
 rintro _ h3 ⟨a,l2,o,rfl,l20,ho,kR3,kp3,bt3⟩;exact⟨_,rfl,_,kR3,_,bt3.sub kp3,q o l2 ho l20⟩
theorem hds_in {p j:G5}:j∈wQ T n p↔j<n/\ent T p j>0:=by unfold wQ;rw [M7,P6,M6]
theorem AC {x:D}{k:G8}(h: ∀p j,p<n->j<n->ent T p j>0->yL x j=(yL x p+1)%k):uC T n x k=true:=
 T8.mpr λp hp=>T8.mpr λj hj=>G9 (h p j (P6.mp hp) (hds_in.mp hj).1 (hds_in.mp hj).2)
theorem XS {rs:G0 G5}{j:G5}:yL (jq rs) j=(rs.getD j 0:G8):=by
 unfold yL jq;dsimp only;rw [D1,D1,P9];cases rs[j]? with
 |none=>rfl
 |some x=>rfl
theorem TurnsOf.hold {d:G5}{rs:G0 G5}(t:TurnsOf T n d rs)(d1:1<=d)(d6:d<=6):JP T n (.int (d:G8)) (jq rs)=true:=by
 show (jM (.int (d:G8)) 1 6&&(JN (jq rs) n (d:G8)&&uC T n (jq rs) (d:G8)))=true;have a:jM (.int (d:G8)) 1 6=true:=by show (decide ((1:G8)<=d)&&decide ((d:G8)<=6))=true;rw [G9 (by omega),G9 (by omega)];rfl
 have b:JN (jq rs) n (d:G8)=true:=by
  show (decide (((rs.map λ(k:G5)=>D.int (k:G8)).length:G8)=n)&&(rs.map λ(k:G5)=>D.int (k:G8)).all (λx=>jM x 0 ((d:G8)-1)))=true;rw [G1,t.len,G9 rfl,dU,E4,T8];intro x hx;obtain⟨j,hj,rfl⟩:=E1 hx;have:=t.lt j (by rw [<-t.len];exact hj);rw [D1,G2 hj] at this;have this:rs[j]<d:=this;show (decide ((0:G8)<=(rs[j]:G8))&&decide ((rs[j]:G8)<=(d:G8)-1))=true;rw [G9 (by omega),G9 (by omega)];rfl
 rw [a,b,AC λp j hp hj ar=>by rw [XS,XS,t.go p j hp hj (by omega),bR];rfl];rfl
theorem PP (h:Sq n e T)(hn:n<=8)(n1:1<=n){o:D4 G5}(ho:Fst n T o):o≠none↔(Zm T n).length=1/\zw T n=1:=by
 constructor
 ·intro z;cases o with
  |none=>exact absurd rfl z
  |some k=>exact DQ h hn n1 (K:=k) λm hm i j hi hj=>Er h hn ho hm hi hj
 ·rintro ⟨one,d1⟩ rfl;obtain⟨B,hB⟩:=DP h hn one d1;have:=ho (B+1) (by omega);rw [(WN h hn).mpr (hB (B+1) (by omega))] at this;cases this
theorem NM (h:Sq n e T)(hn:n<=8){S:G0 G5}(hS:IsS n S)(p1:0<S.length)(p2:S.length<n)(sh:Js n T S=true):(Zm T n).length≠1:=by
 intro one;obtain⟨i,hi⟩:=List.exists_mem_of_length_pos p1;refine absurd p2 (bF.mpr ?_);have sub: ∀j,j<n->j∈S:=λj hj=>by
  obtain⟨k,r⟩:=yV h hn one (hS.lt hi) hj;rw [<-qz h hS sh];exact mem_cl.mpr ⟨hj,i,hi,Am h hn k (hS.lt hi) hj r⟩
 obtain⟨p,rfl⟩:=hS;rw [e9.mpr λj hj=>(M7.mp (sub j (P6.mp hj))).2,P3];exact P5 _
theorem Li (h:Sq n e T)(hn:n<=8)(n1:1<=n)(one:(Zm T n).length=1)(z:zw T n=0):TurnsOf T n 2 [0]:=by
 have bk: ∀m p,p<n->RP n T m p p->m=0:=λm p hp r=>by
  have:=wM h hn m hp r;rw [show vj T n=0 from z] at this;exact Nat.eq_zero_of_zero_dvd this
 have e1:n=1:=by
  refine Nat.le_antisymm (dL λn2=> ?_) n1;obtain⟨k,rk⟩:=yV h hn one (i:=0) (j:=1) (by omega) (by omega);obtain⟨l,rl⟩:=yV h hn one (i:=1) (j:=0) (by omega) (by omega);have:=bk (k+l) 0 (by omega) ((wq h hn k l (by omega) (by omega)).mpr ⟨1,by omega,rk,rl⟩);rw [show k=0 by omega] at rk;exact absurd ((zn (by omega) (by omega)).mp rk) (by decide)
 subst e1;refine⟨rfl,λj hj=>by rw [show j=0 by omega];decide,λi j hi hj ar=> ?_⟩;rw [show i=0 by omega,show j=0 by omega] at ar;exact absurd (bk 1 0 (by decide) ((Jr h hn).mpr ar)) (by decide)
/-- a paper,just where no power is full -/
theorem Lj (h:Sq n e T)(hn:n<=8)(n1:1<=n){o:D4 G5}(ho:Fst n T o){t:D}(nt:uU n T t):(true !=isN t)=isN (NJ o):=by
 have fi:=PP h hn n1 ho;rcases nt with ⟨S,rfl,iS,p1,p2,sh⟩|⟨one,⟨rfl,z⟩|⟨rs,rfl,_,z⟩|⟨rfl,z⟩⟩
 ·cases o with
  |none=>rfl
  |some k=>exact absurd (fi.mp (by intro z;cases z)).1 (NM h hn iS p1 p2 sh)
 ·cases o with
  |none=>rfl
  |some k=>have:=(fi.mp (by intro z;cases z)).2;omega
 ·cases o with
  |none=>rfl
  |some k=>have:=(fi.mp (by intro z;cases z)).2;omega
 ·cases o with
  |none=>exact absurd rfl (fi.mpr ⟨one,z⟩)
  |some k=>rfl
theorem AD (h:Sq n e T)(hn:n<=8){o:D4 G5}(ho:Fst n T o):Fst n (jK n T) o:=by
 have x: ∀k,zm (zk n (jK n T) k)=zm (zk n T k):=λk=>by
  rw [<-VL (Sq.pow (Sq.mark T) hn k),<-Mf h hn,VL (h.pow hn k)]
 cases o with
 |none=>exact λk hk=>(x k).trans (ho k hk)
 |some k=>exact⟨ho.1,ho.2.1,(x k).trans ho.2.2.1,λj j1 j2=>(x j).trans (ho.2.2.2 j j1 j2)⟩
theorem MQ {e':G5}{U:G0 (G0 G8)}(h:Sq n e T)(g:Sq n e' U)(hn:n<=8)(x: ∀k,(∀i j,i<n->j<n->RP n T k i j)↔ ∀i j,i<n->j<n->RP n U k i j){o:D4 G5}(ho:Fst n T o):Fst n U o:=by
 have e: ∀k,zm (zk n U k)=zm (zk n T k):=λk=>by
  rw [B8,WN g hn,WN h hn];exact(x k).symm
 cases o with
 |none=>exact λk hk=>(e k).trans (ho k hk)
 |some k=>exact⟨ho.1,ho.2.1,(e k).trans ho.2.2.1,λj j1 j2=>(e j).trans (ho.2.2.2 j j1 j2)⟩
theorem uE {o:D4 G5}(q:Q (.bl false) h):neE (NJ o) (NJ o) h Q:=by
 cases o with
 |none=>exact⟨.none,.none,rfl,rfl,rfl,rfl,q⟩
 |some k=>
  show Q (.bl (!decide ((k:G8)=(k:G8)))) h;rw [G9 rfl];exact q
theorem uF {x y:T9}(e:x=y)(q:Q (.bl false) h):neE (.bl x) (.bl y) h Q:=by
 subst e;show Q (.bl (!decide (x=x))) h;rw [G9 rfl];exact q
theorem jaB {neg:T9}{w:D}{x:T9}(e:x=(neg !=isN w))(q:Q (.bl false) h):dC .non σ h λy h2=>isV neg w y h2 λy h2=>neE (.bl x) y h2 Q:=uF e q
def jaC (n:G5)(T:G0 (G0 G8))(r:D4 G5)(w:D):Prop:=(r=none/\w= .non)\/ ∃k g,r=some k/\Ld n T k g/\w= .tup [.int (k:G8),yK n (λi j=>wn T n j k i 0),g]
theorem TQ {r:D4 G5}{w:D}(x:jaC n T r w):isN w=isN (NJ r):=by
 rcases x with ⟨rfl,rfl⟩|⟨k,g,rfl,_,rfl⟩
 ·rfl
 ·rfl
theorem Lk {t:D}(hT:Sq n e T)(h1:1<=n)(h6:n<=6)(nt:uU n T t)(nn:isN t=false):(∃S,t= .tup [.str "shut",jq S]/\IsS n S/\(decide (0<S.length)&&(decide (S.length<n)&&Js n T S))=true)\/(∃k:G8,∃rs:G0 G5,t= .tup [.str "turns",.int k,jq rs]/\rs.length<=6/\(JP T n (.int k) (jq rs)&&MP (.int k))=true):=by
 rcases nt with ⟨S,rfl,iS,p1,p2,sh⟩|⟨one,⟨rfl,z⟩|⟨rs,rfl,tu,z⟩|⟨rfl,z⟩⟩
 ·exact .inl ⟨S,rfl,iS,by rw [G9 p1,G9 p2,sh];rfl⟩
 ·have w:JP T n (.int 2) (jq [0])=true:=(Li hT (by omega) h1 one z).hold (by decide) (by decide);exact .inr ⟨2,[0],rfl,by decide,by rw [w];rfl⟩
 ·have w:JP T n (.int ((zw T n:G5):G8)) (jq rs)=true:=tu.hold (by omega) (XR h6 (by omega)).2;have u:MP (.int ((zw T n:G5):G8))=true:=G9 (by omega);exact .inr ⟨_,rs,rfl,by rw [tu.len];exact h6,by rw [w,u];rfl⟩
 ·cases nn
def WC:RDn:=λds h Q=> ∃T o,∃n e:G5,ds= [jh T,jq o]/\Sq n e T/\1<=n/\n<=6/\e<=1000/\Ordr n o/\Q (.bl true) h
theorem Gm (Z:Zs mg)(F:Fun K "_law_right" "_law_right" JL f fd)(RA:je P w K mg base n "why_never" ["table"] YC)(Rz:je P w K mg base n "why_first" ["table"] Yx)(yg:je P w K mg base n "first_power" ["table"] yY)(UL:je P w K mg base n "marks" ["table"] Vr)(Ln:je P w K mg base n "renamed" ["table","order"] XO)(AG:je P w K mg base n "turned" ["table"] Pt)(XT:je P w K mg base n "beat" ["table"] Gi)(Vs:je P w K mg base n "joined" ["table"] UD)(Go:je P w K mg base n "never_holds" ["table","thing"] Zq)(Gn:je P w K mg base n "first_holds" ["table","thing"] Zp)(XU:je P w K mg base n "full" ["table"] Rf)(Gp:je P w K mg base n "power" ["table","k"] MM):FnOk P w K mg base CX0 (n+1) f fd ["_law_table_here","_law_order_here"] (LSp K WC):=by
 refine F.okM vR (λhr=>(js7 (qr (i:=2) (j:=3) (l:=4) rfl vR.nd rfl rfl rfl (by decide) (by decide) (by decide) rfl rfl rfl (j3 (jk yg hr (j1 (jv 0))) (jk Rz hr (j1 (jv 0))) (jk RA hr (j1 (jv 0)))) rfl) (vF (jpt (DB (jt1 (Cf hr.units) (jc1 Dz (jv 2) Be) (jc1 Dz (jv 3) Be)) (Nl (jt1 (Cf hr.units) (jc1 Dz (jv 2) Be) (jc1 RY (jv 4) Be))))) (jR jbl)) (GR B2 rfl (Cn (Dk (j3 (jk AG hr (j1 (jv 0))) (jk Ln hr (j2 (jv 0) (jv 1))) (jk UL hr (j1 (jv 0)))))) (jgn 5 vR) (jC (vF (jt1 (Cf hr.units) (jk yg hr (j1 (jv 5))) (jv 2)) (jR jbl)))) (vF (jt1 Dz (jv 2) Be) (jR (VH (jc1 Dz (jk Go hr (j2 (jv 0) (jv 4))) jbl) (Xc (jor (jai (jk Vs hr (j1 (jv 0)))) (Xc (jc1 oq_ne (jk XT hr (j1 (jv 0))) jz))))))) (vF (jpt (DB (jt1 RY (jk Gn hr (j2 (jv 0) (jv 3))) jbl) (DB (wS (zN (jk Vs hr (j1 (jv 0))))) (Nl (jt1 oq_ne (jk XT hr (j1 (jv 0))) jz))))) (jR jbl)) (vF (jpt (Nm (jt1 Sv (jv 2) jz) (Nk (zN (jk XU hr (j1 (jk Gp hr (j2 (jv 0) (jop Jl (jv 2) jz))))))))) (jR jbl)) (jR (VH (jk XU hr (j1 (jk Gp hr (j2 (jv 0) (jv 2))))) (VH (jk XU hr (j1 (jk Gp hr (j2 (jv 0) (jop we (jv 2) jz))))) (Xc (jk XU hr (j1 (jk Gp hr (j2 (jv 0) (jop we (jv 2) jz))))))))))) ?_;rintro ds h Q ⟨T,o,n,b,rfl,hT,h1,h6,hb,ho,q⟩;refine⟨rfl,?_⟩;have h8:n<=8:=by omega
 obtain⟨r,fr⟩:=uA hT h1 h6;have fi:=PP hT h8 h1 fr;refine jf (λσ' h'=> ∃w t,σ'= [some (jh T),some (jq o),some (NJ r),some w,some t,none]/\jaC n T r w/\uU n T t/\h=h') (λC hC=>⟨_,rfl,T,n,b,r,rfl,hT,h1,h6,hb,fr,_,rfl,T,n,b,r,rfl,hT,h1,h6,hb,fr,?_⟩) ?_
 ·cases r with
  |none=>exact .inl ⟨rfl,_,rfl,T,n,b,rfl,hT,h1,h6,λt nt=>⟨_,_,_,rfl,hC _ _ ⟨_,t,rfl,.inl ⟨rfl,rfl⟩,nt,rfl⟩⟩⟩
  |some k=>exact .inr ⟨k,rfl,λg ig=>⟨_,rfl,T,n,b,rfl,hT,h1,h6,λt nt=>⟨_,_,_,rfl,hC _ _ ⟨_,t,rfl,.inr ⟨k,g,rfl,ig,rfl⟩,nt,rfl⟩⟩⟩⟩
 rintro _ _ ⟨w,t,rfl,wp,nt,rfl⟩;have nf:=Lj hT h8 h1 fr nt;refine jx [some (jh T),some (jq o),some (NJ r),some w,some t,none] (λC hC=>⟨_,rfl,_,rfl,jaB (x:=(false !=isN (NJ r))) (by rw [TQ wp]) ⟨_,rfl,zA ⟨_,rfl,_,rfl,jaB (x:=(false !=isN (NJ r))) (by rw [nf];cases isN (NJ r)<;>rfl) ⟨_,rfl,zA (hC)⟩⟩⟩⟩) ?_;refine jf (λσ' h'=> ∃x,σ'= [some (jh T),some (jq o),some (NJ r),some w,some t,x]/\Sub h h') (λC hC=>⟨_,rfl,T,n,b,rfl,hT,h1,h6,_,rfl,_,rfl,T,n,b,o,rfl,hT,ho,h1,h6,_,rfl,T,n,b,rfl,hT,h1,h6,sz3,λX eX=>⟨X,rfl,?_⟩⟩) ?_
 ·refine ve [jh (YM n T),jh (DE n o T),jh (jK n T)] (λi σ' h'=> ∃x,σ'= [some (jh T),some (jq o),some (NJ r),some w,some t,x]/\wB h X [jh (YM n T),jh (DE n o T),jh (jK n T)]=h') (λi σ' h' ⟨_,_,e⟩=>by rw [<-e];exact jc) ⟨none,rfl,rfl⟩ (λσ' h' ⟨x,e,eh⟩=>hC _ _ ⟨x,e,eh ▸ Sub.newAt (Sub.refl h) eX⟩) ?_;rintro j d _ _ hj ⟨x,rfl,rfl⟩;have hjl:=(P8.mp hj).1;obtain⟨U,c,rfl,sU,hc,fU⟩: ∃U,∃c:G5,d=jh U/\Sq n c U/\c<=1000/\Fst n U r:=by
   rcases T6.mp (D0 hj) with e|e
   ·exact⟨_,b,e,hT.turn,hb,MQ hT hT.turn h8 (λk=>⟨λa i j hi hj=>(MG hT h8 hi hj).mpr (a j i hj hi),λa i j hi hj=>(MG hT h8 hj hi).mp (a j i hj hi)⟩) fr⟩
   rcases T6.mp e with e|e
   ·have sq:=hT.ren ho.ord;refine⟨_,b,e,sq,hb,MQ hT sq h8 (λk=>⟨λa i j hi hj=>(FP hT ho h8 hi hj).mpr (a _ _ (En ho hi).1 (En ho hj).1),λa i j hi hj=> ?_⟩) fr⟩;have:=(FP hT ho h8 (XL ho hi).1 (XL ho hj).1).mp (a _ _ (XL ho hi).1 (XL ho hj).1)
    rwa [(XL ho hi).2,(XL ho hj).2] at this
   ·exact⟨_,1,P1.mp e,Sq.mark T,by decide,AD hT h8 fr⟩
  exact⟨_,rfl,U,n,c,r,rfl,sU,h1,h6,hc,fU,_,rfl,uE ⟨_,rfl,zA ⟨_,Sub.refl _,hjl,_,rfl,rfl⟩⟩⟩
 rintro _ g ⟨x,rfl,sg⟩;cases r with
 |none=>
  have nn:isN t=false:=by
   have:(true !=isN t)=true:=nf;cases z:isN t with
   |false=>rfl
   |true=>rw [z] at this;cases this
  refine jf (λ_ _=>False) (λC hC=>⟨_,rfl,_,rfl,wc ⟨_,rfl,_,rfl,T,t,n,b,rfl,hT,h1,h6,?_⟩⟩) (λ_ _ z=>z.elim);rcases Lk hT h1 h6 nt nn with ⟨S,rfl,iS,ec⟩|⟨k,rs,rfl,rl,ec⟩
  ·refine .inl ⟨S,rfl,iS,?_⟩;rw [ec];refine⟨_,rfl,wc ⟨_,rfl,T,n,b,rfl,hT,h1,h6,_,rfl,?_⟩⟩
   by_cases one:(Zm T n).length=1
   ·rw [G9 one];refine⟨_,rfl,zA ⟨_,rfl,T,n,b,rfl,hT,h1,h6,one,h,sg,?_⟩⟩;show Q (.bl (!decide (((zw T n:G5):G8)=1))) h;rw [D5 (λz=>(fi.mpr ⟨one,by omega⟩) rfl)];exact q
   ·rw [D5 one];exact⟨_,rfl,wc ⟨h,sg,q⟩⟩
  ·refine .inr ⟨k,rs,rfl,rl,?_⟩;rw [ec];refine⟨_,rfl,wc ⟨_,rfl,T,n,b,rfl,hT,h1,h6,_,rfl,?_⟩⟩
   by_cases one:(Zm T n).length=1
   ·rw [G9 one];refine⟨_,rfl,zA ⟨_,rfl,T,n,b,rfl,hT,h1,h6,one,h,sg,?_⟩⟩;show Q (.bl (!decide (((zw T n:G5):G8)=1))) h;rw [D5 (λz=>(fi.mpr ⟨one,by omega⟩) rfl)];exact q
   ·rw [D5 one];exact⟨_,rfl,wc ⟨h,sg,q⟩⟩
 |some k=>
  obtain⟨one,bt⟩:=fi.mp (by intro z;cases z);obtain⟨k1,k30,fk,lo⟩:=fr;refine jf (λσ' h'=>σ'= [some (jh T),some (jq o),some (.int (k:G8)),some w,some t,x]/\g=h') (λC hC=>⟨_,rfl,_,rfl,zA (hC _ _ ⟨rfl,rfl⟩)⟩) ?_;rintro _ _ ⟨rfl,rfl⟩;obtain⟨e,_⟩|⟨k',gp,e,ig,rfl⟩:=wp
  ·cases e
  injection e with e
  subst e;have wk: ∀i j,i<n->j<n->WalkOk T n (wn T n j k i 0) i j k:=λi j hi hj=>qC hT hi hj ((Mz hT h8 hj k hi).mpr ((WN hT h8).mp fk i j hi hj))
  refine jf (λσ' h'=>σ'= [some (jh T),some (jq o),some (.int (k:G8)),some (.tup [.int (k:G8),yK n (λi j=>wn T n j k i 0),gp]),some t,x]/\g=h') (λC hC=>⟨_,rfl,_,rfl,T,_,gp,n,b,k,(k:G8),rfl,hT,h1,h6,k1,by omega,wk,.inr ⟨rfl,ig,_,rfl,zA ⟨_,rfl,T,n,b,rfl,hT,h1,h6,_,rfl,?_⟩⟩⟩) ?_
  ·rw [G9 one];refine zA ⟨_,rfl,T,n,b,rfl,hT,h1,h6,one,_,rfl,?_⟩;show if (!decide (((zw T n:G5):G8)=1))=true then _ else _
   rw [G9 (by omega)];exact zA (hC _ _ ⟨rfl,rfl⟩)
  rintro _ _ ⟨rfl,rfl⟩;refine jf (λσ' h'=>σ'= [some (jh T),some (jq o),some (.int (k:G8)),some (.tup [.int (k:G8),yK n (λi j=>wn T n j k i 0),gp]),some t,x]/\g=h') (λC hC=>⟨_,rfl,_,rfl,?_⟩) ?_
  ·show if decide ((1:G8)<(k:G8))=true then _ else _
   by_cases z:(1:G8)<(k:G8)
   ·rw [G9 z];refine wc ⟨_,rfl,_,rfl,T,n,b,k-1,?_,hT,h1,h6,by omega,by omega,zk n T (k-1),n,_,rfl,hT.pow h8 _,h1,h6,_,rfl,?_⟩
    ·show [jh T,D.int ((k:G8)-1)]=_;rw [show (k:G8)-1=((k-1:G5):G8) by omega]
    ·rw [lo (k-1) (by omega) (by omega)];exact zA (hC _ _ ⟨rfl,rfl⟩)
   ·rw [D5 z];exact zA (zA (hC _ _ ⟨rfl,rfl⟩))
  rintro _ _ ⟨rfl,rfl⟩;refine⟨_,rfl,_,rfl,T,n,b,k,rfl,hT,h1,h6,by omega,by omega,zk n T k,n,_,rfl,hT.pow h8 _,h1,h6,_,rfl,?_⟩;rw [fk];refine wc ⟨_,rfl,_,rfl,T,n,b,k+1,rfl,hT,h1,h6,by omega,by omega,zk n T (k+1),n,_,rfl,hT.pow h8 _,h1,h6,_,rfl,?_⟩;rw [VS hT h8 k1 fk 1];refine wc ⟨_,rfl,_,rfl,T,n,b,k+5,rfl,hT,h1,h6,by omega,by omega,zk n T (k+5),n,_,rfl,hT.pow h8 _,h1,h6,h,sg,?_⟩;rw [VS hT h8 k1 fk 5];exact q
theorem uG (Z:Zs mg)(F:Fun K "law" "law" NG f fd)(Ro:je P w K mg base n "_law_cell" ["_law_script","_law_k"] YD)(NN:je P w K mg base n "_law_pen" ["_law_cell_here"] UH)(Rp:je P w K mg base n "_law_size" ["_law_pen_here"] YE)(PR:je P w K mg base n "_law_right" ["_law_table_here","_law_order_here"] WC)(PQ:je P w K mg base n "_law_order" ["_law_pen_here","_law_many"] WB)(PU:je P w K mg base n "_law_table" ["_law_pen_here","_law_size_here"] WA):FnOk P w K mg base CX0 (n+1) f fd ["_law_script"] (LSp K Cc):=by
 refine F.okM MJ (λhr=>(js2 (GR B2 rfl (Cn (jop we (Dk (j1 (jk Ro hr (j2 (jv 0) jz)))) (GS (jv 0) (WK jz) (WK jz)))) (jgn 1 MJ) (js3 (jse 2 MJ (jk NN hr (j1 (jv 1)))) (jse 3 MJ (jk Rp hr (j1 (jv 2)))) (vF (wS (zN (jk PR hr (j2 (jk PU hr (j2 (jv 2) (jv 3))) (jk PQ hr (j2 (jv 2) (jv 3))))))) (jR jbl)))) (jR jbl))) ?_;rintro ds h Q ⟨ns,rfl,hh,hns,q⟩;refine⟨rfl,?_⟩;refine jf (λσ' h'=>True) (λC hC=> ?_) (λσ' h3 hV=>⟨h3,Sub.refl _,q h3⟩);refine⟨_,rfl,ns,0,rfl,(by decide),λn0=>⟨sz1,λp1 e1=>⟨_,rfl,_,rfl,_,rfl,λp2 e2=>⟨_,_,jD jc e2,jc,?_,λp3 e3=>⟨p3,rfl,?_⟩⟩⟩⟩⟩
 ·have:(UV ns (some 1) (some 5)).length<=ns.length:=by unfold UV;rw [T0,N5];omega
  rw [G1];exact S1 (ju (by simp only [R7,B9];omega))
 generalize hcs:([D.int n0]++(UV ns (some 1) (some 5)).map D.int)=cs;have hint: ∀d∈cs,∃c,d= .int c:=λd hd=>by
  rw [<-hcs] at hd;rcases R1.mp hd with z|z
  ·exact⟨n0,P1.mp z⟩
  ·obtain⟨x,_,e⟩:=R8.mp z;exact⟨x,e.symm⟩
 refine ve cs (λi σ' h'=> ∃a1 a2 a3,σ'= [some (.scr ns),a1,a2,a3]/\h' p3=some cs) (λi σ' h' ⟨_,_,_,_,k⟩=>k) ⟨_,_,_,rfl,jc⟩ (λσ' h' _=>hC _ _ Z7) ?_;rintro i d _ h4 hi ⟨b1,b2,b3,rfl,k3⟩;obtain⟨c,rfl⟩:=hint d (D0 hi);have hil:i<cs.length:=(P8.mp hi).1;show Zy _ _ _ [some (.scr ns),some (.int c),b2,b3] h4;refine jf (λσ' h'=> ∃p l fl,σ'= [some (.scr ns),some (.int c),some (.lst p),b3]/\h' p=some [.int l,.int fl]/\0<=l/\h' p3=some cs/\p3≠p) (λC hC=> ?_) ?_
 ·refine⟨_,rfl,c,rfl,λp l fl ep l0 _=>hC _ _ ⟨p,l,fl,rfl,jc,l0,jD k3 ep,E8 (jY k3 ep)⟩⟩
 rintro _ h5 ⟨p,l,fl,rfl,kp,l0,k3,n3⟩;refine jf (λσ' h'=> ∃ (m:G5) (l2:G8),σ'= [some (.scr ns),some (.int c),some (.lst p),some (.int (m:G8))]/\1<=m/\m<=6/\h' p=some [.int l2,.int fl]/\0<=l2/\h' p3=some cs) (λC hC=>⟨_,rfl,p,l,fl,rfl,kp,l0,λm l2 m1 m6 l20=>hC _ _ ⟨m,l2,rfl,m1,m6,jc,l20,jA n3 k3⟩⟩) ?_;rintro _ h6 ⟨m,l2,rfl,m1,m6,kp,l20,k3⟩;exact⟨_,rfl,_,rfl,p,l2,fl,m,rfl,kp,l20,m1,m6,λT l3 gT l30=>⟨_,rfl,_,rfl,p,l3,fl,m,rfl,jc,l30,m6,λo l4 ho l40=>⟨T,o,m,20,rfl,gT.sq,m1,m6,by decide,ho,_,rfl,zA ⟨_,Sub.refl _,hil,_,_,_,rfl,jA n3 (jA n3 k3)⟩⟩⟩⟩
end
theorem uH {l:pB}{w:C6}{K:G6}{h:L6}{mg:Str->D4 G7}{fa:P4}(X:K.In h)(G:h.Ns L9 mg)(hfa:mg "law" =some (.ref fa))
 (d0:DefIn K "is_whole" WS fu0 eu0)
 (d1:DefIn K "is_within" ZC fu1 eu1)
 (d2:DefIn K "is_from" Uo fu2 eu2)
 (d3:DefIn K "is_place" WT fu3 eu3)
 (d4:DefIn K "are_places" Jt fu4 eu4)
 (d5:DefIn K "rises" DT fu5 eu5)
 (d6:DefIn K "is_set" QJ fu6 eu6)
 (d7:DefIn K "is_order" WU fu7 eu7)
 (d8:DefIn K "is_table_row" yW fu8 eu8)
 (d9:DefIn K "has_table_form" wT fu9 eu9)
 (d10:DefIn K "want_table" Jv fu10 eu10)
 (d11:DefIn K "want_place" Jw fu11 eu11)
 (d12:DefIn K "want_set" WV fu12 eu12)
 (d13:DefIn K "want_order" Jx fu13 eu13)
 (d14:DefIn K "want_number" vG fu14 eu14)
 (d15:DefIn K "step_after" Jy fu15 eu15)
 (d16:DefIn K "set_after" ZD fu16 eu16)
 (d17:DefIn K "multiplied" Jz fu17 eu17)
 (d18:DefIn K "power_of_none" yr fu18 eu18)
 (d19:DefIn K "power" DW fu19 eu19)
 (d20:DefIn K "full" FT fu20 eu20)
 (d21:DefIn K "marks" DY fu21 eu21)
 (d22:DefIn K "turned" QP fu22 eu22)
 (d23:DefIn K "renamed" Uq fu23 eu23)
 (d24:DefIn K "marks_after" vI fu24 eu24)
 (d25:DefIn K "marks_and_return" wu fu25 eu25)
 (d26:DefIn K "marks_at" WW fu26 eu26)
 (d27:DefIn K "all_marks" ZE fu27 eu27)
 (d28:DefIn K "marks_of" WX fu28 eu28)
 (d29:DefIn K "heads" DZ fu29 eu29)
 (d30:DefIn K "has_walk_form" yt fu30 eu30)
 (d31:DefIn K "want_ends_and_steps" zC fu31 eu31)
 (d32:DefIn K "counts_to" ZF fu32 eu32)
 (d33:DefIn K "next_place" JB fu33 eu33)
 (d34:DefIn K "walk_of_number" wV fu34 eu34)
 (d35:DefIn K "first_walk" JC fu35 eu35)
 (d36:DefIn K "first_power" vJ fu36 eu36)
 (d37:DefIn K "is_walk_between" wF fu37 eu37)
 (d38:DefIn K "are_walks_from" wW fu38 eu38)
 (d39:DefIn K "are_all_walks" yu fu39 eu39)
 (d40:DefIn K "are_sets" WY fu40 eu40)
 (d41:DefIn K "take_in_arrows" wX fu41 eu41)
 (d42:DefIn K "is_gap" QQ fu42 eu42)
 (d43:DefIn K "first_holds" vK fu43 eu43)
 (d44:DefIn K "nought_of" ZG fu44 eu44)
 (d45:DefIn K "gap_ahead" ZH fu45 eu45)
 (d46:DefIn K "why_first" ZI fu46 eu46)
 (d47:DefIn K "reaches" Ut fu47 eu47)
 (d48:DefIn K "pieces_by" ZJ fu48 eu48)
 (d49:DefIn K "pieces" QR fu49 eu49)
 (d50:DefIn K "joined" QU fu50 eu50)
 (d51:DefIn K "greatest_into" yw fu51 eu51)
 (d52:DefIn K "all_rounds" JD fu52 eu52)
 (d53:DefIn K "beat" FW fu53 eu53)
 (d54:DefIn K "keeps_arrows" yX fu54 eu54)
 (d55:DefIn K "all_sets" WZ fu55 eu55)
 (d56:DefIn K "shut_sets" ZK fu56 eu56)
 (d57:DefIn K "are_rests" ZL fu57 eu57)
 (d58:DefIn K "are_turns" ZM fu58 eu58)
 (d59:DefIn K "steps_from_start" wv fu59 eu59)
 (d60:DefIn K "turns_of" Ya fu60 eu60)
 (d61:DefIn K "shows_by_shut" yA fu61 eu61)
 (d62:DefIn K "shows_by_turns" wY fu62 eu62)
 (d63:DefIn K "never_holds" vL fu63 eu63)
 (d64:DefIn K "why_never" ZO fu64 eu64)
 (d65:DefIn K "_law_cell" ZP fu65 eu65)
 (d66:DefIn K "_law_pen" Yc fu66 eu66)
 (d67:DefIn K "_law_draw" ZQ fu67 eu67)
 (d68:DefIn K "_law_size" ZR fu68 eu68)
 (d69:DefIn K "_law_table" JJ fu69 eu69)
 (d70:DefIn K "_law_order" JK fu70 eu70)
 (d71:DefIn K "_law_right" JL fu71 eu71)
 (d72:DefIn K "law" NG fu72 eu72)
 {tk0:Tok}(v0:dH K L9 "MOST_ROWS" =some (some (.int 6 tk0)))
 {tk1:Tok}(v1:dH K L9 "MOST_STEPS_afters" =some (some (.int 1000000000 tk1)))
 {tk2:Tok}(v2:dH K L9 "MOST_POWER_powers" =some (some (.int 60 tk2)))
 {tk3:Tok}(v3:dH K L9 "MOST_POWER_comings" =some (some (.int 1000000000000000000000000000000 tk3)))
 {tk4:Tok}(v4:dH K L9 "MOST_STEPS_walks" =some (some (.int 40 tk4)))
 {tk5:Tok}(v5:dH K L9 "MOST_TURNS" =some (some (.int 6 tk5)))
 (z:zsB K=true)
 : ∃fd:R6,(∀ (s:P0) (v:G7),pO s fd ⟨[v],[]⟩ [("_law_script",v)])/\ ∀base:L6,K.In base->base.Ns L9 mg->Bm mg base->FnOk l.prog w K mg base CX0 12 fa fd ["_law_script"] (LSp K Cc):=by
 have e:=hfa.symm.trans (d72.nm X G);cases e;have ZV: ∃tk,mg "MOST_ROWS" =some (.int 6 tk):=⟨_,cB X G v0⟩;have wb: ∃tk,mg "MOST_STEPS_afters" =some (.int 1000000000 tk):=⟨_,cB X G v1⟩;have wa: ∃tk,mg "MOST_POWER_powers" =some (.int 60 tk):=⟨_,cB X G v2⟩;have zM: ∃tk,mg "MOST_POWER_comings" =some (.int 1000000000000000000000000000000 tk):=⟨_,cB X G v3⟩;have wy: ∃tk,mg "MOST_STEPS_walks" =some (.int 40 tk):=⟨_,cB X G v4⟩;have JU: ∃tk,mg "MOST_TURNS" =some (.int 6 tk):=⟨_,cB X G v5⟩;have Z:=qB X G z;obtain⟨_,_,kV,dc,pm,an,cd,ct,_,rfl,_⟩:=d72.fn.ex;refine⟨bL "law" "law" (Jk NG) (wR NG) (jd NG) .none kV dc pm an cd ct,λs v=> .of_eq rfl,λbase _ _ B=> ?_⟩;have Ym:=λn=>d0.cal l w base X G (Ra (n:=n+0) Z d0.fn)
 have vQ:=λn=>d1.cal l w base X G (Pr (n:=n+1) Z d1.fn (Ym (n+0)))
 have Lp:=λn=>d2.cal l w base X G (NH (n:=n+1) Z d2.fn (Ym (n+0)))
 have Yk:=λn=>d3.cal l w base X G (Rb (n:=n+2) Z d3.fn (vQ (n+0)))
 have JV:=λn=>d4.cal l w base X G (QX (n:=n+3) Z d4.fn (Yk (n+0)))
 have TV:=λn=>d5.cal l w base X G (Ar (n:=n+0) Z d5.fn)
 have Gs:=λn=>d6.cal l w base X G (FZ (n:=n+4) Z d6.fn (TV (n+3)) (JV (n+0)))
 have NY:=λn=>d7.cal l w base X G (Rc (n:=n+4) Z d7.fn (JV (n+0)))
 have Xp:=λn=>d8.cal l w base X G (Uy (n:=n+1) Z d8.fn (Ym (n+0)))
 have Va:=λn=>d9.cal l w base X G (Yd (n:=n+2) Z d9.fn (Xp (n+0)) ZV)
 have jG:=λn=>d10.cal l w base X G (QY (n:=n+3) Z d10.fn (Va (n+0)))
 have Dj:=λn=>d11.cal l w base X G (QZ (n:=n+3) Z d11.fn (Yk (n+0)))
 have Bc:=λn=>d12.cal l w base X G (Re (n:=n+5) Z d12.fn (Gs (n+0)))
 have Di:=λn=>d13.cal l w base X G (Ga (n:=n+5) Z d13.fn (NY (n+0)))
 have yh:=λn=>d14.cal l w base X G (Xj (n:=n+2) Z d14.fn (vQ (n+0)))
 have yO:=λn=>d15.cal l w base X G (Gb (n:=n+0) Z d15.fn)
 have RL:=λn=>d16.cal l w base X G (Ps (n:=n+6) Z d16.fn (jG (n+2)) (Bc (n+0)) (yh (n+3)) (yO (n+5)) wb)
 have YG:=λn=>d17.cal l w base X G (Gc (n:=n+0) Z d17.fn)
 have UR:=λn=>d18.cal l w base X G (YO (n:=n+0) Z d18.fn)
 have TU:=λn=>d19.cal l w base X G (At (n:=n+4) Z d19.fn (jG (n+0)) (yh (n+1)) (UR (n+3)) (YG (n+3)) wa)
 have Es:=λn=>d20.cal l w base X G (TF (n:=n+4) Z d20.fn (jG (n+0)))
 have RI:=λn=>d21.cal l w base X G (Au (n:=n+4) Z d21.fn (jG (n+0)))
 have AJ:=λn=>d22.cal l w base X G (La (n:=n+4) Z d22.fn (jG (n+0)))
 have Lr:=λn=>d23.cal l w base X G (NI (n:=n+6) Z d23.fn (jG (n+2)) (Di (n+0)))
 have Gt:=λn=>d24.cal l w base X G (Xk (n:=n+5) Z d24.fn (RI (n+0)) (YG (n+4)))
 have yN:=λn=>d25.cal l w base X G (ZS (n:=n+6) Z d25.fn (RI (n+1)) (Gt (n+0)))
 have NZ:=λn=>d26.cal l w base X G (Rg (n:=n+0) Z d26.fn)
 have RD:=λn=>d27.cal l w base X G (Pu (n:=n+7) Z d27.fn (yN (n+0)))
 have Ba:=λn=>d28.cal l w base X G (Rh (n:=n+7) Z d28.fn (jG (n+3)) (yh (n+4)) (yN (n+0)) (NZ (n+6)) zM)
 have Gr:=λn=>d29.cal l w base X G (Av (n:=n+0) Z d29.fn)
 have UQ:=λn=>d30.cal l w base X G (YQ (n:=n+4) Z d30.fn (JV (n+0)))
 have JX:=λn=>d31.cal l w base X G (Jh (n:=n+4) Z d31.fn (jG (n+0)) (Dj (n+0)) (yh (n+1)) wy)
 have RG:=λn=>d32.cal l w base X G (Pv (n:=n+1) Z d32.fn (Gr (n+0)))
 have Dh:=λn=>d33.cal l w base X G (Gd (n:=n+1) Z d33.fn (Gr (n+0)))
 have Vd:=λn=>d34.cal l w base X G (Ye (n:=n+2) Z d34.fn (Dh (n+0)))
 have Dg:=λn=>d35.cal l w base X G (Ge (n:=n+5) Z d35.fn (JX (n+0)) (RG (n+3)) (Vd (n+2)))
 have WG:=λn=>d36.cal l w base X G (Xl (n:=n+8) Z d36.fn (RD (n+0)) (Es (n+3)))
 have Yl:=λn=>d37.cal l w base X G (Wy (n:=n+5) Z d37.fn (UQ (n+0)))
 have YZ:=λn=>d38.cal l w base X G (Yf (n:=n+6) Z d38.fn (Yl (n+0)))
 have UO:=λn=>d39.cal l w base X G (YR (n:=n+7) Z d39.fn (YZ (n+0)))
 have NX:=λn=>d40.cal l w base X G (Rj (n:=n+5) Z d40.fn (Gs (n+0)))
 have Vc:=λn=>d41.cal l w base X G (Yg (n:=n+1) Z d41.fn (yO (n+0)))
 have AH:=λn=>d42.cal l w base X G (Lc (n:=n+6) Z d42.fn (NX (n+0)) (Yk (n+3)) (Vc (n+4)))
 have Gq:=λn=>d43.cal l w base X G (Xm (n:=n+8) Z d43.fn (jG (n+4)) (UO (n+0)) (Lp (n+6)) (AH (n+1)))
 have RJ:=λn=>d44.cal l w base X G (Py (n:=n+0) Z d44.fn)
 have RH:=λn=>d45.cal l w base X G (Pz (n:=n+8) Z d45.fn (RJ (n+7)) (Ba (n+0)) (RL (n+1)))
 have RN:=λn=>d46.cal l w base X G (PB (n:=n+9) Z d46.fn (WG (n+0)) (Dg (n+3)) (RH (n+0)))
 have Lq:=λn=>d47.cal l w base X G (NL (n:=n+0) Z d47.fn)
 have RK:=λn=>d48.cal l w base X G (PC (n:=n+0) Z d48.fn)
 have AI:=λn=>d49.cal l w base X G (Le (n:=n+4) Z d49.fn (jG (n+0)) (RK (n+3)) (Lq (n+3)))
 have MR:=λn=>d50.cal l w base X G (Lf (n:=n+5) Z d50.fn (AI (n+0)))
 have UP:=λn=>d51.cal l w base X G (YS (n:=n+0) Z d51.fn)
 have De:=λn=>d52.cal l w base X G (Gh (n:=n+4) Z d52.fn (jG (n+0)) (Gr (n+3)))
 have Lo:=λn=>d53.cal l w base X G (TL (n:=n+6) Z d53.fn (MR (n+0)) (De (n+1)) (UP (n+5)))
 have Zr:=λn=>d54.cal l w base X G (UE (n:=n+1) Z d54.fn (yO (n+0)))
 have NW:=λn=>d55.cal l w base X G (Rk (n:=n+0) Z d55.fn)
 have RM:=λn=>d56.cal l w base X G (PF (n:=n+4) Z d56.fn (jG (n+0)) (NW (n+3)) (Zr (n+2)))
 have RE:=λn=>d57.cal l w base X G (PH (n:=n+2) Z d57.fn (vQ (n+0)))
 have RF:=λn=>d58.cal l w base X G (PJ (n:=n+3) Z d58.fn (RE (n+0)) (vQ (n+1)) (Gr (n+2)) JU)
 have WH:=λn=>d59.cal l w base X G (ZT (n:=n+1) Z d59.fn (yO (n+0)))
 have Bb:=λn=>d60.cal l w base X G (Rl (n:=n+7) Z d60.fn (Lo (n+0)) (WH (n+5)))
 have US:=λn=>d61.cal l w base X G (YT (n:=n+5) Z d61.fn (Zr (n+3)) (Gs (n+0)))
 have Vb:=λn=>d62.cal l w base X G (Yi (n:=n+4) Z d62.fn (RF (n+0)))
 have Gu:=λn=>d63.cal l w base X G (Xn (n:=n+6) Z d63.fn (jG (n+2)) (US (n+0)) (Vb (n+1)))
 have RO:=λn=>d64.cal l w base X G (PK (n:=n+8) Z d64.fn (RM (n+3)) (Lo (n+1)) (Bb (n+0)))
 have RB:=λn=>d65.cal l w base X G (PL (n:=n+0) Z d65.fn)
 have NV:=λn=>d66.cal l w base X G (Rn (n:=n+0) Z d66.fn)
 have ZW:=λn=>d67.cal l w base X G (PM (n:=n+0) Z d67.fn)
 have RC:=λn=>d68.cal l w base X G (PN (n:=n+1) Z d68.fn (ZW (n+0)))
 have Dc:=λn=>d69.cal l w base X G (Gj (n:=n+1) Z d69.fn (ZW (n+0)))
 have Da:=λn=>d70.cal l w base X G (Gk (n:=n+1) Z d70.fn (ZW (n+0)))
 have Db:=λn=>d71.cal l w base X G (Gm (n:=n+10) Z d71.fn (RO (n+1)) (RN (n+0)) (WG (n+1)) (RI (n+5)) (Lr (n+3)) (AJ (n+5)) (Lo (n+3)) (MR (n+4)) (Gu (n+3)) (Gq (n+1)) (Es (n+5)) (TU (n+5)))
 exact uG (n:=11) Z d72.fn (RB 10) (NV 10) (RC 9) (Db 0) (Da 9) (Dc 9)
end My
namespace PySem.W.Fast
def tw10950683355578231112:=()
def tw8152652753830656673:=()
def tw558730207496768497:=()
def tw8875972486468034021:=()
def tw12306489794676035788:=()
def tw8109027151194310679:=()
def tw8138867314883129001:=()
def tw6209491288660302132:=()
def tw17232088097020288371:=()
def tw6799372134293365283:=()
def tw1423281913879014541:=()
def tw13718546562431498653:=()
def tw178091748489787872:=()
def tw9552622965969373809:=()
def tw4075632314575410099:=()
def tw12120209950546921797:=()
def tw14458412178588163160:=()
def tw14802641699711362235:=()
def tw14763635867149536288:=()
def tw17528593887778733359:=()
def tw1391598620414257117:=()
def tw12951367714071572797:=()
def tw1708841230085194082:=()
def tw10794476903083404843:=()
def tw1917311601408593214:=()
def tw12627687418364814441:=()
def tw17621868829897206154:=()
def tw2211053941235556944:=()
def tw1244294360748186797:=()
def tw17430953197383306810:=()
def tw4327137354964312513:=()
def tw7592548371448311323:=()
def tw16462365461902881520:=()
def tw12356495928394860113:=()
def tw16775084896777637755:=()
def tw11599697338869614106:=()
def tw7228592499376864709:=()
def tw5242433084238064363:=()
def tw4746124552036812447:=()
def tw14099858808309565079:=()
def tw18194189980863495791:=()
def tw5861793922593981397:=()
def tw16962395482249892635:=()
def tw10559923710641630969:=()
def tw18282900088581859079:=()
def tw147499046514913609:=()
def tw9234011138385952669:=()
def tw1712142854406358503:=()
def tw2557959673629764290:=()
def tw16826071077862379155:=()
def tw13300375429051766065:=()
def tw11521457106377174479:=()
def tw149904923676560040:=()
def tw10535421435350705478:=()
def tw3678341583499437092:=()
def tw13087837939696227969:=()
def tw8095052720861730178:=()
def tw4164398029123328112:=()
def tw8871695543322210147:=()
def tw14486977325902503854:=()
def tw9697540744010488113:=()
def tw12441105622294078766:=()
def tw17771683396007160214:=()
def tw16944850150886103813:=()
def tw1265266176208331091:=()
def tw10479879636930367615:=()
def tw8665217539813891470:=()
def tw13949415538969835832:=()
def tw9708676419779897274:=()
def tw18073154374010575176:=()
def tw18263684442689508412:=()
def tw16172837551863188835:=()
def tw14092631180004270294:=()
def tw2471497218407316426:=()
def tw10218222443978140874:=()
def tw4115201278995611156:=()
def tw3461413686603121803:=()
def tw6894024607989254411:=()
def tw10030448413679642228:=()
def tw8077449456377922236:=()
def tw12025475448979890789:=()
def tw9514438461978741952:=()
def tw11586851819945242903:=()
def tw3155009154922253295:=()
def tw4253941184897865713:=()
def tw11713926497119286210:=()
def tw1613962220707224916:=()
def tw1796394235194024633:=()
def tw5265135874003097512:=()
def tw15368451756021277103:=()
def tw660797077170669262:=()
def tw2557174082736727923:=()
def tw10460176393469857551:=()
def tw4265190128413659656:=()
def tw14666533139479694861:=()
def tw2740914397747621810:=()
def tw8087185365742320299:=()
def tw5951257624725796829:=()
def tw16718800595224434801:=()
def tw11713048486131840866:=()
def tw15798404172288722534:=()
def tw476910148082273904:=()
def tw10418914533573590183:=()
def tw2927584406940190268:=()
def tw10987799255581310559:=()
def tw13635894782195221230:=()
def tw10463441833526532741:=()
def tw4304423090258167741:=()
def tw5649021633840422380:=()
def tw315657067108183691:=()
def tw5548801104409165673:=()
def tw7694697217972841502:=()
def tw17105542717953569238:=()
def tw15195690580108919886:=()
def tw1256568848236733440:=()
def tw16055905537007034196:=()
def tw14853076013429724283:=()
def tw12351488334922561297:=()
def tw2150304456425419742:=()
def tw8123020502632438622:=()
def tw576715476272184423:=()
def tw15022865390370640185:=()
def tw9166597314054949427:=()
def tw16722636745075111841:=()
def tw9667640986632881622:=()
def tw10084019634861832573:=()
def tw10207786134916162501:=()
def tw3711795522350085214:=()
def tw10344955324455666459:=()
def tw15174884750426376514:=()
def tw1182014899203698792:=()
def tw18017129632958911440:=()
def tw46963478399187303:=()
def tw17191326587619430353:=()
def tw11037727052329375196:=()
def tw10274865248853355617:=()
def tw18011454093281167754:=()
def tw2173499750547725621:=()
def tw11432501432427168258:=()
def tw5528911336225615520:=()
def tw11160705764867624961:=()
def tw3739011208065238721:=()
def tw12083885812228938012:=()
def tw333286907790245425:=()
def tw7474353079174672792:=()
def tw12605262170160640132:=()
def tw10599305073171142167:=()
def tw13054766545226787348:=()
def tw15677939111927940428:=()
def tw15065991517715238037:=()
def tw3215625333779125307:=()
def tw9405969020538451318:=()
def tw10905239300743263586:=()
def tw17944993153494953798:=()
def tw1380224375646036052:=()
def tw3949527977453489915:=()
def tw1351729793996111627:=()
def tw15522723479228993622:=()
def tw17894085271618841489:=()
def tw16153510153549880394:=()
def tw16140269149715356546:=()
def tw3413754968540111520:=()
def tw14273839248857064114:=()
def tw7610666021211438336:=()
def tw17692278293447243471:=()
def tw16760896563023442518:=()
def tw14216936868412378624:=()
def tw17021660390425714266:=()
def tw18438061939237649259:=()
def tw8893548905264877006:=()
def tw4849492025197136251:=()
def tw12209720920234296697:=()
def tw18057054254224725510:=()
def tw8826326070964019716:=()
def tw17734292339857159454:=()
def tw11228090386931252971:=()
def tw6597754363430773862:=()
def tw9626677414548267080:=()
def tw8674173152515530788:=()
def tw16434943022934297727:=()
def tw1540555870994733389:=()
def tw12249965266322312505:=()
def tw5280222630129753884:=()
def tw12779134483219935837:=()
def tw18056614198986803678:=()
def tw1294570907409783597:=()
def tw8373061183920189697:=()
def tw15374319868444857635:=()
def tw4946135757508457711:=()
def tw13819661969898306144:=()
def tw4479831398712806186:=()
def tw117775102030493871:=()
def tw16585939810510503771:=()
def tw14500773187754503585:=()
def tw6163372124637959379:=()
def tw10065226711007681858:=()
def tw3847659261508000819:=()
def tw8146662863082873096:=()
def tw602248080648170234:=()
def tw12680467068528324227:=()
def tw12287421823236229323:=()
def tw11834802147354631510:=()
def tw7554602761027779074:=()
def tw5428697005682195980:=()
def tw18043125113300984685:=()
def tw3845309104976827177:=()
def tw7968361743855093493:=()
def tw9114282838538686960:=()
def tw7259133410655748187:=()
def tw6533903515942161495:=()
def tw17141858770072928870:=()
def tw4672351737521841917:=()
def tw1274850060230251244:=()
def tw2393947368291968456:=()
def tw17256025623411299261:=()
def tw5229602025804565703:=()
def tw6810373307613097123:=()
def tw9471889445236042371:=()
def tw7562908796008610884:=()
def tw8072329273885851426:=()
def tw2131082516167235787:=()
def tw7924913515095093013:=()
def tw6905413126386851594:=()
def tw8161767729411154648:=()
def tw12434591099886076708:=()
def tw11132581387157369463:=()
def tw3008540647495886761:=()
def tw8399986836276831933:=()
def tw532354201070411896:=()
def tw13072823518717411573:=()
def tw13979851009304168683:=()
def tw18381919948170953531:=()
def tw6016789032077060830:=()
def tw12482278126691649074:=()
def tw11687664197159979850:=()
def tw7456756322766870198:=()
def tw6840207604215538588:=()
def tw15524197375517124820:=()
def tw2207515657938480127:=()
def tw9653588495149951081:=()
def tw12824664277050520522:=()
def tw3681324421085835045:=()
def tw12283320029884706481:=()
def tw14169347707942996824:=()
def tw16421275283018184274:=()
def tw4428814816246820470:=()
def tw8471137670365012808:=()
def tw7986817538081323661:=()
def tw12063397656922507464:=()
def tw17842843852564347184:=()
def tw15135194338445273609:=()
def tw10965134716796751629:=()
def tw4121928859409737897:=()
def tw5159443037056067435:=()
def tw9451339119695618261:=()
def tw6057056747075637543:=()
def tw3268617502407131302:=()
def tw11521298612473101529:=()
def tw16540710870259303130:=()
def tw3507873777691631125:=()
def tw4588677465646460000:=()
def tw6429543628911916142:=()
def tw1282614090795709040:=()
def tw12558672937629814948:=()
def tw10965280849012696887:=()
def tw629436878614746779:=()
def tw2273510270999504636:=()
def tw12492981610630005805:=()
def tw14427551635119555559:=()
def tw10561748660316876151:=()
def tw12506293316649121415:=()
def tw2651954011434446639:=()
def tw2188866857935212761:=()
def tw15078626383315399020:=()
def tw5562720421988406560:=()
def tw14314911361306906034:=()
def tw16363027418316985599:=()
def tw14010453020492310763:=()
def tw5567329916930139426:=()
def tw17810814193036539613:=()
def tw16961523510923813910:=()
def tw2306741886453070411:=()
def tw2560227259951675467:=()
def tw4675232865473878911:=()
def tw3437202465501357716:=()
def tw3250914887689532336:=()
def tw2811026733511242101:=()
def tw13080191385650255942:=()
def tw16156786801042611454:=()
def tw6658700357603916525:=()
def tw18295582642410919481:=()
def tw11847108228858108896:=()
def tw18380433269003096340:=()
def tw13555554500590333320:=()
def tw8140358378126253175:=()
def tw14012030150056195766:=()
def tw3730285041927230806:=()
def tw14271073520486943666:=()
def tw625189550192017358:=()
def tw7843077476998410605:=()
def tw2456812641945919504:=()
def tw11704149701044049521:=()
def tw2347882199882434722:=()
def tw9894539849691834110:=()
def tw7540510705403579207:=()
def tw4158559997547762584:=()
def tw9795321887738172712:=()
def tw6259473258585843099:=()
def tw15355990883940375355:=()
def tw1822391592870308832:=()
def tw16217318329919584648:=()
def tw3719312883038007322:=()
def tw9313568623729473986:=()
def tw4006115090916306632:=()
def tw3182245765530248268:=()
def tw14713824757059354372:=()
def tw12580631351821558516:=()
def tw14742739516697665448:=()
def tw9644395989286612039:=()
def tw11268765479410202306:=()
def tw14452135811713136351:=()
def tw15684965253657492557:=()
def tw10913492470190908909:=()
def tw18180752378575813512:=()
def tw17327693539257401851:=()
def tw18076673378580274062:=()
def tw16704463775776018303:=()
def tw2264619776587562822:=()
def tw492305192717249749:=()
def tw1334705386617701663:=()
def tw1851726685732691186:=()
def tw14131467390147051705:=()
def tw3903659487485025838:=()
def tw3039126594112123452:=()
def tw15018738644155357869:=()
def tw3936141763434665227:=()
def tw16905641193608464446:=()
def tw13726625081005841853:=()
def tw1704975993348356055:=()
def tw7680320117766907691:=()
def tw8199864095925993927:=()
def tw15541985577085027690:=()
def tw7607567379867257648:=()
def tw6214340730076036573:=()
def tw7252085958577921451:=()
end PySem.W.Fast
open PySem PySem.W PyProof.Rows
set_option maxRecDepth 100000 in
set_option maxHeartbeats 0 in
theorem PySem.Challenge.cw_firstpowers_k39_whole_first_or_never_holds : PySem.Challenge.rw_firstpowers_k39_whole_first_or_never.Holds := by
  w_on; o_law; k_head; (case hw => w_witness2)
  k_fill
  refine L2.Oj (l := PySem.Challenge.rw_firstpowers_k39_whole_first_or_never) (k := 12) (x := "_law_script") rfl rfl ⟨rfl, by decide, by decide, rfl⟩ (fun w h Y => PySem.W.kIn_of Y) ?B ?F
  case B => intro w; kernel_rfl
  case F =>
    intro w mg fa h KX G hmg
    refine' My.uH KX G hmg ?d0 ?d1 ?d2 ?d3 ?d4 ?d5 ?d6 ?d7 ?d8 ?d9 ?d10 ?d11 ?d12 ?d13 ?d14 ?d15 ?d16 ?d17 ?d18 ?d19 ?d20 ?d21 ?d22 ?d23 ?d24 ?d25 ?d26 ?d27 ?d28 ?d29 ?d30 ?d31 ?d32 ?d33 ?d34 ?d35 ?d36 ?d37 ?d38 ?d39 ?d40 ?d41 ?d42 ?d43 ?d44 ?d45 ?d46 ?d47 ?d48 ?d49 ?d50 ?d51 ?d52 ?d53 ?d54 ?d55 ?d56 ?d57 ?d58 ?d59 ?d60 ?d61 ?d62 ?d63 ?d64 ?d65 ?d66 ?d67 ?d68 ?d69 ?d70 ?d71 ?d72 ?v0 ?v1 ?v2 ?v3 ?v4 ?v5 ?z
    case d0 | d1 | d2 | d3 | d4 | d5 | d6 | d7 | d8 | d9 | d10 | d11 | d12 | d13 | d14 | d15 | d16 | d17 | d18 | d19 | d20 | d21 | d22 | d23 | d24 | d25 | d26 | d27 | d28 | d29 | d30 | d31 | d32 | d33 | d34 | d35 | d36 | d37 | d38 | d39 | d40 | d41 | d42 | d43 | d44 | d45 | d46 | d47 | d48 | d49 | d50 | d51 | d52 | d53 | d54 | d55 | d56 | d57 | d58 | d59 | d60 | d61 | d62 | d63 | d64 | d65 | d66 | d67 | d68 | d69 | d70 | d71 | d72 => refine' L2.ur ?a ?l ?c ?k; (case a => k_is); (case l => k_is); (case c => k_is); (case k => k_is)
    case v0 | v1 | v2 | v3 | v4 | v5 => k_is
    case z => kernel_rfl
