import PyProof.Rows.All
import Wide.All
import OpenK.AllK
import Wide.FinOn
import Lean
import PyProof.EqAt
import PyProof.EqKinds
import PyProof.TupleCall
import PyProof.Rows.TopTwo
import KE.KIsAll
import PyProof.ExcAttrAll.ValueError
import KE.KTryMore
import KE.KRevIter
import PyProof.SetRoads
import PySem.Challenge.RW_firstpowers_k36_papers_of_first_powers_b
set_option Elab.async false
set_option linter.all false
set_option maxRecDepth 100000
set_option maxHeartbeats 8000000
open _root_ renaming List->G0,Nat->G8,Int->P0,Option->P8,decide_eq_true->D0,decide_eq_false->D1,if_pos->S2,if_neg->S3,Array->N0,Bool->N4,decide_eq_true_iff->C0,of_decide_eq_true->H0,decide_eq_true_eq->E4,String->Q4,exists_eq_left'->U1,StateT->V4,if_true->cX,ForInStep->fJ,of_decide_eq_false->gR,if_false->iY,bne_self_eq_false->nV,beq_self_eq_true->oJ,dif_pos->rW,not_or->u8
open PySem renaming Value->G1,Shared->G3,Addr->G9,wpAny_pure->P5,starEach->D7,wpAny->R4,Program->S0,FuncData->S1,model->S4,Expr->T1,wpAny_mono->T3,Around->T8,foldedSetIterable->M8,World->N8,Heap->N9,compareOp->B1,Stmt->O3,wpAny_truthy_bool->A1,eval->A7,Scope->A8,mem_of_lookup->E1,wpAny_holding->E3,wpAny_newObj_type->E9,wpAny_callSpecial?_slot->I0,binaryOp->J0,bootBuiltins->J9,backTo->K0,cellsFrom->K1,wpAny_call_entry->K2,PyData->Q1,wpAny_pyIter_tuple->U6,behindInMarks->U8,wpAny_pyIter_list->V8,wpAny_execs_cons->W6,wpAny_Call_Name_kw->W8,IsPair->X1,letOwnedTupleGo->X6,codeAny->Y9,swapsWith->Z0,wpAny_newFunctionEnv_cells->aS,rawInt->bH,wpAny_standAt->bM,swapsWithSole->bO,swappedStores->bP,attributeBase->bR,holding->bW,wpAny_execs_nil->bX,wpAny_passesOwn->bY,sysModules->cC,assignEach->cE,wpAny_call->cG,wpAny_field->cP,sliceBounds->cQ,codeAny_mono->cU,Keyword->cY,codeAny_call_function->dJ,wpAny_rule->dN,TriplesOk->dO,Comprehension->dR,keywordEach->dX,codeAny_call_builtin->dY,assign->eJ,Fin->fK,builtinsNs->fP,call_meets->gA,closureFor->gC,wpAny_binaryOp_repeat_ref->g8,Model->iA,CmpOp->iB,getItem->iF,wpAny_sequenceKey->iG,evalPart_none->iJ,wpAny_getItem_list_slice->iM,wpAny_attempt->iQ,lastMarks->iU,noFill_tuple_add->iW,codeAmong->i3,standAt->i8,IsPart->j0,wpAny_typeOf->j5,typeIs_int->j8,codeAny_of_tree->kO,wpAny_loadName_local->lA,wpAny_bindName->lC,backToKw->lE,lookup_relabel_local->lG,intBits_le_iff->lJ,wpAny_updateSeq_pair->lM,BindsTo->lU,Arguments->lV,callerA->l8,assignInOrder->mD,seq_tuple_add->mE,evalPart_some->mG,comprehension->mH,wpAny_onRaise->mL,wpAny_Name->mN,wpAny_Assign_Name->mX,leaving->m7,name_of_addr->m8,codeAny_func->m9,concat_meets->nC,seqIndex_neg->nD,compTurn->nK,wpAny_pyIter_enum->nQ,seqSlot_of->oH,wpAny_isInstance->oI,checkBuiltinCall->oK,sizeLine_eq->oR,bindL->oS,bindC->oU,wpAny_Slice->oW,seqIndex_of->oX,pushCells_keeps->o9,codeAny_builtin->pF,wpAny_Expr_any->pM,bindName->pN,pyNext->pO,pyIter->pQ,Result->pS,bindArgs->pT,newFunctionEnv->pX,compEnvC->pY,wpAny_is_plain->qB,wpAny_setField->qD,wpAny_newTuple->qG,boundAndCalled->qJ,intBits_le_64->qO,call_list_seq->qR,eval_ListComp->qS,wpAny_newList->rA,PassesOwn->rD,Within->rJ,setItem->rK,callSpecial?->rP,callFunction->rS,interactive->sE,IsRangeIter->sF,Operator->sG,subscripted->sH,wpAny_of_eq->sI,truthy->sU,wpAny_load->sW,typeIs_str->tF,typeOf->tJ,call->tK,reduceHash->tL,seqRepeat?->tM,preSum->tN,IsEnum->tO,TypeCalled->tQ,isInstance->tU,release->tZ,again->uV,data2->u3,Params->u4,stored->u5,cellOf->u6
open PySem.W renaming Frag->G2,keepIn->E6,kia_one->J5,fnOf->V0,hideAll_none->X7,hideAll_get->Y8,cellsFrom_some->Z8,hideAll->bV,codeIn->cV,of_hideAll->fO,kitOne->fV,callWith_K->fY,codeRec_of->fZ,methodObj->hZ,tabIn->iO,instObj->kN,kat_nil->kQ,lookIn->lD,tabObj->lI,kitx_list->mZ,kitx_dict->m5,plainGet->oC,OpenLaw->pA,kat_one->pK,findIn->pR,CodeHd->pZ,Looks->rB,nsIn->r9,hideAll_size->sD,kas_first_eq->sS,kitx_float->tD,kitx_tuple->tE,ki_setBack->tG,hasDictIn->t8,plainOver->uA,specialIn->uB,kitx_none->uC,kitx_bool->uD,krv_range->uF,eq_bytes->uH,ne_bytes->uI,kitx_int->uJ,kitx_str->uK,kitx_own->uL,ki_setAt->uM,kat_cons->uN,krv_pick->uO,codeHdIn->uP,takesIn->uQ,krv_all->uR,kat_yes->uS,InstAt->uW,tab_of->u7,KatLex->v5,kat_go->v6,kat_no->v7,kat_lt->w6,mroIn->w8,WalkO->xA,mg_of->xB
open List renaming getElem?_eq_getElem->G5,length_map->G7,mem_singleton->P3,mem_of_getElem?->P6,length_append->P7,getElem?_eq_some_iff->P9,mem_cons->D2,append_assoc->D4,mem_append->D5,size_toArray->D6,length_cons->R1,mem_append_right->R3,getElem?_map->R5,range->R6,mem_cons_self->R7,mem_cons_of_mem->S6,all_eq_true->S8,mem_range->S9,length_take->T4,getD_eq_getElem?_getD->T7,not_mem_nil->T9,replicate->M0,take_append_drop->M5,length_reverse->M6,map_map->M7,take_of_length_le->M9,length_nil->N2,getElem?_append_right->N5,mem_map->N6,pairwise_append->N7,map_cons->B2,getElem_mem->B6,map_congr_left->B7,length_drop->C3,mem_of_mem_drop->C4,length_range->C6,nil_append->C9,take_add_one->F9,getElem?_append_left->L6,getElem?_set_ne->L7,mem_of_mem_take->L9,pairwise_singleton->O4,getElem?_cons_zero->O5,lookup_cons->O7,cons_append->O8,mem_append_left->O9,drop_eq_nil_of_le->A3,mem_reverse->E2,length_pos_iff->E7,pairwise_cons->J4,append_nil->J6,of_mem_zip->J7,map_append->J8,getElem_of_mem->K4,all_map->K8,drop_sublist->Q6,reverse_perm->Q9,replicate_succ->U0,extract_eq_drop_take->U3,length_filter_le->U4,getElem?_take_of_lt->U9,map_nil->V1,drop_append_of_le_length->V5,take_append_of_le_length->V6,length_eq_zero_iff->W0,getElem?_cons_succ->W1,filterMap_cons->W3,getElem?_set_self->W5,drop_drop->X2,length_singleton->X3,mem_filter->X5,take_sublist->X8,flatten_cons->X9,pairwise_map->Y2,map_id->Y3,mem_filterMap->Z7,nodup_cons->aD,getElem?_eq_none->aK,perm_append_comm->aM,getElem?_reverse->aN,any_eq_true->aZ,pairwise_iff_getElem->bG,forIn_cons->bZ,length_zip->cA,zip_cons_cons->cH,getElem?_drop->cL,getElem?_replicate->cN,getElem?_set->dA,reverse_cons->dE,flatMap_cons->dG,all_eq_false->dI,pairwise_reverse->dM,take_length->dP,eq_nil_of_length_eq_zero->eI,range_succ->eQ,getElem?_range->fC,flatMap_append->fE,filter_append->gK,take_zero->gO,set_cons_succ->gY,set_cons_zero->gZ,getElem?_eq_none_iff->hJ,zip_nil_left->iD,mapM_toArray->iI,any_cons->iN,map->i4,all_toArray->i7,range_succ_eq_map->j9,getElem_of_append->kK,map_id'->kM,length_replicate->kY,getElem?_toArray->kZ,min?_eq_some_iff->k5,set_append_right->k9,getElem?_zipIdx->lK,drop_take->lN,take_take->lO,getLast?_concat->lQ,mem_map_of_mem->mB,take_succ_cons->mC,all_cons->mI,map_drop->mJ,zip_nil_right->mO,filterMap_map->mP,any_eq_false->mY,any_map->nM,getElem_take->n8,getElem_drop->n9,ext_getElem?->oA,countP_cons->oM,append_cons->oN,perm_middle->oQ,length->oV,foldl_cons->o7,sum_append->pB,foldl->pV,forIn_nil->qE,drop_zero->qK,zip_map->rR
open PySem.Heap renaming get?_push_of_some->G6,lt_size->D8,get?_push_size->R8,SameBut->Z6,get?_update_self->aJ,size_push->aU,get?_update_ne->fF,get?_update_other->j7,ExtBut->oZ,IsTuple->rO
open Nat renaming le_refl->P4,le_of_lt->R9,lt_of_lt_of_le->S7,ne_of_lt->T5,le_trans->T6,zero_le->N3,lt_irrefl->L0,lt_of_le_of_ne->E5,lt_of_le_of_lt->K9,lt_of_succ_lt->Q7,lt_succ_self->U5,ne_of_gt->U7,le_of_eq->V2,le_add_right->W7,min_le_right->Z4,zero_add->aB,pos_of_ne_zero->aC,le_add_left->aG,min_eq_left->aH,pow_le_pow_right->aV,one_pos->aW,succ_le_succ->bE,add_le_add_left->bK,add_sub_cancel'->bL,not_lt_zero->cB,not_lt->cI,sub_lt->cK,add_sub_cancel_left->cS,lt_trans->cZ,lt_of_succ_le->dB,lt_succ_of_lt->dD,succ_le_of_lt->dH,add_assoc->dU,add_right_comm->gQ,le_of_not_lt->i0,dvd_of_mod_eq_zero->kI,add_zero->kJ,add_comm->nH,mul_comm->nJ,sub_pos_of_lt->nY,sub_self->n5,max_eq_left->pH,succ_mul->rM,mul_succ->rT,succ_pos->rV,pow_succ->rY,le_succ->sL,sub_le->tV,succ->u9
open PyProof.Rows renaming Keyed->D3,arrOf->S5,pendingOf->B0,SortSt->B3,boot_all->C5,slot_tuple_getitem->A6,envOfC->E8,callWith_type1->Q0,IntsAre->V9,failedOf->Y4,boot_isinstance->aF,seqObj->e8,entry_tuple_getitem->fA,AllBare->fH,assignInOrder_cons->fQ,slicePart_none->f6,args_tuple_getitem->f7,subscriptTail->iK,subscriptTail_builtinR->j6,lt_int->l9,tupleItemsOf_->mF,Subscript_->mQ,IsTup->mU,assignInOrder_nil->mW,callWith_builtin1->oE,get?_update_seq->pI,oneTypeOnly'_eq->pJ,tail_any->pU,keyKind'->qL,slicePart_int->qQ,reverseSlice'->qY,listUpdate_at->qZ,listItems_at->rX,mergeAt'->sP,binarySort'->sQ,seqEpoch_at->sR,recsOf->sT,isTrue_and->sV,boot_range->sZ,setPending->tW,Call_->uU,oneLt'->v9
open Bool renaming false_ne_true->D9,false_and->T0,true_and->M1,and_eq_true->B8,eq_iff_iff->F8,eq_false_iff->Q8,and_false->V7,or_eq_true->eO,false_bne->gV,noConfusion->i5,or_eq_false_iff->lH,and_eq_true_iff->lR,false_eq_true->mR
open PySem.PassesOwn renaming never->B9
open Array renaming length_toList->C7,toList_append->C8,getElem?_toList->A9,toList_extract->Y5,toList_push->aQ,toList_reverse->dZ,isEmpty_eq_false_iff->gG,getElem?_eq_none_iff->gI,getElem?_eq_some_iff->gJ,toList_setIfInBounds->gP,size_setIfInBounds->iR,toList->mV,isEmpty_iff->nN
open PySem.PyData renaming eqv->F4,depthAll->L5,canLayAll0->O0,depth->aA,eqvAll->bU,int->dQ,canLay0->gH,hasDictAll->nU,bool->o0,hasDict->qH,str->tY
open Option.some renaming inj->F7,injEq->A4
open PySem.NameKind renaming free->L8,cell->Y7
open PySem.Builtin.Slice renaming slicePlaces->O6,sliceAdjust->U2,sliceApplied->W9,sliceFields->g7,slicePartIndex->o6
open Or renaming inl->A2,inr->V3
open PySem.Builtin.Tuple renaming tupleExact->A5,tupleItemsOf->aT,tupleIsExact->gE,tupleTooMany->gF,tupleHashOf->g9,tupleCompareSizes->oB
open PySem.Builtin.SmallTypes renaming nextOf->K3,stopIteration->Y1,ownedTupleIsFree->mK
open Option renaming isSome_iff_exists->K5,map_eq_some_iff->Z9,getD_some->aY,map_some->kT,getD_none->oF
open Ne renaming symm->K6
open PySem.Str renaming ofString->K7,empty->rE
open PySem.Value renaming type->Q5,ref->aI,bool->aR,int->aX,none->fN,str->iT,isStrOf->qN,isInt->sB,float->sC
open Function renaming comp_apply->W4,comp_def->dF
open PySem.F renaming slot_tuple_iterator_next->X0,args_tuple_add_2->bQ,entry_tuple_add->cO,plainAttrs_list->cR,slot_tuple_add->cW,slot_tuple_lt->dL,slot_int_rmul->eN,args_tuple_iterator_next_1->eT,entry_tuple_iterator_next->fI,args_tuple_lt_2->iV,slot_list_count->i6,entry_tuple_lt->i9,args_int_rmul_2->nI,entry_int_rmul->oG,fills_int_mul->o8,slot_zip_next->pE,slot_zip_iter->pG,excBase_ValueError->qI,args_list_count_2->qM,slot_list_append->qT,type_list_append->qU,entry_list_count->qX,slot_list_index->rF,type_list_index->rG,type_list_count->rH,called_zip->rQ,entry_bexc_ga->sA,args_bexc_ga->sO
open Decidable renaming byContradiction->X4
open PyProof.Rows.LCg renaming lst->Y0
open PySem.Obj renaming mapSeq->Y6,mapFields->dS
open Classical renaming propDecidable->Z5,byContradiction->bF,not_not->uG
open ForInStep renaming yield->aE
open Sum renaming inr->aO,inl->hO
open Int renaming toNat_natCast->aP,toNat_of_nonneg->bJ,lt_of_le_of_lt->cJ,eq_ofNat_of_zero_le->cT,emod_nonneg->e9,toNat->fM,fdiv_eq_ediv_of_nonneg->fT,fmod_eq_emod_of_nonneg->fU,emod_lt_of_pos->g6,lt_of_lt_of_le->mS,mul_comm->nO,pow_pos->oY,mul_nonneg->qC,ediv_one->rL,le_of_lt->rN,ne_of_gt->rZ,mul_pos->sJ,pow_add->sK
open PySem.Heap.SameBut renaming update->bI,refl->uE
open PySem.Builtin.List renaming listTooLong->bS,listFitsIndex->pW
open PySem.AutoSeq1 renaming wpAny_loadPart'->bT,sub_tuple_tuple->qP
open True renaming intro->cF
open PySem.SetTable renaming sizeAbove->cM
open PySem.Around renaming frames_deeper->dW
open PySem.Calls renaming spliced_cons->fX,spliced_nil->iC,evalArgs_plain->lF,Constant_str->qW
open PySem.Heap.IsSliceOf renaming new->f8
open PySem.W.Looks renaming here->gM,of_pure->mM,here->mT,ld->oP,ld->sN
open List.Pairwise renaming nil->iH,imp_of_mem->qV
open PySem.Walks renaming list->kH,tuple->sM
open List.Perm renaming trans->kP,append->oO,eq_of_pairwise->rC,cons_inv->tX
namespace L2
open PySem PySem.Spec PyProof.Rows
abbrev Key:=Sum P0 Str
def Gi:Key->G1->N4
 | .inl k,v=>sB k v
 | .inr x,v=>qN x v
def SZ (w:N8):Key->P0
 | .inl k=>hashInt k
 | .inr x=>hashStr w x
theorem jU: ∀ {k:Key} {v:G1},Gi k v=true->(∃i t,k=hO i/\v=aX i t)\/(∃x t,k=aO x/\v=iT x t)
 | .inl i,v,h=>by
  obtain⟨t,e⟩:=Value.isInt_shape (k:=i) (v:=v) h;exact .inl ⟨i,t,rfl,e⟩
 | .inr x,v,h=>by
  obtain⟨t,e⟩:=Value.isStrOf_shape (x:=x) (v:=v) h;exact .inr ⟨x,t,rfl,e⟩
theorem Pe (i:P0)(t:Tok):Gi (.inl i) (.int i t)=true:=by simp [Gi,sB]
theorem Pf (x:Str)(t:Tok):Gi (.inr x) (.str x t)=true:=by simp [Gi,qN]
theorem FB (a b:P0):decide ((hO a:Key)=hO b)=(a==b):=by
 by_cases e:a=b
 ·subst e;simp
 ·have h: ¬ (hO a:Key)=hO b:=λq=>e (Sum.inl.inj q)
  rw [D1 h];exact(beq_eq_false_iff_ne.mpr e).symm
theorem FC (a b:Str):decide ((aO a:Key)=aO b)=decide (a=b):=by
 by_cases e:a=b
 ·subst e;simp
 ·have h: ¬ (aO a:Key)=aO b:=λq=>e (Sum.inr.inj q)
  rw [D1 h,D1 e]
theorem FD (a:P0)(b:Str):decide ((hO a:Key)=aO b)=false:=D1 (λq=>nomatch q)
theorem FE (a:Str)(b:P0):decide ((aO a:Key)=hO b)=false:=D1 (λq=>nomatch q)
def wP (prog:S0)(w:N8):PySem.KeyKind prog w Key where
 is:=Gi
 hash:=SZ w
 inj:=λv a b ha hb=>by
  rcases jU ha with ⟨i,t,rfl,rfl⟩|⟨x,t,rfl,rfl⟩
  ·rcases jU hb with ⟨j,u,rfl,e⟩|⟨y,u,rfl,e⟩
   ·injection e with e1 _;rw [e1]
   ·exact nomatch e
  ·rcases jU hb with ⟨j,u,rfl,e⟩|⟨y,u,rfl,e⟩
   ·exact nomatch e
   ·injection e with e1 _;rw [e1]
 byValue:=λk v h=>by
  rcases jU h with ⟨i,t,rfl,rfl⟩|⟨x,t,rfl,rfl⟩<;>rfl
 pyHash:=λhv h=>by
  rcases jU hv with ⟨i,t,rfl,rfl⟩|⟨x,t,rfl,rfl⟩
  ·exact wpAny_pyHash_int h
  ·exact wpAny_pyHash_str h
 eqBool:=λhu hv h=>by
  rcases jU hu with ⟨i,t,rfl,rfl⟩|⟨x,t,rfl,rfl⟩
  ·rcases jU hv with ⟨j,u,rfl,rfl⟩|⟨y,u,rfl,rfl⟩
   ·rw [FB] at h;exact wpAny_eqBool_int h
   ·rw [FD] at h;exact SeqAt.EqAt.int_str i t y u _ _ _ _ h
  ·rcases jU hv with ⟨j,u,rfl,rfl⟩|⟨y,u,rfl,rfl⟩
   ·rw [FE] at h;exact SeqAt.EqAt.str_int x t j u _ _ _ _ h
   ·rw [FC] at h;exact wpAny_eqBool_str h
 «strs» :=λk x t v h=>by
  rcases jU h with ⟨i,u,rfl,e⟩|⟨y,u,rfl,e⟩
  ·exact nomatch e
  ·injection e with e1 _
   subst e1;cases v<;>rfl
theorem Xs (prog:S0)(w:N8)(i:P0)(t:Tok):(wP prog w).is (.inl i) (.int i t)=true:=Pe i t
theorem Xt (prog:S0)(w:N8)(x:Str)(t:Tok):(wP prog w).is (.inr x) (.str x t)=true:=Pf x t
inductive V where
 |non|bl (b:N4)|int (i:P0)|str (x:Str)|byt (b:N0 UInt8)|flt (b:UInt64)|ref (a:G9)|ty (n:Q4)
 deriving DecidableEq
def RelV:V->G1->Prop
 | .non,u=>u=fN
 | .bl b,u=>u=aR b
 | .int i,u=> ∃t,u=aX i t
 | .str x,u=> ∃t,u=iT x t
 | .byt b,u=> ∃t,u=Value.bytes b t
 | .flt b,u=> ∃t,u=sC b t
 | .ref a,u=>u=aI a
 | .ty n,u=>u=Q5 n
abbrev Vals:G0 V->G0 G1->Prop:=Paired RelV
theorem Vals.length {xs:G0 V}{us:G0 G1}(r:Vals xs us):xs.length=us.length:=Paired.length r
theorem Vals.get: ∀ {xs:G0 V} {us:G0 G1} {i:G8} {x:V},Vals xs us->xs[i]? =some x-> ∃u,us[i]? =some u/\RelV x u
 |_,_,_,_,.nil,e=>by simp at e
 |_,_,0,_,.cons r _,e=>by simp at e;subst e;exact⟨_,rfl,r⟩
 |_,_,i+1,x,.cons _ t,e=>by
  obtain⟨u,h1,h2⟩:=Vals.get (i:=i) (x:=x) t (by simpa using e);exact⟨u,by simpa using h1,h2⟩
variable {u:G1}
theorem Vals.set {x:V}(r:RelV x u): ∀ {xs:G0 V} {us:G0 G1} (i:G8),Vals xs us->Vals (xs.set i x) (us.set i u)
 |_,_,_,.nil=> .nil
 |_,_,0,.cons _ t=> .cons r t
 |_,_,i+1,.cons q t=> .cons q (Vals.set r i t)
theorem Vals.append: ∀ {xs ys:G0 V} {us ws:G0 G1},Vals xs us->Vals ys ws->Vals (xs++ys) (us++ws)
 |_,_,_,_,.nil,s=>s
 |_,_,_,_,.cons r t,s=> .cons r (Vals.append t s)
theorem Vals.take: ∀ {xs:G0 V} {us:G0 G1} (n:G8),Vals xs us->Vals (xs.take n) (us.take n)
 |_,_,0,_=> .nil
 |_,_,_+1,.nil=> .nil
 |_,_,n+1,.cons r t=> .cons r (Vals.take n t)
theorem Vals.drop: ∀ {xs:G0 V} {us:G0 G1} (n:G8),Vals xs us->Vals (xs.drop n) (us.drop n)
 |_,_,0,r=>r
 |_,_,_+1,.nil=> .nil
 |_,_,n+1,.cons _ t=>Vals.drop n t
def AD:P8 V->P8 G1->Prop
 |some v,some u=>RelV v u
 |none,none=>True
 |_,_=>False
def KV {κ:Type}:G0 (κ×V)->G0 (κ×G1)->Prop:=Paired λ(p:κ×V) (q:κ×G1)=>p.1=q.1/\RelV p.2 q.2
def kV:Key->V
 | .inl i=> .int i
 | .inr x=> .str x
inductive HO where
 /-- a list -/
 |lst (xs:G0 V)
 /-- a tuple (never changes) -/
 |tup (xs:G0 V)
 /-- a dict whose keys are ints and texts;one whose keys are tuples of ints and texts (the empty one is both) -/
 |dK (kvs:G0 (Key×V))|dT (kvs:G0 (G0 Key×V))
 /-- a set of ints: its members,its size -/
 |set (S:P0->N4) (n:G8)
 /-- an instance of the class at C,its dict at dx,its attributes -/
 |ins (C dx:G9) (fs:G0 (Str×V))
 /-- the dict of the instance at x -/
 |own (x:G9)
 /-- the dict of an exception -/
 |xd (fs:G0 (Str×V))
 /-- a bound method,f of x -/
 |met (f x:G9)
 /-- a range object lo,lo+1,.. below hi -/
 |rng (lo hi:P0)
 /-- a thing that is known to the object (the script;a dict while a loop walks it):read,never written while it is so -/
 |frz (o:Obj) (u:HO)
 /-- a code object's table -/
 |tbl (ps:N0 G1)
 /-- any other thing,by what is true of its one object (a def of one's own: SetO a S n:=HO.ext λh=> ..) -/
 |ext (φ:N9->Prop)
abbrev Hp:=G9->P8 HO
def upd (H:Hp)(a:G9)(o:HO):Hp:=λb=>if b=a then some o else H b
variable {H:Hp}{a:G9}{o:HO}
theorem jn:upd H a o a=some o:=by unfold upd;rw [S2 rfl]
variable {b:G9}
theorem jm (h:b≠a):upd H a o b=H b:=by unfold upd;rw [S3 h]
theorem Gj {u:HO}(h:H a=some o)(h':H b=some u)(d:o≠u):a≠b:=by
 intro e;subst e;rw [h] at h';exact d (F7 h')
theorem jq (h:H a=some o)(h':H b=none):a≠b:=by
 intro e;subst e;rw [h] at h';cases h'
def IsTupN (h:N9)(a:G9)(items:N0 G1):Prop:= ∃o,h.get? a=some o/\o.cls= .type "tuple" /\o.dict=none/\ ∃n,o.data= .seq items n
theorem IsTupN.tup {h:N9}{a:G9}{items:N0 G1}(x:IsTupN h a items):mU h a items:=let ⟨o,e,c,_,n,d⟩:=x;⟨o,e,c,n,d⟩
theorem IsTupN.new (h:N9)(items:N0 G1):IsTupN (h.push {cls:= .type "tuple",data:= .seq items}) h.objs.size items:=⟨_,R8 _ rfl,rfl,rfl,_,rfl⟩
section
variable (P:S0)(w:N8)
def ObjOk (H:Hp)(h:N9)(a:G9):HO->Prop
 | .lst xs=>xs.length<=sizeLine/\ ∃ (its:G0 G1) (n:G8),Vals xs its/\h.get? a=some {cls:= .type "list",data:= .seq its.toArray n}
 | .tup xs=>xs.length<=sizeLine/\ ∃its:G0 G1,Vals xs its/\IsTupN h a its.toArray
 | .dK kvs=>kvs.length<=sizeLine/\(a==cC)=false/\ ∃vs,KV kvs vs/\h.DictOf (wP P w) a vs
 | .dT kvs=>kvs.length<=sizeLine/\(a==cC)=false/\ ∃xs:G0 (G0 Key×G9×G1),
  Paired (λ(p:G0 Key×V) (q:G0 Key×G9×G1)=>p.1=q.1/\H q.2.1=some (.tup (p.1.map kV))/\RelV p.2 q.2.2) kvs xs/\
  ∃o es ep,h.get? a=some o/\o.ExactDict/\o.data= .dict es ep/\es.toList=xs.map (entryOfKey (tupleKind (wP P w)))/\(xs.map (·.1)).Nodup
 | .set S n=>h.SetOf (intKind P w) a S n
 | .ins C dx fs=>H dx=some (.own a)/\fs.length<=1000/\dx≠a/\h.get? a=some (kN C dx)/\
  ∃mA,h.Ns1 dx mA/\(∀f,AD (fs.lookup f) (mA f))/\rJ mA (fs.map (·.1))
 | .own _=> ∃o,h.get? a=some o
 | .xd fs=> ∃mA,h.Ns1 a mA/\ ∀f,AD (fs.lookup f) (mA f)
 | .rng lo hi=> ∃t u v,h.get? a=some {cls:= .type "range",data:= .fields #[.int lo t,.int hi u,.int 1 v]}
 | .frz o u=>h.get? a=some o/\ObjOk H h a u
 | .tbl ps=>h.get? a=some {cls:= .none,data:= .fields ps}
 | .met f x=>h.get? a=some (hZ (.ref f) (.ref x))
 | .ext φ=>φ h/\(∃o,h.get? a=some o)/\ ∀h1 h2:N9,φ h1->(∀o,h1.get? a=some o->h2.get? a=some o)->φ h2
def HOk (H:Hp)(h:N9):Prop:= ∀a o,H a=some o->ObjOk P w H h a o
end
section
variable {P:S0}{w:N8}{H H':Hp}{h h':N9}{a:G9}{o:HO}
theorem ObjOk.lt (x:ObjOk P w H h a o):a<h.objs.size:=by
 cases o with
 |lst xs=>obtain⟨_,_,_,_,e⟩:=x;exact D8 e
 |tup xs=>obtain⟨_,_,_,p⟩:=x;exact p.tup.lt
 |dK kvs=>obtain⟨_,_,_,_,o,_,_,e,_⟩:=x;exact D8 e
 |dT kvs=>obtain⟨_,_,_,_,o,_,_,e,_⟩:=x;exact D8 e
 |set S n=>obtain⟨o,_,_,_,e,_⟩:=x;exact D8 e
 |ins C dx fs=>obtain⟨_,_,_,e,_⟩:=x;exact D8 e
 |own y=>obtain⟨_,e⟩:=x;exact D8 e
 |xd fs=>obtain⟨_,⟨_,_,_,e,_⟩,_⟩:=x;exact D8 e
 |rng lo hi=>obtain⟨_,_,_,e⟩:=x;exact D8 e
 |frz ob u=>obtain⟨e,_⟩:=x;exact D8 e
 |tbl ps=>exact D8 (show h.get? a=some _ from x)
 |met f y=>exact D8 (show h.get? a=some _ from x)
 |ext φ=>obtain⟨_,⟨_,e⟩,_⟩:=x;exact D8 e
theorem Paired.mapP {α β:Type}{F G:α->β->Prop}: ∀ {l₁:G0 α} {l₂:G0 β},Paired F l₁ l₂->(∀a b,F a b->G a b)->Paired G l₁ l₂
 |_,_,.nil,_=> .nil
 |_,_,.cons r t,f=> .cons (f _ _ r) (Paired.mapP t f)
theorem ObjOk.stay (x:ObjOk P w H h a o)(k: ∀b u,(b=a\/H b=some (.own a))->h.get? b=some u->h'.get? b=some u)
 (ho: ∀b,H b=some (.own a)->H' b=some (.own a))(ht: ∀b xs,H b=some (.tup xs)->H' b=some (.tup xs)):ObjOk P w H' h' a o:=by
 induction o with
 |lst xs=>obtain⟨z,its,n,r,e⟩:=x;exact⟨z,its,n,r,k _ _ (.inl rfl) e⟩
 |tup xs=>obtain⟨z,its,r,ob,e,c⟩:=x;exact⟨z,its,r,ob,k _ _ (.inl rfl) e,c⟩
 |dK kvs=>obtain⟨z,y,vs,r,ob,es,ep,e,c⟩:=x;exact⟨z,y,vs,r,ob,es,ep,k _ _ (.inl rfl) e,c⟩
 |dT kvs=>
  obtain⟨z,y,xs,r,ob,es,ep,e,c⟩:=x;exact⟨z,y,xs,Paired.mapP r λp q z=>⟨z.1,ht _ _ z.2.1,z.2.2⟩,ob,es,ep,k _ _ (.inl rfl) e,c⟩
 |set S n=>obtain⟨ob,es,ep,t,e,c⟩:=x;exact⟨ob,es,ep,t,k _ _ (.inl rfl) e,c⟩
 |ins C dx fs=>
  obtain⟨d,z,ne,e,mA,⟨od,es,ep,e2,c⟩,r⟩:=x;exact⟨ho _ d,z,ne,k _ _ (.inl rfl) e,mA,⟨od,es,ep,k _ _ (.inr d) e2,c⟩,r⟩
 |own y=>obtain⟨ob,e⟩:=x;exact⟨ob,k _ _ (.inl rfl) e⟩
 |xd fs=>obtain⟨mA,⟨od,es,ep,e,c⟩,r⟩:=x;exact⟨mA,⟨od,es,ep,k _ _ (.inl rfl) e,c⟩,r⟩
 |rng lo hi=>obtain⟨t,u,v,e⟩:=x;exact⟨t,u,v,k _ _ (.inl rfl) e⟩
 |frz ob u ih=>obtain⟨e,q⟩:=x;exact⟨k _ _ (.inl rfl) e,ih q⟩
 |tbl ps=>
  have e:h.get? a=some {cls:= .none,data:= .fields ps}:=x;show h'.get? a=some {cls:= .none,data:= .fields ps};exact k a _ (.inl rfl) e
 |met f y=>
  have e:h.get? a=some (hZ (.ref f) (.ref y)):=x;show h'.get? a=some (hZ (.ref f) (.ref y));exact k a _ (.inl rfl) e
 |ext φ=>obtain⟨p,⟨o,e⟩,st⟩:=x;exact⟨st _ _ p λo q=>k _ _ (.inl rfl) q,⟨o,k _ _ (.inl rfl) e⟩,st⟩
theorem HOk.lt (x:HOk P w H h)(e:H a=some o):a<h.objs.size:=(x a o e).lt
theorem HOk.fresh (x:HOk P w H h)(e:h.objs.size<=a):H a=none:=by
 cases q:H a with
 |none=>rfl
 |some u=>exact absurd (S7 (x.lt q) e) (L0 _)
theorem HOk.kept (x:HOk P w H h)(k: ∀b u,h.get? b=some u->h'.get? b=some u):HOk P w H h':=λa o e=>
 (x a o e).stay (λb u _ q=>k b u q) (λ_ q=>q) λ_ _ q=>q
theorem HOk.laid (x:HOk P w H h)(k: ∀b u,h.get? b=some u->h'.get? b=some u)(hp:h.objs.size<=a)(new:ObjOk P w (upd H a o) h' a o):HOk P w (upd H a o) h':=λb u e=>by
 have hn:=x.fresh hp
 by_cases hb:b=a
 ·subst hb;rw [jn] at e;cases e;exact new
 ·rw [jm hb] at e;exact(x b u e).stay (λc v _ q=>k c v q) (λc q=>by rw [jm (jq q hn)];exact q) λc xs q=>by rw [jm (jq q hn)];exact q
end
def Rd (H:Hp)(a:G9)(u:HO):Prop:=H a=some u\/ ∃o,H a=some (.frz o u)
variable {P:S0}{w:N8}{h:N9}
theorem Rd.ok {u:HO}(r:Rd H a u)(x:HOk P w H h):ObjOk P w H h a u:=by
 rcases r with r|⟨o,r⟩
 ·exact x a u r
 ·obtain⟨_,q⟩:=x a _ r;exact q
def Mut:P8 HO->Prop
 |some (.lst _)=>True
 |some (.dK _)=>True
 |some (.dT _)=>True
 |some (.set _ _)=>True
 |some (.ins _ _ _)=>True
 |some (.ext _)=>True
 |_=>False
section
variable {P:S0}{w:N8}{H:Hp}{h h':N9}{x e:G9}{o':HO}
theorem HOk.write (ok:HOk P w H h)(mu:Mut (H x))(he:e=x\/H e=some (.own x))(k: ∀b u,b≠e->h.get? b=some u->h'.get? b=some u)(heo: ∃u,h'.get? e=some u)
 (new:ObjOk P w (upd H x o') h' x o'):HOk P w (upd H x o') h':=λb u q=>by
 have nown: ∀c y,H c=some (.own y)->c≠x:=λc y r z=>by subst z;rw [r] at mu;exact mu
 have ntup: ∀c xs,H c=some (.tup xs)->c≠x:=λc xs r z=>by subst z;rw [r] at mu;exact mu
 by_cases hb:b=x
 ·subst hb;rw [jn] at q;cases q;exact new
 ·rw [jm hb] at q
  by_cases hbe:b=e
  ·have q':H b=some (.own x):=by
    rcases he with z|z
    ·exact absurd (hbe.trans z) hb
    ·rw [hbe];exact z
   rw [q] at q';cases q';obtain⟨v,hv⟩:=heo;exact⟨v,by rw [hbe];exact hv⟩
  ·refine(ok b u q).stay (λc v hc r=>k c v ?_ r) (λc r=>by rw [jm (nown c b r)];exact r) λc xs r=>by rw [jm (ntup c xs r)];exact r
   rcases hc with rfl|hc
   ·exact hbe
   ·rintro rfl;rcases he with z|z
    ·exact nown c b hc z
    ·rw [hc] at z;cases z;exact hb rfl
end
structure Un (fs ex:G0 G9)(H H':Hp)(h h':N9):Prop where
 keep: ∀b o,h.get? b=some o->H b=none->b ∉ fs->b ∉ ex->h'.get? b=some o
 slot: ∀b o,h.get? b=some o->H b=none->b∈fs->b ∉ ex-> ∃sl,h'.get? b=some {o with slots:=sl}
 free: ∀b o,h.get? b=some o->H b=none->b ∉ ex->H' b=none
 there: ∀b o,h.get? b=some o->b ∉ ex-> ∃o',h'.get? b=some o'
 tups: ∀b xs,H b=some (.tup xs)->H' b=some (.tup xs)
 frzs: ∀b o u,H b=some (.frz o u)->H' b=some (.frz o u)
 tbls: ∀b ps,H b=some (.tbl ps)-> ∃more,H' b=some (.tbl (ps++more))
section
variable {fs fs' ex ex':G0 G9}{H H1 H2:Hp}{h h1 h2 h':N9}{a x e:G9}{o:HO}
theorem Un.any (u:Un fs ex H H1 h h1){b:G9}{ob:Obj}(q:h.get? b=some ob)(n:H b=none)(hx:b ∉ ex): ∃sl,h1.get? b=some {ob with slots:=sl}:=by
 by_cases hb:b∈fs
 ·exact u.slot b ob q n hb hx
 ·exact⟨ob.slots,u.keep b ob q n hb hx⟩
theorem Un.kept (k: ∀b u,h.get? b=some u->h'.get? b=some u):Un fs ex H H h h':=
 ⟨λb ob q _ _ _=>k b ob q,λb ob q _ _ _=>⟨ob.slots,k b ob q⟩,λ_ _ _ n _=>n,λb ob q _=>⟨ob,k b ob q⟩,λ_ _ q=>q,λ_ _ _ q=>q,λ_ ps q=>⟨#[],by rw [q];simp⟩⟩
theorem Un.refl:Un fs ex H H h h:=Un.kept λ_ _ q=>q
theorem Un.laid (k: ∀b u,h.get? b=some u->h'.get? b=some u)(hp:h.objs.size<=a)(hn:H a=none):Un fs ex H (upd H a o) h h' where
 keep:=λb u q _ _ _=>k b u q
 slot:=λb u q _ _ _=>⟨u.slots,k b u q⟩
 free:=λb u q n _=>by rw [jm (T5 (S7 (D8 q) hp))];exact n
 there:=λb u q _=>⟨u,k b u q⟩
 tups:=λb xs q=>by rw [jm (jq q hn)];exact q
 frzs:=λb u xs q=>by rw [jm (jq q hn)];exact q
 tbls:=λb ps q=>⟨#[],by rw [jm (jq q hn),q];simp⟩
theorem Un.write (mu:Mut (H x))(he:e=x\/H e=some (.own x))(k: ∀b u,b≠e->h.get? b=some u->h'.get? b=some u)(heo: ∃u,h'.get? e=some u):Un fs ex H (upd H x o) h h':=by
 have hx: ∀b,H b=none->b≠x:=λb n z=>by subst z;rw [n] at mu;exact mu
 have hb: ∀b,H b=none->b≠e:=λb n z=>by
  subst z;rcases he with r|r
  ·exact hx b n r
  ·rw [n] at r;cases r
 have hm: ∀b u,H b=some u-> ¬Mut (some u)->b≠x:=λb u q nm z=>by subst z;rw [q] at mu;exact nm mu
 refine⟨λb u q n _ _=>k b u (hb b n) q,λb u q n _ _=>⟨u.slots,k b u (hb b n) q⟩,λb u q n _=>by rw [jm (hx b n)];exact n,λb u q _=> ?_,
  λb xs q=>by rw [jm (hm b _ q λz=>z)];exact q,λb u xs q=>by rw [jm (hm b _ q λz=>z)];exact q,λb ps q=>⟨#[],by rw [jm (hm b _ q λz=>z),q];simp⟩⟩
 by_cases hbe:b=e
 ·subst hbe;exact heo
 ·exact⟨u,k b u hbe q⟩
end
def trk (h:N9)(H:Hp):G0 G9:=(R6 h.objs.size).filter λa=>(H a).isSome
def RH (h:N9)(H:Hp):N9:=bV h (trk h H)
theorem Pg (h:N9)(H:Hp):(RH h H).objs.size=h.objs.size:=sD _ _
theorem Ve {o:Obj}(e:h.get? b=some o)(n:H b=none):(RH h H).get? b=some o:=
 Y8 _ e λhm=>by
  have q:(H b).isSome=true:=(X5.mp hm).2;rw [n] at q;simp at q
theorem NN {o:Obj}(e:(RH h H).get? b=some o):h.get? b=some o/\H b=none:=by
 have e':h.get? b=some o:=fO (trk h H) e;refine⟨e',?_⟩;cases q:H b with
 |none=>rfl
 |some x=>
  have hm:b∈trk h H:=X5.mpr ⟨S9.mpr (D8 e'),by simp [q]⟩;have z:(RH h H).get? b=none:=X7 (trk h H) hm;rw [z] at e;cases e
def NO (g h:N9)(L:G9):G0 (G9×Obj):=(R6 h.objs.size).filterMap λa=>if a=L\/(g.get? a).isSome=true then none else (h.get? a).map λo=>(a,o)
def rest (g h:N9)(L d:G9):G0 (G9×Obj):=(NO g h L).filter λp=>decide (p.1≠d)
structure Mod (K:G2)(mg:Str->P8 G1)(base:N9):Prop where
 kin:K.In base
 glob:base.Ns mainGlobals mg
 blt: ∃mb,base.Ns fP mb/\ ∀x:Str,x≠ "__name__" ->mb x=J9 x
 nolimit:base.NoLimit
structure Cx where
 prog:S0
 w:N8
 K:G2
 mg:Str->P8 G1
 base:N9
 A:T8
 N:G0 Str
 s₀:G3
 H₀:Hp
 env:Env
 outer:G0 Env
 stack:G0 Env
 ex:G0 G9
 fn:Str->N4
 calm:N4
 pn:G0 (G9×Obj)
 xe:G1->G3->Prop
def frs (l:G0 Env):G0 G9:=l.filterMap (·.frame)
abbrev Cx.fs (X:Cx):G0 G9:=frs X.outer
def Vis (sc:A8)(x:Str):Prop:=sc.names.lookup x=some .local\/sc.names.lookup x=some .cell\/sc.names.lookup x=some .free
def Loc (sc:A8)(x:Str):Prop:=sc.names.lookup x=some .local\/sc.names.lookup x=some .cell
def Ta (env:Env)(h:N9)(m:Str->P8 G1)(x:Str)(u:G1):Prop:=
 (env.kindOf x=some .local/\m x=some u)\/((env.kindOf x=some .cell\/env.kindOf x=some .free)/\ ∃c,env.cells.lookup x=some c/\h.IsCell c (some u))
structure Cx.Ok (X:Cx):Prop where
 mod:Mod X.K X.mg X.base
 kind:X.env.scope.kind= .function
 glob:X.env.globals=mainGlobals
 blt:X.env.builtins=fP
 above:X.s₀.heap.objs.size<=X.env.locals
 inj: ∀x y c,X.env.cells.lookup x=some c->X.env.cells.lookup y=some c->x=y
 has: ∀x,(X.env.kindOf x=some .cell\/X.env.kindOf x=some .free)-> ∃c,X.env.cells.lookup x=some c
 cab: ∀x c,X.fn x=true->X.env.cells.lookup x=some c->X.s₀.heap.objs.size<=c
 hd:X.calm=true->X.A.handled=none
 frames:X.A.frames=some X.stack
 stk:X.stack=X.outer\/(X.stack=X.env::X.outer/\X.env.frame=some X.env.locals)
 exf: ∀b∈X.ex,b≠X.env.locals/\ ∀x c,X.env.cells.lookup x=some c->c≠b
 bs: ∀b o,X.base.get? b=some o->X.s₀.heap.get? b=some o/\X.H₀ b=none
 bsz:X.base.objs.size<=X.s₀.heap.objs.size
 noex: ∀b o,X.base.get? b=some o->b ∉ X.ex
 exfs: ∀b∈X.ex,b ∉ X.fs
 funs:X.s₀.heap.FunFrames X.base X.outer
 frf: ∀b∈X.fs,X.H₀ b=none
structure Inv (X:Cx)(pins:G0 (G9×Obj))(σ:G0 (P8 V))(H:Hp)(s:G3):Prop where
 ok:X.Ok
 os:s.os=X.s₀.os
 bare:fH s.gens
 base:Un X.fs X.ex X.H₀ H X.s₀.heap s.heap
 loc: ∃m,s.heap.Ns X.env.locals m/\ ∀ (i:G8) (x:Str) (v:V),X.N[i]? =some x->σ[i]? =some (some v)->Vis X.env.scope x-> ∃u,RelV v u/\Ta X.env s.heap m x u
 cell: ∀x c,X.env.cells.lookup x=some c-> ∃v,s.heap.IsCell c v
 free:H X.env.locals=none
 freeC: ∀x c,X.env.cells.lookup x=some c->H c=none
 pin: ∀p∈X.pn++pins,s.heap.get? p.1=some p.2/\H p.1=none/\p.1≠X.env.locals/\p.1 ∉ X.fs/\ ∀v,p.2.data≠ .cell v
 hok:HOk X.prog X.w H s.heap
 len:σ.length=X.N.length
section
variable {X:Cx}{pins:G0 (G9×Obj)}{σ:G0 (P8 V)}{H H':Hp}{s:G3}{h':N9}
theorem Cx.Ok.nofr (ok:X.Ok){b:G9}{o:Obj}(e:X.base.get? b=some o):b ∉ X.fs:=λhb=>by
 have:=(ok.funs.mem hb).1;rw [e] at this;cases this
theorem Inv.bs (I:Inv X pins σ H s): ∀b o,X.base.get? b=some o->s.heap.get? b=some o/\H b=none:=λb o e=>
 ⟨I.base.keep b o (I.ok.bs b o e).1 (I.ok.bs b o e).2 (I.ok.nofr e) (I.ok.noex b o e),I.base.free b o (I.ok.bs b o e).1 (I.ok.bs b o e).2 (I.ok.noex b o e)⟩
theorem Inv.bk (I:Inv X pins σ H s): ∀b o,X.base.get? b=some o->s.heap.get? b=some o:=λb o e=>(I.bs b o e).1
theorem Inv.mod (I:Inv X pins σ H s):Mod X.K X.mg X.base:=I.ok.mod
theorem Inv.kIn (I:Inv X pins σ H s):X.K.In s.heap:=I.ok.mod.kin.keeps I.bk
theorem Inv.lt (I:Inv X pins σ H s):X.env.locals<s.heap.objs.size:=let ⟨_,hn,_⟩:=I.loc;hn.lt
theorem Inv.sz (I:Inv X pins σ H s):X.s₀.heap.objs.size<=s.heap.objs.size:=T6 I.ok.above (R9 I.lt)
theorem Inv.nofs (I:Inv X pins σ H s){a:G9}(h:s.heap.objs.size<=a):a ∉ X.fs:=λhb=>by
 obtain⟨_,o,ho,_⟩:=I.ok.funs.mem hb;exact absurd (S7 (D8 ho) (T6 I.sz h)) (L0 _)
theorem Inv.cne (I:Inv X pins σ H s): ∀x c,X.env.cells.lookup x=some c->c≠X.env.locals:=λx c e z=>by
 obtain⟨v,o,ho,hd⟩:=I.cell x c e;obtain⟨m,⟨o',es,ep,ho',hd',_⟩,_⟩:=I.loc;rw [z,ho'] at ho;cases ho;rw [hd'] at hd;cases hd
theorem Inv.funs (I:Inv X pins σ H s):s.heap.FunFrames X.base X.outer:=by
 have all: ∀ (l:G0 Env),(∀b∈frs l,b∈X.fs)->X.s₀.heap.FunFrames X.base l->s.heap.FunFrames X.base l:=by
  intro l
  induction l with
  |nil=>intro _ _;trivial
  |cons env r ih=>
   intro hs hl;obtain⟨hk,⟨L,o,hf,hn,ho,hd⟩,hr⟩:=hl;have hL:L∈X.fs:=hs L (by unfold frs;rw [W3,hf];exact R7);obtain⟨sl,e⟩:=I.base.slot L o ho (I.ok.frf L hL) hL λz=>I.ok.exfs L z hL
   exact⟨hk,⟨L,_,hf,hn,e,hd⟩,ih (λb hb=>hs b (by unfold frs;rw [W3,hf];exact S6 _ hb)) hr⟩
 exact all X.outer (λ_ hb=>hb) I.ok.funs
theorem Inv.stack (I:Inv X pins σ H s):s.heap.FunFrames X.base X.stack:=by
 rcases I.ok.stk with e|⟨e,hf⟩
 ·rw [e];exact I.funs
 ·rw [e];obtain⟨m,hn,_⟩:=I.loc;refine .cons (by rw [I.ok.kind];decide) hf hn ?_ I.funs;exact Heap.get?_none_of_le (T6 I.ok.bsz I.ok.above)
theorem Inv.stkSub (I:Inv X pins σ H s): ∀b∈frs X.stack,b∈X.env.locals::X.fs:=λb hb=>by
 rcases I.ok.stk with e|⟨e,hf⟩
 ·rw [e] at hb;exact S6 _ hb
 ·rw [e] at hb;unfold frs at hb;rw [W3,hf] at hb;exact hb
theorem Inv.stkFree (I:Inv X pins σ H s): ∀b∈frs X.stack,H b=none:=λb hb=>by
 rcases D2.mp (I.stkSub b hb) with e|hb
 ·rw [e];exact I.free
 ·obtain⟨_,o,ho,_⟩:=I.ok.funs.mem hb;exact I.base.free b o ho (I.ok.frf b hb) λz=>I.ok.exfs b z hb
variable {t':G8}
theorem Inv.step {g':N0 GenState}{d':Drawn}{ch:G0 G9}(I:Inv X pins σ H s)
 (hch: ∀b∈ch,(b∈X.ex\/X.s₀.heap.objs.size<=b)/\b≠X.env.locals/\(∀x c,X.env.cells.lookup x=some c->c≠b)/\ ∀p∈X.pn++pins,p.1≠b)
 (keep: ∀b o,b≠X.env.locals->b ∉ X.fs->b ∉ ch->s.heap.get? b=some o->H b=none->h'.get? b=some o)
 (slot: ∀b o,b≠X.env.locals->b∈X.fs->b ∉ ch->s.heap.get? b=some o->H b=none-> ∃sl,h'.get? b=some {o with slots:=sl})(free: ∀b o,b ∉ ch->s.heap.get? b=some o->H b=none->H' b=none)
 (there: ∀b o,b ∉ ch->s.heap.get? b=some o-> ∃o',h'.get? b=some o')
 (tups: ∀b xs,H b=some (.tup xs)->H' b=some (.tup xs))(frzs: ∀b o u,H b=some (.frz o u)->H' b=some (.frz o u))(tbls: ∀b ps,H b=some (.tbl ps)-> ∃more,H' b=some (.tbl (ps++more)))
 (ns: ∀m,s.heap.Ns X.env.locals m->h'.Ns X.env.locals m)(hok:HOk X.prog X.w H' h')(hg:fH g'):
 Inv X pins σ H' {s with heap:=h',gens:=g',drawn:=d',toks:=t'}:=by
 have neL: ∀b o,X.s₀.heap.get? b=some o->b≠X.env.locals:=λb o e=>T5 (S7 (D8 e) I.ok.above)
 have neC: ∀b o,X.s₀.heap.get? b=some o->b ∉ X.ex->b ∉ ch:=λb o e hx hb=>by
  rcases (hch b hb).1 with z|z
  ·exact hx z
  ·exact absurd (S7 (D8 e) z) (L0 _)
 have cellK: ∀x c,X.env.cells.lookup x=some c-> ∀v,s.heap.IsCell c v->h'.IsCell c v:=λx c e v ⟨o,ho,hd⟩=>by
  have nch:c ∉ ch:=λz=>(hch c z).2.2.1 x c e rfl
  by_cases hc:c∈X.fs
  ·obtain⟨sl,q⟩:=slot c o (I.cne x c e) hc nch ho (I.freeC x c e);exact⟨_,q,hd⟩
  ·exact⟨o,keep c o (I.cne x c e) hc nch ho (I.freeC x c e),hd⟩
 refine⟨I.ok,I.os,hg,⟨λb o e n hb hx=> ?_,λb o e n hb hx=> ?_,λb o e n hx=> ?_,λb o e hx=> ?_,λb xs e=>tups b xs (I.base.tups b xs e),λb o xs e=>frzs b o xs (I.base.frzs b o xs e),λb ps e=> ?_⟩,?_,λx c e=> ?_,?_,λx c e=> ?_,λp hp=> ?_,hok,I.len⟩
 ·exact keep b o (neL b o e) hb (neC b o e hx) (I.base.keep b o e n hb hx) (I.base.free b o e n hx)
 ·obtain⟨sl,e1⟩:=I.base.slot b o e n hb hx;obtain⟨sl',e2⟩:=slot b _ (neL b o e) hb (neC b o e hx) e1 (I.base.free b o e n hx);exact⟨sl',e2⟩
 ·obtain⟨o',e1⟩:=I.base.there b o e hx;exact free b o' (neC b o e hx) e1 (I.base.free b o e n hx)
 ·obtain⟨o',e1⟩:=I.base.there b o e hx;exact there b o' (neC b o e hx) e1
 ·obtain⟨m1,e1⟩:=I.base.tbls b ps e;obtain⟨m2,e2⟩:=tbls b _ e1;exact⟨m1++m2,by rw [e2,Array.append_assoc]⟩
 ·obtain⟨m,hn,hl⟩:=I.loc;refine⟨m,ns m hn,λi x v e1 e2 e3=> ?_⟩;obtain⟨u,r,l⟩:=hl i x v e1 e2 e3;refine⟨u,r,?_⟩;rcases l with l|⟨k,c,e,z⟩
  ·exact .inl l
  ·exact .inr ⟨k,c,e,cellK x c e _ z⟩
 ·obtain⟨v,z⟩:=I.cell x c e;exact⟨v,cellK x c e v z⟩
 ·obtain⟨m,⟨o,_,_,ho,_⟩,_⟩:=I.loc;exact free _ o (λz=>(hch _ z).2.1 rfl) ho I.free
 ·obtain⟨v,o,ho,hd⟩:=I.cell x c e;exact free c o (λz=>(hch c z).2.2.1 x c e rfl) ho (I.freeC x c e)
 ·obtain⟨e,n,ne,nf,d⟩:=I.pin p hp;have nch:p.1 ∉ ch:=λz=>(hch p.1 z).2.2.2 p hp rfl
  exact⟨keep p.1 p.2 ne nf nch e n,free p.1 p.2 nch e n,ne,nf,d⟩
theorem Inv.un (I:Inv X pins σ H s)(u:Un X.fs [] H H' s.heap h')(hok:HOk X.prog X.w H' h'):Inv X pins σ H' {s with heap:=h',toks:=t'}:=by
 obtain⟨m,⟨o,es,ep,ho,r⟩,_⟩:=id I.loc;obtain⟨sl,hL⟩:=u.any ho I.free (by simp);exact I.step (g':=s.gens) (d':=s.drawn) (ch:= []) (λ_ z=>nomatch z) (λb o _ hb _ e n=>u.keep b o e n hb (by simp)) (λb o _ hb _ e n=>u.slot b o e n hb (by simp)) (λb o _ e n=>u.free b o e n (by simp)) (λb o _ e=>u.there b o e (by simp)) u.tups u.frzs u.tbls (λm' hm=>by
  obtain⟨o',es',ep',ho',r'⟩:=hm;rw [ho] at ho';cases ho';exact⟨_,es',ep',hL,r'⟩) hok I.bare
theorem Inv.call {g':N0 GenState}{d':Drawn}{ch:G0 G9}(I:Inv X pins σ H s)(u:Un (frs X.stack) ch H H' s.heap h')(hok:HOk X.prog X.w H' h')(hg:fH g')
 (hch: ∀b∈ch,(b∈X.ex\/X.s₀.heap.objs.size<=b)/\b≠X.env.locals/\(∀x c,X.env.cells.lookup x=some c->c≠b)/\ ∀p∈X.pn++pins,p.1≠b):
 Inv X pins σ H' {s with heap:=h',gens:=g',drawn:=d',toks:=t'}:=by
 obtain⟨m,⟨o,es,ep,ho,r⟩,_⟩:=id I.loc;obtain⟨sl,hL⟩:=u.any ho I.free λz=>(hch _ z).2.1 rfl
 exact I.step (ch:=ch) hch (λb o hL hb hc e n=>u.keep b o e n (λz=>(D2.mp (I.stkSub b z)).elim hL hb) hc) (λb o _ _ hc e n=>u.any e n hc) (λb o hc e n=>u.free b o e n hc) (λb o hc e=>u.there b o e hc) u.tups u.frzs u.tbls (λm' hm=>by
  obtain⟨o',es',ep',ho',r'⟩:=hm;rw [ho] at ho';cases ho';exact⟨_,es',ep',hL,r'⟩) hok hg
theorem Inv.turned {it:G9}(I:Inv X pins σ H s)(k: ∀b o,b≠it->s.heap.get? b=some o->h'.get? b=some o)(hn:H it=none)(hL:it≠X.env.locals)
 (h1:it∈X.ex\/X.s₀.heap.objs.size<=it)(h2: ∀x c,X.env.cells.lookup x=some c->c≠it)(h3: ∀p∈X.pn++pins,p.1≠it):Inv X pins σ H {s with heap:=h',toks:=t'}:=by
 have nit: ∀b u,H b=some u->b≠it:=λb u e z=>by rw [z,hn] at e;cases e
 refine I.step (g':=s.gens) (d':=s.drawn) (ch:= [it]) (λb hb=> ?_) (λb o _ _ hc e _=>k b o (λz=>hc (by simp [z])) e) (λb o _ _ hc e _=>⟨o.slots,k b o (λz=>hc (by simp [z])) e⟩) (λ_ _ _ _ n=>n)
  (λb o hc e=>⟨o,k b o (λz=>hc (by simp [z])) e⟩) (λ_ _ e=>e) (λ_ _ _ e=>e) (λb ps e=>⟨#[],by rw [e];simp⟩) (λm hm=> ?_) (λb u e=> ?_) I.bare
 ·have e:b=it:=by simpa using hb
  subst e;exact⟨h1,hL,h2,h3⟩
 ·obtain⟨o,es,ep,ho,r⟩:=hm;exact⟨o,es,ep,k _ o (K6 hL) ho,r⟩
 ·refine(I.hok b u e).stay (λc v hc q=>k c v ?_ q) (λ_ q=>q) λ_ _ q=>q
  rcases hc with z|z
  ·rw [z];exact nit b u e
  ·exact nit c _ z
theorem Inv.tok (I:Inv X pins σ H s)(t:G8):Inv X pins σ H {s with toks:=t}:=I.un (h':=s.heap) (t':=t) Un.refl I.hok
theorem Inv.kept (I:Inv X pins σ H s)(k: ∀b u,s.heap.get? b=some u->h'.get? b=some u):Inv X pins σ H {s with heap:=h',toks:=t'}:=I.un (Un.kept k) (I.hok.kept k)
theorem Inv.laid {a:G9}{o:HO}(I:Inv X pins σ H s)(k: ∀b u,s.heap.get? b=some u->h'.get? b=some u)(hp:s.heap.objs.size<=a)(new:ObjOk X.prog X.w (upd H a o) h' a o):
 Inv X pins σ (upd H a o) {s with heap:=h',toks:=t'}:=I.un (Un.laid k hp (I.hok.fresh hp)) (I.hok.laid k hp new)
theorem Inv.write {x e:G9}{o:HO}(I:Inv X pins σ H s)(mu:Mut (H x))(he:e=x\/H e=some (.own x))(k: ∀b u,b≠e->s.heap.get? b=some u->h'.get? b=some u)(heo: ∃u,h'.get? e=some u)
 (new:ObjOk X.prog X.w (upd H x o) h' x o):Inv X pins σ (upd H x o) {s with heap:=h',toks:=t'}:=I.un (Un.write mu he k heo) (I.hok.write mu he k heo new)
theorem Inv.weak {xC:G0 (P8 V)}(I:Inv X pins σ H s)(hl:xC.length=σ.length)(w: ∀ (i:G8) v,xC[i]? =some (some v)->σ[i]? =some (some v)):Inv X pins xC H s:=
 ⟨I.ok,I.os,I.bare,I.base,let ⟨m,hn,hl'⟩:=I.loc;⟨m,hn,λi x v e1 e2 e3=>hl' i x v e1 (w i v e2) e3⟩,I.cell,I.free,I.freeC,I.pin,I.hok,hl.trans I.len⟩
theorem Inv.pins_of {pins':G0 (G9×Obj)}(I:Inv X pins σ H s)(h: ∀p∈pins',s.heap.get? p.1=some p.2/\H p.1=none/\p.1≠X.env.locals/\p.1 ∉ X.fs/\ ∀v,p.2.data≠ .cell v):Inv X pins' σ H s:=
 ⟨I.ok,I.os,I.bare,I.base,I.loc,I.cell,I.free,I.freeC,λp hp=>(D5.mp hp).elim (λz=>I.pin p (O9 _ z)) (h p),I.hok,I.len⟩
theorem Vf {N:G0 Str}(hN:N.Nodup){i j:G8}{x:Str}(a:N[i]? =some x)(b:N[j]? =some x):i=j:=by
 obtain⟨h1,e1⟩:=P9.mp a;obtain⟨h2,e2⟩:=P9.mp b;exact(List.getElem_inj hN).mp (e1.trans e2.symm)
theorem Ph {M:iA}{A:T8}{E:G1->G3->Prop}{i:G8}{x:Str}{v:V}{u:G1}{Q:Unit->G3->Prop}(I:Inv X pins σ H s)(hN:X.N.Nodup)(hi:X.N[i]? =some x)(hx:Loc X.env.scope x)(r:RelV v u)
 (h: ∀s',Inv X pins (σ.set i (some v)) H s'->(∃a,Z6 a s.heap s'.heap/\(a=X.env.locals\/X.env.cells.lookup x=some a))->Q () s')(hf:X.fn x=true\/X.env.scope.names.lookup x=some .local:=by first|exact .inl rfl|exact .inr rfl|assumption):R4 M A (storeName X.env x u) Q E s:=by
 obtain⟨m,hn,hl⟩:=id I.loc;have hcls:(X.env.scope.kind== .class||(X.env.scope.kind== .module&&X.env.locals !=X.env.globals))=false:=by rw [I.ok.kind];rfl
 have xX:i<σ.length:=by rw [I.len];exact(P9.mp hi).1
 have cne:=I.cne;have tracked: ∀ {a:G9} {h':N9},(∃o,s.heap.get? a=some o/\H a=none)->Z6 a s.heap h'->HOk X.prog X.w H h':=λ{a h'} ha hs b ob e=>by
  obtain⟨_,_,hfree⟩:=ha;refine(I.hok b ob e).stay (λc w' hc q=>(hs.2 c ?_).trans q) (λ_ q=>q) λ_ _ q=>q
  rintro rfl;rcases hc with rfl|hc
  ·rw [hfree] at e;cases e
  ·rw [hfree] at hc;cases hc
 rcases hx with hk|hk
 ·refine wpAny_storeName_local hk hn (λh' hn' hs=> ?_) hcls;obtain⟨oL,_,_,hoL,_⟩:=id hn;refine h _ ⟨I.ok,I.os,I.bare,⟨λb o e n hb hx=> ?_,λb o e n hb hx=> ?_,I.base.free,λb o e hx=> ?_,I.base.tups,I.base.frzs,I.base.tbls⟩,⟨_,hn',λj y v' e1 e2 e3=> ?_⟩,λy c e=> ?_,I.free,I.freeC,λp hp=> ?_,tracked ⟨oL,hoL,I.free⟩ hs,by simpa using I.len⟩ ⟨_,hs,.inl rfl⟩
  ·exact(hs.2 b (T5 (S7 (D8 e) I.ok.above))).trans (I.base.keep b o e n hb hx)
  ·obtain⟨sl,e1⟩:=I.base.slot b o e n hb hx;exact⟨sl,(hs.2 b (T5 (S7 (D8 e) I.ok.above))).trans e1⟩
  ·obtain⟨o',e1⟩:=I.base.there b o e hx;exact⟨o',(hs.2 b (T5 (S7 (D8 e) I.ok.above))).trans e1⟩
  ·by_cases hj:j=i
   ·subst hj;rw [hi] at e1;cases e1;rw [W5 xX] at e2;cases e2;exact⟨u,r,.inl ⟨hk,by simp⟩⟩
   ·rw [L7 (K6 hj)] at e2;obtain⟨u',r',q⟩:=hl j y v' e1 e2 e3;refine⟨u',r',?_⟩;rcases q with ⟨k,e⟩|⟨k,c,e,z⟩
    ·refine .inl ⟨k,?_⟩;have:y≠x:=λe=>hj (Vf hN e1 (e ▸ hi))
     simp [this,e]
    ·exact .inr ⟨k,c,e,z.sameBut hs (cne y c e)⟩
  ·obtain⟨w',z⟩:=I.cell y c e;exact⟨w',z.sameBut hs (cne y c e)⟩
  ·obtain⟨e,n,ne,nf,d⟩:=I.pin p hp;exact⟨(hs.2 p.1 ne).trans e,n,ne,nf,d⟩
 ·have hfn:X.fn x=true:=by
   rcases hf with z|z
   ·exact z
   ·rw [z] at hk;cases hk
  obtain⟨c,hc⟩:=I.ok.has x (.inl hk);obtain⟨w',z⟩:=I.cell x c hc;refine wpAny_storeName_cell I.ok.kind hk hc z (λh' hc' hs=> ?_);obtain⟨oc,hoc,hocd⟩:=id z;refine h {s with heap:=h'} ⟨I.ok,I.os,I.bare,⟨λb o e n hb hx=> ?_,λb o e n hb hx=> ?_,I.base.free,λb o e hx=> ?_,I.base.tups,I.base.frzs,I.base.tbls⟩,⟨m,hn.sameBut hs (K6 (cne x c hc)),λj y v' e1 e2 e3=> ?_⟩,λy c' e=> ?_,I.free,I.freeC,λp hp=> ?_,tracked ⟨oc,hoc,I.freeC x c hc⟩ hs,by simpa using I.len⟩ ⟨c,hs,.inr hc⟩
  ·exact(hs.2 b (T5 (S7 (D8 e) (I.ok.cab x c hfn hc)))).trans (I.base.keep b o e n hb hx)
  ·obtain⟨sl,e1⟩:=I.base.slot b o e n hb hx;exact⟨sl,(hs.2 b (T5 (S7 (D8 e) (I.ok.cab x c hfn hc)))).trans e1⟩
  ·obtain⟨o',e1⟩:=I.base.there b o e hx;exact⟨o',(hs.2 b (T5 (S7 (D8 e) (I.ok.cab x c hfn hc)))).trans e1⟩
  ·by_cases hj:j=i
   ·subst hj;rw [hi] at e1;cases e1;rw [W5 xX] at e2;cases e2;exact⟨u,r,.inr ⟨.inl hk,c,hc,hc'⟩⟩
   ·rw [L7 (K6 hj)] at e2;obtain⟨u',r',q⟩:=hl j y v' e1 e2 e3;refine⟨u',r',?_⟩;rcases q with q|⟨k,c',e,z'⟩
    ·exact .inl q
    ·refine .inr ⟨k,c',e,z'.sameBut hs ?_⟩;rintro rfl;exact hj (Vf hN e1 (I.ok.inj _ _ _ e hc ▸ hi))
  ·by_cases hcc:c'=c
   ·subst hcc;exact⟨_,hc'⟩
   ·obtain⟨w2,z2⟩:=I.cell y c' e;exact⟨w2,z2.sameBut hs hcc⟩
  ·obtain⟨e,n,ne,nf,d⟩:=I.pin p hp;refine⟨(hs.2 p.1 ?_).trans e,n,ne,nf,d⟩;intro q;rw [q,hoc] at e;have q':oc=p.2:=F7 e;exact d w' (by rw [<-q'];exact hocd)
theorem yt {M:iA}{A:T8}{E:G1->G3->Prop}{i:G8}{x:Str}{v:V}{u:G1}{Q:Unit->G3->Prop}(I:Inv X pins σ H s)(hN:X.N.Nodup)(hi:X.N[i]? =some x)(hx:Loc X.env.scope x)(r:RelV v u)
 (h: ∀s',Inv X pins (σ.set i (some v)) H s'->Q () s')(hf:X.fn x=true\/X.env.scope.names.lookup x=some .local:=by first|exact .inl rfl|exact .inr rfl|assumption):R4 M A (storeName X.env x u) Q E s:=
 Ph I hN hi hx r (λs' I' _=>h s' I') hf
theorem Inv.call' {s':G3}{ch:G0 G9}(I:Inv X pins σ H s)(ho:s'.os=s.os)(u:Un (frs X.stack) ch H H' s.heap s'.heap)(hok:HOk X.prog X.w H' s'.heap)(hg:fH s'.gens)
 (hch: ∀b∈ch,(b∈X.ex\/X.s₀.heap.objs.size<=b)/\b≠X.env.locals/\(∀x c,X.env.cells.lookup x=some c->c≠b)/\ ∀p∈X.pn++pins,p.1≠b):Inv X pins σ H' s':=by
 obtain⟨h',g',d',t',o'⟩:=s';have e:o'=s.os:=ho;subst e;exact I.call (g':=g') (t':=t') (d':=d') u hok hg hch
end
abbrev XK:=G1->P8 G9->Hp->Prop
abbrev St:=G0 (P8 V)
abbrev VK:=V->Hp->Prop
abbrev TE:=St->Hp->VK->Prop
abbrev TT:=St->Hp->(N4->Hp->Prop)->Prop
abbrev TA:=St->Hp->(G0 V->Hp->Prop)->Prop
structure Ends where
 nx:St->Hp->Prop
 rt:VK
 bk:St->Hp->Prop:=λ_ _=>False
 ct:St->Hp->Prop:=λ_ _=>False
abbrev TS:=Ends->St->Hp->Prop
def EP (X:Cx)(pins:G0 (G9×Obj))(σ:St)(Q:VK)(u:G1)(s':G3):Prop:= ∃v H',Inv X pins σ H' s'/\RelV v u/\Q v H'
def TP (X:Cx)(pins:G0 (G9×Obj))(σ:St)(Q:N4->Hp->Prop)(b:N4)(s':G3):Prop:= ∃H',Inv X pins σ H' s'/\Q b H'
def AP (X:Cx)(pins:G0 (G9×Obj))(σ:St)(Q:G0 V->Hp->Prop)(us:G0 G1)(s':G3):Prop:= ∃vs H',Inv X pins σ H' s'/\Vals vs us/\Q vs H'
def SP (X:Cx)(pins:G0 (G9×Obj))(D:Ends)(f:Flow)(s':G3):Prop:=
 match f with
 | .next=> ∃xC H',Inv X pins xC H' s'/\D.nx xC H'
 | .brk=> ∃xC H',Inv X pins xC H' s'/\D.bk xC H'
 | .cont=> ∃xC H',Inv X pins xC H' s'/\D.ct xC H'
 | .ret u=> ∃v xC H',Inv X pins xC H' s'/\RelV v u/\D.rt v H'
def PE (X:Cx)(e:T1)(t:TE):Prop:=
 ∀ (pins:G0 (G9×Obj)) (s:G3) (σ:St) (H:Hp) (Q:VK),Inv X pins σ H s->t σ H Q->R4 (S4 X.prog X.w) X.A (A7 e X.env) (EP X pins σ Q) X.xe s
def PT (X:Cx)(e:T1)(t:TT):Prop:=
 ∀ (pins:G0 (G9×Obj)) (s:G3) (σ:St) (H:Hp) (Q:N4->Hp->Prop),Inv X pins σ H s->t σ H Q->R4 (S4 X.prog X.w) X.A (isTrue e X.env (A7 e X.env)) (TP X pins σ Q) X.xe s
def PW (X:Cx)(e:T1)(t:TT):Prop:=
 ∀ (whole:Sem G1) (pins:G0 (G9×Obj)) (s:G3) (σ:St) (H:Hp) (Q:N4->Hp->Prop),Inv X pins σ H s->t σ H Q->R4 (S4 X.prog X.w) X.A (isTrue e X.env whole) (TP X pins σ Q) X.xe s
variable {X:Cx}
theorem PW.pt {e:T1}{t:TT}(h:PW X e t):PT X e t:=h _
def PA (X:Cx)(es:G0 T1)(t:TA):Prop:=
 ∀ (pos:Pos) (pins:G0 (G9×Obj)) (s:G3) (σ:St) (H:Hp) (Q:G0 V->Hp->Prop),Inv X pins σ H s->t σ H Q->R4 (S4 X.prog X.w) X.A (spliced (K0 pos (D7 es X.env))) (AP X pins σ Q) X.xe s
def PS (X:Cx)(st:O3)(t:TS):Prop:=
 ∀ (pins:G0 (G9×Obj)) (s:G3) (σ:St) (H:Hp) (D:Ends),Inv X pins σ H s->t D σ H->R4 (S4 X.prog X.w) X.A (exec st X.env) (SP X pins D) X.xe s
def PSs (X:Cx)(st:G0 O3)(t:TS):Prop:=
 ∀ (pins:G0 (G9×Obj)) (s:G3) (σ:St) (H:Hp) (D:Ends),Inv X pins σ H s->t D σ H->R4 (S4 X.prog X.w) X.A (execs st X.env) (SP X pins D) X.xe s
variable {A:T8}{s:G3}
theorem thn {α:Type}{t:Sem α}{Q Q':α->G3->Prop}{M:iA}{E:G1->G3->Prop}(h:R4 M A t Q E s)(hQ: ∀a s,Q a s->Q' a s):R4 M A t Q' E s:=T3 h hQ λ_ _ x=>x
section
variable {X:Cx}
def Sg (i:G8):TE:=λσ H Q=> ∃v,σ[i]? =some (some v)/\Q v H
def tC (v:V):TE:=λ_ H Q=>Q v H
variable {x:Str}
theorem FF {i:G8}{pos:Pos}(hN:X.N[i]? =some x)(hv:Vis X.env.scope x)(hd:(x==("__debug__" :Str))=false:=by decide)(hcd:(x==("__classdict__" :Str))=false:=by decide):PE X (.Name x pos) (Sg i):=by
 intro pins s σ H Q I h;obtain⟨v,e,h⟩:=h;obtain⟨m,hn,hl⟩:=I.loc;obtain⟨u,r,l⟩:=hl i x v hN e hv;have fin:EP X pins σ Q u s:=⟨v,H,I,r,h⟩;rcases l with ⟨hk,hm⟩|⟨hk,c,hc,hcell⟩
 ·exact mN (lA I.ok.kind hk hn hm fin) hd
 ·rcases hk with hk|hk
  ·exact mN (wpAny_loadName_cell I.ok.kind hk hc hcell fin) hd
  ·exact mN (wpAny_loadName_free I.ok.kind hk hc hcell fin hcd) hd
theorem pe_int {i j pos}:PE X (.Constant (.int i) j pos) (tC (.int i)):=λ_ _ _ H _ I h=>wpAny_Constant_int ⟨.int i,H,I.tok _,⟨_,rfl⟩,h⟩
theorem pe_bl {b j pos}:PE X (.Constant (.bool b) j pos) (tC (.bl b)):=λ_ _ _ H _ I h=>Constant_bool ⟨.bl b,H,I,rfl,h⟩
theorem pe_non {j pos}:PE X (.Constant .none j pos) (tC .non):=λ_ _ _ H _ I h=>Constant_none ⟨.non,H,I,rfl,h⟩
theorem pe_str {x j pos}:PE X (.Constant (.str x) j pos) (tC (.str x)):=λ_ _ _ H _ I h=>Calls.Constant_str ⟨.str x,H,I.tok _,⟨_,rfl⟩,h⟩
def Gl (X:Cx)(x:Str):Prop:=X.env.kindOf x=some .globalImplicit
variable {u:G1}
theorem Zb {E:G1->G3->Prop}{pins:G0 (G9×Obj)}{s:G3}{σ:St}{H:Hp}{pos:Pos}{Q:G1->G3->Prop}(I:Inv X pins σ H s)(hg:Gl X x)(hm:X.mg x=some u)(h:Q u s)
 (hd:(x==("__debug__" :Str))=false:=by decide):R4 (S4 X.prog X.w) X.A (A7 (.Name x pos) X.env) Q E s:=
 Calls.Name_function_global I.ok.kind hg (Calls.loadGlobal_global (by rw [I.ok.glob];exact I.mod.glob.keeps I.bk) hm h) hd
theorem Wg {E:G1->G3->Prop}{pins:G0 (G9×Obj)}{s:G3}{σ:St}{H:Hp}{pos:Pos}{Q:G1->G3->Prop}(I:Inv X pins σ H s)(hg:Gl X x)(hm:X.mg x=none)(hv:J9 x=some u)(h:Q u s)
 (hn:x≠ "__name__" :=by decide)(hd:(x==("__debug__" :Str))=false:=by decide):R4 (S4 X.prog X.w) X.A (A7 (.Name x pos) X.env) Q E s:=by
 obtain⟨mb,h1,h2⟩:=I.mod.blt;exact Calls.Name_function_global I.ok.kind hg (Calls.loadGlobal_builtin (by rw [I.ok.glob];exact I.mod.glob.keeps I.bk) hm (by rw [I.ok.blt];exact h1.keeps I.bk) ((h2 x hn).trans hv) h) hd
theorem Pi {v:V}{pos:Pos}(hg:Gl X x)(hm:X.mg x=some u)(r:RelV v u)(hd:(x==("__debug__" :Str))=false:=by decide):PE X (.Name x pos) (tC v):=
 λ_ _ _ H _ I h=>Zb I hg hm ⟨v,H,I,r,h⟩ hd
theorem Pj {v:V}{pos:Pos}(hg:Gl X x)(hm:X.mg x=none)(hv:J9 x=some u)(r:RelV v u)(hn:x≠ "__name__" :=by decide)(hd:(x==("__debug__" :Str))=false:=by decide):PE X (.Name x pos) (tC v):=
 λ_ _ _ H _ I h=>Wg I hg hm hv ⟨v,H,I,r,h⟩ hn hd
variable {a b:T1}{ta tb:TE}{pos:Pos}
def tB (t:TE):TT:=λσ H Q=>t σ H λx H1=> ∃c,x= .bl c/\Q c H1
theorem FG {e:T1}{t:TE}(h:PE X e t)(he: ∀whole,isTrue e X.env whole=(do let v <-whole;i8 e.pos;bW [v] (sU v)):=by intro _;rfl):PT X e (tB t):=by
 intro pins s σ H Q I hw;refine isTrue_plain (thn (h pins s σ H _ I hw) λv s1 ⟨x,H1,I1,r1,q1⟩=> ?_) (he _);obtain⟨d,rfl,q⟩:=q1;cases r1;exact A1 ⟨H1,I1,q⟩
variable {tA tB':TT}{rest:G0 T1}
def Sh (t u:TT):TT:=λσ H Q=>t σ H λc H1=>if c=true then u σ H1 Q else Q false H1
def tOr (t u:TT):TT:=λσ H Q=>t σ H λc H1=>if c=true then Q true H1 else u σ H1 Q
def Si (t:TT):TT:=λσ H Q=>t σ H λc H1=>Q (!c) H1
theorem NP (ha:PT X a tA):PW X (.BoolOp .And [a] pos) tA:=by
 intro wh pins s σ H Q I h;refine sV (thn (ha pins s σ H Q I h) λc s1 e=> ?_);cases c with
 |true=>exact isTrue_and_nil e
 |false=>exact e
theorem FH (ha:PT X a tA):PW X (.BoolOp .Or [a] pos) tA:=by
 intro wh pins s σ H Q I h;refine isTrue_or (thn (ha pins s σ H Q I h) λc s1 e=> ?_);cases c with
 |false=>exact isTrue_or_nil e
 |true=>exact e
theorem FI (ha:PT X a tA)(hb:PW X (.BoolOp .And (b::rest) pos) tB'):PW X (.BoolOp .And (a::b::rest) pos) (Sh tA tB'):=by
 intro wh pins s σ H Q I h;refine sV (thn (ha pins s σ H _ I h) λc s1 ⟨H1,I1,q1⟩=> ?_);cases c with
 |true=>exact hb wh pins s1 σ H1 Q I1 q1
 |false=>exact⟨H1,I1,q1⟩
theorem AE (ha:PT X a tA)(hb:PW X (.BoolOp .Or (b::rest) pos) tB'):PW X (.BoolOp .Or (a::b::rest) pos) (tOr tA tB'):=by
 intro wh pins s σ H Q I h;refine isTrue_or (thn (ha pins s σ H _ I h) λc s1 ⟨H1,I1,q1⟩=> ?_);cases c with
 |true=>exact⟨H1,I1,q1⟩
 |false=>exact hb wh pins s1 σ H1 Q I1 q1
theorem FJ (ha:PT X a tA):PT X (.UnaryOp .Not a pos) (Si tA):=by
 intro pins s σ H Q I h;exact isTrue_not (ha pins s σ H (λc H1=>Q (!c) H1) I h)
def FK (ta tb:TE):TE:=λσ H Q=>ta σ H λx H1=> ∃c,x= .bl c/\if c=true then tb σ H1 Q else Q (.bl false) H1
def Sj (ta tb:TE):TE:=λσ H Q=>ta σ H λx H1=> ∃c,x= .bl c/\if c=true then Q (.bl true) H1 else tb σ H1 Q
def FL (ta:TE):TE:=λσ H Q=>ta σ H λx H1=> ∃c,x= .bl c/\Q (.bl (!c)) H1
theorem FM {op}{t:TE}(h:PE X a t):PE X (.BoolOp op [a] pos) t:=λpins s σ H Q I hw=>BoolOp_one (h pins s σ H Q I hw)
theorem FN (ha:PE X a ta)(hb:PE X (.BoolOp .And (b::rest) pos) tb):PE X (.BoolOp .And (a::b::rest) pos) (FK ta tb):=by
 intro pins s σ H Q I h;refine BoolOp_and (thn (ha pins s σ H _ I h) λv s1 ⟨x,H1,I1,r1,q1⟩=> ?_);obtain⟨c,rfl,q1⟩:=q1;cases r1;refine A1 ?_;cases c with
 |true=>exact hb pins s1 σ H1 Q I1 q1
 |false=>exact⟨.bl false,H1,I1,rfl,q1⟩
theorem AF (ha:PE X a ta)(hb:PE X (.BoolOp .Or (b::rest) pos) tb):PE X (.BoolOp .Or (a::b::rest) pos) (Sj ta tb):=by
 intro pins s σ H Q I h;refine BoolOp_or (thn (ha pins s σ H _ I h) λv s1 ⟨x,H1,I1,r1,q1⟩=> ?_);obtain⟨c,rfl,q1⟩:=q1;cases r1;refine A1 ?_;cases c with
 |false=>exact hb pins s1 σ H1 Q I1 q1
 |true=>exact⟨.bl true,H1,I1,rfl,q1⟩
theorem FO (ha:PE X a ta):PE X (.UnaryOp .Not a pos) (FL ta):=by
 intro pins s σ H Q I h;refine UnaryOp_ (thn (ha pins s σ H _ I h) λv s1 ⟨x,H1,I1,r1,q1⟩=> ?_);obtain⟨c,rfl,q1⟩:=q1;cases r1;exact not_of (A1 ⟨.bl (!c),H1,I1,rfl,q1⟩)
def tIf (t:TT)(ta tb:TE):TE:=λσ H Q=>t σ H λc H1=>if c=true then ta σ H1 Q else tb σ H1 Q
theorem RI {c:T1}(hc:PT X c tA)(ha:PE X a ta)(hb:PE X b tb):PE X (.IfExp c a b pos) (tIf tA ta tb):=by
 intro pins s σ H Q I h;refine wpAny_IfExp (thn (hc pins s σ H _ I h) λd s1 ⟨H1,I1,q1⟩=> ?_);cases d with
 |true=>exact ha pins s1 σ H1 Q I1 q1
 |false=>exact hb pins s1 σ H1 Q I1 q1
end
def SqL (K:G2)(H:Hp)(a:G9)(xs:G0 V):Prop:=
 Rd H a (.lst xs)\/
  ∃ (o:Obj) (its:N0 G1) (n:G8),K.lookup a=some o/\o.cls= .type "list" /\o.dict=none/\o.data= .seq its n/\its.size<=sizeLine/\Vals xs its.toList
def SqT (K:G2)(H:Hp)(a:G9)(xs:G0 V):Prop:=
 Rd H a (.tup xs)\/
  ∃ (o:Obj) (its:N0 G1) (n:G8),K.lookup a=some o/\o.cls= .type "tuple" /\o.data= .seq its n/\its.size<=sizeLine/\Vals xs its.toList
def Tb:G1->P8 V
 | .none=>some .non
 | .bool b=>some (.bl b)
 | .int i _=>some (.int i)
 | .str x _=>some (.str x)
 | .bytes b _=>some (.byt b)
 | .float b _=>some (.flt b)
 | .ref a=>some (.ref a)
 | .type n=>some (.ty n)
 |_=>none
theorem RelV.abs {x:V}(r:RelV x u):Tb u=some x:=by
 cases x with
 |non=>cases r;rfl
 |bl _=>cases r;rfl
 |int _=>obtain⟨t,rfl⟩:=r;rfl
 |str _=>obtain⟨t,rfl⟩:=r;rfl
 |byt _=>obtain⟨t,rfl⟩:=r;rfl
 |flt _=>obtain⟨t,rfl⟩:=r;rfl
 |ref _=>cases r;rfl
 |ty _=>cases r;rfl
theorem RelV.inj {x y:V}(r:RelV x u)(q:RelV y u):x=y:=F7 (r.abs.symm.trans q.abs)
theorem Vals.inj: ∀ {xs ys:G0 V} {us:G0 G1},Vals xs us->Vals ys us->xs=ys
 |_,_,_,.nil,.nil=>rfl
 |_,_,_,.cons r t,.cons r' t'=>by rw [r.inj r',Vals.inj t t']
section
variable {X:Cx}{pins:G0 (G9×Obj)}{σ:St}{H:Hp}{s:G3}{a:G9}{xs ys:G0 V}
theorem SqL.of {K:G2}(h:H a=some (.lst xs)):SqL K H a xs:= .inl (.inl h)
theorem SqT.of {K:G2}(h:H a=some (.tup xs)):SqT K H a xs:= .inl (.inl h)
theorem Inv.list (I:Inv X pins σ H s)(h:SqL X.K H a xs): ∃its:G0 G1,Vals xs its/\PlainL s.heap a its.toArray/\xs.length<=sizeLine:=by
 rcases h with h|⟨o,its,n,hk,hc,hd,hs,hz,r⟩
 ·obtain⟨z,its,n,r,e⟩:=h.ok I.hok;exact⟨its,r,⟨_,n,e,rfl,rfl,rfl⟩,z⟩
 ·refine⟨its.toList,r,⟨o,n,I.kIn a o hk,hc,hd,by simpa using hs⟩,?_⟩;have e:=r.length;simp only [C7] at e;omega
theorem Inv.tuple (I:Inv X pins σ H s)(h:SqT X.K H a xs): ∃its:G0 G1,Vals xs its/\mU s.heap a its.toArray/\xs.length<=sizeLine:=by
 rcases h with h|⟨o,its,n,hk,hc,hs,hz,r⟩
 ·obtain⟨z,its,r,p⟩:=h.ok I.hok;exact⟨its,r,p.tup,z⟩
 ·refine⟨its.toList,r,⟨o,I.kIn a o hk,hc,n,by simpa using hs⟩,?_⟩;have e:=r.length;simp only [C7] at e;omega
theorem Inv.list_inj (I:Inv X pins σ H s)(h:SqL X.K H a xs)(h':SqL X.K H a ys):xs=ys:=by
 obtain⟨its,r,⟨o,n,e,_,_,d⟩,_⟩:=I.list h;obtain⟨its',r',⟨o',n',e',_,_,d'⟩,_⟩:=I.list h';rw [e] at e';cases e';rw [d] at d';injection d' with d1 _
 have:its=its':=by simpa using congrArg mV d1
 subst this;exact r.inj r'
theorem Inv.tuple_inj (I:Inv X pins σ H s)(h:SqT X.K H a xs)(h':SqT X.K H a ys):xs=ys:=by
 obtain⟨its,r,⟨o,e,_,n,d⟩,_⟩:=I.tuple h;obtain⟨its',r',⟨o',e',_,n',d'⟩,_⟩:=I.tuple h';rw [e] at e';cases e';rw [d] at d';injection d' with d1 _
 have:its=its':=by simpa using congrArg mV d1
 subst this;exact r.inj r'
end
abbrev Cx.wish (X:Cx)(E:G1->G3->Prop):Cx:= {X with xe:=E}
abbrev Cx.nox (X:Cx):Cx:=X.wish λ_ _=>False
theorem Cx.Ok.wish (ok:X.Ok)(E:G1->G3->Prop):(X.wish E).Ok:=
 ⟨ok.mod,ok.kind,ok.glob,ok.blt,ok.above,ok.inj,ok.has,ok.cab,ok.hd,ok.frames,ok.stk,ok.exf,ok.bs,ok.bsz,ok.noex,ok.exfs,ok.funs,ok.frf⟩
theorem Cx.Ok.unwish {E:G1->G3->Prop}(ok:(X.wish E).Ok):X.Ok:=
 ⟨ok.mod,ok.kind,ok.glob,ok.blt,ok.above,ok.inj,ok.has,ok.cab,ok.hd,ok.frames,ok.stk,ok.exf,ok.bs,ok.bsz,ok.noex,ok.exfs,ok.funs,ok.frf⟩
section
variable {X:Cx}{pins:G0 (G9×Obj)}{σ:St}{H:Hp}{s:G3}{E:G1->G3->Prop}
theorem Inv.wish (I:Inv X pins σ H s)(E:G1->G3->Prop):Inv (X.wish E) pins σ H s:=⟨I.ok.wish E,I.os,I.bare,I.base,I.loc,I.cell,I.free,I.freeC,I.pin,I.hok,I.len⟩
theorem Inv.unwish (I:Inv (X.wish E) pins σ H s):Inv X pins σ H s:=⟨I.ok.unwish,I.os,I.bare,I.base,I.loc,I.cell,I.free,I.freeC,I.pin,I.hok,I.len⟩
theorem SP.unwish {D:Ends}{f:Flow}{s':G3}(h:SP (X.wish E) pins D f s'):SP X pins D f s':=by
 cases f with
 |next=>obtain⟨xC,H',I,q⟩:=h;exact⟨xC,H',I.unwish,q⟩
 |brk=>obtain⟨xC,H',I,q⟩:=h;exact⟨xC,H',I.unwish,q⟩
 |cont=>obtain⟨xC,H',I,q⟩:=h;exact⟨xC,H',I.unwish,q⟩
 |ret u=>obtain⟨v,xC,H',I,r,q⟩:=h;exact⟨v,xC,H',I.unwish,r,q⟩
theorem PSs.nox {st:G0 O3}{t:TS}(h:PSs X.nox st t):PSs X st t:=λpins s σ H D I hw=>
 T3 (h pins s σ H D (I.wish _) hw) (λ_ _ q=>q.unwish) λ_ _ z=>False.elim z
end
section
variable {X:Cx}{st:O3}{rest:G0 O3}{t u:TS}{e:T1}{te:TE}{pos:Pos}
def FP:TS:=λD σ H=>D.nx σ H
def Sk (t u:TS):TS:=λD σ H=>t {D with nx:=u D} σ H
theorem pss_nil:PSs X [] FP:=λ_ _ σ H _ I h=>bX ⟨σ,H,I,h⟩
theorem RJ (h1:PS X st t)(h2:PSs X rest u):PSs X (st::rest) (Sk t u):=by
 intro pins s σ H D I h;refine W6 (thn (h1 pins s σ H {D with nx:=u D} I h) λf s1 q=> ?_);cases f with
 |next=>
  obtain⟨xC,H',I',q⟩:=q;exact h2 pins s1 xC H' D I' q
 |ret v=>exact q
 |brk=>exact q
 |cont=>exact q
theorem NQ (h1:PS X st t):PSs X [st] t:=by
 intro pins s σ H D I h;refine W6 (thn (h1 pins s σ H D I h) λf s1 q=> ?_);cases f with
 |next=>exact bX q
 |ret v=>exact q
 |brk=>exact q
 |cont=>exact q
theorem Inv.quiet {pins:G0 (G9×Obj)}{σ:St}{H:Hp}{s:G3}(I:Inv X pins σ H s):sE X.env=false:=by simp [sE,I.ok.kind]
def FQ (te:TE):TS:=λD σ H=>te σ H λ_ H1=>D.nx σ H1
theorem NR (he:PE X e te)(hs:Z0 e none pos.line X.env=pure false:=by rfl):PS X (.Expr e pos) (FQ te):=by
 intro pins s σ H D I h;exact pM (thn (he pins s σ H _ I h) λv s1 ⟨x,H1,I1,r1,q1⟩=>⟨σ,H1,I1,q1⟩) I.quiet hs
def Sl (te:TE):TS:=λD σ H=>te σ H D.rt
theorem FR (he:PE X e te):PS X (.Return (some e) pos) (Sl te):=by
 intro pins s σ H D I h;exact wpAny_Return_some (thn (he pins s σ H _ I h) λv s1 ⟨x,H1,I1,r1,q1⟩=>⟨x,σ,H1,I1,r1,q1⟩)
def Sm (c:TT)(t u:TS):TS:=λD σ H=>c σ H λb H1=>if b=true then t D σ H1 else u D σ H1
theorem AG {c:T1}{a b:G0 O3}{tc:TT}(hc:PT X c tc)(ha:PSs X a t)(hb:PSs X b u):PS X (.If c a b pos) (Sm tc t u):=by
 intro pins s σ H D I h;refine wpAny_If (thn (hc pins s σ H _ I h) λd s1 ⟨H1,I1,q1⟩=> ?_);cases d with
 |true=>exact ha pins s1 σ H1 D I1 q1
 |false=>exact hb pins s1 σ H1 D I1 q1
end
abbrev TG:=V->St->Hp->(St->Hp->Prop)->Prop
abbrev TGs:=G0 V->St->Hp->(St->Hp->Prop)->Prop
def PG (X:Cx)(target:T1)(t:TG):Prop:=
 ∀ (pins:G0 (G9×Obj)) (s:G3) (σ:St) (H:Hp) (v:V) (u:G1) (Q:St->Hp->Prop),Inv X pins σ H s->RelV v u->t v σ H Q->
  R4 (S4 X.prog X.w) X.A (eJ target X.env u) (λ_ s'=> ∃xC H',Inv X pins xC H' s'/\Q xC H') X.xe s
def PGs (X:Cx)(ts:G0 T1)(t:TGs):Prop:=
 ∀ (pins:G0 (G9×Obj)) (s:G3) (σ:St) (H:Hp) (vs:G0 V) (us:G0 G1) (Q:St->Hp->Prop),Inv X pins σ H s->Vals vs us->t vs σ H Q->
  R4 (S4 X.prog X.w) X.A (mD ((cE ts X.env).map (·.2)) us) (λ_ s'=> ∃xC H',Inv X pins xC H' s'/\Q xC H') X.xe s
abbrev AH:=V->V->V->Hp->(Hp->Prop)->Prop
def Sn (X:Cx)(t:AH):Prop:=
 ∀ (pins:G0 (G9×Obj)) (s:G3) (σ:St) (H:Hp) (o i v:V) (ov iv u:G1) (Q:Hp->Prop),Inv X pins σ H s->RelV o ov->RelV i iv->RelV v u->t o i v H Q->
  R4 (S4 X.prog X.w) X.A (rK ov iv u) (λ_ s'=> ∃H',Inv X pins σ H' s'/\Q H') X.xe s
section
variable {X:Cx}{pos:Pos}
def wQ (i:G8):TG:=λv σ H Q=>Q (σ.set i (some v)) H
theorem yu {i:G8}{x:Str}(hN:X.N.Nodup)(hi:X.N[i]? =some x)(hx:Loc X.env.scope x)(hf:X.fn x=true\/X.env.scope.names.lookup x=some .local:=by first|exact .inl rfl|exact .inr rfl|assumption):PG X (.Name x pos) (wQ i):=by
 intro pins s σ H v u Q I r h;exact wpAny_assign_Name (yt I hN hi hx r (λs' I'=>⟨_,H,I',h⟩) hf)
def Fr:TGs:=λvs σ H Q=>vs= []/\Q σ H
def ZJ (t:TG)(u:TGs):TGs:=λvs σ H Q=> ∃v r,vs=v::r/\t v σ H λxC H'=>u r xC H' Q
theorem Vg:PGs X [] Fr:=by
 intro pins s σ H vs us Q I r h;obtain⟨e,h⟩:=h;subst e;cases r;exact mW ⟨σ,H,I,h⟩
theorem wf {e:T1}{es:G0 T1}{t:TG}{u:TGs}(h1:PG X e t)(h2:PGs X es u)
 (hs:(cE (e::es) X.env).map (·.2)=eJ e X.env::(cE es X.env).map (·.2):=by rfl):PGs X (e::es) (ZJ t u):=by
 intro pins s σ H vs us Q I r h;obtain⟨v,vr,e1,h⟩:=h;subst e1;cases r with
 |cons r rr=>
  rw [hs];refine fQ (thn (h1 pins s σ H _ _ _ I r h) λ_ s1 ⟨xY,H1,I1,q1⟩=> ?_);exact h2 pins s1 xY H1 _ _ Q I1 rr q1
def Fs (K:G2)(n:G8)(t:TGs):TG:=λv σ H Q=> ∃a xs,v= .ref a/\SqT K H a xs/\xs.length=n/\t xs σ H Q
theorem Qq {es:G0 T1}{k:G8}{t:TGs}{n:G8}(hc:X.calm=true)(h:PGs X es t)
 (hn:(cE es X.env).length=n:=by rfl)(hst:(cE es X.env).findIdx? (·.1)=none:=by rfl):PG X (.Tuple es k pos) (Fs X.K n t):=by
 intro pins s σ H v u Q I r hw;obtain⟨a,xs,e1,hq,hl,hw⟩:=hw;subst e1;cases r;obtain⟨its,rv,ht,hz⟩:=I.tuple hq;refine assign_Tuple_tuple (I.ok.hd hc) ht (by simp [hn,<-hl,rv.length]) hst λh' hx=> ?_
 have I1:Inv X pins σ H {s with heap:=h'}:=I.kept (t':=s.toks) λb o e=>hx b o (T5 (D8 e)) e
 exact h pins _ σ H xs _ Q I1 (by simpa using rv) hw
def Tc (to ti:TE)(t:AH):TG:=λv σ H Q=>to σ H λo H1=>ti σ H1 λi H2=>t o i v H2 λH3=>Q σ H3
theorem FS {o i:T1}{to ti:TE}{t:AH}(ho:PE X o to)(hi:PE X i ti)(hs:Sn X t)
 (ha: ∀v,eJ (.Subscript o i pos) X.env v=(do
  let ov <-bW [v] (A7 o X.env)
  let iv <-bW [v,ov] (A7 i X.env)
  i8 pos
  bW [v,ov,iv] (rK ov iv v)
  tZ [v,ov,iv] []):=by intro _;rfl):PG X (.Subscript o i pos) (Tc to ti t):=by
 intro pins s σ H v u Q I r h;rw [ha];refine wpAny_bind (E3 (thn (ho pins s σ H _ I h) λov s1 ⟨x,H1,I1,r1,q1⟩=> ?_));refine wpAny_bind (E3 (thn (hi pins s1 σ H1 _ I1 q1) λiv s2 ⟨y,H2,I2,r2,q2⟩=> ?_));refine wpAny_bind (bM (wpAny_bind (E3 (thn (hs pins s2 σ H2 x y v ov iv u _ I2 r1 r2 r q2) λ_ s3 ⟨H3,I3,q3⟩=> ?_))));exact wpAny_release ⟨σ,H3,I3,q3⟩
def NS (te:TE)(g:TG):TS:=λD σ H=>te σ H λx H1=>g x σ H1 D.nx
theorem FT {tg e:T1}{te:TE}{g:TG}(he:PE X e te)(hg:PG X tg g)(hs:bO [tg] e pos.line X.env=pure false:=by rfl)(hw:bP [tg] e X.env=pure none:=by rfl)
 (h1:(cE [tg] X.env).map (·.2)= [eJ tg X.env]:=by rfl):PS X (.Assign [tg] e pos) (NS te g):=by
 intro pins s σ H D I h;refine wpAny_Assign_stores (thn (he pins s σ H _ I h) λv s1 ⟨x,H1,I1,r1,q1⟩=> ?_) hs hw;rw [h1];exact thn (hg pins s1 σ H1 x v _ I1 r1 q1) λ_ s2 q=>q
theorem FU {i:G8}{x:Str}{e:T1}{te:TE}{pos':Pos}(hN:X.N.Nodup)(hi:X.N[i]? =some x)(hx:Loc X.env.scope x)(he:PE X e te)(hs:Z0 e (some (.Name x pos')) pos.line X.env=pure false:=by rfl)(hf:X.fn x=true\/X.env.scope.names.lookup x=some .local:=by first|exact .inl rfl|exact .inr rfl|assumption):
 PS X (.Assign [.Name x pos'] e pos) (NS te (wQ i)):=by
 intro pins s σ H D I h;refine mX (thn (he pins s σ H _ I h) λv s1 ⟨y,H1,I1,r1,q1⟩=> ?_) hs;exact yt I1 hN hi hx r1 (λs2 I2=>⟨_,H1,I2,q1⟩) hf
def So (i j:G8)(ta:TA):TS:=λD σ H=>ta σ H λvs H1=> ∃v w,vs= [v,w]/\D.nx ((σ.set i (some v)).set j (some w)) H1
theorem FV {i j:G8}{x y:Str}{a b:T1}{ta:TA}{px py pt:Pos}{kt k2 pt2}(hc:X.calm=true)(hN:X.N.Nodup)(hi:X.N[i]? =some x)(hj:X.N[j]? =some y)(hij:i≠j)
 (hx:X.env.scope.names.lookup x=some .local)(hy:X.env.scope.names.lookup y=some .local)(ha:PA X [a,b] ta)
 (hw:bP [.Tuple [.Name x px,.Name y py] kt pt] (.Tuple [a,b] k2 pt2) X.env=pure (some [x,y]))
 (hs:bO [.Tuple [.Name x px,.Name y py] kt pt] (.Tuple [a,b] k2 pt2) pos.line X.env=pure false:=by rfl):
 PS X (.Assign [.Tuple [.Name x px,.Name y py] kt pt] (.Tuple [a,b] k2 pt2) pos) (So i j ta):=by
 intro pins s σ H D I h;rw [exec_Assign_arm];refine wpAny_bind (bM ?_);rw [hs];refine wpAny_bind (P5 ?_);rw [S3 (by decide)];refine wpAny_bind (Tuple_ (thn (ha _ pins s σ H _ I h) λus s1 ⟨vs,H1,I1,r1,q1⟩=> ?_));obtain⟨v,w,e1,q1⟩:=q1;subst e1;obtain⟨u1,u2,rfl,rv,rw'⟩: ∃u1 u2,us= [u1,u2]/\RelV v u1/\RelV w u2:=by
  cases r1 with
  |cons p q=>
   cases q with
   |cons p' q'=>
    cases q';exact⟨_,_,rfl,p,p'⟩
 refine E9 ?_ (by show 2<=sizeLine;decide);have I2:Inv X pins σ H1 {s1 with heap:=s1.heap.push {cls:= .type "tuple",data:= .seq [u1,u2].toArray}}:=I1.kept (t':=s1.toks) λb o e=>G6 _ e
 rw [hw];refine wpAny_bind (P5 ?_);show R4 (S4 X.prog X.w) X.A (do rule "assign.swapped-stores";let items <-unpackItems (.ref s1.heap.objs.size) 2 none;mD [λv=>pN X.env y v,λv=>pN X.env x v] items.reverse;pure Flow.next) _ _ _;refine wpAny_bind (dN (wpAny_bind (unpackItems_tuple (items:= #[u1,u2]) (I.ok.hd hc) (IsTup.new s1.heap _) λh' hx'=> ?_)));have I3:=I2.kept (h':=h') (t':=s1.toks) λb o e=>hx' b o (T5 (D8 e)) e
 show R4 _ _ (mD [λv=>pN X.env y v,λv=>pN X.env x v] [u2,u1] >>= λ_=>pure Flow.next) _ _ _;refine wpAny_bind (fQ (lC (yt I3 hN hj (.inl hy) rw' (λs2 I4=> ?_) (.inr hy))));refine fQ (lC (yt I4 hN hi (.inl hx) rv (λs3 I5=>mW (P5 ?_)) (.inr hx)));rw [List.set_comm _ _ (K6 hij)] at I5;exact⟨_,H1,I5,q1⟩
end
structure It where
 go:G8->Hp->Prop
 yld:G8->Hp->V->Hp->Prop
 stop:G8->Hp->Prop
def Pb (X:Cx)(pins:G0 (G9×Obj))(H:Hp)(b:G9):Prop:=
 H b=none/\b≠X.env.locals/\b ∉ X.fs/\(b∈X.ex\/X.s₀.heap.objs.size<=b)/\(∀x c,X.env.cells.lookup x=some c->c≠b)/\ ∀p∈X.pn++pins,p.1≠b
theorem Inv.fpOk {pins:G0 (G9×Obj)}{σ:St}{H':Hp}(I:Inv X pins σ H s)(hb:s.heap.objs.size<=b)(hn:H' b=none):Pb X pins H' b:=by
 refine⟨hn,U7 (S7 I.lt hb),I.nofs hb,.inr (T6 I.sz hb),λx c e z=> ?_,λp hp z=> ?_⟩
 ·obtain⟨v,q⟩:=I.cell x c e;exact absurd (S7 q.lt (by rw [z];exact hb)) (L0 _)
 ·exact absurd (S7 (D8 (I.pin p hp).1) (by rw [z];exact hb)) (L0 _)
structure Turn (P:S0)(w:N8)(K:G2)(tg:T1)(J:It)(fp:G0 G9)(it:G9)(tn:G8->N9->Prop):Prop where
 mem:it∈fp
 obj: ∀i h,tn i h-> ∀b∈fp,∃o,h.get? b=some o/\ ∀v,o.data≠ .cell v
 keep: ∀i h h',tn i h->(∀b∈fp,∀o,h.get? b=some o->h'.get? b=some o)->tn i h'
 item: ∀ (X:Cx),X.prog=P->X.w=w->X.K=K->X.calm=true-> ∀ (i:G8) (pins:G0 (G9×Obj)) (s:G3) (σ:St) (H:Hp) (E:G1->G3->Prop),Inv X pins σ H s->(∀b∈fp,Pb X pins H b)->tn i s.heap->J.go i H->
  R4 (S4 P w) X.A (pO (.ref it)) (λr s1=> ∃u,r=some u/\
   R4 (S4 P w) X.A (X6 tg (.ref it) u) (λ_ s2=> ∃x H',Inv X pins σ H' s2/\RelV x u/\J.yld i H x H'/\tn (i+1) s2.heap/\ ∀b∈fp,H' b=none) E s1) E s
 done: ∀ (X:Cx),X.prog=P->X.w=w->X.K=K->X.calm=true-> ∀ (i:G8) (pins:G0 (G9×Obj)) (s:G3) (σ:St) (H:Hp) (E:G1->G3->Prop),Inv X pins σ H s->(∀b∈fp,Pb X pins H b)->tn i s.heap->J.stop i H->
  R4 (S4 P w) X.A (pO (.ref it)) (λr s1=>r=none/\Inv X pins σ H s1) E s
 self: ∀ (A:T8) (i:G8) (s:G3) (Q:G1->G3->Prop) (E:G1->G3->Prop),tn i s.heap->Q (.ref it) s->R4 (S4 P w) A (pQ (.ref it)) Q E s
abbrev TI:=St->Hp->(It->Hp->Prop)->Prop
def PIE (X:Cx)(pins:G0 (G9×Obj))(σ:St)(tg:T1)(R:It->Hp->Prop)(itv:G1)(s2:G3):Prop:=
 ∃ (it:G9) (fp:G0 G9) (tn:G8->N9->Prop) (J:It) (H':Hp),itv= .ref it/\Inv X pins σ H' s2/\Turn X.prog X.w X.K tg J fp it tn/\tn 0 s2.heap/\(∀b∈fp,Pb X pins H' b)/\R J H'
def PI (X:Cx)(tg iter:T1)(wi:TI):Prop:=
 ∀ (pins:G0 (G9×Obj)) (s:G3) (σ:St) (H:Hp) (R:It->Hp->Prop),Inv X pins σ H s->wi σ H R->
  R4 (S4 X.prog X.w) X.A (A7 iter X.env) (λv s1=>R4 (S4 X.prog X.w) X.A (pQ v) (PIE X pins σ tg R) X.xe s1) X.xe s
variable {tg:T1}
theorem NT {M : iA} {E : G1 → G3 → Prop} {it : G9} {o : Obj} {n : Q4} {vs : N0 G1} {Q : Unit → G3 → Prop} (ho : s.heap.get? it = some o) (hc : o.cls = .type n) (hd : o.data = .fields vs)
    (hn : ["enumerate", "zip", "dict_itemiterator", "dict_reverseitemiterator", "odict_iterator", "itertools.zip_longest", "itertools.pairwise"].contains n = false) (hQ : Q () s) : R4 M A (X6 tg (.ref it) u) Q E s := by
  unfold X6
  cases tg <;> first
    | exact P5 hQ
    | (cases u <;> first
        | exact P5 hQ
        | (refine wpAny_bind (sW ho ?_)
           rw [hc, hd]
           show R4 M A (if (["enumerate", "zip", "dict_itemiterator", "dict_reverseitemiterator", "odict_iterator", "itertools.zip_longest", "itertools.pairwise"].contains n && vs[0]? == some (bH _)) = true then _ else _) Q E s
           rw [S3 (by intro h; rw [hn, T0] at h; cases h)]
           exact P5 hQ))
def Itl (K:G2)(a:G9):It:=
 ⟨λi H=> ∃xs x,SqL K H a xs/\xs[i]? =some x,λi H x H'=>H'=H/\ ∀xs,SqL K H a xs->xs[i]? =some x,λi H=> ∃xs,SqL K H a xs/\xs.length<=i⟩
def Itt (K:G2)(a:G9):It:=
 ⟨λi H=> ∃xs x,SqT K H a xs/\xs[i]? =some x,λi H x H'=>H'=H/\ ∀xs,SqT K H a xs->xs[i]? =some x,λi H=> ∃xs,SqT K H a xs/\xs.length<=i⟩
def Itr (lo:P0)(n:G8):It:=⟨λi _=>i<n,λi H x H'=>H'=H/\x= .int (lo+i),λi _=>n<=i⟩
variable {K:G2}
theorem Uj (a it:G9):Turn P w K tg (Itl K a) [it] it (λi h=>h.IsListIter it a i) where
 mem:=by simp
 obj:=λi h st b hb=>by
  have e:b=it:=by simpa using hb
  subst e;obtain⟨o,e,c,d⟩:=st;exact⟨o,e,λv z=>by rw [d] at z;cases z⟩
 keep:=λi h h' st k=>st.at λo e=>k it (by simp) o e
 item:=by
  intro X hP hw hK hc i pins s σ H E I hf st hg;subst hP hw hK;obtain⟨xs,x,hq,hx⟩:=hg;obtain⟨its,rv,p,hz⟩:=I.list hq;obtain⟨u,hu,ru⟩:=rv.get hx;obtain⟨f0,f1,f2,f3,f4,f5⟩:=hf it (by simp);refine wpAny_pyNext_list_item st p.isList (x:=u) (by simpa using hu) λh' st' sb=> ?_
  have I1:Inv X pins σ H {s with heap:=h'}:=I.turned (t':=s.toks) (λb o hb e=>(sb.2 b hb).trans e) f0 f1 f3 f4 f5;obtain⟨o,e,c,d⟩:=id st';exact⟨u,rfl,NT (s:= {s with heap:=h'}) e c d (by decide) ⟨x,H,I1,ru,⟨rfl,λys hy=>by rw [I.list_inj hy hq];exact hx⟩,st',λb hb=>(hf b hb).1⟩⟩
 done:=by
  intro X hP hw hK hc i pins s σ H E I hf st hg;subst hP hw hK;obtain⟨xs,hq,hx⟩:=hg;obtain⟨its,rv,p,hz⟩:=I.list hq;obtain⟨f0,f1,f2,f3,f4,f5⟩:=hf it (by simp);have hl:=rv.length;exact wpAny_pyNext_list_end (I.ok.hd hc) st p.isList (by simp;omega) λh' eb=>⟨rfl,I.turned (t':=s.toks) (λb o hb e=>eb b o hb e) f0 f1 f3 f4 f5⟩
 self:=λ_ _ _ _ _ st h=>wpAny_pyIter_listiter st h
theorem Gk (a it:G9):Turn P w K tg (Itt K a) [it] it (λi h=>h.IsTupleIter it a i) where
 mem:=by simp
 obj:=λi h st b hb=>by
  have e:b=it:=by simpa using hb
  subst e;obtain⟨o,e,c,d⟩:=st;exact⟨o,e,λv z=>by rw [d] at z;cases z⟩
 keep:=λi h h' st k=>st.at λo e=>k it (by simp) o e
 item:=by
  intro X hP hw hK hc i pins s σ H E I hf st hg;subst hP hw hK;obtain⟨xs,x,hq,hx⟩:=hg;obtain⟨its,rv,p,hz⟩:=I.tuple hq;obtain⟨u,hu,ru⟩:=rv.get hx;obtain⟨f0,f1,f2,f3,f4,f5⟩:=hf it (by simp);refine wpAny_pyNext_tuple_item st (show s.heap.IsTuple a its.toArray from p) (x:=u) (by simpa using hu) λh' st' sb=> ?_
  have I1:Inv X pins σ H {s with heap:=h'}:=I.turned (t':=s.toks) (λb o hb e=>(sb.2 b hb).trans e) f0 f1 f3 f4 f5;obtain⟨o,e,c,d⟩:=id st';exact⟨u,rfl,NT (s:= {s with heap:=h'}) e c d (by decide) ⟨x,H,I1,ru,⟨rfl,λys hy=>by rw [I.tuple_inj hy hq];exact hx⟩,st',λb hb=>(hf b hb).1⟩⟩
 done:=by
  intro X hP hw hK hc i pins s σ H E I hf st hg;subst hP hw hK;obtain⟨xs,hq,hx⟩:=hg;obtain⟨its,rv,p,hz⟩:=I.tuple hq;obtain⟨f0,f1,f2,f3,f4,f5⟩:=hf it (by simp);have hl:=rv.length;exact wpAny_pyNext_tuple_end (I.ok.hd hc) st (show s.heap.IsTuple a its.toArray from p) (by simp;omega) λh' eb=>⟨rfl,I.turned (t':=s.toks) (λb o hb e=>eb b o hb e) f0 f1 f3 f4 f5⟩
 self:=λ_ _ _ _ _ st h=>wpAny_pyIter_tupleiter st h
theorem Gm (it:G9)(lo:P0)(n:G8):Turn P w K tg (Itr lo n) [it] it (λi h=>sF h it (lo+(i:G8)*1) ((n:P0)-(i:G8)) 1) where
 mem:=by simp
 obj:=λi h st b hb=>by
  have e:b=it:=by simpa using hb
  subst e;exact⟨_,st,λv z=>by
   have z':Data.fields _=Data.cell v:=z;cases z'⟩
 keep:=λi h h' st k=>k it (by simp) _ st
 item:=by
  intro X hP hw hK hc i pins s σ H E I hf st hg;subst hP hw hK;obtain⟨f0,f1,f2,f3,f4,f5⟩:=hf it (by simp);have W:=Walks.range (prog:=X.prog) (w:=X.w) (I.ok.hd hc) it lo 1 n;refine W.item i s _ _ hg st λv h' tk hv st' kk=> ?_
  obtain⟨t,rfl⟩:=hv;have I1:Inv X pins σ H {s with heap:=h',toks:=tk}:=I.turned (λb o hb e=>kk b o (by simpa using hb) e) f0 f1 f3 f4 f5;refine⟨_,rfl,NT (s:= {s with heap:=h',toks:=tk}) (n:= "range_iterator") st' rfl rfl (by decide) ⟨.int (lo+i),H,I1,⟨t,?_⟩,⟨rfl,rfl⟩,st',λb hb=>(hf b hb).1⟩⟩;rw [Int.mul_one]
 done:=by
  intro X hP hw hK hc i pins s σ H E I hf st hg;subst hP hw hK;obtain⟨f0,f1,f2,f3,f4,f5⟩:=hf it (by simp);exact wpAny_pyNext_range_end (I.ok.hd hc) st (by have:n<=i:=hg;omega) λh' eb=>⟨rfl,I.turned (t':=s.toks) (λb o hb e=>eb b o hb e) f0 f1 f3 f4 f5⟩
 self:=λ_ _ _ _ _ st h=>wpAny_pyIter_rangeiter st h
section
variable {X:Cx}{tg:T1}
def FW (K:G2)(tl:TE):TI:=λσ H R=>tl σ H λx H1=> ∃a,x= .ref a/\(∃xs,SqL K H1 a xs)/\R (Itl K a) H1
theorem NU {l:T1}{tl:TE}(hl:PE X l tl):PI X tg l (FW X.K tl):=by
 intro pins s σ H R I h;refine thn (hl pins s σ H _ I h) λv s1 ⟨x,H1,I1,r1,q1⟩=> ?_
 obtain⟨a,e,⟨xs,hq⟩,q⟩:=q1;subst e;cases r1;obtain⟨its,rv,p,hz⟩:=I1.list hq;refine V8 p.isList ?_;refine⟨s1.heap.objs.size,[s1.heap.objs.size],_,_,H1,rfl,I1.kept (t':=s1.toks) λb o e=>G6 _ e,Uj a _,⟨_,R8 _ rfl,rfl,rfl⟩,λb hb=> ?_,q⟩;have e:b=s1.heap.objs.size:=by simpa using hb
 subst e;exact I1.fpOk (P4 _) (I1.hok.fresh (P4 _))
variable {pins:G0 (G9×Obj)}
theorem Qr {σ:St}{H:Hp}{s:G3}{R:It->Hp->Prop}{E:G1->G3->Prop}{lo hi:P0}{t u v:Tok}{tk:G8}(I:Inv X pins σ H s)(h1: -(2^62)<=lo)(h2:lo<2^62)(h3: -(2^62)<=hi)(h4:hi<2^62)
 (q:R (Itr lo (hi-lo).toNat) H):R4 (S4 X.prog X.w) X.A (pQ (.ref s.heap.objs.size)) (PIE X pins σ tg R) E {s with heap:=s.heap.push {cls:= .type "range",data:= .fields #[.int lo t,.int hi u,.int 1 v]},toks:=tk}:=by
 refine wpAny_pyIter_range (IsRange.new ..) (small_one h1 h2 h3 h4) ?_;have I1:Inv X pins σ H {s with heap:=s.heap.push {cls:= .type "range",data:= .fields #[.int lo t,.int hi u,.int 1 v]},toks:=tk}:=I.kept λb o e=>G6 _ e
 refine⟨(s.heap.push {cls:= .type "range",data:= .fields #[.int lo t,.int hi u,.int 1 v]}).objs.size,[(s.heap.push {cls:= .type "range",data:= .fields #[.int lo t,.int hi u,.int 1 v]}).objs.size],_,_,H,rfl,
  I1.kept (t':=tk) λb o e=>G6 _ e,Gm _ lo (hi-lo).toNat,?_,λb hb=> ?_,q⟩
 ·have e1:lo+((0:G8):P0)*1=lo:=by simp
  have e2:(((hi-lo).toNat:G8):P0)-((0:G8):P0)=Builtin.Range.rangeSize lo hi 1:=by rw [rangeSize_one];split<;>omega
  show sF _ _ (lo+((0:G8):P0)*1) ((((hi-lo).toNat:G8):P0)-((0:G8):P0)) 1;rw [e1,e2];exact R8 _ rfl
 ·have e:b=(s.heap.push {cls:= .type "range",data:= .fields #[.int lo t,.int hi u,.int 1 v]}).objs.size:=by simpa using hb
  subst e;exact I1.fpOk (P4 _) (I1.hok.fresh (P4 _))
def FX (ta:TA):TI:=λσ H R=>ta σ H λvs H1=> ∃j:P0,vs= [.int j]/\ -(2^62)<=j/\j<2^62/\R (Itr 0 j.toNat) H1
def FY (ta:TA):TI:=λσ H R=>ta σ H λvs H1=> ∃i j:P0,vs= [.int i,.int j]/\(-(2^62)<=i/\i<2^62/\ -(2^62)<=j/\j<2^62)/\R (Itr i (j-i).toNat) H1
theorem Pk {a:T1}{ta:TA}{p pos:Pos}(hg:Gl X "range")(hm:X.mg "range" =none)(ha:PA X [a] ta)(hs:D7 [a] X.env= [(false,A7 a X.env)]:=by rfl):PI X tg (.Call (.Name "range" p) [a] [] pos) (FX ta):=by
 intro pins s σ H R I h;refine uU (Wg I hg hm sZ (Q0 (thn (ha pos pins s σ H _ I h) λus s1 ⟨vs,H1,I1,r1,q1⟩=> ?_) hs rfl));obtain⟨j,e,q1,q2,q⟩:=q1;subst e;cases r1 with
 |cons r rr=>
  cases rr;obtain⟨t,rfl⟩:=r;exact call_range_1 (Qr I1 (by omega) (by omega) q1 q2 (by simpa using q))
theorem Pl {a b:T1}{ta:TA}{p pos:Pos}(hg:Gl X "range")(hm:X.mg "range" =none)(ha:PA X [a,b] ta)(hs:D7 [a,b] X.env= [(false,A7 a X.env),(false,A7 b X.env)]:=by rfl)(hs2:D7 [b] X.env= [(false,A7 b X.env)]:=by rfl):
 PI X tg (.Call (.Name "range" p) [a,b] [] pos) (FY ta):=by
 intro pins s σ H R I h;refine uU (Wg I hg hm sZ (Q0 (thn (ha pos pins s σ H _ I h) λus s1 ⟨vs,H1,I1,r1,q1⟩=> ?_) (by rw [hs,hs2]) (by rw [hs2];rfl)));obtain⟨i,j,e,⟨q1,q2,q3,q4⟩,q⟩:=q1;subst e;cases r1 with
 |cons r rr=>
  cases rr with
  |cons r' rr=>
   cases rr;obtain⟨t,rfl⟩:=r;obtain⟨t',rfl⟩:=r';exact call_range_2 (Qr I1 q1 q2 q3 q4 q)
def Sr (wi:TI)(g:TG)(tb:TS):TS:=λD σ H=>wi σ H λJ H1=> ∃W:G8->G8->St->Hp->Prop,(∃m,W 0 m σ H1)/\ ∀i m σ H,W i m σ H->
 (J.stop i H/\D.nx σ H)\/(J.go i H/\ ∃N:St->Hp->Prop,(∀xC H',N xC H'-> ∃m',m'<m/\W (i+1) m' xC H')/\ ∀x H',J.yld i H x H'->g x σ H' λxF H2=>tb {D with nx:=N,ct:=N,bk:=D.nx} xF H2)
def vL (fp:G0 G9)(h:N9):G0 (G9×Obj):=fp.filterMap λb=>(h.get? b).map λo=>(b,o)
theorem wq {fp:G0 G9}{h:N9}{b:G9}{o:Obj}(hb:b∈fp)(e:h.get? b=some o):(b,o)∈vL fp h:=Z7.mpr ⟨b,hb,by rw [e];rfl⟩
theorem Wh {fp:G0 G9}{h:N9}{p:G9×Obj}(hp:p∈vL fp h):p.1∈fp/\h.get? p.1=some p.2:=by
 obtain⟨b,hb,e⟩:=Z7.mp hp;cases q:h.get? b with
 |none=>rw [q] at e;cases e
 |some o=>
  rw [q] at e;have e':(b,o)=p:=F7 e;subst e';exact⟨hb,q⟩
theorem Inv.pinned {σ:St}{H:Hp}{s:G3}{fp:G0 G9}(I:Inv X pins σ H s)(hf: ∀b∈fp,Pb X pins H b)(ho: ∀b∈fp,∃o,s.heap.get? b=some o/\ ∀v,o.data≠ .cell v):Inv X (pins++vL fp s.heap) σ H s:=
 I.pins_of λp hp=>(D5.mp hp).elim (λz=>I.pin p (R3 _ z)) λz=>by
  obtain⟨hb,e⟩:=Wh z;obtain⟨f0,f1,f2,_⟩:=hf p.1 hb;obtain⟨o,e',d⟩:=ho p.1 hb;rw [e] at e';cases e';exact⟨e,f0,f1,f2,d⟩
theorem Inv.unpinned {pl:G0 (G9×Obj)}{σ:St}{H:Hp}{s:G3}(I:Inv X (pins++pl) σ H s):Inv X pins σ H s:=I.pins_of λp hp=>I.pin p (R3 _ (O9 _ hp))
theorem FZ {iter:T1}{body:G0 O3}{wi:TI}{g:TG}{tb:TS}{pos:Pos}(hp:rD (S4 X.prog X.w) X.A X.env X.xe)(hc:X.calm=true)(hi:PI X tg iter wi)(hg:PG X tg g)(hb:PSs X body tb)
 (hs: ∀x,M8 iter X.env x=pure x:=by intro _;rfl):PS X (.For tg iter body [] pos) (Sr wi g tb):=by
 intro pins s σ H D I h;refine wpAny_For (thn (hi pins s σ H _ I h) λv s1 h1=>thn h1 λitv s2 h2=> ?_) hs;obtain⟨it,fp,tn,J,H2,e,I2,T,st2,f2,W,⟨m0,w0⟩,turn⟩:=h2;subst e
 -- what stays true of the iterator's objects through the loop
 have stat: ∀ {H':Hp},(∀b∈fp,H' b=none)-> ∀b∈fp,Pb X pins H' b:=λhn b hb=>⟨hn b hb,(f2 b hb).2⟩
 refine codeAny_forLoop_any (λn s'=> ∃i xC H',Inv X pins xC H' s'/\tn i s'.heap/\(∀b∈fp,H' b=none)/\W i n xC H') ?_ m0 ⟨0,σ,H2,I2,st2,λb hb=>(f2 b hb).1,w0⟩;rintro n s3 ⟨i,xI,H3,I3,st3,fr3,w3⟩;rcases turn i n xI H3 w3 with ⟨stop,qn⟩|⟨go,N,hN,step⟩
 ·refine bY hp (thn (T.done X rfl rfl rfl hc i pins s3 xI H3 X.xe I3 (stat fr3) st3 stop) λr s4 ⟨hr,I4⟩=> ?_);subst hr;exact bX ⟨xI,H3,I4,qn⟩
 ·refine bY hp (thn (T.item X rfl rfl rfl hc i pins s3 xI H3 X.xe I3 (stat fr3) st3 go) λr s4 ⟨u,hr,h4⟩=> ?_);subst hr;refine bY hp (thn h4 λ_ s5 ⟨x,H5,I5,r5,y5,st5,fr5⟩=> ?_);have I5':=I5.pinned (stat fr5) (T.obj _ _ st5);refine bY hp (thn (hg _ s5 xI H5 x u _ I5' r5 (step x H5 y5)) λ_ s6 ⟨HG,H6,I6,q6⟩=> ?_);refine bY hp (thn (hb _ s6 HG H6 _ I6 q6) λf s7 q7=> ?_);have uV: ∀ {xM:St} {H7:Hp},Inv X (pins++vL fp s5.heap) xM H7 s7->N xM H7-> ∃m,m<n/\ ∃i xC H',Inv X pins xC H' s7/\tn i s7.heap/\(∀b∈fp,H' b=none)/\W i m xC H':=λ{xM H7} I7 n7=>by
   obtain⟨m',hm,w7⟩:=hN xM H7 n7;refine⟨m',hm,i+1,xM,H7,I7.unpinned,T.keep _ _ _ st5 λb hb o e=>(I7.pin (b,o) (R3 _ (R3 _ (wq hb e)))).1,λb hb=> ?_,w7⟩;obtain⟨o,e,d⟩:=T.obj _ _ st5 b hb;exact(I7.pin (b,o) (R3 _ (R3 _ (wq hb e)))).2.1
  cases f with
  |next=>obtain⟨xM,H7,I7,n7⟩:=q7;exact uV I7 n7
  |cont=>obtain⟨xM,H7,I7,n7⟩:=q7;exact uV I7 n7
  |brk=>obtain⟨xM,H7,I7,q7⟩:=q7;exact⟨xM,H7,I7.unpinned,q7⟩
  |ret v=>obtain⟨x7,xM,H7,I7,r7,q7⟩:=q7;exact⟨x7,xM,H7,I7.unpinned,r7,q7⟩
end
abbrev R2:=V->V->Hp->VK->Prop
def OpR (X:Cx)(f:G1->G1->Sem G1)(r:R2):Prop:=
 ∀ (pins:G0 (G9×Obj)) (s:G3) (σ:St) (H:Hp) (x y:V) (v u:G1) (Q:VK),Inv X pins σ H s->RelV x v->RelV y u->r x y H Q->
  R4 (S4 X.prog X.w) X.A (f v u) (EP X pins σ Q) X.xe s
def UnR (X:Cx)(f:G1->Sem G1)(r:V->Hp->VK->Prop):Prop:=
 ∀ (pins:G0 (G9×Obj)) (s:G3) (σ:St) (H:Hp) (x:V) (v:G1) (Q:VK),Inv X pins σ H s->RelV x v->r x H Q->
  R4 (S4 X.prog X.w) X.A (f v) (EP X pins σ Q) X.xe s
def CallR (X:Cx)(f:G1)(r:G0 V->Hp->VK->Prop):Prop:=
 ∀ (pins:G0 (G9×Obj)) (s:G3) (σ:St) (H:Hp) (xs:G0 V) (us:G0 G1) (Q:VK),Inv X pins σ H s->Vals xs us->r xs H Q->
  R4 (S4 X.prog X.w) X.A (call f us) (EP X pins σ Q) X.xe s
def tOp (r:R2)(ta tb:TE):TE:=λσ H Q=>ta σ H λx H1=>tb σ H1 λy H2=>r x y H2 Q
def tUn (r:V->Hp->VK->Prop)(ta:TE):TE:=λσ H Q=>ta σ H λx H1=>r x H1 Q
def rI (C:P0->P0->Prop)(g:P0->P0->V):R2:=λx y H Q=> ∃i j,x= .int i/\y= .int j/\C i j/\Q (g i j) H
def rI0 (g:P0->P0->V):R2:=λx y H Q=> ∃i j,x= .int i/\y= .int j/\Q (g i j) H
def rU (g:P0->V):V->Hp->VK->Prop:=λx H Q=> ∃i,x= .int i/\Q (g i) H
section
variable {X:Cx}{a b c:T1}{ta tb tc:TE}{pos:Pos}
theorem AI (ha:PE X a ta)(hb:PE X b tb){pins:G0 (G9×Obj)}{s:G3}{σ:St}{H:Hp}{R:V->V->Hp->Prop}(I:Inv X pins σ H s)
 (h:ta σ H λx H1=>tb σ H1 λy H2=>R x y H2){Q:G1->G3->Prop}{f:G1->G1->Sem G1}
 (hf: ∀v u s2 x y H2,Inv X pins σ H2 s2->RelV x v->RelV y u->R x y H2->R4 (S4 X.prog X.w) X.A (f v u) Q X.xe s2):
 R4 (S4 X.prog X.w) X.A (A7 a X.env) (λv xE=>R4 (S4 X.prog X.w) X.A (A7 b X.env) (λu xJ=>R4 (S4 X.prog X.w) X.A (f v u) Q X.xe xJ) X.xe xE) X.xe s:=by
 refine thn (ha pins s σ H _ I h) λv s1 ⟨x,H1,I1,r1,q1⟩=> ?_
 refine thn (hb pins s1 σ H1 _ I1 q1) λu s2 ⟨y,H2,I2,r2,q2⟩=> ?_
 exact hf v u s2 x y H2 I2 r1 r2 q2
theorem AJ {op:sG}{r:R2}(ho:OpR X (J0 op) r)(ha:PE X a ta)(hb:PE X b tb):PE X (.BinOp a op b pos) (tOp r ta tb):=by
 intro pins s σ H Q I h;exact wpAny_BinOp (AI ha hb I h λv u s2 x y H2 I2 rx ry q=>ho pins s2 σ H2 x y v u Q I2 rx ry q)
theorem AK {op:UnaryOp}{r:V->Hp->VK->Prop}(ho:UnR X (unaryOp op) r)(ha:PE X a ta):PE X (.UnaryOp op a pos) (tUn r ta):=by
 intro pins s σ H Q I h;exact UnaryOp_ (thn (ha pins s σ H _ I h) λv s1 ⟨x,H1,I1,r1,q1⟩=>ho pins s1 σ H1 x v Q I1 r1 q1)
theorem opI {f:G1->G1->Sem G1}{C:P0->P0->Prop}{g:P0->P0->P0}
 (rule: ∀ (i j:P0) (t u:Tok) (s:G3) (Q:G1->G3->Prop) (E:G1->G3->Prop),C i j->Q (.int (g i j) s.toks) {s with toks:=s.toks+1}->R4 (S4 X.prog X.w) X.A (f (.int i t) (.int j u)) Q E s):
 OpR X f (rI C λi j=> .int (g i j)):=by
 intro pins s σ H x y v u Q I rx ry h;obtain⟨i,j,rfl,rfl,hc,q⟩:=h;obtain⟨t,rfl⟩:=rx;obtain⟨t',rfl⟩:=ry;exact rule i j t t' s _ _ hc ⟨.int (g i j),H,I.tok _,⟨_,rfl⟩,q⟩
theorem Su {f:G1->G1->Sem G1}{g:P0->P0->P0}
 (rule: ∀ (i j:P0) (t u:Tok) (s:G3) (Q:G1->G3->Prop) (E:G1->G3->Prop),Q (.int (g i j) s.toks) {s with toks:=s.toks+1}->R4 (S4 X.prog X.w) X.A (f (.int i t) (.int j u)) Q E s):
 OpR X f (rI0 λi j=> .int (g i j)):=by
 intro pins s σ H x y v u Q I rx ry h;obtain⟨i,j,rfl,rfl,q⟩:=h;obtain⟨t,rfl⟩:=rx;obtain⟨t',rfl⟩:=ry;exact rule i j t t' s _ _ ⟨.int (g i j),H,I.tok _,⟨_,rfl⟩,q⟩
theorem Av {f:G1->G1->Sem G1}{g:P0->P0->N4}
 (rule: ∀ (i j:P0) (t u:Tok) (s:G3) (Q:G1->G3->Prop) (E:G1->G3->Prop),Q (.bool (g i j)) s->R4 (S4 X.prog X.w) X.A (f (.int i t) (.int j u)) Q E s):
 OpR X f (rI0 λi j=> .bl (g i j)):=by
 intro pins s σ H x y v u Q I rx ry h;obtain⟨i,j,rfl,rfl,q⟩:=h;obtain⟨t,rfl⟩:=rx;obtain⟨t',rfl⟩:=ry;exact rule i j t t' s _ _ ⟨.bl (g i j),H,I,rfl,q⟩
def Sv (i j:P0):Prop:=0<j/\j<1073741824
def Sw (i j:P0):Prop:=0<=j/\j<=1000000/\i.natAbs<2^64
def CMul (i j:P0):Prop:=(-(2^64)<i/\i<2^64)\/(-(2^64)<j/\j<2^64)
theorem CMul.ok {i j:P0}(h:CMul i j):IntMulOk i j:=by
 rcases h with ⟨h1,h2⟩|⟨h1,h2⟩
 ·exact .of_left (qO h1 h2)
 ·exact .of_right (qO h1 h2)
theorem op_add:OpR X (J0 .Add) (rI0 λi j=> .int (i+j)):=Su λ_ _ _ _ _ _ _ q=>add_int q
theorem La:OpR X (J0 .Sub) (rI0 λi j=> .int (i-j)):=Su λ_ _ _ _ _ _ _ q=>sub_int q
theorem op_mul:OpR X (J0 .Mult) (rI CMul λi j=> .int (i*j)):=opI λ_ _ _ _ _ _ _ hc q=>mul_int q hc.ok
theorem NV:OpR X (J0 .FloorDiv) (rI Sv λi j=> .int (i / j)):=opI λi j _ _ _ _ _ hc q=>by
 have h1:(0:P0)<j:=hc.1;have h2:j<1073741824:=hc.2;exact floordiv_int (by omega) (by rw [fT i (by omega)];exact q) (.inl (PyProof.noPylong_small (by omega)))
theorem Lb:OpR X (J0 .Mod) (rI (λ_ j=>0<j) λi j=> .int (i%j)):=opI λi j _ _ _ _ _ hc q=>by
 have h1:(0:P0)<j:=hc;exact mod_int' (by omega) (by rw [fU i (by omega)];exact q)
theorem Lc:OpR X (J0 .Pow) (rI Sw λi j=> .int (i^j.toNat)):=opI λ_ _ _ _ _ _ _ hc q=>pow_int_small hc.1 hc.2.1 hc.2.2 q
theorem unI {f:G1->Sem G1}{g:P0->P0}
 (rule: ∀ (i:P0) (t:Tok) (s:G3) (Q:G1->G3->Prop) (E:G1->G3->Prop),Q (.int (g i) s.toks) {s with toks:=s.toks+1}->R4 (S4 X.prog X.w) X.A (f (.int i t)) Q E s):
 UnR X f (rU λi=> .int (g i)):=by
 intro pins s σ H x v Q I rx h;obtain⟨i,rfl,q⟩:=h;obtain⟨t,rfl⟩:=rx;exact rule i t s _ _ ⟨.int (g i),H,I.tok _,⟨_,rfl⟩,q⟩
theorem Ld:UnR X (unaryOp .USub) (rU λi=> .int (-i)):=unI λ_ _ _ _ _ q=>neg_int q
end
def Sx:V->V->N4
 | .non,.non=>true| .non,.int _=>true| .int _,.non=>true| .non,.bl _=>true| .bl _,.non=>true| .non,.str _=>true| .str _,.non=>true
 | .int _,.int _=>true| .bl _,.bl _=>true| .str _,.str _=>true| .byt _,.byt _=>true
 | .int _,.str _=>true| .str _,.int _=>true| .bl _,.str _=>true| .str _,.bl _=>true
 |_,_=>false
def rEq:R2:=λx y H Q=>Sx x y=true/\Q (.bl (decide (x=y))) H
def rNe:R2:=λx y H Q=>Sx x y=true/\Q (.bl (!decide (x=y))) H
theorem Pm {i j:P0}:decide (V.int i=V.int j)=(i==j):=by
 rw [F8];simp
theorem Np {i j:N4}:decide (V.bl i=V.bl j)=(i==j):=by
 rw [F8];simp
theorem Po {i j:Str}:decide (V.str i=V.str j)=(i==j):=by
 rw [F8];simp
theorem Pp {i j:N0 UInt8}:decide (V.byt i=V.byt j)=(i.toList==j.toList):=by
 rw [F8];cases i;cases j;simp
section
variable {X:Cx}{a b c:T1}{ta tb tc:TE}{pos:Pos}
theorem jK {pins:G0 (G9×Obj)}{σ:St}{H:Hp}{s:G3}{Q:VK}{k k':N4}(I:Inv X pins σ H s)(q:Q (.bl k) H)(e:k=k'):EP X pins σ Q (.bool k') s:=by
 subst e;exact⟨.bl k,H,I,rfl,q⟩
theorem op_eq:OpR X (B1 .Eq) rEq:=by
 intro pins s σ H x y v u Q I rx ry h;obtain⟨hs,q⟩:=h;cases x with
 |non=>
  cases rx;cases y with
  |non=>cases ry;exact PySem.EqNone.eq_none_none (jK I q (by simp))
  |bl j=>cases ry;exact PySem.EqNone.eq_none_bool (jK I q (by simp))
  |int j=>obtain⟨t',rfl⟩:=ry;exact PySem.EqNone.eq_none_int (jK I q (by simp))
  |str j=>obtain⟨t',rfl⟩:=ry;exact PySem.EqNone.eq_none_str (jK I q (by simp))
  |_=>exact absurd (show false=true from hs) D9
 |bl i=>
  cases rx;cases y with
  |non=>cases ry;exact PySem.EqNone.eq_bool_none (jK I q (by simp))
  |bl j=>cases ry;exact eq_bool (jK I q Np)
  |str j=>obtain⟨t',rfl⟩:=ry;exact PySem.EqMixed.eq_bool_str (jK I q (by simp))
  |_=>exact absurd (show false=true from hs) D9
 |int i=>
  obtain⟨t,rfl⟩:=rx;cases y with
  |non=>cases ry;exact PySem.EqNone.eq_int_none (jK I q (by simp))
  |int j=>obtain⟨t',rfl⟩:=ry;exact eq_int (jK I q Pm)
  |str j=>obtain⟨t',rfl⟩:=ry;exact PySem.EqMixed.eq_int_str (jK I q (by simp))
  |_=>exact absurd (show false=true from hs) D9
 |str i=>
  obtain⟨t,rfl⟩:=rx;cases y with
  |non=>cases ry;exact PySem.EqNone.eq_str_none (jK I q (by simp))
  |bl j=>cases ry;exact PySem.EqMixed.eq_str_bool (jK I q (by simp))
  |int j=>obtain⟨t',rfl⟩:=ry;exact PySem.EqMixed.eq_str_int (jK I q (by simp))
  |str j=>obtain⟨t',rfl⟩:=ry;exact eq_str (jK I q Po)
  |_=>exact absurd (show false=true from hs) D9
 |byt i=>
  obtain⟨t,rfl⟩:=rx;cases y with
  |byt j=>obtain⟨t',rfl⟩:=ry;exact uH (jK I q Pp)
  |_=>exact absurd (show false=true from hs) D9
 |_=>cases y<;>exact absurd (show false=true from hs) D9
theorem op_ne:OpR X (B1 .NotEq) rNe:=by
 intro pins s σ H x y v u Q I rx ry h;obtain⟨hs,q⟩:=h;cases x with
 |non=>
  cases rx;cases y with
  |non=>cases ry;exact PySem.EqNone.ne_none_none (jK I q (by simp))
  |bl j=>cases ry;exact PySem.EqNone.ne_none_bool (jK I q (by simp))
  |int j=>obtain⟨t',rfl⟩:=ry;exact PySem.EqNone.ne_none_int (jK I q (by simp))
  |str j=>obtain⟨t',rfl⟩:=ry;exact PySem.EqNone.ne_none_str (jK I q (by simp))
  |_=>exact absurd (show false=true from hs) D9
 |bl i=>
  cases rx;cases y with
  |non=>cases ry;exact PySem.EqNone.ne_bool_none (jK I q (by simp))
  |bl j=>cases ry;exact ne_bool (jK I q (congrArg not Np))
  |str j=>obtain⟨t',rfl⟩:=ry;exact PySem.EqMixed.ne_bool_str (jK I q (by simp))
  |_=>exact absurd (show false=true from hs) D9
 |int i=>
  obtain⟨t,rfl⟩:=rx;cases y with
  |non=>cases ry;exact PySem.EqNone.ne_int_none (jK I q (by simp))
  |int j=>obtain⟨t',rfl⟩:=ry;exact ne_int (jK I q (congrArg not Pm))
  |str j=>obtain⟨t',rfl⟩:=ry;exact PySem.EqMixed.ne_int_str (jK I q (by simp))
  |_=>exact absurd (show false=true from hs) D9
 |str i=>
  obtain⟨t,rfl⟩:=rx;cases y with
  |non=>cases ry;exact PySem.EqNone.ne_str_none (jK I q (by simp))
  |bl j=>cases ry;exact PySem.EqMixed.ne_str_bool (jK I q (by simp))
  |int j=>obtain⟨t',rfl⟩:=ry;exact PySem.EqMixed.ne_str_int (jK I q (by simp))
  |str j=>obtain⟨t',rfl⟩:=ry;exact ne_str (jK I q (congrArg not Po))
  |_=>exact absurd (show false=true from hs) D9
 |byt i=>
  obtain⟨t,rfl⟩:=rx;cases y with
  |byt j=>obtain⟨t',rfl⟩:=ry;exact uI (jK I q (congrArg not Pp))
  |_=>exact absurd (show false=true from hs) D9
 |_=>cases y<;>exact absurd (show false=true from hs) D9
theorem AL:OpR X (B1 .Lt) (rI0 λi j=> .bl (decide (i<j))):=Av λ_ _ _ _ _ _ _ q=>lt_int q
theorem AM:OpR X (B1 .LtE) (rI0 λi j=> .bl (decide (i<=j))):=Av λ_ _ _ _ _ _ _ q=>le_int q
theorem AN:OpR X (B1 .Gt) (rI0 λi j=> .bl (decide (j<i))):=Av λ_ _ _ _ _ _ _ q=>gt_int q
theorem AO:OpR X (B1 .GtE) (rI0 λi j=> .bl (decide (j<=i))):=Av λ_ _ _ _ _ _ _ q=>ge_int q
theorem Le:OpR X (B1 .Is) (λx y H Q=>y= .non/\Q (.bl (decide (x= .non))) H):=by
 intro pins s σ H x y v u Q I rx ry h;obtain⟨rfl,q⟩:=h;cases ry;refine is_none_gen (jK I q ?_);cases x<;>first
  |(cases rx;rfl)
  |(obtain⟨t,rfl⟩:=rx;rfl)
variable {r:R2}
theorem OpR.or {f:G1->G1->Sem G1}{r':R2}(h:OpR X f r)(h':OpR X f r'):OpR X f (λx y H Q=>r x y H Q\/r' x y H Q):=by
 intro pins s σ H x y v u Q I rx ry q;rcases q with q|q
 ·exact h pins s σ H x y v u Q I rx ry q
 ·exact h' pins s σ H x y v u Q I rx ry q
theorem Pq (b:T1){op:iB}(h:op≠ .In:=by decide)(h2:op≠ .NotIn:=by decide):U8 op b=false:=by
 have e1:(op==CmpOp.In)=false:=by cases op<;>first|rfl|exact absurd rfl h
 have e2:(op==CmpOp.NotIn)=false:=by cases op<;>first|rfl|exact absurd rfl h2
 cases b<;>simp [U8,e1,e2]
theorem NW {op:iB}(ho:OpR X (B1 op) r)(ha:PE X a ta)(hb:PE X b tb)(hm:U8 op b=false):PE X (.Compare a [op] [b] pos) (tOp r ta tb):=by
 intro pins s σ H Q I h;exact wpAny_Compare1 (AI ha hb I h λv u s2 x y H2 I2 rx ry q=>ho pins s2 σ H2 x y v u Q I2 rx ry q) hm
def NX (t:TE):TT:=λσ H Q=>t σ H λx H'=> ∃k,x= .bl k/\Q k H'
theorem NY {op:iB}(ho:OpR X (B1 op) r)(ha:PE X a ta)(hb:PE X b tb)(hm:U8 op b=false):PT X (.Compare a [op] [b] pos) (NX (tOp r ta tb)):=by
 intro pins s σ H Q I h;refine wpAny_isTrue_Compare1 (thn (ha pins s σ H _ I h) λv s1 ⟨x,H1,I1,r1,q1⟩=>thn (hb pins s1 σ H1 _ I1 q1) λu s2 ⟨y,H2,I2,r2,q2⟩=>
  thn (ho pins s2 σ H2 x y v u _ I2 r1 r2 q2) λc s3 ⟨z,H3,I3,r3,k,e,q3⟩=> ?_) hm
 subst e;cases r3;exact A1 ⟨H3,I3,q3⟩
def Pr (r r':R2)(ta tb tc:TE):TE:=λσ H Q=>ta σ H λx H1=>tb σ H1 λy H2=>r x y H2 λz H3=> ∃k,z= .bl k/\
 (if k=true then tc σ H3 λw' H4=>r' y w' H4 Q else Q (.bl false) H3)
theorem RK {op op':iB}{r':R2}(ho:OpR X (B1 op) r)(ho':OpR X (B1 op') r')(ha:PE X a ta)(hb:PE X b tb)(hc:PE X c tc)
 (hm:iU [op,op'] [b,c]=false:=by with_unfolding_all rfl):PE X (.Compare a [op,op'] [b,c] pos) (Pr r r' ta tb tc):=by
 intro pins s σ H Q I h;refine Compare_chain (thn (ha pins s σ H _ I h) λv s1 ⟨x,H1,I1,r1,q1⟩=>chain_link (thn (hb pins s1 σ H1 _ I1 q1) λu s2 ⟨y,H2,I2,r2,q2⟩=>
  thn (ho pins s2 σ H2 x y v u _ I2 r1 r2 q2) λd s3 ⟨z,H3,I3,r3,k,e,q3⟩=> ?_)) hm
 subst e;cases r3;refine A1 ?_;cases k with
 |false=>exact ite_ff ⟨.bl false,H3,I3,rfl,q3⟩
 |true=>exact ite_tt (chain_last (thn (hc pins s3 σ H3 _ I3 q3) λw' s4 ⟨z',H4,I4,r4,q4⟩=>ho' pins s4 σ H4 y z' u w' Q I4 r2 r4 q4))
theorem RL {op op':iB}{r':R2}(ho:OpR X (B1 op) r)(ho':OpR X (B1 op') r')(ha:PE X a ta)(hb:PE X b tb)(hc:PE X c tc)
 (hm:iU [op,op'] [b,c]=false:=by with_unfolding_all rfl):PT X (.Compare a [op,op'] [b,c] pos) (NX (Pr r r' ta tb tc)):=by
 intro pins s σ H Q I h;refine isTrue_chain (thn (ha pins s σ H _ I h) λv s1 ⟨x,H1,I1,r1,q1⟩=>test_link (thn (hb pins s1 σ H1 _ I1 q1) λu s2 ⟨y,H2,I2,r2,q2⟩=>
  thn (ho pins s2 σ H2 x y v u _ I2 r1 r2 q2) λd s3 ⟨z,H3,I3,r3,k,e,q3⟩=> ?_)) hm
 subst e;cases r3;refine A1 ?_;cases k with
 |false=>
  obtain⟨k',e',q'⟩:=q3;cases e';exact ite_ff ⟨H3,I3,q'⟩
 |true=>
  refine ite_tt (test_last (thn (hc pins s3 σ H3 _ I3 q3) λw' s4 ⟨z',H4,I4,r4,q4⟩=>thn (ho' pins s4 σ H4 y z' u w' _ I4 r2 r4 q4) λd' s5 ⟨z2,H5,I5,r5,k2,e2,q5⟩=> ?_));subst e2;cases r5;exact A1 ⟨H5,I5,q5⟩
theorem Uk:(sizeLine:G8)<2^63:=by rw [oR];decide
theorem Jp {x:V}{us:G0 G1}(r:Vals [x] us): ∃u,us= [u]/\RelV x u:=by
 cases r with
 |cons r1 r2=>cases r2;exact⟨_,rfl,r1⟩
theorem Ps {x y:V}{us:G0 G1}(r:Vals [x,y] us): ∃u w',us= [u,w']/\RelV x u/\RelV y w':=by
 cases r with
 |cons r1 r2=>
  cases r2 with
  |cons r3 r4=>cases r4;exact⟨_,_,rfl,r1,r3⟩
theorem Pu (hc:X.calm=true):CallR X (.builtin "max") (λxs H Q=> ∃i j,xs= [.int i,.int j]/\Q (.int (if j>i then j else i)) H):=by
 intro pins s σ H xs us Q I r h;obtain⟨i,j,rfl,q⟩:=h;obtain⟨u,w',rfl,⟨t,rfl⟩,⟨t',rfl⟩⟩:=Ps r;refine max_two_ints (I.ok.hd hc) λh' tk k=>⟨_,H,I.kept k,?_,q⟩
 by_cases hj:j>i
 ·rw [S2 hj,S2 hj];exact⟨_,rfl⟩
 ·rw [S3 hj,S3 hj];exact⟨_,rfl⟩
theorem Pv (hc:X.calm=true):CallR X (.builtin "min") (λxs H Q=> ∃i j,xs= [.int i,.int j]/\Q (.int (if j<i then j else i)) H):=by
 intro pins s σ H xs us Q I r h;obtain⟨i,j,rfl,q⟩:=h;obtain⟨u,w',rfl,⟨t,rfl⟩,⟨t',rfl⟩⟩:=Ps r;refine min_two_ints (I.ok.hd hc) λh' tk k=>⟨_,H,I.kept k,?_,q⟩
 by_cases hj:j<i
 ·rw [S2 hj,S2 hj];exact⟨_,rfl⟩
 ·rw [S3 hj,S3 hj];exact⟨_,rfl⟩
theorem call_int1:CallR X (.type "int") (λxs H Q=>(∃i,xs= [.int i]/\Q (.int i) H)\/ ∃k,xs= [.bl k]/\Q (.int (if k then 1 else 0)) H):=by
 intro pins s σ H xs us Q I r h;rcases h with ⟨i,rfl,q⟩|⟨k,rfl,q⟩
 ·obtain⟨u,rfl,t,rfl⟩:=Jp r;exact call_int_int ⟨.int i,H,I,⟨_,rfl⟩,q⟩
 ·obtain⟨u,rfl,r1⟩:=Jp r;cases r1;exact call_int_bool ⟨.int (if k then 1 else 0),H,I.tok _,⟨_,rfl⟩,q⟩
end
structure ObjM (h:N9)(x dx C:G9)(mA:Str->P8 G1):Prop where
 obj:h.get? x=some (kN C dx)
 ns:h.Ns1 dx mA
 ne:dx≠x
theorem Pw {dx:G9}{mA:Str->P8 G1}(n:h.Ns1 dx mA): ∃od,h.get? dx=some od/\ ∀name,lD name od=some (mA name):=by
 obtain⟨o,es,ep,ho,hd,hk,_,hm⟩:=n;refine⟨o,ho,λname=> ?_⟩;have e:=hm name;unfold nsFind findBy at e;rw [<-Array.find?_toList] at e;unfold lD;rw [hd];dsimp only;split
 ·rename_i y q;rw [q] at e;exact congrArg some e
 ·rename_i q;rw [q] at e;have a:es.toList.any (·.refKey)=false:=by
   rw [mY];intro y hy;obtain⟨z,t,hkey⟩:=hk y (Array.mem_toList_iff.mp hy);simp [DictEntry.refKey,hkey]
  have a': ¬es.toList.any (·.refKey)=true:=by rw [a];exact D9
  rw [S3 a'];exact congrArg some e
theorem ObjM.look {x dx C:G9}{mA:Str->P8 G1}(I:ObjM h x dx C mA): ∃od,uW h x (kN C dx) C (some od)/\ ∀name,lD name od=some (mA name):=
 let ⟨od,ho,hl⟩:=Pw I.ns
 ⟨od,⟨I.obj,rfl,rfl,ho⟩,hl⟩
section
variable {P:S0}{w:N8}{H H':Hp}{h h':N9}{a C dx:G9}{fs fs':G0 (Str×V)}
theorem NZ (hok:HOk P w H h)(e:H a=some (.ins C dx fs)): ∃mA,ObjM h a dx C mA/\(∀f,AD (fs.lookup f) (mA f))/\rJ mA (fs.map (·.1))/\fs.length<=1000/\H dx=some (.own a):=by
 obtain⟨d,z,ne,ob,mA,n,r,q⟩:=(show ObjOk P w H h a (.ins C dx fs) from hok a _ e);exact⟨mA,⟨ob,n,ne⟩,r,q,z,d⟩
end
structure Cls (K:G2)(C:G9):Prop where
 pg:oC K C rE=true
 hd:t8 K C=true
 po:uA K C=true
 sa:pR K (.ref C) "__setattr__" =some (some (.builtin "object.__setattr__"))
theorem Cls.get {C:G9}(c:Cls K C)(f:Str):oC K C f=true:=c.pg
section
variable {X:Cx}{pins:G0 (G9×Obj)}{σ:St}{H:Hp}{s:G3}{A:T8}{E:G1->G3->Prop}{Q:G1->G3->Prop}{c:G1}{b:N4}
inductive TyOf (K:G2)(H:Hp):V->G1->Prop where
 |non:TyOf K H .non (.type "NoneType")
 |bl (x:N4):TyOf K H (.bl x) (.type "bool")
 |int (i:P0):TyOf K H (.int i) (.type "int")
 |str (x:Str):TyOf K H (.str x) (.type "str")
 |flt (x:UInt64):TyOf K H (.flt x) (.type "float")
 |lst {a:G9} {xs:G0 V} (e:H a=some (.lst xs)):TyOf K H (.ref a) (.type "list")
 |frz {a:G9} {o:Obj} {xs:G0 V} (e:H a=some (.frz o (.lst xs))):TyOf K H (.ref a) (.type "list")
 |tup {a:G9} {xs:G0 V} (e:H a=some (.tup xs)):TyOf K H (.ref a) (.type "tuple")
 |dK {a:G9} {kvs:G0 (Key×V)} (e:H a=some (.dK kvs)):TyOf K H (.ref a) (.type "dict")
 |dT {a:G9} {kvs:G0 (G0 Key×V)} (e:H a=some (.dT kvs)):TyOf K H (.ref a) (.type "dict")
 |ins {a C dx:G9} {fs:G0 (Str×V)} (e:H a=some (.ins C dx fs)) (cl:Cls K C) (ha:pR K (.ref C) "__class__" =some (some (.builtin "object.__class__")))
  (hn:uB K (.builtin "object.__class__") "__get__" =some (some (.builtin "getset_descriptor.__get__"))) (htk:uQ K (.builtin "object.__class__")=some true)
  (hm:w8 K C (.type "object")=some true):TyOf K H (.ref a) (.ref C)
theorem Px {x:V}{u t:G1}(I:Inv X pins σ H s)(rx:RelV x u)(ty:TyOf X.K H x t)(e:fV X.K t c=some b)(h: ∀tk,Q (.bool b) {s with toks:=tk}):
 R4 (S4 X.prog X.w) A (call (.builtin "isinstance") [u,c]) Q E s:=by
 cases ty with
 |non=>cases (show u=fN from rx);exact J5 uC I.kIn cF e (λz=>nomatch z) h
 |bl y=>cases (show u=aR y from rx);exact J5 uD I.kIn cF e (λz=>nomatch z) h
 |int i=>obtain⟨t,q⟩:=(show ∃t,u=aX i t from rx);cases q;exact J5 uJ I.kIn cF e (λz=>nomatch z) h
 |str y=>obtain⟨t,q⟩:=(show ∃t,u=iT y t from rx);cases q;exact J5 uK I.kIn cF e (λz=>nomatch z) h
 |flt y=>obtain⟨t,q⟩:=(show ∃t,u=sC y t from rx);cases q;exact J5 tD I.kIn cF e (λz=>nomatch z) h
 | @lst a xs ea=>
  cases (show u=aI a from rx);obtain⟨_,_,n,_,h1⟩:=(show ObjOk X.prog X.w H s.heap a (.lst xs) from I.hok a _ ea);exact J5 mZ I.kIn ⟨_,h1,rfl⟩ e (λz=>nomatch z) h
 | @frz a ob xs ea=>
  cases (show u=aI a from rx);obtain⟨_,_,_,n,_,h1⟩:=(show ObjOk X.prog X.w H s.heap a (.frz ob (.lst xs)) from I.hok a _ ea);exact J5 mZ I.kIn ⟨_,h1,rfl⟩ e (λz=>nomatch z) h
 | @tup a xs ea=>
  cases (show u=aI a from rx);obtain⟨_,_,_,p⟩:=(show ObjOk X.prog X.w H s.heap a (.tup xs) from I.hok a _ ea);obtain⟨o,h1,h2,_⟩:=p;exact J5 tE I.kIn ⟨o,h1,h2⟩ e (λz=>nomatch z) h
 | @dK a kvs ea=>
  cases (show u=aI a from rx);obtain⟨_,_,vs,_,p⟩:=(show ObjOk X.prog X.w H s.heap a (.dK kvs) from I.hok a _ ea);obtain⟨o,es,ep,h1,h2,_⟩:=p;exact J5 m5 I.kIn ⟨o,h1,h2.1⟩ e (λz=>nomatch z) h
 | @dT a kvs ea=>
  cases (show u=aI a from rx);obtain⟨_,_,xs,_,o,es,ep,h1,h2,_⟩:=(show ObjOk X.prog X.w H s.heap a (.dT kvs) from I.hok a _ ea);exact J5 m5 I.kIn ⟨o,h1,h2.1⟩ e (λz=>nomatch z) h
 | @ins a C dx fs ea cl ha hn htk hm=>
  cases (show u=aI a from rx);obtain⟨mA,O,_⟩:=NZ I.hok ea;obtain⟨od,J,_⟩:=O.look;exact J5 (uL (cl.get _) cl.hd ha hn htk hm) I.kIn J e (λz=>nomatch z) h
end
structure Room (k:G8)(A:T8):Prop where
 hd:A.handled=none
 dp:A.depth+3*k+5<recursionLimit
 un:A.units+16*k+200<cLine
 gd:A.guards=some []
variable {k:G8}
theorem Room.mono {j:G8}(r:Room k A)(h:j<=k):Room j A:=⟨r.hd,by have:=r.dp;omega,by have:=r.un;omega,r.gd⟩
theorem Room.deeper (r:Room (k+1) A)(env:Env):Room k (A.deeper env):=
 ⟨r.hd,by have:=r.dp;show A.depth+1+3*k+5<_;omega,by have:=r.un;show A.units+3+16*k+200<_;omega,r.gd⟩
theorem Room.depth (r:Room k A):A.depth<recursionLimit:=by have:=r.dp;omega
theorem Room.units (r:Room k A):A.units+64<cLine:=by have:=r.un;omega
def AQ:TA:=λ_ H Q=>Q [] H
def RM (ta:TE)(tr:TA):TA:=λσ H Q=>ta σ H λx H1=>tr σ H1 λxs H2=>Q (x::xs) H2
section
variable {X:Cx}{e:T1}{es:G0 T1}{te:TE}{t:TA}{pos:Pos}
theorem pa_nil:PA X [] AQ:=λ_ _ _ _ H Q I h=>iC ⟨[],H,I,.nil,h⟩
theorem wR (ha:PE X e te)(hr:PA X es t)(hs:D7 (e::es) X.env=(false,A7 e X.env)::D7 es X.env:=by rfl):PA X (e::es) (RM te t):=by
 intro pos pins s σ H Q I h;rw [hs];show R4 _ _ (spliced ((false,A7 e X.env)::K0 pos (D7 es X.env))) _ _ s;refine fX (thn (ha pins s σ H _ I h) λu s1 ⟨x,H1,I1,r1,q1⟩=> ?_);exact thn (hr pos pins s1 σ H1 _ I1 q1) λus s2 ⟨xs,H2,I2,r2,q2⟩=>⟨x::xs,H2,I2,.cons r1 r2,q2⟩
def Sy (t:TA):TE:=λσ H Q=>t σ H λxs H1=>xs.length<=sizeLine/\ ∀p,H1 p=none->Q (.ref p) (upd H1 p (.tup xs))
def Sz (t:TA):TE:=λσ H Q=>t σ H λxs H1=>xs.length<=sizeLine/\ ∀p,H1 p=none->Q (.ref p) (upd H1 p (.lst xs))
theorem Lf {x1}(h:PA X es t):PE X (.Tuple es x1 pos) (Sy t):=by
 intro pins s σ H Q I hq;refine wpAny_Tuple_spliced (thn (h pos pins s σ H _ I hq) λus s1 ⟨xs,H1,I1,r,z,q⟩=>⟨by rw [<-r.length];exact z,?_⟩);have hf:H1 s1.heap.objs.size=none:=I1.hok.fresh (P4 _);refine⟨.ref s1.heap.objs.size,upd H1 s1.heap.objs.size (.tup xs),I1.laid (t':=s1.toks) (λb u e=>G6 _ e) (P4 _) ?_,rfl,q _ hf⟩;exact⟨z,us,r,IsTupN.new _ _⟩
theorem Lg (h:PA X es t):PE X (.List es pos) (Sz t):=by
 intro pins s σ H Q I hq;refine wpAny_List_spliced (thn (h pos pins s σ H _ I hq) λus s1 ⟨xs,H1,I1,r,z,q⟩=>⟨by rw [<-r.length];exact z,?_⟩);have hf:H1 s1.heap.objs.size=none:=I1.hok.fresh (P4 _);refine⟨.ref s1.heap.objs.size,upd H1 s1.heap.objs.size (.lst xs),I1.laid (t':=s1.toks) (λb u e=>G6 _ e) (P4 _) ?_,rfl,q _ hf⟩;exact⟨z,us,0,r,R8 _ rfl⟩
end
abbrev Sp:=G0 V->Hp->VK->XK->Prop
abbrev CXT:=G0 Env->Hp->G3->XK->G1->G3->Prop
structure Env0 (P:S0)(w:N8)(K:G2)(mg:Str->P8 G1)(base:N9)(A:T8)(outer:G0 Env)(s:G3)(H:Hp):Prop where
 frames:A.frames=some outer
 mod:Mod K mg base
 bs: ∀b o,base.get? b=some o->s.heap.get? b=some o/\H b=none
 bsz:base.objs.size<=s.heap.objs.size
 funs:s.heap.FunFrames base outer
 frf: ∀b∈frs outer,H b=none
 hok:HOk P w H s.heap
 bare:fH s.gens
def CE (outer:G0 Env)(P:S0)(w:N8)(H:Hp)(s:G3)(Q:VK)(u:G1)(s':G3):Prop:=
 ∃v H',s'.os=s.os/\fH s'.gens/\Un (frs outer) [] H H' s.heap s'.heap/\HOk P w H' s'.heap/\RelV v u/\Q v H'
def CR (CX:CXT)(outer:G0 Env)(P:S0)(w:N8)(H:Hp)(s:G3)(Q:VK)(E:XK)(r:pS)(s':G3):Prop:=
 match r with
 | .ok (.ret u)=>CE outer P w H s Q u s'
 | .ok _=>False
 | .error e=>CX outer H s E e s'
structure FnOk (P:S0)(w:N8)(K:G2)(mg:Str->P8 G1)(base:N9)(CX:CXT)(k:G8)(f:G9)(fd:S1)(ps:G0 Str)(sp:Sp):Prop where
 len: ∀vs H Q E,sp vs H Q E->vs.length=ps.length
 run: ∀ (A:T8) (outer:G0 Env) (s:G3) (H:Hp) (args:Args) (us:G0 G1) (vs:G0 V) (Q:VK) (E:XK),Room k A->Env0 P w K mg base A outer s H->lU s fd args (ps.zip us)->Vals vs us->sp vs H Q E->
  Y9 (S4 P w) A (.call (.ref f) args) (CR CX outer P w H s Q E) s
section
variable {X:Cx}{pins:G0 (G9×Obj)}{σ:St}{H:Hp}{s s':G3}
theorem Inv.env0 (I:Inv X pins σ H s):Env0 X.prog X.w X.K X.mg X.base X.A X.stack s H:=
 ⟨I.ok.frames,I.ok.mod,I.bs,T6 I.ok.bsz I.sz,I.stack,I.stkFree,I.hok,I.bare⟩
theorem Inv.after {Q:VK}{u:G1}(I:Inv X pins σ H s)(h:CE X.stack X.prog X.w H s Q u s'):EP X pins σ Q u s':=by
 obtain⟨v,H',os,bare,un,hok,r,q⟩:=h;obtain⟨hh,g,d,t,os'⟩:=s';obtain rfl:os'=s.os:=os;exact⟨v,H',I.call (h':=hh) (g':=g) (d':=d) (t':=t) (ch:= []) un hok bare (λb z=>absurd z (by simp)),r,q⟩
end
def Ba (sp:Sp)(dvs:G0 V)(E:XK)(t:TA):TE:=λσ H Q=>t σ H λvs H1=>sp (vs++dvs) H1 Q E
def Binds (K:G2)(fd:S1)(ps:G0 Str)(ds:G0 G1):Prop:=
 ∀ (s:G3) (us:G0 G1),K.In s.heap->(us++ds).length=ps.length->lU s fd ⟨us,[]⟩ (ps.zip (us++ds))
theorem Binds.all {fd:S1}{ps:G0 Str}(h: ∀us:G0 G1,us.length=ps.length->pT fd ⟨us,[]⟩=pure (ps.zip us)):Binds K fd ps []:=λs us _ hl=>by
 rw [J6] at hl ⊢;exact .of_eq (h us hl)
def Wi (CX:CXT)(X:Cx)(E:XK):Prop:= ∀ (pins:G0 (G9×Obj)) (σ:St) (H:Hp) (s:G3) (e:G1) (s':G3),Inv X pins σ H s->CX X.stack H s E e s'->X.xe e s'
section
variable {X:Cx}{CX:CXT}{k:G8}{f C:G9}{fd:S1}{ps:G0 Str}{sp:Sp}{dvs:G0 V}{ds:G0 G1}{E:XK}{x m:Str}{p pos apos:Pos}{e o:T1}{es:G0 T1}{ta:TE}{t:TA}
theorem Lh {pins:G0 (G9×Obj)}{σ:St}{H:Hp}{s:G3}{Q:VK}{us:G0 G1}{vs:G0 V}(F:FnOk X.prog X.w X.K X.mg X.base CX k f fd ps sp)(hr:Room k X.A)(hb:Binds X.K fd ps ds)(hd:Vals dvs ds)(hx:Wi CX X E)
 (I:Inv X pins σ H s)(r:Vals vs us)(h:sp (vs++dvs) H Q E):R4 (S4 X.prog X.w) X.A (call (.ref f) us) (EP X pins σ Q) X.xe s:=by
 have r2:Vals (vs++dvs) (us++ds):=r.append hd;have hl:(us++ds).length=ps.length:=by rw [<-r2.length];exact F.len _ _ _ _ h
 refine cG (cU (F.run X.A X.stack s H ⟨us,[]⟩ (us++ds) (vs++dvs) Q E hr I.env0 (hb s us I.kIn hl) r2 h) λr s' hq=> ?_);cases r with
 |error e=>exact hx pins σ H s e s' I hq
 |ok fl=>
  cases fl with
  |ret u=>exact I.after hq
  |next=>exact False.elim hq
  |brk=>exact False.elim hq
  |cont=>exact False.elim hq
theorem Py (F:FnOk X.prog X.w X.K X.mg X.base CX k f fd ps sp)(hr:Room k X.A)(hg:Gl X x)(hm:X.mg x=some (.ref f))(hk:E6 X.K (.ref f)=true)(hb:Binds X.K fd ps ds)(hd:Vals dvs ds)(hx:Wi CX X E)
 (ha:PA X (e::es) t)(hdb:(x==("__debug__" :Str))=false:=by decide)(he:D7 (e::es) X.env=(false,A7 e X.env)::D7 es X.env:=by rfl)(hpl:(K0 pos (D7 es X.env)).any (·.1)=false:=by rfl):
 PE X (.Call (.Name x p) (e::es) [] pos) (Ba sp dvs E t):=by
 intro pins s σ H Q I h;refine W8 (Zb I hg hm ?_ hdb);refine fY (h₀:=X.base) I.ok.mod.kin hk (thn (ha pos pins s σ H _ I h) λus s1 ⟨vs,H1,I1,r,q⟩=>⟨I1.kIn,?_⟩) he hpl;exact Lh F hr hb hd hx I1 r q
end
structure FnScope (N P:G0 Str)(sc:A8):Prop where
 kind:sc.kind= .function
 co:sc.isCoroutine=false
 gen:sc.isGenerator=false
 nd:N.Nodup
 pre:N.take P.length=P
 par: ∀x∈P,sc.names.lookup x=some .local\/sc.names.lookup x=some .cell
 nofree: ∀y∈sc.names,y.2≠ .free
variable {kindOf:Str->P8 NameKind}{x:Str}
theorem Ul: ∀ {binds:G0 (Str×G1)} {m:Str->P8 G1},(∀v,(x,v) ∉ binds)->oS kindOf binds m x=m x
 | [],_,_=>rfl
 |(n,v)::r,m,h=>by
  unfold oS;rw [Ul λw hw=>h w (S6 _ hw)];split
  ·have:x≠n:=by rintro rfl;exact h v R7
   simp [this]
  ·rfl
theorem Um: ∀ {binds:G0 (Str×G1)} {m:Str->P8 G1},(∀v,(x,v) ∉ binds)->oU kindOf binds m x=m x
 | [],_,_=>rfl
 |(n,v)::r,m,h=>by
  unfold oU;rw [Um λw hw=>h w (S6 _ hw)];split
  ·rfl
  ·have:x≠n:=by rintro rfl;exact h v R7
   simp [this]
theorem Wj {v:G1}: ∀ {P:G0 Str} {vs:G0 G1} {i:G8} {m:Str->P8 G1},P.Nodup->P[i]? =some x->vs[i]? =some v->kindOf x=some .local->
 oS kindOf (P.zip vs) m x=some v
 | [],_,_,_,_,h,_,_=>by simp at h
 |_::_,[],_,_,_,_,h,_=>by simp at h
 |p::P,w::vs,0,m,nd,h1,h2,hk=>by
  simp at h1 h2;subst h1;subst h2;show oS kindOf ((p,w)::P.zip vs) m p=_;unfold oS;rw [Ul λv hv=>(aD.mp nd).1 (J7 hv).1,S2 hk];simp
 |p::P,w::vs,i+1,m,nd,h1,h2,hk=>by
  show oS kindOf ((p,w)::P.zip vs) m x=_;unfold oS;exact Wj (i:=i) (aD.mp nd).2 (by simpa using h1) (by simpa using h2) hk
theorem Wl {v:G1}: ∀ {P:G0 Str} {vs:G0 G1} {i:G8} {m:Str->P8 G1},P.Nodup->P[i]? =some x->vs[i]? =some v->kindOf x≠some .local->
 oU kindOf (P.zip vs) m x=some v
 | [],_,_,_,_,h,_,_=>by simp at h
 |_::_,[],_,_,_,_,h,_=>by simp at h
 |p::P,w::vs,0,m,nd,h1,h2,hk=>by
  simp at h1 h2;subst h1;subst h2;show oU kindOf ((p,w)::P.zip vs) m p=_;unfold oU;rw [Um λv hv=>(aD.mp nd).1 (J7 hv).1,S3 hk];simp
 |p::P,w::vs,i+1,m,nd,h1,h2,hk=>by
  show oU kindOf ((p,w)::P.zip vs) m x=_;unfold oU;exact Wl (i:=i) (aD.mp nd).2 (by simpa using h1) (by simpa using h2) hk
def start (N:G0 Str)(vs:G0 V):St:=vs.map some++M0 (N.length-vs.length) none
def Yn (CX:CXT)(P:S0)(w:N8)(K:G2)(mg:Str->P8 G1)(base:N9)(N:G0 Str)(qual:Str)(scope:A8)(f:G9)(cd:G1)(A:T8)(outer:G0 Env)(s:G3)(H:Hp)(E:XK):Cx where
 prog:=P
 w:=w
 K:=K
 mg:=mg
 base:=base
 A:=A.deeper (E8 qual scope s.heap.objs.size f cd)
 N:=N
 s₀:=s
 H₀:=H
 env:=E8 qual scope s.heap.objs.size f cd
 outer:=outer
 stack:=E8 qual scope s.heap.objs.size f cd::outer
 ex:= []
 calm:=true
 fn:=λ_=>true
 pn:= []
 xe:=λe s'=>R4 (S4 P w) (A.deeper (E8 qual scope s.heap.objs.size f cd)) (m7 (E8 qual scope s.heap.objs.size f cd) e) (λ_ s''=>CX outer H s E e s'') (λe' s''=>CX outer H s E e' s'') s'
theorem vB {sc:A8}{n:G8}(h:sc.names.lookup x=some .cell): ∃c,(K1 n sc.names []).lookup x=some c:=by
 have q:=Z8 sc.names n [] (.inl h);exact K5.mp q
theorem Uo {CX:CXT}{mg:Str->P8 G1}{base:N9}{N ps:G0 Str}{qual:Str}{scope:A8}{f:G9}{cd:G1}{outer:G0 Env}{s1:G3}{E:XK}{us:G0 G1}{vs:G0 V}
 (S:FnScope N ps scope)(hd:A.handled=none)(e0:Env0 P w K mg base A outer s H)(hl:vs.length=ps.length)(r:Vals vs us)
 (x:InCallC s s.heap.objs.size (oS (E8 qual scope s.heap.objs.size f cd).kindOf (ps.zip us) λ_=>none) (K1 (s.heap.objs.size+1) scope.names []) (oU (E8 qual scope s.heap.objs.size f cd).kindOf (ps.zip us) λ_=>none) s1):
 Inv (Yn CX P w K mg base N qual scope f cd A outer s H E) [] (start N vs) H s1:=by
 have hpl:ps.length<=N.length:=by have:=congrArg oV S.pre;rw [T4] at this;omega
 obtain⟨h1,tk,rfl,hk⟩:=x.done;have noA: ∀b:G9,b ∉ (Yn CX P w K mg base N qual scope f cd A outer s H E).ex:=λb z=>absurd (show b∈([]:G0 G9) from z) (by simp)
 refine⟨⟨e0.mod,S.kind,rfl,rfl,P4 _,λy z c h1 h2=> ?_,λy hy=> ?_,λy c _ h=> ?_,λ_=>hd,dW e0.frames,.inr ⟨rfl,rfl⟩,λb z=>absurd z (noA b),e0.bs,e0.bsz,λb _ _=>noA b,λb z=>absurd z (noA b),e0.funs,e0.frf⟩,
  rfl,e0.bare,Un.kept hk,⟨_,x.toInCall.ns,λi y v h1 h2 h3=> ?_⟩,λy c h=>⟨_,x.cell y c h⟩,e0.hok.fresh (P4 _),λy c h=> ?_,λp hp=>absurd (show p∈([]:G0 (G9×Obj)) from hp) (by simp),e0.hok.kept hk,?_⟩
 ·exact m8 x.apart (E1 h1) (E1 h2)
 ·have hy:scope.names.lookup y=some .cell\/scope.names.lookup y=some .free:=hy;rcases hy with hy|hy
  ·exact vB hy
  ·exact absurd rfl (S.nofree _ (E1 hy))
 ·exact R9 (x.above y c (E1 h))
 ·have hi:i<vs.length:=by
   unfold start at h2
   by_cases hi:i<vs.length
   ·exact hi
   ·rw [N5 (by simpa using hi)] at h2;rw [cN] at h2;split at h2<;>cases h2
  have ha:vs[i]? =some v:=by
   unfold start at h2;rw [L6 (by simpa using hi),R5] at h2;cases e:vs[i]? with
   |none=>rw [e] at h2;cases h2
   |some a=>rw [e] at h2;cases h2;rfl
  obtain⟨u,hu,rv⟩:=r.get ha;have hp:ps[i]? =some y:=by
   rw [<-S.pre,U9 (by omega)];exact h1
  have ndP:ps.Nodup:=by rw [<-S.pre];exact S.nd.sublist (X8 _ _)
  refine⟨u,rv,?_⟩;rcases S.par y (P6 hp) with k|k
  ·exact .inl ⟨k,Wj ndP hp hu k⟩
  ·obtain⟨c,e⟩:=vB (n:=s.heap.objs.size+1) k;refine .inr ⟨.inl k,c,e,?_⟩;have q:=x.cell y c e;rw [Wl ndP hp hu (by show scope.names.lookup y≠_;rw [k];decide)] at q;exact q
 ·exact e0.hok.fresh (R9 (x.above y c (E1 h)))
 ·unfold start;show _=N.length;rw [P7,G7,kY];omega
theorem Bb {CX:CXT}{mg:Str->P8 G1}{base:N9}{f:G9}{name qual:Str}{params:lV}{body:G0 O3}{scope:A8}{dV kV doc pm cdv ct oc:G1}{an od:P8 G9}{osl:N0 (P8 G1)}{N ps:G0 Str}{sp:Sp}(lk:K.lookup f=some ⟨oc,od,.func (V0 name qual params body scope dV kV doc pm an cdv ct),osl⟩)(hcd:cV K cdv qual=true)(S:FnScope N ps scope)
 (len: ∀vs H Q E,sp vs H Q E->vs.length=ps.length)
 (hbody: ∀ (A:T8) (outer:G0 Env) (s:G3) (H:Hp) (vs:G0 V) (Q:VK) (E:XK),Room k (A.deeper (E8 qual scope s.heap.objs.size f cdv))->sp vs H Q E->
  ∃t,PSs (Yn CX P w K mg base N qual scope f cdv A outer s H E) body t/\t {nx:=λ_ H'=>Q .non H',rt:=Q} (start N vs) H):
 FnOk P w K mg base CX (k+1) f (V0 name qual params body scope dV kV doc pm an cdv ct) ps sp:=by
 refine⟨len,λA outer s H args us vs Q E hr e0 hb r hsp=> ?_⟩;have hl:=len _ _ _ _ hsp;have KX:K.In s.heap:=e0.mod.kin.keeps λb o e=>(e0.bs b o e).1
 have lim:s.heap.NoLimit:=e0.mod.nolimit.keeps λb o e=>(e0.bs b o e).1
 have hkind: ∀y∈ps.zip us,scope.names.lookup y.1=some .local\/(scope.names.lookup y.1=some .cell/\((K1 (s.heap.objs.size+1) scope.names []).lookup y.1).isSome=true):=λ⟨n,v⟩ hy=>by
  rcases S.par n (J7 hy).1 with q|q
  ·exact .inl q
  ·exact .inr ⟨q,Z8 _ _ _ (.inl q)⟩
 refine dJ hr.depth (KX _ _ lk) rfl S.co S.gen rfl (fZ KX hcd) (hb _ _ _ _ ?_);refine aS S.kind hkind λenv he s1 x=> ?_
 subst he;refine⟨lim.keeps x.toInCall.keep,m9 ?_⟩;obtain⟨t,ht,hq⟩:=hbody A outer s H vs Q E (hr.deeper _) hsp;have I:Inv (Yn CX P w K mg base N qual scope f cdv A outer s H E) [] (start N vs) H s1:=Uo S hr.hd e0 hl r x;refine T3 (ht [] s1 (start N vs) H _ I hq) (λfl s' hs=> ?_) λe s' hs=>hs
 have fin: ∀ {xC:St} {H':Hp} {v:V} {u:G1},Inv (Yn CX P w K mg base N qual scope f cdv A outer s H E) [] xC H' s'->RelV v u->Q v H'->CE outer P w H s Q u s':=
  λ{xC H' v u} J rv q=>⟨v,H',J.os,J.bare,J.base,J.hok,rv,q⟩
 cases fl with
 |ret u=>
  obtain⟨v,xC,H',J,rv,q⟩:=hs;exact fin J rv q
 |next=>
  obtain⟨xC,H',J,q⟩:=hs;exact fin (v:=V.non) (u:=fN) J rfl q
 |brk=>
  obtain⟨_,_,_,q⟩:=hs;exact False.elim q
 |cont=>
  obtain⟨_,_,_,q⟩:=hs;exact False.elim q
section
variable {X:Cx}{x:Str}{p pos:Pos}{e:T1}{es:G0 T1}{t:TA}{id T:Q4}{r:G0 V->Hp->VK->Prop}
def tCB (r:G0 V->Hp->VK->Prop)(t:TA):TE:=λσ H Q=>t σ H λvs H1=>r vs H1 Q
theorem ZX (hc:CallR X (.builtin id) r)(hg:Gl X x)(hm:X.mg x=none)(hv:J9 x=some (.builtin id))(ha:PA X (e::es) t)(hn:x≠ "__name__" :=by decide)(hdb:(x==("__debug__" :Str))=false:=by decide)
 (he:D7 (e::es) X.env=(false,A7 e X.env)::D7 es X.env:=by rfl)(hpl:(K0 pos (D7 es X.env)).any (·.1)=false:=by rfl):PE X (.Call (.Name x p) (e::es) [] pos) (tCB r t):=by
 intro pins s σ H Q I h;refine W8 (Wg I hg hm hv ?_ hn hdb);exact oE (thn (ha pos pins s σ H _ I h) λus s1 ⟨vs,H1,I1,r1,q1⟩=>hc pins s1 σ H1 vs us Q I1 r1 q1) he hpl
theorem Pz (hc:CallR X (.type T) r)(hg:Gl X x)(hm:X.mg x=none)(hv:J9 x=some (.type T))(ha:PA X (e::es) t)(hn:x≠ "__name__" :=by decide)(hdb:(x==("__debug__" :Str))=false:=by decide)
 (he:D7 (e::es) X.env=(false,A7 e X.env)::D7 es X.env:=by rfl)(hpl:(K0 pos (D7 es X.env)).any (·.1)=false:=by rfl):PE X (.Call (.Name x p) (e::es) [] pos) (tCB r t):=by
 intro pins s σ H Q I h;refine W8 (Wg I hg hm hv ?_ hn hdb);exact Q0 (thn (ha pos pins s σ H _ I h) λus s1 ⟨vs,H1,I1,r1,q1⟩=>hc pins s1 σ H1 vs us Q I1 r1 q1) he hpl
end
end L2
namespace HT
open PySem PyProof.Rows
def jV:G0 P0->G0 P0->N4
 | [],[]=>false
 | [],_::_=>true
 |_::_,[]=>false
 |x::xs,y::ys=>if x=y then jV xs ys else decide (x<y)
theorem YD (x y:P0)(xs ys:G0 P0):jV (x::xs) (y::ys)=if x=y then jV xs ys else decide (x<y):=rfl
theorem Vh:jV [] []=false:=rfl
theorem Yo (y:P0)(ys:G0 P0):jV [] (y::ys)=true:=rfl
theorem Yp (x:P0)(xs:G0 P0):jV (x::xs) []=false:=rfl
theorem Qs (A:T8)(s:G3)(a:P0)(t:Tok)(c:P0)(u:Tok): ∃e,SeqAt.EqAt A s (.int a t) (.int c u) e/\(e=true↔a=c):=
 ⟨(a==c),SeqAt.EqAt.int_int a t c u,by simp⟩
theorem RN (A:T8)(s:G3)(a:P0)(t:Tok)(c:P0)(u:Tok)(prog:S0)(w:N8)(E:G1->G3->Prop)(Q:G1->G3->Prop)(h:Q (.bool (decide (a<c))) s):
 R4 (S4 prog w) A (richCompare .Lt (.int a t) (.int c u)) Q E s:=
 (l9 h:R4 (S4 prog w) A (B1 .Lt (.int a t) (.int c u)) Q E s)
section
open PySem.SeqAt
open PySem.AutoSeq1 (wpAny_loadPart')
open PySem.MeetsSeq PySem.MeetsSeq2 PySem.MeetsSeq3
theorem Jq (l b:G9)(items items2:N0 G1)(n n2:G8)(dd dd2:P8 G9)(sl sl2:N0 (P8 G1))(ns ms:G0 P0)(hi:V9 items.toList ns)(hj:V9 items2.toList ms):
 Meets (Builtin.«tuple.__lt__» ⟨[.ref l,.ref b],[]⟩)
  (λ_ R s=>s.heap.get? l=some {cls:= .type "tuple",dict:=dd,data:= .seq items n,slots:=sl}/\s.heap.get? b=some {cls:= .type "tuple",dict:=dd2,data:= .seq items2 n2,slots:=sl2}/\
   R (.ok (.ret (.bool (jV ns ms)))) s):=
 .of_wp λprog w A R s h=>by
  obtain⟨hp,g,d,tk,os⟩:=s;obtain⟨hl,hb,h⟩:=h;have f2:=qP;have z1:items.size=ns.length:=by rw [<-hi.length];simp
  have z2:items2.size=ms.length:=by rw [<-hj.length];simp
  wp_walk using wpAny_loadPart' hl,wpAny_loadPart' hb,wpAny_forIn_list _ (λrest b s'=>b.1=none/\s'=⟨hp,g,d,tk,os⟩/\ ∃ (vs ws:G0 G1) (ns' ms':G0 P0),rest=vs.zip ws/\
   V9 vs ns'/\V9 ws ms'/\ns'.length+items2.size=ms'.length+items.size/\R (.ok (.ret (.bool (jV ns' ms')))) ⟨hp,g,d,tk,os⟩) _
  case turn=>
   rintro ⟨y,x⟩ rest b s' ⟨hb',rfl,vs,ws,ns',ms',hz,hvi,hwi,hlen,hR⟩;cases hvi with
   |nil=>rw [iD] at hz;cases hz
   |cons a t hvi'=>
    cases hwi with
    |nil=>rw [mO] at hz;cases hz
    |cons c u hwi'=>
     rw [cH] at hz;injection hz with hyx hrest
     injection hyx with hy hx
     subst hy hx;rw [YD] at hR;simp only [R1] at hlen;obtain⟨e,he,hiff⟩:=Qs A.in1 ⟨hp,g,d,tk,os⟩ a t c u;refine wpAny_bind (he prog w _ _ ?_);cases e with
     |true=>
      rw [S2 (hiff.mp rfl)] at hR
      wp_walk
      exact⟨rfl,rfl,_,_,_,_,hrest,hvi',hwi',by omega,hR⟩
     |false=>
      rw [S3 (λq=>absurd (hiff.mpr q) D9)] at hR;have hri:=RN A.in1 ⟨hp,g,d,tk,os⟩ a t c u prog w
      wp_walk using hri
      exact⟨_,rfl,by simpa using hR⟩
  case fin=>
   rintro ⟨b1,b2⟩ s' ⟨hb',rfl,vs,ws,ns',ms',hz,hvi,hwi,hlen,hR⟩;simp only at hb';subst hb';have hv:jV ns' ms'=decide (items.size<items2.size):=by
    cases hvi with
    |nil=>
     cases hwi with
     |nil=>
      simp only [N2] at hlen;rw [Vh];exact(D1 (by omega)).symm
     |cons c u hw=>
      simp only [N2,R1] at hlen;rw [Yo];exact(D0 (by omega)).symm
    |cons a t hv=>
     cases hwi with
     |nil=>
      simp only [N2,R1] at hlen;rw [Yp];exact(D1 (by omega)).symm
     |cons c u hw=>
      rw [cH] at hz;cases hz
   rw [hv] at hR
   wp_walk
   exact⟨_,rfl,by simpa [oB] using hR⟩
  case h=>
   exact⟨rfl,rfl,items.toList,items2.toList,ns,ms,rfl,hi,hj,by omega,h⟩
end
section
variable {prog:S0}{w:N8}{A:T8}{E:G1->G3->Prop}{s:G3}
theorem Gn {l b:G9}{items items2:N0 G1}{ns ms:G0 P0}{Q:G1->G3->Prop}(hl:mU s.heap l items)(hb:mU s.heap b items2)(hi:V9 items.toList ns)(hj:V9 items2.toList ms)
 (hu:A.units<cLine)(h:Q (.bool (jV ns ms)) s):R4 (S4 prog w) A (B1 .Lt (.ref l) (.ref b)) Q E s:=by
 obtain⟨⟨cls,dd,data,sl⟩,ho,hc,n,hd⟩:=id hl;obtain⟨⟨cls2,dd2,u3,sl2⟩,ho2,hc2,n2,hd2⟩:=id hb;simp only at hc hd hc2 hd2;subst hc hd hc2 hd2;exact richCompare_meets_room (op:= .Lt) ⟨_,ho,rfl⟩ ⟨_,ho2,rfl⟩ dL i9 (iV _ _) (Jq l b items items2 n n2 dd dd2 sl sl2 ns ms hi hj)
  ⟨ho,ho2,show aR (jV ns ms)≠Value.notImplemented/\Q (.bool (jV ns ms)) s from ⟨(λx=>nomatch x),h⟩⟩ hu
theorem Bc {t b:G9}{vs ws:G0 G1}{Q:G1->G3->Prop}(ht:mU s.heap t vs.toArray)(hb:mU s.heap b ws.toArray)(hv:vs≠ [])
 (h1:ws= []->Q (.ref t) s)(h2:ws≠ []->Q (.ref s.heap.objs.size) {s with heap:=s.heap.push {cls:= .type "tuple",data:= .seq (vs++ws).toArray}})
 (hsz:vs.length+ws.length<=sizeLine):R4 (S4 prog w) A (J0 .Add (.ref t) (.ref b)) Q E s:=by
 obtain⟨⟨cls,dd,data,sl⟩,ho,hc,n,hd⟩:=id ht;obtain⟨⟨cls2,dd2,u3,sl2⟩,ho2,hc2,n2,hd2⟩:=id hb;simp only at hc hd hc2 hd2;subst hc hd hc2 hd2;have e:vs.toArray++ws.toArray=(vs++ws).toArray:=by simp
 by_cases hw:ws= []
 ·exact nC ⟨_,ho,rfl⟩ ⟨_,ho2,rfl⟩ iW mE cW cO (bQ _ _)
   (tuple_addW1 t b vs.toArray ws.toArray n n2 dd dd2 sl sl2 (by simpa using hv) (by simp [hw])) ⟨ho,ho2,h1 hw⟩
 ·refine nC ⟨_,ho,rfl⟩ ⟨_,ho2,rfl⟩ iW mE cW cO (bQ _ _)
   (tuple_addW2 t b vs.toArray ws.toArray n n2 dd dd2 sl sl2 (by simpa using hv) (by simpa using hw) (by rw [D6,D6];exact hsz)) ⟨ho,ho2,?_⟩
  rw [e];exact h2 hw
def sIx (n d:G8):P8 P0->G8
 |none=>d
 |some v=>if v<0 then (v+(n:P0)).toNat else min v.toNat n
theorem Li (n d:G8)(hd:d<=n)(o:P8 P0):sIx n d o<=n:=by
 cases o with
 |none=>exact hd
 |some v=>
  show (if v<0 then (v+(n:P0)).toNat else min v.toNat n)<=n
  by_cases hv:v<0
  ·rw [S2 hv];omega
  ·rw [S3 hv];exact Z4 _ _
theorem PB (v:P0)(n d:G8):(if v<0 then max (v+(n:P0)) 0 else min v (n:P0))=((sIx n d (some v):G8):P0):=by
 show (if v<0 then max (v+(n:P0)) 0 else min v (n:P0))=(((if v<0 then (v+(n:P0)).toNat else min v.toNat n):G8):P0)
 by_cases hv:v<0
 ·simp only [S2 hv];omega
 ·simp only [S3 hv];omega
theorem Gp (lo hi:P8 P0)(n:G8):U2 lo hi 1 (n:P0)=(((sIx n 0 lo:G8):P0),((sIx n n hi:G8):P0)):=by
 have h1: ¬ ((1:P0)<0):=by omega
 unfold U2;simp only [h1,iY];refine Prod.ext ?_ ?_
 ·cases lo with
  |none=>rfl
  |some v=>exact PB v n 0
 ·cases hi with
  |none=>rfl
  |some v=>exact PB v n n
theorem Gq (i j:G8):O6 (i:P0) (j:P0) 1=j-i:=by
 unfold O6;have h1:(1:P0)>0:=by omega
 simp only [h1,cX,rL];split<;>omega
theorem YE {v:G1}{o:P8 P0}{Q:P8 P0->G3->Prop}(p:j0 v o)(h:Q o s):R4 (S4 prog w) A (o6 v) Q E s:=by
 cases p with
 |none=>exact f6 h
 |int i t=>exact qQ h
theorem yM {sl:G9}{vl vu:G1}{lo hi:P8 P0}{n:G8}{Q:P0×P0×G8->G3->Prop}(hs:s.heap.IsSliceOf sl vl vu .none)(pl:j0 vl lo)(pu:j0 vu hi)
 (h:Q (((sIx n 0 lo:G8):P0),1,sIx n n hi-sIx n 0 lo) s):R4 (S4 prog w) A (W9 (.ref sl) (pure (n:P0))) Q E s:=by
 obtain⟨os,hos,hcs,hds⟩:=id hs;unfold W9 g7;refine wpAny_bind (wpAny_bind (cP hos hds (x:=vl) rfl (wpAny_bind (cP hos hds (x:=vu) rfl (wpAny_bind (cP hos hds (x:= .none) rfl (P5 ?_)))))));refine wpAny_bind (f6 ?_);show R4 _ _ (if ((1:P0)==0)=true then _ else _) _ _ s;rw [S3 (by decide)];refine wpAny_bind (YE pl (wpAny_bind (YE pu (wpAny_bind (P5 ?_)))));show R4 _ _ (match U2 lo hi 1 (n:P0) with|(lo,hi)=>pure (lo,(1:P0),O6 lo hi 1)) _ _ s;rw [Gp lo hi n];show R4 _ _ (pure (((sIx n 0 lo:G8):P0),(1:P0),O6 ((sIx n 0 lo:G8):P0) ((sIx n n hi:G8):P0) 1)) _ _ s;rw [Gq];exact P5 h
theorem RO (xs:N0 G1)(i k:G8):((R6 k).filterMap λ(m:G8)=>xs[((i:P0)+(m:P0)*1).toNat]?).toArray=((xs.toList.drop i).take k).toArray:=by
 have e:(λ(m:G8)=>xs[((i:P0)+(m:P0)*1).toNat]?)=λm=>xs[i+m]? :=by
  funext m
  have:((i:P0)+(m:P0)*1).toNat=i+m:=by omega
  rw [this]
 rw [e];have:=pick_run xs i k;rw [mP] at this;have e2:((λx=>xs[x]?)∘λx=>i+x)=λm=>xs[i+m]? :=rfl
 rw [e2] at this;rw [this]
theorem Zc {t sl:G9}{items:N0 G1}{vl vu:G1}{lo hi:P8 P0}{Q:G1->G3->Prop}(ht:mU s.heap t items)(hs:s.heap.IsSliceOf sl vl vu .none)(pl:j0 vl lo)(pu:j0 vu hi)
 (hw: ¬ (sIx items.size 0 lo=0/\sIx items.size items.size hi=items.size))
 (h:Q (.ref s.heap.objs.size) {s with heap:=s.heap.push {cls:= .type "tuple",data:= .seq ((items.toList.drop (sIx items.size 0 lo)).take (sIx items.size items.size hi-sIx items.size 0 lo)).toArray}})
 (hsz:items.size<=sizeLine):R4 (S4 prog w) A (iF (.ref t) (.ref sl)) Q E s:=by
 have htake:sizeOk (.seq ((items.toList.drop (sIx items.size 0 lo)).take (sIx items.size items.size hi-sIx items.size 0 lo)).toArray):=by
  show ((items.toList.drop (sIx items.size 0 lo)).take (sIx items.size items.size hi-sIx items.size 0 lo)).toArray.size<=sizeLine;rw [D6,T4,C3,C7];omega
 have hj:sIx items.size items.size hi<=items.size:=Li _ _ (P4 _) hi;obtain⟨os,hos,hcs,hds⟩:=id hs;have hTs:s.TypeIs (.ref sl) "slice" :=⟨os,hos,hcs⟩;unfold iF
 try with_reducible refine E3 ?_
 first|refine wpAny_bind (P5 ?_)|skip
 refine wpAny_bind (iG ht.typeIs (by decide) ?_);refine wpAny_bind (I0 (name:=K7 "__getitem__") ht.typeIs A6
  (K2 A6 ht.typeIs fA ?_ (f7 _ _)))
 show R4 _ _ (aT (.ref t) >>= _) _ _ s;refine wpAny_bind (mF ht ?_);refine wpAny_bind (j5 hTs ?_);rw [S2 (by decide)];refine wpAny_bind (yM hs pl pu ?_);have hno: ¬ ((((sIx items.size 0 lo:G8):P0)==0&&(1:P0)==1&&(sIx items.size items.size hi-sIx items.size 0 lo)==items.size)=true):=by
  intro q;rw [B8,B8] at q;have q1:((sIx items.size 0 lo:G8):P0)=0:=eq_of_beq q.1.1;have q2:sIx items.size items.size hi-sIx items.size 0 lo=items.size:=eq_of_beq q.2;exact hw ⟨by omega,by omega⟩
 show R4 _ _ (if (((sIx items.size 0 lo:G8):P0)==0&&(1:P0)==1&&(sIx items.size items.size hi-sIx items.size 0 lo)==items.size)=true then _ else _) _ _ s;rw [S3 hno,RO]
 first
  |exact wpAny_bind (m:=A5 _) (E9 (P5 ⟨_,rfl,P5 h⟩) htake)
  |exact wpAny_bind (m:=A5 _) (E9 (wpAny_bind (P5 (P5 ⟨_,rfl,P5 h⟩))) htake)
  |exact wpAny_bind (wpAny_bind (m:=A5 _) (E9 (P5 (P5 ⟨_,rfl,P5 h⟩)) htake))
  |exact wpAny_bind (wpAny_bind (m:=A5 _) (E9 (P5 ⟨_,rfl,P5 h⟩) htake))
end
end HT
namespace L2
open PySem PySem.Spec PyProof.Rows
abbrev TO:=St->Hp->(P8 P0->Hp->Prop)->Prop
def PO (X:Cx)(e:P8 T1)(t:TO):Prop:=
 ∀ (pins:G0 (G9×Obj)) (s:G3) (σ:St) (H:Hp) (Q:P8 P0->Hp->Prop),Inv X pins σ H s->t σ H Q->
  R4 (S4 X.prog X.w) X.A (evalPart e X.env) (λu s'=> ∃o H',Inv X pins σ H' s'/\j0 u o/\Q o H') X.xe s
def Bd:TO:=λ_ H Q=>Q none H
def AR (t:TE):TO:=λσ H Q=>t σ H λx H1=> ∃i,x= .int i/\Q (some i) H1
section
variable {X:Cx}{e:T1}{te:TE}{lo hi:P8 T1}{tl th:TO}{pos p2:Pos}
theorem po_none:PO X none Bd:=by
 intro pins s σ H Q I h;rw [iJ];exact P5 ⟨none,H,I,.none,h⟩
theorem Be (h:PE X e te):PO X (some e) (AR te):=by
 intro pins s σ H Q I hw;rw [mG];refine thn (h pins s σ H _ I hw) λu s1 ⟨x,H1,I1,r1,q1⟩=> ?_
 obtain⟨i,rfl,q⟩:=q1;obtain⟨t,rfl⟩:=r1;exact⟨some i,H1,I1,.int i t,q⟩
def SlR (X:Cx)(r:V->P8 P0->P8 P0->Hp->VK->Prop):Prop:=
 ∀ (pins:G0 (G9×Obj)) (s:G3) (σ:St) (H:Hp) (x:V) (v vl vu:G1) (lo hi:P8 P0) (sl:G9) (Q:VK),Inv X pins σ H s->RelV x v->s.heap.IsSliceOf sl vl vu .none->j0 vl lo->j0 vu hi->r x lo hi H Q->
  ∃T id,typeLookup (.type T) "__getitem__" =pure (some (.builtin id))/\s.TypeIs v T/\R4 (S4 X.prog X.w) X.A (iF v (.ref sl)) (EP X pins σ Q) X.xe s
theorem SlR.or {r r':V->P8 P0->P8 P0->Hp->VK->Prop}(h:SlR X r)(h':SlR X r'):SlR X (λx lo hi H Q=>r x lo hi H Q\/r' x lo hi H Q):=by
 intro pins s σ H x v vl vu lo hi sl Q I rx hs pl pu q;rcases q with q|q
 ·exact h pins s σ H x v vl vu lo hi sl Q I rx hs pl pu q
 ·exact h' pins s σ H x v vl vu lo hi sl Q I rx hs pl pu q
def tSl (r:V->P8 P0->P8 P0->Hp->VK->Prop)(te:TE)(tl th:TO):TE:=λσ H Q=>te σ H λx H1=>tl σ H1 λl H2=>th σ H2 λu H3=>r x l u H3 Q
theorem RQ {r:V->P8 P0->P8 P0->Hp->VK->Prop}(hr:SlR X r)(he:PE X e te)(hl:PO X lo tl)(hu:PO X hi th):PE X (.Subscript e (.Slice lo hi none p2) pos) (tSl r te tl th):=by
 intro pins s σ H Q I h;refine mQ (thn (he pins s σ H _ I h) λv s1 ⟨x,H1,I1,r1,q1⟩=> ?_);refine oW (thn (hl pins s1 σ H1 _ I1 q1) λvl s2 ⟨l,H2,I2,pl,q2⟩=>thn (hu pins s2 σ H2 _ I2 q2) λvu s3 ⟨u,H3,I3,pu,q3⟩=> ?_);rw [iJ];refine P5 ?_;have I4:Inv X pins σ H3 {s3 with heap:=s3.heap.push {cls:= .type "slice",data:= .fields #[vl,vu,.none]}}:=I3.kept (t':=s3.toks) λb ob q=>G6 _ q
 obtain⟨T,id,hT,ht,hg⟩:=hr pins {s3 with heap:=s3.heap.push {cls:= .type "slice",data:= .fields #[vl,vu,.none]}} σ H3 x v vl vu l u s3.heap.objs.size Q I4 r1 (f8 ..) pl pu q3;show R4 (S4 X.prog X.w) X.A (iK e (.Slice lo hi none p2) v (.ref s3.heap.objs.size)) (EP X pins σ Q) X.xe {s3 with heap:=s3.heap.push {cls:= .type "slice",data:= .fields #[vl,vu,.none]}};exact pU (ops:= [.ref s3.heap.objs.size,v]) ht hT hg (by with_unfolding_all rfl)
def RF (xs:G0 V)(lo hi:P8 P0):G0 V:=(xs.drop (HT.sIx xs.length 0 lo)).take (HT.sIx xs.length xs.length hi-HT.sIx xs.length 0 lo)
theorem Wm (xs:G0 V)(lo hi:P8 P0):(RF xs lo hi).length<=xs.length:=by
 unfold RF;rw [T4,C3];omega
def Td (K:G2):V->P8 P0->P8 P0->Hp->VK->Prop:=λx lo hi H Q=> ∃a xs,x= .ref a/\SqT K H a xs/\
 ¬ (HT.sIx xs.length 0 lo=0/\HT.sIx xs.length xs.length hi=xs.length)/\ ∀p,H p=none->Q (.ref p) (upd H p (.tup (RF xs lo hi)))
theorem sl_tup:SlR X (Td X.K):=by
 intro pins s σ H x v vl vu lo hi sl Q I rx hs pl pu h;obtain⟨a,xs,rfl,hx,hw,q⟩:=h;cases rx;obtain⟨its,r,ht,hz⟩:=I.tuple hx;have hlen:its.toArray.size=xs.length:=by rw [D6];exact r.length.symm
 refine⟨"tuple",_,PyProof.Rows.slot_tuple_getitem.lookup,ht.typeIs,?_⟩;refine HT.Zc ht hs pl pu (by rw [hlen];exact hw) ?_ (by rw [hlen];exact hz);rw [hlen];refine⟨.ref s.heap.objs.size,_,I.laid (t':=s.toks) (o:= .tup (RF xs lo hi)) (λb ob q=>G6 _ q) (P4 _) ?_,rfl,q _ (I.hok.fresh (P4 _))⟩;exact⟨T6 (Wm xs lo hi) hz,_,(r.drop (HT.sIx xs.length 0 lo)).take (HT.sIx xs.length xs.length hi-HT.sIx xs.length 0 lo),IsTupN.new _ _⟩
def AS (K:G2):R2:=λx y H Q=> ∃a b xs ys,x= .ref a/\y= .ref b/\SqT K H a xs/\SqT K H b ys/\xs≠ []/\xs.length+ys.length<=sizeLine/\
 (ys= []->Q (.ref a) H)/\(ys≠ []-> ∀p,H p=none->Q (.ref p) (upd H p (.tup (xs++ys))))
theorem Vals.nil_iff {xs:G0 V}{us:G0 G1}(r:Vals xs us):us= []↔xs= []:=by
 cases r with
 |nil=>simp
 |cons _ _=>simp
theorem op_catT:OpR X (J0 .Add) (AS X.K):=by
 intro pins s σ H x y v u Q I rx ry h;obtain⟨a,b,xs,ys,rfl,rfl,ha,hb,hx,hz,q1,q2⟩:=h;cases rx;cases ry;obtain⟨its,r1,p1,_⟩:=I.tuple ha;obtain⟨its2,r2,p2,_⟩:=I.tuple hb;refine HT.Bc p1 p2 (λz=>hx (r1.nil_iff.mp z)) (λz=>⟨.ref a,H,I,rfl,q1 (r2.nil_iff.mp z)⟩) (λz=> ?_) (by rw [<-r1.length,<-r2.length];exact hz);refine⟨.ref s.heap.objs.size,_,I.laid (t':=s.toks) (o:= .tup (xs++ys)) (λb ob q=>G6 _ q) (P4 _) ?_,rfl,q2 (λw=>z (r2.nil_iff.mpr w)) _ (I.hok.fresh (P4 _))⟩;exact⟨by rw [P7];exact hz,_,r1.append r2,IsTupN.new _ _⟩
end
def ixN (n:G8)(i:P0):P8 G8:=if 0<=i then (if i<n then some i.toNat else none) else if-(n:P0)<=i then some (i+n).toNat else none
def atI {α:Type}(xs:G0 α)(i:P0):P8 α:=(ixN xs.length i).bind λj=>xs[j]?
theorem PC {n:G8}{i:P0}{j:G8}(h:ixN n i=some j):seqIndex? i n=some j/\j<n/\ -(n:P0)<=i/\i<n:=by
 unfold ixN at h
 by_cases h0:0<=i
 ·rw [S2 h0] at h
  by_cases h1:i<n
  ·rw [S2 h1] at h;have e:i.toNat=j:=F7 h;exact⟨by rw [oX h0 h1,e],by omega,by omega,h1⟩
  ·rw [S3 h1] at h;cases h
 ·rw [S3 h0] at h
  by_cases h1: -(n:P0)<=i
  ·rw [S2 h1] at h;have e:(i+n).toNat=j:=F7 h;exact⟨by rw [nD (by omega) h1,e],by omega,h1,by omega⟩
  ·rw [S3 h1] at h;cases h
theorem Xu {α:Type}{xs:G0 α}{i:P0}{v:α}(h:atI xs i=some v): ∃j,seqIndex? i xs.length=some j/\xs[j]? =some v/\j<xs.length/\ -(xs.length:P0)<=i/\i<xs.length:=by
 unfold atI at h;cases e:ixN xs.length i with
 |none=>rw [e] at h;cases h
 |some j=>
  rw [e] at h;obtain⟨h1,h2,h3,h4⟩:=PC e;exact⟨j,h1,h,h2,h3,h4⟩
theorem wt {α:Type}{xs:G0 α}{j:G8}{v:α}(h:xs[j]? =some v):atI xs (j:P0)=some v:=by
 have hj:j<xs.length:=(P9.mp h).1;have e:ixN xs.length (j:P0)=some j:=by
  unfold ixN;rw [S2 (by omega),S2 (by omega)];simp
 unfold atI;rw [e];exact h
def Vi (b:T1):Prop:= ∀o i,sH b false o i=operate [o,i] (iF o i)
def IxR (X:Cx)(r:R2):Prop:=
 ∀ (value slice:T1) (pins:G0 (G9×Obj)) (s:G3) (σ:St) (H:Hp) (x y:V) (v u:G1) (Q:VK),Inv X pins σ H s->RelV x v->RelV y u->r x y H Q->
  sH slice false v u=operate [v,u] (iF v u)->R4 (S4 X.prog X.w) X.A (iK value slice v u) (EP X pins σ Q) X.xe s
def MtR (X:Cx)(id:Q4)(r:V->G0 V->Hp->VK->Prop):Prop:=
 ∀ (pins:G0 (G9×Obj)) (s:G3) (σ:St) (H:Hp) (x:V) (xs:G0 V) (v:G1) (us:G0 G1) (Q:VK),Inv X pins σ H s->RelV x v->Vals xs us->r x xs H Q->
  R4 (S4 X.prog X.w) X.A (call (.builtin id) (v::us)) (EP X pins σ Q) X.xe s
section
variable {X:Cx}{a b:T1}{ta tb:TE}{pos:Pos}
theorem IxR.or {r r':R2}(h:IxR X r)(h':IxR X r'):IxR X (λx y H Q=>r x y H Q\/r' x y H Q):=by
 intro value slice pins s σ H x y v u Q I rx ry q hs;rcases q with q|q
 ·exact h value slice pins s σ H x y v u Q I rx ry q hs
 ·exact h' value slice pins s σ H x y v u Q I rx ry q hs
theorem AT {r:R2}(hr:IxR X r)(ha:PE X a ta)(hb:PE X b tb)(hs:Vi b):PE X (.Subscript a b pos) (tOp r ta tb):=by
 intro pins s σ H Q I h;exact mQ (AI ha hb I h λv u s2 x y H2 I2 rx ry q=>hr a b pins s2 σ H2 x y v u Q I2 rx ry q (hs _ _))
def SA (K:G2):R2:=λx y H Q=> ∃p xs i v,x= .ref p/\y= .int i/\SqL K H p xs/\atI xs i=some v/\Q v H
def SB (K:G2):R2:=λx y H Q=> ∃p xs i v,x= .ref p/\y= .int i/\SqT K H p xs/\atI xs i=some v/\Q v H
def SC:R2:=λx y H Q=> ∃z i c,x= .str z/\y= .int i/\z.length<=sizeLine/\atI z.cps.toList i=some c/\Q (.str ⟨#[c]⟩) H
theorem ix_list:IxR X (SA X.K):=by
 intro value slice pins s σ H x y v u Q I rx ry h hs;obtain⟨p,xs,i,z,rfl,rfl,hq,he,q⟩:=h;cases rx;obtain⟨t,rfl⟩:=ry;obtain⟨its,r,pl,hz⟩:=I.list hq;obtain⟨j,h1,h2,h3,h4,h5⟩:=Xu he;obtain⟨w,ew,rw'⟩:=r.get h2;have hl:=r.length;have hn:=Uk;have fin:EP X pins σ Q w s:=⟨z,H,I,rw',q⟩
 by_cases h0:0<=i
 ·have hj:i.toNat=j:=by
   rw [oX h0 h5] at h1;exact F7 h1
  exact item_listR pl.isList h0 (by omega) (by rw [hj];simpa using ew) fin hs
 ·have hj:(i+(its.toArray.size:P0)).toNat=j:=by
   rw [nD (by omega) h4] at h1;rw [D6,<-hl];exact F7 h1
  exact j6 (x:=w) pl.isList.typeIs slot_list_getitem.lookup
   (wpAny_getItem_list_neg (Q:=λr s'=>r=w/\EP X pins σ Q r s') pl.isList (by omega) (by rw [D6]<;>omega) (by omega) (by rw [hj];simpa using ew) ⟨rfl,fin⟩) hs
theorem ix_tup:IxR X (SB X.K):=by
 intro value slice pins s σ H x y v u Q I rx ry h hs;obtain⟨p,xs,i,z,rfl,rfl,hq,he,q⟩:=h;cases rx;obtain⟨t,rfl⟩:=ry;obtain⟨its,r,pl,hz⟩:=I.tuple hq;obtain⟨j,h1,h2,h3,h4,h5⟩:=Xu he;obtain⟨w,ew,rw'⟩:=r.get h2;have hl:=r.length;have hn:=Uk;have fin:EP X pins σ Q w s:=⟨z,H,I,rw',q⟩;exact j6 (x:=w) pl.typeIs slot_tuple_getitem.lookup
  (getItem_tuple (j:=j) (Q:=λr s'=>r=w/\EP X pins σ Q r s') pl (by omega) (by omega) (by rw [D6,<-hl];exact h1) (by simpa using ew) ⟨rfl,fin⟩) hs
theorem Lj:IxR X SC:=by
 intro value slice pins s σ H x y v u Q I rx ry h hs;obtain⟨z,i,c,rfl,rfl,hz,he,q⟩:=h;obtain⟨t,rfl⟩:=rx;obtain⟨t',rfl⟩:=ry;obtain⟨j,h1,h2,h3,h4,h5⟩:=Xu he;have hl:z.cps.toList.length=z.length:=by simp [Str.length]
 rw [hl] at h1 h4 h5;have hn:=Uk;exact pU (tF s z t) slot_str_getitem.lookup (getItem_str (c:=c) (by
  have e1:decide (i< -(2^63:P0))=false:=D1 (by omega);have e2:decide (i>=2^63)=false:=D1 (by omega);rw [e1,e2,Bool.or_false]) (by rw [h1];simpa using h2) ⟨.str ⟨#[c]⟩,H,I.tok _,⟨_,rfl⟩,q⟩) hs
def rIx (K:G2):R2:=λx y H Q=>SA K x y H Q\/SB K x y H Q\/SC x y H Q
theorem Lk:IxR X (rIx X.K):=ix_list.or (ix_tup.or Lj)
theorem Gr (its:G0 G1)(n j:G8)(u:G1):Y6 (·.setIfInBounds j u) {cls:= .type "list",data:= .seq its.toArray n}= {cls:= .type "list",data:= .seq (its.set j u).toArray n}:=by
 simp [Y6]
theorem Inv.lst {pins:G0 (G9×Obj)}{σ:St}{H:Hp}{s:G3}{p:G9}{xs:G0 V}(I:Inv X pins σ H s)(h:H p=some (.lst xs)):
 ∃ (its:G0 G1) (n:G8),Vals xs its/\s.heap.get? p=some {cls:= .type "list",data:= .seq its.toArray n}/\xs.length<=sizeLine:=by
 obtain⟨z,its,n,r,e⟩:=I.hok p _ h;exact⟨its,n,r,e,z⟩
theorem Inv.lstUpd {pins:G0 (G9×Obj)}{σ:St}{H:Hp}{s:G3}{p:G9}{xs ys:G0 V}{its its':G0 G1}{n n':G8}{f:Obj->Obj}(I:Inv X pins σ H s)(h:H p=some (.lst xs))
 (ho:s.heap.get? p=some {cls:= .type "list",data:= .seq its.toArray n})(hf:f {cls:= .type "list",data:= .seq its.toArray n}= {cls:= .type "list",data:= .seq its'.toArray n'})(r:Vals ys its')(hz:ys.length<=sizeLine)(t:G8):
 Inv X pins σ (upd H p (.lst ys)) {s with heap:=s.heap.update p f,toks:=t}:=by
 have e:(s.heap.update p f).get? p=some {cls:= .type "list",data:= .seq its'.toArray n'}:=by
  rw [aJ f ho (by rw [hf]<;>rfl),hf]
 refine I.write (x:=p) (e:=p) (by rw [h];trivial) (.inl rfl) (λb u hb q=>(j7 _ _ (K6 hb)).trans q) ⟨_,e⟩ ?_;exact⟨hz,its',n',r,e⟩
def AU:V->V->V->Hp->(Hp->Prop)->Prop:=λo i v H Q=> ∃p xs k j,o= .ref p/\i= .int k/\H p=some (.lst xs)/\ixN xs.length k=some j/\Q (upd H p (.lst (xs.set j v)))
theorem RR:Sn X AU:=by
 intro pins s σ H o i v ov iv u Q I ro ri rv h;obtain⟨p,xs,k,j,rfl,rfl,hp,hj,q⟩:=h;cases ro;obtain⟨t,rfl⟩:=ri;obtain⟨its,n,r,ho,hz⟩:=I.lst hp;obtain⟨h1,h2,h3,h4⟩:=PC hj;have hl:=r.length;have hn:=Uk;have I':Inv X pins σ (upd H p (.lst (xs.set j v))) {s with heap:=s.heap.update p (Y6 (·.setIfInBounds j u))}:=
  I.lstUpd hp ho (Gr its n j u) (r.set rv j) (by rw [List.length_set];exact hz) s.toks
 by_cases h0:0<=k
 ·have hk:k.toNat=j:=by
   rw [oX h0 h4] at h1;exact F7 h1
  exact uM ho h0 (by omega) (by rw [D6,<-hl];exact h4) (by rw [hk];exact⟨_,I',q⟩)
 ·have hk:(k+(its.toArray.size:P0)).toNat=j:=by
   rw [nD (by omega) h3] at h1;rw [D6,<-hl];exact F7 h1
  exact tG ho (by omega) (by rw [D6,<-hl];exact h3) (by omega) (by rw [hk];exact⟨_,I',q⟩)
theorem Up (lo hi:P8 P0)(n:G8):(cQ lo hi none n).1=((HT.sIx n 0 lo:G8):P0)/\(cQ lo hi none n).2.1=((HT.sIx n n hi:G8):P0)/\(cQ lo hi none n).2.2=1:=by
 refine⟨?_,?_,rfl⟩
 ·cases lo with
  |none=>simp [cQ,HT.sIx]
  |some i=>
   simp only [cQ,HT.sIx,oF,show (1:P0)>0 by decide,cX]
   by_cases h:i<0
   ·simp only [h,cX]<;>omega
   ·simp only [h,iY]<;>omega
 ·cases hi with
  |none=>simp [cQ,HT.sIx]
  |some i=>
   simp only [cQ,HT.sIx,oF,show (1:P0)>0 by decide,cX]
   by_cases h:i<0
   ·simp only [h,cX]<;>omega
   ·simp only [h,iY]<;>omega
theorem Vj (its:G0 G1)(lo hi:P8 P0):slicePick its.toArray lo hi none=((its.drop (HT.sIx its.length 0 lo)).take (HT.sIx its.length its.length hi-HT.sIx its.length 0 lo)).toArray:=by
 obtain⟨h1,h2,h3⟩:=Up lo hi its.toArray.size;unfold slicePick;rw [h1,h2,h3];simp only [sliceRange_one,pick_run,D6]<;>rfl
def Te (K:G2):V->P8 P0->P8 P0->Hp->VK->Prop:=λx lo hi H Q=> ∃a xs,x= .ref a/\SqL K H a xs/\ ∀p,H p=none->Q (.ref p) (upd H p (.lst (RF xs lo hi)))
theorem Bf:SlR X (Te X.K):=by
 intro pins s σ H x v vl vu lo hi sl Q I rx hs pl pu h;obtain⟨a,xs,rfl,hx,q⟩:=h;cases rx;obtain⟨its,r,ht,hz⟩:=I.list hx;have hlen:=r.length;refine⟨"list",_,slot_list_getitem.lookup,ht.isList.typeIs,?_⟩;refine iM ht.isList hs pl pu .none (by simp) ?_ (by rw [D6]<;>omega);rw [Vj,<-hlen];refine⟨.ref s.heap.objs.size,_,I.laid (t':=s.toks) (o:= .lst (RF xs lo hi)) (λb ob q=>G6 _ q) (P4 _) ?_,rfl,q _ (I.hok.fresh (P4 _))⟩;exact⟨T6 (Wm xs lo hi) hz,_,0,(r.drop (HT.sIx xs.length 0 lo)).take (HT.sIx xs.length xs.length hi-HT.sIx xs.length 0 lo),R8 _ rfl⟩
theorem call_len_seq:CallR X (.builtin "len") (λxs H Q=> ∃p ys,xs= [.ref p]/\(SqL X.K H p ys\/SqT X.K H p ys)/\Q (.int ys.length) H):=by
 intro pins s σ H xs us Q I r h;obtain⟨p,ys,rfl,hq,q⟩:=h;obtain⟨u,rfl,rx⟩:=Jp r;cases rx;have hn:=Uk;rcases hq with hq|hq
 ·obtain⟨its,r',pl,hz⟩:=I.list hq;have hlen:=r'.length;exact Calls.call_len_list pl.isList (by simp only [D6]<;>omega) ⟨.int ys.length,H,I.tok _,⟨s.toks+1,by rw [D6,hlen]⟩,q⟩
 ·obtain⟨its,r',pl,hz⟩:=I.tuple hq;have hlen:=r'.length;exact len_tuple pl (by simp only [D6]<;>omega) ⟨.int ys.length,H,I.tok _,⟨s.toks+1,by rw [D6,hlen]⟩,q⟩
theorem call_list_of:CallR X (.type "list") (λxs H Q=> ∃p ys,xs= [.ref p]/\(SqL X.K H p ys\/SqT X.K H p ys)/\ ∀l,H l=none->Q (.ref l) (upd H l (.lst ys))):=by
 intro pins s σ H xs us Q I r h;obtain⟨p,ys,rfl,hq,q⟩:=h;obtain⟨u,rfl,rx⟩:=Jp r;cases rx;have fin: ∀ (its:G0 G1),Vals ys its->ys.length<=sizeLine-> ∀ (h':N9) (c':G8),(∀b o',s.heap.get? b=some o'->h'.get? b=some o')->
  h'.get? s.heap.objs.size=some {cls:= .type "list",dict:=none,data:= .seq its.toArray c',slots:= #[]}->EP X pins σ Q (.ref s.heap.objs.size) {s with heap:=h'}:=λits r' hz h' c' kp e=>
  ⟨.ref s.heap.objs.size,_,I.laid (t':=s.toks) kp (P4 _) (show ObjOk X.prog X.w _ h' _ (.lst ys) from ⟨hz,its,c',r',e⟩),rfl,q _ (I.hok.fresh (P4 _))⟩
 rcases hq with hq|hq
 ·obtain⟨its,r',pl,hz⟩:=I.list hq;have hlen:=r'.length;obtain⟨o,ho,hc,n,hd⟩:=pl.isList;exact qR p (.inl rfl) ho hc hd (λh' c' kp e=>fin its r' hz h' c' kp e) (by simp only [D6]<;>omega)
 ·obtain⟨its,r',pl,hz⟩:=I.tuple hq;have hlen:=r'.length;obtain⟨o,ho,hc,n,hd⟩:=pl;exact qR p (.inr rfl) ho hc hd (λh' c' kp e=>fin its r' hz h' c' kp e) (by simp only [D6]<;>omega)
theorem call_tuple_of:CallR X (.type "tuple") (λxs H Q=> ∃p ys,xs= [.ref p]/\((SqL X.K H p ys/\ ∀l,H l=none->Q (.ref l) (upd H l (.tup ys)))\/(SqT X.K H p ys/\Q (.ref p) H))):=by
 intro pins s σ H xs us Q I r h;obtain⟨p,ys,rfl,h⟩:=h;obtain⟨u,rfl,rx⟩:=Jp r;cases rx;rcases h with ⟨hq,q⟩|⟨hq,q⟩
 ·obtain⟨its,r',pl,hz⟩:=I.list hq;have hlen:=r'.length;refine call_tuple_list pl.isList (λh' kp=> ?_) (by simp only [D6]<;>omega);have I1:Inv X pins σ H {s with heap:=h'}:=I.kept (t':=s.toks) kp;have I2:Inv X pins σ (upd H h'.objs.size (.tup ys)) {s with heap:=h'.push {cls:= .type "tuple",data:= .seq its.toArray}}:=
   I1.laid (t':=s.toks) (λb o e=>G6 _ e) (P4 _) (show ObjOk X.prog X.w _ _ _ (.tup ys) from ⟨hz,its,r',IsTupN.new _ _⟩)
  exact⟨.ref h'.objs.size,_,I2,rfl,q _ (I1.hok.fresh (P4 _))⟩
 ·obtain⟨its,r',pl,hz⟩:=I.tuple hq;exact call_tuple_same pl ⟨.ref p,H,I,rfl,q⟩
def tyV (K:G2)(T:Q4)(x:V)(H:Hp):Prop:=match x with
 | .str _=>T= "str"
 | .int _=>T= "int"
 | .ref p=>(T= "list" /\ ∃xs,SqL K H p xs)\/(T= "tuple" /\ ∃o,K.lookup p=some o/\o.cls= .type "tuple" /\o.dict=none)\/
  (T= "dict" /\((∃kvs,H p=some (.dK kvs))\/ ∃kvs,H p=some (.dT kvs)))\/(T= "set" /\ ∃S n,H p=some (.set S n))
 |_=>False
theorem Ll {pins:G0 (G9×Obj)}{σ:St}{H:Hp}{s:G3}{T:Q4}{x:V}{v:G1}(I:Inv X pins σ H s)(r:RelV x v)(ty:tyV X.K T x H):
 s.TypeIs v T/\ ∀a,v= .ref a-> ∃ob,s.heap.get? a=some ob/\ob.dict=none:=by
 cases x with
 |str z=>
  obtain⟨t,rfl⟩:=r;cases (show T= "str" from ty);exact⟨tF s z t,λ_ e=>nomatch e⟩
 |int i=>
  obtain⟨t,rfl⟩:=r;cases (show T= "int" from ty);exact⟨j8 s i t,λ_ e=>nomatch e⟩
 |ref p=>
  cases r;rcases ty with ⟨rfl,xs,hq⟩|⟨rfl,o,hk,hc,hd⟩|⟨rfl,hk⟩|⟨rfl,S,n,hk⟩
  ·obtain⟨its,_,pl,_⟩:=I.list hq;refine⟨pl.isList.typeIs,λa e=> ?_⟩;cases e;obtain⟨o,n,e,c,hd,_⟩:=pl;exact⟨o,e,hd⟩
  ·refine⟨⟨o,I.kIn p o hk,hc⟩,λa e=> ?_⟩;cases e;exact⟨o,I.kIn _ o hk,hd⟩
  ·have z: ∃o,s.heap.get? p=some o/\o.ExactDict:=by
    rcases hk with ⟨kvs,hk⟩|⟨kvs,hk⟩
    ·obtain⟨_,_,_,_,o,_,_,e,ex,_⟩:=I.hok p _ hk;exact⟨o,e,ex⟩
    ·obtain⟨_,_,_,_,o,_,_,e,ex,_⟩:=I.hok p _ hk;exact⟨o,e,ex⟩
   obtain⟨o,e,ex⟩:=z;refine⟨⟨o,e,ex.1⟩,λa e2=> ?_⟩;cases e2;exact⟨o,e,ex.2.1⟩
  ·obtain⟨o,_,_,_,e,ex,_⟩:=I.hok p _ hk;refine⟨⟨o,e,ex.1⟩,λa e2=> ?_⟩;cases e2;exact⟨o,e,ex.2.1⟩
 |_=>exact False.elim ty
def tBM (K:G2)(T:Q4)(r:V->G0 V->Hp->VK->Prop)(to:TE)(t:TA):TE:=λσ H Q=>to σ H λx H1=>tyV K T x H1/\t σ H1 λxs H2=>r x xs H2 Q
variable {o e:T1}{es:G0 T1}{to:TE}{t:TA}{name:Str}{apos cpos:Pos}{T id:Q4}{r:V->G0 V->Hp->VK->Prop}
theorem Bg (pa:PlainAttrs T)(slot:Slot T name id)(hty:tJ (.builtin id)=pure (.type "method_descriptor"))(hm:MtR X id r)(ho:PE X o to)(ha:PA X (e::es) t)
 (hbase:bR o name X.env (A7 o X.env)=A7 o X.env:=by rfl)
 (hfew:((K0 cpos (D7 (e::es) X.env)).all (λx=> !x.1)&&(lE cpos (dX [] X.env)).all (λx=>x.1.isSome)
  &&decide ((e::es).length+([]:G0 cY).length+(if ([]:G0 cY).isEmpty then 0 else 1)<30))=true:=by rfl)
 (hline:(apos.endLine==cpos.line)=true:=by rfl)(hs:D7 (e::es) X.env=(false,A7 e X.env)::D7 es X.env:=by rfl)(hplain:(K0 cpos (D7 es X.env)).any (·.1)=false:=by rfl):
 PE X (.Call (.Attribute o name apos) (e::es) [] cpos) (tBM X.K T r to t):=by
 intro pins s σ H Q I h;refine wpAny_Call_method_late hbase hfew hline rfl (thn (ho pins s σ H _ I h) λv s1 ⟨x,H1,I1,r1,ty,q1⟩=> ?_);obtain⟨h1,h2⟩:=Ll I1 r1 ty;refine⟨T,id,pa,slot,hty,h1,h2,?_⟩;have hA:=ha cpos pins s1 σ H1 _ I1 q1;rw [hs] at hA ⊢;refine Calls.callWith_builtin (by show (false||(K0 cpos (D7 es X.env)).any (·.1))=false;rw [hplain]<;>rfl) (lF ?_);exact thn hA λus s2 ⟨vs,H2,I2,r2,q2⟩=>hm pins s2 σ H2 x vs v us Q I2 r1 r2 q2
end
def MtM (X:Cx)(id:Q4)(r:V->G0 V->Hp->VK->Prop):Prop:=
 ∀ (pins:G0 (G9×Obj)) (s:G3) (σ:St) (H:Hp) (x:V) (xs:G0 V) (v:G1) (us:G0 G1) (Q:VK),Inv X pins σ H s->RelV x v->Vals xs us->r x xs H Q->
  R4 (S4 X.prog X.w) X.A (call (.builtin id) (v::us)) (EP X pins σ Q) X.xe s
theorem Vals.one: ∀ {x:V} {us:G0 G1},Vals [x] us-> ∃u,us= [u]/\RelV x u
 |_,_,.cons r .nil=>⟨_,rfl,r⟩
theorem Vals.rep {xs:G0 V}{us:G0 G1}(h:Vals xs us): ∀k:G8,Vals (M0 k xs).flatten (M0 k us).flatten
 |0=> .nil
 |k+1=>by
  rw [U0,U0,X9,X9];exact Vals.append h (Vals.rep h k)
theorem Wn (its:G0 G1): ∀ (k:G8) (acc:G0 G1),
 pV (λx1 x2=>x1++x2) acc.toArray (M0 k its.toArray)=(acc++(M0 k its).flatten).toArray
 |0,acc=>by simp
 |k+1,acc=>by
  have e:acc.toArray++its.toArray=(acc++its).toArray:=by simp
  have e2:(acc++its)++(M0 k its).flatten=acc++(M0 (k+1) its).flatten:=by
   rw [U0,X9,D4]
  rw [<-e2,<-Wn its k (acc++its),<-e,U0,o7]
section
variable {X:Cx}{pins:G0 (G9×Obj)}{σ:St}{H:Hp}{s:G3}{l b:G9}{xs ys zs:G0 V}
theorem Inv.lset {its its':G0 G1}{n:G8}{f:N0 G1->N0 G1}{t':G8}(I:Inv X pins σ H s)(hH:H l=some (.lst xs))
 (e:s.heap.get? l=some {cls:= .type "list",data:= .seq its.toArray n})(hf:f its.toArray=its'.toArray)(hv:Vals ys its')(hz:ys.length<=sizeLine):
 Inv X pins σ (upd H l (.lst ys)) {s with heap:=s.heap.update l (Y6 f),toks:=t'}:=by
 have q:=PySem.IsL.update e f;rw [hf] at q;refine I.write (x:=l) (e:=l) (by rw [hH];exact trivial) (.inl rfl) (λb' u hb hu=>(j7 s.heap (Y6 f) (K6 hb)).trans hu) ⟨_,q⟩ ?_;exact⟨hz,its',_,hv,q⟩
theorem Inv.lnew {its:G0 G1}{t':G8}(I:Inv X pins σ H s)(hv:Vals ys its)(hz:ys.length<=sizeLine):
 Inv X pins σ (upd H s.heap.objs.size (.lst ys)) {s with heap:=s.heap.push {cls:= .type "list",data:= .seq its.toArray},toks:=t'}:=
 I.laid (λ_ _ q=>G6 _ q) (P4 _) ⟨hz,its,0,hv,R8 _ rfl⟩
theorem Inv.fresh (I:Inv X pins σ H s):H s.heap.objs.size=none:=I.hok.fresh (P4 _)
theorem Inv.lstM (I:Inv X pins σ H s)(hH:H l=some (.lst xs)):xs.length<=sizeLine/\ ∃ (its:G0 G1) (n:G8),Vals xs its/\xs.length=its.length/\s.heap.get? l=some {cls:= .type "list",data:= .seq its.toArray n}:=by
 obtain⟨z,its,n,r,e⟩:=I.hok l _ hH;exact⟨z,its,n,r,r.length,e⟩
theorem RS {n:G8}(h:n<=sizeLine):bS n=false:=by
 unfold bS;exact D1 (by omega)
end
section
variable {X:Cx}
def Bh:V->G0 V->Hp->VK->Prop:=λx vs H Q=> ∃l xs y,x= .ref l/\vs= [y]/\H l=some (.lst xs)/\xs.length<sizeLine/\Q .non (upd H l (.lst (xs++ [y])))
theorem PD:MtM X "list.append" Bh:=by
 intro pins s σ H x vs v us Q I rx rv h;obtain⟨l,xs,y,rfl,rfl,hH,hz,q⟩:=h;cases rx;obtain⟨u,rfl,ru⟩:=rv.one;obtain⟨z,its,n,r,hl,e⟩:=I.lstM hH;refine gA F.slot_list_append ⟨_,e,rfl⟩ F.entry_list_append (F.args_list_append_2 _ _) (PySem.list_append l its.toArray n u (by rw [D6];omega)) ⟨e,?_⟩;refine⟨.non,_,I.lset (its':=its++ [u]) hH e (by simp) (r.append (.cons ru .nil)) ?_,rfl,q⟩;rw [P7,X3];omega
def Tf:R2:=λx y H Q=> ∃l b xs zs,x= .ref l/\y= .ref b/\H l=some (.lst xs)/\H b=some (.lst zs)/\xs.length+zs.length<=sizeLine/\ ∀p,H p=none->Q (.ref p) (upd H p (.lst (xs++zs)))
theorem Lm:OpR X (J0 .Add) Tf:=by
 intro pins s σ H x y v u Q I rx ry h;obtain⟨l,b,xs,zs,rfl,rfl,hH,hB,hz,q⟩:=h;cases rx;cases ry;obtain⟨z,its,n,r,hl,e⟩:=I.lstM hH;obtain⟨z2,its2,n2,r2,hl2,e2⟩:=I.lstM hB;refine PySem.P.add_list e e2 ?_ (by rw [D6,D6];omega);have ea:its.toArray++its2.toArray=(its++its2).toArray:=by simp
 rw [ea];exact⟨.ref _,_,I.lnew (t':=s.toks) (r.append r2) (by rw [P7];omega),rfl,q _ I.fresh⟩
def Tg:R2:=λx y H Q=> ∃l k xs,x= .ref l/\y= .int k/\H l=some (.lst xs)/\ -(2^63)<=k/\k<2^63/\xs.length*k.toNat<=sizeLine/\
 ∀p,H p=none->Q (.ref p) (upd H p (.lst (M0 k.toNat xs).flatten))
theorem Xv {α:Type}(xs:G0 α)(k:G8):(M0 k xs).flatten.length=k*xs.length:=by
 induction k with
 |zero=>simp
 |succ k ih=>rw [U0,X9,P7,ih,rM,nH]
theorem Lo:OpR X (J0 .Mult) Tg:=by
 intro pins s σ H x y v u Q I rx ry h;obtain⟨l,k,xs,rfl,rfl,hH,h1,h2,hz,q⟩:=h;cases rx;obtain⟨t,rfl⟩:=ry;obtain⟨z,its,n,r,hl,e⟩:=I.lstM hH;have hlen:its.toArray.size*k.toNat<=sizeLine:=by rw [D6,<-hl];exact hz
 have hcap: ¬its.toArray.size*k.toNat>(2^63-1) / 8:=by
  have:(sizeLine:G8)<=(2^63-1) / 8:=by decide
  omega
 have hfit: ¬ (!pW k)=true:=by
  rw [fitsIndex_both h1 h2];exact D9
 have hlong: ¬bS (its.toArray.size*k.toNat)=true:=by
  rw [RS hlen];exact D9
 have hnew:pV (λx1 x2=>x1++x2) #[] (M0 (if its.toArray.isEmpty=true then 0 else k.toNat) its.toArray)=(M0 k.toNat its).flatten.toArray:=by
  have f0: ∀m:G8,pV (λx1 x2=>x1++x2) #[] (M0 m its.toArray)=(M0 m its).flatten.toArray:=λm=>by
   have:=Wn its m [];rw [C9] at this;exact this
  rw [f0];cases its with
  |nil=>simp
  |cons a r'=>rw [S3 (by simp)]
 refine g8 (T:= "list") (U:= "int") (by decide) ⟨_,e,rfl⟩ (λs'=>j8 s' k t) noFill_list_mul o8 eN repeat_list F.slot_int_index.lookup
  (gA eN (j8 s k t) oG (nI _ _) (int___rmul___int_list k t l its.toArray n)
   ⟨e,rfl,⟨_,e,rfl⟩,gA F.slot_list_mul ⟨_,e,rfl⟩ F.entry_list_mul (F.args_list_mul_2 _ _) (AutoListH.list___mul___list_int_3 l its.toArray n k t hfit hcap hlong) ⟨e,?_⟩⟩)
 rw [hnew];exact⟨.ref _,_,I.lnew (t':=s.toks) (r.rep k.toNat) (by rw [Xv,nJ];exact hz),rfl,q _ I.fresh⟩
end
end L2
namespace Att
open PySem PySem.W PySem.Calls PyProof.Rows
theorem Wo {P:u4}{h:N9}: ∀ (ns:G0 P0) (vs:G0 G1),WellAll P h vs (ns.map WData.int)->V9 vs ns:=by
 intro ns
 induction ns with
 |nil=>
  intro vs w;rw [V1] at w;cases w;exact .nil
 |cons n ns ih=>
  intro vs w;rw [B2] at w;cases w with
  |cons a b=>
   cases a;exact .cons _ _ (ih _ b)
theorem PF {l:OpenLaw}{n:G8}(hn:l.most=some n){P:u4}{h:N9}{args:G0 WData}{vals:G0 G1}
 (hpre:l.row.toRowW.claim.pre args=true)(hwl:WellAll P h vals args):
 ∃a vs ns,vals= [aI a]/\args= [WData.list (ns.map WData.int)]/\h.get? a=some {cls:= .type "list",data:= .seq vs.toArray}/\V9 vs ns/\ns.length<=n:=by
 have hsh:WShape.hasAll [] args [.list .int]=true:=(pre_splitW hpre).1;have hc:l.pre.holds [] {args:=args}=true:=(pre_splitW hpre).2;obtain⟨d,r,rfl,h1,h2⟩:=hasAllW_cons hsh;obtain rfl:=hasAllW_nil h2;obtain⟨xs,rfl,h3⟩:=hasW_list h1;obtain⟨ns,rfl⟩:=items_int h3;have hlen:ns.length<=n:=by
  unfold OpenLaw.pre at hc;have h4:(WTm.not (.lt (.lit (.int (n:P0))) (.len (.arg 0)))).holds [] {args:= [.list (ns.map .int)]}=true:=by
   have h4:=(holds_andW hc).1;rw [hn] at h4;exact h4
  have h5:=condW_of h4 (w_not (w_lt w_lit (w_len_list (w_arg rfl))));rw [G7] at h5;refine i0 λq=> ?_
  have q':(n:P0)<((ns.length:G8):P0):=by omega
  first
   |(rw [D0 q'] at h5;exact absurd h5 (by decide))
   |(simp at h5;omega)
 cases hwl with
 |cons w1 w2=>
  cases w2;cases w1 with
  |list ho hall=>exact⟨_,_,ns,rfl,rfl,ho,Wo ns _ hall,hlen⟩
theorem PH (l:OpenLaw)(args:G0 WData):l.row.toRowW.claim.post args (.bool true) args=true:=
 postW_of (r:=l.row.toRowW) (X:=(true==true))
  (show WShape.has [] (.bool true) .bool=true by first|rfl|decide|simp [WShape.has,WShape.arms,WShape.armsAll])
  (show (WTm.eq .res (.lit (.bool true))).value [] {args:=args,res:=some (.bool true),after:=args}=some (.bool (true==true)) from w_eq_bool (w_res rfl) w_lit) rfl
theorem attach_call {l:OpenLaw}{n:G8}{q:S0}{loose:G0 Str}{XP:(Str->P8 G1)->N9->Prop}{YP:N8->N9->Prop}{d:DefRec}
 (hn:l.most=some n)(hdf:d.params.defaults= [])
 (call: ∀ (w:N8) (s₀ xE:G3) (mg mb:Str->P8 G1) (fa:G9) (o:Obj) (pm cd doc:G1) (a:G9) (vs:G0 G1) (ns:G0 P0),
  Ground q loose [] XP w s₀ mg mb xE.heap->YP w xE.heap->
  xE.heap.get? fa=some o->o.data= .func (docDef d.name d.params d.body d.scope pm cd doc)->xE.heap.CodeRec cd d.name->mg d.name=some (.ref fa)->
  xE.heap.get? a=some {cls:= .type "list",data:= .seq vs.toArray}->V9 vs ns->ns.length<=n->xE.gens= #[]->
  Y9 (S4 l.prog w) l8 (.call (.ref fa) ⟨[.ref a],[]⟩) (λr s'=>r= .ok (.ret (.bool true))/\OldK xE.heap s'.heap/\s'.os=xE.os/\fH s'.gens) xE):
 WalkO q loose XP YP l.row.toRowW d [] (λf vs=>tK f vs):=by
 intro w s₀ xE mg mb G Y fa o pm cd doc dV kV ho hd hcd hD hmg hg args vals as hpre hlay hrd hwl hlo;obtain rfl:dV= .none:=Dflts.none hD hdf;obtain rfl:kV= .none:=Dflts.noKw hD;obtain⟨a,vs,ns,rfl,rfl,hobj,hints,hlen⟩:=PF hn hpre hwl;refine enter_call (cU (call w s₀ xE mg mb fa o pm cd doc a vs ns G Y ho (fd_plain hd) hcd hmg hobj hints hlen hg) λr s' hq=> ?_);obtain⟨rfl,h2,h3,h4⟩:=hq;exact⟨.inl ⟨.bool true,.bool true,[],rfl,λ_=>rfl,.bool true,PH l _,λ_=>⟨iH,λ_ hm=>(nomatch hm)⟩⟩,h2,h3,h4⟩
end Att
namespace L2
open PySem PySem.Spec PyProof.Rows
theorem Uq: ∀ {vs:G0 G1} {ns:G0 P0},V9 vs ns->Vals (ns.map V.int) vs
 |_,_,.nil=> .nil
 |_,_,.cons n t h=> .cons ⟨t,rfl⟩ (Uq h)
def Only (H:Hp):Prop:= ∀b,H b=none\/ ∃o xs,H b=some (.frz o (.lst xs))
def yZ (s:O3):lV:=match s with
 | .FunctionDef _ a _ _ _ _ _ _ _ _=>a
 |_=> {posonlyargs:= [],args:= [],vararg:=none,kwonlyargs:= [],kw_defaults:= [],kwarg:=none,defaults:= []}
def jW (s:O3):G0 O3:=match s with
 | .FunctionDef _ _ b _ _ _ _ _ _ _=>b
 |_=> []
def jd (s:O3):A8:=match s with
 | .FunctionDef _ _ _ _ _ _ sc _ _ _=>sc
 |_=> {kind:= .function,names:= [],isGenerator:=false,isCoroutine:=false}
abbrev CX0:CXT:=λ_ _ _ _ _ _=>False
abbrev E0:XK:=λ_ _ _=>False
variable {X:Cx}
theorem Bi:Wi CX0 X E0:=λ_ _ _ _ _ _ _ h=>h.elim
structure Fun (K:G2)(x qual:Str)(st:O3)(f:G9)(fd:S1):Prop where
 ex: ∃ (oc:G1) (od:P8 G9) (kV doc pm:G1) (an:P8 G9) (cdv ct:G1) (osl:N0 (P8 G1)),
  fd=V0 x qual (yZ st) (jW st) (jd st) .none kV doc pm an cdv ct/\K.lookup f=some ⟨oc,od,.func fd,osl⟩/\cV K cdv qual=true
 kp:E6 K (.ref f)=true
section
variable {P:S0}{w:N8}{K:G2}{mg:Str->P8 G1}{base:N9}
variable {qual:Str}
theorem Fun.ok {x:Str}{st:O3}{f:G9}{fd:S1}{N ps:G0 Str}{k:G8}{sp:Sp}(F:Fun K x qual st f fd)(S:FnScope N ps (jd st))(len: ∀vs H Q E,sp vs H Q E->vs.length=ps.length)
 (hbody: ∀ (cdv:G1) (A:T8) (outer:G0 Env) (s:G3) (H:Hp) (vs:G0 V) (Q:VK) (E:XK),Room k (A.deeper (E8 qual (jd st) s.heap.objs.size f cdv))->sp vs H Q E->
  ∃t,PSs (Yn CX0 P w K mg base N qual (jd st) f cdv A outer s H E).nox (jW st) t/\t {nx:=λ_ H'=>Q .non H',rt:=Q} (start N vs) H):FnOk P w K mg base CX0 (k+1) f fd ps sp:=by
 obtain⟨oc,od,kV,doc,pm,an,cdv,ct,osl,rfl,lk,hcd⟩:=F.ex;refine Bb lk hcd S len λA outer s H vs Q E hr hsp=> ?_
 obtain⟨t,h,q⟩:=hbody cdv A outer s H vs Q E hr hsp;exact⟨t,h.nox,q⟩
theorem Fun.binds {x:Str}{st:O3}{f:G9}{fd:S1}{ps:G0 Str}(F:Fun K x qual st f fd)
 (h: ∀ (kV doc pm:G1) (an:P8 G9) (cdv ct:G1) (us:G0 G1),us.length=ps.length->pT (V0 x qual (yZ st) (jW st) (jd st) .none kV doc pm an cdv ct) ⟨us,[]⟩=pure (ps.zip us)):Binds K fd ps []:=by
 obtain⟨oc,od,kV,doc,pm,an,cdv,ct,osl,rfl,lk,hcd⟩:=F.ex;exact .all (h kV doc pm an cdv ct)
theorem Lp {x:Str}{st:O3}{f:G9}{oc:G1}{od an:P8 G9}{osl:N0 (P8 G1)}{kV doc pm cdv ct:G1}(l:K.lookup f=some ⟨oc,od,.func (V0 x qual (yZ st) (jW st) (jd st) .none kV doc pm an cdv ct),osl⟩)
 (c:cV K cdv qual=true)(k:E6 K (.ref f)=true):Fun K x qual st f (V0 x qual (yZ st) (jW st) (jd st) .none kV doc pm an cdv ct):=⟨⟨oc,od,kV,doc,pm,an,cdv,ct,osl,rfl,l,c⟩,k⟩
end
theorem ju {n:G8}(h:n<=1000):n<sizeLine:=K9 h (by decide)
theorem jH {A B:Prop}(h:B):if false=true then A else B:=by
 rw [S3 D9];exact h
theorem jw {A B:Prop}(h:A):if true=true then A else B:=by
 rw [S2 rfl];exact h
theorem PJ {c A B:Prop}[Decidable c](h1:c->A)(h2: ¬c->B):if c then A else B:=by
 by_cases h:c
 ·rw [S2 h];exact h1 h
 ·rw [S3 h];exact h2 h
section
variable {κ:Type}[DecidableEq κ]
def Nr (kvs:G0 (κ×V))(k:κ)(v:V):G0 (κ×V):=
 if (kvs.any λkv=>decide (kv.1=k))=true then kvs.map (λkv=>if kv.1=k then (kv.1,v) else kv) else kvs++ [(k,v)]
theorem Xw (kvs:G0 (κ×V))(k:κ)(v:V):(Nr kvs k v).length<=kvs.length+1:=by
 unfold Nr;split
 ·rw [G7];omega
 ·rw [P7,R1,N2];omega
theorem KV.any {kvs:G0 (κ×V)}{vs:G0 (κ×G1)}(r:KV kvs vs)(k:κ):(kvs.any λkv=>decide (kv.1=k))=vs.any λkv=>decide (kv.1=k):=by
 unfold KV at r
 induction r with
 |nil=>rfl
 |cons h t ih=>rw [iN,iN,ih,h.1]
theorem KV.repl {kvs:G0 (κ×V)}{vs:G0 (κ×G1)}(r:KV kvs vs)(k:κ){y:V}{u:G1}(ry:RelV y u):
 KV (kvs.map λkv=>if kv.1=k then (kv.1,y) else kv) (vs.map λkv=>if kv.1=k then (kv.1,u) else kv):=by
 unfold KV at r ⊢
 induction r with
 |nil=>exact .nil
 | @cons p q ps qs h t ih=>
  rw [B2,B2];refine .cons ?_ ih;obtain⟨h1,h2⟩:=h
  by_cases e:p.1=k
  ·rw [S2 e,S2 (h1.symm.trans e)];exact⟨h1,ry⟩
  ·rw [S3 e,S3 (λz=>e (h1.trans z))];exact⟨h1,h2⟩
theorem KV.put {kvs:G0 (κ×V)}{vs:G0 (κ×G1)}(r:KV kvs vs)(k:κ){y:V}{u:G1}(ry:RelV y u):KV (Nr kvs k y) (u5 vs k u):=by
 unfold Nr u5;rw [r.any k]
 by_cases e:(vs.any λkv=>decide (kv.1=k))=true
 ·rw [S2 e,S2 e];exact r.repl k ry
 ·rw [S3 e,S3 e];exact Paired.snoc r ⟨rfl,ry⟩
end
variable {P:S0}{w:N8}
theorem AV {k:Key}{u:G1}(r:RelV (kV k) u):(wP P w).is k u=true:=by
 cases k with
 |inl i=>obtain⟨t,e⟩:=(show ∃t,u=aX i t from r);subst e;exact Xs P w i t
 |inr x=>obtain⟨t,e⟩:=(show ∃t,u=iT x t from r);subst e;exact Xt P w x t
section
variable {P:S0}{w:N8}{H:Hp}{h:N9}{a:G9}
theorem AW {u:HO}(ok:HOk P w H h)(e:Rd H a u):ObjOk P w H h a u:=e.ok ok
theorem AX {kvs:G0 (Key×V)}(ok:HOk P w H h)(e:Rd H a (.dK kvs)):kvs.length<=sizeLine/\(a==cC)=false/\ ∃vs,KV kvs vs/\h.DictOf (wP P w) a vs:=
 show ObjOk P w H h a (.dK kvs) from AW ok e
theorem AY {kvs:G0 (Key×V)}(ok:HOk P w H h)(e:H a=some (.dK kvs)):kvs.length<=sizeLine/\(a==cC)=false/\ ∃vs,KV kvs vs/\h.DictOf (wP P w) a vs:=AX ok (.inl e)
end
section
variable {X:Cx}{pins:G0 (G9×Obj)}{σ:St}{H:Hp}{s:G3}{a:G9}{y v:V}{u r:G1}{o:P8 V}{A:T8}{E:G1->G3->Prop}
theorem Inv.big (I:Inv X pins σ H s):cC<s.heap.objs.size:=by
 have h:mainGlobals<s.heap.objs.size:=(I.mod.glob.keeps I.bk).lt;exact cZ (by decide) h
theorem Bj {h':N9}{t':G8}{ob:HO}(I:Inv X pins σ H s)(mu:Mut (H a))(hs:Z6 a s.heap h')(he: ∃q,h'.get? a=some q)(new:ObjOk X.prog X.w (upd H a ob) h' a ob):
 Inv X pins σ (upd H a ob) {s with heap:=h',toks:=t'}:=
 I.write (x:=a) (e:=a) mu (.inl rfl) (λb q hb z=>(hs.2 b hb).trans z) he new
theorem Lq {P:S0}{w:N8}{H':Hp}{h':N9}{kvs:G0 (Key×V)}{vs:G0 (Key×G1)}(z:kvs.length<=sizeLine)(hd:(a==cC)=false)(rel:KV kvs vs)(dd:h'.DictOf (wP P w) a vs):
 ObjOk P w H' h' a (.dK kvs):=⟨z,hd,vs,rel,dd⟩
end
variable {H:Hp}
theorem RU (h:N9)(hb:cC<h.objs.size):ObjOk P w H (h.push {cls:= .type "dict",data:= .dict #[]}) h.objs.size (.dK []):=
 ⟨N3 _,beq_eq_false_iff_ne.mpr (K6 (T5 hb)),[],.nil,Heap.DictOf.new h⟩
def PK:G0 (TE×TE)->St->Hp->(G0 (V×V)->Hp->Prop)->Prop
 | [],_,H,Q=>Q [] H
 |(tk,tv)::r,σ,H,Q=>tk σ H λx H1=>tv σ H1 λy H2=>PK r σ H2 λps H3=>Q ((x,y)::ps) H3
abbrev VV:G0 (V×V)->G0 (G1×G1)->Prop:=Paired λp q=>RelV p.1 q.1/\RelV p.2 q.2
def PPs (X:Cx)(pos:Pos)(keys:G0 (P8 T1))(values:G0 T1)(trs:G0 (TE×TE)):Prop:=
 ∀ (pins:G0 (G9×Obj)) (s:G3) (σ:St) (H:Hp) (Q:G0 (V×V)->Hp->Prop),Inv X pins σ H s->PK trs σ H Q->
  R4 (S4 X.prog X.w) X.A (evalPairs (pairTrees keys values X.env pos)) (λvs s'=> ∃ps H',Inv X pins σ H' s'/\VV ps vs/\Q ps H') X.xe s
variable {pos:Pos}
theorem Bk:PPs X pos [] [] []:=λpins s σ H Q I h=>pairTrees_nil_walk ⟨[],H,I,.nil,h⟩
theorem RV {k v:T1}{ks:G0 (P8 T1)}{vs:G0 T1}{tk tv:TE}{trs:G0 (TE×TE)}(hk:PE X k tk)(hv:PE X v tv)(hr:PPs X pos ks vs trs):
 PPs X pos (some k::ks) (v::vs) ((tk,tv)::trs):=λpins s σ H Q I h=>
 pairTrees_cons_walk (thn (hk pins s σ H _ I h) λu s1 ⟨x,H1,I1,rx,q1⟩=>thn (hv pins s1 σ H1 _ I1 q1) λw2 s2 ⟨y,H2,I2,ry,q2⟩=>
  thn (hr pins s2 σ H2 _ I2 q2) λws s3 ⟨ps,H3,I3,rel,q3⟩=>⟨(x,y)::ps,H3,I3,.cons ⟨rx,ry⟩ rel,q3⟩)
def Ur (kvs more:G0 (Key×V)):G0 (Key×V):=more.foldl (λacc kv=>Nr acc kv.1 kv.2) kvs
theorem KV.merge: ∀ {more:G0 (Key×V)} {rs:G0 (Key×G1)} {kvs:G0 (Key×V)} {vs:G0 (Key×G1)},KV more rs->KV kvs vs->KV (Ur kvs more) (merged vs rs):=by
 intro more rs kvs vs r;unfold KV at r
 induction r generalizing kvs vs with
 |nil=>intro q;exact q
 | @cons p q ps qs h t ih=>
  intro r0;have e:KV (Nr kvs p.1 p.2) (u5 vs q.1 q.2):=by
   have:=r0.put p.1 h.2;rw [<-h.1];exact this
  exact ih e
theorem Jr: ∀ (more kvs:G0 (Key×V)),(Ur kvs more).length<=kvs.length+more.length
 | [],kvs=>by show kvs.length<=kvs.length+0;omega
 |p::r,kvs=>by
  have h1:=Jr r (Nr kvs p.1 p.2);have h2:=Xw kvs p.1 p.2;show (Ur (Nr kvs p.1 p.2) r).length<=_;rw [R1];omega
theorem YF {P:S0}{w:N8}: ∀ {kvs:G0 (Key×V)} {ws:G0 (G1×G1)},VV (kvs.map λkv=>(kV kv.1,kv.2)) ws-> ∃rs,Carries (wP P w) ws rs/\KV kvs rs
 | [],_,r=>by rw [V1] at r;cases r;exact⟨[],cF,.nil⟩
 |p::kvs,_,r=>by
  rw [B2] at r;cases r with
  | @cons a b as bs h t=>
   obtain⟨rs,c,q⟩:=YF (P:=P) (w:=w) t;obtain⟨b1,b2⟩:=b;exact⟨(p.1,b2)::rs,⟨AV h.1,rfl,c⟩,.cons ⟨rfl,h.2⟩ q⟩
def AZ (trs:G0 (TE×TE)):TE:=λσ H Q=> ∀p,H p=none->PK trs σ (upd H p (.dK [])) λps H2=>H2 p=some (.dK [])/\ ∃kvs:G0 (Key×V),ps=kvs.map (λkv=>(kV kv.1,kv.2))/\kvs.length<=15/\Q (.ref p) (upd H2 p (.dK (Ur [] kvs)))
theorem Bl {keys:G0 (P8 T1)}{values:G0 T1}{trs:G0 (TE×TE)}(h:PPs X pos keys values trs)(hall:keys.all (·.isSome)=true)(hl:keys.length=values.length)(h0:keys≠ [])
 (h15:keys.length<=15):PE X (.Dict keys values pos) (AZ trs):=by
 intro pins s σ H Q I q;have hn:=I.hok.fresh (P4 s.heap.objs.size);have I1:=I.laid (a:=s.heap.objs.size) (o:= .dK []) (h':=s.heap.push {cls:= .type "dict",data:= .dict #[]}) (t':=s.toks) (λ_ _ q=>G6 _ q) (P4 _) (RU s.heap I.big);refine wpAny_Dict_walk (knd:=wP X.prog X.w) hall hl h0 h15 (thn (h pins _ σ _ _ I1 (q _ hn)) λws s2 ⟨ps,H2,I2,rel,e,kvs,ep,lk,q2⟩=> ?_);subst ep;obtain⟨rs,c,rk⟩:=YF (P:=X.prog) (w:=X.w) rel;obtain⟨z,hd,vs0,r0,dd⟩:=AY I2.hok e;cases r0;refine⟨rs,c,dd,λh' dd' hs=>⟨.ref s.heap.objs.size,_,?_,rfl,q2⟩⟩;have hz:(Ur [] kvs).length<=sizeLine:=by
  have h1:=Jr kvs [];rw [N2] at h1;rw [oR];omega
 have he: ∃q,h'.get? s.heap.objs.size=some q:=let ⟨q,_,_,hq,_⟩:=dd';⟨q,hq⟩;exact Bj I2 (by rw [e];exact cF) hs he (Lq hz hd (rk.merge .nil) dd')
structure M2 (X:Cx)(o:T1)(m:Str)(apos:Pos)(e f:T1)(cpos:Pos):Prop where
 base:bR o m X.env (A7 o X.env)=A7 o X.env
 few:((K0 cpos (D7 [e,f] X.env)).all (λx=> !x.1)&&(lE cpos (dX [] X.env)).all (λx=>x.1.isSome)
  &&decide (([e,f]:G0 T1).length+([]:G0 cY).length+(if ([]:G0 cY).isEmpty then 0 else 1)<30))=true
 line:(apos.endLine==cpos.line)=true
 trees:K0 cpos (D7 [e,f] X.env)= [(false,A7 e X.env),(false,A7 f X.env)]
def wS (names:G0 (Str×NameKind))(env:Env)(cs:G0 (Str×G9)):G0 (Str×G9):=
 names.foldl (λcs p=>if p.2= .free then (match env.cells.lookup p.1 with|some c=>(p.1,c)::cs|none=>cs) else cs) cs
theorem zU (p:Str×NameKind)(l:G0 (Str×NameKind))(env:Env)(cs:G0 (Str×G9)):
 wS (p::l) env cs=wS l env (if p.2= .free then (match env.cells.lookup p.1 with|some c=>(p.1,c)::cs|none=>cs) else cs):=rfl
variable {env:Env}
theorem Wp {f:Str×NameKind->G0 (Str×G9)->Sem (fJ (G0 (Str×G9)))}
 (h1: ∀p cs,p.2≠ .free->f p cs=pure (.yield cs))(h2: ∀p cs c,p.2= .free->env.cells.lookup p.1=some c->f p cs=pure (.yield ((p.1,c)::cs))):
 ∀ (l:G0 (Str×NameKind)) (cs:G0 (Str×G9)),(∀p∈l,p.2= .free-> ∃c,env.cells.lookup p.1=some c)->forIn l cs f=pure (wS l env cs)
 | [],cs,_=>rfl
 |p::l,cs,h=>by
  have ih:=Wp h1 h2 l
  by_cases hp:p.2= .free
  ·obtain⟨c,hc⟩:=h p R7 hp;rw [bZ,h2 p cs c hp hc,pure_bind];show forIn l ((p.1,c)::cs) f=_;rw [ih _ λq hq=>h q (S6 _ hq),zU,S2 hp,hc]
  ·rw [bZ,h1 p cs hp,pure_bind];show forIn l cs f=_;rw [ih _ λq hq=>h q (S6 _ hq),zU,S3 hp]
variable {scope:A8}
theorem Vk (h: ∀p∈scope.names,p.2= .free-> ∃c,env.cells.lookup p.1=some c):gC scope env=pure (wS scope.names env []):=by
 simp only [gC];rw [Wp (env:=env) (λp cs hp=> ?_) (λp cs c hp hc=> ?_) _ _ h]
 ·rfl
 ·obtain⟨n,k⟩:=p;have hb:(k==L8)=false:=by simpa using hp
  simp only [hb,mR,iY]
 ·obtain⟨n,k⟩:=p;have hb:(k==L8)=true:=by simpa using hp
  have hc':env.cells.lookup n=some c:=hc;simp only [hb,cX,u6,hc',pure_bind]
theorem Wq: ∀ (l:G0 (Str×NameKind)) (cs:G0 (Str×G9)),(∀p∈cs,env.cells.lookup p.1=some p.2)-> ∀p∈wS l env cs,env.cells.lookup p.1=some p.2
 | [],cs,h,p,hp=>h p hp
 |q::l,cs,h,p,hp=>by
  rw [zU] at hp;refine Wq l _ (λr hr=> ?_) p hp
  by_cases hq:q.2= .free
  ·rw [S2 hq] at hr;cases e:env.cells.lookup q.1 with
   |none=>rw [e] at hr;exact h r hr
   |some c=>
    rw [e] at hr;rcases D2.mp hr with rfl|hr
    ·exact e
    ·exact h r hr
  ·rw [S3 hq] at hr;exact h r hr
theorem Wr: ∀ (l:G0 (Str×NameKind)) (cs:G0 (Str×G9)),∀p∈cs,p∈wS l env cs
 | [],cs,p,hp=>hp
 |q::l,cs,p,hp=>by
  rw [zU];refine Wr l _ p ?_
  by_cases hq:q.2= .free
  ·rw [S2 hq];cases e:env.cells.lookup q.1 with
   |none=>exact hp
   |some c=>exact S6 _ hp
  ·rw [S3 hq];exact hp
variable {x:Str}
theorem Ws {c:G9}(hc:env.cells.lookup x=some c): ∀ (l:G0 (Str×NameKind)) (cs:G0 (Str×G9)),(x,L8)∈l->(x,c)∈wS l env cs
 |q::l,cs,h=>by
  rw [zU];rcases D2.mp h with e|h
  ·subst e;rw [S2 rfl,hc];exact Wr l _ _ R7
  ·exact Ws hc l _ h
variable {α:Type}
theorem wr: ∀ {l:G0 (Str×α)} {x:Str} {c:α},l.lookup x=some c->(x,c)∈l
 | [],_,_,h=>by simp at h
 |(n,k)::r,x,c,h=>by
  rw [O7] at h;cases hx:x==n with
  |true=>
   rw [hx] at h;have e:x=n:=eq_of_beq hx;cases h;subst e;exact R7
  |false=>rw [hx] at h;exact S6 _ (wr h)
theorem YG: ∀ {l:G0 (Str×α)} {x:Str} {c:α},(x,c)∈l-> ∃c',l.lookup x=some c'
 |(n,k)::r,x,c,h=>by
  rw [O7];cases hx:x==n with
  |true=>exact⟨_,rfl⟩
  |false=>
   rcases D2.mp h with e|h
   ·cases e;simp at hx
   ·exact YG h
theorem YH {l:G0 (Str×NameKind)}{c:G9}(h:(wS l env []).lookup x=some c):env.cells.lookup x=some c:=
 Wq l [] (λ_ z=>nomatch z) (x,c) (wr h)
theorem PL {l:G0 (Str×NameKind)}{c:G9}(hc:env.cells.lookup x=some c)(h:(x,L8)∈l):(wS l env []).lookup x=some c:=by
 obtain⟨c',e⟩:=YG (Ws hc l [] h);have:=YH e;rw [hc] at this;cases this;exact e
theorem yw {κ:Type}{f:Str×κ->Str×κ}{g:Str->κ->κ}(hf: ∀n k,f (n,k)=(n,g n k))(x:Str): ∀l:G0 (Str×κ),(l.map f).lookup x=(l.lookup x).map (g x)
 | []=>rfl
 |(n,k)::r=>by
  rw [B2,hf,O7,O7,yw hf x r];cases same:x==n with
  |false=>rfl
  |true=>rw [eq_of_beq same];rfl
theorem jZ {names:G0 (Str×NameKind)}{k:NameKind}(found:
 (names.map λ(n,k)=>if (k==L8&&env.scope.kind== .function&&env.kindOf n==some .cell) then (n,Y7) else (n,k)).lookup x=some k):
  names.lookup x=some k\/names.lookup x=some .free:=by
 rw [yw (g:=λn k=>if (k==L8&&env.scope.kind== .function&&env.kindOf n==some .cell) then .cell else k) (λn k=>by dsimp only;split<;>rfl)] at found;obtain⟨k0,was,now⟩:=Z9.mp found;split at now
 ·rename_i c;simp only [B8,beq_iff_eq] at c;exact .inr (by rw [was,c.1.1])
 ·exact .inl (by rw [was,now])
theorem wg: ∀ (names:G0 (Str×NameKind)) (n:G8) (acc:G0 (Str×G9)) (p:Str×G9),p∈K1 n names acc->p∈acc\/(n<=p.2/\(p.1,Y7)∈names)
 | [],_,_,_,h=> .inl h
 |(x,k)::r,n,acc,p,h=>by
  unfold K1 at h;split at h
  ·rename_i hk;rcases wg r (n+1) _ p h with z|⟨z1,z2⟩
   ·rcases D2.mp z with e|z
    ·subst e;have:k= .cell:=by simpa using hk
     subst this;exact .inr ⟨P4 _,R7⟩
    ·exact .inl z
   ·exact .inr ⟨by omega,S6 _ z2⟩
  ·rcases wg r n acc p h with z|⟨z1,z2⟩
   ·exact .inl z
   ·exact .inr ⟨z1,S6 _ z2⟩
theorem jP: ∀ (names:G0 (Str×NameKind)) (n:G8) (acc:G0 (Str×G9)),K1 n names acc=K1 n names []++acc
 | [],_,_=>rfl
 |(x,k)::r,n,acc=>by
  unfold K1;split
  ·rw [jP r (n+1) ((x,n)::acc),jP r (n+1) [(x,n)],D4];rfl
  ·exact jP r n acc
theorem Zd (l l':G0 (Str×α))(x:Str):(l++l').lookup x=(match l.lookup x with|some c=>some c|none=>l'.lookup x):=by
 induction l with
 |nil=>rfl
 |cons p l ih=>
  obtain⟨n,c⟩:=p;rw [O8,O7,O7];cases x==n with
  |true=>rfl
  |false=>exact ih
theorem vU {names:G0 (Str×NameKind)}(here:names.lookup x=some .cell):
 (names.map λ(n,k)=>if (k==L8&&env.scope.kind== .function&&env.kindOf n==some .cell) then (n,Y7) else (n,k)).lookup x=some .cell:=by
 rw [yw (g:=λn k=>if (k==L8&&env.scope.kind== .function&&env.kindOf n==some .cell) then .cell else k) (λn k=>by dsimp only;split<;>rfl),here];simp
section
variable {M:iA}{A:T8}{E:G1->G3->Prop}{s:G3}
theorem Gs (h:N9)(names:G0 (Str×NameKind)):(∀n c,(n,c)∈K1 h.objs.size names []->(pushCells h names).IsCell c none/\h.objs.size<=c)/\(K1 h.objs.size names []).Pairwise λx y=>x.2≠y.2:=
 have laid:=cellsFrom_ok names h h.objs.size [] ⟨by simp,.nil⟩ (P4 _)
 ⟨laid.empty,laid.apart⟩
theorem Us {scope:A8}{globals:G9}{closure:G0 (Str×G9)}{qual:Str}{func:P8 G9}{code:G1}{outer:Env}{builtins:G9}{Q:Env->G3->Prop}
 (hQ: ∀h',h'.Ns s.heap.objs.size (λ_=>none)->(∀b o,s.heap.get? b=some o->h'.get? b=some o)->(∀n c,(n,c)∈K1 (s.heap.objs.size+1) scope.names []->h'.IsCell c none/\s.heap.objs.size+1<=c)->
  ((K1 (s.heap.objs.size+1) scope.names []).Pairwise λx y=>x.2≠y.2)->
  Q (newEnv scope s.heap.objs.size globals (K1 (s.heap.objs.size+1) scope.names closure) qual func code (some outer) builtins) {s with heap:=h'}):
 R4 M A (pX scope globals closure [] qual func code (some outer) builtins) Q E s:=by
 have names:=Gs (s.heap.push {cls:= .type "dict",data:= .dict #[]}) scope.names;have first:(s.heap.push {cls:= .type "dict",data:= .dict #[]}).objs.size=s.heap.objs.size+1:=aU ..
 rw [first] at names;unfold pX;refine wpAny_bind (wpAny_alloc (wpAny_bind (wpAny_layCells _ (λn k cs=>rfl) _ _ _ _ ?_)));simp only [Option.isSome_some,cX];rw [first];exact wpAny_bind (P5 (P5 (hQ _ ((Heap.Ns.new _ _).keeps (o9 _ _)) (λb o here=>o9 _ _ b o (G6 _ here)) names.1 names.2)))
end
def jM (X:Cx)(scope:A8)(C:G9):G0 (Str×G9):=K1 (C+1) scope.names (wS scope.names X.env [])
def vV (X:Cx)(scope:A8)(C:G9)(s₀:G3)(H₀:Hp)(ex:G0 G9):Cx:=
 {X with s₀:=s₀,H₀:=H₀,env:=pY scope (jM X scope C) C X.env,outer:=X.stack,ex:=ex,fn:=λx=>scope.names.lookup x==some .cell,pn:= [],xe:=λ_ _=>False}
def jt (X:Cx)(scope:A8)(X':Cx):Prop:= ∃C s₀ H₀ ex,X'=vV X scope C s₀ H₀ ex
structure BlockOk (X:Cx)(scope:A8)(js:G0 G8):Prop where
 kind:scope.kind= .function
 locs: ∀p∈scope.names,p.2= .local->scope.names.lookup p.1=some .local
 cels: ∀p∈scope.names,p.2= .cell->scope.names.lookup p.1=some .cell
 free: ∀p∈scope.names,p.2= .free->X.env.scope.names.lookup p.1=some .cell\/X.env.scope.names.lookup p.1=some .free
 js: ∀ (i:G8) (x:Str),X.N[i]? =some x->(scope.names.lookup x=some .local\/scope.names.lookup x=some .cell)->i∈js
variable {js:G0 G8}
theorem yc (S:BlockOk X scope js){C:G9}{x:Str}{c:G9}(h:(jM X scope C).lookup x=some c):
 (scope.names.lookup x≠some .cell/\X.env.cells.lookup x=some c)\/(scope.names.lookup x=some .cell/\(x,c)∈K1 (C+1) scope.names []):=by
 unfold jM at h;rw [jP,Zd] at h;cases e:(K1 (C+1) scope.names []).lookup x with
 |some d=>
  rw [e] at h;cases h;have m:=wr e;rcases wg _ _ _ _ m with z|⟨_,z⟩
  ·exact absurd z (by simp)
  ·exact .inr ⟨S.cels _ z rfl,m⟩
 |none=>
  rw [e] at h;refine .inl ⟨λz=> ?_,YH h⟩;obtain⟨d,hd⟩:=vB (sc:=scope) (n:=C+1) z;rw [e] at hd;cases hd
theorem Zz (S:BlockOk X scope js){C:G9}{x:Str}{c:G9}(hc:X.env.cells.lookup x=some c)(h:(x,L8)∈scope.names)(hn:scope.names.lookup x≠some .cell):(jM X scope C).lookup x=some c:=by
 unfold jM;rw [jP,Zd];cases e:(K1 (C+1) scope.names []).lookup x with
 |some d=>
  rcases wg _ _ _ _ (wr e) with z|⟨_,z⟩
  ·exact absurd z (by simp)
  ·exact absurd (S.cels _ z rfl) hn
 |none=>exact PL hc h
def wd:G0 G8->St->St
 | [],σ=>σ
 |j::js,σ=>wd js (σ.set j none)
theorem YI: ∀ (js:G0 G8) (σ:St),(wd js σ).length=σ.length
 | [],_=>rfl
 |j::js,σ=>by rw [wd,YI js];simp
theorem Wt: ∀ (js:G0 G8) (σ:St) (i:G8) (v:V),(wd js σ)[i]? =some (some v)->σ[i]? =some (some v)
 | [],_,_,_,h=>h
 |j::js,σ,i,v,h=>by
  have h1:=Wt js _ i v h
  by_cases e:i=j
  ·subst e;rw [dA] at h1;simp at h1
  ·rwa [L7 (K6 e)] at h1
theorem zw: ∀ (js:G0 G8) (σ:St) (i:G8) (v:V),i∈js-> ¬ (wd js σ)[i]? =some (some v)
 |j::js,σ,i,v,hm,h=>by
  rcases D2.mp hm with rfl|hm
  ·have h1:=Wt js _ i v h;rw [dA] at h1;simp at h1
  ·exact zw js _ i v hm h
variable {a:G9}{o:HO}
theorem HOk.track {h:N9}(x:HOk P w H h)(hn:H a=none)(new:ObjOk P w (upd H a o) h a o):HOk P w (upd H a o) h:=λb u e=>by
 by_cases hb:b=a
 ·subst hb;rw [jn] at e;cases e;exact new
 ·rw [jm hb] at e;exact(x b u e).stay (λc v _ q=>q) (λc q=>by rw [jm (jq q hn)];exact q) λc xs q=>by rw [jm (jq q hn)];exact q
def Agree (σ xC:St):Prop:=xC.length=σ.length/\ ∀ (i:G8) (v:V),σ[i]? =some (some v)->xC[i]? =some (some v)
variable {σ:St}
theorem Agree.set {j:G8}(v:V)(h: ∀u,¬σ[j]? =some (some u)):Agree σ (σ.set j (some v)):=⟨by simp,λi u q=>by
 by_cases e:j=i
 ·subst e;exact absurd q (h u)
 ·rw [L7 e];exact q⟩
theorem Agree.trans {a b c:St}(x:Agree a b)(y:Agree b c):Agree a c:=⟨y.1.trans x.1,λi v h=>y.2 i v (x.2 i v h)⟩
def PTs (X:Cx)(ifs:G0 T1)(t:TT):Prop:=
 ∀ (pins:G0 (G9×Obj)) (s:G3) (σ:St) (H:Hp) (Q:N4->Hp->Prop),Inv X pins σ H s->t σ H Q->
  R4 (S4 X.prog X.w) X.A (forIn ifs true λc r=>if r=true then do let ok <-isTrue c X.env (A7 c X.env);pure (aE ok) else pure (aE r)) (TP X pins σ Q) X.xe s
def SE:TT:=λ_ H Q=>Q true H
theorem Bn:PTs X [] SE:=λ_ _ _ H _ I h=>wpAny_tests_nil ⟨H,I,h⟩
theorem Bo {c:T1}{t:TT}(hc:PT X c t):PTs X [c] t:=λpins s σ H Q I h=>wpAny_tests_one (hc pins s σ H Q I h)
def YJ (iter target:T1)(ifs:G0 T1)(it:G1)(env:Env)(act:Sem Unit)(nxt:Code):Sem fK:=do
 i8 iter.pos
 match <-pO it with
 |none=>pure (.done .next)
 |some v=>
  X6 target it v
  eJ target env v
  let mut ok:=true
  for c in ifs do
   if ok then ok <-isTrue c env (A7 c env)
  if ok then act
  uV nxt
variable {elt iter:T1}{ifs:G0 T1}
theorem Qt {prog:S0}{A:T8}{R:pS->G3->Prop}{s:G3}{target:T1}{gens:G0 dR}{depth:G8}{it acc:G1}{act:Sem Unit}(I:G8->G3->Prop)
 (heq:nK (.ListComp elt gens scope pos) depth it acc env=YJ iter target ifs it env act (.compLoop (.ListComp elt gens scope pos) depth it acc env))
 (turn: ∀n s,I n s->R4 (S4 prog w) A (pO it) (λr xE=>match r with
  |none=>R (.ok .next) xE
  |some v=>R4 (S4 prog w) A (X6 target it v) (λ_ xE=>R4 (S4 prog w) A (eJ target env v) (λ_ xJ=>
   R4 (S4 prog w) A (forIn ifs true λc r=>if r=true then do let ok <-PySem.isTrue c env (A7 c env);pure (aE ok) else pure (aE r)) (λok xP=>
    if ok=true then R4 (S4 prog w) A act (λ_ z6=> ∃m,m<n/\I m z6) (λ_ _=>False) xP
    else ∃m,m<n/\I m xP) (λ_ _=>False) xJ) (λ_ _=>False) xE) (λ_ _=>False) xE) (λ_ _=>False) s)
 (n:G8)(h:I n s):
 Y9 (S4 prog w) A (.compLoop (.ListComp elt gens scope pos) depth it acc env) R s:=by
 refine codeAny_loop rfl I (λn s hI=> ?_) n h;show R4 _ A ((nK (.ListComp elt gens scope pos) depth it acc env).onRaise (λx=>do noteFrame x env;theTreesLotGoes x)) _ _ s;refine wpAny_noted ?_;rw [heq];unfold YJ;refine wpAny_bind (bM (wpAny_bind (T3 (turn n s hI) (λr xE xG=> ?_) λ_ _ h'=>h'.elim)));cases r with
 |none=>exact P5 xG
 |some v=>
  refine wpAny_bind (T3 xG (λ_ xE xG=> ?_) λ_ _ h'=>h'.elim);refine wpAny_bind (T3 xG (λ_ xJ xK=>wpAny_bind (T3 xK (λok xP xN=> ?_) λ_ _ h'=>h'.elim)) λ_ _ h'=>h'.elim);cases ok with
  |false=>exact P5 ⟨rfl,xN⟩
  |true=>exact wpAny_bind (T3 xN (λ_ z6 xZ=>P5 ⟨rfl,xZ⟩) λ_ _ h'=>h'.elim)
abbrev TM:=St->Hp->G0 V->(G0 V->Hp->Prop)->Prop
def Aw (X:Cx)(D:G9)(act:Sem Unit)(t:TM):Prop:=
 ∀ (pins:G0 (G9×Obj)) (s:G3) (σ:St) (H:Hp) (ys:G0 V) (us:G0 G1) (Q:G0 V->Hp->Prop),Inv X ([(D,Y0 us)]++pins) σ H s->Vals ys us->ys.length<=sizeLine->D∈X.ex->(∀x c,X.env.cells.lookup x=some c->c≠D)->(∀p∈X.pn++pins,p.1≠D)->t σ H ys Q->
  R4 (S4 X.prog X.w) X.A act (λ_ s'=> ∃ys' us' H',Vals ys' us'/\Inv X ([(D,Y0 us')]++pins) σ H' s'/\Q ys' H') (λ_ _=>False) s
def Lr (te:TE):TM:=λσ H ys Q=>te σ H λy H1=>Q (ys++ [y]) H1
def YK (elt:T1)(env:Env)(acc:G1):Sem Unit:=do let _ <-call (.builtin "list.append") [acc,<-A7 elt env]
variable {te:TE}
theorem Vl {D:G9}(hx:X.xe=λ_ _=>False)(he:PE X elt te):Aw X D (YK elt X.env (.ref D)) (Lr te):=by
 intro pins s σ H ys us Q I hv hz DX cD pD h;have q:=he _ s σ H _ I h;rw [hx] at q;unfold YK;refine wpAny_bind (T3 q (λy s1 ⟨yv,H1,I1,r1,q1⟩=> ?_) λ_ _ z=>z);have zD:=I1.pin (D,Y0 us) (R3 _ (O9 _ R7));refine wpAny_bind (append_at (its:=us.toArray) (n:=us.length) zD.1 (λh11 hs11 hD11=>P5 ?_) (by rw [D6,<-hv.length];exact hz));have I10u:Inv X pins σ H1 s1:=I1.pins_of λp hp=>I1.pin p (R3 _ (R3 _ hp))
 have I11:Inv X pins σ H1 {s1 with heap:=h11}:=I10u.turned (t':=s1.toks) (it:=D) (λb o hb e=>hs11.extBut b o hb e) zD.2.1 zD.2.2.1 (.inl DX) cD pD;have eD:h11.get? D=some (Y0 (us++ [y])):=by rw [hD11];exact congrArg some (LCg.lst_snoc us y)
 refine⟨ys++ [yv],us++ [y],H1,hv.append (.cons r1 .nil),I11.pins_of λp hp=> ?_,q1⟩;rcases D5.mp hp with z|z
 ·rcases P3.mp z with rfl
  exact⟨eD,zD.2.1,zD.2.2.1,zD.2.2.2.1,λv z=>by cases z⟩
 ·exact I11.pin p (R3 _ z)
def Ax (js : G0 G8) (wi : TI) (g : TG) (tt : TT) (tm : TM) : TE := fun σ H Q => wi σ H fun J H1 =>
  ∃ W : G8 → G8 → G0 V → Hp → Prop, (∃ m, W 0 m [] H1) ∧ ∀ i m ys H, W i m ys H → ys.length ≤ sizeLine ∧
    ((J.stop i H ∧ ∀ p, H p = none → Q (.ref p) (upd H p (.lst ys))) ∨
     (J.go i H ∧ ∀ x H', J.yld i H x H' → g x (wd js σ) H' fun xF H2 => Agree (wd js σ) xF ∧ tt xF H2 fun b H3 =>
        if b = true then tm xF H3 ys fun ys' H4 => ∃ m', m' < m ∧ W (i + 1) m' ys' H4 else ∃ m', m' < m ∧ W (i + 1) m' ys H3))
def tLC (js:G0 G8)(wi:TI)(g:TG)(tt:TT)(te:TE):TE:=Ax js wi g tt (Lr te)
variable {e tg:T1}{wi:TI}{g:TG}{tt:TT}
theorem PM {rest:G0 dR}{pos0:Pos}{tm:TM}{use:P8 (G1->Sem Unit)}{Qv:G1->G3->Prop}(hc:X.calm=true)(S:BlockOk X scope js)(hi:PI X tg iter wi)
 (he0:e= .ListComp elt (⟨tg,iter,ifs,0⟩::rest) scope pos)
 (hg: ∀X',jt X scope X'->PG X' tg g)(ht: ∀X',jt X scope X'->PTs X' ifs tt)
 (act:Env->G1->Sem Unit)(hturn: ∀it acc env,nK e 0 it acc env=YJ iter tg ifs it env (act env acc) (.compLoop e 0 it acc env))(he: ∀X',jt X scope X'-> ∀D,Aw X' D (act X'.env (.ref D)) tm)
 (hs: ∀x,M8 iter X.env x=pure x){pins:G0 (G9×Obj)}{s:G3}{σ:St}{H:Hp}{Q:VK}(I:Inv X pins σ H s)(h:Ax js wi g tt tm σ H Q)
 (fin: ∀ (D C:G9) (H':Hp) (s':G3) (m:Str->P8 G1),s'.heap.Ns C m->(∀h',Z6 C s'.heap h'->Inv X pins σ H' {s' with heap:=h'})->H' C=none->C≠X.env.locals->C ∉ X.fs->X.s₀.heap.objs.size<=C->(∀x c,X.env.cells.lookup x=some c->c≠C)->(∀p∈X.pn++pins,p.1≠C)->
  Q (.ref D) H'->compPost (S4 X.prog X.w) X.A X.xe use Qv (.ref D) C (.ok .next) s'):
 R4 (S4 X.prog X.w) X.A (mH e scope X.env pos0 (newList []) false (A7 iter X.env) use) Qv X.xe s:=by
 have hclos:=Vk (scope:=scope) (env:=X.env) (λp hp e=>I.ok.has p.1 (S.free p hp e));subst he0;refine wpAny_comprehension_free (use:=use) rfl hs hclos S.kind S.locs (thn (hi pins s σ H _ I h) λv s1 h1=>thn h1 λitv s2 h2=> ?_);obtain⟨it,fp,tn,J,H2,e,I2,T,st2,f2,W,⟨m0,w0⟩,turn⟩:=h2;subst e;refine E9 (Us (λxG x3 y3 xR x4=> ?_));dsimp only at x3 y3 xR x4 ⊢;generalize hD:s2.heap.objs.size=D;generalize hH3:s2.heap.push {cls:= .type "list",dict:=none,data:= .seq ([]:G0 G1).toArray}=h3 at x3 y3 xR x4 ⊢;have sz3:h3.objs.size=D+1:=by rw [<-hH3,aU,hD]
 have up3: ∀b o,s2.heap.get? b=some o->h3.get? b=some o:=λb o e=>hH3 ▸ G6 _ e
 have I3:Inv X pins σ H2 {s2 with heap:=h3}:=I2.kept (t':=s2.toks) up3;have hD3:h3.get? D=some (Y0 []):=by rw [<-hH3,<-hD];exact R8 _ rfl
 have fD:Pb X pins H2 D:=I2.fpOk (by rw [hD];exact P4 _) (I2.hok.fresh (by rw [hD];exact P4 _));have obf: ∀b∈fp,∃o,s2.heap.get? b=some o/\ ∀v,o.data≠ .cell v:=T.obj _ _ st2;have ltf: ∀b∈fp,b<D:=λb hb=>by obtain⟨o,e,_⟩:=obf b hb;rw [<-hD];exact D8 e
 generalize hC:h3.objs.size=C at x3 xR x4 ⊢;have CD:C=D+1:=hC.symm.trans sz3;have upC: ∀b o,h3.get? b=some o->xG.get? b=some o:=y3;generalize hX:vV X scope C {s2 with heap:=h3} H2 (fp++ [D])=X';have iX:jt X scope X':=⟨C,_,_,_,hX.symm⟩;have hf: ∀b∈fp++ [D],Pb X pins H2 b:=λb hb=>(D5.mp hb).elim (f2 b) λz=>by rw [P3.mp z];exact fD
 have cl: ∀x c,(jM X scope C).lookup x=some c->X.env.cells.lookup x=some c\/C<c:=λx c e=>by
  rcases yc S e with ⟨_,z⟩|⟨_,z⟩
  ·exact .inl z
  ·exact .inr (dB (xR x c z).2)
 have olt: ∀x c,X.env.cells.lookup x=some c->c<C:=λx c e=>by obtain⟨v,q⟩:=I3.cell x c e;rw [<-hC];exact q.lt
 have ltb: ∀b∈fp++ [D],b<C:=λb hb=>(D5.mp hb).elim (λz=>by have:=ltf b z;rw [CD];exact dD this) λz=>by rw [P3.mp z,CD];exact U5 _
 have okX:X'.Ok:=by
  subst hX;refine⟨I.ok.mod,S.kind,I.ok.glob,I.ok.blt,V2 hC,λx y c e1 e2=> ?_,λx hx=> ?_,λx c z e=> ?_,I.ok.hd,I.ok.frames,.inl rfl,λb hb=>⟨T5 (ltb b hb),λx c e=>(cl x c e).elim (λz=>(hf b hb).2.2.2.2.1 x c z) λz=>U7 (cZ (ltb b hb) z)⟩,
   I3.bs,T6 I.ok.bsz I3.sz,λb o e hb=> ?_,λb hb z=> ?_,I3.stack,I3.stkFree⟩
  ·rcases yc S e1 with ⟨_,z1⟩|⟨_,z1⟩<;>rcases yc S e2 with ⟨_,z2⟩|⟨_,z2⟩
   ·exact I.ok.inj x y c z1 z2
   ·exact absurd (cZ (olt x c z1) (dB (xR y c z2).2)) (L0 _)
   ·exact absurd (cZ (olt y c z2) (dB (xR x c z1).2)) (L0 _)
   ·exact m8 x4 z1 z2
  ·have own:scope.names.lookup x=some .cell-> ∃c,(jM X scope C).lookup x=some c:=λz=>by
    obtain⟨c,hc⟩:=vB (sc:=scope) (n:=C+1) z;exact⟨c,by unfold jM;rw [jP,Zd,hc]⟩
   have shr:scope.names.lookup x=some .free-> ∃c,(jM X scope C).lookup x=some c:=λz=>by
    have fm:=wr z;obtain⟨c,hc⟩:=I.ok.has x (S.free _ fm rfl);exact⟨c,Zz S hc fm (by rw [z];decide)⟩
   rcases hx with hx|hx
   ·rcases jZ (env:=X.env) hx with z|z
    ·exact own z
    ·exact shr z
   ·rcases jZ (env:=X.env) hx with z|z<;>exact shr z
  ·have z':scope.names.lookup x=some .cell:=by
    have z2:(scope.names.lookup x==some Y7)=true:=z;simpa using z2
   rcases yc S e with ⟨n,_⟩|⟨_,m⟩
   ·exact absurd z' n
   ·show h3.objs.size<=c;rw [hC];exact R9 (dB (xR x c m).2)
  ·rcases (hf b hb).2.2.2.1 with z|z
   ·exact I.ok.noex b o e z
   ·exact absurd (S7 (D8 e) (T6 I.ok.bsz z)) (L0 _)
  ·rcases D2.mp (I.stkSub b z) with q|q
   ·exact(hf b hb).2.1 q
   ·exact(hf b hb).2.2.1 q
 -- the block's first state
 have I4:Inv X' [(D,Y0 [])] (wd js σ) H2 {s2 with heap:=xG}:=by
  subst hX;have hDC:D≠C:=by rw [CD];exact T5 (U5 _)
  refine⟨okX,rfl,I2.bare,Un.kept (λb u e=>upC b u e),⟨_,x3,λi x v e1 e2 e3=> ?_⟩,λx c e=> ?_,I3.hok.fresh (V2 hC),λx c e=>(cl x c e).elim (λz=>I2.freeC x c z) (λz=>I3.hok.fresh (by rw [<-hC] at z;exact R9 z)),λp hp=> ?_,I3.hok.kept upC,(YI js σ).trans I2.len⟩
  ·have fr:scope.names.lookup x=some .free:=by
    rcases e3 with e3|e3|e3
    ·rcases jZ (env:=X.env) e3 with z|z
     ·exact absurd e2 (zw js σ i v (S.js i x e1 (.inl z)))
     ·exact z
    ·rcases jZ (env:=X.env) e3 with z|z
     ·exact absurd e2 (zw js σ i v (S.js i x e1 (.inr z)))
     ·exact z
    ·rcases jZ (env:=X.env) e3 with z|z<;>exact z
   have fm:=wr fr;obtain⟨m,hm,hl⟩:=I2.loc;have vis:=S.free _ fm rfl;obtain⟨u,r,lk⟩:=hl i x v e1 (Wt js σ i v e2) (.inr vis);have kd:(relabel scope X.env).names.lookup x=some .cell\/(relabel scope X.env).names.lookup x=some .free:=by
    rcases e3 with e3|e3|e3
    ·rcases jZ (env:=X.env) e3 with z|z
     ·rw [fr] at z;cases z
     ·exfalso;have z2:=e3
      -- a local's kind stays
      exact absurd e2 (zw js σ i v (S.js i x e1 (.inl (by
       have q: ∀ (l:G0 (Str×NameKind)),(l.map λ(n,k)=>if (k==L8&&X.env.scope.kind== .function&&X.env.kindOf n==some .cell) then (n,Y7) else (n,k)).lookup x=some .local->l.lookup x=some .local:=by
        intro l
        induction l with
        |nil=>intro h;simp at h
        |cons p l ih=>
         obtain⟨n,k'⟩:=p;intro h;have h':List.lookup x ((if (k'==L8&&X.env.scope.kind== .function&&X.env.kindOf n==some .cell)=true then (n,Y7) else (n,k'))::(l.map λ(n,k)=>if (k==L8&&X.env.scope.kind== .function&&X.env.kindOf n==some .cell) then (n,Y7) else (n,k)))=some .local:=h;rw [O7]
         by_cases hc:(k'==L8&&X.env.scope.kind== .function&&X.env.kindOf n==some .cell)=true
         ·rw [S2 hc,O7] at h';cases hx:x==n with
          |true=>rw [hx] at h';cases h'
          |false=>rw [hx] at h';exact ih h'
         ·rw [S3 hc,O7] at h';cases hx:x==n with
          |true=>rw [hx] at h';exact h'
          |false=>rw [hx] at h';exact ih h'
       exact q _ z2))))
    ·exact .inl e3
    ·exact .inr e3
   rcases lk with ⟨k,_⟩|⟨_,c,hc,hcell⟩
   ·have k':X.env.scope.names.lookup x=some .local:=k;rcases vis with z|z<;>(rw [k'] at z;cases z)
   ·refine⟨u,r,.inr ⟨kd,c,Zz S hc fm (by rw [fr];decide),?_⟩⟩;obtain⟨o,ho,hd⟩:=hcell;exact⟨o,upC _ _ (up3 _ _ ho),hd⟩
  ·rcases yc S e with ⟨_,z⟩|⟨_,z⟩
   ·obtain⟨v,o,ho,hd⟩:=I2.cell x c z;exact⟨v,o,upC _ _ (up3 _ _ ho),hd⟩
   ·exact⟨none,(xR x c z).1⟩
  ·have hp':p∈ [(D,Y0 [])]:=hp;rcases P3.mp hp' with rfl
   refine⟨upC _ _ hD3,fD.1,hDC,λz=> ?_,λv z=>by cases z⟩;rcases D2.mp (I.stkSub D z) with q|q
   ·exact fD.2.1 q
   ·exact fD.2.2.1 q
 have st4:tn 0 xG:=T.keep _ _ _ st2 λb _ o e=>upC _ _ (up3 _ _ e)
 have eA:X'.A=X.A:=by rw [<-hX];rfl
 have eP:X'.prog=X.prog:=by rw [<-hX];rfl
 have eW:X'.w=X.w:=by rw [<-hX];rfl
 have eK:X'.K=X.K:=by rw [<-hX];rfl
 have eC:X'.calm=true:=by rw [<-hX];exact hc
 have eV:X'.env=pY scope (jM X scope C) C X.env:=by rw [<-hX];rfl
 have eE:X'.xe=λ_ _=>False:=by rw [<-hX];rfl
 -- what stays true of the iterator's objects
 have stat: ∀ {us:G0 G1} {H':Hp},(∀b∈fp,H' b=none)-> ∀b∈fp,Pb X' [(D,Y0 us)] H' b:=λ{us H'} hn b hb=>by
  have q:=hf b (O9 _ hb);subst hX;refine⟨hn b hb,T5 (ltb b (O9 _ hb)),λz=> ?_,.inl (O9 _ hb),λx c e=>(cl x c e).elim (λz=>q.2.2.2.2.1 x c z) (λz=>U7 (cZ (ltb b (O9 _ hb)) z)),λp hp=> ?_⟩
  ·rcases D2.mp (I.stkSub b z) with r|r
   ·exact q.2.1 r
   ·exact q.2.2.1 r
  ·have hp':p∈ [(D,Y0 us)]:=hp;rcases P3.mp hp' with rfl
   exact U7 (ltf b hb)
 have loop: ∀xP:G3,xP= {s2 with heap:=xG}->
  Y9 (S4 X.prog X.w) X.A (.compLoop (.ListComp elt (⟨tg,iter,ifs,0⟩::rest) scope pos) 0 (.ref it) (.ref D) (pY scope (jM X scope C) C X.env))
   (compPost (S4 X.prog X.w) X.A X.xe use Qv (.ref D) C) xP:=by
  rintro xP rfl;refine Qt (act:=act (pY scope (jM X scope C) C X.env) (.ref D)) (λn s'=> ∃i ys us H',Vals ys us/\Inv X' [(D,Y0 us)] (wd js σ) H' s'/\tn i s'.heap/\(∀b∈fp,H' b=none)/\W i n ys H') (hturn _ _ _) ?_ m0
   ⟨0,[],[],H2,.nil,I4,st4,λb hb=>(f2 b hb).1,w0⟩
  rintro n s5 ⟨i,ys,us,H5,hv5,I5,st5,fr5,w5⟩;obtain⟨hz,tr⟩:=turn i n ys H5 w5;rcases tr with ⟨stop,qn⟩|⟨go,step⟩
  ·have q:=T.done X' eP eW eK eC i _ s5 _ H5 (λ_ _=>False) I5 (stat fr5) st5 stop;rw [eA] at q;refine T3 q (λr s6 ⟨hr,I6⟩=> ?_) λ_ _ z=>z
   subst hr;obtain⟨m6,hm6,_⟩:=I6.loc;rw [eV] at hm6;have zD:=I6.pin (D,Y0 us) (R3 _ R7);have HD:H5 D=none:=zD.2.1;have oD:s6.heap.get? D=some (Y0 us):=zD.1;have hDC:D≠C:=by rw [CD];exact T5 (U5 _)
   have HC:H5 C=none:=by have z:=I6.free;rw [eV] at z;exact z
   have B:=I6.base;have os6:s6.os=s2.os:=by have z:=I6.os;rw [<-hX] at z;exact z
   have Bu:Un (frs X.stack) (fp++ [D]) H2 H5 h3 s6.heap:=by rw [<-hX] at B;exact B
   have neC: ∀b o,h3.get? b=some o->b≠C:=λb o e=>by rw [<-hC];exact T5 (D8 e)
   refine fin D C (upd H5 D (.lst ys)) s6 m6 hm6 (λh' hs'=> ?_) (by rw [jm (K6 hDC)];exact HC) ?_ ?_ ?_ (λx c e=>T5 (olt x c e)) ?_ (qn D HD)
   ·have hk5:HOk X.prog X.w H5 h':=λb u e=>by
     have z:=I6.hok b u e;rw [eP,eW] at z;refine z.stay (λc v hc q=>hs'.extBut c v ?_ q) (λ_ q=>q) λ_ _ q=>q
     rcases hc with rfl|hc
     ·exact jq e HC
     ·exact jq hc HC
    refine I3.call' (ch:=fp++ [D]) os6 ⟨λb o e n hb hx=> ?_,λb o e n hb hx=> ?_,λb o e n hx=> ?_,λb o e hx=> ?_,λb xs e=> ?_,λb o u e=> ?_,λb ps e=> ?_⟩ (hk5.track HD ?_) I6.bare λb hb=> ?_
    ·exact hs'.extBut b o (neC b o e) (Bu.keep b o e n hb hx)
    ·obtain⟨sl,q⟩:=Bu.slot b o e n hb hx;exact⟨sl,hs'.extBut b _ (neC b o e) q⟩
    ·rw [jm λz=>hx (by rw [z];exact R3 _ R7)];exact Bu.free b o e n hx
    ·obtain⟨o',q⟩:=Bu.there b o e hx;exact⟨o',hs'.extBut b _ (neC b o e) q⟩
    ·have z:=Bu.tups b xs e;rw [jm (jq z HD)];exact z
    ·have z:=Bu.frzs b o u e;rw [jm (jq z HD)];exact z
    ·obtain⟨more,z⟩:=Bu.tbls b ps e;exact⟨more,by rw [jm (jq z HD)];exact z⟩
    ·exact⟨hz,us,us.length,hv5,hs'.extBut D _ hDC oD⟩
    ·have q:=hf b hb;exact⟨q.2.2.2.1,q.2.1,q.2.2.2.2.1,q.2.2.2.2.2⟩
   ·rw [<-hC];exact U7 I3.lt
   ·exact I3.nofs (V2 hC)
   ·rw [<-hC];exact I3.sz
   ·intro p hp;have:=(I3.pin p hp).1;rw [<-hC];exact T5 (D8 this)
  ·have q:=T.item X' eP eW eK eC i _ s5 _ H5 (λ_ _=>False) I5 (stat fr5) st5 go;rw [eA] at q;refine T3 q (λr s6 ⟨u,hr,h6⟩=> ?_) λ_ _ z=>z
   subst hr;refine T3 h6 (λ_ s7 ⟨x,H7,I7,r7,y7,st7,fr7⟩=> ?_) λ_ _ z=>z
   have I7':=I7.pinned (stat fr7) (T.obj _ _ st7);have q7:=hg X' iX _ s7 _ H7 x u _ I7' r7 (step x H7 y7);rw [eP,eW,eA,eV,eE] at q7;refine T3 q7 (λ_ s8 ⟨xV,H8,I8,ag8,q8⟩=> ?_) λ_ _ z=>z
   have q9:=ht X' iX _ s8 xV H8 _ I8 q8;rw [eP,eW,eA,eV,eE] at q9;refine T3 q9 (λok s9 ⟨H9,I9,q9⟩=> ?_) λ_ _ z=>z
   have keepT: ∀ {xC:St} {H':Hp} {s':G3} {us:G0 G1},Inv X' ([(D,Y0 us)]++vL fp s7.heap) xC H' s'->tn (i+1) s'.heap/\ ∀b∈fp,H' b=none:=λ{xC H' s' us} I'=>
    ⟨T.keep _ _ _ st7 λb hb o e=>(I'.pin (b,o) (R3 _ (R3 _ (wq hb e)))).1,λb hb=>by
     obtain⟨o,e,_⟩:=T.obj _ _ st7 b hb;exact(I'.pin (b,o) (R3 _ (R3 _ (wq hb e)))).2.1⟩
   cases ok with
   |false=>
    have q9: ∃m',m'<n/\W (i+1) m' ys H9:=q9;obtain⟨m',hm,w9⟩:=q9;obtain⟨t9,f9⟩:=keepT I9;exact⟨m',hm,i+1,ys,us,H9,hv5,(I9.unpinned).weak ag8.1.symm ag8.2,t9,f9,w9⟩
   |true=>
    have q9:tm xV H9 ys λys' H4=> ∃m',m'<n/\W (i+1) m' ys' H4:=q9
    have DX:D∈X'.ex:=by rw [<-hX];exact R3 _ R7
    have pD: ∀p∈X'.pn++vL fp s7.heap,p.1≠D:=λp hp=>by
     have hp':p∈vL fp s7.heap:=by rw [<-hX] at hp;simpa [vV] using hp
     exact T5 (ltf _ (Wh hp').1)
    have cD: ∀x c,X'.env.cells.lookup x=some c->c≠D:=λx c e=>by
     rw [eV] at e;exact(cl x c e).elim (λz=>fD.2.2.2.2.1 x c z) λz=>U7 (cZ (by rw [CD];exact U5 _) z)
    have q10:=he X' iX D _ s9 xV H9 ys us _ I9 hv5 hz DX cD pD q9;rw [eP,eW,eA,eV] at q10;show R4 _ _ (act _ _) _ _ s9;refine T3 q10 (λ_ s10 ⟨ys',us',H10,hv10,I10,m',hm,w10⟩=> ?_) λ_ _ z=>z
    obtain⟨t10,f10⟩:=keepT I10;exact⟨m',hm,i+1,ys',us',H10,hv10,(I10.unpinned).weak ag8.1.symm ag8.2,t10,f10,w10⟩
 exact codeAny_compStart_list (loop _ rfl) (T.self X.A 0 _ _ _ st4 (loop _ rfl))
theorem Ls (hc:X.calm=true)(S:BlockOk X scope js)(hi:PI X tg iter wi)
 (hg: ∀X',jt X scope X'->PG X' tg g)(ht: ∀X',jt X scope X'->PTs X' ifs tt)(he: ∀X',jt X scope X'->PE X' elt te)
 (hs: ∀x,M8 iter X.env x=pure x:=by intro _;rfl):PE X (.ListComp elt [⟨tg,iter,ifs,0⟩] scope pos) (tLC js wi g tt te):=by
 intro pins s σ H Q I h;rw [qS];exact PM (use:=none) hc S hi rfl hg ht (YK elt) (λ_ _ _=>rfl) (λX' hX D=>Vl (by obtain⟨_,_,_,_,rfl⟩:=hX;rfl) (he X' hX)) hs I h
  λD C H' s' m hn hk _ _ _ _ _ _ q=>⟨m,hn,λh' hs'=>⟨.ref D,H',hk h' hs',rfl,q⟩⟩
theorem Bp {rest:G0 dR}{pos' spos:Pos}{g':TG}{tm:TM}(hc:X.calm=true)(S:BlockOk X scope js)(hi:PI X tg iter wi)
 (he0:e= .ListComp elt (⟨tg,iter,ifs,0⟩::rest) scope pos)(hg: ∀X',jt X scope X'->PG X' tg g)(ht: ∀X',jt X scope X'->PTs X' ifs tt)
 (act:Env->G1->Sem Unit)(hturn: ∀it acc env,nK e 0 it acc env=YJ iter tg ifs it env (act env acc) (.compLoop e 0 it acc env))(he: ∀X',jt X scope X'-> ∀D,Aw X' D (act X'.env (.ref D)) tm)
 (hg':PG X (.Name x pos') g')(hsw:Z0 e (some (.Name x pos')) spos.line X.env=pure true)
 (hs: ∀x,M8 iter X.env x=pure x):PS X (.Assign [.Name x pos'] e spos) (NS (Ax js wi g tt tm) g'):=by
 intro pins s σ H Dn I h;rw [exec_Assign_Name_used _ _ _ _ hsw];refine wpAny_bind (bM (wpAny_bind ?_));subst he0;rw [arm_evalThenUse_ListComp];show R4 _ X.A (do let _ <-mH (.ListComp elt (⟨tg,iter,ifs,0⟩::rest) scope pos) scope X.env _ (newList []) false (A7 iter X.env) (some (eJ (.Name x pos') X.env))) _ _ s;refine wpAny_bind (T3 (PM (use:=some (eJ (.Name x pos') X.env)) (Qv:=λ_ s'=>SP X pins Dn .next s') hc S hi rfl hg ht act hturn he hs I h ?_) (λ_ s' hq=>P5 (P5 hq)) λ_ _ e=>e);intro D C H' s' m hn hk HC nL nf sz ncell npin q;show R4 _ X.A (eJ (.Name x pos') X.env (.ref D)) _ _ s';obtain⟨o,es,ep,ho,hd,hr⟩:=id hn;have I1:Inv X pins σ H' s':=hk s'.heap (uE ..);have I2:Inv X (pins++ [(C,o)]) σ H' s':=I1.pins_of λp hp=>by
  rcases D5.mp hp with z|z
  ·exact I1.pin p (R3 _ z)
  ·rcases P3.mp z with rfl
   exact⟨ho,HC,nL,nf,λv z=>by rw [hd] at z;cases z⟩
 refine T3 (hg' _ s' σ H' (.ref D) (.ref D) _ I2 rfl q) (λ_ s3 ⟨xI,H3,I3,q3⟩=> ?_) λ_ _ z=>z
 have pC:=I3.pin (C,o) (R3 _ (R3 _ R7));refine⟨m,hn.at' λo' e'=> ?_,λh' hs'=> ?_⟩
 ·rw [ho] at e';cases e';exact pC.1
 ·exact⟨xI,H3,(I3.unpinned).turned (t':=s3.toks) (it:=C) (λb o hb e=>hs'.extBut b o hb e) pC.2.1 nL (.inr sz) ncell npin,q3⟩
theorem RW {pos' spos:Pos}{g':TG}(hc:X.calm=true)(S:BlockOk X scope js)(hi:PI X tg iter wi)
 (hg: ∀X',jt X scope X'->PG X' tg g)(ht: ∀X',jt X scope X'->PTs X' ifs tt)(he: ∀X',jt X scope X'->PE X' elt te)
 (hg':PG X (.Name x pos') g')(hsw:Z0 (.ListComp elt [⟨tg,iter,ifs,0⟩] scope pos) (some (.Name x pos')) spos.line X.env=pure true)
 (hs: ∀x,M8 iter X.env x=pure x:=by intro _;rfl):PS X (.Assign [.Name x pos'] (.ListComp elt [⟨tg,iter,ifs,0⟩] scope pos) spos) (NS (tLC js wi g tt te) g'):=
 Bp hc S hi rfl hg ht (YK elt) (λ_ _ _=>rfl) (λX' hX D=>Vl (by obtain⟨_,_,_,_,rfl⟩:=hX;rfl) (he X' hX)) hg' hsw hs
def PN (e iter:T1)(env:Env)(acc:G1):Sem Unit:=do
 let x <-A7 iter env
 i8 iter.pos
 let x <-M8 iter env x
 let _ <-runOwn (.compStart e 1 (<-bW [x] (pQ x)) acc env) env
def mIn (wi : TI) (g : TG) (tt : TT) (tm : TM) : TM := fun σ H ys Q => wi σ H fun J H1 =>
  ∃ W : G8 → G8 → G0 V → Hp → Prop, (∃ m, W 0 m ys H1) ∧ ∀ i m ys H, W i m ys H → ys.length ≤ sizeLine ∧
    ((J.stop i H ∧ Q ys H) ∨
     (J.go i H ∧ ∀ x H', J.yld i H x H' → g x σ H' fun xF H2 => Agree σ xF ∧ tt xF H2 fun b H3 =>
        if b = true then tm xF H3 ys fun ys' H4 => ∃ m', m' < m ∧ W (i + 1) m' ys' H4 else ∃ m', m' < m ∧ W (i + 1) m' ys H3))
theorem Js {prog:S0}{A:T8}{R:pS->G3->Prop}{s:G3}{g0 g1:dR}{it acc:G1}(ha:g1.is_async=0)
 (h0:Y9 (S4 prog w) A (.compLoop (.ListComp elt [g0,g1] scope pos) 1 it acc env) R s)
 (h:R4 (S4 prog w) A (pQ it) (λit' s'=>Y9 (S4 prog w) A (.compLoop (.ListComp elt [g0,g1] scope pos) 1 it' acc env) R s')
  (notedBy (S4 prog w) A env λx s'=>R (.error x) s') s):
 Y9 (S4 prog w) A (.compStart (.ListComp elt [g0,g1] scope pos) 1 it acc env) R s:=by
 obtain⟨tg,iter,ifs,as⟩:=g1;cases (show as=0 from ha);refine kO (wpAny_notedAt ?_);obtain⟨hp,g,d,tk,os⟩:=s;unfold compStart
 wp_walk
 refine wpAny_askSetting ?_;split
 ·exact P5 ⟨rfl,h0⟩
 ·exact wpAny_bind (dN (wpAny_bind (bM (wpAny_bind (T3 h (λ_ _ on=>P5 ⟨rfl,on⟩) λ_ _ x=>x)))))
theorem Bq {D:G9}{g0:dR}(hc:X.calm=true)(hx:X.xe=λ_ _=>False)
 (hi:PI X tg iter wi)(hg:PG X tg g)(ht:PTs X ifs tt)(he:PE X elt te)(hs: ∀x,M8 iter X.env x=pure x):
 Aw X D (PN (.ListComp elt [g0,⟨tg,iter,ifs,0⟩] scope pos) iter X.env (.ref D)) (mIn wi g tt (Lr te)):=by
 intro pins s σ H ys us Q I hv hz DX cD pD h;have q:=hi _ s σ H _ I h;rw [hx] at q;unfold PN;refine wpAny_bind (T3 q (λv s1 h1=>wpAny_bind (bM (wpAny_bind (sI (hs v) (wpAny_bind (E3 (T3 h1 (λitv s2 h2=> ?_) λ_ _ z=>z))))))) λ_ _ z=>z);obtain⟨it,fp,tn,J,H2,e,I2,T,st2,f2,W,⟨m0,w0⟩,turn⟩:=h2;subst e;refine wpAny_bind (wpAny_runOwn ?_);have neD: ∀b∈fp,b≠D:=λb hb=>by
  have z:=(f2 b hb).2.2.2.2.2 (D,Y0 us) (R3 _ (O9 _ R7));exact K6 z
 have stat: ∀ {us':G0 G1} {H':Hp},(∀b∈fp,H' b=none)-> ∀b∈fp,Pb X ([(D,Y0 us')]++pins) H' b:=λ{us' H'} hn b hb=>by
  have q:=f2 b hb;refine⟨hn b hb,q.2.1,q.2.2.1,q.2.2.2.1,q.2.2.2.2.1,λp hp=> ?_⟩;rcases D5.mp hp with z|z
  ·exact q.2.2.2.2.2 p (O9 _ z)
  ·rcases D5.mp z with z|z
   ·rcases P3.mp z with rfl
    exact K6 (neD b hb)
   ·exact q.2.2.2.2.2 p (R3 _ (R3 _ z))
 have loop:Y9 (S4 X.prog X.w) X.A (.compLoop (.ListComp elt [g0,⟨tg,iter,ifs,0⟩] scope pos) 1 (.ref it) (.ref D) X.env)
  (λr s'=>match r with| .ok f=>R4 (S4 X.prog X.w) X.A (pure ()) (λ_ s'=> ∃ys' us' H',Vals ys' us'/\Inv X ([(D,Y0 us')]++pins) σ H' s'/\Q ys' H') (λ_ _=>False) s'| .error e=>cameBackBy (S4 X.prog X.w) X.A X.env (λ_ _=>False) e s') s2:=by
  refine Qt (act:=YK elt X.env (.ref D)) (λn s'=> ∃i ys us H',Vals ys us/\Inv X ([(D,Y0 us)]++pins) σ H' s'/\tn i s'.heap/\(∀b∈fp,H' b=none)/\W i n ys H') rfl ?_ m0
   ⟨0,ys,us,H2,hv,I2,st2,λb hb=>(f2 b hb).1,w0⟩
  rintro n s5 ⟨i,ys,us,H5,hv5,I5,st5,fr5,w5⟩;obtain⟨hz,tr⟩:=turn i n ys H5 w5;rcases tr with ⟨stop,qn⟩|⟨go,step⟩
  ·refine T3 (T.done X rfl rfl rfl hc i _ s5 _ H5 (λ_ _=>False) I5 (stat fr5) st5 stop) (λr s6 ⟨hr,I6⟩=> ?_) λ_ _ z=>z
   subst hr;exact P5 ⟨ys,us,H5,hv5,I6,qn⟩
  ·refine T3 (T.item X rfl rfl rfl hc i _ s5 _ H5 (λ_ _=>False) I5 (stat fr5) st5 go) (λr s6 ⟨u,hr,h6⟩=> ?_) λ_ _ z=>z
   subst hr;refine T3 h6 (λ_ s7 ⟨x,H7,I7,r7,y7,st7,fr7⟩=> ?_) λ_ _ z=>z
   have I7':=I7.pinned (stat fr7) (T.obj _ _ st7);have q7:=hg _ s7 _ H7 x u _ I7' r7 (step x H7 y7);rw [hx] at q7;refine T3 q7 (λ_ s8 ⟨xV,H8,I8,ag8,q8⟩=> ?_) λ_ _ z=>z
   have q9:=ht _ s8 xV H8 _ I8 q8;rw [hx] at q9;refine T3 q9 (λok s9 ⟨H9,I9,q9⟩=> ?_) λ_ _ z=>z
   have keepT: ∀ {xC:St} {H':Hp} {s':G3} {us:G0 G1},Inv X (([(D,Y0 us)]++pins)++vL fp s7.heap) xC H' s'->tn (i+1) s'.heap/\ ∀b∈fp,H' b=none:=λ{xC H' s' us} I'=>
    ⟨T.keep _ _ _ st7 λb hb o e=>(I'.pin (b,o) (R3 _ (R3 _ (wq hb e)))).1,λb hb=>by
     obtain⟨o,e,_⟩:=T.obj _ _ st7 b hb;exact(I'.pin (b,o) (R3 _ (R3 _ (wq hb e)))).2.1⟩
   cases ok with
   |false=>
    have q9: ∃m',m'<n/\W (i+1) m' ys H9:=q9;obtain⟨m',hm,w9⟩:=q9;obtain⟨t9,f9⟩:=keepT I9;exact⟨m',hm,i+1,ys,us,H9,hv5,(I9.unpinned).weak ag8.1.symm ag8.2,t9,f9,w9⟩
   |true=>
    have q9:Lr te xV H9 ys λys' H4=> ∃m',m'<n/\W (i+1) m' ys' H4:=q9
    have pD': ∀p∈X.pn++(pins++vL fp s7.heap),p.1≠D:=λp hp=>by
     rcases D5.mp hp with z|z
     ·exact pD p (O9 _ z)
     ·rcases D5.mp z with z|z
      ·exact pD p (R3 _ z)
      ·exact neD _ (Wh z).1
    rw [D4] at I9;have q10:=Vl (D:=D) hx he (pins++vL fp s7.heap) s9 xV H9 ys us _ I9 hv5 hz DX cD pD' q9;show R4 _ _ (YK _ _ _) _ _ s9;refine T3 q10 (λ_ s10 ⟨ys',us',H10,hv10,I10,m',hm,w10⟩=> ?_) λ_ _ z=>z
    rw [<-D4] at I10;obtain⟨t10,f10⟩:=keepT I10;exact⟨m',hm,i+1,ys',us',H10,hv10,(I10.unpinned).weak ag8.1.symm ag8.2,t10,f10,w10⟩
 exact Js rfl loop (T.self X.A 0 _ _ _ st2 loop)
theorem Br (elt iter tg iter' tg':T1)(ifs ifs':G0 T1)(scope:A8)(pos:Pos)(it acc:G1)(env:Env):
 nK (.ListComp elt [⟨tg,iter,ifs,0⟩,⟨tg',iter',ifs',0⟩] scope pos) 0 it acc env=
  YJ iter tg ifs it env (PN (.ListComp elt [⟨tg,iter,ifs,0⟩,⟨tg',iter',ifs',0⟩] scope pos) iter' env acc) (.compLoop (.ListComp elt [⟨tg,iter,ifs,0⟩,⟨tg',iter',ifs',0⟩] scope pos) 0 it acc env):=by
 unfold YJ PN;simp only [bind_assoc,pure_bind];rfl
def Ea (js:G0 G8)(wi:TI)(g:TG)(tt:TT)(wi':TI)(g':TG)(tt':TT)(te:TE):TE:=Ax js wi g tt (mIn wi' g' tt' (Lr te))
theorem Lt {iter' tg':T1}{ifs':G0 T1}{wi':TI}{g':TG}{tt':TT}(hc:X.calm=true)(S:BlockOk X scope js)(hi:PI X tg iter wi)
 (hg: ∀X',jt X scope X'->PG X' tg g)(ht: ∀X',jt X scope X'->PTs X' ifs tt)(hi': ∀X',jt X scope X'->PI X' tg' iter' wi')
 (hg': ∀X',jt X scope X'->PG X' tg' g')(ht': ∀X',jt X scope X'->PTs X' ifs' tt')(he: ∀X',jt X scope X'->PE X' elt te)
 (hs: ∀x,M8 iter X.env x=pure x:=by intro _;rfl)(hs': ∀env x,M8 iter' env x=pure x:=by intro _ _;rfl):
 PE X (.ListComp elt [⟨tg,iter,ifs,0⟩,⟨tg',iter',ifs',0⟩] scope pos) (Ea js wi g tt wi' g' tt' te):=by
 intro pins s σ H Q I h;rw [qS];exact PM (use:=none) hc S hi rfl hg ht (λenv acc=>PN (.ListComp elt [⟨tg,iter,ifs,0⟩,⟨tg',iter',ifs',0⟩] scope pos) iter' env acc) (λ_ _ _=>Br ..)
  (λX' hX D=>Bq (by obtain⟨_,_,_,_,rfl⟩:=hX;exact hc) (by obtain⟨_,_,_,_,rfl⟩:=hX;rfl) (hi' X' hX) (hg' X' hX) (ht' X' hX) (he X' hX) (hs' _)) hs I h
  λD C H' s' m hn hk _ _ _ _ _ _ q=>⟨m,hn,λh' hs'=>⟨.ref D,H',hk h' hs',rfl,q⟩⟩
inductive D where
 |non|bl (b:N4)|int (i:P0)|str (x:Str)|tup (ds:G0 D)|lst (a:G9)|dic (x:Str) (i:P0)|dct (a:G9)|scr (ns:G0 P0)|exc (C:G9)|fn (a:G9)
def Scr (K:G2)(H:Hp)(a:G9)(ns:G0 P0):Prop:=
 (∃o,H a=some (.frz o (.lst (ns.map V.int))))\/
  ∃ (o:Obj) (its:N0 G1) (n:G8),K.lookup a=some o/\o.cls= .type "list" /\o.dict=none/\o.data= .seq its n/\its.size<=sizeLine/\Vals (ns.map V.int) its.toList
variable {K:G2}
theorem Scr.sq {ns:G0 P0}(h:Scr K H a ns):SqL K H a (ns.map V.int):=h.elim (λz=> .inl (.inr z)) .inr
mutual
def RelD (K:G2)(H:Hp):D->V->Prop
 | .non,v=>v= .non
 | .bl b,v=>v= .bl b
 | .int i,v=>v= .int i
 | .str x,v=>v= .str x
 | .tup ds,v=> ∃a vs,v= .ref a/\H a=some (.tup vs)/\RelDs K H ds vs
 | .lst a,v=>v= .ref a/\ ∃vs,H a=some (.lst vs)
 | .dic x i,v=> ∃a,v= .ref a/\H a=some (.dK [(aO x,V.int i)])
 | .dct a,v=>v= .ref a
 | .scr ns,v=> ∃a,v= .ref a/\Scr K H a ns
 | .exc C,v=> ∃x o vs,v= .ref x/\H x=some (.frz o (.own 0))/\o.cls= .ref C/\o.data= .fields vs
 | .fn a,v=>v= .ref a/\E6 K (.ref a)=true
def RelDs (K:G2)(H:Hp):G0 D->G0 V->Prop
 | [],vs=>vs= []
 |d::ds,vs=> ∃v r,vs=v::r/\RelD K H d v/\RelDs K H ds r
end
structure Kept (H H':Hp):Prop where
 tup: ∀a xs,H a=some (.tup xs)->H' a=some (.tup xs)
 lst: ∀a xs,H a=some (.lst xs)-> ∃ys,H' a=some (.lst ys)
 dic: ∀a x i,H a=some (.dK [(aO x,V.int i)])->H' a=some (.dK [(aO x,V.int i)])
 frz: ∀a o u,H a=some (.frz o u)->H' a=some (.frz o u)
theorem Kept.refl (H:Hp):Kept H H:=⟨λ_ _ h=>h,λ_ xs h=>⟨xs,h⟩,λ_ _ _ h=>h,λ_ _ _ h=>h⟩
theorem Kept.trans {A B C:Hp}(x:Kept A B)(y:Kept B C):Kept A C:=
 ⟨λa xs h=>y.tup a xs (x.tup a xs h),λa xs h=>let ⟨_,e⟩:=x.lst a xs h;y.lst a _ e,λa k i h=>y.dic a k i (x.dic a k i h),λa o u h=>y.frz a o u (x.frz a o u h)⟩
variable {p:G9}
theorem Kept.new (h:H p=none):Kept H (upd H p o):=
 ⟨λa xs e=>by rw [jm (jq e h)];exact e,λa xs e=>⟨xs,by rw [jm (jq e h)];exact e⟩,λa k i e=>by rw [jm (jq e h)];exact e,λa o u e=>by rw [jm (jq e h)];exact e⟩
theorem Kept.put {xs ys:G0 V}(h:H p=some (.lst xs)):Kept H (upd H p (.lst ys)):=
 ⟨λa zs e=>by rw [jm (Gj e h (by intro z;cases z))];exact e,λa zs e=>by
  by_cases q:a=p
  ·subst q;exact⟨ys,jn⟩
  ·exact⟨zs,by rw [jm q];exact e⟩,
  λa k i e=>by rw [jm (Gj e h (by intro z;cases z))];exact e,λa o u e=>by rw [jm (Gj e h (by intro z;cases z))];exact e⟩
def DObj (o:HO):Prop:=(∃kvs:G0 (P0×V),o= .dK (kvs.map λp=>((hO p.1:Key),p.2)))\/ ∃φ,o= .ext φ
theorem DObj.no (d:DObj o):(∀xs,o≠ .tup xs)/\(∀xs,o≠ .lst xs)/\(∀x i,o≠ .dK [(aO x,V.int i)])/\(∀p u,o≠ .frz p u)/\ ∀ps,o≠ .tbl ps:=by
 rcases d with ⟨kvs,rfl⟩|⟨φ,rfl⟩
 ·refine⟨λ_ z=>(nomatch z),λ_ z=>(nomatch z),λx i z=> ?_,λ_ _ z=>(nomatch z),λ_ z=>(nomatch z)⟩;injection z with z
  cases kvs with
  |nil=>cases z
  |cons p r=>injection z with z _;injection z with z _;cases z
 ·exact⟨λ_ z=>(nomatch z),λ_ z=>(nomatch z),λ_ _ z=>(nomatch z),λ_ _ z=>(nomatch z),λ_ z=>(nomatch z)⟩
mutual
variable {H':Hp}
theorem RelD.mono (k:Kept H H'): ∀ {d:D} {v:V},RelD K H d v->RelD K H' d v
 | .non,_,h=>h
 | .bl _,_,h=>h
 | .int _,_,h=>h
 | .str _,_,h=>h
 | .tup ds,v,h=>by
  obtain⟨a,vs,e,h1,h2⟩:=(show ∃a vs,v= .ref a/\H a=some (.tup vs)/\RelDs K H ds vs from h);exact⟨a,vs,e,k.tup _ _ h1,RelDs.mono k h2⟩
 | .lst a,v,h=>by
  obtain⟨e,vs,h1⟩:=(show v= .ref a/\ ∃vs,H a=some (.lst vs) from h);exact⟨e,k.lst _ _ h1⟩
 | .dic x i,v,h=>by
  obtain⟨a,e,h1⟩:=(show ∃a,v= .ref a/\H a=some (.dK [(aO x,V.int i)]) from h);exact⟨a,e,k.dic _ _ _ h1⟩
 | .dct a,v,h=>h
 | .scr ns,v,h=>by
  obtain⟨a,e,h1⟩:=(show ∃a,v= .ref a/\Scr K H a ns from h);exact⟨a,e,h1.elim (λ⟨o,z⟩=> .inl ⟨o,k.frz _ _ _ z⟩) .inr⟩
 | .exc C,v,h=>by
  obtain⟨x,o,vs,e,h1,r⟩:=(show ∃x o vs,v= .ref x/\H x=some (.frz o (.own 0))/\o.cls= .ref C/\o.data= .fields vs from h);exact⟨x,o,vs,e,k.frz _ _ _ h1,r⟩
 | .fn a,v,h=>h
theorem RelDs.mono (k:Kept H H'): ∀ {ds:G0 D} {vs:G0 V},RelDs K H ds vs->RelDs K H' ds vs
 | [],_,h=>h
 |d::ds,vs,h=>by
  obtain⟨v,r,e,h1,h2⟩:=(show ∃v r,vs=v::r/\RelD K H d v/\RelDs K H ds r from h);exact⟨v,r,e,RelD.mono k h1,RelDs.mono k h2⟩
end
section
variable {K:G2}{H:Hp}
theorem RelDs.nil:RelDs K H [] []:=rfl
theorem RelDs.cons {d:D}{v:V}{ds:G0 D}{vs:G0 V}(h:RelD K H d v)(t:RelDs K H ds vs):RelDs K H (d::ds) (v::vs):=⟨v,vs,rfl,h,t⟩
theorem RelDs.length: ∀ {ds:G0 D} {vs:G0 V},RelDs K H ds vs->ds.length=vs.length
 | [],_,h=>by cases (show _= [] from h);rfl
 |d::ds,vs,h=>by
  obtain⟨v,r,e,_,h2⟩:=(show ∃v r,vs=v::r/\RelD K H d v/\RelDs K H ds r from h);subst e;simp [RelDs.length h2]
theorem RelDs.append: ∀ {ds es:G0 D} {vs us:G0 V},RelDs K H ds vs->RelDs K H es us->RelDs K H (ds++es) (vs++us)
 | [],_,_,_,h,g=>by cases (show _= [] from h);exact g
 |d::ds,es,vs,us,h,g=>by
  obtain⟨v,r,e,h1,h2⟩:=(show ∃v r,vs=v::r/\RelD K H d v/\RelDs K H ds r from h);subst e;exact .cons h1 (RelDs.append h2 g)
theorem RelDs.get: ∀ {ds:G0 D} {vs:G0 V} {i:G8} {d:D},RelDs K H ds vs->ds[i]? =some d-> ∃v,vs[i]? =some v/\RelD K H d v
 |d'::ds,vs,i,d,h,e=>by
  obtain⟨v,r,q,h1,h2⟩:=(show ∃v r,vs=v::r/\RelD K H d' v/\RelDs K H ds r from h);subst q;cases i with
  |zero=>simp at e;subst e;exact⟨v,rfl,h1⟩
  |succ i=>
   obtain⟨u,q1,q2⟩:=RelDs.get h2 (i:=i) (d:=d) (by simpa using e);exact⟨u,by simpa using q1,q2⟩
theorem RelDs.take (n:G8): ∀ {ds:G0 D} {vs:G0 V},RelDs K H ds vs->RelDs K H (ds.take n) (vs.take n):=by
 induction n with
 |zero=>intro ds vs _;exact(rfl:RelDs K H [] [])
 |succ n ih=>
  intro ds vs h;cases ds with
  |nil=>cases (show vs= [] from h);exact .nil
  |cons d ds=>
   obtain⟨v,r,e,h1,h2⟩:=(show ∃v r,vs=v::r/\RelD K H d v/\RelDs K H ds r from h);subst e;exact .cons h1 (ih h2)
theorem RelDs.drop (n:G8): ∀ {ds:G0 D} {vs:G0 V},RelDs K H ds vs->RelDs K H (ds.drop n) (vs.drop n):=by
 induction n with
 |zero=>intro ds vs h;exact h
 |succ n ih=>
  intro ds vs h;cases ds with
  |nil=>cases (show vs= [] from h);exact .nil
  |cons d ds=>
   obtain⟨v,r,e,h1,h2⟩:=(show ∃v r,vs=v::r/\RelD K H d v/\RelDs K H ds r from h);subst e;exact ih h2
theorem RelDs.set {d:D}{v:V}(q:RelD K H d v): ∀ {ds:G0 D} {vs:G0 V} (i:G8),RelDs K H ds vs->RelDs K H (ds.set i d) (vs.set i v)
 | [],_,_,h=>by cases (show _= [] from h);exact .nil
 |e::ds,vs,i,h=>by
  obtain⟨u,r,z,h1,h2⟩:=(show ∃u r,vs=u::r/\RelD K H e u/\RelDs K H ds r from h);subst z;cases i with
  |zero=>exact .cons q h2
  |succ i=>exact .cons h1 (RelDs.set q i h2)
theorem vC: ∀ns:G0 P0,RelDs K H (ns.map D.int) (ns.map V.int)
 | []=> .nil
 |n::ns=> .cons rfl (vC ns)
end
inductive DC where
 |ik (kv:G0 (P0×D))
 |tk (ep:G8) (kv:G0 (G0 (G0 P0)×D))
structure HD where
 ls:G9->P8 (G0 D)
 dc:G9->P8 DC
instance:CoeFun HD λ_=>G9->P8 (G0 D):=⟨HD.ls⟩
def zV (h:HD)(a:G9)(ds:G0 D):HD:=⟨λb=>if b=a then some ds else h b,h.dc⟩
def vH (h:HD)(a:G9):HD:=⟨λb=>if b=a then none else h b,h.dc⟩
variable {h:HD}{ds:G0 D}
theorem jc:zV h a ds a=some ds:=S2 rfl
theorem wu {b:G9}(e:b≠a):zV h a ds b=h b:=S3 e
theorem zL (e:h a=none):vH (zV h a ds) a=h:=by
 obtain⟨l,d⟩:=h;refine congrArg (HD.mk · d) ?_
 funext b
 show (if b=a then none else if b=a then some ds else l b)=l b
 by_cases q:b=a
 ·subst q;rw [S2 rfl];exact e.symm
 ·rw [S3 q,S3 q]
def LN:G0 Str:= ["law","_law_right","_law_words","_law_other_words","_law_many_right","_law_all","_law_told_row","_law_all_right","_law_desk_right","_law_signs_right","_law_lists_right","_law_text_right"]
def TabK (K:G2)(P:G9):Prop:= ∃x∈LN,∃c,iO K x=some (c,P)
def CodesOk (H:Hp)(ps:N0 G1):Prop:=dO ps.toList/\ ∀pos cv,i3 pos ps.toList=some cv-> ∃ (c:G9) (o:Obj) (vs:N0 G1) (q:Str) (t:Tok),cv= .ref c/\H c=some (.frz o (.own 0))/\o.data= .fields vs/\vs[1]? =some (.str q t)
def CTabs (K:G2)(H:Hp):Prop:= ∀P,TabK K P-> ∃ps,H P=some (.tbl ps)/\CodesOk H ps
theorem CodesOk.mono {ps:N0 G1}(k: ∀a o u,H a=some (.frz o u)->H' a=some (.frz o u))(c:CodesOk H ps):CodesOk H' ps:=
 ⟨c.1,λpos cv e=>let ⟨c',o,vs,q,t,e1,e2,r⟩:=c.2 pos cv e;⟨c',o,vs,q,t,e1,k _ _ _ e2,r⟩⟩
theorem CTabs.mono (x:CTabs K H)(k: ∀a o u,H a=some (.frz o u)->H' a=some (.frz o u))(kt: ∀a ps,H a=some (.tbl ps)->H' a=some (.tbl ps)):CTabs K H':=λP hP=>
 let ⟨ps,e,c⟩:=x P hP;⟨ps,kt _ _ e,c.mono k⟩
theorem CTabs.new (x:CTabs K H)(e:H p=none):CTabs K (upd H p o):=
 x.mono (λa o' u h=>by rw [jm (jq h e)];exact h) λa ps h=>by rw [jm (jq h e)];exact h
theorem CTabs.put {xs:G0 V}(x:CTabs K H)(e:H p=some (.lst xs)):CTabs K (upd H p o):=
 x.mono (λa o' u h=>by rw [jm (Gj h e (by intro z;cases z))];exact h) λa ps h=>by rw [jm (Gj h e (by intro z;cases z))];exact h
def Bs (T:G0 (G0 P0)):P0:=tL (g9 (T.map λr=>tL (g9 (r.map hashInt))))
def Th (a:G9)(ep:G8)(xs:G0 (G0 (G0 P0)×G9×V)):HO:= .ext λh=>(a==cC)=false/\xs.length<=sizeLine/\ ∃ys:G0 (G0 (G0 P0)×G9×G1),Paired (λp q=>p.1=q.1/\p.2.1=q.2.1/\RelV p.2.2 q.2.2) xs ys/\
 ∃o es,h.get? a=some o/\o.ExactDict/\o.data= .dict es ep/\es.toList=ys.map λx=>⟨Bs x.1,.ref x.2.1,x.2.2⟩
def DRel (K:G2)(H:Hp)(a:G9):DC->Prop
 | .ik kv=> ∃kvs:G0 (P0×V),H a=some (.dK (kvs.map λp=>((hO p.1:Key),p.2)))/\kv.map (·.1)=kvs.map (·.1)/\RelDs K H (kv.map (·.2)) (kvs.map (·.2))
 | .tk ep kv=> ∃xs:G0 (G0 (G0 P0)×G9×V),H a=some (Th a ep xs)/\(kv.map (·.1)).Nodup/\kv.map (·.1)=xs.map (·.1)/\(∀x∈xs,RelD K H (.tup (x.1.map λr=> .tup (r.map D.int))) (.ref x.2.1))/\RelDs K H (kv.map (·.2)) (xs.map (·.2.2))
theorem DRel.obj: ∀ {c:DC},DRel K H a c-> ∃o,H a=some o/\DObj o
 | .ik _,⟨kvs,e,_⟩=>⟨_,e,.inl ⟨kvs,rfl⟩⟩
 | .tk _ _,⟨xs,e,_⟩=>⟨_,e,.inr ⟨_,rfl⟩⟩
theorem DRel.mono (k:Kept H H')(z: ∀o,H a=some o->H' a=some o): ∀ {c:DC},DRel K H a c->DRel K H' a c
 | .ik _,⟨kvs,e,q,r⟩=>⟨kvs,z _ e,q,r.mono k⟩
 | .tk _ _,⟨xs,e,n,q,t,r⟩=>⟨xs,z _ e,n,q,λx hx=>(t x hx).mono k,r.mono k⟩
structure RelH (K:G2)(h:HD)(H:Hp):Prop where
 ls: ∀a ds,h a=some ds-> ∃vs,H a=some (.lst vs)/\RelDs K H ds vs
 tb:CTabs K H
 dc: ∀a c,h.dc a=some c->DRel K H a c
instance {K:G2}{h:HD}{H:Hp}:CoeFun (RelH K h H) λ_=> ∀a ds,h a=some ds-> ∃vs,H a=some (.lst vs)/\RelDs K H ds vs:=⟨RelH.ls⟩
structure Sub (h h':HD):Prop where
 ls: ∀a ds,h a=some ds->h' a=some ds
 dc: ∀a c,h.dc a=some c->h'.dc a=some c
instance {h h':HD}:CoeFun (Sub h h') λ_=> ∀a ds,h a=some ds->h' a=some ds:=⟨Sub.ls⟩
theorem Sub.refl (h:HD):Sub h h:=⟨λ_ _ e=>e,λ_ _ e=>e⟩
theorem Sub.trans {a b c:HD}(x:Sub a b)(y:Sub b c):Sub a c:=⟨λd ds e=>y d ds (x d ds e),λd ds e=>y.dc d ds (x.dc d ds e)⟩
theorem Sub.drop (h:HD)(a:G9):Sub (vH h a) h:=⟨λb ds e=>by
 have e:(if b=a then none else h b)=some ds:=e;split at e
 ·cases e
 ·exact e,λ_ _ e=>e⟩
theorem Sub.new (e:h p=none):Sub h (zV h p ds):=⟨λa es q=>(by
 rw [wu];exact q;intro z;subst z;rw [e] at q;cases q),λ_ _ e=>e⟩
section
variable {K:G2}{h h':HD}{H:Hp}
theorem RelH.sub (r:RelH K h H)(s:Sub h' h):RelH K h' H:=⟨λa ds e=>r a ds (s a ds e),r.tb,λa c e=>r.dc a c (s.dc a c e)⟩
theorem RelH.free (r:RelH K h H){p:G9}(e:H p=none):h p=none:=by
 cases q:h p with
 |none=>rfl
 |some ds=>obtain⟨vs,z,_⟩:=r p ds q;rw [e] at z;cases z
theorem RelH.dcN (r:RelH K h H){p:G9}{o:HO}(e:H p=none): ∀a c,h.dc a=some c->DRel K (upd H p o) a c:=λa c q=>
 (r.dc a c q).mono (.new e) λu z=>by rw [jm (jq z e)];exact z
theorem RelH.new (r:RelH K h H){p:G9}{o:HO}(e:H p=none):RelH K h (upd H p o):=⟨λa ds q=>by
 obtain⟨vs,z,w⟩:=r a ds q;exact⟨vs,by rw [jm (jq z e)];exact z,w.mono (.new e)⟩,r.tb.new e,r.dcN e⟩
theorem RelH.newL (r:RelH K h H){p:G9}{ds:G0 D}{vs:G0 V}(e:H p=none)(q:RelDs K H ds vs):RelH K (zV h p ds) (upd H p (.lst vs)):=⟨λa es z=>by
 by_cases w:a=p
 ·subst w;rw [jc] at z;cases z;exact⟨vs,jn,q.mono (.new e)⟩
 ·rw [wu w] at z;obtain⟨us,z1,z2⟩:=r a es z;exact⟨us,by rw [jm w];exact z1,z2.mono (.new e)⟩,r.tb.new e,r.dcN e⟩
theorem RelH.put (r:RelH K h H){p:G9}{ds:G0 D}{vs us:G0 V}(e:H p=some (.lst us))(q:RelDs K H ds vs):RelH K (zV h p ds) (upd H p (.lst vs)):=⟨λa es z=>by
 by_cases w:a=p
 ·subst w;rw [jc] at z;cases z;exact⟨vs,jn,q.mono (.put e)⟩
 ·rw [wu w] at z;obtain⟨us,z1,z2⟩:=r a es z;exact⟨us,by rw [jm w];exact z1,z2.mono (.put e)⟩,r.tb.put e,λa c z=>(r.dc a c z).mono (.put e) λo w=>by
   obtain⟨u,w',d⟩:=(r.dc a c z).obj;rw [jm (Gj w' e (d.no.2.1 _))];exact w⟩
end
abbrev SD:=G0 (P8 D)
def RelS (K:G2)(H:Hp)(xD:SD)(σ:St):Prop:=xD.length=σ.length/\ ∀ (i:G8) (d:D),xD[i]? =some (some d)-> ∃v,σ[i]? =some (some v)/\RelD K H d v
theorem RelS.mono {xD:SD}(r:RelS K H xD σ)(k:Kept H H'):RelS K H' xD σ:=⟨r.1,λi d e=>let ⟨v,a,b⟩:=r.2 i d e;⟨v,a,b.mono k⟩⟩
theorem RelS.set {xD:SD}{d:D}{v:V}(r:RelS K H xD σ)(q:RelD K H d v)(i:G8):RelS K H (xD.set i (some d)) (σ.set i (some v)):=⟨by simp [r.1],λj e h=>by
 by_cases z:i=j
 ·subst z;rw [dA] at h ⊢
  by_cases hl:i<xD.length
  ·rw [S2 rfl,S2 hl] at h;rw [S2 rfl,S2 (by rw [<-r.1];exact hl)];cases h;exact⟨v,rfl,q⟩
  ·rw [S2 rfl,S3 hl] at h;cases h
 ·rw [L7 z] at h ⊢;exact r.2 j e h⟩
theorem RelS.clear1 {xD:SD}(r:RelS K H xD σ)(i:G8):RelS K H (xD.set i none) (σ.set i none):=⟨by simp [r.1],λj e h=>by
 by_cases z:i=j
 ·subst z;rw [dA] at h;split at h
  ·split at h<;>cases h
  ·contradiction
 ·rw [L7 z] at h ⊢;exact r.2 j e h⟩
def jO:G0 G8->SD->SD
 | [],σ=>σ
 |j::js,σ=>jO js (σ.set j none)
theorem RelS.clear: ∀ (js:G0 G8) {xD:SD} {σ:St},RelS K H xD σ->RelS K H (jO js xD) (wd js σ)
 | [],_,_,r=>r
 |j::js,_,_,r=>RelS.clear js (r.clear1 j)
abbrev KD:=D->HD->Prop
abbrev TED:=SD->HD->KD->Prop
abbrev TTD:=SD->HD->(N4->HD->Prop)->Prop
abbrev TAD:=SD->HD->(G0 D->HD->Prop)->Prop
abbrev RD2:=D->D->HD->KD->Prop
abbrev RDn:=G0 D->HD->KD->Prop
structure EndsD where
 nx:SD->HD->Prop
 rt:KD
 bk:SD->HD->Prop:=λ_ _=>False
 ct:SD->HD->Prop:=λ_ _=>False
abbrev TSD:=EndsD->SD->HD->Prop
abbrev TGD:=D->SD->HD->(SD->HD->Prop)->Prop
def Nt (K:G2)(H:Hp)(Qd:KD)(Q:VK):Prop:= ∀d v h' H',Kept H H'->RelH K h' H'->RelD K H' d v->Qd d h'->Q v H'
def LE (K:G2)(t:TED):TE:=λσ H Q=> ∃xD h Qd,RelS K H xD σ/\RelH K h H/\t xD h Qd/\Nt K H Qd Q
def LT (K:G2)(t:TTD):TT:=λσ H Q=> ∃xD h Qd,RelS K H xD σ/\RelH K h H/\t xD h Qd/\ ∀b h' H',Kept H H'->RelH K h' H'->Qd b h'->Q b H'
def LA (K:G2)(t:TAD):TA:=λσ H Q=> ∃xD h Qd,RelS K H xD σ/\RelH K h H/\t xD h Qd/\ ∀ds vs h' H',Kept H H'->RelH K h' H'->RelDs K H' ds vs->Qd ds h'->Q vs H'
def LR (K:G2)(f:RD2):R2:=λx y H Q=> ∃dx dy h Qd,RelD K H dx x/\RelD K H dy y/\RelH K h H/\f dx dy h Qd/\Nt K H Qd Q
def LC (K:G2)(f:RDn):G0 V->Hp->VK->Prop:=λxs H Q=> ∃ds h Qd,RelDs K H ds xs/\RelH K h H/\f ds h Qd/\Nt K H Qd Q
def LG (K:G2)(g:TGD):TG:=λv σ H Q=> ∃d xD h Qd,RelD K H d v/\RelS K H xD σ/\RelH K h H/\g d xD h Qd/\ ∀xH h' xC H',Kept H H'->RelS K H' xH xC->RelH K h' H'->Qd xH h'->Q xC H'
def LS (K:G2)(t:TSD):TS:=λxO σ H=> ∃xD h Dd,RelS K H xD σ/\RelH K h H/\t Dd xD h/\
 (∀xH h' xC H',Kept H H'->RelS K H' xH xC->RelH K h' H'->Dd.nx xH h'->xO.nx xC H')/\Nt K H Dd.rt xO.rt/\
 (∀xH h' xC H',Kept H H'->RelS K H' xH xC->RelH K h' H'->Dd.bk xH h'->xO.bk xC H')/\(∀xH h' xC H',Kept H H'->RelS K H' xH xC->RelH K h' H'->Dd.ct xH h'->xO.ct xC H')
theorem PE.imp {t t':TE}(h:PE X e t)(i: ∀σ H Q,t' σ H Q->t σ H Q):PE X e t':=λpins s σ H Q I q=>h pins s σ H Q I (i σ H Q q)
theorem PT.imp {t t':TT}(h:PT X e t)(i: ∀σ H Q,t' σ H Q->t σ H Q):PT X e t':=λpins s σ H Q I q=>h pins s σ H Q I (i σ H Q q)
theorem PW.imp {t t':TT}(h:PW X e t)(i: ∀σ H Q,t' σ H Q->t σ H Q):PW X e t':=λwh pins s σ H Q I q=>h wh pins s σ H Q I (i σ H Q q)
theorem PA.imp {e:G0 T1}{t t':TA}(h:PA X e t)(i: ∀σ H Q,t' σ H Q->t σ H Q):PA X e t':=λpos pins s σ H Q I q=>h pos pins s σ H Q I (i σ H Q q)
theorem PS.imp {e:O3}{t t':TS}(h:PS X e t)(i: ∀D σ H,t' D σ H->t D σ H):PS X e t':=λpins s σ H D I q=>h pins s σ H D I (i D σ H q)
theorem PSs.imp {e:G0 O3}{t t':TS}(h:PSs X e t)(i: ∀D σ H,t' D σ H->t D σ H):PSs X e t':=λpins s σ H D I q=>h pins s σ H D I (i D σ H q)
theorem PG.imp {t t':TG}(h:PG X e t)(i: ∀v σ H Q,t' v σ H Q->t v σ H Q):PG X e t':=λpins s σ H v u Q I r q=>h pins s σ H v u Q I r (i v σ H Q q)
theorem OpR.imp {f:G1->G1->Sem G1}{r r':R2}(h:OpR X f r)(i: ∀x y H Q,r' x y H Q->r x y H Q):OpR X f r':=λpins s σ H x y v u Q I a b q=>h pins s σ H x y v u Q I a b (i x y H Q q)
theorem CallR.imp {f:G1}{r r':G0 V->Hp->VK->Prop}(h:CallR X f r)(i: ∀xs H Q,r' xs H Q->r xs H Q):CallR X f r':=λpins s σ H xs us Q I a q=>h pins s σ H xs us Q I a (i xs H Q q)
def Gt (i:G8):TED:=λσ h Q=> ∃d,σ[i]? =some (some d)/\Q d h
def dC (d:D):TED:=λ_ h Q=>Q d h
def dOp (f:RD2)(ta tb:TED):TED:=λσ h Q=>ta σ h λx h1=>tb σ h1 λy h2=>f x y h2 Q
def ZK:TAD:=λ_ h Q=>Q [] h
def zr (ta:TED)(tr:TAD):TAD:=λσ h Q=>ta σ h λx h1=>tr σ h1 λxs h2=>Q (x::xs) h2
def Ft (t:TAD):TED:=λσ h Q=>t σ h λds h1=>ds.length<=sizeLine/\Q (.tup ds) h1
def Bv (t:TAD):TED:=λσ h Q=>t σ h λds h1=>ds.length<=sizeLine/\ ∀p,h1 p=none->Q (.lst p) (zV h1 p ds)
def dCB (r:RDn)(t:TAD):TED:=λσ h Q=>t σ h λds h1=>r ds h1 Q
def ZL (t:TED):TTD:=λσ h Q=>t σ h λx h1=> ∃k,x= .bl k/\Q k h1
def Wu (r r':RD2)(ta tb tc:TED):TED:=λσ h Q=>ta σ h λx h1=>tb σ h1 λy h2=>r x y h2 λz h3=> ∃k,z= .bl k/\
 (if k=true then tc σ h3 λw h4=>r' y w h4 Q else Q (.bl false) h3)
def Bw (t u:TTD):TTD:=λσ h Q=>t σ h λc h1=>if c=true then u σ h1 Q else Q false h1
def Lu (t u:TTD):TTD:=λσ h Q=>t σ h λc h1=>if c=true then Q true h1 else u σ h1 Q
def PP (t:TTD):TTD:=λσ h Q=>t σ h λc h1=>Q (!c) h1
def PQ (ta tb:TED):TED:=λσ h Q=>ta σ h λx h1=> ∃c,x= .bl c/\if c=true then tb σ h1 Q else Q (.bl false) h1
def Eb (ta tb:TED):TED:=λσ h Q=>ta σ h λx h1=> ∃c,x= .bl c/\if c=true then Q (.bl true) h1 else tb σ h1 Q
def PR (ta:TED):TED:=λσ h Q=>ta σ h λx h1=> ∃c,x= .bl c/\Q (.bl (!c)) h1
def dIf (t:TTD)(ta tb:TED):TED:=λσ h Q=>t σ h λc h1=>if c=true then ta σ h1 Q else tb σ h1 Q
section
variable {K:G2}
theorem Lv (i:G8): ∀σ H Q,LE K (Gt i) σ H Q->Sg i σ H Q:=λσ H Q ⟨xD,h,Qd,rs,rh,⟨d,e,q⟩,p⟩=>let ⟨v,e1,e2⟩:=rs.2 i d e;⟨v,e1,p d v h H (.refl H) rh e2 q⟩
theorem Lw {d:D}{v:V}(r: ∀H,RelD K H d v): ∀σ H Q,LE K (dC d) σ H Q->tC v σ H Q:=λσ H Q ⟨xD,h,Qd,rs,rh,q,p⟩=>p d v h H (.refl H) rh (r H) q
variable {H:Hp}
theorem jC {H1:Hp}{Qd:KD}{Q:VK}(p:Nt K H Qd Q)(k:Kept H H1):Nt K H1 Qd Q:=λd v h' H' k'=>p d v h' H' (k.trans k')
variable {ta:TED}
theorem LE.bind {σ:St}{xD:SD}{h:HD}{kd:KD}{k:VK}(rs:RelS K H xD σ)(rh:RelH K h H)(t:ta xD h kd)(f: ∀d v h' H',Kept H H'->RelS K H' xD σ->RelH K h' H'->RelD K H' d v->kd d h'->k v H'):LE K ta σ H k:=
 ⟨xD,h,kd,rs,rh,t,λd v h' H' kp r1 r2 q=>f d v h' H' kp (rs.mono kp) r1 r2 q⟩
theorem LT.bind {ta:TTD}{σ:St}{xD:SD}{h:HD}{kd:N4->HD->Prop}{k:N4->Hp->Prop}(rs:RelS K H xD σ)(rh:RelH K h H)(t:ta xD h kd)(f: ∀b h' H',Kept H H'->RelS K H' xD σ->RelH K h' H'->kd b h'->k b H'):LT K ta σ H k:=
 ⟨xD,h,kd,rs,rh,t,λb h' H' kp r1 q=>f b h' H' kp (rs.mono kp) r1 q⟩
theorem LA.bind {ta:TAD}{σ:St}{xD:SD}{h:HD}{kd:G0 D->HD->Prop}{k:G0 V->Hp->Prop}(rs:RelS K H xD σ)(rh:RelH K h H)(t:ta xD h kd)(f: ∀ds vs h' H',Kept H H'->RelS K H' xD σ->RelH K h' H'->RelDs K H' ds vs->kd ds h'->k vs H'):LA K ta σ H k:=
 ⟨xD,h,kd,rs,rh,t,λd v h' H' kp r1 r2 q=>f d v h' H' kp (rs.mono kp) r1 r2 q⟩
variable {tb:TED}
theorem Bx {f:RD2}: ∀σ H Q,LE K (dOp f ta tb) σ H Q->tOp (LR K f) (LE K ta) (LE K tb) σ H Q:=λσ H Q ⟨xD,h,Qd,rs,rh,t,p⟩=>
 LE.bind rs rh t λd v h1 H1 k1 rs1 rh1 r1 t1=>LE.bind rs1 rh1 t1 λd2 v2 h2 H2 k2 rs2 rh2 r2 t2=>⟨d,d2,h2,Qd,r1.mono k2,r2,rh2,t2,jC p (k1.trans k2)⟩
theorem Lx: ∀σ H Q,LA K ZK σ H Q->AQ σ H Q:=λσ H Q ⟨xD,h,Qd,rs,rh,t,p⟩=>p [] [] h H (.refl H) rh rfl t
theorem By {tr:TAD}: ∀σ H Q,LA K (zr ta tr) σ H Q->RM (LE K ta) (LA K tr) σ H Q:=λσ H Q ⟨xD,h,Qd,rs,rh,t,p⟩=>
 LE.bind rs rh t λd v h1 H1 k1 rs1 rh1 r1 t1=>LA.bind rs1 rh1 t1 λds vs h2 H2 k2 rs2 rh2 r2 t2=>p _ _ h2 H2 (k1.trans k2) rh2 (.cons (r1.mono k2) r2) t2
theorem Ly {t:TAD}: ∀σ H Q,LE K (Ft t) σ H Q->Sy (LA K t) σ H Q:=λσ H Q ⟨xD,h,Qd,rs,rh,t,p⟩=>
 LA.bind rs rh t λds vs h1 H1 k1 rs1 rh1 r1 ⟨z,q⟩=>⟨by rw [<-r1.length];exact z,λa ha=>p (.tup ds) (.ref a) h1 _ (k1.trans (.new ha)) (rh1.new ha) ⟨a,vs,rfl,jn,r1.mono (.new ha)⟩ q⟩
theorem Lz {t:TAD}: ∀σ H Q,LE K (Bv t) σ H Q->Sz (LA K t) σ H Q:=λσ H Q ⟨xD,h,Qd,rs,rh,t,p⟩=>
 LA.bind rs rh t λds vs h1 H1 k1 rs1 rh1 r1 ⟨z,q⟩=>⟨by rw [<-r1.length];exact z,λa ha=>p (.lst a) (.ref a) _ _ (k1.trans (.new ha)) (rh1.newL ha r1) ⟨rfl,vs,jn⟩ (q a (rh1.free ha))⟩
theorem LB {r:RDn}{t:TAD}: ∀σ H Q,LE K (dCB r t) σ H Q->tCB (LC K r) (LA K t) σ H Q:=λσ H Q ⟨xD,h,Qd,rs,rh,t,p⟩=>
 LA.bind rs rh t λds vs h1 H1 k1 rs1 rh1 r1 q=>⟨ds,h1,Qd,r1,rh1,q,jC p k1⟩
theorem PU {t:TED}: ∀σ H Q,LT K (ZL t) σ H Q->NX (LE K t) σ H Q:=λσ H Q ⟨xD,h,Qd,rs,rh,t,p⟩=>
 LE.bind rs rh t λd v h1 H1 k1 rs1 rh1 r1 ⟨k,e,q⟩=>by subst e;exact⟨k,r1,p k h1 H1 k1 rh1 q⟩
theorem RX {t:TED}: ∀σ H Q,LT K (ZL t) σ H Q->tB (LE K t) σ H Q:=λσ H Q ⟨xD,h,Qd,rs,rh,t,p⟩=>
 LE.bind rs rh t λd v h1 H1 k1 rs1 rh1 r1 ⟨k,e,q⟩=>by subst e;exact⟨k,r1,p k h1 H1 k1 rh1 q⟩
theorem Qu {r r':RD2}{tc:TED}: ∀σ H Q,LE K (Wu r r' ta tb tc) σ H Q->Pr (LR K r) (LR K r') (LE K ta) (LE K tb) (LE K tc) σ H Q:=λσ H Q ⟨xD,h,Qd,rs,rh,t,p⟩=>
 LE.bind rs rh t λd v h1 H1 k1 rs1 rh1 r1 t1=>LE.bind rs1 rh1 t1 λd2 v2 h2 H2 k2 rs2 rh2 r2 t2=>⟨d,d2,h2,_,r1.mono k2,r2,rh2,t2,λd3 v3 h3 H3 k3 rh3 r3 ⟨k,e,q⟩=>by
  subst e;refine⟨k,r3,?_⟩;cases k with
  |true=>
   rw [S2 rfl] at q ⊢;exact LE.bind (rs2.mono k3) rh3 q λd4 v4 h4 H4 k4 rs4 rh4 r4 t4=>⟨d2,d4,h4,Qd,(r2.mono k3).mono k4,r4,rh4,t4,jC p (k1.trans (k2.trans (k3.trans k4)))⟩
  |false=>
   rw [S3 D9] at q ⊢;exact p (.bl false) _ h3 H3 (k1.trans (k2.trans k3)) rh3 rfl q⟩
variable {t:TTD}
theorem LD {u:TTD}: ∀σ H Q,LT K (Bw t u) σ H Q->Sh (LT K t) (LT K u) σ H Q:=λσ H Q ⟨xD,h,Qd,rs,rh,t,p⟩=>
 LT.bind rs rh t λb h1 H1 k1 rs1 rh1 q=>by
  cases b with
  |true=>rw [S2 rfl] at q ⊢;exact⟨xD,h1,Qd,rs1,rh1,q,λb h' H' k=>p b h' H' (k1.trans k)⟩
  |false=>rw [S3 D9] at q ⊢;exact p _ _ _ k1 rh1 q
theorem Ec {u:TTD}: ∀σ H Q,LT K (Lu t u) σ H Q->tOr (LT K t) (LT K u) σ H Q:=λσ H Q ⟨xD,h,Qd,rs,rh,t,p⟩=>
 LT.bind rs rh t λb h1 H1 k1 rs1 rh1 q=>by
  cases b with
  |true=>rw [S2 rfl] at q ⊢;exact p _ _ _ k1 rh1 q
  |false=>rw [S3 D9] at q ⊢;exact⟨xD,h1,Qd,rs1,rh1,q,λb h' H' k=>p b h' H' (k1.trans k)⟩
theorem LF: ∀σ H Q,LT K (PP t) σ H Q->Si (LT K t) σ H Q:=λσ H Q ⟨xD,h,Qd,rs,rh,t,p⟩=>
 LT.bind rs rh t λb h1 H1 k1 rs1 rh1 q=>p _ _ _ k1 rh1 q
theorem LH: ∀σ H Q,LE K (PQ ta tb) σ H Q->FK (LE K ta) (LE K tb) σ H Q:=λσ H Q ⟨xD,h,Qd,rs,rh,t,p⟩=>
 LE.bind rs rh t λd v h1 H1 k1 rs1 rh1 r1 ⟨c,e,q⟩=>by
  subst e;refine⟨c,r1,?_⟩;cases c with
  |true=>rw [S2 rfl] at q ⊢;exact⟨xD,h1,Qd,rs1,rh1,q,jC p k1⟩
  |false=>rw [S3 D9] at q ⊢;exact p (.bl false) _ _ _ k1 rh1 rfl q
theorem Ed: ∀σ H Q,LE K (Eb ta tb) σ H Q->Sj (LE K ta) (LE K tb) σ H Q:=λσ H Q ⟨xD,h,Qd,rs,rh,t,p⟩=>
 LE.bind rs rh t λd v h1 H1 k1 rs1 rh1 r1 ⟨c,e,q⟩=>by
  subst e;refine⟨c,r1,?_⟩;cases c with
  |true=>rw [S2 rfl] at q ⊢;exact p (.bl true) _ _ _ k1 rh1 rfl q
  |false=>rw [S3 D9] at q ⊢;exact⟨xD,h1,Qd,rs1,rh1,q,jC p k1⟩
theorem LJ: ∀σ H Q,LE K (PR ta) σ H Q->FL (LE K ta) σ H Q:=λσ H Q ⟨xD,h,Qd,rs,rh,t,p⟩=>
 LE.bind rs rh t λd v h1 H1 k1 rs1 rh1 r1 ⟨c,e,q⟩=>by subst e;exact⟨c,r1,p (.bl (!c)) _ _ _ k1 rh1 rfl q⟩
theorem Ee: ∀σ H Q,LE K (dIf t ta tb) σ H Q->tIf (LT K t) (LE K ta) (LE K tb) σ H Q:=λσ H Q ⟨xD,h,Qd,rs,rh,t,p⟩=>
 LT.bind rs rh t λb h1 H1 k1 rs1 rh1 q=>by
  cases b with
  |true=>rw [S2 rfl] at q ⊢;exact⟨xD,h1,Qd,rs1,rh1,q,jC p k1⟩
  |false=>rw [S3 D9] at q ⊢;exact⟨xD,h1,Qd,rs1,rh1,q,jC p k1⟩
end
abbrev QE (X:Cx)(e:T1)(t:TED):Prop:=PE X e (LE X.K t)
abbrev QT (X:Cx)(e:T1)(t:TTD):Prop:=PT X e (LT X.K t)
abbrev QW (X:Cx)(e:T1)(t:TTD):Prop:=PW X e (LT X.K t)
abbrev QA (X:Cx)(es:G0 T1)(t:TAD):Prop:=PA X es (LA X.K t)
abbrev QS (X:Cx)(s:O3)(t:TSD):Prop:=PS X s (LS X.K t)
abbrev QSs (X:Cx)(s:G0 O3)(t:TSD):Prop:=PSs X s (LS X.K t)
abbrev QG (X:Cx)(e:T1)(t:TGD):Prop:=PG X e (LG X.K t)
abbrev OpQ (X:Cx)(f:G1->G1->Sem G1)(r:RD2):Prop:=OpR X f (LR X.K r)
abbrev ye (X:Cx)(f:G1)(r:RDn):Prop:=CallR X f (LC X.K r)
section
variable {X:Cx}{a b c e:T1}{es rest:G0 T1}{ta tb tc te:TED}{t u:TAD}{tt tu:TTD}{pos:Pos}{f r r':RD2}
theorem qv (i:G8){x:Str}(hN:X.N[i]? =some x:=by rfl)(hv:Vis X.env.scope x:=by first|exact A2 rfl|exact V3 (A2 rfl)|exact V3 (V3 rfl))(hd:(x==("__debug__" :Str))=false:=by decide)
 (hcd:(x==("__classdict__" :Str))=false:=by decide):QE X (.Name x pos) (Gt i):=(FF hN hv hd hcd).imp (Lv i)
variable {j:G8}
theorem Ef {i:P0}:QE X (.Constant (.int i) j pos) (dC (.int i)):=pe_int.imp (Lw λ_=>rfl)
theorem qbl {i:N4}:QE X (.Constant (.bool i) j pos) (dC (.bl i)):=pe_bl.imp (Lw λ_=>rfl)
theorem Ti:QE X (.Constant .none j pos) (dC .non):=pe_non.imp (Lw λ_=>rfl)
theorem Tj {x:Str}:QE X (.Constant (.str x) j pos) (dC (.str x)):=pe_str.imp (Lw λ_=>rfl)
theorem Eg {x:Str}{i:P0}{tk:Tok}(hg:Gl X x)(hm:X.mg x=some (.int i tk))(hd:(x==("__debug__" :Str))=false:=by decide):QE X (.Name x pos) (dC (.int i)):=
 (Pi (v:= .int i) hg hm ⟨tk,rfl⟩ hd).imp (Lw λ_=>rfl)
theorem qop {op:sG}(ho:OpQ X (J0 op) f)(ha:QE X a ta)(hb:QE X b tb):QE X (.BinOp a op b pos) (dOp f ta tb):=(AJ ho ha hb).imp Bx
theorem Tk {op:iB}(ho:OpQ X (B1 op) f)(ha:QE X a ta)(hb:QE X b tb)(hm:U8 op b=false):QE X (.Compare a [op] [b] pos) (dOp f ta tb):=(NW ho ha hb hm).imp Bx
theorem Eh {op:iB}(ho:OpQ X (B1 op) f)(ha:QE X a ta)(hb:QE X b tb)(hm:U8 op b=false):QT X (.Compare a [op] [b] pos) (ZL (dOp f ta tb)):=
 (NY ho ha hb hm).imp λσ H Q h=>by
  obtain⟨xD,h,Qd,rs,rh,t,p⟩:=PU (t:=dOp f ta tb) σ H Q h;exact Bx σ H _ ⟨xD,h,Qd,rs,rh,t,p⟩
theorem LK {op op':iB}(ho:OpQ X (B1 op) r)(ho':OpQ X (B1 op') r')(ha:QE X a ta)(hb:QE X b tb)(hc:QE X c tc)(hm:iU [op,op'] [b,c]=false:=by with_unfolding_all rfl):
 QE X (.Compare a [op,op'] [b,c] pos) (Wu r r' ta tb tc):=(RK ho ho' ha hb hc hm).imp Qu
theorem Bz {op op':iB}(ho:OpQ X (B1 op) r)(ho':OpQ X (B1 op') r')(ha:QE X a ta)(hb:QE X b tb)(hc:QE X c tc)(hm:iU [op,op'] [b,c]=false:=by with_unfolding_all rfl):
 QT X (.Compare a [op,op'] [b,c] pos) (ZL (Wu r r' ta tb tc)):=(RL ho ho' ha hb hc hm).imp λσ H Q h=>by
 obtain⟨xD,h,Qd,rs,rh,t,p⟩:=PU (t:=Wu r r' ta tb tc) σ H Q h;exact Qu σ H _ ⟨xD,h,Qd,rs,rh,t,p⟩
theorem Ei (ha:QE X a ta)(he: ∀whole,isTrue a X.env whole=(do let v <-whole;i8 a.pos;bW [v] (sU v)):=by intro _;rfl):QT X a (ZL ta):=(FG ha he).imp RX
theorem Ej (ha:QT X a tt):QW X (.BoolOp .And [a] pos) tt:=NP ha
theorem Tl (ha:QT X a tt):QW X (.BoolOp .Or [a] pos) tt:=FH ha
theorem Ek (ha:QT X a tt)(hb:QW X (.BoolOp .And (b::rest) pos) tu):QW X (.BoolOp .And (a::b::rest) pos) (Bw tt tu):=(FI ha hb).imp LD
theorem Tn (ha:QT X a tt)(hb:QW X (.BoolOp .Or (b::rest) pos) tu):QW X (.BoolOp .Or (a::b::rest) pos) (Lu tt tu):=(AE ha hb).imp Ec
theorem El (ha:QT X a tt):QT X (.UnaryOp .Not a pos) (PP tt):=(FJ ha).imp LF
theorem To {op:BoolOp}(ha:QE X a ta):QE X (.BoolOp op [a] pos) ta:=FM ha
theorem Tp (ha:QE X a ta)(hb:QE X (.BoolOp .And (b::rest) pos) tb):QE X (.BoolOp .And (a::b::rest) pos) (PQ ta tb):=(FN ha hb).imp LH
theorem qor (ha:QE X a ta)(hb:QE X (.BoolOp .Or (b::rest) pos) tb):QE X (.BoolOp .Or (a::b::rest) pos) (Eb ta tb):=(AF ha hb).imp Ed
theorem Tq (ha:QE X a ta):QE X (.UnaryOp .Not a pos) (PR ta):=(FO ha).imp LJ
theorem qif {c:T1}(hc:QT X c tt)(ha:QE X a ta)(hb:QE X b tb):QE X (.IfExp c a b pos) (dIf tt ta tb):=(RI hc ha hb).imp Ee
theorem LM:QA X [] ZK:=pa_nil.imp Lx
theorem BB (ha:QE X e te)(hr:QA X es t)(hs:D7 (e::es) X.env=(false,A7 e X.env)::D7 es X.env:=by rfl):QA X (e::es) (zr te t):=(wR ha hr hs).imp By
theorem Tr {k:G8}(h:QA X es t):QE X (.Tuple es k pos) (Ft t):=(Lf h).imp Ly
theorem Ts (h:QA X es t):QE X (.List es pos) (Bv t):=(Lg h).imp Lz
end
def Xx:TSD:=λD σ h=>D.nx σ h
def yX (t u:TSD):TSD:=λD σ h=>t {D with nx:=u D} σ h
def BC (te:TED):TSD:=λD σ h=>te σ h λ_ h1=>D.nx σ h1
def Gu (te:TED):TSD:=λD σ h=>te σ h D.rt
def BD (c:TTD)(t u:TSD):TSD:=λD σ h=>c σ h λb h1=>if b=true then t D σ h1 else u D σ h1
def RY (i:G8)(te:TED):TSD:=λD σ h=>te σ h λd h1=>D.nx (σ.set i (some d)) h1
def Em (te:TED)(g:TGD):TSD:=λD σ h=>te σ h λx h1=>g x σ h1 D.nx
def En (i j:G8)(ta:TAD):TSD:=λD σ h=>ta σ h λds h1=> ∃v w,ds= [v,w]/\D.nx ((σ.set i (some v)).set j (some w)) h1
def gN (i:G8):TGD:=λd σ h Q=>Q (σ.set i (some d)) h
def gT2 (i j:G8):TGD:=λd σ h Q=> ∃x y,d= .tup [x,y]/\Q ((σ.set i (some x)).set j (some y)) h
section
variable {K:G2}
theorem LS.of {t:TSD}{xO:Ends}{σ:St}{H:Hp}{xD:SD}{h:HD}{Dd:EndsD}(rs:RelS K H xD σ)(rh:RelH K h H)(q:t Dd xD h)
 (nx: ∀xH h' xC H',Kept H H'->RelS K H' xH xC->RelH K h' H'->Dd.nx xH h'->xO.nx xC H')(rt:Nt K H Dd.rt xO.rt)
 (bk: ∀xH h' xC H',Kept H H'->RelS K H' xH xC->RelH K h' H'->Dd.bk xH h'->xO.bk xC H')(ct: ∀xH h' xC H',Kept H H'->RelS K H' xH xC->RelH K h' H'->Dd.ct xH h'->xO.ct xC H'):LS K t xO σ H:=⟨xD,h,Dd,rs,rh,q,nx,rt,bk,ct⟩
theorem BE: ∀D σ H,LS K Xx D σ H->FP D σ H:=λD σ H ⟨xD,h,Dd,rs,rh,q,nx,_⟩=>nx xD h σ H (.refl H) rs rh q
theorem LP {t u:TSD}: ∀D σ H,LS K (yX t u) D σ H->Sk (LS K t) (LS K u) D σ H:=λD σ H ⟨xD,h,Dd,rs,rh,q,nx,rt,bk,ct⟩=>
 LS.of rs rh q (λxH h' xC H' k rs' rh' q'=>⟨xH,h',Dd,rs',rh',q',λa b c d k'=>nx a b c d (k.trans k'),jC rt k,λa b c d k'=>bk a b c d (k.trans k'),λa b c d k'=>ct a b c d (k.trans k')⟩) rt bk ct
variable {te:TED}
theorem BF: ∀D σ H,LS K (BC te) D σ H->FQ (LE K te) D σ H:=λD σ H ⟨xD,h,Dd,rs,rh,q,nx,rt,bk,ct⟩=>
 LE.bind rs rh q λd v h1 H1 k1 rs1 rh1 r1 q1=>nx _ _ _ _ k1 rs1 rh1 q1
theorem LQ: ∀D σ H,LS K (Gu te) D σ H->Sl (LE K te) D σ H:=λD σ H ⟨xD,h,Dd,rs,rh,q,nx,rt,bk,ct⟩=>⟨xD,h,Dd.rt,rs,rh,q,rt⟩
theorem Eo {c:TTD}{t u:TSD}: ∀D σ H,LS K (BD c t u) D σ H->Sm (LT K c) (LS K t) (LS K u) D σ H:=λD σ H ⟨xD,h,Dd,rs,rh,q,nx,rt,bk,ct⟩=>
 LT.bind rs rh q λb h1 H1 k rs1 rh1 q1=>by
  cases b with
  |true=>rw [S2 rfl] at q1 ⊢;exact⟨xD,h1,Dd,rs1,rh1,q1,λa b c d k'=>nx a b c d (k.trans k'),jC rt k,λa b c d k'=>bk a b c d (k.trans k'),λa b c d k'=>ct a b c d (k.trans k')⟩
  |false=>rw [S3 D9] at q1 ⊢;exact⟨xD,h1,Dd,rs1,rh1,q1,λa b c d k'=>nx a b c d (k.trans k'),jC rt k,λa b c d k'=>bk a b c d (k.trans k'),λa b c d k'=>ct a b c d (k.trans k')⟩
theorem Nu {i:G8}: ∀D σ H,LS K (RY i te) D σ H->NS (LE K te) (wQ i) D σ H:=λD σ H ⟨xD,h,Dd,rs,rh,q,nx,rt,bk,ct⟩=>
 LE.bind rs rh q λd v h1 H1 k1 rs1 rh1 r1 q1=>nx _ _ _ _ k1 (rs1.set r1 i) rh1 q1
theorem LU {g:TGD}: ∀D σ H,LS K (Em te g) D σ H->NS (LE K te) (LG K g) D σ H:=λD σ H ⟨xD,h,Dd,rs,rh,q,nx,rt,bk,ct⟩=>
 LE.bind rs rh q λd v h1 H1 k1 rs1 rh1 r1 q1=>⟨d,xD,h1,_,r1,rs1,rh1,q1,λa b c e k'=>nx a b c e (k1.trans k')⟩
theorem LV {i j:G8}{ta:TAD}: ∀D σ H,LS K (En i j ta) D σ H->So i j (LA K ta) D σ H:=λD σ H ⟨xD,h,Dd,rs,rh,q,nx,rt,bk,ct⟩=>
 LA.bind rs rh q λds vs h1 H1 k1 rs1 rh1 r1 ⟨x,y,e,q1⟩=>by
  subst e;obtain⟨v,r,e,r2,r3⟩:=(show ∃v r,vs=v::r/\RelD K H1 x v/\RelDs K H1 [y] r from r1);obtain⟨w,r',e',r4,r5⟩:=(show ∃v r',r=v::r'/\RelD K H1 y v/\RelDs K H1 [] r' from r3);cases (show r'= [] from r5);subst e' e;exact⟨v,w,rfl,nx _ _ _ _ k1 ((rs1.set r2 i).set r4 j) rh1 q1⟩
theorem BG (i:G8): ∀v σ H Q,LG K (gN i) v σ H Q->wQ i v σ H Q:=λv σ H Q ⟨d,xD,h,Qd,r,rs,rh,q,p⟩=>p _ _ _ _ (.refl H) (rs.set r i) rh q
theorem zM {H:Hp}{x y:D}{vs:G0 V}(r:RelDs K H [x,y] vs): ∃v w,vs= [v,w]/\RelD K H x v/\RelD K H y w:=by
 obtain⟨v,r1,e,r2,r3⟩:=(show ∃v r,vs=v::r/\RelD K H x v/\RelDs K H [y] r from r);obtain⟨w,z,e',r4,r5⟩:=(show ∃v z,r1=v::z/\RelD K H y v/\RelDs K H [] z from r3);cases (show z= [] from r5);subst e' e;exact⟨v,w,rfl,r2,r4⟩
theorem jB {H:Hp}{x:D}{vs:G0 V}(r:RelDs K H [x] vs): ∃v,vs= [v]/\RelD K H x v:=by
 obtain⟨v,r1,e,r2,r3⟩:=(show ∃v r,vs=v::r/\RelD K H x v/\RelDs K H [] r from r);cases (show r1= [] from r3);exact⟨v,e,r2⟩
theorem LW (i j:G8): ∀v σ H Q,LG K (gT2 i j) v σ H Q->Fs K 2 (ZJ (wQ i) (ZJ (wQ j) Fr)) v σ H Q:=λv σ H Q ⟨d,xD,h,Qd,r,rs,rh,⟨x,y,e,q⟩,p⟩=>by
 subst e;obtain⟨a,vs,e,hH,r1⟩:=(show ∃a vs,v= .ref a/\H a=some (.tup vs)/\RelDs K H [x,y] vs from r);obtain⟨v1,v2,e1,r2,r3⟩:=zM r1;subst e e1;exact⟨a,[v1,v2],rfl,SqT.of hH,rfl,v1,[v2],rfl,v2,[],rfl,rfl,p _ _ _ _ (.refl H) ((rs.set r2 i).set r3 j) rh q⟩
end
section
variable {X:Cx}{st:O3}{sts:G0 O3}{t u:TSD}{e:T1}{te:TED}{pos:Pos}
theorem LX:QSs X [] Xx:=pss_nil.imp BE
theorem BH (h1:QS X st t)(h2:QSs X sts u):QSs X (st::sts) (yX t u):=(RJ h1 h2).imp LP
theorem LY (h1:QS X st t):QSs X [st] t:=NQ h1
theorem Ep (he:QE X e te)(hs:Z0 e none pos.line X.env=pure false:=by rfl):QS X (.Expr e pos) (BC te):=(NR he hs).imp BF
theorem Tt (he:QE X e te):QS X (.Return (some e) pos) (Gu te):=(FR he).imp LQ
theorem Tu {c:T1}{a b:G0 O3}{tc:TTD}(hc:QT X c tc)(ha:QSs X a t)(hb:QSs X b u):QS X (.If c a b pos) (BD tc t u):=(AG hc ha hb).imp Eo
variable {i:G8}{x:Str}
theorem Tv {pos':Pos}(hN:X.N.Nodup)(hi:X.N[i]? =some x)(hx:Loc X.env.scope x)(he:QE X e te)(hs:Z0 e (some (.Name x pos')) pos.line X.env=pure false:=by rfl)
 (hf:X.fn x=true\/X.env.scope.names.lookup x=some .local:=by first|exact .inl rfl|exact .inr rfl|assumption):QS X (.Assign [.Name x pos'] e pos) (RY i te):=(FU hN hi hx he hs hf).imp Nu
theorem BI (hN:X.N.Nodup)(hi:X.N[i]? =some x)(hx:Loc X.env.scope x)(hf:X.fn x=true\/X.env.scope.names.lookup x=some .local:=by first|exact .inl rfl|exact .inr rfl|assumption):QG X (.Name x pos) (gN i):=
 (yu hN hi hx hf).imp (BG i)
theorem LZ {j:G8}{y:Str}{p1 p2:Pos}{k:G8}(hc:X.calm=true)(hN:X.N.Nodup)(hi:X.N[i]? =some x)(hj:X.N[j]? =some y)(hx:Loc X.env.scope x)(hy:Loc X.env.scope y)
 (hf:X.fn x=true\/X.env.scope.names.lookup x=some .local:=by first|exact .inl rfl|exact .inr rfl|assumption)(hf2:X.fn y=true\/X.env.scope.names.lookup y=some .local:=by first|exact .inl rfl|exact .inr rfl|assumption):
 QG X (.Tuple [.Name x p1,.Name y p2] k pos) (gT2 i j):=(Qq hc (wf (yu hN hi hx hf) (wf (yu hN hj hy hf2) Vg))).imp (LW i j)
theorem Tw {tg:T1}{g:TGD}(he:QE X e te)(hg:QG X tg g)(hs:bO [tg] e pos.line X.env=pure false:=by rfl)(hsw:bP [tg] e X.env=pure none:=by rfl)
 (h1:(cE [tg] X.env).map (·.2)= [eJ tg X.env]:=by rfl):QS X (.Assign [tg] e pos) (Em te g):=(FT he hg hs hsw h1).imp LU
theorem Tx {j:G8}{y:Str}{a b:T1}{ta:TAD}{px py pt:Pos}{kt k2 pt2}(hc:X.calm=true)(hN:X.N.Nodup)(hi:X.N[i]? =some x)(hj:X.N[j]? =some y)(hij:i≠j)
 (hx:X.env.scope.names.lookup x=some .local)(hy:X.env.scope.names.lookup y=some .local)(ha:QA X [a,b] ta)
 (hw:bP [.Tuple [.Name x px,.Name y py] kt pt] (.Tuple [a,b] k2 pt2) X.env=pure (some [x,y]))
 (hs:bO [.Tuple [.Name x px,.Name y py] kt pt] (.Tuple [a,b] k2 pt2) pos.line X.env=pure false:=by rfl):
 QS X (.Assign [.Tuple [.Name x px,.Name y py] kt pt] (.Tuple [a,b] k2 pt2) pos) (En i j ta):=(FV hc hN hi hj hij hx hy ha hw hs).imp LV
end
abbrev ItD:=HD->P8 (G0 D)
def BJ (K:G2)(H:Hp)(j:ItD)(J:It):Prop:= ∀H' h',Kept H H'->RelH K h' H'-> ∀ds,j h'=some ds-> ∀i:G8,
 (∀d,ds[i]? =some d->J.go i H'/\ ∀x H'',J.yld i H' x H''->Kept H' H''/\RelH K h' H''/\RelD K H'' d x)/\(ds.length<=i->J.stop i H')
abbrev TID:=SD->HD->(ItD->HD->Prop)->Prop
def LI (K:G2)(t:TID):TI:=λσ H R=> ∃xD h Rd,RelS K H xD σ/\RelH K h H/\t xD h Rd/\ ∀j J h' H',Kept H H'->RelH K h' H'->BJ K H' j J->Rd j h'->R J H'
abbrev QI (X:Cx)(tg iter:T1)(t:TID):Prop:=PI X tg iter (LI X.K t)
theorem PI.imp {t t':TI}(h:PI X tg e t)(i: ∀σ H R,t' σ H R->t σ H R):PI X tg e t':=λpins s σ H R I q=>h pins s σ H R I (i σ H R q)
def iL (te:TED):TID:=λσ h R=>te σ h λx h1=> ∃a,x= .lst a/\R (λh=>h a) h1
def iR1 (ta:TAD):TID:=λσ h R=>ta σ h λds h1=> ∃n:P0,ds= [.int n]/\ -(2^62)<=n/\n<2^62/\R (λ_=>some ((R6 n.toNat).map λ(k:G8)=>D.int (k:P0))) h1
def iR2 (ta:TAD):TID:=λσ h R=>ta σ h λds h1=> ∃m n:P0,ds= [.int m,.int n]/\(-(2^62)<=m/\m<2^62/\ -(2^62)<=n/\n<2^62)/\R (λ_=>some ((R6 (n-m).toNat).map λ(k:G8)=>D.int (m+(k:P0)))) h1
section
variable {K:G2}
theorem Ut (H:Hp)(a:G9):BJ K H (λh=>h a) (Itl K a):=λH' h' k rh ds e i=>by
 obtain⟨vs,hv,r⟩:=rh a ds e;refine⟨λd hd=> ?_,λhl=>⟨vs,SqL.of hv,by rw [<-r.length];exact hl⟩⟩;obtain⟨v,e1,e2⟩:=r.get hd;refine⟨⟨vs,v,SqL.of hv,e1⟩,λx H'' ⟨eH,hx⟩=> ?_⟩;subst eH;have:=hx vs (SqL.of hv);rw [e1] at this;cases this;exact⟨.refl _,rh,e2⟩
theorem RZ {H:Hp}{a:G9}{vs:G0 V}{ds:G0 D}(hv:H a=some (.tup vs))(r:RelDs K H ds vs):BJ K H (λ_=>some ds) (Itt K a):=λH' h' k rh ds' e i=>by
 cases e;have hv':=k.tup _ _ hv;have r':=r.mono k;refine⟨λd hd=> ?_,λhl=>⟨vs,SqT.of hv',by rw [<-r.length];exact hl⟩⟩;obtain⟨v,e1,e2⟩:=r'.get hd;refine⟨⟨vs,v,SqT.of hv',e1⟩,λx H'' ⟨eH,hx⟩=> ?_⟩;subst eH;have:=hx vs (SqT.of hv');rw [e1] at this;cases this;exact⟨.refl _,rh,e2⟩
theorem YL (H:Hp)(lo:P0)(n:G8)(ds:G0 D)(hd:ds=(R6 n).map λ(k:G8)=>D.int (lo+(k:P0))):BJ K H (λ_=>some ds) (Itr lo n):=λH' h' k rh ds' e i=>by
 cases e;subst hd;refine⟨λd hd=> ?_,λhl=>(show n<=i by simpa using hl)⟩;rw [R5] at hd;have hi:i<n:=by
  by_cases z:i<n
  ·exact z
  ·rw [aK (by simpa using z)] at hd;cases hd
 rw [fC hi] at hd;cases hd;refine⟨hi,λx H'' ⟨eH,hx⟩=> ?_⟩;subst eH hx;exact⟨.refl _,rh,rfl⟩
theorem BL {te:TED}: ∀σ H R,LI K (iL te) σ H R->FW K (LE K te) σ H R:=λσ H R ⟨xD,h,Rd,rs,rh,q,p⟩=>
 LE.bind rs rh q λd v h1 H1 k1 rs1 rh1 r1 ⟨a,e,q1⟩=>by
  subst e;obtain⟨e,vs,hv⟩:=(show v= .ref a/\ ∃vs,H1 a=some (.lst vs) from r1);exact⟨a,e,⟨vs,SqL.of hv⟩,p _ _ _ _ k1 rh1 (Ut H1 a) q1⟩
theorem Eq {ta:TAD}: ∀σ H R,LI K (iR1 ta) σ H R->FX (LA K ta) σ H R:=λσ H R ⟨xD,h,Rd,rs,rh,q,p⟩=>
 LA.bind rs rh q λds vs h1 H1 k1 rs1 rh1 r1 ⟨n,e,b1,b2,q1⟩=>by
  subst e;obtain⟨v,e,r2⟩:=jB r1;cases (show v= .int n from r2);exact⟨n,e,b1,b2,p _ _ _ _ k1 rh1 (YL H1 0 n.toNat _ (by simp)) q1⟩
theorem Er {ta:TAD}: ∀σ H R,LI K (iR2 ta) σ H R->FY (LA K ta) σ H R:=λσ H R ⟨xD,h,Rd,rs,rh,q,p⟩=>
 LA.bind rs rh q λds vs h1 H1 k1 rs1 rh1 r1 ⟨m,n,e,b,q1⟩=>by
  subst e;obtain⟨v,w,e,r2,r3⟩:=zM r1;cases (show v= .int m from r2);cases (show w= .int n from r3);exact⟨m,n,e,b,p _ _ _ _ k1 rh1 (YL H1 m (n-m).toNat _ rfl) q1⟩
end
def Fu (ti:TID)(g:TGD)(tb:TSD):TSD:=λD σ h=>ti σ h λj h1=> ∃ (n:G8) (W:G8->SD->HD->Prop),W 0 σ h1/\ ∀i xC h',W i xC h'-> ∃ds,j h'=some ds/\ds.length<=n/\(ds.length<=i->D.nx xC h')/\
 ∀d,ds[i]? =some d->g d xC h' λxF h2=>tb {D with nx:=λxI h3=> ∃h4,Sub h4 h3/\W (i+1) xI h4,ct:=λxI h3=> ∃h4,Sub h4 h3/\W (i+1) xI h4,bk:=D.nx} xF h2
variable {ti:TID}
theorem Oa {g:TGD}{tb:TSD}: ∀D σ H,LS K (Fu ti g tb) D σ H->Sr (LI K ti) (LG K g) (LS K tb) D σ H:=λD σ H ⟨xD,h,Dd,rs,rh,q,nx,rt,bk,ct⟩=>by
 refine⟨xD,h,_,rs,rh,q,λj J h1 H1 k1 rh1 jo ⟨n,W,w0,turn⟩=> ?_⟩;refine⟨λi m xC H'=>m=n-i/\Kept H1 H'/\ ∃xH h',RelS K H' xH xC/\RelH K h' H'/\W i xH h',⟨n-0,rfl,.refl _,xD,h1,rs.mono k1,rh1,w0⟩,?_⟩;rintro i m xC H' ⟨rfl,kp,xH,h',rs',rh',w⟩;obtain⟨ds,ej,hn,stop,go⟩:=turn i xH h' w;have jo':=jo H' h' kp rh' ds ej i
 by_cases hi:i<ds.length
 ·obtain⟨g1,y1⟩:=jo'.1 ds[i] (G5 hi);refine .inr ⟨g1,λxF H2=>Kept H1 H2/\ ∃xL h2,RelS K H2 xL xF/\RelH K h2 H2/\W (i+1) xL h2,λxF H2 ⟨k2,a,b,c,d,e⟩=>⟨n-(i+1),by omega,rfl,k2,a,b,c,d,e⟩,λx H'' y=> ?_⟩;obtain⟨k2,rh2,r2⟩:=y1 x H'' y;refine⟨ds[i],xH,h',_,r2,rs'.mono k2,rh2,go ds[i] (G5 hi),λHH h3 xI H3 k3 rs3 rh3 q3=> ?_⟩;have kk:Kept H H3:=k1.trans (kp.trans (k2.trans k3));have kk1:Kept H1 H3:=kp.trans (k2.trans k3);exact⟨HH,h3,_,rs3,rh3,q3,λa b c d k4 rs4 rh4 ⟨h4,sb,w4⟩=>⟨kk1.trans k4,a,h4,rs4,rh4.sub sb,w4⟩,jC rt kk,λa b c d k4 rs4 rh4 q4=>nx a b c d (kk.trans k4) rs4 rh4 q4,λa b c d k4 rs4 rh4 ⟨h4,sb,w4⟩=>⟨kk1.trans k4,a,h4,rs4,rh4.sub sb,w4⟩⟩
 ·exact .inl ⟨jo'.2 (cI.mp hi),nx _ _ _ _ (k1.trans kp) rs' rh' (stop (cI.mp hi))⟩
def vI:TTD:=λ_ h Q=>Q true h
def Jm (bind:D->SD->SD->Prop)(js:G0 G8)(ti:TID)(tt:TTD)(te:TED):TED:=λσ h Q=>ti σ h λj h1=> ∃ (n:G8) (W:G8->G0 D->HD->Prop),W 0 [] h1/\ ∀i ys h',W i ys h'->ys.length<=sizeLine/\
 ∃ds,j h'=some ds/\ds.length<=n/\(ds.length<=i-> ∀p,h' p=none->Q (.lst p) (zV h' p ys))/\
  ∀d,ds[i]? =some d-> ∃xF,bind d (jO js σ) xF/\tt xF h' λb h3=>if b=true then te xF h3 λy h4=> ∃h5,Sub h5 h4/\W (i+1) (ys++ [y]) h5 else ∃h5,Sub h5 h3/\W (i+1) ys h5
def bN (i:G8):D->SD->SD->Prop:=λd σ xF=>xF=σ.set i (some d)
def b2 (i j:G8):D->SD->SD->Prop:=λd σ xF=> ∃x y,d= .tup [x,y]/\xF=(σ.set i (some x)).set j (some y)
theorem Ob: ∀σ H Q,LT K vI σ H Q->SE σ H Q:=λσ H Q ⟨xD,h,Qd,rs,rh,q,p⟩=>p true h H (.refl H) rh q
def PV (K:G2)(js:G0 G8)(bind:D->SD->SD->Prop)(g:TG):Prop:= ∀ (σ:St) (xD xL:SD) (H:Hp) (d:D) (v:V) (Q:St->Hp->Prop),RelS K H (jO js xD) (wd js σ)->RelD K H d v->bind d (jO js xD) xL->
 (∀xF,Agree (wd js σ) xF->RelS K H xL xF->Q xF H)->g v (wd js σ) H Q
variable {i:G8}
theorem Oc (hi:i∈js):PV K js (bN i) (wQ i):=λσ xD xL H d v Q rs r b q=>by
 cases (show xL=_ from b);exact q _ (.set v λu=>zw js σ i u hi) (rs.set r i)
theorem Es {j:G8}(hi:i∈js)(hj:j∈js)(hij:i≠j):PV K js (b2 i j) (Fs K 2 (ZJ (wQ i) (ZJ (wQ j) Fr))):=λσ xD xL H d v Q rs r b q=>by
 obtain⟨x,y,e,e2⟩:=b;subst e e2;obtain⟨a,vs,e,hH,r1⟩:=(show ∃a vs,v= .ref a/\H a=some (.tup vs)/\RelDs K H [x,y] vs from r);obtain⟨v1,v2,e1,r2,r3⟩:=zM r1;subst e e1;refine⟨a,[v1,v2],rfl,SqT.of hH,rfl,v1,[v2],rfl,v2,[],rfl,rfl,q _ (.trans (.set v1 λu=>zw js σ i u hi) (.set v2 λu z=> ?_)) ((rs.set r2 i).set r3 j)⟩;rw [L7 hij] at z;exact zw js σ j u hj z
theorem BM {bind:D->SD->SD->Prop}{tt:TTD}{te:TED}(hb:PV K js bind g): ∀σ H Q,LE K (Jm bind js ti tt te) σ H Q->tLC js (LI K ti) g (LT K tt) (LE K te) σ H Q:=
 λσ H Q ⟨xD,h,Qd,rs,rh,q,p⟩=>by
  refine⟨xD,h,_,rs,rh,q,λj J h1 H1 k1 rh1 jo ⟨n,W,w0,turn⟩=> ?_⟩;refine⟨λi m ys H'=>m=n-i/\Kept H1 H'/\ ∃ds h',RelDs K H' ds ys/\RelH K h' H'/\W i ds h',⟨n-0,rfl,.refl _,[],h1,rfl,rh1,w0⟩,?_⟩;rintro i m ys H' ⟨rfl,kp,yd,h',ry,rh',w⟩;obtain⟨hz,ds,ej,hn,stop,go⟩:=turn i yd h' w;refine⟨by rw [<-ry.length];exact hz,?_⟩;have jo':=jo H' h' kp rh' ds ej i;have kk:Kept H H':=k1.trans kp
  by_cases hi:i<ds.length
  ·obtain⟨g1,y1⟩:=jo'.1 ds[i] (G5 hi);refine .inr ⟨g1,λx H'' y=> ?_⟩;obtain⟨k2,rh2,r2⟩:=y1 x H'' y;obtain⟨xL,bd,q2⟩:=go ds[i] (G5 hi);refine hb σ xD xL H'' ds[i] x _ (((rs.mono (kk.trans k2))).clear js) r2 bd λxF ag rs2=>⟨ag,?_⟩
   refine LT.bind rs2 rh2 q2 λb h3 H3 k3 rs3 rh3 q3=> ?_
   cases b with
   |true=>
    rw [S2 rfl] at q3 ⊢;refine LE.bind rs3 rh3 q3 λd4 v4 h4 H4 k4 rs4 rh4 r4 ⟨h5,sb,w5⟩=>⟨n-(i+1),by omega,rfl,kp.trans (k2.trans (k3.trans k4)),yd++ [d4],h5,(ry.mono (k2.trans (k3.trans k4))).append (.cons r4 .nil),rh4.sub sb,w5⟩
   |false=>
    rw [S3 D9] at q3 ⊢;obtain⟨h5,sb,w5⟩:=q3;exact⟨n-(i+1),by omega,rfl,kp.trans (k2.trans k3),yd,h5,ry.mono (k2.trans k3),rh3.sub sb,w5⟩
  ·refine .inl ⟨jo'.2 (cI.mp hi),λa ha=>p (.lst a) (.ref a) _ _ (kk.trans (.new ha)) (rh'.newL ha ry) ⟨rfl,ys,jn⟩ (stop (cI.mp hi) a (rh'.free ha))⟩
theorem yy {C:G9}{s₀:G3}{H₀:Hp}{ex:G0 G9}{p:Pos}(hN:X.N.Nodup)(hx:X.N[i]? =some x)(hl:scope.names.lookup x=some .local\/scope.names.lookup x=some .cell):
 PG (vV X scope C s₀ H₀ ex) (.Name x p) (wQ i):=by
 rcases hl with z|z
 ·exact yu hN hx (.inl (lG z)) (.inr (lG z))
 ·exact yu hN hx (.inr (vU z)) (.inl (by show (scope.names.lookup x==some Y7)=true;rw [z];rfl))
section
variable {X:Cx}{tg e iter elt:T1}{te:TED}{ti:TID}{g:TGD}{tb:TSD}{tt:TTD}{pos:Pos}{ta:TAD}{scope:A8}{js:G0 G8}{ifs:G0 T1}
theorem BN (he:QE X e te):QI X tg e (iL te):=(NU he).imp BL
theorem Et {p:Pos}{a:T1}(hg:Gl X "range")(hm:X.mg "range" =none)(ha:QA X [a] ta)(hs:D7 [a] X.env= [(false,A7 a X.env)]:=by rfl):QI X tg (.Call (.Name "range" p) [a] [] pos) (iR1 ta):=(Pk hg hm ha hs).imp Eq
theorem Ty {body:G0 O3}(hp:rD (S4 X.prog X.w) X.A X.env X.xe)(hc:X.calm=true)(hi:QI X tg iter ti)(hg:QG X tg g)(hb:QSs X body tb)(hs: ∀x,M8 iter X.env x=pure x:=by intro _;rfl):
 QS X (.For tg iter body [] pos) (Fu ti g tb):=(FZ hp hc hi hg hb hs).imp Oa
theorem BO:PTs X [] (LT X.K vI):=λpins s σ H Q I h=>Bn pins s σ H Q I (Ob σ H Q h)
theorem BP {c:T1}(hc:QT X c tt):PTs X [c] (LT X.K tt):=Bo hc
theorem qlc {i:G8}{x:Str}{p:Pos}(hc:X.calm=true)(S:BlockOk X scope js)(hi:QI X (.Name x p) iter ti)(hj:i∈js)(hN:X.N.Nodup)(hx:X.N[i]? =some x)(hl:scope.names.lookup x=some .local\/scope.names.lookup x=some .cell)
 (ht: ∀X',jt X scope X'->PTs X' ifs (LT X'.K tt))(he: ∀X',jt X scope X'->QE X' elt te)(hs: ∀x,M8 iter X.env x=pure x:=by intro _;rfl):
 QE X (.ListComp elt [⟨.Name x p,iter,ifs,0⟩] scope pos) (Jm (bN i) js ti tt te):=
 (Ls hc S hi (λX' hX=>by obtain⟨C,s₀,H₀,ex,rfl⟩:=hX;exact yy hN hx hl) (λX' hX=>by have:=ht X' hX;obtain⟨C,s₀,H₀,ex,rfl⟩:=hX;exact this)
  (λX' hX=>by have:=he X' hX;obtain⟨C,s₀,H₀,ex,rfl⟩:=hX;exact this) hs).imp (BM (Oc hj))
theorem Tz {i j:G8}{x y:Str}{p1 p2 p3:Pos}{k:G8}(hc:X.calm=true)(S:BlockOk X scope js)(hi:QI X (.Tuple [.Name x p1,.Name y p2] k p3) iter ti)(hj:i∈js)(hj2:j∈js)(hij:i≠j)(hN:X.N.Nodup)(hx:X.N[i]? =some x)(hy:X.N[j]? =some y)
 (hl:scope.names.lookup x=some .local\/scope.names.lookup x=some .cell)(hl2:scope.names.lookup y=some .local\/scope.names.lookup y=some .cell)
 (ht: ∀X',jt X scope X'->PTs X' ifs (LT X'.K tt))(he: ∀X',jt X scope X'->QE X' elt te)(hs: ∀x,M8 iter X.env x=pure x:=by intro _;rfl):
 QE X (.ListComp elt [⟨.Tuple [.Name x p1,.Name y p2] k p3,iter,ifs,0⟩] scope pos) (Jm (b2 i j) js ti tt te):=
 (Ls hc S hi (λX' hX=>by
  obtain⟨C,s₀,H₀,ex,rfl⟩:=hX;exact Qq hc (wf (yy hN hx hl) (wf (yy hN hy hl2) Vg))) (λX' hX=>by have:=ht X' hX;obtain⟨C,s₀,H₀,ex,rfl⟩:=hX;exact this)
  (λX' hX=>by have:=he X' hX;obtain⟨C,s₀,H₀,ex,rfl⟩:=hX;exact this) hs).imp (BM (Es hj hj2 hij))
end
def LSp (K:G2)(spd:RDn):Sp:=λvs H Q _=>LC K spd vs H Q
theorem PX {spd:RDn}{t:TAD}{E:XK}: ∀σ H Q,LE K (dCB spd t) σ H Q->Ba (LSp K spd) [] E (LA K t) σ H Q:=λσ H Q ⟨xD,h,Qd,rs,rh,t,p⟩=>
 LA.bind rs rh t λds vs h1 H1 k1 rs1 rh1 r1 q=>by rw [J6];exact⟨ds,h1,Qd,r1,rh1,q,jC p k1⟩
section
variable {X:Cx}{k:G8}{f:G9}{fd:S1}{ps:G0 Str}{spd:RDn}{x:Str}{p pos:Pos}{e:T1}{es:G0 T1}{t:TAD}
theorem Eu (F:FnOk X.prog X.w X.K X.mg X.base CX0 k f fd ps (LSp X.K spd))(hr:Room k X.A)(hg:Gl X x)(hm:X.mg x=some (.ref f))(hk:E6 X.K (.ref f)=true)(hb:Binds X.K fd ps [])
 (ha:QA X (e::es) t)(hdb:(x==("__debug__" :Str))=false:=by decide)(he:D7 (e::es) X.env=(false,A7 e X.env)::D7 es X.env:=by rfl)(hpl:(K0 pos (D7 es X.env)).any (·.1)=false:=by rfl):
 QE X (.Call (.Name x p) (e::es) [] pos) (dCB spd t):=(Py F hr hg hm hk hb .nil Bi ha hdb he hpl).imp PX
theorem Od {id:Q4}{r:RDn}(hc:ye X (.builtin id) r)(hg:Gl X x)(hm:X.mg x=none)(hv:J9 x=some (.builtin id))(ha:QA X (e::es) t)(hn:x≠ "__name__" :=by decide)(hdb:(x==("__debug__" :Str))=false:=by decide)
 (he:D7 (e::es) X.env=(false,A7 e X.env)::D7 es X.env:=by rfl)(hpl:(K0 pos (D7 es X.env)).any (·.1)=false:=by rfl):QE X (.Call (.Name x p) (e::es) [] pos) (dCB r t):=(ZX hc hg hm hv ha hn hdb he hpl).imp LB
theorem BQ {T:Q4}{r:RDn}(hc:ye X (.type T) r)(hg:Gl X x)(hm:X.mg x=none)(hv:J9 x=some (.type T))(ha:QA X (e::es) t)(hn:x≠ "__name__" :=by decide)(hdb:(x==("__debug__" :Str))=false:=by decide)
 (he:D7 (e::es) X.env=(false,A7 e X.env)::D7 es X.env:=by rfl)(hpl:(K0 pos (D7 es X.env)).any (·.1)=false:=by rfl):QE X (.Call (.Name x p) (e::es) [] pos) (dCB r t):=(Pz hc hg hm hv ha hn hdb he hpl).imp LB
end
def ze (N:G0 Str)(ds:G0 D):SD:=ds.map some++M0 (N.length-ds.length) none
theorem vD {N:G0 Str}{vs:G0 V}(r:RelDs K H ds vs):RelS K H (ze N ds) (start N vs):=by
 have hl:=r.length;refine⟨by unfold ze start;simp [hl],λi d e=> ?_⟩;unfold ze at e;unfold start
 by_cases hi:i<ds.length
 ·rw [L6 (by simpa using hi),R5] at e;cases q:ds[i]? with
  |none=>rw [q] at e;cases e
  |some d'=>
   rw [q] at e;cases e;obtain⟨v,e1,e2⟩:=r.get q;exact⟨v,by rw [L6 (by simpa [<-hl] using hi),R5,e1];rfl,e2⟩
 ·rw [N5 (by simpa using hi),cN] at e;split at e<;>cases e
def Uh (Q:KD):EndsD:= {nx:=λ_ h=> ∃h',Sub h' h/\Q .non h',rt:=λd h=> ∃h',Sub h' h/\Q d h'}
section
variable {P:S0}{w:N8}{K:G2}{mg:Str->P8 G1}{base:N9}
theorem Fun.okD {x qual:Str}{st:O3}{f:G9}{fd:S1}{N ps:G0 Str}{k:G8}{spd:RDn}(F:Fun K x qual st f fd)(S:FnScope N ps (jd st))(len: ∀ds h Q,spd ds h Q->ds.length=ps.length)
 (tb:TSD)(hbody: ∀ (cdv:G1) (A:T8) (outer:G0 Env) (s:G3) (H:Hp) (E:XK),Room k (A.deeper (E8 qual (jd st) s.heap.objs.size f cdv))->QSs (Yn CX0 P w K mg base N qual (jd st) f cdv A outer s H E).nox (jW st) tb)
 (read: ∀ds h Q,spd ds h Q->tb (Uh Q) (ze N ds) h):FnOk P w K mg base CX0 (k+1) f fd ps (LSp K spd):=by
 refine F.ok S (λvs H Q E h=> ?_) (λcdv A outer s H vs Q E hr h=> ?_)
 ·obtain⟨ds,h,Qd,r,rh,q,p⟩:=h;rw [<-r.length];exact len _ _ _ q
 ·obtain⟨ds,h,Qd,r,rh,q,p⟩:=h;refine⟨_,hbody cdv A outer s H E hr,ze N ds,h,Uh Qd,vD r,rh,read ds h Qd q,λxH h' xC H' k rs' rh' ⟨h2,sb,q'⟩=>p .non .non h2 H' k (rh'.sub sb) rfl q',λd v h' H' k rh' r' ⟨h2,sb,q'⟩=>p d v h2 H' k (rh'.sub sb) r' q',λ_ _ _ _ _ _ _ z=>z.elim,λ_ _ _ _ _ _ _ z=>z.elim⟩
end
section
variable {X:Cx}{iter elt:T1}{te:TED}{ti:TID}{tt:TTD}{pos spos:Pos}{scope:A8}{js:G0 G8}{ifs:G0 T1}
theorem Oe {i k:G8}{x y:Str}{p py:Pos}(hc:X.calm=true)(hN:X.N.Nodup)(hk:X.N[k]? =some y)(hy:Loc X.env.scope y)(S:BlockOk X scope js)(hi:QI X (.Name x p) iter ti)(hj:i∈js)(hx:X.N[i]? =some x)(hl:scope.names.lookup x=some .local\/scope.names.lookup x=some .cell)
 (ht: ∀X',jt X scope X'->PTs X' ifs (LT X'.K tt))(he: ∀X',jt X scope X'->QE X' elt te)
 (hsw:Z0 (.ListComp elt [⟨.Name x p,iter,ifs,0⟩] scope pos) (some (.Name y py)) spos.line X.env=pure true:=by rfl)
 (hf:X.fn y=true\/X.env.scope.names.lookup y=some .local:=by first|exact .inl rfl|exact .inr rfl|assumption)(hs: ∀x,M8 iter X.env x=pure x:=by intro _;rfl):
 QS X (.Assign [.Name y py] (.ListComp elt [⟨.Name x p,iter,ifs,0⟩] scope pos) spos) (RY k (Jm (bN i) js ti tt te)):=by
 have base:PS X (.Assign [.Name y py] (.ListComp elt [⟨.Name x p,iter,ifs,0⟩] scope pos) spos) (NS (tLC js (LI X.K ti) (wQ i) (LT X.K tt) (LE X.K te)) (wQ k)):=
  RW hc S hi (λX' hX=>by obtain⟨C,s₀,H₀,ex,rfl⟩:=hX;exact yy hN hx hl) (λX' hX=>by have:=ht X' hX;obtain⟨C,s₀,H₀,ex,rfl⟩:=hX;exact this)
   (λX' hX=>by have:=he X' hX;obtain⟨C,s₀,H₀,ex,rfl⟩:=hX;exact this) (yu hN hk hy hf) hsw hs
 exact base.imp λD σ H h=>by
  obtain⟨xD,hd,Qd,rs,rh,t,p⟩:=Nu (K:=X.K) D σ H h;exact BM (Oc hj) σ H _ ⟨xD,hd,Qd,rs,rh,t,p⟩
end
def dIn (i':G8)(ti:TID)(tt:TTD)(te:TED)(V:G0 D->HD->Prop)(ys:G0 D):SD->HD->Prop:=λσ h=>ti σ h λj h1=> ∃ (n:G8) (W:G8->G0 D->HD->Prop),W 0 ys h1/\ ∀i ys h',W i ys h'->ys.length<=sizeLine/\
 ∃ds,j h'=some ds/\ds.length<=n/\(ds.length<=i->V ys h')/\
  ∀d,ds[i]? =some d->tt (σ.set i' (some d)) h' λb h3=>if b=true then te (σ.set i' (some d)) h3 λy h4=> ∃h5,Sub h5 h4/\W (i+1) (ys++ [y]) h5 else ∃h5,Sub h5 h3/\W (i+1) ys h5
def Fv (bind:D->SD->SD->Prop)(js:G0 G8)(ti:TID)(tt:TTD)(i':G8)(ti':TID)(tt':TTD)(te:TED):TED:=λσ h Q=>ti σ h λj h1=> ∃ (n:G8) (W:G8->G0 D->HD->Prop),W 0 [] h1/\ ∀i ys h',W i ys h'->ys.length<=sizeLine/\
 ∃ds,j h'=some ds/\ds.length<=n/\(ds.length<=i-> ∀p,h' p=none->Q (.lst p) (zV h' p ys))/\
  ∀d,ds[i]? =some d-> ∃xF,bind d (jO js σ) xF/\tt xF h' λb h3=>if b=true then dIn i' ti' tt' te (λys' h6=> ∃h5,Sub h5 h6/\W (i+1) ys' h5) ys xF h3 else ∃h5,Sub h5 h3/\W (i+1) ys h5
def PY (K:G2)(js:G0 G8)(i':G8)(bind:D->SD->SD->Prop)(g:TG):Prop:= ∀ (σ:St) (xD xL:SD) (H:Hp) (d:D) (v:V) (Q:St->Hp->Prop),RelS K H (jO js xD) (wd js σ)->RelD K H d v->bind d (jO js xD) xL->
 (∀xF,Agree (wd js σ) xF->(∀u,¬xF[i']? =some (some u))->RelS K H xL xF->Q xF H)->g v (wd js σ) H Q
theorem Of {j i':G8}(hi:i∈js)(hj:j∈js)(hi':i'∈js)(hij:i≠j)(h1:i≠i')(h2:j≠i'):PY K js i' (b2 i j) (Fs K 2 (ZJ (wQ i) (ZJ (wQ j) Fr))):=λσ xD xL H d v Q rs r b q=>by
 obtain⟨x,y,e,e2⟩:=b;subst e e2;obtain⟨a,vs,e,hH,r1⟩:=(show ∃a vs,v= .ref a/\H a=some (.tup vs)/\RelDs K H [x,y] vs from r);obtain⟨v1,v2,e1,r2,r3⟩:=zM r1;subst e e1;refine⟨a,[v1,v2],rfl,SqT.of hH,rfl,v1,[v2],rfl,v2,[],rfl,rfl,q _ (.trans (.set v1 λu=>zw js σ i u hi) (.set v2 λu z=> ?_)) (λu z=> ?_) ((rs.set r2 i).set r3 j)⟩
 ·rw [L7 hij] at z;exact zw js σ j u hj z
 ·rw [L7 h2,L7 h1] at z;exact zw js σ i' u hi' z
theorem Og {bind:D->SD->SD->Prop}{i':G8}{ti':TID}{tt tt':TTD}{te:TED}(hb:PY K js i' bind g): ∀σ H Q,LE K (Fv bind js ti tt i' ti' tt' te) σ H Q->Ea js (LI K ti) g (LT K tt) (LI K ti') (wQ i') (LT K tt') (LE K te) σ H Q:=
 λσ H Q ⟨xD,h,Qd,rs,rh,q,p⟩=>by
  refine⟨xD,h,_,rs,rh,q,λj J h1 H1 k1 rh1 jo ⟨n,W,w0,turn⟩=> ?_⟩;refine⟨λi m ys H'=>m=n-i/\Kept H1 H'/\ ∃ds h',RelDs K H' ds ys/\RelH K h' H'/\W i ds h',⟨n-0,rfl,.refl _,[],h1,rfl,rh1,w0⟩,?_⟩;rintro i m ys H' ⟨rfl,kp,yd,h',ry,rh',w⟩;obtain⟨hz,ds,ej,hn,stop,go⟩:=turn i yd h' w;refine⟨by rw [<-ry.length];exact hz,?_⟩;have jo':=jo H' h' kp rh' ds ej i;have kk:Kept H H':=k1.trans kp
  by_cases hi:i<ds.length
  ·obtain⟨g1,y1⟩:=jo'.1 ds[i] (G5 hi);refine .inr ⟨g1,λx H'' y=> ?_⟩;obtain⟨k2,rh2,r2⟩:=y1 x H'' y;obtain⟨xL,bd,q2⟩:=go ds[i] (G5 hi);refine hb σ xD xL H'' ds[i] x _ (((rs.mono (kk.trans k2))).clear js) r2 bd λxF ag un rs2=>⟨ag,?_⟩
   refine LT.bind rs2 rh2 q2 λb h3 H3 k3 rs3 rh3 q3=> ?_
   cases b with
   |true=>
    rw [S2 rfl] at q3 ⊢
    -- the second clause
    refine⟨xL,h3,_,rs3,rh3,q3,λj2 J2 h4 H4 k4 rh4 jo2 ⟨n2,W2,w20,turn2⟩=> ?_⟩;refine⟨λi2 m2 ys2 H5=>m2=n2-i2/\Kept H4 H5/\ ∃ds h5,RelDs K H5 ds ys2/\RelH K h5 H5/\W2 i2 ds h5,⟨n2-0,rfl,.refl _,yd,h4,ry.mono (k2.trans (k3.trans k4)),rh4,w20⟩,?_⟩;rintro i2 m2 ys2 H5 ⟨rfl,kp5,yd5,h5,ry5,rh5,w5⟩;obtain⟨hz5,ds5,ej5,hn5,stop5,go5⟩:=turn2 i2 yd5 h5 w5;refine⟨by rw [<-ry5.length];exact hz5,?_⟩;have jo5:=jo2 H5 h5 kp5 rh5 ds5 ej5 i2;have kk5:Kept H1 H5:=kp.trans (k2.trans (k3.trans (k4.trans kp5)))
    by_cases hi5:i2<ds5.length
    ·obtain⟨g5,y5⟩:=jo5.1 ds5[i2] (G5 hi5);refine .inr ⟨g5,λx6 H6 yy6=> ?_⟩;obtain⟨k6,rh6,r6⟩:=y5 x6 H6 yy6;refine⟨.set x6 un,?_⟩;have rs6:=(rs3.mono (k4.trans (kp5.trans k6))).set r6 i';refine LT.bind rs6 rh6 (go5 ds5[i2] (G5 hi5)) λb h7 H7 k7 rs7 rh7 q7=> ?_
     cases b with
     |true=>
      rw [S2 rfl] at q7 ⊢;exact LE.bind rs7 rh7 q7 λd8 v8 h8 H8 k8 rs8 rh8 r8 ⟨h9,sb,w9⟩=>⟨n2-(i2+1),by omega,rfl,kp5.trans (k6.trans (k7.trans k8)),yd5++ [d8],h9,(ry5.mono (k6.trans (k7.trans k8))).append (.cons r8 .nil),rh8.sub sb,w9⟩
     |false=>
      rw [S3 D9] at q7 ⊢;obtain⟨h9,sb,w9⟩:=q7;exact⟨n2-(i2+1),by omega,rfl,kp5.trans (k6.trans k7),yd5,h9,ry5.mono (k6.trans k7),rh7.sub sb,w9⟩
    ·obtain⟨h9,sb,w9⟩:=stop5 (cI.mp hi5);exact .inl ⟨jo5.2 (cI.mp hi5),n-(i+1),by omega,rfl,kk5,yd5,h9,ry5,rh5.sub sb,w9⟩
   |false=>
    rw [S3 D9] at q3 ⊢;obtain⟨h5,sb,w5⟩:=q3;exact⟨n-(i+1),by omega,rfl,kp.trans (k2.trans k3),yd,h5,ry.mono (k2.trans k3),rh3.sub sb,w5⟩
  ·refine .inl ⟨jo'.2 (cI.mp hi),λa ha=>p (.lst a) (.ref a) _ _ (kk.trans (.new ha)) (rh'.newL ha ry) ⟨rfl,ys,jn⟩ (stop (cI.mp hi) a (rh'.free ha))⟩
def Ev:RD2:=λx y h Q=>match x,y with
 | .int i,.int j=>Q (.int (i+j)) h
 | .tup a,.tup b=>a.length+b.length<=sizeLine/\Q (.tup (a++b)) h
 | .lst a,.lst b=> ∃xs ys,h a=some xs/\h b=some ys/\xs.length+ys.length<=sizeLine/\ ∀p,h p=none->Q (.lst p) (zV h p (xs++ys))
 |_,_=>False
def SF:RD2:=λx y h Q=>match x,y with
 | .int i,.int j=>Q (.int (i-j)) h
 |_,_=>False
def SG:RD2:=λx y h Q=>match x,y with
 | .int i,.int j=>CMul i j/\Q (.int (i*j)) h
 | .lst a,.int k=> ∃xs,h a=some xs/\ -(2^63)<=k/\k<2^63/\xs.length*k.toNat<=sizeLine/\ ∀p,h p=none->Q (.lst p) (zV h p (M0 k.toNat xs).flatten)
 |_,_=>False
def TB:RD2:=λx y h Q=>match x,y with
 | .int i,.int j=>0<j/\Q (.int (i%j)) h
 |_,_=>False
def Ew:RD2:=λx y h Q=>match x,y with
 | .int i,.int j=>Sv i j/\Q (.int (i / j)) h
 |_,_=>False
def Ey:RD2:=λx y h Q=>match x,y with
 | .int i,.int j=>Sw i j/\Q (.int (i^j.toNat)) h
 |_,_=>False
def Nv (p:P0->P0->N4):RD2:=λx y h Q=>match x,y with
 | .int i,.int j=>Q (.bl (p i j)) h
 |_,_=>False
def eqD:RD2:=λx y h Q=>match x,y with
 | .int i,.int j=>Q (.bl (decide (i=j))) h
 | .bl i,.bl j=>Q (.bl (decide (i=j))) h
 | .str i,.str j=>Q (.bl (decide (i=j))) h
 |_,_=>False
def neD:RD2:=λx y h Q=>match x,y with
 | .int i,.int j=>Q (.bl (!decide (i=j))) h
 | .bl i,.bl j=>Q (.bl (!decide (i=j))) h
 | .str i,.str j=>Q (.bl (!decide (i=j))) h
 |_,_=>False
section
variable {X:Cx}
theorem Vm {f:G1->G1->Sem G1}{C:P0->P0->Prop}{g:P0->P0->V}{gd:P0->P0->D}{r:RD2}(ho:OpR X f (rI C g))(hg: ∀i j H,RelD X.K H (gd i j) (g i j))
 (hr: ∀x y h Q,r x y h Q-> ∃i j,x= .int i/\y= .int j/\C i j/\Q (gd i j) h):OpQ X f r:=ho.imp λx y H Q ⟨dx,dy,h,Qd,rx,ry,rh,q,p⟩=>by
 obtain⟨i,j,e1,e2,c,q'⟩:=hr dx dy h Qd q;subst e1 e2;exact⟨i,j,rx,ry,c,p _ _ _ _ (.refl H) rh (hg i j H) q'⟩
theorem Jt {f:G1->G1->Sem G1}{g:P0->P0->V}{gd:P0->P0->D}{r:RD2}(ho:OpR X f (rI0 g))(hg: ∀i j H,RelD X.K H (gd i j) (g i j))
 (hr: ∀x y h Q,r x y h Q-> ∃i j,x= .int i/\y= .int j/\Q (gd i j) h):OpQ X f r:=ho.imp λx y H Q ⟨dx,dy,h,Qd,rx,ry,rh,q,p⟩=>by
 obtain⟨i,j,e1,e2,q'⟩:=hr dx dy h Qd q;subst e1 e2;exact⟨i,j,rx,ry,p _ _ _ _ (.refl H) rh (hg i j H) q'⟩
theorem YM:OpQ X (J0 .Sub) SF:=Jt (gd:=λi j=> .int (i-j)) La (λ_ _ _=>rfl) λx y h Q q=>by
 cases x<;>first|exact False.elim q|(cases y<;>first|exact False.elim q|exact⟨_,_,rfl,rfl,q⟩)
theorem Wv:OpQ X (J0 .Mod) TB:=Vm (gd:=λi j=> .int (i%j)) Lb (λ_ _ _=>rfl) λx y h Q q=>by
 cases x<;>first|exact False.elim q|(cases y<;>first|exact False.elim q|exact⟨_,_,rfl,rfl,q.1,q.2⟩)
theorem BR:OpQ X (J0 .FloorDiv) Ew:=Vm (gd:=λi j=> .int (i / j)) NV (λ_ _ _=>rfl) λx y h Q q=>by
 cases x<;>first|exact False.elim q|(cases y<;>first|exact False.elim q|exact⟨_,_,rfl,rfl,q.1,q.2⟩)
theorem PZ:OpQ X (J0 .Pow) Ey:=Vm (gd:=λi j=> .int (i^j.toNat)) Lc (λ_ _ _=>rfl) λx y h Q q=>by
 cases x<;>first|exact False.elim q|(cases y<;>first|exact False.elim q|exact⟨_,_,rfl,rfl,q.1,q.2⟩)
theorem Vn {p:P0->P0->N4}: ∀x y h Q,Nv p x y h Q-> ∃i j,x= .int i/\y= .int j/\Q (.bl (p i j)) h:=λx y h Q q=>by
 cases x<;>first|exact False.elim q|(cases y<;>first|exact False.elim q|exact⟨_,_,rfl,rfl,q⟩)
theorem Xy:OpQ X (B1 .Lt) (Nv λi j=>decide (i<j)):=Jt (gd:=λi j=> .bl (decide (i<j))) AL (λ_ _ _=>rfl) Vn
theorem Xz:OpQ X (B1 .LtE) (Nv λi j=>decide (i<=j)):=Jt (gd:=λi j=> .bl (decide (i<=j))) AM (λ_ _ _=>rfl) Vn
theorem Vo:OpQ X (B1 .Gt) (Nv λi j=>decide (j<i)):=Jt (gd:=λi j=> .bl (decide (j<i))) AN (λ_ _ _=>rfl) Vn
theorem Ma:OpQ X (B1 .GtE) (Nv λi j=>decide (j<=i)):=Jt (gd:=λi j=> .bl (decide (j<=i))) AO (λ_ _ _=>rfl) Vn
theorem Fw {α:Type}[DecidableEq α]{f:α->V}(hf: ∀a b,f a=f b->a=b)(a b:α):decide (f a=f b)=decide (a=b):=by
 by_cases h:a=b
 ·subst h;simp
 ·rw [D1 h,D1 (λe=>h (hf a b e))]
theorem oq_eq:OpQ X (B1 .Eq) eqD:=op_eq.imp λx y H Q ⟨dx,dy,h,Qd,rx,ry,rh,q,p⟩=>by
 cases dx<;>first|exact False.elim q|(cases dy<;>first|exact False.elim q|skip)
 all_goals first
  |(cases (show x= .int _ from rx);cases (show y= .int _ from ry);refine⟨rfl,p _ _ _ _ (.refl H) rh ?_ q⟩;rw [Fw (f:=V.int) (λa b e=>by cases e;rfl)];rfl)
  |(cases (show x= .bl _ from rx);cases (show y= .bl _ from ry);refine⟨rfl,p _ _ _ _ (.refl H) rh ?_ q⟩;rw [Fw (f:=V.bl) (λa b e=>by cases e;rfl)];rfl)
  |(cases (show x= .str _ from rx);cases (show y= .str _ from ry);refine⟨rfl,p _ _ _ _ (.refl H) rh ?_ q⟩;rw [Fw (f:=V.str) (λa b e=>by cases e;rfl)];rfl)
theorem oq_ne:OpQ X (B1 .NotEq) neD:=op_ne.imp λx y H Q ⟨dx,dy,h,Qd,rx,ry,rh,q,p⟩=>by
 cases dx<;>first|exact False.elim q|(cases dy<;>first|exact False.elim q|skip)
 all_goals first
  |(cases (show x= .int _ from rx);cases (show y= .int _ from ry);refine⟨rfl,p _ _ _ _ (.refl H) rh ?_ q⟩;rw [Fw (f:=V.int) (λa b e=>by cases e;rfl)];rfl)
  |(cases (show x= .bl _ from rx);cases (show y= .bl _ from ry);refine⟨rfl,p _ _ _ _ (.refl H) rh ?_ q⟩;rw [Fw (f:=V.bl) (λa b e=>by cases e;rfl)];rfl)
  |(cases (show x= .str _ from rx);cases (show y= .str _ from ry);refine⟨rfl,p _ _ _ _ (.refl H) rh ?_ q⟩;rw [Fw (f:=V.str) (λa b e=>by cases e;rfl)];rfl)
def Oh (K:G2):R2:=λx y H Q=> ∃a b xs ys,x= .ref a/\y= .ref b/\SqT K H a xs/\SqT K H b ys/\xs= []/\Q (.ref b) H
theorem op_catT0:OpR X (J0 .Add) (Oh X.K):=by
 intro pins s σ H x y v u Q I rx ry h;obtain⟨a,b,xs,ys,rfl,rfl,ha,hb,hx,q⟩:=h;cases rx;cases ry;obtain⟨its,r1,p1,_⟩:=I.tuple ha;obtain⟨its2,r2,p2,_⟩:=I.tuple hb;have hv:its= []:=r1.nil_iff.mpr hx;obtain⟨⟨cls,dd,data,sl⟩,ho,hc,n,hd⟩:=id p1;obtain⟨⟨cls2,dd2,u3,sl2⟩,ho2,hc2,n2,hd2⟩:=id p2;simp only at hc hd hc2 hd2;subst hc hd hc2 hd2;exact nC ⟨_,ho,rfl⟩ ⟨_,ho2,rfl⟩ iW mE cW cO (bQ _ _)
  (tuple_addW0 a b its.toArray its2.toArray n n2 dd dd2 sl sl2 (by simp [hv])) ⟨ho,ho2,.ref b,H,I,rfl,q⟩
theorem jI:OpQ X (J0 .Add) Ev:=(op_add.or (op_catT.or (op_catT0.or Lm))).imp λx y H Q ⟨dx,dy,h,Qd,rx,ry,rh,q,p⟩=>by
 cases dx<;>first|exact False.elim q|(cases dy<;>first|exact False.elim q|skip)
 ·exact .inl ⟨_,_,rx,ry,p (.int _) _ _ _ (.refl H) rh rfl q⟩
 ·rename_i ds es;obtain⟨a,vs,e1,h1,r1⟩:=(show ∃a vs,x= .ref a/\H a=some (.tup vs)/\RelDs X.K H ds vs from rx);obtain⟨b,us,e2,h2,r2⟩:=(show ∃a vs,y= .ref a/\H a=some (.tup vs)/\RelDs X.K H es vs from ry);subst e1 e2;obtain⟨hz,q⟩:=q
  by_cases hv:vs= []
  ·subst hv;have e:ds= []:=W0.mp r1.length;subst e;exact .inr (.inr (.inl ⟨a,b,[],us,rfl,rfl,SqT.of h1,SqT.of h2,rfl,p (.tup es) _ _ _ (.refl H) rh ⟨b,us,rfl,h2,r2⟩ q⟩))
  ·refine .inr (.inl ⟨a,b,vs,us,rfl,rfl,SqT.of h1,SqT.of h2,hv,by rw [<-r1.length,<-r2.length];exact hz,λe=> ?_,λ_ c hc=> ?_⟩)
   ·subst e;have e:es= []:=W0.mp r2.length;subst e;rw [J6] at q;exact p (.tup ds) _ _ _ (.refl H) rh ⟨a,vs,rfl,h1,r1⟩ q
   ·exact p (.tup (ds++es)) _ _ _ (.new hc) (rh.new hc) ⟨c,vs++us,rfl,jn,(r1.append r2).mono (.new hc)⟩ q
 ·rename_i a b;obtain⟨xs,ys,h1,h2,hz,q⟩:=q;obtain⟨vs,e1,r1⟩:=rh a xs h1;obtain⟨us,e2,r2⟩:=rh b ys h2;refine .inr (.inr (.inr ⟨a,b,vs,us,rx.1,ry.1,e1,e2,by rw [<-r1.length,<-r2.length];exact hz,λc hc=> ?_⟩));exact p (.lst c) _ _ _ (.new hc) (rh.newL hc (r1.append r2)) ⟨rfl,_,jn⟩ (q c (rh.free hc))
theorem RelDs.flat {K:G2}{H:Hp}{ds:G0 D}{vs:G0 V}(r:RelDs K H ds vs): ∀k:G8,RelDs K H (M0 k ds).flatten (M0 k vs).flatten
 |0=>by simp;exact .nil
 |k+1=>by rw [U0,U0,X9,X9];exact r.append (RelDs.flat r k)
theorem oq_mul:OpQ X (J0 .Mult) SG:=(op_mul.or Lo).imp λx y H Q ⟨dx,dy,h,Qd,rx,ry,rh,q,p⟩=>by
 cases dx<;>first|exact False.elim q|(cases dy<;>first|exact False.elim q|skip)
 ·exact .inl ⟨_,_,rx,ry,q.1,p (.int _) _ _ _ (.refl H) rh rfl q.2⟩
 ·obtain⟨xs,h1,b1,b2,hz,q⟩:=q;obtain⟨vs,e1,r1⟩:=rh _ xs h1;refine .inr ⟨_,_,vs,rx.1,ry,e1,b1,b2,by rw [<-r1.length];exact hz,λc hc=> ?_⟩;exact p (.lst c) _ _ _ (.new hc) (rh.newL hc (r1.flat _)) ⟨rfl,_,jn⟩ (q c (rh.free hc))
end
def ixD:RD2:=λx y h Q=>match x,y with
 | .tup ds,.int i=> ∃d,atI ds i=some d/\Q d h
 | .lst a,.int i=> ∃ds d,h a=some ds/\atI ds i=some d/\Q d h
 | .scr ns,.int i=> ∃n,atI ns i=some n/\Q (.int n) h
 |_,_=>False
theorem Da {vs:G0 V}(r:RelDs K H ds vs){i:P0}{d:D}(e:atI ds i=some d): ∃v,atI vs i=some v/\RelD K H d v:=by
 unfold atI at e ⊢;rw [<-r.length];cases q:ixN ds.length i with
 |none=>rw [q] at e;cases e
 |some j=>rw [q] at e;exact r.get e
theorem BS {β:Type}(f:α->β){xs:G0 α}{i:P0}{x:α}(e:atI xs i=some x):atI (xs.map f) i=some (f x):=by
 unfold atI at e ⊢;rw [G7];cases q:ixN xs.length i with
 |none=>rw [q] at e;cases e
 |some j=>
  rw [q] at e;show (xs.map f)[j]? =_;rw [R5,(show xs[j]? =some x from e)];rfl
section
variable {X:Cx}{a b e:T1}{ta tb te:TED}{pos p2:Pos}
theorem Ez: ∀σ H Q,LE X.K (dOp ixD ta tb) σ H Q->tOp (rIx X.K) (LE X.K ta) (LE X.K tb) σ H Q:=λσ H Q ⟨xD,h,Qd,rs,rh,t,p⟩=>
 LE.bind rs rh t λdx x h1 H1 k1 rs1 rh1 r1 t1=>LE.bind rs1 rh1 t1 λdy y h2 H2 k2 rs2 rh2 ry q=>by
  have rx:=r1.mono k2;have kk:=k1.trans k2;cases dx<;>first|exact False.elim q|(cases dy<;>first|exact False.elim q|skip)
  ·rename_i ds i;obtain⟨d,e,q⟩:=q;obtain⟨a,vs,e1,hH,r⟩:=(show ∃a vs,x= .ref a/\H2 a=some (.tup vs)/\RelDs X.K H2 ds vs from rx);obtain⟨v,e2,rv⟩:=Da r e;exact .inr (.inl ⟨a,vs,i,v,e1,ry,SqT.of hH,e2,p _ _ _ _ kk rh2 rv q⟩)
  ·rename_i a i;obtain⟨ds,d,hd,e,q⟩:=q;obtain⟨vs,hH,r⟩:=rh2 a ds hd;obtain⟨v,e2,rv⟩:=Da r e;exact .inl ⟨a,vs,i,v,rx.1,ry,SqL.of hH,e2,p _ _ _ _ kk rh2 rv q⟩
  ·rename_i ns i;obtain⟨n,e,q⟩:=q;obtain⟨a,e1,hS⟩:=(show ∃a,x= .ref a/\Scr X.K H2 a ns from rx);exact .inl ⟨a,_,i,.int n,e1,ry,hS.sq,BS V.int e,p (.int n) _ _ _ kk rh2 rfl q⟩
theorem qix (ha:QE X a ta)(hb:QE X b tb)(hs:Vi b):QE X (.Subscript a b pos) (dOp ixD ta tb):=(AT Lk ha hb hs).imp Ez
end
def Fx:RDn:=λds h Q=>match ds with
 | [.tup xs]=>Q (.int xs.length) h
 | [.lst a]=> ∃xs,h a=some xs/\Q (.int xs.length) h
 | [.scr ns]=>Q (.int ns.length) h
 |_=>False
def EA:RDn:=λds h Q=>match ds with
 | [.int i]=>Q (.int i) h
 | [.bl k]=>Q (.int (if k then 1 else 0)) h
 |_=>False
def EB:RDn:=λds h Q=>match ds with
 | [.int i,.int j]=>Q (.int (if j>i then j else i)) h
 |_=>False
def Nw:RDn:=λds h Q=>match ds with
 | [.tup xs]=>Q (.tup xs) h
 | [.lst a]=> ∃xs,h a=some xs/\Q (.tup xs) h
 |_=>False
def YN:RDn:=λds h Q=>match ds with
 | [.lst a]=> ∃xs,h a=some xs/\Q (.tup xs) (vH h a)
 |_=>False
def Oi:RDn:=λds h Q=>match ds with
 | [.tup xs]=> ∀p,h p=none->Q (.lst p) (zV h p xs)
 | [.lst a]=> ∃xs,h a=some xs/\ ∀p,h p=none->Q (.lst p) (zV h p xs)
 |_=>False
section
variable {X:Cx}
theorem Oj:ye X (.builtin "len") Fx:=call_len_seq.imp λxs H Q ⟨ds,h,Qd,r,rh,q,p⟩=>by
 unfold Fx at q;split at q
 ·rename_i es;obtain⟨v,e,r1⟩:=jB r;obtain⟨a,vs,e1,hH,r2⟩:=(show ∃a vs,v= .ref a/\H a=some (.tup vs)/\RelDs X.K H es vs from r1);subst e e1;exact⟨a,vs,rfl,.inr (SqT.of hH),by rw [<-r2.length];exact p (.int _) _ _ _ (.refl H) rh rfl q⟩
 ·rename_i a;obtain⟨es,hd,q⟩:=q;obtain⟨v,e,r1⟩:=jB r;obtain⟨vs,hH,r2⟩:=rh a es hd;have e1:v= .ref a:=r1.1;subst e e1;exact⟨a,vs,rfl,.inl (SqL.of hH),by rw [<-r2.length];exact p (.int _) _ _ _ (.refl H) rh rfl q⟩
 ·rename_i ns;obtain⟨v,e,r1⟩:=jB r;obtain⟨a,e1,hS⟩:=(show ∃a,v= .ref a/\Scr X.K H a ns from r1);subst e e1;exact⟨a,_,rfl,.inl hS.sq,by rw [G7];exact p (.int _) _ _ _ (.refl H) rh rfl q⟩
 ·exact q.elim
theorem Qw:ye X (.type "int") EA:=call_int1.imp λxs H Q ⟨ds,h,Qd,r,rh,q,p⟩=>by
 unfold EA at q;split at q
 ·rename_i i;obtain⟨v,e,r1⟩:=jB r;cases (show v= .int i from r1);exact .inl ⟨i,e,p (.int i) _ _ _ (.refl H) rh rfl q⟩
 ·rename_i k;obtain⟨v,e,r1⟩:=jB r;cases (show v= .bl k from r1);exact .inr ⟨k,e,p (.int _) _ _ _ (.refl H) rh rfl q⟩
 ·exact q.elim
theorem Nx (hc:X.calm=true):ye X (.builtin "max") EB:=(Pu hc).imp λxs H Q ⟨ds,h,Qd,r,rh,q,p⟩=>by
 unfold EB at q;split at q
 ·rename_i i j;obtain⟨v,w,e,r1,r2⟩:=zM r;cases (show v= .int i from r1);cases (show w= .int j from r2);exact⟨i,j,e,p (.int _) _ _ _ (.refl H) rh rfl q⟩
 ·exact q.elim
theorem cq_tuple:ye X (.type "tuple") Nw:=call_tuple_of.imp λxs H Q ⟨ds,h,Qd,r,rh,q,p⟩=>by
 unfold Nw at q;split at q
 ·rename_i es;obtain⟨v,e,r1⟩:=jB r;obtain⟨a,vs,e1,hH,r2⟩:=(show ∃a vs,v= .ref a/\H a=some (.tup vs)/\RelDs X.K H es vs from r1);subst e e1;exact⟨a,vs,rfl,.inr ⟨SqT.of hH,p (.tup es) _ _ _ (.refl H) rh ⟨a,vs,rfl,hH,r2⟩ q⟩⟩
 ·rename_i a;obtain⟨es,hd,q⟩:=q;obtain⟨v,e,r1⟩:=jB r;obtain⟨vs,hH,r2⟩:=rh a es hd;have e1:v= .ref a:=r1.1;subst e e1;exact⟨a,vs,rfl,.inl ⟨SqL.of hH,λc hc=>p (.tup es) _ _ _ (.new hc) (rh.new hc) ⟨c,vs,rfl,jn,r2.mono (.new hc)⟩ q⟩⟩
 ·exact q.elim
theorem yf:ye X (.type "tuple") YN:=cq_tuple.imp λxs H Q ⟨ds,h,Qd,r,rh,q,p⟩=>by
 unfold YN at q;split at q
 ·rename_i a;obtain⟨es,hd,q⟩:=q;exact⟨[.lst a],h,λd h'=>Qd d (vH h' a),r,rh,⟨es,hd,q⟩,λd v h' H' k rh' rd q'=>p d v _ H' k (rh'.sub (Sub.drop h' a)) rd q'⟩
 ·exact q.elim
theorem BT:ye X (.type "list") Oi:=call_list_of.imp λxs H Q ⟨ds,h,Qd,r,rh,q,p⟩=>by
 unfold Oi at q;split at q
 ·rename_i es;obtain⟨v,e,r1⟩:=jB r;obtain⟨a,vs,e1,hH,r2⟩:=(show ∃a vs,v= .ref a/\H a=some (.tup vs)/\RelDs X.K H es vs from r1);subst e e1;exact⟨a,vs,rfl,.inr (SqT.of hH),λc hc=>p (.lst c) _ _ _ (.new hc) (rh.newL hc r2) ⟨rfl,_,jn⟩ (q c (rh.free hc))⟩
 ·rename_i a;obtain⟨es,hd,q⟩:=q;obtain⟨v,e,r1⟩:=jB r;obtain⟨vs,hH,r2⟩:=rh a es hd;have e1:v= .ref a:=r1.1;subst e e1;exact⟨a,vs,rfl,.inl (SqL.of hH),λc hc=>p (.lst c) _ _ _ (.new hc) (rh.newL hc r2) ⟨rfl,_,jn⟩ (q c (rh.free hc))⟩
 ·exact q.elim
end
def Uu:D->P8 Q4
 | .non=>some "NoneType" | .bl _=>some "bool" | .int _=>some "int" | .str _=>some "str" | .tup _=>some "tuple" | .lst _=>some "list" | .dic _ _=>some "dict" | .dct _=>none| .scr _=>none| .exc _=>none| .fn _=>none
def Ol (T:Q4)(n:Q4):N4:=n==T||(T== "int" &&n== "bool")
theorem Mb {d:D}{v:V}{n:Q4}(r:RelD K H d v)(e:Uu d=some n):TyOf K H v (.type n):=by
 cases d with
 |non=>cases (show v= .non from r);cases e;exact .non
 |bl b=>cases (show v= .bl b from r);cases e;exact .bl b
 |int i=>cases (show v= .int i from r);cases e;exact .int i
 |str x=>cases (show v= .str x from r);cases e;exact .str x
 |tup ds=>
  obtain⟨a,vs,e1,hH,_⟩:=(show ∃a vs,v= .ref a/\H a=some (.tup vs)/\RelDs K H ds vs from r);subst e1;cases e;exact .tup hH
 |lst a=>
  obtain⟨e1,vs,hH⟩:=(show v= .ref a/\ ∃vs,H a=some (.lst vs) from r);subst e1;cases e;exact .lst hH
 |dic x i=>
  obtain⟨a,e1,hH⟩:=(show ∃a,v= .ref a/\H a=some (.dK [(aO x,V.int i)]) from r);subst e1;cases e;exact .dK hH
 |dct a=>cases e
 |scr ns=>cases e
 |exc C=>cases e
 |fn a=>cases e
def BU:G0 Q4:= ["NoneType","bool","int","str","tuple","list","dict"]
theorem Gv {d:D}{n:Q4}(e:Uu d=some n):n∈BU:=by
 cases d<;>cases e<;>decide
def EC (K:G2):Prop:= ∀n∈BU,∀T∈ ["tuple","int","bool","list","str"],fV K (.type n) (.type T)=some (Ol T n)
theorem BV (K:G2):EC K:=by
 intro n hn T hT;simp only [BU,D2,T9,or_false] at hn hT;rcases hn with rfl|rfl|rfl|rfl|rfl|rfl|rfl<;>rcases hT with rfl|rfl|rfl|rfl|rfl<;>with_unfolding_all rfl
theorem Db (T:Q4):CallR X (.builtin "isinstance") (λxs H Q=> ∃x t b,xs= [x,.ty T]/\TyOf X.K H x t/\fV X.K t (.type T)=some b/\Q (.bl b) H):=by
 intro pins s σ H xs us Q I r h;obtain⟨x,t,b,rfl,ty,e,q⟩:=h;obtain⟨u,w',rfl,rx,rt⟩:=Ps r;cases (show w'=Q5 T from rt);exact Px I rx ty e λtk=>⟨.bl b,H,I.tok tk,rfl,q⟩
def dIs (T:Q4)(ta:TED):TED:=λσ h Q=>ta σ h λx h1=> ∃n,Uu x=some n/\Q (.bl (Ol T n)) h1
theorem ED {a:T1}{ta:TED}{T:Q4}{t:Str}{p p2:Pos}(hT:T∈ ["tuple","int","bool","list","str"])(hg:Gl X "isinstance")(hm:X.mg "isinstance" =none)(hg2:Gl X t)(hm2:X.mg t=none)(hv:J9 t=some (.type T))(ha:QE X a ta)
 (hn:t≠ "__name__" :=by decide)(hd:(t==("__debug__" :Str))=false:=by decide)
 (h1:D7 [a,.Name t p2] X.env=(false,A7 a X.env)::D7 [.Name t p2] X.env:=by rfl)(h2:(K0 pos (D7 [.Name t p2] X.env)).any (·.1)=false:=by rfl):
 QE X (.Call (.Name "isinstance" p) [a,.Name t p2] [] pos) (dIs T ta):=
 (ZX (Db T) hg hm aF (wR ha (wR (Pj (v:= .ty T) hg2 hm2 hv rfl hn hd) pa_nil (by rfl)) h1) (by decide) (by decide) h1 h2).imp
  λσ H Q ⟨xD,h,Qd,rs,rh,t,p⟩=>LE.bind rs rh t λd v h1 H1 k1 rs1 rh1 r1 ⟨n,e,q⟩=>⟨v,.type n,Ol T n,rfl,Mb r1 e,BV _ n (Gv e) T hT,p (.bl _) _ _ _ k1 rh1 rfl q⟩
theorem Dc (bs:G0 N4):(R6 bs.length).all (λi=>bs.getD i false)=bs.all id:=by
 induction bs with
 |nil=>rfl
 |cons b bs ih=>
  rw [R1,j9,mI,K8,mI];show (b&&_)=(b&&bs.all id);rw [<-ih];rfl
theorem De (bs:G0 N4):(R6 bs.length).any (λi=>bs.getD i false)=bs.any id:=by
 induction bs with
 |nil=>rfl
 |cons b bs ih=>
  rw [R1,j9,iN,nM,iN];show (b||_)=(b||bs.any id);rw [<-ih];rfl
theorem Uv {bs:G0 N4}{its:G0 G1}(r:Vals (bs.map V.bl) its){i:G8}{v:G1}(e:its[i]? =some v):v= .bool (bs.getD i false):=by
 have hl:=r.length;rw [G7] at hl;have hi:i<its.length:=(P9.mp e).1;have hb:(bs.map V.bl)[i]? =some (.bl bs[i]):=by rw [R5,G5 (by omega)];rfl
 obtain⟨u,e1,r1⟩:=r.get hb;rw [e] at e1;cases e1;rw [T7,G5 (by omega)];exact r1
section
variable {X:Cx}
theorem Vp (hc:X.calm=true):CallR X (.builtin "all") (λxs H Q=> ∃ (a:G9) (bs:G0 N4),xs= [.ref a]/\SqL X.K H a (bs.map V.bl)/\Q (.bl (bs.all id)) H):=by
 intro pins s σ H xs us Q I r h;obtain⟨a,bs,rfl,hS,q⟩:=h;obtain⟨u,rfl,ru⟩:=Jp r;cases ru;obtain⟨its,rv,pl,hz⟩:=I.list hS;have hl:=pl.isList;have hlt:a<s.heap.objs.size:=by obtain⟨_,e,_⟩:=hl;exact D8 e
 refine call_all_walk (V8 hl ?_);refine⟨s.heap.objs.size,_,_,_,_,_,λi=>bs.getD i false,rfl,kH (A:=X.A.in1) (show X.A.in1.handled=none from I.ok.hd hc) s.heap.objs.size a (T5 hlt) its.toArray,⟨⟨_,R8 _ rfl,rfl,rfl⟩,hl.push _⟩,?_,λh' tk hk=> ?_⟩
 ·intro i v s' Q' E' hP hQ;have e:its[i]? =some v:=by simpa using hP
  rw [Uv rv e];exact A1 hQ
 ·have hn:its.toArray.size=bs.length:=by rw [D6,<-rv.length,G7]
  rw [hn,Dc];exact⟨.bl _,H,I.kept (t':=tk) (λb o e=>hk b o (λz=>by rw [P3.mp z] at e;exact absurd (D8 e) (L0 _)) (G6 _ e)),rfl,q⟩
theorem Vq (hc:X.calm=true):CallR X (.builtin "any") (λxs H Q=> ∃ (a:G9) (bs:G0 N4),xs= [.ref a]/\SqL X.K H a (bs.map V.bl)/\Q (.bl (bs.any id)) H):=by
 intro pins s σ H xs us Q I r h;obtain⟨a,bs,rfl,hS,q⟩:=h;obtain⟨u,rfl,ru⟩:=Jp r;cases ru;obtain⟨its,rv,pl,hz⟩:=I.list hS;have hl:=pl.isList;have hlt:a<s.heap.objs.size:=by obtain⟨_,e,_⟩:=hl;exact D8 e
 refine call_any_walk (V8 hl ?_);refine⟨s.heap.objs.size,_,_,_,_,_,λi=>bs.getD i false,rfl,kH (A:=X.A.in1) (show X.A.in1.handled=none from I.ok.hd hc) s.heap.objs.size a (T5 hlt) its.toArray,⟨⟨_,R8 _ rfl,rfl,rfl⟩,hl.push _⟩,?_,λh' tk hk=> ?_⟩
 ·intro i v s' Q' E' hP hQ;have e:its[i]? =some v:=by simpa using hP
  rw [Uv rv e];exact A1 hQ
 ·have hn:its.toArray.size=bs.length:=by rw [D6,<-rv.length,G7]
  rw [hn,De];exact⟨.bl _,H,I.kept (t':=tk) (λb o e=>hk b o (λz=>by rw [P3.mp z] at e;exact absurd (D8 e) (L0 _)) (G6 _ e)),rfl,q⟩
theorem vW {K:G2}{H:Hp}: ∀ {bs:G0 N4} {vs:G0 V},RelDs K H (bs.map D.bl) vs->vs=bs.map V.bl
 | [],_,h=>h
 |b::bs,vs,h=>by
  obtain⟨v,r,e,h1,h2⟩:=(show ∃v r,vs=v::r/\RelD K H (.bl b) v/\RelDs K H (bs.map D.bl) r from h);rw [e,vW h2,(show v= .bl b from h1)];rfl
def BW:RDn:=λds h Q=> ∃ (a:G9) (bs:G0 N4),ds= [.lst a]/\h a=some (bs.map D.bl)/\Q (.bl (bs.all id)) (vH h a)
def EF:RDn:=λds h Q=> ∃ (a:G9) (bs:G0 N4),ds= [.lst a]/\h a=some (bs.map D.bl)/\Q (.bl (bs.any id)) (vH h a)
theorem yg (hc:X.calm=true):ye X (.builtin "all") BW:=(Vp hc).imp λxs H Q ⟨ds,h,Qd,r,rh,⟨a,bs,e,hd,q⟩,p⟩=>by
 subst e;obtain⟨v,e,r1⟩:=jB r;obtain⟨vs,hH,r2⟩:=rh a _ hd;have e1:v= .ref a:=r1.1;rw [vW r2] at hH;subst e e1;exact⟨a,bs,rfl,SqL.of hH,p (.bl _) _ _ _ (.refl H) (rh.sub (Sub.drop h a)) rfl q⟩
theorem Om (hc:X.calm=true):ye X (.builtin "any") EF:=(Vq hc).imp λxs H Q ⟨ds,h,Qd,r,rh,⟨a,bs,e,hd,q⟩,p⟩=>by
 subst e;obtain⟨v,e,r1⟩:=jB r;obtain⟨vs,hH,r2⟩:=rh a _ hd;have e1:v= .ref a:=r1.1;rw [vW r2] at hH;subst e e1;exact⟨a,bs,rfl,SqL.of hH,p (.bl _) _ _ _ (.refl H) (rh.sub (Sub.drop h a)) rfl q⟩
end
def SH (to:TED)(te:TED):TED:=λσ h Q=>to σ h λx h1=> ∃a,x= .lst a/\te σ h1 λy h2=> ∃xs,h2 a=some xs/\xs.length<sizeLine/\Q .non (zV h2 a (xs++ [y]))
section
variable {X:Cx}{o e i:T1}{to te ti:TED}{apos cpos pos:Pos}
theorem TC (ho:QE X o to)(he:QE X e te)(hbase:bR o "append" X.env (A7 o X.env)=A7 o X.env:=by rfl)
 (hfew:((K0 cpos (D7 [e] X.env)).all (λx=> !x.1)&&(lE cpos (dX [] X.env)).all (λx=>x.1.isSome)&&decide ([e].length+([]:G0 cY).length+(if ([]:G0 cY).isEmpty then 0 else 1)<30))=true:=by rfl)
 (hline:(apos.endLine==cpos.line)=true:=by rfl)(hs:D7 [e] X.env=(false,A7 e X.env)::D7 [] X.env:=by rfl)(hplain:(K0 cpos (D7 [] X.env)).any (·.1)=false:=by rfl):
 QE X (.Call (.Attribute o "append" apos) [e] [] cpos) (SH to te):=
 (Bg cR qT qU PD ho (wR he pa_nil hs) hbase hfew hline hs hplain).imp
  λσ H Q ⟨xD,h,Qd,rs,rh,t,p⟩=>LE.bind rs rh t λd v h1 H1 k1 rs1 rh1 r1 ⟨a,e,q⟩=>by
   subst e;obtain⟨e1,vs,hH⟩:=(show v= .ref a/\ ∃vs,H1 a=some (.lst vs) from r1);subst e1;refine⟨.inl ⟨rfl,vs,SqL.of hH⟩,?_⟩;refine LE.bind rs1 rh1 q λy u h2 H2 k2 rs2 rh2 r2 ⟨xs,hx,hz,q2⟩=> ?_
   obtain⟨ws,hW,r3⟩:=rh2 a xs hx;refine⟨a,ws,u,rfl,rfl,hW,by rw [<-r3.length];exact hz,p .non _ _ _ (k1.trans (k2.trans (.put hW))) (rh2.put hW (r3.append (.cons r2 .nil))) rfl q2⟩
def On (to ti:TED):TGD:=λd σ h Q=>to σ h λo h1=>ti σ h1 λi h2=> ∃a k xs j,o= .lst a/\i= .int k/\h2 a=some xs/\ixN xs.length k=some j/\Q σ (zV h2 a (xs.set j d))
theorem Oo (ho:QE X o to)(hi:QE X i ti)
 (ha: ∀v,eJ (.Subscript o i pos) X.env v=(do
  let ov <-bW [v] (A7 o X.env)
  let iv <-bW [v,ov] (A7 i X.env)
  i8 pos
  bW [v,ov,iv] (rK ov iv v)
  tZ [v,ov,iv] []):=by intro _;rfl):QG X (.Subscript o i pos) (On to ti):=
 (FS ho hi RR ha).imp λv σ H Q ⟨d,xD,h,Qd,r,rs,rh,q,p⟩=>
  LE.bind rs rh q λd1 v1 h1 H1 k1 rs1 rh1 r1 q1=>LE.bind rs1 rh1 q1 λd2 v2 h2 H2 k2 rs2 rh2 r2 ⟨a,k,xs,j,e1,e2,hx,hj,q2⟩=>by
   subst e1 e2;have e3:v1= .ref a:=(r1.mono k2).1;obtain⟨ws,hW,r3⟩:=rh2 a xs hx;refine⟨a,ws,k,j,e3,r2,hW,by rw [<-r3.length];exact hj,p _ _ _ _ (k1.trans (k2.trans (.put hW))) (rs2.mono (.put hW)) (rh2.put hW (RelDs.set ((r.mono k1).mono k2) j r3)) q2⟩
end
def Qx (N:G0 Str)(sc:G0 (Str×NameKind))(scope:A8)(js:G0 G8):N4:=
 scope.kind== .function&&scope.names.all (λp=>p.2 != .cell||scope.names.lookup p.1==some .cell)&&scope.names.all (λp=>p.2 != .local||scope.names.lookup p.1==some .local)&&
 scope.names.all (λp=>p.2 != .free||sc.lookup p.1==some .cell||sc.lookup p.1==some .free)&&
 (R6 N.length).all λi=>(scope.names.lookup (N.getD i rE) !=some .local&&scope.names.lookup (N.getD i rE) !=some .cell)||js.contains i
theorem jQ (h:Qx X.N X.env.scope.names scope js=true):BlockOk X scope js:=by
 unfold Qx at h;simp only [B8] at h;obtain⟨⟨⟨⟨h1,h2⟩,h3⟩,h4⟩,h5⟩:=h;refine⟨eq_of_beq h1,λp hp e=> ?_,λp hp e=> ?_,λp hp e=> ?_,λi x e1 e2=> ?_⟩
 ·have:=S8.mp h3 p hp;rw [e] at this;simpa using this
 ·have:=S8.mp h2 p hp;rw [e] at this;simpa using this
 ·have:=S8.mp h4 p hp;rw [e] at this;simpa using this
 ·have hi:i<X.N.length:=(P9.mp e1).1;have:=S8.mp h5 i (S9.mpr hi);rw [T7,e1,aY] at this;rcases e2 with e2|e2<;>(rw [e2] at this;simpa using this)
theorem qpt {t:TTD}(h:QW X e t):QT X e t:=h.pt
theorem Df {te:TED}{σ:SD}{h1:HD}{Q:KD}{j:ItD}(f:D->D)(hz:ds.length<=sizeLine)(hj:j h1=some ds)
 (ht: ∀R:ItD->HD->Prop,R j h1->ti σ h R)(he: ∀d∈ds,∀Q':KD,Q' (f d) h1->te ((jO js σ).set i (some d)) h1 Q')(hq: ∀p,h1 p=none->Q (.lst p) (zV h1 p (ds.map f))):Jm (bN i) js ti vI te σ h Q:=by
 refine ht _ ⟨ds.length,λk ys h'=>h'=h1/\ys=(ds.take k).map f,⟨rfl,by simp⟩,?_⟩;rintro k ys h' ⟨rfl,rfl⟩;refine⟨by simp only [G7,T4];omega,ds,hj,P4 _,λhl p hp=> ?_,λd hd=>⟨_,rfl,?_⟩⟩
 ·rw [M9 hl];exact hq p hp
 ·unfold vI;dsimp only;rw [S2 rfl];refine he d (P6 hd) _ ⟨h',Sub.refl _,rfl,?_⟩;rw [F9,hd];simp
end L2
namespace HT
open PySem PySem.Spec PyProof.Rows
section
variable {prog:S0}{w:N8}{A:T8}{E:G1->G3->Prop}{s:G3}
theorem vX {t sl:G9}{items:N0 G1}{vl vu:G1}{lo hi:P8 P0}{Q:G1->G3->Prop}(ht:mU s.heap t items)(hs:s.heap.IsSliceOf sl vl vu .none)(pl:j0 vl lo)(pu:j0 vu hi)
 (hw:sIx items.size 0 lo=0/\sIx items.size items.size hi=items.size)(h:Q (.ref t) s):R4 (S4 prog w) A (iF (.ref t) (.ref sl)) Q E s:=by
 obtain⟨os,hos,hcs,hds⟩:=id hs;have hTs:s.TypeIs (.ref sl) "slice" :=⟨os,hos,hcs⟩;unfold iF
 try with_reducible refine E3 ?_
 first|refine wpAny_bind (P5 ?_)|skip
 refine wpAny_bind (iG ht.typeIs (by decide) ?_);refine wpAny_bind (I0 (name:=K7 "__getitem__") ht.typeIs A6
  (K2 A6 ht.typeIs fA ?_ (f7 _ _)))
 show R4 _ _ (aT (.ref t) >>= _) _ _ s;refine wpAny_bind (mF ht ?_);refine wpAny_bind (j5 hTs ?_);rw [S2 (by decide)];refine wpAny_bind (yM hs pl pu ?_);have hyes:((((sIx items.size 0 lo:G8):P0)==0&&(1:P0)==1&&(sIx items.size items.size hi-sIx items.size 0 lo)==items.size)=true):=by
  rw [hw.1,hw.2];simp
 show R4 _ _ (if (((sIx items.size 0 lo:G8):P0)==0&&(1:P0)==1&&(sIx items.size items.size hi-sIx items.size 0 lo)==items.size)=true then _ else _) _ _ s;rw [S2 hyes];refine wpAny_bind (m:=gE (.ref t)) ?_;unfold gE;refine wpAny_bind (j5 ht.typeIs (P5 ?_));rw [S2 (by decide)];exact wpAny_bind (dN (P5 ⟨_,rfl,P5 h⟩))
end
end HT
namespace L2
open PySem PySem.Spec PyProof.Rows
def TD (K:G2):V->P8 P0->P8 P0->Hp->VK->Prop:=λx lo hi H Q=> ∃a xs,x= .ref a/\SqT K H a xs/\(HT.sIx xs.length 0 lo=0/\HT.sIx xs.length xs.length hi=xs.length)/\Q (.ref a) H
variable {X:Cx}
theorem sl_whole:SlR X (TD X.K):=by
 intro pins s σ H x v vl vu lo hi sl Q I rx hs pl pu h;obtain⟨a,xs,rfl,hx,hw,q⟩:=h;cases rx;obtain⟨its,r,ht,hz⟩:=I.tuple hx;have hlen:its.toArray.size=xs.length:=by rw [D6];exact r.length.symm
 refine⟨"tuple",_,PyProof.Rows.slot_tuple_getitem.lookup,ht.typeIs,?_⟩;exact HT.vX ht hs pl pu (by rw [hlen];exact hw) ⟨.ref a,H,I,rfl,q⟩
def vM {α:Type}(xs:G0 α)(lo hi:P8 P0):G0 α:=(xs.drop (HT.sIx xs.length 0 lo)).take (HT.sIx xs.length xs.length hi-HT.sIx xs.length 0 lo)
abbrev TOD:=SD->HD->(P8 P0->HD->Prop)->Prop
def Dg:TOD:=λ_ h Q=>Q none h
def Op (t:TED):TOD:=λσ h Q=>t σ h λx h1=> ∃i,x= .int i/\Q (some i) h1
def LO (K:G2)(t:TOD):TO:=λσ H Q=> ∃xD h Qd,RelS K H xD σ/\RelH K h H/\t xD h Qd/\ ∀o h' H',Kept H H'->RelH K h' H'->Qd o h'->Q o H'
theorem LO.bind {K:G2}{ta:TOD}{σ:St}{H:Hp}{xD:SD}{h:HD}{kd:P8 P0->HD->Prop}{k:P8 P0->Hp->Prop}(rs:RelS K H xD σ)(rh:RelH K h H)(t:ta xD h kd)(f: ∀o h' H',Kept H H'->RelS K H' xD σ->RelH K h' H'->kd o h'->k o H'):LO K ta σ H k:=
 ⟨xD,h,kd,rs,rh,t,λo h' H' kp r1 q=>f o h' H' kp (rs.mono kp) r1 q⟩
theorem PO.imp {e:P8 T1}{t t':TO}(h:PO X e t)(i: ∀σ H Q,t' σ H Q->t σ H Q):PO X e t':=λpins s σ H Q I q=>h pins s σ H Q I (i σ H Q q)
abbrev QO (X:Cx)(e:P8 T1)(t:TOD):Prop:=PO X e (LO X.K t)
theorem BX:QO X none Dg:=po_none.imp λσ H Q ⟨xD,h,Qd,rs,rh,q,p⟩=>p none h H (.refl H) rh q
theorem BY {e:T1}{te:TED}(he:QE X e te):QO X (some e) (Op te):=(Be he).imp λσ H Q ⟨xD,h,Qd,rs,rh,q,p⟩=>
 LE.bind rs rh q λd v h1 H1 k1 rs1 rh1 r1 ⟨i,e,q1⟩=>by subst e;exact⟨i,r1,p _ _ _ k1 rh1 q1⟩
def slD:D->P8 P0->P8 P0->HD->KD->Prop:=λx lo hi h Q=>match x with
 | .tup ds=>Q (.tup (vM ds lo hi)) h
 | .scr ns=> ∀p,h p=none->Q (.lst p) (zV h p ((vM ns lo hi).map D.int))
 | .lst a=> ∃ds,h a=some ds/\ ∀p,h p=none->Q (.lst p) (zV h p (vM ds lo hi))
 |_=>False
def dSl (te:TED)(tl th:TOD):TED:=λσ h Q=>te σ h λx h1=>tl σ h1 λl h2=>th σ h2 λu h3=>slD x l u h3 Q
theorem Vr {K:G2}{H:Hp}{ds:G0 D}{vs:G0 V}(r:RelDs K H ds vs)(lo hi:P8 P0):RelDs K H (vM ds lo hi) (RF vs lo hi):=by
 unfold vM RF;rw [r.length];exact(r.drop _).take _
theorem BZ {α β:Type}(f:α->β)(xs:G0 α)(lo hi:P8 P0):vM (xs.map f) lo hi=(vM xs lo hi).map f:=by
 unfold vM;rw [G7,List.map_take,mJ]
theorem Oq {e:T1}{te:TED}{lo hi:P8 T1}{tl th:TOD}{pos p2:Pos}(he:QE X e te)(hl:QO X lo tl)(hu:QO X hi th):QE X (.Subscript e (.Slice lo hi none p2) pos) (dSl te tl th):=
 (RQ (sl_tup.or (sl_whole.or Bf)) he hl hu).imp λσ H Q ⟨xD,h,Qd,rs,rh,q,p⟩=>
  LE.bind rs rh q λd v h1 H1 k1 rs1 rh1 r1 q1=>LO.bind rs1 rh1 q1 λl h2 H2 k2 rs2 rh2 q2=>LO.bind rs2 rh2 q2 λu h3 H3 k3 rs3 rh3 q3=>by
   have rv:=(r1.mono k2).mono k3;have kk:=k1.trans (k2.trans k3);cases d<;>first
    |exact False.elim q3
    |skip
   ·rename_i ds;obtain⟨a,vs,e1,hH,r⟩:=(show ∃a vs,v= .ref a/\H3 a=some (.tup vs)/\RelDs X.K H3 ds vs from rv)
    by_cases hw:HT.sIx vs.length 0 l=0/\HT.sIx vs.length vs.length u=vs.length
    ·refine .inr (.inl ⟨a,vs,e1,SqT.of hH,hw,p (.tup (vM ds l u)) _ _ _ kk rh3 ⟨a,vs,rfl,hH,?_⟩ q3⟩);have z:=Vr r l u;have e:RF vs l u=vs:=by unfold RF;rw [hw.1,hw.2];simp
     rwa [e] at z
    ·exact .inl ⟨a,vs,e1,SqT.of hH,hw,λc hc=>p (.tup (vM ds l u)) _ _ _ (kk.trans (.new hc)) (rh3.new hc) ⟨c,_,rfl,jn,(Vr r l u).mono (.new hc)⟩ q3⟩
   ·rename_i a;obtain⟨ds,hd,q3⟩:=q3;obtain⟨vs,hH,r⟩:=rh3 a ds hd;exact .inr (.inr ⟨a,vs,rv.1,SqL.of hH,λc hc=>p (.lst c) _ _ _ (kk.trans (.new hc)) (rh3.newL hc (Vr r l u)) ⟨rfl,_,jn⟩ (q3 c (rh3.free hc))⟩)
   ·rename_i ns;obtain⟨a,e1,hS⟩:=(show ∃a,v= .ref a/\Scr X.K H3 a ns from rv);refine .inr (.inr ⟨a,_,e1,hS.sq,λc hc=>p (.lst c) _ _ _ (kk.trans (.new hc)) (rh3.newL hc ?_) ⟨rfl,_,jn⟩ (q3 c (rh3.free hc))⟩);have z:=Vr (vC (K:=X.K) (H:=H3) ns) l u
    rwa [BZ] at z
end L2
namespace HT
open PySem PySem.Spec PyProof.Rows
open Sem (wp)
open Builtin
theorem ZM:fillsNumberSlot (.type "tuple") "mul" =pure false:=
 PySem.fillsNumberSlot_seq (id:= "tuple.__mul__") (r:=some (.builtin "tuple.__rmul__")) F.slot_tuple_mul.lookup (by decide +kernel) F.slot_tuple_rmul.lookup (by decide +kernel)
theorem Uw:tM (.type "tuple")=pure (some (.builtin "tuple.__mul__")):=by
 unfold tM;rw [oH (T:= "tuple") (name:= "__mul__") (id:= "tuple.__mul__") F.slot_tuple_mul.lookup (by decide +kernel),oH (T:= "tuple") (name:= "__rmul__") (id:= "tuple.__rmul__") F.slot_tuple_rmul.lookup (by decide +kernel)];rfl
section
variable {prog:S0}{w:N8}{A:T8}{E:G1->G3->Prop}{s:G3}
theorem Vs {k:P0}{t:Tok}{l:G9}{o:Obj}{its:N0 G1}{n:G8}{P:fK->G3->Prop}(at_:s.heap.get? l=some o)(tup:o.cls= .type "tuple")(dat:o.data= .seq its n)(h:P (.done (.ret .notImplemented)) s):R4 (S4 prog w) A (Builtin.«int.__rmul__» ⟨[.int k t,.ref l],[]⟩) P E s:=by
 obtain⟨c,dd,dt,sl⟩:=o;cases tup;cases dat;obtain⟨hp,g,d,tk,os⟩:=s
 wp_walk
 exact h
theorem XA {l:G9}{its:N0 G1}{n:G8}{x:P0}{u:Tok}{dd:P8 G9}{sl:N0 (P8 G1)}{P:fK->G3->Prop}(at_:s.heap.get? l=some {cls:= .type "tuple",dict:=dd,data:= .seq its n,slots:=sl})(fits: -(2^63)<=x/\x<2^63)
 (same:(its.isEmpty||x==1)=true->P (.done (.ret (.ref l))) s)
 (gone:(its.isEmpty||x==1)=false->(decide (x<=0)||its.isEmpty)=true->P (.done (.ret (.ref s.heap.objs.size))) {s with heap:=s.heap.push {cls:= .type "tuple",data:= .seq #[]}})
 (more:(its.isEmpty||x==1)=false->(decide (x<=0)||its.isEmpty)=false-> ¬ (its.size:P0)*x>(2^63-1) / 8/\gF ((its.size:P0)*x)=false/\((M0 x.toNat its).foldl (· ++ ·) #[]).size<=sizeLine/\
  P (.done (.ret (.ref s.heap.objs.size))) {s with heap:=s.heap.push {cls:= .type "tuple",data:= .seq ((M0 x.toNat its).foldl (· ++ ·) #[])}}):
 R4 (S4 prog w) A (Builtin.«tuple.__mul__» ⟨[.ref l,.int x u],[]⟩) P E s:=by
 obtain⟨hp,g,d,tk,os⟩:=s
 wp_walk
 rw [S3 (by simp only [eO,E4];omega)]
 wp_walk
 cases c1:(its.isEmpty||x==1) with
 |true=>
  rw [S2 rfl]
  wp_walk
  exact same c1
 |false=>
  rw [S3 D9];cases c2:(decide (x<=0)||its.isEmpty) with
  |true=>
   rw [S2 rfl]
   wp_walk
   exact gone c1 c2
  |false=>
   obtain⟨m1,m2,m3,m4⟩:=more c1 c2;rw [S3 D9];dsimp only;rw [S3 m1,m2,S3 D9]
   wp_walk
   exact m4
end
end HT
namespace L2
open PySem PySem.Spec PyProof.Rows
def EG (K:G2):R2:=λx y H Q=> ∃ (a:G9) (k:P0) (xs:G0 V),x= .ref a/\y= .int k/\SqT K H a xs/\ -(2^63)<=k/\k<2^63/\xs.length*k.toNat<=sizeLine/\
 ((xs= []\/k=1)->Q (.ref a) H)/\(¬ (xs= []\/k=1)-> ∀p,H p=none->Q (.ref p) (upd H p (.tup (M0 k.toNat xs).flatten)))
theorem ZY {l:G0 G1}:l.toArray= #[]↔l= []:=by cases l<;>simp
theorem Ca {X:Cx}:OpR X (J0 .Mult) (EG X.K):=by
 intro pins s σ H x y v u Q I rx ry h;obtain⟨a,k,xs,rfl,rfl,hH,h1,h2,hz,q1,q2⟩:=h;cases rx;obtain⟨t,rfl⟩:=ry;obtain⟨its,r,ht,_⟩:=I.tuple hH;obtain⟨⟨cls,dd,data,sl⟩,ho,hc,n,hd⟩:=id ht;simp only at hc hd;subst hc hd;have hl:=r.length;have hnew:(M0 k.toNat its.toArray).foldl (· ++ ·) #[]=(M0 k.toNat its).flatten.toArray:=by
  have:=Wn its k.toNat [];rw [C9] at this;exact this
 have few:its.length*k.toNat<=sizeLine:=by rw [<-hl];exact hz
 have free:=I.hok.fresh (P4 _);refine g8 (T:= "tuple") (U:= "int") (by decide) ⟨_,ho,rfl⟩ (λs'=>j8 s' k t) HT.ZM o8 eN HT.Uw F.slot_int_index.lookup
  (K2 eN (j8 s k t) oG (HT.Vs ho rfl rfl ⟨_,rfl,rfl,⟨_,ho,rfl⟩,K2 F.slot_tuple_mul ⟨_,ho,rfl⟩ F.entry_tuple_mul (HT.XA ho ⟨h1,h2⟩ (λc=> ?_) (λc c0=> ?_) (λc c0=> ?_)) (F.args_tuple_mul_2 _ _)⟩) (nI _ _))
 ·refine⟨_,rfl,.ref a,H,I,rfl,q1 ?_⟩;simp only [eO,beq_iff_eq,nN,ZY] at c;exact c.imp (λe=>r.nil_iff.mp e) id
 ·simp only [lH,beq_eq_false_iff_ne,gG,ne_eq,ZY] at c;have k0:k.toNat=0:=by
   simp only [eO,E4,nN,ZY] at c0;have:=c0.resolve_right c.1;omega
  have last:=q2 (λz=>z.elim (λe=>c.1 (r.nil_iff.mpr e)) c.2) _ free;rw [k0] at last;exact⟨_,rfl,.ref s.heap.objs.size,_,I.laid (t':=s.toks) (o:= .tup []) (λb ob q=>G6 _ q) (P4 _) ⟨by decide,[],.nil,IsTupN.new _ _⟩,rfl,last⟩
 ·simp only [lH,beq_eq_false_iff_ne,gG,ne_eq,ZY,decide_eq_false_iff_not] at c c0;have em:((its.toArray.size:G8):P0)*k=((its.length*k.toNat:G8):P0):=by rw [Int.natCast_mul,D6,show ((k.toNat:G8):P0)=k by omega]
  have cap:(sizeLine:G8)<=(2^63-1) / 8:=by decide
  rw [em,hnew];refine⟨by omega,by unfold gF;exact D1 (by omega),by rw [D6,Xv,nJ];exact few,_,rfl,.ref s.heap.objs.size,_,I.laid (t':=s.toks) (o:= .tup (M0 k.toNat xs).flatten) (λb ob q=>G6 _ q) (P4 _) ⟨by rw [Xv,nJ];exact hz,_,r.rep k.toNat,IsTupN.new _ _⟩,rfl,q2 (λz=>z.elim (λe=>c.1 (r.nil_iff.mpr e)) c.2) _ free⟩
def EH:RD2:=λx y h Q=>match x,y with
 | .tup ds,.int k=> -(2^63)<=k/\k<2^63/\ds.length*k.toNat<=sizeLine/\Q (.tup (M0 k.toNat ds).flatten) h
 |x,y=>SG x y h Q
theorem vY {X:Cx}:OpQ X (J0 .Mult) EH:=(oq_mul.or Ca).imp λx y H Q ⟨dx,dy,h,Qd,rx,ry,rh,q,p⟩=>by
 by_cases ht: ∃ds k,dx= .tup ds/\dy= .int k
 ·obtain⟨ds,k,e1,e2⟩:=ht;subst e1 e2;obtain⟨b1,b2,hz,q⟩:=q;obtain⟨a,vs,e,hH,r⟩:=(show ∃a vs,x= .ref a/\H a=some (.tup vs)/\RelDs X.K H ds vs from rx);refine .inr ⟨a,k,vs,e,ry,SqT.of hH,b1,b2,by rw [<-r.length];exact hz,λhs=> ?_,λ_ c hc=>p (.tup _) _ _ _ (.new hc) (rh.new hc) ⟨c,_,rfl,jn,(r.flat _).mono (.new hc)⟩ q⟩;refine p (.tup _) _ _ _ (.refl H) rh ⟨a,vs,rfl,hH,?_⟩ q;rcases hs with e0|e1
  ·subst e0;have:ds= []:=W0.mp r.length;subst this;simpa using r
  ·subst e1;simpa using r
 ·refine .inl ⟨dx,dy,h,Qd,rx,ry,rh,?_,p⟩;unfold EH at q;split at q
  ·exact absurd ⟨_,_,rfl,rfl⟩ ht
  ·exact q
def Fy:D->HD->KD->Prop:=λx h Q=>match x with
 | .int i=>Q (.int (-i)) h
 |_=>False
def dUn (f:D->HD->KD->Prop)(ta:TED):TED:=λσ h Q=>ta σ h λx h1=>f x h1 Q
theorem EI {X:Cx}{a:T1}{ta:TED}{pos:Pos}(ha:QE X a ta):QE X (.UnaryOp .USub a pos) (dUn Fy ta):=
 (AK Ld ha).imp λσ H Q ⟨xD,h,Qd,rs,rh,t,p⟩=>LE.bind rs rh t λd v h1 H1 k1 rs1 rh1 r1 q=>by
  cases d<;>first
   |exact False.elim q
   |exact⟨_,r1,p (.int _) _ _ _ k1 rh1 rfl q⟩
end L2
namespace HT
open PySem PySem.Spec PyProof.Rows
section
variable {prog:S0}{w:N8}{A:T8}{E:G1->G3->Prop}{s:G3}
theorem Gw (n:G8):U2 none none (-1) (n:P0)=((n:P0)-1,-1):=rfl
theorem Gx (n:G8):O6 ((n:P0)-1) (-1) (-1)=n:=by
 unfold O6;have h1: ¬ ((-1:P0)>0):=by omega
 simp only [h1,iY,show (- -1:P0)=1 by decide,rL];split<;>omega
theorem Mc (xs:N0 G1):((R6 xs.size).filterMap λ(k:G8)=>xs[((xs.size:P0)-1+(k:P0)*(-1)).toNat]?).toArray=xs.toList.reverse.toArray:=by
 have e:(λ(k:G8)=>xs[((xs.size:P0)-1+(k:P0)*(-1)).toNat]?)=(λk=>xs[xs.size-1-k]?):=by
  funext k
  have:((xs.size:P0)-1+(k:P0)*(-1)).toNat=xs.size-1-k:=by omega
  rw [this]
 rw [e];have h2:(R6 xs.size).filterMap (λk=>xs[xs.size-1-k]?)=((R6 xs.size).map (λk=>xs.size-1-k)).filterMap (xs[·]?):=by rw [mP];rfl
 rw [h2,uF,List.filterMap_reverse,uR]
theorem Ze {t sl:G9}{items:N0 G1}{u:Tok}{Q:G1->G3->Prop}(ht:mU s.heap t items)(hs:s.heap.IsSliceOf sl .none .none (.int (-1) u))
 (h:Q (.ref s.heap.objs.size) {s with heap:=s.heap.push {cls:= .type "tuple",data:= .seq items.toList.reverse.toArray}})
 (hsz:items.size<=sizeLine):R4 (S4 prog w) A (iF (.ref t) (.ref sl)) Q E s:=by
 have htake:sizeOk (.seq items.toList.reverse.toArray):=by
  show items.toList.reverse.toArray.size<=sizeLine;rw [D6,M6,C7];exact hsz
 obtain⟨os,hos,hcs,hds⟩:=id hs;have hTs:s.TypeIs (.ref sl) "slice" :=⟨os,hos,hcs⟩;unfold iF
 try with_reducible refine E3 ?_
 first|refine wpAny_bind (P5 ?_)|skip
 refine wpAny_bind (iG ht.typeIs (by decide) ?_);refine wpAny_bind (I0 (name:=K7 "__getitem__") ht.typeIs A6
  (K2 A6 ht.typeIs fA ?_ (f7 _ _)))
 show R4 _ _ (aT (.ref t) >>= _) _ _ s;refine wpAny_bind (mF ht ?_);refine wpAny_bind (j5 hTs ?_);rw [S2 (by decide)];have ap:R4 (S4 prog w) A.in1 (W9 (.ref sl) (pure (items.size:P0))) (λr s'=>r=((items.size:P0)-1,-1,items.size)/\s'=s) (λ_ _=>False) s:=by
  unfold W9 g7;refine wpAny_bind (wpAny_bind (cP hos hds (x:= .none) rfl (wpAny_bind (cP hos hds (x:= .none) rfl (wpAny_bind (cP hos hds (x:= .int (-1) u) rfl (P5 ?_)))))));refine wpAny_bind (qQ ?_);show R4 _ _ (if ((-1:P0)==0)=true then _ else _) _ _ s;rw [S3 (by decide)];refine wpAny_bind (f6 (wpAny_bind (f6 (wpAny_bind (P5 ?_)))));show R4 _ _ (match U2 none none (-1) (items.size:P0) with|(lo,hi)=>pure (lo,(-1:P0),O6 lo hi (-1))) _ _ s;rw [Gw];show R4 _ _ (pure ((items.size:P0)-1,(-1:P0),O6 ((items.size:P0)-1) (-1) (-1))) _ _ s;rw [Gx];exact P5 ⟨rfl,rfl⟩
 refine wpAny_bind (T3 ap (λr s' e=> ?_) λ_ _ z=>z.elim);obtain⟨rfl,rfl⟩:=e;have hno: ¬ ((((items.size:P0)-1)==0&&(-1:P0)==1&&items.size==items.size)=true):=by
  rw [show ((-1:P0)==1)=false by decide];simp
 show R4 _ _ (if ((((items.size:P0)-1)==0&&(-1:P0)==1&&items.size==items.size)=true) then _ else _) _ _ s';rw [S3 hno,Mc]
 first
  |exact wpAny_bind (m:=A5 _) (E9 (P5 ⟨_,rfl,P5 h⟩) htake)
  |exact wpAny_bind (m:=A5 _) (E9 (wpAny_bind (P5 (P5 ⟨_,rfl,P5 h⟩))) htake)
  |exact wpAny_bind (wpAny_bind (m:=A5 _) (E9 (P5 (P5 ⟨_,rfl,P5 h⟩)) htake))
  |exact wpAny_bind (wpAny_bind (m:=A5 _) (E9 (P5 ⟨_,rfl,P5 h⟩) htake))
end
end HT
namespace L2
open PySem PySem.Spec PyProof.Rows
def SI (te:TED):TED:=λσ h Q=>te σ h λx h1=> ∃ds,x= .tup ds/\Q (.tup ds.reverse) h1
theorem Vals.rev: ∀ {xs:G0 V} {us:G0 G1},Vals xs us->Vals xs.reverse us.reverse
 |_,_,.nil=> .nil
 |_,_,.cons r t=>by rw [dE,dE];exact(Vals.rev t).append (.cons r .nil)
variable {K:G2}
theorem RelDs.rev {H:Hp}: ∀ {ds:G0 D} {vs:G0 V},RelDs K H ds vs->RelDs K H ds.reverse vs.reverse
 | [],_,h=>by cases (show _= [] from h);exact .nil
 |d::ds,vs,h=>by
  obtain⟨v,r,e,h1,h2⟩:=(show ∃v r,vs=v::r/\RelD K H d v/\RelDs K H ds r from h);subst e;rw [dE,dE];exact(RelDs.rev h2).append (.cons h1 .nil)
variable {X:Cx}{e:T1}{te:TED}
theorem TF {pos p2 p3 p4:Pos}{j:G8}(he:QE X e te):QE X (.Subscript e (.Slice none none (some (.UnaryOp .USub (.Constant (.int 1) j p4) p3)) p2) pos) (SI te):=by
 intro pins s σ H Q I h;obtain⟨xD,h,Qd,rs,rh,t,p⟩:=h;refine mQ (thn (he pins s σ H _ I (LE.bind rs rh t λd v h1 H1 k1 rs1 rh1 r1 q1=>(show ∃xD h1 d,RelS X.K H1 xD σ/\RelH X.K h1 H1/\RelD X.K H1 d v/\Kept H H1/\ ∃ds,d= .tup ds/\Qd (.tup ds.reverse) h1 from ⟨xD,h1,d,rs1,rh1,r1,k1,q1⟩))) λv s1 ⟨x,H1,I1,r1,q1⟩=> ?_);obtain⟨HI,h1,d,rs1,rh1,rd,k1,ds,e1,q1⟩:=q1;subst e1;obtain⟨a,vs,e2,hH,r2⟩:=(show ∃a vs,x= .ref a/\H1 a=some (.tup vs)/\RelDs X.K H1 ds vs from rd);subst e2;cases r1;refine oW ?_;rw [iJ];refine P5 ?_;refine P5 ?_;rw [mG];have hneg:LE X.K (dUn Fy (dC (.int 1))) σ H1 (λv H'=>v=V.int (-1)/\RelH X.K h1 H'/\Kept H1 H'):=
  ⟨HI,h1,λd h'=>d= .int (-1)/\h'=h1,rs1,rh1,⟨rfl,rfl⟩,λd v h' H' k rh' r' e=>by
   obtain⟨e1,e2⟩:=e;subst e1 e2;exact⟨r',rh',k⟩⟩
 refine thn ((EI (Ef (X:=X) (i:=1) (j:=j) (pos:=p4)) (pos:=p3)) pins s1 σ H1 _ I1 hneg) λu s2 ⟨y,H2,I2,ry,ey,rh2,k2⟩=> ?_
 subst ey;obtain⟨tk,rfl⟩:=ry;have hH2:=k2.tup _ _ hH;have I4:Inv X pins σ H2 {s2 with heap:=s2.heap.push {cls:= .type "slice",data:= .fields #[.none,.none,.int (-1) tk]}}:=I2.kept (t':=s2.toks) λb ob q=>G6 _ q
 obtain⟨its,r,ht,hz⟩:=I4.tuple (SqT.of hH2);have hlen:its.toArray.size=vs.length:=by rw [D6];exact r.length.symm
 show R4 (S4 X.prog X.w) X.A (iK e (.Slice none none (some (.UnaryOp .USub (.Constant (.int 1) j p4) p3)) p2) (.ref a) (.ref s2.heap.objs.size)) (EP X pins σ Q) X.xe {s2 with heap:=s2.heap.push {cls:= .type "slice",data:= .fields #[.none,.none,.int (-1) tk]}};refine pU (ops:= [.ref a,.ref s2.heap.objs.size]) ht.typeIs PyProof.Rows.slot_tuple_getitem.lookup ?_ (by with_unfolding_all rfl);refine HT.Ze ht (f8 ..) ?_ (by rw [hlen];exact hz);have hf:=I4.hok.fresh (P4 _);refine⟨.ref _,_,I4.laid (t':=s2.toks) (o:= .tup vs.reverse) (λb ob q=>G6 _ q) (P4 _) ⟨by rw [M6];exact hz,_,Vals.rev r,IsTupN.new _ _⟩,rfl,?_⟩;exact p (.tup ds.reverse) _ _ _ (k1.trans (k2.trans (.new hf))) (rh2.new hf) ⟨_,_,rfl,jn,((r2.mono k2).rev).mono (.new hf)⟩ q1
def Ux (x:Str)(i:P0):TED:=λ_ h Q=>Q (.dic x i) h
variable {p:G9}
theorem Md {H:Hp}{a b:HO}:upd (upd H p a) p b=upd H p b:=by
 funext q;unfold upd;split<;>rfl
variable {x:Str}
theorem Os {i:P0}{j k:G8}{pos p1 p2:Pos}:QE X (.Dict [some (.Constant (.str x) j p1)] [.Constant (.int i) k p2] pos) (Ux x i):=by
 have h0:PPs X pos [some (.Constant (.str x) j p1)] [.Constant (.int i) k p2] [(tC (.str x),tC (.int i))]:=RV pe_str pe_int Bk;refine PE.imp (Bl h0 rfl rfl (by simp) (by simp)) ?_;rintro σ H Q ⟨xD,h,Qd,rs,rh,t,p⟩ q hq;show upd H q (.dK []) q=some (.dK [])/\_;refine⟨jn,[((aO x:Key),V.int i)],rfl,by simp,?_⟩;rw [Md];exact p (.dic x i) (.ref q) h _ (.new hq) (rh.new hq) ⟨q,rfl,jn⟩ t
def XB:G0 (P8 T1)->G0 T1->P8 (Str×P0)
 | [some (.Constant (.str x) _ _)],[.Constant (.int i) _ _]=>some (x,i)
 |_,_=>none
theorem Ot {ks:G0 (P8 T1)}{vs:G0 T1}{pos:Pos}{i:P0}(h:XB ks vs=some (x,i):=by rfl):QE X (.Dict ks vs pos) (Ux x i):=by
 unfold XB at h;split at h
 ·cases h;exact Os
 ·cases h
def Ou (K:G2)(tl:TE):TI:=λσ H R=>tl σ H λx H1=> ∃a,x= .ref a/\((∃xs,SqL K H1 a xs/\R (Itl K a) H1)\/ ∃xs,SqT K H1 a xs/\R (Itt K a) H1)
theorem Ov {tg l:T1}{tl:TE}(hl:PE X l tl):PI X tg l (Ou X.K tl):=by
 intro pins s σ H R I h;refine thn (hl pins s σ H _ I h) λv s1 ⟨x,H1,I1,r1,q1⟩=> ?_
 obtain⟨a,e,q⟩:=q1;subst e;cases r1;rcases q with ⟨xs,hq,q⟩|⟨xs,hq,q⟩
 ·obtain⟨its,rv,p,hz⟩:=I1.list hq;refine V8 p.isList ?_;refine⟨s1.heap.objs.size,[s1.heap.objs.size],_,_,H1,rfl,I1.kept (t':=s1.toks) λb o e=>G6 _ e,Uj a _,⟨_,R8 _ rfl,rfl,rfl⟩,λb hb=> ?_,q⟩;have e:b=s1.heap.objs.size:=by simpa using hb
  subst e;exact I1.fpOk (P4 _) (I1.hok.fresh (P4 _))
 ·obtain⟨its,rv,p,hz⟩:=I1.tuple hq;refine U6 (show s1.heap.IsTuple a its.toArray from p) ?_;refine⟨s1.heap.objs.size,[s1.heap.objs.size],_,_,H1,rfl,I1.kept (t':=s1.toks) λb o e=>G6 _ e,Gk a _,⟨_,R8 _ rfl,rfl,rfl⟩,λb hb=> ?_,q⟩;have e:b=s1.heap.objs.size:=by simpa using hb
  subst e;exact I1.fpOk (P4 _) (I1.hok.fresh (P4 _))
def iS (te:TED):TID:=λσ h R=>te σ h λx h1=>match x with
 | .lst a=>R (λh=>h a) h1
 | .tup ds=>R (λ_=>some ds) h1
 | .scr ns=>R (λ_=>some (ns.map D.int)) h1
 |_=>False
variable {a:G9}
theorem Me {H:Hp}{ns:G0 P0}(hs:Scr K H a ns):BJ K H (λ_=>some (ns.map D.int)) (Itl K a):=λH' h' k rh ds' e i=>by
 cases e;have hs':Scr K H' a ns:=hs.elim (λ⟨o,z⟩=> .inl ⟨o,k.frz _ _ _ z⟩) .inr;refine⟨λd hd=> ?_,λhl=>⟨_,hs'.sq,by simpa using hl⟩⟩;obtain⟨v,e1,e2⟩:=(vC (K:=K) (H:=H') ns).get hd;refine⟨⟨_,v,hs'.sq,e1⟩,λx H'' ⟨eH,hx⟩=> ?_⟩;subst eH;have:=hx _ hs'.sq;rw [e1] at this;cases this;exact⟨.refl _,rh,e2⟩
theorem Ow: ∀σ H R,LI K (iS te) σ H R->Ou K (LE K te) σ H R:=λσ H R ⟨xD,h,Rd,rs,rh,q,p⟩=>
 LE.bind rs rh q λd v h1 H1 k1 rs1 rh1 r1 q1=>by
  cases d<;>first
   |exact False.elim q1
   |skip
  ·rename_i ds;obtain⟨a,vs,e,hv,r⟩:=(show ∃a vs,v= .ref a/\H1 a=some (.tup vs)/\RelDs K H1 ds vs from r1);exact⟨a,e,.inr ⟨vs,SqT.of hv,p _ _ _ _ k1 rh1 (RZ hv r) q1⟩⟩
  ·rename_i a;obtain⟨e,vs,hv⟩:=(show v= .ref a/\ ∃vs,H1 a=some (.lst vs) from r1);exact⟨a,e,.inl ⟨vs,SqL.of hv,p _ _ _ _ k1 rh1 (Ut H1 a) q1⟩⟩
  ·rename_i ns;obtain⟨a,e,hS⟩:=(show ∃a,v= .ref a/\Scr K H1 a ns from r1);exact⟨a,e,.inl ⟨_,hS.sq,p _ _ _ _ k1 rh1 (Me hS) q1⟩⟩
theorem Ox {tg:T1}(he:QE X e te):QI X tg e (iS te):=(Ov he).imp Ow
def Ny:TSD:=λ_ _ _=>False
theorem Oy {st:O3}:QS X st Ny:=λ_ _ _ _ _ _ ⟨_,_,_,_,_,z,_⟩=>z.elim
structure Zs (mg:Str->P8 G1):Prop where
 len:mg "len" =none
 max:mg "max" =none
 min:mg "min" =none
 divmod:mg "divmod" =none
 all:mg "all" =none
 any:mg "any" =none
 repr:mg "repr" =none
 sum:mg "sum" =none
 sorted:mg "sorted" =none
 int:mg "int" =none
 tuple:mg "tuple" =none
 list:mg "list" =none
 set:mg "set" =none
 bool:mg "bool" =none
 isinstance:mg "isinstance" =none
 range:mg "range" =none
 zip:mg "zip" =none
 enumerate:mg "enumerate" =none
 reversed:mg "reversed" =none
def jp (P:S0)(w:N8)(K:G2)(mg:Str->P8 G1)(base:N9)(n:G8)(x:Str)(ps:G0 Str)(sp:RDn):Prop:=
 ∃ (g:G9) (gd:S1),FnOk P w K mg base CX0 n g gd ps (LSp K sp)/\Binds K gd ps []/\E6 K (.ref g)=true/\mg x=some (.ref g)
def Dh:RDn:=λds h Q=> ∃ns,ds= [.scr ns]/\(∀a,h a=none)/\ns.length<=63/\ ∀h',Q (.bl true) h'
def Bm (mg:Str->P8 G1)(base:N9):Prop:= ∃bm ob,mg "__builtins__" =some (.ref bm)/\bm≠fP/\base.get? bm=some ob/\ob.cls= .type "module" /\ob.dict=some fP/\ob.data= .plain
def wI (K:G2):G0 (G9×G9):=LN.filterMap (iO K)
theorem TabK.mem {P:G9}(h:TabK K P): ∃c,(c,P)∈wI K:=let ⟨x,hx,c,e⟩:=h;⟨c,Z7.mpr ⟨x,hx,e⟩⟩
theorem Di {P:S0}{w:N8}{mg mb:Str->P8 G1}{k:G8}{fa:G9}{fd:S1}{xE:G3}{vs:G0 G1}{ns:G0 P0}
 (KX:K.In xE.heap)(hns:xE.heap.Ns mainGlobals mg)(hb:xE.heap.Ns fP mb)(hbb: ∀x:Str,x≠ "__name__" ->mb x=J9 x)(hlim:xE.heap.NoLimit)(hg:xE.gens= #[])
 (ha:xE.heap.get? a=some {cls:= .type "list",data:= .seq vs.toArray})(hi:V9 vs ns)(hl:ns.length<=63)(hr:Room k l8)
 (hbm:Bm mg xE.heap)(F: ∀base:N9,K.In base->base.Ns mainGlobals mg->Bm mg base->FnOk P w K mg base CX0 k fa fd [x] (LSp K Dh))(hbind: ∀ (s:G3) (u:G1),lU s fd ⟨[u],[]⟩ [(x,u)])
 (hT: ∀p∈wI K,pZ xE.heap p.1 p.2/\xE.heap.get? p.2=some (lI #[])/\K.lookup p.2=none):
 Y9 (S4 P w) l8 (.call (.ref fa) ⟨[.ref a],[]⟩) (λr s'=>r= .ok (.ret (.bool true))/\OldK xE.heap s'.heap/\s'.os=xE.os/\fH s'.gens) xE:=by
 have rv:=Uq hi;have lenV:=hi.length;have hz:ns.length<=sizeLine:=T6 hl (by decide);have hT': ∀b,b∈(wI K).map (·.2)-> ∃c,pZ xE.heap c b/\xE.heap.get? b=some (lI #[])/\K.lookup b=none:=λb hb=>by
  obtain⟨p,hp,rfl⟩:=N6.mp hb;exact⟨p.1,hT p hp⟩
 have core: ∀H:Hp,Scr K H a ns->HOk P w H xE.heap->(∀b u,H b=some u->(b=a/\K.lookup a=none/\ ∃o xs,u= .frz o (.lst xs))\/(b∈(wI K).map (·.2)/\u= .tbl #[]))->(∀b,b∈(wI K).map (·.2)->H b=some (.tbl #[]))->
  Y9 (S4 P w) l8 (.call (.ref fa) ⟨[.ref a],[]⟩) (λr s'=>r= .ok (.ret (.bool true))/\OldK xE.heap s'.heap/\s'.os=xE.os/\fH s'.gens) xE:=by
  intro H hS hok hA hTt;have noA: ∀ {b:G9} {o:Obj} {es:N0 DictEntry} {ep:G8},xE.heap.get? b=some o->o.data= .dict es ep->H b=none:=λ{b o es ep} e d=>by
   cases q:H b with
   |none=>rfl
   |some u=>
    rcases hA b u q with ⟨rfl,_,_⟩|⟨z,_⟩
    ·rw [ha] at e;cases e;have d':Data.seq vs.toArray _=Data.dict es ep:=d;cases d'
    ·obtain⟨c,_,e2,_⟩:=hT' b z;rw [e2] at e;cases e;have d':Data.fields _=Data.dict es ep:=d;cases d'
  have nsK: ∀ {b:G9} {m:Str->P8 G1},xE.heap.Ns b m->(RH xE.heap H).Ns b m:=λ{b m} ⟨o,es,ep,e,d,r⟩=>⟨o,es,ep,Ve e (noA e d),d,r⟩
  have hKb:K.In (RH xE.heap H):=λb o e=>Ve (KX b o e) (by
   cases q:H b with
   |none=>rfl
   |some u=>
    rcases hA b u q with ⟨rfl,z,_⟩|⟨z,_⟩
    ·rw [z] at e;cases e
    ·obtain⟨c,_,_,z2⟩:=hT' b z;rw [z2] at e;cases e)
  have hM:Mod K mg (RH xE.heap H):=⟨hKb,nsK hns,⟨mb,nsK hb,hbb⟩,let ⟨mc,h1,h2⟩:=hlim;⟨mc,nsK h1,h2⟩⟩;have e0:Env0 P w K mg (RH xE.heap H) l8 [] xE H:=⟨rfl,hM,λb o e=>NN e,V2 (Pg _ _),trivial,λb hb=>absurd (show b∈([]:G0 G9) from hb) (by simp),hok,.of_eq hg⟩;have hsp:LSp K Dh [.ref a] H (λv _=>v= .bl true) (λ_ _ _=>False):=by
   refine⟨[.scr ns],⟨λ_=>none,λ_=>none⟩,λd _=>d= .bl true,⟨.ref a,[],rfl,⟨a,rfl,hS⟩,rfl⟩,⟨λb ds e=>(by cases e),λp hp=> ?_,λb c e=>(by cases e)⟩,⟨ns,rfl,λ_=>rfl,hl,λ_=>rfl⟩,?_⟩
   ·obtain⟨c,hc⟩:=hp.mem;exact⟨#[],hTt p (mB (f:=(·.2)) hc),trivial,λpos cv e=>(by cases e)⟩
   ·intro d v h' H' _ _ r e;subst e;exact r
  have hBm:Bm mg (RH xE.heap H):=by
   obtain⟨bm,ob,b1,b2,b3,b4,r⟩:=hbm;refine⟨bm,ob,b1,b2,Ve b3 ?_,b4,r⟩;cases q:H bm with
   |none=>rfl
   |some u=>
    rcases hA bm u q with ⟨rfl,_,_⟩|⟨z,_⟩
    ·rw [ha] at b3;cases b3;exact absurd (Value.type.inj b4) (by decide)
    ·obtain⟨c,_,e2,_⟩:=hT' bm z;rw [e2] at b3;cases b3;cases b4
  refine cU ((F _ hKb (nsK hns) hBm).run l8 [] xE H ⟨[.ref a],[]⟩ [.ref a] [.ref a] _ _ hr e0 (hbind xE (.ref a)) (.cons rfl .nil) hsp) λr s' h=> ?_
  cases r with
  |error e=>exact False.elim h
  |ok fl=>
   cases fl with
   |next=>exact False.elim h
   |brk=>exact False.elim h
   |cont=>exact False.elim h
   |ret u=>
    obtain⟨v,H',os,bare,un,hok',r',q⟩:=h;have q':v= .bl true:=q;subst q';obtain rfl:u=aR true:=r';have one: ∀b o,xE.heap.get? b=some o->s'.heap.get? b=some o\/(b∈(wI K).map (·.2)/\ ∃more,s'.heap.get? b=some (lI more)):=λb o e=>by
     cases q:H b with
     |none=>exact .inl (un.keep b o e q (by intro z;exact absurd (show b∈([]:G0 G9) from z) (by simp)) (by simp))
     |some u=>
      rcases hA b u q with ⟨rfl,_,ob,xs,rfl⟩|⟨z,rfl⟩
      ·have z2:=un.frzs _ ob _ q;obtain⟨e1,_⟩:=hok _ _ q;obtain⟨e2,_⟩:=hok' _ _ z2;rw [e] at e1;cases e1;exact .inl e2
      ·obtain⟨more,z2⟩:=un.tbls b _ q;exact .inr ⟨z,_,(show s'.heap.get? b=some _ from hok' b _ z2)⟩
    refine⟨rfl,⟨λb o e=> ?_,λb o e=> ?_⟩,os,bare⟩
    ·rcases one b o e with z|⟨z,more,z2⟩
     ·exact .inl z
     ·obtain⟨c,hc,e2,_⟩:=hT' b z;rw [e] at e2;cases e2;refine .inr (.inl ⟨(hc.tab e).isCodeTable,rfl,#[],more,rfl,?_⟩);rw [z2];simp
    ·rcases one b o e with z|⟨z,more,z2⟩
     ·exact⟨_,z⟩
     ·exact⟨_,z2⟩
 have nT:a ∉ (wI K).map (·.2):=λz=>by
  obtain⟨c,_,e2,_⟩:=hT' a z;rw [ha] at e2;cases e2
 have okT: ∀ {H:Hp} (b:G9),b∈(wI K).map (·.2)->ObjOk P w H xE.heap b (.tbl #[]):=λb hb=>let ⟨_,_,e,_⟩:=hT' b hb;e
 cases hk:K.lookup a with
 |some o=>
  have e:=KX a o hk;rw [ha] at e;cases e;refine core (λb=>if b∈(wI K).map (·.2) then some (.tbl #[]) else none) (.inr ⟨_,vs.toArray,_,hk,rfl,rfl,rfl,by rw [D6,lenV];exact hz,by simpa using rv⟩) (λb u z=> ?_) (λb u z=> ?_) λb hb=>S2 hb
  ·by_cases hb:b∈(wI K).map (·.2)
   ·have z':=(S2 hb).symm.trans z;cases z';exact okT b hb
   ·have z':=(S3 hb).symm.trans z;cases z'
  ·by_cases hb:b∈(wI K).map (·.2)
   ·have z':=(S2 hb).symm.trans z;cases z';exact .inr ⟨hb,rfl⟩
   ·have z':=(S3 hb).symm.trans z;cases z'
 |none=>
  refine core (λb=>if b=a then some (.frz {cls:= .type "list",data:= .seq vs.toArray} (.lst (ns.map V.int))) else if b∈(wI K).map (·.2) then some (.tbl #[]) else none) (.inl ⟨{cls:= .type "list",data:= .seq vs.toArray},S2 rfl⟩) (λb u z=> ?_) (λb u z=> ?_) λb hb=> ?_
  ·by_cases hb:b=a
   ·have z':=(S2 hb).symm.trans z;cases z';subst hb;exact⟨ha,by rw [G7];exact hz,vs,_,rv,ha⟩
   ·have z':=(S3 hb).symm.trans z
    by_cases hb2:b∈(wI K).map (·.2)
    ·have z2:=(S2 hb2).symm.trans z';cases z2;exact okT b hb2
    ·have z2:=(S3 hb2).symm.trans z';cases z2
  ·by_cases hb:b=a
   ·have z':=(S2 hb).symm.trans z;cases z';exact .inl ⟨hb,hk,_,_,rfl⟩
   ·have z':=(S3 hb).symm.trans z
    by_cases hb2:b∈(wI K).map (·.2)
    ·have z2:=(S2 hb2).symm.trans z';cases z2;exact .inr ⟨hb2,rfl⟩
    ·have z2:=(S3 hb2).symm.trans z';cases z2
  ·have:b≠a:=λz=>nT (z ▸ hb)
   show (if b=a then _ else _)=_;rw [S3 this,S2 hb]
def EJ (q:S0)(K:G2):N4:=LN.all λx=>match iO K x with
 |some p=>(K.lookup p.2).isNone&&((sT q).find? (λe=>e.name==x)).isSome
 |none=>true
theorem Mf {l:pA}{k:G8}{q:S0}{loose:G0 Str}{XP:(Str->P8 G1)->N9->Prop}{YP:N8->N9->Prop}{d:DefRec}{K:u4->G2}(hn:l.most=some 63)(hdf:d.params.defaults= [])(hr:Room k l8)
 (hY: ∀ (w:N8) (h:N9),YP w h->(K w.params).In h)(hB: ∀w:N8,EJ q (K w.params)=true)
 (F: ∀ (w:N8) (mg:Str->P8 G1) (fa:G9) (h:N9),(K w.params).In h->h.Ns mainGlobals mg->mg d.name=some (.ref fa)->
  ∃fd:S1,(∀ (s:G3) (u:G1),lU s fd ⟨[u],[]⟩ [(x,u)])/\ ∀base:N9,(K w.params).In base->base.Ns mainGlobals mg->Bm mg base->FnOk l.prog w (K w.params) mg base CX0 k fa fd [x] (LSp (K w.params) Dh)):
 xA q loose XP YP l.row.toRowW d [] (λf vs=>tK f vs):=by
 refine Att.attach_call hn hdf λw s₀ xE mg mb fa o pm cd doc a vs ns G Y ho hd hcd hmg hobj hints hlen hg=> ?_
 have KX:=hY w _ Y;obtain⟨fd,hb,hF⟩:=F w mg fa _ KX G.T.g hmg;refine Di KX G.T.g G.T.b G.T.builtins G.T.nolimit hg hobj hints hlen hr G.T.bmain hF hb λp hp=> ?_
 obtain⟨x,hx,e⟩:=Z7.mp hp;have z:=S8.mp (hB w) x hx;rw [e] at z;simp only [B8,Option.isNone_iff_eq_none] at z;obtain⟨dd,hdd⟩:=K5.mp z.2;have t:=u7 (c:=p.1) (P:=p.2) G.T KX hdd e;exact⟨t.1,t.2,z.1⟩
def zF:T1->N4
 | .Starred .. =>false
 |_=>true
theorem XC {es:G0 T1}{env:Env}(h:zF e=true):D7 (e::es) env=(false,A7 e env)::D7 es env:=by
 cases e<;>first|rfl|cases h
theorem qac {es:G0 T1}{t:TAD}(ha:QE X e te)(hr:QA X es t)(h:zF e=true:=by rfl):QA X (e::es) (zr te t):=BB ha hr (XC h)
theorem wT {α:Type}{xs:G0 α}{i:P0}(h0:0<=i)(h1:i<xs.length): ∃x∈xs,atI xs i=some x:=by
 have hk:i.toNat<xs.length:=by omega
 have ek:i=((i.toNat:G8):P0):=by omega
 have z:=wt (G5 hk);rw [<-ek] at z;exact⟨xs[i.toNat],B6 hk,z⟩
variable {h h':HD}{L:G0 D}
theorem Sub.both (s:Sub h h'):Sub (zV h p L) (zV h' p L):=⟨λa ds e=>(by
 by_cases q:a=p
 ·subst q;rw [jc] at e ⊢;exact e
 ·rw [wu q] at e ⊢;exact s a ds e),s.dc⟩
theorem Sub.newAt (s:Sub h h')(e:h' p=none):Sub h (zV h' p L):=s.trans (.new e)
structure But (p:G9)(h h':HD):Prop where
 ls: ∀a ds,a≠p->h a=some ds->h' a=some ds
 dc: ∀a c,h.dc a=some c->h'.dc a=some c
instance {p:G9}{h h':HD}:CoeFun (But p h h') λ_=> ∀a ds,a≠p->h a=some ds->h' a=some ds:=⟨But.ls⟩
theorem But.refl (p:G9)(h:HD):But p h h:=⟨λ_ _ _ e=>e,λ_ _ e=>e⟩
theorem But.trans {a b c:HD}(x:But p a b)(y:But p b c):But p a c:=⟨λd ds n e=>y d ds n (x d ds n e),λd ds e=>y.dc d ds (x.dc d ds e)⟩
variable {q:G9}
theorem But.new (s:But p h h')(e:h' q=none):But p h (zV h' q L):=⟨λa ds n z=>(by
 have:=s a ds n z;rw [wu (λw=>by subst w;rw [e] at this;cases this)];exact this),s.dc⟩
theorem But.put (s:But p h h'):But p h (zV h' p L):=⟨λa ds n z=>(by rw [wu n];exact s a ds n z),s.dc⟩
theorem But.putNew (s:But p h h')(e:h q=none):But p h (zV h' q L):=⟨λa ds n z=>(by
 rw [wu (λw=>by subst w;rw [e] at z;cases z)];exact s a ds n z),s.dc⟩
theorem But.sub (s:But p h h')(e:h' p=some L):Sub (zV h p L) h':=⟨λa ds z=>(by
 by_cases q:a=p
 ·subst q;rw [jc] at z;cases z;exact e
 ·rw [wu q] at z;exact s a ds q z),s.dc⟩
theorem But.upd:But p h (zV h p L):=⟨λa ds n z=>(by rw [wu n];exact z),λ_ _ e=>e⟩
theorem jh (e:h p=some L)(f:h q=none):q≠p:=λz=>by subst z;rw [e] at f;cases f
theorem je {M:G0 D}(e:h p=some L)(f:h q=none):zV h q M p=some L:=by rw [wu (λz=>by subst z;rw [e] at f;cases f)];exact e
theorem Cb {b:G9}(e:zV h a L b=none):b≠a:=λz=>by subst z;rw [jc] at e;cases e
theorem jj {b:G9}{M:G0 D}(n:b≠a)(e:h b=some M):zV h a L b=some M:=by rw [wu n];exact e
theorem Uy {n:G8}{i:G8}{d:D}(h:((R6 n).map λ(k:G8)=>D.int (k:P0))[i]? =some d):i<n/\d= .int i:=by
 rw [R5] at h
 by_cases hi:i<n
 ·rw [fC hi] at h;cases h;exact⟨hi,rfl⟩
 ·rw [aK (by simpa using hi)] at h;cases h
variable {E:EndsD}{σ:SD}
theorem jf {t u:TSD}(V:SD->HD->Prop)(first: ∀K:SD->HD->Prop,(∀xC h',V xC h'->K xC h')->t {E with nx:=K} σ h)(rest: ∀xC h',V xC h'->u E xC h'):yX t u E σ h:=first (u E) rest
theorem Dj (b:But p h h')(e:h' q=none)(n:q≠p):h q=none:=by
 cases z:h q with
 |none=>rfl
 |some ds=>rw [b q ds n z] at e;cases e
def Nxt (E:EndsD)(V:SD->HD->Prop):EndsD:= {E with nx:=λxI h3=> ∃h4,Sub h4 h3/\V xI h4,ct:=λxI h3=> ∃h4,Sub h4 h3/\V xI h4,bk:=E.nx}
variable {h1:HD}
theorem yA {ta:TAD}{g:TGD}{tb:TSD}(n:G8)(W:G8->SD->HD->Prop)(hn:n<1000000)
 (ht: ∀R:G0 D->HD->Prop,R [.int (n:P0)] h1->ta σ h R)(w0:W 0 σ h1)(done: ∀xC h',W n xC h'->E.nx xC h')
 (turn: ∀i xC h',i<n->W i xC h'->g (.int (i:P0)) xC h' λxF h2=>tb (Nxt E λxI h4=>i+1<=n/\W (i+1) xI h4) xF h2):Fu (iR1 ta) g tb E σ h:=by
 refine ht _ ⟨(n:P0),rfl,by omega,by omega,n,λi xC h'=>i<=n/\W i xC h',⟨N3 _,w0⟩,?_⟩;rintro i xC h' ⟨hi,w⟩;refine⟨_,rfl,by simp,λhl=> ?_,λd hd=> ?_⟩
 ·have:i=n:=by simp at hl;omega
  subst this;exact done _ _ w
 ·obtain⟨hi',e⟩:=Uy hd;have hi2:i<n:=by omega
  subst e;exact turn i xC h' hi2 w
theorem Ju {ti:TID}{g:TGD}{tb:TSD}{j:ItD}(ds:G0 D)(W:G8->SD->HD->Prop)
 (ht: ∀R:ItD->HD->Prop,R j h1->ti σ h R)(hj: ∀i xC h',W i xC h'->j h'=some ds)(w0:W 0 σ h1)(done: ∀xC h',W ds.length xC h'->E.nx xC h')
 (turn: ∀i d xC h',ds[i]? =some d->W i xC h'->g d xC h' λxF h2=>tb (Nxt E λxI h4=>i+1<=ds.length/\W (i+1) xI h4) xF h2):Fu ti g tb E σ h:=by
 refine ht _ ⟨ds.length,λi xC h'=>i<=ds.length/\W i xC h',⟨N3 _,w0⟩,?_⟩;rintro i xC h' ⟨hi,w⟩;refine⟨ds,hj i xC h' w,P4 _,λhl=> ?_,λd hd=>turn i d xC h' hd w⟩;have:i=ds.length:=by omega
 subst this;exact done _ _ w
theorem va {g:TGD}{tb:TSD}{j:ItD}(ds:G0 D)(W:G8->SD->HD->Prop)
 (hj: ∀i xC h',W i xC h'->j h'=some ds)(w0:W 0 σ h1)(done: ∀xC h',W ds.length xC h'->E.nx xC h')
 (turn: ∀i d xC h',ds[i]? =some d->W i xC h'->g d xC h' λxF h2=>tb (Nxt E λxI h4=>i+1<=ds.length/\W (i+1) xI h4) xF h2):
 ∃ (n:G8) (W:G8->SD->HD->Prop),W 0 σ h1/\ ∀i xC h',W i xC h'-> ∃ds,j h'=some ds/\ds.length<=n/\(ds.length<=i->E.nx xC h')/\
  ∀d,ds[i]? =some d->g d xC h' λxF h2=>tb {E with nx:=λxI h3=> ∃h4,Sub h4 h3/\W (i+1) xI h4,ct:=λxI h3=> ∃h4,Sub h4 h3/\W (i+1) xI h4,bk:=E.nx} xF h2:=by
 refine⟨ds.length,λi xC h'=>i<=ds.length/\W i xC h',⟨N3 _,w0⟩,?_⟩;rintro i xC h' ⟨hi,w⟩;refine⟨ds,hj i xC h' w,P4 _,λhl=> ?_,λd hd=>turn i d xC h' hd w⟩;have:i=ds.length:=by omega
 subst this;exact done _ _ w
theorem Oz {i:G8}{js:G0 G8}{ta:TAD}{Q:KD}(n:G8)(W:G8->G0 D->HD->Prop)(hn:n<=1000)(ht: ∀R:G0 D->HD->Prop,R [.int (n:P0)] h1->ta σ h R)
 (w0:W 0 [] h1)(wl: ∀k ys h',W k ys h'->ys.length=k)(turn: ∀k ys h',k<n->W k ys h'->te ((jO js σ).set i (some (.int (k:P0)))) h' λy h4=> ∃h5,Sub h5 h4/\(k+1<=n/\W (k+1) (ys++ [y]) h5))
 (done: ∀ys h',W n ys h'-> ∀p,h' p=none->Q (.lst p) (zV h' p ys)):Jm (bN i) js (iR1 ta) vI te σ h Q:=by
 refine ht _ ⟨(n:P0),rfl,by omega,by omega,n,λk ys h'=>k<=n/\W k ys h',⟨N3 _,w0⟩,?_⟩;rintro k ys h' ⟨hk,w⟩;refine⟨by rw [wl k ys h' w];exact R9 (ju (by omega)),_,rfl,by simp,λhl p hp=> ?_,λd hd=>⟨_,rfl,?_⟩⟩
 ·have:k=n:=by simp at hl;omega
  subst this;exact done ys h' w p hp
 ·obtain⟨hi',e⟩:=Uy hd;subst e;unfold vI;dsimp only;rw [S2 rfl];exact turn k ys h' (by omega) w
end L2
namespace L2
open PySem PySem.Spec PyProof.Rows PySem.SeqAt
mutual
def ToP (h:HD):D->Q1->Prop
 |d,.none=>d= .non
 |d,.bool b=>d= .bl b
 |d,.int i=>d= .int i
 |d,.str x=>d= .str x
 |d,.tuple ps=> ∃ds,d= .tup ds/\ToPs h ds ps
 |d,.list ps=> ∃a ds,d= .lst a/\h a=some ds/\ToPs h ds ps
 |_,.dict _=>False
def ToPs (h:HD):G0 D->G0 Q1->Prop
 |ds,[]=>ds= []
 |ds,p::ps=> ∃d r,ds=d::r/\ToP h d p/\ToPs h r ps
end
section
variable {X:Cx}{pins:G0 (G9×Obj)}{σ:St}{H:Hp}{s:G3}{h:HD}
mutual
theorem zt (I:Inv X pins σ H s)(rh:RelH X.K h H): ∀ {p:Q1} {d:D} {v:V} {u:G1},ToP h d p->RelD X.K H d v->RelV v u-> ∃as,Reads s.heap u p as
 | .none,d,v,u,t,r,ru=>by cases (show d= .non from t);cases (show v= .non from r);cases (show u= .none from ru);exact⟨[],.none⟩
 | .bool b,d,v,u,t,r,ru=>by cases (show d= .bl b from t);cases (show v= .bl b from r);cases (show u= .bool b from ru);exact⟨[],.bool b⟩
 | .int i,d,v,u,t,r,ru=>by cases (show d= .int i from t);cases (show v= .int i from r);obtain⟨k,rfl⟩:=(show ∃t,u=aX i t from ru);exact⟨[],.int i k⟩
 | .str x,d,v,u,t,r,ru=>by cases (show d= .str x from t);cases (show v= .str x from r);obtain⟨k,rfl⟩:=(show ∃t,u=iT x t from ru);exact⟨[],.str x k⟩
 | .tuple ps,d,v,u,t,r,ru=>by
  obtain⟨ds,e,ts⟩:=(show ∃ds,d= .tup ds/\ToPs h ds ps from t);subst e;obtain⟨a,vs,e,hH,rs⟩:=(show ∃a vs,v= .ref a/\H a=some (.tup vs)/\RelDs X.K H ds vs from r);subst e;cases (show u= .ref a from ru);obtain⟨its,rv,ht,_⟩:=I.tuple (SqT.of hH);obtain⟨o,ho,hc,n,hd⟩:=ht;obtain⟨as,q⟩:=reads_Ds I rh ts rs rv;exact⟨as,.tuple ho hc hd q⟩
 | .list ps,d,v,u,t,r,ru=>by
  obtain⟨a,ds,e,ha,ts⟩:=(show ∃a ds,d= .lst a/\h a=some ds/\ToPs h ds ps from t);subst e;obtain⟨vs,hH,rs⟩:=rh a ds ha;have e:v= .ref a:=r.1;subst e;cases (show u= .ref a from ru);obtain⟨its,rv,pl,_⟩:=I.list (SqL.of hH);obtain⟨o,ho,hc,n,hd⟩:=pl.isList;obtain⟨as,q⟩:=reads_Ds I rh ts rs rv;exact⟨a::as,.list ho hc hd q⟩
 | .dict _,_,_,_,t,_,_=>(show False from t).elim
theorem reads_Ds (I:Inv X pins σ H s)(rh:RelH X.K h H): ∀ {ps:G0 Q1} {ds:G0 D} {vs:G0 V} {us:G0 G1},ToPs h ds ps->RelDs X.K H ds vs->Vals vs us-> ∃as,ReadsAll s.heap us ps as
 | [],ds,vs,us,t,r,rv=>by
  cases (show ds= [] from t);cases (show vs= [] from r);cases rv;exact⟨[],.nil⟩
 |p::ps,ds,vs,us,t,r,rv=>by
  obtain⟨d,dr,e,t1,t2⟩:=(show ∃d r,ds=d::r/\ToP h d p/\ToPs h r ps from t);subst e;obtain⟨v,vr,e,r1,r2⟩:=(show ∃v r,vs=v::r/\RelD X.K H d v/\RelDs X.K H dr r from r);subst e;cases rv with
  |cons ru rt=>
   obtain⟨as,q1⟩:=zt I rh t1 r1 ru;obtain⟨bs,q2⟩:=reads_Ds I rh t2 r2 rt;exact⟨as++bs,.cons q1 q2⟩
end
end
def eqE:RD2:=λx y h Q=>match x,y with
 | .int i,.int j=>Q (.bl (decide (i=j))) h
 | .bl i,.bl j=>Q (.bl (decide (i=j))) h
 | .str i,.str j=>Q (.bl (decide (i=j))) h
 |x,y=> ∃p q,ToP h x p/\ToP h y q/\shaped p=true/\shaped q=true/\Q (.bl (F4 p q)) h
def neE:RD2:=λx y h Q=>match x,y with
 | .int i,.int j=>Q (.bl (!decide (i=j))) h
 | .bl i,.bl j=>Q (.bl (!decide (i=j))) h
 | .str i,.str j=>Q (.bl (!decide (i=j))) h
 |x,y=> ∃p q,ToP h x p/\ToP h y q/\shaped p=true/\shaped q=true/\Q (.bl (!F4 p q)) h
section
variable {X:Cx}
def eqG:RD2:=λx y h Q=> ∃p q,ToP h x p/\ToP h y q/\shaped p=true/\shaped q=true/\Q (.bl (F4 p q)) h
def neG:RD2:=λx y h Q=> ∃p q,ToP h x p/\ToP h y q/\shaped p=true/\shaped q=true/\Q (.bl (!F4 p q)) h
theorem OA (hu:X.A.units+64<cLine):OpQ X (B1 .Eq) eqG:=by
 intro pins s σ H x y v u Q I rx ry h;obtain⟨dx,dy,h,Qd,r1,r2,rh,⟨p,q,t1,t2,s1,s2,qq⟩,post⟩:=h;obtain⟨as,a1⟩:=zt I rh t1 r1 rx;obtain⟨bs,b1⟩:=zt I rh t2 r2 ry;exact compareEq_shaped a1 b1 s1 s2 hu ⟨.bl _,H,I,rfl,post (.bl _) _ _ _ (.refl H) rh rfl qq⟩
theorem OB (hu:X.A.units+64<cLine):OpQ X (B1 .NotEq) neG:=by
 intro pins s σ H x y v u Q I rx ry h;obtain⟨dx,dy,h,Qd,r1,r2,rh,⟨p,q,t1,t2,s1,s2,qq⟩,post⟩:=h;obtain⟨as,a1⟩:=zt I rh t1 r1 rx;obtain⟨bs,b1⟩:=zt I rh t2 r2 ry;exact compareNe_shaped a1 b1 s1 s2 hu ⟨.bl _,H,I,rfl,post (.bl _) _ _ _ (.refl H) rh rfl qq⟩
theorem OpQ.or' {f:G1->G1->Sem G1}{r r' r2:RD2}(h:OpQ X f r)(h':OpQ X f r')(i: ∀x y hh Q,r2 x y hh Q->r x y hh Q\/r' x y hh Q):OpQ X f r2:=λpins s σ H x y v u Q I rx ry ⟨dx,dy,hd,Qd,r1,r2',rh,q,p⟩=>
 (i dx dy hd Qd q).elim (λz=>h pins s σ H x y v u Q I rx ry ⟨dx,dy,hd,Qd,r1,r2',rh,z,p⟩) λz=>h' pins s σ H x y v u Q I rx ry ⟨dx,dy,hd,Qd,r1,r2',rh,z,p⟩
theorem Ww (hu:X.A.units+64<cLine):OpQ X (B1 .Eq) eqE:=oq_eq.or' (OA hu) λx y h Q q=>by
 unfold eqE at q;split at q
 ·exact .inl q
 ·exact .inl q
 ·exact .inl q
 ·exact .inr q
theorem Qy (hu:X.A.units+64<cLine):OpQ X (B1 .NotEq) neE:=oq_ne.or' (OB hu) λx y h Q q=>by
 unfold neE at q;split at q
 ·exact .inl q
 ·exact .inl q
 ·exact .inl q
 ·exact .inr q
def isN:D->N4
 | .non=>true
 |_=>false
def isV (neg:N4):RD2:=λx y h Q=>match y with
 | .non=>Q (.bl (neg !=isN x)) h
 | .bl c=>match x with
  | .bl b=>Q (.bl (neg !=(b==c))) h
  | .non=>Q (.bl neg) h
  |_=>False
 |_=>False
theorem Cc {K:G2}{H:Hp}{d:D}{v:V}(r:RelD K H d v):decide (v=V.non)=isN d:=by
 cases d with
 |non=>cases (show v= .non from r);rfl
 |bl b=>cases (show v= .bl b from r);rfl
 |int b=>cases (show v= .int b from r);rfl
 |str b=>cases (show v= .str b from r);rfl
 |tup ds=>obtain⟨a,vs,e,_⟩:=(show ∃a vs,v= .ref a/\H a=some (.tup vs)/\RelDs K H ds vs from r);subst e;rfl
 |lst a=>cases (show v= .ref a from r.1);rfl
 |dic x i=>obtain⟨a,e,_⟩:=(show ∃a,v= .ref a/\H a=some (.dK [(aO x,V.int i)]) from r);subst e;rfl
 |dct a=>cases (show v= .ref a from r);rfl
 |scr ns=>obtain⟨a,e,_⟩:=(show ∃a,v= .ref a/\Scr K H a ns from r);subst e;rfl
 |exc C=>obtain⟨x,o,vs,e,_⟩:=(show ∃x o vs,v= .ref x/\H x=some (.frz o (.own 0))/\o.cls= .ref C/\o.data= .fields vs from r);subst e;rfl
 |fn a=>cases (show v= .ref a from r.1);rfl
theorem Cd:OpQ X (B1 .Is) (isV false):=by
 intro pins s σ H x y v u Q I rx ry h;obtain⟨dx,dy,h,Qd,r1,r2,rh,q,post⟩:=h;cases dy with
 |non=>
  have e:y= .non:=r2;subst e;refine Le pins s σ H x .non v u Q I rx ry ⟨rfl,?_⟩;rw [Cc r1];have q':Qd (.bl (isN dx)) h:=by simpa [isV] using q
  exact post (.bl _) _ _ _ (.refl H) rh rfl q'
 |bl c=>
  have e:y= .bl c:=r2;subst e;cases (show u= .bool c from ry);cases dx<;>first
   |exact False.elim q
   |skip
  ·have e:x= .non:=r1;subst e;cases (show v= .none from rx);exact qB (by rfl) ⟨.bl false,H,I,rfl,post (.bl false) _ _ _ (.refl H) rh rfl q⟩
  ·rename_i b;have e:x= .bl b:=r1;subst e;cases (show v= .bool b from rx);have eb:(aR b==aR c)=(b==c):=by cases b<;>cases c<;>rfl
   refine qB (by rfl) ⟨.bl (b==c),H,I,by rw [eb];rfl,post (.bl (b==c)) _ _ _ (.refl H) rh rfl ?_⟩;simpa [isV] using q
 |_=>exact False.elim q
end
end L2
namespace HT
open PySem PySem.Spec PyProof.Rows
section
variable {prog:S0}{w:N8}{A:T8}{E:G1->G3->Prop}{s:G3}
theorem Dk (k:P0){vs:G0 G1}{ns:G0 P0}(hi:V9 vs ns)(j:G8)(h:j<ns.length): ∃t,vs[j]? =some (.int ns[j] t):=by
 induction hi generalizing j with
 |nil=>simp at h
 |cons n t r ih=>
  cases j with
  |zero=>exact⟨t,rfl⟩
  |succ j=>obtain⟨u,e⟩:=ih j (by simpa using h);exact⟨u,by simpa using e⟩
end
end HT
namespace L2
open PySem PySem.Spec PyProof.Rows
theorem Wx: ∀ {ns:G0 P0} {us:G0 G1},Vals (ns.map V.int) us->V9 us ns
 | [],_,r=>by cases r;exact .nil
 |n::ns,_,r=>by
  cases r with
  |cons r t=>obtain⟨k,rfl⟩:=r;exact .cons n k (Wx t)
theorem zN {K:G2}{H:Hp}: ∀ {ns:G0 P0} {vs:G0 V},RelDs K H (ns.map D.int) vs->vs=ns.map V.int
 | [],_,h=>h
 |n::ns,vs,h=>by
  obtain⟨v,r,e,h1,h2⟩:=(show ∃v r,vs=v::r/\RelD K H (.int n) v/\RelDs K H (ns.map D.int) r from h);rw [e,zN h2,(show v= .int n from h1)];rfl
theorem YO (ns:G0 P0): ∀k,k<=ns.length->tN (λi=>ns.getD i 0) k=(ns.take k).sum
 |0,_=>by simp [tN]
 |k+1,h=>by
  have hk:k<ns.length:=by omega
  rw [tN,YO ns k (by omega),F9,G5 hk,pB,T7,G5 hk];simp
variable {X:Cx}
theorem Vt (hc:X.calm=true):CallR X (.builtin "sum") (λxs H Q=> ∃ (a:G9) (ns:G0 P0),xs= [.ref a]/\SqL X.K H a (ns.map V.int)/\Q (.int ns.sum) H):=by
 intro pins s σ H xs us Q I r h;obtain⟨a,ns,rfl,hS,q⟩:=h;obtain⟨u,rfl,ru⟩:=Jp r;cases ru;obtain⟨its,rv,pl,hz⟩:=I.list hS;have hl:=pl.isList;have hlt:a<s.heap.objs.size:=by obtain⟨_,e,_⟩:=hl;exact D8 e
 have hi:=Wx rv;have hn:its.length=ns.length:=hi.length;refine call_sum_walkAnyS (V8 hl ?_);refine⟨s.heap.objs.size,_,_,_,_,_,_,λi=>ns.getD i 0,rfl,(kH (A:=X.A.in1) (show X.A.in1.handled=none from I.ok.hd hc) s.heap.objs.size a (T5 hlt) its.toArray).toS,⟨⟨_,R8 _ rfl,rfl,rfl⟩,hl.push _⟩,?_,?_,λs' t' hm=> ?_⟩
 ·intro b hb;simp only [D2,T9,or_false] at hb;show b<(s.heap.push _).objs.size;rw [aU];rcases hb with e|e
  ·rw [e];exact U5 _
  ·rw [e];exact dD hlt
 ·intro i v hP;have e:its[i]? =some v:=by simpa using hP
  have hil:i<ns.length:=by rw [<-hn];exact(P9.mp e).1
  obtain⟨t,e2⟩:=HT.Dk 0 hi i hil;rw [e] at e2;cases e2;refine⟨t,?_⟩;show aX ns[i] t=aX (ns.getD i 0) t;rw [T7,G5 hil];rfl
 ·have e:tN (λi=>ns.getD i 0) its.toArray.size=ns.sum:=by
   rw [D6,hn,YO ns _ (P4 _),dP]
  rw [e];obtain⟨h',g',d',tk',o'⟩:=s';obtain⟨m1,m2,m3,m4,_⟩:=hm;simp only at m1 m2 m3 m4;subst m2 m3 m4;refine⟨.int ns.sum,H,I.kept (t':=tk') (λb o e=>m1 b o (λz=> ?_) (G6 _ e)),⟨_,rfl⟩,q⟩;rw [P3.mp z] at e;exact absurd (D8 e) (L0 _)
def EK:RDn:=λds h Q=> ∃ (a:G9) (ns:G0 P0),ds= [.lst a]/\h a=some (ns.map D.int)/\Q (.int ns.sum) (vH h a)
theorem Ce (hc:X.calm=true):ye X (.builtin "sum") EK:=(Vt hc).imp λxs H Q ⟨ds,h,Qd,r,rh,⟨a,ns,e,hd,q⟩,p⟩=>by
 subst e;obtain⟨v,e,r1⟩:=jB r;obtain⟨vs,hH,r2⟩:=rh a _ hd;have e1:v= .ref a:=r1.1;rw [zN r2] at hH;subst e e1;exact⟨a,ns,rfl,SqL.of hH,p (.int _) _ _ _ (.refl H) (rh.sub (Sub.drop h a)) rfl q⟩
structure JE (X:Cx)(e:T1)(t:TED):Prop where
 to:QE X e t
structure JT (X:Cx)(e:T1)(t:TTD):Prop where
 to:QT X e t
structure JW (X:Cx)(e:T1)(t:TTD):Prop where
 to:QW X e t
structure JA (X:Cx)(e:G0 T1)(t:TAD):Prop where
 to:QA X e t
structure JS (X:Cx)(e:O3)(t:TSD):Prop where
 to:QS X e t
structure JSs (X:Cx)(e:G0 O3)(t:TSD):Prop where
 to:QSs X e t
structure JG (X:Cx)(e:T1)(t:TGD):Prop where
 to:QG X e t
structure JI (X:Cx)(tg e:T1)(t:TID):Prop where
 to:QI X tg e t
structure JO (X:Cx)(e:P8 T1)(t:TOD):Prop where
 to:QO X e t
section
variable {X:Cx}{a b c e:T1}{es rest:G0 T1}{ta tb tc te:TED}{t u:TAD}{tt tu:TTD}{pos:Pos}{f r r':RD2}
theorem jv (i:G8){x:Str}(hN:X.N[i]? =some x:=by rfl)(hv:Vis X.env.scope x:=by first|exact A2 rfl|exact V3 (A2 rfl)|exact V3 (V3 rfl))(hd:(x==("__debug__" :Str))=false:=by decide)(hcd:(x==("__classdict__" :Str))=false:=by decide):JE X (.Name x pos) (Gt i):=⟨qv (i:=i) (hN:=hN) (hv:=hv) (hd:=hd) (hcd:=hcd)⟩
variable {j:G8}
theorem jl {i:P0}:JE X (.Constant (.int i) j pos) (dC (.int i)):=⟨Ef⟩
theorem jbl {i:N4}:JE X (.Constant (.bool i) j pos) (dC (.bl i)):=⟨qbl⟩
theorem Gy:JE X (.Constant .none j pos) (dC .non):=⟨Ti⟩
theorem Wy {x:Str}:JE X (.Constant (.str x) j pos) (dC (.str x)):=⟨Tj⟩
theorem EL {x:Str}{i:P0}{tk:Tok}(hg:Gl X x)(hm:X.mg x=some (.int i tk))(hd:(x==("__debug__" :Str))=false:=by decide):JE X (.Name x pos) (dC (.int i)):=⟨Eg (hg:=hg) (hm:=hm) (hd:=hd)⟩
theorem jop {op:sG}(ho:OpQ X (J0 op) f)(ha:JE X a ta)(hb:JE X b tb):JE X (.BinOp a op b pos) (dOp f ta tb):=⟨qop (ho:=ho) (ha:=ha.to) (hb:=hb.to)⟩
theorem OC {op:iB}(ho:OpQ X (B1 op) f)(ha:JE X a ta)(hb:JE X b tb)(hm:U8 op b=false):JE X (.Compare a [op] [b] pos) (dOp f ta tb):=⟨Tk (ho:=ho) (ha:=ha.to) (hb:=hb.to) (hm:=hm)⟩
theorem XD {op:iB}(ho:OpQ X (B1 op) f)(ha:JE X a ta)(hb:JE X b tb)(hm:U8 op b=false):JT X (.Compare a [op] [b] pos) (ZL (dOp f ta tb)):=⟨Eh (ho:=ho) (ha:=ha.to) (hb:=hb.to) (hm:=hm)⟩
theorem Nz {op op':iB}(ho:OpQ X (B1 op) r)(ho':OpQ X (B1 op') r')(ha:JE X a ta)(hb:JE X b tb)(hc:JE X c tc)(hm:iU [op,op'] [b,c]=false:=by with_unfolding_all rfl):JE X (.Compare a [op,op'] [b,c] pos) (Wu r r' ta tb tc):=⟨LK (ho:=ho) (ho':=ho') (ha:=ha.to) (hb:=hb.to) (hc:=hc.to) (hm:=hm)⟩
theorem XE {op op':iB}(ho:OpQ X (B1 op) r)(ho':OpQ X (B1 op') r')(ha:JE X a ta)(hb:JE X b tb)(hc:JE X c tc)(hm:iU [op,op'] [b,c]=false:=by with_unfolding_all rfl):JT X (.Compare a [op,op'] [b,c] pos) (ZL (Wu r r' ta tb tc)):=⟨Bz (ho:=ho) (ho':=ho') (ha:=ha.to) (hb:=hb.to) (hc:=hc.to) (hm:=hm)⟩
theorem zh (ha:JE X a ta)(he: ∀whole,isTrue a X.env whole=(do let v <-whole;i8 a.pos;bW [v] (sU v)):=by intro _;rfl):JT X a (ZL ta):=⟨Ei (ha:=ha.to) (he:=he)⟩
theorem OD (ha:JT X a tt):JW X (.BoolOp .And [a] pos) tt:=⟨Ej (ha:=ha.to)⟩
theorem Yq (ha:JT X a tt):JW X (.BoolOp .Or [a] pos) tt:=⟨Tl (ha:=ha.to)⟩
theorem Mg (ha:JT X a tt)(hb:JW X (.BoolOp .And (b::rest) pos) tu):JW X (.BoolOp .And (a::b::rest) pos) (Bw tt tu):=⟨Ek (ha:=ha.to) (hb:=hb.to)⟩
theorem Za (ha:JT X a tt)(hb:JW X (.BoolOp .Or (b::rest) pos) tu):JW X (.BoolOp .Or (a::b::rest) pos) (Lu tt tu):=⟨Tn (ha:=ha.to) (hb:=hb.to)⟩
theorem zm (ha:JT X a tt):JT X (.UnaryOp .Not a pos) (PP tt):=⟨El (ha:=ha.to)⟩
theorem Ui {op:BoolOp}(ha:JE X a ta):JE X (.BoolOp op [a] pos) ta:=⟨To (ha:=ha.to)⟩
theorem Vu (ha:JE X a ta)(hb:JE X (.BoolOp .And (b::rest) pos) tb):JE X (.BoolOp .And (a::b::rest) pos) (PQ ta tb):=⟨Tp (ha:=ha.to) (hb:=hb.to)⟩
theorem jor (ha:JE X a ta)(hb:JE X (.BoolOp .Or (b::rest) pos) tb):JE X (.BoolOp .Or (a::b::rest) pos) (Eb ta tb):=⟨qor (ha:=ha.to) (hb:=hb.to)⟩
theorem SJ (ha:JE X a ta):JE X (.UnaryOp .Not a pos) (PR ta):=⟨Tq (ha:=ha.to)⟩
theorem jif {c:T1}(hc:JT X c tt)(ha:JE X a ta)(hb:JE X b tb):JE X (.IfExp c a b pos) (dIf tt ta tb):=⟨qif (hc:=hc.to) (ha:=ha.to) (hb:=hb.to)⟩
theorem jS:JA X [] ZK:=⟨LM⟩
theorem jX {k:G8}(h:JA X es t):JE X (.Tuple es k pos) (Ft t):=⟨Tr (h:=h.to)⟩
theorem yh (h:JA X es t):JE X (.List es pos) (Bv t):=⟨Ts (h:=h.to)⟩
end
section
variable {X:Cx}{st:O3}{sts:G0 O3}{t u:TSD}{e:T1}{te:TED}{pos:Pos}
theorem YQ:JSs X [] Xx:=⟨LX⟩
theorem jE (h1:JS X st t)(h2:JSs X sts u):JSs X (st::sts) (yX t u):=⟨BH (h1:=h1.to) (h2:=h2.to)⟩
theorem jD (h1:JS X st t):JSs X [st] t:=⟨LY (h1:=h1.to)⟩
theorem Vv (he:JE X e te)(hs:Z0 e none pos.line X.env=pure false:=by rfl):JS X (.Expr e pos) (BC te):=⟨Ep (he:=he.to) (hs:=hs)⟩
theorem zf (he:JE X e te):JS X (.Return (some e) pos) (Gu te):=⟨Tt (he:=he.to)⟩
theorem Fz {c:T1}{a b:G0 O3}{tc:TTD}(hc:JT X c tc)(ha:JSs X a t)(hb:JSs X b u):JS X (.If c a b pos) (BD tc t u):=⟨Tu (hc:=hc.to) (ha:=ha.to) (hb:=hb.to)⟩
variable {i:G8}{x:Str}
theorem SK {pos':Pos}(hN:X.N.Nodup)(hi:X.N[i]? =some x)(hx:Loc X.env.scope x)(he:JE X e te)(hs:Z0 e (some (.Name x pos')) pos.line X.env=pure false:=by rfl)(hf:X.fn x=true\/X.env.scope.names.lookup x=some .local:=by first|exact .inl rfl|exact .inr rfl|assumption):JS X (.Assign [.Name x pos'] e pos) (RY i te):=⟨Tv (hN:=hN) (hi:=hi) (hx:=hx) (he:=he.to) (hs:=hs) (hf:=hf)⟩
theorem Cf (hN:X.N.Nodup)(hi:X.N[i]? =some x)(hx:Loc X.env.scope x)(hf:X.fn x=true\/X.env.scope.names.lookup x=some .local:=by first|exact .inl rfl|exact .inr rfl|assumption):JG X (.Name x pos) (gN i):=⟨BI (hN:=hN) (hi:=hi) (hx:=hx) (hf:=hf)⟩
theorem Qz {j:G8}{y:Str}{p1 p2:Pos}{k:G8}(hc:X.calm=true)(hN:X.N.Nodup)(hi:X.N[i]? =some x)(hj:X.N[j]? =some y)(hx:Loc X.env.scope x)(hy:Loc X.env.scope y)(hf:X.fn x=true\/X.env.scope.names.lookup x=some .local:=by first|exact .inl rfl|exact .inr rfl|assumption)(hf2:X.fn y=true\/X.env.scope.names.lookup y=some .local:=by first|exact .inl rfl|exact .inr rfl|assumption):JG X (.Tuple [.Name x p1,.Name y p2] k pos) (gT2 i j):=⟨LZ (hc:=hc) (hN:=hN) (hi:=hi) (hj:=hj) (hx:=hx) (hy:=hy) (hf:=hf) (hf2:=hf2)⟩
theorem FA {tg:T1}{g:TGD}(he:JE X e te)(hg:JG X tg g)(hs:bO [tg] e pos.line X.env=pure false:=by rfl)(hsw:bP [tg] e X.env=pure none:=by rfl)(h1:(cE [tg] X.env).map (·.2)= [eJ tg X.env]:=by rfl):JS X (.Assign [tg] e pos) (Em te g):=⟨Tw (he:=he.to) (hg:=hg.to) (hs:=hs) (hsw:=hsw) (h1:=h1)⟩
theorem TH {j:G8}{y:Str}{a b:T1}{ta:TAD}{px py pt:Pos}{kt k2 pt2}(hc:X.calm=true)(hN:X.N.Nodup)(hi:X.N[i]? =some x)(hj:X.N[j]? =some y)(hij:i≠j)(hx:X.env.scope.names.lookup x=some .local)(hy:X.env.scope.names.lookup y=some .local)(ha:JA X [a,b] ta)(hw:bP [.Tuple [.Name x px,.Name y py] kt pt] (.Tuple [a,b] k2 pt2) X.env=pure (some [x,y]))(hs:bO [.Tuple [.Name x px,.Name y py] kt pt] (.Tuple [a,b] k2 pt2) pos.line X.env=pure false:=by rfl):JS X (.Assign [.Tuple [.Name x px,.Name y py] kt pt] (.Tuple [a,b] k2 pt2) pos) (En i j ta):=⟨Tx (hc:=hc) (hN:=hN) (hi:=hi) (hj:=hj) (hij:=hij) (hx:=hx) (hy:=hy) (ha:=ha.to) (hw:=hw) (hs:=hs)⟩
end
section
variable {X:Cx}{tg e iter elt:T1}{te:TED}{ti:TID}{g:TGD}{tb:TSD}{tt:TTD}{pos:Pos}{ta:TAD}{scope:A8}{js:G0 G8}{ifs:G0 T1}
theorem Vw (he:JE X e te):JI X tg e (iL te):=⟨BN (he:=he.to)⟩
theorem EM {p:Pos}{a:T1}(hg:Gl X "range")(hm:X.mg "range" =none)(ha:JA X [a] ta)(hs:D7 [a] X.env= [(false,A7 a X.env)]:=by rfl):JI X tg (.Call (.Name "range" p) [a] [] pos) (iR1 ta):=⟨Et (hg:=hg) (hm:=hm) (ha:=ha.to) (hs:=hs)⟩
theorem YR {body:G0 O3}(hp:rD (S4 X.prog X.w) X.A X.env X.xe)(hc:X.calm=true)(hi:JI X tg iter ti)(hg:JG X tg g)(hb:JSs X body tb)(hs: ∀x,M8 iter X.env x=pure x:=by intro _;rfl):JS X (.For tg iter body [] pos) (Fu ti g tb):=⟨Ty (hp:=hp) (hc:=hc) (hi:=hi.to) (hg:=hg.to) (hb:=hb.to) (hs:=hs)⟩
theorem yB:PTs X [] (LT X.K vI):=BO
theorem XF {c:T1}(hc:JT X c tt):PTs X [c] (LT X.K tt):=BP (hc:=hc.to)
theorem jlc {i:G8}{x:Str}{p:Pos}(hc:X.calm=true)(S:BlockOk X scope js)(hi:JI X (.Name x p) iter ti)(hj:i∈js)(hN:X.N.Nodup)(hx:X.N[i]? =some x)(hl:scope.names.lookup x=some .local\/scope.names.lookup x=some .cell)(ht: ∀X',jt X scope X'->PTs X' ifs (LT X'.K tt))(he: ∀X',jt X scope X'->JE X' elt te)(hs: ∀x,M8 iter X.env x=pure x:=by intro _;rfl):JE X (.ListComp elt [⟨.Name x p,iter,ifs,0⟩] scope pos) (Jm (bN i) js ti tt te):=⟨qlc (hc:=hc) (S:=S) (hi:=hi.to) (hj:=hj) (hN:=hN) (hx:=hx) (hl:=hl) (ht:=ht) (he:=λX' hX=>(he X' hX).to) (hs:=hs)⟩
theorem OE {i j:G8}{x y:Str}{p1 p2 p3:Pos}{k:G8}(hc:X.calm=true)(S:BlockOk X scope js)(hi:JI X (.Tuple [.Name x p1,.Name y p2] k p3) iter ti)(hj:i∈js)(hj2:j∈js)(hij:i≠j)(hN:X.N.Nodup)(hx:X.N[i]? =some x)(hy:X.N[j]? =some y)(hl:scope.names.lookup x=some .local\/scope.names.lookup x=some .cell)(hl2:scope.names.lookup y=some .local\/scope.names.lookup y=some .cell)(ht: ∀X',jt X scope X'->PTs X' ifs (LT X'.K tt))(he: ∀X',jt X scope X'->JE X' elt te)(hs: ∀x,M8 iter X.env x=pure x:=by intro _;rfl):JE X (.ListComp elt [⟨.Tuple [.Name x p1,.Name y p2] k p3,iter,ifs,0⟩] scope pos) (Jm (b2 i j) js ti tt te):=⟨Tz (hc:=hc) (S:=S) (hi:=hi.to) (hj:=hj) (hj2:=hj2) (hij:=hij) (hN:=hN) (hx:=hx) (hy:=hy) (hl:=hl) (hl2:=hl2) (ht:=ht) (he:=λX' hX=>(he X' hX).to) (hs:=hs)⟩
end
section
variable {X:Cx}{k:G8}{f:G9}{fd:S1}{ps:G0 Str}{spd:RDn}{x:Str}{p pos:Pos}{e:T1}{es:G0 T1}{t:TAD}
theorem EN (F:FnOk X.prog X.w X.K X.mg X.base CX0 k f fd ps (LSp X.K spd))(hr:Room k X.A)(hg:Gl X x)(hm:X.mg x=some (.ref f))(hk:E6 X.K (.ref f)=true)(hb:Binds X.K fd ps [])(ha:JA X (e::es) t)(hdb:(x==("__debug__" :Str))=false:=by decide)(he:D7 (e::es) X.env=(false,A7 e X.env)::D7 es X.env:=by rfl)(hpl:(K0 pos (D7 es X.env)).any (·.1)=false:=by rfl):JE X (.Call (.Name x p) (e::es) [] pos) (dCB spd t):=⟨Eu (F:=F) (hr:=hr) (hg:=hg) (hm:=hm) (hk:=hk) (hb:=hb) (ha:=ha.to) (hdb:=hdb) (he:=he) (hpl:=hpl)⟩
theorem jR {id:Q4}{r:RDn}(hc:ye X (.builtin id) r)(hg:Gl X x)(hm:X.mg x=none)(hv:J9 x=some (.builtin id))(ha:JA X (e::es) t)(hn:x≠ "__name__" :=by decide)(hdb:(x==("__debug__" :Str))=false:=by decide)(he:D7 (e::es) X.env=(false,A7 e X.env)::D7 es X.env:=by rfl)(hpl:(K0 pos (D7 es X.env)).any (·.1)=false:=by rfl):JE X (.Call (.Name x p) (e::es) [] pos) (dCB r t):=⟨Od (hc:=hc) (hg:=hg) (hm:=hm) (hv:=hv) (ha:=ha.to) (hn:=hn) (hdb:=hdb) (he:=he) (hpl:=hpl)⟩
theorem zb {T:Q4}{r:RDn}(hc:ye X (.type T) r)(hg:Gl X x)(hm:X.mg x=none)(hv:J9 x=some (.type T))(ha:JA X (e::es) t)(hn:x≠ "__name__" :=by decide)(hdb:(x==("__debug__" :Str))=false:=by decide)(he:D7 (e::es) X.env=(false,A7 e X.env)::D7 es X.env:=by rfl)(hpl:(K0 pos (D7 es X.env)).any (·.1)=false:=by rfl):JE X (.Call (.Name x p) (e::es) [] pos) (dCB r t):=⟨BQ (hc:=hc) (hg:=hg) (hm:=hm) (hv:=hv) (ha:=ha.to) (hn:=hn) (hdb:=hdb) (he:=he) (hpl:=hpl)⟩
end
section
variable {X:Cx}{iter elt:T1}{te:TED}{ti:TID}{tt:TTD}{pos spos:Pos}{scope:A8}{js:G0 G8}{ifs:G0 T1}
theorem Dl {i k:G8}{x y:Str}{p py:Pos}(hc:X.calm=true)(hN:X.N.Nodup)(hk:X.N[k]? =some y)(hy:Loc X.env.scope y)(S:BlockOk X scope js)(hi:JI X (.Name x p) iter ti)(hj:i∈js)(hx:X.N[i]? =some x)(hl:scope.names.lookup x=some .local\/scope.names.lookup x=some .cell)(ht: ∀X',jt X scope X'->PTs X' ifs (LT X'.K tt))(he: ∀X',jt X scope X'->JE X' elt te)(hsw:Z0 (.ListComp elt [⟨.Name x p,iter,ifs,0⟩] scope pos) (some (.Name y py)) spos.line X.env=pure true:=by rfl)(hf:X.fn y=true\/X.env.scope.names.lookup y=some .local:=by first|exact .inl rfl|exact .inr rfl|assumption)(hs: ∀x,M8 iter X.env x=pure x:=by intro _;rfl):JS X (.Assign [.Name y py] (.ListComp elt [⟨.Name x p,iter,ifs,0⟩] scope pos) spos) (RY k (Jm (bN i) js ti tt te)):=⟨Oe (hc:=hc) (hN:=hN) (hk:=hk) (hy:=hy) (S:=S) (hi:=hi.to) (hj:=hj) (hx:=hx) (hl:=hl) (ht:=ht) (he:=λX' hX=>(he X' hX).to) (hsw:=hsw) (hf:=hf) (hs:=hs)⟩
end
section
variable {X:Cx}{a b e:T1}{ta tb te:TED}{pos p2:Pos}
theorem jix (ha:JE X a ta)(hb:JE X b tb)(hs:Vi b):JE X (.Subscript a b pos) (dOp ixD ta tb):=⟨qix (ha:=ha.to) (hb:=hb.to) (hs:=hs)⟩
end
variable {pos:Pos}
theorem yi {a:T1}{ta:TED}{T:Q4}{t:Str}{p p2:Pos}(hT:T∈ ["tuple","int","bool","list","str"])(hg:Gl X "isinstance")(hm:X.mg "isinstance" =none)(hg2:Gl X t)(hm2:X.mg t=none)(hv:J9 t=some (.type T))(ha:JE X a ta)(hn:t≠ "__name__" :=by decide)(hd:(t==("__debug__" :Str))=false:=by decide)(h1:D7 [a,.Name t p2] X.env=(false,A7 a X.env)::D7 [.Name t p2] X.env:=by rfl)(h2:(K0 pos (D7 [.Name t p2] X.env)).any (·.1)=false:=by rfl):JE X (.Call (.Name "isinstance" p) [a,.Name t p2] [] pos) (dIs T ta):=⟨ED (hT:=hT) (hg:=hg) (hm:=hm) (hg2:=hg2) (hm2:=hm2) (hv:=hv) (ha:=ha.to) (hn:=hn) (hd:=hd) (h1:=h1) (h2:=h2)⟩
section
variable {X:Cx}{o e i:T1}{to te ti:TED}{apos cpos pos:Pos}
theorem NA (ho:JE X o to)(he:JE X e te)(hbase:bR o "append" X.env (A7 o X.env)=A7 o X.env:=by rfl)(hfew:((K0 cpos (D7 [e] X.env)).all (λx=> !x.1)&&(lE cpos (dX [] X.env)).all (λx=>x.1.isSome)&&decide ([e].length+([]:G0 cY).length+(if ([]:G0 cY).isEmpty then 0 else 1)<30))=true:=by rfl)(hline:(apos.endLine==cpos.line)=true:=by rfl)(hs:D7 [e] X.env=(false,A7 e X.env)::D7 [] X.env:=by rfl)(hplain:(K0 cpos (D7 [] X.env)).any (·.1)=false:=by rfl):JE X (.Call (.Attribute o "append" apos) [e] [] cpos) (SH to te):=⟨TC (ho:=ho.to) (he:=he.to) (hbase:=hbase) (hfew:=hfew) (hline:=hline) (hs:=hs) (hplain:=hplain)⟩
theorem NB (ho:JE X o to)(hi:JE X i ti)(ha: ∀v,eJ (.Subscript o i pos) X.env v=(do
 let ov <-bW [v] (A7 o X.env)
 let iv <-bW [v,ov] (A7 i X.env)
 i8 pos
 bW [v,ov,iv] (rK ov iv v)
 tZ [v,ov,iv] []):=by intro _;rfl):JG X (.Subscript o i pos) (On to ti):=⟨Oo (ho:=ho.to) (hi:=hi.to) (ha:=ha)⟩
end
theorem jpt {e:T1}{t:TTD}(h:JW X e t):JT X e t:=⟨qpt (h:=h.to)⟩
theorem zY:JO X none Dg:=⟨BX⟩
variable {te:TED}
theorem zP {e:T1}(he:JE X e te):JO X (some e) (Op te):=⟨BY (he:=he.to)⟩
theorem yj {e:T1}{lo hi:P8 T1}{tl th:TOD}{p2:Pos}(he:JE X e te)(hl:JO X lo tl)(hu:JO X hi th):JE X (.Subscript e (.Slice lo hi none p2) pos) (dSl te tl th):=⟨Oq (he:=he.to) (hl:=hl.to) (hu:=hu.to)⟩
theorem QB {a:T1}{ta:TED}(ha:JE X a ta):JE X (.UnaryOp .USub a pos) (dUn Fy ta):=⟨EI (ha:=ha.to)⟩
theorem TJ {e:T1}{p2 p3 p4:Pos}{j:G8}(he:JE X e te):JE X (.Subscript e (.Slice none none (some (.UnaryOp .USub (.Constant (.int 1) j p4) p3)) p2) pos) (SI te):=⟨TF (he:=he.to)⟩
theorem NC {ks:G0 (P8 T1)}{vs:G0 T1}{x:Str}{i:P0}(h:XB ks vs=some (x,i):=by rfl):JE X (.Dict ks vs pos) (Ux x i):=⟨Ot (h:=h)⟩
theorem zJ {tg e:T1}(he:JE X e te):JI X tg e (iS te):=⟨Ox (he:=he.to)⟩
theorem Dm {st:O3}:JS X st Ny:=⟨Oy⟩
theorem jac {e:T1}{es:G0 T1}{t:TAD}(ha:JE X e te)(hr:JA X es t)(h:zF e=true:=by rfl):JA X (e::es) (zr te t):=⟨qac (ha:=ha.to) (hr:=hr.to) (h:=h)⟩
section
variable {P:S0}{w:N8}{K:G2}{mg:Str->P8 G1}{base:N9}
theorem Fun.okJ {x qual:Str}{st:O3}{f:G9}{fd:S1}{N ps:G0 Str}{k:G8}{spd:RDn}(F:Fun K x qual st f fd)(S:FnScope N ps (jd st))(len: ∀ds h Q,spd ds h Q->ds.length=ps.length)
 (tb:TSD)(hbody: ∀ (cdv:G1) (A:T8) (outer:G0 Env) (s:G3) (H:Hp) (E:XK),Room k (A.deeper (E8 qual (jd st) s.heap.objs.size f cdv))->JSs (Yn CX0 P w K mg base N qual (jd st) f cdv A outer s H E).nox (jW st) tb)
 (read: ∀ds h Q,spd ds h Q->tb (Uh Q) (ze N ds) h):FnOk P w K mg base CX0 (k+1) f fd ps (LSp K spd):=F.okD S len tb (λcdv A outer s H E hr=>(hbody cdv A outer s H E hr).to) read
end
def Jn (r:G0 P0):D:= .tup (r.map D.int)
def jA (T:G0 (G0 P0)):D:= .tup (T.map Jn)
def XG (n:G8)(r:G0 P0):Prop:=r.length=n/\ ∀x∈r,0<=x/\x<=1000000
def GoodTab (n:G8)(T:G0 (G0 P0)):Prop:=T.length=n/\ ∀r∈T,XG n r
structure Sq (n e:G8)(T:G0 (G0 P0)):Prop where
 len:T.length=n
 row: ∀r∈T,r.length=n
 nn: ∀r∈T,∀x∈r,0<=x
 bit: ∀r∈T,∀x∈r,x<2^e
variable {n:G8}{T:G0 (G0 P0)}
theorem GoodTab.sq (g:GoodTab n T):Sq n 20 T:=⟨g.1,λr hr=>(g.2 r hr).1,λr hr x hx=>((g.2 r hr).2 x hx).1,λr hr x hx=>cJ ((g.2 r hr).2 x hx).2 (by decide)⟩
variable {e f:G8}
theorem Sq.mono (h:Sq n e T)(l:e<=f):Sq n f T:=⟨h.len,h.row,h.nn,λr hr x hx=>mS (h.bit r hr x hx) (by
 have:(2:G8)^e<=2^f:=aV (by decide) l;have h2:((2^e:G8):P0)<=((2^f:G8):P0):=by exact_mod_cast this
 simpa using h2)⟩
def ent (T:G0 (G0 P0))(i j:G8):P0:=(T.getD i []).getD j 0
def mkT (n:G8)(f:G8->G8->P0):G0 (G0 P0):=(R6 n).map λi=>(R6 n).map λj=>f i j
theorem Wz {i j:G8}{f:G8->G8->P0}(hi:i<n)(hj:j<n):ent (mkT n f) i j=f i j:=by
 unfold ent mkT;simp [T7,hi,hj]
theorem yC {α:Type}(xs:G0 α)(d:α):xs=(R6 xs.length).map λi=>xs.getD i d:=by
 apply List.ext_getElem (by simp);intro i h1 h2;simp [T7,h1]
theorem Sq.eq_mk (h:Sq n e T):T=mkT n (ent T):=by
 have h1:=yC T [];rw [h.len] at h1;unfold mkT
 conv=>lhs;rw [h1]
 apply B7;intro i hi;have hi':i<T.length:=by rw [h.len];exact S9.mp hi
 have hr:(T.getD i []).length=n:=by
  rw [T7,G5 hi'];exact h.row _ (B6 hi')
 have h2:=yC (T.getD i []) 0;rw [hr] at h2;exact h2
theorem QC {f g:G8->G8->P0}(h: ∀i j,i<n->j<n->f i j=g i j):mkT n f=mkT n g:=by
 unfold mkT;apply B7;intro i hi;apply B7;intro j hj;exact h i j (S9.mp hi) (S9.mp hj)
theorem Sq.of_mk {f:G8->G8->P0}(h0: ∀i j,i<n->j<n->0<=f i j)(h1: ∀i j,i<n->j<n->f i j<2^e):Sq n e (mkT n f):=by
 have key: ∀r∈mkT n f,∃i,i<n/\r=(R6 n).map λj=>f i j:=λr hr=>by
  obtain⟨i,hi,e⟩:=N6.mp hr;exact⟨i,S9.mp hi,e.symm⟩
 refine⟨by simp [mkT],λr hr=> ?_,λr hr x hx=> ?_,λr hr x hx=> ?_⟩
 ·obtain⟨i,_,e⟩:=key r hr;rw [e];simp
 ·obtain⟨i,hi,e⟩:=key r hr;rw [e] at hx;obtain⟨j,hj,e2⟩:=N6.mp hx;rw [<-e2];exact h0 i j hi (S9.mp hj)
 ·obtain⟨i,hi,e⟩:=key r hr;rw [e] at hx;obtain⟨j,hj,e2⟩:=N6.mp hx;rw [<-e2];exact h1 i j hi (S9.mp hj)
theorem Sq.ent_nn (h:Sq n e T){i j:G8}(hi:i<n)(hj:j<n):0<=ent T i j/\ent T i j<2^e:=by
 have hi':i<T.length:=by rw [h.len];exact hi
 have hr:T.getD i []=T[i]:=by rw [T7,G5 hi'];rfl
 have hm:T[i]∈T:=B6 hi';have hj':j<T[i].length:=by rw [h.row _ hm];exact hj
 have he:ent T i j=T[i][j]:=by unfold ent;rw [hr,T7,G5 hj'];rfl
 rw [he];exact⟨h.nn _ hm _ (B6 hj'),h.bit _ hm _ (B6 hj')⟩
variable {U:G0 (G0 P0)}
theorem Sq.ext (h:Sq n e T)(g:Sq n f U)(k: ∀i j,i<n->j<n->ent T i j=ent U i j):T=U:=by
 rw [h.eq_mk,g.eq_mk];exact QC k
def zg (n:G8)(f:G8->P0):P0:=((R6 n).map f).sum
theorem yk (f:G8->P0):zg 0 f=0:=rfl
theorem jN (n:G8)(f:G8->P0):zg (n+1) f=zg n f+f n:=by
 unfold zg;rw [eQ,J8,pB];simp
theorem zG {f g:G8->P0}(h: ∀k,k<n->f k=g k):zg n f=zg n g:=by
 unfold zg;congr 1;apply B7;intro k hk;exact h k (S9.mp hk)
theorem Vx {f:G8->P0}(h: ∀k,k<n->0<=f k):0<=zg n f:=by
 induction n with
 |zero=>exact Int.le_refl _
 |succ n ih=>rw [jN];have:=ih λk hk=>h k (by omega);have:=h n (by omega);omega
theorem Mh {f:G8->P0}{b:P0}(h: ∀k,k<n->f k<=b):zg n f<=n*b:=by
 induction n with
 |zero=>simp [yk]
 |succ n ih=>
  rw [jN];have h1:=ih λk hk=>h k (by omega);have h2:=h n (by omega)
  have:((n+1:G8):P0)*b=(n:P0)*b+b:=by rw [Int.natCast_add,Int.add_mul];simp
  omega
theorem Do (n:G8)(f g:G8->P0):zg n (λk=>f k+g k)=zg n f+zg n g:=by
 induction n with
 |zero=>rfl
 |succ n ih=>rw [jN,jN,jN,ih];omega
theorem WA (n:G8)(c:P0)(f:G8->P0):zg n (λk=>c*f k)=c*zg n f:=by
 induction n with
 |zero=>simp [yk]
 |succ n ih=>rw [jN,jN,ih,Int.mul_add]
theorem Gz (n:G8)(c:P0)(f:G8->P0):zg n (λk=>f k*c)=zg n f*c:=by
 rw [nO,<-WA];exact zG λk _=>nO _ _
theorem GA (m n:G8)(f:G8->G8->P0):zg m (λi=>zg n (f i))=zg n (λj=>zg m λi=>f i j):=by
 induction m with
 |zero=>
  rw [yk]
  induction n with
  |zero=>rfl
  |succ n ih=>rw [jN,<-ih,yk];rfl
 |succ m ih=>
  rw [jN,ih,<-Do];exact zG λj _=>(jN m λi=>f i j).symm
theorem Uz {f:G8->P0}{i:G8}(hi:i<n)(h: ∀k,k<n->k≠i->f k=0):zg n f=f i:=by
 induction n with
 |zero=>omega
 |succ n ih=>
  rw [jN]
  by_cases e:i=n
  ·subst e;have:zg i f=0:=by
    have:zg i f=zg i (λ_=>0*1):=zG λk hk=>by rw [h k (by omega) (by omega)];rfl
    rw [this,WA];simp
   omega
  ·rw [ih (by omega) λk hk hne=>h k (by omega) hne,h n (by omega) (by omega)];omega
theorem Dp {f:G8->P0}(h: ∀k,k<n->0<=f k):0<zg n f↔ ∃k,k<n/\0<f k:=by
 induction n with
 |zero=>simp [yk]
 |succ n ih=>
  rw [jN];have h1:=Vx λk (hk:k<n)=>h k (by omega)
  have h2:=h n (by omega);have ih':=ih λk hk=>h k (by omega)
  constructor
  ·intro z
   by_cases q:0<f n
   ·exact⟨n,by omega,q⟩
   ·obtain⟨k,a,b⟩:=ih'.mp (by omega);exact⟨k,by omega,b⟩
  ·rintro ⟨k,a,b⟩
   by_cases q:k=n
   ·subst q;omega
   ·have:=ih'.mpr ⟨k,by omega,b⟩;omega
def Jv (n:G8)(T U:G0 (G0 P0)):G0 (G0 P0):=mkT n λi j=>zg n λk=>ent T i k*ent U k j
theorem Sq.mul (h:Sq n e T)(g:Sq n f U)(hn:n<=8):Sq n (e+f+3) (Jv n T U):=by
 have nn: ∀i j,i<n->j<n-> ∀k,k<n->0<=ent T i k*ent U k j:=λi j hi hj k hk=>qC (h.ent_nn hi hk).1 (g.ent_nn hk hj).1
 refine Sq.of_mk (λi j hi hj=>Vx (nn i j hi hj)) λi j hi hj=> ?_
 have hle: ∀k,k<n->ent T i k*ent U k j<=2^e*2^f-1:=λk hk=>by
  have a:=h.ent_nn hi hk;have b:=g.ent_nn hk hj;have:ent T i k*ent U k j<2^e*2^f:=by
   have p:(0:P0)<2^f:=oY (by decide)
   calc ent T i k*ent U k j<=ent T i k*2^f:=Int.mul_le_mul_of_nonneg_left (rN b.2) a.1
    _<2^e*2^f:=Int.mul_lt_mul_of_pos_right a.2 p
  omega
 have s:=Mh hle;have p:(0:P0)<2^e*2^f:=sJ (oY (by decide)) (oY (by decide));have e1:(2:P0)^(e+f+3)=8*(2^e*2^f):=by rw [sK,sK];rw [nO];rfl
 rw [e1];have hn':(n:P0)<=8:=by omega
 have:(n:P0)*(2^e*2^f-1)<=8*(2^e*2^f-1):=Int.mul_le_mul_of_nonneg_right hn' (by omega);omega
theorem vZ {i j:G8}(hi:i<n)(hj:j<n):ent (Jv n T U) i j=zg n λk=>ent T i k*ent U k j:=Wz hi hj
def Pc (n:G8):G0 (G0 P0):=mkT n λi j=>if i=j then 1 else 0
theorem Sq.one (n:G8):Sq n 1 (Pc n):=Sq.of_mk (f:=λi j=>if i=j then 1 else 0) (λi j _ _=>by split<;>decide) λi j _ _=>by split<;>decide
theorem mul_assoc {g:G8}{V:G0 (G0 P0)}(hT:Sq n e T)(hU:Sq n f U)(hV:Sq n g V)(hn:n<=8):Jv n (Jv n T U) V=Jv n T (Jv n U V):=by
 refine((hT.mul hU hn).mul hV hn).ext (hT.mul (hU.mul hV hn) hn) λi j hi hj=> ?_
 rw [vZ hi hj,vZ hi hj];have e1:(zg n λk=>ent (Jv n T U) i k*ent V k j)=zg n λk=>zg n λl=>ent T i l*ent U l k*ent V k j:=
  zG λk hk=>by rw [vZ hi hk,<-Gz]
 have e2:(zg n λl=>ent T i l*ent (Jv n U V) l j)=zg n λl=>zg n λk=>ent T i l*(ent U l k*ent V k j):=
  zG λl hl=>by rw [vZ hl hj,<-WA]
 rw [e1,e2,GA];exact zG λl _=>zG λk _=>Int.mul_assoc _ _ _
theorem QD (hT:Sq n e T)(hn:n<=8):Jv n (Pc n) T=T:=by
 refine((Sq.one n).mul hT hn).ext hT λi j hi hj=> ?_
 rw [vZ hi hj,Uz hi λk hk hne=>by rw [Pc,Wz hi hk,S3 (K6 hne)];simp];rw [Pc,Wz hi hi,S2 rfl];simp
theorem Mi (hT:Sq n e T)(hn:n<=8):Jv n T (Pc n)=T:=by
 refine(hT.mul (Sq.one n) hn).ext hT λi j hi hj=> ?_
 rw [vZ hi hj,Uz hj λk hk hne=>by rw [Pc,Wz hk hj,S3 hne];simp];rw [Pc,Wz hj hj,S2 rfl];simp
def yY (n:G8)(T:G0 (G0 P0)):G8->G0 (G0 P0)
 |0=>Pc n
 |k+1=>Jv n (yY n T k) T
theorem Sq.pow (hT:Sq n e T)(hn:n<=8): ∀k,Sq n (k*(e+3)+1) (yY n T k)
 |0=>(Sq.one n).mono (by omega)
 |k+1=>((Sq.pow hT hn k).mul hT hn).mono (by rw [rM];omega)
def zc (n:G8)(T:G0 (G0 P0)):G0 (G0 P0):=mkT n λi j=>if ent T i j=0 then 0 else 1
theorem Sq.mark (T:G0 (G0 P0)):Sq n 1 (zc n T):=Sq.of_mk (f:=λi j=>if ent T i j=0 then 0 else 1) (λi j _ _=>by split<;>decide) λi j _ _=>by split<;>decide
def zv (T:G0 (G0 P0)):N4:=T.all λr=>r.all λx=>decide (x≠0)
theorem XH (n:G8)(f:G8->G8->P0):zv (mkT n f)=true↔ ∀i j,i<n->j<n->f i j≠0:=by
 unfold zv mkT;simp only [K8,S8,S9,W4,E4];exact⟨λh i j hi hj=>h i hi j hj,λh i hi j hj=>h i j hi hj⟩
theorem Dq (h:Sq n e T):zv (zc n T)=zv T:=by
 have h1:zv T=zv (mkT n (ent T)):=by rw [<-h.eq_mk]
 rw [h1,F8,zc,XH,XH];constructor
 ·intro z i j hi hj w;exact z i j hi hj (by rw [S2 w])
 ·intro z i j hi hj w;rw [S3 (z i j hi hj)] at w;cases w
def MulOk (i j:P0):Prop:= ∃m n:G8,i.natAbs<2^m/\j.natAbs<2^n/\m+n<=134217728
theorem MulOk.ok {i j:P0}(h:MulOk i j):IntMulOk i j:=by
 obtain⟨m,n,a,b,c⟩:=h;exact .of_le (lJ.mpr a) (lJ.mpr b) c
theorem Cg:OpR X (J0 .Mult) (rI MulOk λi j=> .int (i*j)):=opI λ_ _ _ _ _ _ _ hc q=>mul_int q hc.ok
def TK:RD2:=λx y h Q=>match x,y with
 | .int i,.int j=>MulOk i j/\Q (.int (i*j)) h
 |_,_=>False
theorem Ch:OpQ X (J0 .Mult) TK:=Vm (gd:=λi j=> .int (i*j)) Cg (λ_ _ _=>rfl) λx y h Q q=>by
 cases x<;>cases y<;>first|exact False.elim q|exact⟨_,_,rfl,rfl,q.1,q.2⟩
theorem WB {x:P0}(h0:0<=x)(h1:x<2^e):x.natAbs<2^e:=by
 have:((2^e:G8):P0)=2^e:=by simp
 omega
theorem Mj {x y:P0}(hx:0<=x/\x<2^e)(hy:0<=y/\y<2^f)(h:e+f<=134217728):MulOk x y:=⟨e,f,WB hx.1 hx.2,WB hy.1 hy.2,h⟩
section
variable {α β:Type}{i i':G8}{js:G0 G8}{ti ti':TID}{te:TED}{σ:SD}{h:HD}{Q:KD}{j:ItD}
theorem lcA (xs:G0 α)(c g:α->D)(hz:xs.length<=1000)(hj:j h=some (xs.map c))(ht: ∀R:ItD->HD->Prop,R j h->ti σ h R)
 (he: ∀x∈xs,∀Q':KD,Q' (g x) h->te ((jO js σ).set i (some (c x))) h Q')(hq: ∀p,h p=none->Q (.lst p) (zV h p (xs.map g))):Jm (bN i) js ti vI te σ h Q:=by
 refine ht _ ⟨xs.length,λk ys h'=>h'=h/\ys=(xs.take k).map g,⟨rfl,by simp⟩,?_⟩;rintro k ys h' ⟨rfl,rfl⟩;refine⟨by simp only [G7,T4];exact R9 (ju (by omega)),xs.map c,hj,by simp,λhl p hp=> ?_,λd hd=>⟨_,rfl,?_⟩⟩
 ·rw [M9 (by simpa using hl)];exact hq p hp
 ·unfold vI;dsimp only;rw [S2 rfl];rw [R5] at hd;cases hx:xs[k]? with
  |none=>rw [hx] at hd;cases hd
  |some x=>
   rw [hx] at hd;cases hd;refine he x (P6 hx) _ ⟨h',Sub.refl _,rfl,?_⟩;rw [F9,hx];simp
theorem lcF (xs:G0 α)(c g:α->D)(p:α->N4){tt:TTD}(hz:xs.length<=1000)(hj:j h=some (xs.map c))(ht: ∀R:ItD->HD->Prop,R j h->ti σ h R)
 (hp: ∀x∈xs,∀Q':N4->HD->Prop,Q' (p x) h->tt ((jO js σ).set i (some (c x))) h Q')(he: ∀x∈xs,p x=true-> ∀Q':KD,Q' (g x) h->te ((jO js σ).set i (some (c x))) h Q')(hq: ∀a,h a=none->Q (.lst a) (zV h a ((xs.filter p).map g))):Jm (bN i) js ti tt te σ h Q:=by
 refine ht _ ⟨xs.length,λk ys h'=>h'=h/\ys=((xs.take k).filter p).map g,⟨rfl,by simp⟩,?_⟩;rintro k ys h' ⟨rfl,rfl⟩;refine⟨?_,xs.map c,hj,by simp,λhl a ha=> ?_,λd hd=>⟨_,rfl,?_⟩⟩
 ·have:=U4 p (xs.take k);simp only [G7,T4] at this ⊢;exact R9 (ju (by omega))
 ·rw [M9 (by simpa using hl)];exact hq a ha
 ·rw [R5] at hd;cases hx:xs[k]? with
  |none=>rw [hx] at hd;cases hd
  |some x=>
   rw [hx] at hd;cases hd;refine hp x (P6 hx) _ ?_;cases hb:p x with
   |true=>
    rw [S2 rfl];refine he x (P6 hx) hb _ ⟨h',Sub.refl _,rfl,?_⟩;rw [F9,hx];simp [hb]
   |false=>
    rw [S3 D9];refine⟨h',Sub.refl _,rfl,?_⟩;rw [F9,hx];simp [hb]
theorem EO (xs:G0 α)(c g:α->D)(hz:xs.length<=1000)(hj:j h=some (xs.map c))(ht: ∀R:ItD->HD->Prop,R j h->ti σ h R)
 (he: ∀x∈xs,∀Q':KD,Q' (g x) h->te ((jO js σ).set i (some (c x))) h Q')(hq:Q (.tup (xs.map g)) h):dCB YN (zr (Jm (bN i) js ti vI te) ZK) σ h Q:=by
 show Jm (bN i) js ti vI te σ h (λx h1=>YN [x] h1 Q);exact lcA xs c g hz hj ht he λp hp=>(show ∃ys,zV h p (xs.map g) p=some ys/\Q (.tup ys) (vH (zV h p (xs.map g)) p) from ⟨_,jc,by rw [zL hp];exact hq⟩)
theorem Ci (xs:G0 α)(c g:α->D)(p:α->N4){tt:TTD}(hz:xs.length<=1000)(hj:j h=some (xs.map c))(ht: ∀R:ItD->HD->Prop,R j h->ti σ h R)
 (hp: ∀x∈xs,∀Q':N4->HD->Prop,Q' (p x) h->tt ((jO js σ).set i (some (c x))) h Q')(he: ∀x∈xs,p x=true-> ∀Q':KD,Q' (g x) h->te ((jO js σ).set i (some (c x))) h Q')(hq:Q (.tup ((xs.filter p).map g)) h):dCB YN (zr (Jm (bN i) js ti tt te) ZK) σ h Q:=by
 show Jm (bN i) js ti tt te σ h (λx h1=>YN [x] h1 Q);exact lcF xs c g p hz hj ht hp he λa ha=>(show ∃ys,zV h a ((xs.filter p).map g) a=some ys/\Q (.tup ys) (vH (zV h a ((xs.filter p).map g)) a) from ⟨_,jc,by rw [zL ha];exact hq⟩)
theorem TL (xs:G0 α)(c:α->D)(g:α->P0)(hz:xs.length<=1000)(hj:j h=some (xs.map c))(ht: ∀R:ItD->HD->Prop,R j h->ti σ h R)
 (he: ∀x∈xs,∀Q':KD,Q' (.int (g x)) h->te ((jO js σ).set i (some (c x))) h Q')(hq:Q (.int (xs.map g).sum) h):dCB EK (zr (Jm (bN i) js ti vI te) ZK) σ h Q:=by
 show Jm (bN i) js ti vI te σ h (λx h1=>EK [x] h1 Q);exact lcA xs c (λx=> .int (g x)) hz hj ht he λp hp=>⟨p,xs.map g,rfl,by rw [jc,M7];rfl,by rw [zL hp];exact hq⟩
theorem OF (xs:G0 α)(c:α->D)(g:α->N4)(hz:xs.length<=1000)(hj:j h=some (xs.map c))(ht: ∀R:ItD->HD->Prop,R j h->ti σ h R)
 (he: ∀x∈xs,∀Q':KD,Q' (.bl (g x)) h->te ((jO js σ).set i (some (c x))) h Q')(hq:Q (.bl (xs.all g)) h):dCB BW (zr (Jm (bN i) js ti vI te) ZK) σ h Q:=by
 show Jm (bN i) js ti vI te σ h (λx h1=>BW [x] h1 Q);exact lcA xs c (λx=> .bl (g x)) hz hj ht he λp hp=>⟨p,xs.map g,rfl,by rw [jc,M7];rfl,by rw [zL hp,K8];exact hq⟩
theorem TN (xs:G0 α)(c:α->D)(g:α->N4)(hz:xs.length<=1000)(hj:j h=some (xs.map c))(ht: ∀R:ItD->HD->Prop,R j h->ti σ h R)
 (he: ∀x∈xs,∀Q':KD,Q' (.bl (g x)) h->te ((jO js σ).set i (some (c x))) h Q')(hq:Q (.bl (xs.any g)) h):dCB EF (zr (Jm (bN i) js ti vI te) ZK) σ h Q:=by
 show Jm (bN i) js ti vI te σ h (λx h1=>EF [x] h1 Q);exact lcA xs c (λx=> .bl (g x)) hz hj ht he λp hp=>⟨p,xs.map g,rfl,by rw [jc,M7];rfl,by rw [zL hp,nM];exact hq⟩
end
end L2
namespace L2
open PySem PySem.Spec PyProof.Rows PySem.SeqAt
def jJ (o:G0 G8):D:= .tup (o.map λ(k:G8)=>D.int (k:P0))
def vJ (o:G0 G8):G0 P0:=o.map λ(k:G8)=>(k:P0)
theorem Vy (o:G0 G8):jJ o= .tup ((vJ o).map D.int):=by unfold jJ vJ;rw [M7];rfl
variable {i:G8}
theorem Mk {o:G0 G8}(h:i∈o):(i:P0)∈vJ o:=N6.mpr ⟨i,h,rfl⟩
theorem wv (h:HD): ∀ns:G0 P0,ToPs h (ns.map D.int) (ns.map dQ)
 | []=>rfl
 |n::ns=>⟨_,_,rfl,rfl,wv h ns⟩
theorem yD: ∀ns:G0 P0,O0 (ns.map dQ)=true
 | []=>rfl
 |n::ns=>by show (gH (.int n)&&_)=true;rw [yD ns];rfl
theorem Zf: ∀ns:G0 P0,L5 (ns.map dQ)<=1
 | []=>by simp [L5]
 |n::ns=>by
  have:=Zf ns;simp only [B2,L5,aA];omega
theorem WC (ns:G0 P0):shaped (.list (ns.map .int))=true:=by
 unfold shaped;have h1:gH (.list (ns.map .int))=true:=by simp only [gH];exact yD ns
 have h2:=Zf ns;have h3:aA (.list (ns.map .int))<=64:=by simp only [aA];omega
 rw [h1,D0 h3];rfl
def Dr (r:G0 P0):Q1:= .tuple (r.map .int)
def SL (T:G0 (G0 P0)):Q1:= .tuple (T.map Dr)
variable {n e:G8}{T:G0 (G0 P0)}
theorem Ja (h:Sq n e T){i:G8}(hi:i<n):atI (T.map Jn) (i:P0)=some (Jn (T.getD i [])):=by
 have hi':i<T.length:=by rw [h.len];exact hi
 exact wt (by rw [R5,T7,G5 hi'];rfl)
theorem Sq.getRow (h:Sq n e T){i:G8}(hi:i<n):T.getD i []∈T:=by
 have hi':i<T.length:=by rw [h.len];exact hi
 rw [T7,G5 hi'];exact B6 hi'
theorem vb {r:G0 P0}(h:r.length=n){j:G8}(hj:j<n):atI (r.map D.int) (j:P0)=some (.int (r.getD j 0)):=by
 have hj':j<r.length:=by rw [h];exact hj
 exact wt (by rw [R5,T7,G5 hj'];rfl)
theorem Cj (T:G0 (G0 P0))(f:P0->P0):D.tup (T.map λr=>D.tup (r.map λx=>D.int (f x)))=jA (T.map λr=>r.map f):=by
 unfold jA Jn;rw [M7]
 congr 1
 apply B7;intro r _;simp [M7,dF]
theorem Ck (h:Sq n e T):zc n T=T.map λr=>r.map λx=>if x≠0 then 1 else 0:=by
 conv=>rhs;rw [h.eq_mk]
 unfold zc mkT;rw [M7];apply B7;intro i _;simp only [W4,M7];apply B7;intro j _;simp only [W4]
 by_cases z:ent T i j=0
 ·rw [S2 z,S3 (by simpa using z)]
 ·rw [S3 z,S2 z]
variable {U:G0 (G0 P0)}
theorem Ml (h:Sq n e T):(T.map λr=>D.tup ((R6 n).map λj=>D.int (zg n λm=>r.getD m 0*ent U m j)))=(Jv n T U).map Jn:=by
 conv=>lhs;rw [yC T [],h.len]
 unfold Jv mkT;rw [M7,M7];apply B7;intro i _;simp only [W4,Jn,M7];rfl
theorem pow_add (h:Sq n e T)(hn:n<=8)(a:G8): ∀b,yY n T (a+b)=Jv n (yY n T a) (yY n T b)
 |0=>by rw [show yY n T 0=Pc n from rfl,Mi (h.pow hn a) hn];rfl
 |b+1=>by
  show Jv n (yY n T (a+b)) T=Jv n (yY n T a) (Jv n (yY n T b) T);rw [pow_add h hn a b,mul_assoc (h.pow hn a) (h.pow hn b) h hn]
theorem Cl (h:Sq n e T)(hn:n<=8):yY n T 1=T:=QD h hn
theorem UA (h:Sq n e T)(hn:n<=8)(b:G8):yY n T (b+1)=Jv n T (yY n T b):=by
 rw [nH,pow_add h hn,Cl h hn]
theorem Mm {j:G8}(hi:i<n)(hj:j<n):ent (zc n T) i j=if ent T i j=0 then 0 else 1:=Wz hi hj
theorem QF (h: ∀i j,i<n->j<n->(ent T i j=0↔ent U i j=0)):zc n T=zc n U:=QC λi j hi hj=>by
 by_cases z:ent T i j=0
 ·rw [S2 z,S2 ((h i j hi hj).mp z)]
 ·rw [S3 z,S3 (λw=>z ((h i j hi hj).mpr w))]
theorem vc {j:G8}(hi:i<n)(hj:j<n):ent (zc n T) i j=0↔ent T i j=0:=by
 rw [Mm hi hj]
 by_cases z:ent T i j=0
 ·rw [S2 z];simp [z]
 ·rw [S3 z];simp [z]
theorem UB (T:G0 (G0 P0)):zc n (zc n T)=zc n T:=QF λi j hi hj=>vc hi hj
theorem zW {f j:G8}(h:Sq n e T)(g:Sq n f U)(hi:i<n)(hj:j<n):ent (Jv n T U) i j≠0↔ ∃k,k<n/\ent T i k≠0/\ent U k j≠0:=by
 rw [vZ hi hj];have nn: ∀k,k<n->0<=ent T i k*ent U k j:=λk hk=>qC (h.ent_nn hi hk).1 (g.ent_nn hk hj).1
 have s:=Vx nn;have p:=Dp nn;constructor
 ·intro z;obtain⟨k,hk,w⟩:=p.mp (by omega);refine⟨k,hk,λq=> ?_,λq=> ?_⟩
  ·rw [q] at w;simp at w
  ·rw [q] at w;simp at w
 ·rintro ⟨k,hk,a,b⟩ z;have c:=(h.ent_nn hi hk).1;have d:=(g.ent_nn hk hj).1;have:0<ent T i k*ent U k j:=sJ (by omega) (by omega);have:=p.mpr ⟨k,hk,this⟩;omega
theorem ZZ {f:G8}(h:Sq n e T)(g:Sq n f U):zc n (Jv n T U)=zc n (Jv n (zc n T) (zc n U)):=
 QF λi j hi hj=>by
  have a:=zW h g hi hj;have b:=zW (Sq.mark (n:=n) T) (Sq.mark (n:=n) U) hi hj;have c:(∃k,k<n/\ent T i k≠0/\ent U k j≠0)↔ ∃k,k<n/\ent (zc n T) i k≠0/\ent (zc n U) k j≠0:=
   ⟨λ⟨k,hk,x,y⟩=>⟨k,hk,λz=>x ((vc hi hk).mp z),λz=>y ((vc hk hj).mp z)⟩,λ⟨k,hk,x,y⟩=>⟨k,hk,λz=>x ((vc hi hk).mpr z),λz=>y ((vc hk hj).mpr z)⟩⟩
  exact⟨λz=>X4 λw=>(a.mpr (c.mpr (b.mp w))) z,λz=>X4 λw=>(b.mpr (c.mp (a.mp w))) z⟩
theorem Wa (h:Sq n e T):zv T=true↔ ∀i j,i<n->j<n->ent T i j≠0:=by
 have h1:zv T=zv (mkT n (ent T)):=by rw [<-h.eq_mk]
 rw [h1,XH]
theorem Ds {a:G8}(h:Sq n e T)(hn:n<=8)(ha:0<a)(f:zv (yY n T a)=true):zv (yY n T (a+1))=true:=by
 rw [Wa (h.pow hn _)] at f ⊢;intro i j hi hj;obtain⟨b,rfl⟩: ∃b,a=b+1:=⟨a-1,by omega⟩;have z:=f i j hi hj;rw [UA h hn b,zW h (h.pow hn b) hi hj] at z;obtain⟨k,hk,x,_⟩:=z;rw [UA h hn (b+1),zW h (h.pow hn (b+1)) hi hj];exact⟨k,hk,x,f k j hk hj⟩
theorem Dt {a:G8}(h:Sq n e T)(hn:n<=8)(ha:0<a)(f:zv (yY n T a)=true): ∀b,zv (yY n T (a+b))=true
 |0=>f
 |b+1=>Ds (a:=a+b) h hn (by omega) (Dt h hn ha f b)
section
variable {prog:S0}{w:N8}{A:T8}{E:G1->G3->Prop}{s:G3}
variable {items:N0 G1}
theorem Du {it t:G9}{i n:G8}{d1 d2:P8 G9}{s1 s2:N0 (P8 G1)}{P:fK->G3->Prop}(a1:s.heap.get? it=some {cls:= .type "tuple_iterator",dict:=d1,data:= .fields #[.ref t,.int i 0],slots:=s1})(a2:s.heap.get? t=some {cls:= .type "tuple",dict:=d2,data:= .seq items n,slots:=s2})
 (more: ∀x h',items[i]? =some x->h'.IsTupleIter it t (i+1)->Z6 it s.heap h'->P (.done (.ret x)) {s with heap:=h'})
 (none_:items[i]? =none->R4 (S4 prog w) A (do setField (.ref it) 0 .none;Y1) P E s):R4 (S4 prog w) A (Builtin.«tuple_iterator.__next__» ⟨[.ref it],[]⟩) P E s:=by
 obtain⟨hp,g,d,tk,os⟩:=s
 wp_walk
 rw [aP];cases hx:items[i]? with
 |none=>exact wpAny_bind (dN (none_ hx))
 |some x=>
  refine wpAny_bind (qD a1 rfl (by simp) (P5 (more x _ hx ⟨_,aJ _ a1 ?_,rfl,?_⟩ (bI ..))))
  ·rfl
  ·simp [dS,bH]
theorem XI {Q:fK->G3->Prop}(hh:A.handled=none)(hE: ∀h' e,(∀b o,s.heap.get? b=some o->h'.get? b=some o)->(∃o,h'.get? e=some o/\o.cls= .type "StopIteration")->E (.ref e) {s with heap:=h'}):R4 (S4 prog w) A Y1 Q E s:=by
 obtain⟨hp,g,d,tk,os⟩:=s;unfold Y1
 wp_walk
 unfold raiseNew;refine wpAny_bind (wpAny_handled ?_);rw [hh];exact wpAny_bind (P5 (wpAny_throw (hE _ _ (λb o q=>G6 _ (G6 _ q)) ⟨_,R8 _ rfl,rfl⟩)))
theorem Zg {it t:G9}{i:G8}{x:G1}{Q:G1->G3->Prop}(hit:s.heap.IsTupleIter it t i)(ht:s.heap.IsTuple t items)(hx:items[i]? =some x)
 (hQ: ∀h',h'.IsTupleIter it t (i+1)->Z6 it s.heap h'->Q x {s with heap:=h'}):R4 (S4 prog w) A (K3 (.ref it)) Q E s:=by
 obtain⟨⟨c,d1,dt,s1⟩,ho,rfl,rfl⟩:=id hit;obtain⟨⟨c2,d2,dt2,s2⟩,hol,rfl,nl,rfl⟩:=ht;exact wpAny_bind (I0 hit.typeIs X0 (K2 X0 hit.typeIs fI (Du ho hol (λy h' e b1 b2=>⟨y,rfl,P5 (by rw [hx] at e;cases e;exact hQ h' b1 b2)⟩) λe=>by rw [hx] at e;cases e) (eT _)))
theorem zT {it t:G9}{i:G8}{Q:G1->G3->Prop}(hh:A.handled=none)(hit:s.heap.IsTupleIter it t i)(ht:s.heap.IsTuple t items)(hx:items[i]? =none)
 (hE: ∀h' e,oZ it s.heap h'->(∃o,h'.get? e=some o/\o.cls= .type "StopIteration")->E (.ref e) {s with heap:=h'}):R4 (S4 prog w) A (K3 (.ref it)) Q E s:=by
 obtain⟨⟨c,d1,dt,s1⟩,ho,rfl,rfl⟩:=id hit;obtain⟨⟨c2,d2,dt2,s2⟩,hol,rfl,nl,rfl⟩:=ht;refine wpAny_bind (I0 hit.typeIs X0 (K2 X0 hit.typeIs fI (Du ho hol (λy h' e b1 b2=>by rw [hx] at e;cases e) λ_=>wpAny_bind (qD ho rfl (by simp) ?_)) (eT _)));exact XI (s:= {s with heap:=_}) hh λh' e grown stop=>hE h' e (λb o ne q=>grown b o ((bI ..).extBut b o ne q)) stop
end
variable {prog:S0}{w:N8}{A:T8}
theorem Dv (hh:A.handled=none)(it t:G9)(hne:t≠it)(items:N0 G1):
 Draws prog w A it [it,t] items.size (λi v=>items[i]? =some v) (λi h=>h.IsTupleIter it t i/\h.IsTuple t items) where
 live:=λ_ _ st=>let ⟨o,ho,_⟩:=st.1;⟨o,ho⟩
 frame:=λ_ _ _ st hk=>⟨st.1.at λo e=>hk it (by simp) o e,st.2.at λo e=>hk t (by simp) o e⟩
 item:=λi s Q E hi st hQ=>Zg st.1 st.2 (x:=items[i]) (by simp [hi]) λh' hit' hs'=>hQ _ h' s.toks (by simp [hi]) ⟨hit',st.2.extBut hs'.extBut hne⟩ hs'
 done:=λs Q E st hE=>zT hh st.1 st.2 (by simp) hE
theorem Dw (hh:A.handled=none)(it t:G9)(items:N0 G1)(n:G8)(hn:items.size<=n):
 Draws prog w A it [it,t] n (λ_ _=>False) (λi h=>i=n/\h.IsTupleIter it t n/\h.IsTuple t items) where
 live:=λ_ _ st=>let ⟨o,ho,_⟩:=st.2.1;⟨o,ho⟩
 frame:=λ_ _ _ st hk=>⟨st.1,st.2.1.at λo e=>hk it (by simp) o e,st.2.2.at λo e=>hk t (by simp) o e⟩
 item:=λi s Q E hi st hQ=>absurd st.1 (T5 hi)
 done:=λs Q E st hE=>zT hh st.2.1 st.2.2 (Array.getElem?_eq_none hn) hE
section
variable {prog:S0}{w:N8}{A:T8}{E:G1->G3->Prop}{s:G3}
theorem Dx {l:G9}{its:N0 G1}{P:fK->G3->Prop}(at_:s.heap.IsTuple l its)
 (h: ∀h',tO h' (s.heap.objs.size+1) s.heap.objs.size 0 .none->h'.IsTupleIter s.heap.objs.size l 0->(∀b o,s.heap.get? b=some o->h'.get? b=some o)->P (.done (.ret (.ref (s.heap.objs.size+1)))) {s with heap:=h'}):
 R4 (S4 prog w) A (Builtin.«enumerate.__new__» ⟨[.type "enumerate",.ref l],[]⟩) P E s:=by
 have fine:=sub_enumerate;obtain⟨⟨c,dd,dt,sl⟩,there,rfl,n,rfl⟩:=id at_;obtain⟨hp,g,d,tk,os⟩:=s;have size: ∀o,(hp.push o).objs.size=hp.objs.size+1:=λo=>aU ..
 have made:=R8 (hp.push {cls:= .type "tuple_iterator",data:= .fields #[.ref l,.int 0 0]}) (o:= {cls:= .type "enumerate",data:= .fields #[.none,.bool false,.ref hp.objs.size,bH 0,.none,.none]}) rfl;have fin:=h _ (by rw [<-size];exact made) ⟨_,G6 _ (R8 _ rfl),rfl,rfl⟩ λb o old=>G6 _ (G6 _ old)
 rw [<-size {cls:= .type "tuple_iterator",data:= .fields #[.ref l,.int 0 0]}] at fin
 wp_walk using bT there
 refine wpAny_stack_any λcalls=>P5 ?_
 split
 case h_1 c _ _ _ _ _=>cases c==Q5 "enumerate" <;>(wp_walk using bT there,U6 at_;exact fin)
 case h_2=>wp_walk using bT there,U6 at_;exact fin
theorem Vz {l:G9}{items:N0 G1}{Q:G1->G3->Prop}(hL:s.heap.IsTuple l items)
 (h: ∀h',tO h' (s.heap.objs.size+1) s.heap.objs.size 0 .none->h'.IsTupleIter s.heap.objs.size l 0->(∀b o,s.heap.get? b=some o->h'.get? b=some o)->Q (.ref (s.heap.objs.size+1)) {s with heap:=h'}):
 R4 (S4 prog w) A (call (.type "enumerate") [.ref l]) Q E s:=
 callType_new F.called_enumerate (by decide) (F.typeCall_enumerate_1 _) (F.newCall_enumerate_1 _) (λ_=>F.args_object_init_2 _ _) F.entry_enumerate_new
  (S:=λ_ R s=>s.heap.IsTuple l items/\ ∀h',tO h' (s.heap.objs.size+1) s.heap.objs.size 0 .none->h'.IsTupleIter s.heap.objs.size l 0->(∀b o,s.heap.get? b=some o->h'.get? b=some o)->R (.ok (.ret (.ref (s.heap.objs.size+1)))) {s with heap:=h'})
  (.of_wp λ_ _ _ _ _ ⟨tup,k⟩=>Dx tup λh' e i old=>⟨_,rfl,k h' e i old⟩) ⟨hL,λh' e i old=>⟨⟨_,e,rfl⟩,h h' e i old⟩⟩
end
section
variable {X:Cx}{pins:G0 (G9×Obj)}{σ:G0 (P8 V)}{H:Hp}{s:G3}{h':N9}
theorem Inv.turnL {t':G8}{ch:G0 G9}(I:Inv X pins σ H s)(k: ∀b o,b ∉ ch->s.heap.get? b=some o->h'.get? b=some o)(hc: ∀b∈ch,Pb X pins H b):Inv X pins σ H {s with heap:=h',toks:=t'}:=by
 refine I.step (g':=s.gens) (d':=s.drawn) (ch:=ch) (λb hb=>let ⟨_,f1,_,f3,f4,f5⟩:=hc b hb;⟨f3,f1,f4,f5⟩) (λb o _ _ nb e _=>k b o nb e) (λb o _ _ nb e _=>⟨o.slots,k b o nb e⟩) (λ_ _ _ _ n=>n)
  (λb o nb e=>⟨o,k b o nb e⟩) (λ_ _ e=>e) (λ_ _ _ e=>e) (λb ps e=>⟨#[],by rw [e];simp⟩) (λm hm=> ?_) (λb u e=> ?_) I.bare
 ·obtain⟨o,es,ep,ho,r⟩:=hm;exact⟨o,es,ep,k _ o (λz=>(hc _ z).2.1 rfl) ho,r⟩
 ·refine(I.hok b u e).stay (λc v hb q=>k c v (λz=> ?_) q) (λ_ q=>q) λ_ _ q=>q
  have f:=(hc c z).1;rcases hb with w|w
  ·rw [w,e] at f;cases f
  ·rw [w] at f;cases f
theorem Inv.turnLaid {t':G8}{ch:G0 G9}{a:G9}{o:HO}(I:Inv X pins σ H s)(k: ∀b u,b ∉ ch->s.heap.get? b=some u->h'.get? b=some u)(hc: ∀b∈ch,Pb X pins H b)(hp:s.heap.objs.size<=a)
 (new:ObjOk X.prog X.w (upd H a o) h' a o):Inv X pins σ (upd H a o) {s with heap:=h',toks:=t'}:=by
 have hn:=I.hok.fresh hp;refine I.step (g':=s.gens) (d':=s.drawn) (ch:=ch) (λb hb=>let ⟨_,f1,_,f3,f4,f5⟩:=hc b hb;⟨f3,f1,f4,f5⟩) (λb u _ _ nb e _=>k b u nb e) (λb u _ _ nb e _=>⟨u.slots,k b u nb e⟩)
  (λb u _ e n=>by rw [jm (T5 (S7 (D8 e) hp))];exact n) (λb u nb e=>⟨u,k b u nb e⟩) (λb xs q=>by rw [jm (jq q hn)];exact q) (λb u xs q=>by rw [jm (jq q hn)];exact q)
  (λb ps q=>⟨#[],by rw [jm (jq q hn),q];simp⟩) (λm hm=> ?_) (λb u e=> ?_) I.bare
 ·obtain⟨u,es,ep,ho,r⟩:=hm;exact⟨u,es,ep,k _ u (λz=>(hc _ z).2.1 rfl) ho,r⟩
 ·by_cases hb:b=a
  ·subst hb;rw [jn] at e;cases e;exact new
  ·rw [jm hb] at e;refine(I.hok b u e).stay (λc v hb q=>k c v (λz=> ?_) q) (λc q=>by rw [jm (jq q hn)];exact q) λc xs q=>by rw [jm (jq q hn)];exact q
   have f:=(hc c z).1;rcases hb with w|w
   ·rw [w,e] at f;cases f
   ·rw [w] at f;cases f
end
def Ite (K:G2)(a:G9):It:=
 ⟨λi H=> ∃xs x,SqT K H a xs/\xs[i]? =some x,λi H x H'=> ∃p v,H p=none/\(∀xs,SqT K H a xs->xs[i]? =some v)/\x= .ref p/\H'=upd H p (.tup [.int i,v]),λi H=> ∃xs,SqT K H a xs/\xs.length<=i⟩
theorem Dy {P:S0}{K:G2}{es:G0 T1}{k:G8}{pos:Pos}(a it e:G9)(hei:e≠it)(hae:a≠e)(hai:a≠it):Turn P w K (.Tuple es k pos) (Ite K a) [e,it] e (λi h=>(∃old,tO h e it i old)/\h.IsTupleIter it a i) where
 mem:=by simp
 obj:=λi h st b hb=>by
  rcases D2.mp hb with z|z
  ·subst z;obtain⟨old,q⟩:=st.1;exact⟨_,q,λv z=>by cases z⟩
  ·have z:=P3.mp z;subst z;obtain⟨o,q,c,d⟩:=st.2;exact⟨o,q,λv z=>by rw [d] at z;cases z⟩
 keep:=λi h h' st k=>⟨let ⟨old,q⟩:=st.1;⟨old,k e (by simp) _ q⟩,st.2.at λo q=>k it (by simp) o q⟩
 item:=by
  intro X hP hw hK hc i pins s σ H E I hf st hg;subst hP hw hK;obtain⟨xs,x,hq,hx⟩:=hg;obtain⟨its,rv,p,hz⟩:=I.tuple hq;obtain⟨u,hu,ru⟩:=rv.get hx;have hi:i<its.toArray.size:=by have:=(P9.mp hu).1;simpa using this
  obtain⟨old,he⟩:=st.1;have helt:e<s.heap.objs.size:=D8 he;refine wpAny_pyNext_enum_itemD (Dv (prog:=X.prog) (w:=X.w) (A:=X.A.in1) (I.ok.hd hc) it a hai its.toArray) he ⟨st.2,p⟩ hi hei (by simp [hei,K6 hae]) λx' h' tk hx' ho hs' hT hsz hk=> ?_
  have ex:x'=u:=F7 (hx'.symm.trans (show its.toArray[i]? =some u by simpa using hu));subst ex;refine⟨_,rfl,wpAny_letOwnedTupleGo_enum ho λh2 he2 hs2=> ?_⟩;have hn:H s.heap.objs.size=none:=I.hok.fresh (P4 _);have hT2:h2.get? s.heap.objs.size=some {cls:= .type "tuple",data:= .seq #[.int i tk,x']}:=(hs2.2 _ (U7 helt)).trans hT;refine⟨.ref s.heap.objs.size,upd H s.heap.objs.size (.tup [.int i,x]),?_,rfl,⟨_,x,hn,λys hy=>by rw [I.tuple_inj hy hq];exact hx,rfl,rfl⟩,⟨⟨x',by simpa using he2⟩,hs'.1.at λo y=>(hs2.2 it (K6 hei)).trans y⟩,λb hb=> ?_⟩
  ·refine I.turnLaid (h':=h2) (t':=tk+1) (ch:= [e,it]) (λb u hb q=> ?_) hf (P4 _) ⟨by show 2<=sizeLine;decide,[.int i tk,x'],.cons ⟨tk,rfl⟩ (.cons ru .nil),⟨_,hT2,rfl,rfl,_,rfl⟩⟩;have b1:b≠e:=λz=>hb (by simp [z])
   have b2:b≠it:=λz=>hb (by simp [z])
   exact(hs2.2 b b1).trans (hk b u b1 b2 q)
  ·have f:=(hf b hb).1;have:b≠s.heap.objs.size:=λz=>by
    rcases D2.mp hb with w|w
    ·rw [<-w,z] at helt;exact absurd helt (L0 _)
    ·have w:=P3.mp w;obtain⟨o,ho',_⟩:=st.2;have:=D8 ho';rw [<-w,z] at this;exact absurd this (L0 _)
   rw [jm this];exact f
 done:=by
  intro X hP hw hK hc i pins s σ H E I hf st hg;subst hP hw hK;obtain⟨xs,hq,hx⟩:=hg;obtain⟨its,rv,p,hz⟩:=I.tuple hq;obtain⟨old,he⟩:=st.1;have hl:=rv.length;refine wpAny_pyNext_enum_endD (Dw (prog:=X.prog) (w:=X.w) (A:=X.A.in1) (I.ok.hd hc) it a its.toArray i (by simp;omega)) he ⟨rfl,st.2,p⟩ λh' hx'=>⟨rfl,I.turnL (t':=s.toks) (ch:= [it]) (λb o hb q=>hx' b o (λz=>hb (by simp [z])) q) λb hb=>hf b (S6 _ hb)⟩
 self:=λ_ _ _ _ _ st h=>let ⟨_,q⟩:=st.1;nQ q h
section
variable {X:Cx}
def SM (K:G2)(ta:TA):TI:=λσ H R=>ta σ H λvs H1=> ∃a,vs= [.ref a]/\(∃xs,SqT K H1 a xs)/\R (Ite K a) H1
theorem Cm {es:G0 T1}{k:G8}{tp:Pos}{a:T1}{ta:TA}{p pos:Pos}(hg:Gl X "enumerate")(hm:X.mg "enumerate" =none)(ha:PA X [a] ta)(hs:D7 [a] X.env= [(false,A7 a X.env)]:=by rfl):
 PI X (.Tuple es k tp) (.Call (.Name "enumerate" p) [a] [] pos) (SM X.K ta):=by
 intro pins s σ H R I h;refine uU (Wg I hg hm (show J9 "enumerate" =some (.type "enumerate") by decide +kernel) (Q0 (thn (ha pos pins s σ H _ I h) λus s1 ⟨vs,H1,I1,r1,q1⟩=> ?_) hs rfl));obtain⟨a,e,⟨xs,hq⟩,q⟩:=q1;subst e;cases r1 with
 |cons r rr=>
  cases rr;cases r;obtain⟨its,rv,p,hz⟩:=I1.tuple hq;have hlt:a<s1.heap.objs.size:=by obtain⟨o,ho,_⟩:=p;exact D8 ho
  refine Vz (show s1.heap.IsTuple a its.toArray from p) λh' he hit hk=> ?_
  refine nQ he ?_;refine⟨s1.heap.objs.size+1,[s1.heap.objs.size+1,s1.heap.objs.size],_,_,H1,rfl,I1.kept (t':=s1.toks) hk,Dy a s1.heap.objs.size (s1.heap.objs.size+1) (U7 (U5 _)) (T5 (dD hlt)) (T5 hlt),⟨⟨_,he⟩,hit⟩,λb hb=> ?_,q⟩;have hb':s1.heap.objs.size<=b:=by
   rcases D2.mp hb with w|w
   ·rw [w];exact sL _
   ·rw [P3.mp w];exact P4 _
  exact I1.fpOk hb' (I1.hok.fresh hb')
end
def QH (ds:G0 D):G0 D:=ds.zipIdx.map λp=> .tup [.int (p.2:P0),p.1]
def iE (ta:TAD):TID:=λσ h R=>ta σ h λxs h1=> ∃ds,xs= [.tup ds]/\R (λ_=>some (QH ds)) h1
theorem VA {ds:G0 D}{d:D}(h:(QH ds)[i]? =some d): ∃x,ds[i]? =some x/\d= .tup [.int (i:P0),x]:=by
 unfold QH at h;rw [R5,lK] at h;cases q:ds[i]? with
 |none=>rw [q] at h;cases h
 |some x=>
  rw [q] at h;refine⟨x,rfl,?_⟩;have h':some (D.tup [.int ((0+i:G8):P0),x])=some d:=h;rw [aB] at h';exact(F7 h').symm
theorem XJ (ds:G0 D):(QH ds).length=ds.length:=by simp [QH]
section
variable {K:G2}
theorem Dz {H:Hp}{a:G9}{vs:G0 V}{ds:G0 D}(hv:H a=some (.tup vs))(r:RelDs K H ds vs):BJ K H (λ_=>some (QH ds)) (Ite K a):=λH' h' k rh ds' e i=>by
 cases e;have hv':=k.tup _ _ hv;have r':=r.mono k;refine⟨λd hd=> ?_,λhl=>⟨vs,SqT.of hv',by rw [<-r.length,<-XJ];exact hl⟩⟩;obtain⟨x,hx,ed⟩:=VA hd;subst ed;obtain⟨v,e1,e2⟩:=r'.get hx;refine⟨⟨vs,v,SqT.of hv',e1⟩,λx' H'' ⟨p,v',hp,hx',ex,eH⟩=> ?_⟩;subst ex eH;have ev:v'=v:=by have:=hx' vs (SqT.of hv');rw [e1] at this;exact(F7 this).symm
 subst ev;have k2:Kept H' (upd H' p (.tup [.int i,v'])):= .new hp;exact⟨k2,RelH.new rh hp,p,[.int i,v'],rfl,jn,_,_,rfl,rfl,_,_,rfl,e2.mono k2,rfl⟩
theorem Cn {ta:TAD}: ∀σ H R,LI K (iE ta) σ H R->SM K (LA K ta) σ H R:=λσ H R ⟨xD,h,Rd,rs,rh,q,p⟩=>
 LA.bind rs rh q λds vs h1 H1 k1 rs1 rh1 r1 ⟨es,e,q1⟩=>by
  subst e;obtain⟨v,e,r2⟩:=jB r1;obtain⟨a,ws,e',hv,r⟩:=(show ∃a vs,v= .ref a/\H1 a=some (.tup vs)/\RelDs K H1 es vs from r2);subst e';exact⟨a,e,⟨ws,SqT.of hv⟩,p _ _ _ _ k1 rh1 (Dz hv r) q1⟩
end
section
variable {X:Cx}
theorem VB {es:G0 T1}{k:G8}{tp:Pos}{a:T1}{ta:TAD}{p pos:Pos}(hg:Gl X "enumerate")(hm:X.mg "enumerate" =none)(ha:JA X [a] ta)(hs:D7 [a] X.env= [(false,A7 a X.env)]:=by rfl):
 JI X (.Tuple es k tp) (.Call (.Name "enumerate" p) [a] [] pos) (iE ta):=⟨(Cm hg hm ha.to hs).imp Cn⟩
end
def Off (W:G0 G9)(h h':N9):Prop:=h'.objs.size=h.objs.size/\ ∀b o,b ∉ W->h.get? b=some o->h'.get? b=some o
theorem Off.refl (W:G0 G9)(h:N9):Off W h h:=⟨rfl,λ_ _ _ e=>e⟩
theorem Off.of {c:G9}{W:G0 G9}{h h':N9}(x:Z6 c h h')(m:c∈W):Off W h h':=⟨x.1,λb o n e=>x.extBut b o (λq=>n (q ▸ m)) e⟩
theorem Off.trans {W:G0 G9}{h h' h'':N9}(x:Off W h h')(y:Off W h' h''):Off W h h'':=⟨y.1.trans x.1,λb o n e=>y.2 b o n (x.2 b o n e)⟩
abbrev DA (f0:G1)(b1:N4)(TI TO:G9):Obj:= {cls:= .type "zip",dict:=none,data:= .fields #[f0,.bool b1,.bool false,.ref TI,.ref TO],slots:= #[]}
def ZipAt (h:N9)(z TI TO:G9):Prop:= ∃f0 b1,h.get? z=some (DA f0 b1 TI TO)/\(f0= .none\/ ∃a t,f0= .int a t)
theorem ZipAt.off {h h':N9}{z TI TO:G9}{W:G0 G9}(Z:ZipAt h z TI TO)(o:Off W h h')(n:z ∉ W):ZipAt h' z TI TO:=let ⟨f,b,e,q⟩:=Z;⟨f,b,o.2 _ _ n e,q⟩
section
variable {prog:S0}{w:N8}{A:T8}{E:G1->G3->Prop}{s:G3}{z TI TO i1 i2:G9}
theorem Mn {Q:N4->G3->Prop}(Z:ZipAt s.heap z TI TO)(k: ∀b h',ZipAt h' z TI TO->Off [z] s.heap h'->Q b {s with heap:=h'}):R4 (S4 prog w) A (mK (.ref z)) Q E s:=by
 obtain⟨f0,b1,hz,hf⟩:=id Z;have stay:=λb=>k b s.heap Z (Off.refl _ _)
 rcases hf with rfl|⟨a,t,rfl⟩
 ·wp_walk
  exact stay true
 ·have read: ∀ {P:P8 Obj->G3->Prop} {E':G1->G3->Prop},P (s.heap.get? a.toNat) s->R4 (S4 prog w) A (loadIfAlive a.toNat) P E' s:=λp _ _ _=>p
  wp_walk using read
  cases s.heap.get? a.toNat with
  |none=>exact P5 (stay true)
  |some o=>
   wp_walk
   cases b1 with
   |true=>exact P5 (stay false)
   |false=>exact wpAny_bind <| wpAny_setField_rec hz (by simp) λh' z' same=>P5 (k false h' ⟨_,_,z',.inr ⟨a,t,rfl⟩⟩ (.of same (by simp)))
structure ZApart (z TI TO i1 i2:G9):Prop where
 z1:z≠i1
 z2:z≠i2
 zO:z≠TO
 zI:z≠TI
 O1:TO≠i1
 O2:TO≠i2
 OI:TO≠TI
 I1:TI≠i1
 I2:TI≠i2
abbrev OG (z:G9)(h:N9)(E:G1->G3->Prop):G1->G3->Prop:=λe s'=>(∀o,h.get? z=some o->s'.heap.get? z=some o)/\ ∀h',oZ z s'.heap h'->E e {s' with heap:=h'}
theorem DB {Q:G1->G3->Prop}(ap:ZApart z TI TO i1 i2)(Z:ZipAt s.heap z TI TO)(hTI:X1 s.heap TI (.ref i1) (.ref i2))(hTO: ∃a b,X1 s.heap TO a b)
 (go: ∀xG,Off [z] s.heap xG->(∃o,xG.get? z=some o/\o.cls= .type "zip")->R4 (S4 prog w) A (K3 (.ref i1)) (λx xE=>Off [i1] xG xE.heap/\ ∀xK,Off [TO] xE.heap xK->
  R4 (S4 prog w) A (K3 (.ref i2)) (λy xJ=>Off [i2] xK xJ.heap/\ ∀xN,(∀b o,b ∉ [z,TO]->xJ.heap.get? b=some o->xN.get? b=some o)->X1 xN xJ.heap.objs.size x y->
   ZipAt xN z TI TO->X1 xN TI (.ref i1) (.ref i2)->(∃a b,X1 xN TO a b)->Q (.ref xJ.heap.objs.size) {xJ with heap:=xN}) (OG z xK E) {xE with heap:=xK}) (OG z xG E) {s with heap:=xG}):
 R4 (S4 prog w) A (Builtin.«zip.__next__» ⟨[.ref z],[]⟩) (λfin s'=> ∃v,fin= .done (.ret v)/\Q v s') E s:=by
 obtain⟨f0,b1,hz,hf⟩:=id Z;have ask:=λ{P:N4->G3->Prop} {E':G1->G3->Prop} (k: ∀b h',ZipAt h' z TI TO->Off [z] s.heap h'->P b {s with heap:=h'})=>Mn (prog:=prog) (w:=w) (A:=A) (E:=E') Z k
 wp_walk using ask
 intro b h₀ y4 x8;have z7:=x8.2 _ _ (by simp [ap.zI.symm]) hTI;obtain⟨a',b',z8⟩: ∃a b,X1 h₀ TO a b:=let ⟨a,b,e⟩:=hTO;⟨a,b,x8.2 _ _ (by simp [ap.zO.symm]) e⟩;cases b with
 |false=>
  have d1:=go h₀ x8 (let ⟨_,_,e,_⟩:=y4;⟨_,e,rfl⟩);rw [S3 (by decide)];refine wpAny_bind ?_;rw [<-Array.forIn_toList];simp only [bZ,qE];refine wpAny_bind (wpAny_bind (E3 ?_));refine wpAny_bind (m:=K3 (.ref i1)) (T3 d1 (λx xE d=>P5 (P5 ?_)) λe s' f=>f.2 s'.heap λ_ _ _ e=>e);obtain⟨o1,d2⟩:=d;refine wpAny_bind (wpAny_bind (E3 ?_));refine wpAny_bind (m:=K3 (.ref i2)) (T3 (d2 xE.heap (.refl _ _)) (λy xJ d=>P5 (P5 (P5 ?_))) λe s' f=>f.2 s'.heap λ_ _ _ e=>e);obtain⟨o2,fin⟩:=d;show R4 _ _ (newTuple [x,y] >>= _) _ _ _;have n1: ∀ {b},b≠i1->b ∉ [i1]:=λh=>by simpa using h
  have n2: ∀ {b},b≠i2->b ∉ [i2]:=λh=>by simpa using h
  have HJ:=(y4.off o1 (n1 ap.z1)).off o2 (n2 ap.z2);have keep: ∀ {b o},b≠i1->b≠i2->h₀.get? b=some o->(xJ.heap.push {cls:= .type "tuple",data:= .seq #[x,y]}).get? b=some o:=λq1 q2 e=>G6 _ (o2.2 _ _ (n2 q2) (o1.2 _ _ (n1 q1) e))
  refine wpAny_bind (qG (P5 ⟨_,rfl,fin _ (λb o _ e=>G6 _ e) (R8 _ rfl) ?_ (keep ap.I1 ap.I2 z7) ⟨_,_,keep ap.O1 ap.O2 z8⟩⟩));exact let ⟨f,b,e,q⟩:=HJ;⟨f,b,G6 _ e,q⟩
 |true=>
  obtain⟨f0',b1',HK,_⟩:=y4;have note:=λ{P:Unit->G3->Prop} {E':G1->G3->Prop} (k: ∀h',h'.get? z=some (DA .ellipsis b1' TI TO)->Z6 z h₀ h'->P () {s with heap:=h'})=>
   wpAny_setField_rec (prog:=prog) (w:=w) (A:=A) (E:=E') (s:= {s with heap:=h₀}) (k:=0) (x:= .ellipsis) HK (by simp) k
  wp_walk using note
  intro xG y6 xQ;have xS:Off [z] s.heap xG:=x8.trans (.of xQ (by simp));have HL:=xQ.extBut _ _ ap.zO.symm z8;have HM:=xQ.extBut _ _ ap.zI.symm z7;have fell: ∀ {h:N9} {e:G1} {s':G3},h.get? z=some (DA .ellipsis b1' TI TO)->OG z h E e s'->R4 (S4 prog w) A (setField (.ref z) 0 .none) (λ_ s''=>E e s'') E s':=λhz' f=>
   wpAny_setField_rec (f.1 _ hz') (by simp) λh' _ same=>f.2 h' same.extBut
  have draw:=λ{P:G1->G3->Prop} {E':G1->G3->Prop} (k: ∀x xE,_->P x xE) (f: ∀e s',OG z xG E e s'->E' e s')=>T3 (go xG xS ⟨_,y6,rfl⟩) k f
  wp_walk using mL,draw
  case f=>exact λe s' f=>fell y6 f
  intro x xE ⟨o1,go2⟩;have HN:=o1.2 _ _ (by simp [ap.z1]) y6;have HP:X1 xE.heap TO a' b':=o1.2 _ _ (by simp [ap.O1]) HL;have HQ:=o1.2 _ _ (by simp [ap.I1]) HM;have lay:=λ{P:Unit->G3->Prop} {E':G1->G3->Prop}=>lM (prog:=prog) (w:=w) (A:=A) (E:=E') (s:=xE) (k:=0) (x:=x) (Q:=P) HP
  wp_walk using lay
  intro xK y8 xT
  replace y8:X1 xK TO x b':=y8
  have z9:=xT.extBut _ _ ap.zO HN;have HR:=xT.extBut _ _ ap.OI.symm HQ;have draw2:=λ{P:G1->G3->Prop} {E':G1->G3->Prop} (k: ∀y xJ,_->P y xJ) (f: ∀e s',OG z xK E e s'->E' e s')=>T3 (go2 xK (.of xT (by simp))) k f
  wp_walk using mL,draw2
  case f=>exact λe s' f=>fell z9 f
  intro y xJ ⟨o2,fin⟩;have HS:=o2.2 _ _ (by simp [ap.z2]) z9;have HU:X1 xJ.heap TO x b':=o2.2 _ _ (by simp [ap.O2]) y8;have HV:=o2.2 _ _ (by simp [ap.I2]) HR;have lay2:=λ{P:Unit->G3->Prop} {E':G1->G3->Prop}=>lM (prog:=prog) (w:=w) (A:=A) (E:=E') (s:=xJ) (k:=1) (x:=y) (Q:=P) HU
  wp_walk using lay2
  intro xU y9 y2
  replace y9:X1 xU TO x y:=y9
  have HA:=y2.extBut _ _ ap.zO HS;have HW:=y2.extBut _ _ ap.OI.symm HV
  wp_walk
  have size:xU.objs.size=xJ.heap.objs.size:=y2.1;have zp:=G6 {cls:= .type "tuple",data:= .seq #[x,y]} HA;have zu:=aJ (dS λv=>v.setIfInBounds 0 (bH xU.objs.size)) zp rfl;have zu':=aJ (dS λv=>v.setIfInBounds 1 (aR false)) zu rfl;have away: ∀ {b o},b≠z->(xU.push {cls:= .type "tuple",data:= .seq #[x,y]}).get? b=some o->
   (((xU.push {cls:= .type "tuple",data:= .seq #[x,y]}).update z (dS λv=>v.setIfInBounds 0 (bH xU.objs.size))).update z (dS λv=>v.setIfInBounds 1 (aR false))).get? b=some o:=λn e=>
   (bI ..).extBut _ _ n ((bI ..).extBut _ _ n e)
  have new:=away (b:=xU.objs.size) (λq=>L0 _ (q ▸ D8 HA)) (R8 _ rfl);refine⟨_,rfl,?_⟩;have done:=fin _ (λb o n e=>away (λq=>n (by simp [q])) (G6 _ (y2.extBut _ _ (λq=>n (by simp [q])) e))) (size ▸ new) ⟨_,_,zu',.inr ⟨_,_,rfl⟩⟩ (away ap.zI.symm (G6 _ HW)) ⟨_,_,away ap.zO.symm (G6 _ y9)⟩;rw [<-size] at done;exact done
theorem Co {tg : T1} {v : G1} {Q : Unit → G3 → Prop} (Z : ZipAt s.heap z TI TO) (k : ∀ h', ZipAt h' z TI TO → Off [z] s.heap h' → Q () { s with heap := h' }) : R4 (S4 prog w) A (X6 tg (.ref z) v) Q E s := by
  obtain ⟨f0, b1, hz, hf⟩ := id Z
  have stay := k s.heap Z (.refl _ _)
  have gone : R4 (S4 prog w) A (updateField z 0 .none) Q E s := wpAny_setField_rec (k := 0) (x := .none) hz (by simp) fun h' z' same => k h' ⟨_, _, z', .inl rfl⟩ (.of same (by simp))
  unfold X6
  cases tg <;> first
    | exact P5 stay
    | (cases v <;> wp_walk <;> first
        | exact stay
        | (split
           · exact wpAny_bind (dN gone)
           · exact P5 stay))
theorem Mo {Q:P8 G1->G3->Prop}(Z:ZipAt s.heap z TI TO)
 (h:R4 (S4 prog w) A.in1 (Builtin.«zip.__next__» ⟨[.ref z],[]⟩) (λfin s'=> ∃v,fin= .done (.ret v)/\Q (some v) s') (λe s'=>s'.TypeIs e "StopIteration" /\Q none s') s):R4 (S4 prog w) A (pO (.ref z)) Q E s:=by
 obtain⟨_,_,hz,_⟩:=Z;have ty:s.TypeIs (.ref z) "zip" :=⟨_,hz,rfl⟩;have asked:=K2 pE ty F.entry_zip_next h (F.args_zip_next_1 _);exact wpAny_bind (iQ (I0 (name:= "__next__") ty pE (T3 asked (λ_ _ q=>P5 q) λe s' q=>wpAny_bind (oI (b:=true) q.1 isSubtype_stop (P5 q.2)))))
theorem Mp {l1 l2:G9}{xs ys:N0 G1}{P:fK->G3->Prop}(t1:s.heap.IsTuple l1 xs)(t2:s.heap.IsTuple l2 ys)
 (h: ∀h' n,n=s.heap.objs.size->ZipAt h' (n+4) (n+2) (n+3)->X1 h' (n+2) (.ref n) (.ref (n+1))->(∃a b,X1 h' (n+3) a b)->h'.IsTupleIter n l1 0->h'.IsTupleIter (n+1) l2 0->
  (∀b o,s.heap.get? b=some o->h'.get? b=some o)->P (.done (.ret (.ref (n+4)))) {s with heap:=h'}):
 R4 (S4 prog w) A (Builtin.«zip.__new__» ⟨[.type "zip",.ref l1,.ref l2],[]⟩) P E s:=by
 have fine:=sub_zip;obtain⟨hp,g,d,tk,os⟩:=s;have first:rO (Shared.heap ⟨hp,g,d,tk,os⟩) l1 xs:=t1
 have second: ∀o,rO (Shared.heap ⟨hp.push o,g,d,tk,os⟩) l2 ys:=λo=>Heap.IsTuple.push t2 o
 wp_walk using U6 first,U6 (second _)
 have size: ∀ (q:N9) o,(q.push o).objs.size=q.objs.size+1:=λq o=>aU ..
 have n2: ∀o1 o2,((hp.push o1).push o2).objs.size=hp.objs.size+2:=λ_ _=>by rw [size,size]
 have n3: ∀o1 o2 o3,(((hp.push o1).push o2).push o3).objs.size=hp.objs.size+3:=λ_ _ _=>by rw [size,n2]
 have n4: ∀o1 o2 o3 o4,((((hp.push o1).push o2).push o3).push o4).objs.size=hp.objs.size+4:=λ_ _ _ _=>by rw [size,n3]
 have up: ∀ {q:N9} {b o} o',q.get? b=some o->(q.push o').get? b=some o:=λo' e=>G6 o' e
 show P (.done (.ret (.ref (Heap.objs (((((hp.push _).push _).push _).push _))).size))) _;rw [n4];have at1:=R8 (hp.push {cls:= .type "tuple_iterator",data:= .fields #[.ref l1,.int 0 0]}) (o:= {cls:= .type "tuple_iterator",data:= .fields #[.ref l2,.int 0 0]}) rfl;rw [size] at at1;have top: ∀ (q:N9) (o:Obj) (m:G8),q.objs.size=m->o.isFreed=false->(q.push o).get? m=some o:=λq o m e f=>e ▸ R8 q f
 refine h _ hp.objs.size rfl ⟨.none,false,(top _ _ _ (n4 ..) rfl).trans ?_,.inl rfl⟩ ((up _ (up _ (top _ _ _ (n2 ..) rfl))).trans ?_) ⟨.none,.none,up _ (top _ _ _ (n3 ..) rfl)⟩ ⟨_,up _ (up _ (up _ (up _ (R8 _ rfl)))),rfl,rfl⟩ ⟨_,up _ (up _ (up _ at1)),rfl,rfl⟩ λb o e=>up _ (up _ (up _ (up _ (up _ e))))
 ·simp only [size,dU];rfl
 ·simp only [size];rfl
theorem XL {T newId initId:Q4}{pos:G0 G1}{kw:G0 (Str×G1)}{Made:G1->G3->Prop}{Q:G1->G3->Prop}(ft:tQ T newId initId)(fits:checkTypeCall T ⟨pos,kw⟩=pure ())
 (made:R4 (S4 prog w) A.in1 (call (.builtin newId) (.type T::pos) kw) Made E s)
 (begun: ∀o xE,Made o xE->xE.TypeIs o T/\R4 (S4 prog w) A.in1 (rP o "__init__" pos kw) (λr xJ=>r=some .none/\Q o xJ) E xE):
 R4 (S4 prog w) A (call (.type T) pos kw) Q E s:=by
 have f1:=ft.notType;have f2:=ft.canCreate;have f3:=ft.made;have f4:=ft.sub;obtain⟨_,_,f5⟩:=ft.mro;have first:=λ{Q':G1->G3->Prop} (k: ∀o xE,Made o xE->Q' o xE)=>T3 (E':=E) made k λ_ _ z=>z
 refine cG (kO (P5 ⟨Code.quiet_builtin _ (by decide +kernel),pF F.entry_type_call ?_⟩));rw [Around.under_plain (weight_type_call_type T pos kw) (units_type_call_type T pos kw)]
 wp_walk using first
 intro o xE m;obtain⟨ty,then_⟩:=begun o xE m;refine wpAny_bind (oI (b:=true) ty f4 (wpAny_bind (E3 (T3 then_ (λr xJ q=> ?_) λ_ _ z=>z))));obtain⟨rfl,q⟩:=q;exact P5 q
theorem UC {T newId:Q4}{o:G1}{pos:G0 G1}{kw:G0 (Str×G1)}{Q:P8 G1->G3->Prop}(ft:tQ T newId "object.__init__")(other:(some newId !=some "object.__new__")=true)(ty:s.TypeIs o T)
 (fits:argsOk "object.__init__" ⟨o::pos,kw⟩)(q:Q (some .none) s):R4 (S4 prog w) A (rP o "__init__" pos kw) Q E s:=by
 have f1:=ft.init.lookup;have f2:=ft.made;refine I0 ty ft.init (wpAny_call_entry_kw ft.init ty F.entry_object_init ?_ fits);cases e:(!pos.isEmpty|| !kw.isEmpty)<;>(wp_walk;exact⟨_,rfl,q⟩)
theorem UD {l1 l2:G9}{xs ys:N0 G1}{Q:G1->G3->Prop}(t1:s.heap.IsTuple l1 xs)(t2:s.heap.IsTuple l2 ys)
 (h: ∀h' n,n=s.heap.objs.size->ZipAt h' (n+4) (n+2) (n+3)->X1 h' (n+2) (.ref n) (.ref (n+1))->(∃a b,X1 h' (n+3) a b)->h'.IsTupleIter n l1 0->h'.IsTupleIter (n+1) l2 0->
  (∀b o,s.heap.get? b=some o->h'.get? b=some o)->Q (.ref (n+4)) {s with heap:=h'}):R4 (S4 prog w) A (call (.type "zip") [.ref l1,.ref l2]) Q E s:=
 XL (Made:=λo xE=>xE.TypeIs o "zip" /\Q o xE) rQ (F.typeCall_zip_2 _ _)
  (cG (dY F.called_zip.plain F.entry_zip_new (sI (F.newCall_zip_2 _ _) (Mp t1 t2 λh' n en zp i o a b k=>⟨let ⟨_,_,e,_⟩:=zp;⟨_,e,rfl⟩,h h' n en zp i o a b k⟩))))
  λ_ _ ⟨ty,q⟩=>⟨ty,UC rQ (by decide) ty (F.args_object_init_3 _ _ _) ⟨rfl,q⟩⟩
end
def Itz (K : G2) (a b : G9) : It :=
  ⟨fun i H => ∃ xs ys x y, SqT K H a xs ∧ SqT K H b ys ∧ xs[i]? = some x ∧ ys[i]? = some y,
   fun i H x H' => ∃ p v u, H p = none ∧ (∀ xs, SqT K H a xs → xs[i]? = some v) ∧ (∀ ys, SqT K H b ys → ys[i]? = some u) ∧ x = .ref p ∧ H' = upd H p (.tup [v, u]),
   fun i H => ∃ xs ys, SqT K H a xs ∧ SqT K H b ys ∧ (xs.length ≤ i ∨ ys.length ≤ i)⟩
theorem UE {Q:P8 G1->G3->Prop}{E:G1->G3->Prop}{s:G3}{z TI TO i1 i2 l1 l2:G9}{xs ys:N0 G1}(calm:A.handled=none)(ap:ZApart z TI TO i1 i2)(n1:l1 ∉ [z,TO,i1,i2])(n2:l2 ∉ [z,TO,i1,i2])(i12:i1≠i2)
 (Z:ZipAt s.heap z TI TO)(hTI:X1 s.heap TI (.ref i1) (.ref i2))(hTO: ∃a b,X1 s.heap TO a b)(t1:s.heap.IsTuple l1 xs)(t2:s.heap.IsTuple l2 ys)(at1:s.heap.IsTupleIter i1 l1 i)(at2:s.heap.IsTupleIter i2 l2 i)
 (pair: ∀x y h' tk,xs[i]? =some x->ys[i]? =some y->(∀b o,b ∉ [z,TO,i1,i2]->s.heap.get? b=some o->h'.get? b=some o)->X1 h' s.heap.objs.size x y->ZipAt h' z TI TO->X1 h' TI (.ref i1) (.ref i2)->(∃a b,X1 h' TO a b)->
  h'.IsTupleIter i1 l1 (i+1)->h'.IsTupleIter i2 l2 (i+1)->Q (some (.ref s.heap.objs.size)) {s with heap:=h',toks:=tk})
 (ended:(xs.size<=i\/ys.size<=i)-> ∀h' tk,(∀b o,b ∉ [z,TO,i1,i2]->s.heap.get? b=some o->h'.get? b=some o)->Q none {s with heap:=h',toks:=tk}):R4 (S4 prog w) A (pO (.ref z)) Q E s:=by
 have sub: ∀ {b:G9} {W:G0 G9},b ∉ [z,TO,i1,i2]->(∀c∈W,c∈ [z,TO,i1,i2])->b ∉ W:=λn m q=>n (m _ q)
 have z': ∀c∈ [z],c∈ [z,TO,i1,i2]:=by simp
 have o': ∀c∈ [TO],c∈ [z,TO,i1,i2]:=by simp
 have a': ∀c∈ [i1],c∈ [z,TO,i1,i2]:=by simp
 have b': ∀c∈ [i2],c∈ [z,TO,i1,i2]:=by simp
 have zo: ∀c∈ [z,TO],c∈ [z,TO,i1,i2]:=by simp
 refine Mo Z (DB ap Z hTI hTO λxG xS isz=> ?_);have u1:xG.IsTuple l1 xs:=t1.at λo e=>xS.2 _ _ (sub n1 z') e
 have v1:xG.IsTupleIter i1 l1 i:=at1.at λo e=>xS.2 _ _ (by simp [ap.z1.symm]) e
 have stop: ∀ {h h':N9} {it e:G9},z≠it->oZ it h h'->(∃o,h.get? z=some o/\o.cls= .type "zip")->(∃o,h'.get? e=some o/\o.cls= .type "StopIteration")->e≠z:=λnz x ⟨o,e1,c1⟩ ⟨o2,e2,c2⟩ q=>by
  subst q;rw [x _ _ nz e1] at e2;cases e2;rw [c1] at c2;simp at c2
 cases hx:xs[i]? with
 |none=>
  refine zT (s:= {s with heap:=xG}) calm v1 u1 hx λh' e grown st=>⟨λo q=>grown _ _ ap.z1 q,λh2 k=>⟨?_,ended (.inl (gI.mp hx)) _ _ λb o n q=>k _ _ (λy=>sub n z' (by simp [y])) (grown _ _ (λy=>sub n a' (by simp [y])) (xS.2 _ _ (sub n z') q))⟩⟩
  have ne:=stop ap.z1 grown isz st;obtain⟨o,q,c⟩:=st;exact⟨o,k _ _ ne q,c⟩
 |some x=>
  refine Zg (s:= {s with heap:=xG}) v1 u1 hx λh1' w1 xQ=>⟨.of xQ (by simp),λxK xW=> ?_⟩
  have all: ∀ {b o},b ∉ [z,TO,i1,i2]->s.heap.get? b=some o->xK.get? b=some o:=λn e=>xW.2 _ _ (sub n o') (xQ.extBut _ _ (λy=>sub n a' (by simp [y])) (xS.2 _ _ (sub n z') e))
  have u2:xK.IsTuple l2 ys:=t2.at λo e=>all n2 e
  have v2:xK.IsTupleIter i2 l2 i:=at2.at λo e=>xW.2 _ _ (by simp [ap.O2.symm]) (xQ.extBut _ _ i12.symm (xS.2 _ _ (by simp [ap.z2.symm]) e))
  have w2:xK.IsTupleIter i1 l1 (i+1):=w1.at λo e=>xW.2 _ _ (by simp [ap.O1.symm]) e
  have isz2: ∃o,xK.get? z=some o/\o.cls= .type "zip" :=let ⟨o,e,c⟩:=isz;⟨o,xW.2 _ _ (by simp [ap.zO]) (xQ.extBut _ _ ap.z1 e),c⟩;cases hy:ys[i]? with
  |none=>
   refine zT (s:= {s with heap:=xK}) calm v2 u2 hy λh' e grown st=>⟨λo q=>grown _ _ ap.z2 q,λh3 k=>⟨?_,ended (.inr (gI.mp hy)) _ _ λb o n q=>k _ _ (λy=>sub n z' (by simp [y])) (grown _ _ (λy=>sub n b' (by simp [y])) (all n q))⟩⟩
   have ne:=stop ap.z2 grown isz2 st;obtain⟨o,q,c⟩:=st;exact⟨o,k _ _ ne q,c⟩
  |some y=>
   refine Zg (s:= {s with heap:=xK}) v2 u2 hy λh2' w3 xT=>⟨.of xT (by simp),λxN kept new zip its out=> ?_⟩
   have size:h2'.objs.size=s.heap.objs.size:=by rw [xT.1,xW.1,xQ.1,xS.1]
   have done:=pair x y xN s.toks hx hy (λb o n e=>kept _ _ (sub n zo) (xT.extBut _ _ (λy=>sub n b' (by simp [y])) (all n e))) (size ▸ new) zip its out
    (w2.at λo e=>kept _ _ (by simp [ap.z1.symm,ap.O1.symm]) (xT.extBut _ _ i12 e)) (w3.at λo e=>kept _ _ (by simp [ap.z2.symm,ap.O2.symm]) e)
   rw [<-size] at done;exact done
theorem GB (n:G8):ZApart (n+4) (n+2) (n+3) n (n+1):=by
 have d: ∀ {i j:G8},i≠j->n+i≠n+j:=λh q=>h (Nat.add_left_cancel q)
 exact⟨d (j:=0) (by decide),d (by decide),d (by decide),d (by decide),d (j:=0) (by decide),d (by decide),d (by decide),d (j:=0) (by decide),d (by decide)⟩
theorem UF {c:G8}(h:c<n):c ∉ [n+4,n+3,n,n+1]:=by
 simp only [D2,T9,or_false,u8];omega
theorem Mq {c:G8}(h:c∈ [n+4,n+2,n+3,n,n+1]):n<=c:=by
 simp only [D2,T9,or_false] at h;omega
theorem QJ {E:G1->G3->Prop}{s:G3}{z TI TO:G9}{Q:G1->G3->Prop}(Z:ZipAt s.heap z TI TO)(h:Q (.ref z) s):R4 (S4 prog w) A (pQ (.ref z)) Q E s:=by
 obtain⟨_,_,hz,_⟩:=Z;have ty:s.TypeIs (.ref z) "zip" :=⟨_,hz,rfl⟩;exact wpAny_pyIter_slot ty pG (K2 pG ty F.entry_zip_iter (P5 ⟨_,rfl,_,_,ty,F.slot_zip_next.lookup,h⟩) (F.args_zip_iter_1 _))
theorem Mr {P:S0}{K:G2}(tg:T1)(l1 l2 z TI TO i1 i2:G9)(ap:ZApart z TI TO i1 i2)(n1:l1 ∉ [z,TO,i1,i2])(n2:l2 ∉ [z,TO,i1,i2])(i12:i1≠i2):
 Turn P w K tg (Itz K l1 l2) [z,TI,TO,i1,i2] z (λi h=>ZipAt h z TI TO/\X1 h TI (.ref i1) (.ref i2)/\(∃a b,X1 h TO a b)/\h.IsTupleIter i1 l1 i/\h.IsTupleIter i2 l2 i):=by
 have inW: ∀ {b:G9},b ∉ [z,TI,TO,i1,i2]->b ∉ [z,TO,i1,i2]:=λn q=>n (by simp only [D2] at q ⊢;rcases q with q|q|q|q|q<;>simp [q] at*)
 have there: ∀ {i:G8} {h:N9},(ZipAt h z TI TO/\X1 h TI (.ref i1) (.ref i2)/\(∃a b,X1 h TO a b)/\h.IsTupleIter i1 l1 i/\h.IsTupleIter i2 l2 i)-> ∀b∈ [z,TI,TO,i1,i2],∃o,h.get? b=some o/\ ∀v,o.data≠ .cell v:=λ⟨⟨_,_,a1,_⟩,a2,⟨_,_,a3⟩,⟨o4,a4,_,d4⟩,⟨o5,a5,_,d5⟩⟩ b hb=>by
  simp only [D2,T9,or_false] at hb;rcases hb with e|e|e|e|e<;>subst e
  ·exact⟨_,a1,λv z=>by cases z⟩
  ·exact⟨_,a2,λv z=>by cases z⟩
  ·exact⟨_,a3,λv z=>by cases z⟩
  ·exact⟨o4,a4,λv z=>by rw [d4] at z;cases z⟩
  ·exact⟨o5,a5,λv z=>by rw [d5] at z;cases z⟩
 refine⟨by simp,λi h st=>there st,λi h h' ⟨⟨f,b,a1,qf⟩,a2,⟨x,y,a3⟩,a4,a5⟩ q=>⟨⟨f,b,q z (by simp) _ a1,qf⟩,q TI (by simp) _ a2,⟨x,y,q TO (by simp) _ a3⟩,a4.at λo e=>q i1 (by simp) o e,a5.at λo e=>q i2 (by simp) o e⟩,?_,?_,λ_ _ _ _ _ st h=>QJ st.1 h⟩
 ·intro X hP hw hK hc i pins s σ H E I hf st hg;subst hP hw hK;obtain⟨xs,ys,x,y,hq,hq2,hx,hy⟩:=hg;obtain⟨its,rv,p,_⟩:=I.tuple hq;obtain⟨jts,rw',p2,_⟩:=I.tuple hq2;obtain⟨u,hu,ru⟩:=rv.get hx;obtain⟨v,hv,rv'⟩:=rw'.get hy;obtain⟨a1,a2,a3,a4,a5⟩:=id st;have lt: ∀b∈ [z,TI,TO,i1,i2],b≠s.heap.objs.size:=λb hb=>let ⟨_,e,_⟩:=there st b hb;T5 (D8 e)
  have l1':i<its.toArray.size:=by have:=(P9.mp hu).1;simpa using this
  have l2':i<jts.toArray.size:=by have:=(P9.mp hv).1;simpa using this
  refine UE (I.ok.hd hc) ap n1 n2 i12 a1 a2 a3 p p2 a4 a5 (λx' y' h' tk hx' hy' kept new zip it out w1 w2=>⟨_,rfl,?_⟩) λends=>absurd ends (by omega)
  have ex:x'=u:=by simp only [kZ] at hx';rw [hu] at hx';cases hx';rfl
  have ey:y'=v:=by simp only [kZ] at hy';rw [hv] at hy';cases hy';rfl
  subst ex ey;refine Co (s:= {s with heap:=h',toks:=tk}) zip λh2 zip2 off=> ?_
  have hn:H s.heap.objs.size=none:=I.hok.fresh (P4 _);have nz: ∀ {b},b≠z->b ∉ [z]:=λh=>by simpa using h
  have T2:X1 h2 s.heap.objs.size x' y':=off.2 _ _ (nz (lt z (by simp)).symm) new;refine⟨.ref s.heap.objs.size,upd H s.heap.objs.size (.tup [x,y]),?_,rfl,⟨_,x,y,hn,λws hw=>by rw [I.tuple_inj hw hq];exact hx,λws hw=>by rw [I.tuple_inj hw hq2];exact hy,rfl,rfl⟩,
   ⟨zip2,off.2 _ _ (nz ap.zI.symm) it,let ⟨a,b,e⟩:=out;⟨a,b,off.2 _ _ (nz ap.zO.symm) e⟩,w1.at λo e=>off.2 _ _ (nz ap.z1.symm) e,w2.at λo e=>off.2 _ _ (nz ap.z2.symm) e⟩,λb hb=> ?_⟩
  ·refine I.turnLaid (h':=h2) (t':=tk) (ch:= [z,TI,TO,i1,i2]) (λb u hb q=>off.2 _ _ (λy=>inW hb (by simp only [P3] at y;simp [y])) (kept b u (inW hb) q)) hf (P4 _) ⟨by show 2<=sizeLine;decide,[x',y'],.cons ru (.cons rv' .nil),⟨_,T2,rfl,rfl,_,rfl⟩⟩
  ·rw [jm (lt b hb)];exact(hf b hb).1
 ·intro X hP hw hK hc i pins s σ H E I hf st hg;subst hP hw hK;obtain⟨xs,ys,hq,hq2,hl⟩:=hg;obtain⟨its,rv,p,_⟩:=I.tuple hq;obtain⟨jts,rw',p2,_⟩:=I.tuple hq2;have e1:=rv.length;have e2:=rw'.length;obtain⟨a1,a2,a3,a4,a5⟩:=id st;refine UE (I.ok.hd hc) ap n1 n2 i12 a1 a2 a3 p p2 a4 a5 (λx' y' h' tk hx' hy' _ _ _ _ _ _ _=> ?_) λ_ h' tk kept=>⟨rfl,I.turnL (ch:= [z,TI,TO,i1,i2]) (λb o hb q=>kept b o (inW hb) q) hf⟩
  have b1:=(gJ.mp hx').1;have b2:=(gJ.mp hy').1;simp only [D6] at b1 b2;omega
section
variable {X:Cx}
def SN (K:G2)(ta:TA):TI:=λσ H R=>ta σ H λvs H1=> ∃a b,vs= [.ref a,.ref b]/\(∃xs,SqT K H1 a xs)/\(∃ys,SqT K H1 b ys)/\R (Itz K a b) H1
theorem OH {tg:T1}{a b:T1}{ta:TA}{p pos:Pos}(hg:Gl X "zip")(hm:X.mg "zip" =none)(ha:PA X [a,b] ta)(hs:D7 [a,b] X.env= [(false,A7 a X.env),(false,A7 b X.env)]:=by rfl)(hs2:D7 [b] X.env= [(false,A7 b X.env)]:=by rfl):
 PI X tg (.Call (.Name "zip" p) [a,b] [] pos) (SN X.K ta):=by
 intro pins s σ H R I h;refine uU (Wg I hg hm boot_zip (Q0 (thn (ha pos pins s σ H _ I h) λus s1 ⟨vs,H1,I1,r1,q1⟩=> ?_) (by rw [hs,hs2]) (by rw [hs2];rfl)));obtain⟨a,b,e,⟨xs,hq⟩,⟨ys,hq2⟩,q⟩:=q1;subst e;cases r1 with
 |cons r rr=>
  cases rr with
  |cons r' rr=>
   cases rr;cases r;cases r';obtain⟨its,rv,p,_⟩:=I1.tuple hq;obtain⟨jts,rw',p2,_⟩:=I1.tuple hq2;have la:a<s1.heap.objs.size:=by obtain⟨o,ho,_⟩:=p;exact D8 ho
   have lb:b<s1.heap.objs.size:=by obtain⟨o,ho,_⟩:=p2;exact D8 ho
   refine UD (show s1.heap.IsTuple a its.toArray from p) (show s1.heap.IsTuple b jts.toArray from p2) λh' n en z1 z2 z3 z4 z5 hk=> ?_
   subst en;refine QJ z1 ⟨s1.heap.objs.size+4,[s1.heap.objs.size+4,s1.heap.objs.size+2,s1.heap.objs.size+3,s1.heap.objs.size,s1.heap.objs.size+1],_,_,H1,rfl,I1.kept (t':=s1.toks) hk,
    Mr _ a b _ _ _ _ _ (GB _) (UF la) (UF lb) (T5 (U5 _)),⟨z1,z2,z3,z4,z5⟩,λc hc=> ?_,q⟩
   have hb':s1.heap.objs.size<=c:=Mq hc;exact I1.fpOk hb' (I1.hok.fresh hb')
end
def XM (ds es:G0 D):G0 D:=(ds.zip es).map λp=> .tup [p.1,p.2]
def iZ (ta:TAD):TID:=λσ h R=>ta σ h λxs h1=> ∃ds es,xs= [.tup ds,.tup es]/\R (λ_=>some (XM ds es)) h1
theorem Ms {ds es:G0 D}{d:D}(h:(XM ds es)[i]? =some d): ∃x y,ds[i]? =some x/\es[i]? =some y/\d= .tup [x,y]:=by
 unfold XM at h;rw [R5] at h;cases q:(ds.zip es)[i]? with
 |none=>rw [q] at h;cases h
 |some p=>
  rw [q] at h;obtain⟨x,y⟩:=p;rw [List.getElem?_zip_eq_some] at q;exact⟨x,y,q.1,q.2,(F7 h).symm⟩
section
variable {K:G2}
theorem Mt {H:Hp}{a b:G9}{vs us:G0 V}{ds es:G0 D}(hv:H a=some (.tup vs))(r:RelDs K H ds vs)(hu:H b=some (.tup us))(ru:RelDs K H es us):BJ K H (λ_=>some (XM ds es)) (Itz K a b):=λH' h' k rh ds' e i=>by
 cases e;have hv':=k.tup _ _ hv;have hu':=k.tup _ _ hu;have r':=r.mono k;have ru':=ru.mono k;refine⟨λd hd=> ?_,λhl=>⟨vs,us,SqT.of hv',SqT.of hu',?_⟩⟩
 ·obtain⟨x,y,hx,hy,ed⟩:=Ms hd;subst ed;obtain⟨v,e1,e2⟩:=r'.get hx;obtain⟨u,e3,e4⟩:=ru'.get hy;refine⟨⟨vs,us,v,u,SqT.of hv',SqT.of hu',e1,e3⟩,λx' H'' ⟨p,v',u',hp,hx',hy',ex,eH⟩=> ?_⟩;subst ex eH;have ev:v'=v:=by have:=hx' vs (SqT.of hv');rw [e1] at this;exact(F7 this).symm
  have eu:u'=u:=by have:=hy' us (SqT.of hu');rw [e3] at this;exact(F7 this).symm
  subst ev eu;have k2:Kept H' (upd H' p (.tup [v',u'])):= .new hp;exact⟨k2,RelH.new rh hp,p,[v',u'],rfl,jn,_,_,rfl,e2.mono k2,_,_,rfl,e4.mono k2,rfl⟩
 ·have l1:=r.length;have l2:=ru.length;unfold XM at hl;rw [G7,cA] at hl;omega
theorem OJ {ta:TAD}: ∀σ H R,LI K (iZ ta) σ H R->SN K (LA K ta) σ H R:=λσ H R ⟨xD,h,Rd,rs,rh,q,p⟩=>
 LA.bind rs rh q λds vs h1 H1 k1 rs1 rh1 r1 ⟨es,fs,e,q1⟩=>by
  subst e;obtain⟨v,w,e,r2,r3⟩:=zM r1;obtain⟨a,ws,e',hv,r⟩:=(show ∃a vs,v= .ref a/\H1 a=some (.tup vs)/\RelDs K H1 es vs from r2);obtain⟨b,us,e'',hu,r'⟩:=(show ∃a vs,w= .ref a/\H1 a=some (.tup vs)/\RelDs K H1 fs vs from r3);subst e' e'';exact⟨a,b,e,⟨ws,SqT.of hv⟩,⟨us,SqT.of hu⟩,p _ _ _ _ k1 rh1 (Mt hv r hu r') q1⟩
end
section
variable {X:Cx}
theorem UG {tg:T1}{a b:T1}{ta:TAD}{p pos:Pos}(hg:Gl X "zip")(hm:X.mg "zip" =none)(ha:JA X [a,b] ta)(hs:D7 [a,b] X.env= [(false,A7 a X.env),(false,A7 b X.env)]:=by rfl)(hs2:D7 [b] X.env= [(false,A7 b X.env)]:=by rfl):
 JI X tg (.Call (.Name "zip" p) [a,b] [] pos) (iZ ta):=⟨(OH hg hm ha.to hs hs2).imp OJ⟩
end
def inE (neg:N4):RD2:=λx y h Q=> ∃ (p:Q1) (ps:G0 Q1),ToP h x p/\(ToP h y (.list ps)\/ToP h y (.tuple ps))/\p.canLay0=true/\O0 ps=true/\p.depth<=60/\Q (.bl (neg !=ps.any λz=>F4 z p)) h
section
variable {X:Cx}
theorem DD (hu:X.A.units+64<cLine):OpQ X (B1 .In) (inE false):=by
 intro pins s σ H x y v u Q I rx ry h;obtain⟨dx,dy,h,Qd,r1,r2,rh,⟨p,ps,t1,t2,c1,c2,c3,qq⟩,post⟩:=h;obtain⟨as,a1⟩:=zt I rh t1 r1 rx;have hu':X.A.units+1+min (L5 ps) p.depth<cLine:=by have:=Z4 (L5 ps) p.depth;omega
 have q':Qd (.bl (ps.any λz=>F4 z p)) h:=by simpa using qq
 rcases t2 with t2|t2
 ·obtain⟨bs,b1⟩:=zt I rh t2 r2 ry;exact in_list_reads b1 a1 c2 c1 hu' ⟨.bl _,H,I,rfl,post (.bl _) _ _ _ (.refl H) rh rfl q'⟩
 ·obtain⟨bs,b1⟩:=zt I rh t2 r2 ry;exact in_tuple_reads b1 a1 c2 c1 hu' ⟨.bl _,H,I,rfl,post (.bl _) _ _ _ (.refl H) rh rfl q'⟩
theorem Wb (hu:X.A.units+64<cLine):OpQ X (B1 .NotIn) (inE true):=by
 intro pins s σ H x y v u Q I rx ry h;obtain⟨dx,dy,h,Qd,r1,r2,rh,⟨p,ps,t1,t2,c1,c2,c3,qq⟩,post⟩:=h;obtain⟨as,a1⟩:=zt I rh t1 r1 rx;have hu':X.A.units+1+min (L5 ps) p.depth<cLine:=by have:=Z4 (L5 ps) p.depth;omega
 have q':Qd (.bl (!ps.any λz=>F4 z p)) h:=by simpa using qq
 rcases t2 with t2|t2
 ·obtain⟨bs,b1⟩:=zt I rh t2 r2 ry;exact notIn_list_reads b1 a1 c2 c1 hu' ⟨.bl _,H,I,rfl,post (.bl _) _ _ _ (.refl H) rh rfl q'⟩
 ·obtain⟨bs,b1⟩:=zt I rh t2 r2 ry;exact notIn_tuple_reads b1 a1 c2 c1 hu' ⟨.bl _,H,I,rfl,post (.bl _) _ _ _ (.refl H) rh rfl q'⟩
theorem Mu {neg:N4}{i:P0}{ns:G0 P0}{h:HD}{Q:KD}(q:Q (.bl (neg !=decide (i∈ns))) h):inE neg (.int i) (.tup (ns.map D.int)) h Q:=by
 refine⟨.int i,ns.map .int,rfl,.inr ⟨_,rfl,wv h ns⟩,rfl,yD ns,by simp [aA],?_⟩;have e:((ns.map dQ).any λz=>F4 z (.int i))=decide (i∈ns):=by
  rw [F8,nM,aZ,E4];constructor
  ·rintro ⟨x,hx,e⟩;have e':(x==i)=true:=e;have:x=i:=by simpa using e'
   rw [<-this];exact hx
  ·intro hi;exact⟨i,hi,show (i==i)=true by simp⟩
 rw [e];exact q
theorem EQ {tg:T1}{p pos:Pos}{a b:T1}{ta:TAD}(hg:Gl X "range")(hm:X.mg "range" =none)(ha:JA X [a,b] ta)(hs:D7 [a,b] X.env= [(false,A7 a X.env),(false,A7 b X.env)]:=by rfl)(hs2:D7 [b] X.env= [(false,A7 b X.env)]:=by rfl):JI X tg (.Call (.Name "range" p) [a,b] [] pos) (iR2 ta):=⟨(Pl hg hm ha.to hs hs2).imp Er⟩
end
end L2
namespace L2
open PySem PySem.Spec PyProof.Rows
section
variable {prog:S0}{w:N8}{A:T8}{E:G1->G3->Prop}{s:G3}
theorem wx: ∀ {vs:G0 G1} {ns:G0 P0},V9 vs ns-> ∀ {i:G8} {v:G1},vs[i]? =some v-> ∃t,v= .int (ns.getD i 0) t/\i<ns.length
 |_,_,.nil,_,_,hv=>by simp at hv
 |_,_,.cons _ t _,0,_,hv=>⟨t,by simpa using hv.symm,by simp⟩
 |_,_,.cons _ _ r,i+1,_,hv=>by
  obtain⟨t,e,lt⟩:=wx r (i:=i) (by simpa using hv);exact⟨t,by simpa using e,by simpa using lt⟩
theorem Jw {l:G9}{o:Obj}(here:l<s.heap.objs.size): ∀b∈ [s.heap.objs.size,l],b<(s.heap.push o).objs.size:=λb hb=>by
 rw [aU];simp only [D2,T9,or_false] at hb;rcases hb with e|e<;>subst e
 ·exact U5 _
 ·exact dD here
theorem Jx {o:Obj}{h':N9}(k: ∀b u,b ∉ [s.heap.objs.size]->(s.heap.push o).get? b=some u->h'.get? b=some u): ∀b u,s.heap.get? b=some u->h'.get? b=some u:=λb u e=>
 k b u (λm=>absurd (D8 e) (by rw [P3.mp m];exact L0 _)) (G6 _ e)
end
section
variable {X:Cx}
theorem DE (hc:X.calm=true):CallR X (.builtin "min") (λxs H Q=> ∃ (a:G9) (ns:G0 P0),xs= [.ref a]/\ns≠ []/\(SqL X.K H a (ns.map V.int)\/SqT X.K H a (ns.map V.int))/\ ∀m∈ns,(∀x∈ns,m<=x)->Q (.int m) H):=by
 intro pins s σ H xs us Q I r h;obtain⟨a,ns,rfl,hne,hS,q⟩:=h;obtain⟨u,rfl,ru⟩:=Jp r;cases ru;have fin: ∀ {its:G0 G1} (hi:V9 its ns) (v:G1) (h':N9) (tk:G8),its.toArray[argBest (λi j=>decide (ns.getD i 0<ns.getD j 0)) (its.toArray.size-1)]? =some v->(∀b o,s.heap.get? b=some o->h'.get? b=some o)->EP X pins σ Q v {s with heap:=h',toks:=tk}:=λ{its} hi v h' tk hv kept=>by
  obtain⟨t,rfl,lt⟩:=wx hi (show its[_]? =some v by simpa using hv);refine⟨.int _,H,I.kept kept,⟨t,rfl⟩,q _ (getD_mem lt) λx hx=> ?_⟩;obtain⟨j,hj,rfl⟩:=mem_getD hx;exact(argBest_lt (λi=>ns.getD i 0) (its.toArray.size-1)).2 j (by rw [D6,hi.length];omega)
 refine call_min_walk ?_;rcases hS with hS|hS
 ·obtain⟨its,rv,pl,_⟩:=I.list hS;have hi:=Wx rv;obtain⟨o,e,r⟩:=id pl.isList;have W:=kH (prog:=X.prog) (w:=X.w) (A:=X.A.in1) (I.ok.hd hc) s.heap.objs.size a (T5 (D8 e)) its.toArray;exact V8 pl.isList ⟨_,_,_,_,_,_,_,rfl,W,⟨⟨_,R8 _ rfl,rfl,rfl⟩,⟨o,G6 _ e,r⟩⟩,Jw (D8 e),by rw [D6,hi.length];exact E7.mpr hne,CmpOf.ints_lt (λi=>ns.getD i 0) (λi v hv=>(wx hi (by simpa using hv)).imp λ_ z=>z.1),λv h' tk hv k=>fin hi v h' tk hv (Jx k)⟩
 ·obtain⟨its,rv,pl,_⟩:=I.tuple hS;have hi:=Wx rv;obtain⟨o,e,r⟩:=id pl;have W:=sM (prog:=X.prog) (w:=X.w) (A:=X.A.in1) (I.ok.hd hc) s.heap.objs.size a (T5 (D8 e)) its.toArray;exact U6 (show s.heap.IsTuple a its.toArray from pl) ⟨_,_,_,_,_,_,_,rfl,W,⟨⟨_,R8 _ rfl,rfl,rfl⟩,⟨o,G6 _ e,r⟩⟩,Jw (D8 e),by rw [D6,hi.length];exact E7.mpr hne,CmpOf.ints_lt (λi=>ns.getD i 0) (λi v hv=>(wx hi (by simpa using hv)).imp λ_ z=>z.1),λv h' tk hv k=>fin hi v h' tk hv (Jx k)⟩
theorem DF (hc:X.calm=true):CallR X (.builtin "max") (λxs H Q=> ∃ (a:G9) (ns:G0 P0),xs= [.ref a]/\ns≠ []/\(SqL X.K H a (ns.map V.int)\/SqT X.K H a (ns.map V.int))/\ ∀m∈ns,(∀x∈ns,x<=m)->Q (.int m) H):=by
 intro pins s σ H xs us Q I r h;obtain⟨a,ns,rfl,hne,hS,q⟩:=h;obtain⟨u,rfl,ru⟩:=Jp r;cases ru;have fin: ∀ {its:G0 G1} (hi:V9 its ns) (v:G1) (h':N9) (tk:G8),its.toArray[argBest (λi j=>decide (ns.getD i 0>ns.getD j 0)) (its.toArray.size-1)]? =some v->(∀b o,s.heap.get? b=some o->h'.get? b=some o)->EP X pins σ Q v {s with heap:=h',toks:=tk}:=λ{its} hi v h' tk hv kept=>by
  obtain⟨t,rfl,lt⟩:=wx hi (show its[_]? =some v by simpa using hv);refine⟨.int _,H,I.kept kept,⟨t,rfl⟩,q _ (getD_mem lt) λx hx=> ?_⟩;obtain⟨j,hj,rfl⟩:=mem_getD hx;exact(argBest_gt (λi=>ns.getD i 0) (its.toArray.size-1)).2 j (by rw [D6,hi.length];omega)
 refine call_max_walk ?_;rcases hS with hS|hS
 ·obtain⟨its,rv,pl,_⟩:=I.list hS;have hi:=Wx rv;obtain⟨o,e,r⟩:=id pl.isList;have W:=kH (prog:=X.prog) (w:=X.w) (A:=X.A.in1) (I.ok.hd hc) s.heap.objs.size a (T5 (D8 e)) its.toArray;exact V8 pl.isList ⟨_,_,_,_,_,_,_,rfl,W,⟨⟨_,R8 _ rfl,rfl,rfl⟩,⟨o,G6 _ e,r⟩⟩,Jw (D8 e),by rw [D6,hi.length];exact E7.mpr hne,CmpOf.ints_gt (λi=>ns.getD i 0) (λi v hv=>(wx hi (by simpa using hv)).imp λ_ z=>z.1),λv h' tk hv k=>fin hi v h' tk hv (Jx k)⟩
 ·obtain⟨its,rv,pl,_⟩:=I.tuple hS;have hi:=Wx rv;obtain⟨o,e,r⟩:=id pl;have W:=sM (prog:=X.prog) (w:=X.w) (A:=X.A.in1) (I.ok.hd hc) s.heap.objs.size a (T5 (D8 e)) its.toArray;exact U6 (show s.heap.IsTuple a its.toArray from pl) ⟨_,_,_,_,_,_,_,rfl,W,⟨⟨_,R8 _ rfl,rfl,rfl⟩,⟨o,G6 _ e,r⟩⟩,Jw (D8 e),by rw [D6,hi.length];exact E7.mpr hne,CmpOf.ints_gt (λi=>ns.getD i 0) (λi v hv=>(wx hi (by simpa using hv)).imp λ_ z=>z.1),λv h' tk hv k=>fin hi v h' tk hv (Jx k)⟩
def Cp (B:G0 P0->P0->Prop):RDn:=λds h Q=> ∃ (ns:G0 P0) (h':HD),ns≠ []/\Sub h' h/\(ds= [.tup (ns.map D.int)]\/ ∃a,ds= [.lst a]/\h a=some (ns.map D.int))/\ ∀m∈ns,B ns m->Q (.int m) h'
abbrev Ay:RDn:=Cp λns m=> ∀x∈ns,m<=x
abbrev TQ:RDn:=Cp λns m=> ∀x∈ns,x<=m
theorem QK {B:G0 P0->P0->Prop}{f:G1}(c:CallR X f (λxs H Q=> ∃ (a:G9) (ns:G0 P0),xs= [.ref a]/\ns≠ []/\(SqL X.K H a (ns.map V.int)\/SqT X.K H a (ns.map V.int))/\ ∀m∈ns,B ns m->Q (.int m) H)):ye X f (Cp B):=
 c.imp λxs H Q ⟨ds,h,Qd,r,rh,⟨ns,h',hne,hs,e,q⟩,p⟩=>by
  rcases e with e|⟨a,e,ha⟩
  ·subst e;obtain⟨v,e,r1⟩:=jB r;obtain⟨a,vs,e1,hH,r2⟩:=(show ∃a vs,v= .ref a/\H a=some (.tup vs)/\RelDs X.K H (ns.map D.int) vs from r1);rw [zN r2] at hH;subst e e1;exact⟨a,ns,rfl,hne,.inr (SqT.of hH),λm m1 m2=>p (.int m) _ _ _ (.refl H) (rh.sub hs) rfl (q m m1 m2)⟩
  ·subst e;obtain⟨v,e,r1⟩:=jB r;obtain⟨vs,hH,r2⟩:=rh a _ ha;have e1:v= .ref a:=r1.1;rw [zN r2] at hH;subst e e1;exact⟨a,ns,rfl,hne,.inl (SqL.of hH),λm m1 m2=>p (.int m) _ _ _ (.refl H) (rh.sub hs) rfl (q m m1 m2)⟩
theorem DG (hc:X.calm=true):ye X (.builtin "min") Ay:=QK (DE hc)
theorem DH (hc:X.calm=true):ye X (.builtin "max") TQ:=QK (DF hc)
end
structure ShowOk (p:Q1):Prop where
 sh:p.showable=true
 dp:p.depth<=60
 ln:p.shown.length<=sizeLine
mutual
variable {h:HD}
theorem YS: ∀ {p:Q1} {d:D},ToP h d p->p.hasDict=false
 | .none,_,_=>rfl
 | .bool _,_,_=>rfl
 | .int _,_,_=>rfl
 | .str _,_,_=>rfl
 | .tuple ps,d,t=>by
  obtain⟨ds,_,ts⟩:=(show ∃ds,d= .tup ds/\ToPs h ds ps from t);simpa only [qH] using noDict_ToPs ts
 | .list ps,d,t=>by
  obtain⟨a,ds,_,_,ts⟩:=(show ∃a ds,d= .lst a/\h a=some ds/\ToPs h ds ps from t);simpa only [qH] using noDict_ToPs ts
 | .dict _,_,t=>(show False from t).elim
theorem noDict_ToPs: ∀ {ps:G0 Q1} {ds:G0 D},ToPs h ds ps->nU ps=false
 | [],_,_=>rfl
 |p::ps,ds,t=>by
  obtain⟨d,r,_,t1,t2⟩:=(show ∃d r,ds=d::r/\ToP h d p/\ToPs h r ps from t);simp only [nU,YS t1,noDict_ToPs t2,Bool.or_self]
end
def ER:RDn:=λds h Q=> ∃d p,ds= [d]/\ToP h d p/\ShowOk p/\Q (.str p.shown) h
theorem QL {X:Cx}{k:G8}(hr:Room k X.A):ye X (.builtin "repr") ER:=by
 intro pins s σ H xs us Q I r h;obtain⟨ds,h,Qd,rs,rh,⟨d,p,e,t,so,q⟩,post⟩:=h;subst e;obtain⟨v,e,r1⟩:=jB rs;subst e;obtain⟨u,rfl,ru⟩:=Jp r;have fin: ∀t',EP X pins σ Q (.str p.shown t') {s with toks:=s.toks+1}:=λt'=>⟨.str p.shown,H,I.tok _,⟨_,rfl⟩,post (.str _) _ _ _ (.refl H) rh rfl q⟩
 have fin0: ∀t',EP X pins σ Q (.str p.shown t') s:=λt'=>⟨.str p.shown,H,I,⟨_,rfl⟩,post (.str _) _ _ _ (.refl H) rh rfl q⟩
 have big: ∀a,u= .ref a->R4 (S4 X.prog X.w) X.A (call (.builtin "repr") [.ref a]) (EP X pins σ Q) X.xe s:=λa e=>by
  obtain⟨as,rd⟩:=zt I rh t r1 ru;subst e;exact repr_of_reads' rd so.sh (PyData.noDict_hsm (YS t)) hr.gd (by have:=hr.units;have:=so.dp;omega) (λ_ _ e=>e)
   (λh' u' tk hk=>⟨.str p.shown,H,I.kept hk,⟨_,rfl⟩,post (.str _) _ _ _ (.refl H) rh rfl q⟩) so.ln
 cases p with
 |none=>
  cases (show d= .non from t);cases (show v= .non from r1);cases (show u= .none from ru);exact PySem.P.repr_of_none (fin _)
 |bool b=>
  cases (show d= .bl b from t);cases (show v= .bl b from r1);cases (show u= .bool b from ru);exact PySem.P.repr_of_bool (fin _)
 |int i=>
  cases (show d= .int i from t);cases (show v= .int i from r1);obtain⟨k,rfl⟩:=(show ∃t,u=aX i t from ru);exact PySem.P.repr_of_int (by simpa [PyData.showable] using so.sh) (fin _)
 |str x=>
  cases (show d= .str x from t);cases (show v= .str x from r1);obtain⟨k,rfl⟩:=(show ∃t,u=iT x t from ru);exact PySem.P.repr_of_str (fin _) so.ln
 |tuple ps=>
  obtain⟨ds,e,ts⟩:=(show ∃ds,d= .tup ds/\ToPs h ds ps from t);subst e;obtain⟨a,vs,e,hH,rs⟩:=(show ∃a vs,v= .ref a/\H a=some (.tup vs)/\RelDs X.K H ds vs from r1);subst e;cases (show u= .ref a from ru);exact big a rfl
 |list ps=>
  obtain⟨a,ds,e,ha,ts⟩:=(show ∃a ds,d= .lst a/\h a=some ds/\ToPs h ds ps from t);subst e;have e:v= .ref a:=r1.1;subst e;cases (show u= .ref a from ru);exact big a rfl
 |dict _=>exact(show False from t).elim
theorem Mv {ta:TAD}{g:TGD}{tb:TSD}{E:EndsD}{σ:SD}{h1:HD}(m:P0)(n:G8)(W:G8->SD->HD->Prop)(hm:0<=m)(hm2:m<1000000)(hn:n<1000000)
 (ht: ∀R:G0 D->HD->Prop,R [.int m,.int (m+(n:P0))] h1->ta σ h R)(w0:W 0 σ h1)(done: ∀xC h',W n xC h'->E.nx xC h')
 (turn: ∀i xC h',i<n->W i xC h'->g (.int (m+(i:P0))) xC h' λxF h2=>tb (Nxt E λxI h4=>i+1<=n/\W (i+1) xI h4) xF h2):Fu (iR2 ta) g tb E σ h:=by
 refine ht _ ⟨m,m+(n:P0),rfl,⟨by omega,by omega,by omega,by omega⟩,n,λi xC h'=>i<=n/\W i xC h',⟨N3 _,w0⟩,?_⟩;rintro i xC h' ⟨hi,w⟩;have en:(m+(n:P0)-m).toNat=n:=by omega
 refine⟨_,rfl,by simp [en],λhl=> ?_,λd hd=> ?_⟩
 ·have:i=n:=by simp [en] at hl;omega
  subst this;exact done _ _ w
 ·rw [en,R5] at hd;cases hx:(R6 n)[i]? with
  |none=>rw [hx] at hd;cases hd
  |some y=>
   rw [hx] at hd;cases hd;obtain⟨hi2,e⟩:=P9.mp hx;simp at hi2 e;subst e;exact turn i xC h' hi2 w
def ND:RDn:=λds h Q=> ∃x y p,ds= [x,y]/\ToP h x p/\ToP h y p/\ShowOk p/\Q (.bl true) h
theorem Cq {r:G0 P0}{Q:KD}(hne:r≠ [])(q: ∀m∈r,(∀x∈r,m<=x)->Q (.int m) h):Ay [Jn r] h Q:=⟨r,h,hne,Sub.refl h,.inl rfl,q⟩
def ZA (r:G0 P0):P0:=(r.min?).getD 0
theorem DI {r:G0 P0}{m:P0}(h:m∈r)(l: ∀x∈r,m<=x):m=ZA r:=by
 unfold ZA;rw [k5.mpr ⟨h,l⟩];rfl
theorem YT {r:G0 P0}(h:r≠ []):ZA r∈r/\ ∀x∈r,ZA r<=x:=by
 cases e:r.min? with
 |none=>exact absurd (List.min?_eq_none_iff.mp e) h
 |some m=>
  have:=k5.mp e;unfold ZA;rw [e];exact this
theorem VC {n e:G8}{T:G0 (G0 P0)}(h:Sq n e T)(ne: ∀r∈T,r≠ []){m:P0}(m1:m∈T.map ZA)(m2: ∀x∈T.map ZA,m<=x):decide (m>0)=zv T:=by
 rw [F8,E4];unfold zv;simp only [S8,E4];constructor
 ·intro hm r hr x hx;have a:=m2 _ (N6.mpr ⟨r,hr,rfl⟩);have b:=(YT (ne r hr)).2 x hx;omega
 ·intro z;obtain⟨r,hr,rfl⟩:=N6.mp m1;have a:=(YT (ne r hr)).1;have b:=z r hr _ a;have c:=h.nn r hr _ a;omega
section
variable {α β:Type}{i i':G8}{js:G0 G8}{ti ti':TID}{te:TED}{σ:SD}{h:HD}{Q:KD}{j:ItD}
theorem TR (xs:G0 α)(c:α->D)(g:α->P0)(hz:xs.length<=1000)(hj:j h=some (xs.map c))(ht: ∀R:ItD->HD->Prop,R j h->ti σ h R)
 (he: ∀x∈xs,∀Q':KD,Q' (.int (g x)) h->te ((jO js σ).set i (some (c x))) h Q')(hne:xs≠ [])(hq: ∀m∈xs.map g,(∀x∈xs.map g,m<=x)->Q (.int m) h):dCB Ay (zr (Jm (bN i) js ti vI te) ZK) σ h Q:=by
 show Jm (bN i) js ti vI te σ h (λx h1=>Ay [x] h1 Q);exact lcA xs c (λx=> .int (g x)) hz hj ht he λp hp=>⟨xs.map g,h,λz=>hne (List.map_eq_nil_iff.mp z),Sub.newAt (Sub.refl h) hp,.inr ⟨p,rfl,by rw [jc,M7];rfl⟩,hq⟩
end
theorem XN (b:N4):ShowOk (.bool b):=by cases b<;>exact⟨by decide,by decide,by decide⟩
end L2
namespace L2
open PySem PySem.Spec PyProof.Rows PySem.SeqAt
theorem Mw {X:Cx}(hu:X.A.units+64<cLine):MtM X "list.index" (λx vs H Q=> ∃ (a:G9) (y:V) (dy:D) (h:HD) (p:Q1) (ps:G0 Q1) (j:G8) (z:Q1),x= .ref a/\vs= [y]/\RelD X.K H dy y/\RelH X.K h H/\ToP h (.lst a) (.list ps)/\ToP h dy p/\p.canLay0=true/\O0 ps=true/\p.depth<=60/\j<1000000/\ps[j]? =some z/\F4 z p=true/\(∀m y,m<j->ps[m]? =some y->F4 y p=false)/\Q (.int (j:P0)) H):=by
 intro pins s σ H x vs v us Q I rx rv h;obtain⟨a,y,dy,h,p,ps,j,z,rfl,rfl,rd,rh,t1,t2,c1,c2,c3,hj,hz,hit,hno,q⟩:=h;cases rx;obtain⟨u,rfl,ru⟩:=Jp rv;obtain⟨a',ds,ea,ha,ts⟩:=(show ∃a' ds,D.lst a= .lst a'/\h a'=some ds/\ToPs h ds ps from t1);cases ea;obtain⟨ws,hH,_⟩:=rh a ds ha;obtain⟨as,r1⟩:=zt I rh t1 (show RelD X.K H (.lst a) (.ref a) from ⟨rfl,ws,hH⟩) (show RelV (.ref a) (.ref a) from rfl);obtain⟨bs,r2⟩:=zt I rh t2 rd ru;cases r1 with
 |list h1 h2 h3 h4=>
  rename_i o its n cs;have em:=readsAll_map ps _ _ c2 h4;have gm: ∀m (hm:m<its.size),ps[m]? =some (readOf s.heap its[m]):=λm hm=>by
   rw [<-em,R5,A9,Array.getElem?_eq_getElem hm];rfl
  have hlen:its.size=ps.length:=by rw [<-em,G7,C7]
  have hjs:j<its.size:=by rw [hlen];exact(P9.mp hz).1
  have hu':X.A.units+1+min (L5 ps) p.depth<cLine:=by have:=Z4 (L5 ps) p.depth;omega
  obtain⟨oc,od,odt,osl⟩:=o;simp only at h2 h3;subst h2 h3;refine gA F.slot_list_index ⟨_,h1,rfl⟩ F.entry_list_index (F.args_list_index_2 _ _) (list_indexAt a its n od osl u (λy=>F4 (readOf s.heap y) p) j hjs (by omega) ?_ ?_) ⟨h1,items_eqAt h4 r2 c2 c1 hu',?_⟩
  ·have:=gm j hjs;rw [hz] at this;injection this with this
   rw [<-this];exact hit
  ·intro m hm hmj;exact hno m _ hmj (gm m hm)
  ·exact⟨.int (j:P0),H,I.tok _,⟨_,rfl⟩,q⟩
def TU (to te:TED):TED:=λσ h Q=>to σ h λx h1=> ∃a,x= .lst a/\te σ h1 λy h2=> ∃ (p:Q1) (ps:G0 Q1) (j:G8) (z:Q1),ToP h2 (.lst a) (.list ps)/\ToP h2 y p/\p.canLay0=true/\O0 ps=true/\p.depth<=60/\j<1000000/\ps[j]? =some z/\F4 z p=true/\(∀m y,m<j->ps[m]? =some y->F4 y p=false)/\Q (.int (j:P0)) h2
section
variable {X:Cx}{o e i:T1}{to te ti:TED}{apos cpos:Pos}
theorem TV (hu : X.A.units + 64 < cLine) (ho : JE X o to) (he : JE X e te) (hbase : bR o "index" X.env (A7 o X.env) = A7 o X.env := by rfl)
    (hfew : ((K0 cpos (D7 [e] X.env)).all (fun x => !x.1) && (lE cpos (dX [] X.env)).all (fun x => x.1.isSome) && decide ([e].length + ([] : G0 cY).length + (if ([] : G0 cY).isEmpty then 0 else 1) < 30)) = true := by rfl)
    (hline : (apos.endLine == cpos.line) = true := by rfl) (hs : D7 [e] X.env = (false, A7 e X.env) :: D7 [] X.env := by rfl) (hplain : (K0 cpos (D7 [] X.env)).any (·.1) = false := by rfl) :
    JE X (.Call (.Attribute o "index" apos) [e] [] cpos) (TU to te) :=
  ⟨(Bg cR rF rG (Mw hu) ho.to (wR he.to pa_nil hs) hbase hfew hline hs hplain).imp
    fun σ H Q ⟨xD, h, Qd, rs, rh, t, p⟩ => LE.bind rs rh t fun d v h1 H1 k1 rs1 rh1 r1 ⟨a, e, q⟩ => by
      subst e
      obtain ⟨e1, vs, hH⟩ := (show v = .ref a ∧ ∃ vs, H1 a = some (.lst vs) from r1)
      subst e1
      refine ⟨.inl ⟨rfl, vs, SqL.of hH⟩, ?_⟩
      refine LE.bind rs1 rh1 q fun y u h2 H2 k2 rs2 rh2 r2 ⟨pd, ps, j, z, t1, t2, c1, c2, c3, hj, hz, hit, hno, q2⟩ => ?_
      exact ⟨a, u, y, h2, pd, ps, j, z, rfl, rfl, r2, rh2, t1, t2, c1, c2, c3, hj, hz, hit, hno, p (.int _) _ _ _ (k1.trans k2) rh2 rfl q2⟩⟩
end
section
variable {α:Type}{i i':G8}{js:G0 G8}{ti:TID}{te:TED}{σ:SD}{h:HD}{Q:KD}{j:ItD}
theorem TW (xs:G0 α)(c c' g:α->D)(hz:xs.length<=1000)(hj:j h=some (xs.map λx=> .tup [c x,c' x]))(ht: ∀R:ItD->HD->Prop,R j h->ti σ h R)
 (he: ∀x∈xs,∀Q':KD,Q' (g x) h->te (((jO js σ).set i (some (c x))).set i' (some (c' x))) h Q')(hq: ∀p,h p=none->Q (.lst p) (zV h p (xs.map g))):Jm (b2 i i') js ti vI te σ h Q:=by
 refine ht _ ⟨xs.length,λk ys h'=>h'=h/\ys=(xs.take k).map g,⟨rfl,by simp⟩,?_⟩;rintro k ys h' ⟨rfl,rfl⟩;refine⟨by simp only [G7,T4];exact R9 (ju (by omega)),_,hj,by simp,λhl p hp=> ?_,λd hd=> ?_⟩
 ·rw [M9 (by simpa using hl)];exact hq p hp
 ·rw [R5] at hd;cases hx:xs[k]? with
  |none=>rw [hx] at hd;cases hd
  |some x=>
   rw [hx] at hd;cases hd;refine⟨_,⟨_,_,rfl,rfl⟩,?_⟩;unfold vI;dsimp only;rw [S2 rfl];refine he x (P6 hx) _ ⟨h',Sub.refl _,rfl,?_⟩;rw [F9,hx];simp
theorem DJ (xs:G0 α)(c c':α->D)(g:α->N4)(hz:xs.length<=1000)(hj:j h=some (xs.map λx=> .tup [c x,c' x]))(ht: ∀R:ItD->HD->Prop,R j h->ti σ h R)
 (he: ∀x∈xs,∀Q':KD,Q' (.bl (g x)) h->te (((jO js σ).set i (some (c x))).set i' (some (c' x))) h Q')(hq:Q (.bl (xs.all g)) h):dCB BW (zr (Jm (b2 i i') js ti vI te) ZK) σ h Q:=by
 show Jm (b2 i i') js ti vI te σ h (λx h1=>BW [x] h1 Q);exact TW xs c c' (λx=> .bl (g x)) hz hj ht he λp hp=>⟨p,xs.map g,rfl,by rw [jc,M7];rfl,by rw [zL hp,K8];exact hq⟩
end
def IsS (n:G8)(S:G0 G8):Prop:= ∃p:G8->N4,S=(R6 n).filter p
variable {n:G8}{S:G0 G8}
theorem IsS.lt (h:IsS n S){i:G8}(hi:i∈S):i<n:=by
 obtain⟨p,rfl⟩:=h;exact S9.mp (X5.mp hi).1
theorem IsS.len (h:IsS n S):S.length<=n:=by
 obtain⟨p,rfl⟩:=h;have:=U4 p (R6 n)
 rwa [C6] at this
theorem IsS.rise (h:IsS n S):S.Pairwise (· < ·):=by
 obtain⟨p,rfl⟩:=h;exact G0.pairwise_lt_range.filter p
def WD (n:G8)(T:G0 (G0 P0))(S:G0 G8):G0 G8:=(R6 n).filter λj=>S.any λi=>decide (ent T i j≠0)
def itF {α:Type}(f:α->α)(x:α):G8->α
 |0=>x
 |k+1=>f (itF f x k)
theorem UH {α:Type}[DecidableEq α]: ∀ {l m:G0 α},l.Nodup->(∀x∈l,x∈m)->l.length<=m.length
 | [],_,_,_=>N3 _
 |a::l,m,nd,h=>by
  have hm:=h a R7;have h2:l.length<=(m.erase a).length:=UH (aD.mp nd).2 λx hx=>by
   have hxa:x≠a:=λe=>(aD.mp nd).1 (e ▸ hx)
   exact(List.mem_erase_of_ne hxa).mpr (h x (S6 _ hx))
  rw [List.length_erase_of_mem hm] at h2;have:=List.length_pos_of_mem hm;simp only [R1];omega
def QM (S:G0 G8):Q1:=Dr (vJ S)
theorem XO (h:HD)(S:G0 G8):ToP h (jJ S) (QM S):=by rw [Vy];exact⟨_,rfl,wv h _⟩
theorem UI (h:HD): ∀Ss:G0 (G0 G8),ToPs h (Ss.map jJ) (Ss.map QM)
 | []=>rfl
 |S::Ss=>⟨_,_,rfl,XO h S,UI h Ss⟩
theorem YU (r:G0 P0):(Dr r).canLay0=true:=by unfold Dr;simp only [gH];exact yD r
theorem UJ (r:G0 P0):(Dr r).depth<=2:=by unfold Dr;simp only [aA];have:=Zf r;omega
theorem YV: ∀a b:G0 P0,bU (a.map dQ) (b.map dQ)=decide (a=b)
 | [],[]=>by simp [bU]
 | [],_::_=>by simp [bU]
 |_::_,[]=>by simp [bU]
 |x::a,y::b=>by
  show ((x==y)&&bU (a.map .int) (b.map .int))=_;rw [YV a b,F8];simp
theorem XQ (a b:G0 P0):F4 (Dr a) (Dr b)=decide (a=b):=YV a b
theorem DK {a b:G0 G8}(h:vJ a=vJ b):a=b:=by
 have:=congrArg (i4 fM) h;unfold vJ at this;simpa [M7,dF] using this
theorem DL (a b:G0 G8):F4 (QM a) (QM b)=decide (a=b):=by
 unfold QM;rw [XQ,F8,E4,E4];exact⟨DK,λe=>by rw [e]⟩
theorem Zh (r:G0 P0):shaped (Dr r)=true:=by
 unfold shaped;rw [YU,D0 (by have:=UJ r;omega)];rfl
theorem DM {α:Type}(xs:G0 α):vM xs (some 1) none=xs.drop 1:=by
 unfold vM;cases xs with
 |nil=>simp
 |cons x xs=>simp [HT.sIx]
theorem XR (S:G0 G8):XM (S.map λ(k:G8)=>D.int (k:P0)) (vM (S.map λ(k:G8)=>D.int (k:P0)) (some 1) none)=(S.zip (S.drop 1)).map λp=>D.tup [.int (p.1:P0),.int (p.2:P0)]:=by
 rw [DM];unfold XM;rw [<-mJ,rR,M7];rfl
theorem QN: ∀ {S:G0 G8},S.Pairwise (· < ·)-> ∀p∈S.zip (S.drop 1),p.1<p.2
 | [],_,p,hp=>by simp at hp
 | [a],_,p,hp=>by simp at hp
 |a::b::l,h,p,hp=>by
  have h':=J4.mp h;rcases D2.mp (show p∈(a,b)::(b::l).zip ((b::l).drop 1) from hp) with e|e
  ·subst e;exact h'.1 b R7
  ·exact QN h'.2 p e
theorem GC {e:G8}{T:G0 (G0 P0)}(hT:Sq n e T)(hS:IsS n S){j:G8}(hj:j<n){m:P0}(m1:m∈0::S.map λi=>ent T i j)(m2: ∀x∈0::S.map λi=>ent T i j,x<=m):decide (m>0)=S.any λi=>decide (ent T i j≠0):=by
 rw [F8,E4,aZ];constructor
 ·intro z;rcases D2.mp m1 with e|e
  ·omega
  ·obtain⟨i,hi,rfl⟩:=N6.mp e;exact⟨i,hi,D0 (by omega)⟩
 ·rintro ⟨i,hi,z⟩;have z':=H0 z;have a:=(hT.ent_nn (hS.lt hi) hj).1;have b:=m2 _ (S6 _ (N6.mpr ⟨i,hi,rfl⟩));omega
theorem IsS.more {k:G8}(h:IsS k S)(b:N4):IsS (k+1) (if b=true then S++ [k] else S):=by
 obtain⟨p,rfl⟩:=h;refine⟨λi=>if i=k then b else p i,?_⟩;rw [eQ,gK];have e:(R6 k).filter (λi=>if i=k then b else p i)=(R6 k).filter p:=List.filter_congr λi hi=>by
  rw [S3 (by have:=S9.mp hi;omega)]
 rw [e];cases b<;>simp
theorem IsS.nil (n:G8):IsS n []:=⟨λ_=>false,by simp⟩
structure Enc {α:Type}[DecidableEq α](e:α->D)(p:α->Q1):Prop where
 to: ∀ (h:HD) a,ToP h (e a) (p a)
 lay: ∀a,(p a).canLay0=true
 dp: ∀a,(p a).depth<=60
 eq: ∀a b,F4 (p a) (p b)=decide (a=b)
def mk1 (n:G8)(T:G0 (G0 P0))(M:G0 (G0 P0)):G0 (G0 P0):=zc n (Jv n M T)
def GD (n:G8)(T:G0 (G0 P0))(i:G8):G0 (G0 P0):=itF (mk1 n T) (zc n T) i
theorem DN (n:G8)(T:G0 (G0 P0)): ∀i,∃M,GD n T i=zc n M
 |0=>⟨T,rfl⟩
 |_+1=>⟨_,rfl⟩
theorem WE (n:G8)(T:G0 (G0 P0))(i:G8):Sq n 1 (GD n T i):=by
 obtain⟨M,e⟩:=DN n T i;rw [e];exact Sq.mark M
theorem QP {e:G8}{T:G0 (G0 P0)}(h:Sq n e T)(hn:n<=8): ∀i,GD n T i=zc n (yY n T (i+1))
 |0=>by
  show zc n T=zc n (Jv n (Pc n) T);rw [QD h hn]
 |i+1=>by
  show zc n (Jv n (GD n T i) T)=zc n (Jv n (yY n T (i+1)) T);rw [QP h hn i,ZZ (Sq.mark (n:=n) _) h,ZZ (h.pow hn (i+1)) h,UB]
def RP (n:G8)(T:G0 (G0 P0))(k i j:G8):Prop:=ent (yY n T k) i j≠0
section
variable {n e:G8}{T:G0 (G0 P0)}
theorem Jy (h:Sq n e T)(hn:n<=8)(a b:G8){i j:G8}(hi:i<n)(hj:j<n):RP n T (a+b) i j↔ ∃k,k<n/\RP n T a i k/\RP n T b k j:=by
 unfold RP;rw [pow_add h hn a b];exact zW (h.pow hn a) (h.pow hn b) hi hj
theorem Zi {i j:G8}(hi:i<n)(hj:j<n):RP n T 0 i j↔i=j:=by
 unfold RP;show ent (Pc n) i j≠0↔_;unfold Pc;rw [Wz hi hj]
 by_cases z:i=j
 ·simp [z]
 ·simp [z]
theorem NE (h:Sq n e T)(hn:n<=8): ∀ (m:G8) {i j:G8},i<n->j<n->RP n T m i j-> ∃v:G8->G8,v 0=i/\v m=j/\(∀t,t<=m->v t<n)/\ ∀t,t<m->RP n T 1 (v t) (v (t+1))
 |0,i,j,hi,hj,r=>by
  have:=(Zi hi hj).mp r;exact⟨λ_=>i,rfl,this,λ_ _=>hi,λt ht=>by omega⟩
 |m+1,i,j,hi,hj,r=>by
  obtain⟨k,hk,r1,r2⟩:=(Jy h hn m 1 hi hj).mp r;obtain⟨v,v0,vm,vl,vr⟩:=NE h hn m hi hk r1;refine⟨λt=>if t<=m then v t else j,?_,?_,λt _=> ?_,λt ht=> ?_⟩
  ·simp [v0]
  ·show (if m+1<=m then v (m+1) else j)=j;rw [S3 (by omega)]
  ·show (if t<=m then v t else j)<n;split
   ·exact vl t (by assumption)
   ·exact hj
  ·show RP n T 1 (if t<=m then v t else j) (if t+1<=m then v (t+1) else j);rw [S2 (by omega)]
   by_cases z:t+1<=m
   ·rw [S2 z];exact vr t (by omega)
   ·rw [S3 z,show t=m by omega,vm];exact r2
theorem XS (h:Sq n e T)(hn:n<=8){m:G8}{v:G8->G8}(vl: ∀t,t<=m->v t<n)(vr: ∀t,t<m->RP n T 1 (v t) (v (t+1)))(a:G8): ∀b,a+b<=m->RP n T b (v a) (v (a+b))
 |0,hb=>(Zi (vl a (by omega)) (vl a (by omega))).mpr rfl
 |b+1,hb=>(Jy h hn b 1 (vl a (by omega)) (vl _ hb)).mpr ⟨v (a+b),vl _ (by omega),XS h hn vl vr a b (by omega),vr (a+b) (by omega)⟩
theorem OK {n:G8}{v:G8->G8}(hv: ∀t,t<=n->v t<n): ∃a b,a<b/\b<=n/\v a=v b:=by
 by_cases z: ∃a b,a<b/\b<=n/\v a=v b
 ·exact z
 ·exfalso;have nd:((R6 (n+1)).map v).Nodup:=by
   unfold List.Nodup;rw [Y2];refine qV (λ{a b} _ hb hab=> ?_) (List.pairwise_lt_range (n:=n+1));intro e;exact z ⟨a,b,hab,by have:=S9.mp hb;omega,e⟩
  have:=UH nd (m:=R6 n) λx hx=>by
   obtain⟨t,ht,e⟩:=N6.mp hx;rw [<-e];exact S9.mpr (hv t (by have:=S9.mp ht;omega))
  simp at this;omega
end
theorem Mx {e:G8}{T:G0 (G0 P0)}(h:Sq n e T)(i:G8):zc n (Jv n (GD n T i) (zc n T))=GD n T (i+1):=by
 show _=zc n (Jv n (GD n T i) T);rw [ZZ (WE n T i) (Sq.mark (n:=n) T),ZZ (WE n T i) h,UB]
theorem call_divmodB {X:Cx}:CallR X (.builtin "divmod") (λxs H Q=> ∃i j,xs= [.int i,.int j]/\(0<j/\j<2^200)/\ ∀p,H p=none->Q (.ref p) (upd H p (.tup [.int (i / j),.int (i%j)]))):=by
 intro pins s σ H xs us Q I r h;obtain⟨i,j,rfl,⟨h1,h2⟩,q⟩:=h;obtain⟨u,w',rfl,⟨t,rfl⟩,⟨t',rfl⟩⟩:=Ps r;refine divmod_int (by omega) ?_ (.inl (PyProof.noPylong_of_log2 ?_))
 ·rw [fT i (by omega),fU i (by omega)];have hn:H s.heap.objs.size=none:=I.hok.fresh (P4 _);refine⟨.ref s.heap.objs.size,_,?_,rfl,q _ hn⟩;refine I.laid (λb o e=>G6 _ e) (P4 _) ⟨by simp only [R1,N2];rw [oR];decide,[.int (i / j) s.toks,.int (i%j) (s.toks+1)],.cons ⟨_,rfl⟩ (.cons ⟨_,rfl⟩ .nil),?_⟩;exact⟨_,R8 s.heap rfl,rfl,rfl,0,rfl⟩
 ·have h3:j.natAbs<2^200:=WB (by omega) h2;have h4:=(Nat.log2_lt (by omega:j.natAbs≠0)).mpr h3;omega
def Cr:RDn:=λds h Q=> ∃i j:P0,ds= [.int i,.int j]/\(0<j/\j<2^200)/\Q (.tup [.int (i / j),.int (i%j)]) h
theorem GE {X:Cx}:ye X (.builtin "divmod") Cr:=call_divmodB.imp λxs H Q ⟨ds,h,Qd,r,rh,⟨i,j,e,c,q⟩,p⟩=>by
 subst e;obtain⟨v,w,e,r1,r2⟩:=zM r;cases (show v= .int i from r1);cases (show w= .int j from r2);exact⟨i,j,e,c,λa ha=>p (.tup [.int (i / j),.int (i%j)]) _ _ _ (.new ha) (rh.new ha) ⟨a,_,rfl,jn,.cons rfl (.cons rfl .nil)⟩ q⟩
def jF (d:D)(a b:P0):N4:=match d with
 | .int x=>decide (a<=x)&&decide (x<=b)
 |_=>false
def wU (d:D)(m:P0):N4:=match d with
 | .tup es=>es.all λx=>jF x 0 (m-1)
 |_=>false
def SO (d:D)(m lo hi:P0):N4:=match d with
 | .tup es=>(es.all λx=>jF x 0 (m-1))&&(decide (lo<=(es.length:P0))&&decide ((es.length:P0)<=hi))
 |_=>false
def vd:D->G8
 | .int x=>x.toNat
 |_=>0
def jG:D->G0 G8
 | .tup es=>es.map vd
 |_=> []
theorem Mz {d:D}{m:G8}{lo hi:P0}(h:SO d m lo hi=true):d=jJ (jG d)/\(∀i∈jG d,i<m)/\lo<=((jG d).length:P0)/\((jG d).length:P0)<=hi:=by
 cases d with
 |tup es=>
  simp only [SO,B8,S8,E4] at h;obtain⟨h1,h2,h3⟩:=h;have key: ∀x∈es,x= .int ((vd x:G8):P0)/\vd x<m:=λx hx=>by
   have:=h1 x hx;cases x with
   |int y=>
    simp only [jF,B8,E4] at this;refine⟨by show D.int y=D.int ((y.toNat:G8):P0);rw [bJ this.1],by show y.toNat<m;omega⟩
   |_=>exact i5 this
  refine⟨?_,λi hi=> ?_,by simpa [jG] using h2,by simpa [jG] using h3⟩
  ·show D.tup es=D.tup ((es.map vd).map λ(k:G8)=>D.int (k:P0));rw [M7]
   congr 1
   conv=>lhs;rw [<-Y3 es]
   exact B7 λx hx=>(key x hx).1
  ·obtain⟨x,hx,e⟩:=N6.mp hi;rw [<-e];exact(key x hx).2
 |_=>exact i5 h
theorem OL (x m:P0):decide (x<m)=decide (x<=m-1):=by
 by_cases h:x<m
 ·rw [D0 h,D0 (by omega)]
 ·rw [D1 h,D1 (by omega)]
end L2
set_option maxRecDepth 35000
namespace L2
open PySem PySem.Spec PyProof.Rows PySem.SeqAt
theorem DO {h:HD}{p a:G9}{ds:G0 D}(n:a≠p)(e:h a=some ds):vH h p a=some ds:=(S3 n).trans e
theorem VD {h h':HD}{p:G9}(b:But p h h'):Sub (vH h p) (vH h' p):=⟨λa ds e=>(by
 have e:(if a=p then none else h a)=some ds:=e;show (if a=p then none else h' a)=some ds
 by_cases z:a=p
 ·rw [S2 z] at e;cases e
 ·rw [S3 z] at e ⊢;exact b a ds z e),b.dc⟩
theorem MB {h:HD}{p:G9}:Sub (vH h p) h:= .drop h p
theorem vE {d:D}{m:G8}(h:wU d m=true):d=jJ (jG d)/\ ∀i∈jG d,i<m:=by
 cases d with
 |tup es=>
  have:=Mz (d:= .tup es) (m:=m) (lo:=0) (hi:=(es.length:P0)) (by
   show ((es.all λx=>jF x 0 ((m:P0)-1))&&(decide ((0:P0)<=(es.length:P0))&&decide ((es.length:P0)<=(es.length:P0))))=true;rw [show (es.all λx=>jF x 0 ((m:P0)-1))=true from h,D0 (by omega),D0 (by omega)];rfl)
  exact⟨this.1,this.2.1⟩
 |_=>exact i5 h
def UK (T:G0 (G0 P0))(W:G0 G8):N4:= !W.isEmpty&&(W.zip (W.drop 1)).all λp=>decide (ent T p.1 p.2>0)
def yW (T:G0 (G0 P0))(n:G8)(d:D):N4:=wU d n&&UK T (jG d)
def OM (T:G0 (G0 P0))(n p:G8):G0 G8:=(R6 n).filter λj=>decide (ent T p j>0)
def cnt (T:G0 (G0 P0))(n o:G8):G8->G8->P0
 |0,p=>if p=o then 1 else 0
 |t+1,p=>((OM T n p).map (cnt T n o t)).sum
section
variable {T:G0 (G0 P0)}{n o:G8}
def TY (T:G0 (G0 P0))(n o t p:G8):G8:=(OM T n p).findIdx λj=>decide (cnt T n o t j>0)
def nxt (T:G0 (G0 P0))(n o t p:G8):G8:=(OM T n p).getD (TY T n o t p) 0
def gp (T:G0 (G0 P0))(n o k one:G8):G8->G8
 |0=>one
 |i+1=>nxt T n o (k-1-i) (gp T n o k one i)
end
def gw (T:G0 (G0 P0))(n o k one i:G8):G0 G8:=(R6 (i+1)).map (gp T n o k one)
theorem vF {α:Type}{xs:G0 α}{x:α}(h1:1<=xs.length)(h:xs[xs.length-1]? =some x):atI xs (-1)=some x:=by
 unfold atI ixN;rw [S3 (by decide),S2 (by omega)];show xs[(-1+(xs.length:P0)).toNat]? =_;rw [show (-1+(xs.length:P0)).toNat=xs.length-1 by omega];exact h
end L2
namespace L2
open PySem PySem.Spec PyProof.Rows
theorem ObjOk.there {P:S0}{w:N8}{H:Hp}{h:N9}{a:G9}{o:HO}(x:ObjOk P w H h a o): ∃u,h.get? a=some u:=by
 cases o with
 |lst xs=>obtain⟨_,_,_,_,e⟩:=x;exact⟨_,e⟩
 |tup xs=>obtain⟨_,_,_,p⟩:=x;obtain⟨o,e,_⟩:=p;exact⟨_,e⟩
 |dK kvs=>obtain⟨_,_,_,_,o,_,_,e,_⟩:=x;exact⟨_,e⟩
 |dT kvs=>obtain⟨_,_,_,_,o,_,_,e,_⟩:=x;exact⟨_,e⟩
 |set S n=>obtain⟨o,_,_,_,e,_⟩:=x;exact⟨_,e⟩
 |ins C dx fs=>obtain⟨_,_,_,e,_⟩:=x;exact⟨_,e⟩
 |own y=>obtain⟨_,e⟩:=x;exact⟨_,e⟩
 |xd fs=>obtain⟨_,⟨_,_,_,e,_⟩,_⟩:=x;exact⟨_,e⟩
 |rng lo hi=>obtain⟨_,_,_,e⟩:=x;exact⟨_,e⟩
 |frz ob u=>obtain⟨e,_⟩:=x;exact⟨_,e⟩
 |tbl ps=>exact⟨_,(show h.get? a=some _ from x)⟩
 |met f y=>exact⟨_,(show h.get? a=some _ from x)⟩
 |ext φ=>obtain⟨_,⟨_,e⟩,_⟩:=x;exact⟨_,e⟩
theorem zC {h b b':N9}: ∀ {l:G0 Env},h.FunFrames b l->(∀a∈frs l,b'.get? a=none)->h.FunFrames b' l
 | [],_,_=>trivial
 |env::r,⟨hk,⟨L,o,hf,_,ho,hd⟩,hr⟩,n=>by
  refine⟨hk,⟨L,o,hf,n L ?_,ho,hd⟩,zC hr λa ha=>n a ?_⟩
  ·unfold frs;rw [W3,hf];exact .head _
  ·unfold frs;rw [W3,hf];exact .tail _ ha
structure Fly (h0:N9)(H:Hp)(h:N9)(x C:G9):Prop where
 ex: ∃ (oe:Obj) (vs:N0 G1) (a0:G1) (T:G9) (oT:Obj) (ts:N0 G1),h.get? x=some oe/\oe.cls= .ref C/\oe.data= .fields vs/\vs[0]? =some a0/\vs[1]? =some (.ref T)/\T≠x/\
  h.get? T=some oT/\oT.data= .fields ts/\ts[3]? =some .none/\H T=none/\h0.get? T=none
 nx:H x=none
 n0:h0.get? x=none
def CXR (P:S0)(w:N8):CXT:=λouter H s E e s'=> ∃x C H',e= .ref x/\s'.os=s.os/\fH s'.gens/\Un (frs outer) [] H H' s.heap s'.heap/\HOk P w H' s'.heap/\Fly s.heap H' s'.heap x C/\E (.ref C) none H'
structure Rz0 (X:Cx):Prop where
 stk:X.stack=X.env::X.outer
 fr:X.env.frame=some X.env.locals
 ex:X.ex= []
structure Rz (X:Cx)(E:XK):Prop extends Rz0 X where
 xe: ∀e s',R4 (S4 X.prog X.w) X.A (m7 X.env e) (λ_ s''=>CXR X.prog X.w X.outer X.H₀ X.s₀ E e s'') (λe' s''=>CXR X.prog X.w X.outer X.H₀ X.s₀ E e' s'') s'->X.xe e s'
section
variable {X:Cx}{pins:G0 (G9×Obj)}{σ:St}{H:Hp}{s:G3}{E:XK}{x C:G9}
theorem DP (I:Inv X pins σ H s)(Z:Rz0 X){ys:G0 G9}(hy: ∀y∈ys,H y=none/\X.s₀.heap.get? y=none){h':N9}
 (kb: ∀b o,s.heap.get? b=some o->b ∉ ys->b ∉ frs (X.env::X.outer)->h'.get? b=some o)
 (up: ∀b o,s.heap.get? b=some o->b∈frs (X.env::X.outer)-> ∃sl,h'.get? b=some {o with slots:=sl}):
 Un X.fs [] X.H₀ H X.s₀.heap h'/\HOk X.prog X.w H h'/\
  ∀T oT ts,h'.get? T=some oT->oT.data= .fields ts->(∀o,s.heap.get? T=some o->T∈ys\/T∈frs (X.env::X.outer))->H T=none/\X.s₀.heap.get? T=none:=by
 have nex: ∀b,b ∉ X.ex:=λb=>by rw [Z.ex];simp
 have neL: ∀b o,X.s₀.heap.get? b=some o->b≠X.env.locals:=λb o e=>T5 (S7 (D8 e) I.ok.above)
 have mem: ∀b,b∈frs (X.env::X.outer)↔b=X.env.locals\/b∈X.fs:=λb=>by
  show b∈List.filterMap _ _↔_;rw [W3,Z.fr];exact D2
 have nys: ∀b o,X.s₀.heap.get? b=some o->b ∉ ys:=λb o e z=>by rw [(hy b z).2] at e;cases e
 have trf: ∀b u,H b=some u->b ∉ ys/\b ∉ frs (X.env::X.outer):=λb u e=>by
  refine⟨λz=> ?_,λz=> ?_⟩
  ·rw [(hy b z).1] at e;cases e
  ·have:=I.stkFree b (by rw [Z.stk];exact z);rw [this] at e;cases e
 refine⟨⟨λb o e n hb hx=> ?_,λb o e n hb hx=> ?_,λb o e n hx=>I.base.free b o e n (nex b),λb o e hx=> ?_,I.base.tups,I.base.frzs,I.base.tbls⟩,λa o e=> ?_,λT oT ts hT hd hn=>⟨?_,?_⟩⟩
 ·exact kb b o (I.base.keep b o e n hb (nex b)) (nys b o e) λz=>((mem b).mp z).elim (neL b o e) hb
 ·obtain⟨sl,e1⟩:=I.base.slot b o e n hb (nex b);obtain⟨sl',e2⟩:=up b _ e1 ((mem b).mpr (.inr hb));exact⟨sl',e2⟩
 ·obtain⟨o',e1⟩:=I.base.there b o e (nex b)
  by_cases hb:b∈frs (X.env::X.outer)
  ·obtain⟨sl,e2⟩:=up b o' e1 hb;exact⟨_,e2⟩
  ·exact⟨_,kb b o' e1 (nys b o e) hb⟩
 ·refine(I.hok a o e).stay (λb u hb q=> ?_) (λ_ q=>q) λ_ _ q=>q
  rcases hb with rfl|hb
  ·exact kb b u q (trf b _ e).1 (trf b _ e).2
  ·exact kb b u q (trf b _ hb).1 (trf b _ hb).2
 ·cases q:H T with
  |none=>rfl
  |some u=>
   obtain⟨o,e⟩:=(I.hok T u q).there;exact absurd (hn o e) λz=>z.elim (trf T u q).1 (trf T u q).2
 ·cases q:X.s₀.heap.get? T with
  |none=>rfl
  |some o=>
   exfalso;obtain⟨o',e1⟩:=I.base.there T o q (nex T);rcases hn o' e1 with z|z
   ·exact nys T o q z
   ·rcases (mem T).mp z with z'|z'
    ·exact neL T o q z'
    ·obtain⟨_,o2,e2,nd⟩:=(show s.heap.FunFrames X.base (X.env::X.outer) from Z.stk ▸ I.stack).mem z;obtain⟨sl,e3⟩:=up T o2 e2 z;rw [hT] at e3;cases e3;exact nd ts hd
theorem DQ {Q:Unit->G3->Prop}{M:iA}{EE:G1->G3->Prop}(I:Inv X pins σ H s)(Z:Rz X E)(fl:Fly X.s₀.heap H s.heap x C)
 (k: ∀h',Un X.fs [] X.H₀ H X.s₀.heap h'->HOk X.prog X.w H h'->Fly X.s₀.heap H h' x C->Q () {s with heap:=h'}):R4 M X.A (m7 X.env (.ref x)) Q EE s:=by
 obtain⟨oe,vs,a0,T,oT,ts,he,hc,hd,h0,h1,hTx,hT,hTd,h3,hHT,h0T⟩:=fl.ex;have hfr:X.A.frames=some (X.env::X.outer):=by rw [I.ok.frames,Z.stk]
 have stk:s.heap.FunFrames X.base (X.env::X.outer):=Z.stk ▸ I.stack;have ff:s.heap.FunFrames (bV s.heap (x::T::frs (X.env::X.outer))) (X.env::X.outer):=zC stk λa ha=>X7 _ (.tail _ (.tail _ ha))
 refine wpAny_leaves_onW (base:=bV s.heap (x::T::frs (X.env::X.outer))) (cls:= .ref C) (a0:=a0) hfr Z.fr
  ⟨λb o e=>fO _ e,X7 _ (.head _),ff,oe,vs,T,oT,ts,he,⟨hc,h0⟩,hd,h1,X7 _ (.tail _ (.head _)),hTx,hT,hTd,h3⟩ λh' hfl' hup=> ?_
 obtain⟨st,_,_,oe',vs',T',oT',ts',he',⟨hc',h0'⟩,hd',h1',hTB,hTx',hT',hTd',h3'⟩:=hfl';obtain⟨r1,r2,r3⟩:=DP (ys:= [x,T]) (h':=h') I Z.toRz0 (λy hy=>by
  rcases D2.mp hy with rfl|hy
  ·exact⟨fl.nx,fl.n0⟩
  ·rcases D2.mp hy with rfl|hy
   ·exact⟨hHT,h0T⟩
   ·cases hy) (λb o e n1 n2=>st b o (Y8 _ e λz=>by
    rcases D2.mp z with rfl|z
    ·exact n1 (.head _)
    ·rcases D2.mp z with rfl|z
     ·exact n1 (.tail _ (.head _))
     ·exact n2 z)) λb o e hb=>by
  obtain⟨_,o2,e2,nd⟩:=stk.mem hb;rw [e] at e2;cases e2;exact hup b o e nd
 obtain⟨q1,q2⟩:=r3 T' oT' ts' hT' hTd' λo e=>by
  by_cases z:T'∈frs (X.env::X.outer)
  ·exact .inr z
  ·refine .inl ?_
   by_cases z1:T'=x
   ·rw [z1];exact .head _
   ·by_cases z2:T'=T
    ·rw [z2];exact .tail _ (.head _)
    ·rw [Y8 _ e (by simp only [D2,u8];exact⟨z1,z2,z⟩)] at hTB;cases hTB
 exact k h' r1 r2 ⟨⟨oe',vs',a0,T',oT',ts',he',hc',hd',h0',h1',hTx',hT',hTd',h3',q1,q2⟩,fl.nx,fl.n0⟩
theorem GF {Q:Unit->G3->Prop}{M:iA}{EE:G1->G3->Prop}{h1:N9}{args:G0 G1}(I:Inv X pins σ H s)(Z:Rz X E)(hm:Heap.MadeExcOf s.heap h1 x (.ref C) args)
 (k: ∀h',Un X.fs [] X.H₀ H X.s₀.heap h'->HOk X.prog X.w H h'->Fly X.s₀.heap H h' x C->Q () {s with heap:=h'}):R4 M X.A (m7 X.env (.ref x)) Q EE {s with heap:=h1}:=by
 have hfr:X.A.frames=some (X.env::X.outer):=by rw [I.ok.frames,Z.stk]
 have stk:s.heap.FunFrames X.base (X.env::X.outer):=Z.stk ▸ I.stack;have ff:s.heap.FunFrames (bV s.heap (frs (X.env::X.outer))) (X.env::X.outer):=zC stk λa ha=>X7 _ ha
 refine wpAny_leaves_madeW (base:=bV s.heap (frs (X.env::X.outer))) (h:=s.heap) (s:= {s with heap:=h1}) hfr Z.fr (λb o e=>fO _ e) ff hm λh' t hfl' _ _ hup=> ?_
 obtain⟨st,_,_,oe',vs',T',oT',ts',he',⟨hc',h0'⟩,hd',h1',hTB,hTx',hT',hTd',h3'⟩:=hfl';obtain⟨r1,r2,r3⟩:=DP (ys:= []) (h':=h') I Z.toRz0 (λy hy=>nomatch hy) (λb o e _ n2=>st b o (Y8 _ e n2)) λb o e hb=>by
  obtain⟨_,o2,e2,nd⟩:=stk.mem hb;rw [e] at e2;cases e2;exact hup b o (hm.keeps b o e) nd
 obtain⟨q1,q2⟩:=r3 T' oT' ts' hT' hTd' λo e=>by
  by_cases z:T'∈frs (X.env::X.outer)
  ·exact .inr z
  ·rw [Y8 _ e z] at hTB;cases hTB
 obtain⟨p1,p2⟩:=r3 x oe' vs' he' hd' λo e=>by rw [hm.new] at e;cases e
 exact k h' r1 r2 ⟨⟨oe',vs',_,T',oT',ts',he',hc',hd',h0',h1',hTx',hT',hTd',h3',q1,q2⟩,p1,p2⟩
theorem ES (Z:Rz X E):Wi (CXR X.prog X.w) X E:=by
 intro pins σ H s e s' I ⟨x,C,H',he,os,bare,un,hok,fl,q⟩;subst he;obtain⟨hh,g,d,t,os'⟩:=s';obtain rfl:os'=s.os:=os;have I':=I.call (h':=hh) (g':=g) (d':=d) (t':=t) (ch:= []) un hok bare (λb z=>absurd z (by simp));have nex: ∀b,b ∉ X.ex:=λb=>by rw [Z.ex];simp
 have f0: ∀b,s.heap.get? b=none->X.s₀.heap.get? b=none:=λb n=>by
  cases q:X.s₀.heap.get? b with
  |none=>rfl
  |some o=>obtain⟨o',e⟩:=I.base.there b o q (nex b);rw [n] at e;cases e
 have fl':Fly X.s₀.heap H' hh x C:=by
  obtain⟨⟨oe,vs,a0,T,oT,ts,a1,a2,a3,a4,a5,a6,a7,a8,a9,a10,a11⟩,nx,n0⟩:=fl;exact⟨⟨oe,vs,a0,T,oT,ts,a1,a2,a3,a4,a5,a6,a7,a8,a9,a10,f0 _ a11⟩,nx,f0 _ n0⟩
 exact Z.xe _ _ (DQ I' Z fl' λh' u hk f=>⟨x,C,H',rfl,I'.os,I'.bare,u,hk,f,q⟩)
end
end L2
namespace L2
open PySem PySem.Spec PyProof.Rows PySem.W
def ZN (cells:G0 (Str×G9)):G0 (Str×NameKind)->G0 (Str×G9)->G0 (Str×G9)
 | [],cs=>cs
 |(n,k)::r,cs=>ZN cells r (if k== .free then (match cells.lookup n with|some c=>(n,c)::cs|none=>cs) else cs)
theorem yE {env:Env}: ∀ (names:G0 (Str×NameKind)) (cs:G0 (Str×G9)),(∀n,(n,L8)∈names-> ∃c,env.cells.lookup n=some c)->
 (forIn names cs (λ(x:Str×NameKind) (r:G0 (Str×G9))=>do
  let (name,kind):=x
  if kind== .free then
   let c <-u6 env name
   pure (aE ((name,c)::r))
  else pure (aE r)):Sem (G0 (Str×G9)))=pure (ZN env.cells names cs)
 | [],cs,_=>rfl
 |(n,k)::r,cs,h=>by
  rw [bZ]
  by_cases hk:(k==L8)=true
  ·have hk':k= .free:=eq_of_beq hk;subst hk';obtain⟨c,hc⟩:=h n (.head _);unfold ZN;simp only [oJ,cX,u6,hc,pure_bind];exact yE r _ λn hn=>h n (.tail _ hn)
  ·unfold ZN;simp only [hk,iY,pure_bind];exact yE r _ λn hn=>h n (.tail _ hn)
variable {scope:A8}
theorem WF {env:Env}(h: ∀n,(n,L8)∈scope.names-> ∃c,env.cells.lookup n=some c):gC scope env=pure (ZN env.cells scope.names []):=by
 have:=yE (env:=env) scope.names [] h;unfold gC
 first
  |exact this
  |simpa using this
theorem yl {cells:G0 (Str×G9)}: ∀ (names:G0 (Str×NameKind)) (cs:G0 (Str×G9)),(∀x c,cs.lookup x=some c->cells.lookup x=some c)-> ∀x c,(ZN cells names cs).lookup x=some c->cells.lookup x=some c
 | [],_,h,x,c,e=>h x c e
 |(n,k)::r,cs,h,x,c,e=>by
  unfold ZN at e;refine yl r _ (λy d hy=> ?_) x c e;split at hy
  ·split at hy
   ·rename_i c' hc';rw [O7] at hy
    by_cases q:(y==n)=true
    ·rw [q] at hy;cases hy;rw [eq_of_beq q];exact hc'
    ·simp only [q] at hy;exact h y d hy
   ·exact h y d hy
  ·exact h y d hy
theorem WG {cells:G0 (Str×G9)}: ∀ (names:G0 (Str×NameKind)) (cs:G0 (Str×G9)) (x:Str),((x,L8)∈names/\(∃c,cells.lookup x=some c)\/ ∃c,cs.lookup x=some c)-> ∃c,(ZN cells names cs).lookup x=some c
 | [],_,x,h=>h.elim (λz=>nomatch z.1) id
 |(n,k)::r,cs,x,h=>by
  unfold ZN;refine WG r _ x ?_;rcases h with ⟨hm,c,hc⟩|⟨c,hc⟩
  ·rcases D2.mp hm with q|q
   ·cases q;right;simp only [oJ,cX,hc];exact⟨c,by simp⟩
   ·exact .inl ⟨q,c,hc⟩
  ·right;split
   ·split
    ·rename_i c' hc'
     by_cases q:(x==n)=true
     ·exact⟨c',by rw [O7,q]⟩
     ·exact⟨c,by rw [O7];simp only [q];exact hc⟩
    ·exact⟨c,hc⟩
   ·exact⟨c,hc⟩
structure LamOk (sc:A8):Prop where
 kind:sc.kind= .function
 co:sc.isCoroutine=false
 gen:sc.isGenerator=false
 nocell: ∀y∈sc.names,y.2≠ .cell/\y.2≠ .local
def Yr:lV:= {posonlyargs:= [],args:= [],vararg:=none,kwonlyargs:= [],kw_defaults:= [],kwarg:=none,defaults:= []}
theorem UL {a0 b0:G8}{c:G1}: ∀l:G0 G1,dO l->dO (l++ [bH a0,bH b0,c]):=by
 intro l h
 fun_induction dO l with
 |case1=>simp [dO,bH]
 |case2 a t b u x rest ih=>simp only [O8,dO];exact ih h
 |case3 l h1 h2=>exact h.elim
theorem GG {p:Pos}{a0 b0:G8}{c cv:G1}: ∀l:G0 G1,dO l->i3 p (l++ [bH a0,bH b0,c])=some cv->i3 p l=some cv\/cv=c:=by
 intro l h e
 fun_induction dO l with
 |case1=>
  right;simp only [C9,i3,bH] at e;split at e
  ·exact(F7 e).symm
  ·cases e
 |case2 a t b u x rest ih=>
  simp only [O8,i3] at e ⊢;split at e
  ·rename_i hc;left;rw [S2 hc];exact e
  ·rename_i hc;rw [S3 hc];exact ih h e
 |case3 l h1 h2=>exact h.elim
def CodeF (H:Hp)(cv:G1)(q:Str):Prop:= ∃ (c:G9) (o:Obj) (vs:N0 G1) (t:Tok),cv= .ref c/\H c=some (.frz o (.own 0))/\o.data= .fields vs/\vs[1]? =some (.str q t)
variable {w:N8}{H:Hp}{q:Str}
theorem CodeF.rec {P:S0}{h:N9}{cv:G1}(x:CodeF H cv q)(ok:HOk P w H h):h.CodeRec cv q:=let ⟨c,o,vs,t,e,e2,r⟩:=x;⟨c,o,vs,t,e,(ok c _ e2).1,r⟩
section
variable {X:Cx}{pins:G0 (G9×Obj)}{σ:St}{H:Hp}{s:G3}
theorem MC {M:iA}{A:T8}{E:G1->G3->Prop}{Q:G1->G3->Prop}{body:T1}{scope:A8}{pos:Pos}{c P:G9}{ps:N0 G1}{clos:G0 (Str×G9)}(I:Inv X pins σ H s)(B:Bm X.mg X.base)
 (hcode:X.env.code= .ref c)(hc:codeHdIn X.K c P=true)(hP:H P=some (.tbl ps))(hps:CodesOk H ps)(hcl:gC scope X.env=pure clos)
 (k: ∀ (f:G9) (q qual:Str) (pm cv ctv:G1) (H':Hp) (h':N9) (tk:Tok),Inv X pins σ H' {s with heap:=h',toks:=tk}->Kept H H'->(∀a o,H a=some o->(∀ps',o≠ .tbl ps')->H' a=some o)->
  (∀a ps',H a=some (.tbl ps')->a≠P->H' a=some (.tbl ps'))->(∃ps',H' P=some (.tbl ps')/\CodesOk H' ps')->
  h'.get? f=some {cls:= .type "function",data:= .func (kla_fn "<lambda>" qual Yr body scope clos pm cv ctv)}->CodeF H' cv q->H' f=none->(∀x d,X.env.cells.lookup x=some d->d≠f)->f≠X.env.locals->f ∉ X.fs->Q (.ref f) {s with heap:=h',toks:=tk}):
 R4 M A (A7 (.Lambda Yr body scope pos) X.env) Q E s:=by
 have hPg:s.heap.get? P=some (tabObj ps):=I.hok P _ hP;have C:CodeHd s.heap c P:=codeHd_of_K I.kIn hc;have hgs:s.heap.Ns mainGlobals X.mg:=I.mod.glob.keeps I.bk;obtain⟨bm,ob,b1,b2,b3,b4,b5,b6⟩:=B;have bb:=I.bs _ _ b3;have hgP:mainGlobals≠P:=λq=>by
  obtain⟨o,es,ep,e,hd,_⟩:=hgs;rw [q,hPg] at e;cases e;cases hd
 have hbP:bm≠P:=λq=>by rw [q,hP] at bb;cases bb.2
 have hbG:bm≠mainGlobals:=λq=>by
  obtain⟨o,es,ep,e,hd,_⟩:=hgs;rw [q,e] at bb;cases bb.1;rw [hd] at b6;cases b6
 have BA:s.heap.BuiltinsAt X.mg P:=⟨bm,ob,b1,b2,hbG,hbP,bb.1,b4,b5,b6⟩;have away: ∀f,s.heap.objs.size<=f->(∀x d,X.env.cells.lookup x=some d->d≠f)/\f≠X.env.locals/\f ∉ X.fs:=λf hf=>⟨λx d e z=>by
  obtain⟨v,o,ho,_⟩:=I.cell x d e;exact absurd (S7 (D8 ho) (z ▸ hf)) (L0 _),λz=>absurd (S7 I.lt (z ▸ hf)) (L0 _),I.nofs hf⟩
 refine kla_eval rfl ?_;cases hf:i3 pos ps.toList with
 |none=>
  refine kla_makeFunction (mg:=X.mg) hcl I.ok.glob hgs hcode C hPg hps.1 hf hgP BA λc' ctv h' tk hx hge hlt hrec htb=> ?_
  have hP':P<s.heap.objs.size:=D8 hPg;have hcP:c'≠P:=U7 (S7 hP' hge);have hcn:H c'=none:=I.hok.fresh hge;obtain⟨c₂,oc,vs,t,e2,hoc,hd,hv⟩:=hrec;cases e2;have szle:s.heap.objs.size<=h'.objs.size:=R9 (K9 hge hlt);have kp: ∀ (o2:Obj) b o,b≠P->s.heap.get? b=some o->(h'.push o2).get? b=some o:=λo2 b o nb e=>G6 _ (hx b o nb e)
  have hnP: ∀b u,H b=some u->(∀ps',u≠ .tbl ps')->b≠P:=λb u e n z=>by rw [z,hP] at e;cases e;exact n _ rfl
  have look: ∀b,b≠P->b≠c'->upd (upd H c' (.frz oc (.own 0))) P (.tbl (ps++ #[bH pos.line,bH pos.col,.ref c'])) b=H b:=λb n1 n2=>by rw [jm n1,jm n2]
  have ncs: ∀b u,H b=some u->b≠c':=λb u e z=>by rw [z,hcn] at e;cases e
  have frzs: ∀b o u,H b=some (.frz o u)->upd (upd H c' (.frz oc (.own 0))) P (.tbl (ps++ #[bH pos.line,bH pos.col,.ref c'])) b=some (.frz o u):=λb o u e=>by
   rw [look b (hnP b _ e (by intro _ z;cases z)) (ncs b _ e)];exact e
  refine k h'.objs.size (X.env.qual++ "<lambda>") (X.env.qual++ "<lambda>") _ (.ref c') ctv (upd (upd H c' (.frz oc (.own 0))) P (.tbl (ps++ #[bH pos.line,bH pos.col,.ref c']))) _ tk ?_ ?_ ?_ ?_ ?_ (R8 _ rfl) ⟨c',oc,vs,t,rfl,by rw [jm hcP,jn],hd,hv⟩ ?_ (away _ szle).1 (away _ szle).2.1 (away _ szle).2.2
  ·refine I.un (t':=tk) ⟨λb o e n hb hx'=>kp _ b o (λz=>by rw [z,hP] at n;cases n) e,λb o e n hb hx'=>⟨o.slots,kp _ b o (λz=>by rw [z,hP] at n;cases n) e⟩,λb o e n hx'=> ?_,λb o e hx'=> ?_,λb xs e=> ?_,frzs,λb ps' e=> ?_⟩ λa o e=> ?_
   ·rw [look b (λz=>by rw [z,hP] at n;cases n) (T5 (S7 (D8 e) hge))];exact n
   ·by_cases z:b=P
    ·rw [z];exact⟨_,G6 _ htb⟩
    ·exact⟨_,kp _ b o z e⟩
   ·rw [look b (hnP b _ e (by intro _ z;cases z)) (ncs b _ e)];exact e
   ·by_cases z:b=P
    ·subst z;rw [hP] at e;cases e;exact⟨_,jn⟩
    ·exact⟨#[],by rw [look b z (ncs b _ e),e];simp⟩
   ·by_cases z:a=P
    ·subst z;rw [jn] at e;cases e;exact G6 _ htb
    ·rw [jm z] at e
     by_cases z2:a=c'
     ·subst z2;rw [jn] at e;cases e;exact⟨G6 _ hoc,⟨oc,G6 _ hoc⟩⟩
     ·rw [jm z2] at e;refine(I.hok a o e).stay (λb u hb q=> ?_) (λb q=> ?_) λb xs q=> ?_
      ·rcases hb with rfl|hb
       ·exact kp _ b u z q
       ·exact kp _ b u (hnP b _ hb (by intro _ z;cases z)) q
      ·rw [look b (hnP b _ q (by intro _ z;cases z)) (ncs b _ q)];exact q
      ·rw [look b (hnP b _ q (by intro _ z;cases z)) (ncs b _ q)];exact q
  ·refine⟨λa xs e=> ?_,λa xs e=>⟨xs,?_⟩,λa kk i e=> ?_,frzs⟩<;>(rw [look a (hnP a _ e (by intro _ z;cases z)) (ncs a _ e)];exact e)
  ·intro a o e n;rw [look a (hnP a _ e n) (ncs a _ e)];exact e
  ·intro a ps' e n;rw [look a n (ncs a _ e)];exact e
  ·refine⟨_,jn,?_,λp cv e=> ?_⟩
   ·simp only [C8];exact UL _ hps.1
   ·simp only [C8] at e;rcases GG ps.toList hps.1 e with e|e
    ·obtain⟨c1,o,vs',q',t',e1,e2,r⟩:=hps.2 p cv e;exact⟨c1,o,vs',q',t',e1,frzs _ _ _ e2,r⟩
    ·exact⟨c',oc,vs,_,t,e,by rw [jm hcP,jn],hd,hv⟩
  ·have:H h'.objs.size=none:=I.hok.fresh szle;rw [look _ (U7 (S7 hP' szle)) (U7 hlt)];exact this
 |some cv=>
  obtain⟨c1,o,vs,q,t,rfl,e2,hd,hv⟩:=hps.2 pos cv hf;obtain⟨ho,_⟩:=I.hok c1 _ e2;refine kla_makeFunctionHit (mg:=X.mg) hcl I.ok.glob hgs hcode C hPg hps.1 hf BA λctv h' tk hk hsz=> ?_
  exact k h'.objs.size q (X.env.qual++ "<lambda>") _ (.ref c1) ctv H _ tk (I.kept (t':=tk) λb u e=>G6 _ (hk b u e)) (.refl H) (λ_ _ e _=>e) (λ_ _ e _=>e) ⟨ps,hP,hps⟩ (R8 _ rfl) ⟨c1,o,vs,t,rfl,e2,hd,hv⟩
   (I.hok.fresh hsz) (away _ hsz).1 (away _ hsz).2.1 (away _ hsz).2.2
end
structure Cap (N:G0 Str)(σ:St)(sc:A8)(cl:G0 (Str×G9))(h:N9)(H:Hp):Prop where
 len:σ.length=N.length
 inj: ∀x y c,cl.lookup x=some c->cl.lookup y=some c->x=y
 has: ∀x,sc.names.lookup x=some .free-> ∃c,cl.lookup x=some c
 cell: ∀x c,cl.lookup x=some c->(∃v,h.IsCell c v)/\H c=none
 loc: ∀ (i:G8) (x:Str) (v:V),N[i]? =some x->σ[i]? =some (some v)->sc.names.lookup x=some .free-> ∃u c,RelV v u/\cl.lookup x=some c/\h.IsCell c (some u)
theorem wy {α β:Type}[BEq α][LawfulBEq α]: ∀ {l:G0 (α×β)} {x:α} {y:β},l.lookup x=some y->(x,y)∈l
 | [],_,_,h=>by cases h
 |(a,b)::r,x,y,h=>by
  rw [O7] at h
  by_cases q:(x==a)=true
  ·rw [q] at h;cases h;rw [eq_of_beq q];exact .head _
  ·simp only [q] at h;exact .tail _ (wy h)
def DR (sc:A8)(env:Env):Prop:= ∀n,(n,L8)∈sc.names->env.kindOf n=some .cell\/env.kindOf n=some .free
variable {σ:St}{s:G3}
theorem Cap.of {X:Cx}{pins:G0 (G9×Obj)}{sc:A8}(I:Inv X pins σ H s)(hf:DR sc X.env):Cap X.N σ sc (ZN X.env.cells sc.names []) s.heap H where
 len:=I.len
 inj:=λx y c h1 h2=>I.ok.inj x y c (yl _ _ (λ_ _ z=>by cases z) _ _ h1) (yl _ _ (λ_ _ z=>by cases z) _ _ h2)
 has:=λx h=>WG _ _ _ (.inl ⟨wy h,I.ok.has x (hf x (wy h))⟩)
 cell:=λx c h=>⟨I.cell x c (yl _ _ (λ_ _ z=>by cases z) _ _ h),I.freeC x c (yl _ _ (λ_ _ z=>by cases z) _ _ h)⟩
 loc:=λi x v h1 h2 h3=>by
  obtain⟨m,hn,hl⟩:=I.loc;have hk:=hf x (wy h3);obtain⟨u,r,l⟩:=hl i x v h1 h2 (.inr hk);obtain⟨c,hc⟩:=WG (cells:=X.env.cells) sc.names [] x (.inl ⟨wy h3,I.ok.has x hk⟩);refine⟨u,c,r,hc,?_⟩;have hc':=yl _ _ (λ_ _ z=>by cases z) _ _ hc;rcases l with ⟨k,_⟩|⟨_,c2,e,z⟩
  ·rcases hk with k2|k2<;>(rw [k] at k2;cases k2)
  ·rw [hc'] at e;cases e;exact z
variable {cl:G0 (Str×G9)}
theorem Cap.step {N:G0 Str}{sc:A8}{h h':N9}{H':Hp}{fs:G0 G9}(C:Cap N σ sc cl h H)(u:Un fs [] H H' h h'):Cap N σ sc cl h' H':=by
 have k: ∀x c v,cl.lookup x=some c->h.IsCell c v->h'.IsCell c v:=λx c v e ⟨o,ho,hd⟩=>by
  obtain⟨sl,q⟩:=u.any ho (C.cell x c e).2 (by simp);exact⟨_,q,hd⟩
 exact⟨C.len,C.inj,C.has,λx c e=>by
  obtain⟨⟨v,z⟩,n⟩:=C.cell x c e;obtain⟨o,ho,_⟩:=id z;exact⟨⟨v,k x c v e z⟩,u.free c o ho n (by simp)⟩,λi x v h1 h2 h3=>let ⟨uu,c,r,e,z⟩:=C.loc i x v h1 h2 h3;⟨uu,c,r,e,k x c _ e z⟩⟩
def cxL (CX:CXT)(P:S0)(w:N8)(K:G2)(mg:Str->P8 G1)(base:N9)(N:G0 Str)(q:Str)(scope:A8)(f:G9)(cd:G1)(cl:G0 (Str×G9))(A:T8)(outer:G0 Env)(s:G3)(H:Hp)(E:XK):Cx where
 prog:=P
 w:=w
 K:=K
 mg:=mg
 base:=base
 A:=A.deeper (envX q scope s.heap.objs.size f cd cl)
 N:=N
 s₀:=s
 H₀:=H
 env:=envX q scope s.heap.objs.size f cd cl
 outer:=outer
 stack:=envX q scope s.heap.objs.size f cd cl::outer
 ex:= []
 calm:=true
 fn:=λ_=>false
 pn:= []
 xe:=λe s'=>R4 (S4 P w) (A.deeper (envX q scope s.heap.objs.size f cd cl)) (m7 (envX q scope s.heap.objs.size f cd cl) e) (λ_ s''=>CX outer H s E e s'') (λe' s''=>CX outer H s E e' s'') s'
variable {mg:Str->P8 G1}{base:N9}
theorem Cs {CX:CXT}{P:S0}{K:G2}{N:G0 Str}{f:G9}{cd:G1}{A:T8}{outer:G0 Env}{E:XK}{xG:N9}{tk:Tok}
 (L:LamOk scope)(hd:A.handled=none)(e0:Env0 P w K mg base A outer s H)(C:Cap N σ scope cl s.heap H)(hns:xG.Ns s.heap.objs.size (λ_=>none))(hk: ∀b o,s.heap.get? b=some o->xG.get? b=some o):
 Inv (cxL CX P w K mg base N q scope f cd cl A outer s H E) [] σ H {s with heap:=xG,toks:=tk}:=by
 have noA: ∀b:G9,b ∉ (cxL CX P w K mg base N q scope f cd cl A outer s H E).ex:=λb z=>absurd (show b∈([]:G0 G9) from z) (by simp)
 have nofr: ∀y,scope.names.lookup y=some .cell\/scope.names.lookup y=some .free->scope.names.lookup y=some .free:=λy hy=>hy.elim (λz=>absurd rfl (L.nocell _ (wy z)).1) id
 refine⟨⟨e0.mod,L.kind,rfl,rfl,P4 _,λy z c h1 h2=>C.inj y z c h1 h2,λy hy=>C.has y (nofr y hy),λy c z=>(by cases z),λ_=>hd,dW e0.frames,.inr ⟨rfl,rfl⟩,λb z=>absurd z (noA b),e0.bs,e0.bsz,λb _ _=>noA b,λb z=>absurd z (noA b),e0.funs,e0.frf⟩,
  rfl,e0.bare,Un.kept hk,⟨_,hns,λi y v h1 h2 h3=> ?_⟩,λy c h=> ?_,e0.hok.fresh (P4 _),λy c h=>(C.cell y c h).2,λp hp=>absurd (show p∈([]:G0 (G9×Obj)) from hp) (by simp),e0.hok.kept hk,C.len⟩
 ·have h3':scope.names.lookup y=some .free:=by
   rcases h3 with z|z
   ·exact absurd rfl (L.nocell _ (wy z)).2
   ·exact nofr y z
  obtain⟨u,c,r,e,o,ho,hd'⟩:=C.loc i y v h1 h2 h3';exact⟨u,r,.inr ⟨.inr h3',c,e,o,hk _ _ ho,hd'⟩⟩
 ·obtain⟨⟨v,o,ho,hd'⟩,_⟩:=C.cell y c h;exact⟨v,o,hk _ _ ho,hd'⟩
theorem DS {prog:S0}{A:T8}{R:pS->G3->Prop}{f:G9}{o:Obj}{qual:Str}{body:T1}{pm cd ctv:G1}(L:LamOk scope)(deep:A.depth<recursionLimit)
 (there:s.heap.get? f=some o)(lam:o.data= .func (kla_fn "<lambda>" qual Yr body scope cl pm cd ctv))(named:s.heap.CodeRec cd q)(lim:s.heap.NoLimit)
 (go: ∀xG,xG.Ns s.heap.objs.size (λ_=>none)->(∀b o,s.heap.get? b=some o->xG.get? b=some o)->
  Y9 (S4 prog w) A (.expr body (envX q scope s.heap.objs.size f cd cl)) R {s with heap:=xG,toks:=s.toks+0}):
 Y9 (S4 prog w) A (.call (.ref f) ⟨[],[]⟩) R s:=by
 obtain⟨c,oc,vs,t,rfl,hoc,hdc,hq⟩:=named;obtain⟨h,g,d,tk,os⟩:=s;have frame:=λ{A':T8} {Q:Env->G3->Prop} {E:G1->G3->Prop} (k: ∀xG,_->_->Q _ _)=>wpAny_newFunctionEnv (M:=S4 prog w) (A:=A') (s:=⟨h,g,d,tk,os⟩) (E:=E) (scope:=scope) (globals:=mainGlobals) (closure:=cl) (binds:= []) (qual:=q++ ".<locals>.") (func:=some f) (code:= .ref c) (around:=none) (builtins:=fP) (Q:=Q) (λx hx=>(L.nocell x hx).1) (λx hx=>nomatch hx) k L.kind
 refine kO ?_;show R4 _ A.in1 (callAny (.ref f) ⟨[],[]⟩) _ _ _
 wp_walk using sW there
 rw [lam];have nothing:pT (kla_fn "<lambda>" qual Yr body scope cl pm (.ref c) ctv) ⟨[],[]⟩=pure []:=rfl;show R4 _ _ (rS f (kla_fn "<lambda>" qual Yr body scope cl pm (.ref c) ctv) ⟨[],[]⟩) _ _ _;unfold rS;rw [nothing];show R4 _ _ (field (.ref c) 1 >>= _) _ _ _;refine wpAny_bind (cP hoc hdc hq ?_)
 repeat refine wpAny_bind (P5 ?_)
 refine wpAny_bind (frame λxG empty same=>wpAny_bind (wpAny_enterFrame (lim.fresh _ same) deep ?_));simp only [kla_fn,L.co,L.gen];exact P5 ⟨rfl,go xG empty λb o old=>same.extBut _ _ (λz=>absurd (D8 old) (by rw [z];exact L0 _)) (G6 _ old)⟩
theorem Ct {CX:CXT}{P:S0}{K:G2}{N:G0 Str}{qual:Str}{f:G9}{cd pm ctv:G1}{A:T8}{outer:G0 Env}{E:XK}{o:Obj}{body:T1}{t:TE}{Q:VK}{k:G8}
 (L:LamOk scope)(hr:Room (k+1) A)(e0:Env0 P w K mg base A outer s H)(C:Cap N σ scope cl s.heap H)(ho:s.heap.get? f=some o)(hd:o.data= .func (kla_fn "<lambda>" qual Yr body scope cl pm cd ctv))(hc:CodeF H cd q)
 (hb:PE (cxL CX P w K mg base N q scope f cd cl A outer s H E) body t)(ht:t σ H Q):Y9 (S4 P w) A (.call (.ref f) ⟨[],[]⟩) (CR CX outer P w H s Q E) s:=by
 have lim:s.heap.NoLimit:=e0.mod.nolimit.keeps λb o e=>(e0.bs b o e).1
 refine DS L hr.depth ho hd (hc.rec e0.hok) lim λxG hns HX=> ?_
 have I:=Cs (CX:=CX) (q:=q) (f:=f) (cd:=cd) (E:=E) (tk:=s.toks+0) L hr.hd e0 C hns HX;refine kla_codeExpr (T3 (hb [] _ σ H Q I ht) (λv s' hs=> ?_) λ_ _ y=>y);obtain⟨v',H',J,rv,q'⟩:=hs;exact⟨v',H',J.os,J.bare,J.base,J.hok,rv,q'⟩
abbrev TXD:=SD->HD->(Str->HD->Prop)->Prop
def WX (X:Cx)(E:XK)(H:Hp)(R:Str->HD->Prop):Prop:= ∀c C h' H',Kept H H'->RelH X.K h' H'->X.mg c=some (.ref C)->R c h'->E (.ref C) none H'
theorem WX.mono {X:Cx}{E:XK}{H':Hp}{R:Str->HD->Prop}(w:WX X E H R)(k:Kept H H'):WX X E H' R:=λc C h2 H2 k2=>w c C h2 H2 (k.trans k2)
structure JX (X:Cx)(sts:G0 O3)(t:TXD):Prop where
 to: ∀ (E:XK),Rz X E-> ∀ (pins:G0 (G9×Obj)) (s:G3) (σ:St) (H:Hp) (xD:SD) (h:HD) (R:Str->HD->Prop),Inv X pins σ H s->RelS X.K H xD σ->RelH X.K h H->t xD h R->WX X E H R->
  R4 (S4 X.prog X.w) X.A (execs sts X.env) (λ_ _=>False) X.xe s
structure JXE (X:Cx)(e:T1)(t:TXD):Prop where
 to: ∀ (E:XK),Rz X E-> ∀ (pins:G0 (G9×Obj)) (s:G3) (σ:St) (H:Hp) (xD:SD) (h:HD) (R:Str->HD->Prop),Inv X pins σ H s->RelS X.K H xD σ->RelH X.K h H->t xD h R->WX X E H R->
  R4 (S4 X.prog X.w) X.A (A7 e X.env) (λ_ _=>False) X.xe s
def xIf (t:TTD)(u:TXD):TXD:=λσ h R=>t σ h λk h'=>k=true/\u σ h' R
def xRz (c:Str):TXD:=λ_ h R=>R c h
abbrev RDx:=G0 D->HD->(Str->HD->Prop)->Prop
def ON (spr:RDx)(t:TAD):TXD:=λσ h R=>t σ h λds h1=>spr ds h1 R
def NF (mg:Str->P8 G1)(K:G2)(spr:RDx):Sp:=λvs H _ E=> ∃ds h R,RelDs K H ds vs/\RelH K h H/\spr ds h R/\ ∀c C h' H',Kept H H'->RelH K h' H'->mg c=some (.ref C)->R c h'->E (.ref C) none H'
def bmV:G0 G1:= [.type "ValueError",.type "Exception",.type "BaseException",.type "object"]
theorem MD {K:Frag}(P:S0)(M:Mod K mg base): ∃loose mb,TopRead P loose mg mb base:=by
 obtain⟨mb,laid,boot⟩:=M.blt;obtain⟨o,es,ep,at_,isd,texts,finds⟩:=id M.glob;refine⟨es.toList.filterMap λe=>match e.key with| .str n _=>some n|_=>none,mb,M.glob,laid,M.nolimit,boot,λx _ out _ _ _=> ?_⟩;rw [<-finds x];cases hit:nsFind es x with
 |none=>rfl
 |some v=>
  refine absurd ?_ out;unfold nsFind findBy at hit;obtain⟨e,hf,_⟩:=Z9.mp hit;have isx:e.key.isStr x=true:=Array.find?_some (p:=λ(e:DictEntry)=>e.key.isStr x) hf;have mem:=Array.mem_of_find?_eq_some hf;obtain⟨n,t,ek⟩:=texts e mem;rw [ek] at isx;have nx:n=x:=by simpa [Value.isStr] using isx
  exact Z7.mpr ⟨e,by simpa using mem,by rw [ek,nx]⟩
def OwnX (K:G2)(mg:Str->P8 G1)(c:Str):Prop:= ∃C,mg c=some (.ref C)/\nsIn K mainGlobals c=some (some (.ref C))/\excIn K C bmV "ValueError.__new__" =true
theorem OwnX.at {K:Frag}{h:N9}{c:Str}(P:S0)(O:OwnX K mg c)(M:Mod K mg base)(kept: ∀b o,base.get? b=some o->h.get? b=some o): ∃C,mg c=some (.ref C)/\OwnCls c C bmV "ValueError.__new__" mg h:=
 let ⟨C,hm,hn,hx⟩:=O
 let ⟨_,_,T⟩:=MD P M
 ⟨C,hm,(own_of_in M.kin T hn hx).keeps kept⟩
section
variable {X:Cx}{c:T1}{e:T1}{es:G0 T1}{st:O3}{a b rest:G0 O3}{t:TSD}{tt:TTD}{u:TXD}{ta:TAD}{pos p:Pos}
theorem ET (hc:JT X c tt)(ha:JX X a u):JX X (.If c a b pos::rest) (xIf tt u):=⟨λE Z pins s σ H xD h R I rs rh ht w=>by
 refine W6 (T3 (wpAny_If (Q:=λ_ _=>False) (thn (hc.to pins s σ H (λk H'=>k=true/\ ∃h',Kept H H'/\RelS X.K H' xD σ/\RelH X.K h' H'/\u xD h' R) I
  ⟨xD,h,_,rs,rh,ht,λk h' H' kp rh' q=>⟨q.1,h',kp,rs.mono kp,rh',q.2⟩⟩) λd s1 q=> ?_)) (λ_ _ z=>z.elim) λ_ _ z=>z)
 obtain⟨H',I',rfl,h',kp,rs',rh',q⟩:=q;exact ha.to E Z pins s1 σ H' xD h' R I' rs' rh' q (w.mono kp)⟩
theorem Cu (he:JXE X e u)(hs:Z0 e none pos.line X.env=pure false:=by rfl):JX X (.Expr e pos::rest) u:=⟨λE Z pins s σ H xD h R I rs rh ht w=>
 W6 (pM (T3 (he.to E Z pins s σ H xD h R I rs rh ht w) (λ_ _ z=>z.elim) λ_ _ z=>z) I.quiet hs)⟩
theorem ME {x:Str}{np cpos p2:Pos}{m:Str}{j:G8}(hg:Gl X x)(O:OwnX X.K X.mg x)(hcalm:X.calm=true)(hd:(x==("__debug__" :Str))=false:=by decide)
 (he:D7 [Expr.Constant (.str m) j p2] X.env=(false,A7 (.Constant (.str m) j p2) X.env)::D7 [] X.env:=by rfl):
 JX X (.Raise (some (.Call (.Name x np) [.Constant (.str m) j p2] [] cpos)) none pos::rest) (xRz x):=⟨λE Z pins s σ H xD h R I rs rh ht w=>by
 obtain⟨C,hm,own⟩:=O.at X.prog I.mod I.bk;refine W6 (T3 (?_:R4 _ _ _ (λ_ _=>False) _ _) (λ_ _ z=>z.elim) λ_ _ z=>z);obtain⟨_,_,_,_,_,_,_,_,_,_,_,_,_,_,_,_,_,isC,laid,noInit,tail⟩:=own.obj;refine' wpAny_Raise_call_subT qI (tail.hasType PySem.F.excBase_ValueError.hasBase) (I.ok.hd hcalm) (by rw [he];rfl) noInit (Zb I hg hm ⟨rfl,?_⟩ hd)
 rotate_right 1
 rw [he];refine lF (fX (qW (k:=j) (pos:=p2) (iC ⟨rfl,(by show 1<=sizeLine;decide),isC,laid,tail,λh' e hme=> ?_⟩)));refine Z.xe _ _ (GF (s:= {s with toks:=s.toks+1}) (I.tok _) Z hme λh2 un hok fl=> ?_);exact⟨e,C,H,rfl,I.os,I.bare,un,hok,fl,w x C h H (.refl H) rh hm ht⟩⟩
theorem Cv {k:G8}{f:G9}{fd:S1}{ps:G0 Str}{spr:RDx}{x:Str}(F:FnOk X.prog X.w X.K X.mg X.base (CXR X.prog X.w) k f fd ps (NF X.mg X.K spr))(hr:Room k X.A)(hg:Gl X x)(hm:X.mg x=some (.ref f))(hk:E6 X.K (.ref f)=true)(hb:Binds X.K fd ps [])
 (ha:JA X (e::es) ta)(hdb:(x==("__debug__" :Str))=false:=by decide)(he:D7 (e::es) X.env=(false,A7 e X.env)::D7 es X.env:=by rfl)(hpl:(K0 pos (D7 es X.env)).any (·.1)=false:=by rfl):
 JXE X (.Call (.Name x p) (e::es) [] pos) (ON spr ta):=⟨λE Z pins s σ H xD h R I rs rh ht w=>by
 refine thn (Py F hr hg hm hk hb .nil (ES Z) ha.to hdb he hpl pins s σ H (λ_ _=>False) I
  ⟨xD,h,_,rs,rh,ht,λds vs h' H' kp rh' r q=>by show NF X.mg X.K spr (vs++ []) H' (λ_ _=>False) E;rw [J6];exact⟨ds,h',R,r,rh',q,λc C h2 H2 k2=>w c C h2 H2 (kp.trans k2)⟩⟩) λ_ _ ⟨_,_,_,_,z⟩=>z⟩
end
section
variable {P:S0}{w:N8}{K:G2}{mg:Str->P8 G1}{base:N9}
theorem Cw {N:G0 Str}{qual:Str}{scope:A8}{f:G9}{cd:G1}{A:T8}{outer:G0 Env}{s:G3}{H:Hp}{E:XK}:Rz (Yn (CXR P w) P w K mg base N qual scope f cd A outer s H E) E:=⟨⟨rfl,rfl,rfl⟩,λ_ _ h=>h⟩
theorem OO {N:G0 Str}{q:Str}{scope:A8}{f:G9}{cd:G1}{cl:G0 (Str×G9)}{A:T8}{outer:G0 Env}{s:G3}{H:Hp}{E:XK}:Rz (cxL (CXR P w) P w K mg base N q scope f cd cl A outer s H E) E:=⟨⟨rfl,rfl,rfl⟩,λ_ _ h=>h⟩
theorem Fun.okX {x qual:Str}{st:O3}{f:G9}{fd:S1}{N ps:G0 Str}{k:G8}{spr:RDx}(F:Fun K x qual st f fd)(S:FnScope N ps (jd st))(len: ∀ds h R,spr ds h R->ds.length=ps.length)
 (tb:TXD)(hbody: ∀ (cdv:G1) (A:T8) (outer:G0 Env) (s:G3) (H:Hp) (E:XK),Room k (A.deeper (E8 qual (jd st) s.heap.objs.size f cdv))->JX (Yn (CXR P w) P w K mg base N qual (jd st) f cdv A outer s H E) (jW st) tb)
 (read: ∀ds h R,spr ds h R->tb (ze N ds) h R):FnOk P w K mg base (CXR P w) (k+1) f fd ps (NF mg K spr):=by
 obtain⟨oc,od,kV,doc,pm,an,cdv,ct,osl,rfl,lk,hcd⟩:=F.ex;refine Bb lk hcd S (λvs H Q E h=> ?_) λA outer s H vs Q E hr hsp=> ?_
 ·obtain⟨ds,h,R,r,rh,q,p⟩:=h;rw [<-r.length];exact len _ _ _ q
 ·obtain⟨ds,h,R,r,rh,q,p⟩:=hsp;refine⟨λ_ σ H'=>σ=start N vs/\H'=H,λpins s' σ H' D I ⟨e1,e2⟩=> ?_,rfl,rfl⟩;subst e1;subst e2;exact T3 ((hbody cdv A outer s H' E hr).to E Cw pins s' _ H' (ze N ds) h R I (vD r) rh (read ds h R q) p) (λ_ _ z=>z.elim) λ_ _ z=>z
end
def VE (P:S0)(w:N8)(K:G2)(mg:Str->P8 G1)(base:N9)(n:G8)(x:Str)(ps:G0 Str)(spr:RDx):Prop:=
 ∃ (g:G9) (gd:S1),FnOk P w K mg base (CXR P w) n g gd ps (NF mg K spr)/\Binds K gd ps []/\E6 K (.ref g)=true/\mg x=some (.ref g)
end L2
namespace L2
open PySem PySem.Spec PyProof.Rows
structure RoomU (k:G8)(A:T8):Prop where
 dp:A.depth+3*k+5<recursionLimit
 un:A.units+16*k+200<cLine
 gd:A.guards=some []
variable {k:G8}{A:T8}
theorem Room.u (r:Room k A):RoomU k A:=⟨r.dp,r.un,r.gd⟩
theorem RoomU.deeper (r:RoomU (k+1) A)(env:Env):RoomU k (A.deeper env):=
 ⟨by have:=r.dp;show A.depth+1+3*k+5<_;omega,by have:=r.un;show A.units+3+16*k+200<_;omega,r.gd⟩
theorem RoomU.depth (r:RoomU k A):A.depth<recursionLimit:=by have:=r.dp;omega
theorem RoomU.units (r:RoomU k A):A.units+64<cLine:=by have:=r.un;omega
structure FnOkU (P:S0)(w:N8)(K:G2)(mg:Str->P8 G1)(base:N9)(CX:CXT)(k:G8)(f:G9)(fd:S1)(ps:G0 Str)(sp:Sp):Prop where
 len: ∀vs H Q E,sp vs H Q E->vs.length=ps.length
 run: ∀ (A:T8) (outer:G0 Env) (s:G3) (H:Hp) (args:Args) (us:G0 G1) (vs:G0 V) (Q:VK) (E:XK),RoomU k A->Env0 P w K mg base A outer s H->lU s fd args (ps.zip us)->Vals vs us->sp vs H Q E->
  Y9 (S4 P w) A (.call (.ref f) args) (CR CX outer P w H s Q E) s
section
variable {X:Cx}{CX:CXT}{k:G8}{f C:G9}{fd:S1}{ps:G0 Str}{sp:Sp}{dvs:G0 V}{ds:G0 G1}{E:XK}{x m:Str}{p pos apos:Pos}{e o:T1}{es:G0 T1}{ta:TE}{t:TA}
theorem Cy {pins:G0 (G9×Obj)}{σ:St}{H:Hp}{s:G3}{Q:VK}{us:G0 G1}{vs:G0 V}(F:FnOkU X.prog X.w X.K X.mg X.base CX k f fd ps sp)(hr:RoomU k X.A)(hb:Binds X.K fd ps ds)(hd:Vals dvs ds)(hx:Wi CX X E)
 (I:Inv X pins σ H s)(r:Vals vs us)(h:sp (vs++dvs) H Q E):R4 (S4 X.prog X.w) X.A (call (.ref f) us) (EP X pins σ Q) X.xe s:=by
 have r2:Vals (vs++dvs) (us++ds):=r.append hd;have hl:(us++ds).length=ps.length:=by rw [<-r2.length];exact F.len _ _ _ _ h
 refine cG (cU (F.run X.A X.stack s H ⟨us,[]⟩ (us++ds) (vs++dvs) Q E hr I.env0 (hb s us I.kIn hl) r2 h) λr s' hq=> ?_);cases r with
 |error e=>exact hx pins σ H s e s' I hq
 |ok fl=>
  cases fl with
  |ret u=>exact I.after hq
  |next=>exact False.elim hq
  |brk=>exact False.elim hq
  |cont=>exact False.elim hq
theorem MF (F:FnOkU X.prog X.w X.K X.mg X.base CX k f fd ps sp)(hr:RoomU k X.A)(hg:Gl X x)(hm:X.mg x=some (.ref f))(hk:E6 X.K (.ref f)=true)(hb:Binds X.K fd ps ds)(hd:Vals dvs ds)(hx:Wi CX X E)
 (ha:PA X (e::es) t)(hdb:(x==("__debug__" :Str))=false:=by decide)(he:D7 (e::es) X.env=(false,A7 e X.env)::D7 es X.env:=by rfl)(hpl:(K0 pos (D7 es X.env)).any (·.1)=false:=by rfl):
 PE X (.Call (.Name x p) (e::es) [] pos) (Ba sp dvs E t):=by
 intro pins s σ H Q I h;refine W8 (Zb I hg hm ?_ hdb);refine fY (h₀:=X.base) I.ok.mod.kin hk (thn (ha pos pins s σ H _ I h) λus s1 ⟨vs,H1,I1,r,q⟩=>⟨I1.kIn,?_⟩) he hpl;exact Cy F hr hb hd hx I1 r q
end
def UM (CX:CXT)(P:S0)(w:N8)(K:G2)(mg:Str->P8 G1)(base:N9)(N:G0 Str)(qual:Str)(scope:A8)(f:G9)(cd:G1)(A:T8)(outer:G0 Env)(s:G3)(H:Hp)(E:XK):Cx where
 prog:=P
 w:=w
 K:=K
 mg:=mg
 base:=base
 A:=A.deeper (E8 qual scope s.heap.objs.size f cd)
 N:=N
 s₀:=s
 H₀:=H
 env:=E8 qual scope s.heap.objs.size f cd
 outer:=outer
 stack:=E8 qual scope s.heap.objs.size f cd::outer
 ex:= []
 calm:=false
 fn:=λ_=>true
 pn:= []
 xe:=λe s'=>R4 (S4 P w) (A.deeper (E8 qual scope s.heap.objs.size f cd)) (m7 (E8 qual scope s.heap.objs.size f cd) e) (λ_ s''=>CX outer H s E e s'') (λe' s''=>CX outer H s E e' s'') s'
variable {base:N9}{qual:Str}{scope:A8}
theorem GH {CX:CXT}{P:S0}{w:N8}{K:G2}{mg:Str->P8 G1}{N ps:G0 Str}{f:G9}{cd:G1}{outer:G0 Env}{s s1:G3}{H:Hp}{E:XK}{us:G0 G1}{vs:G0 V}
 (S:FnScope N ps scope)(e0:Env0 P w K mg base A outer s H)(hl:vs.length=ps.length)(r:Vals vs us)
 (x:InCallC s s.heap.objs.size (oS (E8 qual scope s.heap.objs.size f cd).kindOf (ps.zip us) λ_=>none) (K1 (s.heap.objs.size+1) scope.names []) (oU (E8 qual scope s.heap.objs.size f cd).kindOf (ps.zip us) λ_=>none) s1):
 Inv (UM CX P w K mg base N qual scope f cd A outer s H E) [] (start N vs) H s1:=by
 have hpl:ps.length<=N.length:=by have:=congrArg oV S.pre;rw [T4] at this;omega
 obtain⟨h1,tk,rfl,hk⟩:=x.done;have noA: ∀b:G9,b ∉ (UM CX P w K mg base N qual scope f cd A outer s H E).ex:=λb z=>absurd (show b∈([]:G0 G9) from z) (by simp)
 refine⟨⟨e0.mod,S.kind,rfl,rfl,P4 _,λy z c h1 h2=> ?_,λy hy=> ?_,λy c _ h=> ?_,λz=>(by cases z),dW e0.frames,.inr ⟨rfl,rfl⟩,λb z=>absurd z (noA b),e0.bs,e0.bsz,λb _ _=>noA b,λb z=>absurd z (noA b),e0.funs,e0.frf⟩,
  rfl,e0.bare,Un.kept hk,⟨_,x.toInCall.ns,λi y v h1 h2 h3=> ?_⟩,λy c h=>⟨_,x.cell y c h⟩,e0.hok.fresh (P4 _),λy c h=> ?_,λp hp=>absurd (show p∈([]:G0 (G9×Obj)) from hp) (by simp),e0.hok.kept hk,?_⟩
 ·exact m8 x.apart (E1 h1) (E1 h2)
 ·have hy:scope.names.lookup y=some .cell\/scope.names.lookup y=some .free:=hy;rcases hy with hy|hy
  ·exact vB hy
  ·exact absurd rfl (S.nofree _ (E1 hy))
 ·exact R9 (x.above y c (E1 h))
 ·have hi:i<vs.length:=by
   unfold start at h2
   by_cases hi:i<vs.length
   ·exact hi
   ·rw [N5 (by simpa using hi)] at h2;rw [cN] at h2;split at h2<;>cases h2
  have ha:vs[i]? =some v:=by
   unfold start at h2;rw [L6 (by simpa using hi),R5] at h2;cases e:vs[i]? with
   |none=>rw [e] at h2;cases h2
   |some a=>rw [e] at h2;cases h2;rfl
  obtain⟨u,hu,rv⟩:=r.get ha;have hp:ps[i]? =some y:=by
   rw [<-S.pre,U9 (by omega)];exact h1
  have ndP:ps.Nodup:=by rw [<-S.pre];exact S.nd.sublist (X8 _ _)
  refine⟨u,rv,?_⟩;rcases S.par y (P6 hp) with k|k
  ·exact .inl ⟨k,Wj ndP hp hu k⟩
  ·obtain⟨c,e⟩:=vB (n:=s.heap.objs.size+1) k;refine .inr ⟨.inl k,c,e,?_⟩;have q:=x.cell y c e;rw [Wl ndP hp hu (by show scope.names.lookup y≠_;rw [k];decide)] at q;exact q
 ·exact e0.hok.fresh (R9 (x.above y c (E1 h)))
 ·unfold start;show _=N.length;rw [P7,G7,kY];omega
theorem OP {CX:CXT}{P:S0}{w:N8}{K:G2}{mg:Str->P8 G1}{f:G9}{name:Str}{params:lV}{body:G0 O3}{dV kV doc pm cdv ct oc:G1}{an od:P8 G9}{osl:N0 (P8 G1)}{N ps:G0 Str}{sp:Sp}(lk:K.lookup f=some ⟨oc,od,.func (V0 name qual params body scope dV kV doc pm an cdv ct),osl⟩)(hcd:cV K cdv qual=true)(S:FnScope N ps scope)
 (len: ∀vs H Q E,sp vs H Q E->vs.length=ps.length)
 (hbody: ∀ (A:T8) (outer:G0 Env) (s:G3) (H:Hp) (vs:G0 V) (Q:VK) (E:XK),RoomU k (A.deeper (E8 qual scope s.heap.objs.size f cdv))->sp vs H Q E->
  ∃t,PSs (UM CX P w K mg base N qual scope f cdv A outer s H E) body t/\t {nx:=λ_ H'=>Q .non H',rt:=Q} (start N vs) H):
 FnOkU P w K mg base CX (k+1) f (V0 name qual params body scope dV kV doc pm an cdv ct) ps sp:=by
 refine⟨len,λA outer s H args us vs Q E hr e0 hb r hsp=> ?_⟩;have hl:=len _ _ _ _ hsp;have KX:K.In s.heap:=e0.mod.kin.keeps λb o e=>(e0.bs b o e).1
 have lim:s.heap.NoLimit:=e0.mod.nolimit.keeps λb o e=>(e0.bs b o e).1
 have hkind: ∀y∈ps.zip us,scope.names.lookup y.1=some .local\/(scope.names.lookup y.1=some .cell/\((K1 (s.heap.objs.size+1) scope.names []).lookup y.1).isSome=true):=λ⟨n,v⟩ hy=>by
  rcases S.par n (J7 hy).1 with q|q
  ·exact .inl q
  ·exact .inr ⟨q,Z8 _ _ _ (.inl q)⟩
 refine dJ hr.depth (KX _ _ lk) rfl S.co S.gen rfl (fZ KX hcd) (hb _ _ _ _ ?_);refine aS S.kind hkind λenv he s1 x=> ?_
 subst he;refine⟨lim.keeps x.toInCall.keep,m9 ?_⟩;obtain⟨t,ht,hq⟩:=hbody A outer s H vs Q E (hr.deeper _) hsp;have I:Inv (UM CX P w K mg base N qual scope f cdv A outer s H E) [] (start N vs) H s1:=GH S e0 hl r x;refine T3 (ht [] s1 (start N vs) H _ I hq) (λfl s' hs=> ?_) λe s' hs=>hs
 have fin: ∀ {xC:St} {H':Hp} {v:V} {u:G1},Inv (UM CX P w K mg base N qual scope f cdv A outer s H E) [] xC H' s'->RelV v u->Q v H'->CE outer P w H s Q u s':=
  λ{xC H' v u} J rv q=>⟨v,H',J.os,J.bare,J.base,J.hok,rv,q⟩
 cases fl with
 |ret u=>
  obtain⟨v,xC,H',J,rv,q⟩:=hs;exact fin J rv q
 |next=>
  obtain⟨xC,H',J,q⟩:=hs;exact fin (v:=V.non) (u:=fN) J rfl q
 |brk=>
  obtain⟨_,_,_,q⟩:=hs;exact False.elim q
 |cont=>
  obtain⟨_,_,_,q⟩:=hs;exact False.elim q
section
variable {P:S0}{w:N8}{K:G2}{mg:Str->P8 G1}{base:N9}
variable {qual:Str}
theorem Fun.okU {x:Str}{st:O3}{f:G9}{fd:S1}{N ps:G0 Str}{k:G8}{sp:Sp}(F:Fun K x qual st f fd)(S:FnScope N ps (jd st))(len: ∀vs H Q E,sp vs H Q E->vs.length=ps.length)
 (hbody: ∀ (cdv:G1) (A:T8) (outer:G0 Env) (s:G3) (H:Hp) (vs:G0 V) (Q:VK) (E:XK),RoomU k (A.deeper (E8 qual (jd st) s.heap.objs.size f cdv))->sp vs H Q E->
  ∃t,PSs (UM CX0 P w K mg base N qual (jd st) f cdv A outer s H E).nox (jW st) t/\t {nx:=λ_ H'=>Q .non H',rt:=Q} (start N vs) H):FnOkU P w K mg base CX0 (k+1) f fd ps sp:=by
 obtain⟨oc,od,kV,doc,pm,an,cdv,ct,osl,rfl,lk,hcd⟩:=F.ex;refine OP lk hcd S len λA outer s H vs Q E hr hsp=> ?_
 obtain⟨t,h,q⟩:=hbody cdv A outer s H vs Q E hr hsp;exact⟨t,h.nox,q⟩
theorem Fun.okDU {x:Str}{st:O3}{f:G9}{fd:S1}{N ps:G0 Str}{k:G8}{spd:RDn}(F:Fun K x qual st f fd)(S:FnScope N ps (jd st))(len: ∀ds h Q,spd ds h Q->ds.length=ps.length)
 (tb:TSD)(hbody: ∀ (cdv:G1) (A:T8) (outer:G0 Env) (s:G3) (H:Hp) (E:XK),RoomU k (A.deeper (E8 qual (jd st) s.heap.objs.size f cdv))->QSs (UM CX0 P w K mg base N qual (jd st) f cdv A outer s H E).nox (jW st) tb)
 (read: ∀ds h Q,spd ds h Q->tb (Uh Q) (ze N ds) h):FnOkU P w K mg base CX0 (k+1) f fd ps (LSp K spd):=by
 refine F.okU S (λvs H Q E h=> ?_) (λcdv A outer s H vs Q E hr h=> ?_)
 ·obtain⟨ds,h,Qd,r,rh,q,p⟩:=h;rw [<-r.length];exact len _ _ _ q
 ·obtain⟨ds,h,Qd,r,rh,q,p⟩:=h;refine⟨_,hbody cdv A outer s H E hr,ze N ds,h,Uh Qd,vD r,rh,read ds h Qd q,λxH h' xC H' k rs' rh' ⟨h2,sb,q'⟩=>p .non .non h2 H' k (rh'.sub sb) rfl q',λd v h' H' k rh' r' ⟨h2,sb,q'⟩=>p d v h2 H' k (rh'.sub sb) r' q',λ_ _ _ _ _ _ _ z=>z.elim,λ_ _ _ _ _ _ _ z=>z.elim⟩
theorem Fun.okJU {x:Str}{st:O3}{f:G9}{fd:S1}{N ps:G0 Str}{k:G8}{spd:RDn}(F:Fun K x qual st f fd)(S:FnScope N ps (jd st))(len: ∀ds h Q,spd ds h Q->ds.length=ps.length)
 (tb:TSD)(hbody: ∀ (cdv:G1) (A:T8) (outer:G0 Env) (s:G3) (H:Hp) (E:XK),RoomU k (A.deeper (E8 qual (jd st) s.heap.objs.size f cdv))->JSs (UM CX0 P w K mg base N qual (jd st) f cdv A outer s H E).nox (jW st) tb)
 (read: ∀ds h Q,spd ds h Q->tb (Uh Q) (ze N ds) h):FnOkU P w K mg base CX0 (k+1) f fd ps (LSp K spd):=F.okDU S len tb (λcdv A outer s H E hr=>(hbody cdv A outer s H E hr).to) read
end
structure FnOkS (P:S0)(w:N8)(K:G2)(mg:Str->P8 G1)(base:N9)(CX:CXT)(k:G8)(f:G9)(fd:S1)(ps:G0 Str)(sp:G3->Sp):Prop where
 len: ∀s vs H Q E,sp s vs H Q E->vs.length=ps.length
 run: ∀ (A:T8) (outer:G0 Env) (s:G3) (H:Hp) (args:Args) (us:G0 G1) (vs:G0 V) (Q:VK) (E:XK),Room k A->Env0 P w K mg base A outer s H->lU s fd args (ps.zip us)->Vals vs us->sp s vs H Q E->
  Y9 (S4 P w) A (.call (.ref f) args) (CR CX outer P w H s Q E) s
section
variable {X:Cx}{CX:CXT}{k:G8}{f C:G9}{fd:S1}{ps:G0 Str}{sp:Sp}{dvs:G0 V}{ds:G0 G1}{E:XK}{x m:Str}{p pos apos:Pos}{e o:T1}{es:G0 T1}{ta:TE}{t:TA}
theorem Cz {pins:G0 (G9×Obj)}{σ:St}{H:Hp}{s:G3}{Q:VK}{us:G0 G1}{vs:G0 V}{sp:G3->Sp}(F:FnOkS X.prog X.w X.K X.mg X.base CX k f fd ps sp)(hr:Room k X.A)(hb:Binds X.K fd ps ds)(hd:Vals dvs ds)(hx:Wi CX X E)
 (I:Inv X pins σ H s)(r:Vals vs us)(h:sp s (vs++dvs) H Q E):R4 (S4 X.prog X.w) X.A (call (.ref f) us) (EP X pins σ Q) X.xe s:=by
 have r2:Vals (vs++dvs) (us++ds):=r.append hd;have hl:(us++ds).length=ps.length:=by rw [<-r2.length];exact F.len _ _ _ _ _ h
 refine cG (cU (F.run X.A X.stack s H ⟨us,[]⟩ (us++ds) (vs++dvs) Q E hr I.env0 (hb s us I.kIn hl) r2 h) λr s' hq=> ?_);cases r with
 |error e=>exact hx pins σ H s e s' I hq
 |ok fl=>
  cases fl with
  |ret u=>exact I.after hq
  |next=>exact False.elim hq
  |brk=>exact False.elim hq
  |cont=>exact False.elim hq
end
theorem OQ {CX:CXT}{P:S0}{w:N8}{K:G2}{mg:Str->P8 G1}{f:G9}{name:Str}{params:lV}{body:G0 O3}{dV kV doc pm cdv ct oc:G1}{an od:P8 G9}{osl:N0 (P8 G1)}{N ps:G0 Str}{sp:G3->Sp}(lk:K.lookup f=some ⟨oc,od,.func (V0 name qual params body scope dV kV doc pm an cdv ct),osl⟩)(hcd:cV K cdv qual=true)(S:FnScope N ps scope)
 (len: ∀s vs H Q E,sp s vs H Q E->vs.length=ps.length)
 (hbody: ∀ (A:T8) (outer:G0 Env) (s:G3) (H:Hp) (vs:G0 V) (Q:VK) (E:XK),Room k (A.deeper (E8 qual scope s.heap.objs.size f cdv))->sp s vs H Q E->
  ∀s1,Inv (Yn CX P w K mg base N qual scope f cdv A outer s H E) [] (start N vs) H s1->R4 (S4 P w) (A.deeper (E8 qual scope s.heap.objs.size f cdv)) (execs body (E8 qual scope s.heap.objs.size f cdv)) (SP (Yn CX P w K mg base N qual scope f cdv A outer s H E) [] {nx:=λ_ H'=>Q .non H',rt:=Q}) (Yn CX P w K mg base N qual scope f cdv A outer s H E).xe s1):
 FnOkS P w K mg base CX (k+1) f (V0 name qual params body scope dV kV doc pm an cdv ct) ps sp:=by
 refine⟨len,λA outer s H args us vs Q E hr e0 hb r hsp=> ?_⟩;have hl:=len _ _ _ _ _ hsp;have KX:K.In s.heap:=e0.mod.kin.keeps λb o e=>(e0.bs b o e).1
 have lim:s.heap.NoLimit:=e0.mod.nolimit.keeps λb o e=>(e0.bs b o e).1
 have hkind: ∀y∈ps.zip us,scope.names.lookup y.1=some .local\/(scope.names.lookup y.1=some .cell/\((K1 (s.heap.objs.size+1) scope.names []).lookup y.1).isSome=true):=λ⟨n,v⟩ hy=>by
  rcases S.par n (J7 hy).1 with q|q
  ·exact .inl q
  ·exact .inr ⟨q,Z8 _ _ _ (.inl q)⟩
 refine dJ hr.depth (KX _ _ lk) rfl S.co S.gen rfl (fZ KX hcd) (hb _ _ _ _ ?_);refine aS S.kind hkind λenv he s1 x=> ?_
 subst he;refine⟨lim.keeps x.toInCall.keep,m9 ?_⟩;have ht:=hbody A outer s H vs Q E (hr.deeper _) hsp;have I:Inv (Yn CX P w K mg base N qual scope f cdv A outer s H E) [] (start N vs) H s1:=Uo S hr.hd e0 hl r x;refine T3 (ht s1 I) (λfl s' hs=> ?_) λe s' hs=>hs
 have fin: ∀ {xC:St} {H':Hp} {v:V} {u:G1},Inv (Yn CX P w K mg base N qual scope f cdv A outer s H E) [] xC H' s'->RelV v u->Q v H'->CE outer P w H s Q u s':=
  λ{xC H' v u} J rv q=>⟨v,H',J.os,J.bare,J.base,J.hok,rv,q⟩
 cases fl with
 |ret u=>
  obtain⟨v,xC,H',J,rv,q⟩:=hs;exact fin J rv q
 |next=>
  obtain⟨xC,H',J,q⟩:=hs;exact fin (v:=V.non) (u:=fN) J rfl q
 |brk=>
  obtain⟨_,_,_,q⟩:=hs;exact False.elim q
 |cont=>
  obtain⟨_,_,_,q⟩:=hs;exact False.elim q
section
variable {X:Cx}{k:G8}{f:G9}{fd:S1}{ps:G0 Str}{spd:RDn}{x:Str}{p pos:Pos}{e:T1}{es:G0 T1}{t:TAD}
theorem OR (F:FnOkU X.prog X.w X.K X.mg X.base CX0 k f fd ps (LSp X.K spd))(hr:RoomU k X.A)(hg:Gl X x)(hm:X.mg x=some (.ref f))(hk:E6 X.K (.ref f)=true)(hb:Binds X.K fd ps [])
 (ha:JA X (e::es) t)(hdb:(x==("__debug__" :Str))=false:=by decide)(he:D7 (e::es) X.env=(false,A7 e X.env)::D7 es X.env:=by rfl)(hpl:(K0 pos (D7 es X.env)).any (·.1)=false:=by rfl):
 JE X (.Call (.Name x p) (e::es) [] pos) (dCB spd t):=⟨(MF F hr hg hm hk hb .nil Bi ha.to hdb he hpl).imp PX⟩
end
def DT (P:S0)(w:N8)(K:G2)(mg:Str->P8 G1)(base:N9)(n:G8)(x:Str)(ps:G0 Str)(sp:RDn):Prop:=
 ∃ (g:G9) (gd:S1),FnOkU P w K mg base CX0 n g gd ps (LSp K sp)/\Binds K gd ps []/\E6 K (.ref g)=true/\mg x=some (.ref g)
end L2
namespace L2
open PySem PySem.Spec PyProof.Rows PySem.W PySem.Calls PySem.Builtin PySem.Builtin.ObjectAttr PySem.Builtin.Getset_descriptor
section
variable {prog:S0}{w:N8}{A:T8}{E:G1->G3->Prop}{s:G3}{K:Frag}{x D:G9}
structure ExcK (K:Frag)(D:G9):Prop where
 cls:(clsIn K D).isSome=true
 ga:findIn K (.ref D) "__getattribute__" =some (some (.builtin "BaseException.__getattribute__"))
 hk:findIn K (.ref D) "__getattr__" =some none
 ca:findIn K (.ref D) "__class__" =some (some (.builtin "object.__class__"))
 gt:specialIn K (.builtin "object.__class__") "__get__" =some (some (.builtin "getset_descriptor.__get__"))
 tk:takesIn K (.builtin "object.__class__")=some true
 ob:mroIn K D (.type "object")=some true
 be:mroIn K D (.type "BaseException")=some true
def ExcAt (x D:G9)(h:N9):Prop:= ∃o,h.get? x=some o/\o.cls= .ref D
theorem ExcAt.type {M:iA}{h:N9}(I:ExcAt x D h):Looks M h (tJ (.ref x)) (.ref D):=let ⟨o,h1,h2⟩:=I;h2 ▸ (sN h1).andThen .now
theorem GI {tp:G1}{R:pS->G3->Prop}(X:K.In s.heap)(I:ExcAt x D s.heap)(ob:mroIn K D (.type "object")=some true)
 (h:R (.ok (.ret (.ref D))) s):Y9 (S4 prog w) A (.call (.builtin "getset_descriptor.__get__") ⟨[.builtin "object.__class__",.ref x,tp],[]⟩) R s:=by
 obtain⟨hp,g,dr,t,os⟩:=s;have known:Looks (S4 prog w) hp (tU (.ref x) (.type "object")) true:=I.type.andThen (looks_mroIn X ob);have passed:Looks (S4 prog w) hp (descrCheckInstance (.builtin "object.__class__") (.ref x)) ():=
  Looks.andThen (a:=(("__class__" :Str),Q5 "object")) (mM (congrArg (λp:Q4×Q4=>(pure (K7 p.2,Q5 p.1):Sem (Str×G1))) KF.owner_class)) (known.andThen .now)
 have shown:Looks (S4 prog w) hp (shownTypeOf (.ref x)) (.ref D):=I.type.andThen .now;have asked:=KF.slot_gs.check (S4 prog w) A.in1 (λe s'=>R (.error e) s') ⟨hp,g,dr,t,os⟩ (.builtin "object.__class__") [.ref x,tp] [];refine dY KF.slot_gs.plain KF.entry_gs (asked _ KF.type_class (KF.args_gs _ _ _) ?_);show R4 _ _ (descrGetArgs _ >>= _) _ _ _;rw [dga_obj];refine wpAny_bind (P5 (wpAny_bind (passed.at (P5 ⟨Code.quiet_builtin _ (by decide +kernel),pF KF.entry_class ?_⟩))));exact wpAny_bind (shown.at (P5 h))
theorem MG {M:iA}{h:N9}(X:K.In h)(Z:ExcK K D):Looks M h (find (.ref x) (.ref D) "__class__") (.bind (.builtin "getset_descriptor.__get__") (.builtin "object.__class__")):=by
 have L1:=looks_findIn (M:=M) X Z.ca;have L2:Looks M h (getOf (some (.builtin "object.__class__"))) (some (.builtin "getset_descriptor.__get__")):=looks_specialIn X Z.gt;have L3:=looks_takesIn (M:=M) X Z.tk;exact L1.andThen (L2.andThen ((show Looks M h (dataDescriptor? (some (.builtin "object.__class__")) (some (.builtin "getset_descriptor.__get__"))) (some (.builtin "getset_descriptor.__get__",.builtin "object.__class__")) from L3.andThen .now).andThen (Looks.tag .now)))
theorem CA {M:iA}{h:N9}(X:K.In h)(I:ExcAt x D h)(Z:ExcK K D)(n:G1):Looks M h (oK "BaseException.__getattribute__" ⟨[.ref x,n],[]⟩) ():=by
 have known:Looks M h (tU (.ref x) (.type "BaseException")) true:=I.type.andThen (looks_mroIn X Z.be);have fits:=sO (.ref x) n;unfold oK;rw [show builtinKind "BaseException.__getattribute__" =some .slot by decide +kernel,show splitId "BaseException.__getattribute__" =some ("BaseException","__getattribute__") by decide +kernel];exact known.andThen (mM fits)
theorem Ys {tk:Tok}{R:pS->G3->Prop}(X:K.In s.heap)(I:ExcAt x D s.heap)(Z:ExcK K D)(h:R (.ok (.ret (.ref D))) s):
 Y9 (S4 prog w) A (.call (.builtin "BaseException.__getattribute__") ⟨[.ref x,.str "__class__" tk],[]⟩) R s:=
 dY PySem.F.attr_ValueError.ga.plain sA (gM (CA X I Z _) (wpAny_bind (P5 (wpAny_bind (P5 (wpAny_bind (gM I.type (wpAny_bind (gM (MG X Z) (wpAny_bind (E3 (cG (GI X I Z.ob (P5 h))))))))))))))
theorem GJ {Q:P8 G1->G3->Prop}(X:K.In s.heap)(I:ExcAt x D s.heap)(Z:ExcK K D)(h:Q (some (.ref D)) {s with toks:=s.toks+1}):R4 (S4 prog w) A (getAttr? (.ref x) "__class__") Q E s:=by
 have byReader:=PySem.F.attr_ValueError.ga.bind (.ref x);have asked: ∀ {A':T8} {P:G1->G3->Prop} {E':G1->G3->Prop},P (.ref D) {s with toks:=s.toks+1}->R4 (S4 prog w) A' (qJ (.builtin "BaseException.__getattribute__") (.ref x) (.str "__class__" s.toks)) P E' {s with toks:=s.toks+1}:=λp=>by
  unfold qJ;rw [byReader];exact wpAny_bind (P5 (cG (Ys (s:= {s with toks:=s.toks+1}) X I Z p)))
 have own: ∀ {A':T8} {P:G1->G3->Prop} {E':G1->G3->Prop},P (.ref D) {s with toks:=s.toks+1}->R4 (S4 prog w) A' (getAttrByItsOwn (.ref x) (.str "__class__" s.toks) (.ref D) (.builtin "BaseException.__getattribute__") false false) P E' {s with toks:=s.toks+1}:=λp=>
  wpAny_bind (gM (s:= {s with toks:=s.toks+1}) (looks_findIn X Z.hk) (wpAny_bind (iQ (E3 (asked (P5 p))))))
 exact wpAny_bind (wpAny_mkText (wpAny_bind (iQ (E3 (wpAny_bind (gM (s:= {s with toks:=s.toks+1}) I.type (wpAny_bind (gM (s:= {s with toks:=s.toks+1}) (looks_findIn X Z.ga) (own (P5 h))))))))))
theorem MJ (Z:ExcK K D):KitX K (.ref x) (.ref D) (ExcAt x D):=by
 have isClass: ∀ {h:N9},K.In h-> ∃o c,h.get? D=some o/\o.data= .cls c:=λX=>by
  obtain⟨c,hc⟩:=K5.mp Z.cls;revert hc;unfold clsIn;split
  ·rename_i ho;exact λ_=>⟨_,_,X _ _ ho,rfl⟩
  ·exact λz=>nomatch z
 refine⟨λ_ _ _ I=>I.type,λM h X _=> ?_,λh tp dd its n sl X htp=> ?_,λX I k=>GJ X I Z k⟩
 ·obtain⟨o,c,ho,hd⟩:=isClass X;exact(sN ho).andThen (mM (by rw [hd]))
 ·obtain⟨o,c,ho,hd⟩:=isClass X;cases hq:(aI D==aI tp) with
  |false=>rfl
  |true=>
   cases (beq_iff_eq.mp hq);rw [htp] at ho;cases ho;cases hd
end
end L2
namespace L2
open PySem PySem.Spec PyProof.Rows PySem.SeqAt PySem.W
theorem MK {X:Cx}(hu:X.A.units+64<cLine):MtM X "list.count" (λx vs H Q=> ∃ (a:G9) (y:V) (dy:D) (h:HD) (p:Q1) (ps:G0 Q1),x= .ref a/\vs= [y]/\RelD X.K H dy y/\RelH X.K h H/\ToP h (.lst a) (.list ps)/\ToP h dy p/\p.canLay0=true/\O0 ps=true/\p.depth<=60/\Q (.int ((ps.countP λz=>F4 z p:G8):P0)) H):=by
 intro pins s σ H x vs v us Q I rx rv h;obtain⟨a,y,dy,h,p,ps,rfl,rfl,rd,rh,t1,t2,c1,c2,c3,q⟩:=h;cases rx;obtain⟨u,rfl,ru⟩:=Jp rv;obtain⟨a',ds,ea,ha,ts⟩:=(show ∃a' ds,D.lst a= .lst a'/\h a'=some ds/\ToPs h ds ps from t1);cases ea;obtain⟨ws,hH,_⟩:=rh a ds ha;obtain⟨as,r1⟩:=zt I rh t1 (show RelD X.K H (.lst a) (.ref a) from ⟨rfl,ws,hH⟩) (show RelV (.ref a) (.ref a) from rfl);obtain⟨bs,r2⟩:=zt I rh t2 rd ru;cases r1 with
 |list h1 h2 h3 h4=>
  rename_i o its n cs;have em:=readsAll_map ps _ _ c2 h4;have hu':X.A.units+1+min (L5 ps) p.depth<cLine:=by have:=Z4 (L5 ps) p.depth;omega
  obtain⟨oc,od,odt,osl⟩:=o;simp only at h2 h3;subst h2 h3;refine gA i6 ⟨_,h1,rfl⟩ qX (qM _ _) (list_countAt a its n od osl u (λy=>F4 (readOf s.heap y) p)) ⟨h1,items_eqAt h4 r2 c2 c1 hu',?_⟩;have e:its.toList.countP (λy=>F4 (readOf s.heap y) p)=ps.countP λz=>F4 z p:=by
   rw [<-em,List.countP_map];rfl
  exact⟨.int _,H,I.tok _,⟨_,by rw [e]⟩,q⟩
def TZ (to te:TED):TED:=λσ h Q=>to σ h λx h1=> ∃a,x= .lst a/\te σ h1 λy h2=> ∃ (p:Q1) (ps:G0 Q1),ToP h2 (.lst a) (.list ps)/\ToP h2 y p/\p.canLay0=true/\O0 ps=true/\p.depth<=60/\Q (.int ((ps.countP λz=>F4 z p:G8):P0)) h2
section
variable {X:Cx}{o e i:T1}{to te ti:TED}{apos cpos:Pos}
theorem Ha (hu : X.A.units + 64 < cLine) (ho : JE X o to) (he : JE X e te) (hbase : bR o "count" X.env (A7 o X.env) = A7 o X.env := by rfl)
    (hfew : ((K0 cpos (D7 [e] X.env)).all (fun x => !x.1) && (lE cpos (dX [] X.env)).all (fun x => x.1.isSome) && decide ([e].length + ([] : G0 cY).length + (if ([] : G0 cY).isEmpty then 0 else 1) < 30)) = true := by rfl)
    (hline : (apos.endLine == cpos.line) = true := by rfl) (hs : D7 [e] X.env = (false, A7 e X.env) :: D7 [] X.env := by rfl) (hplain : (K0 cpos (D7 [] X.env)).any (·.1) = false := by rfl) :
    JE X (.Call (.Attribute o "count" apos) [e] [] cpos) (TZ to te) :=
  ⟨(Bg cR i6 rH (MK hu) ho.to (wR he.to pa_nil hs) hbase hfew hline hs hplain).imp
    fun σ H Q ⟨xD, h, Qd, rs, rh, t, p⟩ => LE.bind rs rh t fun d v h1 H1 k1 rs1 rh1 r1 ⟨a, e, q⟩ => by
      subst e
      obtain ⟨e1, vs, hH⟩ := (show v = .ref a ∧ ∃ vs, H1 a = some (.lst vs) from r1)
      subst e1
      refine ⟨.inl ⟨rfl, vs, SqL.of hH⟩, ?_⟩
      refine LE.bind rs1 rh1 q fun y u h2 H2 k2 rs2 rh2 r2 ⟨pd, ps, t1, t2, c1, c2, c3, q2⟩ => ?_
      exact ⟨a, u, y, h2, pd, ps, rfl, rfl, r2, rh2, t1, t2, c1, c2, c3, p (.int _) _ _ _ (k1.trans k2) rh2 rfl q2⟩⟩
end
def EU (K:Frag)(c:G1)(ta:TED):TED:=λσ h Q=>ta σ h λx h1=> ∃C b,x= .exc C/\ExcK K C/\kitOne K (.ref C) c=some b/\Q (.bl b) h1
theorem YW {X:Cx}{v:V}{c:G1}(rc: ∀u,RelV v u->u=c):CallR X (.builtin "isinstance") (λxs H Q=> ∃x C o b,xs= [.ref x,v]/\H x=some (.frz o (.own 0))/\o.cls= .ref C/\ExcK X.K C/\kitOne X.K (.ref C) c=some b/\Q (.bl b) H):=by
 intro pins s σ H xs us Q I r h;obtain⟨x,C,o,b,rfl,hx,hc,Z,e,q⟩:=h;obtain⟨u,w',rfl,rx,rt⟩:=Ps r;cases rx;cases rc _ rt;exact kia_one (MJ Z) I.kIn ⟨o,(I.hok x _ hx).1,hc⟩ e (λz=>nomatch z) λtk=>⟨.bl b,H,I.tok tk,rfl,q⟩
section
variable {X:Cx}{a:T1}{ta:TED}{t:Str}{p p2 pos:Pos}
theorem DU {v:V}{c:G1}: ∀σ H Q,LE X.K (EU X.K c ta) σ H Q->tCB (λxs H Q=> ∃x C o b,xs= [.ref x,v]/\H x=some (.frz o (.own 0))/\o.cls= .ref C/\ExcK X.K C/\kitOne X.K (.ref C) c=some b/\Q (.bl b) H) (RM (LE X.K ta) (RM (tC v) AQ)) σ H Q:=
 λσ H Q ⟨xD,h,Qd,rs,rh,t,p⟩=>LE.bind rs rh t λd u h1 H1 k1 rs1 rh1 r1 ⟨C,b,e,Z,k,q⟩=>by
  subst e;obtain⟨x,o,vs,e1,hx,hc,_⟩:=(show ∃x o vs,u= .ref x/\H1 x=some (.frz o (.own 0))/\o.cls= .ref C/\o.data= .fields vs from r1);subst e1;exact⟨x,C,o,b,rfl,hx,hc,Z,k,p (.bl b) _ _ _ k1 rh1 rfl q⟩
theorem GK {KK:Frag}{D:G9}(hg:Gl X "isinstance")(hm:X.mg "isinstance" =none)(hg2:Gl X t)(hm2:X.mg t=some (.ref D))(ha:JE X a ta)(hd:(t==("__debug__" :Str))=false:=by decide)
 (h1:D7 [a,.Name t p2] X.env=(false,A7 a X.env)::D7 [.Name t p2] X.env:=by rfl)(h2:(K0 pos (D7 [.Name t p2] X.env)).any (·.1)=false:=by rfl)(hK:X.K=KK:=by rfl):
 JE X (.Call (.Name "isinstance" p) [a,.Name t p2] [] pos) (EU KK (.ref D) ta):=
 hK ▸ ⟨(ZX (YW (v:= .ref D) λu r=>r) hg hm aF (wR ha.to (wR (Pi (v:= .ref D) hg2 hm2 rfl hd) pa_nil (by rfl)) h1) (by decide) (by decide) h1 h2).imp DU⟩
theorem Hb {KK:Frag}{T:Q4}(hg:Gl X "isinstance")(hm:X.mg "isinstance" =none)(hg2:Gl X t)(hm2:X.mg t=none)(hv:J9 t=some (.type T))(ha:JE X a ta)(hn:t≠ "__name__" :=by decide)(hd:(t==("__debug__" :Str))=false:=by decide)
 (h1:D7 [a,.Name t p2] X.env=(false,A7 a X.env)::D7 [.Name t p2] X.env:=by rfl)(h2:(K0 pos (D7 [.Name t p2] X.env)).any (·.1)=false:=by rfl)(hK:X.K=KK:=by rfl):
 JE X (.Call (.Name "isinstance" p) [a,.Name t p2] [] pos) (EU KK (.type T) ta):=
 hK ▸ ⟨(ZX (YW (v:= .ty T) λu r=>r) hg hm aF (wR ha.to (wR (Pj (v:= .ty T) hg2 hm2 hv rfl hn hd) pa_nil (by rfl)) h1) (by decide) (by decide) h1 h2).imp DU⟩
end
end L2
namespace L2
open PySem PySem.Spec PyProof.Rows PySem.W
section
variable {X:Cx}{σ:St}{H:Hp}{s:G3}{x C:G9}
theorem Inv.relaid {B h':N9}{T:G9}{a0:G1}(I:Inv X [] σ H s)(Z:Rz0 X)(hpn:X.pn= [])(hx:H x=none/\X.s₀.heap.get? x=none)(hT:H T=none/\X.s₀.heap.get? T=none)
 (hB:B=hideAll s.heap (x::T::frs (X.env::X.outer)))(fl:Heap.FlyingW B (X.env::X.outer) x (.ref C) a0 h')(up:s.heap.UpToSlots h'):Inv X [] σ H {s with heap:=h'}/\Fly X.s₀.heap H h' x C:=by
 subst hB;have stk:s.heap.FunFrames X.base (X.env::X.outer):=Z.stk ▸ I.stack;obtain⟨st,_,_,oe',vs',T',oT',ts',he',⟨hc',h0'⟩,hd',h1',hTB,hTx',hT',hTd',h3'⟩:=fl;obtain⟨r1,r2,r3⟩:=DP (ys:= [x,T]) (h':=h') I Z (λy hy=>by
  rcases D2.mp hy with rfl|hy
  ·exact hx
  ·rcases D2.mp hy with rfl|hy
   ·exact hT
   ·cases hy) (λb o e n1 n2=>st b o (hideAll_get _ e λz=>by
    rcases D2.mp z with rfl|z
    ·exact n1 (.head _)
    ·rcases D2.mp z with rfl|z
     ·exact n1 (.tail _ (.head _))
     ·exact n2 z)) λb o e hb=>by
  obtain⟨_,o2,e2,nd⟩:=stk.mem hb;rw [e] at e2;cases e2;exact up b o e nd
 obtain⟨q1,q2⟩:=r3 T' oT' ts' hT' hTd' λo e=>by
  by_cases z:T'∈frs (X.env::X.outer)
  ·exact .inr z
  ·refine .inl ?_
   by_cases z1:T'=x
   ·rw [z1];exact .head _
   ·by_cases z2:T'=T
    ·rw [z2];exact .tail _ (.head _)
    ·rw [hideAll_get _ e (by simp only [D2,u8];exact⟨z1,z2,z⟩)] at hTB;cases hTB
 have cellK: ∀c v,s.heap.IsCell c v->h'.IsCell c v:=λc v ⟨o,ho,hd⟩=>by
  obtain⟨sl,e⟩:=up c o ho λws q=>by rw [hd] at q;cases q
  exact⟨_,e,hd⟩
 refine⟨⟨I.ok,I.os,I.bare,by rw [Z.ex];exact r1,?_,λy c e=> ?_,I.free,I.freeC,λp hp=> ?_,r2,I.len⟩,⟨⟨oe',vs',a0,T',oT',ts',he',hc',hd',h0',h1',hTx',hT',hTd',h3',q1,q2⟩,hx.1,hx.2⟩⟩
 ·obtain⟨m,hn,hl⟩:=I.loc;refine⟨m,up.ns hn,λi y v e1 e2 e3=> ?_⟩;obtain⟨u,r,l⟩:=hl i y v e1 e2 e3;exact⟨u,r,l.imp id λ⟨k,c,e,z⟩=>⟨k,c,e,cellK c _ z⟩⟩
 ·obtain⟨v,z⟩:=I.cell y c e;exact⟨v,cellK c v z⟩
 ·rw [hpn] at hp;cases hp
theorem Inv.track {oe:Obj}{vs:N0 G1}(I:Inv X [] σ H s)(hpn:X.pn= [])(hn:H x=none)(h0:X.s₀.heap.get? x=none)(hx:s.heap.get? x=some oe)(hd:oe.data= .fields vs):Inv X [] σ (upd H x (.frz oe (.own 0))) s:=by
 have ne: ∀b u,H b=some u->b≠x:=λb u e z=>by rw [z,hn] at e;cases e
 have ne0: ∀b o,X.s₀.heap.get? b=some o->b≠x:=λb o e z=>by rw [z,h0] at e;cases e
 have cn: ∀y c,X.env.cells.lookup y=some c->c≠x:=λy c e z=>by
  obtain⟨v,o,ho,hc⟩:=I.cell y c e;rw [z,hx] at ho;cases ho;rw [hd] at hc;cases hc
 refine⟨I.ok,I.os,I.bare,⟨I.base.keep,I.base.slot,λb o e n hx=> ?_,I.base.there,λb xs e=> ?_,λb o u e=> ?_,λb ps e=> ?_⟩,I.loc,I.cell,?_,λy c e=> ?_,λp hp=> ?_,λa o e=> ?_,I.len⟩
 ·rw [jm (ne0 b o e)];exact I.base.free b o e n hx
 ·have:=I.base.tups b xs e;rw [jm (ne b _ this)];exact this
 ·have:=I.base.frzs b o u e;rw [jm (ne b _ this)];exact this
 ·obtain⟨more,this⟩:=I.base.tbls b ps e;exact⟨more,by rw [jm (ne b _ this)];exact this⟩
 ·rw [jm (λz=> ?_)]
  ·exact I.free
  ·obtain⟨m,⟨o,es,ep,e,d,_⟩,_⟩:=I.loc;rw [z,hx] at e;cases e;rw [hd] at d;cases d
 ·rw [jm (cn y c e)];exact I.freeC y c e
 ·rw [hpn] at hp;cases hp
 ·by_cases z:a=x
  ·subst z;rw [jn] at e;cases e;exact⟨hx,⟨oe,hx⟩⟩
  ·rw [jm z] at e;exact(I.hok a o e).stay (λ_ _ _ q=>q) (λb q=>by rw [jm (ne b _ q)];exact q) λb xs q=>by rw [jm (ne b _ q)];exact q
theorem DV {M:iA}{A:T8}{E:G1->G3->Prop}{i:G8}{y:Str}{v:V}{Q:Unit->G3->Prop}(I:Inv X [] σ H s)(hpn:X.pn= [])(hN:X.N.Nodup)(hi:X.N[i]? =some y)(hk:X.env.scope.names.lookup y=some .local)(hv:σ[i]? =some (some v))
 (h: ∀s',Inv X [] (σ.set i none) H s'->Q () s'):R4 M A (unbindName X.env y) Q E s:=by
 obtain⟨m,hn,hl⟩:=id I.loc;have hcls:(X.env.scope.kind== .class||(X.env.scope.kind== .module&&X.env.locals !=X.env.globals))=false:=by rw [I.ok.kind];rfl
 have xX:i<σ.length:=by rw [I.len];exact(P9.mp hi).1
 obtain⟨u,r,l⟩:=hl i y v hi hv (.inl hk);have hm:m y=some u:=by
  rcases l with ⟨_,e⟩|⟨k,_⟩
  ·exact e
  ·rcases k with k|k<;>(have k':X.env.scope.names.lookup y=_:=k;rw [hk] at k';cases k')
 refine wpAny_unbindName_local hk hn hm hcls λh' u' hn' hs=> ?_
 obtain⟨oL,_,_,hoL,_⟩:=id hn;have cne:=I.cne;refine h _ ⟨I.ok,I.os,I.bare,⟨λb o e n hb hx=> ?_,λb o e n hb hx=> ?_,I.base.free,λb o e hx=> ?_,I.base.tups,I.base.frzs,I.base.tbls⟩,⟨_,hn',λj z v' e1 e2 e3=> ?_⟩,λz c e=> ?_,I.free,I.freeC,λp hp=> ?_,λb ob e=> ?_,by simpa using I.len⟩
 ·exact(hs.2 b (T5 (S7 (D8 e) I.ok.above))).trans (I.base.keep b o e n hb hx)
 ·obtain⟨sl,e1⟩:=I.base.slot b o e n hb hx;exact⟨sl,(hs.2 b (T5 (S7 (D8 e) I.ok.above))).trans e1⟩
 ·obtain⟨o',e1⟩:=I.base.there b o e hx;exact⟨o',(hs.2 b (T5 (S7 (D8 e) I.ok.above))).trans e1⟩
 ·by_cases hj:j=i
  ·subst hj;rw [W5 xX] at e2;cases e2
  ·rw [L7 (K6 hj)] at e2;obtain⟨u2,r',q⟩:=hl j z v' e1 e2 e3;refine⟨u2,r',?_⟩;rcases q with ⟨k,e⟩|⟨k,c,e,q⟩
   ·refine .inl ⟨k,?_⟩;have:z≠y:=λe=>hj (Vf hN e1 (e ▸ hi))
    simp [this,e]
   ·exact .inr ⟨k,c,e,q.sameBut hs (cne z c e)⟩
 ·obtain⟨w',q⟩:=I.cell z c e;exact⟨w',q.sameBut hs (cne z c e)⟩
 ·rw [hpn] at hp;cases hp
 ·refine(I.hok b ob e).stay (λc w' hc q=>(hs.2 c ?_).trans q) (λ_ q=>q) λ_ _ q=>q
  rintro rfl;rcases hc with rfl|hc
  ·rw [I.free] at e;cases e
  ·rw [I.free] at hc;cases hc
end
def cxH (X:Cx)(x:G9):Cx:= {X with A:=X.A.mark (some (.ref x)),calm:=false,xe:=λ_ _=>False}
section
variable {X:Cx}{pins:G0 (G9×Obj)}{σ:St}{H:Hp}{s:G3}{x C:G9}
theorem Inv.suite (I:Inv X pins σ H s)(x:G9):Inv (cxH X x) pins σ H s:=
 ⟨⟨I.ok.mod,I.ok.kind,I.ok.glob,I.ok.blt,I.ok.above,I.ok.inj,I.ok.has,I.ok.cab,λz=>(by cases z),I.ok.frames,I.ok.stk,I.ok.exf,I.ok.bs,I.ok.bsz,I.ok.noex,I.ok.exfs,I.ok.funs,I.ok.frf⟩,I.os,I.bare,I.base,I.loc,I.cell,I.free,I.freeC,I.pin,I.hok,I.len⟩
theorem Inv.unsuite (I:Inv (cxH X x) pins σ H s)(ok:X.Ok):Inv X pins σ H s:=⟨ok,I.os,I.bare,I.base,I.loc,I.cell,I.free,I.freeC,I.pin,I.hok,I.len⟩
theorem ML {E:G1->G3->Prop}{n:Str}{i:G8}{PE:G9}{b0:O3}{suite:G0 O3}{t:TS}{D:Ends}{np pos:Pos}(Z:Rz0 X)(hpn:X.pn= [])(hN:X.N.Nodup)(hi:X.N[i]? =some n)(hl:X.env.scope.names.lookup n=some .local)
 (hg:Gl X "PowerError")(hm:X.mg "PowerError" =some (.ref PE))(hex:exmOne X.K (.ref C) (.ref PE)=some true)(I:Inv X [] σ H s)(fl:Fly X.s₀.heap H s.heap x C)(hs:PSs (cxH X x) (b0::suite) t)
 (ht: ∀oe vs,oe.cls= .ref C->oe.data= .fields vs->t {nx:=λ_ _=>False,rt:=D.rt} (σ.set i (some (.ref x))) (upd H x (.frz oe (.own 0)))):
 R4 (S4 X.prog X.w) X.A (noteFrame (.ref x) X.env) (λ_ xJ=>R4 (S4 X.prog X.w) X.A (setFlight (.ref x) none) (λ_ xP=>R4 (S4 X.prog X.w) X.A (handleBy (.ref x) X.env [.ExceptHandler (some (.Name "PowerError" np)) (some n) (b0::suite) pos]) (SP X [] D) E xP) E xJ) E s:=by
 obtain⟨oe0,vs0,a0,T,oT,ts,he,hc,hd,h0,h1,hTx,hT,hTd,h3,hHT,h0T⟩:=fl.ex;have hfr:X.A.frames=some (X.env::X.outer):=by rw [I.ok.frames,Z.stk]
 have stk:s.heap.FunFrames X.base (X.env::X.outer):=Z.stk ▸ I.stack;have ff:s.heap.FunFrames (hideAll s.heap (x::T::frs (X.env::X.outer))) (X.env::X.outer):=zC stk λa ha=>hideAll_none _ (.tail _ (.tail _ ha))
 refine wpAny_looks_onW (base:=hideAll s.heap (x::T::frs (X.env::X.outer))) (cls:= .ref C) (a0:=a0) hfr Z.fr
  ⟨λb o e=>of_hideAll _ e,hideAll_none _ (.head _),ff,oe0,vs0,T,oT,ts,he,⟨hc,h0⟩,hd,h1,hideAll_none _ (.tail _ (.head _)),hTx,hT,hTd,h3⟩ λxU HY HB=> ?_
 refine wpAny_landsW HY λxZ HE HF=> ?_
 obtain⟨I5,F5⟩:=I.relaid Z hpn ⟨fl.nx,fl.n0⟩ ⟨hHT,h0T⟩ rfl HE (HB.trans HF);refine wpAny_handleBy_cons (codeAny_handlers_test (Zb (X:=cxH X x) (I5.suite x) hg hm ?_)) (by intro q;cases q);have at5:ExcAt x C xZ:=let ⟨oe,_,_,_,_,_,e,c,_⟩:=F5.ex;⟨oe,e,c⟩;refine(exm_one (M:=S4 X.prog X.w) (h:=xZ) I5.kIn at5.type hex).here ?_;refine codeAny_handlers_suite_as ?_;refine lands_againW HE λh₆ HZ IA=> ?_
 obtain⟨I6,F6⟩:=I.relaid Z hpn ⟨fl.nx,fl.n0⟩ ⟨hHT,h0T⟩ rfl HZ (HB.trans (HF.trans IA));obtain⟨oe,vs,_,_,_,_,e6,c6,d6,_⟩:=F6.ex;have I7:=I6.track hpn F6.nx F6.n0 e6 d6;refine yt I7 hN hi (.inl hl) (v:= .ref x) rfl (λs8 I8=> ?_) (.inr hl);refine T3 (hs [] s8 _ _ _ (I8.suite x) (ht oe vs c6 d6)) (λf s9 q=> ?_) λ_ _ z=>z.elim
 cases f with
 |next=>obtain⟨_,_,_,z⟩:=q;exact z.elim
 |brk=>obtain⟨_,_,_,z⟩:=q;exact z.elim
 |cont=>obtain⟨_,_,_,z⟩:=q;exact z.elim
 |ret u=>
  obtain⟨v,xC,H3,J,rv,qq⟩:=q;have J1:Inv X [] xC H3 s9:=J.unsuite I.ok;refine wpAny_bind (lC (yt J1 hN hi (.inl hl) (v:= .non) rfl (λs10 J2=> ?_) (.inr hl)));unfold unbindBehindTheSuite;have hlt:i<xC.length:=by rw [J1.len];exact(P9.mp hi).1
  exact mL (DV J2 hpn hN hi hl (v:= .non) (by rw [W5 hlt]) λs11 J3=>⟨v,_,H3,J3,rv,qq⟩)
end
def CW:G0 (Str×Str):= [("NoTable","table"),("NoPlace","place"),("NoNumber","number"),("NoOrder","order"),("NoSet","set"),("NoWalk","walk"),("NoLengths","lengths"),("NoWay","way"),("Apart","apart"),("NoRow","row")]
def CN:G0 Str:= ["NoTable","NoPlace","NoNumber","NoOrder","NoSet","NoWalk","NoLengths","NoWay","Apart","NoRow"]
def Jz (c:Str):Str:=(CW.lookup c).getD "other"
def QQ (P:S0)(w:N8)(K:G2)(mg:Str->P8 G1)(base:N9)(n:G8):G3->Sp:=λs vs H Q _=>
 ∃ (f:G9) (o:Obj) (qual:Str) (pm cv ctv:G1) (cl:G0 (Str×G9)) (q:Str) (N:G0 Str) (σ:St) (scope:A8) (body:T1) (h:HD) (Qd:KD),vs= [.ref f]/\s.heap.get? f=some o/\o.data= .func (kla_fn "<lambda>" qual Yr body scope cl pm cv ctv)/\CodeF H cv q/\H f=none/\LamOk scope/\Cap N σ scope cl s.heap H/\RelH K h H/\Nt K H Qd Q/\
 ((∃QT:VK,(∀ (A':T8) (outer':G0 Env) (s':G3) (E':XK),Room n (A'.deeper (envX q scope s'.heap.objs.size f cv cl))-> ∃t,PE (cxL CX0 P w K mg base N q scope f cv cl A' outer' s' H E') body t/\t σ H QT)/\
  ∀v H',QT v H'-> ∃d h',Kept H H'/\RelH K h' H'/\RelD K H' d v/\Qd (.tup [.str "told",d]) h')\/
  (∃RT:G9->Hp->Prop,(∀ (A':T8) (outer':G0 Env) (s':G3),Room n (A'.deeper (envX q scope s'.heap.objs.size f cv cl))-> ∀pins s2,Inv (cxL (CXR P w) P w K mg base N q scope f cv cl A' outer' s' H (λc _ H'=> ∃C,c= .ref C/\RT C H')) pins σ H s2->
   R4 (S4 P w) (A'.deeper (envX q scope s'.heap.objs.size f cv cl)) (A7 body (envX q scope s'.heap.objs.size f cv cl)) (λ_ _=>False) (cxL (CXR P w) P w K mg base N q scope f cv cl A' outer' s' H (λc _ H'=> ∃C,c= .ref C/\RT C H')).xe s2)/\
   ∀C H',RT C H'-> ∃c h',mg c=some (.ref C)/\c∈CN/\Kept H H'/\RelH K h' H'/\Qd (.tup [.str (Jz c)]) h'))
abbrev N1:G0 Str:= ["_law_call","_law_found","_law_e","_law_word"]
theorem RoomU.mark {k:G8}{A:T8}{v:P8 G1}(r:RoomU k A):RoomU k (A.mark v):=⟨r.dp,r.un,r.gd⟩
theorem DW {M:iA}{f:G9}(h:N9)(X: ∃o fd,h.get? f=some o/\o.data= .func fd): ∃k,(k=Keeper.frame\/k=Keeper.machine\/k=Keeper.boundFrame)/\Looks M h (keeperOf (.ref f)) k:=by
 obtain⟨o,fd,e,d⟩:=X;refine⟨.frame,.inl rfl,(sN (part:=none) e).andThen ?_⟩;rw [d];exact .now
theorem CB {P:S0}{w:N8}{K:G2}{mg:Str->P8 G1}{base:N9}{st:O3}{fs:G9}{fds:S1}{n:G8}{pe:G9}{p1 p2 p3 p4 p5 p6 p7 p8 p9 p10 p11:Pos}{j k:G8}{b0:O3}{suite:G0 O3}
 (F:Fun K "_law_said" "_law_said" st fs fds)(S:FnScope N1 ["_law_call"] (jd st))
 (hb:jW st= [.Try [.Assign [.Name "_law_found" p1] (.Call (.Name "_law_call" p2) [] [] p3) p4] [.ExceptHandler (some (.Name "PowerError" p5)) (some "_law_e") (b0::suite) p6] [] [] p7,.Return (some (.Tuple [.Constant (.str "told") j p8,.Name "_law_found" p9] k p10)) p11])
 (l0:(jd st).names.lookup ("_law_call" :Str)=some .local)(l1:(jd st).names.lookup ("_law_found" :Str)=some .local)(l2:(jd st).names.lookup ("_law_e" :Str)=some .local)(lp:(jd st).names.lookup ("PowerError" :Str)=some .globalImplicit)
 (hm:mg "PowerError" =some (.ref pe))(hex: ∀c∈CN,∀C,mg c=some (.ref C)->exmOne K (.ref C) (.ref pe)=some true)(tS:TSD)
 (hsuite: ∀ (cdv:G1) (A:T8) (outer:G0 Env) (s:G3) (H:Hp) (E:XK) (x:G9),RoomU n ((A.deeper (E8 "_law_said" (jd st) s.heap.objs.size fs cdv)).mark (some (.ref x)))->JSs (cxH (Yn CX0 P w K mg base N1 "_law_said" (jd st) fs cdv A outer s H E) x) (b0::suite) tS)
 (hread: ∀c∈CN,∀ (C:G9) (h:HD) (Qd:KD),mg c=some (.ref C)->Qd (.tup [.str (Jz c)]) h->tS {nx:=λ_ _=>False,rt:=λd h'=> ∃h2,Sub h2 h'/\Qd d h2} [none,none,some (.exc C),none] h):
 FnOkS P w K mg base CX0 (n+2) fs fds ["_law_call"] (QQ P w K mg base n):=by
 obtain⟨oc,od,kV,doc,pm,an,cdv,ct,osl,rfl,lk,hcd⟩:=F.ex;refine OQ lk hcd S (λs vs H Q E h=> ?_) λA outer s H vs Q E hr hsp s1 I=> ?_
 ·obtain⟨f,_,_,_,_,_,_,_,_,_,_,_,_,_,rfl,_⟩:=h;rfl
 obtain⟨f,o,qual,pmv,cv,ctv,cl,q,N,σ,scope,body,h,Qd,rfl,ho,hod,hcf,hHf,L,C,rh,post,alt⟩:=hsp;have un:=I.base;obtain⟨sl,ho1⟩:=un.any ho hHf (by intro z;cases z);have C1:Cap N σ scope cl s1.heap H:=C.step un;have hr0:Room (n+1) (A.deeper (E8 "_law_said" (jd st) s.heap.objs.size fs cdv)):=hr;rw [hb];have callee: ∀ {CX:CXT} {E':XK} {QT:VK} {t:TE} {Q2:G1->G3->Prop} {EE:G1->G3->Prop},PE (cxL CX P w K mg base N q scope f cv cl (A.deeper (E8 "_law_said" (jd st) s.heap.objs.size fs cdv)) (E8 "_law_said" (jd st) s.heap.objs.size fs cdv::outer) s1 H E') body t->t σ H QT->
  (∀r s2,CR CX (E8 "_law_said" (jd st) s.heap.objs.size fs cdv::outer) P w H s1 QT E' r s2->match r with| .ok (.ret v)=>Q2 v s2| .ok _=>False| .error e=>EE e s2)->
  R4 (S4 P w) (A.deeper (E8 "_law_said" (jd st) s.heap.objs.size fs cdv)) (A7 (.Call (.Name "_law_call" p2) [] [] p3) (E8 "_law_said" (jd st) s.heap.objs.size fs cdv)) Q2 EE s1:=by
  intro CX E' QT t Q2 EE hbt ht hk;refine W8 ?_;obtain⟨m,hn,hl⟩:=I.loc;obtain⟨u,ru,l⟩:=hl 0 "_law_call" (.ref f) rfl rfl (.inl l0);cases ru;have hmm:m "_law_call" =some (.ref f):=by
   rcases l with ⟨_,e⟩|⟨kk,_⟩
   ·exact e
   ·rcases kk with kk|kk<;>(have k':(jd st).names.lookup ("_law_call" :Str)=_:=kk;rw [l0] at k';cases k')
  refine mN (lA S.kind l0 hn hmm ?_) (by decide);refine callWith_of (P:=λh=> ∃o fd,h.get? f=some o/\o.data= .func fd) rfl DW (evalArgs_nil3 ⟨⟨_,_,ho1,hod⟩,?_⟩);exact cG (cU (Ct (CX:=CX) (k:=n) L hr0 I.env0 C1 ho1 hod hcf hbt ht) hk)
 refine W6 (wpAny_Try_except ?_);refine W6 (mX ?_ rfl);rcases alt with ⟨QT,hT,hQ⟩|⟨RT,hR,hQ⟩
 ·obtain⟨t,hbt,ht⟩:=hT (A.deeper (E8 "_law_said" (jd st) s.heap.objs.size fs cdv)) (E8 "_law_said" (jd st) s.heap.objs.size fs cdv::outer) s1 E0 (hr0.deeper _);refine callee hbt ht λr s2 hq=> ?_
  cases r with
  |error e=>exact False.elim hq
  |ok fl=>
   cases fl with
   |next=>exact False.elim hq
   |brk=>exact False.elim hq
   |cont=>exact False.elim hq
   |ret u=>
    obtain⟨v,H',I2,rv,qt⟩:=I.after hq;obtain⟨d,h',kp,rh',rd,qd⟩:=hQ v H' qt;refine yt I2 (i:=1) (x:= "_law_found") S.nd rfl (.inl l1) rv (λs3 I3=> ?_) (.inr l1);refine bX (bX ?_);have hret:JSs (Yn CX0 P w K mg base N1 "_law_said" (jd st) fs cdv A outer s H E) [.Return (some (.Tuple [.Constant (.str "told") j p8,.Name "_law_found" p9] k p10)) p11] (Gu (Ft (zr (dC (.str "told")) (zr (Gt 1) ZK)))):=
     jD (zf (jX (jac Wy (jac (jv 1 rfl (.inl l1)) jS))))
    exact hret.to [] s3 _ H' _ I3 ⟨[none,some d,none,none],h',{nx:=λ_ _=>False,rt:=Qd},⟨rfl,λi d' e=>by
     match i,e with
     |0,e=>cases e
     |1,e=>cases e;exact⟨v,rfl,rd⟩
     |2,e=>cases e
     |3,e=>cases e
     |i+4,e=>simp at e⟩,rh',⟨_,rfl,(by show 2<=sizeLine;decide),qd⟩,λ_ _ _ _ _ _ _ z=>z.elim,jC post kp,λ_ _ _ _ _ _ _ z=>z.elim,λ_ _ _ _ _ _ _ z=>z.elim⟩
 ·refine callee (CX:=CXR P w) (E':=λc _ H'=> ∃C,c= .ref C/\RT C H') (QT:=λ_ _=>False) (t:=λxC H' _=>xC=σ/\H'=H)
   (λpins s2 xC H' Q' I' ⟨e1,e2⟩=> ?_) ⟨rfl,rfl⟩ λr s2 hq=> ?_
  ·subst e1;subst e2;exact T3 (hR _ _ s1 (hr0.deeper _) pins s2 I') (λ_ _ z=>z.elim) λ_ _ z=>z
  cases r with
  |ok fl=>
   cases fl with
   |next=>exact False.elim hq
   |brk=>exact False.elim hq
   |cont=>exact False.elim hq
   |ret u=>obtain⟨_,_,_,_,_,_,_,z⟩:=hq;exact z.elim
  |error e=>
   obtain⟨x,C',H',rfl,os,bare,un2,hok,fl,C2,eC,rt⟩:=hq;cases eC;obtain⟨c,h',hmc,hcn,kp,rh',qd⟩:=hQ C' H' rt;have I2:=I.call' (ch:= []) os un2 hok bare (λb z=>absurd z (by simp));have f0: ∀b,s1.heap.get? b=none->s.heap.get? b=none:=λb nb=>by
    cases qq:s.heap.get? b with
    |none=>rfl
    |some o=>obtain⟨o',e⟩:=I.base.there b o qq (by intro z;cases z);rw [nb] at e;cases e
   have fl':Fly s.heap H' s2.heap x C':=by
    obtain⟨⟨oe,vs,a0,T,oT,ts,a1,a2,a3,a4,a5,a6,a7,a8,a9,a10,a11⟩,nx,n0⟩:=fl;exact⟨⟨oe,vs,a0,T,oT,ts,a1,a2,a3,a4,a5,a6,a7,a8,a9,a10,f0 _ a11⟩,nx,f0 _ n0⟩
   have hsu:=hsuite cdv A outer s H E x (RoomU.mark ((hr0.mono (sL n)).u));refine T3 (ML (X:=Yn CX0 P w K mg base N1 "_law_said" (jd st) fs cdv A outer s H E) (σ:=start N1 [V.ref f]) (i:=2) (n:= "_law_e") (C:=C') (t:=LS K tS) (D:= {nx:=λ_ _=>False,rt:=Q}) ⟨rfl,rfl,rfl⟩ rfl S.nd rfl l2 lp hm (hex c hcn C' hmc) I2 fl' hsu.to λoe vs hc hd=> ?_) (λ_ s3 h3=>T3 h3 (λ_ s4 h4=>T3 h4 (λfl s5 h5=> ?_) λ_ _ z=>z) λ_ _ z=>z) λ_ _ z=>z
   ·refine⟨[none,none,some (.exc C'),none],h',_,⟨rfl,λi d' e=> ?_⟩,rh'.new fl'.nx,hread c hcn C' h' Qd hmc qd,λ_ _ _ _ _ _ _ z=>z.elim,λd v h2 H2 k2 rh2 rd ⟨h3,sb,q3⟩=>post d v h3 H2 ((kp.trans (.new fl'.nx)).trans k2) (rh2.sub sb) rd q3,λ_ _ _ _ _ _ _ z=>z.elim,λ_ _ _ _ _ _ _ z=>z.elim⟩
    match i,e with
    |0,e=>cases e
    |1,e=>cases e
    |3,e=>cases e
    |i+4,e=>simp at e
    |2,e=>cases e;exact⟨.ref x,rfl,x,oe,vs,rfl,jn,hc,hd⟩
   ·cases fl with
    |next=>obtain⟨_,_,_,z⟩:=h5;exact z.elim
    |brk=>obtain⟨_,_,_,z⟩:=h5;exact z.elim
    |cont=>obtain⟨_,_,_,z⟩:=h5;exact z.elim
    |ret u=>exact h5
def EV (tT:TED)(tR:TXD):TED:=λσ h Q=>tT σ h (λd h'=>Q (.tup [.str "told",d]) h')\/tR σ h (λc h'=>c∈CN/\Q (.tup [.str (Jz c)]) h')
def dNo:TED:=λ_ _ _=>False
theorem jno {X:Cx}{e:T1}:JE X e dNo:=⟨λ_ _ _ _ _ _ ⟨_,_,_,_,_,z,_⟩=>z.elim⟩
def SQ (sc:A8):N4:=sc.kind== .function&& !sc.isCoroutine&& !sc.isGenerator&&sc.names.all λy=>y.2 != .cell&&y.2 != .local
theorem OS {sc:A8}(hk:sc.kind= .function)(h:SQ sc=true):LamOk sc:=by
 unfold SQ at h;simp only [B8,Bool.not_eq_true',S8,bne_iff_ne,ne_eq] at h;exact⟨hk,h.1.1.2,h.1.2,λy hy=>h.2 y hy⟩
def OT (sc sc':A8):N4:=sc.names.all λy=>y.2 != .free||(sc'.names.lookup y.1==some .cell||sc'.names.lookup y.1==some .free)
theorem CC {sc:A8}{env:Env}(h:OT sc env.scope=true):DR sc env:=λn hn=>by
 have:=S8.mp h _ hn;simp only [nV,Bool.false_or,eO,beq_iff_eq] at this;exact this
theorem EW {X:Cx}{n:G8}{fs:G9}{fds:S1}{scope:A8}{body:T1}{lpos p pos:Pos}{tT:TED}{tR:TXD}{c P:G9}
 (F:FnOkS X.prog X.w X.K X.mg X.base CX0 (n+2) fs fds ["_law_call"] (QQ X.prog X.w X.K X.mg X.base n))(hr:Room (n+2) X.A)(hg:Gl X "_law_said")(hm:X.mg "_law_said" =some (.ref fs))(hk:keepIn X.K (.ref fs)=true)(hb:Binds X.K fds ["_law_call"] [])
 (B:Bm X.mg X.base)(hcode:X.env.code= .ref c)(hc:codeHdIn X.K c P=true)(hTK:TabK X.K P)(L:LamOk scope)(hfr:DR scope X.env)
 (hT: ∀ (q:Str) (cv:G1) (cl:G0 (Str×G9)) (f:G9) (A:T8) (outer:G0 Env) (s:G3) (H:Hp) (E:XK),Room n (A.deeper (envX q scope s.heap.objs.size f cv cl))->JE (cxL CX0 X.prog X.w X.K X.mg X.base X.N q scope f cv cl A outer s H E) body tT)
 (hR: ∀ (q:Str) (cv:G1) (cl:G0 (Str×G9)) (f:G9) (A:T8) (outer:G0 Env) (s:G3) (H:Hp) (E:XK),Room n (A.deeper (envX q scope s.heap.objs.size f cv cl))->JXE (cxL (CXR X.prog X.w) X.prog X.w X.K X.mg X.base X.N q scope f cv cl A outer s H E) body tR)
 (he:D7 [Expr.Lambda Yr body scope lpos] X.env=(false,A7 (.Lambda Yr body scope lpos) X.env)::D7 [] X.env:=by rfl)(hpl:(K0 pos (D7 [] X.env)).any (·.1)=false:=by rfl):
 JE X (.Call (.Name "_law_said" p) [.Lambda Yr body scope lpos] [] pos) (EV tT tR):=⟨λpins s σ H Q I ⟨xD,h,Qd,rs,rh,alt,post⟩=>by
 refine W8 (Zb I hg hm ?_ (by decide));refine fY (h₀:=X.base) I.ok.mod.kin hk ?_ he hpl;rw [he];obtain⟨ps,hP,hps⟩:=rh.tb P hTK;have hcl:gC scope X.env=pure (ZN X.env.cells scope.names []):=WF λn hn=>I.ok.has n (hfr n hn)
 refine fX (MC I B hcode hc hP hps hcl λf q qual pm cv ctv H1 h1 tk I1 kp lsts tbls SL hf hcf hHf _ _ _=>iC ⟨I1.kIn,?_⟩);have rh1:RelH X.K h H1:=⟨λa ds e=>by
  obtain⟨vs,e1,e2⟩:=rh a ds e;exact⟨vs,lsts _ _ e1 (by intro _ z;cases z),e2.mono kp⟩,λP' hP'=>by
  by_cases z:P'=P
  ·subst z;exact SL
  ·obtain⟨ps',e1,e2⟩:=rh.tb P' hP';exact⟨ps',tbls _ _ e1 z,e2.mono kp.frz⟩,λa c e=>(rh.dc a c e).mono kp λo w=>by
  obtain⟨u,w',d⟩:=(rh.dc a c e).obj;rw [w] at w';cases w';exact lsts _ _ w d.no.2.2.2.2⟩
 have rs1:RelS X.K H1 xD σ:=rs.mono kp;refine Cz (us:= [.ref f]) (vs:= [.ref f]) (dvs:= []) (ds:= []) (E:=E0) F hr hb .nil Bi I1 (.cons rfl .nil) ?_;refine⟨f,_,qual,pm,cv,ctv,ZN X.env.cells scope.names [],q,X.N,σ,scope,body,h,Qd,rfl,hf,rfl,hcf,hHf,L,Cap.of I1 hfr,rh1,jC post kp,?_⟩;rcases alt with t|t
 ·refine .inl ⟨λv H'=> ∃d h',Kept H1 H'/\RelH X.K h' H'/\RelD X.K H' d v/\Qd (.tup [.str "told",d]) h',λA' outer' s' E' hr'=>⟨_,(hT q cv _ f A' outer' s' H1 E' hr').to,xD,h,_,rs1,rh1,t,λd v h' H' k r1 r2 q=>⟨d,h',k,r1,r2,q⟩⟩,λv H' q=>q⟩
 ·refine .inr ⟨λC H'=> ∃c h',X.mg c=some (.ref C)/\c∈CN/\Kept H1 H'/\RelH X.K h' H'/\Qd (.tup [.str (Jz c)]) h',λA' outer' s' hr' pins2 s2 I2=> ?_,λC H' q=>q⟩;exact(hR q cv _ f A' outer' s' H1 _ hr').to _ OO pins2 s2 σ H1 xD h _ I2 rs1 rh1 t λc C h' H' k rh' hmc ⟨hcn,qq⟩=>⟨C,rfl,c,h',hmc,hcn,k,rh',qq⟩⟩
variable {K:Frag}{x:Str}
theorem MM {f c P:G9}{oc:G1}{od:P8 G9}{fd:S1}{osl:N0 (P8 G1)}(a:nsIn K mainGlobals x=some (some (.ref f)))(l:K.lookup f=some ⟨oc,od,.func fd,osl⟩)(t:tabIn K x=some (c,P)):fd.code= .ref c:=by
 unfold tabIn at t;rw [a] at t;simp only [l] at t;split at t
 ·rename_i c' hc';split at t
  ·split at t
   ·cases t;exact hc'
   ·cases t
  ·cases t
 ·cases t
def CN13:G0 Str:= ["NoTable","NoPlace","NoNumber","NoOrder","NoSet","NoWalk","NoLengths","NoWay","Apart","NoRow","NoTables","NoText","TooGreat"]
def adr (K:Frag)(x:Str):P8 G9:=match nsIn K mainGlobals x with
 |some (some (.ref a))=>some a
 |_=>none
def MN (K:Frag)(C:G9):N4:=(clsIn K C).isSome&&findIn K (.ref C) "__getattribute__" ==some (some (.builtin "BaseException.__getattribute__"))&&findIn K (.ref C) "__getattr__" ==some none
 &&findIn K (.ref C) "__class__" ==some (some (.builtin "object.__class__"))&&specialIn K (.builtin "object.__class__") "__get__" ==some (some (.builtin "getset_descriptor.__get__"))
 &&takesIn K (.builtin "object.__class__")==some true&&mroIn K C (.type "object")==some true&&mroIn K C (.type "BaseException")==some true
theorem CF {C:G9}(h:MN K C=true):ExcK K C:=by
 unfold MN at h;simp only [B8,beq_iff_eq] at h;obtain⟨⟨⟨⟨⟨⟨⟨a,b⟩,c⟩,d⟩,e⟩,f⟩,g⟩,i⟩:=h;exact⟨a,b,c,d,e,f,g,i⟩
def NG (K:Frag)(c:Str):N4:=match adr K c,adr K "PowerError" with
 |some C,some pe=>excIn K C bmV "ValueError.__new__" &&MN K C&&kitOne K (.ref C) (.type "ValueError")==some true&&exmOne K (.ref C) (.ref pe)==some true&&CN13.all λd=>match adr K d with
  |some D=>kitOne K (.ref C) (.ref D)==some (c==d)
  |none=>false
 |_,_=>false
def EX (K:Frag):N4:=CN.all (NG K)&&CN13.all (λd=>(adr K d).isSome)&&(adr K "PowerError").isSome&&nsIn K mainGlobals "ValueError" ==some none
structure Exc (K:Frag)(mg:Str->P8 G1):Prop where
 own: ∀c∈CN,OwnX K mg c
 ek: ∀c∈CN,∀C,mg c=some (.ref C)->ExcK K C
 kit: ∀c∈CN,∀d∈CN13,∀C D,mg c=some (.ref C)->mg d=some (.ref D)->kitOne K (.ref C) (.ref D)=some (c==d)
 val: ∀c∈CN,∀C,mg c=some (.ref C)->kitOne K (.ref C) (.type "ValueError")=some true
 pe: ∃pe,mg "PowerError" =some (.ref pe)/\ ∀c∈CN,∀C,mg c=some (.ref C)->exmOne K (.ref C) (.ref pe)=some true
 cls: ∀d∈CN13,∃D,mg d=some (.ref D)
 ve:mg "ValueError" =none
theorem QR {h:N9}{mg:Str->P8 G1}{a:G9}(X:K.In h)(G:h.Ns mainGlobals mg)(e:adr K x=some a):mg x=some (.ref a):=by
 unfold adr at e;split at e
 ·rename_i q;cases e;exact mg_of X G q
 ·cases e
theorem OU {a:G9}(e:adr K x=some a):nsIn K mainGlobals x=some (some (.ref a)):=by
 unfold adr at e;split at e
 ·rename_i q;cases e;exact q
 ·cases e
theorem OV {h:N9}{mg:Str->P8 G1}(X:K.In h)(G:h.Ns mainGlobals mg)(e:EX K=true):Exc K mg:=by
 unfold EX at e;simp only [B8,S8,beq_iff_eq] at e;obtain⟨⟨⟨e1,e2⟩,e3⟩,e4⟩:=e;obtain⟨pe,hpe⟩:=K5.mp e3;have A: ∀c∈CN,∃C,adr K c=some C/\mg c=some (.ref C)/\excIn K C bmV "ValueError.__new__" =true/\MN K C=true/\kitOne K (.ref C) (.type "ValueError")=some true/\exmOne K (.ref C) (.ref pe)=some true/\ ∀d∈CN13,∀D,adr K d=some D->kitOne K (.ref C) (.ref D)=some (c==d):=λc hc=>by
  have q:=e1 c hc;unfold NG at q;rw [hpe] at q;split at q
  ·rename_i C pe' h1 h2;cases h2;simp only [B8,S8,beq_iff_eq] at q;obtain⟨⟨⟨⟨q1,q2⟩,q3⟩,q4⟩,q5⟩:=q;refine⟨C,h1,QR X G h1,q1,q2,q3,q4,λd hd D hD=> ?_⟩;have:=q5 d hd;rw [hD] at this;simpa using this
  ·cases q
 have same: ∀ {c:Str} {C C':G9},mg c=some (.ref C)->mg c=some (.ref C')->C=C':=λa b=>by rw [a] at b;cases b;rfl
 refine⟨λc hc=> ?_,λc hc C h=> ?_,λc hc d hd C D h1 h2=> ?_,λc hc C h=> ?_,⟨pe,QR X G hpe,λc hc C h=> ?_⟩,λd hd=> ?_,mg_none_of X G e4⟩
 ·obtain⟨C,a,m,q,_⟩:=A c hc;exact⟨C,m,OU a,q⟩
 ·obtain⟨C',_,m,_,q,_⟩:=A c hc;cases same h m;exact CF q
 ·obtain⟨C',_,m,_,_,_,_,q⟩:=A c hc;cases same h1 m;obtain⟨D',hD⟩:=K5.mp (e2 d hd);cases same h2 (QR X G hD);exact q d hd D hD
 ·obtain⟨C',_,m,_,_,q,_⟩:=A c hc;cases same h m;exact q
 ·obtain⟨C',_,m,_,_,_,q,_⟩:=A c hc;cases same h m;exact q
 ·obtain⟨D',hD⟩:=K5.mp (e2 d hd);exact⟨D',QR X G hD⟩
section
variable {P:S0}{w:N8}{K:G2}{mg:Str->P8 G1}{base:N9}
theorem Fun.okJL {x qual:Str}{st:O3}{f c Pt:G9}{fd:S1}{N ps:G0 Str}{k:G8}{spd:RDn}(F:Fun K x qual st f fd)(a:nsIn K mainGlobals x=some (some (.ref f)))(T:tabIn K x=some (c,Pt))(S:FnScope N ps (jd st))(len: ∀ds h Q,spd ds h Q->ds.length=ps.length)
 (tb:TSD)(hbody: ∀ (A:T8) (outer:G0 Env) (s:G3) (H:Hp) (E:XK),Room k (A.deeper (E8 qual (jd st) s.heap.objs.size f (.ref c)))->JSs (Yn CX0 P w K mg base N qual (jd st) f (.ref c) A outer s H E).nox (jW st) tb)
 (read: ∀ds h Q,spd ds h Q->tb (Uh Q) (ze N ds) h):FnOk P w K mg base CX0 (k+1) f fd ps (LSp K spd):=by
 obtain⟨oc,od,kV,doc,pm,an,cdv,ct,osl,rfl,lk,hcd⟩:=F.ex;have e:cdv= .ref c:=MM a lk T;subst e;refine Bb lk hcd S (λvs H Q E h=> ?_) λA outer s H vs Q E hr h=> ?_
 ·obtain⟨ds,h,Qd,r,rh,q,p⟩:=h;rw [<-r.length];exact len _ _ _ q
 ·obtain⟨ds,h,Qd,r,rh,q,p⟩:=h;refine⟨_,((hbody A outer s H E hr).to).nox,ze N ds,h,Uh Qd,vD r,rh,read ds h Qd q,λxH h' xC H' k rs' rh' ⟨h2,sb,q'⟩=>p .non .non h2 H' k (rh'.sub sb) rfl q',λd v h' H' k rh' r' ⟨h2,sb,q'⟩=>p d v h2 H' k (rh'.sub sb) r' q',λ_ _ _ _ _ _ _ z=>z.elim,λ_ _ _ _ _ _ _ z=>z.elim⟩
end
def OW (P:S0)(w:N8)(K:G2)(mg:Str->P8 G1)(base:N9)(n:G8):Prop:=
 ∃ (g:G9) (gd:S1),FnOkS P w K mg base CX0 (n+2) g gd ["_law_call"] (QQ P w K mg base n)/\Binds K gd ["_law_call"] []/\E6 K (.ref g)=true/\mg "_law_said" =some (.ref g)
def CG (K:Frag)(x:Str):N4:=match tabIn K x with
 |some p=>codeHdIn K p.1 p.2
 |none=>false
theorem CH (h:CG K x=true): ∃c P,tabIn K x=some (c,P)/\codeHdIn K c P=true:=by
 unfold CG at h;split at h
 ·rename_i p e;exact⟨p.1,p.2,e,h⟩
 ·cases h
def DY (mg:Str->P8 G1):RDn:=λds h Q=> ∃c C,ds= [.exc C]/\c∈CN/\mg c=some (.ref C)/\ ∀h',Sub h h'->Q (.str (Jz c)) h'
end L2
namespace L2
open PySem PySem.Spec PyProof.Rows PySem.SeqAt
theorem UN {α:Type}{p q:α->N4}: ∀ {l:G0 α},(∀x∈l,p x=true->q x=true)->(∃x,x∈l/\p x=false/\q x=true)->l.countP p+1<=l.countP q
 | [],_,⟨_,hx,_⟩=>by cases hx
 |a::l,hm,⟨x,hx,h1,h2⟩=>by
  have hm': ∀x∈l,p x=true->q x=true:=λy hy=>hm y (S6 _ hy)
  have le:l.countP p<=l.countP q:=List.countP_mono_left hm';rw [oM,oM]
  by_cases z:x=a
  ·subst z;rw [h1,h2];simp;omega
  ·have hx':x∈l:=(D2.mp hx).resolve_left z;have:=UN hm' ⟨x,hx',h1,h2⟩
   by_cases w:p a=true
   ·rw [w,hm a R7 w];simp;omega
   ·rw [show p a=false by simpa using w];simp;omega
theorem OX {n:G8}(P:G8->G8->N4)(up: ∀m i,i<n->P m i=true->P (m+1) i=true)(st: ∀m,(∀i,i<n->P (m+1) i=P m i)-> ∀i,i<n->P (m+2) i=P (m+1) i)
 (M:G8)(hM: ∀m,M<=m-> ∀i,i<n->P m i=true)(ne: ∃i,i<n/\P 0 i=true): ∀i,i<n->P (n-1) i=true:=by
 have key: ∀m,(∀i,i<n->P m i=true)\/m+1<=(R6 n).countP (P m):=by
  intro m
  induction m with
  |zero=>
   obtain⟨i,hi,e⟩:=ne;exact .inr (List.countP_pos_iff.mpr ⟨i,S9.mpr hi,e⟩)
  |succ m ih=>
   rcases ih with ih|ih
   ·exact .inl λi hi=>up m i hi (ih i hi)
   ·by_cases eq: ∀i,i<n->P (m+1) i=P m i
    ·left;have go: ∀t i,i<n->P (m+t+1) i=P (m+t) i:=by
      intro t
      induction t with
      |zero=>exact eq
      |succ t iht=>exact st (m+t) iht
     have all: ∀t i,i<n->P (m+t) i=P m i:=by
      intro t
      induction t with
      |zero=>intro i _;rfl
      |succ t iht=>intro i hi;rw [<-iht i hi];exact go t i hi
     intro i hi;rw [eq i hi,<-all M i hi];exact hM (m+M) (by omega) i hi
    ·right;have ⟨i,hi⟩: ∃i,i<n/\P (m+1) i≠P m i:=bF λw=>eq λi hi=>bF λw2=>w ⟨i,hi,w2⟩
     have hf:P m i=false:=by
      cases hp:P m i with
      |false=>rfl
      |true=>exact absurd ((up m i hi.1 hp).trans hp.symm) hi.2
     have ht:P (m+1) i=true:=by
      cases hp:P (m+1) i with
      |true=>rfl
      |false=>exact absurd (hp.trans hf.symm) hi.2
     have:=UN (l:=R6 n) (p:=P m) (q:=P (m+1)) (λx hx=>up m x (S9.mp hx)) ⟨i,S9.mpr hi.1,hf,ht⟩;omega
 intro i hi;rcases key (n-1) with h|h
 ·exact h i hi
 ·have hle:(R6 n).countP (P (n-1))<=(R6 n).length:=List.countP_le_length;rw [C6] at hle;have:(R6 n).countP (P (n-1))=(R6 n).length:=by rw [C6];omega
  exact List.countP_eq_length.mp this i (S9.mpr hi)
section
variable {n e:G8}{T:G0 (G0 P0)}
instance (k i j:G8):Decidable (RP n T k i j):=inferInstanceAs (Decidable (ent (yY n T k) i j≠0))
theorem XT (h:Sq n e T)(hn:n<=8)(n2:2<=n){K:G8}(f: ∀i j,i<n->j<n->RP n T K i j)(f1: ∀i j,i<n->j<n->RP n T (K+1) i j): ∃s c,1<=s/\s<=n-1/\c<n/\RP n T s c c:=by
 refine bF λz=> ?_
 have drop: ∀m i j,i<n->j<n->n<=m->RP n T m i j->RP n T (m-n) i j:=by
  intro m i j hi hj hm r;obtain⟨v,v0,vm,vl,vr⟩:=NE h hn m hi hj r;obtain⟨a,b,hab,hbn,eq⟩:=OK (n:=n) (v:=v) λt ht=>vl t (by omega)
  have ha:=vl a (by omega);have p2:RP n T (b-a) (v a) (v a):=by
   have:=XS h hn vl vr a (b-a) (by omega);rw [show a+(b-a)=b by omega,<-eq] at this;exact this
  have hba:b-a=n:=by
   by_cases w:b-a<=n-1
   ·exact absurd ⟨b-a,v a,by omega,w,ha,p2⟩ z
   ·omega
  have a0:a=0:=by omega
  have bn:b=n:=by omega
  subst a0;subst bn;have p3:=XS h hn vl vr b (m-b) (by omega);rw [show b+(m-b)=m by omega,vm,<-eq,v0] at p3;exact p3
 have h0:0<n:=by omega
 have mod0: ∀m,RP n T m 0 0->m%n=0:=by
  intro m
  induction m using G8.strongRecOn with
  |_ m ih=>
   intro r
   by_cases w:m<n
   ·by_cases y:m=0
    ·subst y;exact Nat.zero_mod n
    ·exact absurd ⟨m,0,by omega,by omega,h0,r⟩ z
   ·rw [Nat.mod_eq_sub_mod (by omega)];exact ih (m-n) (by omega) (drop m 0 0 h0 h0 (by omega) r)
 have a:=kI (mod0 K (f 0 0 h0 h0));have b:=kI (mod0 (K+1) (f1 0 0 h0 h0));have c:=(Nat.dvd_add_right a).mp b;have:=Nat.le_of_dvd (by decide) c;omega
theorem Hc (h:Sq n e T)(n1:1<=n)(h6:n<=6){K:G8}(hK:1<=K)(f:zv (yY n T K)=true): ∃k,1<=k/\k<=30/\zv (yY n T k)=true:=by
 have hn:n<=8:=by omega
 have all: ∀m,K<=m-> ∀i j,i<n->j<n->RP n T m i j:=λm hm=>by
  have:=Dt h hn (a:=K) (by omega) f (m-K);rw [show K+(m-K)=m by omega] at this;exact(Wa (h.pow hn m)).mp this
 have pre: ∀j,j<n-> ∃k,k<n/\RP n T 1 k j:=λj hj=>by
  have:=all (K-1+1) (by omega) 0 j (by omega) hj;obtain⟨k,hk,_,r⟩:=(Jy h hn (K-1) 1 (by omega) hj).mp this;exact⟨k,hk,r⟩
 have keep: ∀i m t,i<n->(∀j,j<n->RP n T m i j)-> ∀j,j<n->RP n T (m+t) i j:=by
  intro i m t hi r
  induction t with
  |zero=>exact r
  |succ t ih=>intro j hj;obtain⟨k,hk,r1⟩:=pre j hj;exact(Jy h hn (m+t) 1 hi hj).mpr ⟨k,hk,ih k hk,r1⟩
 by_cases n2:2<=n
 ·obtain⟨s,c,s1,sn,hc,rc⟩:=XT h hn n2 (all K (P4 _)) (all (K+1) (by omega));have e1: ∀m,s*(m+1)=s+s*m:=λm=>by rw [rT];omega
  have A:=OX (n:=n) (λm j=>decide (RP n T (s*m) c j)) (λm j hj r=>D0 (by rw [e1];exact(Jy h hn s (s*m) hc hj).mpr ⟨c,hc,rc,H0 r⟩))
   (λm eq j hj=>by
    have key: ∀m,RP n T (s*(m+1)) c j↔ ∃k,k<n/\RP n T (s*m) c k/\RP n T s k j:=λm=>by rw [rT];exact Jy h hn (s*m) s hc hj
    have eq2: ∀k,k<n->(RP n T (s*(m+1)) c k↔RP n T (s*m) c k):=λk hk=>by simpa using eq k hk
    have:RP n T (s*(m+1+1)) c j↔RP n T (s*(m+1)) c j:=by
     rw [key (m+1),key m];exact⟨λ⟨k,hk,a,b⟩=>⟨k,hk,(eq2 k hk).mp a,b⟩,λ⟨k,hk,a,b⟩=>⟨k,hk,(eq2 k hk).mpr a,b⟩⟩
    simpa using this) K (λm hm j hj=>D0 (all _ (T6 hm (Nat.le_mul_of_pos_left m s1)) c j hc hj)) ⟨c,hc,D0 (by rw [Nat.mul_zero];exact(Zi hc hc).mpr rfl)⟩
  have any_iff: ∀m i,((R6 (m+1)).any (λt=>decide (RP n T t i c))=true)↔ ∃t,t<=m/\RP n T t i c:=λm i=>by
   rw [aZ];exact⟨λ⟨t,ht,r⟩=>⟨t,by have:=S9.mp ht;omega,H0 r⟩,λ⟨t,ht,r⟩=>⟨t,S9.mpr (by omega),D0 r⟩⟩
  have stp: ∀m i,i<n->((∃t,t<=m+1/\RP n T t i c)↔(i=c\/ ∃k,k<n/\RP n T 1 i k/\ ∃t,t<=m/\RP n T t k c)):=λm i hi=>by
   constructor
   ·rintro ⟨t,ht,r⟩;cases t with
    |zero=>exact .inl ((Zi hi hc).mp r)
    |succ t=>
     rw [nH] at r;obtain⟨k,hk,a,b⟩:=(Jy h hn 1 t hi hc).mp r;exact .inr ⟨k,hk,a,t,by omega,b⟩
   ·rintro (r|⟨k,hk,a,t,ht,b⟩)
    ·exact⟨0,by omega,(Zi hi hc).mpr r⟩
    ·exact⟨1+t,by omega,(Jy h hn 1 t hi hc).mpr ⟨k,hk,a,b⟩⟩
  have beq: ∀ {a b:N4},(a=true↔b=true)->a=b:=λ{a b} h=>by cases a<;>cases b<;>simp_all
  have B:=OX (n:=n) (λm i=>(R6 (m+1)).any (λt=>decide (RP n T t i c))) (λm i hi r=>by
   obtain⟨t,ht,r⟩:=(any_iff m i).mp r;exact(any_iff (m+1) i).mpr ⟨t,by omega,r⟩)
   (λm eq i hi=>beq (by
    have eq2: ∀k,k<n->((∃t,t<=m+1/\RP n T t k c)↔ ∃t,t<=m/\RP n T t k c):=λk hk=>by
     rw [<-any_iff (m+1) k,<-any_iff m k];have:=eq k hk;rw [this]
    rw [any_iff (m+2) i,any_iff (m+1) i,stp (m+1) i hi,stp m i hi];exact⟨λw=>w.elim .inl λ⟨k,hk,a,b⟩=> .inr ⟨k,hk,a,(eq2 k hk).mp b⟩,λw=>w.elim .inl λ⟨k,hk,a,b⟩=> .inr ⟨k,hk,a,(eq2 k hk).mpr b⟩⟩))
   K (λm hm i hi=>(any_iff m i).mpr ⟨K,hm,all K (P4 _) i c hi hc⟩) ⟨c,hc,(any_iff 0 c).mpr ⟨0,P4 _,(Zi hc hc).mpr rfl⟩⟩
  refine⟨(n-1)+s*(n-1),by omega,?_,(Wa (h.pow hn _)).mpr λi j hi hj=> ?_⟩
  ·have a:=Nat.mul_le_mul (show s<=5 by omega) (show n-1<=5 by omega);omega
  ·obtain⟨t,ht,r⟩:=(any_iff (n-1) i).mp (B i hi);have row: ∀j,j<n->RP n T (t+s*(n-1)) i j:=λj hj=>(Jy h hn t (s*(n-1)) hi hj).mpr ⟨c,hc,r,H0 (A j hj)⟩
   have:=keep i (t+s*(n-1)) (n-1-t) hi row j hj;rw [show t+s*(n-1)+(n-1-t)=n-1+s*(n-1) by omega] at this;exact this
 ·have hn1:n=1:=by omega
  refine⟨1,P4 _,by decide,(Wa (h.pow hn 1)).mpr λi j hi hj=> ?_⟩;obtain⟨k,hk,r⟩:=pre j hj;rw [show i=k by omega];exact r
end
end L2
namespace L2
open PySem PySem.Spec PyProof.Rows
def TrV (K:G2)(H:Hp):V->N4->Prop
 | .bl b,c=>c=b
 | .int i,c=>c=(i !=0)
 | .non,c=>c=false
 | .ref a,c=> ∃xs,SqL K H a xs/\c= !xs.isEmpty
 |_,_=>False
def TrD (h:HD):D->N4->Prop
 | .bl b,c=>c=b
 | .int i,c=>c=(i !=0)
 | .non,c=>c=false
 | .lst a,c=> ∃ds,h a=some ds/\c= !ds.isEmpty
 |_,_=>False
theorem TrD.to {K:G2}{H:Hp}{h:HD}{d:D}{v:V}{c:N4}(t:TrD h d c)(r:RelD K H d v)(rh:RelH K h H):TrV K H v c:=by
 cases d<;>try exact t.elim
 ·have e:v= .non:=r;subst e;exact t
 ·have e:v= .bl _:=r;subst e;exact t
 ·have e:v= .int _:=r;subst e;exact t
 ·obtain⟨e,_⟩:=r;subst e;obtain⟨ds,hd,e⟩:=t;obtain⟨vs,hv,r'⟩:=rh _ ds hd;refine⟨vs,SqL.of hv,?_⟩;rw [e];have:=r'.length;cases ds<;>cases vs<;>first|rfl|(simp at this)
section
variable {X:Cx}{pins:G0 (G9×Obj)}{σ:St}{H:Hp}{s:G3}{E:G1->G3->Prop}
theorem Inv.trv {v:V}{u:G1}{c:N4}{Q:N4->G3->Prop}(I:Inv X pins σ H s)(r:RelV v u)(t:TrV X.K H v c)(q: ∀s',Inv X pins σ H s'->Q c s'):R4 (S4 X.prog X.w) X.A (sU u) Q E s:=by
 cases v<;>try exact t.elim
 ·have e:u=fN:=r;subst e;have e:c=false:=t;subst e;exact truthy_none (q _ I)
 ·have e:u=aR _:=r;subst e;have e:c=_:=t;subst e;exact A1 (q _ I)
 ·obtain⟨t',e⟩:=r;subst e;have e:c=_:=t;subst e;exact truthy_int (q _ I)
 ·have e:u=aI _:=r;subst e;obtain⟨xs,hx,e⟩:=t;obtain⟨its,rv,p,hz⟩:=I.list hx;have hl:=rv.length;have e2:c= !its.toArray.isEmpty:=by
   rw [e];cases xs<;>cases its<;>first|rfl|(simp at hl)
  refine wpAny_truthy_list p.isList ?_ ?_
  ·have:xs.length<=16777216:=T6 hz (by decide);simp only [D6];have e3:((2:P0)^63)=9223372036854775808:=by decide
   rw [e3];omega
  ·rw [<-e2];exact q _ (I.tok _)
end
section
variable {X:Cx}{a b:T1}{rest:G0 T1}{pos:Pos}
def SR (K:G2)(ta tb:TE):TE:=λσ H Q=>ta σ H λx H1=> ∃c,TrV K H1 x c/\if c=true then Q x H1 else tb σ H1 Q
theorem OY {ta tb:TE}(ha:PE X a ta)(hb:PE X (.BoolOp .Or (b::rest) pos) tb):PE X (.BoolOp .Or (a::b::rest) pos) (SR X.K ta tb):=by
 intro pins s σ H Q I h;refine BoolOp_or (thn (ha pins s σ H _ I h) λv s1 ⟨x,H1,I1,r1,q1⟩=> ?_);obtain⟨c,t1,q1⟩:=q1;refine I1.trv r1 t1 λs' I'=> ?_
 cases c with
 |false=>exact hb pins s' σ H1 Q I' q1
 |true=>exact⟨x,H1,I',r1,q1⟩
def ST (ta tb:TED):TED:=λσ h Q=>ta σ h λx h1=> ∃c,TrD h1 x c/\if c=true then Q x h1 else tb σ h1 Q
variable {K:G2}
theorem OZ {ta tb:TED}: ∀σ H Q,LE K (ST ta tb) σ H Q->SR K (LE K ta) (LE K tb) σ H Q:=λσ H Q ⟨xD,h,Qd,rs,rh,t,p⟩=>
 LE.bind rs rh t λd v h1 H1 k1 rs1 rh1 r1 ⟨c,e,q⟩=>by
  refine⟨c,e.to r1 rh1,?_⟩;cases c with
  |true=>rw [S2 rfl] at q ⊢;exact p d _ _ _ k1 rh1 r1 q
  |false=>rw [S3 D9] at q ⊢;exact⟨xD,h1,Qd,rs1,rh1,q,jC p k1⟩
theorem Hd {ta tb:TED}(ha:JE X a ta)(hb:JE X (.BoolOp .Or (b::rest) pos) tb):JE X (.BoolOp .Or (a::b::rest) pos) (ST ta tb):=⟨(OY ha.to hb.to).imp OZ⟩
end
end L2
namespace L2
open PySem PySem.Spec PyProof.Rows PySem.SeqAt
def gT3 (i j k:G8):TGD:=λd σ h Q=> ∃x y z,d= .tup [x,y,z]/\Q (((σ.set i (some x)).set j (some y)).set k (some z)) h
theorem EY {K:G2}(i j k:G8): ∀v σ H Q,LG K (gT3 i j k) v σ H Q->Fs K 3 (ZJ (wQ i) (ZJ (wQ j) (ZJ (wQ k) Fr))) v σ H Q:=λv σ H Q ⟨d,xD,h,Qd,r,rs,rh,⟨x,y,z,e,q⟩,p⟩=>by
 subst e;obtain⟨a,vs,e,hH,rr⟩:=(show ∃a vs,v= .ref a/\H a=some (.tup vs)/\RelDs K H [x,y,z] vs from r);subst e;obtain⟨v1,vr,e1,r1,rr⟩:=(show ∃v r,vs=v::r/\RelD K H x v/\RelDs K H [y,z] r from rr);obtain⟨v2,v3,e2,r2,r3⟩:=zM rr;subst e1 e2;exact⟨a,[v1,v2,v3],rfl,SqT.of hH,rfl,v1,[v2,v3],rfl,v2,[v3],rfl,v3,[],rfl,rfl,p _ _ _ _ (.refl H) (((rs.set r1 i).set r2 j).set r3 k) rh q⟩
section
variable {X:Cx}{pos:Pos}
theorem CI {i j l:G8}{x y z:Str}{p1 p2 p3:Pos}{k:G8}(hc:X.calm=true)(hN:X.N.Nodup)(hi:X.N[i]? =some x)(hj:X.N[j]? =some y)(hl:X.N[l]? =some z)(hx:Loc X.env.scope x)(hy:Loc X.env.scope y)(hz:Loc X.env.scope z)
 (hf:X.fn x=true\/X.env.scope.names.lookup x=some .local:=by first|exact .inl rfl|exact .inr rfl|assumption)(hf2:X.fn y=true\/X.env.scope.names.lookup y=some .local:=by first|exact .inl rfl|exact .inr rfl|assumption)(hf3:X.fn z=true\/X.env.scope.names.lookup z=some .local:=by first|exact .inl rfl|exact .inr rfl|assumption):
 JG X (.Tuple [.Name x p1,.Name y p2,.Name z p3] k pos) (gT3 i j l):=⟨(Qq hc (wf (yu hN hi hx hf) (wf (yu hN hj hy hf2) (wf (yu hN hl hz hf3) Vg)))).imp (EY i j l)⟩
end
def CJ (f:G8->P0):G0 G8->P0->G8×P0
 | [],m=>(0,m)
 |j::l,m=>if f j<=m then CJ f l (m-f j) else (j,m)
section
variable (T:G0 (G0 P0))(n o:G8)
def wn:G8->G8->P0->G0 G8
 |0,p,_=> [p]
 |t+1,p,m=>p::wn t (CJ (cnt T n o t) (OM T n p) m).1 (CJ (cnt T n o t) (OM T n p) m).2
end
section
variable {α:Type}{i:G8}{js:G0 G8}{ti:TID}{te:TED}{σ:SD}{h:HD}{Q:KD}{j:ItD}
theorem SU (xs:G0 α)(c g:α->D)(p:α->N4){tt:TTD}(hz:xs.length<=1000000)(hj:j h=some (xs.map c))(ht: ∀R:ItD->HD->Prop,R j h->ti σ h R)
 (hp: ∀x∈xs,∀Q':N4->HD->Prop,Q' (p x) h->tt ((jO js σ).set i (some (c x))) h Q')(he: ∀x∈xs,p x=true-> ∀Q':KD,Q' (g x) h->te ((jO js σ).set i (some (c x))) h Q')(hq: ∀a,h a=none->Q (.lst a) (zV h a ((xs.filter p).map g))):Jm (bN i) js ti tt te σ h Q:=by
 refine ht _ ⟨xs.length,λk ys h'=>h'=h/\ys=((xs.take k).filter p).map g,⟨rfl,by simp⟩,?_⟩;rintro k ys h' ⟨rfl,rfl⟩;refine⟨?_,xs.map c,hj,by simp,λhl a ha=> ?_,λd hd=>⟨_,rfl,?_⟩⟩
 ·have:=U4 p (xs.take k);simp only [G7,T4] at this ⊢;exact R9 (K9 (show _<=1000000 by omega) (by decide))
 ·rw [M9 (by simpa using hl)];exact hq a ha
 ·rw [R5] at hd;cases hx:xs[k]? with
  |none=>rw [hx] at hd;cases hd
  |some x=>
   rw [hx] at hd;cases hd;refine hp x (P6 hx) _ ?_;cases hb:p x with
   |true=>
    rw [S2 rfl];refine he x (P6 hx) hb _ ⟨h',Sub.refl _,rfl,?_⟩;rw [F9,hx];simp [hb]
   |false=>
    rw [S3 (by decide)];refine⟨h',Sub.refl _,rfl,?_⟩;rw [F9,hx];simp [hb]
end
section
variable {X:Cx}{iter iter' elt:T1}{ti ti':TID}{tt tt':TTD}{te:TED}{pos:Pos}{scope:A8}{js:G0 G8}{ifs ifs':G0 T1}
theorem He {i j l:G8}{x y z:Str}{p1 p2 p3 pz:Pos}{k:G8}(hc:X.calm=true)(S:BlockOk X scope js)(hi:QI X (.Tuple [.Name x p1,.Name y p2] k p3) iter ti)(mi:i∈js)(mj:j∈js)(ml:l∈js)(hij:i≠j)(hil:i≠l)(hjl:j≠l)(hN:X.N.Nodup)(hx:X.N[i]? =some x)(hy:X.N[j]? =some y)(hz:X.N[l]? =some z)
 (h1:scope.names.lookup x=some .local\/scope.names.lookup x=some .cell)(h2:scope.names.lookup y=some .local\/scope.names.lookup y=some .cell)(h3:scope.names.lookup z=some .local\/scope.names.lookup z=some .cell)
 (ht: ∀X',jt X scope X'->PTs X' ifs (LT X'.K tt))(hi': ∀X',jt X scope X'->QI X' (.Name z pz) iter' ti')(ht': ∀X',jt X scope X'->PTs X' ifs' (LT X'.K tt'))(he: ∀X',jt X scope X'->QE X' elt te)
 (hs: ∀x,M8 iter X.env x=pure x:=by intro _;rfl)(hs': ∀env x,M8 iter' env x=pure x:=by intro _ _;rfl):
 QE X (.ListComp elt [⟨.Tuple [.Name x p1,.Name y p2] k p3,iter,ifs,0⟩,⟨.Name z pz,iter',ifs',0⟩] scope pos) (Fv (b2 i j) js ti tt l ti' tt' te):=
 (show PE X _ (Ea js (LI X.K ti) (Fs X.K 2 (ZJ (wQ i) (ZJ (wQ j) Fr))) (LT X.K tt) (LI X.K ti') (wQ l) (LT X.K tt') (LE X.K te)) from Lt hc S hi (λX' hX=>by
  obtain⟨C,s₀,H₀,ex,rfl⟩:=hX;exact Qq hc (wf (yy hN hx h1) (wf (yy hN hy h2) Vg))) (λX' hX=>by have:=ht X' hX;obtain⟨C,s₀,H₀,ex,rfl⟩:=hX;exact this) (λX' hX=>by have:=hi' X' hX;obtain⟨C,s₀,H₀,ex,rfl⟩:=hX;exact this)
  (λX' hX=>by obtain⟨C,s₀,H₀,ex,rfl⟩:=hX;exact yy hN hz h3) (λX' hX=>by have:=ht' X' hX;obtain⟨C,s₀,H₀,ex,rfl⟩:=hX;exact this)
  (λX' hX=>by have:=he X' hX;obtain⟨C,s₀,H₀,ex,rfl⟩:=hX;exact this) hs hs').imp (Og (Of mi mj ml hij hil hjl))
theorem Hf {i j l:G8}{x y z:Str}{p1 p2 p3 pz:Pos}{k:G8}(hc:X.calm=true)(S:BlockOk X scope js)(hi:JI X (.Tuple [.Name x p1,.Name y p2] k p3) iter ti)(mi:i∈js)(mj:j∈js)(ml:l∈js)(hij:i≠j)(hil:i≠l)(hjl:j≠l)(hN:X.N.Nodup)(hx:X.N[i]? =some x)(hy:X.N[j]? =some y)(hz:X.N[l]? =some z)
 (h1:scope.names.lookup x=some .local\/scope.names.lookup x=some .cell)(h2:scope.names.lookup y=some .local\/scope.names.lookup y=some .cell)(h3:scope.names.lookup z=some .local\/scope.names.lookup z=some .cell)
 (ht: ∀X',jt X scope X'->PTs X' ifs (LT X'.K tt))(hi': ∀X',jt X scope X'->JI X' (.Name z pz) iter' ti')(ht': ∀X',jt X scope X'->PTs X' ifs' (LT X'.K tt'))(he: ∀X',jt X scope X'->JE X' elt te)
 (hs: ∀x,M8 iter X.env x=pure x:=by intro _;rfl)(hs': ∀env x,M8 iter' env x=pure x:=by intro _ _;rfl):
 JE X (.ListComp elt [⟨.Tuple [.Name x p1,.Name y p2] k p3,iter,ifs,0⟩,⟨.Name z pz,iter',ifs',0⟩] scope pos) (Fv (b2 i j) js ti tt l ti' tt' te):=⟨He hc S hi.to mi mj ml hij hil hjl hN hx hy hz h1 h2 h3 ht (λX' hX=>(hi' X' hX).to) ht' (λX' hX=>(he X' hX).to) hs hs'⟩
end
section
variable {α β:Type}{i i2 i':G8}{js:G0 G8}{ti ti':TID}{te:TED}{σ:SD}{h:HD}{Q:KD}{j:ItD}
theorem lcT (xs:G0 α)(c c2:α->D)(ys:α->G0 β)(c':β->D)(g:α->β->D)(hz:(xs.flatMap ys).length<=1000)(hj:j h=some (xs.map λx=> .tup [c x,c2 x]))(ht: ∀R:ItD->HD->Prop,R j h->ti σ h R)
 (hin: ∀x∈xs,∀R:ItD->HD->Prop,R (λ_=>some ((ys x).map c')) h->ti' (((jO js σ).set i (some (c x))).set i2 (some (c2 x))) h R)
 (he: ∀x∈xs,∀y∈ys x,∀Q':KD,Q' (g x y) h->te ((((jO js σ).set i (some (c x))).set i2 (some (c2 x))).set i' (some (c' y))) h Q')(hq: ∀p,h p=none->Q (.lst p) (zV h p (xs.flatMap λx=>(ys x).map (g x)))):Fv (b2 i i2) js ti vI i' ti' vI te σ h Q:=by
 have len: ∀l:G0 α,(l.flatMap λx=>(ys x).map (g x)).length=(l.flatMap ys).length:=λl=>by
  induction l with
  |nil=>rfl
  |cons x l ih=>simp [dG,ih]
 have lek: ∀k,((xs.take k).flatMap ys).length<=(xs.flatMap ys).length:=λk=>by
  conv=>rhs;rw [<-M5 k xs,fE,P7]
  omega
 have lek1: ∀k x m,xs[k]? =some x->m<=(ys x).length->((xs.take k).flatMap ys).length+m<=(xs.flatMap ys).length:=λk x m hx hm=>by
  have:=lek (k+1);rw [F9,hx,fE,P7] at this;simp at this;simp;omega
 refine ht _ ⟨xs.length,λk zs h'=>h'=h/\zs=(xs.take k).flatMap λx=>(ys x).map (g x),⟨rfl,by simp⟩,?_⟩;rintro k zs h' ⟨rfl,rfl⟩;refine⟨by rw [len];exact R9 (ju (T6 (lek k) hz)),_,hj,by simp,λhl p hp=> ?_,λd hd=> ?_⟩
 ·rw [M9 (by simpa using hl)];exact hq p hp
 ·rw [R5] at hd;cases hx:xs[k]? with
  |none=>rw [hx] at hd;cases hd
  |some x=>
   rw [hx] at hd;injection hd with hd
   refine⟨_,⟨c x,c2 x,hd.symm,rfl⟩,?_⟩;unfold vI;dsimp only;rw [S2 rfl];have xm:=P6 hx;refine hin x xm _ ⟨(ys x).length,λm zs h2=>h2=h'/\zs=((xs.take k).flatMap λx=>(ys x).map (g x))++((ys x).take m).map (g x),⟨rfl,by simp⟩,?_⟩;rintro m zs h2 ⟨rfl,rfl⟩;refine⟨?_,(ys x).map c',rfl,by simp,λhl=>⟨h2,Sub.refl _,rfl,?_⟩,λd hd=> ?_⟩
   ·rw [P7,len,G7,T4];have:=lek1 k x (min m (ys x).length) hx (Z4 _ _);exact R9 (ju (by omega))
   ·have hm:(ys x).take m=ys x:=M9 (by simpa using hl);rw [hm,F9,hx,fE];simp
   ·rw [R5] at hd;cases hy:(ys x)[m]? with
    |none=>rw [hy] at hd;cases hd
    |some y=>
     rw [hy] at hd;cases hd
     first
      |rw [S2 rfl]
      |(dsimp only;rw [S2 rfl])
     refine he x xm y (P6 hy) _ ⟨h2,Sub.refl _,rfl,?_⟩;rw [F9,hy];simp
theorem Hg (xs:G0 α)(c c2:α->D)(ys:α->G0 β)(c':β->D)(g:α->β->N4)(hz:(xs.flatMap ys).length<=1000)(hj:j h=some (xs.map λx=> .tup [c x,c2 x]))(ht: ∀R:ItD->HD->Prop,R j h->ti σ h R)
 (hin: ∀x∈xs,∀R:ItD->HD->Prop,R (λ_=>some ((ys x).map c')) h->ti' (((jO js σ).set i (some (c x))).set i2 (some (c2 x))) h R)
 (he: ∀x∈xs,∀y∈ys x,∀Q':KD,Q' (.bl (g x y)) h->te ((((jO js σ).set i (some (c x))).set i2 (some (c2 x))).set i' (some (c' y))) h Q')(hq:Q (.bl (xs.all λx=>(ys x).all (g x))) h):dCB BW (zr (Fv (b2 i i2) js ti vI i' ti' vI te) ZK) σ h Q:=by
 show Fv (b2 i i2) js ti vI i' ti' vI te σ h (λx h1=>BW [x] h1 Q);refine lcT xs c c2 ys c' (λx y=> .bl (g x y)) hz hj ht hin he λp hp=> ?_
 have e:(xs.flatMap λx=>(ys x).map λy=>D.bl (g x y))=(xs.flatMap λx=>(ys x).map (g x)).map D.bl:=by
  clear hz hj ht hin he hq
  induction xs with
  |nil=>rfl
  |cons x l ih=>simp [dG,ih,M7]
 refine⟨p,xs.flatMap λx=>(ys x).map (g x),rfl,by rw [jc,e],?_⟩;have e2:(xs.flatMap λx=>(ys x).map (g x)).all id=xs.all λx=>(ys x).all (g x):=by
  clear hz hj ht hin he hq e
  induction xs with
  |nil=>rfl
  |cons x l ih=>rw [dG,List.all_append,ih,mI,K8];rfl
 rw [zL hp]
 first
  |(rw [e2];exact hq)
  |(show Q (.bl ((xs.flatMap λx=>(ys x).map (g x)).all λb=>b)) h;rw [show ((xs.flatMap λx=>(ys x).map (g x)).all λb=>b)=_ from e2];exact hq)
end
end L2
namespace L2
inductive Made (L:G0 G8):G8->Prop
 |z:Made L 0
 |s {n l:G8}:Made L n->l∈L->Made L (n+l)
theorem last_at {S:G0 G8}(h:1<=S.length):atI (S.map λ(k:G8)=>D.int (k:P0)) (-1)=some (.int ((S.getLast?.getD 0:G8):P0)):=by
 refine vF (by rw [G7];exact h) ?_;rw [<-List.getLast?_eq_getElem?,List.getLast?_map];cases e:S.getLast? with
 |none=>rw [List.getLast?_eq_none_iff] at e;subst e;simp at h
 |some x=>rfl
end L2
namespace HT
open PySem PyProof.Rows
section
variable {prog:S0}{w:N8}{A:T8}{E:G1->G3->Prop}{σ α β:Type}{J:G3->Prop}
def Tm (prog:S0)(w:N8)(A:T8)(E:G1->G3->Prop)(J:G3->Prop){σ α:Type}(m:V4 σ Sem α)(Q:α->σ->Prop)(st:σ):Prop:=
 ∀s,J s->R4 (S4 prog w) A (m.run st) (λr s'=>Q r.1 r.2/\J s') E s
theorem Tm.pure {a:α}{Q:α->σ->Prop}{st:σ}(h:Q a st):Tm prog w A E J (Pure.pure a:V4 σ Sem α) Q st:=λs j=>by
 rw [StateT.run_pure];exact P5 ⟨h,j⟩
theorem Tm.bind {m:V4 σ Sem α}{f:α->V4 σ Sem β}{Q:β->σ->Prop}{st:σ}(h:Tm prog w A E J m (λa st'=>Tm prog w A E J (f a) Q st') st):Tm prog w A E J (m >>= f) Q st:=λs j=>by
 rw [StateT.run_bind];exact wpAny_bind (T3 (h s j) (λr s' x=>x.1 s' x.2) λ_ _ e=>e)
theorem Tm.get {Q:σ->σ->Prop}{st:σ}(h:Q st st):Tm prog w A E J (MonadState.get:V4 σ Sem σ) Q st:=λs j=>by
 show R4 _ _ ((StateT.get:V4 σ Sem σ).run st) _ _ _;exact P5 ⟨h,j⟩
theorem Tm.mono {m:V4 σ Sem α}{Q Q':α->σ->Prop}{st:σ}(h:Tm prog w A E J m Q st)(q: ∀a st',Q a st'->Q' a st'):Tm prog w A E J m Q' st:=λs j=>
 T3 (h s j) (λr s' x=>⟨q _ _ x.1,x.2⟩) λ_ _ e=>e
theorem Tm.range' {f:G8->β->V4 σ Sem (fJ β)}(I:G8->β->σ->Prop){Q:β->σ->Prop}{b:G8}(step: ∀i c st,i<b->I i c st->Tm prog w A E J (f i c) (λr st'=>match r with| .done c'=>Q c' st'| .yield c'=>I (i+1) c' st') st)(fin: ∀c st,I b c st->Q c st):
 ∀ (k i:G8) (c:β) (st:σ),i+k=b->I i c st->Tm prog w A E J (forIn (List.range' i k) c f) Q st
 |0,i,c,st,e,h=>by
  rw [List.range'_zero,qE];exact .pure (fin c st (by rw [<-e];exact h))
 |k+1,i,c,st,e,h=>by
  rw [List.range'_succ,bZ];refine .bind ((step i c st (by omega) h).mono λr st' x=> ?_);cases r with
  |done c'=>exact .pure x
  |yield c'=>exact Tm.range' I step fin k (i+1) c' st' (by omega) x
theorem Tm.range {f:G8->β->V4 σ Sem (fJ β)}(I:G8->β->σ->Prop){Q:β->σ->Prop}{a b:G8}{c:β}{st:σ}(hab:a<=b)(h:I a c st)(step: ∀i c st,i<b->I i c st->Tm prog w A E J (f i c) (λr st'=>match r with| .done c'=>Q c' st'| .yield c'=>I (i+1) c' st') st)(fin: ∀c st,I b c st->Q c st):
 Tm prog w A E J (forIn [a:b] c f) Q st:=λs j=>by
 rw [Std.Legacy.Range.forIn_eq_forIn_range'];have e:([a:b]:Std.Legacy.Range).size=b-a:=by simp [Std.Legacy.Range.size]
 rw [e];exact Tm.range' I step fin (b-a) a c st (by omega) h s j
end
section
variable {prog:S0}{w:N8}{A:T8}{E:G1->G3->Prop}{J:G3->Prop}{κ:SortKind}{U:D3->Prop}{R:D3->D3->N4}
def VF (prog:S0)(w:N8)(A:T8)(J:G3->Prop)(κ:SortKind)(U:D3->Prop)(R:D3->D3->N4):Prop:=
 ∀x y,U x->U y-> ∀s,J s->R4 (S4 prog w) A (keyLt' κ x.1 y.1) (λb s'=>b=R x y/\J s') (λ_ _=>False) s
theorem Tm.lt {x y:D3}{st:B3}{Q:P8 N4->B3->Prop}(a:VF prog w A J κ U R)(k:kindOf st=κ)(hx:U x)(hy:U y)(q:Q (some (R x y)) st):Tm prog w A E J (lt' x y) Q st:=by
 rw [lt'_eq];refine .bind (.get ?_);rw [k];intro s j;rw [StateT.run_bind];refine wpAny_bind ?_;show R4 _ _ ((StateT.lift _:V4 B3 Sem _).run st) _ _ _;rw [StateT.run_lift];refine wpAny_bind (iQ (T3 (a x y hx hy s j) (λb s' x=> ?_) λ_ _ e=>e.elim));obtain⟨rfl,j'⟩:=x;exact P5 (Tm.pure (prog:=prog) (w:=w) (A:=A) (E:=E) (J:=J) q s' j')
theorem Tm.elem {arr:N0 D3}{i:G8}{x:D3}{st:B3}{Q:D3->B3->Prop}(e:arr[i]? =some x)(q:Q x st):Tm prog w A E J (elem' arr i) Q st:=by
 rw [elem'_eq,e];exact .pure q
theorem Aa {n lo hi:G8}{g:G8->N4}{st:B3}{f:G8->P8 (P8 G8)×G8×G8->V4 B3 Sem (fJ (P8 (P8 G8)×G8×G8))}(anti: ∀i j,i<=j->j<n->g j=true->g i=true)
 (h1:lo<=hi)(h2:hi<=n)(a1: ∀i,i<lo->g i=true)(a2: ∀i,hi<=i->i<n->g i=false)
 (stop: ∀i l,Tm prog w A E J (f i (none,l,l)) (λr st'=>st'=st/\r= .done (none,l,l)) st)
 (step: ∀i l u,l<u->u<=n->Tm prog w A E J (f i (none,l,u)) (λr st'=>st'=st/\r=if g (l+(u-l) / 2)=true then .yield (none,l+(u-l) / 2+1,u) else .yield (none,l,l+(u-l) / 2)) st):
 Tm prog w A E J (forIn [0:n] (none,lo,hi) f) (λc st'=>st'=st/\c.1=none/\c.2.2<=n/\(∀i,i<c.2.2->g i=true)/\ ∀i,c.2.2<=i->i<n->g i=false) st:=by
 have no: ∀i j,i<=j->j<n->g i=false->g j=false:=λi j hij hj z=>by
  cases hb:g j with
  |false=>rfl
  |true=>rw [anti i j hij hj hb] at z;cases z
 refine Tm.range (λi c st'=>st'=st/\c.1=none/\c.2.1<=c.2.2/\c.2.2<=n/\(∀i,i<c.2.1->g i=true)/\(∀i,c.2.2<=i->i<n->g i=false)/\c.2.2-c.2.1+i<=n) (N3 _) ⟨rfl,rfl,h1,h2,a1,a2,by dsimp only;omega⟩ ?_ ?_
 ·rintro i ⟨r,l,u⟩ _ hi ⟨rfl,hr,b1,b2,b3,b4,b5⟩;dsimp only at hr b1 b2 b3 b4 b5;subst hr
  by_cases z:l=u
  ·subst z;refine(stop i l).mono ?_;rintro _ _ ⟨rfl,rfl⟩;exact⟨rfl,rfl,b2,b3,b4⟩
  ·refine(step i l u (by omega) b2).mono ?_;rintro _ _ ⟨rfl,rfl⟩;cases hg:g (l+(u-l) / 2) with
   |true=>
    rw [S2 rfl];exact⟨rfl,rfl,by dsimp only;omega,b2,λj hj=>anti j _ (by dsimp only at hj;omega) (by omega) hg,b4,by dsimp only;omega⟩
   |false=>
    rw [S3 (by decide)];exact⟨rfl,rfl,by dsimp only;omega,by dsimp only;omega,b3,λj hj hn=>no _ j hj hn hg,by dsimp only;omega⟩
 ·rintro ⟨r,l,u⟩ _ ⟨rfl,hr,b1,b2,b3,b4,b5⟩;dsimp only at hr b1 b2 b3 b4 b5 ⊢;exact⟨rfl,hr,b2,λj hj=>b3 j (by omega),b4⟩
def gal:N4->D3->N0 D3->G8->G8->G8->V4 B3 Sem (P8 G8):=sortPriv% PySem.Builtin.gallop
def byd (R:D3->D3->N4)(left:N4)(key:D3)(arr:N0 D3)(base i:G8):N4:=
 match arr[base+i]? with
 |some x=>if left=true then R x key else !R key x
 |none=>false
theorem DZ {left:N4}{key:D3}{arr:N0 D3}{base n hint:G8}{st:B3}{Q:P8 G8->B3->Prop}(a:VF prog w A J κ U R)(k:kindOf st=κ)(uk:U key)(ua: ∀i,i<n-> ∃x,arr[base+i]? =some x/\U x)
 (anti: ∀i j,i<=j->j<n->byd R left key arr base j=true->byd R left key arr base i=true)(hh:hint<n)
 (q: ∀m,m<=n->(∀i,i<m->byd R left key arr base i=true)->(∀i,m<=i->i<n->byd R left key arr base i=false)->Q (some m) st):Tm prog w A E J (gal left key arr base n hint) Q st:=by
 have ask: ∀i (Q':P8 N4->B3->Prop),i<n->Q' (some (byd R left key arr base i)) st->Tm prog w A E J (do let x <-elem' arr (base+i);if left=true then lt' x key else do let b <-lt' key x;Pure.pure (b.map λz=> !z)) Q' st:=λi Q' hi q'=>by
  obtain⟨x,ex,ux⟩:=ua i hi;refine .bind (.elem ex ?_);unfold byd at q';rw [ex] at q';cases left with
  |true=>exact .lt a k ux uk q'
  |false=>exact .bind (.lt a k uk ux (.pure q'))
 have no: ∀i j,i<=j->j<n->byd R left key arr base i=false->byd R left key arr base j=false:=λi j hij hj z=>by
  cases hb:byd R left key arr base j with
  |false=>rfl
  |true=>rw [anti i j hij hj hb] at z;cases z
 unfold gal;refine .bind (ask hint _ hh ?_);dsimp only;cases hb:byd R left key arr base hint with
 |true=>
  rw [S2 rfl];refine .bind (Tm.mono (Tm.range (λi c st'=>st'=st/\c.1=none/\c.2.1<c.2.2/\hint+c.2.1<n/\byd R left key arr base (hint+c.2.1)=true/\i+1<=c.2.2)
   (Q:=λc st'=>st'=st/\c.1=none/\c.2.1<c.2.2/\hint+c.2.1<n/\byd R left key arr base (hint+c.2.1)=true/\(n-hint<=c.2.2\/byd R left key arr base (hint+c.2.2)=false)) (N3 _) ⟨rfl,rfl,by decide,by omega,by simpa using hb,by decide⟩ ?_ ?_) ?_)
  ·rintro i ⟨r,lo,of⟩ _ hi ⟨rfl,hr,h1,h2,h3,h4⟩;dsimp only at hr h1 h2 h3 h4 ⊢;subst hr
   by_cases z:of>=n-hint
   ·rw [S2 z];exact .pure ⟨rfl,rfl,h1,h2,h3,.inl z⟩
   ·rw [S3 z];refine .bind (ask (hint+of) _ (by omega) ?_);dsimp only;cases hc:byd R left key arr base (hint+of) with
    |true=>exact .pure ⟨rfl,rfl,by dsimp only;omega,by dsimp only;omega,hc,by dsimp only;omega⟩
    |false=>exact .pure ⟨rfl,rfl,h1,h2,h3,.inr hc⟩
  ·rintro ⟨r,lo,of⟩ _ ⟨rfl,hr,h1,h2,h3,h4⟩;exact⟨rfl,hr,h1,h2,h3,.inl (by dsimp only at h4 ⊢;omega)⟩
  ·rintro ⟨r,lo,of⟩ _ ⟨rfl,hr,h1,h2,h3,h4⟩;dsimp only at hr h1 h2 h3 h4 ⊢;subst hr;dsimp only;refine .bind (Tm.mono (Aa (g:=byd R left key arr base) anti (by omega) (by omega) (λi hi=>anti i _ (by omega) h2 h3) (λi hi hn=> ?_) (λi l=> ?_) (λi l u hl hu=> ?_)) ?_)
   ·rcases h4 with z|z
    ·omega
    ·exact no (hint+of) i (by omega) hn z
   ·rw [S2 (P4 l)];exact .pure ⟨rfl,rfl⟩
   ·rw [S3 (show ¬l>=u by omega)];refine .bind (ask (l+(u-l) / 2) _ (by omega) ?_);dsimp only;cases byd R left key arr base (l+(u-l) / 2)<;>exact .pure ⟨rfl,rfl⟩
   ·rintro ⟨r,l,u⟩ _ ⟨rfl,hr,b2,b3,b4⟩;dsimp only at hr b2 b3 b4 ⊢;subst hr;exact .pure (q u b2 b3 b4)
 |false=>
  rw [S3 (by decide)];refine .bind (Tm.mono (Tm.range (λi c st'=>st'=st/\c.1=none/\c.2.1<c.2.2/\c.2.1<=hint/\byd R left key arr base (hint-c.2.1)=false/\i+1<=c.2.2)
   (Q:=λc st'=>st'=st/\c.1=none/\c.2.1<c.2.2/\c.2.1<=hint/\byd R left key arr base (hint-c.2.1)=false/\(hint+1<=c.2.2\/byd R left key arr base (hint-c.2.2)=true)) (N3 _) ⟨rfl,rfl,by decide,by dsimp only;omega,by simpa using hb,by decide⟩ ?_ ?_) ?_)
  ·rintro i ⟨r,lo,of⟩ _ hi ⟨rfl,hr,h1,h2,h3,h4⟩;dsimp only at hr h1 h2 h3 h4 ⊢;subst hr
   by_cases z:of>=hint+1
   ·rw [S2 z];exact .pure ⟨rfl,rfl,h1,h2,h3,.inl z⟩
   ·rw [S3 z];refine .bind (ask (hint-of) _ (by omega) ?_);dsimp only;cases hc:byd R left key arr base (hint-of) with
    |false=>exact .pure ⟨rfl,rfl,by dsimp only;omega,by dsimp only;omega,hc,by dsimp only;omega⟩
    |true=>exact .pure ⟨rfl,rfl,h1,h2,h3,.inr hc⟩
  ·rintro ⟨r,lo,of⟩ _ ⟨rfl,hr,h1,h2,h3,h4⟩;exact⟨rfl,hr,h1,h2,h3,.inl (by dsimp only at h4 ⊢;omega)⟩
  ·rintro ⟨r,lo,of⟩ _ ⟨rfl,hr,h1,h2,h3,h4⟩;dsimp only at hr h1 h2 h3 h4 ⊢;subst hr;dsimp only;refine .bind (Tm.mono (Aa (g:=byd R left key arr base) anti (by omega) (by omega) (λi hi=> ?_) (λi hi hn=>no _ i hi hn h3) (λi l=> ?_) (λi l u hl hu=> ?_)) ?_)
   ·rcases h4 with z|z
    ·omega
    ·exact anti i (hint-of) (by omega) (by omega) z
   ·rw [S2 (P4 l)];exact .pure ⟨rfl,rfl⟩
   ·rw [S3 (show ¬l>=u by omega)];refine .bind (ask (l+(u-l) / 2) _ (by omega) ?_);dsimp only;cases byd R left key arr base (l+(u-l) / 2)<;>exact .pure ⟨rfl,rfl⟩
   ·rintro ⟨r,l,u⟩ _ ⟨rfl,hr,b2,b3,b4⟩;dsimp only at hr b2 b3 b4 ⊢;subst hr;exact .pure (q u b2 b3 b4)
end
section
variable {κ:Type}{U:κ->Prop}{R:κ->κ->N4}{al bl:G0 κ}
structure Ordd (U:κ->Prop)(R:κ->κ->N4):Prop where
 asym: ∀x y,U x->U y->R x y=true->R y x=false
 neg: ∀x y z,U x->U y->U z->R x z=true->R x y=true\/R y z=true
theorem Ordd.refl (o:Ordd U R){x:κ}(u:U x):R x x=false:=by
 cases h:R x x with
 |false=>rfl
 |true=>have:=o.asym x x u u h;rw [h] at this;exact this
theorem Ordd.trans (o:Ordd U R){x y z:κ}(ux:U x)(uy:U y)(uz:U z)(a:R y x=false)(b:R z y=false):R z x=false:=by
 cases h:R z x with
 |false=>rfl
 |true=>
  rcases o.neg z y x uz uy ux h with z|z
  ·rw [b] at z;cases z
  ·rw [a] at z;cases z
abbrev Srt (R:κ->κ->N4)(l:G0 κ):Prop:=l.Pairwise λx y=>R y x=false
structure MI (R:κ->κ->N4)(al bl:G0 κ)(ia ib:G8)(out:G0 κ):Prop where
 perm:out.Perm (al.take ia++bl.take ib)
 srt:Srt R out
 ra: ∀x∈out,∀y∈al.drop ia,R y x=false
 rb: ∀x∈out,∀y∈bl.drop ib,R y x=false
theorem zz {l:G0 κ}{i:G8}{y:κ}(h:l[i]? =some y):l.drop i=y::l.drop (i+1):=by
 obtain⟨hi,e⟩:=P9.mp h;rw [List.drop_eq_getElem_cons hi,e]
theorem WH {l:G0 κ}{i:G8}{y:κ}(h:l[i]? =some y):l.take (i+1)=l.take i++ [y]:=by
 rw [F9,h];rfl
theorem MI.start (al bl:G0 κ):MI R al bl 0 0 []:=⟨.refl _,.nil,λx hx=>(T9 hx).elim,λx hx=>(T9 hx).elim⟩
variable {ia ib:G8}
theorem MI.pushB {out:G0 κ}{y:κ}(m:MI R al bl ia ib out)(o:Ordd U R)(ua: ∀x∈al,U x)(ub: ∀x∈bl,U x)(sa:Srt R al)(sb:Srt R bl)(hy:bl[ib]? =some y)(lt: ∀z,al[ia]? =some z->R y z=true):MI R al bl ia (ib+1) (out++ [y]):=by
 have dy:=zz hy;have uy:=ub y (P6 hy);have sdb:Srt R (bl.drop ib):=sb.sublist (Q6 _ _);rw [dy] at sdb;refine⟨?_,?_,λx hx z hz=> ?_,λx hx z hz=> ?_⟩
 ·rw [WH hy,<-D4];exact m.perm.append_right _
 ·refine N7.mpr ⟨m.srt,O4 _ _,λx hx z hz=> ?_⟩;rw [P3.mp hz];exact m.rb x hx y (by rw [dy];exact R7 ..)
 ·rcases D5.mp hx with w|w
  ·exact m.ra x w z hz
  ·rw [P3.mp w];cases e:al[ia]? with
   |none=>rw [A3 (hJ.mp e)] at hz;cases hz
   |some a0=>
    have da:=zz e;have ua0:=ua a0 (P6 e);have sda:Srt R (al.drop ia):=sa.sublist (Q6 _ _);rw [da] at sda hz;have l0:=o.asym y a0 uy ua0 (lt a0 e);rcases D2.mp hz with v|v
    ·rw [v];exact l0
    ·exact o.trans uy ua0 (ua z (C4 v)) l0 ((J4.mp sda).1 z v)
 ·rcases D5.mp hx with w|w
  ·exact m.rb x w z (by rw [dy];exact S6 _ hz)
  ·rw [P3.mp w];exact(J4.mp sdb).1 z hz
theorem MI.pushA {out:G0 κ}{y:κ}(m:MI R al bl ia ib out)(o:Ordd U R)(ua: ∀x∈al,U x)(ub: ∀x∈bl,U x)(sa:Srt R al)(sb:Srt R bl)(hy:al[ia]? =some y)(ge: ∀z,bl[ib]? =some z->R z y=false):MI R al bl (ia+1) ib (out++ [y]):=by
 have dy:=zz hy;have uy:=ua y (P6 hy);have sda:Srt R (al.drop ia):=sa.sublist (Q6 _ _);rw [dy] at sda;refine⟨?_,?_,λx hx z hz=> ?_,λx hx z hz=> ?_⟩
 ·rw [WH hy];refine(m.perm.append_right [y]).trans ?_;rw [D4,D4];exact(aM).append_left _
 ·refine N7.mpr ⟨m.srt,O4 _ _,λx hx z hz=> ?_⟩;rw [P3.mp hz];exact m.ra x hx y (by rw [dy];exact R7 ..)
 ·rcases D5.mp hx with w|w
  ·exact m.ra x w z (by rw [dy];exact S6 _ hz)
  ·rw [P3.mp w];exact(J4.mp sda).1 z hz
 ·rcases D5.mp hx with w|w
  ·exact m.rb x w z hz
  ·rw [P3.mp w];cases e:bl[ib]? with
   |none=>rw [A3 (hJ.mp e)] at hz;cases hz
   |some b0=>
    have db:=zz e;have ub0:=ub b0 (P6 e);have sdb:Srt R (bl.drop ib):=sb.sublist (Q6 _ _);rw [db] at sdb hz;have l0:=ge b0 e;rcases D2.mp hz with v|v
    ·rw [v];exact l0
    ·exact o.trans uy ub0 (ub z (C4 v)) l0 ((J4.mp sdb).1 z v)
theorem MI.manyA (o:Ordd U R)(ua: ∀x∈al,U x)(ub: ∀x∈bl,U x)(sa:Srt R al)(sb:Srt R bl): ∀ (k:G8) {ia:G8} {out:G0 κ},MI R al bl ia ib out->ia+k<=al.length->(∀i,i<k-> ∀y,al[ia+i]? =some y-> ∀z,bl[ib]? =some z->R z y=false)->MI R al bl (ia+k) ib (out++(al.drop ia).take k)
 |0,ia,out,m,_,_=>by rw [gO,J6];exact m
 |k+1,ia,out,m,hk,h=>by
  obtain⟨y,hy⟩: ∃y,al[ia]? =some y:=⟨_,G5 (by omega)⟩;have m1:=m.pushA o ua ub sa sb hy (h 0 (by omega) y hy);have:=MI.manyA o ua ub sa sb k m1 (by omega) (λi hi y hy=>h (i+1) (by omega) y (by rw [show ia+(i+1)=ia+1+i by omega];exact hy));rw [show ia+(k+1)=ia+1+k by omega,zz hy,mC,oN];exact this
theorem MI.manyB (o:Ordd U R)(ua: ∀x∈al,U x)(ub: ∀x∈bl,U x)(sa:Srt R al)(sb:Srt R bl): ∀ (k:G8) {ib:G8} {out:G0 κ},MI R al bl ia ib out->ib+k<=bl.length->(∀i,i<k-> ∀y,bl[ib+i]? =some y-> ∀z,al[ia]? =some z->R y z=true)->MI R al bl ia (ib+k) (out++(bl.drop ib).take k)
 |0,ib,out,m,_,_=>by rw [gO,J6];exact m
 |k+1,ib,out,m,hk,h=>by
  obtain⟨y,hy⟩: ∃y,bl[ib]? =some y:=⟨_,G5 (by omega)⟩;have m1:=m.pushB o ua ub sa sb hy (h 0 (by omega) y hy);have:=MI.manyB o ua ub sa sb k m1 (by omega) (λi hi y hy=>h (i+1) (by omega) y (by rw [show ib+(i+1)=ib+1+i by omega];exact hy));rw [show ib+(k+1)=ib+1+k by omega,zz hy,mC,oN];exact this
theorem MI.all {out:G0 κ}(m:MI R al bl al.length bl.length out):out.Perm (al++bl)/\Srt R out:=by
 have:=m.perm;rw [dP,dP] at this;exact⟨this,m.srt⟩
theorem MI.done {out:G0 κ}(m:MI R al bl ia ib out)(o:Ordd U R)(ua: ∀x∈al,U x)(ub: ∀x∈bl,U x)(sa:Srt R al)(sb:Srt R bl)(ha:ia<=al.length)(hb:ib<=bl.length)(h:ia=al.length\/ib=bl.length):(out++al.drop ia++bl.drop ib).Perm (al++bl)/\Srt R (out++al.drop ia++bl.drop ib):=by
 have m1:=MI.manyA o ua ub sa sb (al.length-ia) m (by omega) (λi hi y hy z hz=>by
  have:=(P9.mp hz).1;omega)
 rw [show ia+(al.length-ia)=al.length by omega,M9 (by rw [C3];exact P4 _)] at m1;have m2:=MI.manyB o ua ub sa sb (bl.length-ib) m1 (by omega) (λi hi y hy z hz=>by
  have:=(P9.mp hz).1;omega)
 rw [show ib+(bl.length-ib)=bl.length by omega,M9 (l:=bl.drop ib) (by rw [C3];exact P4 _)] at m2;exact m2.all
theorem MI.lastA {out:G0 κ}(m:MI R al bl ia ib out)(o:Ordd U R)(ua: ∀x∈al,U x)(ub: ∀x∈bl,U x)(sa:Srt R al)(sb:Srt R bl)(ha:ia+1=al.length)(hb:ib<=bl.length)(h: ∀y∈bl,∀z,al[al.length-1]? =some z->R y z=true):(out++bl.drop ib++al.drop ia).Perm (al++bl)/\Srt R (out++bl.drop ib++al.drop ia):=by
 have m2:=MI.manyB o ua ub sa sb (bl.length-ib) m (by omega) (λi hi y hy z hz=>h y (P6 hy) z (by rw [<-ha];exact hz));rw [show ib+(bl.length-ib)=bl.length by omega,M9 (by rw [C3];exact P4 _)] at m2;have m1:=MI.manyA o ua ub sa sb (al.length-ia) m2 (by omega) (λi hi y hy z hz=>by
  have:=(P9.mp hz).1;omega)
 rw [show ia+(al.length-ia)=al.length by omega,M9 (l:=al.drop ia) (by rw [C3];exact P4 _)] at m1;exact m1.all
end
section
variable {prog:S0}{w:N8}{A:T8}{E:G1->G3->Prop}{J:G3->Prop}{κ:SortKind}{U:D3->Prop}{R:D3->D3->N4}
theorem Tm.rule {σ:Type}{x:Q4}{Q:Unit->σ->Prop}{st:σ}(q:Q () st):Tm prog w A E J (liftM (PySem.rule x):V4 σ Sem Unit) Q st:=λs j=>by
 show R4 _ _ ((StateT.lift _:V4 σ Sem _).run st) _ _ _;rw [StateT.run_lift];exact wpAny_bind (dN (P5 ⟨q,j⟩))
theorem Tm.modify {σ:Type}{f:σ->σ}{Q:Unit->σ->Prop}{st:σ}(q:Q () (f st)):Tm prog w A E J (_root_.modify f:V4 σ Sem PUnit) Q st:=λs j=>by
 rw [StateT.run_modify];exact P5 ⟨q,j⟩
def mLo:N0 D3->N0 D3->V4 B3 Sem (N0 D3):=sortPriv% PySem.Builtin.mergeLo
def Gal (st st':B3):Prop:=kindOf st'=kindOf st/\S5 st'=S5 st/\B0 st'=B0 st/\Y4 st'=Y4 st
theorem Gal.refl (st:B3):Gal st st:=⟨rfl,rfl,rfl,rfl⟩
theorem Wc (a:N0 D3)(i:G8):(a.extract i).toList=a.toList.drop i:=by
 rw [Y5,U3];exact M9 (by simp)
theorem QU (a:N0 D3)(i k:G8):(a.extract i (i+k)).toList=(a.toList.drop i).take k:=by
 rw [Y5,U3,cS]
def vK (R:D3->D3->N4)(a b c:N0 D3):Prop:=c.toList.Perm (a.toList++b.toList)/\Srt R c.toList
structure Two (U:D3->Prop)(R:D3->D3->N4)(a b:N0 D3):Prop where
 o:Ordd U R
 ua: ∀x∈a.toList,U x
 ub: ∀x∈b.toList,U x
 sa:Srt R a.toList
 sb:Srt R b.toList
 last: ∀y∈b.toList,∀z,a.toList[a.toList.length-1]? =some z->R y z=true
abbrev MA (R:D3->D3->N4)(a b:N0 D3)(ia ib:G8)(out:N0 D3):Prop:=MI R a.toList b.toList ia ib out.toList
section
variable {a b out:N0 D3}{ia ib:G8}
theorem MA.done (t:Two U R a b)(m:MA R a b ia ib out)(ha:ia<=a.size)(hb:ib<=b.size)(h:ia=a.size\/ib=b.size):vK R a b (out++a.extract ia++b.extract ib):=by
 have:=MI.done m t.o t.ua t.ub t.sa t.sb (by simpa using ha) (by simpa using hb) (by simpa using h);unfold vK;rw [C8,C8,Wc,Wc];exact this
theorem MA.lastA (t:Two U R a b)(m:MA R a b ia ib out)(ha:ia+1=a.size)(hb:ib<=b.size):vK R a b (out++b.extract ib++a.extract ia):=by
 have:=MI.lastA m t.o t.ua t.ub t.sa t.sb (by simpa using ha) (by simpa using hb) t.last;unfold vK;rw [C8,C8,Wc,Wc];exact this
theorem MA.pushB (t:Two U R a b){y:D3}(m:MA R a b ia ib out)(hy:b.toList[ib]? =some y)(lt: ∀z,a.toList[ia]? =some z->R y z=true):MA R a b ia (ib+1) (out.push y):=by
 have:=MI.pushB m t.o t.ua t.ub t.sa t.sb hy lt;show MI R _ _ _ _ (out.push y).toList;rw [aQ];exact this
theorem MA.pushA (t:Two U R a b){y:D3}(m:MA R a b ia ib out)(hy:a.toList[ia]? =some y)(ge: ∀z,b.toList[ib]? =some z->R z y=false):MA R a b (ia+1) ib (out.push y):=by
 have:=MI.pushA m t.o t.ua t.ub t.sa t.sb hy ge;show MI R _ _ _ _ (out.push y).toList;rw [aQ];exact this
theorem MA.manyA (t:Two U R a b)(m:MA R a b ia ib out)(k:G8)(hk:ia+k<=a.size)(h: ∀i,i<k-> ∀y,a.toList[ia+i]? =some y-> ∀z,b.toList[ib]? =some z->R z y=false):MA R a b (ia+k) ib (out++a.extract ia (ia+k)):=by
 have:=MI.manyA t.o t.ua t.ub t.sa t.sb k m (by simpa using hk) h;show MI R _ _ _ _ (out++a.extract ia (ia+k)).toList;rw [C8,QU];exact this
theorem MA.manyB (t:Two U R a b)(m:MA R a b ia ib out)(k:G8)(hk:ib+k<=b.size)(h: ∀i,i<k-> ∀y,b.toList[ib+i]? =some y-> ∀z,a.toList[ia]? =some z->R y z=true):MA R a b ia (ib+k) (out++b.extract ib (ib+k)):=by
 have:=MI.manyB t.o t.ua t.ub t.sa t.sb k m (by simpa using hk) h;show MI R _ _ _ _ (out++b.extract ib (ib+k)).toList;rw [C8,QU];exact this
end
variable {arr:N0 D3}{base:G8}
theorem yN {left:N4}{key x:D3}{i:G8}(h:arr.toList[base+i]? =some x):byd R left key arr base i=if left=true then R x key else !R key x:=by
 unfold byd;rw [<-A9,h]
theorem WI {l:G0 D3}(s:Srt R l)(o:Ordd U R)(u: ∀x∈l,U x){i j:G8}{x y:D3}(hij:i<=j)(hx:l[i]? =some x)(hy:l[j]? =some y):R y x=false:=by
 by_cases z:i=j
 ·subst z;rw [hx] at hy;injection hy with hy;subst hy
  exact o.refl (u x (P6 hx))
 ·obtain⟨h1,e1⟩:=P9.mp hx;obtain⟨h2,e2⟩:=P9.mp hy;have:=bG.mp s i j h1 h2 (by omega);rw [e1,e2] at this;exact this
theorem WJ {i:G8}(h:i<arr.size): ∃x,arr.toList[i]? =some x/\arr[i]? =some x:=⟨arr[i],by simp [h],by simp [h]⟩
theorem SV {y:D3}{n hint:G8}{st:B3}{Q:P8 G8->B3->Prop}(ak:VF prog w A J κ U R)(kd:kindOf st=κ)(o:Ordd U R)(u: ∀x∈arr.toList,U x)(s:Srt R arr.toList)(uy:U y)(hn:base+n<=arr.size)(hh:hint<n)
 (q: ∀k,k<=n->(∀i,i<k-> ∀x,arr.toList[base+i]? =some x->R y x=false)->(∀i,k<=i->i<n-> ∀x,arr.toList[base+i]? =some x->R y x=true)->Q (some k) st):Tm prog w A E J (gal false y arr base n hint) Q st:=by
 refine DZ ak kd uy (λi hi=> ?_) (λi j hij hj h=> ?_) hh (λk k1 k2 k3=>q k k1 (λi hi x hx=> ?_) (λi h1 h2 x hx=> ?_))
 ·obtain⟨x,lx,ex⟩:=WJ (show base+i<arr.size by omega);exact⟨x,ex,u x (P6 lx)⟩
 ·obtain⟨x,lx,_⟩:=WJ (show base+i<arr.size by omega);obtain⟨z,lz,_⟩:=WJ (show base+j<arr.size by omega);rw [yN lz] at h;rw [yN lx];have hz:R y z=false:=by simpa using h
  have:=o.trans (u x (P6 lx)) (u z (P6 lz)) uy (WI s o u (by omega) lx lz) hz;simp [this]
 ·have:=k2 i hi;rw [yN hx] at this;simpa using this
 ·have:=k3 i h1 h2;rw [yN hx] at this;simpa using this
theorem SW {y:D3}{n hint:G8}{st:B3}{Q:P8 G8->B3->Prop}(ak:VF prog w A J κ U R)(kd:kindOf st=κ)(o:Ordd U R)(u: ∀x∈arr.toList,U x)(s:Srt R arr.toList)(uy:U y)(hn:base+n<=arr.size)(hh:hint<n)
 (q: ∀k,k<=n->(∀i,i<k-> ∀x,arr.toList[base+i]? =some x->R x y=true)->(∀i,k<=i->i<n-> ∀x,arr.toList[base+i]? =some x->R x y=false)->Q (some k) st):Tm prog w A E J (gal true y arr base n hint) Q st:=by
 refine DZ ak kd uy (λi hi=> ?_) (λi j hij hj h=> ?_) hh (λk k1 k2 k3=>q k k1 (λi hi x hx=> ?_) (λi h1 h2 x hx=> ?_))
 ·obtain⟨x,lx,ex⟩:=WJ (show base+i<arr.size by omega);exact⟨x,ex,u x (P6 lx)⟩
 ·obtain⟨x,lx,_⟩:=WJ (show base+i<arr.size by omega);obtain⟨z,lz,_⟩:=WJ (show base+j<arr.size by omega);rw [yN lz] at h;rw [yN lx];have hz:R z y=true:=by simpa using h
  rcases o.neg z x y (u z (P6 lz)) (u x (P6 lx)) uy hz with v|v
  ·rw [WI s o u (by omega) lx lz] at v;cases v
  ·simp [v]
 ·have:=k2 i hi;rw [yN hx] at this;simpa using this
 ·have:=k3 i h1 h2;rw [yN hx] at this;simpa using this
section
variable {σ α β γ:Type}{c:Prop}[Decidable c]{t e:V4 σ Sem α}{Q:α->σ->Prop}{st:σ}{x y:β}{z:γ}
theorem Tm.if2 (T:c->Tm prog w A E J t Q st)(F: ¬c->Tm prog w A E J e Q st):Tm prog w A E J (if c then t else e) Q st:=by
 split
 ·exact T ‹_›
 ·exact F ‹_›
theorem Tm.eq2 {x y:G8}(T:x=y->Tm prog w A E J t Q st)(F: ¬x=y->Tm prog w A E J e Q st):Tm prog w A E J (if (x==y)=true then t else e) Q st:=
 .if2 (λh=>T (eq_of_beq h)) λh=>F λg=>h (beq_iff_eq.mpr g)
theorem Tm.both {f:β->V4 σ Sem α}(he:e=f y)(ht:t=f x)(H: ∀m,Tm prog w A E J (f m) Q st):Tm prog w A E J (if c then t else e) Q st:=by
 subst he ht;exact .if2 (λ_=>H _) λ_=>H _
theorem Tm.join {f:β->γ->V4 σ Sem α}{I:β->γ->Prop}(he:e=f x z)(G: ∀m o,I m o->Tm prog w A E J (f m o) Q st)(T:c->(∀m o,I m o->Tm prog w A E J (f m o) Q st)->Tm prog w A E J t Q st)(F: ¬c->I x z):Tm prog w A E J (if c then t else e) Q st:=by
 subst he;exact .if2 (λh=>T h G) λh=>G _ _ (F h)
end
theorem Az {A B C D F:Type}{P:A×B×C×D×F->Prop}(h: ∀a b c d f,P (a,b,c,d,f)): ∀c,P c:=λc=>h c.1 c.2.1 c.2.2.1 c.2.2.2.1 c.2.2.2.2
theorem AA {A B C D F G:Type}{P:A×B×C×D×F×G->Prop}(h: ∀a b c d f g,P (a,b,c,d,f,g)): ∀c,P c:=λc=>h c.1 c.2.1 c.2.2.1 c.2.2.2.1 c.2.2.2.2.1 c.2.2.2.2.2
theorem AB {A B C D F G H:Type}{P:A×B×C×D×F×G×H->Prop}(h: ∀a b c d f g k,P (a,b,c,d,f,g,k)): ∀c,P c:=λc=>h c.1 c.2.1 c.2.2.1 c.2.2.2.1 c.2.2.2.2.1 c.2.2.2.2.2.1 c.2.2.2.2.2.2
theorem wV {a:N0 D3}(u: ∀x∈a.toList,U x){i:G8}(h:i<a.size){P:Prop}(q: ∀y,a[i]? =some y->a.toList[i]? =some y->U y->P):P:=q a[i] (by simp [h]) (by simp [h]) (u _ (by simp))
structure LoI (R:D3->D3->N4)(a b:N0 D3)(st st':B3)(n:G8)(out:N0 D3)(ia ib:G8):Prop where
 g:Gal st st'
 m:MA R a b ia ib out
 a:ia+1<a.size
 b:ib<b.size
 n:n<=ia+ib
def LoO (R:D3->D3->N4)(a b:N0 D3)(st st':B3)(n:G8)(r:P8 (N0 D3))(out:N0 D3)(ia ib:G8):Prop:=Gal st st'/\match r with|some c=>vK R a b c|none=>LoI R a b st st' n out ia ib
section
variable {a b out:N0 D3}{st st':B3}{n k ia ib:G8}
theorem LoI.more (h:LoI R a b st st' n out ia ib)(l:k<=n):LoI R a b st st' k out ia ib:=⟨h.g,h.m,h.a,h.b,T6 l h.n⟩
theorem LoI.here (h:LoI R a b st st' n out ia ib):LoI R a b st st' (ia+ib) out ia ib:=⟨h.g,h.m,h.a,h.b,P4 _⟩
theorem LoI.at {s:B3}(h:LoI R a b st st' n out ia ib)(g:Gal st s)(l:k<=n):LoI R a b st s k out ia ib:=⟨g,h.m,h.a,h.b,T6 l h.n⟩
theorem LoI.never {P:Prop}(h:LoI R a b st st' n out ia ib)(l:a.size+b.size<=n):P:=absurd (T6 l h.n) (Nat.not_le_of_lt (Nat.add_lt_add (Q7 h.a) h.b))
end
theorem Ab {a b:N0 D3}{st:B3}{Q:N0 D3->B3->Prop}(ak:VF prog w A J κ U R)(kd:kindOf st=κ)(t:Two U R a b)
 (na:1<=a.size)(nb:1<=b.size)(first: ∀y z,b.toList[0]? =some y->a.toList[0]? =some z->R y z=true)
 (q: ∀c st',Gal st st'->vK R a b c->Q c st'):Tm prog w A E J (mLo a b) Q st:=by
 refine .bind (.rule (.bind (wV t.ub nb λb0 eb0 lb0 ub0=> .elem eb0 ?_)));have m0:MA R a b 0 1 #[b0]:=MA.pushB t (out:= #[]) (MI.start _ _) lb0 (λz hz=>first _ z lb0 hz);refine .eq2 (x:=1) (y:=b.size) (λz1=> .pure (q _ _ (Gal.refl st) (MA.done t m0 (N3 _) nb (.inr z1)))) λz1=> .eq2 (x:=0+1) (y:=a.size) (λz2=> .pure (q _ _ (Gal.refl st) (MA.lastA t m0 z2 nb))) λz2=> .bind (.get ?_)
 refine .bind (Tm.mono (Tm.range (λi c st'=>LoI R a b st st' (i+1) c.2.1 c.2.2.1 c.2.2.2.1)
  (Q:=λc st'=> ∃r,c.1=some r/\Gal st st'/\vK R a b r) (N3 _) ⟨Gal.refl st,m0,E5 na z2,E5 nb z1,P4 _⟩ ?_ ?_) ?_)
 ·intro i c st1 hi;revert c;refine Az λr out ia ib mg h=> ?_
  refine .bind (Tm.mono (Tm.range (λj c st'=>LoI R a b st st' (ia+ib+j) c.2.1 c.2.2.1 c.2.2.2.1)
   (Q:=λc st'=>LoO R a b st st' (ia+ib+1) c.1 c.2.1 c.2.2.1 c.2.2.2.1) (N3 _) h.here ?_ ?_) ?_)
  ·intro j c st2 hj;revert c;refine AA λr out ja jb ac bc h=> ?_
   refine .bind (wV t.ub h.b λy ey ly uy=> .elem ey (.bind (wV t.ua (Q7 h.a) λx ex lx ux=> .elem ex (.bind (.lt ak (h.g.1.trans kd) uy ux (.if2 (c:=R y x=true) (λhb=> .bind (.elem ey ?_)) λhb=> .bind (.elem ex ?_)))))))
   ·have m1:=MA.pushB t h.m ly (λz hz=>by rw [lx] at hz;injection hz with hz;rw [<-hz];exact hb);refine .eq2 (x:=jb+1) (y:=b.size) (λc1=> .pure ⟨h.g,MA.done t m1 (R9 (Q7 h.a)) h.b (.inr c1)⟩) λc1=> ?_
    have d:LoI R a b st st2 (ia+ib+(j+1)) (out.push y) ja (jb+1):=⟨h.g,m1,h.a,E5 (dH h.b) c1,bE h.n⟩;exact .if2 (λ_=> .pure ⟨h.g,d.more (bK (aG _ _) _)⟩) λ_=> .pure d
   ·have m1:=MA.pushA t h.m lx (λz hz=>by rw [ly] at hz;injection hz with hz;rw [<-hz];exact Q8.mpr hb);refine .eq2 (x:=ja+1+1) (y:=a.size) (λc1=> .pure ⟨h.g,MA.lastA t m1 c1 (R9 h.b)⟩) λc1=> ?_
    have d:LoI R a b st st2 (ia+ib+(j+1)) (out.push x) (ja+1) jb:=⟨h.g,m1,E5 (dH h.a) c1,h.b,T6 (bE h.n) (V2 (Nat.succ_add _ _).symm)⟩;exact .if2 (λ_=> .pure ⟨h.g,d.more (bK (aG _ _) _)⟩) λ_=> .pure d
  ·exact λc st2 h=>h.never (aG _ _)
  ·intro c st2;revert c;refine AA λr out ja jb ac bc h'=> ?_
   cases r with
   |some r=>exact .pure ⟨r,rfl,h'⟩
   |none=>
   replace h':=h'.2
   refine .bind (.rule (.bind (Tm.mono (Tm.range (λj c st'=>LoI R a b st st' (ja+jb+j) c.2.1 c.2.2.1 c.2.2.2.1)
    (Q:=λc st'=>LoO R a b st st' (ja+jb) c.1 c.2.1 c.2.2.1 c.2.2.2.1) (N3 _) h'.here ?_ ?_) ?_)))
   ·clear h;intro j c st2 hj;revert c;refine AB λr out pa pb mg ac bc h=> ?_
    refine wV t.ub h.b λy ey ly uy=> ?_
    have g2:0<a.size-pa:=nY (Q7 h.a);have g1:pa+(a.size-pa)<=a.size:=V2 (bL (R9 (Q7 h.a)));refine Tm.both (y:=mg) (x:=mg-1) (by rfl) (by rfl) λmg=> ?_
    refine .bind (Tm.modify (.bind (.elem ey (.bind (SV (base:=pa) (n:=a.size-pa) ak (h.g.1.trans kd) t.o t.ua t.sa uy g1 g2 λk k1 k2 k3=> ?_)))));refine Tm.join (I:=λo ia=>MA R a b ia pb o/\ia+1<a.size/\pa<=ia/\ ∀x,a.toList[ia]? =some x->R y x=true) (x:=out) (z:=pa) (by rfl) ?_ ?_ ?_
    ·refine λo qa i1=> ?_
     have M2:=MA.pushB t i1.1 ly i1.2.2.2;have p1:=Q7 i1.2.1;refine .bind (.elem ey (.eq2 (x:=pb+1) (y:=b.size) (λc3=> .pure ⟨h.g,MA.done t M2 (R9 p1) (V2 c3) (.inr c3)⟩) λc3=> ?_));have c8:pb+1<b.size:=E5 (dH h.b) c3;have g2:=nY c8;refine .bind (wV t.ua p1 λx ex lx ux=> .elem ex (.bind (SW (base:=pb+1) (n:=b.size-(pb+1)) ak (h.g.1.trans kd) t.o t.ub t.sb ux (V2 (bL (R9 c8))) g2 λk' q1 q2 q3=> ?_)));dsimp only;generalize ep:pb+1=p2 at M2 q1 q2 q3 c8 g2 ⊢;generalize eo:o.push y=o2 at M2 ⊢;refine Tm.join (I:=λo ib=>MA R a b qa ib o/\ib<b.size/\p2<=ib/\ ∀x',b.toList[ib]? =some x'->R x' x=false) (x:=o2) (z:=p2) (by rfl) ?_ ?_ ?_
     ·refine λo qb i2=> ?_
      have M4:=MA.pushA t i2.1 lx i2.2.2.2;refine .bind (.elem ex (.eq2 (x:=qa+1+1) (y:=a.size) (λc5=> .pure ⟨h.g,MA.lastA t M4 c5 (R9 i2.2.1)⟩) λc5=> ?_));have n1:ja+jb+j<=pa+pb:=h.n;have n2:ja+jb+(j+1)<=qa+1+qb:=by have:=i1.2.2.1;have:=i2.2.2.1;omega
      have d:LoI R a b st st2 (ja+jb+(j+1)) (o.push x) (qa+1) qb:=⟨h.g,M4,E5 (dH i1.2.1) c5,i2.2.1,n2⟩;exact .if2 (λ_=> .pure ⟨h.g,d.at h.g (W7 _ _)⟩) λ_=> .pure (d.at h.g (P4 _))
     ·intro kz' H;have g3:p2+k'<=b.size:=T6 (bK q1 _) (V2 (bL (R9 c8)));have M3:=MA.manyB t M2 k' g3 (λi hi y' hy z hz=>by rw [lx] at hz;injection hz with hz;rw [<-hz];exact q2 i hi y' hy);exact .eq2 (x:=p2+k') (y:=b.size) (λc4=> .pure ⟨h.g,MA.done t M3 (R9 p1) g3 (.inr c4)⟩) λc4=>H _ _ ⟨M3,E5 g3 c4,W7 _ _,λz hz=>q3 k' (P4 _) (by omega) z hz⟩
     ·exact λkz'=>⟨M2,c8,P4 _,λz hz=>q3 0 (i0 kz') g2 z hz⟩
    ·intro kz H;have g3:pa+k<=a.size:=T6 (bK k1 _) g1;have m1:=MA.manyA t h.m k g3 (λi hi x hx z hz=>by rw [ly] at hz;injection hz with hz;rw [<-hz];exact k2 i hi x hx);exact .eq2 (x:=pa+k+1) (y:=a.size) (λc1=> .pure ⟨h.g,MA.lastA t m1 c1 (R9 h.b)⟩) λc1=> .eq2 (x:=pa+k) (y:=a.size) (λc2=> .pure ⟨h.g,MA.done t m1 g3 (R9 h.b) (.inl c2)⟩) λc2=>H _ _ ⟨m1,E5 (E5 g3 c2) c1,W7 _ _,λx hx=>k3 k (P4 _) (by omega) x hx⟩
    ·exact λkz=>⟨h.m,h.a,P4 _,λx hx=>k3 0 (i0 kz) g2 x hx⟩
   ·exact λc st3 h=>h.never (aG _ _)
   ·intro c st3;revert c;refine AB λr out pa pb mg ac bc h3=> ?_
    cases r with
    |some r=>exact .pure ⟨r,rfl,h3⟩
    |none=>exact .bind (Tm.modify (.pure (h3.2.at h3.1 (T6 (bE h.n) h'.n))))
 ·exact λc st1 h=>h.never (W7 _ _)
 ·intro c st1;revert c;refine Az λr out ia ib mg h=> ?_
  obtain⟨c,rfl,gl,wh⟩:=h;exact .pure (q c st1 gl wh)
end
section
variable {prog:S0}{w:N8}{A:T8}{E:G1->G3->Prop}{J:G3->Prop}{κ:SortKind}{U:D3->Prop}{R:D3->D3->N4}
abbrev Flp (R:D3->D3->N4):D3->D3->N4:=λx y=>R y x
theorem Ordd.flip (o:Ordd U R):Ordd U (Flp R):=⟨λx y ux uy h=>o.asym y x uy ux h,λx y z ux uy uz h=>(o.neg z y x uz uy ux h).symm⟩
variable {l:G0 D3}
theorem zE (s:Srt R l):Srt (Flp R) l.reverse:=dM.mpr s
theorem QV (s:Srt (Flp R) l):Srt R l.reverse:=dM.mpr s
variable {n:G8}
theorem Ra (h1:1<=n)(hn:n<=l.length):l.reverse[l.length-n]? =l[n-1]? :=by
 rw [aN (by omega)]
 congr 1;omega
theorem wj {z:D3}(hn:n<=l.length)(h:l.reverse[l.length-n]? =some z):1<=n/\l[n-1]? =some z:=by
 have:=(P9.mp h).1;rw [M6] at this;have n1:1<=n:=by omega
 exact⟨n1,by rw [<-Ra n1 hn];exact h⟩
theorem JB (l:G0 D3){n:G8}(hn:n<=l.length):l.reverse.drop (l.length-n)=(l.take n).reverse:=by
 rw [List.drop_reverse]
 congr 2;omega
def MH (R:D3->D3->N4)(a b:N0 D3)(na nb:G8)(out:N0 D3):Prop:=MI (Flp R) b.toList.reverse a.toList.reverse (b.toList.length-nb) (a.toList.length-na) out.toList
structure TwoH (U:D3->Prop)(R:D3->D3->N4)(a b:N0 D3):Prop where
 o:Ordd U R
 ua: ∀x∈a.toList,U x
 ub: ∀x∈b.toList,U x
 sa:Srt R a.toList
 sb:Srt R b.toList
 first: ∀z∈a.toList,∀y,b.toList[0]? =some y->R y z=true
section
variable {a b out:N0 D3}{na nb:G8}
theorem TwoH.fa (t:TwoH U R a b): ∀x∈a.toList.reverse,U x:=λx hx=>t.ua x (E2.mp hx)
theorem TwoH.fb (t:TwoH U R a b): ∀x∈b.toList.reverse,U x:=λx hx=>t.ub x (E2.mp hx)
theorem MH.start (a b:N0 D3):MH R a b a.toList.length b.toList.length #[]:=by
 unfold MH;rw [n5,n5];exact MI.start _ _
theorem MH.pushA (t:TwoH U R a b){y:D3}(m:MH R a b na nb out)(h1:1<=na)(hn:na<=a.toList.length)(hb:nb<=b.toList.length)(hy:a.toList[na-1]? =some y)(lt: ∀z,1<=nb->b.toList[nb-1]? =some z->R z y=true):MH R a b (na-1) nb (out.push y):=by
 have:=MI.pushB m t.o.flip t.fb t.fa (zE t.sb) (zE t.sa) (by rw [Ra h1 hn];exact hy) (λz hz=>lt z (wj hb hz).1 (wj hb hz).2);unfold MH;rw [aQ,show a.toList.length-(na-1)=a.toList.length-na+1 by omega];exact this
theorem MH.pushB (t:TwoH U R a b){y:D3}(m:MH R a b na nb out)(h1:1<=nb)(hn:nb<=b.toList.length)(ha:na<=a.toList.length)(hy:b.toList[nb-1]? =some y)(ge: ∀z,1<=na->a.toList[na-1]? =some z->R y z=false):MH R a b na (nb-1) (out.push y):=by
 have:=MI.pushA m t.o.flip t.fb t.fa (zE t.sb) (zE t.sa) (by rw [Ra h1 hn];exact hy) (λz hz=>ge z (wj ha hz).1 (wj ha hz).2);unfold MH;rw [aQ,show b.toList.length-(nb-1)=b.toList.length-nb+1 by omega];exact this
theorem JC (a:N0 D3)(n:G8):(a.extract 0 n).toList=a.toList.take n:=by
 rw [Y5,U3,qK,Nat.sub_zero]
theorem MH.done (t:TwoH U R a b)(m:MH R a b na nb out)(ha:na<=a.toList.length)(hb:nb<=b.toList.length)(h:na=0\/nb=0):vK R a b (a.extract 0 na++b.extract 0 nb++out.reverse):=by
 have:=MI.done m t.o.flip t.fb t.fa (zE t.sb) (zE t.sa) (by rw [M6];omega) (by rw [M6];omega) (by rw [M6,M6];omega);rw [JB _ ha,JB _ hb] at this;have e:(a.extract 0 na++b.extract 0 nb++out.reverse).toList=(out.toList++(b.toList.take nb).reverse++(a.toList.take na).reverse).reverse:=by
  rw [C8,C8,JC,JC,dZ];simp [D4]
 unfold vK;rw [e];refine⟨(Q9 _).trans (this.1.trans ?_),QV this.2⟩;exact(oO (Q9 _) (Q9 _)).trans aM
theorem MH.firstB (t:TwoH U R a b)(m:MH R a b na nb out)(ha:na<=a.toList.length)(hb:nb=1)(hb':1<=b.toList.length):vK R a b (b.extract 0 nb++a.extract 0 na++out.reverse):=by
 subst hb;have:=MI.lastA m t.o.flip t.fb t.fa (zE t.sb) (zE t.sa) (by rw [M6];omega) (by rw [M6];omega) (λz hz y hy=>by
  rw [M6] at hy;have:=(wj hb' hy).2;exact t.first z (E2.mp hz) y (by simpa using this))
 rw [JB _ ha,JB _ hb'] at this;have e:(b.extract 0 1++a.extract 0 na++out.reverse).toList=(out.toList++(a.toList.take na).reverse++(b.toList.take 1).reverse).reverse:=by
  rw [C8,C8,JC,JC,dZ];simp [D4]
 unfold vK;rw [e];refine⟨(Q9 _).trans (this.1.trans ?_),QV this.2⟩;exact(oO (Q9 _) (Q9 _)).trans aM
theorem QX (l:G0 D3){p n:G8}(h1:p<=n)(hn:n<=l.length):(l.reverse.drop (l.length-n)).take (n-p)=((l.drop p).take (n-p)).reverse:=by
 rw [JB l hn,List.take_reverse,T4,lN,aH hn,show n-(n-p)=p by omega]
theorem Rb (a:N0 D3){p n:G8}(h:p<=n):(a.extract p n).reverse.toList=((a.toList.drop p).take (n-p)).reverse:=by
 rw [dZ,Y5,U3]
theorem MH.manyA (t:TwoH U R a b)(m:MH R a b na nb out)(p:G8)(hp:p<=na)(hn:na<=a.toList.length)(hb:nb<=b.toList.length)(h: ∀i,p<=i->i<na-> ∀y,a.toList[i]? =some y-> ∀z,1<=nb->b.toList[nb-1]? =some z->R z y=true):MH R a b p nb (out++(a.extract p na).reverse):=by
 have:=MI.manyB t.o.flip t.fb t.fa (zE t.sb) (zE t.sa) (na-p) m (by rw [M6];omega) (λi hi y hy z hz=>by
  rw [aN (by omega)] at hy;exact h _ (by omega) (by omega) y hy z (wj hb hz).1 (wj hb hz).2)
 rw [QX _ hp hn] at this;unfold MH;rw [C8,Rb _ hp,show a.toList.length-p=a.toList.length-na+(na-p) by omega];exact this
theorem MH.manyB (t:TwoH U R a b)(m:MH R a b na nb out)(p:G8)(hp:p<=nb)(hn:nb<=b.toList.length)(ha:na<=a.toList.length)(h: ∀i,p<=i->i<nb-> ∀y,b.toList[i]? =some y-> ∀z,1<=na->a.toList[na-1]? =some z->R y z=false):MH R a b na p (out++(b.extract p nb).reverse):=by
 have:=MI.manyA t.o.flip t.fb t.fa (zE t.sb) (zE t.sa) (nb-p) m (by rw [M6];omega) (λi hi y hy z hz=>by
  rw [aN (by omega)] at hy;exact h _ (by omega) (by omega) y hy z (wj ha hz).1 (wj ha hz).2)
 rw [QX _ hp hn] at this;unfold MH;rw [C8,Rb _ hp,show b.toList.length-p=b.toList.length-nb+(nb-p) by omega];exact this
end
def mHi:N0 D3->N0 D3->V4 B3 Sem (N0 D3):=sortPriv% PySem.Builtin.mergeHi
section
variable {arr:N0 D3}{y:D3}{n hint:G8}{st:B3}{Q:P8 G8->B3->Prop}
theorem EZ (ak:VF prog w A J κ U R)(kd:kindOf st=κ)(o:Ordd U R)(u: ∀x∈arr.toList,U x)(s:Srt R arr.toList)(uy:U y)(hn:n<=arr.size)(hh:hint<n)
 (q: ∀k,k<=n->(∀i,i<k-> ∀x,arr.toList[i]? =some x->R y x=false)->(∀i,k<=i->i<n-> ∀x,arr.toList[i]? =some x->R y x=true)->Q (some k) st):Tm prog w A E J (gal false y arr 0 n hint) Q st:=
 SV ak kd o u s uy (by rw [aB];exact hn) hh λk h k2 k3=>q k h (λi hi x hx=>k2 i hi x (by rw [aB];exact hx)) λi hi hj x hx=>k3 i hi hj x (by rw [aB];exact hx)
theorem Sa (ak:VF prog w A J κ U R)(kd:kindOf st=κ)(o:Ordd U R)(u: ∀x∈arr.toList,U x)(s:Srt R arr.toList)(uy:U y)(hn:n<=arr.size)(hh:hint<n)
 (q: ∀k,k<=n->(∀i,i<k-> ∀x,arr.toList[i]? =some x->R x y=true)->(∀i,k<=i->i<n-> ∀x,arr.toList[i]? =some x->R x y=false)->Q (some k) st):Tm prog w A E J (gal true y arr 0 n hint) Q st:=
 SW ak kd o u s uy (by rw [aB];exact hn) hh λk h k2 k3=>q k h (λi hi x hx=>k2 i hi x (by rw [aB];exact hx)) λi hi hj x hx=>k3 i hi hj x (by rw [aB];exact hx)
end
structure HiI (R:D3->D3->N4)(a b:N0 D3)(st st':B3)(n N na nb:G8)(out:N0 D3):Prop where
 g:Gal st st'
 m:MH R a b na nb out
 a':na<=a.size
 b':nb<=b.size
 a:1<=na
 b:2<=nb
 n:n+na+nb<=N
def HiO (R:D3->D3->N4)(a b:N0 D3)(st st':B3)(n N:G8)(r:P8 (N0 D3))(na nb:G8)(out:N0 D3):Prop:=Gal st st'/\match r with|some c=>vK R a b c|none=>HiI R a b st st' n N na nb out
section
variable {a b out:N0 D3}{st st' s:B3}{n N k M na nb:G8}
theorem HiI.at (h:HiI R a b st st' n N na nb out)(g:Gal st s)(l:n+na+nb<=N->k+na+nb<=M):HiI R a b st s k M na nb out:=⟨g,h.m,h.a',h.b',h.a,h.b,l h.n⟩
theorem HiI.here (h:HiI R a b st st' n N na nb out):HiI R a b st st' 0 (na+nb) na nb out:=h.at h.g λ_=>by omega
theorem HiI.never {P:Prop}(h:HiI R a b st st' n N na nb out)(l:N<=n):P:=by have:=h.n;have:=h.a;omega
theorem HiI.le (h:HiI R a b st st' n N na nb out):na+nb<=a.size+b.size:=Nat.add_le_add h.a' h.b'
theorem HiI.a1 (h:HiI R a b st st' n N na nb out):na-1<a.size:=S7 (cK h.a aW) h.a'
theorem HiI.b1 (h:HiI R a b st st' n N na nb out):nb-1<b.size:=S7 (cK (Q7 h.b) aW) h.b'
end
theorem NH (h:2<=n)(c: ¬n-1=1):2<=n-1:=by omega
theorem Rc (c: ¬n-1=0):1<=n-1:=aC c
theorem Ac {a b:N0 D3}{st:B3}{Q:N0 D3->B3->Prop}(ak:VF prog w A J κ U R)(kd:kindOf st=κ)(t:TwoH U R a b)
 (na:1<=a.size)(nb:1<=b.size)(last: ∀y z,b.toList[b.size-1]? =some y->a.toList[a.size-1]? =some z->R y z=true)
 (q: ∀c st',Gal st st'->vK R a b c->Q c st'):Tm prog w A E J (mHi a b) Q st:=by
 refine .bind (.rule (.bind (wV t.ua (cK na aW) λa0 ea0 la0 ua0=> .elem ea0 ?_)));have m0:MH R a b (a.size-1) b.size #[a0]:=MH.pushA t (MH.start (R:=R) a b) na (P4 _) (P4 _) la0 (λz _ hz=>last z a0 hz la0);have n1:a.size-1<=a.size:=tV _ _;refine .eq2 (x:=a.size-1) (y:=0) (λz1=> .pure (q _ _ (Gal.refl st) (MH.done t m0 n1 (P4 _) (.inl z1)))) λz1=> .eq2 (x:=b.size) (y:=1) (λz2=> .pure (q _ _ (Gal.refl st) (MH.firstB t m0 n1 z2 nb))) λz2=> .bind (.get ?_)
 refine .bind (Tm.mono (Tm.range (λi c st'=>HiI R a b st st' (i+1) (a.size+b.size) c.2.1 c.2.2.1 c.2.2.2.1)
  (Q:=λc st'=> ∃r,c.1=some r/\Gal st st'/\vK R a b r) (N3 _) ⟨Gal.refl st,m0,n1,P4 _,Rc z1,by dsimp only;omega,by dsimp only;omega⟩ ?_ ?_) ?_)
 ·intro i c st1 hi;revert c;refine Az λr ia ib out mg h=> ?_
  refine .bind (Tm.mono (Tm.range (λj c st'=>HiI R a b st st' j (ia+ib) c.2.1 c.2.2.1 c.2.2.2.1)
   (Q:=λc st'=>HiO R a b st st' 1 (ia+ib) c.1 c.2.1 c.2.2.1 c.2.2.2.1) (N3 _) h.here ?_ ?_) ?_)
  ·intro j c st2 hj;revert c;refine AA λr ja jb out ac bc h=> ?_
   refine .bind (wV t.ub h.b1 λy ey ly uy=> .elem ey (.bind (wV t.ua h.a1 λx ex lx ux=> .elem ex (.bind (.lt ak (h.g.1.trans kd) uy ux (.if2 (c:=R y x=true) (λhb=> .bind (.elem ex ?_)) λhb=> .bind (.elem ey ?_)))))))
   ·have m1:=MH.pushA t h.m h.a h.a' h.b' lx (λz _ hz=>by rw [ly] at hz;injection hz with hz;rw [<-hz];exact hb);refine .eq2 (x:=ja-1) (y:=0) (λc1=> .pure ⟨h.g,MH.done t m1 (R9 h.a1) h.b' (.inl c1)⟩) λc1=> ?_
    have d:HiI R a b st st2 (j+1) (ia+ib) (ja-1) jb (out.push x):=⟨h.g,m1,R9 h.a1,h.b',Rc c1,h.b,by have:j+ja+jb<=ia+ib:=h.n;have:1<=ja:=h.a;have:2<=jb:=h.b;omega⟩;exact .if2 (λ_=> .pure ⟨h.g,d.at h.g λ_=>by omega⟩) λ_=> .pure d
   ·have m1:=MH.pushB t h.m (R9 h.b) h.b' h.a' ly (λz _ hz=>by rw [lx] at hz;injection hz with hz;rw [<-hz];exact Q8.mpr hb);refine .eq2 (x:=jb-1) (y:=1) (λc1=> .pure ⟨h.g,MH.firstB t m1 h.a' c1 nb⟩) λc1=> ?_
    have d:HiI R a b st st2 (j+1) (ia+ib) ja (jb-1) (out.push y):=⟨h.g,m1,h.a',R9 h.b1,h.a,NH h.b c1,by have:j+ja+jb<=ia+ib:=h.n;have:1<=ja:=h.a;have:2<=jb:=h.b;omega⟩;exact .if2 (λ_=> .pure ⟨h.g,d.at h.g λ_=>by omega⟩) λ_=> .pure d
  ·exact λc st2 h'=>h'.never h.le
  ·intro c st2;revert c;refine AA λr ja jb out ac bc h'=> ?_
   cases r with
   |some r=>exact .pure ⟨r,rfl,h'⟩
   |none=>
   replace h':=h'.2
   refine .bind (.rule (.bind (Tm.mono (Tm.range (λj c st'=>HiI R a b st st' j (ja+jb) c.2.1 c.2.2.1 c.2.2.2.1)
    (Q:=λc st'=>HiO R a b st st' 0 (ja+jb) c.1 c.2.1 c.2.2.1 c.2.2.2.1) (N3 _) h'.here ?_ ?_) ?_)))
   ·clear h;intro j c st2 hj;revert c;refine AB λr pa pb out mg ac bc h=> ?_
    refine wV t.ub h.b1 λy ey ly uy=> ?_
    refine Tm.both (y:=mg) (x:=mg-1) (by rfl) (by rfl) λmg=> ?_
    refine .bind (Tm.modify (.bind (.elem ey (.bind (EZ (n:=pa) ak (h.g.1.trans kd) t.o t.ua t.sa uy h.a' (cK h.a aW) λk k1 k2 k3=> ?_)))));dsimp only;generalize eac:pa-k=ac;refine Tm.join (I:=λna o=>MH R a b na pb o/\1<=na/\na<=pa/\ ∀z,a.toList[na-1]? =some z->R y z=false) (x:=pa) (z:=out) (by rfl) ?_ ?_ ?_
    ·refine λqa o i1=> ?_
     have la:=T6 i1.2.2.1 h.a';have M2:=MH.pushB t i1.1 (R9 h.b) h.b' la ly (λz _ hz=>i1.2.2.2 z hz);refine .bind (.elem ey (.eq2 (x:=pb-1) (y:=1) (λc3=> .pure ⟨h.g,MH.firstB t M2 la c3 nb⟩) λc3=> ?_));have c8:=NH h.b c3;have lb:=R9 h.b1;have n1:j+pa+pb<=ja+jb:=h.n;have n2:pb=pb-1+1:=(Nat.sub_add_cancel (R9 h.b)).symm;refine .bind (wV t.ua (S7 (cK i1.2.1 aW) la) λx ex lx ux=> .elem ex (.bind (Sa (n:=pb-1) ak (h.g.1.trans kd) t.o t.ub t.sb ux lb (cK (Q7 c8) aW) λk' q1 q2 q3=> ?_)));dsimp only;dsimp only at c8 lb;generalize ep:pb-1=p2 at M2 q1 q2 q3 c8 lb n2 ⊢;generalize eo:o.push y=o2 at M2 ⊢;generalize ebc:p2-k'=bc;refine Tm.join (I:=λnb o=>MH R a b qa nb o/\2<=nb/\nb<=p2/\ ∀z,b.toList[nb-1]? =some z->R z x=true) (x:=p2) (z:=o2) (by rfl) ?_ ?_ ?_
     ·refine λqb o i2=> ?_
      have lb':=T6 i2.2.2.1 lb;have M4:=MH.pushA t i2.1 i1.2.1 la lb' lx (λz _ hz=>i2.2.2.2 z hz);have la':=T6 (tV qa 1) la;refine .bind (.elem ex (.eq2 (x:=qa-1) (y:=0) (λc5=> .pure ⟨h.g,MH.done t M4 la' lb' (.inl c5)⟩) λc5=> ?_));have n3:j+1+(qa-1)+qb<=ja+jb:=by have:=i1.2.1;have:=i1.2.2.1;have:=i2.2.2.1;omega
      have d:HiI R a b st st2 (j+1) (ja+jb) (qa-1) qb (o.push x):=⟨h.g,M4,la',lb',Rc c5,i2.2.1,n3⟩;exact .if2 (λ_=> .pure ⟨h.g,d.at h.g λ_=>by omega⟩) λ_=> .pure (d.at h.g id)
     ·intro kz' H;have M3:=MH.manyB t M2 k' q1 lb la (λi hi1 hi2 y' hy z hz1 hz=>by rw [lx] at hz;injection hz with hz;rw [<-hz];exact q3 i hi1 hi2 y' hy);exact .eq2 (x:=k') (y:=1) (λc4=> .pure ⟨h.g,MH.firstB t M3 la c4 nb⟩) λc4=> .eq2 (x:=k') (y:=0) (λc7=> .pure ⟨h.g,MH.done t M3 la (T6 q1 lb) (.inr c7)⟩) λc7=>H _ _ ⟨M3,by omega,q1,λz hz=>q2 (k'-1) (cK (aC c7) aW) z hz⟩
     ·exact λkz'=>⟨M2,c8,P4 _,λz hz=>q2 (p2-1) (by omega) z hz⟩
    ·intro kz H;have m1:=MH.manyA t h.m k k1 h.a' h.b' (λi hi1 hi2 x hx z hz1 hz=>by rw [ly] at hz;injection hz with hz;rw [<-hz];exact k3 i hi1 hi2 x hx);exact .eq2 (x:=k) (y:=0) (λc1=> .pure ⟨h.g,MH.done t m1 (T6 k1 h.a') h.b' (.inl c1)⟩) λc1=>H _ _ ⟨m1,aC c1,k1,λz hz=>k2 (k-1) (cK (aC c1) aW) z hz⟩
    ·exact λkz=>⟨h.m,h.a,P4 _,λz hz=>k2 (pa-1) (by have:1<=pa:=h.a;omega) z hz⟩
   ·exact λc st3 h=>h.never h'.le
   ·intro c st3;revert c;refine AB λr pa pb out mg ac bc h3=> ?_
    cases r with
    |some r=>exact .pure ⟨r,rfl,h3⟩
    |none=>exact .bind (Tm.modify (.pure (h3.2.at h3.1 λl=>by have n1:i+1+ia+ib<=a.size+b.size:=h.n;have n2:1+ja+jb<=ia+ib:=h'.n;dsimp only at l ⊢;omega)))
 ·exact λc st1 h=>h.never (W7 _ _)
 ·intro c st1;revert c;refine Az λr ia ib out mg h=> ?_
  obtain⟨c,rfl,gl,wh⟩:=h;exact .pure (q c st1 gl wh)
end
section
variable {prog:S0}{w:N8}{A:T8}{E:G1->G3->Prop}{J:G3->Prop}{κ:SortKind}{U:D3->Prop}{R:D3->D3->N4}
def seg (l:G0 D3)(p n:G8):G0 D3:=(l.drop p).take n
variable {n:G8}
theorem YX {l:G0 D3}{p i:G8}(hi:i<n):(seg l p n)[i]? =l[p+i]? :=by
 unfold seg;rw [U9 hi,cL]
theorem WK {l:G0 D3}{p:G8}(h:p+n<=l.length):(seg l p n).length=n:=by
 unfold seg;rw [T4,C3];omega
theorem XU {l:G0 D3}{p:G8}{x:D3}(h:x∈seg l p n):x∈l:=C4 (L9 h)
theorem SX {left:N4}{arr:N0 D3}{y:D3}{base hint:G8}{st:B3}{Q:P8 G8->B3->Prop}(ak:VF prog w A J κ U R)(kd:kindOf st=κ)(o:Ordd U R)(u: ∀x∈arr.toList,U x)(s:Srt R (seg arr.toList base n))(uy:U y)(hn:base+n<=arr.size)(hh:hint<n)
 (q: ∀k,k<=n->(∀x∈(seg arr.toList base n).take k,(if left=true then R x y else !R y x)=true)->(∀x∈(seg arr.toList base n).drop k,(if left=true then R x y else !R y x)=false)->Q (some k) st):Tm prog w A E J (gal left y arr base n hint) Q st:=by
 have ln:arr.toList.length=arr.size:=by simp
 have sl:(seg arr.toList base n).length=n:=WK (by omega);have us: ∀x∈seg arr.toList base n,U x:=λx hx=>u x (XU hx)
 refine DZ ak kd uy (λi hi=> ?_) (λi j hij hj h=> ?_) hh (λk k1 k2 k3=>q k k1 (λx hx=> ?_) (λx hx=> ?_))
 ·obtain⟨x,lx,ex⟩:=WJ (show base+i<arr.size by omega);exact⟨x,ex,u x (P6 lx)⟩
 ·obtain⟨x,lx,_⟩:=WJ (show base+i<arr.size by omega);obtain⟨z,lz,_⟩:=WJ (show base+j<arr.size by omega);have ux:=u x (P6 lx);have uz:=u z (P6 lz);have le:=WI s o us hij (by rw [YX (by omega)];exact lx) (by rw [YX hj];exact lz);rw [yN lz] at h;rw [yN lx];cases left with
  |true=>
   have hz:R z y=true:=by simpa using h
   rcases o.neg z x y uz ux uy hz with v|v
   ·rw [le] at v;cases v
   ·simp [v]
  |false=>
   have hz:R y z=false:=by simpa using h
   have:=o.trans ux uz uy le hz;simp [this]
 ·obtain⟨i,hi,e⟩:=K4 hx;rw [T4,sl] at hi;have lx:arr.toList[base+i]? =some x:=by
   rw [<-YX (n:=n) (by omega),G5 (by omega),<-e,n8]
  have:=k2 i (by omega);rw [yN lx] at this;exact this
 ·obtain⟨i,hi,e⟩:=K4 hx;rw [C3,sl] at hi;have lx:arr.toList[base+(k+i)]? =some x:=by
   rw [<-YX (n:=n) (by omega),G5 (by omega),<-e,n9]
  have:=k3 (k+i) (by omega) (by omega);rw [yN lx] at this;exact this
theorem QY: ∀ (m:G0 D3) (arr:N0 D3) (p d:G8),p+d+m.length<=arr.size->((m.zipIdx d).foldl (λ(c:N0 D3) (x:D3×G8)=>c.setIfInBounds (p+x.2) x.1) arr).toList=arr.toList.take (p+d)++m++arr.toList.drop (p+d+m.length)
 | [],arr,p,d,_=>by simp
 |x::m,arr,p,d,h=>by
  rw [R1] at h;rw [List.zipIdx_cons,o7];rw [QY m _ p (d+1) (by rw [iR];omega)];have hl:arr.toList.length=arr.size:=by simp
  rw [gP];have e1:(arr.toList.set (p+d) x).take (p+(d+1))=arr.toList.take (p+d)++ [x]:=by
   rw [show p+(d+1)=p+d+1 by omega,F9,W5 (by omega)];rw [List.take_set_of_le (P4 _)];rfl
  have e2:(arr.toList.set (p+d) x).drop (p+(d+1)+m.length)=arr.toList.drop (p+d+(m.length+1)):=by
   rw [List.drop_set_of_lt (by omega),show p+(d+1)+m.length=p+d+(m.length+1) by omega]
  rw [e1,e2,R1];simp [D4]
end
section
variable {prog:S0}{w:N8}{A:T8}{E:G1->G3->Prop}{J:G3->Prop}{κ:SortKind}{U:D3->Prop}{R:D3->D3->N4}
theorem Tm.set {σ:Type}{st st':σ}{Q:PUnit->σ->Prop}(q:Q ⟨⟩ st'):Tm prog w A E J (MonadStateOf.set st':V4 σ Sem PUnit) Q st:=λs j=>by
 show R4 _ _ ((StateT.set st':V4 σ Sem PUnit).run st) _ _ _;exact P5 ⟨q,j⟩
theorem Re (a:N0 D3){p n:G8}(h:p<=n):(a.extract p n).toList=seg a.toList p (n-p):=by
 rw [Y5,U3];rfl
theorem Rf (o:Ordd U R){l:G0 D3}(u: ∀x∈l,U x)(s:Srt R l){z:D3}(hz:l[l.length-1]? =some z){x:D3}(hx:x∈l):R z x=false:=by
 obtain⟨i,hi,e⟩:=K4 hx;exact WI s o u (show i<=l.length-1 by omega) (by rw [G5 hi,e]) hz
theorem QZ (o:Ordd U R){l:G0 D3}(u: ∀x∈l,U x)(s:Srt R l){z:D3}(hz:l[0]? =some z){x:D3}(hx:x∈l):R x z=false:=by
 obtain⟨i,hi,e⟩:=K4 hx;exact WI s o u (N3 _) hz (by rw [G5 hi,e])
theorem WL (o:Ordd U R){X Y c:G0 D3}{k k2:G8}{y0 x9:D3}(uX: ∀x∈X,U x)(uY: ∀x∈Y,U x)(sX:Srt R X)(sY:Srt R Y)(hy:Y[0]? =some y0)(hx:X[X.length-1]? =some x9)
 (f1: ∀x∈X.take k,R y0 x=false)(g2: ∀y∈Y.drop k2,R y x9=false)(hp:c.Perm (X.drop k++Y.take k2))(sc:Srt R c):(X.take k++c++Y.drop k2).Perm (X++Y)/\Srt R (X.take k++c++Y.drop k2):=by
 have uy0:=uY y0 (P6 hy);have ux9:=uX x9 (P6 hx);constructor
 ·have e:X++Y=X.take k++(X.drop k++Y.take k2)++Y.drop k2:=by
   rw [<-D4,M5,D4,M5]
  rw [e];exact(hp.append_left _).append_right _
 ·have inX: ∀x∈X.take k,∀z∈X.drop k,R z x=false:=λx hx z hz=>by
   have:Srt R (X.take k++X.drop k):=by rw [M5];exact sX
   exact(N7.mp this).2.2 x hx z hz
  have inY: ∀x∈Y.take k2,∀z∈Y.drop k2,R z x=false:=λx hx z hz=>by
   have:Srt R (Y.take k2++Y.drop k2):=by rw [M5];exact sY
   exact(N7.mp this).2.2 x hx z hz
  have xy: ∀x∈X.take k,∀y∈Y,R y x=false:=λx hx y hy'=>o.trans (uX x (L9 hx)) uy0 (uY y hy') (f1 x hx) (QZ o uY sY hy hy')
  have yx: ∀x∈X,∀y∈Y.drop k2,R y x=false:=λx hx' y hy'=>o.trans (uX x hx') ux9 (uY y (C4 hy')) (Rf o uX sX hx hx') (g2 y hy')
  have xc: ∀x∈X.take k,∀z∈c,R z x=false:=λx hx z hz=>by
   rcases D5.mp (hp.mem_iff.mp hz) with v|v
   ·exact inX x hx z v
   ·exact xy x hx z (L9 v)
  refine N7.mpr ⟨N7.mpr ⟨sX.sublist (X8 _ _),sc,xc⟩,sY.sublist (Q6 _ _),λx hx y hy=> ?_⟩;rcases D5.mp hx with v|v
  ·exact xy x v y (C4 hy)
  ·rcases D5.mp (hp.mem_iff.mp v) with v|v
   ·exact yx x (C4 v) y hy
   ·exact inY x v y hy
theorem UO (l:G0 D3){p n m:G8}:l=l.take p++(seg l p n++seg l (p+n) m)++l.drop (p+n+m):=by
 unfold seg;have e1:(l.drop (p+n)).take m++l.drop (p+n+m)=l.drop (p+n):=by
  rw [show l.drop (p+n+m)=(l.drop (p+n)).drop m by rw [X2],M5]
 have e2:(l.drop p).take n++l.drop (p+n)=l.drop p:=by
  rw [show l.drop (p+n)=(l.drop p).drop n by rw [X2],M5]
 rw [D4,D4,e1,e2,M5]
theorem Ad {st:B3}{Q:N4->B3->Prop}{i sa na pw sb nb pw2:G8}(ak:VF prog w A J κ U R)(kd:kindOf st=κ)(o:Ordd U R)(u: ∀x∈(S5 st).toList,U x)(p1:(B0 st)[i]? =some (sa,na,pw))(p2:(B0 st)[i+1]? =some (sb,nb,pw2))
 (hs:sa+na=sb)(n1:1<=na)(n2:1<=nb)(hz:sb+nb<=(S5 st).size)(s1:Srt R (seg (S5 st).toList sa na))(s2:Srt R (seg (S5 st).toList sb nb))(hf:Y4 st=none)
 (q: ∀st' Z,kindOf st'=κ->Y4 st'=none->B0 st'=((B0 st).setIfInBounds i (sa,na+nb,pw)).eraseIdxIfInBounds (i+1)->(S5 st').toList=(S5 st).toList.take sa++Z++(S5 st).toList.drop (sb+nb)->Z.Perm (seg (S5 st).toList sa na++seg (S5 st).toList sb nb)->Srt R Z->Q true st'):
 Tm prog w A E J (sP i) Q st:=by
 have ln:(S5 st).toList.length=(S5 st).size:=by simp
 unfold sP;refine .bind (.get ?_);dsimp only;rw [p1,p2];dsimp only;refine .bind (Tm.set ?_);subst hs;have lX:(seg (S5 st).toList sa na).length=na:=WK (by omega);have lY:(seg (S5 st).toList (sa+na) nb).length=nb:=WK (by omega);have uX: ∀x∈seg (S5 st).toList sa na,U x:=λx hx=>u x (XU hx)
 have uY: ∀x∈seg (S5 st).toList (sa+na) nb,U x:=λx hx=>u x (XU hx)
 obtain⟨y0,ly0,ey0⟩:=WJ (arr:=S5 st) (show sa+na<(S5 st).size by omega);obtain⟨x9,lx9,ex9⟩:=WJ (arr:=S5 st) (show sa+(na-1)<(S5 st).size by omega);have hy:(seg (S5 st).toList (sa+na) nb)[0]? =some y0:=by rw [YX (by omega)];exact ly0
 have hx:(seg (S5 st).toList sa na)[(seg (S5 st).toList sa na).length-1]? =some x9:=by rw [lX,YX (by omega)];exact lx9
 have uy0:=u y0 (P6 ly0);have ux9:=u x9 (P6 lx9);have c3:=UO (S5 st).toList (p:=sa) (n:=na) (m:=nb);have same: ∀ (st':B3),S5 st'=S5 st-> ∀k k2,(∀x∈(seg (S5 st).toList sa na).take k,R y0 x=false)->(∀y∈(seg (S5 st).toList (sa+na) nb).drop k2,R y x9=false)->(na<=k\/k2=0)->Srt R (seg (S5 st).toList sa na++seg (S5 st).toList (sa+na) nb):=λst' e k k2 f1 g2 h=>by
  have pl:(((seg (S5 st).toList sa na).drop k++(seg (S5 st).toList (sa+na) nb).take k2)).Perm ((seg (S5 st).toList sa na).drop k++(seg (S5 st).toList (sa+na) nb).take k2):= .refl _;have sc:Srt R ((seg (S5 st).toList sa na).drop k++(seg (S5 st).toList (sa+na) nb).take k2):=by
   rcases h with h|h
   ·rw [A3 (by omega),C9];exact s2.sublist (X8 _ _)
   ·rw [h,gO,J6];exact s1.sublist (Q6 _ _)
  have:=(WL o uX uY s1 s2 hy hx f1 g2 pl sc).2;rw [<-D4,M5,D4,M5] at this;exact this
 refine .bind (.elem ey0 (.bind (SX (left:=false) ak kd o u s1 uy0 (show sa+na<=(S5 st).size by omega) (by omega) λk k1 f1 f2=> ?_)));have f1: ∀x∈(seg (S5 st).toList sa na).take k,R y0 x=false:=λx hx=>by simpa using f1 x hx
 have f2: ∀x∈(seg (S5 st).toList sa na).drop k,R y0 x=true:=λx hx=>by simpa using f2 x hx
 dsimp only
 by_cases z1:na-k=0
 ·rw [S2 (by simpa using z1)];refine .pure (q _ (seg (S5 st).toList sa na++seg (S5 st).toList (sa+na) nb) kd hf rfl c3 (.refl _) (same st rfl k nb f1 (λy hy=> ?_) (.inl (by omega))));rw [A3 (by omega)] at hy;cases hy
 rw [S3 (by simpa using z1)];refine .bind (.elem (show _=some x9 by rw [show sa+k+(na-k)-1=sa+(na-1) by omega];exact ex9) (.bind (SX (left:=true) ak kd o u s2 ux9 (show sa+na+nb<=(S5 st).size by omega) (by omega) λk2 j1 g1 g2=> ?_)));have g1: ∀y∈(seg (S5 st).toList (sa+na) nb).take k2,R y x9=true:=λx hx=>by simpa using g1 x hx
 have g2: ∀y∈(seg (S5 st).toList (sa+na) nb).drop k2,R y x9=false:=λx hx=>by simpa using g2 x hx
 dsimp only
 by_cases z2:k2=0
 ·rw [S2 (by simpa using z2)];exact .pure (q _ _ kd hf rfl c3 (.refl _) (same st rfl k k2 f1 g2 (.inr z2)))
 rw [S3 (by simpa using z2)];have eX:((S5 st).extract (sa+k) (sa+na)).toList=(seg (S5 st).toList sa na).drop k:=by
  rw [Re _ (by omega)];unfold seg;rw [lN,X2,show sa+na-(sa+k)=na-k by omega]
 have eY:((S5 st).extract (sa+na) (sa+na+k2)).toList=(seg (S5 st).toList (sa+na) nb).take k2:=by
  rw [Re _ (by omega)];unfold seg;rw [lO,show sa+na+k2-(sa+na)=min k2 nb by omega]
 have sx:((S5 st).extract (sa+k) (sa+na)).size=na-k:=by rw [<-C7,eX,C3,lX]
 have sy:((S5 st).extract (sa+na) (sa+na+k2)).size=k2:=by rw [<-C7,eY,T4,lY];omega
 have hx2: ∀z,((seg (S5 st).toList sa na).drop k)[((seg (S5 st).toList sa na).drop k).length-1]? =some z->z=x9:=λz hz'=>by
  rw [C3,cL,lX,show k+(na-k-1)=na-1 by omega] at hz';rw [lX] at hx;rw [hx] at hz';injection hz' with hz';exact hz'.symm
 have hy2: ∀z,((seg (S5 st).toList (sa+na) nb).take k2)[0]? =some z->z=y0:=λz hz'=>by
  rw [U9 (by omega),hy] at hz';injection hz' with hz';exact hz'.symm
 have put: ∀c:N0 D3,vK R ((S5 st).extract (sa+k) (sa+na)) ((S5 st).extract (sa+na) (sa+na+k2)) c->(c.toList.zipIdx.foldl (λ(d:N0 D3) (x:D3×G8)=>d.setIfInBounds (sa+k+x.2) x.1) (S5 st)).toList=(S5 st).toList.take sa++((seg (S5 st).toList sa na).take k++c.toList++(seg (S5 st).toList (sa+na) nb).drop k2)++(S5 st).toList.drop (sa+na+nb):=λc wh=>by
  have lc:c.toList.length=na-k+k2:=by
   rw [wh.1.length_eq,P7,C7,C7,sx,sy]
  have:=QY c.toList (S5 st) (sa+k) 0 (by omega);rw [this,lc,kJ,show sa+k+(na-k+k2)=sa+na+k2 by omega];have e1:(S5 st).toList.take (sa+k)=(S5 st).toList.take sa++(seg (S5 st).toList sa na).take k:=by
   unfold seg;rw [lO,aH k1,List.take_add]
  have e2:(S5 st).toList.drop (sa+na+k2)=(seg (S5 st).toList (sa+na) nb).drop k2++(S5 st).toList.drop (sa+na+nb):=by
   unfold seg;have h1:((S5 st).toList.drop (sa+na)).drop k2=(((S5 st).toList.drop (sa+na)).take nb++((S5 st).toList.drop (sa+na)).drop nb).drop k2:=by rw [M5]
   rw [V5 (by rw [T4,C3];omega),X2,X2] at h1;exact h1
  rw [e1,e2];simp [D4]
 have jr: ∀c:N0 D3,vK R ((S5 st).extract (sa+k) (sa+na)) ((S5 st).extract (sa+na) (sa+na+k2)) c->_:=λc wh=>WL o (c:=c.toList) uX uY s1 s2 hy hx f1 g2 (by have:=wh.1;rw [eX,eY] at this;exact this) wh.2
 by_cases z3:na-k<=k2
 ·rw [S2 z3];refine .bind (Ab ak kd ⟨o,λx hx=> ?_,λx hx=> ?_,?_,?_,λy hy z hz'=> ?_⟩ (by rw [sx];omega) (by rw [sy];omega) (λy z hy' hz'=> ?_) λc st' gl wh=> .bind (Tm.modify (.bind (.get (.pure ?_)))))
  ·rw [eX] at hx;exact uX x (C4 hx)
  ·rw [eY] at hx;exact uY x (L9 hx)
  ·rw [eX];exact s1.sublist (Q6 _ _)
  ·rw [eY];exact s2.sublist (X8 _ _)
  ·rw [eY] at hy;rw [eX] at hz';rw [hx2 z hz'];exact g1 y hy
  ·rw [eY] at hy';rw [eX] at hz';rw [hy2 y hy'];exact f2 z (P6 hz')
  ·have e:Y4 st'=none:=gl.2.2.2.trans hf;show Q (Y4 st').isNone _;rw [e];refine q _ _ (gl.1.trans kd) e gl.2.2.1 ?_ (jr c wh).1 (jr c wh).2;have ea:S5 st'=S5 st:=gl.2.1;show (c.toList.zipIdx.foldl _ (S5 st')).toList=_;rw [ea];exact put c wh
 ·rw [S3 z3];refine .bind (Ac ak kd ⟨o,λx hx=> ?_,λx hx=> ?_,?_,?_,λz hz' y hy'=> ?_⟩ (by rw [sx];omega) (by rw [sy];omega) (λy z hy' hz'=> ?_) λc st' gl wh=> .bind (Tm.modify (.bind (.get (.pure ?_)))))
  ·rw [eX] at hx;exact uX x (C4 hx)
  ·rw [eY] at hx;exact uY x (L9 hx)
  ·rw [eX];exact s1.sublist (Q6 _ _)
  ·rw [eY];exact s2.sublist (X8 _ _)
  ·rw [eY] at hy';rw [eX] at hz';rw [hy2 y hy'];exact f2 z hz'
  ·rw [eY] at hy';rw [eX,sx] at hz';have:=hx2 z (by rw [C3,lX];exact hz');rw [this];exact g1 y (P6 hy')
  ·have e:Y4 st'=none:=gl.2.2.2.trans hf;show Q (Y4 st').isNone _;rw [e];refine q _ _ (gl.1.trans kd) e gl.2.2.1 ?_ (jr c wh).1 (jr c wh).2;have ea:S5 st'=S5 st:=gl.2.1;show (c.toList.zipIdx.foldl _ (S5 st')).toList=_;rw [ea];exact put c wh
end
section
variable {prog:S0}{w:N8}{A:T8}{E:G1->G3->Prop}{J:G3->Prop}{κ:SortKind}{U:D3->Prop}{R:D3->D3->N4}
def Lies (st:B3)(P Z S:G0 D3):Prop:=(S5 st).toList=P++Z++S
def Arr (st st':B3):Prop:=kindOf st'=kindOf st/\B0 st'=B0 st/\Y4 st'=Y4 st/\gallopOf st'=gallopOf st
theorem Arr.refl (st:B3):Arr st st:=⟨rfl,rfl,rfl,rfl⟩
theorem MO (xs:N0 D3)(P Z S:G0 D3)(h:xs.toList=P++Z++S):(mirror xs P.length (P.length+Z.length) ((P.length+Z.length-P.length) / 2)).toList=P++Z.reverse++S:=by
 have hl:xs.size=P.length+Z.length+S.length:=by rw [<-C7,h];simp [dU]
 refine oA λk=> ?_
 rw [A9,getElem?_mirror_all (by omega)]
 by_cases c:P.length<=k/\k<P.length+Z.length
 ·rw [S2 c,<-A9,h,D4,D4];have e1:(P++(Z++S))[P.length+(P.length+Z.length)-1-k]? =Z[P.length+Z.length-1-k]? :=by
   rw [N5 (by omega),L6 (by omega)]
   congr 1;omega
  have e2:(P++(Z.reverse++S))[k]? =Z[P.length+Z.length-1-k]? :=by
   rw [N5 (by omega),L6 (by rw [M6];omega),aN (by omega)]
   congr 1;omega
  rw [e1,e2]
 ·rw [S3 c,<-A9,h,D4,D4]
  by_cases d:k<P.length
  ·rw [L6 d,L6 d]
  ·have e1:(P++(Z++S))[k]? =S[k-P.length-Z.length]? :=by
    rw [N5 (by omega),N5 (by omega)]
   have e2:(P++(Z.reverse++S))[k]? =S[k-P.length-Z.length]? :=by
    rw [N5 (by omega),N5 (by rw [M6];omega),M6]
   rw [e1,e2]
theorem Tm.rev {st:B3}{P Z S:G0 D3}{i j:G8}{Q:Unit->B3->Prop}(h:Lies st P Z S)(hi:i=P.length)(hj:j=P.length+Z.length)(q: ∀st',Arr st st'->Lies st' P Z.reverse S->Q () st'):Tm prog w A E J (qY i j) Q st:=by
 rw [reverseSlice'_eq];subst hi hj;exact .modify (q _ ⟨rfl,rfl,rfl,rfl⟩ (MO _ P Z S h))
theorem Tm.ltAt {st:B3}{x y:D3}{i j:G8}{Q:P8 N4->B3->Prop}(ak:VF prog w A J κ U R)(kd:kindOf st=κ)(hx:(S5 st).toList[i]? =some x)(hy:(S5 st).toList[j]? =some y)(ux:U x)(uy:U y)(q:Q (some (R x y)) st):Tm prog w A E J (ltAt' i j) Q st:=by
 rw [ltAt'_eq];exact .bind (.get (.bind (.elem (by rw [<-A9];exact hx) (.bind (.elem (by rw [<-A9];exact hy) (.lt ak kd ux uy q))))))
abbrev Dsc (R:D3->D3->N4)(l:G0 D3):Prop:=l.Pairwise λx y=>R x y=false
theorem CK {l:G0 D3}(d:Dsc R l):Srt R l.reverse:=dM.mpr d
theorem MP (o:Ordd U R){l:G0 D3}{x y:D3}(u: ∀z∈l++ [x],U z)(uy:U y)(s:Srt R (l++ [x]))(h:R y x=false):Srt R (l++ [x]++ [y]):=by
 refine N7.mpr ⟨s,O4 _ _,λz hz v hv=> ?_⟩;rw [P3.mp hv];have ux:=u x (by simp);rcases D5.mp hz with w|w
 ·exact o.trans (u z hz) ux uy ((N7.mp s).2.2 z w x (by simp)) h
 ·rw [P3.mp w];exact h
theorem MQ {l m:G0 D3}(s:Dsc R (l++m))(alike: ∀x∈m,∀y∈m,R x y=false):Dsc R (l++m.reverse):=by
 obtain⟨a,b,c⟩:=N7.mp s;refine N7.mpr ⟨a,?_,λx hx y hy=>c x hx y (E2.mp hy)⟩;rw [bG];intro i j hi hj _;exact alike _ (E2.mp (B6 hi)) _ (E2.mp (B6 hj))
end
section
variable {prog:S0}{w:N8}{A:T8}{E:G1->G3->Prop}{J:G3->Prop}{κ:SortKind}{U:D3->Prop}{R:D3->D3->N4}
theorem Arr.trans {a b c:B3}(x:Arr a b)(y:Arr b c):Arr a c:=⟨y.1.trans x.1,y.2.1.trans x.2.1,y.2.2.1.trans x.2.2.1,y.2.2.2.trans x.2.2.2⟩
variable {P Z:G0 D3}
theorem Lies.rest {st:B3}{S:G0 D3}(h:Lies st P Z S){i:G8}:(S5 st).toList[P.length+Z.length+i]? =S[i]? :=by
 rw [h,N5 (by rw [P7];omega),P7]
 congr 1;omega
theorem Lies.end {st:B3}{W S:G0 D3}{x:D3}(h:Lies st P (W++ [x]) S):(S5 st).toList[P.length+W.length]? =some x:=by
 rw [h,D4,N5 (by omega),D4,N5 (by omega)];simp
theorem YY {l:G0 D3}(h:1<=l.length): ∃W x,l=W++ [x]:=by
 rcases List.eq_nil_or_concat l with e|⟨W,x,e⟩
 ·subst e;simp at h
 ·exact⟨W,x,by rw [e,List.concat_eq_append]⟩
structure Fall (R:D3->D3->N4)(T Z1 Z2:G0 D3)(n:G8):Prop where
 len:(Z1++Z2).length=n
 perm:(Z1++Z2).Perm (T.take n)
 dsc:Dsc R (Z1++Z2)
 alike: ∀x∈Z2,∀y∈Z2,R x y=false
 ne:1<=Z2.length
variable {T:G0 D3}{n:G8}
theorem Fall.turn {Z1 Z2:G0 D3}(f:Fall R T Z1 Z2 n):Fall R T Z1 Z2.reverse n:=
 ⟨by have:=f.len;simp only [P7,M6] at this ⊢;exact this,((Q9 Z2).append_left Z1).trans f.perm,MQ f.dsc f.alike,λx hx y hy=>f.alike x (E2.mp hx) y (E2.mp hy),by rw [M6];exact f.ne⟩
theorem Fall.mem {Z1 Z2:G0 D3}(f:Fall R T Z1 Z2 n){x:D3}(h:x∈Z1++Z2):x∈T:=L9 (f.perm.mem_iff.mp h)
theorem JD {y:D3}(h:Z.Perm (T.take n))(hy:T[n]? =some y):(Z++ [y]).Perm (T.take (n+1)):=by
 rw [WH hy];exact h.append_right _
theorem Fall.below (o:Ordd U R){T Z1 Z2:G0 D3}{n:G8}{x y:D3}(u: ∀x∈T,U x)(f:Fall R T Z1 Z2 n)(hx:x∈Z2)(hy:T[n]? =some y)(h:R y x=true):Fall R T (Z1++Z2) [y] (n+1):=by
 have uy:=u y (P6 hy);have ux:=u x (f.mem (D5.mpr (.inr hx)));have xy:=o.asym y x uy ux h;refine⟨by rw [P7,f.len];rfl,JD f.perm hy,?_,λa ha b hb=> ?_,by simp⟩
 ·refine N7.mpr ⟨f.dsc,O4 _ _,λz hz v hv=> ?_⟩;rw [P3.mp hv];have uz:=u z (f.mem hz);have zx:R z x=false:=by
   rcases D5.mp hz with w|w
   ·exact(N7.mp f.dsc).2.2 z w x hx
   ·exact f.alike z w x hx
  exact o.trans uy ux uz xy zx
 ·rw [P3.mp ha,P3.mp hb];exact o.refl uy
theorem Fall.like (o:Ordd U R){T Z1 Z2:G0 D3}{n:G8}{x y:D3}(u: ∀x∈T,U x)(f:Fall R T Z1 Z2 n)(hx:x∈Z2)(hy:T[n]? =some y)(h:R y x=false)(h':R x y=false):Fall R T Z1 (Z2++ [y]) (n+1):=by
 have uy:=u y (P6 hy);have ux:=u x (f.mem (D5.mpr (.inr hx)));have zy: ∀z∈Z1++Z2,R z y=false:=λz hz=>by
  have uz:=u z (f.mem hz);have zx:R z x=false:=by
   rcases D5.mp hz with w|w
   ·exact(N7.mp f.dsc).2.2 z w x hx
   ·exact f.alike z w x hx
  exact o.trans uy ux uz h' zx
 have yz: ∀z∈Z2,R y z=false:=λz hz=>o.trans (u z (f.mem (D5.mpr (.inr hz)))) ux uy (f.alike x hx z hz) h
 refine⟨by rw [<-D4,P7,f.len];rfl,by rw [<-D4];exact JD f.perm hy,?_,λa ha b hb=> ?_,by simp⟩
 ·rw [<-D4];refine N7.mpr ⟨f.dsc,O4 _ _,λz hz v hv=> ?_⟩;rw [P3.mp hv];exact zy z hz
 ·rcases D5.mp ha with p|p<;>rcases D5.mp hb with r|r
  ·exact f.alike a p b r
  ·rw [P3.mp r];exact zy a (D5.mpr (.inr p))
  ·rw [P3.mp p];exact yz b r
  ·rw [P3.mp p,P3.mp r];exact o.refl uy
theorem Lies.more {st:B3}{m:G8}{y:D3}(L:Lies st P Z (T.drop m))(hy:T[m]? =some y):Lies st P (Z++ [y]) (T.drop (m+1)):=by
 unfold Lies at L ⊢;rw [L,zz hy];simp
theorem Lies.part {st:B3}{Z1 Z2 S:G0 D3}:Lies st P (Z1++Z2) S↔Lies st (P++Z1) Z2 S:=by
 unfold Lies;simp only [D4]
theorem Lies.two {st:B3}{m:G8}{y:D3}(L:Lies st P Z (T.drop m))(lz:Z.length=m)(m1:1<=m)(hy:T[m]? =some y):(S5 st).toList[P.length+m]? =some y/\ ∃W x,Z=W++ [x]/\(S5 st).toList[P.length+m-1]? =some x:=by
 have a:=L.rest (i:=0);rw [cL,lz,kJ,kJ,hy] at a;obtain⟨W,x,e⟩:=YY (l:=Z) (by omega);subst e;refine⟨a,W,x,rfl,?_⟩;rw [<-L.end]
 congr 1
 rw [P7,X3] at lz;omega
section
variable {σ ρ τ α:Type}{st:σ}
theorem Tm.rangeN {f:G8->P8 ρ×τ->V4 σ Sem (fJ (P8 ρ×τ))}(I:G8->τ->σ->Prop){Q:τ->σ->Prop}{Q':P8 ρ×τ->σ->Prop}{a b:G8}{c:τ}(hab:a<=b)(h:I a c st)(step: ∀i c st,i<b->I i c st->Tm prog w A E J (f i (none,c)) (λr st'=>match r with| .done c'=>c'.1=none/\Q c'.2 st'| .yield c'=>c'.1=none/\I (i+1) c'.2 st') st)(fin: ∀c st,I b c st->Q c st)(q: ∀c st,Q c st->Q' (none,c) st):Tm prog w A E J (forIn [a:b] ((none:P8 ρ),c) f) Q' st:=by
 refine Tm.mono (Tm.range (λi c st=>c.1=none/\I i c.2 st) (Q:=λc st=>c.1=none/\Q c.2 st) hab ⟨rfl,h⟩ ?_ λc st h=>⟨h.1,fin _ _ h.2⟩) ?_
 ·rintro i ⟨_,c⟩ st hi ⟨rfl,h⟩;exact(step i c st hi h).mono λr st' x=>by cases r<;>exact x
 ·rintro ⟨_,c⟩ st ⟨rfl,h⟩;exact q c st h
theorem Tm.fork {c:Prop}[Decidable c]{t e:V4 σ Sem α}{Q:α->σ->Prop}(I:σ->Prop)(G: ∀s,I s->Tm prog w A E J e Q s)(T:c->(∀s,I s->Tm prog w A E J e Q s)->Tm prog w A E J t Q st)(F: ¬c->I st):Tm prog w A E J (if c then t else e) Q st:=
 .if2 (λh=>T h G) λh=>G _ (F h)
end
section
variable {st:B3}{P T Z:G0 D3}{m:G8}
theorem Rg {f:G8->P8 (P8 G8)×G8->V4 B3 Sem (fJ (P8 (P8 G8)×G8))}{G:G8->P8 N4->V4 B3 Sem (fJ (P8 (P8 G8)×G8))}{Q:P8 (P8 G8)×G8->B3->Prop}(ak:VF prog w A J κ U R)(kd:kindOf st=κ)(o:Ordd U R)(u: ∀x∈T,U x)
 (hf: ∀i n,f i (none,n)=ltAt' (P.length+n) (P.length+n-1) >>= G n)(hG: ∀n,G n (some true)=Pure.pure (.done (none,n))/\G n (some false)=Pure.pure (.yield (none,n+1)))
 (m1:1<=m)(m2:m<=T.length)(L:Lies st P Z (T.drop m))(p:Z.Perm (T.take m))(s:Srt R Z)
 (q: ∀n Z',1<=n->n<=T.length->Lies st P Z' (T.drop n)->Z'.Perm (T.take n)->Srt R Z'->(∀y,T[n]? =some y-> ∃W x,Z'=W++ [x]/\R y x=true)->Q (none,n) st):Tm prog w A E J (forIn [m:T.length] ((none:P8 (P8 G8)),m) f) Q st:=by
 refine Tm.rangeN (λi c s=>s=st/\c=i/\1<=i/\ ∃Z,Lies st P Z (T.drop i)/\Z.Perm (T.take i)/\Srt R Z) (Q:=λn s=>s=st/\Q (none,n) st) m2 ⟨rfl,rfl,m1,Z,L,p,s⟩ ?_ ?_ λc s h=>h.1 ▸ h.2
 ·rintro _ i _ hi ⟨rfl,rfl,i1,Z,L,p,s⟩;have hy:=G5 hi;obtain⟨ay,W,x,rfl,ax⟩:=L.two (by rw [p.length_eq,T4,aH (R9 hi)]) i1 hy;have uy:=u _ (B6 hi);have uZ: ∀z∈W++ [x],U z:=λz hz=>u z (L9 (p.mem_iff.mp hz))
  rw [hf];refine .bind (.ltAt ak kd ay ax uy (uZ x (by simp)) ?_);cases hb:R T[i] x with
  |true=>
   rw [(hG _).1];exact .pure ⟨rfl,rfl,q i _ i1 (R9 hi) L p s λy h=>⟨W,x,rfl,by rw [hy] at h;injection h with h;rw [<-h];exact hb⟩⟩
  |false=>
   rw [(hG _).2];exact .pure ⟨rfl,rfl,rfl,bE (N3 _),_,L.more hy,JD p hy,MP o uZ uy s hb⟩
 ·rintro _ _ ⟨rfl,rfl,i1,Z,L,p,s⟩;exact⟨rfl,q _ Z i1 (P4 _) L p s λy h=>absurd (P9.mp h).1 (L0 _)⟩
end
def Fell (R:D3->D3->N4)(P T:G0 D3)(st st':B3)(n k:G8):Prop:=Arr st st'/\ ∃Z1 Z2,Lies st' P (Z1++Z2) (T.drop n)/\Fall R T Z1 Z2 n/\Z2.length=k+1
theorem Fell.rev {st s2:B3}{k:G8}{Q:Unit->B3->Prop}(h:Fell R P T st s2 n k)(q: ∀s3,Fell R P T st s3 n k->Q () s3):Tm prog w A E J (qY (P.length+n-(k+1)) (P.length+n)) Q s2:=by
 obtain⟨ar,Z1,Z2,L,F,l⟩:=h;have l12:=F.len;rw [P7] at l12;exact .rev (Lies.part.mp L) (by rw [P7];omega) (by rw [P7];omega) λs3 ar3 L3=>q s3 ⟨ar.trans ar3,Z1,_,Lies.part.mpr L3,F.turn,by rw [M6];exact l⟩
theorem MR {st:B3}{Q:P8 G8->B3->Prop}(ak:VF prog w A J κ U R)(kd:kindOf st=κ)(o:Ordd U R)(u: ∀x∈T,U x)(h:Lies st P [] T)(h1:1<=T.length)
 (q: ∀n st' Z,1<=n->n<=T.length->Arr st st'->Lies st' P Z (T.drop n)->Z.Perm (T.take n)->Srt R Z->Q (some n) st'):Tm prog w A E J (countRun' P.length T.length) Q st:=by
 refine .bind (Rg (m:=1) (Z:=T.take 1) ak kd o u (by exact λi n=>rfl) (by exact λn=>⟨rfl,rfl⟩) (P4 _) h1 ?_ (.refl _) ?_ λn Z n1 n2 L p sr br=> ?_)
 ·unfold Lies at h ⊢;rw [h,J6,D4,M5]
 ·match T,h1 with
  |x::r,_=>exact O4 _ _
 refine .eq2 (x:=n) (y:=T.length) (λz1=> .pure (q n _ _ n1 n2 (Arr.refl _) L p sr)) λz1=> ?_
 have n3:n<T.length:=E5 n2 z1;have hy:=G5 n3;have uZ: ∀z∈Z,U z:=λz hz=>u z (L9 (p.mem_iff.mp hz))
 obtain⟨W,x,e,yx⟩:=br _ hy;have lz:Z.length=n:=by rw [p.length_eq,T4,aH n2]
 have xin:x∈Z:=by rw [e];simp
 have xl:Z[Z.length-1]? =some x:=by rw [e];simp
 have F0:(∀p∈Z,∀r∈Z,R p r=false)->Fall R T [] Z n:=λal=>⟨lz,p,bG.mpr λi j hi hj _=>al _ (B6 hi) _ (B6 hj),al,by rw [lz];exact n1⟩
 refine Tm.fork (λs=>Fell R P T st s (n+1) 0) ?_ ?_ ?_
 ·intro s1 F1;refine .bind (.rule (.bind (Tm.rangeN (λi c s=>c.1=i/\Fell R P T st s c.1 c.2) (Q:=λc s=>c.1<=T.length/\Fell R P T st s c.1 c.2) n3 ⟨rfl,F1⟩ ?_ (λc s h=>⟨V2 h.1,h.2⟩) ?_)))
  ·intro i c s2 hi h2;have hc:c.1<T.length:=by rw [h2.1];exact hi
   have hy:=G5 hc;have uy:=u _ (B6 hc);obtain⟨e1,ar2,Z1,Z2,L2,F2,l2⟩:=h2;have l12:=F2.len;obtain⟨ay,W,x,eW,ax⟩:=L2.two l12 (by rw [<-l12,P7,l2];exact aG _ _) hy;have xin:x∈Z2:=by
    obtain⟨V,v,e⟩:=YY F2.ne;have e':=congrArg List.getLast? eW;rw [e,<-D4,lQ,lQ] at e';injection e' with e'
    rw [e,<-e'];simp
   have ux:=u x (F2.mem (D5.mpr (.inr xin)));refine .bind (.ltAt ak (ar2.1.trans kd) ay ax uy ux (.if2 (c:=R _ x=true) (λhb=> ?_) λhb=> .bind (.ltAt ak (ar2.1.trans kd) ax ay ux uy (.if2 (c:=R x _=true) (λhc'=> .pure ⟨rfl,R9 hc,ar2,Z1,Z2,L2,F2,l2⟩) λhc'=> ?_))))
   ·refine Tm.fork (λs=>Fell R P T st s (c.1+1) 0) (λs h=> .pure ⟨rfl,congrArg u9 e1,h⟩) (λzq H=> .bind ?_) λzq=>⟨ar2,Z1++Z2,[T[c.1]],L2.more hy,F2.below o u xin hy hb,rfl⟩
    have l12':=l12;rw [P7] at l12';exact .rev (Lies.part.mp L2) (by rw [P7];dsimp only;omega) (by rw [P7];dsimp only;omega) λs3 ar3 L3=>H s3 ⟨ar2.trans ar3,Z1++Z2.reverse,[T[c.1]],(Lies.part.mpr L3).more hy,F2.turn.below o u (E2.mpr xin) hy hb,rfl⟩
   ·refine .pure ⟨rfl,congrArg u9 e1,ar2,Z1,Z2++ [T[c.1]],?_,F2.like o u xin hy (Q8.mpr hb) (Q8.mpr hc'),by rw [P7,l2];rfl⟩;rw [<-D4];exact L2.more hy
  ·intro c s2 h2;refine Tm.fork (λs=> ∃k,Fell R P T st s c.1 k) ?_ (λzq H=> .bind (h2.2.rev λs h=>H s ⟨_,h⟩)) λzq=>⟨_,h2.2⟩
   intro s3 h3;obtain⟨k,ar3,Z1,Z2,L3,F3,l3⟩:=h3;have m1:1<=c.1:=by rw [<-F3.len,P7,l3];exact aG _ _
   exact .bind (.rev L3 rfl (by rw [F3.len]) λs4 ar4 L4=> .bind (Rg ak ((ar3.trans ar4).1.trans kd) o u (by exact λi n=>rfl) (by exact λn=>⟨rfl,rfl⟩) m1 h2.1 L4 ((Q9 _).trans F3.perm) (CK F3.dsc) λn Z n1 n2 L p sr _=> .pure (q n s4 Z n1 n2 (ar3.trans ar4) L p sr)))
 ·intro z2 H;obtain⟨x0,V,eV⟩: ∃x0 V,Z=x0::V:=by
   match Z,xin with
   |a::r,_=>exact⟨a,r,rfl⟩
  have ux:=uZ x xin;have ux0:=uZ x0 (by rw [eV];simp);have a0:(S5 st).toList[P.length]? =some x0:=by rw [L,eV];simp
  have a1:(S5 st).toList[P.length+n-1]? =some x:=by
   obtain⟨_,W',x',e',ax⟩:=L.two lz n1 hy;rw [e] at e';rw [ax,(List.append_inj' e' rfl).2 |> λh=>(List.cons.inj h).1]
  exact .bind (.ltAt ak kd a0 a1 ux0 ux (.if2 (c:=R x0 x=true) (λ_=> .pure (q n _ _ n1 n2 (Arr.refl _) L p sr)) λhr0=> .bind (.rev L rfl (by rw [lz]) λs1 ar1 L1=>H s1 ⟨ar1,_,_,L1.more hy,Fall.below o u (Z1:= []) (Fall.turn (F0 λp hp r hr=>o.trans (uZ r hr) ux (uZ p hp) (Rf o uZ sr xl hr) (Q8.mpr λv=>(o.neg p x0 x (uZ p hp) ux0 ux v).elim (λv=>by rw [QZ o uZ sr (z:=x0) (by rw [eV];rfl) hp] at v;cases v) hr0))) (E2.mpr xin) hy yx,rfl⟩)))
 ·intro z2;have w0:W= []:=eI (by rw [e,P7,X3] at lz;omega);have f: ∀z∈Z,z=x:=λz hz=>by rw [e,w0] at hz;exact P3.mp hz
  exact⟨Arr.refl st,_,_,L.more hy,Fall.below o u (Z1:= []) (F0 λp hp r hr=>by rw [f p hp,f r hr];exact o.refl (uZ x xin)) xin hy yx,rfl⟩
end
section
variable {prog:S0}{w:N8}{A:T8}{E:G1->G3->Prop}{J:G3->Prop}{κ:SortKind}{U:D3->Prop}{R:D3->D3->N4}
theorem MS {B:N0 D3}{A R:G0 D3}{z y:D3}(h:B.toList=A++z::y::R):(B.swapIfInBounds (A.length+1) A.length).toList=A++y::z::R:=by
 obtain⟨l⟩:=B;cases h;have n:A.length<(A++z::y::R).length:=by rw [P7];exact Nat.lt_add_of_pos_right (rV _)
 have n1:A.length+1<(A++z::y::R).length:=by rw [P7];exact Nat.add_lt_add_left (Nat.succ_lt_succ (rV _)) _
 have a0:(A++z::y::R)[A.length]=z:=kK rfl rfl;have a1:(A++z::y::R)[A.length+1]=y:=kK (l₁:=A++ [z]) (l₂:=R) (by rw [D4];rfl) (by rw [P7];rfl);unfold Array.swapIfInBounds;refine(congrArg mV ((rW n1).trans (rW n))).trans ?_;rw [Array.toList_swap];show ((A++z::y::R).set (A.length+1) (A++z::y::R)[A.length]).set A.length (A++z::y::R)[A.length+1]=_;rw [a0,a1,k9 _ _ (W7 A.length 1),k9 _ _ (P4 _),n5,cS];rfl
theorem Rh {xs:N0 D3}{y:D3}{S:G0 D3}: ∀ (Z A:G0 D3),xs.toList=A++(Z++y::S)->(bubble xs (A.length+Z.length) Z.length).toList=A++y::(Z++S)
 | [],A,h=>h
 |z::Z,A,h=>by
  have ih:=Rh Z (A++ [z]) (by rw [h,D4];rfl);rw [P7,gQ] at ih;rw [R1,bubble_succ,show A.length+(Z.length+1)-Z.length=A.length+1 from Nat.add_sub_cancel (n:=A.length+1) (m:=Z.length) ▸ by rw [gQ];rfl];exact MS (ih.trans (by rw [D4];rfl))
theorem MT (xs:N0 D3)(P Z S:G0 D3)(y:D3)(l:G8)(hl:l<=Z.length)(h:xs.toList=P++Z++y::S):(bubble xs (P.length+Z.length) (Z.length-l)).toList=P++(Z.take l++ [y]++Z.drop l)++S:=by
 have e:=Rh (xs:=xs) (y:=y) (S:=S) (Z.drop l) (P++Z.take l) (by rw [h,D4 P (Z.take l),<-D4 (Z.take l),M5,D4]);rw [P7,T4,C3,aH hl,dU,bL hl] at e;rw [e];simp only [D4,O8,C9]
theorem CL (o:Ordd U R){Z:G0 D3}{y:D3}{l:G8}(u: ∀z∈Z,U z)(uy:U y)(s:Srt R Z)(a: ∀z∈Z.take l,R y z=false)(b: ∀z∈Z.drop l,R y z=true):Srt R (Z.take l++ [y]++Z.drop l):=by
 have s':Srt R (Z.take l++Z.drop l):=by rw [M5];exact s
 obtain⟨s1,s2,s3⟩:=N7.mp s';refine N7.mpr ⟨N7.mpr ⟨s1,O4 _ _,λx hx z hz=> ?_⟩,s2,λx hx z hz=> ?_⟩
 ·rw [P3.mp hz];exact a x hx
 ·rcases D5.mp hx with v|v
  ·exact s3 x v z hz
  ·rw [P3.mp v];exact o.asym y z uy (u z (C4 hz)) (b z hz)
theorem Ae {st:B3}{Q:N4->B3->Prop}{P T Z:G0 D3}{n k:G8}(ak:VF prog w A J κ U R)(kd:kindOf st=κ)(o:Ordd U R)(u: ∀x∈T,U x)(h:Lies st P Z (T.drop k))(hp:Z.Perm (T.take k))(hs:Srt R Z)(k1:1<=k)(kn:k<=n)(hn:n<=T.length)
 (q: ∀st' Z',Arr st st'->Lies st' P Z' (T.drop n)->Z'.Perm (T.take n)->Srt R Z'->Q true st'):Tm prog w A E J (sQ P.length n k) Q st:=by
 unfold sQ;refine .bind (Tm.mono (Tm.range (λi c s1=>Arr st s1/\c.1=none/\1<=i/\ ∃Z,Lies s1 P Z (T.drop i)/\Z.Perm (T.take i)/\Srt R Z) (Q:=λc s1=>Arr st s1/\c.1=none/\ ∃Z,Lies s1 P Z (T.drop n)/\Z.Perm (T.take n)/\Srt R Z) (by omega) ⟨Arr.refl st,rfl,by omega,Z,by rw [pH k1];exact h,by rw [pH k1];exact hp,hs⟩ ?_ ?_) ?_)
 ·rintro i ⟨r,c2⟩ s1 hi ⟨ar,hr,i1,Z,L,p,s⟩;dsimp only at hr ⊢;subst hr;obtain⟨y,hy⟩: ∃y,T[i]? =some y:=⟨_,G5 (by omega)⟩;have uy:=u y (P6 hy);have lz:Z.length=i:=by rw [p.length_eq,T4];omega
  have uZ: ∀z∈Z,U z:=λz hz=>u z (L9 (p.mem_iff.mp hz))
  have ay:(S5 s1).toList[P.length+i]? =some y:=by
   have:=L.rest (i:=0);rw [cL,lz] at this;rw [kJ] at this;rw [this];exact hy
  have az: ∀m,m<i-> ∃z,Z[m]? =some z/\(S5 s1).toList[P.length+m]? =some z:=λm hm=>by
   refine⟨Z[m],G5 (by omega),?_⟩;rw [L,D4,N5 (by omega),L6 (by omega),cS,G5 (by omega)]
  refine .bind (Tm.mono (Tm.range (λj c s2=>s2=s1/\c.1=none/\c.2.1<=c.2.2/\c.2.2<=i/\(∀z∈Z.take c.2.1,R y z=false)/\(∀z∈Z.drop c.2.2,R y z=true)/\c.2.2-c.2.1+j<=i) (Q:=λc s2=>s2=s1/\c.1=none/\c.2.1<=i/\(∀z∈Z.take c.2.1,R y z=false)/\(∀z∈Z.drop c.2.1,R y z=true)) (N3 _) ⟨rfl,rfl,N3 _,P4 _,λz hz=> ?_,λz hz=> ?_,by dsimp only;omega⟩ ?_ ?_) ?_)
  ·dsimp only at hz;rw [gO] at hz;cases hz
  ·dsimp only at hz;rw [A3 (by omega)] at hz;cases hz
  ·rintro j ⟨r,l,v⟩ _ hj ⟨rfl,hr,b1,b2,b3,b4,b5⟩;dsimp only at hr b1 b2 b3 b4 b5 ⊢;subst hr
   by_cases c1:l>=v
   ·rw [S2 c1];have:l=v:=by omega
    subst this;exact .pure ⟨rfl,rfl,b2,b3,b4⟩
   rw [S3 c1];obtain⟨z,hz,ez⟩:=az ((l+v) / 2) (by omega);have uz:=uZ z (P6 hz);refine .bind (.ltAt ak (ar.1.trans kd) ay ez uy uz ?_);dsimp only;cases hb:R y z with
   |true=>
    rw [S2 rfl];refine .pure ⟨rfl,rfl,by dsimp only;omega,by dsimp only;omega,b3,λx hx=> ?_,by dsimp only;omega⟩;dsimp only at hx;have zx:R x z=false:=by
     obtain⟨t,ht,e⟩:=K4 hx;rw [C3] at ht;exact WI s o uZ (show (l+v) / 2<=(l+v) / 2+t by omega) hz (by rw [G5 (by omega),<-e,n9])
    rcases o.neg y x z uy (uZ x (C4 hx)) uz hb with w|w
    ·exact w
    ·rw [zx] at w;cases w
   |false=>
    rw [S3 (by decide)];refine .pure ⟨rfl,rfl,by dsimp only;omega,b2,λx hx=> ?_,b4,by dsimp only;omega⟩;dsimp only at hx;have xz:R z x=false:=by
     obtain⟨t,ht,e⟩:=K4 hx;rw [T4] at ht;exact WI s o uZ (show t<=(l+v) / 2 by omega) (by rw [G5 (by omega),<-e,n8]) hz
    exact o.trans (uZ x (L9 hx)) uz uy xz hb
  ·rintro ⟨r,l,v⟩ _ ⟨rfl,hr,b1,b2,b3,b4,b5⟩;dsimp only at hr b1 b2 b3 b4 b5 ⊢;have:l=v:=by omega
   subst this;exact⟨rfl,hr,b2,b3,b4⟩
  ·rintro ⟨r,l,v⟩ s2 ⟨rfl,hr,b2,b3,b4⟩;dsimp only at hr b2 b3 b4 ⊢;subst hr;dsimp only;refine .bind ?_;show Tm prog w A E J (moveDown' (P.length+i) (P.length+l)) _ _;rw [moveDown'_eq];refine .modify (.pure ⟨ar.trans ⟨rfl,rfl,rfl,rfl⟩,rfl,by omega,Z.take l++ [y]++Z.drop l,?_,?_,CL o uZ uy s b3 b4⟩)
   ·have:=MT (S5 s2) P Z (T.drop (i+1)) y l (by omega) (by rw [<-zz hy];exact L);rw [lz] at this;rw [show P.length+i-(P.length+l)=i-l by omega];exact this
   ·refine kP ?_ (JD p hy);rw [D4];have e:Z++ [y]=Z.take l++(Z.drop l++ [y]):=by rw [<-D4,M5]
    rw [e];exact(aM).append_left _
 ·rintro ⟨r,c2⟩ s1 ⟨ar,hr,i1,Z,L,p,s⟩;exact⟨ar,hr,Z,L,p,s⟩
 ·rintro ⟨r,c2⟩ s1 ⟨ar,hr,Z,L,p,s⟩;dsimp only at hr ⊢;subst hr;exact .pure (q s1 Z ar L p s)
end
section
variable {prog:S0}{w:N8}{A:T8}{E:G1->G3->Prop}{J:G3->Prop}{κ:SortKind}{U:D3->Prop}{R:D3->D3->N4}
def Stk (R:D3->D3->N4)(l:G0 D3):G0 (G8×G8×G8)->G8->G8->Prop
 | [],s,e=>s=e
 |(p,n,_)::rest,s,e=>p=s/\1<=n/\Srt R (seg l p n)/\Stk R l rest (s+n) e
variable {l:G0 D3}
theorem Stk.le: ∀ {pl:G0 (G8×G8×G8)} {s e:G8},Stk R l pl s e->s+pl.length<=e
 | [],s,e,h=>by cases h;simp
 |(p,n,_)::rest,s,e,⟨_,n1,_,h⟩=>by have:=Stk.le h;simp only [R1];omega
theorem MU {l':G0 D3}{p n e:G8}(h:l.take e=l'.take e)(he:p+n<=e):seg l p n=seg l' p n:=by
 have cut: ∀k:G0 D3,seg k p n=seg (k.take e) p n:=λk=>by
  unfold seg;rw [lN,lO,aH (by omega)]
 rw [cut l,cut l',h]
theorem Stk.same {l':G0 D3}: ∀ {pl:G0 (G8×G8×G8)} {s e:G8},Stk R l pl s e->l.take e=l'.take e->Stk R l' pl s e
 | [],s,e,h,_=>h
 |(p,n,_)::rest,s,e,⟨a,b,c,d⟩,h=>by
  have:=d.le;exact⟨a,b,by rw [<-MU h (by omega)];exact c,d.same h⟩
theorem Stk.shift {l':G0 D3}: ∀ {pl:G0 (G8×G8×G8)} {s e:G8},Stk R l pl s e->l.drop s=l'.drop s->Stk R l' pl s e
 | [],s,e,h,_=>h
 |(p,n,_)::rest,s,e,⟨a,b,c,d⟩,h=>by
  subst a;refine⟨rfl,b,by unfold seg at c ⊢;rw [<-h];exact c,d.shift ?_⟩;rw [<-X2,<-X2,h]
theorem Stk.append: ∀ {a b:G0 (G8×G8×G8)} {s e:G8},Stk R l (a++b) s e↔ ∃m,Stk R l a s m/\Stk R l b m e
 | [],b,s,e=>⟨λh=>⟨s,rfl,h⟩,λ⟨m,h,h'⟩=>by cases h;exact h'⟩
 |(p,n,w)::a,b,s,e=>by
  constructor
  ·rintro ⟨x,y,z,h⟩;obtain⟨m,h1,h2⟩:=Stk.append.mp h;exact⟨m,⟨x,y,z,h1⟩,h2⟩
  ·rintro ⟨m,⟨x,y,z,h1⟩,h2⟩;exact⟨x,y,z,Stk.append.mpr ⟨m,h1,h2⟩⟩
structure Bt (R:D3->D3->N4)(κ:SortKind)(l0:G0 D3)(lo:G8)(st:B3):Prop where
 kind:kindOf st=κ
 failed:Y4 st=none
 perm:(S5 st).toList.Perm l0
 stk:Stk R (S5 st).toList (B0 st).toList 0 lo
variable {l0:G0 D3}{lo:G8}
theorem Bt.size {st:B3}(b:Bt R κ l0 lo st):(S5 st).size=l0.length:=by rw [<-C7,b.perm.length_eq]
theorem Bt.merge {st:B3}{Q:N4->B3->Prop}{i:G8}(ak:VF prog w A J κ U R)(o:Ordd U R)(u: ∀x∈l0,U x)(b:Bt R κ l0 lo st)(hlo:lo<=l0.length)(hi:i+1<(B0 st).size)
 (q: ∀st',Bt R κ l0 lo st'->(B0 st').size+1=(B0 st).size->(S5 st').toList.drop lo=(S5 st).toList.drop lo->Q true st'):Tm prog w A E J (sP i) Q st:=by
 have lp:(B0 st).toList.length=(B0 st).size:=by simp
 obtain⟨⟨sa,na,pw⟩,hx⟩: ∃x,(B0 st).toList[i]? =some x:=⟨_,G5 (by omega)⟩;obtain⟨⟨sb,nb,pw2⟩,hy⟩: ∃y,(B0 st).toList[i+1]? =some y:=⟨_,G5 (by omega)⟩;have e:(B0 st).toList=(B0 st).toList.take i++(sa,na,pw)::(sb,nb,pw2)::(B0 st).toList.drop (i+2):=by
  rw [<-zz hy,<-zz hx,M5]
 have stk:=b.stk;rw [e] at stk;obtain⟨m,k1,em,n1,s1,eb,n2,s2,k2⟩:=Stk.append.mp stk;subst em;subst eb;have le:=k2.le;have sz:=b.size;have hz:sa+na+nb<=(S5 st).size:=by omega
 have ln:(S5 st).toList.length=(S5 st).size:=by simp
 refine Ad ak b.kind o (λx hx=>u x (b.perm.mem_iff.mp hx)) (by rw [<-A9];exact hx) (by rw [<-A9];exact hy) rfl n1 n2 hz s1 s2 b.failed λst' Z kd hf hp ha pz sz'=> ?_
 have hpl:(B0 st').toList=(B0 st).toList.take i++(sa,na+nb,pw)::(B0 st).toList.drop (i+2):=by
  rw [hp,Array.eraseIdxIfInBounds_eq,rW (by rw [iR];exact hi),Array.toList_eraseIdx,gP];generalize (B0 st).toList.drop (i+2)=B at e ⊢;have li:((B0 st).toList.take i).length=i:=by rw [T4];omega
  generalize (B0 st).toList.take i=A at e li ⊢;rw [e];subst li;simp [List.set_append,List.eraseIdx_append];intro z;omega
 have lZ:Z.length=na+nb:=by rw [pz.length_eq,P7,WK (by omega),WK (by omega)]
 have lt:((S5 st).toList.take sa).length=sa:=by rw [T4];omega
 refine q st' ⟨kd,hf,?_,?_⟩ ?_ ?_
 ·rw [ha];refine kP ?_ b.perm;have c3:=UO (S5 st).toList (p:=sa) (n:=na) (m:=nb);have pp:=(pz.append_left ((S5 st).toList.take sa)).append_right ((S5 st).toList.drop (sa+na+nb));rw [<-c3] at pp;exact pp
 ·rw [hpl,ha];refine Stk.append.mpr ⟨sa,k1.same ?_,rfl,by omega,?_,?_⟩
  ·rw [D4,V6 (by omega),M9 (l:=(S5 st).toList.take sa) (by omega)]
  ·unfold seg;rw [D4,V5 (by omega),A3 (by omega),C9,V6 (by omega),M9 (by omega)];exact sz'
  ·rw [<-dU];refine k2.shift ?_;have:((S5 st).toList.take sa++Z).length=sa+na+nb:=by rw [P7,lt,lZ];omega
   rw [V5 (by omega),A3 (as:=(S5 st).toList.take sa++Z) (by omega),C9]
 ·rw [<-C7,<-C7,hpl];have:(B0 st).toList.length=((B0 st).toList.take i++(sa,na,pw)::(sa+na,nb,pw2)::(B0 st).toList.drop (i+2)).length:=congrArg oV e;rw [this];simp only [P7,R1];omega
 ·rw [ha];have c1:((S5 st).toList.take sa++Z).length=sa+na+nb:=by rw [P7,lt,lZ];omega
  have c2:sa+na+nb<=lo:=by omega
  rw [List.drop_append,A3 (as:=(S5 st).toList.take sa++Z) (by omega),C9,X2,c1]
  congr 1;omega
theorem Bt.run {Z:G0 D3}{n:G8}{s1 s2:B3}(b:Bt R κ l0 lo s1)(hlo:lo<=l0.length)(ar:Arr s1 s2)(L:Lies s2 ((S5 s1).toList.take lo) Z (((S5 s1).toList.drop lo).drop n))(p:Z.Perm (((S5 s1).toList.drop lo).take n))(sr:Srt R Z)(hn:n<=l0.length-lo):Bt R κ l0 lo s2/\Srt R (seg (S5 s2).toList lo n):=by
 have ln:(S5 s1).toList.length=l0.length:=b.perm.length_eq;have lP:((S5 s1).toList.take lo).length=lo:=by rw [T4];omega
 have lZ:Z.length=n:=by rw [p.length_eq,T4,C3];omega
 have e:(S5 s2).toList=(S5 s1).toList.take lo++Z++((S5 s1).toList.drop lo).drop n:=L;refine⟨⟨ar.1.trans b.kind,ar.2.2.1.trans b.failed,?_,?_⟩,?_⟩
 ·rw [e];refine kP ?_ b.perm;have pp:=(p.append_left ((S5 s1).toList.take lo)).append_right (((S5 s1).toList.drop lo).drop n);rw [D4 _ (((S5 s1).toList.drop lo).take n),M5,M5] at pp;exact pp
 ·rw [ar.2.1];refine b.stk.same ?_;rw [e,D4,V6 (by omega),M9 (l:=(S5 s1).toList.take lo) (by omega)]
 ·rw [e];unfold seg;rw [D4,V5 (by omega),A3 (by omega),C9,V6 (by omega),M9 (by omega)];exact sr
theorem Bt.push {n:G8}{s:B3}(b:Bt R κ l0 lo s)(n1:1<=n)(g:Srt R (seg (S5 s).toList lo n)):Bt R κ l0 (lo+n) (tW s ((B0 s).push (lo,n,0))):=by
 refine⟨b.kind,b.failed,b.perm,?_⟩;show Stk R (S5 s).toList ((B0 s).push (lo,n,0)).toList 0 (lo+n);rw [aQ];exact Stk.append.mpr ⟨lo,b.stk,rfl,n1,g,rfl⟩
theorem Stk.mod {f:G8×G8×G8->G8×G8×G8}(hf: ∀x,(f x).1=x.1/\(f x).2.1=x.2.1): ∀ {pl:G0 (G8×G8×G8)} {k s e:G8},Stk R l pl s e->Stk R l (pl.modify k f) s e
 | [],k,s,e,h=>by rw [List.modify_nil];exact h
 |(p,n,w)::rest,0,s,e,⟨a,b,c,d⟩=>by
  rw [List.modify_zero_cons];have e1:=(hf (p,n,w)).1;have e2:=(hf (p,n,w)).2;generalize f (p,n,w)=x at e1 e2;obtain⟨p',n',w'⟩:=x;dsimp only at e1 e2;subst e1 e2;exact⟨a,b,c,d⟩
 |(p,n,w)::rest,k+1,s,e,⟨a,b,c,d⟩=>by
  rw [List.modify_succ_cons];exact⟨a,b,c,d.mod hf⟩
theorem Bt.mod {k:G8}{s:B3}{f:G8×G8×G8->G8×G8×G8}(b:Bt R κ l0 lo s)(hf: ∀x,(f x).1=x.1/\(f x).2.1=x.2.1):Bt R κ l0 lo (tW s ((B0 s).modify k f)):=by
 refine⟨b.kind,b.failed,b.perm,?_⟩;show Stk R (S5 s).toList ((B0 s).modify k f).toList 0 lo;rw [Array.toList_modify];exact b.stk.mod hf
theorem MV (c:N4)(x:G8):(if c=true then x-1 else x)<=x:=by cases c<;>simp
theorem CM {st:B3}{Q:Unit->B3->Prop}(ak:VF prog w A J κ U R)(o:Ordd U R)(u: ∀x∈l0,U x)(kd:kindOf st=κ)(hf:Y4 st=none)(hp:B0 st= #[])(hl:(S5 st).toList=l0)
 (q: ∀st',Y4 st'=none->(S5 st').toList.Perm l0->Srt R (S5 st').toList->Q () st'):Tm prog w A E J sortRuns' Q st:=by
 have b0:Bt R κ l0 0 st:=⟨kd,hf,by rw [hl],by rw [hp];rfl⟩;rw [sortRuns'_eq];refine .bind (.get ?_);dsimp only;rw [b0.size];generalize minRun' l0.length l0.length 0=mr;refine .bind (Tm.mono (Tm.range (λi c s1=>c.1=none/\c.2<=l0.length/\i<=c.2/\Bt R κ l0 c.2 s1) (Q:=λc s1=>c.1=none/\Bt R κ l0 l0.length s1) (N3 _) ⟨rfl,N3 _,N3 _,b0⟩ ?_ ?_) ?_)
 ·rintro i ⟨r,lo⟩ s1 hi ⟨hr,h1,h2,b⟩;dsimp only at hr h1 h2 b ⊢;subst hr
  by_cases z1:lo>=l0.length
  ·rw [S2 z1];have:lo=l0.length:=by omega
   subst this;exact .pure ⟨rfl,b⟩
  rw [S3 z1];have ln:(S5 s1).toList.length=l0.length:=b.perm.length_eq;have lP:((S5 s1).toList.take lo).length=lo:=by rw [T4];omega
  have lT:((S5 s1).toList.drop lo).length=l0.length-lo:=by rw [C3,ln]
  have uT: ∀x∈(S5 s1).toList.drop lo,U x:=λx hx=>u x (b.perm.mem_iff.mp (C4 hx))
  have ct:=λ{Q}=>MR (prog:=prog) (w:=w) (A:=A) (E:=E) (J:=J) (Q:=Q) (st:=s1) (P:=(S5 s1).toList.take lo) (T:=(S5 s1).toList.drop lo) ak b.kind o uT (by unfold Lies;rw [J6,M5]) (by omega)
  rw [lP,lT] at ct;refine .bind (ct λn s2 Z n1 n2 ar L p sr=> ?_);dsimp only
  by_cases z2:n<mr
  ·rw [S2 z2];have bn:=λ{Q}=>Ae (prog:=prog) (w:=w) (A:=A) (E:=E) (J:=J) (Q:=Q) (st:=s2) (P:=(S5 s1).toList.take lo) (T:=(S5 s1).toList.drop lo) (n:=min (l0.length-lo) mr) ak (ar.1.trans b.kind) o uT L p sr n1 (by omega) (by omega)
   rw [lP] at bn;refine .bind (.rule (.bind (bn λs3 Z3 ar3 L3 p3 sr3=> ?_)));obtain⟨B,G⟩:=b.run h1 (ar.trans ar3) L3 p3 sr3 (by omega);have N1:1<=min (l0.length-lo) mr:=by omega
   rw [S3 (by decide)];refine .bind (.get ?_);split
   ·refine .bind (Tm.mono (Tm.range (λj c s4=>c.1=none/\Bt R κ l0 lo s4/\Srt R (seg (S5 s4).toList lo (min (l0.length-lo) mr))) (Q:=λc s4=>c.1=none/\Bt R κ l0 lo s4/\Srt R (seg (S5 s4).toList lo (min (l0.length-lo) mr))) (N3 _) ⟨rfl,B,G⟩ ?_ (λ_ _ h=>h)) ?_)
    ·rintro j ⟨r,c⟩ s4 hj ⟨hr,B4,G4⟩;dsimp only at hr ⊢;subst hr;refine .bind (.get ?_);split
     ·rename_i older heq;split
      ·exact .pure ⟨rfl,B4,G4⟩
      ·have two:(B0 s4).size>1:=X4 λz=>by rw [S3 z] at heq;cases heq
       refine .bind (Bt.merge ak o u B4 h1 (by omega) λs5 B5 _ dr=> ?_);refine .pure ⟨rfl,B5,?_⟩;unfold seg at G4 ⊢;rw [dr];exact G4
     ·exact .pure ⟨rfl,B4,G4⟩
    ·rintro ⟨r,c⟩ s4 ⟨hr,B4,G4⟩;dsimp only at hr ⊢;subst hr;dsimp only;refine .bind (.modify (.bind (.modify (.pure ⟨rfl,?_,?_,Bt.push (Bt.mod B4 λx=>⟨rfl,rfl⟩) N1 G4⟩))))
     ·dsimp only;omega
     ·dsimp only;omega
   ·refine .bind (.modify (.pure ⟨rfl,?_,?_,Bt.push B N1 G⟩))
    ·dsimp only;omega
    ·dsimp only;omega
  ·rw [S3 z2];obtain⟨B,G⟩:=b.run h1 ar L p sr n2;have N1:=n1;refine .bind (.get ?_);split
   ·refine .bind (Tm.mono (Tm.range (λj c s4=>c.1=none/\Bt R κ l0 lo s4/\Srt R (seg (S5 s4).toList lo (n))) (Q:=λc s4=>c.1=none/\Bt R κ l0 lo s4/\Srt R (seg (S5 s4).toList lo (n))) (N3 _) ⟨rfl,B,G⟩ ?_ (λ_ _ h=>h)) ?_)
    ·rintro j ⟨r,c⟩ s4 hj ⟨hr,B4,G4⟩;dsimp only at hr ⊢;subst hr;refine .bind (.get ?_);split
     ·rename_i older heq;split
      ·exact .pure ⟨rfl,B4,G4⟩
      ·have two:(B0 s4).size>1:=X4 λz=>by rw [S3 z] at heq;cases heq
       refine .bind (Bt.merge ak o u B4 h1 (by omega) λs5 B5 _ dr=> ?_);refine .pure ⟨rfl,B5,?_⟩;unfold seg at G4 ⊢;rw [dr];exact G4
     ·exact .pure ⟨rfl,B4,G4⟩
    ·rintro ⟨r,c⟩ s4 ⟨hr,B4,G4⟩;dsimp only at hr ⊢;subst hr;dsimp only;refine .bind (.modify (.bind (.modify (.pure ⟨rfl,?_,?_,Bt.push (Bt.mod B4 λx=>⟨rfl,rfl⟩) N1 G4⟩))))
     ·dsimp only;omega
     ·dsimp only;omega
   ·refine .bind (.modify (.pure ⟨rfl,?_,?_,Bt.push B N1 G⟩))
    ·dsimp only;omega
    ·dsimp only;omega
 ·rintro ⟨r,lo⟩ s1 ⟨hr,h1,h2,b⟩;dsimp only at hr h1 h2 b;have:lo=l0.length:=by omega
  subst this;exact⟨hr,b⟩
 ·rintro ⟨r,lo⟩ s1 ⟨hr,b⟩;dsimp only at hr ⊢;subst hr;dsimp only;have le0:=b.stk.le;have lp0:(B0 s1).toList.length=(B0 s1).size:=by simp
  refine .bind (Tm.mono (Tm.range (λj c s4=>c.1=none/\Bt R κ l0 l0.length s4/\(B0 s4).size+j<=l0.length) (Q:=λc s4=>c.1=none/\Bt R κ l0 l0.length s4/\(B0 s4).size<=1) (N3 _) ⟨rfl,b,by omega⟩ ?_ (λc s4 ⟨x,y,z⟩=>⟨x,y,by omega⟩)) ?_)
  ·rintro j ⟨r,c⟩ s4 hj ⟨hr,B4,z4⟩;dsimp only at hr ⊢;subst hr;refine .bind (.get ?_)
   by_cases c1:(B0 s4).size<=1
   ·rw [S2 c1];exact .pure ⟨rfl,B4,c1⟩
   rw [S3 c1];refine .bind (Bt.merge ak o u B4 (P4 _) (K9 (Nat.add_le_add_right (MV _ _) 1) (by omega)) λs5 B5 z5 _=> ?_);exact .pure ⟨rfl,B5,by omega⟩
  ·rintro ⟨r,c⟩ s4 ⟨hr,B4,z4⟩;dsimp only at hr ⊢;subst hr;refine .pure (q s4 B4.failed B4.perm ?_);have stk:=B4.stk;have ln:(S5 s4).toList.length=l0.length:=B4.perm.length_eq;have lp:(B0 s4).toList.length=(B0 s4).size:=by simp
   generalize (B0 s4).toList=pl at stk lp
   match pl,stk,lp with
   | [],e,_=>
    have:l0.length=0:=e.symm;have:(S5 s4).toList= []:=W0.mp (by omega);rw [this];exact .nil
   | [(p,n,_)],⟨e1,_,sr,e2⟩,_=>
    subst e1;have en:n=l0.length:=by have:0+n=l0.length:=e2;omega
    unfold seg at sr;rw [qK,M9 (by omega)] at sr;exact sr
   |_::_::_,_,h=>simp only [R1] at h;omega
end
section
variable {prog:S0}{w:N8}{A:T8}{E:G1->G3->Prop}{s:G3}{κ:SortKind}{U:D3->Prop}{R:D3->D3->N4}
def Af (s:G3)(a:G9)(h':N9):Prop:= ∀b o,b≠a->s.heap.get? b=some o->h'.get? b=some o
def Only (s:G3)(h':N9):G3->Prop:=λs'=> ∃tk,s'= {s with heap:=h',toks:=tk}
theorem MW {M:iA}{α β:Type}{c:Prop}[Decidable c]{m m':Sem α}{F:α->Sem β}{Q:β->G3->Prop}(h:R4 M A ((if c then m else m') >>= F) Q E s):R4 M A (if c then m >>= F else m' >>= F) Q E s:=by
 by_cases z:c
 ·rw [S2 z] at h ⊢;exact h
 ·rw [S3 z] at h ⊢;exact h
theorem Zj (vs:G0 G1):(vs.toArray.zip vs.toArray).toList=vs.map λv=>(v,v):=by
 rw [Array.toList_zip];show vs.zip vs=_
 induction vs with
 |nil=>rfl
 |cons v vs ih=>rw [cH,ih,B2]
theorem CO {R:G1×G1->G1×G1->N4}: ∀l:G0 G1,l.length<2->Srt R (l.map λv=>(v,v))
 | [],_=>iH
 | [_],_=>O4 _ _
theorem MX {a:G9}{vs:G0 G1}{n:G8}{P:Fin->G3->Prop}(ho:s.heap.get? a=some (e8 "list" vs.toArray n))(hz:vs.length<=sizeLine)
 (hk:2<=vs.length-> ∀h',Af s a h'->R4 (S4 prog w) A (qL vs.toArray) (λk s'=>k=κ/\Only s h' s') (λ_ _=>False) {s with heap:=h'})(ak: ∀h',Af s a h'->VF prog w A (Only s h') κ U R)(o:Ordd U R)(u: ∀v∈vs,U (v,v))
 (q: ∀ (out:G0 G1) (c tk:G8) (h':N9),Af s a h'->h'.get? a=some (e8 "list" out.toArray c)->out.Perm vs->(out.map λv=>(v,v)).Pairwise (λx y=>R y x=false)->P (.done (.ret .none)) {s with heap:=h',toks:=tk}):
 R4 (S4 prog w) A (Builtin.«list.sort» ⟨[.ref a],[]⟩) P E s:=by
 have alt:=D8 ho;have sv:vs.toArray.size=vs.length:=D6 ..;rw [list_sort_plain];refine wpAny_bind (rX ho rfl ?_);obtain⟨c1,ho1⟩: ∃c,(s.heap.update a (Y6 λ_=>(#[]:N0 G1))).get? a=some (e8 "list" #[] c):=⟨_,pI ho λ_=> #[]⟩;refine wpAny_bind (qZ ho rfl ?_ (by rw [sv];exact hz) (N3 _));refine wpAny_bind (sR ho1 rfl ?_);refine wpAny_bind (qG ?_ hz);refine wpAny_bind (rA ?_ (N3 _));refine E3 ?_;have past:Af s a (((s.heap.update a (Y6 λ_=>(#[]:N0 G1))).push {cls:= .type "tuple",data:= .seq vs.toArray.toList.toArray}).push {cls:= .type "list",data:= .seq ([]:G0 G1).toArray}):=λb x ne e=>by
  refine G6 _ (G6 _ ?_);rw [fF _ _ _ _ ne];exact e
 have ho3:=G6 ({cls:= .type "list",data:= .seq ([]:G0 G1).toArray}:Obj) (G6 ({cls:= .type "tuple",data:= .seq vs.toArray.toList.toArray}:Obj) ho1);revert past ho3;generalize ((s.heap.update a (Y6 λ_=>(#[]:N0 G1))).push ({cls:= .type "tuple",data:= .seq vs.toArray.toList.toArray}:Obj)).push ({cls:= .type "list",data:= .seq ([]:G0 G1).toArray}:Obj)=H3;intro past ho3;have kd:R4 (S4 prog w) A (if vs.toArray.size<2 then pure general' else qL vs.toArray) (λk s0=>(2<=vs.length->k=κ)/\Only s H3 s0) (λ_ _=>False) {s with heap:=H3}:=by
  by_cases c:vs.toArray.size<2
  ·rw [S2 c];exact P5 ⟨λz=>by omega,s.toks,rfl⟩
  ·rw [S3 c];exact T3 (hk (by omega) H3 past) (λk s0 x=>⟨λ_=>x.1,x.2⟩) λ_ _ e=>e
 have rn: ∀k s0,(2<=vs.length->k=κ)->Only s H3 s0->R4 (S4 prog w) A ((if vs.toArray.size<2 then pure () else sortRuns':V4 B3 Sem Unit).run (SortSt.mk' k (vs.toArray.zip vs.toArray) #[] 7 none)) (λr s'=>(Y4 r.2=none/\(S5 r.2).toList.Perm (vs.map λv=>(v,v))/\Srt R (S5 r.2).toList)/\Only s H3 s') E s0:=by
  intro k s0 ek j
  by_cases c:vs.toArray.size<2
  ·rw [S2 c,StateT.run_pure];refine P5 ⟨⟨rfl,?_,?_⟩,j⟩
   ·show (vs.toArray.zip vs.toArray).toList.Perm _;rw [Zj]
   ·show Srt R (vs.toArray.zip vs.toArray).toList;rw [Zj];rw [sv] at c;exact CO vs c
  ·rw [S3 c];have ek:=ek (by omega);subst ek;refine CM (E:=E) (ak H3 past) o (l0:=vs.map λv=>(v,v)) (st:=SortSt.mk' k (vs.toArray.zip vs.toArray) #[] 7 none) (λx hx=> ?_) rfl rfl rfl (Zj vs) (Q:=λ_ st'=>Y4 st'=none/\(S5 st').toList.Perm (vs.map λv=>(v,v))/\Srt R (S5 st').toList) (λst' a1 a2 a3=>⟨a1,a2,a3⟩) s0 j;obtain⟨v,hv,rfl⟩:=N6.mp hx;exact u v hv
 dsimp only;refine MW (wpAny_bind (T3 kd (λk s0 x=> ?_) λ_ _ e=>e.elim));refine wpAny_bind (T3 (rn k s0 x.1 x.2) ?_ λ_ _ e=>e);rintro ⟨⟨⟩,st'⟩ s1 ⟨⟨hf,hp,hs⟩,tk,rfl⟩;dsimp only;have eo:((S5 st').map λx=>x.2)=((S5 st').toList.map λx=>x.2).toArray:=by
  rw [<-Array.toList_map,Array.toArray_toList]
 have two:(S5 st').toList=((S5 st').toList.map λx=>x.2).map λv=>(v,v):=by
  rw [M7];refine(Y3 _).symm.trans (B7 λx hx=> ?_);obtain⟨v,_,rfl⟩:=N6.mp (hp.mem_iff.mp hx);rfl
 have po:((S5 st').toList.map λx=>x.2).Perm vs:=by
  have:=hp.map λx=>x.2
  rw [M7] at this;refine this.trans ?_;rw [show ((λx:D3=>x.2)∘λv:G1=>(v,v))=id from rfl,Y3]
 rw [two] at hs;rw [eo];generalize (S5 st').toList.map (λx=>x.2)=out at hs po;obtain⟨c2,ho4⟩: ∃c,(H3.update a (Y6 λ_=>out.toArray)).get? a=some (e8 "list" out.toArray c):=⟨_,pI ho3 λ_=>out.toArray⟩;refine wpAny_bind (sR (s:= {s with heap:=H3,toks:=tk}) ho3 rfl ?_);refine wpAny_bind (qZ (s:= {s with heap:=H3,toks:=tk}) ho3 rfl ?_ (N3 _) (by rw [D6,po.length_eq];exact Nat.le_succ_of_le hz));rw [hf];simp only [nV,mR,iY];refine P5 (q out c2 tk _ (λb x ne e=> ?_) ho4 po hs);rw [fF _ _ _ _ ne];exact past b x ne e
abbrev ZO (h h':N9):Prop:= ∀b o,h.get? b=some o->h'.get? b=some o
theorem GL {l:G9}{vs:G0 G1}{Q:G1->G3->Prop}(hl:s.heap.IsList l vs.toArray)(hz:vs.length<sizeLine)
 (hk:2<=vs.length-> ∀h',ZO s.heap h'->R4 (S4 prog w) A.in1.in1 (qL vs.toArray) (λk s'=>k=κ/\Only s h' s') (λ_ _=>False) {s with heap:=h'})(ak: ∀h',ZO s.heap h'->VF prog w A.in1.in1 (Only s h') κ U R)(o:Ordd U R)(u: ∀v∈vs,U (v,v))
 (q: ∀ (h1 h':N9) (tk c:G8) (out:G0 G1),ZO s.heap h1->ZO h1 h'->h'.get? h1.objs.size=some (e8 "list" out.toArray c)->out.Perm vs->(out.map λv=>(v,v)).Pairwise (λx y=>R y x=false)->Q (.ref h1.objs.size) {s with heap:=h',toks:=tk}):
 R4 (S4 prog w) A (call (.builtin "sorted") [.ref l]) Q E s:=by
 refine Calls.call_function_entry kind_sorted plain_sorted entry_sorted (args_sorted1 _) (wpAny_bind (P5 (wpAny_bind (collect_list hl ?_ (by omega)))));have k1:ZO s.heap ((s.heap.push (e8 "list" #[] 0)).update s.heap.objs.size (Y6 (· ++vs.toArray))):=λb x e=>by
  rw [fF _ _ _ _ (T5 (D8 e))];exact G6 _ e
 revert k1;generalize (s.heap.push (e8 "list" #[] 0)).update s.heap.objs.size (Y6 (· ++vs.toArray))=H1;intro k1;have fresh:(H1.push (e8 "list" vs.toArray 0)).get? H1.objs.size=some (e8 "list" vs.toArray 0):=R8 _ rfl;have kp: ∀h',Af {s with heap:=H1.push (e8 "list" vs.toArray 0)} H1.objs.size h'->ZO H1 h':=λh' p b x e=>p b x (T5 (D8 e)) (G6 _ e)
 refine wpAny_bind (rA (wpAny_bind (E3 (K2 slot_list_sort ⟨_,fresh,rfl⟩ entry_list_sort (MX (s:= {s with heap:=H1.push (e8 "list" vs.toArray 0)}) (κ:=κ) (U:=U) (R:=R) fresh (R9 hz) (λh2 h' p=>hk h2 h' λb x e=>kp h' p b x (k1 b x e)) (λh' p=>ak h' λb x e=>kp h' p b x (k1 b x e)) o u λout c tk h' p e1 e2 e3=>⟨_,rfl,?_⟩) (args_list_sort _)))) (R9 hz));exact P5 ⟨_,rfl,q H1 h' tk c out k1 (kp h' p) e1 e2 e3⟩
end
theorem Zk: ∀a b:G0 P0,jV a b=true->jV b a=false
 | [],[],h=>rfl
 | [],_::_,_=>rfl
 |_::_,[],h=>by cases h
 |x::xs,y::ys,h=>by
  unfold jV at h ⊢
  by_cases e:x=y
  ·subst e;rw [S2 rfl] at h ⊢;exact Zk xs ys h
  ·rw [S3 e] at h;rw [S3 (K6 e)];have:=H0 h;exact D1 (by omega)
theorem WM: ∀a b c:G0 P0,jV a c=true->jV a b=true\/jV b c=true
 | [],[],c,h=> .inr h
 | [],_::_,_,_=> .inl rfl
 |_::_,_,[],h=>by cases h
 |x::xs,[],z::zs,h=> .inr rfl
 |x::xs,y::ys,z::zs,h=>by
  unfold jV at h ⊢
  by_cases e:x=z
  ·subst e;rw [S2 rfl] at h
   by_cases f:x=y
   ·subst f;rw [S2 rfl,S2 rfl];exact WM xs ys zs h
   ·rw [S3 f,S3 (K6 f)]
    by_cases g:x<y
    ·exact .inl (D0 g)
    ·exact .inr (D0 (by omega))
  ·rw [S3 e] at h;have lt:=H0 h
   by_cases f:x=y
   ·subst f;rw [S3 e];exact .inr h
   ·rw [S3 f]
    by_cases g:x<y
    ·exact .inl (D0 g)
    ·refine .inr ?_;rw [S3 (by omega)];exact D0 (by omega)
theorem WN: ∀a b:G0 P0,jV a b=false->jV b a=false->a=b
 | [],[],_,_=>rfl
 | [],_::_,h,_=>by cases h
 |_::_,[],_,h=>by cases h
 |x::xs,y::ys,h,h'=>by
  unfold jV at h h'
  by_cases e:x=y
  ·subst e;rw [S2 rfl] at h h';rw [WN xs ys h h']
  ·rw [S3 e] at h;rw [S3 (K6 e)] at h';have:=gR h;have:=gR h';omega
theorem Ri {U:D3->Prop}(key:G1->G0 P0):Ordd U (λx y=>jV (key x.1) (key y.1)):=⟨λx y _ _ h=>Zk _ _ h,λx y z _ _ _ h=>WM _ _ _ h⟩
def IT (h:N9)(v:G1)(ns:G0 P0):Prop:= ∃a its,v= .ref a/\mU h a its/\V9 its.toList ns
theorem IT.keeps {h h':N9}{v:G1}{ns:G0 P0}(x:IT h v ns)(k:ZO h h'):IT h' v ns:=let ⟨a,its,e,t,i⟩:=x;⟨a,its,e,t.keeps k,i⟩
theorem Ga: ∀ {vs:G0 G1} {ns ms:G0 P0},V9 vs ns->V9 vs ms->ns=ms
 |_,_,_,.nil,.nil=>rfl
 |_,_,_,.cons n t a,.cons _ _ b=>by rw [Ga a b]
theorem IT.one {h:N9}{v:G1}{ns ms:G0 P0}(x:IT h v ns)(y:IT h v ms):ns=ms:=by
 obtain⟨a,its,rfl,⟨o,e,c,n,d⟩,i⟩:=x;obtain⟨a',its',e2,⟨o',e',c',n',d'⟩,i'⟩:=y;cases e2;rw [e] at e';cases e';rw [d] at d';cases d';exact Ga i i'
open Classical in
noncomputable def zA (h:N9)(v:G1):G0 P0:=if e: ∃ns,IT h v ns then e.choose else []
theorem IT.nums {h:N9}{v:G1}{ns:G0 P0}(x:IT h v ns):zA h v=ns:=by
 have e: ∃ns,IT h v ns:=⟨ns,x⟩;unfold zA;rw [rW e];exact e.choose_spec.one x
section
variable {prog:S0}{w:N8}{A:T8}{E:G1->G3->Prop}{s:G3}
theorem JF {α β:Type}{M:iA}{f:α->Sem β}(r:α->β): ∀ (l:G0 α) {Q:G0 β->G3->Prop},(∀v∈l,∀Q':β->G3->Prop,Q' (r v) s->R4 M A (f v) Q' E s)->Q (l.map r) s->R4 M A (l.mapM f) Q E s
 | [],_,_,q=>by
  rw [List.mapM_nil];exact P5 q
 |v::l,Q,hf,q=>by
  rw [List.mapM_cons];refine wpAny_bind (hf v R7 _ (wpAny_bind ?_));exact JF r l (λu hu=>hf u (S6 _ hu)) (P5 q)
def zH (h:N9):G1->P8 G1
 | .ref a=>match h.get? a with
  |some o=>match o.data with
   | .seq xs _=>xs[0]?
   |_=>none
  |none=>none
 |_=>none
variable {v:G1}{ns:G0 P0}
theorem MY {Q:P8 G1->G3->Prop}(x:IT s.heap v ns)(q:Q (zH s.heap v) s):R4 (S4 prog w) A (firstOfTuple' v) Q E s:=by
 obtain⟨a,its,rfl,⟨o,e,c,n,d⟩,i⟩:=x;have fe:zH s.heap (.ref a)=its[0]? :=by
  unfold zH;dsimp only;rw [e];dsimp only;rw [d]
 rw [sS];refine wpAny_bind (mT (show rB (S4 prog w) s.heap (tJ (.ref a)) o.cls from (oP e).andThen .now) ?_);rw [c,S3 (by decide)];refine wpAny_bind (rX e d (P5 ?_));rw [<-fe];exact q
variable {h:N9}
theorem GM (x:IT h v []):zH h v=none:=by
 obtain⟨a,its,rfl,⟨o,e,c,n,d⟩,i⟩:=x;unfold zH;dsimp only;rw [e];dsimp only;rw [d];dsimp only;obtain⟨l⟩:=its;cases i;rfl
theorem YZ {n:P0}(x:IT h v (n::ns)): ∃t,zH h v=some (.int n t):=by
 obtain⟨a,its,rfl,⟨o,e,c,k,d⟩,i⟩:=x;obtain⟨l⟩:=its;cases i with
 |cons _ t i=>exact⟨t,by unfold zH;dsimp only;rw [e];dsimp only;rw [d];rfl⟩
theorem MZ (x:IT h v ns):(zH h v).isSome= !ns.isEmpty:=by
 cases ns with
 |nil=>rw [GM x];rfl
 |cons n ns=>obtain⟨t,e⟩:=YZ x;rw [e];rfl
noncomputable def Rj (h:N9)(vs:G0 G1):SortKind:=
 if (vs.all λv=> !(zA h v).isEmpty)=true then tuples' true else if ((vs[0]?.map λv=> !(zA h v).isEmpty)=some true) then general' else oneType'
theorem Rk {vs:G0 G1}(h2:2<=vs.length)(x: ∀v∈vs,∃ns,IT h v ns){Q:SortKind->G3->Prop}(e:ZO h s.heap)(q:Q (Rj h vs) s):R4 (S4 prog w) A (qL vs.toArray) Q E s:=by
 have fr: ∀v∈vs,(zH s.heap v).isSome= !(zA h v).isEmpty:=λv hv=>by
  obtain⟨ns,t⟩:=x v hv;rw [t.nums,MZ (t.keeps e)]
 rw [keyKind'_eq,iI,map_eq_pure_bind];refine wpAny_bind (wpAny_bind (JF (zH s.heap) vs (λv hv Q' q'=> ?_) (P5 ?_)))
 ·obtain⟨ns,t⟩:=x v hv;exact MY (t.keeps e) q'
 have all_:((vs.map (zH s.heap)).toArray.all λo=>o.isSome)=vs.all λv=> !(zA h v).isEmpty:=by
  rw [i7,K8];rw [F8,S8,S8];exact⟨λz v hv=>by rw [<-fr v hv];exact z v hv,λz v hv=>by show (zH s.heap v).isSome=true;rw [fr v hv];exact z v hv⟩
 rw [all_];unfold Rj at q
 by_cases a1:(vs.all λv=> !(zA h v).isEmpty)=true
 ·rw [S2 a1] at q;rw [S2 a1];refine wpAny_bind (dN ?_);obtain⟨fs,efs,nums,ne⟩: ∃fs:G0 G1,vs.map (zH s.heap)=fs.map some/\(∀f∈fs,∃n t,f=aX n t)/\fs.length=vs.length:=by
   have go: ∀l:G0 G1,(∀v∈l,v∈vs)-> ∃fs:G0 G1,l.map (zH s.heap)=fs.map some/\(∀f∈fs,∃n t,f=aX n t)/\fs.length=l.length:=by
    intro l
    induction l with
    |nil=>exact λ_=>⟨[],rfl,λf hf=>absurd hf T9,rfl⟩
    |cons v l ih=>
     intro sub;obtain⟨fs,e1,e2,e3⟩:=ih λu hu=>sub u (S6 _ hu)
     have hv:=sub v R7;obtain⟨ns,t⟩:=x v hv;have ne:=S8.mp a1 v hv;rw [t.nums] at ne;cases ns with
     |nil=>cases ne
     |cons n ns=>
      obtain⟨tk,ef⟩:=YZ (t.keeps e);refine⟨.int n tk::fs,by rw [B2,B2,ef,e1],λf hf=> ?_,by rw [R1,R1,e3]⟩;rcases D2.mp hf with rfl|hf
      ·exact⟨n,tk,rfl⟩
      ·exact e2 f hf
   exact go vs λ_ hv=>hv
  rw [efs];have fm:((fs.map some).toArray.filterMap id)=fs.toArray:=by simp
  rw [fm,pJ,iI,map_eq_pure_bind];refine wpAny_bind (wpAny_bind (wpAny_bind (JF (λ_=>Q5 "int") fs (λf hf Q' q'=> ?_) (P5 ?_))))
  ·obtain⟨n,t,rfl⟩:=nums f hf;exact P5 q'
  ·match fs,ne with
   | [],ne=>rw [N2] at ne;omega
   |f::fs,_=>
    have h0:(i4 (λ_=>Q5 "int") (f::fs)).toArray[0]? =some (Q5 "int"):=by simp
    have h1:((i4 (λ_=>Q5 "int") (f::fs)).toArray.all λy=>y==Q5 "int")=true:=by
     rw [i7,K8,S8];exact λ_ _=>rfl
    rw [h0];simp only [h1,cX];exact P5 (P5 q)
 rw [S3 a1] at q;rw [S3 a1]
 match vs,h2,x,fr,q with
 |v::vs,h2,x,fr,q=>
  have h0:((i4 (zH s.heap) (v::vs)).toArray[0]?.bind id).isSome= !(zA h v).isEmpty:=by
   rw [<-fr v R7];simp
  rw [h0];have h0':(((v::vs)[0]?.map λv=> !(zA h v).isEmpty)=some true)↔(!(zA h v).isEmpty)=true:=by simp
  by_cases a2:(!(zA h v).isEmpty)=true
  ·rw [S2 (h0'.mpr a2)] at q;rw [S2 a2];exact P5 q
  rw [S3 λz=>a2 (h0'.mp z)] at q;rw [S3 a2];rw [pJ,iI,map_eq_pure_bind];refine wpAny_bind (wpAny_bind (wpAny_bind (JF (λ_=>Q5 "tuple") (v::vs) (λf hf Q' q'=> ?_) (P5 ?_))))
  ·obtain⟨ns,t⟩:=x f hf;obtain⟨a,its,rfl,⟨o,e1,c,n,d⟩,i⟩:=t.keeps e;refine mT (show rB (S4 prog w) s.heap (tJ (.ref a)) o.cls from (oP e1).andThen .now) ?_;rw [c];exact q'
  ·have h3:(i4 (λ_=>Q5 "tuple") (v::vs)).toArray[0]? =some (Q5 "tuple"):=by simp
   have h1:((i4 (λ_=>Q5 "tuple") (v::vs)).toArray.all λy=>y==Q5 "tuple")=true:=by
    rw [i7,K8,S8];exact λ_ _=>rfl
   rw [h3];simp only [h1,cX];exact P5 (P5 q)
theorem Gb {fin:N4}{Q:N4->G3->Prop}{m n:G8}(ef:fin=decide (m<n)): ∀ {vs us:G0 G1} {ns ms:G0 P0} (i:G8),V9 vs ns->V9 us ms->ns.length+n=ms.length+m->Q (jV ns ms) s->v5 prog w A true fin Q (vs.zip us) i s
 |_,_,_,_,i,.nil,.nil,l,q=>by
  subst ef;rw [iD];refine kQ ?_;rw [D1 (by rw [N2] at l;omega)];exact q
 |_,_,_,_,i,.nil,.cons c u y,l,q=>by
  subst ef;rw [iD];refine kQ ?_;rw [D0 (by rw [N2,R1] at l;omega)];exact q
 |_,_,_,_,i,.cons a t x,.nil,l,q=>by
  subst ef;rw [mO];refine kQ ?_;rw [D1 (by rw [N2,R1] at l;omega)];exact q
 |_,_,_,_,i,.cons a t x,.cons c u y,l,q=>by
  rw [cH];rw [YD] at q;obtain⟨e,he,hiff⟩:=Qs A s a t c u;refine uN (he prog w _ _ ?_);refine v6 (λz=>uS ?_) λz=>v7 ?_
  ·rw [S2 (hiff.mp z)] at q;exact Gb ef (i+1) x y (by rw [R1,R1] at l;omega) q
  ·rw [S3 λz'=>by rw [hiff.mpr z'] at z;cases z] at q;cases (true&&i==0) with
   |true=>exact oneLt_int q
   |false=>exact pK _ _ (l9 q)
theorem Ag {u:G1}{ms:G0 P0}{Q:N4->G3->Prop}(hu:A.units<cLine)(x:IT s.heap v ns)(y:IT s.heap u ms)(q:Q (jV ns ms) s):R4 (S4 prog w) A (v9 true v u) Q E s:=by
 obtain⟨a,its,rfl,⟨⟨cls,dd,data,sl⟩,e1,c,n,d⟩,i⟩:=x;obtain⟨b,its2,rfl,⟨⟨cls2,dd2,u3,sl2⟩,e2,c2,n2,d2⟩,i2⟩:=y;simp only at c d c2 d2;subst c d c2 d2;rw [oneLt'_eq];simp only [cX];refine wpAny_bind (wpAny_cRoomFor hu (wpAny_bind (wpAny_callSpecialIfBound?_slot ⟨_,e1,rfl⟩ dL (gA dL ⟨_,e1,rfl⟩ i9 (iV _ _) (Jq a b its its2 n n2 dd dd2 sl sl2 ns ms i i2) ⟨e1,e2,?_⟩))));exact A1 q
theorem Ah {u:G1}{ms:G0 P0}{Q:N4->G3->Prop}(hu:A.units<cLine)(x:IT s.heap v ns)(y:IT s.heap u ms)(q:Q (jV ns ms) s):R4 (S4 prog w) A (v9 false v u) Q E s:=by
 obtain⟨a,its,rfl,t,i⟩:=x;obtain⟨b,its2,rfl,t2,i2⟩:=y;exact pK _ _ (Gn t t2 i i2 hu q)
theorem Rl {vs:G0 G1}(hu:A.units<cLine){h':N9}(k:ZO s.heap h'):VF prog w A (Only s h') (Rj s.heap vs) (λx=> ∃ns,IT s.heap x.1 ns) (λx y=>jV (zA s.heap x.1) (zA s.heap y.1)):=by
 rintro ⟨x,x'⟩ ⟨y,y'⟩ ⟨ns,tx⟩ ⟨ms,ty⟩ s1 ⟨tk,rfl⟩;dsimp only at tx ty ⊢;have q:(jV ns ms=jV (zA s.heap x) (zA s.heap y)/\Only s h' {s with heap:=h',toks:=tk}):=⟨by rw [tx.nums,ty.nums],tk,rfl⟩;have kx:=tx.keeps k;have ky:=ty.keeps k;unfold Rj
 by_cases a1:(vs.all λv=> !(zA s.heap v).isEmpty)=true
 ·rw [S2 a1];obtain⟨a,its,rfl,⟨o,e1,c,n,d⟩,i⟩:=kx;obtain⟨b,its2,rfl,⟨o2,e2,c2,n2,d2⟩,i2⟩:=ky;refine w6 e1 d e2 d2 (Gb rfl 0 i i2 ?_ q);have z1:=i.length;have z2:=i2.length;rw [C7] at z1 z2;omega
 rw [S3 a1]
 by_cases a2:(vs[0]?.map λv=> !(zA s.heap v).isEmpty)=some true
 ·rw [S2 a2];show R4 _ _ (v9 false x y) _ _ _;exact Ah hu kx ky q
 ·rw [S3 a2,keyLt'_oneType];exact Ag hu kx ky q
theorem XV {l:G9}{vs:G0 G1}{Q:G1->G3->Prop}(hu:A.in1.in1.units<cLine)(hl:s.heap.IsList l vs.toArray)(hz:vs.length<sizeLine)(x: ∀v∈vs,∃ns,IT s.heap v ns)
 (q: ∀ (h1 h':N9) (tk c:G8) (out:G0 G1),ZO s.heap h1->ZO h1 h'->h'.get? h1.objs.size=some (e8 "list" out.toArray c)->out.Perm vs->out.Pairwise (λx y=>jV (zA s.heap y) (zA s.heap x)=false)->Q (.ref h1.objs.size) {s with heap:=h',toks:=tk}):
 R4 (S4 prog w) A (call (.builtin "sorted") [.ref l]) Q E s:=by
 refine GL (κ:=Rj s.heap vs) (U:=λx=> ∃ns,IT s.heap x.1 ns) (R:=λx y=>jV (zA s.heap x.1) (zA s.heap y.1)) hl hz (λh2 h' k=> ?_) (λh' k=>Rl hu k) (Ri _) x λh1 h' tk c out k1 k2 e1 e2 e3=>q h1 h' tk c out k1 k2 e1 e2 ?_
 ·exact Rk (s:= {s with heap:=h'}) h2 x k ⟨rfl,s.toks,rfl⟩
 ·rw [Y2] at e3;exact e3
end
end HT
namespace L2
open PySem PySem.Spec PyProof.Rows PySem.SeqAt HT
theorem WO {α β:Type}{f:α->β}: ∀ {out:G0 β} {l:G0 α},out.Perm (l.map f)-> ∃l':G0 α,l'.Perm l/\l'.map f=out
 | [],l,p=>by
  have e:=p.length_eq;rw [G7,N2] at e;exact⟨[],by rw [eI e.symm],rfl⟩
 |x::out,l,p=>by
  obtain⟨y,hy,rfl⟩:=N6.mp (p.mem_iff.mp R7);obtain⟨l1,l2,rfl⟩:=List.append_of_mem hy;have p2:out.Perm ((l1++l2).map f):=by
   refine tX (a:=f y) (p.trans ?_);rw [J8,J8,B2];exact oQ
  obtain⟨l',a,b⟩:=WO p2;exact⟨y::l',(a.cons y).trans oQ.symm,by rw [B2,b]⟩
def Sb (H:Hp)(v:V)(ns:G0 P0):Prop:= ∃a,v= .ref a/\H a=some (.tup (ns.map V.int))
theorem UP {X:Cx}{k:G8}(hr:Room k X.A):CallR X (.builtin "sorted") (λxs H Q=> ∃ (a:G9) (ps:G0 (V×G0 P0)),xs= [.ref a]/\SqL X.K H a (ps.map (·.1))/\ps.length<sizeLine/\(∀p∈ps,Sb H p.1 p.2)/\ ∀ (q:G9) (ps':G0 (V×G0 P0)),H q=none->ps'.Perm ps->(ps'.map (·.2)).Pairwise (λx y=>HT.jV y x=false)->Q (.ref q) (upd H q (.lst (ps'.map (·.1))))):=by
 intro pins s σ H xs us Q I r h;obtain⟨a,ps,rfl,hS,hz,ht,q⟩:=h;obtain⟨u,rfl,ru⟩:=Jp r;cases ru;obtain⟨its,rv,pl,hz'⟩:=I.list hS;obtain⟨zs,e1,e2,e3⟩: ∃zs:G0 (G1×V×G0 P0),its=zs.map (·.1)/\ps=zs.map (·.2)/\ ∀z∈zs,RelV z.2.1 z.1:=by
  clear hS q hz ht hz' pl
  induction ps generalizing its with
  |nil=>cases rv;exact⟨[],rfl,rfl,λz hz=>by cases hz⟩
  |cons p ps ih=>
   rw [B2] at rv;cases rv with
   |cons r1 r2=>
    obtain⟨zs,e1,e2,e3⟩:=ih _ r2;exact⟨(_,p)::zs,by rw [B2,<-e1],by rw [B2,<-e2],λz hz=>by
     rcases D2.mp hz with rfl|hz
     ·exact r1
     ·exact e3 z hz⟩
 subst e1 e2;have it: ∀z∈zs,IT s.heap z.1 z.2.2:=λz hm=>by
  obtain⟨b,eb,hb⟩:=ht z.2 (mB hm);have rz:=e3 z hm;rw [eb] at rz;have rz:z.1= .ref b:=rz;obtain⟨_,us,r2,p⟩:=I.hok b _ hb;exact⟨b,us.toArray,rz,p.tup,Wx r2⟩
 have hu:X.A.in1.in1.units<cLine:=by
  have:=hr.un;show X.A.units+1+1<cLine;omega
 rw [G7] at hz;refine HT.XV hu pl.isList (by rw [G7];exact hz) (λv hv=> ?_) λh1 h' tk c out k1 k2 e4 pm srt=> ?_
 ·obtain⟨z,hm,rfl⟩:=N6.mp hv;exact⟨_,it z hm⟩
 obtain⟨zs',pz,rfl⟩:=WO pm;have I1:=I.kept (t':=s.toks) k1;have vv: ∀l:G0 (G1×V×G0 P0),(∀z∈l,z∈zs)->Vals ((l.map (·.2)).map (·.1)) (l.map (·.1)):=λl=>by
  induction l with
  |nil=>exact λ_=> .nil
  |cons z l ih=>exact λsub=> .cons (e3 z (sub z R7)) (ih λy hy=>sub y (S6 _ hy))
 refine⟨.ref _,_,I1.laid (t':=tk) (o:= .lst ((zs'.map (·.2)).map (·.1))) k2 (P4 _) ⟨?_,_,c,vv zs' λz hm=>pz.mem_iff.mp hm,e4⟩,rfl,q _ (zs'.map (·.2)) (I1.hok.fresh (P4 _)) (pz.map _) ?_⟩
 ·rw [G7,G7,pz.length_eq];exact R9 hz
 ·rw [Y2,Y2];rw [Y2] at srt;refine srt.imp_of_mem λ{y z} hy hz e=> ?_
  rw [<- (it y (pz.mem_iff.mp hy)).nums,<- (it z (pz.mem_iff.mp hz)).nums];exact e
abbrev tI (ns:G0 P0):D:= .tup (ns.map D.int)
def CP:RDn:=λds h Q=> ∃ (a:G9) (nss:G0 (G0 P0)),ds= [.lst a]/\h a=some (nss.map tI)/\nss.length<sizeLine/\ ∀ (p:G9) (mss:G0 (G0 P0)),h p=none->mss.Perm nss->mss.Pairwise (λx y=>HT.jV y x=false)->Q (.lst p) (zV h p (mss.map tI))
theorem Rm {K:G2}{H:Hp}: ∀ {nss:G0 (G0 P0)} {vs:G0 V},RelDs K H (nss.map tI) vs-> ∃ps:G0 (V×G0 P0),vs=ps.map (·.1)/\nss=ps.map (·.2)/\ ∀p∈ps,Sb H p.1 p.2
 | [],vs,r=>⟨[],r,rfl,λp hp=>by cases hp⟩
 |ns::nss,vs,r=>by
  obtain⟨v,us,e,r1,r2⟩:=(show ∃v r,vs=v::r/\RelD K H (tI ns) v/\RelDs K H (nss.map tI) r from r);obtain⟨ps,e1,e2,e3⟩:=Rm r2;obtain⟨a,ws,e4,hH,r4⟩:=(show ∃a vs,v= .ref a/\H a=some (.tup vs)/\RelDs K H (ns.map D.int) vs from r1);rw [zN r4] at hH;exact⟨(v,ns)::ps,by rw [e,e1];rfl,by rw [e2];rfl,λp hp=>by
   rcases D2.mp hp with rfl|hp
   ·exact⟨a,e4,hH⟩
   ·exact e3 p hp⟩
theorem Rn {K:G2}{H:Hp}: ∀ {ps:G0 (V×G0 P0)},(∀p∈ps,Sb H p.1 p.2)->RelDs K H ((ps.map (·.2)).map tI) (ps.map (·.1))
 | [],_=> .nil
 |p::ps,h=> .cons (by
  obtain⟨a,e,hH⟩:=h p R7;exact⟨a,_,e,hH,vC _⟩) (Rn λq hq=>h q (S6 _ hq))
theorem GN {X:Cx}{k:G8}(hr:Room k X.A):ye X (.builtin "sorted") CP:=(UP hr).imp λxs H Q ⟨ds,h,Qd,r,rh,⟨a,nss,e,hd,hz,q⟩,p⟩=>by
 subst e;obtain⟨v,e,r1⟩:=jB r;obtain⟨vs,hH,r2⟩:=rh a _ hd;have e1:v= .ref a:=r1.1;subst e e1;obtain⟨ps,rfl,rfl,ht⟩:=Rm r2;refine⟨a,ps,rfl,SqL.of hH,by rw [G7] at hz;exact hz,ht,λc ps' hc pm srt=> ?_⟩;exact p (.lst c) _ _ _ (.new hc) (rh.newL hc (Rn λx hx=>ht x (pm.mem_iff.mp hx))) ⟨rfl,_,jn⟩ (q c _ (rh.free hc) (pm.map _) srt)
def wH:G8->G0 (G0 G8)
 |0=> [[]]
 |k+1=>wH k++(wH k).map λS=>S++ [k]
theorem WP: ∀n,(wH n).length=2^n
 |0=>rfl
 |k+1=>by
  show (wH k++(wH k).map λS=>S++ [k]).length=_;rw [P7,G7,WP k,rY];omega
theorem Wd: ∀ {n:G8} {S:G0 G8},S∈wH n->IsS n S
 |0,S,h=>by
  rw [show wH 0= [[]] from rfl,P3] at h;subst h;exact IsS.nil 0
 |k+1,S,h=>by
  rcases D5.mp (show S∈wH k++(wH k).map λS=>S++ [k] from h) with h|h
  ·exact(Wd h).more false
  ·obtain⟨S',h',rfl⟩:=N6.mp h;exact(Wd h').more true
theorem WQ: ∀ {n:G8} (p:G8->N4),(R6 n).filter p∈wH n
 |0,p=>P3.mpr rfl
 |k+1,p=>by
  show _∈wH k++(wH k).map λS=>S++ [k]
  rw [eQ,gK,D5];cases e:p k with
  |false=>
   left;rw [show [k].filter p= [] by simp [e],J6];exact WQ p
  |true=>
   right;rw [show [k].filter p= [k] by simp [e]];exact N6.mpr ⟨_,WQ p,rfl⟩
theorem Ro {n:G8}{S:G0 G8}:S∈wH n↔IsS n S:=⟨Wd,λ⟨p,e⟩=>by rw [e];exact WQ p⟩
abbrev toI (S:G0 G8):G0 P0:=S.map λ(k:G8)=>(k:P0)
theorem CQ {S S':G0 G8}(h:toI S=toI S'):S=S':=by
 have:=congrArg (i4 fM) h;rw [M7,M7] at this;have e:(fM∘λ(k:G8)=>(k:P0))=id:=by funext k;exact aP k
 rw [e,Y3,Y3] at this;exact this
theorem NI (S:G0 G8):tI (toI S)=jJ S:=by
 show D.tup _=D.tup _;rw [M7];rfl
def leS (a b:G0 G8):N4:= !HT.jV (toI b) (toI a)
theorem Rp (a b c:G0 G8)(h:leS a b=true)(h':leS b c=true):leS a c=true:=by
 unfold leS at*
 cases e:HT.jV (toI c) (toI a) with
 |false=>rfl
 |true=>
  rcases WM _ (toI b) _ e with z|z
  ·rw [z] at h';cases h'
  ·rw [z] at h;cases h
theorem Rq (a b:G0 G8):(leS a b||leS b a)=true:=by
 unfold leS;cases e:HT.jV (toI b) (toI a) with
 |false=>rfl
 |true=>rw [Zk _ _ e];rfl
theorem Na {a b:G0 G8}(h:leS a b=true)(h':leS b a=true):a=b:=by
 unfold leS at*
 refine CQ (WN _ _ ?_ ?_)
 ·cases e:HT.jV (toI a) (toI b) with
  |false=>rfl
  |true=>rw [e] at h';cases h'
 ·cases e:HT.jV (toI b) (toI a) with
  |false=>rfl
  |true=>rw [e] at h;cases h
def Rr (l:G0 (G0 G8)):G0 (G0 G8):=l.mergeSort leS
theorem Va (l:G0 (G0 G8)):(Rr l).Perm l:=List.mergeSort_perm _ _
theorem GO (l:G0 (G0 G8)):(Rr l).Pairwise λa b=>leS a b=true:=List.pairwise_mergeSort Rp Rq l
theorem Rs {l P:G0 (G0 G8)}(p:P.Perm l)(r:P.Pairwise λa b=>leS a b=true):P=Rr l:=
 rC (λa b _ _ x y=>Na x y) r (GO l) (p.trans (Va l).symm)
theorem Rt {l:G0 (G0 G8)}{mss:G0 (G0 P0)}(p:mss.Perm (l.map toI))(r:mss.Pairwise λx y=>HT.jV y x=false):mss.map tI=(Rr l).map jJ:=by
 obtain⟨P,pP,rfl⟩:=WO p;rw [Y2] at r;rw [<-Rs pP (r.imp λe=>by unfold leS;rw [e];rfl),M7];exact B7 λS _=>NI S
def GP (n:G8):G0 (G0 G8):=Rr (wH n)
theorem setsS_mem {n:G8}{S:G0 G8}:S∈GP n↔IsS n S:=(Va _).mem_iff.trans Ro
end L2
namespace L2
open PySem PySem.Spec PyProof.Rows PySem.SeqAt
theorem Sub.over {h h':HD}{a:G9}{ds:G0 D}(sb:Sub h h')(e:h a=none):Sub h (zV h' a ds):=⟨λb xs k=>jj (λz=>by subst z;rw [e] at k;cases k) (sb b xs k),sb.dc⟩
theorem CT {h:HD}{A B:G9}{S:G0 G8}{Q:KD}(k:h A=some (S.map λ(k:G8)=>D.int (k:P0)))(k':h B=some [])(q:Q (.bl (decide (S= []))) h):eqE (.lst A) (.lst B) h Q:=by
 refine⟨.list ((vJ S).map .int),.list [],⟨A,_,rfl,k,?_⟩,⟨B,_,rfl,k',rfl⟩,WC _,by decide +kernel,?_⟩
 ·have:=wv h (vJ S);unfold vJ at this ⊢;rw [M7 (f:=λ(k:G8)=>(k:P0)) (g:=D.int)] at this;exact this
 ·cases S with
  |nil=>exact q
  |cons x S=>exact q
def wk (T:G0 (G0 P0)):G8->G8->G8->N4
 |0,i,j=>decide (i=j)|| !decide (ent T i j=0)
 |b+1,i,j=>wk T b i j||(wk T b i b&&wk T b b j)
def fW (T:G0 (G0 P0))(b i j x y:G8):N4:=if x<i\/(x=i/\y<j) then wk T (b+1) x y else wk T b x y
def arrB (T:G0 (G0 P0))(i j:G8):N4:=decide (ent T i j>0)
theorem encO:Enc jJ QM:=⟨XO,λS=>YU _,λS=>T6 (UJ _) (by decide),DL⟩
theorem ways_ord (W:G0 G8):jG (jJ W)=W:=by
 show (W.map λ(k:G8)=>D.int (k:P0)).map vd=W;rw [M7];have:(vd∘λ(k:G8)=>D.int (k:P0))=id:=by funext k;rfl
 rw [this,Y3]
end L2
namespace HT
open PySem PySem.Spec PyProof.Rows
section
variable {prog:S0}{w:N8}{A:T8}{E:G1->G3->Prop}{s:G3}{h0:N9}{l I S:G9}{vs:G0 G1}{lt:G1->G1->N4}
structure At (h0:N9)(l I S:G9)(vs:G0 G1)(i:G8)(st:N0 G1)(h:N9):Prop where
 kept:ZO h0 h
 it:h.IsListIter I l i
 lst:h.IsList l vs.toArray
 store: ∃c,h.get? S=some (e8 "list" st c)
end
end HT
namespace L2
open PySem PySem.Spec PyProof.Rows PySem.SeqAt HT
open Classical in
noncomputable def readOf (h:N9)(v:G1):Q1:=if e: ∃p as,p.canLay0=true/\Reads h v p as then e.choose else .none
end L2
namespace L2
open PySem PySem.Spec PyProof.Rows
theorem Nb {P:S0}{w:N8}{K:G2}{mg:Str->P8 G1}{base:N9}{k:G8}{f:G9}{fd:S1}{ps:G0 Str}{sp:RDn}(no: ∀ds h Q,sp ds h Q->False):FnOk P w K mg base CX0 k f fd ps (LSp K sp):=
 ⟨λvs H Q E ⟨ds,h,Qd,_,_,z,_⟩=>(no ds h Qd z).elim,λA outer s H args us vs Q E _ _ _ _ ⟨ds,h,Qd,_,_,z,_⟩=>(no ds h Qd z).elim⟩
def s5:G8->G8
 |0=>0
 |d+1=>5*s5 d+1
def f5 (N:G8):G8->G8->G8
 |0,a=>a
 |d+1,a=>(f5 N d a*5+1)%N
theorem Gc: ∀ (fuel k n:G8),3<=k-> ∃m,3<=m/\SetTable.sizeAbove.go n fuel (2^k)=2^m/\(n<2^(k+fuel)->n<2^m)
 |0,k,n,h=>⟨k,h,rfl,λz=>z⟩
 |fuel+1,k,n,h=>by
  unfold SetTable.sizeAbove.go
  by_cases c:2^k<=n
  ·rw [S2 c,<-rY];obtain⟨m,a,b,d⟩:=Gc fuel (k+1) n (by omega);exact⟨m,a,b,λz=>d (by rw [gQ,dU];exact z)⟩
  ·rw [S3 c];exact⟨k,h,rfl,λ_=>by omega⟩
theorem above {n:G8}(h:n<2^67): ∃m,cM n=2^m/\n<cM n/\8<=cM n:=by
 obtain⟨m,a,b,c⟩:=Gc 64 3 n (by decide);have b:cM n=2^m:=b;refine⟨m,b,by rw [b];exact c h,?_⟩;rw [b];exact aV (show 0<2 by decide) a
end L2
namespace L2
open PySem PySem.Spec PyProof.Rows HT
def CV (h h':N9):Prop:= ∀ (b:G9) (o:Obj),o.cls= .type "tuple" ->h.get? b=some o->h'.get? b=some o
structure MemK (prog:S0)(w:N8)(K:Type)[DecidableEq K] where
 is:N9->K->G9->Prop
 hash:K->P0
 inj: ∀ {h:N9} {x y:K} {a:G9},is h x a->is h y a->x=y
 keep: ∀ {h h':N9} {x:K} {a:G9},CV h h'->is h x a->is h' x a
 hashed: ∀ {A:T8} {E:G1->G3->Prop} {s:G3} {x:K} {a:G9} {Q:P0->G3->Prop},A.units+8<cLine->is s.heap x a->(∀tk,Q (hash x) {s with toks:=tk})->R4 (S4 prog w) A (pyHash (.ref a)) Q E s
 same: ∀ {A:T8} {E:G1->G3->Prop} {s:G3} {x y:K} {a b:G9} {Q:N4->G3->Prop},A.units+8<cLine->is s.heap x a->is s.heap y b->Q (decide (x=y)) s->R4 (S4 prog w) A (eqBool (.ref a) (.ref b)) Q E s
 quiet: ∀ {A:T8} {E:G1->G3->Prop} {s:G3} {x:K} {a:G9} {Q:N4->G3->Prop},is s.heap x a->Q true s->R4 (S4 prog w) A (eqIsQuiet 8 (.ref a)) Q E s
 cls: ∀ {A:T8} {E:G1->G3->Prop} {s:G3} {x:K} {a:G9} {Q:N4->G3->Prop},is s.heap x a->Q false s->R4 (S4 prog w) A (ofAClassStatement 8 (.ref a)) Q E s
 byv: ∀ {A:T8} {E:G1->G3->Prop} {s:G3} {x:K} {a:G9} {Q:N4->G3->Prop},is s.heap x a->Q true s->R4 (S4 prog w) A (hashByValue 8 (.ref a)) Q E s
end L2
namespace L2
open PySem PySem.Spec PyProof.Rows PySem.SeqAt HT
theorem NJ {α:Type}{R:α->α->Prop}(no: ∀x y,R x y-> ¬R y x): ∀ {xs ys:G0 α},xs.Pairwise R->ys.Pairwise R->(∀a,a∈xs↔a∈ys)->xs=ys
 | [],[],_,_,_=>rfl
 | [],y::ys,_,_,m=>absurd ((m y).mpr R7) T9
 |x::xs,[],_,_,m=>absurd ((m x).mp R7) T9
 |x::xs,y::ys,px,py,m=>by
  obtain⟨p1,p2⟩:=J4.mp px;obtain⟨q1,q2⟩:=J4.mp py;have e:x=y:=by
   rcases D2.mp ((m x).mp R7) with e|e
   ·exact e
   rcases D2.mp ((m y).mpr R7) with e'|e'
   ·exact e'.symm
   exact absurd (p1 y e') (no _ _ (q1 x e))
  subst e;rw [NJ no p2 q2 λa=>⟨λh=> ?_,λh=> ?_⟩]
  ·rcases D2.mp ((m a).mp (S6 _ h)) with e|e
   ·subst e;exact absurd (p1 _ h) (no _ _ (p1 _ h))
   ·exact e
  ·rcases D2.mp ((m a).mpr (S6 _ h)) with e|e
   ·subst e;exact absurd (q1 _ h) (no _ _ (q1 _ h))
   ·exact e
end L2
namespace L2
open PySem PySem.Spec PyProof.Rows PySem.W
structure DefIn (K:Frag)(x:Str)(st:O3)(f:G9)(fd:S1):Prop where
 at_:nsIn K mainGlobals x=some (some (.ref f))
 fn:Fun K x x st f fd
variable {K:Frag}{h base:N9}{mg:Str->P8 G1}{x:Str}{st:O3}{f:G9}{fd:S1}{P:S0}{w:N8}{n:G8}{ps:G0 Str}
theorem Ai {oc:G1}{od an:P8 G9}{osl:N0 (P8 G1)}{kV doc pm cdv ct:G1}(a:nsIn K mainGlobals x=some (some (.ref f)))(l:K.lookup f=some ⟨oc,od,.func (fnOf x x (yZ st) (jW st) (jd st) .none kV doc pm an cdv ct),osl⟩)
 (c:codeIn K cdv x=true)(k:keepIn K (.ref f)=true):DefIn K x st f (fnOf x x (yZ st) (jW st) (jd st) .none kV doc pm an cdv ct):=⟨a,Lp l c k⟩
abbrev Aj (x:Str)(st:O3)(ps:G0 Str):Prop:= ∀ (kV doc pm:G1) (an:P8 G9) (cdv ct:G1) (us:G0 G1),us.length=ps.length->pT (fnOf x x (yZ st) (jW st) (jd st) .none kV doc pm an cdv ct) ⟨us,[]⟩=pure (ps.zip us)
theorem DefIn.nm (d:DefIn K x st f fd)(X:K.In h)(G:h.Ns mainGlobals mg):mg x=some (.ref f):=mg_of X G d.at_
variable {C:G0 G1->Prop}
theorem ln1 (g: ∀a,C [a]): ∀us:G0 G1,us.length=1->C us
 | [_],_=>g _
theorem ln2 (g: ∀a b,C [a,b]): ∀us:G0 G1,us.length=2->C us
 | [_,_],_=>g _ _
theorem ln3 (g: ∀a b c,C [a,b,c]): ∀us:G0 G1,us.length=3->C us
 | [_,_,_],_=>g _ _ _
theorem ln4 (g: ∀a b c d,C [a,b,c,d]): ∀us:G0 G1,us.length=4->C us
 | [_,_,_,_],_=>g _ _ _ _
theorem ln5 (g: ∀a b c d e,C [a,b,c,d,e]): ∀us:G0 G1,us.length=5->C us
 | [_,_,_,_,_],_=>g _ _ _ _ _
theorem DefIn.cal {sp:RDn}(d:DefIn K x st f fd)(l:OpenLaw)(w:N8)(base:N9)(X:K.In h)(G:h.Ns mainGlobals mg)(ok:FnOk l.prog w K mg base CX0 n f fd ps (LSp K sp))(b:Aj x st ps:=by first|exact λ_ _ _ _ _ _=>ln1 λ_=>rfl|exact λ_ _ _ _ _ _=>ln2 λ_ _=>rfl|exact λ_ _ _ _ _ _=>ln3 λ_ _ _=>rfl|exact λ_ _ _ _ _ _=>ln4 λ_ _ _ _=>rfl|exact λ_ _ _ _ _ _=>ln5 λ_ _ _ _ _=>rfl):jp l.prog w K mg base n x ps sp:=⟨_,_,ok,d.fn.binds b,d.fn.kp,d.nm X G⟩
theorem DefIn.rai {sp:RDx}(d:DefIn K x st f fd)(l:OpenLaw)(w:N8)(base:N9)(X:K.In h)(G:h.Ns mainGlobals mg)(ok:FnOk l.prog w K mg base (CXR l.prog w) n f fd ps (NF mg K sp))(b:Aj x st ps:=by first|exact λ_ _ _ _ _ _=>ln1 λ_=>rfl|exact λ_ _ _ _ _ _=>ln2 λ_ _=>rfl|exact λ_ _ _ _ _ _=>ln3 λ_ _ _=>rfl|exact λ_ _ _ _ _ _=>ln4 λ_ _ _ _=>rfl|exact λ_ _ _ _ _ _=>ln5 λ_ _ _ _ _=>rfl):VE l.prog w K mg base n x ps sp:=⟨_,_,ok,d.fn.binds b,d.fn.kp,d.nm X G⟩
def zsB (K:Frag):N4:= ["len","max","min","divmod","all","any","repr","sum","sorted","int","tuple","list","set","bool","isinstance","range","zip","enumerate","reversed"].all λx=>nsIn K mainGlobals (K7 x)==some none
theorem Sc (X:K.In h)(G:h.Ns mainGlobals mg)(e:zsB K=true):Zs mg:=by
 unfold zsB at e;rw [S8] at e;have m:=λ(x:Q4) hx=>mg_none_of X G (beq_iff_eq.mp (e x hx))
 exact⟨m "len" (by decide),m "max" (by decide),m "min" (by decide),m "divmod" (by decide),m "all" (by decide),m "any" (by decide),m "repr" (by decide),m "sum" (by decide),m "sorted" (by decide),m "int" (by decide),m "tuple" (by decide),m "list" (by decide),m "set" (by decide),m "bool" (by decide),m "isinstance" (by decide),m "range" (by decide),m "zip" (by decide),m "enumerate" (by decide),m "reversed" (by decide)⟩
end L2
namespace L2
open PySem PySem.Spec PyProof.Rows
theorem CY {n i:G8}(hi:i<n):IsS n [i]:=by
 refine⟨λj=>decide (j=i),?_⟩
 induction n with
 |zero=>omega
 |succ n ih=>
  rw [eQ,gK]
  by_cases z:i<n
  ·rw [<-ih z];have: ¬n=i:=by omega
   simp [this]
  ·have e:i=n:=by omega
   subst e;have:(R6 i).filter (λj=>decide (j=i))= []:=List.filter_eq_nil_iff.mpr λj hj=>by have:=S9.mp hj;simp;omega
   rw [this];simp
end L2
set_option maxRecDepth 35000
namespace L2
open PySem PySem.Spec PyProof.Rows PySem.SeqAt
mutual
theorem ToP.sub {h h':HD}(s:Sub h h'): ∀ {p:Q1} {d:D},ToP h d p->ToP h' d p
 | .none,_,t=>t
 | .bool _,_,t=>t
 | .int _,_,t=>t
 | .str _,_,t=>t
 | .tuple ps,d,t=>by
  obtain⟨ds,e,ts⟩:=(show ∃ds,d= .tup ds/\ToPs h ds ps from t);exact⟨ds,e,ToPs.sub s ts⟩
 | .list ps,d,t=>by
  obtain⟨a,ds,e,k,ts⟩:=(show ∃a ds,d= .lst a/\h a=some ds/\ToPs h ds ps from t);exact⟨a,ds,e,s a ds k,ToPs.sub s ts⟩
 | .dict _,_,t=>t
theorem ToPs.sub {h h':HD}(s:Sub h h'): ∀ {ps:G0 Q1} {ds:G0 D},ToPs h ds ps->ToPs h' ds ps
 | [],_,t=>t
 |p::ps,ds,t=>by
  obtain⟨d,r,e,t1,t2⟩:=(show ∃d r,ds=d::r/\ToP h d p/\ToPs h r ps from t);exact⟨d,r,e,ToP.sub s t1,ToPs.sub s t2⟩
end
end L2
namespace L2
open PySem PySem.Spec PyProof.Rows
section
variable {X:Cx}{k i:G8}{ps N Pn:G0 Str}{spd:RDn}{x:Str}{p pos pos':Pos}{e e2 e3 e4 iter elt:T1}{es ifs:G0 T1}{t:TAD}{te te2 te3 te4:TED}{ti:TID}{tt:TTD}{scope sc:A8}{c:T1}
theorem jk (C:jp X.prog X.w X.K X.mg X.base k x ps spd)(hr:Room k X.A)(ha:JA X (e::es) t)(hg:Gl X x:=by rfl)(hdb:(x==("__debug__" :Str))=false:=by decide)(he:D7 (e::es) X.env=(false,A7 e X.env)::D7 es X.env:=by rfl)(hpl:(K0 pos (D7 es X.env)).any (·.1)=false:=by rfl):JE X (.Call (.Name x p) (e::es) [] pos) (dCB spd t):=by
 obtain⟨g,gd,F,hb,hk,hm⟩:=C;exact EN F hr hg hm hk hb ha hdb he hpl
theorem jxk {spr:RDx}(C:VE X.prog X.w X.K X.mg X.base k x ps spr)(hr:Room k X.A)(ha:JA X (e::es) t)(hg:Gl X x:=by rfl)(hdb:(x==("__debug__" :Str))=false:=by decide)(he:D7 (e::es) X.env=(false,A7 e X.env)::D7 es X.env:=by rfl)(hpl:(K0 pos (D7 es X.env)).any (·.1)=false:=by rfl):JXE X (.Call (.Name x p) (e::es) [] pos) (ON spr t):=by
 obtain⟨g,gd,F,hb,hk,hm⟩:=C;exact Cv F hr hg hm hk hb ha hdb he hpl
theorem j1 (a:JE X e te)(h:zF e=true:=by rfl):JA X [e] (zr te ZK):=jac a jS h
theorem j2 (a:JE X e te)(b:JE X e2 te2)(h:zF e=true:=by rfl)(h2:zF e2=true:=by rfl):JA X [e,e2] (zr te (zr te2 ZK)):=jac a (j1 b h2) h
theorem j3 (a:JE X e te)(b:JE X e2 te2)(c:JE X e3 te3)(h:zF e=true:=by rfl)(h2:zF e2=true:=by rfl)(h3:zF e3=true:=by rfl):JA X [e,e2,e3] (zr te (zr te2 (zr te3 ZK))):=jac a (j2 b c h2 h3) h
theorem j4 (a:JE X e te)(b:JE X e2 te2)(c:JE X e3 te3)(d:JE X e4 te4)(h:zF e=true:=by rfl)(h2:zF e2=true:=by rfl)(h3:zF e3=true:=by rfl)(h4:zF e4=true:=by rfl):JA X [e,e2,e3,e4] (zr te (zr te2 (zr te3 (zr te4 ZK)))):=jac a (j3 b c d h2 h3 h4) h
theorem Jo (Z:Zs X.mg)(a:JE X e te)(hg:Gl X "len" :=by rfl)(h:zF e=true:=by rfl)(he:D7 [e] X.env=(false,A7 e X.env)::D7 [] X.env:=by rfl)(hpl:(K0 pos (D7 [] X.env)).any (·.1)=false:=by rfl):JE X (.Call (.Name "len" p) [e] [] pos) (dCB Fx (zr te ZK)):=jR Oj hg Z.len PySem.boot_len (j1 a h) (by decide) (by decide) he hpl
theorem jse (i:G8)(S:FnScope X.N Pn sc)(he:JE X e te)(hi:X.N[i]? =some x:=by rfl)(hx:Loc X.env.scope x:=by first|exact A2 rfl|exact V3 rfl)(hs:Z0 e (some (.Name x pos')) pos.line X.env=pure false:=by rfl)(hf:X.fn x=true\/X.env.scope.names.lookup x=some .local:=by first|exact .inl rfl|exact .inr rfl|assumption):JS X (.Assign [.Name x pos'] e pos) (RY i te):=SK S.nd hi hx he hs hf
theorem jgn (i:G8)(S:FnScope X.N Pn sc)(hi:X.N[i]? =some x:=by rfl)(hx:Loc X.env.scope x:=by first|exact A2 rfl|exact V3 rfl)(hf:X.fn x=true\/X.env.scope.names.lookup x=some .local:=by first|exact .inl rfl|exact .inr rfl|assumption):JG X (.Name x pos) (gN i):=Cf S.nd hi hx hf
theorem jl1 (i:G8)(S:FnScope X.N Pn sc)(hi:JI X (.Name x p) iter ti)(ht: ∀C s₀ H₀ ex,JT (vV X scope C s₀ H₀ ex) c tt)(he: ∀C s₀ H₀ ex,JE (vV X scope C s₀ H₀ ex) elt te)(hc:X.calm=true:=by rfl)(hB:Qx X.N X.env.scope.names scope [i]=true:=by rfl)(hx:X.N[i]? =some x:=by rfl)(hl:scope.names.lookup x=some .local\/scope.names.lookup x=some .cell:=by first|exact A2 rfl|exact V3 rfl)(hs: ∀x,M8 iter X.env x=pure x:=by intro _;rfl):JE X (.ListComp elt [⟨.Name x p,iter,[c],0⟩] scope pos) (Jm (bN i) [i] ti tt te):=
 jlc hc (jQ hB) hi (P3.mpr rfl) S.nd hx hl (λX' hX=>by obtain⟨C,s₀,H₀,ex,rfl⟩:=hX;exact XF (ht C s₀ H₀ ex)) (λX' hX=>by obtain⟨C,s₀,H₀,ex,rfl⟩:=hX;exact he C s₀ H₀ ex) hs
theorem jl0 (i:G8)(S:FnScope X.N Pn sc)(hi:JI X (.Name x p) iter ti)(he: ∀C s₀ H₀ ex,JE (vV X scope C s₀ H₀ ex) elt te)(hc:X.calm=true:=by rfl)(hB:Qx X.N X.env.scope.names scope [i]=true:=by rfl)(hx:X.N[i]? =some x:=by rfl)(hl:scope.names.lookup x=some .local\/scope.names.lookup x=some .cell:=by first|exact A2 rfl|exact V3 rfl)(hs: ∀x,M8 iter X.env x=pure x:=by intro _;rfl):JE X (.ListComp elt [⟨.Name x p,iter,[],0⟩] scope pos) (Jm (bN i) [i] ti vI te):=
 jlc hc (jQ hB) hi (P3.mpr rfl) S.nd hx hl (λX' hX=>yB) (λX' hX=>by obtain⟨C,s₀,H₀,ex,rfl⟩:=hX;exact he C s₀ H₀ ex) hs
theorem fsc {N P:G0 Str}(a:sc.kind= .function:=by rfl)(b:sc.isCoroutine=false:=by rfl)(c:sc.isGenerator=false:=by rfl)(d:N.Nodup:=by decide +kernel)(e:N.take P.length=P:=by rfl)(f: ∀x∈P,sc.names.lookup x=some .local\/sc.names.lookup x=some .cell:=by decide +kernel)(g: ∀y∈sc.names,y.2≠ .free:=by decide +kernel):FnScope N P sc:=⟨a,b,c,d,e,f,g⟩
theorem jc1 {op:iB}{f:RD2}(ho:OpQ X (B1 op) f)(ha:JE X e te)(hb:JE X e2 te2)(hm:U8 op e2=false:=by exact Pq _):JE X (.Compare e [op] [e2] pos) (dOp f te te2):=OC ho ha hb hm
theorem jt1 {op:iB}{f:RD2}(ho:OpQ X (B1 op) f)(ha:JE X e te)(hb:JE X e2 te2)(hm:U8 op e2=false:=by exact Pq _):JT X (.Compare e [op] [e2] pos) (ZL (dOp f te te2)):=XD ho ha hb hm
theorem ji1 (ha:JE X e te)(hb:JE X e2 te2)(hs:Vi e2:=by exact λ_ _=>rfl):JE X (.Subscript e e2 pos) (dOp ixD te te2):=jix ha hb hs
theorem jrg {tg:T1}(Z:Zs X.mg)(ha:JE X e te)(hg:Gl X "range" :=by rfl)(h:zF e=true:=by rfl)(hs:D7 [e] X.env= [(false,A7 e X.env)]:=by rfl):JI X tg (.Call (.Name "range" p) [e] [] pos) (iR1 (zr te ZK)):=EM hg Z.range (j1 ha h) hs
end
section
variable {P:S0}{w:N8}{K:G2}{mg:Str->P8 G1}{base:N9}{x qual:Str}{st:O3}{f:G9}{fd:S1}{N ps:G0 Str}{k:G8}
theorem Fun.okM {spd:RDn}(F:Fun K x qual st f fd)(S:FnScope N ps (jd st)){tb:TSD}(hbody: ∀ {cdv:G1} {A:T8} {outer:G0 Env} {s:G3} {H:Hp} {E:XK},Room k (A.deeper (E8 qual (jd st) s.heap.objs.size f cdv))->JSs (Yn CX0 P w K mg base N qual (jd st) f cdv A outer s H E).nox (jW st) tb)
 (read: ∀ds h Q,spd ds h Q->ds.length=ps.length/\tb (Uh Q) (ze N ds) h):FnOk P w K mg base CX0 (k+1) f fd ps (LSp K spd):=F.okJ S (λds h Q q=>(read ds h Q q).1) tb (λ_ _ _ _ _ _ hr=>hbody hr) λds h Q q=>(read ds h Q q).2
theorem Fun.okMX {spr:RDx}(F:Fun K x qual st f fd)(S:FnScope N ps (jd st)){tb:TXD}(hbody: ∀ {cdv:G1} {A:T8} {outer:G0 Env} {s:G3} {H:Hp} {E:XK},Room k (A.deeper (E8 qual (jd st) s.heap.objs.size f cdv))->JX (Yn (CXR P w) P w K mg base N qual (jd st) f cdv A outer s H E) (jW st) tb)
 (read: ∀ds h R,spr ds h R->ds.length=ps.length/\tb (ze N ds) h R):FnOk P w K mg base (CXR P w) (k+1) f fd ps (NF mg K spr):=F.okX S (λds h Q q=>(read ds h Q q).1) tb (λ_ _ _ _ _ _ hr=>hbody hr) λds h Q q=>(read ds h Q q).2
end
theorem wz {t u:TSD}{E:EndsD}{σ:SD}{h:HD}(xY:SD)(first: ∀K:SD->HD->Prop,K xY h->t {E with nx:=K} σ h)(rest:u E xY h):yX t u E σ h:=first (u E) rest
theorem sz0:0<=sizeLine:=by decide
theorem sz1:1<=sizeLine:=by decide
theorem sz2:2<=sizeLine:=by decide
theorem sz3:3<=sizeLine:=by decide
theorem sz4:4<=sizeLine:=by decide
theorem sz5:5<=sizeLine:=by decide
section
variable {X:Cx}{s0 s1 s2 s3 s4 s5 s6 s7:O3}{t0 t1 t2 t3 t4 t5 t6 t7:TSD}{c:T1}{tc:TTD}{pos:Pos}
theorem js2 (a:JS X s0 t0)(b:JS X s1 t1):JSs X [s0,s1] (yX t0 t1):=(jE a (jD b))
theorem js3 (a:JS X s0 t0)(b:JS X s1 t1)(c:JS X s2 t2):JSs X [s0,s1,s2] (yX t0 (yX t1 t2)):=(jE a (jE b (jD c)))
theorem js4 (a:JS X s0 t0)(b:JS X s1 t1)(c:JS X s2 t2)(d:JS X s3 t3):JSs X [s0,s1,s2,s3] (yX t0 (yX t1 (yX t2 t3))):=(jE a (jE b (jE c (jD d))))
theorem js5 (a:JS X s0 t0)(b:JS X s1 t1)(c:JS X s2 t2)(d:JS X s3 t3)(e:JS X s4 t4):JSs X [s0,s1,s2,s3,s4] (yX t0 (yX t1 (yX t2 (yX t3 t4)))):=(jE a (jE b (jE c (jE d (jD e)))))
theorem js7 (a:JS X s0 t0)(b:JS X s1 t1)(c:JS X s2 t2)(d:JS X s3 t3)(e:JS X s4 t4)(f:JS X s5 t5)(g:JS X s6 t6):JSs X [s0,s1,s2,s3,s4,s5,s6] (yX t0 (yX t1 (yX t2 (yX t3 (yX t4 (yX t5 t6)))))):=(jE a (jE b (jE c (jE d (jE e (jE f (jD g)))))))
theorem js8 (a:JS X s0 t0)(b:JS X s1 t1)(c:JS X s2 t2)(d:JS X s3 t3)(e:JS X s4 t4)(f:JS X s5 t5)(g:JS X s6 t6)(h:JS X s7 t7):JSs X [s0,s1,s2,s3,s4,s5,s6,s7] (yX t0 (yX t1 (yX t2 (yX t3 (yX t4 (yX t5 (yX t6 t7))))))):=(jE a (jE b (jE c (jE d (jE e (jE f (jE g (jD h))))))))
theorem vN (hc:JT X c tc)(h:JS X s0 t0):JS X (.If c [s0] [] pos) (BD tc t0 Xx):=Fz hc (jD h) YQ
end
end L2
namespace L2
open PySem PySem.Spec PyProof.Rows PySem.SeqAt HT
def Hh (te:TED):TED:=λσ h Q=>te σ h λx h1=> ∃a xs,x= .lst a/\h1 a=some xs/\ ∀p,h1 p=none->Q (.lst p) (zV h1 p xs.reverse)
theorem Hi {X:Cx}{e:T1}{te:TED}{pos p2 p3 p4:Pos}{j:G8}(he:JE X e te):JE X (.Subscript e (.Slice none none (some (.UnaryOp .USub (.Constant (.int 1) j p4) p3)) p2) pos) (Hh te):=⟨by
 intro pins s σ H Q I h;obtain⟨xD,h,Qd,rs,rh,t,p⟩:=h;refine mQ (thn (he.to pins s σ H _ I (LE.bind rs rh t λd v h1 H1 k1 rs1 rh1 r1 q1=>(show ∃h1 d,RelS X.K H1 xD σ/\RelH X.K h1 H1/\RelD X.K H1 d v/\Kept H H1/\ ∃a xs,d= .lst a/\h1 a=some xs/\ ∀p,h1 p=none->Qd (.lst p) (zV h1 p xs.reverse) from ⟨h1,d,rs1,rh1,r1,k1,q1⟩))) λv s1 ⟨x,H1,I1,r1,h1,d,rs1,rh1,rd,k1,a,xs,ed,hx,q1⟩=> ?_);subst ed;have ex:x= .ref a:=rd.1;subst ex;cases r1;refine oW ?_;rw [iJ];refine P5 (P5 ?_);rw [mG];have hneg:LE X.K (dUn Fy (dC (.int 1))) σ H1 (λv H'=>v=V.int (-1)/\RelH X.K h1 H'/\Kept H1 H'):=
  ⟨xD,h1,λd h'=>d= .int (-1)/\h'=h1,rs1,rh1,⟨rfl,rfl⟩,λd v h' H' k rh' r' e=>by
   obtain⟨e1,e2⟩:=e;subst e1 e2;exact⟨r',rh',k⟩⟩
 refine thn ((EI (Ef (X:=X) (i:=1) (j:=j) (pos:=p4)) (pos:=p3)) pins s1 σ H1 _ I1 hneg) λu s2 ⟨y,H2,I2,ry,ey,rh2,k2⟩=> ?_
 subst ey;obtain⟨tk,rfl⟩:=ry;have I4:Inv X pins σ H2 {s2 with heap:=s2.heap.push {cls:= .type "slice",data:= .fields #[.none,.none,.int (-1) tk]}}:=I2.kept (t':=s2.toks) λb ob q=>G6 _ q
 obtain⟨vs,hH,r3⟩:=rh2 a _ hx;obtain⟨its,r,ht,hz⟩:=I4.list (SqL.of hH);have hlen:its.toArray.size=vs.length:=by rw [D6];exact r.length.symm
 show R4 (S4 X.prog X.w) X.A (iK e (.Slice none none (some (.UnaryOp .USub (.Constant (.int 1) j p4) p3)) p2) (.ref a) (.ref s2.heap.objs.size)) (EP X pins σ Q) X.xe {s2 with heap:=s2.heap.push {cls:= .type "slice",data:= .fields #[.none,.none,.int (-1) tk]}};refine pU (ops:= [.ref a,.ref s2.heap.objs.size]) ht.isList.typeIs slot_list_getitem.lookup ?_ (by with_unfolding_all rfl);refine iM (lo:=none) (hi:=none) (st:=some (-1)) ht.isList (f8 ..) .none .none (.int (-1) tk) (by intro z;injection z with z;omega) ?_ (by rw [hlen];exact hz);have hf:=I4.hok.fresh (P4 _);rw [uO];refine⟨.ref _,_,I4.laid (t':=s2.toks) (o:= .lst vs.reverse) (λb ob q=>G6 _ q) (P4 _) ⟨by rw [M6];exact hz,_,0,Vals.rev r,R8 _ rfl⟩,rfl,?_⟩;exact p (.lst _) _ _ _ (k1.trans (k2.trans (.new hf))) (rh2.newL hf r3.rev) ⟨rfl,_,jn⟩ (q1 _ (rh2.free hf))⟩
end L2
namespace My
open PySem L2
def top (i:G8):O3:=PySem.Challenge.pw_firstpowers_k36_papers_of_first_powers_b.main.body.getD i (.Pass ⟨0,0,0,0⟩)
abbrev Zl:O3:=top 17
theorem XW:FnScope ["thing"] ["thing"] (jd Zl):=fsc
abbrev Jb:O3:=top 18
theorem UQ:FnScope ["thing","least","most"] ["thing","least","most"] (jd Jb):=fsc
abbrev WR:O3:=top 19
theorem GQ:FnScope ["thing","least"] ["thing","least"] (jd WR):=fsc
abbrev Zm:O3:=top 20
theorem XX:FnScope ["thing","size"] ["thing","size"] (jd Zm):=fsc
abbrev vf:O3:=top 21
theorem JH:FnScope ["thing","size","each"] ["thing","size"] (jd vf):=fsc
abbrev XY:O3:=top 22
theorem Gh:FnScope ["row","one","other"] ["row"] (jd XY):=fsc
abbrev VG:O3:=top 23
theorem Ru:FnScope ["thing","size"] ["thing","size"] (jd VG):=fsc
abbrev wW:O3:=top 24
theorem vg:FnScope ["thing","size","number"] ["thing","size"] (jd wW):=fsc
abbrev zZ:O3:=top 25
theorem ym:FnScope ["thing","row"] ["thing"] (jd zZ):=fsc
abbrev wJ:O3:=top 26
theorem JJ:FnScope ["thing"] ["thing"] (jd wJ):=fsc
abbrev vh:O3:=top 28
theorem yF:FnScope ["table","some","head","place"] ["table","some"] (jd vh):=fsc
abbrev wA:O3:=top 30
theorem yV:FnScope ["table","thing","one","other"] ["table","thing"] (jd wA):=fsc
abbrev zR:O3:=top 32
theorem JK:FnScope ["table","thing","one","other","k"] ["table","thing","one","other","k"] (jd zR):=fsc
abbrev wa:O3:=top 33
theorem yq:FnScope ["table","thing","one","k","other","walk"] ["table","thing","one","k"] (jd wa):=fsc
abbrev wB:O3:=top 34
theorem yU:FnScope ["table","thing","k","one","walks"] ["table","thing","k"] (jd wB):=fsc
abbrev Zn:O3:=top 35
theorem WS:FnScope ["thing","many","size","each"] ["thing","many","size"] (jd Zn):=fsc
abbrev wb:O3:=top 36
theorem yr:FnScope ["table","sets","ahead","later","head"] ["table","sets"] (jd wb):=fsc
abbrev VH:O3:=top 37
theorem Ym:FnScope ["table","thing","k","one","other","sets","size"] ["table","thing","k"] (jd VH):=fsc
abbrev wm:O3:=top 38
theorem yb:FnScope ["table","thing","k","walks","gap"] ["table","thing"] (jd wm):=fsc
abbrev Jc:O3:=top 40
theorem UR:FnScope ["_law_script","_law_k"] ["_law_script","_law_k"] (jd Jc):=fsc
abbrev Zo:O3:=top 41
theorem WT:FnScope ["_law_cell_here","_law_left"] ["_law_cell_here"] (jd Zo):=fsc
abbrev Jd:O3:=top 42
theorem wN:FnScope ["_law_pen_here","_law_many","_law_left","_law_found","_law_stir"] ["_law_pen_here","_law_many"] (jd Jd):=fsc
abbrev vi:O3:=top 43
theorem VI:FnScope ["_law_thing"] ["_law_thing"] (jd vi):=fsc
abbrev Zp:O3:=top 44
theorem WU:FnScope ["_law_pen_here","_law_some"] ["_law_pen_here"] (jd Zp):=fsc
abbrev Je:O3:=top 45
theorem zK:FnScope ["_law_e","_law_seen","_law_words"] ["_law_e"] (jd Je):=fsc
abbrev Jf:O3:=top 46
theorem ZI:FnScope ["_law_call","_law_found","_law_e","_law_word"] ["_law_call"] (jd Jf):=fsc
abbrev Jg:O3:=top 47
theorem US:FnScope ["_law_found","_law_due"] ["_law_found","_law_due"] (jd Jg):=fsc
abbrev Jh:O3:=top 48
theorem UT:FnScope ["_law_pen_here"] ["_law_pen_here"] (jd Jh):=fsc
abbrev vj:O3:=top 49
theorem jz:FnScope ["_law_pen_here","_law_size_here","_law_way","_law_often","_law_most","_law_rows","_law_one","_law_row","_law_other","_law_goes"] ["_law_pen_here","_law_size_here"] (jd vj):=fsc
abbrev vk:O3:=top 50
theorem zn:FnScope ["_law_one","_law_other","_law_size_here","_law_rows","_law_row","_law_place","_law_k"] ["_law_one","_law_other"] (jd vk):=fsc
abbrev yG:O3:=top 51
theorem wX:FnScope ["_law_table_here","_law_row","_law_number"] ["_law_table_here"] (jd yG):=fsc
abbrev yH:O3:=top 52
theorem vO:FnScope ["_law_table_here","_law_row"] ["_law_table_here"] (jd yH):=fsc
abbrev vn:O3:=top 53
theorem zQ:FnScope ["_law_table_here","_law_here","_law_found","_law_k"] ["_law_table_here"] (jd vn):=fsc
abbrev vo:O3:=top 54
theorem wo:FnScope ["_law_table_here","_law_some","_law_size_here","_law_place","_law_one"] ["_law_table_here","_law_some"] (jd vo):=fsc
abbrev Ji:O3:=top 55
theorem zX:FnScope ["_law_many","_law_found","_law_place","_law_some"] ["_law_many"] (jd Ji):=fsc
abbrev wC:O3:=top 56
theorem yO:FnScope ["_law_pen_here","_law_some"] ["_law_pen_here"] (jd wC):=fsc
abbrev wY:O3:=top 57
theorem wG:FnScope ["_law_table_here","_law_thing","_law_place","_law_here","_law_there"] ["_law_table_here","_law_thing"] (jd wY):=fsc
abbrev yI:O3:=top 58
theorem za:FnScope ["_law_table_here","_law_k","_law_gap","_law_size_here","_law_some","_law_here","_law_there","_law_place"] ["_law_table_here","_law_k","_law_gap"] (jd yI):=fsc
abbrev wD:O3:=top 59
theorem jY:FnScope ["_law_table_here","_law_thing","_law_size_here","_law_k","_law_walks","_law_gap","_law_one","_law_line","_law_other","_law_walk"] ["_law_table_here","_law_thing"] (jd wD):=fsc
abbrev vp:O3:=top 60
theorem jg:FnScope ["_law_pen_here","_law_table_here","_law_k","_law_size_here","_law_backs","_law_place","_law_rows","_law_turn","_law_last","_law_walks","_law_one","_law_line","_law_other","_law_walk","_law_some","_law_fit","_law_sets_here","_law_left","_law_to"] ["_law_pen_here","_law_table_here","_law_k"] (jd vp):=fsc
abbrev wZ:O3:=top 61
theorem wE:FnScope ["_law_pen_here","_law_thing","_law_deep","_law_at","_law_rows"] ["_law_pen_here","_law_thing","_law_deep"] (jd wZ):=fsc
abbrev XZ:O3:=top 62
theorem wO:FnScope ["_law_script","_law_some","_law_thing","_law_table_here","_law_cell_here","_law_pen_here","_law_k","_law_papers","_law_bent","_law_due","_law_none","_law_one","_law_turn"] ["_law_script"] (jd XZ):=fsc
section
variable {P:S0}{w:N8}{K:G2}{mg:Str->P8 G1}{base:N9}
/-- no def is asked of the script's list: a thing -/
def zi:D->N4
 | .int _=>true
 |_=>false
/-- a row of so many numbers from 0 on -/
def AC:D->N4
 | .int i=>decide (0<=i)
 |_=>false
def NK (d:D)(k:P0):N4:=match d with
 | .tup ds=>decide ((ds.length:P0)=k)&&ds.all AC
 |_=>false
/-! every part has a kind that is told,and no tuple is long -/
mutual
def okD:D->N4
 | .scr _=>false| .exc _=>false| .fn _=>false| .dct _=>false
 | .tup ds=>decide (ds.length<=1000)&&okDs ds
 |_=>true
def okDs:G0 D->N4
 | []=>true
 |d::ds=>okD d&&okDs ds
end
theorem We: ∀ {ds:G0 D},okDs ds=true-> ∀d∈ds,okD d=true
 |d::ds,h,x,hx=>by
  have h':(okD d&&okDs ds)=true:=h;rw [B8] at h';rcases D2.mp hx with e|e
  ·subst e;exact h'.1
  ·exact We h'.2 x e
theorem Rv: ∀ {ds:G0 D},(∀d∈ds,okD d=true)->okDs ds=true
 | [],_=>rfl
 |d::ds,h=>by
  show (okD d&&okDs ds)=true;rw [h d R7,Rv λx hx=>h x (S6 _ hx)];rfl
theorem zd {ds:G0 D}(h:okD (.tup ds)=true):ds.length<=1000/\ ∀d∈ds,okD d=true:=by
 have h':(decide (ds.length<=1000)&&okDs ds)=true:=h;rw [B8] at h';exact⟨H0 h'.1,We h'.2⟩
theorem Vb {ds:G0 D}(h:ds.length<=1000)(h2: ∀d∈ds,okD d=true):okD (.tup ds)=true:=by
 show (decide (ds.length<=1000)&&okDs ds)=true;rw [D0 h,Rv h2];rfl
variable {d:D}
theorem jx (h:okD d=true): ∃n,Uu d=some n:=by
 cases d<;>first|exact⟨_,rfl⟩|cases h
/-- a table -/
def RG:D->N4
 | .tup rs=>decide (1<=rs.length)&&decide (rs.length<=6)&&rs.all λr=>NK r rs.length
 |_=>false
def zj:RDn:=λds h Q=> ∃d n,ds= [d]/\Uu d=some n/\Q (.bl (zi d)) h
variable {n:G8}{f:G9}{fd:S1}
theorem Qa (Z:Zs mg)(F:Fun K "is_whole" "is_whole" Zl f fd):FnOk P w K mg base CX0 (n+1) f fd ["thing"] (LSp K zj):=by
 refine F.okM XW (λhr=>(jD (zf (Vu (yi (T:= "int") (by decide) rfl Z.isinstance rfl Z.int (by decide +kernel) (jv 0)) (Ui (SJ (yi (T:= "bool") (by decide) rfl Z.isinstance rfl Z.bool (by decide +kernel) (jv 0)))))))) ?_;rintro ds h Q ⟨d,nm,rfl,hn,q⟩;refine⟨rfl,?_⟩;simp only [Gu,PQ,dIs,Gt,ze,B2,V1,R1,N2,O8,C9,O5,A4,D.bl.injEq,PR,Uh,U1,hn];cases d<;>cases hn<;>exact⟨h,Sub.refl h,q⟩
def ZB:RDn:=λds h Q=> ∃d,∃a b:P0,ds= [d,.int a,.int b]/\okD d=true/\Q (.bl (jF d a b)) h
theorem UU (Z:Zs mg)(F:Fun K "is_within" "is_within" Jb f fd)(yp:jp P w K mg base n "is_whole" ["thing"] zj):FnOk P w K mg base CX0 (n+1) f fd ["thing","least","most"] (LSp K ZB):=by
 refine F.okM UQ (λhr=>(jD (zf (Vu (jk yp hr (j1 (jv 0))) (Ui (Nz Xz Xz (jv 1) (jv 0) (jv 2))))))) ?_;rintro ds h Q ⟨d,a,b,rfl,ok,q⟩;refine⟨rfl,?_⟩;obtain⟨nm,hn⟩:=jx ok;refine⟨_,rfl,d,nm,rfl,hn,zi d,rfl,?_⟩;cases d with
 |int x=>
  refine jw ⟨_,rfl,_,rfl,_,rfl,?_⟩;show if decide (a<=x)=true then _ else _
  by_cases h1:a<=x
  ·rw [D0 h1];simp only [jF,D0 h1,M1] at q;exact jw ⟨_,rfl,h,Sub.refl h,q⟩
  ·rw [D1 h1];simp only [jF,D1 h1,T0] at q;exact jH ⟨h,Sub.refl h,q⟩
 |_=>exact jH ⟨h,Sub.refl h,q⟩
def Vc:RDn:=λds h Q=> ∃d,∃a:P0,ds= [d,.int a]/\okD d=true/\((∃k:P0,d= .int k/\Q (.bl (decide (a<=k))) h)\/(zi d=false/\Q (.bl false) h))
theorem GR (Z:Zs mg)(F:Fun K "is_from" "is_from" WR f fd)(yp:jp P w K mg base n "is_whole" ["thing"] zj):FnOk P w K mg base CX0 (n+1) f fd ["thing","least"] (LSp K Vc):=by
 refine F.okM GQ (λhr=>(jD (zf (Vu (jk yp hr (j1 (jv 0))) (Ui (jc1 Ma (jv 0) (jv 1))))))) ?_;rintro ds h Q ⟨d,a,rfl,ok,q⟩;refine⟨rfl,?_⟩;obtain⟨nm,hn⟩:=jx ok;refine⟨_,rfl,d,nm,rfl,hn,zi d,rfl,?_⟩;rcases q with ⟨k,rfl,q⟩|⟨w,q⟩
 ·exact jw ⟨_,rfl,_,rfl,h,Sub.refl h,q⟩
 ·rw [w];exact jH ⟨h,Sub.refl h,q⟩
def Jj:RDn:=λds h Q=> ∃d,∃n:P0,ds= [d,.int n]/\okD d=true/\Q (.bl (jF d 0 (n-1))) h
theorem Qb (Z:Zs mg)(F:Fun K "is_place" "is_place" Zm f fd)(Qk:jp P w K mg base n "is_within" ["thing","least","most"] ZB):FnOk P w K mg base CX0 (n+1) f fd ["thing","size"] (LSp K Jj):=by
 refine F.okM XX (λhr=>(jD (zf (jk Qk hr (j3 (jv 0) jl (jop YM (jv 1) jl)))))) ?_;rintro ds h Q ⟨d,k,rfl,ok,q⟩;refine⟨rfl,?_⟩;exact⟨_,rfl,_,rfl,d,0,k-1,rfl,ok,h,Sub.refl h,q⟩
def yJ:RDn:=λds h Q=> ∃d,∃n:P0,ds= [d,.int n]/\okD d=true/\Q (.bl (wU d n)) h
theorem VJ (Z:Zs mg)(F:Fun K "are_places" "are_places" vf f fd)(vG:jp P w K mg base n "is_place" ["thing","size"] Jj):FnOk P w K mg base CX0 (n+1) f fd ["thing","size"] (LSp K yJ):=by
 refine F.okM JH (λhr=>(jD (zf (Vu (yi (T:= "tuple") (by decide) rfl Z.isinstance rfl Z.tuple (by decide +kernel) (jv 0)) (Ui (jR (yg rfl) rfl Z.all C5 (j1 (jl0 2 JH (zJ (jv 0)) (λ_ _ _ _=>(jk vG hr (j2 (jv 2) (jv 1)))))))))))) ?_;rintro ds h Q ⟨d,k,rfl,ok,q⟩;refine⟨rfl,?_⟩;obtain⟨nm,hn⟩:=jx ok;refine⟨_,rfl,nm,hn,?_⟩;cases d with
 |tup es=>
  cases hn;obtain⟨hl,ht⟩:=zd ok;refine⟨_,rfl,jw ?_⟩;exact OF es (λx=>x) (λx=>jF x 0 (k-1)) hl (by rw [kM]) (λR r=>⟨_,rfl,r⟩) (λx hx Q' q'=>⟨_,rfl,_,rfl,x,k,rfl,ht x hx,q'⟩) ⟨h,Sub.refl h,q⟩
 |_=>cases hn<;>exact⟨_,rfl,jH ⟨h,Sub.refl h,q⟩⟩
def Gd:RDn:=λds h Q=> ∃S:G0 G8,ds= [jJ S]/\S.length<=1000/\Q (.bl ((S.zip (S.drop 1)).all λp=>decide ((p.1:P0)<(p.2:P0)))) h
theorem Nc (Z:Zs mg)(F:Fun K "rises" "rises" XY f fd):FnOk P w K mg base CX0 (n+1) f fd ["row"] (LSp K Gd):=by
 refine F.okM Gh (λhr=>(jD (zf (jR (yg rfl) rfl Z.all C5 (j1 (OE (i:=1) (j:=2) (js:= [1,2]) rfl (jQ (by rfl)) (UG rfl Z.zip (j2 (jv 0) (yj (jv 0) (zP jl) zY))) (by decide) (by decide) (by decide) Gh.nd rfl rfl (by first|exact A2 rfl|exact V3 rfl) (by first|exact A2 rfl|exact V3 rfl) (λX' hX=>yB) (λX' hX=>by obtain⟨C,s₀,H₀,ex,rfl⟩:=hX;exact(jc1 Xy (jv 1) (jv 2))))))))) ?_;rintro ds h Q ⟨S,rfl,hl,q⟩;refine⟨rfl,?_⟩;refine DJ (j:=λ_=>some (XM (S.map λ(k:G8)=>D.int (k:P0)) (vM (S.map λ(k:G8)=>D.int (k:P0)) (some 1) none))) (S.zip (S.drop 1)) (λp=> .int (p.1:P0)) (λp=> .int (p.2:P0)) (λp=>decide ((p.1:P0)<(p.2:P0))) (by rw [cA];omega) (congrArg some (XR S)) (λR r=>⟨_,rfl,_,rfl,_,rfl,_,_,rfl,r⟩) (λp hp Q' q'=>⟨_,rfl,_,rfl,q'⟩) ⟨h,Sub.refl h,q⟩
variable {S:G0 G8}
theorem Nd (h:S.Pairwise (· < ·)):((S.zip (S.drop 1)).all λp=>decide ((p.1:P0)<(p.2:P0)))=true:=by
 rw [S8];intro p hp;have:=QN h p hp;exact D0 (by omega)
def SY (n:G8)(d:D):Prop:=(okD d=true/\wU d (n:P0)=false)\/ ∃S:G0 G8,d=jJ S/\(∀i∈S,i<n)/\S.length<=1000/\((S.zip (S.drop 1)).all λp=>decide ((p.1:P0)<(p.2:P0)))=false
def UV:RDn:=λds h Q=> ∃d,∃n:G8,ds= [d,.int (n:P0)]/\n<=6/\((∃S,d=jJ S/\IsS n S/\Q (.bl true) h)\/(SY n d/\Q (.bl false) h))
theorem Rw (Z:Zs mg)(F:Fun K "is_set" "is_set" VG f fd)(Fp:jp P w K mg base n "rises" ["row"] Gd)(vz:jp P w K mg base n "are_places" ["thing","size"] yJ):FnOk P w K mg base CX0 (n+1) f fd ["thing","size"] (LSp K UV):=by
 refine F.okM Ru (λhr=>(jD (zf (Vu (jk vz hr (j2 (jv 0) (jv 1))) (Ui (jk Fp hr (j1 (jv 0)))))))) ?_;rintro ds h Q ⟨d,n,rfl,hn,q⟩;refine⟨rfl,?_⟩;have okO: ∀S:G0 G8,S.length<=1000->okD (jJ S)=true:=λS hS=>Vb (by rw [G7];exact hS) λd hd=>by obtain⟨x,_,rfl⟩:=N6.mp hd;rfl
 have plO: ∀S:G0 G8,(∀i∈S,i<n)->wU (jJ S) (n:P0)=true:=λS hS=>by
  show (S.map _).all _=true;rw [S8];intro x hx;obtain⟨i,hi,rfl⟩:=N6.mp hx;have:=hS i hi;show (decide ((0:P0)<=(i:P0))&&decide ((i:P0)<=(n:P0)-1))=true;rw [D0 (show (0:P0)<=(i:P0) by omega),D0 (show (i:P0)<=(n:P0)-1 by omega)];rfl
 rcases q with ⟨S,rfl,hS,q⟩|⟨⟨ok,bad⟩|⟨S,rfl,hS,hl,hr⟩,q⟩
 ·have hlen:=hS.len;refine⟨_,rfl,_,rfl,jJ S,(n:P0),rfl,okO S (by omega),?_⟩;rw [plO S λi hi=>hS.lt hi];refine⟨_,rfl,jw ⟨_,rfl,S,rfl,by omega,?_⟩⟩;rw [Nd hS.rise];exact⟨h,Sub.refl h,q⟩
 ·refine⟨_,rfl,_,rfl,d,(n:P0),rfl,ok,?_⟩;rw [bad];exact⟨_,rfl,jH ⟨h,Sub.refl h,q⟩⟩
 ·refine⟨_,rfl,_,rfl,jJ S,(n:P0),rfl,okO S hl,?_⟩;rw [plO S hS];refine⟨_,rfl,jw ⟨_,rfl,S,rfl,hl,?_⟩⟩;rw [hr];exact⟨h,Sub.refl h,q⟩
def vq:RDn:=λds h Q=> ∃d k,ds= [d,.int k]/\okD d=true/\Q (.bl (NK d k)) h
theorem WV (Z:Zs mg)(F:Fun K "is_table_row" "is_table_row" wW f fd)(yp:jp P w K mg base n "is_whole" ["thing"] zj):FnOk P w K mg base CX0 (n+1) f fd ["thing","size"] (LSp K vq):=by
 refine F.okM vg (λhr=>(js2 (vN (jpt (Za (zm (zh (yi (T:= "tuple") (by decide) rfl Z.isinstance rfl Z.tuple (by decide +kernel) (jv 0)))) (Yq (jt1 oq_ne (Jo Z (jv 0)) (jv 1))))) (zf jbl)) (zf (jR (yg rfl) rfl Z.all C5 (j1 (jl0 2 vg (zJ (jv 0)) (λ_ _ _ _=>(Vu (jk yp hr (j1 (jv 2))) (Ui (jc1 Ma (jv 2) jl)))))))))) ?_;rintro ds h Q ⟨d,k,rfl,ok,q⟩;refine⟨rfl,?_⟩;obtain⟨nm,hn⟩:=jx ok;simp only [yX,BD,Lu,PP,ZL,dIs,Gt,ze,B2,V1,R1,N2,M0,O8,C9,O5,A4,D.bl.injEq,Gu,dC,Uh,Xx,dCB,zr,ZK,dOp,Fx,W1,neD,U1,hn];cases d with
 |tup es=>
  cases hn;obtain⟨hl,ht⟩:=zd ok;simp only [Ol]
  by_cases hk:(es.length:P0)=k
  ·simp only [hk];simp;refine Df (ds:=es) (h1:=h) (j:=λ_=>some es) (λx=> .bl (AC x)) (R9 (ju hl)) rfl (λR r=>⟨.tup es,rfl,r⟩) (λd hd Q' q'=> ?_) (λp hp=> ?_)
   ·obtain⟨nn,hnn⟩:=jx (ht d hd);refine⟨d,rfl,d,nn,rfl,hnn,zi d,rfl,?_⟩;cases d with
    |int i=>exact jw ⟨.int i,rfl,q'⟩
    |_=>exact jH q'
   ·refine⟨p,es.map AC,rfl,by rw [jc];simp,h,?_,?_⟩
    ·rw [zL hp];exact Sub.refl h
    ·simpa [NK,hk,K8,dF] using q
  ·simp [hk];exact⟨h,Sub.refl h,by simpa [NK,hk] using q⟩
 |_=>cases hn<;>exact⟨h,Sub.refl h,q⟩
def zS:RDn:=λds h Q=> ∃d,ds= [d]/\okD d=true/\Q (.bl (RG d)) h
theorem Zq (Z:Zs mg)(F:Fun K "has_table_form" "has_table_form" zZ f fd)(Yz:jp P w K mg base n "is_table_row" ["thing","size"] vq)(Jl: ∃tk,mg "MOST_ROWS" =some (.int 6 tk)):FnOk P w K mg base CX0 (n+1) f fd ["thing"] (LSp K zS):=by
 obtain⟨tk_MOST_ROWS,m_MOST_ROWS⟩:=Jl;refine F.okM ym (λhr=>(js2 (vN (jpt (Za (zm (zh (yi (T:= "tuple") (by decide) rfl Z.isinstance rfl Z.tuple (by decide +kernel) (jv 0)))) (Yq (zm (XE Xz Xz jl (Jo Z (jv 0)) (EL rfl m_MOST_ROWS)))))) (zf jbl)) (zf (jR (yg rfl) rfl Z.all C5 (j1 (jl0 1 ym (zJ (jv 0)) (λ_ _ _ _=>(jk Yz hr (j2 (jv 1) (Jo Z (jv 0))))))))))) ?_;rintro ds h Q ⟨d,rfl,ok,q⟩;refine⟨rfl,?_⟩;obtain⟨nm,hn⟩:=jx ok;simp only [yX,BD,Lu,PP,ZL,dIs,Gt,ze,B2,V1,R1,N2,M0,O8,C9,O5,A4,D.bl.injEq,Gu,dC,Uh,Xx,dCB,zr,ZK,Wu,Fx,Nv,U1,hn];cases d with
 |tup es=>
  cases hn;obtain⟨hl,ht⟩:=zd ok;simp only [Ol]
  by_cases h1:1<=es.length
  ·by_cases h6:es.length<=6
   ·have h1':(1:P0)<=es.length:=by omega
    have h6':(es.length:P0)<=6:=by omega
    simp [h1',h6'];refine Df (ds:=es) (h1:=h) (j:=λ_=>some es) (λx=> .bl (NK x es.length)) (R9 (ju hl)) rfl (λR r=>⟨.tup es,rfl,r⟩) (λd hd Q' q'=> ?_) (λp hp=> ?_)
    ·exact⟨d,rfl,.tup es,rfl,d,es.length,rfl,ht d hd,q'⟩
    ·refine⟨p,es.map λx=>NK x es.length,rfl,by rw [jc];simp,h,?_,?_⟩
     ·rw [zL hp];exact Sub.refl h
     ·simpa [RG,h1,h6,K8,dF] using q
   ·have h1':(1:P0)<=es.length:=by omega
    have h6': ¬ (es.length:P0)<=6:=by omega
    simp [h1',h6'];exact⟨h,Sub.refl h,by simpa [RG,h1,h6] using q⟩
  ·have h1': ¬ (1:P0)<=es.length:=by omega
   simp [h1'];exact⟨h,Sub.refl h,by simpa [RG,h1] using q⟩
 |_=>cases hn<;>exact⟨h,Sub.refl h,q⟩
theorem CZ {x:P0}(h:0<=x):AC (.int x)=true:=D0 h
variable {T:G0 (G0 P0)}
theorem Fa {e:G8}(h:Sq n e T){r:G0 P0}(hr:r∈T):NK (Jn r) n=true:=by
 simp only [NK,Jn,G7,h.row r hr,decide_true,M1,K8,S8,W4];intro x hx;exact CZ (h.nn r hr x hx)
theorem Fb {e:G8}(h:Sq n e T)(h1:1<=n)(h6:n<=6):RG (jA T)=true:=by
 simp only [RG,jA,G7,h.len,D0 h1,D0 h6,M1,K8,S8,W4];intro r hr;exact Fa h hr
theorem Ak {e:G8}(h:Sq n e T)(h6:n<=6):okD (jA T)=true:=
 Vb (by rw [G7,h.len];omega) λd hd=>by
  obtain⟨r,hr,rfl⟩:=N6.mp hd;exact Vb (by rw [G7,h.row r hr];omega) λd hd=>by obtain⟨x,_,rfl⟩:=N6.mp hd;rfl
def JL:RDn:=λds h Q=> ∃T,∃n e:G8,ds= [jA T]/\Sq n e T/\1<=n/\n<=6/\Q .non h
theorem VL (Z:Zs mg)(F:Fun K "want_table" "want_table" wJ f fd)(wc:jp P w K mg base n "has_table_form" ["thing"] zS):FnOk P w K mg base CX0 (n+1) f fd ["thing"] (LSp K JL):=by
 refine F.okM JJ (λhr=>(jD (vN (zm (zh (jk wc hr (j1 (jv 0))))) Dm))) ?_;rintro ds h Q ⟨T,k,b,rfl,hT,h1,h6,q⟩;refine⟨rfl,?_⟩;refine⟨_,rfl,jA T,rfl,Ak hT h6,_,rfl,?_⟩;rw [Fb hT h1 h6];exact jH ⟨h,Sub.refl h,q⟩
def vP:RDx:=λds h R=> ∃d,ds= [d]/\okD d=true/\RG d=false/\R "NoTable" h
theorem Yt (Z:Zs mg)(Ex:Exc K mg)(F:Fun K "want_table" "want_table" wJ f fd)(wc:jp P w K mg base n "has_table_form" ["thing"] zS):FnOk P w K mg base (CXR P w) (n+1) f fd ["thing"] (NF mg K vP):=by
 refine F.okMX JJ (λhr=>(ET (zm (zh (jk wc hr (j1 (jv 0))))) (ME rfl (Ex.own "NoTable" (by decide)) rfl))) ?_;rintro ds h R ⟨d,rfl,ok,bad,q⟩;refine⟨rfl,?_⟩;refine⟨_,rfl,d,rfl,ok,_,rfl,?_⟩;rw [bad];exact⟨rfl,q⟩
def JM:RDn:=λds h Q=> ∃T S,∃n e:G8,ds= [jA T,jJ S]/\Sq n e T/\IsS n S/\n<=6/\Q (jJ (WD n T S)) h
theorem VM (Z:Zs mg)(F:Fun K "step_after" "step_after" vh f fd):FnOk P w K mg base CX0 (n+1) f fd ["table","some"] (LSp K JM):=by
 refine F.okM yF (λhr=>(jD (zf (zb yf rfl Z.tuple (by decide +kernel) (j1 (jl1 2 yF (jrg Z (Jo Z (jv 0))) (λ_ _ _ _=>(zh (jR (Om rfl) rfl Z.any (by decide +kernel) (j1 (jl0 3 yF (zJ (jv 1)) (λ_ _ _ _=>(jc1 oq_ne (ji1 (ji1 (jv 0) (jv 3)) (jv 2)) jl))))))) (λ_ _ _ _=>(jv 2)))))))) ?_;rintro ds h Q ⟨T,S,k,b,rfl,hT,hS,h6,q⟩;refine⟨rfl,?_⟩;have hlen:=hS.len;refine Ci (R6 k) (λj=> .int (j:P0)) (λj=> .int (j:P0)) (λj=>S.any λi=>decide (ent T i j≠0)) (by rw [C6];omega) rfl (λR r=>⟨_,rfl,(k:P0),by rw [G7,hT.len],by omega,by omega,r⟩) (λj hj Q' q'=> ?_) (λj hj hp Q' q'=>⟨_,rfl,q'⟩) ⟨h,Sub.refl h,q⟩;refine TN S (λi=> .int (i:P0)) (λi=>decide (ent T i j≠0)) (by omega) rfl (λR r=>⟨_,rfl,r⟩) (λi hi Q'' q''=> ?_) ⟨_,rfl,q'⟩;have hi':=hS.lt hi;refine⟨_,rfl,_,rfl,_,Ja hT hi',_,rfl,_,vb (hT.row _ (Sq.getRow hT hi')) (S9.mp hj),?_⟩;have e:(!decide (((T.getD i []).getD j 0)=0))=decide (ent T i j≠0):=by simp [ent]
 rw [<-e] at q'';exact q''
def yP:RDn:=λds h Q=> ∃T d,∃n e:G8,ds= [jA T,d]/\Sq n e T/\1<=n/\n<=6/\okD d=true/\Q (.bl (yW T n d)) h
theorem ZP (Z:Zs mg)(F:Fun K "has_walk_form" "has_walk_form" wA f fd)(vz:jp P w K mg base n "are_places" ["thing","size"] yJ):FnOk P w K mg base CX0 (n+1) f fd ["table","thing"] (LSp K yP):=by
 refine F.okM yV (λhr=>(js2 (vN (jpt (Za (zm (zh (jk vz hr (j2 (jv 1) (Jo Z (jv 0)))))) (Yq (jt1 (Ww hr.units) (jv 1) (jX jS))))) (zf jbl)) (zf (jR (yg rfl) rfl Z.all C5 (j1 (OE (i:=2) (j:=3) (js:= [2,3]) rfl (jQ (by rfl)) (UG rfl Z.zip (j2 (jv 1) (yj (jv 1) (zP jl) zY))) (by decide) (by decide) (by decide) yV.nd rfl rfl (by first|exact A2 rfl|exact V3 rfl) (by first|exact A2 rfl|exact V3 rfl) (λX' hX=>yB) (λX' hX=>by obtain⟨C,s₀,H₀,ex,rfl⟩:=hX;exact(jc1 oq_ne (ji1 (ji1 (jv 0) (jv 2)) (jv 3)) jl)))))))) ?_;rintro ds h Q ⟨T,d,n,bb,rfl,hT,n1,n6,ok,q⟩;refine⟨rfl,?_⟩;have hlen:(((T.map Jn).length:G8):P0)=(n:P0):=by rw [G7,hT.len]
 refine jf (λxC h'=> ∃W,d=jJ W/\(∀i∈W,i<n)/\W.length<=1000/\yW T n d=UK T W/\W.isEmpty=false/\xC= [some (jA T),some (jJ W),none,none]/\h=h') (λC hC=> ?_) ?_
 ·refine⟨_,rfl,_,rfl,d,_,rfl,ok,_,rfl,?_⟩;rw [hlen];cases hp:wU d n with
  |false=>
   have:yW T n d=false:=by unfold yW;rw [hp];rfl
   rw [this] at q;exact jw (jw ⟨h,Sub.refl h,q⟩)
  |true=>
   obtain⟨e1,hW⟩:=vE hp;have e2:yW T n d=UK T (jG d):=by unfold yW;rw [hp];rfl
   generalize jG d=W at e1 hW e2;have hl:W.length<=1000:=by
    have:=(zd (e1 ▸ ok)).1
    rwa [G7] at this
   refine jH ⟨_,rfl,sz0,?_⟩;rw [e1];refine⟨QM W,.tuple [],XO h W,⟨_,rfl,rfl⟩,Zh _,rfl,_,rfl,?_⟩;cases W with
   |nil=>
    have:yW T n d=false:=by rw [e2];rfl
    rw [this] at q;exact jw ⟨h,Sub.refl h,q⟩
   |cons w W=>exact jH (hC _ _ ⟨w::W,e1,hW,hl,e2,rfl,rfl,rfl⟩)
 rintro _ _ ⟨W,e1,hW,hl,e2,hne,rfl,rfl⟩;rw [e2] at q;have e3:UK T W=(W.zip (W.drop 1)).all λp=>decide (ent T p.1 p.2>0):=by unfold UK;rw [hne];rfl
 rw [e3] at q;refine DJ (j:=λ_=>some (XM (W.map λ(k:G8)=>D.int (k:P0)) (vM (W.map λ(k:G8)=>D.int (k:P0)) (some 1) none))) (W.zip (W.drop 1)) (λp=> .int (p.1:P0)) (λp=> .int (p.2:P0)) (λp=>decide (ent T p.1 p.2>0)) (by rw [cA];omega) (congrArg some (XR W)) (λR r=>⟨_,rfl,_,rfl,_,rfl,_,_,rfl,r⟩) (λp hp Q' q'=> ?_) ⟨h,Sub.refl h,q⟩;have hi:=hW _ (J7 hp).1;have hj:=hW _ (C4 (J7 hp).2);refine⟨_,rfl,_,rfl,_,Ja hT hi,_,rfl,_,vb (hT.row _ (Sq.getRow hT hi)) hj,?_⟩;have hnn:=(hT.ent_nn hi hj).1;have e4:(!decide (((T.getD p.1 []).getD p.2 0)=0))=decide (ent T p.1 p.2>0):=by
  show (!decide (ent T p.1 p.2=0))=_
  by_cases z:ent T p.1 p.2=0
  ·rw [z];rfl
  ·rw [D1 z,D0 (by omega)];rfl
 rw [<-e4] at q';exact q'
/-- a walk of k steps between places -/
def Rx (T:G0 (G0 P0))(n:G8)(d:D)(i j:G8)(k:P0):N4:=yW T n d&&(decide (((jG d).length:P0)=k+1)&&(decide ((jG d)[0]? =some i)&&decide ((jG d)[(jG d).length-1]? =some j)))
theorem ways_ord (W:G0 G8):jG (jJ W)=W:=by
 show (W.map λ(k:G8)=>D.int (k:P0)).map vd=W;rw [M7]
 conv=>rhs;rw [<-Y3 W]
 exact B7 λx _=>by show vd (.int (x:P0))=x;exact aP x
theorem Ry (h:yW T n d=true): ∃W,d=jJ W/\(∀i∈W,i<n)/\W≠ []:=by
 unfold yW at h;rw [B8] at h;obtain⟨e,l⟩:=vE h.1;refine⟨jG d,e,l,λz=> ?_⟩;have:=h.2;rw [z] at this;cases this
def wK:RDn:=λds h Q=> ∃T d,∃n e i j:G8,∃k:P0,ds= [jA T,d,.int (i:P0),.int (j:P0),.int k]/\Sq n e T/\1<=n/\n<=6/\okD d=true/\Q (.bl (Rx T n d i j k)) h
theorem JN (Z:Zs mg)(F:Fun K "is_walk_between" "is_walk_between" zR f fd)(Yh:jp P w K mg base n "has_walk_form" ["table","thing"] yP):FnOk P w K mg base CX0 (n+1) f fd ["table","thing","one","other","k"] (LSp K wK):=by
 refine F.okM JK (λhr=>(jD (zf (Vu (jk Yh hr (j2 (jv 0) (jv 1))) (Vu (jc1 oq_eq (Jo Z (jv 1)) (jop jI (jv 4) jl)) (Vu (jc1 (Ww hr.units) (ji1 (jv 1) jl) (jv 2)) (Ui (jc1 (Ww hr.units) (ji1 (jv 1) (QB jl)) (jv 3))))))))) ?_;rintro ds h Q ⟨T,d,n,b,i,j,k,rfl,hT,h1,h6,ok,q⟩;refine⟨rfl,?_⟩;refine⟨_,rfl,_,rfl,T,d,n,b,rfl,hT,h1,h6,ok,_,rfl,?_⟩;unfold Rx at q;cases hw:yW T n d with
 |false=>rw [hw,T0] at q;exact jH ⟨h,Sub.refl h,q⟩
 |true=>
  rw [hw,M1] at q;obtain⟨W,rfl,hl,ne⟩:=Ry hw;rw [ways_ord] at q;have p0:0<W.length:=E7.mpr ne;refine jw ⟨_,rfl,_,rfl,?_⟩;show ∃c,D.bl (decide ((((W.map λ(k:G8)=>D.int (k:P0)).length:G8):P0)=k+1))=D.bl c/\_;rw [G7];refine⟨_,rfl,?_⟩;cases c1:decide ((W.length:P0)=k+1) with
  |false=>rw [c1,T0] at q;exact jH ⟨h,Sub.refl h,q⟩
  |true=>
   rw [c1,M1] at q;have e0:W[0]? =some W[0]:=G5 p0;have e1:W[W.length-1]? =some W[W.length-1]:=G5 (by omega);have a0:atI (W.map λ(k:G8)=>D.int (k:P0)) 0=some (.int (W[0]:P0)):=wt (j:=0) (by rw [R5,e0];rfl);have a1:atI (W.map λ(k:G8)=>D.int (k:P0)) (-1)=some (.int (W[W.length-1]:P0)):=vF (by rw [G7];exact p0) (by rw [G7,R5,e1];rfl);rw [e0,e1] at q;refine jw ⟨_,rfl,_,a0,_,rfl,?_⟩;show ∃c,D.bl (decide ((W[0]:P0)=(i:P0)))=D.bl c/\_;rw [show decide ((W[0]:P0)=(i:P0))=decide (some W[0]=some i) from by rw [F8,C0,C0,A4];omega];refine⟨_,rfl,?_⟩;cases c2:decide (some W[0]=some i) with
   |false=>rw [c2,T0] at q;exact jH ⟨h,Sub.refl h,q⟩
   |true=>
    rw [c2,M1] at q;refine jw ⟨_,rfl,_,a1,_,rfl,h,Sub.refl h,?_⟩;show Q (.bl (decide ((W[W.length-1]:P0)=(j:P0)))) h;rw [show decide ((W[W.length-1]:P0)=(j:P0))=decide (some W[W.length-1]=some j) from by rw [F8,C0,C0,A4];omega];exact q
def VN (T:G0 (G0 P0))(n:G8)(d:D)(i:G8)(k:P0):N4:=match d with
 | .tup es=>decide (es.length=n)&&(R6 es.length).all λj=>Rx T n (es.getD j .non) i j k
 |_=>false
theorem Wf (es:G0 D):QH es=(R6 es.length).map λ(j:G8)=>D.tup [.int (j:P0),es.getD j .non]:=by
 refine oA λi=> ?_
 unfold QH;rw [R5,lK,R5]
 by_cases z:i<es.length
 ·rw [fC z,G5 z,kT,kT,kT,T7,G5 z];simp
 ·rw [aK (by omega),aK (by rw [C6];omega)];rfl
variable {es:G0 D}
theorem getD_mem {j:G8}(h:j<es.length):es.getD j .non∈es:=by
 rw [T7,G5 h];exact B6 h
def yn:RDn:=λds h Q=> ∃T d,∃n e i:G8,∃k:P0,ds= [jA T,d,.int (i:P0),.int k]/\Sq n e T/\1<=n/\n<=6/\okD d=true/\Q (.bl (VN T n d i k)) h
theorem Zr (Z:Zs mg)(F:Fun K "are_walks_from" "are_walks_from" wa f fd)(Zw:jp P w K mg base n "is_walk_between" ["table","thing","one","other","k"] wK):FnOk P w K mg base CX0 (n+1) f fd ["table","thing","one","k"] (LSp K yn):=by
 refine F.okM yq (λhr=>(js2 (vN (jpt (Za (zm (zh (yi (T:= "tuple") (by decide) rfl Z.isinstance rfl Z.tuple (by decide +kernel) (jv 1)))) (Yq (jt1 oq_ne (Jo Z (jv 1)) (Jo Z (jv 0)))))) (zf jbl)) (zf (jR (yg rfl) rfl Z.all C5 (j1 (OE (i:=4) (j:=5) (js:= [4,5]) rfl (jQ (by rfl)) (VB rfl Z.enumerate (j1 (jv 1))) (by decide) (by decide) (by decide) yq.nd rfl rfl (by first|exact A2 rfl|exact V3 rfl) (by first|exact A2 rfl|exact V3 rfl) (λX' hX=>yB) (λX' hX=>by obtain⟨C,s₀,H₀,ex,rfl⟩:=hX;exact(jk Zw hr (jac (jv 0) (by exact(j4 (jv 5) (jv 2) (jv 4) (jv 3)))))))))))) ?_;rintro ds h Q ⟨T,d,n,b,i,k,rfl,hT,h1,h6,ok,q⟩;refine⟨rfl,?_⟩;have hlen:(((T.map Jn).length:G8):P0)=(n:P0):=by rw [G7,hT.len]
 obtain⟨nm,hn⟩:=jx ok;cases d with
 |tup es=>
  cases hn;obtain⟨hl,oks⟩:=zd ok;have q:Q (.bl (decide (es.length=n)&&(R6 es.length).all λj=>Rx T n (es.getD j .non) i j k)) h:=q;refine jf (λxC h'=>xC= [some (jA T),some (.tup es),some (.int (i:P0)),some (.int k),none,none]/\h=h'/\es.length=n) (λC hC=> ?_) ?_
  ·refine⟨_,rfl,"tuple",rfl,_,rfl,jH ⟨_,rfl,_,rfl,?_⟩⟩;show ∃c,D.bl (!decide (((es.length:G8):P0)=(((T.map Jn).length:G8):P0)))=D.bl c/\_;rw [hlen]
   by_cases z:es.length=n
   ·rw [D0 (show (es.length:P0)=(n:P0) by omega)];exact⟨_,rfl,jH (hC _ _ ⟨rfl,rfl,z⟩)⟩
   ·rw [D1 (show ¬ (es.length:P0)=(n:P0) by omega)];rw [D1 z,T0] at q;exact⟨_,rfl,jw ⟨h,Sub.refl h,q⟩⟩
  rintro _ _ ⟨rfl,rfl,z⟩;rw [D0 z,M1] at q;exact DJ (j:=λ_=>some (QH es)) (R6 es.length) (λj=> .int (j:P0)) (λj=>es.getD j .non) (λj=>Rx T n (es.getD j .non) i j k) (by rw [C6];omega) (congrArg some (Wf es)) (λR r=>⟨_,rfl,_,rfl,r⟩) (λj hj Q' q'=>⟨_,rfl,_,rfl,_,rfl,_,rfl,_,rfl,T,es.getD j .non,n,b,i,j,k,rfl,hT,h1,h6,oks _ (getD_mem (S9.mp hj)),q'⟩) ⟨h,Sub.refl h,q⟩
 |_=>cases hn<;>exact jf (λ_ _=>False) (λC hC=>⟨_,rfl,_,rfl,_,rfl,jw (jw ⟨h,Sub.refl h,q⟩)⟩) (λ_ _ z=>z.elim)
def JP (T:G0 (G0 P0))(n:G8)(d:D)(k:P0):N4:=match d with
 | .tup es=>decide (es.length=n)&&(R6 es.length).all λj=>VN T n (es.getD j .non) j k
 |_=>false
def yQ:RDn:=λds h Q=> ∃T d,∃n e:G8,∃k:P0,ds= [jA T,d,.int k]/\Sq n e T/\1<=n/\n<=6/\okD d=true/\Q (.bl (JP T n d k)) h
theorem ZQ (Z:Zs mg)(F:Fun K "are_all_walks" "are_all_walks" wB f fd)(ZT:jp P w K mg base n "are_walks_from" ["table","thing","one","k"] yn):FnOk P w K mg base CX0 (n+1) f fd ["table","thing","k"] (LSp K yQ):=by
 refine F.okM yU (λhr=>(js2 (vN (jpt (Za (zm (zh (yi (T:= "tuple") (by decide) rfl Z.isinstance rfl Z.tuple (by decide +kernel) (jv 1)))) (Yq (jt1 oq_ne (Jo Z (jv 1)) (Jo Z (jv 0)))))) (zf jbl)) (zf (jR (yg rfl) rfl Z.all C5 (j1 (OE (i:=3) (j:=4) (js:= [3,4]) rfl (jQ (by rfl)) (VB rfl Z.enumerate (j1 (jv 1))) (by decide) (by decide) (by decide) yU.nd rfl rfl (by first|exact A2 rfl|exact V3 rfl) (by first|exact A2 rfl|exact V3 rfl) (λX' hX=>yB) (λX' hX=>by obtain⟨C,s₀,H₀,ex,rfl⟩:=hX;exact(jk ZT hr (j4 (jv 0) (jv 4) (jv 3) (jv 2)))))))))) ?_;rintro ds h Q ⟨T,d,n,b,k,rfl,hT,h1,h6,ok,q⟩;refine⟨rfl,?_⟩;have hlen:(((T.map Jn).length:G8):P0)=(n:P0):=by rw [G7,hT.len]
 obtain⟨nm,hn⟩:=jx ok;cases d with
 |tup es=>
  cases hn;obtain⟨hl,oks⟩:=zd ok;have q:Q (.bl (decide (es.length=n)&&(R6 es.length).all λj=>VN T n (es.getD j .non) j k)) h:=q;refine jf (λxC h'=>xC= [some (jA T),some (.tup es),some (.int k),none,none]/\h=h'/\es.length=n) (λC hC=> ?_) ?_
  ·refine⟨_,rfl,"tuple",rfl,_,rfl,jH ⟨_,rfl,_,rfl,?_⟩⟩;show ∃c,D.bl (!decide (((es.length:G8):P0)=(((T.map Jn).length:G8):P0)))=D.bl c/\_;rw [hlen]
   by_cases z:es.length=n
   ·rw [D0 (show (es.length:P0)=(n:P0) by omega)];exact⟨_,rfl,jH (hC _ _ ⟨rfl,rfl,z⟩)⟩
   ·rw [D1 (show ¬ (es.length:P0)=(n:P0) by omega)];rw [D1 z,T0] at q;exact⟨_,rfl,jw ⟨h,Sub.refl h,q⟩⟩
  rintro _ _ ⟨rfl,rfl,z⟩;rw [D0 z,M1] at q;exact DJ (j:=λ_=>some (QH es)) (R6 es.length) (λj=> .int (j:P0)) (λj=>es.getD j .non) (λj=>VN T n (es.getD j .non) j k) (by rw [C6];omega) (congrArg some (Wf es)) (λR r=>⟨_,rfl,_,rfl,r⟩) (λj hj Q' q'=>⟨_,rfl,_,rfl,_,rfl,_,rfl,T,es.getD j .non,n,b,j,k,rfl,hT,h1,h6,oks _ (getD_mem (S9.mp hj)),q'⟩) ⟨h,Sub.refl h,q⟩
 |_=>cases hn<;>exact jf (λ_ _=>False) (λC hC=>⟨_,rfl,_,rfl,_,rfl,jw (jw ⟨h,Sub.refl h,q⟩)⟩) (λ_ _ z=>z.elim)
noncomputable def UW (n:G8)(d:D):N4:= @decide (∃S,d=jJ S/\IsS n S) (Z5 _)
theorem Nf (h:IsS n S):UW n (jJ S)=true:= @D0 _ (Z5 _) ⟨S,rfl,h⟩
theorem WW (h:UW n d=true): ∃S,d=jJ S/\IsS n S:= @H0 _ (Z5 _) h
theorem Fc (h:UW n d=false): ¬ ∃S,d=jJ S/\IsS n S:= @gR _ (Z5 _) h
theorem Al (h:S.Pairwise (· < ·))(l: ∀i∈S,i<n):IsS n S:=by
 refine⟨λj=>decide (j∈S),?_⟩;refine NJ (R:=λa b:G8=>a<b) (λx y a b=>by omega) h (IsS.rise (n:=n) ⟨_,rfl⟩) λj=> ?_
 rw [X5,S9,C0];exact⟨λz=>⟨l j z,z⟩,λz=>z.2⟩
theorem RA: ∀ {S:G0 G8},((S.zip (S.drop 1)).all λp=>decide ((p.1:P0)<(p.2:P0)))=true->S.Pairwise (· < ·)
 | [],_=>iH
 | [a],_=>O4 _ a
 |a::b::l,h=>by
  have h:(decide ((a:P0)<(b:P0))&&(((b::l).zip ((b::l).drop 1)).all λp=>decide ((p.1:P0)<(p.2:P0))))=true:=h;rw [B8,C0] at h;have r:=RA h.2;refine J4.mpr ⟨λx hx=> ?_,r⟩;rcases D2.mp hx with e|hx
  ·subst e;omega
  ·have:=(J4.mp r).1 x hx;omega
theorem Am (ok:okD d=true)(h:UW n d=false):SY n d:=by
 cases p:wU d (n:P0) with
 |false=>exact .inl ⟨ok,p⟩
 |true=>
  obtain⟨e,l⟩:=vE p;have hl:(jG d).length<=1000:=by
   have:=(zd (e ▸ ok)).1
   rwa [G7] at this
  refine .inr ⟨jG d,e,l,hl,Q8.mpr λz=>Fc h ⟨jG d,e,Al (RA z) l⟩⟩
noncomputable def WY (n:G8)(d:D)(k:P0):N4:=match d with
 | .tup es=>decide ((es.length:P0)=k)&&es.all (UW n)
 |_=>false
def WZ:RDn:=λds h Q=> ∃d,∃k:P0,∃n:G8,ds= [d,.int k,.int (n:P0)]/\n<=6/\okD d=true/\Q (.bl (WY n d k)) h
theorem Qc (Z:Zs mg)(F:Fun K "are_sets" "are_sets" Zn f fd)(Nm:jp P w K mg base n "is_set" ["thing","size"] UV):FnOk P w K mg base CX0 (n+1) f fd ["thing","many","size"] (LSp K WZ):=by
 refine F.okM WS (λhr=>(jD (zf (Vu (yi (T:= "tuple") (by decide) rfl Z.isinstance rfl Z.tuple (by decide +kernel) (jv 0)) (Vu (jc1 oq_eq (Jo Z (jv 0)) (jv 1)) (Ui (jR (yg rfl) rfl Z.all C5 (j1 (jl0 3 WS (zJ (jv 0)) (λ_ _ _ _=>(jk Nm hr (j2 (jv 3) (jv 2))))))))))))) ?_;rintro ds h Q ⟨d,k,n,rfl,h6,ok,q⟩;refine⟨rfl,?_⟩;obtain⟨nm,hn⟩:=jx ok;cases d with
 |tup es=>
  cases hn;obtain⟨hl,oks⟩:=zd ok;have q:Q (.bl (decide ((es.length:P0)=k)&&es.all (UW n))) h:=q;refine⟨_,rfl,"tuple",rfl,_,rfl,jw ⟨_,rfl,_,rfl,?_⟩⟩;show ∃c,D.bl (decide (((es.length:G8):P0)=k))=D.bl c/\_;cases z:decide ((es.length:P0)=k) with
  |false=>rw [z,T0] at q;exact⟨_,rfl,jH ⟨h,Sub.refl h,q⟩⟩
  |true=>
   rw [z,M1] at q;refine⟨_,rfl,jw (OF (j:=λ_=>some es) es (λx=>x) (UW n) (by omega) (by rw [kM]) (λR r=>⟨_,rfl,r⟩) (λx hx Q' q'=>⟨_,rfl,_,rfl,x,n,rfl,h6,?_⟩) ⟨h,Sub.refl h,q⟩)⟩;cases y:UW n x with
   |true=>rw [y] at q';obtain⟨S,e,iS⟩:=WW y;exact .inl ⟨S,e,iS,q'⟩
   |false=>rw [y] at q';exact .inr ⟨Am (oks x hx) y,q'⟩
 |_=>cases hn<;>exact⟨_,rfl,_,rfl,_,rfl,jH ⟨h,Sub.refl h,q⟩⟩
/-- tuples of sets,as they are -/
def Fd (SS:G0 (G0 G8)):D:= .tup (SS.map jJ)
def wL:D->G0 (G0 G8)
 | .tup es=>es.map jG
 |_=> []
theorem Ge (SS:G0 (G0 G8)):wL (Fd SS)=SS:=by
 show (SS.map jJ).map jG=SS;rw [M7]
 conv=>rhs;rw [<-Y3 SS]
 exact B7 λS _=>ways_ord S
theorem Gf {k:P0}(h:WY n d k=true): ∃SS,d=Fd SS/\(SS.length:P0)=k/\ ∀S∈SS,IsS n S:=by
 cases d with
 |tup es=>
  have h:(decide ((es.length:P0)=k)&&es.all (UW n))=true:=h;rw [B8,C0,S8] at h;refine⟨es.map jG,?_,by rw [G7];exact h.1,λS hS=> ?_⟩
  ·show D.tup es= .tup ((es.map jG).map jJ);rw [M7]
   congr 1
   conv=>lhs;rw [<-Y3 es]
   refine B7 λx hx=> ?_
   obtain⟨S,e,_⟩:=WW (h.2 x hx);show x=jJ (jG x);rw [e,ways_ord]
  ·obtain⟨x,hx,rfl⟩:=N6.mp hS;obtain⟨S,e,i⟩:=WW (h.2 x hx);rw [e,ways_ord];exact i
 |_=>cases h
def arrB (n:G8)(T:G0 (G0 P0))(SS:G0 (G0 G8)):N4:=(SS.zip (SS.drop 1)).all λp=>(WD n T p.1).all λx=>decide (x∈p.2)
theorem VO (SS:G0 (G0 G8)):XM (SS.map jJ) (vM (SS.map jJ) (some 1) none)=(SS.zip (SS.drop 1)).map λp=>D.tup [jJ p.1,jJ p.2]:=by
 rw [DM];unfold XM;rw [<-mJ,rR,M7];rfl
theorem Qe (n:G8)(T:G0 (G0 P0))(S:G0 G8):IsS n (WD n T S):=⟨_,rfl⟩
variable {h:HD}{Q:KD}
theorem Ya {neg:N4}{x:G8}(q:Q (.bl (neg !=decide (x∈S))) h):inE neg (.int (x:P0)) (jJ S) h Q:=by
 rw [Vy];refine Mu ?_;have:decide ((x:P0)∈vJ S)=decide (x∈S):=by
  rw [F8,C0,C0];constructor
  ·intro z;obtain⟨y,hy,e⟩:=N6.mp z;rw [show x=y by omega];exact hy
  ·exact Mk
 rw [this];exact q
def yo:RDn:=λds h Q=> ∃T SS,∃n e:G8,ds= [jA T,Fd SS]/\Sq n e T/\n<=6/\SS.length<=100/\(∀S∈SS,IsS n S)/\Q (.bl (arrB n T SS)) h
theorem Zt (Z:Zs mg)(F:Fun K "take_in_arrows" "take_in_arrows" wb f fd)(Xj:jp P w K mg base n "step_after" ["table","some"] JM):FnOk P w K mg base CX0 (n+1) f fd ["table","sets"] (LSp K yo):=by
 refine F.okM yr (λhr=>(jD (zf (jR (yg rfl) rfl Z.all C5 (j1 (Hf (i:=2) (j:=3) (l:=4) (js:= [2,3,4]) rfl (jQ (by rfl)) (UG rfl Z.zip (j2 (jv 1) (yj (jv 1) (zP jl) zY))) (by decide) (by decide) (by decide) (by decide) (by decide) (by decide) yr.nd rfl rfl rfl (by first|exact A2 rfl|exact V3 rfl) (by first|exact A2 rfl|exact V3 rfl) (by first|exact A2 rfl|exact V3 rfl) (λX' hX=>yB) (λX' hX=>by obtain⟨C,s₀,H₀,ex,rfl⟩:=hX;exact(zJ (jk Xj hr (j2 (jv 0) (jv 2))))) (λX' hX=>yB) (λX' hX=>by obtain⟨C,s₀,H₀,ex,rfl⟩:=hX;exact(OC (DD hr.units) (jv 4) (jv 3) (by with_unfolding_all rfl))))))))) ?_;rintro ds h Q ⟨T,SS,n,b,rfl,hT,h6,hk,hS,q⟩;refine⟨rfl,?_⟩;refine Hg (j:=λ_=>some (XM (SS.map jJ) (vM (SS.map jJ) (some 1) none))) (SS.zip (SS.drop 1)) (λp=>jJ p.1) (λp=>jJ p.2) (λp=>WD n T p.1) (λ(x:G8)=> .int (x:P0)) (λp x=>decide (x∈p.2)) ?_ (congrArg some (VO SS)) (λR r=>⟨_,rfl,_,rfl,_,rfl,_,_,rfl,r⟩) (λp hp R r=>⟨_,rfl,_,rfl,T,p.1,n,b,rfl,hT,hS _ (J7 hp).1,h6,r⟩) (λp hp x hx Q' q'=>⟨_,rfl,_,rfl,Ya (by rw [gV];exact q')⟩) ⟨h,Sub.refl h,q⟩;have: ∀l:G0 (G0 G8×G0 G8),(l.flatMap λp=>WD n T p.1).length<=6*l.length:=by
  intro l
  induction l with
  |nil=>exact P4 _
  |cons p l ih=>
   rw [dG,P7,R1];have:=(Qe n T p.1).len;omega
 have:=this (SS.zip (SS.drop 1));rw [cA] at this;omega
noncomputable def Pd (T:G0 (G0 P0))(n:G8)(d:D)(k:P0):N4:=match d with
 | .tup [x,y,z]=>jF x 0 ((n:P0)-1)&&(jF y 0 ((n:P0)-1)&&(WY n z k&&(decide (vd x∈(wL z)[0]?.getD [])&&(arrB n T (wL z)&& !decide (vd y∈(wL z)[(wL z).length-1]?.getD [])))))
 |_=>false
theorem UX (h:jF d 0 ((n:P0)-1)=true): ∃i:G8,d= .int (i:P0)/\i<n/\vd d=i:=by
 cases d with
 |int i=>
  have h:(decide ((0:P0)<=i)&&decide (i<=(n:P0)-1))=true:=h;rw [B8,C0,C0] at h;exact⟨i.toNat,by rw [bJ h.1],by omega,rfl⟩
 |_=>cases h
def UY:RDn:=λds h Q=> ∃T d,∃n e:G8,∃k:P0,ds= [jA T,d,.int k]/\Sq n e T/\1<=n/\n<=6/\2<=k/\k<=100/\okD d=true/\Q (.bl (Pd T n d k)) h
theorem RB (Z:Zs mg)(F:Fun K "is_gap" "is_gap" VH f fd)(GX:jp P w K mg base n "are_sets" ["thing","many","size"] WZ)(vG:jp P w K mg base n "is_place" ["thing","size"] Jj)(ZU:jp P w K mg base n "take_in_arrows" ["table","sets"] yo):FnOk P w K mg base CX0 (n+1) f fd ["table","thing","k"] (LSp K UY):=by
 refine F.okM Ym (λhr=>(js5 (vN (jpt (Za (zm (zh (yi (T:= "tuple") (by decide) rfl Z.isinstance rfl Z.tuple (by decide +kernel) (jv 1)))) (Yq (jt1 oq_ne (Jo Z (jv 1)) jl)))) (zf jbl)) (FA (jv 1) (CI (i:=3) (j:=4) (l:=5) rfl Ym.nd rfl rfl rfl (A2 rfl) (A2 rfl) (A2 rfl))) (jse 6 Ym (Jo Z (jv 0))) (vN (jpt (Za (zm (zh (jk vG hr (j2 (jv 3) (jv 6))))) (Za (zm (zh (jk vG hr (j2 (jv 4) (jv 6))))) (Yq (zm (zh (jk GX hr (j3 (jv 5) (jv 2) (jv 6))))))))) (zf jbl)) (zf (Vu (OC (DD hr.units) (jv 3) (ji1 (jv 5) jl) (by with_unfolding_all rfl)) (Vu (jk ZU hr (j2 (jv 0) (jv 5))) (Ui (OC (Wb hr.units) (jv 4) (ji1 (jv 5) (QB jl)) (by with_unfolding_all rfl)))))))) ?_;rintro ds h Q ⟨T,d,n,b,k,rfl,hT,h1,h6,k2,k1,ok,q⟩;refine⟨rfl,?_⟩;have hlen:(((T.map Jn).length:G8):P0)=(n:P0):=by rw [G7,hT.len]
 obtain⟨nm,hn⟩:=jx ok;have no3:(∀x y z,d≠ .tup [x,y,z])->Pd T n d k=false:=λz=>by
  unfold Pd;split
  ·exact absurd rfl (z _ _ _)
  ·rfl
 cases d with
 |tup es=>
  cases hn;obtain⟨hl,oks⟩:=zd ok;rcases es with _|⟨x,_|⟨y,_|⟨z,_|⟨v,r⟩⟩⟩⟩
  ·rw [no3 (λ_ _ _ z=>by cases z)] at q;exact jf (λ_ _=>False) (λC hC=>⟨_,rfl,_,rfl,_,rfl,jH ⟨_,rfl,_,rfl,jw ⟨h,Sub.refl h,q⟩⟩⟩) (λ_ _ z=>z.elim)
  ·rw [no3 (λ_ _ _ z=>by cases z)] at q;exact jf (λ_ _=>False) (λC hC=>⟨_,rfl,_,rfl,_,rfl,jH ⟨_,rfl,_,rfl,jw ⟨h,Sub.refl h,q⟩⟩⟩) (λ_ _ z=>z.elim)
  ·rw [no3 (λ_ _ _ z=>by cases z)] at q;exact jf (λ_ _=>False) (λC hC=>⟨_,rfl,_,rfl,_,rfl,jH ⟨_,rfl,_,rfl,jw ⟨h,Sub.refl h,q⟩⟩⟩) (λ_ _ z=>z.elim)
  ·have q:Q (.bl (jF x 0 ((n:P0)-1)&&(jF y 0 ((n:P0)-1)&&(WY n z k&&(decide (vd x∈(wL z)[0]?.getD [])&&(arrB n T (wL z)&& !decide (vd y∈(wL z)[(wL z).length-1]?.getD []))))))) h:=q;refine wz [some (jA T),some (.tup [x,y,z]),some (.int k),none,none,none,none] (λC hC=>⟨_,rfl,_,rfl,_,rfl,jH ⟨_,rfl,_,rfl,jH (hC)⟩⟩) ?_;refine wz [some (jA T),some (.tup [x,y,z]),some (.int k),some x,some y,some z,none] (λC hC=>⟨_,rfl,_,_,_,rfl,hC⟩) ?_;refine jf (λxC h'=>xC= [some (jA T),some (.tup [x,y,z]),some (.int k),some x,some y,some z,some (.int (n:P0))]/\h=h') (λC hC=>⟨_,rfl,hC _ _ ⟨by rw [G7,hT.len];rfl,rfl⟩⟩) ?_;rintro _ _ ⟨rfl,rfl⟩;refine jf (λxC h'=>xC= [some (jA T),some (.tup [x,y,z]),some (.int k),some x,some y,some z,some (.int (n:P0))]/\h=h'/\jF x 0 ((n:P0)-1)=true/\jF y 0 ((n:P0)-1)=true/\WY n z k=true) (λC hC=>⟨_,rfl,_,rfl,x,(n:P0),rfl,oks x (by simp),?_⟩) ?_
   ·cases cx:jF x 0 ((n:P0)-1) with
    |false=>rw [cx,T0] at q;exact⟨_,rfl,jw (jw ⟨h,Sub.refl h,q⟩)⟩
    |true=>
     rw [cx,M1] at q;refine⟨_,rfl,jH ⟨_,rfl,_,rfl,y,(n:P0),rfl,oks y (by simp),?_⟩⟩;cases cy:jF y 0 ((n:P0)-1) with
     |false=>rw [cy,T0] at q;exact⟨_,rfl,jw (jw ⟨h,Sub.refl h,q⟩)⟩
     |true=>
      rw [cy,M1] at q;refine⟨_,rfl,jH ⟨_,rfl,_,rfl,_,rfl,z,k,n,rfl,h6,oks z (by simp),?_⟩⟩;cases cz:WY n z k with
      |false=>rw [cz,T0] at q;exact⟨_,rfl,jw ⟨h,Sub.refl h,q⟩⟩
      |true=>exact⟨_,rfl,jH (hC _ _ ⟨rfl,rfl,cx,cy,cz⟩)⟩
   rintro _ _ ⟨rfl,rfl,cx,cy,cz⟩;rw [cx,cy,cz,M1,M1,M1] at q;obtain⟨i,rfl,li,ni⟩:=UX cx;obtain⟨j,rfl,lj,nj⟩:=UX cy;obtain⟨SS,rfl,lS,iS⟩:=Gf cz;rw [Ge,ni,nj] at q;have s0:SS[0]? =some SS[0]:=G5 (by omega);have s1:SS[SS.length-1]? =some SS[SS.length-1]:=G5 (by omega);have at0:atI (SS.map jJ) 0=some (jJ SS[0]):=wt (j:=0) (by rw [R5,s0];rfl);have atL:atI (SS.map jJ) (-1)=some (jJ SS[SS.length-1]):=vF (by rw [G7];omega) (by rw [G7,R5,s1];rfl);rw [s0,s1,aY,aY] at q;refine⟨_,rfl,_,rfl,_,at0,Ya ⟨_,rfl,?_⟩⟩;cases c0:decide (i∈SS[0]) with
   |false=>rw [c0,T0] at q;exact jH ⟨h,Sub.refl h,q⟩
   |true=>
    rw [c0,M1] at q;refine jw ⟨_,rfl,_,rfl,T,SS,n,b,rfl,hT,h6,by omega,iS,_,rfl,?_⟩;cases c1:arrB n T SS with
    |false=>rw [c1,T0] at q;exact jH ⟨h,Sub.refl h,q⟩
    |true=>
     rw [c1,M1] at q;exact jw ⟨_,rfl,_,rfl,_,atL,Ya ⟨h,Sub.refl h,by rw [Bool.true_bne];exact q⟩⟩
  ·rw [no3 (λ_ _ _ z=>by cases z)] at q;have n3:decide ((((x::y::z::v::r).length:G8):P0)=3)=false:=D1 (by simp only [R1];omega);refine jf (λ_ _=>False) (λC hC=>⟨_,rfl,_,rfl,_,rfl,jH ⟨_,rfl,_,rfl,?_⟩⟩) (λ_ _ z=>z.elim);show if (!decide ((((x::y::z::v::r).length:G8):P0)=3))=true then _ else _
   rw [n3];exact jw ⟨h,Sub.refl h,q⟩
 |_=>cases hn<;>exact jf (λ_ _=>False) (λC hC=>⟨_,rfl,_,rfl,_,rfl,jw (jw ⟨h,Sub.refl h,q⟩)⟩) (λ_ _ z=>z.elim)
def VP:D->P0
 | .int i=>i
 |_=>0
/-- whether it is a paper of a first power -/
noncomputable def fhB (T:G0 (G0 P0))(n:G8)(d:D):N4:=match d with
 | .tup [x,w,g]=>zi x&&(decide (1<=VP x)&&(JP T n w (VP x)&&(if VP x=1 then isN g else Pd T n g (VP x))))
 |_=>false
theorem ZC (z: ∀x y w,d≠ .tup [x,y,w]):fhB T n d=false:=by
 unfold fhB;split
 ·exact absurd rfl (z _ _ _)
 ·rfl
theorem JQ (h:zi d=true):d= .int (VP d):=by
 cases d with
 |int i=>rfl
 |_=>cases h
/-- k is no great number -/
def Kle (d:D):Prop:= ∀ (k:P0) (x y:D),d= .tup [.int k,x,y]->k<=100
def vQ:RDn:=λds h Q=> ∃T d,∃n e:G8,ds= [jA T,d]/\Sq n e T/\1<=n/\n<=6/\okD d=true/\Kle d/\Q (.bl (fhB T n d)) h
theorem Yu (Z:Zs mg)(F:Fun K "first_holds" "first_holds" wm f fd)(Xk:jp P w K mg base n "want_table" ["thing"] JL)(Yg:jp P w K mg base n "are_all_walks" ["table","thing","k"] yQ)(RD:jp P w K mg base n "is_from" ["thing","least"] Vc)(Nl:jp P w K mg base n "is_gap" ["table","thing","k"] UY):FnOk P w K mg base CX0 (n+1) f fd ["table","thing"] (LSp K vQ):=by
 refine F.okM yb (λhr=>(js5 (Vv (jk Xk hr (j1 (jv 0)))) (vN (jpt (Za (zm (zh (yi (T:= "tuple") (by decide) rfl Z.isinstance rfl Z.tuple (by decide +kernel) (jv 1)))) (Yq (jt1 oq_ne (Jo Z (jv 1)) jl)))) (zf jbl)) (FA (jv 1) (CI (i:=2) (j:=3) (l:=4) rfl yb.nd rfl rfl rfl (A2 rfl) (A2 rfl) (A2 rfl))) (vN (jpt (Za (zm (zh (jk RD hr (j2 (jv 2) jl)))) (Yq (zm (zh (jk Yg hr (j3 (jv 0) (jv 3) (jv 2)))))))) (zf jbl)) (zf (jif (jt1 oq_eq (jv 2) jl) (jc1 Cd (jv 4) Gy) (jk Nl hr (j3 (jv 0) (jv 4) (jv 2))))))) ?_;rintro ds h Q ⟨T,d,n,b,rfl,hT,h1,h6,ok,kl,q⟩;refine⟨rfl,?_⟩;refine wz [some (jA T),some d,none,none,none] (λC hC=>⟨_,rfl,T,n,b,rfl,hT,h1,h6,hC⟩) ?_;obtain⟨nm,hn⟩:=jx ok;cases d with
 |tup es=>
  cases hn;obtain⟨hl,oks⟩:=zd ok;rcases es with _|⟨x,_|⟨w,_|⟨g,_|⟨v,r⟩⟩⟩⟩
  ·rw [ZC (λ_ _ _ z=>by cases z)] at q;exact jf (λ_ _=>False) (λC hC=>⟨_,rfl,_,rfl,_,rfl,jH ⟨_,rfl,_,rfl,jw ⟨h,Sub.refl h,q⟩⟩⟩) (λ_ _ z=>z.elim)
  ·rw [ZC (λ_ _ _ z=>by cases z)] at q;exact jf (λ_ _=>False) (λC hC=>⟨_,rfl,_,rfl,_,rfl,jH ⟨_,rfl,_,rfl,jw ⟨h,Sub.refl h,q⟩⟩⟩) (λ_ _ z=>z.elim)
  ·rw [ZC (λ_ _ _ z=>by cases z)] at q;exact jf (λ_ _=>False) (λC hC=>⟨_,rfl,_,rfl,_,rfl,jH ⟨_,rfl,_,rfl,jw ⟨h,Sub.refl h,q⟩⟩⟩) (λ_ _ z=>z.elim)
  ·have q:Q (.bl (zi x&&(decide (1<=VP x)&&(JP T n w (VP x)&&(if VP x=1 then isN g else Pd T n g (VP x)))))) h:=q;refine wz [some (jA T),some (.tup [x,w,g]),none,none,none] (λC hC=>⟨_,rfl,_,rfl,_,rfl,jH ⟨_,rfl,_,rfl,jH (hC)⟩⟩) ?_;refine wz [some (jA T),some (.tup [x,w,g]),some x,some w,some g] (λC hC=>⟨_,rfl,_,_,_,rfl,hC⟩) ?_;cases cx:zi x with
   |false=>
    rw [cx,T0] at q;exact jf (λ_ _=>False) (λC hC=>⟨_,rfl,x,1,rfl,oks x (by simp),.inr ⟨cx,_,rfl,jw (jw ⟨h,Sub.refl h,q⟩)⟩⟩) (λ_ _ z=>z.elim)
   |true=>
    have ex:=JQ cx;generalize VP x=k at ex q;subst ex;have k100:=kl k w g rfl;rw [cx,M1] at q;refine jf (λxC h'=>xC= [some (jA T),some (.tup [.int k,w,g]),some (.int k),some w,some g]/\h=h'/\1<=k/\JP T n w k=true) (λC hC=>⟨_,rfl,_,1,rfl,rfl,.inl ⟨k,rfl,?_⟩⟩) ?_
    ·cases c1:decide (1<=k) with
     |false=>rw [c1,T0] at q;exact⟨_,rfl,jw (jw ⟨h,Sub.refl h,q⟩)⟩
     |true=>
      rw [c1,M1] at q;refine⟨_,rfl,jH ⟨_,rfl,_,rfl,_,rfl,T,w,n,b,k,rfl,hT,h1,h6,oks w (by simp),?_⟩⟩;cases c2:JP T n w k with
      |false=>rw [c2,T0] at q;exact⟨_,rfl,jw ⟨h,Sub.refl h,q⟩⟩
      |true=>exact⟨_,rfl,jH (hC _ _ ⟨rfl,rfl,H0 c1,c2⟩)⟩
    rintro _ _ ⟨rfl,rfl,k1,c2⟩;rw [D0 k1,c2,M1,M1] at q;refine⟨_,rfl,?_⟩;show ∃c,D.bl (decide (k=1))=D.bl c/\_
    by_cases z:k=1
    ·rw [S2 z] at q;rw [D0 z];exact⟨_,rfl,jw ⟨_,rfl,h,Sub.refl h,by rw [gV];exact q⟩⟩
    ·rw [S3 z] at q;rw [D1 z];exact⟨_,rfl,jH ⟨_,rfl,_,rfl,_,rfl,T,g,n,b,k,rfl,hT,h1,h6,by omega,k100,oks g (by simp),h,Sub.refl h,q⟩⟩
  ·rw [ZC (λ_ _ _ z=>by cases z)] at q;have n3:decide ((((x::w::g::v::r).length:G8):P0)=3)=false:=D1 (by simp only [R1];omega);refine jf (λ_ _=>False) (λC hC=>⟨_,rfl,_,rfl,_,rfl,jH ⟨_,rfl,_,rfl,?_⟩⟩) (λ_ _ z=>z.elim);show if (!decide ((((x::w::g::v::r).length:G8):P0)=3))=true then _ else _
   rw [n3];exact jw ⟨h,Sub.refl h,q⟩
 |_=>cases hn<;>exact jf (λ_ _=>False) (λC hC=>⟨_,rfl,_,rfl,_,rfl,jw (jw ⟨h,Sub.refl h,q⟩)⟩) (λ_ _ z=>z.elim)
def vt:RDx:=λds h R=> ∃d x,ds= [d,x]/\okD d=true/\RG d=false/\R "NoTable" h
theorem Yb (Z:Zs mg)(Ex:Exc K mg)(F:Fun K "first_holds" "first_holds" wm f fd)(CR_want_table:VE P w K mg base n "want_table" ["thing"] vP):FnOk P w K mg base (CXR P w) (n+1) f fd ["table","thing"] (NF mg K vt):=by
 refine F.okMX yb (λhr=>(Cu (jxk CR_want_table hr (j1 (jv 0))))) ?_;rintro ds h R ⟨d,x,rfl,ok,bad,q⟩;refine⟨rfl,?_⟩;exact⟨_,rfl,d,rfl,ok,bad,q⟩
def ZD:RDn:=λds h Q=> ∃ns k,ds= [.scr ns,.int k]/\0<=k/\ ∀n,Q (.int n) h
theorem UZ (Z:Zs mg)(F:Fun K "_law_cell" "_law_cell" Jc f fd):FnOk P w K mg base CX0 (n+1) f fd ["_law_script","_law_k"] (LSp K ZD):=by
 refine F.okM UR (λhr=>(js2 (vN (jt1 Xy (jv 1) (Jo Z (jv 0))) (zf (ji1 (jv 0) (jv 1)))) (zf jl))) ?_;rintro ds h Q ⟨ns,k,rfl,h0,q⟩;refine⟨rfl,?_⟩;simp only [yX,BD,ZL,dOp,Gt,ze,B2,V1,R1,N2,O8,C9,W1,O5,A4,dCB,zr,ZK,Fx,Nv,D.bl.injEq,Gu,ixD,Uh,U1,Xx,dC];refine PJ (λc=> ?_) (λ_=>⟨h,Sub.refl h,q 0⟩);have c':k<(ns.length:P0):=H0 c;have hk:k.toNat<ns.length:=by omega
 have ek:k=((k.toNat:G8):P0):=by omega
 have z:=wt (G5 hk);rw [<-ek] at z;exact⟨ns[k.toNat],z,h,Sub.refl h,q _⟩
def Yc:RDn:=λds h Q=> ∃c,ds= [.int c]/\ ∀p l fl,h p=none->0<=l->(fl=0\/fl=1)->Q (.lst p) (zV h p [.int l,.int fl])
theorem Qf (Z:Zs mg)(F:Fun K "_law_pen" "_law_pen" Zo f fd):FnOk P w K mg base CX0 (n+1) f fd ["_law_cell_here"] (LSp K Yc):=by
 refine F.okM WT (λhr=>(js2 (jse 1 WT (jR (Nx rfl) rfl Z.max (by decide +kernel) (j2 (jv 0) (jop YM jl (jv 0))))) (zf (yh (j2 (jv 1) (zb Qw rfl Z.int (by decide +kernel) (j1 (jc1 Ma (jv 1) (jop PZ jl jl))))))))) ?_;rintro ds h Q ⟨c,rfl,q⟩;refine⟨rfl,?_⟩;simp only [yX,RY,dCB,zr,Gt,ze,B2,V1,R1,N2,M0,O8,C9,O5,A4,dOp,dC,SF,ZK,EB,Gu,Bv,gY,gZ,W1,Ey,Nv,EA,Uh,U1];refine⟨⟨by decide,by decide,by decide⟩,by decide,λp hp=>⟨_,Sub.refl _,q p _ _ hp ?_ ?_⟩⟩
 ·split<;>omega
 ·split<;>simp<;>omega
def jT:RDn:=λds h Q=> ∃p l fl m,ds= [.lst p,.int m]/\h p=some [.int l,.int fl]/\0<=l/\0<m/\m<2^200/\ ∀r l',0<=r->r<m->0<=l'->Q (.int r) (zV h p [.int l',.int fl])
theorem Xa (Z:Zs mg)(F:Fun K "_law_draw" "_law_draw" Jd f fd):FnOk P w K mg base CX0 (n+1) f fd ["_law_pen_here","_law_many"] (LSp K jT):=by
 refine F.okM wN (λhr=>(js5 (Fz (jt1 oq_eq (ji1 (jv 0) jl) jl) (js3 (FA (jR GE rfl Z.divmod (by decide +kernel) (j2 (ji1 (jv 0) jl) (jv 1))) (Qz (i:=2) (j:=3) rfl wN.nd rfl rfl (A2 rfl) (A2 rfl))) (FA (jv 2) (NB (jv 0) jl)) (zf (jv 3))) YQ) (jse 4 wN (jop Wv (jop vY (jop jI (jop Wv (ji1 (jv 0) jl) jl) jl) jl) jl)) (jse 4 wN (jop Wv (jop jI (jop vY (jv 4) (jv 4)) jl) jl)) (FA (jop Wv (jop jI (jop vY (jv 4) jl) jl) jl) (NB (jv 0) jl)) (zf (jop Wv (jop BR (ji1 (jv 0) jl) jl) (jv 1))))) ?_;rintro ds h Q ⟨p,l,fl,m,rfl,hp,h0,hm,hm2,q⟩;refine⟨rfl,?_⟩;refine wz [some (.lst p),some (.int m),none,none,none] (λC hC=>⟨_,rfl,_,_,hp,rfl,?_⟩) ?_
 ·show ∃k,D.bl (decide (fl=1))= .bl k/\_;refine⟨_,rfl,PJ (λ_=> ?_) λ_=>hC⟩;exact⟨_,rfl,_,_,hp,rfl,_,rfl,_,_,rfl,⟨hm,hm2⟩,_,_,rfl,_,rfl,_,rfl,p,0,_,0,rfl,rfl,hp,rfl,_,rfl,_,Sub.refl _,q (l%m) (l / m) (e9 _ (rZ hm)) (g6 _ hm) (Int.ediv_nonneg h0 (rN hm))⟩
 refine jf (λxC h'=> ∃z:P0,xC= [some (.lst p),some (.int m),none,none,some (.int z)]/\(0<=z/\z<2147483629)/\h=h') (λC hC=>⟨_,rfl,_,_,hp,rfl,by decide,.inr ⟨by decide,by decide⟩,by decide,hC _ _ ⟨_,rfl,⟨e9 _ (by decide),g6 _ (by decide)⟩,rfl⟩⟩) ?_;rintro _ _ ⟨z,rfl,⟨z0,z1⟩,rfl⟩;refine jf (λxC h'=> ∃y:P0,xC= [some (.lst p),some (.int m),none,none,some (.int y)]/\h=h') (λC hC=>⟨_,rfl,_,rfl,.inl ⟨mS (by decide) z0,Int.lt_trans z1 (by decide)⟩,by decide,hC _ _ ⟨_,rfl,rfl⟩⟩) ?_;rintro _ _ ⟨y,rfl,rfl⟩;refine jf (λxC h'=> ∃x:P0,xC= [some (.lst p),some (.int m),none,none,some (.int y)]/\0<=x/\h'=zV h p [.int x,.int fl]) (λC hC=>⟨_,rfl,.inr ⟨by decide,by decide⟩,by decide,_,rfl,p,0,_,0,rfl,rfl,hp,rfl,hC _ _ ⟨_,rfl,e9 _ (by decide),rfl⟩⟩) ?_;rintro _ _ ⟨x,rfl,x0,rfl⟩;exact⟨_,rfl,_,_,jc,rfl,⟨by decide,by decide⟩,_,rfl,hm,_,Sub.refl _,q (x / 32%m) x (e9 _ (rZ hm)) (g6 _ hm) x0⟩
theorem VQ (Z:Zs mg)(F:Fun K "_law_whole" "_law_whole" vi f fd):FnOk P w K mg base CX0 (n+1) f fd ["_law_thing"] (LSp K zj):=by
 refine F.okM VI (λhr=>(jD (zf (Vu (yi (T:= "int") (by decide) rfl Z.isinstance rfl Z.int (by decide +kernel) (jv 0)) (Ui (SJ (yi (T:= "bool") (by decide) rfl Z.isinstance rfl Z.bool (by decide +kernel) (jv 0)))))))) ?_;rintro ds h Q ⟨d,nm,rfl,hn,q⟩;refine⟨rfl,?_⟩;simp only [Gu,PQ,dIs,Gt,ze,B2,V1,R1,N2,O8,C9,O5,A4,D.bl.injEq,PR,Uh,U1,hn];cases d<;>cases hn<;>exact⟨h,Sub.refl h,q⟩
def Yd:RDn:=λds h Q=> ∃p l fl,ds= [.lst p]/\h p=some [.int l,.int fl]/\0<=l/\ ∀d l' h',okD d=true->(∀x y z,d≠ .tup [x,y,z])->But p h h'->h' p=some [.int l',.int fl]->0<=l'->Q d h'
theorem Qg (Z:Zs mg)(F:Fun K "_law_odd" "_law_odd" Zp f fd)(ji:jp P w K mg base n "_law_draw" ["_law_pen_here","_law_many"] jT):FnOk P w K mg base CX0 (n+1) f fd ["_law_pen_here"] (LSp K Yd):=by
 refine F.okM WU (λhr=>(js2 (jse 1 WU (yh (jac Gy (by exact(jac jbl (by exact(jac jbl (by exact(jac (QB jl) (by exact(jac Wy (by exact(jac Wy (by exact(jac (jX jS) (by exact(jac (yh jS) (by exact(jac (jX (j1 jl)) (by exact(jac (yh (j1 jl)) (by exact(jac NC (by exact(j4 (jX (j2 jl jl)) (jop PZ jl jl) (jX (j2 jl (jX jS))) (jX (j1 (jX jS)))))))))))))))))))))))))))) (zf (ji1 (jop jI (jv 1) (yh (j1 (jX (j1 (jX (j1 jl))))))) (jk ji hr (j2 (jv 0) jl)))))) ?_;rintro ds h Q ⟨p,l,fl,rfl,hp,h0,q⟩;refine⟨rfl,?_⟩;simp only [yX,RY,Bv,zr,dC,dUn,Fy,Ft,ZK,N2,R1,Ux,dOp,Ey,Gu,Gt,ze,B2,V1,M0,O8,C9,gY,gZ,W1,O5,A4,Ev,dCB,ixD,U1,Uh]
 repeat (first|intro _|refine⟨by decide,?_⟩|refine⟨⟨by decide,by decide,by decide⟩,?_⟩)
 rename_i p1 e1 p2 e2 p4 e4 p5 e5;have k1:=je (M:= []) hp e1;have k2:=je (M:= [.int 0]) k1 e2;have n1:p1≠p:=jh hp e1;have n2:p2≠p:=jh k1 e2;refine⟨_,_,jj (K6 (Cb e5)) jc,jc,by simp only [R1,N2];decide,λp6 e6=> ?_⟩;refine⟨p,l,fl,16,rfl,je (je (je k2 e4) e5) e6,h0,by decide,by decide,λr l' r0 r1 l0=> ?_⟩;obtain⟨d,hd,ed⟩:=wT (xs:= [D.non,D.bl true,D.bl false,D.int (-1),D.str (K7 "1"),D.str (K7 ""),D.tup [],D.lst p1,D.tup [D.int 0],D.lst p2,D.dic (K7 "a") 1,D.tup [D.int 0,D.int 1],D.int (10^fM 30),D.tup [D.int 0,D.tup []],D.tup [D.tup []]]++ [D.tup [D.tup [D.int 0]]]) r0 r1;refine⟨_,d,jj (jh (je (je k2 e4) e5) e6) jc,ed,_,Sub.refl _,q d l' _ (We ?_ d hd) ?_ ((((((But.refl p h).new e1).new e2).new e4).new e5).new e6).put jc l0⟩
 ·rfl
 ·simp only [D5,D2,T9,or_false] at hd;rcases hd with (e|e|e|e|e|e|e|e|e|e|e|e|e|e|e)|e<;>subst e
  all_goals (intro x y z e;cases e)
def GT (c:Str)(n:G8):G0 D:=((CN13.map λd=>c==d).take n).map D.bl
def Ng (c:Str):G0 Q1:=(CN13.map λd=>c==d).map o0
def wordsD:G0 D:=(["table","place","number","order","set","walk","lengths","way","apart","row","tables","text","great"]:G0 Str).map D.str
theorem RC: ∀bs:G0 N4,ToPs h (bs.map D.bl) (bs.map o0)
 | []=>rfl
 |b::bs=>⟨_,_,rfl,rfl,RC bs⟩
theorem zB {l:G0 N4}{j:G8}(h:(l.take j).all (!·)=true){m:G8}{y:Q1}(hm:m<j)(e:(l.map o0)[m]? =some y):F4 y (.bool true)=false:=by
 rw [R5] at e;obtain⟨b,e1,rfl⟩:=Z9.mp e;have:=S8.mp h b (P6 (i:=m) (by rw [U9 hm];exact e1));cases b with
 |true=>cases this
 |false=>rfl
theorem Sd {c:Str}(hc:c∈CN): ∃j:G8,j<10/\(Ng c)[j]? =some (.bool true)/\(∀m y,m<j->(Ng c)[m]? =some y->F4 y (.bool true)=false)/\atI wordsD (j:P0)=some (D.str (Jz c))/\((Ng c).countP λz=>F4 z (.bool true))=1:=by
 simp only [CN,D2,T9,or_false] at hc;rcases hc with rfl|rfl|rfl|rfl|rfl|rfl|rfl|rfl|rfl|rfl
 ·exact⟨0,by decide,rfl,λm y=>zB rfl,rfl,rfl⟩
 ·exact⟨1,by decide,rfl,λm y=>zB rfl,rfl,rfl⟩
 ·exact⟨2,by decide,rfl,λm y=>zB rfl,rfl,rfl⟩
 ·exact⟨3,by decide,rfl,λm y=>zB rfl,rfl,rfl⟩
 ·exact⟨4,by decide,rfl,λm y=>zB rfl,rfl,rfl⟩
 ·exact⟨5,by decide,rfl,λm y=>zB rfl,rfl,rfl⟩
 ·exact⟨6,by decide,rfl,λm y=>zB rfl,rfl,rfl⟩
 ·exact⟨7,by decide,rfl,λm y=>zB rfl,rfl,rfl⟩
 ·exact⟨8,by decide,rfl,λm y=>zB rfl,rfl,rfl⟩
 ·exact⟨9,by decide,rfl,λm y=>zB rfl,rfl,rfl⟩
theorem VR (Z:Zs mg)(Ex:Exc K mg)(F:Fun K "_law_kind" "_law_kind" Je f fd):FnOkU P w K mg base CX0 (n+1) f fd ["_law_e"] (LSp K (DY mg)):=by
 obtain⟨D_NoOrder,m_NoOrder⟩:=Ex.cls "NoOrder" (by decide);obtain⟨D_NoNumber,m_NoNumber⟩:=Ex.cls "NoNumber" (by decide);obtain⟨D_NoPlace,m_NoPlace⟩:=Ex.cls "NoPlace" (by decide);obtain⟨D_NoTable,m_NoTable⟩:=Ex.cls "NoTable" (by decide);obtain⟨D_NoLengths,m_NoLengths⟩:=Ex.cls "NoLengths" (by decide);obtain⟨D_NoWalk,m_NoWalk⟩:=Ex.cls "NoWalk" (by decide);obtain⟨D_NoSet,m_NoSet⟩:=Ex.cls "NoSet" (by decide);obtain⟨D_NoRow,m_NoRow⟩:=Ex.cls "NoRow" (by decide);obtain⟨D_Apart,m_Apart⟩:=Ex.cls "Apart" (by decide);obtain⟨D_NoWay,m_NoWay⟩:=Ex.cls "NoWay" (by decide);obtain⟨D_TooGreat,m_TooGreat⟩:=Ex.cls "TooGreat" (by decide);obtain⟨D_NoText,m_NoText⟩:=Ex.cls "NoText" (by decide);obtain⟨D_NoTables,m_NoTables⟩:=Ex.cls "NoTables" (by decide);refine F.okJU zK (λds h Q q=>by obtain⟨c,C,e,hc,hm,q⟩:=q;subst e;rfl) _ (λcdv A outer s H E hr=>(js7 (jse 1 zK (yh (j4 (GK rfl Z.isinstance rfl m_NoTable (jv 0)) (GK rfl Z.isinstance rfl m_NoPlace (jv 0)) (GK rfl Z.isinstance rfl m_NoNumber (jv 0)) (GK rfl Z.isinstance rfl m_NoOrder (jv 0))))) (jse 1 zK (jop jI (jv 1) (yh (j3 (GK rfl Z.isinstance rfl m_NoSet (jv 0)) (GK rfl Z.isinstance rfl m_NoWalk (jv 0)) (GK rfl Z.isinstance rfl m_NoLengths (jv 0)))))) (jse 1 zK (jop jI (jv 1) (yh (j3 (GK rfl Z.isinstance rfl m_NoWay (jv 0)) (GK rfl Z.isinstance rfl m_Apart (jv 0)) (GK rfl Z.isinstance rfl m_NoRow (jv 0)))))) (jse 1 zK (jop jI (jv 1) (yh (j3 (GK rfl Z.isinstance rfl m_NoTables (jv 0)) (GK rfl Z.isinstance rfl m_NoText (jv 0)) (GK rfl Z.isinstance rfl m_TooGreat (jv 0)))))) (vN (jpt (Za (zm (zh (Hb (T:= "ValueError") rfl Z.isinstance rfl Ex.ve (by decide +kernel) (jv 0)))) (Yq (jt1 oq_ne (Ha hr.units (jv 1) jbl) jl)))) (zf Wy)) (jse 2 zK (yh (jac Wy (by exact(jac Wy (by exact(jac Wy (by exact(jac Wy (by exact(jac Wy (by exact(jac Wy (by exact(j4 Wy Wy Wy Wy))))))))))))))) (zf (ji1 (jop jI (jv 2) (yh (j3 Wy Wy Wy))) (TV hr.units (jv 1) jbl))))) ?_;intro ds h Q q;obtain⟨c,C,e,hc,hm,q⟩:=q;subst e;have kit: ∀d∈CN13,∀D,mg d=some (.ref D)->fV K (.ref C) (.ref D)=some (c==d):=λd hd D hD=>Ex.kit c hc d hd C D hm hD
 have ek:=Ex.ek c hc C hm;have kv:=Ex.val c hc C hm;refine jf (λxC h'=> ∃p,xC= [some (.exc C),some (.lst p),none]/\Sub h h'/\h' p=some (GT c 4)) (λC2 hC=>⟨_,rfl,C,_,rfl,ek,kit _ (by decide) _ m_NoTable,_,rfl,C,_,rfl,ek,kit _ (by decide) _ m_NoPlace,_,rfl,C,_,rfl,ek,kit _ (by decide) _ m_NoNumber,_,rfl,C,_,rfl,ek,kit _ (by decide) _ m_NoOrder,sz4,λp e=>hC _ _ ⟨p,rfl,Sub.newAt (Sub.refl h) e,jc⟩⟩) ?_;rintro _ h1 ⟨p,rfl,sb,k1⟩;refine jf (λxC h'=> ∃p,xC= [some (.exc C),some (.lst p),none]/\Sub h h'/\h' p=some (GT c 7)) (λC2 hC=>⟨_,rfl,_,rfl,C,_,rfl,ek,kit _ (by decide) _ m_NoSet,_,rfl,C,_,rfl,ek,kit _ (by decide) _ m_NoWalk,_,rfl,C,_,rfl,ek,kit _ (by decide) _ m_NoLengths,sz3,λp2 e2=>⟨_,_,je k1 e2,jc,(by show 7<=sizeLine;decide),λp3 e3=>hC _ _ ⟨p3,rfl,Sub.newAt (Sub.newAt sb e2) e3,jc⟩⟩⟩) ?_;rintro _ h1 ⟨p,rfl,sb,k1⟩;refine jf (λxC h'=> ∃p,xC= [some (.exc C),some (.lst p),none]/\Sub h h'/\h' p=some (GT c 10)) (λC2 hC=>⟨_,rfl,_,rfl,C,_,rfl,ek,kit _ (by decide) _ m_NoWay,_,rfl,C,_,rfl,ek,kit _ (by decide) _ m_Apart,_,rfl,C,_,rfl,ek,kit _ (by decide) _ m_NoRow,sz3,λp2 e2=>⟨_,_,je k1 e2,jc,(by show 10<=sizeLine;decide),λp3 e3=>hC _ _ ⟨p3,rfl,Sub.newAt (Sub.newAt sb e2) e3,jc⟩⟩⟩) ?_;rintro _ h1 ⟨p,rfl,sb,k1⟩;refine jf (λxC h'=> ∃p,xC= [some (.exc C),some (.lst p),none]/\Sub h h'/\h' p=some (GT c 13)) (λC2 hC=>⟨_,rfl,_,rfl,C,_,rfl,ek,kit _ (by decide) _ m_NoTables,_,rfl,C,_,rfl,ek,kit _ (by decide) _ m_NoText,_,rfl,C,_,rfl,ek,kit _ (by decide) _ m_TooGreat,sz3,λp2 e2=>⟨_,_,je k1 e2,jc,(by show 13<=sizeLine;decide),λp3 e3=>hC _ _ ⟨p3,rfl,Sub.newAt (Sub.newAt sb e2) e3,jc⟩⟩⟩) ?_;rintro _ h1 ⟨p,rfl,sb,k1⟩;have hpG: ∀h':HD,h' p=some (GT c 13)->ToP h' (.lst p) (.list (Ng c)):=λh' k=>⟨p,_,rfl,k,RC _⟩
 obtain⟨j,hj,hz,hno,hw,hcnt⟩:=Sd hc;refine wz [some (.exc C),some (.lst p),none] (λC2 hC=>⟨_,rfl,C,_,rfl,ek,kv,_,rfl,jH ⟨_,rfl,p,rfl,.bool true,_,hpG h1 k1,rfl,rfl,rfl,by simp [aA],_,rfl,?_⟩⟩) ?_
 ·rw [hcnt];exact jH (hC)
 refine jf (λxC h'=> ∃w,xC= [some (.exc C),some (.lst p),some (.lst w)]/\Sub h1 h'/\h' p=some (GT c 13)/\h' w=some (wordsD.take 10)) (λC2 hC=>⟨(by show 10<=sizeLine;decide),λw e=>hC _ _ ⟨w,rfl,Sub.newAt (Sub.refl h1) e,je k1 e,jc⟩⟩) ?_;rintro _ h2 ⟨w,rfl,sb2,kp2,kw⟩;exact⟨_,rfl,sz3,λp4 e4=>⟨_,_,je kw e4,jc,(by show 13<=sizeLine;decide),λp5 e5=>⟨_,rfl,p,rfl,.bool true,_,j,_,hpG _ (je (je kp2 e4) e5),rfl,rfl,rfl,by simp [aA],by omega,hz,rfl,hno,_,_,jc,hw,_,Sub.refl _,q _ (Sub.newAt (Sub.newAt (sb.trans sb2) e4) e5)⟩⟩⟩
theorem Fe (Z:Zs mg)(Ex:Exc K mg)(F:Fun K "_law_said" "_law_said" Jf f fd)(CU:DT P w K mg base n "_law_kind" ["_law_e"] (DY mg)):FnOkS P w K mg base CX0 (n+2) f fd ["_law_call"] (QQ P w K mg base n):=by
 obtain⟨gU,gdU,GU,bGU,kGU,mGU⟩:=CU;obtain⟨pe,hpe,hex⟩:=Ex.pe;refine CB F ZI rfl rfl rfl rfl rfl hpe hex _ (λcdv A outer s H E x hr=>jE (SK (i:=3) ZI.nd rfl (A2 rfl) (OR GU hr rfl mGU kGU bGU (jac (jv 2) jS))) (jE (Fz (XD (DD hr.units) (jv 3) (jX (jac Wy (jac Wy jS))) (by with_unfolding_all rfl)) (jD Dm) YQ) (jE (Fz (XD oq_eq (jv 3) Wy (Pq _)) (jD Dm) YQ) (jD (zf (jX (jac (jv 3) jS))))))) ?_;intro c hc C h Qd hm q;refine⟨_,rfl,c,C,rfl,hc,hm,λh' sb=> ?_⟩;refine⟨_,rfl,(by show 2<=sizeLine;decide),.str (Jz c),[.str "tables",.str "text"],rfl,.inr ⟨_,rfl,⟨_,_,rfl,rfl,_,_,rfl,rfl,rfl⟩⟩,?_,by decide +kernel,by simp [aA],_,rfl,?_⟩
 ·simp only [CN,D2,T9,or_false] at hc;rcases hc with rfl|rfl|rfl|rfl|rfl|rfl|rfl|rfl|rfl|rfl<;>decide +kernel
 have e1:((false !=List.any [tY "tables",tY "text"] λz=>F4 z (.str (Jz c))))=false:=by
  simp only [CN,D2,T9,or_false] at hc;rcases hc with rfl|rfl|rfl|rfl|rfl|rfl|rfl|rfl|rfl|rfl<;>rfl
 rw [e1];refine jH ⟨_,rfl,_,rfl,?_⟩;have e2:decide (Jz c= "great")=false:=by
  simp only [CN,D2,T9,or_false] at hc;rcases hc with rfl|rfl|rfl|rfl|rfl|rfl|rfl|rfl|rfl|rfl<;>rfl
 rw [e2];exact jH ⟨_,rfl,(by show 1<=sizeLine;decide),h,sb,q⟩
theorem Xb (Z:Zs mg)(F:Fun K "_law_same" "_law_same" Jg f fd):FnOk P w K mg base CX0 (n+1) f fd ["_law_found","_law_due"] (LSp K ND):=by
 refine F.okM US (λhr=>(jD (zf (jc1 oq_eq (jR (QL hr) rfl Z.repr (by decide +kernel) (j1 (jv 0))) (jR (QL hr) rfl Z.repr (by decide +kernel) (j1 (jv 1))))))) ?_;rintro ds h Q ⟨x,y,pd,rfl,t1,t2,so,q⟩;refine⟨rfl,?_⟩;refine⟨_,rfl,x,pd,rfl,t1,so,_,rfl,y,pd,rfl,t2,so,h,Sub.refl h,?_⟩;rw [D0 rfl];exact q
def ZE:RDn:=λds h Q=> ∃p l fl,ds= [.lst p]/\h p=some [.int l,.int fl]/\0<=l/\ ∀ (k:G8) l',1<=k->k<=6->0<=l'->Q (.int (k:P0)) (zV h p [.int l',.int fl])
theorem Xc (Z:Zs mg)(F:Fun K "_law_size" "_law_size" Jh f fd)(ji:jp P w K mg base n "_law_draw" ["_law_pen_here","_law_many"] jT):FnOk P w K mg base CX0 (n+1) f fd ["_law_pen_here"] (LSp K ZE):=by
 refine F.okM UT (λhr=>(jD (zf (ji1 (yh (jac jl (by exact(jac jl (by exact(jac jl (by exact(jac jl (by exact(jac jl (by exact(jac jl (by exact(jac jl (by exact(jac jl (by exact(j4 jl jl jl jl)))))))))))))))))) (jk ji hr (j2 (jv 0) jl)))))) ?_;rintro ds h Q ⟨p,l,fl,rfl,hp,h0,q⟩;refine⟨rfl,?_⟩;simp only [Gu,dOp,Bv,zr,dC,ZK,R1,N2,dCB,Gt,ze,B2,V1,O8,C9,O5,A4,ixD,Uh,U1];refine⟨by decide,λp1 e1=>⟨p,l,fl,12,rfl,je hp e1,h0,by decide,by decide,λr l' r0 r1 l0=> ?_⟩⟩;obtain⟨d,hd,ed⟩:=wT (xs:= [D.int 1,D.int 2,D.int 3,D.int 4,D.int 5,D.int 3,D.int 4,D.int 2,D.int 6,D.int 5,D.int 4,D.int 3]) r0 r1;refine⟨_,d,jj (jh hp e1) jc,ed,_,Sub.both (Sub.newAt (Sub.refl h) e1),?_⟩;have q': ∀k:G8,1<=k->k<=6->Q (.int (k:P0)) (zV h p [.int l',.int fl]):=λk a b=>q k l' a b l0
 simp only [D2,T9,or_false] at hd;rcases hd with e|e|e|e|e|e|e|e|e|e|e|e<;>subst e
 ·exact q' 1 (by decide) (by decide)
 ·exact q' 2 (by decide) (by decide)
 ·exact q' 3 (by decide) (by decide)
 ·exact q' 4 (by decide) (by decide)
 ·exact q' 5 (by decide) (by decide)
 ·exact q' 3 (by decide) (by decide)
 ·exact q' 4 (by decide) (by decide)
 ·exact q' 2 (by decide) (by decide)
 ·exact q' 6 (by decide) (by decide)
 ·exact q' 5 (by decide) (by decide)
 ·exact q' 4 (by decide) (by decide)
 ·exact q' 3 (by decide) (by decide)
def JR:RDn:=λds h Q=> ∃p l fl,∃k:G8,ds= [.lst p,.int (k:P0)]/\h p=some [.int l,.int fl]/\0<=l/\1<=k/\k<=6/\ ∀T l',GoodTab k T->0<=l'->Q (jA T) (zV h p [.int l',.int fl])
theorem VS (Z:Zs mg)(F:Fun K "_law_table" "_law_table" vj f fd)(ji:jp P w K mg base n "_law_draw" ["_law_pen_here","_law_many"] jT):FnOk P w K mg base CX0 (n+1) f fd ["_law_pen_here","_law_size_here"] (LSp K JR):=by
 refine F.okM jz (λhr=>(js5 (TH (i:=2) (j:=3) rfl jz.nd rfl rfl (by decide) rfl rfl (j2 (jk ji hr (j2 (jv 0) jl)) (ji1 (yh (j3 jl jl jl)) (jk ji hr (j2 (jv 0) jl)))) rfl) (jse 4 jz (ji1 (yh (j4 jl jl jl (jop PZ jl jl))) (jk ji hr (j2 (jv 0) jl)))) (jse 5 jz (yh jS)) (YR B9 rfl (jrg Z (jv 1)) (jgn 6 jz) (js3 (jse 7 jz (yh jS)) (YR B9 rfl (jrg Z (jv 1)) (jgn 8 jz) (js5 (jse 9 jz (jc1 oq_eq (jk ji hr (j2 (jv 0) (jv 3))) jl)) (vN (jt1 Xy (jv 2) jl) (jse 9 jz (jor (jc1 oq_eq (jv 8) (jop Wv (jop jI (jv 6) jl) (jv 1))) (Ui (Vu (jv 9) (Ui (jc1 (Ww hr.units) (jk ji hr (j2 (jv 0) jl)) (jv 2)))))))) (vN (jt1 oq_eq (jv 2) jl) (jse 9 jz (jor (Vu (jv 9) (Ui (jc1 oq_eq (jop Wv (jop YM (jv 8) (jv 6)) jl) jl))) (Ui (jc1 (Ww hr.units) (jv 8) (jop jI (jv 6) jl)))))) (vN (jt1 oq_eq (jv 2) jl) (jse 9 jz (Vu (jv 9) (Ui (jc1 Ma (jv 8) (jv 6)))))) (Vv (NA (jv 7) (jop vY (zb Qw rfl Z.int (by decide +kernel) (j1 (jv 9))) (jop jI jl (jk ji hr (j2 (jv 0) (jv 4))))))))) (Vv (NA (jv 5) (zb cq_tuple rfl Z.tuple (by decide +kernel) (j1 (jv 7))))))) (zf (zb cq_tuple rfl Z.tuple (by decide +kernel) (j1 (jv 5)))))) ?_;rintro ds h Q ⟨p,l,fl,k,rfl,hp,h0,hk1,hk6,q⟩;refine⟨rfl,?_⟩;refine jf (λxC h'=> ∃way o l2,xC= [some (.lst p),some (.int (k:P0)),some (.int way),some (.int o),none,none,none,none,none,none]/\0<o/\o<1000/\0<=l2/\h' p=some [.int l2,.int fl]/\But p h h') (λC hC=>⟨_,rfl,p,l,fl,6,rfl,hp,h0,by decide,by decide,λway l1 w0 w1 l10=>⟨sz3,λp1 e1=>⟨_,rfl,p,l1,fl,3,rfl,je jc e1,l10,by decide,by decide,λr l2 r0 r1 l20=> ?_⟩⟩⟩) ?_
 ·obtain⟨oft,ho,eo⟩:=wT (xs:= [D.int 2,D.int 3,D.int 5]) r0 r1;obtain⟨o,e,o1,o2⟩: ∃o:P0,oft= .int o/\0<o/\o<1000:=by
   simp only [D2,T9,or_false] at ho;rcases ho with e|e|e<;>exact⟨_,e,by decide,by decide⟩
  subst e;exact⟨_,_,jj (jh jc e1) jc,eo,_,_,rfl,hC _ _ ⟨way,o,l2,rfl,o1,o2,l20,jc,((But.upd).new e1).put⟩⟩
 rintro _ h1 ⟨way,o,l2,rfl,o1,o2,l20,kA,bA⟩;refine jf (λxC h'=> ∃m l3,xC= [some (.lst p),some (.int (k:P0)),some (.int way),some (.int o),some (.int m),none,none,none,none,none]/\0<m/\m<=1000000/\0<=l3/\h' p=some [.int l3,.int fl]/\But p h h') (λC hC=>⟨⟨by decide,by decide,by decide⟩,sz4,λp1 e1=>⟨_,rfl,p,l2,fl,4,rfl,je kA e1,l20,by decide,by decide,λr l3 r0 r1 l30=> ?_⟩⟩) ?_
 ·obtain⟨most,ho,eo⟩:=wT (xs:= [D.int 1,D.int 1,D.int 3,D.int (10^fM 6)]) r0 r1;obtain⟨m,e,m1,m2⟩: ∃o:P0,most= .int o/\0<o/\o<=1000000:=by
   simp only [D2,T9,or_false] at ho;rcases ho with e|e|e|e<;>exact⟨_,e,by decide,by decide⟩
  subst e;exact⟨_,_,jj (jh kA e1) jc,eo,hC _ _ ⟨m,l3,rfl,m1,m2,l30,jc,(bA.new e1).put⟩⟩
 clear kA bA;rintro _ h2 ⟨m,l3,rfl,m1,m2,l30,kB,bB⟩;refine jf (λxC h'=> ∃R,xC= [some (.lst p),some (.int (k:P0)),some (.int way),some (.int o),some (.int m),some (.lst R),none,none,none,none]/\R≠p/\h R=none/\h' R=some []/\h' p=some [.int l3,.int fl]/\But p h h') (λC hC=>⟨sz0,λR eR=>hC _ _ ⟨R,rfl,jh kB eR,Dj bB eR (jh kB eR),jc,je kB eR,bB.new eR⟩⟩) ?_;clear kB bB;rintro _ h3 ⟨R,rfl,nR,fR,kR,kC,bC⟩;refine jf (λxC h'=> ∃a b c d l4 rows,xC= [some (.lst p),some (.int (k:P0)),some (.int way),some (.int o),some (.int m),some (.lst R),a,b,c,d]/\0<=l4/\h' p=some [.int l4,.int fl]/\h' R=some (rows.map Jn)/\But p h h'/\GoodTab k rows) (λC hC=> ?_) (λxC h' ⟨a,b,c,d,l4,rows,e,l40,kD,kE,bD,g⟩=>by subst e;exact⟨_,rfl,_,kE,_,bD.sub kD,q rows l4 g l40⟩);refine yA k (λi xC h'=> ∃a b c d l4 rows,xC= [some (.lst p),some (.int (k:P0)),some (.int way),some (.int o),some (.int m),some (.lst R),a,b,c,d]/\0<=l4/\h' p=some [.int l4,.int fl]/\h' R=some (rows.map Jn)/\But p h h'/\rows.length=i/\ ∀r∈rows,XG k r) (by omega) (λR' r=>⟨_,rfl,r⟩)
  ⟨none,none,none,none,l3,[],rfl,l30,kC,kR,bC,rfl,λr hr=>nomatch hr⟩ (λxC h' z=>hC _ _ z) ?_
 clear kC kR bC;rintro i _ h4 hi ⟨a,b,c,d,l4,rows,rfl,l40,kD,kE,bD,g1,g2⟩;refine jf (λxC h'=> ∃S,xC= [some (.lst p),some (.int (k:P0)),some (.int way),some (.int o),some (.int m),some (.lst R),some (.int (i:P0)),some (.lst S),c,d]/\S≠p/\S≠R/\h S=none/\h' S=some []/\h' p=some [.int l4,.int fl]/\h' R=some (rows.map Jn)/\But p h h') (λC hC=>⟨sz0,λS eS=>hC _ _ ⟨S,rfl,jh kD eS,jh kE eS,Dj bD eS (jh kD eS),jc,je kD eS,je kE eS,bD.new eS⟩⟩) ?_;clear kD kE bD;rintro _ h5 ⟨S,rfl,nS,nSR,fS,kS,kD,kE,bD⟩;refine jf (λxC h'=> ∃c d l5 row,xC= [some (.lst p),some (.int (k:P0)),some (.int way),some (.int o),some (.int m),some (.lst R),some (.int (i:P0)),some (.lst S),c,d]/\0<=l5/\h' p=some [.int l5,.int fl]/\h' R=some (rows.map Jn)/\h' S=some (row.map D.int)/\But p h h'/\XG k row) (λC hC=> ?_) ?_
 rotate_left
 ·rintro _ h6 ⟨c,d,l5,row,rfl,l50,kD,kE,kF,bD,g⟩;refine⟨_,rfl,R,rfl,_,rfl,_,kF,_,kE,?_,_,Sub.refl _,by omega,_,_,_,_,l5,rows++ [row],rfl,l50,jj (K6 nR) kD,?_,bD.putNew fR,by rw [P7,g1];rfl,?_⟩
  ·rw [G7];exact K9 (show rows.length<=1000 by omega) (by decide)
  ·rw [jc,J8];rfl
  ·intro r hr;rcases D5.mp hr with z|z
   ·exact g2 r z
   ·rw [P3.mp z];exact g
 refine yA k (λj xC h'=> ∃c d l5 row,xC= [some (.lst p),some (.int (k:P0)),some (.int way),some (.int o),some (.int m),some (.lst R),some (.int (i:P0)),some (.lst S),c,d]/\0<=l5/\h' p=some [.int l5,.int fl]/\h' R=some (rows.map Jn)/\h' S=some (row.map D.int)/\But p h h'/\row.length=j/\ ∀x∈row,0<=x/\x<=1000000) (by omega) (λR' r=>⟨_,rfl,r⟩)
  ⟨_,_,l4,[],rfl,l40,kD,kE,kS,bD,rfl,λr hr=>nomatch hr⟩ (λxC h' z=>hC _ _ z) ?_
 clear kD kE kS bD;rintro j _ h6 hj ⟨c,d,l5,row,rfl,l50,kD,kE,kF,bD,g1',g2'⟩;refine jf (λxC h'=> ∃ (g:N4) (l6:P0),xC= [some (.lst p),some (.int (k:P0)),some (.int way),some (.int o),some (.int m),some (.lst R),some (.int (i:P0)),some (.lst S),some (.int (j:P0)),some (.bl g)]/\0<=l6/\h' p=some [.int l6,.int fl]/\h' R=some (rows.map Jn)/\h' S=some (row.map D.int)/\But p h h') (λC hC=>⟨_,rfl,_,rfl,p,l5,fl,o,rfl,kD,l50,o1,by omega,λr l6 r0 r1 l60=>hC _ _ ⟨_,l6,rfl,l60,jc,jj nR kE,jj nS kF,bD.put⟩⟩) ?_;clear kD kE kF bD;rintro _ _ ⟨g,l6,rfl,l60,kD,kE,kF,bD⟩;refine jf (λxC h'=> ∃ (g:N4) (l6:P0),xC= [some (.lst p),some (.int (k:P0)),some (.int way),some (.int o),some (.int m),some (.lst R),some (.int (i:P0)),some (.lst S),some (.int (j:P0)),some (.bl g)]/\0<=l6/\h' p=some [.int l6,.int fl]/\h' R=some (rows.map Jn)/\h' S=some (row.map D.int)/\But p h h') (λC hC=>⟨_,rfl,_,rfl,PJ (λ_=>⟨_,rfl,_,rfl,_,rfl,by omega,_,rfl,PJ (λ_=>hC _ _ ⟨_,l6,rfl,l60,kD,kE,kF,bD⟩) λ_=>⟨_,rfl,_,rfl,PJ (λ_=>⟨_,rfl,p,l6,fl,2,rfl,kD,l60,by decide,by decide,λr l7 r0 r1 l70=>⟨_,rfl,hC _ _ ⟨_,l7,rfl,l70,jc,jj nR kE,jj nS kF,bD.put⟩⟩⟩) λ_=>hC _ _ ⟨_,l6,rfl,l60,kD,kE,kF,bD⟩⟩⟩) λ_=>hC _ _ ⟨_,l6,rfl,l60,kD,kE,kF,bD⟩⟩) ?_;clear kD kE kF bD;rintro _ _ ⟨g,l6,rfl,l60,kD,kE,kF,bD⟩;refine jf (λxC h'=> ∃ (g:N4) (l6:P0),xC= [some (.lst p),some (.int (k:P0)),some (.int way),some (.int o),some (.int m),some (.lst R),some (.int (i:P0)),some (.lst S),some (.int (j:P0)),some (.bl g)]/\0<=l6/\h' p=some [.int l6,.int fl]/\h' R=some (rows.map Jn)/\h' S=some (row.map D.int)/\But p h h') (λC hC=>⟨_,rfl,_,rfl,PJ (λ_=>⟨_,rfl,_,rfl,PJ (λ_=>⟨_,rfl,_,rfl,by decide,_,rfl,PJ (λ_=>hC _ _ ⟨_,l6,rfl,l60,kD,kE,kF,bD⟩) λ_=>⟨_,rfl,_,rfl,hC _ _ ⟨_,l6,rfl,l60,kD,kE,kF,bD⟩⟩⟩) λ_=>⟨_,rfl,PJ (λ_=>hC _ _ ⟨_,l6,rfl,l60,kD,kE,kF,bD⟩) λ_=>⟨_,rfl,_,rfl,hC _ _ ⟨_,l6,rfl,l60,kD,kE,kF,bD⟩⟩⟩⟩) λ_=>hC _ _ ⟨_,l6,rfl,l60,kD,kE,kF,bD⟩⟩) ?_;clear kD kE kF bD;rintro _ _ ⟨g,l6,rfl,l60,kD,kE,kF,bD⟩;refine jf (λxC h'=> ∃ (g:N4) (l6:P0),xC= [some (.lst p),some (.int (k:P0)),some (.int way),some (.int o),some (.int m),some (.lst R),some (.int (i:P0)),some (.lst S),some (.int (j:P0)),some (.bl g)]/\0<=l6/\h' p=some [.int l6,.int fl]/\h' R=some (rows.map Jn)/\h' S=some (row.map D.int)/\But p h h') (λC hC=>⟨_,rfl,_,rfl,PJ (λ_=>⟨_,rfl,_,rfl,PJ (λ_=>⟨_,rfl,_,rfl,hC _ _ ⟨_,l6,rfl,l60,kD,kE,kF,bD⟩⟩) λ_=>hC _ _ ⟨_,l6,rfl,l60,kD,kE,kF,bD⟩⟩) λ_=>hC _ _ ⟨_,l6,rfl,l60,kD,kE,kF,bD⟩⟩) ?_;clear kD kE kF bD;rintro _ _ ⟨g,l6,rfl,l60,kD,kE,kF,bD⟩;have gi: ∀x r:P0,0<=r->r<m->x=0\/x=1->CMul x (1+r)/\0<=x*(1+r)/\x*(1+r)<=1000000:=λx r r0 r1 hx=>by
  rcases hx with e|e<;>subst e
  ·exact⟨.inl ⟨by decide,by decide⟩,by omega,by omega⟩
  ·exact⟨.inl ⟨by decide,by decide⟩,by omega,by omega⟩
 refine⟨_,rfl,S,rfl,_,rfl,_,rfl,_,rfl,p,l6,fl,m,rfl,kD,l60,m1,by omega,λr l7 r0 r1 l70=> ?_⟩;have gg:=gi (if g=true then 1 else 0) r r0 r1 (by cases g<;>decide);refine⟨gg.1,_,jj nS kF,?_,_,Sub.refl _,by omega,_,_,l7,row++ [(if g=true then 1 else 0)*(1+r)],rfl,l70,jj (K6 nS) jc,jj (K6 nSR) (jj nR kE),?_,(bD.put).putNew fS,by rw [P7,g1'];rfl,?_⟩
 ·rw [G7];exact K9 (show row.length<=1000 by omega) (by decide)
 ·rw [jc,J8];rfl
 ·intro x hx;rcases D5.mp hx with z|z
  ·exact g2' x z
  ·rw [P3.mp z];exact gg.2
def JU:RDn:=λds h Q=> ∃T U,∃n e f:G8,ds= [jA T,jA U]/\Sq n e T/\Sq n f U/\e+f<=1000000/\n<=6/\Q (jA (Jv n T U)) h
theorem VT (Z:Zs mg)(F:Fun K "_law_times" "_law_times" vk f fd):FnOk P w K mg base CX0 (n+1) f fd ["_law_one","_law_other"] (LSp K JU):=by
 refine F.okM zn (λhr=>(js4 (jse 2 zn (Jo Z (jv 0))) (jse 3 zn (yh jS)) (YR B9 rfl (zJ (jv 0)) (jgn 4 zn) (jD (Vv (NA (jv 3) (zb yf rfl Z.tuple (by decide +kernel) (j1 (jl0 5 zn (jrg Z (jv 2)) (λ_ _ _ _=>(jR (Ce rfl) rfl Z.sum (by decide +kernel) (j1 (jl0 6 zn (jrg Z (jv 2)) (λ_ _ _ _=>(jop Ch (ji1 (jv 4) (jv 6)) (ji1 (ji1 (jv 1) (jv 6)) (jv 5))))))))))))))) (zf (zb cq_tuple rfl Z.tuple (by decide +kernel) (j1 (jv 3)))))) ?_;rintro ds h Q ⟨T,U,k,b,f,rfl,hT,hU,hb,h6,q⟩;refine⟨rfl,?_⟩;refine jf (λxC h'=>xC= [some (jA T),some (jA U),some (.int (k:P0)),none,none,none,none]/\h=h') (λC hC=>⟨_,rfl,hC _ _ ⟨by rw [G7,hT.len];rfl,rfl⟩⟩) ?_;rintro _ _ ⟨rfl,rfl⟩;refine jf (λxC h'=> ∃R,xC= [some (jA T),some (jA U),some (.int (k:P0)),some (.lst R),none,none,none]/\h R=none/\h' R=some []/\Sub h h') (λC hC=> ?_) ?_
 ·exact⟨sz0,λR eR=>hC _ _ ⟨R,rfl,eR,jc,Sub.newAt (Sub.refl h) eR⟩⟩
 rintro _ h1 ⟨R,rfl,fR,kR,sb⟩;refine jf (λxC h'=> ∃a b c,xC= [some (jA T),some (jA U),some (.int (k:P0)),some (.lst R),a,b,c]/\h' R=some ((Jv k T U).map Jn)/\Sub h h') (λC hC=> ?_) ?_
 ·refine Ju (j:=λ_=>some (T.map Jn)) (T.map Jn) (λi xC h'=> ∃a b c,xC= [some (jA T),some (jA U),some (.int (k:P0)),some (.lst R),a,b,c]/\h' R=some ((T.take i).map λr=>D.tup ((R6 k).map λj=> .int (zg k λm=>r.getD m 0*ent U m j)))/\Sub h h') (λR' r=>⟨_,rfl,r⟩) (λ_ _ _ _=>rfl) ⟨_,_,_,rfl,kR,sb⟩ ?_ ?_
  ·rintro xC h' ⟨a,b,c,e,kR2,sb2⟩;refine hC _ _ ⟨a,b,c,e,?_,sb2⟩;rw [G7,dP,Ml hT] at kR2;exact kR2
  rintro i d _ h2 hd ⟨a,b',c,rfl,kR2,sb2⟩;rw [R5] at hd;cases hx:T[i]? with
  |none=>rw [hx] at hd;cases hd
  |some r=>
   rw [hx] at hd;cases hd;have hr:=P6 hx;have hil:i<T.length:=(P9.mp hx).1;refine⟨_,rfl,R,rfl,?_⟩;refine EO (R6 k) (λj=> .int (j:P0)) (λj=> .int (zg k λm=>r.getD m 0*ent U m j)) (by rw [C6];omega) rfl (λR rr=>⟨_,rfl,(k:P0),rfl,by omega,by omega,rr⟩) (λj hj Q'' q''=> ?_) ?_
   ·refine TL (R6 k) (λm=> .int (m:P0)) (λm=>r.getD m 0*ent U m j) (by rw [C6];omega) rfl (λR rr=>⟨_,rfl,(k:P0),rfl,by omega,by omega,rr⟩) (λm hm Q3 q3=> ?_) q'';have hm':=S9.mp hm;have hj':=S9.mp hj;refine⟨_,rfl,_,rfl,_,vb (hT.row r hr) hm',_,rfl,_,rfl,_,Ja hU hm',_,rfl,_,vb (hU.row _ (Sq.getRow hU hm')) hj',?_,q3⟩;refine Mj (e:=b) (f:=f) ?_ (hU.ent_nn hm' hj') (by omega);have hm2:m<r.length:=by rw [hT.row r hr];exact hm'
    have e1:r.getD m 0=r[m]:=by rw [T7,G5 hm2];rfl
    rw [e1];exact⟨hT.nn r hr _ (B6 hm2),hT.bit r hr _ (B6 hm2)⟩
   ·refine⟨_,kR2,?_,_,Sub.refl _,by rw [G7];omega,_,_,_,rfl,?_,?_⟩
    ·rw [G7,T4];exact K9 (show min i T.length<=1000 by rw [hT.len];omega) (by decide)
    ·rw [jc,F9,hx,J8];rfl
    ·exact(sb2).over fR
 rintro _ h3 ⟨a,b,c,rfl,kR3,sb3⟩;exact⟨_,rfl,_,kR3,_,sb3,q⟩
def vR:RDn:=λds h Q=> ∃T,∃n e:G8,ds= [jA T]/\Sq n e T/\n<=6/\Q (jA (zc n T)) h
theorem Yv (Z:Zs mg)(F:Fun K "_law_marked" "_law_marked" yG f fd):FnOk P w K mg base CX0 (n+1) f fd ["_law_table_here"] (LSp K vR):=by
 refine F.okM wX (λhr=>(jD (zf (zb yf rfl Z.tuple (by decide +kernel) (j1 (jl0 1 wX (zJ (jv 0)) (λ_ _ _ _=>(zb yf rfl Z.tuple (by decide +kernel) (j1 (jl0 2 wX (zJ (jv 1)) (λ_ _ _ _=>(zb Qw rfl Z.int (by decide +kernel) (j1 (jc1 Vo (jv 2) jl)))))))))))))) ?_;rintro ds h Q ⟨T,k,b,rfl,hT,h6,q⟩;refine⟨rfl,?_⟩;refine EO T Jn (λr=> .tup (r.map λx=> .int (if x≠0 then 1 else 0))) (by rw [hT.len];omega) rfl (λR r=>⟨_,rfl,r⟩) (λr hr Q' q'=> ?_) ⟨h,Sub.refl h,?_⟩
 ·refine EO r D.int (λx=> .int (if x≠0 then 1 else 0)) (by rw [hT.row r hr];omega) rfl (λR r=>⟨_,rfl,r⟩) (λx hx Q'' q''=>⟨_,rfl,?_⟩) q';show Q'' (.int (if decide (x>0)=true then 1 else 0)) h;have e:(if decide (x>0)=true then (1:P0) else 0)=if x≠0 then 1 else 0:=by
   have:=hT.nn r hr x hx
   by_cases z:x=0
   ·subst z;rfl
   ·rw [S2 z,S2 (D0 (by omega))]
  rw [e];exact q''
 ·rw [Cj,<-Ck hT];exact q
def vS:RDn:=λds h Q=> ∃T,∃n e:G8,ds= [jA T]/\Sq n e T/\1<=n/\n<=6/\Q (.bl (zv T)) h
theorem Yw (Z:Zs mg)(F:Fun K "_law_filled" "_law_filled" yH f fd):FnOk P w K mg base CX0 (n+1) f fd ["_law_table_here"] (LSp K vS):=by
 refine F.okM vO (λhr=>(jD (zf (jc1 Vo (jR (DG rfl) rfl Z.min (by decide +kernel) (j1 (jl0 1 vO (zJ (jv 0)) (λ_ _ _ _=>(jR (DG rfl) rfl Z.min (by decide +kernel) (j1 (jv 1))))))) jl)))) ?_;rintro ds h Q ⟨T,k,b,rfl,hT,h1,h6,q⟩;refine⟨rfl,?_⟩;have ne: ∀r∈T,r≠ []:=λr hr z=>by have:=hT.row r hr;rw [z] at this;simp at this;omega
 refine TR T Jn ZA (by rw [hT.len];omega) rfl (λR r=>⟨_,rfl,r⟩) (λr hr Q' q'=>⟨_,rfl,Cq (ne r hr) λm m1 m2=>by rw [DI m1 m2];exact q'⟩) ?_ (λm m1 m2=>⟨h,Sub.refl h,?_⟩)
 ·intro z;have:=hT.len;rw [z] at this;simp at this;omega
 ·show Q (.bl (decide (m>0))) h;rw [VC hT ne m1 m2];exact q
def Fst (n:G8)(T:G0 (G0 P0)):P8 G8->Prop
 |none=> ∀k,1<=k->zv (yY n T k)=false
 |some k=>1<=k/\k<=30/\zv (yY n T k)=true/\ ∀j,1<=j->j<k->zv (yY n T j)=false
def Hj:P8 G8->D
 |none=> .non
 |some k=> .int (k:P0)
section
variable {n e:G8}{T:G0 (G0 P0)}
theorem An (h:Sq n e T)(n1:1<=n)(h6:n<=6): ∃o,Fst n T o:=by
 by_cases z: ∃k,1<=k/\zv (yY n T k)=true
 ·obtain⟨K,hK,f⟩:=z;obtain⟨k,k1,k30,fk⟩:=Hc h n1 h6 hK f;clear f hK
  induction k using G8.strongRecOn with
  |_ k ih=>
   by_cases w: ∃j,1<=j/\j<k/\zv (yY n T j)=true
   ·obtain⟨j,j1,jk,fj⟩:=w;exact ih j jk j1 (by omega) fj
   ·exact⟨some k,k1,k30,fk,λj j1 jk=>by
     cases hf:zv (yY n T j) with
     |false=>rfl
     |true=>exact absurd ⟨j,j1,jk,hf⟩ w⟩
 ·exact⟨none,λk hk=>by
   cases hf:zv (yY n T k) with
   |false=>rfl
   |true=>exact absurd ⟨k,hk,hf⟩ z⟩
theorem Ff {o:P8 G8}(ho:Fst n T o){i:G8}(hi:zv (yY n T (i+1))=true)(lo: ∀m,m<i->zv (yY n T (m+1))=false):o=some (i+1):=by
 cases o with
 |none=>have:=ho (i+1) (by omega);rw [hi] at this;cases this
 |some k=>
  obtain⟨k1,k30,fk,fl⟩:=ho;have a: ¬ (i+1<k):=λz=>by have:=fl (i+1) (by omega) z;rw [hi] at this;cases this
  have b: ¬ (k<i+1):=λz=>by have:=lo (k-1) (by omega);rw [show k-1+1=k by omega,fk] at this;cases this
  rw [show k=i+1 by omega]
theorem Nh {o:P8 G8}(ho:Fst n T o)(lo: ∀m,m<30->zv (yY n T (m+1))=false):o=none:=by
 cases o with
 |none=>rfl
 |some k=>
  obtain⟨k1,k30,fk,fl⟩:=ho;have:=lo (k-1) (by omega);rw [show k-1+1=k by omega,fk] at this;cases this
theorem Ni (h:Sq n e T)(hn:n<=8)(i:G8):zv (GD n T i)=zv (yY n T (i+1)):=by rw [QP h hn,Dq (h.pow hn _)]
end
def JV:RDn:=λds h Q=> ∃T,∃n e:G8,∃o,ds= [jA T]/\Sq n e T/\1<=n/\n<=6/\e<=1000/\Fst n T o/\Q (Hj o) h
theorem VU (Z:Zs mg)(F:Fun K "_law_first" "_law_first" vn f fd)(JZ:jp P w K mg base n "_law_marked" ["_law_table_here"] vR)(Ua:jp P w K mg base n "_law_filled" ["_law_table_here"] vS)(Xi:jp P w K mg base n "_law_times" ["_law_one","_law_other"] JU):FnOk P w K mg base CX0 (n+1) f fd ["_law_table_here"] (LSp K JV):=by
 refine F.okM zQ (λhr=>(js4 (jse 1 zQ (jk JZ hr (j1 (jv 0)))) (jse 2 zQ (jv 1)) (YR B9 rfl (EQ rfl Z.range (j2 jl jl)) (jgn 3 zQ) (js2 (vN (zh (jk Ua hr (j1 (jv 2)))) (zf (jv 3))) (jse 2 zQ (jk JZ hr (j1 (jk Xi hr (j2 (jv 2) (jv 1)))))))) (zf Gy))) ?_;rintro ds h Q ⟨T,k,b,o,rfl,hT,h1,h6,hb,ho,q⟩;refine⟨rfl,?_⟩;have hn:k<=8:=by omega
 refine wz [some (jA T),some (jA (zc k T)),none,none] (λC hC=>⟨_,rfl,T,k,b,rfl,hT,h6,hC⟩) ?_;refine wz [some (jA T),some (jA (zc k T)),some (jA (zc k T)),none] (λC hC=>⟨_,rfl,hC⟩) ?_;refine jf (λxC h'=>o=none/\Sub h h') (λC hC=> ?_) ?_
 ·refine Mv (h1:=h) 1 30 (λi xC h2=> ∃a,xC= [some (jA T),some (jA (zc k T)),some (jA (GD k T i)),a]/\h=h2/\ ∀m,m<i->zv (yY k T (m+1))=false) (by decide) (by decide) (by decide) (λR r=>r) ⟨none,rfl,rfl,λm hm=>absurd hm (cB _)⟩ (λxC h2 ⟨a,e,eh,lo⟩=>hC _ _ ⟨Nh ho lo,eh ▸ Sub.refl _⟩) ?_;rintro i _ _ hi ⟨a,rfl,rfl,lo⟩;show yX _ _ _ [some (jA T),some (jA (zc k T)),some (jA (GD k T i)),some (.int (1+(i:P0)))] h;refine jf (λxC h'=>xC= [some (jA T),some (jA (zc k T)),some (jA (GD k T i)),some (.int (1+(i:P0)))]/\h=h'/\zv (yY k T (i+1))=false) (λC2 hC2=> ?_) ?_
  ·refine⟨_,rfl,GD k T i,k,1,rfl,WE k T i,h1,h6,_,rfl,?_⟩;rw [Ni hT hn];cases hf:zv (yY k T (i+1)) with
   |true=>
    refine jw ⟨_,rfl,h,Sub.refl h,?_⟩;rw [Ff ho hf lo] at q;have e:(1:P0)+(i:P0)=((i+1:G8):P0):=by omega
    rw [e];exact q
   |false=>exact jH (hC2 _ _ ⟨rfl,rfl,hf⟩)
  rintro _ _ ⟨rfl,rfl,hf⟩;refine⟨_,rfl,_,rfl,GD k T i,zc k T,k,1,1,rfl,WE k T i,Sq.mark T,by decide,h6,_,k,_,rfl,(WE k T i).mul (Sq.mark T) hn,h6,_,Sub.refl _,by omega,some (.int (1+(i:P0))),?_,rfl,λm hm=> ?_⟩
  ·rw [Mx hT i];rfl
  ·by_cases z:m=i
   ·subst z;exact hf
   ·exact lo m (by omega)
 rintro _ h2 ⟨e,sb⟩;subst e;exact⟨h,sb,q⟩
def yK:RDn:=λds h Q=> ∃T S,∃n e:G8,ds= [jA T,jJ S]/\Sq n e T/\IsS n S/\n<=6/\Q (jJ (WD n T S)) h
theorem VW (Z:Zs mg)(F:Fun K "_law_after" "_law_after" vo f fd):FnOk P w K mg base CX0 (n+1) f fd ["_law_table_here","_law_some"] (LSp K yK):=by
 refine F.okM wo (λhr=>(js2 (jse 2 wo (Jo Z (jv 0))) (zf (zb yf rfl Z.tuple (by decide +kernel) (j1 (jl1 3 wo (jrg Z (jv 2)) (λ_ _ _ _=>(jt1 Vo (jR (DH rfl) rfl Z.max (by decide +kernel) (j1 (jop jI (yh (j1 jl)) (jl0 4 wo (zJ (jv 1)) (λ_ _ _ _=>(ji1 (ji1 (jv 0) (jv 4)) (jv 3))))))) jl)) (λ_ _ _ _=>(jv 3)))))))) ?_;rintro ds h Q ⟨T,S,k,b,rfl,hT,hS,h6,q⟩;refine⟨rfl,?_⟩;have hlen:=hS.len;refine jf (λxC h'=>xC= [some (jA T),some (jJ S),some (.int (k:P0)),none,none]/\h=h') (λC hC=>⟨_,rfl,hC _ _ ⟨by rw [G7,hT.len];rfl,rfl⟩⟩) ?_;rintro _ _ ⟨rfl,rfl⟩;refine Ci (R6 k) (λj=> .int (j:P0)) (λj=> .int (j:P0)) (λj=>S.any λi=>decide (ent T i j≠0)) (by rw [C6];omega) rfl (λR r=>⟨_,rfl,(k:P0),rfl,by omega,by omega,r⟩) (λj hj Q' q'=> ?_) (λj hj hp Q' q'=>⟨_,rfl,q'⟩) ⟨h,Sub.refl h,q⟩;refine⟨sz1,λp1 e1=> ?_⟩;refine lcA S (λi=> .int (i:P0)) (λi=> .int (ent T i j)) (by omega) rfl (λR r=>⟨_,rfl,r⟩) (λi hi Q'' q''=> ?_) (λp2 e2=> ?_)
 ·have hi':=hS.lt hi;exact⟨_,rfl,_,rfl,_,Ja hT hi',_,rfl,_,vb (hT.row _ (Sq.getRow hT hi')) (S9.mp hj),q''⟩
 ·refine⟨_,_,je jc e2,jc,?_,λp3 e3=> ?_⟩
  ·simp only [G7,R1,N2];exact R9 (ju (by omega))
  refine⟨0::S.map (λi=>ent T i j),h,by simp,Sub.newAt (Sub.newAt (Sub.newAt (Sub.refl h) e1) e2) e3,.inr ⟨p3,rfl,?_⟩,λm m1 m2=>⟨_,rfl,?_⟩⟩
  ·rw [jc,B2,M7];rfl
  ·show Q' (decide (m>0)) h;rw [GC hT hS (S9.mp hj) m1 m2];exact q'
def ZF:RDn:=λds h Q=> ∃n:G8,ds= [.int (n:P0)]/\n<=6/\ ∀A h',h' A=some ((GP n).map jJ)->Sub h h'->Q (.lst A) h'
theorem Xd (Z:Zs mg)(F:Fun K "_law_sets" "_law_sets" Ji f fd):FnOk P w K mg base CX0 (n+1) f fd ["_law_many"] (LSp K ZF):=by
 refine F.okM zX (λhr=>(js3 (jse 1 zX (yh (j1 (jX jS)))) (YR B9 rfl (jrg Z (jv 0)) (jgn 2 zX) (jD (jse 1 zX (jop jI (jv 1) (jl0 3 zX (zJ (jv 1)) (λ_ _ _ _=>(jop jI (jv 3) (jX (j1 (jv 2)))))))))) (zf (jR (GN hr) rfl Z.sorted (by decide +kernel) (j1 (jv 1)))))) ?_;rintro ds h Q ⟨n,rfl,h6,q⟩;refine⟨rfl,?_⟩;refine jf (λxC h'=> ∃A,xC= [some (.int (n:P0)),some (.lst A),none,none]/\h' A=some ((wH 0).map jJ)/\Sub h h') (λC hC=>⟨sz0,sz1,λA eA=>hC _ _ ⟨A,rfl,jc,Sub.newAt (Sub.refl h) eA⟩⟩) ?_;rintro _ h2 ⟨A0,rfl,kA0,sb0⟩;refine jf (λxC h'=> ∃A a b,xC= [some (.int (n:P0)),some (.lst A),a,b]/\h' A=some ((wH n).map jJ)/\Sub h h') (λC hC=> ?_) ?_
 ·refine yA n (λt xC h'=> ∃A a b,xC= [some (.int (n:P0)),some (.lst A),a,b]/\h' A=some ((wH t).map jJ)/\Sub h h') (by omega) (λR r=>⟨_,rfl,r⟩) ⟨A0,none,none,rfl,kA0,sb0⟩ (λxC h' z=>hC _ _ z) ?_;clear kA0 sb0;rintro t _ h3 ht ⟨A,a,b,rfl,kA,sb⟩;have l64:(wH t).length<=64:=by rw [WP];exact aV (by decide) (show t<=6 by omega)
  refine⟨_,rfl,?_⟩;refine lcA (j:=λh=>h A) (wH t) jJ (λS=>jJ (S++ [t])) (by omega) kA (λR r=>⟨_,rfl,r⟩) (λS hS Q' q'=>⟨_,rfl,_,rfl,sz1,?_,?_⟩) (λF eF=> ?_)
  ·have:=(Wd hS).len;rw [G7];exact R9 (ju (by simp only [R1,N2];omega))
  ·have:jJ (S++ [t])= .tup ((S.map λ(k:G8)=>D.int (k:P0))++ [.int (t:P0)]):=by unfold jJ;rw [J8];rfl
   rw [this] at q';exact q'
  ·refine⟨_,_,je kA eF,jc,?_,λp3 e3=>⟨_,Sub.refl _,by omega,p3,_,_,rfl,?_,(((sb).newAt eF).newAt e3)⟩⟩
   ·rw [G7,G7];exact R9 (ju (by omega))
   ·rw [jc];show _=some ((wH t++(wH t).map λS=>S++ [t]).map jJ);rw [J8,M7];rfl
 rintro _ h3 ⟨A,a,b,rfl,kA,sb⟩;refine⟨_,rfl,A,(wH n).map toI,rfl,?_,?_,λp mss hp pm sr=>⟨_,Sub.refl _,q p _ (by rw [jc,Rt pm sr];rfl) (Sub.newAt sb hp)⟩⟩
 ·rw [kA,M7];exact congrArg some (B7 λS _=>(NI S).symm)
 ·rw [G7,WP];exact K9 (aV (by decide) h6) (by decide)
def yR:RDn:=λds h Q=> ∃p l fl,ds= [.lst p]/\h p=some [.int l,.int fl]/\0<=l/\ ∀d l' h',okD d=true->RG d=false->But p h h'->h' p=some [.int l',.int fl]->0<=l'->Q d h'
theorem ZR (Z:Zs mg)(F:Fun K "_law_no_table" "_law_no_table" wC f fd)(ji:jp P w K mg base n "_law_draw" ["_law_pen_here","_law_many"] jT):FnOk P w K mg base CX0 (n+1) f fd ["_law_pen_here"] (LSp K yR):=by
 refine F.okM yO (λhr=>(js2 (jse 1 yO (yh (jac Gy (by exact(jac jl (by exact(jac (jX jS) (by exact(jac (yh jS) (by exact(jac (jX (j1 jl)) (by exact(jac (jX (j1 (jX jS))) (by exact(jac (jX (j2 (jX (j1 jl)) (jX (j1 jl)))) (by exact(jac (jX (j1 (jX (j2 jl jl)))) (by exact(jac (jX (j1 (jX (j1 (QB jl))))) (by exact(j4 (jX (j1 (jX (j1 jbl)))) (yh (j1 (yh (j1 jl)))) (jX (j1 (jX (j1 Gy)))) Wy))))))))))))))))))))) (zf (ji1 (jop jI (jv 1) (yh (jac (jX (j1 (jX (j1 jbl)))) (by exact(j4 (jop vY (jX (j1 (jop vY (jX (j1 jl)) jl))) jl) (jX (j1 (yh (j1 jl)))) (jX (j1 (jX (j1 (jX (j1 jl)))))) NC))))) (jk ji hr (j2 (jv 0) jl)))))) ?_;rintro ds h Q ⟨p,l,fl,rfl,hp,h0,q⟩;refine⟨rfl,?_⟩;simp only [yX,RY,Bv,zr,dC,Ft,ZK,N2,R1,dUn,Fy,Gu,dOp,Gt,ze,B2,V1,M0,O8,C9,gY,gZ,W1,O5,A4,EH,Ux,Ev,dCB,ixD,U1,Uh]
 repeat (first|intro _|refine⟨by decide,?_⟩|refine⟨⟨by decide,by decide,by decide⟩,?_⟩)
 rename_i p1 e1 p2 e2 p3 e3 p4 e4 p5 e5 p6 e6;have k1:=je (M:= []) hp e1;have k2:=je (M:= [.int 1]) k1 e2;have k3:=je (M:= [.lst p2]) k2 e3;refine⟨_,_,je (je jc e5) e6,jc,by simp only [R1,N2];decide,λp7 e7=> ?_⟩;refine⟨p,l,fl,18,rfl,je (je (je (je k3 e4) e5) e6) e7,h0,by decide,by decide,λr l' r0 r1 l0=> ?_⟩;obtain⟨d,hd,ed⟩:=wT (xs:= [D.non,D.int 0,D.tup [],D.lst p1,D.tup [D.int 0],D.tup [D.tup []],D.tup [D.tup [D.int 1],D.tup [D.int 1]],D.tup [D.tup [D.int 0,D.int 1]],D.tup [D.tup [D.int (-1)]],D.tup [D.tup [D.bl true]],D.lst p3,D.tup [D.tup [D.non]],D.str (K7 "1")]++ [D.tup [D.tup [D.bl false]],D.tup (M0 (fM 7) [D.tup (M0 (fM 7) [D.int 0]).flatten]).flatten,D.tup [D.lst p5],D.tup [D.tup [D.tup [D.int 0]]],D.dic (K7 "a") 1]) r0 r1;refine⟨_,d,jj (jh (je (je (je k3 e4) e5) e6) e7) jc,ed,_,Sub.refl _,q d l' _ (We ?_ d hd) ?_ (((((((But.refl p h).new e1).new e2).new e3).new e4).new e5).new e6 |>.new e7).put jc l0⟩
 ·rfl
 ·simp only [D5,D2,T9,or_false] at hd;rcases hd with (e|e|e|e|e|e|e|e|e|e|e|e|e)|e|e|e|e|e<;>subst e<;>rfl
def Prt (k:G8)(h:HD)(y:D):Prop:=okD y=true/\ ∃p,ToP h y p/\p.canLay0=true/\p.depth<=k
variable {k:G8}
theorem Se: ∀ {ds:G0 D},(∀y∈ds,Prt k h y)-> ∃ps,ToPs h ds ps/\O0 ps=true/\(∀p∈ps,p.canLay0=true/\p.depth<=k)/\L5 ps<=k
 | [],_=>⟨[],rfl,rfl,(λ_ h=>nomatch h),N3 _⟩
 |y::ds,g=>by
  obtain⟨_,p,t,c,d⟩:=g y R7;obtain⟨ps,ts,cs,gs,dd⟩:=Se λz hz=>g z (S6 _ hz)
  exact⟨p::ps,⟨y,ds,rfl,t,ts⟩,by show (p.canLay0&&O0 ps)=true;rw [c,cs];rfl,λq hq=>(D2.mp hq).elim (λe=>e ▸ ⟨c,d⟩) (gs q),Nat.max_le.mpr ⟨d,dd⟩⟩
variable {m:G8}
theorem Prt.mono {y:D}(a:Prt k h y)(l:k<=m):Prt m h y:=let ⟨o,p,t,c,d⟩:=a;⟨o,p,t,c,T6 d l⟩
variable {h':HD}
theorem Prt.sub {y:D}(a:Prt k h y)(s:Sub h h'):Prt k h' y:=let ⟨o,p,t,c,d⟩:=a;⟨o,p,ToP.sub s t,c,d⟩
theorem Prt.tup {k:G8}{h:HD}{ds:G0 D}(l:ds.length<=1000)(g: ∀y∈ds,Prt k h y):Prt (k+1) h (.tup ds):=
 let ⟨ps,ts,cs,_,dd⟩:=Se g
 ⟨Vb l λd hd=>(g d hd).1,.tuple ps,⟨ds,rfl,ts⟩,cs,bE dd⟩
theorem Ao {p:Q1}(c:p.canLay0=true)(d:p.depth<=64):SeqAt.shaped p=true:=lR.mpr ⟨c,D0 d⟩
theorem Fg (h:HD)(i:P0):Prt 0 h (.int i):=⟨rfl,.int i,rfl,rfl,P4 _⟩
theorem Prt.ps (a:Prt k h (.tup es)): ∃ps,ToPs h es ps/\O0 ps=true/\L5 ps+1<=k:=by
 obtain⟨_,p,t,c,l⟩:=a;cases p with
 |tuple ps=>obtain⟨ds,e,ts⟩:=(show ∃ds,D.tup es= .tup ds/\ToPs h ds ps from t);cases e;exact⟨ps,ts,c,l⟩
 |none=>exact D.noConfusion (show D.tup es= .non from t)
 |bool b=>exact D.noConfusion (show D.tup es= .bl b from t)
 |int b=>exact D.noConfusion (show D.tup es= .int b from t)
 |str b=>exact D.noConfusion (show D.tup es= .str b from t)
 |list b=>obtain⟨a,ds,e,_⟩:=(show ∃a ds,D.tup es= .lst a/\h a=some ds/\ToPs h ds b from t);cases e
 |dict b=>exact(show False from t).elim
theorem Gg: ∀ {es:G0 D} {ps:G0 Q1},ToPs h es ps->O0 ps=true-> ∀e∈es,∃p,ToP h e p/\p.canLay0=true/\p.depth<=L5 ps
 |es,[],t,_,e,he=>by rw [show es= [] from t] at he;cases he
 |es,p::ps,t,c,e,he=>by
  obtain⟨d,r,rfl,t1,t2⟩:=(show ∃d r,es=d::r/\ToP h d p/\ToPs h r ps from t);have c:=lR.mp (show (p.canLay0&&O0 ps)=true from c);rcases D2.mp he with z|z
  ·rw [z];exact⟨p,t1,c.1,Nat.le_max_left _ _⟩
  ·obtain⟨q,a,b,l⟩:=Gg t2 c.2 e z;exact⟨q,a,b,T6 l (Nat.le_max_right _ _)⟩
theorem Prt.mem (a:Prt k h (.tup es)){e:D}(he:e∈es):Prt k h e:=by
 obtain⟨ps,ts,c,l⟩:=a.ps;obtain⟨p,t,c2,l2⟩:=Gg ts c e he;exact⟨(zd a.1).2 e he,p,t,c2,by omega⟩
theorem Prt.shp (a:Prt k h (.tup es))(hk:k<=40): ∃ps,ToPs h es ps/\SeqAt.shaped (.tuple ps)=true:=by
 obtain⟨ps,ts,c,l⟩:=a.ps;exact⟨ps,ts,Ao c (by show L5 ps+1<=64;omega)⟩
def vw:RDn:=λds h Q=> ∃T d,∃n e:G8,ds= [jA T,d]/\Sq n e T/\1<=n/\n<=6/\Prt 40 h d/\Q (.bl (yW T n d)) h
theorem Ye (Z:Zs mg)(F:Fun K "_law_is_walk" "_law_is_walk" wY f fd)(zl:jp P w K mg base n "_law_whole" ["_law_thing"] zj):FnOk P w K mg base CX0 (n+1) f fd ["_law_table_here","_law_thing"] (LSp K vw):=by
 refine F.okM wG (λhr=>(js3 (vN (jpt (Za (zm (zh (yi (T:= "tuple") (by decide) rfl Z.isinstance rfl Z.tuple (by decide +kernel) (jv 1)))) (Yq (jt1 (Ww hr.units) (jv 1) (jX jS))))) (zf jbl)) (vN (zm (zh (jR (yg rfl) rfl Z.all C5 (j1 (jl0 2 wG (zJ (jv 1)) (λ_ _ _ _=>(Vu (jk zl hr (j1 (jv 2))) (Ui (Nz Xz Xy jl (jv 2) (Jo Z (jv 0))))))))))) (zf jbl)) (zf (jR (yg rfl) rfl Z.all C5 (j1 (OE (i:=3) (j:=4) (js:= [3,4]) rfl (jQ (by rfl)) (UG rfl Z.zip (j2 (jv 1) (yj (jv 1) (zP jl) zY))) (by decide) (by decide) (by decide) wG.nd rfl rfl (by first|exact A2 rfl|exact V3 rfl) (by first|exact A2 rfl|exact V3 rfl) (λX' hX=>yB) (λX' hX=>by obtain⟨C,s₀,H₀,ex,rfl⟩:=hX;exact(jc1 Vo (ji1 (ji1 (jv 0) (jv 3)) (jv 4)) jl)))))))) ?_;rintro ds h Q ⟨T,d,n,bb,rfl,hT,n1,n6,pr,q⟩;refine⟨rfl,?_⟩;have ok:=pr.1;have hlen:(((T.map Jn).length:G8):P0)=(n:P0):=by rw [G7,hT.len]
 obtain⟨nm,hn⟩:=jx ok;cases d with
 |tup es=>
  cases hn;obtain⟨hl,ht⟩:=zd ok;obtain⟨ps,tp,sp⟩:=pr.shp (P4 _);refine jf (λxC h'=>xC= [some (jA T),some (.tup es),none,none,none]/\h=h'/\es≠ []) (λC hC=> ?_) ?_
  ·refine⟨_,rfl,"tuple",rfl,_,rfl,jH ⟨_,rfl,sz0,.tuple ps,.tuple [],⟨_,rfl,tp⟩,⟨_,rfl,rfl⟩,sp,rfl,_,rfl,?_⟩⟩;cases ps with
   |nil=>
    have:es= []:=tp;subst this;exact jw ⟨h,Sub.refl h,q⟩
   |cons p ps=>
    obtain⟨_,_,e,_⟩:=tp;exact jH (hC _ _ ⟨rfl,rfl,by rw [e];simp⟩)
  rintro _ _ ⟨rfl,rfl,hne⟩;refine jf (λxC h'=>xC= [some (jA T),some (.tup es),none,none,none]/\h=h'/\wU (.tup es) n=true) (λC hC=> ?_) ?_
  ·refine OF es (λx=>x) (λx=>jF x 0 ((n:P0)-1)) hl (by rw [kM]) (λR r=>⟨_,rfl,r⟩) (λx hx Q' q'=> ?_) ⟨_,rfl,?_⟩
   ·obtain⟨nx,hnx⟩:=jx (ht x hx);refine⟨_,rfl,x,nx,rfl,hnx,zi x,rfl,?_⟩;cases x with
    |int y=>
     refine jw ⟨_,rfl,_,rfl,?_⟩;show if decide (0<=y)=true then _ else _
     by_cases h1:0<=y
     ·rw [D0 h1];simp only [jF,D0 h1,M1] at q';rw [<-OL,<-hlen] at q';exact jw ⟨_,rfl,q'⟩
     ·rw [D1 h1];simp only [jF,D1 h1,T0] at q';exact jH q'
    |_=>exact jH q'
   ·show if (!wU (.tup es) n)=true then _ else _
    cases hp:wU (.tup es) n with
    |false=>
     have:yW T n (.tup es)=false:=by unfold yW;rw [hp];rfl
     rw [this] at q;exact jw ⟨h,Sub.refl h,q⟩
    |true=>exact jH (hC _ _ ⟨rfl,rfl,hp⟩)
  rintro _ _ ⟨rfl,rfl,hp⟩;obtain⟨e1,hW⟩:=vE hp;have e2:yW T n (.tup es)=UK T (jG (.tup es)):=by unfold yW;rw [hp];rfl
  rw [e2] at q;generalize jG (.tup es)=W at e1 hW q;have ees:es=W.map λ(k:G8)=>D.int (k:P0):=by injection e1
  subst ees;rw [G7] at hl;have hne2:W.isEmpty=false:=by
   cases W with
   |nil=>exact absurd rfl hne
   |cons _ _=>rfl
  have e3:UK T W=(W.zip (W.drop 1)).all λp=>decide (ent T p.1 p.2>0):=by unfold UK;rw [hne2];rfl
  rw [e3] at q;refine DJ (j:=λ_=>some (XM (W.map λ(k:G8)=>D.int (k:P0)) (vM (W.map λ(k:G8)=>D.int (k:P0)) (some 1) none))) (W.zip (W.drop 1)) (λp=> .int (p.1:P0)) (λp=> .int (p.2:P0)) (λp=>decide (ent T p.1 p.2>0)) (by rw [cA];omega) (congrArg some (XR W)) (λR r=>⟨_,rfl,_,rfl,_,rfl,_,_,rfl,r⟩) (λp hp Q' q'=> ?_) ⟨h,Sub.refl h,q⟩;have hi:=hW _ (J7 hp).1;have hj:=hW _ (C4 (J7 hp).2);exact⟨_,rfl,_,rfl,_,Ja hT hi,_,rfl,_,vb (hT.row _ (Sq.getRow hT hi)) hj,q'⟩
 |_=>cases hn<;>exact⟨_,rfl,_,rfl,_,rfl,jw (jw ⟨h,Sub.refl h,q⟩)⟩
theorem Zu: ∀ {is:G0 P0} {ps:G0 Q1},ToPs h (is.map D.int) ps->ps=is.map dQ
 | [],[],_=>rfl
 | [],p::ps,t=>by obtain⟨d,r,e,_⟩:=(show ∃d r,([]:G0 D)=d::r/\ToP h d p/\ToPs h r ps from t);cases e
 |i::is,[],t=>by cases (show D.int i::is.map D.int= [] from t)
 |i::is,p::ps,t=>by
  obtain⟨d,r,e,t1,t2⟩:=(show ∃d r,D.int i::is.map D.int=d::r/\ToP h d p/\ToPs h r ps from t);injection e with e1 e2
  subst e1 e2;rw [Zu t2,B2];cases p with
  |int j=>rw [show i=j from by injection (show D.int i= .int j from t1)]
  |none=>exact D.noConfusion (show D.int i= .non from t1)
  |bool b=>exact D.noConfusion (show D.int i= .bl b from t1)
  |str b=>exact D.noConfusion (show D.int i= .str b from t1)
  |tuple b=>obtain⟨ds,e,_⟩:=(show ∃ds,D.int i= .tup ds/\ToPs h ds b from t1);cases e
  |list b=>obtain⟨a,ds,e,_⟩:=(show ∃a ds,D.int i= .lst a/\h a=some ds/\ToPs h ds b from t1);cases e
  |dict b=>exact(show False from t1).elim
theorem Nj (h:es.all zi=true):es=(es.map VP).map D.int:=by
 rw [M7]
 conv=>lhs;rw [<-Y3 es]
 exact B7 λx hx=>JQ (S8.mp h x hx)
/-- looked for among all sets: what comes of it -/
theorem Nk {x:D}{A:G9}(kA:h A=some ((GP n).map jJ))(pr:Prt 40 h x)(no:UW n x=false->Q (.bl true) h)
 (mid: ∀es,x= .tup es->(es.all zi=true->UW n x=true)->Q (.bl false) h):inE true x (.lst A) h Q:=by
 obtain⟨ok,p,t,c,l⟩:=pr;have lay:O0 ((GP n).map QM)=true:=by
  have: ∀P:G0 (G0 G8),O0 (P.map QM)=true:=λP=>by
   induction P with
   |nil=>rfl
   |cons S P ih=>show ((QM S).canLay0&&_)=true;rw [encO.lay S,ih];rfl
  exact this _
 refine⟨p,(GP n).map QM,t,.inl ⟨A,_,rfl,kA,UI h _⟩,c,lay,T6 l (by decide),?_⟩;cases m:((GP n).map QM).any λz=>F4 z p with
 |false=>
  refine no (Q8.mpr λz=> ?_);obtain⟨S,e,iS⟩:=WW z;rw [e,Vy] at t;have ep:p=QM S:=by
   cases p with
   |tuple ps=>obtain⟨ds,e',ts⟩:=(show ∃ds,D.tup ((vJ S).map D.int)= .tup ds/\ToPs h ds ps from t);cases e';rw [Zu ts];rfl
   |none=>exact D.noConfusion (show D.tup _= .non from t)
   |bool b=>exact D.noConfusion (show D.tup _= .bl b from t)
   |int b=>exact D.noConfusion (show D.tup _= .int b from t)
   |str b=>exact D.noConfusion (show D.tup _= .str b from t)
   |list b=>obtain⟨a,ds,e,_⟩:=(show ∃a ds,D.tup _= .lst a/\h a=some ds/\ToPs h ds b from t);cases e
   |dict b=>exact(show False from t).elim
  have:=mY.mp m (QM S) (N6.mpr ⟨S,setsS_mem.mpr iS,rfl⟩);rw [ep,DL,D0 rfl] at this;exact this rfl
 |true=>
  obtain⟨z,hz,ez⟩:=aZ.mp m;obtain⟨S,hS,rfl⟩:=N6.mp hz;cases p with
  |tuple ps=>
   obtain⟨es,rfl,ts⟩:=(show ∃ds,x= .tup ds/\ToPs h ds ps from t);refine mid es rfl λw=> ?_
   have ei:=Nj w;generalize es.map VP=is at ei;subst ei;rw [Zu ts] at ez;have:=(XQ (vJ S) is).symm.trans ez;rw [<-H0 this,<-Vy];exact Nf (setsS_mem.mp hS)
  |_=>cases ez
def vT:RDn:=λds h Q=> ∃T d,∃n e:G8,∃k:P0,ds= [jA T,.int k,d]/\Sq n e T/\1<=n/\n<=6/\2<=k/\k<=100/\Prt 40 h d/\ ∀h',Sub h h'->Q (.bl (Pd T n d k)) h'
theorem Yx (Z:Zs mg)(F:Fun K "_law_is_gap" "_law_is_gap" yI f fd)(zl:jp P w K mg base n "_law_whole" ["_law_thing"] zj)(Qi:jp P w K mg base n "_law_sets" ["_law_many"] ZF)(vx:jp P w K mg base n "_law_after" ["_law_table_here","_law_some"] yK):FnOk P w K mg base CX0 (n+1) f fd ["_law_table_here","_law_k","_law_gap"] (LSp K vT):=by
 refine F.okM za (λhr=>(js7 (jse 3 za (Jo Z (jv 0))) (vN (jpt (Za (zm (zh (yi (T:= "tuple") (by decide) rfl Z.isinstance rfl Z.tuple (by decide +kernel) (jv 2)))) (Za (jt1 oq_ne (Jo Z (jv 2)) jl) (Za (zm (zh (jk zl hr (j1 (ji1 (jv 2) jl))))) (Yq (zm (zh (jk zl hr (j1 (ji1 (jv 2) jl)))))))))) (zf jbl)) (vN (jpt (Za (zm (XE Xz Xy jl (ji1 (jv 2) jl) (jv 3))) (Za (zm (XE Xz Xy jl (ji1 (jv 2) jl) (jv 3))) (Za (zm (zh (yi (T:= "tuple") (by decide) rfl Z.isinstance rfl Z.tuple (by decide +kernel) (ji1 (jv 2) jl)))) (Yq (jt1 oq_ne (Jo Z (ji1 (jv 2) jl)) (jv 1))))))) (zf jbl)) (YR B9 rfl (zJ (ji1 (jv 2) jl)) (jgn 4 za) (jD (vN (jpt (Za (XD (Wb hr.units) (jv 4) (jk Qi hr (j1 (jv 3))) (by with_unfolding_all rfl)) (Yq (zm (zh (jR (yg rfl) rfl Z.all C5 (j1 (jl0 7 za (zJ (jv 4)) (λ_ _ _ _=>(jk zl hr (j1 (jv 7)))))))))))) (zf jbl)))) (vN (jpt (Za (XD (Wb hr.units) (ji1 (jv 2) jl) (ji1 (ji1 (jv 2) jl) jl) (by with_unfolding_all rfl)) (Yq (XD (DD hr.units) (ji1 (jv 2) jl) (ji1 (ji1 (jv 2) jl) (QB jl)) (by with_unfolding_all rfl))))) (zf jbl)) (YR B9 rfl (UG rfl Z.zip (j2 (ji1 (jv 2) jl) (yj (ji1 (jv 2) jl) (zP jl) zY))) (Qz (i:=5) (j:=6) rfl za.nd rfl rfl (A2 rfl) (by first|exact V3 rfl|exact A2 rfl)) (jD (vN (zm (zh (jR (yg rfl) rfl Z.all C5 (j1 (jl0 7 za (zJ (jk vx hr (j2 (jv 0) (jv 5)))) (λ_ _ _ _=>(OC (DD hr.units) (jv 7) (jv 6) (by with_unfolding_all rfl)))))))) (zf jbl)))) (zf jbl))) ?_;rintro ds h Q ⟨T,d,n,b,k,rfl,hT,h1,h6,k2,k1,pr,q⟩;refine⟨rfl,?_⟩;have ok:=pr.1;have q0:=q h (Sub.refl h);obtain⟨nm,hn⟩:=jx ok;have no3:(∀x y z,d≠ .tup [x,y,z])->Pd T n d k=false:=λz=>by
  unfold Pd;split
  ·exact absurd rfl (z _ _ _)
  ·rfl
 refine jf (λxC h'=>xC= [some (jA T),some (.int k),some d,some (.int (n:P0)),none,none,none,none]/\h=h') (λC hC=>⟨_,rfl,hC _ _ ⟨by rw [G7,hT.len];rfl,rfl⟩⟩) ?_;rintro _ _ ⟨rfl,rfl⟩;cases d with
 |tup es=>
  cases hn;obtain⟨hl,oks⟩:=zd ok;rcases es with _|⟨x,_|⟨y,_|⟨z,_|⟨v,r⟩⟩⟩⟩
  ·rw [no3 (λ_ _ _ z=>by cases z)] at q0;exact jf (λ_ _=>False) (λC hC=>⟨_,rfl,_,rfl,_,rfl,jH ⟨_,rfl,_,rfl,jw (jw ⟨h,Sub.refl h,q0⟩)⟩⟩) (λ_ _ z=>z.elim)
  ·rw [no3 (λ_ _ _ z=>by cases z)] at q0;exact jf (λ_ _=>False) (λC hC=>⟨_,rfl,_,rfl,_,rfl,jH ⟨_,rfl,_,rfl,jw (jw ⟨h,Sub.refl h,q0⟩)⟩⟩) (λ_ _ z=>z.elim)
  ·rw [no3 (λ_ _ _ z=>by cases z)] at q0;exact jf (λ_ _=>False) (λC hC=>⟨_,rfl,_,rfl,_,rfl,jH ⟨_,rfl,_,rfl,jw (jw ⟨h,Sub.refl h,q0⟩)⟩⟩) (λ_ _ z=>z.elim)
  ·have qg:Pd T n (.tup [x,y,z]) k=(jF x 0 ((n:P0)-1)&&(jF y 0 ((n:P0)-1)&&(WY n z k&&(decide (vd x∈(wL z)[0]?.getD [])&&(arrB n T (wL z)&& !decide (vd y∈(wL z)[(wL z).length-1]?.getD [])))))):=rfl;rw [qg] at q0;rw [qg] at q;obtain⟨nx,hnx⟩:=jx (oks x (by simp));obtain⟨ny,hny⟩:=jx (oks y (by simp));obtain⟨nz,hnz⟩:=jx (oks z (by simp));have nw: ∀ {u:D},zi u=false->jF u 0 ((n:P0)-1)=false:=λ{u} h=>by cases u<;>first|rfl|cases h
   refine jf (λxC h'=>xC= [some (jA T),some (.int k),some (.tup [x,y,z]),some (.int (n:P0)),none,none,none,none]/\h=h'/\zi x=true/\zi y=true) (λC hC=>⟨_,rfl,_,rfl,_,rfl,jH ⟨_,rfl,_,rfl,jH ⟨_,rfl,_,rfl,x,nx,rfl,hnx,_,rfl,?_⟩⟩⟩) ?_
   ·cases cx:zi x with
    |false=>rw [nw cx,T0] at q0;exact jw (jw ⟨h,Sub.refl h,q0⟩)
    |true=>
     refine jH ⟨_,rfl,_,rfl,y,ny,rfl,hny,_,rfl,?_⟩;cases cy:zi y with
     |false=>rw [nw cy,T0,V7] at q0;exact jw ⟨h,Sub.refl h,q0⟩
     |true=>exact jH (hC _ _ ⟨rfl,rfl,cx,cy⟩)
   rintro _ _ ⟨rfl,rfl,cx,cy⟩;have ex:=JQ cx;have ey:=JQ cy;generalize VP x=i at ex;generalize VP y=j at ey;subst ex ey;have wi: ∀i:P0,jF (.int i) 0 ((n:P0)-1)=(decide (0<=i)&&decide (i<(n:P0))):=λi=>by
    show (decide ((0:P0)<=i)&&decide (i<=(n:P0)-1))=_
    congr 1
    rw [F8,C0,C0];omega
   have qA: ∀v,Pd T n (.tup [.int i,.int j,z]) k=v-> ∀h',Sub h h'->Q (.bl v) h':=λv e h' s=>by
    have:=q h' s;rw [<-qg,e] at this;exact this
   have qF:=qA false;rw [wi i,wi j] at qg;have R0:=Sub.refl h;refine jf (λxC h'=>xC= [some (jA T),some (.int k),some (.tup [.int i,.int j,z]),some (.int (n:P0)),none,none,none,none]/\h=h'/\(0<=i/\i<n)/\(0<=j/\j<n)/\ ∃es,z= .tup es/\(es.length:P0)=k) (λC hC=>⟨_,rfl,_,rfl,_,rfl,?_⟩) ?_
   ·show if decide ((0:P0)<=i)=true then _ else _
    by_cases a1:0<=i
    ·rw [D0 a1];refine jw ⟨_,rfl,?_⟩;show ∃c,D.bl (decide (i<(n:P0)))=D.bl c/\_
     by_cases a2:i<n
     ·rw [D0 a2];refine⟨_,rfl,jH ⟨_,rfl,_,rfl,_,rfl,?_⟩⟩;show if decide ((0:P0)<=j)=true then _ else _
      by_cases b1:0<=j
      ·rw [D0 b1];refine jw ⟨_,rfl,?_⟩;show ∃c,D.bl (decide (j<(n:P0)))=D.bl c/\_
       by_cases b2:j<n
       ·rw [D0 b2];refine⟨_,rfl,jH ⟨_,rfl,_,rfl,nz,hnz,_,rfl,?_⟩⟩;cases z with
        |tup es=>
         cases hnz;refine jH ⟨_,rfl,_,rfl,_,rfl,?_⟩;show ∃c,D.bl (!decide ((es.length:P0)=k))=D.bl c/\_
         by_cases e:(es.length:P0)=k
         ·rw [D0 e];exact⟨_,rfl,jH (hC _ _ ⟨rfl,rfl,⟨a1,a2⟩,⟨b1,b2⟩,es,rfl,e⟩)⟩
         ·rw [D1 e];refine⟨_,rfl,jw ⟨h,R0,qF ?_ h R0⟩⟩;rw [qg,show WY n (.tup es) k=(decide ((es.length:P0)=k)&&es.all (UW n)) from rfl,D1 e,T0,T0,V7,V7]
        |_=>cases hnz<;>exact jw (jw ⟨h,R0,qF (by rw [qg,show ∀d,(∀es,d≠ .tup es)->WY n d k=false from λd z=>by cases d<;>first|rfl|exact absurd rfl (z _),T0,V7,V7];intro es e;cases e) h R0⟩)
       ·rw [D1 b2];exact⟨_,rfl,jw (jw ⟨h,R0,qF (by rw [qg,D1 b2,V7,T0,V7]) h R0⟩)⟩
      ·rw [D1 b1];exact jH ⟨_,rfl,jw (jw ⟨h,R0,qF (by rw [qg,D1 b1,T0,T0,V7]) h R0⟩)⟩
     ·rw [D1 a2];exact⟨_,rfl,jw (jw ⟨h,R0,qF (by rw [qg,D1 a2,V7,T0]) h R0⟩)⟩
    ·rw [D1 a1];exact jH ⟨_,rfl,jw (jw ⟨h,R0,qF (by rw [qg,D1 a1,T0,T0]) h R0⟩)⟩
   rintro _ _ ⟨rfl,rfl,⟨a1,a2⟩,⟨b1,b2⟩,es,rfl,le⟩;rw [D0 a1,D0 a2,D0 b1,D0 b2,M1,M1,M1,show WY n (.tup es) k=(decide ((es.length:P0)=k)&&es.all (UW n)) from rfl,D0 le,M1] at qg;obtain⟨le1,oke⟩:=zd (oks _ (show D.tup es∈ [D.int i,D.int j,.tup es] by simp));have pe: ∀d∈es,Prt 40 h d:=λd hd=>(pr.mem (by simp)).mem hd
   refine jf (λxC h'=> ∃a,xC= [some (jA T),some (.int k),some (.tup [.int i,.int j,.tup es]),some (.int (n:P0)),a,none,none,none]/\Sub h h'/\es.all (UW n)=true) (λC hC=> ?_) ?_
   ·refine Ju (h1:=h) (j:=λ_=>some es) es (λt xC h'=> ∃a,xC= [some (jA T),some (.int k),some (.tup [.int i,.int j,.tup es]),some (.int (n:P0)),a,none,none,none]/\Sub h h'/\ ∀u x,u<t->es[u]? =some x->UW n x=true) (λR r=>⟨_,rfl,_,rfl,r⟩) (λ_ _ _ _=>rfl) ⟨_,rfl,R0,λu x hu _=>absurd hu (cB u)⟩ (λxC h' ⟨a,e,s,g⟩=>hC _ _ ⟨a,e,s,S8.mpr λx hx=>by obtain⟨u,hu,rfl⟩:=K4 hx;exact g u _ hu (G5 hu)⟩) ?_;rintro t d _ h3 hd ⟨a,rfl,sb,g⟩;have hil:=(P9.mp hd).1;have hm:=P6 hd;have badS:UW n d=false->Pd T n (.tup [.int i,.int j,.tup es]) k=false:=λz=>by
     rw [qg,dI.mpr ⟨d,hm,by rw [z];exact D9⟩,T0]
    refine⟨_,rfl,_,rfl,n,rfl,h6,λA h4 kA s4=>Nk kA ((pe d hm).sub (sb.trans s4)) (λz=>⟨_,rfl,jw (jw ⟨h4,Sub.refl _,qF (badS z) h4 (sb.trans s4)⟩)⟩) λes' e w=> ?_⟩;subst e;obtain⟨l',ok'⟩:=zd (oke _ hm);refine⟨_,rfl,jH (OF es' (λx=>x) zi l' (by rw [kM]) (λR r=>⟨_,rfl,r⟩) (λx hx Q' q'=>by obtain⟨nn,hnn⟩:=jx (ok' x hx);exact⟨_,rfl,x,nn,rfl,hnn,q'⟩) ⟨_,rfl,?_⟩)⟩;show if (!es'.all zi)=true then _ else _
    cases c:es'.all zi with
    |true=>
     refine jH ⟨_,Sub.refl _,hil,_,rfl,sb.trans s4,λu x hu hx=> ?_⟩
     by_cases e:u<t
     ·exact g u x e hx
     ·have:u=t:=by omega
      subst this;rw [hd] at hx;cases hx;exact w c
    |false=>
     refine jw ⟨h4,Sub.refl _,qF (badS (Q8.mpr λz=> ?_)) h4 (sb.trans s4)⟩;obtain⟨S,e,_⟩:=WW z;injection e with e
     rw [e,K8,show (S.all (zi∘λ(k:G8)=>D.int (k:P0)))=true from S8.mpr λ_ _=>rfl] at c;cases c
   rintro _ h3 ⟨a,rfl,sb,al⟩;obtain⟨SS,eS,lS,iS⟩:=Gf (d:= .tup es) (show WY n (.tup es) k=true from by show (decide ((es.length:P0)=k)&&es.all (UW n))=true;rw [D0 le,al];rfl);rw [al,M1] at qg;have ees:es=SS.map jJ:=by injection eS
   subst ees;rw [show wL (.tup (SS.map jJ))=SS from Ge SS] at qg;obtain⟨i,rfl⟩:=cT a1;obtain⟨j,rfl⟩:=cT b1;have s0:SS[0]? =some SS[0]:=G5 (by omega);have s1:SS[SS.length-1]? =some SS[SS.length-1]:=G5 (by omega);have at0:atI (SS.map jJ) 0=some (jJ SS[0]):=wt (j:=0) (by rw [R5,s0];rfl);have atL:atI (SS.map jJ) (-1)=some (jJ SS[SS.length-1]):=vF (by rw [G7];omega) (by rw [G7,R5,s1];rfl);rw [s0,s1,aY,aY,show vd (.int (i:P0))=i from aP i,show vd (.int (j:P0))=j from aP j] at qg;refine jf (λxC h'=>xC= [some (jA T),some (.int k),some (.tup [.int (i:P0),.int (j:P0),.tup (SS.map jJ)]),some (.int (n:P0)),a,none,none,none]/\h3=h'/\i∈SS[0]/\ ¬j∈SS[SS.length-1]) (λC hC=>⟨_,rfl,_,rfl,_,rfl,_,rfl,_,at0,Ya ⟨_,rfl,?_⟩⟩) ?_
   ·by_cases c0:i∈SS[0]
    ·rw [D0 c0];refine jH ⟨_,rfl,_,rfl,_,rfl,_,rfl,_,atL,Ya ⟨_,rfl,?_⟩⟩
     by_cases c1:j∈SS[SS.length-1]
     ·rw [D0 c1];exact jw ⟨h3,Sub.refl _,qF (by rw [qg,D0 c1];simp) h3 sb⟩
     ·rw [D1 c1];exact jH (hC _ _ ⟨rfl,rfl,c0,c1⟩)
    ·rw [D1 c0];exact jw (jw ⟨h3,Sub.refl _,qF (by rw [qg,D1 c0,T0]) h3 sb⟩)
   rintro _ _ ⟨rfl,rfl,c0,c1⟩;rw [D0 c0,D1 c1,M1,Bool.not_false,Bool.and_true] at qg;refine jf (λxC h'=> ∃c d,xC= [some (jA T),some (.int k),some (.tup [.int (i:P0),.int (j:P0),.tup (SS.map jJ)]),some (.int (n:P0)),a,c,d,none]/\h3=h'/\arrB n T SS=true) (λC hC=> ?_) ?_
   ·refine Ju (h1:=h3) (j:=λ_=>some (XM (SS.map jJ) (vM (SS.map jJ) (some 1) none))) (XM (SS.map jJ) (vM (SS.map jJ) (some 1) none)) (λt xC h'=> ∃c d,xC= [some (jA T),some (.int k),some (.tup [.int (i:P0),.int (j:P0),.tup (SS.map jJ)]),some (.int (n:P0)),a,c,d,none]/\h3=h'/\ ∀u p,u<t->(SS.zip (SS.drop 1))[u]? =some p->((WD n T p.1).all λx=>decide (x∈p.2))=true) (λR r=>⟨_,rfl,_,rfl,_,rfl,_,rfl,_,rfl,_,_,rfl,r⟩) (λ_ _ _ _=>rfl) ⟨_,_,rfl,rfl,λu x hu _=>absurd hu (cB u)⟩ (λxC h' ⟨c,d,e,z,g⟩=>hC _ _ ⟨c,d,e,z,S8.mpr λp hp=>by obtain⟨u,hu,rfl⟩:=K4 hp;exact g u _ (by rw [VO,G7];exact hu) (G5 hu)⟩) ?_;rintro t d _ _ hd ⟨c,e,rfl,rfl,g⟩;have hil:=(P9.mp hd).1;rw [VO,R5] at hd;obtain⟨p,hp,rfl⟩:=Z9.mp hd;have mp:=P6 hp;have iP:=iS _ (J7 mp).1;refine⟨_,_,rfl,?_⟩;refine OF (WD n T p.1) (λ(j:G8)=> .int (j:P0)) (λj=>decide (j∈p.2)) (by have:=(Qe n T p.1).len;omega) rfl (λR r=>⟨_,rfl,_,rfl,T,_,n,b,rfl,hT,iP,h6,r⟩) (λj hj Q' q'=>⟨_,rfl,_,rfl,Ya (by rw [gV];exact q')⟩) ⟨_,rfl,?_⟩;show if (!(WD n T p.1).all λj=>decide (j∈p.2))=true then _ else _
    cases cc:(WD n T p.1).all λj=>decide (j∈p.2) with
    |true=>
     refine jH ⟨_,Sub.refl _,hil,_,_,rfl,rfl,λu x hu hx=> ?_⟩
     by_cases e:u<t
     ·exact g u x e hx
     ·have:u=t:=by omega
      subst this;rw [hp] at hx;cases hx;exact cc
    |false=>
     exact jw ⟨h3,Sub.refl _,qF (by rw [qg];exact dI.mpr ⟨p,mp,by rw [cc];exact D9⟩) h3 sb⟩
   rintro _ _ ⟨c,d,rfl,rfl,ar⟩;exact⟨_,Sub.refl _,qA true (by rw [qg,ar]) h3 sb⟩
  ·rw [no3 (λ_ _ _ z=>by cases z)] at q0;have n3:decide ((((x::y::z::v::r).length:G8):P0)=3)=false:=D1 (by simp only [R1];omega);refine jf (λ_ _=>False) (λC hC=>⟨_,rfl,_,rfl,_,rfl,jH ⟨_,rfl,_,rfl,?_⟩⟩) (λ_ _ z=>z.elim);show if (!decide ((((x::y::z::v::r).length:G8):P0)=3))=true then _ else _
   rw [n3];exact jw (jw ⟨h,Sub.refl h,q0⟩)
 |_=>cases hn<;>exact jf (λ_ _=>False) (λC hC=>⟨_,rfl,_,rfl,_,rfl,jw (jw ⟨h,Sub.refl h,q0⟩)⟩) (λ_ _ z=>z.elim)
theorem Fh {a b:G0 P0}(q:Q (.bl (!decide (a=b))) h):neE (.tup (a.map D.int)) (.tup (b.map D.int)) h Q:=
 ⟨Dr a,Dr b,⟨_,rfl,wv h a⟩,⟨_,rfl,wv h b⟩,Zh _,Zh _,by rw [XQ];exact q⟩
theorem Ap {i j:G8}{k:P0}(w:yW T n d=true): ∃ (a b:G8) (l:G8),d=jJ (jG d)/\(jG d).length=l/\(jG d)[0]? =some a/\(jG d)[(jG d).length-1]? =some b/\Rx T n d i j k=decide ([(l:P0),(a:P0),(b:P0)]= [k+1,(i:P0),(j:P0)]):=by
 obtain⟨W,rfl,_,ne⟩:=Ry w;have p0:0<W.length:=E7.mpr ne;have e0:W[0]? =some W[0]:=G5 p0;have e1:W[W.length-1]? =some W[W.length-1]:=G5 (by omega);refine⟨W[0],W[W.length-1],W.length,by rw [ways_ord],by rw [ways_ord],by rw [ways_ord];exact e0,by rw [ways_ord];exact e1,?_⟩;unfold Rx;rw [w,ways_ord,e0,e1,M1,F8];simp only [B8,C0,A4,List.cons.injEq,and_true];omega
def yS:RDn:=λds h Q=> ∃T d,∃n e:G8,ds= [jA T,d]/\Sq n e T/\1<=n/\n<=6/\okD d=true/\Kle d/\(∀x y z,d= .tup [x,y,z]->Prt 40 h d)/\ ∀h',Sub h h'->Q (.bl (fhB T n d)) h'
theorem ZS (Z:Zs mg)(F:Fun K "_law_is_first" "_law_is_first" wD f fd)(zl:jp P w K mg base n "_law_whole" ["_law_thing"] zj)(Yy:jp P w K mg base n "_law_is_walk" ["_law_table_here","_law_thing"] vw)(Ub:jp P w K mg base n "_law_is_gap" ["_law_table_here","_law_k","_law_gap"] vT):FnOk P w K mg base CX0 (n+1) f fd ["_law_table_here","_law_thing"] (LSp K yS):=by
 refine F.okM jY (λhr=>(js7 (jse 2 jY (Jo Z (jv 0))) (vN (jpt (Za (zm (zh (yi (T:= "tuple") (by decide) rfl Z.isinstance rfl Z.tuple (by decide +kernel) (jv 1)))) (Za (jt1 oq_ne (Jo Z (jv 1)) jl) (Za (zm (zh (jk zl hr (j1 (ji1 (jv 1) jl))))) (Yq (jt1 Xy (ji1 (jv 1) jl) jl)))))) (zf jbl)) (FA (jv 1) (CI (i:=3) (j:=4) (l:=5) rfl jY.nd rfl rfl rfl (A2 rfl) (A2 rfl) (A2 rfl))) (vN (jpt (Za (zm (zh (yi (T:= "tuple") (by decide) rfl Z.isinstance rfl Z.tuple (by decide +kernel) (jv 4)))) (Yq (jt1 oq_ne (Jo Z (jv 4)) (jv 2))))) (zf jbl)) (YR B9 rfl (VB rfl Z.enumerate (j1 (jv 4))) (Qz (i:=6) (j:=7) rfl jY.nd rfl rfl (A2 rfl) (A2 rfl)) (js2 (vN (jpt (Za (zm (zh (yi (T:= "tuple") (by decide) rfl Z.isinstance rfl Z.tuple (by decide +kernel) (jv 7)))) (Yq (jt1 oq_ne (Jo Z (jv 7)) (jv 2))))) (zf jbl)) (YR B9 rfl (VB rfl Z.enumerate (j1 (jv 7))) (Qz (i:=8) (j:=9) rfl jY.nd rfl rfl (A2 rfl) (A2 rfl)) (jD (vN (jpt (Za (zm (zh (jk Yy hr (j2 (jv 0) (jv 9))))) (Yq (jt1 (Qy hr.units) (jX (j3 (Jo Z (jv 9)) (ji1 (jv 9) jl) (ji1 (jv 9) (QB jl)))) (jX (j3 (jop jI (jv 3) jl) (jv 6) (jv 8))))))) (zf jbl)))))) (vN (jpt (Za (jt1 oq_eq (jv 3) jl) (Yq (jt1 Cd (jv 5) Gy)))) (zf (Vu (jc1 oq_eq (jv 3) jl) (Ui (jc1 Cd (jv 5) Gy))))) (zf (jk Ub hr (j3 (jv 0) (jv 3) (jv 5)))))) ?_;rintro ds h Q ⟨T,d,n,b,rfl,hT,h1,h6,ok,kl,pr,q⟩;refine⟨rfl,?_⟩;have q0:=q h (Sub.refl h);have R0:=Sub.refl h;refine jf (λxC h'=>xC= [some (jA T),some d,some (.int (n:P0)),none,none,none,none,none,none,none]/\h=h') (λC hC=>⟨_,rfl,hC _ _ ⟨by rw [G7,hT.len];rfl,rfl⟩⟩) ?_;rintro _ _ ⟨rfl,rfl⟩;obtain⟨nm,hn⟩:=jx ok;cases d with
 |tup es=>
  cases hn;obtain⟨hl,oks⟩:=zd ok;rcases es with _|⟨x,_|⟨w,_|⟨y,_|⟨v,r⟩⟩⟩⟩
  ·rw [ZC (λ_ _ _ z=>by cases z)] at q0;exact jf (λ_ _=>False) (λC hC=>⟨_,rfl,_,rfl,_,rfl,jH ⟨_,rfl,_,rfl,jw (jw ⟨h,R0,q0⟩)⟩⟩) (λ_ _ z=>z.elim)
  ·rw [ZC (λ_ _ _ z=>by cases z)] at q0;exact jf (λ_ _=>False) (λC hC=>⟨_,rfl,_,rfl,_,rfl,jH ⟨_,rfl,_,rfl,jw (jw ⟨h,R0,q0⟩)⟩⟩) (λ_ _ z=>z.elim)
  ·rw [ZC (λ_ _ _ z=>by cases z)] at q0;exact jf (λ_ _=>False) (λC hC=>⟨_,rfl,_,rfl,_,rfl,jH ⟨_,rfl,_,rfl,jw (jw ⟨h,R0,q0⟩)⟩⟩) (λ_ _ z=>z.elim)
  ·have P:=pr x w y rfl;have fe:fhB T n (.tup [x,w,y])=(zi x&&(decide (1<=VP x)&&(JP T n w (VP x)&&(if VP x=1 then isN y else Pd T n y (VP x))))):=rfl;obtain⟨nx,hnx⟩:=jx (oks x (by simp));obtain⟨nw,hnw⟩:=jx (oks w (by simp));cases cx:zi x with
   |false=>
    rw [fe,cx,T0] at q0;refine jf (λ_ _=>False) (λC hC=>⟨_,rfl,_,rfl,_,rfl,jH ⟨_,rfl,_,rfl,jH ⟨_,rfl,_,rfl,x,nx,rfl,hnx,_,rfl,?_⟩⟩⟩) (λ_ _ z=>z.elim);rw [cx];exact jw (jw ⟨h,R0,q0⟩)
   |true=>
    have ex:=JQ cx;generalize VP x=k at ex fe;subst ex;have k100:=kl k w y rfl;have qA: ∀v,fhB T n (.tup [.int k,w,y])=v-> ∀h',Sub h h'->Q (.bl v) h':=λv e h' s=>by
     have:=q h' s;rw [e] at this;exact this
    rw [cx,M1] at fe;have qF:=qA false;refine jf (λxC h'=>xC= [some (jA T),some (.tup [.int k,w,y]),some (.int (n:P0)),none,none,none,none,none,none,none]/\h=h'/\1<=k) (λC hC=>⟨_,rfl,_,rfl,_,rfl,jH ⟨_,rfl,_,rfl,jH ⟨_,rfl,_,rfl,.int k,"int",rfl,rfl,_,rfl,jH ⟨_,rfl,_,rfl,?_⟩⟩⟩⟩) ?_
    ·show ∃c,D.bl (decide (k<1))=D.bl c/\_
     by_cases c1:k<1
     ·rw [D0 c1];exact⟨_,rfl,jw ⟨h,R0,qF (by rw [fe,D1 (show ¬1<=k by omega),T0]) h R0⟩⟩
     ·rw [D1 c1];exact⟨_,rfl,jH (hC _ _ ⟨rfl,rfl,by omega⟩)⟩
    rintro _ _ ⟨rfl,rfl,k1⟩;rw [D0 k1,M1] at fe;refine wz [some (jA T),some (.tup [.int k,w,y]),some (.int (n:P0)),some (.int k),some w,some y,none,none,none,none] (λC hC=>⟨_,rfl,_,_,_,rfl,hC⟩) ?_;refine jf (λxC h'=>xC= [some (jA T),some (.tup [.int k,w,y]),some (.int (n:P0)),some (.int k),some w,some y,none,none,none,none]/\h=h'/\ ∃es,w= .tup es/\es.length=n) (λC hC=>⟨_,rfl,nw,hnw,_,rfl,?_⟩) ?_
    ·cases w with
     |tup es=>
      cases hnw;refine jH ⟨_,rfl,_,rfl,?_⟩;show ∃c,D.bl (!decide ((es.length:P0)=(n:P0)))=D.bl c/\_
      by_cases e:es.length=n
      ·rw [D0 (show (es.length:P0)=(n:P0) by omega)];exact⟨_,rfl,jH (hC _ _ ⟨rfl,rfl,es,rfl,e⟩)⟩
      ·rw [D1 (show ¬ (es.length:P0)=(n:P0) by omega)];refine⟨_,rfl,jw ⟨h,R0,qF ?_ h R0⟩⟩;rw [fe,show JP T n (.tup es) k=(decide (es.length=n)&&(R6 es.length).all λj=>VN T n (es.getD j .non) j k) from rfl,D1 e,T0,T0]
     |_=>cases hnw<;>exact jw (jw ⟨h,R0,qF (by rw [fe];rfl) h R0⟩)
    rintro _ _ ⟨rfl,rfl,es,rfl,le⟩;obtain⟨le1,oke⟩:=zd (oks _ (show D.tup es∈ [D.int k,.tup es,y] by simp));have we:JP T n (.tup es) k=((R6 es.length).all λj=>VN T n (es.getD j .non) j k):=by
     show (decide (es.length=n)&&_)=_;rw [D0 le,M1]
    have gD: ∀ {u:G8} {d:D} {l:G0 D},l[u]? =some d->l.getD u .non=d:=λe=>by rw [T7,e];rfl
    refine jf (λxC h'=> ∃a1 a2 a3 a4,xC= [some (jA T),some (.tup [.int k,.tup es,y]),some (.int (n:P0)),some (.int k),some (.tup es),some y,a1,a2,a3,a4]/\h=h'/\JP T n (.tup es) k=true) (λC hC=> ?_) ?_
    ·refine Ju (h1:=h) (j:=λ_=>some (QH es)) (QH es) (λt xC h'=> ∃a1 a2 a3 a4,xC= [some (jA T),some (.tup [.int k,.tup es,y]),some (.int (n:P0)),some (.int k),some (.tup es),some y,a1,a2,a3,a4]/\h=h'/\ ∀u,u<t->VN T n (es.getD u .non) u k=true) (λR r=>⟨_,rfl,_,rfl,r⟩) (λ_ _ _ _=>rfl) ⟨_,_,_,_,rfl,rfl,λu hu=>absurd hu (cB u)⟩ (λxC h' ⟨a1,a2,a3,a4,e,z,g⟩=>hC _ _ ⟨a1,a2,a3,a4,e,z,by rw [we];exact S8.mpr λu hu=>g u (by rw [Wf,G7];exact(by rw [C6];exact S9.mp hu))⟩) ?_;rintro t d _ _ hd ⟨a1,a2,a3,a4,rfl,rfl,g⟩;have hil:=(P9.mp hd).1;obtain⟨ln,hx,rfl⟩:=VA hd;have lt:=(P9.mp hx).1;have hm:=P6 hx;have eg:=gD hx;obtain⟨nl,hnl⟩:=jx (oke ln hm);have badL:VN T n ln t k=false->fhB T n (.tup [.int k,.tup es,y])=false:=λz=>by
      rw [fe,we,dI.mpr ⟨t,S9.mpr lt,by rw [eg,z];exact D9⟩,T0]
     refine⟨_,_,rfl,?_⟩;refine jf (λxC h'=>xC= [some (jA T),some (.tup [.int k,.tup es,y]),some (.int (n:P0)),some (.int k),some (.tup es),some y,some (.int (t:P0)),some ln,a3,a4]/\h=h'/\ ∃fs,ln= .tup fs/\fs.length=n) (λC hC=>⟨_,rfl,nl,hnl,_,rfl,?_⟩) ?_
     ·cases ln with
      |tup fs=>
       cases hnl;refine jH ⟨_,rfl,_,rfl,?_⟩;show ∃c,D.bl (!decide ((fs.length:P0)=(n:P0)))=D.bl c/\_
       by_cases e:fs.length=n
       ·rw [D0 (show (fs.length:P0)=(n:P0) by omega)];exact⟨_,rfl,jH (hC _ _ ⟨rfl,rfl,fs,rfl,e⟩)⟩
       ·rw [D1 (show ¬ (fs.length:P0)=(n:P0) by omega)];refine⟨_,rfl,jw ⟨h,R0,qF (badL ?_) h R0⟩⟩;show (decide (fs.length=n)&&_)=false;rw [D1 e,T0]
      |_=>cases hnl<;>exact jw (jw ⟨h,R0,qF (badL rfl) h R0⟩)
     rintro _ _ ⟨rfl,rfl,fs,rfl,lf⟩;have lw:VN T n (.tup fs) t k=((R6 fs.length).all λj=>Rx T n (fs.getD j .non) t j k):=by
      show (decide (fs.length=n)&&_)=_;rw [D0 lf,M1]
     have pf: ∀d∈fs,Prt 40 h d:=λd hd=>((P.mem (show D.tup es∈ [D.int k,.tup es,y] by simp)).mem hm).mem hd
     refine Ju (h1:=h) (j:=λ_=>some (QH fs)) (QH fs) (λt2 xC h'=> ∃a3 a4,xC= [some (jA T),some (.tup [.int k,.tup es,y]),some (.int (n:P0)),some (.int k),some (.tup es),some y,some (.int (t:P0)),some (.tup fs),a3,a4]/\h=h'/\ ∀u,u<t2->Rx T n (fs.getD u .non) t u k=true) (λR r=>⟨_,rfl,_,rfl,r⟩) (λ_ _ _ _=>rfl) ⟨_,_,rfl,rfl,λu hu=>absurd hu (cB u)⟩ (λxC h' ⟨a3,a4,e,z,g2⟩=>⟨_,Sub.refl _,hil,_,_,_,_,e,z,λu hu=> ?_⟩) ?_
     ·by_cases e:u<t
      ·exact g u e
      ·have:u=t:=by omega
       subst this;rw [eg,lw];exact S8.mpr λv hv=>g2 v (by rw [Wf,G7,C6];exact S9.mp hv)
     rintro t2 d _ _ hd ⟨a3,a4,rfl,rfl,g2⟩;have hil2:=(P9.mp hd).1;obtain⟨wk,hx2,rfl⟩:=VA hd;have lt2:=(P9.mp hx2).1;have eg2:=gD hx2;have badW:Rx T n wk t t2 k=false->fhB T n (.tup [.int k,.tup es,y])=false:=λz=>badL (by
      rw [lw,dI.mpr ⟨t2,S9.mpr lt2,by rw [eg2,z];exact D9⟩])
     refine⟨_,_,rfl,⟨_,rfl,_,rfl,T,wk,n,b,rfl,hT,h1,h6,pf wk (P6 hx2),_,rfl,?_⟩⟩;cases cw:yW T n wk with
     |false=>exact jw (jw ⟨h,R0,qF (badW (by unfold Rx;rw [cw,T0])) h R0⟩)
     |true=>
      obtain⟨a,c,l,e,el,e0,e1,eb⟩:=Ap (i:=t) (j:=t2) (k:=k) cw;generalize jG wk=W at e el e0 e1;subst e;have a0:atI (W.map λ(k:G8)=>D.int (k:P0)) 0=some (.int (a:P0)):=wt (j:=0) (by rw [R5,e0];rfl);have al:atI (W.map λ(k:G8)=>D.int (k:P0)) (-1)=some (.int (c:P0)):=vF (by rw [G7];exact aC λz=>by rw [W0.mp z] at e0;cases e0) (by rw [G7,R5,e1];rfl);refine jH ⟨_,rfl,_,rfl,_,a0,_,rfl,_,al,sz3,_,rfl,_,rfl,_,rfl,sz3,Fh (a:= [(((W.map λ(k:G8)=>D.int (k:P0)).length:G8):P0),(a:P0),(c:P0)]) (b:= [k+1,(t:P0),(t2:P0)]) ⟨_,rfl,?_⟩⟩;rw [G7,el];cases z:decide ([(l:P0),(a:P0),(c:P0)]= [k+1,(t:P0),(t2:P0)]) with
      |false=>exact jw ⟨h,R0,qF (badW (by rw [eb,z])) h R0⟩
      |true=>
       refine jH ⟨_,Sub.refl _,hil2,_,_,rfl,rfl,λu hu=> ?_⟩
       by_cases e:u<t2
       ·exact g2 u e
       ·have:u=t2:=by omega
        subst this;rw [eg2,eb,z]
    rintro _ _ ⟨a1,a2,a3,a4,rfl,rfl,ww⟩;rw [ww,M1] at fe
    by_cases z:k=1
    ·rw [S2 z] at fe;subst z;refine jf (λ_ _=>False) (λC hC=>⟨_,rfl,_,rfl,jw ⟨_,rfl,_,rfl,jw ⟨_,rfl,h,R0,qA _ ?_ h R0⟩⟩⟩) (λ_ _ z=>z.elim);rw [fe,gV]
    ·rw [S3 z] at fe;cases cy:isN y with
     |true=>
      have ey:y= .non:=by cases y<;>first|rfl|cases cy
      subst ey;refine jf (λ_ _=>False) (λC hC=>⟨_,rfl,?_⟩) (λ_ _ z=>z.elim);show ∃c,D.bl (decide (k=1))=D.bl c/\_;rw [D1 z];refine⟨_,rfl,jH ⟨_,rfl,_,rfl,jw ⟨_,rfl,?_⟩⟩⟩;show ∃c,D.bl (decide (k=1))=D.bl c/\_;rw [D1 z];exact⟨_,rfl,jH ⟨h,R0,qF (by rw [fe];rfl) h R0⟩⟩
     |false=>
      refine wz [some (jA T),some (.tup [.int k,.tup es,y]),some (.int (n:P0)),some (.int k),some (.tup es),some y,a1,a2,a3,a4] (λC hC=>⟨_,rfl,?_⟩) ?_
      ·show ∃c,D.bl (decide (k=1))=D.bl c/\_;rw [D1 z];refine⟨_,rfl,jH ⟨_,rfl,_,rfl,?_⟩⟩;rw [cy];exact jH (hC)
      exact⟨_,rfl,_,rfl,_,rfl,T,y,n,b,k,rfl,hT,h1,h6,by omega,k100,P.mem (by simp),λh' s=>⟨_,Sub.refl _,qA _ fe h' s⟩⟩
  ·rw [ZC (λ_ _ _ z=>by cases z)] at q0;have n3:decide ((((x::w::y::v::r).length:G8):P0)=3)=false:=D1 (by simp only [R1];omega);refine jf (λ_ _=>False) (λC hC=>⟨_,rfl,_,rfl,_,rfl,jH ⟨_,rfl,_,rfl,?_⟩⟩) (λ_ _ z=>z.elim);show if (!decide ((((x::w::y::v::r).length:G8):P0)=3))=true then _ else _
   rw [n3];exact jw (jw ⟨h,R0,q0⟩)
 |_=>cases hn<;>exact jf (λ_ _=>False) (λC hC=>⟨_,rfl,_,rfl,_,rfl,jw (jw ⟨h,R0,q0⟩)⟩) (λ_ _ z=>z.elim)
theorem VX {x:D}{xs:G0 D}{lo hi:P8 P0}(h:x∈vM xs lo hi):x∈xs:=C4 (L9 h)
theorem VY {xs:G0 D}{lo hi:P8 P0}:(vM xs lo hi).length<=xs.length:=by unfold vM;rw [T4,C3];omega
def okN (n:G8)(ds:G0 D):Prop:=ds.length<=n/\ ∀d∈ds,okD d=true
theorem okN.app {a b:G0 D}(x:okN m a)(y:okN n b):okN (m+n) (a++b):=⟨by rw [P7];have:=x.1;have:=y.1;omega,λd hd=>(D5.mp hd).elim (x.2 d) (y.2 d)⟩
theorem okN.cut {a:G0 D}(x:okN n a)(lo hi:P8 P0):okN n (vM a lo hi):=⟨T6 VY x.1,λd hd=>x.2 d (VX hd)⟩
theorem okN.one (h:okD d=true):okN 1 [d]:=⟨P4 _,λx hx=>by rw [P3.mp hx];exact h⟩
theorem okN.sz {a b:G0 D}(x:okN m a)(y:okN n b)(h:m+n<=1000:=by decide):a.length+b.length<=sizeLine:=R9 (ju (by have:=x.1;have:=y.1;omega))
/-- nothing but tuples of so many at most,down to so deep,and of what is no tuple -/
def At (m:G8)(h:HD)(d:D):Prop:=Prt m h d/\(∀es,d≠ .tup es)/\ ∀i,d= .int i->i<=100
def Nq (b m:G8):G8->HD->D->Prop
 |0=>λh d=>At m h d
 |k+1=>λh d=>At m h d\/ ∃es,d= .tup es/\es.length<=b/\ ∀x∈es,Nq b m k h x
variable {b:G8}
theorem Nq.at (a:At m h d): ∀k,Nq b m k h d
 |0=>a
 |_+1=> .inl a
theorem Nq.prt (hb:b<=1000): ∀ {k:G8} {h:HD} {d:D},Nq b m k h d->Prt (m+k) h d
 |0,h,d,a=>a.1
 |k+1,h,d,a=>by
  rcases a with a|⟨es,rfl,l,g⟩
  ·exact a.1.mono (W7 _ _)
  ·exact Prt.tup (T6 l hb) λy hy=>Nq.prt hb (g y hy)
theorem Nq.int {i:P0}: ∀ {k:G8},Nq b m k h (.int i)->i<=100
 |0,a=>a.2.2 i rfl
 |k+1,a=>by
  rcases a with a|⟨es,e,_⟩
  ·exact a.2.2 i rfl
  ·cases e
theorem Nq.tup {b m k:G8}{h:HD}{es:G0 D}(a:Nq b m k h (.tup es)): ∃j,k=j+1/\es.length<=b/\ ∀x∈es,Nq b m j h x:=by
 cases k with
 |zero=>exact absurd rfl (a.2.1 es)
 |succ k=>
  rcases a with a|⟨es',e,l,g⟩
  ·exact absurd rfl (a.2.1 es)
  ·cases e;exact⟨k,rfl,l,g⟩
theorem Nq.kle (a:Nq b m k h d):Kle d:=λk x y e=>by
 subst e;obtain⟨j,_,_,g⟩:=a.tup;exact(g _ R7).int
theorem At.mono {g:HD}(a:At m h d)(l:m<=n)(s:Sub h g):At n g d:=⟨(a.1.mono l).sub s,a.2⟩
theorem Nq.mono {c:G8}{g:HD}(hb:b<=c)(hm:m<=n)(s:Sub h g): ∀ {k j:G8} {d:D},Nq b m k h d->k<=j->Nq c n j g d
 |0,j,d,a,_=>Nq.at (At.mono a hm s) j
 |k+1,0,d,a,l=>absurd l (Nat.not_succ_le_zero k)
 |k+1,j+1,d,a,l=>by
  rcases a with a|⟨es,e,z,g⟩
  ·exact .inl (a.mono hm s)
  ·exact .inr ⟨es,e,T6 z hb,λx hx=>Nq.mono hb hm s (g x hx) (Nat.le_of_succ_le_succ l)⟩
theorem wM {i:P0}(l:i<=100):At m h (.int i):=⟨(Fg h i).mono (N3 _),(λes e=>by cases e),(λj e=>by cases e;exact l)⟩
theorem Xe:At m h .non:=⟨⟨rfl,.none,rfl,rfl,N3 _⟩,(λes e=>by cases e),(λj e=>by cases e)⟩
theorem Sf (c:N4):At m h (.bl c):=⟨⟨rfl,.bool c,rfl,rfl,N3 _⟩,(λes e=>by cases e),(λj e=>by cases e)⟩
theorem wF (l:es.length<=b)(g: ∀x∈es,Nq b m k h x):Nq b m (k+1) h (.tup es):= .inr ⟨es,rfl,l,g⟩
theorem NL (l:S.length<=b)(g: ∀x∈S,x<=100):Nq b m 1 h (jJ S):=wF (by rw [G7];exact l) λx hx=>by
 obtain⟨y,hy,rfl⟩:=N6.mp hx;exact wM (by have:=g y hy;omega)
/-- places,few -/
def IsP (n:G8)(S:G0 G8):Prop:=(∀x∈S,x<n)/\S.length<=6
/-- the lists of sets gone back through -/
def BK (p B:G9)(n k m:G8)(h:HD):Prop:=B≠p/\ ∃rs,h B=some rs/\rs.length=m/\ ∀d∈rs,∃R,∃SS:G0 (G0 G8),d= .lst R/\R≠p/\R≠B/\h R=some (SS.map jJ)/\SS.length=k+1/\ ∀S∈SS,IsP n S
theorem BK.but {p B:G9}(a:BK p B n k m h)(b:But p h h'):BK p B n k m h':=by
 obtain⟨nB,rs,kB,l,g⟩:=a;refine⟨nB,rs,b.ls _ _ nB kB,l,λd hd=> ?_⟩;obtain⟨R,SS,e,nR,nRB,kR,r⟩:=g d hd;exact⟨R,SS,e,nR,nRB,b.ls _ _ nR kR,r⟩
theorem BK.snoc {p B R:G9}{rs:G0 D}{SS:G0 (G0 G8)}(a:BK p B n k m h)(kB:h B=some rs)(nR:R≠p)(nRB:R≠B)(kR:h R=some (SS.map jJ))(l:SS.length=k+1)(g: ∀S∈SS,IsP n S):BK p B n k (m+1) (zV h B (rs++ [.lst R])):=by
 obtain⟨nB,rs',kB',l',g'⟩:=a;rw [kB] at kB';injection kB' with e
 subst e;refine⟨nB,_,jc,by rw [P7,l'];rfl,λd hd=> ?_⟩;rcases D5.mp hd with z|z
 ·obtain⟨R',SS',e,n1,n2,k1,r⟩:=g' d z;exact⟨R',SS',e,n1,n2,jj n2 k1,r⟩
 ·rw [P3.mp z];exact⟨R,SS,rfl,nR,nRB,jj nRB kR,l,g⟩
theorem Fi {l:G0 P0}{m:P0}(m1:m∈0::l)(m2: ∀x∈0::l,x<=m):decide (m>0)=l.any λx=>decide (x>0):=by
 rw [F8,C0,aZ];constructor
 ·intro z;rcases D2.mp m1 with e|e
  ·omega
  ·exact⟨m,e,D0 z⟩
 ·rintro ⟨x,hx,z⟩;have:=m2 x (S6 _ hx);have:=H0 z;omega
theorem last_at {α β:Type}{f:α->β}{l:G0 α}(h:1<=l.length): ∃x∈l,atI (l.map f) (-1)=some (f x):=by
 have hl:l.length-1<l.length:=by omega
 have e:l[l.length-1]? =some (l[l.length-1]'hl):=G5 hl;exact⟨l[l.length-1]'hl,B6 hl,vF (by rw [G7];exact h) (by rw [G7,R5,e];rfl)⟩
theorem Fj {A B:G9}(k:h A=some (S.map λ(k:G8)=>D.int (k:P0)))(k':h B=some [])(q:Q (.bl (!S.isEmpty)) h):neE (.lst A) (.lst B) h Q:=by
 refine⟨.list ((vJ S).map .int),.list [],⟨A,_,rfl,k,?_⟩,⟨B,_,rfl,k',rfl⟩,WC _,by decide +kernel,?_⟩
 ·have:=wv h (vJ S);unfold vJ at this ⊢;rw [M7 (f:=λ(k:G8)=>(k:P0)) (g:=D.int)] at this;exact this
 ·cases S with
  |nil=>exact q
  |cons x S=>exact q
theorem Zv {p:G9}(s:Sub h h'):But p h h':=⟨λa ds _ e=>s.ls a ds e,s.dc⟩
def JY:RDn:=λds h Q=> ∃p l fl T,∃n e k:G8,ds= [.lst p,jA T,.int (k:P0)]/\h p=some [.int l,.int fl]/\0<=l/\Sq n e T/\1<=n/\n<=6/\1<=k/\k<=60/\ ∀d l' h',(∀g,Nq 64 0 4 g d)->(∃x y,d= .tup [.int (k:P0),x,y])->But p h h'->h' p=some [.int l',.int fl]->0<=l'->Q d h'
theorem VZ (Z:Zs mg)(F:Fun K "_law_paper" "_law_paper" vp f fd)(ji:jp P w K mg base n "_law_draw" ["_law_pen_here","_law_many"] jT)(vx:jp P w K mg base n "_law_after" ["_law_table_here","_law_some"] yK):FnOk P w K mg base CX0 (n+1) f fd ["_law_pen_here","_law_table_here","_law_k"] (LSp K JY):=by
 refine F.okM jg (λhr=>(js7 (jse 3 jg (Jo Z (jv 1))) (jse 4 jg (yh jS)) (YR B9 rfl (jrg Z (jv 3)) (jgn 5 jg) (js3 (jse 6 jg (yh (j1 (jX (j1 (jv 5)))))) (YR B9 rfl (jrg Z (jv 2)) (jgn 7 jg) (js2 (jse 8 jg (ji1 (jv 6) (QB jl))) (Vv (NA (jv 6) (zb yf rfl Z.tuple (by decide +kernel) (j1 (jl1 10 jg (jrg Z (jv 3)) (λ_ _ _ _=>(jt1 Vo (jR (DH rfl) rfl Z.max (by decide +kernel) (j1 (jop jI (yh (j1 jl)) (jl0 18 jg (zJ (jv 8)) (λ_ _ _ _=>(ji1 (ji1 (jv 1) (jv 10)) (jv 18))))))) jl)) (λ_ _ _ _=>(jv 10))))))))) (Vv (NA (jv 4) (jv 6))))) (jse 9 jg (yh jS)) (YR B9 rfl (jrg Z (jv 3)) (jgn 10 jg) (js3 (jse 11 jg (yh jS)) (YR B9 rfl (jrg Z (jv 3)) (jgn 12 jg) (js3 (jse 13 jg (jX (j1 (jv 10)))) (YR B9 rfl (zJ (Hi (yj (ji1 (jv 4) (jv 12)) zY (zP (QB jl))))) (jgn 14 jg) (js3 (Dl (i:=5) (k:=15) (js:= [5]) rfl jg.nd rfl (A2 rfl) (jQ (by rfl)) (zJ (jv 14)) (by decide) rfl (by first|exact A2 rfl|exact V3 rfl) (λX' hX=>by obtain⟨C,s₀,H₀,ex,rfl⟩:=hX;exact XF (jt1 Vo (ji1 (ji1 (jv 1) (ji1 (jv 13) (QB jl))) (jv 5)) jl)) (λX' hX=>by obtain⟨C,s₀,H₀,ex,rfl⟩:=hX;exact(jv 5))) (jse 15 jg (jop jI (jv 15) (jop vY (yh (j1 jl)) (zb Qw rfl Z.int (by decide +kernel) (j1 (jc1 (Ww hr.units) (jv 15) (yh jS))))))) (jse 13 jg (jop jI (jv 13) (jX (j1 (ji1 (jv 15) (jk ji hr (j2 (jv 0) (Jo Z (jv 15))))))))))) (Vv (NA (jv 11) (jv 13))))) (Vv (NA (jv 9) (zb cq_tuple rfl Z.tuple (by decide +kernel) (j1 (jv 11))))))) (YR B9 rfl (jrg Z (jv 3)) (jgn 10 jg) (js4 (jse 16 jg (yh (j1 (jX (j1 (jv 10)))))) (YR B9 rfl (jrg Z (jop YM (jv 2) jl)) (jgn 7 jg) (jD (Vv (NA (jv 16) (jk vx hr (j2 (jv 1) (ji1 (jv 16) (QB jl)))))))) (Dl (i:=5) (k:=17) (js:= [5]) rfl jg.nd rfl (A2 rfl) (jQ (by rfl)) (jrg Z (jv 3)) (by decide) rfl (by first|exact A2 rfl|exact V3 rfl) (λX' hX=>by obtain⟨C,s₀,H₀,ex,rfl⟩:=hX;exact XF (XD (Wb hr.units) (jv 5) (ji1 (jv 16) (QB jl)) (by with_unfolding_all rfl))) (λX' hX=>by obtain⟨C,s₀,H₀,ex,rfl⟩:=hX;exact(jv 5))) (vN (jpt (Mg (jt1 Vo (jv 2) jl) (OD (jt1 (Qy hr.units) (jv 17) (yh jS))))) (zf (jX (j3 (jv 2) (zb cq_tuple rfl Z.tuple (by decide +kernel) (j1 (jv 9))) (jX (j3 (jv 10) (ji1 (jv 17) (jk ji hr (j2 (jv 0) (Jo Z (jv 17))))) (zb cq_tuple rfl Z.tuple (by decide +kernel) (j1 (jv 16))))))))))) (zf (jX (j3 (jv 2) (zb cq_tuple rfl Z.tuple (by decide +kernel) (j1 (jv 9))) Gy))))) ?_;rintro ds h Q ⟨p,l,fl,T,n,b,k,rfl,hp,h0,hT,n1,n6,k1,k60,q⟩;refine⟨rfl,?_⟩;obtain⟨k,rfl⟩: ∃k',k=k'+1:=⟨k-1,by omega⟩;refine jf (λxC h'=>xC= [some (.lst p),some (jA T),some (.int ((k+1:G8):P0)),some (.int (n:P0)),none,none,none,none,none,none,none,none,none,none,none,none,none,none,none]/\h=h') (λC hC=>⟨_,rfl,hC _ _ ⟨by rw [G7,hT.len];rfl,rfl⟩⟩) ?_;rintro _ _ ⟨rfl,rfl⟩;refine jf (λxC h'=> ∃B,xC= [some (.lst p),some (jA T),some (.int ((k+1:G8):P0)),some (.int (n:P0)),some (.lst B),none,none,none,none,none,none,none,none,none,none,none,none,none,none]/\h B=none/\BK p B n (k+1) 0 h'/\h' p=some [.int l,.int fl]/\But p h h') (λC hC=>⟨sz0,λB eB=>hC _ _ ⟨B,rfl,eB,⟨jh hp eB,[],jc,rfl,λd hd=>nomatch hd⟩,je hp eB,(But.refl p h).new eB⟩⟩) ?_;rintro _ h1 ⟨B,rfl,fB,bk,kp,bt⟩;refine jf (λxC h'=> ∃a5 a6 a7 a8 a9 a10 a11 a12 a13 a14 a15 a16 a17 a18,xC= [some (.lst p),some (jA T),some (.int ((k+1:G8):P0)),some (.int (n:P0)),some (.lst B),a5,a6,a7,a8,a9,a10,a11,a12,a13,a14,a15,a16,a17,a18]/\BK p B n (k+1) n h'/\h' p=some [.int l,.int fl]/\But p h h') (λC hC=> ?_) ?_
 ·refine yA n (λi xC h'=> ∃a5 a6 a7 a8 a9 a10 a11 a12 a13 a14 a15 a16 a17 a18,xC= [some (.lst p),some (jA T),some (.int ((k+1:G8):P0)),some (.int (n:P0)),some (.lst B),a5,a6,a7,a8,a9,a10,a11,a12,a13,a14,a15,a16,a17,a18]/\BK p B n (k+1) i h'/\h' p=some [.int l,.int fl]/\But p h h') (by omega) (λR r=>⟨_,rfl,r⟩) ⟨_,_,_,_,_,_,_,_,_,_,_,_,_,_,rfl,bk,kp,bt⟩ (λxC h' z=>hC _ _ z) ?_;clear bk kp bt;rintro i _ h2 hi ⟨a5,a6,a7,a8,a9,a10,a11,a12,a13,a14,a15,a16,a17,a18,rfl,bk,kp,bt⟩;obtain⟨nB,rs,kB,lrs,grs⟩:=id bk;refine jf (λxC h'=> ∃R,xC= [some (.lst p),some (jA T),some (.int ((k+1:G8):P0)),some (.int (n:P0)),some (.lst B),some (.int (i:P0)),some (.lst R),a7,a8,a9,a10,a11,a12,a13,a14,a15,a16,a17,a18]/\h2 R=none/\h' R=some ([[i]].map jJ)/\Sub h2 h') (λC hC=>⟨_,rfl,sz1,sz1,λR eR=>hC _ _ ⟨R,rfl,eR,jc,.new eR⟩⟩) ?_;rintro _ h3 ⟨R,rfl,fR,kR,sb⟩;refine jf (λxC h'=> ∃a7 a8 a18,∃SS:G0 (G0 G8),xC= [some (.lst p),some (jA T),some (.int ((k+1:G8):P0)),some (.int (n:P0)),some (.lst B),some (.int (i:P0)),some (.lst R),a7,a8,a9,a10,a11,a12,a13,a14,a15,a16,a17,a18]/\h' R=some (SS.map jJ)/\SS.length=k+2/\(∀S∈SS,IsP n S)/\Sub h2 h') (λC hC=> ?_) ?_
  ·refine yA (k+1) (λt xC h'=> ∃a7 a8 a18,∃SS:G0 (G0 G8),xC= [some (.lst p),some (jA T),some (.int ((k+1:G8):P0)),some (.int (n:P0)),some (.lst B),some (.int (i:P0)),some (.lst R),a7,a8,a9,a10,a11,a12,a13,a14,a15,a16,a17,a18]/\h' R=some (SS.map jJ)/\SS.length=t+1/\(∀S∈SS,IsP n S)/\Sub h2 h') (by omega) (λR r=>⟨_,rfl,r⟩) ⟨_,_,_,[[i]],rfl,kR,rfl,λS hS=>by rw [P3.mp hS];exact⟨λx hx=>by rw [P3.mp hx];exact hi,by show 1<=6;decide⟩,sb⟩ (λxC h' z=>hC _ _ z) ?_;clear kR sb;rintro t _ h4 ht ⟨a7,a8,a18,SS,rfl,kR,lS,gS,sb⟩;obtain⟨S,hS,aL⟩:=last_at (f:=jJ) (l:=SS) (by omega);have iS:=gS S hS;refine wz [some (.lst p),some (jA T),some (.int ((k+1:G8):P0)),some (.int (n:P0)),some (.lst B),some (.int (i:P0)),some (.lst R),some (.int (t:P0)),some (jJ S),a9,a10,a11,a12,a13,a14,a15,a16,a17,a18] (λC hC=>⟨_,rfl,_,_,kR,aL,hC⟩) ?_;refine⟨_,rfl,R,rfl,?_⟩;refine Ci (R6 n) (λj=> .int (j:P0)) (λj=> .int (j:P0)) (λj=>(S.map λi=>ent T j i).any λx=>decide (x>0)) (by rw [C6];omega) rfl (λR r=>⟨_,rfl,(n:P0),rfl,by omega,by omega,r⟩) (λj hj Q' q'=> ?_) (λj hj hp Q' q'=>⟨_,rfl,q'⟩) ?_
   ·refine⟨sz1,λp1 e1=> ?_⟩;refine lcA S (λi=> .int (i:P0)) (λi=> .int (ent T j i)) (by have:=iS.2;omega) rfl (λR r=>⟨_,rfl,r⟩) (λi hi Q'' q''=> ?_) (λp2 e2=> ?_)
    ·have hj':=S9.mp hj;exact⟨_,rfl,_,rfl,_,Ja hT hj',_,rfl,_,vb (hT.row _ (Sq.getRow hT hj')) (iS.1 i hi),q''⟩
    ·refine⟨_,_,je jc e2,jc,?_,λp3 e3=> ?_⟩
     ·simp only [G7,R1,N2];exact R9 (ju (by have:=iS.2;omega))
     refine⟨0::S.map (λi=>ent T j i),h4,by simp,Sub.newAt (Sub.newAt (Sub.newAt (Sub.refl h4) e1) e2) e3,.inr ⟨p3,rfl,?_⟩,λm m1 m2=>⟨_,rfl,?_⟩⟩
     ·rw [jc,B2,M7];rfl
     ·show Q' (decide (m>0)) h4;rw [Fi m1 m2];exact q'
   ·refine⟨_,kR,?_,_,Sub.refl _,ht,_,_,_,SS++ [(R6 n).filter λj=>(S.map λi=>ent T j i).any λx=>decide (x>0)],rfl,?_,by rw [P7,lS];rfl,λS' hS'=> ?_,Sub.over sb fR⟩
    ·rw [G7,lS];exact ju (by omega)
    ·rw [jc,J8];rfl
    ·rcases D5.mp hS' with z|z
     ·exact gS S' z
     ·rw [P3.mp z];refine⟨λx hx=>S9.mp (X5.mp hx).1,?_⟩;have:=U4 (λj=>(S.map λi=>ent T j i).any λx=>decide (x>0)) (R6 n);rw [C6] at this;omega
  clear kR sb;rintro _ h4 ⟨a7,a8,a18,SS,rfl,kR,lS,gS,sb⟩;refine⟨_,rfl,B,rfl,_,rfl,_,sb.ls _ _ kB,?_,_,Sub.refl _,hi,_,_,_,_,_,_,_,_,_,_,_,_,_,_,rfl,(bk.but (Zv sb)).snoc (sb.ls _ _ kB) (jh kp fR) (jh kB fR) kR lS gS,jj nB.symm (sb.ls _ _ kp),?_⟩
  ·rw [lrs];exact ju (by omega)
  ·exact(bt.trans (Zv sb)).putNew fB
 clear bk kp bt;rintro _ h2 ⟨a5,a6,a7,a8,a9,a10,a11,a12,a13,a14,a15,a16,a17,a18,rfl,bk,kp,bt⟩;refine jf (λxC h'=> ∃Wk,xC= [some (.lst p),some (jA T),some (.int ((k+1:G8):P0)),some (.int (n:P0)),some (.lst B),a5,a6,a7,a8,some (.lst Wk),a10,a11,a12,a13,a14,a15,a16,a17,a18]/\h2 Wk=none/\Wk≠p/\h' Wk=some []/\h' p=some [.int l,.int fl]/\Sub h2 h') (λC hC=>⟨sz0,λWk eW=>hC _ _ ⟨Wk,rfl,eW,jh kp eW,jc,je kp eW,.new eW⟩⟩) ?_;rintro _ h3 ⟨Wk,rfl,fW,nW,kW,kp3,sb⟩;refine jf (λxC h'=> ∃a5 a6 a7 a8 a10 a11 a12 a13 a14 a15 a16 a17 a18,∃ (ws:G0 D) (l2:P0),xC= [some (.lst p),some (jA T),some (.int ((k+1:G8):P0)),some (.int (n:P0)),some (.lst B),a5,a6,a7,a8,some (.lst Wk),a10,a11,a12,a13,a14,a15,a16,a17,a18]/\h' Wk=some ws/\ws.length=n/\(∀d∈ws,∀g,Nq 64 0 2 g d)/\h' p=some [.int l2,.int fl]/\0<=l2/\But p h2 h') (λC hC=> ?_) ?_
 ·refine yA n (λi xC h'=> ∃a5 a6 a7 a8 a10 a11 a12 a13 a14 a15 a16 a17 a18,∃ (ws:G0 D) (l2:P0),xC= [some (.lst p),some (jA T),some (.int ((k+1:G8):P0)),some (.int (n:P0)),some (.lst B),a5,a6,a7,a8,some (.lst Wk),a10,a11,a12,a13,a14,a15,a16,a17,a18]/\h' Wk=some ws/\ws.length=i/\(∀d∈ws,∀g,Nq 64 0 2 g d)/\h' p=some [.int l2,.int fl]/\0<=l2/\But p h2 h') (by omega) (λR r=>⟨_,rfl,r⟩) ⟨_,_,_,_,_,_,_,_,_,_,_,_,_,[],l,rfl,kW,rfl,(λd hd=>nomatch hd),kp3,h0,Zv sb⟩ (λxC h' z=>hC _ _ z) ?_;clear kp kp3 kW sb;rintro i _ h4 hi ⟨a5,a6,a7,a8,a10,a11,a12,a13,a14,a15,a16,a17,a18,ws,l2,rfl,kW,lW,gW,kp,l20,bt2⟩;refine jf (λxC h'=> ∃Ln,xC= [some (.lst p),some (jA T),some (.int ((k+1:G8):P0)),some (.int (n:P0)),some (.lst B),a5,a6,a7,a8,some (.lst Wk),some (.int (i:P0)),some (.lst Ln),a12,a13,a14,a15,a16,a17,a18]/\h4 Ln=none/\h' Ln=some []/\Ln≠p/\h' p=some [.int l2,.int fl]/\Sub h4 h') (λC hC=>⟨sz0,λLn eL=>hC _ _ ⟨Ln,rfl,eL,jc,jh kp eL,je kp eL,.new eL⟩⟩) ?_;rintro _ h5 ⟨Ln,rfl,fL,kL,nL,kp5,sb4⟩;refine jf (λxC h'=> ∃a5 a6 a7 a8 a12 a13 a14 a15 a16 a17 a18,∃ (ls:G0 D) (l2:P0),xC= [some (.lst p),some (jA T),some (.int ((k+1:G8):P0)),some (.int (n:P0)),some (.lst B),a5,a6,a7,a8,some (.lst Wk),some (.int (i:P0)),some (.lst Ln),a12,a13,a14,a15,a16,a17,a18]/\h' Ln=some ls/\ls.length=n/\(∀d∈ls,∀g,Nq 64 0 1 g d)/\h' p=some [.int l2,.int fl]/\0<=l2/\But p h4 h') (λC hC=> ?_) ?_
  ·refine yA n (λu xC h'=> ∃a5 a6 a7 a8 a12 a13 a14 a15 a16 a17 a18,∃ (ls:G0 D) (l2:P0),xC= [some (.lst p),some (jA T),some (.int ((k+1:G8):P0)),some (.int (n:P0)),some (.lst B),a5,a6,a7,a8,some (.lst Wk),some (.int (i:P0)),some (.lst Ln),a12,a13,a14,a15,a16,a17,a18]/\h' Ln=some ls/\ls.length=u/\(∀d∈ls,∀g,Nq 64 0 1 g d)/\h' p=some [.int l2,.int fl]/\0<=l2/\But p h4 h') (by omega) (λR r=>⟨_,rfl,r⟩) ⟨_,_,_,_,_,_,_,_,_,_,_,[],l2,rfl,kL,rfl,(λd hd=>nomatch hd),kp5,l20,Zv sb4⟩ (λxC h' z=>hC _ _ z) ?_;clear kL kp5 sb4;rintro u _ h6 hu ⟨a5,a6,a7,a8,a12,a13,a14,a15,a16,a17,a18,ls,l3,rfl,kL,lL,gL,kp6,l30,bt4⟩;have bk6:=bk.but (bt2.trans bt4);refine wz [some (.lst p),some (jA T),some (.int ((k+1:G8):P0)),some (.int (n:P0)),some (.lst B),a5,a6,a7,a8,some (.lst Wk),some (.int (i:P0)),some (.lst Ln),some (.int (u:P0)),some (jJ [i]),a14,a15,a16,a17,a18] (λC hC=>⟨_,rfl,sz1,hC⟩) ?_;obtain⟨nB,rs,kB,lrs,grs⟩:=bk6;have hul:u<rs.length:=by omega
   obtain⟨R,SS,eR,nR,nRB,kR,lS,gS⟩:=grs rs[u] (B6 hul);have atu:atI rs (u:P0)=some (.lst R):=wt (by rw [G5 hul,eR]);refine jf (λxC h'=> ∃a5 a14 a15,∃wk:G0 G8,∃l2,xC= [some (.lst p),some (jA T),some (.int ((k+1:G8):P0)),some (.int (n:P0)),some (.lst B),a5,a6,a7,a8,some (.lst Wk),some (.int (i:P0)),some (.lst Ln),some (.int (u:P0)),some (jJ wk),a14,a15,a16,a17,a18]/\(∀x∈wk,x<n)/\wk.length<=64/\h' p=some [.int l2,.int fl]/\0<=l2/\But p h6 h') (λC hC=> ?_) ?_
   ·refine⟨_,rfl,_,rfl,_,_,kB,atu,_,rfl,_,kR,λP1 e1=>⟨P1,_,rfl,jc,λP2 e2=> ?_⟩⟩;generalize hLL:(vM (SS.map jJ) none (some (-1))).reverse=LL;have gLL: ∀d∈LL,∃S,d=jJ S/\IsP n S:=λd hd=>by
     rw [<-hLL] at hd;obtain⟨S,hS,rfl⟩:=N6.mp (VX (E2.mp hd));exact⟨S,rfl,gS S hS⟩
    have lLL:LL.length<=61:=by
     rw [<-hLL,M6];exact T6 VY (by rw [G7];omega)
    refine va LL (λt xC h'=> ∃a5 a14 a15,∃wk:G0 G8,∃l2,xC= [some (.lst p),some (jA T),some (.int ((k+1:G8):P0)),some (.int (n:P0)),some (.lst B),a5,a6,a7,a8,some (.lst Wk),some (.int (i:P0)),some (.lst Ln),some (.int (u:P0)),some (jJ wk),a14,a15,a16,a17,a18]/\wk.length=t+1/\(∀x∈wk,x<n)/\h' P2=some LL/\P2≠p/\h' p=some [.int l2,.int fl]/\0<=l2/\But p h6 h') (λt xC h' ⟨_,_,_,_,_,_,_,_,k,_⟩=>k) ⟨_,_,_,[i],l3,rfl,rfl,(λx hx=>by rw [P3.mp hx];exact hi),jc,jh (je kp6 e1) e2,je (je kp6 e1) e2,l30,((But.refl p h6).new e1).new e2⟩ (λxC h' ⟨x5,x14,x15,wk,l2,e,lw,gw,_,_,kp,l0,b⟩=>hC _ _ ⟨x5,x14,x15,wk,l2,e,gw,by omega,kp,l0,b⟩) ?_;rintro t d _ h7 ht ⟨a5,a14,a15,wk,l4,rfl,lw,gw,kLL,nP,kp,l40,bt6⟩;obtain⟨S,rfl,iS⟩:=gLL d (P6 ht);have tl:=(P9.mp ht).1;obtain⟨w,hw,aw⟩:=last_at (f:=(λ(k:G8)=>D.int (k:P0))) (l:=wk) (by omega);have wn:=gw w hw;have gft: ∀x∈S.filter (λj=>decide (ent T w j>0)),x<n:=λx hx=>iS.1 x (X5.mp hx).1
    have lft:=T6 (U4 (λj=>decide (ent T w j>0)) S) iS.2;refine jf (λxC h'=> ∃F,xC= [some (.lst p),some (jA T),some (.int ((k+1:G8):P0)),some (.int (n:P0)),some (.lst B),a5,a6,a7,a8,some (.lst Wk),some (.int (i:P0)),some (.lst Ln),some (.int (u:P0)),some (jJ wk),some (jJ S),some (.lst F),a16,a17,a18]/\h' F=some ((S.filter λj=>decide (ent T w j>0)).map (λ(k:G8)=>D.int (k:P0)))/\Sub h7 h') (λC' hC'=>SU (j:=λ_=>some (S.map (λ(k:G8)=>D.int (k:P0)))) S (λ(k:G8)=>D.int (k:P0)) (λ(k:G8)=>D.int (k:P0)) (λj=>decide (ent T w j>0)) (by have:=iS.2;omega) rfl (λR r=>⟨_,rfl,r⟩) (λj hj Q' q'=>⟨_,rfl,_,rfl,_,aw,_,Ja hT wn,_,rfl,_,vb (hT.row _ (Sq.getRow hT wn)) (iS.1 j hj),_,rfl,q'⟩) (λj hj _ Q' q'=>⟨_,rfl,q'⟩) (λF eF=>hC' _ _ ⟨F,rfl,jc,.new eF⟩)) ?_;generalize S.filter (λj=>decide (ent T w j>0))=f0 at gft lft;rintro _ h8 ⟨F,rfl,kF,sb7⟩;have kp8:=sb7.ls _ _ kp;refine jf (λxC h'=> ∃F,∃ft:G0 G8,xC= [some (.lst p),some (jA T),some (.int ((k+1:G8):P0)),some (.int (n:P0)),some (.lst B),a5,a6,a7,a8,some (.lst Wk),some (.int (i:P0)),some (.lst Ln),some (.int (u:P0)),some (jJ wk),some (jJ S),some (.lst F),a16,a17,a18]/\h' F=some (ft.map (λ(k:G8)=>D.int (k:P0)))/\ft≠ []/\(∀x∈ft,x<n)/\ft.length<=7/\F≠p/\Sub h7 h') (λC' hC'=>⟨_,rfl,sz1,λZ eZ=>⟨_,rfl,sz0,λY eY=>CT (je (je kF eZ) eY) jc ?_⟩⟩) ?_
    ·by_cases z:f0= []
     ·rw [D0 z];refine⟨_,je jc eY,by decide,by decide,by decide,λM eM=>⟨_,_,je (je (je kF eZ) eY) eM,jc,?_,λU eU=>hC' _ _ ⟨U,[0],rfl,?_,(λe=>by cases e),(λx hx=>by rw [P3.mp hx];omega),(by decide),jh (je (je (je kp8 eZ) eY) eM) eU,(((sb7.newAt eZ).newAt eY).newAt eM).newAt eU⟩⟩⟩
      ·rw [z];show 0+1<=sizeLine;decide
      ·rw [jc,z];rfl
     ·rw [D1 z];refine⟨_,je jc eY,by decide,by decide,by decide,λM eM=>⟨_,_,je (je (je kF eZ) eY) eM,jc,?_,λU eU=>hC' _ _ ⟨U,f0,rfl,?_,z,gft,by omega,jh (je (je (je kp8 eZ) eY) eM) eU,(((sb7.newAt eZ).newAt eY).newAt eM).newAt eU⟩⟩⟩
      ·rw [G7];exact R9 (ju (show f0.length+0<=1000 by omega))
      ·rw [jc];exact congrArg some (J6 _)
    clear kF sb7 kp8;rintro _ h9 ⟨F,ft,rfl,kF,nf,gf,lf,nF,sb7⟩;refine⟨_,rfl,_,rfl,_,rfl,_,rfl,_,kF,p,l4,fl,_,rfl,sb7.ls _ _ kp,l40,?_,?_,λr l5 r0 r1 l50=> ?_⟩
    ·rw [G7];have:=E7.mpr nf;omega
    ·rw [G7];exact cJ (show (ft.length:P0)<=7 by omega) (by decide)
    obtain⟨d,hd,ed⟩:=wT (xs:=ft.map (λ(k:G8)=>D.int (k:P0))) r0 r1;obtain⟨x,hx,rfl⟩:=N6.mp hd;have ew:jJ (wk++ [x])= .tup ((wk.map (λ(k:G8)=>D.int (k:P0)))++ [.int (x:P0)]):=by unfold jJ;rw [J8];rfl
    refine⟨_,_,jj nF kF,ed,sz1,?_,_,Sub.refl _,tl,a5,_,_,wk++ [x],l5,by rw [ew];rfl,by rw [P7,lw];rfl,(λy hy=>(D5.mp hy).elim (gw y) λz=>by rw [P3.mp z];exact gf x hx),jj nP (sb7.ls _ _ kLL),nP,jc,l50,(bt6.trans (Zv sb7)).put⟩;rw [G7];exact R9 (ju (show wk.length+1<=1000 by omega))
   rintro _ h7 ⟨a5,a14,a15,wk,l4,rfl,gw,lw,kp7,l40,bt6⟩;refine⟨_,rfl,Ln,rfl,_,rfl,_,bt6.ls _ _ nL kL,?_,_,Sub.refl _,hu,_,_,_,_,_,_,_,_,_,_,_,ls++ [jJ wk],l4,rfl,jc,by rw [P7,lL];rfl,(λd hd g=>(D5.mp hd).elim (λz=>gL d z g) λz=>by rw [P3.mp z];exact NL lw λx hx=>by have:=gw x hx;omega),jj (K6 nL) kp7,l40,(bt4.trans bt6).putNew fL⟩;rw [lL];exact ju (by omega)
  clear kL kp5 sb4;rintro _ h6 ⟨a5,a6,a7,a8,a12,a13,a14,a15,a16,a17,a18,ls,l3,rfl,kL,lL,gL,kp6,l30,bt4⟩;refine⟨_,rfl,Wk,rfl,_,rfl,_,kL,_,bt4.ls _ _ nW kW,?_,_,Sub.refl _,hi,_,_,_,_,_,_,_,_,_,_,_,_,_,ws++ [.tup ls],l3,rfl,jc,by rw [P7,lW];rfl,(λd hd g=>(D5.mp hd).elim (λz=>gW d z g) λz=>by rw [P3.mp z];exact wF (by omega) λx hx=>gL x hx g),jj (K6 nW) kp6,l30,(bt2.trans bt4).putNew fW⟩;rw [lW];exact ju (by omega)
 clear kp kp3 kW sb bk;rintro _ h4 ⟨a5,a6,a7,a8,a10,a11,a12,a13,a14,a15,a16,a17,a18,ws,l2,rfl,kW,lW,gW,kp,l20,bt2⟩;have g4: ∀g:D,(∀h,Nq 64 0 3 h g)-> ∀h,Nq 64 0 4 h (.tup [.int ((k+1:G8):P0),.tup ws,g]):=λg hg h=>wF (by show 3<=64;decide) λx hx=>by
  simp only [D2,T9,or_false] at hx;rcases hx with e|e|e<;>subst e
  ·exact Nq.at (wM (by omega)) _
  ·exact wF (by omega) λd hd=>gW d hd h
  ·exact hg h
 refine jf (λxC h'=> ∃a5 a6 a7 a8 a10 a11 a12 a13 a14 a15 a16 a17 a18,∃l2:P0,xC= [some (.lst p),some (jA T),some (.int ((k+1:G8):P0)),some (.int (n:P0)),some (.lst B),a5,a6,a7,a8,some (.lst Wk),a10,a11,a12,a13,a14,a15,a16,a17,a18]/\h' Wk=some ws/\h' p=some [.int l2,.int fl]/\0<=l2/\But p h4 h') (λC hC=> ?_) ?_
 ·refine yA n (λi xC h'=> ∃a5 a6 a7 a8 a10 a11 a12 a13 a14 a15 a16 a17 a18,∃l2:P0,xC= [some (.lst p),some (jA T),some (.int ((k+1:G8):P0)),some (.int (n:P0)),some (.lst B),a5,a6,a7,a8,some (.lst Wk),a10,a11,a12,a13,a14,a15,a16,a17,a18]/\h' Wk=some ws/\h' p=some [.int l2,.int fl]/\0<=l2/\But p h4 h') (by omega) (λR r=>⟨_,rfl,r⟩) ⟨_,_,_,_,_,_,_,_,_,_,_,_,_,l2,rfl,kW,kp,l20,But.refl p h4⟩ (λxC h' z=>hC _ _ z) ?_;clear kW kp l20;rintro i _ h5 hi ⟨a5,a6,a7,a8,a10,a11,a12,a13,a14,a15,a16,a17,a18,l3,rfl,kW,kp,l30,bt4⟩;refine jf (λxC h'=> ∃G,xC= [some (.lst p),some (jA T),some (.int ((k+1:G8):P0)),some (.int (n:P0)),some (.lst B),a5,a6,a7,a8,some (.lst Wk),some (.int (i:P0)),a11,a12,a13,a14,a15,some (.lst G),a17,a18]/\h5 G=none/\h' G=some ([[i]].map jJ)/\Sub h5 h') (λC hC=>⟨_,rfl,sz1,sz1,λG eG=>hC _ _ ⟨G,rfl,eG,jc,.new eG⟩⟩) ?_;rintro _ h6 ⟨G,rfl,fG,kG,sb⟩;refine jf (λxC h'=> ∃a7,∃SS:G0 (G0 G8),xC= [some (.lst p),some (jA T),some (.int ((k+1:G8):P0)),some (.int (n:P0)),some (.lst B),a5,a6,a7,a8,some (.lst Wk),some (.int (i:P0)),a11,a12,a13,a14,a15,some (.lst G),a17,a18]/\h' G=some (SS.map jJ)/\SS.length=k+1/\(∀S∈SS,IsS n S)/\Sub h5 h') (λC hC=> ?_) ?_
  ·refine yA k (λt xC h'=> ∃a7,∃SS:G0 (G0 G8),xC= [some (.lst p),some (jA T),some (.int ((k+1:G8):P0)),some (.int (n:P0)),some (.lst B),a5,a6,a7,a8,some (.lst Wk),some (.int (i:P0)),a11,a12,a13,a14,a15,some (.lst G),a17,a18]/\h' G=some (SS.map jJ)/\SS.length=t+1/\(∀S∈SS,IsS n S)/\Sub h5 h') (by omega) (λR r=>⟨_,rfl,by show R [.int (((k+1:G8):P0)-1)] _;rw [show ((k+1:G8):P0)-1=(k:P0) by omega];exact r⟩) ⟨_,[[i]],rfl,kG,rfl,(λS hS=>by rw [P3.mp hS];exact CY hi),sb⟩ (λxC h' z=>hC _ _ z) ?_;clear kG sb;rintro t _ h7 ht ⟨a7,SS,rfl,kG,lS,gS,sb⟩;obtain⟨S,hS,aL⟩:=last_at (f:=jJ) (l:=SS) (by omega);refine⟨_,rfl,G,rfl,_,rfl,_,rfl,_,_,kG,aL,T,S,n,b,rfl,hT,gS S hS,n6,_,kG,?_,_,Sub.refl _,ht,_,SS++ [WD n T S],rfl,?_,by rw [P7,lS];rfl,(λS' hS'=>(D5.mp hS').elim (gS S') λz=>by rw [P3.mp z];exact Qe n T S),Sub.over sb fG⟩
   ·rw [G7,lS];exact ju (by omega)
   ·rw [jc,J8];rfl
  clear kG sb;rintro _ h7 ⟨a7,SS,rfl,kG,lS,gS,sb⟩;obtain⟨S,hS,aL⟩:=last_at (f:=jJ) (l:=SS) (by omega);have nG:=jh kp fG;have glf: ∀x∈(R6 n).filter (λj=>true !=decide (j∈S)),x<n:=λx hx=>S9.mp (X5.mp hx).1
  have llf:=U4 (λj=>true !=decide (j∈S)) (R6 n);rw [C6] at llf;refine jf (λxC h'=> ∃F,xC= [some (.lst p),some (jA T),some (.int ((k+1:G8):P0)),some (.int (n:P0)),some (.lst B),a5,a6,a7,a8,some (.lst Wk),some (.int (i:P0)),a11,a12,a13,a14,a15,some (.lst G),some (.lst F),a18]/\h' F=some (((R6 n).filter λj=>true !=decide (j∈S)).map (λ(k:G8)=>D.int (k:P0)))/\F≠p/\Sub h7 h') (λC' hC'=>SU (j:=λ_=>some ((R6 n).map (λ(k:G8)=>D.int (k:P0)))) (R6 n) (λ(k:G8)=>D.int (k:P0)) (λ(k:G8)=>D.int (k:P0)) (λj=>true !=decide (j∈S)) (by rw [C6];omega) rfl (λR r=>⟨_,rfl,(n:P0),rfl,by omega,by omega,r⟩) (λj hj Q' q'=>⟨_,rfl,_,rfl,_,_,kG,aL,Ya ⟨_,rfl,q'⟩⟩) (λj hj _ Q' q'=>⟨_,rfl,q'⟩) (λF eF=>hC' _ _ ⟨F,rfl,jc,jh (sb.ls _ _ kp) eF,.new eF⟩)) ?_;generalize (R6 n).filter (λj=>true !=decide (j∈S))=lf at glf llf;rintro _ h8 ⟨F,rfl,kF,nF,sb7⟩;have s8:=sb.trans sb7;have kp8:=s8.ls _ _ kp;have kW8:=s8.ls _ _ kW;have b8:=bt4.trans (Zv s8);refine⟨_,rfl,_,rfl,?_⟩;show if decide (((k+1:G8):P0)>1)=true then _ else _
  by_cases z: ¬ ((k+1:G8):P0)>1
  ·rw [D1 z];exact jH (jH ⟨_,Sub.refl _,hi,_,_,_,_,_,_,_,_,_,_,_,_,_,l3,rfl,kW8,kp8,l30,b8⟩)
  rw [D0 (uG.mp z)];refine jw ⟨_,rfl,sz0,λY eY=>Fj (je kF eY) jc ⟨_,rfl,?_⟩⟩;cases ee:lf.isEmpty with
  |true=>exact jH ⟨_,Sub.refl _,hi,_,_,_,_,_,_,_,_,_,_,_,_,_,l3,rfl,je kW8 eY,je kp8 eY,l30,b8.new eY⟩
  |false=>
   have e0:0<lf.length:=E7.mpr λz=>by rw [z] at ee;cases ee
   refine jw ⟨_,rfl,_,rfl,_,je kW8 eY,_,rfl,_,rfl,_,rfl,_,rfl,_,je kF eY,p,l3,fl,_,rfl,je kp8 eY,l30,?_,?_,λr l4 r0 r1 l40=> ?_⟩
   ·rw [G7];omega
   ·rw [G7];exact cJ (show (lf.length:P0)<=6 by omega) (by decide)
   obtain⟨d,hd,ed⟩:=wT (xs:=lf.map (λ(k:G8)=>D.int (k:P0))) r0 r1;obtain⟨x,hx,rfl⟩:=N6.mp hd;have xn:=glf x hx;refine⟨_,_,jj nF (je kF eY),ed,_,rfl,_,jj nG (je (sb7.ls _ _ kG) eY),sz3,sz3,_,Sub.refl _,q _ l4 _ (g4 _ λh=>wF (by show 3<=64;decide) λy hy=> ?_) ⟨_,_,rfl⟩ (((bt.trans bt2).trans b8).new eY).put jc l40⟩;simp only [D2,T9,or_false] at hy;rcases hy with e|e|e<;>subst e
   ·exact Nq.at (wM (by omega)) _
   ·exact Nq.at (wM (by omega)) _
   ·refine wF (by rw [G7];omega) λd hd=> ?_
    obtain⟨S',hS',rfl⟩:=N6.mp hd;exact NL (by have:=(gS S' hS').len;omega) λv hv=>by have:=(gS S' hS').lt hv;omega
 clear kW kp l20;rintro _ h5 ⟨a5,a6,a7,a8,a10,a11,a12,a13,a14,a15,a16,a17,a18,l3,rfl,kW,kp,l30,bt4⟩;exact⟨_,rfl,_,rfl,_,kW,sz3,_,Sub.refl _,q _ l3 _ (g4 _ λh=>Nq.at Xe _) ⟨_,_,rfl⟩ ((bt.trans bt2).trans bt4) kp l30⟩
theorem Fk (pr:Prt k h (.tup es))(hk:k<=40)(q:Q (.bl (!es.isEmpty)) h):neE (.tup es) (.tup []) h Q:=by
 obtain⟨ps,tp,sp⟩:=pr.shp hk;refine⟨.tuple ps,.tuple [],⟨_,rfl,tp⟩,⟨_,rfl,rfl⟩,sp,by decide,?_⟩;have:F4 (.tuple ps) (.tuple [])=es.isEmpty:=by
  cases es with
  |nil=>cases ps with|nil=>rfl|cons p ps=>obtain⟨d,r,e,_⟩:=(show ∃d r,([]:G0 D)=d::r/\ToP h d p/\ToPs h r ps from tp);cases e
  |cons x es=>cases ps with|nil=>cases (show x::es= [] from tp)|cons p ps=>rfl
 rw [this];exact q
theorem Fl (d:D)(hd:d∈ [D.non,D.bl true,D.int 0,D.int 1,D.int 2,D.int 3,D.int (-1),D.str (K7 "0"),D.tup [D.int 0],D.int 9])(g:HD)(j:G8):Nq 200 9 (j+1) g d:=by
 simp only [D2,T9,or_false] at hd;rcases hd with e|e|e|e|e|e|e|e|e|e<;>subst e
 ·exact .inl Xe
 ·exact .inl (Sf true)
 ·exact .inl (wM (by decide))
 ·exact .inl (wM (by decide))
 ·exact .inl (wM (by decide))
 ·exact .inl (wM (by decide))
 ·exact .inl (wM (by decide))
 ·exact .inl ⟨⟨rfl,.str (K7 "0"),rfl,by decide +kernel,N3 _⟩,(λes e=>by cases e),(λi e=>by cases e)⟩
 ·exact wF (by decide) λx hx=>by rw [P3.mp hx];exact Nq.at (wM (by decide)) _
 ·exact .inl (wM (by decide))
def jy:G8->RDn
 |0=>λ_ _ _=>False
 |k+1=>λds h Q=> ∃p l fl d,∃t j:G8,ds= [.lst p,d,.int (t:P0)]/\h p=some [.int l,.int fl]/\0<=l/\t<=k/\j<=4/\(∀g,Nq 64 0 j g d)/\ ∀x l' h',Nq 200 9 (j+1) (vH h' p) x->But p h h'->h' p=some [.int l',.int fl]->0<=l'->Q x h'
theorem zk (Z:Zs mg)(F:Fun K "_law_bent_in" "_law_bent_in" wZ f fd)(ji:jp P w K mg base n "_law_draw" ["_law_pen_here","_law_many"] jT)(ya:jp P w K mg base n "_law_bent_in" ["_law_pen_here","_law_thing","_law_deep"] (jy k)):FnOk P w K mg base CX0 (n+1) f fd ["_law_pen_here","_law_thing","_law_deep"] (LSp K (jy (k+1))):=by
 refine F.okM wE (λhr=>(js3 (Fz (jpt (Mg (zh (yi (T:= "tuple") (by decide) rfl Z.isinstance rfl Z.tuple (by decide +kernel) (jv 1))) (Mg (jt1 (Qy hr.units) (jv 1) (jX jS)) (Mg (jt1 Vo (jv 2) jl) (OD (jt1 Vo (jk ji hr (j2 (jv 0) jl)) jl)))))) (js2 (jse 3 wE (jk ji hr (j2 (jv 0) (Jo Z (jv 1))))) (zf (jop jI (jop jI (yj (jv 1) zY (zP (jv 3))) (jX (j1 (jk ya hr (j3 (jv 0) (ji1 (jv 1) (jv 3)) (jop YM (jv 2) jl)))))) (yj (jv 1) (zP (jop jI (jv 3) jl)) zY)))) YQ) (Fz (zh (yi (T:= "tuple") (by decide) rfl Z.isinstance rfl Z.tuple (by decide +kernel) (jv 1))) (js2 (jse 4 wE (yh (jac (yj (jv 1) (zP jl) zY) (by exact(jac (yj (jv 1) zY (zP (QB jl))) (by exact(jac (jop jI (jv 1) (yj (jv 1) (zP (QB jl)) zY)) (by exact(jac (TJ (jv 1)) (by exact(j4 (zb BT rfl Z.list (by decide +kernel) (j1 (jv 1))) Gy (jX jS) (jop jI (jv 1) (jX (j1 jl)))))))))))))) (zf (ji1 (jv 4) (jk ji hr (j2 (jv 0) jl))))) YQ) (zf (ji1 (yh (jac Gy (by exact(jac jbl (by exact(jac jl (by exact(jac jl (by exact(jac jl (by exact(jac jl (by exact(j4 (QB jl) Wy (jX (j1 jl)) jl)))))))))))))) (jk ji hr (j2 (jv 0) jl)))))) ?_;rintro ds h Q ⟨p,l,fl,d,t,j,rfl,hp,h0,tk,j4,nq,q⟩;refine⟨rfl,?_⟩;obtain⟨nm,hn⟩:=jx ((nq h).prt (by decide)).1;cases d with
 |tup es=>
  cases hn;obtain⟨j,rfl,le,ge⟩: ∃j',j=j'+1/\es.length<=64/\ ∀g,∀x∈es,Nq 64 0 j' g x:=by
   obtain⟨j',e,l,g0⟩:=(nq h).tup;refine⟨j',e,l,λg x hx=> ?_⟩;obtain⟨j2,e2,_,g2⟩:=(nq g).tup;have:j'=j2:=by omega
   subst this;exact g2 x hx
  have nE:okN 64 es:=⟨le,λx hx=>((ge h x hx).prt (by decide)).1⟩;have lc: ∀ (lo hi:P8 P0),(vM es lo hi).length<=64:=λlo hi=>T6 VY le
  have gw: ∀g,∀x∈es,Nq 200 9 (j+1) g x:=λg x hx=>(ge g x hx).mono (by decide) (by decide) (Sub.refl g) (by omega)
  have gc: ∀ (lo hi:P8 P0) (g:HD),∀x∈vM es lo hi,Nq 200 9 (j+1) g x:=λlo hi g x hx=>gw g x (VX hx)
  refine jf (λxC h'=> ∃l2,xC= [some (.lst p),some (.tup es),some (.int (t:P0)),none,none]/\0<=l2/\h' p=some [.int l2,.int fl]/\But p h h') (λC hC=>⟨_,rfl,"tuple",rfl,_,rfl,jw ⟨_,rfl,by decide,Fk ((nq h).prt (by decide)) (by omega) ⟨_,rfl,?_⟩⟩⟩) ?_
  ·have skip:C [some (.lst p),some (.tup es),some (.int (t:P0)),none,none] h:=hC _ _ ⟨l,rfl,h0,hp,But.refl p h⟩;cases ee:es.isEmpty with
   |true=>exact jH skip
   |false=>
    refine jw ⟨_,rfl,_,rfl,?_⟩;show if decide ((t:P0)>0)=true then _ else _
    by_cases t0: ¬0<t
    ·rw [D1 (show ¬ (t:P0)>0 by omega)];exact jH skip
    rw [D0 (show (t:P0)>0 by omega)];refine jw ⟨_,rfl,p,l,fl,5,rfl,hp,h0,by decide,by decide,λr l2 r0 r1 l20=>⟨_,rfl,?_⟩⟩;show if decide (r>0)=true then _ else _
    by_cases r2: ¬r>0
    ·rw [D1 r2];exact jH (hC _ _ ⟨l2,rfl,l20,jc,But.upd⟩)
    rw [D0 (show r>0 by omega)];refine jw ?_;have e0:0<es.length:=E7.mpr λz=>by rw [z] at ee;cases ee
    refine jf (λxC h'=> ∃ (a:G8) (l2:P0),xC= [some (.lst p),some (.tup es),some (.int (t:P0)),some (.int (a:P0)),none]/\a<es.length/\0<=l2/\h' p=some [.int l2,.int fl]/\But p h h') (λC' hC'=>⟨_,rfl,_,rfl,p,l2,fl,_,rfl,jc,l20,(show 0<((es.length:G8):P0) by omega),cJ (show ((es.length:G8):P0)<=64 by omega) (by decide),λa l3 a0 a1 l30=> ?_⟩) ?_
    ·obtain⟨a',rfl⟩:=cT a0;exact hC' _ _ ⟨a',l3,rfl,by omega,l30,jc,But.upd.put⟩
    rintro _ h3 ⟨a,l3,rfl,al,l30,kp,bt⟩;obtain⟨k,rfl⟩: ∃k',k=k'+1:=⟨k-1,by omega⟩;have hx:atI es (a:P0)=some es[a]:=wt (G5 al);refine⟨_,rfl,_,rfl,_,rfl,_,rfl,_,rfl,_,rfl,_,hx,_,rfl,p,l3,fl,es[a],t-1,j,by rw [show (t:P0)-1=((t-1:G8):P0) by omega],kp,l30,by omega,by omega,λg=>ge g _ (B6 al),λy l4 h4 ny bt4 kp4 l40=> ?_⟩;have okO:okN 1 [y]:=okN.one (ny.prt (by decide)).1;refine⟨sz1,(nE.cut _ _).sz okO,_,rfl,_,rfl,_,rfl,((nE.cut _ _).app okO).sz (nE.cut _ _),_,Sub.refl _,q _ l4 h4 (wF ?_ λx hx=> ?_) (bt.trans bt4) kp4 l40⟩
    ·have:=lc none (some (a:P0));have:=lc (some ((a:P0)+1)) none;rw [P7,P7,X3];omega
    ·rcases D5.mp hx with z|z
     ·rcases D5.mp z with z|z
      ·exact gc _ _ _ x z
      ·rw [P3.mp z];exact ny
     ·exact gc _ _ _ x z
  rintro _ h2 ⟨l2,rfl,l20,kp,bt⟩;refine jf (λ_ _=>False) (λC hC=>⟨_,rfl,"tuple",rfl,_,rfl,jw ?_⟩) (λ_ _ z=>z.elim);have nZ:okN 1 [D.int 0]:=okN.one rfl;refine jf (λxC h'=> ∃R pL xs,xC= [some (.lst p),some (.tup es),some (.int (t:P0)),none,some (.lst R)]/\h' R=some xs/\xs.length=8/\(∀d∈xs,∀g:HD,g pL=some es->Nq 200 9 (j+2) g d)/\h' pL=some es/\pL≠p/\R≠p/\0<=l2/\h' p=some [.int l2,.int fl]/\But p h h') (λC hC=> ?_) ?_
  ·refine⟨_,rfl,_,rfl,_,rfl,_,rfl,_,rfl,_,rfl,_,rfl,(nE.sz (nE.cut _ _)),_,rfl,_,rfl,_,rfl,λpL eL=>⟨sz0,_,rfl,sz1,nE.sz nZ,(by show 8<=sizeLine;decide),λR eR=>hC _ _ ⟨R,pL,_,rfl,jc,rfl,?_,je jc eR,jh kp eL,jh (je kp eL) eR,l20,je (je kp eL) eR,(bt.new eL).new eR⟩⟩⟩;intro d hd g hg;simp only [D2,T9,or_false] at hd;rcases hd with e|e|e|e|e|e|e|e<;>subst e
   ·exact wF (T6 (lc _ _) (by decide)) λx hx=>gc _ _ _ x hx
   ·exact wF (T6 (lc _ _) (by decide)) λx hx=>gc _ _ _ x hx
   ·refine wF ?_ λx hx=>(D5.mp hx).elim (gw g x) (gc _ _ _ x)
    have:=lc (some (-1)) none;rw [P7];omega
   ·exact wF (by rw [M6];omega) λx hx=>gw g x (E2.mp hx)
   ·obtain⟨ps,ts,cs,gs,dd⟩:=Se (k:=j) (h:=g) (ds:=es) λy hy=>by have:=(ge g y hy).prt (by decide);rwa [aB] at this
    exact .inl ⟨⟨rfl,.list ps,⟨pL,es,rfl,hg,ts⟩,cs,(show L5 ps+1<=9 by omega)⟩,(λes e=>by cases e),(λi e=>by cases e)⟩
   ·exact .inl Xe
   ·exact wF (N3 _) λx hx=>nomatch hx
   ·refine wF ?_ λx hx=>(D5.mp hx).elim (gw g x) λz=>by rw [P3.mp z];exact Nq.at (wM (by decide)) _
    rw [P7,X3];omega
  clear l20 kp bt;rintro _ h3 ⟨R,pL,xs,rfl,kR,lx,gx,kL,nL,nR,l20,kp,bt⟩;refine⟨_,rfl,_,rfl,p,l2,fl,8,rfl,kp,l20,by decide,by decide,λr l3 r0 r1 l30=> ?_⟩;obtain⟨d,hd,ed⟩:=wT (xs:=xs) r0 (by rw [lx];exact r1);exact⟨_,d,jj nR kR,ed,_,Sub.refl _,q d l3 _ (gx d hd _ (DO nL (jj nL kL))) bt.put jc l30⟩
 |_=>
  cases hn<;>(
   refine wz [some (.lst p),some _,some (.int (t:P0)),none,none] (λC hC=>⟨_,rfl,_,rfl,_,rfl,jH (hC)⟩) ?_;refine wz [some (.lst p),some _,some (.int (t:P0)),none,none] (λC hC=>⟨_,rfl,_,rfl,_,rfl,jH (hC)⟩) ?_;refine⟨sz1,(by show 10<=sizeLine;decide),λp1 e1=>⟨_,rfl,p,l,fl,10,rfl,je hp e1,h0,by decide,by decide,λr l2 r0 r1 l20=> ?_⟩⟩;obtain⟨d,hd,ed⟩:=wT (xs:= [D.non,D.bl true,D.int 0,D.int 1,D.int 2,D.int 3,D.int (-1),D.str (K7 "0"),D.tup [D.int 0],D.int 9]) r0 r1;exact⟨_,d,jj (jh hp e1) jc,ed,_,Sub.refl _,q d l2 _ (Fl d hd _ j) ((But.refl p h).new e1).put jc l20⟩)
def Aq:RDn:=λds h Q=>match ds with
 | [.int i,.int j]=>Q (.int (if j<i then j else i)) h
 |_=>False
theorem Fm {X:Cx}(hc:X.calm=true):ye X (.builtin "min") Aq:=(Pv hc).imp λxs H Q ⟨ds,h,Qd,r,rh,q,p⟩=>by
 unfold Aq at q;split at q
 ·rename_i i j;obtain⟨v,w,e,r1,r2⟩:=zM r;cases (show v= .int i from r1);cases (show w= .int j from r2);exact⟨i,j,e,p (.int _) _ _ _ (.refl H) rh rfl q⟩
 ·exact q.elim
/-- a mH over a list whose part changes the heap -/
theorem Fn {i:G8}{js:G0 G8}{ti:TID}{te:TED}{σ:SD}(ds:G0 D)(V:G9->HD->Prop)(W:G9->G8->G0 D->HD->Prop)(hn:ds.length<=1000)(ht: ∀R:ItD->HD->Prop,(∀A h1,V A h1->R (λh=>h A) h1)->ti σ h R)
 (w0: ∀A h1,V A h1->W A 0 [] h1)(wl: ∀A k ys h',W A k ys h'->ys.length<=k/\h' A=some ds)(turn: ∀A k ys h' d,ds[k]? =some d->W A k ys h'->te ((jO js σ).set i (some d)) h' λy h4=> ∃h5,Sub h5 h4/\(k+1<=ds.length/\W A (k+1) (ys++ [y]) h5))
 (done: ∀A ys h',W A ds.length ys h'-> ∀p,h' p=none->Q (.lst p) (zV h' p ys)):Jm (bN i) js ti vI te σ h Q:=by
 refine ht _ λA h1 hV=>⟨ds.length,λk ys h'=>k<=ds.length/\W A k ys h',⟨N3 _,w0 A h1 hV⟩,?_⟩
 rintro k ys h' ⟨hk,w⟩;obtain⟨l,kA⟩:=wl A k ys h' w;refine⟨T6 l (R9 (ju (by omega))),ds,kA,P4 _,λhl p hp=> ?_,λd hd=>⟨_,rfl,?_⟩⟩
 ·have:k=ds.length:=by omega
  subst this;exact done A _ _ w p hp
 ·unfold vI;dsimp only;rw [S2 rfl];exact turn A k ys h' d hd w
theorem Hk {w:Str}(q:Q (.bl false) h)(hs:SeqAt.shaped (.tuple [.str w])=true:=by decide +kernel):neE (.tup [.str w]) (.tup [.str w]) h Q:=by
 refine⟨.tuple [.str w],.tuple [.str w],⟨_,rfl,_,_,rfl,rfl,rfl⟩,⟨_,rfl,_,_,rfl,rfl,rfl⟩,hs,hs,?_⟩;have e:F4 (.tuple [.str w]) (.tuple [.str w])=true:=by simp [F4,bU]
 rw [e];exact q
/-- the same,asked of the thing alone -/
def cNq:G8->D->N4
 |0,.int i=>decide (i<=100)
 |0,.non=>true
 |0,_=>false
 |_+1,.int i=>decide (i<=100)
 |_+1,.non=>true
 |k+1,.tup es=>decide (es.length<=64)&&es.all (cNq k)
 |_+1,_=>false
theorem NM {g:HD}: ∀ (k:G8) (d:D),cNq k d=true->Nq 64 0 k g d
 |0,d,h=>by
  cases d with
  |int i=>exact wM (H0 h)
  |non=>exact Xe
  |_=>cases h
 |k+1,d,h=>by
  cases d with
  |int i=>exact .inl (wM (H0 h))
  |non=>exact .inl Xe
  |tup es=>
   have h:(decide (es.length<=64)&&es.all (cNq k))=true:=h;rw [B8,C0,S8] at h;exact wF h.1 λx hx=>NM k x (h.2 x hx)
  |_=>cases h
/-- what the two lookers take -/
def Go (h:HD)(d:D):Prop:=okD d=true/\Kle d/\ ∀x y z,d= .tup [x,y,z]->Prt 40 h d
theorem Nq.go (hb:b<=1000)(hk:m+k<=40)(a:Nq b m k h d):Go h d:=⟨(a.prt hb).1,a.kle,λ_ _ _ _=>(a.prt hb).mono hk⟩
theorem Go.sub (a:Go h d)(s:Sub h h'):Go h' d:=⟨a.1,a.2.1,λx y z e=>(a.2.2 x y z e).sub s⟩
theorem Fo (ok:okD d=true)(n: ∀x y z,d≠ .tup [x,y,z]):Go h d:=⟨ok,λ_ _ _ e=>absurd e (n _ _ _),λ_ _ _ e=>absurd e (n _ _ _)⟩
theorem Ar (Z:Zs mg)(B:Bm mg base)(a:r9 K mainGlobals "law" =some (some (.ref f)))(TX: ∃c P,iO K "law" =some (c,P)/\uP K c P=true)(F:Fun K "law" "law" XZ f fd)(Jk:jp P w K mg base (n+2) "_law_same" ["_law_found","_law_due"] ND)(vy:jp P w K mg base (n+2) "_law_is_first" ["_law_table_here","_law_thing"] yS)(yL:jp P w K mg base (n+2) "first_holds" ["table","thing"] vQ)(Qh:jp P w K mg base (n+2) "_law_cell" ["_law_script","_law_k"] ZD)(GW:jp P w K mg base (n+2) "_law_pen" ["_law_cell_here"] Yc)(Xh:jp P w K mg base (n+2) "_law_table" ["_law_pen_here","_law_size_here"] JR)(Qj:jp P w K mg base (n+2) "_law_size" ["_law_pen_here"] ZE)(ji:jp P w K mg base (n+2) "_law_draw" ["_law_pen_here","_law_many"] jT)(Xf:jp P w K mg base (n+2) "_law_first" ["_law_table_here"] JV)(Xg:jp P w K mg base (n+2) "_law_paper" ["_law_pen_here","_law_table_here","_law_k"] JY)(ya:jp P w K mg base (n+2) "_law_bent_in" ["_law_pen_here","_law_thing","_law_deep"] (jy 5))(GV:jp P w K mg base (n+2) "_law_odd" ["_law_pen_here"] Yd)(Yf:jp P w K mg base (n+2) "_law_no_table" ["_law_pen_here"] yR)(CR_first_holds:VE P w K mg base n "first_holds" ["table","thing"] vt)(CS:OW P w K mg base n):FnOk P w K mg base CX0 ((n+2)+1) f fd ["_law_script"] (LSp K Dh):=by
 obtain⟨gS,gdS,GS,bGS,kGS,mGS⟩:=CS;obtain⟨tc,tP,T,tH⟩:=TX;have hTK:TabK K tP:=⟨"law",by decide,tc,T⟩;refine F.okJL a T wO (λds h Q q=>by obtain⟨ns,e,hh,hns,q⟩:=q;subst e;rfl) _ (λA outer s H E hr=>(js4 (jse 1 wO (yh (j4 (jX (j3 jl (jX (j1 (jX (j1 (jX (j2 jl jl)))))) Gy)) (jX (j3 jl (jX (j1 (jX (j1 (jX (j2 jl jl)))))) (jX jS))) (jX (j3 jl (jX (j1 (jX (j1 (jX (j3 jl jl jl)))))) Gy)) (jX (j3 jl (jX (j1 (jX (j1 (jX (j1 (jX (j1 jl)))))))) Gy))))) (YR B9 rfl (zJ (jv 1)) (jgn 2 wO) (jD (YR B9 rfl (Vw (yh (j2 (jX (j1 (jX (j1 jl)))) (jX (j1 (jX (j1 jl))))))) (jgn 3 wO) (jD (vN (zm (zh (jk Jk hr (j2 (jk yL hr (j2 (jv 3) (jv 2))) (jk vy hr (j2 (jv 3) (jv 2))))))) (zf jbl)))))) (YR B9 rfl (Vw (jop jI (yh (j1 (jk Qh hr (j2 (jv 0) jl)))) (yj (jv 0) (zP jl) (zP jl)))) (jgn 4 wO) (js8 (jse 5 wO (jk GW hr (j1 (jv 4)))) (jse 3 wO (jk Xh hr (j2 (jv 5) (jR (Fm rfl) rfl Z.min (by decide +kernel) (j2 jl (jk Qj hr (j1 (jv 5)))))))) (jse 6 wO (Hd (jk Xf hr (j1 (jv 3))) (Ui (jop jI jl (jk ji hr (j2 (jv 5) jl)))))) (jse 7 wO (jl0 11 wO (Vw (yh (jac (jv 6) (by exact(j4 (jv 6) (jR (Nx rfl) rfl Z.max (by decide +kernel) (j2 jl (jop YM (jv 6) jl))) (jop jI (jv 6) jl) jl))))) (λ_ _ _ _=>(jk Xg hr (j3 (jv 5) (jv 3) (jv 11)))))) (Dl (i:=12) (k:=8) (js:= [12]) rfl wO.nd rfl (A2 rfl) (jQ (by rfl)) (jrg Z jl) (by decide) rfl (by first|exact A2 rfl|exact V3 rfl) (λX' hX=>yB) (λX' hX=>by obtain⟨C,s₀,H₀,ex,rfl⟩:=hX;exact(jk ya hr (j3 (jv 5) (ji1 (jv 7) (jk ji hr (j2 (jv 5) jl))) (jop jI jl (jk ji hr (j2 (jv 5) jl))))))) (YR B9 rfl (Vw (jop jI (jop jI (jv 7) (jv 8)) (yh (j3 (jk GV hr (j1 (jv 5))) (jop jI (ji1 (jv 7) jl) (jX (j1 jl))) (yj (ji1 (jv 7) jl) zY (zP jl)))))) (jgn 2 wO) (js2 (jse 9 wO (jk vy hr (j2 (jv 3) (jv 2)))) (vN (jpt (Za (zm (zh (jk Jk hr (j2 (jk yL hr (j2 (jv 3) (jv 2))) (jv 9))))) (Yq (zm (zh (jk Jk hr (j2 (jk yL hr (j2 (jv 3) (jv 2))) (jv 9)))))))) (zf jbl)))) (jse 10 wO (jk Yf hr (j1 (jv 5)))) (vN (jt1 (Qy hr.units) (EW GS hr rfl mGS kGS bGS B rfl tH hTK (OS rfl (by decide +kernel)) (CC (by show OT _ (jd XZ)=true;decide +kernel)) (λ_ _ _ _ _ _ _ _ _ hr=>jno) (λ_ _ _ _ _ _ _ _ _ hr=>(jxk CR_first_holds hr (j2 (jv 10) (ji1 (jv 7) jl))))) (jX (j1 Wy))) (zf jbl)))) (zf jbl))) ?_;intro ds h Q q;obtain⟨ns,e,hh,hns,q⟩:=q;subst e;refine jf (λxC h'=> ∃p2,xC= [some (.scr ns),some (.lst p2),none,none,none,none,none,none,none,none,none,none,none]/\h' p2=some [D.tup [.int 1,.tup [.tup [.tup [.int 0,.int 0]]],.non],D.tup [.int 1,.tup [.tup [.tup [.int 0,.int 0]]],.tup []],D.tup [.int 2,.tup [.tup [.tup [.int 0,.int 0,.int 0]]],.non],D.tup [.int 1,.tup [.tup [.tup [.tup [.int 0]]]],.non]]) (λC hC=>⟨sz2,sz1,sz1,sz3,sz2,sz1,sz1,sz0,sz3,sz3,sz1,sz1,sz3,sz1,sz1,sz1,sz1,sz3,sz4,λp2 e2=>hC _ _ ⟨p2,rfl,jc⟩⟩) ?_;rintro _ h ⟨p2,rfl,k2⟩;have hfx: ∀d∈ [D.tup [.int 1,.tup [.tup [.tup [.int 0,.int 0]]],.non],D.tup [.int 1,.tup [.tup [.tup [.int 0,.int 0]]],.tup []],D.tup [.int 2,.tup [.tup [.tup [.int 0,.int 0,.int 0]]],.non],D.tup [.int 1,.tup [.tup [.tup [.tup [.int 0]]]],.non]],∀g:HD,Go g d:=λd hd g=>(NM (g:=g) 6 d (S8.mp (show ([D.tup [.int 1,.tup [.tup [.tup [.int 0,.int 0]]],.non],D.tup [.int 1,.tup [.tup [.tup [.int 0,.int 0]]],.tup []],D.tup [.int 2,.tup [.tup [.tup [.int 0,.int 0,.int 0]]],.non],D.tup [.int 1,.tup [.tup [.tup [.tup [.int 0]]]],.non]]).all (cNq 6)=true by decide) d hd)).go (by decide) (by decide)
 generalize [D.tup [.int 1,.tup [.tup [.tup [.int 0,.int 0]]],.non],D.tup [.int 1,.tup [.tup [.tup [.int 0,.int 0]]],.tup []],D.tup [.int 2,.tup [.tup [.tup [.int 0,.int 0,.int 0]]],.non],D.tup [.int 1,.tup [.tup [.tup [.tup [.int 0]]]],.non]]=fx at k2 hfx;refine jf (λxC h'=> ∃a1 a2 a3,xC= [some (.scr ns),a1,a2,a3,none,none,none,none,none,none,none,none,none]) (λC hC=> ?_) ?_
 ·refine⟨_,rfl,?_⟩;refine va fx (λi xC h'=>(∃a2 a3,xC= [some (.scr ns),some (.lst p2),a2,a3,none,none,none,none,none,none,none,none,none])/\h' p2=some fx) (λi xC h' z=>z.2) ⟨⟨_,_,rfl⟩,k2⟩ (λxC h' ⟨⟨_,_,e⟩,_⟩=>hC _ _ ⟨_,_,_,e⟩) ?_;clear k2;rintro i d _ h1 hi ⟨⟨a2,a3,rfl⟩,k2⟩;have pd:=hfx d (P6 hi);have hil:i<fx.length:=(P9.mp hi).1;refine⟨sz1,sz1,sz1,sz1,sz2,λp3 e3=>⟨p3,rfl,?_⟩⟩;have htx: ∀d∈ [D.tup [.tup [.int 2]],D.tup [.tup [.int 0]]],∃T,d=jA T/\Sq 1 3 T:=λd hd=>by
   simp only [D2,T9,or_false] at hd;rcases hd with e|e
   ·exact⟨[[2]],e,by decide,by decide,by decide,by decide⟩
   ·exact⟨[[0]],e,by decide,by decide,by decide,by decide⟩
  refine va [D.tup [.tup [.int 2]],D.tup [.tup [.int 0]]] (λj xC h'=>(∃a3,xC= [some (.scr ns),some (.lst p2),some d,a3,none,none,none,none,none,none,none,none,none])/\h' p3=some [D.tup [.tup [.int 2]],D.tup [.tup [.int 0]]]/\h' p2=some fx) (λj xC h' z=>z.2.1) ⟨⟨_,rfl⟩,jc,je k2 e3⟩ (λxC h' ⟨⟨a3,e⟩,_,k⟩=>⟨_,Sub.refl _,hil,⟨_,_,e⟩,k⟩) ?_;rintro j t _ h2 hj ⟨⟨a3',rfl⟩,k3,kq⟩;obtain⟨T,rfl,hT⟩:=htx t (P6 hj);have hjl:=(P9.mp hj).1;have n1:(1:G8)<=1:=P4 1;have n6:(1:G8)<=6:=by decide
  have pd:=pd h2;exact⟨_,rfl,_,rfl,T,d,1,3,rfl,hT,n1,n6,pd.1,pd.2.1,_,rfl,_,rfl,T,d,1,3,rfl,hT,n1,n6,pd.1,pd.2.1,pd.2.2,λh4 s=>⟨_,_,.bool (fhB T 1 d),rfl,rfl,rfl,XN _,_,rfl,jH ⟨_,Sub.refl _,hjl,⟨_,rfl⟩,s.ls _ _ k3,s.ls _ _ kq⟩⟩⟩
 clear hfx k2;rintro _ h ⟨a1,a2,a3,rfl⟩;refine jf (λxC h'=>True) (λC hC=> ?_) (λxC h3 hV=>⟨h3,Sub.refl _,q h3⟩);refine⟨_,rfl,ns,0,rfl,(by decide),λn0=>⟨sz1,λp1 e1=>⟨_,rfl,_,rfl,_,rfl,λp2 e2=>⟨_,_,je jc e2,jc,?_,λp3 e3=>⟨p3,rfl,?_⟩⟩⟩⟩⟩
 ·have:(vM ns (some 1) (some 4)).length<=ns.length:=by unfold vM;rw [T4,C3];omega
  rw [G7];exact R9 (ju (by simp only [R1,N2];omega))
 generalize hcs:([D.int n0]++(vM ns (some 1) (some 4)).map D.int)=cs;have hint: ∀d∈cs,∃c,d= .int c:=λd hd=>by
  rw [<-hcs] at hd;rcases D5.mp hd with z|z
  ·exact⟨n0,P3.mp z⟩
  ·obtain⟨x,_,e⟩:=N6.mp z;exact⟨x,e.symm⟩
 refine va cs (λi xC h'=> ∃a1 a2 a3 a4 a5 a6 a7 a8 a9 a10 a11 a12,xC= [some (.scr ns),a1,a2,a3,a4,a5,a6,a7,a8,a9,a10,a11,a12]/\h' p3=some cs) (λi xC h' ⟨_,_,_,_,_,_,_,_,_,_,_,_,_,k⟩=>k) ⟨_,_,_,_,_,_,_,_,_,_,_,_,rfl,jc⟩ (λxC h' _=>hC _ _ cF) ?_;rintro i d _ h4 hi ⟨b1,b2,b3,b4,b5,b6,b7,b8,b9,b10,b11,b12,rfl,k3⟩;obtain⟨c,rfl⟩:=hint d (P6 hi);have hil:i<cs.length:=(P9.mp hi).1;show yX _ _ _ [some (.scr ns),b1,b2,b3,some (.int c),b5,b6,b7,b8,b9,b10,b11,b12] h4;refine jf (λxC h'=> ∃p l fl,xC= [some (.scr ns),b1,b2,b3,some (.int c),some (.lst p),b6,b7,b8,b9,b10,b11,b12]/\h' p=some [.int l,.int fl]/\0<=l/\h' p3=some cs/\p3≠p) (λC hC=> ?_) ?_
 ·refine⟨_,rfl,c,rfl,λp l fl ep l0 _=>hC _ _ ⟨p,l,fl,rfl,jc,l0,je k3 ep,K6 (jh k3 ep)⟩⟩
 rintro _ h5 ⟨p,l,fl,rfl,kp,l0,k3,n3⟩;refine jf (λxC h'=> ∃n:G8,∃T l2,xC= [some (.scr ns),b1,b2,some (jA T),some (.int c),some (.lst p),b6,b7,b8,b9,b10,b11,b12]/\1<=n/\n<=6/\Sq n 20 T/\h' p=some [.int l2,.int fl]/\0<=l2/\h' p3=some cs) (λC hC=>⟨_,rfl,_,rfl,p,l,fl,rfl,kp,l0,λn l2 n1 n6 l20=> ?_⟩) ?_
 ·have em:(if ((n:G8):P0)<5 then ((n:G8):P0) else 5)=((if n<5 then n else 5:G8):P0):=by split<;>split<;>omega
  refine⟨p,l2,fl,if n<5 then n else 5,congrArg (λx=> [D.lst p,.int x]) em,jc,l20,by split<;>omega,by split<;>omega,λT l3 gT l30=>hC _ _ ⟨_,T,l3,rfl,?_,?_,gT.sq,jc,l30,jj n3 (jj n3 k3)⟩⟩
  ·split<;>omega
  ·split<;>omega
 clear kp l0 k3;rintro _ h6 ⟨n,T,l2,rfl,n1,n6,hT,kp,l20,k3⟩;refine jf (λxC h'=> ∃k:G8,∃l2,xC= [some (.scr ns),b1,b2,some (jA T),some (.int c),some (.lst p),some (.int (k:P0)),b7,b8,b9,b10,b11,b12]/\1<=k/\k<=30/\h' p=some [.int l2,.int fl]/\0<=l2/\h' p3=some cs) (λC hC=> ?_) ?_
 ·obtain⟨o,ho⟩:=An hT n1 n6;refine⟨_,rfl,T,n,20,o,rfl,hT,n1,n6,by decide,ho,?_⟩;cases o with
  |some k=>
   refine⟨true,?_,jw (hC _ _ ⟨k,l2,rfl,ho.1,ho.2.1,kp,l20,k3⟩)⟩;show true=((k:P0) !=0);have:=ho.1;exact(bne_iff_ne.mpr (show (k:P0)≠0 by omega)).symm
  |none=>exact⟨false,rfl,jH ⟨_,rfl,p,l2,fl,4,rfl,kp,l20,by decide,by decide,λr l3 r0 r1 l30=>hC _ _ ⟨(1+r).toNat,l3,by rw [bJ (show 0<=1+r by omega)];rfl,by omega,by omega,jc,l30,jj n3 k3⟩⟩⟩
 clear kp l20 k3;rintro _ h7 ⟨k,l2,rfl,k1,k30,kp,l20,k3⟩;have hks: ∀d∈ [D.int (k:P0),D.int (k:P0),D.int (if (k:P0)-1>1 then (k:P0)-1 else 1),D.int ((k:P0)+1),D.int 1],∃m:G8,d= .int (m:P0)/\1<=m/\m<=60:=λd hd=>by
  simp only [D2,T9,or_false] at hd;rcases hd with e|e|e|e|e
  ·exact⟨k,e,k1,by omega⟩
  ·exact⟨k,e,k1,by omega⟩
  ·by_cases z:(k:P0)-1>1
   ·rw [S2 z] at e;exact⟨k-1,by rw [e];congr 1;omega,by omega,by omega⟩
   ·rw [S3 z] at e;exact⟨1,e,by omega,by omega⟩
  ·exact⟨k+1,e,by omega,by omega⟩
  ·exact⟨1,e,by omega,by omega⟩
 refine jf (λxC h'=> ∃X xs l2,xC= [some (.scr ns),b1,b2,some (jA T),some (.int c),some (.lst p),some (.int (k:P0)),some (.lst X),b8,b9,b10,b11,b12]/\h' X=some xs/\xs.length=5/\X≠p/\(∀d∈xs,(∀g,Nq 64 0 4 g d)/\ ∃a b c,d= .tup [a,b,c])/\h' p=some [.int l2,.int fl]/\0<=l2/\h' p3=some cs) (λC hC=>Fn [D.int (k:P0),D.int (k:P0),D.int (if (k:P0)-1>1 then (k:P0)-1 else 1),D.int ((k:P0)+1),D.int 1] (λA h'=>h' A=some [D.int (k:P0),D.int (k:P0),D.int (if (k:P0)-1>1 then (k:P0)-1 else 1),D.int ((k:P0)+1),D.int 1]/\A≠p/\h' p=some [.int l2,.int fl]/\h' p3=some cs) (λA t xs h'=>xs.length=t/\(∀d∈xs,(∀g,Nq 64 0 4 g d)/\ ∃a b c,d= .tup [a,b,c])/\h' A=some [D.int (k:P0),D.int (k:P0),D.int (if (k:P0)-1>1 then (k:P0)-1 else 1),D.int ((k:P0)+1),D.int 1]/\A≠p/\ ∃l2,h' p=some [.int l2,.int fl]/\0<=l2/\h' p3=some cs) (by show 5<=1000;decide) (λR r=>⟨_,rfl,_,rfl,_,rfl,_,rfl,sz5,λA eA=>⟨A,rfl,r A _ ⟨jc,jh kp eA,je kp eA,je k3 eA⟩⟩⟩) (λA h1 ⟨kA,nA,kp,k3⟩=>⟨rfl,(λd hd=>nomatch hd),kA,nA,l2,kp,l20,k3⟩) (λA t xs h' w=>⟨V2 w.1,w.2.2.1⟩) ?_ λA xs h' ⟨lx,gx,_,_,l3,kp,l30,k3⟩ X eX=>hC _ _ ⟨X,xs,l3,rfl,jc,lx,jh kp eX,gx,je kp eX,l30,je k3 eX⟩) ?_
 ·rintro A t xs h' d hd ⟨lx,gx,kA,nA,l3,kp,l30,k3⟩;have tl:=(P9.mp hd).1;obtain⟨m,rfl,m1,m60⟩:=hks d (P6 hd);exact⟨_,rfl,_,rfl,_,rfl,p,l3,fl,T,n,20,m,rfl,kp,l30,hT,n1,n6,m1,m60,λd l4 h4 nd sh bt kp4 l40=>⟨h4,Sub.refl _,tl,by rw [P7,lx];rfl,λy hy=>(D5.mp hy).elim (gx y) λz=>by rw [P3.mp z];exact⟨nd,sh.elim λx w=>w.elim λy e=>⟨_,x,y,e⟩⟩,bt.ls _ _ nA kA,nA,l4,kp4,l40,bt.ls _ _ n3 k3⟩⟩
 clear kp l20 k3;rintro _ h8 ⟨X,xs,l2,rfl,kX,lX,nX,gX,kp,l20,k3⟩;have at0: ∃a b c,atI xs 0=some (.tup [a,b,c])/\D.tup [a,b,c]∈xs:=by
  have e0:xs[0]? =some xs[0]:=G5 (by omega);obtain⟨a,b,c,e⟩:=(gX xs[0] (B6 (by omega))).2;rw [e] at e0;exact⟨a,b,c,wt (j:=0) e0,e ▸ B6 (by omega)⟩
 obtain⟨ea,eb,ec,at0,em0⟩:=at0;have g0:=(gX _ em0).1;refine jf (λxC h'=> ∃B bs l2,xC= [some (.scr ns),b1,b2,some (jA T),some (.int c),some (.lst p),some (.int (k:P0)),some (.lst X),some (.lst B),b9,b10,b11,b12]/\h' B=some bs/\bs.length=6/\B≠p/\(∀y∈bs,Nq 200 9 5 (vH h' p) y)/\h' X=some xs/\h' p=some [.int l2,.int fl]/\0<=l2/\h' p3=some cs) (λC hC=>Oz 6 (λt bs h'=>bs.length=t/\(∀y∈bs,Nq 200 9 5 (vH h' p) y)/\h' X=some xs/\ ∃l2,h' p=some [.int l2,.int fl]/\0<=l2/\h' p3=some cs) (by decide) (λR r=>r) ⟨rfl,(λd hd=>nomatch hd),kX,l2,kp,l20,k3⟩ (λt bs h' w=>w.1) ?_ λbs h' ⟨lb,gb,kX,l3,kp,l30,k3⟩ B eB=>hC _ _ ⟨B,bs,l3,rfl,jc,lb,jh kp eB,λy hy=>(gb y hy).mono (P4 _) (P4 _) (VD ((But.refl p h').new eB)) (P4 _),je kX eB,je kp eB,l30,je k3 eB⟩) ?_
 ·rintro t bs h' tl ⟨lb,gb,kX,l3,kp,l30,k3⟩;refine⟨_,rfl,_,rfl,_,rfl,p,l3,fl,2,rfl,kp,l30,by decide,by decide,λr l4 r0 r1 l40=> ?_⟩;obtain⟨d,hd,ed⟩:=wT (xs:=xs) r0 (by rw [lX];omega);refine⟨_,d,jj nX kX,ed,_,rfl,p,l4,fl,4,rfl,jc,l40,by decide,by decide,λu l5 u0 u1 l50=>⟨p,l5,fl,d,(1+u).toNat,4,by rw [bJ (show 0<=1+u by omega)],jc,l50,(show (1+u).toNat<=4 by omega),by decide,(gX d hd).1,λy l6 h6 ny bt kp6 l60=> ?_⟩⟩;have bt':But p h' h6:=But.trans (But.upd.put) bt;exact⟨h6,Sub.refl _,tl,by rw [P7,lb];rfl,λz hz=>(D5.mp hz).elim (λw=>(gb z w).mono (P4 _) (P4 _) (VD bt') (P4 _)) λw=>by rw [P3.mp w];exact ny,bt'.ls _ _ nX kX,l6,kp6,l60,bt'.ls _ _ n3 k3⟩
 clear kp l20 k3 kX;rintro _ h9 ⟨B,bs,l2,rfl,kB,lB,nB,gB,kX,kp,l20,k3⟩;refine jf (λxC h'=> ∃b2 b9 l2,xC= [some (.scr ns),b1,b2,some (jA T),some (.int c),some (.lst p),some (.int (k:P0)),some (.lst X),some (.lst B),b9,b10,b11,b12]/\h' X=some xs/\h' p=some [.int l2,.int fl]/\0<=l2/\h' p3=some cs) (λC hC=> ?_) ?_
 ·refine⟨_,rfl,_,rfl,_,_,kX,kB,?_,λZ eZ=>⟨_,rfl,p,l2,fl,rfl,je kp eZ,l20,λd1 l3 h1 ok1 no1 bt kp1 l30=> ?_⟩⟩
  ·rw [lX,lB];show 5+6<=sizeLine;decide
  have kX1:=bt.ls _ _ nX (je kX eZ);have kZ1:=bt.ls Z _ (jh kp eZ) jc;refine⟨_,rfl,_,_,kX1,at0,sz1,sz4,_,rfl,_,_,kX1,at0,_,rfl,sz3,λY eY=>⟨_,_,je kZ1 eY,jc,?_,λU eU=>⟨U,rfl,?_⟩⟩⟩
  ·rw [P7,lX,lB];show 5+6+3<=sizeLine;decide
  have okx: ∀x∈ [ea,eb,ec],okD x=true:=(zd ((g0 h9).prt (by decide)).1).2;generalize hts:(xs++bs)++ [d1,D.tup ([ea,eb,ec]++ [.int 0]),D.tup (vM [ea,eb,ec] none (some 2))]=ts;have good: ∀d∈ts,Go (zV (zV h1 Y [d1,D.tup ([ea,eb,ec]++ [.int 0]),D.tup (vM [ea,eb,ec] none (some 2))]) U ts) d:=λd hd=>by
   rw [<-hts] at hd;rcases D5.mp hd with z|z
   ·rcases D5.mp z with z|z
    ·exact((gX d z).1 _).go (by decide) (by decide)
    ·exact((gB d z).go (by decide) (by decide)).sub ((VD ((((But.refl p h9).new eZ).trans bt |>.new eY).new eU)).trans MB)
   ·simp only [D2,T9,or_false] at z;rcases z with e|e|e
    ·exact Fo (e ▸ ok1) (e ▸ no1)
    ·subst e;exact Fo (Vb (by show 4<=1000;decide) λx hx=>(D5.mp hx).elim (okx x) λw=>by rw [P3.mp w];rfl) λx y z e=>by cases e
    ·subst e;exact Fo (Vb (T6 VY (by show 3<=1000;decide)) λx hx=>okx x (VX hx)) λx y z e=>by cases e
  refine va ts (λi xC h'=> ∃b2 b9,xC= [some (.scr ns),b1,b2,some (jA T),some (.int c),some (.lst p),some (.int (k:P0)),some (.lst X),some (.lst B),b9,b10,b11,b12]/\h' U=some ts/\(∀d∈ts,Go h' d)/\h' X=some xs/\h' p=some [.int l3,.int fl]/\h' p3=some cs) (λi xC h' ⟨_,_,_,k,_⟩=>k) ⟨_,_,rfl,by rw [<-hts];exact jc,good,je (je kX1 eY) eU,je (je kp1 eY) eU,je (je (bt.ls _ _ n3 (je k3 eZ)) eY) eU⟩ (λxC h' ⟨_,_,e,_,_,kX,kp,k3⟩=>hC _ _ ⟨_,_,l3,e,kX,kp,l30,k3⟩) ?_;clear good;rintro i d _ h2 hi ⟨c2,c9,rfl,kU,gU,kX,kp,k3⟩;have hil2:=(P9.mp hi).1;have pd:=gU d (P6 hi);refine jf (λxC h'=>xC= [some (.scr ns),b1,some d,some (jA T),some (.int c),some (.lst p),some (.int (k:P0)),some (.lst X),some (.lst B),some (.bl (fhB T n d)),b10,b11,b12]/\Sub h2 h') (λC hC=>⟨_,rfl,_,rfl,T,d,n,20,rfl,hT,n1,n6,pd.1,pd.2.1,pd.2.2,λh4 s=>hC _ _ ⟨rfl,s⟩⟩) ?_;rintro _ h4 ⟨rfl,s⟩;exact⟨_,rfl,_,rfl,T,d,n,20,rfl,hT,n1,n6,pd.1,pd.2.1,_,rfl,_,_,.bool (fhB T n d),rfl,rfl,rfl,XN _,_,rfl,jH ⟨_,rfl,_,rfl,T,d,n,20,rfl,hT,n1,n6,pd.1,pd.2.1,_,rfl,_,_,.bool (fhB T n d),rfl,rfl,rfl,XN _,_,rfl,jH ⟨_,Sub.refl _,hil2,_,_,rfl,s.ls _ _ kU,λd hd=>(gU d hd).sub s,s.ls _ _ kX,s.ls _ _ kp,s.ls _ _ k3⟩⟩⟩
 clear kp l20 k3 kX;rintro _ h10 ⟨c2,c9,l2,rfl,kX,kp,l20,k3⟩;refine jf (λxC h'=> ∃dd,xC= [some (.scr ns),b1,c2,some (jA T),some (.int c),some (.lst p),some (.int (k:P0)),some (.lst X),some (.lst B),c9,some dd,b11,b12]/\okD dd=true/\RG dd=false/\h' X=some xs/\h' p3=some cs) (λC hC=>⟨_,rfl,p,l2,fl,rfl,kp,l20,λd l3 h' ok bad bt kp2 l30=>hC _ _ ⟨d,rfl,ok,bad,bt.ls _ _ nX kX,bt.ls p3 cs n3 k3⟩⟩) ?_;clear k3 kX;rintro _ h12 ⟨dd,rfl,okd,badd,kX,k3⟩;exact .inr ⟨_,rfl,_,rfl,_,_,kX,at0,dd,_,rfl,okd,badd,by decide,sz1,Hk ⟨_,rfl,jH ⟨_,Sub.refl _,hil,_,_,_,_,_,_,_,_,_,_,_,_,rfl,k3⟩⟩⟩
end
theorem As {l:pA}{w:N8}{K:G2}{h:N9}{mg:Str->P8 G1}{fa:G9}(X:K.In h)(G:h.Ns mainGlobals mg)(hfa:mg "law" =some (.ref fa))
 (d0:DefIn K "is_whole" Zl fu0 eu0)
 (d1:DefIn K "is_within" Jb fu1 eu1)
 (d2:DefIn K "is_from" WR fu2 eu2)
 (d3:DefIn K "is_place" Zm fu3 eu3)
 (d4:DefIn K "are_places" vf fu4 eu4)
 (d5:DefIn K "rises" XY fu5 eu5)
 (d6:DefIn K "is_set" VG fu6 eu6)
 (d7:DefIn K "is_table_row" wW fu7 eu7)
 (d8:DefIn K "has_table_form" zZ fu8 eu8)
 (d9:DefIn K "want_table" wJ fu9 eu9)
 (d10:DefIn K "step_after" vh fu10 eu10)
 (d11:DefIn K "has_walk_form" wA fu11 eu11)
 (d12:DefIn K "is_walk_between" zR fu12 eu12)
 (d13:DefIn K "are_walks_from" wa fu13 eu13)
 (d14:DefIn K "are_all_walks" wB fu14 eu14)
 (d15:DefIn K "are_sets" Zn fu15 eu15)
 (d16:DefIn K "take_in_arrows" wb fu16 eu16)
 (d17:DefIn K "is_gap" VH fu17 eu17)
 (d18:DefIn K "first_holds" wm fu18 eu18)
 (d19:DefIn K "_law_cell" Jc fu19 eu19)
 (d20:DefIn K "_law_pen" Zo fu20 eu20)
 (d21:DefIn K "_law_draw" Jd fu21 eu21)
 (d22:DefIn K "_law_whole" vi fu22 eu22)
 (d23:DefIn K "_law_odd" Zp fu23 eu23)
 (d24:DefIn K "_law_kind" Je fu24 eu24)
 (d25:DefIn K "_law_said" Jf fu25 eu25)
 (d26:DefIn K "_law_same" Jg fu26 eu26)
 (d27:DefIn K "_law_size" Jh fu27 eu27)
 (d28:DefIn K "_law_table" vj fu28 eu28)
 (d29:DefIn K "_law_times" vk fu29 eu29)
 (d30:DefIn K "_law_marked" yG fu30 eu30)
 (d31:DefIn K "_law_filled" yH fu31 eu31)
 (d32:DefIn K "_law_first" vn fu32 eu32)
 (d33:DefIn K "_law_after" vo fu33 eu33)
 (d34:DefIn K "_law_sets" Ji fu34 eu34)
 (d35:DefIn K "_law_no_table" wC fu35 eu35)
 (d36:DefIn K "_law_is_walk" wY fu36 eu36)
 (d37:DefIn K "_law_is_gap" yI fu37 eu37)
 (d38:DefIn K "_law_is_first" wD fu38 eu38)
 (d39:DefIn K "_law_paper" vp fu39 eu39)
 (d40:DefIn K "_law_bent_in" wZ fu40 eu40)
 (d41:DefIn K "law" XZ fu41 eu41)
 {tk0:Tok}(v0:r9 K mainGlobals "MOST_ROWS" =some (some (.int 6 tk0)))
 (z:zsB K=true)
 (ex:EX K=true)
 (tb0:CG K "law" =true)
 : ∃fd:S1,(∀ (s:G3) (v:G1),lU s fd ⟨[v],[]⟩ [("_law_script",v)])/\ ∀base:N9,K.In base->base.Ns mainGlobals mg->Bm mg base->FnOk l.prog w K mg base CX0 10 fa fd ["_law_script"] (LSp K Dh):=by
 have e:=hfa.symm.trans (d41.nm X G);cases e;have Jl: ∃tk,mg "MOST_ROWS" =some (.int 6 tk):=⟨_,xB X G v0⟩;have Z:=Sc X G z;have Ex:Exc K mg:=OV X G ex;have Au:=CH tb0;obtain⟨_,_,kV,dc,pm,an,cd,ct,_,rfl,_⟩:=d41.fn.ex;refine⟨V0 "law" "law" (yZ XZ) (jW XZ) (jd XZ) .none kV dc pm an cd ct,λs v=> .of_eq rfl,λbase _ _ B=> ?_⟩;have Zy:=λn=>d0.cal l w base X G (Qa (n:=n+0) Z d0.fn)
 have Qp:=λn=>d1.cal l w base X G (UU (n:=n+1) Z d1.fn (Zy (n+0)))
 have RE:=λn=>d2.cal l w base X G (GR (n:=n+1) Z d2.fn (Zy (n+0)))
 have Vd:=λn=>d3.cal l w base X G (Qb (n:=n+2) Z d3.fn (Qp (n+0)))
 have ZH:=λn=>d4.cal l w base X G (VJ (n:=n+3) Z d4.fn (Vd (n+0)))
 have Fq:=λn=>d5.cal l w base X G (Nc (n:=n+0) Z d5.fn)
 have No:=λn=>d6.cal l w base X G (Rw (n:=n+4) Z d6.fn (Fq (n+3)) (ZH (n+0)))
 have YC:=λn=>d7.cal l w base X G (WV (n:=n+1) Z d7.fn (Zy (n+0)))
 have yT:=λn=>d8.cal l w base X G (Zq (n:=n+2) Z d8.fn (YC (n+0)) Jl)
 have Xq:=λn=>d9.cal l w base X G (VL (n:=n+3) Z d9.fn (yT (n+0)))
 have Xr:=λn=>d9.rai l w base X G (Yt (n:=n+3) Z Ex d9.fn (yT (n+0)))
 have Xp:=λn=>d10.cal l w base X G (VM (n:=n+0) Z d10.fn)
 have Yl:=λn=>d11.cal l w base X G (ZP (n:=n+4) Z d11.fn (ZH (n+0)))
 have Zx:=λn=>d12.cal l w base X G (JN (n:=n+5) Z d12.fn (Yl (n+0)))
 have ZV:=λn=>d13.cal l w base X G (Zr (n:=n+6) Z d13.fn (Zx (n+0)))
 have Yk:=λn=>d14.cal l w base X G (ZQ (n:=n+7) Z d14.fn (ZV (n+0)))
 have Pa:=λn=>d15.cal l w base X G (Qc (n:=n+5) Z d15.fn (No (n+0)))
 have ZW:=λn=>d16.cal l w base X G (Zt (n:=n+1) Z d16.fn (Xp (n+0)))
 have Nn:=λn=>d17.cal l w base X G (RB (n:=n+6) Z d17.fn (Pa (n+0)) (Vd (n+3)) (ZW (n+4)))
 have Uf:=λn=>d18.cal l w base X G (Yu (n:=n+8) Z d18.fn (Xq (n+4)) (Yk (n+0)) (RE (n+6)) (Nn (n+1)))
 have Ug:=λn=>d18.rai l w base X G (Yb (n:=n+4) Z Ex d18.fn (Xr (n+0)))
 have Ql:=λn=>d19.cal l w base X G (UZ (n:=n+0) Z d19.fn)
 have GZ:=λn=>d20.cal l w base X G (Qf (n:=n+0) Z d20.fn)
 have jL:=λn=>d21.cal l w base X G (Xa (n:=n+0) Z d21.fn)
 have vA:=λn=>d22.cal l w base X G (VQ (n:=n+0) Z d22.fn)
 have GY:=λn=>d23.cal l w base X G (Qg (n:=n+1) Z d23.fn (jL (n+0)))
 have u_kind: ∀n,DT l.prog w K mg base (n+1) "_law_kind" ["_law_e"] (DY mg):=λn=>⟨_,_,VR (n:=n) Z Ex d24.fn,d24.fn.binds (ps:= ["_law_e"]) λ_ _ _ _ _ _ us hl=>match us,hl with| [_],_=>rfl,d24.fn.kp,d24.nm X G⟩
 have s_said: ∀n,OW l.prog w K mg base (n+1):=λn=>⟨_,_,Fe (n:=n+1) Z Ex d25.fn (u_kind n),d25.fn.binds (ps:= ["_law_call"]) λ_ _ _ _ _ _ us hl=>match us,hl with| [_],_=>rfl,d25.fn.kp,d25.nm X G⟩
 have Qm:=λn=>d26.cal l w base X G (Xb (n:=n+0) Z d26.fn)
 have Qo:=λn=>d27.cal l w base X G (Xc (n:=n+1) Z d27.fn (jL (n+0)))
 have Xn:=λn=>d28.cal l w base X G (VS (n:=n+1) Z d28.fn (jL (n+0)))
 have Xo:=λn=>d29.cal l w base X G (VT (n:=n+0) Z d29.fn)
 have Ue:=λn=>d30.cal l w base X G (Yv (n:=n+0) Z d30.fn)
 have Uc:=λn=>d31.cal l w base X G (Yw (n:=n+0) Z d31.fn)
 have Xl:=λn=>d32.cal l w base X G (VU (n:=n+1) Z d32.fn (Ue (n+0)) (Uc (n+0)) (Xo (n+0)))
 have ZG:=λn=>d33.cal l w base X G (VW (n:=n+0) Z d33.fn)
 have Qn:=λn=>d34.cal l w base X G (Xd (n:=n+0) Z d34.fn)
 have Yj:=λn=>d35.cal l w base X G (ZR (n:=n+1) Z d35.fn (jL (n+0)))
 have YB:=λn=>d36.cal l w base X G (Ye (n:=n+1) Z d36.fn (vA (n+0)))
 have Ud:=λn=>d37.cal l w base X G (Yx (n:=n+1) Z d37.fn (vA (n+0)) (Qn (n+0)) (ZG (n+0)))
 have Yi:=λn=>d38.cal l w base X G (ZS (n:=n+2) Z d38.fn (vA (n+1)) (YB (n+0)) (Ud (n+0)))
 have Xm:=λn=>d39.cal l w base X G (VZ (n:=n+1) Z d39.fn (jL (n+0)) (ZG (n+0)))
 have e__law_bent_in0: ∀n,jp l.prog w K mg base (n+1) "_law_bent_in" ["_law_pen_here","_law_thing","_law_deep"] (jy 0):=λn=>d40.cal l w base X G (Nb λ_ _ _ z=>z)
 have e__law_bent_in1: ∀n,jp l.prog w K mg base (n+2) "_law_bent_in" ["_law_pen_here","_law_thing","_law_deep"] (jy 1):=λn=>d40.cal l w base X G (zk (n:=n+1) (k:=0) Z d40.fn (jL (n+0)) (e__law_bent_in0 n))
 have e__law_bent_in2: ∀n,jp l.prog w K mg base (n+3) "_law_bent_in" ["_law_pen_here","_law_thing","_law_deep"] (jy 2):=λn=>d40.cal l w base X G (zk (n:=n+2) (k:=1) Z d40.fn (jL (n+1)) (e__law_bent_in1 n))
 have e__law_bent_in3: ∀n,jp l.prog w K mg base (n+4) "_law_bent_in" ["_law_pen_here","_law_thing","_law_deep"] (jy 3):=λn=>d40.cal l w base X G (zk (n:=n+3) (k:=2) Z d40.fn (jL (n+2)) (e__law_bent_in2 n))
 have e__law_bent_in4: ∀n,jp l.prog w K mg base (n+5) "_law_bent_in" ["_law_pen_here","_law_thing","_law_deep"] (jy 4):=λn=>d40.cal l w base X G (zk (n:=n+4) (k:=3) Z d40.fn (jL (n+3)) (e__law_bent_in3 n))
 have e__law_bent_in5: ∀n,jp l.prog w K mg base (n+6) "_law_bent_in" ["_law_pen_here","_law_thing","_law_deep"] (jy 5):=λn=>d40.cal l w base X G (zk (n:=n+5) (k:=4) Z d40.fn (jL (n+4)) (e__law_bent_in4 n))
 have YA:=e__law_bent_in5;exact Ar (n:=7) Z B d41.at_ Au d41.fn (Qm 8) (Yi 6) (Uf 0) (Ql 8) (GZ 8) (Xn 7) (Qo 7) (jL 8) (Xl 7) (Xm 7) (YA 3) (GY 7) (Yj 7) (Ug 2) (s_said 6)
end My
namespace PySem.W.Fast
def tw17942820129500989157:=()
def tw11102592694255142167:=()
def tw4951091034028785988:=()
def tw3293227948372667985:=()
def tw1064132650383334434:=()
def tw10413617123600950658:=()
def tw12996614453002828638:=()
def tw8899822486344361651:=()
def tw17977876805898392570:=()
def tw11250516221673743815:=()
def tw18373395202716759975:=()
def tw14702812536680059615:=()
def tw3496472082984552594:=()
def tw2119261596774542800:=()
def tw6171080772140086508:=()
def tw12867744440929640900:=()
def tw1778779918960540843:=()
def tw10506646740481649462:=()
def tw17132106582115506610:=()
def tw14641534659976037838:=()
def tw4763607866409442266:=()
def tw6155848845540416092:=()
def tw9894408612457986129:=()
def tw9591116981570746189:=()
def tw8011980569153559122:=()
def tw3352547978970804035:=()
def tw5821321888583119733:=()
def tw3162202498817565589:=()
def tw9325479293509307660:=()
def tw3748584917225892399:=()
def tw17931027715101356539:=()
def tw8347473643163184479:=()
def tw9028502952055340061:=()
def tw2290685729812929178:=()
def tw15147716835286251615:=()
def tw3575899563046554608:=()
def tw10143537215735895407:=()
def tw10093434459577097290:=()
def tw15122509504922641173:=()
def tw15021564298501550385:=()
def tw4742316496388536825:=()
def tw4235611310060010138:=()
def tw1896244395345256212:=()
def tw17044243500527830195:=()
def tw2044161759177759377:=()
def tw16377957966234515530:=()
def tw11521781744914930523:=()
def tw2801127149940523496:=()
def tw10589558169094238016:=()
def tw17012574318804326648:=()
def tw16562638468234592471:=()
def tw3785587179758778841:=()
def tw753310286822352424:=()
def tw1447884499352798406:=()
def tw10264722782285968620:=()
def tw9512535024274366143:=()
def tw1741168322675093960:=()
def tw10337364723846359672:=()
def tw8550089547967288185:=()
def tw6920094487631380249:=()
def tw3675947355712295841:=()
def tw16388593535426122766:=()
def tw15139935084227889353:=()
def tw2889756956460852156:=()
def tw6616649324149244518:=()
def tw6944671385460902765:=()
def tw18371539760941334693:=()
def tw15717894065353751418:=()
def tw12977142814365486893:=()
def tw15029027460500564107:=()
def tw9485373475325129262:=()
def tw17376384408254117211:=()
def tw7260529690707112890:=()
def tw9745539117269441946:=()
def tw2636358403825903237:=()
def tw5233037426422064435:=()
def tw1494609525883420807:=()
def tw3639692742859745945:=()
def tw13833011643902429932:=()
def tw17626730372136467343:=()
def tw15695219238915840400:=()
def tw13674103779611932500:=()
def tw16332905735743309323:=()
def tw2524624280028892386:=()
def tw457736225054438823:=()
def tw17584048208070721344:=()
def tw12392990277747905337:=()
def tw13060395994610683652:=()
def tw708445489227829978:=()
def tw11033526499214054264:=()
def tw18367229818864668197:=()
def tw9964430475828068377:=()
def tw17807455316294706202:=()
def tw7631676881752975340:=()
def tw15119027675423295067:=()
def tw14820380228239972931:=()
def tw4351611713384121122:=()
def tw11068124170542685369:=()
def tw14960651219775230749:=()
def tw2879663028769358205:=()
def tw9683593243085642066:=()
def tw17245818938122717316:=()
def tw4186265667815093976:=()
def tw2495325868382993429:=()
def tw14400705556279655461:=()
def tw8712201312035823268:=()
def tw15293286664496964562:=()
def tw18064241101980583188:=()
def tw9716864333699404585:=()
def tw13266844164311422964:=()
def tw18305437484383708520:=()
def tw4498733844148075193:=()
def tw17649343214061830108:=()
def tw16526471769826874341:=()
def tw13692157687407830291:=()
def tw7788537218983314397:=()
def tw16866210557279680275:=()
def tw16751912080242611078:=()
def tw3060105948282908337:=()
def tw4006430762070243928:=()
def tw16944463305543852185:=()
def tw8857924460584575745:=()
def tw11561059051582609317:=()
def tw15567655952550666880:=()
def tw5407854772068334590:=()
def tw13840724846803689058:=()
def tw13034988103525007046:=()
def tw810144215986830445:=()
def tw10237587906333505629:=()
def tw15781792090334976160:=()
def tw2771815506789750746:=()
def tw10104121714764961364:=()
def tw7259119349200816136:=()
def tw9698465918402263042:=()
def tw5922170662637815287:=()
def tw13964785344543603825:=()
def tw9684071108318188482:=()
def tw5114273833451230034:=()
def tw3882522926394625537:=()
def tw5878517595706439524:=()
def tw10422548800205207956:=()
def tw10086437734824725095:=()
def tw15144846600537675345:=()
def tw4100146446739506579:=()
def tw12485544808370646567:=()
def tw17642094283704682666:=()
def tw1495715628790369802:=()
def tw14544627434317982670:=()
def tw13189386913649603803:=()
def tw881560046350365106:=()
def tw3230786567612705948:=()
def tw4407511601557524857:=()
def tw16222809576266970955:=()
def tw17435213842082557802:=()
def tw10852075378102929937:=()
def tw10685548675919469198:=()
def tw16620529770478990707:=()
def tw8465091752132561320:=()
def tw7266101485473648127:=()
def tw17402721294743184019:=()
def tw15143684516725544881:=()
def tw10505133851747142653:=()
def tw15580162164750843576:=()
def tw2345992205717837131:=()
def tw6042870192748253670:=()
def tw608213724191339626:=()
def tw17842165913518330788:=()
def tw13248724460714915600:=()
def tw14567303516671502158:=()
def tw607983579366788333:=()
def tw13552420497322842210:=()
def tw6912669332400886661:=()
def tw7176196255905089684:=()
def tw11150917565789597682:=()
def tw3352190705483961397:=()
def tw10389685298530311461:=()
def tw9517359009482409515:=()
def tw16156370371559358189:=()
def tw3818930857847909074:=()
def tw8041440491015707722:=()
def tw11426434507161930851:=()
def tw8796638343970991029:=()
def tw12644179589698717403:=()
def tw15431506038115667647:=()
def tw18308904022608281594:=()
def tw1697975698287877099:=()
def tw4701795280602284415:=()
def tw18042683905800924371:=()
def tw6423689205336612456:=()
def tw12176649025851632202:=()
def tw15822662772270292644:=()
def tw11900120166286570826:=()
def tw18361571652437357481:=()
def tw2707771640846419238:=()
def tw2319249510531780908:=()
def tw140856370956360991:=()
def tw14341389431262359519:=()
def tw1350405578960602528:=()
def tw8185278996264817107:=()
def tw9862096548749153871:=()
def tw2807029352091685211:=()
def tw12246497920518815528:=()
def tw11398340942412483933:=()
def tw3300791398881213001:=()
def tw7595827138315916505:=()
def tw9027318028965031732:=()
def tw14965944723318791798:=()
def tw17027662698395736706:=()
def tw11973698444925839126:=()
def tw13354223704721065870:=()
def tw16000922779499862036:=()
def tw17043731783875662431:=()
def tw533754324743636937:=()
def tw15541129289674184904:=()
def tw17982454870896764944:=()
def tw13049574218281331681:=()
def tw5186672111900169831:=()
def tw8994200121362142153:=()
def tw16815123052422829780:=()
def tw9192235011044133691:=()
def tw1159383736285310721:=()
def tw9171120475392119237:=()
def tw7758527081930074051:=()
def tw8659670445665930047:=()
def tw883286462084151332:=()
def tw2423712315256320409:=()
def tw12519131462406791405:=()
def tw3859486968526930931:=()
def tw3993652856567916146:=()
def tw11599555681821167380:=()
def tw14132176460873165761:=()
def tw8568652467597699053:=()
def tw4188629718330718852:=()
def tw3142999861702057156:=()
def tw7645392139605158958:=()
def tw13841007449761994346:=()
def tw16213591235741744526:=()
def tw16836632180904826883:=()
def tw12760285703242698867:=()
def tw6802793246610253669:=()
def tw2569222201865618062:=()
def tw12671890034416903490:=()
def tw11052705750446178962:=()
def tw18231956537441835255:=()
def tw6706567871515818157:=()
def tw11150112172112767256:=()
def tw3673133184497828355:=()
def tw10093640238625201391:=()
def tw5857473051076819086:=()
def tw7580083398494657096:=()
def tw11142082422785962854:=()
def tw4985306211216460212:=()
def tw16080608735670256545:=()
def tw2030416485692884922:=()
def tw1660674779666345218:=()
def tw11709483026059769676:=()
def tw5511500406349929468:=()
def tw736465122039335640:=()
def tw15288646710369558088:=()
def tw4614917108401472895:=()
def tw4729413322428374441:=()
def tw11098806808181993214:=()
def tw7500844287013273722:=()
def tw1838153494315992078:=()
def tw502693317741385879:=()
def tw1449131323363095395:=()
def tw16368951593040617999:=()
def tw11155390776762943887:=()
def tw8412725650872032519:=()
def tw9718836868504199348:=()
def tw6159467433802730923:=()
def tw8573247378246376588:=()
def tw5061493823839859289:=()
def tw11909558441535919207:=()
def tw618984213889937492:=()
def tw4301371184575598500:=()
def tw10114111486013378637:=()
def tw14407068044027710364:=()
def tw10790608080540690362:=()
def tw887343010346357375:=()
def tw11424012889804623035:=()
def tw18237488510858067615:=()
def tw11201900360935585045:=()
def tw1483199345959048840:=()
def tw3812778745686385113:=()
def tw12375633890403177345:=()
def tw18428516685284851023:=()
def tw5755669570617218731:=()
def tw6671694541256935088:=()
def tw9546278959475406223:=()
def tw14078240754942390522:=()
def tw1501811442034149407:=()
def tw7105840879485910524:=()
def tw10248177596521162674:=()
end PySem.W.Fast
open PySem PySem.W PyProof.Rows
set_option maxRecDepth 100000 in
set_option maxHeartbeats 0 in
theorem PySem.Challenge.cw_firstpowers_k36_papers_of_first_powers_b_holds : PySem.Challenge.rw_firstpowers_k36_papers_of_first_powers_b.Holds := by
  w_on; o_law; k_head; (case hw => w_witness2)
  k_fill
  refine L2.Mf (l := PySem.Challenge.rw_firstpowers_k36_papers_of_first_powers_b) (k := 10) (x := "_law_script") rfl rfl ⟨rfl, by decide, by decide, rfl⟩ (fun w h Y => PySem.W.km_in_of Y) ?B ?F
  case B => intro w; kernel_rfl
  case F =>
    intro w mg fa h KX G hmg
    refine' My.As KX G hmg ?d0 ?d1 ?d2 ?d3 ?d4 ?d5 ?d6 ?d7 ?d8 ?d9 ?d10 ?d11 ?d12 ?d13 ?d14 ?d15 ?d16 ?d17 ?d18 ?d19 ?d20 ?d21 ?d22 ?d23 ?d24 ?d25 ?d26 ?d27 ?d28 ?d29 ?d30 ?d31 ?d32 ?d33 ?d34 ?d35 ?d36 ?d37 ?d38 ?d39 ?d40 ?d41 ?v0 ?z ?ex ?tb0
    case d0 | d1 | d2 | d3 | d4 | d5 | d6 | d7 | d8 | d9 | d10 | d11 | d12 | d13 | d14 | d15 | d16 | d17 | d18 | d19 | d20 | d21 | d22 | d23 | d24 | d25 | d26 | d27 | d28 | d29 | d30 | d31 | d32 | d33 | d34 | d35 | d36 | d37 | d38 | d39 | d40 | d41 => refine' L2.Ai ?a ?l ?c ?k; (case a => k_is); (case l => k_is); (case c => k_is); (case k => k_is)
    case v0 => k_is
    case z | ex | tb0 => kernel_rfl
